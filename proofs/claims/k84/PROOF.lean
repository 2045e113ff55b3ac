import PyProof.Rows.All
import Wide.All
import OpenK.AllK
import Wide.FinOn
import Lean
import PyProof.EqAt
import PyProof.EqKinds
import PyProof.TupleCall
import PySem.Challenge.RW_ringheaps_k84_whole_worths_kept
set_option Elab.async false
set_option linter.all false
set_option maxRecDepth 100000
open PySem renaming wpAny_bind → zdO, wpAny_pure → zdP, FuncData → zdQ, sizeLine → zdR
open PySem.Str renaming ofString → zdN
open PySem.W renaming Frag → zdM
open Array renaming getElem?_eq_some_iff → zaa, length_toList → zaz, getElem?_eq_getElem → zbl, getElem?_eq_none → zck, toList_append → zdr
open Bool renaming false_ne_true → tI, and_eq_true → zan, eq_iff_iff → zaq, false_eq_true → zaO, false_and → zcA, or_eq_true → zde
open Int renaming toNat_natCast → zaj, emod_lt_of_pos → zbx, natCast_nonneg → zbI, zero_add → zbL, emod_nonneg → zbQ, fdiv_eq_ediv_of_nonneg → zbU, one_mul → zdJ
open List renaming length_map → ta, mem_map → tc, getElem?_eq_some_iff → td, map_append → tj, getElem?_eq_getElem → tr, take_of_length_le → tu, length_append → tv, getElem?_map → tw, take_add_one → tz, length_take → tE, mem_cons_of_mem → tG, mem_singleton → tK, mem_cons → tL, map_cons → tM, mem_append → tN, mem_cons_self → tO, mem_of_getElem? → tP, range → tQ, mem_append_right → tU, mem_append_left → tV, getElem?_append_right → tY, mem_filter → tZ, size_toArray → t7, getElem?_append_left → t9, length_cons → zab, filterMap_cons → zad, length_range → zaf, nodup_cons → zah, mem_range → zai, append_nil → zak, length_filterMap_le → zal, map_map → zam, filter_sublist → zao, map_congr_left → zap, length_singleton → zar, length_filter_le → zas, idxOf_lt_length_of_mem → zau, length → zav, filterMap_append → zax, filter_append → zay, lookup_cons → zaA, not_mem_nil → zaB, mem_filterMap → zaC, getD_eq_getElem?_getD → zaE, sum_cons → zaH, pairwise_iff_getElem → zaJ, getElem?_of_mem → zaP, find?_cons → zaR, any_eq_true → zaS, all_eq_true → zaT, toArray → zaU, length_pos_of_mem → zaW, eq_nil_of_length_eq_zero → zaX, lookup → zaZ, mem_nil_iff → zbb, pairwise_singleton → zbc, filter_cons → zbe, nodup_nil → zbh, nodup_append → zbi, pairwise_map → zbk, getElem?_eq_none → zbm, nodup_range → zbo, getElem?_take_of_lt → zbp, mem_erase_of_ne → zbq, getElem?_range → zbt, sum_append → zby, filter_congr → zbA, append_assoc → zbB, length_erase_of_mem → zbC, getElem_mem → zbH, append_of_mem → zbM, find?_eq_none → zbN, foldl_append → zbT, mem_of_mem_take → zbW, map_nil → zbX, length_reverse → zbZ, range_succ → zcg, getElem_idxOf → zch, all_map → zcj, any_cons → zcp, length_nil → zcr, foldl_cons → zcu, cons → zcz, contains_cons → zcD, exists_cons_of_ne_nil → zcF, getElem?_take → zcG, getElem?_eq_none_iff → zcH, mem_of_find?_eq_some → zcI, ext_getElem? → zcM, find?_append → zcN, all_cons → zcP, cons_append → zcR, mem_reverse → zcV, getElem?_set_self → zcW, filter_eq_nil_iff → zdb, of_mem_zip → zdd, all_append → zdf, length_replicate → zdg, pairwise_reverse → zdh, filterMap_eq_map → zdi, getElem?_set_ne → zdj, replicate → zdl, pairwise_append → zdn, perm_cons_erase → zdo, findIdx_append → zdq, length_pos_iff → zds, Pairwise → zdt, pairwise_cons → zdw, take_sublist → zdA, reverse_cons → zdB, getElem?_inj → zdF, range' → zdI
open Nat renaming le_refl → tf, lt_of_lt_of_le → tF, le_trans → tR, ne_of_lt → tS, le_of_lt → zac, zero_le → zat, lt_irrefl → zaF, xor_assoc → zaG, lt_of_le_of_lt → zaK, xor_self → zaV, lt_trichotomy → zaY, lt_succ_self → zba, eq_of_testBit_eq → zbd, xor_zero → zbj, ne_of_gt → zbz, testBit_succ → zbG, sub_self → zbO, testBit_xor → zbP, mul_le_mul → zbV, lt_or_ge → zbY, not_lt_zero → zcf, lt_succ_of_lt → zci, lt_of_succ_lt → zcl, min_le_right → zcn, testBit_zero → zco, strongRecOn → zct, zero_xor → zcx, xor_comm → zcy, mod_two_eq_zero_or_one → zcE, le_succ → zcK, succ → zcT, le_of_eq → zcX, testBit_lt_two_pow → zda, pow_le_pow_right → zdm, add_le_add_left → zdp, xor_lt_two_pow → zdu, pos_of_ne_zero → zdv, lt_trans → zdC, zero_add → zdD, succ_mul → zdE
open Option renaming some → tA, map_eq_some_iff → zbJ, map_some → zce, isSome_map → zcL, isSome_iff_exists → zcO, getD_none → zdH
open PySem.F renaming plainAttrs_list → zaI, slot_list_append → zbD, type_list_append → zbE, plainAttrs_dict → zbF, slot_list_extend → zcb, type_list_extend → zcc, slot_dict_get → zcm, slot_dict_setdefault → zcs, excBase_ValueError → zcC, slot_dict_update → zcQ, args_dict_get_2 → zcS, slot_dict_items → zcU, entry_dict_get → zcZ
open PySem.Heap renaming get?_push_of_some → tm, lt_size → tH, get?_push_size → tJ, get?_update_other → zag, get?_update_self → zaw, size_push → zbf, SameBut → zbK, get?_none_of_le → zcq
open PySem.W renaming findIn → tX, nsIn → t8, mg_none_of → zae, keepIn → zaD, mg_of → zaL, emptyDict → zaM, kitOne → zaN, kia_one → zaQ, fnOf → zbg, callWith_K → zbn, hasDictIn → zbr, instObj → zbs, isFn → zbu, plainGet → zbv, codeIn → zbw, methodCall_KW → zbR, plainOver → zbS, mroIn → zca, makesIn → zcd, plainGet_of → zcv, callWith_K0 → zcw, lookIn → zcB, methodObj → zcJ, cellsFrom_some → zcY, takerIn → zdc, looks_findIn → zdk, specialIn → zdx, kitx_list → zdy, kitx_dict → zdz, handedIn → zdG, takesIn → zdK, typeIn → zdL
namespace L2
open PySem PySem.Spec
open PyProof.Rows hiding K lo
abbrev qF:=Sum Int Str
def YD:qF->Value->Bool
 | .inl k,v=>Value.isInt k v
 | .inr x,v=>Value.isStrOf x v
def Iz(w:World):qF->Int
 | .inl k=>hashInt k
 | .inr x=>hashStr w x
def jA:∀{k:qF} {v:Value},YD k v=true->(∃i t,k=Sum.inl i/\v=Value.int i t)\/(∃x t,k=Sum.inr x/\v=Value.str x t)
 | .inl i,v,h=>by
  obtain⟨t,e⟩:=Value.isInt_shape (k:=i) (v:=v) h;exact .inl ⟨i,t,rfl,e⟩
 | .inr x,v,h=>by
  obtain⟨t,e⟩:=Value.isStrOf_shape (x:=x) (v:=v) h;exact .inr ⟨x,t,rfl,e⟩
def wO(i:Int)(t:Tok):YD (.inl i) (.int i t)=true:=by simp [YD,Value.isInt]
def wM(x:Str)(t:Tok):YD (.inr x) (.str x t)=true:=by simp [YD,Value.isStrOf]
def Do(a b:Int):decide ((Sum.inl a:qF)=Sum.inl b)=(a==b):=by
 by_cases e:a=b
 ·subst e;simp
 ·have h:¬(Sum.inl a:qF)=Sum.inl b:=λq=>e (Sum.inl.inj q);rw[decide_eq_false h];exact(beq_eq_false_iff_ne.mpr e).symm
def Dl(a b:Str):decide ((Sum.inr a:qF)=Sum.inr b)=decide (a=b):=by
 by_cases e:a=b
 ·subst e;simp
 ·have h:¬(Sum.inr a:qF)=Sum.inr b:=λq=>e (Sum.inr.inj q);rw[decide_eq_false h,decide_eq_false e]
def Dn(a:Int)(b:Str):decide ((Sum.inl a:qF)=Sum.inr b)=false:=decide_eq_false (λq=>nomatch q)
def Dm(a:Str)(b:Int):decide ((Sum.inr a:qF)=Sum.inl b)=false:=decide_eq_false (λq=>nomatch q)
def qZ(prog:Program)(w:World):PySem.KeyKind prog w qF where
 is:=YD
 hash:=Iz w
 inj:=λv a b d l=>by
  rcases jA d with ⟨i,t,rfl,rfl⟩ | ⟨x,t,rfl,rfl⟩
  ·rcases jA l with ⟨j,u,rfl,e⟩ | ⟨y,u,rfl,e⟩
   ·injection e with d _;rw[d]
   ·exact nomatch e
  ·rcases jA l with ⟨j,u,rfl,e⟩ | ⟨y,u,rfl,e⟩
   ·exact nomatch e
   ·injection e with d _;rw[d]
 byValue:=λk v h=>by
  rcases jA h with ⟨i,t,rfl,rfl⟩ | ⟨x,t,rfl,rfl⟩<;>rfl
 pyHash:=λl h=>by
  rcases jA l with ⟨i,t,rfl,rfl⟩ | ⟨x,t,rfl,rfl⟩
  ·exact wpAny_pyHash_int h
  ·exact wpAny_pyHash_str h
 eqBool:=λhu l h=>by
  rcases jA hu with ⟨i,t,rfl,rfl⟩ | ⟨x,t,rfl,rfl⟩
  ·rcases jA l with ⟨j,u,rfl,rfl⟩ | ⟨y,u,rfl,rfl⟩
   ·rw[Do]at h;exact wpAny_eqBool_int h
   ·rw[Dn]at h;exact SeqAt.EqAt.int_str i t y u _ _ _ _ h
  ·rcases jA l with ⟨j,u,rfl,rfl⟩ | ⟨y,u,rfl,rfl⟩
   ·rw[Dm]at h;exact SeqAt.EqAt.str_int x t j u _ _ _ _ h
   ·rw[Dl]at h;exact wpAny_eqBool_str h
 «strs»:=λk x t v h=>by
  rcases jA h with ⟨i,u,rfl,e⟩ | ⟨y,u,rfl,e⟩
  ·exact nomatch e
  ·injection e with d _;subst d;cases v<;>rfl
def vd(prog:Program)(w:World)(i:Int)(t:Tok):(qZ prog w).is (.inl i) (.int i t)=true:=wO i t
def vc(prog:Program)(w:World)(x:Str)(t:Tok):(qZ prog w).is (.inr x) (.str x t)=true:=wM x t
open PyProof.Rows hiding K lo
inductive V where
 | non | bl (b:Bool) | int (i:Int) | str (x:Str) | byt (b:Array UInt8) | flt (b:UInt64) | ref (a:Addr) | ty (n:String)
 deriving DecidableEq
def qR:V->Value->Prop
 | .non,u=>u=Value.none
 | .bl b,u=>u=Value.bool b
 | .int i,u=>∃t,u=Value.int i t
 | .str x,u=>∃t,u=Value.str x t
 | .byt b,u=>∃t,u=Value.bytes b t
 | .flt b,u=>∃t,u=Value.float b t
 | .ref a,u=>u=Value.ref a
 | .ty n,u=>u=Value.type n
abbrev qK:List V->List Value->Prop:=Paired qR
def qK.length(r:qK xs us):xs.length=us.length:=Paired.length r
def qK.get:∀{xs:List V} {us:List Value} {i:Nat} {x:V},qK xs us->xs[i]?=some x->∃u,us[i]?=some u/\qR x u
 | _,_,_,_,.nil,e=>by simp at e
 | _,_,0,_,.cons a _,e=>by simp at e;subst e;exact⟨_,rfl,a⟩
 | _,_,i+1,x,.cons _ t,e=>by
  obtain⟨u,a,b⟩:=qK.get (i:=i) (x:=x) t (by simpa using e);exact⟨u,by simpa using a,b⟩
def qK.append:∀{xs ys:List V} {us a:List Value},qK xs us->qK ys a->qK (xs++ys) (us++a)
 | _,_,_,_,.nil,s=>s
 | _,_,_,_,.cons a t,s=>.cons a (qK.append t s)
def qK.take:∀{xs:List V} {us:List Value} (n:Nat),qK xs us->qK (xs.take n) (us.take n)
 | _,_,0,_=>.nil
 | _,_,_+1,.nil=>.nil
 | _,_,n+1,.cons a t=>.cons a (qK.take n t)
def qK.drop:∀{xs:List V} {us:List Value} (n:Nat),qK xs us->qK (xs.drop n) (us.drop n)
 | _,_,0,a=>a
 | _,_,_+1,.nil=>.nil
 | _,_,n+1,.cons _ t=>qK.drop n t
def qK.none_of:∀{xs:List V} {us:List Value} {i:Nat},qK xs us->xs[i]?=none->us[i]?=none:=λ{xs us i} a e=>by
 have b:=a.length;have a:xs.length<=i:=zcH.mp e;exact zcH.mpr (by omega)
def Zq:Option V->Option Value->Prop
 | some v,some u=>qR v u
 | none,none=>True
 | _,_=>False
def KV:List (κ×V)->List (κ×Value)->Prop:=Paired λ(a:κ×V) (q:κ×Value)=>a.1=q.1/\qR a.2 q.2
def kV:qF->V
 | .inl i=>.int i
 | .inr x=>.str x
inductive HO where
 | lst (xs:List V)
 | tup (xs:List V)
 | dK (kvs:List (qF×V)) | dT (kvs:List (List qF×V))
 | set (S:Int->Bool) (n:Nat)
 | ins (C dx:Addr) (fs:List (Str×V))
 | own (x:Addr)
 | xd (fs:List (Str×V))
 | met (f x:Addr)
 | rng (lo hi:Int)
 | frz (o:Obj) (u:HO)
 | tbl (ps:Array Value)
 | ext (φ:Heap->Prop)
abbrev Hp:=Addr->Option HO
def upd(H:Hp)(a:Addr)(o:HO):Hp:=λb=>if b=a then some o else H b
def qa:upd H a o a=some o:=by unfold upd;rw[if_pos rfl]
def qc(h:b≠a):upd H a o b=H b:=by unfold upd;rw[if_neg h]
def jx:upd (upd H a o) a u=upd H a u:=by
 funext b;unfold upd;split<;>rfl
def BN{H:Hp}(h:H a=some o)(h':H b=some u)(d:o≠u):a≠b:=by
 intro e;subst e;rw[h]at h';exact d (tA.inj h')
def qj{H:Hp}(h:H a=some o)(h':H b=none):a≠b:=by
 intro e;subst e;rw[h]at h';cases h'
inductive F6(ps:Array Value)(oc:Obj):Prop
 | mk (q:Str) (t:Tok) (vs:Array Value) (t':Tok):ps[0]?=some (.str q t)->oc.data=.fields vs->vs[1]?=some (.str q t')->F6 ps oc
section
variable(P:Program)(w:World)
def qI(H:Hp)(h:Heap)(a:Addr):HO->Prop
 | .lst xs=>xs.length<=zdR/\∃(e7:List Value) (n:Nat),qK xs e7/\h.get? a=some {cls:=.type "list",data:=.seq e7.toArray n}
 | .tup xs=>xs.length<=zdR/\∃e7:List Value,qK xs e7/\IsTup h a e7.toArray
 | .dK kvs=>kvs.length<=zdR/\(a==sysModules)=false/\∃vs,KV kvs vs/\h.DictOf (qZ P w) a vs
 | .dT kvs=>kvs.length<=zdR/\(a==sysModules)=false/\∃xs:List (List qF×Addr×Value),
  Paired (λ(p:List qF×V) (q:List qF×Addr×Value)=>p.1=q.1/\H q.2.1=some (.tup (p.1.map kV))/\qR p.2 q.2.2) kvs xs/\
  ∃o es ep,h.get? a=some o/\o.ExactDict/\o.data=.dict es ep/\es.toList=xs.map (entryOfKey (tupleKind (qZ P w)))/\(xs.map (·.1)).Nodup
 | .set S n=>h.SetOf (intKind P w) a S n
 | .ins C dx fs=>H dx=some (.own a)/\fs.length<=1000/\dx≠a/\h.get? a=some (zbs C dx)/\
  ∃mA,h.Ns1 dx mA/\(∀f,Zq (fs.lookup f) (mA f))/\PySem.Within mA (fs.map (·.1))
 | .own _=>∃o,h.get? a=some o
 | .xd fs=>∃mA,h.Ns1 a mA/\∀f,Zq (fs.lookup f) (mA f)
 | .rng lo hi=>∃t u v,h.get? a=some {cls:=.type "range",data:=.fields #[.int lo t,.int hi u,.int 1 v]}
 | .frz o u=>h.get? a=some o/\qI H h a u
 | .tbl ps=>∃ts:Array Value,h.get? a=some {cls:=.none,data:=.fields ts}/\TriplesOk ts.toList/\∀pos cv,codeAmong pos ts.toList=some cv->∃c oc,cv=.ref c/\H c=some (.frz oc (.own a))/\F6 ps oc
 | .met f x=>h.get? a=some (zcJ (.ref f) (.ref x))
 | .ext φ=>φ h/\(∃o,h.get? a=some o)/\∀h1 h2:Heap,φ h1->(∀o,h1.get? a=some o->h2.get? a=some o)->φ h2
def Zd(H:Hp)(h:Heap):Prop:=∀a b,H a=some b->qI P w H h a b
end
def qI.lt(x:qI P w H h a o):a < h.objs.size:=by
 cases o with
 | lst b=>obtain⟨_,_,_,_,e⟩:=x;exact tH e
 | tup b=>obtain⟨_,_,_,d⟩:=x;exact d.lt
 | dK kvs=>obtain⟨_,_,_,_,o,_,_,e,_⟩:=x;exact tH e
 | dT kvs=>obtain⟨_,_,_,_,o,_,_,e,_⟩:=x;exact tH e
 | set S n=>obtain⟨o,_,_,_,e,_⟩:=x;exact tH e
 | ins b d fs=>obtain⟨_,_,_,e,_⟩:=x;exact tH e
 | own y=>obtain⟨_,e⟩:=x;exact tH e
 | xd fs=>obtain⟨_,⟨_,_,_,e,_⟩,_⟩:=x;exact tH e
 | rng lo b=>obtain⟨_,_,_,e⟩:=x;exact tH e
 | frz b u=>obtain⟨e,_⟩:=x;exact tH e
 | tbl b=>obtain⟨_,e,_⟩:=x;exact tH e
 | met f y=>exact tH (show h.get? a=some _ from x)
 | ext b=>obtain⟨_,⟨_,e⟩,_⟩:=x;exact tH e
def Paired.mapP{G:α->β->Prop}:∀{d:List α} {e:List β},Paired F d e->(∀a b,F a b->G a b)->Paired G d e
 | _,_,.nil,_=>.nil
 | _,_,.cons d t,f=>.cons (f _ _ d) (Paired.mapP t f)
def qI.stay{H':Hp}{h':Heap}(x:qI P w H h a o)(k:∀b u,(b=a\/H b=some (.own a))->h.get? b=some u->h'.get? b=some u)(D:∀b,H b=some (.own a)->H' b=some (.own a))(p:∀b xs,H b=some (.tup xs)->H' b=some (.tup xs))(J:∀b o,H b=some (.frz o (.own a))->H' b=some (.frz o (.own a)):=by exact λ_ _ q=>q):qI P w H' h' a o:=by
 induction o with
 | lst xs=>obtain⟨z,l,n,i,e⟩:=x;exact⟨z,l,n,i,k _ _ (.inl rfl) e⟩
 | tup xs=>obtain⟨z,l,i,j,e,c⟩:=x;exact⟨z,l,i,j,k _ _ (.inl rfl) e,c⟩
 | dK kvs=>obtain⟨z,y,r,i,j,l,m,e,c⟩:=x;exact⟨z,y,r,i,j,l,m,k _ _ (.inl rfl) e,c⟩
 | dT kvs=>
  obtain⟨z,y,xs,i,j,l,m,e,c⟩:=x;exact⟨z,y,xs,Paired.mapP i λC q z=>⟨z.1,p _ _ z.2.1,z.2.2⟩,j,l,m,k _ _ (.inl rfl) e,c⟩
 | set S n=>obtain⟨j,l,m,t,e,c⟩:=x;exact⟨j,l,m,t,k _ _ (.inl rfl) e,c⟩
 | ins p r fs=>
  obtain⟨d,z,ne,e,p,⟨r,l,m,B,c⟩,i⟩:=x;exact⟨D _ d,z,ne,k _ _ (.inl rfl) e,p,⟨r,l,m,k _ _ (.inr d) B,c⟩,i⟩
 | own y=>obtain⟨j,e⟩:=x;exact⟨j,k _ _ (.inl rfl) e⟩
 | xd fs=>obtain⟨p,⟨r,l,m,e,c⟩,i⟩:=x;exact⟨p,⟨r,l,m,k _ _ (.inl rfl) e,c⟩,i⟩
 | rng lo i=>obtain⟨t,u,v,e⟩:=x;exact⟨t,u,v,k _ _ (.inl rfl) e⟩
 | frz j u i=>obtain⟨e,q⟩:=x;exact⟨k _ _ (.inl rfl) e,i q⟩
 | tbl i=>
  obtain⟨i,e,j,l⟩:=x;exact⟨i,k a _ (.inl rfl) e,j,λpos j q=>let ⟨c,i,m,B,p⟩:=l pos j q;⟨c,i,m,J c i B,p⟩⟩
 | met f y=>
  have e:h.get? a=some (zcJ (.ref f) (.ref y)):=x;show h'.get? a=some (zcJ (.ref f) (.ref y));exact k a _ (.inl rfl) e
 | ext i=>obtain⟨C,⟨o,e⟩,st⟩:=x;exact⟨st _ _ C λo q=>k _ _ (.inl rfl) q,⟨o,k _ _ (.inl rfl) e⟩,st⟩
def Zd.lt(x:Zd P w H h)(e:H a=some o):a < h.objs.size:=(x a o e).lt
def Zd.fresh(x:Zd P w H h)(e:h.objs.size<=a):H a=none:=by
 cases q:H a with
 | none=>rfl
 | some u=>exact absurd (tF (x.lt q) e) (zaF _)
def Zd.kept{h':Heap}(x:Zd P w H h)(k:∀b u,h.get? b=some u->h'.get? b=some u):Zd P w H h':=λa d e=>
 (x a d e).stay (λb u _ q=>k b u q) (λ_ q=>q) λ_ _ q=>q
def Zd.laid{h':Heap}(x:Zd P w H h)(k:∀b u,h.get? b=some u->h'.get? b=some u)(hp:h.objs.size<=a)(new:qI P w (upd H a o) h' a o):Zd P w (upd H a o) h':=λb u e=>by
 have d:=x.fresh hp;by_cases i:b=a
 ·subst i;rw[qa]at e;cases e;exact new
 ·rw[qc i]at e;exact(x b u e).stay (λc v _ q=>k c v q) (λc q=>by rw[qc (qj q d)];exact q) (λc _ q=>by rw[qc (qj q d)];exact q) (λc o q=>by rw[qc (qj q d)];exact q)
def Rd(H:Hp)(a:Addr)(u:HO):Prop:=H a=some u\/∃b,H a=some (.frz b u)
def Rd.ok(r:Rd H a u)(x:Zd P w H h):qI P w H h a u:=by
 rcases r with r | ⟨b,r⟩
 ·exact x a u r
 ·obtain⟨_,q⟩:=x a _ r;exact q
def B8:Option HO->Prop
 | some (.lst _)=>True
 | some (.dK _)=>True
 | some (.dT _)=>True
 | some (.set _ _)=>True
 | some (.ins _ _ _)=>True
 | some (.ext _)=>True
 | _=>False
def Zd.write{h':Heap}(ok:Zd P w H h)(d:B8 (H x))(o:e=x\/H e=some (.own x))(k:∀b u,b≠e->h.get? b=some u->h'.get? b=some u)(r:∃u,h'.get? e=some u)(new:qI P w (upd H x o') h' x o'):Zd P w (upd H x o') h':=λb u q=>by
 have p:∀c y,H c=some (.own y)->c≠x:=λc y a z=>by subst z;rw[a]at d;exact d
 have B:∀c i,H c=some (.tup i)->c≠x:=λc i a z=>by subst z;rw[a]at d;exact d
 by_cases j:b=x
 ·subst j;rw[qa]at q;cases q;exact new
 ·rw[qc j]at q;by_cases l:b=e
  ·have m:H b=some (.own x):=by
    rcases o with z | z
    ·exact absurd (l.trans z) j
    ·rw[l];exact z
   rw[q]at m;cases m;obtain⟨v,m⟩:=r;exact⟨v,by rw[l];exact m⟩
  ·refine(ok b u q).stay (λc v m a=>k c v ?_ a) (λc a=>by rw[qc (p c b a)];exact a) (λc i a=>by rw[qc (B c i a)];exact a) (λc _ a=>by rw[qc (λz=>by subst z;rw[a]at d;exact d)];exact a);rcases m with rfl | m
   ·exact l
   ·rintro rfl;rcases o with z | z
    ·exact p c b m z
    ·rw[m]at z;cases z;exact j rfl
structure Un(fs ex:List Addr)(H H':Hp)(h h':Heap):Prop where
 keep:∀b o,h.get? b=some o->H b=none->b∉fs->b∉ex->h'.get? b=some o
 slot:∀b o,h.get? b=some o->H b=none->b∈fs->b∉ex->∃sl,h'.get? b=some {o with slots:=sl}
 free:∀b o,h.get? b=some o->H b=none->b∉ex->H' b=none
 there:∀b o,h.get? b=some o->b∉ex->∃o',h'.get? b=some o'
 tups:∀b xs,H b=some (.tup xs)->H' b=some (.tup xs)
 frzs:∀b o u,H b=some (.frz o u)->H' b=some (.frz o u)
 tbls:∀b ps,H b=some (.tbl ps)->∃more,H' b=some (.tbl (ps++more))
def Un.any(u:Un fs ex H j h e)(q:h.get? b=some a)(n:H b=none)(d:b∉ex):∃i,e.get? b=some {a with slots:=i}:=by
 by_cases e:b∈fs
 ·exact u.slot b a q n e d
 ·exact⟨a.slots,u.keep b a q n e d⟩
def Un.kept{h:Heap}{h':Heap}(k:∀b u,h.get? b=some u->h'.get? b=some u):Un fs ex H H h h':=
 ⟨λb a q _ _ _=>k b a q,λb a q _ _ _=>⟨a.slots,k b a q⟩,λ_ _ _ n _=>n,λb a q _=>⟨a,k b a q⟩,λ_ _ q=>q,λ_ _ _ q=>q,λ_ _ q=>⟨#[],by rw[q];simp⟩⟩
def Un.refl:Un fs ex H H h h:=Un.kept λ_ _ q=>q
def Un.laid{H:Hp}{h:Heap}{h':Heap}(k:∀b u,h.get? b=some u->h'.get? b=some u)(hp:h.objs.size<=a)(d:H a=none):Un fs ex H (upd H a o) h h' where
 keep:=λb u q _ _ _=>k b u q
 slot:=λb u q _ _ _=>⟨u.slots,k b u q⟩
 free:=λb u q n _=>by rw[qc (tS (tF (tH q) hp))];exact n
 there:=λb u q _=>⟨u,k b u q⟩
 tups:=λb e q=>by rw[qc (qj q d)];exact q
 frzs:=λb u e q=>by rw[qc (qj q d)];exact q
 tbls:=λb _ q=>⟨#[],by rw[qc (qj q d),q];simp⟩
def Un.write{H:Hp}{h:Heap}{h':Heap}(a:B8 (H x))(p:e=x\/H e=some (.own x))(k:∀b u,b≠e->h.get? b=some u->h'.get? b=some u)(r:∃u,h'.get? e=some u):Un fs ex H (upd H x o) h h':=by
 have j:∀b,H b=none->b≠x:=λb n z=>by subst z;rw[n]at a;exact a
 have l:∀b,H b=none->b≠e:=λb n z=>by
  subst z;rcases p with d | d
  ·exact j b n d
  ·rw[n]at d;cases d
 have i:∀b u,H b=some u->¬B8 (some u)->b≠x:=λb u q v z=>by subst z;rw[q]at a;exact v a
 refine⟨λb u q n _ _=>k b u (l b n) q,λb u q n _ _=>⟨u.slots,k b u (l b n) q⟩,λb u q n _=>by rw[qc (j b n)];exact n,λb u q _=>?_,
  λb a q=>by rw[qc (i b _ q λz=>z)];exact q,λb u a q=>by rw[qc (i b _ q λz=>z)];exact q,λb _ q=>⟨#[],by rw[qc (i b _ q λz=>z),q];simp⟩⟩
 by_cases m:b=e
 ·subst m;exact r
 ·exact⟨u,k b u m q⟩
def F9(h:Heap)(H:Hp):List Addr:=(tQ h.objs.size).filter λa=>(H a).isSome
def V2(h:Heap)(H:Hp):Heap:=PySem.W.hideAll h (F9 h H)
def wX(h:Heap)(H:Hp):(V2 h H).objs.size=h.objs.size:=PySem.W.hideAll_size _ _
def RW{h:Heap}{H:Hp}(e:h.get? b=some o)(n:H b=none):(V2 h H).get? b=some o:=
 PySem.W.hideAll_get _ e λa=>by
  have q:(H b).isSome=true:=(tZ.mp a).2;rw[n]at q;simp at q
def M9(e:(V2 h H).get? b=some o):h.get? b=some o/\H b=none:=by
 have a:h.get? b=some o:=PySem.W.of_hideAll (F9 h H) e;refine⟨a,?_⟩;cases q:H b with
 | none=>rfl
 | some x=>
  have d:b∈F9 h H:=tZ.mpr ⟨zai.mpr (tH a),by simp [q]⟩;have z:(V2 h H).get? b=none:=PySem.W.hideAll_none (F9 h H) d;rw[z]at e;cases e
open PyProof.Rows hiding K lo
structure Mod(K:zdM)(mg:Str->Option Value)(base:Heap):Prop where
 kin:K.In base
 glob:base.Ns mainGlobals mg
 blt:∃mb,base.Ns builtinsNs mb/\∀x:Str,x≠"__name__"->mb x=bootBuiltins x
 nolimit:base.NoLimit
structure Cx where
 prog:Program
 w:World
 K:zdM
 mg:Str->Option Value
 base:Heap
 A:Around
 N:List Str
 s₀:Shared
 H₀:Hp
 env:Env
 outer:List Env
 stack:List Env
 ex:List Addr
 fn:Str->Bool
 calm:Bool
 pn:List (Addr×Obj)
 xe:Value->Shared->Prop
def YH(l:List Env):List Addr:=l.filterMap (·.frame)
abbrev Cx.fs(X:Cx):List Addr:=YH X.outer
def D1(a:Scope)(x:Str):Prop:=a.names.lookup x=some .local\/a.names.lookup x=some .cell\/a.names.lookup x=some .free
def NI(a:Scope)(x:Str):Prop:=a.names.lookup x=some .local\/a.names.lookup x=some .cell
def II(env:Env)(h:Heap)(m:Str->Option Value)(x:Str)(u:Value):Prop:=
 (env.kindOf x=some .local/\m x=some u)\/((env.kindOf x=some .cell\/env.kindOf x=some .free)/\∃c,env.cells.lookup x=some c/\h.IsCell c (some u))
structure Cx.Ok(X:Cx):Prop where
 mod:Mod X.K X.mg X.base
 kind:X.env.scope.kind=.function
 glob:X.env.globals=mainGlobals
 blt:X.env.builtins=builtinsNs
 above:X.s₀.heap.objs.size<=X.env.locals
 inj:∀x y c,X.env.cells.lookup x=some c->X.env.cells.lookup y=some c->x=y
 has:∀x,(X.env.kindOf x=some .cell\/X.env.kindOf x=some .free)->∃c,X.env.cells.lookup x=some c
 cab:∀x c,X.fn x=true->X.env.cells.lookup x=some c->X.s₀.heap.objs.size<=c
 hd:X.calm=true->X.A.handled=none
 frames:X.A.frames=some X.stack
 stk:X.stack=X.outer\/(X.stack=X.env::X.outer/\X.env.frame=some X.env.locals)
 exf:∀b∈X.ex,b≠X.env.locals/\∀x c,X.env.cells.lookup x=some c->c≠b
 bs:∀b o,X.base.get? b=some o->X.s₀.heap.get? b=some o/\X.H₀ b=none
 bsz:X.base.objs.size<=X.s₀.heap.objs.size
 noex:∀b o,X.base.get? b=some o->b∉X.ex
 exfs:∀b∈X.ex,b∉X.fs
 funs:X.s₀.heap.FunFrames X.base X.outer
 frf:∀b∈X.fs,X.H₀ b=none
structure qv(X:Cx)(el:List (Addr×Obj))(σ:List (Option V))(H:Hp)(s:Shared):Prop where
 ok:X.Ok
 os:s.os=X.s₀.os
 bare:AllBare s.gens
 base:Un X.fs X.ex X.H₀ H X.s₀.heap s.heap
 loc:∃m,s.heap.Ns X.env.locals m/\∀(i:Nat) (x:Str) (v:V),X.N[i]?=some x->σ[i]?=some (some v)->D1 X.env.scope x->∃u,qR v u/\II X.env s.heap m x u
 cell:∀x c,X.env.cells.lookup x=some c->∃v,s.heap.IsCell c v
 free:H X.env.locals=none
 freeC:∀x c,X.env.cells.lookup x=some c->H c=none\/(X.fn x=false/\∃o,H c=some (.frz o (.frz o (.own 0))))
 pin:∀p∈X.pn++el,s.heap.get? p.1=some p.2/\H p.1=none/\p.1≠X.env.locals/\p.1∉X.fs/\∀v,p.2.data≠.cell v
 hok:Zd X.prog X.w H s.heap
 len:σ.length=X.N.length
def Cx.Ok.nofr{X:Cx}(ok:X.Ok)(e:X.base.get? b=some o):b∉X.fs:=λa=>by
 have:=(ok.funs.mem a).1;rw[e]at this;cases this
def qv.bs(I:qv X a d H s):∀b o,X.base.get? b=some o->s.heap.get? b=some o/\H b=none:=λb o e=>
 ⟨I.base.keep b o (I.ok.bs b o e).1 (I.ok.bs b o e).2 (I.ok.nofr e) (I.ok.noex b o e),I.base.free b o (I.ok.bs b o e).1 (I.ok.bs b o e).2 (I.ok.noex b o e)⟩
def qv.bk(I:qv X a d H s):∀b o,X.base.get? b=some o->s.heap.get? b=some o:=λb o e=>(I.bs b o e).1
def qv.mod(I:qv X a b H s):Mod X.K X.mg X.base:=I.ok.mod
def qv.kIn(I:qv X a b H s):X.K.In s.heap:=I.ok.mod.kin.keeps I.bk
def qv.lt(I:qv X b d H s):X.env.locals < s.heap.objs.size:=let ⟨_,a,_⟩:=I.loc;a.lt
def qv.sz(I:qv X a b H s):X.s₀.heap.objs.size<=s.heap.objs.size:=tR I.ok.above (zac I.lt)
def qv.nofs(I:qv X d e H s)(h:s.heap.objs.size<=a):a∉X.fs:=λb=>by
 obtain⟨_,_,d,_⟩:=I.ok.funs.mem b;exact absurd (tF (tH d) (tR I.sz h)) (zaF _)
def qv.cne(I:qv X a b H s):∀x c,X.env.cells.lookup x=some c->c≠X.env.locals:=λx c e z=>by
 obtain⟨v,_,a,hd⟩:=I.cell x c e;obtain⟨m,⟨_,_,_,b,d,_⟩,_⟩:=I.loc;rw[z,b]at a;cases a;rw[d]at hd;cases hd
def qv.funs(I:qv X a d H s):s.heap.FunFrames X.base X.outer:=by
 have all:∀(a:List Env),(∀b∈YH a,b∈X.fs)->X.s₀.heap.FunFrames X.base a->s.heap.FunFrames X.base a:=by
  intro a;induction a with
  | nil=>intro _ _;trivial
  | cons a d i=>
   intro h d;obtain⟨j,⟨L,l,a,m,o,hd⟩,hr⟩:=d;have d:L∈X.fs:=h L (by unfold YH;rw[zad,a];exact tO);obtain⟨_,e⟩:=I.base.slot L l o (I.ok.frf L d) d λz=>I.ok.exfs L z d;exact⟨j,⟨L,_,a,m,e,hd⟩,i (λb d=>h b (by unfold YH;rw[zad,a];exact tG _ d)) hr⟩
 exact all X.outer (λ_ d=>d) I.ok.funs
def qv.stack(I:qv X a b H s):s.heap.FunFrames X.base X.stack:=by
 rcases I.ok.stk with e | ⟨e,a⟩
 ·rw[e];exact I.funs
 ·rw[e];obtain⟨m,b,_⟩:=I.loc;refine .cons (by rw[I.ok.kind];decide) a b ?_ I.funs;exact zcq (tR I.ok.bsz I.ok.above)
def qv.stkSub(I:qv X d h H s):∀b∈YH X.stack,b∈X.env.locals::X.fs:=λb a=>by
 rcases I.ok.stk with e | ⟨e,d⟩
 ·rw[e]at a;exact tG _ a
 ·rw[e]at a;unfold YH at a;rw[zad,d]at a;exact a
def qv.stkFree(I:qv X d h H s):∀b∈YH X.stack,H b=none:=λb a=>by
 rcases tL.mp (I.stkSub b a) with e | a
 ·rw[e];exact I.free
 ·obtain⟨_,d,h,_⟩:=I.ok.funs.mem a;exact I.base.free b d h (I.ok.frf b a) λz=>I.ok.exfs b z a
def qv.step{H':Hp}{h':Heap}{ch:List Addr}(I:qv X a h H s)(C:∀b∈ch,(b∈X.ex\/X.s₀.heap.objs.size<=b)/\b≠X.env.locals/\(∀x c,X.env.cells.lookup x=some c->c≠b)/\∀p∈X.pn++a,p.1≠b)(keep:∀b o,b≠X.env.locals->b∉X.fs->b∉ch->s.heap.get? b=some o->H b=none->h'.get? b=some o)(slot:∀b o,b≠X.env.locals->b∈X.fs->b∉ch->s.heap.get? b=some o->H b=none->∃L,h'.get? b=some {o with slots:=L})(free:∀b o,b∉ch->s.heap.get? b=some o->H b=none->H' b=none)(there:∀b o,b∉ch->s.heap.get? b=some o->∃o',h'.get? b=some o')(tups:∀b xs,H b=some (.tup xs)->H' b=some (.tup xs))(frzs:∀b o u,H b=some (.frz o u)->H' b=some (.frz o u))(tbls:∀b ps,H b=some (.tbl ps)->∃more,H' b=some (.tbl (ps++more)))(ns:∀m,s.heap.Ns X.env.locals m->h'.Ns X.env.locals m)(hok:Zd X.prog X.w H' h')(Q:AllBare g'):
  qv X a h H' {s with heap:=h',gens:=g',drawn:=d',toks:=t'}:=by
 have fm:∀b o,X.s₀.heap.get? b=some o->b≠X.env.locals:=λb o e=>tS (tF (tH e) I.ok.above);have J:∀b o,X.s₀.heap.get? b=some o->b∉X.ex->b∉ch:=λb o e a r=>by
  rcases(C b r).1 with z | z
  ·exact a z
  ·exact absurd (tF (tH e) z) (zaF _)
 have O:∀x c,X.env.cells.lookup x=some c->∀v,s.heap.IsCell c v->h'.IsCell c v:=λx c e v ⟨o,y,hd⟩=>by
  have D:c∉ch:=λz=>(C c z).2.2.1 x c e rfl;rcases I.freeC x c e with j | ⟨_,l,j⟩
  ·by_cases h:c∈X.fs
   ·obtain⟨L,q⟩:=slot c o (I.cne x c e) h D y j;exact⟨_,q,hd⟩
   ·exact⟨o,keep c o (I.cne x c e) h D y j,hd⟩
  ·obtain⟨h,_⟩:=(show qI X.prog X.w H s.heap c (.frz l (.frz l (.own 0))) from I.hok c _ j);obtain⟨B,_⟩:=(show qI X.prog X.w H' h' c (.frz l (.frz l (.own 0))) from hok c _ (frzs c l _ j));rw[y]at h;cases h;exact⟨o,B,hd⟩
 refine⟨I.ok,I.os,Q,⟨λb o e n r a=>?_,λb o e n r a=>?_,λb o e n a=>?_,λb o e a=>?_,λb xs e=>tups b xs (I.base.tups b xs e),λb o xs e=>frzs b o xs (I.base.frzs b o xs e),λb ps e=>?_⟩,?_,λx c e=>?_,?_,λx c e=>?_,λp Q=>?_,hok,I.len⟩
 ·exact keep b o (fm b o e) r (J b o e a) (I.base.keep b o e n r a) (I.base.free b o e n a)
 ·obtain⟨L,h⟩:=I.base.slot b o e n r a;obtain⟨L,B⟩:=slot b _ (fm b o e) r (J b o e a) h (I.base.free b o e n a);exact⟨L,B⟩
 ·obtain⟨o',h⟩:=I.base.there b o e a;exact free b o' (J b o e a) h (I.base.free b o e n a)
 ·obtain⟨o',h⟩:=I.base.there b o e a;exact there b o' (J b o e a) h
 ·obtain⟨a,h⟩:=I.base.tbls b ps e;obtain⟨r,B⟩:=tbls b _ h;exact⟨a++r,by rw[B,Array.append_assoc]⟩
 ·obtain⟨m,a,r⟩:=I.loc;refine⟨m,ns m a,λi x v h B J=>?_⟩;obtain⟨u,L,a⟩:=r i x v h B J;refine⟨u,L,?_⟩;rcases a with a | ⟨k,c,e,z⟩
  ·exact .inl a
  ·exact .inr ⟨k,c,e,O x c e _ z⟩
 ·obtain⟨v,z⟩:=I.cell x c e;exact⟨v,O x c e v z⟩
 ·obtain⟨m,⟨o,_,_,y,_⟩,_⟩:=I.loc;exact free _ o (λz=>(C _ z).2.1 rfl) y I.free
 ·obtain⟨v,o,y,hd⟩:=I.cell x c e;rcases I.freeC x c e with j | ⟨a,l,j⟩
  ·exact .inl (free c o (λz=>(C c z).2.2.1 x c e rfl) y j)
  ·exact .inr ⟨a,l,frzs c l _ j⟩
 ·obtain⟨e,n,ne,a,d⟩:=I.pin p Q;have D:p.1∉ch:=λz=>(C p.1 z).2.2.2 p Q rfl;exact⟨keep p.1 p.2 ne a D e n,free p.1 p.2 D e n,ne,a,d⟩
def qv.un(I:qv X a d H s)(u:Un X.fs [] H H' s.heap h')(hok:Zd X.prog X.w H' h'):qv X a d H' {s with heap:=h',toks:=t'}:=by
 obtain⟨m,⟨a,_,_,h,_⟩,_⟩:=id I.loc;obtain⟨_,i⟩:=u.any h I.free (by simp);exact I.step (g':=s.gens) (d':=s.drawn) (ch:=[]) (λ_ z=>nomatch z) (λb a _ d _ e n=>u.keep b a e n d (by simp)) (λb a _ d _ e n=>u.slot b a e n d (by simp)) (λb a _ e n=>u.free b a e n (by simp)) (λb a _ e=>u.there b a e (by simp)) u.tups u.frzs u.tbls (λ_ d=>by
  obtain⟨_,j,l,a,o⟩:=d;rw[h]at a;cases a;exact⟨_,j,l,i,o⟩) hok I.bare
def qv.call(I:qv X a h H s)(u:Un (YH X.stack) ch H H' s.heap h')(hok:Zd X.prog X.w H' h')(j:AllBare g')(d:∀b∈ch,(b∈X.ex\/X.s₀.heap.objs.size<=b)/\b≠X.env.locals/\(∀x c,X.env.cells.lookup x=some c->c≠b)/\∀p∈X.pn++a,p.1≠b):
  qv X a h H' {s with heap:=h',gens:=g',drawn:=d',toks:=t'}:=by
 obtain⟨m,⟨a,_,_,i,_⟩,_⟩:=id I.loc;obtain⟨_,h⟩:=u.any i I.free λz=>(d _ z).2.1 rfl;exact I.step (ch:=ch) d (λb a h l d e n=>u.keep b a e n (λz=>(tL.mp (I.stkSub b z)).elim h l) d) (λb a _ _ d e n=>u.any e n d) (λb a d e n=>u.free b a e n d) (λb a d e=>u.there b a e d) u.tups u.frzs u.tbls (λ_ d=>by
  obtain⟨_,l,o,a,q⟩:=d;rw[i]at a;cases a;exact⟨_,l,o,h,q⟩) hok j
def qv.turned{h':Heap}(I:qv X a h H s)(k:∀b o,b≠it->s.heap.get? b=some o->h'.get? b=some o)(i:H it=none)(d:it≠X.env.locals)(j:it∈X.ex\/X.s₀.heap.objs.size<=it)(l:∀x c,X.env.cells.lookup x=some c->c≠it)(r:∀p∈X.pn++a,p.1≠it):qv X a h H {s with heap:=h',toks:=t'}:=by
 have h:∀b u,H b=some u->b≠it:=λb u e z=>by rw[z,i]at e;cases e
 refine I.step (g':=s.gens) (d':=s.drawn) (ch:=[it]) (λb i=>?_) (λb o _ _ a e _=>k b o (λz=>a (by simp [z])) e) (λb o _ _ a e _=>⟨o.slots,k b o (λz=>a (by simp [z])) e⟩) (λ_ _ _ _ n=>n)
  (λb o a e=>⟨o,k b o (λz=>a (by simp [z])) e⟩) (λ_ _ e=>e) (λ_ _ _ e=>e) (λb _ e=>⟨#[],by rw[e];simp⟩) (λm y=>?_) (λb u e=>?_) I.bare
 ·have e:b=it:=by simpa using i
  subst e;exact⟨j,d,l,r⟩
 ·obtain⟨o,i,j,l,r⟩:=y;exact⟨o,i,j,k _ o (Ne.symm d) l,r⟩
 ·refine(I.hok b u e).stay (λc v a q=>k c v ?_ q) (λ_ q=>q) λ_ _ q=>q;rcases a with z | z
  ·rw[z];exact h b u e
  ·exact h c _ z
def qv.tok(I:qv X a b H s)(t:Nat):qv X a b H {s with toks:=t}:=I.un (h':=s.heap) (t':=t) Un.refl I.hok
def qv.kept{h':Heap}(I:qv X a d H s)(k:∀b u,s.heap.get? b=some u->h'.get? b=some u):qv X a d H {s with heap:=h',toks:=t'}:=I.un (Un.kept k) (I.hok.kept k)
def qv.laid{h':Heap}(I:qv X d e H s)(k:∀b u,s.heap.get? b=some u->h'.get? b=some u)(hp:s.heap.objs.size<=a)(new:qI X.prog X.w (upd H a o) h' a o):
 qv X d e (upd H a o) {s with heap:=h',toks:=t'}:=I.un (Un.laid k hp (I.hok.fresh hp)) (I.hok.laid k hp new)
def qv.write{h':Heap}(I:qv X i j H s)(a:B8 (H x))(d:e=x\/H e=some (.own x))(k:∀b u,b≠e->s.heap.get? b=some u->h'.get? b=some u)(h:∃u,h'.get? e=some u)(new:qI X.prog X.w (upd H x o) h' x o):qv X i j (upd H x o) {s with heap:=h',toks:=t'}:=I.un (Un.write a d k h) (I.hok.write a d k h new)
def qv.pins_of{a:List (Addr×Obj)}(I:qv X d b H s)(h:∀p∈a,s.heap.get? p.1=some p.2/\H p.1=none/\p.1≠X.env.locals/\p.1∉X.fs/\∀v,p.2.data≠.cell v):qv X a b H s:=
 ⟨I.ok,I.os,I.bare,I.base,I.loc,I.cell,I.free,I.freeC,λp a=>(tN.mp a).elim (λz=>I.pin p (tV _ z)) (h p),I.hok,I.len⟩
def U9{N:List Str}(hN:N.Nodup){i j:Nat}{x:Str}(a:N[i]?=some x)(b:N[j]?=some x):i=j:=by
 obtain⟨_,d⟩:=td.mp a;obtain⟨_,e⟩:=td.mp b;exact(List.getElem_inj hN).mp (d.trans e.symm)
def Wy{Q:Unit->Shared->Prop}(I:qv X o l H s)(hN:X.N.Nodup)(U:X.N[i]?=some x)(p:NI X.env.scope x)(r:qR v u)(h:∀j,qv X o (l.set i (some v)) H j->(∃a,Heap.SameBut a s.heap j.heap/\(a=X.env.locals\/X.env.cells.lookup x=some a))->Q () j)(hf:X.fn x=true\/X.env.scope.names.lookup x=some .local:=by first | exact .inl rfl | exact .inr rfl | assumption):wpAny M A (storeName X.env x u) Q E s:=by
 obtain⟨m,hn,hl⟩:=id I.loc;have C:(X.env.scope.kind==.class || (X.env.scope.kind==.module&&X.env.locals != X.env.globals))=false:=by rw[I.ok.kind];rfl
 have ab:i < l.length:=by rw[I.len];exact(td.mp U).1
 have cne:=I.cne;have ac:∀{a:Addr} {O:Heap},(∃B,s.heap.get? a=some B/\H a=none)->Heap.SameBut a s.heap O->Zd X.prog X.w H O:=λ{a O} o j b D e=>by
  obtain⟨_,_,l⟩:=o;refine(I.hok b D e).stay (λc w' o q=>(j.2 c ?_).trans q) (λ_ q=>q) λ_ _ q=>q;rintro rfl;rcases o with rfl | o
  ·rw[l]at e;cases e
  ·rw[l]at o;cases o
 rcases p with D | D
 ·refine wpAny_storeName_local D hn (λO l j=>?_) C;obtain⟨oL,_,_,L,_⟩:=id hn;refine h _ ⟨I.ok,I.os,I.bare,⟨λb B e n J p=>?_,λb B e n J p=>?_,I.base.free,λb B e p=>?_,I.base.tups,I.base.frzs,I.base.tbls⟩,⟨_,l,λY y v' l C e3=>?_⟩,λy c e=>?_,I.free,I.freeC,λT hp=>?_,ac ⟨oL,L,I.free⟩ j,by simpa using I.len⟩ ⟨_,j,.inl rfl⟩
  ·exact(j.2 b (tS (tF (tH e) I.ok.above))).trans (I.base.keep b B e n J p)
  ·obtain⟨sl,l⟩:=I.base.slot b B e n J p;exact⟨sl,(j.2 b (tS (tF (tH e) I.ok.above))).trans l⟩
  ·obtain⟨o',l⟩:=I.base.there b B e p;exact⟨o',(j.2 b (tS (tF (tH e) I.ok.above))).trans l⟩
  ·by_cases L:Y=i
   ·subst L;rw[U]at l;cases l;rw[zcW ab]at C;cases C;exact⟨u,r,.inl ⟨D,by simp⟩⟩
   ·rw[zdj (Ne.symm L)]at C;obtain⟨u',r',q⟩:=hl Y y v' l C e3;refine⟨u',r',?_⟩;rcases q with ⟨k,e⟩ | ⟨k,c,e,z⟩
    ·refine .inl ⟨k,?_⟩;have:y≠x:=λe=>L (U9 hN l (e▸U));simp [this,e]
    ·exact .inr ⟨k,c,e,z.sameBut j (cne y c e)⟩
  ·obtain⟨w',z⟩:=I.cell y c e;exact⟨w',z.sameBut j (cne y c e)⟩
  ·obtain⟨e,n,ne,nf,d⟩:=I.pin T hp;exact⟨(j.2 T.1 ne).trans e,n,ne,nf,d⟩
 ·have aa:X.fn x=true:=by
   rcases hf with z | z
   ·exact z
   ·rw[z]at D;cases D
  obtain⟨c,o⟩:=I.ok.has x (.inl D);obtain⟨w',z⟩:=I.cell x c o;refine wpAny_storeName_cell I.ok.kind D o z (λO ae j=>?_);obtain⟨oc,af,ag⟩:=id z;have ah:H c=none:=(I.freeC x c o).elim id λz=>by rw[aa]at z;cases z.1
  refine h {s with heap:=O} ⟨I.ok,I.os,I.bare,⟨λb B e n J p=>?_,λb B e n J p=>?_,I.base.free,λb B e p=>?_,I.base.tups,I.base.frzs,I.base.tbls⟩,⟨m,hn.sameBut j (Ne.symm (cne x c o)),λY y v' l C e3=>?_⟩,λy O e=>?_,I.free,I.freeC,λT hp=>?_,ac ⟨oc,af,ah⟩ j,by simpa using I.len⟩ ⟨c,j,.inr o⟩
  ·exact(j.2 b (tS (tF (tH e) (I.ok.cab x c aa o)))).trans (I.base.keep b B e n J p)
  ·obtain⟨sl,l⟩:=I.base.slot b B e n J p;exact⟨sl,(j.2 b (tS (tF (tH e) (I.ok.cab x c aa o)))).trans l⟩
  ·obtain⟨o',l⟩:=I.base.there b B e p;exact⟨o',(j.2 b (tS (tF (tH e) (I.ok.cab x c aa o)))).trans l⟩
  ·by_cases L:Y=i
   ·subst L;rw[U]at l;cases l;rw[zcW ab]at C;cases C;exact⟨u,r,.inr ⟨.inl D,c,o,ae⟩⟩
   ·rw[zdj (Ne.symm L)]at C;obtain⟨u',r',q⟩:=hl Y y v' l C e3;refine⟨u',r',?_⟩;rcases q with q | ⟨k,O,e,p⟩
    ·exact .inl q
    ·refine .inr ⟨k,O,e,p.sameBut j ?_⟩;rintro rfl;exact L (U9 hN l (I.ok.inj _ _ _ e o▸U))
  ·by_cases l:O=c
   ·subst l;exact⟨_,ae⟩
   ·obtain⟨o,p⟩:=I.cell y O e;exact⟨o,p.sameBut j l⟩
  ·obtain⟨e,n,ne,nf,d⟩:=I.pin T hp;refine⟨(j.2 T.1 ?_).trans e,n,ne,nf,d⟩;intro q;rw[q,af]at e;have j:oc=T.2:=tA.inj e;exact d w' (by rw[<-j];exact ag)
def Xf{Q:Unit->Shared->Prop}(I:qv X b d H s)(hN:X.N.Nodup)(e:X.N[i]?=some x)(j:NI X.env.scope x)(r:qR v u)(h:∀a,qv X b (d.set i (some v)) H a->Q () a)(l:X.fn x=true\/X.env.scope.names.lookup x=some .local:=by first | exact .inl rfl | exact .inr rfl | assumption):wpAny M A (storeName X.env x u) Q E s:=
 Wy I hN e j r (λa b _=>h a b) l
def qv.call'{a:Shared}(I:qv X d h H s)(i:a.os=s.os)(u:Un (YH X.stack) ch H H' s.heap a.heap)(hok:Zd X.prog X.w H' a.heap)(j:AllBare a.gens)(l:∀b∈ch,(b∈X.ex\/X.s₀.heap.objs.size<=b)/\b≠X.env.locals/\(∀x c,X.env.cells.lookup x=some c->c≠b)/\∀p∈X.pn++d,p.1≠b):qv X d h H' a:=by
 obtain⟨_,d,h,m,o⟩:=a;have e:o=s.os:=i;subst e;exact I.call (g':=d) (t':=m) (d':=h) u hok j l
abbrev XK:=Value->Option Addr->Hp->Prop
abbrev St:=List (Option V)
abbrev VK:=V->Hp->Prop
abbrev TE:=St->Hp->VK->Prop
abbrev TT:=St->Hp->(Bool->Hp->Prop)->Prop
abbrev TA:=St->Hp->(List V->Hp->Prop)->Prop
structure Jk where
 nx:St->Hp->Prop
 rt:VK
 bk:St->Hp->Prop:=λ_ _=>False
 ct:St->Hp->Prop:=λ_ _=>False
abbrev TS:=Jk->St->Hp->Prop
def EP(X:Cx)(b:List (Addr×Obj))(d:St)(Q:VK)(u:Value)(e:Shared):Prop:=∃v a,qv X b d a e/\qR v u/\Q v a
def TP(X:Cx)(d:List (Addr×Obj))(e:St)(Q:Bool->Hp->Prop)(b:Bool)(h:Shared):Prop:=∃a,qv X d e a h/\Q b a
def AP(X:Cx)(d:List (Addr×Obj))(e:St)(Q:List V->Hp->Prop)(us:List Value)(h:Shared):Prop:=∃a b,qv X d e b h/\qK a us/\Q a b
def SP(X:Cx)(d:List (Addr×Obj))(D:Jk)(f:Flow)(e:Shared):Prop:=
 match f with
 | .next=>∃b a,qv X d b a e/\D.nx b a
 | .brk=>∃b a,qv X d b a e/\D.bk b a
 | .cont=>∃b a,qv X d b a e/\D.ct b a
 | .ret u=>∃v b a,qv X d b a e/\qR v u/\D.rt v a
def PE(X:Cx)(e:Expr)(t:TE):Prop:=
 ∀(b:List (Addr×Obj)) (s:Shared) (a:St) (H:Hp) (Q:VK),qv X b a H s->t a H Q->wpAny (model X.prog X.w) X.A (eval e X.env) (EP X b a Q) X.xe s
@[irreducible] def JE (X:Cx) (e:Expr) (t:TE):Prop:=PE X e t
def JE.of(h:PE X e t):JE X e t:=by unfold JE;exact h
def JE.to(h:JE X e t):PE X e t:=by unfold JE at h;exact h
def PT(X:Cx)(e:Expr)(t:TT):Prop:=
 ∀(b:List (Addr×Obj)) (s:Shared) (a:St) (H:Hp) (Q:Bool->Hp->Prop),qv X b a H s->t a H Q->wpAny (model X.prog X.w) X.A (isTrue e X.env (eval e X.env)) (TP X b a Q) X.xe s
@[irreducible] def JT (X:Cx) (e:Expr) (t:TT):Prop:=PT X e t
def JT.of(h:PT X e t):JT X e t:=by unfold JT;exact h
def JT.to(h:JT X e t):PT X e t:=by unfold JT at h;exact h
def PW(X:Cx)(e:Expr)(t:TT):Prop:=
 ∀(eK:Sem Value) (b:List (Addr×Obj)) (s:Shared) (a:St) (H:Hp) (Q:Bool->Hp->Prop),qv X b a H s->t a H Q->wpAny (model X.prog X.w) X.A (isTrue e X.env eK) (TP X b a Q) X.xe s
def PW.pt(h:PW X e t):PT X e t:=h _
@[irreducible] def JW (X:Cx) (e:Expr) (t:TT):Prop:=PW X e t
def JW.of(h:PW X e t):JW X e t:=by unfold JW;exact h
def JW.to(h:JW X e t):PW X e t:=by unfold JW at h;exact h
def JW.pt(h:JW X e t):JT X e t:=.of h.to.pt
def PA(X:Cx)(es:List Expr)(t:TA):Prop:=
 ∀(pos:Pos) (b:List (Addr×Obj)) (s:Shared) (a:St) (H:Hp) (Q:List V->Hp->Prop),qv X b a H s->t a H Q->wpAny (model X.prog X.w) X.A (spliced (backTo pos (starEach es X.env))) (AP X b a Q) X.xe s
@[irreducible] def JA (X:Cx) (es:List Expr) (t:TA):Prop:=PA X es t
def JA.of(h:PA X es t):JA X es t:=by unfold JA;exact h
def JA.to(h:JA X es t):PA X es t:=by unfold JA at h;exact h
def PS(X:Cx)(st:Stmt)(t:TS):Prop:=
 ∀(a:List (Addr×Obj)) (s:Shared) (b:St) (H:Hp) (D:Jk),qv X a b H s->t D b H->wpAny (model X.prog X.w) X.A (exec st X.env) (SP X a D) X.xe s
@[irreducible] def JS (X:Cx) (st:Stmt) (t:TS):Prop:=PS X st t
def JS.of{X:Cx}{st:Stmt}{t:TS}(h:PS X st t):JS X st t:=by unfold JS;exact h
def JS.to{X:Cx}{st:Stmt}{t:TS}(h:JS X st t):PS X st t:=by unfold JS at h;exact h
def NH(X:Cx)(st:List Stmt)(t:TS):Prop:=
 ∀(a:List (Addr×Obj)) (s:Shared) (b:St) (H:Hp) (D:Jk),qv X a b H s->t D b H->wpAny (model X.prog X.w) X.A (execs st X.env) (SP X a D) X.xe s
@[irreducible] def Wo (X:Cx) (st:List Stmt) (t:TS):Prop:=NH X st t
def Wo.of{X:Cx}{st:List Stmt}{t:TS}(h:NH X st t):Wo X st t:=by unfold Wo;exact h
def Wo.to{X:Cx}{st:List Stmt}{t:TS}(h:Wo X st t):NH X st t:=by unfold Wo at h;exact h
def js{α:Type}{t:Sem α}{Q b:α->Shared->Prop}{M:Model}{A:Around}{E:Value->Shared->Prop}{s:Shared}(h:wpAny M A t Q E s)(d:∀a s,Q a s->b a s):wpAny M A t b E s:=wpAny_mono h d λ_ _ x=>x
open PyProof.Rows hiding K lo
inductive A0(i:Nat)(σ:St)(H:Hp)(Q:VK):Prop
 | mk (v:_):σ[i]?=some (some v)->Q v H->A0 i σ H Q
def qw(i:Nat):TE:=λa H Q=>A0 i a H Q
def tC(v:V):TE:=λ_ H Q=>Q v H
def CL{X:Cx}(hN:X.N[i]?=some x)(a:D1 X.env.scope x)(hd:(x==("__debug__":Str))=false:=by decide)(j:(x==("__classdict__":Str))=false:=by decide):PE X (.Name x pos) (qw i):=by
 intro b s d H Q I h;obtain⟨v,e,h⟩:=h;obtain⟨m,l,o⟩:=I.loc;obtain⟨u,p,q⟩:=o i x v hN e a;have ew:EP X b d Q u s:=⟨v,H,I,p,h⟩;rcases q with ⟨a,o⟩ | ⟨a,c,b,d⟩
 ·exact wpAny_Name (wpAny_loadName_local I.ok.kind a l o ew) hd
 ·rcases a with a | a
  ·exact wpAny_Name (wpAny_loadName_cell I.ok.kind a b d ew) hd
  ·exact wpAny_Name (wpAny_loadName_free I.ok.kind a b d ew j) hd
def qk{X:Cx}{i j pos}:JE X (.Constant (.int i) j pos) (tC (.int i)):=.of (by
 exact λ_ _ _ H _ I h=>wpAny_Constant_int ⟨.int i,H,I.tok _,⟨_,rfl⟩,h⟩)
def Qz{X:Cx}{b j pos}:JE X (.Constant (.bool b) j pos) (tC (.bl b)):=.of (by
 exact λ_ _ _ H _ I h=>Constant_bool ⟨.bl b,H,I,rfl,h⟩)
def Dt{X:Cx}{j pos}:JE X (.Constant .none j pos) (tC .non):=.of (by
 exact λ_ _ _ H _ I h=>Constant_none ⟨.non,H,I,rfl,h⟩)
def qL{X:Cx}{x j pos}:JE X (.Constant (.str x) j pos) (tC (.str x)):=.of (by
 exact λ_ _ _ H _ I h=>Calls.Constant_str ⟨.str x,H,I.tok _,⟨_,rfl⟩,h⟩)
def Gl(X:Cx)(x:Str):Prop:=X.env.kindOf x=some .globalImplicit
def zD{Q:Value->Shared->Prop}(I:qv X d e H s)(a:Gl X x)(b:X.mg x=some u)(h:Q u s)(hd:(x==("__debug__":Str))=false:=by decide):wpAny (model X.prog X.w) X.A (eval (.Name x pos) X.env) Q E s:=
 Calls.Name_function_global I.ok.kind a (Calls.loadGlobal_global (by rw[I.ok.glob];exact I.mod.glob.keeps I.bk) b h) hd
def J1{Q:Value->Shared->Prop}(I:qv X i j H s)(a:Gl X x)(b:X.mg x=none)(d:bootBuiltins x=some u)(h:Q u s)(e:x≠"__name__":=by decide)(hd:(x==("__debug__":Str))=false:=by decide):wpAny (model X.prog X.w) X.A (eval (.Name x pos) X.env) Q E s:=by
 obtain⟨_,i,j⟩:=I.mod.blt;exact Calls.Name_function_global I.ok.kind a (Calls.loadGlobal_builtin (by rw[I.ok.glob];exact I.mod.glob.keeps I.bk) b (by rw[I.ok.blt];exact i.keeps I.bk) ((j x e).trans d) h) hd
def yV(a:Gl X x)(b:X.mg x=some u)(r:qR v u)(hd:(x==("__debug__":Str))=false:=by decide):PE X (.Name x pos) (tC v):=
 λ_ _ _ H _ I h=>zD I a b ⟨v,H,I,r,h⟩ hd
def QC(a:Gl X x)(b:X.mg x=some u)(r:qR v u)(hd:(x==("__debug__":Str))=false:=by decide):JE X (.Name x pos) (tC v):=.of (yV a b r hd)
def Js(a:Gl X x)(b:X.mg x=none)(d:bootBuiltins x=some u)(r:qR v u)(e:x≠"__name__":=by decide)(hd:(x==("__debug__":Str))=false:=by decide):JE X (.Name x pos) (tC v):=.of (by
 exact λ_ _ _ H _ I h=>J1 I a b d ⟨v,H,I,r,h⟩ e hd)
def PC(X:Cx)(op:CmpOp)(a b:Expr)(t:TE):Prop:=
 ∀(e:List (Addr×Obj)) (s:Shared) (d:St) (H:Hp) (Q:VK),qv X e d H s->t d H Q->
  wpAny (model X.prog X.w) X.A (eval a X.env) (λv h=>wpAny (model X.prog X.w) X.A (eval b X.env) (λu i=>wpAny (model X.prog X.w) X.A (compareOp op v u) (EP X e d Q) X.xe i) X.xe h) X.xe s
@[irreducible] def JC (X:Cx) (op:CmpOp) (a b:Expr) (t:TE):Prop:=PC X op a b t
def JC.of(h:PC X op a b t):JC X op a b t:=by unfold JC;exact h
def JC.to(h:JC X op a b t):PC X op a b t:=by unfold JC at h;exact h
inductive tB_(Q:Bool->Hp->Prop)(x:V)(H1:Hp):Prop
 | mk (c:_):x=.bl c->Q c H1->tB_ Q x H1
def tB(t:TE):TT:=λa H Q=>t a H λx a=>tB_ Q x a
def QY(h:JC X op a b t)(e:behindInMarks op b=false:=by first | exact nobehind _ (by decide) (by decide) | rfl):JT X (.Compare a [op] [b] pos) (tB t):=.of (by
 have h:=h.to;intro i s j H Q I l;refine wpAny_isTrue_Compare1 (js (h i s j H _ I l) λv _ e=>js e λu _ i=>js i λc _ ⟨x,i,j,l,m⟩=>?_) e;obtain⟨d,rfl,q⟩:=m;cases l;exact wpAny_truthy_bool ⟨i,j,q⟩)
def jH(h:JE X e t)(a:∀eK,isTrue e X.env eK=(do let v <-eK;standAt e.pos;holding [v] (truthy v)):=by intro _;rfl):JT X e (tB t):=.of (by
 have h:=h.to;intro b s i H Q I j;refine isTrue_plain (js (h b s i H _ I j) λv _ ⟨x,b,i,j,l⟩=>?_) (a _);obtain⟨d,rfl,q⟩:=l;cases j;exact wpAny_truthy_bool ⟨b,i,q⟩)
def Ch(t u:TT):TT:=λa H Q=>t a H λc b=>if c=true then u a b Q else Q false b
def tOr(t u:TT):TT:=λa H Q=>t a H λc b=>if c=true then Q true b else u a b Q
def Hl(t:TT):TT:=λa H Q=>t a H λc a=>Q (!c) a
def Qq(b:JT X a d):JW X (.BoolOp .And [a] pos) d:=.of (by
 have b:=b.to;intro _ d s i H Q I h;refine isTrue_and (js (b d s i H Q I h) λc _ e=>?_);cases c with
 | true=>exact isTrue_and_nil e
 | false=>exact e)
def Ji(b:JT X a d):JW X (.BoolOp .Or [a] pos) d:=.of (by
 have b:=b.to;intro _ d s i H Q I h;refine isTrue_or (js (b d s i H Q I h) λc _ e=>?_);cases c with
 | false=>exact isTrue_or_nil e
 | true=>exact e)
def QG{X:Cx}{a:Expr}{b:Expr}{pos:Pos}{i:TT}{j:TT}{rest:List Expr}(d:JT X a i)(e:JW X (.BoolOp .And (b::rest) pos) j):JW X (.BoolOp .And (a::b::rest) pos) (Ch i j):=.of (by
 have d:=d.to;have e:=e.to;intro o i s j H Q I h;refine isTrue_and (js (d i s j H _ I h) λc p ⟨d,l,m⟩=>?_);cases c with
 | true=>exact e o i p j d Q l m
 | false=>exact⟨d,l,m⟩)
def Zw{X:Cx}{a:Expr}{b:Expr}{pos:Pos}{i:TT}{j:TT}{rest:List Expr}(d:JT X a i)(e:JW X (.BoolOp .Or (b::rest) pos) j):JW X (.BoolOp .Or (a::b::rest) pos) (tOr i j):=.of (by
 have d:=d.to;have e:=e.to;intro o i s j H Q I h;refine isTrue_or (js (d i s j H _ I h) λc p ⟨d,l,m⟩=>?_);cases c with
 | true=>exact⟨d,l,m⟩
 | false=>exact e o i p j d Q l m)
def Qk(b:JT X a d):JT X (.UnaryOp .Not a pos) (Hl d):=.of (by
 have b:=b.to;intro d s e H Q I h;exact isTrue_not (js (b d s e H (λc b=>Q (!c) b) I h) λc _ ⟨b,d,e⟩=>⟨b,d,e⟩))
inductive uX(tb:TE)(σ:St)(Q:VK)(x:V)(H1:Hp):Prop
 | mk (c:_):x=.bl c->(if c=true then tb σ H1 Q else Q (.bl false) H1)->uX tb σ Q x H1
def Ee(b tb:TE):TE:=λa H Q=>b a H λx b=>uX tb a Q x b
inductive uL(Q:VK)(x:V)(H1:Hp):Prop
 | mk (c:_):x=.bl c->(Q (.bl (!c)) H1)->uL Q x H1
def D7(a:TE):TE:=λb H Q=>a b H λx a=>uL Q x a
def XP{X:Cx}{a:Expr}{pos:Pos}{op}{t:TE}(h:JE X a t):JE X (.BoolOp op [a] pos) t:=.of (by
 have h:=h.to;exact λb s d H Q I e=>BoolOp_one (h b s d H Q I e))
def zk{X:Cx}{a:Expr}{b:Expr}{i:TE}{tb:TE}{pos:Pos}{rest:List Expr}(d:JE X a i)(e:JE X (.BoolOp .And (b::rest) pos) tb):JE X (.BoolOp .And (a::b::rest) pos) (Ee i tb):=.of (by
 have d:=d.to;have e:=e.to;intro i s j H Q I h;refine BoolOp_and (js (d i s j H _ I h) λv o ⟨x,l,m,p,d⟩=>?_);obtain⟨c,rfl,d⟩:=d;cases p;refine wpAny_truthy_bool ?_;cases c with
 | true=>exact e i o j l Q m d
 | false=>exact⟨.bl false,l,m,rfl,d⟩)
def Ds(b:JE X a d):JE X (.UnaryOp .Not a pos) (D7 d):=.of (by
 have b:=b.to;intro d s e H Q I h;refine UnaryOp_ (js (b d s e H _ I h) λv _ ⟨x,d,e,i,b⟩=>?_);obtain⟨c,rfl,b⟩:=b;cases i;exact not_of (wpAny_truthy_bool ⟨.bl (!c),d,e,rfl,b⟩))
open PyProof.Rows hiding K lo
def Q6(K:zdM)(H:Hp)(a:Addr)(xs:List V):Prop:=
 Rd H a (.lst xs)\/
  ∃(b:Obj) (d:Array Value) (n:Nat),K.lookup a=some b/\b.cls=.type "list"/\b.dict=none/\b.data=.seq d n/\d.size<=zdR/\qK xs d.toList
def zZ(K:zdM)(H:Hp)(a:Addr)(xs:List V):Prop:=
 Rd H a (.tup xs)\/
  ∃(b:Obj) (d:Array Value) (n:Nat),K.lookup a=some b/\b.cls=.type "tuple"/\b.data=.seq d n/\d.size<=zdR/\qK xs d.toList
def ID:Value->Option V
 | .none=>some .non
 | .bool b=>some (.bl b)
 | .int i _=>some (.int i)
 | .str x _=>some (.str x)
 | .bytes b _=>some (.byt b)
 | .float b _=>some (.flt b)
 | .ref a=>some (.ref a)
 | .type n=>some (.ty n)
 | _=>none
def qR.abs(r:qR x u):ID u=some x:=by
 cases x with
 | non=>cases r;rfl
 | bl _=>cases r;rfl
 | int _=>obtain⟨t,rfl⟩:=r;rfl
 | str _=>obtain⟨t,rfl⟩:=r;rfl
 | byt _=>obtain⟨t,rfl⟩:=r;rfl
 | flt _=>obtain⟨t,rfl⟩:=r;rfl
 | ref _=>cases r;rfl
 | ty _=>cases r;rfl
def qR.inj(r:qR x u)(q:qR y u):x=y:=tA.inj (r.abs.symm.trans q.abs)
def qK.inj:∀{xs ys:List V} {us:List Value},qK xs us->qK ys us->xs=ys
 | _,_,_,.nil,.nil=>rfl
 | _,_,_,.cons a t,.cons b d=>by rw[a.inj b,qK.inj t d]
def Q6.of{H:Hp}{a:Addr}{xs:List V}{K:zdM}(h:H a=some (.lst xs)):Q6 K H a xs:=.inl (.inl h)
def zZ.of{H:Hp}{a:Addr}{xs:List V}{K:zdM}(h:H a=some (.tup xs)):zZ K H a xs:=.inl (.inl h)
def qv.list(I:qv X d i H s)(h:Q6 X.K H a xs):∃b:List Value,qK xs b/\PlainL s.heap a b.toArray/\xs.length<=zdR:=by
 rcases h with h | ⟨i,b,n,j,l,hd,m,o,d⟩
 ·obtain⟨z,b,n,d,e⟩:=h.ok I.hok;exact⟨b,d,⟨_,n,e,rfl,rfl,rfl⟩,z⟩
 ·refine⟨b.toList,d,⟨i,n,I.kIn a i j,l,hd,by simpa using m⟩,?_⟩;have e:=d.length;simp only[zaz]at e;omega
def qv.tuple(I:qv X d i H s)(h:zZ X.K H a xs):∃b:List Value,qK xs b/\IsTup s.heap a b.toArray/\xs.length<=zdR:=by
 rcases h with h | ⟨i,b,n,j,l,m,o,d⟩
 ·obtain⟨z,b,d,o⟩:=h.ok I.hok;exact⟨b,d,o,z⟩
 ·refine⟨b.toList,d,⟨i,I.kIn a i j,l,n,by simpa using m⟩,?_⟩;have e:=d.length;simp only[zaz]at e;omega
def qv.list_inj(I:qv X b i H s)(h:Q6 X.K H a xs)(h':Q6 X.K H a ys):xs=ys:=by
 obtain⟨j,l,⟨_,n,e,_,_,d⟩,_⟩:=I.list h;obtain⟨m,o,⟨_,_,b,_,_,i⟩,_⟩:=I.list h';rw[e]at b;cases b;rw[d]at i;injection i with b _;have:j=m:=by simpa using congrArg Array.toList b
 subst this;exact l.inj o
def qv.tuple_inj(I:qv X b i H s)(h:zZ X.K H a xs)(h':zZ X.K H a ys):xs=ys:=by
 obtain⟨j,l,⟨_,e,_,n,d⟩,_⟩:=I.tuple h;obtain⟨m,o,⟨_,b,_,_,i⟩,_⟩:=I.tuple h';rw[e]at b;cases b;rw[d]at i;injection i with b _;have:j=m:=by simpa using congrArg Array.toList b
 subst this;exact l.inj o
abbrev Cx.wish(X:Cx)(E:Value->Shared->Prop):Cx:={X with xe:=E}
abbrev Cx.nox(X:Cx):Cx:=X.wish λ_ _=>False
def Cx.Ok.wish{X:Cx}(ok:X.Ok)(E:Value->Shared->Prop):(X.wish E).Ok:=
 ⟨ok.mod,ok.kind,ok.glob,ok.blt,ok.above,ok.inj,ok.has,ok.cab,ok.hd,ok.frames,ok.stk,ok.exf,ok.bs,ok.bsz,ok.noex,ok.exfs,ok.funs,ok.frf⟩
def Cx.Ok.unwish{X:Cx}(ok:(X.wish E).Ok):X.Ok:=
 ⟨ok.mod,ok.kind,ok.glob,ok.blt,ok.above,ok.inj,ok.has,ok.cab,ok.hd,ok.frames,ok.stk,ok.exf,ok.bs,ok.bsz,ok.noex,ok.exfs,ok.funs,ok.frf⟩
def qv.wish(I:qv X a b H s)(E:Value->Shared->Prop):qv (X.wish E) a b H s:=⟨I.ok.wish E,I.os,I.bare,I.base,I.loc,I.cell,I.free,I.freeC,I.pin,I.hok,I.len⟩
def qv.unwish{X:Cx}(I:qv (X.wish E) a b H s):qv X a b H s:=⟨I.ok.unwish,I.os,I.bare,I.base,I.loc,I.cell,I.free,I.freeC,I.pin,I.hok,I.len⟩
def SP.unwish{X:Cx}(h:SP (X.wish E) d D f e):SP X d D f e:=by
 cases f with
 | next=>obtain⟨a,b,I,q⟩:=h;exact⟨a,b,I.unwish,q⟩
 | brk=>obtain⟨a,b,I,q⟩:=h;exact⟨a,b,I.unwish,q⟩
 | cont=>obtain⟨a,b,I,q⟩:=h;exact⟨a,b,I.unwish,q⟩
 | ret u=>obtain⟨v,a,b,I,i,q⟩:=h;exact⟨v,a,b,I.unwish,i,q⟩
def NH.nox{X:Cx}{st:List Stmt}{t:TS}(h:NH X.nox st t):NH X st t:=λa s b H D I d=>
 wpAny_mono (h a s b H D (I.wish _) d) (λ_ _ q=>q.unwish) λ_ _ z=>False.elim z
def Uq:TS:=λD a H=>D.nx a H
def Ce(t u:TS):TS:=λD a H=>t {D with nx:=u D} a H
def qt:Wo X [] Uq:=.of (by
 exact λ_ _ a H _ I h=>wpAny_execs_nil ⟨a,H,I,h⟩)
def qb{X:Cx}{st:Stmt}{rest:List Stmt}{t:TS}{u:TS}(a:JS X st t)(b:Wo X rest u):Wo X (st::rest) (Ce t u):=.of (by
 have a:=a.to;have b:=b.to;intro d s e H D I h;refine wpAny_execs_cons (js (a d s e H {D with nx:=u D} I h) λf i q=>?_);cases f with
 | next=>
  obtain⟨j,l,m,q⟩:=q;exact b d i j l D m q
 | ret v=>exact q
 | brk=>exact q
 | cont=>exact q)
def qe{X:Cx}{st:Stmt}{t:TS}(a:JS X st t):Wo X [st] t:=.of (by
 have a:=a.to;intro b s d H D I h;refine wpAny_execs_cons (js (a b s d H D I h) λf e q=>?_);cases f with
 | next=>exact wpAny_execs_nil q
 | ret v=>exact q
 | brk=>exact q
 | cont=>exact q)
def qv.quiet(I:qv X a b H s):interactive X.env=false:=by simp [interactive,I.ok.kind]
def uR(te:TE):TS:=λD a H=>te a H λ_ b=>D.nx a b
def q5{pos:Pos}(a:JE X e te)(d:swapsWith e none pos.line X.env=pure false:=by rfl):JS X (.Expr e pos) (uR te):=.of (by
 have a:=a.to;intro i s b H D I h;exact wpAny_Expr_any (js (a i s b H _ I h) λv _ ⟨x,a,i,_,j⟩=>⟨b,a,i,j⟩) I.quiet d)
def D5(te:TE):TS:=λD a H=>te a H D.rt
def qr(a:JE X e te):JS X (.Return (some e) pos) (D5 te):=.of (by
 have a:=a.to;intro d s b H D I h;exact wpAny_Return_some (js (a d s b H _ I h) λv _ ⟨x,a,d,i,j⟩=>⟨x,b,a,d,i,j⟩))
def uO(c:TT)(t u:TS):TS:=λD a H=>c a H λb d=>if b=true then t D a d else u D a d
def qJ(e:JT X c l)(i:Wo X a t)(j:Wo X b u):JS X (.If c a b pos) (uO l t u):=.of (by
 have e:=e.to;have i:=i.to;have j:=j.to;intro l s m H D I h;refine wpAny_If (js (e l s m H _ I h) λd e ⟨o,p,q⟩=>?_);cases d with
 | true=>exact i l e m o D p q
 | false=>exact j l e m o D p q)
def Cf:TS:=λ_ _ _=>False
def qC:Wo X a Cf:=.of (by
 exact λ_ _ _ _ _ _ h=>h.elim)
abbrev TG:=V->St->Hp->(St->Hp->Prop)->Prop
abbrev B6:=List V->St->Hp->(St->Hp->Prop)->Prop
def PG(X:Cx)(a_:Expr)(t:TG):Prop:=
 ∀(a:List (Addr×Obj)) (s:Shared) (b:St) (H:Hp) (v:V) (u:Value) (Q:St->Hp->Prop),qv X a b H s->qR v u->t v b H Q->
  wpAny (model X.prog X.w) X.A (assign a_ X.env u) (λ_ e=>∃b d,qv X a b d e/\Q b d) X.xe s
@[irreducible] def JG (X:Cx) (a_:Expr) (t:TG):Prop:=PG X a_ t
def JG.of(h:PG X a_ t):JG X a_ t:=by unfold JG;exact h
def JG.to(h:JG X a_ t):PG X a_ t:=by unfold JG at h;exact h
def IG(X:Cx)(ts:List Expr)(t:B6):Prop:=
 ∀(a:List (Addr×Obj)) (s:Shared) (b:St) (H:Hp) (d:List V) (e:List Value) (Q:St->Hp->Prop),qv X a b H s->qK d e->t d b H Q->
  wpAny (model X.prog X.w) X.A (assignInOrder ((assignEach ts X.env).map (·.2)) e) (λ_ e=>∃b d,qv X a b d e/\Q b d) X.xe s
@[irreducible] def NL (X:Cx) (ts:List Expr) (t:B6):Prop:=IG X ts t
def NL.of(h:IG X ts t):NL X ts t:=by unfold NL;exact h
def NL.to(h:NL X ts t):IG X ts t:=by unfold NL at h;exact h
abbrev Hf:=V->V->Hp->VK->Prop
def PIp(X:Cx)(op:Operator)(t:Hf):Prop:=
 ∀(a:List (Addr×Obj)) (s:Shared) (b:St) (H:Hp) (x y:V) (v u:Value) (Q:VK),qv X a b H s->qR x v->qR y u->t x y H Q->
  wpAny (model X.prog X.w) X.A (inplaceOp op v u) (EP X a b Q) X.xe s
def jF(i:Nat):TG:=λv a H Q=>Q (a.set i (some v)) H
def ji{X:Cx}(hN:X.N.Nodup)(a:X.N[i]?=some x)(b:NI X.env.scope x)(d:X.fn x=true\/X.env.scope.names.lookup x=some .local:=by first | exact .inl rfl | exact .inr rfl | assumption):JG X (.Name x pos) (jF i):=.of (by
 intro _ s _ H v u Q I e h;exact wpAny_assign_Name (Xf I hN a b e (λ_ a=>⟨_,H,a,h⟩) d))
def qz{X:Cx}(i:Nat)(a:X.fn x=true\/X.env.scope.names.lookup x=some .local:=by first | exact .inl rfl | exact .inr rfl | assumption)(hN:X.N.Nodup:=by first | assumption | exact ndC)(b:X.N[i]?=some x:=by exact rfl)(d:NI X.env.scope x:=by first | exact Or.inl rfl | exact Or.inr rfl):JG X (.Name x pos) (jF i):=ji hN b d a
def kI:B6:=λa b H Q=>a=[]/\Q b H
inductive R3(t:TG)(u:B6)(vs:List V)(σ:St)(H:Hp)(Q:St->Hp->Prop):Prop
 | mk (v:_) (r:_):(vs=v::r)->(t v σ H λeM H'=>u r eM H' Q)->R3 t u vs σ H Q
def Za(t:TG)(u:B6):B6:=λa b H Q=>R3 t u a b H Q
def j3:NL X [] kI:=.of (by
 intro _ s a H _ _ Q I b h;obtain⟨e,h⟩:=h;subst e;cases b;exact assignInOrder_nil ⟨a,H,I,h⟩)
def qH(a:JG X e t)(b:NL X es u)(j:(assignEach (e::es) X.env).map (·.2)=assign e X.env::(assignEach es X.env).map (·.2):=by rfl):NL X (e::es) (Za t u):=.of (by
 have a:=a.to;have b:=b.to;intro i s l H _ _ Q I d h;obtain⟨v,_,m,h⟩:=h;subst m;cases d with
 | cons d m=>
  rw[j];refine assignInOrder_cons (js (a i s l H _ _ _ I d h) λ_ a ⟨d,j,l,o⟩=>?_);exact b i a d j _ _ Q l m o)
inductive B1(K:zdM)(n:Nat)(t:B6)(v:V)(σ:St)(H:Hp)(Q:St->Hp->Prop):Prop
 | mk (a:_) (xs:_):v=.ref a->zZ K H a xs->xs.length=n->t xs σ H Q->B1 K n t v σ H Q
def kH(K:zdM)(n:Nat)(t:B6):TG:=λv a H Q=>B1 K n t v a H Q
def QH{X:Cx}(m:X.calm=true)(h:NL X es t)(o:(assignEach es X.env).length=n:=by rfl)(p:(assignEach es X.env).findIdx? (·.1)=none:=by rfl):JG X (.Tuple es k pos) (kH X.K n t):=.of (by
 have h:=h.to;intro i s j H v u Q I l d;obtain⟨a,q,r,x,y,d⟩:=d;subst r;cases l;obtain⟨_,l,r,_⟩:=I.tuple x;refine assign_Tuple_tuple (I.ok.hd m) r (by simp [o,<-y,l.length]) p λm o=>?_;have p:qv X i j H {s with heap:=m}:=I.kept (t':=s.toks) λb r e=>o b r (tS (tH e)) e;exact h i _ j H q _ Q p (by simpa using l) d)
def vL(te:TE)(g:TG):TS:=λD a H=>te a H λx b=>g x a b D.nx
def Dq{pos:Pos}(b:JE X e te)(d:JG X a g)(j:swapsWithSole [a] e pos.line X.env=pure false:=by rfl)(l:swappedStores [a] e X.env=pure none:=by rfl)(m:(assignEach [a] X.env).map (·.2)=[assign a X.env]:=by rfl):JS X (.Assign [a] e pos) (vL te g):=.of (by
 have b:=b.to;have d:=d.to;intro a s i H D I h;refine wpAny_Assign_stores (js (b a s i H _ I h) λv b ⟨x,o,p,r,u⟩=>?_) j l;rw[m];exact js (d a b i o x v _ p r u) λ_ _ q=>q)
def Ry{X:Cx}{pos:Pos}(hN:X.N.Nodup)(b:X.N[i]?=some x)(d:NI X.env.scope x)(a:JE X e te)(j:swapsWith e (some (.Name x l)) pos.line X.env=pure false:=by rfl)(m:X.fn x=true\/X.env.scope.names.lookup x=some .local:=by first | exact .inl rfl | exact .inr rfl | assumption):JS X (.Assign [.Name x l] e pos) (vL te (jF i)):=.of (by
 have a:=a.to;intro l s o H D I h;refine wpAny_Assign_Name (js (a l s o H _ I h) λv _ ⟨y,a,l,o,p⟩=>?_) j;exact Xf l hN b d o (λ_ b=>⟨_,a,b,p⟩) m)
def Je{pos:Pos}(i:Nat)(a:JE X e te)(b:swapsWith e (some (.Name x d)) pos.line X.env=pure false:=by rfl)(h:X.fn x=true\/X.env.scope.names.lookup x=some .local:=by first | exact .inl rfl | exact .inr rfl | assumption)(hN:X.N.Nodup:=by first | assumption | exact ndC)(j:X.N[i]?=some x:=by exact rfl)(l:NI X.env.scope x:=by exact Or.inr rfl):JS X (.Assign [.Name x d] e pos) (vL te (jF i)):=Ry hN j l a b h
def qG{pos:Pos}(i:Nat)(a:JE X e te)(b:X.N[i]?=some x:=by exact rfl)(d:NI X.env.scope x:=by exact Or.inl rfl)(h:swapsWith e (some (.Name x j)) pos.line X.env=pure false:=by rfl)(l:X.fn x=true\/X.env.scope.names.lookup x=some .local:=by first | exact .inl rfl | exact .inr rfl | assumption)(hN:X.N.Nodup:=by first | assumption | exact ndC):JS X (.Assign [.Name x j] e pos) (vL te (jF i)):=Ry hN b d a h l
inductive A7(i:Nat)(te:TE)(ti:Hf)(D:Jk)(σ:St)(H:Hp):Prop
 | mk (x:_):σ[i]?=some (some x)->(te σ H λy H1=>ti x y H1 λz H2=>D.nx (σ.set i (some z)) H2)->A7 i te ti D σ H
def Ht(i:Nat)(te:TE)(a:Hf):TS:=λD b H=>A7 i te a D b H
def RA{X:Cx}(hN:X.N.Nodup)(o:X.N[i]?=some x)(b:NI X.env.scope x)(d:JE X e te)(q:PIp X op r)(B:X.fn x=true\/X.env.scope.names.lookup x=some .local:=by first | exact .inl rfl | exact .inr rfl | assumption):JS X (.AugAssign (.Name x ab) op e pos) (Ht i te r):=.of (by
 have d:=d.to;intro j s p H D I h;obtain⟨v,C,h⟩:=h;obtain⟨m,J,L⟩:=I.loc;have O:D1 X.env.scope x:=by rcases b with k | k;exact .inl k;exact .inr (.inl k)
 obtain⟨u,l,Q⟩:=L i x v o C O;refine wpAny_AugAssign_Name ?_;have go:wpAny (model X.prog X.w) X.A (eval e X.env) (λw T=>wpAny (model X.prog X.w) X.A (inplaceOp op u w) (λl U=>wpAny (model X.prog X.w) X.A (storeName X.env x l) (λ_=>SP X j D .next) X.xe U) X.xe T) X.xe s:=by
  refine js (d j s p H _ I h) λw Y ⟨y,H1,I1,r1,q1⟩=>?_;refine js (q j Y p H1 v y u w _ I1 l r1 q1) λz s2 ⟨zv,H2,I2,r2,q2⟩=>?_;exact Xf I2 hN o b r2 (λs3 I3=>⟨_,H2,I3,q2⟩) B
 rcases Q with ⟨a,hm⟩ | ⟨a,c,hc,aa⟩
 ·exact wpAny_loadName_local I.ok.kind a J hm go
 ·rcases a with a | a
  ·exact wpAny_loadName_cell I.ok.kind a hc aa go
  ·rcases b with k | k
   ·have:X.env.scope.names.lookup x=some .free:=a;rw[k]at this;cases this
   ·have:X.env.scope.names.lookup x=some .free:=a;rw[k]at this;cases this)
def ipI(f:Int->Int->Int):Hf:=λx y H Q=>∃i a,x=.int i/\y=.int a/\Q (.int (f i a)) H
def RL:PIp X .Add (ipI λi j=>i+j):=by
 intro _ s _ H x y v u Q I a b h;obtain⟨i,j,d,e,q⟩:=h;subst d;subst e;obtain⟨t,rfl⟩:=a;obtain⟨_,rfl⟩:=b;exact iadd_int ⟨.int _,H,I.tok _,⟨_,rfl⟩,q⟩
inductive yg(c:TT)(tb:TS)(D:Jk)(σ:St)(H:Hp):Prop
 | mk (W:Nat->St->Hp->Prop):((∃m,W m σ H))->(∀m σ H,W m σ H->c σ H λb H1=>if b=true then ∃N:St->Hp->Prop,(∀eM H',N eM H'->∃m',m' < m/\W m' eM H')/\tb {D with nx:=N,ct:=N,bk:=D.nx} σ H1 else D.nx σ H1)->yg c tb D σ H
def uI(c:TT)(tb:TS):TS:=λD a H=>yg c tb D a H
def zF{X:Cx}(hp:PassesOwn (model X.prog X.w) X.A X.env X.xe)(l:JT X c L)(m:Wo X eF tb):JS X (.While c eF [] pos) (uI L tb):=.of (by
 have l:=l.to;have m:=m.to;intro o s O H D I h;obtain⟨W,⟨Q,T⟩,U⟩:=h;refine wpAny_While (codeAny_whileLoop (λn Y=>∃x y,qv X o x y Y/\W n x y) ?_ Q ⟨O,H,I,T⟩);rintro n s1 ⟨e,z,I1,w1⟩;refine wpAny_passesOwn hp (js (l o s1 e z _ I1 (U n e z w1)) λb s2 ⟨B,C,i⟩=>?_);cases b with
 | true=>
  obtain⟨N,J,i⟩:=i;rw[if_pos rfl];refine wpAny_passesOwn hp (js (m o s2 e B _ C i) λf s3 j=>?_);cases f with
  | next=>
   obtain⟨a,d,p,n3⟩:=j;obtain⟨q,r,u⟩:=J a d n3;exact⟨q,r,a,d,p,u⟩
  | cont=>
   obtain⟨a,d,p,n3⟩:=j;obtain⟨q,r,u⟩:=J a d n3;exact⟨q,r,a,d,p,u⟩
  | brk=>exact j
  | ret v=>exact j
 | false=>
  rw[if_neg tI];exact wpAny_execs_nil ⟨e,B,C,i⟩)
structure It where
 go:Nat->Hp->Prop
 yld:Nat->Hp->V->Hp->Prop
 stop:Nat->Hp->Prop
def zt(X:Cx)(a:List (Addr×Obj))(H:Hp)(b:Addr):Prop:=
 H b=none/\b≠X.env.locals/\b∉X.fs/\(b∈X.ex\/X.s₀.heap.objs.size<=b)/\(∀x c,X.env.cells.lookup x=some c->c≠b)/\∀d∈X.pn++a,d.1≠b
def qv.fpOk{H':Hp}(I:qv X d i H s)(a:s.heap.objs.size<=b)(h:H' b=none):zt X d H' b:=by
 refine⟨h,zbz (tF I.lt a),I.nofs a,.inr (tR I.sz a),λx c e z=>?_,λd h z=>?_⟩
 ·obtain⟨v,q⟩:=I.cell x c e;exact absurd (tF q.lt (by rw[z];exact a)) (zaF _)
 ·exact absurd (tF (tH (I.pin d h).1) (by rw[z];exact a)) (zaF _)
structure Wm(P:Program)(w:World)(K:zdM)(tg:Expr)(J:It)(fp:List Addr)(it:Addr)(tn:Nat->Heap->Prop):Prop where
 mem:it∈fp
 obj:∀i h,tn i h->∀b∈fp,∃o,h.get? b=some o/\∀v,o.data≠.cell v
 keep:∀i h h',tn i h->(∀b∈fp,∀o,h.get? b=some o->h'.get? b=some o)->tn i h'
 item:∀(X:Cx),X.prog=P->X.w=w->X.K=K->X.calm=true->∀(i:Nat) (el:List (Addr×Obj)) (s:Shared) (σ:St) (H:Hp) (E:Value->Shared->Prop),qv X el σ H s->(∀b∈fp,zt X el H b)->tn i s.heap->J.go i H->
  wpAny (model P w) X.A (pyNext (.ref it)) (λr s1=>∃u,r=some u/\
   wpAny (model P w) X.A (letOwnedTupleGo tg (.ref it) u) (λ_ s2=>∃x H',qv X el σ H' s2/\qR x u/\J.yld i H x H'/\tn (i+1) s2.heap/\∀b∈fp,H' b=none) E s1) E s
 done:∀(X:Cx),X.prog=P->X.w=w->X.K=K->X.calm=true->∀(i:Nat) (el:List (Addr×Obj)) (s:Shared) (σ:St) (H:Hp) (E:Value->Shared->Prop),qv X el σ H s->(∀b∈fp,zt X el H b)->tn i s.heap->J.stop i H->
  wpAny (model P w) X.A (pyNext (.ref it)) (λr s1=>r=none/\qv X el σ H s1) E s
 self:∀(A:Around) (i:Nat) (s:Shared) (Q:Value->Shared->Prop) (E:Value->Shared->Prop),tn i s.heap->Q (.ref it) s->wpAny (model P w) A (pyIter (.ref it)) Q E s
abbrev TI:=St->Hp->(It->Hp->Prop)->Prop
inductive IF(X:Cx)(el:List (Addr×Obj))(σ:St)(tg:Expr)(R:It->Hp->Prop)(ft:Value)(s2:Shared):Prop
 | mk (it:Addr) (fp:List Addr) (tn:Nat->Heap->Prop) (J:It) (H':Hp):ft=.ref it->qv X el σ H' s2->Wm X.prog X.w X.K tg J fp it tn->tn 0 s2.heap->((∀b∈fp,zt X el H' b))->R J H'->IF X el σ tg R ft s2
def PI(X:Cx)(d iter:Expr)(e:TI):Prop:=
 ∀(b:List (Addr×Obj)) (s:Shared) (a:St) (H:Hp) (R:It->Hp->Prop),qv X b a H s->e a H R->
  wpAny (model X.prog X.w) X.A (eval iter X.env) (λv e=>wpAny (model X.prog X.w) X.A (pyIter v) (IF X b a d R) X.xe e) X.xe s
@[irreducible] def JI (X:Cx) (a iter:Expr) (b:TI):Prop:=PI X a iter b
def JI.of(h:PI X a iter b):JI X a iter b:=by unfold JI;exact h
def JI.to(h:JI X a iter b):PI X a iter b:=by unfold JI at h;exact h
def WZ{s:Shared}{Q:Unit->Shared->Prop}(b:s.heap.get? it=some o)(d:o.cls=.type n)(hd:o.data=.fields vs)(e:["enumerate","zip","dict_itemiterator","dict_reverseitemiterator","odict_iterator","itertools.zip_longest","itertools.pairwise"].contains n=false)(a:Q () s):wpAny M A (letOwnedTupleGo i (.ref it) u) Q E s:=by
 unfold letOwnedTupleGo;cases i<;>first
   | exact zdP a
   | (cases u<;>first
       | exact zdP a
       | (refine zdO (wpAny_load b ?_)
          rw[d,hd];show wpAny M A (if (["enumerate","zip","dict_itemiterator","dict_reverseitemiterator","odict_iterator","itertools.zip_longest","itertools.pairwise"].contains n&&vs[0]?==some (rawInt _))=true then _ else _) Q E s;rw[if_neg (by intro h;rw[e,zcA]at h;cases h)];exact zdP a))
def AQ(K:zdM)(a:Addr):It:=
 ⟨λi H=>∃b x,Q6 K H a b/\b[i]?=some x,λi H x d=>d=H/\∀b,Q6 K H a b->b[i]?=some x,λi H=>∃b,Q6 K H a b/\b.length<=i⟩
def B9(K:zdM)(a:Addr):It:=
 ⟨λi H=>∃b x,zZ K H a b/\b[i]?=some x,λi H x d=>d=H/\∀b,zZ K H a b->b[i]?=some x,λi H=>∃b,zZ K H a b/\b.length<=i⟩
def Ca(lo:Int)(n:Nat):It:=⟨λi _=>i < n,λi H x a=>a=H/\x=.int (lo+i),λi _=>n<=i⟩
def xT{P:Program}{w:World}{K:zdM}{j:Expr}(a it:Addr):Wm P w K j (AQ K a) [it] it (λi h=>h.IsListIter it a i) where
 mem:=by simp
 obj:=λi h st b j=>by
  have e:b=it:=by simpa using j
  subst e;obtain⟨l,e,c,d⟩:=st;exact⟨l,e,λv z=>by rw[d]at z;cases z⟩
 keep:=λi h m st k=>st.at λl e=>k it (by simp) l e
 item:=by
  intro X q r y U i Y s σ H E I o st B;subst q r y;obtain⟨xs,x,p,C⟩:=B;obtain⟨ab,D,J,hz⟩:=I.list p;obtain⟨u,hu,ru⟩:=D.get C;obtain⟨L,f1,f2,O,Q,T⟩:=o it (by simp);refine wpAny_pyNext_list_item st J.isList (x:=u) (by simpa using hu) λm aa sb=>?_;have I1:qv X Y σ H {s with heap:=m}:=I.turned (t':=s.toks) (λb l j e=>(sb.2 b j).trans e) L f1 O Q T;obtain⟨l,e,c,d⟩:=id aa;exact⟨u,rfl,WZ (s:={s with heap:=m}) e c d (by decide) ⟨x,H,I1,ru,⟨rfl,λ_ hy=>by rw[I.list_inj hy p];exact C⟩,aa,λb j=>(o b j).1⟩⟩
 done:=by
  intro X q r y U i Y s σ H E I o st B;subst q r y;obtain⟨xs,p,C⟩:=B;obtain⟨ab,D,J,hz⟩:=I.list p;obtain⟨L,f1,f2,O,Q,T⟩:=o it (by simp);have o:=D.length;exact wpAny_pyNext_list_end (I.ok.hd U) st J.isList (by simp;omega) λm m=>⟨rfl,I.turned (t':=s.toks) (λb l j e=>m b l j e) L f1 O Q T⟩
 self:=λ_ _ _ _ _ st h=>wpAny_pyIter_listiter st h
def vE{P:Program}{w:World}{K:zdM}{j:Expr}(a it:Addr):Wm P w K j (B9 K a) [it] it (λi h=>h.IsTupleIter it a i) where
 mem:=by simp
 obj:=λi h st b j=>by
  have e:b=it:=by simpa using j
  subst e;obtain⟨l,e,c,d⟩:=st;exact⟨l,e,λv z=>by rw[d]at z;cases z⟩
 keep:=λi h m st k=>st.at λl e=>k it (by simp) l e
 item:=by
  intro X q r y Y i aa s σ H E I o st B;subst q r y;obtain⟨xs,x,p,C⟩:=B;obtain⟨D,J,L,hz⟩:=I.tuple p;obtain⟨u,hu,ru⟩:=J.get C;obtain⟨O,f1,f2,Q,T,U⟩:=o it (by simp);refine wpAny_pyNext_tuple_item st (show s.heap.IsTuple a D.toArray from L) (x:=u) (by simpa using hu) λm ab sb=>?_;have I1:qv X aa σ H {s with heap:=m}:=I.turned (t':=s.toks) (λb l j e=>(sb.2 b j).trans e) O f1 Q T U;obtain⟨l,e,c,d⟩:=id ab;exact⟨u,rfl,WZ (s:={s with heap:=m}) e c d (by decide) ⟨x,H,I1,ru,⟨rfl,λ_ hy=>by rw[I.tuple_inj hy p];exact C⟩,ab,λb j=>(o b j).1⟩⟩
 done:=by
  intro X q r y Y i aa s σ H E I o st B;subst q r y;obtain⟨xs,p,C⟩:=B;obtain⟨D,J,L,hz⟩:=I.tuple p;obtain⟨O,f1,f2,Q,T,U⟩:=o it (by simp);have o:=J.length;exact wpAny_pyNext_tuple_end (I.ok.hd Y) st (show s.heap.IsTuple a D.toArray from L) (by simp;omega) λm m=>⟨rfl,I.turned (t':=s.toks) (λb l j e=>m b l j e) O f1 Q T U⟩
 self:=λ_ _ _ _ _ st h=>wpAny_pyIter_tupleiter st h
def vF{P:Program}{w:World}{K:zdM}{a:Expr}(it:Addr)(lo:Int)(n:Nat):Wm P w K a (Ca lo n) [it] it (λi h=>IsRangeIter h it (lo+(i:Nat)*1) ((n:Int) - (i:Nat)) 1) where
 mem:=by simp
 obj:=λi h st b a=>by
  have e:b=it:=by simpa using a
  subst e;exact⟨_,st,λv z=>by
   have d:Data.fields _=Data.cell v:=z;cases d⟩
 keep:=λi h d st k=>k it (by simp) _ st
 item:=by
  intro X l m o p i C s D H E I j st q;subst l m o;obtain⟨r,f1,f2,u,x,y⟩:=j it (by simp);have W:=Walks.range (prog:=X.prog) (w:=X.w) (I.ok.hd p) it lo 1 n;refine W.item i s _ _ q st λv d tk B J L=>?_;obtain⟨t,rfl⟩:=B;have O:qv X C D H {s with heap:=d,toks:=tk}:=I.turned (λb B a e=>L b B (by simpa using a) e) r f1 u x y;refine⟨_,rfl,WZ (s:={s with heap:=d,toks:=tk}) (n:="range_iterator") J rfl rfl (by decide) ⟨.int (lo+i),H,O,⟨t,?_⟩,⟨rfl,rfl⟩,J,λb a=>(j b a).1⟩⟩;rw[Int.mul_one]
 done:=by
  intro X l m o p i C s D H E I j st q;subst l m o;obtain⟨r,f1,f2,u,x,y⟩:=j it (by simp);exact wpAny_pyNext_range_end (I.ok.hd p) st (by have:n<=i:=q;omega) λd d=>⟨rfl,I.turned (t':=s.toks) (λb B a e=>d b B a e) r f1 u x y⟩
 self:=λ_ _ _ _ _ st h=>wpAny_pyIter_rangeiter st h
open PyProof.Rows hiding K lo
inductive RT(K:zdM)(R:It->Hp->Prop)(x:V)(H1:Hp):Prop
 | mk (a:_):x=.ref a->((∃xs,Q6 K H1 a xs))->(R (AQ K a) H1)->RT K R x H1
def vm(K:zdM)(a:TE):TI:=λb H R=>a b H λx a=>RT K R x a
inductive BX(K:zdM)(R:It->Hp->Prop)(x:V)(H1:Hp):Prop
 | mk (a:_):x=.ref a->((∃xs,zZ K H1 a xs))->(R (B9 K a) H1)->BX K R x H1
def FI(K:zdM)(a:TE):TI:=λb H R=>a b H λx a=>BX K R x a
def qy(d:JE X l i):JI X j l (vm X.K i):=.of (by
 have d:=d.to;intro i s j H R I h;refine js (d i s j H _ I h) λv d ⟨x,j,i,m,o⟩=>?_;obtain⟨a,e,⟨_,p⟩,q⟩:=o;subst e;cases m;obtain⟨_,_,m,_⟩:=i.list p;refine wpAny_pyIter_list m.isList ?_;refine⟨d.heap.objs.size,[d.heap.objs.size],_,_,j,rfl,i.kept (t':=d.toks) λb _ e=>tm _ e,xT a _,⟨_,tJ _ rfl,rfl,rfl⟩,λb j=>?_,q⟩;have e:b=d.heap.objs.size:=by simpa using j
 subst e;exact i.fpOk (tf _) (i.hok.fresh (tf _)))
def zj(d:JE X l i):JI X j l (FI X.K i):=.of (by
 have d:=d.to;intro i s j H R I h;refine js (d i s j H _ I h) λv d ⟨x,j,i,m,o⟩=>?_;obtain⟨a,e,⟨_,p⟩,q⟩:=o;subst e;cases m;obtain⟨m,_,o,_⟩:=i.tuple p;refine wpAny_pyIter_tuple (show d.heap.IsTuple a m.toArray from o) ?_;refine⟨d.heap.objs.size,[d.heap.objs.size],_,_,j,rfl,i.kept (t':=d.toks) λb _ e=>tm _ e,vE a _,⟨_,tJ _ rfl,rfl,rfl⟩,λb j=>?_,q⟩;have e:b=d.heap.objs.size:=by simpa using j
 subst e;exact i.fpOk (tf _) (i.hok.fresh (tf _)))
def KY{X:Cx}{i:Expr}{d:List (Addr×Obj)}{h:St}{H:Hp}{s:Shared}{R:It->Hp->Prop}{E:Value->Shared->Prop}{lo a:Int}{t u v:Tok}{tk:Nat}(I:qv X d h H s)(j:-(2^62)<=lo)(l:lo < 2^62)(m:-(2^62)<=a)(o:a < 2^62)
  (q:R (Ca lo (a - lo).toNat) H):wpAny (model X.prog X.w) X.A (pyIter (.ref s.heap.objs.size)) (IF X d h i R) E {s with heap:=s.heap.push {cls:=.type "range",data:=.fields #[.int lo t,.int a u,.int 1 v]},toks:=tk}:=by
 refine wpAny_pyIter_range (IsRange.new ..) (small_one j l m o) ?_;have i:qv X d h H {s with heap:=s.heap.push {cls:=.type "range",data:=.fields #[.int lo t,.int a u,.int 1 v]},toks:=tk}:=I.kept λb j e=>tm _ e;refine⟨(s.heap.push {cls:=.type "range",data:=.fields #[.int lo t,.int a u,.int 1 v]}).objs.size,[(s.heap.push {cls:=.type "range",data:=.fields #[.int lo t,.int a u,.int 1 v]}).objs.size],_,_,H,rfl,
  i.kept (t':=tk) λb j e=>tm _ e,vF _ lo (a - lo).toNat,?_,λb d=>?_,q⟩
 ·have h:lo+((0:Nat):Int)*1=lo:=by simp
  have j:(((a - lo).toNat:Nat):Int) - ((0:Nat):Int)=Builtin.Range.rangeSize lo a 1:=by rw[rangeSize_one];split<;>omega
  show IsRangeIter _ _ (lo+((0:Nat):Int)*1) ((((a - lo).toNat:Nat):Int) - ((0:Nat):Int)) 1;rw[h,j];exact tJ _ rfl
 ·have e:b=(s.heap.push {cls:=.type "range",data:=.fields #[.int lo t,.int a u,.int 1 v]}).objs.size:=by simpa using d
  subst e;exact i.fpOk (tf _) (i.hok.fresh (tf _))
inductive RS(R:It->Hp->Prop)(vs:List V)(H1:Hp):Prop
 | mk (j:Int):vs=[.int j]->(-(2^62)<=j)->(j < 2^62)->(R (Ca 0 j.toNat) H1)->RS R vs H1
def FJ(a:TA):TI:=λb H R=>a b H λa b=>RS R a b
def jq{X:Cx}{i:Expr}{a:Expr}{d:TA}{p pos:Pos}(j:Gl X "range")(l:X.mg "range"=none)(b:JA X [a] d)(m:starEach [a] X.env=[(false,eval a X.env)]:=by rfl):JI X i (.Call (.Name "range" p) [a] [] pos) (FJ d):=.of (by
 have b:=b.to;intro d s i H R I h;refine Call_ (J1 I j l boot_range (PyProof.Rows.callWith_type1 (js (b pos d s i H _ I h) λ_ _ ⟨_,_,d,i,b⟩=>?_) m rfl));obtain⟨_,e,b,j,q⟩:=b;subst e;cases i with
 | cons i l=>
  cases l;obtain⟨t,rfl⟩:=i;exact call_range_1 (KY d (by omega) (by omega) b j (by simpa using q)))
def uQ(b:TI)(g:TG)(tb:TS):TS:=λD a H=>b a H λd b=>∃W:Nat->Nat->St->Hp->Prop,(∃m,W 0 m a b)/\∀i m a H,W i m a H->
 (d.stop i H/\D.nx a H)\/(d.go i H/\∃N:St->Hp->Prop,(∀e b,N e b->∃h,h < m/\W (i+1) h e b)/\∀x b,d.yld i H x b->g x a b λa b=>tb {D with nx:=N,ct:=N,bk:=D.nx} a b)
def Xz(fp:List Addr)(h:Heap):List (Addr×Obj):=fp.filterMap λb=>(h.get? b).map λa=>(b,a)
def Zk{h:Heap}(a:b∈fp)(e:h.get? b=some o):(b,o)∈Xz fp h:=zaC.mpr ⟨b,a,by rw[e];rfl⟩
def wA(hp:p∈Xz fp h):p.1∈fp/\h.get? p.1=some p.2:=by
 obtain⟨b,a,e⟩:=zaC.mp hp;cases q:h.get? b with
 | none=>rw[q]at e;cases e
 | some d=>
  rw[q]at e;have i:(b,d)=p:=tA.inj e;subst i;exact⟨a,q⟩
def qv.pinned{fp:List Addr}(I:qv X a h H s)(i:∀b∈fp,zt X a H b)(j:∀b∈fp,∃o,s.heap.get? b=some o/\∀v,o.data≠.cell v):qv X (a++Xz fp s.heap) h H s:=
 I.pins_of λa h=>(tN.mp h).elim (λz=>I.pin a (tU _ z)) λz=>by
  obtain⟨h,e⟩:=wA z;obtain⟨l,f1,f2,_⟩:=i a.1 h;obtain⟨o,i,d⟩:=j a.1 h;rw[e]at i;cases i;exact⟨e,l,f1,f2,d⟩
def qv.unpinned(I:qv X (a++pl) b H s):qv X a b H s:=I.pins_of λa b=>I.pin a (tU _ (tV _ b))
def qP(J:JI X Y iter wi)(L:JG X Y g)(a:Wo X eF tb)(hs:∀x,foldedSetIterable iter X.env x=pure x:=by intro _;rfl)(hp:PassesOwn (model X.prog X.w) X.A X.env X.xe:=by exact PassesOwn.never)(hc:X.calm=true:=by exact rfl):JS X (.For Y iter eF [] pos) (uQ wi g tb):=.of (by
 have J:=J.to;have L:=L.to;have a:=a.to;intro r s σ H D I h;refine wpAny_For (js (J r s σ H _ I h) λv s1 h1=>js h1 λaj s2 h2=>?_) hs;obtain⟨it,fp,tn,ak,H2,e,I2,y,ac,f2,W,⟨m0,w0⟩,ae⟩:=h2;subst e;have O:∀{p:Hp},(∀b∈fp,p b=none)->∀b∈fp,zt X r p b:=λhn b a=>⟨hn b a,(f2 b a).2⟩;refine codeAny_forLoop_any (λn s'=>∃i z p,qv X r z p s'/\tn i s'.heap/\(∀b∈fp,p b=none)/\W i n z p) ?_ m0 ⟨0,σ,H2,I2,ac,λb a=>(f2 b a).1,w0⟩;rintro n s3 ⟨i,B,C,I3,aa,ab,w3⟩;rcases ae i n B C w3 with ⟨stop,qn⟩ | ⟨go,N,hN,step⟩
 ·refine wpAny_passesOwn hp (js (y.done X rfl rfl rfl hc i r s3 B C X.xe I3 (O ab) aa stop) λaf s4 ⟨hr,I4⟩=>?_);subst hr;exact wpAny_execs_nil ⟨B,C,I4,qn⟩
 ·refine wpAny_passesOwn hp (js (y.item X rfl rfl rfl hc i r s3 B C X.xe I3 (O ab) aa go) λaf s4 ⟨u,hr,h4⟩=>?_);subst hr;refine wpAny_passesOwn hp (js h4 λ_ s5 ⟨x,H5,I5,r5,y5,Q,ag⟩=>?_);have ah:=I5.pinned (O ag) (y.obj _ _ Q);refine wpAny_passesOwn hp (js (L _ s5 B H5 x u _ ah r5 (step x H5 y5)) λ_ s6 ⟨ai,H6,I6,q6⟩=>?_);refine wpAny_passesOwn hp (js (a _ s6 ai H6 _ I6 q6) λf T q=>?_);have again:∀{j:St} {l:Hp},qv X (r++Xz fp s5.heap) j l T->N j l->∃m,m < n/\∃i z p,qv X r z p T/\tn i T.heap/\(∀b∈fp,p b=none)/\W i m z p:=λ{j l} o n7=>by
   obtain⟨m',hm,w7⟩:=hN j l n7;refine⟨m',hm,i+1,j,l,o.unpinned,y.keep _ _ _ Q λb a U e=>(o.pin (b,U) (tU _ (tU _ (Zk a e)))).1,λb a=>?_,w7⟩;obtain⟨U,e,d⟩:=y.obj _ _ Q b a;exact(o.pin (b,U) (tU _ (tU _ (Zk a e)))).2.1
  cases f with
  | next=>obtain⟨j,l,o,n7⟩:=q;exact again o n7
  | cont=>obtain⟨j,l,o,n7⟩:=q;exact again o n7
  | brk=>obtain⟨j,l,o,q⟩:=q;exact⟨j,l,o.unpinned,q⟩
  | ret v=>obtain⟨x7,j,l,o,r7,q⟩:=q;exact⟨x7,j,l,o.unpinned,r7,q⟩)
def jb{K:zdM}{a:Addr}{xs:List V}{g:TG}{tb:TS}{D:Jk}{b:St}{H:Hp}(Pv:Nat->St->Hp->Prop)(o:Pv 0 b H)(p:∀i b H,i<=xs.length->Pv i b H->Q6 K H a xs)
  (r:∀i x b H,xs[i]?=some x->Pv i b H->g x b H λd h=>tb {D with nx:=Pv (i+1),ct:=Pv (i+1),bk:=D.nx} d h) (hd:∀b H,Pv xs.length b H->D.nx b H):
  ∃W:Nat->Nat->St->Hp->Prop,(∃m,W 0 m b H)/\∀i m b H,W i m b H->
   ((AQ K a).stop i H/\D.nx b H)\/((AQ K a).go i H/\∃N:St->Hp->Prop,(∀j H',N j H'->∃l,l < m/\W (i+1) l j H')/\∀x H',(AQ K a).yld i H x H'->g x b H' λd h=>tb {D with nx:=N,ct:=N,bk:=D.nx} d h):=by
 refine⟨λi m b H=>m=xs.length - i/\i<=xs.length/\Pv i b H,⟨xs.length,by simp,zat _,o⟩,?_⟩;rintro i m b H ⟨rfl,h,d⟩;have q:=p i b H h d;by_cases h:i < xs.length
 ·refine .inr ⟨⟨xs,xs[i],q,by simp [h]⟩,Pv (i+1),λj H' j=>⟨xs.length - (i+1),by omega,rfl,h,j⟩,λx H' y=>?_⟩;obtain⟨e,y⟩:=y;subst e;exact r i x b _ (y xs q) d
 ·have e:i=xs.length:=by omega
  subst e;exact .inl ⟨⟨xs,q,tf _⟩,hd b H d⟩
def xr{K:zdM}{a:Addr}{xs:List V}{g:TG}{tb:TS}{D:Jk}{b:St}{H:Hp}(Pv:Nat->St->Hp->Prop)(o:Pv 0 b H)(p:∀i b H,i<=xs.length->Pv i b H->zZ K H a xs)
  (r:∀i x b H,xs[i]?=some x->Pv i b H->g x b H λd h=>tb {D with nx:=Pv (i+1),ct:=Pv (i+1),bk:=D.nx} d h) (hd:∀b H,Pv xs.length b H->D.nx b H):
  ∃W:Nat->Nat->St->Hp->Prop,(∃m,W 0 m b H)/\∀i m b H,W i m b H->
   ((B9 K a).stop i H/\D.nx b H)\/((B9 K a).go i H/\∃N:St->Hp->Prop,(∀j H',N j H'->∃l,l < m/\W (i+1) l j H')/\∀x H',(B9 K a).yld i H x H'->g x b H' λd h=>tb {D with nx:=N,ct:=N,bk:=D.nx} d h):=by
 refine⟨λi m b H=>m=xs.length - i/\i<=xs.length/\Pv i b H,⟨xs.length,by simp,zat _,o⟩,?_⟩;rintro i m b H ⟨rfl,h,d⟩;have q:=p i b H h d;by_cases h:i < xs.length
 ·refine .inr ⟨⟨xs,xs[i],q,by simp [h]⟩,Pv (i+1),λj H' j=>⟨xs.length - (i+1),by omega,rfl,h,j⟩,λx H' y=>?_⟩;obtain⟨e,y⟩:=y;subst e;exact r i x b _ (y xs q) d
 ·have e:i=xs.length:=by omega
  subst e;exact .inl ⟨⟨xs,q,tf _⟩,hd b H d⟩
def Q0{lo:Int}{n:Nat}{g:TG}{tb:TS}{D:Jk}{a:St}{H:Hp}(Pv:Nat->St->Hp->Prop)(l:Pv 0 a H)
  (o:∀i a H,i < n->Pv i a H->g (.int (lo+i)) a H λb d=>tb {D with nx:=Pv (i+1),ct:=Pv (i+1),bk:=D.nx} b d) (hd:∀a H,Pv n a H->D.nx a H):
  ∃W:Nat->Nat->St->Hp->Prop,(∃m,W 0 m a H)/\∀i m a H,W i m a H->
   ((Ca lo n).stop i H/\D.nx a H)\/((Ca lo n).go i H/\∃N:St->Hp->Prop,(∀h H',N h H'->∃j,j < m/\W (i+1) j h H')/\∀x H',(Ca lo n).yld i H x H'->g x a H' λb d=>tb {D with nx:=N,ct:=N,bk:=D.nx} b d):=by
 refine⟨λi m a H=>m=n - i/\i<=n/\Pv i a H,⟨n,by simp,zat _,l⟩,?_⟩;rintro i m a H ⟨rfl,_,d⟩;by_cases b:i < n
 ·refine .inr ⟨b,Pv (i+1),λh H' h=>⟨n - (i+1),by omega,rfl,b,h⟩,λx H' y=>?_⟩;obtain⟨e,y⟩:=y;subst e y;exact o i a _ b d
 ·have e:i=n:=by omega
  subst e;exact .inl ⟨tf _,hd a H d⟩
def zw{c:TT}{tb:TS}(Pv:St->Hp->Prop)(h:St->Hp->Nat)(j:Pv a H)(l:∀a H,Pv a H->c a H λb d=>if b=true then tb {D with nx:=λe H'=>Pv e H'/\h e H' < h a H,ct:=λe H'=>Pv e H'/\h e H' < h a H,bk:=D.nx} a d else D.nx a d)(mono:∀a H Q i,(∀b d,Q b d->i b d)->c a H Q->c a H i):uI c tb D a H:=by
 refine⟨λm a H=>m=h a H/\Pv a H,⟨_,rfl,j⟩,?_⟩;rintro m a H ⟨rfl,h⟩;refine mono a H _ _ (λb d q=>?_) (l a H h);cases b with
 | true=>exact⟨_,λe H' ⟨a,d⟩=>⟨_,d,rfl,a⟩,q⟩
 | false=>exact q
open PyProof.Rows hiding K lo
abbrev R2:=V->V->Hp->VK->Prop
def Z0(X:Cx)(f:Value->Value->Sem Value)(r:R2):Prop:=
 ∀(a:List (Addr×Obj)) (s:Shared) (b:St) (H:Hp) (x y:V) (v u:Value) (Q:VK),qv X a b H s->qR x v->qR y u->r x y H Q->
  wpAny (model X.prog X.w) X.A (f v u) (EP X a b Q) X.xe s
def Jh(X:Cx)(f:Value)(r:List V->Hp->VK->Prop):Prop:=
 ∀(a:List (Addr×Obj)) (s:Shared) (b:St) (H:Hp) (d:List V) (e:List Value) (Q:VK),qv X a b H s->qK d e->r d H Q->
  wpAny (model X.prog X.w) X.A (call f e) (EP X a b Q) X.xe s
def Zr(r:R2)(b tb:TE):TE:=λa H Q=>b a H λx b=>tb a b λy a=>r x y a Q
inductive rI_(C:Int->Int->Prop)(g:Int->Int->V)(x:V)(y:V)(H:Hp)(Q:VK):Prop
 | mk (i:_) (j:_):x=.int i->y=.int j->C i j->(Q (g i j) H)->rI_ C g x y H Q
def rI(C:Int->Int->Prop)(g:Int->Int->V):R2:=λx y H Q=>rI_ C g x y H Q
inductive ER(g:Int->Int->V)(x:V)(y:V)(H:Hp)(Q:VK):Prop
 | mk (i:_) (j:_):x=.int i->y=.int j->(Q (g i j) H)->ER g x y H Q
def wm(g:Int->Int->V):R2:=λx y H Q=>ER g x y H Q
def DM(m:PE X a o)(p:PE X b tb){R:V->V->Hp->Prop}(I:qv X j e H s)(h:o e H λx l=>tb e l λy d=>R x y d){f:Value->Value->Sem Value}(q:∀v u i x y d,qv X j e d i->qR x v->qR y u->R x y d->wpAny (model X.prog X.w) X.A (f v u) Q X.xe i):
  wpAny (model X.prog X.w) X.A (eval a X.env) (λv r=>wpAny (model X.prog X.w) X.A (eval b X.env) (λu z=>wpAny (model X.prog X.w) X.A (f v u) Q X.xe z) X.xe r) X.xe s:=by
 refine js (m j s e H _ I h) λv m ⟨x,l,o,r,z⟩=>?_;refine js (p j m e l _ o z) λu i ⟨y,d,e,j,l⟩=>?_;exact q v u i x y d e r j l
def qM(i:Z0 X (binaryOp op) r)(d:JE X a j)(e:JE X b tb):JE X (.BinOp a op b pos) (Zr r j tb):=.of (by
 have d:=d.to;have e:=e.to;intro j s l H Q I h;exact wpAny_BinOp (DM d e I h λv u d x y e m o p q=>i j d l e x y v u Q m o p q))
def CU{X:Cx}{f:Value->Value->Sem Value}{C:Int->Int->Prop}{g:Int->Int->Int}(rule:∀(i j:Int) (t u:Tok) (s:Shared) (Q:Value->Shared->Prop) (E:Value->Shared->Prop),C i j->Q (.int (g i j) s.toks) {s with toks:=s.toks+1}->wpAny (model X.prog X.w) X.A (f (.int i t) (.int j u)) Q E s):
  Z0 X f (rI C λi j=>.int (g i j)):=by
 intro _ s _ H x y v u Q I a b h;obtain⟨i,j,rfl,rfl,d,q⟩:=h;obtain⟨t,rfl⟩:=a;obtain⟨a,rfl⟩:=b;exact rule i j t a s _ _ d ⟨.int (g i j),H,I.tok _,⟨_,rfl⟩,q⟩
def Gq{X:Cx}{f:Value->Value->Sem Value}{g:Int->Int->Int}(rule:∀(i j:Int) (t u:Tok) (s:Shared) (Q:Value->Shared->Prop) (E:Value->Shared->Prop),Q (.int (g i j) s.toks) {s with toks:=s.toks+1}->wpAny (model X.prog X.w) X.A (f (.int i t) (.int j u)) Q E s):
  Z0 X f (wm λi j=>.int (g i j)):=by
 intro _ s _ H x y v u Q I a b h;obtain⟨i,j,rfl,rfl,q⟩:=h;obtain⟨t,rfl⟩:=a;obtain⟨a,rfl⟩:=b;exact rule i j t a s _ _ ⟨.int (g i j),H,I.tok _,⟨_,rfl⟩,q⟩
def MS{X:Cx}{f:Value->Value->Sem Value}{g:Int->Int->Bool}(rule:∀(i j:Int) (t u:Tok) (s:Shared) (Q:Value->Shared->Prop) (E:Value->Shared->Prop),Q (.bool (g i j)) s->wpAny (model X.prog X.w) X.A (f (.int i t) (.int j u)) Q E s):
  Z0 X f (wm λi j=>.bl (g i j)):=by
 intro _ s _ H x y v u Q I a b h;obtain⟨i,j,rfl,rfl,q⟩:=h;obtain⟨t,rfl⟩:=a;obtain⟨a,rfl⟩:=b;exact rule i j t a s _ _ ⟨.bl (g i j),H,I,rfl,q⟩
def IM(i j:Int):Prop:=0 < j/\j < 1073741824
def AS(i j:Int):Prop:=0<=j/\j<=1000000/\i.natAbs < 2^64
def DT(i j:Int):Prop:=(-(2^64) < i/\i < 2^64)\/(-(2^64) < j/\j < 2^64)
def DT.ok(h:DT i j):IntMulOk i j:=by
 rcases h with ⟨a,b⟩ | ⟨a,b⟩
 ·exact .of_left (intBits_le_64 a b)
 ·exact .of_right (intBits_le_64 a b)
def vD(k:Nat):(0:Int)<=2^k:=by
 rw[two_pow_cast];exact zbI _
def J0:Z0 X (binaryOp .Add) (wm λi j=>.int (i+j)):=Gq λ_ _ _ _ _ _ _ q=>add_int q
def CQ:Z0 X (binaryOp .Sub) (wm λi j=>.int (i - j)):=Gq λ_ _ _ _ _ _ _ q=>sub_int q
def Zi:Z0 X (binaryOp .Mult) (rI DT λi j=>.int (i*j)):=CU λ_ _ _ _ _ _ _ a q=>mul_int q a.ok
def MR:Z0 X (binaryOp .FloorDiv) (rI IM λi j=>.int (i / j)):=CU λi j _ _ _ _ _ a q=>by
 have b:(0:Int) < j:=a.1;have b:j < 1073741824:=a.2;exact floordiv_int (by omega) (by rw[zbU i (by omega)];exact q) (.inl (PyProof.noPylong_small (by omega)))
def JZ:Z0 X (binaryOp .Mod) (rI (λ_ j=>0 < j) λi j=>.int (i % j)):=CU λi j _ _ _ _ _ a q=>by
 have b:(0:Int) < j:=a;exact mod_int' (by omega) (by rw[Int.fmod_eq_emod_of_nonneg i (by omega)];exact q)
def CS:Z0 X (binaryOp .Pow) (rI AS λi j=>.int (i^j.toNat)):=CU λ_ _ _ _ _ _ _ a q=>pow_int_small a.1 a.2.1 a.2.2 q
def kg:Z0 X (binaryOp .LShift) (rI AS λi j=>.int (i*2^j.toNat)):=CU λ_ _ _ _ _ _ _ a q=>lshift_int_small a.1 a.2.1 a.2.2 q
def Gm:Z0 X (binaryOp .RShift) (rI (λ_ j=>0<=j) λi j=>.int (i / 2^j.toNat)):=CU λi j _ _ _ _ _ a q=>
 rshift_int a (by rw[zbU i (vD _)];exact q)
def Gp:Z0 X (binaryOp .BitAnd) (wm λi j=>.int (Builtin.bitAnd i j)):=Gq λ_ _ _ _ _ _ _ q=>and_int q
def EZ:Z0 X (binaryOp .BitOr) (wm λi j=>.int (Builtin.bitOr i j)):=Gq λ_ _ _ _ _ _ _ q=>or_int q
def VJ:Z0 X (binaryOp .BitXor) (wm λi j=>.int (Builtin.bitXor i j)):=Gq λ_ _ _ _ _ _ _ q=>xor_int q
def Eu:V->V->Bool
 | .non,.non=>true | .non,.int _=>true | .int _,.non=>true | .non,.bl _=>true | .bl _,.non=>true | .non,.str _=>true | .str _,.non=>true
 | .int _,.int _=>true | .bl _,.bl _=>true | .str _,.str _=>true | .byt _,.byt _=>true
 | .int _,.str _=>true | .str _,.int _=>true | .bl _,.str _=>true | .str _,.bl _=>true
 | _,_=>false
def rEq:R2:=λx y H Q=>Eu x y=true/\Q (.bl (decide (x=y))) H
def rNe:R2:=λx y H Q=>Eu x y=true/\Q (.bl (!decide (x=y))) H
def xw:decide (V.int i=V.int j)=(i==j):=by
 rw[zaq];simp
def Nn:decide (V.bl i=V.bl j)=(i==j):=by
 rw[zaq];simp
def xv:decide (V.str i=V.str j)=(i==j):=by
 rw[zaq];simp
def xx:decide (V.byt i=V.byt j)=(i.toList==j.toList):=by
 rw[zaq];cases i;cases j;simp
def jg{Q:VK}(I:qv X a b H s)(q:Q (.bl k) H)(e:k=d):EP X a b Q (.bool d) s:=by
 subst e;exact⟨.bl k,H,I,rfl,q⟩
def QM:Z0 X (compareOp .Eq) rEq:=by
 intro _ s _ H x y v u Q I j a h;obtain⟨e,q⟩:=h;cases x with
 | non=>
  cases j;cases y with
  | non=>cases a;exact PySem.EqNone.eq_none_none (jg I q (by simp))
  | bl b=>cases a;exact PySem.EqNone.eq_none_bool (jg I q (by simp))
  | int b=>obtain⟨d,rfl⟩:=a;exact PySem.EqNone.eq_none_int (jg I q (by simp))
  | str b=>obtain⟨d,rfl⟩:=a;exact PySem.EqNone.eq_none_str (jg I q (by simp))
  | _=>exact absurd (show false=true from e) tI
 | bl i=>
  cases j;cases y with
  | non=>cases a;exact PySem.EqNone.eq_bool_none (jg I q (by simp))
  | bl b=>cases a;exact eq_bool (jg I q Nn)
  | str b=>obtain⟨d,rfl⟩:=a;exact PySem.EqMixed.eq_bool_str (jg I q (by simp))
  | _=>exact absurd (show false=true from e) tI
 | int i=>
  obtain⟨t,rfl⟩:=j;cases y with
  | non=>cases a;exact PySem.EqNone.eq_int_none (jg I q (by simp))
  | int b=>obtain⟨d,rfl⟩:=a;exact eq_int (jg I q xw)
  | str b=>obtain⟨d,rfl⟩:=a;exact PySem.EqMixed.eq_int_str (jg I q (by simp))
  | _=>exact absurd (show false=true from e) tI
 | str i=>
  obtain⟨t,rfl⟩:=j;cases y with
  | non=>cases a;exact PySem.EqNone.eq_str_none (jg I q (by simp))
  | bl b=>cases a;exact PySem.EqMixed.eq_str_bool (jg I q (by simp))
  | int b=>obtain⟨d,rfl⟩:=a;exact PySem.EqMixed.eq_str_int (jg I q (by simp))
  | str b=>obtain⟨d,rfl⟩:=a;exact eq_str (jg I q xv)
  | _=>exact absurd (show false=true from e) tI
 | byt i=>
  obtain⟨t,rfl⟩:=j;cases y with
  | byt b=>obtain⟨d,rfl⟩:=a;exact PySem.W.eq_bytes (jg I q xx)
  | _=>exact absurd (show false=true from e) tI
 | _=>cases y<;>exact absurd (show false=true from e) tI
def WP:Z0 X (compareOp .NotEq) rNe:=by
 intro _ s _ H x y v u Q I j a h;obtain⟨e,q⟩:=h;cases x with
 | non=>
  cases j;cases y with
  | non=>cases a;exact PySem.EqNone.ne_none_none (jg I q (by simp))
  | bl b=>cases a;exact PySem.EqNone.ne_none_bool (jg I q (by simp))
  | int b=>obtain⟨d,rfl⟩:=a;exact PySem.EqNone.ne_none_int (jg I q (by simp))
  | str b=>obtain⟨d,rfl⟩:=a;exact PySem.EqNone.ne_none_str (jg I q (by simp))
  | _=>exact absurd (show false=true from e) tI
 | bl i=>
  cases j;cases y with
  | non=>cases a;exact PySem.EqNone.ne_bool_none (jg I q (by simp))
  | bl b=>cases a;exact ne_bool (jg I q (congrArg not Nn))
  | str b=>obtain⟨d,rfl⟩:=a;exact PySem.EqMixed.ne_bool_str (jg I q (by simp))
  | _=>exact absurd (show false=true from e) tI
 | int i=>
  obtain⟨t,rfl⟩:=j;cases y with
  | non=>cases a;exact PySem.EqNone.ne_int_none (jg I q (by simp))
  | int b=>obtain⟨d,rfl⟩:=a;exact ne_int (jg I q (congrArg not xw))
  | str b=>obtain⟨d,rfl⟩:=a;exact PySem.EqMixed.ne_int_str (jg I q (by simp))
  | _=>exact absurd (show false=true from e) tI
 | str i=>
  obtain⟨t,rfl⟩:=j;cases y with
  | non=>cases a;exact PySem.EqNone.ne_str_none (jg I q (by simp))
  | bl b=>cases a;exact PySem.EqMixed.ne_str_bool (jg I q (by simp))
  | int b=>obtain⟨d,rfl⟩:=a;exact PySem.EqMixed.ne_str_int (jg I q (by simp))
  | str b=>obtain⟨d,rfl⟩:=a;exact ne_str (jg I q (congrArg not xv))
  | _=>exact absurd (show false=true from e) tI
 | byt i=>
  obtain⟨t,rfl⟩:=j;cases y with
  | byt b=>obtain⟨d,rfl⟩:=a;exact PySem.W.ne_bytes (jg I q (congrArg not xx))
  | _=>exact absurd (show false=true from e) tI
 | _=>cases y<;>exact absurd (show false=true from e) tI
def JD:Z0 X (compareOp .Lt) (wm λi j=>.bl (decide (i < j))):=MS λ_ _ _ _ _ _ _ q=>lt_int q
def y1:Z0 X (compareOp .LtE) (wm λi j=>.bl (decide (i<=j))):=MS λ_ _ _ _ _ _ _ q=>le_int q
def J7:Z0 X (compareOp .Gt) (wm λi j=>.bl (decide (j < i))):=MS λ_ _ _ _ _ _ _ q=>gt_int q
def Gn:Z0 X (compareOp .GtE) (wm λi j=>.bl (decide (j<=i))):=MS λ_ _ _ _ _ _ _ q=>ge_int q
def ww:Z0 X (compareOp .In) (λx y H Q=>∃i j,x=.str i/\y=.str j/\Q (.bl (!(Builtin.Str.occurrences j i 0 j.length 1).isEmpty)) H):=by
 intro _ s _ H x y v u Q I a b h;obtain⟨i,j,rfl,rfl,q⟩:=h;obtain⟨t,rfl⟩:=a;obtain⟨_,rfl⟩:=b;exact in_str (jg I q rfl)
def Ra(b:Expr)(h:op≠.In:=by decide)(a:op≠.NotIn:=by decide):behindInMarks op b=false:=by
 have d:(op==CmpOp.In)=false:=by cases op<;>first | rfl | exact absurd rfl h
 have e:(op==CmpOp.NotIn)=false:=by cases op<;>first | rfl | exact absurd rfl a
 cases b<;>simp [behindInMarks,d,e]
def Qe(i:Z0 X (compareOp op) r)(d:JE X a j)(e:JE X b tb)(l:behindInMarks op b=false:=by exact Ra _):JE X (.Compare a [op] [b] pos) (Zr r j tb):=.of (by
 have d:=d.to;have e:=e.to;intro j s m H Q I h;exact wpAny_Compare1 (DM d e I h λv u d x y e o p z q=>i j d m e x y v u Q o p z q) l)
def zx(t:TE):TT:=λa H Q=>t a H λx a=>∃k,x=.bl k/\Q k a
def qo(m:Z0 X (compareOp op) r)(d:JE X a j)(i:JE X b tb)(o:behindInMarks op b=false:=by exact Ra _):JT X (.Compare a [op] [b] pos) (zx (Zr r j tb)):=.of (by
 have d:=d.to;have i:=i.to;intro j s l H Q I h;refine wpAny_isTrue_Compare1 (js (d j s l H _ I h) λv d ⟨x,p,q,B,C⟩=>js (i j d l p _ q C) λu d ⟨y,i,p,q,C⟩=>
  js (m j d l i x y v u _ p B q C) λc _ ⟨z,d,i,j,k,e,l⟩=>?_) o
 subst e;cases j;exact wpAny_truthy_bool ⟨d,i,l⟩)
def XI:(zdR:Nat) < 2^63:=by rw[sizeLine_eq];decide
def Zj:Z0 X (binaryOp .Add) (λx y H Q=>∃i j,x=.str i/\y=.str j/\i.length+j.length<=zdR/\Q (.str (i++j)) H):=by
 intro _ s _ H x y v u Q I a b h;obtain⟨i,j,rfl,rfl,d,q⟩:=h;obtain⟨t,rfl⟩:=a;obtain⟨a,rfl⟩:=b;exact add_str (λa tk=>⟨.str (i++j),H,I.tok _,⟨_,rfl⟩,q⟩) d
def JL(r:qK [x] us):∃u,us=[u]/\qR x u:=by
 cases r with
 | cons a b=>cases b;exact⟨_,rfl,a⟩
def uA(r:qK [x,y] us):∃u a,us=[u,a]/\qR x u/\qR y a:=by
 cases r with
 | cons a b=>
  cases b with
  | cons b d=>cases d;exact⟨_,_,rfl,a,b⟩
def W5{X:Cx}(a:X.calm=true):Jh X (.builtin "max") (λxs H Q=>∃i j,xs=[.int i,.int j]/\Q (.int (if j > i then j else i)) H):=by
 intro _ s _ H xs _ Q I b h;obtain⟨i,j,rfl,q⟩:=h;obtain⟨u,_,rfl,⟨t,rfl⟩,⟨_,rfl⟩⟩:=uA b;refine max_two_ints (I.ok.hd a) λ_ tk k=>⟨_,H,I.kept k,?_,q⟩;by_cases a:j > i
 ·rw[if_pos a,if_pos a];exact⟨_,rfl⟩
 ·rw[if_neg a,if_neg a];exact⟨_,rfl⟩
def uh{X:Cx}(a:X.calm=true):Jh X (.builtin "min") (λxs H Q=>∃i j,xs=[.int i,.int j]/\Q (.int (if j < i then j else i)) H):=by
 intro _ s _ H xs _ Q I b h;obtain⟨i,j,rfl,q⟩:=h;obtain⟨u,_,rfl,⟨t,rfl⟩,⟨_,rfl⟩⟩:=uA b;refine min_two_ints (I.ok.hd a) λ_ tk k=>⟨_,H,I.kept k,?_,q⟩;by_cases a:j < i
 ·rw[if_pos a,if_pos a];exact⟨_,rfl⟩
 ·rw[if_neg a,if_neg a];exact⟨_,rfl⟩
def W6:Jh X (.type "int") (λxs H Q=>(∃i,xs=[.int i]/\Q (.int i) H)\/∃k,xs=[.bl k]/\Q (.int (if k then 1 else 0)) H):=by
 intro _ s _ H xs _ Q I a h;rcases h with ⟨i,rfl,q⟩ | ⟨k,rfl,q⟩
 ·obtain⟨u,rfl,t,rfl⟩:=JL a;exact call_int_int ⟨.int i,H,I,⟨_,rfl⟩,q⟩
 ·obtain⟨u,rfl,b⟩:=JL a;cases b;exact call_int_bool ⟨.int (if k then 1 else 0),H,I.tok _,⟨_,rfl⟩,q⟩
open PyProof.Rows hiding K lo
structure kX(h:Heap)(x dx C:Addr)(mA:Str->Option Value):Prop where
 obj:h.get? x=some (zbs C dx)
 ns:h.Ns1 dx mA
 ne:dx≠x
def wJ{h:Heap}(n:h.Ns1 i j):∃b,h.get? i=some b/\∀name,zcB name b=some (j name):=by
 obtain⟨l,d,x,m,hd,o,_,p⟩:=n;refine⟨l,m,λname=>?_⟩;have e:=p name;unfold nsFind findBy at e;rw[<-Array.find?_toList]at e;unfold zcB;rw[hd]
 try dsimp only
 split
 ·rename_i y q;rw[q]at e;exact congrArg some e
 ·rename_i q;rw[q]at e;have a:d.toList.any (·.refKey)=false:=by
   rw[List.any_eq_false];intro y r;obtain⟨z,t,u⟩:=o y (Array.mem_toList_iff.mp r);simp [DictEntry.refKey,u]
  have v:¬d.toList.any (·.refKey)=true:=by rw[a];exact tI
  rw[if_neg v];exact congrArg some e
def kX.look(I:kX h x b C d):∃a,PySem.W.InstAt h x (zbs C b) C (some a)/\∀name,zcB name a=some (d name):=
 let ⟨a,b,d⟩:=wJ I.ns
 ⟨a,⟨I.obj,rfl,rfl,b⟩,d⟩
def Ay{s:Shared}{K:zdM}{Q:Value->Shared->Prop}(X:K.In s.heap)(I:kX s.heap x l C a)(b:zbv K C name=true)(d:zbr K C=true)(e:tX K (.ref C) name=some none)(i:a name=some v)(j:zdG v=true)(h:Q v {s with toks:=s.toks+1}):
  wpAny (model prog w) A (getAttr (.ref x) name expr) Q E s:=by
 obtain⟨_,a,l⟩:=I.look;exact PySem.W.get_value X a (zcv b).1 (PySem.W.findObj_own d e rfl (by rw[l,i])) j h
def RZ{s:Shared}{K:zdM}{Q:Value×List Value->Shared->Prop}(X:K.In s.heap)(I:kX s.heap x j C b)(a:zbv K C name=true)(d:tX K (.ref C) name=some (some (.ref f)))(e:zbu K (.ref f)=true)(i:b name=none)(h:Q (.ref f,[.ref x]) s):
  wpAny (model prog w) A (getMethod (.ref x) name pl) Q E s:=by
 obtain⟨b,j,l⟩:=I.look;exact PySem.W.method_fn X j (zcv a).1 (zcv a).2 d (beq_iff_eq.mp e) (by show (zcB name b).map (·.isSome)=some false;rw[l,i];rfl) h
def Mi{s:Shared}{K:zdM}{Q:Unit->Shared->Prop}(X:K.In s.heap)(I:kX s.heap x a C d)(e:tX K (.ref C) "__setattr__"=some (some (.builtin "object.__setattr__")))(hp:zbS K C=true)(i:zdc K C name=some none)(j:zbr K C=true)(l:PySem.Within d ns)(hsz:ns.length<=zdR)(h:∀h',kX h' x a C (λy=>if y=name then some v else d y)->Heap.SameBut a s.heap h'->Q () {s with heap:=h',toks:=s.toks+2}):
  wpAny (model prog w) A (setAttr (.ref x) name v) Q E s:=by
 obtain⟨_,d,_⟩:=I.look;refine PySem.W.set_plain X d e (PySem.W.osa_open (s:={s with toks:=s.toks+1}) (r:=none) X d hp i λb=>?_);obtain⟨_,d,e⟩:=PySem.W.any_some j;have i:s.heap.get? x=some ⟨.ref C,some a,.plain,#[]⟩:=I.obj;refine zdO (zdP (zdO (zdO (wpAny_loadPart i (zdO (PySem.W.Looks.here (s:={s with toks:=s.toks+1}) (PySem.W.looks_clsIn X d) ?_))))));rw[e];refine zdP (a:=some a) (zdO (zdP (zdO ?_)));refine wpAny_nsSet1 (s:={s with toks:=s.toks+1}) I.ns λh' a d=>?_;obtain⟨_,_,_,e,i,j⟩:=a.count (PySem.Within.cons name v l);refine zdO (wpAny_lookBehind e (by rw[i];exact pastItsLine_dict (tR j (by rw[zab];omega))) ?_);exact zdP (h _ ⟨(d.2 _ (Ne.symm I.ne)).trans I.obj,a,I.ne⟩ d)
def Rj{A:Around}{s:Shared}{K:zdM}(X:K.In s.heap)(b:zcd K C=true)(e:tX K (.ref C) "__init__"=some (some (.ref f)))(i:zdL K (.ref f)=some (.type "function")) (h:codeAny (model prog w) (A.under (.builtin "type.__call__" ⟨.ref C::vs,a⟩)) (.call (.ref f) ⟨.ref (s.heap.objs.size+1)::vs,a⟩) (PySem.W.InitBack (s.heap.objs.size+1) R)
   {s with heap:=(s.heap.push zaM).push (zbs C s.heap.objs.size)}):
  codeAny (model prog w) A (.call (.ref C) ⟨vs,a⟩) R s:=by
 obtain⟨_,g,d,t,os⟩:=s;exact PySem.W.make_core (PySem.W.makes_of X b) (zdk X e) (λself=>PySem.W.bind_fn X self i) (.inl rfl) h
def Zf(f:Str)(v:V):List (Str×V)->List (Str×V)
 | []=>[(f,v)]
 | (g,x)::a=>if g=f then (g,v)::a else (g,x)::Zf f v a
def YB(f g:Str)(v:V):∀fs:List (Str×V),(Zf f v fs).lookup g=if g=f then some v else fs.lookup g
 | []=>by
  show zaZ g [(f,v)]=_;by_cases h:g=f
  ·have a:(g==f)=true:=beq_iff_eq.mpr h;simp only[zaZ,a,if_pos h]
  ·have a:(g==f)=false:=beq_eq_false_iff_ne.mpr h;simp only[zaZ,a,if_neg h]
 | (k,x)::b=>by
  have d:=YB f g v b;rw[show Zf f v ((k,x)::b)=(if k=f then (k,v)::b else (k,x)::Zf f v b) from rfl];by_cases b:k=f
  ·rw[if_pos b];by_cases h:g=k
   ·have a:(g==k)=true:=beq_iff_eq.mpr h;simp only[zaZ,a,if_pos (h.trans b)]
   ·have a:(g==k)=false:=beq_eq_false_iff_ne.mpr h;simp only[zaZ,a,if_neg (λe:g=f=>h (e.trans b.symm))]
  ·rw[if_neg b];by_cases h:g=k
   ·have a:(g==k)=true:=beq_iff_eq.mpr h;simp only[zaZ,a,if_neg (λe:g=f=>b (h.symm.trans e))]
   ·have a:(g==k)=false:=beq_eq_false_iff_ne.mpr h;simp only[zaZ,a];exact d
def Yk(f:Str)(v:V):∀fs:List (Str×V),f∈(Zf f v fs).map (·.1)/\∀g,g∈fs.map (·.1)->g∈(Zf f v fs).map (·.1)
 | []=>⟨by simp [Zf],λg h=>by simp at h⟩
 | (k,x)::a=>by
  obtain⟨b,d⟩:=Yk f v a;rw[show Zf f v ((k,x)::a)=(if k=f then (k,v)::a else (k,x)::Zf f v a) from rfl];by_cases a:k=f
  ·rw[if_pos a];subst a;exact⟨by simp,λg h=>by simpa using h⟩
  ·rw[if_neg a];refine⟨?_,λg h=>?_⟩
   ·rw[tM];exact tG _ b
   ·rw[tM]at h ⊢;rcases tL.mp h with e | e
    ·exact tL.mpr (.inl e)
    ·exact tG _ (d g e)
def YC(f:Str)(v:V):∀fs:List (Str×V),(Zf f v fs).length<=fs.length+1
 | []=>by simp [Zf]
 | (k,x)::a=>by
  have b:=YC f v a;rw[show Zf f v ((k,x)::a)=(if k=f then (k,v)::a else (k,x)::Zf f v a) from rfl];by_cases a:k=f
  ·rw[if_pos a,zab,zab];omega
  ·rw[if_neg a,zab,zab];omega
def Zq.some_of(r:Zq (some v) o):∃u,o=some u/\qR v u:=by
 cases o with
 | none=>exact(show False from r).elim
 | some u=>exact⟨u,rfl,r⟩
def Zq.none_of(r:Zq none o):o=none:=by
 cases o with
 | none=>rfl
 | some u=>exact(show False from r).elim
def wY(r:qR v u):zdG u=true:=by
 cases v with
 | non=>cases (show u=Value.none from r);rfl
 | bl b=>cases (show u=Value.bool b from r);rfl
 | int i=>obtain⟨t,e⟩:=(show ∃t,u=Value.int i t from r);cases e;rfl
 | str x=>obtain⟨t,e⟩:=(show ∃t,u=Value.str x t from r);cases e;rfl
 | byt b=>obtain⟨t,e⟩:=(show ∃t,u=Value.bytes b t from r);cases e;rfl
 | flt b=>obtain⟨t,e⟩:=(show ∃t,u=Value.float b t from r);cases e;rfl
 | ref a=>cases (show u=Value.ref a from r);rfl
 | ty n=>cases (show u=Value.type n from r);rfl
def Y9(hok:Zd P w H h)(e:H a=some (.ins C i fs)):∃b,kX h a i C b/\(∀f,Zq (fs.lookup f) (b f))/\PySem.Within b (fs.map (·.1))/\fs.length<=1000/\H i=some (.own a):=by
 obtain⟨d,z,ne,j,b,n,l,q⟩:=(show qI P w H h a (.ins C i fs) from hok a _ e);exact⟨b,⟨j,n,ne⟩,l,q,z,d⟩
structure Xc(K:zdM)(C:Addr):Prop where
 pg:zbv K C Str.empty=true
 hd:zbr K C=true
 po:zbS K C=true
 sa:tX K (.ref C) "__setattr__"=some (some (.builtin "object.__setattr__"))
def Xc.get{K:zdM}{C:Addr}(c:Xc K C)(f:Str):zbv K C f=true:=c.pg
def Qu(K:zdM)(C:Addr)(f:Str):Prop:=tX K (.ref C) f=some none
def Qu.taker{K:zdM}{C:Addr}{f:Str}(n:Qu K C f):zdc K C f=some none:=by
 unfold zdc;rw[show tX K (.ref C) f=some none from n];rfl
structure Wn(K:zdM)(C:Addr)(m:Str)(f:Addr):Prop where
 at_:tX K (.ref C) m=some (some (.ref f))
 fn:zbu K (.ref f)=true
 kp:zaD K (.ref f)=true
def kG{Q:Value->Shared->Prop}(I:qv X i j H s)(e:H a=some (.ins C m fs))(c:Xc X.K C)(n:Qu X.K C f)(l:fs.lookup f=some v)(h:∀u d,qv X i j H d->qR v u->Q u d):wpAny (model X.prog X.w) A (getAttr (.ref a) f b) Q E s:=by
 obtain⟨i,O,j,_,_,_⟩:=Y9 I.hok e;obtain⟨u,hu,d⟩:=Zq.some_of (v:=v) (o:=i f) (by rw[<-l];exact j f);exact Ay I.kIn O (c.get f) c.hd n hu (wY d) (h u _ (I.tok _) d)
def QZ{Q:Value×List Value->Shared->Prop}(I:qv X b d H s)(e:H a=some (.ins C i fs))(c:Xc X.K C)(k:Wn X.K C m g)(l:fs.lookup m=none)(h:Q (.ref g,[.ref a]) s):wpAny (model X.prog X.w) A (getMethod (.ref a) m pl) Q E s:=by
 obtain⟨b,O,d,_,_,_⟩:=Y9 I.hok e;have i:b m=none:=Zq.none_of (by rw[<-l];exact d m);exact RZ I.kIn O (c.get m) k.at_ k.fn i h
def vP{Q:Unit->Shared->Prop}(I:qv X j l H s)(e:H a=some (.ins C d fs))(c:Xc X.K C)(n:Qu X.K C f)(m:fs.length < 1000)(p:qR y u)(h:∀i,qv X j l (upd H a (.ins C d (Zf f y fs))) i->Q () i):wpAny (model X.prog X.w) A (setAttr (.ref a) f u) Q E s:=by
 obtain⟨l,O,r,m,_,o⟩:=Y9 I.hok e;have i:(fs.map (·.1)).length<=zdR:=by rw[ta,sizeLine_eq];omega
 refine Mi I.kIn O c.sa c.po n.taker c.hd m i λv i x=>h _ ?_;have hd:∃j,v.get? d=some j:=let ⟨j,_,_,B,_⟩:=i.ns;⟨j,B⟩;refine I.write (x:=a) (e:=d) (by rw[e];exact True.intro) (.inr o) (λb q d z=>(x.2 b d).trans z) hd ?_;refine⟨by rw[qc O.ne];exact o,?_,O.ne,i.obj,_,i.ns,λg=>?_,λg d=>?_⟩
 ·have:=YC f y fs;omega
 ·show Zq ((Zf f y fs).lookup g) (if g=f then some u else l g);rw[YB];by_cases q:g=f
  ·rw[if_pos q,if_pos q];exact p
  ·rw[if_neg q,if_neg q];exact r g
 ·by_cases q:g=f
  ·rw[q];exact(Yk f y fs).1
  ·refine(Yk f y fs).2 g (m g λz=>d ?_);show (if g=f then some u else l g)=none;rw[if_neg q];exact z
def qv.made(I:qv X a d H s):qv X a d (upd (upd H s.heap.objs.size (.own (s.heap.objs.size+1))) (s.heap.objs.size+1) (.ins C s.heap.objs.size []))
  {s with heap:=(s.heap.push zaM).push (zbs C s.heap.objs.size)}:=by
 have a:(s.heap.push zaM).get? s.heap.objs.size=some zaM:=tJ s.heap rfl;have d:((s.heap.push zaM).push (zbs C s.heap.objs.size)).get? (s.heap.objs.size+1)=some (zbs C s.heap.objs.size):=by
  have:=tJ (s.heap.push zaM) (o:=zbs C s.heap.objs.size) rfl;rwa [zbf]at this
 have h:(s.heap.push zaM).Ns s.heap.objs.size (λ_=>none):=⟨zaM,#[],_,a,rfl,(λe i=>absurd i (by simp)),λ_=>rfl⟩;have i:=I.laid (a:=s.heap.objs.size) (o:=.own (s.heap.objs.size+1)) (h':=s.heap.push zaM) (t':=s.toks) (λb u q=>tm _ q) (tf _) ⟨_,a⟩;refine i.laid (a:=s.heap.objs.size+1) (o:=.ins C s.heap.objs.size []) (t':=s.toks) (λb u q=>tm _ q) (zcX (zbf _ _)) ?_;have ne:s.heap.objs.size≠s.heap.objs.size+1:=tS (zba _);refine⟨by rw[qc ne,qa],zat _,ne,d,λ_=>none,(Heap.Ns1.of_empty h).at λ_ q=>tm _ q,λ_=>True.intro,λy a=>absurd rfl a⟩
def AL(a:attributeBase e f env (eval e env)=eval e env)(h:wpAny (model prog w) A (eval e env) (λo b=>wpAny (model prog w) A (getAttr o f true) Q E b) E s):wpAny (model prog w) A (eval (.Attribute e f pos) env) Q E s:=
 Attribute_any_ h (by rw[arm_eval_Attribute,a])
inductive A5(K:zdM)(f:Str)(Q:VK)(x:V)(H1:Hp):Prop
 | mk (a:_) (C:_) (dx:_) (fs:_) (v:_):x=.ref a->H1 a=some (.ins C dx fs)->Xc K C->Qu K C f->fs.lookup f=some v->Q v H1->A5 K f Q x H1
def Eb(K:zdM)(a:TE)(f:Str):TE:=λb H Q=>a b H λx a=>A5 K f Q x a
inductive Bw(K:zdM)(f:Str)(D:Jk)(σ:St)(y:V)(x:V)(H2:Hp):Prop
 | mk (a:_) (C:_) (dx:_) (fs:_):x=.ref a->H2 a=some (.ins C dx fs)->Xc K C->Qu K C f->(fs.length < 1000)->(D.nx σ (upd H2 a (.ins C dx (Zf f y fs))))->Bw K f D σ y x H2
def HZ(K:zdM)(b d:TE)(f:Str):TS:=λD a H=>d a H λy d=>b a d λx b=>Bw K f D a y x b
def QI(b:JE X e d)(i:attributeBase e f X.env (eval e X.env)=eval e X.env):JE X (.Attribute e f pos) (Eb X.K d f):=.of (by
 have b:=b.to;intro d s j H Q I h;refine AL i (js (b d s j H _ I h) λu _ ⟨x,b,d,i,a,_,_,fs,v,ex,j,c,n,l,q⟩=>?_);subst ex;obtain rfl:u=Value.ref a:=i;exact kG d j c n l λ_ _ d i=>⟨v,b,d,i,q⟩)
def VX{pos:Pos}(b:JE X o e)(d:JE X d8 i)(j:swapsWith d8 (some (.Attribute o f l)) pos.line X.env=pure false):JS X (.Assign [.Attribute o f l] d8 pos) (HZ X.K e i f):=.of (by
 have b:=b.to;have d:=d.to;intro i s e H D I h;refine plainObj_wpAny_Assign_Attribute (js (d i s e H _ I h) λu d ⟨y,l,m,p,q⟩=>js (b i d e l _ m q) λb _ ⟨x,_,d,i,a,_,_,fs,ex,l,c,n,m,r⟩=>?_) j;subst ex;obtain rfl:b=Value.ref a:=i;exact vP d l c n m p λ_ b=>⟨e,_,b,r⟩)
inductive Yv(K:zdM)(H:Hp):V->Value->Prop where
 | non:Yv K H .non (.type "NoneType")
 | bl (x:Bool):Yv K H (.bl x) (.type "bool")
 | int (i:Int):Yv K H (.int i) (.type "int")
 | str (x:Str):Yv K H (.str x) (.type "str")
 | flt (x:UInt64):Yv K H (.flt x) (.type "float")
 | lst {a:Addr} {xs:List V} (e:H a=some (.lst xs)):Yv K H (.ref a) (.type "list")
 | frz {a:Addr} {o:Obj} {xs:List V} (e:H a=some (.frz o (.lst xs))):Yv K H (.ref a) (.type "list")
 | tup {a:Addr} {xs:List V} (e:H a=some (.tup xs)):Yv K H (.ref a) (.type "tuple")
 | dK {a:Addr} {kvs:List (qF×V)} (e:H a=some (.dK kvs)):Yv K H (.ref a) (.type "dict")
 | dT {a:Addr} {kvs:List (List qF×V)} (e:H a=some (.dT kvs)):Yv K H (.ref a) (.type "dict")
 | ins {a C dx:Addr} {fs:List (Str×V)} (e:H a=some (.ins C dx fs)) (cl:Xc K C) (ha:tX K (.ref C) "__class__"=some (some (.builtin "object.__class__")))
  (hn:zdx K (.builtin "object.__class__") "__get__"=some (some (.builtin "getset_descriptor.__get__"))) (fQ:zdK K (.builtin "object.__class__")=some true)
  (hm:zca K C (.type "object")=some true):Yv K H (.ref a) (.ref C)
def wQ{Q:Value->Shared->Prop}(I:qv X j l H s)(d:qR x u)(ty:Yv X.K H x t)(e:zaN X.K t c=some b)(h:∀tk,Q (.bool b) {s with toks:=tk}):
  wpAny (model X.prog X.w) A (call (.builtin "isinstance") [u,c]) Q E s:=by
 cases ty with
 | non=>cases (show u=Value.none from d);exact zaQ PySem.W.kitx_none I.kIn True.intro e (λz=>nomatch z) h
 | bl y=>cases (show u=Value.bool y from d);exact zaQ PySem.W.kitx_bool I.kIn True.intro e (λz=>nomatch z) h
 | int i=>obtain⟨t,q⟩:=(show ∃t,u=Value.int i t from d);cases q;exact zaQ PySem.W.kitx_int I.kIn True.intro e (λz=>nomatch z) h
 | str y=>obtain⟨t,q⟩:=(show ∃t,u=Value.str y t from d);cases q;exact zaQ PySem.W.kitx_str I.kIn True.intro e (λz=>nomatch z) h
 | flt y=>obtain⟨t,q⟩:=(show ∃t,u=Value.float y t from d);cases q;exact zaQ PySem.W.kitx_float I.kIn True.intro e (λz=>nomatch z) h
 | @lst a m j=>
  cases (show u=Value.ref a from d);obtain⟨_,_,n,_,l⟩:=(show qI X.prog X.w H s.heap a (.lst m) from I.hok a _ j);exact zaQ zdy I.kIn ⟨_,l,rfl⟩ e (λz=>nomatch z) h
 | @frz a o m j=>
  cases (show u=Value.ref a from d);obtain⟨_,_,_,n,_,l⟩:=(show qI X.prog X.w H s.heap a (.frz o (.lst m)) from I.hok a _ j);exact zaQ zdy I.kIn ⟨_,l,rfl⟩ e (λz=>nomatch z) h
 | @tup a m j=>
  cases (show u=Value.ref a from d);obtain⟨_,_,_,r⟩:=(show qI X.prog X.w H s.heap a (.tup m) from I.hok a _ j);obtain⟨o,l,p,_⟩:=r;exact zaQ PySem.W.kitx_tuple I.kIn ⟨o,l,p⟩ e (λz=>nomatch z) h
 | @dK a kvs j=>
  cases (show u=Value.ref a from d);obtain⟨_,_,_,_,r⟩:=(show qI X.prog X.w H s.heap a (.dK kvs) from I.hok a _ j);obtain⟨o,v,B,l,p,_⟩:=r;exact zaQ zdz I.kIn ⟨o,l,p.1⟩ e (λz=>nomatch z) h
 | @dT a kvs j=>
  cases (show u=Value.ref a from d);obtain⟨_,_,m,_,o,v,B,l,p,_⟩:=(show qI X.prog X.w H s.heap a (.dT kvs) from I.hok a _ j);exact zaQ zdz I.kIn ⟨o,l,p.1⟩ e (λz=>nomatch z) h
 | @ins a v B fs j l m o p r=>
  cases (show u=Value.ref a from d);obtain⟨_,O,_⟩:=Y9 I.hok j;obtain⟨_,d,_⟩:=O.look;exact zaQ (PySem.W.kitx_own (l.get _) l.hd m o p r) I.kIn d e (λz=>nomatch z) h
open PyProof.Rows hiding K lo
structure jd(k:Nat)(A:Around):Prop where
 hd:A.handled=none
 dp:A.depth+3*k+5 < recursionLimit
 un:A.units+16*k+200 < cLine
 gd:A.guards=some []
def jd.mono(r:jd k A)(h:j<=k):jd j A:=⟨r.hd,by have:=r.dp;omega,by have:=r.un;omega,r.gd⟩
def jd.deeper(r:jd (k+1) A)(env:Env):jd k (A.deeper env):=
 ⟨r.hd,by have:=r.dp;show A.depth+1+3*k+5 < _;omega,by have:=r.un;show A.units+3+16*k+200 < _;omega,r.gd⟩
def kt{A:Around}:(A.under (.builtin "type.__call__" ⟨.ref C::us,a⟩)).depth=A.depth+1:=by
 first | rfl | simp [Around.under,Code.weight,Code.isCreation,Code.isGuard,Code.isCaller,Code.frames,Code.isFrame,guardIds]
def kr{A:Around}:(A.under (.builtin "type.__call__" ⟨.ref C::us,a⟩)).units=A.units+1:=by
 first | rfl | simp [Around.under,Code.cUnits,Code.frames,Code.isFrame]
def jd.make(r:jd (k+1) A)(C:Addr)(us:List Value)(a:List (Str×Value)):jd k (A.under (.builtin "type.__call__" ⟨.ref C::us,a⟩)):=
 ⟨r.hd,by have:=r.dp;rw[kt];omega,by have:=r.un;rw[kr];omega,(by have:=r.gd;first | exact this | simpa [Around.under,Code.isGuard,guardIds] using this)⟩
def jd.depth(r:jd k A):A.depth < recursionLimit:=by have:=r.dp;omega
def jd.units(r:jd k A):A.units+64 < cLine:=by have:=r.un;omega
def jJ:TA:=λ_ H Q=>Q [] H
def qB(b:TE)(d:TA):TA:=λa H Q=>b a H λx b=>d a b λa b=>Q (x::a) b
def jT:JA X [] jJ:=.of (by
 exact λ_ _ _ _ H Q I h=>Calls.spliced_nil ⟨[],H,I,.nil,h⟩)
def jy(a:JE X e te)(hr:JA X es t)(i:starEach (e::es) X.env=(false,eval e X.env)::starEach es X.env:=by rfl):JA X (e::es) (qB te t):=.of (by
 have a:=a.to;have hr:=hr.to;intro pos b s d H Q I h;rw[i];show wpAny _ _ (spliced ((false,eval e X.env)::backTo pos (starEach es X.env))) _ _ s;refine Calls.spliced_cons (js (a b s d H _ I h) λu a ⟨x,i,j,l,m⟩=>?_);exact js (hr pos b a d i _ j m) λ_ _ ⟨a,b,d,i,j⟩=>⟨x::a,b,d,.cons l i,j⟩)
def qT(b:JE X a d)(e:starEach [a] X.env=(false,eval a X.env)::starEach [] X.env:=by rfl):JA X [a] (qB d jJ):=(jy b jT e)
def jQ(d:JE X b e)(h:JE X a i)(j:starEach [b,a] X.env=(false,eval b X.env)::starEach [a] X.env:=by rfl)(l:starEach [a] X.env=(false,eval a X.env)::starEach [] X.env:=by rfl):JA X [b,a] (qB e (qB i jJ)):=(jy d (jy h jT l) j)
def kA(e:JE X d h)(i:JE X b j)(l:JE X a m)(o:starEach [d,b,a] X.env=(false,eval d X.env)::starEach [b,a] X.env:=by rfl)(p:starEach [b,a] X.env=(false,eval b X.env)::starEach [a] X.env:=by rfl)(q:starEach [a] X.env=(false,eval a X.env)::starEach [] X.env:=by rfl):JA X [d,b,a] (qB h (qB j (qB m jJ))):=(jy e (jy i (jy l jT q) p) o)
def FG(h:JE X e i)(j:JE X d l)(m:JE X b o)(p:JE X a q)(r:starEach [e,d,b,a] X.env=(false,eval e X.env)::starEach [d,b,a] X.env:=by rfl)(u:starEach [d,b,a] X.env=(false,eval d X.env)::starEach [b,a] X.env:=by rfl)(v:starEach [b,a] X.env=(false,eval b X.env)::starEach [a] X.env:=by rfl)(x:starEach [a] X.env=(false,eval a X.env)::starEach [] X.env:=by rfl):JA X [e,d,b,a] (qB i (qB l (qB o (qB q jJ)))):=(jy h (jy j (jy m (jy p jT x) v) u) r)
def ja5(i:JE X h j)(l:JE X e m)(o:JE X d p)(q:JE X b r)(u:JE X a v)(x:starEach [h,e,d,b,a] X.env=(false,eval h X.env)::starEach [e,d,b,a] X.env:=by rfl)(y:starEach [e,d,b,a] X.env=(false,eval e X.env)::starEach [d,b,a] X.env:=by rfl)(z:starEach [d,b,a] X.env=(false,eval d X.env)::starEach [b,a] X.env:=by rfl)(B:starEach [b,a] X.env=(false,eval b X.env)::starEach [a] X.env:=by rfl)(C:starEach [a] X.env=(false,eval a X.env)::starEach [] X.env:=by rfl):JA X [h,e,d,b,a] (qB j (qB m (qB p (qB r (qB v jJ))))):=(jy i (jy l (jy o (jy q (jy u jT C) B) z) y) x)
def z7(t:TA):TE:=λa H Q=>t a H λb d=>b.length<=zdR/\∀a,d a=none->Q (.ref a) (upd d a (.tup b))
def Hn(t:TA):TE:=λa H Q=>t a H λb d=>b.length<=zdR/\∀a,d a=none->Q (.ref a) (upd d a (.lst b))
def jm{X:Cx}{es:List Expr}{t:TA}{pos:Pos}{a}(h:JA X es t):JE X (.Tuple es a pos) (z7 t):=.of (by
 have h:=h.to;intro a s d H Q I i;refine wpAny_Tuple_spliced (js (h pos a s d H _ I i) λl a ⟨m,d,i,j,z,q⟩=>⟨by rw[<-j.length];exact z,?_⟩);have o:d a.heap.objs.size=none:=i.hok.fresh (tf _);refine⟨.ref a.heap.objs.size,upd d a.heap.objs.size (.tup m),i.laid (t':=a.toks) (λb u e=>tm _ e) (tf _) ?_,rfl,q _ o⟩;exact⟨z,l,j,⟨_,tJ _ rfl,rfl,_,rfl⟩⟩)
def Ql(h:JA X es t):JE X (.List es pos) (Hn t):=.of (by
 have h:=h.to;intro a s d H Q I i;refine wpAny_List_spliced (js (h pos a s d H _ I i) λl a ⟨m,d,i,j,z,q⟩=>⟨by rw[<-j.length];exact z,?_⟩);have o:d a.heap.objs.size=none:=i.hok.fresh (tf _);refine⟨.ref a.heap.objs.size,upd d a.heap.objs.size (.lst m),i.laid (t':=a.toks) (λb u e=>tm _ e) (tf _) ?_,rfl,q _ o⟩;exact⟨z,l,0,j,tJ _ rfl⟩)
abbrev Sp:=List V->Hp->VK->XK->Prop
abbrev uu:=List Env->Hp->Shared->XK->Value->Shared->Prop
structure k7(P:Program)(w:World)(K:zdM)(mg:Str->Option Value)(base:Heap)(A:Around)(outer:List Env)(s:Shared)(H:Hp):Prop where
 frames:A.frames=some outer
 mod:Mod K mg base
 bs:∀b o,base.get? b=some o->s.heap.get? b=some o/\H b=none
 bsz:base.objs.size<=s.heap.objs.size
 funs:s.heap.FunFrames base outer
 frf:∀b∈YH outer,H b=none
 hok:Zd P w H s.heap
 bare:AllBare s.gens
inductive CE(outer:List Env)(P:Program)(w:World)(H:Hp)(s:Shared)(Q:VK)(u:Value)(s':Shared):Prop
 | mk (v:_) (H':_):s'.os=s.os->AllBare s'.gens->(Un (YH outer) [] H H' s.heap s'.heap)->Zd P w H' s'.heap->qR v u->Q v H'->CE outer P w H s Q u s'
def CR(CX:uu)(outer:List Env)(P:Program)(w:World)(H:Hp)(s:Shared)(Q:VK)(E:XK)(r:Result)(a:Shared):Prop:=
 match r with
 | .ok (.ret u)=>CE outer P w H s Q u a
 | .ok _=>False
 | .error e=>CX outer H s E e a
structure qp(P:Program)(w:World)(K:zdM)(mg:Str->Option Value)(base:Heap)(CX:uu)(k:Nat)(f:Addr)(fd:zdQ)(ps:List Str)(sp:Sp):Prop where
 len:∀vs H Q E,sp vs H Q E->vs.length=ps.length
 run:∀(A:Around) (outer:List Env) (s:Shared) (H:Hp) (args:Args) (us:List Value) (vs:List V) (Q:VK) (E:XK),jd k A->k7 P w K mg base A outer s H->BindsTo s fd args (ps.zip us)->qK vs us->sp vs H Q E->
  codeAny (model P w) A (.call (.ref f) args) (CR CX outer P w H s Q E) s
def pin(P:Program)(w:World)(mg:Str->Option Value)(base:Heap)(h:qp P w K mg base CX k f a ps sp):qp P w K mg base CX k f a ps sp:=h
def k7.make{P:Program}{w:World}{K:zdM}{mg:Str->Option Value}{base:Heap}{A:Around}{outer:List Env}{s:Shared}{H:Hp}(e:k7 P w K mg base A outer s H)(C:Addr)(us:List Value)(a:List (Str×Value)):
 k7 P w K mg base (A.under (.builtin "type.__call__" ⟨.ref C::us,a⟩)) outer s H:=⟨by first | exact e.frames | (simpa [Around.under,Code.envs,Code.isFrame,pushEnvs] using e.frames),e.mod,e.bs,e.bsz,e.funs,e.frf,e.hok,e.bare⟩
def qv.env0(I:qv X a b H s):k7 X.prog X.w X.K X.mg X.base X.A X.stack s H:=
 ⟨I.ok.frames,I.ok.mod,I.bs,tR I.ok.bsz I.sz,I.stack,I.stkFree,I.hok,I.bare⟩
def qv.after(I:qv X e i H s)(h:CE X.stack X.prog X.w H s Q u a):EP X e i Q u a:=by
 obtain⟨v,e,os,bare,un,i,j,q⟩:=h;obtain⟨l,g,d,t,m⟩:=a;obtain rfl:m=s.os:=os;exact⟨v,e,I.call (h':=l) (g':=g) (d':=d) (t':=t) (ch:=[]) un i bare (λb z=>absurd z (by simp)),j,q⟩
def Zs(sp:Sp)(a:List V)(E:XK)(t:TA):TE:=λb H Q=>t b H λb d=>sp (b++a) d Q E
inductive uM(C:Addr)(m:Str)(sp:Sp)(fv:List V)(E:XK)(t:TA)(σ:St)(Q:VK)(x:V)(H1:Hp):Prop
 | mk (a:_) (dx:_) (fs:_):x=.ref a->H1 a=some (.ins C dx fs)->fs.lookup m=none->(t σ H1 λvs H2=>sp (x::(vs++fv)) H2 Q E)->uM C m sp fv E t σ Q x H1
def Xe(C:Addr)(m:Str)(sp:Sp)(b:List V)(E:XK)(d:TE)(t:TA):TE:=λa H Q=>d a H λx d=>uM C m sp b E t a Q x d
def A2(C:Addr)(sp:Sp)(d:List V)(E:XK)(t:TA):TE:=λa H Q=>t a H λe b=>∀x a,b x=none->b a=none->a≠x->
 sp (.ref x::(e++d)) (upd (upd b a (.own x)) x (.ins C a [])) (λv a=>v=.non/\Q (.ref x) a) E
def jZ(K:zdM)(d:zdQ)(ps:List Str)(b:List Value):Prop:=
 ∀(s:Shared) (a:List Value),K.In s.heap->(a++b).length=ps.length->BindsTo s d ⟨a,[]⟩ (ps.zip (a++b))
def jZ.all{K:zdM}{a:zdQ}{ps:List Str}(h:∀us:List Value,us.length=ps.length->bindArgs a ⟨us,[]⟩=pure (ps.zip us)):jZ K a ps []:=λs us _ a=>by
 rw[zak]at a ⊢;exact .of_eq (h us a)
def Qt(CX:uu)(X:Cx)(E:XK):Prop:=∀(b:List (Addr×Obj)) (d:St) (H:Hp) (s:Shared) (e:Value) (a:Shared),qv X b d H s->CX X.stack H s E e a->X.xe e a
def ze{X:Cx}(F:qp X.prog X.w X.K X.mg X.base CX k f m ps sp)(hr:jd k X.A)(o:jZ X.K m ps b)(hd:qK d b)(p:Qt CX X E)(I:qv X i j H s)(r:qK vs us)(h:sp (vs++d) H Q E):wpAny (model X.prog X.w) X.A (call (.ref f) us) (EP X i j Q) X.xe s:=by
 have l:qK (vs++d) (us++b):=r.append hd;have q:(us++b).length=ps.length:=by rw[<-l.length];exact F.len _ _ _ _ h
 refine wpAny_call (codeAny_mono (F.run X.A X.stack s H ⟨us,[]⟩ (us++b) (vs++d) Q E hr I.env0 (o s us I.kIn q) l h) λr v a=>?_);cases r with
 | error e=>exact p i j H s e v I a
 | ok x=>
  cases x with
  | ret u=>exact I.after a
  | next=>exact False.elim a
  | brk=>exact False.elim a
  | cont=>exact False.elim a
def yW{X:Cx}(F:qp X.prog X.w X.K X.mg X.base CX k f a ps sp)(hr:jd k X.A)(b:Gl X x)(d:X.mg x=some (.ref f))(i:zaD X.K (.ref f)=true)(j:jZ X.K a ps l)(hd:qK m l)(o:Qt CX X E)(r:PA X (e::es) t)(u:(x==("__debug__":Str))=false:=by decide)(v:starEach (e::es) X.env=(false,eval e X.env)::starEach es X.env:=by rfl)(y:(backTo pos (starEach es X.env)).any (·.1)=false:=by rfl):
  PE X (.Call (.Name x p) (e::es) [] pos) (Zs sp m E t):=by
 intro a s l H Q I h;refine wpAny_Call_Name_kw (zD I b d ?_ u);refine zbn (h₀:=X.base) I.ok.mod.kin i (js (r pos a s l H _ I h) λ_ _ ⟨_,_,a,b,q⟩=>⟨a.kIn,?_⟩) v y;exact ze F hr j hd o a b q
def MO{pl:Sem Bool}(j:PE X o i)(c:Xc X.K C)(b:Wn X.K C m f)(F:qp X.prog X.w X.K X.mg X.base CX k f l ps sp)(hr:jd k X.A)(p:jZ X.K l ps r)(hd:qK v r)(y:Qt CX X E)(z:PA X (e::es) t)(B:starEach (e::es) X.env=(false,eval e X.env)::starEach es X.env:=by rfl)(D:(backTo pos (starEach es X.env)).any (·.1)=false:=by rfl) (J:eval (.Call (.Attribute o m b_) (e::es) [] pos) X.env=(do
   let d <-eval o X.env
   standAt b_.atName
   let (f,first) <-holding [d] (getMethod d m pl)
   callWith pos f first (backTo pos (starEach (e::es) X.env)) (backToKw pos (keywordEach [] X.env))):=by rfl):
  PE X (.Call (.Attribute o m b_) (e::es) [] pos) (Xe C m sp v E i t):=by
 intro d s i H Q I h;refine zbR (pl:=pl) (js (j d s i H _ I h) λu l ⟨x,r,j,v,a,_,fs,ex,L,O,q⟩=>?_) J;subst ex;obtain rfl:u=Value.ref a:=v;refine QZ j L c b O ?_;refine zbn (first:=[.ref a]) (h₀:=X.base) I.ok.mod.kin b.kp (js (z pos d l i r _ j q) λd _ ⟨i,_,b,j,l⟩=>⟨b.kIn,?_⟩) B D;exact ze (us:=.ref a::d) (vs:=.ref a::i) F hr p hd y b (.cons rfl j) l
def Ar{pl:Sem Bool}(b:JE X o d)(c:Xc X.K C)(h:Wn X.K C m f)(F:qp X.prog X.w X.K X.mg X.base CX k f i ps sp)(hr:jd k X.A)(j:jZ X.K i ps l)(hd:qK p l)(q:Qt CX X E)(r:JA X (e::es) t)(u:starEach (e::es) X.env=(false,eval e X.env)::starEach es X.env:=by rfl)(v:(backTo pos (starEach es X.env)).any (·.1)=false:=by rfl) (x:eval (.Call (.Attribute o m b_) (e::es) [] pos) X.env=(do
 let a <-eval o X.env
 standAt b_.atName
 let (f,first) <-holding [a] (getMethod a m pl)
 callWith pos f first (backTo pos (starEach (e::es) X.env)) (backToKw pos (keywordEach [] X.env))):=by rfl):JE X (.Call (.Attribute o m b_) (e::es) [] pos) (Xe C m sp p E d t):=.of (MO b.to c h F hr j hd q r.to u v x)
def Ge{pl:Sem Bool}(e:PE X o i)(c:Xc X.K C)(d:Wn X.K C m f)(F:qp X.prog X.w X.K X.mg X.base CX k f j ps sp)(hr:jd k X.A)(l:jZ X.K j ps p)(hd:qK r p)(v:Qt CX X E) (y:eval (.Call (.Attribute o m b_) [] [] pos) X.env=(do
   let b <-eval o X.env
   standAt b_.atName
   let (f,first) <-holding [b] (getMethod b m pl)
   callWith pos f first (backTo pos (starEach [] X.env)) (backToKw pos (keywordEach [] X.env))):=by rfl):
  PE X (.Call (.Attribute o m b_) [] [] pos) (Xe C m sp r E i jJ):=by
 intro b s i H Q I h;refine zbR (pl:=pl) (js (e b s i H _ I h) λu _ ⟨x,_,b,e,a,_,fs,ex,i,j,q⟩=>?_) y;subst ex;obtain rfl:u=Value.ref a:=e;refine QZ b i c d j ?_;exact zcw (first:=[.ref a]) b.kIn d.kp (ze (us:=[.ref a]) (vs:=[.ref a]) F hr l hd v b (.cons rfl .nil) q)
def RG{pl:Sem Bool}(b:JE X o d)(c:Xc X.K C)(e:Wn X.K C m f)(F:qp X.prog X.w X.K X.mg X.base CX k f h ps sp)(hr:jd k X.A)(i:jZ X.K h ps j)(hd:qK l j)(p:Qt CX X E) (q:eval (.Call (.Attribute o m b_) [] [] pos) X.env=(do
 let a <-eval o X.env
 standAt b_.atName
 let (f,first) <-holding [a] (getMethod a m pl)
 callWith pos f first (backTo pos (starEach [] X.env)) (backToKw pos (keywordEach [] X.env))):=by rfl):JE X (.Call (.Attribute o m b_) [] [] pos) (Xe C m sp l E d jJ):=.of (Ge b.to c e F hr i hd p q)
structure Mk(K:zdM)(C f:Addr):Prop where
 makes:zcd K C=true
 init:tX K (.ref C) "__init__"=some (some (.ref f))
 fn:zbu K (.ref f)=true
 kp:zaD K (.ref C)=true
def KP{X:Cx}{Q:VK}(M:Mk X.K C f)(F:qp X.prog X.w X.K X.mg X.base CX k f q ps sp)(hr:jd (k+1) X.A)(y:jZ X.K q ps b)(hd:qK j b)(z:Qt CX X E)(I:qv X l m H s)(r:qK vs us)(h:∀x d,H x=none->H d=none->d≠x->sp (.ref x::(vs++j)) (upd (upd H d (.own x)) x (.ins C d [])) (λv B=>v=.non/\Q (.ref x) B) E):
  wpAny (model X.prog X.w) X.A (call (.ref C) us) (EP X l m Q) X.xe s:=by
 have o:=h (s.heap.objs.size+1) s.heap.objs.size (I.hok.fresh (zcK _)) (I.hok.fresh (tf _)) (tS (zba _));have i:=qv.made (C:=C) I;have p:qK (V.ref (s.heap.objs.size+1)::(vs++j)) (Value.ref (s.heap.objs.size+1)::(us++b)):=.cons rfl (r.append hd);have D:(Value.ref (s.heap.objs.size+1)::us++b).length=ps.length:=by
  have e:=p.length;rw[F.len _ _ _ _ o]at e;exact e.symm
 refine wpAny_call (Rj (f:=f) I.kIn M.makes M.init (beq_iff_eq.mp M.fn) (codeAny_mono (F.run _ X.stack _ _ ⟨Value.ref (s.heap.objs.size+1)::us,[]⟩ (Value.ref (s.heap.objs.size+1)::(us++b)) _ _ E (hr.make C us [])
  (i.env0.make C us []) (y _ (Value.ref (s.heap.objs.size+1)::us) i.kIn D) p o) λr J a=>?_))
 cases r with
 | error e=>exact z l m _ _ e J i a
 | ok L=>
  cases L with
  | ret u=>
   obtain⟨v,O,T,U,Y,q3⟩:=i.after a;subst Y;exact⟨U,⟨V.ref (s.heap.objs.size+1),O,T,rfl,q3⟩⟩
  | next=>exact False.elim a
  | brk=>exact False.elim a
  | cont=>exact False.elim a
def Qd{X:Cx}(M:Mk X.K C f)(F:qp X.prog X.w X.K X.mg X.base CX k f b ps sp)(hr:jd (k+1) X.A)(d:Gl X x)(i:X.mg x=some (.ref C))(j:jZ X.K b ps l)(hd:qK m l)(o:Qt CX X E)(a:JA X (e::es) t)(r:(x==("__debug__":Str))=false:=by decide)(u:starEach (e::es) X.env=(false,eval e X.env)::starEach es X.env:=by rfl)(v:(backTo pos (starEach es X.env)).any (·.1)=false:=by rfl):JE X (.Call (.Name x p) (e::es) [] pos) (A2 C sp m E t):=.of (by
 have a:=a.to;intro b s l H Q I h;refine wpAny_Call_Name_kw (zD I d i ?_ r);refine zbn (h₀:=X.base) I.ok.mod.kin M.kp (js (a pos b s l H _ I h) λ_ _ ⟨_,_,a,b,q⟩=>⟨a.kIn,?_⟩) u v;exact KP M F hr j hd o a b q)
structure qm(N P:List Str)(sc:Scope):Prop where
 kind:sc.kind=.function
 co:sc.isCoroutine=false
 gen:sc.isGenerator=false
 nd:N.Nodup
 pre:N.take P.length=P
 par:∀x∈P,sc.names.lookup x=some .local\/sc.names.lookup x=some .cell
 nofree:∀y∈sc.names,y.2≠.free
def Qm{N P:List Str}{h:Scope}(a:h.kind=.function:=by exact rfl)(b:h.isCoroutine=false:=by exact rfl)(c:h.isGenerator=false:=by exact rfl)(d:N.Nodup:=by decide+kernel)(e:N.take P.length=P:=by exact rfl)(f:∀x∈P,h.names.lookup x=some .local\/h.names.lookup x=some .cell:=by decide+kernel)(g:∀y∈h.names,y.2≠.free:=by decide+kernel):qm N P h:=⟨a,b,c,d,e,f,g⟩
def W9{d7:Str->Option NameKind}{x:Str}:∀{binds:List (Str×Value)} {m:Str->Option Value},(∀v,(x,v)∉binds)->bindL d7 binds m x=m x
 | [],_,_=>rfl
 | (n,v)::a,m,h=>by
  unfold bindL;rw[W9 λw a=>h w (tG _ a)];split
  ·have:x≠n:=by rintro rfl;exact h v tO
   simp [this]
  ·rfl
def Vb{d7:Str->Option NameKind}{x:Str}:∀{binds:List (Str×Value)} {m:Str->Option Value},(∀v,(x,v)∉binds)->bindC d7 binds m x=m x
 | [],_,_=>rfl
 | (n,v)::a,m,h=>by
  unfold bindC;rw[Vb λw a=>h w (tG _ a)];split
  ·rfl
  ·have:x≠n:=by rintro rfl;exact h v tO
   simp [this]
def Va{d7:Str->Option NameKind}:∀{P:List Str} {vs:List Value} {i:Nat} {m:Str->Option Value},P.Nodup->P[i]?=some x->vs[i]?=some v->d7 x=some .local->
  bindL d7 (P.zip vs) m x=some v
 | [],_,_,_,_,h,_,_=>by simp at h
 | _::_,[],_,_,_,_,h,_=>by simp at h
 | a::P,w::vs,0,m,e,b,d,j=>by
  simp at b d;subst b;subst d;show bindL d7 ((a,w)::P.zip vs) m a=_;unfold bindL;rw[W9 λv l=>(zah.mp e).1 (zdd l).1,if_pos j];simp
 | a::P,w::vs,i+1,m,e,b,d,j=>by
  show bindL d7 ((a,w)::P.zip vs) m x=_;unfold bindL;exact Va (i:=i) (zah.mp e).2 (by simpa using b) (by simpa using d) j
def Vc{d7:Str->Option NameKind}:∀{P:List Str} {vs:List Value} {i:Nat} {m:Str->Option Value},P.Nodup->P[i]?=some x->vs[i]?=some v->d7 x≠some .local->
  bindC d7 (P.zip vs) m x=some v
 | [],_,_,_,_,h,_,_=>by simp at h
 | _::_,[],_,_,_,_,h,_=>by simp at h
 | a::P,w::vs,0,m,e,b,d,j=>by
  simp at b d;subst b;subst d;show bindC d7 ((a,w)::P.zip vs) m a=_;unfold bindC;rw[Vb λv l=>(zah.mp e).1 (zdd l).1,if_neg j];simp
 | a::P,w::vs,i+1,m,e,b,d,j=>by
  show bindC d7 ((a,w)::P.zip vs) m x=_;unfold bindC;exact Vc (i:=i) (zah.mp e).2 (by simpa using b) (by simpa using d) j
def Zt(N:List Str)(vs:List V):St:=vs.map some++zdl (N.length - vs.length) none
def QK(CX:uu)(P:Program)(w:World)(K:zdM)(mg:Str->Option Value)(base:Heap)(N:List Str)(a:Str)(scope:Scope)(f:Addr)(b:Value)(A:Around)(outer:List Env)(s:Shared)(H:Hp)(E:XK):Cx where
 prog:=P
 w:=w
 K:=K
 mg:=mg
 base:=base
 A:=A.deeper (envOfC a scope s.heap.objs.size f b)
 N:=N
 s₀:=s
 H₀:=H
 env:=envOfC a scope s.heap.objs.size f b
 outer:=outer
 stack:=envOfC a scope s.heap.objs.size f b::outer
 ex:=[]
 calm:=true
 fn:=λ_=>true
 pn:=[]
 xe:=λe d=>wpAny (model P w) (A.deeper (envOfC a scope s.heap.objs.size f b)) (leaving (envOfC a scope s.heap.objs.size f b) e) (λ_ a=>CX outer H s E e a) (λb a=>CX outer H s E b a) d
def vy{a:Scope}(h:a.names.lookup x=some .cell):∃c,(cellsFrom n a.names []).lookup x=some c:=by
 have q:=zcY a.names n [] (.inl h);exact zcO.mp q
def wS{CX:uu}{P:Program}{w:World}{K:zdM}{mg:Str->Option Value}{base:Heap}{N ps:List Str}{d:Str}{scope:Scope}{f:Addr}{l:Value}{A:Around}{outer:List Env}{s m:Shared}{H:Hp}{E:XK}{us:List Value}{vs:List V}
  (S:qm N ps scope) (hd:A.handled=none) (j:k7 P w K mg base A outer s H) (o:vs.length=ps.length) (r:qK vs us)
  (x:InCallC s s.heap.objs.size (bindL (envOfC d scope s.heap.objs.size f l).kindOf (ps.zip us) λ_=>none) (cellsFrom (s.heap.objs.size+1) scope.names []) (bindC (envOfC d scope s.heap.objs.size f l).kindOf (ps.zip us) λ_=>none) m):
  qv (QK CX P w K mg base N d scope f l A outer s H E) [] (Zt N vs) H m:=by
 have m:ps.length<=N.length:=by have:=congrArg zav S.pre;rw[tE]at this;omega
 obtain⟨o,tk,rfl,p⟩:=x.done;have m:∀b:Addr,b∉(QK CX P w K mg base N d scope f l A outer s H E).ex:=λb z=>absurd (show b∈([]:List Addr) from z) (by simp);refine⟨⟨j.mod,S.kind,rfl,rfl,tf _,λy z c o d=>?_,λy l=>?_,λy c _ h=>?_,λ_=>hd,Around.frames_deeper j.frames,.inr ⟨rfl,rfl⟩,λb z=>absurd z (m b),j.bs,j.bsz,λb _ _=>m b,λb z=>absurd z (m b),j.funs,j.frf⟩,
  rfl,j.bare,Un.kept p,⟨_,x.toInCall.ns,λi y v o d _=>?_⟩,λy c h=>⟨_,x.cell y c h⟩,j.hok.fresh (tf _),λy c h=>?_,λB m=>absurd (show B∈([]:List (Addr×Obj)) from m) (by simp),j.hok.kept p,?_⟩
 ·exact name_of_addr x.apart (PySem.mem_of_lookup o) (PySem.mem_of_lookup d)
 ·have l:scope.names.lookup y=some .cell\/scope.names.lookup y=some .free:=l;rcases l with l | l
  ·exact vy l
  ·exact absurd rfl (S.nofree _ (PySem.mem_of_lookup l))
 ·exact zac (x.above y c (PySem.mem_of_lookup h))
 ·have l:i < vs.length:=by
   unfold Zt at d;by_cases l:i < vs.length
   ·exact l
   ·rw[tY (by simpa using l)]at d;rw[List.getElem?_replicate]at d;split at d<;>cases d
  have p:vs[i]?=some v:=by
   unfold Zt at d;rw[t9 (by simpa using l),tw]at d;cases e:vs[i]? with
   | none=>rw[e]at d;cases d
   | some a=>rw[e]at d;cases d;rfl
  obtain⟨u,hu,l⟩:=r.get p;have m:ps[i]?=some y:=by
   rw[<-S.pre,zbp (by omega)];exact o
  have d:ps.Nodup:=by rw[<-S.pre];exact S.nd.sublist (zdA _ _)
  refine⟨u,l,?_⟩;rcases S.par y (tP m) with k | k
  ·exact .inl ⟨k,Va d m hu k⟩
  ·obtain⟨c,e⟩:=vy (n:=s.heap.objs.size+1) k;refine .inr ⟨.inl k,c,e,?_⟩;have q:=x.cell y c e;rw[Vc d m hu (by show scope.names.lookup y≠_;rw[k];decide)]at q;exact q
 ·exact .inl (j.hok.fresh (zac (x.above y c (PySem.mem_of_lookup h))))
 ·unfold Zt;show _=N.length;rw[tv,ta,zdg];omega
def B2{CX:uu}{P:Program}{w:World}{K:zdM}{mg:Str->Option Value}{base:Heap}{k:Nat}{f:Addr}{name d:Str}{r:Arguments}{eF:List Stmt}{scope:Scope}{z kV B pm h ct O:Value}{C T:Option Addr}
  {U:Array (Option Value)} {N ps:List Str} {sp:Sp} (lk:K.lookup f=some ⟨O,T,.func (zbg name d r eF scope z kV B pm C h ct),U⟩) (Y:zbw K h d=true) (S:qm N ps scope)
  (len:∀vs H Q E,sp vs H Q E->vs.length=ps.length)
  (aa:∀(A:Around) (outer:List Env) (s:Shared) (H:Hp) (vs:List V) (Q:VK) (E:XK),jd k (A.deeper (envOfC d scope s.heap.objs.size f h))->sp vs H Q E->
   ∃t,NH (QK CX P w K mg base N d scope f h A outer s H E) eF t/\t {nx:=λ_ H'=>Q .non H',rt:=Q} (Zt N vs) H):
  qp P w K mg base CX (k+1) f (zbg name d r eF scope z kV B pm C h ct) ps sp:=by
 refine⟨len,λA outer s H args us vs Q E hr j hb ab D=>?_⟩;have hl:=len _ _ _ _ D;have J:K.In s.heap:=j.mod.kin.keeps λb m e=>(j.bs b m e).1;have ac:s.heap.NoLimit:=j.mod.nolimit.keeps λb m e=>(j.bs b m e).1;have ae:∀y∈ps.zip us,scope.names.lookup y.1=some .local\/(scope.names.lookup y.1=some .cell/\((cellsFrom (s.heap.objs.size+1) scope.names []).lookup y.1).isSome=true):=λ⟨n,v⟩ hy=>by
  rcases S.par n (zdd hy).1 with q | q
  ·exact .inl q
  ·exact .inr ⟨q,zcY _ _ _ (.inl q)⟩
 refine codeAny_call_function hr.depth (J _ _ lk) rfl S.co S.gen rfl (PySem.W.codeRec_of J Y) (hb _ _ _ _ ?_);refine wpAny_newFunctionEnv_cells S.kind ae λaf he L x=>?_;subst he;refine⟨ac.keeps x.toInCall.keep,codeAny_func ?_⟩;obtain⟨t,ht,hq⟩:=aa A outer s H vs Q E (hr.deeper _) D;have I:qv (QK CX P w K mg base N d scope f h A outer s H E) [] (Zt N vs) H L:=wS S hr.hd j hl ab x;refine wpAny_mono (ht [] L (Zt N vs) H _ I hq) (λfl o i=>?_) λe o i=>i;have ew:∀{l:St} {H':Hp} {v:V} {u:Value},qv (QK CX P w K mg base N d scope f h A outer s H E) [] l H' o->qR v u->Q v H'->CE outer P w H s Q u o:=
  λ{l H' v u} a p q=>⟨v,H',a.os,a.bare,a.base,a.hok,p,q⟩
 cases fl with
 | ret u=>
  obtain⟨v,l,H',a,p,q⟩:=i;exact ew a p q
 | next=>
  obtain⟨l,H',a,q⟩:=i;exact ew (v:=V.non) (u:=Value.none) a rfl q
 | brk=>
  obtain⟨_,_,_,q⟩:=i;exact False.elim q
 | cont=>
  obtain⟨_,_,_,q⟩:=i;exact False.elim q
open PyProof.Rows hiding K lo
def NE(r:List V->Hp->VK->Prop)(t:TA):TE:=λa H Q=>t a H λa b=>r a b Q
def qu{X:Cx}{x:Str}{p:Pos}{pos:Pos}{e:Expr}{es:List Expr}{t:TA}{id:String}{r:List V->Hp->VK->Prop}(i:Jh X (.builtin id) r)(j:Gl X x)(l:X.mg x=none)(m:bootBuiltins x=some (.builtin id))(a:JA X (e::es) t)(o:x≠"__name__":=by decide)(q:(x==("__debug__":Str))=false:=by decide)(u:starEach (e::es) X.env=(false,eval e X.env)::starEach es X.env:=by rfl)(v:(backTo pos (starEach es X.env)).any (·.1)=false:=by rfl):JE X (.Call (.Name x p) (e::es) [] pos) (NE r t):=.of (by
 have a:=a.to;intro b s d H Q I h;refine wpAny_Call_Name_kw (J1 I j l m ?_ o q);exact PyProof.Rows.callWith_builtin1 (js (a pos b s d H _ I h) λa j ⟨l,m,o,q,y⟩=>i b j d m l a Q o q y) u v)
def qV(i:Jh X (.type T) r)(j:Gl X x)(l:X.mg x=none)(m:bootBuiltins x=some (.type T))(a:JA X (e::es) t)(o:x≠"__name__":=by decide)(q:(x==("__debug__":Str))=false:=by decide)(u:starEach (e::es) X.env=(false,eval e X.env)::starEach es X.env:=by rfl)(v:(backTo pos (starEach es X.env)).any (·.1)=false:=by rfl):JE X (.Call (.Name x p) (e::es) [] pos) (NE r t):=.of (by
 have a:=a.to;intro b s d H Q I h;refine wpAny_Call_Name_kw (J1 I j l m ?_ o q);exact PyProof.Rows.callWith_type1 (js (a pos b s d H _ I h) λa j ⟨l,m,o,q,y⟩=>i b j d m l a Q o q y) u v)
end L2
namespace HT
open PySem
open PyProof.Rows hiding K lo
section
open PySem.SeqAt
open PySem.AutoSeq1 (wpAny_loadPart')
open PySem.MeetsSeq PySem.MeetsSeq2 PySem.MeetsSeq3
end
def sIx(n d:Nat):Option Int->Nat
 | none=>d
 | some v=>if v < 0 then (v+(n:Int)).toNat else min v.toNat n
def sIx_none(n d:Nat):sIx n d none=d:=rfl
def sIx_nat(n d k:Nat):sIx n d (some (k:Int))=min k n:=by
 show (if (k:Int) < 0 then ((k:Int)+(n:Int)).toNat else min (k:Int).toNat n)=min k n;rw[if_neg (by omega),zaj]
end HT
namespace L2
open PySem PySem.Spec
open PyProof.Rows hiding K lo
abbrev TO:=St->Hp->(Option Int->Hp->Prop)->Prop
def PO(X:Cx)(e:Option Expr)(t:TO):Prop:=
 ∀(b:List (Addr×Obj)) (s:Shared) (a:St) (H:Hp) (Q:Option Int->Hp->Prop),qv X b a H s->t a H Q->
  wpAny (model X.prog X.w) X.A (evalPart e X.env) (λu i=>∃d h,qv X b a h i/\IsPart u d/\Q d h) X.xe s
@[irreducible] def JO (X:Cx) (e:Option Expr) (t:TO):Prop:=PO X e t
def JO.of(h:PO X e t):JO X e t:=by unfold JO;exact h
def JO.to(h:JO X e t):PO X e t:=by unfold JO at h;exact h
def NW:TO:=λ_ H Q=>Q none H
inductive uK(Q:Option Int->Hp->Prop)(x:V)(H1:Hp):Prop
 | mk (i:_):x=.int i->(Q (some i) H1)->uK Q x H1
def D6(t:TE):TO:=λa H Q=>t a H λx a=>uK Q x a
def kE{ns:List Int}:∀{us:List Value},qK (ns.map V.int) us->IntsAre us ns:=by
 induction ns with
 | nil=>intro us a;rw[zbX]at a;cases a;exact .nil
 | cons n ns b=>
  intro us a;rw[tM]at a;cases a with
  | cons a d=>
   obtain⟨t,e⟩:=a;subst e;exact .cons n t (b d)
def zI:JO X none NW:=.of (by
 intro _ s _ H Q I h;rw[evalPart_none];exact zdP ⟨none,H,I,.none,h⟩)
def zH(h:JE X e te):JO X (some e) (D6 te):=.of (by
 have h:=h.to;intro a s b H Q I d;rw[evalPart_some];refine js (h a s b H _ I d) λu _ ⟨x,a,b,d,j⟩=>?_;obtain⟨i,rfl,q⟩:=j;obtain⟨t,rfl⟩:=d;exact⟨some i,a,b,.int i t,q⟩)
def IE(X:Cx)(r:V->Option Int->Option Int->Hp->VK->Prop):Prop:=
 ∀(a:List (Addr×Obj)) (s:Shared) (b:St) (H:Hp) (x:V) (v d e:Value) (lo h:Option Int) (i:Addr) (Q:VK),qv X a b H s->qR x v->s.heap.IsSliceOf i d e .none->IsPart d lo->IsPart e h->r x lo h H Q->
  ∃d id,typeLookup (.type d) "__getitem__"=pure (some (.builtin id))/\s.TypeIs v d/\wpAny (model X.prog X.w) X.A (getItem v (.ref i)) (EP X a b Q) X.xe s
def tSl(r:V->Option Int->Option Int->Hp->VK->Prop)(te:TE)(b d:TO):TE:=λa H Q=>te a H λx e=>b a e λb e=>d a e λu a=>r x b u a Q
def ZK{X:Cx}{e:Expr}{te:TE}{lo:Option Expr}{m:Option Expr}{d:TO}{i:TO}{pos:Pos}{o:Pos}{r:V->Option Int->Option Int->Hp->VK->Prop}(hr:IE X r)(a:JE X e te)(j:JO X lo d)(hu:JO X m i):JE X (.Subscript e (.Slice lo m none o) pos) (tSl r te d i):=.of (by
 have a:=a.to;have j:=j.to;have hu:=hu.to;intro d s i H Q I h;refine Subscript_ (js (a d s i H _ I h) λv a ⟨x,l,p,y,z⟩=>?_);refine wpAny_Slice (js (j d a i l _ p z) λj a ⟨z,l,p,B,C⟩=>js (hu d a i l _ p C) λl a ⟨u,p,C,D,J⟩=>?_);rw[evalPart_none];refine zdP ?_;have L:qv X d i p {a with heap:=a.heap.push {cls:=.type "slice",data:=.fields #[j,l,.none]}}:=C.kept (t':=a.toks) λb _ q=>tm _ q;obtain⟨_,id,C,O,T⟩:=hr d {a with heap:=a.heap.push {cls:=.type "slice",data:=.fields #[j,l,.none]}} i p x v j l z u a.heap.objs.size Q L y (Heap.IsSliceOf.new ..) B D J;show wpAny (model X.prog X.w) X.A (subscriptTail e (.Slice lo m none o) v (.ref a.heap.objs.size)) (EP X d i Q) X.xe {a with heap:=a.heap.push {cls:=.type "slice",data:=.fields #[j,l,.none]}};exact tail_any (ops:=[.ref a.heap.objs.size,v]) O C T (by with_unfolding_all rfl))
def XY(xs:List V)(lo a:Option Int):List V:=(xs.drop (HT.sIx xs.length 0 lo)).take (HT.sIx xs.length xs.length a - HT.sIx xs.length 0 lo)
def vv(xs:List V)(lo a:Option Int):(XY xs lo a).length<=xs.length:=by
 unfold XY;rw[tE,List.length_drop];omega
open PyProof.Rows hiding K lo
def BW(n:Nat)(i:Int):Option Nat:=if 0<=i then (if i < n then some i.toNat else none) else if -(n:Int)<=i then some (i+n).toNat else none
def Ve(xs:List α)(i:Int):Option α:=(BW xs.length i).bind λa=>xs[a]?
def Av(h:BW n i=some j):seqIndex? i n=some j/\j < n/\-(n:Int)<=i/\i < n:=by
 unfold BW at h;by_cases b:0<=i
 ·rw[if_pos b]at h;by_cases a:i < n
  ·rw[if_pos a]at h;have e:i.toNat=j:=tA.inj h;exact⟨by rw[seqIndex_of b a,e],by omega,by omega,a⟩
  ·rw[if_neg a]at h;cases h
 ·rw[if_neg b]at h;by_cases a:-(n:Int)<=i
  ·rw[if_pos a]at h;have e:(i+n).toNat=j:=tA.inj h;exact⟨by rw[seqIndex_neg (by omega) a,e],by omega,a,by omega⟩
  ·rw[if_neg a]at h;cases h
def atI_get{α:Type}{xs:List α}{i:Int}{v:α}(h:Ve xs i=some v):∃j,seqIndex? i xs.length=some j/\xs[j]?=some v/\j < xs.length/\-(xs.length:Int)<=i/\i < xs.length:=by
 unfold Ve at h;cases e:BW xs.length i with
 | none=>rw[e]at h;cases h
 | some j=>
  rw[e]at h;obtain⟨a,b,d,l⟩:=Av e;exact⟨j,a,h,b,d,l⟩
def QD{α:Type}{xs:List α}{j:Nat}{v:α}(h:xs[j]?=some v):Ve xs (j:Int)=some v:=by
 have a:j < xs.length:=(td.mp h).1;have e:BW xs.length (j:Int)=some j:=by
  unfold BW;rw[if_pos (by omega),if_pos (by omega)];simp
 unfold Ve;rw[e];exact h
def AN(b:Expr):Prop:=∀a i,subscripted b false a i=operate [a,i] (getItem a i)
def Hh(X:Cx)(r:R2):Prop:=
 ∀(d8 eu:Expr) (a:List (Addr×Obj)) (s:Shared) (b:St) (H:Hp) (x y:V) (v u:Value) (Q:VK),qv X a b H s->qR x v->qR y u->r x y H Q->
  subscripted eu false v u=operate [v,u] (getItem v u)->wpAny (model X.prog X.w) X.A (subscriptTail d8 eu v u) (EP X a b Q) X.xe s
def FV(X:Cx)(id:String)(r:V->List V->Hp->VK->Prop):Prop:=
 ∀(a:List (Addr×Obj)) (s:Shared) (b:St) (H:Hp) (x:V) (d:List V) (v:Value) (e:List Value) (Q:VK),qv X a b H s->qR x v->qK d e->r x d H Q->
  wpAny (model X.prog X.w) X.A (call (.builtin id) (v::e)) (EP X a b Q) X.xe s
def qU(hr:Hh X r)(d:JE X a i)(e:JE X b tb)(j:AN b:=by exact λ_ _=>rfl):JE X (.Subscript a b pos) (Zr r i tb):=.of (by
 have d:=d.to;have e:=e.to;intro i s l H Q I h;exact Subscript_ (DM d e I h λv u d x y e m o p q=>hr a b i d l e x y v u Q m o p q (j _ _)))
inductive BF(K:zdM)(x:V)(y:V)(H:Hp)(Q:VK):Prop
 | mk (p:_) (xs:_) (i:_) (v:_):x=.ref p->y=.int i->Q6 K H p xs->Ve xs i=some v->Q v H->BF K x y H Q
def K5(K:zdM):R2:=λx y H Q=>BF K x y H Q
inductive BD(K:zdM)(x:V)(y:V)(H:Hp)(Q:VK):Prop
 | mk (p:_) (xs:_) (i:_) (v:_):x=.ref p->y=.int i->zZ K H p xs->Ve xs i=some v->Q v H->BD K x y H Q
def YN(K:zdM):R2:=λx y H Q=>BD K x y H Q
inductive BE(x:V)(y:V)(H:Hp)(Q:VK):Prop
 | mk (z:_) (i:_) (c:_):x=.str z->y=.int i->(z.length<=zdR)->Ve z.cps.toList i=some c->(Q (.str ⟨#[c]⟩) H)->BE x y H Q
def EM:R2:=λx y H Q=>BE x y H Q
def Qr{X:Cx}:Hh X (K5 X.K):=by
 intro d8 eu j s l H x y v u Q I a b h m;obtain⟨_,_,i,z,rfl,rfl,e,p,q⟩:=h;cases a;obtain⟨t,rfl⟩:=b;obtain⟨B,a,d,_⟩:=I.list e;obtain⟨o,b,e,_,C,D⟩:=atI_get p;obtain⟨w,p,r⟩:=a.get e;have J:=a.length;have e:=XI;have ew:EP X j l Q w s:=⟨z,H,I,r,q⟩;by_cases r:0<=i
 ·have e:i.toNat=o:=by
   rw[seqIndex_of r D]at b;exact tA.inj b
  exact item_listR d.isList r (by omega) (by rw[e];simpa using p) ew m
 ·have e:(i+(B.toArray.size:Int)).toNat=o:=by
   rw[seqIndex_neg (by omega) C]at b;rw[t7,<-J];exact tA.inj b
  exact subscriptTail_builtinR (x:=w) d.isList.typeIs slot_list_getitem.lookup
   (wpAny_getItem_list_neg (Q:=λa b=>a=w/\EP X j l Q a b) d.isList (by omega) (by rw[t7]<;>omega) (by omega) (by rw[e];simpa using p) ⟨rfl,ew⟩) m
def ja{X:Cx}:Hh X (YN X.K):=by
 intro d8 eu b s d H x y v u Q I a e h j;obtain⟨_,_,i,z,rfl,rfl,l,m,q⟩:=h;cases a;obtain⟨t,rfl⟩:=e;obtain⟨_,a,e,_⟩:=I.tuple l;obtain⟨l,o,p,_,_,_⟩:=atI_get m;obtain⟨w,m,r⟩:=a.get p;have p:=a.length;have B:=XI;have ew:EP X b d Q w s:=⟨z,H,I,r,q⟩;exact subscriptTail_builtinR (x:=w) e.typeIs slot_tuple_getitem.lookup
  (getItem_tuple (j:=l) (Q:=λa l=>a=w/\EP X b d Q a l) e (by omega) (by omega) (by rw[t7,<-p];exact o) (by simpa using m) ⟨rfl,ew⟩) j
def kB{X:Cx}:Hh X EM:=by
 intro d8 eu _ s _ H x y v u Q I a b h d;obtain⟨z,i,c,rfl,rfl,_,e,q⟩:=h;obtain⟨t,rfl⟩:=a;obtain⟨_,rfl⟩:=b;obtain⟨_,a,b,_,j,l⟩:=atI_get e;have e:z.cps.toList.length=z.length:=by simp [Str.length]
 rw[e]at a j l;have e:=XI;exact tail_any (typeIs_str s z t) slot_str_getitem.lookup (getItem_str (c:=c) (by
  have e:decide (i < -(2^63:Int))=false:=decide_eq_false (by omega);have j:decide (i ≥ 2^63)=false:=decide_eq_false (by omega);rw[e,j,Bool.or_false]) (by rw[a];simpa using b) ⟨.str ⟨#[c]⟩,H,I.tok _,⟨_,rfl⟩,q⟩) d
def Vu(lo a:Option Int)(n:Nat):(sliceBounds lo a none n).1=((HT.sIx n 0 lo:Nat):Int)/\(sliceBounds lo a none n).2.1=((HT.sIx n n a:Nat):Int)/\(sliceBounds lo a none n).2.2=1:=by
 refine⟨?_,?_,rfl⟩
 ·cases lo with
  | none=>simp [sliceBounds,HT.sIx]
  | some i=>
   simp only[sliceBounds,HT.sIx,zdH,show (1:Int) > 0 by decide,if_true];by_cases h:i < 0
   ·simp only[h,if_true]<;>omega
   ·simp only[h,if_false]<;>omega
 ·cases a with
  | none=>simp [sliceBounds,HT.sIx]
  | some i=>
   simp only[sliceBounds,HT.sIx,zdH,show (1:Int) > 0 by decide,if_true];by_cases h:i < 0
   ·simp only[h,if_true]<;>omega
   ·simp only[h,if_false]<;>omega
def Wf(a:List Value)(lo b:Option Int):slicePick a.toArray lo b none=((a.drop (HT.sIx a.length 0 lo)).take (HT.sIx a.length a.length b - HT.sIx a.length 0 lo)).toArray:=by
 obtain⟨d,e,h⟩:=Vu lo b a.toArray.size;unfold slicePick;rw[d,e,h];simp only[sliceRange_one,pick_run,t7]<;>rfl
inductive BB(K:zdM)(x:V)(lo:Option Int)(hi:Option Int)(H:Hp)(Q:VK):Prop
 | mk (a:_) (xs:_):x=.ref a->Q6 K H a xs->(∀p,H p=none->Q (.ref p) (upd H p (.lst (XY xs lo hi))))->BB K x lo hi H Q
def Ib(K:zdM):V->Option Int->Option Int->Hp->VK->Prop:=λx lo a H Q=>BB K x lo a H Q
def Vv:IE X (Ib X.K):=by
 intro _ s _ H x v _ _ lo e _ Q I i l m o h;obtain⟨a,d,rfl,p,q⟩:=h;cases i;obtain⟨_,i,j,r⟩:=I.list p;have p:=i.length;refine⟨"list",_,slot_list_getitem.lookup,j.isList.typeIs,?_⟩;refine wpAny_getItem_list_slice j.isList l m o .none (by simp) ?_ (by rw[t7]<;>omega);rw[Wf,<-p];refine⟨.ref s.heap.objs.size,_,I.laid (t':=s.toks) (o:=.lst (XY d lo e)) (λb _ q=>tm _ q) (tf _) ?_,rfl,q _ (I.hok.fresh (tf _))⟩;exact⟨tR (vv d lo e) r,_,0,(i.drop (HT.sIx d.length 0 lo)).take (HT.sIx d.length d.length e - HT.sIx d.length 0 lo),tJ _ rfl⟩
def Zx:V->Bool
 | .non=>true
 | .bl _=>true
 | .int _=>true
 | .str _=>true
 | _=>false
def Ng:V->V->Bool
 | .non,.non=>true
 | .bl a,.bl b=>a==b
 | .bl a,.int b=>(if a then 1 else 0)==b
 | .int a,.bl b=>a==(if b then 1 else 0)
 | .int a,.int b=>a==b
 | .str a,.str b=>a==b
 | _,_=>false
def DF{A:Around}{s:Shared}{y x:V}{u v:Value}(h:qR y u)(d:qR x v)(j:Zx y=true)(i:Zx x=true):SeqAt.EqAt A s u v (Ng y x):=by
 cases y with
 | non=>
  cases h;cases x with
  | non=>cases d;exact SeqAt.EqAt.same _
  | bl b=>cases d;exact SeqAt.EqAt.none_bool b
  | int b=>obtain⟨t,rfl⟩:=d;exact SeqAt.EqAt.none_int b t
  | str b=>obtain⟨t,rfl⟩:=d;exact SeqAt.EqAt.none_str b t
  | _=>exact absurd (show false=true from i) tI
 | bl a=>
  cases h;cases x with
  | non=>cases d;exact SeqAt.EqAt.bool_none a
  | bl b=>cases d;exact SeqAt.EqAt.bool_bool a b
  | int b=>obtain⟨t,rfl⟩:=d;exact SeqAt.EqAt.bool_int a b t
  | str b=>obtain⟨t,rfl⟩:=d;exact SeqAt.EqAt.bool_str a b t
  | _=>exact absurd (show false=true from i) tI
 | int a=>
  obtain⟨e,rfl⟩:=h;cases x with
  | non=>cases d;exact SeqAt.EqAt.int_none a e
  | bl b=>cases d;exact SeqAt.EqAt.int_bool a e b
  | int b=>obtain⟨t,rfl⟩:=d;exact SeqAt.EqAt.int_int a e b t
  | str b=>obtain⟨t,rfl⟩:=d;exact SeqAt.EqAt.int_str a e b t
  | _=>exact absurd (show false=true from i) tI
 | str a=>
  obtain⟨e,rfl⟩:=h;cases x with
  | non=>cases d;exact SeqAt.EqAt.str_none a e
  | bl b=>cases d;exact SeqAt.EqAt.str_bool a e b
  | int b=>obtain⟨t,rfl⟩:=d;exact SeqAt.EqAt.str_int a e b t
  | str b=>obtain⟨t,rfl⟩:=d;exact SeqAt.EqAt.str_str a e b t
  | _=>exact absurd (show false=true from i) tI
 | _=>exact absurd (show false=true from j) tI
def kN(x:V)(u:Value):Bool:=match u with
 | .none=>Ng .non x
 | .bool b=>Ng (.bl b) x
 | .int i _=>Ng (.int i) x
 | .str z _=>Ng (.str z) x
 | _=>false
def Nh{x y:V}{u:Value}(r:qR y u)(f:Zx y=true):kN x u=Ng y x:=by
 cases y with
 | non=>cases r;rfl
 | bl b=>cases r;rfl
 | int i=>obtain⟨t,rfl⟩:=r;rfl
 | str z=>obtain⟨t,rfl⟩:=r;rfl
 | _=>exact absurd (show false=true from f) tI
def zV{x:V}:∀{xs:List V} {us:List Value},qK xs us->xs.all Zx=true->us.any (kN x)=xs.any λy=>Ng y x
 | _,_,.nil,_=>rfl
 | y::xs,u::us,.cons a t,f=>by
  rw[zcP,zan]at f;rw[zcp,zcp,Nh a f.1,zV t f.2]
def ZG{A:Around}{s:Shared}{x:V}{v:Value}(a:qR x v)(b:Zx x=true):∀{xs:List V} {us:List Value},qK xs us->xs.all Zx=true->∀u∈us,SeqAt.EqAt A s u v (kN x u)
 | _,_,.nil,_=>λu hu=>by cases hu
 | y::xs,u::us,.cons d t,f=>λe hu=>by
  rw[zcP,zan]at f;rcases tL.mp hu with rfl | hu
  ·rw[Nh d f.1];exact DF d a f.1 b
  ·exact ZG a b t f.2 e hu
def J2(x:V)(xs:List V):Bool:=xs.any λy=>Ng y x
inductive EO(K:zdM)(eR:Bool)(x:V)(y:V)(H:Hp)(Q:VK):Prop
 | mk (p:_) (xs:_):y=.ref p->((Q6 K H p xs\/zZ K H p xs))->Zx x=true->xs.all Zx=true->(Q (.bl (if eR then !J2 x xs else J2 x xs)) H)->EO K eR x y H Q
def BH(K:zdM)(eR:Bool):R2:=λx y H Q=>EO K eR x y H Q
def Jv{X:Cx}:Z0 X (compareOp .In) (BH X.K false):=by
 intro _ s _ H x y v u Q I j b h;obtain⟨_,_,rfl,a,l,fs,q⟩:=h;cases b;rcases a with a | a
 ·obtain⟨b,d,e,m⟩:=I.list a;refine SeqAt.in_listAt (kN x) e.isList (λw i=>ZG j l d fs w (by simpa using i)) ⟨.bl _,H,I,rfl,?_⟩;rw[show b.toArray.any (kN x)=b.any (kN x) by simp,zV d fs];exact q
 ·obtain⟨b,d,e,m⟩:=I.tuple a;refine SeqAt.in_tupleAt (kN x) e (λw i=>ZG j l d fs w (by simpa using i)) ⟨.bl _,H,I,rfl,?_⟩;rw[show b.toArray.any (kN x)=b.any (kN x) by simp,zV d fs];exact q
def QS{X:Cx}:Z0 X (compareOp .NotIn) (BH X.K true):=by
 intro _ s _ H x y v u Q I j b h;obtain⟨_,_,rfl,a,l,fs,q⟩:=h;cases b;rcases a with a | a
 ·obtain⟨b,d,e,m⟩:=I.list a;refine SeqAt.notIn_listAt (kN x) e.isList (λw i=>ZG j l d fs w (by simpa using i)) ⟨.bl _,H,I,rfl,?_⟩;rw[show b.toArray.any (kN x)=b.any (kN x) by simp,zV d fs];exact q
 ·obtain⟨b,d,e,m⟩:=I.tuple a;refine SeqAt.notIn_tupleAt (kN x) e (λw i=>ZG j l d fs w (by simpa using i)) ⟨.bl _,H,I,rfl,?_⟩;rw[show b.toArray.any (kN x)=b.any (kN x) by simp,zV d fs];exact q
def qx:Jh X (.builtin "len") (λxs H Q=>∃p ys,xs=[.ref p]/\(Q6 X.K H p ys\/zZ X.K H p ys)/\Q (.int ys.length) H):=by
 intro _ s _ H xs _ Q I b h;obtain⟨p,ys,rfl,a,q⟩:=h;obtain⟨u,rfl,d⟩:=JL b;cases d;have b:=XI;rcases a with a | a
 ·obtain⟨i,b,d,j⟩:=I.list a;have e:=b.length;exact Calls.call_len_list d.isList (by simp only[t7]<;>omega) ⟨.int ys.length,H,I.tok _,⟨s.toks+1,by rw[t7,e]⟩,q⟩
 ·obtain⟨i,b,d,j⟩:=I.tuple a;have e:=b.length;exact len_tuple d (by simp only[t7]<;>omega) ⟨.int ys.length,H,I.tok _,⟨s.toks+1,by rw[t7,e]⟩,q⟩
def Zp:Jh X (.builtin "len") (λxs H Q=>∃z,xs=[.str z]/\z.length<=zdR/\Q (.int z.length) H):=by
 intro _ s _ H xs _ Q I a h;obtain⟨z,rfl,_,q⟩:=h;obtain⟨u,rfl,t,rfl⟩:=JL a;have a:=XI;exact len_str (by omega) ⟨.int z.length,H,I.tok _,⟨_,rfl⟩,q⟩
def j6:Jh X (.type "list") (λxs H Q=>∃p ys,xs=[.ref p]/\(Q6 X.K H p ys\/zZ X.K H p ys)/\∀l,H l=none->Q (.ref l) (upd H l (.lst ys))):=by
 intro o s r H xs _ Q I a h;obtain⟨p,ys,rfl,m,q⟩:=h;obtain⟨u,rfl,d⟩:=JL a;cases d;have ew:∀(d:List Value),qK ys d->ys.length<=zdR->∀(a:Heap) (i:Nat),(∀b j,s.heap.get? b=some j->a.get? b=some j)->
   a.get? s.heap.objs.size=some {cls:=.type "list",dict:=none,data:=.seq d.toArray i,slots:=#[]}->EP X o r Q (.ref s.heap.objs.size) {s with heap:=a}:=λd j o a i r e=>
  ⟨.ref s.heap.objs.size,_,I.laid (t':=s.toks) r (tf _) (show qI X.prog X.w _ a _ (.lst ys) from⟨o,d,i,j,e⟩),rfl,q _ (I.hok.fresh (tf _))⟩
 rcases m with m | m
 ·obtain⟨d,j,v,o⟩:=I.list m;have z:=j.length;obtain⟨B,x,y,n,hd⟩:=v.isList;exact call_list_seq p (.inl rfl) x y hd (λa i r e=>ew d j o a i r e) (by simp only[t7]<;>omega)
 ·obtain⟨d,j,v,o⟩:=I.tuple m;have z:=j.length;obtain⟨B,x,y,n,hd⟩:=v;exact call_list_seq p (.inr rfl) x y hd (λa i r e=>ew d j o a i r e) (by simp only[t7]<;>omega)
def j9:Jh X (.type "tuple") (λxs H Q=>∃p ys,xs=[.ref p]/\((Q6 X.K H p ys/\∀l,H l=none->Q (.ref l) (upd H l (.tup ys)))\/(zZ X.K H p ys/\Q (.ref p) H))):=by
 intro o s r H xs _ Q I a h;obtain⟨p,ys,rfl,h⟩:=h;obtain⟨u,rfl,d⟩:=JL a;cases d;rcases h with ⟨d,q⟩ | ⟨d,q⟩
 ·obtain⟨i,j,m,v⟩:=I.list d;have a:=j.length;refine call_tuple_list m.isList (λa y=>?_) (by simp only[t7]<;>omega);have x:qv X o r H {s with heap:=a}:=I.kept (t':=s.toks) y;have y:qv X o r (upd H a.objs.size (.tup ys)) {s with heap:=a.push {cls:=.type "tuple",data:=.seq i.toArray}}:=
   x.laid (t':=s.toks) (λb _ e=>tm _ e) (tf _) (show qI X.prog X.w _ _ _ (.tup ys) from⟨v,i,j,IsTup.new _ _⟩)
  exact⟨.ref a.objs.size,_,y,rfl,q _ (x.hok.fresh (tf _))⟩
 ·obtain⟨i,j,m,v⟩:=I.tuple d;exact call_tuple_same m ⟨.ref p,H,I,rfl,q⟩
def Hk(K:zdM)(T:String)(x:V)(H:Hp):Prop:=match x with
 | .str _=>T="str"
 | .int _=>T="int"
 | .ref a=>(T="list"/\∃d,Q6 K H a d)\/(T="tuple"/\∃b,K.lookup a=some b/\b.cls=.type "tuple"/\b.dict=none)\/
  (T="dict"/\((∃kvs,H a=some (.dK kvs))\/∃kvs,H a=some (.dT kvs)))\/(T="set"/\∃S n,H a=some (.set S n))
 | _=>False
def uB(I:qv X d h H s)(r:qR x v)(ty:Hk X.K T x H):
  s.TypeIs v T/\∀a,v=.ref a->∃b,s.heap.get? a=some b/\b.dict=none:=by
 cases x with
 | str z=>
  obtain⟨t,rfl⟩:=r;cases (show T="str" from ty);exact⟨typeIs_str s z t,λ_ e=>nomatch e⟩
 | int i=>
  obtain⟨t,rfl⟩:=r;cases (show T="int" from ty);exact⟨typeIs_int s i t,λ_ e=>nomatch e⟩
 | ref h=>
  cases r;rcases ty with ⟨rfl,j,l⟩ | ⟨rfl,b,d,m,hd⟩ | ⟨rfl,d⟩ | ⟨rfl,S,n,d⟩
  ·obtain⟨_,_,j,_⟩:=I.list l;refine⟨j.isList.typeIs,λa e=>?_⟩;cases e;obtain⟨b,n,e,c,hd,_⟩:=j;exact⟨b,e,hd⟩
  ·refine⟨⟨b,I.kIn h b d,m⟩,λa e=>?_⟩;cases e;exact⟨b,I.kIn _ b d,hd⟩
  ·have z:∃b,s.heap.get? h=some b/\b.ExactDict:=by
    rcases d with ⟨kvs,d⟩ | ⟨kvs,d⟩
    ·obtain⟨_,_,_,_,b,_,_,e,ex,_⟩:=I.hok h _ d;exact⟨b,e,ex⟩
    ·obtain⟨_,_,_,_,b,_,_,e,ex,_⟩:=I.hok h _ d;exact⟨b,e,ex⟩
   obtain⟨b,e,ex⟩:=z;refine⟨⟨b,e,ex.1⟩,λa j=>?_⟩;cases j;exact⟨b,e,ex.2.1⟩
  ·obtain⟨b,_,_,_,e,ex,_⟩:=I.hok h _ d;refine⟨⟨b,e,ex.1⟩,λa j=>?_⟩;cases j;exact⟨b,e,ex.2.1⟩
 | _=>exact False.elim ty
def Hr(K:zdM)(T:String)(r:V->List V->Hp->VK->Prop)(to:TE):TE:=λa H Q=>to a H λx a=>Hk K T x a/\r x [] a Q
def Hs(K:zdM)(T:String)(r:V->List V->Hp->VK->Prop)(to:TE)(t:TA):TE:=λa H Q=>to a H λx b=>Hk K T x b/\t a b λa b=>r x a b Q
def RK{X:Cx}{o:Expr}{to:TE}{name:Str}{b_:Pos}{b:Pos}{T:String}{id:String}{r:V->List V->Hp->VK->Prop}(i:PlainAttrs T)(slot:Slot T name id)(j:typeOf (.builtin id)=pure (.type "method_descriptor"))(l:FV X id r)(a:JE X o to)(e:attributeBase o name X.env (eval o X.env)=eval o X.env:=by rfl)(m:(b_.endLine==b.line)=true:=by rfl):JE X (.Call (.Attribute o name b_) [] [] b) (Hr X.K T r to):=.of (by
 have a:=a.to;intro b s d H Q I h;refine wpAny_Call_method0_late e m (js (a b s d H _ I h) λv m ⟨x,p,a,e,ty,q⟩=>?_);obtain⟨u,y⟩:=uB a e ty;exact⟨T,id,i,slot,j,u,y,Calls.callWith_builtin rfl (PySem.evalArgs_none (l b m d p x [] v [] Q a e .nil q))⟩)
def EU{X:Cx}{o:Expr}{e:Expr}{es:List Expr}{to:TE}{t:TA}{name:Str}{b_:Pos}{a:Pos}{T:String}{id:String}{r:V->List V->Hp->VK->Prop}(l:PlainAttrs T)(slot:Slot T name id)(m:typeOf (.builtin id)=pure (.type "method_descriptor"))(p:FV X id r)(i:PE X o to)(q:PA X (e::es) t)
  (j:attributeBase o name X.env (eval o X.env)=eval o X.env:=by rfl)
  (u:((backTo a (starEach (e::es) X.env)).all (λx=> !x.1)&&(backToKw a (keywordEach [] X.env)).all (λx=>x.1.isSome)
   &&decide ((e::es).length+([]:List Keyword).length+(if ([]:List Keyword).isEmpty then 0 else 1) < 30))=true:=by rfl)
  (y:(b_.endLine==a.line)=true:=by rfl) (z:starEach (e::es) X.env=(false,eval e X.env)::starEach es X.env:=by rfl) (B:(backTo a (starEach es X.env)).any (·.1)=false:=by rfl):
  PE X (.Call (.Attribute o name b_) (e::es) [] a) (Hs X.K T r to t):=by
 intro b s d H Q I h;refine wpAny_Call_method_late j u y rfl (js (i b s d H _ I h) λv u ⟨x,y,i,j,ty,C⟩=>?_);obtain⟨D,J⟩:=uB i j ty;refine⟨T,id,l,slot,m,D,J,?_⟩;have l:=q a b u d y _ i C;rw[z]at l ⊢;refine Calls.callWith_builtin (by show (false || (backTo a (starEach es X.env)).any (·.1))=false;rw[B]<;>rfl) (Calls.evalArgs_plain ?_);exact js l λa i ⟨l,m,q,u,y⟩=>p b i d m x l v a Q q j u y
def YF{X:Cx}{o:Expr}{e:Expr}{es:List Expr}{to:TE}{t:TA}{name:Str}{b_:Pos}{a:Pos}{T:String}{id:String}{r:V->List V->Hp->VK->Prop}(b:PlainAttrs T)(slot:Slot T name id)(d:typeOf (.builtin id)=pure (.type "method_descriptor"))(h:FV X id r)(i:JE X o to)(j:JA X (e::es) t)(l:attributeBase o name X.env (eval o X.env)=eval o X.env:=by rfl) (m:((backTo a (starEach (e::es) X.env)).all (λx=> !x.1)&&(backToKw a (keywordEach [] X.env)).all (λx=>x.1.isSome)
 &&decide ((e::es).length+([]:List Keyword).length+(if ([]:List Keyword).isEmpty then 0 else 1) < 30))=true:=by rfl) (p:(b_.endLine==a.line)=true:=by rfl) (q:starEach (e::es) X.env=(false,eval e X.env)::starEach es X.env:=by rfl) (u:(backTo a (starEach es X.env)).any (·.1)=false:=by rfl):JE X (.Call (.Attribute o name b_) (e::es) [] a) (Hs X.K T r to t):=.of (EU b slot d h i.to j.to l m p q u)
open PyProof.Rows hiding K lo
def IH(X:Cx)(id:String)(r:V->List V->Hp->VK->Prop):Prop:=
 ∀(a:List (Addr×Obj)) (s:Shared) (b:St) (H:Hp) (x:V) (d:List V) (v:Value) (e:List Value) (Q:VK),qv X a b H s->qR x v->qK d e->r x d H Q->
  wpAny (model X.prog X.w) X.A (call (.builtin id) (v::e)) (EP X a b Q) X.xe s
def qK.one:∀{x:V} {us:List Value},qK [x] us->∃u,us=[u]/\qR x u
 | _,_,.cons a .nil=>⟨_,rfl,a⟩
def qK.zero:∀{us:List Value},qK [] us->us=[]
 | _,.nil=>rfl
def qK.reverse(h:qK xs us):qK xs.reverse us.reverse:=by
 induction h with
 | nil=>exact .nil
 | cons a t b=>rw[zdB,zdB];exact qK.append b (.cons a .nil)
def qv.lset{a its':List Value}{f:Array Value->Array Value}(I:qv X b d H s)(h:H l=some (.lst xs))(e:s.heap.get? l=some {cls:=.type "list",data:=.seq a.toArray n})(i:f a.toArray=its'.toArray)(j:qK ys its')(hz:ys.length<=zdR):
  qv X b d (upd H l (.lst ys)) {s with heap:=s.heap.update l (Obj.mapSeq f),toks:=t'}:=by
 have q:=PySem.IsL.update e f;rw[i]at q;refine I.write (x:=l) (e:=l) (by rw[h];exact trivial) (.inl rfl) (λ_ u a hu=>(zag s.heap (Obj.mapSeq f) (Ne.symm a)).trans hu) ⟨_,q⟩ ?_;exact⟨hz,its',_,j,q⟩
def qv.lstM(I:qv X b h H s)(d:H l=some (.lst xs)):xs.length<=zdR/\∃(a:List Value) (n:Nat),qK xs a/\xs.length=a.length/\s.heap.get? l=some {cls:=.type "list",data:=.seq a.toArray n}:=by
 obtain⟨z,a,n,b,e⟩:=I.hok l _ d;exact⟨z,a,n,b,b.length,e⟩
def G9(h:n<=zdR):Builtin.List.listTooLong n=false:=by
 unfold Builtin.List.listTooLong;exact decide_eq_false (by omega)
inductive U0(x:V)(vs:List V)(H:Hp)(Q:VK):Prop
 | mk (l:_) (xs:_) (y:_):x=.ref l->vs=[y]->H l=some (.lst xs)->(xs.length < zdR)->(Q .non (upd H l (.lst (xs++[y]))))->U0 x vs H Q
def yT:V->List V->Hp->VK->Prop:=λx a H Q=>U0 x a H Q
def J8:IH X "list.append" yT:=by
 intro _ s _ H x _ v _ Q I b d h;obtain⟨i,_,y,rfl,rfl,a,_,q⟩:=h;cases b;obtain⟨u,rfl,j⟩:=d.one;obtain⟨z,b,n,d,_,e⟩:=I.lstM a;refine call_meets F.slot_list_append ⟨_,e,rfl⟩ F.entry_list_append (F.args_list_append_2 _ _) (PySem.list_append i b.toArray n u (by rw[t7];omega)) ⟨e,?_⟩;refine⟨.non,_,I.lset (its':=b++[u]) a e (by simp) (d.append (.cons j .nil)) ?_,rfl,q⟩;rw[tv,zar];omega
inductive UZ(x:V)(vs:List V)(H:Hp)(Q:VK):Prop
 | mk (l:_) (b:_) (xs:_) (zs:_):x=.ref l->vs=[.ref b]->H l=some (.lst xs)->H b=some (.lst zs)->(xs.length+zs.length<=zdR)->(Q .non (upd H l (.lst (xs++zs))))->UZ x vs H Q
def ML:V->List V->Hp->VK->Prop:=λx a H Q=>UZ x a H Q
def Yj:IH X "list.extend" ML:=by
 intro _ s _ H x _ v _ Q I a d h;obtain⟨j,b,_,_,rfl,rfl,i,l,_,q⟩:=h;cases a;obtain⟨u,rfl,a⟩:=d.one;cases a;obtain⟨z,a,n,m,_,e⟩:=I.lstM i;obtain⟨_,d,n2,o,_,p⟩:=I.lstM l;have l:a.toArray.size+d.toArray.size<=zdR:=by rw[t7,t7];omega
 have r:¬(!a.toArray.isEmpty&&Builtin.List.listTooLong (a.toArray.size+d.toArray.size))=true:=by
  rw[G9 l,Bool.and_false];exact tI
 refine call_meets F.slot_list_extend ⟨_,e,rfl⟩ F.entry_list_extend (F.args_list_extend_2 _ _)
  (AutoSeq1.list_extend_list_list_0 j a.toArray n b d.toArray n2 r (by rw[t7];omega) (by omega)) ⟨e,p,?_⟩
 refine⟨.non,_,I.lset (its':=a++d) i e (by simp) (m.append o) ?_,rfl,q⟩;rw[tv];omega
inductive WK(x:V)(vs:List V)(H:Hp)(Q:VK):Prop
 | mk (l:_) (xs:_):x=.ref l->vs=[]->H l=some (.lst xs)->(Q .non (upd H l (.lst xs.reverse)))->WK x vs H Q
def K0:V->List V->Hp->VK->Prop:=λx a H Q=>WK x a H Q
def ko:IH X "list.reverse" K0:=by
 intro _ s _ H x _ v _ Q I b d h;obtain⟨i,_,rfl,rfl,a,q⟩:=h;cases b;have b:=d.zero;subst b;obtain⟨z,b,n,d,_,e⟩:=I.lstM a;refine call_meets F.slot_list_reverse ⟨_,e,rfl⟩ F.entry_list_reverse (F.args_list_reverse_1 _) (AutoSeq1.list_reverse_list_0 i b.toArray n (by rw[t7];omega)) ⟨e,?_⟩;refine⟨.non,_,I.lset (its':=b.reverse) a e (by simp) d.reverse ?_,rfl,q⟩;rw[zbZ];omega
set_option maxRecDepth 100000 in
open PyProof.Rows hiding K lo
section
variable{κ:Type}[DecidableEq κ]
def qO(kvs:List (κ×V))(k:κ):Option V:=(kvs.find? λa=>decide (a.1=k)).map (·.2)
def jD(kvs:List (κ×V))(k:κ)(v:V):List (κ×V):=
 if (kvs.any λa=>decide (a.1=k))=true then kvs.map (λa=>if a.1=k then (a.1,v) else a) else kvs++[(k,v)]
def jz{p:κ×V}{r:List (κ×V)}{k:κ}(e:p.1=k):qO (p::r) k=some p.2:=by simp [qO,zaR,e]
def jk{p:κ×V}{r:List (κ×V)}{k:κ}(e:¬p.1=k):qO (p::r) k=qO r k:=by simp [qO,zaR,e]
def Ja(k:κ):∀kvs:List (κ×V),(kvs.any λkv=>decide (kv.1=k))=(qO kvs k).isSome
 | []=>rfl
 | a::b=>by
  rw[zcp];by_cases e:a.1=k
  ·simp only[jz e,decide_eq_true e,Bool.true_or,Option.isSome_some]
  ·rw[jk e,decide_eq_false e,Bool.false_or];exact Ja k b
def valV_map(k j:κ)(y:V):∀kvs:List (κ×V),qO (kvs.map λkv=>if kv.1=k then (kv.1,y) else kv) j=(qO kvs j).map λx=>if j=k then y else x
 | []=>rfl
 | a::d=>by
  have b:=valV_map k j y d;rw[tM];by_cases h:a.1=k
  ·rw[if_pos h];by_cases e:a.1=j
   ·rw[jz (p:=(a.1,y)) e,jz e,zce,if_pos (e.symm.trans h)]
   ·rw[jk (p:=(a.1,y)) e,jk e,b]
  ·rw[if_neg h];by_cases e:a.1=j
   ·rw[jz (p:=a) e,jz e,zce,if_neg (λz=>h (e.trans z))]
   ·rw[jk (p:=a) e,jk e,b]
def Wv(k j:κ)(y:V):∀kvs:List (κ×V),qO kvs k=none->qO (kvs++[(k,y)]) j=if j=k then some y else qO kvs j
 | [],_=>by
  by_cases e:k=j
  ·rw[if_pos e.symm];exact jz (p:=(k,y)) e
  ·rw[if_neg (λz=>e z.symm)];exact jk (p:=(k,y)) e
 | b::h,a=>by
  rw[zcR];have d:¬b.1=k:=λz=>by rw[jz z]at a;cases a
  rw[jk d]at a;have i:=Wv k j y h a;by_cases e:b.1=j
  ·rw[jz e,jz e,if_neg (λz=>d (e.trans z))]
  ·rw[jk e,jk e,i]
def Qv(kvs:List (κ×V))(k j:κ)(y:V):qO (jD kvs k y) j=if j=k then some y else qO kvs j:=by
 unfold jD;by_cases a:(kvs.any λb=>decide (b.1=k))=true
 ·rw[if_pos a,valV_map];rw[Ja]at a;by_cases e:j=k
  ·obtain⟨x,b⟩:=zcO.mp a;rw[if_pos e,e,b,zce,if_pos rfl]
  ·rw[if_neg e];cases qO kvs j with
   | none=>rfl
   | some x=>rw[zce,if_neg e]
 ·rw[if_neg a];refine Wv k j y kvs ?_;rw[Ja]at a;cases q:qO kvs k with
  | none=>rfl
  | some x=>rw[q]at a;exact(a rfl).elim
def Jd(kvs:List (κ×V))(k:κ)(v:V):(jD kvs k v).length<=kvs.length+1:=by
 unfold jD;split
 ·rw[ta];omega
 ·rw[tv,zab,zcr];omega
def QR{kvs:List (κ×V)}{k:κ}(v:V)(h:qO kvs k=none):jD kvs k v=kvs++[(k,v)]:=by
 unfold jD;rw[Ja,h];exact if_neg (by decide)
def Zq.isSome_eq(r:Zq o u):o.isSome=u.isSome:=by
 cases o with
 | none=>cases u with
  | none=>rfl
  | some _=>exact(show False from r).elim
 | some _=>cases u with
  | none=>exact(show False from r).elim
  | some _=>rfl
def Zq.getD(r:Zq o u)(a:qR d d'):qR (o.getD d) (u.getD d'):=by
 cases o with
 | none=>cases u with
  | none=>exact a
  | some _=>exact(show False from r).elim
 | some _=>cases u with
  | none=>exact(show False from r).elim
  | some _=>exact r
def KV.val(r:KV kvs vs)(k:κ):Zq (qO kvs k) (valueAt vs k):=by
 unfold KV at r;induction r with
 | nil=>exact True.intro
 | @cons d q i a h t j=>
  obtain⟨i,l⟩:=h;by_cases e:d.1=k
  ·have d:q.1=k:=i.symm.trans e;have b:valueAt (q::a) k=some q.2:=by simp [valueAt,zaR,d]
   rw[jz e,b];exact l
  ·have d:¬q.1=k:=λz=>e (i.trans z);have b:valueAt (q::a) k=valueAt a k:=by simp [valueAt,zaR,d]
   rw[jk e,b];exact j
def KV.any(r:KV kvs vs)(k:κ):(kvs.any λkv=>decide (kv.1=k))=vs.any λkv=>decide (kv.1=k):=by
 unfold KV at r;induction r with
 | nil=>rfl
 | cons h t a=>rw[zcp,zcp,a,h.1]
def KV.repl(r:KV kvs vs)(k:κ)(b:qR y u):
  KV (kvs.map λkv=>if kv.1=k then (kv.1,y) else kv) (vs.map λkv=>if kv.1=k then (kv.1,u) else kv):=by
 unfold KV at r ⊢;induction r with
 | nil=>exact .nil
 | @cons d q i j h t a=>
  rw[tM,tM];refine .cons ?_ a;obtain⟨a,i⟩:=h;by_cases e:d.1=k
  ·rw[if_pos e,if_pos (a.symm.trans e)];exact⟨a,b⟩
  ·rw[if_neg e,if_neg (λz=>e (a.trans z))];exact⟨a,i⟩
def KV.put(r:KV kvs vs)(k:κ)(a:qR y u):KV (jD kvs k y) (stored vs k u):=by
 unfold jD stored;rw[r.any k];by_cases e:(vs.any λb=>decide (b.1=k))=true
 ·rw[if_pos e,if_pos e];exact r.repl k a
 ·rw[if_neg e,if_neg e];exact Paired.snoc r ⟨rfl,a⟩
def KV.length(r:KV kvs vs):kvs.length=vs.length:=Paired.length r
end
def YE(r:qR (kV k) u):(qZ P w).is k u=true:=by
 cases k with
 | inl i=>obtain⟨t,e⟩:=(show ∃t,u=Value.int i t from r);subst e;exact vd P w i t
 | inr x=>obtain⟨t,e⟩:=(show ∃t,u=Value.str x t from r);subst e;exact vc P w x t
def WY:∀{b:List qF} {us:List Value},qK (b.map kV) us->ItemsAre (qZ P w) b us
 | [],_,a=>by rw[zbX]at a;cases a;exact .nil
 | k::b,_,a=>by
  rw[tM]at a;cases a with
  | cons h t=>exact .cons (YE h) (WY t)
abbrev KT(H:Hp):List (List qF×V)->List (List qF×Addr×Value)->Prop:=Paired λa q=>a.1=q.1/\H q.2.1=some (.tup (a.1.map kV))/\qR a.2 q.2.2
def KT.val(r:KT H kvs xs)(k:List qF):Zq (qO kvs k) ((atKey xs k).map (·.2)):=by
 induction r with
 | nil=>exact True.intro
 | @cons d q i a h t j=>
  obtain⟨i,_,l⟩:=h;by_cases e:d.1=k
  ·have d:q.1=k:=i.symm.trans e;have b:atKey (q::a) k=some q.2:=by simp [atKey,zaR,d]
   rw[jz e,b];exact l
  ·have d:¬q.1=k:=λz=>e (i.trans z);have b:atKey (q::a) k=atKey a k:=by simp [atKey,zaR,d]
   rw[jk e,b];exact j
def KT.repl(r:KT H kvs xs)(k:List qF)(d:qR y u):
  KT H (kvs.map λkv=>if kv.1=k then (kv.1,y) else kv) (xs.map (putAt k u)):=by
 induction r with
 | nil=>exact .nil
 | @cons i q b j h t a=>
  rw[tM,tM];refine .cons ?_ a;obtain⟨a,b,j⟩:=h;unfold putAt;by_cases e:i.1=k
  ·rw[if_pos e,if_pos (a.symm.trans e)];exact⟨a,b,d⟩
  ·rw[if_neg e,if_neg (λz=>e (a.trans z))];exact⟨a,b,j⟩
def KT.put(r:KT H kvs xs)(k:List qF)(d:H b=some (.tup (k.map kV)))(a:qR y u):
  KT H (jD kvs k y) (storedH xs k b u):=by
 have e:(kvs.any λh=>decide (h.1=k))=(atKey xs k).isSome:=by
  rw[Ja,(r.val k).isSome_eq,zcL]
 unfold jD storedH;rw[e];by_cases q:(atKey xs k).isSome=true
 ·rw[if_pos q,if_pos q];exact r.repl k a
 ·rw[if_neg q,if_neg q];exact Paired.snoc r ⟨rfl,d,a⟩
def KT.keeps{H':Hp}(r:KT H kvs xs)(a:∀b ys,H b=some (.tup ys)->H' b=some (.tup ys)):KT H' kvs xs:=
 Paired.mapP r λ_ _ z=>⟨z.1,a _ _ z.2.1,z.2.2⟩
def By(ok:Zd P w H h)(e:Rd H a u):qI P w H h a u:=e.ok ok
def YJ(ok:Zd P w H h)(e:Rd H a (.dK kvs)):kvs.length<=zdR/\(a==sysModules)=false/\∃vs,KV kvs vs/\h.DictOf (qZ P w) a vs:=
 show qI P w H h a (.dK kvs) from By ok e
def xu(ok:Zd P w H h)(e:H a=some (.dK kvs)):kvs.length<=zdR/\(a==sysModules)=false/\∃vs,KV kvs vs/\h.DictOf (qZ P w) a vs:=YJ ok (.inl e)
def zi{b:List qF}(ok:Zd P w H h)(e:H a=some (.tup (b.map kV))):(tupleKind (qZ P w)).is h b a:=by
 obtain⟨_,d,i,j,l,m,n,o⟩:=(show qI P w H h a (.tup (b.map kV)) from ok a _ e);exact⟨j,d.toArray,n,l,m,o,by simpa using WY i⟩
def XX(ok:Zd P w H h)(e:Rd H a (.dT kvs)):kvs.length<=zdR/\(a==sysModules)=false/\
  ∃xs,KT H kvs xs/\h.DictOfH (tupleKind (qZ P w)) a xs:=by
 obtain⟨z,y,xs,d,b,i,j,l,o,p,r,u⟩:=(show qI P w H h a (.dT kvs) from By ok e);refine⟨z,y,xs,d,b,i,j,l,o,p,r,λx b=>?_,u⟩;have all:∀{i:List (List qF×V)} {m:List (List qF×Addr×Value)},KT H i m->∀x∈m,(tupleKind (qZ P w)).is h x.1 x.2.1:=by
  intro i m q;induction q with
  | nil=>intro x b;exact nomatch b
  | @cons l q o p i t j=>
   intro x b;rcases tL.mp b with e | b
   ·subst e;exact zi ok (by rw[<-i.1];exact i.2.1)
   ·exact j x b
 exact all d x b
def B3(ok:Zd P w H h)(e:H a=some (.dT kvs)):kvs.length<=zdR/\(a==sysModules)=false/\
 ∃xs,KT H kvs xs/\h.DictOfH (tupleKind (qZ P w)) a xs:=XX ok (.inl e)
def ju(H:Hp)(a:Addr)(y:V)(r:Option V):Prop:=
 (∃kvs k,Rd H a (.dK kvs)/\y=kV k/\r=qO kvs k)\/∃kvs k b,Rd H a (.dT kvs)/\y=.ref b/\H b=some (.tup (k.map kV))/\r=qO kvs k
def Jl(H:Hp)(a:Addr)(y v:V)(H':Hp):Prop:=
 (∃kvs k,H a=some (.dK kvs)/\y=kV k/\kvs.length < zdR/\H'=upd H a (.dK (jD kvs k v)))\/
 ∃kvs k b,H a=some (.dT kvs)/\y=.ref b/\H b=some (.tup (k.map kV))/\kvs.length < zdR/\H'=upd H a (.dT (jD kvs k v))
def ju.k{H:Hp}{a:Addr}{kvs:List (qF×V)}{k:qF}(e:H a=some (.dK kvs)):ju H a (kV k) (qO kvs k):=.inl ⟨kvs,k,.inl e,rfl,rfl⟩
def ju.t{H:Hp}{k:List qF}(e:H a=some (.dT kvs))(d:H b=some (.tup (k.map kV))):ju H a (.ref b) (qO kvs k):=.inr ⟨kvs,k,b,.inl e,rfl,d,rfl⟩
def Jl.k{H:Hp}{a:Addr}{kvs:List (qF×V)}{k:qF}{v:V}(e:H a=some (.dK kvs))(b:kvs.length < zdR):Jl H a (kV k) v (upd H a (.dK (jD kvs k v))):=.inl ⟨kvs,k,e,rfl,b,rfl⟩
def Jl.t{H:Hp}{k:List qF}(e:H a=some (.dT kvs))(d:H b=some (.tup (k.map kV)))(h:kvs.length < zdR):
 Jl H a (.ref b) v (upd H a (.dT (jD kvs k v))):=.inr ⟨kvs,k,b,e,rfl,d,h,rfl⟩
def qv.big(I:qv X a b H s):sysModules < s.heap.objs.size:=by
 have h:mainGlobals < s.heap.objs.size:=(I.mod.glob.keeps I.bk).lt;exact zdC (by decide) h
def uf{A:Around}{Q:Value->Shared->Prop}(hu:A.units+1 < cLine)(I:qv X j l H s)(g:ju H a y (some v))(p:qR y u)(h:∀d i,qv X j l H i->qR v d->Q d i):
  wpAny (model X.prog X.w) A (getItem (.ref a) u) Q E s:=by
 rcases g with ⟨kvs,k,e,i,j⟩ | ⟨kvs,k,b,e,i,q,j⟩
 ·subst i;obtain⟨z,hd,r,c_,l⟩:=YJ I.hok e;obtain⟨d,m,o⟩:=Zq.some_of (v:=v) (o:=valueAt r k) (by rw[j];exact c_.val k);exact wpAny_getItem_of (YE p) l.mapOf m (h d _ (I.tok _) o)
 ·subst i;cases (show u=Value.ref b from p);obtain⟨z,hd,i,c_,l⟩:=XX I.hok e;obtain⟨d,m,o⟩:=Zq.some_of (v:=v) (o:=(atKey i k).map (·.2)) (by rw[j];exact c_.val k);obtain⟨_,i,j⟩:=zbJ.mp m;refine wpAny_getItem_heap (tupleKind_room_in1 hu) (zi I.hok q) l i ?_;rw[j];exact h d _ (I.tok _) o
def IC{A:Around}{Q:Value->Shared->Prop}(hu:A.units+1 < cLine)(I:qv X i j H s)(g:ju H a y o)(l:qR y u)(h:∀d,qv X i j H d->Q (.bool o.isSome) d):
  wpAny (model X.prog X.w) A (compareOp .In u (.ref a)) Q E s:=by
 rcases g with ⟨kvs,k,e,d,i⟩ | ⟨kvs,k,b,e,d,m,i⟩
 ·subst d;obtain⟨z,hd,_,c_,j⟩:=YJ I.hok e;refine wpAny_in_of (YE l) hd j.mapOf ?_;rw[<-(c_.val k).isSome_eq,<-i];exact h _ (I.tok _)
 ·subst d;cases (show u=Value.ref b from l);obtain⟨z,hd,_,c_,j⟩:=XX I.hok e;refine wpAny_in_heap (tupleKind_room_in1 hu) (zi I.hok m) hd j ?_;have q:=(c_.val k).isSome_eq;rw[zcL]at q;rw[<-q,<-i];exact h _ (I.tok _)
def AJ{A:Around}{Q:Value->Shared->Prop}(hu:A.units+1 < cLine)(I:qv X i j H s)(g:ju H a y o)(l:qR y u)(h:∀d,qv X i j H d->Q (.bool (!o.isSome)) d):
  wpAny (model X.prog X.w) A (compareOp .NotIn u (.ref a)) Q E s:=by
 rcases g with ⟨kvs,k,e,d,i⟩ | ⟨kvs,k,b,e,d,m,i⟩
 ·subst d;obtain⟨z,hd,_,c_,j⟩:=YJ I.hok e;refine wpAny_notIn_of (YE l) hd j.mapOf ?_;rw[<-(c_.val k).isSome_eq,<-i];exact h _ (I.tok _)
 ·subst d;cases (show u=Value.ref b from l);obtain⟨z,hd,_,c_,j⟩:=XX I.hok e;refine wpAny_notIn_heap (tupleKind_room_in1 hu) (zi I.hok m) hd j ?_;have q:=(c_.val k).isSome_eq;rw[zcL]at q;rw[<-q,<-i];exact h _ (I.tok _)
def zT(I:qv X e h H s)(i:B8 (H a))(j:Heap.SameBut a s.heap h')(l:∃q,h'.get? a=some q)(new:qI X.prog X.w (upd H a d) h' a d):
  qv X e h (upd H a d) {s with heap:=h',toks:=t'}:=
 I.write (x:=a) (e:=a) i (.inl rfl) (λb q d z=>(j.2 b d).trans z) l new
def V7{h':Heap}{kvs:List (qF×V)}(z:kvs.length<=zdR)(hd:(a==sysModules)=false)(c_:KV kvs vs)(b:h'.DictOf (qZ P w) a vs):
 qI P w H' h' a (.dK kvs):=⟨z,hd,vs,c_,b⟩
def ue{A:Around}{Q:Unit->Shared->Prop}(hu:A.units+1 < cLine)(I:qv X i j H s)(g:Jl H a y v H')(B:qR y u)(C:qR v r)(h:∀d,qv X i j H' d->Q () d):
  wpAny (model X.prog X.w) A (setItem (.ref a) u r) Q E s:=by
 rcases g with ⟨kvs,k,e,j,d,l⟩ | ⟨kvs,k,b,e,j,D,d,l⟩
 ·subst j l;obtain⟨z,hd,d,c_,m⟩:=xu I.hok e;have o:d.length<=zdR:=by rw[<-c_.length];exact z
  have p:(jD kvs k v).length<=zdR:=by have:=Jd kvs k v;omega
  refine wpAny_setItem_pairs (hsz:=o) (YE B) m λJ d x=>h _ ?_;have L:∃q,J.get? a=some q:=let ⟨q,_,_,i,_⟩:=d;⟨q,i⟩;exact zT I (by rw[e];exact True.intro) x L (V7 p hd (c_.put k C) d)
 ·subst j l;cases (show u=Value.ref b from B);obtain⟨z,hd,j,c_,m⟩:=B3 I.hok e;have o:j.length<=zdR:=by rw[<-Paired.length c_];exact z
  have p:(jD kvs k v).length<=zdR:=by have:=Jd kvs k v;omega
  refine wpAny_setItem_heap (hsz:=o) (tupleKind_room_in1 hu) (zi I.hok D) m λJ d x=>h _ ?_;obtain⟨q,j,l,i,m,o,B,_,J⟩:=d;refine zT I (by rw[e];exact True.intro) x ⟨q,i⟩ ⟨p,hd,_,(c_.put k D C).keeps λc _ d=>?_,q,j,l,i,m,o,B,J⟩;rw[qc (BN d e (λz=>nomatch z))];exact d
def FU(i:Expr):Prop:=∀a b,subscripted i false a b=operate [a,b] (getItem a b)
def N0{prog:Program}{w:World}{A:Around}{E:Value->Shared->Prop}{s:Shared}{env:Env}{d8 eu:Expr}{pos:Pos}{T id:String}{Q:Value->Shared->Prop}
  (e:typeLookup (.type T) "__getitem__"=pure (some (.builtin id))) (j:FU eu)
  (h:wpAny (model prog w) A (eval d8 env) (λo b=>wpAny (model prog w) A (eval eu env) (λi a=>a.TypeIs o T/\wpAny (model prog w) A (getItem o i) Q E a) E b) E s):
  wpAny (model prog w) A (eval (.Subscript d8 eu pos) env) Q E s:=by
 refine Subscript_ (wpAny_mono h (λo b b=>wpAny_mono b (λi a b=>?_) λ_ _ x=>x) λ_ _ x=>x);obtain⟨d,b⟩:=b;unfold subscriptTail;refine zdO ?_;rw[getitemInPython_of_ne d.not_modules];refine zdO (wpAny_specialOf d e ?_);have ew:wpAny (model prog w) A (subscripted eu false o i) (λd e=>wpAny (model prog w) A (letTemporaryGo d8 o d >>= λ_=>pure d) Q E e) E a:=by
  rw[j o i];exact wpAny_operating (wpAny_mono b (λd e a=>zdO (wpAny_letTemporaryGo (zdP a))) λ_ _ x=>x)
 first
  | exact zdP (zdO ew)
  | exact zdO (zdP (zdO ew))
  | exact zdO ew
def vu(I:qv X d h H s)(g:ju H a y o):s.TypeIs (.ref a) "dict":=by
 rcases g with ⟨kvs,k,e,_,_⟩ | ⟨kvs,k,b,e,_,_,_⟩
 ·obtain⟨_,_,_,_,d⟩:=YJ I.hok e;exact d.typeIs
 ·obtain⟨_,_,_,_,d⟩:=XX I.hok e;exact d.typeIs
inductive uV(Q:VK)(x:V)(y:V)(H2:Hp):Prop
 | mk (a:_) (v:_):x=.ref a->(ju H2 a y (some v))->Q v H2->uV Q x y H2
def QQ(b ty:TE):TE:=λa H Q=>b a H λx b=>ty a b λy a=>uV Q x y a
inductive A6(Q:VK)(y:V)(x:V)(H2:Hp):Prop
 | mk (a:_) (o:_):x=.ref a->ju H2 a y o->(Q (.bl o.isSome) H2)->A6 Q y x H2
def NX(ty b:TE):TE:=λa H Q=>ty a H λy d=>b a d λx a=>A6 Q y x a
inductive Ur(Q:VK)(y:V)(x:V)(H2:Hp):Prop
 | mk (a:_) (o:_):x=.ref a->ju H2 a y o->(Q (.bl (!o.isSome)) H2)->Ur Q y x H2
def yi(ty b:TE):TE:=λa H Q=>ty a H λy d=>b a d λx a=>Ur Q y x a
inductive KN(D:Jk)(σ:St)(v:V)(x:V)(y:V)(H3:Hp):Prop
 | mk (a:_) (H4:_):x=.ref a->Jl H3 a y v H4->D.nx σ H4->KN D σ v x y H3
def KO(b ty d:TE):TS:=λD a H=>d a H λv d=>b a d λx b=>ty a b λy b=>KN D a v x y b
def qA(b:JE X o e)(d:JE X i ty)(l:FU i:=by exact λ_ _=>rfl)(hu:X.A.units+1 < cLine:=by exact hu_of hr):JE X (.Subscript o i pos) (QQ e ty):=.of (by
 have b:=b.to;have d:=d.to;intro e s j H Q I h;refine N0 PySem.F.slot_dict_getitem.lookup l (js (b e s j H _ I h) λu b ⟨x,l,m,p,q⟩=>js (d e b j l _ m q) λ_ _ ⟨y,d,b,e,a,v,ex,g,j⟩=>?_);subst ex;obtain rfl:u=Value.ref a:=p;exact⟨vu b g,uf hu b g e λ_ _ b e=>⟨v,d,b,e,j⟩⟩)
def ZL(b:JE X i ty)(d:JE X o e)(hu:X.A.units+1 < cLine:=by exact hu_of hr):JC X .In i o (NX ty e):=.of (by
 have b:=b.to;have d:=d.to;intro e s j H Q I h;refine js (b e s j H _ I h) λ_ b ⟨y,l,m,p,q⟩=>js (d e b j l _ m q) λu _ ⟨x,b,d,e,a,j,ex,g,l⟩=>?_;subst ex;obtain rfl:u=Value.ref a:=e;exact IC hu d g p λ_ d=>⟨.bl j.isSome,b,d,rfl,l⟩)
def J9(b:JE X i ty)(d:JE X o e)(hu:X.A.units+1 < cLine:=by exact hu_of hr):JC X .NotIn i o (yi ty e):=.of (by
 have b:=b.to;have d:=d.to;intro e s j H Q I h;refine js (b e s j H _ I h) λ_ b ⟨y,l,m,p,q⟩=>js (d e b j l _ m q) λu _ ⟨x,b,d,e,a,j,ex,g,l⟩=>?_;subst ex;obtain rfl:u=Value.ref a:=e;exact AJ hu d g p λ_ d=>⟨.bl (!j.isSome),b,d,rfl,l⟩)
def jl{pos:Pos}(d:JE X o b)(e:JE X i ty)(j:JE X d8 l)(hu:X.A.units+1 < cLine:=by exact hu_of hr)(m:swapsWith d8 (some (.Subscript o i p)) pos.line X.env=pure false:=by exact rfl):JS X (.Assign [.Subscript o i p] d8 pos) (KO b ty l):=.of (by
 have d:=d.to;have e:=e.to;have j:=j.to;intro l s b H D I h;refine wpAny_Assign_Subscript (js (j l s b H _ I h) λ_ j ⟨v,p,q,r,z⟩=>js (d l j b p _ q z) λu d ⟨x,j,p,q,z⟩=>js (e l d b j _ p z) λ_ _ ⟨y,_,d,e,a,j,ex,g,l⟩=>?_) m;subst ex;obtain rfl:u=Value.ref a:=q;exact ue hu d g e r λ_ d=>⟨b,j,d,l⟩)
def vt(h:Heap)(a:sysModules < h.objs.size):qI P w H (h.push {cls:=.type "dict",data:=.dict #[]}) h.objs.size (.dK []):=
 ⟨zat _,beq_eq_false_iff_ne.mpr (Ne.symm (tS a)),[],.nil,Heap.DictOf.new h⟩
def Ni(h:Heap)(a:sysModules < h.objs.size):qI P w H (h.push {cls:=.type "dict",data:=.dict #[]}) h.objs.size (.dT []):=
 ⟨zat _,beq_eq_false_iff_ne.mpr (Ne.symm (tS a)),[],.nil,_,#[],0,tJ _ rfl,⟨rfl,rfl,rfl⟩,rfl,rfl,zbh⟩
def uU:TE:=λ_ H Q=>∀a,H a=none->Q (.ref a) (upd H a (.dK []))
def uT:TE:=λ_ H Q=>∀a,H a=none->Q (.ref a) (upd H a (.dT []))
def Gg:PE X (.Dict [] [] pos) uU:=λ_ s _ H Q I h=>
 wpAny_Dict_empty ⟨.ref s.heap.objs.size,_,I.laid (a:=s.heap.objs.size) (o:=.dK []) (t':=s.toks) (λ_ _ q=>tm _ q) (tf _) (vt s.heap I.big),rfl,h _ (I.hok.fresh (tf _))⟩
def jX:JE X (.Dict [] [] pos) uU:=.of (Gg)
def Gf:PE X (.Dict [] [] pos) uT:=λ_ s _ H Q I h=>
 wpAny_Dict_empty ⟨.ref s.heap.objs.size,_,I.laid (a:=s.heap.objs.size) (o:=.dT []) (t':=s.toks) (λ_ _ q=>tm _ q) (tf _) (Ni s.heap I.big),rfl,h _ (I.hok.fresh (tf _))⟩
def XQ:JE X (.Dict [] [] pos) uT:=.of (Gf)
def vJ:List (TE×TE)->St->Hp->(List (V×V)->Hp->Prop)->Prop
 | [],_,H,Q=>Q [] H
 | (tk,b)::d,a,H,Q=>tk a H λx e=>b a e λy h=>vJ d a h λi j=>Q ((x,y)::i) j
abbrev VV:List (V×V)->List (Value×Value)->Prop:=Paired λa q=>qR a.1 q.1/\qR a.2 q.2
def FT(X:Cx)(pos:Pos)(eB:List (Option Expr))(d_:List Expr)(d:List (TE×TE)):Prop:=
 ∀(b:List (Addr×Obj)) (s:Shared) (a:St) (H:Hp) (Q:List (V×V)->Hp->Prop),qv X b a H s->vJ d a H Q->
  wpAny (model X.prog X.w) X.A (evalPairs (pairTrees eB d_ X.env pos)) (λh i=>∃d e,qv X b a e i/\VV d h/\Q d e) X.xe s
@[irreducible] def NK (X:Cx) (pos:Pos) (eB:List (Option Expr)) (d_:List Expr) (a:List (TE×TE)):Prop:=FT X pos eB d_ a
def NK.of(h:FT X pos eB d_ a):NK X pos eB d_ a:=by unfold NK;exact h
def NK.to(h:NK X pos eB d_ a):FT X pos eB d_ a:=by unfold NK at h;exact h
def Am:NK X pos [] [] []:=.of (by
 exact λ_ s _ H Q I h=>pairTrees_nil_walk ⟨[],H,I,.nil,h⟩)
def Gc(d:PE X k tk)(e:PE X v a)(hr:FT X pos b vs i):
  FT X pos (some k::b) (v::vs) ((tk,a)::i):=λa s b H Q I h=>
 pairTrees_cons_walk (js (d a s b H _ I h) λu d ⟨x,i,j,l,m⟩=>js (e a d b i _ j m) λ_ d ⟨y,e,i,j,m⟩=>
  js (hr a d b e _ i m) λ_ _ ⟨a,b,d,c_,e⟩=>⟨(x,y)::a,b,d,.cons ⟨l,j⟩ c_,e⟩)
def XO(a:JE X k tk)(b:JE X v d)(hr:NK X pos e vs h):NK X pos (some k::e) (v::vs) ((tk,d)::h):=.of (Gc a.to b.to hr.to)
def jN(kvs more:List (qF×V)):List (qF×V):=more.foldl (λb a=>jD b a.1 a.2) kvs
def KV.merge:∀{more:List (qF×V)} {rs:List (qF×Value)} {kvs:List (qF×V)} {vs:List (qF×Value)},KV more rs->KV kvs vs->KV (jN kvs more) (merged vs rs):=by
 intro more rs kvs vs a;unfold KV at a;induction a generalizing kvs vs with
 | nil=>intro q;exact q
 | @cons a q d i h t b=>
  intro d;have e:KV (jD kvs a.1 a.2) (stored vs q.1 q.2):=by
   have:=d.put a.1 h.2;rw[<-h.1];exact this
  exact b e
def Q7:∀(more kvs:List (qF×V)),(jN kvs more).length<=kvs.length+more.length
 | [],kvs=>by show kvs.length<=kvs.length+0;omega
 | a::b,kvs=>by
  have d:=Q7 b (jD kvs a.1 a.2);have d:=Jd kvs a.1 a.2;show (jN (jD kvs a.1 a.2) b).length<=_;rw[zab];omega
def XZ:∀{kvs:List (qF×V)} {d:List (Value×Value)},VV (kvs.map λkv=>(kV kv.1,kv.2)) d->∃rs,Carries (qZ P w) d rs/\KV kvs rs
 | [],_,d=>by rw[zbX]at d;cases d;exact⟨[],True.intro,.nil⟩
 | e::kvs,_,d=>by
  rw[tM]at d;cases d with
  | @cons a b as bs h t=>
   obtain⟨rs,c,q⟩:=XZ (P:=P) (w:=w) t;obtain⟨_,d⟩:=b;exact⟨(e.1,d)::rs,⟨YE h.1,rfl,c⟩,.cons ⟨rfl,h.2⟩ q⟩
def Ec(b:List (TE×TE)):TE:=λd H Q=>∀a,H a=none->vJ b d (upd H a (.dK [])) λd b=>b a=some (.dK [])/\∃kvs:List (qF×V),d=kvs.map (λd=>(kV d.1,d.2))/\kvs.length<=15/\Q (.ref a) (upd b a (.dK (jN [] kvs)))
def Au(h:NK X pos eB d_ a)(b:eB.all (·.isSome)=true)(d:eB.length=d_.length)(i:eB≠[])(j:eB.length<=15):JE X (.Dict eB d_ pos) (Ec a):=.of (by
 have h:=h.to;intro a s l H Q I q;have m:=I.hok.fresh (tf s.heap.objs.size);have o:=I.laid (a:=s.heap.objs.size) (o:=.dK []) (h':=s.heap.push {cls:=.type "dict",data:=.dict #[]}) (t':=s.toks) (λ_ _ q=>tm _ q) (tf _) (vt s.heap I.big);refine wpAny_Dict_walk (knd:=qZ X.prog X.w) b d i j (js (h a _ l _ _ o (q _ m)) λ_ _ ⟨_,_,a,c_,e,kvs,b,lk,d⟩=>?_);subst b;obtain⟨b,c,rk⟩:=XZ (P:=X.prog) (w:=X.w) c_;obtain⟨z,hd,_,i,j⟩:=xu a.hok e;cases i;refine⟨b,c,j,λi b j=>⟨.ref s.heap.objs.size,_,?_,rfl,d⟩⟩;have d:(jN [] kvs).length<=zdR:=by
  have l:=Q7 kvs [];rw[zcr]at l;rw[sizeLine_eq];omega
 have l:∃q,i.get? s.heap.objs.size=some q:=let ⟨q,_,_,m,_⟩:=b;⟨q,m⟩;exact zT a (by rw[e];exact True.intro) j l (V7 d hd (rk.merge .nil) b))
structure M1(X:Cx)(o:Expr)(m:Str)(b_:Pos)(e:Expr)(eI:Pos):Prop where
 base:attributeBase o m X.env (eval o X.env)=eval o X.env
 few:((backTo eI (starEach [e] X.env)).all (λx=> !x.1)&&(backToKw eI (keywordEach [] X.env)).all (λx=>x.1.isSome)
  &&decide (([e]:List Expr).length+([]:List Keyword).length+(if ([]:List Keyword).isEmpty then 0 else 1) < 30))=true
 line:(b_.endLine==eI.line)=true
 trees:backTo eI (starEach [e] X.env)=[(false,eval e X.env)]
structure M2(X:Cx)(o:Expr)(m:Str)(b_:Pos)(e f:Expr)(eI:Pos):Prop where
 base:attributeBase o m X.env (eval o X.env)=eval o X.env
 few:((backTo eI (starEach [e,f] X.env)).all (λx=> !x.1)&&(backToKw eI (keywordEach [] X.env)).all (λx=>x.1.isSome)
  &&decide (([e,f]:List Expr).length+([]:List Keyword).length+(if ([]:List Keyword).isEmpty then 0 else 1) < 30))=true
 line:(b_.endLine==eI.line)=true
 trees:backTo eI (starEach [e,f] X.env)=[(false,eval e X.env),(false,eval f X.env)]
def Hi(H:Hp)(a:Addr):Prop:=(∃kvs,Rd H a (.dK kvs))\/∃kvs,Rd H a (.dT kvs)
def kD(I:qv X i j H s)(d:Hi H a):
  s.TypeIs (.ref a) "dict"/\(∀b,Value.ref a=.ref b->∃h,s.heap.get? b=some h/\h.dict=none)/\(a==sysModules)=false:=by
 rcases d with ⟨kvs,e⟩ | ⟨kvs,e⟩
 ·obtain⟨_,hd,_,_,i⟩:=YJ I.hok e;refine⟨i.typeIs,λb q=>?_,hd⟩;cases q;obtain⟨h,_,_,j,l,_⟩:=i;exact⟨h,j,l.2.1⟩
 ·obtain⟨_,hd,_,_,i⟩:=XX I.hok e;refine⟨i.typeIs,λb q=>?_,hd⟩;cases q;obtain⟨h,_,_,j,l,_⟩:=i;exact⟨h,j,l.2.1⟩
def DK{A:Around}{Q:Value->Shared->Prop}(hu:A.units+1 < cLine)(I:qv X j m H s)(g:ju H a y o)(l:qR y u)(h:∀d i,qv X j m H i->qR (o.getD .non) d->Q d i):
  wpAny (model X.prog X.w) A (call (.builtin "dict.get") [.ref a,u]) Q E s:=by
 rcases g with ⟨kvs,k,e,i,j⟩ | ⟨kvs,k,b,e,i,m,j⟩
 ·subst i;obtain⟨z,hd,_,c_,d⟩:=YJ I.hok e;refine call_meetsIn zcm d.typeIs zcZ (zcS _ _) (meets_dict_get (qZ X.prog X.w) a (YE l) hd) ⟨_,d.mapOf,h _ _ (I.tok _) ?_⟩;rw[j];exact(c_.val k).getD rfl
 ·subst i;cases (show u=Value.ref b from l);obtain⟨z,hd,i,c_,d⟩:=XX I.hok e;refine call_meetsIn zcm d.typeIs zcZ (zcS _ _) (meetsH_dict_get (tupleKind (qZ X.prog X.w)) a b hd) ⟨tupleKind_room_in1 hu,k,i,zi I.hok m,d,h _ _ (I.tok _) ?_⟩;rw[j];exact(c_.val k).getD rfl
inductive yj(ty:TE)(σ:St)(Q:VK)(x:V)(H1:Hp):Prop
 | mk (a:_):x=.ref a->Hi H1 a->(ty σ H1 λy H2=>∃o,ju H2 a y o/\Q (o.getD .non) H2)->yj ty σ Q x H1
def uW(b ty:TE):TE:=λa H Q=>b a H λx b=>yj ty a Q x b
def RJ{X:Cx}(hu:X.A.units+1 < cLine)(b:JE X o j)(i:JE X e ty)(m:M1 X o "get" b_ e l):JE X (.Call (.Attribute o "get" b_) [e] [] l) (uW j ty):=.of (by
 have b:=b.to;have i:=i.to;intro j s l H Q I h;refine wpAny_Call_method m.base m.few m.line zbF zcm PySem.F.type_dict_get (js (b j s l H _ I h) λu p ⟨x,q,b,r,a,ex,d,v⟩=>?_);subst ex;obtain rfl:u=Value.ref a:=r;obtain⟨r,z,_⟩:=kD b d;refine⟨r,z,?_⟩;rw[m.trees];refine Calls.callWith_builtin rfl (Calls.evalArgs_plain (Calls.spliced_cons (js (i j p l q _ b v) λ_ _ ⟨y,b,i,j,_,g,l⟩=>Calls.spliced_nil ?_)));exact DK hu i g j λ_ _ i j=>⟨_,b,i,j,l⟩)
end L2
namespace Att
open PySem PySem.W PySem.Calls
open PyProof.Rows hiding K lo
def YQ:∀(ns:List Int) (vs:List Value),WellAll P h vs (ns.map WData.int)->IntsAre vs ns:=by
 intro ns;induction ns with
 | nil=>
  intro vs w;rw[zbX]at w;cases w;exact .nil
 | cons n ns d=>
  intro vs w;rw[tM]at w;cases w with
  | cons a b=>
   cases a;exact .cons _ _ (d _ b)
def wa{l:OpenLaw}(i:l.most=some n)(b:l.row.toRowW.claim.pre args=true)(j:WellAll P h m args):
  ∃a vs ns,m=[Value.ref a]/\args=[WData.list (ns.map WData.int)]/\h.get? a=some {cls:=.type "list",data:=.seq vs.toArray}/\IntsAre vs ns/\ns.length<=n:=by
 have o:WShape.hasAll [] args [.list .int]=true:=(pre_splitW b).1;have e:l.pre.holds [] {args:=args}=true:=(pre_splitW b).2;obtain⟨d,_,rfl,p,r⟩:=hasAllW_cons o;obtain rfl:=hasAllW_nil r;obtain⟨_,rfl,u⟩:=hasW_list p;obtain⟨ns,rfl⟩:=items_int u;have v:ns.length<=n:=by
  unfold OpenLaw.pre at e;have b:(WTm.not (.lt (.lit (.int (n:Int))) (.len (.arg 0)))).holds [] {args:=[.list (ns.map .int)]}=true:=by
   have b:=(holds_andW e).1;rw[i]at b;exact b
  have e:=condW_of b (w_not (w_lt w_lit (w_len_list (w_arg rfl))));rw[ta]at e;refine Nat.le_of_not_lt λq=>?_;have b:(n:Int) < ((ns.length:Nat):Int):=by omega
  first
   | (rw[decide_eq_true b]at e;exact absurd e (by decide))
   | (simp at e;omega)
 cases j with
 | cons x y=>
  cases y;cases x with
  | list b e=>exact⟨_,_,ns,rfl,rfl,b,YQ ns _ e,v⟩
def wq(l:OpenLaw)(args:List WData):l.row.toRowW.claim.post args (.bool true) args=true:=
 postW_of (r:=l.row.toRowW) (X:=(true==true))
  (show WShape.has [] (.bool true) .bool=true by first | rfl | decide | simp [WShape.has,WShape.arms,WShape.armsAll])
  (show (WTm.eq .res (.lit (.bool true))).value [] {args:=args,res:=some (.bool true),after:=args}=some (.bool (true==true)) from w_eq_bool (w_res rfl) w_lit) rfl
def attach_call{l:OpenLaw}{p:World->Heap->Prop}{d:DefRec}(u:l.most=some n)(v:d.params.defaults=[]) (call:∀(w:World) (s₀ b:Shared) (mg j:Str->Option Value) (e:Addr) (o:Obj) (pm h m:Value) (a:Addr) (vs:List Value) (ns:List Int),
   Ground q x [] y w s₀ mg j b.heap->p w b.heap->
   b.heap.get? e=some o->o.data=.func (docDef d.name d.params d.body d.scope pm h m)->b.heap.CodeRec h d.name->mg d.name=some (.ref e)->
   b.heap.get? a=some {cls:=.type "list",data:=.seq vs.toArray}->IntsAre vs ns->ns.length<=n->b.gens=#[]->
   codeAny (model l.prog w) callerA (.call (.ref e) ⟨[.ref a],[]⟩) (λr i=>r=.ok (.ret (.bool true))/\OldK b.heap i.heap/\i.os=b.os/\AllBare i.gens) b):
  WalkO q x y p l.row.toRowW d [] (λf vs=>PySem.call f vs):=by
 intro w s₀ b mg j G Y e o pm h m x kV y hd z p B C args _ as D _ _ H _;obtain rfl:x=.none:=Dflts.none p v;obtain rfl:kV=.none:=Dflts.noKw p;obtain⟨a,vs,ns,rfl,rfl,p,v,x⟩:=wa u D H;refine enter_call (codeAny_mono (call w s₀ b mg j e o pm h m a vs ns G Y y (fd_plain hd) z B p v x C) λr i b=>?_);obtain⟨rfl,e,h,i⟩:=b;exact⟨.inl ⟨.bool true,.bool true,[],rfl,λ_=>rfl,.bool true,wq l _,λ_=>⟨zdt.nil,λ_ b=>(nomatch b)⟩⟩,e,h,i⟩
end Att
namespace L2
open PySem PySem.Spec
open PyProof.Rows hiding K lo
def Wu:∀{vs:List Value} {ns:List Int},IntsAre vs ns->qK (ns.map V.int) vs
 | _,_,.nil=>.nil
 | _,_,.cons n t h=>.cons ⟨t,rfl⟩ (Wu h)
def DR(H:Hp):Prop:=∀b,H b=none\/∃a d,H b=some (.frz a (.lst d))
def Rq{K:zdM}{x:Str}{i:Shared}{vs:List Value}(O:K.In i.heap)(Q:i.heap.Ns mainGlobals mg)(l:i.heap.Ns builtinsNs T)(ae:∀x:Str,x≠"__name__"->T x=bootBuiltins x)(af:i.heap.NoLimit)(hg:i.gens=#[])(C:i.heap.get? a=some {cls:=.type "list",data:=.seq vs.toArray})(U:IntsAre vs ns)(Y:ns.length<=zdR)(hr:jd k callerA)(F:∀base:Heap,K.In base->base.Ns mainGlobals mg->qp P w K mg base CX k fa fd [x] sp)(ag:∀(s:Shared) (u:Value),BindsTo s fd ⟨[u],[]⟩ [(x,u)])(ah:∀H:Hp,DR H->Q6 K H a (ns.map V.int)->sp [.ref a] H (λv _=>v=.bl true) λ_ _ _=>False)(ai:∀H e o,CX [] H i (λ_ _ _=>False) e o->False):
  codeAny (model P w) callerA (.call (.ref fa) ⟨[.ref a],[]⟩) (λr o=>r=.ok (.ret (.bool true))/\OldK i.heap o.heap/\o.os=i.os/\AllBare o.gens) i:=by
 have rv:=Wu U;have aj:=U.length;have e8:∀H:Hp,DR H->Q6 K H a (ns.map V.int)->Zd P w H i.heap->(∀b,H b≠none->b=a)->(H a≠none->K.lookup a=none)->
   codeAny (model P w) callerA (.call (.ref fa) ⟨[.ref a],[]⟩) (λr o=>r=.ok (.ret (.bool true))/\OldK i.heap o.heap/\o.os=i.os/\AllBare o.gens) i:=by
  intro H hO hS aa hA hK;have ab:∀{b:Addr} {j:Obj},i.heap.get? b=some j->H b=none->(V2 i.heap H).get? b=some j:=λe n=>RW e n;have ak:∀{b:Addr} {j:Obj} {p:Array DictEntry} {y:Nat},i.heap.get? b=some j->j.data=.dict p y->H b=none:=λ{b j p y} e d=>by
   cases q:H b with
   | none=>rfl
   | some u=>
    have J:b=a:=hA b (by rw[q];simp);subst J;rw[C]at e;cases e;have d':Data.seq vs.toArray _=Data.dict p y:=d;cases d'
  have D:∀{b:Addr} {m:Str->Option Value},i.heap.Ns b m->(V2 i.heap H).Ns b m:=λ{b m} ⟨j,p,y,e,d,r⟩=>⟨j,p,y,ab e (ak e d),d,r⟩;have ac:K.In (V2 i.heap H):=λb j e=>ab (O b j e) (by
   cases q:H b with
   | none=>rfl
   | some u=>
    have J:b=a:=hA b (by rw[q];simp);subst J;rw[hK (by rw[q];simp)]at e;cases e)
  have hM:Mod K mg (V2 i.heap H):=⟨ac,D Q,⟨T,D l,ae⟩,let ⟨mc,h1,h2⟩:=af;⟨mc,D h1,h2⟩⟩;have e0:k7 P w K mg (V2 i.heap H) callerA [] i H:=⟨rfl,hM,λb j e=>M9 e,zcX (wX _ _),trivial,λb l=>absurd (show b∈([]:List Addr) from l) (by simp),aa,.of_eq hg⟩;refine codeAny_mono ((F _ ac (D Q)).run callerA [] i H ⟨[.ref a],[]⟩ [.ref a] [.ref a] _ _ hr e0 (ag i (.ref a)) (.cons rfl .nil) (ah H hO hS)) λr o h=>?_;cases r with
  | error e=>exact(ai H e o h).elim
  | ok fl=>
   cases fl with
   | next=>exact False.elim h
   | brk=>exact False.elim h
   | cont=>exact False.elim h
   | ret u=>
    obtain⟨v,H',os,bare,un,al,r',q⟩:=h;have q':v=.bl true:=q;subst q';obtain rfl:u=Value.bool true:=r';refine⟨rfl,OldK.of_keep λb j e=>?_,os,bare⟩;cases q:H b with
    | none=>exact un.keep b j e q (by intro z;exact absurd (show b∈([]:List Addr) from z) (by simp)) (by simp)
    | some u=>
     rcases hO b with z | ⟨ob,xs,z⟩
     ·rw[q]at z;cases z
     ·have z2:=un.frzs b ob _ z;obtain⟨e1,_⟩:=aa b _ z;obtain⟨e2,_⟩:=al b _ z2;rw[e]at e1;cases e1;exact e2
 cases L:K.lookup a with
 | some j=>
  have e:=O a j L;rw[C]at e;cases e;refine e8 (λ_=>none) (λ_=>.inl rfl) (.inr ⟨_,vs.toArray,_,L,rfl,rfl,rfl,by rw[t7,aj];exact Y,by simpa using rv⟩) (λb u z=>by have B:(none:Option HO)=some u:=z;cases B) (λb z=>absurd rfl z) λz=>absurd rfl z
 | none=>
  refine e8 (λb=>if b=a then some (.frz {cls:=.type "list",data:=.seq vs.toArray} (.lst (ns.map V.int))) else none) (λb=>?_) (.inl (.inr ⟨{cls:=.type "list",data:=.seq vs.toArray},if_pos rfl⟩)) (λb u z=>?_) (λb z=>?_) λ_=>L
  ·by_cases l:b=a
   ·exact .inr ⟨_,_,if_pos l⟩
   ·exact .inl (if_neg l)
  ·by_cases l:b=a
   ·have B:=(if_pos l).symm.trans z;cases B;subst l;exact⟨C,by rw[ta];exact Y,vs,_,rv,C⟩
   ·have B:=(if_neg l).symm.trans z;cases B
  ·by_cases l:b=a
   ·exact l
   ·exact absurd (if_neg l) z
open PyProof.Rows hiding K lo
def walk_of{l:PySem.W.OpenLaw}{m:World->Heap->Prop}{d:DefRec}{K:Params->zdM}{CX:World->uu}{sp:World->Sp}(o:l.most=some n)(p:n<=zdR)(r:d.params.defaults=[])(hr:jd k callerA)(y:∀(w:World) (h:Heap),m w h->(K w.params).In h) (F:∀(w:World) (mg:Str->Option Value) (b:Addr) (h:Heap),(K w.params).In h->h.Ns mainGlobals mg->mg d.name=some (.ref b)->
   ∃i:zdQ,(∀(s:Shared) (u:Value),BindsTo s i ⟨[u],[]⟩ [(x,u)])/\
    ∀base:Heap,(K w.params).In base->base.Ns mainGlobals mg->qp l.prog w (K w.params) mg base (CX w) k b i [x] (sp w)) (z:∀(w:World) (H:Hp) (a:Addr) (ns:List Int),ns.length<=n->DR H->Q6 (K w.params) H a (ns.map V.int)->sp w [.ref a] H (λv _=>v=.bl true) λ_ _ _=>False) (B:∀(w:World) (H:Hp) (s:Shared) (e:Value) (j:Shared),CX w [] H s (λ_ _ _=>False) e j->False):
  PySem.W.WalkO q C D m l.row.toRowW d [] (λf vs=>PySem.call f vs):=by
 refine Att.attach_call o r λw _ r mg _ b _ pm _ _ a vs ns G Y _ hd _ C D J m L=>?_;have o:=y w _ Y;obtain⟨i,y,O⟩:=F w mg b _ o G.T.g C;exact Rq o G.T.g G.T.b G.T.builtins G.T.nolimit L D J (tR m p) hr O y (λH b i=>z w H a ns m b i) λH e j=>B w H r e j
open PyProof.Rows hiding K lo
def jW(s:Stmt)(j:Nat):Stmt:=match s with
 | .ClassDef _ _ _ eF _ _ _ _ _ _ _=>eF.getD j (.Pass ⟨0,0,0,0⟩)
 | _=>.Pass ⟨0,0,0,0⟩
def Q8(s:Stmt):Arguments:=match s with
 | .FunctionDef _ a _ _ _ _ _ _ _ _=>a
 | _=>{posonlyargs:=[],args:=[],vararg:=none,kwonlyargs:=[],kw_defaults:=[],kwarg:=none,defaults:=[]}
def j5(s:Stmt):List Stmt:=match s with
 | .FunctionDef _ _ b _ _ _ _ _ _ _=>b
 | _=>[]
def qg(s:Stmt):Scope:=match s with
 | .FunctionDef _ _ _ _ _ _ a _ _ _=>a
 | _=>{kind:=.function,names:=[],isGenerator:=false,isCoroutine:=false}
abbrev jh:uu:=λ_ _ _ _ _ _=>False
abbrev E0:XK:=λ_ _ _=>False
def Qi:Qt jh X E0:=λ_ _ _ _ _ _ _ h=>h.elim
structure jL(K:zdM)(x eJ:Str)(st:Stmt)(f:Addr)(fd:zdQ):Prop where
 ex:∃(oc:Value) (od:Option Addr) (kV fM pm:Value) (an:Option Addr) (fz ct:Value) (fE:Array (Option Value)),
  fd=zbg x eJ (Q8 st) (j5 st) (qg st) .none kV fM pm an fz ct/\K.lookup f=some ⟨oc,od,.func fd,fE⟩/\zbw K fz eJ=true
 kp:zaD K (.ref f)=true
def jL.ok{P:Program}{w:World}{K:zdM}{mg:Str->Option Value}{base:Heap}{x b:Str}{st:Stmt}{f:Addr}{d:zdQ}{N ps:List Str}{k:Nat}{sp:Sp}(F:jL K x b st f d)(S:qm N ps (qg st))(len:∀vs H Q E,sp vs H Q E->vs.length=ps.length)
  (e:∀(a:Value) (A:Around) (outer:List Env) (s:Shared) (H:Hp) (vs:List V) (Q:VK) (E:XK),jd k (A.deeper (envOfC b (qg st) s.heap.objs.size f a))->sp vs H Q E->
   ∃t,NH (QK jh P w K mg base N b (qg st) f a A outer s H E).nox (j5 st) t/\t {nx:=λ_ H'=>Q .non H',rt:=Q} (Zt N vs) H):qp P w K mg base jh (k+1) f d ps sp:=by
 obtain⟨_,_,kV,_,pm,_,a,_,_,rfl,lk,b⟩:=F.ex;refine B2 lk b S len λA outer s H vs Q E hr b=>?_;obtain⟨t,h,q⟩:=e a A outer s H vs Q E hr b;exact⟨t,h.nox,q⟩
def jL.okJ{P:Program}{w:World}{K:zdM}{mg:Str->Option Value}{base:Heap}{x e:Str}{st:Stmt}{f:Addr}{i:zdQ}{N ps:List Str}{k:Nat}{sp:Sp}(F:jL K x e st f i)(S:qm N ps (qg st))(len:∀vs H Q E,sp vs H Q E->vs.length=ps.length)
  (j:∀(d:Value) (A:Around) (outer:List Env) (s:Shared) (H:Hp) (vs:List V) (Q:VK) (E:XK),jd k (A.deeper (envOfC e (qg st) s.heap.objs.size f d))->sp vs H Q E->
   ∃t,Wo (QK jh P w K mg base N e (qg st) f d A outer s H E).nox (j5 st) t/\t {nx:=λ_ H'=>Q .non H',rt:=Q} (Zt N vs) H):qp P w K mg base jh (k+1) f i ps sp:=
 F.ok S len λd A outer s H vs Q E hr h=>let ⟨t,a,b⟩:=j d A outer s H vs Q E hr h;⟨t,a.to,b⟩
def jL.okK{P:Program}{w:World}{K:zdM}{mg:Str->Option Value}{base:Heap}{x a:Str}{st:Stmt}{f:Addr}{b:zdQ}{N ps:List Str}{k:Nat}{sp:Sp}(F:jL K x a st f b)(S:qm N ps (qg st))(e:∀{d:Value} {A:Around} {outer:List Env} {s:Shared} {vs:List V} {nd:N.Nodup} (H:Hp) (Q:VK) (E:XK),jd k (A.deeper (envOfC a (qg st) s.heap.objs.size f d))->sp vs H Q E->∃t,Wo (QK jh P w K mg base N a (qg st) f d A outer s H E).nox (j5 st) t/\t {nx:=λ_ H'=>Q .non H',rt:=Q} (Zt N vs) H)(len:∀vs H Q E,sp vs H Q E->vs.length=ps.length:=by intro _ _ _ _ z;first | (cases z;subst_vars;rfl) | repeat first | (obtain⟨rfl,_⟩:=z;rfl) | obtain⟨_,z⟩:=z):qp P w K mg base jh (k+1) f b ps sp:=F.okJ S len λ_ _ _ _ H _ Q E hr z=>e (nd:=S.nd) H Q E hr z
def jL.binds{K:zdM}{x e:Str}{st:Stmt}{f:Addr}{i:zdQ}{ps:List Str}(F:jL K x e st f i)
  (h:∀(kV a pm:Value) (b:Option Addr) (d ct:Value) (us:List Value),us.length=ps.length->bindArgs (zbg x e (Q8 st) (j5 st) (qg st) .none kV a pm b d ct) ⟨us,[]⟩=pure (ps.zip us)):jZ K i ps []:=by
 obtain⟨_,_,kV,a,pm,b,d,ct,_,rfl,lk,_⟩:=F.ex;exact .all (h kV a pm b d ct)
def Yo{K:zdM}{x a:Str}{st:Stmt}{f:Addr}{h:Value}{i d:Option Addr}{j:Array (Option Value)}{kV e pm b ct:Value}(l:K.lookup f=some ⟨h,i,.func (zbg x a (Q8 st) (j5 st) (qg st) .none kV e pm d b ct),j⟩)
 (c:zbw K b a=true) (k:zaD K (.ref f)=true):jL K x a st f (zbg x a (Q8 st) (j5 st) (qg st) .none kV e pm d b ct):=⟨⟨h,i,kV,e,pm,d,b,ct,j,rfl,l,c⟩,k⟩
def hu_of(hr:jd k A):A.units+1 < cLine:=zaK (zdp (by decide:1<=64) _) hr.units
def qh(h:n<=1000):n < zdR:=zaK h (by decide)
def JB(h:Nat.ble n 1000=true:=by exact rfl):n<=zdR:=tR (Nat.le_of_ble_eq_true h) (by decide)
def pv{X:Cx}(i:Nat)(hN:X.N[i]?=some x:=by rfl)(a:D1 X.env.scope x:=by first | exact Or.inl rfl | exact Or.inr (Or.inl rfl) | exact Or.inr (Or.inr rfl))(hd:(x==("__debug__":Str))=false:=by decide)(b:(x==("__classdict__":Str))=false:=by decide):PE X (.Name x pos) (qw i):=CL hN a hd b
def jv{X:Cx}(i:Nat)(hN:X.N[i]?=some x:=by rfl)(a:D1 X.env.scope x:=by first | exact Or.inl rfl | exact Or.inr (Or.inl rfl) | exact Or.inr (Or.inr rfl))(hd:(x==("__debug__":Str))=false:=by decide)(b:(x==("__classdict__":Str))=false:=by decide):JE X (.Name x pos) (qw i):=.of (pv i hN a hd b)
def jp{A B:Prop}(h:B):if false=true then A else B:=by
 rw[if_neg tI];exact h
def QA{A B:Prop}(h:A):if true=true then A else B:=by
 rw[if_pos rfl];exact h
def kC{c A B:Prop}[Decidable c](a:c->A)(b:¬c->B):if c then A else B:=by
 by_cases h:c
 ·rw[if_pos h];exact a h
 ·rw[if_neg h];exact b h
def qi(H H':Hp):Prop:=∀b a,H b=some a->H' b=some a
def qi.refl(H:Hp):qi H H:=λ_ _ h=>h
def qi.trans(a:qi H d)(b:qi d e):qi H e:=λc d h=>b c d (a c d h)
def qi.seq(e:qi H H')(h:Q6 K H a xs):Q6 K H' a xs:=by
 rcases h with (h | ⟨b,h⟩) | h
 ·exact .inl (.inl (e _ _ h))
 ·exact .inl (.inr ⟨b,e _ _ h⟩)
 ·exact .inr h
section
variable{κ:Type}[DecidableEq κ]
def NR{kvs:List (κ×V)}{k:κ}{v:V}(h:qO kvs k=some v):k∈kvs.map (·.1):=by
 have q:(kvs.any λa=>decide (a.1=k))=true:=by
  rw[Ja,h]
  all_goals rfl
 obtain⟨a,b,e⟩:=zaS.mp q;exact tc.mpr ⟨a,b,of_decide_eq_true e⟩
end
end L2
set_option maxHeartbeats 4000000
namespace L2
open PySem PySem.Spec
open PyProof.Rows hiding K lo
def xq:(NameKind.free==NameKind.free)=true:=rfl
def Qs(env:Env):List (Str×NameKind)->List (Str×Addr)->List (Str×Addr)
 | [],a=>a
 | (n,k)::b,a=>Qs env b (if k==.free then (n,(env.cells.lookup n).getD 0)::a else a)
def zb{env:Env}(h:∀x∈scope.names,x.2=.free->∃c,env.cells.lookup x.1=some c):closureFor scope env=pure (Qs env scope.names []):=by
 simp only[closureFor];have ed:∀(b:List (Str×NameKind)) (d:List (Str×Addr)),(∀x∈b,x.2=.free->∃c,env.cells.lookup x.1=some c)->
   (forIn b d λx (e:List (Str×Addr))=>if (x.snd==NameKind.free)=true then (do let a <-cellOf env x.fst;pure (ForInStep.yield ((x.fst,a)::e)):Sem (ForInStep (List (Str×Addr)))) else pure (ForInStep.yield e))=(pure (Qs env b d):Sem (List (Str×Addr))):=by
  intro b;induction b with
  | nil=>intro d _;rfl
  | cons x b i=>
   intro d e;obtain⟨n,k⟩:=x;have j:=λl=>i l λy m=>e y (tG _ m);rw[List.forIn_cons];by_cases l:k=.free
   ·subst l;obtain⟨c,m⟩:=e (n,.free) tO rfl;have o:cellOf env n=pure c:=by
     unfold cellOf;have e:env.cells.lookup n=some c:=m;rw[e]
    have i:Qs env ((n,NameKind.free)::b) d=Qs env b ((n,c)::d):=by
     have e:env.cells.lookup n=some c:=m;show Qs env b (if (NameKind.free==NameKind.free)=true then (n,(env.cells.lookup n).getD 0)::d else d)=_;rw[if_pos xq,e];rfl
    rw[i,<-j]
    try dsimp only
    rw[if_pos xq,o];rfl
   ·have e:(k==NameKind.free)=false:=by simpa using l
    have i:Qs env ((n,k)::b) d=Qs env b d:=by
     show Qs env b (if (k==NameKind.free)=true then (n,(env.cells.lookup n).getD 0)::d else d)=_;rw[if_neg (by rw[e];decide)]
    rw[i,<-j]
    try dsimp only
    rw[if_neg (by rw[e];decide)];rfl
 rw[ed scope.names [] h];rfl
def YK:∀{l:List (Str×NameKind)} {cs:List (Str×Addr)},(Qs env l cs).lookup x=some c->cs.lookup x=some c\/((x,NameKind.free)∈l/\c=(env.cells.lookup x).getD 0)
 | [],cs,h=>.inl h
 | (n,k)::a,cs,h=>by
  rcases YK (l:=a) h with h | ⟨e,i⟩
  ·by_cases b:k=.free
   ·subst b;rw[if_pos xq,zaA]at h;by_cases d:x=n
    ·subst d;simp only[beq_self_eq_true]at h;exact .inr ⟨tO,(tA.inj h).symm⟩
    ·have a:(x==n)=false:=beq_eq_false_iff_ne.mpr d;simp only[a]at h;exact .inl h
   ·have a:(k==NameKind.free)=false:=by simpa using b
    rw[if_neg (by rw[a];decide)]at h;exact .inl h
  ·exact .inr ⟨tG _ e,i⟩
def zo:∀{l:List (Str×NameKind)} {cs:List (Str×Addr)},((x,NameKind.free)∈l\/∃c,cs.lookup x=some c)->∃c,(Qs env l cs).lookup x=some c
 | [],cs,h=>by
  rcases h with h | h
  ·cases h
  ·exact h
 | (n,k)::a,cs,h=>by
  show ∃c,(Qs env a (if (k==NameKind.free)=true then (n,(env.cells.lookup n).getD 0)::cs else cs)).lookup x=some c;refine zo (l:=a) ?_;rcases h with h | ⟨c,h⟩
  ·rcases tL.mp h with h | h
   ·cases h;refine .inr ⟨(env.cells.lookup x).getD 0,?_⟩;rw[if_pos xq,zaA];simp only[beq_self_eq_true]
   ·exact .inl h
  ·refine .inr ?_;by_cases a:(k==NameKind.free)=true
   ·rw[if_pos a,zaA];cases b:x==n with
    | true=>exact⟨_,rfl⟩
    | false=>exact⟨c,h⟩
   ·rw[if_neg a];exact⟨c,h⟩
def zA{scope:Scope}{env:Env}:∀{names:List (Str×NameKind)},names.lookup x=some k->
  ∃b,(names.map λ(n,k)=>if (k==NameKind.free&&env.scope.kind==.function&&env.kindOf n==some .cell) then (n,NameKind.cell) else (n,k)).lookup x=some b/\(b=k\/(k=.free/\b=.cell))
 | [],h=>by simp at h
 | (n,i)::a,h=>by
  rw[tM];by_cases e:x=n
  ·subst e;rw[zaA]at h;simp only[beq_self_eq_true]at h;cases h
   try dsimp only
   by_cases a:(k==NameKind.free&&env.scope.kind==.function&&env.kindOf x==some .cell)=true
   ·rw[if_pos a,zaA];simp only[beq_self_eq_true];refine⟨_,rfl,.inr ⟨?_,rfl⟩⟩;simp only[zan,beq_iff_eq]at a;exact a.1.1
   ·rw[if_neg a,zaA];simp only[beq_self_eq_true];exact⟨_,rfl,.inl rfl⟩
  ·have d:(x==n)=false:=beq_eq_false_iff_ne.mpr e;rw[zaA]at h;simp only[d]at h;obtain⟨b,e,j⟩:=zA (env:=env) (scope:=scope) h;refine⟨b,?_,j⟩
   try dsimp only
   by_cases a:(i==NameKind.free&&env.scope.kind==.function&&env.kindOf n==some .cell)=true
   ·rw[if_pos a,zaA];simp only[d];exact e
   ·rw[if_neg a,zaA];simp only[d];exact e
def mem_of_lookup:∀{l:List (Str×NameKind)},l.lookup x=some k->(x,k)∈l
 | [],h=>by simp at h
 | (n,a)::b,h=>by
  rw[zaA]at h;by_cases a:x=n
  ·subst a;simp only[beq_self_eq_true]at h;cases h;exact tO
  ·have b:(x==n)=false:=beq_eq_false_iff_ne.mpr a;simp only[b]at h;exact tG _ (mem_of_lookup h)
def Z9{f:Str×NameKind->Str×NameKind}(a:∀p,(f p).1=p.1):∀{l:List (Str×NameKind)},(l.map f).lookup x=some k->∃j,l.lookup x=some j/\(f (x,j)).2=k
 | [],h=>by simp at h
 | (n,j)::b,h=>by
  rw[tM]at h;have e:f (n,j)=(n,(f (n,j)).2):=by
   have:=a (n,j);exact Prod.ext this rfl
  rw[e,zaA]at h;rw[zaA];by_cases b:x=n
  ·subst b;simp only[beq_self_eq_true]at h ⊢;exact⟨j,rfl,tA.inj h⟩
  ·have d:(x==n)=false:=beq_eq_false_iff_ne.mpr b;simp only[d]at h ⊢;exact Z9 a h
def Yq(X:Cx)(N:List Str)(scope:Scope)(C:Addr)(a:Shared)(b:Hp)(fp:List Addr)(d:List (Addr×Obj)):Cx where
 prog:=X.prog
 w:=X.w
 K:=X.K
 mg:=X.mg
 base:=X.base
 A:=X.A
 N:=N
 s₀:=a
 H₀:=b
 env:=compEnvC scope (Qs X.env scope.names []) C X.env
 outer:=X.stack
 stack:=X.stack
 ex:=fp
 fn:=λ_=>false
 calm:=X.calm
 pn:=X.pn++d
 xe:=λ_ _=>False
def ndC{N':List Str}(h:N'.Nodup:=by decide+kernel):(Yq X N' scope C s H fp a).N.Nodup:=h
def Cj(ix:List (Option Nat))(a:St):St:=ix.map λb=>b.bind λb=>(a[b]?).join
def Dv(N' N:List Str)(d b:Scope)(ix:List (Option Nat)):Bool:=
 ix.length==N'.length&&(ix.zip N').all λa=>match a.1 with
  | none=>true
  | some e=>N[e]?==some a.2&&d.names.lookup a.2==some .free&&(b.names.lookup a.2==some .cell || b.names.lookup a.2==some .free)
structure QL(X:Cx)(N':List Str)(ix:List (Option Nat))(scope:Scope):Prop where
 kind:scope.kind=.function
 nocell:(scope.names.all λx=>x.2 != .cell)=true
 locs:(scope.names.all λx=>x.2 != .local || scope.names.lookup x.1==some .local)=true
 frees:(scope.names.all λx=>x.2 != .free || (X.env.scope.names.lookup x.1==some .cell || X.env.scope.names.lookup x.1==some .free))=true
 ixs:Dv N' X.N scope X.env.scope ix=true
def QL.cellH(S:QL X N' ix scope):∀y∈scope.names,y.2≠.cell:=λy a e=>by
 have:=zaT.mp S.nocell y a;rw[e]at this;exact absurd this (by decide)
def QL.locH(S:QL X N' ix scope):∀y∈scope.names,y.2=.local->scope.names.lookup y.1=some .local:=λy a e=>by
 have:=zaT.mp S.locs y a;simp only[e,zde,bne_self_eq_false,zaO,false_or,beq_iff_eq]at this;exact this
def QL.freeH(S:QL X N' ix scope)(ok:X.Ok):∀x∈scope.names,x.2=.free->∃c,X.env.cells.lookup x.1=some c:=λx a e=>by
 have:=zaT.mp S.frees x a;simp only[e,zde,bne_self_eq_false,zaO,false_or,beq_iff_eq]at this;exact ok.has x.1 this
def QL.clook(S:QL X N' ix scope)(ok:X.Ok)(h:(Qs X.env scope.names []).lookup x=some c):X.env.cells.lookup x=some c/\(x,NameKind.free)∈scope.names:=by
 rcases YK h with h | ⟨a,b⟩
 ·simp at h
 ·obtain⟨e,i⟩:=S.freeH ok _ a rfl;have d:X.env.cells.lookup x=some e:=i;rw[d]at b;subst b;exact⟨d,a⟩
def FN{fp:List Addr}(S:QL X N' ix scope)(I:qv X a d H s)(o:s.heap.objs.size<=C)(i:∀b∈fp,zt X a H b)(q:∀b∈fp,b < s.heap.objs.size):(Yq X N' scope C s H fp a).Ok where
 mod:=I.ok.mod
 kind:=S.kind
 glob:=I.ok.glob
 blt:=I.ok.blt
 above:=o
 inj:=λx y c a d=>I.ok.inj x y c (S.clook I.ok a).1 (S.clook I.ok d).1
 has:=λx j=>by
  have r:(relabel scope X.env).names.lookup x=some .cell\/(relabel scope X.env).names.lookup x=some .free:=j;refine zo (.inl ?_);have go:∀k,(k=NameKind.cell\/k=.free)->(relabel scope X.env).names.lookup x=some k->(x,NameKind.free)∈scope.names:=λk u h=>by
   obtain⟨l,a,d⟩:=Z9 (f:=λ(n,k)=>if (k==NameKind.free&&X.env.scope.kind==.function&&X.env.kindOf n==some .cell) then (n,NameKind.cell) else (n,k)) (λ_=>by dsimp only;split<;>rfl) h;have j:=mem_of_lookup a;by_cases m:l=.free
   ·subst m;exact j
   ·exfalso;have a:(l==NameKind.free)=false:=by simpa using m
    try dsimp only at d
    rw[a,zcA,zcA,if_neg (by decide)]at d;have p:l=k:=d;rcases u with e | e
    ·exact S.cellH _ j (p.trans e)
    ·exact m (p.trans e)
  rcases r with h | h
  ·exact go _ (.inl rfl) h
  ·exact go _ (.inr rfl) h
 cab:=λx c h _=>by cases h
 hd:=I.ok.hd
 frames:=I.ok.frames
 stk:=.inl rfl
 exf:=λb a=>⟨tS (tF (q b a) o),λx c h=>(i b a).2.2.2.2.1 x c (S.clook I.ok h).1⟩
 bs:=I.bs
 bsz:=tR I.ok.bsz I.sz
 noex:=λb d e a=>by
  rcases(i b a).2.2.2.1 with h | h
  ·exact I.ok.noex b d e h
  ·exact absurd (tF (tH e) (tR I.ok.bsz h)) (zaF _)
 exfs:=λb a j=>by
  rcases tL.mp (I.stkSub b j) with e | e
  ·exact(i b a).2.1 e
  ·exact(i b a).2.2.1 e
 funs:=I.stack
 frf:=I.stkFree
def wU{fp:List Addr}{a:Heap}(S:QL X N' ix scope)(I:qv X J p H s)(j:∀b∈fp,zt X J H b)(l:∀b∈fp,b < s.heap.objs.size)(r:s.heap.objs.size<=D)(O:s.heap.objs.size<=C)(U:D≠C)(y:∀b o,s.heap.get? b=some o->a.get? b=some o)(B:a.Ns C m)(Y:a.get? D=some {cls:=.type "list",data:=.seq #[] aa}):
  qv (Yq X N' scope C s H fp J) [] (Cj ix p) (upd H D (.lst [])) {s with heap:=a,toks:=t'} where
 ok:=FN S I O j l
 os:=rfl
 bare:=I.bare
 base:=Un.laid y r (I.hok.fresh r)
 loc:=by
  refine⟨m,B,λi x v l a _=>?_⟩;have j:=S.ixs;unfold Dv at j;rw[zan]at j;obtain⟨B,Q⟩:=j;have L:ix.length=N'.length:=by simpa using B
  have T:N'[i]?=some x:=l;unfold Cj at a;rw[tw]at a;cases l:ix[i]? with
  | none=>rw[l]at a;cases a
  | some o=>
   rw[l]at a;cases o with
   | none=>cases a
   | some B=>
    have L:(p[B]?).join=some v:=tA.inj a;have hz:(ix.zip N')[i]?=some (some B,x):=by
     rw[List.getElem?_zip_eq_some];exact⟨l,T⟩
    have a:=zaT.mp Q _ (tP hz)
    try dsimp only at a
    simp only[zan,beq_iff_eq,zde]at a;obtain⟨⟨hN,Q⟩,T⟩:=a;have ab:p[B]?=some (some v):=by
     cases q:p[B]? with
     | none=>rw[q]at L;cases L
     | some z=>
      rw[q]at L;have:z=some v:=L;rw[this]
    obtain⟨_,_,L⟩:=I.loc;have ac:D1 X.env.scope x:=by
     rcases T with h | h
     ·exact .inr (.inl h)
     ·exact .inr (.inr h)
    obtain⟨u,ru,lu⟩:=L B x v hN ab ac;refine⟨u,ru,?_⟩;rcases lu with ⟨L,_⟩ | ⟨_,c,hc,ae⟩
    ·exfalso;have B:X.env.scope.names.lookup x=some .local:=L;rcases T with h | h<;>rw[h]at B<;>cases B
    ·right;obtain⟨_,B,L⟩:=zA (scope:=scope) (env:=X.env) Q;refine⟨?_,?_⟩
     ·rcases L with z | ⟨_,z⟩
      ·right;rw[z]at B;exact B
      ·left;rw[z]at B;exact B
     ·obtain⟨_,B⟩:=zo (env:=X.env) (cs:=[]) (.inl (mem_of_lookup Q));have:=(S.clook I.ok B).1;rw[hc]at this;cases this;obtain⟨o,L,hd⟩:=ae;exact⟨c,B,o,y _ _ L,hd⟩
 cell:=λx c h=>by
  obtain⟨v,o,l,hd⟩:=I.cell x c (S.clook I.ok h).1;exact⟨v,o,y _ _ l,hd⟩
 free:=by
  show (upd H D _) C=none;rw[qc (Ne.symm U)];exact I.hok.fresh O
 freeC:=λx c h=>by
  have B:=(S.clook I.ok h).1;obtain⟨v,o,l,hd⟩:=I.cell x c B;rw[qc (tS (tF (tH l) r))];exact(I.freeC x c B).imp id λz=>⟨rfl,z.2⟩
 pin:=λl B=>by
  have L:l∈X.pn++J:=by
   have:l∈(X.pn++J)++[]:=B;simpa using this
  obtain⟨e,n,ne,J,d⟩:=I.pin l L;have B:=tH e;refine⟨y _ _ e,?_,tS (tF B O),λa=>?_,d⟩
  ·rw[qc (tS (tF B r))];exact n
  ·rcases tL.mp (I.stkSub l.1 a) with z | z
   ·exact ne z
   ·exact J z
 hok:=I.hok.laid y r ⟨zat _,[],aa,.nil,Y⟩
 len:=by
  have j:=S.ixs;unfold Dv at j;rw[zan]at j;have:ix.length=N'.length:=by simpa using j.1
  show (Cj ix p).length=N'.length;unfold Cj;rw[ta,this]
def RN{fp:List Addr}(I:qv X e h H s)(a:∀b∈fp,zt X e H b)(d:qv (Yq X N' scope C s H fp e) pl j H' i):qv X e h H' i:=
 I.call' (ch:=fp) d.os d.base d.hok d.bare λb d=>⟨(a b d).2.2.2.1,(a b d).2.1,(a b d).2.2.2.2.1,(a b d).2.2.2.2.2⟩
def RM(a:qv X i j H s₀)(I:qv X i j H' h)(d:s₀.heap.objs.size<=C)(l:H' C=none)(m:Heap.SameBut C h.heap h'):qv X i j H' {h with heap:=h'}:=by
 refine I.turned (it:=C) (t':=h.toks) (λb _ h e=>(m.2 b h).trans e) l (zbz (tF a.lt d)) (.inr (tR a.sz d)) (λx c e z=>?_) λh i z=>?_
 ·obtain⟨v,q⟩:=a.cell x c e;exact absurd (tF q.lt (by rw[z];exact d)) (zaF _)
 ·exact absurd (tF (tH (a.pin h i).1) (by rw[z];exact d)) (zaF _)
def D2(X:Cx)(d:List Expr)(t:TT):Prop:=
 ∀(b:List (Addr×Obj)) (s:Shared) (a:St) (H:Hp) (Q:Bool->Hp->Prop),qv X b a H s->t a H Q->
  wpAny (model X.prog X.w) X.A (forIn d true λc d=>if d=true then do let ok <-isTrue c X.env (eval c X.env);pure (ForInStep.yield ok) else pure (ForInStep.yield d)) (TP X b a Q) X.xe s
@[irreducible] def NJ (X:Cx) (a:List Expr) (t:TT):Prop:=D2 X a t
def NJ.of(h:D2 X a t):NJ X a t:=by unfold NJ;exact h
def NJ.to(h:NJ X a t):D2 X a t:=by unfold NJ at h;exact h
def xZ:TT:=λ_ H Q=>Q true H
def qS:NJ X [] xZ:=.of (by
 exact λ_ _ _ H _ I h=>wpAny_tests_nil ⟨H,I,h⟩)
def jP(h:JT X c t):NJ X [c] t:=.of (by
 have h:=h.to;exact λa s b H Q I d=>wpAny_tests_one (h a s b H Q I d))
def V8{R:Result->Shared->Prop}{b:Expr}{d:Value}(I:Nat->Shared->Prop) (z:∀n s,I n s->wpAny (model prog w) A (pyNext it) (λr e=>match r with
   | none=>R (.ok .next) e
   | some v=>wpAny (model prog w) A (letOwnedTupleGo a_ it v) (λ_ j=>wpAny (model prog w) A (assign a_ env v) (λ_ l=>
    wpAny (model prog w) A (forIn o true λc r=>if r=true then do let ok <-isTrue c env (eval c env);pure (ForInStep.yield ok) else pure (ForInStep.yield r)) (λok i=>
     if ok=true then wpAny (model prog w) A (eval b env) (λx p=>
      wpAny (model prog w) A (call (.builtin "list.append") [d,x]) (λ_ q=>∃m,m < n/\I m q) (λ_ _=>False) p) (λ_ _=>False) i
     else ∃m,m < n/\I m i) (λ_ _=>False) l) (λ_ _=>False) j) (λ_ _=>False) e) (λ_ _=>False) s) (n:Nat) (h:I n s):
  codeAny (model prog w) A (.compLoop (.ListComp b [⟨a_,iter,o,0⟩] scope pos) 0 it d env) R s:=by
 refine codeAny_loop rfl I (λn s B=>?_) n h;show wpAny _ A ((compTurn (.ListComp b [⟨a_,iter,o,0⟩] scope pos) 0 it d env).onRaise (λx=>do noteFrame x env;theTreesLotGoes x)) _ _ s;refine wpAny_noted ?_;rw[compTurn_list];refine zdO (wpAny_standAt (zdO (wpAny_mono (z n s B) (λr e u=>?_) λ_ _ a=>a.elim)));cases r with
 | none=>exact zdP u
 | some v=>
  refine zdO (wpAny_mono u (λ_ j C=>?_) λ_ _ a=>a.elim);refine zdO (wpAny_mono C (λ_ l D=>zdO (wpAny_mono D (λok i y=>?_) λ_ _ a=>a.elim)) λ_ _ a=>a.elim);cases ok with
  | false=>exact zdP ⟨rfl,y⟩
  | true=>
   exact zdO (zdO (wpAny_mono y (λx p H=>zdO (wpAny_mono H (λ_ q J=>zdP (zdP ⟨rfl,J⟩)) λ_ _ a=>a.elim)) λ_ _ a=>a.elim))
inductive Z1(J:It)(g:TG)(tt:TT)(te:TE)(D:Addr)(σ:St)(H:Hp)(Q:Hp->Prop):Prop
 | mk (W:Nat->Nat->St->Hp->Prop):((∃m,W 0 m σ (upd H D (.lst []))))->(∀i m eM H',W i m eM H'->(J.stop i H'/\Q H')\/(J.go i H'/\∃N:St->Hp->Prop,(∀eV H2,N eV H2->∃m',m' < m/\W (i+1) m' eV H2)/\∀x H2,J.yld i H' x H2->g x eM H2 λeV H3=>tt eV H3 λb H4=>if b=true then te eV H4 λv H5=>∃ys,H5 D=some (.lst ys)/\ys.length < zdR/\N eV (upd H5 D (.lst (ys++[v]))) else N eV H4))->Z1 J g tt te D σ H Q
def DU(b:TI)(ix:List (Option Nat))(g:TG)(tt:TT)(te:TE):TE:=λa H Q=>b a H λd b=>∀D,b D=none->Z1 d g tt te D (Cj ix a) b λa=>Q (.ref D) a
def W7{X:Cx}{RR:Value->Addr->Result->Shared->Prop}{Q:Addr->Hp->Prop}(hc:X.calm=true)(S:QL X N' ix scope)(I:qv X j σ H s)(T:Wm X.prog X.w X.K a_ aw fp it O)(st:O 0 s.heap)(U:∀b∈fp,zt X j H b)(a:∀C ac ae fp j,PG (Yq X N' scope C ac ae fp j) a_ g/\D2 (Yq X N' scope C ac ae fp j) ak tt/\PE (Yq X N' scope C ac ae fp j) al te)(h:∀D,H D=none->Z1 aw g tt te D (Cj ix σ) H (Q D))(ew:∀(D C:Addr) (H':Hp) (q:Shared) (m:Str->Option Value),s.heap.objs.size<=C->H' C=none->q.heap.Ns C m->qv X j σ H' q->Q D H'->RR (.ref D) C (.ok .next) q):
  wpAny (model X.prog X.w) X.A (newList []) (λam ax=>wpAny (model X.prog X.w) X.A (newFunctionEnv scope X.env.globals (Qs X.env scope.names []) [] X.env.qual none .none (some X.env)) (λan ay=>
   codeAny (model X.prog X.w) X.A (.compStart (.ListComp al [⟨a_,iter,ak,0⟩] scope pos) 0 (.ref it) am {an with scope:=relabel scope X.env}) (RR am an.locals) ay) E ax) E s:=by
 have ao:∀b∈fp,b < s.heap.objs.size:=λb a=>by
  obtain⟨o,e,_⟩:=T.obj _ _ st b a;exact tH e
 refine wpAny_newObj_type (wpAny_newFunctionEnv S.cellH (by intro y hy;simp at hy) (λz af Y=>?_) S.kind);dsimp only at af Y ⊢;generalize ag:s.heap.push {cls:=.type "list",dict:=none,data:=.seq ([]:List Value).toArray}=l at af Y ⊢;have hC:l.objs.size=s.heap.objs.size+1:=by rw[<-ag,zbf]
 have ap:s.heap.objs.size≠l.objs.size:=by rw[hC];exact tS (zba _)
 have aq:s.heap.objs.size<=l.objs.size:=by rw[hC];exact zcK _
 have az:∀b,b < s.heap.objs.size->b≠l.objs.size:=λb a=>by rw[hC];exact tS (zci a)
 have eG:∀b o,s.heap.get? b=some o->z.get? b=some o:=λb o e=>Y.extBut b o (az b (tH e)) (tm _ (ag▸tm _ e));have aA:z.get? s.heap.objs.size=some {cls:=.type "list",data:=.seq #[] 0}:=Y.extBut _ _ ap (tm _ (ag▸tJ _ rfl));obtain⟨W,⟨m0,w0⟩,aB⟩:=h s.heap.objs.size (I.hok.fresh (tf _));have I1:qv (Yq X N' scope l.objs.size s H fp j) [] (Cj ix σ) (upd H s.heap.objs.size (.lst [])) {s with heap:=z,toks:=s.toks+([]:List (Str×Value)).length}:=
  wU S I U ao (tf _) aq ap eG af aA
 have ar:O 0 z:=T.keep _ _ _ st λb a o e=>eG b o e;have aC:∀b∈fp,(upd H s.heap.objs.size (.lst [])) b=none:=λb a=>by
  rw[qc (tS (ao b a))];exact(U b a).1
 obtain⟨hg,aD,aE⟩:=a l.objs.size s H fp j;have okY:=I1.ok;have ah:∀{H':Hp},(∀b∈fp,H' b=none)->∀b∈fp,zt (Yq X N' scope l.objs.size s H fp j) [] H' b:=λ{H'} hn b a=>
  ⟨hn b a,(okY.exf b a).1,okY.exfs b a,.inl a,(okY.exf b a).2,λai hp=>by
   have aF:ai∈X.pn++j:=by
    have:ai∈(X.pn++j)++[]:=hp;simpa using this
   exact(U b a).2.2.2.2.2 ai aF⟩
 have as:codeAny (model X.prog X.w) X.A (.compLoop (.ListComp al [⟨a_,iter,ak,0⟩] scope pos) 0 (.ref it) (.ref s.heap.objs.size) (compEnvC scope (Qs X.env scope.names []) l.objs.size X.env))
   (RR (.ref s.heap.objs.size) l.objs.size) {s with heap:=z,toks:=s.toks+([]:List (Str×Value)).length}:=by
  refine V8 (λn q=>∃i B H',qv (Yq X N' scope l.objs.size s H fp j) [] B H' q/\O i q.heap/\(∀b∈fp,H' b=none)/\W i n B H') ?_ m0 ⟨0,_,_,I1,ar,aC,w0⟩;rintro n s3 ⟨i,aa,H3,I3,au,av,w3⟩;rcases aB i n aa H3 w3 with ⟨stop,qn⟩ | ⟨go,NN,aG,step⟩
  ·refine js (T.done (Yq X N' scope l.objs.size s H fp j) rfl rfl rfl hc i [] s3 aa H3 _ I3 (ah av) au stop) λaH s4 ⟨hr,I4⟩=>?_;subst hr;obtain⟨mm,aI,_⟩:=I4.loc;exact ew _ _ H3 s4 mm aq I4.free aI (RN I U I4) qn
  ·refine js (T.item (Yq X N' scope l.objs.size s H fp j) rfl rfl rfl hc i [] s3 aa H3 _ I3 (ah av) au go) λaH s4 ⟨u,hr,h4⟩=>?_;subst hr;refine js h4 λ_ s5 ⟨x,H5,I5,r5,y5,aj,aJ⟩=>?_;have aK:=I5.pinned (ah aJ) (T.obj _ _ aj);refine js (hg _ s5 aa H5 x u _ aK r5 (step x H5 y5)) λ_ s6 ⟨ab,H6,I6,q6⟩=>?_;refine js (aD _ s6 ab H6 _ I6 q6) λok s7 ⟨H7,I7,q7⟩=>?_;have again:∀{J:St} {p:Hp} {r:Shared},qv (Yq X N' scope l.objs.size s H fp j) ([]++Xz fp s5.heap) J p r->NN J p->
     ∃m,m < n/\∃i B H',qv (Yq X N' scope l.objs.size s H fp j) [] B H' r/\O i r.heap/\(∀b∈fp,H' b=none)/\W i m B H':=λ{J p r} L n8=>by
    obtain⟨m',hm,w8⟩:=aG J p n8;refine⟨m',hm,i+1,J,p,L.unpinned,T.keep _ _ _ aj λb a o e=>(L.pin (b,o) (tU _ (tU _ (Zk a e)))).1,λb a=>?_,w8⟩;obtain⟨o,e,d⟩:=T.obj _ _ aj b a;exact(L.pin (b,o) (tU _ (tU _ (Zk a e)))).2.1
   cases ok with
   | false=>
    rw[if_neg tI]at q7 ⊢;exact again I7 q7
   | true=>
    rw[if_pos rfl]at q7 ⊢;refine js (aE _ s7 ab H7 _ I7 q7) λv r ⟨y,p,L,r8,q8⟩=>?_;obtain⟨ys,hy,hz,q8⟩:=q8;refine js (J8 (X:=Yq X N' scope l.objs.size s H fp j) _ r ab p (.ref s.heap.objs.size) [y] (.ref s.heap.objs.size) [v] (λ_ H9=>NN ab H9) L rfl (.cons r8 .nil) ⟨_,ys,y,rfl,rfl,hy,hz,q8⟩) λ_ s9 ⟨_,H9,I9,_,q9⟩=>?_;exact again I9 q9
 exact codeAny_compStart_list as (T.self X.A 0 _ _ _ ar as)
def ET{X:Cx}(i:X.calm=true)(S:QL X N' ix scope)(j:PI X a_ iter l)(o:∀C b d fp a,PG (Yq X N' scope C b d fp a) a_ g/\D2 (Yq X N' scope C b d fp a) p tt/\PE (Yq X N' scope C b d fp a) r te)(u:∀x,foldedSetIterable iter X.env x=pure x:=by intro _;rfl):PE X (.ListComp r [⟨a_,iter,p,0⟩] scope pos) (DU l ix g tt te):=by
 intro a s b H Q I h;rw[eval_ListComp];refine wpAny_comprehension_free (use:=none) rfl u (zb (S.freeH I.ok)) S.kind S.locH ?_;refine js (j a s b H _ I h) λ_ _ d=>js d λ_ _ j=>?_;obtain⟨_,fp,_,_,_,e,d,l,p,f2,r⟩:=j;subst e;refine W7 (RR:=λj C=>compPost (model X.prog X.w) X.A X.xe none (EP X a b Q) j C) (Q:=λD a=>Q (.ref D) a) i S d l p f2 o r ?_;intro D C a _ m b i j l q;exact⟨m,j,λ_ j=>⟨.ref D,a,RM d l b i j,rfl,q⟩⟩
def jw(h:JI X a_ iter i)(e:∀C a b fp d,JG (Yq X N' scope C a b fp d) a_ g/\NJ (Yq X N' scope C a b fp d) j tt/\JE (Yq X N' scope C a b fp d) l te)(m:∀x,foldedSetIterable iter X.env x=pure x:=by intro _;rfl)(o:X.calm=true:=by exact rfl)(S:QL X N' ix scope:=by exact⟨rfl,rfl,rfl,rfl,rfl⟩):JE X (.ListComp l [⟨a_,iter,j,0⟩] scope pos) (DU i ix g tt te):=.of (ET o S h.to (λC a b fp d=>⟨(e C a b fp d).1.to,(e C a b fp d).2.1.to,(e C a b fp d).2.2.to⟩) m)
def Ga{X:Cx}{U:Pos}(hN:X.N.Nodup)(aa:X.N[i]?=some x)(hx:NI X.env.scope x)(hc:X.calm=true)(S:QL X N' ix scope)(hi:PI X a_ iter wi)(u:∀C B J fp d,PG (Yq X N' scope C B J fp d) a_ g/\D2 (Yq X N' scope C B J fp d) L tt/\PE (Yq X N' scope C B J fp d) O te)(ab:swapsWith (.ListComp O [⟨a_,iter,L,0⟩] scope pos) (some (.Name x o)) U.line X.env=pure true:=by rfl)(hs:∀x,foldedSetIterable iter X.env x=pure x:=by intro _;rfl)(hf:X.fn x=true\/X.env.scope.names.lookup x=some .local:=by first | exact .inl rfl | exact .inr rfl | assumption):
  PS X (.Assign [.Name x o] (.ListComp O [⟨a_,iter,L,0⟩] scope pos) U) (vL (DU wi ix g tt te) (jF i)):=by
 intro d s Y H D I h;rw[exec_Assign_Name_used _ _ _ _ ab];refine zdO (wpAny_standAt (zdO ?_));show wpAny _ X.A (do let _ <-comprehension (.ListComp O [⟨a_,iter,L,0⟩] scope pos) scope X.env _ (newList []) false (eval iter X.env) (some (assign (.Name x o) X.env))) _ _ s;refine zdO (js (wpAny_comprehension_free (use:=some (assign (.Name x o) X.env)) (Q:=λ_ p=>SP X d D .next p) rfl hs (zb (S.freeH I.ok)) S.kind S.locH ?_) λ_ p hq=>zdP (zdP hq));refine js (hi d s Y H _ I h) λxv s1 h1=>js h1 λam s2 h2=>?_;obtain⟨it,fp,tn,an,H2,e,j,ac,ae,f2,q2⟩:=h2;subst e;refine W7 (RR:=λaf C=>compPost (model X.prog X.w) X.A X.xe (some (assign (.Name x o) X.env)) (λ_ p=>SP X d D .next p) af C) (Q:=λr Q=>jF i (.ref r) Y Q D.nx) hc S j ac ae f2 u q2 ?_;intro r C Q p m l hn hm I' q;show wpAny _ X.A (assign (.Name x o) X.env (.ref r)) _ _ _;refine wpAny_assign_Name (Wy I' hN aa hx (v:=.ref r) rfl (λag ah ai=>?_) hf);obtain⟨a,sb,ha⟩:=ai;have aj:C≠a:=by
  rcases ha with z | z
  ·rw[z];exact zbz (tF j.lt l)
  ·intro e;obtain⟨v,T⟩:=j.cell x a z;exact absurd (tF T.lt (by rw[<-e];exact l)) (zaF _)
 refine⟨m,hm.sameBut sb aj,λh' ak=>?_⟩;refine⟨_,Q,?_,q⟩;refine ah.turned (it:=C) (t':=ag.toks) (λb ao u e=>(ak.2 b u).trans e) hn (zbz (tF j.lt l)) (.inr (tR j.sz l)) (λy c e z=>?_) λal hp z=>?_
 ·obtain⟨v,T⟩:=j.cell y c e;exact absurd (tF T.lt (by rw[z];exact l)) (zaF _)
 ·exact absurd (tF (tH (j.pin al hp).1) (by rw[z];exact l)) (zaF _)
def Qx{h:Pos}(m:JI X a_ iter o)(e:∀C a b fp d,JG (Yq X N' scope C a b fp d) a_ g/\NJ (Yq X N' scope C a b fp d) j tt/\JE (Yq X N' scope C a b fp d) l te)(p:swapsWith (.ListComp l [⟨a_,iter,j,0⟩] scope pos) (some (.Name x q)) h.line X.env=pure true:=by rfl)(r:∀x,foldedSetIterable iter X.env x=pure x:=by intro _;rfl)(u:X.fn x=true\/X.env.scope.names.lookup x=some .local:=by first | exact .inl rfl | exact .inr rfl | assumption)(hN:X.N.Nodup:=by first | assumption | exact ndC)(v:X.N[i]?=some x:=by exact rfl)(y:NI X.env.scope x:=by exact Or.inl rfl)(z:X.calm=true:=by exact rfl)(S:QL X N' ix scope:=by exact⟨rfl,rfl,rfl,rfl,rfl⟩):JS X (.Assign [.Name x q] (.ListComp l [⟨a_,iter,j,0⟩] scope pos) h) (vL (DU o ix g tt te) (jF i)):=.of (Ga hN v y z S m.to (λC a b fp d=>⟨(e C a b fp d).1.to,(e C a b fp d).2.1.to,(e C a b fp d).2.2.to⟩) p r u)
open PyProof.Rows hiding K lo
def IL(x:Str):It:=⟨λi _=>i < x.cps.size,λi H v a=>a=H/\∃c,x.cps[i]?=some c/\v=.str ⟨#[c]⟩,λi _=>i=x.cps.size⟩
def Uo(it:Addr)(x:Str)(t:Tok)(ty:String)(hn:["enumerate","zip","dict_itemiterator","dict_reverseitemiterator","odict_iterator","itertools.zip_longest","itertools.pairwise"].contains ty=false)(O:∀A:Around,A.handled=none->Walks P w A it [it] [it] x.cps.size (SignAt x) (λi h=>h.IsStrIter it ty x t i))(aa:∀(A:Around) (i:Nat) (s:Shared) (Q:Value->Shared->Prop) (E:Value->Shared->Prop),s.heap.IsStrIter it ty x t i->Q (.ref it) s->wpAny (model P w) A (pyIter (.ref it)) Q E s):
  Wm P w K a (IL x) [it] it (λi h=>h.IsStrIter it ty x t i) where
 mem:=by simp
 obj:=λi h st b j=>by
  have e:b=it:=by simpa using j
  subst e;obtain⟨a,e,c,d⟩:=st;exact⟨a,e,λv z=>by rw[d]at z;cases z⟩
 keep:=λi h l st k=>let ⟨a,e,m⟩:=st;⟨a,k it (by simp) a e,m⟩
 item:=by
  intro X o p q r i T s U H E I m st y;subst o p q;obtain⟨B,f1,f2,C,D,J⟩:=m it (by simp);refine(O X.A (I.ok.hd r)).item i s _ _ y st λv l tk hv Y L=>?_;obtain⟨c,u,ab,rfl⟩:=hv;have I1:qv X T U H {s with heap:=l,toks:=tk}:=I.turned (λb a j e=>L b a (by simpa using j) e) B f1 C D J;obtain⟨a,e,c1,d1⟩:=id Y;exact⟨_,rfl,WZ (s:={s with heap:=l,toks:=tk}) e c1 d1 hn ⟨.str ⟨#[c]⟩,H,I1,⟨u,rfl⟩,⟨rfl,c,ab,rfl⟩,Y,λb j=>(m b j).1⟩⟩
 done:=by
  intro X o p q r i T s U H E I m st y;subst o p q;obtain⟨B,f1,f2,C,D,J⟩:=m it (by simp);have m:i=x.cps.size:=y;subst m;exact(O X.A (I.ok.hd r)).done s _ _ st λl tk L=>⟨rfl,I.turned (λb a j e=>L b a (by simpa using j) e) B f1 C D J⟩
 self:=aa
inductive BY(R:It->Hp->Prop)(x:V)(H1:Hp):Prop
 | mk (y:_):x=.str y->(R (IL y) H1)->BY R x H1
def IA(a:TE):TI:=λb H R=>a b H λx a=>BY R x a
def RB(a:JE X l d):JI X j l (IA d):=.of (by
 have a:=a.to;intro m s d H R I h;refine js (a m s d H _ I h) λv a ⟨x,j,d,o,p⟩=>?_;obtain⟨y,e,q⟩:=p;subst e;obtain⟨t,rfl⟩:=o;have fp:∀b∈[a.heap.objs.size],zt X m j b:=λb o=>by
  have e:b=a.heap.objs.size:=by simpa using o
  subst e;exact d.fpOk (tf _) (d.hok.fresh (tf _))
 cases o:y.cps.all (· < 128)
 ·refine wpAny_pyIter_wide o ?_;exact⟨a.heap.objs.size,[a.heap.objs.size],_,_,j,rfl,d.kept (t':=a.toks) λb p e=>tm _ e,
   Uo _ y t "str_iterator" (by decide) (λA m=>Walks.strWide m _ y t) (λA i s Q E st q=>wpAny_pyIter_striter_wide st q),⟨_,tJ _ rfl,rfl,rfl⟩,fp,q⟩
 ·refine wpAny_pyIter_ascii o ?_;exact⟨a.heap.objs.size,[a.heap.objs.size],_,_,j,rfl,d.kept (t':=a.toks) λb p e=>tm _ e,
   Uo _ y t "str_ascii_iterator" (by decide) (λA m=>Walks.strAscii m _ y t) (λA i s Q E st q=>wpAny_pyIter_striter_ascii st q),⟨_,tJ _ rfl,rfl,rfl⟩,fp,q⟩)
def YL(tt:TT)(te:TE)(D:Addr)(N:St->Hp->Prop):St->Hp->Prop:=λa d=>tt a d λb e=>
 if b=true then te a e λv h=>∃d,h D=some (.lst d)/\d.length < zdR/\N a (upd h D (.lst (d++[v]))) else N a e
def Ys{g:TG}{Q:Hp->Prop}{b:It}(Pv:Nat->St->Hp->Prop)(h:Pv 0 j (upd H D (.lst [])))(go:∀i a H',i < n->Pv i a H'->b.go i H'/\∀x d,b.yld i H' x d->g x a d (YL tt te D (Pv (i+1))))(stop:∀a H',Pv n a H'->b.stop n H'/\Q H'):Z1 b g tt te D j H Q:=by
 refine⟨λi m a H'=>m=n - i/\i<=n/\Pv i a H',⟨n,by simp,zat _,h⟩,?_⟩;rintro i m a H' ⟨rfl,_,b⟩;by_cases h:i < n
 ·obtain⟨j,l⟩:=go i a H' h b;exact .inr ⟨j,Pv (i+1),λ_ d d=>⟨n - (i+1),by omega,rfl,h,d⟩,l⟩
 ·have e:i=n:=by omega
  subst e;exact .inl (stop a H' b)
def Q5{g:TG}{Q:Hp->Prop}(Pv:Nat->St->Hp->Prop)(b:Pv 0 d (upd H D (.lst [])))(h:∀i a H',i < n->Pv i a H'->g (.int (lo+i)) a H' (YL tt te D (Pv (i+1))))(hd:∀a H',Pv n a H'->Q H'):Z1 (Ca lo n) g tt te D d H Q:=
 Ys (n:=n) Pv b (λi a H' d b=>⟨d,λx j y=>by
  obtain⟨e,y⟩:=y;subst e y;exact h i a j d b⟩) λa H' b=>⟨tf _,hd a H' b⟩
def jc{g:TG}{Q:Hp->Prop}{xs:List V}(Pv:Nat->St->Hp->Prop)(d:Pv 0 j (upd H D (.lst [])))(h:∀i b H',i<=xs.length->Pv i b H'->Q6 K H' a xs)(l:∀i x b H',xs[i]?=some x->Pv i b H'->g x b H' (YL tt te D (Pv (i+1))))(hd:∀b H',Pv xs.length b H'->Q H'):Z1 (AQ K a) g tt te D j H Q:=
 Ys (n:=xs.length) Pv d (λi b H' j d=>⟨⟨xs,xs[i],h i b H' (zac j) d,by simp [j]⟩,λx _ y=>by
  obtain⟨e,y⟩:=y;subst e;exact l i x b _ (y xs (h i b _ (zac j) d)) d⟩) λb H' d=>⟨⟨xs,h _ b H' (tf _) d,tf _⟩,hd b H' d⟩
def Ua{g:TG}{Q:Hp->Prop}{xs:List V}(Pv:Nat->St->Hp->Prop)(d:Pv 0 j (upd H D (.lst [])))(h:∀i b H',i<=xs.length->Pv i b H'->zZ K H' a xs)(l:∀i x b H',xs[i]?=some x->Pv i b H'->g x b H' (YL tt te D (Pv (i+1))))(hd:∀b H',Pv xs.length b H'->Q H'):Z1 (B9 K a) g tt te D j H Q:=
 Ys (n:=xs.length) Pv d (λi b H' j d=>⟨⟨xs,xs[i],h i b H' (zac j) d,by simp [j]⟩,λx _ y=>by
  obtain⟨e,y⟩:=y;subst e;exact l i x b _ (y xs (h i b _ (zac j) d)) d⟩) λb H' d=>⟨⟨xs,h _ b H' (tf _) d,tf _⟩,hd b H' d⟩
def xA{g:TG}{Q:Hp->Prop}{x:Str}(Pv:Nat->St->Hp->Prop)(b:Pv 0 d (upd H D (.lst [])))(h:∀i c a H',x.cps[i]?=some c->Pv i a H'->g (.str ⟨#[c]⟩) a H' (YL tt te D (Pv (i+1))))(hd:∀a H',Pv x.cps.size a H'->Q H'):Z1 (IL x) g tt te D d H Q:=
 Ys (n:=x.cps.size) Pv b (λi a H' d b=>⟨d,λv _ y=>by
  obtain⟨e,c,d,rfl⟩:=y;subst e;exact h i c a _ d b⟩) λa H' b=>⟨rfl,hd a H' b⟩
def X5:∀(bs:List Bool),(tQ bs.length).all (λi=>bs.getD i false)=bs.all id:=by
 intro bs;induction bs with
 | nil=>rfl
 | cons b bs a=>
  rw[zab,List.range_succ_eq_map,zcP,zcj,zcP];have:((λi=>(b::bs).getD i false) ∘ zcT)=λi=>bs.getD i false:=by
   funext i;simp [Function.comp]
  rw[this,a];simp
def Yr{X:Cx}(m:X.calm=true):Jh X (.builtin "all") (λxs H Q=>∃(p:Addr) (bs:List Bool),xs=[.ref p]/\Q6 X.K H p (bs.map V.bl)/\Q (.bl (bs.all id)) H):=by
 intro _ s _ H xs _ Q I a h;obtain⟨p,bs,rfl,l,q⟩:=h;obtain⟨u,rfl,d⟩:=JL a;cases d;obtain⟨a,d,j,_⟩:=I.list l;have o:p < s.heap.objs.size:=by
  obtain⟨l,n,e,_⟩:=j;exact tH e
 have r:a.toArray.size=bs.length:=by
  have:=d.length;rw[ta]at this;simp only[t7];omega
 have x:X.A.in1.handled=none:=I.ok.hd m;refine call_all_walk (wpAny_pyIter_list j.isList ?_);refine⟨s.heap.objs.size,[s.heap.objs.size,p],[s.heap.objs.size],a.toArray.size,λi v=>a.toArray[i]?=some v,_,λi=>bs.getD i false,rfl,Walks.list x s.heap.objs.size p (tS o) a.toArray,
  ⟨⟨_,tJ _ rfl,rfl,rfl⟩,j.isList.at λl e=>tm _ e⟩,?_,λm tk o=>?_⟩
 ·intro i v x y _ B C;have j:a[i]?=some v:=by simpa using B
  have B:∃b,bs[i]?=some b/\v=Value.bool b:=by
   cases e:bs[i]? with
   | none=>
    exfalso;have a:(bs.map V.bl)[i]?=none:=by rw[tw,e];rfl
    rw[qK.none_of d a]at j;cases j
   | some b=>
    have a:(bs.map V.bl)[i]?=some (V.bl b):=by rw[tw,e];rfl
    obtain⟨u,hu,D⟩:=d.get a;rw[j]at hu;cases hu;exact⟨b,rfl,D⟩
  obtain⟨b,e,rfl⟩:=B;refine wpAny_truthy_bool ?_;have d:bs.getD i false=b:=by rw[zaE,e];rfl
  have a:y (bs.getD i false) x:=C;rw[d]at a;exact a
 ·rw[r,X5];refine⟨.bl (bs.all id),H,?_,rfl,q⟩;exact I.kept (h':=m) (t':=tk) λb l e=>o b l (by
   intro z;have a:b=s.heap.objs.size:=by simpa using z
   exact absurd (tH e) (by rw[a];exact zaF _)) (tm _ e)
def vM{ys:List Str}:∀{us:List Value},qK (ys.map V.str) us->StrsAre us ys:=by
 induction ys with
 | nil=>
  intro us d;rw[zbX]at d;cases d;exact .nil
 | cons y ys e=>
  intro us d;rw[tM]at d;cases d with
  | cons a b=>
   obtain⟨t,rfl⟩:=a;exact .cons _ _ (e b)
inductive K4(K:zdM)(x:V)(xs:List V)(H:Hp)(Q:VK):Prop
 | mk (sep:Str) (p:Addr) (ys:List Str):x=.str sep->xs=[.ref p]->(Q6 K H p (ys.map V.str))->((ys.map (·.length)).sum+ys.length*sep.length<=16777216)->(Q (.str (Txt.join sep ys)) H)->K4 K x xs H Q
def EL(K:zdM):V->List V->Hp->VK->Prop:=λx a H Q=>K4 K x a H Q
def Ae:FV X "str.join" (EL X.K):=by
 intro _ s _ H x _ v _ Q I a b h;obtain⟨sep,_,_,rfl,rfl,d,e,q⟩:=h;obtain⟨t,rfl⟩:=a;obtain⟨u,rfl,a⟩:=JL b;cases a;obtain⟨_,a,b,_⟩:=I.list d;exact join_list b.isList (by simpa using vM a) e λa k=>⟨.str _,H,I.tok k,⟨a,rfl⟩,q⟩
def FP:V->Value
 | .ty n=>.type n
 | .ref a=>.ref a
 | _=>.none
def FH:V->Bool
 | .ty _=>true
 | .ref _=>true
 | _=>false
inductive K6(K:zdM)(xs:List V)(H:Hp)(Q:VK):Prop
 | mk (x:_) (c:_) (t:_) (b:_):xs=[x,c]->FH c=true->Yv K H x t->zaN K t (FP c)=some b->(Q (.bl b) H)->K6 K xs H Q
def EN(K:zdM):List V->Hp->VK->Prop:=λa H Q=>K6 K a H Q
def jR:Jh X (.builtin "isinstance") (EN X.K):=by
 intro _ s _ H _ _ Q I i h;obtain⟨x,c,t,b,rfl,j,ty,e,q⟩:=h;obtain⟨u,l,rfl,m,d⟩:=uA i;have i:l=FP c:=by
  cases c with
  | ty n=>exact d
  | ref a=>exact d
  | _=>cases j
 subst i;exact wQ I m ty e λtk=>⟨.bl b,H,I.tok tk,rfl,q⟩
open PyProof.Rows hiding K lo
open PyProof.Rows hiding K lo
abbrev D4(rest:List Value):Obj:={cls:=.type "tuple",data:=.seq rest.toArray}
abbrev DE(C t:Addr):Obj:={cls:=.ref C,data:=.fields #[.ref t,.none,.none,.none,.bool false,.none]}
def vI{prog:Program}{w:World}{A:Around}{E:Value->Shared->Prop}{h:Heap}{g:Array GenState}{d:Drawn}{t:Nat}{os:OsState}{x:Str}{q:Str}{C:Addr}{N:Addr}{i:Addr}{bs:List Value}{bm:List Value}{j:List Value}{y:List Value}{z:Bool}{D:List Str}{sub:List Value}{H:Bool}{J:Option Bool}{L:Option Addr}{O:Option Value}{U:Option Value}{Y:Option Value}{k3:Option Value}{k5:Option Value}{B:String}{m:String}{o:String}{aa:String}{ac:String}{ae:String}{rest:List Value}{p:Obj}{Q:Fin->Shared->Prop}(l:ExcBaseFacts m o ae y)(u:j.contains (.type m)=true)
  (F:ExcBaseFacts B aa ac j) (T:OwnTail h j bm)
  (a:h.get? C=some (excClassObj x q C N bs bm z D sub H J L O U Y k3 k5 o))
  (hi:PySem.W.Looks (model prog w) h (typeLookup (.ref C) "__init__") (some (.ref i))) (af:h.get? i=some p) (ag:p.cls=.type "function")
  (hq:∀h' e,h.objs.size<=e->Heap.MadeExcOf h h' e (.ref C) rest->
   wpAny (model prog w) A (call (.ref i) (.ref e::rest)) (λr v=>r=.none/\Q (.done (.ret (.ref e))) v) E ⟨h',g,d,t,os⟩)
  (hz:rest.length<=zdR):
  wpAny (model prog w) A (Builtin.«type.__call__» ⟨.ref C::rest,[]⟩) Q E ⟨h,g,d,t,os⟩:=by
 repeat (first
  | with_reducible refine wpAny_loadPart_at a ?_
  | with_reducible refine wpAny_madeBy_exc a ?_
  | wp_step)
 refine codeAny_call_builtin_code (Code.quiet_builtin _ l.quiet) (wpAny_check_new_subU l u T a
  (codeAny_exc_new_subU l u F T a ?_ hz))
 show wpAny _ _ _ _ _ _;have k:∀b i,h.get? b=some i->((h.push (D4 rest)).push (DE C h.objs.size)).get? b=some i:=λb i e=>
  tm _ (tm _ e)
 have i:=k _ _ a;have f1:=k _ _ af;have j:=hi.keeps k;have a:((h.push (D4 rest)).push (DE C h.objs.size)).get? (h.objs.size+1)=some (DE C h.objs.size):=by heap_get
 have l:(Value.ref C::bm).contains (.ref C)=true:=by simp
 unfold isInstance
 repeat (first
  | with_reducible refine wpAny_loadPart_at a ?_
  | (with_reducible refine wpAny_isSubtype_exc i ?_;rw[l])
  | wp_step)
 show wpAny _ _ (typeLookup (.ref C) _) _ _ _;refine j.at ?_;refine wpAny_holding (zdO ?_);unfold bindSpecial;refine zdO (wpAny_typeOf (T:="function") ⟨_,f1,ag⟩ ?_);rw[if_pos (by decide)];refine zdP (zdO (js (hq _ (h.objs.size+1) (zcK _) ⟨k,zcq (zcK _),h.objs.size,a,zcq (tf _),?_⟩) λr v hr=>?_))
 ·exact tm _ (Heap.get?_push_at rfl rfl)
 ·obtain⟨rfl,a⟩:=hr
  wp_walk
  exact a
def ui{prog:Program}{w:World}{A:Around}{E:Value->Shared->Prop}{h:Heap}{g:Array GenState}{d:Drawn}{t:Nat}{os:OsState}{o:Str}{q:Str}{C:Addr}{N:Addr}{b:Addr}{bs:List Value}{bm:List Value}{i:List Value}{p:List Value}{u:Bool}{v:List Str}{sub:List Value}{x:Bool}{y:Option Bool}{z:Option Addr}{D:Option Value}{H:Option Value}{J:Option Value}{L:Option Value}{O:Option Value}{B:String}{j:String}{l:String}{U:String}{Y:String}{aa:String}{rest:List Value}{m:Obj}{Q:Value->Shared->Prop}(Fn:ExcBaseFacts j l aa p)(ac:i.contains (.type j)=true)
  (F:ExcBaseFacts B U Y i) (T:OwnTail h i bm)
  (a:h.get? C=some (excClassObj o q C N bs bm u v sub x y z D H J L O l))
  (hi:PySem.W.Looks (model prog w) h (typeLookup (.ref C) "__init__") (some (.ref b))) (ae:h.get? b=some m) (af:m.cls=.type "function")
  (hq:∀h' e,h.objs.size<=e->Heap.MadeExcOf h h' e (.ref C) rest->
   wpAny (model prog w) (A.under (.builtin "type.__call__" ⟨.ref C::rest,[]⟩)) (call (.ref b) (.ref e::rest)) (λr s'=>r=.none/\Q (.ref e) s') E ⟨h',g,d,t,os⟩)
  (hz:rest.length<=zdR):
  wpAny (model prog w) A (call (.ref C) rest) Q E ⟨h,g,d,t,os⟩:=by
 have b:=tc_lookup;have b:=tc_bind (.ref C);have b:(⟨h,g,d,t,os⟩:Shared).TypeIs (.ref C) "type":=⟨_,a,rfl⟩;refine wpAny_call (codeAny_of_tree ?_);show wpAny _ _ (callAny (.ref C) _) _ _ _
 repeat (any_goals (first
  | assumption
  | with_reducible refine wpAny_loadPart_at a ?_
  | wp_step))
 refine⟨rfl,codeAny_call_builtin_at (Code.quiet_builtin _ (by decide+kernel)) entry_typeCall
  (wpAny_check_type_call_sub a (vI Fn ac F T a hi ae af (λh' e a b=>?_) hz))⟩
 exact hq h' e a b
open PySem PySem.W Builtin Builtin.ObjectAttr
open PyProof.Rows hiding K lo
structure NC(K:Frag)(C:Addr)(bm:List Value):Prop where
 ga:findIn K (.ref C) "__getattribute__"=some (some (.builtin "BaseException.__getattribute__"))
 gt:findIn K (.ref C) "__getattr__"=some none
 sa:findIn K (.ref C) "__setattr__"=some (some (.builtin "object.__setattr__"))
 hd:hasDictIn K C=true
 mr:∃cd,clsIn K C=some cd/\cd.mro=.ref C::bm
 mb:mroIn K C (.type "BaseException")=some true
 mo:mroIn K C (.type "object")=some true
 cl:findIn K (.ref C) "__class__"=some (some (.builtin "object.__class__"))
def ka:List Value->Prop
 | .ref _::a=>ka a
 | a=>a=[.type "ValueError",.type "Exception",.type "BaseException",.type "object"]
def yP(self:Value):∀{l:List Value},ka l->refuseLoop self "__setattr__" l=pure ()
 | .ref c::b,e=>by rw[refuseLoop_ref];exact yP self (l:=b) e
 | [],e=>nomatch (show ([]:List Value)=[.type "ValueError",.type "Exception",.type "BaseException",.type "object"] from e)
 | .type n::b,e=>by
  have a:(Value.type n::b)=[.type "ValueError",.type "Exception",.type "BaseException",.type "object"]:=e;rw[a];kernel_rfl
 | .none::b,e=>by have a:(Value.none::b)=[.type "ValueError",.type "Exception",.type "BaseException",.type "object"]:=e;cases a
 | .bool _::b,e=>by have a:_=[Value.type "ValueError",.type "Exception",.type "BaseException",.type "object"]:=e;cases a
 | .int _ _::b,e=>by have a:_=[Value.type "ValueError",.type "Exception",.type "BaseException",.type "object"]:=e;cases a
 | .float _ _::b,e=>by have a:_=[Value.type "ValueError",.type "Exception",.type "BaseException",.type "object"]:=e;cases a
 | .str _ _::b,e=>by have a:_=[Value.type "ValueError",.type "Exception",.type "BaseException",.type "object"]:=e;cases a
 | .bytes _ _::b,e=>by have a:_=[Value.type "ValueError",.type "Exception",.type "BaseException",.type "object"]:=e;cases a
 | .builtin _::b,e=>by have a:_=[Value.type "ValueError",.type "Exception",.type "BaseException",.type "object"]:=e;cases a
def MQ{prog:Program}{w:World}{A:Around}{s:Shared}{K:Frag}{x:Addr}{C:Addr}{i:Obj}{j:Option Obj}{bm:List Value}{name:Str}{v:Value}{tk:Tok}{R:Result->Shared->Prop}(X:K.In s.heap)(I:InstAt s.heap x i C j)(c:NC K C bm)(l:ka bm)(m:findIn K (.ref C) name=some none)
  (h:∀b,wpAny (model prog w) A.in1 (storeInOwnDict (.ref x) (.ref C) (.str name tk) name v b)
   (λew a=>match ew with | .done f=>R (.ok f) a | .again d=>d.quiet=true/\codeAny (model prog w) A d R a) (λe a=>R (.error e) a) s):
  codeAny (model prog w) A (.call (.builtin "object.__setattr__") ⟨[.ref x,.str name tk,v],[]⟩) R s:=by
 have a:=PySem.F.store_object;obtain⟨d,i,j⟩:=c.mr;have sub:Looks (model prog w) s.heap (isInstance (.ref x) (.type "object")) true:=I.type.andThen (looks_mroIn X c.mo);refine codeAny_call_builtin a.slot.plain a.entry
  (@check_slot (model prog w) _ _ s "object.__setattr__" "object" "__setattr__" (.ref x) [.str name tk,v] [] _ a.kind a.split sub (a.args (.ref x) (.str name tk) v) ?_)
 have a:Looks (model prog w) s.heap (mroOf (.ref C)) d.mro:=(looks_clsIn X i).andThen .now;rw[osa_eq,refuse_eq];refine zdO (zdO (I.type.here (zdO (a.here ?_))));rw[j,refuseLoop_ref,yP _ l];refine zdP (zdO (I.type.here (zdO ((looks_findIn X m).here ?_))));exact zdO (zdP (h _))
def Kt{prog:Program}{w:World}{A:Around}{E:Value->Shared->Prop}{s:Shared}{K:Frag}{x:Addr}{C:Addr}{a:Obj}{bm:List Value}{name:Str}{v:Value}{Q:Unit->Shared->Prop}(X:K.In s.heap)(i:s.heap.get? x=some a)(l:a.cls=.ref C)(m:a.dict=none)(r:∃j,a.data=.fields j)(c:NC K C bm)(d:ka bm)(u:findIn K (.ref C) name=some none)
  (h:∀h' tk,h'.get? x=some {a with dict:=some s.heap.objs.size}->h'.Ns1 s.heap.objs.size (λy=>if y=name then some v else none)->
   (∀b o,b≠x->s.heap.get? b=some o->h'.get? b=some o)->Q () {s with heap:=h',toks:=tk}):
  wpAny (model prog w) A (setAttr (.ref x) name v) Q E s:=by
 obtain⟨j,p⟩:=r;obtain⟨_,_,_,r⟩:=a
 try dsimp only at l m p
 subst l m p;have I:InstAt s.heap x ⟨.ref C,none,.fields j,r⟩ C none:=⟨i,rfl,rfl,trivial⟩;refine set_plain X I c.sa (MQ (s:={s with toks:=s.toks+1}) X I c d u λb=>?_);obtain⟨_,a,l⟩:=any_some c.hd;refine zdO (zdP (zdO (zdO (wpAny_loadPart i (zdO (Looks.here (s:={s with toks:=s.toks+1}) (looks_clsIn X a) ?_))))));rw[l];have l:x≠s.heap.objs.size:=tS (tH i);have m:=tm zaM i;refine zdO (wpAny_alloc (zdO (wpAny_update m ?_)));generalize i:(s.heap.push emptyDict).update x (λo=>{o with dict:=some s.heap.objs.size})=a;have p:a.get? x=some ⟨.ref C,some s.heap.objs.size,.fields j,r⟩:=by rw[<-i];exact zaw _ m rfl
 have j:∀b o,b≠x->(s.heap.push emptyDict).get? b=some o->a.get? b=some o:=λb o d e=>by rw[<-i,zag _ _ (Ne.symm d)];exact e
 have i:(s.heap.push emptyDict).Ns s.heap.objs.size (λ_=>none):=⟨emptyDict,#[],_,tJ s.heap rfl,rfl,(λe m=>absurd m (by simp)),λ_=>rfl⟩;have n2:a.Ns1 s.heap.objs.size (λ_=>none):=(Heap.Ns1.of_empty i).at λo q=>j _ o (Ne.symm l) q;refine zdP (a:=some s.heap.objs.size) (zdO (zdP (zdO ?_)));refine wpAny_nsSet1 (s:={s with heap:=a,toks:=s.toks+1}) n2 λh' a i=>?_;obtain⟨_,_,_,m,r,u⟩:=a.count (PySem.Within.cons name v PySem.Within.nil);refine zdO (wpAny_lookBehind m (by rw[r];exact pastItsLine_dict (tR u (by show 1<=zdR+1;decide))) ?_);refine zdP (h h' (s.toks+1+1) ((i.2 x l).trans p) a λb o d e=>?_);exact(i.2 b (tS (tH e))).trans (j b o d (tm _ e))
open PySem PySem.W Builtin Builtin.ObjectAttr
open PyProof.Rows hiding K lo
open PyProof.Rows hiding K lo
def zO(e C:Addr):HO:=.ext λh=>∃a,h.get? e=some {cls:=.ref C,data:=.fields a}/\a[1]?=some Value.none
def Q4(e C b:Addr)(hd:Value):HO:=.ext λh=>∃a,h.get? e=some {cls:=.ref C,dict:=some b,data:=.fields a}/\a[1]?=some hd
abbrev Zb(e C a:Addr):HO:=Q4 e C a .none
def JR:List Value:=[.type "ValueError",.type "Exception",.type "BaseException",.type "object"]
structure F0(K:zdM)(C f:Addr)(bm:List Value):Prop where
 obj:∃nm q N bs eW sn sub ab fi dd k0 k1 k2 k3 k5,K.lookup C=some (excClassObj nm q C N bs bm eW sn sub ab fi dd k0 k1 k2 k3 k5 "ValueError.__new__")
 tail:∀h:Heap,K.In h->OwnTail h JR bm
 init:tX K (.ref C) "__init__"=some (some (.ref f))
 fn:zbu K (.ref f)=true
 kp:zaD K (.ref C)=true
def AB{h:Heap}(b:∃a,h.get? e=some {cls:=.ref C,data:=.fields a}/\a[1]?=some Value.none):qI P w H h e (zO e C):=by
 obtain⟨a,q,z⟩:=b;exact⟨⟨a,q,z⟩,⟨_,q⟩,λ_ _ ⟨a,b,d⟩ k=>⟨a,k _ b,d⟩⟩
def ZW{h:Heap}(b:∃a,h.get? e=some {cls:=.ref C,dict:=some d,data:=.fields a}/\a[1]?=some hd):qI P w H h e (Q4 e C d hd):=by
 obtain⟨a,q,z⟩:=b;exact⟨⟨a,q,z⟩,⟨_,q⟩,λ_ _ ⟨a,b,d⟩ k=>⟨a,k _ b,d⟩⟩
def qv.excSet{h':Heap}{fs:List (Str×V)}(I:qv X l p H s)(d:H e=some (zO e C))(hd:s.heap.objs.size<=a)(h:∃i,h'.get? e=some {cls:=.ref C,dict:=some a,data:=.fields i}/\i[1]?=some Value.none)(r:∃j,h'.Ns1 a j/\∀f,Zq (fs.lookup f) (j f))(k:∀b o,b≠e->s.heap.get? b=some o->h'.get? b=some o):qv X l p (upd (upd H e (Zb e C a)) a (.xd fs)) {s with heap:=h',toks:=t'}:=by
 have j:B8 (H e):=by rw[d];exact trivial
 have l:∃u,h'.get? e=some u:=let ⟨_,q,_⟩:=h;⟨_,q⟩;have i:H a=none:=I.hok.fresh hd;have ne:a≠e:=λz=>by rw[z,d]at i;cases i
 have d:Un X.fs [] H (upd H e (Zb e C a)) s.heap h':=Un.write j (.inl rfl) k l;have W:Zd X.prog X.w (upd H e (Zb e C a)) h':=I.hok.write j (.inl rfl) k l (ZW h);have h:(upd H e (Zb e C a)) a=none:=by rw[qc ne];exact i
 have j:∀b o,s.heap.get? b=some o->b≠a:=λb o q=>tS (tF (tH q) hd);refine I.un ⟨d.keep,d.slot,λb o q n l=>?_,d.there,λb i q=>?_,λb o z q=>?_,λb p q=>?_⟩ λb o q=>?_
 ·rw[qc (j b o q)];exact d.free b o q n l
 ·have:=d.tups b i q;rw[qc (qj this h)];exact this
 ·have:=d.frzs b o z q;rw[qc (qj this h)];exact this
 ·obtain⟨m,j⟩:=d.tbls b p q;exact⟨m,by rw[qc (qj j h)];exact j⟩
 ·by_cases d:b=a
  ·subst d;rw[qa]at q;cases q;exact r
  ·rw[qc d]at q;exact(W b o q).stay (λ_ _ _ z=>z) (λc z=>by rw[qc (qj z h)];exact z) (λc i z=>by rw[qc (qj z h)];exact z) (λc o z=>by rw[qc (qj z h)];exact z)
def x8{Q:Unit->Shared->Prop}(I:qv X i j H s)(b:H e=some (zO e C))(c:NC X.K C bm)(l:ka bm)(n:Qu X.K C f)(m:qR y u)(h:∀a d,H a=none->qv X i j (upd (upd H e (Zb e C a)) a (.xd [(f,y)])) d->Q () d):wpAny (model X.prog X.w) A (setAttr (.ref e) f u) Q E s:=by
 obtain⟨⟨a,d,i⟩,_,_⟩:=(show qI X.prog X.w H s.heap e (zO e C) from I.hok e _ b);refine Kt I.kIn d rfl rfl ⟨a,rfl⟩ c l n λ_ tk d j l=>?_;refine h s.heap.objs.size _ (I.hok.fresh (tf _)) (I.excSet b (tf _) ⟨a,d,i⟩ ⟨_,j,λg=>?_⟩ l);by_cases a:g=f
 ·subst a;rw[zaA];simp only[beq_self_eq_true,if_true];exact m
 ·have b:(g==f)=false:=beq_eq_false_iff_ne.mpr a;rw[zaA];simp only[b,a,if_false];exact trivial
open PyProof.Rows hiding K lo
inductive Bx(K:zdM)(bm:List Value)(f:Str)(D:Jk)(σ:St)(y:V)(x:V)(H2:Hp):Prop
 | mk (a:_) (C:_):x=.ref a->H2 a=some (zO a C)->NC K C bm->ka bm->Qu K C f->(∀dx,H2 dx=none->D.nx σ (upd (upd H2 a (Zb a C dx)) dx (.xd [(f,y)])))->Bx K bm f D σ y x H2
def H0(K:zdM)(bm:List Value)(b d:TE)(f:Str):TS:=λD a H=>d a H λy d=>b a d λx b=>Bx K bm f D a y x b
def Rz{pos:Pos}(b:JE X o e)(d:JE X d8 i)(j:swapsWith d8 (some (.Attribute o f l)) pos.line X.env=pure false):JS X (.Assign [.Attribute o f l] d8 pos) (H0 X.K bm e i f):=.of (by
 have b:=b.to;have d:=d.to;intro i s e H D I h;refine plainObj_wpAny_Assign_Attribute (js (d i s e H _ I h) λu d ⟨y,l,m,p,q⟩=>
  js (b i d e l _ m q) λb _ ⟨x,_,d,i,a,_,ex,l,c,m,n,r⟩=>?_) j
 subst ex;obtain rfl:b=Value.ref a:=i;exact x8 d l c m n p λb _ d i=>⟨e,_,i,r b d⟩)
def wd{X:Cx}{Q:VK}(M:F0 X.K C m bm)(F:qp X.prog X.w X.K X.mg X.base CX k m L ps sp)(hr:jd (k+1) X.A)(O:jZ X.K L ps [])(T:Qt CX X E)(I:qv X j l H s)(r:qK vs us)(hz:us.length<=zdR)(h:∀x,H x=none->sp (.ref x::vs) (upd H x (zO x C)) (λv U=>v=.non/\Q (.ref x) U) E):
  wpAny (model X.prog X.w) X.A (call (.ref C) us) (EP X j l Q) X.xe s:=by
 obtain⟨nm,q,N,bs,ae,sn,sub,ab,af,dd,k0,k1,k2,k3,k5,Y⟩:=M.obj;have aa:zdL X.K (.ref m)=some (.type "function"):=beq_iff_eq.mp M.fn;obtain⟨oI,ho,ac⟩:=zbJ.mp aa;have b:=I.kIn;obtain⟨hp,g,d,tk,os⟩:=s;refine ui zcC (by decide+kernel) zcC (M.tail _ b) (b _ _ Y) (zdk b M.init) (b _ _ ho) ac (λo ex p y=>?_) hz;obtain⟨t0,ht,_,_⟩:=y.there;have i:qv X j l (upd H ex (zO ex C)) ⟨o,g,d,tk,os⟩:=I.laid (t':=tk) y.keeps p (AB ⟨_,ht,rfl⟩);have B:=h ex (I.hok.fresh p);have D:qK (V.ref ex::vs) (Value.ref ex::us):=.cons rfl r;have hl:(Value.ref ex::us++[]).length=ps.length:=by
  have e:=D.length;rw[F.len _ _ _ _ B]at e;rw[zak];exact e.symm
 have J:=O ⟨o,g,d,tk,os⟩ (Value.ref ex::us) i.kIn hl;rw[zak]at J;refine wpAny_call (codeAny_mono (F.run _ X.stack _ _ ⟨Value.ref ex::us,[]⟩ (Value.ref ex::us) _ _ E (hr.make C us []) (i.env0.make C us []) J D B) λr s' a=>?_);cases r with
 | error z=>exact T j l _ _ z s' i a
 | ok fl=>
  cases fl with
  | ret u=>
   obtain⟨v,H',I3,rv,ev,q3⟩:=i.after a;subst ev;exact⟨rv,⟨V.ref ex,H',I3,rfl,q3⟩⟩
  | next=>exact False.elim a
  | brk=>exact False.elim a
  | cont=>exact False.elim a
def zK{X:Cx}(M:F0 X.K C i bm)(F:qp X.prog X.w X.K X.mg X.base CX k i j ps sp)(hr:jd (k+1) X.A)(l:Gl X x)(m:X.mg x=some (.ref C))(o:jZ X.K j ps [])(u:Qt CX X E)(a:JA X (e::es) t)(hz:(e::es).length<=1000:=by decide)(y:∀vs us,qK vs us->vs.length<=zdR->us.length<=zdR:=by intro vs us r h;rw[<-r.length];exact h)(z:(x==("__debug__":Str))=false:=by decide)(B:starEach (e::es) X.env=(false,eval e X.env)::starEach es X.env:=by rfl)(D:(backTo pos (starEach es X.env)).any (·.1)=false:=by rfl):JE X (.Call (.Name x p) (e::es) [] pos) (λb H Q=>t b H λvs d=>vs.length<=zdR/\∀x,d x=none->sp (.ref x::vs) (upd d x (zO x C)) (λv J=>v=.non/\Q (.ref x) J) E):=.of (by
 have a:=a.to;intro i s b H Q I h;refine wpAny_Call_Name_kw (zD I l m ?_ z);refine zbn (h₀:=X.base) I.ok.mod.kin M.kp (js (a pos i s b H _ I h) λus _ ⟨vs,d,a,r,q⟩=>⟨a.kIn,?_⟩) B D;exact wd M F hr o u a r (y vs us r q.1) q.2)
open PyProof.Rows hiding K lo
mutual
inductive DV(K:zdM)(H:Hp):V->PyData->Prop
 | non:DV K H .non .none
 | bl (b:Bool):DV K H (.bl b) (.bool b)
 | int (i:Int):DV K H (.int i) (.int i)
 | str (x:Str):DV K H (.str x) (.str x)
 | lst {a:Addr} {xs:List V} {ds:List PyData}:Q6 K H a xs->DVs K H xs ds->DV K H (.ref a) (.list ds)
 | tup {a:Addr} {xs:List V} {ds:List PyData}:zZ K H a xs->DVs K H xs ds->DV K H (.ref a) (.tuple ds)
inductive DVs(K:zdM)(H:Hp):List V->List PyData->Prop
 | nil:DVs K H [] []
 | cons {x:V} {xs:List V} {d:PyData} {ds:List PyData}:DV K H x d->DVs K H xs ds->DVs K H (x::xs) (d::ds)
end
mutual
def DV.reads{X:Cx}{h:List (Addr×Obj)}{j:St}{H:Hp}{s:Shared}(I:qv X h j H s):∀{x:V} {d:PyData},DV X.K H x d->∀{u:Value},qR x u->∃as,Reads s.heap u d as
 | _,_,.non,u,h=>by cases (show u=Value.none from h);exact⟨_,.none⟩
 | _,_,.bl b,u,h=>by cases (show u=Value.bool b from h);exact⟨_,.bool b⟩
 | _,_,.int i,u,h=>by obtain⟨t,q⟩:=(show ∃t,u=Value.int i t from h);subst q;exact⟨_,.int i t⟩
 | _,_,.str x,u,h=>by obtain⟨t,q⟩:=(show ∃t,u=Value.str x t from h);subst q;exact⟨_,.str x t⟩
 | _,_,.lst (a:=a) j l,u,h=>by
  cases (show u=Value.ref a from h);obtain⟨v,m,⟨y,n,e,o,hd,p⟩,z⟩:=I.list j;obtain⟨as,r⟩:=DVs.reads I l m;exact⟨_,.list e o p (by simpa using r)⟩
 | _,_,.tup (a:=a) j l,u,h=>by
  cases (show u=Value.ref a from h);obtain⟨v,m,⟨y,e,o,n,p⟩,z⟩:=I.tuple j;obtain⟨as,r⟩:=DVs.reads I l m;exact⟨_,.tuple e o p (by simpa using r)⟩
def DVs.reads{X:Cx}{e:List (Addr×Obj)}{i:St}{H:Hp}{s:Shared}(I:qv X e i H s):∀{xs:List V} {d:List PyData},DVs X.K H xs d->∀{us:List Value},qK xs us->∃as,ReadsAll s.heap us d as
 | _,_,.nil,_,.nil=>⟨_,.nil⟩
 | _,_,.cons h d,_,.cons e i=>by
  obtain⟨as,a⟩:=DV.reads I h e;obtain⟨bs,b⟩:=DVs.reads I d i;exact⟨_,.cons a b⟩
end
open PyProof.Rows hiding K lo
def vb{x:Str}(a:x.length<=1000)(b:0<=n)(d:n<=1000):MulOk x n:=by
 refine⟨?_,λh _=>?_,λh _=>?_⟩
 ·rw[decide_eq_false (by omega),decide_eq_false (by omega)];rfl
 ·intro z;have q:(1000:Int)<=(2^63 - 1) / n:=by
   rw[Int.le_ediv_iff_mul_le (by omega)];omega
  omega
 ·unfold Builtin.Str.tooLong;refine decide_eq_false ?_;have q:x.length*n.toNat<=1000*1000:=zbV a (by omega);have e:(1000000:Nat) < zdR:=by decide
  omega
inductive K2(x:V)(y:V)(H:Hp)(Q:VK):Prop
 | mk (z:_) (n:_):x=.str z->y=.int n->(z.length<=1000)->(0<=n)->(n<=1000)->(Q (.str (Txt.mul z n)) H)->K2 x y H Q
def K3:R2:=λx y H Q=>K2 x y H Q
def y0:Z0 X (binaryOp .Mult) K3:=by
 intro _ s _ H x y v u Q I a b h;obtain⟨z,n,rfl,rfl,d,e,i,q⟩:=h;obtain⟨t,rfl⟩:=a;obtain⟨_,rfl⟩:=b;exact SB.mul (vb d e i) λt k=>⟨.str _,H,I.tok k,⟨t,rfl⟩,q⟩
open PyProof.Rows hiding K lo
def F7(i j:Int):Prop:=0 < j/\j.natAbs < 2^200
def Go:Z0 X (binaryOp .FloorDiv) (rI F7 λi j=>.int (i / j)):=CU λi j _ _ _ _ _ a q=>by
 have b:(0:Int) < j:=a.1;have b:j.natAbs.log2 < 200:=(Nat.log2_lt (by omega)).mpr a.2;exact floordiv_int (by omega) (by rw[zbU i (by omega)];exact q) (.inl (PyProof.noPylong_of_log2 (zdC b (by decide))))
def wG:FV X "int.bit_length" (λx xs H Q=>∃i,x=.int i/\xs=[]/\Q (.int (Builtin.Int.intBits i)) H):=by
 intro _ s _ H x xs v _ Q I a b h;obtain⟨i,rfl,rfl,q⟩:=h;obtain⟨t,rfl⟩:=a;cases b;exact call_int_bit_length ⟨.int _,H,I.tok _,⟨_,rfl⟩,q⟩
end L2
namespace PySem
def Xw(x n c:Int):Obj:={cls:=.type "range_iterator",data:=.fields #[rawInt x,rawInt n,rawInt c]}
def yN(n:Nat):Builtin.Range.rangeSize 0 n 1=n:=by
 unfold Builtin.Range.rangeSize;rw[if_pos (by decide)];split<;>omega
def X0{s:Shared}{Q:Value->Shared->Prop}(hr:IsRange s.heap r a b c t u v)(d:(Builtin.Range.rangeFitsLong a&&Builtin.Range.rangeFitsLong b&&Builtin.Range.rangeFitsLong c&&Builtin.Range.rangeFitsLong (-c)&&Builtin.Range.rangeFitsLong (a - c)&&Builtin.Range.rangeFitsLong (Builtin.Range.rangeSize a b c))=true)(h:Q (.ref s.heap.objs.size) {s with heap:=s.heap.push (Xw (a+(Builtin.Range.rangeSize a b c - 1)*c) (Builtin.Range.rangeSize a b c) (-c))}):wpAny (model prog w) A (call (.builtin "range.__reversed__") [.ref r]) Q E s:=by
 have ty:s.TypeIs (.ref r) "range":=⟨_,hr,rfl⟩;refine wpAny_call_entry F.slot_range_reversed ty F.entry_range_reversed ?_ (F.args_range_reversed_1 _);unfold Builtin.«range.__reversed__»;refine zdO (wpAny_of_eq (a:=Value.ref r) rfl ?_);refine zdO ?_;unfold Builtin.Range.rangeFields;refine zdO (wpAny_field hr rfl (x:=.int a t) rfl ?_);refine zdO (m:=asInt? (.int a t)) (zdP ?_);refine zdO (wpAny_field hr rfl (x:=.int b u) rfl ?_);refine zdO (m:=asInt? (.int b u)) (zdP ?_);refine zdO (wpAny_field hr rfl (x:=.int c v) rfl ?_);refine zdO (m:=asInt? (.int c v)) (zdP ?_);refine zdP ?_
 try dsimp only
 rw[d];simp only[Bool.not_true,zaO,if_false,if_true]
 first
 | refine zdO (wpAny_newObj_type (zdP ⟨_,rfl,h⟩))
 | refine zdO (zdP (zdO (wpAny_newObj_type (zdP ⟨_,rfl,h⟩))))
def Z4{prog:Program}{w:World}{A:Around}{E:Value->Shared->Prop}{s:Shared}{r:Addr}{n:Nat}{t u v:Tok}{Q:Value->Shared->Prop}(hr:IsRange s.heap r 0 n 1 t u v)(a:n < 1048576)
  (h:Q (.ref s.heap.objs.size) {s with heap:=s.heap.push (Xw ((n:Int) - 1) n (-1))}):wpAny (model prog w) A (call (.builtin "range.__reversed__") [.ref r]) Q E s:=by
 have f:∀x:Int,-2000000<=x->x<=2000000->Builtin.Range.rangeFitsLong x=true:=λx _ q=>by
  unfold Builtin.Range.rangeFitsLong;simp;omega
 have e:=yN n;have a:(Builtin.Range.rangeFitsLong 0&&Builtin.Range.rangeFitsLong (n:Int)&&Builtin.Range.rangeFitsLong 1&&Builtin.Range.rangeFitsLong (-1)&&Builtin.Range.rangeFitsLong (0 - 1)&&Builtin.Range.rangeFitsLong (Builtin.Range.rangeSize 0 n 1))=true:=by
  rw[e,f 0 (by omega) (by omega),f n (by omega) (by omega),f 1 (by omega) (by omega),f (-1) (by omega) (by omega),f (0 - 1) (by omega) (by omega)];rfl
 refine X0 hr a ?_;have a:(0:Int)+(Builtin.Range.rangeSize 0 n 1 - 1)*1=(n:Int) - 1:=by rw[e];omega
 rw[a,e];exact h
def zm{prog:Program}{w:World}{A:Around}{E:Value->Shared->Prop}{s:Shared}{r:Addr}{n:Nat}{t u v:Tok}{Q₁:Value->Shared->Prop}(hr:IsRange s.heap r 0 n 1 t u v)(a:n < 1048576)
  (h:Q₁ (.ref s.heap.objs.size) {s with heap:=s.heap.push (Xw ((n:Int) - 1) n (-1))}):
  codeAny (model prog w) A (.call (.builtin "reversed.__new__") ⟨[.type "reversed",.ref r],[]⟩) (wants Q₁ E) s:=by
 have ty:s.TypeIs (.ref r) "range":=⟨_,hr,rfl⟩;have b:¬((Value.builtin "range.__reversed__"==Value.none)=true):=tI;refine codeAny_of_tree (show wpAny _ A.in1 (checkBuiltinCall "reversed.__new__" ⟨[.type "reversed",.ref r],[]⟩ >>= λ_=>again (.builtin "reversed.__new__" ⟨[.type "reversed",.ref r],[]⟩)) _ _ s from
  zdO (wpAny_of_eq (F.newCall_reversed_1 (.ref r)) (zdP ⟨plainId_quiet F.plain_reversed_new _,codeAny_builtin F.entry_reversed_new ?_⟩)))
 rw[Around.under_plainId F.plain_reversed_new _];unfold Builtin.«reversed.__new__»;refine zdO (wpAny_of_eq (newClass_reversed (.ref r)) ?_);dsimp only;refine zdO (wpAny_of_eq (a:=()) (by kernel_rfl) (zdO (wpAny_of_eq (a:=()) (by kernel_rfl) ?_)));try dsimp only
 refine zdO (wpAny_specialOf ty F.slot_range_reversed.lookup ?_);dsimp only;refine zdO (wpAny_of_eq (F.slot_range_reversed.bind _) ?_);dsimp only;rw[if_neg b];refine zdO (wpAny_rule (zdO (m:=runValue (.call (.builtin "range.__reversed__") ⟨[.ref r],[]⟩)) (show wpAny _ _ (call (.builtin "range.__reversed__") [.ref r]) _ _ _ from Z4 hr a ?_)))
 first | exact zdP h | exact zdO (zdP (zdP h))
def YM:isSubtype (.type "range_iterator") (.type "reversed")=pure false:=by rw[isSubtype_type];kernel_rfl
def Z3{prog:Program}{w:World}{A:Around}{E:Value->Shared->Prop}{s:Shared}{r:Addr}{n:Nat}{t u v:Tok}{Q:Value->Shared->Prop}(hr:IsRange s.heap r 0 n 1 t u v)(b:n < 1048576)
  (h:Q (.ref s.heap.objs.size) {s with heap:=s.heap.push (Xw ((n:Int) - 1) n (-1))}):wpAny (model prog w) A (call (.type "reversed") [.ref r]) Q E s:=by
 refine callType_other (U:="range_iterator") (Q₁:=λobj a=>obj=.ref s.heap.objs.size/\a={s with heap:=s.heap.push (Xw ((n:Int) - 1) n (-1))}) (by decide+kernel) F.create_reversed ⟨_,_,F.mro_reversed⟩ F.made_reversed YM (F.typeCall_reversed_1 _) (zm hr b ⟨rfl,rfl⟩) ?_;rintro obj a ⟨rfl,rfl⟩;exact⟨⟨_,tJ _ rfl,rfl⟩,h⟩
def V9{s:Shared}{Q:Value->Shared->Prop}(eS:IsRangeIter s.heap I x left c)(h:Q (.int left s.toks) {s with toks:=s.toks+1}):
  wpAny (model prog w) A (call (.builtin "range_iterator.__length_hint__") [.ref I]) Q E s:=by
 have a:s.TypeIs (.ref I) "range_iterator":=⟨_,eS,rfl⟩;refine wpAny_call_entry F.slot_range_iterator_length_hint a F.entry_range_iterator_length_hint ?_ (F.args_range_iterator_length_hint_1 _);unfold Builtin.«range_iterator.__length_hint__»;refine zdO (wpAny_of_eq (a:=Value.ref I) rfl ?_);refine zdO (wpAny_field eS rfl (x:=rawInt left) rfl ?_);show wpAny _ _ (do ret (<-mkInt left)) _ _ _;exact wpAny_ret_mkInt h
structure kU(P:Program)(w:World)(T:String)(I:Addr)(fp:List Addr)(n:Nat)(V:Nat->Value->Prop)(St:Nat->Heap->Prop):Prop where
 ty:∀z:Shared,St 0 z.heap->z.TypeIs (.ref I) T
 nl:(Value.type T==Value.type "list")=false
 nt:(Value.type T==Value.type "tuple")=false
 walk:∀B:Around,B.handled=none->Walks P w B I fp [I] n V St
 hint:∀(B:Around) (F:Value->Shared->Prop) (z:Shared) (R:Bool->Shared->Prop),St 0 z.heap->(∀k,R false {z with toks:=k})->wpAny (model P w) B (Builtin.List.listLengthHint (.ref I)) R F z
def kU.list(a:kU P w T I fp n V St){B:Around}{z:Shared}{R:Value->Shared->Prop}(i:B.handled=none)(st:St 0 z.heap)(mem:I∈fp)(eG:∀b∈fp,b < z.heap.objs.size)(d:n<=1048576)(k:∀g tk xs c,(∀b o,b≠I->z.heap.get? b=some o->g.get? b=some o)->g.get? z.heap.objs.size=some (⟨.type "list",none,.seq xs c,#[]⟩:Obj)->ItemsOf V xs n->R (.ref z.heap.objs.size) {z with heap:=g,toks:=tk}):
  wpAny (model P w) B (call (.type "list") [.ref I]) R p z:=by
 have m:∀b∈fp,z.heap.objs.size≠b:=λb d=>zbz (eG b d);have r:Builtin.List.listSameRef (.ref z.heap.objs.size) (.ref I)=false:=by unfold Builtin.List.listSameRef;simp [m I mem]
 refine callType_codes (Q₁:=λh j=>j={z with heap:=z.heap.push {cls:=.type "list",data:=.seq #[]}}/\h=.ref z.heap.objs.size) F.called_list (F.typeCall_list_1 _) F.entry_list_init (code_list_new _ ⟨rfl,rfl⟩) ?_;rintro h j ⟨rfl,rfl⟩;have h:=tJ z.heap (o:=({cls:=.type "list",data:=.seq #[]}:Obj)) rfl;refine⟨⟨_,h,rfl⟩,F.args_list_init_2 _ _,?_⟩;show wpAny _ _ (Builtin.List.listItems (.ref _) >>= λj=>Builtin.List.listUpdate (.ref _) (λ_=>#[]) >>= λ_=>letGo j.toList.reverse >>= λ_=>Builtin.List.listExtendWith (.ref _) (.ref I) .none) _ _ _;refine zdO (show wpAny _ _ (Builtin.List.listItems (.ref _)) _ _ _ from ?_);unfold Builtin.List.listItems;refine zdO (wpAny_seqItems h rfl (zdP (zdO ?_)));refine wpAny_updateSeq h rfl (zdO (wpAny_letGo ?_));have j:=zaw (Obj.mapSeq (λ_=>(#[]:Array Value))) h rfl;have l:∀b o,z.heap.get? b=some o->((z.heap.push {cls:=.type "list",data:=.seq #[]}).update z.heap.objs.size (Obj.mapSeq (λ_=>(#[]:Array Value)))).get? b=some o:=λb o e=>
  (zag _ _ (zbz (tH e))).trans (tm _ e)
 generalize h:(z.heap.push {cls:=.type "list",data:=.seq #[]}).update z.heap.objs.size (Obj.mapSeq (λ_=>(#[]:Array Value)))=g1 at j l;have h:St 0 g1:=(a.walk B i).frame 0 _ _ st λb _ o e=>l b o e;unfold Builtin.List.listExtendWith;refine zdO (wpAny_typeOf (a.ty {z with heap:=g1} h) ?_);simp only[r,a.nl,a.nt,Bool.or_false,zaO,if_false];refine zdO ((a.walk B.in1.in1 i).self 0 {z with heap:=g1} _ _ h ?_);refine zdO (wpAny_holding (a.hint B.in1.in1 _ {z with heap:=g1} _ h λtk=>?_));have run:∀(g:Heap) (c tk:Nat),St 0 g->(∀b o,z.heap.get? b=some o->g.get? b=some o)->g.get? z.heap.objs.size=some {cls:=.type "list",data:=.seq #[] c}->
   codeAny (model P w) B.in1 (.builtin "list.extend.loop" ⟨[.ref z.heap.objs.size,.ref I,.none],[]⟩) (wants (λr u=>r=.none/\R (.ref z.heap.objs.size) u) p) {z with heap:=g,toks:=tk}:=λg c tk p r u=>
  codeAny_extend_loopS (a.walk B.in1.in1 i).toS (by rw[sizeLine_eq];omega) _ (λq=>m _ q rfl) .none n 0 _ #[] c rfl (zat _) p u (ItemsOf.nil _) λp xs u mv v x=>by
   rw[Moved.eq_with mv];refine⟨rfl,k p.heap p.toks xs u (λb o d e=>mv.heap b o (λq=>?_) (r b o e)) v x⟩;rcases tL.mp q with q | q
   ·exact absurd q (tS (tH e))
   ·exact d (tK.mp q)
 refine wpAny_ite_split (λ_=>?_) (λ_=>zdP ⟨plainId_quiet F.plain_extend_loop _,run g1 _ tk h l j⟩);refine zdO (wpAny_rule (zdO (show wpAny _ _ (updateSeq z.heap.objs.size (·.push .none) >>= λ_=>updateSeq z.heap.objs.size (·.pop)) _ _ _ from zdO (wpAny_updateSeq j rfl ?_))));have p:=zaw (Obj.mapSeq (·.push Value.none)) j rfl;refine wpAny_updateSeq (hz:=by seq_fits) p rfl ?_;have j:∀b o,b≠z.heap.objs.size->g1.get? b=some o->((g1.update z.heap.objs.size (Obj.mapSeq (·.push Value.none))).update z.heap.objs.size (Obj.mapSeq (·.pop))).get? b=some o:=λb o d e=>
  (zag _ _ (Ne.symm d)).trans ((zag _ _ (Ne.symm d)).trans e)
 exact zdP ⟨plainId_quiet F.plain_extend_loop _,run _ _ tk ((a.walk B i).frame 0 _ _ h λb d o e=>j b o (λq=>m b d q.symm) e) (λb o e=>j b o (tS (tH e)) (l b o e)) (zaw (Obj.mapSeq (·.pop)) p rfl)⟩
def x9(hn:n<=1048576):kU P w "range_iterator" I [I] n (λi v=>∃t,v=.int (x+i*c) t) (λi h=>IsRangeIter h I (x+(i:Nat)*c) ((n:Int) - (i:Nat)) c) where
 ty:=λ_ st=>⟨_,st,rfl⟩
 nl:=by decide
 nt:=by decide
 walk:=λ_ hB=>Walks.range hB I x c n
 hint:=λB G z R st k=>by
  have fk:IsRangeIter z.heap I x n c:=by
   have e1:x+((0:Nat):Int)*c=x:=by simp
   have e2:(n:Int) - ((0:Nat):Int)=n:=by simp
   rw[<-e1,<-e2];exact st
  have ty:z.TypeIs (.ref I) "range_iterator":=⟨_,fk,rfl⟩;have few:Builtin.List.listTooLong ((n:Int).toNat)=false:=by unfold Builtin.List.listTooLong;rw[zaj];exact decide_eq_false (by rw[sizeLine_eq];omega)
  unfold Builtin.List.listLengthHint;refine zdO (wpAny_specialOf ty F.nolen_ra ?_);refine(show wpAny _ B (specialOf (.ref I) (zdN "__length_hint__") >>= _) _ _ _ from zdO (wpAny_specialOf ty F.hint_ra ?_))
  (generalize hq:("range_iterator.__length_hint__":String)=q0;(fail_if_success (clear hq q0));wp_delta;rw[show splitId q0=some ("range_iterator","__length_hint__") from by subst hq;decide+kernel];subst hq)
  refine zdO (wpAny_isInstance (b:=true) ty (by rw[isSubtype_type];kernel_rfl) ?_);refine(show wpAny _ B (call (.builtin "range_iterator.__length_hint__") [.ref I] >>= _) _ _ _ from zdO (V9 fk (zdO (m:=asInt? (.int (n:Int) _)) (zdP ?_))))
  try dsimp only
  rw[if_neg (by rw[few];decide)];exact zdP (k _)
end PySem
namespace L2
open PySem PySem.Spec
open PyProof.Rows hiding K lo
def zS(n:Nat):List Nat:=(tQ n).reverse
def xQ{n:Nat}{e:Array Value}(h:ItemsOf (λi v=>∃t,v=.int ((n:Int) - 1+i*(-1)) t) e n):qK ((zS n).map λi=>V.int (i:Nat)) e.toList:=by
 obtain⟨m,o⟩:=h;have ed:∀(b:List V) (a:List Value),b.length=a.length->(∀(i:Nat) (x:V) (u:Value),b[i]?=some x->a[i]?=some u->qR x u)->qK b a:=by
  intro b;induction b with
  | nil=>intro a d _;cases a with | nil=>exact .nil | cons _ _=>cases d
  | cons x b p=>
   intro a d l;cases a with
   | nil=>cases d
   | cons u a=>exact .cons (l 0 x u rfl rfl) (p a (by simpa using d) λi y w b j=>l (i+1) y w (by simpa using b) (by simpa using j))
 refine ed _ _ (by simp [zS,m]) λi x u b j=>?_;have a:e[i]?=some u:=by simpa using j
 obtain⟨t,rfl⟩:=o i u a;have d:i < n:=by
  have:=(zaa.mp a).1;omega
 rw[tw,zS,List.getElem?_reverse (by simpa using d),zaf,zbt (by omega)]at b;simp at b;subst b;refine⟨t,?_⟩;congr 1;omega
def u1{R:List Value->Shared->Prop}(b:starEach [e] env=[(false,eval e env)])(h:wpAny M A (eval e env) (λv a=>R [v] a) E s):
  wpAny M A (spliced (backTo pos (starEach [e] env))) R E s:=by
 rw[b];show wpAny _ _ (spliced ((false,eval e env)::backTo pos [])) _ _ s;exact Calls.spliced_cons (js h λu a a=>Calls.spliced_nil a)
inductive A3(Q:VK)(x:V)(H1:Hp):Prop
 | mk (n:Nat):x=.int n->(n<=1000)->(∀l,H1 l=none->Q (.ref l) (upd H1 l (.lst ((zS n).map λi=>V.int (i:Nat)))))->A3 Q x H1
def Ho(te:TE):TE:=λa H Q=>te a H λx a=>A3 Q x a
def Du{X:Cx}(v:X.calm=true)(g1:Gl X "list")(y:X.mg "list"=none)(g2:Gl X "reversed")(z:X.mg "reversed"=none)(g3:Gl X "range")(B:X.mg "range"=none)(j:JE X e te)(l:starEach [e] X.env=[(false,eval e X.env)]:=by rfl)(m:starEach [.Call (.Name "range" a) [e] [] d] X.env=[(false,eval (.Call (.Name "range" a) [e] [] d) X.env)]:=by rfl)(o:starEach [.Call (.Name "reversed" p) [.Call (.Name "range" a) [e] [] d] [] r] X.env=[(false,eval (.Call (.Name "reversed" p) [.Call (.Name "range" a) [e] [] d] [] r) X.env)]:=by rfl):JE X (.Call (.Name "list" C) [.Call (.Name "reversed" p) [.Call (.Name "range" a) [e] [] d] [] r] [] D) (Ho te):=.of (by
 have j:=j.to;intro a s d H Q I h;refine Call_ (J1 I g1 y boot_list (PyProof.Rows.callWith_type1 (u1 o ?_) (by rw[o];rfl) rfl));refine Call_ (J1 I g2 z boot_reversed (PyProof.Rows.callWith_type1 (u1 m ?_) (by rw[m];rfl) rfl));refine Call_ (J1 I g3 B boot_range (PyProof.Rows.callWith_type1 (u1 l (js (j a s d H _ I h) λu a ⟨x,_,j,d,m⟩=>?_)) (by rw[l];rfl) rfl));obtain⟨n,rfl,o,q⟩:=m;obtain⟨t,rfl⟩:=d;refine call_range_1 ?_;refine Z3 (IsRange.new ..) (by omega) ?_;refine(x9 (x:=(n:Int) - 1) (c:=-1) (n:=n) (by omega)).list (j.ok.hd v) (by
  have d:(n:Int) - 1+((0:Nat):Int)*(-1)=(n:Int) - 1:=by simp
  have l:(n:Int) - ((0:Nat):Int)=n:=by simp
  rw[d,l];exact tJ _ rfl) (by simp) (λb d=>by rw[tK.mp d,zbf (_:Heap) (Xw _ _ _)];exact zba _) (by omega) λm tk p r v e y=>?_
 have z:∀b d,a.heap.get? b=some d->m.get? b=some d:=λb d l=>by
  refine v b d (tS ?_) (tm _ (tm _ l));rw[zbf];exact zci (tH l)
 have d:a.heap.objs.size<=((a.heap.push ({cls:=.type "range",data:=.fields #[.int 0 a.toks,.int n t,.int 1 (a.toks+1)]}:Obj)).push (Xw ((n:Int) - 1) n (-1))).objs.size:=by
  rw[zbf,zbf];omega
 exact⟨.ref _,_,j.laid (t':=tk) (o:=.lst ((zS n).map λi=>V.int (i:Nat))) z d ⟨by simp only[ta,zS,zbZ,zaf];exact zac (qh o),p.toList,r,xQ y,by simpa using e⟩,rfl,q _ (j.hok.fresh d)⟩)
end L2
namespace PySem
namespace F
end F
end PySem
namespace L2
open PySem PySem.Spec
open PyProof.Rows hiding K lo
def WM:∀(xs:List V) (us:List Value),xs.length=us.length->(∀(i:Nat) (x:V) (u:Value),xs[i]?=some x->us[i]?=some u->qR x u)->qK xs us:=by
 intro xs;induction xs with
 | nil=>intro us a _;cases us with | nil=>exact .nil | cons _ _=>cases a
 | cons x xs d=>
  intro us a b;cases us with
  | nil=>cases a
  | cons u us=>exact .cons (b 0 x u rfl rfl) (d us (by simpa using a) λi y w e h=>b (i+1) y w (by simpa using e) (by simpa using h))
open PyProof.Rows hiding K lo
def qv.turnLaid{X:Cx}{a:List (Addr×Obj)}{d:St}{H:Hp}{s:Shared}{h':Heap}{L:List Addr}{T:Addr}{o:HO}{t':Nat}(I:qv X a d H s)(k:∀b u,b∉L->s.heap.get? b=some u->h'.get? b=some u)(h:∀b∈L,zt X a H b)(hp:s.heap.objs.size<=T)
  (new:qI X.prog X.w (upd H T o) h' T o):qv X a d (upd H T o) {s with heap:=h',toks:=t'}:=by
 have a:H T=none:=I.hok.fresh hp;have up:∀b u,H b=some u->upd H T o b=some u:=λb u e=>by rw[qc (qj e a)];exact e
 have i:∀b u,H b=some u->b∉L:=λb u e z=>by rw[(h b z).1]at e;cases e
 refine I.step (g':=s.gens) (d':=s.drawn) (ch:=L) (λb d=>?_) (λb o _ _ a e _=>k b o a e) (λb o _ _ a e _=>⟨o.slots,k b o a e⟩) (λb _ a e n=>?_)
  (λb o a e=>⟨o,k b o a e⟩) (λb j e=>up b _ e) (λb o u e=>up b _ e) (λb _ e=>⟨#[],by rw[up b _ e];simp⟩) (λm l=>?_) (λb u e=>?_) I.bare
 ·obtain⟨_,f1,f2,p,r,x⟩:=h b d;exact⟨p,f1,r,x⟩
 ·have:b≠T:=tS (tF (tH e) hp);rw[qc this];exact n
 ·obtain⟨o,p,r,x,y⟩:=l;exact⟨o,p,r,k _ o (λz=>(h _ z).2.1 rfl) x,y⟩
 ·by_cases d:b=T
  ·subst d;rw[qa]at e;cases e;exact new
  ·rw[qc d]at e;refine(I.hok b u e).stay (λc v a q=>k c v ?_ q) (λc q=>up c _ q) (λc j q=>up c _ q) (λc o q=>up c _ q);rcases a with z | z
   ·rw[z];exact i b u e
   ·exact i c _ z
def qv.turnedL{X:Cx}{a:List (Addr×Obj)}{d:St}{H:Hp}{s:Shared}{h':Heap}{L:List Addr}{t':Nat}(I:qv X a d H s)(k:∀b u,b∉L->s.heap.get? b=some u->h'.get? b=some u)(h:∀b∈L,zt X a H b):qv X a d H {s with heap:=h',toks:=t'}:=by
 have i:∀b u,H b=some u->b∉L:=λb u e z=>by rw[(h b z).1]at e;cases e
 refine I.step (g':=s.gens) (d':=s.drawn) (ch:=L) (λb j=>?_) (λb a _ _ d e _=>k b a d e) (λb a _ _ d e _=>⟨a.slots,k b a d e⟩) (λ_ _ _ _ n=>n)
  (λb a d e=>⟨a,k b a d e⟩) (λ_ _ e=>e) (λ_ _ _ e=>e) (λb _ e=>⟨#[],by rw[e];simp⟩) (λm l=>?_) (λb u e=>?_) I.bare
 ·obtain⟨_,f1,f2,o,p,r⟩:=h b j;exact⟨o,f1,p,r⟩
 ·obtain⟨a,j,o,p,r⟩:=l;exact⟨a,j,o,k _ a (λz=>(h _ z).2.1 rfl) p,r⟩
 ·refine(I.hok b u e).stay (λc v d q=>k c v ?_ q) (λ_ q=>q) λ_ _ q=>q;rcases d with z | z
  ·rw[z];exact i b u e
  ·exact i c _ z
open PyProof.Rows hiding K lo
def Wt:∀{cs:List Addr} {us:List Value},qK (cs.map V.ref) us->us=cs.map Value.ref
 | [],_,.nil=>rfl
 | c::cs,u::us,.cons a t=>by
  obtain rfl:u=Value.ref c:=a;rw[tM,Wt t]
inductive BI(K:zdM)(x:V)(y:V)(H:Hp)(Q:VK):Prop
 | mk (d:_) (d':_):DV K H x d->DV K H y d'->PySem.SeqAt.shaped d=true->PySem.SeqAt.shaped d'=true->(Q (.bl (PyData.eqv d d')) H)->BI K x y H Q
def Ie(K:zdM):R2:=λx y H Q=>BI K x y H Q
def VM{X:Cx}(hu:X.A.units+64 < cLine):Z0 X (compareOp .Eq) (Ie X.K):=by
 intro _ s _ H x y v u Q I a b h;obtain⟨d,_,e,i,j,l,q⟩:=h;obtain⟨as,m⟩:=e.reads I a;obtain⟨bs,a⟩:=i.reads I b;exact eq_dataH m a j l hu ⟨.bl _,H,I,rfl,q⟩
def uN(C j:Addr)(m:Str)(sp l:Sp)(b:TE)(t:TA):TE:=λd H Q=>b d H λx b=>∃a i fs,x=.ref a/\fs.lookup m=none/\
 ((b a=some (.ins C i fs)/\t d b λe h=>sp (x::e) h Q E0)\/(b a=some (.ins j i fs)/\t d b λe h=>l (x::e) h Q E0))
def RF(b:JE X o l)(c:Xc X.K C)(v:Wn X.K C m f)(F:qp X.prog X.w X.K X.mg X.base jh k f p ps sp)(hr:jd k X.A)(U:jZ X.K p ps [])(Y:Xc X.K i)(B:Wn X.K i m y)(F':qp X.prog X.w X.K X.mg X.base jh z y L O T)(aa:jd z X.A)(ab:jZ X.K L O [])(d:JA X (e::es) t)(D:starEach (e::es) X.env=(false,eval e X.env)::starEach es X.env:=by rfl)(J:(backTo pos (starEach es X.env)).any (·.1)=false:=by rfl)(ht:eval (.Call (.Attribute o m b_) (e::es) [] pos) X.env=(eval o X.env >>= λj=>standAt b_.atName >>= λ_=>holding [j] (getMethod j m pl) >>= λr=>callWith pos r.1 r.2 (backTo pos (starEach (e::es) X.env)) (backToKw pos (keywordEach [] X.env))):=by rfl):JE X (.Call (.Attribute o m b_) (e::es) [] pos) (uN C i m sp T l t):=.of (by
 have b:=b.to;have d:=d.to;intro j s l H Q I h;refine zbR (pl:=pl) (js (b j s l H _ I h) λu L ⟨x,O,i,b,a,_,fs,ex,T,q⟩=>?_) ht;subst ex;obtain rfl:u=Value.ref a:=b;rcases q with ⟨p,q⟩ | ⟨p,q⟩
 ·refine QZ i p c v T (zbn (first:=[.ref a]) (h₀:=X.base) I.ok.mod.kin v.kp (js (d pos j L l O _ i q) λv s2 ⟨y,H2,b,r,z⟩=>⟨b.kIn,?_⟩) D J);exact ze (us:=.ref a::v) (vs:=.ref a::y) F hr U .nil Qi b (.cons rfl r) (by simpa using z)
 ·refine QZ i p Y B T (zbn (first:=[.ref a]) (h₀:=X.base) I.ok.mod.kin B.kp (js (d pos j L l O _ i q) λv s2 ⟨y,H2,b,r,z⟩=>⟨b.kIn,?_⟩) D J);exact ze (us:=.ref a::v) (vs:=.ref a::y) F' aa ab .nil Qi b (.cons rfl r) (by simpa using z))
def Ym(b:JE X o l)(c:Xc X.K C)(e:Wn X.K C m f)(F:qp X.prog X.w X.K X.mg X.base jh k f p ps sp)(hr:jd k X.A)(v:jZ X.K p ps [])(y:Xc X.K d)(i:Wn X.K d m z)(B:qp X.prog X.w X.K X.mg X.base jh D z J L O)(T:jd D X.A)(U:jZ X.K J L [])(Y:eval (.Call (.Attribute o m b_) [] [] pos) X.env=(eval o X.env >>= λj=>standAt b_.atName >>= λ_=>holding [j] (getMethod j m pl) >>= λr=>callWith pos r.1 r.2 (backTo pos (starEach [] X.env)) (backToKw pos (keywordEach [] X.env))):=by rfl):JE X (.Call (.Attribute o m b_) [] [] pos) (uN C d m sp O l jJ):=.of (by
 have b:=b.to;intro d s j H Q I h;refine zbR (pl:=pl) (js (b d s j H _ I h) λu _ ⟨x,_,b,d,a,_,fs,ex,j,q⟩=>?_) Y;subst ex;obtain rfl:u=Value.ref a:=d;rcases q with ⟨d,q⟩ | ⟨d,q⟩
 ·exact QZ b d c e j (zcw (first:=[.ref a]) b.kIn e.kp (ze (us:=[.ref a]) (vs:=[.ref a]) F hr v .nil Qi b (.cons rfl .nil) q))
 ·exact QZ b d y i j (zcw (first:=[.ref a]) b.kIn i.kp (ze (us:=[.ref a]) (vs:=[.ref a]) B T U .nil Qi b (.cons rfl .nil) q)))
def Y8{t':TE}(h:JE X e te)(k:∀a H Q,t' a H Q->te a H Q):JE X e t':=.of (by
 have h:=h.to;exact λb s a H Q I q=>h b s a H Q I (k a H Q q))
def tWk(te:TE):TE:=λa H Q=>∃G:VK,te a H G/\∀x a,G x a->Q x a
def xi(h:JE X e te):JE X e (tWk te):=.of (by
 have h:=h.to;intro a s b H Q I ⟨G,g,k⟩;exact js (h a s b H G I g) λv _ ⟨x,a,b,d,i⟩=>⟨x,a,b,d,k x a i⟩)
def aWk(t:TA):TA:=λa H Q=>∃G:List V->Hp->Prop,t a H G/\∀a b,G a b->Q a b
def FF(h:JA X es t):JA X es (aWk t):=.of (by
 have h:=h.to;intro pos a s b H Q I ⟨G,g,k⟩;exact js (h pos a s b H G I g) λ_ _ ⟨a,b,d,e,i⟩=>⟨a,b,d,e,k a b i⟩)
open PySem PySem.Spec PySem.W
open PyProof.Rows hiding K lo
def BT:∀(f n r:Nat),r<=1->minRun' f n r<=n+r
 | 0,n,r,_=>tf _
 | f+1,n,r,hr=>by
  rw[minRun'_succ];split
  ·exact tf _
  ·have a:max r (n % 2)<=1:=Nat.max_le.mpr ⟨hr,by omega⟩;have:=BT f (n / 2) (max r (n % 2)) a;omega
def UY{R:Nat->Shared->Prop}(b:∀i,1<=i->i < n->∀C:Bool->Shared->Prop,C false z->kas_cmp P w B κ it i (i - 1) C z)(d:R n z):
  ∀(f a:Nat),1<=a->a+f=n->(kas_asc (zaU (tQ n)) f a).kasWp (kas_cmp P w B κ it) R z
 | 0,a,_,e=>by
  have h:a=n:=by omega
  subst h;exact d
 | f+1,a,h,e=>by
  have g:∀i,i < n->(zaU (tQ n)).getD i 0=i:=λi j=>by simp [Array.getD,j]
  show kas_cmp P w B κ it ((zaU (tQ n)).getD a 0) ((zaU (tQ n)).getD (a - 1) 0) _ z;rw[g a (by omega),g (a - 1) (by omega)];refine b a h (by omega) _ ?_;show KasT.kasWp _ (if false=true then _ else _) R z;rw[if_neg tI];exact UY b d f (a+1) (by omega) (by omega)
def wh{Q:Unit->SortSt->Shared->Prop}(b:2<=n)(d:∀i,1<=i->i < n->∀C:Bool->Shared->Prop,C false z->kas_cmp P w B κ it i (i - 1) C z)(h:∀st,arrOf st=(zaU (tQ n)).map (kas_item it)->failedOf st=none->Q () st z):kasC (model P w) B F sortRuns' Q (kas_st κ it (zaU (tQ n))) z:=by
 obtain⟨a,rfl⟩:∃a,n=a+2:=⟨n - 2,by omega⟩;have sz:(zaU (tQ (a+2))).size=a+2:=by simp
 have b:(arrOf (kas_st κ it (zaU (tQ (a+2))))).size=a+2:=(Array.size_map ..).trans sz;have le:=BT (a+2) (a+2) 0 (by decide);rw[sortRuns'_eq];refine kasC_bind (kasC_get ?_)
 try dsimp only
 rw[b];generalize minRun' (a+2) (a+2) 0=M at le;refine kasC_bind (kasC_range (show kasC _ _ _ (forIn (0::1::zdI 2 a) _ _) _ _ _ from kasC_cons ?_))
 try dsimp only
 rw[if_neg (by omega)];simp only[Nat.sub_zero,zdD];refine kasC_bind (kas_count_ (G:=λq b=>q=(a+2,zaU (tQ (a+2)))/\b=z) (by omega) (by rw[sz];exact tf _) (λm _ b _ _ _ j=>?_) ?_)
 ·obtain⟨e,rfl⟩:=j;cases e
  try dsimp only
  rw[if_neg (by omega)];refine kasC_bind (kasC_get ?_);rw[show (pendingOf (kas_st κ it (zaU (tQ (a+2))))).back?=none from rfl]
  try dsimp only
  refine kasC_bind (kasC_modify (kasC_pure (show kasC _ _ _ (forIn (1::zdI 2 a) _ _) _ _ _ from kasC_cons ?_)))
  try dsimp only
  rw[if_pos (tf _)];refine kasC_pure ?_
  try dsimp only
  refine kasC_bind (kasC_range (show kasC _ _ _ (forIn (0::1::zdI 2 a) _ _) _ _ _ from kasC_cons (kasC_bind (kasC_get ?_))));rw[if_pos (show (pendingOf (setPending (kas_st κ it (zaU (tQ (a+2)))) ((pendingOf (kas_st κ it (zaU (tQ (a+2))))).push (0,a+2,0)))).size<=1 from tf 1)];refine kasC_pure ?_
  try dsimp only
  exact kasC_pure (h _ rfl rfl)
 ·unfold kas_count;rw[KasT.kasWp_bind];refine UY d ?_ _ 1 (tf 1) (by omega);rw[if_pos (beq_self_eq_true _)];exact⟨rfl,rfl⟩
inductive J3(h:Heap)(v:Value)(k:Int×Int):Prop
 | mk (p:_) (o:_) (n:_) (t:_) (u:_):v=.ref p->h.get? p=some o->o.cls=.type "tuple"->o.data=.seq #[.int k.1 t,.int k.2 u] n->J3 h v k
def XJ(a b:Int×Int):Prop:=a.1 < b.1\/(a.1=b.1/\a.2 < b.2)
def U1{z:Shared}(l:J3 z.heap v b)(hu:J3 z.heap u a)(o:XJ a b){C:Bool->Shared->Prop}(d:C false z):wpAny (model P w) B (keyLt' (tuples' true) v u) C (λ_ _=>False) z:=by
 obtain⟨_,_,n,i,j,rfl,p,_,q⟩:=l;obtain⟨_,_,_,l,m,rfl,r,_,x⟩:=hu;refine kat_lt p q r x ?_;show KatLex P w B true _ C [(.int b.1 i,.int a.1 l),(.int b.2 j,.int a.2 m)] 0 z;refine kat_cons (SeqAt.EqAt.int_int b.1 i a.1 l P w _ _ ?_);rcases o with h | ⟨h,i⟩
 ·have e:(b.1==a.1)=false:=by
   rw[beq_eq_false_iff_ne];omega
  rw[e];refine kat_no (show wpAny _ _ (oneLt' true _ _) _ _ _ from oneLt_int ?_);rw[decide_eq_false (by omega)];exact d
 ·have e:(b.1==a.1)=true:=by rw[h];exact beq_self_eq_true _
  rw[e];refine kat_yes (kat_cons (SeqAt.EqAt.int_int b.2 j a.2 m P w _ _ ?_));have i:(b.2==a.2)=false:=by
   rw[beq_eq_false_iff_ne];omega
  rw[i];refine kat_no (show wpAny _ _ (oneLt' false _ _) _ _ _ from kat_one _ _ (lt_int ?_));show C (decide (b.2 < a.2)) z;rw[decide_eq_false (by omega)];exact d
def J3.keep{h':Heap}(x:J3 h v k)(i:∀b o,h.get? b=some o->o.cls=.type "tuple"->h'.get? b=some o):J3 h' v k:=by
 obtain⟨a,o,n,t,u,e,j,c,d⟩:=x;exact⟨a,o,n,t,u,e,i a o j c,c,d⟩
def WL(vs:List Value):(pairsOf vs).map (·.2)=vs.toArray:=by
 apply Array.ext';rw[Array.toList_map,pairsOf_toList,List.map_snd_zip (tf _)]
def yd:∀(vs:List Value) (a:List (Int×Int)),vs.length=a.length->(∀(i:Nat) (v:Value) (k:Int×Int),vs[i]?=some v->a[i]?=some k->J3 h v k)->∃fs,KatTups h vs fs/\fs.length=vs.length/\∀v∈fs,∃i t,v=Value.int i t
 | [],_,_,_=>⟨[],.nil,rfl,λv b=>(nomatch b)⟩
 | v::vs,[],j,_=>by cases j
 | v::vs,k::a,j,b=>by
  obtain⟨fs,l,lf,m⟩:=yd vs a (zcT.inj j) λi u q o p=>b (i+1) u q (by simpa using o) (by simpa using p);obtain⟨_,_,n,t,u,rfl,a,c,d⟩:=b 0 v k rfl rfl;refine⟨.int k.1 t::fs,.cons a c d rfl l,by simp [lf],λx a=>?_⟩;rcases tL.mp a with e | a
  ·exact⟨_,_,e⟩
  ·exact m x a
def x6{z:Shared}{vs:List Value}{h:List (Int×Int)}{R:PySem.Fin->Shared->Prop}(j:z.heap.get? a=some (seqObj "list" vs.toArray n))(o:vs.length=h.length)(p:∀(i:Nat) (v:Value) (k:Int×Int),vs[i]?=some v->h[i]?=some k->J3 z.heap v k)(hr:∀(i:Nat) (k d:Int×Int),h[i]?=some k->h[i+1]?=some d->XJ k d)(hz:vs.length<=100000)(k:R (.done (.ret .none)) {z with heap:=sortedHeap z.heap a vs vs.toArray}):wpAny (model P w) B (Builtin.«list.sort» ⟨[.ref a],[]⟩) R F z:=by
 have r:∀b d,z.heap.get? b=some d->d.cls=.type "tuple"->b≠a:=λb d e c q=>by
  rw[q,j]at e;cases e;exact absurd c (show ¬Value.type "list"=Value.type "tuple" by decide)
 rw[list_sort_plain];refine zdO (listItems_at j rfl (zdO (listUpdate_at j rfl ?_)));obtain⟨l,m⟩:∃c,(z.heap.update a (Obj.mapSeq λ_=>#[])).get? a=some (seqObj "list" #[] c):=⟨_,get?_update_seq j (λ_=>#[])⟩;refine zdO (seqEpoch_at m rfl (zdO (wpAny_newTuple (zdO (wpAny_newList (wpAny_holding ?_))))));have lt:=tH j;have j:(((z.heap.update a (Obj.mapSeq λ_=>#[])).push (seqObj "tuple" vs.toArray 0)).push (seqObj "list" #[] 0)).get? a=some (seqObj "list" #[] l):=tm _ (tm _ m);have u:∀b d,z.heap.get? b=some d->d.cls=.type "tuple"->(((z.heap.update a (Obj.mapSeq λ_=>#[])).push (seqObj "tuple" vs.toArray 0)).push (seqObj "list" #[] 0)).get? b=some d:=λb d e c=>
  tm _ (tm _ ((zag _ _ (Ne.symm (r b d e c))).trans e))
 show wpAny (model P w) B _ R F {z with heap:=((z.heap.update a (Obj.mapSeq λ_=>#[])).push (seqObj "tuple" vs.toArray 0)).push (seqObj "list" #[] 0)}
 try dsimp only
 have d:vs.toArray.size=vs.length:=by simp
 have ends:∀st:SortSt,(arrOf st).map (·.2)=vs.toArray->failedOf st=none->wpAny (model P w) B (do
   let m:=(<-seqEpoch a) != l
   Builtin.List.listUpdate (.ref a) λ_=>(arrOf st).map (·.2)
   if let some e:=failedOf st then rule "list.sort.comparison-raised";throw e
   if m then rule "list.sort.modified";raiseError "ValueError" "list modified during sort"
   ret .none) R F {z with heap:=((z.heap.update a (Obj.mapSeq λ_=>#[])).push (seqObj "tuple" vs.toArray 0)).push (seqObj "list" #[] 0)}:=λst e f=>by
  refine zdO (seqEpoch_at j rfl ?_);rw[e,f];refine zdO (listUpdate_at j rfl ?_ (hsz2:=by rw[d,sizeLine_eq];omega));simp only[bne_self_eq_false,zaO,if_false];exact zdP k
 by_cases d:vs.toArray.size < 2
 ·rw[if_pos d,if_pos d];refine zdO (zdP ?_);rw[StateT.run_pure];refine zdO (zdP ?_);exact ends (SortSt.mk' general' (vs.toArray.zip vs.toArray) #[] 7 none) (WL vs) rfl
 ·rw[if_neg d,if_neg d];have d:2<=vs.length:=by omega
  have m:∀(i:Nat) (v:Value) (q:Int×Int),vs[i]?=some v->h[i]?=some q->J3 (((z.heap.update a (Obj.mapSeq λ_=>#[])).push (seqObj "tuple" vs.toArray 0)).push (seqObj "list" #[] 0)) v q:=λi v q j l=>(p i v q j l).keep u;obtain⟨fs,p,lf,r⟩:=yd vs h o m;refine zdO (kat_kind (T:=.type "int") p (by omega) (λv q=>?_) rfl ?_)
  ·obtain⟨i,t,rfl⟩:=r v q;exact Looks.of_pure rfl
  ·have e:vs.toArray.zip vs.toArray=(zaU (tQ vs.length)).map (kas_item (pairsOf vs)):=by
    have:=kas_range (pairsOf vs);rw[pairsOf_size]at this;exact this.symm
   rw[e];have run:kasC (model P w) B F sortRuns' (λ_ st o=>o={z with heap:=((z.heap.update a (Obj.mapSeq λ_=>#[])).push (seqObj "tuple" vs.toArray 0)).push (seqObj "list" #[] 0)}/\(arrOf st).map (·.2)=vs.toArray/\failedOf st=none)
     (kas_st (tuples' true) (pairsOf vs) (zaU (tQ vs.length))) {z with heap:=((z.heap.update a (Obj.mapSeq λ_=>#[])).push (seqObj "tuple" vs.toArray 0)).push (seqObj "list" #[] 0)}:=by
    refine wh d (λi _ p _ D=>?_) λst j l=>⟨rfl,by rw[j,<-e];exact WL vs,l⟩;unfold kas_cmp;rw[kas_item_eq,kas_item_eq];have g:∀d,d < vs.length->vs[d]?=some (vs.getD d Value.none):=λd r=>by simp [r]
    have u:∀d,d < vs.length->∃q,h[d]?=some q:=λd r=>⟨_,tr (by omega)⟩;obtain⟨d,r⟩:=u i p;obtain⟨y,C⟩:=u (i - 1) (by omega);have u:h[i - 1+1]?=some d:=by rw[show i - 1+1=i by omega];exact r
    exact U1 (m i _ d (g i p) r) (m (i - 1) _ y (g (i - 1) (by omega)) C) (hr (i - 1) y d C u) D
   refine zdO (wpAny_mono run (λd o h=>?_) λ_ _ x=>x);obtain⟨⟨⟩,st⟩:=d;obtain⟨rfl,j,l⟩:=h;exact ends st j l
end L2
namespace PySem
def RawD(h:Heap)(d:Addr)(es:Array DictEntry)(ep:Nat):Prop:=∃a,h.get? d=some a/\a.ExactDict/\a.data=.dict es ep
def RawD.keep{h':Heap}(x:RawD h d es ep)(k:∀o,h.get? d=some o->h'.get? d=some o):RawD h' d es ep:=let ⟨o,e,a⟩:=x;⟨o,k o e,a⟩
def RawD.ty{z:Shared}(x:RawD z.heap d es ep):z.TypeIs (.ref d) "dict":=let ⟨a,e,c,_⟩:=x;⟨a,e,c.1⟩
def raw_iter{z:Shared}{R:Value->Shared->Prop}(hd:(d==sysModules)=false)(x:RawD z.heap d es ep)(k:R (.ref z.heap.objs.size) {z with heap:=z.heap.push {cls:=.type "dict_keyiterator",data:=.fields #[.ref d,.int 0 0,.int es.size 0,.int ep 0]}}):wpAny (model P w) B (pyIter (.ref d)) R a z:=by
 have ty:=x.ty;obtain⟨_,a,_,b⟩:=x;refine wpAny_pyIter_slot ty F.slot_dict_iter (wpAny_call_entry F.slot_dict_iter ty F.entry_dict_iter ?_ (F.args_dict_iter_1 _));unfold Builtin.«dict.__iter__»;refine zdO (show wpAny _ _ (Builtin.Dict.dictSlotNone _ _) _ _ _ from ?_);unfold Builtin.Dict.dictSlotNone;refine zdO (wpAny_notOrdered_dict ty (show wpAny _ _ (pure (Value.ref d)) _ _ z from zdP ?_));refine(show wpAny _ _ (Builtin.Dict.showsAll d >>= _) _ _ z from ?_);unfold Builtin.Dict.showsAll;rw[if_neg (by rw[hd];exact tI)];refine zdO (zdP (zdO (wpAny_dictEntries a b (zdO (wpAny_dictEpoch a b ?_)))));exact zdO (wpAny_newObj_type (zdP ⟨_,rfl,"dict_keyiterator",_,⟨_,tJ _ rfl,rfl⟩,F.slot_dict_keyiterator_next.lookup,by simpa [rawInt] using k⟩))
def KW{z:Shared}{es:Array DictEntry}{R:Option Value->Shared->Prop}(eS:z.heap.IsKeyIter I d i es.size ep)(x:RawD z.heap d es ep)(h:i < es.size)(k:∀h',h'.IsKeyIter I d (i+1) es.size ep->Heap.SameBut I z.heap h'->R (some es[i].key) {z with heap:=h'}):wpAny (model P w) B (pyNext (.ref I)) R a z:=by
 obtain⟨_,a,j,hd⟩:=id eS;obtain⟨_,b,_,e⟩:=x;have ty:=eS.typeIs;unfold pyNext;refine zdO (wpAny_attempt (wpAny_callSpecial?_slot (name:=zdN "__next__") ty F.slot_dict_keyiterator_next (wpAny_call_entry F.slot_dict_keyiterator_next ty F.entry_dict_keyiterator_next ?_ (F.args_dict_keyiterator_next_1 _))));refine zdO (zdP (zdO (zdO (zdO ?_))))
 first | refine wpAny_typeNameOfWhole_keyiter ty (zdP (zdO (wpAny_fieldsOf a hd ?_))) | refine wpAny_typeNameOf_keyiter ty (zdP (zdO (wpAny_fieldsOf a hd ?_)))
 have own:Builtin.Dict_items.ownsTuple "dict_keyiterator"=false:=by decide
 simp only[own,zaO,if_false];show wpAny _ _ (if (Value.ref d==Value.none)=true then _ else _) _ _ z;rw[if_neg (show ¬((Value.ref d==Value.none)=true) from tI)];refine zdO (zdP (zdO (wpAny_dictEntries b e ?_)));rw[if_neg (by simp)];refine zdO (zdP (zdO (wpAny_dictEpoch b e ?_)));rw[if_neg (by simp)];refine zdP ?_;simp only[show ¬((i:Int) < 0) from by omega,if_false,zaj,zbl h];refine zdO (zdO ?_)
 first | refine wpAny_typeNameOfWhole_keyiter ty (zdP (zdO (wpAny_isOneOf_keyiter ty ?_))) | refine wpAny_typeNameOf_keyiter ty (zdP (zdO (wpAny_isOneOf_keyiter ty ?_)))
 refine(show wpAny _ _ (setField (.ref I) 1 (rawInt ((i:Int)+1)) >>= _) _ _ z from zdO (wpAny_setField a hd (by simp) ?_));have b:(z.heap.update I (Obj.mapFields (·.setIfInBounds 1 (rawInt ((i:Int)+1))))).IsKeyIter I d (i+1) es.size ep:=
  ⟨_,zaw _ a (Obj.isFreed_of_fields (Obj.data_mapFields hd _)),(Obj.cls_mapFields ..).trans j,by rw[Obj.data_mapFields hd];simp [rawInt]⟩
 refine zdO (wpAny_holding (zdO (wpAny_isOneOf_keyiter (s:={z with heap:=z.heap.update I (Obj.mapFields (·.setIfInBounds 1 (rawInt ((i:Int)+1))))}) b.typeIs ?_)));refine(show wpAny _ _ (pure es[i].key) _ _ _ from zdP (zdP ⟨_,rfl,zdP (k _ b (zbK.update ..))⟩))
def MK{B:Around}{z:Shared}{es:Array DictEntry}{R:Option Value->Shared->Prop}(h:B.handled=none)(eS:z.heap.IsKeyIter I d i es.size ep)(x:RawD z.heap d es ep)(j:es.size<=i)(k:∀h',Heap.ExtBut I z.heap h'->R none {z with heap:=h'}):wpAny (model P w) B (pyNext (.ref I)) R a z:=by
 obtain⟨_,a,_,hd⟩:=id eS;obtain⟨_,b,_,e⟩:=x;have ty:=eS.typeIs;unfold pyNext;refine zdO (wpAny_attempt (wpAny_callSpecial?_slot (name:=zdN "__next__") ty F.slot_dict_keyiterator_next (wpAny_call_entry F.slot_dict_keyiterator_next ty F.entry_dict_keyiterator_next ?_ (F.args_dict_keyiterator_next_1 _))));refine zdO (zdP (zdO (zdO (zdO ?_))))
 first | refine wpAny_typeNameOfWhole_keyiter ty (zdP (zdO (wpAny_fieldsOf a hd ?_))) | refine wpAny_typeNameOf_keyiter ty (zdP (zdO (wpAny_fieldsOf a hd ?_)))
 have own:Builtin.Dict_items.ownsTuple "dict_keyiterator"=false:=by decide
 simp only[own,zaO,if_false];show wpAny _ _ (if (Value.ref d==Value.none)=true then _ else _) _ _ z;rw[if_neg (show ¬((Value.ref d==Value.none)=true) from tI)];refine zdO (zdP (zdO (wpAny_dictEntries b e ?_)));rw[if_neg (by simp)];refine zdO (zdP (zdO (wpAny_dictEpoch b e ?_)));rw[if_neg (by simp)];refine zdP ?_;simp only[show ¬((i:Int) < 0) from by omega,if_false,zaj,zck j];refine zdO (zdO ?_)
 first | refine wpAny_typeNameOfWhole_keyiter ty (zdP ?_) | refine wpAny_typeNameOf_keyiter ty (zdP ?_)
 refine(show wpAny _ _ (setField (.ref I) 0 .none >>= _) _ _ z from zdO (wpAny_setField a hd (by simp) ?_));refine(show wpAny _ _ (newExc (.type "StopIteration") [] >>= _) _ _ _ from zdO ?_);simp only[newExc,newTuple];refine zdO (wpAny_newObj_type (zdO (m:=firstArgMember _ _) (wpAny_of_eq (a:=Value.none) (by first | rfl | (simp only[firstArgMember];rfl)) (wpAny_newObj_type ?_ (by size_fits)))) (by size_fits));simp only[raiseNew];refine zdO (wpAny_handled ?_);rw[show B.in1.handled=none from h];refine zdO (zdP (wpAny_throw ?_));refine zdO (wpAny_isInstance (T:="StopIteration") (b:=true) ⟨_,tJ _ rfl,rfl⟩ isSubtype_stop ?_);exact zdP (k _ ((((zbK.update ..).extBut).push _).push _))
open PySem.W
def wj{es:Array DictEntry}{B:Around}(p:B.handled=none)(I:Addr)(r:d≠I):Walks P w B I [I,d] [I] es.size (λi v=>∃h:i < es.size,v=es[i].key) (λi h=>h.IsKeyIter I d i es.size ep/\RawD h d es ep) where
 sub:=λb j=>by simp at j;simp [j]
 frame:=λ_ _ _ st k=>⟨st.1.at λa e=>k I (by simp) a e,st.2.keep λa e=>k d (by simp) a e⟩
 item:=λi z R G m st q=>KW st.1 st.2 m λl u o=>q _ l z.toks ⟨m,rfl⟩ ⟨u,st.2.keep λa e=>o.extBut d a r e⟩ λb a j e=>o.extBut b a (λx=>j (by simp [x])) e
 done:=λz R G st q=>MK p st.1 st.2 (tf _) λl m=>q l z.toks λb a j e=>m b a (λx=>j (by simp [x])) e
 self:=λ_ _ _ _ st q=>wpAny_pyIter_keyiter st.1 q
def MI{es:Array DictEntry}(hd:(d==sysModules)=false):KdlSrc P w "dict" d d es.size (λi v=>∃h:i < es.size,v=es[i].key) (λh=>RawD h d es ep) where
 type:=λz x=>x.ty
 there:=λh x=>let ⟨a,e,_⟩:=x;⟨tH e,tH e⟩
 keep:=λh _ x k=>x.keep λa e=>k d (.inl rfl) a e
 notList:=by decide
 notTuple:=by decide
 hint:=λ_ _ _ _ x q=>kdl_hint_dict x.ty q
 iter:=λA z b x=>⟨_,_,λE Q q=>raw_iter hd x q,wj b _ (let ⟨a,e,_⟩:=x;tS (tH e)),⟨⟨_,tJ _ rfl,rfl,rfl⟩,x.keep λa e=>tm _ e⟩⟩
end PySem
namespace L2
open PySem PySem.Spec PySem.W
open PyProof.Rows hiding K lo
def QW:∀{l:List α} {m:List β},Paired G l m->∀{i:Nat} {a:α},l[i]?=some a->∃b,m[i]?=some b/\G a b
 | _,_,.nil,i,a,e=>by simp at e
 | _,_,.cons d t,0,a,e=>by cases e;exact⟨_,rfl,d⟩
 | _,_,.cons d t,i+1,a,e=>by
  obtain⟨b,d,g⟩:=QW t (by simpa using e);exact⟨b,by simpa using d,g⟩
def YA(k:Int×Int):List qF:=[Sum.inl k.1,Sum.inl k.2]
inductive yQ(xs:List V)(H:Hp)(Q:VK):Prop
 | mk (a:Addr) (kvs:List (List qF×V)) (ks:List (Int×Int)):xs=[.ref a]->H a=some (.dT kvs)->kvs.map (·.1)=ks.map YA->((∀(i:Nat) (k k':Int×Int),ks[i]?=some k->ks[i+1]?=some k'->XJ k k'))->(kvs.length<=1000)->(∀(l:Addr) (ps:List Addr),H l=none->ps.length=ks.length->(∀(i:Nat) (p:Addr) (k:Int×Int),ps[i]?=some p->ks[i]?=some k->H p=some (.tup [.int k.1,.int k.2]))->Q (.ref l) (upd H l (.lst (ps.map V.ref))))->yQ xs H Q
def CH:List V->Hp->VK->Prop:=λa H Q=>yQ a H Q
def Ul:∀(ps:List Addr),qK (ps.map V.ref) (ps.map Value.ref)
 | []=>.nil
 | a::ps=>.cons rfl (Ul ps)
def kR{X:Cx}(L:X.calm=true):Jh X (.builtin "sorted") CH:=by
 intro O s T H _ _ Q I d h;obtain⟨a,kvs,B,rfl,l,C,hr,U,q⟩:=h;obtain⟨u,rfl,j⟩:=JL d;cases j;obtain⟨_,Y,j,D,m,r,ep,eo,ex,aa,d,_⟩:=(show qI X.prog X.w H s.heap a (.dT kvs) from I.hok a _ l);have l:kvs.length=j.length:=Paired.length D;have lk:kvs.length=B.length:=by simpa using congrArg zav C
 have se:r.size=j.length:=by rw[<-zaz,d,ta]
 have ed:∀i (o:i < r.size),r[i].key=.ref ((j.map (·.2.1)).getD i 0):=λi o=>by
  have l:r.toList[i]?=some r[i]:=by simp [o]
  have z:i < j.length:=by omega
  rw[d,tw,tr z]at l;have x:=(tA.inj l).symm;rw[x];show Value.ref j[i].2.1=_;simp [z]
 have tup:∀(i:Nat) (p:Addr) (k:Int×Int),(j.map (·.2.1))[i]?=some p->B[i]?=some k->H p=some (.tup [.int k.1,.int k.2]):=λi p k l x=>by
  rw[tw]at l;cases d:j[i]? with
  | none=>rw[d]at l;cases l
  | some y=>
   rw[d]at l;have ab:y.2.1=p:=tA.inj l;have o:i < kvs.length:=by
    have:=(td.mp d).1;omega
   obtain⟨_,J,g1,g2,_⟩:=QW D (tr o);rw[d]at J;cases J;have D:kvs[i].1=YA k:=by
    have d:(kvs.map (·.1))[i]?=some kvs[i].1:=by rw[tw,tr o];rfl
    rw[C,tw,x]at d;exact(tA.inj d).symm
   rw[D,ab]at g2;exact g2
 have C:X.A.in1.handled=none:=I.ok.hd L;refine Calls.call_function_entry kind_sorted plain_sorted entry_sorted (args_sorted1 _) ?_;unfold Builtin.«sorted»;refine zdO (m:=checkCount "sorted" 1 1 _) (zdP ?_);refine zdO (kdu_collect (MI (es:=r) (ep:=ep) Y) C ⟨m,eo,ex,aa⟩ (by rw[se,sizeLine_eq];omega) λd tk C L D=>?_);have J:C.toList=(j.map (·.2.1)).map Value.ref:=by
  refine zcM λi=>?_;by_cases o:i < r.size
  ·have r:i < C.size:=by rw[D.1];exact o
   have l:C[i]?=some C[i]:=zbl r;obtain⟨_,x⟩:=D.2 i _ l;rw[Array.getElem?_toList,l,x,ed i o,tw];have z:i < (j.map (·.2.1)).length:=by rw[ta];omega
   rw[tr z];simp [zaE,tr z]
  ·rw[zbm (by rw[zaz,D.1];omega),zbm (by rw[ta,ta];omega)]
 rw[J];generalize r:j.map (·.2.1)=j at J tup ed;have o:j.length=B.length:=by rw[<-r,ta];omega
 refine zdO (wpAny_newList ?_);have r:qv X O T H {s with heap:=d,toks:=tk}:=I.kept (t':=tk) L;show wpAny _ _ _ _ _ {s with heap:=d.push (seqObj "list" (j.map Value.ref).toArray 0),toks:=tk};have oL:(d.push (seqObj "list" (j.map Value.ref).toArray 0)).get? d.objs.size=some (seqObj "list" (j.map Value.ref).toArray 0):=tJ _ rfl;have C:∀(i:Nat) (v:Value) (k:Int×Int),(j.map Value.ref)[i]?=some v->B[i]?=some k->J3 (d.push (seqObj "list" (j.map Value.ref).toArray 0)) v k:=λi v k l x=>by
  rw[tw]at l;cases z:j[i]? with
  | none=>rw[z]at l;cases l
  | some p=>
   rw[z]at l;obtain rfl:=(tA.inj l).symm;obtain⟨_,l,⟨B,D,J,L,O⟩,_⟩:=r.tuple (.of (tup i p k z x):zZ X.K H p _);cases l with
   | cons x l=>
    cases l with
    | cons z l=>
     cases l;obtain⟨l,rfl⟩:=x;obtain⟨x,rfl⟩:=z;exact⟨p,B,L,l,x,rfl,tm _ D,J,O⟩
 refine zdO (wpAny_holding (wpAny_call_entry slot_list_sort ⟨_,oL,rfl⟩ entry_list_sort (x6 oL (by rw[ta];exact o) C hr (by rw[ta];omega) ⟨_,rfl,?_⟩) (args_list_sort _)));refine zdP ⟨_,rfl,?_⟩;have l:∀b m,d.get? b=some m->b≠d.objs.size:=λb m e=>tS (tH e);have kf:∀b m,d.get? b=some m->(sortedHeap (d.push (seqObj "list" (j.map Value.ref).toArray 0)) d.objs.size (j.map Value.ref) (j.map Value.ref).toArray).get? b=some m:=λb m e=>by
  unfold sortedHeap;rw[zag _ _ (Ne.symm (l b m e))];exact tm _ (tm _ ((zag _ _ (Ne.symm (l b m e))).trans (tm _ e)))
 obtain⟨_,l⟩:∃c,((d.push (seqObj "list" (j.map Value.ref).toArray 0)).update d.objs.size (Obj.mapSeq λ_=>#[])).get? d.objs.size=some (seqObj "list" #[] c):=⟨_,get?_update_seq oL (λ_=>#[])⟩;obtain⟨m,p⟩:∃c,(sortedHeap (d.push (seqObj "list" (j.map Value.ref).toArray 0)) d.objs.size (j.map Value.ref) (j.map Value.ref).toArray).get? d.objs.size=some (seqObj "list" (j.map Value.ref).toArray c):=
  ⟨_,get?_update_seq (tm _ (tm _ l)) (λ_=>(j.map Value.ref).toArray)⟩
 refine⟨.ref d.objs.size,_,r.laid (t':=tk) (o:=.lst (j.map V.ref)) kf (tf _) ⟨by rw[ta,o,<-lk];exact zac (qh U),_,m,Ul j,p⟩,rfl,?_⟩;exact q _ j (r.hok.fresh (tf _)) o tup
open PyProof.Rows hiding K lo
inductive BA(x:V)(lo:Option Int)(hi:Option Int)(H:Hp)(Q:VK):Prop
 | mk (z:Str) (j:Int):x=.str z->lo=none->hi=some j->(z.length<=1000)->(Q (.str (Txt.slice z none (some j))) H)->BA x lo hi H Q
def Ia:V->Option Int->Option Int->Hp->VK->Prop:=λx lo a H Q=>BA x lo a H Q
def Kr:IE X Ia:=by
 intro _ s _ H x v _ _ lo _ _ Q I b d e i h;obtain⟨z,a,rfl,rfl,rfl,j,q⟩:=h;obtain⟨t,rfl⟩:=b;refine⟨"str",_,PySem.F.slot_str_getitem.lookup,typeIs_str _ _ _,?_⟩;cases e;cases i;exact wpAny_getItem_str_slice (l:=none) (u:=some (a,_)) (st:=none) d rfl (post_val_or_str ⟨tR (Txt.slice_le z none (some a)) (zac (qh j)),λa k=>⟨.str _,H,I.tok k,⟨a,rfl⟩,q⟩⟩)
def Xh(z:Str)(j:Nat):(Txt.slice z none (some (j:Int))).cps.toList=z.cps.toList.take j:=by
 have b:z.cps.toList.length=z.length:=zaz;have fF:Builtin.Str.strSliceIndices none (some (j:Int)) 1 z.length=(tQ (min j z.length)).map (0+·):=by
  have e:Builtin.Str.strSliceIndices none (some (j:Int)) 1 z.length=sliceRange ((0:Nat):Int) ((min j z.length:Nat):Int) 1:=by
   unfold Builtin.Str.strSliceIndices;simp only[show (1:Int) > 0 by decide,if_true,show ¬((j:Int) < 0) by omega,if_false];congr 1;omega
  rw[e,sliceRange_one];rfl
 unfold Txt.slice;rw[fF];split
 ·rename_i h;have d:min j z.length=z.length:=by simpa using h
  rw[tu];omega
 ·rw[pick_run];show (z.cps.toList.drop 0).take (min j z.length)=_;rw[List.drop_zero];by_cases a:j<=z.length
  ·rw[Nat.min_eq_left a]
  ·rw[Nat.min_eq_right (by omega),tu (by omega),tu (by omega)]
def AZ(n:Nat):List V:=(tQ n).map λi=>V.int (i:Nat)
inductive D9(Q:VK)(x:V)(H1:Hp):Prop
 | mk (n:Nat):x=.int n->(n<=1000)->(∀l,H1 l=none->Q (.ref l) (upd H1 l (.lst (AZ n))))->D9 Q x H1
def tLr(te:TE):TE:=λa H Q=>te a H λx a=>D9 Q x a
def NQ(h:ItemsOf (λi v=>∃t,v=.int (0+i*1) t) b n):qK (AZ n) b.toList:=by
 obtain⟨a,e⟩:=h;refine WM _ _ (by simp [AZ,a]) λi x u a j=>?_;have d:b[i]?=some u:=by simpa using j
 obtain⟨t,rfl⟩:=e i u d;have b:i < n:=by
  have:=(zaa.mp d).1;omega
 unfold AZ at a;rw[tw,zbt b]at a;obtain rfl:=(tA.inj a).symm;refine⟨t,?_⟩;congr 1;omega
def FD{X:Cx}(m:X.calm=true)(g1:Gl X "list")(o:X.mg "list"=none)(g3:Gl X "range")(p:X.mg "range"=none)(a:JE X e te)(i:starEach [e] X.env=[(false,eval e X.env)]:=by rfl)(d:starEach [.Call (.Name "range" j) [e] [] l] X.env=[(false,eval (.Call (.Name "range" j) [e] [] l) X.env)]:=by rfl):JE X (.Call (.Name "list" r) [.Call (.Name "range" j) [e] [] l] [] v) (tLr te):=.of (by
 have a:=a.to;intro j s l H Q I h;refine Call_ (J1 I g1 o boot_list (PyProof.Rows.callWith_type1 (u1 d ?_) (by rw[d];rfl) rfl));refine Call_ (J1 I g3 p boot_range (PyProof.Rows.callWith_type1 (u1 i (js (a j s l H _ I h) λu a ⟨x,_,d,j,l⟩=>?_)) (by rw[i];rfl) rfl));obtain⟨n,rfl,o,q⟩:=l;obtain⟨t,rfl⟩:=j;refine call_range_1 ?_;refine call_list_range (n:=n) (d.ok.hd m) (IsRange.new ..) (small_one (by omega) (by omega) (by omega) (by omega)) (yN n) (by omega) λ_ tk j l m e p=>?_;have i:a.heap.objs.size<=(a.heap.push ({cls:=.type "range",data:=.fields #[.int 0 a.toks,.int n t,.int 1 (a.toks+1)]}:Obj)).objs.size:=by
  rw[zbf];omega
 exact⟨.ref _,_,d.laid (t':=tk) (o:=.lst (AZ n)) (λb a r=>m b a (tm _ r)) i ⟨by simp only[AZ,ta,zaf];exact zac (qh o),j.toList,l,NQ p,by simpa using e⟩,rfl,q _ (d.hok.fresh i)⟩)
def ug{X:Cx}(m:X.calm=true):Jh X (.type "set") (λxs H Q=>∃(p:Addr) (ns:List Int),xs=[.ref p]/\Q6 X.K H p (ns.map V.int)/\ns.length<=1000/\∀l S,H l=none->Q (.ref l) (upd H l (.set S (firstMet (λi=>ns.getD i 0) ns.length).length))):=by
 intro _ s _ H xs _ Q I a h;obtain⟨p,ns,rfl,d,_,q⟩:=h;obtain⟨u,rfl,j⟩:=JL a;cases j;obtain⟨o,a,r,_⟩:=I.list d;have d:=a.length;rw[ta]at d;have j:o.toArray.size=ns.length:=by rw[t7,<-d]
 refine call_set_list (ns:=ns) (I.ok.hd m) r.isList (by simpa using kE a) (by rw[j];show ns.length+1 < 4096;omega) λ_ tk a d=>?_;rw[j]at a;exact⟨.ref s.heap.objs.size,_,I.laid (t':=tk) (o:=.set _ _) (λb j e=>d b j (tH e) e) (tf _) a,rfl,q _ _ (I.hok.fresh (tf _))⟩
def vz:Jh X (.builtin "len") (λxs H Q=>∃a S n,xs=[V.ref a]/\H a=some (.set S n)/\Q (.int (n:Nat)) H):=by
 intro _ s _ H xs _ Q I d h;obtain⟨a,S,n,rfl,e,q⟩:=h;obtain⟨u,rfl,i⟩:=JL d;cases i;obtain⟨_,d,_,t,i,j,l,_,_,b,f,rfl⟩:=(show qI X.prog X.w H s.heap a (.set S n) from I.hok a _ e);refine call_len_set i j l f (by have:d.size < 4096:=b;omega) ⟨.int _,H,I.tok _,⟨_,rfl⟩,q⟩
open PySem PySem.Spec
open PyProof.Rows hiding K lo
def FX(K:zdM)(a:Addr):It:=⟨λi H=>∃b x,Q6 K H a b/\b[i]?=some x,
 λi H v e=>∃d,H d=none/\v=.ref d/\∀b x,Q6 K H a b->b[i]?=some x->e=upd H d (.tup [.int (i:Nat),x]),
 λi H=>∃b,Q6 K H a b/\b.length<=i⟩
def xV(a e it:Addr)(T:e≠it):
  Wm P w K (.Tuple b d j) (FX K a) [e,it] e (λi h=>(∃eG,IsEnum h e it i eG)/\h.IsListIter it a i) where
 mem:=by simp
 obj:=λi h st c b=>by
  obtain⟨⟨eG,j⟩,⟨U,p,_,d⟩⟩:=st;simp only[tL,zbb,or_false]at b;rcases b with rfl | rfl
  ·exact⟨_,j,λv z=>by cases z⟩
  ·exact⟨U,p,λv z=>by rw[d]at z;cases z⟩
 keep:=λi h q st k=>by
  obtain⟨⟨eG,j⟩,l⟩:=st;exact⟨⟨eG,k e (by simp) _ j⟩,l.at λd e=>k it (by simp) d e⟩
 item:=by
  intro X r y B b i Y s σ H E I m st C;subst r y B;obtain⟨⟨eG,j⟩,l⟩:=st;obtain⟨xs,x,o,hx⟩:=C;obtain⟨ac,D,J,_⟩:=I.list o;obtain⟨u,hu,ru⟩:=D.get hx;refine wpAny_pyNext_enum_item j l J.isList (x:=u) (by simpa using hu) T λq O z2 z3 _ L=>⟨_,rfl,?_⟩;refine wpAny_letOwnedTupleGo_enum O λaa ae sb=>?_;have O:∀c d,s.heap.get? c=some d->s.heap.objs.size≠c:=λc d e=>zbz (tH e);have Q:∀c d,c≠e->q.get? c=some d->aa.get? c=some d:=λc d b e=>(sb.2 c b).trans e;have I1:qv X Y σ (upd H s.heap.objs.size (.tup [.int (i:Nat),x])) {s with heap:=aa,toks:=s.toks+1}:=I.turnLaid (L:=[e,it]) (t':=s.toks+1)
   (λc d b e=>Q c d (λz=>b (by simp [z])) (L c d (λz=>b (by simp [z])) (λz=>b (by simp [z])) e)) m (tf _)
   ⟨JB,[.int i s.toks,u],.cons ⟨_,rfl⟩ (.cons ru .nil),⟨_,Q _ _ (O _ _ j) z3,rfl,_,rfl⟩⟩
  refine⟨.ref s.heap.objs.size,_,I1,rfl,⟨s.heap.objs.size,I.hok.fresh (tf _),rfl,λ_ _ af ab=>?_⟩,⟨⟨_,ae⟩,z2.at λd e=>Q _ d (Ne.symm T) e⟩,λc b=>?_⟩
  ·rw[I.list_inj af o,hx]at ab;cases ab;rfl
  ·have T:=(m c b).1;by_cases Q:c=s.heap.objs.size
   ·subst Q;obtain⟨U,p,_⟩:=l;simp only[tL,zbb,or_false]at b;rcases b with e | e
    ·exact absurd e (O _ _ j)
    ·exact absurd e (O _ _ p)
   ·rw[qc Q];exact T
 done:=by
  intro X r y B b i Y s σ H E I m st C;subst r y B;obtain⟨⟨eG,j⟩,l⟩:=st;obtain⟨xs,o,_⟩:=C;obtain⟨ac,D,J,_⟩:=I.list o;have o:=D.length;exact wpAny_pyNext_enum_end (I.ok.hd b) j l J.isList (by simp;omega) λq L=>⟨rfl,I.turnedL (L:=[e,it]) (t':=s.toks) (λc d b e=>L c d (λz=>b (by simp [z])) e) m⟩
 self:=λ_ _ _ _ _ st h=>let ⟨⟨_,j⟩,_⟩:=st;wpAny_pyIter_enum j h
inductive RV(K:zdM)(R:It->Hp->Prop)(vs:List V)(H1:Hp):Prop
 | mk (a:_):vs=[.ref a]->((∃xs,Q6 K H1 a xs))->(R (FX K a) H1)->RV K R vs H1
def BZ(K:zdM)(a:TA):TI:=λb H R=>a b H λa b=>RV K R a b
def zJ(i:Gl X "enumerate")(l:X.mg "enumerate"=none)(b:JA X [a] d)(m:starEach [a] X.env=[(false,eval a X.env)]:=by rfl):JI X (.Tuple j o r) (.Call (.Name "enumerate" p) [a] [] pos) (BZ X.K d):=.of (by
 have b:=b.to;intro j s d H R I h;refine Call_ (J1 I i l boot_enumerate (PyProof.Rows.callWith_type1 (js (b pos j s d H _ I h) λ_ b ⟨_,l,i,o,r⟩=>?_) (by rw[m];rfl) rfl));obtain⟨u,e,⟨_,m⟩,q⟩:=r;subst e;cases o with
 | cons o r=>
  cases r;cases o;obtain⟨_,_,p,_⟩:=i.list m;refine call_enumerate_list p.isList λo m r _ v=>?_;refine wpAny_pyIter_enum m ?_;have x:qv X j d l {b with heap:=o}:=i.kept (t':=b.toks) v;have fr:∀c,b.heap.objs.size<=c->zt X j l c:=λc d=>i.fpOk d (i.hok.fresh d);refine⟨b.heap.objs.size+1,[b.heap.objs.size+1,b.heap.objs.size],_,_,l,rfl,x,xV u (b.heap.objs.size+1) b.heap.objs.size (Nat.succ_ne_self _),⟨⟨_,m⟩,r⟩,λc d=>?_,q⟩;simp only[tL,zbb,or_false]at d;rcases d with e | e<;>rw[e]<;>first | exact fr _ (Nat.le_add_right _ _) | exact fr _ (tf _))
def ZN{K:zdM}{a:Addr}{xs:List V}{g:TG}{tb:TS}{D:Jk}{b:St}{H:Hp}(Pv:Nat->St->Hp->Prop)(o:Pv 0 b H)(q:∀i b H,i<=xs.length->Pv i b H->Q6 K H a xs)
  (r:∀i x b H p,xs[i]?=some x->H p=none->Pv i b H->g (.ref p) b (upd H p (.tup [.int (i:Nat),x])) λd h=>tb {D with nx:=Pv (i+1),ct:=Pv (i+1),bk:=D.nx} d h) (hd:∀b H,Pv xs.length b H->D.nx b H):
  ∃W:Nat->Nat->St->Hp->Prop,(∃m,W 0 m b H)/\∀i m b H,W i m b H->
   ((FX K a).stop i H/\D.nx b H)\/((FX K a).go i H/\∃N:St->Hp->Prop,(∀j H',N j H'->∃l,l < m/\W (i+1) l j H')/\∀x H',(FX K a).yld i H x H'->g x b H' λd h=>tb {D with nx:=N,ct:=N,bk:=D.nx} d h):=by
 refine⟨λi m b H=>m=xs.length - i/\i<=xs.length/\Pv i b H,⟨xs.length,by simp,zat _,o⟩,?_⟩;rintro i m b H ⟨rfl,h,p⟩;have d:=q i b H h p;by_cases h:i < xs.length
 ·have ex:xs[i]?=some xs[i]:=tr h;refine .inr ⟨⟨xs,_,d,ex⟩,Pv (i+1),λj H' j=>⟨xs.length - (i+1),by omega,rfl,h,j⟩,λx H' h=>?_⟩;obtain⟨j,l,rfl,e⟩:=h;rw[e xs _ d ex];exact r i _ b H j ex l p
 ·have e:i=xs.length:=by omega
  subst e;exact .inl ⟨⟨xs,d,tf _⟩,hd b H p⟩
def ZF(ns:List Nat):∀i,i<=ns.length->preSum (λj=>((ns.getD j 0:Nat):Int)) i=(((ns.take i).sum:Nat):Int)
 | 0,_=>by simp [preSum]
 | i+1,h=>by
  have a:i < ns.length:=h;show preSum _ i+_=_;rw[ZF ns i (zac a),tz,tr a,zby];simp [zaE,tr a]
def Yz(ns:List Nat)(i:Nat):(ns.take i).sum<=ns.sum:=by
 have h:(ns.take i++ns.drop i).sum=ns.sum:=by rw[List.take_append_drop]
 rw[zby]at h;omega
def vo(ns:List Nat)(i:Nat):ns.getD i 0<=ns.sum:=by
 have h:=Yz ns (i+1);rw[tz,zby]at h;rw[zaE];cases e:ns[i]? with
 | none=>exact zat _
 | some x=>
  rw[e]at h;simp at h ⊢;omega
def ZX{X:Cx}(a:X.calm=true):Jh X (.builtin "sum") (λxs H Q=>∃(p:Addr) (ns:List Nat),xs=[.ref p]/\Q6 X.K H p (ns.map λn=>V.int ((n:Nat):Int))/\ns.sum < 2^62/\Q (.int (ns.sum:Nat)) H):=by
 intro _ s _ H xs _ Q I d h;obtain⟨p,ns,rfl,m,_,q⟩:=h;obtain⟨u,rfl,j⟩:=JL d;cases j;obtain⟨d,j,l,_⟩:=I.list m;have o:p < s.heap.objs.size:=by
  obtain⟨m,n,e,_⟩:=l;exact tH e
 have r:d.toArray.size=ns.length:=by
  have:=j.length;rw[ta]at this;simp only[t7];omega
 have x:X.A.in1.handled=none:=I.ok.hd a;refine call_sum_walk (wpAny_pyIter_list l.isList ?_);refine⟨s.heap.objs.size,[s.heap.objs.size,p],[s.heap.objs.size],d.toArray.size,λi v=>d.toArray[i]?=some v,_,λa=>((ns.getD a 0:Nat):Int),rfl,Walks.list x s.heap.objs.size p (tS o) d.toArray,
  ⟨⟨_,tJ _ rfl,rfl,rfl⟩,l.isList.at λm e=>tm _ e⟩,?_,?_,?_,λx tk _ y=>?_⟩
 ·intro b l;show b < (s.heap.push _).objs.size;rw[zbf];simp only[tL,zbb,or_false]at l;rcases l with e | e
  ·rw[e];exact zba _
  ·rw[e];exact zci o
 ·intro i v o;have l:d[i]?=some v:=by simpa using o
  cases e:ns[i]? with
  | none=>
   exfalso;have d:(ns.map λn=>V.int ((n:Nat):Int))[i]?=none:=by rw[tw,e];rfl
   rw[qK.none_of j d]at l;cases l
  | some b=>
   have d:(ns.map λn=>V.int ((n:Nat):Int))[i]?=some (V.int b):=by rw[tw,e];rfl
   obtain⟨u,hu,o⟩:=j.get d;rw[l]at hu;cases hu;obtain⟨t,rfl⟩:=o;refine⟨t,?_⟩;show Value.int b t=.int ((ns.getD i 0:Nat):Int) t;rw[zaE,e];rfl
 ·intro a j;rw[r]at j;have d:=vo ns a;have d:=Yz ns (a+1);have d:=ZF ns (a+1) j;refine⟨⟨?_,?_⟩,⟨?_,?_⟩⟩
  ·show -(2^63)<=((ns.getD a 0:Nat):Int);omega
  ·show ((ns.getD a 0:Nat):Int) < 2^63;omega
  ·rw[d];omega
  ·rw[d];omega
 ·rw[r,ZF ns _ (tf _),tu (tf _)];refine⟨.int (ns.sum:Nat),H,?_,⟨_,rfl⟩,q⟩;exact I.kept (h':=x) (t':=tk) λb m e=>y b m (by
   intro z;have a:b=s.heap.objs.size:=by simpa using z
   exact absurd (tH e) (by rw[a];exact zaF _)) (tm _ e)
open PySem PySem.Spec
open PyProof.Rows hiding K lo
structure k6(fs:List Addr)(ex:List Addr)(h h':Heap):Prop where
 keep:∀b o,b∉fs->b∉ex->h.get? b=some o->h'.get? b=some o
 slot:∀b o,b∈fs->b∉ex->h.get? b=some o->∃sl,h'.get? b=some {o with slots:=sl}
inductive ut(T:Addr)(fl:Value)(h:Heap):Prop
 | mk (ts:_):(h.get? T=some {cls:=.type "traceback",data:=.fields ts})->ts[3]?=some fl->ut T fl h
def uH{A:Around}{s:Shared}{Q:Unit->Shared->Prop}(fr:A.frames=some (env::outer))(h:s.heap.FunFrames base (env::outer))(l:env.frame=some L)(m:s.heap.get? e=some {cls:=cl,dict:=d,data:=.fields vs})(sz:1 < vs.size)(k:∀h' T,s.heap.objs.size<=T->k6 (YH (env::outer)) [e] s.heap h'->h'.get? e=some {cls:=cl,dict:=d,data:=.fields (vs.setIfInBounds 1 (.ref T))}->ut T (rawInt L) h'->Q () {s with heap:=h'}):
  wpAny M A (frameOf env >>= λa=>entryPlaceOf L i >>= λpl=>EntryCells.newEntry head a .none (rawInt L) .none pl >>= λb=>setField (.ref e) 1 b) Q E s:=by
 have out:e∉YH (env::outer):=λz=>by
  obtain⟨_,i,j,o⟩:=h.mem z;rw[m]at j;cases j;exact o vs rfl
 refine zdO (wpAny_frameOf_fun fr h l λj h=>?_);refine zdO (wpAny_entryPlaceOf λpl o=>?_);have l:j.get? e=some {cls:=cl,dict:=d,data:=.fields vs}:=(h.2.1 e out).trans m;unfold EntryCells.newEntry newFields;refine zdO (wpAny_newObj_type ?_ (o.sizeOk5 _ _ _ _ _));have ne:e≠j.objs.size:=tS (tH l);refine wpAny_setField (tm _ l) rfl sz (k _ j.objs.size (zcX h.1.symm) ⟨λb i n1 n2 q=>?_,λb i n1 n2 q=>?_⟩ ?_ ⟨_,(zag _ _ ne).trans (tJ _ rfl),?_⟩)
 ·have n3:b≠e:=λz=>n2 (by simp [z]);rw[zag _ _ (Ne.symm n3)];exact tm _ ((h.2.1 b n1).trans q)
 ·have n3:b≠e:=λz=>n2 (by simp [z]);obtain⟨j,m⟩:=h.2.2 b i q;exact⟨j,by rw[zag _ _ (Ne.symm n3)];exact tm _ m⟩
 ·exact zaw _ (tm _ l) rfl
 ·rcases o with rfl | ⟨_,_,_,_,_,_,_,rfl⟩<;>simp
def U8{A:Around}{s:Shared}{Q:Unit->Shared->Prop}(fr:A.frames=some (env::outer))(i:s.heap.FunFrames base (env::outer))(a:env.frame=some L)(b:s.heap.get? e=some {cls:=cl,dict:=d,data:=.fields vs})(h:vs[1]?=some .none)(k:∀h' T,s.heap.objs.size<=T->k6 (YH (env::outer)) [e] s.heap h'->h'.get? e=some {cls:=cl,dict:=d,data:=.fields (vs.setIfInBounds 1 (.ref T))}->ut T (rawInt L) h'->Q () {s with heap:=h'}):
  wpAny M A (noteFrame (.ref e) env) Q E s:=by
 unfold noteFrame;simp only[a];refine zdO (wpAny_field b rfl h ?_);rw[if_neg (show ¬((Value.none != Value.none)=true) by decide)];exact uH fr i a b (zaa.mp h).1 k
def wB{s:Shared}{env:Env}{Q:Unit->Shared->Prop}(a:env.frame=some L)(b:s.heap.get? e=some {cls:=cl,dict:=d,data:=.fields vs})(h:vs[1]?=some (.ref T))(st:ut T (rawInt L) s.heap)(k:Q () s):
  wpAny M A (noteFrame (.ref e) env) Q E s:=by
 obtain⟨_,i,j⟩:=st;unfold noteFrame;simp only[a];refine zdO (wpAny_field b rfl h ?_);rw[if_pos (show (Value.ref T != Value.none)=true by simp)];refine zdO (wpAny_field i rfl j ?_);rw[if_pos (show (rawInt L==rawInt L)=true by simp [rawInt])];exact zdP k
def VP{A:Around}{s:Shared}{Q:Unit->Shared->Prop}(fr:A.frames=some (env::outer))(l:s.heap.FunFrames base (env::outer))(m:env.frame=some L)(p:s.heap.get? e=some {cls:=cl,dict:=d,data:=.fields vs})(r:vs[1]?=some (.ref T))(st:ut T .none s.heap)(ne:T≠e)(k:∀h' a,s.heap.objs.size<=a->k6 (YH (env::outer)) [e,T] s.heap h'->(∃o,h'.get? T=some o)->h'.get? e=some {cls:=cl,dict:=d,data:=.fields (vs.setIfInBounds 1 (.ref a))}->ut a (rawInt L) h'->Q () {s with heap:=h'}):
  wpAny M A (noteFrame (.ref e) env) Q E s:=by
 obtain⟨u,h,i⟩:=st;unfold noteFrame;simp only[m];refine zdO (wpAny_field p rfl r ?_);rw[if_pos (show (Value.ref T != Value.none)=true by simp)];refine zdO (wpAny_field h rfl i ?_);rw[if_neg (show ¬((Value.none==rawInt L)=true) by simp [rawInt])];refine zdO (wpAny_setField h rfl (zaa.mp i).1 ?_);have i:∀b,b≠T->(s.heap.update T (Obj.mapFields (·.setIfInBounds 3 Value.none))).get? b=s.heap.get? b:=λb n=>zag _ _ (Ne.symm n);have x:T∉YH (env::outer):=λz=>by
  obtain⟨_,o,v,j⟩:=l.mem z;rw[h]at v;cases v;exact j u rfl
 refine uH fr (l.of_keeps λb o l j=>⟨o,(i b λz=>?_).trans l,rfl⟩) m ((i e (Ne.symm ne)).trans p) (zaa.mp r).1 λh' a m F p r=>?_
 ·rw[z,h]at l;cases l;exact j u rfl
 ·have j:=zaw (Obj.mapFields (·.setIfInBounds 3 Value.none)) h rfl;refine k h' a (tR (zcX (by simp)) m) ⟨λb o n1 n2 q=>?_,λb o n1 n2 q=>?_⟩ ⟨_,F.keep T _ x (by simp [ne]) j⟩ p r
  ·simp only[tL,zaB,or_false,not_or]at n2;exact F.keep b o n1 (by simp [n2.1]) ((i b n2.2).trans q)
  ·simp only[tL,zaB,or_false,not_or]at n2;exact F.slot b o n1 (by simp [n2.1]) ((i b n2.2).trans q)
def Zo{s:Shared}{Q:Unit->Shared->Prop}(h:s.heap.get? e=some {cls:=cl,dict:=d,data:=.fields vs})(i:vs[1]?=some (.ref T))(st:ut T a s.heap)(k:∀h',k6 fs [T] s.heap h'->ut T .none h'->Q () {s with heap:=h'}):wpAny M A (setFlight (.ref e) none) Q E s:=by
 obtain⟨_,a,j⟩:=st;have lt:=(zaa.mp j).1;refine wpAny_setFlight_none h rfl i a rfl lt (k _ ⟨λb h _ n q=>?_,λb h _ n q=>⟨h.slots,?_⟩⟩ ⟨_,zaw _ a rfl,by simp [lt]⟩)
 all_goals
  rw[zag _ _ λz=>n (by simp [z])];exact q
structure X9(ex:List Addr)(n:Nat)(H H':Hp):Prop where
 ext:∀b∈ex,∃φ,H b=some (.ext φ)
 same:∀b o,b∉ex->H b=some o->H' b=some o
 no:∀b,b < n->H b=none->H' b=none
def X9.out(t:X9 ex n H H')(q:H b=some o)(d:∀a,o≠.ext a):b∉ex:=λz=>by
 obtain⟨a,e⟩:=t.ext b z;rw[q]at e;cases e;exact d a rfl
def X9.out0(t:X9 ex n H H')(q:H b=none):b∉ex:=λz=>by
 obtain⟨_,e⟩:=t.ext b z;rw[q]at e;cases e
def Un.fly(F:k6 fs ex h h')(t:X9 ex h.objs.size H H')(e:∀b∈ex,∃o,h'.get? b=some o):Un fs [] H H' h h' where
 keep b o q n a _:=F.keep b o a (t.out0 n) q
 slot b o q n a _:=F.slot b o a (t.out0 n) q
 free b o q n _:=t.no b (tH q) n
 there b o q _:=by
  by_cases d:b∈ex
  ·exact e b d
  ·by_cases a:b∈fs
   ·obtain⟨_,e⟩:=F.slot b o a d q;exact⟨_,e⟩
   ·exact⟨o,F.keep b o a d q⟩
 tups b d q:=t.same b _ (t.out q (by intro a z;cases z)) q
 frzs b o u q:=t.same b _ (t.out q (by intro a z;cases z)) q
 tbls b d q:=⟨#[],by simpa using t.same b _ (t.out q (by intro a z;cases z)) q⟩
def Zd.fly(ok:Zd P w H h)(F:k6 fs ex h h')(t:X9 ex h.objs.size H H')(fr:∀b∈fs,H b=none)(new:∀b o,H' b=some o->(H b=none\/b∈ex)->qI P w H' h' b o):Zd P w H' h':=λb o q=>by
 by_cases d:b∈ex
 ·exact new b o q (.inr d)
 cases e:H b with
 | none=>exact new b o q (.inl e)
 | some u=>
  have a:=t.same b u d e;rw[q]at a;cases a;refine(ok b o e).stay (λc v a g=>F.keep c v ?_ ?_ g) (λc z=>t.same c _ (t.out z (by intro i z;cases z)) z) (λc _ z=>t.same c _ (t.out z (by intro i z;cases z)) z) (λc o z=>t.same c _ (t.out z (by intro i z;cases z)) z)
  ·intro z;have n:=fr c z;rcases a with rfl | a
   ·rw[e]at n;cases n
   ·rw[a]at n;cases n
  ·rcases a with rfl | a
   ·exact d
   ·exact t.out a (by intro i z;cases z)
open PySem PySem.Spec
open PyProof.Rows hiding K lo
def We(T:Addr)(a:Value):HO:=.ext (ut T a)
def zc(x:ut T a h):qI P w H h T (We T a):=by
 obtain⟨a,q,z⟩:=x;exact⟨⟨a,q,z⟩,⟨_,q⟩,λ_ _ ⟨a,b,d⟩ k=>⟨a,k _ b,d⟩⟩
def J4(P:Program)(w:World):uu:=λo H s E e h=>∃a l m i j d,e=.ref a/\h.os=s.os/\AllBare h.gens/\Un (YH o) [] H d s.heap h.heap/\Zd P w d h.heap/\
 d a=some (Q4 a l m (.ref i))/\d i=some (We i .none)/\j i=none/\j a=some (Zb a l m)/\(∀b h,b≠a->j b=some h->d b=some h)/\E (.ref l) (some m) j
def Uf(X:Cx)(E:XK):Prop:=∀(e:List (Addr×Obj)) (h:St) (H:Hp) (s:Shared) (a b d:Addr),qv X e h H s->H a=some (Zb a b d)->E (.ref b) (some d) H->X.xe (.ref a) s
def qv.flown(I:qv X a d H s)(F:k6 (YH X.stack) ex s.heap h')(t:X9 ex s.heap.objs.size H H')(e:∀b∈ex,∃o,h'.get? b=some o)(new:∀b o,H' b=some o->(H b=none\/b∈ex)->qI X.prog X.w H' h' b o):qv X a d H' {s with heap:=h'}:=
 I.call (g':=s.gens) (t':=s.toks) (d':=s.drawn) (ch:=[]) (Un.fly F t e) (Zd.fly I.hok F t I.stkFree new) I.bare λb z=>absurd z (by simp)
def k6.then(F:k6 fs ex h d)(G:k6 fs [T] d e)(a:h.objs.size<=T):k6 fs ex h e where
 keep b o n1 n2 q:=G.keep b o n1 (by simp;exact tS (tF (tH q) a)) (F.keep b o n1 n2 q)
 slot b o n1 n2 q:=by
  obtain⟨_,d⟩:=F.slot b o n1 n2 q;obtain⟨e,i⟩:=G.slot b _ n1 (by simp;exact tS (tF (tH q) a)) d;exact⟨e,i⟩
def ZR:Uf (QK (J4 P w) P w K mg base N i scope f o A outer s₀ H₀ E) E:=by
 intro _ _ H s a j l I h x;obtain⟨⟨u,d,p⟩,_,_⟩:=(show qI P w H s.heap a (Q4 a j l .none) from I.hok a _ h);have fr:=I.ok.frames;have e:=I.stack;show wpAny _ _ (leaving _ _) _ _ s;unfold leaving;refine zdO (U8 fr e rfl d p λ_ e m F d r=>?_);have lt:=(zaa.mp p).1;have g1:(u.setIfInBounds 1 (Value.ref e))[1]?=some (.ref e):=by simp [lt]
 have p:e≠a:=λz=>by
  obtain⟨_,q,_⟩:=r;rw[z,d]at q;cases q
 refine Zo (fs:=YH (QK (J4 P w) P w K mg base N i scope f o A outer s₀ H₀ E).stack) d g1 r λ_ r st=>?_;have v:a∉YH (QK (J4 P w) P w K mg base N i scope f o A outer s₀ H₀ E).stack:=λz=>by
  have:=I.stkFree a z;rw[h]at this;cases this
 have o:H e=none:=I.hok.fresh m;have u:=r.keep a _ v (by simp [Ne.symm p]) d;have i:=I.flown (H':=upd (upd H a (Q4 a j l (.ref e))) e (We e .none)) (k6.then F r m) ⟨λb d=>by cases tK.mp d;exact⟨_,h⟩,λb v d q=>by
   rw[qc (qj q o),qc λz=>d (by simp [z])];exact q,λb d q=>by
   rw[qc (tS (tF d m)),qc λz=>by rw[z,h]at q;cases q];exact q⟩ (λb d=>by cases tK.mp d;exact⟨_,u⟩) λb v q d=>by
  by_cases m:b=e
  ·subst m;rw[qa]at q;cases q;exact zc st
  ·rw[qc m]at q;by_cases m:b=a
   ·subst m;rw[qa]at q;cases q;exact ZW ⟨_,u,g1⟩
   ·rw[qc m]at q;rcases d with d | d
    ·rw[q]at d;cases d
    ·exact absurd (tK.mp d) m
 exact⟨a,j,l,e,H,_,rfl,i.os,i.bare,i.base,i.hok,by rw[qc (Ne.symm p),qa],qa ..,o,h,λb v d q=>by rw[qc (qj q o),qc d];exact q,x⟩
def Ju:Qt (J4 P w) (QK (J4 P w) P w K mg base N r scope f v A outer s₀ H₀ E) E:=by
 intro j l H s e d B C;obtain⟨a,x,y,i,L,m,rfl,os,bare,un,D,p,o,Y,aa,O,hE⟩:=C;have I:qv (QK (J4 P w) P w K mg base N r scope f v A outer s₀ H₀ E) j l m d:=B.call' os un D bare λb z=>absurd z (by simp);obtain⟨⟨C,j,l⟩,_,_⟩:=(show qI P w m d.heap a (Q4 a x y (.ref i)) from I.hok a _ p);obtain⟨B,_,_⟩:=(show qI P w m d.heap i (We i .none) from I.hok i _ o);have fr:=I.ok.frames;have D:=I.stack;have Q:i≠a:=λz=>by
  obtain⟨J,q,_⟩:=B;rw[z,j]at q;cases q
 show wpAny _ _ (leaving _ _) _ _ d;unfold leaving;refine zdO (VP fr D rfl j l B Q λh1 j B F tT d D=>?_);have lt:=(zaa.mp l).1;have g1:(C.setIfInBounds 1 (Value.ref j))[1]?=some (.ref j):=by simp [lt]
 have C:j≠a:=λz=>by
  obtain⟨J,q,_⟩:=D;rw[z,d]at q;cases q
 refine Zo (fs:=YH (QK (J4 P w) P w K mg base N r scope f v A outer s₀ H₀ E).stack) d g1 D λh2 D st=>?_;have T:∀b l,m b=some l->b∉YH (QK (J4 P w) P w K mg base N r scope f v A outer s₀ H₀ E).stack:=λb l q z=>by
  have:=I.stkFree b z;rw[q]at this;cases this
 have r:m j=none:=I.hok.fresh B;have v:j≠i:=(qj o r).symm;have U:=D.keep a _ (T a _ p) (by simp [Ne.symm C]) d;obtain⟨_,d⟩:=tT;have J:=D.keep i _ (T i _ o) (by simp [Ne.symm v]) d;have v:=I.flown (H':=upd (upd (upd m a (Q4 a x y (.ref j))) i (.ext λh=>∃l,h.get? i=some l)) j (We j .none)) (k6.then F D B) ⟨λb d=>by
   simp only[tL,zaB,or_false]at d;rcases d with rfl | rfl
   ·exact⟨_,p⟩
   ·exact⟨_,o⟩,λb l d q=>by
   simp only[tL,zaB,or_false,not_or]at d;rw[qc (qj q r),qc d.2,qc d.1];exact q,λb d q=>by
   rw[qc (tS (tF d B)),qc (λz=>by rw[z,o]at q;cases q),qc (λz=>by rw[z,p]at q;cases q)];exact q⟩ (λb d=>by
   simp only[tL,zaB,or_false]at d;rcases d with rfl | rfl
   ·exact⟨_,U⟩
   ·exact⟨_,J⟩) λb l q d=>by
  by_cases m:b=j
  ·subst m;rw[qa]at q;cases q;exact zc st
  ·rw[qc m]at q;by_cases m:b=i
   ·subst m;rw[qa]at q;cases q;exact⟨⟨_,J⟩,⟨_,J⟩,λh1 h2 ⟨u,z⟩ k=>⟨u,k u z⟩⟩
   ·rw[qc m]at q;by_cases o:b=a
    ·subst o;rw[qa]at q;cases q;exact ZW ⟨_,U,g1⟩
    ·rw[qc o]at q;rcases d with d | d
     ·rw[q]at d;cases d
     ·simp only[tL,zaB,or_false]at d;exact(d.elim o m).elim
 refine⟨a,x,y,j,L,_,rfl,v.os,v.bare,v.base,v.hok,by rw[qc (Ne.symm C),qc (Ne.symm Q),qa],qa ..,?_,aa,λb l d q=>?_,hE⟩
 ·cases e:L j with
  | none=>rfl
  | some l=>
   have:=O j l C e;rw[r]at this;cases this
 ·have n1:b≠i:=λz=>by rw[z,Y]at q;cases q
  have i:=O b l d q;rw[qc (qj i r),qc n1,qc d];exact i
open PySem PySem.Spec
open PyProof.Rows hiding K lo
def wl{A:Around}{b:Obj}{Q:Flow->Shared->Prop}(l:A.handled=none)(o:b.cls=.type "type")(m:∀(h:Heap) (g d t os) (Q:Bool->Shared->Prop),h.get? C=some b->Q true ⟨h,g,d,t,os⟩->wpAny M A (isSubtype (.ref C) (.type "BaseException")) Q E ⟨h,g,d,t,os⟩)(h:wpAny M A x (λv a=>∃e j i,v=.ref e/\a.heap.get? C=some b/\a.heap.get? e=some {cls:=.ref C,dict:=some j,data:=.fields i}/\i[1]?=some Value.none/\E (.ref e) a) E s):
  wpAny M A (raiseStmt env (some x) none) Q E s:=by
 unfold raiseStmt;refine zdO (js h λv a o=>?_);obtain⟨e,j,i,rfl,b,p,q,r⟩:=o;obtain⟨_,g,d,tk,os⟩:=a
 repeat (first | with_reducible refine wpAny_loadPart_at p ?_ | with_reducible refine wpAny_loadPart_at b ?_ | with_reducible refine m _ _ _ _ _ _ b ?_ | wp_step)
 rw[q];refine zdP ?_;rw[if_neg (show ¬((Value.none != Value.none)=true) by decide)];exact zdP (wpAny_raiseNew_none l r)
inductive um(K:zdM)(C:Addr):Prop
 | mk (f:_) (bm:_):F0 K C f bm->bm.contains (.type "BaseException")=true->um K C
inductive yI(K:zdM)(E:XK)(v:V)(H1:Hp):Prop
 | mk (a:_) (C:_) (dx:_):v=.ref a->H1 a=some (Zb a C dx)->um K C->(E (.ref C) (some dx) H1)->yI K E v H1
def KB(K:zdM)(E:XK)(te:TE):TS:=λD a H=>te a H λv a=>yI K E v a
def zG{X:Cx}(B:X.calm=true)(C:Uf X E)(p:JE X e te):JS X (.Raise (some e) none pos) (KB X.K E te):=.of (by
 have p:=p.to;intro o s r H D I h;have ed:∀x:Sem Value,wpAny (model X.prog X.w) X.A x (λu l=>∃v i,qv X o r i l/\qR v u/\∃a b j,v=.ref a/\i a=some (Zb a b j)/\um X.K b/\E (.ref b) (some j) i) X.xe s->
   wpAny (model X.prog X.w) X.A (raiseStmt X.env (some x) none) (SP X o D) X.xe s:=λx m=>by
  unfold raiseStmt;refine zdO (js m λu l ⟨v,i,m,J,a,b,j,L,y,⟨f,O,em,T⟩,U⟩=>?_);subst L;obtain rfl:u=Value.ref a:=J;obtain⟨_,q,N,bs,_,_,sub,_,_,_,_,_,_,_,_,J⟩:=em.obj;obtain⟨⟨L,Y,hz⟩,_,_⟩:=(show qI X.prog X.w i l.heap a (Q4 a b j .none) from m.hok a _ y);have aa:=m.kIn _ _ J;have J:=wl (M:=model X.prog X.w) (A:=X.A) (E:=X.xe) (s:=l) (env:=X.env) (C:=b) (x:=pure (.ref a)) (Q:=SP X o D) (m.ok.hd B) rfl (λh g d t os Q z k=>wpAny_isSubtype_exc z (by
   rw[show (Value.ref b::O).contains (.type "BaseException")=true by rw[zcD,T,Bool.or_true]];exact k)) (zdP ⟨a,j,L,rfl,aa,Y,hz,C o r i l a b j m y U⟩)
  exact J
 rw[arm_exec_Raise];exact zdO (wpAny_standAt (ed _ (zdO (js (p o s r H _ I h) λu l ⟨v,i,m,l,a,b,j,o,p,r,y⟩=>zdO (wpAny_standAt (zdP ⟨v,i,m,l,a,b,j,o,p,r,y⟩)))))))
open PySem PySem.Spec
open PyProof.Rows hiding K lo
def uc{M:Model}{A:Around}{E:Value->Shared->Prop}{h:Heap}{g:Array GenState}{d:Drawn}{t:Nat}{os:OsState}{e C D:Addr}{a i:Obj}{j:Option Addr}{l:Array (Option Value)}{m}{bC bD:List Value}{Q:Bool->Shared->Prop}
  (o:h.get? e=some a) (p:a.cls=.ref C) (x:h.get? C=some i) (q:h.get? D=some ⟨.type "type",j,.cls m,l⟩)
  (r:∀(T:Value) (Q:Bool->Shared->Prop),Q (bC.contains T) ⟨h,g,d,t,os⟩->wpAny M A (isSubtype (.ref C) T) Q E ⟨h,g,d,t,os⟩)
  (u:∀(T:Value) (Q:Bool->Shared->Prop),Q (bD.contains T) ⟨h,g,d,t,os⟩->wpAny M A (isSubtype (.ref D) T) Q E ⟨h,g,d,t,os⟩)
  (v:bD.contains (.type "BaseException")=true)
  (b:Q (bC.contains (.ref D)) ⟨h,g,d,t,os⟩):wpAny M A (excMatches (.ref e) (.ref D)) Q E ⟨h,g,d,t,os⟩:=by
 have f:=tc_notTuple;unfold excMatches
 repeat (first | (with_reducible refine wpAny_loadPart_at o ?_;rw[p]) | with_reducible refine wpAny_loadPart_at q ?_ | (with_reducible refine r _ _ ?_) | (with_reducible refine u _ _ ?_;rw[v]) | wp_step)
 cases a:bC.contains (.ref D)<;>(rw[a]at b;wp_walk;exact b)
open PySem PySem.Spec
open PyProof.Rows hiding K lo
def zX(CX:uu)(X:Cx)(E:St->XK):Prop:=∀(d:List (Addr×Obj)) (a:St) (H:Hp) (s:Shared) (e:Value) (b:Shared),qv X d a H s->CX X.stack H s (E a) e b->X.xe e b
def vK(sp:Sp)(b:List V)(E:St->XK)(t:TA):TE:=λa H Q=>t a H λd e=>sp (d++b) e Q (E a)
def ME{X:Cx}(F:qp X.prog X.w X.K X.mg X.base CX k f i ps sp)(hr:jd k X.A)(j:jZ X.K i ps a)(hd:qK d a)(l:zX CX X E)(I:qv X e b H s)(r:qK vs us)(h:sp (vs++d) H Q (E b)):wpAny (model X.prog X.w) X.A (call (.ref f) us) (EP X e b Q) X.xe s:=by
 have i:qK (vs++d) (us++a):=r.append hd;have m:(us++a).length=ps.length:=i.length.symm.trans (F.len _ _ _ _ h);have run:=F.run X.A X.stack s H ⟨us,[]⟩ (us++a) (vs++d) Q (E b) hr I.env0 (j s us I.kIn m) i h;refine wpAny_call (codeAny_mono run λz a q=>?_)
 match z,q with
 | .error y,q=>exact l e b H s y a I q
 | .ok (.ret u),q=>exact I.after q
def Gh{X:Cx}(F:qp X.prog X.w X.K X.mg X.base CX k f a ps sp)(hr:jd k X.A)(b:Gl X x)(d:X.mg x=some (.ref f))(i:zaD X.K (.ref f)=true)(j:jZ X.K a ps l)(hd:qK m l)(o:zX CX X E)(r:PA X (e::es) t)(u:(x==("__debug__":Str))=false:=by decide)(v:starEach (e::es) X.env=(false,eval e X.env)::starEach es X.env:=by rfl)(y:(backTo pos (starEach es X.env)).any (·.1)=false:=by rfl):
  PE X (.Call (.Name x p) (e::es) [] pos) (vK sp m E t):=by
 intro a s l H Q I h;refine wpAny_Call_Name_kw (zD I b d (zbn (h₀:=X.base) I.ok.mod.kin i (js (r pos a s l H _ I h) λ_ _ ⟨_,_,a,b,q⟩=>⟨a.kIn,ME F hr j hd o a b q⟩) v y) u)
open PySem PySem.Spec
open PyProof.Rows hiding K lo
def No{Q:Value->Shared->Prop}(I:qv X i j H s)(e:H a=some (.dK kvs))(l:H b=some (.dK more))(m:a≠b)(hz:kvs.length+more.length<=zdR)(h:∀d,qv X i j (upd H a (.dK (jN kvs more))) d->Q .none d):
  wpAny (model X.prog X.w) A (call (.builtin "dict.update") [.ref a,.ref b]) Q E s:=by
 obtain⟨z,hd,j,c_,d⟩:=xu I.hok e;obtain⟨_,o,p,i,r⟩:=xu I.hok l;refine call_meetsIn zcQ d.typeIs PySem.F.entry_dict_update (PySem.F.args_dict_update_2 _ _) (meets_dict_update (qZ X.prog X.w) a b m o) ⟨j,p,d,r,by rw[<-c_.length,<-i.length];exact hz,λj d _ l=>h _ ?_⟩;have m:∃q,j.get? a=some q:=let ⟨q,_,_,o,_⟩:=d;⟨q,o⟩;exact zT (t':=s.toks) I (by rw[e];exact True.intro) l m (V7 (tR (Q7 more kvs) hz) hd (i.merge c_) d)
inductive uS(ty:TE)(σ:St)(Q:VK)(x:V)(H1:Hp):Prop
 | mk (a:_):x=.ref a->Hi H1 a->(ty σ H1 λy H2=>∃b kvs more,y=.ref b/\H2 a=some (.dK kvs)/\H2 b=some (.dK more)/\a≠b/\kvs.length+more.length<=zdR/\Q .non (upd H2 a (.dK (jN kvs more))))->uS ty σ Q x H1
def Ed(b ty:TE):TE:=λa H Q=>b a H λx b=>uS ty a Q x b
def At(i:JE X o l)(j:JE X e ty)(m:M1 X o "update" b_ e p):JE X (.Call (.Attribute o "update" b_) [e] [] p) (Ed l ty):=.of (by
 have i:=i.to;have j:=j.to;intro l s p H Q I h;refine wpAny_Call_method m.base m.few m.line zbF zcQ PySem.F.type_dict_update (js (i l s p H _ I h) λu q ⟨x,r,i,v,a,ex,d,z⟩=>?_);subst ex;obtain rfl:u=Value.ref a:=v;obtain⟨v,B,_⟩:=kD i d;refine⟨v,B,?_⟩;rw[m.trees];refine Calls.callWith_builtin rfl (Calls.evalArgs_plain (Calls.spliced_cons (js (j l q p r _ i z) λi _ ⟨y,_,j,l,b,kvs,more,p,q,r,v,z,B⟩=>Calls.spliced_nil ?_)));subst p;obtain rfl:i=Value.ref b:=l;exact No j q r v z λ_ i=>⟨.non,_,i,rfl,B⟩)
def Iy{us:List Value}(h:us.length=0):us=[]:=zaX h
def ku{us:List Value}(h:us.length=n+1):∃a r,us=a::r/\r.length=n:=by
 cases us with
 | nil=>cases h
 | cons a r=>exact⟨a,r,rfl,zcT.inj h⟩
def Dj{us:List Value}(h:us.length=1):∃a,us=[a]:=by
 obtain⟨a,_,rfl,b⟩:=ku h;exact⟨a,by rw[Iy b]⟩
def vh{us:List Value}(h:us.length=2):∃a b,us=[a,b]:=by
 obtain⟨a,_,rfl,d⟩:=ku h;obtain⟨b,rfl⟩:=Dj d;exact⟨a,b,rfl⟩
def Di{us:List Value}(h:us.length=3):∃a b c,us=[a,b,c]:=by
 obtain⟨a,_,rfl,d⟩:=ku h;obtain⟨b,c,rfl⟩:=vh d;exact⟨a,b,c,rfl⟩
def FA{us:List Value}(h:us.length=4):∃a b c d,us=[a,b,c,d]:=by
 obtain⟨a,_,rfl,e⟩:=ku h;obtain⟨b,c,d,rfl⟩:=Di e;exact⟨a,b,c,d,rfl⟩
open PySem PySem.Spec
open PyProof.Rows hiding K lo
abbrev Cx.suite(X:Cx)(a:Value)(E:Value->Shared->Prop):Cx:={X with A:=X.A.mark (some a),calm:=false,xe:=E}
abbrev Cx.tried(X:Cx)(pn:List (Addr×Obj))(E:Value->Shared->Prop):Cx:={X with xe:=E,pn:=pn}
def Cx.Ok.suite{X:Cx}(o:X.Ok)(a:Value)(E:Value->Shared->Prop):(X.suite a E).Ok:=⟨o.mod,o.kind,o.glob,o.blt,o.above,o.inj,o.has,o.cab,λz=>Bool.noConfusion z,o.frames,o.stk,o.exf,o.bs,o.bsz,o.noex,o.exfs,o.funs,o.frf⟩
def Cx.Ok.tried{X:Cx}(o:X.Ok)(pn:List (Addr×Obj))(E:Value->Shared->Prop):(X.tried pn E).Ok:=⟨o.mod,o.kind,o.glob,o.blt,o.above,o.inj,o.has,o.cab,o.hd,o.frames,o.stk,o.exf,o.bs,o.bsz,o.noex,o.exfs,o.funs,o.frf⟩
def qv.suite(I:qv X b d H s)(a:Value)(E:Value->Shared->Prop):qv (X.suite a E) b d H s:=⟨I.ok.suite a E,I.os,I.bare,I.base,I.loc,I.cell,I.free,I.freeC,I.pin,I.hok,I.len⟩
def qv.unsuite(d:qv X b h i j)(I:qv (X.suite a E) b e H s):qv X b e H s:=⟨d.ok,I.os,I.bare,I.base,I.loc,I.cell,I.free,I.freeC,I.pin,I.hok,I.len⟩
def qv.tried(I:qv X a b H s)(E:Value->Shared->Prop):qv (X.tried (X.pn++a) E) [] b H s:=⟨I.ok.tried _ E,I.os,I.bare,I.base,I.loc,I.cell,I.free,I.freeC,λa b=>I.pin a (by simpa using b),I.hok,I.len⟩
def qv.untried(b:qv X a e h i)(I:qv (X.tried (X.pn++a) E) j d H s):qv X a d H s:=⟨b.ok,I.os,I.bare,I.base,I.loc,I.cell,I.free,I.freeC,λa b=>I.pin a (tV _ b),I.hok,I.len⟩
abbrev TH:=Addr->Addr->Addr->TS
def PH(X:Cx)(j:List ExceptHandler)(t:TH):Prop:=
 ∀(d:List (Addr×Obj)) (s:Shared) (e:St) (H:Hp) (D:Jk) (a h i b:Addr),qv X d e H s->H a=some (Q4 a h i (.ref b))->H b=some (We b .none)->t h a i D e H->
  wpAny (model X.prog X.w) X.A (handleBy (.ref a) X.env j) (SP X d D) X.xe s
def RX:TH:=λ_ _ _ _ _ _=>False
def wC:PH X a RX:=λ_ _ _ _ _ _ _ _ _ _ _ _ h=>h.elim
inductive ND(K:zdM)(C:Addr):Prop
 | mk (bm:_):((∃nm q N bs eW sn sub ab fi dd k0 k1 k2 k3 k5,K.lookup C=some (excClassObj nm q C N bs bm eW sn sub ab fi dd k0 k1 k2 k3 k5 "ValueError.__new__")))->bm.contains (.type "BaseException")=true->ND K C
def um.c(h:um K C):ND K C:=let ⟨_,d,a,b⟩:=h;⟨d,a.obj,b⟩
inductive Bu(tb:(St->XK)->TS)(th:TH)(D:Jk)(σ:St)(H:Hp):Prop
 | mk (R:Addr->Addr->Hp->Prop):(tb (λeM c d Hx=>eM=σ/\∃C dx,c=.ref C/\d=some dx/\R C dx Hx) D σ H)->(∀(a C dx T:Addr) (Hx H':Hp),R C dx Hx->Hx a=some (Zb a C dx)->(∀b o,b≠a->Hx b=some o->H' b=some o)->H' a=some (Q4 a C dx (.ref T))->th C a dx D σ H')->Bu tb th D σ H
def EE(tb:(St->XK)->TS)(a:TH):TS:=λD b H=>Bu tb a D b H
def NS{X:Cx}{tb:(St->XK)->TS}(aa:X.stack=X.env::X.outer)(af:X.env.frame=some X.env.locals)(d:∀(pn:List (Addr×Obj)) (W:Value->Shared->Prop) (E:St->XK),zX (J4 X.prog X.w) (X.tried pn W) E->NH (X.tried pn W) eF (tb E))(hh:PH X (h0::hs) th):PS X (.Try eF (h0::hs) [] [] pos) (EE tb th):=by
 intro J s σ H D I h;obtain⟨R,ag,hx⟩:=h;refine wpAny_Try_except ?_;refine wpAny_mono (d (X.pn++J) (λe ah=>wpAny (model X.prog X.w) X.A (noteFrame e X.env) (λ_ ai=>wpAny (model X.prog X.w) X.A (setFlight e none) (λ_ aj=>wpAny (model X.prog X.w) X.A (handleBy e X.env (h0::hs)) (SP X J D) X.xe aj) X.xe ai) X.xe ah) _ ?_ [] s σ H D (I.tried _) ag) (λf s1 q=>?_) (λ_ _ z=>z)
 ·intro as l H1 s1 e O I1 hc;obtain⟨a,y,B,j,Hx,o,rfl,os,bare,un,ak,L,C,al,am,an,rfl,C',au,eC,eD,hR⟩:=hc;cases eC;cases eD;have p:qv X J l o O:=I.untried (I1.call' os un ak bare λb z=>absurd z (by simp));obtain⟨⟨fl,he,hz⟩,_,_⟩:=(show qI X.prog X.w o O.heap a (Q4 a y B (.ref j)) from p.hok a _ L);obtain⟨ab,_,_⟩:=(show qI X.prog X.w o O.heap j (We j .none) from p.hok j _ C);have ac:j≠a:=λz=>by
   obtain⟨ts,q,_⟩:=ab;rw[z,he]at q;cases q
  have fr:=p.ok.frames;have ff:=p.stack;rw[aa]at fr ff;refine VP fr ff af he hz ab ac λh1 i Q F tT T q2=>?_;have lt:=(zaa.mp hz).1;have g1:(fl.setIfInBounds 1 (Value.ref i))[1]?=some (.ref i):=by simp [lt]
  have nT:i≠a:=λz=>by
   obtain⟨ts,q,_⟩:=q2;rw[z,T]at q;cases q
  refine Zo (fs:=YH X.stack) T g1 q2 λh2 U ao=>?_;have ae:∀b m,o b=some m->b∉YH X.stack:=λb m q z=>by
   have:=p.stkFree b z;rw[q]at this;cases this
  have Y:o i=none:=p.hok.fresh Q;have ap:i≠j:=(qj C Y).symm;have q3:=U.keep a _ (ae a _ L) (by simp [Ne.symm nT]) T;obtain⟨oT,aq⟩:=tT;have q4:=U.keep j _ (ae j _ C) (by simp [Ne.symm ap]) aq;rw[<-aa]at F;have I3:=p.flown (H':=upd (upd (upd o a (Q4 a y B (.ref i))) j (.ext λh=>∃m,h.get? j=some m)) i (We i .none)) (k6.then F U Q) ⟨λb d=>by
    simp only[tL,zaB,or_false]at d;rcases d with rfl | rfl
    ·exact⟨_,L⟩
    ·exact⟨_,C⟩,λb m d q=>by
    simp only[tL,zaB,or_false,not_or]at d;rw[qc (qj q Y),qc d.2,qc d.1];exact q,λb d q=>by
    rw[qc (tS (tF d Q)),qc (λz=>by rw[z,C]at q;cases q),qc (λz=>by rw[z,L]at q;cases q)];exact q⟩ (λb d=>by
    simp only[tL,zaB,or_false]at d;rcases d with rfl | rfl
    ·exact⟨_,q3⟩
    ·exact⟨_,q4⟩) λb m q d=>by
   by_cases e1:b=i
   ·subst e1;rw[qa]at q;cases q;exact zc ao
   ·rw[qc e1]at q;by_cases e2:b=j
    ·subst e2;rw[qa]at q;cases q;exact⟨⟨_,q4⟩,⟨_,q4⟩,λh1 h2 ⟨u,z⟩ k=>⟨u,k u z⟩⟩
    ·rw[qc e2]at q;by_cases e3:b=a
     ·subst e3;rw[qa]at q;cases q;exact ZW ⟨_,q3,g1⟩
     ·rw[qc e3]at q;rcases d with d | d
      ·rw[q]at d;cases d
      ·simp only[tL,zaB,or_false]at d;exact(d.elim e3 e2).elim
  have ea:upd (upd (upd o a (Q4 a y B (.ref i))) j (.ext λh=>∃m,h.get? j=some m)) i (We i .none) a=some (Q4 a y B (.ref i)):=by rw[qc (Ne.symm nT),qc (Ne.symm ac),qa]
  refine hh J _ l _ D a y B i I3 ea qa (hx a y B i Hx _ hR am (λb m nb q=>?_) ea);have n1:b≠j:=λz=>by rw[z,al]at q;cases q
  have q':=an b m nb q;rw[qc (qj q' Y),qc n1,qc nb];exact q'
 ·cases f with
  | next=>
   obtain⟨l,r,x,q⟩:=q;exact wpAny_execs_nil ⟨l,r,I.untried x,q⟩
  | brk=>
   obtain⟨l,r,x,q⟩:=q;exact⟨l,r,I.untried x,q⟩
  | cont=>
   obtain⟨l,r,x,q⟩:=q;exact⟨l,r,I.untried x,q⟩
  | ret u=>
   obtain⟨v,l,r,x,ar,q⟩:=q;exact⟨v,l,r,I.untried x,ar,q⟩
@[irreducible] def JH (X:Cx) (a:List ExceptHandler) (t:TH):Prop:=PH X a t
def JH.of(h:PH X a t):JH X a t:=by unfold JH;exact h
def JH.to(h:JH X a t):PH X a t:=by unfold JH at h;exact h
def RC:JH X a RX:=.of wC
def Dp{X:Cx}{tb:(St->XK)->TS}(a:X.stack=X.env::X.outer)(b:X.env.frame=some X.env.locals)(d:∀(pn:List (Addr×Obj)) (W:Value->Shared->Prop) (E:St->XK),zX (J4 X.prog X.w) (X.tried pn W) E->Wo (X.tried pn W) eF (tb E))(e:JH X (i::j) l):JS X (.Try eF (i::j) [] [] pos) (EE tb l):=
 .of (NS a b (λpn W E h=>(d pn W E h).to) e.to)
end L2
namespace PySem
open PySem.Spec
namespace F
def plain_dupd_loop:plainId "dict.update.loop"=true:=by decide+kernel
def entry_dupd_loop:entryFor table "dict.update.loop"=some Builtin.«dict.update.loop»:=entryFor_of_fast (by kernel_rfl)
end F
def Heap.DictOf.keepsAt{prog:Program}{w:World}{κ:Type}[DecidableEq κ]{knd:KeyKind prog w κ}{h h':Heap}{a:Addr}{kvs:List (κ×Value)}(b:h.DictOf knd a kvs)(k:∀o,h.get? a=some o->h'.get? a=some o):h'.DictOf knd a kvs:=
 let ⟨o,d,e,i,j⟩:=b;⟨o,d,e,k o i,j⟩
section
variable{prog:Program}{w:World}{A:Around}{R:Result->Shared->Prop}{I:Addr}{fp wr:List Addr}{n:Nat}{P:Nat->Value->Prop}{St:Nat->Heap->Prop}{κ:Type}[DecidableEq κ]{knd:KeyKind prog w κ}
def DQ(knd:KeyKind prog w κ)(h:Heap)(wr:List Addr)(d:Addr)(v:Value)(kv:κ×Value):Prop:=∃a b c k,v=.ref a/\h.get? a=some b/\b.cls=.type "tuple"/\b.data=.seq #[k,kv.2] c/\knd.is kv.1 k=true/\a∉wr/\a≠d
def zU(W:Walks prog w A.in1 I fp wr n P St)(kv:Nat->κ×Value)(d:Addr)(x:d∉fp)(a:n<=1000):
  ∀(k i:Nat) (s:Shared) (t:Tok) (kvs:List (κ×Value)),n - i=k->i<=n->St i s.heap->s.heap.DictOf knd d kvs->kvs.length<=i->(∀j v,P j v->DQ knd s.heap wr d v (kv j))->
  (∀h' tk,h'.DictOf knd d (merged kvs (((tQ n).drop i).map kv))->(∀b o,b∉wr->b≠d->s.heap.get? b=some o->h'.get? b=some o)->R (.ok (.ret .none)) {s with heap:=h',toks:=tk})->
  codeAny (model prog w) A (.builtin "dict.update.loop" ⟨[.ref d,.ref I,.int i t,.none],[]⟩) R s:=by
 have p:d∉wr:=λh=>x (W.sub _ h);intro k;induction k with
 | zero=>
  intro i s t kvs u y m hd B q r;have a:i=n:=by omega
  subst a;refine codeAny_builtin F.entry_dupd_loop ?_;rw[Around.under_plainId F.plain_dupd_loop _];show wpAny _ A.in1 (pyNext (.ref I) >>= _) _ _ s;refine zdO (W.done s _ _ m λh' tk l=>?_);show wpAny _ A.in1 (Builtin.Dict.addKeywords d [] >>= _) _ _ _;refine zdO (zdP (zdP (r h' tk ?_ λb o a _ e=>l b o a e)));rw[List.drop_of_length_le (by simp)];exact hd.keepsAt λo e=>l d o p e
 | succ k C=>
  intro i s t kvs u y m hd B q r;have u:i < n:=by omega
  refine codeAny_builtin F.entry_dupd_loop ?_;rw[Around.under_plainId F.plain_dupd_loop _];show wpAny _ A.in1 (pyNext (.ref I) >>= _) _ _ s;refine zdO (W.item i s _ _ u m λv h' tk y B l=>?_);obtain⟨m,o,c,ed,rfl,D,H,J,L,O,_⟩:=q i v y;have y:=l m o O D;have D:h'.DictOf knd d kvs:=hd.keepsAt λo e=>l d o p e;have ty:(⟨h',s.gens,s.drawn,tk,s.os⟩:Shared).TypeIs (.ref m) "tuple":=⟨o,y,H⟩;refine zdO (wpAny_holding (zdO (wpAny_tryCatch ?_)));unfold Builtin.Dict.pairItems;refine zdO (wpAny_typeOf ty ?_);rw[if_pos (by decide)];refine zdO (wpAny_seqItems y J (zdP ?_));refine(show wpAny _ _ (holding [ed,(kv i).2] (dictSet d ed (kv i).2)) _ _ _ from wpAny_holding (wpAny_dictSet_pairs L D (λD H y=>?_) (by rw[sizeLine_eq];omega)));refine zdP ⟨plainId_quiet F.plain_dupd_loop _,?_⟩;have keep:∀b o,b∉wr->b≠d->s.heap.get? b=some o->D.get? b=some o:=λb o a p e=>(y.2 b p).trans (l b o a e);have len:(stored kvs (kv i).1 (kv i).2).length<=i+1:=by
   have:=stored_length_le kvs (kv i).1 (kv i).2;omega
  refine C (i+1) _ _ (stored kvs (kv i).1 (kv i).2) (by omega) u (W.frame _ _ _ B λb a o e=>(y.2 b (λz=>x (z▸a))).trans e) H len (λj v x=>?_) λy B C D=>?_
  ·obtain⟨m,o,c,k,H,J,l⟩:=q j v x;exact⟨m,o,c,k,H,keep m o l.2.2.2.1 l.2.2.2.2 J,l⟩
  ·refine r y B ?_ λb o a p e=>D b o a p (keep b o a p e);have e:(tQ n).drop i=i::(tQ n).drop (i+1):=by
    rw[List.drop_eq_getElem_cons (by simpa using u)];simp
   rw[e];exact C
end
section
variable{prog:Program}{w:World}{A:Around}{E:Value->Shared->Prop}{s:Shared}{κ:Type}[DecidableEq κ]{knd:KeyKind prog w κ}
def VS:typeLookup (.type "list") "keys"=pure none:=by rw[typeLookup_type,builtinLookup_eq_fast];kernel_rfl
def VW{Q:Option Value->Shared->Prop}(i:s.heap.get? a=some o)(j:o.cls=.type "list")(l:o.data=.seq xs k)(hd:o.dict=none)(m:A.handled=none)(h:∀h' tk,(∀b o,s.heap.get? b=some o->h'.get? b=some o)->Q none {s with heap:=h',toks:=tk}):wpAny (model prog w) A (getAttr? (.ref a) "keys") Q E s:=by
 obtain⟨c,_,_,p⟩:=o;simp only at j l hd;subst j l hd;obtain⟨q,g,d,tk,os⟩:=s;have j:∀l,(⟨q,g,d,l,os⟩:Shared).TypeIs (.ref a) "list":=λ_=>⟨_,i,rfl⟩;have f1:=sub_AttributeError;have q:=F.slot_list_getattribute.lookup;have q:=F.slot_list_getattribute.bind (.ref a);have q:=am_list_getattr_none;unfold getAttr? getAttrBy? getAttrBy
 repeat (any_goals (first | assumption | exact j _ | ((with_reducible show wpAny _ _ (call (Value.builtin "list.__getattribute__") _ _) _ _ _);refine call_meets F.slot_list_getattribute (j _) am_entry_list_getattribute (F.args_list_getattribute_2 _ _) (meets_getattribute_miss_list a xs k p "keys" _ VS (by decide+kernel)) ⟨i,m,λh' l e i=>?_⟩) | wp_step))
 obtain⟨_,_,_⟩:=i.there;show wpAny _ _ (getattributeRaised _ _ _ _ _ _ _) _ _ _;unfold getattributeRaised
 repeat (any_goals (first | assumption | wp_step))
 exact h _ _ i.of.keeps
def YS{kv:Nat->κ×Value}{Q:Value->Shared->Prop}(pl:PlainL s.heap src items)(hp:∀j v,items[j]?=some v->∃p o c ed,v=.ref p/\s.heap.get? p=some o/\o.cls=.type "tuple"/\o.data=.seq #[ed,(kv j).2] c/\knd.is (kv j).1 ed=true)(y:items.size<=1000)(r:A.handled=none)(h:∀h' tk,h'.DictOf knd s.heap.objs.size (merged [] ((tQ items.size).map kv))->(∀b o,s.heap.get? b=some o->h'.get? b=some o)->Q (.ref s.heap.objs.size) {s with heap:=h',toks:=tk}):
  wpAny (model prog w) A (call (.type "dict") [.ref src]) Q E s:=by
 refine callType_codes (Q₁:=λobj a=>obj=.ref s.heap.objs.size/\a={s with heap:=s.heap.push {cls:=.type "dict",data:=.dict #[]}}) F.kt_called_dict (F.kt_typeCall_dict_1 _) F.entry_dict_init (kt_code_dict_new _ ⟨rfl,rfl⟩) ?_;rintro obj a ⟨rfl,rfl⟩;have m:(s.heap.push {cls:=.type "dict",data:=.dict #[]}).DictOf knd s.heap.objs.size []:=Heap.DictOf.new s.heap;have a:∀b o,s.heap.get? b=some o->(s.heap.push {cls:=.type "dict",data:=.dict #[]}).get? b=some o:=λb o e=>tm _ e;obtain⟨ol,nl,d,q,hd,u⟩:=id pl;have ty:(⟨s.heap.push {cls:=.type "dict",data:=.dict #[]},s.gens,s.drawn,s.toks,s.os⟩:Shared).TypeIs (.ref src) "list":=⟨ol,a _ _ d,q⟩;refine⟨m.typeIs,F.args_dict_init_2 _ _,?_⟩;unfold Builtin.«dict.__init__»;refine zdO ?_;unfold Builtin.Dict.selfAndRest;refine zdO (wpAny_notOrdered_dict m.typeIs ?_);show wpAny _ _ (pure (s.heap.objs.size,[Value.ref src])) _ _ _;refine zdP ?_;show wpAny _ _ (Builtin.Dict.updateFrom "dict.__init__" s.heap.objs.size (.ref src) [] .none) _ _ _;unfold Builtin.Dict.updateFrom;refine zdO (wpAny_typeOf ty ?_);rw[if_pos (by decide)];refine zdO (VW (a _ _ d) q u hd r λi _ l=>?_);rw[if_pos (show (none:Option Value).isNone=true from rfl)];refine zdO (wpAny_rule ?_);have x:PlainL i src items:=⟨ol,nl,l _ _ (a _ _ d),q,hd,u⟩;have u:src < i.objs.size:=tH (l _ _ (a _ _ d));have q:i.DictOf knd s.heap.objs.size []:=m.keepsAt λo e=>l _ o e;have m:s.heap.objs.size < i.objs.size:=by
  obtain⟨o,_,_,e,_⟩:=q;exact tH e
 refine zdO (wpAny_pyIter_list x.isList ?_);refine zdP ⟨plainId_quiet F.plain_dupd_loop _,?_⟩;have W:=Walks.list (prog:=prog) (w:=w) (A:=A.in1.in1) r i.objs.size src (tS u) items;have i:s.heap.objs.size≠src:=Ne.symm (tS (tH d));refine zU (A:=A.in1) W kv s.heap.objs.size (by simp only[tL,zbb,or_false,not_or];exact⟨tS m,i⟩) y items.size 0 _ _ [] (by omega) (zat _)
  ⟨⟨_,tJ _ rfl,rfl,rfl⟩,x.isList.at λo e=>tm _ e⟩ (q.push _) (zat _) (λj v i=>?_) λd m q r=>⟨rfl,h d m q λb o e=>?_⟩
 ·obtain⟨p,o,c,ed,m,d,q,u,x⟩:=hp j v i;have i:=l _ _ (a _ _ d);refine⟨p,o,c,ed,m,tm _ i,q,u,x,?_,tS (tH d)⟩;simp only[tL,zbb,or_false];exact tS (tH i)
 ·have d:=l _ _ (a _ _ e);refine r b o ?_ (tS (tH e)) (tm _ d);simp only[tL,zbb,or_false];exact tS (tH d)
end
end PySem
namespace L2
open PySem PySem.Spec
open PyProof.Rows hiding K lo
inductive yS(K:zdM)(xs:List V)(H:Hp)(Q:VK):Prop
 | mk (p:Addr) (ps:List Addr) (kvs:List (qF×V)):xs=[.ref p]->(Q6 K H p (ps.map V.ref))->ps.length=kvs.length->((∀(i:Nat) (a:Addr) (kv:qF×V),ps[i]?=some a->kvs[i]?=some kv->zZ K H a [kV kv.1,kv.2]))->(kvs.length<=1000)->(∀d,H d=none->Q (.ref d) (upd H d (.dK (jN [] kvs))))->yS K xs H Q
def K7(K:zdM):List V->Hp->VK->Prop:=λa H Q=>yS K a H Q
def XA(I:qv X L O H s):∀(ps:List Addr) (kvs:List (qF×V)),ps.length=kvs.length->(∀(i:Nat) (a:Addr) (kv:qF×V),ps[i]?=some a->kvs[i]?=some kv->zZ X.K H a [kV kv.1,kv.2])->
  ∃rs:List (qF×Value),KV kvs rs/\rs.length=ps.length/\∀(i:Nat) (a:Addr),ps[i]?=some a->∃kv o c ed,rs[i]?=some kv/\s.heap.get? a=some o/\o.cls=.type "tuple"/\o.data=.seq #[ed,kv.2] c/\(qZ X.prog X.w).is kv.1 ed=true
 | [],[],_,_=>⟨[],.nil,rfl,λi a e=>by simp at e⟩
 | [],_::_,h,_=>by cases h
 | _::_,[],h,_=>by cases h
 | a::ps,kv::kvs,h,k=>by
  obtain⟨rs,j,l,m⟩:=XA I ps kvs (zcT.inj h) λi b p q r=>k (i+1) b p (by simpa using q) (by simpa using r);obtain⟨Q,u,⟨o,e,v,n1,x⟩,_⟩:=I.tuple (k 0 a kv rfl rfl);cases u with
  | cons y z=>
   cases z with
   | cons B C=>
    cases C;rename_i D J;refine⟨(kv.1,J)::rs,.cons ⟨rfl,B⟩ j,by simp [l],λi b d=>?_⟩;cases i with
    | zero=>
     cases d;exact⟨_,o,n1,D,rfl,e,v,x,YE y⟩
    | succ i=>exact m i b (by simpa using d)
def X4{X:Cx}(p:X.calm=true):Jh X (.type "dict") (K7 X.K):=by
 intro _ s _ H _ _ Q I b h;obtain⟨_,j,kvs,rfl,d,le,l,r,q⟩:=h;obtain⟨u,rfl,m⟩:=JL b;cases m;obtain⟨_,b,x,_⟩:=I.list d;obtain rfl:=Wt b;obtain⟨d,y,m,z⟩:=XA I j kvs le l;have o:(j.map Value.ref).toArray.size=d.length:=by simp [m]
 have B:(tQ (j.map Value.ref).toArray.size).map (λb=>(d[b]?).getD (Sum.inl 0,Value.none))=d:=by
  rw[o];refine zcM λi=>?_;rw[tw];by_cases l:i < d.length
  ·rw[zbt l,tr l];simp [l]
  ·rw[zbm (by rw[zaf];omega),zbm (by omega)];rfl
 refine YS (knd:=qZ X.prog X.w) (kv:=λb=>(d[b]?).getD (Sum.inl 0,Value.none)) x (λb v x=>?_) (by rw[o,m,le];exact r) (I.ok.hd p) λo tk m p=>?_
 ·have l:(j.map Value.ref)[b]?=some v:=by simpa using x
  rw[tw]at l;cases e:j[b]? with
  | none=>rw[e]at l;cases l
  | some a=>
   rw[e]at l;obtain⟨_,j,c,ed,f1,f2,r,x,C⟩:=z b a e;refine⟨a,j,c,ed,(tA.inj l).symm,f2,r,?_,?_⟩
   ·show j.data=.seq #[ed,((d[b]?).getD (Sum.inl 0,Value.none)).2] c;rw[f1];exact x
   ·show (qZ X.prog X.w).is ((d[b]?).getD (Sum.inl 0,Value.none)).1 ed=true;rw[f1];exact C
 ·rw[B]at m;have b:=I.hok.fresh (tf s.heap.objs.size);have big:(s.heap.objs.size==sysModules)=false:=beq_eq_false_iff_ne.mpr (Ne.symm (tS I.big));have d:(jN [] kvs).length<=zdR:=by
   have:=Q7 kvs [];rw[zcr]at this;rw[sizeLine_eq];omega
  exact⟨.ref s.heap.objs.size,_,I.laid (a:=s.heap.objs.size) (o:=.dK (jN [] kvs)) (h':=o) (t':=tk) p (tf _) (V7 d big (y.merge .nil) m),rfl,q _ b⟩
open PySem PySem.Spec PySem.W
open PyProof.Rows hiding K lo
def Re{α:Type}{l:List α}(nd:l.Nodup){a:i < l.length}{b:j < l.length}(e:l[i]=l[j]):i=j:=by
 have h:=zaJ.mp nd;rcases zaY i j with c | c | c
 ·exact absurd e (h i j a b c)
 ·exact c
 ·exact absurd e.symm (h j i b a c)
inductive K8(K:zdM)(x:V)(y:V)(H:Hp)(Q:VK):Prop
 | mk (a:_) (b:_) (xs:_) (ys:_):x=.ref a->y=.ref b->Q6 K H a xs->Q6 K H b ys->(xs.length+ys.length<=zdR)->(∀l,H l=none->Q (.ref l) (upd H l (.lst (xs++ys))))->K8 K x y H Q
def ES(K:zdM):R2:=λx y H Q=>K8 K x y H Q
def Paired.app:∀{l m:List α} {b d:List β},Paired G l b->Paired G m d->Paired G (l++m) (b++d)
 | _,_,_,_,.nil,h=>h
 | _,_,_,_,.cons a b,h=>.cons a (Paired.app b h)
def YY:Z0 X (binaryOp .Add) (ES X.K):=by
 intro _ s _ H x y v u Q I d i h;obtain⟨a,b,B,C,rfl,rfl,l,m,D,q⟩:=h;cases d;cases i;obtain⟨d,j,p,_⟩:=I.list l;obtain⟨i,l,J,_⟩:=I.list m;have m:=j.length;have m:=l.length;obtain⟨⟨cls,L,data,O⟩,m,o,n,hd⟩:=id p.isList;obtain⟨⟨_,T,fx,U⟩,p,r,n2,z⟩:=id J.isList;simp only at o hd r z;subst o hd r z;have e:d.toArray++i.toArray=(d++i).toArray:=by simp
 refine concat_meets ⟨_,m,rfl⟩ ⟨_,p,rfl⟩ noFill_list_add seq_list_add PySem.F.slot_list_add PySem.F.entry_list_add (PySem.F.args_list_add_2 _ _) (list_addW a b d.toArray i.toArray n n2 L T O U (by simp only[t7];omega)) ⟨m,p,?_⟩;rw[e];exact⟨.ref s.heap.objs.size,_,I.laid (t':=s.toks) (o:=.lst (B++C)) (λb u h=>tm _ h) (tf _) ⟨by rw[tv];exact D,d++i,_,Paired.app j l,tJ _ rfl⟩,rfl,q _ (I.hok.fresh (tf _))⟩
open PySem PySem.Spec PySem.W
open PyProof.Rows hiding K lo
inductive K1(K:zdM)(x:V)(y:V)(H:Hp)(Q:VK):Prop
 | mk (a b:Addr) (xs:List V):x=.ref a->y=.ref b->Q6 K H a xs->(Q6 K H b [])->(Q (.bl (!xs.isEmpty)) H)->K1 K x y H Q
def EK(K:zdM):R2:=λx y H Q=>K1 K x y H Q
def VL{X:Cx}(hu:X.A.units < cLine):Z0 X (compareOp .NotEq) (EK X.K):=by
 intro _ s _ H x y v u Q I m o h;obtain⟨a,b,d,rfl,rfl,p,r,q⟩:=h;cases m;cases o;obtain⟨e,i,j,_⟩:=I.list p;obtain⟨m,o,l,_⟩:=I.list r;have z:m=[]:=zaX o.length.symm;subst z;cases d with
 | nil=>
  have B:e=[]:=zaX i.length.symm;subst B;exact EqBoolInt.of_rcne (SeqAt.RcNeAt.lists (e:=λ_=>true) j.isList l.isList rfl hu λm o _=>absurd o (zcf m)) ⟨.bl _,H,I,rfl,q⟩
 | cons x d=>
  cases e with
  | nil=>cases i
  | cons d e=>exact EqBoolInt.of_rcne (SeqAt.RcNeAt.lists_lengths j.isList l.isList (by simp) hu) ⟨.bl true,H,I,rfl,q⟩
open PySem PySem.Spec PySem.W
open PyProof.Rows hiding K lo
open PySem PySem.Spec PySem.W
open PyProof.Rows hiding K lo
open PySem
open PyProof.Rows hiding K lo
def Yt{α:Type}{K:zdM}{a D:Addr}{xs:List α}{enc:α->V}{out:α->Option V}{rest:St}{H:Hp}{tt:TT}{te:TE}{Q:Hp->Prop}(o:H D=none)(j:H a=some (.lst (xs.map enc)))(len:xs.length < zdR)
  (r:∀x∈xs,∀G,qi H G->∀R:Bool->Hp->Prop,(∀d,qi G d->R (out x).isSome d)->tt (some (enc x)::rest) G R)
  (u:∀x∈xs,∀v,out x=some v->∀G,qi H G->∀R:V->Hp->Prop,(∀d,qi G d->R v d)->te (some (enc x)::rest) G R)
  (k:∀G,qi H G->G D=some (.lst (xs.filterMap out))->Q G):Z1 (AQ K a) (jF 0) tt te D (none::rest) H Q:=by
 have d:qi H (upd H D (.lst [])):=λb m h=>by
  rw[qc (λe=>by rw[e,o]at h;cases h)];exact h
 refine jc (K:=K) (a:=a) (xs:=xs.map enc) (λi l G=>(∃v0,l=v0::rest)/\qi H G/\G D=some (.lst ((xs.take i).filterMap out))) ⟨⟨none,rfl⟩,d,qa⟩ (λi l G _ ⟨_,s,_⟩=>.of (s _ _ j)) ?_ ?_
 ·rintro i y l G d ⟨⟨v0,rfl⟩,s,j⟩;rw[tw]at d;cases ex:xs[i]? with
  | none=>rw[ex]at d;cases d
  | some x=>
   rw[ex]at d;obtain rfl:=(tA.inj d).symm;have p:x∈xs:=tP ex;have q:(xs.take (i+1)).filterMap out=(xs.take i).filterMap out++(out x).toList:=by
    rw[tz,ex,zax];cases c:out x<;>simp [c]
   show tt (some (enc x)::rest) G _;refine r x p G s _ λr d=>?_;cases c:out x with
   | none=>
    show if false=true then _ else _
    rw[if_neg tI];refine⟨⟨_,rfl⟩,λb m h=>d _ _ (s _ _ h),?_⟩;rw[q,c];simpa using d _ _ j
   | some v=>
    show if true=true then _ else _
    rw[if_pos rfl];refine u x p v c r (λb m h=>d _ _ (s _ _ h)) _ λG2 p=>?_;refine⟨_,p _ _ (d _ _ j),?_,⟨_,rfl⟩,?_,?_⟩
    ·refine zaK (zal _ _) ?_;rw[tE];omega
    ·intro b m h;rw[qc (λe=>by rw[e,o]at h;cases h)];exact p _ _ (d _ _ (s _ _ h))
    ·rw[q,c];exact qa
 ·rintro l G ⟨_,s,j⟩;rw[ta,tu (tf _)]at j;exact k G s j
def xB{α:Type}{K:zdM}{a D:Addr}{xs:List α}{enc:α->V}{out:α->Option V}{rest:St}{H:Hp}{tt:TT}{te:TE}{Q:Hp->Prop}(o:H D=none)(j:H a=some (.tup (xs.map enc)))(len:xs.length < zdR)
  (r:∀x∈xs,∀G,qi H G->∀R:Bool->Hp->Prop,(∀d,qi G d->R (out x).isSome d)->tt (some (enc x)::rest) G R)
  (u:∀x∈xs,∀v,out x=some v->∀G,qi H G->∀R:V->Hp->Prop,(∀d,qi G d->R v d)->te (some (enc x)::rest) G R)
  (k:∀G,qi H G->G D=some (.lst (xs.filterMap out))->Q G):Z1 (B9 K a) (jF 0) tt te D (none::rest) H Q:=by
 have d:qi H (upd H D (.lst [])):=λb m h=>by
  rw[qc (λe=>by rw[e,o]at h;cases h)];exact h
 refine Ua (K:=K) (a:=a) (xs:=xs.map enc) (λi l G=>(∃v0,l=v0::rest)/\qi H G/\G D=some (.lst ((xs.take i).filterMap out))) ⟨⟨none,rfl⟩,d,qa⟩ (λi l G _ ⟨_,s,_⟩=>.of (s _ _ j)) ?_ ?_
 ·rintro i y l G d ⟨⟨v0,rfl⟩,s,j⟩;rw[tw]at d;cases ex:xs[i]? with
  | none=>rw[ex]at d;cases d
  | some x=>
   rw[ex]at d;obtain rfl:=(tA.inj d).symm;have p:x∈xs:=tP ex;have q:(xs.take (i+1)).filterMap out=(xs.take i).filterMap out++(out x).toList:=by
    rw[tz,ex,zax];cases c:out x<;>simp [c]
   show tt (some (enc x)::rest) G _;refine r x p G s _ λr d=>?_;cases c:out x with
   | none=>
    show if false=true then _ else _
    rw[if_neg tI];refine⟨⟨_,rfl⟩,λb m h=>d _ _ (s _ _ h),?_⟩;rw[q,c];simpa using d _ _ j
   | some v=>
    show if true=true then _ else _
    rw[if_pos rfl];refine u x p v c r (λb m h=>d _ _ (s _ _ h)) _ λG2 p=>?_;refine⟨_,p _ _ (d _ _ j),?_,⟨_,rfl⟩,?_,?_⟩
    ·refine zaK (zal _ _) ?_;rw[tE];omega
    ·intro b m h;rw[qc (λe=>by rw[e,o]at h;cases h)];exact p _ _ (d _ _ (s _ _ h))
    ·rw[q,c];exact qa
 ·rintro l G ⟨_,s,j⟩;rw[ta,tu (tf _)]at j;exact k G s j
def Ub{n:Nat}{D:Addr}{out:Nat->Option V}{rest:St}{H:Hp}{tt:TT}{te:TE}{Q:Hp->Prop}(m:H D=none)(len:n < zdR)
  (q:∀x,x < n->∀G,qi H G->∀R:Bool->Hp->Prop,(∀a,qi G a->R (out x).isSome a)->tt (some (.int (x:Int))::rest) G R)
  (r:∀x,x < n->∀v,out x=some v->∀G,qi H G->∀R:V->Hp->Prop,(∀a,qi G a->R v a)->te (some (.int (x:Int))::rest) G R)
  (k:∀G,qi H G->G D=some (.lst ((tQ n).filterMap out))->Q G):Z1 (Ca 0 n) (jF 0) tt te D (none::rest) H Q:=by
 have a:qi H (upd H D (.lst [])):=λb j h=>by
  rw[qc (λe=>by rw[e,m]at h;cases h)];exact h
 refine Q5 (λi l G=>(∃v0,l=v0::rest)/\qi H G/\G D=some (.lst ((tQ i).filterMap out))) ⟨⟨none,rfl⟩,a,qa⟩ ?_ ?_
 ·rintro i l G o ⟨⟨v0,rfl⟩,s,d⟩;rw[zbL];have p:(tQ (i+1)).filterMap out=(tQ i).filterMap out++(out i).toList:=by
   rw[zcg,zax];cases c:out i<;>simp [c]
  show tt (some (.int (i:Int))::rest) G _;refine q i o G s _ λq a=>?_;cases c:out i with
  | none=>
   show if false=true then _ else _
   rw[if_neg tI];refine⟨⟨_,rfl⟩,λb j h=>a _ _ (s _ _ h),?_⟩;rw[p,c];simpa using a _ _ d
  | some v=>
   show if true=true then _ else _
   rw[if_pos rfl];refine r i o v c q (λb j h=>a _ _ (s _ _ h)) _ λG2 o=>?_;refine⟨_,o _ _ (a _ _ d),?_,⟨_,rfl⟩,?_,?_⟩
   ·refine zaK (zal _ _) ?_;rw[zaf];omega
   ·intro b j h;rw[qc (λe=>by rw[e,m]at h;cases h)];exact o _ _ (a _ _ (s _ _ h))
   ·rw[p,c];exact qa
 ·rintro l G ⟨_,s,d⟩;exact k G s d
open PySem
open PyProof.Rows hiding K lo
section
variable{prog:Program}{w:World}{KK:Type}[DecidableEq KK]{kd:HeapKind prog w KK}{A:Around}{E:Value->Shared->Prop}{s:Shared}
def Mj{Q:Value->Shared->Prop}(eQ:kd.room A)(is:kd.is s.heap k a)(j:s.heap.DictOfH kd d ys)(b:ys.length<=zdR)(eG:∀v,(atKey ys k).map (·.2)=some v->Q v {s with toks:=s.toks+kd.draws k})(new:(atKey ys k).map (·.2)=none->∀g,g.DictOfH kd d (storedH ys k a x)->Heap.SameBut d s.heap g->Q x {s with heap:=g,toks:=s.toks+kd.draws k}):
  wpAny (model prog w) A (dictSetDefault d (.ref a) x) Q E s:=by
 obtain⟨_,_,r,h,y,b,i,o,l⟩:=j;have st:∀t:Nat,({s with toks:=t}:Shared).heap=s.heap:=λ_=>rfl;unfold dictSetDefault
 try with_reducible refine wpAny_holding ?_
 refine zdO (kd.pyHash eQ is (zdO ?_));refine wpAny_dictFind_heap (s:={s with toks:=s.toks+kd.draws k}) eQ is h b i o l (λno=>?_) (λz _ p=>?_)
 ·have j:=atKey_none_of_get no;have B:k∉ys.map (·.1):=not_mem_keys_of_get no;have C:(atKey ys k).map (·.2)=none:=by rw[j];rfl
  refine zdO (wpAny_rule (zdO (wpAny_updateDictKeys (hz:=?_) (s:={s with toks:=s.toks+kd.draws k}) h b (zdP ?_))))
  ·refine new C _ ⟨_,_,r+1,zaw _ h (Obj.isFreed_of_dict (Obj.data_mapDictKeys b _)),y.mapDictKeys _,Obj.data_mapDictKeys b _,?_,λq r=>?_,?_⟩ (zbK.update ..)
   ·rw[storedH_new j];simp [entryOfKey,i]
   ·have two:q∈ys\/q=(k,a,x):=by
     rw[storedH_new j]at r;simpa using r
    rcases two with m | rfl
    ·exact kd.keeps (o q m) h b (zbK.update ..)
    ·exact kd.keeps is h b (zbK.update ..)
   ·rw[storedH_new j,tj,zbi];refine⟨l,zbc _ _,λu hu v j e=>B ?_⟩;have:v=k:=by simpa using j
    rw[<-this,<-e];exact hu
  ·have:=size_of_entries i;omega
 ·have j:=atKey_of_get l p;refine zdO (wpAny_dictEntries (s:={s with toks:=s.toks+kd.draws k}) h b ?_);rw[entry_at i z,p];refine zdO (wpAny_rule (zdP (eG _ ?_)));rw[j];rfl
def Ku(d a:Addr)(hd:(d==sysModules)=false)(x:Value):
  MeetsIn prog w (Builtin.«dict.setdefault» ⟨[.ref d,.ref a,x],[]⟩) (λA R s=>kd.room A.in1/\∃(k:KK) (ys:List (KK×Addr×Value)),kd.is s.heap k a/\s.heap.DictOfH kd d ys/\ys.length<=zdR/\
   (∀v,(atKey ys k).map (·.2)=some v->R (.ok (.ret v)) {s with toks:=s.toks+kd.draws k})/\
   ((atKey ys k).map (·.2)=none->∀g,g.DictOfH kd d (storedH ys k a x)->Heap.SameBut d s.heap g->R (.ok (.ret x)) {s with heap:=g,toks:=s.toks+kd.draws k})):=
 .of_wp λA R s ⟨eQ,k,ys,is,b,h,eG,new⟩=>by
  unfold Builtin.«dict.setdefault» Builtin.Dict.keyAndDefault;refine zdO (zdO (wpAny_notOrdered_dict b.typeIs ?_));refine show wpAny _ _ (pure (d,Value.ref a,some x)) _ _ s from zdP ?_;show wpAny _ _ (if (d==sysModules)=true then _ else dictSetDefault d (Value.ref a) x >>= _) _ _ s;rw[if_neg (by rw[hd];decide)];exact zdO (Mj eQ is b h (λv e=>zdP ⟨v,rfl,eG v e⟩) λe g b h=>zdP ⟨x,rfl,new e g b h⟩)
end
def DJ{A:Around}{k:List qF}{Q:Value->Shared->Prop}(hu:A.units+1 < cLine)(I:qv X h i H s)(e:H a=some (.dT kvs))(j:H b=some (.tup (k.map kV)))(l:kvs.length < zdR)(o:qR v r)(eG:∀u,qO kvs k=some u->∀m d,qv X h i H d->qR u m->Q m d)(new:qO kvs k=none->∀d,qv X h i (upd H a (.dT (jD kvs k v))) d->Q r d):
  wpAny (model X.prog X.w) A (call (.builtin "dict.setdefault") [.ref a,.ref b,r]) Q E s:=by
 obtain⟨z,hd,d,c_,h⟩:=B3 I.hok e;have i:d.length<=zdR:=by rw[<-Paired.length c_];exact z
 have m:(jD kvs k v).length<=zdR:=by have:=Jd kvs k v;omega
 have rk:=c_.val k;refine call_meetsIn zcs h.typeIs PySem.F.entry_dict_setdefault (PySem.F.args_dict_setdefault_3 _ _ _) (Ku (kd:=tupleKind (qZ X.prog X.w)) a b hd r) ⟨tupleKind_room_in1 hu,k,d,zi I.hok j,h,i,λu d=>?_,λi g p x=>?_⟩
 ·rw[d]at rk;cases d:qO kvs k with
  | none=>rw[d]at rk;cases rk
  | some h=>
   rw[d]at rk;exact eG h d _ _ (I.tok _) rk
 ·rw[i]at rk;cases d:qO kvs k with
  | some h=>rw[d]at rk;cases rk
  | none=>
   obtain⟨q,i,y,h,B,C,D,_,J⟩:=p;refine new d _ (zT I (by rw[e];exact True.intro) x ⟨q,h⟩ ⟨m,hd,_,(c_.put k j o).keeps λc _ d=>?_,q,i,y,h,B,C,D,J⟩);rw[qc (BN d e (λz=>nomatch z))];exact d
inductive yh(ty tx:TE)(σ:St)(Q:VK)(x:V)(H1:Hp):Prop
 | mk (a:_):x=.ref a->Hi H1 a->(ty σ H1 λy H2=>tx σ H2 λz H3=>∃(kvs:List (List qF×V)) (k:List qF) (b:Addr),H3 a=some (.dT kvs)/\y=.ref b/\H3 b=some (.tup (k.map kV))/\kvs.length < zdR/\(∀v,qO kvs k=some v->Q v H3)/\(qO kvs k=none->Q z (upd H3 a (.dT (jD kvs k z)))))->yh ty tx σ Q x H1
def Cg(b ty d:TE):TE:=λa H Q=>b a H λx b=>yh ty d a Q x b
def RI{X:Cx}(hu:X.A.units+1 < cLine)(i:JE X o B)(j:JE X e ty)(l:JE X f C)(m:M2 X o "setdefault" b_ e f D):JE X (.Call (.Attribute o "setdefault" b_) [e,f] [] D) (Cg B ty C):=.of (by
 have i:=i.to;have j:=j.to;have l:=l.to;intro p s q H Q I h;refine wpAny_Call_method m.base m.few m.line zbF zcs PySem.F.type_dict_setdefault (js (i p s q H _ I h) λu i ⟨x,J,r,L,a,ex,d,O⟩=>?_);subst ex;obtain rfl:u=Value.ref a:=L;obtain⟨B,C,_⟩:=kD r d;refine⟨B,C,?_⟩;rw[m.trees];refine Calls.callWith_builtin rfl (Calls.evalArgs_plain (Calls.spliced_cons (js (j p i q J _ r O) λT i ⟨y,j,r,U,B⟩=>
  Calls.spliced_cons (js (l p i q j _ r B) λ_ _ ⟨z,Y,I3,v,kvs,k,b,e1,e2,e3,aa,eG,new⟩=>Calls.spliced_nil ?_))))
 subst e2;obtain rfl:T=Value.ref b:=U;exact DJ hu I3 e1 e3 aa v (λu j _ l i p=>⟨u,Y,i,p,eG u j⟩) λj l i=>⟨z,_,i,v,new j⟩)
open PySem
open PyProof.Rows hiding K lo
open PyProof.Rows hiding K lo
def Yp(o:Obj):Nat:=match o.data with
 | .dict _ a=>a
 | _=>0
def qv.freeze(I:qv X d h H s)(e:H a=some (.dK kvs)):∃o,qv X d h (upd H a (.frz o (.dK kvs))) s:=by
 obtain⟨z,hd,i,c_,o,j,l,d,m⟩:=(show qI X.prog X.w H s.heap a (.dK kvs) from I.hok a _ e);have h:B8 (H a):=by rw[e];exact True.intro
 have un:Un X.fs [] H (upd H a (.frz o (.dK kvs))) s.heap s.heap:=Un.write h (.inl rfl) (λb u _ q=>q) ⟨o,d⟩;have ok:Zd X.prog X.w (upd H a (.frz o (.dK kvs))) s.heap:=I.hok.write h (.inl rfl) (λb u _ q=>q) ⟨o,d⟩ ⟨d,z,hd,i,c_,o,j,l,d,m⟩;exact⟨o,I.un (t':=s.toks) un ok⟩
inductive A4(Q:VK)(x:V)(H1:Hp):Prop
 | mk (a:_) (kvs:_):x=.ref a->H1 a=some (.dK kvs)->(∀o,Q x (upd H1 a (.frz o (.dK kvs))))->A4 Q x H1
def Hq(te:TE):TE:=λa H Q=>te a H λx a=>A4 Q x a
def kz(h:JE X e te):JE X e (Hq te):=.of (by
 have h:=h.to;intro b s d H Q I i;refine js (h b s d H _ I i) λv _ ⟨x,_,b,d,a,kvs,ex,i,q⟩=>?_;obtain⟨j,l⟩:=b.freeze i;exact⟨x,_,l,d,q j⟩)
def D3(a:Addr)(o:Obj)(kvs:List (qF×V))(zs:List Str):It:=
 ⟨λi H=>H a=some (.frz o (.dK kvs))/\i < zs.length,λi H x b=>b=H/\∃z,zs[i]?=some z/\x=.str z,λi H=>H a=some (.frz o (.dK kvs))/\i=zs.length⟩
def kJ(ok:Zd P w H h)(e:H a=some (.frz o (.dK kvs))):(a==sysModules)=false/\∃vs,KV kvs vs/\h.DictAt (qZ P w) a vs (Yp o):=by
 obtain⟨b,z,hd,vs,c_,_,i,_,d,ex,j,l⟩:=(show qI P w H h a (.frz o (.dK kvs)) from ok a _ e);rw[b]at d;cases d;refine⟨hd,vs,c_,o,i,b,ex,?_,l⟩;unfold Yp;rw[j]
def xc{P:Program}{w:World}{kvs:List (qF×V)}{vs:List (qF×Value)}{zs:List Str}(c_:KV kvs vs)(b:kvs.map (·.1)=zs.map Sum.inr){i:Nat}{z:Str}{k:qF}{y v:Value}(d:zs[i]?=some z)(f1:vs[i]?=some (k,y))(f2:(qZ P w).is k v=true):qR (.str z) v:=by
 have e:i < kvs.length:=by
  have a:=(td.mp d).1;have h:kvs.length=zs.length:=by simpa using congrArg zav b
  omega
 obtain⟨_,g1,g2,_⟩:=QW c_ (tr e);rw[f1]at g1;cases g1;have a:(kvs.map (·.1))[i]?=some kvs[i].1:=by rw[tw,tr e];rfl
 rw[b,tw,d]at a;have b:k=Sum.inr z:=g2.symm.trans (tA.inj a).symm;subst b;rcases jA (show YD (Sum.inr z) v=true from f2) with ⟨_,_,c,_⟩ | ⟨a,t,c,rfl⟩
 ·cases c
 ·cases c;exact⟨t,rfl⟩
def xW(a it:Addr)(o:Obj)(kvs:List (qF×V))(zs:List Str)(B:kvs.map (·.1)=zs.map Sum.inr):Wm P w K j (D3 a o kvs zs) [it] it (λi h=>h.IsKeyIter it a i zs.length (Yp o)) where
 mem:=by simp
 obj:=λi h st b j=>by
  have e:b=it:=by simpa using j
  subst e;obtain⟨o,e,c,d⟩:=st;exact⟨o,e,λv z=>by rw[d]at z;cases z⟩
 keep:=λi h q st k=>let ⟨o,e,l⟩:=st;⟨o,k it (by simp) o e,l⟩
 item:=by
  intro X C D J L i aa s σ H E I r st O;subst C D J;obtain⟨m,f1,f2,Q,T,U⟩:=r it (by simp);obtain⟨l,u⟩:=O;obtain⟨_,p,c_,Y⟩:=kJ I.hok l;have x:p.length=zs.length:=by
   have h1:kvs.length=zs.length:=by simpa using congrArg zav B
   rw[<-Paired.length c_,h1]
  have ne:a≠it:=λe=>by rw[e,m]at l;cases l
  rw[<-x]at st;refine(Walks.dictKeys (I.ok.hd L) it a ne p (Yp o)).item i s _ _ (by omega) ⟨st,Y⟩ λv q tk hv ab kk=>?_;have I1:qv X aa σ H {s with heap:=q,toks:=tk}:=I.turned (λb o j e=>kk b o (by simpa using j) e) m f1 Q T U;obtain⟨k,y,g1,g2⟩:=hv;obtain⟨_,e2,c2,d2⟩:=id ab.1;refine⟨_,rfl,WZ (s:={s with heap:=q,toks:=tk}) e2 c2 d2 (by decide) ⟨.str zs[i],H,I1,xc c_ B (tr u) g1 g2,⟨rfl,_,tr u,rfl⟩,?_,λb j=>(r b j).1⟩⟩;rw[<-x];exact ab.1
 done:=by
  intro X C D J L i aa s σ H E I r st O;subst C D J;obtain⟨m,f1,f2,Q,T,U⟩:=r it (by simp);obtain⟨l,u⟩:=O;obtain⟨_,p,c_,Y⟩:=kJ I.hok l;have x:p.length=zs.length:=by
   have h1:kvs.length=zs.length:=by simpa using congrArg zav B
   rw[<-Paired.length c_,h1]
  have ne:a≠it:=λe=>by rw[e,m]at l;cases l
  subst u;rw[<-x]at st;exact(Walks.dictKeys (I.ok.hd L) it a ne p (Yp o)).done s _ _ ⟨st,Y⟩ λq tk kk=>⟨rfl,I.turned (λb o j e=>kk b o (by simpa using j) e) m f1 Q T U⟩
 self:=λ_ _ _ _ _ st h=>wpAny_pyIter_keyiter st h
inductive B0(R:It->Hp->Prop)(x:V)(H1:Hp):Prop
 | mk (a:_) (o:_) (kvs:_) (zs:_):x=.ref a->H1 a=some (.frz o (.dK kvs))->kvs.map (·.1)=zs.map Sum.inr->(R (D3 a o kvs zs) H1)->B0 R x H1
def IB(a:TE):TI:=λb H R=>a b H λx a=>B0 R x a
def VY(d:JE X l i):JI X j l (IB i):=.of (by
 have d:=d.to;intro i s j H R I h;refine js (d i s j H _ I h) λv d ⟨x,p,i,r,u⟩=>?_;obtain⟨a,m,kvs,j,e,y,o,q⟩:=u;subst e;cases r;obtain⟨hd,r,c_,u⟩:=kJ i.hok y;have y:r.length=j.length:=by
  have r:kvs.length=j.length:=by simpa using congrArg zav o
  rw[<-Paired.length c_,r]
 refine wpAny_pyIter_dict hd u ?_;refine⟨d.heap.objs.size,[d.heap.objs.size],_,_,p,rfl,i.kept (t':=d.toks) λb m e=>tm _ e,xW a _ m kvs j o,?_,λb j=>?_,q⟩
 ·rw[<-y];exact⟨_,tJ _ rfl,rfl,rfl⟩
 ·have e:b=d.heap.objs.size:=by simpa using j
  subst e;exact i.fpOk (tf _) (i.hok.fresh (tf _)))
def xt{a:Addr}{o:Obj}{kvs:List (qF×V)}{zs:List Str}{g:TG}{b:St}{H:Hp}{tb:TS}{D:Jk}(Pv:Nat->St->Hp->Prop)(p:Pv 0 b H)(r:∀i b H,i<=zs.length->Pv i b H->H a=some (.frz o (.dK kvs)))
  (u:∀i z b H,zs[i]?=some z->Pv i b H->g (.str z) b H λd h=>tb {D with nx:=Pv (i+1),ct:=Pv (i+1),bk:=D.nx} d h) (hd:∀b H,Pv zs.length b H->D.nx b H):
  ∃W:Nat->Nat->St->Hp->Prop,(∃m,W 0 m b H)/\∀i m b H,W i m b H->
   ((D3 a o kvs zs).stop i H/\D.nx b H)\/((D3 a o kvs zs).go i H/\∃N:St->Hp->Prop,(∀j H',N j H'->∃l,l < m/\W (i+1) l j H')/\∀x H',(D3 a o kvs zs).yld i H x H'->g x b H' λd h=>tb {D with nx:=N,ct:=N,bk:=D.nx} d h):=by
 refine⟨λi m b H=>m=zs.length - i/\i<=zs.length/\Pv i b H,⟨zs.length,by simp,zat _,p⟩,?_⟩;rintro i m b H ⟨rfl,h,d⟩;have q:=r i b H h d;by_cases h:i < zs.length
 ·refine .inr ⟨⟨q,h⟩,Pv (i+1),λj H' j=>⟨zs.length - (i+1),by omega,rfl,h,j⟩,λx H' y=>?_⟩;obtain⟨e,z,h,rfl⟩:=y;subst e;exact u i z b _ h d
 ·have e:i=zs.length:=by omega
  subst e;exact .inl ⟨⟨q,rfl⟩,hd b H d⟩
def xC{zs:List Str}{g:TG}{Q:Hp->Prop}(Pv:Nat->St->Hp->Prop)(d:Pv 0 j (upd H D (.lst [])))(h:∀i b H',i<=zs.length->Pv i b H'->H' a=some (.frz o (.dK kvs)))(l:∀i z b H',zs[i]?=some z->Pv i b H'->g (.str z) b H' (YL tt te D (Pv (i+1))))(hd:∀b H',Pv zs.length b H'->Q H'):Z1 (D3 a o kvs zs) g tt te D j H Q:=
 Ys (n:=zs.length) Pv d (λi b H' j d=>⟨⟨h i b H' (zac j) d,j⟩,λx _ y=>by
  obtain⟨e,z,j,rfl⟩:=y;subst e;exact l i z b _ j d⟩) λb H' d=>⟨⟨h _ b H' (tf _) d,rfl⟩,hd b H' d⟩
open PyProof.Rows hiding K lo
def jL.okX{P:Program}{w:World}{K:zdM}{mg:Str->Option Value}{base:Heap}{CX:uu}{x b:Str}{st:Stmt}{f:Addr}{d:zdQ}{N ps:List Str}{k:Nat}{sp:Sp}(F:jL K x b st f d)(S:qm N ps (qg st))(len:∀vs H Q E,sp vs H Q E->vs.length=ps.length)
  (e:∀(a:Value) (A:Around) (outer:List Env) (s:Shared) (H:Hp) (vs:List V) (Q:VK) (E:XK),jd k (A.deeper (envOfC b (qg st) s.heap.objs.size f a))->sp vs H Q E->
   ∃t,Wo (QK CX P w K mg base N b (qg st) f a A outer s H E) (j5 st) t/\t {nx:=λ_ H'=>Q .non H',rt:=Q} (Zt N vs) H):qp P w K mg base CX (k+1) f d ps sp:=by
 obtain⟨_,_,kV,_,pm,_,a,_,_,rfl,lk,b⟩:=F.ex;refine B2 lk b S len λA outer s H vs Q E hr b=>?_;obtain⟨t,h,q⟩:=e a A outer s H vs Q E hr b;exact⟨t,h.to,q⟩
def jL.okY{P:Program}{w:World}{K:zdM}{mg:Str->Option Value}{base:Heap}{CX:uu}{x a:Str}{st:Stmt}{f:Addr}{b:zdQ}{N ps:List Str}{k:Nat}{sp:Sp}(F:jL K x a st f b)(S:qm N ps (qg st))(e:∀{d:Value} {A:Around} {outer:List Env} {s:Shared} {vs:List V} {nd:N.Nodup} (H:Hp) (Q:VK) (E:XK),jd k (A.deeper (envOfC a (qg st) s.heap.objs.size f d))->sp vs H Q E->∃t,Wo (QK CX P w K mg base N a (qg st) f d A outer s H E) (j5 st) t/\t {nx:=λ_ H'=>Q .non H',rt:=Q} (Zt N vs) H)(len:∀vs H Q E,sp vs H Q E->vs.length=ps.length:=by intro _ _ _ _ z;first | (cases z;subst_vars;rfl) | repeat first | (obtain⟨rfl,_⟩:=z;rfl) | obtain⟨_,z⟩:=z):qp P w K mg base CX (k+1) f b ps sp:=F.okX S len λ_ _ _ _ H _ Q E hr z=>e (nd:=S.nd) H Q E hr z
open PyProof.Rows hiding K lo
inductive BG(K:zdM)(eR:Bool)(x:V)(y:V)(H:Hp)(Q:VK):Prop
 | mk (d:_) (ds:_):DV K H x d->(DV K H y (.list ds))->d.canLay0=true->PyData.canLayAll0 ds=true->(d.depth<=40)->(Q (.bl (if eR then !(ds.any λz=>PyData.eqv z d) else ds.any λz=>PyData.eqv z d)) H)->BG K eR x y H Q
def EQ(K:zdM)(eR:Bool):R2:=λx y H Q=>BG K eR x y H Q
def wv{X:Cx}(hu:X.A.units+64 < cLine):Z0 X (compareOp .NotIn) (EQ X.K true):=by
 intro _ s _ H x y v u Q I a b h;obtain⟨d,e,i,j,l,m,_,q⟩:=h;obtain⟨as,o⟩:=i.reads I a;obtain⟨bs,a⟩:=j.reads I b;refine SeqAt.notIn_list_reads a o m l ?_ ⟨.bl _,H,I,rfl,q⟩;have:=zcn (PyData.depthAll e) d.depth;omega
open PyProof.Rows hiding K lo
open PyProof.Rows hiding K lo
open PySem
open PyProof.Rows hiding K lo
end L2
namespace HT
open PySem PySem.Spec
open PyProof.Rows hiding K lo
end HT
namespace L2
open PySem PySem.Spec
open PyProof.Rows hiding K lo
open PySem
open PyProof.Rows hiding K lo
open PyProof.Rows hiding K lo
open PyProof.Rows hiding K lo
def kK{s:Shared}{Q:Unit->Shared->Prop}{fr:Option Addr}(h:s.heap.get? e=some {cls:=cl,dict:=d,data:=.fields vs})(i:vs[1]?=some (.ref T))(st:ut T a s.heap)(k:∀h',k6 fs [T] s.heap h'->ut T (fr.elim .none λf=>rawInt f) h'->Q () {s with heap:=h'}):wpAny M A (setFlight (.ref e) fr) Q F s:=by
 obtain⟨_,a,j⟩:=st;have lt:=(zaa.mp j).1;unfold setFlight;refine zdO (wpAny_field h rfl i ?_);rw[if_pos (show (Value.ref T != Value.none)=true from by simp)];refine wpAny_setField a rfl lt (k _ ⟨λb h _ n q=>?_,λb h _ n q=>⟨h.slots,?_⟩⟩ ⟨_,zaw _ a rfl,by simp [lt]⟩)
 all_goals
  rw[zag _ _ λz=>n (by simp [z])];exact q
def AA{Q:Unit->Shared->Prop}(I:qv X i j H s)(d:X.stack=X.env::X.outer)(l:X.env.frame=some X.env.locals)(e:H a=some (Zb a C h))(k:∀T h',H T=none->T≠a->qv X i j (upd (upd H a (Q4 a C h (.ref T))) T (We T (rawInt X.env.locals))) {s with heap:=h'}->Q () {s with heap:=h'}):wpAny M X.A (noteFrame (.ref a) X.env) Q F s:=by
 obtain⟨⟨o,j,i⟩,_,_⟩:=(show qI X.prog X.w H s.heap a (Q4 a C h .none) from I.hok a _ e);have fr:=I.ok.frames;have h:=I.stack;rw[d]at fr h;refine U8 fr h l j i λp T j l h m=>?_;rw[<-d]at l;have lt:=(zaa.mp i).1;have g1:(o.setIfInBounds 1 (Value.ref T))[1]?=some (.ref T):=by simp [lt]
 have d:T≠a:=λz=>by
  obtain⟨_,q,_⟩:=m;rw[z,h]at q;cases q
 have i:H T=none:=I.hok.fresh j;refine k T p i d (I.flown l ⟨λb d=>by cases tK.mp d;exact⟨_,e⟩,λb l d q=>by
   rw[qc (qj q i),qc λz=>d (by simp [z])];exact q,λb d q=>by
   rw[qc (tS (tF d j)),qc λz=>by rw[z,e]at q;cases q];exact q⟩ (λb d=>by cases tK.mp d;exact⟨_,h⟩) λb l q d=>?_)
 by_cases e:b=T
 ·subst e;rw[qa]at q;cases q;exact zc m
 ·rw[qc e]at q;by_cases e:b=a
  ·subst e;rw[qa]at q;cases q;exact ZW ⟨_,h,g1⟩
  ·rw[qc e]at q;rcases d with d | d
   ·rw[q]at d;cases d
   ·exact absurd (tK.mp d) e
def DC{Q:Unit->Shared->Prop}(I:qv X m p H s)(d:X.stack=X.env::X.outer)(v:X.env.frame=some X.env.locals)(i:H a=some (Q4 a C l (.ref T)))(j:H T=some (We T .none))(k:∀e h',H e=none->e≠a->qv X m p (upd (upd (upd H a (Q4 a C l (.ref e))) T (.ext λh=>∃o,h.get? T=some o)) e (We e (rawInt X.env.locals))) {s with heap:=h'}->Q () {s with heap:=h'}):wpAny M X.A (noteFrame (.ref a) X.env) Q F s:=by
 obtain⟨⟨B,m,p⟩,_,_⟩:=(show qI X.prog X.w H s.heap a (Q4 a C l (.ref T)) from I.hok a _ i);obtain⟨l,_,_⟩:=(show qI X.prog X.w H s.heap T (We T .none) from I.hok T _ j);have x:T≠a:=λz=>by
  obtain⟨D,q,_⟩:=l;rw[z,m]at q;cases q
 have fr:=I.ok.frames;have r:=I.stack;rw[d]at fr r;refine VP fr r v m p l x λr e v x J l y=>?_;rw[<-d]at x;have lt:=(zaa.mp p).1;have g1:(B.setIfInBounds 1 (Value.ref e))[1]?=some (.ref e):=by simp [lt]
 have d:e≠a:=λz=>by
  obtain⟨D,q,_⟩:=y;rw[z,l]at q;cases q
 have p:H e=none:=I.hok.fresh v;obtain⟨_,m⟩:=J;refine k e r p d (I.flown x ⟨λb d=>by
   simp only[tL,zaB,or_false]at d;rcases d with rfl | rfl
   ·exact⟨_,i⟩
   ·exact⟨_,j⟩,λb o d q=>by
   simp only[tL,zaB,or_false,not_or]at d;rw[qc (qj q p),qc d.2,qc d.1];exact q,λb d q=>by
   rw[qc (tS (tF d v)),qc (λz=>by rw[z,j]at q;cases q),qc (λz=>by rw[z,i]at q;cases q)];exact q⟩ (λb d=>by
   simp only[tL,zaB,or_false]at d;rcases d with rfl | rfl
   ·exact⟨_,l⟩
   ·exact⟨_,m⟩) λb o q d=>?_)
 by_cases i:b=e
 ·subst i;rw[qa]at q;cases q;exact zc y
 ·rw[qc i]at q;by_cases e:b=T
  ·subst e;rw[qa]at q;cases q;exact⟨⟨_,m⟩,⟨_,m⟩,λr _ ⟨u,z⟩ k=>⟨u,k u z⟩⟩
  ·rw[qc e]at q;by_cases i:b=a
   ·subst i;rw[qa]at q;cases q;exact ZW ⟨_,l,g1⟩
   ·rw[qc i]at q;rcases d with d | d
    ·rw[q]at d;cases d
    ·simp only[tL,zaB,or_false]at d;exact(d.elim i e).elim
def vq{Q:Unit->Shared->Prop}(I:qv X i j H s)(b:X.env.frame=some X.env.locals)(d:H a=some (Q4 a C e (.ref T)))(h:H T=some (We T (rawInt X.env.locals)))(k:Q () s):wpAny M X.A (noteFrame (.ref a) X.env) Q F s:=by
 obtain⟨⟨_,i,j⟩,_,_⟩:=(show qI X.prog X.w H s.heap a (Q4 a C e (.ref T)) from I.hok a _ d);obtain⟨d,_,_⟩:=(show qI X.prog X.w H s.heap T (We T (rawInt X.env.locals)) from I.hok T _ h);exact wB b i j d k
def V5{Q:Unit->Shared->Prop}{fr:Option Addr}(I:qv X d h H s)(i:H a=some (Q4 a C j (.ref T)))(e:H T=some (We T l))(k:∀h',qv X d h (upd H T (We T (fr.elim .none λf=>rawInt f))) {s with heap:=h'}->Q () {s with heap:=h'}):wpAny M X.A (setFlight (.ref a) fr) Q F s:=by
 obtain⟨⟨fs,d,h⟩,_,_⟩:=(show qI X.prog X.w H s.heap a (Q4 a C j (.ref T)) from I.hok a _ i);obtain⟨i,_,_⟩:=(show qI X.prog X.w H s.heap T (We T l) from I.hok T _ e);refine kK (fs:=YH X.stack) d h i λd h st=>?_;obtain⟨_,q,z⟩:=id st;refine k d (I.flown h ⟨λb d=>by cases tK.mp d;exact⟨_,e⟩,λb h d q=>by rw[qc (λz=>d (by simp [z]))];exact q,λb d q=>by rw[qc (λz=>by rw[z,e]at q;cases q)];exact q⟩ (λb d=>by cases tK.mp d;exact⟨_,q⟩) λb h q d=>?_);by_cases e:b=T
 ·subst e;rw[qa]at q;cases q;exact zc st
 ·rw[qc e]at q;rcases d with d | d
  ·rw[q]at d;cases d
  ·exact absurd (tK.mp d) e
def xK(X:Cx)(o:List (Addr×Obj))(E:XK):Value->Shared->Prop:=λe s=>
 (∃(a d h:Addr) (H:Hp) (l:St),e=.ref a/\qv X o l H s/\H a=some (Zb a d h)/\E (.ref d) (some h) H)\/
 ∃(a d h i:Addr) (m:Value) (j H:Hp) (l:St),e=.ref a/\qv X o l H s/\(m=.none\/m=rawInt X.env.locals)/\H a=some (Q4 a d h (.ref i))/\H i=some (We i m)/\j i=none/\j a=some (Zb a d h)/\(∀b i,b≠a->j b=some i->H b=some i)/\E (.ref d) (some h) j
def wV{X:Cx}(fu:X.stack=X.env::X.outer)(e_:X.env.frame=some X.env.locals):PassesOwn (model X.prog X.w) X.A X.env (xK X el E):=by
 intro e s h;have eX:∀{a C dx T:Addr} {fl:Value} {H Hx:Hp} {σ:St} {s':Shared},qv X el σ H s'->H a=some (Q4 a C dx (.ref T))->H T=some (We T fl)->T≠a->Hx T=none->Hx a=some (Zb a C dx)->(∀b o,b≠a->Hx b=some o->H b=some o)->E (.ref C) (some dx) Hx->cameBackBy (model X.prog X.w) X.A X.env (xK X el E) (.ref a) s':=λ{a C dx T fl H Hx σ s'} I ha ht nT h1 h2 h3 hE=>by
  obtain⟨⟨fs,he,hz⟩,_,_⟩:=(show qI X.prog X.w H s'.heap a (Q4 a C dx (.ref T)) from I.hok a _ ha);unfold cameBackBy;refine zdO (wpAny_field he rfl hz ?_);rw[if_neg (show ¬((Value.ref T==Value.none)=true) by simp)]
  first
   | refine V5 I ha ht λh' I2=>?_
   | refine zdO (zdP (V5 I ha ht λh' I2=>?_))
  refine .inr ⟨a,C,dx,T,_,Hx,_,σ,rfl,I2,.inr (by rw[e_];rfl),by rw[qc (Ne.symm nT)];exact ha,qa,h1,h2,λb o nb q=>?_,hE⟩;rw[qc (λz=>by rw[z,h1]at q;cases q)];exact h3 b o nb q
 rcases h with ⟨a,C,dx,H,σ,rfl,I,ha,hE⟩ | ⟨a,C,dx,T,fl,Hx,H,σ,rfl,I,hfl,ha,ht,h1,h2,h3,hE⟩
 ·refine AA I fu e_ ha λT h' hT nT I2=>?_;exact eX (Hx:=H) I2 (by rw[qc (Ne.symm nT)];exact qa) qa nT hT ha (λb o nb q=>by rw[qc (qj q hT),qc nb];exact q) hE
 ·have nT:T≠a:=λz=>by rw[z,h2]at h1;cases h1
  rcases hfl with rfl | rfl
  ·refine DC I fu e_ ha ht λT' h' hT fg I2=>?_;refine eX (Hx:=Hx) I2 (by rw[qc (Ne.symm fg),qc (Ne.symm nT)];exact qa) qa fg ?_ h2 (λb o nb q=>?_) hE
   ·cases q:Hx T' with
    | none=>rfl
    | some o=>rw[h3 T' o fg q]at hT;cases hT
   ·have n1:b≠T:=λz=>by rw[z,h1]at q;cases q
    have q':=h3 b o nb q;rw[qc (qj q' hT),qc n1,qc nb];exact q'
  ·exact vq I e_ ha ht (eX I ha ht nT h1 h2 h3 hE)
def wW(h:xK (QK (J4 P w) P w K mg base N d scope f i A outer s₀ H₀ E) v E e s):(QK (J4 P w) P w K mg base N d scope f i A outer s₀ H₀ E).xe e s:=by
 rcases h with ⟨a,j,l,H,o,rfl,I,d,m⟩ | ⟨a,j,l,p,C,x,H,o,rfl,I,B,d,r,i,u,y,m⟩
 ·exact ZR v o H s a j l I d m
 ·rcases B with rfl | rfl
  ·exact Ju v o H s _ s I ⟨a,j,l,p,x,H,rfl,rfl,I.bare,Un.refl,I.hok,d,r,i,u,y,m⟩
  ·show wpAny _ _ (leaving _ _) _ _ s;unfold leaving;refine zdO (vq I rfl d r ?_);have v:p≠a:=λz=>by rw[z,u]at i;cases i
   refine V5 (fr:=none) I d r λ_ o=>?_;refine⟨a,j,l,p,x,_,rfl,o.os,o.bare,o.base,o.hok,by rw[qc (Ne.symm v)];exact d,qa,i,u,λb d j q=>?_,m⟩;rw[qc (λz=>by rw[z,i]at q;cases q)];exact y b d j q
def Rm{P:Program}{w:World}{K:zdM}{mg:Str->Option Value}{base:Heap}{N:List Str}{l:Str}{scope:Scope}{f:Addr}{m:Value}{A:Around}{outer:List Env}{s₀:Shared}{H₀:Hp}{E:XK}{st:Stmt}{t:TS} (h:∀(pn:List (Addr×Obj)) (W:Value->Shared->Prop),PassesOwn (model P w) (QK (J4 P w) P w K mg base N l scope f m A outer s₀ H₀ E).A (QK (J4 P w) P w K mg base N l scope f m A outer s₀ H₀ E).env W->
   Qt (J4 P w) ((QK (J4 P w) P w K mg base N l scope f m A outer s₀ H₀ E).tried pn W) E->Uf ((QK (J4 P w) P w K mg base N l scope f m A outer s₀ H₀ E).tried pn W) E->JS ((QK (J4 P w) P w K mg base N l scope f m A outer s₀ H₀ E).tried pn W) st t):
  PS (QK (J4 P w) P w K mg base N l scope f m A outer s₀ H₀ E) st t:=by
 intro J s L H D I O;refine wpAny_mono ((h _ (xK _ J E) (wV rfl rfl) ?_ ?_).to [] s L H D (I.tried _) O) (λQ o q=>?_) (λe o z=>wW z)
 ·intro T d C o e s' p U;obtain⟨a,r,x,Y,Hx,H2,rfl,os,bare,un,aa,y,ht,ab,ac,ae,B⟩:=U;have I2:=I.untried (p.call' os un aa bare λb z=>absurd z (by simp));exact .inr ⟨a,r,x,Y,.none,Hx,H2,d,rfl,I2,.inl rfl,y,ht,ab,ac,ae,B⟩
 ·intro T d C o a r x p y B;exact .inl ⟨a,r,x,C,d,rfl,I.untried p,y,B⟩
 ·cases Q with
  | next=>obtain⟨d,i,j,q⟩:=q;exact⟨d,i,I.untried j,q⟩
  | brk=>obtain⟨d,i,j,q⟩:=q;exact⟨d,i,I.untried j,q⟩
  | cont=>obtain⟨d,i,j,q⟩:=q;exact⟨d,i,I.untried j,q⟩
  | ret u=>obtain⟨v,d,i,j,af,q⟩:=q;exact⟨v,d,i,I.untried j,af,q⟩
def Y7{P:Program}{w:World}{K:zdM}{mg:Str->Option Value}{base:Heap}{N:List Str}{a:Str}{scope:Scope}{f:Addr}{b:Value}{A:Around}{outer:List Env}{s₀:Shared}{H₀:Hp}{E:XK}{st:Stmt}{t:TS} (h:∀(pn:List (Addr×Obj)) (W:Value->Shared->Prop),PassesOwn (model P w) (QK (J4 P w) P w K mg base N a scope f b A outer s₀ H₀ E).A (QK (J4 P w) P w K mg base N a scope f b A outer s₀ H₀ E).env W->
  Qt (J4 P w) ((QK (J4 P w) P w K mg base N a scope f b A outer s₀ H₀ E).tried pn W) E->Uf ((QK (J4 P w) P w K mg base N a scope f b A outer s₀ H₀ E).tried pn W) E->JS ((QK (J4 P w) P w K mg base N a scope f b A outer s₀ H₀ E).tried pn W) st t):
 JS (QK (J4 P w) P w K mg base N a scope f b A outer s₀ H₀ E) st t:=.of (Rm h)
open PyProof.Rows hiding K lo
open PyProof.Rows hiding K lo
open PyProof.Rows hiding K lo
open PyProof.Rows hiding K lo
open PySem PySem.Spec PySem.W
open PyProof.Rows hiding K lo
open PyProof.Rows hiding K lo
def qp.toX(F:qp P w K mg base jh k f e ps sp):qp P w K mg base CX k f e ps sp:=
 ⟨F.len,λA e s H args i j Q E a b c d h=>codeAny_mono (F.run A e s H args i j Q E a b c d h) λz _ q=>by
  cases z with
  | error y=>exact(show False from q).elim
  | ok e=>
   cases e with
   | ret u=>exact q
   | _=>exact q⟩
def qp.either(F:qp P w K mg base CX k f e ps sp)(G:qp P w K mg base CX k f e ps i):qp P w K mg base CX k f e ps (λvs H Q E=>sp vs H Q E\/i vs H Q E):=
 ⟨λvs H Q E h=>h.elim (F.len vs H Q E) (G.len vs H Q E),λA e s H args i vs Q E a b c d h=>h.elim (F.run A e s H args i vs Q E a b c d) (G.run A e s H args i vs Q E a b c d)⟩
open PySem PySem.Spec PySem.W
open PyProof.Rows hiding K lo
open PyProof.Rows hiding K lo
def RawD(h:Heap)(d:Addr)(es:Array DictEntry)(ep:Nat):Prop:=∃a,h.get? d=some a/\a.ExactDict/\a.data=.dict es ep
def RawD.at_{h':Heap}(x:RawD h d es ep)(k:∀o,h.get? d=some o->h'.get? d=some o):RawD h' d es ep:=let ⟨o,a,b⟩:=x;⟨o,k o a,b⟩
def RawD.ty{s:Shared}(x:RawD s.heap d es ep):s.TypeIs (.ref d) "dict":=let ⟨e,a,b,_⟩:=x;⟨e,a,b.1⟩
def raw_iter{s:Shared}{Q:Value->Shared->Prop}(hd:(d==sysModules)=false)(x:RawD s.heap d es ep)(q:Q (.ref s.heap.objs.size) {s with heap:=s.heap.push {cls:=.type "dict_keyiterator",data:=.fields #[.ref d,.int 0 0,.int es.size 0,.int ep 0]}}):wpAny (model prog w) A (pyIter (.ref d)) Q E s:=by
 obtain⟨_,a,_,b⟩:=id x;refine wpAny_pyIter_slot x.ty F.slot_dict_iter (wpAny_call_entry F.slot_dict_iter x.ty F.entry_dict_iter ?_ (F.args_dict_iter_1 _));unfold Builtin.«dict.__iter__» Builtin.Dict.dictSlotNone;refine zdO (zdO (wpAny_notOrdered_dict x.ty (show wpAny _ _ (pure (Value.ref d)) _ _ s from zdP ?_)));show wpAny _ _ (Builtin.Dict.showsAll d >>= _) _ _ s;unfold Builtin.Dict.showsAll;rw[hd,if_neg tI];refine zdO (zdP (zdO (wpAny_dictEntries a b (zdO (wpAny_dictEpoch a b (zdO (wpAny_newObj_type (zdP ⟨_,rfl,"dict_keyiterator",_,⟨_,tJ _ rfl,rfl⟩,F.slot_dict_keyiterator_next.lookup,?_⟩))))))));simpa [rawInt] using q
def MJ{s:Shared}{es:Array DictEntry}{Q:Option Value->Shared->Prop}(t:s.heap.IsKeyIter it d i es.size ep)(x:RawD s.heap d es ep)(j:i < es.size)(q:∀h',h'.IsKeyIter it d (i+1) es.size ep->Heap.SameBut it s.heap h'->Q (some es[i].key) {s with heap:=h'}):wpAny (model prog w) A (pyNext (.ref it)) Q E s:=by
 obtain⟨_,b,l,a⟩:=id t;obtain⟨_,e,_,h⟩:=id x;unfold pyNext;refine zdO (wpAny_attempt (wpAny_callSpecial?_slot (name:=zdN "__next__") t.typeIs F.slot_dict_keyiterator_next (wpAny_call_entry F.slot_dict_keyiterator_next t.typeIs F.entry_dict_keyiterator_next (zdO (zdP (zdO (zdO ?_)))) (F.args_dict_keyiterator_next_1 _))));refine zdO (wpAny_typeNameOfWhole_keyiter t.typeIs (zdP (zdO (wpAny_fieldsOf b a ?_))));simp only[show Builtin.Dict_items.ownsTuple "dict_keyiterator"=false by decide,zaO,if_false];show wpAny _ _ (if (Value.ref d==Value.none)=true then _ else _) _ _ s;rw[if_neg (show ¬((Value.ref d==.none)=true) from nofun)];refine zdO (zdP (zdO (wpAny_dictEntries e h ?_)));rw[if_neg (by simp)];refine zdO (zdP (zdO (wpAny_dictEpoch e h ?_)));rw[if_neg (by simp)];refine zdP ?_;simp only[show ¬((i:Int) < 0) from by omega,if_false,zaj,zbl j];refine zdO (zdO (wpAny_typeNameOfWhole_keyiter t.typeIs (zdP (zdO (wpAny_isOneOf_keyiter t.typeIs ?_)))));show wpAny _ _ (setField (.ref it) 1 (rawInt ((i:Int)+1)) >>= _) _ _ s;refine zdO (wpAny_setField b a (by simp) ?_);have e:(s.heap.update it (Obj.mapFields (·.setIfInBounds 1 (rawInt ((i:Int)+1))))).IsKeyIter it d (i+1) es.size ep:=
  ⟨_,zaw _ b (Obj.isFreed_of_fields (Obj.data_mapFields a _)),(Obj.cls_mapFields ..).trans l,by rw[Obj.data_mapFields a];simp [rawInt]⟩
 refine zdO (wpAny_holding (zdO (wpAny_isOneOf_keyiter (s:={s with heap:=s.heap.update it (Obj.mapFields (·.setIfInBounds 1 (rawInt ((i:Int)+1))))}) e.typeIs ?_)));exact(show wpAny _ _ (pure es[i].key) _ _ _ from zdP (zdP ⟨_,rfl,zdP (q _ e (zbK.update ..))⟩))
def KR{A:Around}{s:Shared}{es:Array DictEntry}{Q:Option Value->Shared->Prop}(i:A.handled=none)(t:s.heap.IsKeyIter it d es.size es.size ep)(x:RawD s.heap d es ep)(q:∀h',Heap.ExtBut it s.heap h'->Q none {s with heap:=h'}):wpAny (model prog w) A (pyNext (.ref it)) Q E s:=by
 obtain⟨_,a,_,b⟩:=id t;obtain⟨_,e,_,h⟩:=id x;unfold pyNext;refine zdO (wpAny_attempt (wpAny_callSpecial?_slot (name:=zdN "__next__") t.typeIs F.slot_dict_keyiterator_next (wpAny_call_entry F.slot_dict_keyiterator_next t.typeIs F.entry_dict_keyiterator_next (zdO (zdP (zdO (zdO ?_)))) (F.args_dict_keyiterator_next_1 _))));refine zdO (wpAny_typeNameOfWhole_keyiter t.typeIs (zdP (zdO (wpAny_fieldsOf a b ?_))));simp only[show Builtin.Dict_items.ownsTuple "dict_keyiterator"=false by decide,zaO,if_false];show wpAny _ _ (if (Value.ref d==Value.none)=true then _ else _) _ _ s;rw[if_neg (show ¬((Value.ref d==.none)=true) from nofun)];refine zdO (zdP (zdO (wpAny_dictEntries e h ?_)));rw[if_neg (by simp)];refine zdO (zdP (zdO (wpAny_dictEpoch e h ?_)));rw[if_neg (by simp)];refine zdP ?_;simp only[show ¬((es.size:Int) < 0) from by omega,if_false,zaj,zck (tf es.size)];refine zdO (zdO (wpAny_typeNameOfWhole_keyiter t.typeIs (zdP ?_)));show wpAny _ _ (setField (.ref it) 0 .none >>= _) _ _ s;refine zdO (wpAny_setField a b (by simp) (show wpAny _ _ (newExc (.type "StopIteration") [] >>= _) _ _ _ from zdO ?_));simp only[newExc,newTuple];refine zdO (wpAny_newObj_type (zdO (m:=firstArgMember _ _) (wpAny_of_eq (a:=Value.none) (by first | rfl | (simp only[firstArgMember];rfl)) (wpAny_newObj_type ?_ (by size_fits)))) (by size_fits));simp only[raiseNew];refine zdO (wpAny_handled ?_);rw[show A.in1.handled=none from i];refine zdO (zdP (wpAny_throw (zdO ?_)));exact wpAny_isInstance (T:="StopIteration") (b:=true) ⟨_,tJ _ rfl,rfl⟩ isSubtype_stop (zdP (q _ (((zbK.update ..).extBut.push _).push _)))
def wk(hd:(d==sysModules)=false):MeetsIn prog w (Builtin.«dict.items» ⟨[.ref d],[]⟩) (λ_ R s=>s.TypeIs (.ref d) "dict"/\R (.ok (.ret (.ref s.heap.objs.size))) {s with heap:=s.heap.push {cls:=.type "dict_items",data:=.fields #[.ref d]}}):=
 .of_wp λA R s ⟨ty,h⟩=>by
  unfold Builtin.«dict.items» Builtin.Dict.noArgs;refine zdO (zdO (wpAny_notOrdered_dict ty (show wpAny _ _ (pure d) _ _ s from zdP ?_)));show wpAny _ _ (Builtin.Dict.showsAll d >>= _) _ _ s;unfold Builtin.Dict.showsAll;rw[hd,if_neg tI];exact zdO (zdP (zdO (wpAny_newObj_type (zdP ⟨_,rfl,h⟩))))
def VF{s:Shared}{Q:Value->Shared->Prop}(a:s.heap.IsItemsView v d)(x:RawD s.heap d es ep)(q:Q (.ref s.heap.objs.size) {s with heap:=s.heap.push {cls:=.type "dict_itemiterator",data:=.fields #[.none,.bool false,.ref d,.int 0 0,.int es.size 0,.int ep 0,.none,.none]}}):wpAny (model prog w) A (pyIter (.ref v)) Q E s:=by
 obtain⟨_,v1,_,h⟩:=id a;obtain⟨_,b,_,e⟩:=id x;refine wpAny_pyIter_slot a.typeIs F.slot_dict_items_iter (wpAny_call_entry F.slot_dict_items_iter a.typeIs F.entry_dict_items_iter ?_ (F.args_dict_items_iter_1 _));unfold Builtin.«dict_items.__iter__» Builtin.Dict_items.dictOf;refine zdO (zdP (zdO (zdO (wpAny_field v1 h (x:=.ref d) rfl (zdP (zdO ?_))))));unfold Builtin.Dict_items.newIterator;refine zdO (wpAny_dictEntries b e (zdO (wpAny_dictEpoch b e ?_)));simp only[show Builtin.Dict_items.ownsTuple "dict_itemiterator"=true by decide,if_true];refine wpAny_newObj_type (zdP ⟨_,rfl,"dict_itemiterator",_,⟨_,tJ _ rfl,rfl⟩,F.slot_dict_itemiterator_next.lookup,?_⟩) (by simp only[sizeOk,Builtin.Dict_items.ownedTupleFields,t7,tv,zab,zcr,sizeLine_eq];omega);simpa [rawInt,Builtin.Dict_items.ownedTupleFields] using q
def KU{s:Shared}{es:Array DictEntry}{Q:Option Value->Shared->Prop}(t:IsItemIter s.heap it d i es.size ep ok u)(x:RawD s.heap d es ep)(m:i < es.size) (q:∀h',IsItemIterOut h' it d (i+1) es.size ep es[i].key es[i].val s.heap.objs.size->h'.get? s.heap.objs.size=some {cls:=.type "tuple",data:=.seq #[es[i].key,es[i].val]}->(∀b o,b≠it->s.heap.get? b=some o->h'.get? b=some o)->
   Q (some (.ref s.heap.objs.size)) {s with heap:=h'}):wpAny (model prog w) A (pyNext (.ref it)) Q E s:=by
 obtain⟨h,g,l,tk,os⟩:=s;obtain⟨_,a,_,j⟩:=id x;have ty:Shared.TypeIs ⟨h,g,l,tk,os⟩ (.ref it) "dict_itemiterator":=⟨_,t,rfl⟩;unfold pyNext;refine zdO (wpAny_attempt (wpAny_callSpecial?_slot (name:=zdN "__next__") ty F.slot_dict_itemiterator_next (wpAny_call_entry F.slot_dict_itemiterator_next ty F.entry_dict_itemiterator_next (zdO (zdP (zdO (zdO ?_)))) (F.args_dict_itemiterator_next_1 _))));refine zdO (wpAny_typeNameOfWhole_itemiter ty (zdP (zdO (wpAny_fieldsOf t rfl ?_))));simp only[show Builtin.Dict_items.ownsTuple "dict_itemiterator"=true by decide,if_true];show wpAny _ _ (if (Value.ref d==Value.none)=true then _ else _) _ _ _;rw[if_neg (show ¬((Value.ref d==.none)=true) from nofun)];refine zdO (zdP (zdO (wpAny_dictEntries a j ?_)));rw[if_neg (by simp)];refine zdO (zdP (zdO (wpAny_dictEpoch a j ?_)));rw[if_neg (by simp)];refine zdP ?_;simp only[show ¬((i:Int) < 0) from by omega,if_false,zaj,zbl m];refine zdO (zdO (wpAny_typeNameOfWhole_itemiter ty (zdP (zdO (wpAny_isOneOf_itemiter ty ?_)))));show wpAny _ _ (setField (.ref it) 3 (rawInt ((i:Int)+1)) >>= _) _ _ ⟨h,g,l,tk,os⟩;refine zdO (wpAny_setField_rec t (by simp) λa m p=>?_)
 replace p:Heap.SameBut it h a:=p
 replace m:IsItemIter a it d (i+1) es.size ep ok u:=by
  unfold IsItemIter;rw[show ((i+1:Nat):Int)=(i:Int)+1 by omega];simpa [rawInt] using m
 have v:Shared.TypeIs ⟨a,g,l,tk,os⟩ (.ref it) "dict_itemiterator":=⟨_,m,rfl⟩;refine zdO (wpAny_holding (zdO (wpAny_isOneOf_itemiter v (zdO (wpAny_isOneOf_itemiter v ?_)))));show wpAny _ _ (Builtin.Dict_items.pairFromOwner (.ref it) 6 es[i].key es[i].val) _ _ ⟨a,g,l,tk,os⟩;unfold Builtin.Dict_items.pairFromOwner;refine zdO (wpAny_newTuple ?_);have r:IsItemIter (a.push {cls:=.type "tuple",data:=.seq #[es[i].key,es[i].val]}) it d (i+1) es.size ep ok u:=tm _ m;have y:a.objs.size=h.objs.size:=p.1;have B:(a.push {cls:=.type "tuple",data:=.seq #[es[i].key,es[i].val]}).get? h.objs.size=some {cls:=.type "tuple",data:=.seq #[es[i].key,es[i].val]}:=by rw[<-y];exact tJ _ rfl
 have C:∀b o,b≠it->h.get? b=some o->(a.push {cls:=.type "tuple",data:=.seq #[es[i].key,es[i].val]}).get? b=some o:=λb o j e=>tm _ (p.extBut b o j e);have D:h.objs.size≠it:=zbz (tH t);rw[y];generalize a.push {cls:=.type "tuple",data:=.seq #[es[i].key,es[i].val]}=z at r B C;show wpAny _ _ (Builtin.Dict_items.ownedTupleIsFree (.ref it) >>= _) _ _ ⟨z,g,l,tk,os⟩;clear p m v y a;unfold Builtin.Dict_items.ownedTupleIsFree;refine zdO (zdO (wpAny_field r rfl (x:=.none) rfl (zdP ?_)));simp only[if_true];refine zdO (wpAny_field r rfl (x:=ok) rfl (zdO (wpAny_field r rfl (x:=u) rfl (zdO (wpAny_setField_rec r (by simp) λa l m=>?_)))))
 replace m:Heap.SameBut it z a:=m
 replace l:IsItemIter a it d (i+1) es.size ep es[i].key u:=l
 refine zdO (wpAny_setField_rec l (by simp) λl p r=>?_)
 replace r:Heap.SameBut it a l:=r
 replace p:IsItemIter l it d (i+1) es.size ep es[i].key es[i].val:=p
 refine zdO (wpAny_setField_rec p (by simp) λp a u=>?_)
 replace u:Heap.SameBut it l p:=u
 replace a:IsItemIterOut p it d (i+1) es.size ep es[i].key es[i].val h.objs.size:=a
 refine zdO (wpAny_setField_rec a (by simp) λa l v=>?_)
 replace v:Heap.SameBut it p a:=v
 replace l:IsItemIterOut a it d (i+1) es.size ep es[i].key es[i].val h.objs.size:=l
 have all:∀b o,b≠it->z.get? b=some o->a.get? b=some o:=λb o j e=>v.extBut b o j (u.extBut b o j (r.extBut b o j (m.extBut b o j e)));exact zdO (wpAny_letGo (zdP (zdP ⟨_,rfl,zdP (q a l (all _ _ D B) λb o j e=>all b o j (C b o j e))⟩)))
def VE{A:Around}{s:Shared}{es:Array DictEntry}{Q:Option Value->Shared->Prop}(e:A.handled=none)(t:IsItemIter s.heap it d es.size es.size ep ok a)(x:RawD s.heap d es ep)(q:∀h',Heap.ExtBut it s.heap h'->Q none {s with heap:=h'}):wpAny (model prog w) A (pyNext (.ref it)) Q E s:=by
 obtain⟨_,a,_,b⟩:=id x;have ty:s.TypeIs (.ref it) "dict_itemiterator":=⟨_,t,rfl⟩;unfold pyNext;refine zdO (wpAny_attempt (wpAny_callSpecial?_slot (name:=zdN "__next__") ty F.slot_dict_itemiterator_next (wpAny_call_entry F.slot_dict_itemiterator_next ty F.entry_dict_itemiterator_next (zdO (zdP (zdO (zdO ?_)))) (F.args_dict_itemiterator_next_1 _))));refine zdO (wpAny_typeNameOfWhole_itemiter ty (zdP (zdO (wpAny_fieldsOf t rfl ?_))));simp only[show Builtin.Dict_items.ownsTuple "dict_itemiterator"=true by decide,if_true];show wpAny _ _ (if (Value.ref d==Value.none)=true then _ else _) _ _ s;rw[if_neg (show ¬((Value.ref d==.none)=true) from nofun)];refine zdO (zdP (zdO (wpAny_dictEntries a b ?_)));rw[if_neg (by simp)];refine zdO (zdP (zdO (wpAny_dictEpoch a b ?_)));rw[if_neg (by simp)];refine zdP ?_;simp only[show ¬((es.size:Int) < 0) from by omega,if_false,zaj,zck (tf es.size)];refine zdO (zdO (wpAny_typeNameOfWhole_itemiter ty (zdP ?_)));show wpAny _ _ (setField (.ref it) 2 .none >>= _) _ _ s;refine zdO (wpAny_setField t rfl (by simp) (show wpAny _ _ (newExc (.type "StopIteration") [] >>= _) _ _ _ from zdO ?_));simp only[newExc,newTuple];refine zdO (wpAny_newObj_type (zdO (m:=firstArgMember _ _) (wpAny_of_eq (a:=Value.none) (by first | rfl | (simp only[firstArgMember];rfl)) (wpAny_newObj_type ?_ (by size_fits)))) (by size_fits));simp only[raiseNew];refine zdO (wpAny_handled ?_);rw[show A.in1.handled=none from e];refine zdO (zdP (wpAny_throw (zdO ?_)));exact wpAny_isInstance (T:="StopIteration") (b:=true) ⟨_,tJ _ rfl,rfl⟩ isSubtype_stop (zdP (q _ (((zbK.update ..).extBut.push _).push _)))
open PyProof.Rows hiding K lo
def Pr(H:Hp)(u:HO)(i:Nat)(x y:V):Prop:=match u with
 | .dK kvs=>∃z,kvs[i]?=some (Sum.inr z,y)/\x=.str z
 | .dT kvs=>∃k b,kvs[i]?=some (k,y)/\x=.ref b/\H b=some (.tup (k.map kV))
 | _=>False
def Ln:HO->Nat
 | .dK kvs=>kvs.length
 | .dT kvs=>kvs.length
 | _=>0
def KS:HO->Prop
 | .dK kvs=>∃a:List Str,kvs.map (·.1)=a.map Sum.inr
 | .dT _=>True
 | _=>False
def ZV(ok:Zd P w H h)(J:KS u)(e:H a=some (.frz o u)):
  (a==sysModules)=false/\∃es,RawD h a es (Yp o)/\es.size=Ln u/\∀(i:Nat) (p:i < es.size),∃x y,Pr H u i x y/\qR x es[i].key/\qR y es[i].val:=by
 cases u with
 | dK kvs=>
  obtain⟨j,z,hd,_,c_,Q,es,r,l,ex,m,_,L,_⟩:=(show qI P w H h a (.frz o (.dK kvs)) from ok a _ e);rw[j]at l;cases l;obtain⟨b,v⟩:=J;have B:Yp o=r:=by unfold Yp;rw[m]
  have C:=L.length;have D:=Paired.length c_;have d:kvs.length=b.length:=by simpa using congrArg zav v
  have sz:es.size=kvs.length:=by rw[D,<-C];simp
  refine⟨hd,es,⟨o,j,ex,by rw[B];exact m⟩,sz,λi p=>?_⟩;have d:i < kvs.length:=by omega
  obtain⟨q,g1,g2,g3⟩:=QW c_ (tr d);obtain⟨T,U⟩:=L.get? (e:=es[i]) (by simp [p]) g1;have L:b[i]?=some b[i]:=tr (by omega);have O:(kvs.map (·.1))[i]?=some kvs[i].1:=by rw[tw,tr d];rfl
  rw[v,tw,L]at O;have Y:kvs[i].1=Sum.inr b[i]:=(tA.inj O).symm;refine⟨.str b[i],kvs[i].2,⟨b[i],?_,rfl⟩,xc c_ v L g1 T,by rw[U];exact g3⟩;rw[tr d,<-Y]
 | dT kvs=>
  obtain⟨j,z,hd,_,c_,Q,es,r,l,ex,m,b,_⟩:=(show qI P w H h a (.frz o (.dT kvs)) from ok a _ e);rw[j]at l;cases l;have B:Yp o=r:=by unfold Yp;rw[m]
  have D:=Paired.length c_;have C:=size_of_entries b;refine⟨hd,es,⟨o,j,ex,by rw[B];exact m⟩,by rw[C,<-D];rfl,λi p=>?_⟩;have d:i < kvs.length:=by omega
  obtain⟨q,g1,g2,g3,l⟩:=QW c_ (tr d);have j:=entry_at b i;rw[g1,zbl p]at j;have b:es[i]=entryOfKey (tupleKind (qZ P w)) q:=tA.inj j;refine⟨.ref q.2.1,kvs[i].2,⟨kvs[i].1,q.2.1,tr d,rfl,g3⟩,?_,?_⟩
  ·rw[b];rfl
  ·rw[b];exact l
 | _=>exact J.elim
def qv.freezeT(I:qv X d h H s)(e:H a=some (.dT kvs)):∃o,qv X d h (upd H a (.frz o (.dT kvs))) s:=by
 obtain⟨z,hd,i,c_,o,l,m,d,p⟩:=(show qI X.prog X.w H s.heap a (.dT kvs) from I.hok a _ e);have j:B8 (H a):=by rw[e];exact True.intro
 have un:Un X.fs [] H (upd H a (.frz o (.dT kvs))) s.heap s.heap:=Un.write j (.inl rfl) (λb u _ q=>q) ⟨o,d⟩;have r:KT (upd H a (.frz o (.dT kvs))) kvs i:=KT.keeps c_ λb _ h=>by rw[qc (λq=>by rw[q,e]at h;cases h)];exact h
 have ok:Zd X.prog X.w (upd H a (.frz o (.dT kvs))) s.heap:=I.hok.write j (.inl rfl) (λb u _ q=>q) ⟨o,d⟩ ⟨d,z,hd,i,r,o,l,m,d,p⟩;exact⟨o,I.un (t':=s.toks) un ok⟩
inductive uP(Q:VK)(x:V)(H1:Hp):Prop
 | mk (a:_) (kvs:_):x=.ref a->H1 a=some (.dT kvs)->(∀o,Q x (upd H1 a (.frz o (.dT kvs))))->uP Q x H1
def Ea(te:TE):TE:=λa H Q=>te a H λx a=>uP Q x a
def As(h:JE X e te):JE X e (Ea te):=.of (by
 have h:=h.to;intro b s d H Q I i;refine js (h b s d H _ I i) λv _ ⟨x,_,b,d,a,kvs,ex,i,q⟩=>?_;obtain⟨j,l⟩:=b.freezeT i;exact⟨x,_,l,d,q j⟩)
inductive KI(ts:TS)(D:Jk)(σ:St)(H:Hp):Prop
 | mk (a:_) (kvs:_):H a=some (.dT kvs)->(∀o,ts D σ (upd H a (.frz o (.dT kvs))))->KI ts D σ H
def EG(ts:TS):TS:=λD a H=>KI ts D a H
def Al{X:Cx}{st:Stmt}{ts:TS}(h:JS X st ts):JS X st (EG ts):=.of (by
 have h:=h.to;intro b s d H D I e;obtain⟨a,kvs,i,q⟩:=e;obtain⟨e,j⟩:=I.freezeT i;exact h b s d _ D j (q e))
inductive KJ(ts:TS)(D:Jk)(σ:St)(H:Hp):Prop
 | mk (a:_) (kvs:_):H a=some (.dK kvs)->(∀o,ts D σ (upd H a (.frz o (.dK kvs))))->KJ ts D σ H
def EH(ts:TS):TS:=λD a H=>KJ ts D a H
def xf{X:Cx}{st:Stmt}{ts:TS}(h:JS X st ts):JS X st (EH ts):=.of (by
 have h:=h.to;intro b s d H D I e;obtain⟨a,kvs,i,q⟩:=e;obtain⟨e,j⟩:=I.freeze i;exact h b s d _ D j (q e))
def IK(a:Addr)(o:Obj)(u:HO):It:=⟨λi H=>H a=some (.frz o u)/\i < Ln u,λi H x b=>b=H/\∃y,Pr H u i x y,λi H=>H a=some (.frz o u)/\i=Ln u⟩
def FW(a:Addr)(o:Obj)(u:HO):It:=⟨λi H=>H a=some (.frz o u)/\i < Ln u,λi H v d=>∃b x y,H b=none/\v=.ref b/\Pr H u i x y/\d=upd H b (.tup [x,y]),λi H=>H a=some (.frz o u)/\i=Ln u⟩
def xU(a it:Addr)(o:Obj)(u:HO)(U:KS u):Wm P w K j (IK a o u) [it] it (λi h=>h.IsKeyIter it a i (Ln u) (Yp o)) where
 mem:=by simp
 obj:=λi h st b j=>by
  have e:b=it:=by simpa using j
  subst e;obtain⟨o,e,c,d⟩:=st;exact⟨o,e,λv z=>by rw[d]at z;cases z⟩
 keep:=λi h m st k=>let ⟨o,e,l⟩:=st;⟨o,k it (by simp) o e,l⟩
 item:=by
  intro X q r B Y i aa s σ H E I p st C;subst q r B;obtain⟨D,f1,f2,J,L,O⟩:=p it (by simp);obtain⟨Q,l⟩:=C;obtain⟨_,es,T,sz,all⟩:=ZV I.hok U Q;rw[<-sz]at st l;refine MJ st T l λm ab sb=>?_;have I1:qv X aa σ H {s with heap:=m,toks:=s.toks}:=I.turned (λb o j e=>(sb.2 b j).trans e) D f1 J L O;obtain⟨x,y,pr,rx,_⟩:=all i l;obtain⟨_,e2,c2,d2⟩:=id ab;exact⟨_,rfl,WZ (s:={s with heap:=m}) e2 c2 d2 (by decide) ⟨x,H,I1,rx,⟨rfl,y,pr⟩,by rw[<-sz];exact ab,λb j=>(p b j).1⟩⟩
 done:=by
  intro X q r B Y i aa s σ H E I p st C;subst q r B;obtain⟨D,f1,f2,J,L,O⟩:=p it (by simp);obtain⟨Q,l⟩:=C;obtain⟨_,es,T,sz,all⟩:=ZV I.hok U Q;subst l;rw[<-sz]at st;exact KR (I.ok.hd Y) st T λm l=>⟨rfl,I.turned (t':=s.toks) (λb o j e=>l b o j e) D f1 J L O⟩
 self:=λ_ _ _ _ _ st h=>wpAny_pyIter_keyiter st h
def vG(a it:Addr)(o:Obj)(u:HO)(Q:KS u):Wm P w K (.Tuple Y x1 ab) (FW a o u) [it] it (λi h=>∃ok m,IsItemIter h it a i (Ln u) (Yp o) ok m) where
 mem:=by simp
 obj:=λi h st b Y=>by
  have e:b=it:=by simpa using Y
  subst e;obtain⟨_,_,e⟩:=st;exact⟨_,e,λv z=>by cases z⟩
 keep:=λi h p st k=>let ⟨x,y,e⟩:=st;⟨x,y,k it (by simp) _ e⟩
 item:=by
  intro X q r B d i T s U H E I l st C;subst q r B;obtain⟨ok,m,st⟩:=st;obtain⟨D,j⟩:=C;obtain⟨_,J,L,sz,all⟩:=ZV I.hok Q D;rw[<-sz]at st j;obtain⟨x,y,pr,rx,ry⟩:=all i j;refine KU st L j λp Y z3 O=>⟨_,rfl,?_⟩;refine wpAny_letOwnedTupleGo_items Y λY aa sb=>?_;have nT:s.heap.objs.size≠it:=zbz (tH st);have kT:∀c o,c≠it->p.get? c=some o->Y.get? c=some o:=λc o d e=>(sb.2 c d).trans e;have I1:qv X T U (upd H s.heap.objs.size (.tup [x,y])) {s with heap:=Y,toks:=s.toks}:=I.turnLaid (L:=[it]) (t':=s.toks)
   (λc o d e=>have n:c≠it:=(λz=>d (by simp [z]));kT c o n (O c o n e)) l (tf _)
   ⟨JB,[J[i].key,J[i].val],.cons rx (.cons ry .nil),⟨_,kT _ _ nT z3,rfl,_,rfl⟩⟩
  refine⟨.ref s.heap.objs.size,_,I1,rfl,⟨s.heap.objs.size,x,y,I.hok.fresh (tf _),rfl,pr,rfl⟩,⟨_,_,by rw[<-sz];exact aa⟩,λc d=>?_⟩;have h0:=(l c d).1;have ec:c=it:=by simpa using d
  subst ec;rw[qc (Ne.symm nT)];exact h0
 done:=by
  intro X q r B d i T s U H E I l st C;subst q r B;obtain⟨ok,m,st⟩:=st;obtain⟨D,j⟩:=C;obtain⟨_,J,L,sz,all⟩:=ZV I.hok Q D;subst j;rw[<-sz]at st;exact VE (I.ok.hd d) st L λp O=>⟨rfl,I.turnedL (L:=[it]) (t':=s.toks) (λc o d e=>O c o (λz=>d (by simp [z])) e) l⟩
 self:=λ_ _ _ _ _ st h=>let ⟨_,_,e⟩:=st;PySem.W.kcp_self e h
inductive RU(R:It->Hp->Prop)(x:V)(H1:Hp):Prop
 | mk (a:_) (o:_) (u:_):x=.ref a->H1 a=some (.frz o u)->KS u->(R (IK a o u) H1)->RU R x H1
def FK(a:TE):TI:=λb H R=>a b H λx a=>RU R x a
def Ao(d:JE X l i):JI X j l (FK i):=.of (by
 have d:=d.to;intro i s j H R I h;refine js (d i s j H _ I h) λv d ⟨x,o,i,p,r⟩=>?_;obtain⟨a,j,u,e,y,m,q⟩:=r;subst e;cases p;obtain⟨hd,_,p,sz,all⟩:=ZV i.hok m y;refine raw_iter hd p ?_;refine⟨d.heap.objs.size,[d.heap.objs.size],_,_,o,rfl,i.kept (t':=d.toks) λb j e=>tm _ e,xU a _ j u m,?_,λb j=>?_,q⟩
 ·rw[<-sz];exact⟨_,tJ _ rfl,rfl,rfl⟩
 ·have e:b=d.heap.objs.size:=by simpa using j
  subst e;exact i.fpOk (tf _) (i.hok.fresh (tf _)))
inductive xm(R:It->Hp->Prop)(x:V)(H1:Hp):Prop
 | mk (a:_) (o:_) (u:_):x=.ref a->H1 a=some (.frz o u)->KS u->(R (FW a o u) H1)->xm R x H1
def Dy(a:TE):TI:=λb H R=>a b H λx a=>xm R x a
def vk{ap i:Pos}(d:JE X l j)(m:attributeBase l "items" X.env (eval l X.env)=eval l X.env:=by rfl)(o:(ap.endLine==i.line)=true:=by rfl):JI X (.Tuple p r y) (.Call (.Attribute l "items" ap) [] [] i) (Dy j):=.of (by
 have d:=d.to;intro i s j H R I h;refine wpAny_Call_method0_late m o (js (d i s j H _ I h) λv d ⟨x,r,j,i,o⟩=>?_);obtain⟨a,m,u,e,y,p,q⟩:=o;subst e;cases i;obtain⟨hd,z,i,sz,all⟩:=ZV j.hok p y;refine⟨"dict","dict.items",zbF,zcU,PySem.F.type_dict_items,i.ty,?_,Calls.callWith_builtin rfl (PySem.evalArgs_none ?_)⟩
 ·obtain⟨y,B,C,_⟩:=id i;exact λb o=>by cases o;exact⟨y,B,C.2.1⟩
 refine call_meetsIn zcU i.ty PySem.F.entry_dict_items (PySem.F.args_dict_items_1 _) (wk hd) ⟨i.ty,?_⟩;refine VF (s:={d with heap:=d.heap.push {cls:=.type "dict_items",data:=.fields #[.ref a]}}) (v:=d.heap.objs.size) ⟨_,tJ _ rfl,rfl,rfl⟩ (i.at_ λm e=>tm _ e) ?_;have y:∀b i,d.heap.get? b=some i->((d.heap.push {cls:=.type "dict_items",data:=.fields #[.ref a]}).push {cls:=.type "dict_itemiterator",data:=.fields #[.none,.bool false,.ref a,.int 0 0,.int z.size 0,.int (Yp m) 0,.none,.none]}).get? b=some i:=λb i e=>tm _ (tm _ e);have i:(d.heap.push {cls:=.type "dict_items",data:=.fields #[.ref a]}).objs.size=d.heap.objs.size+1:=zbf ..;refine⟨(d.heap.push {cls:=.type "dict_items",data:=.fields #[.ref a]}).objs.size,[(d.heap.push {cls:=.type "dict_items",data:=.fields #[.ref a]}).objs.size],_,_,r,rfl,j.kept (t':=d.toks) y,vG a _ m u p,⟨.none,.none,?_⟩,λb o=>?_,q⟩
 ·rw[<-sz];exact tJ _ rfl
 ·have e:b=(d.heap.push {cls:=.type "dict_items",data:=.fields #[.ref a]}).objs.size:=by simpa using o
  subst e;have le:d.heap.objs.size<=(d.heap.push {cls:=.type "dict_items",data:=.fields #[.ref a]}).objs.size:=by omega
  exact j.fpOk le (j.hok.fresh le))
def W0{a:Addr}{o:Obj}{u:HO}{g:TG}{d:St}{H:Hp}{tb:TS}{D:Jk}(Pv:Nat->St->Hp->Prop)(v:Pv 0 d H)(z:∀i d H,i<=Ln u->Pv i d H->H a=some (.frz o u))
  (B:∀i x y p d H,i < Ln u->H p=none->Pr H u i x y->Pv i d H->g (.ref p) d (upd H p (.tup [x,y])) λh j=>tb {D with nx:=Pv (i+1),ct:=Pv (i+1),bk:=D.nx} h j) (hd:∀d H,Pv (Ln u) d H->D.nx d H):
  ∃W:Nat->Nat->St->Hp->Prop,(∃m,W 0 m d H)/\∀i m d H,W i m d H->
   ((FW a o u).stop i H/\D.nx d H)\/((FW a o u).go i H/\∃N:St->Hp->Prop,(∀l H',N l H'->∃r,r < m/\W (i+1) r l H')/\∀x H',(FW a o u).yld i H x H'->g x d H' λh j=>tb {D with nx:=N,ct:=N,bk:=D.nx} h j):=by
 refine⟨λi m d H=>m=Ln u - i/\i<=Ln u/\Pv i d H,⟨Ln u,by simp,zat _,v⟩,?_⟩;rintro i m d H ⟨rfl,h,p⟩;have q:=z i d H h p;by_cases h:i < Ln u
 ·refine .inr ⟨⟨q,h⟩,Pv (i+1),λl H' j=>⟨Ln u - (i+1),by omega,rfl,h,j⟩,λx H' y=>?_⟩;obtain⟨b,j,l,r,rfl,v,rfl⟩:=y;exact B i j l b d H h r v p
 ·have e:i=Ln u:=by omega
  subst e;exact .inl ⟨⟨q,rfl⟩,hd d H p⟩
def Nv{g:TG}{Q:Hp->Prop}(Pv:Nat->St->Hp->Prop)(d:Pv 0 h (upd H D (.lst [])))(j:∀i b H',i<=Ln u->Pv i b H'->H' a=some (.frz o u))(l:∀i x y b H',i < Ln u->Pr H' u i x y->Pv i b H'->g x b H' (YL tt te D (Pv (i+1))))(hd:∀b H',Pv (Ln u) b H'->Q H'):Z1 (IK a o u) g tt te D h H Q:=
 Ys (n:=Ln u) Pv d (λi b H' h d=>⟨⟨j i b H' (zac h) d,h⟩,λx _ y=>by
  obtain⟨e,m,p⟩:=y;subst e;exact l i x m b _ h p d⟩) λb H' d=>⟨⟨j _ b H' (tf _) d,rfl⟩,hd b H' d⟩
open PySem PySem.Spec PySem.W
open PyProof.Rows hiding K lo
inductive yR(xs:List V)(H:Hp)(Q:VK):Prop
 | mk (a:Addr) (kvs:List (qF×V)) (zs:List Str):xs=[.ref a]->(Rd H a (.dK kvs))->kvs.map (·.1)=zs.map Sum.inr->(∀l,H l=none->Q (.ref l) (upd H l (.lst (zs.map V.str))))->yR xs H Q
def CI:List V->Hp->VK->Prop:=λa H Q=>yR a H Q
def X1{X:Cx}(j:X.calm=true):Jh X (.type "list") CI:=by
 intro _ s _ H _ _ Q I b h;obtain⟨a,kvs,d,rfl,l,m,q⟩:=h;obtain⟨u,rfl,o⟩:=JL b;cases o;obtain⟨o,hd,b,c_,p⟩:=YJ I.hok l;obtain⟨l,r⟩:=p.dictAt;have lk:kvs.length=d.length:=by simpa using congrArg zav m
 have p:kvs.length=b.length:=Paired.length c_;refine kdl_call (kdl_dict (knd:=qZ X.prog X.w) (kvs:=b) (ep:=l) hd) (I.ok.hd j) r (by rw[<-p];exact o) λ_ tk l c r e j=>?_;have v:qK (d.map V.str) l.toList:=by
  refine WM _ _ (by have:=j.1;simp only[ta,zaz];omega) λi x u b p=>?_;have B:l[i]?=some u:=by simpa using p
  obtain⟨k,y,f1,f2⟩:=j.2 i u B;rw[tw]at b;cases j:d[i]? with
  | none=>rw[j]at b;cases b
  | some z=>
   rw[j]at b;obtain rfl:=(tA.inj b).symm;have b:i < kvs.length:=by
    have:=(td.mp j).1;omega
   obtain⟨_,g1,g2,_⟩:=QW c_ (tr b);rw[f1]at g1;cases g1;have p:(kvs.map (·.1))[i]?=some kvs[i].1:=by rw[tw,tr b];rfl
   rw[m,tw,j]at p;have b:k=Sum.inr z:=g2.symm.trans (tA.inj p).symm;subst b;rcases jA (show YD (Sum.inr z) u=true from f2) with ⟨_,_,c,_⟩ | ⟨b,t,c,rfl⟩
   ·cases c
   ·cases c;exact⟨t,rfl⟩
 exact⟨.ref _,_,I.laid (t':=tk) (o:=.lst (d.map V.str)) r (tf _) ⟨by rw[ta,<-lk];exact o,l.toList,c,v,by simpa using e⟩,rfl,q _ (I.hok.fresh (tf _))⟩
open PyProof.Rows hiding K lo
section
variable{prog:Program}{w:World}{KK:Type}[DecidableEq KK]{kd:HeapKind prog w KK}{A:Around}{E:Value->Shared->Prop}{s:Shared}
end
open PyProof.Rows hiding K lo
open PyProof.Rows hiding K lo
def EV:Qt (J4 P w) X E0:=λ_ _ _ _ _ _ _ h=>by
 obtain⟨a,_,_,_,_,_,_,_,_,_,_,_,_,_,_,_,z⟩:=h;exact z.elim
open PyProof.Rows hiding K lo
open PyProof.Rows hiding K lo
open PyProof.Rows hiding K lo
open PyProof.Rows hiding K lo
open PyProof.Rows hiding K lo
open Classical in
open PyProof.Rows hiding K lo
open PyProof.Rows hiding K lo
open PyProof.Rows hiding K lo
mutual
inductive DG(H:Hp):V->PyData->Prop
 | non:DG H .non .none
 | bl (b:Bool):DG H (.bl b) (.bool b)
 | int (i:Int):DG H (.int i) (.int i)
 | str (x:Str):DG H (.str x) (.str x)
 | lst {a:Addr} {xs:List V} {ds:List PyData}:H a=some (.lst xs)->a≠sysModules->DGs H xs ds->DG H (.ref a) (.list ds)
 | tup {a:Addr} {xs:List V} {ds:List PyData}:H a=some (.tup xs)->DGs H xs ds->DG H (.ref a) (.tuple ds)
 | dct0 {a:Addr}:H a=some (.dK [])->DG H (.ref a) (.dict [])
 | dct1 {a:Addr} {z:Str} {i:Int}:H a=some (.dK [(Sum.inr z,.int i)])->DG H (.ref a) (.dict [(.str z,.int i)])
inductive DGs(H:Hp):List V->List PyData->Prop
 | nil:DGs H [] []
 | cons {x:V} {xs:List V} {d:PyData} {ds:List PyData}:DG H x d->DGs H xs ds->DGs H (x::xs) (d::ds)
end
open PyProof.Rows hiding K lo
open PySem PySem.Spec PySem.Builtin PySem.Builtin.Str
open PyProof.Rows hiding K lo
open PyProof.Rows hiding K lo
open PyProof.Rows hiding K lo
open Classical in
open PySem PySem.Spec PySem.Builtin PySem.W
open PyProof.Rows hiding K lo
open PyProof.Rows hiding K lo
open PyProof.Rows hiding K lo
open PyProof.Rows hiding K lo
open PyProof.Rows hiding K lo
open PyProof.Rows hiding K lo
open PyProof.Rows hiding K lo
def Rd.mono{H':Hp}(r:Rd H a u)(s:∀b o,H b=some o->H' b=some o):Rd H' a u:=r.elim (λe=>.inl (s _ _ e)) λ⟨o,e⟩=>.inr ⟨o,s _ _ e⟩
open PyProof.Rows hiding K lo
inductive BC(K:zdM)(x:V)(y:V)(H:Hp)(Q:VK):Prop
 | mk (d:_) (d':_):DV K H x d->DV K H y d'->PySem.SeqAt.shaped d=true->PySem.SeqAt.shaped d'=true->(Q (.bl (!PyData.eqv d d')) H)->BC K x y H Q
def EJ(K:zdM):R2:=λx y H Q=>BC K x y H Q
def CT{X:Cx}(hu:X.A.units+64 < cLine):Z0 X (compareOp .NotEq) (EJ X.K):=by
 intro _ s _ H x y v u Q I a b h;obtain⟨d,_,e,i,j,l,q⟩:=h;obtain⟨as,m⟩:=e.reads I a;obtain⟨bs,a⟩:=i.reads I b;exact SeqAt.compareNe_shaped m a j l hu ⟨.bl _,H,I,rfl,q⟩
open PySem PySem.Spec PySem.W
open PyProof.Rows hiding K lo
def Us(K:zdM)(Cl:Addr)(ts:TS)(h:TH):TH:=λb a i D d H=>∃f e,F0 K b f e/\
 if (Value.ref b::e).contains (.ref Cl)=true then ts D d H else h b a i D d H
def vx{X:Cx}{x:Str}{p pos:Pos}{O:Stmt}{suite:List Stmt}{rest:List ExceptHandler}{ts:TS}{T:TH}{Cl:Addr}(hg:Gl X x)(hm:X.mg x=some (.ref Cl))(hD:ND X.K Cl)
  (hs:∀v E,NH (X.suite v E) (O::suite) ts) (hr:PH X rest T) (ac:(x==("__debug__":Str))=false:=by decide):PH X (.ExceptHandler (some (.Name x p)) none (O::suite) pos::rest) (Us X.K Cl ts T):=by
 intro o s r H D a y U j I Y B h;obtain⟨f,bm,em,h⟩:=h;obtain⟨ae,af,hB⟩:=hD;refine wpAny_handleBy_cons (codeAny_handlers_test ?_) (by intro q;cases q);refine wpAny_mono (yV (X:=X.suite (.ref a) _) (v:=.ref Cl) hg hm rfl ac o s r H (λv i=>v=.ref Cl/\i=H) (I.suite _ _) ⟨rfl,rfl⟩) (λc C q=>?_) (λ_ _ z=>z);obtain⟨v,i,I1,rv,rfl,rfl⟩:=q;obtain rfl:c=Value.ref Cl:=rv;have m:qv X o r i C:=I.unsuite I1;obtain⟨nm,q,N,bs,aj,sn,sub,ab,ak,dd,k0,k1,k2,k3,k5,hC⟩:=em.obj;obtain⟨al,q',N',am,an,ao,ap,aq,ar,as,au,av,aw,ax,ay,ag⟩:=af;obtain⟨⟨fl,he,hz⟩,_,_⟩:=(show qI X.prog X.w i C.heap a (Q4 a y U (.ref j)) from m.hok a _ Y);obtain⟨st,_,_⟩:=(show qI X.prog X.w i C.heap j (We j .none) from m.hok j _ B);have gC:=m.kIn _ _ hC;have gD:=m.kIn _ _ ag;obtain⟨hp,g,d,tk,os⟩:=C;refine uc (bC:=Value.ref y::bm) (bD:=Value.ref Cl::ae) he rfl gC gD (λj Q k=>wpAny_isSubtype_exc gC k) (λj Q k=>wpAny_isSubtype_exc gD k) (by rw[zcD,hB,Bool.or_true]) ?_;cases hb:(Value.ref y::bm).contains (.ref Cl) with
 | false=>
  rw[hb,if_neg tI]at h;exact hr o _ r i D a y U j m Y B h
 | true=>
  rw[hb,if_pos rfl]at h;refine(show codeAny _ _ _ _ _ from codeAny_handlers_suite ?_);refine Zo (fs:=YH X.stack) he hz st λh' F aa=>?_;have I3:qv X o r i {heap:=h',gens:=g,drawn:=d,toks:=tk,os:=os}:=m.flown (H':=i) F ⟨λb e=>by cases tK.mp e;exact⟨_,B⟩,λb ah _ z=>z,λb _ z=>z⟩ (λb e=>by cases tK.mp e;obtain⟨az,z,_⟩:=aa;exact⟨_,z⟩) λb ah z e=>by
   rcases e with e | e
   ·rw[z]at e;cases e
   ·cases tK.mp e;rw[B]at z;cases z;exact zc aa
  refine wpAny_mono (hs (.ref a) _ o _ _ i D (I3.suite _ _) h) (λfl s3 q=>?_) (λ_ _ z=>z);cases fl with
  | next=>
   obtain⟨J,L,l,q⟩:=q;exact⟨_,_,I.unsuite l,q⟩
  | brk=>
   obtain⟨J,L,l,q⟩:=q;exact⟨_,_,I.unsuite l,q⟩
  | cont=>
   obtain⟨J,L,l,q⟩:=q;exact⟨_,_,I.unsuite l,q⟩
  | ret u=>
   obtain⟨v,J,L,l,ai,q⟩:=q;exact⟨v,_,_,I.unsuite l,ai,q⟩
def RD{X:Cx}{x:Str}{p pos:Pos}{a:Stmt}{suite:List Stmt}{rest:List ExceptHandler}{ts:TS}{b:TH}{Cl:Addr}(d:Gl X x)(e:X.mg x=some (.ref Cl))(h:ND X.K Cl)
  (i:∀v E,Wo (X.suite v E) (a::suite) ts) (hr:JH X rest b) (j:(x==("__debug__":Str))=false:=by decide):JH X (.ExceptHandler (some (.Name x p)) none (a::suite) pos::rest) (Us X.K Cl ts b):=
 .of (vx d e h (λv E=>(i v E).to) hr.to j)
end L2
namespace Rb
def jM(ns:List Nat):Nat:=ns.foldl (·^^^ ·) 0
def setN(ns:List Nat):Nat:=ns.foldl (λb n=>b ||| 2^n) 0
def memN(b n:Nat):List Nat:=(tQ n).filter λi=>b.testBit i
def Lacks(r:Nat)(ns:List Nat):Prop:=r∉ns/\∀x,x < r->x∈ns
def Dd(x:Nat):x % 2=(x.testBit 0).toNat:=by
 rw[zco];rcases zcE x with h | h<;>simp [h]
def or_and_xor(a:Nat):∀b,(a ||| b)=(a&&& b)+(a^^^b):=by
 induction a using zct with
 | ind a d=>
  intro b;by_cases e:a=0
  ·subst e;simp
  ·have i:=d (a / 2) (by omega) (b / 2);have d:(a ||| b) / 2=(a / 2) ||| (b / 2):=Nat.or_div_two;have n1:(a&&& b) / 2=(a / 2)&&& (b / 2):=Nat.and_div_two;have d:(a^^^b) / 2=(a / 2)^^^ (b / 2):=Nat.xor_div_two;have m:(a ||| b) % 2=(a&&& b) % 2+(a^^^b) % 2:=by
    rw[Dd (a ||| b),Dd (a&&& b),Dd (a^^^b),Nat.testBit_or,Nat.testBit_and,zbP];cases a.testBit 0<;>cases b.testBit 0<;>rfl
   omega
def R6(ns:List Nat):∀b k,(ns.foldl (λb n=>b ||| 2^n) b).testBit k=(b.testBit k || decide (k∈ns)):=by
 induction ns with
 | nil=>intro b k;simp
 | cons n ns a=>
  intro b k;rw[zcu,a,Nat.testBit_or,Nat.testBit_two_pow];by_cases h:n=k
  ·subst h;simp
  ·have a:¬k=n:=λe=>h e.symm;simp [h,a]
def testBit_setN(ns:List Nat)(k:Nat):(setN ns).testBit k=decide (k∈ns):=by
 unfold setN;rw[R6];simp
def mem_memN{b n i:Nat}:i∈memN b n↔i < n/\b.testBit i=true:=by
 unfold memN;simp
def Yy{b k m:Nat}(h:b < 2^m)(a:m<=k):b.testBit k=false:=zda (tF h (zdm (by decide) a))
def WW{b m:Nat}(h:b < 2^m):∀n,m<=n->memN b n=memN b m:=by
 intro n a;obtain⟨k,rfl⟩:=Nat.le.dest a;unfold memN;rw[List.range_add,zay];have e:((tQ k).map (m+·)).filter (λi=>b.testBit i)=[]:=by
  rw[zdb];intro i a;obtain⟨_,_,rfl⟩:=tc.mp a;rw[Yy h (Nat.le_add_right _ _)];simp
 rw[e,zak]
def memN_same{b m n:Nat}(a:b < 2^m)(d:b < 2^n):memN b n=memN b m:=by
 by_cases h:m<=n
 ·exact WW a n h
 ·exact(WW d m (by omega)).symm
def setN_lt{ns:List Nat}{m:Nat}(h:∀x∈ns,x < m):setN ns < 2^m:=by
 refine Nat.lt_pow_two_of_testBit _ λi _=>?_;rw[testBit_setN];refine decide_eq_false λz=>?_;have:=h i z;omega
def Mh{b m:Nat}(h:b < 2^m):setN (memN b m)=b:=by
 refine zbd λi=>?_;rw[testBit_setN,zaq,decide_eq_true_iff,mem_memN];constructor
 ·exact λz=>z.2
 ·intro z;refine⟨?_,z⟩;refine Decidable.byContradiction λ_=>?_;rw[Yy h (by omega)]at z;cases z
def turnN(b n m:Nat):Nat:=setN ((memN b m).map (·^^^n))
def xor_lt{a b m:Nat}(d:a < 2^m)(e:b < 2^m):a^^^b < 2^m:=zdu d e
def k9(a b:Nat):(a^^^b)^^^b=a:=by rw[zaG,zaV,zbj]
def Vi{b n m k:Nat}(a:m<=2^k)(d:n < 2^k):turnN b n m < 2^ (2^k):=by
 refine setN_lt λx e=>?_;obtain⟨y,h,rfl⟩:=tc.mp e;exact xor_lt (tF (mem_memN.mp h).1 a) d
def pigeon:∀(n:Nat) (ns:List Nat),(∀x,x < n->x∈ns)->n<=ns.length:=by
 intro n;induction n with
 | zero=>intro ns _;exact zat _
 | succ n b=>
  intro ns h;have a:n∈ns:=h n (zba n);have:=b (ns.erase n) λx d=>(zbq (by omega)).mpr (h x (zci d));rw[zbC a]at this;have b:0 < ns.length:=zaW a;omega
def Lacks.uniq{r s:Nat}{ns:List Nat}(h:Lacks r ns)(g:Lacks s ns):r=s:=by
 rcases zaY r s with z | z | z
 ·exact absurd (g.2 r z) h.1
 ·exact z
 ·exact absurd (h.2 s z) g.1
def Zv(ns:List Nat):Nat->Nat
 | 0=>0
 | i+1=>if Zv ns i∈ns then Zv ns i+1 else Zv ns i
def kx(ns:List Nat):∀i,(∀x,x < Zv ns i->x∈ns)/\Zv ns i<=i/\(Zv ns i < i->Zv ns i∉ns):=by
 intro i;induction i with
 | zero=>exact⟨λx a=>absurd a (zcf _),tf _,λh=>absurd h (zaF _)⟩
 | succ i d=>
  obtain⟨b,_,j⟩:=d;unfold Zv;by_cases h:Zv ns i∈ns
  ·rw[if_pos h];refine⟨λx a=>?_,by omega,λ_=>absurd h (j (by omega))⟩;by_cases e:x=Zv ns i
   ·rw[e];exact h
   ·exact b x (by omega)
  ·rw[if_neg h];exact⟨b,by omega,λ_=>h⟩
def lackI_lacks(ns:List Nat):Lacks (Zv ns (ns.length+1)) ns:=by
 obtain⟨a,_,b⟩:=kx ns (ns.length+1);refine⟨b ?_,a⟩;have:=pigeon _ _ a;omega
def lackN(ns:List Nat):Nat:=Zv ns (ns.length+1)
def lackN_eq{r:Nat}{ns:List Nat}(h:Lacks r ns):r=lackN ns:=h.uniq (lackI_lacks ns)
def memN_succ(b i:Nat):memN b (i+1)=memN b i++(if b.testBit i then [i] else []):=by
 unfold memN;rw[zcg,zay];congr 1;by_cases h:b.testBit i=true
 ·simp [h]
 ·simp [h]
def testBit_div(b i:Nat):b.testBit i=decide (b / 2^i % 2=1):=by
 rw[Nat.testBit_eq_decide_div_mod_eq]
def Yw(ns:List Nat)(n:Nat):jM (ns++[n])=jM ns^^^n:=by unfold jM;rw[zbT];rfl
def setN_snoc(ns:List Nat)(n:Nat):setN (ns++[n])=setN ns ||| 2^n:=by unfold setN;rw[zbT];rfl
end Rb
namespace MLab
def ye:∀(g m:Nat),m < g->∃k,m.testBit k=false/\g.testBit k=true/\∀j,k < j->m.testBit j=g.testBit j:=by
 intro g;induction g using zct with
 | _ g a=>
  intro m h;by_cases c:m / 2 < g / 2
  ·obtain⟨k,b,d,i⟩:=a (g / 2) (by omega) (m / 2) c;refine⟨k+1,by rw[zbG];exact b,by rw[zbG];exact d,λj a=>?_⟩;cases j with
   | zero=>omega
   | succ j=>rw[zbG,zbG];exact i j (by omega)
  ·have e:m / 2=g / 2:=by omega
   refine⟨0,?_,?_,λj a=>?_⟩
   ·rw[zco];simp;omega
   ·rw[zco];simp;omega
   ·cases j with
    | zero=>omega
    | succ j=>rw[zbG,zbG,e]
def Dh{x y:Nat}(k:Nat)(e:x.testBit k=false)(a:y.testBit k=true)(h:∀j,k < j->x.testBit j=y.testBit j):x < y:=by
 rcases zaY x y with c | rfl | c
 ·exact c
 ·rw[e]at a;cases a
 ·obtain⟨i,b,l,m⟩:=ye _ _ c;rcases zaY i k with d | rfl | d
  ·have:=m k d;rw[e,a]at this;cases this
  ·rw[a]at b;cases b
  ·have:=h i d;rw[b,l]at this;cases this
def QP(ns:List Nat):Nat:=ns.foldr (λa b=>a^^^b) 0
def z0(a:Nat)(ns:List Nat):QP (a::ns)=a^^^QP ns:=rfl
def Uj{k:Nat}:∀{ns:List Nat},(QP ns).testBit k=true->∃n∈ns,n.testBit k=true
 | [],h=>by simp [QP]at h
 | a::ns,h=>by
  rw[z0,zbP]at h;cases e:a.testBit k with
  | true=>exact⟨a,tO,e⟩
  | false=>
   rw[e,Bool.false_xor]at h;obtain⟨n,b,d⟩:=Uj h;exact⟨n,tG _ b,d⟩
def xO{ns:List Nat}{m:Nat}(h:m < QP ns):∃n∈ns,n^^^QP ns^^^m < n:=by
 obtain⟨k,e,b,i⟩:=ye _ _ h;obtain⟨n,a,d⟩:=Uj b;refine⟨n,a,Dh k ?_ d λa j=>?_⟩
 ·rw[zbP,zbP,d,e,b];rfl
 ·rw[zbP,zbP,i a j];cases n.testBit a<;>cases (QP ns).testBit a<;>rfl
section
variable{α:Type}(G:α->List α)
structure Zc(ok:α->Prop)(num:α->Option Nat)(d9:α->Nat):Prop where
 cl:∀{x y},ok x->y∈G x->ok y
 n1:∀{x n m},ok x->num x=some n->m < n->∃y∈G x,num y=some m/\d9 y < d9 x
 n2:∀{x y n},ok x->num x=some n->y∈G x->num y≠some n
 n3:∀{x y n},ok x->num x=some n->y∈G x->(∀m,num y=some m->n < m)->∃z∈G y,num z=some n/\d9 z < d9 x
 n4:∀{x y n m},ok x->num x=some n->y∈G x->num y=some m->m < n->d9 y < d9 x
 e:∀{x m},ok x->num x=none->(∀j,j < m->∃y∈G x,num y=some j)->(∀y∈G x,num y≠some m)->∃y∈G x,num y=none/\∀z∈G y,num z≠some m
section
variable{β:Type}(M:β->List β)
mutual
inductive ZP:β->Prop
 | mk {a:β} (h:∀b∈M a,Won b):ZP a
inductive Won:β->Prop
 | mk {a b:β} (m:b∈M a) (h:ZP b):Won a
end
end
def mv:List α->List (List α)
 | []=>[]
 | x::h=>(G x).map (λy=>y::h)++(mv h).map (λb=>x::b)
def j1:∀{a b:List α},b∈mv G a↔∃p x y q,a=p++x::q/\y∈G x/\b=p++y::q
 | [],b=>by
  constructor
  ·intro h;simp [mv]at h
  ·rintro⟨p,x,y,q,e,_⟩;simp at e
 | x::h,b=>by
  unfold mv;rw[tN,tc,tc];constructor
  ·rintro(⟨y,hy,rfl⟩ | ⟨b',hb,rfl⟩)
   ·exact⟨[],x,y,h,rfl,hy,rfl⟩
   ·obtain⟨p,u,y,q,rfl,hy,rfl⟩:=j1.mp hb;exact⟨x::p,u,y,q,rfl,hy,rfl⟩
  ·rintro⟨p,u,y,q,e,hy,rfl⟩;cases p with
   | nil=>
    cases e;exact .inl ⟨y,hy,rfl⟩
   | cons v p=>
    cases e;exact .inr ⟨p++y::q,j1.mpr ⟨p,u,y,q,rfl,hy,rfl⟩,rfl⟩
variable{G}{ok:α->Prop}{num:α->Option Nat}{d9:α->Nat}
def Jc(num:α->Option Nat)(h:List α):List Nat:=h.filterMap num
def ends(num:α->Option Nat)(h:List α):Nat:=(h.filter λx=>(num x).isNone).length
def Uk(a b:List Nat):QP (a++b)=QP a^^^QP b:=by
 induction a with
 | nil=>show QP b=0^^^QP b;rw[zcx]
 | cons x a d=>rw[zcR,z0,d,z0,zaG]
def QT{p q:List α}{x:α}{n:Nat}(h:num x=some n):QP (Jc num (p++x::q))=n^^^QP (Jc num (p++q)):=by
 unfold Jc;rw[zax,zad,h,zax,Uk,Uk];show _^^^ (n^^^QP _)=_;rw[<-zaG,zcy _ n,zaG]
def U7{p q:List α}{x:α}(h:num x=none):Jc num (p++x::q)=Jc num (p++q):=by
 unfold Jc;rw[zax,zad,h,zax]
def jY{p q:List α}{x:α}{n:Nat}(h:num x=some n):ends num (p++x::q)=ends num (p++q):=by
 unfold ends;rw[zay,zbe,h,zay];rfl
def QV{p q:List α}{x:α}(h:num x=none):ends num (p++x::q)=ends num (p++q)+1:=by
 unfold ends;rw[zay,zbe,h,zay,tv,tv];show _+(_+1)=_;omega
def vw(d9:α->Nat)(h:List α):Nat:=(h.map d9).sum
def ZO{p q:List α}{x:α}:vw d9 (p++x::q)=d9 x+vw d9 (p++q):=by
 unfold vw;rw[tj,tM,zby,zaH,tj,zby];omega
def zu{a b c:Nat}(h:a^^^c=b^^^c):a=b:=by
 have:a^^^c^^^c=b^^^c^^^c:=by rw[h]
 rwa [zaG,zaG,zaV,zbj,zbj]at this
def Vk(L:Zc G ok num d9){h:List α}(d:∀x∈h,ok x){m:Nat}(lt:m < QP (Jc num h)):∃p x y q,h=p++x::q/\y∈G x/\(∃n k,num x=some n/\num y=some k)/\QP (Jc num (p++y::q))=m/\d9 y < d9 x:=by
 obtain⟨n,b,e⟩:=xO lt;obtain⟨x,a,ex⟩:=zaC.mp b;obtain⟨p,q,rfl⟩:=zbM a;obtain⟨y,i,b,j⟩:=L.n1 (d x a) ex e;refine⟨p,x,y,q,rfl,i,⟨n,_,ex,b⟩,?_,j⟩;rw[QT b,QT ex];generalize QP (Jc num (p++q))=a;rw[<-zaG n n a,zaV,zcx,zcy a m,zaG,zaV,zbj]
def zf{h p q:List α}{x y:α}(L:Zc G ok num d9)(b:∀x∈h,ok x)(e:h=p++x::q)(d:y∈G x):∀z∈p++y::q,ok z:=λz a=>by
 subst e;rcases tN.mp a with a | a
 ·exact b z (tV _ a)
 ·rcases tL.mp a with rfl | a
  ·exact L.cl (b x (by simp)) d
  ·exact b z (tU _ (tG _ a))
def wI(L:Zc G ok num d9):∀(c:Nat) {h:List α},vw d9 h<=c->(∀x∈h,ok x)->ends num h=0->QP (Jc num h)=0->ZP (mv G) h:=by
 intro c;induction c using zct with
 | _ c v=>
  intro h p d e j;refine .mk λb l=>?_;obtain⟨a,x,y,q,rfl,i,rfl⟩:=(j1 G).mp l;have l:=d x (by simp);have o:=zf L d rfl i;cases ex:num x with
  | none=>rw[QV ex]at e;omega
  | some n=>
   rw[jY ex]at e;rw[QT ex]at j;rw[ZO]at p;have B:(∀m,num y=some m->n < m)->Won (mv G) (a++y::q):=λgt=>by
    obtain⟨z,d,p,_⟩:=L.n3 l ex i gt;refine .mk (b:=a++z::q) ((j1 G).mpr ⟨a,y,z,q,rfl,d,rfl⟩) (v (vw d9 (a++z::q)) (by rw[ZO];omega) (tf _) (zf L o rfl d) (by rw[jY p];exact e) (by rw[QT p];exact j))
   cases d:num y with
   | none=>exact B λm h=>by rw[d]at h;cases h
   | some k=>
    rcases zaY k n with lt | rfl | gt
    ·have p:=L.n4 l ex i d lt;have pos:0 < QP (Jc num (a++y::q)):=by
      rw[QT d];refine zdv λz=>?_;have:=zu (z.trans j.symm);omega
     obtain⟨p,H,r,u,j,C,⟨_,_,J,O⟩,Q,_⟩:=Vk L o pos;have ce:vw d9 (a++y::q)=d9 y+vw d9 (a++q):=ZO;rw[j,ZO]at ce;have D:ends num (a++y::q)=0:=by rw[jY d];exact e
     refine .mk (b:=p++r::u) ((j1 G).mpr ⟨p,H,r,u,j,C,rfl⟩) (v (vw d9 (p++r::u)) (by rw[ZO];omega) (tf _) (zf L o j C) ?_ Q);rw[j,jY J]at D;rw[jY O];exact D
    ·exact absurd d (L.n2 l ex i)
    ·exact B λm h=>by rw[d]at h;cases h;exact gt
def Drawn(G:α->List α)(num:α->Option Nat)(h:List α):Prop:=(∃a x q,h=a++x::q/\num x=none/\ends num (a++q)=0/\∀y∈G x,num y≠some (QP (Jc num (a++q))))\/2<=ends num h
def zP{h:List α}:0 < ends num h↔∃p x q,h=p++x::q/\num x=none:=by
 unfold ends;constructor
 ·intro c;obtain⟨x,a⟩:=List.exists_mem_of_length_pos c;obtain⟨b,d⟩:=tZ.mp a;obtain⟨p,q,e⟩:=zbM b;exact⟨p,x,q,e,by simpa using d⟩
 ·rintro⟨p,x,q,rfl,ex⟩;exact zaW (a:=x) (tZ.mpr ⟨by simp,by rw[ex];rfl⟩)
def lack(L:Zc G ok num d9){x:α}(p:ok x)(ex:num x=none):∃m,(∀j,j < m->∃y∈G x,num y=some j)/\(∀y∈G x,num y≠some m)/\∃y∈G x,num y=none/\∀z∈G y,num z≠some m:=by
 have ⟨b,r⟩:∃b,∀y∈G x,num y≠some b:=by
  refine⟨(Jc num (G x)).sum+1,λy i e=>?_⟩;have:∀(d:List Nat) (n:Nat),n∈d->n<=d.sum:=by
   intro d;induction d with
   | nil=>intro n h;cases h
   | cons a d l=>
    intro n h;rw[zaH];rcases tL.mp h with rfl | h
    ·omega
    ·have:=l n h;omega
  have q:(Jc num (G x)).sum+1∈Jc num (G x):=zaC.mpr ⟨y,i,e⟩;have:=this _ _ q;omega
 have ⟨m,o,u⟩:∃m,(∀y∈G x,num y≠some m)/\∀j,j < m->¬∀y∈G x,num y≠some j:=by
  induction b using zct with
  | _ b l=>
   by_cases c:∃j,j < b/\∀y∈G x,num y≠some j
   ·obtain⟨j,d,h⟩:=c;exact l j d h
   ·exact⟨b,r,λj d h=>c ⟨j,d,h⟩⟩
 have lo:∀j,j < m->∃y∈G x,num y=some j:=λj d=>Classical.byContradiction λn=>u j d λy i e=>n ⟨y,i,e⟩;exact⟨m,lo,o,L.e p ex lo o⟩
def Nj(L:Zc G ok num d9){h:List α}(D:∀x∈h,ok x)(d:Drawn G num h):∃b∈mv G h,Drawn G num b:=by
 rcases d with ⟨a,x,q,rfl,ex,H,no⟩ | two
 ·have i:=D x (by simp);obtain⟨m,lo,U,y,J,O,Y⟩:=lack L i ex;rcases zaY m (QP (Jc num (a++q))) with lt | e | gt
  ·have j:∀z∈a++q,ok z:=λz i=>D z (by
    rcases tN.mp i with i | i
    ·exact tV _ i
    ·exact tU _ (tG _ i))
   obtain⟨Q,T,i,o,v,p,⟨_,_,en,ek⟩,x0,_⟩:=Vk L j lt;have ed:∃B C,a++x::q∈[a++x::q]/\(B++x::C)∈mv G (a++x::q)/\B++C=Q++i::o:=by
    rcases List.append_eq_append_iff.mp v with ⟨l,r,j⟩ | ⟨l,r,j⟩
    ·
     refine⟨a,l++i::o,by simp,(j1 G).mpr ⟨a++x::l,T,i,o,?_,p,?_⟩,?_⟩
     ·rw[j];simp
     ·simp
     ·rw[r];simp
    ·
     cases l with
     | nil=>
      simp at r j;refine⟨a,i::o,by simp,(j1 G).mpr ⟨a++[x],T,i,o,?_,p,?_⟩,?_⟩
      ·rw[<-j];simp
      ·simp
      ·rw[r]
     | cons u l=>
      rw[zcR]at j;obtain⟨rfl,o⟩:=zcz.inj j;refine⟨Q++i::l,q,by simp,(j1 G).mpr ⟨Q,T,i,l++x::q,?_,p,?_⟩,?_⟩
      ·rw[r];simp
      ·simp
      ·rw[o];simp
   obtain⟨B,C,_,l,j⟩:=ed;refine⟨_,l,.inl ⟨B,x,C,rfl,ex,?_,?_⟩⟩
   ·rw[j,jY ek];rw[v,jY en]at H;exact H
   ·rw[j,x0];exact U
  ·exact⟨a++y::q,(j1 G).mpr ⟨a,x,y,q,rfl,J,rfl⟩,.inl ⟨a,y,q,rfl,O,H,by rw[<-e];exact Y⟩⟩
  ·obtain⟨i,p,v⟩:=lo _ gt;exact absurd v (no i p)
 ·obtain⟨a,x,q,rfl,ex⟩:=zP.mp (by omega:0 < ends num h);obtain⟨m,lo,U,y,J,O,Y⟩:=lack L (D x (by simp)) ex;refine⟨a++y::q,(j1 G).mpr ⟨a,x,y,q,rfl,J,rfl⟩,.inr ?_⟩;rw[QV ex]at two;rw[QV O];exact two
def X7(num:α->Option Nat)(h:List α):Prop:=ends num h=0/\QP (Jc num h)=0
def xN(L:Zc G ok num d9){h b:List α}(i:∀x∈h,ok x)(z:X7 num h)(m:b∈mv G h):¬X7 num b:=λw=>by
 obtain⟨_,x,y,q,rfl,j,rfl⟩:=(j1 G).mp m;cases ex:num x with
 | none=>have:=z.1;rw[QV ex]at this;omega
 | some n=>
  cases a:num y with
  | none=>have:=w.1;rw[QV a]at this;omega
  | some k=>
   have d:=z.2;have e:=w.2;rw[QT ex]at d;rw[QT a]at e;have:=zu (d.trans e.symm);subst this;exact L.n2 (i x (by simp)) ex j a
def kQ{h b:List α}(d:Drawn G num h)(m:b∈mv G h):¬X7 num b:=λw=>by
 obtain⟨p,u,y,r,rfl,v,rfl⟩:=(j1 G).mp m;cases l:num u with
 | some n=>
  have pos:0 < ends num (p++u::r):=by
   rcases d with ⟨i,x,q,e,ex,_⟩ | two
   ·exact zP.mpr ⟨i,x,q,e,ex⟩
   ·omega
  rw[jY l]at pos;have o:=w.1;cases j:num y with
  | none=>rw[QV j]at o;omega
  | some k=>rw[jY j]at o;omega
 | none=>
  have o:=w.1;cases j:num y with
  | none=>rw[QV j]at o;omega
  | some k=>
   rw[jY j]at o;rcases d with ⟨i,x,q,e,ex,o,no⟩ | two
   ·have hu:u∈i++x::q:=by rw[<-e];simp
    have o:u=x:=Classical.byContradiction λne=>by
     have:u∈i++q:=by
      rcases tN.mp hu with h | h
      ·exact tV _ h
      ·rcases tL.mp h with h | h
       ·exact absurd h ne
       ·exact tU _ h
     obtain⟨a,b,z⟩:=zbM this;have:=zP.mpr ⟨a,u,b,z,l⟩;omega
    subst o;have z:Jc num (p++r)=Jc num (i++q):=by rw[<-U7 (p:=p) (q:=r) l,e,U7 l]
    have o:=w.2;rw[QT j,z]at o;have:k=QP (Jc num (i++q)):=zu (c:=QP (Jc num (i++q))) (by rw[o,zaV]);exact no y v (by rw[j,this])
   ·rw[QV l]at two;omega
def kind(L:Zc G ok num d9){h:List α}(l:∀x∈h,ok x):X7 num h\/Drawn G num h\/∃b∈mv G h,X7 num b/\∀x∈b,ok x:=by
 rcases zaY (ends num h) 1 with c | c | c
 ·have j:ends num h=0:=by omega
  by_cases m:QP (Jc num h)=0
  ·exact .inl ⟨j,m⟩
  ·obtain⟨a,x,y,q,e,i,⟨n,k,o,p⟩,r,_⟩:=Vk L l (zdv m);refine .inr (.inr ⟨a++y::q,(j1 G).mpr ⟨a,x,y,q,e,i,rfl⟩,⟨?_,r⟩,zf L l e i⟩);rw[e,jY o]at j;rw[jY p];exact j
 ·obtain⟨a,x,q,rfl,ex⟩:=zP.mp (by omega:0 < ends num h);rw[QV ex]at c;have j:ends num (a++q)=0:=by omega
  by_cases d:∃y∈G x,num y=some (QP (Jc num (a++q)))
  ·obtain⟨y,i,m⟩:=d;exact .inr (.inr ⟨a++y::q,(j1 G).mpr ⟨a,x,y,q,rfl,i,rfl⟩,⟨by rw[jY m];exact j,by rw[QT m,zaV]⟩,zf L l rfl i⟩)
  ·exact .inr (.inl (.inl ⟨a,x,q,rfl,ex,j,λy i e=>d ⟨y,i,e⟩⟩))
 ·exact .inr (.inl (.inr (by omega)))
mutual
def y7(L:Zc G ok num d9){h:List α}(i:∀x∈h,ok x):ZP (mv G) h->X7 num h
 | .mk w=>by
  rcases kind L i with z | d | ⟨b,a,z,j⟩
  ·exact z
  ·obtain⟨b,a,l⟩:=Nj L i d;have j:∀x∈b,ok x:=by
    obtain⟨_,x,y,q,e,m,rfl⟩:=(j1 G).mp a;exact zf L i e m
   exact absurd l (won_is L j (w b a)).1
  ·exact absurd z (won_is L j (w b a)).2
def won_is(L:Zc G ok num d9){h:List α}(a:∀x∈h,ok x):Won (mv G) h->¬Drawn G num h/\¬X7 num h
 | .mk (b:=b) m i=>by
  have j:∀x∈b,ok x:=by
   obtain⟨_,x,y,q,e,l,rfl⟩:=(j1 G).mp m;exact zf L a e l
  have z:=y7 L j i;exact⟨λd=>kQ d m z,λi=>xN L a i m z⟩
end
def XH(L:Zc G ok num d9){h:List α}(a:∀x∈h,ok x):ZP (mv G) h↔X7 num h:=⟨y7 L a,λz=>wI L _ (tf _) a z.1 z.2⟩
end
section
variable{α:Type}[DecidableEq α](G:α->List α)(N:List α)
abbrev Rs(α:Type):=List (Nat×List α)
def qE(rs:Rs α)(z:α):Option Nat:=(rs.find? λa=>decide (z∈a.2)).map (·.1)
def ZD(rs:Rs α)(z:α):Nat:=rs.findIdx λa=>decide (z∈a.2)
def zr(f:α->Option Nat)(x:α)(n:Nat):Prop:=(∀a,a < n->∃y∈G x,f y=some a)/\(∀y∈G x,f y≠some n)/\∀y∈G x,f y=none->∃z∈G y,f z=some n
structure Ue(rs:Rs α)(n:Nat)(ns:List α):Prop where
 iff:∀x,x∈ns↔x∈N/\qE rs x=none/\zr G (qE rs) x n
 sub:ns.Sublist N
inductive Jg(n:Nat):Rs α->Rs α->Prop
 | stop {rs:Rs α} (h:Ue G N rs n []):Jg n rs rs
 | more {rs rs':Rs α} {ns:List α} (h:Ue G N rs n ns) (ne:ns≠[]) (k:Jg n (rs++[(n,ns)]) rs'):Jg n rs rs'
inductive All:Nat->Rs α->Rs α->Prop
 | stop {n:Nat} {rs:Rs α} (h:Ue G N rs n []):All n rs rs
 | more {n:Nat} {rs rs' eY:Rs α} (h:Jg G N n rs rs') (ne:rs'≠rs) (k:All (n+1) rs' eY):All n rs eY
variable{G N}
def Jf{rs:Rs α}{n:Nat}{ns:List α}{z:α}:qE (rs++[(n,ns)]) z=match qE rs z with | some m=>some m | none=>if z∈ns then some n else none:=by
 unfold qE;rw[zcN];cases e:rs.find? (λa=>decide (z∈a.2)) with
 | some a=>rfl
 | none=>
  by_cases c:z∈ns
  ·simp [c]
  ·simp [c]
def Xb{rs:Rs α}{z:α}:qE rs z=none↔∀r∈rs,z∉r.2:=by
 unfold qE;rw[Option.map_eq_none_iff,zbN];simp
def Qp{rs:Rs α}{n m:Nat}{ns:List α}{z:α}(h:qE rs z=some m):ZD (rs++[(n,ns)]) z=ZD rs z/\ZD rs z < rs.length:=by
 have ex:∃a∈rs,z∈a.2:=Classical.byContradiction λno=>by
  have:=Xb.mpr λa hr b=>no ⟨a,hr,b⟩;rw[h]at this;cases this
 obtain⟨a,hr,b⟩:=ex;have lt:ZD rs z < rs.length:=List.findIdx_lt_length_of_exists ⟨a,hr,decide_eq_true b⟩;refine⟨?_,lt⟩;unfold ZD at lt ⊢;rw[zdq,if_pos lt]
def MD{rs:Rs α}{n:Nat}{ns:List α}{z:α}(h:qE rs z=none)(hz:z∈ns):ZD (rs++[(n,ns)]) z=rs.length:=by
 have e:ZD rs z=rs.length:=by
  unfold ZD;rw[List.findIdx_eq_length];intro a hr;exact decide_eq_false (Xb.mp h a hr)
 unfold ZD at e ⊢;rw[zdq,if_neg (by rw[e];exact zaF _)];simp [hz,List.findIdx_cons]
variable(G N) in
structure ul(rs:Rs α)(n:Nat):Prop where
 inN:∀{x m},qE rs x=some m->x∈N
 le:∀{x m},qE rs x=some m->m<=n
 n1:∀{x k m},qE rs x=some k->m < k->∃y∈G x,qE rs y=some m/\ZD rs y < ZD rs x
 n2:∀{x y k},qE rs x=some k->y∈G x->qE rs y≠some k
 n3:∀{x y k},qE rs x=some k->y∈G x->(∀m,qE rs y=some m->k < m)->∃z∈G y,qE rs z=some k/\ZD rs z < ZD rs x
 n4:∀{x y k m},qE rs x=some k->y∈G x->qE rs y=some m->m < k->ZD rs y < ZD rs x
def Jo{rs:Rs α}{n m:Nat}{ns:List α}{z:α}(h:qE rs z=some m):qE (rs++[(n,ns)]) z=some m:=by rw[Jf,h]
def Nd{rs:Rs α}{n:Nat}{ns:List α}{z:α}(h:qE rs z=none)(hz:z∈ns):qE (rs++[(n,ns)]) z=some n:=by
 rw[Jf,h];exact if_pos hz
def jj{rs:Rs α}{n m:Nat}{ns:List α}{z:α}(h:qE (rs++[(n,ns)]) z=some m):(qE rs z=some m/\ZD (rs++[(n,ns)]) z=ZD rs z/\ZD rs z < rs.length)\/(qE rs z=none/\z∈ns/\m=n/\ZD (rs++[(n,ns)]) z=rs.length):=by
 cases e:qE rs z with
 | some k=>
  rw[Jo e]at h;cases h;exact .inl ⟨rfl,Qp e⟩
 | none=>
  rw[Jf,e]at h;by_cases c:z∈ns
  ·have h:(if z∈ns then some n else none)=some m:=h;rw[if_pos c]at h;cases h;exact .inr ⟨rfl,c,rfl,MD e c⟩
  ·have h:(if z∈ns then some n else none)=some m:=h;rw[if_neg c]at h;cases h
def kL{rs:Rs α}{n:Nat}{ns:List α}{z:α}(h:qE (rs++[(n,ns)]) z=none):qE rs z=none:=by
 cases e:qE rs z with
 | none=>rfl
 | some k=>rw[Jo e]at h;cases h
def ul.more{rs:Rs α}{n:Nat}{ns:List α}(v:ul G N rs n)(r:Ue G N rs n ns):ul G N (rs++[(n,ns)]) n:=by
 refine⟨λ{x m} h=>?_,λ{x m} h=>?_,λ{x k m} h lt=>?_,λ{x y k} h a e=>?_,λ{x y k} h a gt=>?_,λ{x y k m} h a b lt=>?_⟩
 ·rcases jj h with ⟨h,_⟩ | ⟨_,h,_⟩
  ·exact v.inN h
  ·exact((r.iff x).mp h).1
 ·rcases jj h with ⟨h,_⟩ | ⟨_,_,rfl,_⟩
  ·exact v.le h
  ·exact tf _
 ·rcases jj h with ⟨h,d,_⟩ | ⟨h,l,rfl,d⟩
  ·obtain⟨y,a,b,i⟩:=v.n1 h lt;exact⟨y,a,Jo b,by rw[d,(Qp b).1];exact i⟩
  ·obtain⟨y,a,b⟩:=((r.iff x).mp l).2.2.1 m lt;exact⟨y,a,Jo b,by rw[d,(Qp (n:=k) (ns:=ns) b).1];exact(Qp (n:=k) (ns:=ns) b).2⟩
 ·rcases jj h with ⟨h,_⟩ | ⟨h,l,rfl,_⟩
  ·rcases jj e with ⟨e,_⟩ | ⟨p,o,u,_⟩
   ·exact v.n2 h a e
   ·obtain⟨z,j,i,_⟩:=v.n3 h a (λm q=>by rw[p]at q;cases q);rw[u]at i;exact((r.iff y).mp o).2.2.2.1 z j i
  ·have g:=((r.iff x).mp l).2.2;rcases jj e with ⟨e,_⟩ | ⟨e,o,_,_⟩
   ·exact g.2.1 y a e
   ·obtain⟨z,j,i⟩:=g.2.2 y a e;exact((r.iff y).mp o).2.2.2.1 z j i
 ·rcases jj h with ⟨h,d,_⟩ | ⟨h,l,rfl,d⟩
  ·obtain⟨z,j,i,o⟩:=v.n3 h a (λm q=>gt m (Jo q));exact⟨z,j,Jo i,by rw[d,(Qp i).1];exact o⟩
  ·have bare:qE rs y=none:=by
    cases e:qE rs y with
    | none=>rfl
    | some m=>
     have:=gt m (Jo e);have:=v.le e;omega
   obtain⟨z,j,i⟩:=((r.iff x).mp l).2.2.2.2 y a bare;exact⟨z,j,Jo i,by rw[d,(Qp (n:=k) (ns:=ns) i).1];exact(Qp (n:=k) (ns:=ns) i).2⟩
 ·rcases jj h with ⟨h,d,_⟩ | ⟨h,l,rfl,d⟩
  ·rcases jj b with ⟨b,i,_⟩ | ⟨_,_,em,_⟩
   ·rw[d,i];exact v.n4 h a b lt
   ·have:=v.le h;omega
  ·rcases jj b with ⟨b,i,a⟩ | ⟨_,_,rfl,_⟩
   ·rw[d,i];exact a
   ·omega
variable(G N) in
def EP(rs:Rs α)(m:Nat):Prop:=∀x∈N,qE rs x=none->(∀a,a < m->∃y∈G x,qE rs y=some a)->(∀y∈G x,qE rs y≠some m)->∃y∈G x,qE rs y=none/\∀z∈G y,qE rs z≠some m
def kO{rs:Rs α}{n:Nat}(r:Ue G N rs n []):EP G N rs n:=λx a e lo b=>Classical.byContradiction λno=>by
 refine absurd ((r.iff x).mpr ⟨a,e,lo,b,λy a b=>Classical.byContradiction λq=>no ⟨y,a,b,λz a b=>q ⟨z,a,b⟩⟩⟩) (by simp)
def AD{rs:Rs α}{n m:Nat}{ns:List α}(v:ul G N rs n)(r:Ue G N rs n ns)(lt:m < n)(h:EP G N rs m):EP G N (rs++[(n,ns)]) m:=λx o e lo p=>by
 have eG:∀{z b},b<=m->qE (rs++[(n,ns)]) z=some b->qE rs z=some b:=λ{z b} j a=>by
  rcases jj a with ⟨a,_⟩ | ⟨_,_,rfl,_⟩
  ·exact a
  ·omega
 obtain⟨y,d,i,l⟩:=h x o (kL e) (λb j=>let ⟨y,d,i⟩:=lo b j;⟨y,d,eG (by omega) i⟩) (λy d i=>p y d (Jo i));refine⟨y,d,?_,λz b a=>l z b (eG (tf _) a)⟩;cases q:qE (rs++[(n,ns)]) y with
 | none=>rfl
 | some k=>
  rcases jj q with ⟨q,_⟩ | ⟨_,d,rfl,_⟩
  ·rw[i]at q;cases q
  ·obtain⟨z,b,a⟩:=((r.iff y).mp d).2.2.1 m lt;exact absurd a (l z b)
def Ax{n:Nat}{rs a:Rs α}(g:Jg G N n rs a):ul G N rs n->(∀m,m < n->EP G N rs m)->ul G N a n/\∀m,m<=n->EP G N a m:=by
 induction g with
 | stop a=>exact λv h=>⟨v,λm b=>by
  rcases zbY m n with c | c
  ·exact h m c
  ·have:m=n:=by omega
   subst this;exact kO a⟩
 | more a ne k d=>exact λv h=>d (v.more a) λm b=>AD v a b (h m b)
def DO(cl:∀x∈N,∀y∈G x,y∈N){n:Nat}{rs b:Rs α}(a:All G N n rs b):ul G N rs n->(∀x m,qE rs x=some m->m < n)->(∀m,m < n->EP G N rs m)->Zc G (·∈N) (qE b) (ZD b):=by
 induction a with
 | @stop n rs i=>
  intro v lt h;refine⟨λ{x y} b d=>cl x b y d,λ{x n m} _=>v.n1,λ{x y n} _=>v.n2,λ{x y n} _=>v.n3,λ{x y n m} _=>v.n4,λ{x m} b e lo d=>?_⟩;rcases zaY m n with c | rfl | c
  ·exact h m c x b e lo d
  ·exact kO i x b e lo d
  ·obtain⟨y,_,b⟩:=lo n c;have:=lt y n b;omega
 | @more n rs b i g ne k d=>
  intro v lt h;obtain⟨b,i⟩:=Ax g v h;exact d ⟨b.inN,λ{x m} e=>Nat.le_succ_of_le (b.le e),b.n1,b.n2,b.n3,b.n4⟩ (λx m e=>Nat.lt_succ_of_le (b.le e)) λm _=>i m (by omega)
def yb(n:Nat):ul G N ([]:Rs α) n:=⟨λh=>(nomatch h),λh=>(nomatch h),λh=>(nomatch h),λh=>(nomatch h),λh=>(nomatch h),λh=>(nomatch h)⟩
def VT(cl:∀x∈N,∀y∈G x,y∈N){rs:Rs α}(a:All G N 0 [] rs):Zc G (·∈N) (qE rs) (ZD rs):=DO cl a (yb 0) (λx m h=>(nomatch h)) λm h=>absurd h (zcf m)
end
end MLab
namespace Rb
def Qo{b n k:Nat}(e:n < 16):(turnN b n 16).testBit k=(decide (k < 16)&&b.testBit (k^^^n)):=by
 unfold turnN;rw[testBit_setN,zaq,decide_eq_true_iff,zan,decide_eq_true_iff,tc];constructor
 ·rintro⟨y,h,rfl⟩;obtain⟨a,d⟩:=mem_memN.mp h;exact⟨xor_lt (m:=4) a e,by rw[k9];exact d⟩
 ·rintro⟨a,d⟩;exact⟨k^^^n,mem_memN.mpr ⟨xor_lt (m:=4) a e,d⟩,k9 k n⟩
def xX{b x y:Nat}(d:x < 16)(a:y < 16):turnN (turnN b x 16) y 16=turnN b (x^^^y) 16:=by
 refine zbd λk=>?_;have e:x^^^y < 16:=xor_lt (m:=4) d a;rw[Qo a,Qo d,Qo e,zaG,zcy y x];by_cases d:k < 16
 ·rw[decide_eq_true d,decide_eq_true (xor_lt (m:=4) d a)];simp
 ·rw[decide_eq_false d];simp
def uC(n:Nat):turnN 0 n 16=0:=by
 unfold turnN;have e:memN 0 16=[]:=by decide
 rw[e];rfl
inductive W where
 | num (n:Nat)
 | edl (b:Nat)
deriving DecidableEq
def Zu:W->W->W
 | .num a,.num b=>.num (a^^^b)
 | .num a,.edl b=>.edl (turnN b a 16)
 | .edl b,.num a=>.edl (turnN b a 16)
 | .edl _,.edl _=>.edl 0
def okW:W->Prop
 | .num n=>n < 16
 | .edl b=>b < 65536
def JP(a:List W):List Nat:=a.filterMap λ| .num n=>some n | .edl _=>none
def Jm(a:List W):List Nat:=a.filterMap λ| .num _=>none | .edl b=>some b
def JY(a:List W):W:=match Jm a with
 | []=>.num (jM (JP a))
 | [b]=>.edl (turnN b (jM (JP a)) 16)
 | _=>.edl 0
def ua(ns:List Nat):∀a,ns.foldl (·^^^ ·) a=a^^^jM ns:=by
 induction ns with
 | nil=>intro a;simp [jM]
 | cons n ns b=>
  intro a;unfold jM;rw[zcu,zcu,b (a^^^n),b (0^^^n),zcx,zaG]
def Q9(n:Nat)(ns:List Nat):jM (n::ns)=n^^^jM ns:=by
 show ns.foldl (·^^^ ·) (0^^^n)=_;rw[ua,zcx]
def z4{ns:List Nat}(h:∀x∈ns,x < 16):jM ns < 16:=by
 induction ns with
 | nil=>decide
 | cons n ns a=>
  rw[Q9];exact xor_lt (m:=4) (h n (tO ..)) (a λx a=>h x (tG _ a))
def VO{a:List W}(h:∀w∈a,okW w):∀x∈JP a,x < 16:=by
 intro x a;obtain⟨w,d,e⟩:=zaC.mp a;cases w with
 | num n=>cases e;exact h _ d
 | edl b=>cases e
def WS(a:List W)(w:W):JP (a++[w])=JP a++(match w with | .num n=>[n] | .edl _=>[]):=by
 unfold JP;rw[zax];cases w<;>rfl
def WG(a:List W)(w:W):Jm (a++[w])=Jm a++(match w with | .num _=>[] | .edl b=>[b]):=by
 unfold Jm;rw[zax];cases w<;>rfl
def uE{a:List W}{w:W}(h:∀w∈a,okW w)(i:okW w):JY (a++[w])=Zu (JY a) w:=by
 have j:=z4 (VO h);unfold JY;rw[WG,WS];cases w with
 | num n=>
  simp only[zak];have e:jM (JP a++[n])=jM (JP a)^^^n:=Yw _ _;cases l:Jm a with
  | nil=>simp only[e];rfl
  | cons b d=>
   cases d with
   | nil=>
    simp only[e];show W.edl _=W.edl _;rw[xX j i]
   | cons c d=>
    show W.edl 0=W.edl _;rw[uC]
 | edl b=>
  simp only[zak];cases l:Jm a with
  | nil=>rfl
  | cons c d=>
   cases d with
   | nil=>rfl
   | cons a d=>rfl
def uF{a:List W}(h:∀w∈a,okW w):okW (JY a):=by
 have a:=z4 (VO h);unfold JY;split
 ·exact a
 ·exact Vi (k:=4) (tf _) a
 ·show 0 < 65536;decide
def R8{a:List W}(h:∀w∈a,okW w):∀i,i<=a.length->(a.take i).foldl Zu (.num 0)=JY (a.take i):=by
 intro i;induction i with
 | zero=>intro _;rfl
 | succ i d=>
  intro j;have b:i < a.length:=j;have e:a.take (i+1)=a.take i++[a[i]]:=by rw[tz,tr b];rfl
  rw[e,zbT,d (zac b),uE (λw a=>h w (zbW a)) (h _ (zbH b))];rfl
def vp{a:List W}(h:∀w∈a,okW w):a.foldl Zu (.num 0)=JY a:=by
 have:=R8 h a.length (tf _);rw[tu (tf _)]at this;exact this
def NU(a b:W):JY [a,b]=Zu a b:=by
 cases a<;>cases b
 ·show W.num (jM [_,_])=_;rw[Q9,Q9];show W.num (_^^^ (_^^^0))=_;rw[zbj];rfl
 ·show W.edl (turnN _ (jM [_]) 16)=_;rw[Q9];show W.edl (turnN _ (_^^^0) 16)=_;rw[zbj];rfl
 ·show W.edl (turnN _ (jM [_]) 16)=_;rw[Q9];show W.edl (turnN _ (_^^^0) 16)=_;rw[zbj];rfl
 ·rfl
end Rb
namespace MLab
section
variable{α:Type}(G:α->List α)
def km(b:α×Nat):List (α×Nat):=(G b.1).map (λy=>(y,b.2))++(tQ b.2).map λk=>(b.1,k)
def gS:α ⊕ Nat->List (α ⊕ Nat)
 | .inl z=>(G z).map .inl
 | .inr h=>(tQ h).map .inr
def Z2(num:α->Option Nat):α ⊕ Nat->Option Nat
 | .inl z=>num z
 | .inr h=>some h
def Hu(d9:α->Nat):α ⊕ Nat->Nat
 | .inl z=>d9 z
 | .inr h=>h
def Ii(ok:α->Prop):α ⊕ Nat->Prop
 | .inl z=>ok z
 | .inr _=>True
variable{G}{ok:α->Prop}{num:α->Option Nat}{d9:α->Nat}
def Dk(L:Zc G ok num d9):Zc (gS G) (Ii ok) (Z2 num) (Hu d9) where
 cl:=λ{x y} b a=>by
  cases x with
  | inl z=>
   obtain⟨j,d,rfl⟩:=tc.mp a;exact L.cl b d
  | inr h=>
   obtain⟨k,_,rfl⟩:=tc.mp a;trivial
 n1:=λ{x n m} b e lt=>by
  cases x with
  | inl z=>
   obtain⟨y,a,i,o⟩:=L.n1 b e lt;exact⟨.inl y,tc.mpr ⟨y,a,rfl⟩,i,o⟩
  | inr h=>
   obtain rfl:h=n:=tA.inj e;exact⟨.inr m,tc.mpr ⟨m,zai.mpr lt,rfl⟩,rfl,lt⟩
 n2:=λ{x y n} b e a=>by
  cases x with
  | inl z=>
   obtain⟨j,d,rfl⟩:=tc.mp a;exact L.n2 b e d
  | inr h=>
   obtain⟨k,l,rfl⟩:=tc.mp a;obtain rfl:h=n:=tA.inj e;intro q;have:k=h:=tA.inj q;have:=zai.mp l;omega
 n3:=λ{x y n} b e a gt=>by
  cases x with
  | inl z=>
   obtain⟨j,d,rfl⟩:=tc.mp a;obtain⟨u,hu,p,r⟩:=L.n3 b e d gt;exact⟨.inl u,tc.mpr ⟨u,hu,rfl⟩,p,r⟩
  | inr h=>
   obtain⟨k,l,rfl⟩:=tc.mp a;obtain rfl:h=n:=tA.inj e;have:=gt k rfl;have:=zai.mp l;omega
 n4:=λ{x y n m} b e a i lt=>by
  cases x with
  | inl z=>
   obtain⟨j,d,rfl⟩:=tc.mp a;exact L.n4 b e d i lt
  | inr h=>
   obtain⟨k,l,rfl⟩:=tc.mp a;exact zai.mp l
 e:=λ{x m} b e lo l=>by
  cases x with
  | inl z=>
   obtain⟨y,a,i,o⟩:=L.e b e (λp r=>by
    obtain⟨y,a,i⟩:=lo p r;obtain⟨j,d,rfl⟩:=tc.mp a;exact⟨j,d,i⟩) (λy a=>l (.inl y) (tc.mpr ⟨y,a,rfl⟩))
   refine⟨.inl y,tc.mpr ⟨y,a,rfl⟩,i,λu hu=>?_⟩;obtain⟨a,b,rfl⟩:=tc.mp hu;exact o a b
  | inr h=>cases e
def two(b:α×Nat):List (α ⊕ Nat):=[.inl b.1,.inr b.2]
def Vh{b:α×Nat}{c:List (α ⊕ Nat)}:c∈mv (gS G) (two b)↔∃i∈km G b,c=two i:=by
 unfold two km;rw[j1];constructor
 ·rintro⟨a,x,y,q,e,d,rfl⟩;cases a with
  | nil=>
   cases e;obtain⟨h,j,rfl⟩:=tc.mp d;exact⟨(h,b.2),tV _ (tc.mpr ⟨h,j,rfl⟩),rfl⟩
  | cons u a=>
   cases a with
   | nil=>
    cases e;obtain⟨k,h,rfl⟩:=tc.mp d;exact⟨(b.1,k),tU _ (tc.mpr ⟨k,h,rfl⟩),rfl⟩
   | cons v a=>cases a<;>cases e
 ·rintro⟨i,a,rfl⟩;rcases tN.mp a with a | a
  ·obtain⟨y,d,rfl⟩:=tc.mp a;exact⟨[],.inl b.1,.inl y,[.inr b.2],rfl,tc.mpr ⟨y,d,rfl⟩,rfl⟩
  ·obtain⟨k,h,rfl⟩:=tc.mp a;exact⟨[.inl b.1],.inr b.2,.inr k,[],rfl,tc.mpr ⟨k,h,rfl⟩,rfl⟩
mutual
def ve{b:α×Nat}:ZP (km G) b->ZP (mv (gS G)) (two b)
 | .mk w=>.mk λc a=>by
  obtain⟨d,e,rfl⟩:=Vh.mp a;exact won_two (w d e)
def won_two{b:α×Nat}:Won (km G) b->Won (mv (gS G)) (two b)
 | .mk (b:=a) m d=>.mk (Vh.mpr ⟨a,m,rfl⟩) (ve d)
end
mutual
def Um{c:List (α ⊕ Nat)}:ZP (mv (gS G)) c->∀b:α×Nat,c=two b->ZP (km G) b
 | .mk w=>λb e=>.mk λa d=>two_won (w (two a) (by rw[e];exact Vh.mpr ⟨a,d,rfl⟩)) a rfl
def two_won{c:List (α ⊕ Nat)}:Won (mv (gS G)) c->∀b:α×Nat,c=two b->Won (km G) b
 | .mk m a=>λb e=>by
  rw[e]at m;obtain⟨d,h,i⟩:=Vh.mp m;exact .mk h (Um a d i)
end
def ZH(L:Zc G ok num d9){z:α}{h:Nat}(hz:ok z):ZP (km G) (z,h)↔num z=some h:=by
 have b:∀x∈two (z,h),Ii ok x:=λx a=>by
  unfold two at a;rcases tL.mp a with rfl | a
  ·exact hz
  ·rw[tK.mp a];trivial
 have a:ZP (km G) (z,h)↔ZP (mv (gS G)) (two (z,h)):=⟨ve,λd=>Um d _ rfl⟩;rw[a,XH (Dk L) b];unfold X7 two ends Jc;cases e:num z with
 | none=>simp [Z2,e]
 | some n=>
  simp only[zbe,zad,Z2,e];show (0=0/\n^^^ (h^^^0)=0)↔_;rw[zbj];constructor
  ·rintro⟨_,x⟩;have:n=h:=zu (c:=h) (by rw[x,zaV]);rw[this]
  ·intro q;cases q;exact⟨rfl,zaV _⟩
end
section
variable{β:Type}{M:β->List β}
end
section
variable{α:Type}[DecidableEq α]{G:α->List α}{N:List α}
variable(G N) in
def SR(rs:Rs α)(n:Nat)(ns:List α):Prop:=∀x∈ns,x∈N/\qE rs x=none/\zr G (qE rs) x n
def ul.one{rs:Rs α}{n:Nat}{ns:List α}(v:ul G N rs n)(r:SR G N rs n ns):ul G N (rs++[(n,ns)]) n:=by
 refine⟨λ{x m} h=>?_,λ{x m} h=>?_,λ{x k m} h lt=>?_,λ{x y k} h a e=>?_,λ{x y k} h a gt=>?_,λ{x y k m} h a b lt=>?_⟩
 ·rcases jj h with ⟨h,_⟩ | ⟨_,h,_⟩
  ·exact v.inN h
  ·exact(r x h).1
 ·rcases jj h with ⟨h,_⟩ | ⟨_,_,rfl,_⟩
  ·exact v.le h
  ·exact tf _
 ·rcases jj h with ⟨h,d,_⟩ | ⟨h,l,rfl,d⟩
  ·obtain⟨y,a,b,i⟩:=v.n1 h lt;exact⟨y,a,Jo b,by rw[d,(Qp b).1];exact i⟩
  ·obtain⟨y,a,b⟩:=(r x l).2.2.1 m lt;exact⟨y,a,Jo b,by rw[d,(Qp (n:=k) (ns:=ns) b).1];exact(Qp (n:=k) (ns:=ns) b).2⟩
 ·rcases jj h with ⟨h,_⟩ | ⟨h,l,rfl,_⟩
  ·rcases jj e with ⟨e,_⟩ | ⟨p,o,u,_⟩
   ·exact v.n2 h a e
   ·obtain⟨z,j,i,_⟩:=v.n3 h a (λm q=>by rw[p]at q;cases q);rw[u]at i;exact(r y o).2.2.2.1 z j i
  ·have g:=(r x l).2.2;rcases jj e with ⟨e,_⟩ | ⟨e,o,_,_⟩
   ·exact g.2.1 y a e
   ·obtain⟨z,j,i⟩:=g.2.2 y a e;exact(r y o).2.2.2.1 z j i
 ·rcases jj h with ⟨h,d,_⟩ | ⟨h,l,rfl,d⟩
  ·obtain⟨z,j,i,o⟩:=v.n3 h a (λm q=>gt m (Jo q));exact⟨z,j,Jo i,by rw[d,(Qp i).1];exact o⟩
  ·have bare:qE rs y=none:=by
    cases e:qE rs y with
    | none=>rfl
    | some m=>
     have:=gt m (Jo e);have:=v.le e;omega
   obtain⟨z,j,i⟩:=(r x l).2.2.2.2 y a bare;exact⟨z,j,Jo i,by rw[d,(Qp (n:=k) (ns:=ns) i).1];exact(Qp (n:=k) (ns:=ns) i).2⟩
 ·rcases jj h with ⟨h,d,_⟩ | ⟨h,l,rfl,d⟩
  ·rcases jj b with ⟨b,i,_⟩ | ⟨_,_,em,_⟩
   ·rw[d,i];exact v.n4 h a b lt
   ·have:=v.le h;omega
  ·rcases jj b with ⟨b,i,a⟩ | ⟨_,_,rfl,_⟩
   ·rw[d,i];exact a
   ·omega
def DH{rs:Rs α}{n m:Nat}{ns:List α}(v:ul G N rs n)(r:SR G N rs n ns)(lt:m < n)(h:EP G N rs m):EP G N (rs++[(n,ns)]) m:=λx o e lo p=>by
 have eG:∀{z b},b<=m->qE (rs++[(n,ns)]) z=some b->qE rs z=some b:=λ{z b} j a=>by
  rcases jj a with ⟨a,_⟩ | ⟨_,_,rfl,_⟩
  ·exact a
  ·omega
 obtain⟨y,d,i,l⟩:=h x o (kL e) (λb j=>let ⟨y,d,i⟩:=lo b j;⟨y,d,eG (by omega) i⟩) (λy d i=>p y d (Jo i));refine⟨y,d,?_,λz b a=>l z b (eG (tf _) a)⟩;cases q:qE (rs++[(n,ns)]) y with
 | none=>rfl
 | some k=>
  rcases jj q with ⟨q,_⟩ | ⟨_,d,rfl,_⟩
  ·rw[i]at q;cases q
  ·obtain⟨z,b,a⟩:=(r y d).2.2.1 m lt;exact absurd a (l z b)
variable(G N) in
structure Pt(rs:Rs α)(n:Nat):Prop where
 val:ul G N rs n
 ep:∀m,m < n->EP G N rs m
def Pt.nil:Pt G N ([]:Rs α) 0:=⟨yb 0,λm h=>absurd h (zcf m)⟩
def Pt.one{rs:Rs α}{n:Nat}{ns:List α}(p:Pt G N rs n)(r:SR G N rs n ns):Pt G N (rs++[(n,ns)]) n:=⟨p.val.one r,λm h=>DH p.val r h (p.ep m h)⟩
def Pt.next{rs:Rs α}{n:Nat}(p:Pt G N rs n)(no:∀x∈N,qE rs x=none->¬zr G (qE rs) x n):Pt G N rs (n+1):=by
 refine⟨⟨p.val.inN,λe=>Nat.le_succ_of_le (p.val.le e),p.val.n1,p.val.n2,p.val.n3,p.val.n4⟩,λm h=>?_⟩;rcases zbY m n with c | c
 ·exact p.ep m c
 ·have:m=n:=by omega
  subst this;exact kO ⟨λx=>⟨λh=>(nomatch h),λ⟨a,b,c⟩=>absurd c (no x a b)⟩,List.nil_sublist _⟩
def Pt.lab(cl:∀x∈N,∀y∈G x,y∈N){rs:Rs α}{n:Nat}(p:Pt G N rs n)(big:∀x∈N,qE rs x=none->¬∀j,j < n->∃y∈G x,qE rs y=some j):Zc G (·∈N) (qE rs) (ZD rs):=by
 refine⟨λ{x y} a b=>cl x a y b,λ{x n m} _=>p.val.n1,λ{x y n} _=>p.val.n2,λ{x y n} _=>p.val.n3,λ{x y n m} _=>p.val.n4,λ{x m} a e lo b=>?_⟩;rcases zbY m n with c | c
 ·exact p.ep m c x a e lo b
 ·exact absurd (λj _=>lo j (by omega)) (big x a e)
def Rt{ok:α->Prop}{num a:α->Option Nat}{d9 d:α->Nat}(L:Zc G ok num d9)(i:Zc G ok a d){x:α}(b:ok x):num x=a x:=by
 have h:∀h,num x=some h↔a x=some h:=λh=>(ZH L b).symm.trans (ZH i b);cases e:num x with
 | some n=>exact((h n).mp e).symm
 | none=>
  cases b:a x with
  | none=>rfl
  | some n=>rw[(h n).mpr b]at e;cases e
end
section
variable{α:Type}{G:α->List α}
variable[DecidableEq α]
end
section
variable{α γ:Type}{G G2:α->List α}{ok:α->Prop}{num eZ:α->Option Nat}{d9 fA:α->Nat}
def Zc.same(L:Zc G ok num d9)(h:∀x,ok x->G2 x=G x):Zc G2 ok num d9 where
 cl:=λ{x y} a b=>L.cl a (h x a▸b)
 n1:=λ{x n m} a e lt=>by rw[h x a];exact L.n1 a e lt
 n2:=λ{x y n} a e b=>L.n2 a e (h x a▸b)
 n3:=λ{x y n} a e b gt=>by
  rw[h x a]at b;rw[h y (L.cl a b)];exact L.n3 a e b gt
 n4:=λ{x y n m} a e b=>L.n4 a e (h x a▸b)
 e:=λ{x m} a e lo d=>by
  rw[h x a]at*;obtain⟨y,b,i,no⟩:=L.e a e lo d;exact⟨y,b,i,by rw[h y (L.cl a b)];exact no⟩
def Zc.sub{a:α->Prop}(L:Zc G ok num d9)(h:∀x,a x->ok x)(cl:∀{x y},a x->y∈G x->a y):Zc G a num d9:=
 ⟨cl,λa=>L.n1 (h _ a),λa=>L.n2 (h _ a),λa=>L.n3 (h _ a),λa=>L.n4 (h _ a),λa=>L.e (h _ a)⟩
def Zc.pull{P:γ->List γ}{eA:γ->Prop}(L:Zc G ok num d9)(e:γ->α)(h:∀x,eA x->ok (e x))(cl:∀{x y},eA x->y∈P x->eA y)(m:∀{x y},eA x->(y∈G (e x)↔∃j∈P x,y=e j)):Zc P eA (λx=>num (e x)) (λx=>d9 (e x)) where
 cl:=cl
 n1:=λ{x n k} d q lt=>by
  obtain⟨y,i,a,b⟩:=L.n1 (h x d) q lt;obtain⟨j,l,rfl⟩:=(m d).mp i;exact⟨j,l,a,b⟩
 n2:=λ{x y n} d q i=>L.n2 (h x d) q ((m d).mpr ⟨y,i,rfl⟩)
 n3:=λ{x y n} d q i gt=>by
  obtain⟨z,o,a,b⟩:=L.n3 (h x d) q ((m d).mpr ⟨y,i,rfl⟩) gt;obtain⟨p,r,rfl⟩:=(m (cl d i)).mp o;exact⟨p,r,a,b⟩
 n4:=λ{x y n k} d q i=>L.n4 (h x d) q ((m d).mpr ⟨y,i,rfl⟩)
 e:=λ{x k} d q lo p=>by
  obtain⟨y,i,a,b⟩:=L.e (h x d) q (λr u=>let ⟨y,i,a⟩:=lo r u;⟨e y,(m d).mpr ⟨y,i,rfl⟩,a⟩) (λy i=>by
   obtain⟨j,l,rfl⟩:=(m d).mp i;exact p j l)
  obtain⟨j,l,rfl⟩:=(m d).mp i;exact⟨j,l,a,λz o=>b _ ((m (cl d l)).mpr ⟨z,o,rfl⟩)⟩
structure B7(G:α->List α)(P:γ->List γ)(eA:γ->Prop)(f g:γ->α):Prop where
 cl:∀{z w},eA z->w∈P z->eA w
 to:∀{z w},eA z->w∈P z->(f w∈G (f z)/\g w=g z)\/(f w=f z/\g w∈G (g z))
 b1:∀{z u},eA z->u∈G (f z)->∃w∈P z,f w=u/\g w=g z
 b2:∀{z u},eA z->u∈G (g z)->∃w∈P z,f w=f z/\g w=u
variable{P:γ->List γ}{eA:γ->Prop}{f g:γ->α}
def Vj(f g:γ->α)(b:γ×Nat):List (α ⊕ Nat):=[.inl (f b.1),.inl (g b.1),.inr b.2]
def z5(p:B7 G P eA f g){b:γ×Nat}(d:eA b.1){i:γ×Nat}(h:i∈km P b):eA i.1/\Vj f g i∈mv (gS G) (Vj f g b):=by
 rcases tN.mp h with h | h
 ·obtain⟨w,i,rfl⟩:=tc.mp h;refine⟨p.cl d i,(j1 _).mpr ?_⟩;rcases p.to d i with ⟨a,e⟩ | ⟨e,a⟩
  ·exact⟨[],_,.inl (f w),[.inl (g b.1),.inr b.2],rfl,tc.mpr ⟨_,a,rfl⟩,by show [Sum.inl (f w),.inl (g w),.inr b.2]=_;rw[e];rfl⟩
  ·exact⟨[.inl (f b.1)],_,.inl (g w),[.inr b.2],rfl,tc.mpr ⟨_,a,rfl⟩,by show [Sum.inl (f w),.inl (g w),.inr b.2]=_;rw[e];rfl⟩
 ·obtain⟨k,i,rfl⟩:=tc.mp h;exact⟨d,(j1 _).mpr ⟨[.inl (f b.1),.inl (g b.1)],_,.inr k,[],rfl,tc.mpr ⟨k,i,rfl⟩,rfl⟩⟩
def uD(p:B7 G P eA f g){b:γ×Nat}(i:eA b.1){c:List (α ⊕ Nat)}(h:c∈mv (gS G) (Vj f g b)):∃a∈km P b,c=Vj f g a:=by
 unfold Vj at h;simp only[mv,zam,zbX,zak,tj,tN,tc,Function.comp]at h;rcases h with ⟨y,a,rfl⟩ | ⟨y,a,rfl⟩ | ⟨y,a,rfl⟩
 ·obtain⟨u,hu,rfl⟩:=tc.mp a;obtain⟨w,d,rfl,e⟩:=p.b1 i hu;exact⟨(w,b.2),tV _ (tc.mpr ⟨w,d,rfl⟩),by unfold Vj;rw[e]⟩
 ·obtain⟨u,hu,rfl⟩:=tc.mp a;obtain⟨w,d,e,rfl⟩:=p.b2 i hu;exact⟨(w,b.2),tV _ (tc.mpr ⟨w,d,rfl⟩),by unfold Vj;rw[e]⟩
 ·obtain⟨k,d,rfl⟩:=tc.mp a;exact⟨(b.1,k),tU _ (tc.mpr ⟨k,d,rfl⟩),rfl⟩
mutual
def vf(p:B7 G P eA f g){b:γ×Nat}(a:eA b.1):ZP (km P) b->ZP (mv (gS G)) (Vj f g b)
 | .mk h=>.mk λc e=>by
  obtain⟨i,d,rfl⟩:=uD p a e;exact won_tri p (z5 p a d).1 (h i d)
def won_tri(p:B7 G P eA f g){b:γ×Nat}(a:eA b.1):Won (km P) b->Won (mv (gS G)) (Vj f g b)
 | .mk m h=>.mk (z5 p a m).2 (vf p (z5 p a m).1 h)
end
mutual
def Up(p:B7 G P eA f g){c:List (α ⊕ Nat)}:ZP (mv (gS G)) c->∀b:γ×Nat,eA b.1->c=Vj f g b->ZP (km P) b
 | .mk h=>λb a e=>.mk λi d=>tri_won p (h _ (e▸(z5 p a d).2)) i (z5 p a d).1 rfl
def tri_won(p:B7 G P eA f g){c:List (α ⊕ Nat)}:Won (mv (gS G)) c->∀b:γ×Nat,eA b.1->c=Vj f g b->Won (km P) b
 | .mk m h=>λb a e=>by
  subst e;obtain⟨i,d,j⟩:=uD p a m;exact .mk d (Up p h i (z5 p a d).1 j)
end
def Gj(L:Zc G ok num d9){i:γ->Option Nat}{l:γ->Nat}(o:Zc P eA i l)(p:B7 G P eA f g)(hok:∀z,eA z->ok (f z)/\ok (g z)){z:γ}(hz:eA z){h:Nat}:i z=some h↔∃n m,num (f z)=some n/\num (g z)=some m/\n^^^m=h:=by
 rw[<-ZH o hz];have j:∀x∈Vj f g (z,h),Ii ok x:=by
  intro x i;simp only[Vj,tL,zbb,or_false]at i;rcases i with rfl | rfl | rfl
  ·exact(hok z hz).1
  ·exact(hok z hz).2
  ·trivial
 rw[show ZP (km P) (z,h)↔X7 (Z2 num) (Vj f g (z,h)) from⟨λq=>(XH (Dk L) j).mp (vf p hz q),λq=>Up p ((XH (Dk L) j).mpr q) _ hz rfl⟩];unfold X7;constructor
 ·rintro⟨a,b⟩;cases d:num (f z) with
  | none=>simp [Vj,ends,Z2,d]at a
  | some n=>
   cases e:num (g z) with
   | none=>simp [Vj,ends,Z2,d,e]at a
   | some m=>
    refine⟨n,m,rfl,rfl,?_⟩;simp [Vj,Jc,QP,Z2,d,e]at b;rw[<-zaG]at b;have:=congrArg (·^^^h) b;simpa [zaG,zaV] using this
 ·rintro⟨n,m,d,e,rfl⟩;refine⟨by simp [Vj,ends,Z2,d,e],?_⟩;simp only[Vj,Jc,QP,zad,List.filterMap_nil,Z2,d,e,List.foldr_cons,List.foldr_nil,zbj];rw[<-zaG,zaV]
end
section
variable{α:Type}[DecidableEq α]{G:α->List α}{N:List α}
def YT:∀{l m:List α},l.Sublist m->m.Nodup->l=m.filter λx=>decide (x∈l)
 | _,_,.slnil,_=>rfl
 | l,a::m,.cons _ h,b=>by
  rw[zah]at b;have d:a∉l:=λz=>b.1 (h.subset z);rw[zbe,if_neg (by simpa using d)];exact YT h b.2
 | a::l,_::m,.cons₂ _ h,b=>by
  rw[zah]at b;rw[zbe,if_pos (by simp)];congr 1;have e:=YT h b.2;refine e.trans (zbA λx d=>?_);have ne:x≠a:=λz=>b.1 (z▸d);simp [ne]
def Ue.uniq(nd:N.Nodup){rs:Rs α}{n:Nat}{ns d:List α}(a:Ue G N rs n ns)(b:Ue G N rs n d):ns=d:=by
 rw[YT a.sub nd,YT b.sub nd];exact zbA λx _=>decide_eq_decide.mpr ((a.iff x).trans (b.iff x).symm)
def Jg.uniq(nd:N.Nodup){n:Nat}{rs a b:Rs α}(h:Jg G N n rs a):Jg G N n rs b->a=b:=by
 induction h with
 | stop e=>
  intro k;cases k with
  | stop _=>rfl
  | more d ne _=>exact absurd (d.uniq nd e) ne
 | more e ne k i=>
  intro j;cases j with
  | stop d=>exact absurd (e.uniq nd d) ne
  | more d _ j=>
   have:=e.uniq nd d;subst this;exact i j
def Jg.same{n:Nat}{rs:Rs α}(h:Jg G N n rs rs):Ue G N rs n []:=by
 have len:∀{rs a:Rs α},Jg G N n rs a->rs.length<=a.length:=λ{rs a} h=>by
  induction h with
  | stop _=>exact tf _
  | more b ne k d=>
   rw[tv]at d;omega
 generalize e:rs=a at h;have d:rs=a:=e;cases h with
 | stop b=>exact b
 | more b ne k=>
  have:=len k;rw[tv,zar]at this;omega
def All.uniq(nd:N.Nodup){n:Nat}{rs a b:Rs α}(h:All G N n rs a):All G N n rs b->a=b:=by
 induction h with
 | stop d=>
  intro k;cases k with
  | stop _=>rfl
  | more g ne _=>
   have:=g.uniq nd (Jg.stop d);exact absurd this ne
 | more g ne k d=>
  intro e;cases e with
  | stop e=>exact absurd (g.uniq nd (Jg.stop e)) ne
  | more e _ i=>
   have:=g.uniq nd e;subst this;exact d i
variable(G N) in
inductive DP:Nat->Rs α->Prop
 | nil:DP 0 []
 | more {n:Nat} {rs rs':Rs α} (h:DP n rs) (g:Jg G N n rs rs'):DP (n+1) rs'
def Ro{l m:List α}:l.Nodup->(∀z∈l,z∈m)->l.length<=m.length:=by
 induction l generalizing m with
 | nil=>exact λ_ _=>zat _
 | cons a l j=>
  intro b h;rw[zah]at b;have d:=h a tO;have:=j (m:=m.erase a) b.2 λz i=>(zbq (λ(e:z=a)=>b.1 (e▸i))).mpr (h z (tG _ i));rw[zbC d]at this;have:=zaW d;rw[zab];omega
end
section
variable{α:Type}[DecidableEq α]{G:α->List α}{N:List α}
def W4{p q:α->Bool}:∀{l:List α},(∀x∈l,q x=true->p x=true)->(∃x∈l,p x=true/\q x=false)->l.countP q < l.countP p
 | [],_,⟨_,h,_⟩=>nomatch h
 | a::l,h,⟨x,b,i,j⟩=>by
  have le:l.countP q<=l.countP p:=List.countP_mono_left λy d=>h y (tG _ d);rw[List.countP_cons,List.countP_cons];rcases tL.mp b with e | b
  ·subst e;rw[i,j];simp;omega
  ·have m:=W4 (l:=l) (λy d=>h y (tG _ d)) ⟨x,b,i,j⟩;have b:=h a tO;cases d:q a with
   | true=>rw[b d];simp;omega
   | false=>simp;split<;>omega
def bare(N:List α)(rs:Rs α):Nat:=N.countP λx=>(qE rs x).isNone
def Ue.ex(rs:Rs α)(n:Nat):∃ns,Ue G N rs n ns:=by
 classical
 refine⟨N.filter λx=>decide (qE rs x=none/\zr G (qE rs) x n),λx=>?_,zao⟩;rw[tZ,decide_eq_true_iff]
def uj{rs:Rs α}{n:Nat}{ns:List α}(h:Ue G N rs n ns)(ne:ns≠[]):bare N (rs++[(n,ns)]) < bare N rs:=by
 obtain⟨x,b⟩:=List.exists_mem_of_ne_nil ns ne;obtain⟨i,d,_⟩:=(h.iff x).mp b;refine W4 (λy _ a=>?_) ⟨x,i,by rw[d];rfl,?_⟩
 ·rw[Jf]at a;cases e:qE rs y with
  | some m=>rw[e]at a;cases a
  | none=>rfl
 ·rw[Jf,d];simp [b]
def Jg.ex(n:Nat):∀(m:Nat) (rs:Rs α),bare N rs<=m->∃rs',Jg G N n rs rs'/\(rs'=rs\/bare N rs' < bare N rs)
 | m,rs,hm=>by
  obtain⟨ns,hr⟩:=Ue.ex (G:=G) (N:=N) rs n;by_cases e:ns=[]
  ·subst e;exact⟨rs,.stop hr,.inl rfl⟩
  ·have lt:=uj hr e;cases m with
   | zero=>omega
   | succ m=>
    obtain⟨rs',g,k⟩:=Jg.ex n m (rs++[(n,ns)]) (by omega);refine⟨rs',.more hr e g,.inr ?_⟩;rcases k with k | k
    ·rw[k];exact lt
    ·omega
def All.ex:∀(m n:Nat) (rs:Rs α),bare N rs<=m->∃rs',All G N n rs rs'
 | m,n,rs,hm=>by
  obtain⟨fe,g,k⟩:=Jg.ex (G:=G) n (bare N rs) rs (tf _);by_cases e:fe=rs
  ·subst e;exact⟨fe,.stop g.same⟩
  ·rcases k with k | k
   ·exact absurd k e
   ·cases m with
    | zero=>omega
    | succ m=>
     obtain⟨rs',a⟩:=All.ex m (n+1) fe (by omega);exact⟨rs',.more g e a⟩
end
end MLab
namespace Rh
open PySem L2
def top(i:Nat):Stmt:=PySem.Challenge.pw_ringheaps_k84_whole_worths_kept.main.body.getD i (.Pass ⟨0,0,0,0⟩)
abbrev Z7:Stmt:=top 13
abbrev UX:Stmt:=top 69
abbrev zy:Stmt:=top 70
abbrev Z5:Stmt:=top 71
abbrev Xn:Stmt:=top 72
abbrev Xp:Stmt:=top 73
abbrev UT:Stmt:=top 74
abbrev Wg:Stmt:=top 85
open PyProof.Rows hiding K lo
structure qW(K:zdM)(mg:Str->Option Value)(x:Str)(st:Stmt)(ps:List Str)(f:Addr)(fd:zdQ):Prop where
 fn:jL K x x st f fd
 ns:mg x=some (.ref f)
 bi:jZ K fd ps []
def qD{X:Cx}{x:Str}{st:Stmt}{ps:List Str}{f:Addr}{a:zdQ}{k:Nat}{sp:Sp}{e:Expr}{es:List Expr}{t:TA}{p pos:Pos}(h:qW X.K X.mg x st ps f a)(G:qp X.prog X.w X.K X.mg X.base jh k f a ps sp)(b:JA X (e::es) t)(d:(x==("__debug__":Str))=false:=by decide)(i:starEach (e::es) X.env=(false,eval e X.env)::starEach es X.env:=by rfl)(j:(backTo pos (starEach es X.env)).any (·.1)=false:=by rfl)(l:Gl X x:=by rfl)(hr:jd k X.A:=by first | assumption | exact jd.mono hr (by decide)):
 JE X (.Call (.Name x p) (e::es) [] pos) (Zs sp [] E0 t):=.of (yW G hr l h.ns h.fn.kp h.bi .nil Qi b.to d i j)
def ql{H:Hp}(h:H b=some o)(hp:H p=none):upd H p o' b=some o:=by
 rw[qc (qj h hp)];exact h
def nq{H:Hp}(h:H a=o)(h':H b=o')(n:o≠o':=by nofun):b≠a:=λe=>n (by rw[<-h,<-h',e])
def nq'{H:Hp}(h:H a=o)(h':H b=o')(n:o≠o':=by nofun):a≠b:=λe=>n (by rw[<-h,<-h',e])
def qd{H:Hp}(hp:H p=none):qi H (upd H p o):=λb u h=>ql h hp
def qi.upd(s:qi H H')(hp:H p=none):qi H (upd H' p o):=λb u h=>by
 rw[qc (qj h hp)];exact s b u h
def src(n s t:Int):List (qF×V):=[(Sum.inr "number",.int n),(Sum.inr "seed",.int s),(Sum.inr "turn",.int t)]
def nns:¬(zdN "number")=zdN "seed":=by decide+kernel
def Ik:¬(zdN "number")=zdN "turn":=by decide+kernel
def Ij:¬(zdN "seed")=zdN "turn":=by decide+kernel
def nsn:¬(zdN "seed")=zdN "number":=by decide+kernel
def ntn:¬(zdN "turn")=zdN "number":=by decide+kernel
def nts:¬(zdN "turn")=zdN "seed":=by decide+kernel
def RO(h:¬a=b):¬(Sum.inr a:qF)=Sum.inr b:=λe=>h (Sum.inr.inj e)
def gN{H:Hp}(h:H d=some (.dK (src n s t))):ju H d (.str "number") (some (.int n)):=by
 have e:qO (src n s t) (Sum.inr "number":qF)=some (.int n):=jz rfl;have q:=ju.k (k:=(Sum.inr "number":qF)) h;rw[e]at q;exact q
def gS{H:Hp}(h:H d=some (.dK (src n s t))):ju H d (.str "seed") (some (.int s)):=by
 have e:qO (src n s t) (Sum.inr "seed":qF)=some (.int s):=(jk (RO nns)).trans (jz rfl);have q:=ju.k (k:=(Sum.inr "seed":qF)) h;rw[e]at q;exact q
def gT{H:Hp}(h:H d=some (.dK (src n s t))):ju H d (.str "turn") (some (.int t)):=by
 have e:qO (src n s t) (Sum.inr "turn":qF)=some (.int t):=(jk (RO Ik)).trans ((jk (RO Ij)).trans (jz rfl));have q:=ju.k (k:=(Sum.inr "turn":qF)) h;rw[e]at q;exact q
def Eg:(src n s t).length < zdR:=qh (by show 3<=1000;decide)
def pN{H:Hp}(h:H d=some (.dK (src n s t)))(v:Int):Jl H d (.str "number") (.int v) (upd H d (.dK (src v s t))):=by
 have e:jD (src n s t) (Sum.inr "number":qF) (.int v)=src v s t:=by
  unfold jD src;simp [nsn,ntn]
 have q:=Jl.k (k:=(Sum.inr "number":qF)) (v:=.int v) h Eg;rw[e]at q;exact q
def pT{H:Hp}(h:H d=some (.dK (src n s t)))(v:Int):Jl H d (.str "turn") (.int v) (upd H d (.dK (src n s v))):=by
 have e:jD (src n s t) (Sum.inr "turn":qF) (.int v)=src n s v:=by
  unfold jD src;simp [Ik,Ij]
 have q:=Jl.k (k:=(Sum.inr "turn":qF)) (v:=.int v) h Eg;rw[e]at q;exact q
inductive ym(vs:List V)(H:Hp)(Q:VK):Prop
 | mk (d:Addr) (m n s t:Int):vs=[.ref d,.int m]->H d=some (.dK (src n s t))->(0 < m)->(m.natAbs < 2^200)->(∀r n' t',0<=r->r < m->Q (.int r) (upd H d (.dK (src n' s t'))))->ym vs H Q
def vN:Sp:=λa H Q _=>ym a H Q
inductive WB(vs:List V)(H:Hp)(Q:VK):Prop
 | mk (c:Int):vs=[.int c]->(∀d n s,H d=none->Q (.ref d) (upd H d (.dK (src n s 0))))->WB vs H Q
def Uz:Sp:=λa H Q _=>WB a H Q
inductive yB(K:zdM)(vs:List V)(H:Hp)(Q:VK):Prop
 | mk (a:Addr) (ns:List Int) (k:Int):vs=[.ref a,.int k]->(Q6 K H a (ns.map V.int))->(0<=k)->(∀v,Q (.int v) H)->yB K vs H Q
def Kq(K:zdM):Sp:=λa H Q _=>yB K a H Q
def Ct:qm ["_law_source_here","_law_many","_law_digit","_law_number"] ["_law_source_here","_law_many"] (qg Z5):=Qm
def ZS(F:jL K "_law_take" "_law_take" Z5 f a):qp P w K mg base jh 1 f a ["_law_source_here","_law_many"] vN:=by
 refine F.okK Ct λH Q E hr h=>?_;obtain⟨d,m,n,b,t,rfl,hd,a,e,k⟩:=h;refine⟨_,qb (qJ (qo J7 (qA (jv 0) qL) qk)
   (qb (qG 2 (qM JZ (qA (jv 0) qL) (jv 1)))
   (qb (jl (jv 0) qL (qM Go (qA (jv 0) qL) (jv 1)))
   (qe (qr (jv 2))))) qt)
  (qb (jl (jv 0) qL (qM J0 (qA (jv 0) qL) qk))
  (qb (qG 3 (qM JZ (qM Zi (qM J0 (qA (jv 0) qL) (qM Zi qk (qA (jv 0) qL))) qk) qk))
  (qb (qG 3 (qM JZ (qM Zi (jv 3) (jv 3)) qk))
  (qe (qr (qM JZ (qM MR (qM JZ (qM Zi (qM J0 (jv 3) (qA (jv 0) qL)) (qM J0 (jv 3) qk)) qk) qk) (jv 1))))))),?_⟩
 refine⟨_,rfl,d,_,rfl,gN hd,_,_,rfl,rfl,_,rfl,?_⟩;refine kC (λ_=>?_) (λ_=>?_)
 ·refine⟨_,rfl,d,_,rfl,gN hd,_,rfl,_,_,rfl,rfl,a,?_⟩;refine⟨_,rfl,d,_,rfl,gN hd,_,rfl,_,_,rfl,rfl,⟨a,e⟩,_,rfl,d,_,rfl,pN hd _,?_⟩;exact⟨_,rfl,k _ _ _ (zbQ _ (by omega)) (zbx _ a)⟩
 ·refine⟨_,rfl,d,_,rfl,gT hd,_,_,rfl,rfl,_,rfl,d,_,rfl,pT hd _,?_⟩;have e:upd H d (.dK (src n b (t+1))) d=some (.dK (src n b (t+1))):=qa;refine⟨_,rfl,d,_,rfl,gS e,_,rfl,d,_,rfl,gT e,_,_,rfl,rfl,.inl ⟨by decide,by decide⟩,_,_,rfl,rfl,_,_,rfl,rfl,.inr ⟨by decide,by decide⟩,_,_,rfl,rfl,(by show (0:Int) < 2147483647;decide),?_⟩;generalize i:((b+7919*(t+1))*48271) % 2147483647=x;have b:0<=x:=by rw[<-i];exact zbQ _ (by decide)
  have b:x < 2147483647:=by rw[<-i];exact zbx _ (by decide)
  refine⟨_,rfl,_,rfl,_,_,rfl,rfl,.inl ⟨by omega,by omega⟩,_,_,rfl,rfl,(by show (0:Int) < 2147483629;decide),?_⟩;generalize b:(x*x) % 2147483629=y;have i:0<=y:=by rw[<-b];exact zbQ _ (by decide)
  have i:y < 2147483629:=by rw[<-b];exact zbx _ (by decide)
  refine⟨_,rfl,_,rfl,d,_,rfl,gT e,_,_,rfl,rfl,_,rfl,_,_,rfl,rfl,_,_,rfl,rfl,.inr ⟨by omega,by omega⟩,_,_,rfl,rfl,(by show (0:Int) < 2147483587;decide),_,_,rfl,rfl,⟨by decide,by decide⟩,_,rfl,_,_,rfl,rfl,a,?_⟩;exact k _ _ _ (zbQ _ (by omega)) (zbx _ a)
open PyProof.Rows hiding K lo
structure QB(mg:Str->Option Value):Prop where
 len:mg "len"=none
 max:mg "max"=none
 min:mg "min"=none
 int:mg "int"=none
 rng:mg "range"=none
def wH(n s t:Int):jN [] (src n s t)=src n s t:=by
 unfold jN src;simp only[zcu,List.foldl_nil];unfold jD;simp [nns,Ik,Ij,nsn,ntn,nts]
def Kx:qm ["_law_cell"] ["_law_cell"] (qg zy):=Qm
def wy(F:jL K "_law_source" "_law_source" zy f a)(B:QB mg):qp P w K mg base jh 1 f a ["_law_cell"] Uz:=by
 refine F.okK Kx λH Q E hr h=>?_;obtain⟨c,rfl,k⟩:=h;refine⟨_,qe (qr (Au
  (XO qL (qM Zi (qu (W5 rfl) (by rfl) B.max boot_max (jQ qk (jv 0)))
   (qV W6 (by rfl) B.int boot_int (qT (Qe Gn (jv 0) (qM CS qk qk)))))
  (XO qL (qM JZ (jv 0) qk) (XO qL qk Am))) rfl rfl (by simp) (by decide))),?_⟩
 intro a b;refine⟨_,rfl,_,_,rfl,_,rfl,_,_,rfl,rfl,⟨by decide,by decide,by decide⟩,_,_,rfl,rfl,.inr ⟨_,rfl,_,_,rfl,rfl,.inr ?_,_,rfl,_,_,rfl,rfl,(by show (0:Int) < 2147483629;decide),?_⟩⟩
 ·split<;>exact⟨by decide,by decide⟩
 ·refine⟨qa,src _ _ 0,rfl,(by show 3<=15;decide),?_⟩;rw[wH,jx];exact k a _ _ b
def CF:qm ["_law_script","_law_k"] ["_law_script","_law_k"] (qg UX):=Qm
def M7(F:jL K "_law_cell_at" "_law_cell_at" UX f b)(B:QB mg):qp P w K mg base jh 1 f b ["_law_script","_law_k"] (Kq K):=by
 refine F.okK CF λH Q E hr h=>?_;obtain⟨a,b,k,rfl,d,_,q⟩:=h;refine⟨_,qb (qJ (qo JD (jv 1) (qu qx (by rfl) B.len boot_len (qT (jv 0))))
   (qe (qr (qU Qr (jv 0) (jv 1)))) qt)
  (qe (qr (qM J0 (qM Zi qk (jv 1)) qk))),?_⟩
 refine⟨_,rfl,_,rfl,a,_,rfl,.inl d,_,_,rfl,rfl,_,rfl,?_⟩;refine kC (λh=>?_) (λ_=>?_)
 ·have e:k < ((b.map V.int).length:Int):=of_decide_eq_true h;rw[ta]at e;have e:k.toNat < b.length:=by omega
  have i:(b.map V.int)[k.toNat]?=some (V.int b[k.toNat]):=by rw[tw,tr e];rfl
  have e:k=((k.toNat:Nat):Int):=by omega
  refine⟨_,rfl,_,rfl,a,_,k,V.int b[k.toNat],rfl,rfl,d,?_,q _⟩;have b:=QD i;rw[<-e]at b;exact b
 ·exact⟨_,rfl,_,_,rfl,rfl,.inl ⟨by decide,by decide⟩,_,_,rfl,rfl,q _⟩
open PyProof.Rows hiding K lo
def Fr(H:Hp)(d:Addr)(H':Hp):Prop:=∀b a,H b=some a->b≠d->H' b=some a
def Fr.refl:Fr H d H:=λ_ _ h _=>h
def Fr.at_d(h:Fr H d H'):Fr H d (upd H' d o):=λb u e a=>by
 rw[qc a];exact h b u e a
def Fr.new(h:Fr H d H')(hp:H' p=none):Fr H d (upd H' p o):=λb u a e=>ql (h b u a e) hp
def Fr.own(h:Fr H d H')(hp:H p=none):Fr H d (upd H' p o):=λb u a e=>by
 rw[qc (qj a hp)];exact h b u a e
def Fr.trans(h:Fr H d H')(k:Fr H' d a):Fr H d a:=λb u e a=>k b u (h b u e a) a
def Fr.fresh(h:Fr H d H')(hd:H' d=some o)(hp:H' p=none):H p=none:=by
 cases e:H p with
 | none=>rfl
 | some u=>
  by_cases n:p=d
  ·subst n;rw[hd]at hp;cases hp
  ·rw[h p u e n]at hp;cases hp
def Qa(c:Nat):Bool:=decide (97<=c)&&decide (c<=122)
def jB(z:Str):Bool:=(decide (1<=z.length)&&decide (z.length<=8))&&z.cps.toList.all Qa
def xG:Str:="abcdefghijklmnopqrstuvwxyz"
def Vf:xG.cps.toList=[97,98,99,100,101,102,103,104,105,106,107,108,109,110,111,112,113,114,115,116,117,118,119,120,121,122]:=by decide+kernel
def Nz:xG.cps.toList=(tQ 26).map (97+·):=by rw[Vf];rfl
def xF:xG.length<=zdR:=by
 show xG.cps.size<=zdR;rw[<-zaz,Vf];decide
def NA(a:0<=r)(b:r < 26):Ve xG.cps.toList r=some (97+r.toNat):=by
 have b:xG.cps.toList[r.toNat]?=some (97+r.toNat):=by
  rw[Nz,tw,zbt (by omega)];rfl
 have a:=QD b;have b:r=((r.toNat:Nat):Int):=by omega
 rw[<-b]at a;exact a
def WX{r:Int}(a:0<=r)(b:r < 26):Qa (97+r.toNat)=true:=by
 unfold Qa;rw[decide_eq_true (by omega:97<=97+r.toNat),decide_eq_true (by omega:97+r.toNat<=122)];rfl
def Dr(a:List Nat):(Txt.join (zdN "") (a.map λk=>(⟨#[k]⟩:Str))).cps.toList=a:=by
 show (Builtin.Str.glued (zdN "") _).cps.toList=_;rw[StrLaws.glued_eq_join];have e:(zdN "")=⟨#[]⟩:=by decide+kernel
 rw[e,PyProof.Rows.join_ones]
def wR{z:Str}(e:z.cps.toList=A++[c]++B)(a:A.all Qa=true)(b:Qa c=true)(d:B.all Qa=true)(h:A.length+B.length<=7):jB z=true:=by
 have h:z.length=A.length+1+B.length:=by
  show z.cps.size=_;rw[<-zaz,e];simp;omega
 unfold jB;rw[decide_eq_true (by omega:1<=z.length),decide_eq_true (by omega:z.length<=8),e,zdf,zdf,a,d];simp [b]
def y3(f s:Int)(k:Nat):Nat:=97+((f+s*(k:Int)) % 26).toNat
def Ac:∀s∈[(1:Int),3,5,7,9,11],∀k,k < 14->∀j,j < 14->(s*((k:Nat):Int) - s*((j:Nat):Int)) % 26=0->k=j:=by decide+kernel
def Ab(a:s=1\/s=3\/s=5\/s=7\/s=9\/s=11)(b:k < 14)(d:j < 14)(h:y3 f s k=y3 f s j):k=j:=by
 unfold y3 at h;refine Ac s (by simpa using a) k b j d ?_;generalize s*(k:Int)=x at h ⊢;generalize s*(j:Int)=y at h ⊢;omega
def JX(A:List Nat)(f s:Int)(zs:List Str):Prop:=∀a z,zs[a]?=some z->∃B,z.cps.toList=A++[y3 f s a]++B/\B.all Qa=true/\A.length+B.length<=7
def JX.snoc(h:JX A f s zs){z:Str}(e:z.cps.toList=A++[y3 f s zs.length]++B)(d:B.all Qa=true)(i:A.length+B.length<=7):JX A f s (zs++[z]):=by
 intro b y a;by_cases j:b < zs.length
 ·rw[t9 j]at a;exact h b y a
 ·have j:b=zs.length:=by
   have:=(td.mp a).1;rw[tv,zar]at this;omega
  subst j;rw[tY (tf _),zbO]at a;obtain rfl:=(tA.inj a).symm;exact⟨B,e,d,i⟩
def JX.names{A:List Nat}{f s:Int}{zs:List Str}(h:JX A f s zs)(a:A.all Qa=true):∀z∈zs,jB z=true:=λz b=>by
 obtain⟨d,i⟩:=zaP b;obtain⟨B,e,b,j⟩:=h d z i;refine wR e a ?_ b j;unfold y3;exact WX (zbQ _ (by decide)) (zbx _ (by decide))
def JX.nodup(h:JX A f s zs)(j:s=1\/s=3\/s=5\/s=7\/s=9\/s=11)(hz:zs.length<=14):zs.Nodup:=by
 refine zaJ.mpr λi a d b _ e=>?_;obtain⟨B,l,_⟩:=h a _ (tr b);obtain⟨m,b,_⟩:=h i _ (tr d);rw[e]at b;have d:(A++[y3 f s a]++B)[A.length]?=(A++[y3 f s i]++m)[A.length]?:=by rw[<-l,<-b]
 rw[zbB,zbB,tY (tf _),tY (tf _),zbO]at d;have b:y3 f s a=y3 f s i:=tA.inj d;exact absurd (Ab j (by omega) (by omega) b) (by omega)
def vA{A:List Nat}(h:A.all Qa=true)(n:Nat):(A.take n).all Qa=true:=by
 rw[zaT]at h ⊢;exact λx a=>h x (zbW a)
def Cr(a:0<=r)(b:r < 6):∃m:Int,(m=1\/m=3\/m=5\/m=7\/m=9\/m=11)/\Ve [V.int 1,V.int 3,V.int 5,V.int 7,V.int 9,V.int 11] r=some (.int m):=by
 have:r=0\/r=1\/r=2\/r=3\/r=4\/r=5:=by omega
 rcases this with rfl | rfl | rfl | rfl | rfl | rfl
 ·exact⟨1,by decide,rfl⟩
 ·exact⟨3,by decide,rfl⟩
 ·exact⟨5,by decide,rfl⟩
 ·exact⟨7,by decide,rfl⟩
 ·exact⟨9,by decide,rfl⟩
 ·exact⟨11,by decide,rfl⟩
inductive UG(vs:List V)(H:Hp)(Q:VK):Prop
 | mk (d:Addr) (m:Nat) (n s t:Int):vs=[.ref d,.int m]->H d=some (.dK (src n s t))->(m<=14)->(∀(l:Addr) (zs:List Str) (n' t':Int) (H':Hp),H l=none->H' l=some (.lst (zs.map V.str))->zs.length=m->(∀z∈zs,jB z=true)->zs.Nodup->H' d=some (.dK (src n' s t'))->Fr H d H'->Q (.ref l) H')->UG vs H Q
def N8:Sp:=λa H Q _=>UG a H Q
def Uu:∀zs:List Str,(zs.map λ_=>1).sum=zs.length
 | []=>rfl
 | z::zs=>by rw[tM,zaH,Uu zs,zab];omega
abbrev C9:List Str:=["_law_source_here","_law_many","_law_letters","_law_word","_law_ahead","_law_first","_law_step","_law_names_here","_law_k","_law_behind"]
def Mr:qm C9 ["_law_source_here","_law_many"] (qg Xn):=Qm
def GC{P:Program}{w:World}{K:zdM}{mg:Str->Option Value}{base:Heap}{f fT:Addr}{b j:zdQ}(F:jL K "_law_names" "_law_names" Xn f b)(B:QB mg)(a:qW K mg "_law_take" Z5 ["_law_source_here","_law_many"] fT j):qp P w K mg base jh 2 f b ["_law_source_here","_law_many"] N8:=by
 have GT:=pin P w mg base (ZS a.fn);refine F.okK Mr λH Q E hr h=>?_;obtain⟨d,m,n,b,t,rfl,hd,_,q⟩:=h;refine⟨_,qb (Je 2 qL)
  (qb (qG 3 (YF PySem.F.plainAttrs_str PySem.F.slot_str_join PySem.F.type_str_join Ae qL (jy
   (jw (N':=["_law_k","_law_letters","_law_source_here"]) (ix:=[none,some 2,some 0])
    (jq (by rfl) B.rng (qT qk))
    (λ_ _ _ fp _=>⟨qz 0,qS,
     qU kB (jv 1) (qD a GT (jQ (jv 2) qk))⟩)) jT)))
  (qb (qG 4 (ZK Kr (jv 3) zI (zH (qM Zi (qD a GT (jQ (jv 0) qk)) (qD a GT (jQ (jv 0) qk))))))
  (qb (qG 5 (qD a GT (jQ (jv 0) qk)))
  (qb (qG 6 (qU Qr (Ql (jy qk (ja5 qk qk qk qk qk))) (qD a GT (jQ (jv 0) qk))))
  (qb (qG 7 (Ql jT))
  (qb (qP (jq (by rfl) B.rng (qT (jv 1))) (qz 8)
   (qb (qG 9 (ZK Kr (jv 3) zI (zH (qD a GT (jQ (jv 0) (qM CQ qk (qu Zp (by rfl) B.len boot_len (qT (jv 4)))))))))
   (qe (q5 (YF zaI zbD zbE J8 (jv 7) (jy
    (qM Zj (qM Zj (jv 4) (qU kB (jv 2) (qM JZ (qM J0 (jv 5) (qM Zi (jv 6) (jv 8))) qk))) (jv 9)) jT))))))
  (qe (qr (jv 7))))))))),?_⟩
 refine⟨rfl,7,rfl,by decide,by decide,λD o=>?_⟩;have p:D≠d:=λe=>by rw[e,hd]at o;cases o
 refine Q5 (λi J j=>∃(v:Option V) (r u:Int) (a:List Nat),J=[v,some (.str xG),some (.ref d)]/\j d=some (.dK (src r b u))/\j D=some (.lst ((a.map λk=>(⟨#[k]⟩:Str)).map V.str))/\a.length=i/\a.all Qa=true/\Fr H d j)
  ⟨none,n,t,[],rfl,ql hd o,qa,rfl,rfl,Fr.refl.new o⟩ ?_ ?_
 ·rintro i J j hi ⟨v,r,u,a,rfl,T,x,y,O,fr⟩;refine⟨_,rfl,_,rfl,d,26,r,b,u,rfl,T,by decide,by decide,λl n3 U Y r1=>?_⟩;refine⟨xG,l,_,rfl,rfl,xF,NA Y r1,_,(by rw[qc p];exact x),?_,?_⟩
  ·rw[ta,ta,y];exact qh (by omega)
  ·refine⟨_,n3,U,a++[97+l.toNat],rfl,?_,?_,?_,?_,?_⟩
   ·rw[qc (Ne.symm p)];exact qa
   ·rw[tj,tj];exact qa
   ·rw[tv,y];rfl
   ·rw[zdf,O];simp [WX Y r1]
   ·exact(fr.at_d).own o
 rintro J H1 ⟨v,n1,o,a,rfl,p,x,L,ae,aj⟩;have L:a.length=7:=L;refine⟨zdN "",D,_,rfl,rfl,.of x,?_,?_⟩
 ·have C:((a.map λk=>(⟨#[k]⟩:Str)).map (·.length))=(a.map λk=>(⟨#[k]⟩:Str)).map λ_=>1:=by
   refine zap λz x=>?_;obtain⟨c,_,rfl⟩:=tc.mp x;rfl
  have e2:(zdN "").length=0:=by decide+kernel
  rw[C,e2,Uu,ta,L];decide
 generalize hw:Txt.join (zdN "") (a.map λk=>(⟨#[k]⟩:Str))=C;have hW:C.cps.toList=a:=by rw[<-hw];exact Dr a
 have ap:C.length=7:=by
  show C.cps.size=7;rw[<-zaz,hW,L]
 refine⟨_,rfl,_,rfl,d,2,n1,b,o,rfl,p,by decide,by decide,λo n2 p _ _=>?_⟩;refine⟨_,rfl,d,5,n2,b,p,rfl,qa,by decide,by decide,λr3 n3 U _ _=>?_⟩;rw[jx];have e4:∃p:Nat,o*r3=(p:Int)/\p<=4:=by
  have h2:o=0\/o=1:=by omega
  rcases h2 with rfl | rfl
  ·exact⟨0,by omega,by omega⟩
  ·exact⟨r3.toNat,by omega,by omega⟩
 obtain⟨p,ej,_⟩:=e4;refine⟨_,_,rfl,rfl,.inl ⟨by omega,by omega⟩,_,rfl,C,o*r3,rfl,rfl,rfl,by omega,?_⟩;rw[ej];generalize O:Txt.slice C none (some (p:Int))=o;have hA:o.cps.toList=a.take p:=by rw[<-O,Xh,hW]
 have af:o.length=p:=by
  show o.cps.size=p;rw[<-zaz,hA,tE,L];omega
 refine⟨_,rfl,d,26,n3,b,U,rfl,qa,by decide,by decide,λf n4 O _ f1=>?_⟩;rw[jx];refine⟨JB,λL hp=>?_⟩;have ag:L≠d:=λe=>by rw[e,qa]at hp;cases hp
 refine⟨_,rfl,d,6,n4,b,O,rfl,(by rw[qc (Ne.symm ag)];exact qa),by decide,by decide,λr5 n5 U ak al=>?_⟩;obtain⟨st,am,an⟩:=Cr ak al;refine⟨L,_,r5,.int st,rfl,rfl,.of (by rw[qc ag];exact qa),an,?_⟩;have aa:Fr H d (upd (upd (upd H1 d (.dK (src n4 b O))) L (.lst [V.int 1,V.int 3,V.int 5,V.int 7,V.int 9,V.int 11])) d (.dK (src n5 b U))):=(aj.at_d.new hp).at_d;generalize ao:upd (upd (upd H1 d (.dK (src n4 b O))) L (.lst [V.int 1,V.int 3,V.int 5,V.int 7,V.int 9,V.int 11])) d (.dK (src n5 b U))=L at aa;have ab:L d=some (.dK (src n5 b U)):=by rw[<-ao];exact qa
 refine⟨JB,λO y=>⟨_,rfl,m,rfl,by omega,by omega,?_⟩⟩;have ai:H O=none:=aa.fresh ab y;have ac:O≠d:=λe=>by rw[e,ab]at y;cases y
 refine Q0 (lo:=0) (n:=m) (λi J j=>∃(v1 v2:Option V) (r u:Int) (L:List Str),J=[some (.ref d),some (.int m),some (.str xG),some (.str C),some (.str o),some (.int f),some (.int st),some (.ref O),v1,v2]/\
  j d=some (.dK (src r b u))/\j O=some (.lst (L.map V.str))/\L.length=i/\JX (a.take p) f st L/\Fr H d j)
  ⟨none,none,n5,U,[],rfl,ql ab y,qa,rfl,λp z x=>(nomatch x),aa.new y⟩ ?_ ?_
 ·rintro i J j hi ⟨v1,v2,r,u,L,rfl,T,y,x,U,fr⟩;rw[zbL];refine⟨_,rfl,_,rfl,_,rfl,o,rfl,(by rw[af];exact zac (qh (by omega))),_,_,rfl,rfl,d,8 - (o.length:Int),r,b,u,rfl,T,by omega,by omega,λl n6 t6 Y r1=>?_⟩;have Y:l=((l.toNat:Nat):Int):=by omega
  refine⟨_,rfl,C,l,rfl,rfl,rfl,by omega,?_⟩;generalize hb:Txt.slice C none (some l)=b;have C:b.cps.toList=a.take l.toNat:=by rw[<-hb,Y,Xh,hW];rfl
  have Y:b.length<=l.toNat:=by
   show b.cps.size<=l.toNat;rw[<-zaz,C,tE];omega
  refine⟨_,rfl,.inl ⟨rfl,_,.of (by rw[qc ac];exact y)⟩,_,rfl,_,rfl,_,rfl,_,rfl,_,rfl,_,_,rfl,rfl,.inl ⟨by omega,by omega⟩,_,_,rfl,rfl,_,_,rfl,rfl,(by show (0:Int) < 26;decide),?_⟩;refine⟨xG,_,_,rfl,rfl,xF,NA (zbQ _ (by decide)) (zbx _ (by decide)),?_⟩;have Y:97+((f+st*(i:Int)) % 26).toNat=y3 f st i:=rfl;rw[Y];have Y:(o++(⟨#[y3 f st i]⟩:Str)).length=p+1:=by
   show (o++(⟨#[y3 f st i]⟩:Str)).cps.size=_;rw[Str.cps_append,Array.size_append];show o.length+1=_;rw[af]
  refine⟨_,_,rfl,rfl,zac (qh (by show o.length+1<=1000;omega)),_,rfl,_,_,rfl,rfl,zac (qh (by rw[Y];omega)),?_⟩;refine⟨O,_,_,rfl,rfl,(by rw[qc ac];exact y),(by rw[ta,x];exact qh (by omega)),?_⟩;refine⟨_,_,n6,t6,L++[o++(⟨#[y3 f st i]⟩:Str)++b],rfl,?_,?_,?_,?_,?_⟩
  ·rw[qc (Ne.symm ac)];exact qa
  ·rw[tj];exact qa
  ·rw[tv,x];rfl
  ·refine U.snoc (B:=a.take l.toNat) ?_ (vA ae _) ?_
   ·rw[Str.cps_append,Str.cps_append,zdr,zdr,hA,C,x]
   ·rw[tE,tE];omega
  ·exact fr.at_d.own ai
 ·rintro J j ⟨v1,v2,r,u,L,rfl,T,y,x,U,fr⟩;exact⟨_,rfl,q O L r u j ai y x (U.names (vA ae _)) (U.nodup am (by omega)) T fr⟩
open PyProof.Rows hiding K lo
def kS(t:TT)(a:L2.St)(H:Hp):Prop:=∀Q:Bool->Hp->Prop,(∀b,Q b H)->t a H Q
def kS.and(h:kS t a H)(k:kS u a H):kS (Ch t u) a H:=λQ q=>h _ λb=>by
 cases b
 ·exact jp (q false)
 ·exact QA (k _ q)
def kS.or(h:kS t a H)(k:kS u a H):kS (tOr t u) a H:=λQ q=>h _ λb=>by
 cases b
 ·exact jp (k _ q)
 ·exact QA (q true)
def RQ{e:TS}{D:Jk}(G:Hp->Prop)(h:G d)(i:kS j a d)(hp:∀D:Jk,(∀H',G H'->D.nx a H')->e D a d)(k:∀H',G H'->D.nx a H'):uO j e Uq D a d:=
 i _ λb=>by
  cases b
  ·exact jp (k _ h)
  ·exact QA (hp D k)
def Xa{d u:TS}{D:Jk}(G:Hp->Prop)(h:G b)(e:kS i a b)(hp:∀D:Jk,(∀H',G H'->D.nx a H')->d D a b)(k:∀H',G H'->u D a H'):Ce (uO i d Uq) u D a b:=RQ G h e hp k
def XU{a:L2.St}{Q:L2.St->Hp->Prop}(h:Q (a.set i (some v)) H):jF i v a H Q:=h
abbrev up(k:Nat×Nat):Int×Int:=((k.1:Int),(k.2:Int))
def BU(a b:Nat×Nat):Prop:=a.1 < b.1\/(a.1=b.1/\a.2 < b.2)
abbrev Yl(a:List (Nat×Nat)):List (List qF):=a.map λk=>YA (up k)
def wu(h:YA (up a)=YA (up b)):a=b:=by
 unfold YA at h;simp only[zcz.injEq,Sum.inl.injEq,and_true]at h;exact Prod.ext (by have:=h.1;omega) (by have:=h.2;omega)
structure Zz(m i j:Nat)(ks:List (Nat×Nat)):Prop where
 ord:ks.Pairwise BU
 lt:∀x∈ks,x.2 < m/\(x.1 < i\/(x.1=i/\x.2 < j))
 len:ks.length<=i*m+j
def Zz.more(h:Zz m i j a):Zz m i (j+1) a:=⟨h.ord,λx a=>by have:=h.lt x a;omega,by have:=h.len;omega⟩
def Zz.snoc(h:Zz m i j e)(l:j < m):Zz m i (j+1) (e++[(i,j)]):=by
 refine⟨zdn.mpr ⟨h.ord,zbc _ _,λa o b p=>?_⟩,λx d=>?_,?_⟩
 ·rw[tK.mp p];have:=h.lt a o;unfold BU;omega
 ·rcases tN.mp d with d | d
  ·have:=h.lt x d;omega
  ·rw[tK.mp d];exact⟨l,.inr ⟨rfl,zba _⟩⟩
 ·rw[tv];have:=h.len;show e.length+1<=_;omega
def Zz.row(h:Zz m i m a):Zz m (i+1) 0 a:=⟨h.ord,λx a=>by have:=h.lt x a;omega,by have:=h.len;rw[zdE];omega⟩
inductive DS(m i j:Nat)(kvs:List (List qF×V)):Prop
 | mk (ks:_):Zz m i j ks->((kvs.map (·.1)=Yl ks\/kvs.map (·.1)=Yl (ks++[(i,j)])))->DS m i j kvs
def xE(kvs:List (List qF×V))(k:List qF):((kvs.any λkv=>decide (kv.1=k))=true)↔k∈kvs.map (·.1):=by
 rw[zaS,tc];simp
def Ak{kvs:List (List qF×V)}(v:V)(h:k∈kvs.map (·.1)):(jD kvs k v).map (·.1)=kvs.map (·.1):=by
 unfold jD;rw[if_pos ((xE kvs k).mpr h),zam];refine zap λx _=>?_;show (if x.1=k then (x.1,v) else x).1=x.1;split<;>rfl
def Rv{kvs:List (List qF×V)}(v:V)(h:¬k∈kvs.map (·.1)):(jD kvs k v).map (·.1)=kvs.map (·.1)++[k]:=by
 unfold jD;rw[if_neg (λz=>h ((xE kvs k).mp z)),tj];rfl
def DS.put(h:DS m i j kvs)(v:V):DS m i j (jD kvs (YA (up (i,j))) v):=by
 obtain⟨b,a,h⟩:=h;refine⟨b,a,.inr ?_⟩;rcases h with h | h
 ·rw[Rv,h,Yl,Yl,tj]
  ·rfl
  ·rw[h];intro z;obtain⟨x,b,e⟩:=tc.mp z;have d:=wu e;have:=a.lt x b;rw[d]at this;omega
 ·rw[Ak,h];rw[h];exact tc.mpr ⟨(i,j),by simp,rfl⟩
def DS.len(h:DS m i j kvs):kvs.length<=i*m+j+1:=by
 obtain⟨_,a,h⟩:=h;have b:=a.len;rcases h with h | h
 ·have:=congrArg zav h;simp only[ta]at this;omega
 ·have:=congrArg zav h;simp only[ta,tv,zar]at this;omega
def A8(b:i<=m)(a:m<=14):i*m<=196:=tR (zbV (tR b a) a) (by decide)
def FO(xs:List V):XY xs none (some 40)=xs.take 40:=by
 unfold XY;have a:HT.sIx xs.length 0 none=0:=rfl;have b:HT.sIx xs.length xs.length (some 40)=min 40 xs.length:=by
  simp [HT.sIx]
 rw[a,b,List.drop_zero,Nat.sub_zero];by_cases h:40<=xs.length
 ·rw[Nat.min_eq_left h]
 ·rw[Nat.min_eq_right (by omega),tu (tf _),tu (by omega)]
def ZZ(H:Hp)(ps:List Addr)(a:List (Nat×Nat)):Prop:=ps.length=a.length/\∀(i:Nat) (b:Addr) (k:Nat×Nat),ps[i]?=some b->a[i]?=some k->H b=some (.tup [.int (k.1:Nat),.int (k.2:Nat)])
inductive UI(vs:List V)(H:Hp)(Q:VK):Prop
 | mk (d:Addr) (m:Nat) (n s t sh lo:Int):vs=[.ref d,.int m,.int sh,.int lo]->H d=some (.dK (src n s t))->(m<=14)->(∀(l:Addr) (ps:List Addr) (ks:List (Nat×Nat)) (n' t':Int) (H':Hp),H l=none->H' l=some (.lst (ps.map V.ref))->ZZ H' ps ks->ks.Pairwise BU->(∀x∈ks,x.1 < m/\x.2 < m)->ks.length<=40->H' d=some (.dK (src n' s t'))->Fr H d H'->Q (.ref l) H')->UI vs H Q
def Ma:Sp:=λa H Q _=>UI a H Q
abbrev Db:List Str:=["_law_source_here","_law_many","_law_shape","_law_low","_law_pairs","_law_k","_law_j","_law_way"]
abbrev VI:List Str:=["_law_source_here","_law_many","_law_shape","_law_low"]
def Mv:qm Db VI (qg Xp):=Qm
def GO(F:jL K "_law_leads" "_law_leads" Xp f l)(B:QB mg)(o:mg "sorted"=none)(j:qW K mg "_law_take" Z5 ["_law_source_here","_law_many"] fT p):qp P w K mg base jh 2 f l VI Ma:=by
 have GT:=pin P w mg base (ZS j.fn);refine F.okK Mv λH Q E hr h=>?_;obtain⟨d,m,n,r,t,O,lo,rfl,hd,hm,q⟩:=h;refine⟨_,qb (qG 4 XQ)
  (qb (qP (jq (by rfl) B.rng (qT (jv 1))) (qz 5)
   (qe (qP (jq (by rfl) B.rng (qT (jv 1))) (qz 6)
    (qb (qG 7 (qD j GT (jQ (jv 0) qk)))
    (qb (qJ (QG (qo QM (jv 2) qk) (Qq (Zw (QG (qo JD (jv 6) (jv 5)) (Qq (qo JD (jv 7) qk))).pt (Ji (QG (qo Gn (jv 6) (jv 5)) (Qq (qo JD (jv 7) qk))).pt)).pt)).pt
     (qe (jl (jv 4) (jm (jQ (jv 5) (jv 6))) Qz)) qt)
    (qb (qJ (QG (qo QM (jv 2) qk) (Qq (qo JD (jv 7) qk))).pt
     (qe (jl (jv 4) (jm (jQ (jv 5) (jv 6))) Qz)) qt)
    (qb (qJ (QG (qo QM (jv 2) qk) (Qq (Zw (QG (qo QM (jv 6) (qM JZ (qM J0 (jv 5) qk) (jv 1))) (Qq (qo JD (jv 7) qk))).pt (Ji (qo JD (jv 7) qk))).pt)).pt
     (qe (jl (jv 4) (jm (jQ (jv 5) (jv 6))) Qz)) qt)
    (qb (qJ (QG (qo QM (jv 2) qk) (QG (qo JD (jv 6) (jv 5)) (Qq (Zw (qo JD (jv 6) (jv 3)) (Ji (qo JD (jv 7) qk))).pt))).pt
     (qe (jl (jv 4) (jm (jQ (jv 5) (jv 6))) Qz)) qt)
    (qe (qJ (QG (qo QM (jv 2) qk) (Qq (Zw (QG (qo JD (jv 6) (jv 3)) (Qq (qo JD (jv 6) (jv 5)))).pt (Ji (QG (qo Gn (jv 5) (jv 3)) (Qq (qo JD (jv 7) qk))).pt)).pt)).pt
     (qe (jl (jv 4) (jm (jQ (jv 5) (jv 6))) Qz)) qt)))))))))
   )
  (qe (qr (ZK Vv (qu (kR rfl) (by rfl) o boot_sorted (qT (jv 4))) zI (zH qk))))),?_⟩
 intro D J;have ac:D≠d:=λe=>by rw[e,hd]at J;cases J
 refine⟨_,rfl,m,rfl,by omega,by omega,?_⟩;refine Q0 (lo:=0) (n:=m) (λi u j=>∃(v1 v y:Option V) (z L:Int) (kvs:List (List qF×V)) (l:List (Nat×Nat)),u=[some (.ref d),some (.int m),some (.int O),some (.int lo),some (.ref D),v1,v,y]/\
  j d=some (.dK (src z r L))/\j D=some (.dT kvs)/\kvs.map (·.1)=Yl l/\Zz m i 0 l/\Fr H d j)
  ⟨none,none,none,n,t,[],[],rfl,ql hd J,qa,rfl,⟨.nil,λx Y=>(nomatch Y),zat _⟩,Fr.refl.new J⟩ ?_ ?_
 ·rintro i u j U ⟨v1,v,y,z,L,kvs,l,rfl,T,ae,p,o,fr⟩;rw[zbL];refine⟨_,rfl,m,rfl,by omega,by omega,?_⟩;refine Q0 (lo:=0) (n:=m) (λC u j=>∃(v y:Option V) (z L:Int) (kvs:List (List qF×V)) (l:List (Nat×Nat)),u=[some (.ref d),some (.int m),some (.int O),some (.int lo),some (.ref D),some (.int i),v,y]/\
   j d=some (.dK (src z r L))/\j D=some (.dT kvs)/\kvs.map (·.1)=Yl l/\Zz m i C l/\Fr H d j)
   ⟨_,_,z,L,kvs,l,rfl,T,ae,p,o,fr⟩ ?_ ?_
  ·rintro C u H2 hj ⟨v,y,n2,t2,kvs,l,rfl,aa,ab,p,o,fr⟩;rw[zbL];refine⟨_,rfl,d,12,n2,r,t2,rfl,aa,by decide,by decide,λz n3 T _ _=>?_⟩;have af:=A8 (zac U) hm;let G:Hp->Prop:=λj=>∃(kvs:List (List qF×V)),j d=some (.dK (src n3 r T))/\j D=some (.dT kvs)/\DS m i C kvs/\Fr H d j;have g0:G (upd H2 d (.dK (src n3 r T))):=⟨kvs,qa,(by rw[qc ac];exact ab),⟨l,o,.inl p⟩,fr.at_d⟩;have put:∀j,G j->∀E:Jk,(∀j,G j->E.nx [some (.ref d),some (.int m),some (.int O),some (.int lo),some (.ref D),some (.int i),some (.int C),some (.int z)] j)->
     KO (qw 4) (z7 (qB (qw 5) (qB (qw 6) jJ))) (tC (.bl true)) E [some (.ref d),some (.int m),some (.int O),some (.int lo),some (.ref D),some (.int i),some (.int C),some (.int z)] j:=by
    rintro j ⟨kvs,z,L,r,O⟩ E k;refine⟨_,rfl,_,rfl,_,rfl,JB,λU j=>?_⟩;have ag:U≠d:=λe=>by rw[e,z]at j;cases j
    have ah:U≠D:=λe=>by rw[e,L]at j;cases j
    refine⟨D,_,rfl,Jl.t (k:=YA (up (i,C))) (kvs:=kvs) (by rw[qc (Ne.symm ah)];exact L) qa (qh (by have:=r.len;omega)),?_⟩;refine k _ ⟨_,?_,qa,r.put _,?_⟩
    ·rw[qc (Ne.symm ac),qc (Ne.symm ag)];exact z
    ·exact(O.new j).own J
   refine XU ?_;dsimp only[List.set];refine Xa G g0 ?_ (put _ g0) λ_ g3=>?_
   ·exact kS.and (λQ q=>⟨_,rfl,rfl,_,rfl,q _⟩) (.or (.and (λQ q=>⟨_,rfl,_,rfl,_,_,rfl,rfl,_,rfl,q _⟩) (λQ q=>⟨_,rfl,_,_,rfl,rfl,_,rfl,q _⟩)) (.and (λQ q=>⟨_,rfl,_,rfl,_,_,rfl,rfl,_,rfl,q _⟩) (λQ q=>⟨_,rfl,_,_,rfl,rfl,_,rfl,q _⟩)))
   refine Xa G g3 ?_ (put _ g3) λ_ j=>?_
   ·exact kS.and (λQ q=>⟨_,rfl,rfl,_,rfl,q _⟩) (λQ q=>⟨_,rfl,_,_,rfl,rfl,_,rfl,q _⟩)
   refine Xa G j ?_ (put _ j) λ_ j=>?_
   ·exact kS.and (λQ q=>⟨_,rfl,rfl,_,rfl,q _⟩) (.or (.and (λQ q=>⟨_,rfl,_,rfl,_,_,rfl,rfl,_,rfl,_,_,rfl,rfl,(by show (0:Int) < m;omega),rfl,_,rfl,q _⟩) (λQ q=>⟨_,rfl,_,_,rfl,rfl,_,rfl,q _⟩)) (λQ q=>⟨_,rfl,_,_,rfl,rfl,_,rfl,q _⟩))
   refine Xa G j ?_ (put _ j) λ_ j=>?_
   ·exact kS.and (λQ q=>⟨_,rfl,rfl,_,rfl,q _⟩) (.and (λQ q=>⟨_,rfl,_,rfl,_,_,rfl,rfl,_,rfl,q _⟩) (.or (λQ q=>⟨_,rfl,_,rfl,_,_,rfl,rfl,_,rfl,q _⟩) (λQ q=>⟨_,rfl,_,_,rfl,rfl,_,rfl,q _⟩)))
   refine RQ G j ?_ (put _ j) λ_ j=>?_
   ·exact kS.and (λQ q=>⟨_,rfl,rfl,_,rfl,q _⟩) (.or (.and (λQ q=>⟨_,rfl,_,rfl,_,_,rfl,rfl,_,rfl,q _⟩) (λQ q=>⟨_,rfl,_,rfl,_,_,rfl,rfl,_,rfl,q _⟩)) (.and (λQ q=>⟨_,rfl,_,rfl,_,_,rfl,rfl,_,rfl,q _⟩) (λQ q=>⟨_,rfl,_,_,rfl,rfl,_,rfl,q _⟩)))
   obtain⟨kvs,z,L,⟨l,o,r⟩,O⟩:=j;rcases r with r | r
   ·exact⟨_,_,n3,T,kvs,l,rfl,z,L,r,o.more,O⟩
   ·exact⟨_,_,n3,T,kvs,_,rfl,z,L,r,o.snoc hj,O⟩
  ·rintro u H2 ⟨v,y,n2,t2,kvs,l,rfl,aa,ab,p,o,fr⟩;exact⟨_,_,_,n2,t2,kvs,l,rfl,aa,ab,p,o.row,fr⟩
 ·rintro u O ⟨v1,v,y,n1,T,kvs,l,rfl,C,j,p,o,fr⟩;have r:kvs.length=l.length:=by simpa using congrArg zav p
  have af:=A8 (tf m) hm;have r:=o.len;refine⟨_,rfl,D,kvs,l.map up,rfl,j,?_,?_,by omega,λJ y u ai tup=>?_⟩
  ·rw[p,zam];rfl
  ·intro i k _ j p;rw[tw]at j p;cases r:l[i]? with
   | none=>rw[r]at j;cases j
   | some a=>
    cases v:l[i+1]? with
    | none=>rw[v]at p;cases p
    | some b=>
     rw[r]at j;rw[v]at p;obtain rfl:=(tA.inj j).symm;obtain rfl:=(tA.inj p).symm;have L:=zaJ.mp o.ord i (i+1) (td.mp r).1 (td.mp v).1 (zba _);rw[(td.mp r).2,(td.mp v).2]at L;unfold BU at L;show XJ _ _;unfold XJ;show (a.1:Int) < b.1\/((a.1:Int)=b.1/\(a.2:Int) < b.2);omega
  ·refine⟨40,rfl,J,_,rfl,.of qa,λv r=>?_⟩;rw[FO,<-List.map_take];have L:v≠d:=λe=>by
    rw[e,ql C u]at r;cases r
   have L:O v=none:=by
    by_cases e:v=J
    ·rw[e];exact u
    ·rw[qc e]at r;exact r
   have J:=(fr.new (o:=.lst (y.map V.ref)) u).new (o:=.lst ((y.take 40).map V.ref)) r;refine q v (y.take 40) (l.take 40) n1 T _ (fr.fresh C L) qa ⟨?_,λi U k j p=>?_⟩ ?_ ?_ ?_ ?_ J
   ·rw[tE,tE,ai,ta]
   ·have l:i < 40:=by
     have:=(td.mp j).1;rw[tE]at this;omega
    rw[zbp l]at j p;have z:=tup i U (up k) j (by rw[tw,p];rfl);exact ql (ql z u) r
   ·exact o.ord.sublist (zdA _ _)
   ·intro x Y;have:=o.lt x (zbW Y);omega
   ·rw[tE];omega
   ·exact ql (ql C u) r
open PyProof.Rows hiding K lo
structure qf(rs:List (Str×List Str)):Prop where
 nm:∀r∈rs,jB r.1=true
 nd:(rs.map (·.1)).Nodup
 to:∀r∈rs,∀z∈r.2,z∈rs.map (·.1)
 rd:∀r∈rs,r.2.Nodup
 few:(rs.map λr=>r.2.length).sum<=40
def Uh(zs:List Str)(j:Nat):Str:=zs.getD j ⟨#[]⟩
def NO{zs:List Str}(h:j < zs.length):Uh zs j∈zs:=by
 unfold Uh;rw[zaE,tr h];exact zbH h
def Vg{zs:List Str}(h:j < zs.length):zs[j]?=some (Uh zs j):=by
 unfold Uh;rw[zaE,tr h];rfl
def k8{zs:List Str}(l:zs.Nodup)(b:i < zs.length)(d:j < zs.length)(h:Uh zs i=Uh zs j):i=j:=by
 have a:=Vg b;have m:=Vg d;rw[h,<-m,tr b,tr d]at a;have e:zs[i]=zs[j]:=tA.inj a;rcases zaY i j with a | a | a
 ·exact absurd e (zaJ.mp l i j b d a)
 ·exact a
 ·exact absurd e.symm (zaJ.mp l j i d b a)
def QN{β:Type}{f:α->β}:∀{l:List α},l.Nodup->(∀a∈l,∀b∈l,f a=f b->a=b)->(l.map f).Nodup
 | [],_,_=>zbh
 | a::l,h,k=>by
  rw[tM,zah];rw[zah]at h;refine⟨λz=>?_,QN h.2 λx hx y hy=>k x (tG _ hx) y (tG _ hy)⟩;obtain⟨b,hb,e⟩:=tc.mp z;have:=k b (tG _ hb) a (tO) e;subst this;exact h.1 hb
def Wx(a:List (Nat×Nat))(k:Nat):List Nat:=(a.filter λx=>decide (x.1=k)).map (·.2)
def xY{d:List (Nat×Nat)}(h:d.Pairwise BU)(k:Nat):(Wx d k).Nodup:=by
 have e:(d.filter λx=>decide (x.1=k)).Pairwise BU:=h.sublist (zao);refine zbk.mpr (zdt.imp_of_mem (λ{a b} d i j=>?_) e);have e:a.1=k:=of_decide_eq_true (tZ.mp d).2;have d:b.1=k:=of_decide_eq_true (tZ.mp i).2;unfold BU at j;omega
def vH{a:List (Nat×Nat)}(h:∀x∈a,x.1 < m/\x.2 < m)(k:Nat):∀j∈Wx a k,j < m:=λj a=>by
 obtain⟨x,b,e⟩:=tc.mp a;have:=(h x (tZ.mp b).1).2;omega
def NZ(os:List Nat)(f g:Nat->Nat):(os.map λk=>f k+g k).sum=(os.map f).sum+(os.map g).sum:=by
 induction os with
 | nil=>rfl
 | cons a os b=>
  simp only[tM,zaH,b];omega
def NY{os:List Nat}(h:os.Nodup)(a:Nat):(os.map λk=>if a=k then 1 else 0).sum<=1:=by
 induction os with
 | nil=>exact zat _
 | cons b os d=>
  rw[zah]at h;rw[tM,zaH];by_cases e:a=b
  ·subst e;have z:(os.map λk=>if a=k then 1 else 0)=os.map λ_=>0:=zap λk i=>by
    rw[if_neg];intro e;subst e;exact h.1 i
   rw[z,if_pos rfl];have:(os.map λ_=>0).sum=0:=by
    clear z d h;induction os with
    | nil=>rfl
    | cons c os d=>rw[tM,zaH,d]
   omega
  ·rw[if_neg e];have:=d h.2;omega
def yf{os:List Nat}(h:os.Nodup):∀a:List (Nat×Nat),(os.map λk=>(Wx a k).length).sum<=a.length
 | []=>by
  have:(os.map λk=>(Wx [] k).length).sum=0:=by
   clear h;induction os with
   | nil=>rfl
   | cons c os b=>rw[tM,zaH,b];rfl
  omega
 | x::a=>by
  have e:(os.map λk=>(Wx (x::a) k).length)=os.map λk=>(if x.1=k then 1 else 0)+(Wx a k).length:=zap λk _=>by
   unfold Wx;rw[zbe];by_cases z:x.1=k
   ·rw[if_pos (decide_eq_true z),if_pos z];simp only[tM,zab];omega
   ·rw[if_neg (by simpa using z),if_neg z,zdD]
  rw[e,NZ,zab];have:=NY h x.1;have:=yf h a;omega
def J5(zs:List Str)(a:List (Nat×Nat))(b:Bool)(k:Nat):Str×List Str:=
 (Uh zs k,if b=true then ((Wx a k).map (Uh zs)).reverse else (Wx a k).map (Uh zs))
def we:z∈(J5 zs a b k).2↔z∈(Wx a k).map (Uh zs):=by
 unfold J5;cases b
 ·rw[if_neg tI]
 ·rw[if_pos rfl,zcV]
def wg:(J5 zs a b k).2.length=(Wx a k).length:=by
 unfold J5;cases b
 ·rw[if_neg tI,ta]
 ·rw[if_pos rfl,zbZ,ta]
structure vB(m:Nat)(os:List Nat):Prop where
 len:os.length=m
 nd:os.Nodup
 lt:∀k∈os,k < m
 all:∀j,j < m->j∈os
def wZ{zs:List Str}{d:List (Nat×Nat)}{os:List Nat}{m:Nat}(j:Bool)(hz:zs.length=m)(hN:∀z∈zs,jB z=true)(hd:zs.Nodup)(B:d.Pairwise BU)(o:∀x∈d,x.1 < m/\x.2 < m)(C:d.length<=40)(i:vB m os):
  qf (os.map (J5 zs d j)):=by
 have v:(os.map (J5 zs d j)).map (·.1)=os.map (Uh zs):=by rw[zam];rfl
 have inj:∀a∈os,∀b∈os,Uh zs a=Uh zs b->a=b:=λa p b q e=>k8 hd (by rw[hz];exact i.lt a p) (by rw[hz];exact i.lt b q) e;refine⟨λl hr=>?_,?_,λl hr z y=>?_,λl hr=>?_,?_⟩
 ·obtain⟨k,r,rfl⟩:=tc.mp hr;exact hN _ (NO (by rw[hz];exact i.lt k r))
 ·rw[v];exact QN i.nd inj
 ·obtain⟨k,r,rfl⟩:=tc.mp hr;rw[we]at y;obtain⟨u,D,rfl⟩:=tc.mp y;rw[v];exact tc.mpr ⟨u,i.all u (vH o k u D),rfl⟩
 ·obtain⟨k,r,rfl⟩:=tc.mp hr;have r:((Wx d k).map (Uh zs)).Nodup:=QN (xY B k) λa p b q e=>k8 hd (by rw[hz];exact vH o k a p) (by rw[hz];exact vH o k b q) e;show (if j=true then _ else _:List Str).Nodup;cases j
  ·rw[if_neg tI];exact r
  ·rw[if_pos rfl];exact zdh.mpr (r.imp λh=>Ne.symm h)
 ·have o:((os.map (J5 zs d j)).map λl=>l.2.length)=os.map λk=>(Wx d k).length:=by
   rw[zam];exact zap λk _=>wg
  rw[o];exact tR (yf i.nd d) C
def Gk(m:Nat):vB m (tQ m):=⟨zaf,zbo,λk h=>zai.mp h,λ_ h=>zai.mpr h⟩
def kc(m:Nat):vB m (zS m):=⟨by rw[zS,zbZ,zaf],zdh.mpr (zbo.imp λh=>Ne.symm h),λk h=>zai.mp (zcV.mp h),λ_ h=>zcV.mpr (zai.mpr h)⟩
def YI(m:Nat):List Nat:=(tQ m).map λk=>k*5 % m
def ub:∀m,m < 15->(YI m).Nodup->∀j,j < m->j∈YI m:=by decide+kernel
def U2(b:m<=14)(a:0 < m)(h:(YI m).Nodup):vB m (YI m):=
 ⟨by rw[YI,ta,zaf],h,λk b=>by obtain⟨x,_,rfl⟩:=tc.mp b;exact Nat.mod_lt _ a,ub m (by omega) h⟩
def WT(val:Nat->Int):∀i,(firstMet val i).length=i->((tQ i).map val).Nodup
 | 0,_=>zbh
 | i+1,h=>by
  have d:=firstMet_any val i (val i);have o:=firstMet_length_le val i;rw[firstMet_succ]at h;unfold step_dedup at h;split at h
  ·omega
  ·rename_i z;rw[tv,zar]at h;rw[zcg,tj,zbi];refine⟨WT val i (by omega),by simp,λa j b l e=>?_⟩;have m:b=val i:=by simpa using l
   subst m;subst e;refine z ?_;rw[d,zaS];exact⟨_,j,by simp⟩
def De{os:List Nat}(h:¬(firstMet (λi=>(os.map λk=>((k:Nat):Int)).getD i 0) (os.map λk=>((k:Nat):Int)).length).length < os.length):os.Nodup:=by
 have a:=firstMet_length_le (λi=>(os.map λk=>((k:Nat):Int)).getD i 0) (os.map λk=>((k:Nat):Int)).length;have b:=WT (λi=>(os.map λk=>((k:Nat):Int)).getD i 0) (os.map λk=>((k:Nat):Int)).length (by rw[ta]at a h ⊢;omega);have e:(tQ (os.map λk=>((k:Nat):Int)).length).map (λi=>(os.map λk=>((k:Nat):Int)).getD i 0)=os.map λk=>((k:Nat):Int):=by
  refine zcM λi=>?_;rw[tw];by_cases a:i < (os.map λk=>((k:Nat):Int)).length
  ·rw[zbt a,tr a];simp only[zce,zaE,tr a,Option.getD_some]
  ·rw[zbm (by rw[zaf];omega),zbm (by omega)];rfl
 rw[e]at b;refine(zbk.mp b).imp λh e=>h (by rw[e])
open PyProof.Rows hiding K lo
def qY(H:Hp)(ps:List Addr)(rs:List (Str×List Str)):Prop:=ps.length=rs.length/\∀(i:Nat) (b:Addr) (a:Str×List Str),ps[i]?=some b->rs[i]?=some a->∃q,H b=some (.tup [.str a.1,.ref q])/\H q=some (.tup (a.2.map V.str))
inductive yn(vs:List V)(H:Hp)(Q:VK):Prop
 | mk (d:Addr) (mo:Nat) (n s t:Int):vs=[.ref d,.int mo]->H d=some (.dK (src n s t))->(0 < mo)->(mo<=14)->(∀(l:Addr) (ps:List Addr) (rs:List (Str×List Str)) (n' t':Int) (H':Hp),H l=none->H' l=some (.lst (ps.map V.ref))->qY H' ps rs->qf rs->0 < rs.length->rs.length<=mo->H' d=some (.dK (src n' s t'))->Fr H d H'->Q (.ref l) H')->yn vs H Q
def u9:Sp:=λa H Q _=>yn a H Q
structure j7(mg:Str->Option Value):Prop where
 srt:mg "sorted"=none
 lst:mg "list"=none
 rev:mg "reversed"=none
 set:mg "set"=none
 tup:mg "tuple"=none
def qY.mono(h:qY H ps rs)(s:qi H H'):qY H' ps rs:=⟨h.1,λi d e j l=>let ⟨q,a,b⟩:=h.2 i d e j l;⟨q,s _ _ a,s _ _ b⟩⟩
def ZZ.mono(h:ZZ H ps a)(s:qi H H'):ZZ H' ps a:=⟨h.1,λi a k b d=>s _ _ (h.2 i a k b d)⟩
def Fr.same(h:Fr H d H')(s:qi H' a):Fr H d a:=λb u a e=>s _ _ (h b u a e)
def qY.snoc(h:qY H ps rs)(hp:H p=some (.tup [.str r.1,.ref q]))(e:H q=some (.tup (r.2.map V.str))):qY H (ps++[p]) (rs++[r]):=by
 refine⟨by rw[tv,tv,h.1];rfl,λi j l a b=>?_⟩;by_cases d:i < ps.length
 ·rw[t9 d]at a;rw[t9 (by rw[<-h.1];exact d)]at b;exact h.2 i j l a b
 ·have d:i=ps.length:=by
   have:=(td.mp a).1;rw[tv,zar]at this;omega
  subst d;rw[tY (tf _),zbO]at a;rw[h.1,tY (tf _),zbO]at b;obtain rfl:=(tA.inj a).symm;obtain rfl:=(tA.inj b).symm;exact⟨q,hp,e⟩
def qY.upd_lst(h:qY H ps rs)(d:H l=some (.lst xs)):qY (upd H l o) ps rs:=by
 refine⟨h.1,λi j m p r=>?_⟩;obtain⟨q,a,b⟩:=h.2 i j m p r;refine⟨q,?_,?_⟩
 ·rw[qc (λe=>by rw[e,d]at a;cases a)];exact a
 ·rw[qc (λe=>by rw[e,d]at b;cases b)];exact b
def kF{h:TT}{i u:TS}(R:Bool->Hp->Prop)(G:L2.St->Hp->Prop)(l:∀Q:Bool->Hp->Prop,(∀b a,R b a->Q b a)->h e m Q)(o:∀a,R true a->∀j:Jk,(∀d H',G d H'->j.nx d H')->i j e a)(p:∀a,R false a->G e a)(k:∀d H',G d H'->u D d H'):Ce (uO h i Uq) u D e m:=
 l _ λb a a=>by
  cases b
  ·exact jp (k _ _ (p _ a))
  ·exact QA (o _ a _ k)
def AT{zs:List Str}(h:j < zs.length):Ve (zs.map V.str) ((j:Nat):Int)=some (V.str (Uh zs j)):=QD (by rw[tw,Vg h];rfl)
def uG{a:List (Nat×Nat)}{j:Nat}{x:Nat×Nat}(k:Nat)(h:a[j]?=some x):Wx (a.take (j+1)) k=Wx (a.take j) k++if x.1=k then [x.2] else []:=by
 unfold Wx;rw[tz,h,zay,tj];congr 1;by_cases e:x.1=k
 ·rw[if_pos e];simp [e]
 ·rw[if_neg e];simp [e]
abbrev oL(os:List Nat):List V:=os.map λk=>V.int ((k:Nat):Int)
def Aa(os:List Nat):oL os=(os.map λk=>((k:Nat):Int)).map V.int:=by rw[zam];rfl
abbrev Fp:List Str:=["_law_source_here","_law_most","_law_many","_law_names_here","_law_shape","_law_pairs","_law_about","_law_order","_law_rows_here","_law_k","_law_leads_here"]
def vQ:qm Fp ["_law_source_here","_law_most"] (qg UT):=Qm
abbrev FR:List Str:=["_law_one","_law_j","_law_k","_law_names_here"]
def xz:FR.Nodup:=by decide+kernel
def MU(F:jL K "_law_rows" "_law_rows" UT f j)(B:QB mg)(G:j7 mg)(l:qW K mg "_law_take" Z5 ["_law_source_here","_law_many"] fT p)(hN:qW K mg "_law_names" Xn ["_law_source_here","_law_many"] r C)(o:qW K mg "_law_leads" Xp VI J L):qp P w K mg base jh 3 f j ["_law_source_here","_law_most"] u9:=by
 have GT:=pin P w mg base (ZS l.fn);have p:=pin P w mg base (GC hN.fn B l);have r:=pin P w mg base (GO o.fn B G.srt l);refine F.okK vQ λH Q E hr h=>?_;obtain⟨d,mo,n,j,t,rfl,hd,_,_,q⟩:=h;have C:jd 1 _:=hr.mono (by decide);refine⟨_,qb (Je 2 (qM J0 qk (qD l GT (jQ (jv 0) (jv 1)))))
  (qb (Je 3 (qD hN p (jQ (jv 0) (jv 2))))
  (qb (qG 4 (qD l GT (jQ (jv 0) qk)))
  (qb (qG 5 (qD o r (FG (jv 0) (jv 2) (jv 4) (qM J0 qk (qD l GT (jQ (jv 0) qk))))))
  (qb (qG 6 (Qe QM (qD l GT (jQ (jv 0) qk)) qk))
  (qb (qG 7 (FD rfl (by rfl) G.lst (by rfl) B.rng (jv 2)))
  (qb (qJ (jH (jv 6)) (qe (Qx (i:=7) (N':=["_law_k","_law_many"]) (ix:=[none,some 2]) (hN:=vQ.nd) (jq (by rfl) B.rng (qT (jv 2)))
    (λo p l fp r=>⟨qz 0,qS,qM JZ (qM Zi (jv 0) qk) (jv 1)⟩))) qt)
  (qb (qJ (qo JD (qu vz (by rfl) B.len boot_len (qT (qV (ug rfl) (by rfl) G.set boot_set (qT (jv 7))))) (jv 2))
    (qe (qG 7 (Du rfl (by rfl) G.lst (by rfl) G.rev (by rfl) B.rng (jv 2)))) qt)
  (qb (qG 8 (Ql jT))
  (qb (qP (qy (jv 7)) (qz 9)
   (qb (Qx (i:=10) (N':=FR) (ix:=[none,none,some 9,some 3]) (g:=kH K 2 (Za (jF 0) (Za (jF 1) kI))) (te:=Zr (K5 K) (qw 3) (qw 1)) (hN:=vQ.nd) (qy (jv 5))
     (λo p l fp r=>⟨QH rfl (qH (ji (i:=0) xz rfl (Or.inl rfl)) (qH (ji (i:=1) xz rfl (Or.inl rfl)) j3)),
      jP (qo QM (jv 0) (jv 2)),qU Qr (jv 3) (jv 1)⟩))
   (qb (qJ (jH (jv 6)) (qe (q5 (RK zaI PySem.F.slot_list_reverse PySem.F.type_list_reverse ko (jv 10)))) qt)
   (qe (q5 (YF zaI zbD zbE J8 (jv 8) (jy
    (jm (jQ (qU Qr (jv 3) (jv 9)) (qV j9 (by rfl) G.tup boot_tuple (qT (jv 10))))) jT)))))))
  (qe (qr (jv 8)))))))))))),?_⟩
 refine⟨_,rfl,_,rfl,d,mo,n,j,t,rfl,hd,by omega,by omega,λO n1 o _ C=>⟨_,_,rfl,rfl,?_⟩⟩;obtain⟨m,em,m0,m1⟩:∃m:Nat,1+O=(m:Int)/\0 < m/\m<=mo:=⟨(1+O).toNat,by omega,by omega,by omega⟩;have p:V.int (1+O)=V.int (m:Int):=congrArg V.int em;rw[p];refine⟨_,rfl,_,rfl,d,m,n1,j,o,rfl,qa,by omega,λr o n2 p l U av zl zn aw C L=>?_⟩;have L:Fr H d l:=Fr.refl.at_d.trans L;refine⟨_,rfl,d,5,n2,j,p,rfl,C,by decide,by decide,λsh n3 l _ _=>?_⟩;refine⟨_,rfl,_,rfl,_,rfl,_,rfl,d,5,n3,j,l,rfl,qa,by decide,by decide,λl n4 p _ _=>⟨_,_,rfl,rfl,d,m,n4,j,p,sh,1+l,rfl,qa,by omega,λT ps p n5 t5 l Y ax al ay am az an C=>?_⟩⟩;have J:r≠d:=λe=>by rw[e,qa]at U;cases U
 have aA:l r=some (.lst (o.map V.str)):=C _ _ (by rw[qc J,qc J];exact av) J;have C:Fr H d l:=L.at_d.at_d.trans C;refine⟨_,rfl,d,2,n5,j,t5,rfl,an,by decide,by decide,λL n6 U _ _=>⟨rfl,?_⟩⟩;generalize decide (V.int L=V.int 1)=b;have L:T≠d:=λe=>by rw[e,qa]at Y;cases Y
 have af:Fr H d (upd l d (.dK (src n6 j U))):=C.at_d;have ag:upd l d (.dK (src n6 j U)) d=some (.dK (src n6 j U)):=qa;have ao:upd l d (.dK (src n6 j U)) r=some (.lst (o.map V.str)):=by rw[qc J];exact aA
 have ah:upd l d (.dK (src n6 j U)) T=some (.lst (ps.map V.ref)):=by rw[qc L];exact ax
 have ap:ZZ (upd l d (.dK (src n6 j U))) ps p:=⟨al.1,λi C k e1 J=>by
  have h1:=al.2 i C k e1 J;have:C≠d:=λe=>by rw[e,an]at h1;cases h1
  rw[qc this];exact h1⟩
 generalize upd l d (.dK (src n6 j U))=Y at af ag ao ah ap;refine⟨_,rfl,m,rfl,by omega,λlo L=>?_⟩;refine XU ?_;dsimp only[List.set];refine kF (λc j=>c=b/\j=upd Y lo (.lst (AZ m))) (λl j=>∃lo os,l=[some (.ref d),some (.int mo),some (.int m),some (.ref r),some (.int sh),some (.ref T),some (.bl b),some (.ref lo),none,none,none]/\qi Y j/\Y lo=none/\j lo=some (.lst (oL os))/\(os=tQ m\/os=YI m))
  (λQ k=>⟨_,rfl,b,rfl,k _ _ ⟨rfl,rfl⟩⟩) ?_ ?_ ?_
 ·rintro H1 ⟨rfl,rfl⟩ D' k;refine⟨_,rfl,m,rfl,by omega,by omega,λD J=>?_⟩;refine Q5 (λi l j=>∃v:Option V,l=[v,some (.int m)]/\j=upd (upd Y lo (.lst (AZ m))) D (.lst (oL ((tQ i).map λk=>k*5 % m)))) ⟨none,rfl,rfl⟩ ?_ ?_
  ·rintro i l j hi ⟨v,rfl,rfl⟩;rw[zbL];have hi:i < m:=by simpa using hi
   refine⟨_,rfl,_,_,rfl,rfl,.inl ⟨by omega,by omega⟩,_,rfl,_,_,rfl,rfl,(by show (0:Int) < m;omega),_,qa,?_,_,rfl,?_⟩
   ·rw[ta,ta,zaf];exact qh (by omega)
   ·rw[jx,zcg,tj,oL,oL,tj];rfl
  ·rintro l j ⟨v,rfl,rfl⟩;have aB:Y D=none:=by
    by_cases e:D=lo
    ·rw[e];exact L
    ·rw[qc e]at J;exact J
   exact k _ _ ⟨D,YI m,rfl,λa u h=>ql (ql h L) J,aB,qa,.inr rfl⟩
 ·rintro H1 ⟨rfl,rfl⟩;exact⟨lo,tQ m,rfl,qd L,L,qa,.inl rfl⟩
 rintro l H7 ⟨lo,os,rfl,s7,_,aq,ar⟩;have L:os.length=m:=by
  rcases ar with rfl | rfl
  ·exact zaf
  ·rw[YI,ta,zaf]
 refine kF (λc j=>qi H7 j/\(c=true\/os.Nodup)) (λl j=>∃lo os,l=[some (.ref d),some (.int mo),some (.int m),some (.ref r),some (.int sh),some (.ref T),some (.bl b),some (.ref lo),none,none,none]/\qi Y j/\j lo=some (.lst (oL os))/\vB m os)
  ?_ ?_ ?_ ?_
 ·intro Q k;refine⟨_,rfl,lo,os.map (λk=>((k:Nat):Int)),rfl,.of (by rw[<-Aa];exact aq),by rw[ta,L];omega,λai S hl=>?_⟩;refine⟨ai,S,_,rfl,qa,_,rfl,_,_,rfl,rfl,_,rfl,k _ _ ⟨qd hl,?_⟩⟩;by_cases h:(((firstMet (λi=>(os.map λk=>((k:Nat):Int)).getD i 0) (os.map λk=>((k:Nat):Int)).length).length:Nat):Int) < (m:Int)
  ·exact .inl (decide_eq_true h)
  ·exact .inr (De (by rw[L];omega))
 ·rintro H1 ⟨L,_⟩ D' k;refine⟨_,rfl,m,rfl,by omega,λai hl=>?_⟩;exact k _ _ ⟨ai,zS m,rfl,λa u h=>ql (L _ _ (s7 _ _ h)) hl,qa,kc m⟩
 ·rintro H1 ⟨L,h⟩;have h:os.Nodup:=h.resolve_left (by decide);refine⟨lo,os,rfl,λa u h=>L _ _ (s7 _ _ h),L _ _ aq,?_⟩;rcases ar with rfl | rfl
  ·exact Gk m
  ·exact U2 (by omega) m0 h
 rintro l H8 ⟨lo,os,rfl,s8,as,ho⟩;refine⟨JB,λL aa=>⟨_,rfl,lo,rfl,⟨_,.of (ql as aa)⟩,?_⟩⟩;refine jb (K:=K) (a:=lo) (xs:=oL os) (λi l j=>∃(v9 fb:Option V) (qs:List Addr),l=[some (.ref d),some (.int mo),some (.int m),some (.ref r),some (.int sh),some (.ref T),some (.bl b),some (.ref lo),some (.ref L),v9,fb]/\
  qi H8 j/\j L=some (.lst (qs.map V.ref))/\qY j qs ((os.take i).map (J5 o p b)))
  ⟨none,none,[],rfl,qd aa,qa,rfl,λi C O e=>(nomatch e)⟩ (λi l j _ ⟨_,_,_,_,s,_⟩=>.of (s _ _ as)) ?_ ?_
 ·rintro i x l j O ⟨v9,fb,qs,rfl,s9,ac,ee⟩;have aC:i < os.length:=by
   have:=(td.mp O).1;rwa [ta]at this
  obtain⟨k,hk⟩:∃k,os[i]?=some k:=⟨_,tr aC⟩;have ex:x=V.int ((k:Nat):Int):=by
   rw[tw,hk]at O;exact(tA.inj O).symm
  subst ex;have aD:k < m:=ho.lt k (tP hk);refine⟨_,rfl,T,rfl,⟨_,.of (s9 _ _ (s8 _ _ ah))⟩,λD J=>?_⟩;have aE:D≠L:=λe=>by rw[e,ac]at J;cases J
  have au:j r=some (.lst (o.map V.str)):=s9 _ _ (s8 _ _ ao);have aj:ZZ j ps p:=ap.mono λa u h=>s9 _ _ (s8 _ _ h);refine jc (K:=K) (a:=T) (xs:=ps.map V.ref) (λO ae aF=>∃v0 v1:Option V,ae=[v0,v1,some (.int k),some (.ref r)]/\aF=upd j D (.lst (((Wx (p.take O) k).map (Uh o)).map V.str))) ⟨none,none,rfl,rfl⟩
   (λO ae G _ ⟨_,_,_,e⟩=>e▸.of (ql (s9 _ _ (s8 _ _ ah)) J)) ?_ ?_
  ·rintro O y ae G hy ⟨v0,v1,rfl,rfl⟩;have hj:O < ps.length:=by
    have:=(td.mp hy).1;rwa [ta]at this
   obtain⟨C,hp⟩:∃C,ps[O]?=some C:=⟨_,tr hj⟩;obtain⟨kk,ak⟩:∃C,p[O]?=some C:=⟨_,tr (by rw[<-aj.1];exact hj)⟩;have ey:y=V.ref C:=by
    rw[tw,hp]at hy;exact(tA.inj hy).symm
   subst ey;have aG:=aj.2 O C kk hp ak;have aH:kk.2 < o.length:=by rw[zl];exact(am kk (tP ak)).2
   refine⟨C,_,rfl,.of (ql aG J),rfl,_,_,rfl,_,_,rfl,rfl,_,rfl,_,rfl,rfl,_,rfl,?_⟩;rw[uG k ak];by_cases e:kk.1=k
   ·have e1:decide (V.int ((kk.1:Nat):Int)=V.int ((k:Nat):Int))=true:=decide_eq_true (by rw[e]);rw[e1,if_pos e];refine QA ⟨_,rfl,_,rfl,r,_,_,_,rfl,rfl,.of (ql au J),AT aH,_,qa,?_,_,_,rfl,?_⟩
    ·rw[ta,ta];refine qh ?_;have h1:(Wx (p.take O) k).length<=(p.take O).length:=by
      unfold Wx;rw[ta];exact zas _ _
     rw[tE]at h1;omega
    ·rw[jx,tj,tj];rfl
   ·have e1:decide (V.int ((kk.1:Nat):Int)=V.int ((k:Nat):Int))=false:=decide_eq_false (by
     intro z;have:=V.int.inj z;omega)
    rw[e1,if_neg e,zak];exact jp ⟨_,_,rfl,rfl⟩
  ·rintro ae G ⟨v0,v1,rfl,rfl⟩;rw[ta,aj.1,tu (tf _)];refine XU ?_;dsimp only[List.set];refine kF (λc G=>c=b/\G=upd j D (.lst (((Wx p k).map (Uh o)).map V.str)))
    (λl G=>l=[some (.ref d),some (.int mo),some (.int m),some (.ref r),some (.int sh),some (.ref T),some (.bl b),some (.ref lo),some (.ref L),some (.int k),some (.ref D)]/\G=upd j D (.lst ((J5 o p b k).2.map V.str)))
    (λQ k=>⟨_,rfl,b,rfl,k _ _ ⟨rfl,rfl⟩⟩) ?_ ?_ ?_
   ·rintro H1 ⟨rfl,rfl⟩ D' kk;refine⟨_,rfl,.inl ⟨rfl,_,.of qa⟩,D,_,rfl,rfl,qa,?_⟩;refine kk _ _ ⟨rfl,?_⟩;rw[jx,J5,if_pos rfl,List.map_reverse]
   ·rintro H1 ⟨rfl,rfl⟩;exact⟨rfl,rfl⟩
   rintro l G ⟨rfl,rfl⟩;have O:upd j D (.lst ((J5 o p b k).2.map V.str)) L=some (.lst (qs.map V.ref)):=by rw[qc (Ne.symm aE)];exact ac
   have C:qi j (upd j D (.lst ((J5 o p b k).2.map V.str))):=qd J;refine⟨_,rfl,.inl ⟨rfl,_,.of O⟩,_,rfl,_,rfl,r,_,_,_,rfl,rfl,.of (C _ _ au),AT (by rw[zl];exact aD),_,rfl,D,_,rfl,.inl ⟨.of qa,λT J=>⟨JB,λlt r=>?_⟩⟩⟩;have aI:=ql (o':=HO.tup ((J5 o p b k).2.map V.str)) O J;have p:=ql (o':=HO.tup [V.str (Uh o k),V.ref T]) aI r;refine⟨L,_,_,rfl,rfl,p,?_,_,_,qs++[lt],rfl,?_,?_,?_⟩
   ·rw[ta,ee.1,ta,tE];refine qh ?_;have:=ho.len;omega
   ·exact qi.upd (λa u h=>ql (ql (C _ _ (s9 _ _ h)) J) r) aa
   ·rw[tj];exact qa
   ·have e:os.take (i+1)=os.take i++[k]:=by rw[tz,hk];rfl
    rw[e,tj];refine qY.upd_lst ?_ p;exact qY.snoc (q:=T) (ee.mono λa u h=>ql (ql (C _ _ h) J) r) qa (ql qa r)
 ·rintro l j ⟨v9,fb,qs,rfl,s9,ac,ee⟩;have e:(oL os).length=os.length:=ta ..;rw[e,tu (tf _)]at ee;have l:Y L=none:=by
   cases z:Y L with
   | none=>rfl
   | some u=>rw[s8 _ _ z]at aa;cases aa
  refine⟨_,rfl,q L qs _ n6 U j (af.fresh ag l) ac ee (wZ b zl zn aw ay am az ho) ?_ ?_ (s9 _ _ (s8 _ _ ag)) (af.same λa u h=>s9 _ _ (s8 _ _ h))⟩
  ·rw[ta,ho.len];exact m0
  ·rw[ta,ho.len];exact m1
open PyProof.Rows hiding K lo
abbrev Xk:Stmt:=top 17
abbrev Yd:Stmt:=top 18
abbrev WI:Stmt:=top 19
abbrev MC:Stmt:=top 20
abbrev yL:Stmt:=top 21
abbrev KL:Stmt:=top 22
abbrev Z6:Stmt:=top 23
def nd1(x:Str):[x].Nodup:=by simp
structure Qn(K:zdM)(mg:Str->Option Value):Prop where
 isi:mg "isinstance"=none
 str:mg "str"=none
 all:mg "all"=none
 enu:mg "enumerate"=none
 sum:mg "sum"=none
 lets:∃t,mg "LETTERS"=some (.str xG t)
 lgst:∃t,mg "LONGEST_NAME"=some (.int 8 t)
 mp:∃t,mg "MOST_PLACES"=some (.int 14 t)
 mr:∃t,mg "MOST_ROADS"=some (.int 40 t)
 kss:zaN K (.type "str") (.type "str")=some true
 ktt:zaN K (.type "tuple") (.type "tuple")=some true
 kll:zaN K (.type "list") (.type "list")=some true
def Dw(c:Nat):(!(Builtin.Str.occurrences xG ⟨#[c]⟩ 0 xG.length 1).isEmpty)=Qa c:=by
 rw[StrLaws.found_one,Nz];unfold Qa;rw[zaq];simp only[decide_eq_true_eq,zan,tc,zai];constructor
 ·rintro⟨k,_,rfl⟩;omega
 ·intro h;exact⟨c - 97,by omega,by omega⟩
def Ny(f:Nat->Bool)(l:List Nat)(i c:Nat)(h:l[i]?=some c):(l.take i).map f++[f c]=(l.take (i+1)).map f:=by
 rw[tz,h];simp
inductive Be(vs:List V)(H:Hp)(Q:VK):Prop
 | mk (z:_):vs=[.str z]->jB z=true->(∀H',qi H H'->Q (.bl true) H')->Be vs H Q
def Hy:Sp:=λa H Q _=>Be a H Q
inductive A9(vs:List V)(H:Hp)(Q:VK):Prop
 | mk (q:Addr) (zs:List Str):vs=[.ref q]->H q=some (.tup (zs.map V.str))->((∀z∈zs,jB z=true))->(zs.length<=1000)->(∀H',qi H H'->Q (.bl true) H')->A9 vs H Q
def Hv:Sp:=λa H Q _=>A9 a H Q
inductive Ka(vs:List V)(H:Hp)(Q:VK):Prop
 | mk (p q:Addr) (r:Str×List Str):vs=[.ref p]->H p=some (.tup [.str r.1,.ref q])->H q=some (.tup (r.2.map V.str))->jB r.1=true->((∀z∈r.2,jB z=true))->(r.2.length<=1000)->(∀H',qi H H'->Q (.bl true) H')->Ka vs H Q
def Ek:Sp:=λa H Q _=>Ka a H Q
structure jC(H:Hp)(l:Addr)(ps:List Addr)(rs:List (Str×List Str)):Prop where
 at_:H l=some (.lst (ps.map V.ref))
 rows:qY H ps rs
 good:qf rs
 pos:0 < rs.length
 le:rs.length<=14
def jC.mono(h:jC H l ps rs)(s:qi H H'):jC H' l ps rs:=⟨s _ _ h.at_,h.rows.mono s,h.good,h.pos,h.le⟩
def qf.names(h:qf rs):∀r∈rs,∀z∈r.2,jB z=true:=λr hr z a=>by
 obtain⟨b,d,rfl⟩:=tc.mp (h.to r hr z a);exact h.nm b d
def qf.len(h:qf rs):∀r∈rs,r.2.length<=40:=λr hr=>by
 refine tR ?_ h.few;have:∀(rs:List (Str×List Str)),r∈rs->r.2.length<=(rs.map λr=>r.2.length).sum:=by
  intro rs;induction rs with
  | nil=>intro h;cases h
  | cons a rs b=>
   intro h;rw[tM,zaH];rcases tL.mp h with rfl | h
   ·omega
   ·have:=b h;omega
 exact this rs hr
def qY.item{H:Hp}{ps:List Addr}{rs:List (Str×List Str)}(h:qY H ps rs){i:Nat}{x:V}(d:(ps.map V.ref)[i]?=some x):∃p q r,x=.ref p/\rs[i]?=some r/\r∈rs/\H p=some (.tup [.str r.1,.ref q])/\H q=some (.tup (r.2.map V.str)):=by
 rw[tw]at d;cases e:ps[i]? with
 | none=>rw[e]at d;cases d
 | some p=>
  rw[e]at d;have j:i < rs.length:=by
   have:=(td.mp e).1;rw[h.1]at this;exact this
  obtain⟨q,a,b⟩:=h.2 i p _ e (tr j);exact⟨p,q,_,(tA.inj d).symm,tr j,zbH j,a,b⟩
inductive yx(vs:List V)(H:Hp)(Q:VK):Prop
 | mk (l:Addr) (ps:List Addr) (rs:List (Str×List Str)):vs=[.ref l]->jC H l ps rs->(∀H',qi H H'->Q .non H')->yx vs H Q
def vO:Sp:=λa H Q _=>yx a H Q
inductive Kc(vs:List V)(H:Hp)(Q:VK):Prop
 | mk (l:Addr) (zs:List Str):vs=[.ref l]->H l=some (.lst (zs.map V.str))->zs.Nodup->(zs.length<=1000)->(∀H',qi H H'->Q .non H')->Kc vs H Q
def Em:Sp:=λa H Q _=>Kc a H Q
inductive yA(vs:List V)(H:Hp)(Q:VK):Prop
 | mk (q l:Addr) (es zs:List Str):vs=[.ref q,.ref l]->H q=some (.tup (es.map V.str))->H l=some (.lst (zs.map V.str))->es.Nodup->((∀z∈es,z∈zs))->(es.length<=900)->(∀H',qi H H'->Q .non H')->yA vs H Q
def Kp:Sp:=λa H Q _=>yA a H Q
def Jz{kvs:List (qF×V)}(h:¬k∈kvs.map (·.1)):qO kvs k=none:=by
 cases e:qO kvs k with
 | none=>rfl
 | some v=>exact absurd (NR e) h
def Q3(zs:List Str):(zs.map V.str).all Zx=true:=by
 rw[zcj,zaT];intro z _;rfl
def VZ{z:Str}{zs:List Str}(h:z∈zs):J2 (.str z) (zs.map V.str)=true:=by
 unfold J2;rw[zaS];exact⟨.str z,tc.mpr ⟨z,h,rfl⟩,by show (z==z)=true;simp⟩
def Cv:qm ["thing"] ["thing"] (qg Z7):=Qm
def VN(F:jL K "is_name" "is_name" Z7 f a)(B:QB mg)(T:Qn K mg):qp P w K mg base jh 1 f a ["thing"] Hy:=by
 refine F.okK Cv λH Q E hr h=>?_;obtain⟨z,rfl,b,q⟩:=h;obtain⟨_,a⟩:=T.lets;obtain⟨_,d⟩:=T.lgst;refine⟨_,qb (qJ (Qk (jH (qu jR (by rfl) T.isi boot_isinstance (jQ (jv 0) (Js (v:=.ty "str") (by rfl) T.str boot_str rfl))))) (qe (qr Qz)) qt)
  (qb (qJ (Zw (qo JD (qu Zp (by rfl) B.len boot_len (qT (jv 0))) qk)
    (Ji (qo J7 (qu Zp (by rfl) B.len boot_len (qT (jv 0))) (QC (v:=.int 8) (by rfl) d ⟨_,rfl⟩)))).pt (qe (qr Qz)) qt)
  (qe (qr (qu (Yr rfl) (by rfl) T.all boot_all (qT (jw (N':=["sign"]) (ix:=[none]) (RB (jv 0)) (λ_ _ _ fp _=>
   ⟨qz 0,qS,Qe ww (jv 0) (QC (v:=.str xG) (by rfl) a ⟨_,rfl⟩) (by with_unfolding_all rfl)⟩))))))),?_⟩
 have a:=b;unfold jB at a;simp only[zan,decide_eq_true_eq]at a;obtain⟨⟨n1,n8⟩,d⟩:=a;have a:z.length<=zdR:=zac (qh (by omega));refine⟨_,rfl,_,_,_,_,rfl,rfl,.str z,T.kss,_,rfl,jp ?_⟩;refine⟨_,rfl,z,rfl,a,_,_,rfl,rfl,_,rfl,?_⟩;refine kC (λh=>?_) (λh=>?_)
 ·exact absurd (of_decide_eq_true h) (by omega)
 ·refine⟨_,rfl,z,rfl,a,_,_,rfl,rfl,_,rfl,?_⟩;refine kC (λa=>?_) (λa=>?_)
  ·exact absurd (of_decide_eq_true a) (by show ¬(8:Int) < (z.length:Int);omega)
  ·refine⟨_,rfl,z,rfl,λD e=>?_⟩;refine xA (λi a b=>∃v,a=[v]/\b=upd H D (.lst (((z.cps.toList.take i).map Qa).map V.bl))) ⟨none,rfl,rfl⟩ ?_ ?_
   ·rintro i c a b j ⟨v,rfl,rfl⟩;refine⟨_,rfl,_,_,rfl,rfl,_,qa,?_,?_⟩
    ·rw[ta,ta,tE];exact zaK (zcn _ _) (qh (show z.cps.toList.length<=1000 by rw[zaz];exact tR n8 (by decide)))
    ·refine⟨_,rfl,?_⟩;rw[jx,Dw];have l:z.cps.toList[i]?=some c:=by simpa using j
     rw[<-Ny Qa z.cps.toList i c l,tj];rfl
   ·rintro a b ⟨v,rfl,rfl⟩;refine⟨D,_,rfl,.of qa,?_⟩;have a:z.cps.toList.take z.cps.size=z.cps.toList:=tu (by simp);have b:(z.cps.toList.map Qa).all id=true:=by rw[zcj];exact d
    rw[a,b];exact q _ (qd e)
def Cs:qm ["thing"] ["thing"] (qg Xk):=Qm
def MT(F:jL K "is_tuple_of_names" "is_tuple_of_names" Xk f a)(B:QB mg)(G:j7 mg)(T:Qn K mg)(hN:qW K mg "is_name" Z7 ["thing"] b d):qp P w K mg base jh 2 f a ["thing"] Hv:=by
 have a:=pin P w mg base (VN hN.fn B T);refine F.okK Cs λH Q E hr h=>?_;obtain⟨x,j,rfl,b,r,_,q⟩:=h;refine⟨_,qe (qr (zk (qu jR (by rfl) T.isi boot_isinstance (jQ (jv 0) (Js (v:=.ty "tuple") (by rfl) G.tup boot_tuple rfl)))
  (XP (qu (Yr rfl) (by rfl) T.all boot_all (qT (jw (N':=["part"]) (ix:=[none]) (zj (jv 0)) (λ_ l u fp _=>
   ⟨qz 0,qS,qD hN a (qT (jv 0))⟩))))))),?_⟩
 refine⟨_,rfl,_,_,_,_,rfl,rfl,.tup b,T.ktt,_,rfl,QA ⟨_,rfl,x,rfl,⟨_,.of b⟩,λD p=>?_⟩⟩;refine Ua (K:=K) (a:=x) (xs:=j.map V.str) (λi d a=>∃v,d=[v]/\qi H a/\a D=some (.lst ((zdl i true).map V.bl))) ⟨none,rfl,qd p,qa⟩ (λi d a _ ⟨_,_,s,_⟩=>.of (s _ _ b)) ?_ ?_
 ·rintro i y d a b ⟨v,rfl,m,o⟩;rw[tw]at b;cases e:j[i]? with
  | none=>rw[e]at b;cases b
  | some z=>
   rw[e]at b;obtain rfl:=(tA.inj b).symm;have b:=(td.mp e).1;refine⟨_,rfl,z,rfl,r z (tP e),λu l=>⟨_,l _ _ o,?_,_,rfl,?_,?_⟩⟩
   ·rw[ta,zdg];exact qh (by omega)
   ·exact qi.upd (m.trans l) p
   ·rw[qa,List.replicate_succ',tj];rfl
 ·rintro d a ⟨v,rfl,m,o⟩;refine⟨D,_,rfl,.of o,?_⟩;have e:(zdl (j.map V.str).length true).all id=true:=by simp
  rw[e];exact q _ m
def Mx:qm ["thing"] ["thing"] (qg Yd):=Qm
def U6(F:jL K "is_row" "is_row" Yd f a)(B:QB mg)(G:j7 mg)(T:Qn K mg)(hN:qW K mg "is_name" Z7 ["thing"] b e)(d:qW K mg "is_tuple_of_names" Xk ["thing"] i j):qp P w K mg base jh 3 f a ["thing"] Ek:=by
 have i:=pin P w mg base (VN hN.fn B T);have j:=pin P w mg base (MT d.fn B G T hN);refine F.okK Mx λH Q E hr h=>?_;obtain⟨b,x,e,rfl,a,l,m,o,p,q⟩:=h;refine⟨_,qb (qJ (Zw (Qk (jH (qu jR (by rfl) T.isi boot_isinstance (jQ (jv 0) (Js (v:=.ty "tuple") (by rfl) G.tup boot_tuple rfl)))))
   (Ji (qo WP (qu qx (by rfl) B.len boot_len (qT (jv 0))) qk))).pt qC qt)
  (qe (qr (zk (qD hN i (qT (qU ja (jv 0) qk))) (XP (qD d j (qT (qU ja (jv 0) qk))))))),?_⟩
 refine⟨_,rfl,_,_,_,_,rfl,rfl,.tup a,T.ktt,_,rfl,jp ⟨_,rfl,b,_,rfl,.inr (.of a),rfl,_,rfl,jp ?_⟩⟩;refine⟨_,rfl,b,_,0,_,rfl,rfl,.of a,rfl,e.1,rfl,m,λ_ d=>⟨_,rfl,QA ?_⟩⟩;exact⟨_,rfl,b,_,1,_,rfl,rfl,.of (d _ _ a),rfl,x,e.2,rfl,d _ _ l,o,p,λa b=>q a (d.trans b)⟩
open PyProof.Rows hiding K lo
abbrev Fv:List Str:=["rows","number","row"]
def vR:qm Fv ["rows"] (qg WI):=Qm
def M4{P:Program}{w:World}{K:zdM}{mg:Str->Option Value}{base:Heap}{f e l m:Addr}{d o p r:zdQ}(F:jL K "need_form" "need_form" WI f d)(B:QB mg)(G:j7 mg)(T:Qn K mg)(hN:qW K mg "is_name" Z7 ["thing"] e o)(u:qW K mg "is_tuple_of_names" Xk ["thing"] l p)
  (j:qW K mg "is_row" Yd ["thing"] m r):qp P w K mg base jh 4 f d ["rows"] vO:=by
 have l:=pin P w mg base (U6 j.fn B G T hN u);obtain⟨_,m⟩:=T.mp;refine F.okK vR λH Q E hr h=>?_;obtain⟨d,e,o,rfl,g,q⟩:=h;refine⟨_,qb (qJ (Zw (Qk (jH (qu jR (by rfl) T.isi boot_isinstance (jQ (jv 0) (Js (v:=.ty "list") (by rfl) G.lst boot_list rfl)))))
   (Ji (qo QM (qu qx (by rfl) B.len boot_len (qT (jv 0))) qk))).pt qC qt)
  (qb (qJ (qo J7 (qu qx (by rfl) B.len boot_len (qT (jv 0))) (QC (v:=.int 14) (by rfl) m ⟨_,rfl⟩)) qC qt)
  (qe (qP (zJ (by rfl) T.enu (qT (jv 0))) (QH rfl (qH (qz 1) (qH (qz 2) j3)))
   (qe (qJ (Qk (jH (qD j l (qT (jv 2))))) qC qt))))),?_⟩
 have j:(e.map V.ref).length=o.length:=by rw[ta,g.rows.1]
 refine⟨_,rfl,_,_,_,_,rfl,rfl,.lst g.at_,T.kll,_,rfl,jp ⟨_,rfl,d,_,rfl,.inl (.of g.at_),rfl,_,rfl,?_⟩⟩;have j:decide (V.int (((e.map V.ref).length:Nat):Int)=V.int 0)=false:=decide_eq_false (by
  intro z;have:=V.int.inj z;have:=g.pos;omega)
 rw[j];refine jp ⟨_,rfl,d,_,rfl,.inl (.of g.at_),_,_,rfl,rfl,_,rfl,?_⟩;have j:decide ((14:Int) < (((e.map V.ref).length:Nat):Int))=false:=decide_eq_false (by
  have:=g.le;omega)
 refine kC (λz=>absurd z (by rw[j];decide)) (λ_=>?_);refine⟨_,rfl,d,rfl,⟨_,.of g.at_⟩,?_⟩;refine ZN (K:=K) (a:=d) (xs:=e.map V.ref) (λi j e=>∃v1 m,j=[some (.ref d),v1,m]/\qi H e) ⟨none,none,rfl,qi.refl H⟩ (λi j e _ ⟨_,_,_,s⟩=>.of (s _ _ g.at_)) ?_ ?_
 ·rintro i x j e r u p ⟨v1,m,rfl,d⟩;have g1:=g.mono (d.trans (qd (o:=.tup [.int (i:Nat),x]) p));obtain⟨v,y,l,rfl,_,o,a,b⟩:=g1.rows.item u;refine⟨r,_,rfl,.of qa,rfl,_,_,rfl,_,_,rfl,rfl,_,rfl,v,y,l,rfl,a,b,g.good.nm l o,g.good.names l o,tR (g.good.len l o) (by decide),λ_ l=>⟨_,rfl,jp ⟨_,_,rfl,?_⟩⟩⟩;exact(d.trans (qd p)).trans l
 ·rintro j e ⟨v1,m,rfl,d⟩;exact q e d
abbrev Io:List Str:=["order","ahead","name"]
def Ey:qm Io ["order"] (qg MC):=Qm
def QX{zs:List Str}(l:zs.Nodup)(e:zs[i]?=some z):¬(Sum.inr z:qF)∈(zs.take i).map Sum.inr:=λh=>by
 obtain⟨y,d,a⟩:=tc.mp h;have b:y=z:=Sum.inr.inj a;subst b;obtain⟨b,a⟩:=zaP d;have d:=(td.mp a).1;rw[tE]at d;have d:b < i:=by omega
 rw[zbp d]at a;have j:=(td.mp a);have a:=(td.mp e);exact absurd (j.2.trans a.2.symm) (zaJ.mp l b i j.1 a.1 d)
def VG{kvs:List (qF×V)}{k:qF}(v:V)(h:qO kvs k=none):(jD kvs k v).map (·.1)=kvs.map (·.1)++[k]:=by
 rw[QR v h,tj];rfl
def Gv(F:jL K "need_own_names" "need_own_names" MC f a):qp P w K mg base jh 1 f a ["order"] Em:=by
 refine F.okK Ey λH Q E hr h=>?_;obtain⟨b,j,rfl,m,r,_,q⟩:=h;refine⟨_,qb (qG 1 jX)
  (qe (qP (qy (jv 0)) (qz 2)
   (qb (qJ (QY (ZL (jv 2) (jv 1))) qC qt) (qe (jl (jv 1) (jv 2) Qz))))),?_⟩
 intro D l;refine⟨_,rfl,b,rfl,⟨_,.of (ql m l)⟩,?_⟩;refine jb (K:=K) (a:=b) (xs:=j.map V.str) (λi d a=>∃v kvs,d=[some (.ref b),some (.ref D),v]/\qi H a/\a D=some (.dK kvs)/\kvs.map (·.1)=(j.take i).map Sum.inr) ⟨none,[],rfl,qd l,qa,rfl⟩ (λi d a _ ⟨_,_,_,s,_⟩=>.of (s _ _ m)) ?_ ?_
 ·rintro i x d a b ⟨v,kvs,rfl,m,p,o⟩;rw[tw]at b;cases e:j[i]? with
  | none=>rw[e]at b;cases b
  | some z=>
   rw[e]at b;obtain rfl:=(tA.inj b).symm;have b:=(td.mp e).1;have b:qO kvs (Sum.inr z:qF)=none:=Jz (by rw[o];exact QX r e);have j:ju a D (.str z) none:=by
    have:=ju.k (k:=(Sum.inr z:qF)) p;rw[b]at this;exact this
   have lk:kvs.length < zdR:=by
    have:=congrArg zav o;rw[ta,ta,tE]at this;exact qh (by omega)
   refine⟨_,rfl,_,rfl,D,none,rfl,j,_,rfl,jp ?_⟩;refine⟨_,rfl,_,rfl,D,_,rfl,Jl.k (k:=(Sum.inr z:qF)) p lk,_,_,rfl,qi.upd m l,qa,?_⟩;rw[VG _ b,o,tz,e,tj];rfl
 ·rintro d a ⟨v,kvs,rfl,m,_⟩;exact q a m
abbrev Fx:List Str:=["ends","order","ahead","name"]
def CB:qm Fx ["ends","order"] (qg yL):=Qm
def y2(F:jL K "need_ends" "need_ends" yL f a):qp P w K mg base jh 1 f a ["ends","order"] Kp:=by
 refine F.okK CB λH Q E hr h=>?_;obtain⟨x,p,l,u,rfl,b,B,C,J,_,q⟩:=h;refine⟨_,qb (qG 2 jX)
  (qe (qP (zj (jv 0)) (qz 3)
   (qb (qJ (qo QS (jv 3) (jv 1) (by with_unfolding_all rfl)) qC qt)
   (qb (qJ (QY (ZL (jv 3) (jv 2))) qC qt) (qe (jl (jv 2) (jv 3) Qz)))))),?_⟩
 intro D m;refine⟨_,rfl,x,rfl,⟨_,.of (ql b m)⟩,?_⟩;refine xr (K:=K) (a:=x) (xs:=l.map V.str) (λi d a=>∃v kvs,d=[some (.ref x),some (.ref p),some (.ref D),v]/\qi H a/\a D=some (.dK kvs)/\kvs.map (·.1)=(l.take i).map Sum.inr) ⟨none,[],rfl,qd m,qa,rfl⟩ (λi d a _ ⟨_,_,_,s,_⟩=>.of (s _ _ b)) ?_ ?_
 ·rintro i y d a b ⟨v,kvs,rfl,j,r,o⟩;rw[tw]at b;cases e:l[i]? with
  | none=>rw[e]at b;cases b
  | some z=>
   rw[e]at b;obtain rfl:=(tA.inj b).symm;have b:=(td.mp e).1;have b:qO kvs (Sum.inr z:qF)=none:=Jz (by rw[o];exact QX C e);have l:ju a D (.str z) none:=by
    have:=ju.k (k:=(Sum.inr z:qF)) r;rw[b]at this;exact this
   have lk:kvs.length < zdR:=by
    have:=congrArg zav o;rw[ta,ta,tE]at this;exact qh (by omega)
   refine⟨_,rfl,_,rfl,p,_,rfl,.inl (.of (j _ _ B)),rfl,Q3 u,_,rfl,?_⟩;rw[VZ (J z (tP e))];refine jp ⟨_,rfl,_,rfl,D,none,rfl,l,_,rfl,jp ?_⟩;refine⟨_,rfl,_,rfl,D,_,rfl,Jl.k (k:=(Sum.inr z:qF)) r lk,_,_,rfl,qi.upd j m,qa,?_⟩;rw[VG _ b,o,tz,e,tj];rfl
 ·rintro d a ⟨v,kvs,rfl,j,_⟩;exact q a j
abbrev Iv:List Str:=["rows","many"]
def Bt:qm Iv ["rows"] (qg KL):=Qm
def C5{P:Program}{w:World}{K:zdM}{mg:Str->Option Value}{base:Heap}{f:Addr}{d:zdQ}(F:jL K "need_few_roads" "need_few_roads" KL f d)(B:QB mg)(T:Qn K mg):qp P w K mg base jh 1 f d ["rows"] vO:=by
 obtain⟨_,p⟩:=T.mr;refine F.okK Bt λH Q E hr h=>?_;obtain⟨l,o,m,rfl,g,q⟩:=h;refine⟨_,qb (qG 1 (qu (ZX rfl) (by rfl) T.sum boot_sum (qT (jw (N':=["row"]) (ix:=[none]) (te:=NE (λr H Q=>∃d j,r=[.ref d]/\(Q6 K H d j\/zZ K H d j)/\Q (.int j.length) H) (qB (Zr (YN K) (qw 0) (tC (.int 1))) jJ)) (qy (jv 0)) (λ_ _ _ fp _=>
   ⟨qz 0,qS,qu qx (by rfl) B.len boot_len (qT (qU ja (jv 0) qk))⟩)))))
  (qe (qJ (qo J7 (jv 1) (QC (v:=.int 40) (by rfl) p ⟨_,rfl⟩)) qC qt)),?_⟩
 refine⟨_,rfl,l,rfl,⟨_,.of g.at_⟩,λD d=>?_⟩;refine jc (K:=K) (a:=l) (xs:=o.map V.ref) (λi j l=>∃v,j=[v]/\l=upd H D (.lst (((m.take i).map λp=>p.2.length).map λn=>V.int ((n:Nat):Int)))) ⟨none,rfl,rfl⟩ (λi j l _ ⟨_,_,e⟩=>e▸.of (ql g.at_ d)) ?_ ?_
 ·rintro i x j l u ⟨v,rfl,rfl⟩;obtain⟨y,C,p,rfl,r,_,a,b⟩:=g.rows.item u;have p:=(td.mp r).1;refine⟨_,rfl,y,_,1,_,rfl,rfl,.of (ql a d),rfl,C,_,rfl,.inr (.of (ql b d)),_,qa,?_,_,rfl,?_⟩
  ·rw[ta,ta,tE];have:=g.le;exact qh (by omega)
  ·rw[jx,tz,r,tj,tj,ta];rfl
 ·rintro j l ⟨v,rfl,rfl⟩;have e:m.take (o.map V.ref).length=m:=tu (by rw[ta,g.rows.1];exact tf _);rw[e];refine⟨D,_,rfl,.of qa,zaK g.good.few (by decide),?_⟩;refine⟨_,rfl,_,_,rfl,rfl,_,rfl,?_⟩;have:=g.good.few;refine kC (λz=>absurd (of_decide_eq_true z) ?_) (λ_=>q _ (qd d));show ¬(40:Int) < _;omega
abbrev Fq:List Str:=["rows","order","row"]
def Xj:qm Fq ["rows"] (qg Z6):=Qm
structure Wp(K:zdM)(mg:Str->Option Value):Prop where
 nm:∃f fd,qW K mg "is_name" Z7 ["thing"] f fd
 tn:∃f fd,qW K mg "is_tuple_of_names" Xk ["thing"] f fd
 rw:∃f fd,qW K mg "is_row" Yd ["thing"] f fd
 fo:∃f fd,qW K mg "need_form" WI ["rows"] f fd
 ow:∃f fd,qW K mg "need_own_names" MC ["order"] f fd
 en:∃f fd,qW K mg "need_ends" yL ["ends","order"] f fd
 fw:∃f fd,qW K mg "need_few_roads" KL ["rows"] f fd
def MX{P:Program}{w:World}{K:zdM}{mg:Str->Option Value}{base:Heap}{f:Addr}{d:zdQ}(F:jL K "need_rows" "need_rows" Z6 f d)(B:QB mg)(G:j7 mg)(T:Qn K mg)(N:Wp K mg):qp P w K mg base jh 5 f d ["rows"] vO:=by
 obtain⟨_,_,l⟩:=N.nm;obtain⟨_,_,m⟩:=N.tn;obtain⟨_,_,o⟩:=N.rw;obtain⟨_,_,d⟩:=N.fo;obtain⟨_,_,j⟩:=N.ow;obtain⟨_,_,r⟩:=N.en;obtain⟨_,_,u⟩:=N.fw;have y:=pin P w mg base (M4 d.fn B G T l m o);have z:=pin P w mg base (Gv j.fn);have GE:=pin P w mg base (y2 r.fn);have C:=pin P w mg base (C5 u.fn B T);refine F.okK Xj λH Q E hr h=>?_;obtain⟨m,p,l,rfl,g,q⟩:=h;refine⟨_,qb (q5 (qD d y (qT (jv 0))))
  (qb (Qx (i:=1) (N':=["row"]) (ix:=[none]) (te:=Zr (YN K) (qw 0) (tC (.int 0))) (hN:=Xj.nd) (qy (jv 0)) (λ_ y o fp _=>
   ⟨qz 0,qS,qU ja (jv 0) qk⟩))
  (qb (q5 (qD j z (qT (jv 1))))
  (qb (qP (qy (jv 0)) (qz 2)
   (qe (q5 (qD r GE (jQ (qU ja (jv 2) qk) (jv 1))))))
  (qe (q5 (qD u C (qT (jv 0)))))))),?_⟩
 refine⟨_,rfl,m,p,l,rfl,g,λO U=>?_⟩;have g1:=g.mono U;refine⟨_,rfl,m,rfl,⟨_,.of g1.at_⟩,λD z=>?_⟩;refine jc (K:=K) (a:=m) (xs:=p.map V.ref) (λi d j=>∃v,d=[v]/\j=upd O D (.lst (((l.take i).map (·.1)).map V.str))) ⟨none,rfl,rfl⟩ (λi d j _ ⟨_,_,e⟩=>e▸.of (ql g1.at_ z)) ?_ ?_
 ·rintro i x d j C ⟨v,rfl,rfl⟩;obtain⟨J,Y,r,rfl,L,u,a,b⟩:=g1.rows.item C;have hi:=(td.mp L).1;refine⟨_,rfl,J,_,0,_,rfl,rfl,.of (ql a z),rfl,_,qa,?_,_,rfl,?_⟩
  ·rw[ta,ta,tE];have:=g.le;exact qh (by omega)
  ·rw[jx,tz,L,tj,tj];rfl
 ·rintro d j ⟨v,rfl,rfl⟩;have e:l.take (p.map V.ref).length=l:=tu (by rw[ta,g.rows.1];exact tf _);rw[e];refine⟨_,rfl,D,l.map (·.1),rfl,qa,g.good.nd,by rw[ta];have:=g.le;omega,λo y=>?_⟩;have sD:qi O o:=(qd z).trans y;have z:o D=some (.lst ((l.map (·.1)).map V.str)):=y _ _ qa;have g2:=g1.mono sD;refine⟨_,rfl,m,rfl,⟨_,.of g2.at_⟩,?_⟩;refine jb (K:=K) (a:=m) (xs:=p.map V.ref) (λi d j=>∃v,d=[some (.ref m),some (.ref D),v]/\qi o j) ⟨none,rfl,qi.refl o⟩ (λi d j _ ⟨_,_,s⟩=>.of (s _ _ g2.at_)) ?_ ?_
  ·rintro i x d j C ⟨v,rfl,o⟩;obtain⟨J,Y,r,rfl,L,u,a,b⟩:=(g2.mono o).rows.item C;refine⟨_,rfl,J,_,1,_,rfl,rfl,.of a,rfl,_,rfl,Y,D,r.2,l.map (·.1),rfl,b,o _ _ z,g.good.rd r u,g.good.to r u,tR (g.good.len r u) (by decide),λu r=>⟨_,rfl,o.trans r⟩⟩
  ·rintro d j ⟨v,rfl,o⟩;exact⟨_,rfl,m,p,l,rfl,g2.mono o,λu r=>q u (((U.trans sD).trans o).trans r)⟩
open PyProof.Rows hiding K lo
abbrev vV:Stmt:=jW (top 24) 0
abbrev YX:Stmt:=jW (top 24) 1
abbrev VB:Stmt:=jW (top 24) 2
def jr(rs:List (Str×List Str))(r:Str×List Str):List Str:=(rs.map (·.1)).filter λz=>J2 (.str z) (r.2.map V.str)
inductive jt(CG:Addr)(H:Hp)(a:Addr)(rs:List (Str×List Str)):Prop
 | mk (dx lo rd:Addr) (kvs:List (qF×V)):H a=some (.ins CG dx [("order",.ref lo),("roads",.ref rd)])->H lo=some (.lst ((rs.map (·.1)).map V.str))->H rd=some (.dK kvs)->(∀r∈rs,∃q,qO kvs (Sum.inr r.1)=some (.ref q)/\H q=some (.lst ((jr rs r).map V.str)))->jt CG H a rs
def jt.mono(h:jt d H a rs)(s:qi H H'):jt d H' a rs:=by
 obtain⟨d,lo,e,kvs,i,j,l,m⟩:=h;exact⟨d,lo,e,kvs,s _ _ i,s _ _ j,s _ _ l,λd hr=>let ⟨q,a,b⟩:=m d hr;⟨q,a,s _ _ b⟩⟩
def jC.fr(h:jC H l ps rs)(d:H x=some (.ins C j fs))(s:Fr H x H'):jC H' l ps rs:=by
 refine⟨s _ _ h.at_ (λe=>?_),⟨h.rows.1,λi j m o p=>?_⟩,h.good,h.pos,h.le⟩
 ·have:=h.at_;rw[e,d]at this;cases this
 ·obtain⟨q,a,b⟩:=h.rows.2 i j m o p;exact⟨q,s _ _ a (λe=>by rw[e,d]at a;cases a),s _ _ b (λe=>by rw[e,d]at b;cases b)⟩
structure NM(K:zdM)(mg:Str->Option Value)(CG f:Addr)(fd:zdQ):Prop where
 cl:Xc K CG
 mkr:Mk K CG f
 ns:mg "Ground"=some (.ref CG)
 no:Qu K CG "order"
 nr:Qu K CG "roads"
 fn:jL K "__init__" "Ground.__init__" vV f fd
 bi:jZ K fd ["self","rows"] []
def nor:¬(zdN "order")=zdN "roads":=by decide+kernel
def Ih(v:V):Zf (zdN "order") v []=[(zdN "order",v)]:=rfl
def Ig(v u:V):Zf (zdN "roads") u [(zdN "order",v)]=[(zdN "order",v),(zdN "roads",u)]:=by
 unfold Zf;rw[if_neg nor];rfl
def Ix(v u:V):([(zdN "order",v),(zdN "roads",u)]:List (Str×V)).lookup (zdN "order")=some v:=by simp [zaZ]
def He(v u:V):([(zdN "order",v),(zdN "roads",u)]:List (Str×V)).lookup (zdN "roads")=some u:=by
 have e:((zdN "roads")==(zdN "order"))=false:=by decide+kernel
 simp [zaZ,e]
inductive UQ(CG:Addr)(vs:List V)(H:Hp)(Q:VK):Prop
 | mk (x dx l:Addr) (ps:List Addr) (rs:List (Str×List Str)):vs=[.ref x,.ref l]->jC H l ps rs->H x=some (.ins CG dx [])->(∀H',jt CG H' x rs->Fr H x H'->Q .non H')->UQ CG vs H Q
def JM(a:Addr):Sp:=λb H Q _=>UQ a b H Q
inductive WE(CG:Addr)(vs:List V)(H:Hp)(Q:VK):Prop
 | mk (a:Addr) (rs:List (Str×List Str)):vs=[.ref a]->jt CG H a rs->(∀l,H l=none->Q (.ref l) (upd H l (.lst ((rs.map (·.1)).map V.str))))->WE CG vs H Q
def UP(a:Addr):Sp:=λb H Q _=>WE a b H Q
inductive UR(CG:Addr)(vs:List V)(H:Hp)(Q:VK):Prop
 | mk (a:Addr) (rs:List (Str×List Str)) (r:Str×List Str):vs=[.ref a,.str r.1]->jt CG H a rs->(r∈rs)->jB r.1=true->(∀H1 l,qi H H1->H1 l=none->Q (.ref l) (upd H1 l (.lst ((jr rs r).map V.str))))->UR CG vs H Q
def Me(a:Addr):Sp:=λb H Q _=>UR a b H Q
abbrev nGI:List Str:=["self","rows","row"]
def CA:qm nGI ["self","rows"] (qg vV):=Qm
def zB(C:NM K mg r f d)(B:QB mg)(G:j7 mg)(T:Qn K mg)(N:Wp K mg)(j:qW K mg "need_rows" Z6 ["rows"] l m):qp P w K mg base jh 6 f d ["self","rows"] (JM r):=by
 have l:=pin P w mg base (MX j.fn B G T N);refine C.fn.okJ CA (λd H Q E h=>?_) (λ_ A _ s H d Q E hr h=>?_)
 ·obtain⟨x,p,o,O,d,rfl,_⟩:=h;rfl
 ·obtain⟨x,p,o,O,d,rfl,g,hx,q⟩:=h;refine⟨_,qb (q5 (qD j l (qT (jv 1))))
   (qb (VX (jv 0) (jw (N':=["row"]) (ix:=[none]) (te:=Zr (YN K) (qw 0) (tC (.int 0))) (qy (jv 1)) (λC j H2 fp l=>
    ⟨qz 0,qS,qU ja (jv 0) qk⟩)) rfl)
   (qb (VX (jv 0) jX rfl)
   (qe (qP (qy (jv 1)) (ji (i:=2) CA.nd rfl (Or.inr rfl))
    (qe (jl (QI (jv 0) rfl) (qU ja (jv 2) qk) (jw (N':=["name","row"]) (ix:=[none,some 2]) (tt:=zx (Zr (BH K false) (qw 0) (Zr (YN K) (qw 1) (tC (.int 1))))) (qy (QI (jv 0) rfl)) (λC j H2 fp l=>
      ⟨qz 0,jP (qo Jv (jv 0) (qU ja (jv 1) qk) (by with_unfolding_all rfl)),jv 0⟩)))))))),?_⟩
  refine⟨_,rfl,o,O,d,rfl,g,λm j=>?_⟩;have g1:=g.mono j;have aq:Fr H x m:=λb u h _=>j _ _ h;have am:=j _ _ hx;refine⟨_,rfl,o,rfl,⟨_,.of g1.at_⟩,λlo U=>?_⟩;have an:lo≠x:=λe=>by rw[e,am]at U;cases U
  refine jc (K:=K) (a:=o) (xs:=O.map V.ref) (λi J l=>∃v,J=[v]/\l=upd m lo (.lst (((d.take i).map (·.1)).map V.str))) ⟨none,rfl,rfl⟩ (λi J l _ ⟨_,_,e⟩=>e▸.of (ql g1.at_ U)) ?_ ?_
  ·rintro i y J l L ⟨v,rfl,rfl⟩;obtain⟨p',_,j,rfl,Y,ar,a,b⟩:=g1.rows.item L;have hi:=(td.mp Y).1;refine⟨_,rfl,p',_,0,_,rfl,rfl,.of (ql a U),rfl,_,qa,?_,_,rfl,?_⟩
   ·rw[ta,ta,tE];have:=g.le;exact qh (by omega)
   ·rw[jx,tz,Y,tj,tj];rfl
  rintro J l ⟨v,rfl,rfl⟩;have e:d.take (O.map V.ref).length=d:=tu (by rw[ta,g.rows.1];exact tf _);rw[e];have ag:Fr H x (upd m lo (.lst ((d.map (·.1)).map V.str))):=aq.new U;have ah:upd m lo (.lst ((d.map (·.1)).map V.str)) lo=some (.lst ((d.map (·.1)).map V.str)):=qa;have ai:upd m lo (.lst ((d.map (·.1)).map V.str)) x=some (.ins r p []):=ql am U;generalize upd m lo (.lst ((d.map (·.1)).map V.str))=H2 at ag ah ai;refine⟨_,rfl,x,r,p,[],rfl,ai,C.cl,C.no,by decide,?_⟩;rw[Ih];intro m U;have aj:m≠x:=λe=>by rw[e,qa]at U;cases U
  have ak:H2 m=none:=by rw[qc aj]at U;exact U
  have ao:m≠lo:=λe=>by rw[e,ah]at ak;cases ak
  have ap:H m=none:=ag.fresh ai ak;refine⟨_,rfl,x,r,p,_,rfl,ql qa U,C.cl,C.nr,by show 1 < 1000;decide,?_⟩;rw[Ig];have U:Fr H x (upd (upd (upd H2 x (.ins r p [("order",.ref lo)])) m (.dK [])) x (.ins r p [("order",.ref lo),("roads",.ref m)])):=((ag.at_d).own ap).at_d;have g5:=g.fr hx U;refine⟨_,rfl,o,rfl,⟨_,.of g5.at_⟩,?_⟩;refine jb (K:=K) (a:=o) (xs:=O.map V.ref) (λi J l=>∃v kvs,J=[some (.ref x),some (.ref o),v]/\l x=some (.ins r p [("order",.ref lo),("roads",.ref m)])/\l lo=some (.lst ((d.map (·.1)).map V.str))/\l m=some (.dK kvs)/\
   kvs.map (·.1)=((d.map (·.1)).take i).map Sum.inr/\(∀j∈d.take i,∃q,qO kvs (Sum.inr j.1)=some (.ref q)/\l q=some (.lst ((jr d j).map V.str)))/\Fr H x l)
   ⟨none,[],rfl,qa,?_,?_,rfl,λj h=>(nomatch h),U⟩ (λi J l _ ⟨_,_,_,_,_,_,_,_,fr⟩=>.of (g.fr hx fr).at_) ?_ ?_
  ·rw[qc an,qc (Ne.symm ao),qc an];exact ah
  ·rw[qc aj];exact qa
  ·rintro i y J l L ⟨v,kvs,rfl,aa,ab,ac,ek,hv,fr⟩;have o:=g.fr hx fr;obtain⟨al,qq,j,rfl,Y,ar,a,b⟩:=o.rows.item L;have hi:=(td.mp Y).1;have o:=g.le;refine⟨_,rfl,x,r,p,_,_,rfl,aa,C.cl,C.no,Ix _ _,lo,rfl,⟨_,.of ab⟩,λD o=>?_⟩;refine jc (K:=K) (a:=lo) (xs:=(d.map (·.1)).map V.str) (λU ae af=>∃v0,ae=[v0,some (.ref al)]/\af=upd l D (.lst ((((d.map (·.1)).take U).filter λz=>J2 (.str z) (j.2.map V.str)).map V.str))) ⟨none,rfl,rfl⟩
    (λU ae af _ ⟨_,_,e⟩=>e▸.of (ql ab o)) ?_ ?_
   ·rintro U y ae af L ⟨v0,rfl,rfl⟩;rw[tw]at L;cases e:(d.map (·.1))[U]? with
    | none=>rw[e]at L;cases L
    | some z=>
     rw[e]at L;obtain rfl:=(tA.inj L).symm;refine⟨_,rfl,_,rfl,al,_,1,_,rfl,rfl,.of (ql a o),rfl,qq,_,rfl,.inr (.of (ql b o)),rfl,Q3 _,_,rfl,?_⟩;have et:((d.map (·.1)).take (U+1)).filter (λz=>J2 (.str z) (j.2.map V.str))=((d.map (·.1)).take U).filter (λz=>J2 (.str z) (j.2.map V.str))++if J2 (.str z) (j.2.map V.str)=true then [z] else []:=by
      rw[tz,e,zay];congr 1;cases L:J2 (.str z) (j.2.map V.str)
      ·simp [L]
      ·simp [L]
     rw[et];show if J2 (.str z) (j.2.map V.str)=true then _ else _
     cases L:J2 (.str z) (j.2.map V.str) with
     | true=>
      refine QA ⟨_,rfl,_,qa,?_,_,rfl,?_⟩
      ·rw[ta];refine qh (tR (zas _ _) ?_);rw[tE,ta];omega
      ·rw[jx,if_pos rfl,tj];rfl
     | false=>
      refine jp ⟨_,rfl,?_⟩;rw[if_neg tI,zak]
   ·rintro ae af ⟨v0,rfl,rfl⟩;have L:((d.map (·.1)).take ((d.map (·.1)).map V.str).length).filter (λz=>J2 (.str z) (j.2.map V.str))=jr d j:=by
     rw[ta,tu (tf _)];rfl
    rw[L];have nD:∀{c:Addr} {L:HO},l c=some L->c≠D:=λh e=>by rw[e,o]at h;cases h
    have L:(d.map (·.1))[i]?=some j.1:=by rw[tw,Y];rfl
    have U:qO kvs (Sum.inr j.1:qF)=none:=Jz (by rw[ek];exact QX g.good.nd L);have lk:kvs.length < zdR:=by
     have:=congrArg zav ek;rw[ta,ta,tE,ta]at this;exact qh (by omega)
    refine⟨_,rfl,x,r,p,_,_,rfl,ql aa o,C.cl,C.nr,He _ _,_,rfl,al,_,0,_,rfl,rfl,.of (ql a o),rfl,m,_,rfl,Jl.k (k:=(Sum.inr j.1:qF)) (ql ac o) lk,?_⟩;refine⟨_,jD kvs (Sum.inr j.1) (.ref D),rfl,?_,?_,qa,?_,λr' r=>?_,?_⟩
    ·rw[qc (Ne.symm aj)];exact ql aa o
    ·rw[qc (Ne.symm ao)];exact ql ab o
    ·rw[VG _ U,ek,tz,L,tj];rfl
    ·rw[tz,Y]at r;rcases tN.mp r with h | h
     ·obtain⟨Y,r,L⟩:=hv r' h;refine⟨Y,?_,?_⟩
      ·rw[Qv,if_neg]
       ·exact r
       ·intro z;rw[z,U]at r;cases r
      ·have n1:Y≠m:=λe=>by rw[e,ac]at L;cases L
       rw[qc n1];exact ql L o
     ·have r:r'=j:=by simpa using h
      subst r;refine⟨D,?_,?_⟩
      ·rw[Qv,if_pos rfl]
      ·rw[qc (Ne.symm (nD ac))];exact qa
    ·exact(fr.new o).own ap
  ·rintro J l ⟨v,kvs,rfl,aa,ab,ac,ek,hv,fr⟩;have e:d.take (O.map V.ref).length=d:=tu (by rw[ta,g.rows.1];exact tf _);rw[e]at hv;exact q l ⟨p,lo,m,kvs,aa,ab,ac,hv⟩ fr
def HW:qm ["self"] ["self"] (qg YX):=Qm
def Jw(F:jL K "names" "Ground.names" YX f d)(C:NM K mg b e i)(G:j7 mg):qp P w K mg base jh 1 f d ["self"] (UP b):=by
 refine F.okK HW λH Q E hr h=>?_;obtain⟨a,_,rfl,⟨d,lo,_,kvs,e,i,_,_⟩,q⟩:=h;refine⟨_,qe (qr (qV j6 (by rfl) G.lst boot_list (qT (QI (jv 0) rfl)))),?_⟩;exact⟨_,rfl,a,b,d,_,_,rfl,e,C.cl,C.no,Ix _ _,lo,_,rfl,.inl (.of i),q⟩
abbrev Iu:List Str:=["self","name"]
def HX:qm Iu Iu (qg VB):=Qm
def XD(F:jL K "roads_from" "Ground.roads_from" VB f b)(C:NM K mg d e i)(B:QB mg)(G:j7 mg)(T:Qn K mg)(hN:qW K mg "is_name" Z7 ["thing"] j l):qp P w K mg base jh 2 f b Iu (Me d):=by
 have e:=pin P w mg base (VN hN.fn B T);refine F.okK HX λH Q E hr h=>?_;obtain⟨a,_,b,rfl,o,p,i,q⟩:=h;refine⟨_,qb (qJ (Zw (Qk (jH (qD hN e (qT (jv 1))))) (Ji (QY (J9 (jv 1) (QI (jv 0) rfl))))).pt qC qt)
  (qe (qr (qV j6 (by rfl) G.lst boot_list (qT (qA (QI (jv 0) rfl) (jv 1)))))),?_⟩
 refine⟨_,rfl,b.1,rfl,i,λi j=>⟨_,rfl,jp ?_⟩⟩;obtain⟨l,lo,e,kvs,m,_,r,u⟩:=o.mono j;obtain⟨o,v,x⟩:=u b p;have p:ju i e (.str b.1) (some (.ref o)):=by
  have:=ju.k (k:=(Sum.inr b.1:qF)) r;rw[v]at this;exact this
 refine⟨_,rfl,_,rfl,a,d,l,_,_,rfl,m,C.cl,C.nr,He _ _,e,_,rfl,p,_,rfl,jp ?_⟩;exact⟨_,rfl,a,d,l,_,_,rfl,m,C.cl,C.nr,He _ _,_,rfl,e,_,rfl,p,o,_,rfl,.inl (.of x),λb d=>q i b j d⟩
open PyProof.Rows hiding K lo
abbrev Jb:Stmt:=top 33
abbrev z9:Stmt:=top 34
abbrev jG:=List (Str×List Str)
def QJ(rs:jG)(z:Str):List Str:=match rs.find? (λa=>decide (a.1=z)) with
 | some a=>jr rs a
 | none=>[]
def XV:∀{rs:jG} {r:Str×List Str},(rs.map (·.1)).Nodup->r∈rs->rs.find? (λq=>decide (q.1=r.1))=some r
 | a::rs,r,b,h=>by
  rw[tM,zah]at b;rcases tL.mp h with rfl | h
  ·simp [zaR]
  ·have:¬a.1=r.1:=λe=>b.1 (e▸tc.mpr ⟨r,h,rfl⟩);simp only[zaR,decide_eq_false this];exact XV b.2 h
def Qf{rs:jG}(a:(rs.map (·.1)).Nodup)(h:r∈rs):QJ rs r.1=jr rs r:=by
 unfold QJ;rw[XV a h]
def J6(h:y∈jr rs r):∃a∈rs,a.1=y:=by
 obtain⟨a,b,d⟩:=tc.mp (tZ.mp h).1;exact⟨a,b,d⟩
def Jt{zs:List Str}:J2 (.str z) (zs.map V.str)=true↔z∈zs:=by
 refine⟨λh=>?_,VZ⟩;unfold J2 at h;obtain⟨y,a,e⟩:=zaS.mp h;obtain⟨x,b,rfl⟩:=tc.mp a;have a:(x==z)=true:=e;rw[beq_iff_eq]at a;exact a▸b
def Xy(g:qf rs)(h:r∈rs):y∈jr rs r↔y∈r.2:=by
 unfold jr;rw[tZ,Jt];exact⟨λz=>z.2,λz=>⟨g.to r h y z,z⟩⟩
def Qb{rs:jG}(b:(rs.map (·.1)).Nodup):∀z∈rs.map (·.1),∀y∈QJ rs z,y∈rs.map (·.1):=λz d y a=>by
 obtain⟨_,hr,rfl⟩:=tc.mp d;rw[Qf b hr]at a;obtain⟨b,d,rfl⟩:=J6 a;exact tc.mpr ⟨b,d,rfl⟩
def Jr:∀{l m:List α},l.Nodup->(∀z∈l,z∈m)->l.length<=m.length
 | [],m,_,_=>zat _
 | a::l,m,hn,h=>by
  classical
  rw[zah]at hn;have ha:=h a tO;have:=Jr (m:=m.erase a) hn.2 λz hz=>(zbq (λ(e:z=a)=>hn.1 (e▸hz))).mpr (h z (tG _ hz));rw[zbC ha]at this;have:=zaW ha;rw[zab];omega
def WU:∀{more kvs:List (qF×V)},(more.map (·.1)).Nodup->(∀k∈more.map (·.1),¬k∈kvs.map (·.1))->jN kvs more=kvs++more
 | [],kvs,_,_=>(zak _).symm
 | a::more,kvs,b,h=>by
  rw[tM,zah]at b;have e:qO kvs a.1=none:=Jz (h a.1 (by simp));show jN (jD kvs a.1 a.2) more=_;rw[QR a.2 e,WU b.2]
  ·rw[zbB];rfl
  ·intro k d m;rw[tj]at m;rcases tN.mp m with m | m
   ·exact h k (by rw[tM];exact tG _ d) m
   ·have:k=a.1:=by simpa using m
    subst this;exact b.1 d
structure kY(K:zdM)(C:Addr)(m eJ:Str)(st:Stmt)(ps:List Str)(f:Addr)(fd:zdQ):Prop where
 fn:jL K m eJ st f fd
 me:Wn K C m f
 bi:jZ K fd ps []
def za{X:Cx}{C f:Addr}{a:zdQ}{m e:Str}{st:Stmt}{ps:List Str}{k:Nat}{sp:Sp}{o:Expr}{b:TE}{b_ pos:Pos}{pl:Sem Bool}(h:kY X.K C m e st ps f a)(c:Xc X.K C)(G:qp X.prog X.w X.K X.mg X.base jh k f a ps sp)(hr:jd k X.A)(i:JE X o b)
 (j:eval (.Call (.Attribute o m b_) [] [] pos) X.env=(do
  let d <-eval o X.env
  standAt b_.atName
  let (f,first) <-holding [d] (getMethod d m pl)
  callWith pos f first (backTo pos (starEach [] X.env)) (backToKw pos (keywordEach [] X.env))):=by rfl):
 JE X (.Call (.Attribute o m b_) [] [] pos) (Xe C m sp [] E0 b jJ):=RG i c h.me G hr h.bi .nil Qi j
def vl{X:Cx}{C f:Addr}{a:zdQ}{m i:Str}{st:Stmt}{ps:List Str}{k:Nat}{sp:Sp}{o e:Expr}{es:List Expr}{b:TE}{t:TA}{b_ pos:Pos}{pl:Sem Bool}(h:kY X.K C m i st ps f a)(c:Xc X.K C)(G:qp X.prog X.w X.K X.mg X.base jh k f a ps sp)(hr:jd k X.A)(j:JE X o b)(l:JA X (e::es) t)
 (p:starEach (e::es) X.env=(false,eval e X.env)::starEach es X.env:=by rfl) (q:(backTo pos (starEach es X.env)).any (·.1)=false:=by rfl)
 (r:eval (.Call (.Attribute o m b_) (e::es) [] pos) X.env=(do
  let d <-eval o X.env
  standAt b_.atName
  let (f,first) <-holding [d] (getMethod d m pl)
  callWith pos f first (backTo pos (starEach (e::es) X.env)) (backToKw pos (keywordEach [] X.env))):=by rfl):
 JE X (.Call (.Attribute o m b_) (e::es) [] pos) (Xe C m sp [] E0 b t):=Ar j c h.me G hr h.bi .nil Qi l p q r
structure GM(K:zdM)(mg:Str->Option Value)(CG:Addr):Prop where
 cls:∃f fd,NM K mg CG f fd
 nm:∃f fd,kY K CG "names" "Ground.names" YX ["self"] f fd
 fr:∃f fd,kY K CG "roads_from" "Ground.roads_from" VB ["self","name"] f fd
 isn:∃f fd,qW K mg "is_name" Z7 ["thing"] f fd
def jt.ins(h:jt d H a rs):∃b fs,H a=some (.ins d b fs)/\fs.lookup (zdN "names")=none/\fs.lookup (zdN "roads_from")=none:=by
 obtain⟨b,lo,_,kvs,d,_⟩:=h;refine⟨b,_,d,?_,?_⟩
 ·have b:((zdN "names")==(zdN "order"))=false:=by decide+kernel
  have d:((zdN "names")==(zdN "roads"))=false:=by decide+kernel
  simp only[zaZ];rw[b,d]
 ·have b:((zdN "roads_from")==(zdN "order"))=false:=by decide+kernel
  have d:((zdN "roads_from")==(zdN "roads"))=false:=by decide+kernel
  simp only[zaZ];rw[b,d]
def Rf{rs:jG}{i:Nat}{y:V}(h:((rs.map (·.1)).map V.str)[i]?=some y):∃r,rs[i]?=some r/\r∈rs/\y=.str r.1:=by
 rw[tw,tw]at h;cases e:rs[i]? with
 | none=>rw[e]at h;cases h
 | some r=>rw[e]at h;exact⟨r,rfl,tP e,(tA.inj h).symm⟩
def jO{zs:List Str}{i:Nat}{y:V}(h:(zs.map V.str)[i]?=some y):∃z,zs[i]?=some z/\z∈zs/\y=.str z:=by
 rw[tw]at h;cases e:zs[i]? with
 | none=>rw[e]at h;cases h
 | some z=>rw[e]at h;exact⟨z,rfl,tP e,(tA.inj h).symm⟩
def Xx(r:Str×List Str):(jr rs r).length<=rs.length:=by
 have:=zas (λz=>J2 (.str z) (r.2.map V.str)) (rs.map (·.1));rwa [ta]at this
def jV{c:Bool}{A B:Prop}(a:c=false)(h:B):if c=true then A else B:=by
 rw[a];exact jp h
def j4{c:Bool}{A B:Prop}(a:c=true)(h:A):if c=true then A else B:=by
 rw[if_pos a];exact h
def yc{kvs:List (qF×V)}:∀{i:Nat} {k:qF} {v:V},(kvs.map (·.1)).Nodup->kvs[i]?=some (k,v)->qO kvs k=some v:=by
 induction kvs with
 | nil=>intro i k v _ e;simp at e
 | cons b a d=>
  intro i k v a e;rw[tM,zah]at a;cases i with
  | zero=>
   rw[List.getElem?_cons_zero]at e;obtain rfl:=tA.inj e;exact jz rfl
  | succ i=>
   rw[List.getElem?_cons_succ]at e;have:¬b.1=k:=λz=>a.1 (z▸tc.mpr ⟨_,tP e,rfl⟩);rw[jk this];exact d a.2 e
def yO:∀(ps:List Addr) (rs:jG),qY H ps rs->∃d:List Addr,d.length=rs.length/\∀(i:Nat) (p q:Addr) (r:Str×List Str),ps[i]?=some p->rs[i]?=some r->d[i]?=some q->H p=some (.tup [.str r.1,.ref q])/\H q=some (.tup (r.2.map V.str))
 | [],[],_=>⟨[],rfl,λi p q r e=>by simp at e⟩
 | [],_::_,h=>by cases h.1
 | _::_,[],h=>by cases h.1
 | p::ps,r::rs,h=>by
  obtain⟨d,m,k⟩:=yO ps rs ⟨zcT.inj h.1,λi a b j l=>h.2 (i+1) a b (by simpa using j) (by simpa using l)⟩;obtain⟨q,a,b⟩:=h.2 0 p r rfl rfl;refine⟨q::d,by simp [m],λi m o u j l d=>?_⟩;cases i with
  | zero=>cases j;cases l;cases d;exact⟨a,b⟩
  | succ i=>exact k i m o u (by simpa using j) (by simpa using l) (by simpa using d)
def vj(rs:jG)(a:List Addr):List (qF×V):=List.zipWith (λb q=>((Sum.inr b.1:qF),V.ref q)) rs a
def ZU:∀{rs:jG} {a:List Addr},a.length=rs.length->(vj rs a).map (·.1)=(rs.map (·.1)).map Sum.inr
 | [],[],_=>rfl
 | [],_::_,h=>by cases h
 | _::_,[],h=>by cases h
 | b::rs,q::a,h=>by
  show Sum.inr b.1::(vj rs a).map (·.1)=_;rw[ZU (zcT.inj h)];rfl
def XN{rs:jG}{a:List Addr}(h:a.length=rs.length):(vj rs a).length=rs.length:=by
 have:=congrArg zav (ZU h);simpa using this
def xb{rs:jG}{a:List Addr}(h:a.length=rs.length){i:Nat}{r:Str×List Str}(e:rs[i]?=some r):∃q,a[i]?=some q/\(vj rs a)[i]?=some (Sum.inr r.1,.ref q):=by
 have b:i < a.length:=by rw[h];exact(td.mp e).1
 refine⟨a[i],tr b,?_⟩;unfold vj;rw[List.getElem?_zipWith,e,tr b]
def Ru{rs:jG}{a:List Addr}(h:a.length=rs.length){i:Nat}{kv:qF×V}(e:(vj rs a)[i]?=some kv):∃r q,rs[i]?=some r/\a[i]?=some q/\kv=(Sum.inr r.1,.ref q):=by
 have a:i < rs.length:=by rw[<-XN h];exact(td.mp e).1
 obtain⟨q,b,d⟩:=xb h (tr a);rw[d]at e;exact⟨_,q,tr a,b,(tA.inj e).symm⟩
def V3(g:qf rs)(h:r∈rs):y∈QJ rs r.1↔y∈r.2:=by
 rw[Qf g.nd h];exact Xy g h
def Rp:∀{l:List Nat} {x:Nat},x∈l->x<=l.sum
 | a::l,x,h=>by
  rw[zaH];rcases tL.mp h with e | h
  ·omega
  ·have:=Rp h;omega
def qf.two(g:qf rs)(h:r∈rs):r.2.length<=40:=by
 refine tR ?_ g.few;exact Rp (tc.mpr ⟨r,h,rfl⟩)
def C7{Q:List V->Hp->Prop}(h:Q [] H):jJ a H Q:=h
def jE(s:qi H H')(h:H' a=none):H a=none:=by
 cases z:H a with
 | none=>rfl
 | some u=>rw[s _ _ z]at h;cases h
def kl(h:jB z=true):(∀c∈z.cps.toList,c<=122)/\z.length<=8/\1<=z.length:=by
 unfold jB at h;simp only[zan,decide_eq_true_eq]at h;refine⟨λc a=>?_,h.1.2,h.1.1⟩;have:=zaT.mp h.2 c a;unfold Qa at this;simp only[zan,decide_eq_true_eq]at this;exact this.2
def y4(h:jB z=true):PyData.strOk z=true:=by
 unfold PyData.strOk;rw[Array.all_eq_true_iff_forall_mem];intro c a;have:=(kl h).1 c (by simpa using a);exact decide_eq_true (by omega)
def Nk{K:zdM}{H:Hp}{l:Addr}{ps:List Addr}{rs:jG}(g:jC H l ps rs){Q:VK}
  (q:∀h kvs,H h=none->kvs.map (·.1)=(rs.map (·.1)).map Sum.inr->(∀r∈rs,∃t,qO kvs (Sum.inr r.1:qF)=some (.ref t)/\H t=some (.tup (r.2.map V.str)))->Q (.ref h) (upd H h (.dK kvs))):K7 K [.ref l] H Q:=by
 obtain⟨j,d,o⟩:=yO ps rs g.rows;have le:=g.le;refine⟨l,ps,vj rs j,rfl,.of g.at_,by rw[XN d,g.rows.1],λi a _ p u=>?_,by rw[XN d];omega,λh v=>?_⟩
 ·obtain⟨x,y,f1,f2,rfl⟩:=Ru d u;exact .of (o i a y x p f1 f2).1
 have p:((vj rs j).map (·.1)).Nodup:=by
  rw[ZU d];exact QN g.good.nd λa _ b _ e=>Sum.inr.inj e
 rw[WU p (λk _ m=>by simp at m),List.nil_append];refine q h _ v (ZU d) λr hr=>?_;obtain⟨u,h⟩:=zaP hr;obtain⟨j,v,x⟩:=xb d h;have d:=(td.mp h).1;exact⟨j,yc p x,(o u _ j r (tr (by rw[g.rows.1];exact d)) h v).2⟩
def Nr(x:Int):Builtin.bitNot (Builtin.bitNot x)=x:=by unfold Builtin.bitNot;omega
def bo(a b:Nat):Builtin.bitOr a b=((a ||| b:Nat):Int):=by
 have d:¬(0:Int)<=Builtin.bitNot a:=by unfold Builtin.bitNot;omega
 have h:¬(0:Int)<=Builtin.bitNot b:=by unfold Builtin.bitNot;omega
 have e:Builtin.bitAnd (Builtin.bitNot a) (Builtin.bitNot b)=Builtin.bitNot (((Builtin.bitNot (Builtin.bitNot a)).toNat ||| (Builtin.bitNot (Builtin.bitNot b)).toNat:Nat):Int):=by
  unfold Builtin.bitAnd;rw[decide_eq_false d,decide_eq_false h]
 unfold Builtin.bitOr;rw[e,Nr,Nr,Nr,zaj,zaj]
def ba(a b:Nat):Builtin.bitAnd a b=((a&&& b:Nat):Int):=by
 unfold Builtin.bitAnd;rw[decide_eq_true (zbI a),decide_eq_true (zbI b)];rfl
def Jn(ns:List Nat):List V:=ns.map λn=>V.int (n:Nat)
def Zn(ns:List Nat):(Jn ns).length=ns.length:=ta ..
def V1{ns:List Nat}{i:Nat}{x:V}(h:(Jn ns)[i]?=some x):∃n:Nat,ns[i]?=some n/\x=.int n:=by
 unfold Jn at h;rw[tw]at h;cases e:ns[i]? with
 | none=>rw[e]at h;cases h
 | some n=>rw[e]at h;exact⟨n,rfl,(tA.inj h).symm⟩
def z6{ns:List Nat}{i n:Nat}(h:ns[i]?=some n):ns.take (i+1)=ns.take i++[n]:=by
 rw[tz,h];rfl
def XR(ns:List Nat)(n:Nat):Jn ns++[V.int (n:Nat)]=Jn (ns++[n]):=by unfold Jn;rw[tj];rfl
def ZM(ns:List Nat):(Jn ns).all Zx=true:=by
 unfold Jn;rw[zcj];exact zaT.mpr λ_ _=>rfl
def Yn(ns:List Nat)(n:Nat):J2 (.int (n:Nat)) (Jn ns)=decide (n∈ns):=by
 unfold J2 Jn;rw[List.any_map,zaq,zaS,decide_eq_true_iff];constructor
 ·rintro⟨y,hy,e⟩;have e':((y:Int)==(n:Int))=true:=e;have:y=n:=by
   have:=eq_of_beq e';omega
  exact this▸hy
 ·intro h;refine⟨n,h,?_⟩;show ((n:Int)==(n:Int))=true;simp
inductive Xg(K:zdM)(vs:List V)(H:Hp)(Q:VK):Prop
 | mk (a:Addr) (ns:List Nat):vs=[.ref a]->(Q6 K H a (Jn ns))->(ns.length<=1000)->(∀H',qi H H'->Q (.int (Rb.lackN ns:Nat)) H')->Xg K vs H Q
def x4(K:zdM):Sp:=λa H Q _=>Xg K a H Q
inductive UA(K:zdM)(vs:List V)(H:Hp)(Q:VK):Prop
 | mk (a:Addr) (ns:List Nat):vs=[.ref a]->(Q6 K H a (Jn ns))->((∀x∈ns,x < 1000))->(Q (.int (Rb.setN ns:Nat)) H)->UA K vs H Q
def N4(K:zdM):Sp:=λa H Q _=>UA K a H Q
def Mp:qm ["numbers","bits","number"] ["numbers"] (qg z9):=Qm
def U5{P:Program}{w:World}{K:zdM}{mg:Str->Option Value}{base:Heap}{f:Addr}{b:zdQ}(F:jL K "set_of" "set_of" z9 f b):qp P w K mg base jh 1 f b ["numbers"] (N4 K):=by
 refine F.okK Mp λH Q E hr h=>?_;obtain⟨a,b,rfl,l,m,q⟩:=h;refine⟨_,qb (qG 1 qk)
  (qb (qP (qy (jv 0)) (qz 2) (qe (qG 1 (qM EZ (jv 1) (qM kg qk (jv 2))))))
  (qe (qr (jv 1)))),?_⟩
 refine⟨_,rfl,a,rfl,⟨_,l⟩,?_⟩;refine jb (K:=K) (a:=a) (xs:=Jn b) (λi d j=>∃v,d=[some (.ref a),some (.int ((Rb.setN (b.take i):Nat):Int)),v]/\j=H) ⟨none,rfl,rfl⟩ (λi d j _ ⟨_,_,e⟩=>e▸l) ?_ ?_
 ·rintro i x d j o ⟨v,rfl,rfl⟩;obtain⟨n,l,rfl⟩:=V1 o;have n1:=m n (tP l);have m:(1:Int)*2^ ((n:Nat):Int).toNat=((2^n:Nat):Int):=by rw[zaj,zdJ];push_cast;rfl
  have e:((Rb.setN (b.take (i+1)):Nat):Int)=Builtin.bitOr (Rb.setN (b.take i):Nat) ((1:Int)*2^ ((n:Nat):Int).toNat):=by rw[m,bo,z6 l,Rb.setN_snoc]
  refine⟨_,rfl,_,rfl,_,_,rfl,rfl,⟨by omega,by omega,by decide⟩,_,_,rfl,rfl,some (.int n),?_,rfl⟩;rw[e];rfl
 ·rintro d j ⟨v,rfl,rfl⟩;refine⟨_,rfl,?_⟩;rw[Zn,tu (tf _)];exact q
def WH:qm ["numbers","there","number","least"] ["numbers"] (qg Jb):=Qm
def ki{P:Program}{w:World}{K:zdM}{mg:Str->Option Value}{base:Heap}{f:Addr}{b:zdQ}(F:jL K "lacking" "lacking" Jb f b):qp P w K mg base jh 1 f b ["numbers"] (x4 K):=by
 refine F.okK WH λH Q E hr h=>?_;obtain⟨a,d,rfl,b,_,q⟩:=h;refine⟨_,qb (qG 1 jX)
  (qb (qP (qy (jv 0)) (qz 2) (qe (jl (jv 1) (jv 2) Qz)))
  (qb (qG 3 qk)
  (qb (zF PassesOwn.never (QY (ZL (jv 3) (jv 1)) (by with_unfolding_all rfl)) (qe (RA (i:=3) WH.nd rfl (Or.inl rfl) qk RL)))
  (qe (qr (jv 3)))))),?_⟩
 intro D p;refine⟨_,rfl,a,rfl,⟨_,(qd p).seq b⟩,?_⟩;refine jb (K:=K) (a:=a) (xs:=Jn d) (λi j l=>∃v kvs,j=[some (.ref a),some (.ref D),v,none]/\l=upd H D (.dK kvs)/\kvs.length<=i/\∀x:Nat,(qO kvs (Sum.inl (x:Int):qF)).isSome=decide (x∈d.take i)) ⟨none,[],rfl,rfl,tf _,λx=>by simp [qO]⟩
  (λi j l _ ⟨_,_,_,e,_⟩=>e▸(qd p).seq b) ?_ ?_
 ·rintro i x j l m ⟨v,kvs,rfl,rfl,r,o⟩;obtain⟨n,b,rfl⟩:=V1 m;have u:i < d.length:=(td.mp b).1;refine⟨_,rfl,_,rfl,D,_,rfl,Jl.k (k:=(Sum.inl (n:Int):qF)) qa (qh (by omega)),?_⟩;refine⟨some (.int n),jD kvs (Sum.inl (n:Int)) (.bl true),rfl,jx,?_,λx=>?_⟩
  ·have:=Jd kvs (Sum.inl (n:Int):qF) (.bl true);omega
  ·rw[Qv,z6 b];by_cases e:x=n
   ·subst e;simp
   ·have b:¬(Sum.inl (x:Int):qF)=Sum.inl (n:Int):=λz=>e (by have:=Sum.inl.inj z;omega);rw[if_neg b,o x,zaq];simp [e]
 ·rintro j l ⟨v,kvs,rfl,rfl,r,o⟩;rw[Zn,tu (tf _)]at o;refine zw (λj l=>∃b:Nat,j=[some (.ref a),some (.ref D),v,some (.int b)]/\l=upd H D (.dK kvs)/\∀x,x < b->x∈d) (λj _=>match j with | [_,_,_,some (.int b)]=>d.length - b.toNat | _=>0) ⟨0,rfl,rfl,λx m=>absurd m (zcf _)⟩ ?_ ?_
  ·rintro j l ⟨b,rfl,rfl,r⟩;refine⟨_,rfl,_,rfl,D,_,rfl,ju.k (k:=(Sum.inl (b:Int):qF)) qa,_,rfl,?_⟩;rw[o b];by_cases l:b∈d
   ·rw[decide_eq_true l];have o:=Rb.pigeon (b+1) d λx m=>by
     by_cases e:x=b
     ·rw[e];exact l
     ·exact r x (by omega)
    refine QA ⟨_,rfl,_,_,rfl,rfl,⟨b+1,rfl,rfl,λx m=>?_⟩,?_⟩
    ·by_cases e:x=b
     ·rw[e];exact l
     ·exact r x (by omega)
    ·show d.length - ((b:Int)+1).toNat < d.length - (b:Int).toNat;omega
   ·rw[decide_eq_false l];refine jp ⟨_,rfl,?_⟩;have e:=Rb.lackN_eq (r:=b) (ns:=d) ⟨l,r⟩;have:=q _ (qd (o:=.dK kvs) p);rw[<-e]at this;exact this
  ·rintro j H Q _ b ⟨v,e,w,d,a,l,m,g,k,o,q⟩;exact⟨v,e,w,d,a,l,m,g,k,o,b _ _ q⟩
open PySem L2 MLab
open PyProof.Rows hiding K lo
abbrev Bv:Stmt:=top 47
abbrev Xs:Stmt:=top 48
abbrev Ya:Stmt:=top 49
abbrev UW:Stmt:=top 50
abbrev VA:Stmt:=top 51
abbrev YW:Stmt:=top 52
structure je(N:List Str)(H:Hp)(d:Addr)(f:Str->Option Nat):Prop where
 at_:∃kvs:List (qF×V),H d=some (.dK kvs)/\(∀z:Str,qO kvs (Sum.inr z:qF)=(f z).map λn=>V.int (n:Nat))/\(kvs.map (·.1)).Nodup/\∀k∈kvs.map (·.1),k∈N.map (Sum.inr:Str->qF)
def je.mono(h:je N H d f)(s:qi H H'):je N H' d f:=⟨let ⟨kvs,a,b⟩:=h.at_;⟨kvs,s _ _ a,b⟩⟩
def je.get(h:je N H d f)(z:Str):ju H d (.str z) ((f z).map λn=>V.int (n:Nat)):=by
 obtain⟨kvs,a,b,_⟩:=h.at_;rw[<-b z];exact ju.k (k:=(Sum.inr z:qF)) a
def je.isd(h:je N H d f):∃kvs:List (qF×V),H d=some (.dK kvs):=let ⟨kvs,a,_⟩:=h.at_;⟨kvs,a⟩
def je.put(h:je N H d f)(hz:z∈N)(i:f z=none)(le:N.length<=14):∃H',Jl H d (.str z) (.int (n:Nat)) H'/\je N H' d (λy=>if y=z then some n else f y)/\∃o,H'=upd H d o:=by
 obtain⟨kvs,a,b,j,sub⟩:=h.at_;have l:kvs.length<=14:=by
  have:=Jr j sub;rw[ta,ta]at this;omega
 refine⟨_,Jl.k (k:=(Sum.inr z:qF)) a (qh (by omega)),⟨jD kvs (Sum.inr z) (.int (n:Nat)),qa,λy=>?_,?_,?_⟩,_,rfl⟩
 ·rw[Qv];by_cases e:y=z
  ·subst e;rw[if_pos rfl,if_pos rfl];rfl
  ·rw[if_neg e,if_neg (λq=>e (Sum.inr.inj q))];exact b y
 ·rw[QR _ (by rw[b z,i];rfl),tj];refine zbi.mpr ⟨j,zbc _ _,λx j y l e=>?_⟩;have m:y=Sum.inr z:=by simpa using l
  subst m;subst e;have:(qO kvs (Sum.inr z:qF)).isSome=true:=by
   obtain⟨l,m,p⟩:=tc.mp j;have j:(kvs.any λr=>decide (r.1=(Sum.inr z:qF)))=true:=zaS.mpr ⟨l,m,decide_eq_true p⟩;rw[Ja]at j;exact j
  rw[b z,i]at this;cases this
 ·rw[QR _ (by rw[b z,i];rfl),tj];intro k i;rcases tN.mp i with i | i
  ·exact sub k i
  ·have:k=Sum.inr z:=by simpa using i
   rw[this];exact tc.mpr ⟨z,hz,rfl⟩
def YO(rs:jG)(f:Str->Option Nat)(z:Str):List Nat:=(QJ rs z).filterMap f
def Qc:n∈YO rs f z↔∃y∈QJ rs z,f y=some n:=zaC
def xn(z:Str):(QJ rs z).length<=rs.length:=by
 unfold QJ;split
 ·exact Xx _
 ·exact zat _
def Vd(rs:jG)(f:Str->Option Nat)(z:Str):List Str:=(QJ rs z).filter λy=>(f y).isNone
def zM(rs:jG)(f:Str->Option Nat)(z:Str)(n:Nat):Bool:=decide (Rb.lackN (YO rs f z)=n)&&(Vd rs f z).all λy=>decide (n∈YO rs f y)
def w5:zM rs f z n=true↔zr (QJ rs) f z n:=by
 unfold zM zr Vd;rw[zan,decide_eq_true_iff,zaT];have lk:Rb.Lacks (Rb.lackN (YO rs f z)) (YO rs f z):=Rb.lackI_lacks _;constructor
 ·rintro⟨rfl,h⟩;refine⟨λa b=>Qc.mp (lk.2 a b),λy a e=>lk.1 (Qc.mpr ⟨y,a,e⟩),λy a e=>?_⟩;exact Qc.mp (of_decide_eq_true (h y (tZ.mpr ⟨a,by rw[e];rfl⟩)))
 ·rintro⟨b,d,i⟩;refine⟨(Rb.lackN_eq ⟨λm=>?_,λx j=>Qc.mpr (b x j)⟩).symm,λy a=>decide_eq_true ?_⟩
  ·obtain⟨y,a,e⟩:=Qc.mp m;exact d y a e
  ·obtain⟨b,d⟩:=tZ.mp a;exact Qc.mpr (i y b (by simpa using d))
def KQ(rs:jG)(f:Str->Option Nat)(n:Nat):List Str:=((rs.map (·.1)).filter λz=>(f z).isNone).filter λz=>zM rs f z n
def MH(rs:jG)(R:Rs Str)(n:Nat):Ue (QJ rs) (rs.map (·.1)) R n (KQ rs (qE R) n):=⟨λx=>by
 unfold KQ;rw[tZ,tZ,w5];constructor
 ·rintro⟨⟨a,b⟩,c⟩;exact⟨a,by simpa using b,c⟩
 ·rintro⟨a,b,c⟩;exact⟨⟨a,by rw[b];rfl⟩,c⟩,zao.trans zao⟩
inductive Bf(CG:Addr)(vs:List V)(H:Hp)(Q:VK):Prop
 | mk (g d:Addr) (rs:jG) (z:Str) (f:Str->Option Nat):vs=[.ref g,.ref d,.str z]->jt CG H g rs->qf rs->(rs.length<=14)->(z∈rs.map (·.1))->(je (rs.map (·.1)) H d f)->(∀H' l,qi H H'->H l=none->H' l=some (.lst (Jn (YO rs f z)))->Q (.ref l) H')->Bf CG vs H Q
def En(a:Addr):Sp:=λb H Q _=>Bf a b H Q
inductive yz(CG:Addr)(vs:List V)(H:Hp)(Q:VK):Prop
 | mk (g d:Addr) (rs:jG) (z:Str) (f:Str->Option Nat) (n:Nat):(vs=[.ref g,.ref d,.str z,.int (n:Nat)])->jt CG H g rs->qf rs->(rs.length<=14)->(z∈rs.map (·.1))->(je (rs.map (·.1)) H d f)->(∀H',qi H H'->Q (.bl (zM rs f z n)) H')->yz CG vs H Q
def Cp(a:Addr):Sp:=λb H Q _=>yz a b H Q
inductive UB(CG:Addr)(vs:List V)(H:Hp)(Q:VK):Prop
 | mk (g d:Addr) (rs:jG) (f:Str->Option Nat) (n:Nat):(vs=[.ref g,.ref d,.int (n:Nat)])->jt CG H g rs->qf rs->(rs.length<=14)->(je (rs.map (·.1)) H d f)->(∀H' l,qi H H'->H l=none->H' l=some (.lst ((KQ rs f n).map V.str))->Q (.ref l) H')->UB CG vs H Q
def N5(a:Addr):Sp:=λb H Q _=>UB a b H Q
def kq(g:α->Option β)(h:β->V):∀l:List α,(l.filterMap g).map h=l.filterMap λx=>(g x).map h
 | []=>rfl
 | a::l=>by
  rw[zad,zad];cases g a with
  | none=>exact kq g h l
  | some b=>rw[tM,kq g h l];rfl
def XW(p:Str->Bool):∀l:List Str,(l.filter p).map V.str=l.filterMap λx=>if p x=true then some (V.str x) else none
 | []=>rfl
 | a::l=>by
  rw[zbe,zad];cases p a with
  | false=>exact XW p l
  | true=>
   rw[if_pos rfl,if_pos rfl,tM,XW p l]
def y6(f:α->V):∀l:List α,l.map f=l.filterMap λx=>some (f x)
 | []=>rfl
 | a::l=>by rw[tM,zad,y6 f l]
abbrev BL:List Str:=["ground","numbered","name"]
def HJ:qm BL BL (qg Bv):=Qm
def BM(F:jL K "numbers_behind" "numbers_behind" Bv f a)(B:QB mg)(G:j7 mg)(T:Qn K mg)(M:GM K mg b):qp P w K mg base jh 3 f a BL (En b):=by
 obtain⟨_,_,a⟩:=M.cls;obtain⟨_,_,e⟩:=M.fr;obtain⟨_,_,b⟩:=M.isn;have i:=pin P w mg base (XD e.fn a B G T b);refine F.okK HJ λH Q E hr h=>?_;obtain⟨g,d,b,z,o,rfl,j,good,_,l,hd,q⟩:=h;refine⟨_,qe (qr (jw (N':=["end","numbered"]) (ix:=[none,some 1]) (qy (vl e a.cl i hr (jv 0) (qT (jv 2)))) (λa e m fp _=>
  ⟨qz 0,jP (QY (ZL (jv 0) (jv 1))),qA (jv 1) (jv 0)⟩))),?_⟩
 obtain⟨p,fs,r,_,u⟩:=j.ins;obtain⟨a,i,rfl⟩:=tc.mp l;refine⟨_,rfl,g,p,fs,rfl,r,u,_,rfl,g,b,a,rfl,j,i,good.nm a i,λj le l p=>?_⟩;have e:qi H (upd j le (.lst ((jr b a).map V.str))):=l.trans (qd p);have l:upd j le (.lst ((jr b a).map V.str)) le=some (.lst ((jr b a).map V.str)):=qa;generalize upd j le (.lst ((jr b a).map V.str))=m at e l;have j:=hd.mono e;refine⟨le,rfl,⟨_,.of l⟩,λW m=>?_⟩;refine Yt (K:=K) (a:=le) (xs:=jr b a) (enc:=V.str) (out:=λy=>(o y).map λn=>V.int (n:Nat)) (rest:=[some (.ref d)]) m l (qh (tR (Xx a) (by omega))) ?_ ?_ ?_
 ·intro x l b a R k;refine⟨_,rfl,_,rfl,d,_,rfl,(j.mono a).get x,_,rfl,k b λ_ _ h=>h⟩
 ·intro x l v o b a R k;have l:=(j.mono a).get x;rw[o]at l;exact⟨_,rfl,_,rfl,d,_,rfl,l,k b λ_ _ h=>h⟩
 ·intro b a j;refine q _ W (e.trans a) (jE e m) ?_;rw[j];congr 2;unfold Jn YO;rw[Qf good.nd i,kq]
abbrev Fu:List Str:=["ground","numbered","name","number","bare"]
abbrev WO:List Str:=["ground","numbered","name","number"]
def Kz:qm Fu WO (qg Xs):=Qm
def M3(F:jL K "gets_number" "gets_number" Xs f fd)(B:QB mg)(G:j7 mg)(T:Qn K mg)(M:GM K mg CG)(L:qW K mg "numbers_behind" Bv BL fB ae)(U:qW K mg "lacking" Jb ["numbers"] fL af):qp P w K mg base jh 4 f fd WO (Cp CG):=by
 have GB:=pin P w mg base (BM L.fn B G T M);have GL:=pin P w mg base (ki U.fn);obtain⟨_,_,o⟩:=M.cls;obtain⟨_,_,hR⟩:=M.fr;obtain⟨_,_,hN⟩:=M.isn;have GR:=pin P w mg base (XD hR.fn o B G T hN);refine F.okK Kz λH Q E hr h=>?_;obtain⟨g,d,a,z,b,n,rfl,p,good,r,O,hd,q⟩:=h;have r2:jd 2 _:=hr.mono (by decide);refine⟨_,qb (qJ (qo WP (qD U GL (qT (qD L GB (kA (jv 0) (jv 1) (jv 2))))) (jv 3)) (qe (qr Qz)) qt)
  (qb (Qx (i:=4) (N':=["end","numbered"]) (ix:=[none,some 1]) (hN:=Kz.nd) (qy (vl hR o.cl GR r2 (jv 0) (qT (jv 2)))) (λo U Y fp ac=>
   ⟨qz 0,jP (QY (J9 (jv 0) (jv 1))),jv 0⟩))
  (qe (qr (qu (Yr rfl) (by rfl) T.all boot_all (qT (jw (N':=["end","number","ground","numbered"]) (ix:=[none,some 3,some 0,some 1]) (te:=Zr (BH K false) (qw 1) (Zs (En CG) [] E0 (qB (qw 2) (qB (qw 3) (qB (qw 0) jJ))))) (qy (jv 4)) (λo U Y fp ac=>
   ⟨qz 0,qS,Qe Jv (jv 1) (qD L GB (kA (jv 2) (jv 3) (jv 0))) (by with_unfolding_all rfl)⟩))))))),?_⟩
 refine⟨_,rfl,_,rfl,_,rfl,g,d,a,z,b,rfl,p,good,r,O,hd,λ_ i o _ j=>?_⟩;have L:∀y,(YO a b y).length<=14:=λy=>tR (zal _ _) (tR (xn y) r);refine⟨i,_,rfl,.of j,by have:=L z;omega,λY U=>⟨_,rfl,rfl,_,rfl,?_⟩⟩;have u:=o.trans U;by_cases c:Rb.lackN (YO a b z)=n
 ·refine jV (by rw[c];simp) ?_;obtain⟨dx,fs,hg,_,e2⟩:=(p.mono u).ins;obtain⟨i,aa,rfl⟩:=tc.mp O;refine⟨_,rfl,g,dx,fs,rfl,hg,e2,_,rfl,g,a,i,rfl,p.mono u,aa,good.nm i aa,λo le L U=>?_⟩;have s4:qi H (upd o le (.lst ((jr a i).map V.str))):=u.trans (L.trans (qd U));have L:upd o le (.lst ((jr a i).map V.str)) le=some (.lst ((jr a i).map V.str)):=qa;generalize upd o le (.lst ((jr a i).map V.str))=U at s4 L;refine⟨le,rfl,⟨_,.of L⟩,λW j=>?_⟩;refine Yt (K:=K) (a:=le) (xs:=jr a i) (enc:=V.str) (out:=λy=>if (b y).isNone=true then some (V.str y) else none) (rest:=[some (.ref d)]) j L (qh (tR (Xx i) (by omega))) ?_ ?_ ?_
  ·intro x C j D R k;refine⟨_,rfl,_,rfl,d,_,rfl,((hd.mono s4).mono D).get x,_,rfl,?_⟩;have:=k j λ_ _ h=>h;cases e:b x with
   | none=>rw[e]at this;exact this
   | some m=>rw[e]at this;exact this
  ·intro x C v l j D R k;have:v=V.str x:=by
    split at l
    ·exact(tA.inj l).symm
    ·cases l
   subst this;exact⟨_,rfl,k j λ_ _ h=>h⟩
  ·intro U D o;rw[<-XW (λy=>(b y).isNone),<-Qf good.nd aa]at o;have L:U W=some (.lst ((Vd a b i.1).map V.str)):=o;have ab:=s4.trans D;refine⟨_,rfl,W,rfl,⟨_,.of L⟩,λo D=>?_⟩;have bl:(Vd a b i.1).length<=14:=tR (zas _ _) (tR (xn i.1) r);refine Yt (K:=K) (a:=W) (xs:=Vd a b i.1) (enc:=V.str) (out:=λy=>some (V.bl (decide (n∈YO a b y)))) (rest:=[some (.int (n:Nat)),some (.ref g),some (.ref d)]) D L (qh (by omega)) ?_ ?_ ?_
   ·intro x C j J R k;exact k j λ_ _ h=>h
   ·intro x C v l j J R k;obtain rfl:=tA.inj l;have l:x∈a.map (·.1):=Qb good.nd _ O x (tZ.mp C).1;have j:=ab.trans J;refine⟨_,rfl,_,rfl,_,rfl,_,rfl,g,d,a,x,b,rfl,p.mono j,good,r,l,hd.mono j,λj l p _ r=>?_⟩;refine⟨l,_,rfl,.inl (.of r),rfl,ZM _,?_⟩;rw[Yn];exact k j p
   ·intro l J j;rw[<-y6]at j;refine⟨o,(Vd a b i.1).map λy=>decide (n∈YO a b y),rfl,.of (by rw[j,zam];rfl),?_⟩;have:=q l (ab.trans J);unfold zM at this;rw[decide_eq_true c,Bool.true_and]at this;rw[zcj];exact this
 ·refine j4 (by
   have:¬V.int ((Rb.lackN (YO a b z):Nat):Int)=V.int ((n:Nat):Int):=λe=>c (by have:=V.int.inj e;omega);rw[decide_eq_false this];rfl) ?_
  have:=q Y u;unfold zM at this;rw[decide_eq_false c,zcA]at this;exact this
open PySem L2 MLab
open PyProof.Rows hiding K lo
def jI(H:Hp)(ps:List Addr)(a:List (List Str)):Prop:=ps.length=a.length/\∀(i:Nat) (b:Addr) (d:List Str),ps[i]?=some b->a[i]?=some d->H b=some (.lst (d.map V.str))
def jI.mono(h:jI H ps a)(s:qi H H'):jI H' ps a:=⟨h.1,λi a b d e=>s _ _ (h.2 i a b d e)⟩
def jI.nil:jI H [] []:=⟨rfl,λi _ _ e=>(nomatch e)⟩
def Jp{α:Type}{xs:List α}{x y:α}{i:Nat}(h:(xs++[x])[i]?=some y):(i < xs.length/\xs[i]?=some y)\/(i=xs.length/\y=x):=by
 by_cases a:i < xs.length
 ·rw[t9 a]at h;exact .inl ⟨a,h⟩
 ·have a:i=xs.length:=by
   have:=(td.mp h).1;rw[tv,zar]at this;omega
  subst a;rw[tY (tf _),zbO]at h;exact .inr ⟨rfl,(tA.inj h).symm⟩
def jI.snoc{l:List Str}(h:jI H ps a)(hp:H p=some (.lst (l.map V.str))):jI H (ps++[p]) (a++[l]):=by
 refine⟨by rw[tv,tv,h.1];rfl,λi d e b a=>?_⟩;rcases Jp b with ⟨j,b⟩ | ⟨j,rfl⟩
 ·rcases Jp a with ⟨_,a⟩ | ⟨j,_⟩
  ·exact h.2 i d e b a
  ·have:=h.1;omega
 ·rcases Jp a with ⟨j,_⟩ | ⟨_,rfl⟩
  ·have:=h.1;omega
  ·exact hp
def jI.app(h:jI H ps a)(k:jI H b d):jI H (ps++b) (a++d):=by
 refine⟨by rw[tv,tv,h.1,k.1],λi d e b a=>?_⟩;by_cases c:i < ps.length
 ·rw[t9 c]at b;rw[t9 (by rw[<-h.1];exact c)]at a;exact h.2 i d e b a
 ·rw[tY (by omega)]at b;rw[tY (by rw[<-h.1];omega)]at a;rw[<-h.1]at a;exact k.2 _ d e b a
def jI.fr(h:jI H ps a)(hd:H d=some (.dK kvs))(f:Fr H d H'):jI H' ps a:=⟨h.1,λi a b j l=>f _ _ (h.2 i a b j l) (λe=>by have:=h.2 i a b j l;rw[e,hd]at this;cases this)⟩
def je.fr(h:je N H d f)(s:Fr H e H')(ne:d≠e):je N H' d f:=⟨let ⟨kvs,a,b⟩:=h.at_;⟨kvs,s _ _ a ne,b⟩⟩
def je.congr{g:Str->Option Nat}(h:je N H d f)(e:∀z,f z=g z):je N H d g:=⟨let ⟨kvs,a,b,c⟩:=h.at_;⟨kvs,a,λz=>by rw[b z,e z],c⟩⟩
def vC(b:Addr)(H:Hp)(g d:Addr):Prop:=∀e lo a,H g=some (.ins b e [("order",.ref lo),("roads",.ref a)])->a≠d
def jt.fr(h:jt i H a rs)(hd:∃kvs:List (qF×V),H d=some (.dK kvs))(ap:vC i H a d)(s:Fr H d H'):jt i H' a rs:=by
 obtain⟨l,lo,m,i,j,o,u,v⟩:=h;obtain⟨kvs,hd⟩:=hd;have ne:∀{b:Addr} {p:HO},H b=some p->(∀i:List (qF×V),p≠.dK i)->b≠d:=λr no e=>by rw[e,hd]at r;exact no kvs (tA.inj r).symm
 refine⟨l,lo,m,i,s _ _ j (ne j (λ_=>by simp)),s _ _ o (ne o (λ_=>by simp)),s _ _ u (ap l lo m j),λi hr=>let ⟨q,a,b⟩:=v i hr;⟨q,a,s _ _ b (ne b (λ_=>by simp))⟩⟩
def YR(f:Str->Option Nat)(n:Nat)(ns:List Str):Str->Option Nat:=λz=>if z∈ns then some n else f z
def R1{ns:List Str}(h:∀z∈ns,qE R z=none)(z:Str):YR (qE R) n ns z=qE (R++[(n,ns)]) z:=by
 unfold YR;rw[Jf];by_cases c:z∈ns
 ·rw[if_pos c,h z c];show _=if z∈ns then some n else none
  rw[if_pos c]
 ·rw[if_neg c];cases qE R z with
  | some m=>rfl
  | none=>
   show none=if z∈ns then some n else none
   rw[if_neg c]
def MG:R++(a++[l]).map (λx=>(n,x))=(R++a.map λx=>(n,x))++[(n,l)]:=by
 rw[tj,zbB];rfl
inductive yy(CG:Addr)(vs:List V)(H:Hp)(Q:VK):Prop
 | mk (g d:Addr) (rs:jG) (R:Rs Str) (n:Nat):(vs=[.ref g,.ref d,.int (n:Nat)])->jt CG H g rs->qf rs->(rs.length<=14)->(je (rs.map (·.1)) H d (qE R))->vC CG H g d->(∀H' l ps ls,H l=none->H' l=some (.lst (ps.map V.ref))->jI H' ps ls->(∀p∈ps,H p=none)->je (rs.map (·.1)) H' d (qE (R++ls.map λx=>(n,x)))->Jg (QJ rs) (rs.map (·.1)) n R (R++ls.map λx=>(n,x))->Fr H d H'->Q (.ref l) H')->yy CG vs H Q
def Co(a:Addr):Sp:=λb H Q _=>yy a b H Q
def JU(rs:jG)(f:Str->Option Nat):Nat:=((rs.map (·.1)).filter λz=>(f z).isNone).length
def Uc{rs:jG}{ns:List Str}(h:∀z∈ns,z∈rs.map (·.1)/\qE R z=none)(ne:ns≠[]):JU rs (qE (R++[(n,ns)])) < JU rs (qE R):=by
 unfold JU;generalize rs.map (·.1)=N at*;have sub:(N.filter λz=>(qE (R++[(n,ns)]) z).isNone).Sublist (N.filter λz=>(qE R z).isNone):=by
  have e:(N.filter λz=>(qE (R++[(n,ns)]) z).isNone)=(N.filter λz=>(qE R z).isNone).filter λz=>(qE (R++[(n,ns)]) z).isNone:=by
   rw[List.filter_filter];refine zbA λz _=>?_;cases c:(qE (R++[(n,ns)]) z).isNone with
   | false=>simp
   | true=>
    have:=kL (by simpa using c);rw[this];rfl
  rw[e];exact zao
 obtain⟨a,_,d⟩:=zcF ne;have b:a∈ns:=by rw[d];exact tO
 obtain⟨i,d⟩:=h a b;rcases zbY (N.filter λz=>(qE (R++[(n,ns)]) z).isNone).length (N.filter λz=>(qE R z).isNone).length with c | c
 ·exact c
 ·have e:=sub.eq_of_length_le c;have m:a∈N.filter λz=>(qE R z).isNone:=tZ.mpr ⟨i,by rw[d];rfl⟩;rw[<-e]at m;have:=(tZ.mp m).2;rw[Nd d b]at this;cases this
def Zy(N:List Str)(H:Hp)(d:Addr):Nat:=match H d with
 | some (.dK kvs)=>(N.filter λz=>(qO kvs (Sum.inr z:qF)).isNone).length
 | _=>0
def je.bare{rs:jG}(h:je (rs.map (·.1)) H d f):Zy (rs.map (·.1)) H d=JU rs f:=by
 obtain⟨kvs,a,b,_⟩:=h.at_;unfold Zy JU;rw[a];show ((rs.map (·.1)).filter λz=>(qO kvs (Sum.inr z:qF)).isNone).length=_;congr 1;refine zbA λz _=>?_;rw[b z];cases f z<;>rfl
abbrev C8:List Str:=["ground","numbered","number","bare"]
abbrev Zh:List Str:=["ground","numbered","number"]
def yF:qm C8 Zh (qg Ya):=Qm
def Gu(F:jL K "round_of" "round_of" Ya f a)(B:QB mg)(G:j7 mg)(T:Qn K mg)(M:GM K mg b)(i:qW K mg "numbers_behind" Bv BL o p)(l:qW K mg "lacking" Jb ["numbers"] r u)(j:qW K mg "gets_number" Xs WO z C):qp P w K mg base jh 5 f a Zh (N5 b):=by
 have p:=pin P w mg base (M3 j.fn B G T M i l);obtain⟨_,_,i⟩:=M.cls;obtain⟨_,_,l⟩:=M.nm;have GM:=pin P w mg base (Jw l.fn i G);refine F.okK yF λH Q E hr h=>?_;obtain⟨g,d,a,b,n,rfl,r,good,C,hd,q⟩:=h;have o:jd 1 _:=hr.mono (by decide);refine⟨_,qb (Qx (i:=3) (N':=["name","numbered"]) (ix:=[none,some 1]) (hN:=yF.nd) (qy (za l i.cl GM o (jv 0))) (λi l o fp u=>
   ⟨qz 0,jP (QY (J9 (jv 0) (jv 1))),jv 0⟩))
  (qe (qr (jw (N':=["name","ground","numbered","number"]) (ix:=[none,some 0,some 1,some 2]) (qy (jv 3)) (λi l o fp u=>
   ⟨qz 0,jP (jH (qD j p (FG (jv 1) (jv 2) (jv 0) (jv 3)))),jv 0⟩)))),?_⟩
 obtain⟨i,fs,j,p,_⟩:=r.ins;refine⟨_,rfl,g,i,fs,rfl,j,p,g,a,rfl,r,λi p=>⟨i,rfl,⟨_,.of qa⟩,λW j=>?_⟩⟩;have l:qi H (upd H i (.lst ((a.map (·.1)).map V.str))):=qd p;have p:upd H i (.lst ((a.map (·.1)).map V.str)) i=some (.lst ((a.map (·.1)).map V.str)):=qa;generalize upd H i (.lst ((a.map (·.1)).map V.str))=o at l p j;refine Yt (K:=K) (a:=i) (xs:=a.map (·.1)) (enc:=V.str) (out:=λy=>if (b y).isNone=true then some (V.str y) else none) (rest:=[some (.ref d)]) j p (qh (by rw[ta];omega)) ?_ ?_ ?_
 ·intro x o j p R k;refine⟨_,rfl,_,rfl,d,_,rfl,((hd.mono l).mono p).get x,_,rfl,?_⟩;have:=k j λ_ _ h=>h;cases e:b x with
  | none=>rw[e]at this;exact this
  | some m=>rw[e]at this;exact this
 ·intro x o v i j p R k;have:v=V.str x:=by
   split at i
   ·exact(tA.inj i).symm
   ·cases i
  subst this;exact⟨_,rfl,k j λ_ _ h=>h⟩
 ·intro _ p u;rw[<-XW (λy=>(b y).isNone)]at u;have z:=l.trans p;refine⟨_,rfl,W,rfl,⟨_,.of u⟩,λD p=>?_⟩;have bl:((a.map (·.1)).filter λy=>(b y).isNone).length<=14:=tR (zas _ _) (by rw[ta];exact C);refine Yt (K:=K) (a:=W) (xs:=(a.map (·.1)).filter λy=>(b y).isNone) (enc:=V.str) (out:=λy=>if zM a b y n=true then some (V.str y) else none) (rest:=[some (.ref g),some (.ref d),some (.int (n:Nat))]) p u (qh (by omega)) ?_ ?_ ?_
  ·intro x o j l R k;have u:=z.trans l;refine⟨_,rfl,_,rfl,_,rfl,_,rfl,g,d,a,x,b,n,rfl,r.mono u,good,C,(tZ.mp o).1,hd.mono u,λr u=>⟨_,rfl,?_⟩⟩;have:=k r u;cases e:zM a b x n with
   | true=>rw[e]at this;exact this
   | false=>rw[e]at this;exact this
  ·intro x o v i j l R k;have:v=V.str x:=by
    split at i
    ·exact(tA.inj i).symm
    ·cases i
   subst this;exact⟨_,rfl,k j λ_ _ h=>h⟩
  ·intro j l i;rw[<-XW (λy=>zM a b y n)]at i;exact q j D (z.trans l) (jE z p) i
abbrev Ft:List Str:=["ground","numbered","number","rounds","names","name"]
def Cz:qm Ft Zh (qg UW):=Qm
def M0(F:jL K "give_number" "give_number" UW f l)(B:QB mg)(G:j7 mg)(T:Qn K mg)(M:GM K mg U)(p:qW K mg "numbers_behind" Bv BL o D)(r:qW K mg "lacking" Jb ["numbers"] J L)(C:qW K mg "gets_number" Xs WO O Y)(j:qW K mg "round_of" Ya Zh fR aA):qp P w K mg base jh 6 f l Zh (Co U):=by
 have o:=pin P w mg base (Gu j.fn B G T M p r C);refine F.okK Cz λH Q E hr h=>?_;obtain⟨g,d,l,R,n,rfl,gr,good,af,hd,ap,q⟩:=h;refine⟨_,qb (qG 3 (Ql jT))
  (qb (qG 4 (qD j o (kA (jv 0) (jv 1) (jv 2))))
  (qb (zF PassesOwn.never (qo J7 (qu qx (by rfl) B.len boot_len (qT (jv 4))) qk)
   (qb (qP (qy (jv 4)) (qz 5) (qe (jl (jv 1) (jv 5) (jv 2))))
   (qb (q5 (YF zaI zbD zbE J8 (jv 3) (qT (jv 4))))
   (qe (qG 4 (qD j o (kA (jv 0) (jv 1) (jv 2))))))))
  (qe (qr (jv 3))))),?_⟩
 refine⟨JB,λr ac=>?_⟩;have o:qi H (upd H r (.lst [])):=qd ac;refine⟨_,rfl,_,rfl,_,rfl,g,d,l,qE R,n,rfl,gr.mono o,good,af,hd.mono o,λ_ Y L O aw=>?_⟩;obtain⟨al,ah⟩:=hd.isd;have am:r≠d:=λe=>by rw[e,ah]at ac;cases ac
 refine zw (λσ D=>∃(v5:Option V) (j:Addr) (p:List Addr) (J:List (List Str)),σ=[some (.ref g),some (.ref d),some (.int (n:Nat)),some (.ref r),some (.ref j),v5]/\Fr H d D/\D r=some (.lst (p.map V.ref))/\jI D p J/\
   je (l.map (·.1)) D d (qE (R++J.map λx=>(n,x)))/\D j=some (.lst ((KQ l (qE (R++J.map λx=>(n,x))) n).map V.str))/\(∀R',Jg (QJ l) (l.map (·.1)) n (R++J.map λx=>(n,x)) R'->Jg (QJ l) (l.map (·.1)) n R R')/\j≠r/\(∀C∈p,C≠r)/\H j=none/\(∀C∈p,H C=none)/\J.length+JU l (qE (R++J.map λx=>(n,x)))<=14)
  (λ_ D=>Zy (l.map (·.1)) D d)
  ⟨none,Y,[],[],rfl,λb u Y _=>L _ _ (o _ _ Y),L _ _ qa,.nil,?_,?_,?_,(λe=>by rw[e,qa]at O;cases O),λC h=>(nomatch h),jE o O,λC h=>(nomatch h),?_⟩ ?_ ?_
 ·have:=(hd.mono o).mono L;simpa using this
 ·simpa using aw
 ·intro R' h;simpa using h
 ·show 0+_<=14;rw[zdD];refine tR (zas _ _) ?_;rw[ta];exact af
 ·rintro σ D ⟨v5,j,p,J,rfl,fr,an,ai,num,Y,gv,nl,np,l0,p0,_⟩;have o:jt U D g l:=gr.fr ⟨al,ah⟩ ap fr;obtain⟨_,ao⟩:=num.isd;generalize aq:R++J.map (λx=>(n,x))=O at*;refine⟨_,rfl,j,_,rfl,.inl (.of Y),_,_,rfl,rfl,_,rfl,?_⟩;rw[ta];generalize L:KQ l (qE O) n=o at*;have aj:Ue (QJ l) (l.map (·.1)) O n o:=L▸MH l O n;have ae:∀z∈o,z∈l.map (·.1)/\qE O z=none:=λz U=>let ⟨a,b,_⟩:=(aj.iff z).mp U;⟨a,b⟩;have ar:o.Nodup:=by
   rw[<-L];exact good.nd.sublist (zao.trans zao)
  have L:o.length<=14:=by
   have:=Jr ar λz U=>(ae z U).1;rw[ta]at this;omega
  cases c:o with
  | nil=>
   subst c;refine jV (by decide) ?_;refine⟨_,rfl,?_⟩;have:=gv O (.stop aj);rw[<-aq]at this num;exact q D r p J ac an ai p0 num this fr
  | cons L rest=>
   have ne:o≠[]:=by rw[c];simp
   rw[<-c];clear c;refine j4 (decide_eq_true (by have:=zds.mpr ne;show (0:Int) < (o.length:Int);omega)) ?_;have as:j≠d:=λe=>by rw[e,ao]at Y;cases Y
   refine⟨_,rfl,j,rfl,⟨_,.of Y⟩,?_⟩;refine jb (K:=K) (a:=j) (xs:=o.map V.str) (λi ag L=>∃v5,ag=[some (.ref g),some (.ref d),some (.int (n:Nat)),some (.ref r),some (.ref j),v5]/\je (l.map (·.1)) L d (YR (qE O) n (o.take i))/\Fr D d L)
    ⟨v5,rfl,num.congr λz=>by unfold YR;rw[List.take_zero,if_neg (by simp)],Fr.refl⟩ (λi ag L _ ⟨_,_,_,f⟩=>.of (f _ _ Y as)) ?_ ?_
   ·rintro i y ag L hy ⟨au,rfl,aa,ab⟩;obtain⟨z,ez,U,rfl⟩:=jO hy;have il:=(td.mp ez).1;have nt:z∉o.take i:=λm=>by
     obtain⟨av,hj⟩:=zaP m;rw[zcG]at hj;split at hj
     ·have h1:=(td.mp hj);have h2:=(td.mp ez);have:=Re ar (h1.2.trans h2.2.symm);omega
     ·cases hj
    obtain⟨H2,put,eZ,_,e2⟩:=aa.put (n:=n) (ae z U).1 (by unfold YR;rw[if_neg nt];exact(ae z U).2) (by rw[ta];exact af);refine⟨_,rfl,_,rfl,_,rfl,d,H2,rfl,put,_,rfl,eZ.congr λy=>?_,?_⟩
    ·unfold YR;rw[tz,ez];by_cases e:y=z
     ·subst e;rw[if_pos rfl,if_pos (by simp)]
     ·rw[if_neg e];by_cases m:y∈o.take i
      ·rw[if_pos m,if_pos (tV _ m)]
      ·rw[if_neg m,if_neg (by simp [m,e])]
    ·rw[e2];exact ab.at_d
   ·rintro ag L ⟨au,rfl,aa,ab⟩;rw[ta,tu (tf _)]at aa;have aa:=aa.congr (R1 λz U=>(ae z U).2);have U:=ab _ _ an am;have lG:=ab _ _ Y as;have rG:=ai.fr ao ab;have ax:=fr.trans ab;have ay:=Uc (n:=n) ae ne;refine⟨_,rfl,.inl ⟨rfl,_,.of U⟩,_,rfl,r,_,_,rfl,rfl,U,by rw[ta,ai.1];exact qh (by omega),?_⟩;have e5:p.map V.ref++[V.ref j]=(p++[j]).map V.ref:=by rw[tj];rfl
    rw[e5];have Y:Fr H d (upd L r (.lst ((p++[j]).map V.ref))):=ax.own ac;have r3:jI (upd L r (.lst ((p++[j]).map V.ref))) (p++[j]) (J++[o]):=by
     refine jI.snoc ⟨rG.1,λi C x U e2=>?_⟩ (by rw[qc nl];exact lG);rw[qc (np C (tP U))];exact rG.2 i C x U e2
    have ak:upd L r (.lst ((p++[j]).map V.ref)) r=some (.lst ((p++[j]).map V.ref)):=qa;have U:je (l.map (·.1)) (upd L r (.lst ((p++[j]).map V.ref))) d (qE (O++[(n,o)])):=⟨let ⟨kvs,a,b⟩:=aa.at_;⟨kvs,by rw[qc (Ne.symm am)];exact a,b⟩⟩;generalize upd L r (.lst ((p++[j]).map V.ref))=G3 at Y r3 ak U ⊢;refine⟨_,rfl,_,rfl,_,rfl,g,d,l,qE (O++[(n,o)]),n,rfl,gr.fr ⟨al,ah⟩ ap Y,good,af,U,λ_ l4 l L az=>?_⟩;have r:R++(J++[o]).map (λx=>(n,x))=O++[(n,o)]:=by rw[MG,aq]
    refine⟨⟨au,l4,p++[j],J++[o],rfl,Y.same l,l _ _ ak,r3.mono l,?_,?_,?_,(λe=>by rw[e,ak]at L;cases L),?_,?_,?_,?_⟩,?_⟩
    ·rw[r];exact U.mono l
    ·rw[r];exact az
    ·rw[r];exact λR' h=>gv R' (.more aj ne h)
    ·intro C j;rcases tN.mp j with j | j
     ·exact np C j
     ·rw[tK.mp j];exact nl
    ·obtain⟨_,o⟩:=U.isd;exact Y.fresh o L
    ·intro C j;rcases tN.mp j with j | j
     ·exact p0 C j
     ·rw[tK.mp j];exact l0
    ·rw[r,tv,zar];omega
    ·rw[(U.mono l).bare,num.bare];exact ay
 ·rintro σ D Q _ h ⟨v,e,C,j,e2,h1,i,av,l,o,b,e5,h2⟩;exact⟨v,e,C,j,e2,h1,i,av,l,o,b,e5,h _ _ h2⟩
open PySem L2 MLab
open PyProof.Rows hiding K lo
def RY{G:Str->List Str}{N:List Str}{n:Nat}{R a:Rs Str}(h:Jg G N n R a):(a=R/\Ue G N R n [])\/R.length < a.length:=by
 induction h with
 | stop a=>exact .inl ⟨rfl,a⟩
 | more a ne k b=>
  right;rcases b with ⟨e,_⟩ | lt
  ·rw[e,tv];exact zba _
  ·rw[tv]at lt;exact zcl lt
def w2{G:Str->List Str}{N:List Str}{n:Nat}{R:Rs Str}(h:Jg G N n R R):Ue G N R n []:=by
 rcases RY h with ⟨_,a⟩ | lt
 ·exact a
 ·exact absurd lt (zaF _)
structure xJ(N:List Str)(R:Rs Str):Prop where
 sub:∀r∈R,∀z∈r.2,z∈N
 dis:R.Pairwise λr r'=>∀z∈r.2,z∉r'.2
 ne:∀r∈R,r.2≠[]
 srt:∀r∈R,r.2.Sublist N
def xJ.nil:xJ N []:=⟨λ_ h=>(nomatch h),zdt.nil,λ_ h=>(nomatch h),λ_ h=>(nomatch h)⟩
def xJ.more(o:xJ N R)(r:Ue G N R n ns)(ne:ns≠[]):xJ N (R++[(n,ns)]):=by
 refine⟨λx d z e=>?_,zdn.mpr ⟨o.dis,zbc _ _,λa i b j z e h=>?_⟩,λx d=>?_,λx d=>?_⟩
 ·rcases tN.mp d with d | d
  ·exact o.sub x d z e
  ·rw[tK.mp d]at e;exact((r.iff z).mp e).1
 ·rw[tK.mp j]at h;exact Xb.mp ((r.iff z).mp h).2.1 a i e
 ·rcases tN.mp d with d | d
  ·exact o.ne x d
  ·rw[tK.mp d];exact ne
 ·rcases tN.mp d with d | d
  ·exact o.srt x d
  ·rw[tK.mp d];exact r.sub
def vn(h:Jg G N n R a):xJ N R->xJ N a:=by
 induction h with
 | stop a=>exact id
 | more a ne k b=>exact λd=>b (d.more a ne)
def AM(h:All G N n R a):xJ N R->xJ N a:=by
 induction h with
 | stop a=>exact id
 | more g ne k a=>exact λb=>a (vn g b)
def w4(h:Jg (QJ rs) (rs.map (·.1)) n R d):JU rs (qE d)<=JU rs (qE R)/\(d≠R->JU rs (qE d) < JU rs (qE R)):=by
 induction h with
 | stop d=>exact⟨tf _,λe=>absurd rfl e⟩
 | more d ne k i=>
  have:=Uc (λz i=>let ⟨a,b,_⟩:=(d.iff z).mp i;⟨a,b⟩) ne (n:=n) (rs:=rs);exact⟨by omega,λ_=>by omega⟩
def yZ:∀{R:Rs Str},xJ N R->R.length<=N.length:=λ{R} j=>by
 have ed:∀R:Rs Str,(R.Pairwise λa d=>∀z∈a.2,z∉d.2)->(∀a∈R,a.2≠[])->∃b:List Str,b.length=R.length/\b.Nodup/\∀z∈b,∃a∈R,z∈a.2:=by
  intro R;induction R with
  | nil=>exact λ_ _=>⟨[],rfl,zbh,λz h=>(nomatch h)⟩
  | cons a R i=>
   intro r ne;obtain⟨b,l,o,sub⟩:=i (zdw.mp r).2 (λx p=>ne x (tG _ p));obtain⟨z,t,e⟩:=zcF (ne a tO);have i:z∈a.2:=by rw[e];exact tO
   refine⟨z::b,by simp [l],zah.mpr ⟨λm=>?_,o⟩,λy p=>?_⟩
   ·obtain⟨d,q,u⟩:=sub z m;exact(zdw.mp r).1 d q z i u
   ·rcases tL.mp p with rfl | p
    ·exact⟨a,tO,i⟩
    ·obtain⟨d,q,h⟩:=sub y p;exact⟨d,tG _ q,h⟩
 obtain⟨b,l,o,sub⟩:=ed R j.dis j.ne;rw[<-l];exact Jr o λz i=>let ⟨a,hr,h⟩:=sub z i;j.sub a hr z h
inductive UN(CG:Addr)(vs:List V)(H:Hp)(Q:VK):Prop
 | mk (g d:Addr) (rs:jG):vs=[.ref g,.ref d]->jt CG H g rs->qf rs->(rs.length<=14)->(je (rs.map (·.1)) H d (qE []))->vC CG H g d->(∀H' l ps R,H l=none->H' l=some (.lst (ps.map V.ref))->jI H' ps (R.map (·.2))->(∀p∈ps,H p=none)->je (rs.map (·.1)) H' d (qE R)->All (QJ rs) (rs.map (·.1)) 0 [] R->Fr H d H'->Q (.ref l) H')->UN CG vs H Q
def Mc(a:Addr):Sp:=λb H Q _=>UN a b H Q
abbrev Dc:List Str:=["ground","numbered","rounds","number","more"]
abbrev vZ:List Str:=["ground","numbered"]
def yG:qm Dc vZ (qg VA):=Qm
def GU(F:jL K "give_numbers" "give_numbers" VA f l)(B:QB mg)(G:j7 mg)(T:Qn K mg)(M:GM K mg m)(o:qW K mg "numbers_behind" Bv BL z C)(p:qW K mg "lacking" Jb ["numbers"] D J)(r:qW K mg "gets_number" Xs WO L O)(y:qW K mg "round_of" Ya Zh U Y)(j:qW K mg "give_number" UW Zh fV aE):qp P w K mg base jh 7 f l vZ (Mc m):=by
 have l:=pin P w mg base (M0 j.fn B G T M o p r y);refine F.okK yG λH Q E hr h=>?_;obtain⟨g,d,r,rfl,gr,good,ah,hd,ap,q⟩:=h;refine⟨_,qb (qG 2 (Ql jT))
  (qb (qG 3 qk)
  (qb (qG 4 (qD j l (kA (jv 0) (jv 1) (jv 3))))
  (qb (zF PassesOwn.never (qo J7 (qu qx (by rfl) B.len boot_len (qT (jv 4))) qk)
   (qb (q5 (YF zaI zcb zcc Yj (jv 2) (qT (jv 4))))
   (qb (RA (i:=3) yG.nd rfl (Or.inl rfl) qk RL)
   (qe (qG 4 (qD j l (kA (jv 0) (jv 1) (jv 3))))))))
  (qe (qr (jv 2)))))),?_⟩
 refine⟨JB,λp J=>?_⟩;have j:qi H (upd H p (.lst [])):=qd J;obtain⟨av,ac⟩:=hd.isd;have ae:p≠d:=λe=>by rw[e,ac]at J;cases J
 have ai:∀{l:Hp},Fr H d l->vC m l g d:=λfr _ lo _ h=>by
  obtain⟨_,_,_,_,o,_⟩:=gr;have:=fr _ _ o (λe=>by rw[e,ac]at o;cases o);rw[h]at this;cases this;exact ap _ _ _ o
 have C:Fr H d (upd H p (.lst [])):=Fr.refl.own J;refine⟨_,rfl,_,rfl,_,rfl,g,d,r,[],0,rfl,gr.mono j,good,ah,hd.mono j,ai C,λ_ l1 m aw L ax ay az aA aB Y=>?_⟩;refine zw (λO l=>∃(D:Addr) (n:Nat) (y m:List Addr) (R:Rs Str) (z:List (List Str)),O=[some (.ref g),some (.ref d),some (.ref p),some (.int (n:Nat)),some (.ref D)]/\Fr H d l/\l p=some (.lst (y.map V.ref))/\jI l y (R.map (·.2))/\l D=some (.lst (m.map V.ref))/\jI l m z/\
   je (r.map (·.1)) l d (qE (R++z.map λx=>(n,x)))/\Jg (QJ r) (r.map (·.1)) n R (R++z.map λx=>(n,x))/\(∀U,All (QJ r) (r.map (·.1)) n R U->All (QJ r) (r.map (·.1)) 0 [] U)/\D≠p/\(∀j∈y,j≠p/\H j=none)/\(∀j∈m,j≠p/\H j=none)/\xJ (r.map (·.1)) R)
  (λO l=>Zy (r.map (·.1)) l d*2+(match O with | [_,_,_,_,some (.ref D)]=>(match l D with | some (.lst (_::_))=>1 | _=>0) | _=>0))
  ⟨l1,0,[],m,[],aw,rfl,C.trans Y,Y _ _ qa ae,.nil,ax,ay,aA,aB,λU h=>h,(λe=>by rw[e,qa]at L;cases L),λj h=>(nomatch h),?_,.nil⟩ ?_ ?_
 ·intro j C;have o:=az j C;have L:j≠p:=λe=>by rw[e,qa]at o;cases o
  exact⟨L,by rw[qc L]at o;exact o⟩
 ·rintro O l ⟨D,n,y,m,R,z,rfl,fr,Y,aa,hl,rn,num,gv,al,nl,np,aj,od⟩;obtain⟨_,_⟩:=num.isd;have ak:=vn gv od;have ol:=yZ ak;rw[tv,ta,ta]at ol;refine⟨_,rfl,D,_,rfl,.inl (.of hl),_,_,rfl,rfl,_,rfl,?_⟩;rw[ta];cases c:z with
  | nil=>
   subst c;have e0:m=[]:=zaX rn.1;subst e0;rw[zbX,zak]at gv num;refine jV (by decide) ⟨_,rfl,?_⟩;exact q l p y R J Y aa (λj C=>(np j C).2) num (al R (.stop (w2 gv))) fr
  | cons x0 rest=>
   have ne:z≠[]:=by rw[c];simp
   clear c;have lp:m.length=z.length:=rn.1;have pos:=zds.mpr ne;refine j4 (decide_eq_true (by show (0:Int) < (m.length:Int);omega)) ?_;refine⟨_,rfl,.inl ⟨rfl,_,.of Y⟩,_,rfl,p,D,_,_,rfl,rfl,Y,hl,?_,?_⟩
   ·rw[ta,ta,aa.1,ta,lp];exact zac (qh (by omega))
   ·have e5:y.map V.ref++m.map V.ref=(y++m).map V.ref:=by rw[tj]
    rw[e5];have Y:Fr H d (upd l p (.lst ((y++m).map V.ref))):=fr.own J;have ab:upd l p (.lst ((y++m).map V.ref)) p=some (.lst ((y++m).map V.ref)):=qa;have r3:jI (upd l p (.lst ((y++m).map V.ref))) (y++m) ((R++z.map λx=>(n,x)).map (·.2)):=by
     have J:(R++z.map λx=>(n,x)).map (·.2)=R.map (·.2)++z:=by
      rw[tj,zam];congr 1;exact List.map_id z
     rw[J];refine jI.app ⟨aa.1,λi j x J e2=>?_⟩ ⟨rn.1,λi j x J e2=>?_⟩
     ·rw[qc (np j (tP J)).1];exact aa.2 i j x J e2
     ·rw[qc (aj j (tP J)).1];exact rn.2 i j x J e2
    have af:je (r.map (·.1)) (upd l p (.lst ((y++m).map V.ref))) d (qE (R++z.map λx=>(n,x))):=⟨let ⟨kvs,a,b⟩:=num.at_;⟨kvs,by rw[qc (Ne.symm ae)];exact a,b⟩⟩;have aC:R++z.map (λx=>(n,x))≠R:=λe=>by
     have:=congrArg zav e;rw[tv,ta]at this;omega
    generalize R++z.map (λx=>(n,x))=z at*;generalize upd l p (.lst ((y++m).map V.ref))=G3 at Y r3 ab af ⊢;obtain⟨_,am⟩:=af.isd;refine⟨_,rfl,_,_,rfl,rfl,?_⟩;refine⟨_,rfl,_,rfl,_,rfl,g,d,r,z,n+1,rfl,gr.fr ⟨av,ac⟩ ap Y,good,ah,af,ai Y,λH4 l4 p an ao aq ar aD as au ag=>?_⟩;refine⟨⟨l4,n+1,y++m,p,z,an,rfl,Y.trans ag,ag _ _ ab ae,r3.fr am ag,aq,ar,as,au,λU h=>al U (.more gv aC h),(λe=>by rw[e,ab]at ao;cases ao),?_,?_,ak⟩,?_⟩
    ·intro j C;rcases tN.mp C with C | C
     ·exact np j C
     ·exact aj j C
    ·intro j C;have o:=aD j C;refine⟨(λe=>by rw[e,ab]at o;cases o),?_⟩;cases L:H j with
     | none=>rfl
     | some u=>
      by_cases c:j=d
      ·rw[c,am]at o;cases o
      ·rw[Y _ _ L c]at o;cases o
    ·show Zy (r.map (·.1)) H4 d*2+(match H4 l4 with | some (.lst (_::_))=>1 | _=>0) < Zy (r.map (·.1)) l d*2+(match l D with | some (.lst (_::_))=>1 | _=>0);have y:=w4 au;rw[as.bare,num.bare,aq,hl];obtain⟨_,_,J⟩:=List.exists_cons_of_length_pos (by omega:0 < m.length);rw[J];show _ < JU r (qE z)*2+1;cases an with
     | nil=>
      have e0:p=[]:=zaX ar.1;rw[e0];show _+0 < _;have:=y.1;omega
     | cons m r=>
      have:=y.2 λe=>by
       have:=congrArg zav e;rw[tv,ta]at this;simp at this
      have m:(match (some (HO.lst (p.map V.ref)):Option HO) with | some (.lst (_::_))=>1 | _=>0)<=1:=by split<;>omega
      omega
 ·rintro O l Q _ h ⟨v,e,j,m,e2,o,i,p,r,y,b,e5,L⟩;exact⟨v,e,j,m,e2,o,i,p,r,y,b,e5,h _ _ L⟩
open PySem L2 MLab
open PyProof.Rows hiding K lo
def Wd(R:Rs Str)(i:Nat):Str->Option Nat:=λz=>(qE (R.take i) z).map λ_=>ZD R z
def vS(o:xJ N R)(hr:R[i]?=some r)(hz:z∈r.2):ZD R z=i:=by
 obtain⟨a,b⟩:=td.mp hr;unfold ZD;rw[List.findIdx_eq a];refine⟨by rw[b];exact decide_eq_true hz,λd e=>decide_eq_false λm=>?_⟩;have:=zaJ.mp o.dis d i (by omega) a e z m;rw[b]at this;exact this hz
def Uw(o:xJ N R)(hr:R[i]?=some r)(hz:z∈r.2):Wd R i z=none:=by
 unfold Wd;have:qE (R.take i) z=none:=Xb.mpr λx b m=>by
  obtain⟨_,a⟩:=zaP b;rw[zcG]at a;split at a
  ·have b:=vS o a m;have b:=vS o hr hz;omega
  ·cases a
 rw[this];rfl
def x3(o:xJ N R)(hr:R[i]?=some r)(z:Str):YR (Wd R i) i r.2 z=Wd R (i+1) z:=by
 unfold YR;by_cases c:z∈r.2
 ·rw[if_pos c];have n:=Uw o hr c;unfold Wd at n ⊢;have a:qE (R.take i) z=none:=by
   cases e:qE (R.take i) z with
   | none=>rfl
   | some m=>rw[e]at n;cases n
  rw[tz,hr];show _=(qE (R.take i++[(r.1,r.2)]) z).map _;rw[Nd a c,vS o hr c];rfl
 ·rw[if_neg c];unfold Wd;rw[tz,hr];show _=(qE (R.take i++[(r.1,r.2)]) z).map _;rw[Jf];cases qE (R.take i) z with
  | some m=>rfl
  | none=>
   show _=Option.map _ (if z∈r.2 then some r.1 else none);rw[if_neg c]
def u0(R:Rs Str)(z:Str):Wd R R.length z=(qE R z).map λ_=>ZD R z:=by
 unfold Wd;rw[tu (tf _)]
def zE(rs:jG)(R:Rs Str)(z:Str):List V:=match qE R z with
 | some n=>[.str "number",.int (n:Nat),.int (ZD R z:Nat)]
 | none=>[.str "endless",.int (Rb.setN (YO rs (qE R) z):Nat)]
structure Wa(H:Hp)(D:Addr)(rs:jG)(R:Rs Str):Prop where
 at_:∃kvs:List (qF×V),H D=some (.dK kvs)/\kvs.map (·.1)=(rs.map (·.1)).map Sum.inr/\∀r∈rs,∃t,qO kvs (Sum.inr r.1:qF)=some (.ref t)/\H t=some (.tup (zE rs R r.1))
def Wa.mono(h:Wa H D rs R)(s:qi H H'):Wa H' D rs R:=⟨let ⟨kvs,a,b,c⟩:=h.at_;⟨kvs,s _ _ a,b,λd hr=>let ⟨t,u,v⟩:=c d hr;⟨t,u,s _ _ v⟩⟩⟩
def yk:∀(n:Nat) (L:List Nat),(∀m,m<=n->m∈L)->n*(n+1)<=2*L.sum
 | 0,_,_=>by simp
 | n+1,L,h=>by
  have a:=h (n+1) (tf _);have b:=yk n (L.erase (n+1)) λm _=>(zbq (by omega)).mpr (h m (by omega));have b:L.sum=(n+1)+(L.erase (n+1)).sum:=by
   have:=(zdo a).sum_nat;rw[this,zaH]
  rw[b];have:(n+1)*(n+1+1)=n*(n+1)+2*(n+1):=by
   rw[Nat.mul_comm,<-Nat.add_mul]
  omega
def Uv{f g:α->Nat}:∀{l:List α},(∀x∈l,f x<=g x)->(l.map f).sum<=(l.map g).sum
 | [],_=>tf _
 | a::l,h=>by
  rw[tM,tM,zaH,zaH];have:=h a tO;have:=Uv (l:=l) λx hx=>h x (tG _ hx);omega
def DA{rs:jG}(a:(rs.map (·.1)).Nodup)(z:Str):(QJ rs z).Nodup:=by
 unfold QJ;split
 ·exact a.sublist zao
 ·exact zbh
def zg(good:qf rs)(L:Zc (QJ rs) (·∈rs.map (·.1)) num d9)(d:x∈rs.map (·.1))(e:num x=some n):n<=8:=by
 have i:∀m,m<=n->m∈rs.map λa=>(num a.1).getD 0:=λm _=>by
  rcases zbY m n with c | c
  ·obtain⟨y,b,h,_⟩:=L.n1 d e c;obtain⟨a,hr,rfl⟩:=tc.mp (L.cl d b);exact tc.mpr ⟨a,hr,by rw[h];rfl⟩
  ·have:m=n:=by omega
   subst this;obtain⟨a,hr,rfl⟩:=tc.mp d;exact tc.mpr ⟨a,hr,by rw[e];rfl⟩
 have d:=yk n _ i;have d:(rs.map λa=>(num a.1).getD 0).sum<=(rs.map λa=>a.2.length).sum:=Uv λa hr=>by
  cases c:num a.1 with
  | none=>exact zat _
  | some m=>
   show m<=_;have d:a.1∈rs.map (·.1):=tc.mpr ⟨a,hr,rfl⟩;have:(tQ m).length<=((QJ rs a.1).filterMap num).length:=Jr zbo λ_ i=>by
    obtain⟨y,b,h,_⟩:=L.n1 d c (zai.mp i);exact zaC.mpr ⟨y,b,h⟩
   rw[zaf]at this;have d:=zal num (QJ rs a.1);have h:(QJ rs a.1).length<=a.2.length:=Jr (DA good.nd _) λy b=>(V3 good hr).mp b;omega
 have d:=good.few;rcases zbY 8 n with c | c
 ·have:9*10<=n*(n+1):=zbV c (by omega);omega
 ·exact c
inductive WD(CG:Addr)(vs:List V)(H:Hp)(Q:VK):Prop
 | mk (g:Addr) (rs:jG):vs=[.ref g]->jt CG H g rs->qf rs->(rs.length<=14)->(∀H' D R,qi H H'->H D=none->Wa H' D rs R->All (QJ rs) (rs.map (·.1)) 0 [] R->Q (.ref D) H')->WD CG vs H Q
def Kj(a:Addr):Sp:=λb H Q _=>WD a b H Q
abbrev nLb:List Str:=["ground","numbered","steps","step","names","name","labels"]
def HL:qm nLb ["ground"] (qg YW):=Qm
structure Ug(K:zdM)(mg:Str->Option Value):Prop where
 lack:∃f fd,qW K mg "lacking" Jb ["numbers"] f fd
 seto:∃f fd,qW K mg "set_of" z9 ["numbers"] f fd
 nb:∃f fd,qW K mg "numbers_behind" Bv BL f fd
 gets:∃f fd,qW K mg "gets_number" Xs WO f fd
 round:∃f fd,qW K mg "round_of" Ya Zh f fd
 give:∃f fd,qW K mg "give_number" UW Zh f fd
 gives:∃f fd,qW K mg "give_numbers" VA vZ f fd
 labels:∃f fd,qW K mg "labels_of" YW ["ground"] f fd
def Yg(F:jL K "labels_of" "labels_of" YW f j)(B:QB mg)(G:j7 mg)(T:Qn K mg)(M:GM K mg r)(Y:Ug K mg):qp P w K mg base jh 8 f j ["ground"] (Kj r):=by
 obtain⟨_,_,l⟩:=Y.lack;obtain⟨_,_,o⟩:=Y.seto;obtain⟨_,_,j⟩:=Y.nb;obtain⟨_,_,v⟩:=Y.gets;obtain⟨_,_,C⟩:=Y.round;obtain⟨_,_,J⟩:=Y.give;obtain⟨_,_,p⟩:=Y.gives;have O:=pin P w mg base (GU p.fn B G T M j l v C J);have J:=pin P w mg base (BM j.fn B G T M);have U:=pin P w mg base (U5 o.fn);obtain⟨_,_,v⟩:=M.cls;obtain⟨_,_,C⟩:=M.nm;have GM:=pin P w mg base (Jw C.fn v G);refine F.okK HL λH Q E hr h=>?_;obtain⟨g,l,rfl,gr,good,af,q⟩:=h;have r1:jd 1 _:=hr.mono (by decide);refine⟨_,qb (qG 1 jX)
  (qb (qG 2 jX)
  (qb (qP (zJ (by rfl) T.enu (qT (qD p O (jQ (jv 0) (jv 1))))) (QH rfl (qH (qz 3) (qH (qz 4) j3)))
   (qe (qP (qy (jv 4)) (qz 5) (qe (jl (jv 2) (jv 5) (jv 3))))))
  (qb (qG 6 jX)
  (qb (qP (qy (za C v.cl GM r1 (jv 0))) (qz 5)
   (qe (qJ (QY (ZL (jv 5) (jv 1)))
    (qe (jl (jv 6) (jv 5) (jm (kA qL (qA (jv 1) (jv 5)) (qA (jv 2) (jv 5))))))
    (qe (jl (jv 6) (jv 5) (jm (jQ qL (qD o U (qT (qD j J (kA (jv 0) (jv 1) (jv 5))))))))))))
  (qe (qr (jv 6))))))),?_⟩
 intro d hd st j;have v:qi H (upd H d (.dK [])):=qd hd;have o:qi H (upd (upd H d (.dK [])) st (.dK [])):=v.trans (qd j);have C:upd (upd H d (.dK [])) st (.dK []) d=some (.dK []):=ql qa j;have p:upd (upd H d (.dK [])) st (.dK []) st=some (.dK []):=qa;have an:d≠st:=λe=>by rw[<-e,qa]at j;cases j
 have ay:H st=none:=jE v j;generalize upd (upd H d (.dK [])) st (.dK [])=j at o C p;have v:∀{a:Addr},j a=some (.dK [])->je (l.map (·.1)) j a (qE []):=λh=>⟨[],h,λz=>rfl,zbh,λk h=>(nomatch h)⟩;have ap:∀{j:Hp} {a:Addr},qi H j->H a=none->vC r j g a:=λJ O dx lo _ h=>by
  obtain⟨_,_,_,_,h1,_,j,_⟩:=gr;have:=J _ _ h1;rw[h]at this;cases this;exact λe=>by rw[e,O]at j;cases j
 refine⟨_,rfl,_,rfl,g,d,l,rfl,gr.mono o,good,af,v C,ap o hd,λr j C R v O ag _ num all U=>?_⟩;have J:=AM all .nil;have oL:=yZ J;rw[ta]at oL;have s3:qi H r:=λb u h=>U b u (o _ _ h) (qj h hd);have ao:r st=some (.dK []):=U _ _ p (Ne.symm an);obtain⟨_,_⟩:=num.isd;have U:j≠st:=λe=>by rw[e,p]at v;cases v
 have L:=VT (Qb good.nd) all;refine⟨j,rfl,⟨_,.of O⟩,?_⟩;refine ZN (K:=K) (a:=j) (xs:=C.map V.ref) (λi v o=>∃v3 v4 p,v=[some (.ref g),some (.ref d),some (.ref st),v3,v4,p,none]/\je (l.map (·.1)) o st (Wd R i)/\Fr r st o)
  ⟨none,none,none,rfl,⟨[],ao,λz=>rfl,zbh,λk h=>(nomatch h)⟩,Fr.refl⟩ (λi v o _ ⟨_,_,_,_,_,f⟩=>.of (f _ _ O U)) ?_ ?_
 ·rintro i x v o U O hp ⟨v3,v4,p,rfl,Z2,ab⟩;rw[tw]at O;cases ep:C[i]? with
  | none=>rw[ep]at O;cases O
  | some pi=>
   rw[ep]at O;obtain rfl:=(tA.inj O).symm;have li:i < R.length:=by
    have:=(td.mp ep).1;have:=ag.1;rw[ta]at this;omega
   obtain⟨j,C⟩:∃j,R[i]?=some j:=⟨_,tr li⟩;have ah:=ag.2 i pi j.2 ep (by rw[tw,C];rfl);have az:pi≠st:=λe=>by rw[e,ao]at ah;cases ah
   have sp:qi o (upd o U (.tup [.int (i:Nat),V.ref pi])):=qd hp;have ai:Fr r st (upd o U (.tup [.int (i:Nat),V.ref pi])):=ab.same sp;have rN:∀z∈j.2,z∈l.map (·.1):=J.sub j (tP C);refine⟨U,_,rfl,.of qa,rfl,_,_,rfl,_,_,rfl,rfl,?_⟩;have aq:∀{G2:Hp},Fr r st G2->G2 pi=some (.lst (j.2.map V.str)):=λf=>f _ _ ah az;have ar:=Z2.mono sp;generalize upd o U (.tup [.int (i:Nat),V.ref pi])=U at sp ai ar;refine⟨_,rfl,pi,rfl,⟨_,.of (aq ai)⟩,?_⟩;have aA:j.2.Nodup:=good.nd.sublist (J.srt j (tP C));refine jb (K:=K) (a:=pi) (xs:=j.2.map V.str) (λaa ac G2=>∃p,ac=[some (.ref g),some (.ref d),some (.ref st),some (.int (i:Nat)),some (.ref pi),p,none]/\je (l.map (·.1)) G2 st (YR (Wd R i) i (j.2.take aa))/\Fr r st G2)
    ⟨p,rfl,ar.congr λz=>by unfold YR;rw[List.take_zero,if_neg (by simp)],ai⟩ (λaa ac G2 _ ⟨_,_,_,f⟩=>.of (aq f)) ?_ ?_
   ·rintro aa y ac G2 hy ⟨aj,rfl,r,ak⟩;obtain⟨z,ez,hz,rfl⟩:=jO hy;by_cases nt:z∈j.2.take aa
    ·exfalso;obtain⟨_,hj⟩:=zaP nt;rw[zcG]at hj;split at hj
     . have h1:=(td.mp hj);have h2:=(td.mp ez);have:=Re aA (h1.2.trans h2.2.symm);omega
     . cases hj
    ·obtain⟨H4,put,aB,_,e4⟩:=r.put (n:=i) (rN z hz) (by unfold YR;rw[if_neg nt];exact Uw J C hz) (by rw[ta];exact af);refine⟨_,rfl,_,rfl,_,rfl,st,H4,rfl,put,_,rfl,aB.congr λy=>?_,?_⟩
     . unfold YR;rw[tz,ez];by_cases e:y=z
       ·subst e;rw[if_pos rfl,if_pos (by simp)]
       ·rw[if_neg e];by_cases m:y∈j.2.take aa
        ·rw[if_pos m,if_pos (tV _ m)]
        ·rw[if_neg m,if_neg (by simp [m,e])]
     . rw[e4];exact ak.at_d
   ·rintro ac G2 ⟨aj,rfl,r,ak⟩;rw[ta,tu (tf _)]at r;exact⟨_,_,_,rfl,r.congr (x3 J C),ak⟩
 ·rintro v o ⟨v3,v4,p,rfl,Z2,ab⟩;rw[ta,ag.1,ta]at Z2;have Z2:=Z2.congr (u0 R);have sG:qi H o:=λb u h=>ab _ _ (s3 _ _ h) (qj h ay);have aC:je (l.map (·.1)) o d (qE R):=num.fr ab an;intro D hD;have J:qi o (upd o D (.dK [])):=qd hD;have as:H D=none:=jE sG hD;have al:upd o D (.dK []) D=some (.dK []):=qa;generalize upd o D (.dK [])=U at J al;obtain⟨dx,fs,r,l1,_⟩:=((gr.mono sG).mono J).ins;refine⟨_,rfl,g,dx,fs,rfl,r,l1,g,l,rfl,(gr.mono sG).mono J,λr am=>⟨r,rfl,⟨_,.of qa⟩,?_⟩⟩;have sL:qi U (upd U r (.lst ((l.map (·.1)).map V.str))):=qd am;have au:upd U r (.lst ((l.map (·.1)).map V.str)) r=some (.lst ((l.map (·.1)).map V.str)):=qa;have aD:r≠D:=λe=>by rw[e,al]at am;cases am
  generalize upd U r (.lst ((l.map (·.1)).map V.str))=G2 at sL au;have av:qi o G2:=J.trans sL;refine jb (K:=K) (a:=r) (xs:=(l.map (·.1)).map V.str) (λi v r=>∃p kvs,v=[some (.ref g),some (.ref d),some (.ref st),v3,v4,p,some (.ref D)]/\Fr G2 D r/\r D=some (.dK kvs)/\kvs.map (·.1)=((l.map (·.1)).take i).map Sum.inr/\
    ∀j∈l.take i,∃t,qO kvs (Sum.inr j.1:qF)=some (.ref t)/\r t=some (.tup (zE l R j.1)))
   ⟨p,[],rfl,Fr.refl,sL _ _ al,rfl,λj h=>(nomatch h)⟩ (λi v r _ ⟨_,_,_,f,_⟩=>.of (f _ _ au aD)) ?_ ?_
  ·rintro i y v r hy ⟨aj,kvs,rfl,fr,ae,ek,hv⟩;obtain⟨j,C,aw,rfl⟩:=Rf hy;have J:=(td.mp C).1;have J:qi o r:=λb u h=>fr _ _ (av _ _ h) (qj h hD);have sA:=sG.trans J;have nm:=aC.mono J;have ns:=Z2.mono J;have lk:kvs.length=i:=by
    have:=congrArg zav ek;rw[ta,ta,tE,ta]at this;omega
   have eN:(l.map (·.1))[i]?=some j.1:=by rw[tw,C];rfl
   have new:qO kvs (Sum.inr j.1:qF)=none:=Jz (by rw[ek];exact QX good.nd eN);have ew:∀(U:Hp) (t:Addr),Fr G2 D U->U D=some (.dK kvs)->qi r U->U t=some (.tup (zE l R j.1))->∃J,Jl U D (.str j.1) (.ref t) J/\
     ∃p kvs,[some (V.ref g),some (.ref d),some (.ref st),v3,v4,some (.str j.1),some (.ref D)]=[some (.ref g),some (.ref d),some (.ref st),v3,v4,p,some (.ref D)]/\Fr G2 D J/\J D=some (.dK kvs)/\kvs.map (·.1)=((l.map (·.1)).take (i+1)).map Sum.inr/\
      ∀j∈l.take (i+1),∃t,qO kvs (Sum.inr j.1:qF)=some (.ref t)/\J t=some (.tup (zE l R j.1)):=λU t f4 h4 p o=>by
    refine⟨_,Jl.k (k:=(Sum.inr j.1:qF)) h4 (qh (by omega)),some (.str j.1),jD kvs (Sum.inr j.1) (.ref t),rfl,f4.at_d,qa,?_,λr2 ax=>?_⟩
    ·rw[QR _ new,tj,ek,tz,eN,tj];rfl
    ·have tD:∀{b:Addr} {xs:List V},U b=some (.tup xs)->b≠D:=λhb e=>by rw[e,h4]at hb;cases hb
     rw[tz,C]at ax;rcases tN.mp ax with h | h
     . obtain⟨C,a,b⟩:=hv r2 h;have ne:r2.1≠j.1:=λe=>by rw[e,new]at a;cases a
       refine⟨C,?_,?_⟩
       ·rw[Qv,if_neg (λq=>ne (Sum.inr.inj q))];exact a
       ·rw[qc (tD (p _ _ b))];exact p _ _ b
     . have:r2=j:=by simpa using h
       subst this;refine⟨t,?_,?_⟩
       ·rw[Qv,if_pos rfl]
       ·rw[qc (tD o)];exact o
   refine⟨_,rfl,_,rfl,d,_,rfl,nm.get j.1,_,rfl,?_⟩;cases c:qE R j.1 with
   | some n=>
    have g1:=nm.get j.1;have g2:=ns.get j.1;rw[c]at g1 g2;refine QA ⟨_,rfl,_,rfl,d,_,rfl,g1,_,rfl,_,rfl,st,_,rfl,g2,JB,λt o=>?_⟩;have C:zE l R j.1=[.str "number",.int (n:Nat),.int (ZD R j.1:Nat)]:=by unfold zE;rw[c]
    obtain⟨J,put,k⟩:=ew (upd r t (.tup [.str "number",.int (n:Nat),.int (ZD R j.1:Nat)])) t (fr.same (qd o)) (ql ae o) (qd o) (by rw[C];exact qa);exact⟨_,rfl,_,rfl,D,J,rfl,put,k⟩
   | none=>
    have gN:=L;refine jp ⟨_,rfl,_,rfl,_,rfl,g,d,l,j.1,qE R,rfl,gr.mono sA,good,af,tc.mpr ⟨j,aw,rfl⟩,nm,λH4 U p _ aE=>?_⟩;refine⟨U,_,rfl,.of aE,λx O=>?_,JB,λt o=>?_⟩
    ·obtain⟨y,hy,U⟩:=Qc.mp O;have:=zg good L (Qb good.nd _ (tc.mpr ⟨j,aw,rfl⟩) y hy) U;omega
    ·have C:zE l R j.1=[.str "endless",.int (Rb.setN (YO l (qE R) j.1):Nat)]:=by unfold zE;rw[c]
     obtain⟨J,put,k⟩:=ew (upd H4 t (.tup [.str "endless",.int (Rb.setN (YO l (qE R) j.1):Nat)])) t ((fr.same p).same (qd o)) (ql (p _ _ ae) o) (p.trans (qd o)) (by rw[C];exact qa);exact⟨_,rfl,_,rfl,D,J,rfl,put,k⟩
  ·rintro v r ⟨aj,kvs,rfl,fr,ae,ek,hv⟩;rw[ta,tu (tf _)]at ek;rw[ta,ta,tu (tf _)]at hv;exact⟨_,rfl,q r D R (λb u h=>fr _ _ (av _ _ (sG _ _ h)) (qj h as)) as ⟨kvs,ae,ek,hv⟩ all⟩
open PySem L2 Rb
open PyProof.Rows hiding K lo
abbrev zd:Stmt:=top 35
abbrev YV:Stmt:=top 36
abbrev ZC:Stmt:=top 12
abbrev zz:Stmt:=top 40
abbrev Xr:Stmt:=top 41
abbrev Xl:Stmt:=top 45
abbrev Xo:Stmt:=jW (top 43) 0
abbrev Vy:Stmt:=jW (top 43) 1
abbrev vT:Stmt:=jW (top 43) 3
abbrev KF:Stmt:=jW (top 43) 4
abbrev yJ:Stmt:=jW (top 43) 5
abbrev Xu:Stmt:=jW (top 44) 0
abbrev VD:Stmt:=jW (top 44) 1
abbrev vW:Stmt:=jW (top 44) 3
abbrev KM:Stmt:=jW (top 44) 4
abbrev yM:Stmt:=jW (top 44) 5
def bx(a b:Nat):Builtin.bitXor a b=((a^^^b:Nat):Int):=by
 unfold Builtin.bitXor;rw[bo,ba];have:=Rb.or_and_xor a b;omega
inductive UF(vs:List V)(H:Hp)(Q:VK):Prop
 | mk (b:Nat):vs=[.int b]->(b < 65536)->(∀l,H l=none->Q (.ref l) (upd H l (.lst (Jn (Rb.memN b 16)))))->UF vs H Q
def N7:Sp:=λa H Q _=>UF a H Q
inductive WA(vs:List V)(H:Hp)(Q:VK):Prop
 | mk (b n:Nat):vs=[.int b,.int n]->(b < 65536)->(n < 16)->(∀H',qi H H'->Q (.int (Rb.turnN b n 16:Nat)) H')->WA vs H Q
def Ux:Sp:=λa H Q _=>WA a H Q
def AK(b:Nat):b < 2^ (Builtin.Int.intBits (b:Nat)):=by
 unfold Builtin.Int.intBits;by_cases h:b=0
 ·subst h;simp
 ·rw[if_neg (by simpa using h)];exact Nat.lt_log2_self
def W8(h:b < 65536):Builtin.Int.intBits (b:Nat)<=16:=by
 unfold Builtin.Int.intBits;by_cases a:b=0
 ·subst a;simp
 ·rw[if_neg (by simpa using a)];have:b.log2 < 16:=(Nat.log2_lt a).mpr h;exact this
def yD(b i:Nat):Builtin.bitAnd ((b:Int) / 2^ ((i:Nat):Int).toNat) 1=(((b.testBit i).toNat:Nat):Int):=by
 have a:(b:Int) / 2^ ((i:Nat):Int).toNat=((b / 2^i:Nat):Int):=by rw[zaj];push_cast;rfl
 have d:Builtin.bitAnd ((b / 2^i:Nat):Int) 1=(((b / 2^i)&&& 1:Nat):Int):=ba (b / 2^i) 1;rw[a,d,Nat.and_one_is_mod,Rb.testBit_div];by_cases h:b / 2^i % 2=1
 ·rw[h];rfl
 ·have a:b / 2^i % 2=0:=by omega
  rw[a];rfl
def Mq:qm ["bits"] ["bits"] (qg zd):=Qm
def XC(F:jL K "numbers_in" "numbers_in" zd f a)(B:QB mg):qp P w K mg base jh 1 f a ["bits"] N7:=by
 refine F.okK Mq λH Q E hr h=>?_;obtain⟨b,rfl,a,q⟩:=h;refine⟨_,qe (qr (jw (N':=["number","bits"]) (ix:=[none,some 0])
  (jq (by rfl) B.rng (qT (RK PySem.F.plainAttrs_int PySem.F.slot_int_bit_length PySem.F.type_int_bit_length wG (jv 0))))
  (λ_ _ _ fp _=>⟨qz 0,jP (qo QM (qM Gp (qM Gm (jv 1) (jv 0)) qk) qk),jv 0⟩))),?_⟩
 refine⟨_,rfl,rfl,_,rfl,rfl,_,rfl,by omega,?_,λD m=>?_⟩
 ·have:=W8 a;omega
 ·rw[zaj];refine Q5 (λi d j=>∃v,d=[v,some (.int b)]/\j=upd H D (.lst (Jn (Rb.memN b i)))) ⟨none,rfl,rfl⟩ ?_ ?_
  ·rintro i d j _ ⟨v,rfl,rfl⟩;rw[zbL];refine⟨_,rfl,_,rfl,_,_,rfl,rfl,by omega,_,_,rfl,rfl,rfl,_,rfl,?_⟩;have e:decide (V.int (Builtin.bitAnd ((b:Int) / 2^ ((i:Nat):Int).toNat) 1)=V.int 1)=b.testBit i:=by
    rw[yD];cases b.testBit i<;>decide
   rw[e];have o:(Jn (Rb.memN b i)).length < zdR:=by
    rw[Zn];refine qh ?_;have:=W8 a;have l:(Rb.memN b i).length<=(tQ i).length:=zas _ _;rw[zaf]at l;omega
   cases l:b.testBit i with
   | true=>
    refine QA ⟨_,rfl,_,qa,o,some (.int i),rfl,?_⟩;rw[jx,XR,Rb.memN_succ,l];rfl
   | false=>
    refine jp ⟨some (.int i),rfl,?_⟩;rw[Rb.memN_succ,l];simp
  ·rintro d j ⟨v,rfl,rfl⟩;rw[Rb.memN_same (m:=16) a (AK b)];exact q D m
def Kv:qm ["bits","number"] ["bits","number"] (qg YV):=Qm
def wx(F:jL K "set_turned" "set_turned" YV f d)(B:QB mg)(hN:qW K mg "numbers_in" zd ["bits"] j l)(a:qW K mg "set_of" z9 ["numbers"] o p):
  qp P w K mg base jh 2 f d ["bits","number"] Ux:=by
 have d:=pin P w mg base (XC hN.fn B);have j:=pin P w mg base (U5 a.fn);refine F.okK Kv λH Q E hr h=>?_;obtain⟨b,n,rfl,l,o,q⟩:=h;refine⟨_,qe (qr (qD a j (qT (jw (N':=["other","number"]) (ix:=[none,some 1])
  (qy (qD hN d (qT (jv 0))))
  (λ_ _ _ fp _=>⟨qz 0,qS,qM VJ (jv 0) (jv 1)⟩))))),?_⟩
 refine⟨_,rfl,b,rfl,l,λa p=>⟨a,rfl,⟨_,.of qa⟩,λD d=>?_⟩⟩;have l:a≠D:=λe=>by rw[e,qa]at d;cases d
 have r:H D=none:=by rw[<-d,qc (Ne.symm l)]
 refine jc (K:=K) (a:=a) (xs:=Jn (Rb.memN b 16)) (λi d j=>∃v,d=[v,some (.int n)]/\j=upd (upd H a (.lst (Jn (Rb.memN b 16)))) D (.lst (Jn (((Rb.memN b 16).take i).map (·^^^n))))) ⟨none,rfl,rfl⟩
  (λi d j _ ⟨_,_,e⟩=>.of (by rw[e,qc l];exact qa)) ?_ ?_
 ·rintro i x d j a ⟨v,rfl,rfl⟩;obtain⟨m,l,rfl⟩:=V1 a;refine⟨_,rfl,_,rfl,_,_,rfl,rfl,_,qa,?_,some (.int m),rfl,?_⟩
  ·rw[Zn,ta,tE];refine qh (tR (zcn _ _) ?_);have u:(Rb.memN b 16).length<=(tQ 16).length:=zas _ _;rw[zaf]at u;omega
  ·rw[jx]
   try dsimp only
   rw[bx,XR,z6 l,tj];rfl
 ·rintro d j ⟨v,rfl,rfl⟩;rw[Zn,tu (tf _)];refine⟨D,(Rb.memN b 16).map (·^^^n),rfl,.of qa,λx a=>?_,?_⟩
  ·obtain⟨y,d,rfl⟩:=tc.mp a;have:=Rb.xor_lt (m:=4) (Rb.mem_memN.mp d).1 o;omega
  ·exact q _ (qi.upd (qd p) r)
structure Cl(K:zdM)(mg:Str->Option Value)(x eJ eH:Str)(st:Stmt)(C f:Addr)(fd:zdQ):Prop where
 cl:Xc K C
 mkr:Mk K C f
 ns:mg x=some (.ref C)
 na:Qu K C eH
 fn:jL K "__init__" eJ st f fd
 bi:jZ K fd ["self",eH] []
 ca:tX K (.ref C) "__class__"=some (some (.builtin "object.__class__"))
 ob:zca K C (.type "object")=some true
structure Wk(K:zdM)(mg:Str->Option Value):Prop where
 isi:mg "isinstance"=none
 bool:mg "bool"=none
 kii:zaN K (.type "int") (.type "int")=some true
 kib:zaN K (.type "int") (.type "bool")=some false
 most:∃t,mg "MOST_NUMBER"=some (.int 15 t)
 mset:∃t,mg "MOST_BITS"=some (.int 65535 t)
def BV{f:Str}{v:V}:[(f,v)].lookup f=some v:=by simp [zaZ]
def JK(CN CE:Addr)(H:Hp)(a:Addr):W->Prop
 | .num n=>∃d,H a=some (.ins CN d [("number",.int (n:Nat))])
 | .edl b=>∃d,H a=some (.ins CE d [("bits",.int (b:Nat))])
def JK.same{CN CE:Addr}{H H':Hp}{a:Addr}{w:W}(h:JK CN CE H a w)(s:qi H H'):JK CN CE H' a w:=by
 cases w with
 | num n=>obtain⟨d,e⟩:=h;exact⟨d,s _ _ e⟩
 | edl b=>obtain⟨d,e⟩:=h;exact⟨d,s _ _ e⟩
def Qg:W->Str
 | .num _=>"number"
 | .edl _=>"endless"
def ZB:W->Nat
 | .num n=>n
 | .edl b=>b
inductive Wz(vs:List V)(H:Hp)(Q:VK):Prop
 | mk (i:Int):vs=[.int i]->(Q (.bl true) H)->Wz vs H Q
def u2:Sp:=λa H Q _=>Wz a H Q
inductive WC(vs:List V)(H:Hp)(Q:VK):Prop
 | mk (i:Int):vs=[.int i]->(0<=i)->(i<=15)->(Q (.bl true) H)->WC vs H Q
def Kg:Sp:=λa H Q _=>WC a H Q
inductive UM(vs:List V)(H:Hp)(Q:VK):Prop
 | mk (i:Int):vs=[.int i]->(0<=i)->(i<=65535)->(Q (.bl true) H)->UM vs H Q
def Mb:Sp:=λa H Q _=>UM a H Q
def Ml:qm ["thing"] ["thing"] (qg ZC):=Qm
def U4(F:jL K "is_whole" "is_whole" ZC f a)(B:QB mg)(T:Wk K mg):qp P w K mg base jh 1 f a ["thing"] u2:=by
 refine F.okK Ml λH Q E hr h=>?_;obtain⟨i,rfl,q⟩:=h;refine⟨_,qe (qr (zk (qu jR (by rfl) T.isi boot_isinstance (jQ (jv 0) (Js (v:=.ty "int") (by rfl) B.int boot_int rfl)))
  (XP (Ds (qu jR (by rfl) T.isi boot_isinstance (jQ (jv 0) (Js (v:=.ty "bool") (by rfl) T.bool boot_bool rfl))))))),?_⟩
 exact⟨_,rfl,_,_,_,_,rfl,rfl,.int i,T.kii,_,rfl,QA ⟨_,rfl,_,_,_,_,rfl,rfl,.int i,T.kib,_,rfl,q⟩⟩
def Ky:qm ["thing"] ["thing"] (qg zz):=Qm
def wz(F:jL K "is_number" "is_number" zz f b)(B:QB mg)(T:Wk K mg)(a:qW K mg "is_whole" ZC ["thing"] d j):qp P w K mg base jh 2 f b ["thing"] Kg:=by
 have b:=pin P w mg base (U4 a.fn B T);obtain⟨t,d⟩:=T.most;refine F.okK Ky λH Q E hr h=>?_;obtain⟨i,rfl,j,l,q⟩:=h;refine⟨_,qe (qr (zk (qD a b (qT (jv 0))) (zk (Qe y1 qk (jv 0)) (XP (Qe y1 (jv 0) (QC (v:=.int 15) (by rfl) d ⟨_,rfl⟩)))))),?_⟩;refine⟨_,rfl,i,rfl,_,rfl,QA ⟨_,rfl,_,_,rfl,rfl,_,rfl,?_⟩⟩;rw[decide_eq_true j];refine QA ⟨_,rfl,_,_,rfl,rfl,?_⟩;have e:decide (i<=15)=true:=decide_eq_true l;show Q (.bl (decide (i<=15))) H;rw[e];exact q
def Mw:qm ["thing"] ["thing"] (qg Xr):=Qm
def GQ(F:jL K "is_set" "is_set" Xr f b)(B:QB mg)(T:Wk K mg)(a:qW K mg "is_whole" ZC ["thing"] d j):qp P w K mg base jh 2 f b ["thing"] Mb:=by
 have b:=pin P w mg base (U4 a.fn B T);obtain⟨t,d⟩:=T.mset;refine F.okK Mw λH Q E hr h=>?_;obtain⟨i,rfl,j,l,q⟩:=h;refine⟨_,qe (qr (zk (qD a b (qT (jv 0))) (zk (Qe y1 qk (jv 0)) (XP (Qe y1 (jv 0) (QC (v:=.int 65535) (by rfl) d ⟨_,rfl⟩)))))),?_⟩;refine⟨_,rfl,i,rfl,_,rfl,QA ⟨_,rfl,_,_,rfl,rfl,_,rfl,?_⟩⟩;rw[decide_eq_true j];refine QA ⟨_,rfl,_,_,rfl,rfl,?_⟩;have e:decide (i<=65535)=true:=decide_eq_true l;show Q (.bl (decide (i<=65535))) H;rw[e];exact q
inductive yv(C:Addr)(eH:Str)(hi:Int)(vs:List V)(H:Hp)(Q:VK):Prop
 | mk (x dx:Addr) (n:Int):vs=[.ref x,.int n]->(0<=n)->(n<=hi)->H x=some (.ins C dx [])->(Q .non (upd H x (.ins C dx [(eH,.int n)])))->yv C eH hi vs H Q
def Vr(C:Addr)(eH:Str)(a:Int):Sp:=λb H Q _=>yv C eH a b H Q
def Mu:qm ["self","number"] ["self","number"] (qg Xo):=Qm
def Gx(F:jL K "__init__" "Numbered.__init__" Xo f b)(B:QB mg)(T:Wk K mg)(d:qW K mg "is_whole" ZC ["thing"] i j)(a:qW K mg "is_number" zz ["thing"] l m)(cl:Xc K CN)(e:Qu K CN "number"):
  qp P w K mg base jh 3 f b ["self","number"] (Vr CN "number" 15):=by
 have b:=pin P w mg base (wz a.fn B T d);refine F.okK Mu λH Q E hr h=>?_;obtain⟨x,d,n,rfl,i,j,l,q⟩:=h;refine⟨_,qb (qJ (Qk (jH (qD a b (qT (jv 1))))) qC qt) (qe (VX (jv 0) (jv 1) rfl)),?_⟩;exact⟨_,rfl,n,rfl,i,j,_,rfl,jp ⟨_,rfl,_,rfl,x,CN,d,[],rfl,l,cl,e,by decide,q⟩⟩
def MA:qm ["self","bits"] ["self","bits"] (qg Xu):=Qm
def GZ{P:Program}{w:World}{K:zdM}{mg:Str->Option Value}{base:Heap}{f d e CE:Addr}{a i j:zdQ}(F:jL K "__init__" "Endless.__init__" Xu f a)(B:QB mg)(T:Wk K mg)(l:qW K mg "is_whole" ZC ["thing"] e j)(b:qW K mg "is_set" Xr ["thing"] d i)(cl:Xc K CE)(m:Qu K CE "bits"):
  qp P w K mg base jh 3 f a ["self","bits"] (Vr CE "bits" 65535):=by
 have a:=pin P w mg base (GQ b.fn B T l);refine F.okK MA λH Q E hr h=>?_;obtain⟨x,d,n,rfl,e,i,j,q⟩:=h;refine⟨_,qb (qJ (Qk (jH (qD b a (qT (jv 1))))) qC qt) (qe (VX (jv 0) (jv 1) rfl)),?_⟩;exact⟨_,rfl,n,rfl,e,i,_,rfl,jp ⟨_,rfl,_,rfl,x,CE,d,[],rfl,j,cl,m,by decide,q⟩⟩
def yl(CN CE:Addr):Sp:=λb H Q _=>∃a w,b=[.ref a]/\JK CN CE H a w/\∀b,H b=none->Q (.ref b) (upd H b (.tup [.str (Qg w),.int (ZB w:Nat)]))
def Vn(CN CE:Addr):Sp:=λb H Q E=>(∃a n,b=[.ref a]/\JK CN CE H a (.num n))/\yl CN CE b H Q E
def Vo(CN CE:Addr):Sp:=λd H Q E=>(∃a b,d=[.ref a]/\JK CN CE H a (.edl b))/\yl CN CE d H Q E
def JK.inj{CN CE:Addr}(i:CN≠CE){H:Hp}{a:Addr}{u v:W}(h:JK CN CE H a u)(g:JK CN CE H a v):u=v:=by
 cases u<;>cases v<;>obtain⟨_,e⟩:=h<;>obtain⟨_,b⟩:=g<;>rw[e]at b
 ·have:=(HO.ins.inj (tA.inj b)).2.2;have d:=zcz.inj this;have j:=V.int.inj (Prod.mk.inj d.1).2;congr 1;omega
 ·exact absurd (HO.ins.inj (tA.inj b)).1 i
 ·exact absurd (HO.ins.inj (tA.inj b)).1 (Ne.symm i)
 ·have:=(HO.ins.inj (tA.inj b)).2.2;have d:=zcz.inj this;have j:=V.int.inj (Prod.mk.inj d.1).2;congr 1;omega
def Ms:qm ["self"] ["self"] (qg Vy):=Qm
def Gw{P:Program}{w:World}{K:zdM}{mg:Str->Option Value}{base:Heap}{f CN CE:Addr}{b:zdQ}(F:jL K "told" "Numbered.told" Vy f b)(cl:Xc K CN)(d:Qu K CN "number")(i:CN≠CE):qp P w K mg base jh 1 f b ["self"] (Vn CN CE):=by
 refine F.okK Ms λH Q E hr h=>?_;obtain⟨⟨a,n,rfl,b⟩,_,w,e,j,q⟩:=h;cases e;have l:=JK.inj i j b;subst l;obtain⟨i,j⟩:=b;refine⟨_,qe (qr (jm (jQ qL (QI (jv 0) rfl)))),?_⟩;exact⟨_,rfl,a,CN,i,_,_,rfl,j,cl,d,BV,JB,q⟩
def My:qm ["self"] ["self"] (qg VD):=Qm
def GY{P:Program}{w:World}{K:zdM}{mg:Str->Option Value}{base:Heap}{f CN CE:Addr}{d:zdQ}(F:jL K "told" "Endless.told" VD f d)(cl:Xc K CE)(i:Qu K CE "bits")(j:CN≠CE):qp P w K mg base jh 1 f d ["self"] (Vo CN CE):=by
 refine F.okK My λH Q E hr h=>?_;obtain⟨⟨a,b,rfl,d⟩,_,w,e,l,q⟩:=h;cases e;have m:=JK.inj j l d;subst m;obtain⟨j,l⟩:=d;refine⟨_,qe (qr (jm (jQ qL (QI (jv 0) rfl)))),?_⟩;exact⟨_,rfl,a,CE,j,_,_,rfl,l,cl,i,BV,JB,q⟩
inductive Bq(b:Bool)(vs:List V)(H:Hp)(Q:VK):Prop
 | mk (a:_):vs=[.ref a]->(Q (.bl b) H)->Bq b vs H Q
def x5(b:Bool):Sp:=λa H Q _=>Bq b a H Q
def Cy:qm ["self"] ["self"] (qg yJ):=Qm
def MW(F:jL K "is_endless" "Numbered.is_endless" yJ f b):qp P w K mg base jh 1 f b ["self"] (x5 false):=by
 refine F.okK Cy λH Q E hr h=>?_;obtain⟨a,rfl,q⟩:=h;exact⟨_,qe (qr Qz),q⟩
def CD:qm ["self"] ["self"] (qg yM):=Qm
def M6(F:jL K "is_endless" "Endless.is_endless" yM f b):qp P w K mg base jh 1 f b ["self"] (x5 true):=by
 refine F.okK CD λH Q E hr h=>?_;obtain⟨a,rfl,q⟩:=h;exact⟨_,qe (qr Qz),q⟩
structure WF(K:zdM)(mg:Str->Option Value) where
 (CN CE fNI fEI fNT fET fNO fEO fNP fEP fNE fEE fW fB fS fT fN fO:Addr)
 (dNI dEI dNT dET dNO dEO dNP dEP dNE dEE dW dB dS dT dN dO:zdQ)
 ne:CN≠CE
 cN:Cl K mg "Numbered" "Numbered.__init__" "number" Xo CN fNI dNI
 cE:Cl K mg "Endless" "Endless.__init__" "bits" Xu CE fEI dEI
 nT:kY K CN "told" "Numbered.told" Vy ["self"] fNT dNT
 eT:kY K CE "told" "Endless.told" VD ["self"] fET dET
 nO:kY K CN "outcome" "Numbered.outcome" KF ["self"] fNO dNO
 eO:kY K CE "outcome" "Endless.outcome" KM ["self"] fEO dEO
 nP:kY K CN "plus" "Numbered.plus" vT ["self","other"] fNP dNP
 eP:kY K CE "plus" "Endless.plus" vW ["self","other"] fEP dEP
 nE:kY K CN "is_endless" "Numbered.is_endless" yJ ["self"] fNE dNE
 eE:kY K CE "is_endless" "Endless.is_endless" yM ["self"] fEE dEE
 hW:qW K mg "is_whole" ZC ["thing"] fW dW
 hB:qW K mg "is_number" zz ["thing"] fB dB
 hS:qW K mg "is_set" Xr ["thing"] fS dS
 hT:qW K mg "set_turned" YV ["bits","number"] fT dT
 hN:qW K mg "numbers_in" zd ["bits"] fN dN
 hO:qW K mg "set_of" z9 ["numbers"] fO dO
def isE:W->Bool
 | .num _=>false
 | .edl _=>true
def WF.gNI(h:WF K mg)(B:QB mg)(T:Wk K mg):qp P w K mg base jh 3 h.fNI h.dNI ["self","number"] (Vr h.CN "number" 15):=Gx h.cN.fn B T h.hW h.hB h.cN.cl h.cN.na
def WF.gEI(h:WF K mg)(B:QB mg)(T:Wk K mg):qp P w K mg base jh 3 h.fEI h.dEI ["self","bits"] (Vr h.CE "bits" 65535):=GZ h.cE.fn B T h.hW h.hS h.cE.cl h.cE.na
def WF.gNT(h:WF K mg):qp P w K mg base jh 1 h.fNT h.dNT ["self"] (Vn h.CN h.CE):=Gw h.nT.fn h.cN.cl h.cN.na h.ne
def WF.gET(h:WF K mg):qp P w K mg base jh 1 h.fET h.dET ["self"] (Vo h.CN h.CE):=GY h.eT.fn h.cE.cl h.cE.na h.ne
def WF.gNE(h:WF K mg):qp P w K mg base jh 1 h.fNE h.dNE ["self"] (x5 false):=MW h.nE.fn
def WF.gEE(h:WF K mg):qp P w K mg base jh 1 h.fEE h.dEE ["self"] (x5 true):=M6 h.eE.fn
def WF.gT(h:WF K mg)(B:QB mg):qp P w K mg base jh 2 h.fT h.dT ["bits","number"] Ux:=wx h.hT.fn B h.hN h.hO
def Ad{f g:Str}{v:V}(h:(g==f)=false):[(f,v)].lookup g=none:=by simp [zaZ,h]
def n1:((zdN "is_endless")==(zdN "number"))=false:=by decide+kernel
def n2:((zdN "is_endless")==(zdN "bits"))=false:=by decide+kernel
def n3:((zdN "told")==(zdN "number"))=false:=by decide+kernel
def n4:((zdN "told")==(zdN "bits"))=false:=by decide+kernel
def n5:((zdN "plus")==(zdN "number"))=false:=by decide+kernel
def n6:((zdN "plus")==(zdN "bits"))=false:=by decide+kernel
def DI{CN CE a:Addr}{H:Hp}{w:W}{Q:VK}(h:JK CN CE H a w)(q:Q (.bl (isE w)) H):∃i d fs,V.ref a=.ref i/\fs.lookup (zdN "is_endless")=none/\((H i=some (.ins CN d fs)/\x5 false [V.ref a] H Q E0)\/(H i=some (.ins CE d fs)/\x5 true [V.ref a] H Q E0)):=by
 cases w with
 | num n=>obtain⟨d,e⟩:=h;exact⟨a,d,_,rfl,Ad n1,.inl ⟨e,a,rfl,q⟩⟩
 | edl b=>obtain⟨d,e⟩:=h;exact⟨a,d,_,rfl,Ad n2,.inr ⟨e,a,rfl,q⟩⟩
def NV{CN CE a:Addr}{H:Hp}{w:W}{Q:VK}(h:JK CN CE H a w)(q:∀p,H p=none->Q (.ref p) (upd H p (.tup [.str (Qg w),.int (ZB w:Nat)]))):
  ∃i d fs,V.ref a=.ref i/\fs.lookup (zdN "told")=none/\((H i=some (.ins CN d fs)/\Vn CN CE [V.ref a] H Q E0)\/(H i=some (.ins CE d fs)/\Vo CN CE [V.ref a] H Q E0)):=by
 cases w with
 | num n=>obtain⟨d,e⟩:=id h;exact⟨a,d,_,rfl,Ad n3,.inl ⟨e,⟨a,n,rfl,h⟩,a,_,rfl,h,q⟩⟩
 | edl b=>obtain⟨d,e⟩:=id h;exact⟨a,d,_,rfl,Ad n4,.inr ⟨e,⟨a,b,rfl,h⟩,a,_,rfl,h,q⟩⟩
def RH{X:Cx}(h:WF X.K X.mg)(hr:jd 1 X.A)(l:JE X o m)(p:eval (.Call (.Attribute o "is_endless" b_) [] [] pos) X.env=(eval o X.env >>= λd=>standAt b_.atName >>= λ_=>holding [d] (getMethod d "is_endless" pl) >>= λr=>callWith pos r.1 r.2 (backTo pos (starEach [] X.env)) (backToKw pos (keywordEach [] X.env))):=by rfl):
  JE X (.Call (.Attribute o "is_endless" b_) [] [] pos) (λj H Q=>m j H λx b=>∃a u,x=.ref a/\JK h.CN h.CE b a u/\Q (.bl (isE u)) b):=
 Y8 (Ym (xi l) h.cN.cl h.nE.me h.gNE hr h.nE.bi h.cE.cl h.eE.me h.gEE hr h.eE.bi p) λj H Q q=>⟨_,q,λx b ⟨a,u,e,i,b⟩=>by subst e;exact DI i b⟩
def xj{X:Cx}(h:WF X.K X.mg)(hr:jd 1 X.A)(l:JE X o m)(v:eval (.Call (.Attribute o "told" b_) [] [] pos) X.env=(eval o X.env >>= λd=>standAt b_.atName >>= λ_=>holding [d] (getMethod d "told" pl) >>= λr=>callWith pos r.1 r.2 (backTo pos (starEach [] X.env)) (backToKw pos (keywordEach [] X.env))):=by rfl):
  JE X (.Call (.Attribute o "told" b_) [] [] pos) (λj H Q=>m j H λx b=>∃a u,x=.ref a/\JK h.CN h.CE b a u/\∀p,b p=none->Q (.ref p) (upd b p (.tup [.str (Qg u),.int (ZB u:Nat)]))):=
 Y8 (Ym (xi l) h.cN.cl h.nT.me h.gNT hr h.nT.bi h.cE.cl h.eT.me h.gET hr h.eT.bi v) λj H Q q=>⟨_,q,λx b ⟨a,u,e,i,b⟩=>by subst e;exact NV i b⟩
inductive UC(CN CE:Addr)(vs:List V)(H:Hp)(Q:VK):Prop
 | mk (a:_) (o:_) (n:_) (v:_):vs=[.ref a,.ref o]->(JK CN CE H a (.num n))->JK CN CE H o v->(n < 16)->okW v->(∀H' r,qi H H'->JK CN CE H' r (Zu (.num n) v)->Q (.ref r) H')->UC CN CE vs H Q
def yo(CN CE:Addr):Sp:=λa H Q _=>UC CN CE a H Q
inductive UD(CN CE:Addr)(vs:List V)(H:Hp)(Q:VK):Prop
 | mk (a:_) (o:_) (b:_) (v:_):vs=[.ref a,.ref o]->(JK CN CE H a (.edl b))->JK CN CE H o v->(b < 65536)->okW v->(∀H' r,qi H H'->JK CN CE H' r (Zu (.edl b) v)->Q (.ref r) H')->UD CN CE vs H Q
def yp(CN CE:Addr):Sp:=λa H Q _=>UD CN CE a H Q
def VQ{CN CE:Addr}{H:Hp}{x a:Addr}{n:Nat}(e:H x=none)(hd:H a=none)(d:a≠x):qi H (upd (upd (upd H a (.own x)) x (.ins CN a [])) x (.ins CN a [("number",.int (n:Nat))]))/\JK CN CE (upd (upd (upd H a (.own x)) x (.ins CN a [])) x (.ins CN a [("number",.int (n:Nat))])) x (.num n):=
 ⟨λb _ d=>by rw[qc (qj d e),qc (qj d e),qc (qj d hd)];exact d,a,qa⟩
def VR{CN CE:Addr}{H:Hp}{x a:Addr}{b:Nat}(e:H x=none)(hd:H a=none)(d:a≠x):qi H (upd (upd (upd H a (.own x)) x (.ins CE a [])) x (.ins CE a [("bits",.int (b:Nat))]))/\JK CN CE (upd (upd (upd H a (.own x)) x (.ins CE a [])) x (.ins CE a [("bits",.int (b:Nat))])) x (.edl b):=
 ⟨λb _ d=>by rw[qc (qj d e),qc (qj d e),qc (qj d hd)];exact d,a,qa⟩
def Mz:qm ["self","other"] ["self","other"] (qg vW):=Qm
def WF.gEP{P:Program}{w:World}{K:zdM}{mg:Str->Option Value}{base:Heap}(h:WF K mg)(B:QB mg)(T:Wk K mg):qp P w K mg base jh 5 h.fEP h.dEP ["self","other"] (yp h.CN h.CE):=by
 refine h.eP.fn.okJ Mz (λd H Q E z=>?_) (λ_ A _ s H d Q E hr z=>?_)
 ·obtain⟨a,d,b,v,rfl,_⟩:=z;rfl
 ·obtain⟨a,d,b,v,rfl,p,m,r,o,q⟩:=z;refine⟨_,qb (qJ (jH (RH h (hr.mono (by decide)) (jv 1))) (qe (qr (Qd h.cE.mkr (h.gEI B T) hr (by rfl) h.cE.ns h.cE.bi .nil Qi (qT qk)))) qt)
   (qe (qr (Qd h.cE.mkr (h.gEI B T) hr (by rfl) h.cE.ns h.cE.bi .nil Qi (qT (qD h.hT (h.gT B) (jQ (QI (jv 0) rfl) (QI (jv 1) rfl))))))),?_⟩
  refine⟨_,rfl,d,v,rfl,m,_,rfl,?_⟩;cases v with
  | edl c=>
   refine QA (λx e i hd j=>⟨x,e,0,rfl,by decide,by decide,qa,rfl,?_⟩);obtain⟨l,u⟩:=VR (CN:=h.CN) (CE:=h.CE) (b:=0) i hd j;exact q _ _ l u
  | num n=>
   obtain⟨u,y⟩:=id p;obtain⟨p,C⟩:=id m;refine jp ⟨_,rfl,a,h.CE,u,_,_,rfl,y,h.cE.cl,h.cE.na,BV,_,rfl,d,h.CN,p,_,_,rfl,C,h.cN.cl,h.cN.na,BV,b,n,rfl,r,o,λ_ l x e i hd j=>?_⟩;have lt:=Vi (k:=4) (b:=b) (tf _) o;refine⟨x,e,_,rfl,by omega,?_,qa,rfl,?_⟩
   ·have:turnN b n 16 < 65536:=lt;omega
   ·obtain⟨d,e⟩:=VR (CN:=h.CN) (CE:=h.CE) (b:=turnN b n 16) i hd j;exact q _ _ (l.trans d) e
def Mt:qm ["self","other"] ["self","other"] (qg vT):=Qm
def WF.gNP(h:WF K mg)(B:QB mg)(T:Wk K mg):qp P w K mg base jh 6 h.fNP h.dNP ["self","other"] (yo h.CN h.CE):=by
 refine h.nP.fn.okJ Mt (λd H Q E z=>?_) (λ_ A _ s H d Q E hr z=>?_)
 ·obtain⟨a,d,b,v,rfl,_⟩:=z;rfl
 ·obtain⟨a,d,n,v,rfl,o,e,p,r,q⟩:=z;refine⟨_,qb (qJ (jH (RH h (hr.mono (by decide)) (jv 1))) (qe (qr (vl h.eP h.cE.cl (h.gEP B T) hr (jv 1) (qT (jv 0))))) qt)
   (qe (qr (Qd h.cN.mkr (h.gNI B T) (hr.mono (by decide)) (by rfl) h.cN.ns h.cN.bi .nil Qi (qT (qM VJ (QI (jv 0) rfl) (QI (jv 1) rfl)))))),?_⟩
  refine⟨_,rfl,d,v,rfl,e,_,rfl,?_⟩;cases v with
  | edl c=>
   obtain⟨j,l⟩:=id e;exact QA ⟨_,rfl,d,j,_,rfl,l,Ad n6,_,rfl,d,a,c,.num n,rfl,e,o,r,p,λu y s i=>q u y s i⟩
  | num m=>
   obtain⟨u,y⟩:=id o;obtain⟨j,l⟩:=id e;refine jp ⟨_,rfl,a,h.CN,u,_,_,rfl,y,h.cN.cl,h.cN.na,BV,_,rfl,d,h.CN,j,_,_,rfl,l,h.cN.cl,h.cN.na,BV,_,_,rfl,rfl,λx d e hd j=>?_⟩;have lt:n^^^m < 16:=xor_lt (m:=4) p r;refine⟨x,d,((n^^^m:Nat):Int),by rw[<-bx];rfl,by omega,by omega,qa,rfl,?_⟩;obtain⟨d,l⟩:=VQ (CN:=h.CN) (CE:=h.CE) (n:=n^^^m) e hd j;exact q _ _ d l
def MN{CN CE a:Addr}{H:Hp}{u:W}{Q:VK}{t:TA}{j:L2.St}(h:JK CN CE H a u)(hu:okW u)(x:t j H λvs d=>∃o v,vs=[.ref o]/\JK CN CE d a u/\JK CN CE d o v/\okW v/\∀H' r,qi d H'->JK CN CE H' r (Zu u v)->Q (.ref r) H')
  (mono:∀R m:List V->Hp->Prop,(∀vs H,R vs H->m vs H)->t j H R->t j H m):
  ∃l i fs,V.ref a=.ref l/\fs.lookup (zdN "plus")=none/\((H l=some (.ins CN i fs)/\t j H λvs d=>yo CN CE (V.ref a::vs) d Q E0)\/(H l=some (.ins CE i fs)/\t j H λvs d=>yp CN CE (V.ref a::vs) d Q E0)):=by
 cases u with
 | num n=>
  obtain⟨i,e⟩:=id h;exact⟨a,i,_,rfl,Ad n5,.inl ⟨e,mono _ _ (λvs d ⟨o,v,j,l,m,p,q⟩=>⟨a,o,n,v,by rw[j],l,m,hu,p,q⟩) x⟩⟩
 | edl b=>
  obtain⟨i,e⟩:=id h;exact⟨a,i,_,rfl,Ad n6,.inr ⟨e,mono _ _ (λvs d ⟨o,v,j,l,m,p,q⟩=>⟨a,o,b,v,by rw[j],l,m,hu,p,q⟩) x⟩⟩
def Ap{X:Cx}(h:WF X.K X.mg)(B:QB X.mg)(T:Wk X.K X.mg)(hr:jd 6 X.A)(m:JE X o p)(C:JA X [e] t)(D:starEach [e] X.env=(false,eval e X.env)::starEach [] X.env:=by rfl)(J:eval (.Call (.Attribute o "plus" b_) [e] [] pos) X.env=(eval o X.env >>= λl=>standAt b_.atName >>= λ_=>holding [l] (getMethod l "plus" pl) >>= λr=>callWith pos r.1 r.2 (backTo pos (starEach [e] X.env)) (backToKw pos (keywordEach [] X.env))):=by rfl):
  JE X (.Call (.Attribute o "plus" b_) [e] [] pos) (λd H Q=>p d H λx j=>∃a u,x=.ref a/\JK h.CN h.CE j a u/\okW u/\t d j λvs b=>∃o v,vs=[.ref o]/\JK h.CN h.CE b a u/\JK h.CN h.CE b o v/\okW v/\∀H' r,qi b H'->JK h.CN h.CE H' r (Zu u v)->Q (.ref r) H'):=
 Y8 (RF (xi m) h.cN.cl h.nP.me (h.gNP B T) hr h.nP.bi h.cE.cl h.eP.me (h.gEP B T) (hr.mono (by decide)) h.eP.bi (FF C) D rfl J) λd H Q q=>⟨_,q,λx j ⟨a,u,e,i,hu,d⟩=>by
  subst e;exact MN (t:=aWk t) i hu ⟨_,d,λvs b z=>z⟩ λR _ k ⟨G,g,z⟩=>⟨G,g,λvs b y=>k vs b (z vs b y)⟩⟩
def Wl(CN CE:Addr)(H:Hp)(as:List Addr)(b:List W):Prop:=as.length=b.length/\∀(i:Nat) (a:Addr) (u:W),as[i]?=some a->b[i]?=some u->JK CN CE H a u
inductive Uy(K:zdM)(CN CE:Addr)(vs:List V)(H:Hp)(Q:VK):Prop
 | mk (l:Addr) (as:List Addr) (ws:List W):vs=[.ref l]->(Q6 K H l (as.map V.ref))->Wl CN CE H as ws->((∀u∈ws,okW u))->(∀H' r,qi H H'->JK CN CE H' r (JY ws)->Q (.ref r) H')->Uy K CN CE vs H Q
def N3(K:zdM)(CN CE:Addr):Sp:=λa H Q _=>Uy K CN CE a H Q
def Mo:qm ["worths","total","worth"] ["worths"] (qg Xl):=Qm
def V4{a:List W}(h:∀u∈a,okW u)(i:Nat):okW ((a.take i).foldl Zu (.num 0)):=by
 have b:∀u∈a.take i,okW u:=λu hu=>h u (zbW hu);rw[vp b];exact uF b
def Gs{P:Program}{w:World}{K:zdM}{mg:Str->Option Value}{base:Heap}{f:Addr}{a:zdQ}(F:jL K "sum_of" "sum_of" Xl f a)(h:WF K mg)(B:QB mg)(T:Wk K mg):qp P w K mg base jh 7 f a ["worths"] (N3 K h.CN h.CE):=by
 refine F.okK Mo λH Q E hr z=>?_;obtain⟨j,as,a,rfl,l,r,u,q⟩:=z;refine⟨_,qb (qG 1 (Qd h.cN.mkr (h.gNI B T) (hr.mono (by decide)) (by rfl) h.cN.ns h.cN.bi .nil Qi (qT qk)))
  (qb (qP (qy (jv 0)) (qz 2) (qe (qG 1 (Ap h B T hr (jv 1) (qT (jv 2))))))
  (qe (qr (jv 1)))),?_⟩
 intro x b d hd m;refine⟨x,b,0,rfl,by decide,by decide,qa,rfl,?_⟩;obtain⟨o,p⟩:=VQ (CN:=h.CN) (CE:=h.CE) (n:=0) d hd m;refine⟨_,rfl,j,rfl,⟨_,o.seq l⟩,?_⟩;refine jb (K:=K) (a:=j) (xs:=as.map V.ref) (λi m b=>∃d v,m=[some (.ref j),some (.ref d),v]/\qi H b/\JK h.CN h.CE b d ((a.take i).foldl Zu (.num 0))) ⟨x,none,rfl,o,p⟩ (λi m b _ ⟨_,_,_,e,_⟩=>e.seq l) ?_ ?_
 ·rintro i y m b j ⟨d,v,rfl,o,l⟩;rw[tw]at j;cases p:as[i]? with
  | none=>rw[p]at j;cases j
  | some C=>
   rw[p]at j;obtain rfl:=(tA.inj j).symm;have j:i < a.length:=by
    have:=(td.mp p).1;rw[r.1]at this;exact this
   have D:a[i]?=some a[i]:=tr j;have io:=(r.2 i C _ p D).same o;have p:a.take (i+1)=a.take i++[a[i]]:=by rw[tz,D];rfl
   refine⟨_,rfl,d,_,rfl,l,V4 u i,_,rfl,C,_,rfl,l,io,u _ (zbH j),λ_ a j C=>?_⟩;refine⟨a,_,rfl,o.trans j,?_⟩;rw[p,zbT];exact C
 ·rintro m b ⟨d,v,rfl,o,l⟩;refine⟨_,rfl,q _ _ o ?_⟩;rw[ta,r.1,tu (tf _),vp u]at l;exact l
def kb:W->Str
 | .num n=>if n=0 then "lost" else "won"
 | .edl b=>if b.testBit 0=true then "won" else "drawn"
inductive yr(CN CE:Addr)(vs:List V)(H:Hp)(Q:VK):Prop
 | mk (a:_) (n:_):vs=[.ref a]->(JK CN CE H a (.num n))->(Q (.str (kb (.num n))) H)->yr CN CE vs H Q
def Kd(CN CE:Addr):Sp:=λa H Q _=>yr CN CE a H Q
inductive yt(CN CE:Addr)(vs:List V)(H:Hp)(Q:VK):Prop
 | mk (a:_) (b:_):vs=[.ref a]->(JK CN CE H a (.edl b))->(b < 65536)->(∀H',qi H H'->Q (.str (kb (.edl b))) H')->yt CN CE vs H Q
def Ke(CN CE:Addr):Sp:=λa H Q _=>yt CN CE a H Q
def Cw:qm ["self"] ["self"] (qg KF):=Qm
def CC:qm ["self"] ["self"] (qg KM):=Qm
def WF.gNO{P:Program}{w:World}{K:zdM}{mg:Str->Option Value}{base:Heap}(h:WF K mg):qp P w K mg base jh 1 h.fNO h.dNO ["self"] (Kd h.CN h.CE):=by
 refine h.nO.fn.okJ Cw (λb H Q E z=>?_) (λ_ A _ s H b Q E hr z=>?_)
 ·obtain⟨a,n,rfl,_⟩:=z;rfl
 ·obtain⟨a,n,rfl,⟨b,e⟩,q⟩:=z;refine⟨_,qb (qJ (qo QM (QI (jv 0) rfl) qk) (qe (qr qL)) qt) (qe (qr qL)),?_⟩;refine⟨_,rfl,a,h.CN,b,_,_,rfl,e,h.cN.cl,h.cN.na,BV,rfl,_,rfl,?_⟩;have q:Q (.str (if n=0 then "lost" else "won")) H:=q;by_cases c:n=0
  ·subst c;rw[if_pos rfl]at q;exact j4 (by decide) q
  ·rw[if_neg c]at q;exact jV (decide_eq_false λz=>c (by have:=V.int.inj z;omega)) q
def WF.gEO(h:WF K mg)(B:QB mg):qp P w K mg base jh 2 h.fEO h.dEO ["self"] (Ke h.CN h.CE):=by
 have d:=pin P w mg base (XC h.hN.fn B);refine h.eO.fn.okJ CC (λi H Q E z=>?_) (λ_ A _ s H i Q E hr z=>?_)
 ·obtain⟨a,b,rfl,_⟩:=z;rfl
 ·obtain⟨a,b,rfl,⟨i,e⟩,j,q⟩:=z;refine⟨_,qb (qJ (qo Jv qk (qD h.hN d (qT (QI (jv 0) rfl))) (by with_unfolding_all rfl)) (qe (qr qL)) qt) (qe (qr qL)),?_⟩;refine⟨_,rfl,a,h.CE,i,_,_,rfl,e,h.cE.cl,h.cE.na,BV,b,rfl,j,λd i=>?_⟩;refine⟨d,_,rfl,.inl (.of qa),rfl,ZM _,_,rfl,?_⟩;have j:J2 (.int ((0:Nat):Int)) (Jn (memN b 16))=b.testBit 0:=by
   rw[Yn];unfold memN;rw[zaq,decide_eq_true_iff,tZ];exact⟨λh=>h.2,λh=>⟨by decide,h⟩⟩
  have q:=q _ (qd (o:=HO.lst (Jn (memN b 16))) i);have q:Q (.str (if b.testBit 0=true then "won" else "drawn")) (upd H d (HO.lst (Jn (memN b 16)))):=q;show if J2 (.int ((0:Nat):Int)) (Jn (memN b 16))=true then _ else _
  rw[j];cases c:b.testBit 0 with
  | true=>rw[if_pos c]at q;exact QA q
  | false=>rw[if_neg (by rw[c];exact tI)]at q;exact jp q
def n7:((zdN "outcome")==(zdN "number"))=false:=by decide+kernel
def n8:((zdN "outcome")==(zdN "bits"))=false:=by decide+kernel
def MP{CN CE a:Addr}{H:Hp}{w:W}{Q:VK}(h:JK CN CE H a w)(ok:okW w)(q:∀H',qi H H'->Q (.str (kb w)) H'):
  ∃i d fs,V.ref a=.ref i/\fs.lookup (zdN "outcome")=none/\((H i=some (.ins CN d fs)/\Kd CN CE [V.ref a] H Q E0)\/(H i=some (.ins CE d fs)/\Ke CN CE [V.ref a] H Q E0)):=by
 cases w with
 | num n=>obtain⟨d,e⟩:=id h;exact⟨a,d,_,rfl,Ad n7,.inl ⟨e,a,n,rfl,h,q H λ_ _ z=>z⟩⟩
 | edl b=>obtain⟨d,e⟩:=id h;exact⟨a,d,_,rfl,Ad n8,.inr ⟨e,a,b,rfl,h,ok,q⟩⟩
def Aq{X:Cx}(h:WF X.K X.mg)(B:QB X.mg)(hr:jd 2 X.A)(l:JE X o m)(p:eval (.Call (.Attribute o "outcome" b_) [] [] pos) X.env=(eval o X.env >>= λd=>standAt b_.atName >>= λ_=>holding [d] (getMethod d "outcome" pl) >>= λr=>callWith pos r.1 r.2 (backTo pos (starEach [] X.env)) (backToKw pos (keywordEach [] X.env))):=by rfl):
  JE X (.Call (.Attribute o "outcome" b_) [] [] pos) (λj H Q=>m j H λx b=>∃a u,x=.ref a/\JK h.CN h.CE b a u/\okW u/\∀H',qi b H'->Q (.str (kb u)) H'):=
 Y8 (Ym (xi l) h.cN.cl h.nO.me h.gNO (hr.mono (by decide)) h.nO.bi h.cE.cl h.eO.me (h.gEO B) hr h.eO.bi p) λj H Q q=>⟨_,q,λx b ⟨a,u,e,i,k,b⟩=>by subst e;exact MP i k b⟩
open PySem L2 MLab Rb
open PyProof.Rows hiding K lo
abbrev Yb:Stmt:=top 25
abbrev Vz:Stmt:=top 57
abbrev DW:Stmt:=top 53
abbrev MB:Stmt:=top 59
abbrev Ha:Stmt:=top 60
abbrev Xm:Stmt:=top 61
structure zq(H:Hp)(h:Addr)(rs:jG)(hs:List Str):Prop where
 at_:H h=some (.lst (hs.map V.str))
 le:hs.length<=8
 in_:∀z∈hs,∃r∈rs,r.1=z
def zq.mono(x:zq H h rs a)(s:qi H H'):zq H' h rs a:=⟨s _ _ x.at_,x.le,x.in_⟩
inductive UE(CG:Addr)(vs:List V)(H:Hp)(Q:VK):Prop
 | mk (g:Addr) (rs:jG) (z:Str):vs=[.ref g,.str z]->jt CG H g rs->((∃r∈rs,r.1=z))->(∀H',qi H H'->Q .non H')->UE CG vs H Q
def N6(a:Addr):Sp:=λb H Q _=>UE a b H Q
inductive UH(CG:Addr)(vs:List V)(H:Hp)(Q:VK):Prop
 | mk (g h:Addr) (rs:jG) (hs:List Str):vs=[.ref g,.ref h]->jt CG H g rs->zq H h rs hs->(∀H',qi H H'->Q .non H')->UH CG vs H Q
def N9(a:Addr):Sp:=λb H Q _=>UH a b H Q
def TK(H H':Hp):Prop:=∀a b,H a=some (.tup b)->H' a=some (.tup b)
def TK.of(s:qi H H'):TK H H':=λa _ h=>s _ _ h
def TK.upd{H:Hp}(hd:H d=some o)(no:∀xs,o≠.tup xs):TK H (upd H d u):=λa xs h=>by
 rw[qc (λe=>by rw[e,hd]at h;exact no xs (tA.inj h))];exact h
def jS(rs:jG)(z:Str):List Str:=match rs.find? (λa=>decide (a.1=z)) with
 | some a=>a.2
 | none=>[]
def ZJ{rs:jG}(a:(rs.map (·.1)).Nodup)(h:r∈rs):jS rs r.1=r.2:=by
 unfold jS;rw[XV a h]
def qN(g:qf rs)(hz:z∈rs.map (·.1)):y∈jS rs z↔y∈QJ rs z:=by
 obtain⟨_,hr,rfl⟩:=tc.mp hz;rw[ZJ g.nd hr,V3 g hr]
def FB(g:qf rs)(L:Zc (QJ rs) (·∈rs.map (·.1)) num d9):Zc (jS rs) (·∈rs.map (·.1)) num d9 where
 cl:=λ{x y} a b=>L.cl a ((qN g a).mp b)
 n1:=λ{x n m} a e lt=>let ⟨y,b,k⟩:=L.n1 a e lt;⟨y,(qN g a).mpr b,k⟩
 n2:=λ{x y n} a e b=>L.n2 a e ((qN g a).mp b)
 n3:=λ{x y n} a e b gt=>let ⟨z,d,k⟩:=L.n3 a e ((qN g a).mp b) gt;⟨z,(qN g (L.cl a ((qN g a).mp b))).mpr d,k⟩
 n4:=λ{x y n m} a e b=>L.n4 a e ((qN g a).mp b)
 e:=λ{x m} a e lo h=>by
  obtain⟨y,b,i,j⟩:=L.e a e (λl o=>let ⟨y,b,k⟩:=lo l o;⟨y,(qN g a).mp b,k⟩) (λy b=>h y ((qN g a).mpr b));exact⟨y,(qN g a).mpr b,i,λz d=>j z ((qN g (L.cl a b)).mp d)⟩
abbrev DY:List Str:=["ground","thing"]
def HE:qm DY DY (qg Yb):=Qm
def XB(F:jL K "need_place" "need_place" Yb f a)(G:j7 mg)(M:GM K mg b):qp P w K mg base jh 2 f a DY (N6 b):=by
 obtain⟨_,_,b⟩:=M.cls;obtain⟨_,_,d⟩:=M.nm;have j:=pin P w mg base (Jw d.fn b G);refine F.okK HE λH Q E hr h=>?_;obtain⟨g,a,z,rfl,i,l,q⟩:=h;refine⟨_,qe (qJ (qo QS (jv 1) (za d b.cl j hr (jv 0)) (by with_unfolding_all rfl)) qC qt),?_⟩;obtain⟨b,fs,d,j,_⟩:=i.ins;refine⟨_,rfl,_,rfl,g,b,fs,rfl,d,j,g,a,rfl,i,λb d=>⟨b,_,rfl,.inl (.of qa),rfl,Q3 _,_,rfl,?_⟩⟩;have e:J2 (.str z) ((a.map (·.1)).map V.str)=true:=VZ (by obtain⟨b,i,rfl⟩:=l;exact tc.mpr ⟨b,i,rfl⟩);show if (!J2 (.str z) ((a.map (·.1)).map V.str))=true then _ else _
 rw[e];exact jp (q _ (qd d))
abbrev nNH:List Str:=["ground","heap","thing"]
def HI:qm nNH ["ground","heap"] (qg Vz):=Qm
def Gy(F:jL K "need_heap" "need_heap" Vz f a)(B:QB mg)(G:j7 mg)(T:Qn K mg)(M:GM K mg b)(d:qW K mg "need_place" Yb DY e j)(mt:∃t,mg "MOST_TOKENS"=some (.int 8 t)):qp P w K mg base jh 3 f a ["ground","heap"] (N9 b):=by
 have e:=pin P w mg base (XB d.fn G M);obtain⟨tk,j⟩:=mt;refine F.okK HI λH Q E hr h=>?_;obtain⟨g,b,l,m,rfl,o,a,q⟩:=h;refine⟨_,qb (qJ (Qk (jH (qu jR (by rfl) T.isi boot_isinstance (jQ (jv 1) (Js (v:=.ty "list") (by rfl) G.lst boot_list rfl))))) qC qt)
  (qb (qJ (qo J7 (qu qx (by rfl) B.len boot_len (qT (jv 1))) (QC (v:=.int 8) (by rfl) j ⟨_,rfl⟩)) qC qt)
  (qe (qP (qy (jv 1)) (qz 2) (qe (q5 (qD d e (jQ (jv 0) (jv 2)))))))),?_⟩
 refine⟨_,rfl,_,_,_,_,rfl,rfl,.lst a.at_,T.kll,_,rfl,jp ?_⟩;refine⟨_,rfl,b,_,rfl,.inl (.of a.at_),_,_,rfl,rfl,_,rfl,jV (decide_eq_false ?_) ?_⟩
 ·have:=a.le;rw[ta];omega
 refine⟨_,rfl,b,rfl,⟨_,.of a.at_⟩,?_⟩;refine jb (K:=K) (a:=b) (xs:=m.map V.str) (λi d G=>∃v,d=[some (.ref g),some (.ref b),v]/\qi H G) ⟨_,rfl,qi.refl H⟩ (λi d G _ ⟨_,_,s⟩=>.of (s _ _ a.at_)) ?_ ?_
 ·rintro i y d G e ⟨v,rfl,b⟩;obtain⟨z,_,j,rfl⟩:=jO e;exact⟨_,rfl,_,rfl,g,l,z,rfl,o.mono b,a.in_ z j,λ_ a=>⟨_,rfl,b.trans a⟩⟩
 ·rintro d G ⟨v,rfl,b⟩;exact q G b
def wT(rs:jG)(R:Rs Str)(z:Str):W:=match qE R z with
 | some n=>.num n
 | none=>.edl (setN (YO rs (qE R) z))
def Jx(e:qE R z=some n):wT rs R z=.num n:=by unfold wT;rw[e]
def Jy(e:qE R z=none):wT rs R z=.edl (setN (YO rs (qE R) z)):=by unfold wT;rw[e]
def Yx(good:qf rs)(L:Zc (QJ rs) (·∈rs.map (·.1)) (qE R) (ZD R))(hz:z∈rs.map (·.1)):okW (wT rs R z):=by
 cases e:qE R z with
 | some n=>
  rw[Jx e];have:=zg good L hz e;show n < 16;omega
 | none=>
  rw[Jy e];show setN _ < 65536;refine setN_lt (m:=16) λx a=>?_;obtain⟨y,b,d⟩:=Qc.mp a;have:=zg good L (L.cl hz b) d;omega
inductive Bi(CN CE:Addr)(vs:List V)(H:Hp)(Q:VK):Prop
 | mk (t:Addr) (rs:jG) (R:Rs Str) (z:Str):vs=[.ref t]->H t=some (.tup (zE rs R z))->(okW (wT rs R z))->(∀a H',qi H H'->JK CN CE H' a (wT rs R z)->Q (.ref a) H')->Bi CN CE vs H Q
def Eo(CN CE:Addr):Sp:=λa H Q _=>Bi CN CE a H Q
inductive u6(CN CE:Addr)(vs:List V)(H:Hp)(Q:VK):Prop
 | mk (D h:Addr) (rs:jG) (R:Rs Str) (hs:List Str):vs=[.ref D,.ref h]->Wa H D rs R->zq H h rs hs->((∀z∈hs,okW (wT rs R z)))->(∀a H',qi H H'->JK CN CE H' a (JY (hs.map (wT rs R)))->Q (.ref a) H')->u6 CN CE vs H Q
def Ej(CN CE:Addr):Sp:=λa H Q _=>u6 CN CE a H Q
inductive Bo(CG CN CE:Addr)(vs:List V)(H:Hp)(Q:VK):Prop
 | mk (g h:Addr) (rs:jG) (hs:List Str):vs=[.ref g,.ref h]->jt CG H g rs->qf rs->(rs.length<=14)->zq H h rs hs->(∀a H' R,qi H H'->All (QJ rs) (rs.map (·.1)) 0 [] R->JK CN CE H' a (JY (hs.map (wT rs R)))->Q (.ref a) H')->Bo CG CN CE vs H Q
def Hz(a CN CE:Addr):Sp:=λb H Q _=>Bo a CN CE b H Q
def HM:qm ["label"] ["label"] (qg DW):=Qm
def GD(F:jL K "label_worth" "label_worth" DW f a)(h:WF K mg)(B:QB mg)(T:Wk K mg):qp P w K mg base jh 5 f a ["label"] (Eo h.CN h.CE):=by
 refine F.okK HM λH Q E hr z=>?_;obtain⟨t,b,R,z,rfl,a,ok,q⟩:=z;refine⟨_,qb (qJ (qo QM (qU ja (jv 0) qk) qL) (qe (qr (Qd h.cN.mkr (h.gNI B T) hr (by rfl) h.cN.ns h.cN.bi .nil Qi (qT (qU ja (jv 0) qk))))) qt)
  (qe (qr (Qd h.cE.mkr (h.gEI B T) hr (by rfl) h.cE.ns h.cE.bi .nil Qi (qT (qU ja (jv 0) qk))))),?_⟩
 cases e:qE R z with
 | some n=>
  rw[Jx e]at ok q;have d:zE b R z=[.str "number",.int (n:Nat),.int (ZD R z:Nat)]:=by unfold zE;rw[e]
  rw[d]at a;refine⟨_,rfl,t,_,0,_,rfl,rfl,.of a,rfl,rfl,_,rfl,j4 (by decide+kernel) ?_⟩;refine⟨_,rfl,t,_,1,_,rfl,rfl,.of a,rfl,λx i j hd l=>⟨x,i,_,rfl,by omega,?_,qa,rfl,?_⟩⟩
  ·have:n < 16:=ok;omega
  ·obtain⟨m,o⟩:=VQ (CN:=h.CN) (CE:=h.CE) (n:=n) j hd l;exact q _ _ m o
 | none=>
  rw[Jy e]at ok q;have d:zE b R z=[.str "endless",.int (setN (YO b (qE R) z):Nat)]:=by unfold zE;rw[e]
  rw[d]at a;refine⟨_,rfl,t,_,0,_,rfl,rfl,.of a,rfl,rfl,_,rfl,jV (by decide+kernel) ?_⟩;refine⟨_,rfl,t,_,1,_,rfl,rfl,.of a,rfl,λx i j hd l=>⟨x,i,_,rfl,by omega,?_,qa,rfl,?_⟩⟩
  ·have:setN (YO b (qE R) z) < 65536:=ok;omega
  ·obtain⟨m,o⟩:=VR (CN:=h.CN) (CE:=h.CE) (b:=setN (YO b (qE R) z)) j hd l;exact q _ _ m o
def Ew:qm ["labels","heap"] ["labels","heap"] (qg MB):=Qm
def CY(F:jL K "worth_by" "worth_by" MB f j)(h:WF K mg)(B:QB mg)(T:Wk K mg)(d:qW K mg "label_worth" DW ["label"] m o)(l:qW K mg "sum_of" Xl ["worths"] p r):qp P w K mg base jh 8 f j ["labels","heap"] (Ej h.CN h.CE):=by
 have r:=pin P w mg base (GD d.fn h B T);have v:=pin P w mg base (Gs l.fn h B T);refine F.okK Ew λH Q E hr z=>?_;obtain⟨D,p,j,R,m,rfl,C,o,ok,q⟩:=z;have hu:=hu_of hr;refine⟨_,qe (qr (qD l v (qT (jw (N':=["place","labels"]) (ix:=[none,some 0]) (te:=Zs (Eo h.CN h.CE) [] E0 (qB (QQ (qw 1) (qw 0)) jJ)) (qy (jv 1)) (λ_ _ _ fp _=>
   ⟨qz 0,qS,qD d r (qT (qA (jv 1) (jv 0)))⟩))))),?_⟩
 refine⟨_,rfl,p,rfl,⟨_,.of o.at_⟩,λW J=>?_⟩;refine jc (K:=K) (a:=p) (xs:=m.map V.str) (λl p G=>∃(v0:Option V) (as:List Addr),p=[v0,some (.ref D)]/\qi H G/\G W=some (.lst (as.map V.ref))/\Wl h.CN h.CE G as ((m.take l).map (wT j R)))
  ⟨none,[],rfl,qd J,qa,rfl,λi a u e=>(nomatch e)⟩ (λl p G _ ⟨_,_,_,s,_⟩=>.of (s _ _ o.at_)) ?_ ?_
 ·rintro l y p G L ⟨v0,as,rfl,r,v,d⟩;obtain⟨z,U,x,rfl⟩:=jO L;obtain⟨kvs,Y,_,hv⟩:=(C.mono r).at_;obtain⟨L,aa,er⟩:=o.in_ z x;obtain⟨t,C,O⟩:=hv L aa;rw[er]at C O;refine⟨_,rfl,_,rfl,D,_,rfl,by rw[<-C];exact ju.k (k:=(Sum.inr z:qF)) Y,t,j,R,z,rfl,O,ok z x,λa O C Y=>?_⟩;have l8:=o.le;have o:=d.1;rw[ta,tE]at o;have o:H W=none:=J;refine⟨_,C _ _ v,by rw[ta];exact qh (by omega),_,as++[a],rfl,qi.upd (r.trans C) J,by rw[tj];exact qa,?_⟩;have up:∀{b:Addr} {u:Rb.W},JK h.CN h.CE O b u->JK h.CN h.CE (upd O W (.lst (as.map V.ref++[V.ref a]))) b u:=λ{b u} J=>by
   have O:=C _ _ v;cases u with
   | num n=>obtain⟨o,e⟩:=J;exact⟨o,by rw[qc (λq=>by rw[q,O]at e;cases e)];exact e⟩
   | edl n=>obtain⟨o,e⟩:=J;exact⟨o,by rw[qc (λq=>by rw[q,O]at e;cases e)];exact e⟩
  rw[tz,U,tj];refine⟨by rw[tv,tv,d.1];rfl,λi b u J o=>?_⟩;rcases Jp J with ⟨O,J⟩ | ⟨O,rfl⟩
  ·rcases Jp (show (List.map (wT j R) (m.take l)++[wT j R z])[i]?=some u from o) with ⟨_,o⟩ | ⟨O,_⟩
   ·exact up ((d.2 i b u J o).same C)
   ·have:=d.1;omega
  ·rcases Jp (show (List.map (wT j R) (m.take l)++[wT j R z])[i]?=some u from o) with ⟨O,_⟩ | ⟨_,rfl⟩
   ·have:=d.1;omega
   ·exact up Y
 ·rintro p G ⟨v0,as,rfl,r,v,d⟩;rw[ta,tu (tf _)]at d;refine⟨W,as,_,rfl,.of v,d,λu hu=>?_,λd L j l=>q L d (r.trans j) l⟩;obtain⟨z,x,rfl⟩:=tc.mp hu;exact ok z x
structure kZ(K:zdM)(mg:Str->Option Value):Prop where
 place:∃f fd,qW K mg "need_place" Yb DY f fd
 heap:∃f fd,qW K mg "need_heap" Vz ["ground","heap"] f fd
 lw:∃f fd,qW K mg "label_worth" DW ["label"] f fd
 sum:∃f fd,qW K mg "sum_of" Xl ["worths"] f fd
 wby:∃f fd,qW K mg "worth_by" MB ["labels","heap"] f fd
 hw:∃f fd,qW K mg "heap_worth" Ha ["ground","heap"] f fd
 outc:∃f fd,qW K mg "outcome" Xm ["ground","heap"] f fd
 most:∃t,mg "MOST_TOKENS"=some (.int 8 t)
def HU:qm ["ground","heap"] ["ground","heap"] (qg Ha):=Qm
def E6(F:jL K "heap_worth" "heap_worth" Ha f b)(h:WF K mg)(B:QB mg)(Z:Wk K mg)(G:j7 mg)(T:Qn K mg)(M:GM K mg d)(Y:Ug K mg)(O:kZ K mg):qp P w K mg base jh 9 f b ["ground","heap"] (Hz d h.CN h.CE):=by
 obtain⟨_,_,b⟩:=O.place;obtain⟨_,_,i⟩:=O.heap;obtain⟨_,_,d⟩:=O.lw;obtain⟨_,_,m⟩:=O.sum;obtain⟨_,_,j⟩:=O.wby;obtain⟨_,_,l⟩:=Y.labels;have r:=pin P w mg base (Gy i.fn B G T M b O.most);have u:=pin P w mg base (CY j.fn h B Z d m);have v:=pin P w mg base (Yg l.fn B G T M Y);refine F.okK HU λH Q E hr z=>?_;obtain⟨g,m,b,o,rfl,p,good,le,d,q⟩:=z;refine⟨_,qb (q5 (qD i r (jQ (jv 0) (jv 1))))
  (qe (qr (qD j u (jQ (qD l v (qT (jv 0))) (jv 1))))),?_⟩
 refine⟨_,rfl,_,rfl,g,m,b,o,rfl,p,d,λ_ i=>?_⟩;refine⟨_,rfl,g,b,rfl,p.mono i,good,le,λ_ D R j _ l all=>?_⟩;have L:=VT (Qb good.nd) all;refine⟨_,rfl,D,m,b,R,o,rfl,l,(d.mono i).mono j,λz b=>?_,λa l m o=>q a l R (i.trans (j.trans m)) all o⟩;obtain⟨i,j,e⟩:=d.in_ z b;exact Yx good L (tc.mpr ⟨i,j,e⟩)
def Cu:qm ["ground","heap"] ["ground","heap"] (qg Xm):=Qm
open PySem L2 MLab Rb
open PyProof.Rows hiding K lo
abbrev Yc:Stmt:=top 75
def atI_get{xs:List V}{r:Int}(a:0<=r)(b:r < (xs.length:Int)):∃v,Ve xs r=some v/\xs[r.toNat]?=some v:=by
 have:r.toNat < xs.length:=by omega
 refine⟨xs[r.toNat],?_,tr this⟩;unfold Ve BW;rw[if_pos a,if_pos b];exact tr this
inductive UK(vs:List V)(H:Hp)(Q:VK):Prop
 | mk (d l:Addr) (mo:Nat) (n s t:Int) (ps:List Addr) (rs:jG):(vs=[.ref d,.ref l,.int (mo:Int)])->H d=some (.dK (src n s t))->jC H l ps rs->(mo<=8)->(∀(D:Addr) (hs:List Str) (n' t':Int) (H':Hp),H D=none->H' D=some (.lst (hs.map V.str))->hs.length<=mo->(∀z∈hs,∃r∈rs,r.1=z)->H' d=some (.dK (src n' s t'))->Fr H d H'->Q (.ref D) H')->UK vs H Q
def Vq:Sp:=λa H Q _=>UK a H Q
def jC.fr'(h:jC H l ps rs)(hd:H d=some (.dK kv))(s:Fr H d H'):jC H' l ps rs:=by
 refine⟨s _ _ h.at_ (λe=>?_),⟨h.rows.1,λi j m o p=>?_⟩,h.good,h.pos,h.le⟩
 ·have:=h.at_;rw[e,hd]at this;cases this
 ·obtain⟨q,a,b⟩:=h.rows.2 i j m o p;exact⟨q,s _ _ a (λe=>by rw[e,hd]at a;cases a),s _ _ b (λe=>by rw[e,hd]at b;cases b)⟩
abbrev Rg:List Str:=["_law_source_here","_law_rows_here","_law_most"]
def HP:qm Rg Rg (qg Yc):=Qm
def GF(F:jL K "_law_heap" "_law_heap" Yc f b)(B:QB mg)(a:qW K mg "_law_take" Z5 ["_law_source_here","_law_many"] fT j):qp P w K mg base jh 2 f b Rg Vq:=by
 have GT:=pin P w mg base (ZS a.fn);refine F.okK HP λH Q E hr h=>?_;obtain⟨d,r,l,n,C,t,Y,J,rfl,hd,g,_,q⟩:=h;refine⟨_,qe (qr (jw (N':=["_law_k","_law_rows_here","_law_source_here"]) (ix:=[none,some 1,some 0])
  (te:=Zr (YN K) (Zr (K5 K) (qw 1) (Zs vN [] E0 (qB (qw 2) (qB (NE (λm H Q=>∃b j,m=[.ref b]/\(Q6 K H b j\/zZ K H b j)/\Q (.int j.length) H) (qB (qw 1) jJ)) jJ)))) (tC (.int 0)))
  (jq (by rfl) B.rng (qT (qD a GT (jQ (jv 0) (qM J0 (jv 2) qk)))))
  (λ_ _ _ fp _=>⟨qz 0,qS,
   qU ja (qU Qr (jv 1) (qD a GT (jQ (jv 2) (qu qx (by rfl) B.len boot_len (qT (jv 1)))))) qk⟩))),?_⟩
 refine⟨_,rfl,_,rfl,_,_,rfl,rfl,d,(l:Int)+1,n,C,t,rfl,hd,by omega,by omega,λl n1 y r0 r1=>⟨l,rfl,by omega,by omega,λD m=>?_⟩⟩;have u:D≠d:=λe=>by rw[e,qa]at m;cases m
 have aa:H D=none:=by rw[qc u]at m;exact m
 refine Q5 (λi L j=>∃(v:Option V) (o p:Int) (a:List Str),L=[v,some (.ref r),some (.ref d)]/\j d=some (.dK (src o C p))/\j D=some (.lst (a.map V.str))/\a.length=i/\(∀z∈a,∃l∈J,l.1=z)/\Fr H d j)
  ⟨none,n1,y,[],rfl,?_,qa,rfl,λ_ h=>(nomatch h),(Fr.refl.at_d).new m⟩ ?_ ?_
 ·rw[qc (Ne.symm u)];exact qa
 ·rintro i L j _ ⟨v,o,p,a,rfl,m,O,T,U,fr⟩;have y:=g.fr' hd fr;have pl:(Y.map V.ref).length=J.length:=by rw[ta,g.rows.1]
  have le:=g.le;have af:=g.pos;refine⟨_,rfl,_,rfl,_,rfl,r,_,rfl,.inl (.of y.at_),d,((Y.map V.ref).length:Nat),o,C,p,rfl,m,by rw[pl];omega,?_,λl n3 Y r0 r1=>?_⟩
  ·rw[pl];have:J.length < 2^200:=zaK le (by decide);omega
  obtain⟨x,ex,gx⟩:=atI_get r0 r1;obtain⟨b,_,J,rfl,_,ab,C,_⟩:=y.rows.item gx;have ac:r≠d:=λe=>by
   have:=y.at_;rw[e,m]at this;cases this
  have ae:b≠d:=λe=>by rw[e,m]at C;cases C
  refine⟨r,_,l,_,rfl,rfl,.of (by rw[qc ac];exact y.at_),ex,b,_,0,_,rfl,rfl,.of (by rw[qc ae];exact C),rfl,_,by rw[qc u];exact O,?_,_,n3,Y,a++[J.1],rfl,?_,?_,?_,?_,?_⟩
  ·rw[ta,T];exact qh (by omega)
  ·rw[qc (Ne.symm u)];exact qa
  ·rw[qa,tj];rfl
  ·rw[tv,T];rfl
  ·intro z b;rcases tN.mp b with h | h
   ·exact U z h
   ·obtain rfl:=tK.mp h;exact⟨J,ab,rfl⟩
  ·exact(fr.at_d).own aa
 ·rintro L j ⟨v,o,p,a,rfl,m,O,T,U,fr⟩;exact q D a o p j aa O (by omega) U m fr
open PySem L2 MLab
open PyProof.Rows hiding K lo
abbrev Xq:Stmt:=top 76
abbrev ZE:Stmt:=top 77
structure AO(H:Hp)(d:Addr)(rs:jG):Prop where
 at_:∃(o:Obj) (kvs:List (qF×V)),H d=some (.frz o (.dK kvs))/\kvs.map (·.1)=(rs.map (·.1)).map Sum.inr/\∀r∈rs,∃q,qO kvs (Sum.inr r.1:qF)=some (.ref q)/\H q=some (.tup (r.2.map V.str))
def AO.mono(h:AO H d rs)(s:qi H H'):AO H' d rs:=⟨let ⟨e,kvs,a,b,c⟩:=h.at_;⟨e,kvs,s _ _ a,b,λe hr=>let ⟨q,u,v⟩:=c e hr;⟨q,u,s _ _ v⟩⟩⟩
def AO.get(h:AO H d rs)(g:qf rs)(hz:z∈rs.map (·.1)):∃q,ju H d (.str z) (some (.ref q))/\H q=some (.tup ((jS rs z).map V.str)):=by
 obtain⟨i,kvs,a,b,c⟩:=h.at_;obtain⟨e,hr,rfl⟩:=tc.mp hz;obtain⟨q,u,v⟩:=c e hr;refine⟨q,?_,by rw[ZJ g.nd hr];exact v⟩;rw[<-u];exact .inl ⟨kvs,Sum.inr e.1,.inr ⟨i,a⟩,rfl,rfl⟩
def Zl(g:qf rs)(hz:z∈rs.map (·.1))(a:y∈jS rs z):y∈rs.map (·.1):=Qb g.nd _ hz _ ((qN g hz).mp a)
def XL(g:qf rs)(hz:z∈rs.map (·.1)):(jS rs z).length<=40:=by
 obtain⟨_,hr,rfl⟩:=tc.mp hz;rw[ZJ g.nd hr];exact g.two hr
def kn(rs:jG)(f:Str->Option Nat)(z:Str):List Nat:=(jS rs z).filterMap f
def zh:n∈kn rs f z↔∃y∈jS rs z,f y=some n:=zaC
def Aj(rs:jG)(f:Str->Option Nat)(z:Str):(jS rs z).filterMap (λy=>(f y).map λn=>V.int (n:Nat))=Jn (kn rs f z):=by
 unfold Jn kn;rw[List.map_filterMap]
def zL:zr (jS rs) f z n↔(∀j,j < n->j∈kn rs f z)/\n∉kn rs f z/\∀y∈jS rs z,f y=none->n∈kn rs f y:=by
 unfold zr;simp only[zh];constructor
 ·rintro⟨a,b,c⟩;exact⟨a,λ⟨y,d,e⟩=>b y d e,c⟩
 ·rintro⟨a,b,c⟩;exact⟨a,λy d e=>b ⟨y,d,e⟩,c⟩
def gV(o:Option Nat):V:=(o.map λn=>V.int (n:Nat)).getD .non
def Az(f:Str->Option Nat)(ys:List Str):(ys.map λy=>gV (f y)).all Zx=true:=by
 rw[zcj,zaT];intro y _;show Zx (gV (f y))=true;cases f y<;>rfl
def FL(rs:jG)(f:Str->Option Nat)(z:Str)(n:Nat):J2 (.int (n:Nat)) ((jS rs z).map λy=>gV (f y))=decide (n∈kn rs f z):=by
 unfold J2;rw[List.any_map,zaq,zaS,decide_eq_true_iff,zh];constructor
 ·rintro⟨y,hy,e⟩;refine⟨y,hy,?_⟩;have e:Ng (gV (f y)) (.int (n:Nat))=true:=e;cases c:f y with
  | none=>rw[c]at e;exact absurd e (by simp [gV,Ng])
  | some m=>
   rw[c]at e;have e:(((m:Nat):Int)==((n:Nat):Int))=true:=e;have:((m:Nat):Int)=((n:Nat):Int):=eq_of_beq e;have:m=n:=by omega
   rw[this]
 ·rintro⟨y,hy,e⟩;refine⟨y,hy,?_⟩;show Ng (gV (f y)) (.int (n:Nat))=true;rw[e];show (((n:Nat):Int)==((n:Nat):Int))=true;simp
inductive UL(vs:List V)(H:Hp)(Q:VK):Prop
 | mk (d e:Addr) (rs:jG) (f:Str->Option Nat) (z:Str) (n:Nat):(vs=[.ref d,.ref e,.str z,.int (n:Nat)])->AO H d rs->qf rs->(z∈rs.map (·.1))->(je (rs.map (·.1)) H e f)->(n<=14)->(∀H' b,qi H H'->(b=true↔zr (jS rs) f z n)->Q (.bl b) H')->UL vs H Q
def yu:Sp:=λa H Q _=>UL a H Q
def Nu{K:zdM}{rs:jG}{f:Str->Option Nat}{z:Str}{q e W:Addr}{H:Hp}{Q:Hp->Prop}(a:H W=none)(b:H q=some (.tup ((jS rs z).map V.str)))(i:je (rs.map (·.1)) H e f)(d:(jS rs z).length<=40)
  (k:∀G,qi H G->G W=some (.lst (Jn (kn rs f z)))->Q G):Z1 (B9 K q) (jF 0) (tB (NX (qw 0) (qw 1))) (QQ (qw 1) (qw 0)) W [none,some (.ref e)] H Q:=by
 refine xB (K:=K) (a:=q) (xs:=jS rs z) (enc:=V.str) (out:=λy=>(f y).map λn=>V.int (n:Nat)) (rest:=[some (.ref e)]) a b (qh (by omega)) ?_ ?_ ?_
 ·intro x j b a R d;refine⟨_,rfl,_,rfl,e,_,rfl,(i.mono a).get x,_,rfl,?_⟩;exact d b λ_ _ h=>h
 ·intro x j v l b a R d;have g:=(i.mono a).get x;rw[l]at g;exact⟨_,rfl,_,rfl,e,_,rfl,g,d b λ_ _ h=>h⟩
 ·intro G a b;rw[Aj]at b;exact k G a b
abbrev nLG:List Str:=["_law_leads_here","_law_numbers","_law_name","_law_number","_law_known","_law_other"]
abbrev Hd:List Str:=["_law_leads_here","_law_numbers","_law_name","_law_number"]
def HQ:qm nLG Hd (qg Xq):=Qm
def GK(F:jL K "_law_gets" "_law_gets" Xq f U)(B:QB mg):qp P w K mg base jh 1 f U Hd yu:=by
 refine F.okK HQ λH Q E hr h=>?_;obtain⟨d,e,j,b,z,n,rfl,ld,good,T,nm,_,q⟩:=h;have hu:=hu_of hr;refine⟨_,qb (Je 4 (jw (N':=["_law_other","_law_numbers"]) (ix:=[none,some 1]) (tt:=tB (NX (qw 0) (qw 1))) (te:=QQ (qw 1) (qw 0)) (zj (qA (jv 0) (jv 2))) (λl C o fp p=>
    ⟨qz 0,jP (QY (ZL (jv 0) (jv 1))),qA (jv 1) (jv 0)⟩)))
  (qb (qJ (JW.pt (Zw (qo (VL (zcl hu)) (jw (N':=["_law_lesser","_law_known"]) (ix:=[none,some 4]) (tt:=zx (Zr (BH K true) (qw 0) (qw 1))) (te:=qw 0) (jq (by rfl) B.rng (qT (jv 3))) (λl C o fp p=>
    ⟨qz 0,jP (qo QS (jv 0) (jv 1) (by with_unfolding_all rfl)),jv 0⟩)) (Ql jT))
    (Ji (qo Jv (jv 3) (jv 4) (by with_unfolding_all rfl))))) (qe (qr Qz)) qt)
  (qb (qP (zj (qA (jv 0) (jv 2))) (qz 5)
   (qe (qJ (JW.pt (QG (QY (J9 (jv 5) (jv 1))) (Qq (qo QS (jv 3) (jw (N':=["_law_one","_law_numbers"]) (ix:=[none,some 1]) (te:=uW (qw 1) (qw 0)) (zj (qA (jv 0) (jv 5))) (λl C o fp p=>
    ⟨qz 0,qS,RJ hu (jv 1) (jv 0) ⟨rfl,rfl,rfl,rfl⟩⟩)) (by with_unfolding_all rfl))))) (qe (qr Qz)) qt)))
  (qe (qr Qz)))),?_⟩
 obtain⟨Y,g0,U⟩:=ld.get good T;refine⟨_,rfl,_,rfl,d,_,rfl,g0,Y,rfl,⟨_,.of U⟩,λW l=>?_⟩;refine Nu (K:=K) l U nm (XL good T) λ_ s1 ac=>?_;refine⟨_,rfl,(n:Int),rfl,by omega,by omega,λr o=>?_⟩;refine Ub (n:=n) (out:=λl=>if l∈kn j b z then none else some (V.int (l:Nat))) (rest:=[some (.ref W)]) o (qh (by omega)) ?_ ?_ ?_
 ·intro x D o J R p;refine⟨_,rfl,_,rfl,W,_,rfl,.inl (.of (J _ _ ac)),rfl,ZM _,_,rfl,?_⟩;have:=p o λ_ _ h=>h;show R (!J2 (.int (x:Nat)) (Jn (kn j b z))) o;rw[Yn];by_cases c:x∈kn j b z
  ·rw[if_pos c]at this;rw[decide_eq_true c];exact this
  ·rw[if_neg c]at this;rw[decide_eq_false c];exact this
 ·intro x D v L o J R p;have:v=V.int (x:Nat):=by
   split at L
   ·cases L
   ·exact(tA.inj L).symm
  subst this;exact⟨_,rfl,p o λ_ _ h=>h⟩
 ·intro G2 C ae;have ai:=s1.trans C;generalize aj:(tQ n).filterMap (λl=>if l∈kn j b z then none else some (V.int (l:Nat)))=ls at ae;refine⟨JB,λU ak=>?_⟩;have Y:qi G2 (upd G2 U (.lst [])):=qd ak;refine⟨r,U,_,rfl,rfl,.of (Y _ _ ae),.of qa,_,rfl,?_⟩;have r:qi H (upd G2 U (.lst [])):=ai.trans Y;have af:=Y _ _ (C _ _ ac);generalize upd G2 U (.lst [])=G3 at Y r af;have ag:ls=[]↔∀l,l < n->l∈kn j b z:=by
   rw[<-aj,List.filterMap_eq_nil_iff];constructor
   ·intro h l hj;have:=h l (zai.mpr hj);by_cases c:l∈kn j b z
    ·exact c
    ·rw[if_neg c]at this;cases this
   ·intro h l hj;rw[if_pos (h l (zai.mp hj))]
  cases ls with
  | cons a ls=>
   refine QA (QA (q G3 false r ⟨λh=>(nomatch h),λh=>?_⟩));have:=ag.mpr (zL.mp h).1;cases this
  | nil=>
   refine jp ⟨_,rfl,_,rfl,W,_,rfl,.inl (.of af),rfl,ZM _,_,rfl,?_⟩;have lo:=ag.mp rfl;by_cases c:n∈kn j b z
   ·refine j4 (show J2 (.int (n:Nat)) (Jn (kn j b z))=true by rw[Yn];exact decide_eq_true c) (q G3 false r ⟨λh=>(nomatch h),λh=>absurd c (zL.mp h).2.1⟩)
   ·refine jV (show J2 (.int (n:Nat)) (Jn (kn j b z))=false by rw[Yn];exact decide_eq_false c) ?_;obtain⟨l,g1,C⟩:=(ld.mono r).get good T;refine⟨_,rfl,_,rfl,d,_,rfl,g1,l,rfl,⟨_,.of C⟩,?_⟩;refine xr (K:=K) (a:=l) (xs:=(jS j z).map V.str) (λi aa G=>∃O,aa=[some (.ref d),some (.ref e),some (.str z),some (.int (n:Nat)),some (.ref W),O]/\qi G3 G/\∀y∈(jS j z).take i,b y=none->n∈kn j b y)
     ⟨_,rfl,λ_ _ h=>h,λy h=>(nomatch h)⟩ (λi aa G _ ⟨_,_,s,_⟩=>.of (s _ _ C)) ?_ ?_
    ·rintro i x aa G D ⟨O,rfl,sG,ab⟩;obtain⟨y,ey,hy,rfl⟩:=jO D;have sA:=r.trans sG;have ah:=Zl good T hy;have l:=(nm.mono sA).get y;have step:∀{o:Hp},qi G o->(b y=none->n∈kn j b y)->∃O,[some (V.ref d),some (.ref e),some (.str z),some (.int (n:Nat)),some (.ref W),some (.str y)]=[some (.ref d),some (.ref e),some (.str z),some (.int (n:Nat)),some (.ref W),O]/\qi G3 o/\∀y∈(jS j z).take (i+1),b y=none->n∈kn j b y:=λ{o} C T=>by
      refine⟨_,rfl,sG.trans C,λu hu=>?_⟩;rw[tz,ey]at hu;rcases tN.mp hu with hu | hu
      ·exact ab u hu
      ·have:u=y:=by simpa using hu
       rw[this];exact T
     refine⟨_,rfl,_,rfl,e,_,rfl,l,_,rfl,?_⟩;cases cy:b y with
     | some m=>
      exact jp (jp (step (λ_ _ h=>h) λh=>by rw[cy]at h;cases h))
     | none=>
      obtain⟨l,g2,C⟩:=(ld.mono sA).get good ah;refine QA ⟨_,rfl,_,rfl,_,rfl,d,_,rfl,g2,l,rfl,⟨_,.of C⟩,λT U=>?_⟩;refine xB (K:=K) (a:=l) (xs:=jS j y) (enc:=V.str) (out:=λu=>some (gV (b u))) (rest:=[some (.ref e)]) U C (qh (by have:=XL good ah;omega)) ?_ ?_ ?_
      ·intro x D o J R p;exact p o λ_ _ h=>h
      ·intro x D v L o J R p;obtain rfl:=(tA.inj L).symm;have l:=(nm.mono sA).mono J;obtain⟨C,D⟩:=l.isd;exact⟨_,rfl,e,rfl,.inl ⟨C,.inl D⟩,_,rfl,_,l.get x,p o λ_ _ h=>h⟩
      ·intro p o l;rw[show (λu=>some (gV (b u)))=(some ∘ λu=>gV (b u)) from rfl,zdi]at l;refine⟨T,_,rfl,.inl (.of l),rfl,Az b _,_,rfl,?_⟩;show if (!J2 (.int (n:Nat)) ((jS j y).map λu=>gV (b u)))=true then _ else _
       rw[FL];by_cases l:n∈kn j b y
       ·rw[decide_eq_true l];exact jp (step o λ_=>l)
       ·rw[decide_eq_false l];exact QA (q p false (sA.trans o) ⟨λh=>(nomatch h),λh=>absurd ((zL.mp h).2.2 y hy cy) l⟩)
    ·rintro aa G ⟨O,rfl,sG,ab⟩;rw[ta,tu (tf _)]at ab;exact q G true (r.trans sG) ⟨λ_=>zL.mpr ⟨lo,c,ab⟩,λ_=>rfl⟩
open PySem L2 MLab
open PyProof.Rows hiding K lo
def wn{κ:Type}[DecidableEq κ]{kvs:List (κ×V)}{k:κ}{v u:V}(h:qO kvs k=some u):(jD kvs k v).map (·.1)=kvs.map (·.1):=by
 unfold jD;have:(kvs.any λa=>decide (a.1=k))=true:=by rw[Ja,h];rfl
 rw[if_pos this,zam];refine zap λx _=>?_;show (if x.1=k then (x.1,v) else x).1=x.1;split<;>rfl
def Vl(ns:List Nat):∀m,(((tQ m).filter λk=>decide (k∈ns)).map λk=>2^k).sum=Rb.setN ((tQ m).filter λk=>decide (k∈ns))
 | 0=>rfl
 | m+1=>by
  have a:=Vl ns m;have lt:Rb.setN ((tQ m).filter λk=>decide (k∈ns)) < 2^m:=Rb.setN_lt λx b=>zai.mp (tZ.mp b).1;rw[zcg,zay];by_cases c:m∈ns
  ·have e:[m].filter (λk=>decide (k∈ns))=[m]:=by simp [c]
   rw[e,tj,zby,a,Rb.setN_snoc];have b:=Nat.two_pow_add_eq_or_of_lt lt 1;rw[Nat.mul_one]at b;show _+(2^m+0)=_;rw[Nat.add_zero,Nat.add_comm,b,Nat.or_comm]
  ·have e:[m].filter (λk=>decide (k∈ns))=[]:=by simp [c]
   rw[e,zak];exact a
def Xi(h:∀x,x∈ns↔x∈a):Rb.setN ns=Rb.setN a:=zbd λk=>by rw[Rb.testBit_setN,Rb.testBit_setN,decide_eq_decide.mpr (h k)]
def Ci{ns:List Nat}(h:∀x∈ns,x < 16):(((tQ 16).filter λk=>decide (k∈ns)).map λk=>2^k).sum=Rb.setN ns:=by
 rw[Vl];exact Xi λx=>by
  rw[tZ,zai,decide_eq_true_iff];exact⟨λz=>z.2,λz=>⟨h x z,z⟩⟩
def tW:Rb.W->List V
 | .num n=>[.str "number",.int (n:Nat)]
 | .edl b=>[.str "endless",.int (b:Nat)]
def wF(rs:jG)(f:Str->Option Nat)(z:Str):Rb.W:=match f z with
 | some n=>.num n
 | none=>.edl (Rb.setN (kn rs f z))
structure Ud(H:Hp)(D:Addr)(F:Str->Rb.W)(zs:List Str):Prop where
 at_:∃kvs:List (qF×V),H D=some (.dK kvs)/\kvs.map (·.1)=zs.map Sum.inr/\∀z∈zs,∃t,qO kvs (Sum.inr z:qF)=some (.ref t)/\H t=some (.tup (tW (F z)))
def Ud.mono(h:Ud H D F zs)(s:qi H H'):Ud H' D F zs:=⟨let ⟨kvs,a,b,c⟩:=h.at_;⟨kvs,s _ _ a,b,λz d=>let ⟨t,u,v⟩:=c z d;⟨t,u,s _ _ v⟩⟩⟩
def Ud.get(h:Ud H D F zs)(hz:z∈zs):∃t,ju H D (.str z) (some (.ref t))/\H t=some (.tup (tW (F z))):=by
 obtain⟨kvs,a,b,c⟩:=h.at_;obtain⟨t,u,v⟩:=c z hz;refine⟨t,?_,v⟩;rw[<-u];exact ju.k (k:=(Sum.inr z:qF)) a
def Ud.new(h:Ud H D F zs)(hz:z∉zs)(l:zs.length<=14)(i:H t=some (.tup (tW (F z)))):∃o,Jl H D (.str z) (.ref t) (upd H D o)/\Ud (upd H D o) D F (zs++[z]):=by
 obtain⟨kvs,a,b,c⟩:=h.at_;have lk:kvs.length=zs.length:=by simpa using congrArg zav b
 have new:qO kvs (Sum.inr z:qF)=none:=Jz (by
  rw[b];intro m;obtain⟨y,d,e⟩:=tc.mp m;cases e;exact hz d)
 have j:∀{b:Addr} {r:List V},H b=some (.tup r)->b≠D:=λp e=>by rw[e,a]at p;cases p
 refine⟨_,Jl.k (k:=(Sum.inr z:qF)) a (qh (by omega)),⟨_,qa,?_,λy d=>?_⟩⟩
 ·rw[QR _ new,tj,b,tj];rfl
 ·rcases tN.mp d with d | d
  ·obtain⟨p,u,v⟩:=c y d;refine⟨p,?_,by rw[qc (j v)];exact v⟩;rw[Qv,if_neg (λq=>by cases q;exact hz d)];exact u
  ·have:y=z:=by simpa using d
   subst this;exact⟨t,by rw[Qv,if_pos rfl],by rw[qc (j i)];exact i⟩
def Ud.over{H:Hp}{D t:Addr}{F d:Str->Rb.W}{zs:List Str}{z:Str}(h:Ud H D d zs)(hz:z∈zs)(l:zs.length<=15)(m:∀y∈zs,y≠z->d y=F y)(i:H t=some (.tup (tW (F z)))):∃o,Jl H D (.str z) (.ref t) (upd H D o)/\Ud (upd H D o) D F zs:=by
 obtain⟨kvs,a,b,c⟩:=h.at_;have lk:kvs.length=zs.length:=by simpa using congrArg zav b
 obtain⟨_,p,_⟩:=c z hz;have d:∀{b:Addr} {r:List V},H b=some (.tup r)->b≠D:=λj e=>by rw[e,a]at j;cases j
 refine⟨_,Jl.k (k:=(Sum.inr z:qF)) a (qh (by omega)),⟨_,qa,by rw[wn p];exact b,λy j=>?_⟩⟩;by_cases q:y=z
 ·subst q;exact⟨t,by rw[Qv,if_pos rfl],by rw[qc (d i)];exact i⟩
 ·obtain⟨i,u,v⟩:=c y j;rw[m y j q]at v;refine⟨i,?_,by rw[qc (d v)];exact v⟩;rw[Qv,if_neg (λw=>q (Sum.inr.inj w))];exact u
def Ud.congr{d:Str->Rb.W}(h:Ud H D F zs)(e:∀z∈zs,F z=d z):Ud H D d zs:=⟨let ⟨kvs,a,b,c⟩:=h.at_;⟨kvs,a,b,λz d=>by rw[<-e z d];exact c z d⟩⟩
def DN(g:qf rs){f:Str->Option Nat}(d:x∈rs.map (·.1))(e:f x=none):¬∀j,j < (rs.map (·.1)).length->∃y∈jS rs x,f y=some j:=λh=>by
 have a:=Jr (l:=tQ (rs.map (·.1)).length) (m:=(rs.map (·.1)).filterMap f) zbo λj b=>by
  obtain⟨y,i,l⟩:=h j (zai.mp b);exact zaC.mpr ⟨y,Zl g d i,l⟩
 rw[zaf]at a;obtain⟨b,q,i⟩:=zbM d;rw[i,zax,zad,e,tv,tv,zab]at a;have d:=zal f b;have d:=zal f q;have a:b.length+(q.length+1)<=(b.filterMap f).length+(q.filterMap f).length:=a;omega
def FC(g:qf rs)(L:Zc (jS rs) (·∈rs.map (·.1)) num d9):Zc (QJ rs) (·∈rs.map (·.1)) num d9 where
 cl:=λ{x y} a b=>L.cl a ((qN g a).mpr b)
 n1:=λ{x n m} a e lt=>let ⟨y,b,k⟩:=L.n1 a e lt;⟨y,(qN g a).mp b,k⟩
 n2:=λ{x y n} a e b=>L.n2 a e ((qN g a).mpr b)
 n3:=λ{x y n} a e b gt=>let ⟨z,d,k⟩:=L.n3 a e ((qN g a).mpr b) gt;⟨z,(qN g (L.cl a ((qN g a).mpr b))).mp d,k⟩
 n4:=λ{x y n m} a e b=>L.n4 a e ((qN g a).mpr b)
 e:=λ{x m} a e lo h=>by
  obtain⟨y,b,i,j⟩:=L.e a e (λl o=>let ⟨y,b,k⟩:=lo l o;⟨y,(qN g a).mpr b,k⟩) (λy b=>h y ((qN g a).mp b));exact⟨y,(qN g a).mp b,i,λz d=>j z ((qN g (L.cl a b)).mpr d)⟩
def AY(g:qf rs)(L:Zc (jS rs) (·∈rs.map (·.1)) f d9)(all:All (QJ rs) (rs.map (·.1)) 0 [] R)(hz:z∈rs.map (·.1)):wF rs f z=wT rs R z:=by
 have b:=FB g (VT (Qb g.nd) all);have eq:∀{y},y∈rs.map (·.1)->f y=qE R y:=λa=>Rt L b a;unfold wF wT;rw[eq hz];cases qE R z with
 | some n=>rfl
 | none=>
  show Rb.W.edl _=Rb.W.edl _;congr 1;refine Xi λx=>?_;rw[zh,Qc];constructor
  ·rintro⟨y,a,e⟩;exact⟨y,(qN g hz).mp a,by rw[<-eq (Zl g hz a)];exact e⟩
  ·rintro⟨y,a,e⟩;have b:=(qN g hz).mpr a;exact⟨y,b,by rw[eq (Zl g hz b)];exact e⟩
inductive Kk(vs:List V)(H:Hp)(Q:VK):Prop
 | mk (l:Addr) (ps:List Addr) (rs:jG):vs=[.ref l]->jC H l ps rs->(∀H' D F,qi H H'->H D=none->Ud H' D F (rs.map (·.1))->(∀R,All (QJ rs) (rs.map (·.1)) 0 [] R->∀z∈rs.map (·.1),F z=wT rs R z)->(∀z∈rs.map (·.1),Rb.okW (F z))->Q (.ref D) H')->Kk vs H Q
def Bh:Sp:=λa H Q _=>Kk a H Q
abbrev Ir:List Str:=["_law_rows_here","_law_leads_here","_law_numbers","_law_number","_law_more","_law_coming","_law_name","_law_worths_here","_law_here"]
def Bs:qm Ir ["_law_rows_here"] (qg ZE):=Qm
def kh(F:jL K "_law_worths" "_law_worths" ZE f fd)(B:QB mg)(T:Qn K mg)(aV:mg "dict"=none)(hG:qW K mg "_law_gets" Xq Hd fG bn):qp P w K mg base jh 2 f fd ["_law_rows_here"] Bh:=by
 have GG:=pin P w mg base (GK hG.fn B);refine F.okK Bs λH Q E hr h=>?_;obtain⟨ac,ps,j,rfl,g,q⟩:=h;have hu:=hu_of hr;refine⟨_,qb (Je 1 (kz (qV (X4 rfl) (by rfl) aV boot_dict (qT (jv 0)))))
  (qb (Je 2 jX)
  (qb (qP (jq (by rfl) B.rng (qT (qu qx (by rfl) B.len boot_len (qT (jv 0))))) (qz 3)
   (qb (qG 4 Qz)
   (qe (zF PassesOwn.never (jH (jv 4))
    (qb (Qx (i:=5) (N':=["_law_name","_law_numbers","_law_leads_here","_law_number"]) (ix:=[none,some 2,some 1,some 3]) (tt:=Ch (tB (yi (qw 0) (qw 1))) (tB (Zs yu [] E0 (qB (qw 2) (qB (qw 1) (qB (qw 0) (qB (qw 3) jJ))))))) (te:=qw 0) (hN:=Bs.nd) (VY (jv 1)) (λaA s2 H2 fp aB=>
     ⟨qz 0,jP (JW.pt (QG (QY (J9 (jv 0) (jv 1))) (Qq (jH (qD hG GG (FG (jv 2) (jv 1) (jv 0) (jv 3))))))),jv 0⟩))
    (qb (qG 4 (Qe (VL (zcl hu)) (jv 5) (Ql jT)))
    (qe (qP (qy (ZK Vv (jv 5) zI (zH qk))) (qz 6) (qe (jl (jv 2) (jv 6) (jv 3)))))))))))
  (qb (qG 7 jX)
  (qb (qP (VY (jv 1)) (qz 6)
   (qb (Je 8 (jw (N':=["_law_other","_law_numbers"]) (ix:=[none,some 2]) (tt:=tB (NX (qw 0) (qw 1))) (te:=QQ (qw 1) (qw 0)) (zj (qA (jv 1) (jv 6))) (λaA s2 H2 fp aB=>
    ⟨qz 0,jP (QY (ZL (jv 0) (jv 1))),qA (jv 1) (jv 0)⟩)))
   (qb (jl (jv 7) (jv 6) (jm (jQ qL (qu (ZX rfl) (by rfl) T.sum boot_sum (qT (jw (N':=["_law_k","_law_here"]) (ix:=[none,some 8]) (tt:=zx (Zr (BH K false) (qw 0) (qw 1))) (te:=Zr (rI AS λi o=>.int (i*2^o.toNat)) (tC (.int 1)) (qw 0)) (jq (by rfl) B.rng (qT qk)) (λaA s2 H2 fp aB=>
    ⟨qz 0,jP (qo Jv (jv 0) (jv 1) (by with_unfolding_all rfl)),qM kg qk (jv 0)⟩)))))))
   (qe (qJ (QY (ZL (jv 6) (jv 2))) (qe (jl (jv 7) (jv 6) (jm (jQ qL (qA (jv 2) (jv 6)))))) qt)))))
  (qe (qr (jv 7))))))),?_⟩
 have good:=g.good;have aW:=g.le;have nd:=good.nd;refine⟨_,rfl,C7 (Nk g λd kvs hd ek hv=>⟨d,kvs,rfl,qa,λab=>?_⟩)⟩;rw[jx];have s1:qi H (upd H d (.frz ab (.dK kvs))):=qd hd;have af:upd H d (.frz ab (.dK kvs)) d=some (.frz ab (.dK kvs)):=qa;generalize upd H d (.frz ab (.dK kvs))=H1 at s1 af;have ld:AO H1 d j:=⟨ab,kvs,af,ek,λag hr=>let ⟨t,a,b⟩:=hv ag hr;⟨t,a,s1 _ _ b⟩⟩;intro e he;have s2:qi H1 (upd H1 e (.dK [])):=qd he;have ar:upd H1 e (.dK []) e=some (.dK []):=qa;have aX:H e=none:=jE s1 he;have aC:d≠e:=λz=>by rw[<-z,af]at he;cases he
 generalize upd H1 e (.dK [])=H2 at s2 ar;have fq:∀{G:Hp},Fr H2 e G->AO G d j:=λfr=>by
  refine⟨ab,kvs,fr _ _ (s2 _ _ af) aC,ek,λag hr=>?_⟩;obtain⟨t,a,b⟩:=hv ag hr;have b2:=s2 _ _ (s1 _ _ b);exact⟨t,a,fr _ _ b2 (λz=>by rw[z,ar]at b2;cases b2)⟩
 have as:∀{G:Hp},Fr H2 e G->G d=some (.frz ab (.dK kvs)):=λfr=>fr _ _ (s2 _ _ af) aC;have lN:(j.map (·.1)).length=j.length:=ta ..;have aD:qi H H2:=s1.trans s2;have au:ps.length=j.length:=g.rows.1;refine⟨_,rfl,ac,_,rfl,.inl (.of (aD _ _ g.at_)),_,rfl,?_,?_,?_⟩
 ·omega
 ·rw[ta,au];omega
 refine Q0 (λi σ G=>∃(v3 v4 v5 v6:Option V) (l:Rs Str),σ=[some (.ref ac),some (.ref d),some (.ref e),v3,v4,v5,v6,none,none]/\Fr H2 e G/\je (j.map (·.1)) G e (qE l)/\Pt (jS j) (j.map (·.1)) l i)
  ⟨none,none,none,none,[],rfl,Fr.refl,⟨[],ar,λz=>rfl,zbh,λk h=>(nomatch h)⟩,Pt.nil⟩ ?_ ?_
 ·rintro i σ G hi ⟨v3,v4,v5,v6,R0,rfl,aY,aZ,a0⟩;rw[zbL];have hi:i < j.length:=by
   rw[ta,au]at hi;simpa using hi
  refine zw (λσ G=>∃(v5 v6:Option V) (l:Rs Str) (more:Bool),σ=[some (.ref ac),some (.ref d),some (.ref e),some (.int (i:Nat)),some (.bl more),v5,v6,none,none]/\Fr H2 e G/\je (j.map (·.1)) G e (qE l)/\Pt (jS j) (j.map (·.1)) l i/\
    (more=false->∀x∈j.map (·.1),qE l x=none->¬zr (jS j) (qE l) x i))
   (λσ G=>2*Zy (j.map (·.1)) G e+(match σ with | [_,_,_,_,some (.bl true),_,_,_,_]=>1 | _=>0))
   ⟨v5,v6,R0,true,rfl,aY,aZ,a0,λz=>(nomatch z)⟩ ?_ ?_
  ·rintro σ G ⟨v5,v6,l,more,rfl,fr,nm,pt,ew⟩;refine⟨_,rfl,more,rfl,?_⟩;cases more with
   | false=>exact jp ⟨_,_,_,_,l,rfl,fr,nm,pt.next (ew rfl)⟩
   | true=>
    refine QA ⟨_,rfl,d,ab,kvs,j.map (·.1),rfl,as fr,ek,λW hW=>?_⟩;refine xC (zs:=j.map (·.1)) (λo ak U=>∃(v0:Option V) (p:List Str),ak=[v0,some (.ref e),some (.ref d),some (.int (i:Nat))]/\qi G U/\U W=some (.lst (p.map V.str))/\p.length<=o/\(∀c∈p,c∈j.map (·.1)/\qE l c=none/\zr (jS j) (qE l) c i)/\(p=[]->∀z∈(j.map (·.1)).take o,qE l z=none->¬zr (jS j) (qE l) z i))
     ⟨none,[],rfl,qd hW,qa,tf _,λc h=>(nomatch h),λ_ z h=>(nomatch h)⟩ (λo ak U _ ⟨_,_,_,s,_⟩=>s _ _ (as fr)) ?_ ?_
    ·rintro o z ak U ez ⟨v0,p,rfl,sG,ah,lc,hc,hn⟩;have C:z∈j.map (·.1):=tP ez;have hj:=(td.mp ez).1;have aE:∀{G2:Hp},qi U G2->(qE l z=none->¬zr (jS j) (qE l) z i)->∃(v0:Option V) (p:List Str),[some (V.str z),some (.ref e),some (.ref d),some (.int (i:Nat))]=[v0,some (.ref e),some (.ref d),some (.int (i:Nat))]/\qi G G2/\G2 W=some (.lst (p.map V.str))/\p.length<=o+1/\(∀c∈p,c∈j.map (·.1)/\qE l c=none/\zr (jS j) (qE l) c i)/\(p=[]->∀z∈(j.map (·.1)).take (o+1),qE l z=none->¬zr (jS j) (qE l) z i):=λ{G2} s' no=>by
      refine⟨_,p,rfl,sG.trans s',s' _ _ ah,by omega,hc,λe0 y Y=>?_⟩;rw[tz,ez]at Y;rcases tN.mp Y with Y | Y
      ·exact hn e0 y Y
      ·have:y=z:=by simpa using Y
       rw[this];exact no
     refine⟨_,rfl,_,rfl,e,_,rfl,(nm.mono sG).get z,_,rfl,?_⟩;cases cz:qE l z with
     | some m=>exact jp (jp (aE (λ_ _ h=>h) λh=>by rw[cz]at h;cases h))
     | none=>
      refine QA ⟨_,rfl,_,rfl,_,rfl,_,rfl,d,e,j,qE l,z,i,rfl,(fq fr).mono sG,good,C,nm.mono sG,by omega,λG2 b s' hb=>⟨b,rfl,?_⟩⟩;cases b with
      | false=>exact jp (aE s' λ_ gt=>absurd (hb.mpr gt) (by simp))
      | true=>
       refine QA ⟨_,rfl,_,s' _ _ ah,by rw[ta];exact qh (by omega),_,p++[z],rfl,qi.upd (sG.trans s') hW,by rw[tj];exact qa,by rw[tv];exact Nat.succ_le_succ lc,λc ai=>?_,λe0=>?_⟩
       ·rcases tN.mp ai with ai | ai
        ·exact hc c ai
        ·have:c=z:=by simpa using ai
         rw[this];exact⟨C,cz,hb.mp rfl⟩
       ·simp at e0
    ·rintro ak U ⟨v0,p,rfl,sG,ah,lc,hc,hn⟩;rw[tu (tf _)]at hn;refine⟨_,rfl,JB,λl0 a1=>?_⟩;have s3:qi U (upd U l0 (.lst [])):=qd a1;refine⟨W,l0,_,rfl,rfl,.of (s3 _ _ ah),.of qa,?_⟩;have sA:qi G (upd U l0 (.lst [])):=sG.trans s3;have aF:=s3 _ _ ah;generalize upd U l0 (.lst [])=G2 at sA aF;refine⟨_,rfl,_,rfl,W,_,rfl,.of aF,λaa av=>?_⟩;have a2:XY (p.map V.str) none (some (1:Int))=(p.take 1).map V.str:=by
      unfold XY;rw[HT.sIx_none,show (1:Int)=((1:Nat):Int) from rfl,HT.sIx_nat,ta];cases p with
      | nil=>rfl
      | cons a t=>simp
     rw[a2];have s4:qi G2 (upd G2 aa (.lst ((p.take 1).map V.str))):=qd av;have al:upd G2 aa (.lst ((p.take 1).map V.str)) aa=some (.lst ((p.take 1).map V.str)):=qa;generalize upd G2 aa (.lst ((p.take 1).map V.str))=G3 at s4 al;have sB:qi G G3:=sA.trans s4;have aG:Fr H2 e G3:=fr.same sB;have aH:=nm.mono sB;obtain⟨ke,aI⟩:=nm.isd;have a3:aa≠e:=λz=>by rw[z,sA _ _ aI]at av;cases av
     refine⟨aa,rfl,⟨_,.of al⟩,?_⟩;have aJ:Zy (j.map (·.1)) G e=JU j (qE l):=nm.bare;cases p with
     | nil=>
      refine jb (K:=K) (a:=aa) (xs:=[]) (λo J r=>∃v6,J=[some (.ref ac),some (.ref d),some (.ref e),some (.int (i:Nat)),some (.bl false),some (.ref W),v6,none,none]/\Fr H2 e r/\je (j.map (·.1)) r e (qE l)/\r aa=some (.lst [])) ⟨v6,rfl,aG,aH,al⟩ (λo J r _ ⟨_,_,_,_,h⟩=>.of h) (λo x J r O=>(nomatch O)) ?_;rintro J r ⟨am,rfl,fr',aj,_⟩;refine⟨⟨_,_,l,false,rfl,fr',aj,pt,λ_=>hn rfl⟩,?_⟩;show 2*Zy (j.map (·.1)) r e+0 < 2*Zy (j.map (·.1)) G e+1;rw[aJ,aj.bare];omega
     | cons c p=>
      obtain⟨aw,an,a4⟩:=hc c tO;have a5:Pt (jS j) (j.map (·.1)) (l++[(i,[c])]) i:=pt.one λx O=>by
       have:x=c:=by simpa using O
       subst this;exact⟨aw,an,a4⟩
      have bp:JU j (qE (l++[(i,[c])])) < JU j (qE l):=Uc (λz C=>by
       have:z=c:=by simpa using C
       subst this;exact⟨aw,an⟩) (by simp)
      refine jb (K:=K) (a:=aa) (xs:=[V.str c]) (λo J r=>∃v6,J=[some (.ref ac),some (.ref d),some (.ref e),some (.int (i:Nat)),some (.bl true),some (.ref W),v6,none,none]/\Fr H2 e r/\(o=0->je (j.map (·.1)) r e (qE l))/\(o=1->je (j.map (·.1)) r e (qE (l++[(i,[c])])))/\r aa=some (.lst [V.str c])) ⟨v6,rfl,aG,λ_=>aH,λh=>absurd h (by decide),al⟩ (λo J r _ ⟨_,_,_,_,_,h⟩=>.of h) ?_ ?_
      ·rintro o x J r O ⟨am,rfl,fr',n0,n1,aK⟩;have j0:o=0:=by
        have:=(td.mp O).1;simpa using this
       subst j0;obtain rfl:V.str c=x:=tA.inj O;obtain⟨H4,put,a6,o4,e4⟩:=(n0 rfl).put (n:=i) aw an (by rw[lN];exact aW);refine⟨_,rfl,_,rfl,_,rfl,e,H4,rfl,put,_,rfl,by rw[e4];exact fr'.at_d,λh=>absurd h (by decide),λ_=>a6.congr λy=>?_,by rw[e4,qc a3];exact aK⟩;by_cases ey:y=c
       ·subst ey;rw[if_pos rfl];exact(Nd an (by simp)).symm
       ·rw[if_neg ey,Jf];cases qE l y with
        | some m=>rfl
        | none=>
         show none=if y∈[c] then some i else none
         rw[if_neg (by simp [ey])]
      ·rintro J r ⟨am,rfl,fr',n0,n1,aK⟩;have aj:=n1 rfl;refine⟨⟨_,_,_,true,rfl,fr',aj,a5,λh=>(nomatch h)⟩,?_⟩;show 2*Zy (j.map (·.1)) r e+1 < 2*Zy (j.map (·.1)) G e+1;rw[aJ,aj.bare];omega
  ·rintro σ G Q1 Q2 kk ⟨x,ex,b,eb,q1⟩;exact⟨x,ex,b,eb,kk _ _ q1⟩
 rintro σ G ⟨v3,v4,v5,v6,l,rfl,fr,nm,pt⟩;rw[ta,au,zaj,<-lN]at pt;have L:Zc (jS j) (·∈j.map (·.1)) (qE l) (ZD l):=pt.lab (λx O y Y=>Zl good O Y) λx O ex=>DN good O ex;have ax:∀z∈j.map (·.1),∀x∈kn j (qE l) z,x < 16:=λz C x O=>by
  obtain⟨y,Y,ey⟩:=zh.mp O;have a7:=Zl good C Y;have L2:Zc (QJ j) (·∈j.map (·.1)) (qE l) (ZD l):=FC good L;have:=zg good L2 a7 ey;omega
 have a8:∀z∈j.map (·.1),Rb.okW (wF j (qE l) z):=λz C=>by
  unfold wF;cases cz:qE l z with
  | some n=>
   have:=zg good (FC good L) C cz;show n < 16;omega
  | none=>exact Rb.setN_lt (m:=16) (ax z C)
 have aL:qi H G:=λb u hb=>fr _ _ (aD _ _ hb) (qj hb aX);intro D hD;have aM:H D=none:=jE aL hD;have sD:qi G (upd G D (.dK [])):=qd hD;have ao:upd G D (.dK []) D=some (.dK []):=qa;generalize upd G D (.dK [])=U at sD ao;have a9:=(fq fr).mono sD;have ap:=sD _ _ (as fr);have ay:=nm.mono sD;have a':=aL.trans sD;refine⟨_,rfl,d,ab,kvs,j.map (·.1),rfl,ap,ek,?_⟩;have aN:d≠D:=λz=>by rw[z,ao]at ap;cases ap
 obtain⟨ke,aI⟩:=ay.isd;have aO:e≠D:=λz=>by
  obtain⟨k0,h0⟩:=nm.isd;rw[z,hD]at h0;cases h0
 refine xt (zs:=j.map (·.1)) (λi J G2=>∃(v6 v8:Option V),J=[some (.ref ac),some (.ref d),some (.ref e),v3,v4,v5,v6,some (.ref D),v8]/\Fr U D G2/\Ud G2 D (wF j (qE l)) ((j.map (·.1)).take i))
  ⟨v6,none,rfl,Fr.refl,⟨[],ao,rfl,λz h=>(nomatch h)⟩⟩ (λi J G2 _ ⟨_,_,_,f,_⟩=>f _ _ ap aN) ?_ ?_
 ·rintro i z J G2 ez ⟨am,v8,rfl,ae,wt⟩;have C:z∈j.map (·.1):=tP ez;have hi:=(td.mp ez).1;have nz:z∉(j.map (·.1)).take i:=λm=>QX nd ez (tc.mpr ⟨z,m,rfl⟩);have bb:AO G2 d j:=by
   obtain⟨o',bc,a,b,c⟩:=a9.at_;refine⟨o',bc,ae _ _ a aN,b,λag hr=>?_⟩;obtain⟨t,u,v⟩:=c ag hr;exact⟨t,u,ae _ _ v (λq=>by rw[q,ao]at v;cases v)⟩
  have bd:je (j.map (·.1)) G2 e (qE l):=ay.fr ae aO;obtain⟨q0,g0,aP⟩:=bb.get good C;refine⟨_,rfl,_,rfl,d,_,rfl,g0,q0,rfl,⟨_,.of aP⟩,λW hW=>?_⟩;refine Nu (K:=K) hW aP bd (XL good C) λG3 s3 be=>?_;refine⟨16,rfl,by decide,by decide,λbf hU=>?_⟩;refine Ub (n:=16) (out:=λo=>if decide (o∈kn j (qE l) z)=true then some (V.int ((2^o:Nat):Int)) else none) (rest:=[some (.ref W)]) hU (by decide) ?_ ?_ ?_
  ·intro x O r s5 R kk;refine⟨_,rfl,_,rfl,W,_,rfl,.inl (.of (s5 _ _ be)),rfl,ZM _,_,rfl,?_⟩;have:=kk r λ_ _ h=>h;show R (J2 (.int (x:Nat)) (Jn (kn j (qE l) z))) r;rw[Yn];by_cases c:x∈kn j (qE l) z
   ·rw[if_pos (decide_eq_true c)]at this;rw[decide_eq_true c];exact this
   ·rw[if_neg (by simp [c])]at this;rw[decide_eq_false c];exact this
  ·intro x O v ev r s5 R kk;have:v=V.int ((2^x:Nat):Int):=by
    split at ev
    ·exact(tA.inj ev).symm
    ·cases ev
   subst this;refine⟨_,rfl,1,(x:Int),rfl,rfl,⟨by omega,by omega,by decide⟩,?_⟩;have e9:(1:Int)*2^ ((x:Int).toNat)=((2^x:Nat):Int):=by
    rw[zdJ,zaj];exact(Int.natCast_pow 2 x).symm
   show R (.int ((1:Int)*2^ ((x:Int).toNat))) r;rw[e9];exact kk r λ_ _ h=>h
  ·intro G4 s4 aQ;have eU:(tQ 16).filterMap (λo=>if decide (o∈kn j (qE l) z)=true then some (V.int ((2^o:Nat):Int)) else none)=(((tQ 16).filter λk=>decide (k∈kn j (qE l) z)).map λk=>2^k).map λn=>V.int ((n:Nat):Int):=by
    generalize tQ 16=rg;induction rg with
    | nil=>rfl
    | cons a rg ih=>
     rw[zad,zbe];by_cases c:decide (a∈kn j (qE l) z)=true
     ·rw[if_pos c,if_pos c,tM,tM,<-ih]
     ·rw[if_neg c,if_neg c,<-ih]
   rw[eU]at aQ;have es:=Ci (ax z C);have lt:Rb.setN (kn j (qE l) z) < 2^16:=Rb.setN_lt (ax z C);refine⟨bf,_,rfl,.of aQ,by rw[es];exact zdC lt (by decide),?_⟩;rw[es];have bg:qi G2 G4:=s3.trans s4;refine⟨JB,λt ht=>?_⟩;have s5:qi G2 (upd G4 t (.tup [.str "endless",.int (Rb.setN (kn j (qE l) z):Nat)])):=bg.trans (qd ht);have aR:upd G4 t (.tup [.str "endless",.int (Rb.setN (kn j (qE l) z):Nat)]) t=some (.tup [.str "endless",.int (Rb.setN (kn j (qE l) z):Nat)]):=qa;generalize upd G4 t (.tup [.str "endless",.int (Rb.setN (kn j (qE l) z):Nat)])=G5 at s5 aR;have lz:((j.map (·.1)).take i).length<=14:=by rw[tE,lN];omega
   have bh:Ud G5 D (λy=>if y=z then .edl (Rb.setN (kn j (qE l) z)) else wF j (qE l) y) ((j.map (·.1)).take i):=(wt.mono s5).congr λy Y=>by show _=if y=z then _ else _;rw[if_neg (λq:y=z=>nz (by rw[<-q];exact Y))]
   obtain⟨o6,bi,az⟩:=bh.new nz lz (t:=t) (by rw[if_pos rfl];exact aR);refine⟨_,rfl,_,rfl,D,_,rfl,bi,?_⟩;have aq:Fr U D (upd G5 D o6):=(ae.same s5).at_d;have aS:je (j.map (·.1)) (upd G5 D o6) e (qE l):=ay.fr aq aO;have aT:(j.map (·.1)).take (i+1)=(j.map (·.1)).take i++[z]:=by rw[tz,ez];rfl
   generalize upd G5 D o6=G6 at az aq aS;have gz:=aS.get z;refine⟨_,rfl,_,rfl,e,_,rfl,gz,_,rfl,?_⟩;cases cz:qE l z with
   | none=>
    refine jp ⟨_,_,rfl,aq,?_⟩;rw[aT];refine az.congr λy Y=>?_;by_cases q:y=z
    ·subst q;rw[if_pos rfl];unfold wF;rw[cz]
    ·rw[if_neg q]
   | some m=>
    rw[cz]at gz;refine QA ⟨_,rfl,_,rfl,e,_,rfl,gz,JB,λt2 bj=>?_⟩;have s7:qi G6 (upd G6 t2 (.tup [.str "number",.int (m:Nat)])):=qd bj;have aU:upd G6 t2 (.tup [.str "number",.int (m:Nat)]) t2=some (.tup (tW (wF j (qE l) z))):=by
     rw[qa];unfold wF;rw[cz];rfl
    generalize upd G6 t2 (.tup [.str "number",.int (m:Nat)])=G7 at s7 aU;obtain⟨o8,bl,bm⟩:=(az.mono s7).over (F:=wF j (qE l)) (z:=z) (by simp) (by rw[tv,zar];omega) (λy _ q=>if_neg q) aU;refine⟨_,rfl,_,rfl,D,_,rfl,bl,_,_,rfl,(aq.same s7).at_d,?_⟩;rw[aT];exact bm
 ·rintro J G2 ⟨am,v8,rfl,ae,wt⟩;rw[tu (tf _)]at wt;exact⟨_,rfl,q G2 D _ (λb u hb=>ae _ _ (a' _ _ hb) (qj hb aM)) aM wt (λR all z C=>AY good L all C) a8⟩
open PySem L2 MLab Rb
open PyProof.Rows hiding K lo
abbrev z8:Stmt:=top 78
abbrev DX:Stmt:=top 79
def wN:decide (V.str (zdN "endless")=V.str (zdN "number"))=false:=by decide+kernel
def wE:decide (V.str (zdN "number")=V.str (zdN "endless"))=false:=by decide+kernel
def xL:∀ns:List Nat,DVs K H (Jn ns) (ns.map λn=>PyData.int (n:Nat))
 | []=>.nil
 | n::ns=>.cons (.int _) (xL ns)
def xy:∀ns:List Nat,PyData.canLayAll0 (ns.map λn=>PyData.int (n:Nat))=true
 | []=>rfl
 | n::ns=>by
  rw[tM,PyData.canLayAll0,xy ns];rfl
def W3:∀ns:List Nat,PyData.depthAll (ns.map λn=>PyData.int (n:Nat))<=1
 | []=>by decide
 | n::ns=>by
  rw[tM];have:=W3 ns;simp only[PyData.depthAll,PyData.depth];omega
def Mf(ns:List Nat):PySem.SeqAt.shaped (.list (ns.map λn=>PyData.int (n:Nat)))=true:=by
 unfold PySem.SeqAt.shaped;rw[zan];refine⟨xy ns,decide_eq_true ?_⟩;have:=W3 ns;simp only[PyData.depth];omega
def AC(ns:List Nat):PyData.eqv (.list (ns.map λn=>PyData.int (n:Nat))) (.list [])=decide (ns=[]):=by
 cases ns with
 | nil=>decide
 | cons n ns=>
  rw[tM,decide_eq_false (by simp)];simp [PyData.eqv,PyData.eqvAll]
def Ks(a:List W):(Jm a).length<=a.length:=zal _ _
def Mg{a:List W}(h:∀u∈a,okW u):∀b∈Jm a,b < 65536:=by
 intro x a;obtain⟨u,hu,e⟩:=zaC.mp a;cases u with
 | num n=>cases e
 | edl b=>cases e;exact h _ hu
def Xd(u:Rb.W):tW u=[.str (Qg u),.int (ZB u:Nat)]:=by cases u<;>rfl
def Tl(H:Hp)(ps:List Addr)(a:List Rb.W):Prop:=ps.length=a.length/\∀(i:Nat) (b:Addr) (u:Rb.W),ps[i]?=some b->a[i]?=some u->H b=some (.tup (tW u))
def Tl.tk(h:Tl H ps a)(k:TK H H'):Tl H' ps a:=⟨h.1,λi a u b d=>k _ _ (h.2 i a u b d)⟩
def Tl.snoc(h:Tl H ps a)(hp:H p=some (.tup (tW u))):Tl H (ps++[p]) (a++[u]):=by
 refine⟨by rw[tv,tv,h.1];rfl,λi d e b a=>?_⟩;rcases Jp b with ⟨j,b⟩ | ⟨j,rfl⟩
 ·rcases Jp a with ⟨_,a⟩ | ⟨j,_⟩
  ·exact h.2 i d e b a
  ·have:=h.1;omega
 ·rcases Jp a with ⟨j,_⟩ | ⟨_,rfl⟩
  ·have:=h.1;omega
  ·exact hp
def DB(p:Nat->Bool)(l:List Nat):l.filterMap (λj=>if p j=true then some (V.int ((2^j:Nat):Int)) else none)=((l.filter p).map λk=>2^k).map λn=>V.int ((n:Nat):Int):=by
 induction l with
 | nil=>rfl
 | cons a l b=>
  rw[zad,zbe];by_cases c:p a=true
  ·rw[if_pos c,if_pos c,tM,tM,<-b]
  ·rw[if_neg c,if_neg c,<-b]
def uY{b:Nat}(a:n < 16):(((tQ 16).filter λk=>b.testBit (k^^^n)).map λk=>2^k).sum=turnN b n 16:=by
 have e:(tQ 16).filter (λk=>b.testBit (k^^^n))=(tQ 16).filter λk=>decide (k∈(tQ 16).filter λk=>b.testBit (k^^^n)):=zbA λk d=>by
  rw[zaq,decide_eq_true_iff,tZ];exact⟨λh=>⟨d,h⟩,λh=>h.2⟩
 rw[e,Vl,<-e];refine zbd λk=>?_;rw[testBit_setN,Qo a,zaq,decide_eq_true_iff,zan,decide_eq_true_iff,tZ,zai]
inductive u7(vs:List V)(H:Hp)(Q:VK):Prop
 | mk (l:Addr) (ps:List Addr) (ws:List Rb.W):vs=[.ref l]->H l=some (.lst (ps.map V.ref))->Tl H ps ws->((∀u∈ws,okW u))->(ws.length<=8)->(∀H' p,qi H H'->H' p=some (.tup (tW (JY ws)))->Q (.ref p) H')->u7 vs H Q
def u8:Sp:=λa H Q _=>u7 a H Q
inductive Bk(vs:List V)(H:Hp)(Q:VK):Prop
 | mk (t:Addr) (u:Rb.W):vs=[.ref t]->H t=some (.tup (tW u))->(∀H',qi H H'->Q (.str (kb u)) H')->Bk vs H Q
def Cn:Sp:=λa H Q _=>Bk a H Q
def Mn:qm ["_law_worths_here","_law_number","_law_word","_law_one","_law_sets"] ["_law_worths_here"] (qg z8):=Qm
def Gr(F:jL K "_law_total" "_law_total" z8 f fd)(B:QB mg)(T:Qn K mg):qp P w K mg base jh 1 f fd ["_law_worths_here"] u8:=by
 refine F.okK Mn λH Q E hr h=>?_;obtain⟨y,C,a,rfl,J,L,ac,_,q⟩:=h;refine⟨_,qb (Je 1 qk)
  (qb (qP (qy (jv 0)) (QH rfl (qH (qz 2) (qH (qz 3) j3)))
   (qe (qJ (qo QM (jv 2) qL) (qe (Je 1 (qM VJ (jv 1) (jv 3)))) qt)))
  (qb (Je 4 (jw (N':=["_law_word","_law_one"]) (ix:=[none,none]) (g:=kH K 2 (Za (jF 0) (Za (jF 1) kI))) (qy (jv 0))
    (λd z l fp m=>⟨QH rfl (qH (qz 0) (qH (qz 1) j3)),
     jP (qo QM (jv 0) qL),jv 1⟩)))
  (qb (qJ (qo (VM hr.units) (jv 4) (Ql jT)) (qe (qr (jm (jQ qL (jv 1))))) qt)
  (qb (qJ (qo J7 (qu qx (by rfl) B.len boot_len (qT (jv 4))) qk) (qe (qr (jm (jQ qL qk)))) qt)
  (qe (qr (jm (jQ qL (qu (ZX rfl) (by rfl) T.sum boot_sum (qT (jw (N':=["_law_k","_law_sets","_law_number"]) (ix:=[none,some 4,some 1])
    (tt:=zx (Zr rEq (Zr (wm λi j=>.int (Builtin.bitAnd i j)) (Zr (rI (λ_ j=>0<=j) λi j=>.int (i / 2^j.toNat)) (Zr (K5 K) (qw 1) (tC (.int 0))) (Zr (wm λi j=>.int (Builtin.bitXor i j)) (qw 0) (qw 2))) (tC (.int 1))) (tC (.int 1)))) (te:=Zr (rI AS λi j=>.int (i*2^j.toNat)) (tC (.int 1)) (qw 0)) (jq (by rfl) B.rng (qT qk)) (λd z l fp m=>
    ⟨qz 0,jP (qo QM (qM Gp (qM Gm (qU Qr (jv 1) qk) (qM VJ (jv 0) (jv 2))) qk) qk),qM kg qk (jv 0)⟩)))))))))))),?_⟩
 have item:∀{i:Nat} {x:V},(C.map V.ref)[i]?=some x->∃(d:Addr) (u:Rb.W),x=.ref d/\a[i]?=some u/\H d=some (.tup [.str (Qg u),.int (ZB u:Nat)]):=λ{i x} l=>by
  rw[tw]at l;cases O:C[i]? with
  | none=>rw[O]at l;cases l
  | some d=>
   rw[O]at l;have hi:i < a.length:=by
    have:=(td.mp O).1;rw[L.1]at this;exact this
   have p:a[i]?=some a[i]:=tr hi;exact⟨d,_,(tA.inj l).symm,p,by rw[<-Xd];exact L.2 i d _ O p⟩
 have tk:∀{i:Nat} {u:Rb.W},a[i]?=some u->a.take (i+1)=a.take i++[u]:=λ{i u} e=>by rw[tz,e];rfl
 refine⟨_,rfl,y,rfl,⟨_,.of J⟩,?_⟩;refine jb (K:=K) (a:=y) (xs:=C.map V.ref) (λi U m=>∃v2 v3,U=[some (.ref y),some (.int (jM (JP (a.take i)):Nat)),v2,v3,none]/\m=H) ⟨none,none,rfl,rfl⟩ (λi U m _ ⟨_,_,_,e⟩=>e▸.of J) ?_ ?_
 ·rintro i x U m l ⟨v2,v3,rfl,rfl⟩;obtain⟨d,u,rfl,p,hT⟩:=item l;refine⟨d,_,rfl,.of hT,rfl,_,_,rfl,_,_,rfl,rfl,_,rfl,rfl,_,rfl,?_⟩;rw[tk p,WS];cases u with
  | num n=>
   have e:decide (V.str (Qg (.num n))=V.str (zdN "number"))=true:=decide_eq_true rfl;rw[e];refine QA ⟨_,rfl,_,rfl,_,_,rfl,rfl,some (.str (Qg (.num n))),some (.int (ZB (.num n):Nat)),?_,rfl⟩;show _=[_,some (V.int ((jM (JP (a.take i)++[n]):Nat):Int)),_,_,_];rw[Yw,<-bx];rfl
  | edl b=>
   have e:decide (V.str (Qg (.edl b))=V.str (zdN "number"))=false:=wN;rw[e];refine jp ⟨some (.str (Qg (.edl b))),some (.int (ZB (.edl b):Nat)),?_,rfl⟩;show _=[_,some (V.int ((jM (JP (a.take i)++[]):Nat):Int)),_,_,_];rw[zak];rfl
 ·rintro U m ⟨v2,v3,rfl,rfl⟩;rw[ta,L.1,tu (tf _)];refine⟨_,rfl,y,rfl,⟨_,.of J⟩,λD hD=>?_⟩;refine jc (K:=K) (a:=y) (xs:=C.map V.ref) (λi Y G=>∃v0 v1,Y=[v0,v1]/\G=upd m D (.lst (Jn (Jm (a.take i))))) ⟨none,none,rfl,rfl⟩ (λi Y G _ ⟨_,_,_,e⟩=>e▸.of (ql J hD)) ?_ ?_
  ·rintro i x Y G l ⟨v0,v1,rfl,rfl⟩;obtain⟨d,u,rfl,p,hT⟩:=item l;refine⟨d,_,rfl,.of (ql hT hD),rfl,_,_,rfl,_,_,rfl,rfl,_,rfl,rfl,_,rfl,?_⟩;rw[tk p,WG];have l1:(Jn (Jm (a.take i))).length < zdR:=by
    rw[Zn];refine qh (tR (Ks _) ?_);rw[tE];omega
   cases u with
   | num n=>
    have e:decide (V.str (Qg (.num n))=V.str (zdN "endless"))=false:=wE;rw[e];refine jp ⟨_,_,rfl,?_⟩;rw[zak]
   | edl b=>
    have e:decide (V.str (Qg (.edl b))=V.str (zdN "endless"))=true:=decide_eq_true rfl;rw[e];refine QA ⟨_,rfl,_,qa,l1,_,_,rfl,?_⟩;rw[jx,<-XR];rfl
  ·rintro Y G ⟨v0,v1,rfl,rfl⟩;rw[ta,L.1,tu (tf _)];have y:qi m (upd m D (.lst (Jn (Jm a)))):=qd hD;have p:upd m D (.lst (Jn (Jm a))) D=some (.lst (Jn (Jm a))):=qa;generalize upd m D (.lst (Jn (Jm a)))=G at y p ⊢;have ae:=Mg ac;have aa:=z4 (VO ac);refine⟨_,rfl,JB,λC J=>?_⟩;have z:qi G (upd G C (.lst [])):=qd J;refine⟨.list ((Jm a).map λn=>PyData.int (n:Nat)),.list [],.lst (.of (z _ _ p)) (xL _),.lst (.of qa) .nil,Mf _,by decide,_,rfl,?_⟩;rw[AC];have c2:=z _ _ p;have s3:=y.trans z;generalize upd G C (.lst [])=G2 at s3 c2 ⊢;have ew:∀(d:Addr) (p:Hp) (u:Rb.W),qi m p->p d=none->JY a=u->Q (.ref d) (upd p d (.tup [.str (Qg u),.int (ZB u:Nat)])):=λd p u y o z=>
    q _ _ (y.trans (qd o)) (by rw[z,Xd];exact qa)
   cases hs:Jm a with
   | nil=>
    rw[decide_eq_true rfl];have r:JY a=.num (jM (JP a)):=by unfold JY;rw[hs]
    refine QA ⟨_,rfl,JB,λd o=>ew d _ _ s3 o r⟩
   | cons b ab=>
    rw[hs]at c2 ae;rw[decide_eq_false (by simp)];refine jp ⟨_,rfl,D,_,rfl,.inl (.of c2),_,_,rfl,rfl,_,rfl,?_⟩;cases ab with
    | nil=>
     have r:JY a=.edl (turnN b (jM (JP a)) 16):=by unfold JY;rw[hs]
     refine jp ⟨16,rfl,by decide,by decide,λm p=>?_⟩;generalize jM (JP a)=n at aa r ⊢;refine Ub (n:=16) (out:=λj=>if (λk=>b.testBit (k^^^n)) j=true then some (V.int ((2^j:Nat):Int)) else none) (rest:=[some (.ref D),some (.int (n:Nat))]) p (by decide) ?_ ?_ ?_
     ·intro x l j s5 R kk;refine⟨_,rfl,D,_,0,_,rfl,rfl,.of (s5 _ _ c2),rfl,_,rfl,_,rfl,_,_,rfl,rfl,_,_,rfl,rfl,?_,_,_,rfl,rfl,rfl,_,rfl,?_⟩
      ·rw[bx];omega
      ·have:=kk j λ_ _ h=>h;have p:Builtin.bitAnd ((b:Int) / 2^ (Builtin.bitXor (x:Int) (n:Int)).toNat) 1=(((b.testBit (x^^^n)).toNat:Nat):Int):=by rw[bx,yD]
       show R (decide (V.int (Builtin.bitAnd ((b:Int) / 2^ (Builtin.bitXor (x:Int) (n:Int)).toNat) 1)=V.int 1)) j;rw[p];cases c:b.testBit (x^^^n) with
       | true=>rw[if_pos c]at this;exact this
       | false=>rw[if_neg (by simp [c])]at this;exact this
     ·intro x l v ev j s5 R kk;have:v=V.int ((2^x:Nat):Int):=by
       split at ev
       ·exact(tA.inj ev).symm
       ·cases ev
      subst this;refine⟨_,rfl,1,(x:Int),rfl,rfl,⟨by omega,by omega,by decide⟩,?_⟩;have l:(1:Int)*2^ ((x:Int).toNat)=((2^x:Nat):Int):=by
       rw[zdJ,zaj];exact(Int.natCast_pow 2 x).symm
      show R (.int ((1:Int)*2^ ((x:Int).toNat))) j;rw[l];exact kk j λ_ _ h=>h
     ·intro _ p j;rw[DB (λk=>b.testBit (k^^^n))]at j;have l:=uY (b:=b) aa;have lt:turnN b n 16 < 65536:=Vi (k:=4) (tf _) aa;refine⟨m,_,rfl,.of j,by rw[l];omega,?_⟩;rw[l];exact⟨JB,λd o=>ew d _ _ (s3.trans p) o r⟩
    | cons j ab=>
     have r:JY a=.edl 0:=by unfold JY;rw[hs]
     have e:decide ((1:Int) < ((Jn (b::j::ab)).length:Int))=true:=decide_eq_true (by rw[Zn];simp only[zab];omega);rw[e];refine QA ⟨JB,λd o=>ew d _ _ s3 o r⟩
def HN:qm ["_law_worth"] ["_law_worth"] (qg DX):=Qm
def E4(F:jL K "_law_outcome" "_law_outcome" DX f a)(B:QB mg):qp P w K mg base jh 1 f a ["_law_worth"] Cn:=by
 refine F.okK HN λH Q E hr h=>?_;obtain⟨t,u,rfl,i,q⟩:=h;refine⟨_,qb (qJ (qo QM (qU ja (jv 0) qk) qL)
   (qe (qr (qU Qr (Ql (jQ qL qL)) (qV W6 (by rfl) B.int boot_int (qT (Qe J7 (qU ja (jv 0) qk) qk)))))) qt)
  (qe (qr (qU Qr (Ql (jQ qL qL)) (qM JZ (qU ja (jv 0) qk) qk)))),?_⟩
 cases u with
 | num n=>
  refine⟨_,rfl,t,_,0,_,rfl,rfl,.of i,rfl,rfl,_,rfl,j4 (by decide+kernel) ?_⟩;refine⟨JB,λa d=>⟨_,rfl,t,_,1,_,rfl,rfl,.of (ql i d),rfl,_,_,rfl,rfl,.inr ⟨_,rfl,?_⟩⟩⟩;have q:=q _ (qd (o:=HO.lst [.str "lost",.str "won"]) d);have q:Q (.str (if n=0 then "lost" else "won")) (upd H a (.lst [.str "lost",.str "won"])):=q;by_cases c:n=0
  ·rw[if_pos c]at q;subst c;exact⟨a,_,_,_,rfl,rfl,.of qa,rfl,q⟩
  ·rw[if_neg c]at q;rw[decide_eq_true (show (0:Int) < ((n:Nat):Int) by omega)];exact⟨a,_,_,_,rfl,rfl,.of qa,rfl,q⟩
 | edl b=>
  refine⟨_,rfl,t,_,0,_,rfl,rfl,.of i,rfl,rfl,_,rfl,jV (by decide+kernel) ?_⟩;refine⟨JB,λa d=>⟨_,rfl,t,_,1,_,rfl,rfl,.of (ql i d),rfl,_,_,rfl,rfl,show (0:Int) < 2 by decide,?_⟩⟩;have q:=q _ (qd (o:=HO.lst [.str "drawn",.str "won"]) d);have q:Q (.str (if b.testBit 0=true then "won" else "drawn")) (upd H a (.lst [.str "drawn",.str "won"])):=q;have d:b.testBit 0=decide (b % 2=1):=zco b;rw[d]at q;rcases zcE b with c | c
  ·have e:(((b:Nat):Int) % 2)=0:=by omega
   rw[if_neg (by rw[c];decide)]at q;refine⟨a,_,_,_,rfl,rfl,.of qa,?_,q⟩;show Ve _ (((b:Nat):Int) % 2)=_;rw[e];rfl
  ·have e:(((b:Nat):Int) % 2)=1:=by omega
   rw[if_pos (by rw[c];decide)]at q;refine⟨a,_,_,_,rfl,rfl,.of qa,?_,q⟩;show Ve _ (((b:Nat):Int) % 2)=_;rw[e];rfl
open PySem L2 MLab Rb
open PyProof.Rows hiding K lo
def Wj(F:Str->W)(fs:List (W×Str))(z:Str):List (W×Str):=if F z∈fs.map (·.1) then fs else fs++[(F z,z)]
def QU(F:Str->W)(zs:List Str):List (W×Str):=zs.foldl (Wj F) []
def w6(F:Str->W)(zs:List Str)(z:Str):QU F (zs++[z])=Wj F (QU F zs) z:=by unfold QU;rw[zbT];rfl
structure Fs(F:Str->W)(zs:List Str)(fs:List (W×Str)):Prop where
 nd:(fs.map (·.1)).Nodup
 of:∀p∈fs,p.2∈zs/\F p.2=p.1
 all:∀z∈zs,F z∈fs.map (·.1)
 len:fs.length<=zs.length
def Fs.more(h:Fs F zs fs)(z:Str):Fs F (zs++[z]) (Wj F fs z):=by
 unfold Wj;by_cases c:F z∈fs.map (·.1)
 ·rw[if_pos c];refine⟨h.nd,λj i=>⟨tV _ (h.of j i).1,(h.of j i).2⟩,λy d=>?_,by rw[tv];have:=h.len;omega⟩;rcases tN.mp d with d | d
  ·exact h.all y d
  ·rw[tK.mp d];exact c
 ·rw[if_neg c];refine⟨?_,λj i=>?_,λy d=>?_,by rw[tv,tv];have:=h.len;simp;omega⟩
  ·rw[tj];refine zbi.mpr ⟨h.nd,zbc _ _,λa l b m e=>c ?_⟩;have:b=F z:=by simpa using m
   rw[<-this,<-e];exact l
  ·rcases tN.mp i with i | i
   ·exact⟨tV _ (h.of j i).1,(h.of j i).2⟩
   ·have:j=(F z,z):=by simpa using i
    subst this;exact⟨tU _ (tK.mpr rfl),rfl⟩
  ·rw[tj];rcases tN.mp d with d | d
   ·exact tV _ (h.all y d)
   ·rw[tK.mp d];exact tU _ (by simp)
def xp:∀(ys zs:List Str) (fs:List (W×Str)),Fs F zs fs->Fs F (zs++ys) (ys.foldl (Wj F) fs)
 | [],zs,fs,h=>by rw[zak];exact h
 | y::ys,zs,fs,h=>by
  have:=xp ys (zs++[y]) _ (h.more y);rw[zbB]at this;exact this
def R5(F:Str->W)(zs:List Str):Fs F zs (QU F zs):=xp zs [] [] ⟨zbh,λ_ h=>(nomatch h),λz h=>(nomatch h),tf _⟩
def look(fs:List (W×Str))(u:W):Str:=((fs.find? λa=>decide (a.1=u)).map (·.2)).getD (zdN "")
def y8:∀{fs:List (W×Str)} {u:W} {z:Str},(fs.map (·.1)).Nodup->(u,z)∈fs->look fs u=z
 | [],_,_,_,h=>nomatch h
 | a::fs,u,z,b,h=>by
  obtain⟨n1,n2⟩:=zah.mp b;unfold look;rw[zaR];by_cases c:a.1=u
  ·rw[decide_eq_true c];rcases tL.mp h with e | h
   ·rw[<-e];rfl
   ·exact absurd (tc.mpr ⟨_,h,c.symm⟩) n1
  ·rw[decide_eq_false c];rcases tL.mp h with e | h
   ·exact absurd (by rw[<-e]) c
   ·exact y8 n2 h
def Fs.look(h:Fs F zs fs)(hu:u∈fs.map (·.1)):(u,look fs u)∈fs/\look fs u∈zs/\F (look fs u)=u:=by
 obtain⟨p,hp,rfl⟩:=tc.mp hu;have e:Rh.look fs p.1=p.2:=y8 h.nd hp;rw[e];exact⟨hp,h.of p hp⟩
def kW(u:W):List qF:=[Sum.inr (Qg u),Sum.inl (ZB u:Int)]
def ky(u:W):(kW u).map kV=tW u:=by rw[Xd];rfl
def Rw(h:kW u=kW v):u=v:=by
 unfold kW at h;obtain⟨e,d⟩:=zcz.inj h;obtain⟨d,_⟩:=zcz.inj d;have e:=Sum.inr.inj e;have d:=Int.ofNat.inj (Sum.inl.inj d);have ne:(zdN "number")≠(zdN "endless"):=by decide+kernel
 cases u with
 | num n=>cases v with
  | num m=>exact congrArg _ d
  | edl b=>exact absurd e ne
 | edl a=>cases v with
  | num m=>exact absurd e.symm ne
  | edl b=>exact congrArg _ d
def fT(fs:List (W×Str)):List (List qF×V):=fs.map λa=>(kW a.1,V.str a.2)
def kM:∀{fs:List (W×Str)} {u:W} {z:Str},(fs.map (·.1)).Nodup->(u,z)∈fs->qO (fT fs) (kW u)=some (.str z)
 | [],_,_,_,h=>nomatch h
 | a::fs,u,z,b,h=>by
  obtain⟨n1,n2⟩:=zah.mp b;show qO ((kW a.1,V.str a.2)::fT fs) (kW u)=_;by_cases c:a.1=u
  ·rw[jz (by rw[c])];rcases tL.mp h with e | h
   ·rw[<-e]
   ·exact absurd (tc.mpr ⟨_,h,c.symm⟩) n1
  ·rw[jk (λe=>c (Rw e))];rcases tL.mp h with e | h
   ·exact absurd (by rw[<-e]) c
   ·exact kM n2 h
def V6:∀{fs:List (W×Str)} {u:W},u∉fs.map (·.1)->qO (fT fs) (kW u)=none
 | [],_,_=>rfl
 | a::fs,u,h=>by
  show qO ((kW a.1,V.str a.2)::fT fs) (kW u)=_;rw[jk (λe=>h (by rw[<-Rw e];exact tO)),V6 λm=>h (tG _ m)]
def Nf(fs:List (W×Str)):(fT fs).length=fs.length:=ta ..
def FM{fs:List (W×Str)}{i:Nat}{k:List qF}{y:V}(h:(fT fs)[i]?=some (k,y)):∃p,fs[i]?=some p/\p∈fs/\k=kW p.1/\y=.str p.2:=by
 unfold fT at h;rw[tw]at h;cases e:fs[i]? with
 | none=>rw[e]at h;cases h
 | some p=>
  rw[e]at h;have:=tA.inj h;exact⟨p,rfl,tP e,(Prod.mk.inj this).1.symm,(Prod.mk.inj this).2.symm⟩
def DD{fs:List (W×Str)}{F:Str->W}(h:F z∉fs.map (·.1)):jD (fT fs) (kW (F z)) (.str z)=fT (Wj F fs z):=by
 rw[QR _ (V6 h)];unfold Wj;rw[if_neg h];unfold fT;rw[tj];rfl
def R4{fs:List (W×Str)}{F:Str->W}(h:F z∈fs.map (·.1)):Wj F fs z=fs:=by unfold Wj;rw[if_pos h]
def ends(fs:List (W×Str))(p:W×Str):List Str:=match p.1 with
 | .num n=>(tQ n).map λk=>look fs (.num k)
 | .edl b=>(memN b 16).map (λk=>look fs (.num k))++[p.2]
def Z8(fs:List (W×Str)):jG:=fs.map λa=>(a.2,ends fs a)
def QO(fs:List (W×Str)):(Z8 fs).map (·.1)=fs.map (·.2):=by unfold Z8;rw[zam];rfl
structure Wc(F:Str->W)(zs:List Str):Prop where
 num:∀z∈zs,∀n,F z=.num n->∀m,m < n->∃y∈zs,F y=.num m
 edl:∀z∈zs,∀b,F z=.edl b->∀k,b.testBit k=true->∃y∈zs,F y=.num k
 ok:∀z∈zs,okW (F z)
 nm:∀z∈zs,jB z=true
def Fs.has(h:Fs F zs fs)(c:Wc F zs)(hp:p∈fs):
  match p.1 with | .num n=>n < 16/\∀m,m < n->W.num m∈fs.map (·.1) | .edl b=>b < 65536/\∀k,b.testBit k=true->W.num k∈fs.map (·.1):=by
 obtain⟨m,e⟩:=h.of p hp;have ok:=c.ok _ m;rw[e]at ok;cases k:p.1 with
 | num n=>
  rw[k]at e ok;exact⟨ok,λa d=>by obtain⟨y,i,j⟩:=c.num _ m n e a d;rw[<-j];exact h.all y i⟩
 | edl b=>
  rw[k]at e ok;exact⟨ok,λa d=>by obtain⟨y,i,j⟩:=c.edl _ m b e a d;rw[<-j];exact h.all y i⟩
def zQ(e:p.1=.num n):ends fs p=(tQ n).map λk=>look fs (.num k):=by unfold ends;rw[e]
def zR(e:p.1=.edl b):ends fs p=(memN b 16).map (λk=>look fs (.num k))++[p.2]:=by unfold ends;rw[e]
def B5(h:b < 65536)(a:b.testBit k=true):k < 16:=Nat.lt_of_not_le λle=>by
 have d:(2:Nat)^16<=2^k:=zdm (by decide) le;have:b < 2^k:=tF h d;rw[zda this]at a;cases a
def Zm(h:Fs F zs fs)(c:Wc F zs)(hp:p∈fs):
  y∈ends fs p↔match p.1 with | .num n=>∃k,k < n/\y=look fs (.num k) | .edl b=>(∃k,b.testBit k=true/\y=look fs (.num k))\/y=p.2:=by
 have d:=h.has c hp;cases e:p.1 with
 | num n=>
  rw[zQ e,tc];exact⟨λ⟨k,a,z⟩=>⟨k,zai.mp a,z.symm⟩,λ⟨k,a,z⟩=>⟨k,zai.mpr a,z.symm⟩⟩
 | edl b=>
  rw[e]at d;rw[zR e,tN,tc,tK];refine or_congr ⟨λ⟨k,a,z⟩=>⟨k,(mem_memN.mp a).2,z.symm⟩,λ⟨k,a,z⟩=>⟨k,mem_memN.mpr ⟨?_,a⟩,z.symm⟩⟩ Iff.rfl;exact B5 d.1 a
def Fs.nd2(h:Fs F zs fs):(fs.map (·.2)).Nodup:=by
 have e:fs.map (·.1)=(fs.map (·.2)).map F:=by
  rw[zam];exact zap λa b=>(h.of a b).2.symm
 have:=h.nd;rw[e]at this;exact(zbk.mp this).imp λa e=>a (congrArg F e)
def Rn(h:Fs F zs fs)(c:Wc F zs)(hp:p∈fs)(l:y∈ends fs p)(ne:y≠p.2\/∃n,p.1=.num n):∃k,F y=.num k/\y=look fs (.num k)/\(W.num k,y)∈fs:=by
 have a:=h.has c hp;have d:=(Zm h c hp).mp l;cases e:p.1 with
 | num n=>
  rw[e]at a d;obtain⟨k,i,rfl⟩:=d;have:=h.look (a.2 k i);exact⟨k,this.2.2,rfl,this.1⟩
 | edl b=>
  rw[e]at a d;rcases d with ⟨k,i,rfl⟩ | rfl
  ·have:=h.look (a.2 k i);exact⟨k,this.2.2,rfl,this.1⟩
  ·rcases ne with ne | ⟨n,j⟩
   ·exact absurd rfl ne
   ·rw[e]at j;cases j
def AG(h:Fs F zs fs)(c:Wc F zs)(hp:p∈fs)(a:y∈ends fs p):y∈fs.map (·.2):=by
 by_cases e:y=p.2
 ·rw[e];exact tc.mpr ⟨p,hp,rfl⟩
 ·obtain⟨k,_,_,m⟩:=Rn h c hp a (.inl e);exact tc.mpr ⟨_,m,rfl⟩
def RP{l:List Nat}{f:Nat->Str}(nd:l.Nodup)(h:∀a∈l,∀b∈l,f a=f b->a=b):(l.map f).Nodup:=by
 refine zbk.mpr ?_;exact nd.imp_of_mem λ{a b} d i ne e=>ne (h a d b i e)
def AE(h:Fs F zs fs)(c:Wc F zs)(hp:p∈fs):(ends fs p).Nodup:=by
 have d:=h.has c hp;have inj:∀{a b:Nat},W.num a∈fs.map (·.1)->W.num b∈fs.map (·.1)->look fs (.num a)=look fs (.num b)->a=b:=λi j e=>by
  have l:=(h.look i).2.2;rw[e,(h.look j).2.2]at l;exact(W.num.inj l).symm
 cases e:p.1 with
 | num n=>
  rw[e]at d;rw[zQ e];exact RP zbo λa i b j z=>inj (d.2 a (zai.mp i)) (d.2 b (zai.mp j)) z
 | edl b=>
  rw[e]at d;rw[zR e];refine zbi.mpr ⟨RP (zbo.sublist zao) λa i m j z=>inj (d.2 a (mem_memN.mp i).2) (d.2 m (mem_memN.mp j).2) z,zbc _ _,λy i _ j z=>?_⟩;obtain⟨k,m,rfl⟩:=tc.mp i;have l:=(h.look (d.2 k (mem_memN.mp m).2)).2.2;rw[z,tK.mp j,(h.of p hp).2,e]at l;cases l
def XT(h:Fs F zs fs)(c:Wc F zs)(a:((Z8 fs).map λr=>r.2.length).sum<=40):qf (Z8 fs):=by
 refine⟨λr hr=>?_,by rw[QO];exact h.nd2,λr hr y b=>?_,λr hr=>?_,a⟩
 all_goals obtain⟨d,a,rfl⟩:=tc.mp hr
 ·exact c.nm _ (h.of d a).1
 ·rw[QO];exact AG h c a b
 ·exact AE h c a
def nF(F:Str->W)(z:Str):Option Nat:=match F z with
 | .num n=>some n
 | .edl _=>none
def sF(F:Str->W)(z:Str):Nat:=match F z with
 | .num n=>n
 | .edl _=>0
def Yi{F:Str->W}(e:F z=.num n):nF F z=some n:=by unfold nF;rw[e]
def Ri{F:Str->W}(e:F z=.edl b):nF F z=none:=by unfold nF;rw[e]
def VC{F:Str->W}(e:F z=.num n):sF F z=n:=by unfold sF;rw[e]
def WR(e:nF F z=some n):F z=.num n:=by
 unfold nF at e;cases k:F z with
 | num m=>rw[k]at e;rw[tA.inj e]
 | edl b=>rw[k]at e;cases e
def C6(e:nF F z=none):∃b,F z=.edl b:=by
 unfold nF at e;cases k:F z with
 | num m=>rw[k]at e;cases e
 | edl b=>exact⟨b,rfl⟩
def ZI(h:Fs F zs fs)(g:qf (Z8 fs))(hp:p∈fs):jS (Z8 fs) p.2=ends fs p:=ZJ g.nd (r:=(p.2,ends fs p)) (tc.mpr ⟨p,hp,rfl⟩)
def wL(h:Fs F zs fs)(c:Wc F zs)(g:qf (Z8 fs)):Zc (jS (Z8 fs)) (·∈(Z8 fs).map (·.1)) (nF F) (sF F) where
 cl:=λ{x y} d j=>Zl g d j
 n1:=λ{x n m} d e lt=>by
  rw[QO]at d;obtain⟨i,a,rfl⟩:=tc.mp d;rw[ZI h g a];have l:i.1=.num n:=by rw[<-(h.of i a).2];exact WR e
  have o:=h.has c a;rw[l]at o;have lk:=h.look (o.2 m lt);refine⟨look fs (.num m),(Zm h c a).mpr (by rw[l];exact⟨m,lt,rfl⟩),Yi lk.2.2,?_⟩;rw[VC lk.2.2,VC (WR e)];exact lt
 n2:=λ{x y n} d e j=>by
  rw[QO]at d;obtain⟨i,a,rfl⟩:=tc.mp d;rw[ZI h g a]at j;have l:i.1=.num n:=by rw[<-(h.of i a).2];exact WR e
  have o:=h.has c a;have p:=(Zm h c a).mp j;rw[l]at p o;obtain⟨k,q,rfl⟩:=p;rw[Yi (h.look (o.2 k q)).2.2];exact λz=>by have:=tA.inj z;omega
 n3:=λ{x y n} d e j gt=>by
  rw[QO]at d;obtain⟨i,a,rfl⟩:=tc.mp d;rw[ZI h g a]at j;have l:i.1=.num n:=by rw[<-(h.of i a).2];exact WR e
  have o:=h.has c a;have p:=(Zm h c a).mp j;rw[l]at p o;obtain⟨k,q,rfl⟩:=p;have:=gt k (Yi (h.look (o.2 k q)).2.2);omega
 n4:=λ{x y n m} d e j j lt=>by
  rw[VC (WR e),VC (WR j)];exact lt
 e:=λ{x m} d e lo j=>by
  have o:=d;rw[QO]at d;obtain⟨i,a,rfl⟩:=tc.mp d;obtain⟨b,d⟩:=C6 e;have l:i.1=.edl b:=by rw[<-(h.of i a).2];exact d
  refine⟨i.2,?_,e,j⟩;rw[ZI h g a];exact(Zm h c a).mpr (by rw[l];exact .inr rfl)
def uw(h:Fs F zs fs)(c:Wc F zs)(g:qf (Z8 fs))(all:All (QJ (Z8 fs)) ((Z8 fs).map (·.1)) 0 [] R)(hp:p∈fs):wT (Z8 fs) R p.2=p.1:=by
 have l:p.2∈(Z8 fs).map (·.1):=by rw[QO];exact tc.mpr ⟨p,hp,rfl⟩
 rw[<-AY g (wL h c g) all l];have a:=(h.of p hp).2;unfold wF;cases e:p.1 with
 | num n=>
  rw[e]at a;rw[Yi a]
 | edl b=>
  rw[e]at a;rw[Ri a];have d:=h.has c hp;rw[e]at d;show W.edl _=W.edl _;congr 1;have l:setN (memN b 16)=b:=Mh d.1;rw[<-l];refine Xi λx=>?_;rw[zh,ZI h g hp];constructor
  ·rintro⟨y,m,i⟩;have l:=(Zm h c hp).mp m;rw[e]at l;rcases l with ⟨k,j,rfl⟩ | rfl
   ·rw[Yi (h.look (d.2 k j)).2.2]at i;cases i;exact mem_memN.mpr ⟨B5 d.1 j,j⟩
   ·rw[Ri a]at i;cases i
  ·intro i;obtain⟨_,a⟩:=mem_memN.mp i;exact⟨look fs (.num x),(Zm h c hp).mpr (by rw[e];exact .inl ⟨x,a,rfl⟩),Yi (h.look (d.2 x a)).2.2⟩
open PySem L2 MLab Rb
open PyProof.Rows hiding K lo
abbrev Vw:Stmt:=top 63
abbrev Hb:Stmt:=top 65
abbrev yK:Stmt:=top 66
abbrev EF:Stmt:=top 67
abbrev Ye:Stmt:=top 64
structure AR(K:zdM)(mg:Str->Option Value):Prop where
 nin:∃f fd,qW K mg "numbers_in" zd ["bits"] f fd
 wt:∃f fd,qW K mg "worths_told" Vw ["ground"] f fd
 fp:∃f fd,qW K mg "first_places" Hb ["told"] f fd
 lr:∃f fd,qW K mg "least_row" yK ["firsts","worth"] f fd
 lg:∃f fd,qW K mg "least_ground" EF ["ground"] f fd
 al:∃f fd,qW K mg "alike" Ye ["ground","one","other"] f fd
 need:∃f fd,qW K mg "need_rows" Z6 ["rows"] f fd
def wD(u:W):PyData:=.tuple [.str (Qg u),.int (ZB u:Nat)]
def Ws{H:Hp}(h:H t=some (.tup (tW u))):DV K H (.ref t) (wD u):=by
 rw[Xd]at h;exact .tup (.of h) (.cons (.str _) (.cons (.int _) .nil))
def okN:PyData.strOk "number"=true:=by decide+kernel
def okE:PyData.strOk "endless"=true:=by decide+kernel
def Wr(u:W):PySem.SeqAt.shaped (wD u)=true:=by
 unfold PySem.SeqAt.shaped wD;cases u with
 | num n=>
  simp only[Qg,PyData.canLay0,PyData.canLayAll0,okN,PyData.depth,PyData.depthAll];rfl
 | edl n=>
  simp only[Qg,PyData.canLay0,PyData.canLayAll0,okE,PyData.depth,PyData.depthAll];rfl
def uz(u v:W):PyData.eqv (wD u) (wD v)=decide (u=v):=by
 have b:((zdN "number")==(zdN "endless"))=false:=by decide+kernel
 have d:((zdN "endless")==(zdN "number"))=false:=by decide+kernel
 have ed:PyData.eqv (wD u) (wD v)=((Qg u==Qg v)&&(((ZB u:Nat):Int)==((ZB v:Nat):Int)&&true)):=rfl;rw[ed];cases u with
 | num n=>
  cases v with
  | num m=>
   show (((zdN "number")==(zdN "number"))&&(((n:Nat):Int)==((m:Nat):Int)&&true))=_;by_cases c:n=m
   ·subst c;simp
   ·rw[decide_eq_false (λe=>c (by cases e;rfl))];have a:¬((n:Int)=(m:Int)):=λe=>c (by omega);simp [a]
  | edl m=>
   show (((zdN "number")==(zdN "endless"))&&_)=_;rw[b];rfl
 | edl n=>
  cases v with
  | num m=>
   show (((zdN "endless")==(zdN "number"))&&_)=_;rw[d];rfl
  | edl m=>
   show (((zdN "endless")==(zdN "endless"))&&(((n:Nat):Int)==((m:Nat):Int)&&true))=_;by_cases c:n=m
   ·subst c;simp
   ·rw[decide_eq_false (λe=>c (by cases e;rfl))];have a:¬((n:Int)=(m:Int)):=λe=>c (by omega);simp [a]
inductive u3(CG:Addr)(vs:List V)(H:Hp)(Q:VK):Prop
 | mk (g:Addr) (rs:jG):vs=[.ref g]->jt CG H g rs->qf rs->(rs.length<=14)->(∀H' D R,qi H H'->H D=none->Ud H' D (wT rs R) (rs.map (·.1))->All (QJ rs) (rs.map (·.1)) 0 [] R->Q (.ref D) H')->u3 CG vs H Q
def Ei(a:Addr):Sp:=λb H Q _=>u3 a b H Q
inductive US(CG:Addr)(vs:List V)(H:Hp)(Q:VK):Prop
 | mk (g:Addr) (rs:jG) (x y:Str):vs=[.ref g,.str x,.str y]->jt CG H g rs->qf rs->(rs.length<=14)->(x∈rs.map (·.1))->(y∈rs.map (·.1))->(∀H' R,qi H H'->All (QJ rs) (rs.map (·.1)) 0 [] R->Q (.bl (decide (wT rs R x=wT rs R y))) H')->US CG vs H Q
def Vt(a:Addr):Sp:=λb H Q _=>US a b H Q
def yE:qm ["ground","labels","told","name"] ["ground"] (qg Vw):=Qm
def U3(F:jL K "worths_told" "worths_told" Vw f d)(h:WF K mg)(B:QB mg)(Z:Wk K mg)(G:j7 mg)(T:Qn K mg)(M:GM K mg j)(Y:Ug K mg)(O:kZ K mg):qp P w K mg base jh 9 f d ["ground"] (Ei j):=by
 obtain⟨_,_,j⟩:=Y.labels;obtain⟨_,_,l⟩:=O.lw;obtain⟨_,_,p⟩:=M.cls;obtain⟨_,_,r⟩:=M.nm;have x:=pin P w mg base (Jw r.fn p G);have C:=pin P w mg base (Yg j.fn B G T M Y);have J:=pin P w mg base (GD l.fn h B Z);refine F.okJ yE (λd H Q E h=>?_) (λ_ A _ s H d Q E hr U=>?_)
 ·obtain⟨g,d,rfl,_⟩:=h;rfl
 ·obtain⟨g,d,rfl,o,good,ae,q⟩:=U;refine⟨_,qb (qG 1 (hN:=yE.nd) (qD j C (qT (jv 0))))
   (qb (qG 2 (hN:=yE.nd) jX)
   (qb (qP (qy (za r p.cl x (hr.mono (by decide)) (jv 0))) (ji (i:=3) yE.nd rfl (Or.inl rfl))
    (qe (jl (jv 2) (jv 3) (xj h (hr.mono (by decide)) (qD l J (qT (qA (jv 1) (jv 3))))))))
   (qe (qr (jv 2))))),?_⟩
  refine⟨_,rfl,g,d,rfl,o,good,ae,λj L R p _ lb all=>?_⟩;have La:=VT (Qb good.nd) all;intro D C;have l:qi j (upd j D (.dK [])):=qd C;have r:upd j D (.dK []) D=some (.dK []):=qa;generalize upd j D (.dK [])=x at l r;obtain⟨j,fs,J,U,_⟩:=(o.mono (p.trans l)).ins;refine⟨_,rfl,g,j,fs,rfl,J,U,g,d,rfl,o.mono (p.trans l),λj J=>?_⟩;have o:qi x (upd x j (.lst ((d.map (·.1)).map V.str))):=qd J;have U:upd x j (.lst ((d.map (·.1)).map V.str)) j=some (.lst ((d.map (·.1)).map V.str)):=qa;generalize upd x j (.lst ((d.map (·.1)).map V.str))=H3 at o U;have af:j≠D:=λe=>by rw[e,r]at J;cases J
  have aa:H D=none:=jE p C;refine⟨j,rfl,⟨_,.of U⟩,?_⟩;refine jb (K:=K) (a:=j) (xs:=(d.map (·.1)).map V.str) (λi j X=>∃x:Option V,j=[some (.ref g),some (.ref L),some (.ref D),x]/\Fr H3 D X/\Ud X D (wT d R) ((d.map (·.1)).take i))
   ⟨none,rfl,Fr.refl,⟨[],o _ _ r,rfl,λz h=>(nomatch h)⟩⟩ (λi j X _ ⟨_,_,f,_⟩=>.of (f _ _ U af)) ?_ ?_
  ·rintro i y j X hy ⟨x,rfl,fr,wt⟩;obtain⟨z,J,U,rfl⟩:=jO hy;have hi:=(td.mp J).1;rw[ta]at hi;have ag:∃t,ju X L (.str z) (some (.ref t))/\X t=some (.tup (zE d R z)):=by
    obtain⟨kvs,a,_,c⟩:=((lb.mono l).mono o).at_;obtain⟨ab,ah,rfl⟩:=tc.mp U;obtain⟨t,u,v⟩:=c ab ah;have ai:X L=some (.dK kvs):=fr _ _ a λe=>by
     obtain⟨_,b0,_⟩:=lb.at_;rw[e,C]at b0;cases b0
    refine⟨t,by rw[<-u];exact ju.k (k:=(Sum.inr ab.1:qF)) ai,fr _ _ v λe=>?_⟩;have:=o _ _ r;rw[e,this]at v;cases v
   obtain⟨t,gt,r⟩:=ag;refine⟨_,rfl,_,rfl,L,_,rfl,gt,t,d,R,z,rfl,r,Yx good La U,λa C s4 r=>⟨a,_,rfl,r,λr hp=>?_⟩⟩;have U:qi X (upd C r (.tup [.str (Qg (wT d R z)),.int (ZB (wT d R z):Nat)])):=s4.trans (qd hp);have ac:upd C r (.tup [.str (Qg (wT d R z)),.int (ZB (wT d R z):Nat)]) r=some (.tup (tW (wT d R z))):=by rw[Xd];exact qa
   generalize upd C r (.tup [.str (Qg (wT d R z)),.int (ZB (wT d R z):Nat)])=X2 at U ac;have r:z∉(d.map (·.1)).take i:=λm=>by
    have:=QX good.nd J;exact this (tc.mpr ⟨z,m,rfl⟩)
   obtain⟨_,put,d⟩:=(wt.mono U).new r (by rw[tE];omega) ac;refine⟨_,rfl,_,rfl,D,_,rfl,put,_,rfl,(fr.same U).at_d,?_⟩;rw[tz,J];exact d
  ·rintro j X ⟨x,rfl,fr,wt⟩;rw[ta,tu (tf _)]at wt;exact⟨_,rfl,q X D R (λb u d=>fr _ _ (o _ _ (l _ _ (p _ _ d))) (qj d aa)) aa wt all⟩
def yH:qm ["ground","one","other","told"] ["ground","one","other"] (qg Ye):=Qm
def G0(F:jL K "alike" "alike" Ye f a)(h:WF K mg)(B:QB mg)(Z:Wk K mg)(G:j7 mg)(T:Qn K mg)(M:GM K mg b)(Y:Ug K mg)(O:kZ K mg)(d:AR K mg):qp P w K mg base jh 10 f a ["ground","one","other"] (Vt b):=by
 obtain⟨_,_,b⟩:=O.place;obtain⟨_,_,e⟩:=d.wt;have i:=pin P w mg base (XB b.fn G M);have m:=pin P w mg base (U3 e.fn h B Z G T M Y O);refine F.okJ yH (λa H Q E h=>?_) (λ_ A _ s H a Q E hr o=>?_)
 ·obtain⟨g,a,x,y,rfl,_⟩:=h;rfl
 ·obtain⟨g,a,x,y,rfl,d,good,p,j,l,q⟩:=o;refine⟨_,qb (q5 (qD b i (jQ (jv 0) (jv 1))))
   (qb (q5 (qD b i (jQ (jv 0) (jv 2))))
   (qb (qG 3 (hN:=yH.nd) (qD e m (qT (jv 0))))
   (qe (qr (Qe (VM hr.units) (qA (jv 3) (jv 1)) (qA (jv 3) (jv 2))))))),?_⟩
  refine⟨_,rfl,_,rfl,g,a,x,rfl,d,tc.mp j,λ_ b=>?_⟩;refine⟨_,rfl,_,rfl,g,a,y,rfl,d.mono b,tc.mp l,λ_ e=>?_⟩;refine⟨_,rfl,g,a,rfl,d.mono (b.trans e),good,p,λd D R i _ wt all=>?_⟩;obtain⟨_,g1,m⟩:=wt.get j;obtain⟨_,g2,j⟩:=wt.get l;refine⟨_,rfl,_,rfl,D,_,rfl,g1,_,rfl,_,rfl,D,_,rfl,g2,wD (wT a R x),wD (wT a R y),Ws m,Ws j,Wr _,Wr _,?_⟩;rw[uz];exact q d R (b.trans (e.trans i)) all
open PySem L2 MLab Rb
open PyProof.Rows hiding K lo
def AW(e:wT rs R z=.num n):qE R z=some n:=by
 cases k:qE R z with
 | some m=>rw[Jx k]at e;rw[W.num.inj e]
 | none=>rw[Jy k]at e;cases e
def AX(e:wT rs R z=.edl b):qE R z=none/\b=setN (YO rs (qE R) z):=by
 cases k:qE R z with
 | some m=>rw[Jx k]at e;cases e
 | none=>rw[Jy k]at e;exact⟨rfl,(W.edl.inj e).symm⟩
def AV(good:qf rs)(all:All (QJ rs) (rs.map (·.1)) 0 [] R):Wc (wT rs R) (rs.map (·.1)):=by
 have L:=VT (Qb good.nd) all;refine⟨λz a n e m lt=>?_,λz a b e k i=>?_,λz a=>Yx good L a,λz a=>?_⟩
 ·obtain⟨y,d,h,_⟩:=L.n1 a (AW e) lt;exact⟨y,Qb good.nd z a y d,Jx h⟩
 ·obtain⟨_,rfl⟩:=AX e;rw[testBit_setN]at i;obtain⟨y,d,h⟩:=Qc.mp (of_decide_eq_true i);exact⟨y,Qb good.nd z a y d,Jx h⟩
 ·obtain⟨d,hr,rfl⟩:=tc.mp a;exact good.nm d hr
def Ut{g:Str->Nat}:∀{a b:List Str},a.Nodup->(∀z∈a,z∈b)->(a.map g).sum<=(b.map g).sum
 | [],_,_,_=>zat _
 | x::a,b,d,h=>by
  obtain⟨n1,n2⟩:=zah.mp d;have d:=zdo (h x tO);have e:=(d.map g).sum_nat;rw[e,tM,tM,zaH,zaH];refine zdp (Ut n2 λz d=>?_) _;exact(zbq (λq=>n1 (by rw[<-q];exact d))).mpr (h z (tG _ d))
def AF(good:qf rs)(all:All (QJ rs) (rs.map (·.1)) 0 [] R)(h:Fs (wT rs R) (rs.map (·.1)) fs)(hp:p∈fs):(ends fs p).length<=(jS rs p.2).length:=by
 have L:=FB good (VT (Qb good.nd) all);obtain⟨m,e⟩:=h.of p hp;cases k:p.1 with
 | num n=>
  rw[k]at e;rw[zQ k,ta];have d:=Jr (l:=tQ n) (m:=(jS rs p.2).filterMap (qE R)) zbo λl i=>by
   obtain⟨y,a,j,_⟩:=L.n1 m (AW e) (zai.mp i);exact zaC.mpr ⟨y,a,j⟩
  exact tR d (zal ..)
 | edl b=>
  rw[k]at e;rw[zR k,tv,ta,zar];obtain⟨o,q⟩:=AX e;have d:=Jr (l:=memN b 16) (m:=(jS rs p.2).filterMap (qE R)) (zbo.sublist zao) λl i=>by
   have:=(mem_memN.mp i).2;rw[q,testBit_setN]at this;obtain⟨y,a,j⟩:=Qc.mp (of_decide_eq_true this);exact zaC.mpr ⟨y,(qN good m).mpr a,j⟩
  have lk:Lacks (lackN (kn rs (qE R) p.2)) (kn rs (qE R) p.2):=lackI_lacks _;obtain⟨y,a,j,_⟩:=L.e m o (λl i=>zh.mp (lk.2 l i)) (λy a z=>lk.1 (zh.mpr ⟨y,a,z⟩));obtain⟨u,v,i⟩:=zbM a;rw[i,zax,zad,j,tv]at d;have a:=zal (qE R) u;have a:=zal (qE R) v;rw[i,tv,zab];have d:(memN b 16).length<=(u.filterMap (qE R)).length+(v.filterMap (qE R)).length:=d;omega
def W1{rs:jG}(good:qf rs){R:Rs Str}(all:All (QJ rs) (rs.map (·.1)) 0 [] R){fs:List (W×Str)}(h:Fs (wT rs R) (rs.map (·.1)) fs):((Z8 fs).map λr=>r.2.length).sum<=40:=by
 have b:((Z8 fs).map λr=>r.2.length)=fs.map λa=>(ends fs a).length:=by unfold Z8;rw[zam];rfl
 rw[b];have d:∀b:List (W×Str),(∀a∈b,a∈fs)->(b.map λa=>(ends fs a).length).sum<=((b.map (·.2)).map λz=>(jS rs z).length).sum:=by
  intro b;induction b with
  | nil=>intro _;exact tf _
  | cons a b e=>
   intro b;rw[tM,tM,tM,zaH,zaH];exact Nat.add_le_add (AF good all h (b a tO)) (e λq e=>b q (tG _ e))
 refine tR (d fs λ_ z=>z) (tR (Ut (b:=rs.map (·.1)) h.nd2 λz b=>?_) ?_)
 ·obtain⟨a,d,rfl⟩:=tc.mp b;exact(h.of a d).1
 ·have a:(rs.map (·.1)).map (λz=>(jS rs z).length)=rs.map λr=>r.2.length:=by
   rw[zam];exact zap λr hr=>by show (jS rs r.1).length=_;rw[ZJ good.nd hr]
  rw[a];exact good.few
def xI(H:Hp)(D:Addr)(o:Obj)(kvs:List (qF×V))(F:Str->W)(zs:List Str):Prop:=H D=some (.frz o (.dK kvs))/\kvs.map (·.1)=zs.map Sum.inr/\∀z∈zs,∃t,qO kvs (Sum.inr z:qF)=some (.ref t)/\H t=some (.tup (tW (F z)))
def xI.mono(h:xI H D o kvs F zs)(s:qi H H'):xI H' D o kvs F zs:=⟨s _ _ h.1,h.2.1,λz d=>let ⟨t,a,b⟩:=h.2.2 z d;⟨t,a,s _ _ b⟩⟩
inductive Bp(vs:List V)(H:Hp)(Q:VK):Prop
 | mk (D:Addr) (o:Obj) (kvs:List (qF×V)) (F:Str->W) (zs:List Str):vs=[.ref D]->xI H D o kvs F zs->zs.Nodup->(zs.length<=14)->(∀H' Fd,qi H H'->H Fd=none->H' Fd=some (.dT (fT (QU F zs)))->Q (.ref Fd) H')->Bp vs H Q
def HC:Sp:=λa H Q _=>Bp a H Q
inductive Kl(vs:List V)(H:Hp)(Q:VK):Prop
 | mk (Fd t:Addr) (F:Str->W) (zs:List Str) (fs:List (W×Str)) (p:W×Str):vs=[.ref Fd,.ref t]->(Rd H Fd (.dT (fT fs)))->H t=some (.tup (tW p.1))->(p∈fs)->Fs F zs fs->Wc F zs->(∀H' r q,qi H H'->H' r=some (.tup [.str p.2,.ref q])->H' q=some (.tup ((ends fs p).map V.str))->Q (.ref r) H')->Kl vs H Q
def Bj:Sp:=λa H Q _=>Kl a H Q
def ju.w(h:Rd H a (.dT (fT fs)))(d:H b=some (.tup (tW u)))(nd:(fs.map (·.1)).Nodup)(m:(u,z)∈fs):ju H a (.ref b) (some (.str z)):=
 .inr ⟨_,kW u,b,h,rfl,by rw[ky];exact d,(kM nd m).symm⟩
abbrev Iw:List Str:=["told","firsts","name","worth"]
def HY:qm Iw ["told"] (qg Hb):=Qm
def E7(F:jL K "first_places" "first_places" Hb f d):qp P w K mg base jh 1 f d ["told"] HC:=by
 refine F.okK HY λH Q E hr h=>?_;obtain⟨D,l,kvs,F,d,rfl,wf,r,le,q⟩:=h;have hu:=hu_of hr;refine⟨_,qb (qG 1 XQ)
  (qb (qP (vk (jv 0)) (QH rfl (qH (qz 2) (qH (qz 3) j3)))
   (qe (q5 (RI hu (jv 1) (jv 3) (jv 2) ⟨rfl,rfl,rfl,rfl⟩))))
  (qe (qr (jv 1)))),?_⟩
 intro j B;have C:qi H (upd H j (.dT [])):=qd B;have o:upd H j (.dT []) j=some (.dT []):=qa;generalize upd H j (.dT [])=O at C o;have p:=wf.mono C;have lk:kvs.length=d.length:=by simpa using congrArg zav wf.2.1
 have aa:(kvs.map (·.1)).Nodup:=by rw[wf.2.1];exact QN r λa _ b _ e=>Sum.inr.inj e
 refine⟨_,rfl,D,l,.dK kvs,rfl,p.1,⟨d,wf.2.1⟩,?_⟩;have l:D≠j:=λe=>by have:=p.1;rw[e,o]at this;cases this
 refine W0 (u:=.dK kvs) (λi r X=>∃J L:Option V,r=[some (.ref D),some (.ref j),J,L]/\Fr O j X/\X j=some (.dT (fT (QU F (d.take i))))) ⟨none,none,rfl,Fr.refl,o⟩ (λi r X _ ⟨_,_,_,f,_⟩=>f _ _ p.1 l) ?_ ?_
 ·rintro i x y O r X U T ⟨z,Y,rfl⟩ ⟨J,L,rfl,fr,l⟩;have ab:i < d.length:=by have:i < kvs.length:=U;omega
  have ez:d[i]?=some z:=by
   have U:(kvs.map (·.1))[i]?=some (Sum.inr z):=by rw[tw,Y];rfl
   rw[wf.2.1,tw]at U;rw[tr ab]at U ⊢;exact congrArg some (Sum.inr.inj (tA.inj U))
  obtain⟨t,et,U⟩:=p.2.2 z (tP ez);have p:y=.ref t:=by
   have:=yc aa Y;rw[et]at this;exact(tA.inj this).symm
  subst p;have p:t≠j:=λe=>by rw[e,o]at U;cases U
  have Y:=fr _ _ U p;have o:qi X (upd X O (.tup [.str z,.ref t])):=qd T;have fs:=R5 F (d.take i);have lf:(fT (QU F (d.take i))).length < zdR:=by
   rw[Nf];have:=fs.len;rw[tE]at this;exact qh (by omega)
  have p:O≠j:=λe=>by rw[e,l]at T;cases T
  have snoc:QU F (d.take (i+1))=Wj F (QU F (d.take i)) z:=by rw[tz,ez];exact w6 ..
  refine⟨O,_,rfl,.of qa,rfl,_,_,rfl,_,_,rfl,rfl,?_⟩;refine⟨_,rfl,j,rfl,.inr ⟨_,.inl (o _ _ l)⟩,_,rfl,_,rfl,fT (QU F (d.take i)),kW (F z),t,o _ _ l,rfl,by rw[ky];exact o _ _ Y,lf,λv p=>?_,λO=>?_⟩
  ·refine⟨_,_,rfl,fr.same o,?_⟩;have m:F z∈(QU F (d.take i)).map (·.1):=Classical.byContradiction λn=>by rw[V6 n]at p;cases p
   rw[snoc,R4 m];exact o _ _ l
  ·refine⟨_,_,rfl,(fr.same o).at_d,?_⟩;have m:F z∉(QU F (d.take i)).map (·.1):=λm=>by
    rw[kM fs.nd (fs.look m).1]at O;cases O
   rw[qa,snoc,DD m]
 ·rintro r X ⟨J,L,rfl,fr,l⟩;have o:Ln (.dK kvs)=d.length:=lk;rw[o,tu (tf _)]at l;exact⟨_,rfl,q X j (λb u d=>fr _ _ (C _ _ d) (qj d B)) B l⟩
open PySem L2 MLab Rb
open PyProof.Rows hiding K lo
def Ah(fs:List (W×Str))(a:List Nat):List Str:=a.map λk=>look fs (.num k)
def vg{fs:List (W×Str)}{a:List Nat}{i k:Nat}(e:a[i]?=some k):(Ah fs (a.take (i+1))).map V.str=(Ah fs (a.take i)).map V.str++[.str (look fs (.num k))]:=by
 unfold Ah;rw[tz,e,tj,tj];rfl
def Cd(k:Nat):tW (.num k)=[.str (zdN "number"),.int (k:Nat)]:=rfl
def Dz{a:List Nat}{i:Nat}{y:V}(h:(Jn a)[i]?=some y):∃k,a[i]?=some k/\k∈a/\y=.int (k:Nat):=by
 unfold Jn at h;rw[tw]at h;cases e:a[i]? with
 | none=>rw[e]at h;cases h
 | some z=>rw[e]at h;exact⟨z,rfl,tP e,(tA.inj h).symm⟩
def Jq(fs:List (W×Str))(F:Str->W)(zs:List Str):List (qF×V):=zs.map λz=>((Sum.inr z:qF),V.str (look fs (F z)))
inductive Bl(CG:Addr)(vs:List V)(H:Hp)(Q:VK):Prop
 | mk (g:Addr) (rs:jG):vs=[.ref g]->jt CG H g rs->qf rs->(0 < rs.length)->(rs.length<=14)->(∀H' r x Pd R,qi H H'->H Pd=none->H' r=some (.tup [.ref x,.ref Pd])->jt CG H' x (Z8 (QU (wT rs R) (rs.map (·.1))))->jt CG (upd H' Pd (.dK [])) x (Z8 (QU (wT rs R) (rs.map (·.1))))->H' Pd=some (.dK (Jq (QU (wT rs R) (rs.map (·.1))) (wT rs R) (rs.map (·.1))))->All (QJ rs) (rs.map (·.1)) 0 [] R->Q (.ref r) H')->Bl CG vs H Q
def Ep(a:Addr):Sp:=λb H Q _=>Bl a b H Q
abbrev Is:List Str:=["firsts","worth","ends"]
abbrev pLR:List Str:=["firsts","worth"]
def EB:qm Is pLR (qg yK):=Qm
def Fi:(["number","firsts"]:List Str).Nodup:=by decide+kernel
def MY{P:Program}{w:World}{K:zdM}{mg:Str->Option Value}{base:Heap}{f d:Addr}{a j:zdQ}(F:jL K "least_row" "least_row" yK f a)(B:QB mg)(G:j7 mg)(hN:qW K mg "numbers_in" zd ["bits"] d j):qp P w K mg base jh 2 f a pLR Bj:=by
 have a:=pin P w mg base (XC hN.fn B);refine F.okK EB λH Q E hr h=>?_;obtain⟨j,t,F,_,fs,r,rfl,o,d,l,h,c,q⟩:=h;refine⟨_,qb (qJ (qo QM (qU ja (jv 1) qk) qL)
   (qe (qr (jm (jQ (qA (jv 0) (jv 1)) (qV j9 (by rfl) G.tup boot_tuple (qT (jw (N':=["number","firsts"]) (ix:=[none,some 0]) (te:=QQ (qw 1) (z7 (qB (tC (.str (zdN "number"))) (qB (qw 0) jJ)))) (jq (by rfl) B.rng (qT (qU ja (jv 1) qk))) (λm x p fp u=>
    ⟨ji (i:=0) Fi rfl (Or.inl rfl),qS,qA (jv 1) (jm (jQ qL (jv 0)))⟩)))))))) qt)
  (qb (Qx (i:=2) (N':=["number","firsts"]) (ix:=[none,some 0]) (te:=QQ (qw 1) (z7 (qB (tC (.str (zdN "number"))) (qB (qw 0) jJ)))) (hN:=EB.nd) (qy (qD hN a (qT (qU ja (jv 1) qk)))) (λm x p fp u=>
    ⟨ji (i:=0) Fi rfl (Or.inl rfl),qS,qA (jv 1) (jm (jQ qL (jv 0)))⟩))
  (qe (qr (jm (jQ (qA (jv 0) (jv 1)) (qV j9 (by rfl) G.tup boot_tuple (qT (qM YY (jv 2) (Ql (qT (qA (jv 0) (jv 1)))))))))))),?_⟩
 have p:=h.has c l;have J:∀{X:Hp},qi H X->ju X j (.ref t) (some (.str r.2)):=λa=>ju.w (o.mono a) (a _ _ d) h.nd l;have u:H t=some (.tup [.str (Qg r.1),.int (ZB r.1:Nat)]):=by rw[d,Xd]
 refine⟨_,rfl,t,_,0,_,rfl,rfl,.of u,QD (j:=0) rfl,rfl,_,rfl,?_⟩;have ne:(zdN "number")≠(zdN "endless"):=by decide+kernel
 have aa:∀{X:Hp} {D:Addr} {k:Nat} {l:List V} {N:L2.St->Hp->Prop} {v1:Option V},qi H X->H D=none->X D=some (.lst l)->l.length < zdR->W.num k∈fs.map (·.1)->
   (∀b,X b=none->b≠D->N [some (.int (k:Nat)),some (.ref j)] (upd (upd X b (.tup [.str (zdN "number"),.int (k:Nat)])) D (.lst (l++[.str (look fs (.num k))]))))->
   jF 0 (.int (k:Nat)) [v1,some (.ref j)] X (YL xZ (QQ (qw 1) (z7 (qB (tC (.str (zdN "number"))) (qB (qw 0) jJ)))) D N):=by
  intro X D k l N v1 a _ d C L n;refine⟨_,rfl,_,rfl,JB,λb m=>?_⟩;have O:b≠D:=λe=>by rw[e,d]at m;cases m
  have v:=qd (o:=HO.tup [.str (zdN "number"),.int (k:Nat)]) m;exact⟨j,_,rfl,ju.w ((o.mono a).mono v) (by rw[Cd];exact qa) h.nd (h.look L).1,l,v _ _ d,C,n b m O⟩
 cases e:r.1 with
 | num n=>
  rw[e]at p;refine j4 (decide_eq_true rfl) ?_;rw[e]at u;refine⟨_,rfl,_,rfl,j,_,rfl,J (λ_ _ z=>z),?_⟩;refine⟨_,rfl,t,_,1,_,rfl,rfl,.of u,QD (j:=1) rfl,(n:Int),rfl,by omega,by have:=p.1;omega,λD d=>?_⟩;rw[zaj];refine Q5 (λi o X=>∃v0:Option V,o=[v0,some (.ref j)]/\qi H X/\X D=some (.lst ((Ah fs ((tQ n).take i)).map V.str))) ⟨none,rfl,qd d,qa⟩ ?_ ?_
  ·rintro i o X v ⟨v0,rfl,a,l⟩;have C:(tQ n)[i]?=some i:=by rw[zbt v]
   have T:(0+(i:Int))=((i:Nat):Int):=zbL _;rw[T];refine aa (v1:=v0) a d l ?_ (p.2 i v) λb m O=>⟨_,rfl,qi.upd (a.trans (qd m)) d,?_⟩
   ·unfold Ah;rw[ta,ta,tE,zaf];exact qh (by have:=p.1;omega)
   ·rw[qa,vg C]
  ·rintro o X ⟨v0,rfl,a,l⟩;rw[tu (by rw[zaf];exact tf _)]at l;refine⟨D,_,rfl,.inl ⟨.of l,λT U=>⟨JB,λY v=>?_⟩⟩⟩;refine q _ Y T ((a.trans (qd U)).trans (qd v)) qa (ql ?_ v);rw[zQ e];exact qa
 | edl b=>
  rw[e]at p;refine jV (decide_eq_false λz=>ne (V.str.inj z).symm) ?_;rw[e]at u;refine⟨_,rfl,t,_,1,_,rfl,rfl,.of u,QD (j:=1) rfl,b,rfl,p.1,λu ab=>?_⟩;have C:qi H (upd H u (.lst (Jn (memN b 16)))):=qd ab;have h1:upd H u (.lst (Jn (memN b 16))) u=some (.lst (Jn (memN b 16))):=qa;generalize upd H u (.lst (Jn (memN b 16)))=H1 at C h1;have ae:(memN b 16).length<=16:=tR (zas ..) (by rw[zaf];exact tf _);refine⟨u,rfl,⟨_,.of h1⟩,λD d=>?_⟩;have ac:H D=none:=jE C d;refine jc (K:=K) (a:=u) (xs:=Jn (memN b 16)) (λi o X=>∃v0:Option V,o=[v0,some (.ref j)]/\qi H1 X/\X D=some (.lst ((Ah fs ((memN b 16).take i)).map V.str))) ⟨none,rfl,qd d,qa⟩ (λi o X _ ⟨_,_,a,_⟩=>.of (a _ _ h1)) ?_ ?_
  ·rintro i y o X u ⟨v0,rfl,a,l⟩;obtain⟨k,ek,L,rfl⟩:=Dz u;refine aa (v1:=v0) (C.trans a) ac l ?_ (p.2 k (mem_memN.mp L).2) λ_ m O=>⟨_,rfl,qi.upd (a.trans (qd m)) d,?_⟩
   ·unfold Ah;rw[ta,ta,tE];exact qh (by omega)
   ·rw[qa,vg ek]
  ·rintro o X ⟨v0,rfl,a,l⟩;have le:(Jn (memN b 16)).length=(memN b 16).length:=by unfold Jn;rw[ta]
   rw[le,tu (tf _)]at l;have d:=C.trans a;refine⟨_,rfl,_,rfl,j,_,rfl,J d,_,rfl,_,rfl,_,rfl,j,_,rfl,J d,JB,λa j=>?_⟩;have x:=qd (o:=HO.lst [V.str r.2]) j;refine⟨D,a,_,_,rfl,rfl,.of (x _ _ l),.of qa,?_,λa j=>?_⟩
   ·unfold Ah;rw[ta,ta];exact zac (qh (by simp;omega))
   have l:=qd (o:=HO.lst ((Ah fs (memN b 16)).map V.str++[V.str r.2])) j;refine⟨a,_,rfl,.inl ⟨.of qa,λT U=>⟨JB,λY v=>?_⟩⟩⟩;refine q _ Y T ((((d.trans x).trans l).trans (qd U)).trans (qd v)) qa (ql ?_ v);rw[zR e,tj];exact qa
open PySem L2 MLab Rb
open PyProof.Rows hiding K lo
def Qj{X:Hp}{ps:List Addr}{R:Hp->Prop}(m:X j=some (.lst (ps.map V.ref)))(ee:qY X ps rs)(good:qf rs)(pos:0 < rs.length)(o:rs.length<=14)(l:X x=none)(p:X a=none)(d:a≠x)(k:∀e,qi X e->jt h e x rs->R e):
  JM h [.ref x,.ref j] (upd (upd X a (.own x)) x (.ins h a [])) (λv H'=>v=.non/\R H') E:=by
 have i:qi X (upd (upd X a (.own x)) x (.ins h a [])):=λb u d=>by
  rw[qc (qj d l),qc (qj d p)];exact d
 refine⟨x,a,j,ps,rs,rfl,⟨i _ _ m,ee.mono i,good,pos,o⟩,qa,λe a h=>⟨rfl,k e (λb u d=>h b u (i _ _ d) (qj d l)) a⟩⟩
def Rl(e:fs[i]?=some p):(Z8 fs).take (i+1)=(Z8 fs).take i++[(p.2,ends fs p)]:=by
 have:(Z8 fs)[i]?=some (p.2,ends fs p):=by unfold Z8;rw[tw,e];rfl
 rw[tz,this];rfl
def zC(fs:List (W×Str)):(Z8 fs).length=fs.length:=ta ..
def VH(fs:List (W×Str))(F:Str->W)(zs:List Str):(Jq fs F zs).map (·.1)=zs.map Sum.inr:=by
 unfold Jq;rw[zam];rfl
abbrev Ip:List Str:=["ground","told","firsts","least","places","name"]
def Ez:qm Ip ["ground"] (qg EF):=Qm
def Fg:(["worth","firsts"]:List Str).Nodup:=by decide+kernel
def C0(F:jL K "least_ground" "least_ground" EF f fd)(h:WF K mg)(B:QB mg)(Z:Wk K mg)(G:j7 mg)(T:Qn K mg)(N:Wp K mg)(M:GM K mg CG)(Y:Ug K mg)(O:kZ K mg)(A1:AR K mg):qp P w K mg base jh 10 f fd ["ground"] (Ep CG):=by
 obtain⟨_,_,aa⟩:=M.cls;obtain⟨_,_,hW⟩:=A1.need;obtain⟨_,_,hT⟩:=A1.wt;obtain⟨_,_,r⟩:=A1.fp;obtain⟨_,_,hR⟩:=A1.lr;obtain⟨_,_,hN⟩:=A1.nin;have GI:=pin P w mg base (zB aa B G T N hW);have GT:=pin P w mg base (U3 hT.fn h B Z G T M Y O);have GP:=pin P w mg base (E7 r.fn);have GR:=pin P w mg base (MY hR.fn B G hN);refine F.okK Ez λH Q E hr z=>?_;obtain⟨g,d,rfl,gr,good,pos,al,q⟩:=z;have r7:jd 7 _:=hr.mono (by decide);refine⟨_,qb (qG 1 (kz (qD hT GT (qT (jv 0)))))
  (qb (Je 2 (As (qD r GP (qT (jv 1)))))
  (qb (qG 3 (Qd aa.mkr GI r7 (by rfl) aa.ns aa.bi .nil Qi (qT (jw (N':=["worth","firsts"]) (ix:=[none,some 2]) (te:=Zs Bj [] E0 (qB (qw 1) (qB (qw 0) jJ))) (Ao (jv 2)) (λaa s2 H2 fp _=>
    ⟨ji (i:=0) Fg rfl (Or.inl rfl),qS,qD hR GR (jQ (jv 1) (jv 0))⟩)))))
  (qb (qG 4 jX)
  (qb (qP (VY (jv 1)) (qz 5)
   (qe (jl (jv 4) (jv 5) (qA (jv 2) (qA (jv 1) (jv 5))))))
  (qe (qr (jm (jQ (jv 3) (jv 4))))))))),?_⟩
 refine⟨_,rfl,g,d,rfl,gr,good,al,λH1 D R s1 nD wt all=>?_⟩;obtain⟨kvs,am,ek,ev⟩:=wt.at_;refine⟨D,kvs,rfl,am,λv=>?_⟩;have s2:qi H (upd H1 D (.frz v (.dK kvs))):=qi.upd s1 nD;have ah:xI (upd H1 D (.frz v (.dK kvs))) D v kvs (wT d R) (d.map (·.1)):=⟨qa,ek,λz hz=>let ⟨t,a,b⟩:=ev z hz;⟨t,a,by rw[qc (λe=>by rw[e,am]at b;cases b)];exact b⟩⟩;generalize upd H1 D (.frz v (.dK kvs))=H2 at s2 ah;have lz:(d.map (·.1)).length<=14:=by rw[ta];exact al
 refine⟨_,rfl,D,v,kvs,wT d R,d.map (·.1),rfl,ah,good.nd,lz,λH3 l s3 ar j=>⟨l,_,rfl,j,λC=>?_⟩⟩;have o:=R5 (wT d R) (d.map (·.1));have wc:=AV good all;have as:=W1 good all o;have au:=XT o wc as;have fl:=o.len;have av:0 < (QU (wT d R) (d.map (·.1))).length:=by
  cases d with
  | nil=>cases pos
  | cons r0 aC=>
   have:=o.all r0.1 tO;obtain⟨ab,hp,_⟩:=tc.mp this;exact zaW hp
 have s4:qi H2 (upd H3 l (.frz C (.dT (fT (QU (wT d R) (d.map (·.1))))))):=qi.upd s3 ar;have h4:upd H3 l (.frz C (.dT (fT (QU (wT d R) (d.map (·.1)))))) l=some (.frz C (.dT (fT (QU (wT d R) (d.map (·.1)))))):=qa;generalize aw:QU (wT d R) (d.map (·.1))=fs at*;generalize upd H3 l (.frz C (.dT (fT fs)))=H4 at s4 h4;refine⟨_,rfl,l,C,.dT (fT fs),rfl,h4,True.intro,λV0 hV=>?_⟩;have ax:Ln (.dT (fT fs))=fs.length:=Nf fs;refine Nv (u:=.dT (fT fs)) (λi af X=>∃(v0:Option V) (ps:List Addr),af=[v0,some (.ref l)]/\qi H4 X/\X V0=some (.lst (ps.map V.ref))/\qY X ps ((Z8 fs).take i)) ⟨none,[],rfl,qd hV,qa,rfl,λi ab J e=>by simp at e⟩ (λi af X _ ⟨_,_,_,L,_⟩=>L _ _ h4) ?_ ?_
 ·rintro i x y af X hi ⟨k,b,e,rfl,p⟩ ⟨v0,ps,rfl,L,hX,ee⟩;obtain⟨ab,ep,hp,rfl,_⟩:=FM e;rw[ky]at p;refine⟨_,rfl,_,rfl,l,b,wT d R,d.map (·.1),fs,ab,rfl,.inr ⟨C,L _ _ h4⟩,p,hp,o,wc,λ_ J _ ai ac j=>?_⟩;have an:=ai _ _ hX;have ay:=ee.1;refine⟨_,an,?_,_,ps++[J],rfl,qi.upd (L.trans ai) hV,by rw[qa,tj];rfl,?_⟩
  ·rw[ta,ay,tE];refine qh ?_;rw[zC];omega
  ·rw[Rl ep];exact qY.upd_lst ((ee.mono ai).snoc (r:=(ab.2,ends fs ab)) ac j) an
 ·rintro af X ⟨v0,ps,rfl,L,hX,ee⟩;rw[ax,tu (by rw[zC];exact tf _)]at ee;refine λx _ hx az aA=>?_;refine Qj hX ee au (by rw[zC];exact av) (by rw[zC];omega) hx az aA λU s6 ao=>?_;intro j ag;have ap:=L.trans s6;have aj:=s4.trans ap;have nP:H j=none:=jE (s2.trans aj) ag;have s7:qi U (upd U j (.dK [])):=qd ag;have h7:upd U j (.dK []) j=some (.dK []):=qa;generalize upd U j (.dK [])=H7 at s7 h7;have ae:=ah.mono (aj.trans s7);have ak:=(ap.trans s7) _ _ h4;have aq:D≠j:=λe=>by have:=ae.1;rw[e,h7]at this;cases this
  have Iw:l≠j:=λe=>by rw[e,h7]at ak;cases ak
  refine⟨_,rfl,D,v,kvs,d.map (·.1),rfl,ae.1,ek,?_⟩;refine xt (λi σ X=>∃v5:Option V,σ=[some (.ref g),some (.ref D),some (.ref l),some (.ref x),some (.ref j),v5]/\Fr H7 j X/\X j=some (.dK (Jq fs (wT d R) ((d.map (·.1)).take i)))) ⟨none,rfl,Fr.refl,h7⟩ (λi σ X _ ⟨_,_,fr,_⟩=>fr _ _ ae.1 aq) ?_ ?_
  ·rintro i z σ X ez ⟨v5,rfl,fr,r⟩;have hz:=tP ez;have hi:=(td.mp ez).1;obtain⟨t,et,ht⟩:=ae.2.2 z hz;have aB:=fr _ _ ht (λe=>by rw[e,h7]at ht;cases ht);have L:ju X D (.str z) (some (.ref t)):=.inl ⟨kvs,Sum.inr z,.inr ⟨v,fr _ _ ae.1 aq⟩,rfl,et.symm⟩;have v:ju X l (.ref t) (some (.str (look fs (wT d R z)))):=ju.w (.inr ⟨C,fr _ _ ak Iw⟩) aB o.nd (o.look (o.all z hz)).1;have o:z∉(d.map (·.1)).take i:=λm=>QX good.nd ez (tc.mpr ⟨z,m,rfl⟩);have C:qO (Jq fs (wT d R) ((d.map (·.1)).take i)) (Sum.inr z:qF)=none:=Jz (by
    rw[VH];exact λm=>by obtain⟨y,hy,e⟩:=tc.mp m;exact o (Sum.inr.inj e▸hy))
   have lk:(Jq fs (wT d R) ((d.map (·.1)).take i)).length < zdR:=by
    unfold Jq;rw[ta,tE];exact qh (by omega)
   refine⟨_,rfl,_,rfl,_,rfl,D,_,rfl,L,l,_,rfl,v,_,rfl,_,rfl,j,_,rfl,Jl.k (k:=(Sum.inr z:qF)) r lk,?_⟩;refine⟨_,rfl,fr.at_d,?_⟩;rw[qa,QR _ C,tz,ez];unfold Jq;rw[tj];rfl
  ·rintro σ X ⟨v5,rfl,fr,r⟩;rw[tu (tf _)]at r;refine⟨_,rfl,_,rfl,JB,λJ ac=>?_⟩;have l:qi U (upd (upd X J (.tup [.ref x,.ref j])) j (.dK [])):=λb u p=>by
    have d:=qj p ag;rw[qc d];exact ql (fr _ _ (s7 _ _ p) d) ac
   have d:qi U (upd X J (.tup [.ref x,.ref j])):=λb u p=>ql (fr _ _ (s7 _ _ p) (qj p ag)) ac;have:=q (upd X J (.tup [.ref x,.ref j])) J x j R ((s2.trans aj).trans d) nP qa;rw[aw]at this;exact this (ao.mono d) (ao.mono l) (ql r ac) all
open PyProof.Rows hiding K lo
abbrev UV:Stmt:=top 28
abbrev KC:Stmt:=top 29
abbrev KE:Stmt:=top 30
abbrev UU:Stmt:=top 31
abbrev Xt:Stmt:=jW (top 24) 3
abbrev Vx:Stmt:=jW (top 5) 0
abbrev Qw:Stmt:=jW (top 6) 0
def QE(rs:jG):jG:=rs.map λa=>(a.1,jr rs a)
abbrev EI(K:zdM):List V->Hp->VK->Prop:=λd H Q=>∃a b,d=[.ref a]/\((Q6 K H a b/\∀d,H d=none->Q (.ref d) (upd H d (.tup b)))\/(zZ K H a b/\Q (.ref a) H))
inductive UO(CG:Addr)(vs:List V)(H:Hp)(Q:VK):Prop
 | mk (a:Addr) (rs:jG):vs=[.ref a]->jt CG H a rs->(rs.length<=14)->(∀l ps H',qi H H'->H l=none->H' l=some (.lst (ps.map V.ref))->qY H' ps (QE rs)->Q (.ref l) H')->UO CG vs H Q
def Md(a:Addr):Sp:=λb H Q _=>UO a b H Q
def HV:qm ["self"] ["self"] (qg Xt):=Qm
def GS(F:jL K "rows" "Ground.rows" Xt f b)(C:NM K mg o d j)(G:j7 mg):qp P w K mg base jh 1 f b ["self"] (Md o):=by
 refine F.okK HV λH Q E hr h=>?_;obtain⟨a,d,rfl,b,_,q⟩:=h;refine⟨_,qe (qr (jw (N':=["name","self"]) (ix:=[none,some 0]) (te:=z7 (qB (qw 0) (qB (NE (EI K) (qB (QQ (Eb K (qw 1) "roads") (qw 0)) jJ)) jJ))) (qy (QI (jv 0) rfl)) (λC _ _ fp _=>
   ⟨qz 0,qS,jm (jQ (jv 0) (qV j9 (by rfl) G.tup boot_tuple (qT (qA (QI (jv 1) rfl) (jv 0)))))⟩))),?_⟩
 obtain⟨u,lo,B,kvs,J,j,L,O⟩:=b;refine⟨_,rfl,a,o,u,_,_,rfl,J,C.cl,C.no,Ix _ _,lo,rfl,⟨_,.of j⟩,λD x=>?_⟩;refine jc (K:=K) (a:=lo) (xs:=(d.map (·.1)).map V.str) (λi r X=>∃(v:Option V) (l:List Addr),r=[v,some (.ref a)]/\qi H X/\X D=some (.lst (l.map V.ref))/\qY X l ((d.take i).map λb=>(b.1,jr d b)))
  ⟨none,[],rfl,qd x,qa,rfl,λi _ b e=>(nomatch e)⟩ (λi r X _ ⟨_,_,_,s,_⟩=>.of (s _ _ j)) ?_ ?_
 ·rintro i y r X j ⟨v,l,rfl,m,z,ee⟩;rw[tw,tw]at j;cases p:d[i]? with
  | none=>rw[p]at j;cases j
  | some b=>
   rw[p]at j;obtain rfl:=(tA.inj j).symm;have T:=tP p;have j:=(td.mp p).1;obtain⟨j,U,Y⟩:=O b T;have O:ju X B (.str b.1) (some (.ref j)):=by
    have:=ju.k (k:=(Sum.inr b.1:qF)) (m _ _ L);rw[U]at this;exact this
   refine⟨_,rfl,_,rfl,a,o,u,_,_,rfl,m _ _ J,C.cl,C.nr,He _ _,_,rfl,B,_,rfl,O,j,_,rfl,.inl ⟨.of (m _ _ Y),λj J=>⟨JB,λo B=>?_⟩⟩⟩;have u:qi X (upd (upd X j (.tup ((jr d b).map V.str))) o (.tup [.str b.1,.ref j])):=(qd J).trans (qd B);have J:upd (upd X j (.tup ((jr d b).map V.str))) o (.tup [.str b.1,.ref j]) j=some (.tup ((jr d b).map V.str)):=ql qa B;have B:upd (upd X j (.tup ((jr d b).map V.str))) o (.tup [.str b.1,.ref j]) o=some (.tup [.str b.1,.ref j]):=qa;generalize upd (upd X j (.tup ((jr d b).map V.str))) o (.tup [.str b.1,.ref j])=L at u J B;have b:=u _ _ z;have L:=ee.1;rw[ta,tE]at L;refine⟨_,b,by rw[ta];exact qh (by omega),_,l++[o],rfl,qi.upd (m.trans u) x,by rw[tj];exact qa,?_⟩;rw[tz,p,tj];refine qY.upd_lst ?_ b;exact qY.snoc (q:=j) (ee.mono u) B J
 ·rintro r X ⟨v,l,rfl,m,z,ee⟩;have b:d.take ((d.map (·.1)).map V.str).length=d:=tu (by rw[ta,ta];exact tf _);rw[b]at ee;exact q D l X m x z ee
structure uo(K:zdM)(mg:Str->Option Value)(D:Addr)(x eJ:Str)(st:Stmt)(eH:Str)(C f:Addr)(fd:zdQ):Prop where
 cls:NC K C (.ref D::JR)
 mkr:F0 K C f (.ref D::JR)
 ns:mg x=some (.ref C)
 na:Qu K C eH
 fn:jL K "__init__" eJ st f fd
 bi:jZ K fd ["self",eH] []
def EY(D:Addr):ka (.ref D::JR):=rfl
def wK(D:Addr):(Value.ref D::JR).contains (.type "BaseException")=true:=rfl
def uo.rcls{K:zdM}{mg:Str->Option Value}{D C f:Addr}{x a eH:Str}{st:Stmt}{b:zdQ}(h:uo K mg D x a st eH C f b):um K C:=⟨f,_,h.mkr,wK D⟩
inductive Es(C:Addr)(eH:Str)(vs:List V)(H:Hp)(Q:VK):Prop
 | mk (e:_) (y:_):vs=[.ref e,y]->H e=some (zO e C)->(∀dx,H dx=none->Q .non (upd (upd H e (Zb e C dx)) dx (.xd [(eH,y)])))->Es C eH vs H Q
def Cq(C:Addr)(eH:Str):Sp:=λa H Q _=>Es C eH a H Q
def JQ{H:Hp}(j:H e=none)(d:upd H e (zO e C) a=none):
  qi H (upd (upd (upd H e (zO e C)) e (Zb e C a)) a (.xd fs))/\upd (upd (upd H e (zO e C)) e (Zb e C a)) a (.xd fs) e=some (Zb e C a)/\upd (upd (upd H e (zO e C)) e (Zb e C a)) a (.xd fs) a=some (.xd fs):=by
 have ne:e≠a:=λz=>by rw[<-z,qa]at d;cases d
 refine⟨λb _ h=>?_,?_,qa⟩
 ·have i:b≠e:=qj h j;have j:b≠a:=λz=>by rw[<-z,qc i,h]at d;cases d
  rw[qc j,qc i,qc i];exact h
 ·rw[qc ne];exact qa
def IJ(H H':Hp):Prop:=∀b a,H b=some a->(∀d,a≠.ext d)->H' b=some a
def NG(H:Hp)(D:Addr):Hp:=λb=>if b=D then none else H b
def Nm(h:b≠D):NG H D b=H b:=if_neg h
def AH:NG (upd H D o) D=NG H D:=funext λb=>by
 unfold NG;by_cases h:b=D
 ·rw[if_pos h,if_pos h]
 ·rw[if_neg h,if_neg h,qc h]
def Nl(s:qi H H'):qi (NG H D) (NG H' D):=λb u a=>by
 unfold NG at a ⊢;by_cases h:b=D
 ·rw[if_pos h]at a;cases a
 ·rw[if_neg h]at a ⊢;exact s _ _ a
def AI:qi (NG H D) H:=λb u a=>by
 unfold NG at a;by_cases h:b=D
 ·rw[if_pos h]at a;cases a
 ·rw[if_neg h]at a;exact a
def Fz(a b:V):([(zdN "order",a),(zdN "roads",b)]:List (Str×V)).lookup (zdN "rows")=none:=by
 have d:((zdN "rows")==(zdN "order"))=false:=by decide+kernel
 have e:((zdN "rows")==(zdN "roads"))=false:=by decide+kernel
 simp [zaZ,d,e]
def Ww(g:qf rs)(hr:r∈rs):(jr rs r).Perm r.2:=(List.perm_ext_iff_of_nodup (by unfold jr;exact g.nd.sublist zao) (g.rd r hr)).mpr λy=>Xy g hr
def Qh(rs:jG):(QE rs).map (·.1)=rs.map (·.1):=by unfold QE;rw[zam];rfl
def Two(a d C:Addr)(b:Bool):Prop:=(b=true/\C=a)\/(b=false/\C=d)
structure Hj(K:zdM)(mg:Str->Option Value)(D CW CM:Addr):Prop where
 w:∃f fd,uo K mg D "Twice" "Twice.__init__" Vx "found" CW f fd
 m:∃f fd,uo K mg D "TooMany" "TooMany.__init__" Qw "found" CM f fd
structure j8(rs:jG):Prop where
 nm:∀r∈rs,jB r.1=true
 nd:(rs.map (·.1)).Nodup
 to:∀r∈rs,∀z∈r.2,z∈rs.map (·.1)
 rd:∀r∈rs,r.2.Nodup
 len:∀r∈rs,r.2.length<=40
def j8.names(h:j8 rs):∀r∈rs,∀z∈r.2,jB z=true:=λr hr z a=>by
 obtain⟨b,d,rfl⟩:=tc.mp (h.to r hr z a);exact h.nm b d
def j8.good(h:j8 rs)(f:(rs.map λr=>r.2.length).sum<=40):qf rs:=⟨h.nm,h.nd,h.to,h.rd,f⟩
structure X8(H:Hp)(l:Addr)(ps:List Addr)(rs:jG):Prop where
 at_:H l=some (.lst (ps.map V.ref))
 rows:qY H ps rs
 good:j8 rs
 pos:0 < rs.length
 le:rs.length<=14
def X8.mono(h:X8 H l ps rs)(s:qi H H'):X8 H' l ps rs:=⟨s _ _ h.at_,h.rows.mono s,h.good,h.pos,h.le⟩
def Ck:Sp:=λb H Q _=>∃(a:Addr) (d:List Addr) (e:jG),b=[.ref a]/\X8 H a d e/\∀a,qi H a->Q .non a
def Vs(h:Addr):Sp:=λd H Q E=>∃(a:Addr) (e:List Addr) (b:jG),d=[.ref a]/\X8 H a e b/\40 < (b.map λa=>a.2.length).sum/\(b.map λa=>a.2.length).sum < 2^60/\∀d e,qi H d->d e=some (.xd [(zdN "found",.int ((b.map λa=>a.2.length).sum:Nat))])->E (.ref h) (some e) d
def YU(e:Addr):Sp:=λd H Q E=>∃(b:Addr) (a:List V),d=[.ref b]/\H b=some (.lst a)/\14 < a.length/\a.length<=1000/\∀b d,qi H b->b d=some (.xd [(zdN "found",.int (a.length:Nat))])->E (.ref e) (some d) b
def GW(F:jL K "need_form" "need_form" WI f d)(B:QB mg)(G:j7 mg)(T:Qn K mg)(hN:qW K mg "is_name" Z7 ["thing"] l m)(e:qW K mg "is_tuple_of_names" Xk ["thing"] o p)(j:qW K mg "is_row" Yd ["thing"] r u):qp P w K mg base jh 4 f d ["rows"] Ck:=by
 have l:=pin P w mg base (U6 j.fn B G T hN e);obtain⟨_,m⟩:=T.mp;refine F.okK vR λH Q E hr h=>?_;obtain⟨d,e,o,rfl,g,q⟩:=h;refine⟨_,qb (qJ (Zw (Qk (jH (qu jR (by rfl) T.isi boot_isinstance (jQ (jv 0) (Js (v:=.ty "list") (by rfl) G.lst boot_list rfl)))))
   (Ji (qo QM (qu qx (by rfl) B.len boot_len (qT (jv 0))) qk))).pt qC qt)
  (qb (qJ (qo J7 (qu qx (by rfl) B.len boot_len (qT (jv 0))) (QC (v:=.int 14) (by rfl) m ⟨_,rfl⟩)) qC qt)
  (qe (qP (zJ (by rfl) T.enu (qT (jv 0))) (QH rfl (qH (qz 1) (qH (qz 2) j3)))
   (qe (qJ (Qk (jH (qD j l (qT (jv 2))))) qC qt))))),?_⟩
 have j:(e.map V.ref).length=o.length:=by rw[ta,g.rows.1]
 refine⟨_,rfl,_,_,_,_,rfl,rfl,.lst g.at_,T.kll,_,rfl,jp ⟨_,rfl,d,_,rfl,.inl (.of g.at_),rfl,_,rfl,?_⟩⟩;have j:decide (V.int (((e.map V.ref).length:Nat):Int)=V.int 0)=false:=decide_eq_false (by
  intro z;have:=V.int.inj z;have:=g.pos;omega)
 rw[j];refine jp ⟨_,rfl,d,_,rfl,.inl (.of g.at_),_,_,rfl,rfl,_,rfl,?_⟩;have j:decide ((14:Int) < (((e.map V.ref).length:Nat):Int))=false:=decide_eq_false (by
  have:=g.le;omega)
 refine kC (λz=>absurd z (by rw[j];decide)) (λ_=>?_);refine⟨_,rfl,d,rfl,⟨_,.of g.at_⟩,?_⟩;refine ZN (K:=K) (a:=d) (xs:=e.map V.ref) (λi j e=>∃v1 m,j=[some (.ref d),v1,m]/\qi H e) ⟨none,none,rfl,qi.refl H⟩ (λi j e _ ⟨_,_,_,s⟩=>.of (s _ _ g.at_)) ?_ ?_
 ·rintro i x j e r u p ⟨v1,m,rfl,d⟩;have g1:=g.mono (d.trans (qd (o:=.tup [.int (i:Nat),x]) p));obtain⟨v,y,l,rfl,_,o,a,b⟩:=g1.rows.item u;refine⟨r,_,rfl,.of qa,rfl,_,_,rfl,_,_,rfl,rfl,_,rfl,v,y,l,rfl,a,b,g.good.nm l o,g.good.names l o,tR (g.good.len l o) (by decide),λ_ l=>⟨_,rfl,jp ⟨_,_,rfl,?_⟩⟩⟩;exact(d.trans (qd p)).trans l
 ·rintro j e ⟨v1,m,rfl,d⟩;exact q e d
def xk{X:Cx}{x:Str}{st:Stmt}{ps:List Str}{f:Addr}{a:zdQ}{k:Nat}{sp:Sp}{E:XK}{e:Expr}{es:List Expr}{t:TA}{p pos:Pos}(h:qW X.K X.mg x st ps f a)(G:qp X.prog X.w X.K X.mg X.base (J4 X.prog X.w) k f a ps sp)(b:Qt (J4 X.prog X.w) X E)(d:JA X (e::es) t)(i:(x==("__debug__":Str))=false:=by decide)(j:starEach (e::es) X.env=(false,eval e X.env)::starEach es X.env:=by rfl)(l:(backTo pos (starEach es X.env)).any (·.1)=false:=by rfl)(m:Gl X x:=by rfl)(hr:jd k X.A:=by first | assumption | exact jd.mono hr (by decide)):
 JE X (.Call (.Name x p) (e::es) [] pos) (Zs sp [] E t):=.of (yW G hr m h.ns h.fn.kp h.bi .nil b d.to i j l)
def wb:qm ["self","found"] ["self","found"] (qg Qw):=Qm
def Mm:qm ["self","found"] ["self","found"] (qg Vx):=Qm
def Yh(x:uo K mg D "TooMany" "TooMany.__init__" Qw "found" C f a):qp P w K mg base jh 1 f a ["self","found"] (Cq C "found"):=by
 refine x.fn.okJ wb (λa H Q E h=>?_) (λ_ A _ s H a Q E hr h=>?_)
 ·obtain⟨e,y,rfl,_⟩:=h;rfl
 ·obtain⟨e,y,rfl,a,k⟩:=h;exact⟨_,qe (Rz (bm:=.ref D::JR) (jv 0) (jv 1) rfl),_,rfl,_,rfl,e,C,rfl,a,x.cls,EY D,x.na,λa b=>k a b⟩
def M8(x:uo K mg D "Twice" "Twice.__init__" Vx "found" C f a):qp P w K mg base jh 1 f a ["self","found"] (Cq C "found"):=by
 refine x.fn.okJ Mm (λa H Q E h=>?_) (λ_ A _ s H a Q E hr h=>?_)
 ·obtain⟨e,y,rfl,_⟩:=h;rfl
 ·obtain⟨e,y,rfl,a,k⟩:=h;exact⟨_,qe (Rz (bm:=.ref D::JR) (jv 0) (jv 1) rfl),_,rfl,_,rfl,e,C,rfl,a,x.cls,EY D,x.na,λa b=>k a b⟩
def M5(F:jL K "need_few_roads" "need_few_roads" KL f d)(B:QB mg)(T:Qn K mg)(l:uo K mg D "TooMany" "TooMany.__init__" Qw "found" r j m):qp P w K mg base (J4 P w) 3 f d ["rows"] (Vs r):=by
 obtain⟨_,p⟩:=T.mr;have u:qp P w K mg base jh 1 j m ["self","found"] (Cq r "found"):=Yh l;refine F.okY Bt λH Q E hr h=>?_;obtain⟨o,y,j,rfl,g,big,C,q⟩:=h;refine⟨_,qb (qG 1 (qu (ZX rfl) (by rfl) T.sum boot_sum (qT (jw (N':=["row"]) (ix:=[none]) (te:=NE (λz H Q=>∃d m,z=[.ref d]/\(Q6 K H d m\/zZ K H d m)/\Q (.int m.length) H) (qB (Zr (YN K) (qw 0) (tC (.int 1))) jJ)) (qy (jv 0)) (λ_ _ _ fp _=>
   ⟨qz 0,qS,qu qx (by rfl) B.len boot_len (qT (qU ja (jv 0) qk))⟩)))))
  (qe (qJ (qo J7 (jv 1) (QC (v:=.int 40) (by rfl) p ⟨_,rfl⟩)) (qe (zG rfl ZR (zK l.mkr u hr (by rfl) l.ns l.bi Qi (qT (jv 1))))) qt)),?_⟩
 refine⟨_,rfl,o,rfl,⟨_,.of g.at_⟩,λu m=>?_⟩;refine jc (K:=K) (a:=o) (xs:=y.map V.ref) (λi o p=>∃v,o=[v]/\p=upd H u (.lst (((j.take i).map λd=>d.2.length).map λn=>V.int ((n:Nat):Int)))) ⟨none,rfl,rfl⟩ (λi o p _ ⟨_,_,e⟩=>e▸.of (ql g.at_ m)) ?_ ?_
 ·rintro i x o p J ⟨v,rfl,rfl⟩;obtain⟨L,O,d,rfl,z,_,a,b⟩:=g.rows.item J;have J:=(td.mp z).1;refine⟨_,rfl,L,_,1,_,rfl,rfl,.of (ql a m),rfl,O,_,rfl,.inr (.of (ql b m)),_,qa,?_,_,rfl,?_⟩
  ·rw[ta,ta,tE];have:=g.le;exact qh (by omega)
  ·rw[jx,tz,z,tj,tj,ta];rfl
 ·rintro o p ⟨v,rfl,rfl⟩;have e:j.take (y.map V.ref).length=j:=tu (by rw[ta,g.rows.1];exact tf _);rw[e];refine⟨u,_,rfl,.of qa,tF C (by decide),?_⟩;have o:=qd (o:=HO.lst ((j.map λd=>d.2.length).map λn=>V.int ((n:Nat):Int))) m;generalize upd H u (.lst ((j.map λd=>d.2.length).map λn=>V.int ((n:Nat):Int)))=m at o;refine⟨_,rfl,_,_,rfl,rfl,_,rfl,j4 (decide_eq_true (by show (40:Int) < _;omega)) ?_⟩;refine⟨_,rfl,JB,λe m=>⟨e,_,rfl,qa,λp u=>⟨rfl,e,r,p,rfl,(JQ m u).2.1,l.rcls,?_⟩⟩⟩;obtain⟨l,_,r⟩:=JQ (fs:=[(zdN "found",V.int ((j.map λd=>d.2.length).sum:Nat))]) m u;exact q _ p (o.trans l) r
def GV(F:jL K "need_form" "need_form" WI f b)(B:QB mg)(G:j7 mg)(T:Qn K mg)(a:uo K mg D "TooMany" "TooMany.__init__" Qw "found" d i j):qp P w K mg base (J4 P w) 3 f b ["rows"] (YU d):=by
 obtain⟨_,l⟩:=T.mp;have m:qp P w K mg base jh 1 i j ["self","found"] (Cq d "found"):=Yh a;refine F.okY vR λH Q E hr h=>?_;obtain⟨i,o,rfl,b,big,_,q⟩:=h;refine⟨_,qb (qJ (Zw (Qk (jH (qu jR (by rfl) T.isi boot_isinstance (jQ (jv 0) (Js (v:=.ty "list") (by rfl) G.lst boot_list rfl)))))
   (Ji (qo QM (qu qx (by rfl) B.len boot_len (qT (jv 0))) qk))).pt qC qt)
  (qb (qJ (qo J7 (qu qx (by rfl) B.len boot_len (qT (jv 0))) (QC (v:=.int 14) (by rfl) l ⟨_,rfl⟩)) (qe (zG rfl ZR (zK a.mkr m hr (by rfl) a.ns a.bi Qi (qT (qu qx (by rfl) B.len boot_len (qT (jv 0))))))) qt) qC),?_⟩
 refine⟨_,rfl,_,_,_,_,rfl,rfl,.lst b,T.kll,_,rfl,jp ⟨_,rfl,i,_,rfl,.inl (.of b),rfl,_,rfl,?_⟩⟩;refine jV (decide_eq_false λz=>by have:=V.int.inj z;omega) ⟨_,rfl,i,_,rfl,.inl (.of b),_,_,rfl,rfl,_,rfl,j4 (decide_eq_true (by omega)) ?_⟩;refine⟨_,rfl,i,_,rfl,.inl (.of b),JB,λe b=>⟨e,_,rfl,qa,λi j=>⟨rfl,e,d,i,rfl,(JQ b j).2.1,a.rcls,?_⟩⟩⟩;obtain⟨a,_,d⟩:=JQ (fs:=[(zdN "found",V.int (o.length:Nat))]) b j;exact q _ i a d
def Gz(F:jL K "need_rows" "need_rows" Z6 f d)(B:QB mg)(G:j7 mg)(T:Qn K mg)(N:Wp K mg)(l:uo K mg D "TooMany" "TooMany.__init__" Qw "found" j m o):qp P w K mg base (J4 P w) 5 f d ["rows"] (Vs j):=by
 obtain⟨_,_,m⟩:=N.nm;obtain⟨_,_,j⟩:=N.tn;obtain⟨_,_,r⟩:=N.rw;obtain⟨_,_,o⟩:=N.fo;obtain⟨_,_,d⟩:=N.ow;obtain⟨_,_,u⟩:=N.en;obtain⟨_,_,z⟩:=N.fw;have y:=pin P w mg base (GW o.fn B G T m j r);have C:=pin P w mg base (Gv d.fn);have GE:=pin P w mg base (y2 u.fn);have J:=pin P w mg base (M5 z.fn B T l);refine F.okY Xj λH Q E hr h=>?_;obtain⟨m,p,l,rfl,g,big,sm,q⟩:=h;refine⟨_,qb (q5 (qD o y (qT (jv 0))))
  (qb (Qx (i:=1) (N':=["row"]) (ix:=[none]) (te:=Zr (YN K) (qw 0) (tC (.int 0))) (hN:=Xj.nd) (qy (jv 0)) (λ_ y o fp _=>
   ⟨qz 0,qS,qU ja (jv 0) qk⟩))
  (qb (q5 (qD d C (qT (jv 1))))
  (qb (Y7 (t:=uQ (vm K (qw 0)) (jF 2) (uR (Zs Kp [] E0 (qB (Zr (YN K) (qw 2) (tC (.int 1))) (qB (qw 1) jJ))))) λ_ W d j r=>qP (hp:=d) (qy (jv 0)) (qz 2)
   (qe (q5 (qD u GE (jQ (qU ja (jv 2) qk) (jv 1))))))
  (qe (q5 (xk z J Ju (qT (jv 0)))))))),?_⟩
 refine⟨_,rfl,m,p,l,rfl,g,λO U=>?_⟩;have g1:=g.mono U;refine⟨_,rfl,m,rfl,⟨_,.of g1.at_⟩,λD z=>?_⟩;refine jc (K:=K) (a:=m) (xs:=p.map V.ref) (λi d j=>∃v,d=[v]/\j=upd O D (.lst (((l.take i).map (·.1)).map V.str))) ⟨none,rfl,rfl⟩ (λi d j _ ⟨_,_,e⟩=>e▸.of (ql g1.at_ z)) ?_ ?_
 ·rintro i x d j C ⟨v,rfl,rfl⟩;obtain⟨J,Y,r,rfl,L,u,a,b⟩:=g1.rows.item C;have hi:=(td.mp L).1;refine⟨_,rfl,J,_,0,_,rfl,rfl,.of (ql a z),rfl,_,qa,?_,_,rfl,?_⟩
  ·rw[ta,ta,tE];have:=g.le;exact qh (by omega)
  ·rw[jx,tz,L,tj,tj];rfl
 ·rintro d j ⟨v,rfl,rfl⟩;have e:l.take (p.map V.ref).length=l:=tu (by rw[ta,g.rows.1];exact tf _);rw[e];refine⟨_,rfl,D,l.map (·.1),rfl,qa,g.good.nd,by rw[ta];have:=g.le;omega,λo y=>?_⟩;have sD:qi O o:=(qd z).trans y;have z:o D=some (.lst ((l.map (·.1)).map V.str)):=y _ _ qa;have g2:=g1.mono sD;refine⟨_,rfl,m,rfl,⟨_,.of g2.at_⟩,?_⟩;refine jb (K:=K) (a:=m) (xs:=p.map V.ref) (λi d j=>∃v,d=[some (.ref m),some (.ref D),v]/\qi o j) ⟨none,rfl,qi.refl o⟩ (λi d j _ ⟨_,_,s⟩=>.of (s _ _ g2.at_)) ?_ ?_
  ·rintro i x d j C ⟨v,rfl,o⟩;obtain⟨J,Y,r,rfl,L,u,a,b⟩:=(g2.mono o).rows.item C;refine⟨_,rfl,J,_,1,_,rfl,rfl,.of a,rfl,_,rfl,Y,D,r.2,l.map (·.1),rfl,b,o _ _ z,g.good.rd r u,g.good.to r u,tR (g.good.len r u) (by decide),λu r=>⟨_,rfl,o.trans r⟩⟩
  ·rintro d j ⟨v,rfl,o⟩;exact⟨_,rfl,m,p,l,rfl,g2.mono o,big,sm,λu d r=>q u d (((U.trans sD).trans o).trans r)⟩
def GA(F:jL K "need_rows" "need_rows" Z6 f a)(B:QB mg)(G:j7 mg)(T:Qn K mg)(N:Wp K mg)(b:uo K mg D "TooMany" "TooMany.__init__" Qw "found" d e i):qp P w K mg base (J4 P w) 5 f a ["rows"] (YU d):=by
 obtain⟨_,_,a⟩:=N.fo;have d:=pin P w mg base (GV a.fn B G T b);refine F.okY Xj λH Q E hr h=>?_;obtain⟨b,e,rfl,h⟩:=h;exact⟨_,qb (q5 (xk a d Ju (qT (jv 0)))) qC,_,rfl,b,e,rfl,h⟩
def Ko(b:Addr):Sp:=λd H Q E=>∃(x a:Addr),d=[.ref x,.ref a]/\(Vs b [.ref a] H Q E\/YU b [.ref a] H Q E)
def WQ(C:NM K mg m f a)(B:QB mg)(G:j7 mg)(T:Qn K mg)(N:Wp K mg)(b:qW K mg "need_rows" Z6 ["rows"] j l)(i:uo K mg D "TooMany" "TooMany.__init__" Qw "found" d o p):qp P w K mg base (J4 P w) 6 f a ["self","rows"] (Ko d):=by
 have m:qp P w K mg base (J4 P w) 5 j l ["rows"] (λa H Q E=>Vs d a H Q E\/YU d a H Q E):=(Gz b.fn B G T N i).either (GA b.fn B G T N i);refine C.fn.okX CA (λa H Q E h=>?_) (λ_ A _ s H a Q E hr h=>?_)
 ·obtain⟨x,a,rfl,_⟩:=h;rfl
 ·obtain⟨x,a,rfl,h⟩:=h;refine⟨_,qb (q5 (xk b m Ju (qT (jv 1)))) qC,_,rfl,?_⟩;rcases h with ⟨a,b,d,e,h⟩ | ⟨a,i,e,h⟩
  ·exact .inl ⟨a,b,d,e,h⟩
  ·exact .inr ⟨a,i,e,h⟩
open PyProof.Rows hiding K lo
abbrev Hm(C:Addr)(sp:Sp)(E:XK)(t:TA):TE:=λa H Q=>t a H λa b=>a.length<=zdR/\∀x,b x=none->sp (.ref x::a) (upd b x (zO x C)) (λv a=>v=.non/\Q (.ref x) a) E
def jK(rs:jG):Nat:=(rs.map λa=>a.2.length).sum
def WJ(a b:jG):jK (a++b)=jK a+jK b:=by unfold jK;rw[tj,zby]
def Ze(g:qf rs):jK (QE rs)=jK rs:=by
 unfold jK QE;rw[zam];congr 1;exact zap λ_ hr=>(Ww g hr).length_eq
def YP(rs us:jG):Option (Bool×V):=match (us.map (·.1)).find? (λz=>decide (z∈rs.map (·.1))) with
 | some z=>some (true,.str z)
 | none=>if 14 < rs.length+us.length then some (false,.int ((rs.length+us.length:Nat):Int)) else if 40 < jK rs+jK us then some (false,.int ((jK rs+jK us:Nat):Int)) else none
inductive Bn(CG CW CM:Addr)(vs:List V)(H:Hp)(Q:VK)(E:XK):Prop
 | mk (g h:Addr) (rs us:jG):vs=[.ref g,.ref h]->jt CG H g rs->jt CG H h us->qf rs->qf us->(0 < rs.length)->(rs.length<=14)->(us.length<=14)->((∀b v,YP rs us=some (b,v)->∀Hx dx C,qi H Hx->Hx dx=some (.xd [(zdN "found",v)])->Two CW CM C b->E (.ref C) (some dx) Hx))->((YP rs us=none->∀H' x,qi H H'->jt CG H' x (QE rs++QE us)->qf (QE rs++QE us)->Q (.ref x) H'))->Bn CG CW CM vs H Q E
def Er(a b d:Addr):Sp:=λe H Q E=>Bn a b d e H Q E
def ZQ(g:qf rs):j8 (QE rs):=by
 refine⟨λa hr=>?_,by rw[Qh];exact g.nd,λa hr z d=>?_,λa hr=>?_,λa hr=>?_⟩
 all_goals obtain⟨a,b,rfl⟩:=tc.mp hr
 ·exact g.nm a b
 ·rw[Qh];exact(tZ.mp d).1
 ·exact g.nd.sublist zao
 ·show (jr rs a).length<=40;rw[(Ww g b).length_eq];exact g.len a b
def Wq(a:j8 rs)(b:j8 us)(d:∀z∈us.map (·.1),z∉rs.map (·.1)):j8 (rs++us):=by
 refine⟨λh hr=>?_,?_,λh hr z i=>?_,λh hr=>?_,λh hr=>?_⟩
 ·rcases tN.mp hr with hr | hr
  ·exact a.nm h hr
  ·exact b.nm h hr
 ·rw[tj];exact zbi.mpr ⟨a.nd,b.nd,λx j y l e=>d y l (by rw[<-e];exact j)⟩
 ·rw[tj];rcases tN.mp hr with hr | hr
  ·exact tV _ (a.to h hr z i)
  ·exact tU _ (b.to h hr z i)
 ·rcases tN.mp hr with hr | hr
  ·exact a.rd h hr
  ·exact b.rd h hr
 ·rcases tN.mp hr with hr | hr
  ·exact a.len h hr
  ·exact b.len h hr
def qY.app(a:qY H ps rs)(b:qY H d us):qY H (ps++d) (rs++us):=⟨by rw[tv,tv,a.1,b.1],λi h j d e=>by
 by_cases l:i < ps.length
 ·rw[t9 l]at d;rw[t9 (by rw[<-a.1];exact l)]at e;exact a.2 i h j d e
 ·rw[tY (by omega)]at d;rw[tY (by rw[<-a.1];omega),<-a.1]at e;exact b.2 _ h j d e⟩
def vr:∀{l:List Str} {z:Str},l.find? p=some z->∃a b,l=a++z::b/\p z=true/\∀y∈a,p y=false
 | [],_,h=>by cases h
 | x::l,z,h=>by
  rw[zaR]at h;cases c:p x with
  | true=>
   rw[c]at h;cases h;exact⟨[],l,rfl,c,λy d=>(nomatch d)⟩
  | false=>
   rw[c]at h;obtain⟨a,b,e,i,no⟩:=vr h;refine⟨x::a,b,by rw[e];rfl,i,λy d=>?_⟩;rcases tL.mp d with e | d
   ·rw[e];exact c
   ·exact no y d
abbrev nJn:List Str:=["one","other","ahead","name"]
abbrev yY:List Str:=["one","other"]
def HS:qm nJn yY (qg UV):=Qm
def E5{f:Addr}(F:jL K "joined" "joined" UV f fd)(B:QB mg)(G:j7 mg)(T:Qn K mg)(N:Wp K mg)(M:GM K mg C)(hW:qW K mg "need_rows" Z6 ["rows"] fW aB)(ab:kY K C "rows" "Ground.rows" Xt ["self"] aC aD)(XS:Hj K mg D J CM):
  qp P w K mg base (J4 P w) 8 f fd yY (Er C J CM):=by
 obtain⟨fI,am,l⟩:=M.cls;obtain⟨_,_,hM⟩:=M.nm;obtain⟨fX,an,U⟩:=XS.w;obtain⟨_,_,xM⟩:=XS.m;have GN:=pin P w mg base (Jw hM.fn l G);have ah:=pin P w mg base (GS ab.fn l G);have GX:qp P w K mg base jh 1 fX an ["self","found"] (Cq J "found"):=M8 U;have GI:qp P w K mg base (J4 P w) 6 fI am ["self","rows"] (λvs H Q E=>JM C vs H Q E\/Ko CM vs H Q E):=(zB l B G T N hW).toX.either (WQ l B G T N hW xM);refine F.okY HS λH Q E hr h=>?_;obtain⟨g,h,d,j,rfl,gr,gh,gd,ud,pos,ao,ap,qX,qQ⟩:=h;have r1:jd 1 _:=hr.mono (by decide);have r2:jd 2 _:=hr.mono (by decide);refine⟨_,qb (qG 2 (za hM l.cl GN r1 (jv 0)))
  (qb (Y7 (t:=uQ (vm K (Xe C "names" (UP C) [] E0 (qw 1) jJ)) (jF 3) (uO (zx (Zr (BH K false) (qw 3) (qw 2))) (KB K E (Hm J (Cq J "found") E0 (qB (qw 3) jJ))) Uq)) λ_ W o _ p=>
    qP (hp:=o) (qy (za hM l.cl GN r1 (jv 1))) (qz 3)
    (qe (qJ (qo Jv (jv 3) (jv 2) (by with_unfolding_all rfl)) (qe (zG rfl p (zK U.mkr GX r2 (by rfl) U.ns U.bi Qi (qT (jv 3))))) qt)))
  (qe (qr (Qd l.mkr GI hr (by rfl) l.ns l.bi .nil Ju (qT (qM YY (za ab l.cl ah r1 (jv 0)) (za ab l.cl ah r1 (jv 1)))))))),?_⟩
 obtain⟨dx,fs,l,l1,_⟩:=gr.ins;refine⟨_,rfl,g,dx,fs,rfl,l,l1,g,d,rfl,gr,λo aq=>?_⟩;have l:qi H (upd H o (.lst ((d.map (·.1)).map V.str))):=qd aq;have h1:upd H o (.lst ((d.map (·.1)).map V.str)) o=some (.lst ((d.map (·.1)).map V.str)):=qa;generalize upd H o (.lst ((d.map (·.1)).map V.str))=H1 at l h1;obtain⟨ar,as,au,av,_⟩:=(gh.mono l).ins;refine⟨_,rfl,h,ar,as,rfl,au,av,h,j,rfl,gh.mono l,λr aw=>?_⟩;have s2:qi H1 (upd H1 r (.lst ((j.map (·.1)).map V.str))):=qd aw;have Y:upd H1 r (.lst ((j.map (·.1)).map V.str)) r=some (.lst ((j.map (·.1)).map V.str)):=qa;generalize upd H1 r (.lst ((j.map (·.1)).map V.str))=H2 at s2 Y;have aa:=l.trans s2;have ac:=s2 _ _ h1;refine⟨r,rfl,⟨_,.of Y⟩,?_⟩;cases L:(j.map (·.1)).find? (λz=>decide (z∈d.map (·.1))) with
 | some z=>
  have res:YP d j=some (true,.str z):=by unfold YP;rw[L]
  obtain⟨a,b,l,pz,no⟩:=vr L;rw[l]at Y;refine jb (K:=K) (a:=r) (xs:=(a++z::b).map V.str) (λi p X=>(∃v,p=[some (.ref g),some (.ref h),some (.ref o),v])/\X=H2/\i<=a.length) ⟨⟨_,rfl⟩,rfl,zat _⟩ (λi p X _ ⟨_,e,_⟩=>by rw[e];exact .of Y) ?_ ?_
  ·rintro i y p X O ⟨⟨v,rfl⟩,rfl,hi⟩;rcases zbY i a.length with c | c
   ·rw[tj,t9 (by rw[ta];exact c)]at O;obtain⟨x,ex,q,rfl⟩:=jO O;have nx:x∉d.map (·.1):=of_decide_eq_false (no x q);have ix:J2 (.str x) ((d.map (·.1)).map V.str)=false:=by
     cases e:J2 (.str x) ((d.map (·.1)).map V.str) with
     | false=>rfl
     | true=>exact absurd (Jt.mp e) nx
    refine⟨_,rfl,_,rfl,o,_,rfl,.inl (.of ac),rfl,Q3 _,_,rfl,?_⟩;show if (J2 (.str x) ((d.map (·.1)).map V.str))=true then _ else _
    exact jV ix ⟨⟨_,rfl⟩,rfl,c⟩
   ·have e:i=a.length:=by omega
    subst e;rw[tj,tY (by rw[ta];exact tf _),ta,zbO]at O;obtain rfl:V.str z=y:=by simpa using O
    refine⟨_,rfl,_,rfl,o,_,rfl,.inl (.of ac),rfl,Q3 _,_,rfl,?_⟩;show if (J2 (.str z) ((d.map (·.1)).map V.str))=true then _ else _
    refine j4 (Jt.mpr (of_decide_eq_true pz)) ?_;refine⟨_,rfl,JB,λe l=>⟨e,_,rfl,qa,λdx ai=>⟨rfl,e,J,dx,rfl,(JQ l ai).2.1,U.rcls,?_⟩⟩⟩;obtain⟨m1,m2,U⟩:=JQ (fs:=[(zdN "found",V.str z)]) l ai;exact qX _ _ res _ dx J (aa.trans m1) U (.inl ⟨rfl,rfl⟩)
  ·rintro p X ⟨_,_,hi⟩;rw[ta,tv,zab]at hi;omega
 | none=>
  have no:∀z∈j.map (·.1),z∉d.map (·.1):=λz l m=>by
   have:=zbN.mp L z l;exact this (decide_eq_true m)
  refine jb (K:=K) (a:=r) (xs:=(j.map (·.1)).map V.str) (λi p X=>(∃v,p=[some (.ref g),some (.ref h),some (.ref o),v])/\X=H2) ⟨⟨_,rfl⟩,rfl⟩ (λi p X _ ⟨_,e⟩=>by rw[e];exact .of Y) ?_ ?_
  ·rintro i y p X O ⟨⟨v,rfl⟩,rfl⟩;obtain⟨x,ex,q,rfl⟩:=jO O;have ix:J2 (.str x) ((d.map (·.1)).map V.str)=false:=by
    cases e:J2 (.str x) ((d.map (·.1)).map V.str) with
    | false=>rfl
    | true=>exact absurd (Jt.mp e) (no x q)
   refine⟨_,rfl,_,rfl,o,_,rfl,.inl (.of ac),rfl,Q3 _,_,rfl,?_⟩;show if (J2 (.str x) ((d.map (·.1)).map V.str))=true then _ else _
   exact jV ix ⟨⟨_,rfl⟩,rfl⟩
  ·rintro p X ⟨⟨v,rfl⟩,rfl⟩;have l:=gr.mono aa;have o:=gh.mono aa;obtain⟨p,_,_,_,r,_⟩:=id l;refine⟨_,rfl,g,p,_,rfl,r,Fz _ _,g,d,rfl,l,ao,λm1 l _ O _ p aj=>?_⟩;obtain⟨r,_,_,_,J,_⟩:=id (o.mono O);refine⟨_,rfl,h,r,_,rfl,J,Fz _ _,h,j,rfl,o.mono O,ap,λm2 o r t2 _ J ak=>?_⟩;have U:(QE d).length=d.length:=ta ..;have U:(QE j).length=j.length:=ta ..;have U:=aj.1;have U:=ak.1;refine⟨m1,m2,_,_,rfl,rfl,.of (t2 _ _ p),.of J,by rw[ta,ta];exact zac (qh (by omega)),λp Y x al q U ax=>?_⟩;have J:l.map V.ref++o.map V.ref=(l++o).map V.ref:=(tj).symm;rw[J]at q U ⊢;have J:qi r (upd r p (.lst ((l++o).map V.ref))):=qd Y;have Y:upd r p (.lst ((l++o).map V.ref)) p=some (.lst ((l++o).map V.ref)):=qa;have ae:qY (upd r p (.lst ((l++o).map V.ref))) (l++o) (QE d++QE j):=((aj.mono t2).mono J).app (ak.mono J);generalize upd r p (.lst ((l++o).map V.ref))=X3 at J Y ae q U;have af:=aa.trans ((O.trans t2).trans J);have r:qi X3 (upd (upd X3 al (.own x)) x (.ins C al [])):=λb u J=>by
    rw[qc (qj J q),qc (qj J U)];exact J
   have eL:j8 (QE d++QE j):=Wq (ZQ gd) (ZQ ud) (by rw[Qh,Qh];exact no);have rd:((QE d++QE j).map λC=>C.2.length).sum=jK d+jK j:=by
    show jK (QE d++QE j)=_;rw[WJ,Ze gd,Ze ud]
   have ay:jK d<=40:=gd.few;have az:jK j<=40:=ud.few;have aA:(l++o).length=d.length+j.length:=by rw[tv];omega
   have C:(QE d++QE j).length=d.length+j.length:=by rw[tv];omega
   by_cases c1:14 < d.length+j.length
   ·have res:YP d j=some (false,.int ((d.length+j.length:Nat):Int)):=by unfold YP;rw[L];show (if _ then _ else _)=_;rw[if_pos c1]
    refine .inr ⟨x,p,rfl,.inr ⟨p,_,rfl,r _ _ Y,by rw[ta];omega,by rw[ta];omega,λC ag J O=>?_⟩⟩;rw[ta,aA]at O;exact qX _ _ res C ag CM ((af.trans r).trans J) O (.inr ⟨rfl,rfl⟩)
   ·by_cases c2:40 < jK d+jK j
    ·have res:YP d j=some (false,.int ((jK d+jK j:Nat):Int)):=by unfold YP;rw[L];show (if _ then _ else _)=_;rw[if_neg c1,if_pos c2]
     refine .inr ⟨x,p,rfl,.inl ⟨p,l++o,QE d++QE j,rfl,⟨r _ _ Y,ae.mono r,eL,by omega,by omega⟩,by rw[rd];exact c2,by rw[rd];exact zaK (Nat.add_le_add ay az) (by decide),λC ag J O=>?_⟩⟩;rw[rd]at O;exact qX _ _ res C ag CM ((af.trans r).trans J) O (.inr ⟨rfl,rfl⟩)
    ·have res:YP d j=none:=by unfold YP;rw[L];show (if _ then _ else _)=_;rw[if_neg c1,if_neg c2]
     have d:=eL.good (by rw[rd];omega);exact .inl (Qj Y ae d (by omega) (by omega) q U ax λC J j=>qQ res C x (af.trans J) j d)
open PyProof.Rows hiding K lo
abbrev zp:=Str×Str
def wp(A B:List Str):List zp:=A.flatMap λa=>B.map λb=>(a,b)
def j2:p∈wp A B↔p.1∈A/\p.2∈B:=by
 unfold wp;rw[List.mem_flatMap];constructor
 ·rintro⟨a,d,h⟩;obtain⟨b,e,rfl⟩:=tc.mp h;exact⟨d,e⟩
 ·rintro⟨d,e⟩;exact⟨p.1,d,tc.mpr ⟨p.2,e,rfl⟩⟩
def Rc:∀{A B:List Str},A.Nodup->B.Nodup->(wp A B).Nodup
 | [],_,_,_=>zbh
 | a::A,B,h,d=>by
  obtain⟨n1,n2⟩:=zah.mp h;show (B.map (λb=>(a,b))++wp A B).Nodup;refine zbi.mpr ⟨zbk.mpr (d.imp λne e=>ne (Prod.mk.inj e).2),Rc n2 d,λx d y h e=>?_⟩;obtain⟨b,_,rfl⟩:=tc.mp d;subst e;exact n1 (j2.mp h).1
def y9(A B:List Str):(wp A B).length=A.length*B.length:=by
 induction A with
 | nil=>simp [wp]
 | cons a A d=>
  show (B.map (λb=>(a,b))++wp A B).length=_;rw[tv,ta,d,zab,zdE,Nat.add_comm]
def Jj(H:Hp)(ps:List Addr)(xs:List zp):Prop:=ps.length=xs.length/\∀(i:Nat) (a:Addr) (x:zp),ps[i]?=some a->xs[i]?=some x->H a=some (.tup [.str x.1,.str x.2])
def Jj.mono(h:Jj H ps xs)(s:qi H H'):Jj H' ps xs:=⟨h.1,λi a x b d=>s _ _ (h.2 i a x b d)⟩
def Jj.nil(H:Hp):Jj H [] []:=⟨rfl,λi _ x e=>by simp at e⟩
def Jj.app(a:Jj H ps xs)(b:Jj H d ys):Jj H (ps++d) (xs++ys):=⟨by rw[tv,tv,a.1,b.1],λi h x d e=>by
 by_cases j:i < ps.length
 ·rw[t9 j]at d;rw[t9 (by rw[<-a.1];exact j)]at e;exact a.2 i h x d e
 ·rw[tY (by omega)]at d;rw[tY (by rw[<-a.1];omega),<-a.1]at e;exact b.2 _ h x d e⟩
def Jj.one{H:Hp}(h:H p=some (.tup [.str x.1,.str x.2])):Jj H [p] [x]:=⟨rfl,λi b d a e=>by
 cases i with
 | zero=>
  obtain rfl:p=b:=by simpa using a
  obtain rfl:x=d:=by simpa using e
  exact h
 | succ i=>simp at a⟩
def Jj.lst(h:Jj H ps xs)(b:H D=some (.lst ys)):Jj (upd H D (.lst zs)) ps xs:=⟨h.1,λi d x j l=>by
 have a:=h.2 i d x j l;rw[qc (λe=>by rw[e,b]at a;cases a)];exact a⟩
def Jj.at_{H:Hp}{ps:List Addr}{xs:List zp}(h:Jj H ps xs){i:Nat}{y:V}(a:(ps.map V.ref)[i]?=some y):∃p x,y=.ref p/\ps[i]?=some p/\xs[i]?=some x/\x∈xs/\H p=some (.tup [.str x.1,.str x.2]):=by
 rw[tw]at a;cases e:ps[i]? with
 | none=>rw[e]at a;cases a
 | some p=>
  rw[e]at a;have b:i < xs.length:=by rw[<-h.1];exact(td.mp e).1
  have ex:xs[i]?=some xs[i]:=tr b;exact⟨p,xs[i],(tA.inj a).symm,rfl,ex,zbH b,h.2 i p _ e ex⟩
def dP(x:zp):PyData:=.tuple [.str x.1,.str x.2]
def Np(x y:zp):PyData.eqv (dP x) (dP y)=decide (x=y):=by
 have ed:PyData.eqv (dP x) (dP y)=((x.1==y.1)&&((x.2==y.2)&&true)):=rfl;rw[ed,Bool.and_true,zaq,zan,beq_iff_eq,beq_iff_eq,decide_eq_true_iff];exact⟨λh=>Prod.ext h.1 h.2,λh=>by rw[h];exact⟨rfl,rfl⟩⟩
def F3{H:Hp}(h:H p=some (.tup [.str x.1,.str x.2])):DV K H (.ref p) (dP x):=.tup (.of h) (.cons (.str _) (.cons (.str _) .nil))
def Cb:∀{ps:List Addr} {xs:List zp},Jj H ps xs->DVs K H (ps.map V.ref) (xs.map dP)
 | [],[],_=>.nil
 | [],_::_,h=>by cases h.1
 | _::_,[],h=>by cases h.1
 | d::ps,x::xs,h=>.cons (F3 (h.2 0 d x rfl rfl)) (Cb ⟨zcT.inj h.1,λi a b e j=>h.2 (i+1) a b (by simpa using e) (by simpa using j)⟩)
def Hg(x:zp):Prop:=jB x.1=true/\jB x.2=true
def B4(h:Hg x):(dP x).canLay0=true:=by
 show (PyData.strOk x.1&&(PyData.strOk x.2&&true))=true;rw[y4 h.1,y4 h.2];rfl
def FQ:∀{xs:List zp},(∀x∈xs,Hg x)->PyData.canLayAll0 (xs.map dP)=true
 | [],_=>rfl
 | x::xs,h=>by
  rw[tM,PyData.canLayAll0,FQ λy a=>h y (tG _ a),Bool.and_true];exact B4 (h x tO)
def FS(xs:List zp)(x:zp):(xs.map dP).any (λz=>PyData.eqv z (dP x))=decide (x∈xs):=by
 rw[zaq,zaS,decide_eq_true_iff];constructor
 ·rintro⟨d,hd,e⟩;obtain⟨y,a,rfl⟩:=tc.mp hd;rw[Np]at e;rw[<-of_decide_eq_true e];exact a
 ·intro h;exact⟨dP x,tc.mpr ⟨x,h,rfl⟩,by rw[Np];exact decide_eq_true rfl⟩
def Wb(rs:jG)(x:zp):List zp:=(QJ rs x.1).map λe=>(e,x.2)
def BK(us:jG)(x:zp):List zp:=(QJ us x.2).map λe=>(x.1,e)
def zY(rs us:jG)(x:zp):List zp:=Wb rs x++(BK us x).filter λy=>decide (y∉Wb rs x)
inductive Ba(CG:Addr)(vs:List V)(H:Hp)(Q:VK):Prop
 | mk (g h:Addr) (rs us:jG):vs=[.ref g,.ref h]->jt CG H g rs->jt CG H h us->(rs.length<=14)->(us.length<=14)->(∀H' l ps,qi H H'->H l=none->H' l=some (.lst (ps.map V.ref))->Jj H' ps (wp (rs.map (·.1)) (us.map (·.1)))->Q (.ref l) H')->Ba CG vs H Q
def Hw(a:Addr):Sp:=λb H Q _=>Ba a b H Q
inductive Bc(CG:Addr)(vs:List V)(H:Hp)(Q:VK):Prop
 | mk (g h t:Addr) (rs us:jG) (r u:Str×List Str):vs=[.ref g,.ref h,.ref t]->jt CG H g rs->jt CG H h us->qf rs->qf us->(rs.length<=14)->(us.length<=14)->(r∈rs)->(u∈us)->H t=some (.tup [.str r.1,.str u.1])->(∀H' l ps,qi H H'->H l=none->H' l=some (.lst (ps.map V.ref))->Jj H' ps (zY rs us (r.1,u.1))->Q (.ref l) H')->Bc CG vs H Q
def El(a:Addr):Sp:=λb H Q _=>Bc a b H Q
abbrev nPs:List Str:=["one","other","pairs","name"]
def HD:qm nPs yY (qg KC):=Qm
def Il:(["beside","name"]:List Str).Nodup:=by decide+kernel
def E1(F:jL K "pairs_of" "pairs_of" KC f a)(G:j7 mg)(M:GM K mg x):qp P w K mg base jh 2 f a yY (Hw x):=by
 obtain⟨_,_,j⟩:=M.cls;obtain⟨_,_,l⟩:=M.nm;have m:=pin P w mg base (Jw l.fn j G);refine F.okK HD λH Q E hr z=>?_;obtain⟨g,h,d,a,rfl,o,O,_,ab,q⟩:=z;refine⟨_,qb (qG 2 (Ql jT))
  (qb (qP (qy (za l j.cl m hr (jv 0))) (qz 3)
   (qe (q5 (YF zaI zcb zcc Yj (jv 2) (qT (jw (N':=["beside","name"]) (ix:=[none,some 3]) (te:=z7 (qB (qw 1) (qB (qw 0) jJ))) (qy (za l j.cl m hr (jv 1))) (λj p J fp _=>
    ⟨ji (i:=0) Il rfl (Or.inl rfl),qS,jm (jQ (jv 1) (jv 0))⟩)))))))
  (qe (qr (jv 2)))),?_⟩
 refine⟨JB,λL B=>?_⟩;have r:qi H (upd H L (.lst [])):=qd B;have m:upd H L (.lst []) L=some (.lst []):=qa;generalize upd H L (.lst [])=l at r m;obtain⟨j,fs,v,C,_⟩:=(o.mono r).ins;refine⟨_,rfl,g,j,fs,rfl,v,C,g,d,rfl,o.mono r,λj o=>?_⟩;have p:qi l (upd l j (.lst ((d.map (·.1)).map V.str))):=qd o;have v:upd l j (.lst ((d.map (·.1)).map V.str)) j=some (.lst ((d.map (·.1)).map V.str)):=qa;generalize upd l j (.lst ((d.map (·.1)).map V.str))=J at p v;have l:j≠L:=λe=>by rw[e,m]at o;cases o
 have o:=p _ _ m;refine⟨j,rfl,⟨_,.of v⟩,?_⟩;refine jb (K:=K) (a:=j) (xs:=(d.map (·.1)).map V.str) (λi C X=>∃(U:Option V) (j:List Addr),C=[some (.ref g),some (.ref h),some (.ref L),U]/\Fr J L X/\X L=some (.lst (j.map V.ref))/\Jj X j (wp ((d.map (·.1)).take i) (a.map (·.1)))) ⟨none,[],rfl,Fr.refl,o,.nil _⟩ (λi C X _ ⟨_,_,_,fr,_⟩=>.of (fr _ _ v l)) ?_ ?_
 ·rintro i y C X hy ⟨U,j,rfl,fr,J,v⟩;obtain⟨z,ez,_,rfl⟩:=jO hy;have l:=(td.mp ez).1;rw[ta]at l;have m:jt x X h a:=O.mono λb u l=>fr _ _ (p _ _ (r _ _ l)) (qj l B);obtain⟨o,x,O,T,_⟩:=m.ins;refine⟨_,rfl,.inl ⟨rfl,_,.of J⟩,_,rfl,h,o,x,rfl,O,T,h,a,rfl,m,λm o=>⟨m,rfl,⟨_,.of qa⟩,λD hD=>?_⟩⟩;have t1:qi X (upd X m (.lst ((a.map (·.1)).map V.str))):=qd o;have o:upd X m (.lst ((a.map (·.1)).map V.str)) m=some (.lst ((a.map (·.1)).map V.str)):=qa;generalize upd X m (.lst ((a.map (·.1)).map V.str))=x at t1 o hD;refine jc (K:=K) (a:=m) (xs:=(a.map (·.1)).map V.str) (λaa O Y=>∃(v0:Option V) (m:List Addr),O=[v0,some (.str z)]/\qi x Y/\Y D=some (.lst (m.map V.ref))/\Jj Y m (((a.map (·.1)).take aa).map λb=>(z,b))) ⟨none,[],rfl,qd hD,qa,.nil _⟩ (λaa O Y _ ⟨_,_,_,x,_⟩=>.of (x _ _ o)) ?_ ?_
  ·rintro aa y O Y hy ⟨v0,m,rfl,x,T,o⟩;obtain⟨b,eb,l,rfl⟩:=jO hy;have hj:=(td.mp eb).1;rw[ta]at hj;refine⟨_,rfl,_,rfl,JB,λt ht=>?_⟩;have st:=qd (o:=HO.tup [V.str z,.str b]) ht;refine⟨_,st _ _ T,?_,_,m++[t],rfl,qi.upd (x.trans st) hD,by rw[qa,tj];rfl,?_⟩
   ·rw[ta,o.1,ta,tE];exact qh (by omega)
   ·rw[tz,eb,tj];exact((o.mono st).app (.one (x:=(z,b)) qa)).lst (st _ _ T)
  ·rintro O Y ⟨v0,m,rfl,x,T,o⟩;rw[ta,tu (tf _)]at o;have O:=t1.trans x;have x:=O _ _ J;have lp:=v.1;have lq:=o.1;rw[y9,tE,ta,ta]at lp;rw[ta,ta]at lq;have ac:j.length<=14*14:=by rw[lp];exact zbV (by omega) ab
   refine⟨L,D,_,_,rfl,rfl,x,T,?_,_,j++m,rfl,(fr.same O).at_d,by rw[qa,tj],?_⟩
   ·rw[ta,ta];exact zac (qh (by omega))
   ·have e:wp ((d.map (·.1)).take (i+1)) (a.map (·.1))=wp ((d.map (·.1)).take i) (a.map (·.1))++(a.map (·.1)).map λb=>(z,b):=by
     unfold wp;rw[tz,ez,List.flatMap_append];simp
    rw[e];exact((v.mono O).app o).lst x
 ·rintro C X ⟨U,j,rfl,fr,J,v⟩;rw[ta,tu (tf _)]at v;exact⟨_,rfl,q X L j (λb u l=>fr _ _ (p _ _ (r _ _ l)) (qj l B)) B J v⟩
abbrev nPb:List Str:=["one","other","pair","ends"]
abbrev Hc:List Str:=["one","other","pair"]
def HH:qm nPb Hc (qg KE):=Qm
def Fo:(["end","pair"]:List Str).Nodup:=by decide+kernel
def Fm:(["end","pair","ends"]:List Str).Nodup:=by decide+kernel
def E3(F:jL K "pairs_behind" "pairs_behind" KE f a)(B:QB mg)(G:j7 mg)(T:Qn K mg)(M:GM K mg d):qp P w K mg base jh 3 f a Hc (El d):=by
 obtain⟨_,_,j⟩:=M.cls;obtain⟨_,_,l⟩:=M.fr;obtain⟨_,_,a⟩:=M.isn;have o:=pin P w mg base (XD l.fn j B G T a);refine F.okK HH λH Q E hr z=>?_;obtain⟨g,h,t,d,i,a,u,rfl,p,gh,O,U,_,_,aa,C,ht,q⟩:=z;refine⟨_,qb (Je 3 (jw (N':=["end","pair"]) (ix:=[none,some 2]) (te:=z7 (qB (qw 0) (qB (Zr (YN K) (qw 1) (tC (.int 1))) jJ))) (qy (vl l j.cl o hr (jv 0) (qT (qU ja (jv 2) qk)))) (λj r m fp v=>
    ⟨ji (i:=0) Fo rfl (Or.inl rfl),qS,jm (jQ (jv 0) (qU ja (jv 1) qk))⟩)))
  (qb (q5 (YF zaI zcb zcc Yj (jv 3) (qT (jw (N':=["end","pair","ends"]) (ix:=[none,some 2,some 3]) (tt:=zx (Zr (EQ K true) (z7 (qB (Zr (YN K) (qw 1) (tC (.int 0))) (qB (qw 0) jJ))) (qw 2))) (te:=z7 (qB (Zr (YN K) (qw 1) (tC (.int 0))) (qB (qw 0) jJ))) (qy (vl l j.cl o hr (jv 1) (qT (qU ja (jv 2) qk)))) (λj r m fp v=>
    ⟨ji (i:=0) Fm rfl (Or.inl rfl),jP (qo (wv hr.units) (jm (jQ (qU ja (jv 1) qk) (jv 0))) (jv 2) (by with_unfolding_all rfl)),jm (jQ (qU ja (jv 1) qk) (jv 0))⟩)))))
  (qe (qr (jv 3)))),?_⟩
 obtain⟨j,fs,l,_,o⟩:=p.ins;have eg:QJ d a.1=jr d a:=Qf O.nd aa;have eh:QJ i u.1=jr i u:=Qf U.nd C;have r:=Xx (rs:=d) a;have r:=Xx (rs:=i) u;refine⟨_,rfl,g,j,fs,rfl,l,o,_,rfl,t,_,0,_,rfl,rfl,.of ht,QD (j:=0) rfl,g,d,a,rfl,p,aa,O.nm a aa,λj le l o=>⟨le,rfl,⟨_,.of qa⟩,λL J=>?_⟩⟩;have t1:qi H (upd j le (.lst ((jr d a).map V.str))):=l.trans (qd o);have p:upd j le (.lst ((jr d a).map V.str)) le=some (.lst ((jr d a).map V.str)):=qa;generalize upd j le (.lst ((jr d a).map V.str))=m at t1 p J;refine jc (K:=K) (a:=le) (xs:=(jr d a).map V.str) (λj l Y=>∃(v0:Option V) (r:List Addr),l=[v0,some (.ref t)]/\qi m Y/\Y L=some (.lst (r.map V.ref))/\Jj Y r (((jr d a).take j).map λb=>(b,u.1))) ⟨none,[],rfl,qd J,qa,.nil _⟩ (λj l Y _ ⟨_,_,_,o,_⟩=>.of (o _ _ p)) ?_ ?_
 ·rintro j y l Y hy ⟨v0,r,rfl,o,p,m⟩;obtain⟨b,v,hb,rfl⟩:=jO hy;have hj:=(td.mp v).1;refine⟨_,rfl,_,rfl,t,_,1,_,rfl,rfl,.of (o _ _ (t1 _ _ ht)),QD (j:=1) rfl,JB,λc hc=>?_⟩;have st:=qd (o:=HO.tup [V.str b,.str u.1]) hc;refine⟨_,st _ _ p,?_,_,r++[c],rfl,qi.upd (o.trans st) J,by rw[qa,tj];rfl,?_⟩
  ·rw[ta,m.1,ta,tE];exact qh (by omega)
  ·rw[tz,v,tj];exact((m.mono st).app (.one (x:=(b,u.1)) qa)).lst (st _ _ p)
 ·rintro l Y ⟨v0,r,rfl,o,p,m⟩;rw[ta,tu (tf _)]at m;have e1:Wb d (a.1,u.1)=(jr d a).map λb=>(b,u.1):=by unfold Wb;rw[eg]
  rw[<-e1]at m;have ab:=t1.trans o;have Rg:H L=none:=jE t1 J;have o:=gh.mono ab;have ac:=ab _ _ ht;have ag:∀x∈Wb d (a.1,u.1),Hg x:=λx J=>by
   rw[e1]at J;obtain⟨b,hb,rfl⟩:=tc.mp J;obtain⟨J,ah,e⟩:=J6 hb;exact⟨by rw[<-e];exact O.nm J ah,U.nm u C⟩
  obtain⟨J,ai,aj,_,ak⟩:=o.ins;refine⟨_,rfl,.inl ⟨rfl,_,.of p⟩,_,rfl,h,J,ai,rfl,aj,ak,_,rfl,t,_,1,_,rfl,rfl,.of ac,QD (j:=1) rfl,h,i,u,rfl,o,C,U.nm u C,λJ o al am=>⟨o,rfl,⟨_,.of qa⟩,λD hD=>?_⟩⟩;have C:qi Y (upd J o (.lst ((jr i u).map V.str))):=al.trans (qd am);have h3:upd J o (.lst ((jr i u).map V.str)) o=some (.lst ((jr i u).map V.str)):=qa;generalize upd J o (.lst ((jr i u).map V.str))=J at C h3 hD;have ae:=C _ _ p;have af:=m.mono C;refine jc (K:=K) (a:=o) (xs:=(jr i u).map V.str) (λj l Z=>∃(v0:Option V) (o:List Addr),l=[v0,some (.ref t),some (.ref L)]/\qi J Z/\Z D=some (.lst (o.map V.ref))/\Jj Z o ((((jr i u).take j).map λb=>(a.1,b)).filter λy=>decide (y∉Wb d (a.1,u.1)))) ⟨none,[],rfl,qd hD,qa,.nil _⟩ (λj l Z _ ⟨_,_,_,sz,_⟩=>.of (sz _ _ h3)) ?_ ?_
  ·rintro j y l Z hy ⟨v0,o,rfl,sz,J,p⟩;obtain⟨b,v,hb,rfl⟩:=jO hy;have hj:=(td.mp v).1;have an:Hg (a.1,b):=by
    obtain⟨u',ao,e⟩:=J6 hb;exact⟨O.nm a aa,by rw[<-e];exact U.nm u' ao⟩
   have U:=sz _ _ (C _ _ ac);refine⟨_,rfl,t,_,0,_,rfl,rfl,.of U,QD (j:=0) rfl,_,rfl,JB,λc hc=>?_⟩;have st:=qd (o:=HO.tup [V.str a.1,.str b]) hc;refine⟨_,rfl,dP (a.1,b),(Wb d (a.1,u.1)).map dP,F3 qa,.lst (.of (st _ _ (sz _ _ ae))) (Cb ((af.mono sz).mono st)),B4 an,FQ ag,by show (1:Nat)<=40;decide,_,rfl,?_⟩;rw[FS];have O:(((jr i u).take (j+1)).map λb=>(a.1,b)).filter (λy=>decide (y∉Wb d (a.1,u.1)))=(((jr i u).take j).map λb=>(a.1,b)).filter (λy=>decide (y∉Wb d (a.1,u.1)))++if (a.1,b)∈Wb d (a.1,u.1) then [] else [(a.1,b)]:=by
    rw[tz,v,tj,zay];congr 1;by_cases j:(a.1,b)∈Wb d (a.1,u.1)<;>simp [j]
   by_cases j:(a.1,b)∈Wb d (a.1,u.1)
   ·rw[if_pos j,zak]at O;refine jV (by rw[decide_eq_true j];rfl) ⟨_,o,rfl,sz.trans st,st _ _ J,?_⟩;rw[O];exact p.mono st
   ·rw[if_neg j]at O;refine j4 (by rw[decide_eq_false j];rfl) ?_;refine⟨_,rfl,t,_,0,_,rfl,rfl,.of (st _ _ U),QD (j:=0) rfl,_,rfl,JB,λv j=>?_⟩;have U:=qd (o:=HO.tup [V.str a.1,.str b]) j;have j:=st.trans U;refine⟨_,j _ _ J,?_,_,o++[v],rfl,qi.upd (sz.trans j) hD,by rw[qa,tj];rfl,?_⟩
    ·rw[ta,p.1];refine qh (tR (zas ..) ?_);rw[ta,tE];omega
    ·rw[O];exact((p.mono j).app (.one (x:=(a.1,b)) qa)).lst (j _ _ J)
  ·rintro l Z ⟨v0,o,rfl,sz,J,p⟩;rw[ta,tu (tf _)]at p;have j:=sz _ _ ae;have l:=m.1;have m:=p.1;have m:=zas (λy=>decide (y∉Wb d (a.1,u.1))) ((jr i u).map λb=>(a.1,b));rw[ta]at m;rw[e1,ta]at l;have l:zY d i (a.1,u.1)=Wb d (a.1,u.1)++((jr i u).map λb=>(a.1,b)).filter (λy=>decide (y∉Wb d (a.1,u.1))):=by unfold zY BK;rw[eh]
   refine⟨L,D,_,_,rfl,rfl,j,J,?_,_,rfl,q _ L (r++o) (qi.upd ((ab.trans C).trans sz) Rg) Rg (by rw[qa,tj]) ?_⟩
   ·rw[ta,ta];exact zac (qh (by omega))
   ·rw[l];exact(((af.mono sz)).app p).lst j
open PyProof.Rows hiding K lo
def CK:Str:=zdN "abcdefghijklmn"
def Df(n:Nat):Str:=⟨#[97+n]⟩
def CJ:∀n < 14,CK.cps.toList[n]?=some (97+n):=by decide+kernel
def MM:CK.length<=zdR:=by decide+kernel
def Rk:∀n < 14,jB (Df n)=true:=by decide+kernel
def Af(h:Df a=Df b):a=b:=by
 unfold Df at h;have:=congrArg (λz:Str=>z.cps.toList) h;simpa using this
def lt(Z:List zp)(x:zp):Str:=Df (Z.idxOf x)
def Fy{Z:List zp}(nd:Z.Nodup)(h:Z[i]?=some x):lt Z x=Df i:=by
 obtain⟨a,e⟩:=td.mp h;subst e;exact congrArg Df (nd.idxOf_getElem i a)
def Dg(a:x∈Z)(b:y∈Z)(h:lt Z x=lt Z y):x=y:=by
 have e:=Af h;have d:=zch (zau a);have a:=zch (zau b);rw[<-d,<-a];congr 1
def Ag{Z:List zp}(l:Z.length<=14)(a:x∈Z):jB (lt Z x)=true:=Rk _ (tF (zau a) l)
def kP(x:zp):List qF:=[Sum.inr x.1,Sum.inr x.2]
def Rx(h:kP x=kP y):x=y:=by
 unfold kP at h;simp only[zcz.injEq,Sum.inr.injEq,and_true]at h;exact Prod.ext h.1 h.2
def kvs(Z:List zp)(g:zp->V):List (List qF×V):=Z.map λx=>(kP x,g x)
def vi:∀{Z:List zp},x∉Z->qO (kvs Z g) (kP x)=none
 | [],_=>rfl
 | z::Z,h=>(jk λe=>h (by rw[<-Rx e];exact tO)).trans (vi λm=>h (tG _ m))
def XM:∀{Z:List zp},x∈Z->qO (kvs Z g) (kP x)=some (g x)
 | z::Z,h=>by
  by_cases e:z=x
  ·subst e;exact jz rfl
  ·refine(jk λq=>e (Rx q)).trans (XM ?_);rcases tL.mp h with m | m
   ·exact absurd m.symm e
   ·exact m
def Ai(h:x∉Z):jD (kvs Z g) (kP x) (g x)=kvs (Z++[x]) g:=by
 rw[QR _ (vi h)];unfold kvs;rw[tj];rfl
def uq(Z:List zp):List (List qF×V):=kvs Z λx=>.str (lt Z x)
abbrev jU(rs us:jG):List zp:=wp (rs.map (·.1)) (us.map (·.1))
def vY(rs us:jG)(x:zp):Str×List Str:=(lt (jU rs us) x,(zY rs us x).map (lt (jU rs us)))
def jf(rs us:jG):jG:=(jU rs us).map (vY rs us)
def xH(h:x∈jU rs us):∃r u,r∈rs/\u∈us/\x=(r.1,u.1):=by
 obtain⟨a,b⟩:=j2.mp h;obtain⟨r,hr,d⟩:=tc.mp a;obtain⟨u,hu,a⟩:=tc.mp b;exact⟨r,u,hr,hu,Prod.ext d.symm a.symm⟩
def Zg(g:qf rs)(g':qf us)(i:x∈jU rs us)(d:y∈zY rs us x):y∈jU rs us:=by
 obtain⟨j,u,hr,hu,rfl⟩:=xH i;unfold zY at d;rcases tN.mp d with h | h
 ·unfold Wb at h;rw[Qf g.nd hr]at h;obtain⟨e,a,rfl⟩:=tc.mp h;obtain⟨d,i,b⟩:=J6 a;exact j2.mpr ⟨tc.mpr ⟨d,i,b⟩,tc.mpr ⟨u,hu,rfl⟩⟩
 ·have h:=(tZ.mp h).1;unfold BK at h;rw[Qf g'.nd hu]at h;obtain⟨e,a,rfl⟩:=tc.mp h;obtain⟨d,i,b⟩:=J6 a;exact j2.mpr ⟨tc.mpr ⟨j,hr,rfl⟩,tc.mpr ⟨d,i,b⟩⟩
def BO(g:qf rs)(r:Str×List Str):(jr rs r).Nodup:=by unfold jr;exact g.nd.sublist zao
def CP(g:qf rs)(a:x∈jU rs us):(Wb rs x).Nodup:=by
 obtain⟨b,u,hr,hu,rfl⟩:=xH a;unfold Wb;rw[Qf g.nd hr];exact zbk.mpr ((BO g b).imp λne e=>ne (Prod.mk.inj e).1)
def CO(g':qf us)(a:x∈jU rs us):(BK us x).Nodup:=by
 obtain⟨_,u,hr,hu,rfl⟩:=xH a;unfold BK;rw[Qf g'.nd hu];exact zbk.mpr ((BO g' u).imp λne e=>ne (Prod.mk.inj e).2)
def Gi(g:qf rs)(g':qf us)(d:x∈jU rs us):(zY rs us x).Nodup:=by
 unfold zY;refine zbi.mpr ⟨CP g d,(CO g' d).sublist zao,λa d b h e=>?_⟩;have:=(tZ.mp h).2;exact of_decide_eq_true this (by rw[<-e];exact d)
def XG:∀{xs ys:List zp},xs.Nodup->(∀x∈xs,x∈ys)->xs.length<=ys.length
 | [],_,_,_=>zat _
 | x::xs,ys,a,h=>by
  obtain⟨n1,n2⟩:=zah.mp a;have m:=h x tO;have:=XG (ys:=ys.erase x) n2 λy a=>(zbq λe=>n1 (by rw[<-e];exact a)).mpr (h y (tG _ a));rw[zbC m]at this;have:=zaW m;rw[zab];omega
def yX(g:qf rs)(g':qf us)(a:x∈jU rs us):(zY rs us x).length<=(jU rs us).length:=XG (Gi g g' a) λy b=>Zg g g' a b
def Fc(g:qf rs)(g':qf us):(jU rs us).Nodup:=Rc g.nd g'.nd
def BP{xs:List zp}(nd:xs.Nodup)(h:∀x∈xs,x∈Z):(xs.map (lt Z)).Nodup:=by
 refine zbk.mpr (nd.imp_of_mem λa b ne e=>ne (Dg (h _ a) (h _ b) e))
def xP(g:qf rs)(g':qf us)(l:(jU rs us).length<=14):j8 (jf rs us):=by
 have d:(jf rs us).map (·.1)=(jU rs us).map (lt (jU rs us)):=by unfold jf;rw[zam];rfl
 refine⟨λa hr=>?_,by rw[d];exact BP (Fc g g') λ_ h=>h,λa hr z e=>?_,λa hr=>?_,λa hr=>?_⟩
 all_goals obtain⟨x,a,rfl⟩:=tc.mp hr
 ·exact Ag l a
 ·obtain⟨y,b,rfl⟩:=tc.mp e;rw[d];exact tc.mpr ⟨y,Zg g g' a b,rfl⟩
 ·exact BP (Gi g g' a) λy b=>Zg g g' a b
 ·show ((zY rs us x).map (lt (jU rs us))).length<=40;rw[ta];have:=yX g g' a;omega
def xa(rs us:jG):(jU rs us).length=rs.length*us.length:=by rw[y9,ta,ta]
def uZ{xs:List Nat}(h:∀x∈xs,x<=m):xs.sum<=xs.length*m:=by
 induction xs with
 | nil=>simp
 | cons x xs a=>
  have b:=h x tO;have d:=a λy b=>h y (tG _ b);rw[zaH,zab,zdE];omega
def vX(a:j8 (jf rs us))(l:(jU rs us).length<=14):jK (jf rs us)<=14*40:=by
 unfold jK;refine tR (uZ (m:=40) λn b=>?_) (Nat.mul_le_mul_right _ ?_)
 ·obtain⟨d,hr,rfl⟩:=tc.mp b;exact a.len d hr
 ·rw[ta];show ((jU rs us).map (vY rs us)).length<=14;rw[ta];exact l
def Wh(rs us:jG):Option (Bool×V):=if 14 < rs.length*us.length then some (false,.int ((rs.length*us.length:Nat):Int)) else if 40 < jK (jf rs us) then some (false,.int ((jK (jf rs us):Nat):Int)) else none
inductive Bb(CG CW CM:Addr)(vs:List V)(H:Hp)(Q:VK)(E:XK):Prop
 | mk (g h:Addr) (rs us:jG):vs=[.ref g,.ref h]->jt CG H g rs->jt CG H h us->qf rs->qf us->(0 < rs.length)->(0 < us.length)->(rs.length<=14)->(us.length<=14)->((∀b v,Wh rs us=some (b,v)->∀Hx dx C,qi H Hx->Hx dx=some (.xd [(zdN "found",v)])->Two CW CM C b->E (.ref C) (some dx) Hx))->((Wh rs us=none->∀H' x Pd t,qi H H'->jt CG H' x (jf rs us)->qf (jf rs us)->H Pd=none->H' Pd=some (.dT (uq (jU rs us)))->H' t=some (.tup [.ref x,.ref Pd])->Q (.ref t) H'))->Bb CG CW CM vs H Q E
def Cm(a b d:Addr):Sp:=λe H Q E=>Bb a b d e H Q E
abbrev KZ(K:zdM):List V->Hp->VK->Prop:=λd H Q=>∃a b,d=[.ref a]/\((Q6 K H a b/\∀d,H d=none->Q (.ref d) (upd H d (.tup b)))\/(zZ K H a b/\Q (.ref a) H))
abbrev DZ:List Str:=["one","other","pairs","places","number","pair","rows"]
def HG:qm DZ yY (qg UU):=Qm
def Im:(["end","places"]:List Str).Nodup:=by decide+kernel
def E2(F:jL K "paired" "paired" UU f j)(B:QB mg)(G:j7 mg)(T:Qn K mg)(N:Wp K mg)(M:GM K mg CG)(d:qW K mg "need_rows" Z6 ["rows"] o C)(v:Hj K mg D l z)(q:qW K mg "pairs_of" KC yY J O)(r:qW K mg "pairs_behind" KE Hc U aT)(p:∃t,mg "PAIR_NAMES"=some (.str CK t)):
  qp P w K mg base (J4 P w) 8 f j yY (Cm CG l z):=by
 obtain⟨C,J,l⟩:=M.cls;obtain⟨j,O,o⟩:=v.m;obtain⟨tp,p⟩:=p;obtain⟨_,v⟩:=T.mp;have U:qp P w K mg base jh 1 j O ["self","found"] (Cq z "found"):=Yh o;have O:qp P w K mg base (J4 P w) 6 C J ["self","rows"] (λj H Q E=>JM CG j H Q E\/Ko z j H Q E):=(zB l B G T N d).toX.either (WQ l B G T N d o);have C:=pin P w mg base (E1 q.fn G M);have J:=pin P w mg base (E3 r.fn B G T M);refine F.okY HG λH Q E hr h=>?_;obtain⟨g,h,d,j,rfl,gr,gh,gd,ud,pos,aC,ag,ah,qX,qQ⟩:=h;have r2:jd 2 _:=hr.mono (by decide);refine⟨_,qb (qG 2 (qD q C (jQ (jv 0) (jv 1))))
  (qb (qJ (qo J7 (qu qx (by rfl) B.len boot_len (qT (jv 2))) (QC (v:=.int 14) (by rfl) v ⟨_,rfl⟩)) (qe (zG rfl ZR (zK o.mkr U r2 (by rfl) o.ns o.bi Qi (qT (qu qx (by rfl) B.len boot_len (qT (jv 2))))))) qt)
  (qb (Je 3 XQ)
  (qb (Y7 (t:=uQ (BZ K (qB (qw 2) jJ)) (kH K 2 (Za (jF 4) (Za (jF 5) kI))) (KO (qw 3) (qw 5) (Zr EM (tC (.str CK)) (qw 4)))) λv W q U C=>
    qP (hp:=q) (zJ (by rfl) T.enu (qT (jv 2))) (QH rfl (qH (qz 4) (qH (qz 5) j3)))
    (qe (jl (jv 3) (jv 5) (qU kB (QC (v:=.str CK) (by rfl) p ⟨_,rfl⟩) (jv 4)))))
  (qb (qG 6 (Ql jT))
  (qb (Y7 (t:=uQ (vm K (qw 2)) (jF 5) (uR (Hs K "list" yT (qw 6) (qB (z7 (qB (QQ (qw 3) (qw 5)) (qB (NE (KZ K) (qB (DU (vm K (Zs (El CG) [] E0 (qB (qw 0) (qB (qw 1) (qB (qw 5) jJ))))) [none,some 3] (jF 0) xZ (QQ (qw 1) (qw 0))) jJ)) jJ))) jJ)))) λv W q U C=>
    qP (hp:=q) (qy (jv 2)) (qz 5)
    (qe (q5 (YF zaI zbD zbE J8 (jv 6) (jy
     (jm (jQ (qA (jv 3) (jv 5)) (qV j9 (by rfl) G.tup boot_tuple (jy
      (jw (N':=["end","places"]) (ix:=[none,some 3]) (te:=QQ (qw 1) (qw 0)) (qy (qD r J (kA (jv 0) (jv 1) (jv 5)))) (λl U v fp _=>
       ⟨ji (i:=0) Im rfl (Or.inl rfl),qS,qA (jv 1) (jv 0)⟩)) jT)))) jT)))))
  (qe (qr (jm (jQ (Qd l.mkr O hr (by rfl) l.ns l.bi .nil Ju (qT (jv 6))) (jv 3)))))))))),?_⟩
 refine⟨_,rfl,_,rfl,g,h,d,j,rfl,gr,gh,ag,ah,λp L ps s1 _ q r=>?_⟩;have r:Jj p ps (jU d j):=r;have aa:=r.1;have lZ:=xa d j;have l:d.length*j.length<=14*14:=zbV ag ah;refine⟨_,rfl,L,_,rfl,.inl (.of q),_,_,rfl,rfl,_,rfl,?_⟩;by_cases c1:14 < d.length*j.length
 ·have res:Wh d j=some (false,.int ((d.length*j.length:Nat):Int)):=by unfold Wh;rw[if_pos c1]
  refine j4 (decide_eq_true (by rw[ta,aa,lZ];omega)) ?_;refine⟨_,rfl,L,_,rfl,.inl (.of q),JB,λe l=>⟨e,_,rfl,qa,λJ O=>⟨rfl,e,z,J,rfl,(JQ l O).2.1,o.rcls,?_⟩⟩⟩;obtain⟨o,_,m3⟩:=JQ (fs:=[(zdN "found",V.int (((ps.map V.ref).length:Nat):Int))]) l O;refine qX _ _ res _ J z (s1.trans o) ?_ (.inr ⟨rfl,rfl⟩);rw[m3,ta,aa,lZ]
 refine jV (decide_eq_false (by rw[ta,aa,lZ];omega)) ?_;have ai:(jU d j).length<=14:=by rw[lZ];omega
 have ao:=Fc gd ud;refine λl o=>?_;have U:qi p (upd p l (.dT [])):=qd o;have h2:upd p l (.dT []) l=some (.dT []):=qa;generalize upd p l (.dT [])=v at U h2;have ap:H l=none:=jE s1 o;have aj:=U _ _ q;have aq:L≠l:=λe=>by rw[e,o]at q;cases q
 have ak:=r.mono U;refine⟨_,rfl,L,rfl,⟨_,.of aj⟩,?_⟩;refine ZN (K:=K) (a:=L) (xs:=ps.map V.ref) (λi p X=>∃(v4 J:Option V),p=[some (.ref g),some (.ref h),some (.ref L),some (.ref l),v4,J,none]/\Fr v l X/\X l=some (.dT (kvs ((jU d j).take i) λx=>.str (lt (jU d j) x)))) ⟨none,none,rfl,Fr.refl,h2⟩ (λi p X _ ⟨_,_,_,fr,_⟩=>.of (fr _ _ aj aq)) ?_ ?_
 ·rintro i y p X ab hy q ⟨v4,J,rfl,fr,r⟩;obtain⟨a,x,rfl,ea,ex,mx,v⟩:=ak.at_ hy;have hi:=(td.mp ex).1;have o:a≠l:=λe=>by rw[e,h2]at v;cases v
  have aD:l≠ab:=λe=>by rw[<-e,r]at q;cases q
  have aE:=fr _ _ v o;have aF:x∉(jU d j).take i:=λm=>by
   obtain⟨O,o⟩:=zaP m;have hj:=(td.mp o).1;rw[tE]at hj;rw[zbp (by omega)]at o;have:=(zdF (by omega) ao).mp (o.trans ex.symm);omega
  refine⟨ab,_,rfl,.of qa,rfl,_,_,rfl,_,_,rfl,rfl,?_⟩;refine⟨_,rfl,CK,_,97+i,rfl,rfl,MM,QD (CJ i (tF hi ai)),_,rfl,_,rfl,l,_,rfl,Jl.t (k:=kP x) (by rw[qc aD];exact r) (ql aE q) ?_,_,_,rfl,?_,?_⟩
  ·unfold kvs;rw[ta,tE];exact qh (by omega)
  ·exact(fr.new q).at_d
  ·rw[qa,tz,ex];have e:=Ai (g:=λx=>V.str (lt (jU d j) x)) aF;rw[show (some x).toList=[x] from rfl,<-e,Fy ao ex];rfl
 ·rintro p X ⟨v4,J,rfl,fr,r⟩;rw[ta,aa,tu (tf _)]at r;have s3:qi H X:=λb u o=>fr _ _ (U _ _ (s1 _ _ o)) (qj o ap);have al:=fr _ _ aj aq;have aG:Jj X ps (jU d j):=⟨ak.1,λi ab x U e2=>by
   have q:=ak.2 i ab x U e2;exact fr _ _ q λe=>by rw[e,h2]at q;cases q⟩
  refine⟨JB,λR C=>?_⟩;have U:qi X (upd X R (.lst [])):=qd C;have h4:upd X R (.lst []) R=some (.lst []):=qa;generalize upd X R (.lst [])=H5 at U h4;have nR:H R=none:=jE s3 C;have Is:L≠R:=λe=>by rw[e,C]at al;cases al
  have ar:l≠R:=λe=>by rw[e,C]at r;cases r
  have q:=U _ _ al;have as:=U _ _ r;have aH:=aG.mono U;refine⟨_,rfl,L,rfl,⟨_,.of q⟩,?_⟩;refine jb (K:=K) (a:=L) (xs:=ps.map V.ref) (λi p Y=>∃(J:Option V) (C:List Addr),p=[some (.ref g),some (.ref h),some (.ref L),some (.ref l),v4,J,some (.ref R)]/\Fr H5 R Y/\Y R=some (.lst (C.map V.ref))/\qY (NG Y R) C ((jf d j).take i)) ⟨J,[],rfl,Fr.refl,h4,⟨rfl,λi ab au e=>by simp at e⟩⟩ (λi p Y _ ⟨_,_,_,fr,_⟩=>.of (fr _ _ q Is)) ?_ ?_
  ·rintro i y p Y hy ⟨aI,C,rfl,q,r,ee⟩;obtain⟨a,x,rfl,ea,ex,mx,v⟩:=aH.at_ hy;have hi:=(td.mp ex).1;obtain⟨au,u,aJ,aK,av⟩:=xH mx;have J:a≠R:=λe=>by rw[e,h4]at v;cases v
   have aw:=q _ _ v J;have ac:=q _ _ as ar;have J:qi H Y:=λb u o=>q _ _ (U _ _ (s3 _ _ o)) (qj o nR);have v:ju Y l (.ref a) (some (.str (lt (jU d j) x))):=by
    have:=ju.t (k:=kP x) ac aw;unfold uq at*;rw[XM mx]at this;exact this
   refine⟨_,rfl,.inl ⟨rfl,_,.of r⟩,_,rfl,_,rfl,l,_,rfl,v,_,rfl,_,rfl,_,rfl,g,h,a,d,j,au,u,rfl,gr.mono J,gh.mono J,gd,ud,ag,ah,aJ,aK,by rw[aw,av],λY1 lm qs ax _ ay pq=>⟨lm,rfl,⟨_,.of ay⟩,λv ae=>?_⟩⟩;rw[<-av]at pq;refine jc (K:=K) (a:=lm) (xs:=qs.map V.ref) (λO af Y'=>∃v0:Option V,af=[v0,some (.ref l)]/\Y'=upd Y1 v (.lst (((zY d j x).take O).map λy=>V.str (lt (jU d j) y)))) ⟨none,rfl,rfl⟩ (λO af Y' _ ⟨_,_,e⟩=>by rw[e];exact .of (ql ay ae)) ?_ ?_
   ·rintro O y af Y' hy ⟨v0,rfl,rfl⟩;obtain⟨b,x2,rfl,_,az,aL,o⟩:=pq.at_ hy;have hj:=(td.mp az).1;have pl:=yX gd ud mx;have aM:ju (upd Y1 v (.lst (((zY d j x).take O).map λy=>V.str (lt (jU d j) y)))) l (.ref b) (some (.str (lt (jU d j) x2))):=by
     have:=ju.t (k:=kP x2) (ql (o':=.lst (((zY d j x).take O).map λy=>V.str (lt (jU d j) y))) (ax _ _ ac) ae) (ql o ae);rw[XM (Zg gd ud mx aL)]at this;exact this
    refine⟨_,rfl,_,rfl,l,_,rfl,aM,_,qa,?_,_,rfl,?_⟩
    ·rw[ta,tE];exact qh (by omega)
    ·rw[jx,tz,az,tj];rfl
   ·rintro af Y' ⟨v0,rfl,rfl⟩;rw[ta,pq.1,tu (tf _)];have em:((zY d j x).map λy=>V.str (lt (jU d j) y))=((zY d j x).map (lt (jU d j))).map V.str:=by rw[zam];rfl
    rw[em];have O:qi Y (upd Y1 v (.lst (((zY d j x).map (lt (jU d j))).map V.str))):=ax.trans (qd ae);have aA:upd Y1 v (.lst (((zY d j x).map (lt (jU d j))).map V.str)) v=some (.lst (((zY d j x).map (lt (jU d j))).map V.str)):=qa;generalize upd Y1 v (.lst (((zY d j x).map (lt (jU d j))).map V.str))=Y2 at O aA;refine⟨v,_,rfl,.inl ⟨.of aA,λtq am=>⟨JB,λtp v=>?_⟩⟩⟩;have t2:=qd (o:=HO.tup (((zY d j x).map (lt (jU d j))).map V.str)) am;have t3:=qd (o:=HO.tup [V.str (lt (jU d j) x),.ref tq]) v;have aN:=t2.trans t3;have an:=O.trans aN;have aO:=an _ _ r;have aP:tq≠R:=λe=>by rw[e,O _ _ r]at am;cases am
    have aQ:tp≠R:=λe=>by rw[e,t2 _ _ (O _ _ r)]at v;cases v
    have O:=(ee.mono (Nl an)).snoc (r:=vY d j x) (p:=tp) (q:=tq) (by rw[Nm aQ];exact qa) (by rw[Nm aP];exact ql qa v);have v:=ee.1;refine⟨R,_,_,rfl,rfl,aO,?_,_,C++[tp],rfl,(q.same an).at_d,by rw[qa,tj];rfl,?_⟩
    ·rw[ta,v,tE];refine qh (tR (Nat.min_le_left _ _) (by omega))
    ·have v:(jf d j)[i]?=some (vY d j x):=by unfold jf;rw[tw,ex];rfl
     rw[tz,v,AH];exact O
  ·rintro p Y ⟨aI,C,rfl,q,r,ee⟩;have p:(jf d j).length=(jU d j).length:=ta ..;rw[ta,aa,<-p,tu (tf _)]at ee;have v:=ee.mono AI;have J:qi H Y:=λb u o=>q _ _ (U _ _ (s3 _ _ o)) (qj o nR);have ac:=q _ _ as ar;have eL:=xP gd ud ai;have rl:=vX eL ai;have q:0 < (jf d j).length:=by rw[p,lZ];exact Nat.mul_pos pos aC
   refine⟨_,rfl,λx O U aB aR=>?_⟩;have p:qi Y (upd (upd Y O (.own x)) x (.ins CG O [])):=λb u o=>by
    rw[qc (qj o U),qc (qj o aB)];exact o
   by_cases o:40 < jK (jf d j)
   ·have res:Wh d j=some (false,.int ((jK (jf d j):Nat):Int)):=by unfold Wh;rw[if_neg c1,if_pos o]
    exact .inr ⟨x,R,rfl,.inl ⟨R,C,jf d j,rfl,⟨p _ _ r,v.mono p,eL,q,by omega⟩,o,zaK rl (by decide),λH5 C O aS=>qX _ _ res H5 C z ((J.trans p).trans O) aS (.inr ⟨rfl,rfl⟩)⟩⟩
   ·have res:Wh d j=none:=by unfold Wh;rw[if_neg c1,if_neg o]
    have o:qf (jf d j):=eL.good (by show jK (jf d j)<=40;omega);refine .inl (Qj r v o q (by omega) U aB aR λ_ j p=>⟨_,rfl,JB,λt q=>?_⟩);have d:=qd (o:=HO.tup [V.ref x,.ref l]) q;exact qQ res _ x l t ((J.trans j).trans d) (p.mono d) o ap (d _ _ (j _ _ ac)) qa
open PySem L2 MLab Rb
open PyProof.Rows hiding K lo
abbrev JJ(rs:jG)(R:Rs Str):Prop:=All (QJ rs) (rs.map (·.1)) 0 [] R
def VU(g:qf rs)(a:JJ rs R):Zc (QJ rs) (·∈rs.map (·.1)) (qE R) (ZD R):=VT (Qb g.nd) a
def JV(rs:jG):∃R,JJ rs R:=All.ex _ 0 [] (tf _)
def Na{l:List Str}{f b:Str->Option Nat}(h:∀y∈l,f y=b y):l.filterMap f=l.filterMap b:=by
 induction l with
 | nil=>rfl
 | cons a l b=>rw[zad,zad,h a (tO ..),b λy d=>h y (tG _ d)]
def XE(g:qf rs)(g':qf us)(a:JJ rs R)(b:JJ us S)(sub:∀z∈rs.map (·.1),z∈us.map (·.1))(e:∀z∈rs.map (·.1),QJ us z=QJ rs z){z:Str}(hz:z∈rs.map (·.1)):qE S z=qE R z:=
 Rt (((VU g' b).sub sub λ{x y} d h=>Qb g.nd x d y (e x d▸h)).same λx d=>(e x d).symm) (VU g a) hz
def ya(g:qf rs)(g':qf us)(a:JJ rs R)(b:JJ us S)(sub:∀z∈rs.map (·.1),z∈us.map (·.1))(e:∀z∈rs.map (·.1),QJ us z=QJ rs z){z:Str}(hz:z∈rs.map (·.1)):wT us S z=wT rs R z:=by
 have h:=λ{y} d=>XE g g' a b sub e (z:=y) d;have n:YO us (qE S) z=YO rs (qE R) z:=by
  unfold YO;rw[e z hz];exact Na λy d=>h (Qb g.nd z hz y d)
 unfold wT;rw[h hz,n]
def xl(h:r∈rs):(r.1,jr rs r)∈QE rs:=tc.mpr ⟨r,h,rfl⟩
def Nb(g:qf rs)(hr:r∈rs):(rs.map (·.1)).filter (λz=>J2 (.str z) ((jr rs r).map V.str))=jr rs r:=by
 conv=>rhs;unfold jr
 exact zbA λz _=>by
  rw[zaq,Jt,Jt,Xy g hr]
def Nc{us:jG}{xs:List Str}(h:∀z∈us.map (·.1),z∉xs):(us.map (·.1)).filter (λz=>J2 (.str z) (xs.map V.str))=[]:=
 zdb.mpr λz a q=>h z a (Jt.mp q)
def Bz(h:y∈jr rs r):y∈rs.map (·.1):=let ⟨d,a,b⟩:=J6 h;tc.mpr ⟨d,a,b⟩
abbrev jn(rs us:jG):jG:=QE rs++QE us
def Qy(rs us:jG):(jn rs us).map (·.1)=rs.map (·.1)++us.map (·.1):=by rw[tj,Qh,Qh]
def xh{rs us:jG}(g:qf rs)(b:qf (jn rs us))(d:∀z∈us.map (·.1),z∉rs.map (·.1)):∀z∈rs.map (·.1),QJ (jn rs us) z=QJ rs z:=λz a=>by
 obtain⟨e,hr,rfl⟩:=tc.mp a;rw[Qf b.nd (tV _ (xl hr)),Qf g.nd hr];show ((jn rs us).map (·.1)).filter (λz=>J2 (.str z) ((jr rs e).map V.str))=_;rw[Qy,zay,Nb g hr,Nc λz a q=>d z a (Bz q),zak]
def xg{rs us:jG}(g:qf us)(b:qf (jn rs us))(d:∀z∈us.map (·.1),z∉rs.map (·.1)):∀z∈us.map (·.1),QJ (jn rs us) z=QJ us z:=λz a=>by
 obtain⟨e,hr,rfl⟩:=tc.mp a;rw[Qf b.nd (tU _ (xl hr)),Qf g.nd hr];show ((jn rs us).map (·.1)).filter (λz=>J2 (.str z) ((jr us e).map V.str))=_;rw[Qy,zay,Nb g hr,Nc λz a q=>d z (Bz q) a,List.nil_append]
def uy(g:qf rs)(b:qf (jn rs us))(d:∀z∈us.map (·.1),z∉rs.map (·.1))(a:JJ rs R)(c:JJ (jn rs us) T){z:Str}(hz:z∈rs.map (·.1)):wT (jn rs us) T z=wT rs R z:=
 ya g b a c (λz hz=>by rw[Qy];exact tV _ hz) (xh g b d) hz
def ux(g:qf us)(b:qf (jn rs us))(d:∀z∈us.map (·.1),z∉rs.map (·.1))(a:JJ us S)(c:JJ (jn rs us) T){z:Str}(hz:z∈us.map (·.1)):wT (jn rs us) T z=wT us S z:=
 ya g b a c (λz hz=>by rw[Qy];exact tU _ hz) (xg g b d) hz
def ZT:y∈zY rs us x↔y∈Wb rs x\/y∈BK us x:=by
 unfold zY;rw[tN,tZ,decide_eq_true_iff];constructor
 ·rintro(h | ⟨h,_⟩)
  ·exact .inl h
  ·exact .inr h
 ·rintro(h | h)
  ·exact .inl h
  ·by_cases c:y∈Wb rs x
   ·exact .inl c
   ·exact .inr ⟨h,c⟩
def Y6:y∈Wb rs x↔y.1∈QJ rs x.1/\y.2=x.2:=by
 unfold Wb;rw[tc];constructor
 ·rintro⟨e,d,rfl⟩;exact⟨d,rfl⟩
 ·rintro⟨a,b⟩;exact⟨_,a,by rw[<-b]⟩
def YZ:y∈BK us x↔y.1=x.1/\y.2∈QJ us x.2:=by
 unfold BK;rw[tc];constructor
 ·rintro⟨e,d,rfl⟩;exact⟨rfl,d⟩
 ·rintro⟨a,b⟩;exact⟨_,b,by rw[<-a]⟩
def zN(d:qf (jf rs us))(e:x∈jU rs us):y∈QJ (jf rs us) (lt (jU rs us) x)↔∃i∈zY rs us x,y=lt (jU rs us) i:=by
 have h:=V3 d (r:=vY rs us x) (tc.mpr ⟨x,e,rfl⟩) (y:=y);rw[show (vY rs us x).1=lt (jU rs us) x from rfl]at h;rw[h];show y∈(zY rs us x).map _↔_;rw[tc];exact⟨λ⟨a,b,c⟩=>⟨a,b,c.symm⟩,λ⟨a,b,c⟩=>⟨a,b,c.symm⟩⟩
def WN(a:x∈jU rs us):lt (jU rs us) x∈(jf rs us).map (·.1):=tc.mpr ⟨vY rs us x,tc.mpr ⟨x,a,rfl⟩,rfl⟩
def Rr(g:qf rs)(g':qf us)(b:qf (jf rs us))(c:JJ (jf rs us) T):Zc (zY rs us) (·∈jU rs us) (λx=>qE T (lt (jU rs us) x)) (λx=>ZD T (lt (jU rs us) x)):=
 (VU b c).pull (lt (jU rs us)) (λx a=>WN a) (λ{x y} a d=>Zg g g' a d) λ{x y} a=>zN b a
def Gb(g:qf rs)(g':qf us)(e:qf (jn rs us))(i:∀z∈us.map (·.1),z∉rs.map (·.1)):B7 (QJ (jn rs us)) (zY rs us) (·∈jU rs us) Prod.fst Prod.snd where
 cl:=λ{z w} d j=>Zg g g' d j
 to:=λ{z w} d j=>by
  obtain⟨l,m⟩:=j2.mp d;rcases ZT.mp j with h | h
  ·obtain⟨a,b⟩:=Y6.mp h;exact .inl ⟨by rw[xh g e i _ l];exact a,b⟩
  ·obtain⟨a,b⟩:=YZ.mp h;exact .inr ⟨a,by rw[xg g' e i _ m];exact b⟩
 b1:=λ{z u} d hu=>by
  rw[xh g e i _ (j2.mp d).1]at hu;exact⟨(u,z.2),ZT.mpr (.inl (Y6.mpr ⟨hu,rfl⟩)),rfl,rfl⟩
 b2:=λ{z u} d hu=>by
  rw[xg g' e i _ (j2.mp d).2]at hu;exact⟨(z.1,u),ZT.mpr (.inr (YZ.mpr ⟨rfl,hu⟩)),rfl,rfl⟩
def G8(g:qf rs)(g':qf us)(e:qf (jn rs us))(i:∀z∈us.map (·.1),z∉rs.map (·.1))(r:qf (jf rs us))(a:JJ rs R)(b:JJ us S)(c:JJ (jf rs us) T)(j:x∈jU rs us):qE T (lt (jU rs us) x)=some h↔∃n m,qE R x.1=some n/\qE S x.2=some m/\n^^^m=h:=by
 obtain⟨_,l⟩:=JV (jn rs us);have o:∀{z},z∈rs.map (·.1)->z∈(jn rs us).map (·.1):=λd=>by rw[Qy];exact tV _ d
 have p:∀{z},z∈us.map (·.1)->z∈(jn rs us).map (·.1):=λd=>by rw[Qy];exact tU _ d
 have q:=Gj (VU e l) (Rr g g' r c) (Gb g g' e i) (λz d=>⟨o (j2.mp d).1,p (j2.mp d).2⟩) j (h:=h);rw[XE g e a l (λz d=>o d) (xh g e i) (j2.mp j).1,XE g' e b l (λz d=>p d) (xg g' e i) (j2.mp j).2]at q;exact q
def AU(a:n<=8)(b:m<=8):n^^^m < 16:=zdu (n:=4) (by omega) (by omega)
def uv{n m:Nat}:n^^^ (m^^^n)=m:=by rw[zcy m n,<-zaG,zaV,zcx]
def NP(g:qf rs)(g':qf us)(d:qf (jn rs us))(i:∀z∈us.map (·.1),z∉rs.map (·.1))(r:qf (jf rs us))(a:JJ rs R)(b:JJ us S)(c:JJ (jf rs us) T)(l:x∈jU rs us):wT (jf rs us) T (lt (jU rs us) x)=Zu (wT rs R x.1) (wT us S x.2):=by
 obtain⟨u,v⟩:=j2.mp l;have np:=λ{y} (o:y∈jU rs us) {h}=>G8 g g' d i r a b c o (h:=h);have B:∀k,k∈YO (jf rs us) (qE T) (lt (jU rs us) x)↔(∃e∈QJ rs x.1,∃n m,qE R e=some n/\qE S x.2=some m/\n^^^m=k)\/∃e∈QJ us x.2,∃n m,qE R x.1=some n/\qE S e=some m/\n^^^m=k:=λk=>by
  rw[Qc];constructor
  ·rintro⟨y,o,e⟩;obtain⟨_,j,rfl⟩:=(zN r l).mp o;obtain⟨n,m,d,i,C⟩:=(np (Zg g g' l j)).mp e;rcases ZT.mp j with h | h
   ·obtain⟨p,q⟩:=Y6.mp h;exact .inl ⟨_,p,n,m,d,q▸i,C⟩
   ·obtain⟨p,q⟩:=YZ.mp h;exact .inr ⟨_,q,n,m,p▸d,i,C⟩
  ·rintro(⟨e,j,h⟩ | ⟨e,j,h⟩)
   ·have o:(e,x.2)∈zY rs us x:=ZT.mpr (.inl (Y6.mpr ⟨j,rfl⟩));exact⟨_,(zN r l).mpr ⟨_,o,rfl⟩,(np (Zg g g' l o)).mpr h⟩
   ·have o:(x.1,e)∈zY rs us x:=ZT.mpr (.inr (YZ.mpr ⟨rfl,j⟩));exact⟨_,(zN r l).mpr ⟨_,o,rfl⟩,(np (Zg g g' l o)).mpr h⟩
 have none:(∀n m,qE R x.1=some n->qE S x.2=some m->False)->qE T (lt (jU rs us) x)=none:=λno=>by
  cases e:qE T (lt (jU rs us) x) with
  | none=>rfl
  | some h=>
   obtain⟨n,m,d,i,_⟩:=(np l).mp e;exact(no n m d i).elim
 have r:∀{z n},z∈rs.map (·.1)->qE R z=some n->n<=8:=λo e=>zg g (VU g a) o e;have C:∀{z n},z∈us.map (·.1)->qE S z=some n->n<=8:=λo e=>zg g' (VU g' b) o e;cases d:qE R x.1 with
 | some n=>
  cases i:qE S x.2 with
  | some m=>rw[Jx d,Jx i,Jx ((np l).mpr ⟨n,m,d,i,rfl⟩)];rfl
  | none=>
   rw[Jx d,Jy i,Jy (none λ_ _ _ q=>by rw[i]at q;cases q)];show W.edl _=.edl _;congr 1;refine zbd λk=>?_;rw[testBit_setN,Qo (by have:=r u d;omega),testBit_setN,zaq,zan,decide_eq_true_iff,decide_eq_true_iff,decide_eq_true_iff,B,Qc];constructor
   ·rintro(⟨e,j,p,m,_,q,_⟩ | ⟨e,j,p,m,l,o,rfl⟩)
    ·rw[i]at q;cases q
    ·rw[d]at l;cases l;refine⟨AU (r u d) (C (Qb g'.nd _ v _ j) o),e,j,?_⟩;rw[zcy n m,zaG,zaV,zbj];exact o
   ·rintro⟨_,e,j,q⟩;exact .inr ⟨e,j,n,_,d,q,uv⟩
 | none=>
  cases i:qE S x.2 with
  | some m=>
   rw[Jy d,Jx i,Jy (none λ_ _ q=>by rw[d]at q;cases q)];show W.edl _=.edl _;congr 1;refine zbd λk=>?_;rw[testBit_setN,Qo (by have:=C v i;omega),testBit_setN,zaq,zan,decide_eq_true_iff,decide_eq_true_iff,decide_eq_true_iff,B,Qc];constructor
   ·rintro(⟨e,j,p,D,l,o,rfl⟩ | ⟨e,j,p,D,q,_⟩)
    ·rw[i]at o;cases o;refine⟨AU (r (Qb g.nd _ u _ j) l) (C v i),e,j,?_⟩;rw[zaG,zaV,zbj];exact l
    ·rw[d]at q;cases q
   ·rintro⟨_,e,j,q⟩;exact .inl ⟨e,j,_,m,q,i,by rw[zaG,zaV,zbj]⟩
  | none=>
   rw[Jy d,Jy i,Jy (none λ_ _ q=>by rw[d]at q;cases q)];show W.edl _=.edl 0;congr 1;refine zbd λk=>?_;rw[testBit_setN,Nat.zero_testBit,decide_eq_false_iff_not,B];rintro(⟨e,j,p,D,_,q,_⟩ | ⟨e,j,p,D,q,_⟩)
   ·rw[i]at q;cases q
   ·rw[d]at q;cases q
open PySem L2 MLab Rb
open PyProof.Rows hiding K lo
abbrev KA:Stmt:=top 54
abbrev vU:Stmt:=top 81
abbrev Xv:Stmt:=top 80
abbrev KH:Stmt:=top 82
abbrev KD:Stmt:=top 83
abbrev KG:Stmt:=top 84
inductive u4(CG CN CE:Addr)(vs:List V)(H:Hp)(Q:VK):Prop
 | mk (g:Addr) (rs:jG) (z:Str):vs=[.ref g,.str z]->jt CG H g rs->qf rs->(rs.length<=14)->(z∈rs.map (·.1))->(∀H' a R,qi H H'->All (QJ rs) (rs.map (·.1)) 0 [] R->JK CN CE H' a (wT rs R z)->Q (.ref a) H')->u4 CG CN CE vs H Q
def u5(a CN CE:Addr):Sp:=λb H Q _=>u4 a CN CE b H Q
inductive yq(CG:Addr)(vs:List V)(H:Hp)(Q:VK):Prop
 | mk (g h:Addr) (rs:jG) (hs:List Str):vs=[.ref g,.ref h]->jt CG H g rs->qf rs->(rs.length<=14)->zq H h rs hs->(∀H' R,qi H H'->JJ rs R->Q (.str (kb (JY (hs.map (wT rs R))))) H')->yq CG vs H Q
def Vp(a:Addr):Sp:=λb H Q _=>yq a b H Q
def uJ(CN CE:Addr)(b:TE):TE:=λd H Q=>b d H λx b=>∃a u,x=.ref a/\JK CN CE b a u/\∀d,b d=none->Q (.ref d) (upd b d (.tup [.str (Qg u),.int (ZB u:Nat)]))
def RE{X:Cx}{CN CE:Addr}{o:Expr}{a:TE}{b_ pos:Pos}{pl:Sem Bool}(d:JE X o a)(h:WF X.K X.mg)(hr:jd 1 X.A)(e:h.CN=CN:=by rfl)(i:h.CE=CE:=by rfl)
  (j:eval (.Call (.Attribute o "told" b_) [] [] pos) X.env=(eval o X.env >>= λb=>standAt b_.atName >>= λ_=>holding [b] (getMethod b "told" pl) >>= λr=>callWith pos r.1 r.2 (backTo pos (starEach [] X.env)) (backToKw pos (keywordEach [] X.env))):=by rfl):
  JE X (.Call (.Attribute o "told" b_) [] [] pos) (uJ CN CE a):=by
 subst e;subst i;exact xj h hr d j
def xI.get{H:Hp}{D:Addr}{o:Obj}{kvs:List (qF×V)}{F:Str->W}{zs:List Str}(h:xI H D o kvs F zs){z:Str}(hz:z∈zs):∃t,ju H D (.str z) (some (.ref t))/\H t=some (.tup (tW (F z))):=by
 obtain⟨t,a,b⟩:=h.2.2 z hz;refine⟨t,?_,b⟩;rw[<-a];exact .inl ⟨kvs,Sum.inr z,.inr ⟨o,h.1⟩,rfl,rfl⟩
inductive Kn(CG:Addr)(vs:List V)(H:Hp)(Q:VK):Prop
 | mk (g D:Addr) (rs:jG) (o:Obj) (kvs:List (qF×V)) (F:Str->W) (zs:List Str):vs=[.ref g,.ref D]->jt CG H g rs->qf rs->(rs.length<=14)->xI H D o kvs F zs->((∀z∈zs,z∈rs.map (·.1)))->((∀R,JJ rs R->∀z∈zs,F z=wT rs R z))->(∀H',qi H H'->Q (.bl true) H')->Kn CG vs H Q
def yw(a:Addr):Sp:=λb H Q _=>Kn a b H Q
def Ev:qm ["ground","name"] ["ground","name"] (qg KA):=Qm
def CV(F:jL K "worth_of" "worth_of" KA f b)(h:WF K mg)(B:QB mg)(Z:Wk K mg)(G:j7 mg)(T:Qn K mg)(M:GM K mg d)(Y:Ug K mg)(e:qW K mg "need_place" Yb DY j l)(i:qW K mg "label_worth" DW ["label"] m o):qp P w K mg base jh 9 f b ["ground","name"] (u5 d h.CN h.CE):=by
 obtain⟨_,_,j⟩:=Y.labels;have m:=pin P w mg base (XB e.fn G M);have o:=pin P w mg base (Yg j.fn B G T M Y);have p:=pin P w mg base (GD i.fn h B Z);refine F.okK Ev λH Q E hr h=>?_;obtain⟨g,b,z,rfl,l,good,r,d,q⟩:=h;refine⟨_,qb (q5 (qD e m (jQ (jv 0) (jv 1))))
  (qe (qr (qD i p (qT (qA (qD j o (qT (jv 0))) (jv 1)))))),?_⟩
 refine⟨_,rfl,_,rfl,g,b,z,rfl,l,tc.mp d,λ_ e=>?_⟩;refine⟨_,rfl,g,b,rfl,l.mono e,good,r,λi D R j _ l all=>?_⟩;have m:=e.trans j;have L:=VT (Qb good.nd) all;obtain⟨kvs,a,_,c⟩:=l.at_;obtain⟨e,j,l⟩:=tc.mp d;obtain⟨t,u,v⟩:=c e j;rw[l]at u v;have e:ju i D (.str z) (some (.ref t)):=by rw[<-u];exact ju.k (k:=(Sum.inr z:qF)) a
 exact⟨_,rfl,D,_,rfl,e,t,b,R,z,rfl,v,Yx good L d,λa b d e=>q b a R (m.trans d) all e⟩
def MV(F:jL K "outcome" "outcome" Xm f b)(h:WF K mg)(B:QB mg)(Z:Wk K mg)(G:j7 mg)(T:Qn K mg)(M:GM K mg d)(Y:Ug K mg)(O:kZ K mg):qp P w K mg base jh 10 f b ["ground","heap"] (Vp d):=by
 obtain⟨_,_,b⟩:=O.hw;have i:=pin P w mg base (E6 b.fn h B Z G T M Y O);refine F.okK Cu λH Q E hr z=>?_;obtain⟨g,j,l,m,rfl,o,good,le,d,q⟩:=z;refine⟨_,qe (qr (Aq h B (hr.mono (by decide)) (qD b i (jQ (jv 0) (jv 1))))),?_⟩;refine⟨_,rfl,_,rfl,g,j,l,m,rfl,o,good,le,d,λa _ R b all i=>⟨a,_,rfl,i,?_,λi j=>q i R (b.trans j) all⟩⟩;refine uF λu hu=>?_;obtain⟨z,b,rfl⟩:=tc.mp hu;obtain⟨i,j,e⟩:=d.in_ z b;exact Yx good (VT (Qb good.nd) all) (tc.mpr ⟨i,j,e⟩)
abbrev Wi:List Str:=["_law_ground","_law_worths_here"]
def EC:qm Wi Wi (qg vU):=Qm
def Fj:(["_law_name","_law_ground","_law_worths_here"]:List Str).Nodup:=by decide+kernel
def C4{P:Program}{w:World}{K:zdM}{mg:Str->Option Value}{base:Heap}{f b d:Addr}{e i:zdQ}(F:jL K "_law_has" "_law_has" vU f e)(h:WF K mg)(l:qW K mg "worth_of" KA ["ground","name"] b i)(m:qp P w K mg base jh 9 b i ["ground","name"] (u5 d h.CN h.CE)):qp P w K mg base jh 10 f e Wi (yw d):=by
 refine F.okK EC λH Q E hr z=>?_;obtain⟨g,D,b,e,kvs,_,j,rfl,p,good,le,wt,sub,eq,q⟩:=z;have i:jd 1 _:=hr.mono (by decide);refine⟨_,qe (qr (Qe (VM hr.units) (jw (N':=["_law_name","_law_ground","_law_worths_here"]) (ix:=[none,some 0,some 1]) (tt:=zx (Zr (EJ K) (uJ h.CN h.CE (Zs (u5 d h.CN h.CE) [] E0 (qB (qw 1) (qB (qw 0) jJ)))) (QQ (qw 2) (qw 0)))) (te:=qw 0) (VY (jv 1)) (λ_ d _ fp _=>
   ⟨ji (i:=0) Fj rfl (Or.inl rfl),jP (qo (CT hr.units) (RE (qD l m (jQ (jv 1) (jv 0))) h i) (qA (jv 2) (jv 0))),jv 0⟩)) (Ql jT))),?_⟩
 refine⟨_,rfl,D,e,kvs,j,rfl,wt.1,wt.2.1,λW i=>?_⟩;refine xC (λl e G=>∃v0,e=[v0,some (.ref g),some (.ref D)]/\qi H G/\G W=some (.lst [])) ⟨none,rfl,qd i,qa⟩ (λl e G _ ⟨_,_,i,_⟩=>i _ _ wt.1) ?_ ?_
 ·rintro l z e G r ⟨v0,rfl,i,m⟩;have o:z∈j:=tP r;refine⟨_,rfl,_,rfl,g,b,z,rfl,p.mono i,good,le,sub z o,λj a R p all l=>⟨a,_,rfl,l,λl r=>?_⟩⟩;have d:qi j (upd j l (.tup (tW (wT b R z)))):=qd r;have r:upd j l (.tup (tW (wT b R z))) l=some (.tup (tW (wT b R z))):=qa;rw[<-Xd];generalize upd j l (.tup (tW (wT b R z)))=G2 at d r;have b:=i.trans (p.trans d);obtain⟨t,l,j⟩:=(wt.mono b).get o;rw[eq R all z o]at j;refine⟨_,rfl,_,rfl,D,_,rfl,l,_,_,Ws r,Ws j,Wr _,Wr _,_,rfl,?_⟩;rw[uz,decide_eq_true rfl];exact jp ⟨_,rfl,b,(p.trans d) _ _ m⟩
 ·rintro e G ⟨v0,rfl,i,m⟩;refine⟨JB,λd e=>?_⟩;have b:qi G (upd G d (.lst [])):=qd e;exact⟨_,_,.lst (.of (b _ _ m)) .nil,.lst (.of qa) .nil,by decide+kernel,by decide+kernel,q _ (i.trans b)⟩
open PySem L2 MLab Rb
open PyProof.Rows hiding K lo
def N2(h:qO (src n s t) k=some v):∃i,v=.int i:=by
 obtain⟨_,a,e⟩:=zbJ.mp h;have:=zcI a;unfold src at this;simp only[tL,zbb,or_false]at this;rcases this with rfl | rfl | rfl<;>exact⟨_,e.symm⟩
def jt.src(h:jt CG H a rs)(pos:0 < rs.length)(hd:H d=some (.dK (src n s t)))(f:Fr H d H'):jt CG H' a rs:=by
 obtain⟨dx,lo,rd,kvs,e1,e2,e3,e4⟩:=h;refine⟨dx,lo,rd,kvs,f _ _ e1 (λz=>by rw[z,hd]at e1;cases e1),f _ _ e2 (λz=>by rw[z,hd]at e2;cases e2),f _ _ e3 (λz=>?_),λr hr=>let ⟨q,a1,a2⟩:=e4 r hr;⟨q,a1,f _ _ a2 (λz=>by rw[z,hd]at a2;cases a2)⟩⟩;rw[z,hd]at e3;have e5:=HO.dK.inj (tA.inj e3);obtain⟨r0,er⟩:∃r,rs[0]?=some r:=⟨_,tr pos⟩;obtain⟨q,a1,_⟩:=e4 r0 (tP er);rw[<-e5]at a1;obtain⟨i,e6⟩:=N2 a1;cases e6
def Vm{K:zdM}{H H':Hp}{a d:Addr}{xs:List V}{kvs:List (qF×V)}(h:Q6 K H a xs)(hd:H d=some (.dK kvs))(f:Fr H d H'):Q6 K H' a xs:=by
 rcases h with (h | ⟨b,h⟩) | h
 ·exact .inl (.inl (f _ _ h (λz=>by rw[z,hd]at h;cases h)))
 ·exact .inl (.inr ⟨b,f _ _ h (λz=>by rw[z,hd]at h;cases h)⟩)
 ·exact .inr h
def xI.fr{H H':Hp}{D d:Addr}{o:Obj}{kvs kv:List (qF×V)}{F:Str->W}{zs:List Str}(h:xI H D o kvs F zs)(hd:H d=some (.dK kv))(f:Fr H d H'):xI H' D o kvs F zs:=
 ⟨f _ _ h.1 (λz=>by have:=h.1;rw[z,hd]at this;cases this),h.2.1,λz e=>let ⟨t,a,b⟩:=h.2.2 z e;⟨t,a,f _ _ b (λz=>by rw[z,hd]at b;cases b)⟩⟩
def JN(g:qf rs)(l:rs.length<=4):jK rs<=16:=by
 unfold jK;have h:(rs.map λa=>a.2.length).sum<=(rs.map λa=>a.2.length).length*4:=uZ λx b=>by
  obtain⟨a,hr,rfl⟩:=tc.mp b;have:=Ro (g.rd a hr) (g.to a hr);rw[ta]at this;omega
 rw[ta]at h;omega
def wP(g:qf rs)(g':qf us)(l:rs.length<=4)(a:us.length<=4)(b:∀z∈us.map (·.1),z∉rs.map (·.1)):YP rs us=none:=by
 unfold YP;rw[zbN.mpr λz d=>by simpa using b z d];have:=JN g l;have:=JN g' a;show (if 14 < rs.length+us.length then _ else _)=none;rw[if_neg (by omega),if_neg (by omega)]
def Nt{K:zdM}{h D W:Addr}{o:Obj}{kvs:List (qF×V)}{F:Str->Rb.W}{zs a:List Str}{H:Hp}{Q:Hp->Prop}(l:H W=none)(wt:xI H D o kvs F zs)(d:H h=some (.lst (a.map V.str)))(sub:∀z∈a,z∈zs)(len:a.length<=8)
  (k:∀G us,qi H G->G W=some (.lst (us.map V.ref))->Tl G us (a.map F)->Q G):Z1 (AQ K h) (jF 0) xZ (QQ (qw 1) (qw 0)) W [none,some (.ref D)] H Q:=by
 refine jc (K:=K) (a:=h) (xs:=a.map V.str) (λm b G=>∃(v0:Option V) (us:List Addr),b=[v0,some (.ref D)]/\qi H G/\G W=some (.lst (us.map V.ref))/\Tl G us ((a.take m).map F))
   ⟨none,[],rfl,qd l,qa,rfl,λi _ u e=>(nomatch e)⟩ (λm b G _ ⟨_,_,_,s,_⟩=>.of (s _ _ d)) ?_ ?_
 ·rintro m y b G q ⟨v0,us,rfl,d,j,a⟩;obtain⟨z,p,r,rfl⟩:=jO q;have q:=(td.mp p).1;obtain⟨t,gt,q⟩:=(wt.mono d).get (sub z r);have r:=a.1;rw[ta,tE]at r;refine⟨_,rfl,_,rfl,D,_,rfl,gt,_,j,by rw[ta];exact qh (by omega),_,us++[t],rfl,qi.upd d l,by rw[tj];exact qa,?_⟩;rw[tz,p,tj];exact(a.snoc (u:=F z) q).tk (TK.upd j λ_=>by simp)
 ·rintro b G ⟨v0,us,rfl,d,j,a⟩;rw[ta,tu (tf _)]at a;exact k G us d j a
structure JF(H:Hp)(l m D:Addr)(ps qs:List Addr)(rs us:jG)(o:Obj)(kvs:List (qF×V))(F:Str->W):Prop where
 a:jC H l ps rs
 b:jC H m qs us
 dj:∀z∈us.map (·.1),z∉rs.map (·.1)
 la:rs.length<=4
 lb:us.length<=4
 wt:xI H D o kvs F (rs.map (·.1)++us.map (·.1))
 e1:∀R,JJ rs R->∀z∈rs.map (·.1),F z=wT rs R z
 e2:∀R,JJ us R->∀z∈us.map (·.1),F z=wT us R z
def JF.fr{H H':Hp}{l m D d:Addr}{ps a:List Addr}{rs us:jG}{o:Obj}{kvs kv:List (qF×V)}{F:Str->W}(h:JF H l m D ps a rs us o kvs F)(hd:H d=some (.dK kv))(f:Fr H d H'):JF H' l m D ps a rs us o kvs F:=⟨h.a.fr' hd f,h.b.fr' hd f,h.dj,h.la,h.lb,h.wt.fr hd f,h.e1,h.e2⟩
def JF.mono{H H':Hp}{l m D:Addr}{ps a:List Addr}{rs us:jG}{o:Obj}{kvs:List (qF×V)}{F:Str->W}(h:JF H l m D ps a rs us o kvs F)(s:qi H H'):JF H' l m D ps a rs us o kvs F:=⟨h.a.mono s,h.b.mono s,h.dj,h.la,h.lb,h.wt.mono s,h.e1,h.e2⟩
def JF.ok{H:Hp}{l m D:Addr}{ps b:List Addr}{rs us:jG}{o:Obj}{kvs:List (qF×V)}{F:Str->W}(h:JF H l m D ps b rs us o kvs F):∀z∈rs.map (·.1)++us.map (·.1),okW (F z):=λz b=>by
 rcases tN.mp b with b | b
 ·obtain⟨R,a⟩:=JV rs;rw[h.e1 R a z b];exact Yx h.a.good (VU h.a.good a) b
 ·obtain⟨R,a⟩:=JV us;rw[h.e2 R a z b];exact Yx h.b.good (VU h.b.good a) b
def JF.join{H:Hp}{l m D:Addr}{ps b:List Addr}{rs us:jG}{o:Obj}{kvs:List (qF×V)}{F:Str->W}(h:JF H l m D ps b rs us o kvs F)(d:qf (jn rs us)):∀T,JJ (jn rs us) T->∀z∈rs.map (·.1)++us.map (·.1),F z=wT (jn rs us) T z:=λT c z b=>by
 rcases tN.mp b with b | b
 ·obtain⟨R,a⟩:=JV rs;rw[h.e1 R a z b,uy h.a.good d h.dj a c b]
 ·obtain⟨R,a⟩:=JV us;rw[h.e2 R a z b,ux h.b.good d h.dj a c b]
inductive Km(vs:List V)(H:Hp)(Q:VK):Prop
 | mk (d l m D:Addr) (n s t:Int) (ps qs:List Addr) (rs us:jG) (o:Obj) (kvs:List (qF×V)) (F:Str->W):vs=[.ref d,.ref l,.ref m,.ref D]->H d=some (.dK (src n s t))->JF H l m D ps qs rs us o kvs F->(∀n' t' H',H' d=some (.dK (src n' s t'))->Fr H d H'->Q (.bl true) H')->Km vs H Q
def Bm:Sp:=λa H Q _=>Km a H Q
abbrev NF:List Str:=["_law_source_here","_law_rows_here","_law_more","_law_worths_here"]
abbrev nJo:List Str:=["_law_source_here","_law_rows_here","_law_more","_law_worths_here","_law_both","_law_names_here","_law_turn","_law_one","_law_other","_law_heap_here"]
def HR:qm nJo NF (qg KH):=Qm
def C3{P:Program}{w:World}{K:zdM}{mg:Str->Option Value}{base:Heap}{f a h j fT l r J L O p CW CM:Addr}{T U Y ai az aj ak al am an:zdQ}(F:jL K "_law_joined_right" "_law_joined_right" KH f T)(B:QB mg)(G:j7 mg)(C:NM K mg p a U)(GI:qp P w K mg base jh 6 a U ["self","rows"] (JM p))
  (hJ:qW K mg "joined" UV yY h Y) (GJ:qp P w K mg base (J4 P w) 8 h Y yY (Er p CW CM)) (aA:qW K mg "_law_has" vU Wi j ai) (aB:qp P w K mg base jh 10 j ai Wi (yw p)) (o:qW K mg "_law_take" Z5 ["_law_source_here","_law_many"] fT az)
  (aC:qW K mg "alike" Ye ["ground","one","other"] l aj) (aD:qp P w K mg base jh 10 l aj ["ground","one","other"] (Vt p)) (hH:qW K mg "_law_heap" Yc Rg r ak) (GH:qp P w K mg base jh 2 r ak Rg Vq)
  (aE:qW K mg "outcome" Xm ["ground","heap"] J al) (aF:qp P w K mg base jh 10 J al ["ground","heap"] (Vp p)) (aG:qW K mg "_law_outcome" DX ["_law_worth"] L am) (aH:qp P w K mg base jh 1 L am ["_law_worth"] Cn) (aI:qW K mg "_law_total" z8 ["_law_worths_here"] O an) (aJ:qp P w K mg base jh 1 O an ["_law_worths_here"] u8):
  qp P w K mg base jh 11 f T NF Bm:=by
 have GT:=pin P w mg base (ZS o.fn);refine F.okK HR λH Q E hr z=>?_;obtain⟨d,T,m,D,n,l,t,J,L,h,j,ab,kvs,Fw,rfl,hd,a,q⟩:=z;have hu:=hu_of hr;have r2:jd 2 _:=hr.mono (by decide);have r:jd 7 _:=hr.mono (by decide);refine⟨_,qb (qG 4 (xk hJ GJ EV (jQ (Qd C.mkr GI r (by rfl) C.ns C.bi .nil Qi (qT (qV j6 (by rfl) G.lst boot_list (qT (jv 1))))) (Qd C.mkr GI r (by rfl) C.ns C.bi .nil Qi (qT (qV j6 (by rfl) G.lst boot_list (qT (jv 2))))))))
  (qb (qJ (Qk (jH (qD aA aB (jQ (jv 4) (jv 3))))) qC qt)
  (qb (qG 5 (qV (X1 rfl) (by rfl) G.lst boot_list (qT (jv 3))))
  (qb (qP (jq (by rfl) B.rng (qT qk)) (qz 6)
   (qb (qG 7 (qU Qr (jv 5) (qD o GT (jQ (jv 0) (qu qx (by rfl) B.len boot_len (qT (jv 5)))))))
   (qb (qG 8 (qU Qr (jv 5) (qD o GT (jQ (jv 0) (qu qx (by rfl) B.len boot_len (qT (jv 5)))))))
   (qb (qJ (qo WP (qD aC aD (kA (jv 4) (jv 7) (jv 8))) (Qe (VM hr.units) (qA (jv 3) (jv 7)) (qA (jv 3) (jv 8)))) qC qt)
   (qb (qG 9 (qM YY (qD hH GH (kA (jv 0) (jv 1) qk)) (qD hH GH (kA (jv 0) (jv 2) qk))))
   (qe (qJ (qo WP (qD aE aF (jQ (jv 4) (jv 9))) (qD aG aH (qT (qD aI aJ (qT (jw (N':=["_law_name","_law_worths_here"]) (ix:=[none,some 3]) (qy (jv 9)) (λC U H2 fp _=>
     ⟨qz 0,qS,qA (jv 1) (jv 0)⟩))))))) qC qt)))))))
  (qe (qr Qz))))),?_⟩
 have o:0 < (h.map (·.1)++j.map (·.1)).length:=by have:=a.a.pos;rw[tv,ta];omega
 have o:(h.map (·.1)++j.map (·.1)).length<=8:=by have:=a.la;have:=a.lb;rw[tv,ta,ta];omega
 have ac:(jn h j).length<=14:=by have:=a.la;have:=a.lb;rw[tv];unfold QE;rw[ta,ta];omega
 have aK:0 < (jn h j).length:=by have:=a.a.pos;rw[tv];unfold QE;rw[ta];omega
 refine⟨_,rfl,T,_,rfl,.inl (.of a.a.at_),λo aL x _ O Y aM=>?_⟩;have r:qi H (upd H o (.lst (J.map V.ref))):=qd aL;have hA:upd H o (.lst (J.map V.ref)) o=some (.lst (J.map V.ref)):=qa;generalize upd H o (.lst (J.map V.ref))=HA at r hA O Y;refine Qj hA (a.a.rows.mono r) a.a.good a.a.pos a.a.le O Y aM λo O aN=>?_;have Y:=r.trans O;have ao:=a.mono Y;refine⟨_,rfl,m,_,rfl,.inl (.of ao.b.at_),λr aO x2 _ ap aq aP=>?_⟩;have O:qi o (upd o r (.lst (L.map V.ref))):=qd aO;have hB:upd o r (.lst (L.map V.ref)) r=some (.lst (L.map V.ref)):=qa;generalize upd o r (.lst (L.map V.ref))=HB at O hB ap aq;refine Qj hB (ao.b.rows.mono O) a.b.good a.b.pos a.b.le ap aq aP λH2 U r=>?_;have o:=O.trans U;refine⟨x,x2,h,j,rfl,aN.mono o,r,a.a.good,a.b.good,a.a.pos,a.a.le,a.b.le,λb v e=>?_,λ_ _ y O gj r=>?_⟩
 ·rw[wP a.a.good a.b.good a.la a.lb a.dj]at e;cases e
 have ae:=Y.trans (o.trans O);have af:=a.mono ae;have aQ:=ae _ _ hd;refine⟨_,rfl,_,rfl,y,D,jn h j,ab,kvs,Fw,_,rfl,gj,r,ac,af.wt,λz o=>by rw[Qy];exact o,a.join r,λO s4=>⟨_,rfl,jp ?_⟩⟩;have U:=af.mono s4;refine⟨_,rfl,D,kvs,_,rfl,.inr ⟨ab,U.wt.1⟩,U.wt.2.1,λN U=>?_⟩;have s5:qi O (upd O N (.lst ((h.map (·.1)++j.map (·.1)).map V.str))):=qd U;have U:upd O N (.lst ((h.map (·.1)++j.map (·.1)).map V.str)) N=some (.lst ((h.map (·.1)++j.map (·.1)).map V.str)):=qa;generalize upd O N (.lst ((h.map (·.1)++j.map (·.1)).map V.str))=O at s5 U;have Y:=s4.trans s5;have aR:=af.mono Y;have aa:=Y _ _ aQ;have aS:=gj.mono Y;have F5:Fr H d O:=λb u hb _=>(ae.trans Y) _ _ hb;have keep:∀{G:Hp},Fr O d G->JF G T m D J L h j ab kvs Fw/\jt p G y (jn h j)/\G N=some (.lst ((h.map (·.1)++j.map (·.1)).map V.str)):=λfr=>⟨aR.fr aa fr,aS.src aK aa fr,fr _ _ U λz=>by rw[z,aa]at U;cases U⟩;refine⟨4,rfl,by decide,by decide,?_⟩;refine Q0 (λi Y G=>∃(v6 v7 v8 v9:Option V) (p U:Int),Y=[some (.ref d),some (.ref T),some (.ref m),some (.ref D),some (.ref y),some (.ref N),v6,v7,v8,v9]/\Fr O d G/\G d=some (.dK (src p l U))) ⟨_,_,_,_,n,t,rfl,Fr.refl,aa⟩ ?_ ?_
 ·rintro i Y G _ ⟨v6,v7,v8,v9,n1,t1,rfl,U,ag⟩;obtain⟨_,_,p⟩:=keep U;refine⟨_,rfl,_,rfl,_,rfl,N,_,rfl,.inl (.of p),d,_,n1,l,t1,rfl,ag,by rw[ta];omega,by rw[ta];omega,λaT n2 p r0 aU=>?_⟩;have f1:Fr O d (upd G d (.dK (src n2 l p))):=U.at_d;have ar:upd G d (.dK (src n2 l p)) d=some (.dK (src n2 l p)):=qa;generalize upd G d (.dK (src n2 l p))=G1 at f1 ar;obtain⟨_,a1,x1⟩:=atI_get r0 aU;obtain⟨z1,_,m1,rfl⟩:=jO x1;obtain⟨_,_,as⟩:=keep f1;refine⟨N,_,aT,_,rfl,rfl,.of as,a1,?_⟩;refine⟨_,rfl,_,rfl,_,rfl,N,_,rfl,.inl (.of as),d,_,n2,l,p,rfl,ar,by rw[ta];omega,by rw[ta];omega,λr2 n3 p aV aW=>?_⟩;have f2:Fr O d (upd G1 d (.dK (src n3 l p))):=f1.at_d;have au:upd G1 d (.dK (src n3 l p)) d=some (.dK (src n3 l p)):=qa;generalize upd G1 d (.dK (src n3 l p))=G2 at f2 au;obtain⟨_,a2,aX⟩:=atI_get aV aW;obtain⟨z2,_,O,rfl⟩:=jO aX;obtain⟨_,aY,aZ⟩:=keep f2;refine⟨N,_,r2,_,rfl,rfl,.of aZ,a2,?_⟩;refine⟨_,rfl,_,rfl,_,rfl,y,jn h j,z1,z2,rfl,aY,r,ac,by rw[Qy];exact m1,by rw[Qy];exact O,λ_ av aw all=>?_⟩;have f3:=f2.same aw;have a0:=aw _ _ au;obtain⟨ah,_,_⟩:=keep f3;obtain⟨_,g1,k1⟩:=ah.wt.get m1;obtain⟨_,g2,k2⟩:=ah.wt.get O;refine⟨_,rfl,_,rfl,D,_,rfl,g1,_,rfl,_,rfl,D,_,rfl,g2,_,_,Ws k1,Ws k2,Wr _,Wr _,rfl,_,rfl,?_⟩;rw[uz,a.join r av all z1 m1,a.join r av all z2 O,decide_eq_true rfl];refine jp ?_;refine⟨_,rfl,_,rfl,d,T,3,n3,l,p,J,h,rfl,a0,ah.a,by decide,λT p n4 t4 _ _ J _ a3 O a4=>?_⟩;have f4:=f3.trans a4;obtain⟨a5,_,_⟩:=keep f4;refine⟨_,rfl,_,rfl,d,m,3,n4,l,t4,L,j,rfl,O,a5.b,by decide,λh2 l n5 t5 L _ a6 _ a7 a8 ax=>?_⟩;have a9:=ax _ _ J λz=>by rw[z,O]at J;cases J
  refine⟨T,h2,_,_,rfl,rfl,.of a9,.of a6,zac (qh (by rw[ta,ta];omega)),λJ T=>?_⟩;rw[<-tj];have O:qi L (upd L J (.lst ((p++l).map V.str))):=qd T;have T:upd L J (.lst ((p++l).map V.str)) J=some (.lst ((p++l).map V.str)):=qa;generalize upd L J (.lst ((p++l).map V.str))=G6 at O T;have f6:=(f4.trans ax).same O;have a':=O _ _ a8;obtain⟨bb,O,_⟩:=keep f6;have L:(p++l).length<=8:=by rw[tv];omega
  have sub:∀z∈p++l,z∈h.map (·.1)++j.map (·.1):=λz o=>by
   rcases tN.mp o with o | o
   ·exact tV _ (tc.mpr (a3 z o))
   ·exact tU _ (tc.mpr (a7 z o))
  refine⟨_,rfl,_,rfl,y,J,jn h j,p++l,rfl,O,r,ac,⟨T,L,λz o=>?_⟩,λ_ T7 O bc=>?_⟩
  ·have:=sub z o;rw[<-Qy]at this;exact tc.mp this
  have ay:=O _ _ T;have T:=bb.mono O;refine⟨_,rfl,J,rfl,⟨_,.of ay⟩,λW J=>Nt J T.wt ay sub L λ_ J T bd tl=>⟨W,J,_,rfl,bd,tl,λu hu=>?_,by rw[ta];exact L,λ_ J L be=>⟨J,_,rfl,be,λ_ J=>⟨rfl,_,rfl,?_⟩⟩⟩⟩
  ·obtain⟨z,o,rfl⟩:=tc.mp hu;exact a.ok z (sub z o)
  rw[show (p++l).map Fw=(p++l).map (wT (jn h j) T7) from zap λz o=>a.join r T7 bc z (sub z o),decide_eq_true rfl];have a:=O.trans (T.trans (L.trans J));exact jp ⟨_,_,_,_,n5,t5,rfl,f6.same a,a _ _ a'⟩
 ·rintro Y G ⟨v6,v7,v8,v9,n1,t1,rfl,U,ag⟩;exact q n1 t1 G ag (F5.trans U)
open PySem L2 MLab Rb
open PyProof.Rows hiding K lo
def ZY{x:V}{xs:List V}:Ve (x::xs) 0=some x:=by
 obtain⟨v,a,b⟩:=atI_get (xs:=x::xs) (r:=0) (by omega) (by rw[zab];omega);rw[a];exact b.symm
def PK(H:Hp)(F:Str->W)(ok:Str->Prop)(kvs:List (qF×V)):Prop:=∀a∈kvs,∃z t,a=((Sum.inr z:qF),V.ref t)/\H t=some (.tup (tW (F z)))/\ok z
def PK.tk{H H':Hp}{F:Str->W}{ok:Str->Prop}{kvs:List (qF×V)}(h:PK H F ok kvs)(k:TK H H'):PK H' F ok kvs:=λd e=>let ⟨z,t,a,b,c⟩:=h d e;⟨z,t,a,k _ _ b,c⟩
def PK.put{H:Hp}{F:Str->W}{ok:Str->Prop}{kvs:List (qF×V)}(h:PK H F ok kvs){p:qF×V}(hp:PK H F ok [p]):PK H F ok (jD kvs p.1 p.2):=by
 obtain⟨z,t,rfl,b,d⟩:=hp p (tO ..);intro x a;unfold jD at a;split at a
 ·obtain⟨y,i,rfl⟩:=tc.mp a;split
  ·rename_i e;exact⟨z,t,by rw[e],b,d⟩
  ·exact h y i
 ·rcases tN.mp a with a | a
  ·exact h x a
  ·rw[tK.mp a];exact⟨z,t,rfl,b,d⟩
def PK.merge:∀(more kvs:List (qF×V)),PK H F ok kvs->PK H F ok more->PK H F ok (jN kvs more)
 | [],kvs,h,_=>h
 | b::more,kvs,h,k=>PK.merge more (jD kvs b.1 b.2) (h.put λx a=>k x (by rw[tK.mp a];exact tO ..)) λx a=>k x (tG _ a)
def PK.wt{H:Hp}{F:Str->W}{ok:Str->Prop}{kvs:List (qF×V)}{D:Addr}{o:Obj}(h:PK H F ok kvs)(j:H D=some (.frz o (.dK kvs))):∃zs,xI H D o kvs F zs/\∀z∈zs,ok z:=by
 have ed:∀b∈kvs,∃z:Str,b.1=(Sum.inr z:qF):=λb d=>let ⟨z,t,e,_⟩:=h b d;⟨z,by rw[e]⟩;obtain⟨zs,l⟩:∃zs:List Str,kvs.map (·.1)=zs.map (Sum.inr:Str->qF):=by
  clear h j;induction kvs with
  | nil=>exact⟨[],rfl⟩
  | cons a m i=>
   obtain⟨zs,e⟩:=i λb d=>ed b (tG _ d);obtain⟨z,i⟩:=ed a (tO ..);exact⟨z::zs,by rw[tM,tM,e,i]⟩
 have p:∀z∈zs,∃b∈kvs,b.1=(Sum.inr z:qF):=λz i=>by
  have:(Sum.inr z:qF)∈kvs.map (·.1):=by rw[l];exact tc.mpr ⟨z,i,rfl⟩
  exact tc.mp this
 refine⟨zs,⟨j,l,λz i=>?_⟩,λz i=>?_⟩
 ·obtain⟨b,d,j⟩:=p z i;cases e:kvs.find? (λl=>decide (l.1=(Sum.inr z:qF))) with
  | none=>
   have:=zbN.mp e b d;rw[j]at this;simp at this
  | some m=>
   obtain⟨l,t,rfl,q,_⟩:=h m (zcI e);have r:=List.find?_some e;have m:l=z:=Sum.inr.inj (of_decide_eq_true r);subst m;exact⟨t,by unfold qO;rw[e];rfl,q⟩
 ·obtain⟨b,d,j⟩:=p z i;obtain⟨l,t,rfl,_,c⟩:=h b d;have m:l=z:=Sum.inr.inj j;rw[<-m];exact c
def Kw(X:Hp)(F:Str->W)(ok:Str->Prop)(e:List Addr)(b:List (qF×V)):Prop:=e.length=b.length/\(∀(i:Nat) (a:Addr) (d:qF×V),e[i]?=some a->b[i]?=some d->X a=some (.tup [kV d.1,d.2]))/\PK X F ok b
def Kw.tk(h:Kw X F ok b d)(k:TK X e):Kw e F ok b d:=⟨h.1,λi a b d e=>k _ _ (h.2.1 i a b d e),h.2.2.tk k⟩
def Kw.snoc(h:Kw X F ok l d)(o:X a=some (.tup [.str z,.ref t]))(p:X t=some (.tup (tW (F z))))(hz:ok z):Kw X F ok (l++[a]) (d++[((Sum.inr z:qF),V.ref t)]):=by
 refine⟨by rw[tv,tv,h.1];rfl,λi b q d j=>?_,λr e=>?_⟩
 ·by_cases m:i < l.length
  ·rw[t9 m]at d;rw[t9 (by rw[<-h.1];exact m)]at j;exact h.2.1 i b q d j
  ·have m:i=l.length:=by
    have:=(td.mp d).1;rw[tv,zar]at this;omega
   subst m;rw[tY (tf _),zbO]at d;rw[h.1,tY (tf _),zbO]at j;obtain rfl:=(tA.inj d).symm;obtain rfl:=(tA.inj j).symm;exact o
 ·rcases tN.mp e with e | e
  ·exact h.2.2 r e
  ·rw[tK.mp e];exact⟨z,t,rfl,p,hz⟩
def valV_map{g:Str->V}:∀{zs:List Str},z∈zs->qO (zs.map λz=>((Sum.inr z:qF),g z)) (Sum.inr z:qF)=some (g z)
 | a::zs,h=>by
  unfold qO;rw[tM,zaR];by_cases c:a=z
  ·subst c;rw[decide_eq_true rfl];rfl
  ·rw[decide_eq_false (λe=>c (Sum.inr.inj e))];exact valV_map ((tL.mp h).resolve_left λe=>c e.symm)
def Nq(v:V)(xs:List V):XY (v::xs) (some 1) none=xs:=by
 unfold XY HT.sIx;simp
abbrev Yf(rs:jG)(R:Rs Str)(z:Str):Str:=look (QU (wT rs R) (rs.map (·.1))) (wT rs R z)
def DL{K:zdM}{h D W:Addr}{zs a:List Str}{g:Str->Str}{H:Hp}{Q:Hp->Prop}(b:H W=none)(i:H D=some (.dK (zs.map λz=>((Sum.inr z:qF),V.str (g z)))))(d:H h=some (.lst (a.map V.str)))(sub:∀z∈a,z∈zs)(len:a.length<=8)
  (k:∀G,qi H G->G W=some (.lst ((a.map g).map V.str))->Q G):Z1 (AQ K h) (jF 0) xZ (QQ (qw 1) (qw 0)) W [none,some (.ref D)] H Q:=by
 refine Yt (K:=K) (a:=h) (xs:=a) (enc:=V.str) (out:=λz=>some (V.str (g z))) (rest:=[some (.ref D)]) b d (qh (by omega)) (λz d X e j b=>b X (qi.refl X)) (λz d v l X e j b=>?_) (λj m o=>k j m ?_)
 ·cases l;refine⟨_,rfl,_,rfl,D,_,rfl,?_,b X (qi.refl X)⟩;rw[<-valV_map (g:=λz=>V.str (g z)) (sub z d)];exact ju.k (k:=(Sum.inr z:qF)) (e _ _ i)
 ·rw[o];congr 2;rw[zam];exact congrFun (zdi (f:=V.str ∘ g)) a
inductive Kh(vs:List V)(H:Hp)(Q:VK):Prop
 | mk (d l m D:Addr) (n s t:Int) (ps qs:List Addr) (rs us:jG) (o:Obj) (kvs:List (qF×V)) (F:Str->W):vs=[.ref d,.ref l,.ref D]->H d=some (.dK (src n s t))->JF H l m D ps qs rs us o kvs F->(∀n' t' H',H' d=some (.dK (src n' s t'))->Fr H d H'->Q (.bl true) H')->Kh vs H Q
def Bg:Sp:=λa H Q _=>Kh a H Q
abbrev EW:List Str:=["_law_source_here","_law_rows_here","_law_worths_here"]
abbrev nLe:List Str:=["_law_source_here","_law_rows_here","_law_worths_here","_law_ground","_law_least","_law_places","_law_turn","_law_heap_here","_law_due","_law_name","_law_others"]
def HK:qm nLe EW (qg KG):=Qm
def BQ:(["_law_name","_law_others","_law_places","_law_worths_here"]:List Str).Nodup:=by decide+kernel
def Fh:(["_law_name","_law_places"]:List Str).Nodup:=by decide+kernel
def C1(F:jL K "_law_least_right" "_law_least_right" KG f j)(B:QB mg)(G:j7 mg)(r:mg "dict"=none)(C:NM K mg U p v)(T:qp P w K mg base jh 6 p v ["self","rows"] (JM U))(aU:qW K mg "least_ground" EF ["ground"] J L)(aV:qp P w K mg base jh 10 J L ["ground"] (Ep U))(aW:qW K mg "_law_has" vU Wi O aX)(aY:qp P w K mg base jh 10 O aX Wi (yw U))(aZ:qW K mg "alike" Ye ["ground","one","other"] a0 a1)(a2:qp P w K mg base jh 10 a0 a1 ["ground","one","other"] (Vt U))(hH:qW K mg "_law_heap" Yc Rg fH a3)(GH:qp P w K mg base jh 2 fH a3 Rg Vq)(l:qW K mg "outcome" Xm ["ground","heap"] a4 a5)(o:qp P w K mg base jh 10 a4 a5 ["ground","heap"] (Vp U)):
  qp P w K mg base jh 11 f j EW Bg:=by
 refine F.okK HK λH Q E hr z=>?_;obtain⟨d,L,m,D,n,sd,t,O,qs,j,us,a6,kvs,J,rfl,hd,p,q⟩:=z;have hu:=hu_of hr;have v:jd 7 _:=hr.mono (by decide);refine⟨_,qb (qG 3 (Qd C.mkr T v (by rfl) C.ns C.bi .nil Qi (qT (qV j6 (by rfl) G.lst boot_list (qT (jv 1))))))
  (qb (Dq (qD aU aV (qT (jv 3))) (QH rfl (qH (qz 4) (qH (qz 5) j3))))
  (qb (qJ (Qk (jH (qD aW aY (jQ (jv 4) (kz (qV (X4 rfl) (by rfl) r boot_dict (qT (jw (N':=["_law_name","_law_others","_law_places","_law_worths_here"]) (ix:=[none,none,some 5,some 2]) (g:=kH K 2 (Za (jF 0) (Za (jF 1) kI))) (te:=z7 (qB (QQ (qw 2) (qw 0)) (qB (QQ (qw 3) (qw 0)) jJ))) (qy (jv 1)) (λC s2 T fp r=>
    ⟨QH rfl (qH (ji (i:=0) BQ rfl (Or.inl rfl)) (qH (ji (i:=1) BQ rfl (Or.inl rfl)) j3)),qS,jm (jQ (qA (jv 2) (jv 0)) (qA (jv 3) (jv 0)))⟩))))))))) qC qt)
  (qb (qP (jq (by rfl) B.rng (qT qk)) (qz 6)
   (qb (qG 7 (qD hH GH (kA (jv 0) (jv 1) qk)))
   (qb (qG 8 (qD l o (jQ (jv 3) (jv 7))))
   (qb (qJ (qo WP (qD l o (jQ (jv 4) (jw (N':=["_law_name","_law_places"]) (ix:=[none,some 5]) (qy (jv 7)) (λC s2 T fp r=>
     ⟨ji (i:=0) Fh rfl (Or.inl rfl),qS,qA (jv 1) (jv 0)⟩)))) (jv 8)) qC qt)
   (qe (qP (qy (jv 1)) (QH rfl (qH (qz 9) (qH (qz 10) j3)))
    (qe (qJ (JW.pt (QG (qo (VL (zcl hu)) (jv 7) (Ql jT)) (QG (jH (qD aZ a2 (kA (jv 3) (qU Qr (jv 7) qk) (jv 9)))) (Qq (qo WP (qD l o (jQ (jv 3) (qM YY (Ql (qT (jv 9))) (ZK Vv (jv 7) (zH qk) zI)))) (jv 8)))))) qC qt))))))))
  (qe (qr Qz))))),?_⟩
 have good:=p.a.good;have pos:=p.a.pos;have ae:=p.a.le;have a7:∀{z:Str},z∈j.map (·.1)->z∈j.map (·.1)++us.map (·.1):=λh=>tV _ h;refine⟨_,rfl,L,_,rfl,.inl (.of p.a.at_),λl a8 x _ r v a9=>?_⟩;have o:qi H (upd H l (.lst (O.map V.ref))):=qd a8;have hA:upd H l (.lst (O.map V.ref)) l=some (.lst (O.map V.ref)):=qa;generalize upd H l (.lst (O.map V.ref))=HA at o hA r v;refine Qj hA (p.a.rows.mono o) good pos ae r v a9 λ_ r gr=>?_;have l:=o.trans r;refine⟨_,rfl,x,j,rfl,gr,good,pos,ae,λT aj y Pd R s2 DZ a' gl _ av all=>?_⟩;have ak:=l.trans s2;have af:=p.mono ak;have bb:=ak _ _ hd;have bc:Pd≠d:=λe=>by rw[e,l _ _ hd]at DZ;cases DZ
 have o:=R5 (wT j R) (j.map (·.1));have v:=AV good all;have al:=XT o v (W1 good all o);have r:=λ{z:Str} (l:z∈j.map (·.1))=>o.look (o.all z l);have am:∀{z},z∈j.map (·.1)->Yf j R z∈(Z8 (QU (wT j R) (j.map (·.1)))).map (·.1):=λl=>by rw[QO];exact tc.mpr ⟨_,(r l).1,rfl⟩
 have aw:∀{z aa},z∈j.map (·.1)->JJ (Z8 (QU (wT j R) (j.map (·.1)))) aa->wT (Z8 (QU (wT j R) (j.map (·.1)))) aa (Yf j R z)=J z:=λ{z aa} l aT=>by
  rw[p.e1 R all z l];exact uw o v al aT (r l).1
 have ax:∀{z},z∈j.map (·.1)->J (Yf j R z)=J z:=λ{z} l=>by
  rw[p.e1 R all _ (r l).2.1,p.e1 R all z l];exact(r l).2.2
 have ay:(Z8 (QU (wT j R) (j.map (·.1)))).length<=14:=by
  have:=o.len;rw[ta]at this;rw[zC];omega
 have bd:0 < (Z8 (QU (wT j R) (j.map (·.1)))).length:=by
  obtain⟨o,er⟩:∃aj,j[0]?=some aj:=⟨_,tr pos⟩;have:=am (tc.mpr ⟨o,tP er,rfl⟩);obtain⟨v,hp,_⟩:=tc.mp this;exact zaW hp
 refine⟨aj,_,rfl,.of a',rfl,_,_,rfl,_,_,rfl,rfl,?_⟩;refine⟨_,rfl,_,rfl,L,rfl,⟨_,.of af.a.at_⟩,λW hW=>?_⟩;refine jc (K:=K) (a:=L) (xs:=O.map V.ref) (λab ag X=>∃(v0 v1:Option V) (ws:List Addr) (r:List (qF×V)),ag=[v0,v1,some (.ref Pd),some (.ref D)]/\qi T X/\X W=some (.lst (ws.map V.ref))/\ws.length=ab/\Kw X J (λz=>∃z'∈j.map (·.1),z=Yf j R z') ws r)
  ⟨none,none,[],[],rfl,qd hW,qa,rfl,rfl,λi a kv e=>(nomatch e),λv h=>(nomatch h)⟩ (λab ag X _ ⟨_,_,_,_,_,T,_⟩=>.of (T _ _ af.a.at_)) ?_ ?_
 ·rintro ab y' ag X hy ⟨v0,v1,ws,r,rfl,T,an,lw,kw⟩;obtain⟨p',q',o,rfl,er,ah,ea,eb⟩:=(af.a.rows.mono T).item hy;have l:o.1∈j.map (·.1):=tc.mpr ⟨o,ah,rfl⟩;have hj:=(td.mp er).1;obtain⟨t',gt,ht⟩:=(af.wt.mono T).get (a7 l);have gp:ju X Pd (.str o.1) (some (.str (Yf j R o.1))):=by
   rw[<-valV_map (g:=λz=>V.str (Yf j R z)) l];exact ju.k (k:=(Sum.inr o.1:qF)) (T _ _ av)
  refine⟨p',_,rfl,.of ea,rfl,_,_,rfl,_,_,rfl,rfl,_,rfl,_,rfl,Pd,_,rfl,gp,_,rfl,_,rfl,D,_,rfl,gt,JB,λv hp=>?_⟩;have s6:qi X (upd X v (.tup [.str (Yf j R o.1),.ref t'])):=qd hp;have az:upd X v (.tup [.str (Yf j R o.1),.ref t']) v=some (.tup [.str (Yf j R o.1),.ref t']):=qa;generalize upd X v (.tup [.str (Yf j R o.1),.ref t'])=X6 at s6 az;have aA:=s6 _ _ an;refine⟨_,aA,by rw[ta];exact qh (by omega),_,_,ws++[v],r++[((Sum.inr (Yf j R o.1):qF),V.ref t')],rfl,qi.upd (T.trans s6) hW,by rw[tj];exact qa,by rw[tv,lw];rfl,?_⟩;exact((kw.tk (TK.of s6)).snoc az (by rw[ax l];exact s6 _ _ ht) ⟨_,l,rfl⟩).tk (TK.upd aA λ_=>by simp)
 rintro ag X ⟨v0,v1,ws,r,rfl,T,an,lw,kw⟩;refine⟨W,ws,r,rfl,.of an,kw.1,λi a kv e1 e2=>.of (kw.2.1 i a kv e1 e2),?_,λdd be=>⟨dd,_,rfl,qa,λo2=>?_⟩⟩
 ·rw[<-kw.1,lw,ta,p.a.rows.1];omega
 rw[jx];have s3:qi X (upd X dd (.frz o2 (.dK (jN [] r)))):=qd be;have aB:upd X dd (.frz o2 (.dK (jN [] r))) dd=some (.frz o2 (.dK (jN [] r))):=qa;generalize upd X dd (.frz o2 (.dK (jN [] r)))=H3 at s3 aB;obtain⟨zs,bf,aC⟩:=(PK.merge r [] (λv h=>(nomatch h)) (kw.2.2.tk (TK.of s3))).wt aB;have aD:=T.trans s3;refine⟨y,dd,_,o2,_,J,zs,rfl,gl.mono aD,al,ay,bf,λz l=>?_,λaa aT z l=>?_,λH4 T=>⟨_,rfl,jp ?_⟩⟩
 ·obtain⟨z',v,rfl⟩:=aC z l;exact am v
 ·obtain⟨z',v,rfl⟩:=aC z l;rw[ax v,aw v aT]
 have r:=aD.trans T;have T:=af.mono r;have ai:=r _ _ bb;have bg:=gr.mono (s2.trans r);have bh:=gl.mono r;have bi:=r _ _ av;have F4:Fr H d H4:=λb u hb _=>(ak.trans r) _ _ hb;have keep:∀{G:Hp},Fr H4 d G->JF G L m D O qs j us a6 kvs J/\jt U G x j/\jt U G y (Z8 (QU (wT j R) (j.map (·.1))))/\G Pd=some (.dK (Jq (QU (wT j R) (j.map (·.1))) (wT j R) (j.map (·.1)))):=λfr=>⟨T.fr ai fr,bg.src pos ai fr,bh.src bd ai fr,fr _ _ bi bc⟩;refine⟨4,rfl,by decide,by decide,?_⟩;refine Q0 (λi T G=>∃(v6 v7 v8 U va:Option V) (r t':Int),T=[some (.ref d),some (.ref L),some (.ref D),some (.ref x),some (.ref y),some (.ref Pd),v6,v7,v8,U,va]/\Fr H4 d G/\G d=some (.dK (src r sd t'))) ⟨_,_,_,_,_,n,t,rfl,Fr.refl,ai⟩ ?_ ?_
 ·rintro i T G _ ⟨v6,v7,v8,U,va,n1,t1,rfl,fG,ao⟩;obtain⟨r,_,_,_⟩:=keep fG;refine⟨_,rfl,_,rfl,d,L,4,n1,sd,t1,O,j,rfl,ao,r.a,by decide,λh r n2 t2 _ _ aE _ ap bj bl=>?_⟩;have f1:=fG.trans bl;obtain⟨_,bm,_,_⟩:=keep f1;have ac:∀z∈r,z∈j.map (·.1):=λz l=>tc.mpr (ap z l);have l8:r.length<=8:=by omega
  refine⟨_,rfl,_,rfl,x,h,j,r,rfl,bm,good,ae,⟨aE,l8,ap⟩,λG2 R2 aq fj=>?_⟩;rw[show r.map (wT j R2)=r.map J from zap λz l=>(p.e1 R2 fj z (ac z l)).symm];have f2:=f1.same aq;have bn:=aq _ _ bj;have ar:=aq _ _ aE;obtain⟨_,_,_,bp⟩:=keep f2;refine⟨_,rfl,_,rfl,h,rfl,⟨_,.of ar⟩,λW2 bq=>DL bq bp ar ac l8 λ_ aF br=>?_⟩;have f3:=f2.same aF;obtain⟨_,_,bt,_⟩:=keep f3;refine⟨y,W2,_,r.map (Yf j R),rfl,bt,al,ay,⟨br,by rw[ta];exact l8,λz l=>?_⟩,λG4 aa aG aT=>⟨_,rfl,rfl,_,rfl,?_⟩⟩
  ·obtain⟨z',v,rfl⟩:=tc.mp l;exact tc.mp (am (ac z' v))
  rw[zam,show r.map (wT (Z8 (QU (wT j R) (j.map (·.1)))) aa ∘ Yf j R)=r.map J from zap λz l=>aw (ac z l) aT,decide_eq_true rfl];refine jp ?_;have f4:=f3.same aG;have aH:=aF.trans aG;have bu:=aH _ _ bn;have bv:=aH _ _ ar;obtain⟨as,bw,_,_⟩:=keep f4;refine⟨_,rfl,L,rfl,⟨_,.of as.a.at_⟩,?_⟩;refine jb (K:=K) (a:=L) (xs:=O.map V.ref) (λab T Y=>∃U va,T=[some (.ref d),some (.ref L),some (.ref D),some (.ref x),some (.ref y),some (.ref Pd),some (.int (0+(i:Int))),some (.ref h),some (.str (kb (JY (r.map J)))),U,va]/\qi G4 Y) ⟨_,_,rfl,qi.refl _⟩ (λab T Y _ ⟨_,_,_,L⟩=>.of (L _ _ as.a.at_)) ?_ ?_
  ·rintro ab y' T Y hy ⟨U,va,rfl,L⟩;obtain⟨p',q',o,rfl,er,ah,ea,eb⟩:=(as.a.rows.mono L).item hy;have l:o.1∈j.map (·.1):=tc.mpr ⟨o,ah,rfl⟩;have aI:=L _ _ bv;refine⟨p',_,rfl,.of ea,rfl,_,_,rfl,_,_,rfl,rfl,_,rfl,JB,λO aJ=>⟨h,O,_,rfl,rfl,.of (ql aI aJ),.of qa,_,rfl,?_⟩⟩;have s5:qi Y (upd Y O (.lst [])):=qd aJ;generalize upd Y O (.lst [])=Y1 at s5;have aK:=s5 _ _ aI;have aL:=bw.mono (L.trans s5);cases r with
   | nil=>exact jp (jp ⟨_,_,rfl,L.trans s5⟩)
   | cons O r=>
    have m0:=ac O (tO ..);refine QA ⟨_,rfl,_,rfl,h,_,0,_,rfl,rfl,.of aK,ZY,_,rfl,x,j,O,o.1,rfl,aL,good,ae,m0,l,λY2 R7 s7 aM=>⟨_,rfl,?_⟩⟩;have aN:=L.trans (s5.trans s7);by_cases c:wT j R7 O=wT j R7 o.1
    ·refine j4 (decide_eq_true c) ?_;have bz:=s7 _ _ aK;refine⟨_,rfl,_,rfl,JB,λe1 aO=>⟨_,rfl,_,rfl,h,_,rfl,.of (ql bz aO),λe2 au=>?_⟩⟩
     try dsimp -proj only at au ⊢
     rw[show XY ((O::r).map V.str) (some 1) none=r.map V.str from Nq _ _];have s8:qi Y2 (upd Y2 e1 (.lst [.str o.1])):=qd aO;have h8:upd Y2 e1 (.lst [.str o.1]) e1=some (.lst [.str o.1]):=qa;generalize upd Y2 e1 (.lst [.str o.1])=Y3 at s8 h8 au;have s9:qi Y3 (upd Y3 e2 (.lst (r.map V.str))):=qd au;have h9:upd Y3 e2 (.lst (r.map V.str)) e2=some (.lst (r.map V.str)):=qa;generalize upd Y3 e2 (.lst (r.map V.str))=Y4 at s9 h9;refine⟨e1,e2,_,_,rfl,rfl,.of (s9 _ _ h8),.of h9,zac (qh (by rw[ta];simp at l8 ⊢;omega)),λe3 bA=>?_⟩;have aP:qi Y4 (upd Y4 e3 (.lst ((o.1::r).map V.str))):=qd bA;have aQ:upd Y4 e3 (.lst ((o.1::r).map V.str)) e3=some (.lst ((o.1::r).map V.str)):=qa;rw[show [V.str o.1]++r.map V.str=(o.1::r).map V.str from rfl];generalize upd Y4 e3 (.lst ((o.1::r).map V.str))=Y5 at aP aQ;have aR:=s8.trans (s9.trans aP);refine⟨x,e3,j,o.1::r,rfl,aL.mono (s7.trans aR),good,ae,⟨aQ,by simpa using l8,λz v=>?_⟩,λ_ R9 s6 aS=>⟨_,rfl,rfl,_,rfl,?_⟩⟩
     ·rcases tL.mp v with rfl | v
      ·exact⟨o,ah,rfl⟩
      ·exact ap z (tG _ v)
     have e:(o.1::r).map (wT j R9)=(O::r).map J:=by
      rw[tM,tM,<-p.e1 R9 aS o.1 l,p.e1 R7 aM o.1 l,<-c,<-p.e1 R7 aM O m0];congr 1;exact zap λz v=>(p.e1 R9 aS z (ac z (tG _ v))).symm
     rw[e,decide_eq_true rfl];exact jp ⟨_,_,rfl,aN.trans (aR.trans s6)⟩
    ·exact jV (decide_eq_false c) (jp ⟨_,_,rfl,aN⟩)
  ·rintro T Y ⟨_,_,rfl,L⟩;exact⟨_,_,_,_,_,n2,t2,rfl,f4.same L,L _ _ bu⟩
 ·rintro T G ⟨v6,v7,v8,U,va,n1,t1,rfl,fG,ao⟩;exact q n1 t1 G ao (F4.trans fG)
open PySem L2 MLab Rb
open PyProof.Rows hiding K lo
def FE{X:Cx}{x:Str}{st:Stmt}{ps:List Str}{f:Addr}{a:zdQ}{k:Nat}{sp:Sp}{E:L2.St->XK}{e:Expr}{es:List Expr}{t:TA}{p pos:Pos}(h:qW X.K X.mg x st ps f a)(G:qp X.prog X.w X.K X.mg X.base (J4 X.prog X.w) k f a ps sp)(b:zX (J4 X.prog X.w) X E)(d:Gl X x)(i:JA X (e::es) t)(j:(x==("__debug__":Str))=false:=by decide)(l:starEach (e::es) X.env=(false,eval e X.env)::starEach es X.env:=by rfl)(m:(backTo pos (starEach es X.env)).any (·.1)=false:=by rfl)(hr:jd k X.A:=by first | assumption | exact jd.mono hr (by decide)):
 JE X (.Call (.Name x p) (e::es) [] pos) (vK sp [] E t):=.of (Gh G hr d h.ns h.fn.kp h.bi .nil b i.to j l m)
def K9{kvs:List (qF×V)}{k:qF}{v:V}:(jD kvs k v).length<=kvs.length+1/\0 < (jD kvs k v).length:=by
 unfold jD;split
 ·rename_i h;rw[ta];refine⟨zcK _,?_⟩;cases kvs with
  | nil=>simp at h
  | cons a b=>simp
 ·rw[tv,zar];omega
def An(g:qf rs)(g':qf us)(l:rs.length<=4)(a:us.length<=4)(b:∀z∈us.map (·.1),z∉rs.map (·.1)):qf (jn rs us):=by
 refine(Wq (ZQ g) (ZQ g') (by rw[Qh,Qh];exact b)).good ?_;have b:=JN g l;have d:=JN g' a;have a:=WJ (QE rs) (QE us);rw[Ze g,Ze g']at a;unfold jK at b d a;omega
def Nw:Ve [a,b] 1=some b:=by unfold Ve BW;rfl
def NT(H H':Hp):Prop:=∀b a,H b=some a->(∀k,a≠.dT k)->H' b=some a
def jt.nt(h:jt b H a rs)(k:NT H H'):jt b H' a rs:=by
 obtain⟨b,lo,d,kvs,e,i,j,l⟩:=h;exact⟨b,lo,d,kvs,k _ _ e (λ_ z=>nomatch z),k _ _ i (λ_ z=>nomatch z),k _ _ j (λ_ z=>nomatch z),λb hr=>let ⟨q,d,e⟩:=l b hr;⟨q,d,k _ _ e (λ_ z=>nomatch z)⟩⟩
def JF.nt{H H':Hp}{l m D:Addr}{ps d:List Addr}{rs us:jG}{o:Obj}{kvs:List (qF×V)}{F:Str->W}(h:JF H l m D ps d rs us o kvs F)(k:NT H H'):JF H' l m D ps d rs us o kvs F:=by
 have d:∀{l:Addr} {ps:List Addr} {rs:jG},jC H l ps rs->jC H' l ps rs:=λg=>⟨k _ _ g.at_ (λ_ z=>nomatch z),⟨g.rows.1,λi e j p r=>let ⟨q,a,b⟩:=g.rows.2 i e j p r;⟨q,k _ _ a (λ_ z=>nomatch z),k _ _ b (λ_ z=>nomatch z)⟩⟩,g.good,g.pos,g.le⟩;exact⟨d h.a,d h.b,h.dj,h.la,h.lb,⟨k _ _ h.wt.1 (λ_ z=>nomatch z),h.wt.2.1,λz d=>let ⟨t,a,b⟩:=h.wt.2.2 z d;⟨t,a,k _ _ b (λ_ z=>nomatch z)⟩⟩,h.e1,h.e2⟩
def jt.frE(h:jt b H a rs)(pos:0 < rs.length)(hd:H d=some (.dK []))(f:Fr H d H'):jt b H' a rs:=by
 obtain⟨j,lo,m,kvs,b,e,i,l⟩:=h;refine⟨j,lo,m,kvs,f _ _ b (λz=>by rw[z,hd]at b;cases b),f _ _ e (λz=>by rw[z,hd]at e;cases e),f _ _ i (λz=>?_),λe hr=>let ⟨q,b,j⟩:=l e hr;⟨q,b,f _ _ j (λz=>by rw[z,hd]at j;cases j)⟩⟩;rw[z,hd]at i;have j:=HO.dK.inj (tA.inj i);obtain⟨i,m⟩:∃e,rs[0]?=some e:=⟨_,tr pos⟩;obtain⟨q,b,_⟩:=l i (tP m);rw[<-j]at b;cases b
def Kf(H:Hp)(d:Addr)(H':Hp):Prop:=∀b a,H b=some a->b≠d->(∀e,a≠.ext e)->H' b=some a
def Fr.kf(f:Fr H d H'):Kf H d H':=λb a h n _=>f b a h n
inductive Kb(vs:List V)(H:Hp)(Q:VK):Prop
 | mk (d l m D:Addr) (n s t:Int) (ps qs:List Addr) (rs us:jG) (o:Obj) (kvs:List (qF×V)) (F:Str->W):vs=[.ref d,.ref l,.ref m,.ref D]->H d=some (.dK (src n s t))->JF H l m D ps qs rs us o kvs F->(∀n' t' H',H' d=some (.dK (src n' s t'))->Kf H d H'->Q (.bl true) H')->Kb vs H Q
def Bd:Sp:=λa H Q _=>Kb a H Q
abbrev Id(K:zdM):List V->Hp->VK->Prop:=λd H Q=>∃a b,d=[.ref a]/\(Q6 K H a b\/zZ K H a b)/\Q (.int b.length) H
abbrev Ic(K:zdM):List V->Hp->VK->Prop:=λd H Q=>∃a b,d=[.ref a]/\(Q6 K H a b\/zZ K H a b)/\∀a,H a=none->Q (.ref a) (upd H a (.lst b))
abbrev D8(K:zdM)(a:Addr)(i:Nat):TE:=A2 a (JM a) [] E0 (qB (NE (Ic K) (qB (qw i) jJ)) jJ)
abbrev nPa:List Str:=["_law_source_here","_law_rows_here","_law_more","_law_worths_here","_law_told","_law_sums","_law_pair","_law_letter","_law_letters","_law_heap_here"]
def Ex:qm nPa NF (qg KD):=Qm
def Ff:(["_law_k","_law_letters","_law_source_here"]:List Str).Nodup:=by decide+kernel
def Fe:(["_law_letter","_law_sums"]:List Str).Nodup:=by decide+kernel
def CZ{P:Program}{w:World}{K:zdM}{mg:Str->Option Value}{base:Heap}{f j l r fT J O T fX L U p D0:Addr}{fd av aw ax a6 ay az aA a7:zdQ}(F:jL K "_law_paired_right" "_law_paired_right" KD f fd)(B:QB mg)(G:j7 mg)(C:NM K mg L j av)(GI:qp P w K mg base jh 6 j av ["self","rows"] (JM L))
  (hJ:qW K mg "paired" UU yY l aw) (GJ:qp P w K mg base (J4 P w) 8 l aw yY (Cm L U p)) (a8:qW K mg "_law_has" vU Wi r ax) (a9:qp P w K mg base jh 10 r ax Wi (yw L)) (o:qW K mg "_law_take" Z5 ["_law_source_here","_law_many"] fT a6)
  (bb:qW K mg "outcome" Xm ["ground","heap"] J ay) (bc:qp P w K mg base jh 10 J ay ["ground","heap"] (Vp L)) (bd:qW K mg "_law_outcome" DX ["_law_worth"] O az) (be:qp P w K mg base jh 1 O az ["_law_worth"] Cn) (aB:qW K mg "_law_total" z8 ["_law_worths_here"] T aA) (aC:qp P w K mg base jh 1 T aA ["_law_worths_here"] u8)
  (nM:mg "TooMany"=some (.ref p)) (xM:uo K mg D0 "TooMany" "TooMany.__init__" Qw "found" p fX a7):
  qp P w K mg base jh 11 f fd NF Bd:=by
 have GT:=pin P w mg base (ZS o.fn);refine F.okK Ex λH Q E hr z=>?_;obtain⟨d,aj,m,D,n,sd,t,ps,qs,j,l,aa,kvs,Fw,rfl,hd,J,q⟩:=z;have hu:=hu_of hr;have r:jd 7 _:=hr.mono (by decide);refine⟨_,qb (qG 4 Dt)
  (qb (Dp (tb:=λE=>vL (vK (Cm L U p) [] E (qB (D8 K L 1) (qB (D8 K L 2) jJ))) (jF 4)) rfl rfl (λpn W E O=>qe (qG 4 (FE hJ GJ O (by rfl) (jQ (Qd C.mkr GI r (by rfl) C.ns C.bi .nil Qi (qT (qV j6 (by rfl) G.lst boot_list (qT (jv 1))))) (Qd C.mkr GI r (by rfl) C.ns C.bi .nil Qi (qT (qV j6 (by rfl) G.lst boot_list (qT (jv 2)))))))))
   (RD (ts:=D5 (tC (.bl true))) (by rfl) nM xM.rcls.c (λv E=>qe (qr Qz)) RC))
  (qb (Je 5 jX)
  (qb (Al (qP (vk (qU ja (jv 4) qk)) (QH rfl (qH (qz 6) (qH (qz 7) j3)))
   (qe (jl (jv 5) (jv 7) (qD aB aC (qT (Ql (jQ (qA (jv 3) (qU ja (jv 6) qk)) (qA (jv 3) (qU ja (jv 6) qk))))))))))
  (qb (xf (qJ (Qk (jH (qD a8 a9 (jQ (qU ja (jv 4) qk) (jv 5))))) qC qt))
  (qb (Je 8 (qV (X1 rfl) (by rfl) G.lst boot_list (qT (jv 5))))
  (qb (Qx (i:=9) (N':=["_law_k","_law_letters","_law_source_here"]) (ix:=[none,some 8,some 0]) (te:=Zr (K5 K) (qw 1) (Zs vN [] E0 (qB (qw 2) (qB (NE (Id K) (qB (qw 1) jJ)) jJ)))) (hN:=Ex.nd) (jq (by rfl) B.rng (qT (qD o GT (jQ (jv 0) qk)))) (λC s2 H2 fp r=>
    ⟨ji (i:=0) Ff rfl (Or.inl rfl),qS,qU Qr (jv 1) (qD o GT (jQ (jv 2) (qu qx (by rfl) B.len boot_len (qT (jv 1)))))⟩))
  (qe (qr (Qe QM (qD bb bc (jQ (qU ja (jv 4) qk) (jv 9))) (qD bd be (qT (qD aB aC (qT (jw (N':=["_law_letter","_law_sums"]) (ix:=[none,some 5]) (qy (jv 9)) (λC s2 H2 fp r=>
     ⟨ji (i:=0) Fe rfl (Or.inl rfl),qS,qA (jv 1) (jv 0)⟩))))))))))))))),?_⟩
 have o:=J.a;have O:=J.b;have gj:qf (jn j l):=An o.good O.good J.la J.lb J.dj;refine⟨λC' ak Hx=>qi H Hx/\C'=p,?_,?_⟩
 rotate_left
 ·rintro _ C' ak _ Hx H' ⟨sx,rfl⟩ T U _;have k1:IJ H H':=λb aa r p=>U b aa (λz=>by
   rw[z]at r;have:=sx _ _ r;rw[T]at this;exact p _ (tA.inj this).symm) (sx _ _ r)
  exact⟨_,_,xM.mkr,by rw[if_pos (by simp [zcD])];exact q n t H' (k1 _ _ hd (λ_ z=>nomatch z)) λb aa r _ p=>k1 b aa r p⟩
 refine⟨_,rfl,aj,_,rfl,.inl (.of o.at_),λp bf x _ U aD bg=>?_⟩;have T:qi H (upd H p (.lst (ps.map V.ref))):=qd bf;have hA:upd H p (.lst (ps.map V.ref)) p=some (.lst (ps.map V.ref)):=qa;generalize upd H p (.lst (ps.map V.ref))=HA at T hA U aD;refine Qj hA (o.rows.mono T) o.good o.pos o.le U aD bg λp s1 bh=>?_;have aE:=T.trans s1;have aF:=J.mono aE;refine⟨_,rfl,m,_,rfl,.inl (.of aF.b.at_),λT bi x2 _ aG aH bj=>?_⟩;have sB:qi p (upd p T (.lst (qs.map V.ref))):=qd bi;have hB:upd p T (.lst (qs.map V.ref)) T=some (.lst (qs.map V.ref)):=qa;generalize upd p T (.lst (qs.map V.ref))=HB at sB hB aG aH;refine Qj hB (aF.b.rows.mono sB) O.good O.pos O.le aG aH bj λH2 s2 T=>?_;have p:=sB.trans s2;have al:=aE.trans p;refine⟨x,x2,j,l,rfl,bh.mono p,T,o.good,O.good,o.pos,O.pos,o.le,O.le,λb v e Hx ak C' sx _ T=>?_,λpn H3 y p tp s3 gp gd DZ am bl=>?_⟩
 ·refine⟨rfl,C',ak,rfl,rfl,al.trans sx,?_⟩;rcases T with ⟨rfl,_⟩ | ⟨_,e'⟩
  ·unfold Wh at e;split at e
   ·cases e
   ·split at e<;>cases e
  ·exact e'
 have ab:=al.trans s3;have bm:=J.mono ab;have aI:=ab _ _ hd;obtain⟨ac,aT⟩:=JV (jf j l);obtain⟨R,aR⟩:=JV j;obtain⟨S,aS⟩:=JV l;have bn:∀x∈jU j l,wT (jf j l) ac (lt (jU j l) x)=Zu (Fw x.1) (Fw x.2):=λx U=>by
  rw[NP o.good O.good gj J.dj gd aR aS aT U,J.e1 R aR _ (j2.mp U).1,J.e2 S aS _ (j2.mp U).2]
 have fh:0 < (jU j l).length:=by
  rw[xa];exact Nat.mul_pos o.pos O.pos
 have bp:(jf j l).length=(jU j l).length:=ta ..;have o:(jU j l).length<=16:=by
  rw[xa];exact tR (zbV J.la J.lb) (by decide)
 intro o ae;have O:qi H3 (upd H3 o (.dK [])):=qd ae;have aJ:upd H3 o (.dK []) o=some (.dK []):=qa;generalize upd H3 o (.dK [])=H4 at O aJ;have bq:d≠o:=qj aI ae;have aK:p≠o:=qj am ae;refine⟨p,_,O _ _ am,λU=>?_⟩;have nt:NT H4 (upd H4 p (.frz U (.dT (uq (jU j l))))):=λb u r nb=>by
  rw[qc (λz=>by rw[z,O _ _ am]at r;exact nb _ (tA.inj r).symm)];exact r
 have af:upd H4 p (.frz U (.dT (uq (jU j l)))) p=some (.frz U (.dT (uq (jU j l)))):=qa;have aL:∀b u,H b=some u->(upd H4 p (.frz U (.dT (uq (jU j l))))) b=some u:=λb u r=>by
  rw[qc (qj (al _ _ r) DZ)];exact O _ _ (ab _ _ r)
 generalize upd H4 p (.frz U (.dT (uq (jU j l))))=H5 at nt af aL;have br:=(bm.mono O).nt nt;have bt:=(gp.mono O).nt nt;have ag:=nt _ _ (O _ _ bl) (λ_ z=>nomatch z);have bu:=nt _ _ (O _ _ aI) (λ_ z=>nomatch z);have O:=nt _ _ aJ (λ_ z=>nomatch z);have keep:∀{Y:Hp},Fr H5 o Y->JF Y aj m D ps qs j l aa kvs Fw/\jt L Y y (jf j l)/\Y tp=some (.tup [.ref y,.ref p])/\Y d=some (.dK (src n sd t))/\Y p=some (.frz U (.dT (uq (jU j l)))):=λfr=>⟨br.fr O fr,bt.frE (by omega) O fr,fr _ _ ag (λz=>by rw[z,O]at ag;cases ag),fr _ _ bu bq,fr _ _ af aK⟩;have aM:Ln (.dT (uq (jU j l)))=(jU j l).length:=ta ..;have L:Ve [V.ref y,V.ref p] 1=some (.ref p):=Nw;refine⟨_,rfl,tp,_,1,_,rfl,rfl,.of ag,L,p,U,_,rfl,af,trivial,?_⟩;refine W0 (a:=p) (o:=U) (u:=.dT (uq (jU j l))) (λi σ Y=>∃(v6 v7:Option V) (p:List (qF×V)),σ=[some (.ref d),some (.ref aj),some (.ref m),some (.ref D),some (.ref tp),some (.ref o),v6,v7,none,none]/\Fr H5 o Y/\Y o=some (.dK p)/\p.length<=i/\(0 < i->0 < p.length)/\PK Y (wT (jf j l) ac) (·∈(jf j l).map (·.1)) p) ⟨none,none,[],rfl,Fr.refl,O,tf _,λh=>absurd h (zaF _),λU h=>(nomatch h)⟩ (λi σ Y _ ⟨_,_,_,_,fy,_⟩=>fy _ _ af aK) ?_ ?_
 ·rintro i x' _ p' σ Y hi bv O ⟨v6,v7,p,rfl,fy,hY,lk,_,pk⟩;obtain⟨k,b,L,rfl,r⟩:=O;rw[aM]at hi;have ex:(jU j l)[i]?=some (jU j l)[i]:=tr hi;have O:(jU j l)[i]∈jU j l:=zbH hi;generalize (jU j l)[i]=x at ex O;have bw:(uq (jU j l))[i]?=some (kP x,V.str (lt (jU j l) x)):=by unfold uq Rh.kvs;rw[tw,ex];rfl
  rw[bw]at L;obtain⟨rfl,rfl⟩:=Prod.mk.inj (tA.inj L);obtain⟨m1,m2⟩:=j2.mp O;have L:=qd (o:=HO.tup [V.ref b,.str (lt (jU j l) x)]) bv;refine⟨p',_,rfl,.of qa,rfl,_,_,rfl,_,_,rfl,rfl,?_⟩;have an:=fy.same L;have aN:=L _ _ hY;have ao:_=some (HO.tup [V.str x.1,.str x.2]):=L _ _ r;have aO:=pk.tk (TK.of L);generalize upd Y p' (.tup [V.ref b,.str (lt (jU j l) x)])=Y0 at an aN ao aO;obtain⟨ap,_⟩:=keep an;obtain⟨L,g1,k1⟩:=ap.wt.get (z:=x.1) (tV _ m1);obtain⟨T,g2,k2⟩:=ap.wt.get (z:=x.2) (tU _ m2);have e0:Ve [V.str x.1,V.str x.2] 0=some (.str x.1):=ZY;have e1:Ve [V.str x.1,V.str x.2] 1=some (.str x.2):=Nw;refine⟨_,rfl,_,rfl,b,_,0,_,rfl,rfl,.of ao,e0,D,_,rfl,g1,_,rfl,_,rfl,b,_,1,_,rfl,rfl,.of ao,e1,D,_,rfl,g2,JB,λe he=>?_⟩;have s6:qi Y0 (upd Y0 e (.lst [.ref L,.ref T])):=qd he;have aP:upd Y0 e (.lst [.ref L,.ref T]) e=some (.lst [.ref L,.ref T]):=qa;generalize upd Y0 e (.lst [.ref L,.ref T])=Y1 at s6 aP;refine⟨e,[L,T],[Fw x.1,Fw x.2],rfl,aP,⟨rfl,λaQ a u f1 f2=>?_⟩,λu hu=>?_,by show 2<=8;decide,λ_ U s7 aU=>?_⟩
  ·match aQ with
   | 0=>cases f1;cases f2;exact s6 _ _ k1
   | 1=>cases f1;cases f2;exact s6 _ _ k2
   | aQ+2=>cases f1
  ·rcases tL.mp hu with rfl | hu
   ·exact J.ok _ (tV _ m1)
   ·rw[tK.mp hu];exact J.ok _ (tU _ m2)
  rw[NU,<-bn x O]at aU;have J:=s6.trans s7;have aV:=J _ _ aN;have bz:=aO.tk (TK.of J);refine⟨_,rfl,_,rfl,o,_,rfl,.inl ⟨p,(Sum.inr (lt (jU j l) x):qF),aV,rfl,qh (by omega),rfl⟩,?_⟩;have pl:=K9 (kvs:=p) (k:=(Sum.inr (lt (jU j l) x):qF)) (v:=.ref U);refine⟨_,_,_,rfl,(an.same J).at_d,qa,by omega,λ_=>pl.2,?_⟩;exact(bz.put (p:=((Sum.inr (lt (jU j l) x):qF),V.ref U)) λz hz=>by rw[tK.mp hz];exact⟨_,U,rfl,aU,WN O⟩).tk λb' u' J=>by
   rw[qc (λz=>by rw[z,aV]at J;cases J)];exact J
 rintro σ Y ⟨v6,v7,p,rfl,fy,hY,lk,aW,pk⟩;rw[aM]at lk aW;obtain⟨ap,_,_,_,_⟩:=keep fy;refine⟨o,p,hY,λO=>?_⟩;have aq:Fr H5 o (upd Y o (.frz O (.dK p))):=fy.at_d;have aX:upd Y o (.frz O (.dK p)) o=some (.frz O (.dK p)):=qa;have aY:PK (upd Y o (.frz O (.dK p))) (wT (jf j l) ac) (·∈(jf j l).map (·.1)) p:=pk.tk λb' u' J=>by
  rw[qc (λz=>by rw[z,hY]at J;cases J)];exact J
 generalize upd Y o (.frz O (.dK p))=J at aq aX aY;obtain⟨_,aZ,a1,a2,_⟩:=keep aq;obtain⟨J,ah,ar⟩:=aY.wt aX;have bA:J.length=p.length:=by have:=congrArg zav ah.2.1;rw[ta,ta]at this;exact this.symm
 have bO:0 < J.length:=by rw[bA];exact aW fh
 have a3:(jf j l).length<=14:=by
  rw[bp,xa];unfold Wh at pn;split at pn
  ·cases pn
  ·omega
 refine⟨_,rfl,tp,_,0,_,rfl,rfl,.of a1,ZY,_,rfl,y,o,jf j l,O,p,wT (jf j l) ac,J,rfl,aZ,gd,a3,ah,ar,λ_ a' z hz=>by rw[All.uniq gd.nd aT a'],λH7 s7=>⟨_,rfl,jp ?_⟩⟩;have a4:=ah.mono s7;have bP:=s7 _ _ a2;refine⟨_,rfl,o,p,J,rfl,.inr ⟨O,a4.1⟩,a4.2.1,λLt o=>?_⟩;have p:qi H7 (upd H7 Lt (.lst (J.map V.str))):=qd o;have O:upd H7 Lt (.lst (J.map V.str)) Lt=some (.lst (J.map V.str)):=qa;generalize upd H7 Lt (.lst (J.map V.str))=H8 at p O;have o:=s7.trans p;have p:=o _ _ a2;have bB:=ah.mono o;have bC:=aZ.mono o;have as:=o _ _ a1;have F8:Fr H d H8:=λb u r nb=>o _ _ (aq _ _ (aL _ _ r) (qj (ab _ _ r) ae));refine⟨_,rfl,d,4,n,sd,t,rfl,p,by decide,by decide,λo n1 L _ _=>⟨o,rfl,by omega,by omega,λW r=>?_⟩⟩;have ai:W≠d:=λe=>by rw[e,qa]at r;cases r
 have bD:H8 W=none:=by rw[qc ai]at r;exact r
 refine Q5 (λi au H'=>∃(v:Option V) (n' t':Int) (o:List Str),au=[v,some (.ref Lt),some (.ref d)]/\H' d=some (.dK (src n' sd t'))/\H' W=some (.lst (o.map V.str))/\o.length=i/\(∀z∈o,z∈J)/\Fr H8 d H')
  ⟨none,n1,L,[],rfl,by rw[qc (Ne.symm ai)];exact qa,qa,rfl,λ_ h=>(nomatch h),(Fr.refl.at_d).new r⟩ ?_ ?_
 ·rintro i au H' hi ⟨v,n',t',o,rfl,a5,bE,hl,r,fr⟩;have L:=fr _ _ O (λz=>by rw[z,p]at O;cases O);refine⟨_,rfl,_,rfl,_,rfl,Lt,_,rfl,.inl (.of L),d,((J.map V.str).length:Nat),n',sd,t',rfl,a5,by rw[ta];omega,by rw[ta];omega,λJ n3 O bF bG=>?_⟩;obtain⟨x',bH,bI⟩:=atI_get bF bG;obtain⟨z,_,mz,rfl⟩:=jO bI;have bJ:Lt≠d:=λe=>by rw[e,a5]at L;cases L
  refine⟨Lt,_,J,_,rfl,rfl,.of (by rw[qc bJ];exact L),bH,_,by rw[qc ai];exact bE,by rw[ta,hl];exact qh (by omega),_,n3,O,o++[z],rfl,by rw[qc (Ne.symm ai)];exact qa,by rw[qa,tj];rfl,by rw[tv,hl];rfl,λJ L=>?_,(fr.at_d).own bD⟩;rcases tN.mp L with h | h
  ·exact r J h
  ·rw[tK.mp h];exact mz
 rintro au _ ⟨v,n2,T,o,rfl,O,L,hl,r,fr⟩;have J:o.length<=8:=by omega
 have bK:=fr _ _ as (λz=>by rw[z,p]at as;cases as);have bL:=bC.src (by omega) p fr;have bM:=bB.fr p fr;refine⟨_,rfl,tp,_,0,_,rfl,rfl,.of bK,ZY,_,rfl,y,W,jf j l,o,rfl,bL,gd,a3,⟨L,J,λz hz=>tc.mp (ar z (r z hz))⟩,λ_ _ j o=>?_⟩;have l:=j _ _ L;refine⟨_,rfl,W,rfl,⟨_,.of l⟩,λp L=>Nt L (bM.mono j) l r J λ_ l L bN tl=>⟨p,l,_,rfl,bN,tl,λu hu=>?_,by rw[ta];exact J,λ_ U p l=>⟨U,_,rfl,l,λGd J=>⟨rfl,?_⟩⟩⟩⟩
 ·obtain⟨z,hz,rfl⟩:=tc.mp hu;exact Yx gd (VU gd aT) (ar z (r z hz))
 have l:=j.trans (L.trans (p.trans J));rw[<-All.uniq gd.nd aT o,decide_eq_true rfl];exact q n2 T Gd (l _ _ O) ((F8.trans fr).same l).kf
open PySem L2 MLab Rb
open PyProof.Rows hiding K lo
inductive Br(vs:List V)(H:Hp)(Q:VK):Prop
 | mk (l m:Addr) (ps qs:List Addr) (rs us:jG):vs=[.ref l,.ref m]->jC H l ps rs->jC H m qs us->(rs.length<=4)->(us.length<=4)->(∀H' lm fC fc,qi H H'->H lm=none->jC H' lm fC fc->fc.length<=4->(∀z∈fc.map (·.1),z∉rs.map (·.1))->Q (.ref lm) H')->Br vs H Q
def Et:Sp:=λa H Q _=>Br a H Q
def ZA:List Nat:=[120,121,122,117,118,119]
def ur(c k:Nat):Str:=(⟨#[c]⟩:Str)++Txt.mul (zdN "q") (k:Int)
def Cc:∀i < 6,(zdN "xyzuvw").cps[i]?=ZA[i]?:=by decide+kernel
def Ui:(zdN "xyzuvw").cps.size=6:=by decide+kernel
def Fa:∀k < 4,(ZA.map λc=>ur c k).Nodup:=by decide+kernel
def Fb:∀k < 4,∀c∈ZA,jB (ur c k)=true/\(ur c k).length=k+1:=by decide+kernel
def w9(N:List Str)(k:Nat)(cs:List Nat):List Str:=(cs.map λc=>ur c k).filter λz=>decide (z∉N)
def NB(N:List Str)(k:Nat):Str:=((w9 N k ZA).head?).getD (zdN "")
def zW{N:List Str}(b:k < 4)(hN:N.length<=4):(w9 N k ZA).head?=some (NB N k)/\NB N k∉N/\jB (NB N k)=true/\(NB N k).length=k+1:=by
 unfold NB;cases e:w9 N k ZA with
 | nil=>
  have h:∀z∈ZA.map (λc=>ur c k),z∈N:=λz d=>Classical.byContradiction λno=>by
   have:z∈w9 N k ZA:=tZ.mpr ⟨d,decide_eq_true no⟩;rw[e]at this;cases this
  have:=Ro (Fa k b) h;rw[ta]at this;exact absurd this (by show ¬6<=N.length;omega)
 | cons a d=>
  have d:a∈w9 N k ZA:=by rw[e];exact tO ..
  obtain⟨i,j⟩:=tZ.mp d;obtain⟨c,l,rfl⟩:=tc.mp i;exact⟨rfl,of_decide_eq_true j,Fb k b c l⟩
def YG(N:List Str)(M:List Str)(z:Str):Str:=NB N (M.idxOf z)
def xo{N M:List Str}(hN:N.length<=4)(b:M.length<=4)(a:y∈M)(hz:z∈M)(e:YG N M y=YG N M z):y=z:=by
 have b:=(zW (N:=N) (k:=M.idxOf y) (by have:=zau a;omega) hN).2.2.2;have d:=(zW (N:=N) (k:=M.idxOf z) (by have:=zau hz;omega) hN).2.2.2;have h:NB N (M.idxOf y)=NB N (M.idxOf z):=e;rw[h,d]at b;have b:M.idxOf y=M.idxOf z:=by omega
 have b:=zch (zau a);have a:=zch (zau hz);rw[<-b,<-a];congr 1
def xD(N:List Str)(us:jG):jG:=us.map λa=>(YG N (us.map (·.1)) a.1,a.2.map (YG N (us.map (·.1))))
def Yu(N:List Str)(us:jG):(xD N us).map (·.1)=(us.map (·.1)).map (YG N (us.map (·.1))):=by unfold xD;rw[zam,zam];rfl
def uk{N:List Str}{us:jG}(hN:N.length<=4)(b:us.length<=4):∀z∈(xD N us).map (·.1),z∉N:=λz a=>by
 rw[Yu]at a;obtain⟨y,b,rfl⟩:=tc.mp a;have:=zau b;rw[ta]at this;exact(zW (by omega) hN).2.1
def Nx{N:List Str}(g:qf us)(hN:N.length<=4)(d:us.length<=4):qf (xD N us):=by
 have l:(us.map (·.1)).length<=4:=by rw[ta];exact d
 have i:∀y∈us.map (·.1),jB (YG N (us.map (·.1)) y)=true:=λy h=>(zW (by have:=zau h;omega) hN).2.2.1;refine⟨λd hr=>?_,?_,λd hr z m=>?_,λd hr=>?_,?_⟩
 ·obtain⟨u,hu,rfl⟩:=tc.mp hr;exact i _ (tc.mpr ⟨u,hu,rfl⟩)
 ·rw[Yu];exact QN g.nd λa i b j e=>xo hN l i j e
 ·obtain⟨u,hu,rfl⟩:=tc.mp hr;obtain⟨y,h,rfl⟩:=tc.mp m;rw[Yu];exact tc.mpr ⟨y,g.to u hu y h,rfl⟩
 ·obtain⟨u,hu,rfl⟩:=tc.mp hr;exact QN (g.rd u hu) λa i b j e=>xo hN l (g.to u hu a i) (g.to u hu b j) e
 ·have:(xD N us).map (λd=>d.2.length)=us.map λd=>d.2.length:=by
   unfold xD;rw[zam];exact zap λd _=>ta ..
  rw[this];exact g.few
def E9:∀i < 4,∀c,(⟨#[c]⟩:Str).length+(Txt.mul (zdN "q") ((i:Nat):Int)).length < 1000:=λi a c=>by
 have:(Txt.mul (zdN "q") ((i:Nat):Int)).length<=3:=(by decide+kernel:∀i < 4,(Txt.mul (zdN "q") ((i:Nat):Int)).length<=3) i a;show 1+_ < 1000;omega
def yC:(zdN "q").length<=1000:=by decide+kernel
def yU[DecidableEq κ]{kvs:List (κ×V)}(h:k∉kvs.map (·.1)):jD kvs k v=kvs++[(k,v)]:=by
 unfold jD;rw[if_neg];intro c;obtain⟨a,b,e⟩:=zaS.mp c;exact h (tc.mpr ⟨a,b,of_decide_eq_true e⟩)
def Dx{z:Str}{zs:List Str}(h:z∉zs):J2 (.str z) (zs.map V.str)=false:=by
 cases e:J2 (.str z) (zs.map V.str) with
 | false=>rfl
 | true=>exact(h (Jt.mp e)).elim
def Aw{z:Str}{zs:List Str}(h:z∈zs):J2 (.str z) (zs.map V.str)=true:=Jt.mpr h
def kj{zs:List Str}(nd:zs.Nodup)(e:zs[i]?=some z):z∉zs.take i:=λh=>by
 obtain⟨_,a⟩:=zaP h;have b:=(td.mp a).1;rw[tE]at b;rw[zbp (by omega)]at a;have:=(zdF (by omega) nd).mp (a.trans e.symm);omega
abbrev BJ:R2:=λx y H Q=>∃i a,x=.str i/\y=.str a/\i.length+a.length<=zdR/\Q (.str (i++a)) H
abbrev EX:List Str:=["_law_rows_here","_law_more"]
abbrev nAp:List Str:=["_law_rows_here","_law_more","_law_names_here","_law_about","_law_k","_law_row","_law_free"]
def ED:qm nAp EX (qg Xv):=Qm
def BS:(["_law_name","_law_others"]:List Str).Nodup:=by decide+kernel
def Fl:(["_law_sign","_law_k","_law_names_here"]:List Str).Nodup:=by decide+kernel
def BR:(["_law_name","_law_others","_law_about"]:List Str).Nodup:=by decide+kernel
def Fk:(["_law_other","_law_about"]:List Str).Nodup:=by decide+kernel
def E8{P:Program}{w:World}{K:zdM}{mg:Str->Option Value}{base:Heap}{f:Addr}{d:zdQ}(F:jL K "_law_apart" "_law_apart" Xv f d)(G:j7 mg)(T:Qn K mg):qp P w K mg base jh 1 f d EX Et:=by
 refine F.okK ED λH Q E hr z=>?_;obtain⟨aa,m,o,qs,d,h,rfl,C,v,p,lb,q⟩:=z;refine⟨_,qb (Je 2 (jw (N':=["_law_name","_law_others"]) (ix:=[none,none]) (g:=kH K 2 (Za (jF 0) (Za (jF 1) kI))) (te:=qw 0) (qy (jv 0)) (λj B y fp l=>
    ⟨QH rfl (qH (ji (i:=0) BS rfl (Or.inl rfl)) (qH (ji (i:=1) BS rfl (Or.inl rfl)) j3)),qS,jv 0⟩)))
  (qb (Je 3 jX)
  (qb (qP (zJ (by rfl) T.enu (qT (jv 1))) (QH rfl (qH (qz 4) (qH (qz 5) j3)))
   (qb (Qx (i:=6) (N':=["_law_sign","_law_k","_law_names_here"]) (ix:=[none,some 4,some 2]) (tt:=zx (Zr (BH K true) (Zr BJ (qw 0) (Zr K3 (tC (.str (zdN "q"))) (qw 1))) (qw 2))) (te:=Zr BJ (qw 0) (Zr K3 (tC (.str (zdN "q"))) (qw 1))) (hN:=ED.nd) (RB qL) (λj B y fp l=>
     ⟨ji (i:=0) Fl rfl (Or.inl rfl),jP (qo QS (qM Zj (jv 0) (qM y0 qL (jv 1))) (jv 2) (by with_unfolding_all rfl)),qM Zj (jv 0) (qM y0 qL (jv 1))⟩))
   (qe (jl (jv 3) (qU ja (jv 5) qk) (qU Qr (jv 6) qk)))))
  (qe (qr (jw (N':=["_law_name","_law_others","_law_about"]) (ix:=[none,none,some 3]) (g:=kH K 2 (Za (jF 0) (Za (jF 1) kI))) (te:=z7 (qB (QQ (qw 2) (qw 0)) (qB (NE (KZ K) (qB (DU (FI K (qw 1)) [none,some 2] (jF 0) xZ (QQ (qw 1) (qw 0))) jJ)) jJ))) (qy (jv 1)) (λj B y fp l=>
    ⟨QH rfl (qH (ji (i:=0) BR rfl (Or.inl rfl)) (qH (ji (i:=1) BR rfl (Or.inl rfl)) j3)),qS,jm (jQ (qA (jv 2) (jv 0)) (qV j9 (by rfl) G.tup boot_tuple (qT (jw (N':=["_law_other","_law_about"]) (ix:=[none,some 2]) (zj (jv 1)) (λj _ _ fp l=>
     ⟨ji (i:=0) Fk rfl (Or.inl rfl),qS,qA (jv 1) (jv 0)⟩)))))⟩)))))),?_⟩
 have hN:(d.map (·.1)).length<=4:=by rw[ta];exact p
 have j:(h.map (·.1)).length<=4:=by rw[ta];exact lb
 refine⟨_,rfl,aa,rfl,⟨_,.of C.at_⟩,λD J=>?_⟩;refine jc (K:=K) (a:=aa) (xs:=o.map V.ref) (λo p X=>∃v0 v1,p=[v0,v1]/\qi H X/\X D=some (.lst (((d.take o).map (·.1)).map V.str))) ⟨none,none,rfl,qd J,qa⟩ (λo p X _ ⟨_,_,_,l,_⟩=>.of (l _ _ C.at_)) ?_ ?_
 ·rintro o y' p X L ⟨v0,v1,rfl,l,ab⟩;obtain⟨r,q',j,rfl,x,O,U,eb⟩:=(C.rows.mono l).item L;have hj:=(td.mp x).1;refine⟨r,_,rfl,.of U,rfl,_,_,rfl,_,_,rfl,rfl,_,rfl,_,ab,by rw[ta,ta,tE];exact qh (by omega),_,_,rfl,qi.upd l J,?_⟩;rw[qa,tz,x,tj,tj];rfl
 rintro p J ⟨v0,v1,rfl,s1,ac⟩;rw[ta,C.rows.1,tu (tf _)]at ac;intro Da af;have B:qi J (upd J Da (.dK [])):=qd af;have C:upd J Da (.dK []) Da=some (.dK []):=qa;have ag:=af;generalize upd J Da (.dK [])=y at B C;have J:=v.mono (s1.trans B);have ak:=B _ _ ac;have al:D≠Da:=qj ac ag;have kp:∀{Y:Hp},Fr y Da Y->jC Y m qs h/\Y D=some (.lst ((d.map (·.1)).map V.str)):=λfr=>⟨J.fr' C fr,fr _ _ ak al⟩;refine⟨_,rfl,m,rfl,⟨_,.of J.at_⟩,?_⟩;refine ZN (K:=K) (a:=m) (xs:=qs.map V.ref) (λi σ Y=>∃v4 v5 v6,σ=[some (.ref aa),some (.ref m),some (.ref D),some (.ref Da),v4,v5,v6]/\Fr y Da Y/\Y Da=some (.dK (((h.take i).map (·.1)).map λz=>((Sum.inr z:qF),V.str (YG (d.map (·.1)) (h.map (·.1)) z))))) ⟨_,_,_,rfl,Fr.refl,C⟩ (λi σ Y _ ⟨_,_,_,_,C,_⟩=>.of (kp C).1.at_) ?_ ?_
 ·rintro i y' σ Y J L y ⟨v4,v5,v6,rfl,C,hY⟩;obtain⟨r,q',j,rfl,x,O,U,eb⟩:=(kp C).1.rows.item L;have hi:=(td.mp x).1;have ah:i < 4:=by omega
  have sp:qi Y (upd Y J (.tup [.int (i:Nat),.ref r])):=qd y;have y:upd Y J (.tup [.int (i:Nat),.ref r]) J=some (.tup [.int (i:Nat),.ref r]):=qa;generalize upd Y J (.tup [.int (i:Nat),.ref r])=Y1 at sp y;have ai:=C.same sp;have am:=sp _ _ hY;obtain⟨_,an⟩:=kp ai;refine⟨J,_,rfl,.of y,rfl,_,_,rfl,_,_,rfl,rfl,_,rfl,λW hW=>?_⟩;have str:=λc=>(show (((⟨#[c]⟩:Str)++Txt.mul (zdN "q") (i:Int)):Str)=ur c i from rfl);have ku:∀c∈ZA,(⟨#[c]⟩:Str).length+(Txt.mul (zdN "q") ((i:Nat):Int)).length<=zdR:=λc _=>zac (qh (zac (E9 i ah c)));refine xA (λo p X=>∃v0,p=[v0,some (.int (i:Nat)),some (.ref D)]/\qi Y1 X/\X W=some (.lst ((w9 (d.map (·.1)) i (ZA.take o)).map V.str))) ⟨none,rfl,qd hW,qa⟩ ?_ ?_
  ·rintro o c p X hc ⟨v0,rfl,l,y⟩;have hj:o < 6:=by rw[<-Ui];exact(zaa.mp hc).1
   rw[Cc o hj]at hc;have mc:=tP hc;have snoc:w9 (d.map (·.1)) i (ZA.take (o+1))=w9 (d.map (·.1)) i (ZA.take o)++(if ur c i∉d.map (·.1) then [ur c i] else []):=by
    unfold w9;rw[tz,hc,tj,zay];congr 1;show List.filter _ [ur c i]=_;by_cases e:ur c i∉d.map (·.1)
    ·simp [e]
    ·simp at e;simp [e]
   have lf:(w9 (d.map (·.1)) i (ZA.take o)).length<=6:=by
    have:=zas (λz=>decide (z∉d.map (·.1))) ((ZA.take o).map λc=>ur c i);rw[ta,tE]at this;exact tR this (tR (zcn ..) (by decide))
   have ab:=l _ _ an;refine⟨_,rfl,_,rfl,_,_,rfl,rfl,yC,zbI _,by omega,_,_,rfl,rfl,ku c mc,_,rfl,D,_,rfl,.inl (.of ab),rfl,Q3 _,_,rfl,?_⟩;rw[str c];by_cases e:ur c i∈d.map (·.1)
   ·refine jV (by rw[Aw e];rfl) ⟨_,rfl,l,?_⟩;rw[snoc,if_neg (λz=>z e),zak];exact y
   ·refine j4 (by rw[Dx e];rfl) ⟨_,rfl,_,rfl,_,_,rfl,rfl,yC,zbI _,by omega,_,_,rfl,rfl,ku c mc,_,y,by rw[ta];exact qh (by omega),_,rfl,qi.upd l hW,?_⟩;rw[snoc,if_pos e,tj];exact qa
  rintro p X ⟨v0,rfl,l,y⟩;rw[Ui]at y;have y:X W=some (.lst ((w9 (d.map (·.1)) i ZA).map V.str)):=y;obtain⟨D,_⟩:=zW (N:=d.map (·.1)) ah hN;obtain⟨tl,ef⟩:∃tl,w9 (d.map (·.1)) i ZA=NB (d.map (·.1)) i::tl:=by
   cases e:w9 (d.map (·.1)) i ZA with
   | nil=>rw[e]at D;cases D
   | cons a b=>rw[e]at D;cases D;exact⟨b,rfl⟩
  rw[ef]at y;have ao:=l _ _ (sp _ _ U);have ap:=l _ _ am;have gi:YG (d.map (·.1)) (h.map (·.1)) j.1=NB (d.map (·.1)) i:=by
   unfold YG;congr 1;have e1:(h.map (·.1))[i]?=some j.1:=by rw[tw,x];rfl
   obtain⟨D,h2⟩:=td.mp e1;rw[<-h2];exact v.good.nd.idxOf_getElem i D
  have nk:(Sum.inr j.1:qF)∉(((h.take i).map (·.1)).map λz=>((Sum.inr z:qF),V.str (YG (d.map (·.1)) (h.map (·.1)) z))).map (·.1):=λhm=>by
   rw[zam]at hm;obtain⟨z,D,ez⟩:=tc.mp hm;have aq:z=j.1:=Sum.inr.inj ez;rw[aq,List.map_take]at D;have e1:(h.map (·.1))[i]?=some j.1:=by rw[tw,x];rfl
   exact kj v.good.nd e1 D
  refine⟨_,rfl,W,_,0,_,rfl,rfl,.of y,ZY,_,rfl,_,rfl,r,_,0,_,rfl,rfl,.of ao,ZY,Da,_,rfl,.inl ⟨_,(Sum.inr j.1:qF),ap,rfl,qh (by rw[ta,ta,tE];omega),rfl⟩,?_⟩;refine⟨_,_,_,rfl,(ai.same l).at_d,?_⟩;rw[qa,yU nk,tz,x,tj,tj];show some (HO.dK (_++[((Sum.inr j.1:qF),V.str (NB (d.map (·.1)) i))]))=some (HO.dK (_++[((Sum.inr j.1:qF),V.str (YG (d.map (·.1)) (h.map (·.1)) j.1))]));rw[gi]
 rintro σ Y ⟨v4,v5,v6,rfl,C,hY⟩;rw[ta,v.rows.1,tu (tf _)]at hY;have gY:=(kp C).1;have aj:qi H Y:=λb u y=>C _ _ ((s1.trans B) _ _ y) (qj (s1 _ _ y) ag);have dg:∀{X:Hp} {z:Str},qi Y X->z∈h.map (·.1)->ju X Da (.str z) (some (.str (YG (d.map (·.1)) (h.map (·.1)) z))):=λ{X z} l D=>by
  rw[<-valV_map (g:=λz=>V.str (YG (d.map (·.1)) (h.map (·.1)) z)) D];exact ju.k (k:=(Sum.inr z:qF)) (l _ _ hY)
 refine⟨_,rfl,m,rfl,⟨_,.of gY.at_⟩,λlm ae=>?_⟩;refine jc (K:=K) (a:=m) (xs:=qs.map V.ref) (λo p X=>∃(v0 v1:Option V) (y:List Addr),p=[v0,v1,some (.ref Da)]/\qi Y X/\X lm=some (.lst (y.map V.ref))/\qY X y ((xD (d.map (·.1)) h).take o)) ⟨none,none,[],rfl,qd ae,qa,rfl,λi J _ e=>(nomatch e)⟩ (λo p X _ ⟨_,_,_,_,l,_⟩=>.of (l _ _ gY.at_)) ?_ ?_
 ·rintro o y' p X L ⟨v0,v1,y,rfl,l,J,ee⟩;obtain⟨r,q',j,rfl,x,O,U,eb⟩:=(gY.rows.mono l).item L;have hj:=(td.mp x).1;have B:=ee.1;rw[tE]at B;have D:j.1∈h.map (·.1):=tc.mpr ⟨j,O,rfl⟩;refine⟨r,_,rfl,.of U,rfl,_,_,rfl,_,_,rfl,rfl,_,rfl,_,rfl,Da,_,rfl,dg l D,_,rfl,q',rfl,⟨_,.of eb⟩,λW hW=>?_⟩;refine Ua (K:=K) (a:=q') (xs:=j.2.map V.str) (λk r Z=>∃v0,r=[v0,some (.ref Da)]/\qi X Z/\Z W=some (.lst (((j.2.take k).map (YG (d.map (·.1)) (h.map (·.1)))).map V.str))) ⟨none,rfl,qd hW,qa⟩ (λk r Z _ ⟨_,_,B,_⟩=>.of (B _ _ eb)) ?_ ?_
  ·rintro k _ r Z D ⟨v0,rfl,B,C⟩;obtain⟨z,ez,L,rfl⟩:=jO D;have D:=(td.mp ez).1;have D:=qf.two v.good O;refine⟨_,rfl,_,rfl,Da,_,rfl,dg (l.trans B) (v.good.to j O z L),_,C,by rw[ta,ta,tE];exact qh (by omega),_,rfl,qi.upd B hW,?_⟩;rw[qa,tz,ez,tj,tj];rfl
  rintro r Z ⟨v0,rfl,B,C⟩;rw[ta,tu (tf _)]at C;refine⟨W,_,rfl,.inl ⟨.of C,λr O=>⟨JB,λC D=>?_⟩⟩⟩;have L:qi Z (upd (upd Z r (.tup ((j.2.map (YG (d.map (·.1)) (h.map (·.1)))).map V.str))) C (.tup [.str (YG (d.map (·.1)) (h.map (·.1)) j.1),.ref r])):=(qd O).trans (qd D);have O:upd (upd Z r (.tup ((j.2.map (YG (d.map (·.1)) (h.map (·.1)))).map V.str))) C (.tup [.str (YG (d.map (·.1)) (h.map (·.1)) j.1),.ref r]) r=some (.tup ((j.2.map (YG (d.map (·.1)) (h.map (·.1)))).map V.str)):=ql qa D;have U:upd (upd Z r (.tup ((j.2.map (YG (d.map (·.1)) (h.map (·.1)))).map V.str))) C (.tup [.str (YG (d.map (·.1)) (h.map (·.1)) j.1),.ref r]) C=some (.tup [.str (YG (d.map (·.1)) (h.map (·.1)) j.1),.ref r]):=qa;generalize upd (upd Z r (.tup ((j.2.map (YG (d.map (·.1)) (h.map (·.1)))).map V.str))) C (.tup [.str (YG (d.map (·.1)) (h.map (·.1)) j.1),.ref r])=D at L O U;have D:=B.trans L;have B:=D _ _ J;refine⟨_,B,by rw[ta];exact qh (by omega),_,_,y++[C],rfl,qi.upd (l.trans D) ae,by rw[tj];exact qa,?_⟩;have C:(xD (d.map (·.1)) h).take (o+1)=(xD (d.map (·.1)) h).take o++[(YG (d.map (·.1)) (h.map (·.1)) j.1,j.2.map (YG (d.map (·.1)) (h.map (·.1))))]:=by
   unfold xD;rw[tz,tw,x];rfl
  rw[C];exact qY.upd_lst (qY.snoc (q:=r) (ee.mono D) U O) B
 rintro p X ⟨v0,v1,y,rfl,l,J,ee⟩;have j:(xD (d.map (·.1)) h).take (qs.map V.ref).length=xD (d.map (·.1)) h:=tu (by rw[ta,v.rows.1];unfold xD;rw[ta];exact tf _);rw[j]at ee;have o:H lm=none:=jE aj ae;have j:(xD (d.map (·.1)) h).length=h.length:=ta ..;exact q X lm y _ (aj.trans l) o ⟨J,ee,Nx v.good hN lb,by rw[j];exact v.pos,by rw[j];exact v.le⟩ (by rw[j];exact lb) (uk hN lb)
open PySem L2 MLab Rb
open PyProof.Rows hiding K lo
def jC.kf(h:jC H l ps rs)(hd:H d=some (.dK kv))(k:Kf H d H'):jC H' l ps rs:=by
 have ne:∀{b:Addr} {u:HO},H b=some u->(∀kv,u≠.dK kv)->b≠d:=λj n e=>by
  rw[e,hd]at j;exact n _ (tA.inj j).symm
 exact⟨k _ _ h.at_ (ne h.at_ λ_ z=>nomatch z) (λ_ z=>nomatch z),⟨h.rows.1,λi j m o p=>let ⟨q,a,b⟩:=h.rows.2 i j m o p;⟨q,k _ _ a (ne a λ_ z=>nomatch z) (λ_ z=>nomatch z),k _ _ b (ne b λ_ z=>nomatch z) (λ_ z=>nomatch z)⟩⟩,h.good,h.pos,h.le⟩
def JF.kf{H H':Hp}{l m D d:Addr}{ps i:List Addr}{rs us:jG}{o:Obj}{kvs kv:List (qF×V)}{F:Str->W}(h:JF H l m D ps i rs us o kvs F)(hd:H d=some (.dK kv))(k:Kf H d H'):JF H' l m D ps i rs us o kvs F:=by
 have ne:∀{b:Addr} {u:HO},H b=some u->(∀kv,u≠.dK kv)->b≠d:=λi n e=>by
  rw[e,hd]at i;exact n _ (tA.inj i).symm
 exact⟨h.a.kf hd k,h.b.kf hd k,h.dj,h.la,h.lb,⟨k _ _ h.wt.1 (ne h.wt.1 λ_ z=>nomatch z) (λ_ z=>nomatch z),h.wt.2.1,λz i=>let ⟨t,a,b⟩:=h.wt.2.2 z i;⟨t,a,k _ _ b (ne b λ_ z=>nomatch z) (λ_ z=>nomatch z)⟩⟩,h.e1,h.e2⟩
def Eh(h:Q6 K H a xs)(hd:H d=some (.dK kv))(k:Kf H d H'):Q6 K H' a xs:=by
 rcases h with (h | ⟨b,h⟩) | h
 ·exact .inl (.inl (k _ _ h (λe=>by rw[e,hd]at h;cases h) (λ_ z=>nomatch z)))
 ·exact .inl (.inr ⟨b,k _ _ h (λe=>by rw[e,hd]at h;cases h) (λ_ z=>nomatch z)⟩)
 ·exact .inr h
def WV:∀(more kvs:List (qF×V)),(∀p∈more,p.1∉kvs.map (·.1))->(more.map (·.1)).Nodup->jN kvs more=kvs++more
 | [],kvs,_,_=>(zak _).symm
 | p::more,kvs,h,a=>by
  have b:=h p (tO ..);rw[tM,zah]at a;show jN (jD kvs p.1 p.2) more=_;rw[yU b,WV more _ (λq b=>?_) a.2,zbB]
  ·rfl
  ·rw[tj,tN];rintro(z | z)
   ·exact h q (tG _ b) z
   ·have e:q.1=p.1:=tK.mp z;exact a.1 (tc.mpr ⟨q,b,e⟩)
def xS{kvs more:List (qF×V)}{k:qF}{v:V}(h:qO kvs k=some v):qO (kvs++more) k=some v:=by
 unfold qO at*;rw[zcN];obtain⟨_,e,rfl⟩:=zbJ.mp h;rw[e];rfl
def xR{kvs:List (qF×V)}(h:k∉kvs.map (·.1)):qO (kvs++more) k=qO more k:=by
 unfold qO;rw[zcN,zbN.mpr (λa b=>by
  intro c;exact h (tc.mpr ⟨a,b,of_decide_eq_true c⟩)),Option.none_or]
inductive Ki(K:zdM)(vs:List V)(H:Hp)(Q:VK):Prop
 | mk (a:Addr) (ns:List Int):vs=[.ref a]->(Q6 K H a (ns.map V.int))->(ns.length<=63)->(∀H',Q (.bl true) H')->Ki K vs H Q
def UJ(K:zdM):Sp:=λa H Q _=>Ki K a H Q
abbrev Iq:List Str:=["_law_script","_law_k","_law_source_here","_law_rows_here","_law_more","_law_worths_here"]
def EA:qm Iq ["_law_script"] (qg Wg):=Qm
def MZ(F:jL K "law" "law" Wg f h)(B:QB mg)(r:qW K mg "_law_cell_at" UX ["_law_script","_law_k"] q x)(y:qp P w K mg base jh 1 q x ["_law_script","_law_k"] (Kq K))(C:qW K mg "_law_source" zy ["_law_cell"] D J)(L:qp P w K mg base jh 1 D J ["_law_cell"] Uz)(j:qW K mg "_law_rows" UT ["_law_source_here","_law_most"] O T)(l:qp P w K mg base jh 3 O T ["_law_source_here","_law_most"] u9)(U:qW K mg "_law_apart" Xv EX Y ah)(ai:qp P w K mg base jh 1 Y ah EX Et)(o:qW K mg "_law_worths" ZE ["_law_rows_here"] fW aj)(p:qp P w K mg base jh 2 fW aj ["_law_rows_here"] Bh)(hJ:qW K mg "_law_joined_right" KH NF fJ ak)(GJ:qp P w K mg base jh 11 fJ ak NF Bm)(hP:qW K mg "_law_paired_right" KD NF fP al)(GP:qp P w K mg base jh 11 fP al NF Bd)(am:qW K mg "_law_least_right" KG EW an ao)(ap:qp P w K mg base jh 11 an ao EW Bg):
  qp P w K mg base jh 12 f h ["_law_script"] (UJ K):=by
 refine F.okK EA λH Q E hr z=>?_;obtain⟨a,h,rfl,q,_,k⟩:=z;refine⟨_,qb (qP (jq (by rfl) B.rng (qT (qu (W5 rfl) (by rfl) B.max boot_max (jQ qk (qu (uh rfl) (by rfl) B.min boot_min (jQ qk (qu qx (by rfl) B.len boot_len (qT (jv 0))))))))) (qz 1)
   (qb (qG 2 (qD C L (qT (qD r y (jQ (jv 0) (jv 1))))))
   (qb (qG 3 (qD j l (jQ (jv 2) qk)))
   (qb (qG 4 (qD U ai (jQ (jv 3) (qD j l (jQ (jv 2) qk)))))
   (qb (qG 5 (qD o p (qT (jv 3))))
   (qb (q5 (At (jv 5) (qD o p (qT (jv 4))) ⟨rfl,rfl,rfl,rfl⟩))
   (qb (xf (qJ (Qk (jH (qD hJ GJ (FG (jv 2) (jv 3) (jv 4) (jv 5))))) qC qt))
   (qe (qJ (JW.pt (Zw (Qk (jH (qD hP GP (FG (jv 2) (jv 3) (jv 4) (jv 5))))) (Ji (Qk (jH (qD am ap (kA (jv 2) (jv 3) (jv 5)))))))) qC qt)))))))))
  (qe (qr Qz)),?_⟩
 refine⟨_,rfl,a,_,rfl,.inl q,_,_,rfl,_,_,rfl,?_⟩;generalize o:(if (if ((h.map V.int).length:Int) < (4:Int) then ((h.map V.int).length:Int) else (4:Int)) > 1 then (if ((h.map V.int).length:Int) < (4:Int) then ((h.map V.int).length:Int) else (4:Int)) else 1)=j;have l:-(2^62)<=j/\j < 2^62:=by
  rw[<-o];split<;>split<;>omega
 refine⟨j,rfl,l.1,l.2,?_⟩;refine Q0 (λi σ T=>∃v1 v2 v3 v4 v5,σ=[some (.ref a),v1,v2,v3,v4,v5]/\Q6 K T a (h.map V.int)) ⟨_,_,_,_,_,rfl,q⟩ ?_ ?_
 ·rintro i σ T _ ⟨v1,v2,v3,v4,v5,rfl,j⟩;refine⟨_,rfl,_,rfl,a,h,_,rfl,j,by omega,λc=>⟨c,rfl,λd n D hd=>?_⟩⟩;refine⟨_,rfl,d,4,n,D,0,rfl,qa,by decide,by decide,λr x p n2 q l _ y ee good pos le h C=>?_⟩;have J:qi T l:=λb u o=>C b u (ql o hd) (qj o hd);have g2:jC l r x p:=⟨y,ee,good,pos,by omega⟩;have o:=J.seq j;refine⟨_,rfl,_,rfl,d,4,n2,D,q,rfl,h,by decide,by decide,λl q y n3 t3 _ _ C J L O U aq j=>⟨r,l,x,q,p,y,rfl,g2.fr' h j,⟨C,J,L,O,by omega⟩,le,U,λ_ m J y l _ U ar Y=>?_⟩⟩;have g4:=(g2.fr' h j).mono l;have ab:=l _ _ aq;have as:=l.seq (Vm o h j);refine⟨_,rfl,r,x,p,rfl,g4,λ_ j F1 s5 h o e1 _=>?_⟩;have l:=s5 _ _ ab;have au:d≠j:=qj ab h;obtain⟨l,h,b1,c1⟩:=o.at_;refine⟨_,rfl,j,rfl,.inl ⟨_,.inl h⟩,_,rfl,m,J,y,rfl,U.mono s5,λL q F2 s6 C O e2 _=>?_⟩;obtain⟨o,a2,b2,c2⟩:=O.at_;have O:=s6 _ _ h;have av:j≠q:=qj h C;have h:l.length<=14:=by have:=congrArg zav b1;rw[ta,ta,ta]at this;have:=g4.le;omega
  have h:o.length<=14:=by have:=congrArg zav b2;rw[ta,ta,ta]at this;have:=U.le;omega
  refine⟨q,l,o,rfl,O,a2,av,zac (qh (by omega)),?_⟩;have nk:∀z∈y.map (·.1),(Sum.inr z:qF)∉l.map (·.1):=λz h q=>by
   rw[b1]at q;obtain⟨_,aw,C⟩:=tc.mp q;cases C;exact Y z h aw
  have em:jN l o=l++o:=WV o l (λae hp q=>by
   have:ae.1∈o.map (·.1):=tc.mpr ⟨ae,hp,rfl⟩;rw[b2]at this;obtain⟨z,h,C⟩:=tc.mp this;rw[<-C]at q;exact nk z h q) (by rw[b2];exact QN U.good.nd λa _ b _ e=>Sum.inr.inj e)
  rw[em];refine⟨j,_,qa,λq=>?_⟩;rw[jx];have C:Fr L j (upd L j (.frz q (.dK (l++o)))):=Fr.refl.at_d;have af:upd L j (.frz q (.dK (l++o))) j=some (.frz q (.dK (l++o))):=qa;generalize upd L j (.frz q (.dK (l++o)))=H7 at C af;have aa:=s5.trans s6;have ac:=C _ _ (aa _ _ ab) au;have ag:∀{t:Addr} {xs:List V},L t=some (.tup xs)->H7 t=some (.tup xs):=λht=>C _ _ ht λz=>by rw[z,O]at ht;cases ht
  have L:JF H7 r m j x J p y q (l++o) (λz=>if z∈p.map (·.1) then F1 z else F2 z):=by
   refine⟨(g4.mono aa).fr' O C,(U.mono aa).fr' O C,Y,le,ar,⟨af,by rw[tj,b1,b2,tj],λz h=>?_⟩,λR l z h=>?_,λR l z h=>?_⟩
   ·rcases tN.mp h with h | h
    ·obtain⟨t,u,v⟩:=c1 z h;exact⟨t,xS u,by dsimp only;rw[if_pos h];exact ag (s6 _ _ v)⟩
    ·obtain⟨t,u,v⟩:=c2 z h;exact⟨t,by rw[xR (nk z h)];exact u,by dsimp only;rw[if_neg (Y z h)];exact ag v⟩
   ·show (if z∈p.map (·.1) then F1 z else F2 z)=_;rw[if_pos h];exact e1 R l z h
   ·show (if z∈p.map (·.1) then F1 z else F2 z)=_;rw[if_neg (Y z h)];exact e2 R l z h
  have U:=Vm (aa.seq as) O C;refine⟨_,rfl,_,rfl,_,rfl,_,rfl,d,r,m,j,n3,D,t3,x,J,p,y,q,_,_,rfl,ac,L,λn8 C _ h l=>⟨_,rfl,jp ?_⟩⟩;have o:=L.fr ac l;have L:=Vm U ac l;refine⟨_,rfl,_,rfl,_,rfl,_,rfl,d,r,m,j,n8,D,C,x,J,p,y,q,_,_,rfl,h,o,λO U _ l C=>⟨_,rfl,jp ?_⟩⟩;refine⟨_,rfl,_,rfl,_,rfl,d,r,m,j,O,D,U,x,J,p,y,q,_,_,rfl,l,o.kf h C,λ_ _ _ _ j=>⟨_,rfl,jp ?_⟩⟩;exact⟨_,_,_,_,_,rfl,Vm (Eh L h C) l j⟩
 ·rintro σ T ⟨v1,v2,v3,v4,v5,rfl,_⟩;exact k _
open PySem L2 MLab Rb
open PyProof.Rows hiding K lo
structure FZ(K:zdM)(mg:Str->Option Value):Prop where
 jo:∃f fd,qW K mg "joined" UV yY f fd
 ps:∃f fd,qW K mg "pairs_of" KC yY f fd
 pb:∃f fd,qW K mg "pairs_behind" KE Hc f fd
 pd:∃f fd,qW K mg "paired" UU yY f fd
 wo:∃f fd,qW K mg "worth_of" KA ["ground","name"] f fd
structure FY(K:zdM)(mg:Str->Option Value):Prop where
 cell:∃f fd,qW K mg "_law_cell_at" UX ["_law_script","_law_k"] f fd
 source:∃f fd,qW K mg "_law_source" zy ["_law_cell"] f fd
 take:∃f fd,qW K mg "_law_take" Z5 ["_law_source_here","_law_many"] f fd
 names:∃f fd,qW K mg "_law_names" Xn ["_law_source_here","_law_many"] f fd
 leads:∃f fd,qW K mg "_law_leads" Xp VI f fd
 rows:∃f fd,qW K mg "_law_rows" UT ["_law_source_here","_law_most"] f fd
 heap:∃f fd,qW K mg "_law_heap" Yc Rg f fd
 gets:∃f fd,qW K mg "_law_gets" Xq Hd f fd
 worths:∃f fd,qW K mg "_law_worths" ZE ["_law_rows_here"] f fd
 total:∃f fd,qW K mg "_law_total" z8 ["_law_worths_here"] f fd
 out:∃f fd,qW K mg "_law_outcome" DX ["_law_worth"] f fd
 apart:∃f fd,qW K mg "_law_apart" Xv EX f fd
 has:∃f fd,qW K mg "_law_has" vU Wi f fd
 jor:∃f fd,qW K mg "_law_joined_right" KH NF f fd
 par:∃f fd,qW K mg "_law_paired_right" KD NF f fd
 ler:∃f fd,qW K mg "_law_least_right" KG EW f fd
def C2{P:Program}{w:World}{K:zdM}{mg:Str->Option Value}{base:Heap}{f e D j m o:Addr}{i p:zdQ}(F:jL K "law" "law" Wg f i)(h:WF K mg)(B:QB mg)(d:Wk K mg)(G:j7 mg)(T:Qn K mg)(N:Wp K mg)(M:GM K mg e)(Y:Ug K mg)(O:kZ K mg)(a:AR K mg)(b:FZ K mg)(L:FY K mg)(l:Hj K mg D j m)
  (ae:kY K e "rows" "Ground.rows" Xt ["self"] o p) (y:mg "dict"=none) (af:∃t,mg "PAIR_NAMES"=some (.str CK t)):qp P w K mg base jh 12 f i ["_law_script"] (UJ K):=by
 obtain⟨_,_,z⟩:=L.cell;obtain⟨_,_,C⟩:=L.source;obtain⟨fT,_,e⟩:=L.take;obtain⟨_,_,hN⟩:=L.names;obtain⟨_,_,hD⟩:=L.leads;obtain⟨_,_,H⟩:=L.rows;obtain⟨_,_,m⟩:=L.heap;obtain⟨f1,_,h1⟩:=L.gets;obtain⟨f2,_,J⟩:=L.worths;obtain⟨_,_,o⟩:=L.total;obtain⟨_,_,p⟩:=L.out;obtain⟨_,_,Q⟩:=L.apart;obtain⟨_,_,i⟩:=L.has;obtain⟨_,_,U⟩:=L.jor;obtain⟨_,_,h8⟩:=L.par;obtain⟨_,_,h9⟩:=L.ler;obtain⟨g1,_,k1⟩:=b.jo;obtain⟨g2,_,k2⟩:=b.ps;obtain⟨g3,_,k3⟩:=b.pb;obtain⟨_,_,k4⟩:=b.pd;obtain⟨_,_,x⟩:=b.wo;obtain⟨_,_,q⟩:=a.al;obtain⟨_,_,b2⟩:=a.lg;obtain⟨_,_,r⟩:=a.need;obtain⟨_,_,c1⟩:=O.place;obtain⟨_,_,c2⟩:=O.lw;obtain⟨_,_,b⟩:=O.outc;obtain⟨_,_,xM⟩:=l.m;obtain⟨_,_,j⟩:=M.cls;have u:=pin P w mg base (zB j B G T N r);have v:=pin P w mg base (C4 i.fn h x (CV x.fn h B d G T M Y c1 c2));have aa:=pin P w mg base (G0 q.fn h B d G T M Y O a);have GH:=pin P w mg base (GF m.fn B e);have x:=pin P w mg base (MV b.fn h B d G T M Y O);have ab:=pin P w mg base (E4 p.fn B);have ac:=pin P w mg base (Gr o.fn B T);exact MZ F B z (M7 z.fn B) C (wy C.fn B) H (MU H.fn B G e hN hD) Q (E8 Q.fn G T) J (kh J.fn B T y h1)
  U (C3 U.fn B G j u k1 (E5 k1.fn B G T N M r ae l) i v e q aa m GH b x p ab o ac)
  h8 (CZ h8.fn B G j u k4 (E2 k4.fn B G T N M r l k2 k3 af) i v e b x p ab o ac xM.ns xM)
  h9 (C1 h9.fn B G y j u b2 (C0 b2.fn h B d G T N M Y O a) i v q aa m GH b x)
open PySem L2 MLab
open PyProof.Rows hiding K lo
def kss:zaN K (.type "str") (.type "str")=some true:=by kernel_rfl
def ktt:zaN K (.type "tuple") (.type "tuple")=some true:=by kernel_rfl
def kll:zaN K (.type "list") (.type "list")=some true:=by kernel_rfl
def kii:zaN K (.type "int") (.type "int")=some true:=by kernel_rfl
def kib:zaN K (.type "int") (.type "bool")=some false:=by kernel_rfl
def MF(K:zdM)(n q:Str)(s:Stmt)(f:Addr):Prop:=∃a,jL K n q s f a
def MF.mk'{K:zdM}{x a:Str}{st:Stmt}{f:Addr}{d:Value}{e h:Option Addr}{i:Array (Option Value)}{kV j pm b ct:Value}(l:K.lookup f=some ⟨d,e,.func (zbg x a (Q8 st) (j5 st) (qg st) .none kV j pm h b ct),i⟩)(c:zbw K b a=true)(k:zaD K (.ref f)=true):MF K x a st f:=⟨_,Yo l c k⟩
def HF(K:zdM)(n:Str)(s:Stmt)(f:Addr):Prop:=t8 K mainGlobals n=some (some (.ref f))/\MF K n n s f
def HF.mk'{K:zdM}{x:Str}{st:Stmt}{f:Addr}{d:Value}{e h:Option Addr}{i:Array (Option Value)}{kV j pm b ct:Value}(a:t8 K mainGlobals x=some (some (.ref f)))(l:K.lookup f=some ⟨d,e,.func (zbg x x (Q8 st) (j5 st) (qg st) .none kV j pm h b ct),i⟩)(c:zbw K b x=true)(k:zaD K (.ref f)=true):HF K x st f:=⟨a,_,Yo l c k⟩
def HF.has(l:HF K n s f)(X:K.In h)(G:h.Ns mainGlobals mg)(b:∀{d},jL K n n s f d->jZ K d ps []:=by exact λF=>F.binds λ_ _ _ _ _ _ us e=>by first | (obtain⟨_,rfl⟩:=Dj e;rfl) | (obtain⟨_,_,rfl⟩:=vh e;rfl) | (obtain⟨_,_,_,rfl⟩:=Di e;rfl) | (obtain⟨_,_,_,_,rfl⟩:=FA e;rfl) | (obtain⟨_,_,_,_,_,rfl⟩:=len5 e;rfl)):∃d,qW K mg n s ps f d:=let ⟨a,d,F⟩:=l;⟨d,F,zaL X G a,b F⟩
def QF(K:zdM)(C:Addr)(n q:Str)(s:Stmt)(f:Addr):Prop:=(tX K (.ref C) n=some (some (.ref f))/\zbu K (.ref f)=true)/\MF K n q s f
def QF.mk'{K:zdM}{C:Addr}{x d:Str}{st:Stmt}{f:Addr}{h:Value}{i j:Option Addr}{m:Array (Option Value)}{kV o pm e ct:Value}(a:tX K (.ref C) x=some (some (.ref f)))(b:zbu K (.ref f)=true)(l:K.lookup f=some ⟨h,i,.func (zbg x d (Q8 st) (j5 st) (qg st) .none kV o pm j e ct),m⟩)(c:zbw K e d=true)(k:zaD K (.ref f)=true):QF K C x d st f:=⟨⟨a,b⟩,_,Yo l c k⟩
def QF.has(l:QF K C n q s f)(b:∀{d},jL K n q s f d->jZ K d ps []:=by exact λF=>F.binds λ_ _ _ _ _ _ us e=>by first | (obtain⟨_,rfl⟩:=Dj e;rfl) | (obtain⟨_,_,rfl⟩:=vh e;rfl) | (obtain⟨_,_,_,rfl⟩:=Di e;rfl) | (obtain⟨_,_,_,_,rfl⟩:=FA e;rfl) | (obtain⟨_,_,_,_,_,rfl⟩:=len5 e;rfl)):∃d,kY K C n q s ps f d:=let ⟨⟨a,c⟩,d,F⟩:=l;⟨d,F,⟨a,c,F.kp⟩,b F⟩
def Ef(es:Array DictEntry):Bool:=es.all λe=>match e.key with | .str _ _=>true | _=>false
def N1(h:Ef es=true):StrKeys es:=by
 intro e a;have q:=Array.all_eq_true'.mp h e a;revert q;cases a:e.key<;>intro q<;>first | exact⟨_,_,rfl⟩ | (dsimp only at q;cases q)
def XF(K:zdM)(D:Addr)(x b eH:Str)(st:Stmt)(C f:Addr):Prop:=∀{h:Heap} {d:Str->Option Value},K.In h->h.Ns mainGlobals d->(∀h:Heap,K.In h->OwnTail h JR (.ref D::JR))->(∀{a},jL K "__init__" b st f a->jZ K a ["self",eH] [])->∃a,uo K d D x b st eH C f a
def XF.mk'{K:zdM}{D:Addr}{C:Addr}{f:Addr}{x:Str}{a:Str}{eH:Str}{st:Stmt}{d q:Str}{N:Addr}{bs:List Value}{e:Bool}{h:List Str}{sub:List Value}{i:Bool}{j:Option Bool}{m:Option Addr}{o p r u v:Option Value}{B:Value}{H J:Option Addr}{L:Array (Option Value)}{kV O pm y ct:Value}
  (Q:t8 K mainGlobals x=some (some (.ref C)))
  (z:K.lookup C=some (excClassObj d q C N bs (.ref D::JR) e h sub i j m o p r u v "ValueError.__new__"))
  (T:tX K (.ref C) "__init__"=some (some (.ref f))) (U:zbu K (.ref f)=true) (l:K.lookup f=some ⟨B,H,.func (zbg "__init__" a (Q8 st) (j5 st) (qg st) .none kV O pm J y ct),L⟩) (c:zbw K y a=true) (k:zaD K (.ref f)=true) (Y:zaD K (.ref C)=true)
  (a6:tX K (.ref C) "__getattribute__"=some (some (.builtin "BaseException.__getattribute__"))) (a7:tX K (.ref C) "__getattr__"=some none)
  (a8:tX K (.ref C) "__setattr__"=some (some (.builtin "object.__setattr__"))) (a9:zbr K C=true)
  (aa:zca K C (.type "BaseException")=some true) (ac:zca K C (.type "object")=some true)
  (ae:tX K (.ref C) "__class__"=some (some (.builtin "object.__class__"))) (af:tX K (.ref C) eH=some none):XF K D x a eH st C f:=λX G a b=>
 ⟨_,⟨a6,a7,a8,a9,⟨_,by unfold PySem.W.clsIn;rw[z],rfl⟩,aa,ac,ae⟩,⟨⟨d,q,N,bs,e,h,sub,i,j,m,o,p,r,u,v,z⟩,a,T,U,Y⟩,zaL X G Q,af,Yo l c k,b (Yo l c k)⟩
def all_mk{l:PySem.W.OpenLaw}{w:World}{K:zdM}{h:Heap}{mg:Str->Option Value}{m:Addr}(X:K.In h)(G:h.Ns mainGlobals mg)(ap:mg "law"=some (.ref m))
  {fO fL fT fN fD fR aq ar as au av aw ax ay az p aA aB aC aD aE aF q r u x y aG aH aI aJ aK aL aM aN aO aP aQ aR aS aT aU aV aW aX aY aZ a0 a1 a2 a3 a4 a5 a6 j a7 a8 a9 d z C H J i L Q T U aa a' ab bb:Addr}
  {b:Addr} {bc ac:Option Addr} {bd:Array (Option Value)} {be ae af ag o ah:Value}
  {a:Addr}
  {CN:Addr}
  {CE:Addr}
  {bf:Tok}
  {bg:Tok}
  {bh:Tok}
  {bi:Tok}
  {bj:Tok}
  {bl:Tok}
  {bm:Tok}
  {bn:Tok}
  {D:Addr} {bp bq:Str} {ai:Addr} {br bt:List Value} {bu bv:Bool} {bw:List Str} {bz:Option Bool} {bA:Option Addr} {bB bC bD bE bF:Option Value} {bG:Value} {bH:Option Addr} {es:Array DictEntry} {ep:Nat} {bI:Array (Option Value)}
  (lO:HF K "_law_cell_at" UX fO)
  (lL:HF K "_law_source" zy fL)
  (lT:HF K "_law_take" Z5 fT)
  (lN:HF K "_law_names" Xn fN)
  (lD:HF K "_law_leads" Xp fD)
  (lR:HF K "_law_rows" UT fR)
  (aj:HF K "is_name" Z7 aq)
  (bJ:HF K "is_tuple_of_names" Xk ar)
  (bK:HF K "is_row" Yd as)
  (bL:HF K "need_form" WI au)
  (bM:HF K "need_own_names" MC av)
  (bN:HF K "need_ends" yL aw)
  (bO:HF K "need_few_roads" KL ax)
  (bP:HF K "need_rows" Z6 ay)
  (bQ:HF K "lacking" Jb az)
  (ak:HF K "set_of" z9 p)
  (bR:HF K "numbers_behind" Bv aA)
  (bS:HF K "gets_number" Xs aB)
  (bT:HF K "round_of" Ya aC)
  (bU:HF K "give_number" UW aD)
  (bV:HF K "give_numbers" VA aE)
  (bW:HF K "labels_of" YW aF)
  (bX:HF K "is_whole" ZC q)
  (bY:HF K "is_number" zz r)
  (bZ:HF K "is_set" Xr u)
  (b0:HF K "set_turned" YV x)
  (al:HF K "numbers_in" zd y)
  (b1:HF K "sum_of" Xl aG)
  (b2:HF K "need_place" Yb aH)
  (b3:HF K "need_heap" Vz aI)
  (b4:HF K "label_worth" DW aJ)
  (b5:HF K "worth_by" MB aK)
  (b6:HF K "heap_worth" Ha aL)
  (b7:HF K "outcome" Xm aM)
  (b8:HF K "worths_told" Vw aN)
  (b9:HF K "first_places" Hb aO)
  (b':HF K "least_row" yK aP)
  (ca:HF K "least_ground" EF aQ)
  (cb:HF K "alike" Ye aR)
  (cc:HF K "joined" UV aS)
  (cd:HF K "pairs_of" KC aT)
  (ce:HF K "pairs_behind" KE aU)
  (cf:HF K "paired" UU aV)
  (cg:HF K "worth_of" KA aW)
  (ch:HF K "_law_heap" Yc aX)
  (ci:HF K "_law_gets" Xq aY)
  (cj:HF K "_law_worths" ZE aZ)
  (ck:HF K "_law_total" z8 a0)
  (cl:HF K "_law_outcome" DX a1)
  (cm:HF K "_law_apart" Xv a2)
  (cn:HF K "_law_has" vU a3)
  (co:HF K "_law_joined_right" KH a4)
  (cp:HF K "_law_paired_right" KD a5)
  (cq:HF K "_law_least_right" KG a6)
  (cr:t8 K mainGlobals "law"=some (some (.ref b)))
  (cs:K.lookup b=some ⟨be,bc,.func (zbg "law" "law" (Q8 Wg) (j5 Wg) (qg Wg) .none ae af ag ac o ah),bd⟩)
  (ct:zbw K o "law"=true)
  (cu:zaD K (.ref b)=true)
  (cv:t8 K mainGlobals "Ground"=some (some (.ref a)))
  (cw:zbv K a Str.empty=true)
  (cx:zbr K a=true)
  (cy:zbS K a=true)
  (cz:tX K (.ref a) "__setattr__"=some (some (.builtin "object.__setattr__")))
  (cA:zcd K a=true)
  (cB:tX K (.ref a) "__init__"=some (some (.ref j)))
  (cC:zbu K (.ref j)=true)
  (cD:zaD K (.ref a)=true)
  (cE:tX K (.ref a) "order"=some none)
  (cF:tX K (.ref a) "roads"=some none)
  (cG:MF K "__init__" "Ground.__init__" vV j)
  (cH:QF K a "names" "Ground.names" YX a7)
  (cI:QF K a "roads_from" "Ground.roads_from" VB a8)
  (cJ:QF K a "rows" "Ground.rows" Xt a9)
  (cK:t8 K mainGlobals "Numbered"=some (some (.ref CN)))
  (cL:zbv K CN Str.empty=true)
  (cM:zbr K CN=true)
  (cN:zbS K CN=true)
  (cO:tX K (.ref CN) "__setattr__"=some (some (.builtin "object.__setattr__")))
  (cP:zcd K CN=true)
  (cQ:tX K (.ref CN) "__init__"=some (some (.ref d)))
  (cR:zbu K (.ref d)=true)
  (cS:zaD K (.ref CN)=true)
  (cT:tX K (.ref CN) "number"=some none)
  (cU:MF K "__init__" "Numbered.__init__" Xo d)
  (cV:tX K (.ref CN) "__class__"=some (some (.builtin "object.__class__")))
  (cW:zca K CN (.type "object")=some true)
  (cX:QF K CN "told" "Numbered.told" Vy z)
  (cY:QF K CN "outcome" "Numbered.outcome" KF C)
  (cZ:QF K CN "plus" "Numbered.plus" vT H)
  (c0:QF K CN "is_endless" "Numbered.is_endless" yJ J)
  (c1:t8 K mainGlobals "Endless"=some (some (.ref CE)))
  (c2:zbv K CE Str.empty=true)
  (c3:zbr K CE=true)
  (c4:zbS K CE=true)
  (c5:tX K (.ref CE) "__setattr__"=some (some (.builtin "object.__setattr__")))
  (c6:zcd K CE=true)
  (c7:tX K (.ref CE) "__init__"=some (some (.ref i)))
  (c8:zbu K (.ref i)=true)
  (c9:zaD K (.ref CE)=true)
  (c':tX K (.ref CE) "bits"=some none)
  (da:MF K "__init__" "Endless.__init__" Xu i)
  (db:tX K (.ref CE) "__class__"=some (some (.builtin "object.__class__")))
  (dc:zca K CE (.type "object")=some true)
  (dd:QF K CE "told" "Endless.told" VD L)
  (de:QF K CE "outcome" "Endless.outcome" KM Q)
  (df:QF K CE "plus" "Endless.plus" vW T)
  (dg:QF K CE "is_endless" "Endless.is_endless" yM U)
  (dh:t8 K mainGlobals "len"=some none)
  (di:t8 K mainGlobals "max"=some none)
  (dj:t8 K mainGlobals "min"=some none)
  (dk:t8 K mainGlobals "int"=some none)
  (dm:t8 K mainGlobals "range"=some none)
  (am:t8 K mainGlobals "isinstance"=some none)
  (dn:t8 K mainGlobals "str"=some none)
  (dp:t8 K mainGlobals "all"=some none)
  (dq:t8 K mainGlobals "enumerate"=some none)
  (dr:t8 K mainGlobals "sum"=some none)
  (ds:t8 K mainGlobals "sorted"=some none)
  (dt:t8 K mainGlobals "list"=some none)
  (du:t8 K mainGlobals "reversed"=some none)
  (dv:t8 K mainGlobals "set"=some none)
  (dw:t8 K mainGlobals "tuple"=some none)
  (dx:t8 K mainGlobals "dict"=some none)
  (dy:t8 K mainGlobals "bool"=some none)
  (m1:t8 K mainGlobals "LETTERS"=some (some (.str "abcdefghijklmnopqrstuvwxyz" bf)))
  (m2:t8 K mainGlobals "LONGEST_NAME"=some (some (.int 8 bg)))
  (m3:t8 K mainGlobals "MOST_PLACES"=some (some (.int 14 bh)))
  (m4:t8 K mainGlobals "MOST_ROADS"=some (some (.int 40 bi)))
  (m5:t8 K mainGlobals "MOST_NUMBER"=some (some (.int 15 bj)))
  (m6:t8 K mainGlobals "MOST_BITS"=some (some (.int 65535 bl)))
  (m7:t8 K mainGlobals "MOST_TOKENS"=some (some (.int 8 bm)))
  (m8:t8 K mainGlobals "PAIR_NAMES"=some (some (.str "abcdefghijklmn" bn)))
  (d3:t8 K mainGlobals "HeapError"=some (some (.ref D)))
  (an:K.lookup D=some (excClassObj bp bq D ai br JR bu bw bt bv bz bA bB bC bD bE bF "ValueError.__new__"))
  (dz:K.lookup ai=some ⟨bG,bH,.dict es ep,bI⟩)
  (dA:Ef es=true)
  (dB:nsFind es (zdN "__init__")=none)
  (dC:XF K D "Twice" "Twice.__init__" "found" Vx aa a')
  (dD:XF K D "TooMany" "TooMany.__init__" "found" Qw ab bb)
  (d4:zdx K (.builtin "object.__class__") "__get__"=some (some (.builtin "getset_descriptor.__get__")))
  (d5:zdK K (.builtin "object.__class__")=some true)
  (ne:CN≠CE)
  :
  ∃fd:zdQ,(∀(s:Shared) (v:Value),BindsTo s fd ⟨[v],[]⟩ [("_law_script",v)])/\∀base:Heap,K.In base->base.Ns mainGlobals mg->qp l.prog w K mg base jh 12 m fd ["_law_script"] (UJ K):=by
 have e:=ap.symm.trans (zaL X G cr);cases e;obtain⟨_,dE⟩:=ak.has (ps:=["numbers"]) X G;obtain⟨_,dF⟩:=bX.has (ps:=["thing"]) X G;obtain⟨_,dG⟩:=bY.has (ps:=["thing"]) X G;obtain⟨_,dH⟩:=bZ.has (ps:=["thing"]) X G;obtain⟨_,dI⟩:=b0.has (ps:=["bits","number"]) X G;obtain⟨_,dJ⟩:=al.has (ps:=["bits"]) X G;have dK:=Yo (st:=Wg) cs ct cu;obtain⟨_,ao⟩:=cG;have dM:NM K mg a j _:=⟨⟨cw,cx,cy,cz⟩,⟨cA,cB,cC,cD⟩,zaL X G cv,cE,cF,ao,ao.binds (ps:=["self","rows"]) λ_ _ _ _ _ _ m b=>by obtain⟨_,_,rfl⟩:=vh b;rfl⟩;obtain⟨_,dN⟩:=cH.has (ps:=["self"]);obtain⟨_,dO⟩:=cI.has (ps:=["self","name"]);obtain⟨_,dQ⟩:=cJ.has (ps:=["self"]);obtain⟨_,j⟩:=cU;have dR:Cl K mg "Numbered" "Numbered.__init__" "number" Xo CN d _:=⟨⟨cL,cM,cN,cO⟩,⟨cP,cQ,cR,cS⟩,zaL X G cK,cT,j,j.binds (ps:=["self","number"]) λ_ _ _ _ _ _ m b=>by obtain⟨_,_,rfl⟩:=vh b;rfl,cV,cW⟩;obtain⟨_,dS⟩:=cX.has (ps:=["self"]);obtain⟨_,dT⟩:=cY.has (ps:=["self"]);obtain⟨_,dU⟩:=cZ.has (ps:=["self","other"]);obtain⟨_,dV⟩:=c0.has (ps:=["self"]);obtain⟨_,j⟩:=da;have dW:Cl K mg "Endless" "Endless.__init__" "bits" Xu CE i _:=⟨⟨c2,c3,c4,c5⟩,⟨c6,c7,c8,c9⟩,zaL X G c1,c',j,j.binds (ps:=["self","bits"]) λ_ _ _ _ _ _ m b=>by obtain⟨_,_,rfl⟩:=vh b;rfl,db,dc⟩;obtain⟨_,dX⟩:=dd.has (ps:=["self"]);obtain⟨_,dY⟩:=de.has (ps:=["self"]);obtain⟨_,dZ⟩:=df.has (ps:=["self","other"]);obtain⟨_,d0⟩:=dg.has (ps:=["self"]);have j:∀h:Heap,K.In h->OwnTail h JR (.ref D::JR):=λh X=>.own (X _ _ an) ⟨_,es,ep,X _ _ dz,rfl,N1 dA,λ_=>rfl⟩ dB .base;have d6:ND K D:=⟨JR,⟨_,_,_,_,_,_,_,_,_,_,_,_,_,_,_,an⟩,rfl⟩;obtain⟨_,d1⟩:=dC X G j λF=>F.binds λ_ _ _ _ _ _ m b=>by obtain⟨_,_,rfl⟩:=vh b;rfl
 obtain⟨_,d2⟩:=dD X G j λF=>F.binds λ_ _ _ _ _ _ m b=>by obtain⟨_,_,rfl⟩:=vh b;rfl
 have B:QB mg:=⟨zae X G dh,zae X G di,zae X G dj,zae X G dk,zae X G dm⟩;have b:j7 mg:=⟨zae X G ds,zae X G dt,zae X G du,zae X G dv,zae X G dw⟩;have j:Qn K mg:=⟨zae X G am,zae X G dn,zae X G dp,zae X G dq,zae X G dr,⟨_,zaL X G m1⟩,⟨_,zaL X G m2⟩,⟨_,zaL X G m3⟩,⟨_,zaL X G m4⟩,kss,ktt,kll⟩;have m:Wp K mg:=⟨⟨_,aj.has X G⟩,⟨_,bJ.has X G⟩,⟨_,bK.has X G⟩,⟨_,bL.has X G⟩,⟨_,bM.has X G⟩,⟨_,bN.has X G⟩,⟨_,bO.has X G⟩⟩;have M:GM K mg a:=⟨⟨_,_,dM⟩,⟨_,_,dN⟩,⟨_,_,dO⟩,⟨_,aj.has X G⟩⟩;have Y:Ug K mg:=⟨⟨_,bQ.has X G⟩,⟨_,ak.has X G⟩,⟨_,bR.has X G⟩,⟨_,bS.has X G⟩,⟨_,bT.has X G⟩,⟨_,bU.has X G⟩,⟨_,bV.has X G⟩,⟨_,bW.has X G⟩⟩;have a:Wk K mg:=⟨zae X G am,zae X G dy,kii,kib,⟨_,zaL X G m5⟩,⟨_,zaL X G m6⟩⟩;let wf:WF K mg:=⟨CN,CE,d,i,z,L,C,Q,H,T,J,U,q,r,u,x,y,p,_,_,_,_,_,_,_,_,_,_,_,_,_,_,_,_,ne,dR,dW,dS,dX,dT,dY,dU,dZ,dV,d0,dF,dG,dH,dI,dJ,dE⟩;have O:kZ K mg:=⟨⟨_,b2.has X G⟩,⟨_,b3.has X G⟩,⟨_,b4.has X G⟩,⟨_,b1.has X G⟩,⟨_,b5.has X G⟩,⟨_,b6.has X G⟩,⟨_,b7.has X G⟩,⟨_,zaL X G m7⟩⟩;have d:AR K mg:=⟨⟨_,al.has X G⟩,⟨_,b8.has X G⟩,⟨_,b9.has X G⟩,⟨_,b'.has X G⟩,⟨_,ca.has X G⟩,⟨_,cb.has X G⟩,⟨_,bP.has X G⟩⟩;have i:FZ K mg:=⟨⟨_,cc.has X G⟩,⟨_,cd.has X G⟩,⟨_,ce.has X G⟩,⟨_,cf.has X G⟩,⟨_,cg.has X G⟩⟩;have Z:FY K mg:=⟨⟨_,lO.has X G⟩,⟨_,lL.has X G⟩,⟨_,lT.has X G⟩,⟨_,lN.has X G⟩,⟨_,lD.has X G⟩,⟨_,lR.has X G⟩,⟨_,ch.has X G⟩,⟨_,ci.has X G⟩,⟨_,cj.has X G⟩,⟨_,ck.has X G⟩,⟨_,cl.has X G⟩,⟨_,cm.has X G⟩,⟨_,cn.has X G⟩,⟨_,co.has X G⟩,⟨_,cp.has X G⟩,⟨_,cq.has X G⟩⟩;have p:Hj K mg D aa ab:=⟨⟨_,_,d1⟩,⟨_,_,d2⟩⟩;exact⟨zbg "law" "law" (Q8 Wg) (j5 Wg) (qg Wg) .none ae af ag ac o ah,λs v=>.of_eq rfl,λbase _ _=>C2 dK wf B a b j m M Y O d i Z p dQ (zae X G dx) ⟨_,zaL X G m8⟩⟩
def walk{l:PySem.W.OpenLaw}{b:World->Heap->Prop}{d:DefRec}{K:Params->zdM}(j:l.most=some 63)(m:d.params.defaults=[])(o:∀(w:World) (h:Heap),b w h->(K w.params).In h) (F:∀(w:World) (mg:Str->Option Value) (e:Addr) (h:Heap),(K w.params).In h->h.Ns mainGlobals mg->mg d.name=some (.ref e)->
   ∃i:zdQ,(∀(s:Shared) (u:Value),BindsTo s i ⟨[u],[]⟩ [("_law_script",u)])/\∀base:Heap,(K w.params).In base->base.Ns mainGlobals mg->qp l.prog w (K w.params) mg base jh 12 e i ["_law_script"] (UJ (K w.params))):
  PySem.W.WalkO q p r b l.row.toRowW d [] (λf vs=>PySem.call f vs):=
 L2.walk_of (n:=63) (k:=12) (x:="_law_script") (CX:=λ_=>jh) (sp:=λw=>UJ (K w.params)) j (by decide) m ⟨rfl,by decide,by decide,rfl⟩ o F (λ_ _ a b e _ i=>⟨a,b,rfl,i,e,λ_=>rfl⟩) λ_ _ _ _ _ z=>z
end Rh
open PySem PySem.W
open PyProof.Rows hiding K lo
namespace PySem.W.Fast
def tw17200374364387451640:=()
def tw861502493610598483:=()
def tw8574918690776348908:=()
def tw6771355997106205658:=()
def tw16061995869074892340:=()
def tw18168846237328670995:=()
def tw7774113678449685934:=()
def tw13123004630212605000:=()
def tw13141224326027532124:=()
def tw17829434514381053950:=()
def tw4780647409714462502:=()
def tw14769054280063640981:=()
def tw206458477050631689:=()
def tw15934120759103231973:=()
def tw15087498900868403761:=()
def tw2396527541517898223:=()
def tw17397653436517662659:=()
def tw17941610651245897021:=()
def tw17852080271459398996:=()
def tw8699900222566342701:=()
def tw14575388751658381831:=()
def tw1158361714356455011:=()
def tw5323960799030618294:=()
def tw12176265147828701554:=()
def tw1207101557538958131:=()
def tw3374319085511977134:=()
def tw9404705873571188630:=()
def tw15433366417846715934:=()
def tw14334995849660946996:=()
def tw12884060626414724322:=()
def tw8966131664815694762:=()
def tw16520785806668781166:=()
def tw15990004616052873044:=()
def tw6124413428159637790:=()
def tw6327569006664949090:=()
def tw14329579894275425762:=()
def tw16412085850373738351:=()
def tw17137270108147033825:=()
def tw14441679199631801671:=()
def tw8428246938381088814:=()
def tw6798380500665416597:=()
def tw17410218998227585676:=()
def tw3328118118096588273:=()
def tw12550775161083096063:=()
def tw5431711821321733379:=()
def tw12770481643036789091:=()
def tw5890639436620234070:=()
def tw16108870410212019532:=()
def tw16132249320637822498:=()
def tw13813548295540068894:=()
def tw7050804516273991350:=()
def tw10576836333797772347:=()
def tw18003772858949239459:=()
def tw8919978131948313185:=()
def tw10199421320940215857:=()
def tw17592209452093105858:=()
def tw14637863174436434189:=()
def tw8319933024895762948:=()
def tw87601786513091389:=()
def tw16753820520455620202:=()
def tw6828597562223498359:=()
def tw12314708539913122752:=()
def tw7091221385724896812:=()
def tw14939612678797562433:=()
def tw6607644564249050058:=()
def tw10297410513487048360:=()
def tw2827255003249426055:=()
def tw3075201292733833056:=()
def tw15702583709834301711:=()
def tw866717566613908145:=()
def tw4684226298888400098:=()
def tw6858818405166986180:=()
def tw12954591660760965231:=()
def tw694261584828832409:=()
def tw4548300405975405348:=()
def tw5010956058597451964:=()
def tw10510056951384868246:=()
def tw772564365185477556:=()
def tw14022695629967993375:=()
def tw8432719020341155521:=()
def tw14560624547652848805:=()
def tw10539347186207431242:=()
def tw2084650752826471497:=()
def tw17338325484393633139:=()
def tw9689729476882780088:=()
def tw1401067106901849026:=()
def tw11066385474520676512:=()
def tw15565715512253457277:=()
def tw12747814925858328940:=()
def tw3110587219445414310:=()
def tw463774138113389760:=()
def tw16955839230299176341:=()
def tw7478123994339007903:=()
def tw12297992134047619483:=()
def tw11317637306720784765:=()
def tw14196522196718054806:=()
def tw14454166528178196959:=()
def tw4903002758410956813:=()
def tw12431713363859531893:=()
def tw1717767836212652739:=()
def tw13394580363473044415:=()
def tw7001957589650049515:=()
def tw4683681711962371626:=()
def tw14387916025512776202:=()
def tw8122695690928665766:=()
def tw17187875760726034783:=()
def tw11373181179767321252:=()
def tw13953587524928339648:=()
def tw14391293386007564604:=()
def tw18383651708701053236:=()
def tw14564479935002850509:=()
def tw17435391645217708394:=()
def tw11907897558876765624:=()
def tw14553807712399142462:=()
def tw4884199854448574:=()
def tw12740759652641322565:=()
def tw16120054744476736488:=()
def tw15895094517606616290:=()
def tw3592811809046731828:=()
def tw4561898282857576226:=()
def tw11033627544408312984:=()
def tw10698057553749749337:=()
def tw17883462748017686043:=()
def tw1937721966566455358:=()
def tw13444670453868202053:=()
def tw13674586047789940208:=()
def tw16864618592142003386:=()
def tw10295913840692754127:=()
def tw4046790133079468173:=()
def tw4804111812005502284:=()
def tw12269216009862288129:=()
def tw12843764043397292189:=()
def tw9757595895972200118:=()
def tw8737599933303070863:=()
def tw12003660372656728261:=()
def tw1142673529048489019:=()
def tw10341888390210383824:=()
def tw5634867526602368427:=()
def tw2399617604181995578:=()
def tw13946496683202179788:=()
def tw13956191218907399338:=()
def tw8115137120850386438:=()
def tw6631347999910079877:=()
def tw13160504802963445071:=()
def tw1915925776726481438:=()
def tw6408400580700104982:=()
def tw14061609134260724683:=()
def tw3365755272349913518:=()
def tw256976265262469064:=()
def tw14993981098963755598:=()
def tw6542358382571353910:=()
def tw11513857634932158529:=()
def tw12488014758255163090:=()
def tw9510108024173832781:=()
def tw14611616552423853409:=()
def tw3992765435912101610:=()
def tw1825952489489211193:=()
def tw4906484309439969231:=()
def tw6472337539984862722:=()
def tw18293242582946804979:=()
def tw6702445572142316249:=()
def tw5622701340561072331:=()
def tw4309217394794523951:=()
def tw896878414759379649:=()
def tw384561282630992784:=()
def tw14577027041581768965:=()
def tw11692469974320434101:=()
def tw3953844824629472508:=()
def tw18328257000508772394:=()
def tw4849480874435393781:=()
def tw18101783494082082527:=()
def tw12652081859355081885:=()
def tw5274481202262711730:=()
def tw14849461344987154502:=()
def tw14961746396406840608:=()
def tw3713540243193553862:=()
def tw12459912946257978736:=()
def tw5002640475654186023:=()
def tw7220529860990300233:=()
def tw16728255500844073214:=()
def tw7000281897963312321:=()
def tw6046103115902281144:=()
def tw14647417624928369756:=()
end PySem.W.Fast
set_option maxHeartbeats 0
open_top hd for PySem.Challenge.rw_ringheaps_k84_whole_worths_kept
set_option maxRecDepth 100000 in
set_option maxHeartbeats 0 in
theorem PySem.Challenge.cw_ringheaps_k84_whole_worths_kept_holds : PySem.Challenge.rw_ringheaps_k84_whole_worths_kept.Holds := by
 refine hd ?_
 k_fill
 refine Rh.walk (l:=PySem.Challenge.rw_ringheaps_k84_whole_worths_kept) rfl rfl (λw h Y=>PySem.W.kIn_of Y) ?F
 case F=>
   intro w mg fa h KX G fK
   refine' Rh.all_mk KX G fK ..
   any_goals first | (apply Rh.HF.mk'<;>k_is) | (apply Rh.MF.mk'<;>k_is) | (apply Rh.QF.mk'<;>k_is) | (apply Rh.XF.mk'<;>k_is) | k_is | kernel_rfl | rfl | decide
