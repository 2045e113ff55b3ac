import PyProof.Rows.All
import Wide.All
import OpenK.AllK
import Wide.FinOn
import Lean
import PyProof.EqAt
import PyProof.EqKinds
import PyProof.TupleCall
import PySem.Challenge.RW_ringheaps_k71_drawers_and_players
set_option Elab.async false
set_option linter.all false
set_option maxRecDepth 100000
open PySem renaming wpAny_bind → zen, wpAny_pure → zeo, FuncData → zep, sizeLine → zeq
open PySem.Str renaming ofString → zem
open PySem.W renaming Frag → zel
open Array renaming getElem?_eq_some_iff → zaf, length_toList → zaE, getElem?_eq_getElem → zcf, toList_append → zci
open Bool renaming false_ne_true → tK, and_eq_true → zar, false_eq_true → zaR, eq_iff_iff → zba, noConfusion → zcJ, false_and → zcZ, or_eq_true → zdB
open Int renaming toNat_natCast → zaL, emod_lt_of_pos → zbD, zero_add → zbM, emod_nonneg → zbT, fdiv_eq_ediv_of_nonneg → zbZ, natCast_nonneg → zda
open List renaming length_map → tc, getElem?_eq_some_iff → td, getElem?_eq_getElem → tj, getElem?_map → tu, take_of_length_le → tv, length_append → tx, mem_map → tz, map_append → tA, mem_append_right → tE, mem_cons → tH, length_take → tL, mem_singleton → tM, take_add_one → tN, mem_filter → tP, mem_append → tQ, mem_cons_of_mem → tU, map_cons → tV, mem_of_getElem? → tW, mem_cons_self → tX, getElem?_append_right → tY, size_toArray → t6, getElem?_append_left → t7, range → t9, mem_append_left → zac, length_cons → zae, not_mem_nil → zah, append_nil → zaj, nodup_cons → zak, length_range → zal, length_filter_le → zam, eq_nil_of_length_eq_zero → zap, getD_eq_getElem?_getD → zaq, length → zas, filterMap_append → zau, filterMap_cons → zav, length_singleton → zax, filter_append → zay, map_map → zaz, lookup_cons → zaA, mem_range → zaC, length_pos_of_mem → zaG, mem_filterMap → zaH, all_eq_true → zaK, pairwise_iff_getElem → zaM, length_filterMap_le → zaO, length_replicate → zaP, mem_of_mem_head? → zaQ, getElem?_of_mem → zaS, sum_cons → zaT, toArray → zaV, filter_congr → zaX, length_set → zbb, lookup → zbc, mem_nil_iff → zbd, filter_cons → zbe, mem_of_mem_take → zbf, filter_sublist → zbk, getElem?_eq_none → zbl, any_eq_true → zbn, getElem_mem → zbo, getElem?_take_of_lt → zbp, replicate → zbs, nodup_nil → zbt, find?_cons → zbw, filter_map → zbx, contains_cons → zbB, exists_cons_of_ne_nil → zbC, of_mem_zip → zbF, getElem?_range → zbG, map_congr_left → zbH, getElem?_set_self → zbK, filter_eq_nil_iff → zbN, range_succ → zbQ, getElem?_set_ne → zbY, mem_erase_of_ne → zca, map_nil → zcb, mem_of_find?_eq_some → zcg, length_reverse → zch, length_erase_of_mem → zcl, sum_append → zcs, append_of_mem → zct, getElem?_replicate → zcu, pairwise_singleton → zcw, take_sublist → zcy, nodup_append → zcB, foldl_append → zcD, append_assoc → zcF, take_append_drop → zcH, cons_append → zcI, mem_reverse → zcK, nodup_range → zcL, mem_flatMap → zcM, any_cons → zcN, nil_append → zcP, foldl_cons → zcR, length_pos_iff → zcU, all_map → zcV, idxOf_lt_length_of_mem → zcY, drop_zero → zde, getElem?_take → zdf, pairwise_cons → zdg, getElem?_eq_none_iff → zdh, reverse_cons → zdj, ext_getElem? → zdk, all_cons → zdm, Pairwise → zdn, idxOf_lt_length_iff → zdo, length_drop → zdp, getElem_cons_drop → zdy, length_nil → zdA, all_append → zdC, pairwise_reverse → zdE, pairwise_append → zdL, take_zero → zdM, head?_map → zdN, replicate_succ → zdO, findIdx_append → zdP, map_take → zdQ, lookup_append → zdS, find?_eq_none → zdT, map_filterMap → zdV, getElem_idxOf → zdW, any_eq_false → zdY, pairwise_map → zee, map → zef, range' → zei, map_id → zek
open Nat renaming le_refl → tp, lt_of_lt_of_le → tI, ne_of_lt → tO, le_trans → t8, le_of_lt → zab, lt_irrefl → zan, zero_le → zao, lt_trichotomy → zaB, lt_succ_self → zaF, lt_of_le_of_lt → zaI, lt_or_ge → zbj, xor_assoc → zbq, testBit_succ → zbJ, ne_of_gt → zbL, sub_self → zbO, not_lt_zero → zbP, testBit_xor → zbS, lt_succ_of_lt → zbX, xor_self → zce, min_eq_left → zcr, zero_xor → zcE, lt_of_succ_lt → zcG, strongRecOn → zcQ, sub_zero → zcW, succ → zdc, le_of_not_lt → zdq, min_eq_right → zdr, min_le_right → zdt, testBit_zero → zdu, le_of_eq → zdv, xor_zero → zdx, le_succ → zdG, eq_of_testBit_eq → zdK, pos_of_ne_zero → zdU, lt_trans → zeb, zero_add → zec, xor_comm → zed
open Option renaming some → tF, isSome_map → zbi, map_eq_some_iff → zbz, ne_none_iff_exists' → zbE, map_some → zcq, isNone_iff_eq_none → zdi, isSome_iff_exists → zdl, getD_none → zeh
open PySem.F renaming plainAttrs_list → zat, plain_min_loop → zaW, slot_list_append → zaY, type_list_append → zaZ, args_tuple_add_2 → zck, slot_list_extend → zcm, type_list_extend → zcn, entry_tuple_add → zcv, slot_tuple_add → zcz, entry_min_loop → zcC, excBase_ValueError → zdd, slot_list_index → zds, args_dict_eq_2 → zdw, entry_dict_eq → zdD, slot_dict_eq → zdJ
open PySem.Heap renaming get?_push_of_some → tm, lt_size → tJ, get?_push_size → tR, get?_update_other → zag, get?_update_self → zaD, size_push → zbr, get?_none_of_le → zcO, SameBut → zcX
open PySem.W renaming kitOne → tZ, findIn → zaa, nsIn → zad, mg_none_of → zai, keepIn → zaw, mg_of → zaJ, kia_one → zaN, fnOf → zaU, emptyDict → zbg, codeIn → zbh, callWith_K → zbm, hasDictIn → zbu, instObj → zbv, isFn → zby, plainGet → zbA, tabObj → zbI, kla_obj → zbR, methodCall_KW → zbU, plainOver → zbV, specialIn → zbW, envX → zcc, codeHdIn → zcd, mroIn → zcj, makesIn → zco, takesIn → zcp, cellsFrom_some → zcx, fnMade → zcA, plainGet_of → zcS, callWith_K0 → zcT, lookIn → zdb, takerIn → zdz, looks_findIn → zdF, noTabs → zdH, kla_fn → zdI, codeRec_of → zdR, methodObj → zdX, kitx_list → zdZ, kitx_dict → zea, handedIn → zeg, fnX → zej
namespace L2
open PySem PySem.Spec
open PyProof.Rows hiding K lo
abbrev qZ:=Sum Int Str
def Wc:qZ->Value->Bool
 | .inl k,v=>Value.isInt k v
 | .inr x,v=>Value.isStrOf x v
def IR(w:World):qZ->Int
 | .inl k=>hashInt k
 | .inr x=>hashStr w x
def jD:∀{k:qZ} {v:Value},Wc k v=true->(∃i t,k=Sum.inl i/\v=Value.int i t)\/(∃x t,k=Sum.inr x/\v=Value.str x t)
 | .inl i,v,h=>by
  obtain⟨t,e⟩:=Value.isInt_shape h;exact .inl ⟨i,t,rfl,e⟩
 | .inr x,v,h=>by
  obtain⟨t,e⟩:=Value.isStrOf_shape h;exact .inr ⟨x,t,rfl,e⟩
def uk(i:Int)(t:Tok):Wc (.inl i) (.int i t)=true:=by simp [Wc,Value.isInt]
def uj(x:Str)(t:Tok):Wc (.inr x) (.str x t)=true:=by simp [Wc,Value.isStrOf]
def DM(a b:Int):decide ((Sum.inl a:qZ)=Sum.inl b)=(a==b):=by
 by_cases e:a=b
 ·subst e;simp
 ·have h:¬(Sum.inl a:qZ)=Sum.inl b:=λq=>e (Sum.inl.inj q);rw[decide_eq_false h];exact(beq_eq_false_iff_ne.mpr e).symm
def DJ(a b:Str):decide ((Sum.inr a:qZ)=Sum.inr b)=decide (a=b):=by
 by_cases e:a=b
 ·subst e;simp
 ·have h:¬(Sum.inr a:qZ)=Sum.inr b:=λq=>e (Sum.inr.inj q);rw[decide_eq_false h,decide_eq_false e]
def DL(a:Int)(b:Str):decide ((Sum.inl a:qZ)=Sum.inr b)=false:=decide_eq_false (λq=>nomatch q)
def DK(a:Str)(b:Int):decide ((Sum.inr a:qZ)=Sum.inl b)=false:=decide_eq_false (λq=>nomatch q)
def jl(prog:Program)(w:World):PySem.KeyKind prog w qZ where
 is:=Wc
 hash:=IR w
 inj:=λv a b d g=>by
  rcases jD d with ⟨i,t,rfl,rfl⟩ | ⟨x,t,rfl,rfl⟩
  ·rcases jD g with ⟨f,u,rfl,e⟩ | ⟨y,u,rfl,e⟩
   ·injection e with d _;rw[d]
   ·exact nomatch e
  ·rcases jD g with ⟨f,u,rfl,e⟩ | ⟨y,u,rfl,e⟩
   ·exact nomatch e
   ·injection e with d _;rw[d]
 byValue:=λk v h=>by
  rcases jD h with ⟨i,t,rfl,rfl⟩ | ⟨x,t,rfl,rfl⟩<;>rfl
 pyHash:=λg h=>by
  rcases jD g with ⟨i,t,rfl,rfl⟩ | ⟨x,t,rfl,rfl⟩
  ·exact wpAny_pyHash_int h
  ·exact wpAny_pyHash_str h
 eqBool:=λhu g h=>by
  rcases jD hu with ⟨i,t,rfl,rfl⟩ | ⟨x,t,rfl,rfl⟩
  ·rcases jD g with ⟨f,u,rfl,rfl⟩ | ⟨y,u,rfl,rfl⟩
   ·rw[DM]at h;exact wpAny_eqBool_int h
   ·rw[DL]at h;exact SeqAt.EqAt.int_str i t y u _ _ _ _ h
  ·rcases jD g with ⟨f,u,rfl,rfl⟩ | ⟨y,u,rfl,rfl⟩
   ·rw[DK]at h;exact SeqAt.EqAt.str_int x t f u _ _ _ _ h
   ·rw[DJ]at h;exact wpAny_eqBool_str h
 «strs»:=λk x t v h=>by
  rcases jD h with ⟨i,u,rfl,e⟩ | ⟨y,u,rfl,e⟩
  ·exact nomatch e
  ·injection e with d _;subst d;cases v<;>rfl
def vy(prog:Program)(w:World)(i:Int)(t:Tok):(jl prog w).is (.inl i) (.int i t)=true:=uk i t
def vx(prog:Program)(w:World)(x:Str)(t:Tok):(jl prog w).is (.inr x) (.str x t)=true:=uj x t
open PyProof.Rows hiding K lo
inductive V where
 | non | bl (b:Bool) | int (i:Int) | str (x:Str) | byt (b:Array UInt8) | flt (b:UInt64) | ref (a:Addr) | ty (n:String)
 deriving DecidableEq
def qU:V->Value->Prop
 | .non,u=>u=Value.none
 | .bl b,u=>u=Value.bool b
 | .int i,u=>∃t,u=Value.int i t
 | .str x,u=>∃t,u=Value.str x t
 | .byt b,u=>∃t,u=Value.bytes b t
 | .flt b,u=>∃t,u=Value.float b t
 | .ref a,u=>u=Value.ref a
 | .ty n,u=>u=Value.type n
abbrev qP:List V->List Value->Prop:=Paired qU
def qP.length(r:qP xs us):xs.length=us.length:=Paired.length r
def qP.get:∀{xs:List V} {us:List Value} {i:Nat} {x:V},qP xs us->xs[i]?=some x->∃u,us[i]?=some u/\qU x u
 | _,_,_,_,.nil,e=>by simp at e
 | _,_,0,_,.cons a _,e=>by simp at e;subst e;exact⟨_,rfl,a⟩
 | _,_,i+1,x,.cons _ t,e=>by
  obtain⟨u,a,b⟩:=qP.get t (by simpa using e);exact⟨u,by simpa using a,b⟩
def qP.set(r:qU x u):∀{xs:List V} {us:List Value} (i:Nat),qP xs us->qP (xs.set i x) (us.set i u)
 | _,_,_,.nil=>.nil
 | _,_,0,.cons _ t=>.cons r t
 | _,_,i+1,.cons q t=>.cons q (qP.set r i t)
def qP.append:∀{xs a:List V} {us b:List Value},qP xs us->qP a b->qP (xs++a) (us++b)
 | _,_,_,_,.nil,s=>s
 | _,_,_,_,.cons a t,s=>.cons a (qP.append t s)
def qP.take:∀{xs:List V} {us:List Value} (n:Nat),qP xs us->qP (xs.take n) (us.take n)
 | _,_,0,_=>.nil
 | _,_,_+1,.nil=>.nil
 | _,_,n+1,.cons a t=>.cons a (qP.take n t)
def qP.drop:∀{xs:List V} {us:List Value} (n:Nat),qP xs us->qP (xs.drop n) (us.drop n)
 | _,_,0,a=>a
 | _,_,_+1,.nil=>.nil
 | _,_,n+1,.cons _ t=>qP.drop n t
def qP.none_of:∀{xs:List V} {us:List Value} {i:Nat},qP xs us->xs[i]?=none->us[i]?=none:=λ{xs us i} a e=>by
 have b:=a.length;have a:=zdh.mp e;exact zdh.mpr (by omega)
def ZE:Option V->Option Value->Prop
 | some v,some u=>qU v u
 | none,none=>True
 | _,_=>False
def KV:List (κ×V)->List (κ×Value)->Prop:=Paired λ(a:κ×V) (q:κ×Value)=>a.1=q.1/\qU a.2 q.2
def kV:qZ->V
 | .inl i=>.int i
 | .inr x=>.str x
inductive HO where
 | lst (xs:List V)
 | tup (xs:List V)
 | dK (kvs:List (qZ×V)) | dT (kvs:List (List qZ×V))
 | set (S:Int->Bool) (n:Nat)
 | ins (C dx:Addr) (fs:List (Str×V))
 | own (x:Addr)
 | xd (fs:List (Str×V))
 | met (f x:Addr)
 | rng (lo hi:Int)
 | frz (o:Obj) (u:HO)
 | tbl (ps:Array Value)
 | ext (φ:Heap->Prop)
abbrev Hp:=Addr->Option HO
def upd(H:Hp)(a:Addr)(o:HO):Hp:=λb=>if b=a then some o else H b
def qc:upd H a o a=some o:=by unfold upd;rw[if_pos rfl]
def qf(h:b≠a):upd H a o b=H b:=by unfold upd;rw[if_neg h]
def jT:upd (upd H a o) a u=upd H a u:=by
 funext b;unfold upd;split<;>rfl
def FF{H:Hp}(h:H a=some o)(f:H b=some u)(d:o≠u):a≠b:=by
 intro e;subst e;rw[h]at f;exact d (tF.inj f)
def qm{H:Hp}(h:H a=some o)(d:H b=none):a≠b:=by
 intro e;subst e;rw[h]at d;cases d
inductive En(ps:Array Value)(oc:Obj):Prop
 | mk (q:Str) (t:Tok) (vs:Array Value) (t':Tok):ps[0]?=some (.str q t)->oc.data=.fields vs->vs[1]?=some (.str q t')->En ps oc
section
variable(P:Program)(w:World)
def qH(H:Hp)(h:Heap)(a:Addr):HO->Prop
 | .lst xs=>xs.length<=zeq/\∃(fK:List Value) (n:Nat),qP xs fK/\h.get? a=some {cls:=.type "list",data:=.seq fK.toArray n}
 | .tup xs=>xs.length<=zeq/\∃fK:List Value,qP xs fK/\IsTup h a fK.toArray
 | .dK kvs=>kvs.length<=zeq/\(a==sysModules)=false/\∃vs,KV kvs vs/\h.DictOf (jl P w) a vs
 | .dT kvs=>kvs.length<=zeq/\(a==sysModules)=false/\∃xs:List (List qZ×Addr×Value),
  Paired (λ(p:List qZ×V) (q:List qZ×Addr×Value)=>p.1=q.1/\H q.2.1=some (.tup (p.1.map kV))/\qU p.2 q.2.2) kvs xs/\
  ∃o es ep,h.get? a=some o/\o.ExactDict/\o.data=.dict es ep/\es.toList=xs.map (entryOfKey (tupleKind (jl P w)))/\(xs.map (·.1)).Nodup
 | .set S n=>h.SetOf (intKind P w) a S n
 | .ins C dx fs=>H dx=some (.own a)/\fs.length<=1000/\dx≠a/\h.get? a=some (zbv C dx)/\
  ∃mA,h.Ns1 dx mA/\(∀f,ZE (fs.lookup f) (mA f))/\PySem.Within mA (fs.map (·.1))
 | .own _=>∃o,h.get? a=some o
 | .xd fs=>∃mA,h.Ns1 a mA/\∀f,ZE (fs.lookup f) (mA f)
 | .rng lo hi=>∃t u v,h.get? a=some {cls:=.type "range",data:=.fields #[.int lo t,.int hi u,.int 1 v]}
 | .frz o u=>h.get? a=some o/\qH H h a u
 | .tbl ps=>∃ts:Array Value,h.get? a=some {cls:=.none,data:=.fields ts}/\TriplesOk ts.toList/\∀pos cv,codeAmong pos ts.toList=some cv->∃c oc,cv=.ref c/\H c=some (.frz oc (.own a))/\En ps oc
 | .met f x=>h.get? a=some (zdX (.ref f) (.ref x))
 | .ext φ=>φ h/\(∃o,h.get? a=some o)/\∀h1 h2:Heap,φ h1->(∀o,h1.get? a=some o->h2.get? a=some o)->φ h2
def Zd(H:Hp)(h:Heap):Prop:=∀a b,H a=some b->qH P w H h a b
end
def qH.lt(x:qH P w H h a o):a < h.objs.size:=by
 cases o with
 | lst b=>obtain⟨_,_,_,_,e⟩:=x;exact tJ e
 | tup b=>obtain⟨_,_,_,d⟩:=x;exact d.lt
 | dK b=>obtain⟨_,_,_,_,o,_,_,e,_⟩:=x;exact tJ e
 | dT b=>obtain⟨_,_,_,_,o,_,_,e,_⟩:=x;exact tJ e
 | set S n=>obtain⟨o,_,_,_,e,_⟩:=x;exact tJ e
 | ins b d fs=>obtain⟨_,_,_,e,_⟩:=x;exact tJ e
 | own y=>obtain⟨_,e⟩:=x;exact tJ e
 | xd fs=>obtain⟨_,⟨_,_,_,e,_⟩,_⟩:=x;exact tJ e
 | rng lo b=>obtain⟨_,_,_,e⟩:=x;exact tJ e
 | frz b u=>obtain⟨e,_⟩:=x;exact tJ e
 | tbl b=>obtain⟨_,e,_⟩:=x;exact tJ e
 | met f y=>exact tJ (show h.get? a=some _ from x)
 | ext b=>obtain⟨_,⟨_,e⟩,_⟩:=x;exact tJ e
def Paired.mapP{G:α->β->Prop}:∀{d:List α} {e:List β},Paired F d e->(∀a b,F a b->G a b)->Paired G d e
 | _,_,.nil,_=>.nil
 | _,_,.cons d t,f=>.cons (f _ _ d) (Paired.mapP t f)
def qH.stay{H':Hp}{m:Heap}(x:qH P w H h a o)(k:∀b u,(b=a\/H b=some (.own a))->h.get? b=some u->m.get? b=some u)(D:∀b,H b=some (.own a)->H' b=some (.own a))(p:∀b xs,H b=some (.tup xs)->H' b=some (.tup xs))(J:∀b o,H b=some (.frz o (.own a))->H' b=some (.frz o (.own a)):=by exact λ_ _ q=>q):qH P w H' m a o:=by
 induction o with
 | lst xs=>obtain⟨z,j,n,g,e⟩:=x;exact⟨z,j,n,g,k _ _ (.inl rfl) e⟩
 | tup xs=>obtain⟨z,j,g,i,e,c⟩:=x;exact⟨z,j,g,i,k _ _ (.inl rfl) e,c⟩
 | dK r=>obtain⟨z,y,B,g,i,j,l,e,c⟩:=x;exact⟨z,y,B,g,i,j,l,k _ _ (.inl rfl) e,c⟩
 | dT r=>
  obtain⟨z,y,xs,g,i,j,l,e,c⟩:=x;exact⟨z,y,xs,Paired.mapP g λC q z=>⟨z.1,p _ _ z.2.1,z.2.2⟩,i,j,l,k _ _ (.inl rfl) e,c⟩
 | set S n=>obtain⟨i,j,l,t,e,c⟩:=x;exact⟨i,j,l,t,k _ _ (.inl rfl) e,c⟩
 | ins p r fs=>
  obtain⟨d,z,ne,e,p,⟨r,j,l,B,c⟩,g⟩:=x;exact⟨D _ d,z,ne,k _ _ (.inl rfl) e,p,⟨r,j,l,k _ _ (.inr d) B,c⟩,g⟩
 | own y=>obtain⟨i,e⟩:=x;exact⟨i,k _ _ (.inl rfl) e⟩
 | xd fs=>obtain⟨p,⟨r,j,l,e,c⟩,g⟩:=x;exact⟨p,⟨r,j,l,k _ _ (.inl rfl) e,c⟩,g⟩
 | rng lo g=>obtain⟨t,u,v,e⟩:=x;exact⟨t,u,v,k _ _ (.inl rfl) e⟩
 | frz i u g=>obtain⟨e,q⟩:=x;exact⟨k _ _ (.inl rfl) e,g q⟩
 | tbl g=>
  obtain⟨g,e,i,j⟩:=x;exact⟨g,k a _ (.inl rfl) e,i,λpos i q=>let ⟨c,g,l,B,p⟩:=j pos i q;⟨c,g,l,J c g B,p⟩⟩
 | met f y=>
  have e:=x;show m.get? a=some (zdX (.ref f) (.ref y));exact k a _ (.inl rfl) e
 | ext g=>obtain⟨C,⟨o,e⟩,st⟩:=x;exact⟨st _ _ C λo q=>k _ _ (.inl rfl) q,⟨o,k _ _ (.inl rfl) e⟩,st⟩
def Zd.lt(x:Zd P w H h)(e:H a=some o):a < h.objs.size:=(x a o e).lt
def Zd.fresh(x:Zd P w H h)(e:h.objs.size<=a):H a=none:=by
 cases q:H a with
 | none=>rfl
 | some u=>exact absurd (tI (x.lt q) e) (zan _)
def Zd.kept{d:Heap}(x:Zd P w H h)(k:∀b u,h.get? b=some u->d.get? b=some u):Zd P w H d:=λa d e=>
 (x a d e).stay (λb u _ q=>k b u q) (λ_ q=>q) λ_ _ q=>q
def Zd.laid{d:Heap}(x:Zd P w H h)(k:∀b u,h.get? b=some u->d.get? b=some u)(hp:h.objs.size<=a)(new:qH P w (upd H a o) d a o):Zd P w (upd H a o) d:=λb u e=>by
 have d:=x.fresh hp;by_cases f:b=a
 ·subst f;rw[qc]at e;cases e;exact new
 ·rw[qf f]at e;exact(x b u e).stay (λc v _ q=>k c v q) (λc q=>by rwa [qf (qm q d)]) (λc _ q=>by rwa [qf (qm q d)]) (λc o q=>by rwa [qf (qm q d)])
def Rd(H:Hp)(a:Addr)(u:HO):Prop:=H a=some u\/∃b,H a=some (.frz b u)
def Rd.ok(r:Rd H a u)(x:Zd P w H h):qH P w H h a u:=by
 rcases r with r | ⟨b,r⟩
 ·exact x a u r
 ·obtain⟨_,q⟩:=x a _ r;exact q
def Eg:Option HO->Prop
 | some (.lst _)=>True
 | some (.dK _)=>True
 | some (.dT _)=>True
 | some (.set _ _)=>True
 | some (.ins _ _ _)=>True
 | some (.ext _)=>True
 | _=>False
def Zd.write{a:Heap}(ok:Zd P w H h)(d:Eg (H x))(j:e=x\/H e=some (.own x))(k:∀b u,b≠e->h.get? b=some u->a.get? b=some u)(m:∃u,a.get? e=some u)(new:qH P w (upd H x o') a x o'):Zd P w (upd H x o') a:=λb u q=>by
 have l:∀c y,H c=some (.own y)->c≠x:=λc y a z=>by subst z;rwa [a]at d
 by_cases f:b=x
 ·subst f;rw[qc]at q;cases q;exact new
 ·rw[qf f]at q;by_cases g:b=e
  ·have i:H b=some (.own x):=by
    rcases j with z | z
    ·exact absurd (g.trans z) f
    ·rwa [g]
   rw[q]at i;cases i;obtain⟨v,i⟩:=m;exact⟨v,g▸i⟩
  ·refine(ok b u q).stay (λc v i a=>k c v ?_ a) (λc a=>by rwa [qf (l c b a)]) (λc m a=>by rw[qf ((λc m a z=>by subst z;rw[a]at d;exact d) c m a)];exact a) (λc _ a=>by rwa [qf (λz=>by subst z;rw[a]at d;exact d)]);rcases i with rfl | i
   ·exact g
   ·rintro rfl;rcases j with z | z
    ·exact l c b i z
    ·rw[i]at z;cases z;exact f rfl
structure Un(fs ex:List Addr)(H H':Hp)(h h':Heap):Prop where
 keep:∀b o,h.get? b=some o->H b=none->b∉fs->b∉ex->h'.get? b=some o
 slot:∀b o,h.get? b=some o->H b=none->b∈fs->b∉ex->∃sl,h'.get? b=some {o with slots:=sl}
 free:∀b o,h.get? b=some o->H b=none->b∉ex->H' b=none
 there:∀b o,h.get? b=some o->b∉ex->∃o',h'.get? b=some o'
 tups:∀b xs,H b=some (.tup xs)->H' b=some (.tup xs)
 frzs:∀b o u,H b=some (.frz o u)->H' b=some (.frz o u)
 tbls:∀b ps,H b=some (.tbl ps)->∃more,H' b=some (.tbl (ps++more))
def Un.any(u:Un fs ex H g h e)(q:h.get? b=some a)(n:H b=none)(d:b∉ex):∃f,e.get? b=some {a with slots:=f}:=by
 by_cases e:b∈fs
 ·exact u.slot b a q n e d
 ·exact⟨a.slots,u.keep b a q n e d⟩
def Un.kept{h:Heap}{a:Heap}(k:∀b u,h.get? b=some u->a.get? b=some u):Un fs ex H H h a:=
 ⟨λb a q _ _ _=>k b a q,λb a q _ _ _=>⟨a.slots,k b a q⟩,λ_ _ _ n _=>n,λb a q _=>⟨a,k b a q⟩,λ_ _ q=>q,λ_ _ _ q=>q,λ_ _ q=>⟨#[],by rw[q];simp⟩⟩
def Un.refl:Un fs ex H H h h:=Un.kept λ_ _ q=>q
def Un.laid{H:Hp}{h:Heap}{e:Heap}(k:∀b u,h.get? b=some u->e.get? b=some u)(hp:h.objs.size<=a)(d:H a=none):Un fs ex H (upd H a o) h e where
 keep:=λb u q _ _ _=>k b u q
 slot:=λb u q _ _ _=>⟨u.slots,k b u q⟩
 free:=λb u q n _=>by rwa [qf (tO (tI (tJ q) hp))]
 there:=λb u q _=>⟨u,k b u q⟩
 tups:=λb e q=>by rwa [qf (qm q d)]
 frzs:=λb u e q=>by rwa [qf (qm q d)]
 tbls:=λb _ q=>⟨#[],by rw[qf (qm q d),q];simp⟩
def Un.write{H:Hp}{h:Heap}{d:Heap}(f:Eg (H x))(m:e=x\/H e=some (.own x))(k:∀b u,b≠e->h.get? b=some u->d.get? b=some u)(p:∃u,d.get? e=some u):Un fs ex H (upd H x o) h d:=by
 have i:∀b,H b=none->b≠x:=λb n z=>by subst z;rwa [n]at f
 have j:∀b,H b=none->b≠e:=λb n z=>by
  subst z;rcases m with a | a
  ·exact i b n a
  ·rw[n]at a;cases a
 have g:∀b u,H b=some u->¬Eg (some u)->b≠x:=λb u q r z=>by subst z;rw[q]at f;exact r f
 refine⟨λb u q n _ _=>k b u (j b n) q,λb u q n _ _=>⟨u.slots,k b u (j b n) q⟩,λb u q n _=>by rwa [qf (i b n)],λb u q _=>?_,
  λb a q=>by rwa [qf (g b _ q λz=>z)],λb u a q=>by rwa [qf (g b _ q λz=>z)],λb _ q=>⟨#[],by rw[qf (g b _ q λz=>z),q];simp⟩⟩
 by_cases l:b=e
 ·subst l;exact p
 ·exact⟨u,k b u l q⟩
def HD(h:Heap)(H:Hp):List Addr:=(t9 h.objs.size).filter λa=>(H a).isSome
def vC(h:Heap)(H:Hp):Heap:=PySem.W.hideAll h (HD h H)
def uu(h:Heap)(H:Hp):(vC h H).objs.size=h.objs.size:=PySem.W.hideAll_size _ _
def R9{h:Heap}{H:Hp}(e:h.get? b=some o)(n:H b=none):(vC h H).get? b=some o:=
 PySem.W.hideAll_get _ e λa=>by
  have q:=(tP.mp a).2;rw[n]at q;simp at q
def Ag(e:(vC h H).get? b=some o):h.get? b=some o/\H b=none:=by
 have a:=PySem.W.of_hideAll (HD h H) e;refine⟨a,?_⟩;cases q:H b with
 | none=>rfl
 | some x=>
  have z:(vC h H).get? b=none:=PySem.W.hideAll_none (HD h H) (tP.mpr ⟨zaC.mpr (tJ a),by simp [q]⟩);rw[z]at e;cases e
open PyProof.Rows hiding K lo
structure Mod(K:zel)(mg:Str->Option Value)(base:Heap):Prop where
 kin:K.In base
 glob:base.Ns mainGlobals mg
 blt:∃mb,base.Ns builtinsNs mb/\∀x:Str,x≠"__name__"->mb x=bootBuiltins x
 nolimit:base.NoLimit
structure Cx where
 prog:Program
 w:World
 K:zel
 mg:Str->Option Value
 base:Heap
 A:Around
 N:List Str
 s₀:Shared
 H₀:Hp
 env:Env
 outer:List Env
 stack:List Env
 ex:List Addr
 fn:Str->Bool
 calm:Bool
 pn:List (Addr×Obj)
 xe:Value->Shared->Prop
def Yl(l:List Env):List Addr:=l.filterMap (·.frame)
abbrev Cx.fs(X:Cx):List Addr:=Yl X.outer
def Ha(a:Scope)(x:Str):Prop:=a.names.lookup x=some .local\/a.names.lookup x=some .cell\/a.names.lookup x=some .free
def NJ(a:Scope)(x:Str):Prop:=a.names.lookup x=some .local\/a.names.lookup x=some .cell
def Ld(env:Env)(h:Heap)(m:Str->Option Value)(x:Str)(u:Value):Prop:=
 (env.kindOf x=some .local/\m x=some u)\/((env.kindOf x=some .cell\/env.kindOf x=some .free)/\∃c,env.cells.lookup x=some c/\h.IsCell c (some u))
structure Cx.Ok(X:Cx):Prop where
 mod:Mod X.K X.mg X.base
 kind:X.env.scope.kind=.function
 glob:X.env.globals=mainGlobals
 blt:X.env.builtins=builtinsNs
 above:X.s₀.heap.objs.size<=X.env.locals
 inj:∀x y c,X.env.cells.lookup x=some c->X.env.cells.lookup y=some c->x=y
 has:∀x,(X.env.kindOf x=some .cell\/X.env.kindOf x=some .free)->∃c,X.env.cells.lookup x=some c
 cab:∀x c,X.fn x=true->X.env.cells.lookup x=some c->X.s₀.heap.objs.size<=c
 hd:X.calm=true->X.A.handled=none
 frames:X.A.frames=some X.stack
 stk:X.stack=X.outer\/(X.stack=X.env::X.outer/\X.env.frame=some X.env.locals)
 exf:∀b∈X.ex,b≠X.env.locals/\∀x c,X.env.cells.lookup x=some c->c≠b
 bs:∀b o,X.base.get? b=some o->X.s₀.heap.get? b=some o/\X.H₀ b=none
 bsz:X.base.objs.size<=X.s₀.heap.objs.size
 noex:∀b o,X.base.get? b=some o->b∉X.ex
 exfs:∀b∈X.ex,b∉X.fs
 funs:X.s₀.heap.FunFrames X.base X.outer
 frf:∀b∈X.fs,X.H₀ b=none
structure qw(X:Cx)(d_:List (Addr×Obj))(σ:List (Option V))(H:Hp)(s:Shared):Prop where
 ok:X.Ok
 os:s.os=X.s₀.os
 bare:AllBare s.gens
 base:Un X.fs X.ex X.H₀ H X.s₀.heap s.heap
 loc:∃m,s.heap.Ns X.env.locals m/\∀(i:Nat) (x:Str) (v:V),X.N[i]?=some x->σ[i]?=some (some v)->Ha X.env.scope x->∃u,qU v u/\Ld X.env s.heap m x u
 cell:∀x c,X.env.cells.lookup x=some c->∃v,s.heap.IsCell c v
 free:H X.env.locals=none
 freeC:∀x c,X.env.cells.lookup x=some c->H c=none\/(X.fn x=false/\∃o,H c=some (.frz o (.frz o (.own 0))))
 pin:∀p∈X.pn++d_,s.heap.get? p.1=some p.2/\H p.1=none/\p.1≠X.env.locals/\p.1∉X.fs/\∀v,p.2.data≠.cell v
 hok:Zd X.prog X.w H s.heap
 len:σ.length=X.N.length
def Cx.Ok.nofr{X:Cx}(ok:X.Ok)(e:X.base.get? b=some o):b∉X.fs:=λa=>by
 have:=(ok.funs.mem a).1;rw[e]at this;cases this
def qw.bs(I:qw X a d H s):∀b o,X.base.get? b=some o->s.heap.get? b=some o/\H b=none:=λb o e=>
 ⟨I.base.keep b o (I.ok.bs b o e).1 (I.ok.bs b o e).2 (I.ok.nofr e) (I.ok.noex b o e),I.base.free b o (I.ok.bs b o e).1 (I.ok.bs b o e).2 (I.ok.noex b o e)⟩
def qw.bk(I:qw X a d H s):∀b o,X.base.get? b=some o->s.heap.get? b=some o:=λb o e=>(I.bs b o e).1
def qw.mod(I:qw X a b H s):Mod X.K X.mg X.base:=I.ok.mod
def qw.kIn(I:qw X a b H s):X.K.In s.heap:=I.ok.mod.kin.keeps I.bk
def qw.lt(I:qw X b d H s):X.env.locals < s.heap.objs.size:=let ⟨_,a,_⟩:=I.loc;a.lt
def qw.sz(I:qw X a b H s):X.s₀.heap.objs.size<=s.heap.objs.size:=t8 I.ok.above (zab I.lt)
def qw.nofs(I:qw X d e H s)(h:s.heap.objs.size<=a):a∉X.fs:=λb=>by
 obtain⟨_,_,d,_⟩:=I.ok.funs.mem b;exact absurd (tI (tJ d) (t8 I.sz h)) (zan _)
def qw.cne(I:qw X a b H s):∀x c,X.env.cells.lookup x=some c->c≠X.env.locals:=λx c e z=>by
 obtain⟨v,_,a,hd⟩:=I.cell x c e;obtain⟨m,⟨_,_,_,b,d,_⟩,_⟩:=I.loc;rw[z,b]at a;cases a;rw[d]at hd;cases hd
def qw.funs(I:qw X a d H s):s.heap.FunFrames X.base X.outer:=by
 have all:∀(a:List Env),(∀b∈Yl a,b∈X.fs)->X.s₀.heap.FunFrames X.base a->s.heap.FunFrames X.base a:=by
  intro a;induction a with
  | nil=>intro _ _;trivial
  | cons a d g=>
   intro f d;obtain⟨i,⟨L,j,a,l,m,hd⟩,hr⟩:=d;have d:=f L (by unfold Yl;rw[zav,a];exact tX);obtain⟨_,e⟩:=I.base.slot L j m (I.ok.frf L d) d λz=>I.ok.exfs L z d;exact⟨i,⟨L,_,a,l,e,hd⟩,g (λb d=>f b (by unfold Yl;rw[zav,a];exact tU _ d)) hr⟩
 exact all X.outer (λ_ d=>d) I.ok.funs
def qw.stack(I:qw X a b H s):s.heap.FunFrames X.base X.stack:=by
 rcases I.ok.stk with e | ⟨e,a⟩
 ·rw[e];exact I.funs
 ·rw[e];obtain⟨m,b,_⟩:=I.loc;refine .cons (by rw[I.ok.kind];decide) a b ?_ I.funs;exact zcO (t8 I.ok.bsz I.ok.above)
def qw.stkSub(I:qw X d f H s):∀b∈Yl X.stack,b∈X.env.locals::X.fs:=λb a=>by
 rcases I.ok.stk with e | ⟨e,d⟩
 ·rw[e]at a;exact tU _ a
 ·rw[e]at a;unfold Yl at a;rwa [zav,d]at a
def qw.stkFree(I:qw X d f H s):∀b∈Yl X.stack,H b=none:=λb a=>by
 rcases tH.mp (I.stkSub b a) with e | a
 ·rw[e];exact I.free
 ·obtain⟨_,d,f,_⟩:=I.ok.funs.mem a;exact I.base.free b d f (I.ok.frf b a) λz=>I.ok.exfs b z a
def qw.step{H':Hp}{j:Heap}{ch:List Addr}(I:qw X a f H s)(C:∀b∈ch,(b∈X.ex\/X.s₀.heap.objs.size<=b)/\b≠X.env.locals/\(∀x c,X.env.cells.lookup x=some c->c≠b)/\∀p∈X.pn++a,p.1≠b)(keep:∀b o,b≠X.env.locals->b∉X.fs->b∉ch->s.heap.get? b=some o->H b=none->j.get? b=some o)(slot:∀b o,b≠X.env.locals->b∈X.fs->b∉ch->s.heap.get? b=some o->H b=none->∃L,j.get? b=some {o with slots:=L})(free:∀b o,b∉ch->s.heap.get? b=some o->H b=none->H' b=none)(there:∀b o,b∉ch->s.heap.get? b=some o->∃o',j.get? b=some o')(tups:∀b xs,H b=some (.tup xs)->H' b=some (.tup xs))(frzs:∀b o u,H b=some (.frz o u)->H' b=some (.frz o u))(tbls:∀b ps,H b=some (.tbl ps)->∃more,H' b=some (.tbl (ps++more)))(ns:∀m,s.heap.Ns X.env.locals m->j.Ns X.env.locals m)(hok:Zd X.prog X.w H' j)(Q:AllBare g):
  qw X a f H' {s with heap:=j,gens:=g,drawn:=l,toks:=t'}:=by
 have hJ:∀b o,X.s₀.heap.get? b=some o->b≠X.env.locals:=λb o e=>tO (tI (tJ e) I.ok.above);have J:∀b o,X.s₀.heap.get? b=some o->b∉X.ex->b∉ch:=λb o e a r=>by
  rcases(C b r).1 with z | z
  ·exact a z
  ·exact absurd (tI (tJ e) z) (zan _)
 have O:∀x c,X.env.cells.lookup x=some c->∀v,s.heap.IsCell c v->j.IsCell c v:=λx c e v ⟨o,y,hd⟩=>by
  have D:c∉ch:=λz=>(C c z).2.2.1 x c e rfl;rcases I.freeC x c e with g | ⟨_,l,g⟩
  ·by_cases f:c∈X.fs
   ·obtain⟨L,q⟩:=slot c o (I.cne x c e) f D y g;exact⟨_,q,hd⟩
   ·exact⟨o,keep c o (I.cne x c e) f D y g,hd⟩
  ·obtain⟨f,_⟩:=(show qH X.prog X.w H s.heap c (.frz l (.frz l (.own 0))) from I.hok c _ g);obtain⟨B,_⟩:=(show qH X.prog X.w H' j c (.frz l (.frz l (.own 0))) from hok c _ (frzs c l _ g));rw[y]at f;cases f;exact⟨o,B,hd⟩
 refine⟨I.ok,I.os,Q,⟨λb o e n r a=>?_,λb o e n r a=>?_,λb o e n a=>?_,λb o e a=>?_,λb xs e=>tups b xs (I.base.tups b xs e),λb o xs e=>frzs b o xs (I.base.frzs b o xs e),λb ps e=>?_⟩,?_,λx c e=>?_,?_,λx c e=>?_,λp j=>?_,hok,I.len⟩
 ·exact keep b o (hJ b o e) r (J b o e a) (I.base.keep b o e n r a) (I.base.free b o e n a)
 ·obtain⟨L,f⟩:=I.base.slot b o e n r a;obtain⟨L,B⟩:=slot b _ (hJ b o e) r (J b o e a) f (I.base.free b o e n a);exact⟨L,B⟩
 ·obtain⟨o',f⟩:=I.base.there b o e a;exact free b o' (J b o e a) f (I.base.free b o e n a)
 ·obtain⟨o',f⟩:=I.base.there b o e a;exact there b o' (J b o e a) f
 ·obtain⟨a,f⟩:=I.base.tbls b ps e;obtain⟨r,B⟩:=tbls b _ f;exact⟨a++r,by rw[B,Array.append_assoc]⟩
 ·obtain⟨m,a,r⟩:=I.loc;refine⟨m,ns m a,λi x v f B J=>?_⟩;obtain⟨u,L,a⟩:=r i x v f B J;refine⟨u,L,?_⟩;rcases a with a | ⟨k,c,e,z⟩
  ·exact .inl a
  ·exact .inr ⟨k,c,e,O x c e _ z⟩
 ·obtain⟨v,z⟩:=I.cell x c e;exact⟨v,O x c e v z⟩
 ·obtain⟨m,⟨o,_,_,y,_⟩,_⟩:=I.loc;exact free _ o (λz=>(C _ z).2.1 rfl) y I.free
 ·obtain⟨v,o,y,hd⟩:=I.cell x c e;rcases I.freeC x c e with g | ⟨a,l,g⟩
  ·exact .inl (free c o (λz=>(C c z).2.2.1 x c e rfl) y g)
  ·exact .inr ⟨a,l,frzs c l _ g⟩
 ·obtain⟨e,n,ne,a,d⟩:=I.pin p j;have D:p.1∉ch:=λz=>(C p.1 z).2.2.2 p j rfl;exact⟨keep p.1 p.2 ne a D e n,free p.1 p.2 D e n,ne,a,d⟩
def qw.un(I:qw X d f H s)(u:Un X.fs [] H H' s.heap a)(hok:Zd X.prog X.w H' a):qw X d f H' {s with heap:=a,toks:=t'}:=by
 obtain⟨m,⟨a,_,_,f,_⟩,_⟩:=id I.loc;obtain⟨_,g⟩:=u.any f I.free (by simp);exact I.step (ch:=[]) (λ_ z=>nomatch z) (λb a _ d _ e n=>u.keep b a e n d (by simp)) (λb a _ d _ e n=>u.slot b a e n d (by simp)) (λb a _ e n=>u.free b a e n (by simp)) (λb a _ e=>u.there b a e (by simp)) u.tups u.frzs u.tbls (λ_ d=>by
  obtain⟨_,i,j,a,l⟩:=d;rw[f]at a;cases a;exact⟨_,i,j,g,l⟩) hok I.bare
def qw.call(I:qw X a f H s)(u:Un (Yl X.stack) ch H H' s.heap d)(hok:Zd X.prog X.w H' d)(j:AllBare i)(g:∀b∈ch,(b∈X.ex\/X.s₀.heap.objs.size<=b)/\b≠X.env.locals/\(∀x c,X.env.cells.lookup x=some c->c≠b)/\∀p∈X.pn++a,p.1≠b):
  qw X a f H' {s with heap:=d,gens:=i,drawn:=l,toks:=t'}:=by
 obtain⟨m,⟨a,_,_,i,_⟩,_⟩:=id I.loc;obtain⟨_,f⟩:=u.any i I.free λz=>(g _ z).2.1 rfl;exact I.step g (λb a f g d e n=>u.keep b a e n (λz=>(tH.mp (I.stkSub b z)).elim f g) d) (λb a _ _ d e n=>u.any e n d) (λb a d e n=>u.free b a e n d) (λb a d e=>u.there b a e d) u.tups u.frzs u.tbls (λ_ d=>by
  obtain⟨_,g,l,a,o⟩:=d;rw[i]at a;cases a;exact⟨_,g,l,f,o⟩) hok j
def qw.turned{a:Heap}(I:qw X d g H s)(k:∀b o,b≠it->s.heap.get? b=some o->a.get? b=some o)(i:H it=none)(f:it≠X.env.locals)(j:it∈X.ex\/X.s₀.heap.objs.size<=it)(l:∀x c,X.env.cells.lookup x=some c->c≠it)(r:∀p∈X.pn++d,p.1≠it):qw X d g H {s with heap:=a,toks:=t'}:=by
 have d:∀b u,H b=some u->b≠it:=λb u e z=>by rw[z,i]at e;cases e
 refine I.step (ch:=[it]) (λb g=>?_) (λb o _ _ a e _=>k b o (λz=>a (by simp [z])) e) (λb o _ _ a e _=>⟨o.slots,k b o (λz=>a (by simp [z])) e⟩) (λ_ _ _ _ n=>n)
  (λb o a e=>⟨o,k b o (λz=>a (by simp [z])) e⟩) (λ_ _ e=>e) (λ_ _ _ e=>e) (λb _ e=>⟨#[],by rw[e];simp⟩) (λm i=>?_) (λb u e=>?_) I.bare
 ·have e:b=it:=by simpa using g
  subst e;exact⟨j,f,l,r⟩
 ·obtain⟨o,g,j,l,r⟩:=i;exact⟨o,g,j,k _ o (Ne.symm f) l,r⟩
 ·refine(I.hok b u e).stay (λc v a q=>k c v ?_ q) (λ_ q=>q) λ_ _ q=>q;rcases a with z | z
  ·rw[z];exact d b u e
  ·exact d c _ z
def qw.tok(I:qw X a b H s)(t:Nat):qw X a b H {s with toks:=t}:=I.un Un.refl I.hok
def qw.kept{a:Heap}(I:qw X d e H s)(k:∀b u,s.heap.get? b=some u->a.get? b=some u):qw X d e H {s with heap:=a,toks:=t'}:=I.un (Un.kept k) (I.hok.kept k)
def qw.laid{d:Heap}(I:qw X e f H s)(k:∀b u,s.heap.get? b=some u->d.get? b=some u)(hp:s.heap.objs.size<=a)(new:qH X.prog X.w (upd H a o) d a o):
 qw X e f (upd H a o) {s with heap:=d,toks:=t'}:=I.un (Un.laid k hp (I.hok.fresh hp)) (I.hok.laid k hp new)
def qw.write{a:Heap}(I:qw X i j H s)(d:Eg (H x))(f:e=x\/H e=some (.own x))(k:∀b u,b≠e->s.heap.get? b=some u->a.get? b=some u)(g:∃u,a.get? e=some u)(new:qH X.prog X.w (upd H x o) a x o):qw X i j (upd H x o) {s with heap:=a,toks:=t'}:=I.un (Un.write d f k g) (I.hok.write d f k g new)
def qw.pins_of{a:List (Addr×Obj)}(I:qw X d b H s)(h:∀p∈a,s.heap.get? p.1=some p.2/\H p.1=none/\p.1≠X.env.locals/\p.1∉X.fs/\∀v,p.2.data≠.cell v):qw X a b H s:=
 ⟨I.ok,I.os,I.bare,I.base,I.loc,I.cell,I.free,I.freeC,λp a=>(tQ.mp a).elim (λz=>I.pin p (zac _ z)) (h p),I.hok,I.len⟩
def X2{N:List Str}(hN:N.Nodup){i j:Nat}{x:Str}(a:N[i]?=some x)(b:N[j]?=some x):i=j:=by
 obtain⟨_,d⟩:=td.mp a;obtain⟨_,e⟩:=td.mp b;exact(List.getElem_inj hN).mp (d.trans e.symm)
def Yp{Q:Unit->Shared->Prop}(I:qw X j g H s)(hN:X.N.Nodup)(L:X.N[i]?=some x)(l:NJ X.env.scope x)(r:qU v u)(h:∀f,qw X j (g.set i (some v)) H f->(∃a,Heap.SameBut a s.heap f.heap/\(a=X.env.locals\/X.env.cells.lookup x=some a))->Q () f)(hf:X.fn x=true\/X.env.scope.names.lookup x=some .local:=by first | exact .inl rfl | exact .inr rfl | assumption):wpAny M A (storeName X.env x u) Q E s:=by
 obtain⟨m,hn,hl⟩:=id I.loc;have aa:i < g.length:=by rw[I.len];exact(td.mp L).1
 have cne:=I.cne;have ab:∀{a:Addr} {J:Heap},(∃o,s.heap.get? a=some o/\H a=none)->Heap.SameBut a s.heap J->Zd X.prog X.w H J:=λ{a J} j f b p e=>by
  obtain⟨_,_,g⟩:=j;refine(I.hok b p e).stay (λc U j q=>(f.2 c ?_).trans q) (λ_ q=>q) λ_ _ q=>q;rintro rfl;rcases j with rfl | j
  ·rw[g]at e;cases e
  ·rw[g]at j;cases j
 rcases l with B | B
 ·refine wpAny_storeName_local B hn (λJ g f=>?_) (by rw[I.ok.kind];rfl);obtain⟨oL,_,_,D,_⟩:=id hn;refine h _ ⟨I.ok,I.os,I.bare,⟨λb o e n C l=>?_,λb o e n C l=>?_,I.base.free,λb o e l=>?_,I.base.tups,I.base.frzs,I.base.tbls⟩,⟨_,g,λO y v' g p e3=>?_⟩,λy c e=>?_,I.free,I.freeC,λT hp=>?_,ab ⟨oL,D,I.free⟩ f,by simpa using I.len⟩ ⟨_,f,.inl rfl⟩
  ·exact(f.2 b (tO (tI (tJ e) I.ok.above))).trans (I.base.keep b o e n C l)
  ·obtain⟨sl,g⟩:=I.base.slot b o e n C l;exact⟨sl,(f.2 b (tO (tI (tJ e) I.ok.above))).trans g⟩
  ·obtain⟨o',g⟩:=I.base.there b o e l;exact⟨o',(f.2 b (tO (tI (tJ e) I.ok.above))).trans g⟩
  ·by_cases D:O=i
   ·subst D;rw[L]at g;cases g;rw[zbK aa]at p;cases p;exact⟨u,r,.inl ⟨B,by simp⟩⟩
   ·rw[zbY (Ne.symm D)]at p;obtain⟨u',r',q⟩:=hl O y v' g p e3;refine⟨u',r',?_⟩;rcases q with ⟨k,e⟩ | ⟨k,c,e,z⟩
    ·refine .inl ⟨k,?_⟩;have:y≠x:=λe=>D (X2 hN g (e▸L));simp [this,e]
    ·exact .inr ⟨k,c,e,z.sameBut f (cne y c e)⟩
  ·obtain⟨U,z⟩:=I.cell y c e;exact⟨U,z.sameBut f (cne y c e)⟩
  ·obtain⟨e,n,ne,nf,d⟩:=I.pin T hp;exact⟨(f.2 T.1 ne).trans e,n,ne,nf,d⟩
 ·have Y:X.fn x=true:=by
   rcases hf with z | z
   ·exact z
   ·rw[z]at B;cases B
  obtain⟨c,j⟩:=I.ok.has x (.inl B);obtain⟨U,z⟩:=I.cell x c j;refine wpAny_storeName_cell I.ok.kind B j z (λJ ac f=>?_);obtain⟨oc,ae,af⟩:=id z;refine h {s with heap:=J} ⟨I.ok,I.os,I.bare,⟨λb o e n C l=>?_,λb o e n C l=>?_,I.base.free,λb o e l=>?_,I.base.tups,I.base.frzs,I.base.tbls⟩,⟨m,hn.sameBut f (Ne.symm (cne x c j)),λO y v' g p e3=>?_⟩,λy J e=>?_,I.free,I.freeC,λT hp=>?_,ab ⟨oc,ae,(I.freeC x c j).elim id λz=>by rw[Y]at z;cases z.1⟩ f,by simpa using I.len⟩ ⟨c,f,.inr j⟩
  ·exact(f.2 b (tO (tI (tJ e) (I.ok.cab x c Y j)))).trans (I.base.keep b o e n C l)
  ·obtain⟨sl,g⟩:=I.base.slot b o e n C l;exact⟨sl,(f.2 b (tO (tI (tJ e) (I.ok.cab x c Y j)))).trans g⟩
  ·obtain⟨o',g⟩:=I.base.there b o e l;exact⟨o',(f.2 b (tO (tI (tJ e) (I.ok.cab x c Y j)))).trans g⟩
  ·by_cases D:O=i
   ·subst D;rw[L]at g;cases g;rw[zbK aa]at p;cases p;exact⟨u,r,.inr ⟨.inl B,c,j,ac⟩⟩
   ·rw[zbY (Ne.symm D)]at p;obtain⟨u',r',q⟩:=hl O y v' g p e3;refine⟨u',r',?_⟩;rcases q with q | ⟨k,J,e,l⟩
    ·exact .inl q
    ·refine .inr ⟨k,J,e,l.sameBut f ?_⟩;rintro rfl;exact D (X2 hN g (I.ok.inj _ _ _ e j▸L))
  ·by_cases g:J=c
   ·subst g;exact⟨_,ac⟩
   ·obtain⟨j,l⟩:=I.cell y J e;exact⟨j,l.sameBut f g⟩
  ·obtain⟨e,n,ne,nf,d⟩:=I.pin T hp;refine⟨(f.2 T.1 ?_).trans e,n,ne,nf,d⟩;intro q;rw[q,ae]at e;exact d U (by rw[<-(tF.inj e)];exact af)
def zH{Q:Unit->Shared->Prop}(I:qw X b d H s)(hN:X.N.Nodup)(e:X.N[i]?=some x)(f:NJ X.env.scope x)(r:qU v u)(h:∀a,qw X b (d.set i (some v)) H a->Q () a)(g:X.fn x=true\/X.env.scope.names.lookup x=some .local:=by first | exact .inl rfl | exact .inr rfl | assumption):wpAny M A (storeName X.env x u) Q E s:=
 Yp I hN e f r (λa b _=>h a b) g
def qw.call'{a:Shared}(I:qw X d f H s)(g:a.os=s.os)(u:Un (Yl X.stack) ch H H' s.heap a.heap)(hok:Zd X.prog X.w H' a.heap)(i:AllBare a.gens)(j:∀b∈ch,(b∈X.ex\/X.s₀.heap.objs.size<=b)/\b≠X.env.locals/\(∀x c,X.env.cells.lookup x=some c->c≠b)/\∀p∈X.pn++d,p.1≠b):qw X d f H' a:=by
 obtain⟨_,_,_,_,_⟩:=a;have e:=g;subst e;exact I.call u hok i j
abbrev XK:=Value->Option Addr->Hp->Prop
abbrev St:=List (Option V)
abbrev VK:=V->Hp->Prop
abbrev TE:=St->Hp->VK->Prop
abbrev TT:=St->Hp->(Bool->Hp->Prop)->Prop
abbrev TA:=St->Hp->(List V->Hp->Prop)->Prop
structure QN where
 nx:St->Hp->Prop
 rt:VK
 bk:St->Hp->Prop:=λ_ _=>False
 ct:St->Hp->Prop:=λ_ _=>False
abbrev TS:=QN->St->Hp->Prop
inductive EP(X:Cx)(d_:List (Addr×Obj))(σ:St)(Q:VK)(u:Value)(s':Shared):Prop
 | mk (v:_) (H':_):qw X d_ σ H' s'->qU v u->Q v H'->EP X d_ σ Q u s'
inductive TP(X:Cx)(d_:List (Addr×Obj))(σ:St)(Q:Bool->Hp->Prop)(b:Bool)(s':Shared):Prop
 | mk (H':_):qw X d_ σ H' s'->Q b H'->TP X d_ σ Q b s'
inductive AP(X:Cx)(d_:List (Addr×Obj))(σ:St)(Q:List V->Hp->Prop)(us:List Value)(s':Shared):Prop
 | mk (vs:_) (H':_):qw X d_ σ H' s'->qP vs us->Q vs H'->AP X d_ σ Q us s'
def SP(X:Cx)(d:List (Addr×Obj))(D:QN)(f:Flow)(e:Shared):Prop:=
 match f with
 | .next=>∃b a,qw X d b a e/\D.nx b a
 | .brk=>∃b a,qw X d b a e/\D.bk b a
 | .cont=>∃b a,qw X d b a e/\D.ct b a
 | .ret u=>∃v b a,qw X d b a e/\qU v u/\D.rt v a
def PE(X:Cx)(e:Expr)(t:TE):Prop:=
 ∀(b:List (Addr×Obj)) (s:Shared) (a:St) (H:Hp) (Q:VK),qw X b a H s->t a H Q->wpAny (model X.prog X.w) X.A (eval e X.env) (EP X b a Q) X.xe s
@[irreducible] def JE (X:Cx) (e:Expr) (t:TE):Prop:=PE X e t
def JE.of(h:PE X e t):JE X e t:=by unfold JE;exact h
def JE.to(h:JE X e t):PE X e t:=by unfold JE at h;exact h
def PT(X:Cx)(e:Expr)(t:TT):Prop:=
 ∀(b:List (Addr×Obj)) (s:Shared) (a:St) (H:Hp) (Q:Bool->Hp->Prop),qw X b a H s->t a H Q->wpAny (model X.prog X.w) X.A (isTrue e X.env (eval e X.env)) (TP X b a Q) X.xe s
@[irreducible] def JT (X:Cx) (e:Expr) (t:TT):Prop:=PT X e t
def JT.of(h:PT X e t):JT X e t:=by unfold JT;exact h
def JT.to(h:JT X e t):PT X e t:=by unfold JT at h;exact h
def PW(X:Cx)(e:Expr)(t:TT):Prop:=
 ∀(whole:Sem Value) (b:List (Addr×Obj)) (s:Shared) (a:St) (H:Hp) (Q:Bool->Hp->Prop),qw X b a H s->t a H Q->wpAny (model X.prog X.w) X.A (isTrue e X.env whole) (TP X b a Q) X.xe s
def PW.pt(h:PW X e t):PT X e t:=h _
@[irreducible] def JW (X:Cx) (e:Expr) (t:TT):Prop:=PW X e t
def JW.of(h:PW X e t):JW X e t:=by unfold JW;exact h
def JW.to(h:JW X e t):PW X e t:=by unfold JW at h;exact h
def JW.pt(h:JW X e t):JT X e t:=.of h.to.pt
def PA(X:Cx)(d:List Expr)(t:TA):Prop:=
 ∀(pos:Pos) (b:List (Addr×Obj)) (s:Shared) (a:St) (H:Hp) (Q:List V->Hp->Prop),qw X b a H s->t a H Q->wpAny (model X.prog X.w) X.A (spliced (backTo pos (starEach d X.env))) (AP X b a Q) X.xe s
@[irreducible] def JA (X:Cx) (a:List Expr) (t:TA):Prop:=PA X a t
def JA.of(h:PA X a t):JA X a t:=by unfold JA;exact h
def JA.to(h:JA X a t):PA X a t:=by unfold JA at h;exact h
def PS(X:Cx)(st:Stmt)(t:TS):Prop:=
 ∀(a:List (Addr×Obj)) (s:Shared) (b:St) (H:Hp) (D:QN),qw X a b H s->t D b H->wpAny (model X.prog X.w) X.A (exec st X.env) (SP X a D) X.xe s
@[irreducible] def JS (X:Cx) (st:Stmt) (t:TS):Prop:=PS X st t
def JS.of{X:Cx}{st:Stmt}{t:TS}(h:PS X st t):JS X st t:=by unfold JS;exact h
def JS.to{X:Cx}{st:Stmt}{t:TS}(h:JS X st t):PS X st t:=by unfold JS at h;exact h
def NI(X:Cx)(st:List Stmt)(t:TS):Prop:=
 ∀(a:List (Addr×Obj)) (s:Shared) (b:St) (H:Hp) (D:QN),qw X a b H s->t D b H->wpAny (model X.prog X.w) X.A (execs st X.env) (SP X a D) X.xe s
@[irreducible] def Xw (X:Cx) (st:List Stmt) (t:TS):Prop:=NI X st t
def Xw.of{X:Cx}{st:List Stmt}{t:TS}(h:NI X st t):Xw X st t:=by unfold Xw;exact h
def Xw.to{X:Cx}{st:List Stmt}{t:TS}(h:Xw X st t):NI X st t:=by unfold Xw at h;exact h
def jn{α:Type}{t:Sem α}{Q b:α->Shared->Prop}{M:Model}{A:Around}{E:Value->Shared->Prop}{s:Shared}(h:wpAny M A t Q E s)(d:∀a s,Q a s->b a s):wpAny M A t b E s:=wpAny_mono h d λ_ _ x=>x
open PyProof.Rows hiding K lo
inductive A7(i:Nat)(σ:St)(H:Hp)(Q:VK):Prop
 | mk (v:_):σ[i]?=some (some v)->Q v H->A7 i σ H Q
def jg(i:Nat):TE:=λa H Q=>A7 i a H Q
def tC(v:V):TE:=λ_ H Q=>Q v H
def CZ{X:Cx}(hN:X.N[i]?=some x)(a:Ha X.env.scope x)(hd:(x==("__debug__":Str))=false:=by decide)(f:(x==("__classdict__":Str))=false:=by decide):PE X (.Name x pos) (jg i):=by
 intro b s d H Q I h;obtain⟨v,e,h⟩:=h;obtain⟨m,g,j⟩:=I.loc;obtain⟨u,l,o⟩:=j i x v hN e a;have ft:EP X b d Q u s:=⟨v,H,I,l,h⟩;rcases o with ⟨a,j⟩ | ⟨a,c,b,d⟩
 ·exact wpAny_Name (wpAny_loadName_local I.ok.kind a g j ft) hd
 ·rcases a with a | a
  ·exact wpAny_Name (wpAny_loadName_cell I.ok.kind a b d ft) hd
  ·exact wpAny_Name (wpAny_loadName_free I.ok.kind a b d ft f) hd
def qh{X:Cx}{i j pos}:JE X (.Constant (.int i) j pos) (tC (.int i)):=.of (by
 exact λ_ _ _ H _ I h=>wpAny_Constant_int ⟨.int i,H,I.tok _,⟨_,rfl⟩,h⟩)
def Qz{X:Cx}{b j pos}:JE X (.Constant (.bool b) j pos) (tC (.bl b)):=.of (by
 exact λ_ _ _ H _ I h=>Constant_bool ⟨.bl b,H,I,rfl,h⟩)
def Zq{X:Cx}{j pos}:JE X (.Constant .none j pos) (tC .non):=.of (by
 exact λ_ _ _ H _ I h=>Constant_none ⟨.non,H,I,rfl,h⟩)
def qv{X:Cx}{x j pos}:JE X (.Constant (.str x) j pos) (tC (.str x)):=.of (by
 exact λ_ _ _ H _ I h=>Calls.Constant_str ⟨.str x,H,I.tok _,⟨_,rfl⟩,h⟩)
def Gl(X:Cx)(x:Str):Prop:=X.env.kindOf x=some .globalImplicit
def z4{Q:Value->Shared->Prop}(I:qw X d e H s)(a:Gl X x)(b:X.mg x=some u)(h:Q u s)(hd:(x==("__debug__":Str))=false:=by decide):wpAny (model X.prog X.w) X.A (eval (.Name x pos) X.env) Q E s:=
 Calls.Name_function_global I.ok.kind a (Calls.loadGlobal_global (by rw[I.ok.glob];exact I.mod.glob.keeps I.bk) b h) hd
def Jo{Q:Value->Shared->Prop}(I:qw X f g H s)(a:Gl X x)(b:X.mg x=none)(d:bootBuiltins x=some u)(h:Q u s)(e:x≠"__name__":=by decide)(hd:(x==("__debug__":Str))=false:=by decide):wpAny (model X.prog X.w) X.A (eval (.Name x pos) X.env) Q E s:=by
 obtain⟨_,f,g⟩:=I.mod.blt;exact Calls.Name_function_global I.ok.kind a (Calls.loadGlobal_builtin (by rw[I.ok.glob];exact I.mod.glob.keeps I.bk) b (by rw[I.ok.blt];exact f.keeps I.bk) ((g x e).trans d) h) hd
def xi(a:Gl X x)(b:X.mg x=some u)(r:qU v u)(hd:(x==("__debug__":Str))=false:=by decide):PE X (.Name x pos) (tC v):=
 λ_ _ _ H _ I h=>z4 I a b ⟨v,H,I,r,h⟩ hd
def Qt(a:Gl X x)(b:X.mg x=some u)(r:qU v u)(hd:(x==("__debug__":Str))=false:=by decide):JE X (.Name x pos) (tC v):=.of (xi a b r hd)
def Je(a:Gl X x)(b:X.mg x=none)(d:bootBuiltins x=some u)(r:qU v u)(e:x≠"__name__":=by decide)(hd:(x==("__debug__":Str))=false:=by decide):JE X (.Name x pos) (tC v):=.of (by
 exact λ_ _ _ H _ I h=>Jo I a b d ⟨v,H,I,r,h⟩ e hd)
def PC(X:Cx)(op:CmpOp)(a b:Expr)(t:TE):Prop:=
 ∀(e:List (Addr×Obj)) (s:Shared) (d:St) (H:Hp) (Q:VK),qw X e d H s->t d H Q->
  wpAny (model X.prog X.w) X.A (eval a X.env) (λv f=>wpAny (model X.prog X.w) X.A (eval b X.env) (λu g=>wpAny (model X.prog X.w) X.A (compareOp op v u) (EP X e d Q) X.xe g) X.xe f) X.xe s
@[irreducible] def JC (X:Cx) (op:CmpOp) (a b:Expr) (t:TE):Prop:=PC X op a b t
def JC.of(h:PC X op a b t):JC X op a b t:=by unfold JC;exact h
def JC.to(h:JC X op a b t):PC X op a b t:=by unfold JC at h;exact h
inductive tB_(Q:Bool->Hp->Prop)(x:V)(H1:Hp):Prop
 | mk (c:_):x=.bl c->Q c H1->tB_ Q x H1
def tB(t:TE):TT:=λa H Q=>t a H λx a=>tB_ Q x a
def QG(h:JC X op a b t)(e:behindInMarks op b=false:=by first | exact nobehind _ (by decide) (by decide) | rfl):JT X (.Compare a [op] [b] pos) (tB t):=.of (by
 refine λf s g H Q I i=>wpAny_isTrue_Compare1 (jn (h.to f s g H _ I i) λv _ e=>jn e λu _ f=>jn f λc _ ⟨x,f,g,i,j⟩=>?_) e;obtain⟨d,rfl,q⟩:=j;cases i;exact wpAny_truthy_bool ⟨f,g,q⟩)
def jA(h:JE X e t)(a:∀whole,isTrue e X.env whole=(do let v <-whole;standAt e.pos;holding [v] (truthy v)):=by intro _;rfl):JT X e (tB t):=.of (by
 refine λb s f H Q I g=>isTrue_plain (jn (h.to b s f H _ I g) λv _ ⟨x,b,f,g,i⟩=>?_) (a _);obtain⟨d,rfl,q⟩:=i;cases g;exact wpAny_truthy_bool ⟨b,f,q⟩)
def EK(t u:TT):TT:=λa H Q=>t a H λc b=>if c=true then u a b Q else Q false b
def tOr(t u:TT):TT:=λa H Q=>t a H λc b=>if c=true then Q true b else u a b Q
def HH(t:TT):TT:=λa H Q=>t a H λc a=>Q (!c) a
def jK(b:JT X a d):JW X (.BoolOp .And [a] pos) d:=.of (by
 refine λ_ d s f H Q I h=>isTrue_and (jn (b.to d s f H Q I h) λc _ e=>?_);cases c with
 | true=>exact isTrue_and_nil e
 | false=>exact e)
def JU(b:JT X a d):JW X (.BoolOp .Or [a] pos) d:=.of (by
 refine λ_ d s f H Q I h=>isTrue_or (jn (b.to d s f H Q I h) λc _ e=>?_);cases c with
 | false=>exact isTrue_or_nil e
 | true=>exact e)
def jN{X:Cx}{a:Expr}{b:Expr}{pos:Pos}{d:TT}{e:TT}{rest:List Expr}(f:JT X a d)(j:JW X (.BoolOp .And (b::rest) pos) e):JW X (.BoolOp .And (a::b::rest) pos) (EK d e):=.of (by
 refine λl d s e H Q I h=>isTrue_and (jn (f.to d s e H _ I h) λc m ⟨f,g,i⟩=>?_);cases c with
 | true=>exact j.to l d m e f Q g i
 | false=>exact⟨f,g,i⟩)
def zi{X:Cx}{a:Expr}{b:Expr}{pos:Pos}{d:TT}{e:TT}{rest:List Expr}(f:JT X a d)(j:JW X (.BoolOp .Or (b::rest) pos) e):JW X (.BoolOp .Or (a::b::rest) pos) (tOr d e):=.of (by
 refine λl d s e H Q I h=>isTrue_or (jn (f.to d s e H _ I h) λc m ⟨f,g,i⟩=>?_);cases c with
 | true=>exact⟨f,g,i⟩
 | false=>exact j.to l d m e f Q g i)
def Jp(b:JT X a d):JT X (.UnaryOp .Not a pos) (HH d):=.of (by
 exact λd s e H Q I h=>isTrue_not (jn (b.to d s e H (λc b=>Q (!c) b) I h) λc _ ⟨b,d,e⟩=>⟨b,d,e⟩))
inductive u8(tb:TE)(σ:St)(Q:VK)(x:V)(H1:Hp):Prop
 | mk (c:_):x=.bl c->(if c=true then tb σ H1 Q else Q (.bl false) H1)->u8 tb σ Q x H1
def EJ(b d:TE):TE:=λa H Q=>b a H λx b=>u8 d a Q x b
inductive u0(Q:VK)(x:V)(H1:Hp):Prop
 | mk (c:_):x=.bl c->(Q (.bl (!c)) H1)->u0 Q x H1
def EA(a:TE):TE:=λb H Q=>a b H λx a=>u0 Q x a
def YH{X:Cx}{a:Expr}{pos:Pos}{op}{t:TE}(h:JE X a t):JE X (.BoolOp op [a] pos) t:=.of (by
 exact λb s d H Q I e=>BoolOp_one (h.to b s d H Q I e))
def ZU{X:Cx}{a:Expr}{b:Expr}{d:TE}{e:TE}{pos:Pos}{rest:List Expr}(g:JE X a d)(j:JE X (.BoolOp .And (b::rest) pos) e):JE X (.BoolOp .And (a::b::rest) pos) (EJ d e):=.of (by
 refine λe s f H Q I h=>BoolOp_and (jn (g.to e s f H _ I h) λv l ⟨x,g,i,m,d⟩=>?_);obtain⟨c,rfl,d⟩:=d;cases m;refine wpAny_truthy_bool ?_;cases c with
 | true=>exact j.to e l f g Q i d
 | false=>exact⟨.bl false,g,i,rfl,d⟩)
def DS(b:JE X a d):JE X (.UnaryOp .Not a pos) (EA d):=.of (by
 refine λd s e H Q I h=>UnaryOp_ (jn (b.to d s e H _ I h) λv _ ⟨x,d,e,f,b⟩=>?_);obtain⟨c,rfl,b⟩:=b;cases f;exact not_of (wpAny_truthy_bool ⟨.bl (!c),d,e,rfl,b⟩))
open PyProof.Rows hiding K lo
def SqL(K:zel)(H:Hp)(a:Addr)(xs:List V):Prop:=
 Rd H a (.lst xs)\/
  ∃(b:Obj) (d:Array Value) (n:Nat),K.lookup a=some b/\b.cls=.type "list"/\b.dict=none/\b.data=.seq d n/\d.size<=zeq/\qP xs d.toList
def SqT(K:zel)(H:Hp)(a:Addr)(xs:List V):Prop:=
 Rd H a (.tup xs)\/
  ∃(b:Obj) (d:Array Value) (n:Nat),K.lookup a=some b/\b.cls=.type "tuple"/\b.data=.seq d n/\d.size<=zeq/\qP xs d.toList
def IX:Value->Option V
 | .none=>some .non
 | .bool b=>some (.bl b)
 | .int i _=>some (.int i)
 | .str x _=>some (.str x)
 | .bytes b _=>some (.byt b)
 | .float b _=>some (.flt b)
 | .ref a=>some (.ref a)
 | .type n=>some (.ty n)
 | _=>none
def qU.abs(r:qU x u):IX u=some x:=by
 cases x with
 | non=>cases r;rfl
 | bl _=>cases r;rfl
 | int _=>obtain⟨t,rfl⟩:=r;rfl
 | str _=>obtain⟨t,rfl⟩:=r;rfl
 | byt _=>obtain⟨t,rfl⟩:=r;rfl
 | flt _=>obtain⟨t,rfl⟩:=r;rfl
 | ref _=>cases r;rfl
 | ty _=>cases r;rfl
def qU.inj(r:qU x u)(q:qU y u):x=y:=tF.inj (r.abs.symm.trans q.abs)
def qP.inj:∀{xs a:List V} {us:List Value},qP xs us->qP a us->xs=a
 | _,_,_,.nil,.nil=>rfl
 | _,_,_,.cons a t,.cons b d=>by rw[a.inj b,qP.inj t d]
def SqL.of{H:Hp}{a:Addr}{xs:List V}{K:zel}(h:H a=some (.lst xs)):SqL K H a xs:=.inl (.inl h)
def SqT.of{H:Hp}{a:Addr}{xs:List V}{K:zel}(h:H a=some (.tup xs)):SqT K H a xs:=.inl (.inl h)
def qw.list(I:qw X d f H s)(h:SqL X.K H a xs):∃b:List Value,qP xs b/\PlainL s.heap a b.toArray/\xs.length<=zeq:=by
 rcases h with h | ⟨f,b,n,g,i,hd,j,l,d⟩
 ·obtain⟨z,b,n,d,e⟩:=h.ok I.hok;exact⟨b,d,⟨_,n,e,rfl,rfl,rfl⟩,z⟩
 ·refine⟨b.toList,d,⟨f,n,I.kIn a f g,i,hd,by simpa using j⟩,?_⟩;have e:=d.length;simp only[zaE]at e;omega
def qw.tuple(I:qw X d f H s)(h:SqT X.K H a xs):∃b:List Value,qP xs b/\IsTup s.heap a b.toArray/\xs.length<=zeq:=by
 rcases h with h | ⟨f,b,n,g,i,j,l,d⟩
 ·obtain⟨z,b,d,l⟩:=h.ok I.hok;exact⟨b,d,l,z⟩
 ·refine⟨b.toList,d,⟨f,I.kIn a f g,i,n,by simpa using j⟩,?_⟩;have e:=d.length;simp only[zaE]at e;omega
def qw.list_inj(I:qw X f i H s)(h:SqL X.K H a xs)(g:SqL X.K H a b):xs=b:=by
 obtain⟨i,j,⟨_,n,e,_,_,d⟩,_⟩:=I.list h;obtain⟨l,m,⟨_,_,b,_,_,f⟩,_⟩:=I.list g;rw[e]at b;cases b;rw[d]at f;injection f with b _;have:i=l:=by simpa using congrArg Array.toList b
 subst this;exact j.inj m
def qw.tuple_inj(I:qw X f i H s)(h:SqT X.K H a xs)(g:SqT X.K H a b):xs=b:=by
 obtain⟨i,j,⟨_,e,_,n,d⟩,_⟩:=I.tuple h;obtain⟨l,m,⟨_,b,_,_,f⟩,_⟩:=I.tuple g;rw[e]at b;cases b;rw[d]at f;injection f with b _;have:i=l:=by simpa using congrArg Array.toList b
 subst this;exact j.inj m
abbrev Cx.wish(X:Cx)(E:Value->Shared->Prop):Cx:={X with xe:=E}
abbrev Cx.nox(X:Cx):Cx:=X.wish λ_ _=>False
def Cx.Ok.wish{X:Cx}(ok:X.Ok)(E:Value->Shared->Prop):(X.wish E).Ok:=
 ⟨ok.mod,ok.kind,ok.glob,ok.blt,ok.above,ok.inj,ok.has,ok.cab,ok.hd,ok.frames,ok.stk,ok.exf,ok.bs,ok.bsz,ok.noex,ok.exfs,ok.funs,ok.frf⟩
def Cx.Ok.unwish{X:Cx}(ok:(X.wish E).Ok):X.Ok:=
 ⟨ok.mod,ok.kind,ok.glob,ok.blt,ok.above,ok.inj,ok.has,ok.cab,ok.hd,ok.frames,ok.stk,ok.exf,ok.bs,ok.bsz,ok.noex,ok.exfs,ok.funs,ok.frf⟩
def qw.wish(I:qw X a b H s)(E:Value->Shared->Prop):qw (X.wish E) a b H s:=⟨I.ok.wish E,I.os,I.bare,I.base,I.loc,I.cell,I.free,I.freeC,I.pin,I.hok,I.len⟩
def qw.unwish{X:Cx}(I:qw (X.wish E) a b H s):qw X a b H s:=⟨I.ok.unwish,I.os,I.bare,I.base,I.loc,I.cell,I.free,I.freeC,I.pin,I.hok,I.len⟩
def SP.unwish{X:Cx}(h:SP (X.wish E) d D f e):SP X d D f e:=by
 cases f with
 | next=>obtain⟨a,b,I,q⟩:=h;exact⟨a,b,I.unwish,q⟩
 | brk=>obtain⟨a,b,I,q⟩:=h;exact⟨a,b,I.unwish,q⟩
 | cont=>obtain⟨a,b,I,q⟩:=h;exact⟨a,b,I.unwish,q⟩
 | ret u=>obtain⟨v,a,b,I,g,q⟩:=h;exact⟨v,a,b,I.unwish,g,q⟩
def NI.nox{X:Cx}{st:List Stmt}{t:TS}(h:NI X.nox st t):NI X st t:=λa s b H D I d=>
 wpAny_mono (h a s b H D (I.wish _) d) (λ_ _ q=>q.unwish) λ_ _ z=>False.elim z
def UB:TS:=λD a H=>D.nx a H
def uY(t u:TS):TS:=λD a H=>t {D with nx:=u D} a H
def qr:Xw X [] UB:=.of (by
 exact λ_ _ a H _ I h=>wpAny_execs_nil ⟨a,H,I,h⟩)
def qd{X:Cx}{st:Stmt}{rest:List Stmt}{t:TS}{u:TS}(b:JS X st t)(d:Xw X rest u):Xw X (st::rest) (uY t u):=.of (by
 refine λa s e H D I h=>wpAny_execs_cons (jn (b.to a s e H {D with nx:=u D} I h) λf g q=>?_);cases f with
 | next=>
  obtain⟨i,j,l,q⟩:=q;exact d.to a g i j D l q
 | ret v=>exact q
 | brk=>exact q
 | cont=>exact q)
def qe{X:Cx}{st:Stmt}{t:TS}(a:JS X st t):Xw X [st] t:=.of (by
 refine λb s d H D I h=>wpAny_execs_cons (jn (a.to b s d H D I h) λf e q=>?_);cases f with
 | next=>exact wpAny_execs_nil q
 | ret v=>exact q
 | brk=>exact q
 | cont=>exact q)
def qw.quiet(I:qw X a b H s):interactive X.env=false:=by simp [interactive,I.ok.kind]
def Bc(te:TE):TS:=λD a H=>te a H λ_ b=>D.nx a b
def q4{pos:Pos}(b:JE X e te)(hs:swapsWith e none pos.line X.env=pure false:=by rfl):JS X (.Expr e pos) (Bc te):=.of (by
 exact λd s a H D I h=>wpAny_Expr_any (jn (b.to d s a H _ I h) λv _ ⟨x,b,d,_,f⟩=>⟨a,b,d,f⟩) I.quiet hs)
def HG(te:TE):TS:=λD a H=>te a H D.rt
def qo(b:JE X e te):JS X (.Return (some e) pos) (HG te):=.of (by
 exact λd s a H D I h=>wpAny_Return_some (jn (b.to d s a H _ I h) λv _ ⟨x,b,d,f,g⟩=>⟨x,a,b,d,f,g⟩))
def UC(c:TT)(t u:TS):TS:=λD a H=>c a H λb d=>if b=true then t D a d else u D a d
def qA(g:JT X c e)(m:Xw X a t)(o:Xw X b u):JS X (.If c a b pos) (UC e t u):=.of (by
 refine λe s f H D I h=>wpAny_If (jn (g.to e s f H _ I h) λd g ⟨i,j,l⟩=>?_);cases d with
 | true=>exact m.to e g f i D j l
 | false=>exact o.to e g f i D j l)
def Cb:TS:=λ_ _ _=>False
def qS:Xw X a Cb:=.of (by
 exact λ_ _ _ _ _ _ h=>h.elim)
abbrev TG:=V->St->Hp->(St->Hp->Prop)->Prop
abbrev B4:=List V->St->Hp->(St->Hp->Prop)->Prop
def PG(X:Cx)(b_:Expr)(t:TG):Prop:=
 ∀(a:List (Addr×Obj)) (s:Shared) (b:St) (H:Hp) (v:V) (u:Value) (Q:St->Hp->Prop),qw X a b H s->qU v u->t v b H Q->
  wpAny (model X.prog X.w) X.A (assign b_ X.env u) (λ_ e=>∃b d,qw X a b d e/\Q b d) X.xe s
@[irreducible] def JG (X:Cx) (b_:Expr) (t:TG):Prop:=PG X b_ t
def JG.of(h:PG X b_ t):JG X b_ t:=by unfold JG;exact h
def JG.to(h:JG X b_ t):PG X b_ t:=by unfold JG at h;exact h
def I8(X:Cx)(ts:List Expr)(t:B4):Prop:=
 ∀(a:List (Addr×Obj)) (s:Shared) (b:St) (H:Hp) (d:List V) (e:List Value) (Q:St->Hp->Prop),qw X a b H s->qP d e->t d b H Q->
  wpAny (model X.prog X.w) X.A (assignInOrder ((assignEach ts X.env).map (·.2)) e) (λ_ e=>∃b d,qw X a b d e/\Q b d) X.xe s
@[irreducible] def NL (X:Cx) (ts:List Expr) (t:B4):Prop:=I8 X ts t
def NL.of(h:I8 X ts t):NL X ts t:=by unfold NL;exact h
def NL.to(h:NL X ts t):I8 X ts t:=by unfold NL at h;exact h
abbrev Hc:=V->V->V->Hp->(Hp->Prop)->Prop
def Ef(X:Cx)(t:Hc):Prop:=
 ∀(a:List (Addr×Obj)) (s:Shared) (b:St) (H:Hp) (d i v:V) (e f u:Value) (Q:Hp->Prop),qw X a b H s->qU d e->qU i f->qU v u->t d i v H Q->
  wpAny (model X.prog X.w) X.A (setItem e f u) (λ_ e=>∃d,qw X a b d e/\Q d) X.xe s
abbrev Hz:=V->V->Hp->VK->Prop
def PIp(X:Cx)(op:Operator)(t:Hz):Prop:=
 ∀(a:List (Addr×Obj)) (s:Shared) (b:St) (H:Hp) (x y:V) (v u:Value) (Q:VK),qw X a b H s->qU x v->qU y u->t x y H Q->
  wpAny (model X.prog X.w) X.A (inplaceOp op v u) (EP X a b Q) X.xe s
def Qp(i:Nat):TG:=λv a H Q=>Q (a.set i (some v)) H
def za{X:Cx}(hN:X.N.Nodup)(a:X.N[i]?=some x)(b:NJ X.env.scope x)(d:X.fn x=true\/X.env.scope.names.lookup x=some .local:=by first | exact .inl rfl | exact .inr rfl | assumption):JG X (.Name x pos) (Qp i):=.of (by
 exact λ_ s _ H v u Q I e h=>wpAny_assign_Name (zH I hN a b e (λ_ a=>⟨_,H,a,h⟩) d))
def qF{X:Cx}(i:Nat)(a:X.fn x=true\/X.env.scope.names.lookup x=some .local:=by first | exact .inl rfl | exact .inr rfl | assumption)(hN:X.N.Nodup:=by first | assumption | exact ndC)(b:X.N[i]?=some x:=by exact rfl)(d:NJ X.env.scope x:=by first | exact Or.inl rfl | exact Or.inr rfl):JG X (.Name x pos) (Qp i):=za hN b d a
def AG:B4:=λa b H Q=>a=[]/\Q b H
inductive Ng(t:TG)(u:B4)(vs:List V)(σ:St)(H:Hp)(Q:St->Hp->Prop):Prop
 | mk (v:_) (r:_):(vs=v::r)->(t v σ H λf6 H'=>u r f6 H' Q)->Ng t u vs σ H Q
def Wi(t:TG)(u:B4):B4:=λa b H Q=>Ng t u a b H Q
def QX:NL X [] AG:=.of (by
 intro _ s a H _ _ Q I b h;obtain⟨e,h⟩:=h;subst e;cases b;exact assignInOrder_nil ⟨a,H,I,h⟩)
def jh(d:JG X e t)(f:NL X a u)(hs:(assignEach (e::a) X.env).map (·.2)=assign e X.env::(assignEach a X.env).map (·.2):=by rfl):NL X (e::a) (Wi t u):=.of (by
 intro b s g H _ _ Q I a h;obtain⟨v,_,i,h⟩:=h;subst i;cases a with
 | cons a i=>
  rw[hs];exact assignInOrder_cons (jn (d.to b s g H _ _ _ I a h) λ_ a ⟨d,g,j,l⟩=>f.to b a d g _ _ Q j i l))
inductive BY(K:zel)(n:Nat)(t:B4)(v:V)(σ:St)(H:Hp)(Q:St->Hp->Prop):Prop
 | mk (a:_) (xs:_):v=.ref a->SqT K H a xs->xs.length=n->t xs σ H Q->BY K n t v σ H Q
def AF(K:zel)(n:Nat)(t:B4):TG:=λv a H Q=>BY K n t v a H Q
def JV{X:Cx}(g:X.calm=true)(h:NL X d t)(i:(assignEach d X.env).length=n:=by rfl)(j:(assignEach d X.env).findIdx? (·.1)=none:=by rfl):JG X (.Tuple d k pos) (AF X.K n t):=.of (by
 intro l s m H v u Q I f d;obtain⟨a,o,p,q,r,d⟩:=d;subst p;cases f;obtain⟨_,f,p,_⟩:=I.tuple q;exact assign_Tuple_tuple (I.ok.hd g) p (by simp [i,<-r,f.length]) j λ_ g=>h.to l _ m H o _ Q (I.kept λb i e=>g b i (tO (tJ e)) e) (by simpa using f) d)
def F4(to b:TE)(t:Hc):TG:=λv a H Q=>to a H λd e=>b a e λi b=>t d i v b λb=>Q a b
def CY(f:PE X o to)(g:PE X i d)(hs:Ef X t) (j:∀v,assign (.Subscript o i pos) X.env v=(do
  let a <-holding [v] (eval o X.env);let b <-holding [v,a] (eval i X.env)
  standAt pos
  holding [v,a,b] (setItem a b v)
  release [v,a,b] []):=by intro _;rfl):PG X (.Subscript o i pos) (F4 to d t):=by
 intro e s d H v u Q I l h;rw[j];exact zen (wpAny_holding (jn (f e s d H _ I h) λa f ⟨x,j,m,p,q⟩=>zen (wpAny_holding (jn (g e f d j _ m q) λb f ⟨y,g,j,m,q⟩=>zen (wpAny_standAt (zen (wpAny_holding (jn (hs e f d g x y v a b u _ j p m l q) λ_ _ ⟨a,b,e⟩=>wpAny_release ⟨d,a,b,e⟩))))))))
def DR(d:JE X o to)(e:JE X i f)(hs:Ef X t) (g:∀v,assign (.Subscript o i pos) X.env v=(do
 let a <-holding [v] (eval o X.env);let b <-holding [v,a] (eval i X.env)
 standAt pos
 holding [v,a,b] (setItem a b v)
 release [v,a,b] []):=by intro _;rfl):JG X (.Subscript o i pos) (F4 to f t):=.of (CY d.to e.to hs g)
def UE(te:TE)(g:TG):TS:=λD a H=>te a H λx b=>g x a b D.nx
def RN{pos:Pos}(d:JE X e te)(f:JG X a g)(hs:swapsWithSole [a] e pos.line X.env=pure false:=by rfl)(i:swappedStores [a] e X.env=pure none:=by rfl)(j:(assignEach [a] X.env).map (·.2)=[assign a X.env]:=by rfl):JS X (.Assign [a] e pos) (UE te g):=.of (by
 refine λa s b H D I h=>wpAny_Assign_stores (jn (d.to a s b H _ I h) λv d ⟨x,l,m,o,p⟩=>?_) hs i;rw[j];exact jn (f.to a d b l x v _ m o p) λ_ _ q=>q)
def kK{X:Cx}{pos:Pos}(hN:X.N.Nodup)(a:X.N[i]?=some x)(b:NJ X.env.scope x)(d:JE X e te)(hs:swapsWith e (some (.Name x f)) pos.line X.env=pure false:=by rfl)(g:X.fn x=true\/X.env.scope.names.lookup x=some .local:=by first | exact .inl rfl | exact .inr rfl | assumption):JS X (.Assign [.Name x f] e pos) (UE te (Qp i)):=.of (by
 refine λf s j H D I h=>wpAny_Assign_Name (jn (d.to f s j H _ I h) λv _ ⟨y,d,f,j,l⟩=>?_) hs;exact zH f hN a b j (λ_ a=>⟨_,d,a,l⟩) g)
def YV{pos:Pos}(i:Nat)(a:JE X e te)(hs:swapsWith e (some (.Name x b)) pos.line X.env=pure false:=by rfl)(d:X.fn x=true\/X.env.scope.names.lookup x=some .local:=by first | exact .inl rfl | exact .inr rfl | assumption)(hN:X.N.Nodup:=by first | assumption | exact ndC)(f:X.N[i]?=some x:=by exact rfl)(g:NJ X.env.scope x:=by exact Or.inr rfl):JS X (.Assign [.Name x b] e pos) (UE te (Qp i)):=kK hN f g a hs d
def qy{pos:Pos}(i:Nat)(a:JE X e te)(b:X.N[i]?=some x:=by exact rfl)(d:NJ X.env.scope x:=by exact Or.inl rfl)(hs:swapsWith e (some (.Name x f)) pos.line X.env=pure false:=by rfl)(g:X.fn x=true\/X.env.scope.names.lookup x=some .local:=by first | exact .inl rfl | exact .inr rfl | assumption)(hN:X.N.Nodup:=by first | assumption | exact ndC):JS X (.Assign [.Name x f] e pos) (UE te (Qp i)):=kK hN b d a hs g
inductive Be(i:Nat)(te:TE)(ti:Hz)(D:QN)(σ:St)(H:Hp):Prop
 | mk (x:_):σ[i]?=some (some x)->(te σ H λy H1=>ti x y H1 λz H2=>D.nx (σ.set i (some z)) H2)->Be i te ti D σ H
def HP(i:Nat)(te:TE)(a:Hz):TS:=λD b H=>Be i te a D b H
def RM{X:Cx}(hN:X.N.Nodup)(g:X.N[i]?=some x)(b:NJ X.env.scope x)(l:JE X e te)(o:PIp X op p)(q:X.fn x=true\/X.env.scope.names.lookup x=some .local:=by first | exact .inl rfl | exact .inr rfl | assumption):JS X (.AugAssign (.Name x ab) op e pos) (HP i te p):=.of (by
 intro d s j H D I h;obtain⟨v,r,h⟩:=h;obtain⟨m,B,C⟩:=I.loc;obtain⟨u,f,J⟩:=C i x v g r (by rcases b with k | k;exact .inl k;exact .inr (.inl k));refine wpAny_AugAssign_Name ?_;have go:wpAny (model X.prog X.w) X.A (eval e X.env) (λw L=>wpAny (model X.prog X.w) X.A (inplaceOp op u w) (λf O=>wpAny (model X.prog X.w) X.A (storeName X.env x f) (λ_=>SP X d D .next) X.xe O) X.xe L) X.xe s:=by
  exact jn (l.to d s j H _ I h) λw Q ⟨y,T,U,Y,q1⟩=>jn (o d Q j T v y u w _ U f Y q1) λz s2 ⟨zv,H2,I2,r2,q2⟩=>zH I2 hN g b r2 (λs3 I3=>⟨_,H2,I3,q2⟩) q
 rcases J with ⟨a,hm⟩ | ⟨a,c,hc,aa⟩
 ·exact wpAny_loadName_local I.ok.kind a B hm go
 ·rcases a with a | a
  ·exact wpAny_loadName_cell I.ok.kind a hc aa go
  ·rcases b with k | k
   ·have:X.env.scope.names.lookup x=some .free:=a;rw[k]at this;cases this
   ·have:X.env.scope.names.lookup x=some .free:=a;rw[k]at this;cases this)
def ipI(f:Int->Int->Int):Hz:=λx y H Q=>∃i a,x=.int i/\y=.int a/\Q (.int (f i a)) H
def RZ:PIp X .Add (ipI λi j=>i+j):=by
 intro _ s _ H x y v u Q I a b h;obtain⟨i,j,d,e,q⟩:=h;subst d;subst e;obtain⟨t,rfl⟩:=a;obtain⟨_,rfl⟩:=b;exact iadd_int ⟨.int _,H,I.tok _,⟨_,rfl⟩,q⟩
inductive yn(c:TT)(tb:TS)(D:QN)(σ:St)(H:Hp):Prop
 | mk (W:Nat->St->Hp->Prop):((∃m,W m σ H))->(∀m σ H,W m σ H->c σ H λb H1=>if b=true then ∃N:St->Hp->Prop,(∀f6 H',N f6 H'->∃m',m' < m/\W m' f6 H')/\tb {D with nx:=N,ct:=N,bk:=D.nx} σ H1 else D.nx σ H1)->yn c tb D σ H
def uX(c:TT)(a:TS):TS:=λD b H=>yn c a D b H
def ZQ{X:Cx}(hp:PassesOwn (model X.prog X.w) X.A X.env X.xe)(C:JT X c J)(L:Xw X fu O):JS X (.While c fu [] pos) (uX J O):=.of (by
 intro j s Q H D I h;obtain⟨W,⟨T,U⟩,Y⟩:=h;refine wpAny_While (codeAny_whileLoop (λn s'=>∃r u,qw X j r u s'/\W n r u) ?_ T ⟨Q,H,I,U⟩);rintro n s1 ⟨e,x,I1,w1⟩;refine wpAny_passesOwn hp (jn (C.to j s1 e x _ I1 (Y n e x w1)) λb s2 ⟨y,z,g⟩=>?_);cases b with
 | true=>
  obtain⟨N,B,g⟩:=g;rw[if_pos rfl];refine wpAny_passesOwn hp (jn (L.to j s2 e y _ z g) λf s3 i=>?_);cases f with
  | next=>
   obtain⟨a,d,l,m⟩:=i;obtain⟨o,p,q⟩:=B a d m;exact⟨o,p,a,d,l,q⟩
  | cont=>
   obtain⟨a,d,l,m⟩:=i;obtain⟨o,p,q⟩:=B a d m;exact⟨o,p,a,d,l,q⟩
  | brk=>exact i
  | ret v=>exact i
 | false=>
  rw[if_neg tK];exact wpAny_execs_nil ⟨e,y,z,g⟩)
structure It where
 go:Nat->Hp->Prop
 yld:Nat->Hp->V->Hp->Prop
 stop:Nat->Hp->Prop
def Zc(X:Cx)(a:List (Addr×Obj))(H:Hp)(b:Addr):Prop:=
 H b=none/\b≠X.env.locals/\b∉X.fs/\(b∈X.ex\/X.s₀.heap.objs.size<=b)/\(∀x c,X.env.cells.lookup x=some c->c≠b)/\∀d∈X.pn++a,d.1≠b
def qw.fpOk{H':Hp}(I:qw X d g H s)(a:s.heap.objs.size<=b)(f:H' b=none):Zc X d H' b:=by
 refine⟨f,zbL (tI I.lt a),I.nofs a,.inr (t8 I.sz a),λx c e z=>?_,λd f z=>?_⟩
 ·obtain⟨v,q⟩:=I.cell x c e;exact absurd (tI q.lt (z▸a)) (zan _)
 ·exact absurd (tI (tJ (I.pin d f).1) (z▸a)) (zan _)
structure vT(P:Program)(w:World)(K:zel)(tg:Expr)(J:It)(fp:List Addr)(it:Addr)(tn:Nat->Heap->Prop):Prop where
 mem:it∈fp
 obj:∀i h,tn i h->∀b∈fp,∃o,h.get? b=some o/\∀v,o.data≠.cell v
 keep:∀i h h',tn i h->(∀b∈fp,∀o,h.get? b=some o->h'.get? b=some o)->tn i h'
 item:∀(X:Cx),X.prog=P->X.w=w->X.K=K->X.calm=true->∀(i:Nat) (d_:List (Addr×Obj)) (s:Shared) (σ:St) (H:Hp) (E:Value->Shared->Prop),qw X d_ σ H s->(∀b∈fp,Zc X d_ H b)->tn i s.heap->J.go i H->
  wpAny (model P w) X.A (pyNext (.ref it)) (λr s1=>∃u,r=some u/\
   wpAny (model P w) X.A (letOwnedTupleGo tg (.ref it) u) (λ_ s2=>∃x H',qw X d_ σ H' s2/\qU x u/\J.yld i H x H'/\tn (i+1) s2.heap/\∀b∈fp,H' b=none) E s1) E s
 done:∀(X:Cx),X.prog=P->X.w=w->X.K=K->X.calm=true->∀(i:Nat) (d_:List (Addr×Obj)) (s:Shared) (σ:St) (H:Hp) (E:Value->Shared->Prop),qw X d_ σ H s->(∀b∈fp,Zc X d_ H b)->tn i s.heap->J.stop i H->
  wpAny (model P w) X.A (pyNext (.ref it)) (λr s1=>r=none/\qw X d_ σ H s1) E s
 self:∀(A:Around) (i:Nat) (s:Shared) (Q:Value->Shared->Prop) (E:Value->Shared->Prop),tn i s.heap->Q (.ref it) s->wpAny (model P w) A (pyIter (.ref it)) Q E s
abbrev TI:=St->Hp->(It->Hp->Prop)->Prop
inductive IZ(X:Cx)(d_:List (Addr×Obj))(σ:St)(tg:Expr)(R:It->Hp->Prop)(hU:Value)(s2:Shared):Prop
 | mk (it:Addr) (fp:List Addr) (tn:Nat->Heap->Prop) (J:It) (H':Hp):hU=.ref it->qw X d_ σ H' s2->vT X.prog X.w X.K tg J fp it tn->tn 0 s2.heap->((∀b∈fp,Zc X d_ H' b))->R J H'->IZ X d_ σ tg R hU s2
def PI(X:Cx)(d iter:Expr)(e:TI):Prop:=
 ∀(b:List (Addr×Obj)) (s:Shared) (a:St) (H:Hp) (R:It->Hp->Prop),qw X b a H s->e a H R->
  wpAny (model X.prog X.w) X.A (eval iter X.env) (λv e=>wpAny (model X.prog X.w) X.A (pyIter v) (IZ X b a d R) X.xe e) X.xe s
@[irreducible] def JI (X:Cx) (a iter:Expr) (b:TI):Prop:=PI X a iter b
def JI.of(h:PI X a iter b):JI X a iter b:=by unfold JI;exact h
def JI.to(h:JI X a iter b):PI X a iter b:=by unfold JI at h;exact h
def vD{s:Shared}{Q:Unit->Shared->Prop}(b:s.heap.get? it=some o)(d:o.cls=.type n)(hd:o.data=.fields vs)(e:["enumerate","zip","dict_itemiterator","dict_reverseitemiterator","odict_iterator","itertools.zip_longest","itertools.pairwise"].contains n=false)(a:Q () s):wpAny M A (letOwnedTupleGo f (.ref it) u) Q E s:=by
 unfold letOwnedTupleGo;cases f<;>first
   | exact zeo a
   | (cases u<;>first
       | exact zeo a
       | (refine zen (wpAny_load b ?_)
          rw[d,hd];show wpAny M A (if (["enumerate","zip","dict_itemiterator","dict_reverseitemiterator","odict_iterator","itertools.zip_longest","itertools.pairwise"].contains n&&vs[0]?==some (rawInt _))=true then _ else _) Q E s;rw[if_neg (by intro h;rw[e,zcZ]at h;cases h)];exact zeo a))
def B7(K:zel)(a:Addr):It:=
 ⟨λi H=>∃b x,SqL K H a b/\b[i]?=some x,λi H x d=>d=H/\∀b,SqL K H a b->b[i]?=some x,λi H=>∃b,SqL K H a b/\b.length<=i⟩
def Ej(K:zel)(a:Addr):It:=
 ⟨λi H=>∃b x,SqT K H a b/\b[i]?=some x,λi H x d=>d=H/\∀b,SqT K H a b->b[i]?=some x,λi H=>∃b,SqT K H a b/\b.length<=i⟩
def B6(lo:Int)(n:Nat):It:=⟨λi _=>i < n,λi H x a=>a=H/\x=.int (lo+i),λi _=>n<=i⟩
def xW{P:Program}{w:World}{K:zel}{f:Expr}(a it:Addr):vT P w K f (B7 K a) [it] it (λi h=>h.IsListIter it a i) where
 mem:=by simp
 obj:=λi h st b f=>by
  have e:b=it:=by simpa using f
  subst e;obtain⟨g,e,c,d⟩:=st;exact⟨g,e,λv z=>by rw[d]at z;cases z⟩
 keep:=λi h O st k=>st.at λg e=>k it (by simp) g e
 item:=by
  intro X m o p Q i U s Y H E I j st q;subst m o p;obtain⟨xs,x,l,r⟩:=q;obtain⟨aa,y,B,hz⟩:=I.list l;obtain⟨u,hu,ru⟩:=y.get r;obtain⟨C,f1,f2,D,J,L⟩:=j it (by simp);refine wpAny_pyNext_list_item st B.isList (by simpa using hu) λO T sb=>?_;obtain⟨g,e,c,d⟩:=id T;exact⟨u,rfl,vD e c d (by decide) ⟨x,H,I.turned (λb g f e=>(sb.2 b f).trans e) C f1 D J L,ru,⟨rfl,λ_ hy=>(I.list_inj hy l)▸r⟩,T,λb f=>(j b f).1⟩⟩
 done:=by
  intro X m o p Q i U s Y H E I j st q;subst m o p;obtain⟨xs,l,r⟩:=q;obtain⟨aa,y,B,hz⟩:=I.list l;obtain⟨C,f1,f2,D,J,L⟩:=j it (by simp);have j:=y.length;exact wpAny_pyNext_list_end (I.ok.hd Q) st B.isList (by simp;omega) λO j=>⟨rfl,I.turned (λb g f e=>j b g f e) C f1 D J L⟩
 self:=λ_ _ _ _ _ st h=>wpAny_pyIter_listiter st h
def kc{P:Program}{w:World}{K:zel}{f:Expr}(a it:Addr):vT P w K f (Ej K a) [it] it (λi h=>h.IsTupleIter it a i) where
 mem:=by simp
 obj:=λi h st b f=>by
  have e:b=it:=by simpa using f
  subst e;obtain⟨g,e,c,d⟩:=st;exact⟨g,e,λv z=>by rw[d]at z;cases z⟩
 keep:=λi h Q st k=>st.at λg e=>k it (by simp) g e
 item:=by
  intro X m o p T i Y s σ H E I j st q;subst m o p;obtain⟨xs,x,l,r⟩:=q;obtain⟨y,B,C,hz⟩:=I.tuple l;obtain⟨u,hu,ru⟩:=B.get r;obtain⟨D,f1,f2,J,L,O⟩:=j it (by simp);refine wpAny_pyNext_tuple_item st (show s.heap.IsTuple a y.toArray from C) (by simpa using hu) λQ U sb=>?_;obtain⟨g,e,c,d⟩:=id U;exact⟨u,rfl,vD e c d (by decide) ⟨x,H,I.turned (λb g f e=>(sb.2 b f).trans e) D f1 J L O,ru,⟨rfl,λ_ hy=>(I.tuple_inj hy l)▸r⟩,U,λb f=>(j b f).1⟩⟩
 done:=by
  intro X m o p T i Y s σ H E I j st q;subst m o p;obtain⟨xs,l,r⟩:=q;obtain⟨y,B,C,hz⟩:=I.tuple l;obtain⟨D,f1,f2,J,L,O⟩:=j it (by simp);have j:=B.length;exact wpAny_pyNext_tuple_end (I.ok.hd T) st (show s.heap.IsTuple a y.toArray from C) (by simp;omega) λQ j=>⟨rfl,I.turned (λb g f e=>j b g f e) D f1 J L O⟩
 self:=λ_ _ _ _ _ st h=>wpAny_pyIter_tupleiter st h
def ke{P:Program}{w:World}{K:zel}{a:Expr}(it:Addr)(lo:Int)(n:Nat):vT P w K a (B6 lo n) [it] it (λi h=>IsRangeIter h it (lo+(i:Nat)*1) ((n:Int) - (i:Nat)) 1) where
 mem:=by simp
 obj:=λi h st b a=>by
  have e:b=it:=by simpa using a
  subst e;exact⟨_,st,λv z=>by
   cases z⟩
 keep:=λi h x st k=>k it (by simp) _ st
 item:=by
  intro X f g j l i B s C H E I d st m;subst f g j;obtain⟨o,f1,f2,p,q,r⟩:=d it (by simp);refine(Walks.range (I.ok.hd l) it lo 1 n).item i s _ _ m st λv x tk u y D=>?_;obtain⟨t,rfl⟩:=u;refine⟨_,rfl,vD y rfl rfl (by decide) ⟨.int (lo+i),H,I.turned (λb u a e=>D b u (by simpa using a) e) o f1 p q r,⟨t,?_⟩,⟨rfl,rfl⟩,y,λb a=>(d b a).1⟩⟩;rw[Int.mul_one]
 done:=by
  intro X f g j l i B s C H E I d st m;subst f g j;obtain⟨o,f1,f2,p,q,r⟩:=d it (by simp);exact wpAny_pyNext_range_end (I.ok.hd l) st (by have:n<=i:=m;omega) λx d=>⟨rfl,I.turned (λb u a e=>d b u a e) o f1 p q r⟩
 self:=λ_ _ _ _ _ st h=>wpAny_pyIter_rangeiter st h
open PyProof.Rows hiding K lo
inductive R6(K:zel)(R:It->Hp->Prop)(x:V)(H1:Hp):Prop
 | mk (a:_):x=.ref a->((∃xs,SqL K H1 a xs))->(R (B7 K a) H1)->R6 K R x H1
def BW(K:zel)(a:TE):TI:=λb H R=>a b H λx a=>R6 K R x a
inductive BU(K:zel)(R:It->Hp->Prop)(x:V)(H1:Hp):Prop
 | mk (a:_):x=.ref a->((∃xs,SqT K H1 a xs))->(R (Ej K a) H1)->BU K R x H1
def IS(K:zel)(a:TE):TI:=λb H R=>a b H λx a=>BU K R x a
def qB(d:JE X l f):JI X g l (BW X.K f):=.of (by
 refine λf s g H R I h=>jn (d.to f s g H _ I h) λv f ⟨x,g,d,i,j⟩=>?_;obtain⟨a,e,⟨_,m⟩,q⟩:=j;subst e;cases i;obtain⟨_,_,i,_⟩:=d.list m;refine wpAny_pyIter_list i.isList ⟨f.heap.objs.size,[f.heap.objs.size],_,_,g,rfl,d.kept λb _ e=>tm _ e,xW a _,⟨_,tR _ rfl,rfl,rfl⟩,λb g=>?_,q⟩;have e:b=f.heap.objs.size:=by simpa using g
 subst e;exact d.fpOk (tp _) (d.hok.fresh (tp _)))
def YG(d:JE X l f):JI X g l (IS X.K f):=.of (by
 refine λf s g H R I h=>jn (d.to f s g H _ I h) λv d ⟨x,g,f,i,j⟩=>?_;obtain⟨a,e,⟨_,m⟩,q⟩:=j;subst e;cases i;obtain⟨i,_,j,_⟩:=f.tuple m;refine wpAny_pyIter_tuple (show d.heap.IsTuple a i.toArray from j) ⟨d.heap.objs.size,[d.heap.objs.size],_,_,g,rfl,f.kept λb _ e=>tm _ e,kc a _,⟨_,tR _ rfl,rfl,rfl⟩,λb g=>?_,q⟩;have e:b=d.heap.objs.size:=by simpa using g
 subst e;exact f.fpOk (tp _) (f.hok.fresh (tp _)))
def Gg{X:Cx}{g:Expr}{d:List (Addr×Obj)}{f:St}{H:Hp}{s:Shared}{R:It->Hp->Prop}{E:Value->Shared->Prop}{lo a:Int}{t u v:Tok}{tk:Nat}(I:qw X d f H s)(i:-(2^62)<=lo)(j:lo < 2^62)(l:-(2^62)<=a)(m:a < 2^62)
  (q:R (B6 lo (a - lo).toNat) H):wpAny (model X.prog X.w) X.A (pyIter (.ref s.heap.objs.size)) (IZ X d f g R) E {s with heap:=s.heap.push {cls:=.type "range",data:=.fields #[.int lo t,.int a u,.int 1 v]},toks:=tk}:=by
 refine wpAny_pyIter_range (IsRange.new ..) (small_one i j l m) ?_;have g:qw X d f H {s with heap:=s.heap.push {cls:=.type "range",data:=.fields #[.int lo t,.int a u,.int 1 v]},toks:=tk}:=I.kept λb i e=>tm _ e;refine⟨(s.heap.push {cls:=.type "range",data:=.fields #[.int lo t,.int a u,.int 1 v]}).objs.size,[(s.heap.push {cls:=.type "range",data:=.fields #[.int lo t,.int a u,.int 1 v]}).objs.size],_,_,H,rfl,
  g.kept λb i e=>tm _ e,ke _ lo (a - lo).toNat,?_,λb d=>?_,q⟩
 ·have f:lo+((0:Nat):Int)*1=lo:=by simp
  have i:(((a - lo).toNat:Nat):Int) - ((0:Nat):Int)=Builtin.Range.rangeSize lo a 1:=by rw[rangeSize_one];split<;>omega
  show IsRangeIter _ _ (lo+((0:Nat):Int)*1) ((((a - lo).toNat:Nat):Int) - ((0:Nat):Int)) 1;rw[f,i];exact tR _ rfl
 ·have e:b=(s.heap.push {cls:=.type "range",data:=.fields #[.int lo t,.int a u,.int 1 v]}).objs.size:=by simpa using d
  subst e;exact g.fpOk (tp _) (g.hok.fresh (tp _))
inductive R5(R:It->Hp->Prop)(vs:List V)(H1:Hp):Prop
 | mk (j:Int):vs=[.int j]->(-(2^62)<=j)->(j < 2^62)->(R (B6 0 j.toNat) H1)->R5 R vs H1
def F2(a:TA):TI:=λb H R=>a b H λa b=>R5 R a b
def jW{X:Cx}{d:Expr}{a:Expr}{b:TA}{p pos:Pos}(f:Gl X "range")(g:X.mg "range"=none)(i:JA X [a] b)(hs:starEach [a] X.env=[(false,eval a X.env)]:=by rfl):JI X d (.Call (.Name "range" p) [a] [] pos) (F2 b):=.of (by
 refine λb s d H R I h=>Call_ (Jo I f g boot_range (PyProof.Rows.callWith_type1 (jn (i.to pos b s d H _ I h) λ_ _ ⟨_,_,d,f,b⟩=>?_) hs rfl));obtain⟨_,e,b,g,q⟩:=b;subst e;cases f with
 | cons f i=>
  cases i;obtain⟨t,rfl⟩:=f;exact call_range_1 (Gg d (by omega) (by omega) b g (by simpa using q)))
def EG(b:TI)(g:TG)(j:TS):TS:=λD a H=>b a H λd b=>∃W:Nat->Nat->St->Hp->Prop,(∃m,W 0 m a b)/\∀i m a H,W i m a H->
 (d.stop i H/\D.nx a H)\/(d.go i H/\∃N:St->Hp->Prop,(∀e b,N e b->∃f,f < m/\W (i+1) f e b)/\∀x b,d.yld i H x b->g x a b λa b=>j {D with nx:=N,ct:=N,bk:=D.nx} a b)
def XR(fp:List Addr)(h:Heap):List (Addr×Obj):=fp.filterMap λb=>(h.get? b).map λa=>(b,a)
def Zo{h:Heap}(a:b∈fp)(e:h.get? b=some o):(b,o)∈XR fp h:=zaH.mpr ⟨b,a,by rw[e];rfl⟩
def wY(hp:p∈XR fp h):p.1∈fp/\h.get? p.1=some p.2:=by
 obtain⟨b,a,e⟩:=zaH.mp hp;cases q:h.get? b with
 | none=>rw[q]at e;cases e
 | some d=>
  rw[q]at e;have d:=tF.inj e;subst d;exact⟨a,q⟩
def qw.pinned{fp:List Addr}(I:qw X a f H s)(g:∀b∈fp,Zc X a H b)(i:∀b∈fp,∃o,s.heap.get? b=some o/\∀v,o.data≠.cell v):qw X (a++XR fp s.heap) f H s:=
 I.pins_of λa f=>(tQ.mp f).elim (λz=>I.pin a (tE _ z)) λz=>by
  obtain⟨f,e⟩:=wY z;obtain⟨j,f1,f2,_⟩:=g a.1 f;obtain⟨o,g,d⟩:=i a.1 f;rw[e]at g;cases g;exact⟨e,j,f1,f2,d⟩
def qw.unpinned(I:qw X (a++pl) b H s):qw X a b H s:=I.pins_of λa b=>I.pin a (tE _ (zac _ b))
def qX(hi:JI X T iter wi)(hg:JG X T g)(a:Xw X fu tb)(hs:∀x,foldedSetIterable iter X.env x=pure x:=by intro _;rfl)(hp:PassesOwn (model X.prog X.w) X.A X.env X.xe:=by exact PassesOwn.never)(U:X.calm=true:=by exact rfl):JS X (.For T iter fu [] pos) (EG wi g tb):=.of (by
 have a:=a.to;refine λr s Y H D I h=>wpAny_For (jn (hi.to r s Y H _ I h) λv s1 h1=>jn h1 λai s2 h2=>?_) hs;obtain⟨it,fp,tn,aj,H2,e,I2,y,ac,f2,W,⟨m0,w0⟩,ae⟩:=h2;subst e;have J:∀{p:Hp},(∀b∈fp,p b=none)->∀b∈fp,Zc X r p b:=λhn b a=>⟨hn b a,(f2 b a).2⟩;refine codeAny_forLoop_any (λn s'=>∃i z p,qw X r z p s'/\tn i s'.heap/\(∀b∈fp,p b=none)/\W i n z p) ?_ m0 ⟨0,Y,H2,I2,ac,λb a=>(f2 b a).1,w0⟩;rintro n s3 ⟨i,B,C,I3,aa,ab,w3⟩;rcases ae i n B C w3 with ⟨stop,qn⟩ | ⟨go,N,hN,step⟩
 ·refine wpAny_passesOwn hp (jn (y.done X rfl rfl rfl U i r s3 B C X.xe I3 (J ab) aa stop) λaf s4 ⟨hr,I4⟩=>?_);subst hr;exact wpAny_execs_nil ⟨B,C,I4,qn⟩
 ·refine wpAny_passesOwn hp (jn (y.item X rfl rfl rfl U i r s3 B C X.xe I3 (J ab) aa go) λaf s4 ⟨u,hr,h4⟩=>?_);subst hr;refine wpAny_passesOwn hp (jn h4 λ_ s5 ⟨x,H5,I5,r5,y5,L,ag⟩=>wpAny_passesOwn hp (jn (hg.to _ s5 B H5 x u _ (I5.pinned (J ag) (y.obj _ _ L)) r5 (step x H5 y5)) λ_ s6 ⟨ah,H6,I6,q6⟩=>wpAny_passesOwn hp (jn (a _ s6 ah H6 _ I6 q6) λf O q=>?_)));have again:∀{j:St} {l:Hp},qw X (r++XR fp s5.heap) j l O->N j l->∃m,m < n/\∃i z p,qw X r z p O/\tn i O.heap/\(∀b∈fp,p b=none)/\W i m z p:=λ{j l} o n7=>by
   obtain⟨m',hm,w7⟩:=hN j l n7;refine⟨m',hm,i+1,j,l,o.unpinned,y.keep _ _ _ L λb a Q e=>(o.pin (b,Q) (tE _ (tE _ (Zo a e)))).1,λb a=>?_,w7⟩;obtain⟨Q,e,d⟩:=y.obj _ _ L b a;exact(o.pin (b,Q) (tE _ (tE _ (Zo a e)))).2.1
  cases f with
  | next=>obtain⟨j,l,o,n7⟩:=q;exact again o n7
  | cont=>obtain⟨j,l,o,n7⟩:=q;exact again o n7
  | brk=>obtain⟨j,l,o,q⟩:=q;exact⟨j,l,o.unpinned,q⟩
  | ret v=>obtain⟨x7,j,l,o,r7,q⟩:=q;exact⟨x7,j,l,o.unpinned,r7,q⟩)
def je{K:zel}{a:Addr}{xs:List V}{g:TG}{l:TS}{D:QN}{b:St}{H:Hp}(Pv:Nat->St->Hp->Prop)(p:Pv 0 b H)(r:∀i b H,i<=xs.length->Pv i b H->SqL K H a xs)
  (hs:∀i x b H,xs[i]?=some x->Pv i b H->g x b H λd f=>l {D with nx:=Pv (i+1),ct:=Pv (i+1),bk:=D.nx} d f) (hd:∀b H,Pv xs.length b H->D.nx b H):
  ∃W:Nat->Nat->St->Hp->Prop,(∃m,W 0 m b H)/\∀i m b H,W i m b H->
   ((B7 K a).stop i H/\D.nx b H)\/((B7 K a).go i H/\∃N:St->Hp->Prop,(∀j H',N j H'->∃o,o < m/\W (i+1) o j H')/\∀x H',(B7 K a).yld i H x H'->g x b H' λd f=>l {D with nx:=N,ct:=N,bk:=D.nx} d f):=by
 refine⟨λi m b H=>m=xs.length - i/\i<=xs.length/\Pv i b H,⟨xs.length,by simp,zao _,p⟩,?_⟩;rintro i m b H ⟨rfl,f,d⟩;have q:=r i b H f d;by_cases f:i < xs.length
 ·refine .inr ⟨⟨xs,xs[i],q,by simp [f]⟩,Pv (i+1),λj H' j=>⟨xs.length - (i+1),by omega,rfl,f,j⟩,λx H' y=>?_⟩;obtain⟨e,y⟩:=y;subst e;exact hs i x b _ (y xs q) d
 ·have e:i=xs.length:=by omega
  subst e;exact .inl ⟨⟨xs,q,tp _⟩,hd b H d⟩
def Xr{K:zel}{a:Addr}{xs:List V}{g:TG}{l:TS}{D:QN}{b:St}{H:Hp}(Pv:Nat->St->Hp->Prop)(p:Pv 0 b H)(r:∀i b H,i<=xs.length->Pv i b H->SqT K H a xs)
  (hs:∀i x b H,xs[i]?=some x->Pv i b H->g x b H λd f=>l {D with nx:=Pv (i+1),ct:=Pv (i+1),bk:=D.nx} d f) (hd:∀b H,Pv xs.length b H->D.nx b H):
  ∃W:Nat->Nat->St->Hp->Prop,(∃m,W 0 m b H)/\∀i m b H,W i m b H->
   ((Ej K a).stop i H/\D.nx b H)\/((Ej K a).go i H/\∃N:St->Hp->Prop,(∀j H',N j H'->∃o,o < m/\W (i+1) o j H')/\∀x H',(Ej K a).yld i H x H'->g x b H' λd f=>l {D with nx:=N,ct:=N,bk:=D.nx} d f):=by
 refine⟨λi m b H=>m=xs.length - i/\i<=xs.length/\Pv i b H,⟨xs.length,by simp,zao _,p⟩,?_⟩;rintro i m b H ⟨rfl,f,d⟩;have q:=r i b H f d;by_cases f:i < xs.length
 ·refine .inr ⟨⟨xs,xs[i],q,by simp [f]⟩,Pv (i+1),λj H' j=>⟨xs.length - (i+1),by omega,rfl,f,j⟩,λx H' y=>?_⟩;obtain⟨e,y⟩:=y;subst e;exact hs i x b _ (y xs q) d
 ·have e:i=xs.length:=by omega
  subst e;exact .inl ⟨⟨xs,q,tp _⟩,hd b H d⟩
def Jj{lo:Int}{n:Nat}{g:TG}{j:TS}{D:QN}{a:St}{H:Hp}(Pv:Nat->St->Hp->Prop)(o:Pv 0 a H)
  (hs:∀i a H,i < n->Pv i a H->g (.int (lo+i)) a H λb d=>j {D with nx:=Pv (i+1),ct:=Pv (i+1),bk:=D.nx} b d) (hd:∀a H,Pv n a H->D.nx a H):
  ∃W:Nat->Nat->St->Hp->Prop,(∃m,W 0 m a H)/\∀i m a H,W i m a H->
   ((B6 lo n).stop i H/\D.nx a H)\/((B6 lo n).go i H/\∃N:St->Hp->Prop,(∀f H',N f H'->∃l,l < m/\W (i+1) l f H')/\∀x H',(B6 lo n).yld i H x H'->g x a H' λb d=>j {D with nx:=N,ct:=N,bk:=D.nx} b d):=by
 refine⟨λi m a H=>m=n - i/\i<=n/\Pv i a H,⟨n,by simp,zao _,o⟩,?_⟩;rintro i m a H ⟨rfl,_,d⟩;by_cases b:i < n
 ·refine .inr ⟨b,Pv (i+1),λf H' f=>⟨n - (i+1),by omega,rfl,b,f⟩,λx H' y=>?_⟩;obtain⟨e,y⟩:=y;subst e y;exact hs i a _ b d
 ·have e:i=n:=by omega
  subst e;exact .inl ⟨tp _,hd a H d⟩
def ZF{c:TT}{g:TS}(Pv:St->Hp->Prop)(f:St->Hp->Nat)(j:Pv a H)(hs:∀a H,Pv a H->c a H λb d=>if b=true then g {D with nx:=λe H'=>Pv e H'/\f e H' < f a H,ct:=λe H'=>Pv e H'/\f e H' < f a H,bk:=D.nx} a d else D.nx a d)(mono:∀a H Q i,(∀b d,Q b d->i b d)->c a H Q->c a H i):uX c g D a H:=by
 refine⟨λm a H=>m=f a H/\Pv a H,⟨_,rfl,j⟩,?_⟩;rintro m a H ⟨rfl,f⟩;refine mono a H _ _ (λb d q=>?_) (hs a H f);cases b with
 | true=>exact⟨_,λe H' ⟨a,d⟩=>⟨_,d,rfl,a⟩,q⟩
 | false=>exact q
open PyProof.Rows hiding K lo
abbrev R2:=V->V->Hp->VK->Prop
def JN(X:Cx)(f:Value->Value->Sem Value)(r:R2):Prop:=
 ∀(a:List (Addr×Obj)) (s:Shared) (b:St) (H:Hp) (x y:V) (v u:Value) (Q:VK),qw X a b H s->qU x v->qU y u->r x y H Q->
  wpAny (model X.prog X.w) X.A (f v u) (EP X a b Q) X.xe s
def Q6(X:Cx)(f:Value)(r:List V->Hp->VK->Prop):Prop:=
 ∀(a:List (Addr×Obj)) (s:Shared) (b:St) (H:Hp) (d:List V) (e:List Value) (Q:VK),qw X a b H s->qP d e->r d H Q->
  wpAny (model X.prog X.w) X.A (call f e) (EP X a b Q) X.xe s
def J0(r:R2)(b d:TE):TE:=λa H Q=>b a H λx b=>d a b λy a=>r x y a Q
inductive rI_(C:Int->Int->Prop)(g:Int->Int->V)(x:V)(y:V)(H:Hp)(Q:VK):Prop
 | mk (i:_) (j:_):x=.int i->y=.int j->C i j->(Q (g i j) H)->rI_ C g x y H Q
def rI(C:Int->Int->Prop)(g:Int->Int->V):R2:=λx y H Q=>rI_ C g x y H Q
inductive Fz(g:Int->Int->V)(x:V)(y:V)(H:Hp)(Q:VK):Prop
 | mk (i:_) (j:_):x=.int i->y=.int j->(Q (g i j) H)->Fz g x y H Q
def Gr(g:Int->Int->V):R2:=λx y H Q=>Fz g x y H Q
def Eb(l:PE X a m)(o:PE X b p){R:V->V->Hp->Prop}(I:qw X i e H s)(h:m e H λx j=>p e j λy d=>R x y d){f:Value->Value->Sem Value}(q:∀v u g x y d,qw X i e d g->qU x v->qU y u->R x y d->wpAny (model X.prog X.w) X.A (f v u) Q X.xe g):
  wpAny (model X.prog X.w) X.A (eval a X.env) (λv r=>wpAny (model X.prog X.w) X.A (eval b X.env) (λu z=>wpAny (model X.prog X.w) X.A (f v u) Q X.xe z) X.xe r) X.xe s:=by
 exact jn (l i s e H _ I h) λv l ⟨x,j,m,p,r⟩=>jn (o i l e j _ m r) λu g ⟨y,d,e,i,j⟩=>q v u g x y d e p i j
def qN(d:JN X (binaryOp op) r)(e:JE X a f)(g:JE X b i):JE X (.BinOp a op b pos) (J0 r f i):=.of (by
 exact λf s i H Q I h=>wpAny_BinOp (Eb e.to g.to I h λv u e x y g j l m q=>d f e i g x y v u Q j l m q))
def C6{X:Cx}{f:Value->Value->Sem Value}{C:Int->Int->Prop}{g:Int->Int->Int}(rule:∀(i j:Int) (t u:Tok) (s:Shared) (Q:Value->Shared->Prop) (E:Value->Shared->Prop),C i j->Q (.int (g i j) s.toks) {s with toks:=s.toks+1}->wpAny (model X.prog X.w) X.A (f (.int i t) (.int j u)) Q E s):
  JN X f (rI C λi j=>.int (g i j)):=by
 intro _ s _ H x y v u Q I a b h;obtain⟨i,j,rfl,rfl,d,q⟩:=h;obtain⟨t,rfl⟩:=a;obtain⟨a,rfl⟩:=b;exact rule i j t a s _ _ d ⟨.int (g i j),H,I.tok _,⟨_,rfl⟩,q⟩
def GY{X:Cx}{f:Value->Value->Sem Value}{g:Int->Int->Int}(rule:∀(i j:Int) (t u:Tok) (s:Shared) (Q:Value->Shared->Prop) (E:Value->Shared->Prop),Q (.int (g i j) s.toks) {s with toks:=s.toks+1}->wpAny (model X.prog X.w) X.A (f (.int i t) (.int j u)) Q E s):
  JN X f (Gr λi j=>.int (g i j)):=by
 intro _ s _ H x y v u Q I a b h;obtain⟨i,j,rfl,rfl,q⟩:=h;obtain⟨t,rfl⟩:=a;obtain⟨a,rfl⟩:=b;exact rule i j t a s _ _ ⟨.int (g i j),H,I.tok _,⟨_,rfl⟩,q⟩
def M0{X:Cx}{f:Value->Value->Sem Value}{g:Int->Int->Bool}(rule:∀(i j:Int) (t u:Tok) (s:Shared) (Q:Value->Shared->Prop) (E:Value->Shared->Prop),Q (.bool (g i j)) s->wpAny (model X.prog X.w) X.A (f (.int i t) (.int j u)) Q E s):
  JN X f (Gr λi j=>.bl (g i j)):=by
 intro _ s _ H x y v u Q I a b h;obtain⟨i,j,rfl,rfl,q⟩:=h;obtain⟨t,rfl⟩:=a;obtain⟨a,rfl⟩:=b;exact rule i j t a s _ _ ⟨.bl (g i j),H,I,rfl,q⟩
def Lk(i j:Int):Prop:=0 < j/\j < 1073741824
def Ho(i j:Int):Prop:=0<=j/\j<=1000000/\i.natAbs < 2^64
def Eo(i j:Int):Prop:=(-(2^64) < i/\i < 2^64)\/(-(2^64) < j/\j < 2^64)
def Eo.ok(h:Eo i j):IntMulOk i j:=by
 rcases h with ⟨a,b⟩ | ⟨a,b⟩
 ·exact .of_left (intBits_le_64 a b)
 ·exact .of_right (intBits_le_64 a b)
def kb(k:Nat):(0:Int)<=2^k:=by
 rw[two_pow_cast];exact zda _
def QR:JN X (binaryOp .Add) (Gr λi j=>.int (i+j)):=GY λ_ _ _ _ _ _ _ q=>add_int q
def C2:JN X (binaryOp .Sub) (Gr λi j=>.int (i - j)):=GY λ_ _ _ _ _ _ _ q=>sub_int q
def Zm:JN X (binaryOp .Mult) (rI Eo λi j=>.int (i*j)):=C6 λ_ _ _ _ _ _ _ a q=>mul_int q a.ok
def MY:JN X (binaryOp .FloorDiv) (rI Lk λi j=>.int (i / j)):=C6 λi j _ _ _ _ _ a q=>by
 have b:=a.1;have b:=a.2;exact floordiv_int (by omega) (by rwa [zbZ i (by omega)]) (.inl (PyProof.noPylong_small (by omega)))
def Zn:JN X (binaryOp .Mod) (rI (λ_ j=>0 < j) λi j=>.int (i % j)):=C6 λi j _ _ _ _ _ a q=>by
 have b:=a;exact mod_int' (by omega) (by rwa [Int.fmod_eq_emod_of_nonneg i (by omega)])
def C3:JN X (binaryOp .Pow) (rI Ho λi j=>.int (i^j.toNat)):=C6 λ_ _ _ _ _ _ _ a q=>pow_int_small a.1 a.2.1 a.2.2 q
def GN:JN X (binaryOp .LShift) (rI Ho λi j=>.int (i*2^j.toNat)):=C6 λ_ _ _ _ _ _ _ a q=>lshift_int_small a.1 a.2.1 a.2.2 q
def VR:JN X (binaryOp .RShift) (rI (λ_ j=>0<=j) λi j=>.int (i / 2^j.toNat)):=C6 λi j _ _ _ _ _ a q=>
 rshift_int a (by rwa [zbZ i (kb _)])
def VT:JN X (binaryOp .BitAnd) (Gr λi j=>.int (Builtin.bitAnd i j)):=GY λ_ _ _ _ _ _ _ q=>and_int q
def BO:JN X (binaryOp .BitOr) (Gr λi j=>.int (Builtin.bitOr i j)):=GY λ_ _ _ _ _ _ _ q=>or_int q
def XX:JN X (binaryOp .BitXor) (Gr λi j=>.int (Builtin.bitXor i j)):=GY λ_ _ _ _ _ _ _ q=>xor_int q
def E1:V->V->Bool
 | .non,.non=>true | .non,.int _=>true | .int _,.non=>true | .non,.bl _=>true | .bl _,.non=>true | .non,.str _=>true | .str _,.non=>true
 | .int _,.int _=>true | .bl _,.bl _=>true | .str _,.str _=>true | .byt _,.byt _=>true
 | .int _,.str _=>true | .str _,.int _=>true | .bl _,.str _=>true | .str _,.bl _=>true
 | _,_=>false
def BK:R2:=λx y H Q=>E1 x y=true/\Q (.bl (decide (x=y))) H
def rNe:R2:=λx y H Q=>E1 x y=true/\Q (.bl (!decide (x=y))) H
def xF:decide (V.int i=V.int j)=(i==j):=by
 rw[zba];simp
def Nr:decide (V.bl i=V.bl j)=(i==j):=by
 rw[zba];simp
def xE:decide (V.str i=V.str j)=(i==j):=by
 rw[zba];simp
def xG:decide (V.byt i=V.byt j)=(i.toList==j.toList):=by
 rw[zba];cases i;cases j;simp
def jf{Q:VK}(I:qw X a b H s)(q:Q (.bl k) H)(e:k=d):EP X a b Q (.bool d) s:=by
 subst e;exact⟨.bl k,H,I,rfl,q⟩
def qT:JN X (compareOp .Eq) BK:=by
 intro _ s _ H x y v u Q I f a h;obtain⟨e,q⟩:=h;cases x with
 | non=>
  cases f;cases y with
  | non=>cases a;exact PySem.EqNone.eq_none_none (jf I q (by simp))
  | bl b=>cases a;exact PySem.EqNone.eq_none_bool (jf I q (by simp))
  | int b=>obtain⟨d,rfl⟩:=a;exact PySem.EqNone.eq_none_int (jf I q (by simp))
  | str b=>obtain⟨d,rfl⟩:=a;exact PySem.EqNone.eq_none_str (jf I q (by simp))
  | _=>exact absurd (show false=true from e) tK
 | bl i=>
  cases f;cases y with
  | non=>cases a;exact PySem.EqNone.eq_bool_none (jf I q (by simp))
  | bl b=>cases a;exact eq_bool (jf I q Nr)
  | str b=>obtain⟨d,rfl⟩:=a;exact PySem.EqMixed.eq_bool_str (jf I q (by simp))
  | _=>exact absurd (show false=true from e) tK
 | int i=>
  obtain⟨t,rfl⟩:=f;cases y with
  | non=>cases a;exact PySem.EqNone.eq_int_none (jf I q (by simp))
  | int b=>obtain⟨d,rfl⟩:=a;exact eq_int (jf I q xF)
  | str b=>obtain⟨d,rfl⟩:=a;exact PySem.EqMixed.eq_int_str (jf I q (by simp))
  | _=>exact absurd (show false=true from e) tK
 | str i=>
  obtain⟨t,rfl⟩:=f;cases y with
  | non=>cases a;exact PySem.EqNone.eq_str_none (jf I q (by simp))
  | bl b=>cases a;exact PySem.EqMixed.eq_str_bool (jf I q (by simp))
  | int b=>obtain⟨d,rfl⟩:=a;exact PySem.EqMixed.eq_str_int (jf I q (by simp))
  | str b=>obtain⟨d,rfl⟩:=a;exact eq_str (jf I q xE)
  | _=>exact absurd (show false=true from e) tK
 | byt i=>
  obtain⟨t,rfl⟩:=f;cases y with
  | byt b=>obtain⟨d,rfl⟩:=a;exact PySem.W.eq_bytes (jf I q xG)
  | _=>exact absurd (show false=true from e) tK
 | _=>cases y<;>exact absurd (show false=true from e) tK
def XY:JN X (compareOp .NotEq) rNe:=by
 intro _ s _ H x y v u Q I f a h;obtain⟨e,q⟩:=h;cases x with
 | non=>
  cases f;cases y with
  | non=>cases a;exact PySem.EqNone.ne_none_none (jf I q (by simp))
  | bl b=>cases a;exact PySem.EqNone.ne_none_bool (jf I q (by simp))
  | int b=>obtain⟨d,rfl⟩:=a;exact PySem.EqNone.ne_none_int (jf I q (by simp))
  | str b=>obtain⟨d,rfl⟩:=a;exact PySem.EqNone.ne_none_str (jf I q (by simp))
  | _=>exact absurd (show false=true from e) tK
 | bl i=>
  cases f;cases y with
  | non=>cases a;exact PySem.EqNone.ne_bool_none (jf I q (by simp))
  | bl b=>cases a;exact ne_bool (jf I q (congrArg not Nr))
  | str b=>obtain⟨d,rfl⟩:=a;exact PySem.EqMixed.ne_bool_str (jf I q (by simp))
  | _=>exact absurd (show false=true from e) tK
 | int i=>
  obtain⟨t,rfl⟩:=f;cases y with
  | non=>cases a;exact PySem.EqNone.ne_int_none (jf I q (by simp))
  | int b=>obtain⟨d,rfl⟩:=a;exact ne_int (jf I q (congrArg not xF))
  | str b=>obtain⟨d,rfl⟩:=a;exact PySem.EqMixed.ne_int_str (jf I q (by simp))
  | _=>exact absurd (show false=true from e) tK
 | str i=>
  obtain⟨t,rfl⟩:=f;cases y with
  | non=>cases a;exact PySem.EqNone.ne_str_none (jf I q (by simp))
  | bl b=>cases a;exact PySem.EqMixed.ne_str_bool (jf I q (by simp))
  | int b=>obtain⟨d,rfl⟩:=a;exact PySem.EqMixed.ne_str_int (jf I q (by simp))
  | str b=>obtain⟨d,rfl⟩:=a;exact ne_str (jf I q (congrArg not xE))
  | _=>exact absurd (show false=true from e) tK
 | byt i=>
  obtain⟨t,rfl⟩:=f;cases y with
  | byt b=>obtain⟨d,rfl⟩:=a;exact PySem.W.ne_bytes (jf I q (congrArg not xG))
  | _=>exact absurd (show false=true from e) tK
 | _=>cases y<;>exact absurd (show false=true from e) tK
def Q7:JN X (compareOp .Lt) (Gr λi j=>.bl (decide (i < j))):=M0 λ_ _ _ _ _ _ _ q=>lt_int q
def xl:JN X (compareOp .LtE) (Gr λi j=>.bl (decide (i<=j))):=M0 λ_ _ _ _ _ _ _ q=>le_int q
def ZM:JN X (compareOp .Gt) (Gr λi j=>.bl (decide (j < i))):=M0 λ_ _ _ _ _ _ _ q=>gt_int q
def GU:JN X (compareOp .GtE) (Gr λi j=>.bl (decide (j<=i))):=M0 λ_ _ _ _ _ _ _ q=>ge_int q
def wC:JN X (compareOp .In) (λx y H Q=>∃i j,x=.str i/\y=.str j/\Q (.bl (!(Builtin.Str.occurrences j i 0 j.length 1).isEmpty)) H):=by
 intro _ s _ H x y v u Q I a b h;obtain⟨i,j,rfl,rfl,q⟩:=h;obtain⟨t,rfl⟩:=a;obtain⟨_,rfl⟩:=b;exact in_str (jf I q rfl)
def C4:JN X (compareOp .Is) (λx y H Q=>y=.non/\Q (.bl (decide (x=.non))) H):=by
 intro _ s _ H x y v u Q I a b h;obtain⟨rfl,q⟩:=h;cases b;refine is_none_gen (jf I q ?_);cases x<;>first
  | (cases a;rfl)
  | (obtain⟨t,rfl⟩:=a;rfl)
def JN.or(h:JN X f r)(g:JN X f a):JN X f (λx y H Q=>r x y H Q\/a x y H Q):=by
 intro a s b H x y v u Q I d e q;rcases q with q | q
 ·exact h a s b H x y v u Q I d e q
 ·exact g a s b H x y v u Q I d e q
def RB(b:Expr)(h:op≠.In:=by decide)(a:op≠.NotIn:=by decide):behindInMarks op b=false:=by
 have d:(op==CmpOp.In)=false:=by cases op<;>first | rfl | exact absurd rfl h
 have e:(op==CmpOp.NotIn)=false:=by cases op<;>first | rfl | exact absurd rfl a
 cases b<;>simp [behindInMarks,d,e]
def Qc(d:JN X (compareOp op) r)(e:JE X a f)(g:JE X b i)(j:behindInMarks op b=false:=by exact RB _):JE X (.Compare a [op] [b] pos) (J0 r f i):=.of (by
 exact λf s i H Q I h=>wpAny_Compare1 (Eb e.to g.to I h λv u e x y g l m o q=>d f e i g x y v u Q l m o q) j)
def Zx(t:TE):TT:=λa H Q=>t a H λx a=>∃k,x=.bl k/\Q k a
def qj(g:JN X (compareOp op) r)(i:JE X a d)(j:JE X b f)(l:behindInMarks op b=false:=by exact RB _):JT X (.Compare a [op] [b] pos) (Zx (J0 r d f)):=.of (by
 refine λd s f H Q I h=>wpAny_isTrue_Compare1 (jn (i.to d s f H _ I h) λv i ⟨x,m,o,p,q⟩=>jn (j.to d i f m _ o q) λu i ⟨y,j,m,o,q⟩=>
  jn (g d i f j x y v u _ m p o q) λc _ ⟨z,d,f,g,k,e,i⟩=>?_) l
 subst e;cases g;exact wpAny_truthy_bool ⟨d,f,i⟩)
def YD:(zeq:Nat) < 2^63:=by rw[sizeLine_eq];decide
def zy:JN X (binaryOp .Add) (λx y H Q=>∃i j,x=.str i/\y=.str j/\i.length+j.length<=zeq/\Q (.str (i++j)) H):=by
 intro _ s _ H x y v u Q I a b h;obtain⟨i,j,rfl,rfl,d,q⟩:=h;obtain⟨t,rfl⟩:=a;obtain⟨a,rfl⟩:=b;exact add_str (λa tk=>⟨.str (i++j),H,I.tok _,⟨_,rfl⟩,q⟩) d
def Jy(r:qP [x] us):∃u,us=[u]/\qU x u:=by
 cases r with
 | cons a b=>cases b;exact⟨_,rfl,a⟩
def WP(r:qP [x,y] us):∃u a,us=[u,a]/\qU x u/\qU y a:=by
 cases r with
 | cons a b=>
  cases b with
  | cons b d=>cases d;exact⟨_,_,rfl,a,b⟩
def Vo{X:Cx}(a:X.calm=true):Q6 X (.builtin "max") (λxs H Q=>∃i j,xs=[.int i,.int j]/\Q (.int (if j > i then j else i)) H):=by
 intro _ s _ H xs _ Q I b h;obtain⟨i,j,rfl,q⟩:=h;obtain⟨u,_,rfl,⟨t,rfl⟩,⟨_,rfl⟩⟩:=WP b;refine max_two_ints (I.ok.hd a) λ_ tk k=>⟨_,H,I.kept k,?_,q⟩;by_cases a:j > i
 ·rw[if_pos a,if_pos a];exact⟨_,rfl⟩
 ·rw[if_neg a,if_neg a];exact⟨_,rfl⟩
def uH{X:Cx}(a:X.calm=true):Q6 X (.builtin "min") (λxs H Q=>∃i j,xs=[.int i,.int j]/\Q (.int (if j < i then j else i)) H):=by
 intro _ s _ H xs _ Q I b h;obtain⟨i,j,rfl,q⟩:=h;obtain⟨u,_,rfl,⟨t,rfl⟩,⟨_,rfl⟩⟩:=WP b;refine min_two_ints (I.ok.hd a) λ_ tk k=>⟨_,H,I.kept k,?_,q⟩;by_cases a:j < i
 ·rw[if_pos a,if_pos a];exact⟨_,rfl⟩
 ·rw[if_neg a,if_neg a];exact⟨_,rfl⟩
def YK:Q6 X (.type "int") (λxs H Q=>(∃i,xs=[.int i]/\Q (.int i) H)\/∃k,xs=[.bl k]/\Q (.int (if k then 1 else 0)) H):=by
 intro _ s _ H xs _ Q I a h;rcases h with ⟨i,rfl,q⟩ | ⟨k,rfl,q⟩
 ·obtain⟨u,rfl,t,rfl⟩:=Jy a;exact call_int_int ⟨.int i,H,I,⟨_,rfl⟩,q⟩
 ·obtain⟨u,rfl,b⟩:=Jy a;cases b;exact call_int_bool ⟨.int (if k then 1 else 0),H,I.tok _,⟨_,rfl⟩,q⟩
open PyProof.Rows hiding K lo
structure k8(h:Heap)(x dx C:Addr)(mA:Str->Option Value):Prop where
 obj:h.get? x=some (zbv C dx)
 ns:h.Ns1 dx mA
 ne:dx≠x
def YC{h:Heap}(n:h.Ns1 d f):∃b,h.get? d=some b/\∀a_,zdb a_ b=some (f a_):=by
 obtain⟨g,i,r,j,hd,l,_,m⟩:=n;refine⟨g,j,λa_=>?_⟩;have e:=m a_;unfold nsFind findBy at e;rw[<-Array.find?_toList]at e;unfold zdb;rw[hd]
 try dsimp only
 split
 ·rename_i y q;rw[q]at e;exact congrArg some e
 ·rename_i q;rw[q]at e;have a:i.toList.any (·.refKey)=false:=by
   rw[zdY];intro y o;obtain⟨z,t,p⟩:=l y (Array.mem_toList_iff.mp o);simp [DictEntry.refKey,p]
  rw[if_neg (by rw[a];exact tK)];exact congrArg some e
def k8.look(I:k8 h x b C d):∃a,PySem.W.InstAt h x (zbv C b) C (some a)/\∀a_,zdb a_ a=some (d a_):=
 let ⟨a,b,d⟩:=YC I.ns
 ⟨a,⟨I.obj,rfl,rfl,b⟩,d⟩
def AD{s:Shared}{K:zel}{Q:Value->Shared->Prop}(X:K.In s.heap)(I:k8 s.heap x i C a)(b:zbA K C a_=true)(d:zbu K C=true)(e:zaa K (.ref C) a_=some none)(f:a a_=some v)(g:zeg v=true)(h:Q v {s with toks:=s.toks+1}):
  wpAny (model prog w) A (getAttr (.ref x) a_ fU) Q E s:=by
 obtain⟨_,a,i⟩:=I.look;exact PySem.W.get_value X a (zcS b).1 (PySem.W.findObj_own d e rfl (by rw[i,f])) g h
def Nd{s:Shared}{K:zel}{Q:Value×List Value->Shared->Prop}(X:K.In s.heap)(I:k8 s.heap x i C b)(a:zbA K C a_=true)(d:zaa K (.ref C) a_=some (some (.ref f)))(e:zby K (.ref f)=true)(g:b a_=none)(h:Q (.ref f,[.ref x]) s):
  wpAny (model prog w) A (getMethod (.ref x) a_ pl) Q E s:=by
 obtain⟨b,i,j⟩:=I.look;exact PySem.W.method_fn X i (zcS a).1 (zcS a).2 d (beq_iff_eq.mp e) (by show (zdb a_ b).map (·.isSome)=some false;rw[j,g];rfl) h
def Mh{s:Shared}{K:zel}{Q:Unit->Shared->Prop}(X:K.In s.heap)(I:k8 s.heap x d C e)(hs:zaa K (.ref C) "__setattr__"=some (some (.builtin "object.__setattr__")))(hp:zbV K C=true)(f:zdz K C a_=some none)(g:zbu K C=true)(i:PySem.Within e ns)(hsz:ns.length<=zeq)(h:∀a,k8 a x d C (λy=>if y=a_ then some v else e y)->Heap.SameBut d s.heap a->Q () {s with heap:=a,toks:=s.toks+2}):
  wpAny (model prog w) A (setAttr (.ref x) a_ v) Q E s:=by
 obtain⟨_,d,_⟩:=I.look;refine PySem.W.set_plain X d hs (PySem.W.osa_open X d hp f λb=>?_);obtain⟨_,d,e⟩:=PySem.W.any_some g;refine zen (zeo (zen (zen (wpAny_loadPart I.obj (zen (PySem.W.Looks.here (PySem.W.looks_clsIn X d) ?_))))));rw[e];refine zeo (zen (zeo (zen (wpAny_nsSet1 I.ns λa a d=>?_))));obtain⟨_,_,_,e,f,g⟩:=a.count (PySem.Within.cons a_ v i);refine zen (wpAny_lookBehind e (by rw[f];exact pastItsLine_dict (t8 g (by rw[zae];omega))) ?_);exact zeo (h _ ⟨(d.2 _ (Ne.symm I.ne)).trans I.obj,a,I.ne⟩ d)
def RG{A:Around}{s:Shared}{K:zel}(X:K.In s.heap)(b:zco K C=true)(e:zaa K (.ref C) "__init__"=some (some (.ref f)))(g:PySem.W.typeIn K (.ref f)=some (.type "function")) (h:codeAny (model prog w) (A.under (.builtin "type.__call__" ⟨.ref C::vs,a⟩)) (.call (.ref f) ⟨.ref (s.heap.objs.size+1)::vs,a⟩) (PySem.W.InitBack (s.heap.objs.size+1) R)
   {s with heap:=(s.heap.push zbg).push (zbv C s.heap.objs.size)}):
  codeAny (model prog w) A (.call (.ref C) ⟨vs,a⟩) R s:=by
 obtain⟨_,_,d,t,os⟩:=s;exact PySem.W.make_core (PySem.W.makes_of X b) (zdF X e) (λself=>PySem.W.bind_fn X self g) (.inl rfl) h
def Zi(f:Str)(v:V):List (Str×V)->List (Str×V)
 | []=>[(f,v)]
 | (a,x)::b=>if a=f then (a,v)::b else (a,x)::Zi f v b
def YT(f g:Str)(v:V):∀fs:List (Str×V),(Zi f v fs).lookup g=if g=f then some v else fs.lookup g
 | []=>by
  show zbc g [(f,v)]=_;by_cases h:g=f
  ·have a:=beq_iff_eq.mpr h;simp only[zbc,a,if_pos h]
  ·have a:=beq_eq_false_iff_ne.mpr h;simp only[zbc,a,if_neg h]
 | (k,x)::d=>by
  rw[show Zi f v ((k,x)::d)=(if k=f then (k,v)::d else (k,x)::Zi f v d) from rfl];by_cases b:k=f
  ·rw[if_pos b];by_cases h:g=k
   ·have a:=beq_iff_eq.mpr h;simp only[zbc,a,if_pos (h.trans b)]
   ·have a:=beq_eq_false_iff_ne.mpr h;simp only[zbc,a,if_neg (λe:g=f=>h (e.trans b.symm))]
  ·rw[if_neg b];by_cases h:g=k
   ·have a:=beq_iff_eq.mpr h;simp only[zbc,a,if_neg (λe:g=f=>b (h.symm.trans e))]
   ·have a:=beq_eq_false_iff_ne.mpr h;simp only[zbc,a];exact(YT f g v d)
def YE(f:Str)(v:V):∀fs:List (Str×V),f∈(Zi f v fs).map (·.1)/\∀g,g∈fs.map (·.1)->g∈(Zi f v fs).map (·.1)
 | []=>⟨by simp [Zi],λg h=>by simp at h⟩
 | (k,x)::a=>by
  obtain⟨b,d⟩:=YE f v a;rw[show Zi f v ((k,x)::a)=(if k=f then (k,v)::a else (k,x)::Zi f v a) from rfl];by_cases a:k=f
  ·rw[if_pos a];subst a;exact⟨by simp,λg h=>by simpa using h⟩
  ·rw[if_neg a];refine⟨?_,λg h=>?_⟩
   ·rw[tV];exact tU _ b
   ·rw[tV]at h ⊢;rcases tH.mp h with e | e
    ·exact tH.mpr (.inl e)
    ·exact tU _ (d g e)
def YU(f:Str)(v:V):∀fs:List (Str×V),(Zi f v fs).length<=fs.length+1
 | []=>by simp [Zi]
 | (k,x)::a=>by
  have b:=YU f v a;rw[show Zi f v ((k,x)::a)=(if k=f then (k,v)::a else (k,x)::Zi f v a) from rfl];by_cases a:k=f
  ·rw[if_pos a,zae,zae];omega
  ·rw[if_neg a,zae,zae];omega
def ZE.some_of(r:ZE (some v) o):∃u,o=some u/\qU v u:=by
 cases o with
 | none=>exact(show False from r).elim
 | some u=>exact⟨u,rfl,r⟩
def ZE.none_of(r:ZE none o):o=none:=by
 cases o with
 | none=>rfl
 | some u=>exact(show False from r).elim
def Vk(r:qU v u):zeg u=true:=by
 cases v with
 | non=>cases (show u=Value.none from r);rfl
 | bl b=>cases (show u=Value.bool b from r);rfl
 | int i=>obtain⟨t,e⟩:=(show ∃t,u=Value.int i t from r);cases e;rfl
 | str x=>obtain⟨t,e⟩:=(show ∃t,u=Value.str x t from r);cases e;rfl
 | byt b=>obtain⟨t,e⟩:=(show ∃t,u=Value.bytes b t from r);cases e;rfl
 | flt b=>obtain⟨t,e⟩:=(show ∃t,u=Value.float b t from r);cases e;rfl
 | ref a=>cases (show u=Value.ref a from r);rfl
 | ty n=>cases (show u=Value.type n from r);rfl
def Xl(hok:Zd P w H h)(e:H a=some (.ins C g fs)):∃b,k8 h a g C b/\(∀f,ZE (fs.lookup f) (b f))/\PySem.Within b (fs.map (·.1))/\fs.length<=1000/\H g=some (.own a):=by
 obtain⟨d,z,ne,i,b,n,j,q⟩:=(show qH P w H h a (.ins C g fs) from hok a _ e);exact⟨b,⟨i,n,ne⟩,j,q,z,d⟩
structure WC(K:zel)(C:Addr):Prop where
 pg:zbA K C Str.empty=true
 hd:zbu K C=true
 po:zbV K C=true
 sa:zaa K (.ref C) "__setattr__"=some (some (.builtin "object.__setattr__"))
def WC.get{K:zel}{C:Addr}(c:WC K C)(f:Str):zbA K C f=true:=c.pg
def Ql(K:zel)(C:Addr)(f:Str):Prop:=zaa K (.ref C) f=some none
def Ql.taker{K:zel}{C:Addr}{f:Str}(n:Ql K C f):zdz K C f=some none:=by
 unfold zdz;rw[show zaa K (.ref C) f=some none from n];rfl
structure WM(K:zel)(C:Addr)(m:Str)(f:Addr):Prop where
 at_:zaa K (.ref C) m=some (some (.ref f))
 fn:zby K (.ref f)=true
 kp:zaw K (.ref f)=true
def kN{Q:Value->Shared->Prop}(I:qw X g i H s)(e:H a=some (.ins C j fs))(c:WC X.K C)(n:Ql X.K C f)(l:fs.lookup f=some v)(h:∀u d,qw X g i H d->qU v u->Q u d):wpAny (model X.prog X.w) A (getAttr (.ref a) f b) Q E s:=by
 obtain⟨_,O,g,_,_,_⟩:=Xl I.hok e;obtain⟨u,hu,d⟩:=ZE.some_of (by rw[<-l];exact g f);exact AD I.kIn O (c.get f) c.hd n hu (Vk d) (h u _ (I.tok _) d)
def QU{Q:Value×List Value->Shared->Prop}(I:qw X b d H s)(e:H a=some (.ins C f fs))(c:WC X.K C)(k:WM X.K C m g)(l:fs.lookup m=none)(h:Q (.ref g,[.ref a]) s):wpAny (model X.prog X.w) A (getMethod (.ref a) m pl) Q E s:=by
 obtain⟨_,O,b,_,_,_⟩:=Xl I.hok e;exact Nd I.kIn O (c.get m) k.at_ k.fn (ZE.none_of (by rw[<-l];exact b m)) h
def ko{Q:Unit->Shared->Prop}(I:qw X g i H s)(e:H a=some (.ins C j fs))(c:WC X.K C)(n:Ql X.K C f)(l:fs.length < 1000)(m:qU y u)(h:∀d,qw X g i (upd H a (.ins C j (Zi f y fs))) d->Q () d):wpAny (model X.prog X.w) A (setAttr (.ref a) f u) Q E s:=by
 obtain⟨g,O,l,i,_,j⟩:=Xl I.hok e;refine Mh I.kIn O c.sa c.po n.taker c.hd i (by rw[tc,sizeLine_eq];omega) λ_ d m=>h _ ?_;refine I.write (e▸True.intro) (.inr j) (λb q o z=>(m.2 b o).trans z) (let ⟨m,_,_,o,_⟩:=d.ns;⟨m,o⟩) ?_;refine⟨(qf O.ne)▸j,?_,O.ne,d.obj,_,d.ns,λd=>?_,λd j=>?_⟩
 ·have:=YU f y fs;omega
 ·show ZE ((Zi f y fs).lookup d) (if d=f then some u else g d);rw[YT];by_cases q:d=f
  ·rwa [if_pos q,if_pos q]
  ·rw[if_neg q,if_neg q];exact l d
 ·by_cases q:d=f
  ·rw[q];exact(YE f y fs).1
  ·refine(YE f y fs).2 d (i d λz=>j ?_);show (if d=f then some u else g d)=none;rwa [if_neg q]
def qw.made(I:qw X a d H s):qw X a d (upd (upd H s.heap.objs.size (.own (s.heap.objs.size+1))) (s.heap.objs.size+1) (.ins C s.heap.objs.size []))
  {s with heap:=(s.heap.push zbg).push (zbv C s.heap.objs.size)}:=by
 have a:(s.heap.push zbg).get? s.heap.objs.size=some zbg:=tR s.heap rfl;have d:((s.heap.push zbg).push (zbv C s.heap.objs.size)).get? (s.heap.objs.size+1)=some (zbv C s.heap.objs.size):=by
  have:=tR (s.heap.push zbg) (o:=zbv C s.heap.objs.size) rfl;rwa [zbr]at this
 have f:=I.laid (o:=.own (s.heap.objs.size+1)) (t':=s.toks) (λb u q=>tm _ q) (tp _) ⟨_,a⟩;refine f.laid (λb u q=>tm _ q) (zdv (zbr _ _)) ?_;have ne:s.heap.objs.size≠s.heap.objs.size+1:=tO (zaF _);refine⟨by rw[qf ne,qc],zao _,ne,d,λ_=>none,(Heap.Ns1.of_empty ⟨zbg,#[],_,a,rfl,(λe a=>absurd a (by simp)),λ_=>rfl⟩).at λ_ q=>tm _ q,λ_=>True.intro,λy a=>absurd rfl a⟩
def xK(a:attributeBase e f env (eval e env)=eval e env)(h:wpAny (model prog w) A (eval e env) (λo b=>wpAny (model prog w) A (getAttr o f true) Q E b) E s):wpAny (model prog w) A (eval (.Attribute e f pos) env) Q E s:=
 Attribute_any_ h (by rw[arm_eval_Attribute,a])
inductive Ba(K:zel)(f:Str)(Q:VK)(x:V)(H1:Hp):Prop
 | mk (a:_) (C:_) (dx:_) (fs:_) (v:_):x=.ref a->H1 a=some (.ins C dx fs)->WC K C->Ql K C f->fs.lookup f=some v->Q v H1->Ba K f Q x H1
def HK(K:zel)(a:TE)(f:Str):TE:=λb H Q=>a b H λx a=>Ba K f Q x a
inductive Bw(K:zel)(f:Str)(D:QN)(σ:St)(y:V)(x:V)(H2:Hp):Prop
 | mk (a:_) (C:_) (dx:_) (fs:_):x=.ref a->H2 a=some (.ins C dx fs)->WC K C->Ql K C f->(fs.length < 1000)->(D.nx σ (upd H2 a (.ins C dx (Zi f y fs))))->Bw K f D σ y x H2
def Iz(K:zel)(b d:TE)(f:Str):TS:=λD a H=>d a H λy d=>b a d λx b=>Bw K f D a y x b
def Jq(b:JE X e d)(g:attributeBase e f X.env (eval e X.env)=eval e X.env):JE X (.Attribute e f pos) (HK X.K d f):=.of (by
 refine λd s i H Q I h=>xK g (jn (b.to d s i H _ I h) λu _ ⟨x,b,d,g,a,_,_,fs,v,i,j,c,n,l,q⟩=>?_);subst i;obtain rfl:u=Value.ref a:=g;exact kN d j c n l λ_ _ d g=>⟨v,b,d,g,q⟩)
def V6{pos:Pos}(e:JE X o b)(g:JE X fq d)(hs:swapsWith fq (some (.Attribute o f i)) pos.line X.env=pure false):JS X (.Assign [.Attribute o f i] fq pos) (Iz X.K b d f):=.of (by
 refine λd s b H D I h=>plainObj_wpAny_Assign_Attribute (jn (g.to d s b H _ I h) λu g ⟨y,i,j,l,q⟩=>jn (e.to d g b i _ j q) λd _ ⟨x,_,e,g,a,_,_,fs,i,j,c,n,m,p⟩=>?_) hs;subst i;obtain rfl:d=Value.ref a:=g;exact ko e j c n m l λ_ d=>⟨b,_,d,p⟩)
inductive TyOf(K:zel)(H:Hp):V->Value->Prop where
 | non:TyOf K H .non (.type "NoneType")
 | bl (x:Bool):TyOf K H (.bl x) (.type "bool")
 | int (i:Int):TyOf K H (.int i) (.type "int")
 | str (x:Str):TyOf K H (.str x) (.type "str")
 | flt (x:UInt64):TyOf K H (.flt x) (.type "float")
 | lst {a:Addr} {xs:List V} (e:H a=some (.lst xs)):TyOf K H (.ref a) (.type "list")
 | frz {a:Addr} {o:Obj} {xs:List V} (e:H a=some (.frz o (.lst xs))):TyOf K H (.ref a) (.type "list")
 | tup {a:Addr} {xs:List V} (e:H a=some (.tup xs)):TyOf K H (.ref a) (.type "tuple")
 | dK {a:Addr} {kvs:List (qZ×V)} (e:H a=some (.dK kvs)):TyOf K H (.ref a) (.type "dict")
 | dT {a:Addr} {kvs:List (List qZ×V)} (e:H a=some (.dT kvs)):TyOf K H (.ref a) (.type "dict")
 | ins {a C dx:Addr} {fs:List (Str×V)} (e:H a=some (.ins C dx fs)) (cl:WC K C) (ha:zaa K (.ref C) "__class__"=some (some (.builtin "object.__class__")))
  (hn:zbW K (.builtin "object.__class__") "__get__"=some (some (.builtin "getset_descriptor.__get__"))) (iu:zcp K (.builtin "object.__class__")=some true)
  (hm:zcj K C (.type "object")=some true):TyOf K H (.ref a) (.ref C)
def um{Q:Value->Shared->Prop}(I:qw X f g H s)(d:qU x u)(ty:TyOf X.K H x t)(e:tZ X.K t c=some b)(h:∀tk,Q (.bool b) {s with toks:=tk}):
  wpAny (model X.prog X.w) A (call (.builtin "isinstance") [u,c]) Q E s:=by
 cases ty with
 | non=>cases (show u=Value.none from d);exact zaN PySem.W.kitx_none I.kIn True.intro e (λz=>nomatch z) h
 | bl y=>cases (show u=Value.bool y from d);exact zaN PySem.W.kitx_bool I.kIn True.intro e (λz=>nomatch z) h
 | int i=>obtain⟨t,q⟩:=(show ∃t,u=Value.int i t from d);cases q;exact zaN PySem.W.kitx_int I.kIn True.intro e (λz=>nomatch z) h
 | str y=>obtain⟨t,q⟩:=(show ∃t,u=Value.str y t from d);cases q;exact zaN PySem.W.kitx_str I.kIn True.intro e (λz=>nomatch z) h
 | flt y=>obtain⟨t,q⟩:=(show ∃t,u=Value.float y t from d);cases q;exact zaN PySem.W.kitx_float I.kIn True.intro e (λz=>nomatch z) h
 | @lst a j f=>
  cases (show u=Value.ref a from d);obtain⟨_,_,n,_,g⟩:=(show qH X.prog X.w H s.heap a (.lst j) from I.hok a _ f);exact zaN zdZ I.kIn ⟨_,g,rfl⟩ e (λz=>nomatch z) h
 | @frz a l j f=>
  cases (show u=Value.ref a from d);obtain⟨_,_,_,n,_,g⟩:=(show qH X.prog X.w H s.heap a (.frz l (.lst j)) from I.hok a _ f);exact zaN zdZ I.kIn ⟨_,g,rfl⟩ e (λz=>nomatch z) h
 | @tup a j f=>
  cases (show u=Value.ref a from d);obtain⟨_,_,_,o⟩:=(show qH X.prog X.w H s.heap a (.tup j) from I.hok a _ f);obtain⟨l,g,m,_⟩:=o;exact zaN PySem.W.kitx_tuple I.kIn ⟨l,g,m⟩ e (λz=>nomatch z) h
 | @dK a p f=>
  cases (show u=Value.ref a from d);obtain⟨_,_,_,_,o⟩:=(show qH X.prog X.w H s.heap a (.dK p) from I.hok a _ f);obtain⟨l,r,B,g,m,_⟩:=o;exact zaN zea I.kIn ⟨l,g,m.1⟩ e (λz=>nomatch z) h
 | @dT a p f=>
  cases (show u=Value.ref a from d);obtain⟨_,_,j,_,l,r,B,g,m,_⟩:=(show qH X.prog X.w H s.heap a (.dT p) from I.hok a _ f);exact zaN zea I.kIn ⟨l,g,m.1⟩ e (λz=>nomatch z) h
 | @ins a p r fs f g j l m o=>
  cases (show u=Value.ref a from d);obtain⟨_,O,_⟩:=Xl I.hok f;obtain⟨_,d,_⟩:=O.look;exact zaN (PySem.W.kitx_own (g.get _) g.hd j l m o) I.kIn d e (λz=>nomatch z) h
open PyProof.Rows hiding K lo
structure ji(k:Nat)(A:Around):Prop where
 hd:A.handled=none
 dp:A.depth+3*k+5 < recursionLimit
 un:A.units+16*k+200 < cLine
 gd:A.guards=some []
def ji.mono(r:ji k A)(h:j<=k):ji j A:=⟨r.hd,by have:=r.dp;omega,by have:=r.un;omega,r.gd⟩
def ji.deeper(r:ji (k+1) A)(env:Env):ji k (A.deeper env):=
 ⟨r.hd,by have:=r.dp;show A.depth+1+3*k+5 < _;omega,by have:=r.un;show A.units+3+16*k+200 < _;omega,r.gd⟩
def ji.in1(r:ji (k+1) A):ji k A.in1:=
 ⟨r.hd,by have:=r.dp;show A.depth+3*k+5 < _;omega,by have:=r.un;show A.units+1+16*k+200 < _;omega,r.gd⟩
def kG{A:Around}:(A.under (.builtin "type.__call__" ⟨.ref C::us,a⟩)).depth=A.depth+1:=by
 first | rfl | simp [Around.under,Code.weight,Code.isCreation,Code.isGuard,Code.isCaller,Code.frames,Code.isFrame,guardIds]
def kF{A:Around}:(A.under (.builtin "type.__call__" ⟨.ref C::us,a⟩)).units=A.units+1:=by
 first | rfl | simp [Around.under,Code.cUnits,Code.frames,Code.isFrame]
def ji.make(r:ji (k+1) A)(C:Addr)(us:List Value)(a:List (Str×Value)):ji k (A.under (.builtin "type.__call__" ⟨.ref C::us,a⟩)):=
 ⟨r.hd,by have:=r.dp;rw[kG];omega,by have:=r.un;rw[kF];omega,(by have:=r.gd;first | exact this | simpa [Around.under,Code.isGuard,guardIds] using this)⟩
def ji.depth(r:ji k A):A.depth < recursionLimit:=by have:=r.dp;omega
def ji.units(r:ji k A):A.units+64 < cLine:=by have:=r.un;omega
def Q1:TA:=λ_ H Q=>Q [] H
def jd(b:TE)(d:TA):TA:=λa H Q=>b a H λx b=>d a b λa b=>Q (x::a) b
def jB:JA X [] Q1:=.of (by
 exact λ_ _ _ _ H Q I h=>Calls.spliced_nil ⟨[],H,I,.nil,h⟩)
def jr(f:JE X e te)(hr:JA X a t)(hs:starEach (e::a) X.env=(false,eval e X.env)::starEach a X.env:=by rfl):JA X (e::a) (jd te t):=.of (by
 intro pos b s d H Q I h;rw[hs];show wpAny _ _ (spliced ((false,eval e X.env)::backTo pos (starEach a X.env))) _ _ s;exact Calls.spliced_cons (jn (f.to b s d H _ I h) λu a ⟨x,f,g,i,j⟩=>jn (hr.to pos b a d f _ g j) λ_ _ ⟨a,b,d,f,g⟩=>⟨x::a,b,d,.cons i f,g⟩))
def jc(b:JE X a d)(e:starEach [a] X.env=(false,eval a X.env)::starEach [] X.env:=by rfl):JA X [a] (jd d Q1):=(jr b jB e)
def qV(d:JE X b e)(f:JE X a g)(i:starEach [b,a] X.env=(false,eval b X.env)::starEach [a] X.env:=by rfl)(j:starEach [a] X.env=(false,eval a X.env)::starEach [] X.env:=by rfl):JA X [b,a] (jd e (jd g Q1)):=(jr d (jr f jB j) i)
def ZV(e:JE X d f)(g:JE X b i)(j:JE X a l)(m:starEach [d,b,a] X.env=(false,eval d X.env)::starEach [b,a] X.env:=by rfl)(o:starEach [b,a] X.env=(false,eval b X.env)::starEach [a] X.env:=by rfl)(p:starEach [a] X.env=(false,eval a X.env)::starEach [] X.env:=by rfl):JA X [d,b,a] (jd f (jd i (jd l Q1))):=(jr e (jr g (jr j jB p) o) m)
def BS(f:JE X e g)(i:JE X d j)(l:JE X b m)(o:JE X a p)(q:starEach [e,d,b,a] X.env=(false,eval e X.env)::starEach [d,b,a] X.env:=by rfl)(r:starEach [d,b,a] X.env=(false,eval d X.env)::starEach [b,a] X.env:=by rfl)(u:starEach [b,a] X.env=(false,eval b X.env)::starEach [a] X.env:=by rfl)(x:starEach [a] X.env=(false,eval a X.env)::starEach [] X.env:=by rfl):JA X [e,d,b,a] (jd g (jd j (jd m (jd p Q1)))):=(jr f (jr i (jr l (jr o jB x) u) r) q)
def ja5(g:JE X f i)(j:JE X e l)(m:JE X d o)(p:JE X b q)(r:JE X a u)(x:starEach [f,e,d,b,a] X.env=(false,eval f X.env)::starEach [e,d,b,a] X.env:=by rfl)(y:starEach [e,d,b,a] X.env=(false,eval e X.env)::starEach [d,b,a] X.env:=by rfl)(z:starEach [d,b,a] X.env=(false,eval d X.env)::starEach [b,a] X.env:=by rfl)(B:starEach [b,a] X.env=(false,eval b X.env)::starEach [a] X.env:=by rfl)(C:starEach [a] X.env=(false,eval a X.env)::starEach [] X.env:=by rfl):JA X [f,e,d,b,a] (jd i (jd l (jd o (jd q (jd u Q1))))):=(jr g (jr j (jr m (jr p (jr r jB C) B) z) y) x)
def x4(t:TA):TE:=λa H Q=>t a H λb d=>b.length<=zeq/\∀a,d a=none->Q (.ref a) (upd d a (.tup b))
def u3(t:TA):TE:=λa H Q=>t a H λb d=>b.length<=zeq/\∀a,d a=none->Q (.ref a) (upd d a (.lst b))
def qC{X:Cx}{a:List Expr}{t:TA}{pos:Pos}{d}(h:JA X a t):JE X (.Tuple a d pos) (x4 t):=.of (by
 refine λa s d H Q I f=>wpAny_Tuple_spliced (jn (h.to pos a s d H _ I f) λg a ⟨i,j,d,f,z,q⟩=>⟨f.length▸z,⟨.ref a.heap.objs.size,upd j a.heap.objs.size (.tup i),d.laid (t':=a.toks) (λb u e=>tm _ e) (tp _) ?_,rfl,q _ (d.hok.fresh (tp _))⟩⟩);exact⟨z,g,f,⟨_,tR _ rfl,rfl,_,rfl⟩⟩)
def qW(h:JA X a t):JE X (.List a pos) (u3 t):=.of (by
 refine λa s d H Q I f=>wpAny_List_spliced (jn (h.to pos a s d H _ I f) λg a ⟨i,j,d,f,z,q⟩=>⟨f.length▸z,⟨.ref a.heap.objs.size,upd j a.heap.objs.size (.lst i),d.laid (t':=a.toks) (λb u e=>tm _ e) (tp _) ?_,rfl,q _ (d.hok.fresh (tp _))⟩⟩);exact⟨z,g,0,f,tR _ rfl⟩)
abbrev Sp:=List V->Hp->VK->XK->Prop
abbrev yc:=List Env->Hp->Shared->XK->Value->Shared->Prop
structure Up(P:Program)(w:World)(K:zel)(mg:Str->Option Value)(base:Heap)(A:Around)(outer:List Env)(s:Shared)(H:Hp):Prop where
 frames:A.frames=some outer
 mod:Mod K mg base
 bs:∀b o,base.get? b=some o->s.heap.get? b=some o/\H b=none
 bsz:base.objs.size<=s.heap.objs.size
 funs:s.heap.FunFrames base outer
 frf:∀b∈Yl outer,H b=none
 hok:Zd P w H s.heap
 bare:AllBare s.gens
inductive CE(outer:List Env)(P:Program)(w:World)(H:Hp)(s:Shared)(Q:VK)(u:Value)(s':Shared):Prop
 | mk (v:_) (H':_):s'.os=s.os->AllBare s'.gens->(Un (Yl outer) [] H H' s.heap s'.heap)->Zd P w H' s'.heap->qU v u->Q v H'->CE outer P w H s Q u s'
def CR(b:yc)(outer:List Env)(P:Program)(w:World)(H:Hp)(s:Shared)(Q:VK)(E:XK)(r:Result)(a:Shared):Prop:=
 match r with
 | .ok (.ret u)=>CE outer P w H s Q u a
 | .ok _=>False
 | .error e=>b outer H s E e a
structure qp(P:Program)(w:World)(K:zel)(mg:Str->Option Value)(base:Heap)(CX:yc)(k:Nat)(f:Addr)(fd:zep)(ps:List Str)(sp:Sp):Prop where
 len:∀vs H Q E,sp vs H Q E->vs.length=ps.length
 run:∀(A:Around) (outer:List Env) (s:Shared) (H:Hp) (args:Args) (us:List Value) (vs:List V) (Q:VK) (E:XK),ji k A->Up P w K mg base A outer s H->BindsTo s fd args (ps.zip us)->qP vs us->sp vs H Q E->
  codeAny (model P w) A (.call (.ref f) args) (CR CX outer P w H s Q E) s
def pin(P:Program)(w:World)(mg:Str->Option Value)(base:Heap)(h:qp P w K mg base a k f b ps d):qp P w K mg base a k f b ps d:=h
def qp.imp{a:Sp}(F:qp P w K mg base b k f d ps e)(h:∀vs H Q E,a vs H Q E->e vs H Q E):qp P w K mg base b k f d ps a:=
 ⟨λvs H Q E q=>F.len vs H Q E (h _ _ _ _ q),λA a s H args b vs Q E hr d e g i=>F.run A a s H args b vs Q E hr d e g (h _ _ _ _ i)⟩
def Up.make{P:Program}{w:World}{K:zel}{mg:Str->Option Value}{base:Heap}{A:Around}{outer:List Env}{s:Shared}{H:Hp}(e:Up P w K mg base A outer s H)(C:Addr)(us:List Value)(a:List (Str×Value)):
 Up P w K mg base (A.under (.builtin "type.__call__" ⟨.ref C::us,a⟩)) outer s H:=⟨by first | exact e.frames | (simpa [Around.under,Code.envs,Code.isFrame,pushEnvs] using e.frames),e.mod,e.bs,e.bsz,e.funs,e.frf,e.hok,e.bare⟩
def Up.in1(e:Up P w K mg base A outer s H):
 Up P w K mg base A.in1 outer s H:=⟨e.frames,e.mod,e.bs,e.bsz,e.funs,e.frf,e.hok,e.bare⟩
def qw.env0(I:qw X a b H s):Up X.prog X.w X.K X.mg X.base X.A X.stack s H:=
 ⟨I.ok.frames,I.ok.mod,I.bs,t8 I.ok.bsz I.sz,I.stack,I.stkFree,I.hok,I.bare⟩
def qw.after(I:qw X e f H s)(h:CE X.stack X.prog X.w H s Q u a):EP X e f Q u a:=by
 obtain⟨v,e,os,bare,un,f,g,q⟩:=h;obtain⟨_,_,d,t,i⟩:=a;obtain rfl:i=s.os:=os;exact⟨v,e,I.call un f bare (λb z=>absurd z (by simp)),g,q⟩
def Xz(a:Sp)(b:List V)(E:XK)(t:TA):TE:=λd H Q=>t d H λd e=>a (d++b) e Q E
inductive u1(C:Addr)(m:Str)(sp:Sp)(hZ:List V)(E:XK)(t:TA)(σ:St)(Q:VK)(x:V)(H1:Hp):Prop
 | mk (a:_) (dx:_) (fs:_):x=.ref a->H1 a=some (.ins C dx fs)->fs.lookup m=none->(t σ H1 λvs H2=>sp (x::(vs++hZ)) H2 Q E)->u1 C m sp hZ E t σ Q x H1
def WR(C:Addr)(m:Str)(b:Sp)(d:List V)(E:XK)(e:TE)(t:TA):TE:=λa H Q=>e a H λx e=>u1 C m b d E t a Q x e
def EC(C:Addr)(d:Sp)(e:List V)(E:XK)(t:TA):TE:=λa H Q=>t a H λf b=>∀x a,b x=none->b a=none->a≠x->
 d (.ref x::(f++e)) (upd (upd b a (.own x)) x (.ins C a [])) (λv a=>v=.non/\Q (.ref x) a) E
def jy(K:zel)(d:zep)(ps:List Str)(b:List Value):Prop:=
 ∀(s:Shared) (a:List Value),K.In s.heap->(a++b).length=ps.length->BindsTo s d ⟨a,[]⟩ (ps.zip (a++b))
def jy.all{K:zel}{a:zep}{ps:List Str}(h:∀us:List Value,us.length=ps.length->bindArgs a ⟨us,[]⟩=pure (ps.zip us)):jy K a ps []:=λs us _ a=>by
 rw[zaj]at a ⊢;exact .of_eq (h us a)
def jY(b:yc)(X:Cx)(E:XK):Prop:=∀(d:List (Addr×Obj)) (f:St) (H:Hp) (s:Shared) (e:Value) (a:Shared),qw X d f H s->b X.stack H s E e a->X.xe e a
def zx{X:Cx}(F:qp X.prog X.w X.K X.mg X.base l k f m ps o)(hr:ji k X.A)(p:jy X.K m ps b)(hd:qP d b)(q:jY l X E)(I:qw X g i H s)(r:qP vs us)(h:o (vs++d) H Q E):wpAny (model X.prog X.w) X.A (call (.ref f) us) (EP X g i Q) X.xe s:=by
 have j:=r.append hd;refine wpAny_call (codeAny_mono (F.run X.A X.stack s H ⟨us,[]⟩ (us++b) (vs++d) Q E hr I.env0 (p s us I.kIn (by rw[<-j.length];exact F.len _ _ _ _ h)) j h) λr x a=>?_);cases r with
 | error e=>exact q g i H s e x I a
 | ok y=>
  cases y with
  | ret u=>exact I.after a
  | next=>exact False.elim a
  | brk=>exact False.elim a
  | cont=>exact False.elim a
def xj{X:Cx}(F:qp X.prog X.w X.K X.mg X.base d k f g ps i)(hr:ji k X.A)(j:Gl X x)(l:X.mg x=some (.ref f))(m:zaw X.K (.ref f)=true)(o:jy X.K g ps r)(hd:qP u r)(y:jY d X E)(z:PA X (e::a) t)(B:(x==("__debug__":Str))=false:=by decide)(C:starEach (e::a) X.env=(false,eval e X.env)::starEach a X.env:=by rfl)(D:(backTo pos (starEach a X.env)).any (·.1)=false:=by rfl):
  PE X (.Call (.Name x p) (e::a) [] pos) (Xz i u E t):=by
 exact λa s b H Q I h=>wpAny_Call_Name_kw (z4 I j l (zbm (h₀:=X.base) I.ok.mod.kin m (jn (z pos a s b H _ I h) λ_ _ ⟨_,_,b,J,q⟩=>⟨b.kIn,zx F hr o hd y b J q⟩) C D) B)
def MP{pl:Sem Bool}(l:PE X o p)(c:WC X.K C)(d:WM X.K C m f)(F:qp X.prog X.w X.K X.mg X.base r k f y ps z)(hr:ji k X.A)(B:jy X.K y ps D)(hd:qP J D)(L:jY r X E)(O:PA X (e::b) t)(T:starEach (e::b) X.env=(false,eval e X.env)::starEach b X.env:=by rfl)(U:(backTo pos (starEach b X.env)).any (·.1)=false:=by rfl) (Y:eval (.Call (.Attribute o m c_) (e::b) [] pos) X.env=(do
   let g <-eval o X.env
   standAt c_.atName
   let (f,first) <-holding [g] (getMethod g m pl)
   callWith pos f first (backTo pos (starEach (e::b) X.env)) (backToKw pos (keywordEach [] X.env))):=by rfl):
  PE X (.Call (.Attribute o m c_) (e::b) [] pos) (WR C m z J E p t):=by
 refine λb s g H Q I h=>zbU (jn (l b s g H _ I h) λu j ⟨x,H1,i,rx,a,_,fs,ex,ea,aa,q⟩=>?_) Y;subst ex;obtain rfl:u=Value.ref a:=rx;exact QU i ea c d aa (zbm (first:=[.ref a]) (h₀:=X.base) I.ok.mod.kin d.kp (jn (O pos b j g H1 _ i q) λb _ ⟨vs,_,j,ab,q2⟩=>⟨j.kIn,zx (us:=.ref a::b) (vs:=.ref a::vs) F hr B hd L j (.cons rfl ab) q2⟩) T U)
def Av{pl:Sem Bool}(d:JE X o g)(c:WC X.K C)(i:WM X.K C m f)(F:qp X.prog X.w X.K X.mg X.base j k f l ps p)(hr:ji k X.A)(q:jy X.K l ps r)(hd:qP u r)(x:jY j X E)(y:JA X (e::a) t)(z:starEach (e::a) X.env=(false,eval e X.env)::starEach a X.env:=by rfl)(B:(backTo pos (starEach a X.env)).any (·.1)=false:=by rfl) (D:eval (.Call (.Attribute o m c_) (e::a) [] pos) X.env=(do
 let b <-eval o X.env
 standAt c_.atName
 let (f,first) <-holding [b] (getMethod b m pl)
 callWith pos f first (backTo pos (starEach (e::a) X.env)) (backToKw pos (keywordEach [] X.env))):=by rfl):JE X (.Call (.Attribute o m c_) (e::a) [] pos) (WR C m p u E g t):=.of (MP d.to c i F hr q hd x y.to z B D)
def Gy{pl:Sem Bool}(g:PE X o i)(c:WC X.K C)(d:WM X.K C m f)(F:qp X.prog X.w X.K X.mg X.base j k f l ps p)(hr:ji k X.A)(r:jy X.K l ps y)(hd:qP z y)(B:jY j X E) (D:eval (.Call (.Attribute o m c_) [] [] pos) X.env=(do
   let e <-eval o X.env
   standAt c_.atName
   let (f,first) <-holding [e] (getMethod e m pl)
   callWith pos f first (backTo pos (starEach [] X.env)) (backToKw pos (keywordEach [] X.env))):=by rfl):
  PE X (.Call (.Attribute o m c_) [] [] pos) (WR C m p z E i Q1):=by
 refine λb s e H Q I h=>zbU (jn (g b s e H _ I h) λu _ ⟨x,_,b,J,a,_,fs,L,O,T,q⟩=>?_) D;subst L;obtain rfl:u=Value.ref a:=J;exact QU b O c d T (zcT b.kIn d.kp (zx (vs:=[.ref a]) F hr r hd B b (.cons rfl .nil) q))
def RT{pl:Sem Bool}(b:JE X o d)(c:WC X.K C)(e:WM X.K C m f)(F:qp X.prog X.w X.K X.mg X.base g k f i ps j)(hr:ji k X.A)(l:jy X.K i ps p)(hd:qP q p)(r:jY g X E) (u:eval (.Call (.Attribute o m c_) [] [] pos) X.env=(do
 let a <-eval o X.env
 standAt c_.atName
 let (f,first) <-holding [a] (getMethod a m pl)
 callWith pos f first (backTo pos (starEach [] X.env)) (backToKw pos (keywordEach [] X.env))):=by rfl):JE X (.Call (.Attribute o m c_) [] [] pos) (WR C m j q E d Q1):=.of (Gy b.to c e F hr l hd r u)
structure Mk(K:zel)(C f:Addr):Prop where
 makes:zco K C=true
 init:zaa K (.ref C) "__init__"=some (some (.ref f))
 fn:zby K (.ref f)=true
 kp:zaw K (.ref C)=true
def Ga{X:Cx}{Q:VK}(M:Mk X.K C f)(F:qp X.prog X.w X.K X.mg X.base p k f q ps y)(hr:ji (k+1) X.A)(z:jy X.K q ps b)(hd:qP i b)(B:jY p X E)(I:qw X j l H s)(r:qP vs us)(h:∀x d,H x=none->H d=none->d≠x->y (.ref x::(vs++i)) (upd (upd H d (.own x)) x (.ins C d [])) (λv D=>v=.non/\Q (.ref x) D) E):
  wpAny (model X.prog X.w) X.A (call (.ref C) us) (EP X j l Q) X.xe s:=by
 have m:=h (s.heap.objs.size+1) s.heap.objs.size (I.hok.fresh (zdG _)) (I.hok.fresh (tp _)) (tO (zaF _));have g:=qw.made (C:=C) I;have o:qP (V.ref (s.heap.objs.size+1)::(vs++i)) (Value.ref (s.heap.objs.size+1)::(us++b)):=.cons rfl (r.append hd);have J:(Value.ref (s.heap.objs.size+1)::us++b).length=ps.length:=by
  have e:=o.length;rw[F.len _ _ _ _ m]at e;exact e.symm
 refine wpAny_call (RG I.kIn M.makes M.init (beq_iff_eq.mp M.fn) (codeAny_mono (F.run _ X.stack _ _ ⟨Value.ref (s.heap.objs.size+1)::us,[]⟩ (Value.ref (s.heap.objs.size+1)::(us++b)) _ _ E (hr.make C us [])
  (g.env0.make C us []) (z _ (Value.ref (s.heap.objs.size+1)::us) g.kIn J) o m) λr L a=>?_))
 cases r with
 | error e=>exact B j l _ _ e L g a
 | ok O=>
  cases O with
  | ret u=>
   obtain⟨v,T,U,Y,ev,q3⟩:=g.after a;subst ev;exact⟨Y,⟨V.ref (s.heap.objs.size+1),T,U,rfl,q3⟩⟩
  | next=>exact False.elim a
  | brk=>exact False.elim a
  | cont=>exact False.elim a
def JL{X:Cx}(M:Mk X.K C f)(F:qp X.prog X.w X.K X.mg X.base d k f g ps i)(hr:ji (k+1) X.A)(j:Gl X x)(l:X.mg x=some (.ref C))(m:jy X.K g ps o)(hd:qP r o)(u:jY d X E)(y:JA X (e::a) t)(z:(x==("__debug__":Str))=false:=by decide)(B:starEach (e::a) X.env=(false,eval e X.env)::starEach a X.env:=by rfl)(D:(backTo pos (starEach a X.env)).any (·.1)=false:=by rfl):JE X (.Call (.Name x p) (e::a) [] pos) (EC C i r E t):=.of (by
 refine λa s b H Q I h=>wpAny_Call_Name_kw (z4 I j l (zbm (h₀:=X.base) I.ok.mod.kin M.kp (jn (y.to pos a s b H _ I h) λ_ _ ⟨_,_,b,J,q⟩=>⟨b.kIn,?_⟩) B D) z);exact Ga M F hr m hd u b J q)
structure qk(N P:List Str)(sc:Scope):Prop where
 kind:sc.kind=.function
 co:sc.isCoroutine=false
 gen:sc.isGenerator=false
 nd:N.Nodup
 pre:N.take P.length=P
 par:∀x∈P,sc.names.lookup x=some .local\/sc.names.lookup x=some .cell
 nofree:∀y∈sc.names,y.2≠.free
def jM{N P:List Str}{i:Scope}(a:i.kind=.function:=by exact rfl)(b:i.isCoroutine=false:=by exact rfl)(c:i.isGenerator=false:=by exact rfl)(d:N.Nodup:=by decide+kernel)(e:N.take P.length=P:=by exact rfl)(f:∀x∈P,i.names.lookup x=some .local\/i.names.lookup x=some .cell:=by decide+kernel)(g:∀y∈i.names,y.2≠.free:=by decide+kernel):qk N P i:=⟨a,b,c,d,e,f,g⟩
def Vr{e_:Str->Option NameKind}{x:Str}:∀{binds:List (Str×Value)} {m:Str->Option Value},(∀v,(x,v)∉binds)->bindL e_ binds m x=m x
 | [],_,_=>rfl
 | (n,v)::a,m,h=>by
  unfold bindL;rw[Vr λw a=>h w (tU _ a)];split
  ·have:x≠n:=by rintro rfl;exact h v tX
   simp [this]
  ·rfl
def Vt{e_:Str->Option NameKind}{x:Str}:∀{binds:List (Str×Value)} {m:Str->Option Value},(∀v,(x,v)∉binds)->bindC e_ binds m x=m x
 | [],_,_=>rfl
 | (n,v)::a,m,h=>by
  unfold bindC;rw[Vt λw a=>h w (tU _ a)];split
  ·rfl
  ·have:x≠n:=by rintro rfl;exact h v tX
   simp [this]
def Vs{e_:Str->Option NameKind}:∀{P:List Str} {vs:List Value} {i:Nat} {m:Str->Option Value},P.Nodup->P[i]?=some x->vs[i]?=some v->e_ x=some .local->
  bindL e_ (P.zip vs) m x=some v
 | [],_,_,_,_,h,_,_=>by simp at h
 | _::_,[],_,_,_,_,h,_=>by simp at h
 | a::P,w::vs,0,m,e,b,d,f=>by
  simp at b d;subst b;subst d;show bindL e_ ((a,w)::P.zip vs) m a=_;unfold bindL;rw[Vr λv g=>(zak.mp e).1 (zbF g).1,if_pos f];simp
 | a::P,w::vs,i+1,m,e,b,d,f=>by
  show bindL e_ ((a,w)::P.zip vs) m x=_;unfold bindL;exact Vs (zak.mp e).2 (by simpa using b) (by simpa using d) f
def Vu{e_:Str->Option NameKind}:∀{P:List Str} {vs:List Value} {i:Nat} {m:Str->Option Value},P.Nodup->P[i]?=some x->vs[i]?=some v->e_ x≠some .local->
  bindC e_ (P.zip vs) m x=some v
 | [],_,_,_,_,h,_,_=>by simp at h
 | _::_,[],_,_,_,_,h,_=>by simp at h
 | a::P,w::vs,0,m,e,b,d,f=>by
  simp at b d;subst b;subst d;show bindC e_ ((a,w)::P.zip vs) m a=_;unfold bindC;rw[Vt λv g=>(zak.mp e).1 (zbF g).1,if_neg f];simp
 | a::P,w::vs,i+1,m,e,b,d,f=>by
  show bindC e_ ((a,w)::P.zip vs) m x=_;unfold bindC;exact Vu (zak.mp e).2 (by simpa using b) (by simpa using d) f
def start(N:List Str)(vs:List V):St:=vs.map some++zbs (N.length - vs.length) none
def Qq(b:yc)(P:Program)(w:World)(K:zel)(mg:Str->Option Value)(base:Heap)(N:List Str)(qual:Str)(scope:Scope)(f:Addr)(a:Value)(A:Around)(outer:List Env)(s:Shared)(H:Hp)(E:XK):Cx where
 prog:=P
 w:=w
 K:=K
 mg:=mg
 base:=base
 A:=A.deeper (envOfC qual scope s.heap.objs.size f a)
 N:=N
 s₀:=s
 H₀:=H
 env:=envOfC qual scope s.heap.objs.size f a
 outer:=outer
 stack:=envOfC qual scope s.heap.objs.size f a::outer
 ex:=[]
 calm:=true
 fn:=λ_=>true
 pn:=[]
 xe:=λe d=>wpAny (model P w) (A.deeper (envOfC qual scope s.heap.objs.size f a)) (leaving (envOfC qual scope s.heap.objs.size f a) e) (λ_ a=>b outer H s E e a) (λg a=>b outer H s E g a) d
def vP{a:Scope}(h:a.names.lookup x=some .cell):∃c,(cellsFrom n a.names []).lookup x=some c:=by
 exact zdl.mp (zcx a.names n [] (.inl h))
def Vj{j:yc}{P:Program}{w:World}{K:zel}{mg:Str->Option Value}{base:Heap}{N ps:List Str}{qual:Str}{scope:Scope}{f:Addr}{d:Value}{A:Around}{outer:List Env}{s l:Shared}{H:Hp}{E:XK}{us:List Value}{vs:List V}
  (S:qk N ps scope) (hd:A.handled=none) (g:Up P w K mg base A outer s H) (m:vs.length=ps.length) (r:qP vs us)
  (x:InCallC s s.heap.objs.size (bindL (envOfC qual scope s.heap.objs.size f d).kindOf (ps.zip us) λ_=>none) (cellsFrom (s.heap.objs.size+1) scope.names []) (bindC (envOfC qual scope s.heap.objs.size f d).kindOf (ps.zip us) λ_=>none) l):
  qw (Qq j P w K mg base N qual scope f d A outer s H E) [] (start N vs) H l:=by
 have l:ps.length<=N.length:=by have:=congrArg zas S.pre;rw[tL]at this;omega
 obtain⟨m,tk,rfl,o⟩:=x.done;have l:∀b:Addr,b∉(Qq j P w K mg base N qual scope f d A outer s H E).ex:=λb z=>absurd (show b∈([]:List Addr) from z) (by simp);refine⟨⟨g.mod,S.kind,rfl,rfl,tp _,λy z c m d=>?_,λy j=>?_,λy c _ h=>?_,λ_=>hd,Around.frames_deeper g.frames,.inr ⟨rfl,rfl⟩,λb z=>absurd z (l b),g.bs,g.bsz,λb _ _=>l b,λb z=>absurd z (l b),g.funs,g.frf⟩,
  rfl,g.bare,Un.kept o,⟨_,x.toInCall.ns,λi y v m d _=>?_⟩,λy c h=>⟨_,x.cell y c h⟩,g.hok.fresh (tp _),λy c h=>?_,λp l=>absurd (show p∈([]:List (Addr×Obj)) from l) (by simp),g.hok.kept o,?_⟩
 ·exact name_of_addr x.apart (PySem.mem_of_lookup m) (PySem.mem_of_lookup d)
 ·have j:=j;rcases j with j | j
  ·exact vP j
  ·exact absurd rfl (S.nofree _ (PySem.mem_of_lookup j))
 ·exact zab (x.above y c (PySem.mem_of_lookup h))
 ·have j:i < vs.length:=by
   unfold start at d;by_cases j:i < vs.length
   ·exact j
   ·rw[tY (by simpa using j)]at d;rw[zcu]at d;split at d<;>cases d
  have m:vs[i]?=some v:=by
   unfold start at d;rw[t7 (by simpa using j),tu]at d;cases e:vs[i]? with
   | none=>rw[e]at d;cases d
   | some a=>rw[e]at d;cases d;rfl
  obtain⟨u,hu,j⟩:=r.get m;have l:ps[i]?=some y:=by
   rwa [<-S.pre,zbp (by omega)]
  have d:ps.Nodup:=by rw[<-S.pre];exact S.nd.sublist (zcy _ _)
  refine⟨u,j,?_⟩;rcases S.par y (tW l) with k | k
  ·exact .inl ⟨k,Vs d l hu k⟩
  ·obtain⟨c,e⟩:=vP k;refine .inr ⟨.inl k,c,e,?_⟩;have q:=x.cell y c e;rwa [Vu d l hu (by show scope.names.lookup y≠_;rw[k];decide)]at q
 ·exact .inl (g.hok.fresh (zab (x.above y c (PySem.mem_of_lookup h))))
 ·unfold start;show _=N.length;rw[tx,tc,zaP];omega
def BZ{l:yc}{P:Program}{w:World}{K:zel}{mg:Str->Option Value}{base:Heap}{k:Nat}{f:Addr}{a_ qual:Str}{z:Arguments}{fu:List Stmt}{scope:Scope}{B kV C pm d ct O:Value}{D T:Option Addr}
  {U:Array (Option Value)} {N ps:List Str} {m:Sp} (lk:K.lookup f=some ⟨O,T,.func (zaU a_ qual z fu scope B kV C pm D d ct),U⟩) (Y:zbh K d qual=true) (S:qk N ps scope)
  (len:∀vs H Q E,m vs H Q E->vs.length=ps.length)
  (aa:∀(A:Around) (outer:List Env) (s:Shared) (H:Hp) (vs:List V) (Q:VK) (E:XK),ji k (A.deeper (envOfC qual scope s.heap.objs.size f d))->m vs H Q E->
   ∃t,NI (Qq l P w K mg base N qual scope f d A outer s H E) fu t/\t {nx:=λ_ H'=>Q .non H',rt:=Q} (start N vs) H):
  qp P w K mg base l (k+1) f (zaU a_ qual z fu scope B kV C pm D d ct) ps m:=by
 refine⟨len,λA outer s H args us vs Q E hr i hb ab J=>?_⟩;have L:=i.mod.kin.keeps λb o e=>(i.bs b o e).1;have ac:∀y∈ps.zip us,scope.names.lookup y.1=some .local\/(scope.names.lookup y.1=some .cell/\((cellsFrom (s.heap.objs.size+1) scope.names []).lookup y.1).isSome=true):=λ⟨n,v⟩ hy=>by
  rcases S.par n (zbF hy).1 with q | q
  ·exact .inl q
  ·exact .inr ⟨q,zcx _ _ _ (.inl q)⟩
 refine codeAny_call_function hr.depth (L _ _ lk) rfl S.co S.gen rfl (zdR L Y) (hb _ _ _ _ (wpAny_newFunctionEnv_cells S.kind ac λae he s1 x=>?_));subst he;refine⟨(i.mod.nolimit.keeps λb o e=>(i.bs b o e).1).keeps x.toInCall.keep,codeAny_func ?_⟩;obtain⟨t,ht,hq⟩:=aa A outer s H vs Q E (hr.deeper _) J;refine wpAny_mono (ht [] s1 (start N vs) H _ (Vj S hr.hd i (len _ _ _ _ J) ab x) hq) (λfl p g=>?_) λe p g=>g;have ft:∀{j:St} {H':Hp} {v:V} {u:Value},qw (Qq l P w K mg base N qual scope f d A outer s H E) [] j H' p->qU v u->Q v H'->CE outer P w H s Q u p:=
  λ{j H' v u} a r q=>⟨v,H',a.os,a.bare,a.base,a.hok,r,q⟩
 cases fl with
 | ret u=>
  obtain⟨v,j,H',a,r,q⟩:=g;exact ft a r q
 | next=>
  obtain⟨j,H',a,q⟩:=g;exact ft (v:=V.non) a rfl q
 | brk=>
  obtain⟨_,_,_,q⟩:=g;exact False.elim q
 | cont=>
  obtain⟨_,_,_,q⟩:=g;exact False.elim q
open PyProof.Rows hiding K lo
def EI(r:List V->Hp->VK->Prop)(t:TA):TE:=λa H Q=>t a H λa b=>r a b Q
def qx{X:Cx}{x:Str}{p:Pos}{pos:Pos}{e:Expr}{a:List Expr}{t:TA}{id:String}{r:List V->Hp->VK->Prop}(d:Q6 X (.builtin id) r)(f:Gl X x)(g:X.mg x=none)(i:bootBuiltins x=some (.builtin id))(j:JA X (e::a) t)(l:x≠"__name__":=by decide)(m:(x==("__debug__":Str))=false:=by decide)(o:starEach (e::a) X.env=(false,eval e X.env)::starEach a X.env:=by rfl)(q:(backTo pos (starEach a X.env)).any (·.1)=false:=by rfl):JE X (.Call (.Name x p) (e::a) [] pos) (EI r t):=.of (by
 refine λa s b H Q I h=>wpAny_Call_Name_kw (Jo I f g i ?_ l m);exact PyProof.Rows.callWith_builtin1 (jn (j.to pos a s b H _ I h) λf g ⟨i,j,l,m,u⟩=>d a g b j i f Q l m u) o q)
def jF(d:Q6 X (.type T) r)(f:Gl X x)(g:X.mg x=none)(i:bootBuiltins x=some (.type T))(j:JA X (e::a) t)(l:x≠"__name__":=by decide)(m:(x==("__debug__":Str))=false:=by decide)(o:starEach (e::a) X.env=(false,eval e X.env)::starEach a X.env:=by rfl)(q:(backTo pos (starEach a X.env)).any (·.1)=false:=by rfl):JE X (.Call (.Name x p) (e::a) [] pos) (EI r t):=.of (by
 refine λa s b H Q I h=>wpAny_Call_Name_kw (Jo I f g i ?_ l m);exact PyProof.Rows.callWith_type1 (jn (j.to pos a s b H _ I h) λf g ⟨i,j,l,m,u⟩=>d a g b j i f Q l m u) o q)
end L2
namespace HT
open PySem
open PyProof.Rows hiding K lo
section
open PySem.SeqAt
open PySem.AutoSeq1 (wpAny_loadPart')
open PySem.MeetsSeq PySem.MeetsSeq2 PySem.MeetsSeq3
end
def cat_tup{s:Shared}{vs a:List Value}{Q:Value->Shared->Prop}(f:IsTup s.heap t vs.toArray)(r:IsTup s.heap b a.toArray)(i:vs≠[])(u:a=[]->Q (.ref t) s)(x:a≠[]->Q (.ref s.heap.objs.size) {s with heap:=s.heap.push {cls:=.type "tuple",data:=.seq (vs++a).toArray}})(hsz:vs.length+a.length<=zeq):wpAny (model prog w) A (binaryOp .Add (.ref t) (.ref b)) Q E s:=by
 obtain⟨⟨cls,j,data,l⟩,d,g,n,hd⟩:=id f;obtain⟨⟨_,m,gM,o⟩,f,p,n2,q⟩:=id r;simp only at g hd p q;subst g hd p q;have e:vs.toArray++a.toArray=(vs++a).toArray:=by simp
 by_cases g:a=[]
 ·exact concat_meets ⟨_,d,rfl⟩ ⟨_,f,rfl⟩ noFill_tuple_add seq_tuple_add zcz zcv (zck _ _)
   (tuple_addW1 t b vs.toArray a.toArray n n2 j m l o (by simpa using i) (by simp [g])) ⟨d,f,u g⟩
 ·refine concat_meets ⟨_,d,rfl⟩ ⟨_,f,rfl⟩ noFill_tuple_add seq_tuple_add zcz zcv (zck _ _)
   (tuple_addW2 t b vs.toArray a.toArray n n2 j m l o (by simpa using i) (by simpa using g) (by rwa [t6,t6])) ⟨d,f,?_⟩
  rw[e];exact x g
def sIx(n d:Nat):Option Int->Nat
 | none=>d
 | some v=>if v < 0 then (v+(n:Int)).toNat else min v.toNat n
def sIx_none(n d:Nat):sIx n d none=d:=rfl
def sIx_nat(n d k:Nat):sIx n d (some (k:Int))=min k n:=by
 show (if (k:Int) < 0 then ((k:Int)+(n:Int)).toNat else min (k:Int).toNat n)=min k n;rw[if_neg (by omega),zaL]
end HT
namespace L2
open PySem PySem.Spec
open PyProof.Rows hiding K lo
abbrev TO:=St->Hp->(Option Int->Hp->Prop)->Prop
def PO(X:Cx)(e:Option Expr)(t:TO):Prop:=
 ∀(b:List (Addr×Obj)) (s:Shared) (a:St) (H:Hp) (Q:Option Int->Hp->Prop),qw X b a H s->t a H Q->
  wpAny (model X.prog X.w) X.A (evalPart e X.env) (λu g=>∃d f,qw X b a f g/\IsPart u d/\Q d f) X.xe s
@[irreducible] def JO (X:Cx) (e:Option Expr) (t:TO):Prop:=PO X e t
def JO.of(h:PO X e t):JO X e t:=by unfold JO;exact h
def JO.to(h:JO X e t):PO X e t:=by unfold JO at h;exact h
def NU:TO:=λ_ H Q=>Q none H
inductive uZ(Q:Option Int->Hp->Prop)(x:V)(H1:Hp):Prop
 | mk (i:_):x=.int i->(Q (some i) H1)->uZ Q x H1
def Ez(t:TE):TO:=λa H Q=>t a H λx a=>uZ Q x a
def kL{ns:List Int}:∀{us:List Value},qP (ns.map V.int) us->IntsAre us ns:=by
 induction ns with
 | nil=>intro us a;rw[zcb]at a;cases a;exact .nil
 | cons n ns b=>
  intro us a;rw[tV]at a;cases a with
  | cons a d=>
   obtain⟨t,e⟩:=a;subst e;exact .cons n t (b d)
def JK:JO X none NU:=.of (by
 intro _ s _ H Q I h;rw[evalPart_none];exact zeo ⟨none,H,I,.none,h⟩)
def JJ(h:JE X e te):JO X (some e) (Ez te):=.of (by
 intro a s b H Q I d;rw[evalPart_some];refine jn (h.to a s b H _ I d) λu _ ⟨x,a,b,d,f⟩=>?_;obtain⟨i,rfl,q⟩:=f;obtain⟨t,rfl⟩:=d;exact⟨some i,a,b,.int i t,q⟩)
def IY(X:Cx)(r:V->Option Int->Option Int->Hp->VK->Prop):Prop:=
 ∀(a:List (Addr×Obj)) (s:Shared) (b:St) (H:Hp) (x:V) (v d e:Value) (lo f:Option Int) (g:Addr) (Q:VK),qw X a b H s->qU x v->s.heap.IsSliceOf g d e .none->IsPart d lo->IsPart e f->r x lo f H Q->
  ∃d id,typeLookup (.type d) "__getitem__"=pure (some (.builtin id))/\s.TypeIs v d/\wpAny (model X.prog X.w) X.A (getItem v (.ref g)) (EP X a b Q) X.xe s
def tSl(r:V->Option Int->Option Int->Hp->VK->Prop)(te:TE)(b d:TO):TE:=λa H Q=>te a H λx e=>b a e λb e=>d a e λu a=>r x b u a Q
def Q4{X:Cx}{e:Expr}{te:TE}{lo:Option Expr}{j:Option Expr}{a:TO}{d:TO}{pos:Pos}{p2:Pos}{r:V->Option Int->Option Int->Hp->VK->Prop}(hr:IY X r)(g:JE X e te)(i:JO X lo a)(hu:JO X j d):JE X (.Subscript e (.Slice lo j none p2) pos) (tSl r te a d):=.of (by
 refine λd s f H Q I h=>Subscript_ (jn (g.to d s f H _ I h) λv a ⟨x,g,l,m,o⟩=>wpAny_Slice (jn (i.to d a f g _ l o) λg a ⟨o,i,l,pl,p⟩=>jn (hu.to d a f i _ l p) λi a ⟨u,l,p,y,z⟩=>?_));rw[evalPart_none];refine zeo ?_;have B:qw X d f l {a with heap:=a.heap.push {cls:=.type "slice",data:=.fields #[g,i,.none]}}:=p.kept λb _ q=>tm _ q;obtain⟨_,id,p,C,D⟩:=hr d {a with heap:=a.heap.push {cls:=.type "slice",data:=.fields #[g,i,.none]}} f l x v g i o u a.heap.objs.size Q B m (Heap.IsSliceOf.new ..) pl y z;show wpAny (model X.prog X.w) X.A (subscriptTail e (.Slice lo j none p2) v (.ref a.heap.objs.size)) (EP X d f Q) X.xe {a with heap:=a.heap.push {cls:=.type "slice",data:=.fields #[g,i,.none]}};exact tail_any C p D (by with_unfolding_all rfl))
def Ye(xs:List V)(lo a:Option Int):List V:=(xs.drop (HT.sIx xs.length 0 lo)).take (HT.sIx xs.length xs.length a - HT.sIx xs.length 0 lo)
def vN(xs:List V)(lo a:Option Int):(Ye xs lo a).length<=xs.length:=by
 unfold Ye;rw[tL,zdp];omega
def qP.nil_iff(r:qP xs us):us=[]↔xs=[]:=by
 cases r with
 | nil=>simp
 | cons _ _=>simp
open PyProof.Rows hiding K lo
def NH(n:Nat)(i:Int):Option Nat:=if 0<=i then (if i < n then some i.toNat else none) else if -(n:Int)<=i then some (i+n).toNat else none
def Vw(xs:List α)(i:Int):Option α:=(NH xs.length i).bind λa=>xs[a]?
def xv(h:NH n i=some j):seqIndex? i n=some j/\j < n/\-(n:Int)<=i/\i < n:=by
 unfold NH at h;by_cases b:0<=i
 ·rw[if_pos b]at h;by_cases a:i < n
  ·rw[if_pos a]at h;have e:=tF.inj h;exact⟨by rw[seqIndex_of b a,e],by omega,by omega,a⟩
  ·rw[if_neg a]at h;cases h
 ·rw[if_neg b]at h;by_cases a:-(n:Int)<=i
  ·rw[if_pos a]at h;have e:(i+n).toNat=j:=tF.inj h;exact⟨by rw[seqIndex_neg (by omega) a,e],by omega,a,by omega⟩
  ·rw[if_neg a]at h;cases h
def atI_get{α:Type}{xs:List α}{i:Int}{v:α}(h:Vw xs i=some v):∃j,seqIndex? i xs.length=some j/\xs[j]?=some v/\j < xs.length/\-(xs.length:Int)<=i/\i < xs.length:=by
 unfold Vw at h;cases e:NH xs.length i with
 | none=>rw[e]at h;cases h
 | some j=>
  rw[e]at h;obtain⟨a,b,d,f⟩:=xv e;exact⟨j,a,h,b,d,f⟩
def QJ{α:Type}{xs:List α}{j:Nat}{v:α}(h:xs[j]?=some v):Vw xs (j:Int)=some v:=by
 have a:=(td.mp h).1;have e:NH xs.length (j:Int)=some j:=by
  unfold NH;rw[if_pos (by omega),if_pos (by omega)];simp
 unfold Vw;rwa [e]
def AZ(b:Expr):Prop:=∀a i,subscripted b false a i=operate [a,i] (getItem a i)
def HA(X:Cx)(r:R2):Prop:=
 ∀(fq fC:Expr) (a:List (Addr×Obj)) (s:Shared) (b:St) (H:Hp) (x y:V) (v u:Value) (Q:VK),qw X a b H s->qU x v->qU y u->r x y H Q->
  subscripted fC false v u=operate [v,u] (getItem v u)->wpAny (model X.prog X.w) X.A (subscriptTail fq fC v u) (EP X a b Q) X.xe s
def Ev(X:Cx)(id:String)(r:V->List V->Hp->VK->Prop):Prop:=
 ∀(a:List (Addr×Obj)) (s:Shared) (b:St) (H:Hp) (x:V) (d:List V) (v:Value) (e:List Value) (Q:VK),qw X a b H s->qU x v->qP d e->r x d H Q->
  wpAny (model X.prog X.w) X.A (call (.builtin id) (v::e)) (EP X a b Q) X.xe s
def qD(hr:HA X r)(d:JE X a e)(f:JE X b g)(hs:AZ b:=by exact λ_ _=>rfl):JE X (.Subscript a b pos) (J0 r e g):=.of (by
 exact λe s g H Q I h=>Subscript_ (Eb d.to f.to I h λv u d x y f i j l q=>hr a b e d g f x y v u Q i j l q (hs _ _)))
inductive BG(K:zel)(x:V)(y:V)(H:Hp)(Q:VK):Prop
 | mk (p:_) (xs:_) (i:_) (v:_):x=.ref p->y=.int i->SqL K H p xs->Vw xs i=some v->Q v H->BG K x y H Q
def CU(K:zel):R2:=λx y H Q=>BG K x y H Q
inductive BE(K:zel)(x:V)(y:V)(H:Hp)(Q:VK):Prop
 | mk (p:_) (xs:_) (i:_) (v:_):x=.ref p->y=.int i->SqT K H p xs->Vw xs i=some v->Q v H->BE K x y H Q
def JQ(K:zel):R2:=λx y H Q=>BE K x y H Q
inductive BF(x:V)(y:V)(H:Hp)(Q:VK):Prop
 | mk (z:_) (i:_) (c:_):x=.str z->y=.int i->(z.length<=zeq)->Vw z.cps.toList i=some c->(Q (.str ⟨#[c]⟩) H)->BF x y H Q
def ID:R2:=λx y H Q=>BF x y H Q
def jj{X:Cx}:HA X (CU X.K):=by
 intro fq fC g s j H x y v u Q I a b h d;obtain⟨_,_,i,z,rfl,rfl,e,f,q⟩:=h;cases a;obtain⟨t,rfl⟩:=b;obtain⟨l,b,pl,_⟩:=I.list e;obtain⟨e,a,m,_,o,p⟩:=atI_get f;obtain⟨w,f,r⟩:=b.get m;have m:=b.length;have b:=YD;have ft:EP X g j Q w s:=⟨z,H,I,r,q⟩;by_cases g:0<=i
 ·have b:i.toNat=e:=by
   rw[seqIndex_of g p]at a;exact tF.inj a
  exact item_listR pl.isList g (by omega) (by rw[b];simpa using f) ft d
 ·have b:(i+(l.toArray.size:Int)).toNat=e:=by
   rw[seqIndex_neg (by omega) o]at a;rw[t6,<-m];exact tF.inj a
  exact subscriptTail_builtinR pl.isList.typeIs slot_list_getitem.lookup
   (wpAny_getItem_list_neg pl.isList (by omega) (by rw[t6]<;>omega) (by omega) (by rw[b];simpa using f) ⟨rfl,ft⟩) d
def qJ{X:Cx}:HA X (JQ X.K):=by
 intro fq fC _ s _ H x y v u Q I a b h d;obtain⟨_,_,i,z,rfl,rfl,e,f,q⟩:=h;cases a;obtain⟨t,rfl⟩:=b;obtain⟨_,a,pl,_⟩:=I.tuple e;obtain⟨_,b,e,_,_,_⟩:=atI_get f;obtain⟨w,f,g⟩:=a.get e;have e:=YD;exact subscriptTail_builtinR pl.typeIs slot_tuple_getitem.lookup
  (getItem_tuple pl (by omega) (by omega) (by rw[t6,<-a.length];exact b) (by simpa using f) ⟨rfl,⟨z,H,I,g,q⟩⟩) d
def RX{X:Cx}:HA X ID:=by
 intro fq fC _ s _ H x y v u Q I a b h d;obtain⟨z,i,c,rfl,rfl,_,e,q⟩:=h;obtain⟨t,rfl⟩:=a;obtain⟨_,rfl⟩:=b;obtain⟨_,a,b,_,f,g⟩:=atI_get e;have e:z.cps.toList.length=z.length:=by simp [Str.length]
 rw[e]at a f g;have e:=YD;exact tail_any (typeIs_str s z t) slot_str_getitem.lookup (getItem_str (by
  rw[decide_eq_false (by omega),decide_eq_false (by omega),Bool.or_false]) (by rw[a];simpa using b) ⟨.str ⟨#[c]⟩,H,I.tok _,⟨_,rfl⟩,q⟩) d
def kE(a:List Value)(n j:Nat)(u:Value):Obj.mapSeq (·.setIfInBounds j u) {cls:=.type "list",data:=.seq a.toArray n}={cls:=.type "list",data:=.seq (a.set j u).toArray n}:=by
 simp [Obj.mapSeq]
def qw.lst(I:qw X b d H s)(h:H p=some (.lst xs)):
  ∃(a:List Value) (n:Nat),qP xs a/\s.heap.get? p=some {cls:=.type "list",data:=.seq a.toArray n}/\xs.length<=zeq:=by
 obtain⟨z,a,n,b,e⟩:=I.hok p _ h;exact⟨a,n,b,e,z⟩
def qw.lstUpd{d a:List Value}{f:Obj->Obj}(I:qw X l m H s)(h:H p=some (.lst xs))(o:s.heap.get? p=some {cls:=.type "list",data:=.seq d.toArray n})(g:f {cls:=.type "list",data:=.seq d.toArray n}={cls:=.type "list",data:=.seq a.toArray i})(r:qP j a)(x:j.length<=zeq)(t:Nat):
  qw X l m (upd H p (.lst j)) {s with heap:=s.heap.update p f,toks:=t}:=by
 have e:(s.heap.update p f).get? p=some {cls:=.type "list",data:=.seq a.toArray i}:=by
  rw[zaD f o (by rw[g]<;>rfl),g]
 refine I.write (by rw[h];trivial) (.inl rfl) (λb u d q=>(zag _ _ (Ne.symm d)).trans q) ⟨_,e⟩ ?_;exact⟨x,a,i,r,e⟩
inductive Gh(o:V)(i:V)(v:V)(H:Hp)(Q:(Hp->Prop)):Prop
 | mk (p:_) (xs:_) (k:_) (j:_):o=.ref p->i=.int k->H p=some (.lst xs)->NH xs.length k=some j->(Q (upd H p (.lst (xs.set j v))))->Gh o i v H Q
def Fs:V->V->V->Hp->(Hp->Prop)->Prop:=λa i v H Q=>Gh a i v H Q
def KS:Ef X Fs:=by
 intro o s p H _ i v _ _ u Q I b d r h;obtain⟨f,x,k,a,rfl,rfl,g,e,q⟩:=h;cases b;obtain⟨t,rfl⟩:=d;obtain⟨j,n,l,d,y⟩:=I.lst g;obtain⟨b,_,z,B⟩:=xv e;have e:=l.length;have m:=YD;have m:qw X o p (upd H f (.lst (x.set a v))) {s with heap:=s.heap.update f (Obj.mapSeq (·.setIfInBounds a u))}:=
  I.lstUpd g d (kE j n a u) (l.set r a) (by rw[zbb];exact y) s.toks
 by_cases g:0<=k
 ·have f:k.toNat=a:=by
   rw[seqIndex_of g B]at b;exact tF.inj b
  exact PySem.W.ki_setAt d g (by omega) (by rwa [t6,<-e]) (by rw[f];exact⟨_,m,q⟩)
 ·have f:(k+(j.toArray.size:Int)).toNat=a:=by
   rw[seqIndex_neg (by omega) z]at b;rw[t6,<-e];exact tF.inj b
  exact PySem.W.ki_setBack d (by omega) (by rwa [t6,<-e]) (by omega) (by rw[f];exact⟨_,m,q⟩)
def VC(lo a:Option Int)(n:Nat):(sliceBounds lo a none n).1=((HT.sIx n 0 lo:Nat):Int)/\(sliceBounds lo a none n).2.1=((HT.sIx n n a:Nat):Int)/\(sliceBounds lo a none n).2.2=1:=by
 refine⟨?_,?_,rfl⟩
 ·cases lo with
  | none=>simp [sliceBounds,HT.sIx]
  | some i=>
   simp only[sliceBounds,HT.sIx,zeh,show (1:Int) > 0 by decide,if_true];by_cases h:i < 0
   ·simp only[h,if_true]<;>omega
   ·simp only[h,if_false]<;>omega
 ·cases a with
  | none=>simp [sliceBounds,HT.sIx]
  | some i=>
   simp only[sliceBounds,HT.sIx,zeh,show (1:Int) > 0 by decide,if_true];by_cases h:i < 0
   ·simp only[h,if_true]<;>omega
   ·simp only[h,if_false]<;>omega
def WG(a:List Value)(lo b:Option Int):slicePick a.toArray lo b none=((a.drop (HT.sIx a.length 0 lo)).take (HT.sIx a.length a.length b - HT.sIx a.length 0 lo)).toArray:=by
 obtain⟨d,e,f⟩:=VC lo b a.toArray.size;unfold slicePick;rw[d,e,f];simp only[sliceRange_one,pick_run,t6]<;>rfl
inductive BC(K:zel)(x:V)(lo:Option Int)(hi:Option Int)(H:Hp)(Q:VK):Prop
 | mk (a:_) (xs:_):x=.ref a->SqL K H a xs->(∀p,H p=none->Q (.ref p) (upd H p (.lst (Ye xs lo hi))))->BC K x lo hi H Q
def IC(K:zel):V->Option Int->Option Int->Hp->VK->Prop:=λx lo a H Q=>BC K x lo a H Q
def Z4:IY X (IC X.K):=by
 intro _ s _ H x v _ _ lo e _ Q I f i pl j h;obtain⟨a,d,rfl,l,q⟩:=h;cases f;obtain⟨_,f,g,m⟩:=I.list l;have l:=f.length;refine⟨"list",_,slot_list_getitem.lookup,g.isList.typeIs,wpAny_getItem_list_slice g.isList i pl j .none (by simp) ?_ (by rw[t6]<;>omega)⟩;rw[WG,<-l];refine⟨.ref s.heap.objs.size,_,I.laid (λb _ q=>tm _ q) (tp _) ?_,rfl,q _ (I.hok.fresh (tp _))⟩;exact⟨t8 (vN d lo e) m,_,0,(f.drop (HT.sIx d.length 0 lo)).take (HT.sIx d.length d.length e - HT.sIx d.length 0 lo),tR _ rfl⟩
def zj:V->Bool
 | .non=>true
 | .bl _=>true
 | .int _=>true
 | .str _=>true
 | _=>false
def B0:V->V->Bool
 | .non,.non=>true
 | .bl a,.bl b=>a==b
 | .bl a,.int b=>(if a then 1 else 0)==b
 | .int a,.bl b=>a==(if b then 1 else 0)
 | .int a,.int b=>a==b
 | .str a,.str b=>a==b
 | _,_=>false
def D5{A:Around}{s:Shared}{y x:V}{u v:Value}(f:qU y u)(d:qU x v)(i:zj y=true)(g:zj x=true):SeqAt.EqAt A s u v (B0 y x):=by
 cases y with
 | non=>
  cases f;cases x with
  | non=>cases d;exact SeqAt.EqAt.same _
  | bl b=>cases d;exact SeqAt.EqAt.none_bool b
  | int b=>obtain⟨t,rfl⟩:=d;exact SeqAt.EqAt.none_int b t
  | str b=>obtain⟨t,rfl⟩:=d;exact SeqAt.EqAt.none_str b t
  | _=>exact absurd (show false=true from g) tK
 | bl a=>
  cases f;cases x with
  | non=>cases d;exact SeqAt.EqAt.bool_none a
  | bl b=>cases d;exact SeqAt.EqAt.bool_bool a b
  | int b=>obtain⟨t,rfl⟩:=d;exact SeqAt.EqAt.bool_int a b t
  | str b=>obtain⟨t,rfl⟩:=d;exact SeqAt.EqAt.bool_str a b t
  | _=>exact absurd (show false=true from g) tK
 | int a=>
  obtain⟨e,rfl⟩:=f;cases x with
  | non=>cases d;exact SeqAt.EqAt.int_none a e
  | bl b=>cases d;exact SeqAt.EqAt.int_bool a e b
  | int b=>obtain⟨t,rfl⟩:=d;exact SeqAt.EqAt.int_int a e b t
  | str b=>obtain⟨t,rfl⟩:=d;exact SeqAt.EqAt.int_str a e b t
  | _=>exact absurd (show false=true from g) tK
 | str a=>
  obtain⟨e,rfl⟩:=f;cases x with
  | non=>cases d;exact SeqAt.EqAt.str_none a e
  | bl b=>cases d;exact SeqAt.EqAt.str_bool a e b
  | int b=>obtain⟨t,rfl⟩:=d;exact SeqAt.EqAt.str_int a e b t
  | str b=>obtain⟨t,rfl⟩:=d;exact SeqAt.EqAt.str_str a e b t
  | _=>exact absurd (show false=true from g) tK
 | _=>exact absurd (show false=true from i) tK
def kQ(x:V)(u:Value):Bool:=match u with
 | .none=>B0 .non x
 | .bool b=>B0 (.bl b) x
 | .int i _=>B0 (.int i) x
 | .str z _=>B0 (.str z) x
 | _=>false
def Nl{x y:V}{u:Value}(r:qU y u)(f:zj y=true):kQ x u=B0 y x:=by
 cases y with
 | non=>cases r;rfl
 | bl b=>cases r;rfl
 | int i=>obtain⟨t,rfl⟩:=r;rfl
 | str z=>obtain⟨t,rfl⟩:=r;rfl
 | _=>exact absurd (show false=true from f) tK
def Yi{x:V}:∀{xs:List V} {us:List Value},qP xs us->xs.all zj=true->us.any (kQ x)=xs.any λy=>B0 y x
 | _,_,.nil,_=>rfl
 | y::xs,u::us,.cons a t,f=>by
  rw[zdm,zar]at f;rw[zcN,zcN,Nl a f.1,Yi t f.2]
def ZO{A:Around}{s:Shared}{x:V}{v:Value}(a:qU x v)(b:zj x=true):∀{xs:List V} {us:List Value},qP xs us->xs.all zj=true->∀u∈us,SeqAt.EqAt A s u v (kQ x u)
 | _,_,.nil,_=>λu hu=>by cases hu
 | y::xs,u::us,.cons d t,f=>λe hu=>by
  rw[zdm,zar]at f;rcases tH.mp hu with rfl | hu
  ·rw[Nl d f.1];exact D5 d a f.1 b
  ·exact ZO a b t f.2 e hu
def zb(x:V)(xs:List V):Bool:=xs.any λy=>B0 y x
inductive Fx(K:zel)(gb:Bool)(x:V)(y:V)(H:Hp)(Q:VK):Prop
 | mk (p:_) (xs:_):y=.ref p->((SqL K H p xs\/SqT K H p xs))->zj x=true->xs.all zj=true->(Q (.bl (if gb then !zb x xs else zb x xs)) H)->Fx K gb x y H Q
def Er(K:zel)(gb:Bool):R2:=λx y H Q=>Fx K gb x y H Q
def J4{X:Cx}:JN X (compareOp .In) (Er X.K false):=by
 intro _ s _ H x y v u Q I f b h;obtain⟨_,_,rfl,a,g,fs,q⟩:=h;cases b;rcases a with a | a
 ·obtain⟨b,d,pl,i⟩:=I.list a;refine SeqAt.in_listAt (kQ x) pl.isList (λw e=>ZO f g d fs w (by simpa using e)) ⟨.bl _,H,I,rfl,?_⟩;rwa [show b.toArray.any (kQ x)=b.any (kQ x) by simp,Yi d fs]
 ·obtain⟨b,d,pl,i⟩:=I.tuple a;refine SeqAt.in_tupleAt (kQ x) pl (λw e=>ZO f g d fs w (by simpa using e)) ⟨.bl _,H,I,rfl,?_⟩;rwa [show b.toArray.any (kQ x)=b.any (kQ x) by simp,Yi d fs]
def Jc{X:Cx}:JN X (compareOp .NotIn) (Er X.K true):=by
 intro _ s _ H x y v u Q I f b h;obtain⟨_,_,rfl,a,g,fs,q⟩:=h;cases b;rcases a with a | a
 ·obtain⟨b,d,pl,i⟩:=I.list a;refine SeqAt.notIn_listAt (kQ x) pl.isList (λw e=>ZO f g d fs w (by simpa using e)) ⟨.bl _,H,I,rfl,?_⟩;rwa [show b.toArray.any (kQ x)=b.any (kQ x) by simp,Yi d fs]
 ·obtain⟨b,d,pl,i⟩:=I.tuple a;refine SeqAt.notIn_tupleAt (kQ x) pl (λw e=>ZO f g d fs w (by simpa using e)) ⟨.bl _,H,I,rfl,?_⟩;rwa [show b.toArray.any (kQ x)=b.any (kQ x) by simp,Yi d fs]
def qL:Q6 X (.builtin "len") (λxs H Q=>∃p a,xs=[.ref p]/\(SqL X.K H p a\/SqT X.K H p a)/\Q (.int a.length) H):=by
 intro _ s _ H xs _ Q I d h;obtain⟨p,a,rfl,b,q⟩:=h;obtain⟨u,rfl,e⟩:=Jy d;cases e;have d:=YD;rcases b with b | b
 ·obtain⟨f,d,pl,g⟩:=I.list b;have e:=d.length;exact Calls.call_len_list pl.isList (by simp only[t6]<;>omega) ⟨.int a.length,H,I.tok _,⟨s.toks+1,by rw[t6,e]⟩,q⟩
 ·obtain⟨f,d,pl,g⟩:=I.tuple b;have e:=d.length;exact len_tuple pl (by simp only[t6]<;>omega) ⟨.int a.length,H,I.tok _,⟨s.toks+1,by rw[t6,e]⟩,q⟩
def Zv:Q6 X (.builtin "len") (λxs H Q=>∃z,xs=[.str z]/\z.length<=zeq/\Q (.int z.length) H):=by
 intro _ s _ H xs _ Q I a h;obtain⟨z,rfl,_,q⟩:=h;obtain⟨u,rfl,t,rfl⟩:=Jy a;have a:=YD;exact len_str (by omega) ⟨.int z.length,H,I.tok _,⟨_,rfl⟩,q⟩
def Qj:Q6 X (.type "list") (λxs H Q=>∃p f,xs=[.ref p]/\(SqL X.K H p f\/SqT X.K H p f)/\∀l,H l=none->Q (.ref l) (upd H l (.lst f))):=by
 intro m s o H xs _ Q I a h;obtain⟨p,f,rfl,j,q⟩:=h;obtain⟨u,rfl,d⟩:=Jy a;cases d;have ft:∀(d:List Value),qP f d->f.length<=zeq->∀(a:Heap) (g:Nat),(∀b i,s.heap.get? b=some i->a.get? b=some i)->
   a.get? s.heap.objs.size=some {cls:=.type "list",dict:=none,data:=.seq d.toArray g,slots:=#[]}->EP X m o Q (.ref s.heap.objs.size) {s with heap:=a}:=λd i m a g o e=>
  ⟨.ref s.heap.objs.size,_,I.laid o (tp _) (show qH X.prog X.w _ a _ (.lst f) from⟨m,d,g,i,e⟩),rfl,q _ (I.hok.fresh (tp _))⟩
 rcases j with j | j
 ·obtain⟨d,i,pl,m⟩:=I.list j;have x:=i.length;obtain⟨y,f,r,n,hd⟩:=pl.isList;exact call_list_seq p (.inl rfl) f r hd (λa g o e=>ft d i m a g o e) (by simp only[t6]<;>omega)
 ·obtain⟨d,i,pl,m⟩:=I.tuple j;have x:=i.length;obtain⟨y,f,r,n,hd⟩:=pl;exact call_list_seq p (.inr rfl) f r hd (λa g o e=>ft d i m a g o e) (by simp only[t6]<;>omega)
def WJ:Q6 X (.type "tuple") (λxs H Q=>∃p a,xs=[.ref p]/\((SqL X.K H p a/\∀l,H l=none->Q (.ref l) (upd H l (.tup a)))\/(SqT X.K H p a/\Q (.ref p) H))):=by
 intro o s r H xs _ Q I d h;obtain⟨p,a,rfl,h⟩:=h;obtain⟨u,rfl,f⟩:=Jy d;cases f;rcases h with ⟨d,q⟩ | ⟨d,q⟩
 ·obtain⟨f,g,pl,j⟩:=I.list d;have i:=g.length;refine call_tuple_list pl.isList (λi x=>?_) (by simp only[t6]<;>omega);have m:=I.kept (t':=s.toks) x;have x:qw X o r (upd H i.objs.size (.tup a)) {s with heap:=i.push {cls:=.type "tuple",data:=.seq f.toArray}}:=
   m.laid (λb _ e=>tm _ e) (tp _) (show qH X.prog X.w _ _ _ (.tup a) from⟨j,f,g,IsTup.new _ _⟩)
  exact⟨.ref i.objs.size,_,x,rfl,q _ (m.hok.fresh (tp _))⟩
 ·obtain⟨f,g,pl,j⟩:=I.tuple d;exact call_tuple_same pl ⟨.ref p,H,I,rfl,q⟩
def HC(K:zel)(T:String)(x:V)(H:Hp):Prop:=match x with
 | .str _=>T="str"
 | .int _=>T="int"
 | .ref a=>(T="list"/\∃d,SqL K H a d)\/(T="tuple"/\∃b,K.lookup a=some b/\b.cls=.type "tuple"/\b.dict=none)\/
  (T="dict"/\((∃b,H a=some (.dK b))\/∃b,H a=some (.dT b)))\/(T="set"/\∃S n,H a=some (.set S n))
 | _=>False
def uR(I:qw X d f H s)(r:qU x v)(ty:HC X.K T x H):
  s.TypeIs v T/\∀a,v=.ref a->∃b,s.heap.get? a=some b/\b.dict=none:=by
 cases x with
 | str z=>
  obtain⟨t,rfl⟩:=r;cases (show T="str" from ty);exact⟨typeIs_str s z t,λ_ e=>nomatch e⟩
 | int i=>
  obtain⟨t,rfl⟩:=r;cases (show T="int" from ty);exact⟨typeIs_int s i t,λ_ e=>nomatch e⟩
 | ref g=>
  cases r;rcases ty with ⟨rfl,l,f⟩ | ⟨rfl,b,d,j,hd⟩ | ⟨rfl,d⟩ | ⟨rfl,S,n,d⟩
  ·obtain⟨_,_,pl,_⟩:=I.list f;refine⟨pl.isList.typeIs,λa e=>?_⟩;cases e;obtain⟨b,n,e,c,hd,_⟩:=pl;exact⟨b,e,hd⟩
  ·refine⟨⟨b,I.kIn g b d,j⟩,λa e=>?_⟩;cases e;exact⟨b,I.kIn _ b d,hd⟩
  ·have z:∃b,s.heap.get? g=some b/\b.ExactDict:=by
    rcases d with ⟨f,d⟩ | ⟨f,d⟩
    ·obtain⟨_,_,_,_,b,_,_,e,f,_⟩:=I.hok g _ d;exact⟨b,e,f⟩
    ·obtain⟨_,_,_,_,b,_,_,e,f,_⟩:=I.hok g _ d;exact⟨b,e,f⟩
   obtain⟨b,e,f⟩:=z;refine⟨⟨b,e,f.1⟩,λa j=>?_⟩;cases j;exact⟨b,e,f.2.1⟩
  ·obtain⟨b,_,_,_,e,f,_⟩:=I.hok g _ d;refine⟨⟨b,e,f.1⟩,λa j=>?_⟩;cases j;exact⟨b,e,f.2.1⟩
 | _=>exact False.elim ty
def HN(K:zel)(T:String)(r:V->List V->Hp->VK->Prop)(to:TE):TE:=λa H Q=>to a H λx a=>HC K T x a/\r x [] a Q
def tBM(K:zel)(T:String)(r:V->List V->Hp->VK->Prop)(to:TE)(t:TA):TE:=λa H Q=>to a H λx b=>HC K T x b/\t a b λa b=>r x a b Q
def RW{X:Cx}{o:Expr}{to:TE}{a_:Str}{c_:Pos}{a:Pos}{T:String}{id:String}{r:V->List V->Hp->VK->Prop}(f:PlainAttrs T)(slot:Slot T a_ id)(g:typeOf (.builtin id)=pure (.type "method_descriptor"))(i:Ev X id r)(d:JE X o to)(e:attributeBase o a_ X.env (eval o X.env)=eval o X.env:=by rfl)(j:(c_.endLine==a.line)=true:=by rfl):JE X (.Call (.Attribute o a_ c_) [] [] a) (HN X.K T r to):=.of (by
 refine λa s b H Q I h=>wpAny_Call_method0_late e j (jn (d.to a s b H _ I h) λv j ⟨x,l,d,e,ty,m⟩=>?_);obtain⟨p,q⟩:=uR d e ty;exact⟨T,id,f,slot,g,p,q,Calls.callWith_builtin rfl (PySem.evalArgs_none (i a j b l x [] v [] Q d e .nil m))⟩)
def FC{X:Cx}{o:Expr}{e:Expr}{a:List Expr}{to:TE}{t:TA}{a_:Str}{c_:Pos}{b:Pos}{T:String}{id:String}{r:V->List V->Hp->VK->Prop}(j:PlainAttrs T)(slot:Slot T a_ id)(l:typeOf (.builtin id)=pure (.type "method_descriptor"))(m:Ev X id r)(g:PE X o to)(p:PA X (e::a) t)
  (i:attributeBase o a_ X.env (eval o X.env)=eval o X.env:=by rfl)
  (q:((backTo b (starEach (e::a) X.env)).all (λx=> !x.1)&&(backToKw b (keywordEach [] X.env)).all (λx=>x.1.isSome)
   &&decide ((e::a).length+([]:List Keyword).length+(if ([]:List Keyword).isEmpty then 0 else 1) < 30))=true:=by rfl)
  (u:(c_.endLine==b.line)=true:=by rfl) (hs:starEach (e::a) X.env=(false,eval e X.env)::starEach a X.env:=by rfl) (y:(backTo b (starEach a X.env)).any (·.1)=false:=by rfl):
  PE X (.Call (.Attribute o a_ c_) (e::a) [] b) (tBM X.K T r to t):=by
 refine λd s f H Q I h=>wpAny_Call_method_late i q u rfl (jn (g d s f H _ I h) λv q ⟨x,u,g,i,ty,z⟩=>?_);obtain⟨B,C⟩:=uR g i ty;refine⟨T,id,j,slot,l,B,C,?_⟩;have j:=p b d q f u _ g z;rw[hs]at j ⊢;refine Calls.callWith_builtin (by show (false || (backTo b (starEach a X.env)).any (·.1))=false;rw[y]<;>rfl) (Calls.evalArgs_plain ?_);exact jn j λa b ⟨g,j,l,p,q⟩=>m d b f j x g v a Q l i p q
def ZT{X:Cx}{o:Expr}{e:Expr}{a:List Expr}{to:TE}{t:TA}{a_:Str}{c_:Pos}{b:Pos}{T:String}{id:String}{r:V->List V->Hp->VK->Prop}(d:PlainAttrs T)(slot:Slot T a_ id)(f:typeOf (.builtin id)=pure (.type "method_descriptor"))(g:Ev X id r)(i:JE X o to)(j:JA X (e::a) t)(l:attributeBase o a_ X.env (eval o X.env)=eval o X.env:=by rfl) (m:((backTo b (starEach (e::a) X.env)).all (λx=> !x.1)&&(backToKw b (keywordEach [] X.env)).all (λx=>x.1.isSome)
 &&decide ((e::a).length+([]:List Keyword).length+(if ([]:List Keyword).isEmpty then 0 else 1) < 30))=true:=by rfl) (p:(c_.endLine==b.line)=true:=by rfl) (hs:starEach (e::a) X.env=(false,eval e X.env)::starEach a X.env:=by rfl) (q:(backTo b (starEach a X.env)).any (·.1)=false:=by rfl):JE X (.Call (.Attribute o a_ c_) (e::a) [] b) (tBM X.K T r to t):=.of (FC d slot f g i.to j.to l m p hs q)
open PyProof.Rows hiding K lo
def Lb(X:Cx)(id:String)(r:V->List V->Hp->VK->Prop):Prop:=
 ∀(a:List (Addr×Obj)) (s:Shared) (b:St) (H:Hp) (x:V) (d:List V) (v:Value) (e:List Value) (Q:VK),qw X a b H s->qU x v->qP d e->r x d H Q->
  wpAny (model X.prog X.w) X.A (call (.builtin id) (v::e)) (EP X a b Q) X.xe s
def qP.one:∀{x:V} {us:List Value},qP [x] us->∃u,us=[u]/\qU x u
 | _,_,.cons a .nil=>⟨_,rfl,a⟩
def qP.zero:∀{us:List Value},qP [] us->us=[]
 | _,.nil=>rfl
def qP.reverse(h:qP xs us):qP xs.reverse us.reverse:=by
 induction h with
 | nil=>exact .nil
 | cons a t b=>rw[zdj,zdj];exact qP.append b (.cons a .nil)
def qw.lset{b a:List Value}{f:Array Value->Array Value}(I:qw X g i H s)(j:H l=some (.lst xs))(e:s.heap.get? l=some {cls:=.type "list",data:=.seq b.toArray n})(m:f b.toArray=a.toArray)(o:qP d a)(p:d.length<=zeq):
  qw X g i (upd H l (.lst d)) {s with heap:=s.heap.update l (Obj.mapSeq f),toks:=t'}:=by
 have q:=PySem.IsL.update e f;rw[m]at q;refine I.write (j▸trivial) (.inl rfl) (λ_ u b hu=>(zag s.heap (Obj.mapSeq f) (Ne.symm b)).trans hu) ⟨_,q⟩ ?_;exact⟨p,a,_,o,q⟩
def qw.lstM(I:qw X b f H s)(d:H l=some (.lst xs)):xs.length<=zeq/\∃(a:List Value) (n:Nat),qP xs a/\xs.length=a.length/\s.heap.get? l=some {cls:=.type "list",data:=.seq a.toArray n}:=by
 obtain⟨z,a,n,b,e⟩:=I.hok l _ d;exact⟨z,a,n,b,b.length,e⟩
def Rx(h:n<=zeq):Builtin.List.listTooLong n=false:=by
 unfold Builtin.List.listTooLong;exact decide_eq_false (by omega)
inductive vm(x:V)(vs:List V)(H:Hp)(Q:VK):Prop
 | mk (l:_) (xs:_) (y:_):x=.ref l->vs=[y]->H l=some (.lst xs)->(xs.length < zeq)->(Q .non (upd H l (.lst (xs++[y]))))->vm x vs H Q
def MM:V->List V->Hp->VK->Prop:=λx a H Q=>vm x a H Q
def QT:Lb X "list.append" MM:=by
 intro _ s _ H x _ v _ Q I b d h;obtain⟨f,_,y,rfl,rfl,a,_,q⟩:=h;cases b;obtain⟨u,rfl,b⟩:=d.one;obtain⟨z,d,n,g,_,e⟩:=I.lstM a;refine call_meets F.slot_list_append ⟨_,e,rfl⟩ F.entry_list_append (F.args_list_append_2 _ _) (PySem.list_append f d.toArray n u (by rw[t6];omega)) ⟨e,?_⟩;refine⟨.non,_,I.lset a e (by simp) (g.append (.cons b .nil)) ?_,rfl,q⟩;rw[tx,zax];omega
inductive vl(x:V)(vs:List V)(H:Hp)(Q:VK):Prop
 | mk (l:_) (b:_) (xs:_) (zs:_):x=.ref l->vs=[.ref b]->H l=some (.lst xs)->H b=some (.lst zs)->(xs.length+zs.length<=zeq)->(Q .non (upd H l (.lst (xs++zs))))->vl x vs H Q
def ML:V->List V->Hp->VK->Prop:=λx a H Q=>vl x a H Q
def YA:Lb X "list.extend" ML:=by
 intro _ s _ H x _ v _ Q I a d h;obtain⟨g,b,_,_,rfl,rfl,f,i,_,q⟩:=h;cases a;obtain⟨u,rfl,a⟩:=d.one;cases a;obtain⟨z,a,n,j,_,e⟩:=I.lstM f;obtain⟨_,d,n2,l,_,m⟩:=I.lstM i;have i:a.toArray.size+d.toArray.size<=zeq:=by rw[t6,t6];omega
 have o:¬(!a.toArray.isEmpty&&Builtin.List.listTooLong (a.toArray.size+d.toArray.size))=true:=by
  rw[Rx i,Bool.and_false];exact tK
 refine call_meets F.slot_list_extend ⟨_,e,rfl⟩ F.entry_list_extend (F.args_list_extend_2 _ _)
  (AutoSeq1.list_extend_list_list_0 g a.toArray n b d.toArray n2 o (by rw[t6];omega) (by omega)) ⟨e,m,?_⟩
 refine⟨.non,_,I.lset f e (by simp) (j.append l) ?_,rfl,q⟩;rw[tx];omega
inductive W8(x:V)(vs:List V)(H:Hp)(Q:VK):Prop
 | mk (l:_) (xs:_):x=.ref l->vs=[]->H l=some (.lst xs)->(Q .non (upd H l (.lst xs.reverse)))->W8 x vs H Q
def Gi:V->List V->Hp->VK->Prop:=λx a H Q=>W8 x a H Q
def kC:Lb X "list.reverse" Gi:=by
 intro _ s _ H x _ v _ Q I b d h;obtain⟨f,_,rfl,rfl,a,q⟩:=h;cases b;have b:=d.zero;subst b;obtain⟨z,b,n,d,_,e⟩:=I.lstM a;refine call_meets F.slot_list_reverse ⟨_,e,rfl⟩ F.entry_list_reverse (F.args_list_reverse_1 _) (AutoSeq1.list_reverse_list_0 f b.toArray n (by rw[t6];omega)) ⟨e,?_⟩;refine⟨.non,_,I.lset a e (by simp) d.reverse ?_,rfl,q⟩;rw[zch];omega
open PyProof.Rows hiding K lo
section
variable{κ:Type}[DecidableEq κ]
def jw(a:List (κ×V))(k:κ):Option V:=(a.find? λa=>decide (a.1=k)).map (·.2)
def Qd(b:List (κ×V))(k:κ)(v:V):List (κ×V):=
 if (b.any λa=>decide (a.1=k))=true then b.map (λa=>if a.1=k then (a.1,v) else a) else b++[(k,v)]
def jH{p:κ×V}{r:List (κ×V)}{k:κ}(e:p.1=k):jw (p::r) k=some p.2:=by simp [jw,zbw,e]
def jI{p:κ×V}{r:List (κ×V)}{k:κ}(e:¬p.1=k):jw (p::r) k=jw r k:=by simp [jw,zbw,e]
def Q0(k:κ):∀a:List (κ×V),(a.any λkv=>decide (kv.1=k))=(jw a k).isSome
 | []=>rfl
 | a::b=>by
  rw[zcN];by_cases e:a.1=k
  ·simp only[jH e,decide_eq_true e,Bool.true_or,Option.isSome_some]
  ·rw[jI e,decide_eq_false e,Bool.false_or];exact Q0 k b
def Uw(k j:κ)(y:V):∀a:List (κ×V),jw (a.map λkv=>if kv.1=k then (kv.1,y) else kv) j=(jw a j).map λx=>if j=k then y else x
 | []=>rfl
 | a::d=>by
  have b:=Uw k j y d;rw[tV];by_cases h:a.1=k
  ·rw[if_pos h];by_cases e:a.1=j
   ·rw[jH (p:=(a.1,y)) e,jH e,zcq,if_pos (e.symm.trans h)]
   ·rw[jI (p:=(a.1,y)) e,jI e,b]
  ·rw[if_neg h];by_cases e:a.1=j
   ·rw[jH e,jH e,zcq,if_neg (λz=>h (e.trans z))]
   ·rw[jI e,jI e,b]
def WQ(k j:κ)(y:V):∀a:List (κ×V),jw a k=none->jw (a++[(k,y)]) j=if j=k then some y else jw a j
 | [],_=>by
  by_cases e:k=j
  ·rw[if_pos e.symm];exact jH e
  ·rw[if_neg (λz=>e z.symm)];exact jI e
 | b::f,a=>by
  rw[zcI];have d:¬b.1=k:=λz=>by rw[jH z]at a;cases a
  rw[jI d]at a;by_cases e:b.1=j
  ·rw[jH e,jH e,if_neg (λz=>d (e.trans z))]
  ·rw[jI e,jI e,WQ k j y f a]
def Qe(b:List (κ×V))(k j:κ)(y:V):jw (Qd b k y) j=if j=k then some y else jw b j:=by
 unfold Qd;by_cases a:(b.any λd=>decide (d.1=k))=true
 ·rw[if_pos a,Uw];rw[Q0]at a;by_cases e:j=k
  ·obtain⟨x,d⟩:=zdl.mp a;rw[if_pos e,e,d,zcq,if_pos rfl]
  ·rw[if_neg e];cases jw b j with
   | none=>rfl
   | some x=>rw[zcq,if_neg e]
 ·rw[if_neg a];refine WQ k j y b ?_;rw[Q0]at a;cases q:jw b k with
  | none=>rfl
  | some x=>rw[q]at a;exact(a rfl).elim
def JF(a:List (κ×V))(k:κ)(v:V):(Qd a k v).length<=a.length+1:=by
 unfold Qd;split
 ·rw[tc];omega
 ·rw[tx,zae,zdA];omega
def Q3{a:List (κ×V)}{k:κ}(v:V)(h:jw a k=none):Qd a k v=a++[(k,v)]:=by
 unfold Qd;rw[Q0,h];exact if_neg (by decide)
def ZE.isSome_eq(r:ZE o u):o.isSome=u.isSome:=by
 cases o with
 | none=>cases u with
  | none=>rfl
  | some _=>exact(show False from r).elim
 | some _=>cases u with
  | none=>exact(show False from r).elim
  | some _=>rfl
def KV.val(r:KV a vs)(k:κ):ZE (jw a k) (valueAt vs k):=by
 unfold KV at r;induction r with
 | nil=>exact True.intro
 | @cons d q f a h t g=>
  obtain⟨f,_⟩:=h;by_cases e:d.1=k
  ·have d:=f.symm.trans e;have b:valueAt (q::a) k=some q.2:=by simp [valueAt,zbw,d]
   rwa [jH e,b]
  ·have d:¬q.1=k:=λz=>e (f.trans z);have b:valueAt (q::a) k=valueAt a k:=by simp [valueAt,zbw,d]
   rwa [jI e,b]
def KV.any(r:KV a vs)(k:κ):(a.any λkv=>decide (kv.1=k))=vs.any λkv=>decide (kv.1=k):=by
 unfold KV at r;induction r with
 | nil=>rfl
 | cons h t a=>rw[zcN,zcN,a,h.1]
def KV.repl(r:KV a vs)(k:κ)(b:qU y u):
  KV (a.map λkv=>if kv.1=k then (kv.1,y) else kv) (vs.map λkv=>if kv.1=k then (kv.1,u) else kv):=by
 unfold KV at r ⊢;induction r with
 | nil=>exact .nil
 | @cons d q f g h t a=>
  rw[tV,tV];refine .cons ?_ a;obtain⟨a,f⟩:=h;by_cases e:d.1=k
  ·rw[if_pos e,if_pos (a.symm.trans e)];exact⟨a,b⟩
  ·rw[if_neg e,if_neg (λz=>e (a.trans z))];exact⟨a,f⟩
def KV.put(r:KV b vs)(k:κ)(a:qU y u):KV (Qd b k y) (stored vs k u):=by
 unfold Qd stored;rw[r.any k];by_cases e:(vs.any λb=>decide (b.1=k))=true
 ·rw[if_pos e,if_pos e];exact r.repl k a
 ·rw[if_neg e,if_neg e];exact Paired.snoc r ⟨rfl,a⟩
def KV.length(r:KV a vs):a.length=vs.length:=Paired.length r
end
def Wd(r:qU (kV k) u):(jl P w).is k u=true:=by
 cases k with
 | inl i=>obtain⟨t,e⟩:=(show ∃t,u=Value.int i t from r);subst e;exact vy P w i t
 | inr x=>obtain⟨t,e⟩:=(show ∃t,u=Value.str x t from r);subst e;exact vx P w x t
def Vh:∀{b:List qZ} {us:List Value},qP (b.map kV) us->ItemsAre (jl P w) b us
 | [],_,a=>by rw[zcb]at a;cases a;exact .nil
 | k::b,_,a=>by
  rw[tV]at a;cases a with
  | cons h t=>exact .cons (Wd h) (Vh t)
abbrev KT(H:Hp):List (List qZ×V)->List (List qZ×Addr×Value)->Prop:=Paired λa q=>a.1=q.1/\H q.2.1=some (.tup (a.1.map kV))/\qU a.2 q.2.2
def KT.val(r:KT H a xs)(k:List qZ):ZE (jw a k) ((atKey xs k).map (·.2)):=by
 induction r with
 | nil=>exact True.intro
 | @cons d q f a h t g=>
  obtain⟨f,_,_⟩:=h;by_cases e:d.1=k
  ·have d:=f.symm.trans e;have b:atKey (q::a) k=some q.2:=by simp [atKey,zbw,d]
   rwa [jH e,b]
  ·have d:¬q.1=k:=λz=>e (f.trans z);have b:atKey (q::a) k=atKey a k:=by simp [atKey,zbw,d]
   rwa [jI e,b]
def KT.repl(r:KT H a xs)(k:List qZ)(d:qU y u):
  KT H (a.map λkv=>if kv.1=k then (kv.1,y) else kv) (xs.map (putAt k u)):=by
 induction r with
 | nil=>exact .nil
 | @cons f q b g h t a=>
  rw[tV,tV];refine .cons ?_ a;obtain⟨a,b,g⟩:=h;unfold putAt;by_cases e:f.1=k
  ·rw[if_pos e,if_pos (a.symm.trans e)];exact⟨a,b,d⟩
  ·rw[if_neg e,if_neg (λz=>e (a.trans z))];exact⟨a,b,g⟩
def KT.put(r:KT H a xs)(k:List qZ)(f:H b=some (.tup (k.map kV)))(d:qU y u):
  KT H (Qd a k y) (storedH xs k b u):=by
 have e:(a.any λg=>decide (g.1=k))=(atKey xs k).isSome:=by
  rw[Q0,(r.val k).isSome_eq,zbi]
 unfold Qd storedH;rw[e];by_cases q:(atKey xs k).isSome=true
 ·rw[if_pos q,if_pos q];exact r.repl k d
 ·rw[if_neg q,if_neg q];exact Paired.snoc r ⟨rfl,f,d⟩
def KT.keeps{H':Hp}(r:KT H d xs)(e:∀b a,H b=some (.tup a)->H' b=some (.tup a)):KT H' d xs:=
 Paired.mapP r λ_ _ z=>⟨z.1,e _ _ z.2.1,z.2.2⟩
def Bz(ok:Zd P w H h)(e:Rd H a u):qH P w H h a u:=e.ok ok
def vK(ok:Zd P w H h)(e:Rd H a (.dK b)):b.length<=zeq/\(a==sysModules)=false/\∃vs,KV b vs/\h.DictOf (jl P w) a vs:=
 show qH P w H h a (.dK b) from Bz ok e
def B1(ok:Zd P w H h)(e:H a=some (.dK b)):b.length<=zeq/\(a==sysModules)=false/\∃vs,KV b vs/\h.DictOf (jl P w) a vs:=vK ok (.inl e)
def Wb{b:List qZ}(ok:Zd P w H h)(e:H a=some (.tup (b.map kV))):(tupleKind (jl P w)).is h b a:=by
 obtain⟨_,d,f,g,i,j,n,l⟩:=(show qH P w H h a (.tup (b.map kV)) from ok a _ e);exact⟨g,d.toArray,n,i,j,l,by simpa using Vh f⟩
def vJ(ok:Zd P w H h)(e:Rd H a (.dT b)):b.length<=zeq/\(a==sysModules)=false/\
  ∃xs,KT H b xs/\h.DictOfH (tupleKind (jl P w)) a xs:=by
 obtain⟨z,y,xs,d,f,g,i,j,l,o,p,r⟩:=(show qH P w H h a (.dT b) from Bz ok e);refine⟨z,y,xs,d,f,g,i,j,l,o,p,λx b=>?_,r⟩;have all:∀{f:List (List qZ×V)} {m:List (List qZ×Addr×Value)},KT H f m->∀x∈m,(tupleKind (jl P w)).is h x.1 x.2.1:=by
  intro f m q;induction q with
  | nil=>intro x b;exact nomatch b
  | @cons i q j l f t g=>
   intro x b;rcases tH.mp b with e | b
   ·subst e;exact Wb ok (f.1▸f.2.1)
   ·exact g x b
 exact all d x b
def F5(ok:Zd P w H h)(e:H a=some (.dT b)):b.length<=zeq/\(a==sysModules)=false/\
 ∃xs,KT H b xs/\h.DictOfH (tupleKind (jl P w)) a xs:=vJ ok (.inl e)
def jZ(H:Hp)(a:Addr)(y:V)(r:Option V):Prop:=
 (∃d k,Rd H a (.dK d)/\y=kV k/\r=jw d k)\/∃d k b,Rd H a (.dT d)/\y=.ref b/\H b=some (.tup (k.map kV))/\r=jw d k
def Jv(H:Hp)(a:Addr)(y v:V)(H':Hp):Prop:=
 (∃d k,H a=some (.dK d)/\y=kV k/\d.length < zeq/\H'=upd H a (.dK (Qd d k v)))\/
 ∃d k b,H a=some (.dT d)/\y=.ref b/\H b=some (.tup (k.map kV))/\d.length < zeq/\H'=upd H a (.dT (Qd d k v))
def jZ.k{H:Hp}{a:Addr}{b:List (qZ×V)}{k:qZ}(e:H a=some (.dK b)):jZ H a (kV k) (jw b k):=.inl ⟨b,k,.inl e,rfl,rfl⟩
def Jv.k{H:Hp}{a:Addr}{b:List (qZ×V)}{k:qZ}{v:V}(e:H a=some (.dK b))(d:b.length < zeq):Jv H a (kV k) v (upd H a (.dK (Qd b k v))):=.inl ⟨b,k,e,rfl,d,rfl⟩
def Jv.t{H:Hp}{k:List qZ}(e:H a=some (.dT d))(f:H b=some (.tup (k.map kV)))(g:d.length < zeq):
 Jv H a (.ref b) v (upd H a (.dT (Qd d k v))):=.inr ⟨d,k,b,e,rfl,f,g,rfl⟩
def qw.big(I:qw X a b H s):sysModules < s.heap.objs.size:=by
 exact zeb (by decide) ((I.mod.glob.keeps I.bk).lt)
def uE{A:Around}{Q:Value->Shared->Prop}(hu:A.units+1 < cLine)(I:qw X i j H s)(g:jZ H a y (some v))(o:qU y u)(h:∀d f,qw X i j H f->qU v d->Q d f):
  wpAny (model X.prog X.w) A (getItem (.ref a) u) Q E s:=by
 rcases g with ⟨j,k,e,f,i⟩ | ⟨j,k,b,e,f,p,i⟩
 ·subst f;obtain⟨z,hd,_,fy,j⟩:=vK I.hok e;obtain⟨d,l,m⟩:=ZE.some_of (by rw[i];exact fy.val k);exact wpAny_getItem_of (Wd o) j.mapOf l (h d _ (I.tok _) m)
 ·subst f;cases (show u=Value.ref b from o);obtain⟨z,hd,_,fy,j⟩:=vJ I.hok e;obtain⟨d,l,m⟩:=ZE.some_of (by rw[i];exact fy.val k);obtain⟨_,f,i⟩:=zbz.mp l;refine wpAny_getItem_heap (tupleKind_room_in1 hu) (Wb I.hok p) j f ?_;rw[i];exact h d _ (I.tok _) m
def IV{A:Around}{Q:Value->Shared->Prop}(hu:A.units+1 < cLine)(I:qw X f i H s)(g:jZ H a y o)(j:qU y u)(h:∀d,qw X f i H d->Q (.bool o.isSome) d):
  wpAny (model X.prog X.w) A (compareOp .In u (.ref a)) Q E s:=by
 rcases g with ⟨i,k,e,d,f⟩ | ⟨i,k,b,e,d,l,f⟩
 ·subst d;obtain⟨z,hd,_,fy,i⟩:=vK I.hok e;refine wpAny_in_of (Wd j) hd i.mapOf ?_;rw[<-(fy.val k).isSome_eq,<-f];exact h _ (I.tok _)
 ·subst d;cases (show u=Value.ref b from j);obtain⟨z,hd,_,fy,i⟩:=vJ I.hok e;refine wpAny_in_heap (tupleKind_room_in1 hu) (Wb I.hok l) hd i ?_;have q:=(fy.val k).isSome_eq;rw[zbi]at q;rw[<-q,<-f];exact h _ (I.tok _)
def AO{A:Around}{Q:Value->Shared->Prop}(hu:A.units+1 < cLine)(I:qw X f i H s)(g:jZ H a y o)(j:qU y u)(h:∀d,qw X f i H d->Q (.bool (!o.isSome)) d):
  wpAny (model X.prog X.w) A (compareOp .NotIn u (.ref a)) Q E s:=by
 rcases g with ⟨i,k,e,d,f⟩ | ⟨i,k,b,e,d,l,f⟩
 ·subst d;obtain⟨z,hd,_,fy,i⟩:=vK I.hok e;refine wpAny_notIn_of (Wd j) hd i.mapOf ?_;rw[<-(fy.val k).isSome_eq,<-f];exact h _ (I.tok _)
 ·subst d;cases (show u=Value.ref b from j);obtain⟨z,hd,_,fy,i⟩:=vJ I.hok e;refine wpAny_notIn_heap (tupleKind_room_in1 hu) (Wb I.hok l) hd i ?_;have q:=(fy.val k).isSome_eq;rw[zbi]at q;rw[<-q,<-f];exact h _ (I.tok _)
def Uf(I:qw X f g H s)(i:Eg (H a))(hs:Heap.SameBut a s.heap d)(j:∃q,d.get? a=some q)(new:qH X.prog X.w (upd H a e) d a e):
  qw X f g (upd H a e) {s with heap:=d,toks:=t'}:=
 I.write i (.inl rfl) (λb q d z=>(hs.2 b d).trans z) j new
def kS{d:Heap}{b:List (qZ×V)}(z:b.length<=zeq)(hd:(a==sysModules)=false)(fy:KV b vs)(e:d.DictOf (jl P w) a vs):
 qH P w H' d a (.dK b):=⟨z,hd,vs,fy,e⟩
def uD{A:Around}{Q:Unit->Shared->Prop}(hu:A.units+1 < cLine)(I:qw X f i H s)(g:Jv H a y v H')(p:qU y u)(x:qU v r)(h:∀d,qw X f i H' d->Q () d):
  wpAny (model X.prog X.w) A (setItem (.ref a) u r) Q E s:=by
 rcases g with ⟨i,k,e,j,d,l⟩ | ⟨i,k,b,e,j,B,d,l⟩
 ·subst j l;obtain⟨z,hd,_,fy,m⟩:=B1 I.hok e;exact wpAny_setItem_pairs (hsz:=(fy.length▸z)) (Wd p) m λC d o=>h _ (Uf I (e▸True.intro) o (let ⟨q,_,_,f,_⟩:=d;⟨q,f⟩) (kS (by have:=JF i k v;omega) hd (fy.put k x) d))
 ·subst j l;cases (show u=Value.ref b from p);obtain⟨z,hd,_,fy,m⟩:=F5 I.hok e;refine wpAny_setItem_heap (hsz:=(by rw[<-Paired.length fy];exact z)) (tupleKind_room_in1 hu) (Wb I.hok B) m λC d o=>h _ ?_;obtain⟨q,j,l,f,m,p,C,_,D⟩:=d;refine Uf I (e▸True.intro) o ⟨q,f⟩ ⟨by have:=JF i k v;omega,hd,_,(fy.put k B x).keeps λc _ d=>?_,q,j,l,f,m,p,C,D⟩;rwa [qf (FF d e (λz=>nomatch z))]
def Hg(i:Expr):Prop:=∀a b,subscripted i false a b=operate [a,b] (getItem a b)
def N0{prog:Program}{w:World}{A:Around}{E:Value->Shared->Prop}{s:Shared}{env:Env}{fq fC:Expr}{pos:Pos}{T id:String}{Q:Value->Shared->Prop}
  (e:typeLookup (.type T) "__getitem__"=pure (some (.builtin id))) (hs:Hg fC)
  (h:wpAny (model prog w) A (eval fq env) (λo b=>wpAny (model prog w) A (eval fC env) (λi a=>a.TypeIs o T/\wpAny (model prog w) A (getItem o i) Q E a) E b) E s):
  wpAny (model prog w) A (eval (.Subscript fq fC pos) env) Q E s:=by
 refine Subscript_ (wpAny_mono h (λo b b=>wpAny_mono b (λi a b=>?_) λ_ _ x=>x) λ_ _ x=>x);obtain⟨d,b⟩:=b;unfold subscriptTail;refine zen ?_;rw[getitemInPython_of_ne d.not_modules];refine zen (wpAny_specialOf d e ?_);have ft:wpAny (model prog w) A (subscripted fC false o i) (λd e=>wpAny (model prog w) A (letTemporaryGo fq o d >>= λ_=>pure d) Q E e) E a:=by
  rw[hs o i];exact wpAny_operating (wpAny_mono b (λd e a=>zen (wpAny_letTemporaryGo (zeo a))) λ_ _ x=>x)
 first
  | exact zeo (zen ft)
  | exact zen (zeo (zen ft))
  | exact zen ft
def vM(I:qw X d f H s)(g:jZ H a y o):s.TypeIs (.ref a) "dict":=by
 rcases g with ⟨d,k,e,_,_⟩ | ⟨d,k,b,e,_,_,_⟩
 ·obtain⟨_,_,_,_,d⟩:=vK I.hok e;exact d.typeIs
 ·obtain⟨_,_,_,_,d⟩:=vJ I.hok e;exact d.typeIs
inductive u6(Q:VK)(x:V)(y:V)(H2:Hp):Prop
 | mk (a:_) (v:_):x=.ref a->(jZ H2 a y (some v))->Q v H2->u6 Q x y H2
def Zy(b ty:TE):TE:=λa H Q=>b a H λx b=>ty a b λy a=>u6 Q x y a
inductive Bd(Q:VK)(y:V)(x:V)(H2:Hp):Prop
 | mk (a:_) (o:_):x=.ref a->jZ H2 a y o->(Q (.bl o.isSome) H2)->Bd Q y x H2
def HM(ty b:TE):TE:=λa H Q=>ty a H λy d=>b a d λx a=>Bd Q y x a
inductive UD(Q:VK)(y:V)(x:V)(H2:Hp):Prop
 | mk (a:_) (o:_):x=.ref a->jZ H2 a y o->(Q (.bl (!o.isSome)) H2)->UD Q y x H2
def NW(ty b:TE):TE:=λa H Q=>ty a H λy d=>b a d λx a=>UD Q y x a
inductive K9(D:QN)(σ:St)(v:V)(x:V)(y:V)(H3:Hp):Prop
 | mk (a:_) (H4:_):x=.ref a->Jv H3 a y v H4->D.nx σ H4->K9 D σ v x y H3
def By(b ty d:TE):TS:=λD a H=>d a H λv d=>b a d λx b=>ty a b λy b=>K9 D a v x y b
def qO(e:JE X o b)(f:JE X i ty)(hs:Hg i:=by exact λ_ _=>rfl)(hu:X.A.units+1 < cLine:=by exact hu_of hr):JE X (.Subscript o i pos) (Zy b ty):=.of (by
 refine λb s d H Q I h=>N0 PySem.F.slot_dict_getitem.lookup hs (jn (e.to b s d H _ I h) λu e ⟨x,g,j,l,m⟩=>jn (f.to b e d g _ j m) λ_ _ ⟨y,e,b,f,a,v,g,d,j⟩=>?_);subst g;obtain rfl:u=Value.ref a:=l;exact⟨vM b d,uE hu b d f λ_ _ b d=>⟨v,e,b,d,j⟩⟩)
def Zr(e:JE X i ty)(f:JE X o b)(hu:X.A.units+1 < cLine:=by exact hu_of hr):JC X .In i o (HM ty b):=.of (by
 refine λb s d H Q I h=>jn (e.to b s d H _ I h) λ_ e ⟨y,g,j,l,m⟩=>jn (f.to b e d g _ j m) λu _ ⟨x,b,d,e,a,f,g,j,m⟩=>?_;subst g;obtain rfl:u=Value.ref a:=e;exact IV hu d j l λ_ d=>⟨.bl f.isSome,b,d,rfl,m⟩)
def J9(e:JE X i ty)(f:JE X o b)(hu:X.A.units+1 < cLine:=by exact hu_of hr):JC X .NotIn i o (NW ty b):=.of (by
 refine λb s d H Q I h=>jn (e.to b s d H _ I h) λ_ e ⟨y,g,j,l,m⟩=>jn (f.to b e d g _ j m) λu _ ⟨x,b,d,e,a,f,g,j,m⟩=>?_;subst g;obtain rfl:u=Value.ref a:=e;exact AO hu d j l λ_ d=>⟨.bl (!f.isSome),b,d,rfl,m⟩)
def jL{pos:Pos}(e:JE X o b)(f:JE X i ty)(g:JE X fq d)(hu:X.A.units+1 < cLine:=by exact hu_of hr)(hs:swapsWith fq (some (.Subscript o i j)) pos.line X.env=pure false:=by exact rfl):JS X (.Assign [.Subscript o i j] fq pos) (By b ty d):=.of (by
 refine λd s b H D I h=>wpAny_Assign_Subscript (jn (g.to d s b H _ I h) λ_ g ⟨v,j,l,m,p⟩=>jn (e.to d g b j _ l p) λu e ⟨x,g,j,q,l⟩=>jn (f.to d e b g _ j l) λ_ _ ⟨y,_,r,z,a,B,C,J,L⟩=>?_) hs;subst C;obtain rfl:u=Value.ref a:=q;exact uD hu r J z m λ_ d=>⟨b,B,d,L⟩)
def vL(h:Heap)(a:sysModules < h.objs.size):qH P w H (h.push {cls:=.type "dict",data:=.dict #[]}) h.objs.size (.dK []):=
 ⟨zao _,beq_eq_false_iff_ne.mpr (Ne.symm (tO a)),[],.nil,Heap.DictOf.new h⟩
def No(h:Heap)(a:sysModules < h.objs.size):qH P w H (h.push {cls:=.type "dict",data:=.dict #[]}) h.objs.size (.dT []):=
 ⟨zao _,beq_eq_false_iff_ne.mpr (Ne.symm (tO a)),[],.nil,_,#[],0,tR _ rfl,⟨rfl,rfl,rfl⟩,rfl,rfl,zbt⟩
def kj:TE:=λ_ H Q=>∀a,H a=none->Q (.ref a) (upd H a (.dK []))
def u5:TE:=λ_ H Q=>∀a,H a=none->Q (.ref a) (upd H a (.dT []))
def GF:PE X (.Dict [] [] pos) kj:=λ_ s _ H Q I h=>
 wpAny_Dict_empty ⟨.ref s.heap.objs.size,_,I.laid (λ_ _ q=>tm _ q) (tp _) (vL s.heap I.big),rfl,h _ (I.hok.fresh (tp _))⟩
def Qf:JE X (.Dict [] [] pos) kj:=.of (GF)
def Gz:PE X (.Dict [] [] pos) u5:=λ_ s _ H Q I h=>
 wpAny_Dict_empty ⟨.ref s.heap.objs.size,_,I.laid (λ_ _ q=>tm _ q) (tp _) (No s.heap I.big),rfl,h _ (I.hok.fresh (tp _))⟩
def RV:JE X (.Dict [] [] pos) u5:=.of (Gz)
def ki:List (TE×TE)->St->Hp->(List (V×V)->Hp->Prop)->Prop
 | [],_,H,Q=>Q [] H
 | (tk,b)::d,a,H,Q=>tk a H λx e=>b a e λy f=>ki d a f λg i=>Q ((x,y)::g) i
abbrev VV:List (V×V)->List (Value×Value)->Prop:=Paired λa q=>qU a.1 q.1/\qU a.2 q.2
def Hf(X:Cx)(pos:Pos)(fE:List (Option Expr))(fx:List Expr)(d:List (TE×TE)):Prop:=
 ∀(b:List (Addr×Obj)) (s:Shared) (a:St) (H:Hp) (Q:List (V×V)->Hp->Prop),qw X b a H s->ki d a H Q->
  wpAny (model X.prog X.w) X.A (evalPairs (pairTrees fE fx X.env pos)) (λf g=>∃d e,qw X b a e g/\VV d f/\Q d e) X.xe s
@[irreducible] def NK (X:Cx) (pos:Pos) (fE:List (Option Expr)) (fx:List Expr) (a:List (TE×TE)):Prop:=Hf X pos fE fx a
def NK.of(h:Hf X pos fE fx a):NK X pos fE fx a:=by unfold NK;exact h
def NK.to(h:NK X pos fE fx a):Hf X pos fE fx a:=by unfold NK at h;exact h
def Ar:NK X pos [] [] []:=.of (by
 exact λ_ s _ H Q I h=>pairTrees_nil_walk ⟨[],H,I,.nil,h⟩)
def Gx(d:PE X k tk)(e:PE X v a)(hr:Hf X pos b vs f):
  Hf X pos (some k::b) (v::vs) ((tk,a)::f):=λa s b H Q I h=>
 pairTrees_cons_walk (jn (d a s b H _ I h) λu d ⟨x,f,g,i,j⟩=>jn (e a d b f _ g j) λ_ d ⟨y,e,f,g,j⟩=>
  jn (hr a d b e _ f j) λ_ _ ⟨a,b,d,fy,e⟩=>⟨(x,y)::a,b,d,.cons ⟨i,g⟩ fy,e⟩)
def Wg(a:JE X k tk)(b:JE X v d)(hr:NK X pos e vs f):NK X pos (some k::e) (v::vs) ((tk,d)::f):=.of (Gx a.to b.to hr.to)
def Jn(b more:List (qZ×V)):List (qZ×V):=more.foldl (λd a=>Qd d a.1 a.2) b
def KV.merge:∀{more:List (qZ×V)} {rs:List (qZ×Value)} {a:List (qZ×V)} {vs:List (qZ×Value)},KV more rs->KV a vs->KV (Jn a more) (merged vs rs):=by
 intro more rs a vs b;unfold KV at b;induction b generalizing a vs with
 | nil=>intro q;exact q
 | @cons b q f g h t d=>
  intro f;have e:KV (Qd a b.1 b.2) (stored vs q.1 q.2):=by
   have:=f.put b.1 h.2;rwa [<-h.1]
  exact d e
def JR:∀(more a:List (qZ×V)),(Jn a more).length<=a.length+more.length
 | [],a=>by show a.length<=a.length+0;omega
 | b::d,a=>by
  have e:=JR d (Qd a b.1 b.2);have e:=JF a b.1 b.2;show (Jn (Qd a b.1 b.2) d).length<=_;rw[zae];omega
def Wr:∀{e:List (qZ×V)} {d:List (Value×Value)},VV (e.map λkv=>(kV kv.1,kv.2)) d->∃rs,Carries (jl P w) d rs/\KV e rs
 | [],_,d=>by rw[zcb]at d;cases d;exact⟨[],True.intro,.nil⟩
 | f::e,_,d=>by
  rw[tV]at d;cases d with
  | @cons a b as bs h t=>
   obtain⟨rs,c,q⟩:=Wr t;obtain⟨_,d⟩:=b;exact⟨(f.1,d)::rs,⟨Wd h.1,rfl,c⟩,.cons ⟨rfl,h.2⟩ q⟩
def EH(b:List (TE×TE)):TE:=λd H Q=>∀a,H a=none->ki b d (upd H a (.dK [])) λe d=>d a=some (.dK [])/\∃b:List (qZ×V),e=b.map (λe=>(kV e.1,e.2))/\b.length<=15/\Q (.ref a) (upd d a (.dK (Jn [] b)))
def Ax(h:NK X pos fE fx a)(b:fE.all (·.isSome)=true)(d:fE.length=fx.length)(f:fE≠[])(g:fE.length<=15):JE X (.Dict fE fx pos) (EH a):=.of (by
 intro a s i H Q I q;have j:=I.laid (t':=s.toks) (λ_ _ q=>tm _ q) (tp _) (vL s.heap I.big);refine wpAny_Dict_walk (knd:=jl X.prog X.w) b d f g (jn (h.to a _ i _ _ j (q _ (I.hok.fresh (tp s.heap.objs.size)))) λ_ _ ⟨_,_,a,fy,e,b,d,lk,f⟩=>?_);subst d;obtain⟨d,c,g⟩:=Wr fy;obtain⟨z,hd,_,i,j⟩:=B1 a.hok e;cases i;refine⟨d,c,j,λ_ d i=>⟨.ref s.heap.objs.size,_,?_,rfl,f⟩⟩;have f:(Jn [] b).length<=zeq:=by
  have j:=JR b [];rw[zdA]at j;rw[sizeLine_eq];omega
 exact Uf a (e▸True.intro) i (let ⟨q,_,_,a,_⟩:=d;⟨q,a⟩) (kS f hd (g.merge .nil) d))
end L2
namespace Att
open PySem PySem.W PySem.Calls
open PyProof.Rows hiding K lo
def Y2:∀(ns:List Int) (vs:List Value),WellAll P h vs (ns.map WData.int)->IntsAre vs ns:=by
 intro ns;induction ns with
 | nil=>
  intro vs w;rw[zcb]at w;cases w;exact .nil
 | cons n ns d=>
  intro vs w;rw[tV]at w;cases w with
  | cons a b=>
   cases a;exact .cons _ _ (d _ b)
def wh{l:OpenLaw}(g:l.most=some n)(b:l.row.toRowW.claim.pre args=true)(i:WellAll P h e args):
  ∃a vs ns,e=[Value.ref a]/\args=[WData.list (ns.map WData.int)]/\h.get? a=some {cls:=.type "list",data:=.seq vs.toArray}/\IntsAre vs ns/\ns.length<=n:=by
 have f:l.pre.holds [] {args:=args}=true:=(pre_splitW b).2;obtain⟨d,_,rfl,j,m⟩:=hasAllW_cons ((pre_splitW b).1);obtain rfl:=hasAllW_nil m;obtain⟨_,rfl,o⟩:=hasW_list j;obtain⟨ns,rfl⟩:=items_int o;have p:ns.length<=n:=by
  unfold OpenLaw.pre at f;have e:(WTm.not (.lt (.lit (.int (n:Int))) (.len (.arg 0)))).holds [] {args:=[.list (ns.map .int)]}=true:=by
   have e:=(holds_andW f).1;rwa [g]at e
  have b:=condW_of e (w_not (w_lt w_lit (w_len_list (w_arg rfl))));rw[tc]at b;refine zdq λq=>?_
  first
   | (rw[decide_eq_true (by omega)]at b;exact absurd b (by decide))
   | (simp at b;omega)
 cases i with
 | cons r u=>
  cases u;cases r with
  | list b e=>exact⟨_,_,ns,rfl,rfl,b,Y2 ns _ e,p⟩
def wx(l:OpenLaw)(args:List WData):l.row.toRowW.claim.post args (.bool true) args=true:=
 postW_of
  (show WShape.has [] (.bool true) .bool=true by first | rfl | decide | simp [WShape.has,WShape.arms,WShape.armsAll])
  (show (WTm.eq .res (.lit (.bool true))).value [] {args:=args,res:=some (.bool true),after:=args}=some (.bool (true==true)) from w_eq_bool (w_res rfl) w_lit) rfl
def attach_call{l:OpenLaw}{p:World->Heap->Prop}{d:DefRec}(u:l.most=some n)(x:d.params.defaults=[]) (call:∀(w:World) (s₀ b:Shared) (mg j:Str->Option Value) (e:Addr) (o:Obj) (pm g m:Value) (a:Addr) (vs:List Value) (ns:List Int),
   Ground q y [] z w s₀ mg j b.heap->p w b.heap->
   b.heap.get? e=some o->o.data=.func (docDef d.name d.params d.body d.scope pm g m)->b.heap.CodeRec g d.name->mg d.name=some (.ref e)->
   b.heap.get? a=some {cls:=.type "list",data:=.seq vs.toArray}->IntsAre vs ns->ns.length<=n->b.gens=#[]->
   codeAny (model l.prog w) callerA (.call (.ref e) ⟨[.ref a],[]⟩) (λr i=>r=.ok (.ret (.bool true))/\OldK b.heap i.heap/\i.os=b.os/\AllBare i.gens) b):
  WalkO q y z p l.row.toRowW d [] (λf vs=>PySem.call f vs):=by
 intro w s₀ b mg j G Y e o pm g m y kV z hd B p C D args _ as H _ _ J _;obtain rfl:y=.none:=Dflts.none p x;obtain rfl:kV=.none:=Dflts.noKw p;obtain⟨a,vs,ns,rfl,rfl,p,x,y⟩:=wh u H J;refine enter_call (codeAny_mono (call w s₀ b mg j e o pm g m a vs ns G Y z (fd_plain hd) B C p x y D) λr i b=>?_);obtain⟨rfl,e,g,i⟩:=b;exact⟨.inl ⟨.bool true,.bool true,[],rfl,λ_=>rfl,.bool true,wx l _,λ_=>⟨zdn.nil,λ_ b=>(nomatch b)⟩⟩,e,g,i⟩
end Att
namespace L2
open PySem PySem.Spec
open PyProof.Rows hiding K lo
def WO:∀{vs:List Value} {ns:List Int},IntsAre vs ns->qP (ns.map V.int) vs
 | _,_,.nil=>.nil
 | _,_,.cons n t h=>.cons ⟨t,rfl⟩ (WO h)
def La(H:Hp):Prop:=∀b,H b=none\/∃a d,H b=some (.frz a (.lst d))
open PyProof.Rows hiding K lo
open PyProof.Rows hiding K lo
def j3(s:Stmt)(j:Nat):Stmt:=match s with
 | .ClassDef _ _ _ fu _ _ _ _ _ _ _=>fu.getD j (.Pass ⟨0,0,0,0⟩)
 | _=>.Pass ⟨0,0,0,0⟩
def j4(s:Stmt):Arguments:=match s with
 | .FunctionDef _ a _ _ _ _ _ _ _ _=>a
 | _=>{posonlyargs:=[],args:=[],vararg:=none,kwonlyargs:=[],kw_defaults:=[],kwarg:=none,defaults:=[]}
def jk(s:Stmt):List Stmt:=match s with
 | .FunctionDef _ _ b _ _ _ _ _ _ _=>b
 | _=>[]
def qg(s:Stmt):Scope:=match s with
 | .FunctionDef _ _ _ _ _ _ a _ _ _=>a
 | _=>{kind:=.function,names:=[],isGenerator:=false,isCoroutine:=false}
abbrev q5:yc:=λ_ _ _ _ _ _=>False
abbrev E0:XK:=λ_ _ _=>False
def Qy:jY q5 X E0:=λ_ _ _ _ _ _ _ h=>h.elim
structure jq(K:zel)(x qual:Str)(st:Stmt)(f:Addr)(fd:zep):Prop where
 ex:∃(oc:Value) (od:Option Addr) (kV gL pm:Value) (an:Option Addr) (h6 ct:Value) (h_:Array (Option Value)),
  fd=zaU x qual (j4 st) (jk st) (qg st) .none kV gL pm an h6 ct/\K.lookup f=some ⟨oc,od,.func fd,h_⟩/\zbh K h6 qual=true
 kp:zaw K (.ref f)=true
def jq.ok{P:Program}{w:World}{K:zel}{mg:Str->Option Value}{base:Heap}{x qual:Str}{st:Stmt}{f:Addr}{d:zep}{N ps:List Str}{k:Nat}{b:Sp}(F:jq K x qual st f d)(S:qk N ps (qg st))(len:∀vs H Q E,b vs H Q E->vs.length=ps.length)
  (e:∀(a:Value) (A:Around) (outer:List Env) (s:Shared) (H:Hp) (vs:List V) (Q:VK) (E:XK),ji k (A.deeper (envOfC qual (qg st) s.heap.objs.size f a))->b vs H Q E->
   ∃t,NI (Qq q5 P w K mg base N qual (qg st) f a A outer s H E).nox (jk st) t/\t {nx:=λ_ H'=>Q .non H',rt:=Q} (start N vs) H):qp P w K mg base q5 (k+1) f d ps b:=by
 obtain⟨_,_,kV,_,pm,_,a,_,_,rfl,lk,b⟩:=F.ex;refine BZ lk b S len λA outer s H vs Q E hr b=>?_;obtain⟨t,h,q⟩:=e a A outer s H vs Q E hr b;exact⟨t,h.nox,q⟩
def jq.okJ{P:Program}{w:World}{K:zel}{mg:Str->Option Value}{base:Heap}{x qual:Str}{st:Stmt}{f:Addr}{g:zep}{N ps:List Str}{k:Nat}{e:Sp}(F:jq K x qual st f g)(S:qk N ps (qg st))(len:∀vs H Q E,e vs H Q E->vs.length=ps.length)
  (i:∀(d:Value) (A:Around) (outer:List Env) (s:Shared) (H:Hp) (vs:List V) (Q:VK) (E:XK),ji k (A.deeper (envOfC qual (qg st) s.heap.objs.size f d))->e vs H Q E->
   ∃t,Xw (Qq q5 P w K mg base N qual (qg st) f d A outer s H E).nox (jk st) t/\t {nx:=λ_ H'=>Q .non H',rt:=Q} (start N vs) H):qp P w K mg base q5 (k+1) f g ps e:=
 F.ok S len λd A outer s H vs Q E hr h=>let ⟨t,a,b⟩:=i d A outer s H vs Q E hr h;⟨t,a.to,b⟩
def jq.okK{P:Program}{w:World}{K:zel}{mg:Str->Option Value}{base:Heap}{x qual:Str}{st:Stmt}{f:Addr}{b:zep}{N ps:List Str}{k:Nat}{a:Sp}(F:jq K x qual st f b)(S:qk N ps (qg st))(e:∀{d:Value} {A:Around} {outer:List Env} {s:Shared} {vs:List V} {nd:N.Nodup} (H:Hp) (Q:VK) (E:XK),ji k (A.deeper (envOfC qual (qg st) s.heap.objs.size f d))->a vs H Q E->∃t,Xw (Qq q5 P w K mg base N qual (qg st) f d A outer s H E).nox (jk st) t/\t {nx:=λ_ H'=>Q .non H',rt:=Q} (start N vs) H)(len:∀vs H Q E,a vs H Q E->vs.length=ps.length:=by intro _ _ _ _ z;first | (cases z;subst_vars;rfl) | repeat first | (obtain⟨rfl,_⟩:=z;rfl) | obtain⟨_,z⟩:=z):qp P w K mg base q5 (k+1) f b ps a:=F.okJ S len λ_ _ _ _ H _ Q E hr z=>e (nd:=S.nd) H Q E hr z
def jq.binds{K:zel}{x qual:Str}{st:Stmt}{f:Addr}{e:zep}{ps:List Str}(F:jq K x qual st f e)
  (h:∀(kV a pm:Value) (b:Option Addr) (d ct:Value) (us:List Value),us.length=ps.length->bindArgs (zaU x qual (j4 st) (jk st) (qg st) .none kV a pm b d ct) ⟨us,[]⟩=pure (ps.zip us)):jy K e ps []:=by
 obtain⟨_,_,kV,a,pm,b,d,ct,_,rfl,lk,_⟩:=F.ex;exact .all (h kV a pm b d ct)
def ZX{K:zel}{x qual:Str}{st:Stmt}{f:Addr}{e:Value}{g b:Option Addr}{i:Array (Option Value)}{kV d pm a ct:Value}(l:K.lookup f=some ⟨e,g,.func (zaU x qual (j4 st) (jk st) (qg st) .none kV d pm b a ct),i⟩)
 (c:zbh K a qual=true) (k:zaw K (.ref f)=true):jq K x qual st f (zaU x qual (j4 st) (jk st) (qg st) .none kV d pm b a ct):=⟨⟨e,g,kV,d,pm,b,a,ct,i,rfl,l,c⟩,k⟩
def hu_of(hr:ji k A):A.units+1 < cLine:=zaI (Nat.add_le_add_left (by decide:1<=64) _) hr.units
def ql(h:n<=1000):n < zeq:=zaI h (by decide)
def sz(h:Nat.ble n 1000=true:=by exact rfl):n<=zeq:=t8 (Nat.le_of_ble_eq_true h) (by decide)
def pv{X:Cx}(i:Nat)(hN:X.N[i]?=some x:=by rfl)(a:Ha X.env.scope x:=by first | exact Or.inl rfl | exact Or.inr (Or.inl rfl) | exact Or.inr (Or.inr rfl))(hd:(x==("__debug__":Str))=false:=by decide)(b:(x==("__classdict__":Str))=false:=by decide):PE X (.Name x pos) (jg i):=CZ hN a hd b
def jv{X:Cx}(i:Nat)(hN:X.N[i]?=some x:=by rfl)(a:Ha X.env.scope x:=by first | exact Or.inl rfl | exact Or.inr (Or.inl rfl) | exact Or.inr (Or.inr rfl))(hd:(x==("__debug__":Str))=false:=by decide)(b:(x==("__classdict__":Str))=false:=by decide):JE X (.Name x pos) (jg i):=.of (pv i hN a hd b)
def jo{A B:Prop}(h:B):if false=true then A else B:=by
 rwa [if_neg tK]
def jX{A B:Prop}(h:A):if true=true then A else B:=by
 rwa [if_pos rfl]
def ul{c A B:Prop}[Decidable c](a:c->A)(b:¬c->B):if c then A else B:=by
 by_cases h:c
 ·rw[if_pos h];exact a h
 ·rw[if_neg h];exact b h
def Same(H H':Hp):Prop:=∀b a,H b=some a->H' b=some a
def Same.refl(H:Hp):Same H H:=λ_ _ h=>h
def Same.trans(a:Same H d)(b:Same d e):Same H e:=λc d h=>b c d (a c d h)
def Same.seq(e:Same H H')(h:SqL K H a xs):SqL K H' a xs:=by
 rcases h with (h | ⟨b,h⟩) | h
 ·exact .inl (.inl (e _ _ h))
 ·exact .inl (.inr ⟨b,e _ _ h⟩)
 ·exact .inr h
section
variable{κ:Type}[DecidableEq κ]
def uQ{a:List (κ×V)}{k:κ}(h:jw a k=none):¬k∈a.map (·.1):=by
 intro m;obtain⟨b,d,e⟩:=tz.mp m;have q:(a.any λf=>decide (f.1=k))=true:=zbn.mpr ⟨b,d,decide_eq_true e⟩;rw[Q0,h]at q;exact absurd q (by simp)
def NR{a:List (κ×V)}{k:κ}{v:V}(h:jw a k=some v):k∈a.map (·.1):=by
 have q:(a.any λb=>decide (b.1=k))=true:=by
  rw[Q0,h]
  all_goals rfl
 obtain⟨a,b,e⟩:=zbn.mp q;exact tz.mpr ⟨a,b,of_decide_eq_true e⟩
def xq:∀{l:List κ} {k:κ},l.Nodup->¬k∈l->(l++[k]).Nodup
 | [],k,_,_=>by simp
 | a::d,k,h,b=>by
  obtain⟨e,f⟩:=zak.mp h;show (a::(d++[k])).Nodup;refine zak.mpr ⟨λm=>?_,xq f λm=>b (tH.mpr (Or.inr m))⟩;rcases tQ.mp m with q | q
  ·exact e q
  ·exact b (tH.mpr (Or.inl (tM.mp q).symm))
def Ak{a:List (κ×V)}(v:V)(b:(a.map (·.1)).Nodup)(h:jw a k=none):((Qd a k v).map (·.1)).Nodup:=by
 rw[Q3 v h,tA];exact xq b (uQ h)
end
end L2
set_option maxHeartbeats 4000000
namespace L2
open PySem PySem.Spec
open PyProof.Rows hiding K lo
def xz:(NameKind.free==NameKind.free)=true:=rfl
def qY(env:Env):List (Str×NameKind)->List (Str×Addr)->List (Str×Addr)
 | [],a=>a
 | (n,k)::b,a=>qY env b (if k==.free then (n,(env.cells.lookup n).getD 0)::a else a)
def QZ{env:Env}(h:∀x∈scope.names,x.2=.free->∃c,env.cells.lookup x.1=some c):closureFor scope env=pure (qY env scope.names []):=by
 simp only[closureFor];have fF:∀(b:List (Str×NameKind)) (d:List (Str×Addr)),(∀x∈b,x.2=.free->∃c,env.cells.lookup x.1=some c)->
   (forIn b d λx (e:List (Str×Addr))=>if (x.snd==NameKind.free)=true then (do let a <-cellOf env x.fst;pure (ForInStep.yield ((x.fst,a)::e)):Sem (ForInStep (List (Str×Addr)))) else pure (ForInStep.yield e))=(pure (qY env b d):Sem (List (Str×Addr))):=by
  intro b;induction b with
  | nil=>intro d _;rfl
  | cons x b g=>
   intro d e;obtain⟨n,k⟩:=x;have f:=λi=>g i λy j=>e y (tU _ j);rw[List.forIn_cons];by_cases g:k=.free
   ·subst g;obtain⟨c,i⟩:=e (n,.free) tX rfl;have j:cellOf env n=pure c:=by
     unfold cellOf;rw[i]
    have e:qY env ((n,NameKind.free)::b) d=qY env b ((n,c)::d):=by
     show qY env b (if (NameKind.free==NameKind.free)=true then (n,(env.cells.lookup n).getD 0)::d else d)=_;rw[if_pos xz,i];rfl
    rw[e,<-f]
    try dsimp only
    rw[if_pos xz,j];rfl
   ·have i:(k==NameKind.free)=false:=by simpa using g
    have e:qY env ((n,k)::b) d=qY env b d:=by
     show qY env b (if (k==NameKind.free)=true then (n,(env.cells.lookup n).getD 0)::d else d)=_;rw[if_neg (by rw[i];decide)]
    rw[e,<-f]
    try dsimp only
    rw[if_neg (by rw[i];decide)];rfl
 rw[fF scope.names [] h];rfl
def Qi:∀{l:List (Str×NameKind)} {cs:List (Str×Addr)},(qY env l cs).lookup x=some c->cs.lookup x=some c\/((x,NameKind.free)∈l/\c=(env.cells.lookup x).getD 0)
 | [],cs,h=>.inl h
 | (n,k)::a,cs,h=>by
  rcases Qi (l:=a) h with h | ⟨e,f⟩
  ·by_cases b:k=.free
   ·subst b;rw[if_pos xz,zaA]at h;by_cases d:x=n
    ·subst d;simp only[beq_self_eq_true]at h;exact .inr ⟨tX,(tF.inj h).symm⟩
    ·have a:=beq_eq_false_iff_ne.mpr d;simp only[a]at h;exact .inl h
   ·have a:(k==NameKind.free)=false:=by simpa using b
    rw[if_neg (by rw[a];decide)]at h;exact .inl h
  ·exact .inr ⟨tU _ e,f⟩
def Js:∀{l:List (Str×NameKind)} {cs:List (Str×Addr)},((x,NameKind.free)∈l\/∃c,cs.lookup x=some c)->∃c,(qY env l cs).lookup x=some c
 | [],cs,h=>by
  rcases h with h | h
  ·cases h
  ·exact h
 | (n,k)::a,cs,h=>by
  show ∃c,(qY env a (if (k==NameKind.free)=true then (n,(env.cells.lookup n).getD 0)::cs else cs)).lookup x=some c;refine Js ?_;rcases h with h | ⟨c,h⟩
  ·rcases tH.mp h with h | h
   ·cases h;refine .inr ⟨(env.cells.lookup x).getD 0,?_⟩;rw[if_pos xz,zaA];simp only[beq_self_eq_true]
   ·exact .inl h
  ·refine .inr ?_;by_cases a:(k==NameKind.free)=true
   ·rw[if_pos a,zaA];cases b:x==n with
    | true=>exact⟨_,rfl⟩
    | false=>exact⟨c,h⟩
   ·rw[if_neg a];exact⟨c,h⟩
def zU{scope:Scope}{env:Env}:∀{names:List (Str×NameKind)},names.lookup x=some k->
  ∃b,(names.map λ(n,k)=>if (k==NameKind.free&&env.scope.kind==.function&&env.kindOf n==some .cell) then (n,NameKind.cell) else (n,k)).lookup x=some b/\(b=k\/(k=.free/\b=.cell))
 | [],h=>by simp at h
 | (n,f)::a,h=>by
  rw[tV];by_cases e:x=n
  ·subst e;rw[zaA]at h;simp only[beq_self_eq_true]at h;cases h
   try dsimp only
   by_cases a:(k==NameKind.free&&env.scope.kind==.function&&env.kindOf x==some .cell)=true
   ·rw[if_pos a,zaA];simp only[beq_self_eq_true];refine⟨_,rfl,.inr ⟨?_,rfl⟩⟩;simp only[zar,beq_iff_eq]at a;exact a.1.1
   ·rw[if_neg a,zaA];simp only[beq_self_eq_true];exact⟨_,rfl,.inl rfl⟩
  ·have d:=beq_eq_false_iff_ne.mpr e;rw[zaA]at h;simp only[d]at h;obtain⟨b,e,g⟩:=zU (scope:=scope) h;refine⟨b,?_,g⟩
   try dsimp only
   by_cases a:(f==NameKind.free&&env.scope.kind==.function&&env.kindOf n==some .cell)=true
   ·rw[if_pos a,zaA];simp only[d];exact e
   ·rw[if_neg a,zaA];simp only[d];exact e
def mem_of_lookup:∀{l:List (Str×NameKind)},l.lookup x=some k->(x,k)∈l
 | [],h=>by simp at h
 | (n,a)::b,h=>by
  rw[zaA]at h;by_cases a:x=n
  ·subst a;simp only[beq_self_eq_true]at h;cases h;exact tX
  ·have b:=beq_eq_false_iff_ne.mpr a;simp only[b]at h;exact tU _ (mem_of_lookup h)
def zh{f:Str×NameKind->Str×NameKind}(a:∀p,(f p).1=p.1):∀{l:List (Str×NameKind)},(l.map f).lookup x=some k->∃j,l.lookup x=some j/\(f (x,j)).2=k
 | [],h=>by simp at h
 | (n,j)::b,h=>by
  rw[tV]at h;have e:f (n,j)=(n,(f (n,j)).2):=by
   have:=a (n,j);exact Prod.ext this rfl
  rw[e,zaA]at h;rw[zaA];by_cases b:x=n
  ·subst b;simp only[beq_self_eq_true]at h ⊢;exact⟨j,rfl,tF.inj h⟩
  ·have d:=beq_eq_false_iff_ne.mpr b;simp only[d]at h ⊢;exact zh a h
def YX(X:Cx)(N:List Str)(scope:Scope)(C:Addr)(a:Shared)(b:Hp)(fp:List Addr)(d:List (Addr×Obj)):Cx where
 prog:=X.prog
 w:=X.w
 K:=X.K
 mg:=X.mg
 base:=X.base
 A:=X.A
 N:=N
 s₀:=a
 H₀:=b
 env:=compEnvC scope (qY X.env scope.names []) C X.env
 outer:=X.stack
 stack:=X.stack
 ex:=fp
 fn:=λ_=>false
 calm:=X.calm
 pn:=X.pn++d
 xe:=λ_ _=>False
def ndC{N':List Str}(h:N'.Nodup:=by decide+kernel):(YX X N' scope C s H fp a).N.Nodup:=h
def Cd(ix:List (Option Nat))(a:St):St:=ix.map λb=>b.bind λb=>(a[b]?).join
def DX(N' N:List Str)(d b:Scope)(ix:List (Option Nat)):Bool:=
 ix.length==N'.length&&(ix.zip N').all λa=>match a.1 with
  | none=>true
  | some e=>N[e]?==some a.2&&d.names.lookup a.2==some .free&&(b.names.lookup a.2==some .cell || b.names.lookup a.2==some .free)
structure Qw(X:Cx)(N':List Str)(ix:List (Option Nat))(scope:Scope):Prop where
 kind:scope.kind=.function
 nocell:(scope.names.all λx=>x.2 != .cell)=true
 locs:(scope.names.all λx=>x.2 != .local || scope.names.lookup x.1==some .local)=true
 frees:(scope.names.all λx=>x.2 != .free || (X.env.scope.names.lookup x.1==some .cell || X.env.scope.names.lookup x.1==some .free))=true
 ixs:DX N' X.N scope X.env.scope ix=true
def Qw.cellH(S:Qw X N' ix scope):∀y∈scope.names,y.2≠.cell:=λy a e=>by
 have:=zaK.mp S.nocell y a;rw[e]at this;exact absurd this (by decide)
def Qw.locH(S:Qw X N' ix scope):∀y∈scope.names,y.2=.local->scope.names.lookup y.1=some .local:=λy a e=>by
 have:=zaK.mp S.locs y a;simp only[e,zdB,bne_self_eq_false,zaR,false_or,beq_iff_eq]at this;exact this
def Qw.freeH(S:Qw X N' ix scope)(ok:X.Ok):∀x∈scope.names,x.2=.free->∃c,X.env.cells.lookup x.1=some c:=λx a e=>by
 have:=zaK.mp S.frees x a;simp only[e,zdB,bne_self_eq_false,zaR,false_or,beq_iff_eq]at this;exact ok.has x.1 this
def Qw.clook(S:Qw X N' ix scope)(ok:X.Ok)(h:(qY X.env scope.names []).lookup x=some c):X.env.cells.lookup x=some c/\(x,NameKind.free)∈scope.names:=by
 rcases Qi h with h | ⟨a,b⟩
 ·simp at h
 ·obtain⟨_,e⟩:=S.freeH ok _ a rfl;have d:=e;rw[d]at b;subst b;exact⟨d,a⟩
def F7{fp:List Addr}(S:Qw X N' ix scope)(I:qw X a d H s)(j:s.heap.objs.size<=C)(f:∀b∈fp,Zc X a H b)(m:∀b∈fp,b < s.heap.objs.size):(YX X N' scope C s H fp a).Ok where
 mod:=I.ok.mod
 kind:=S.kind
 glob:=I.ok.glob
 blt:=I.ok.blt
 above:=j
 inj:=λx y c a d=>I.ok.inj x y c (S.clook I.ok a).1 (S.clook I.ok d).1
 has:=λx o=>by
  refine Js (.inl ?_);have go:∀k,(k=NameKind.cell\/k=.free)->(relabel scope X.env).names.lookup x=some k->(x,NameKind.free)∈scope.names:=λk p h=>by
   obtain⟨l,a,d⟩:=zh (λ_=>by dsimp only;split<;>rfl) h;have g:=mem_of_lookup a;by_cases i:l=.free
   ·subst i;exact g
   ·exfalso;have a:(l==NameKind.free)=false:=by simpa using i
    try dsimp only at d
    rw[a,zcZ,zcZ,if_neg (by decide)]at d;have l:=d;rcases p with e | e
    ·exact S.cellH _ g (l.trans e)
    ·exact i (l.trans e)
  rcases o with h | h
  ·exact go _ (.inl rfl) h
  ·exact go _ (.inr rfl) h
 cab:=λx c h _=>by cases h
 hd:=I.ok.hd
 frames:=I.ok.frames
 stk:=.inl rfl
 exf:=λb a=>⟨tO (tI (m b a) j),λx c h=>(f b a).2.2.2.2.1 x c (S.clook I.ok h).1⟩
 bs:=I.bs
 bsz:=t8 I.ok.bsz I.sz
 noex:=λb d e a=>by
  rcases(f b a).2.2.2.1 with h | h
  ·exact I.ok.noex b d e h
  ·exact absurd (tI (tJ e) (t8 I.ok.bsz h)) (zan _)
 exfs:=λb a g=>by
  rcases tH.mp (I.stkSub b g) with e | e
  ·exact(f b a).2.1 e
  ·exact(f b a).2.2.1 e
 funs:=I.stack
 frf:=I.stkFree
def uq{fp:List Addr}{a:Heap}(S:Qw X N' ix scope)(I:qw X y j H s)(f:∀b∈fp,Zc X y H b)(g:∀b∈fp,b < s.heap.objs.size)(l:s.heap.objs.size<=D)(J:s.heap.objs.size<=C)(Q:D≠C)(p:∀b o,s.heap.get? b=some o->a.get? b=some o)(r:a.Ns C m)(T:a.get? D=some {cls:=.type "list",data:=.seq #[] U}):
  qw (YX X N' scope C s H fp y) [] (Cd ix j) (upd H D (.lst [])) {s with heap:=a,toks:=t'} where
 ok:=F7 S I J f g
 os:=rfl
 bare:=I.bare
 base:=Un.laid p l (I.hok.fresh l)
 loc:=by
  refine⟨m,r,λi x v L a _=>?_⟩;have f:=S.ixs;unfold DX at f;rw[zar]at f;obtain⟨g,O⟩:=f;have r:ix.length=N'.length:=by simpa using g
  unfold Cd at a;rw[tu]at a;cases g:ix[i]? with
  | none=>rw[g]at a;cases a
  | some o=>
   rw[g]at a;cases o with
   | none=>cases a
   | some r=>
    have B:(j[r]?).join=some v:=tF.inj a;have Y:(ix.zip N')[i]?=some (some r,x):=by
     rw[List.getElem?_zip_eq_some];exact⟨g,L⟩
    have a:=zaK.mp O _ (tW Y)
    try dsimp only at a
    simp only[zar,beq_iff_eq,zdB]at a;obtain⟨⟨Y,L⟩,O⟩:=a;have aa:j[r]?=some (some v):=by
     cases q:j[r]? with
     | none=>rw[q]at B;cases B
     | some z=>
      rw[q]at B;have:z=some v:=B;rw[this]
    obtain⟨_,_,B⟩:=I.loc;have ab:Ha X.env.scope x:=by
     rcases O with h | h
     ·exact .inr (.inl h)
     ·exact .inr (.inr h)
    obtain⟨u,ru,lu⟩:=B r x v Y aa ab;refine⟨u,ru,?_⟩;rcases lu with ⟨B,_⟩ | ⟨_,c,Y,ac⟩
    ·exfalso;have r:X.env.scope.names.lookup x=some .local:=B;rcases O with h | h<;>rw[h]at r<;>cases r
    ·right;obtain⟨_,r,B⟩:=zU (scope:=scope) L;refine⟨?_,?_⟩
     ·rcases B with z | ⟨_,z⟩
      ·right;rwa [z]at r
      ·left;rwa [z]at r
     ·obtain⟨_,r⟩:=Js (.inl (mem_of_lookup L));have:=(S.clook I.ok r).1;rw[Y]at this;cases this;obtain⟨o,B,hd⟩:=ac;exact⟨c,r,o,p _ _ B,hd⟩
 cell:=λx c h=>by
  obtain⟨v,o,g,hd⟩:=I.cell x c (S.clook I.ok h).1;exact⟨v,o,p _ _ g,hd⟩
 free:=by
  show (upd H D _) C=none;rw[qf (Ne.symm Q)];exact I.hok.fresh J
 freeC:=λx c h=>by
  have r:=(S.clook I.ok h).1;obtain⟨v,o,g,hd⟩:=I.cell x c r;rw[qf (tO (tI (tJ g) l))];exact(I.freeC x c r).imp id λz=>⟨rfl,z.2⟩
 pin:=λg r=>by
  have B:g∈X.pn++y:=by
   have:g∈(X.pn++y)++[]:=r;simpa using this
  obtain⟨e,n,ne,y,d⟩:=I.pin g B;have r:=tJ e;refine⟨p _ _ e,?_,tO (tI r J),λa=>?_,d⟩
  ·rwa [qf (tO (tI r l))]
  ·rcases tH.mp (I.stkSub g.1 a) with z | z
   ·exact ne z
   ·exact y z
 hok:=I.hok.laid p l ⟨zao _,[],U,.nil,T⟩
 len:=by
  have f:=S.ixs;unfold DX at f;rw[zar]at f;have:ix.length=N'.length:=by simpa using f.1
  show (Cd ix j).length=N'.length;unfold Cd;rw[tc,this]
def R1{fp:List Addr}(I:qw X e f H s)(a:∀b∈fp,Zc X e H b)(d:qw (YX X N' scope C s H fp e) pl i H' g):qw X e f H' g:=
 I.call' d.os d.base d.hok d.bare λb d=>⟨(a b d).2.2.2.1,(a b d).2.1,(a b d).2.2.2.2.1,(a b d).2.2.2.2.2⟩
def R0(a:qw X f g H s₀)(I:qw X f g H' i)(d:s₀.heap.objs.size<=C)(j:H' C=none)(l:Heap.SameBut C i.heap m):qw X f g H' {i with heap:=m}:=by
 refine I.turned (λb _ f e=>(l.2 b f).trans e) j (zbL (tI a.lt d)) (.inr (t8 a.sz d)) (λx c e z=>?_) λf g z=>?_
 ·obtain⟨v,q⟩:=a.cell x c e;exact absurd (tI q.lt (z▸d)) (zan _)
 ·exact absurd (tI (tJ (a.pin f g).1) (z▸d)) (zan _)
def Eu(X:Cx)(d:List Expr)(t:TT):Prop:=
 ∀(b:List (Addr×Obj)) (s:Shared) (a:St) (H:Hp) (Q:Bool->Hp->Prop),qw X b a H s->t a H Q->
  wpAny (model X.prog X.w) X.A (forIn d true λc d=>if d=true then do let ok <-isTrue c X.env (eval c X.env);pure (ForInStep.yield ok) else pure (ForInStep.yield d)) (TP X b a Q) X.xe s
@[irreducible] def NE (X:Cx) (a:List Expr) (t:TT):Prop:=Eu X a t
def NE.of(h:Eu X a t):NE X a t:=by unfold NE;exact h
def NE.to(h:NE X a t):Eu X a t:=by unfold NE at h;exact h
def HE:TT:=λ_ H Q=>Q true H
def j2:NE X [] HE:=.of (by
 exact λ_ _ _ H _ I h=>wpAny_tests_nil ⟨H,I,h⟩)
def jt(h:JT X c t):NE X [c] t:=.of (by
 exact λa s b H Q I d=>wpAny_tests_one (h.to a s b H Q I d))
def Uh{R:Result->Shared->Prop}{b:Expr}{d:Value}(I:Nat->Shared->Prop) (u:∀n s,I n s->wpAny (model prog w) A (pyNext it) (λr e=>match r with
   | none=>R (.ok .next) e
   | some v=>wpAny (model prog w) A (letOwnedTupleGo b_ it v) (λ_ g=>wpAny (model prog w) A (assign b_ env v) (λ_ i=>
    wpAny (model prog w) A (forIn j true λc r=>if r=true then do let ok <-isTrue c env (eval c env);pure (ForInStep.yield ok) else pure (ForInStep.yield r)) (λok f=>
     if ok=true then wpAny (model prog w) A (eval b env) (λx l=>
      wpAny (model prog w) A (call (.builtin "list.append") [d,x]) (λ_ o=>∃m,m < n/\I m o) (λ_ _=>False) l) (λ_ _=>False) f
     else ∃m,m < n/\I m f) (λ_ _=>False) i) (λ_ _=>False) g) (λ_ _=>False) e) (λ_ _=>False) s) (n:Nat) (h:I n s):
  codeAny (model prog w) A (.compLoop (.ListComp b [⟨b_,iter,j,0⟩] scope pos) 0 it d env) R s:=by
 refine codeAny_loop rfl I (λn s y=>?_) n h;show wpAny _ A ((compTurn (.ListComp b [⟨b_,iter,j,0⟩] scope pos) 0 it d env).onRaise (λx=>do noteFrame x env;theTreesLotGoes x)) _ _ s;refine wpAny_noted ?_;rw[compTurn_list];refine zen (wpAny_standAt (zen (wpAny_mono (u n s y) (λr e p=>?_) λ_ _ a=>a.elim)));cases r with
 | none=>exact zeo p
 | some v=>
  refine zen (wpAny_mono p (λ_ g z=>zen (wpAny_mono z (λ_ i B=>zen (wpAny_mono B (λok f q=>?_) λ_ _ a=>a.elim)) λ_ _ a=>a.elim)) λ_ _ a=>a.elim);cases ok with
  | false=>exact zeo ⟨rfl,q⟩
  | true=>
   exact zen (zen (wpAny_mono q (λx l C=>zen (wpAny_mono C (λ_ o D=>zeo (zeo ⟨rfl,D⟩)) λ_ _ a=>a.elim)) λ_ _ a=>a.elim))
inductive Yo(J:It)(g:TG)(tt:TT)(te:TE)(D:Addr)(σ:St)(H:Hp)(Q:Hp->Prop):Prop
 | mk (W:Nat->Nat->St->Hp->Prop):((∃m,W 0 m σ (upd H D (.lst []))))->(∀i m f6 H',W i m f6 H'->(J.stop i H'/\Q H')\/(J.go i H'/\∃N:St->Hp->Prop,(∀gf H2,N gf H2->∃m',m' < m/\W (i+1) m' gf H2)/\∀x H2,J.yld i H' x H2->g x f6 H2 λgf H3=>tt gf H3 λb H4=>if b=true then te gf H4 λv H5=>∃ys,H5 D=some (.lst ys)/\ys.length < zeq/\N gf (upd H5 D (.lst (ys++[v]))) else N gf H4))->Yo J g tt te D σ H Q
def Hr(b:TI)(ix:List (Option Nat))(g:TG)(tt:TT)(te:TE):TE:=λa H Q=>b a H λd b=>∀D,b D=none->Yo d g tt te D (Cd ix a) b λa=>Q (.ref D) a
def Vp{X:Cx}{RR:Value->Addr->Result->Shared->Prop}{Q:Addr->Hp->Prop}(hc:X.calm=true)(S:Qw X N' ix scope)(I:qw X f σ H s)(T:vT X.prog X.w X.K b_ av fp it tn)(st:tn 0 s.heap)(J:∀b∈fp,Zc X f H b)(a:∀C aa ab fp f,PG (YX X N' scope C aa ab fp f) b_ g/\Eu (YX X N' scope C aa ab fp f) aj tt/\PE (YX X N' scope C aa ab fp f) ak te)(h:∀D,H D=none->Yo av g tt te D (Cd ix σ) H (Q D))(ft:∀(D C:Addr) (H':Hp) (p:Shared) (m:Str->Option Value),s.heap.objs.size<=C->H' C=none->p.heap.Ns C m->qw X f σ H' p->Q D H'->RR (.ref D) C (.ok .next) p):
  wpAny (model X.prog X.w) X.A (newList []) (λal aw=>wpAny (model X.prog X.w) X.A (newFunctionEnv scope X.env.globals (qY X.env scope.names []) [] X.env.qual none .none (some X.env)) (λam ay=>
   codeAny (model X.prog X.w) X.A (.compStart (.ListComp ak [⟨b_,iter,aj,0⟩] scope pos) 0 (.ref it) al {am with scope:=relabel scope X.env}) (RR al am.locals) ay) E aw) E s:=by
 have an:∀b∈fp,b < s.heap.objs.size:=λb a=>by
  obtain⟨l,e,_⟩:=T.obj _ _ st b a;exact tJ e
 refine wpAny_newObj_type (wpAny_newFunctionEnv S.cellH (by intro y hy;simp at hy) (λac ae L=>?_) S.kind)
 try dsimp only at ae L ⊢
 generalize af:s.heap.push {cls:=.type "list",dict:=none,data:=.seq ([]:List Value).toArray}=j at ae L ⊢;have hC:j.objs.size=s.heap.objs.size+1:=by rw[<-af,zbr]
 have ao:s.heap.objs.size≠j.objs.size:=by rw[hC];exact tO (zaF _)
 have ap:s.heap.objs.size<=j.objs.size:=by rw[hC];exact zdG _
 have old:∀b l,s.heap.get? b=some l->ac.get? b=some l:=λb l e=>L.extBut b l ((λb a=>by rw[hC];exact tO (zbX a)) b (tJ e)) (tm _ (af▸tm _ e));have az:=L.extBut _ _ ao (tm _ (af▸tR _ rfl));obtain⟨W,⟨m0,w0⟩,aA⟩:=h s.heap.objs.size (I.hok.fresh (tp _));have I1:qw (YX X N' scope j.objs.size s H fp f) [] (Cd ix σ) (upd H s.heap.objs.size (.lst [])) {s with heap:=ac,toks:=s.toks+([]:List (Str×Value)).length}:=
  uq S I J an (tp _) ap ao old ae az
 have aq:=T.keep _ _ _ st λb a l e=>old b l e;have aB:∀b∈fp,(upd H s.heap.objs.size (.lst [])) b=none:=λb a=>by
  rw[qf (tO (an b a))];exact(J b a).1
 obtain⟨hg,aC,aD⟩:=a j.objs.size s H fp f;have okY:=I1.ok;have ag:∀{H':Hp},(∀b∈fp,H' b=none)->∀b∈fp,Zc (YX X N' scope j.objs.size s H fp f) [] H' b:=λ{H'} hn b a=>
  ⟨hn b a,(okY.exf b a).1,okY.exfs b a,.inl a,(okY.exf b a).2,λah hp=>by
   have aE:ah∈X.pn++f:=by
    have:ah∈(X.pn++f)++[]:=hp;simpa using this
   exact(J b a).2.2.2.2.2 ah aE⟩
 have ar:codeAny (model X.prog X.w) X.A (.compLoop (.ListComp ak [⟨b_,iter,aj,0⟩] scope pos) 0 (.ref it) (.ref s.heap.objs.size) (compEnvC scope (qY X.env scope.names []) j.objs.size X.env))
   (RR (.ref s.heap.objs.size) j.objs.size) {s with heap:=ac,toks:=s.toks+([]:List (Str×Value)).length}:=by
  refine Uh (λn p=>∃i r H',qw (YX X N' scope j.objs.size s H fp f) [] r H' p/\tn i p.heap/\(∀b∈fp,H' b=none)/\W i n r H') ?_ m0 ⟨0,_,_,I1,aq,aB,w0⟩;rintro n s3 ⟨i,O,U,I3,as,au,w3⟩;rcases aA i n O U w3 with ⟨stop,qn⟩ | ⟨go,NN,aF,step⟩
  ·refine jn (T.done (YX X N' scope j.objs.size s H fp f) rfl rfl rfl hc i [] s3 O U _ I3 (ag au) as stop) λaG s4 ⟨hr,I4⟩=>?_;subst hr;obtain⟨mm,aH,_⟩:=I4.loc;exact ft _ _ U s4 mm ap I4.free aH (R1 I J I4) qn
  ·refine jn (T.item (YX X N' scope j.objs.size s H fp f) rfl rfl rfl hc i [] s3 O U _ I3 (ag au) as go) λaG s4 ⟨u,hr,h4⟩=>?_;subst hr;refine jn h4 λ_ s5 ⟨x,H5,I5,r5,y5,ai,aI⟩=>jn (hg _ s5 O H5 x u _ (I5.pinned (ag aI) (T.obj _ _ ai)) r5 (step x H5 y5)) λ_ s6 ⟨Y,H6,I6,q6⟩=>jn (aC _ s6 Y H6 _ I6 q6) λok s7 ⟨H7,I7,q7⟩=>?_;have again:∀{z:St} {o:Hp} {q:Shared},qw (YX X N' scope j.objs.size s H fp f) ([]++XR fp s5.heap) z o q->NN z o->
     ∃m,m < n/\∃i r H',qw (YX X N' scope j.objs.size s H fp f) [] r H' q/\tn i q.heap/\(∀b∈fp,H' b=none)/\W i m r H':=λ{z o q} B n8=>by
    obtain⟨m',hm,w8⟩:=aF z o n8;refine⟨m',hm,i+1,z,o,B.unpinned,T.keep _ _ _ ai λb a l e=>(B.pin (b,l) (tE _ (tE _ (Zo a e)))).1,λb a=>?_,w8⟩;obtain⟨l,e,d⟩:=T.obj _ _ ai b a;exact(B.pin (b,l) (tE _ (tE _ (Zo a e)))).2.1
   cases ok with
   | false=>
    rw[if_neg tK]at q7 ⊢;exact again I7 q7
   | true=>
    rw[if_pos rfl]at q7 ⊢;refine jn (aD _ s7 Y H7 _ I7 q7) λv q ⟨y,o,B,r8,q8⟩=>?_;obtain⟨ys,hy,hz,q8⟩:=q8;exact jn (QT _ q Y o (.ref s.heap.objs.size) [y] (.ref s.heap.objs.size) [v] (λ_ H9=>NN Y H9) B rfl (.cons r8 .nil) ⟨_,ys,y,rfl,rfl,hy,hz,q8⟩) λ_ s9 ⟨_,H9,I9,_,q9⟩=>again I9 q9
 exact codeAny_compStart_list ar (T.self X.A 0 _ _ _ aq ar)
def FB{X:Cx}(f:X.calm=true)(S:Qw X N' ix scope)(i:PI X b_ iter j)(l:∀C b d fp a,PG (YX X N' scope C b d fp a) b_ g/\Eu (YX X N' scope C b d fp a) o tt/\PE (YX X N' scope C b d fp a) p te)(hs:∀x,foldedSetIterable iter X.env x=pure x:=by intro _;rfl):PE X (.ListComp p [⟨b_,iter,o,0⟩] scope pos) (Hr j ix g tt te):=by
 intro a s b H Q I h;rw[eval_ListComp];refine wpAny_comprehension_free rfl hs (QZ (S.freeH I.ok)) S.kind S.locH (jn (i a s b H _ I h) λ_ _ d=>jn d λ_ _ i=>?_);obtain⟨_,fp,_,_,_,e,d,r,u,f2,y⟩:=i;subst e;exact Vp (RR:=λi C=>compPost (model X.prog X.w) X.A X.xe none (EP X a b Q) i C) (Q:=λD a=>Q (.ref D) a) f S d r u f2 l y (λD C a _ m b f i j q=>⟨m,i,λ_ i=>⟨.ref D,a,R0 d j b f i,rfl,q⟩⟩)
def jP(f:JI X b_ iter i)(e:∀C a b fp d,JG (YX X N' scope C a b fp d) b_ g/\NE (YX X N' scope C a b fp d) j tt/\JE (YX X N' scope C a b fp d) l te)(hs:∀x,foldedSetIterable iter X.env x=pure x:=by intro _;rfl)(m:X.calm=true:=by exact rfl)(S:Qw X N' ix scope:=by exact⟨rfl,rfl,rfl,rfl,rfl⟩):JE X (.ListComp l [⟨b_,iter,j,0⟩] scope pos) (Hr i ix g tt te):=.of (FB m S f.to (λC a b fp d=>⟨(e C a b fp d).1.to,(e C a b fp d).2.1.to,(e C a b fp d).2.2.to⟩) hs)
def Gw{X:Cx}{B:Pos}(hN:X.N.Nodup)(L:X.N[i]?=some x)(O:NJ X.env.scope x)(Q:X.calm=true)(S:Qw X N' ix scope)(T:PI X b_ iter U)(l:∀C d f fp j,PG (YX X N' scope C d f fp j) b_ g/\Eu (YX X N' scope C d f fp j) o tt/\PE (YX X N' scope C d f fp j) p te)(Y:swapsWith (.ListComp p [⟨b_,iter,o,0⟩] scope pos) (some (.Name x r)) B.line X.env=pure true:=by rfl)(hs:∀x,foldedSetIterable iter X.env x=pure x:=by intro _;rfl)(hf:X.fn x=true\/X.env.scope.names.lookup x=some .local:=by first | exact .inl rfl | exact .inr rfl | assumption):
  PS X (.Assign [.Name x r] (.ListComp p [⟨b_,iter,o,0⟩] scope pos) B) (UE (Hr U ix g tt te) (Qp i)):=by
 intro j s σ H D I h;rw[exec_Assign_Name_used _ _ _ _ Y];refine zen (wpAny_standAt (zen ?_));show wpAny _ X.A (do let _ <-comprehension (.ListComp p [⟨b_,iter,o,0⟩] scope pos) scope X.env _ (newList []) false (eval iter X.env) (some (assign (.Name x r) X.env))) _ _ s;refine zen (jn (wpAny_comprehension_free rfl hs (QZ (S.freeH I.ok)) S.kind S.locH (jn (T j s σ H _ I h) λ_ _ d=>jn d λ_ _ h2=>?_)) λ_ s' d=>zeo (zeo d));obtain⟨_,fp,_,_,_,e,d,aa,ab,f2,q2⟩:=h2;subst e;refine Vp Q S d aa ab f2 l q2 ?_;intro J C H' s' m f hn hm I' q;show wpAny _ X.A (assign (.Name x r) X.env (.ref J)) _ _ _;refine wpAny_assign_Name (Yp I' hN L O (v:=.ref J) rfl (λac ae af=>?_) hf);obtain⟨a,sb,ha⟩:=af;have ag:C≠a:=by
  rcases ha with z | z
  ·rw[z];exact zbL (tI d.lt f)
  ·intro e;obtain⟨v,u⟩:=d.cell x a z;exact absurd (tI u.lt (e▸f)) (zan _)
 refine⟨m,hm.sameBut sb ag,λ_ j=>⟨_,H',ae.turned (it:=C) (t':=ac.toks) (λb _ l e=>(j.2 b l).trans e) hn (zbL (tI d.lt f)) (.inr (t8 d.sz f)) (λy c e z=>?_) λj l z=>?_,q⟩⟩
 ·obtain⟨v,u⟩:=d.cell y c e;exact absurd (tI u.lt (z▸f)) (zan _)
 ·exact absurd (tI (tJ (d.pin j l).1) (z▸f)) (zan _)
def QH{f:Pos}(m:JI X b_ iter o)(e:∀C a b fp d,JG (YX X N' scope C a b fp d) b_ g/\NE (YX X N' scope C a b fp d) j tt/\JE (YX X N' scope C a b fp d) l te)(p:swapsWith (.ListComp l [⟨b_,iter,j,0⟩] scope pos) (some (.Name x q)) f.line X.env=pure true:=by rfl)(hs:∀x,foldedSetIterable iter X.env x=pure x:=by intro _;rfl)(r:X.fn x=true\/X.env.scope.names.lookup x=some .local:=by first | exact .inl rfl | exact .inr rfl | assumption)(hN:X.N.Nodup:=by first | assumption | exact ndC)(u:X.N[i]?=some x:=by exact rfl)(y:NJ X.env.scope x:=by exact Or.inl rfl)(z:X.calm=true:=by exact rfl)(S:Qw X N' ix scope:=by exact⟨rfl,rfl,rfl,rfl,rfl⟩):JS X (.Assign [.Name x q] (.ListComp l [⟨b_,iter,j,0⟩] scope pos) f) (UE (Hr o ix g tt te) (Qp i)):=.of (Gw hN u y z S m.to (λC a b fp d=>⟨(e C a b fp d).1.to,(e C a b fp d).2.1.to,(e C a b fp d).2.2.to⟩) p hs r)
open PyProof.Rows hiding K lo
def Lf(x:Str):It:=⟨λi _=>i < x.cps.size,λi H v a=>a=H/\∃c,x.cps[i]?=some c/\v=.str ⟨#[c]⟩,λi _=>i=x.cps.size⟩
def Ux(it:Addr)(x:Str)(t:Tok)(ty:String)(O:["enumerate","zip","dict_itemiterator","dict_reverseitemiterator","odict_iterator","itertools.zip_longest","itertools.pairwise"].contains ty=false)(D:∀A:Around,A.handled=none->Walks P w A it [it] [it] x.cps.size (SignAt x) (λi h=>h.IsStrIter it ty x t i))(T:∀(A:Around) (i:Nat) (s:Shared) (Q:Value->Shared->Prop) (E:Value->Shared->Prop),s.heap.IsStrIter it ty x t i->Q (.ref it) s->wpAny (model P w) A (pyIter (.ref it)) Q E s):
  vT P w K a (Lf x) [it] it (λi h=>h.IsStrIter it ty x t i) where
 mem:=by simp
 obj:=λi h st b f=>by
  have e:b=it:=by simpa using f
  subst e;obtain⟨a,e,c,d⟩:=st;exact⟨a,e,λv z=>by rw[d]at z;cases z⟩
 keep:=λi h J st k=>let ⟨a,e,g⟩:=st;⟨a,k it (by simp) a e,g⟩
 item:=by
  intro X j l m o i U s Y H E I g st p;subst j l m;obtain⟨q,f1,f2,r,y,B⟩:=g it (by simp);refine(D X.A (I.ok.hd o)).item i s _ _ p st λv J tk hv L C=>?_;obtain⟨c,u,aa,rfl⟩:=hv;obtain⟨a,e,c1,d1⟩:=id L;exact⟨_,rfl,vD e c1 d1 O ⟨.str ⟨#[c]⟩,H,I.turned (λb a f e=>C b a (by simpa using f) e) q f1 r y B,⟨u,rfl⟩,⟨rfl,c,aa,rfl⟩,L,λb f=>(g b f).1⟩⟩
 done:=by
  intro X j l m o i U s Y H E I g st p;subst j l m;obtain⟨q,f1,f2,r,y,B⟩:=g it (by simp);have g:=p;subst g;exact(D X.A (I.ok.hd o)).done s _ _ st λJ tk C=>⟨rfl,I.turned (λb a f e=>C b a (by simpa using f) e) q f1 r y B⟩
 self:=T
inductive BV(R:It->Hp->Prop)(x:V)(H1:Hp):Prop
 | mk (y:_):x=.str y->(R (Lf y) H1)->BV R x H1
def IT(a:TE):TI:=λb H R=>a b H λx a=>BV R x a
def DP(a:JE X l d):JI X f l (IT d):=.of (by
 refine λg s d H R I h=>jn (a.to g s d H _ I h) λv a ⟨x,f,d,j,m⟩=>?_;obtain⟨y,e,q⟩:=m;subst e;obtain⟨t,rfl⟩:=j;have fp:∀b∈[a.heap.objs.size],Zc X g f b:=λb j=>by
  have e:b=a.heap.objs.size:=by simpa using j
  subst e;exact d.fpOk (tp _) (d.hok.fresh (tp _))
 cases j:y.cps.all (· < 128)
 ·exact wpAny_pyIter_wide j ⟨a.heap.objs.size,[a.heap.objs.size],_,_,f,rfl,d.kept λb m e=>tm _ e,
   Ux _ y t "str_iterator" (by decide) (λA g=>Walks.strWide g _ y t) (λA i s Q E st q=>wpAny_pyIter_striter_wide st q),⟨_,tR _ rfl,rfl,rfl⟩,fp,q⟩
 ·exact wpAny_pyIter_ascii j (⟨a.heap.objs.size,[a.heap.objs.size],_,_,f,rfl,d.kept λb m e=>tm _ e,
   Ux _ y t "str_ascii_iterator" (by decide) (λA g=>Walks.strAscii g _ y t) (λA i s Q E st q=>wpAny_pyIter_striter_ascii st q),⟨_,tR _ rfl,rfl,rfl⟩,fp,q⟩))
def Vv(tt:TT)(te:TE)(D:Addr)(N:St->Hp->Prop):St->Hp->Prop:=λa d=>tt a d λb e=>
 if b=true then te a e λv f=>∃d,f D=some (.lst d)/\d.length < zeq/\N a (upd f D (.lst (d++[v]))) else N a e
def Wu{g:TG}{Q:Hp->Prop}{b:It}(Pv:Nat->St->Hp->Prop)(f:Pv 0 j (upd H D (.lst [])))(go:∀i a H',i < n->Pv i a H'->b.go i H'/\∀x d,b.yld i H' x d->g x a d (Vv tt te D (Pv (i+1))))(stop:∀a H',Pv n a H'->b.stop n H'/\Q H'):Yo b g tt te D j H Q:=by
 refine⟨λi m a H'=>m=n - i/\i<=n/\Pv i a H',⟨n,by simp,zao _,f⟩,?_⟩;rintro i m a H' ⟨rfl,_,b⟩;by_cases f:i < n
 ·obtain⟨j,l⟩:=go i a H' f b;exact .inr ⟨j,Pv (i+1),λ_ d p2=>⟨n - (i+1),by omega,rfl,f,p2⟩,l⟩
 ·have e:i=n:=by omega
  subst e;exact .inl (stop a H' b)
def Zb{g:TG}{Q:Hp->Prop}(Pv:Nat->St->Hp->Prop)(b:Pv 0 d (upd H D (.lst [])))(hs:∀i a H',i < n->Pv i a H'->g (.int (lo+i)) a H' (Vv tt te D (Pv (i+1))))(hd:∀a H',Pv n a H'->Q H'):Yo (B6 lo n) g tt te D d H Q:=
 Wu Pv b (λi a H' d b=>⟨d,λx f y=>by
  obtain⟨e,y⟩:=y;subst e y;exact hs i a f d b⟩) λa H' b=>⟨tp _,hd a H' b⟩
def j7{g:TG}{Q:Hp->Prop}{xs:List V}(Pv:Nat->St->Hp->Prop)(d:Pv 0 j (upd H D (.lst [])))(f:∀i b H',i<=xs.length->Pv i b H'->SqL K H' a xs)(hs:∀i x b H',xs[i]?=some x->Pv i b H'->g x b H' (Vv tt te D (Pv (i+1))))(hd:∀b H',Pv xs.length b H'->Q H'):Yo (B7 K a) g tt te D j H Q:=
 Wu Pv d (λi b H' j d=>⟨⟨xs,xs[i],f i b H' (zab j) d,by simp [j]⟩,λx _ y=>by
  obtain⟨e,y⟩:=y;subst e;exact hs i x b _ (y xs (f i b _ (zab j) d)) d⟩) λb H' d=>⟨⟨xs,f _ b H' (tp _) d,tp _⟩,hd b H' d⟩
def xJ{g:TG}{Q:Hp->Prop}{xs:List V}(Pv:Nat->St->Hp->Prop)(d:Pv 0 j (upd H D (.lst [])))(f:∀i b H',i<=xs.length->Pv i b H'->SqT K H' a xs)(hs:∀i x b H',xs[i]?=some x->Pv i b H'->g x b H' (Vv tt te D (Pv (i+1))))(hd:∀b H',Pv xs.length b H'->Q H'):Yo (Ej K a) g tt te D j H Q:=
 Wu Pv d (λi b H' j d=>⟨⟨xs,xs[i],f i b H' (zab j) d,by simp [j]⟩,λx _ y=>by
  obtain⟨e,y⟩:=y;subst e;exact hs i x b _ (y xs (f i b _ (zab j) d)) d⟩) λb H' d=>⟨⟨xs,f _ b H' (tp _) d,tp _⟩,hd b H' d⟩
def AT{g:TG}{Q:Hp->Prop}{x:Str}(Pv:Nat->St->Hp->Prop)(b:Pv 0 d (upd H D (.lst [])))(hs:∀i c a H',x.cps[i]?=some c->Pv i a H'->g (.str ⟨#[c]⟩) a H' (Vv tt te D (Pv (i+1))))(hd:∀a H',Pv x.cps.size a H'->Q H'):Yo (Lf x) g tt te D d H Q:=
 Wu Pv b (λi a H' d b=>⟨d,λv _ y=>by
  obtain⟨e,c,d,rfl⟩:=y;subst e;exact hs i c a _ d b⟩) λa H' b=>⟨rfl,hd a H' b⟩
def Wv:∀(bs:List Bool),(t9 bs.length).all (λi=>bs.getD i false)=bs.all id:=by
 intro bs;induction bs with
 | nil=>rfl
 | cons b bs a=>
  rw[zae,List.range_succ_eq_map,zdm,zcV,zdm];have:((λi=>(b::bs).getD i false) ∘ zdc)=λi=>bs.getD i false:=by
   funext i;simp [Function.comp]
  rw[this,a];simp
def YL{X:Cx}(g:X.calm=true):Q6 X (.builtin "all") (λxs H Q=>∃(p:Addr) (bs:List Bool),xs=[.ref p]/\SqL X.K H p (bs.map V.bl)/\Q (.bl (bs.all id)) H):=by
 intro _ s _ H xs _ Q I a h;obtain⟨p,bs,rfl,f,q⟩:=h;obtain⟨u,rfl,d⟩:=Jy a;cases d;obtain⟨a,d,pl,_⟩:=I.list f;have j:p < s.heap.objs.size:=by
  obtain⟨f,n,e,_⟩:=pl;exact tJ e
 have l:a.toArray.size=bs.length:=by
  have:=d.length;rw[tc]at this;simp only[t6];omega
 have m:X.A.in1.handled=none:=I.ok.hd g;refine call_all_walk (wpAny_pyIter_list pl.isList ⟨s.heap.objs.size,[s.heap.objs.size,p],[s.heap.objs.size],a.toArray.size,λi v=>a.toArray[i]?=some v,_,λi=>bs.getD i false,rfl,Walks.list m s.heap.objs.size p (tO j) a.toArray,
  ⟨⟨_,tR _ rfl,rfl,rfl⟩,pl.isList.at λf e=>tm _ e⟩,?_,λ_ tk j=>?_⟩)
 ·intro i v m o _ r x;have g:a[i]?=some v:=by simpa using r
  have r:∃b,bs[i]?=some b/\v=Value.bool b:=by
   cases e:bs[i]? with
   | none=>
    exfalso;have a:(bs.map V.bl)[i]?=none:=by rw[tu,e];rfl
    rw[qP.none_of d a]at g;cases g
   | some b=>
    have a:(bs.map V.bl)[i]?=some (V.bl b):=by rw[tu,e];rfl
    obtain⟨u,hu,y⟩:=d.get a;rw[g]at hu;cases hu;exact⟨b,rfl,y⟩
  obtain⟨b,e,rfl⟩:=r;refine wpAny_truthy_bool ?_;have d:bs.getD i false=b:=by rw[zaq,e];rfl
  have a:o (bs.getD i false) m:=x;rw[d]at a;exact a
 ·rw[l,Wv];exact⟨.bl (bs.all id),H,I.kept λb f e=>j b f (by
   intro z;have a:b=s.heap.objs.size:=by simpa using z
   exact absurd (tJ e) (by rw[a];exact zan _)) (tm _ e),rfl,q⟩
def kl{e:List Str}:∀{us:List Value},qP (e.map V.str) us->StrsAre us e:=by
 induction e with
 | nil=>
  intro us d;rw[zcb]at d;cases d;exact .nil
 | cons y e f=>
  intro us d;rw[tV]at d;cases d with
  | cons a b=>
   obtain⟨t,rfl⟩:=a;exact .cons _ _ (f b)
inductive Go(K:zel)(x:V)(xs:List V)(H:Hp)(Q:VK):Prop
 | mk (sep:Str) (p:Addr) (ys:List Str):x=.str sep->xs=[.ref p]->(SqL K H p (ys.map V.str))->((ys.map (·.length)).sum+ys.length*sep.length<=16777216)->(Q (.str (Txt.join sep ys)) H)->Go K x xs H Q
def Fv(K:zel):V->List V->Hp->VK->Prop:=λx a H Q=>Go K x a H Q
def Al:Ev X "str.join" (Fv X.K):=by
 intro _ s _ H x _ v _ Q I a b h;obtain⟨sep,_,_,rfl,rfl,d,e,q⟩:=h;obtain⟨t,rfl⟩:=a;obtain⟨u,rfl,a⟩:=Jy b;cases a;obtain⟨_,a,pl,_⟩:=I.list d;exact join_list pl.isList (by simpa using kl a) e λa k=>⟨.str _,H,I.tok k,⟨a,rfl⟩,q⟩
def AQ:V->Value
 | .ty n=>.type n
 | .ref a=>.ref a
 | _=>.none
def BT:V->Bool
 | .ty _=>true
 | .ref _=>true
 | _=>false
inductive Gp(K:zel)(xs:List V)(H:Hp)(Q:VK):Prop
 | mk (x:_) (c:_) (t:_) (b:_):xs=[x,c]->BT c=true->TyOf K H x t->tZ K t (AQ c)=some b->(Q (.bl b) H)->Gp K xs H Q
def Fw(K:zel):List V->Hp->VK->Prop:=λa H Q=>Gp K a H Q
def jQ:Q6 X (.builtin "isinstance") (Fw X.K):=by
 intro _ s _ H _ _ Q I f h;obtain⟨x,c,t,b,rfl,g,ty,e,q⟩:=h;obtain⟨u,i,rfl,j,d⟩:=WP f;have f:i=AQ c:=by
  cases c with
  | ty n=>exact d
  | ref a=>exact d
  | _=>cases g
 subst f;exact um I j ty e λtk=>⟨.bl b,H,I.tok tk,rfl,q⟩
open PyProof.Rows hiding K lo
open PyProof.Rows hiding K lo
abbrev Ex(rest:List Value):Obj:={cls:=.type "tuple",data:=.seq rest.toArray}
abbrev D4(C t:Addr):Obj:={cls:=.ref C,data:=.fields #[.ref t,.none,.none,.none,.bool false,.none]}
def kh{prog:Program}{w:World}{A:Around}{E:Value->Shared->Prop}{h:Heap}{g:Array GenState}{d:Drawn}{t:Nat}{os:OsState}{z:Str}{q:Str}{C:Addr}{N:Addr}{f:Addr}{bs:List Value}{i:List Value}{j:List Value}{D:List Value}{H:Bool}{J:List Str}{sub:List Value}{L:Bool}{O:Option Bool}{U:Option Addr}{Y:Option Value}{k1:Option Value}{k2:Option Value}{k3:Option Value}{k5:Option Value}{B:String}{m:String}{o:String}{aa:String}{ac:String}{ae:String}{rest:List Value}{p:Obj}{Q:Fin->Shared->Prop}(l:ExcBaseFacts m o ae D)(u:j.contains (.type m)=true)
  (F:ExcBaseFacts B aa ac j) (T:OwnTail h j i)
  (a:h.get? C=some (excClassObj z q C N bs i H J sub L O U Y k1 k2 k3 k5 o))
  (hi:PySem.W.Looks (model prog w) h (typeLookup (.ref C) "__init__") (some (.ref f))) (af:h.get? f=some p) (ag:p.cls=.type "function")
  (hq:∀x e,h.objs.size<=e->Heap.MadeExcOf h x e (.ref C) rest->
   wpAny (model prog w) A (call (.ref f) (.ref e::rest)) (λr y=>r=.none/\Q (.done (.ret (.ref e))) y) E ⟨x,g,d,t,os⟩)
  (hz:rest.length<=zeq):
  wpAny (model prog w) A (Builtin.«type.__call__» ⟨.ref C::rest,[]⟩) Q E ⟨h,g,d,t,os⟩:=by
 repeat (first
  | with_reducible refine wpAny_loadPart_at a ?_
  | with_reducible refine wpAny_madeBy_exc a ?_
  | wp_step)
 refine codeAny_call_builtin_code (Code.quiet_builtin _ l.quiet) (wpAny_check_new_subU l u T a
  (codeAny_exc_new_subU l u F T a ?_ hz))
 show wpAny _ _ _ _ _ _;have k:∀b f,h.get? b=some f->((h.push (Ex rest)).push (D4 C h.objs.size)).get? b=some f:=λb f e=>
  tm _ (tm _ e)
 have f:((h.push (Ex rest)).push (D4 C h.objs.size)).get? (h.objs.size+1)=some (D4 C h.objs.size):=by heap_get
 have j:(Value.ref C::i).contains (.ref C)=true:=by simp
 unfold isInstance
 repeat (first
  | with_reducible refine wpAny_loadPart_at f ?_
  | (with_reducible refine wpAny_isSubtype_exc (k _ _ a) ?_;rw[j])
  | wp_step)
 show wpAny _ _ (typeLookup (.ref C) _) _ _ _;refine(hi.keeps k).at (wpAny_holding (zen ?_));unfold bindSpecial;refine zen (wpAny_typeOf ⟨_,k _ _ af,ag⟩ ?_);rw[if_pos (by decide)];refine zeo (zen (jn (hq _ (h.objs.size+1) (zdG _) ⟨k,zcO (zdG _),h.objs.size,f,zcO (tp _),?_⟩) λr y hr=>?_))
 ·exact tm _ (Heap.get?_push_at rfl rfl)
 ·obtain⟨rfl,a⟩:=hr
  wp_walk
  exact a
def uI{prog:Program}{w:World}{A:Around}{E:Value->Shared->Prop}{h:Heap}{g:Array GenState}{d:Drawn}{t:Nat}{os:OsState}{p:Str}{q:Str}{C:Addr}{N:Addr}{f:Addr}{bs:List Value}{j:List Value}{i:List Value}{u:List Value}{x:Bool}{y:List Str}{sub:List Value}{z:Bool}{D:Option Bool}{H:Option Addr}{J:Option Value}{L:Option Value}{O:Option Value}{U:Option Value}{Y:Option Value}{B:String}{l:String}{m:String}{aa:String}{ac:String}{ae:String}{rest:List Value}{o:Obj}{Q:Value->Shared->Prop}(Fn:ExcBaseFacts l m ae u)(af:i.contains (.type l)=true)
  (F:ExcBaseFacts B aa ac i) (T:OwnTail h i j)
  (a:h.get? C=some (excClassObj p q C N bs j x y sub z D H J L O U Y m))
  (hi:PySem.W.Looks (model prog w) h (typeLookup (.ref C) "__init__") (some (.ref f))) (ag:h.get? f=some o) (ah:o.cls=.type "function")
  (hq:∀b e,h.objs.size<=e->Heap.MadeExcOf h b e (.ref C) rest->
   wpAny (model prog w) (A.under (.builtin "type.__call__" ⟨.ref C::rest,[]⟩)) (call (.ref f) (.ref e::rest)) (λr s'=>r=.none/\Q (.ref e) s') E ⟨b,g,d,t,os⟩)
  (hz:rest.length<=zeq):
  wpAny (model prog w) A (call (.ref C) rest) Q E ⟨h,g,d,t,os⟩:=by
 have f:=tc_lookup;have f:=tc_bind (.ref C);have f:(⟨h,g,d,t,os⟩:Shared).TypeIs (.ref C) "type":=⟨_,a,rfl⟩;refine wpAny_call (codeAny_of_tree ?_);show wpAny _ _ (callAny (.ref C) _) _ _ _
 repeat (any_goals (first
  | assumption
  | with_reducible refine wpAny_loadPart_at a ?_
  | wp_step))
 refine⟨rfl,codeAny_call_builtin_at (Code.quiet_builtin _ (by decide+kernel)) entry_typeCall
  (wpAny_check_type_call_sub a (kh Fn af F T a hi ag ah (λb e a f=>?_) hz))⟩
 exact hq b e a f
open PySem PySem.W Builtin Builtin.ObjectAttr
open PyProof.Rows hiding K lo
structure Y7(K:Frag)(C:Addr)(bm:List Value):Prop where
 ga:findIn K (.ref C) "__getattribute__"=some (some (.builtin "BaseException.__getattribute__"))
 gt:findIn K (.ref C) "__getattr__"=some none
 sa:findIn K (.ref C) "__setattr__"=some (some (.builtin "object.__setattr__"))
 hd:hasDictIn K C=true
 mr:∃cd,clsIn K C=some cd/\cd.mro=.ref C::bm
 mb:mroIn K C (.type "BaseException")=some true
 mo:mroIn K C (.type "object")=some true
 cl:findIn K (.ref C) "__class__"=some (some (.builtin "object.__class__"))
def ky:List Value->Prop
 | .ref _::a=>ky a
 | a=>a=[.type "ValueError",.type "Exception",.type "BaseException",.type "object"]
def y9(self:Value):∀{l:List Value},ky l->refuseLoop self "__setattr__" l=pure ()
 | .ref c::b,e=>by rw[refuseLoop_ref];exact y9 self e
 | [],e=>nomatch (show ([]:List Value)=[.type "ValueError",.type "Exception",.type "BaseException",.type "object"] from e)
 | .type n::b,e=>by
  have a:=e;rw[a];kernel_rfl
 | .none::b,e=>by have a:=e;cases a
 | .bool _::b,e=>by have a:=e;cases a
 | .int _ _::b,e=>by have a:=e;cases a
 | .float _ _::b,e=>by have a:=e;cases a
 | .str _ _::b,e=>by have a:=e;cases a
 | .bytes _ _::b,e=>by have a:=e;cases a
 | .builtin _::b,e=>by have a:=e;cases a
def MW{prog:Program}{w:World}{A:Around}{s:Shared}{K:Frag}{x:Addr}{C:Addr}{i:Obj}{j:Option Obj}{d:List Value}{a_:Str}{v:Value}{tk:Tok}{R:Result->Shared->Prop}(X:K.In s.heap)(I:InstAt s.heap x i C j)(c:Y7 K C d)(l:ky d)(m:findIn K (.ref C) a_=some none)
  (h:∀b,wpAny (model prog w) A.in1 (storeInOwnDict (.ref x) (.ref C) (.str a_ tk) a_ v b)
   (λft a=>match ft with | .done f=>R (.ok f) a | .again g=>g.quiet=true/\codeAny (model prog w) A g R a) (λe a=>R (.error e) a) s):
  codeAny (model prog w) A (.call (.builtin "object.__setattr__") ⟨[.ref x,.str a_ tk,v],[]⟩) R s:=by
 have a:=PySem.F.store_object;obtain⟨d,g,i⟩:=c.mr;refine codeAny_call_builtin a.slot.plain a.entry
  (@check_slot (model prog w) _ _ s "object.__setattr__" "object" "__setattr__" (.ref x) [.str a_ tk,v] [] _ a.kind a.split (I.type.andThen (looks_mroIn X c.mo)) (a.args (.ref x) (.str a_ tk) v) ?_)
 have a:Looks (model prog w) s.heap (mroOf (.ref C)) d.mro:=(looks_clsIn X g).andThen .now;rw[osa_eq,refuse_eq];refine zen (zen (I.type.here (zen (a.here ?_))));rw[i,refuseLoop_ref,y9 _ l];exact zeo (zen (I.type.here (zen ((looks_findIn X m).here (zen (zeo (h _)))))))
def KU{prog:Program}{w:World}{A:Around}{E:Value->Shared->Prop}{s:Shared}{K:Frag}{x:Addr}{C:Addr}{a:Obj}{j:List Value}{a_:Str}{v:Value}{Q:Unit->Shared->Prop}(X:K.In s.heap)(g:s.heap.get? x=some a)(l:a.cls=.ref C)(m:a.dict=none)(p:∃i,a.data=.fields i)(c:Y7 K C j)(f:ky j)(r:findIn K (.ref C) a_=some none)
  (h:∀d tk,d.get? x=some {a with dict:=some s.heap.objs.size}->d.Ns1 s.heap.objs.size (λy=>if y=a_ then some v else none)->
   (∀b o,b≠x->s.heap.get? b=some o->d.get? b=some o)->Q () {s with heap:=d,toks:=tk}):
  wpAny (model prog w) A (setAttr (.ref x) a_ v) Q E s:=by
 obtain⟨i,j⟩:=p;obtain⟨_,_,_,p⟩:=a
 try dsimp only at l m j
 subst l m j;have I:InstAt s.heap x ⟨.ref C,none,.fields i,p⟩ C none:=⟨g,rfl,rfl,trivial⟩;refine set_plain X I c.sa (MW X I c f r λb=>?_);obtain⟨_,a,j⟩:=any_some c.hd;refine zen (zeo (zen (zen (wpAny_loadPart g (zen (Looks.here (looks_clsIn X a) ?_))))));rw[j];have a:=tO (tJ g);have j:=tm zbg g;refine zen (wpAny_alloc (zen (wpAny_update j ?_)));generalize g:(s.heap.push emptyDict).update x (λo=>{o with dict:=some s.heap.objs.size})=l;have m:l.get? x=some ⟨.ref C,some s.heap.objs.size,.fields i,p⟩:=by rw[<-g];exact zaD _ j rfl
 have i:∀b o,b≠x->(s.heap.push emptyDict).get? b=some o->l.get? b=some o:=λb o f e=>by rwa [<-g,zag _ _ (Ne.symm f)]
 have g:(s.heap.push emptyDict).Ns s.heap.objs.size (λ_=>none):=⟨emptyDict,#[],_,tR s.heap rfl,rfl,(λe j=>absurd j (by simp)),λ_=>rfl⟩;refine zeo (zen (zeo (zen (wpAny_nsSet1 ((Heap.Ns1.of_empty g).at λo q=>i _ o (Ne.symm a) q) λd g j=>?_))));obtain⟨_,_,_,l,p,r⟩:=g.count (PySem.Within.cons a_ v PySem.Within.nil);refine zen (wpAny_lookBehind l (by rw[p];exact pastItsLine_dict (t8 r (by show 1<=zeq+1;decide))) ?_);exact zeo (h d (s.toks+1+1) ((j.2 x a).trans m) g λb o f e=>(j.2 b (tO (tJ e))).trans (i b o f (tm _ e)))
def xx{prog:Program}{w:World}{A:Around}{E:Value->Shared->Prop}{s:Shared}{K:Frag}{x:Addr}{C:Addr}{d:Obj}{e:Option Obj}{g:List Value}{a_:Str}{g8 fU:Bool}{tk:Tok}{Q:Value->Shared->Prop}(X:K.In s.heap)(I:InstAt s.heap x d C e)(c:Y7 K C g)
  (h:wpAny (model prog w) A.in1 (Builtin.«object.__getattribute__» ⟨[.ref x,.str a_ tk],[]⟩) (λft a=>match ft with | .done (.ret u)=>handedIn u=true/\Q u a | _=>False) (λ_ _=>False) s):
  wpAny (model prog w) A (getAttrBy (.ref x) (.str a_ tk) g8 fU) Q E s:=by
 have b:=PySem.F.attr_ValueError.ga;unfold getAttrBy;refine wpAny_holding (zen (I.type.here (zen ((looks_findIn X c.ga).here ?_))))
 try dsimp only
 have i:(Value.builtin "BaseException.__getattribute__"==Value.builtin "object.__getattribute__")=false:=by decide+kernel
 rw[if_neg (by rw[i,Bool.and_false];decide)];unfold getAttrByItsOwn;refine zen (show wpAny _ _ (hookBefore (.ref C)) _ _ _ from(looks_findIn X c.gt).here (zen (wpAny_attempt (wpAny_holding ?_))));unfold callGetattribute;have j:(fU&&onTheHeap (Value.builtin "BaseException.__getattribute__"))=false:=by cases fU<;>rfl
 rw[if_neg (by rw[j];decide)];unfold boundAndCalled;rw[b.bind];refine zen (zeo (wpAny_call (codeAny_call_builtin b.plain PySem.F.entry_bexc_ga
  (@check_slot (model prog w) _ _ s "BaseException.__getattribute__" "BaseException" "__getattribute__" (.ref x) [.str a_ tk] [] _ (by decide+kernel) (by decide+kernel) (I.type.andThen (looks_mroIn X c.mb)) (PySem.F.args_bexc_ga _ _) ?_))))
 refine wpAny_mono h (λft a z=>?_) λ_ _ z=>z.elim;cases ft with
 | again m=>exact z.elim
 | done f=>
  cases f with
  | next=>exact z.elim
  | brk=>exact z.elim
  | cont=>exact z.elim
  | ret u=>
   obtain⟨l,q⟩:=z;show wpAny _ _ (handedOut u) _ _ _;rw[handedOut_of l];exact zeo q
def AE{prog:Program}{w:World}{A:Around}{E:Value->Shared->Prop}{s:Shared}{K:Frag}{x:Addr}{C:Addr}{a:Obj}{b:List Value}{a_:Str}{v:Value}{fU:Bool}{Q:Value->Shared->Prop}{gE:Obj}(X:K.In s.heap)(I:InstAt s.heap x a C (some gE))(c:Y7 K C b)(d:findIn K (.ref C) a_=some none)(e:lookIn a_ gE=some (some v))(f:handedIn v=true)
  (h:Q v {s with toks:=s.toks+1}):wpAny (model prog w) A (getAttr (.ref x) a_ fU) Q E s:=by
 unfold getAttr;refine zen (wpAny_mkText (xx X I c ?_));unfold Builtin.«object.__getattribute__»;exact zen (zeo (zen (zeo (zen (Looks.here I.type (zen (Looks.here (looks_find (M:=model prog w) X I (findObj_own c.hd d rfl e)) (zeo ⟨f,h⟩))))))))
open PySem PySem.W Builtin Builtin.ObjectAttr
open PyProof.Rows hiding K lo
def RK{K:Frag}{x:Addr}{C:Addr}{f:Obj}{gE:Obj}{g:List Value}(c:Y7 K C g)(i:specialIn K (.builtin "object.__class__") "__get__"=some (some (.builtin "getset_descriptor.__get__")))(j:takesIn K (.builtin "object.__class__")=some true):
  KitX K (.ref x) (.ref C) (λh=>InstAt h x f C (some gE)) where
 ty:=λ_ _ _ I=>I.type
 it:=λ_ _ X _=>by
  obtain⟨d,a,_⟩:=any_some c.hd;unfold clsIn at a;split at a
  ·rename_i _ _ _ _ b;intro p r u y k q;unfold isType loadHead;exact zen (wpAny_loadPart (k _ _ (X _ _ b)) (zeo q))
  ·cases a
 ne:=λh z B D n H X l=>by
  obtain⟨d,a,_⟩:=any_some c.hd;refine Bool.eq_false_iff.mpr λq=>?_;have e:=Value.ref.inj (beq_iff_eq.mp q);subst e;unfold clsIn at a;split at a
  ·rename_i _ _ _ _ b;cases ((X _ _ b).symm.trans l)
  ·cases a
 ca:=λ{prog w A E Q s} X I k=>by
  have m:findObj K C (some gE) "__class__"=some (.bind (.builtin "getset_descriptor.__get__") (.builtin "object.__class__")):=
   findObj_data (by obtain⟨d,o,_⟩:=any_some c.hd;rw[o];rfl) c.cl i j
  unfold getAttr? getAttrBy?;refine zen (wpAny_mkText (zen (wpAny_attempt (xx X I c ?_))));unfold Builtin.«object.__getattribute__»;refine zen (zeo (zen (zeo (zen (Looks.here I.type (zen (Looks.here (looks_find X I m) ?_)))))))
  try dsimp only
  unfold bindTo
  try dsimp only
  exact zen (wpAny_holding (wpAny_call (class_get X I c.mo (zeo ⟨rfl,zeo k⟩))))
open PyProof.Rows hiding K lo
def Y4(e C:Addr):HO:=.ext λh=>∃a,h.get? e=some {cls:=.ref C,data:=.fields a}/\a[1]?=some Value.none
def Qh(e C b:Addr)(hd:Value):HO:=.ext λh=>∃a,h.get? e=some {cls:=.ref C,dict:=some b,data:=.fields a}/\a[1]?=some hd
abbrev Zt(e C a:Addr):HO:=Qh e C a .none
def JD:List Value:=[.type "ValueError",.type "Exception",.type "BaseException",.type "object"]
structure Hj(K:zel)(C f:Addr)(bm:List Value):Prop where
 obj:∃nm q N bs gn sn sub ab g_ dd k0 k1 k2 k3 k5,K.lookup C=some (excClassObj nm q C N bs bm gn sn sub ab g_ dd k0 k1 k2 k3 k5 "ValueError.__new__")
 tail:∀h:Heap,K.In h->OwnTail h JD bm
 init:zaa K (.ref C) "__init__"=some (some (.ref f))
 fn:zby K (.ref f)=true
 kp:zaw K (.ref C)=true
def AK{h:Heap}(b:∃a,h.get? e=some {cls:=.ref C,data:=.fields a}/\a[1]?=some Value.none):qH P w H h e (Y4 e C):=by
 obtain⟨a,q,z⟩:=b;exact⟨⟨a,q,z⟩,⟨_,q⟩,λ_ _ ⟨a,b,d⟩ k=>⟨a,k _ b,d⟩⟩
def Zs{h:Heap}(b:∃a,h.get? e=some {cls:=.ref C,dict:=some d,data:=.fields a}/\a[1]?=some hd):qH P w H h e (Qh e C d hd):=by
 obtain⟨a,q,z⟩:=b;exact⟨⟨a,q,z⟩,⟨_,q⟩,λ_ _ ⟨a,b,d⟩ k=>⟨a,k _ b,d⟩⟩
def qw.excSet{g:Heap}{fs:List (Str×V)}(I:qw X p r H s)(j:H e=some (Y4 e C))(hd:s.heap.objs.size<=a)(l:∃d,g.get? e=some {cls:=.ref C,dict:=some a,data:=.fields d}/\d[1]?=some Value.none)(x:∃i,g.Ns1 a i/\∀f,ZE (fs.lookup f) (i f))(k:∀b o,b≠e->s.heap.get? b=some o->g.get? b=some o):qw X p r (upd (upd H e (Zt e C a)) a (.xd fs)) {s with heap:=g,toks:=t'}:=by
 have p:Eg (H e):=j▸trivial;have r:∃u,g.get? e=some u:=let ⟨_,q,_⟩:=l;⟨_,q⟩;have i:=I.hok.fresh hd;have d:Un X.fs [] H (upd H e (Zt e C a)) s.heap g:=Un.write p (.inl rfl) k r;have g:(upd H e (Zt e C a)) a=none:=by rw[qf (λz=>by rw[z,j]at i;cases i)];exact i
 refine I.un ⟨d.keep,d.slot,λb o q n j=>?_,d.there,λb i q=>?_,λb o z q=>?_,λb y q=>?_⟩ λb o q=>?_
 ·rw[qf ((λb o q=>tO (tI (tJ q) hd)) b o q)];exact d.free b o q n j
 ·have:=d.tups b i q;rwa [qf (qm this g)]
 ·have:=d.frzs b o z q;rwa [qf (qm this g)]
 ·obtain⟨m,j⟩:=d.tbls b y q;exact⟨m,by rwa [qf (qm j g)]⟩
 ·by_cases d:b=a
  ·subst d;rw[qc]at q;cases q;exact x
  ·rw[qf d]at q;exact((I.hok.write p (.inl rfl) k r (Zs l)) b o q).stay (λ_ _ _ z=>z) (λc z=>by rwa [qf (qm z g)]) (λc i z=>by rwa [qf (qm z g)]) (λc o z=>by rwa [qf (qm z g)])
def we{Q:Unit->Shared->Prop}(I:qw X g i H s)(b:H e=some (Y4 e C))(c:Y7 X.K C j)(l:ky j)(n:Ql X.K C f)(m:qU y u)(h:∀a d,H a=none->qw X g i (upd (upd H e (Zt e C a)) a (.xd [(f,y)])) d->Q () d):wpAny (model X.prog X.w) A (setAttr (.ref e) f u) Q E s:=by
 obtain⟨⟨a,d,g⟩,_,_⟩:=(show qH X.prog X.w H s.heap e (Y4 e C) from I.hok e _ b);refine KU I.kIn d rfl rfl ⟨a,rfl⟩ c l n λ_ tk d i j=>h s.heap.objs.size _ (I.hok.fresh (tp _)) (I.excSet b (tp _) ⟨a,d,g⟩ ⟨_,i,λb=>?_⟩ j);by_cases a:b=f
 ·subst a;rw[zaA];simp only[beq_self_eq_true,if_true];exact m
 ·have b:=beq_eq_false_iff_ne.mpr a;rw[zaA];simp only[b,a,if_false];exact trivial
def uz{Q:Value->Shared->Prop}(I:qw X g i H s)(j:H e=some (Qh e C a hd))(m:H a=some (.xd fs))(c:Y7 X.K C o)(n:Ql X.K C f)(l:fs.lookup f=some v)(h:∀u d,qw X g i H d->qU v u->Q u d):wpAny (model X.prog X.w) A (getAttr (.ref e) f b) Q E s:=by
 obtain⟨⟨_,g,_⟩,_,_⟩:=(show qH X.prog X.w H s.heap e (Qh e C a hd) from I.hok e _ j);obtain⟨_,d,hr⟩:=(show qH X.prog X.w H s.heap a (.xd fs) from I.hok a _ m);obtain⟨_,i,j⟩:=YC d;have a:=hr f;rw[l]at a;obtain⟨u,m,d⟩:=ZE.some_of a;exact AE I.kIn ⟨g,rfl,rfl,i⟩ c n (by rw[j,m]) (Vk d) (h u _ (I.tok _) d)
def RY{Q:Value->Shared->Prop}(I:qw X m o H s)(d:H e=some (Qh e C a hd))(f:H a=some (.xd fs))(c:Y7 X.K C p)(g:zbW X.K (.builtin "object.__class__") "__get__"=some (some (.builtin "getset_descriptor.__get__")))(i:zcp X.K (.builtin "object.__class__")=some true)(j:tZ X.K (.ref C) l=some b)(h:∀tk,Q (.bool b) {s with toks:=tk}):wpAny (model X.prog X.w) A (call (.builtin "isinstance") [.ref e,l]) Q E s:=by
 obtain⟨⟨_,l,_⟩,_,_⟩:=(show qH X.prog X.w H s.heap e (Qh e C a hd) from I.hok e _ d);obtain⟨_,d,hr⟩:=(show qH X.prog X.w H s.heap a (.xd fs) from I.hok a _ f);obtain⟨_,a,_⟩:=YC d;exact zaN (RK c g i) I.kIn ⟨l,rfl,rfl,a⟩ j (λz=>nomatch z) h
open PyProof.Rows hiding K lo
inductive Bx(K:zel)(bm:List Value)(f:Str)(D:QN)(σ:St)(y:V)(x:V)(H2:Hp):Prop
 | mk (a:_) (C:_):x=.ref a->H2 a=some (Y4 a C)->Y7 K C bm->ky bm->Ql K C f->(∀dx,H2 dx=none->D.nx σ (upd (upd H2 a (Zt a C dx)) dx (.xd [(f,y)])))->Bx K bm f D σ y x H2
def IA(K:zel)(b:List Value)(d e:TE)(f:Str):TS:=λD a H=>e a H λy e=>d a e λx d=>Bx K b f D a y x d
def V7{pos:Pos}(e:JE X o b)(g:JE X fq d)(hs:swapsWith fq (some (.Attribute o f i)) pos.line X.env=pure false):JS X (.Assign [.Attribute o f i] fq pos) (IA X.K j b d f):=.of (by
 refine λd s b H D I h=>plainObj_wpAny_Assign_Attribute (jn (g.to d s b H _ I h) λu g ⟨y,i,j,l,q⟩=>
  jn (e.to d g b i _ j q) λd _ ⟨x,_,e,g,a,_,i,j,c,m,n,p⟩=>?_) hs
 subst i;obtain rfl:d=Value.ref a:=g;exact we e j c m n l λd _ e g=>⟨b,_,g,p d e⟩)
def wp{X:Cx}{Q:VK}(M:Hj X.K C B bm)(F:qp X.prog X.w X.K X.mg X.base D k B J ps L)(hr:ji (k+1) X.A)(O:jy X.K J ps [])(T:jY D X E)(I:qw X i j H s)(r:qP vs us)(U:us.length<=zeq)(h:∀x,H x=none->L (.ref x::vs) (upd H x (Y4 x C)) (λv Y=>v=.non/\Q (.ref x) Y) E):
  wpAny (model X.prog X.w) X.A (call (.ref C) us) (EP X i j Q) X.xe s:=by
 obtain⟨nm,q,N,bs,ae,sn,sub,ab,af,dd,k0,k1,k2,k3,k5,hC⟩:=M.obj;obtain⟨oI,ho,aa⟩:=zbz.mp (beq_iff_eq.mp M.fn);have f:=I.kIn;obtain⟨hp,ac,d,tk,os⟩:=s;refine uI zdd (by decide+kernel) zdd (M.tail _ f) (f _ _ hC) (zdF f M.init) (f _ _ ho) aa (λh' a l m=>?_) U;obtain⟨t0,ht,_,_⟩:=m.there;have g:=I.laid (t':=tk) m.keeps l (AK ⟨_,ht,rfl⟩);have o:=h a (I.hok.fresh l);have p:qP (V.ref a::vs) (Value.ref a::us):=.cons rfl r;have hl:(Value.ref a::us++[]).length=ps.length:=by
  have e:=p.length;rw[F.len _ _ _ _ o]at e;rw[zaj];exact e.symm
 have y:=O ⟨h',ac,d,tk,os⟩ (Value.ref a::us) g.kIn hl;rw[zaj]at y;refine wpAny_call (codeAny_mono (F.run _ X.stack _ _ ⟨Value.ref a::us,[]⟩ (Value.ref a::us) _ _ E (hr.make C us []) (g.env0.make C us []) y p o) λr s' b=>?_);cases r with
 | error z=>exact T i j _ _ z s' g b
 | ok fl=>
  cases fl with
  | ret u=>
   obtain⟨v,H',I3,rv,ev,q3⟩:=g.after b;subst ev;exact⟨rv,⟨V.ref a,H',I3,rfl,q3⟩⟩
  | next=>exact False.elim b
  | brk=>exact False.elim b
  | cont=>exact False.elim b
def ZS{X:Cx}(M:Hj X.K C g T)(F:qp X.prog X.w X.K X.mg X.base i k g j ps l)(hr:ji (k+1) X.A)(m:Gl X x)(o:X.mg x=some (.ref C))(u:jy X.K j ps [])(y:jY i X E)(z:JA X (e::a) t)(U:(e::a).length<=1000:=by decide)(B:∀vs us,qP vs us->vs.length<=zeq->us.length<=zeq:=by intro vs us r h;rw[<-r.length];exact h)(D:(x==("__debug__":Str))=false:=by decide)(J:starEach (e::a) X.env=(false,eval e X.env)::starEach a X.env:=by rfl)(L:(backTo pos (starEach a X.env)).any (·.1)=false:=by rfl):JE X (.Call (.Name x p) (e::a) [] pos) (λb H Q=>t b H λvs d=>vs.length<=zeq/\∀x,d x=none->l (.ref x::vs) (upd d x (Y4 x C)) (λv O=>v=.non/\Q (.ref x) O) E):=.of (by
 refine λa s b H Q I h=>wpAny_Call_Name_kw (z4 I m o (zbm (h₀:=X.base) I.ok.mod.kin M.kp (jn (z.to pos a s b H _ I h) λus _ ⟨vs,d,f,r,q⟩=>⟨f.kIn,?_⟩) J L) D);exact wp M F hr u y f r (B vs us r q.1) q.2)
open PyProof.Rows hiding K lo
mutual
inductive DV(K:zel)(H:Hp):V->PyData->Prop
 | non:DV K H .non .none
 | bl (b:Bool):DV K H (.bl b) (.bool b)
 | int (i:Int):DV K H (.int i) (.int i)
 | str (x:Str):DV K H (.str x) (.str x)
 | lst {a:Addr} {xs:List V} {ds:List PyData}:SqL K H a xs->DVs K H xs ds->DV K H (.ref a) (.list ds)
 | tup {a:Addr} {xs:List V} {ds:List PyData}:SqT K H a xs->DVs K H xs ds->DV K H (.ref a) (.tuple ds)
inductive DVs(K:zel)(H:Hp):List V->List PyData->Prop
 | nil:DVs K H [] []
 | cons {x:V} {xs:List V} {d:PyData} {ds:List PyData}:DV K H x d->DVs K H xs ds->DVs K H (x::xs) (d::ds)
end
mutual
def DV.reads{X:Cx}{f:List (Addr×Obj)}{g:St}{H:Hp}{s:Shared}(I:qw X f g H s):∀{x:V} {d:PyData},DV X.K H x d->∀{u:Value},qU x u->∃as,Reads s.heap u d as
 | _,_,.non,u,f=>by cases (show u=Value.none from f);exact⟨_,.none⟩
 | _,_,.bl b,u,f=>by cases (show u=Value.bool b from f);exact⟨_,.bool b⟩
 | _,_,.int i,u,f=>by obtain⟨t,q⟩:=(show ∃t,u=Value.int i t from f);subst q;exact⟨_,.int i t⟩
 | _,_,.str x,u,f=>by obtain⟨t,q⟩:=(show ∃t,u=Value.str x t from f);subst q;exact⟨_,.str x t⟩
 | _,_,.lst (a:=a) g j,u,f=>by
  cases (show u=Value.ref a from f);obtain⟨r,l,⟨y,n,e,m,hd,o⟩,z⟩:=I.list g;obtain⟨as,p⟩:=DVs.reads I j l;exact⟨_,.list e m o (by simpa using p)⟩
 | _,_,.tup (a:=a) g j,u,f=>by
  cases (show u=Value.ref a from f);obtain⟨r,l,⟨y,e,m,n,o⟩,z⟩:=I.tuple g;obtain⟨as,p⟩:=DVs.reads I j l;exact⟨_,.tuple e m o (by simpa using p)⟩
def DVs.reads{X:Cx}{e:List (Addr×Obj)}{f:St}{H:Hp}{s:Shared}(I:qw X e f H s):∀{xs:List V} {d:List PyData},DVs X.K H xs d->∀{us:List Value},qP xs us->∃as,ReadsAll s.heap us d as
 | _,_,.nil,_,.nil=>⟨_,.nil⟩
 | _,_,.cons h d,_,.cons e f=>by
  obtain⟨as,a⟩:=DV.reads I h e;obtain⟨bs,b⟩:=DVs.reads I d f;exact⟨_,.cons a b⟩
end
open PyProof.Rows hiding K lo
open PyProof.Rows hiding K lo
inductive BJ(K:zel)(k:Bool)(x:V)(y:V)(H:Hp)(Q:VK):Prop
 | mk (d:_):DV K H x d->DV K H y d->PySem.SeqAt.shaped d=true->(Q (.bl k) H)->BJ K k x y H Q
def CW(K:zel)(k:Bool):R2:=λx y H Q=>BJ K k x y H Q
def Wo(h:PySem.SeqAt.shaped d=true):PyData.eqv d d=true:=PySem.SeqAt.eqv_refl d (PySem.SeqAt.canLay_of_shaped h)
def C5{X:Cx}(hu:X.A.units+64 < cLine):JN X (compareOp .Eq) (CW X.K true):=by
 intro _ s _ H x y v u Q I b e h;obtain⟨d,f,g,a,q⟩:=h;obtain⟨as,i⟩:=f.reads I b;obtain⟨bs,b⟩:=g.reads I e;refine eq_dataH i b a a hu ?_;rw[Wo a];exact⟨.bl true,H,I,rfl,q⟩
def GR{X:Cx}(hu:X.A.units+64 < cLine):JN X (compareOp .NotEq) (CW X.K false):=by
 intro _ s _ H x y v u Q I b e h;obtain⟨d,f,g,a,q⟩:=h;obtain⟨as,i⟩:=f.reads I b;obtain⟨bs,b⟩:=g.reads I e;refine ne_dataH i b a a hu ?_;rw[Wo a];exact⟨.bl false,H,I,rfl,q⟩
def Hq(i j:Int):Prop:=0 < j/\j.natAbs < 2^200
def GV:JN X (binaryOp .FloorDiv) (rI Hq λi j=>.int (i / j)):=C6 λi j _ _ _ _ _ a q=>by
 have b:=a.1;exact floordiv_int (by omega) (by rwa [zbZ i (by omega)]) (.inl (PyProof.noPylong_of_log2 (zeb ((Nat.log2_lt (by omega)).mpr a.2) (by decide))))
def uc:Ev X "int.bit_length" (λx xs H Q=>∃i,x=.int i/\xs=[]/\Q (.int (Builtin.Int.intBits i)) H):=by
 intro _ s _ H x xs v _ Q I a b h;obtain⟨i,rfl,rfl,q⟩:=h;obtain⟨t,rfl⟩:=a;cases b;exact call_int_bit_length ⟨.int _,H,I.tok _,⟨_,rfl⟩,q⟩
end L2
namespace PySem
def XQ(x n c:Int):Obj:={cls:=.type "range_iterator",data:=.fields #[rawInt x,rawInt n,rawInt c]}
def y8(n:Nat):Builtin.Range.rangeSize 0 n 1=n:=by
 unfold Builtin.Range.rangeSize;rw[if_pos (by decide)];split<;>omega
def Ws{s:Shared}{Q:Value->Shared->Prop}(hr:IsRange s.heap r a b c t u v)(hs:(Builtin.Range.rangeFitsLong a&&Builtin.Range.rangeFitsLong b&&Builtin.Range.rangeFitsLong c&&Builtin.Range.rangeFitsLong (-c)&&Builtin.Range.rangeFitsLong (a - c)&&Builtin.Range.rangeFitsLong (Builtin.Range.rangeSize a b c))=true)(h:Q (.ref s.heap.objs.size) {s with heap:=s.heap.push (XQ (a+(Builtin.Range.rangeSize a b c - 1)*c) (Builtin.Range.rangeSize a b c) (-c))}):wpAny (model prog w) A (call (.builtin "range.__reversed__") [.ref r]) Q E s:=by
 refine wpAny_call_entry F.slot_range_reversed ⟨_,hr,rfl⟩ F.entry_range_reversed ?_ (F.args_range_reversed_1 _);unfold Builtin.«range.__reversed__»;refine zen (wpAny_of_eq rfl (zen ?_));unfold Builtin.Range.rangeFields;refine zen (wpAny_field hr rfl (x:=.int a t) rfl (zen (m:=asInt? (.int a t)) (zeo (zen (wpAny_field hr rfl (x:=.int b u) rfl (zen (m:=asInt? (.int b u)) (zeo ?_)))))));refine zen (wpAny_field hr rfl (x:=.int c v) rfl (zen (m:=asInt? (.int c v)) (zeo (zeo ?_))))
 try dsimp only
 rw[hs];simp only[Bool.not_true,zaR,if_false,if_true]
 first
 | refine zen (wpAny_newObj_type (zeo ⟨_,rfl,h⟩))
 | refine zen (zeo (zen (wpAny_newObj_type (zeo ⟨_,rfl,h⟩))))
def zf{prog:Program}{w:World}{A:Around}{E:Value->Shared->Prop}{s:Shared}{r:Addr}{n:Nat}{t u v:Tok}{Q:Value->Shared->Prop}(hr:IsRange s.heap r 0 n 1 t u v)(a:n < 1048576)
  (h:Q (.ref s.heap.objs.size) {s with heap:=s.heap.push (XQ ((n:Int) - 1) n (-1))}):wpAny (model prog w) A (call (.builtin "range.__reversed__") [.ref r]) Q E s:=by
 have f:∀x:Int,-2000000<=x->x<=2000000->Builtin.Range.rangeFitsLong x=true:=λx _ q=>by
  unfold Builtin.Range.rangeFitsLong;simp;omega
 have e:=y8 n;have a:(Builtin.Range.rangeFitsLong 0&&Builtin.Range.rangeFitsLong (n:Int)&&Builtin.Range.rangeFitsLong 1&&Builtin.Range.rangeFitsLong (-1)&&Builtin.Range.rangeFitsLong (0 - 1)&&Builtin.Range.rangeFitsLong (Builtin.Range.rangeSize 0 n 1))=true:=by
  rw[e,f 0 (by omega) (by omega),f n (by omega) (by omega),f 1 (by omega) (by omega),f (-1) (by omega) (by omega),f (0 - 1) (by omega) (by omega)];rfl
 refine Ws hr a ?_;have a:(0:Int)+(Builtin.Range.rangeSize 0 n 1 - 1)*1=(n:Int) - 1:=by rw[e];omega
 rw[a,e];exact h
def zF{prog:Program}{w:World}{A:Around}{E:Value->Shared->Prop}{s:Shared}{r:Addr}{n:Nat}{t u v:Tok}{Q₁:Value->Shared->Prop}(hr:IsRange s.heap r 0 n 1 t u v)(a:n < 1048576)
  (h:Q₁ (.ref s.heap.objs.size) {s with heap:=s.heap.push (XQ ((n:Int) - 1) n (-1))}):
  codeAny (model prog w) A (.call (.builtin "reversed.__new__") ⟨[.type "reversed",.ref r],[]⟩) (wants Q₁ E) s:=by
 have b:¬((Value.builtin "range.__reversed__"==Value.none)=true):=tK;refine codeAny_of_tree (show wpAny _ A.in1 (checkBuiltinCall "reversed.__new__" ⟨[.type "reversed",.ref r],[]⟩ >>= λ_=>again (.builtin "reversed.__new__" ⟨[.type "reversed",.ref r],[]⟩)) _ _ s from
  zen (wpAny_of_eq (F.newCall_reversed_1 (.ref r)) (zeo ⟨plainId_quiet F.plain_reversed_new _,codeAny_builtin F.entry_reversed_new ?_⟩)))
 rw[Around.under_plainId F.plain_reversed_new _];unfold Builtin.«reversed.__new__»;refine zen (wpAny_of_eq (newClass_reversed (.ref r)) ?_);dsimp only;refine zen (wpAny_of_eq (a:=()) (by kernel_rfl) (zen (wpAny_of_eq (a:=()) (by kernel_rfl) ?_)));try dsimp only
 refine zen (wpAny_specialOf ⟨_,hr,rfl⟩ F.slot_range_reversed.lookup ?_);dsimp only;refine zen (wpAny_of_eq (F.slot_range_reversed.bind _) ?_);dsimp only;rw[if_neg b];refine zen (wpAny_rule (zen (show wpAny _ _ (call (.builtin "range.__reversed__") [.ref r]) _ _ _ from zf hr a ?_)))
 first | exact zeo h | exact zen (zeo (zeo h))
def Y0:isSubtype (.type "range_iterator") (.type "reversed")=pure false:=by rw[isSubtype_type];kernel_rfl
def ze{prog:Program}{w:World}{A:Around}{E:Value->Shared->Prop}{s:Shared}{r:Addr}{n:Nat}{t u v:Tok}{Q:Value->Shared->Prop}(hr:IsRange s.heap r 0 n 1 t u v)(b:n < 1048576)
  (h:Q (.ref s.heap.objs.size) {s with heap:=s.heap.push (XQ ((n:Int) - 1) n (-1))}):wpAny (model prog w) A (call (.type "reversed") [.ref r]) Q E s:=by
 refine callType_other (Q₁:=λobj a=>obj=.ref s.heap.objs.size/\a={s with heap:=s.heap.push (XQ ((n:Int) - 1) n (-1))}) (by decide+kernel) F.create_reversed ⟨_,_,F.mro_reversed⟩ F.made_reversed Y0 (F.typeCall_reversed_1 _) (zF hr b ⟨rfl,rfl⟩) ?_;rintro obj a ⟨rfl,rfl⟩;exact⟨⟨_,tR _ rfl,rfl⟩,h⟩
def Uj{s:Shared}{Q:Value->Shared->Prop}(fV:IsRangeIter s.heap I x left c)(h:Q (.int left s.toks) {s with toks:=s.toks+1}):
  wpAny (model prog w) A (call (.builtin "range_iterator.__length_hint__") [.ref I]) Q E s:=by
 refine wpAny_call_entry F.slot_range_iterator_length_hint ⟨_,fV,rfl⟩ F.entry_range_iterator_length_hint ?_ (F.args_range_iterator_length_hint_1 _);unfold Builtin.«range_iterator.__length_hint__»;refine zen (wpAny_of_eq rfl (zen (wpAny_field fV rfl rfl ?_)));show wpAny _ _ (do ret (<-mkInt left)) _ _ _;exact wpAny_ret_mkInt h
structure k6(P:Program)(w:World)(T:String)(I:Addr)(fp:List Addr)(n:Nat)(V:Nat->Value->Prop)(St:Nat->Heap->Prop):Prop where
 ty:∀z:Shared,St 0 z.heap->z.TypeIs (.ref I) T
 nl:(Value.type T==Value.type "list")=false
 nt:(Value.type T==Value.type "tuple")=false
 walk:∀B:Around,B.handled=none->Walks P w B I fp [I] n V St
 hint:∀(B:Around) (F:Value->Shared->Prop) (z:Shared) (R:Bool->Shared->Prop),St 0 z.heap->(∀k,R false {z with toks:=k})->wpAny (model P w) B (Builtin.List.listLengthHint (.ref I)) R F z
def k6.list(a:k6 P w T I fp n V St){B:Around}{z:Shared}{R:Value->Shared->Prop}(i:B.handled=none)(st:St 0 z.heap)(mem:I∈fp)(old:∀b∈fp,b < z.heap.objs.size)(d:n<=1048576)(k:∀g tk xs c,(∀b o,b≠I->z.heap.get? b=some o->g.get? b=some o)->g.get? z.heap.objs.size=some (⟨.type "list",none,.seq xs c,#[]⟩:Obj)->ItemsOf V xs n->R (.ref z.heap.objs.size) {z with heap:=g,toks:=tk}):
  wpAny (model P w) B (call (.type "list") [.ref I]) R p z:=by
 have m:∀b∈fp,z.heap.objs.size≠b:=λb d=>zbL (old b d);have r:Builtin.List.listSameRef (.ref z.heap.objs.size) (.ref I)=false:=by unfold Builtin.List.listSameRef;simp [m I mem]
 refine callType_codes (Q₁:=λf j=>j={z with heap:=z.heap.push {cls:=.type "list",data:=.seq #[]}}/\f=.ref z.heap.objs.size) F.called_list (F.typeCall_list_1 _) F.entry_list_init (code_list_new _ ⟨rfl,rfl⟩) ?_;rintro f j ⟨rfl,rfl⟩;have f:=tR z.heap (o:=({cls:=.type "list",data:=.seq #[]}:Obj)) rfl;refine⟨⟨_,f,rfl⟩,F.args_list_init_2 _ _,?_⟩;show wpAny _ _ (Builtin.List.listItems (.ref _) >>= λj=>Builtin.List.listUpdate (.ref _) (λ_=>#[]) >>= λ_=>letGo j.toList.reverse >>= λ_=>Builtin.List.listExtendWith (.ref _) (.ref I) .none) _ _ _;refine zen (show wpAny _ _ (Builtin.List.listItems (.ref _)) _ _ _ from ?_);unfold Builtin.List.listItems;refine zen (wpAny_seqItems f rfl (zeo (zen (wpAny_updateSeq f rfl (zen (wpAny_letGo ?_))))));have j:=zaD (Obj.mapSeq (λ_=>(#[]:Array Value))) f rfl;have l:∀b o,z.heap.get? b=some o->((z.heap.push {cls:=.type "list",data:=.seq #[]}).update z.heap.objs.size (Obj.mapSeq (λ_=>(#[]:Array Value)))).get? b=some o:=λb o e=>
  (zag _ _ (zbL (tJ e))).trans (tm _ e)
 generalize f:(z.heap.push {cls:=.type "list",data:=.seq #[]}).update z.heap.objs.size (Obj.mapSeq (λ_=>(#[]:Array Value)))=g1 at j l;have f:=(a.walk B i).frame 0 _ _ st λb _ o e=>l b o e;unfold Builtin.List.listExtendWith;refine zen (wpAny_typeOf (a.ty {z with heap:=g1} f) ?_);simp only[r,a.nl,a.nt,Bool.or_false,zaR,if_false];refine zen ((a.walk B.in1.in1 i).self 0 {z with heap:=g1} _ _ f (zen (wpAny_holding (a.hint B.in1.in1 _ {z with heap:=g1} _ f λtk=>?_))));have run:∀(g:Heap) (c tk:Nat),St 0 g->(∀b o,z.heap.get? b=some o->g.get? b=some o)->g.get? z.heap.objs.size=some {cls:=.type "list",data:=.seq #[] c}->
   codeAny (model P w) B.in1 (.builtin "list.extend.loop" ⟨[.ref z.heap.objs.size,.ref I,.none],[]⟩) (wants (λr u=>r=.none/\R (.ref z.heap.objs.size) u) p) {z with heap:=g,toks:=tk}:=λg c tk p r u=>
  codeAny_extend_loopS (a.walk B.in1.in1 i).toS (by rw[sizeLine_eq];omega) _ (λq=>m _ q rfl) .none n 0 _ #[] c rfl (zao _) p u (ItemsOf.nil _) λp xs u mv x y=>by
   rw[Moved.eq_with mv];refine⟨rfl,k p.heap p.toks xs u (λb o d e=>mv.heap b o (λq=>?_) (r b o e)) x y⟩;rcases tH.mp q with q | q
   ·exact absurd q (tO (tJ e))
   ·exact d (tM.mp q)
 refine wpAny_ite_split (λ_=>zen (wpAny_rule (zen (show wpAny _ _ (updateSeq z.heap.objs.size (·.push .none) >>= λ_=>updateSeq z.heap.objs.size (·.pop)) _ _ _ from zen (wpAny_updateSeq j rfl ?_))))) (λ_=>zeo ⟨plainId_quiet F.plain_extend_loop _,run g1 _ tk f l j⟩);have p:=zaD (Obj.mapSeq (·.push Value.none)) j rfl;refine wpAny_updateSeq p rfl ?_;have j:∀b o,b≠z.heap.objs.size->g1.get? b=some o->((g1.update z.heap.objs.size (Obj.mapSeq (·.push Value.none))).update z.heap.objs.size (Obj.mapSeq (·.pop))).get? b=some o:=λb o d e=>
  (zag _ _ (Ne.symm d)).trans ((zag _ _ (Ne.symm d)).trans e)
 exact zeo ⟨plainId_quiet F.plain_extend_loop _,run _ _ tk ((a.walk B i).frame 0 _ _ f λb d o e=>j b o (λq=>m b d q.symm) e) (λb o e=>j b o (tO (tJ e)) (l b o e)) (zaD (Obj.mapSeq (·.pop)) p rfl)⟩
def wg(hn:n<=1048576):k6 P w "range_iterator" I [I] n (λi v=>∃t,v=.int (x+i*c) t) (λi h=>IsRangeIter h I (x+(i:Nat)*c) ((n:Int) - (i:Nat)) c) where
 ty:=λ_ st=>⟨_,st,rfl⟩
 nl:=by decide
 nt:=by decide
 walk:=λ_ hB=>Walks.range hB I x c n
 hint:=λB G z R st k=>by
  have g':IsRangeIter z.heap I x n c:=by
   have e1:x+((0:Nat):Int)*c=x:=by simp
   have e2:(n:Int) - ((0:Nat):Int)=n:=by simp
   rw[<-e1,<-e2];exact st
  have ty:z.TypeIs (.ref I) "range_iterator":=⟨_,g',rfl⟩;have few:Builtin.List.listTooLong ((n:Int).toNat)=false:=by unfold Builtin.List.listTooLong;rw[zaL];exact decide_eq_false (by rw[sizeLine_eq];omega)
  unfold Builtin.List.listLengthHint;refine zen (wpAny_specialOf ty F.nolen_ra ((show wpAny _ B (specialOf (.ref I) (zem "__length_hint__") >>= _) _ _ _ from zen (wpAny_specialOf ty F.hint_ra ?_))))
  (generalize hq:("range_iterator.__length_hint__":String)=q0;(fail_if_success (clear hq q0));wp_delta;rw[show splitId q0=some ("range_iterator","__length_hint__") from by subst hq;decide+kernel];subst hq)
  refine zen (wpAny_isInstance (b:=true) ty (by rw[isSubtype_type];kernel_rfl) ?_);refine(show wpAny _ B (call (.builtin "range_iterator.__length_hint__") [.ref I] >>= _) _ _ _ from zen (Uj g' (zen (zeo ?_))))
  try dsimp only
  rw[if_neg (by rw[few];decide)];exact zeo (k _)
end PySem
namespace L2
open PySem PySem.Spec
open PyProof.Rows hiding K lo
def Yd(n:Nat):List Nat:=(t9 n).reverse
def xV{n:Nat}{e:Array Value}(h:ItemsOf (λi v=>∃t,v=.int ((n:Int) - 1+i*(-1)) t) e n):qP ((Yd n).map λi=>V.int (i:Nat)) e.toList:=by
 obtain⟨j,l⟩:=h;have fF:∀(b:List V) (a:List Value),b.length=a.length->(∀(i:Nat) (x:V) (u:Value),b[i]?=some x->a[i]?=some u->qU x u)->qP b a:=by
  intro b;induction b with
  | nil=>intro a d _;cases a with | nil=>exact .nil | cons _ _=>cases d
  | cons x b m=>
   intro a d g;cases a with
   | nil=>cases d
   | cons u a=>exact .cons (g 0 x u rfl rfl) (m a (by simpa using d) λi y w b f=>g (i+1) y w (by simpa using b) (by simpa using f))
 refine fF _ _ (by simp [Yd,j]) λi x u b f=>?_;have a:e[i]?=some u:=by simpa using f
 obtain⟨t,rfl⟩:=l i u a;have d:i < n:=by
  have:=(zaf.mp a).1;omega
 rw[tu,Yd,List.getElem?_reverse (by simpa using d),zal,zbG (by omega)]at b;simp at b;subst b;refine⟨t,?_⟩;congr 1;omega
def x6{R:List Value->Shared->Prop}(hs:starEach [e] env=[(false,eval e env)])(h:wpAny M A (eval e env) (λv a=>R [v] a) E s):
  wpAny M A (spliced (backTo pos (starEach [e] env))) R E s:=by
 rw[hs];show wpAny _ _ (spliced ((false,eval e env)::backTo pos [])) _ _ s;exact Calls.spliced_cons (jn h λu a a=>Calls.spliced_nil a)
inductive A8(Q:VK)(x:V)(H1:Hp):Prop
 | mk (n:Nat):x=.int n->(n<=1000)->(∀l,H1 l=none->Q (.ref l) (upd H1 l (.lst ((Yd n).map λi=>V.int (i:Nat)))))->A8 Q x H1
def HI(te:TE):TE:=λa H Q=>te a H λx a=>A8 Q x a
def DT{X:Cx}(j:X.calm=true)(g1:Gl X "list")(l:X.mg "list"=none)(g2:Gl X "reversed")(m:X.mg "reversed"=none)(g3:Gl X "range")(o:X.mg "range"=none)(p:JE X e te)(hs:starEach [e] X.env=[(false,eval e X.env)]:=by rfl)(d:starEach [.Call (.Name "range" p3) [e] [] a] X.env=[(false,eval (.Call (.Name "range" p3) [e] [] a) X.env)]:=by rfl)(f:starEach [.Call (.Name "reversed" p2) [.Call (.Name "range" p3) [e] [] a] [] g] X.env=[(false,eval (.Call (.Name "reversed" p2) [.Call (.Name "range" p3) [e] [] a] [] g) X.env)]:=by rfl):JE X (.Call (.Name "list" r) [.Call (.Name "reversed" p2) [.Call (.Name "range" p3) [e] [] a] [] g] [] y) (HI te):=.of (by
 refine λa s g H Q I h=>Call_ (Jo I g1 l boot_list (PyProof.Rows.callWith_type1 (x6 f ?_) (by rw[f];rfl) rfl));refine Call_ (Jo I g2 m boot_reversed (PyProof.Rows.callWith_type1 (x6 d ?_) (by rw[d];rfl) rfl));refine Call_ (Jo I g3 o boot_range (PyProof.Rows.callWith_type1 (x6 hs (jn (p.to a s g H _ I h) λu a ⟨x,_,f,d,g⟩=>?_)) (by rw[hs];rfl) rfl));obtain⟨n,rfl,l,q⟩:=g;obtain⟨t,rfl⟩:=d;refine call_range_1 (ze (IsRange.new ..) (by omega) ((wg (x:=(n:Int) - 1) (c:=-1) (n:=n) (by omega)).list (f.ok.hd j) (by
  have d:(n:Int) - 1+((0:Nat):Int)*(-1)=(n:Int) - 1:=by simp
  have g:(n:Int) - ((0:Nat):Int)=n:=by simp
  rw[d,g];exact tR _ rfl) (by simp) (λb d=>by rw[tM.mp d,zbr (_:Heap) (XQ _ _ _)];exact zaF _) (by omega) λj tk m o p e r=>?_))
 have y:∀b d,a.heap.get? b=some d->j.get? b=some d:=λb d g=>by
  refine p b d (tO ?_) (tm _ (tm _ g));rw[zbr];exact zbX (tJ g)
 have d:a.heap.objs.size<=((a.heap.push ({cls:=.type "range",data:=.fields #[.int 0 a.toks,.int n t,.int 1 (a.toks+1)]}:Obj)).push (XQ ((n:Int) - 1) n (-1))).objs.size:=by
  rw[zbr,zbr];omega
 exact⟨.ref _,_,f.laid (o:=.lst ((Yd n).map λi=>V.int (i:Nat))) y d ⟨by simp only[tc,Yd,zch,zal];exact zab (ql l),m.toList,o,xV r,by simpa using e⟩,rfl,q _ (f.hok.fresh d)⟩)
end L2
namespace PySem
namespace F
end F
end PySem
namespace L2
open PySem PySem.Spec
open PyProof.Rows hiding K lo
def wy:∀(xs:List V) (us:List Value),xs.length=us.length->(∀(i:Nat) (x:V) (u:Value),xs[i]?=some x->us[i]?=some u->qU x u)->qP xs us:=by
 intro xs;induction xs with
 | nil=>intro us a _;cases us with | nil=>exact .nil | cons _ _=>cases a
 | cons x xs d=>
  intro us a b;cases us with
  | nil=>cases a
  | cons u us=>exact .cons (b 0 x u rfl rfl) (d us (by simpa using a) λi y w e f=>b (i+1) y w (by simpa using e) (by simpa using f))
open PyProof.Rows hiding K lo
def qw.turnLaid{X:Cx}{a:List (Addr×Obj)}{g:St}{H:Hp}{s:Shared}{d:Heap}{L:List Addr}{T:Addr}{o:HO}{t':Nat}(I:qw X a g H s)(k:∀b u,b∉L->s.heap.get? b=some u->d.get? b=some u)(f:∀b∈L,Zc X a H b)(hp:s.heap.objs.size<=T)
  (new:qH X.prog X.w (upd H T o) d T o):qw X a g (upd H T o) {s with heap:=d,toks:=t'}:=by
 have up:∀b u,H b=some u->upd H T o b=some u:=λb u e=>by rw[qf (qm e (I.hok.fresh hp))];exact e
 have g:∀b u,H b=some u->b∉L:=λb u e z=>by rw[(f b z).1]at e;cases e
 refine I.step (λb d=>?_) (λb o _ _ a e _=>k b o a e) (λb o _ _ a e _=>⟨o.slots,k b o a e⟩) (λb _ a e n=>?_)
  (λb o a e=>⟨o,k b o a e⟩) (λb i e=>up b _ e) (λb o u e=>up b _ e) (λb _ e=>⟨#[],by rw[up b _ e];simp⟩) (λm j=>?_) (λb u e=>?_) I.bare
 ·obtain⟨_,f1,f2,l,p,r⟩:=f b d;exact⟨l,f1,p,r⟩
 ·have:b≠T:=tO (tI (tJ e) hp);rwa [qf this]
 ·obtain⟨o,l,p,r,x⟩:=j;exact⟨o,l,p,k _ o (λz=>(f _ z).2.1 rfl) r,x⟩
 ·by_cases d:b=T
  ·subst d;rw[qc]at e;cases e;exact new
  ·rw[qf d]at e;refine(I.hok b u e).stay (λc v a q=>k c v ?_ q) (λc q=>up c _ q) (λc i q=>up c _ q) (λc o q=>up c _ q);rcases a with z | z
   ·rw[z];exact g b u e
   ·exact g c _ z
def qw.turnedL{X:Cx}{a:List (Addr×Obj)}{d:St}{H:Hp}{s:Shared}{g:Heap}{L:List Addr}{t':Nat}(I:qw X a d H s)(k:∀b u,b∉L->s.heap.get? b=some u->g.get? b=some u)(f:∀b∈L,Zc X a H b):qw X a d H {s with heap:=g,toks:=t'}:=by
 have g:∀b u,H b=some u->b∉L:=λb u e z=>by rw[(f b z).1]at e;cases e
 refine I.step (λb i=>?_) (λb a _ _ d e _=>k b a d e) (λb a _ _ d e _=>⟨a.slots,k b a d e⟩) (λ_ _ _ _ n=>n)
  (λb a d e=>⟨a,k b a d e⟩) (λ_ _ e=>e) (λ_ _ _ e=>e) (λb _ e=>⟨#[],by rw[e];simp⟩) (λm j=>?_) (λb u e=>?_) I.bare
 ·obtain⟨_,f1,f2,l,o,p⟩:=f b i;exact⟨l,f1,o,p⟩
 ·obtain⟨a,i,l,o,p⟩:=j;exact⟨a,i,l,k _ a (λz=>(f _ z).2.1 rfl) o,p⟩
 ·refine(I.hok b u e).stay (λc v d q=>k c v ?_ q) (λ_ q=>q) λ_ _ q=>q;rcases d with z | z
  ·rw[z];exact g b u e
  ·exact g c _ z
open PyProof.Rows hiding K lo
def WN:∀{cs:List Addr} {us:List Value},qP (cs.map V.ref) us->us=cs.map Value.ref
 | [],_,.nil=>rfl
 | c::cs,u::us,.cons a t=>by
  obtain rfl:u=Value.ref c:=a;rw[tV,WN t]
inductive BI(K:zel)(x:V)(y:V)(H:Hp)(Q:VK):Prop
 | mk (d:_) (d':_):DV K H x d->DV K H y d'->PySem.SeqAt.shaped d=true->PySem.SeqAt.shaped d'=true->(Q (.bl (PyData.eqv d d')) H)->BI K x y H Q
def IE(K:zel):R2:=λx y H Q=>BI K x y H Q
def GX{X:Cx}(hu:X.A.units+64 < cLine):JN X (compareOp .Eq) (IE X.K):=by
 intro _ s _ H x y v u Q I a b h;obtain⟨d,_,e,f,g,i,q⟩:=h;obtain⟨as,j⟩:=e.reads I a;obtain⟨bs,a⟩:=f.reads I b;exact eq_dataH j a g i hu ⟨.bl _,H,I,rfl,q⟩
def u2(C i:Addr)(m:Str)(j l:Sp)(b:TE)(t:TA):TE:=λd H Q=>b d H λx b=>∃a g fs,x=.ref a/\fs.lookup m=none/\
 ((b a=some (.ins C g fs)/\t d b λe f=>j (x::e) f Q E0)\/(b a=some (.ins i g fs)/\t d b λe f=>l (x::e) f Q E0))
def RS(L:JE X o U)(c:WC X.K C)(z:WM X.K C m f)(F:qp X.prog X.w X.K X.mg X.base q5 k f Y ps sp)(hr:ji k X.A)(hb:jy X.K Y ps [])(c':WC X.K j)(B:WM X.K j m f')(F':qp X.prog X.w X.K X.mg X.base q5 k' f' aa ab ac)(ae:ji k' X.A)(af:jy X.K aa ab [])(g:JA X (e::b) t)(D:starEach (e::b) X.env=(false,eval e X.env)::starEach b X.env:=by rfl)(J:(backTo pos (starEach b X.env)).any (·.1)=false:=by rfl)(ht:eval (.Call (.Attribute o m c_) (e::b) [] pos) X.env=(eval o X.env >>= λd=>standAt c_.atName >>= λ_=>holding [d] (getMethod d m pl) >>= λr=>callWith pos r.1 r.2 (backTo pos (starEach (e::b) X.env)) (backToKw pos (keywordEach [] X.env))):=by rfl):JE X (.Call (.Attribute o m c_) (e::b) [] pos) (u2 C j m sp ac U t):=.of (by
 have g:=g.to;refine λb s j H Q I h=>zbU (jn (L.to b s j H _ I h) λu L ⟨x,O,i,rx,a,_,fs,ex,T,q⟩=>?_) ht;subst ex;obtain rfl:u=Value.ref a:=rx;rcases q with ⟨l,q⟩ | ⟨l,q⟩
 ·exact QU i l c z T (zbm I.ok.mod.kin z.kp (jn (g pos b L j O _ i q) λz U ⟨p,H2,d,r,y⟩=>⟨d.kIn,zx (vs:=.ref a::p) F hr hb .nil Qy d (.cons rfl r) (by simpa using y)⟩) D J)
 ·refine QU i l c' B T (zbm (first:=[.ref a]) (h₀:=X.base) I.ok.mod.kin B.kp (jn (g pos b L j O _ i q) λz U ⟨p,H2,d,r,y⟩=>⟨d.kIn,?_⟩) D J);exact zx (us:=.ref a::z) (vs:=.ref a::p) F' ae af .nil Qy d (.cons rfl r) (by simpa using y))
def Vf(l:JE X o p)(c:WC X.K C)(e:WM X.K C m f)(F:qp X.prog X.w X.K X.mg X.base q5 k f y ps z)(hr:ji k X.A)(B:jy X.K y ps [])(D:WC X.K g)(i:WM X.K g m J)(L:qp X.prog X.w X.K X.mg X.base q5 O J T U Y)(aa:ji O X.A)(ab:jy X.K T U [])(ht:eval (.Call (.Attribute o m c_) [] [] pos) X.env=(eval o X.env >>= λb=>standAt c_.atName >>= λ_=>holding [b] (getMethod b m pl) >>= λr=>callWith pos r.1 r.2 (backTo pos (starEach [] X.env)) (backToKw pos (keywordEach [] X.env))):=by rfl):JE X (.Call (.Attribute o m c_) [] [] pos) (u2 C g m z Y p Q1):=.of (by
 refine λb s d H Q I h=>zbU (jn (l.to b s d H _ I h) λu _ ⟨x,_,b,rx,a,_,fs,ex,j,q⟩=>?_) ht;subst ex;obtain rfl:u=Value.ref a:=rx;rcases q with ⟨d,q⟩ | ⟨d,q⟩
 ·exact QU b d c e j (zcT b.kIn e.kp (zx (vs:=[.ref a]) F hr B .nil Qy b (.cons rfl .nil) q))
 ·exact QU b d D i j (zcT b.kIn i.kp (zx (vs:=[.ref a]) L aa ab .nil Qy b (.cons rfl .nil) q)))
def Ua{t':TE}(h:JE X e te)(k:∀a H Q,t' a H Q->te a H Q):JE X e t':=.of (by
 exact λb s a H Q I q=>h.to b s a H Q I (k a H Q q))
def tWk(te:TE):TE:=λa H Q=>∃G:VK,te a H G/\∀x a,G x a->Q x a
def RQ(h:JE X e te):JE X e (tWk te):=.of (by
 intro a s b H Q I ⟨G,d,k⟩;exact jn (h.to a s b H G I d) λv _ ⟨x,a,b,d,f⟩=>⟨x,a,b,d,k x a f⟩)
def aWk(t:TA):TA:=λa H Q=>∃G:List V->Hp->Prop,t a H G/\∀a b,G a b->Q a b
def F1(h:JA X a t):JA X a (aWk t):=.of (by
 intro pos a s b H Q I ⟨G,d,k⟩;exact jn (h.to pos a s b H G I d) λ_ _ ⟨a,b,d,e,f⟩=>⟨a,b,d,e,k a b f⟩)
open PySem PySem.Spec PySem.W
open PyProof.Rows hiding K lo
def BR:∀(f n r:Nat),r<=1->minRun' f n r<=n+r
 | 0,n,r,_=>tp _
 | f+1,n,r,hr=>by
  rw[minRun'_succ];split
  ·exact tp _
  ·have a:max r (n % 2)<=1:=Nat.max_le.mpr ⟨hr,by omega⟩;have:=BR f (n / 2) (max r (n % 2)) a;omega
def vi{R:Nat->Shared->Prop}(b:∀i,1<=i->i < n->∀C:Bool->Shared->Prop,C false z->kas_cmp P w B κ it i (i - 1) C z)(d:R n z):
  ∀(f a:Nat),1<=a->a+f=n->(kas_asc (zaV (t9 n)) f a).kasWp (kas_cmp P w B κ it) R z
 | 0,a,_,e=>by
  have g:a=n:=by omega
  subst g;exact d
 | f+1,a,j,e=>by
  have g:∀i,i < n->(zaV (t9 n)).getD i 0=i:=λi l=>by simp [Array.getD,l]
  show kas_cmp P w B κ it ((zaV (t9 n)).getD a 0) ((zaV (t9 n)).getD (a - 1) 0) _ z;rw[g a (by omega),g (a - 1) (by omega)];refine b a j (by omega) _ ?_;show KasT.kasWp _ (if false=true then _ else _) R z;rw[if_neg tK];exact vi b d f (a+1) (by omega) (by omega)
def wu{Q:Unit->SortSt->Shared->Prop}(b:2<=n)(d:∀i,1<=i->i < n->∀C:Bool->Shared->Prop,C false z->kas_cmp P w B κ it i (i - 1) C z)(f:∀st,arrOf st=(zaV (t9 n)).map (kas_item it)->failedOf st=none->Q () st z):kasC (model P w) B F sortRuns' Q (kas_st κ it (zaV (t9 n))) z:=by
 obtain⟨a,rfl⟩:∃a,n=a+2:=⟨n - 2,by omega⟩;have sz:(zaV (t9 (a+2))).size=a+2:=by simp
 have b:(arrOf (kas_st κ it (zaV (t9 (a+2))))).size=a+2:=(Array.size_map ..).trans sz;have le:=BR (a+2) (a+2) 0 (by decide);rw[sortRuns'_eq];refine kasC_bind (kasC_get ?_)
 try dsimp only
 rw[b];generalize minRun' (a+2) (a+2) 0=M at le;refine kasC_bind (kasC_range (show kasC _ _ _ (forIn (0::1::zei 2 a) _ _) _ _ _ from kasC_cons ?_))
 try dsimp only
 rw[if_neg (by omega)];simp only[zcW,zec];refine kasC_bind (kas_count_ (G:=λq b=>q=(a+2,zaV (t9 (a+2)))/\b=z) (by omega) (by rw[sz];exact tp _) (λm _ b _ _ _ g=>?_) ?_)
 ·obtain⟨e,rfl⟩:=g;cases e
  try dsimp only
  rw[if_neg (by omega)];refine kasC_bind (kasC_get ?_);rw[show (pendingOf (kas_st κ it (zaV (t9 (a+2))))).back?=none from rfl]
  try dsimp only
  refine kasC_bind (kasC_modify (kasC_pure (show kasC _ _ _ (forIn (1::zei 2 a) _ _) _ _ _ from kasC_cons ?_)))
  try dsimp only
  rw[if_pos (tp _)];refine kasC_pure ?_
  try dsimp only
  refine kasC_bind (kasC_range (show kasC _ _ _ (forIn (0::1::zei 2 a) _ _) _ _ _ from kasC_cons (kasC_bind (kasC_get ?_))));rw[if_pos (show (pendingOf (setPending (kas_st κ it (zaV (t9 (a+2)))) ((pendingOf (kas_st κ it (zaV (t9 (a+2))))).push (0,a+2,0)))).size<=1 from tp 1)];refine kasC_pure ?_
  try dsimp only
  exact kasC_pure (f _ rfl rfl)
 ·unfold kas_count;rw[KasT.kasWp_bind];refine vi d ?_ _ 1 (tp 1) (by omega);rw[if_pos (beq_self_eq_true _)];exact⟨rfl,rfl⟩
inductive JX(h:Heap)(v:Value)(k:Int×Int):Prop
 | mk (p:_) (o:_) (n:_) (t:_) (u:_):v=.ref p->h.get? p=some o->o.cls=.type "tuple"->o.data=.seq #[.int k.1 t,.int k.2 u] n->JX h v k
def X9(a b:Int×Int):Prop:=a.1 < b.1\/(a.1=b.1/\a.2 < b.2)
def vn{z:Shared}(g:JX z.heap v b)(hu:JX z.heap u a)(j:X9 a b){C:Bool->Shared->Prop}(d:C false z):wpAny (model P w) B (keyLt' (tuples' true) v u) C (λ_ _=>False) z:=by
 obtain⟨_,_,n,d,f,rfl,l,_,m⟩:=g;obtain⟨_,_,_,g,i,rfl,o,_,p⟩:=hu;refine kat_lt l m o p ?_;show KatLex P w B true _ C [(.int b.1 d,.int a.1 g),(.int b.2 f,.int a.2 i)] 0 z;refine kat_cons (SeqAt.EqAt.int_int b.1 d a.1 g P w _ _ ?_);rcases j with h | ⟨h,d⟩
 ·have e:(b.1==a.1)=false:=by
   rw[beq_eq_false_iff_ne];omega
  rw[e];refine kat_no (show wpAny _ _ (oneLt' true _ _) _ _ _ from oneLt_int ?_);rwa [decide_eq_false (by omega)]
 ·have e:(b.1==a.1)=true:=by rw[h];exact beq_self_eq_true _
  rw[e];refine kat_yes (kat_cons (SeqAt.EqAt.int_int b.2 f a.2 i P w _ _ ?_));have d:(b.2==a.2)=false:=by
   rw[beq_eq_false_iff_ne];omega
  rw[d];refine kat_no (show wpAny _ _ (oneLt' false _ _) _ _ _ from kat_one _ _ (lt_int ?_));show C (decide (b.2 < a.2)) z;rwa [decide_eq_false (by omega)]
def JX.keep{a:Heap}(x:JX h v k)(f:∀b o,h.get? b=some o->o.cls=.type "tuple"->a.get? b=some o):JX a v k:=by
 obtain⟨a,o,n,t,u,e,g,c,d⟩:=x;exact⟨a,o,n,t,u,e,f a o g c,c,d⟩
def W9(vs:List Value):(pairsOf vs).map (·.2)=vs.toArray:=by
 apply Array.ext';rw[Array.toList_map,pairsOf_toList,List.map_snd_zip (tp _)]
def yj:∀(vs:List Value) (a:List (Int×Int)),vs.length=a.length->(∀(i:Nat) (v:Value) (k:Int×Int),vs[i]?=some v->a[i]?=some k->JX h v k)->∃fs,KatTups h vs fs/\fs.length=vs.length/\∀v∈fs,∃i t,v=Value.int i t
 | [],_,_,_=>⟨[],.nil,rfl,λv b=>(nomatch b)⟩
 | v::vs,[],f,_=>by cases f
 | v::vs,k::a,f,b=>by
  obtain⟨fs,g,lf,j⟩:=yj vs a (zdc.inj f) λi u q l m=>b (i+1) u q (by simpa using l) (by simpa using m);obtain⟨_,_,n,t,u,rfl,a,c,d⟩:=b 0 v k rfl rfl;refine⟨.int k.1 t::fs,.cons a c d rfl g,by simp [lf],λx a=>?_⟩;rcases tH.mp a with e | a
  ·exact⟨_,_,e⟩
  ·exact j x a
def wa{z:Shared}{vs:List Value}{g:List (Int×Int)}{R:PySem.Fin->Shared->Prop}(j:z.heap.get? a=some (seqObj "list" vs.toArray n))(o:vs.length=g.length)(p:∀(i:Nat) (v:Value) (k:Int×Int),vs[i]?=some v->g[i]?=some k->JX z.heap v k)(hr:∀(i:Nat) (k d:Int×Int),g[i]?=some k->g[i+1]?=some d->X9 k d)(l:vs.length<=100000)(k:R (.done (.ret .none)) {z with heap:=sortedHeap z.heap a vs vs.toArray}):wpAny (model P w) B (Builtin.«list.sort» ⟨[.ref a],[]⟩) R F z:=by
 have r:∀b d,z.heap.get? b=some d->d.cls=.type "tuple"->b≠a:=λb d e c q=>by
  rw[q,j]at e;cases e;exact absurd c (show ¬Value.type "list"=Value.type "tuple" by decide)
 rw[list_sort_plain];refine zen (listItems_at j rfl (zen (listUpdate_at j rfl ?_)));obtain⟨l,m⟩:∃c,(z.heap.update a (Obj.mapSeq λ_=>#[])).get? a=some (seqObj "list" #[] c):=⟨_,get?_update_seq j (λ_=>#[])⟩;refine zen (seqEpoch_at m rfl (zen (wpAny_newTuple (zen (wpAny_newList (wpAny_holding ?_))))));have lt:=tJ j;have j:(((z.heap.update a (Obj.mapSeq λ_=>#[])).push (seqObj "tuple" vs.toArray 0)).push (seqObj "list" #[] 0)).get? a=some (seqObj "list" #[] l):=tm _ (tm _ m);have u:∀b d,z.heap.get? b=some d->d.cls=.type "tuple"->(((z.heap.update a (Obj.mapSeq λ_=>#[])).push (seqObj "tuple" vs.toArray 0)).push (seqObj "list" #[] 0)).get? b=some d:=λb d e c=>
  tm _ (tm _ ((zag _ _ (Ne.symm (r b d e c))).trans e))
 show wpAny (model P w) B _ R F {z with heap:=((z.heap.update a (Obj.mapSeq λ_=>#[])).push (seqObj "tuple" vs.toArray 0)).push (seqObj "list" #[] 0)}
 try dsimp only
 have d:vs.toArray.size=vs.length:=by simp
 have ends:∀st:SortSt,(arrOf st).map (·.2)=vs.toArray->failedOf st=none->wpAny (model P w) B (do
   let m:=(<-seqEpoch a) != l
   Builtin.List.listUpdate (.ref a) λ_=>(arrOf st).map (·.2)
   if let some e:=failedOf st then rule "list.sort.comparison-raised";throw e
   if m then rule "list.sort.modified";raiseError "ValueError" "list modified during sort"
   ret .none) R F {z with heap:=((z.heap.update a (Obj.mapSeq λ_=>#[])).push (seqObj "tuple" vs.toArray 0)).push (seqObj "list" #[] 0)}:=λst e f=>by
  refine zen (seqEpoch_at j rfl ?_);rw[e,f];refine zen (listUpdate_at j rfl ?_ (hsz2:=by rw[d,sizeLine_eq];omega));simp only[bne_self_eq_false,zaR,if_false];exact zeo k
 by_cases d:vs.toArray.size < 2
 ·rw[if_pos d,if_pos d];refine zen (zeo ?_);rw[StateT.run_pure];exact zen (zeo (ends (SortSt.mk' general' (vs.toArray.zip vs.toArray) #[] 7 none) (W9 vs) rfl))
 ·rw[if_neg d,if_neg d];have m:∀(i:Nat) (v:Value) (q:Int×Int),vs[i]?=some v->g[i]?=some q->JX (((z.heap.update a (Obj.mapSeq λ_=>#[])).push (seqObj "tuple" vs.toArray 0)).push (seqObj "list" #[] 0)) v q:=λi v q j l=>(p i v q j l).keep u;obtain⟨fs,d,lf,p⟩:=yj vs g o m;refine zen (kat_kind (T:=.type "int") d (by omega) (λv q=>?_) rfl ?_)
  ·obtain⟨i,t,rfl⟩:=p v q;exact Looks.of_pure rfl
  ·have e:vs.toArray.zip vs.toArray=(zaV (t9 vs.length)).map (kas_item (pairsOf vs)):=by
    have:=kas_range (pairsOf vs);rw[pairsOf_size]at this;exact this.symm
   rw[e];have run:kasC (model P w) B F sortRuns' (λ_ st o=>o={z with heap:=((z.heap.update a (Obj.mapSeq λ_=>#[])).push (seqObj "tuple" vs.toArray 0)).push (seqObj "list" #[] 0)}/\(arrOf st).map (·.2)=vs.toArray/\failedOf st=none)
     (kas_st (tuples' true) (pairsOf vs) (zaV (t9 vs.length))) {z with heap:=((z.heap.update a (Obj.mapSeq λ_=>#[])).push (seqObj "tuple" vs.toArray 0)).push (seqObj "list" #[] 0)}:=by
    refine wu (by omega) (λi _ p _ D=>?_) λst j l=>⟨rfl,by rw[j,<-e];exact W9 vs,l⟩;unfold kas_cmp;rw[kas_item_eq,kas_item_eq];have r:∀d,d < vs.length->vs[d]?=some (vs.getD d Value.none):=λd u=>by simp [u]
    have y:∀d,d < vs.length->∃q,g[d]?=some q:=λd u=>⟨_,tj (by omega)⟩;obtain⟨d,g⟩:=y i p;obtain⟨u,C⟩:=y (i - 1) (by omega);exact vn (m i _ d (r i p) g) (m (i - 1) _ u (r (i - 1) (by omega)) C) (hr (i - 1) u d C (by rw[show i - 1+1=i by omega];exact g)) D
   refine zen (wpAny_mono run (λd o g=>?_) λ_ _ x=>x);obtain⟨⟨⟩,st⟩:=d;obtain⟨rfl,j,l⟩:=g;exact ends st j l
end L2
namespace PySem
def RawD(h:Heap)(d:Addr)(b:Array DictEntry)(e:Nat):Prop:=∃a,h.get? d=some a/\a.ExactDict/\a.data=.dict b e
def RawD.keep{a:Heap}(x:RawD h d b f)(k:∀o,h.get? d=some o->a.get? d=some o):RawD a d b f:=let ⟨o,e,a⟩:=x;⟨o,k o e,a⟩
def RawD.ty{z:Shared}(x:RawD z.heap d b f):z.TypeIs (.ref d) "dict":=let ⟨a,e,c,_⟩:=x;⟨a,e,c.1⟩
def Gf{z:Shared}{R:Value->Shared->Prop}(hd:(d==sysModules)=false)(x:RawD z.heap d a b)(k:R (.ref z.heap.objs.size) {z with heap:=z.heap.push {cls:=.type "dict_keyiterator",data:=.fields #[.ref d,.int 0 0,.int a.size 0,.int b 0]}}):wpAny (model P w) B (pyIter (.ref d)) R e z:=by
 have ty:=x.ty;obtain⟨_,a,_,fI⟩:=x;refine wpAny_pyIter_slot ty F.slot_dict_iter (wpAny_call_entry F.slot_dict_iter ty F.entry_dict_iter ?_ (F.args_dict_iter_1 _));unfold Builtin.«dict.__iter__»;refine zen (show wpAny _ _ (Builtin.Dict.dictSlotNone _ _) _ _ _ from ?_);unfold Builtin.Dict.dictSlotNone;refine zen (wpAny_notOrdered_dict ty (show wpAny _ _ (pure (Value.ref d)) _ _ z from zeo ((show wpAny _ _ (Builtin.Dict.showsAll d >>= _) _ _ z from ?_))));unfold Builtin.Dict.showsAll;rw[if_neg (hd▸tK)];exact zen (zeo (zen (wpAny_dictEntries a fI (zen (wpAny_dictEpoch a fI (zen (wpAny_newObj_type (zeo ⟨_,rfl,"dict_keyiterator",_,⟨_,tR _ rfl,rfl⟩,F.slot_dict_keyiterator_next.lookup,by simpa [rawInt] using k⟩))))))))
def Gd{z:Shared}{a:Array DictEntry}{R:Option Value->Shared->Prop}(fV:z.heap.IsKeyIter I d i a.size e)(x:RawD z.heap d a e)(g:i < a.size)(k:∀b,b.IsKeyIter I d (i+1) a.size e->Heap.SameBut I z.heap b->R (some a[i].key) {z with heap:=b}):wpAny (model P w) B (pyNext (.ref I)) R f z:=by
 obtain⟨_,b,j,hd⟩:=id fV;obtain⟨_,f,_,fI⟩:=x;have ty:=fV.typeIs;unfold pyNext;refine zen (wpAny_attempt (wpAny_callSpecial?_slot ty F.slot_dict_keyiterator_next (wpAny_call_entry F.slot_dict_keyiterator_next ty F.entry_dict_keyiterator_next ?_ (F.args_dict_keyiterator_next_1 _))));refine zen (zeo (zen (zen (zen ?_))))
 first | refine wpAny_typeNameOfWhole_keyiter ty (zeo (zen (wpAny_fieldsOf b hd ?_))) | refine wpAny_typeNameOf_keyiter ty (zeo (zen (wpAny_fieldsOf b hd ?_)))
 have own:Builtin.Dict_items.ownsTuple "dict_keyiterator"=false:=by decide
 simp only[own,zaR,if_false];show wpAny _ _ (if (Value.ref d==Value.none)=true then _ else _) _ _ z;rw[if_neg (show ¬((Value.ref d==Value.none)=true) from tK)];refine zen (zeo (zen (wpAny_dictEntries f fI ?_)));rw[if_neg (by simp)];refine zen (zeo (zen (wpAny_dictEpoch f fI ?_)));rw[if_neg (by simp)];refine zeo ?_;simp only[show ¬((i:Int) < 0) from by omega,if_false,zaL,zcf g];refine zen (zen ?_)
 first | refine wpAny_typeNameOfWhole_keyiter ty (zeo (zen (wpAny_isOneOf_keyiter ty ?_))) | refine wpAny_typeNameOf_keyiter ty (zeo (zen (wpAny_isOneOf_keyiter ty ?_)))
 refine(show wpAny _ _ (setField (.ref I) 1 (rawInt ((i:Int)+1)) >>= _) _ _ z from zen (wpAny_setField b hd (by simp) ?_));have f:(z.heap.update I (Obj.mapFields (·.setIfInBounds 1 (rawInt ((i:Int)+1))))).IsKeyIter I d (i+1) a.size e:=
  ⟨_,zaD _ b (Obj.isFreed_of_fields (Obj.data_mapFields hd _)),(Obj.cls_mapFields ..).trans j,by rw[Obj.data_mapFields hd];simp [rawInt]⟩
 refine zen (wpAny_holding (zen (wpAny_isOneOf_keyiter f.typeIs ((show wpAny _ _ (pure a[i].key) _ _ _ from zeo (zeo ⟨_,rfl,zeo (k _ f (zcX.update ..))⟩))))))
def MJ{B:Around}{z:Shared}{a:Array DictEntry}{R:Option Value->Shared->Prop}(e:B.handled=none)(fV:z.heap.IsKeyIter I d i a.size f)(x:RawD z.heap d a f)(g:a.size<=i)(k:∀b,Heap.ExtBut I z.heap b->R none {z with heap:=b}):wpAny (model P w) B (pyNext (.ref I)) R j z:=by
 obtain⟨_,a,_,hd⟩:=id fV;obtain⟨_,b,_,fI⟩:=x;have ty:=fV.typeIs;unfold pyNext;refine zen (wpAny_attempt (wpAny_callSpecial?_slot ty F.slot_dict_keyiterator_next (wpAny_call_entry F.slot_dict_keyiterator_next ty F.entry_dict_keyiterator_next ?_ (F.args_dict_keyiterator_next_1 _))));refine zen (zeo (zen (zen (zen ?_))))
 first | refine wpAny_typeNameOfWhole_keyiter ty (zeo (zen (wpAny_fieldsOf a hd ?_))) | refine wpAny_typeNameOf_keyiter ty (zeo (zen (wpAny_fieldsOf a hd ?_)))
 have own:Builtin.Dict_items.ownsTuple "dict_keyiterator"=false:=by decide
 simp only[own,zaR,if_false];show wpAny _ _ (if (Value.ref d==Value.none)=true then _ else _) _ _ z;rw[if_neg (show ¬((Value.ref d==Value.none)=true) from tK)];refine zen (zeo (zen (wpAny_dictEntries b fI ?_)));rw[if_neg (by simp)];refine zen (zeo (zen (wpAny_dictEpoch b fI ?_)));rw[if_neg (by simp)];refine zeo ?_;simp only[show ¬((i:Int) < 0) from by omega,if_false,zaL,Array.getElem?_eq_none g];refine zen (zen ?_)
 first | refine wpAny_typeNameOfWhole_keyiter ty (zeo ?_) | refine wpAny_typeNameOf_keyiter ty (zeo ?_)
 refine(show wpAny _ _ (setField (.ref I) 0 .none >>= _) _ _ z from zen (wpAny_setField a hd (by simp) ((show wpAny _ _ (newExc (.type "StopIteration") [] >>= _) _ _ _ from zen ?_))));simp only[newExc,newTuple];refine zen (wpAny_newObj_type (zen (wpAny_of_eq (by first | rfl | (simp only[firstArgMember];rfl)) (wpAny_newObj_type ?_ (by size_fits)))) (by size_fits));simp only[raiseNew];refine zen (wpAny_handled ?_);rw[show B.in1.handled=none from e];refine zen (zeo (wpAny_throw ?_));refine zen (wpAny_isInstance (T:="StopIteration") (b:=true) ⟨_,tR _ rfl,rfl⟩ isSubtype_stop ?_);exact zeo (k _ ((((zcX.update ..).extBut).push _).push _))
open PySem.W
def wv{a:Array DictEntry}{B:Around}(m:B.handled=none)(I:Addr)(o:d≠I):Walks P w B I [I,d] [I] a.size (λi v=>∃h:i < a.size,v=a[i].key) (λi h=>h.IsKeyIter I d i a.size f/\RawD h d a f) where
 sub:=λb f=>by simp at f;simp [f]
 frame:=λ_ _ _ st k=>⟨st.1.at λa e=>k I (by simp) a e,st.2.keep λa e=>k d (by simp) a e⟩
 item:=λi z R G j st q=>Gd st.1 st.2 j λg p l=>q _ g z.toks ⟨j,rfl⟩ ⟨p,st.2.keep λa e=>l.extBut d a o e⟩ λb a f e=>l.extBut b a (λx=>f (by simp [x])) e
 done:=λz R G st q=>MJ m st.1 st.2 (tp _) λg j=>q g z.toks λb a f e=>j b a (λx=>f (by simp [x])) e
 self:=λ_ _ _ _ st q=>wpAny_pyIter_keyiter st.1 q
def MI{a:Array DictEntry}(hd:(d==sysModules)=false):KdlSrc P w "dict" d d a.size (λi v=>∃h:i < a.size,v=a[i].key) (λh=>RawD h d a b) where
 type:=λz x=>x.ty
 there:=λh x=>let ⟨a,e,_⟩:=x;⟨tJ e,tJ e⟩
 keep:=λh _ x k=>x.keep λa e=>k d (.inl rfl) a e
 notList:=by decide
 notTuple:=by decide
 hint:=λ_ _ _ _ x q=>kdl_hint_dict x.ty q
 iter:=λA z b x=>⟨_,_,λE Q q=>Gf hd x q,wv b _ (let ⟨a,e,_⟩:=x;tO (tJ e)),⟨⟨_,tR _ rfl,rfl,rfl⟩,x.keep λa e=>tm _ e⟩⟩
end PySem
namespace L2
open PySem PySem.Spec PySem.W
open PyProof.Rows hiding K lo
def Zj:∀{l:List α} {m:List β},Paired G l m->∀{i:Nat} {a:α},l[i]?=some a->∃b,m[i]?=some b/\G a b
 | _,_,.nil,i,a,e=>by simp at e
 | _,_,.cons d t,0,a,e=>by cases e;exact⟨_,rfl,d⟩
 | _,_,.cons d t,i+1,a,e=>by
  obtain⟨b,d,f⟩:=Zj t (by simpa using e);exact⟨b,by simpa using d,f⟩
def YS(k:Int×Int):List qZ:=[Sum.inl k.1,Sum.inl k.2]
inductive xa(xs:List V)(H:Hp)(Q:VK):Prop
 | mk (a:Addr) (kvs:List (List qZ×V)) (ks:List (Int×Int)):xs=[.ref a]->H a=some (.dT kvs)->kvs.map (·.1)=ks.map YS->((∀(i:Nat) (k k':Int×Int),ks[i]?=some k->ks[i+1]?=some k'->X9 k k'))->(kvs.length<=1000)->(∀(l:Addr) (ps:List Addr),H l=none->ps.length=ks.length->(∀(i:Nat) (p:Addr) (k:Int×Int),ps[i]?=some p->ks[i]?=some k->H p=some (.tup [.int k.1,.int k.2]))->Q (.ref l) (upd H l (.lst (ps.map V.ref))))->xa xs H Q
def CQ:List V->Hp->VK->Prop:=λa H Q=>xa a H Q
def Uv:∀(ps:List Addr),qP (ps.map V.ref) (ps.map Value.ref)
 | []=>.nil
 | a::ps=>.cons rfl (Uv ps)
def kX{X:Cx}(D:X.calm=true):Q6 X (.builtin "sorted") CQ:=by
 intro _ s _ H _ _ Q I d h;obtain⟨a,p,z,rfl,g,B,hr,J,q⟩:=h;obtain⟨u,rfl,f⟩:=Jy d;cases f;obtain⟨_,L,f,pr,j,r,_,O,T,fI,d,_⟩:=(show qH X.prog X.w H s.heap a (.dT p) from I.hok a _ g);have g:=Paired.length pr;have lk:p.length=z.length:=by simpa using congrArg zas B
 have U:r.size=f.length:=by rw[<-zaE,d,tc]
 have fF:∀i (l:i < r.size),r[i].key=.ref ((f.map (·.2.1)).getD i 0):=λi l=>by
  have g:r.toList[i]?=some r[i]:=by simp [l]
  have x:i < f.length:=by omega
  rw[d,tu,tj x]at g;have o:=(tF.inj g).symm;rw[o];show Value.ref f[i].2.1=_;simp [x]
 have tup:∀(i:Nat) (m:Addr) (k:Int×Int),(f.map (·.2.1))[i]?=some m->z[i]?=some k->H m=some (.tup [.int k.1,.int k.2]):=λi m k g o=>by
  rw[tu]at g;cases d:f[i]? with
  | none=>rw[d]at g;cases g
  | some y=>
   rw[d]at g;have Y:y.2.1=m:=tF.inj g;have l:i < p.length:=by
    have:=(td.mp d).1;omega
   obtain⟨_,C,g1,g2,_⟩:=Zj pr (tj l);rw[d]at C;cases C;have C:p[i].1=YS k:=by
    have d:(p.map (·.1))[i]?=some p[i].1:=by rw[tu,tj l];rfl
    rw[B,tu,o]at d;exact(tF.inj d).symm
   rw[C,Y]at g2;exact g2
 refine Calls.call_function_entry kind_sorted plain_sorted entry_sorted (args_sorted1 _) ?_;unfold Builtin.«sorted»;refine zen (zeo (zen (kdu_collect (MI L) (I.ok.hd D) ⟨j,O,T,fI⟩ (by rw[U,sizeLine_eq];omega) λd tk B D p=>?_)));have C:B.toList=(f.map (·.2.1)).map Value.ref:=by
  refine zdk λi=>?_;by_cases l:i < r.size
  ·have r:i < B.size:=p.1▸l;have g:=zcf r;obtain⟨_,o⟩:=p.2 i _ g;rw[Array.getElem?_toList,g,o,fF i l,tu];have x:i < (f.map (·.2.1)).length:=by rw[tc];omega
   rw[tj x];simp [zaq,tj x]
  ·rw[zbl (by rw[zaE,p.1];omega),zbl (by rw[tc,tc];omega)]
 rw[C];generalize p:f.map (·.2.1)=f at C tup fF;have l:f.length=z.length:=by rw[<-p,tc];omega
 refine zen (wpAny_newList ?_);have p:=I.kept (t':=tk) D;show wpAny _ _ _ _ _ {s with heap:=d.push (seqObj "list" (f.map Value.ref).toArray 0),toks:=tk};have oL:(d.push (seqObj "list" (f.map Value.ref).toArray 0)).get? d.objs.size=some (seqObj "list" (f.map Value.ref).toArray 0):=tR _ rfl;have x:∀(i:Nat) (v:Value) (k:Int×Int),(f.map Value.ref)[i]?=some v->z[i]?=some k->JX (d.push (seqObj "list" (f.map Value.ref).toArray 0)) v k:=λi v k g o=>by
  rw[tu]at g;cases r:f[i]? with
  | none=>rw[r]at g;cases g
  | some m=>
   rw[r]at g;obtain rfl:=(tF.inj g).symm;obtain⟨_,g,⟨z,B,C,D,L⟩,_⟩:=p.tuple (.of (tup i m k r o):SqT X.K H m _);cases g with
   | cons o g=>
    cases g with
    | cons r g=>
     cases g;obtain⟨g,rfl⟩:=o;obtain⟨o,rfl⟩:=r;exact⟨m,z,D,g,o,rfl,tm _ B,C,L⟩
 refine zen (wpAny_holding (wpAny_call_entry slot_list_sort ⟨_,oL,rfl⟩ entry_list_sort (wa oL (by rw[tc];exact l) x hr (by rw[tc];omega) ⟨_,rfl,?_⟩) (args_list_sort _)));refine zeo ⟨_,rfl,?_⟩;have g:∀b j,d.get? b=some j->b≠d.objs.size:=λb j e=>tO (tJ e);have m:∀b j,d.get? b=some j->(sortedHeap (d.push (seqObj "list" (f.map Value.ref).toArray 0)) d.objs.size (f.map Value.ref) (f.map Value.ref).toArray).get? b=some j:=λb j e=>by
  unfold sortedHeap;rw[zag _ _ (Ne.symm (g b j e))];exact tm _ (tm _ ((zag _ _ (Ne.symm (g b j e))).trans (tm _ e)))
 obtain⟨_,g⟩:∃c,((d.push (seqObj "list" (f.map Value.ref).toArray 0)).update d.objs.size (Obj.mapSeq λ_=>#[])).get? d.objs.size=some (seqObj "list" #[] c):=⟨_,get?_update_seq oL (λ_=>#[])⟩;obtain⟨j,o⟩:∃c,(sortedHeap (d.push (seqObj "list" (f.map Value.ref).toArray 0)) d.objs.size (f.map Value.ref) (f.map Value.ref).toArray).get? d.objs.size=some (seqObj "list" (f.map Value.ref).toArray c):=
  ⟨_,get?_update_seq (tm _ (tm _ g)) (λ_=>(f.map Value.ref).toArray)⟩
 refine⟨.ref d.objs.size,_,p.laid (o:=.lst (f.map V.ref)) m (tp _) ⟨by rw[tc,l,<-lk];exact zab (ql J),_,j,Uv f,o⟩,rfl,?_⟩;exact q _ f (p.hok.fresh (tp _)) l tup
open PyProof.Rows hiding K lo
inductive BB(x:V)(lo:Option Int)(hi:Option Int)(H:Hp)(Q:VK):Prop
 | mk (z:Str) (j:Int):x=.str z->lo=none->hi=some j->(z.length<=1000)->(Q (.str (Txt.slice z none (some j))) H)->BB x lo hi H Q
def IB:V->Option Int->Option Int->Hp->VK->Prop:=λx lo a H Q=>BB x lo a H Q
def KQ:IY X IB:=by
 intro _ s _ H x v _ _ lo _ _ Q I b d pl e h;obtain⟨z,a,rfl,rfl,rfl,f,q⟩:=h;obtain⟨t,rfl⟩:=b;refine⟨"str",_,PySem.F.slot_str_getitem.lookup,typeIs_str _ _ _,?_⟩;cases pl;cases e;exact wpAny_getItem_str_slice (l:=none) (u:=some (a,_)) (st:=none) d rfl (post_val_or_str ⟨t8 (Txt.slice_le z none (some a)) (zab (ql f)),λa k=>⟨.str _,H,I.tok k,⟨a,rfl⟩,q⟩⟩)
def XC(z:Str)(j:Nat):(Txt.slice z none (some (j:Int))).cps.toList=z.cps.toList.take j:=by
 have b:z.cps.toList.length=z.length:=zaE;have ic:Builtin.Str.strSliceIndices none (some (j:Int)) 1 z.length=(t9 (min j z.length)).map (0+·):=by
  have e:Builtin.Str.strSliceIndices none (some (j:Int)) 1 z.length=sliceRange ((0:Nat):Int) ((min j z.length:Nat):Int) 1:=by
   unfold Builtin.Str.strSliceIndices;simp only[show (1:Int) > 0 by decide,if_true,show ¬((j:Int) < 0) by omega,if_false];congr 1;omega
  rw[e,sliceRange_one];rfl
 unfold Txt.slice;rw[ic];split
 ·rename_i h;have d:min j z.length=z.length:=by simpa using h
  rw[tv];omega
 ·rw[pick_run];show (z.cps.toList.drop 0).take (min j z.length)=_;rw[zde];by_cases a:j<=z.length
  ·rw[zcr a]
  ·rw[zdr (by omega),tv (by omega),tv (by omega)]
def A6(n:Nat):List V:=(t9 n).map λi=>V.int (i:Nat)
inductive EE(Q:VK)(x:V)(H1:Hp):Prop
 | mk (n:Nat):x=.int n->(n<=1000)->(∀l,H1 l=none->Q (.ref l) (upd H1 l (.lst (A6 n))))->EE Q x H1
def tLr(te:TE):TE:=λa H Q=>te a H λx a=>EE Q x a
def NP(h:ItemsOf (λi v=>∃t,v=.int (0+i*1) t) b n):qP (A6 n) b.toList:=by
 obtain⟨a,e⟩:=h;refine wy _ _ (by simp [A6,a]) λi x u a f=>?_;have d:b[i]?=some u:=by simpa using f
 obtain⟨t,rfl⟩:=e i u d;have b:i < n:=by
  have:=(zaf.mp d).1;omega
 unfold A6 at a;rw[tu,zbG b]at a;obtain rfl:=(tF.inj a).symm;refine⟨t,?_⟩;congr 1;omega
def FY{X:Cx}(f:X.calm=true)(g1:Gl X "list")(g:X.mg "list"=none)(g3:Gl X "range")(i:X.mg "range"=none)(j:JE X e te)(hs:starEach [e] X.env=[(false,eval e X.env)]:=by rfl)(a:starEach [.Call (.Name "range" p3) [e] [] d] X.env=[(false,eval (.Call (.Name "range" p3) [e] [] d) X.env)]:=by rfl):JE X (.Call (.Name "list" l) [.Call (.Name "range" p3) [e] [] d] [] m) (tLr te):=.of (by
 refine λd s l H Q I h=>Call_ (Jo I g1 g boot_list (PyProof.Rows.callWith_type1 (x6 a ?_) (by rw[a];rfl) rfl));refine Call_ (Jo I g3 i boot_range (PyProof.Rows.callWith_type1 (x6 hs (jn (j.to d s l H _ I h) λu a ⟨x,_,d,g,i⟩=>?_)) (by rw[hs];rfl) rfl));obtain⟨n,rfl,j,q⟩:=i;obtain⟨t,rfl⟩:=g;refine call_range_1 (call_list_range (d.ok.hd f) (IsRange.new ..) (small_one (by omega) (by omega) (by omega) (by omega)) (y8 n) (by omega) λ_ tk g i l e m=>?_);have f:a.heap.objs.size<=(a.heap.push ({cls:=.type "range",data:=.fields #[.int 0 a.toks,.int n t,.int 1 (a.toks+1)]}:Obj)).objs.size:=by
  rw[zbr];omega
 exact⟨.ref _,_,d.laid (o:=.lst (A6 n)) (λb a o=>l b a (tm _ o)) f ⟨by simp only[A6,tc,zal];exact zab (ql j),g.toList,i,NP m,by simpa using e⟩,rfl,q _ (d.hok.fresh f)⟩)
def uF{X:Cx}(g:X.calm=true):Q6 X (.type "set") (λxs H Q=>∃(p:Addr) (ns:List Int),xs=[.ref p]/\SqL X.K H p (ns.map V.int)/\ns.length<=1000/\∀l S,H l=none->Q (.ref l) (upd H l (.set S (firstMet (λi=>ns.getD i 0) ns.length).length))):=by
 intro _ s _ H xs _ Q I a h;obtain⟨p,ns,rfl,d,_,q⟩:=h;obtain⟨u,rfl,f⟩:=Jy a;cases f;obtain⟨j,a,pl,_⟩:=I.list d;have d:=a.length;rw[tc]at d;have f:j.toArray.size=ns.length:=by rw[t6,<-d]
 refine call_set_list (I.ok.hd g) pl.isList (by simpa using kL a) (by rw[f];show ns.length+1 < 4096;omega) λ_ tk a d=>?_;rw[f]at a;exact⟨.ref s.heap.objs.size,_,I.laid (o:=.set _ _) (λb f e=>d b f (tJ e) e) (tp _) a,rfl,q _ _ (I.hok.fresh (tp _))⟩
def vQ:Q6 X (.builtin "len") (λxs H Q=>∃a S n,xs=[V.ref a]/\H a=some (.set S n)/\Q (.int (n:Nat)) H):=by
 intro _ s _ H xs _ Q I d h;obtain⟨a,S,n,rfl,e,q⟩:=h;obtain⟨u,rfl,g⟩:=Jy d;cases g;obtain⟨_,d,_,t,g,i,j,_,_,b,f,rfl⟩:=(show qH X.prog X.w H s.heap a (.set S n) from I.hok a _ e);refine call_len_set g i j f (by have:d.size < 4096:=b;omega) ⟨.int _,H,I.tok _,⟨_,rfl⟩,q⟩
open PySem PySem.Spec
open PyProof.Rows hiding K lo
def Ew(K:zel)(a:Addr):It:=⟨λi H=>∃b x,SqL K H a b/\b[i]?=some x,
 λi H v e=>∃d,H d=none/\v=.ref d/\∀b x,SqL K H a b->b[i]?=some x->e=upd H d (.tup [.int (i:Nat),x]),
 λi H=>∃b,SqL K H a b/\b.length<=i⟩
def xX(a e it:Addr)(O:e≠it):
  vT P w K (.Tuple b d f) (Ew K a) [e,it] e (λi h=>(∃old,IsEnum h e it i old)/\h.IsListIter it a i) where
 mem:=by simp
 obj:=λi h st c b=>by
  obtain⟨⟨old,f⟩,⟨Q,m,_,d⟩⟩:=st;simp only[tH,zbd,or_false]at b;rcases b with rfl | rfl
  ·exact⟨_,f,λv z=>by cases z⟩
  ·exact⟨Q,m,λv z=>by rw[d]at z;cases z⟩
 keep:=λi h o st k=>by
  obtain⟨⟨old,f⟩,g⟩:=st;exact⟨⟨old,k e (by simp) _ f⟩,g.at λd e=>k it (by simp) d e⟩
 item:=by
  intro X p q r b i T s U H E I j st y;subst p q r;obtain⟨⟨old,f⟩,g⟩:=st;obtain⟨xs,x,l,Y⟩:=y;obtain⟨ac,B,C,_⟩:=I.list l;obtain⟨u,hu,ru⟩:=B.get Y;refine wpAny_pyNext_enum_item f g C.isList (by simpa using hu) O λo J z2 z3 _ D=>⟨_,rfl,wpAny_letOwnedTupleGo_enum J λaa ae sb=>?_⟩;have J:∀c d,s.heap.get? c=some d->s.heap.objs.size≠c:=λc d e=>zbL (tJ e);have L:∀c d,c≠e->o.get? c=some d->aa.get? c=some d:=λc d b e=>(sb.2 c b).trans e;have I1:qw X T U (upd H s.heap.objs.size (.tup [.int (i:Nat),x])) {s with heap:=aa,toks:=s.toks+1}:=I.turnLaid
   (λc d b e=>L c d (λz=>b (by simp [z])) (D c d (λz=>b (by simp [z])) (λz=>b (by simp [z])) e)) j (tp _)
   ⟨sz,[.int i s.toks,u],.cons ⟨_,rfl⟩ (.cons ru .nil),⟨_,L _ _ (J _ _ f) z3,rfl,_,rfl⟩⟩
  refine⟨.ref s.heap.objs.size,_,I1,rfl,⟨s.heap.objs.size,I.hok.fresh (tp _),rfl,λ_ _ af ab=>?_⟩,⟨⟨_,ae⟩,z2.at λd e=>L _ d (Ne.symm O) e⟩,λc b=>?_⟩
  ·rw[I.list_inj af l,Y]at ab;cases ab;rfl
  ·have L:=(j c b).1;by_cases L:c=s.heap.objs.size
   ·subst L;obtain⟨Q,m,_⟩:=g;simp only[tH,zbd,or_false]at b;rcases b with e | e
    ·exact absurd e (J _ _ f)
    ·exact absurd e (J _ _ m)
   ·rwa [qf L]
 done:=by
  intro X p q r b i T s U H E I j st y;subst p q r;obtain⟨⟨old,f⟩,g⟩:=st;obtain⟨xs,l,_⟩:=y;obtain⟨ac,B,C,_⟩:=I.list l;have l:=B.length;exact wpAny_pyNext_enum_end (I.ok.hd b) f g C.isList (by simp;omega) λo D=>⟨rfl,I.turnedL (λc d b e=>D c d (λz=>b (by simp [z])) e) j⟩
 self:=λ_ _ _ _ _ st h=>let ⟨⟨_,f⟩,_⟩:=st;wpAny_pyIter_enum f h
inductive R7(K:zel)(R:It->Hp->Prop)(vs:List V)(H1:Hp):Prop
 | mk (a:_):vs=[.ref a]->((∃xs,SqL K H1 a xs))->(R (Ew K a) H1)->R7 K R vs H1
def F3(K:zel)(a:TA):TI:=λb H R=>a b H λa b=>R7 K R a b
def z7(b:Gl X "enumerate")(d:X.mg "enumerate"=none)(f:JA X [a] g)(hs:starEach [a] X.env=[(false,eval a X.env)]:=by rfl):JI X (.Tuple i j l) (.Call (.Name "enumerate" p) [a] [] pos) (F3 X.K g):=.of (by
 refine λg s i H R I h=>Call_ (Jo I b d boot_enumerate (PyProof.Rows.callWith_type1 (jn (f.to pos g s i H _ I h) λ_ b ⟨_,i,f,d,j⟩=>?_) (by rw[hs];rfl) rfl));obtain⟨l,e,⟨_,m⟩,q⟩:=j;subst e;cases d with
 | cons d j=>
  cases j;cases d;obtain⟨_,_,p,_⟩:=f.list m;refine call_enumerate_list p.isList λ_ j m _ o=>wpAny_pyIter_enum j ?_;have fr:∀c,b.heap.objs.size<=c->Zc X g i c:=λc d=>f.fpOk d (f.hok.fresh d);refine⟨b.heap.objs.size+1,[b.heap.objs.size+1,b.heap.objs.size],_,_,i,rfl,f.kept o,xX l (b.heap.objs.size+1) b.heap.objs.size (Nat.succ_ne_self _),⟨⟨_,j⟩,m⟩,λc d=>?_,q⟩;simp only[tH,zbd,or_false]at d;rcases d with e | e<;>rw[e]<;>first | exact fr _ (Nat.le_add_right _ _) | exact fr _ (tp _))
def Yb{K:zel}{a:Addr}{xs:List V}{g:TG}{l:TS}{D:QN}{b:St}{H:Hp}(Pv:Nat->St->Hp->Prop)(q:Pv 0 b H)(r:∀i b H,i<=xs.length->Pv i b H->SqL K H a xs)
  (hs:∀i x b H p,xs[i]?=some x->H p=none->Pv i b H->g (.ref p) b (upd H p (.tup [.int (i:Nat),x])) λd f=>l {D with nx:=Pv (i+1),ct:=Pv (i+1),bk:=D.nx} d f) (hd:∀b H,Pv xs.length b H->D.nx b H):
  ∃W:Nat->Nat->St->Hp->Prop,(∃m,W 0 m b H)/\∀i m b H,W i m b H->
   ((Ew K a).stop i H/\D.nx b H)\/((Ew K a).go i H/\∃N:St->Hp->Prop,(∀j H',N j H'->∃o,o < m/\W (i+1) o j H')/\∀x H',(Ew K a).yld i H x H'->g x b H' λd f=>l {D with nx:=N,ct:=N,bk:=D.nx} d f):=by
 refine⟨λi m b H=>m=xs.length - i/\i<=xs.length/\Pv i b H,⟨xs.length,by simp,zao _,q⟩,?_⟩;rintro i m b H ⟨rfl,f,p⟩;have d:=r i b H f p;by_cases l:i < xs.length
 ·have f:=tj l;refine .inr ⟨⟨xs,_,d,f⟩,Pv (i+1),λj H' j=>⟨xs.length - (i+1),by omega,rfl,l,j⟩,λx H' j=>?_⟩;obtain⟨l,o,rfl,e⟩:=j;rw[e xs _ d f];exact hs i _ b H l f o p
 ·have e:i=xs.length:=by omega
  subst e;exact .inl ⟨⟨xs,d,tp _⟩,hd b H p⟩
def ZL(ns:List Nat):∀i,i<=ns.length->preSum (λj=>((ns.getD j 0:Nat):Int)) i=(((ns.take i).sum:Nat):Int)
 | 0,_=>by simp [preSum]
 | i+1,h=>by
  have a:=h;show preSum _ i+_=_;rw[ZL ns i (zab a),tN,tj a,zcs];simp [zaq,tj a]
def YP(ns:List Nat)(i:Nat):(ns.take i).sum<=ns.sum:=by
 have h:(ns.take i++ns.drop i).sum=ns.sum:=by rw[zcH]
 rw[zcs]at h;omega
def vF(ns:List Nat)(i:Nat):ns.getD i 0<=ns.sum:=by
 have h:=YP ns (i+1);rw[tN,zcs]at h;rw[zaq];cases e:ns[i]? with
 | none=>exact zao _
 | some x=>
  rw[e]at h;simp at h ⊢;omega
def YJ{X:Cx}(a:X.calm=true):Q6 X (.builtin "sum") (λxs H Q=>∃(p:Addr) (ns:List Nat),xs=[.ref p]/\SqL X.K H p (ns.map λn=>V.int ((n:Nat):Int))/\ns.sum < 2^62/\Q (.int (ns.sum:Nat)) H):=by
 intro _ s _ H xs _ Q I d h;obtain⟨p,ns,rfl,g,_,q⟩:=h;obtain⟨u,rfl,f⟩:=Jy d;cases f;obtain⟨d,f,pl,_⟩:=I.list g;have j:p < s.heap.objs.size:=by
  obtain⟨g,n,e,_⟩:=pl;exact tJ e
 have l:d.toArray.size=ns.length:=by
  have:=f.length;rw[tc]at this;simp only[t6];omega
 have m:X.A.in1.handled=none:=I.ok.hd a;refine call_sum_walk (wpAny_pyIter_list pl.isList ⟨s.heap.objs.size,[s.heap.objs.size,p],[s.heap.objs.size],d.toArray.size,λi v=>d.toArray[i]?=some v,_,λa=>((ns.getD a 0:Nat):Int),rfl,Walks.list m s.heap.objs.size p (tO j) d.toArray,
  ⟨⟨_,tR _ rfl,rfl,rfl⟩,pl.isList.at λg e=>tm _ e⟩,?_,?_,?_,λ_ tk _ o=>?_⟩)
 ·intro b m;show b < (s.heap.push _).objs.size;rw[zbr];simp only[tH,zbd,or_false]at m;rcases m with e | e
  ·rw[e];exact zaF _
  ·rw[e];exact zbX j
 ·intro i v m;have j:d[i]?=some v:=by simpa using m
  cases e:ns[i]? with
  | none=>
   exfalso;have d:(ns.map λn=>V.int ((n:Nat):Int))[i]?=none:=by rw[tu,e];rfl
   rw[qP.none_of f d]at j;cases j
  | some b=>
   have d:(ns.map λn=>V.int ((n:Nat):Int))[i]?=some (V.int b):=by rw[tu,e];rfl
   obtain⟨u,hu,m⟩:=f.get d;rw[j]at hu;cases hu;obtain⟨t,rfl⟩:=m;refine⟨t,?_⟩;show Value.int b t=.int ((ns.getD i 0:Nat):Int) t;rw[zaq,e];rfl
 ·intro a f;rw[l]at f;have d:=vF ns a;have d:=YP ns (a+1);have d:=ZL ns (a+1) f;refine⟨⟨?_,?_⟩,⟨?_,?_⟩⟩
  ·show -(2^63)<=((ns.getD a 0:Nat):Int);omega
  ·show ((ns.getD a 0:Nat):Int) < 2^63;omega
  ·rw[d];omega
  ·rw[d];omega
 ·rw[l,ZL ns _ (tp _),tv (tp _)];exact⟨.int (ns.sum:Nat),H,I.kept λb g e=>o b g (by
   intro z;have a:b=s.heap.objs.size:=by simpa using z
   exact absurd (tJ e) (by rw[a];exact zan _)) (tm _ e),⟨_,rfl⟩,q⟩
open PySem PySem.Spec
open PyProof.Rows hiding K lo
structure ka(fs:List Addr)(ex:List Addr)(h h':Heap):Prop where
 keep:∀b o,b∉fs->b∉ex->h.get? b=some o->h'.get? b=some o
 slot:∀b o,b∈fs->b∉ex->h.get? b=some o->∃sl,h'.get? b=some {o with slots:=sl}
inductive uL(T:Addr)(fl:Value)(h:Heap):Prop
 | mk (ts:_):(h.get? T=some {cls:=.type "traceback",data:=.fields ts})->ts[3]?=some fl->uL T fl h
def uW{A:Around}{s:Shared}{Q:Unit->Shared->Prop}(fr:A.frames=some (env::outer))(i:s.heap.FunFrames base (env::outer))(l:env.frame=some L)(j:s.heap.get? e=some {cls:=cl,dict:=d,data:=.fields vs})(sz:1 < vs.size)(k:∀f T,s.heap.objs.size<=T->ka (Yl (env::outer)) [e] s.heap f->f.get? e=some {cls:=cl,dict:=d,data:=.fields (vs.setIfInBounds 1 (.ref T))}->uL T (rawInt L) f->Q () {s with heap:=f}):
  wpAny M A (frameOf env >>= λa=>entryPlaceOf L g >>= λpl=>EntryCells.newEntry head a .none (rawInt L) .none pl >>= λb=>setField (.ref e) 1 b) Q E s:=by
 have out:e∉Yl (env::outer):=λz=>by
  obtain⟨_,g,f,m⟩:=i.mem z;rw[j]at f;cases f;exact m vs rfl
 refine zen (wpAny_frameOf_fun fr i l λm f=>zen (wpAny_entryPlaceOf λpl l=>?_));have i:=(f.2.1 e out).trans j;unfold EntryCells.newEntry newFields;refine zen (wpAny_newObj_type (wpAny_setField (tm _ i) rfl sz (k _ m.objs.size (zdv f.1.symm) ⟨λb g n1 n2 q=>?_,λb g n1 n2 q=>?_⟩ ?_ ⟨_,(zag _ _ (tO (tJ i))).trans (tR _ rfl),?_⟩)) (l.sizeOk5 _ _ _ _ _))
 ·have j:b≠e:=λz=>n2 (by simp [z]);rw[zag _ _ (Ne.symm j)];exact tm _ ((f.2.1 b n1).trans q)
 ·have j:b≠e:=λz=>n2 (by simp [z]);obtain⟨m,o⟩:=f.2.2 b g q;exact⟨m,by rw[zag _ _ (Ne.symm j)];exact tm _ o⟩
 ·exact zaD _ (tm _ i) rfl
 ·rcases l with rfl | ⟨_,_,_,_,_,_,_,rfl⟩<;>simp
def vw{A:Around}{s:Shared}{Q:Unit->Shared->Prop}(fr:A.frames=some (env::outer))(i:s.heap.FunFrames base (env::outer))(b:env.frame=some L)(f:s.heap.get? e=some {cls:=cl,dict:=d,data:=.fields vs})(g:vs[1]?=some .none)(k:∀a T,s.heap.objs.size<=T->ka (Yl (env::outer)) [e] s.heap a->a.get? e=some {cls:=cl,dict:=d,data:=.fields (vs.setIfInBounds 1 (.ref T))}->uL T (rawInt L) a->Q () {s with heap:=a}):
  wpAny M A (noteFrame (.ref e) env) Q E s:=by
 unfold noteFrame;simp only[b];refine zen (wpAny_field f rfl g ?_);rw[if_neg (show ¬((Value.none != Value.none)=true) by decide)];exact uW fr i b f (zaf.mp g).1 k
def wZ{s:Shared}{env:Env}{Q:Unit->Shared->Prop}(a:env.frame=some L)(b:s.heap.get? e=some {cls:=cl,dict:=d,data:=.fields vs})(f:vs[1]?=some (.ref T))(st:uL T (rawInt L) s.heap)(k:Q () s):
  wpAny M A (noteFrame (.ref e) env) Q E s:=by
 obtain⟨_,g,i⟩:=st;unfold noteFrame;simp only[a];refine zen (wpAny_field b rfl f ?_);rw[if_pos (show (Value.ref T != Value.none)=true by simp)];refine zen (wpAny_field g rfl i ?_);rw[if_pos (show (rawInt L==rawInt L)=true by simp [rawInt])];exact zeo k
def Xi{A:Around}{s:Shared}{Q:Unit->Shared->Prop}(fr:A.frames=some (env::outer))(l:s.heap.FunFrames base (env::outer))(m:env.frame=some L)(p:s.heap.get? e=some {cls:=cl,dict:=d,data:=.fields vs})(r:vs[1]?=some (.ref T))(st:uL T .none s.heap)(ne:T≠e)(k:∀a f,s.heap.objs.size<=f->ka (Yl (env::outer)) [e,T] s.heap a->(∃o,a.get? T=some o)->a.get? e=some {cls:=cl,dict:=d,data:=.fields (vs.setIfInBounds 1 (.ref f))}->uL f (rawInt L) a->Q () {s with heap:=a}):
  wpAny M A (noteFrame (.ref e) env) Q E s:=by
 obtain⟨u,g,i⟩:=st;unfold noteFrame;simp only[m];refine zen (wpAny_field p rfl r ?_);rw[if_pos (show (Value.ref T != Value.none)=true by simp)];refine zen (wpAny_field g rfl i ?_);rw[if_neg (show ¬((Value.none==rawInt L)=true) by simp [rawInt])];refine zen (wpAny_setField g rfl (zaf.mp i).1 ?_);have i:∀b,b≠T->(s.heap.update T (Obj.mapFields (·.setIfInBounds 3 Value.none))).get? b=s.heap.get? b:=λb n=>zag _ _ (Ne.symm n);have y:T∉Yl (env::outer):=λz=>by
  obtain⟨_,o,x,j⟩:=l.mem z;rw[g]at x;cases x;exact j u rfl
 refine uW fr (l.of_keeps λb o l j=>⟨o,(i b λz=>?_).trans l,rfl⟩) m ((i e (Ne.symm ne)).trans p) (zaf.mp r).1 λa f m F p r=>?_
 ·rw[z,g]at l;cases l;exact j u rfl
 ·have j:=zaD (Obj.mapFields (·.setIfInBounds 3 Value.none)) g rfl;refine k a f (t8 (zdv (by simp)) m) ⟨λb o n1 n2 q=>?_,λb o n1 n2 q=>?_⟩ ⟨_,F.keep T _ y (by simp [ne]) j⟩ p r
  ·simp only[tH,zah,or_false,not_or]at n2;exact F.keep b o n1 (by simp [n2.1]) ((i b n2.2).trans q)
  ·simp only[tH,zah,or_false,not_or]at n2;exact F.slot b o n1 (by simp [n2.1]) ((i b n2.2).trans q)
def Jr{s:Shared}{Q:Unit->Shared->Prop}(f:s.heap.get? e=some {cls:=cl,dict:=d,data:=.fields vs})(g:vs[1]?=some (.ref T))(st:uL T i s.heap)(k:∀a,ka fs [T] s.heap a->uL T .none a->Q () {s with heap:=a}):wpAny M A (setFlight (.ref e) none) Q E s:=by
 obtain⟨_,a,i⟩:=st;have lt:=(zaf.mp i).1;refine wpAny_setFlight_none f rfl g a rfl lt (k _ ⟨λb f _ n q=>?_,λb f _ n q=>⟨f.slots,?_⟩⟩ ⟨_,zaD _ a rfl,by simp [lt]⟩)
 all_goals
  rwa [zag _ _ λz=>n (by simp [z])]
structure Ww(ex:List Addr)(n:Nat)(H H':Hp):Prop where
 ext:∀b∈ex,∃φ,H b=some (.ext φ)
 same:∀b o,b∉ex->H b=some o->H' b=some o
 no:∀b,b < n->H b=none->H' b=none
def Ww.out(t:Ww ex n H H')(q:H b=some o)(d:∀a,o≠.ext a):b∉ex:=λz=>by
 obtain⟨a,e⟩:=t.ext b z;rw[q]at e;cases e;exact d a rfl
def Ww.out0(t:Ww ex n H H')(q:H b=none):b∉ex:=λz=>by
 obtain⟨_,e⟩:=t.ext b z;rw[q]at e;cases e
def Un.fly(F:ka fs ex h d)(t:Ww ex h.objs.size H H')(e:∀b∈ex,∃o,d.get? b=some o):Un fs [] H H' h d where
 keep b o q n a _:=F.keep b o a (t.out0 n) q
 slot b o q n a _:=F.slot b o a (t.out0 n) q
 free b o q n _:=t.no b (tJ q) n
 there b o q _:=by
  by_cases d:b∈ex
  ·exact e b d
  ·by_cases a:b∈fs
   ·obtain⟨_,e⟩:=F.slot b o a d q;exact⟨_,e⟩
   ·exact⟨o,F.keep b o a d q⟩
 tups b d q:=t.same b _ (t.out q (by intro a z;cases z)) q
 frzs b o u q:=t.same b _ (t.out q (by intro a z;cases z)) q
 tbls b d q:=⟨#[],by simpa using t.same b _ (t.out q (by intro a z;cases z)) q⟩
def Zd.fly(ok:Zd P w H h)(F:ka fs ex h a)(t:Ww ex h.objs.size H H')(fr:∀b∈fs,H b=none)(new:∀b o,H' b=some o->(H b=none\/b∈ex)->qH P w H' a b o):Zd P w H' a:=λb o q=>by
 by_cases d:b∈ex
 ·exact new b o q (.inr d)
 cases e:H b with
 | none=>exact new b o q (.inl e)
 | some u=>
  have a:=t.same b u d e;rw[q]at a;cases a;refine(ok b o e).stay (λc v a f=>F.keep c v ?_ ?_ f) (λc z=>t.same c _ (t.out z (by intro f z;cases z)) z) (λc _ z=>t.same c _ (t.out z (by intro f z;cases z)) z) (λc o z=>t.same c _ (t.out z (by intro f z;cases z)) z)
  ·intro z;have n:=fr c z;rcases a with rfl | a
   ·rw[e]at n;cases n
   ·rw[a]at n;cases n
  ·rcases a with rfl | a
   ·exact d
   ·exact t.out a (by intro f z;cases z)
open PySem PySem.Spec
open PyProof.Rows hiding K lo
def XA(T:Addr)(a:Value):HO:=.ext (uL T a)
def ZH(x:uL T a h):qH P w H h T (XA T a):=by
 obtain⟨a,q,z⟩:=x;exact⟨⟨a,q,z⟩,⟨_,q⟩,λ_ _ ⟨a,b,d⟩ k=>⟨a,k _ b,d⟩⟩
def Qb(P:Program)(w:World):yc:=λm H s E e f=>∃a j l g i d,e=.ref a/\f.os=s.os/\AllBare f.gens/\Un (Yl m) [] H d s.heap f.heap/\Zd P w d f.heap/\
 d a=some (Qh a j l (.ref g))/\d g=some (XA g .none)/\i g=none/\i a=some (Zt a j l)/\(∀b f,b≠a->i b=some f->d b=some f)/\E (.ref j) (some l) i
def Ul(X:Cx)(E:XK):Prop:=∀(e:List (Addr×Obj)) (f:St) (H:Hp) (s:Shared) (a b d:Addr),qw X e f H s->H a=some (Zt a b d)->E (.ref b) (some d) H->X.xe (.ref a) s
def qw.flown(I:qw X d e H s)(F:ka (Yl X.stack) ex s.heap a)(t:Ww ex s.heap.objs.size H H')(f:∀b∈ex,∃o,a.get? b=some o)(new:∀b o,H' b=some o->(H b=none\/b∈ex)->qH X.prog X.w H' a b o):qw X d e H' {s with heap:=a}:=
 I.call (Un.fly F t f) (Zd.fly I.hok F t I.stkFree new) I.bare λb z=>absurd z (by simp)
def ka.then(F:ka fs ex h d)(G:ka fs [T] d e)(a:h.objs.size<=T):ka fs ex h e where
 keep b o n1 n2 q:=G.keep b o n1 (by simp;exact tO (tI (tJ q) a)) (F.keep b o n1 n2 q)
 slot b o n1 n2 q:=by
  obtain⟨_,d⟩:=F.slot b o n1 n2 q;obtain⟨e,f⟩:=G.slot b _ n1 (by simp;exact tO (tI (tJ q) a)) d;exact⟨e,f⟩
def Ji:Ul (Qq (Qb P w) P w K mg base N qual scope f i A outer s₀ H₀ E) E:=by
 intro _ _ H s a j l I g y;obtain⟨⟨r,d,o⟩,_,_⟩:=(show qH P w H s.heap a (Qh a j l .none) from I.hok a _ g);show wpAny _ _ (leaving _ _) _ _ s;unfold leaving;refine zen (vw I.ok.frames I.stack rfl d o λ_ e m F d p=>?_);have lt:=(zaf.mp o).1;have g1:(r.setIfInBounds 1 (Value.ref e))[1]?=some (.ref e):=by simp [lt]
 have r:e≠a:=λz=>by
  obtain⟨_,q,_⟩:=p;rw[z,d]at q;cases q
 refine Jr (fs:=Yl (Qq (Qb P w) P w K mg base N qual scope f i A outer s₀ H₀ E).stack) d g1 p λ_ p st=>?_;have x:a∉Yl (Qq (Qb P w) P w K mg base N qual scope f i A outer s₀ H₀ E).stack:=λz=>by
  have:=I.stkFree a z;rw[g]at this;cases this
 have o:=I.hok.fresh m;have u:=p.keep a _ x (by simp [Ne.symm r]) d;have i:=I.flown (H':=upd (upd H a (Qh a j l (.ref e))) e (XA e .none)) (ka.then F p m) ⟨λb d=>by cases tM.mp d;exact⟨_,g⟩,λb x d q=>by
   rwa [qf (qm q o),qf λz=>d (by simp [z])],λb d q=>by
   rwa [qf (tO (tI d m)),qf λz=>by rw[z,g]at q;cases q]⟩ (λb d=>by cases tM.mp d;exact⟨_,u⟩) λb x q d=>by
  by_cases m:b=e
  ·subst m;rw[qc]at q;cases q;exact ZH st
  ·rw[qf m]at q;by_cases m:b=a
   ·subst m;rw[qc]at q;cases q;exact Zs ⟨_,u,g1⟩
   ·rw[qf m]at q;rcases d with d | d
    ·rw[q]at d;cases d
    ·exact absurd (tM.mp d) m
 exact⟨a,j,l,e,H,_,rfl,i.os,i.bare,i.base,i.hok,by rw[qf (Ne.symm r),qc],qc ..,o,g,λb x d q=>by rwa [qf (qm q o),qf d],y⟩
def qQ:jY (Qb P w) (Qq (Qb P w) P w K mg base N qual scope f p A outer s₀ H₀ E) E:=by
 intro _ _ H s e d i j;obtain⟨a,x,y,g,L,m,rfl,os,bare,un,r,o,l,U,Y,O,hE⟩:=j;have I:=i.call' os un r bare λb z=>absurd z (by simp);obtain⟨⟨C,i,j⟩,_,_⟩:=(show qH P w m d.heap a (Qh a x y (.ref g)) from I.hok a _ o);obtain⟨r,_,_⟩:=(show qH P w m d.heap g (XA g .none) from I.hok g _ l);have Q:g≠a:=λz=>by
  obtain⟨D,q,_⟩:=r;rw[z,i]at q;cases q
 show wpAny _ _ (leaving _ _) _ _ d;unfold leaving;refine zen (Xi I.ok.frames I.stack rfl i j r Q λh1 i B F J d r=>?_);have lt:=(zaf.mp j).1;have g1:(C.setIfInBounds 1 (Value.ref i))[1]?=some (.ref i):=by simp [lt]
 have C:i≠a:=λz=>by
  obtain⟨D,q,_⟩:=r;rw[z,d]at q;cases q
 refine Jr (fs:=Yl (Qq (Qb P w) P w K mg base N qual scope f p A outer s₀ H₀ E).stack) d g1 r λh2 D st=>?_;have r:∀b j,m b=some j->b∉Yl (Qq (Qb P w) P w K mg base N qual scope f p A outer s₀ H₀ E).stack:=λb j q z=>by
  have:=I.stkFree b z;rw[q]at this;cases this
 have p:=I.hok.fresh B;have T:=D.keep a _ (r a _ o) (by simp [Ne.symm C]) d;obtain⟨_,d⟩:=J;have J:=D.keep g _ (r g _ l) (by simp [Ne.symm ((qm l p).symm)]) d;have r:=I.flown (H':=upd (upd (upd m a (Qh a x y (.ref i))) g (.ext λh=>∃j,h.get? g=some j)) i (XA i .none)) (ka.then F D B) ⟨λb d=>by
   simp only[tH,zah,or_false]at d;rcases d with rfl | rfl
   ·exact⟨_,o⟩
   ·exact⟨_,l⟩,λb j d q=>by
   simp only[tH,zah,or_false,not_or]at d;rwa [qf (qm q p),qf d.2,qf d.1],λb d q=>by
   rwa [qf (tO (tI d B)),qf (λz=>by rw[z,l]at q;cases q),qf (λz=>by rw[z,o]at q;cases q)]⟩ (λb d=>by
   simp only[tH,zah,or_false]at d;rcases d with rfl | rfl
   ·exact⟨_,T⟩
   ·exact⟨_,J⟩) λb j q d=>by
  by_cases l:b=i
  ·subst l;rw[qc]at q;cases q;exact ZH st
  ·rw[qf l]at q;by_cases l:b=g
   ·subst l;rw[qc]at q;cases q;exact⟨⟨_,J⟩,⟨_,J⟩,λh1 h2 ⟨u,z⟩ k=>⟨u,k u z⟩⟩
   ·rw[qf l]at q;by_cases m:b=a
    ·subst m;rw[qc]at q;cases q;exact Zs ⟨_,T,g1⟩
    ·rw[qf m]at q;rcases d with d | d
     ·rw[q]at d;cases d
     ·simp only[tH,zah,or_false]at d;exact(d.elim m l).elim
 refine⟨a,x,y,i,L,_,rfl,r.os,r.bare,r.base,r.hok,by rw[qf (Ne.symm C),qf (Ne.symm Q),qc],qc ..,?_,Y,λb j d q=>?_,hE⟩
 ·cases e:L i with
  | none=>rfl
  | some j=>
   have:=O i j C e;rw[p]at this;cases this
 ·have n1:b≠g:=λz=>by rw[z,U]at q;cases q
  have g:=O b j d q;rwa [qf (qm g p),qf n1,qf d]
open PySem PySem.Spec
open PyProof.Rows hiding K lo
def ww{A:Around}{b:Obj}{Q:Flow->Shared->Prop}(j:A.handled=none)(l:b.cls=.type "type")(hs:∀(h:Heap) (g d t os) (Q:Bool->Shared->Prop),h.get? C=some b->Q true ⟨h,g,d,t,os⟩->wpAny M A (isSubtype (.ref C) (.type "BaseException")) Q E ⟨h,g,d,t,os⟩)(h:wpAny M A x (λv a=>∃e i f,v=.ref e/\a.heap.get? C=some b/\a.heap.get? e=some {cls:=.ref C,dict:=some i,data:=.fields f}/\f[1]?=some Value.none/\E (.ref e) a) E s):
  wpAny M A (raiseStmt env (some x) none) Q E s:=by
 unfold raiseStmt;refine zen (jn h λv a l=>?_);obtain⟨e,i,f,rfl,b,m,o,p⟩:=l;obtain⟨_,g,d,tk,os⟩:=a
 repeat (first | with_reducible refine wpAny_loadPart_at m ?_ | with_reducible refine wpAny_loadPart_at b ?_ | with_reducible refine hs _ _ _ _ _ _ b ?_ | wp_step)
 rw[o];refine zeo ?_;rw[if_neg (show ¬((Value.none != Value.none)=true) by decide)];exact zeo (wpAny_raiseNew_none j p)
inductive AY(K:zel)(C:Addr):Prop
 | mk (f:_) (bm:_):Hj K C f bm->bm.contains (.type "BaseException")=true->AY K C
inductive yY(K:zel)(E:XK)(v:V)(H1:Hp):Prop
 | mk (a:_) (C:_) (dx:_):v=.ref a->H1 a=some (Zt a C dx)->AY K C->(E (.ref C) (some dx) H1)->yY K E v H1
def CO(K:zel)(E:XK)(te:TE):TS:=λD a H=>te a H λv a=>yY K E v a
def ZR{X:Cx}(r:X.calm=true)(y:Ul X E)(B:JE X e te):JS X (.Raise (some e) none pos) (CO X.K E te):=.of (by
 intro l s o H D I h;have fF:∀x:Sem Value,wpAny (model X.prog X.w) X.A x (λu m=>∃v g,qw X l o g m/\qU v u/\∃a b i,v=.ref a/\g a=some (Zt a b i)/\AY X.K b/\E (.ref b) (some i) g) X.xe s->
   wpAny (model X.prog X.w) X.A (raiseStmt X.env (some x) none) (SP X l D) X.xe s:=λx j=>by
  unfold raiseStmt;refine zen (jn j λu m ⟨v,g,j,C,a,b,i,J,p,⟨f,L,em,O⟩,T⟩=>?_);subst J;obtain rfl:u=Value.ref a:=C;obtain⟨_,q,N,bs,_,_,sub,_,_,_,_,_,_,_,_,C⟩:=em.obj;obtain⟨⟨J,U,Y⟩,_,_⟩:=(show qH X.prog X.w g m.heap a (Qh a b i .none) from j.hok a _ p);have aa:=ww (M:=model X.prog X.w) (env:=X.env) (Q:=SP X l D) (j.ok.hd r) rfl (λh _ d t os Q z k=>wpAny_isSubtype_exc z (by
   rwa [show (Value.ref b::L).contains (.type "BaseException")=true by rw[zbB,O,Bool.or_true]])) (zeo ⟨a,i,J,rfl,j.kIn _ _ C,U,Y,y l o g m a b i j p T⟩)
  exact aa
 rw[arm_exec_Raise];exact zen (wpAny_standAt (fF _ (zen (jn (B.to l s o H _ I h) λu m ⟨v,g,j,l,a,b,i,m,o,p,r⟩=>zen (wpAny_standAt (zeo ⟨v,g,j,l,a,b,i,m,o,p,r⟩)))))))
open PySem PySem.Spec
open PyProof.Rows hiding K lo
def uC{M:Model}{A:Around}{E:Value->Shared->Prop}{h:Heap}{g:Array GenState}{d:Drawn}{t:Nat}{os:OsState}{e C D:Addr}{b l:Obj}{m:Option Addr}{o:Array (Option Value)}{p}{a i:List Value}{Q:Bool->Shared->Prop}
  (q:h.get? e=some b) (r:b.cls=.ref C) (B:h.get? C=some l) (u:h.get? D=some ⟨.type "type",m,.cls p,o⟩)
  (x:∀(T:Value) (Q:Bool->Shared->Prop),Q (a.contains T) ⟨h,g,d,t,os⟩->wpAny M A (isSubtype (.ref C) T) Q E ⟨h,g,d,t,os⟩)
  (y:∀(T:Value) (Q:Bool->Shared->Prop),Q (i.contains T) ⟨h,g,d,t,os⟩->wpAny M A (isSubtype (.ref D) T) Q E ⟨h,g,d,t,os⟩)
  (z:i.contains (.type "BaseException")=true)
  (j:Q (a.contains (.ref D)) ⟨h,g,d,t,os⟩):wpAny M A (excMatches (.ref e) (.ref D)) Q E ⟨h,g,d,t,os⟩:=by
 have f:=tc_notTuple;unfold excMatches
 repeat (first | (with_reducible refine wpAny_loadPart_at q ?_;rw[r]) | with_reducible refine wpAny_loadPart_at u ?_ | (with_reducible refine x _ _ ?_) | (with_reducible refine y _ _ ?_;rw[z]) | wp_step)
 cases b:a.contains (.ref D)<;>(rw[b]at j;wp_walk;exact j)
open PySem PySem.Spec
open PyProof.Rows hiding K lo
def Zw(d:yc)(X:Cx)(E:St->XK):Prop:=∀(f:List (Addr×Obj)) (a:St) (H:Hp) (s:Shared) (e:Value) (b:Shared),qw X f a H s->d X.stack H s (E a) e b->X.xe e b
def jY.s(h:jY a X E):Zw a X λ_=>E:=h
def u7(b:Sp)(d:List V)(E:St->XK)(t:TA):TE:=λa H Q=>t a H λe f=>b (e++d) f Q (E a)
def y7{X:Cx}(F:qp X.prog X.w X.K X.mg X.base i k f j ps l)(hr:ji k X.A)(m:jy X.K j ps b)(hd:qP d b)(o:Zw i X E)(I:qw X e a H s)(r:qP vs us)(h:l (vs++d) H Q (E a)):wpAny (model X.prog X.w) X.A (call (.ref f) us) (EP X e a Q) X.xe s:=by
 have g:=r.append hd;refine wpAny_call (codeAny_mono (F.run X.A X.stack s H ⟨us,[]⟩ (us++b) (vs++d) Q (E a) hr I.env0 (m s us I.kIn (g.length.symm.trans (F.len _ _ _ _ h))) g h) λz b q=>?_)
 match z,q with
 | .error y,q=>exact o e a H s y b I q
 | .ok (.ret u),q=>exact I.after q
def GG{X:Cx}(F:qp X.prog X.w X.K X.mg X.base d k f g ps i)(hr:ji k X.A)(j:Gl X x)(l:X.mg x=some (.ref f))(m:zaw X.K (.ref f)=true)(o:jy X.K g ps r)(hd:qP u r)(y:Zw d X E)(z:PA X (e::a) t)(B:(x==("__debug__":Str))=false:=by decide)(C:starEach (e::a) X.env=(false,eval e X.env)::starEach a X.env:=by rfl)(D:(backTo pos (starEach a X.env)).any (·.1)=false:=by rfl):
  PE X (.Call (.Name x p) (e::a) [] pos) (u7 i u E t):=by
 refine λa s b H Q I h=>wpAny_Call_Name_kw (z4 I j l (zbm I.ok.mod.kin m (jn (z pos a s b H _ I h) λ_ _ ⟨_,_,b,J,q⟩=>⟨b.kIn,y7 F hr o hd y b J q⟩) C D) B)
open PySem PySem.Spec
open PyProof.Rows hiding K lo
def IQ{us:List Value}(h:us.length=0):us=[]:=zap h
def Am{us:List Value}(h:us.length=n+1):∃a r,us=a::r/\r.length=n:=by
 cases us with
 | nil=>cases h
 | cons a r=>exact⟨a,r,rfl,zdc.inj h⟩
def ug{us:List Value}(h:us.length=1):∃a,us=[a]:=by
 obtain⟨a,_,rfl,b⟩:=Am h;exact⟨a,by rw[IQ b]⟩
def WI{us:List Value}(h:us.length=2):∃a b,us=[a,b]:=by
 obtain⟨a,_,rfl,d⟩:=Am h;obtain⟨b,rfl⟩:=ug d;exact⟨a,b,rfl⟩
def An{us:List Value}(h:us.length=3):∃a b c,us=[a,b,c]:=by
 obtain⟨a,_,rfl,d⟩:=Am h;obtain⟨b,c,rfl⟩:=WI d;exact⟨a,b,c,rfl⟩
def FQ{us:List Value}(h:us.length=4):∃a b c d,us=[a,b,c,d]:=by
 obtain⟨a,_,rfl,e⟩:=Am h;obtain⟨b,c,d,rfl⟩:=An e;exact⟨a,b,c,d,rfl⟩
open PySem PySem.Spec
open PyProof.Rows hiding K lo
abbrev Cx.suite(X:Cx)(a:Value)(E:Value->Shared->Prop):Cx:={X with A:=X.A.mark (some a),calm:=false,xe:=E}
abbrev Cx.tried(X:Cx)(pn:List (Addr×Obj))(E:Value->Shared->Prop):Cx:={X with xe:=E,pn:=pn}
def Cx.Ok.suite{X:Cx}(o:X.Ok)(a:Value)(E:Value->Shared->Prop):(X.suite a E).Ok:=⟨o.mod,o.kind,o.glob,o.blt,o.above,o.inj,o.has,o.cab,λz=>zcJ z,o.frames,o.stk,o.exf,o.bs,o.bsz,o.noex,o.exfs,o.funs,o.frf⟩
def Cx.Ok.tried{X:Cx}(o:X.Ok)(pn:List (Addr×Obj))(E:Value->Shared->Prop):(X.tried pn E).Ok:=⟨o.mod,o.kind,o.glob,o.blt,o.above,o.inj,o.has,o.cab,o.hd,o.frames,o.stk,o.exf,o.bs,o.bsz,o.noex,o.exfs,o.funs,o.frf⟩
def qw.suite(I:qw X b d H s)(a:Value)(E:Value->Shared->Prop):qw (X.suite a E) b d H s:=⟨I.ok.suite a E,I.os,I.bare,I.base,I.loc,I.cell,I.free,I.freeC,I.pin,I.hok,I.len⟩
def qw.unsuite(d:qw X b f g i)(I:qw (X.suite a E) b e H s):qw X b e H s:=⟨d.ok,I.os,I.bare,I.base,I.loc,I.cell,I.free,I.freeC,I.pin,I.hok,I.len⟩
def qw.tried(I:qw X a b H s)(E:Value->Shared->Prop):qw (X.tried (X.pn++a) E) [] b H s:=⟨I.ok.tried _ E,I.os,I.bare,I.base,I.loc,I.cell,I.free,I.freeC,λa b=>I.pin a (by simpa using b),I.hok,I.len⟩
def qw.untried(b:qw X a e f g)(I:qw (X.tried (X.pn++a) E) i d H s):qw X a d H s:=⟨b.ok,I.os,I.bare,I.base,I.loc,I.cell,I.free,I.freeC,λa b=>I.pin a (zac _ b),I.hok,I.len⟩
def Xp{Q:Unit->Shared->Prop}(I:qw X j f H s)(hN:X.N.Nodup)(r:X.N[i]?=some x)(B:X.env.scope.names.lookup x=some .local)(h:∀g,qw X j (f.set i none) H g->Q () g):wpAny M A (do bindName X.env x .none;unbindBehindTheSuite X.env x pos) Q F s:=by
 obtain⟨m,o,D⟩:=id I.loc;have J:i < f.length:=by rw[I.len];exact(td.mp r).1
 have cne:=I.cne;have L:∀{a:Addr} {j:Heap},(∃g,s.heap.get? a=some g/\H a=none)->Heap.SameBut a s.heap j->Zd X.prog X.w H j:=λ{a j} l f b u e=>by
  obtain⟨_,_,p⟩:=l;refine(I.hok b u e).stay (λc u l q=>(f.2 c ?_).trans q) (λ_ q=>q) λ_ _ q=>q;rintro rfl;rcases l with rfl | l
  ·rw[p]at e;cases e
  ·rw[p]at l;cases l
 refine wpAny_nameGoes_keeps B o (by rw[I.ok.kind];rfl) λj v0 j f=>?_;obtain⟨oL,_,_,O,_⟩:=id o;refine h _ ⟨I.ok,I.os,I.bare,⟨λb g e n p l=>?_,λb g e n p l=>?_,I.base.free,λb g e l=>?_,I.base.tups,I.base.frzs,I.base.tbls⟩,⟨_,j,λB y T j o U=>?_⟩,λy c e=>?_,I.free,I.freeC,λC Y=>?_,L ⟨oL,O,I.free⟩ f,by simpa using I.len⟩
 ·exact(f.2 b (tO (tI (tJ e) I.ok.above))).trans (I.base.keep b g e n p l)
 ·obtain⟨L,j⟩:=I.base.slot b g e n p l;exact⟨L,(f.2 b (tO (tI (tJ e) I.ok.above))).trans j⟩
 ·obtain⟨p,j⟩:=I.base.there b g e l;exact⟨p,(f.2 b (tO (tI (tJ e) I.ok.above))).trans j⟩
 ·by_cases g:B=i
  ·subst g;rw[zbK J]at o;cases o
  ·rw[zbY (Ne.symm g)]at o;obtain⟨l,p,q⟩:=D B y T j o U;refine⟨l,p,?_⟩;rcases q with ⟨k,e⟩ | ⟨k,c,e,z⟩
   ·refine .inl ⟨k,?_⟩;have:y≠x:=λe=>g (X2 hN j (e▸r));simp [this,e]
   ·exact .inr ⟨k,c,e,z.sameBut f (cne y c e)⟩
 ·obtain⟨u,z⟩:=I.cell y c e;exact⟨u,z.sameBut f (cne y c e)⟩
 ·obtain⟨e,n,ne,g,d⟩:=I.pin C Y;exact⟨(f.2 C.1 ne).trans e,n,ne,g,d⟩
abbrev TH:=Addr->Addr->Addr->TS
def PH(X:Cx)(hs:List ExceptHandler)(t:TH):Prop:=
 ∀(d:List (Addr×Obj)) (s:Shared) (e:St) (H:Hp) (D:QN) (a f g b:Addr),qw X d e H s->H a=some (Qh a f g (.ref b))->H b=some (XA b .none)->t f a g D e H->
  wpAny (model X.prog X.w) X.A (handleBy (.ref a) X.env hs) (SP X d D) X.xe s
def Na:TH:=λ_ _ _ _ _ _=>False
def ub:PH X hs Na:=λ_ _ _ _ _ _ _ _ _ _ _ _ h=>h.elim
def QN.gone(D:QN)(j:Nat):QN:={nx:=λa H=>D.nx (a.set j none) H,rt:=D.rt,bk:=λa H=>D.bk (a.set j none) H,ct:=λa H=>D.ct (a.set j none) H}
def yo(K:zel)(Cl:Addr)(j:Nat)(ts:TS)(g:TH):TH:=λb a i D d H=>∃f e,Hj K b f e/\
 if (Value.ref b::e).contains (.ref Cl)=true then ts (D.gone j) (d.set j (some (.ref a))) H else g b a i D d H
inductive A2(K:zel)(C:Addr):Prop
 | mk (bm:_):((∃nm q N bs gn sn sub ab g_ dd k0 k1 k2 k3 k5,K.lookup C=some (excClassObj nm q C N bs bm gn sn sub ab g_ dd k0 k1 k2 k3 k5 "ValueError.__new__")))->bm.contains (.type "BaseException")=true->A2 K C
def kU{X:Cx}{x n:Str}{p pos:Pos}{j:Nat}{Y:Stmt}{suite:List Stmt}{rest:List ExceptHandler}{ts:TS}{tr:TH}{Cl:Addr}(hg:Gl X x)(hm:X.mg x=some (.ref Cl))(hD:A2 X.K Cl)(hN:X.N.Nodup)(y:X.N[j]?=some n)
  (m:X.env.scope.names.lookup n=some .local) (hs:∀v E,NI (X.suite v E) (Y::suite) ts) (hr:PH X rest tr) (ac:(x==("__debug__":Str))=false:=by decide):PH X (.ExceptHandler (some (.Name x p)) (some n) (Y::suite) pos::rest) (yo X.K Cl j ts tr):=by
 intro C s σ H D a J dx g I ha B h;obtain⟨f,bm,em,h⟩:=h;obtain⟨ai,ae,hB⟩:=hD;refine wpAny_handleBy_cons (codeAny_handlers_test ?_) (by intro q;cases q);refine wpAny_mono (xi (X:=X.suite (.ref a) _) (v:=.ref Cl) hg hm rfl ac C s σ H (λv o=>v=.ref Cl/\o=H) (I.suite _ _) ⟨rfl,rfl⟩) (λc L q=>?_) (λ_ _ z=>z);obtain⟨v,o,I1,rv,rfl,rfl⟩:=q;obtain rfl:c=Value.ref Cl:=rv;have r:=I.unsuite I1;obtain⟨nm,q,N,bs,aj,sn,sub,ab,ak,dd,k0,k1,k2,k3,k5,hC⟩:=em.obj;obtain⟨al,q',N',am,an,ao,ap,aq,ar,as,au,av,aw,ay,az,af⟩:=ae;obtain⟨⟨fl,he,hz⟩,_,_⟩:=(show qH X.prog X.w o L.heap a (Qh a J dx (.ref g)) from r.hok a _ ha);obtain⟨st,_,_⟩:=(show qH X.prog X.w o L.heap g (XA g .none) from r.hok g _ B);have gC:=r.kIn _ _ hC;have gD:=r.kIn _ _ af;obtain⟨hp,aA,d,tk,os⟩:=L;refine uC he rfl gC gD (λg Q k=>wpAny_isSubtype_exc gC k) (λg Q k=>wpAny_isSubtype_exc gD k) (by rw[zbB,hB,Bool.or_true]) ?_;cases hb:(Value.ref J::bm).contains (.ref Cl) with
 | false=>
  rw[hb,if_neg tK]at h;exact hr C _ σ o D a J dx g r ha B h
 | true=>
  rw[hb,if_pos rfl]at h;refine(show codeAny _ _ _ _ _ from codeAny_handlers_suite_as (Jr (fs:=Yl X.stack) he hz st λh' F aa=>?_));have I3:=r.flown F ⟨λb e=>by cases tM.mp e;exact⟨_,B⟩,λb ag _ z=>z,λb _ z=>z⟩ (λb e=>by cases tM.mp e;obtain⟨aB,z,_⟩:=aa;exact⟨_,z⟩) λb ag z e=>by
   rcases e with e | e
   ·rw[z]at e;cases e
   ·cases tM.mp e;rw[B]at z;cases z;exact ZH aa
  refine zH I3 hN y (.inl m) (v:=.ref a) rfl (λs' I4=>wpAny_mono (hs (.ref a) _ C s' _ o (D.gone j) (I4.suite _ _) h) (λfl s3 q=>?_) (λ_ _ z=>z)) (.inr m);cases fl with
  | next=>
   obtain⟨O,T,i,q⟩:=q;exact Xp (I.unsuite i) hN y m λU l=>⟨_,_,l,q⟩
  | brk=>
   obtain⟨O,T,i,q⟩:=q;exact Xp (I.unsuite i) hN y m λU l=>⟨_,_,l,q⟩
  | cont=>
   obtain⟨O,T,i,q⟩:=q;exact Xp (I.unsuite i) hN y m λU l=>⟨_,_,l,q⟩
  | ret u=>
   obtain⟨v,O,T,i,ah,q⟩:=q;exact Xp (I.unsuite i) hN y m λU l=>⟨v,_,_,l,ah,q⟩
inductive Bu(tb:(St->XK)->TS)(th:TH)(D:QN)(σ:St)(H:Hp):Prop
 | mk (R:Addr->Addr->Hp->Prop):(tb (λf6 c d Hx=>f6=σ/\∃C dx,c=.ref C/\d=some dx/\R C dx Hx) D σ H)->(∀(a C dx T:Addr) (Hx H':Hp),R C dx Hx->Hx a=some (Zt a C dx)->(∀b o,b≠a->Hx b=some o->H' b=some o)->H' a=some (Qh a C dx (.ref T))->th C a dx D σ H')->Bu tb th D σ H
def Fo(a:(St->XK)->TS)(b:TH):TS:=λD d H=>Bu a b D d H
def NS{X:Cx}{tb:(St->XK)->TS}(aa:X.stack=X.env::X.outer)(af:X.env.frame=some X.env.locals)(d:∀(pn:List (Addr×Obj)) (W:Value->Shared->Prop) (E:St->XK),Zw (Qb X.prog X.w) (X.tried pn W) E->NI (X.tried pn W) fu (tb E))(hh:PH X (h0::hs) th):PS X (.Try fu (h0::hs) [] [] pos) (Fo tb th):=by
 intro J s σ H D I h;obtain⟨R,ag,hx⟩:=h;refine wpAny_Try_except (wpAny_mono (d (X.pn++J) (λe ah=>wpAny (model X.prog X.w) X.A (noteFrame e X.env) (λ_ ai=>wpAny (model X.prog X.w) X.A (setFlight e none) (λ_ aj=>wpAny (model X.prog X.w) X.A (handleBy e X.env (h0::hs)) (SP X J D) X.xe aj) X.xe ai) X.xe ah) _ ?_ [] s σ H D (I.tried _) ag) (λf s1 q=>?_) (λ_ _ z=>z))
 ·intro ar l H1 s1 e s' I1 hc;obtain⟨a,r,x,i,Hx,y,rfl,os,bare,un,ak,C,B,al,am,an,rfl,C',as,eC,eD,hR⟩:=hc;cases eC;cases eD;have m:=I.untried (I1.call' os un ak bare λb z=>absurd z (by simp));obtain⟨⟨fl,he,hz⟩,_,_⟩:=(show qH X.prog X.w y s'.heap a (Qh a r x (.ref i)) from m.hok a _ C);obtain⟨ab,_,_⟩:=(show qH X.prog X.w y s'.heap i (XA i .none) from m.hok i _ B);have ac:i≠a:=λz=>by
   obtain⟨ts,q,_⟩:=ab;rw[z,he]at q;cases q
  have fr:=m.ok.frames;have ff:=m.stack;rw[aa]at fr ff;refine Xi fr ff af he hz ab ac λh1 g L F tT O q2=>?_;have lt:=(zaf.mp hz).1;have g1:(fl.setIfInBounds 1 (Value.ref g))[1]?=some (.ref g):=by simp [lt]
  have nT:g≠a:=λz=>by
   obtain⟨ts,q,_⟩:=q2;rw[z,O]at q;cases q
  refine Jr (fs:=Yl X.stack) O g1 q2 λh2 Q ao=>?_;have ae:∀b j,y b=some j->b∉Yl X.stack:=λb j q z=>by
   have:=m.stkFree b z;rw[q]at this;cases this
  have T:=m.hok.fresh L;have q3:=Q.keep a _ (ae a _ C) (by simp [Ne.symm nT]) O;obtain⟨oT,ap⟩:=tT;have U:=Q.keep i _ (ae i _ B) (by simp [Ne.symm ((qm B T).symm)]) ap;rw[<-aa]at F;have I3:=m.flown (H':=upd (upd (upd y a (Qh a r x (.ref g))) i (.ext λh=>∃j,h.get? i=some j)) g (XA g .none)) (ka.then F Q L) ⟨λb d=>by
    simp only[tH,zah,or_false]at d;rcases d with rfl | rfl
    ·exact⟨_,C⟩
    ·exact⟨_,B⟩,λb j d q=>by
    simp only[tH,zah,or_false,not_or]at d;rwa [qf (qm q T),qf d.2,qf d.1],λb d q=>by
    rwa [qf (tO (tI d L)),qf (λz=>by rw[z,B]at q;cases q),qf (λz=>by rw[z,C]at q;cases q)]⟩ (λb d=>by
    simp only[tH,zah,or_false]at d;rcases d with rfl | rfl
    ·exact⟨_,q3⟩
    ·exact⟨_,U⟩) λb j q d=>by
   by_cases e1:b=g
   ·subst e1;rw[qc]at q;cases q;exact ZH ao
   ·rw[qf e1]at q;by_cases Y:b=i
    ·subst Y;rw[qc]at q;cases q;exact⟨⟨_,U⟩,⟨_,U⟩,λh1 h2 ⟨u,z⟩ k=>⟨u,k u z⟩⟩
    ·rw[qf Y]at q;by_cases e3:b=a
     ·subst e3;rw[qc]at q;cases q;exact Zs ⟨_,q3,g1⟩
     ·rw[qf e3]at q;rcases d with d | d
      ·rw[q]at d;cases d
      ·simp only[tH,zah,or_false]at d;exact(d.elim e3 Y).elim
  have ea:upd (upd (upd y a (Qh a r x (.ref g))) i (.ext λh=>∃j,h.get? i=some j)) g (XA g .none) a=some (Qh a r x (.ref g)):=by rw[qf (Ne.symm nT),qf (Ne.symm ac),qc]
  refine hh J _ l _ D a r x g I3 ea qc (hx a r x g Hx _ hR am (λb j nb q=>?_) ea);have q':=an b j nb q;rw[qf (qm q' T),qf (λz=>by rw[z,al]at q;cases q),qf nb];exact q'
 ·cases f with
  | next=>
   obtain⟨l,o,p,q⟩:=q;exact wpAny_execs_nil ⟨l,o,I.untried p,q⟩
  | brk=>
   obtain⟨l,o,p,q⟩:=q;exact⟨l,o,I.untried p,q⟩
  | cont=>
   obtain⟨l,o,p,q⟩:=q;exact⟨l,o,I.untried p,q⟩
  | ret u=>
   obtain⟨v,l,o,p,aq,q⟩:=q;exact⟨v,l,o,I.untried p,aq,q⟩
@[irreducible] def JH (X:Cx) (hs:List ExceptHandler) (t:TH):Prop:=PH X hs t
def JH.of(h:PH X hs t):JH X hs t:=by unfold JH;exact h
def JH.to(h:JH X hs t):PH X hs t:=by unfold JH at h;exact h
def RO:JH X hs Na:=.of ub
def RP{X:Cx}{x n:Str}{p pos:Pos}{j:Nat}{a:Stmt}{suite:List Stmt}{rest:List ExceptHandler}{ts:TS}{b:TH}{Cl:Addr}(d:Gl X x)(e:X.mg x=some (.ref Cl))(f:A2 X.K Cl)(hN:X.N.Nodup)(g:X.N[j]?=some n)
  (i:X.env.scope.names.lookup n=some .local) (hs:∀v E,Xw (X.suite v E) (a::suite) ts) (hr:JH X rest b) (l:(x==("__debug__":Str))=false:=by decide):JH X (.ExceptHandler (some (.Name x p)) (some n) (a::suite) pos::rest) (yo X.K Cl j ts b):=
 .of (kU d e f hN g i (λv E=>(hs v E).to) hr.to l)
def DN{X:Cx}{a:(St->XK)->TS}(b:X.stack=X.env::X.outer)(d:X.env.frame=some X.env.locals)(e:∀(pn:List (Addr×Obj)) (W:Value->Shared->Prop) (E:St->XK),Zw (Qb X.prog X.w) (X.tried pn W) E->Xw (X.tried pn W) fu (a E))(f:JH X (g::hs) i):JS X (.Try fu (g::hs) [] [] pos) (Fo a i):=
 .of (NS b d (λpn W E h=>(e pn W E h).to) f.to)
inductive u4(K:zel)(bm:List Value)(f:Str)(Q:VK)(x:V)(H1:Hp):Prop
 | mk (a:_) (C:_) (dx:_) (hd:_) (fs:_) (v:_):x=.ref a->H1 a=some (Qh a C dx hd)->H1 dx=some (.xd fs)->Y7 K C bm->Ql K C f->fs.lookup f=some v->Q v H1->u4 K bm f Q x H1
def Bb(K:zel)(a:List Value)(b:TE)(f:Str):TE:=λd H Q=>b d H λx b=>u4 K a f Q x b
inductive xf(K:zel)(bm:List Value)(xs:List V)(H:Hp)(Q:VK):Prop
 | mk (a:_) (C:_) (dx:_) (hd:_) (fs:_) (c:_) (b:_):xs=[.ref a,c]->BT c=true->H a=some (Qh a C dx hd)->H dx=some (.xd fs)->Y7 K C bm->tZ K (.ref C) (AQ c)=some b->(Q (.bl b) H)->xf K bm xs H Q
def Gq(K:zel)(a:List Value):List V->Hp->VK->Prop:=λb H Q=>xf K a b H Q
def Xk(b:JE X e d)(g:attributeBase e f X.env (eval e X.env)=eval e X.env):JE X (.Attribute e f pos) (Bb X.K i d f):=.of (by
 refine λd s i H Q I h=>xK g (jn (b.to d s i H _ I h) λu _ z=>?_);obtain⟨x,b,d,g,a,_,_,hd,fs,v,i,j,l,c,n,m,q⟩:=z;subst i;obtain rfl:u=Value.ref a:=g;exact uz d j l c n m λ_ _ d g=>⟨v,b,d,g,q⟩)
def JM{X:Cx}(e:zbW X.K (.builtin "object.__class__") "__get__"=some (some (.builtin "getset_descriptor.__get__")))(f:zcp X.K (.builtin "object.__class__")=some true):Q6 X (.builtin "isinstance") (Gq X.K d):=by
 intro _ s _ H _ _ Q I g h;obtain⟨a,_,_,hd,fs,c,b,rfl,i,j,l,m,o,q⟩:=h;obtain⟨u,p,rfl,r,d⟩:=WP g;have g:p=AQ c:=by
  cases c with
  | ty n=>exact d
  | ref z=>exact d
  | _=>cases i
 subst g;cases r;exact RY I j l m e f o λtk=>⟨.bl b,H,I.tok tk,rfl,q⟩
def qp.cx(F:qp P w K mg base q5 k f a ps b):qp P w K mg base r k f a ps b:=
 ⟨F.len,λA d s H args g i Q E hr j l m o=>codeAny_mono (F.run A d s H args g i Q E hr j l m o) λp x q=>by
  match p,q with
  | .ok (.ret u),q=>exact q
  | .ok .next,q=>exact q
  | .ok .brk,q=>exact q
  | .ok .cont,q=>exact q
  | .error e,q=>exact q.elim⟩
end L2
namespace PySem
open PySem.Spec
namespace F
def plain_dupd_loop:plainId "dict.update.loop"=true:=by decide+kernel
def entry_dupd_loop:entryFor table "dict.update.loop"=some Builtin.«dict.update.loop»:=entryFor_of_fast (by kernel_rfl)
end F
def Heap.DictOf.keepsAt{prog:Program}{w:World}{κ:Type}[DecidableEq κ]{knd:KeyKind prog w κ}{h b:Heap}{a:Addr}{d:List (κ×Value)}(e:h.DictOf knd a d)(k:∀o,h.get? a=some o->b.get? a=some o):b.DictOf knd a d:=
 let ⟨o,b,d,f,g⟩:=e;⟨o,b,d,k o f,g⟩
section
variable{prog:Program}{w:World}{A:Around}{R:Result->Shared->Prop}{I:Addr}{fp wr:List Addr}{n:Nat}{P:Nat->Value->Prop}{St:Nat->Heap->Prop}{κ:Type}[DecidableEq κ]{knd:KeyKind prog w κ}
def Ee(knd:KeyKind prog w κ)(h:Heap)(wr:List Addr)(d:Addr)(v:Value)(kv:κ×Value):Prop:=∃a b c k,v=.ref a/\h.get? a=some b/\b.cls=.type "tuple"/\b.data=.seq #[k,kv.2] c/\knd.is kv.1 k=true/\a∉wr/\a≠d
def Yf(W:Walks prog w A.in1 I fp wr n P St)(kv:Nat->κ×Value)(d:Addr)(u:d∉fp)(f:n<=1000):
  ∀(k i:Nat) (s:Shared) (t:Tok) (a:List (κ×Value)),n - i=k->i<=n->St i s.heap->s.heap.DictOf knd d a->a.length<=i->(∀j v,P j v->Ee knd s.heap wr d v (kv j))->
  (∀g tk,g.DictOf knd d (merged a (((t9 n).drop i).map kv))->(∀b o,b∉wr->b≠d->s.heap.get? b=some o->g.get? b=some o)->R (.ok (.ret .none)) {s with heap:=g,toks:=tk})->
  codeAny (model prog w) A (.builtin "dict.update.loop" ⟨[.ref d,.ref I,.int i t,.none],[]⟩) R s:=by
 have x:d∉wr:=λh=>u (W.sub _ h);intro k;induction k with
 | zero=>
  intro i s t a r y m hd B p q;have f:i=n:=by omega
  subst f;refine codeAny_builtin F.entry_dupd_loop ?_;rw[Around.under_plainId F.plain_dupd_loop _];show wpAny _ A.in1 (pyNext (.ref I) >>= _) _ _ s;refine zen (W.done s _ _ m λg tk l=>?_);show wpAny _ A.in1 (Builtin.Dict.addKeywords d [] >>= _) _ _ _;refine zen (zeo (zeo (q g tk ?_ λb o f _ e=>l b o f e)));rw[List.drop_of_length_le (by simp)];exact hd.keepsAt λo e=>l d o x e
 | succ k C=>
  intro i s t a r y m hd B p q;have r:i < n:=by omega
  refine codeAny_builtin F.entry_dupd_loop ?_;rw[Around.under_plainId F.plain_dupd_loop _];show wpAny _ A.in1 (pyNext (.ref I) >>= _) _ _ s;refine zen (W.item i s _ _ r m λv g tk m y l=>?_);obtain⟨g,o,c,fF,rfl,B,D,H,J,L,_⟩:=p i v m;have m:=l g o L B;refine zen (wpAny_holding (zen (wpAny_tryCatch ?_)));unfold Builtin.Dict.pairItems;refine zen (wpAny_typeOf ⟨o,m,D⟩ ?_);rw[if_pos (by decide)];refine zen (wpAny_seqItems m H (zeo ((show wpAny _ _ (holding [fF,(kv i).2] (dictSet d fF (kv i).2)) _ _ _ from wpAny_holding (wpAny_dictSet_pairs J (hd.keepsAt λo e=>l d o x e) (λB D x=>?_) (by rw[sizeLine_eq];omega))))));refine zeo ⟨plainId_quiet F.plain_dupd_loop _,?_⟩;have keep:∀b o,b∉wr->b≠d->s.heap.get? b=some o->B.get? b=some o:=λb o f m e=>(x.2 b m).trans (l b o f e);have len:(stored a (kv i).1 (kv i).2).length<=i+1:=by
   have:=stored_length_le a (kv i).1 (kv i).2;omega
  refine C (i+1) _ _ (stored a (kv i).1 (kv i).2) (by omega) r (W.frame _ _ _ y λb f o e=>(x.2 b (λz=>u (z▸f))).trans e) D len (λj v l=>?_) λu x _ y=>?_
  ·obtain⟨g,o,c,k,B,C,a⟩:=p j v l;exact⟨g,o,c,k,B,keep g o a.2.2.2.1 a.2.2.2.2 C,a⟩
  ·refine q u x ?_ λb o f m e=>y b o f m (keep b o f m e);have e:(t9 n).drop i=i::(t9 n).drop (i+1):=by
    rw[List.drop_eq_getElem_cons (by simpa using r)];simp
   rwa [e]
end
section
variable{prog:Program}{w:World}{A:Around}{E:Value->Shared->Prop}{s:Shared}{κ:Type}[DecidableEq κ]{knd:KeyKind prog w κ}
def V3:typeLookup (.type "list") "keys"=pure none:=by rw[typeLookup_type,builtinLookup_eq_fast];kernel_rfl
def V5{Q:Option Value->Shared->Prop}(g:s.heap.get? a=some o)(i:o.cls=.type "list")(j:o.data=.seq xs k)(hd:o.dict=none)(l:A.handled=none)(h:∀f tk,(∀b o,s.heap.get? b=some o->f.get? b=some o)->Q none {s with heap:=f,toks:=tk}):wpAny (model prog w) A (getAttr? (.ref a) "keys") Q E s:=by
 obtain⟨c,_,fI,m⟩:=o;simp only at i j hd;subst i j hd;obtain⟨p,q,d,tk,os⟩:=s;have i:∀j,(⟨p,q,d,j,os⟩:Shared).TypeIs (.ref a) "list":=λ_=>⟨_,g,rfl⟩;have f1:=sub_AttributeError;have p:=F.slot_list_getattribute.lookup;have p:=F.slot_list_getattribute.bind (.ref a);have p:=am_list_getattr_none;unfold getAttr? getAttrBy? getAttrBy
 repeat (any_goals (first | assumption | exact i _ | ((with_reducible show wpAny _ _ (call (Value.builtin "list.__getattribute__") _ _) _ _ _);refine call_meets F.slot_list_getattribute (i _) am_entry_list_getattribute (F.args_list_getattribute_2 _ _) (meets_getattribute_miss_list a xs k m "keys" _ V3 (by decide+kernel)) ⟨g,l,λf j e f=>?_⟩) | wp_step))
 obtain⟨_,_,_⟩:=f.there;show wpAny _ _ (getattributeRaised _ _ _ _ _ _ _) _ _ _;unfold getattributeRaised
 repeat (any_goals (first | assumption | wp_step))
 exact h _ _ f.of.keeps
def Y5{kv:Nat->κ×Value}{Q:Value->Shared->Prop}(pl:PlainL s.heap src items)(hp:∀j v,items[j]?=some v->∃p o c fF,v=.ref p/\s.heap.get? p=some o/\o.cls=.type "tuple"/\o.data=.seq #[fF,(kv j).2] c/\knd.is (kv j).1 fF=true)(u:items.size<=1000)(m:A.handled=none)(h:∀a tk,a.DictOf knd s.heap.objs.size (merged [] ((t9 items.size).map kv))->(∀b o,s.heap.get? b=some o->a.get? b=some o)->Q (.ref s.heap.objs.size) {s with heap:=a,toks:=tk}):
  wpAny (model prog w) A (call (.type "dict") [.ref src]) Q E s:=by
 refine callType_codes (Q₁:=λobj a=>obj=.ref s.heap.objs.size/\a={s with heap:=s.heap.push {cls:=.type "dict",data:=.dict #[]}}) F.kt_called_dict (F.kt_typeCall_dict_1 _) F.entry_dict_init (kt_code_dict_new _ ⟨rfl,rfl⟩) ?_;rintro obj a ⟨rfl,rfl⟩;have g:(s.heap.push {cls:=.type "dict",data:=.dict #[]}).DictOf knd s.heap.objs.size []:=Heap.DictOf.new s.heap;have a:∀b o,s.heap.get? b=some o->(s.heap.push {cls:=.type "dict",data:=.dict #[]}).get? b=some o:=λb o e=>tm _ e;obtain⟨ol,nl,d,i,hd,q⟩:=id pl;refine⟨g.typeIs,F.args_dict_init_2 _ _,?_⟩;unfold Builtin.«dict.__init__»;refine zen ?_;unfold Builtin.Dict.selfAndRest;refine zen (wpAny_notOrdered_dict g.typeIs ?_);show wpAny _ _ (pure (s.heap.objs.size,[Value.ref src])) _ _ _;refine zeo ?_;show wpAny _ _ (Builtin.Dict.updateFrom "dict.__init__" s.heap.objs.size (.ref src) [] .none) _ _ _;unfold Builtin.Dict.updateFrom;refine zen (wpAny_typeOf ⟨ol,a _ _ d,i⟩ ?_);rw[if_pos (by decide)];refine zen (V5 (a _ _ d) i q hd m λl _ f=>?_);rw[if_pos (show (none:Option Value).isNone=true from rfl)];refine zen (wpAny_rule ?_);have r:PlainL l src items:=⟨ol,nl,f _ _ (a _ _ d),i,hd,q⟩;have i:=g.keepsAt λo e=>f _ o e;have g:s.heap.objs.size < l.objs.size:=by
  obtain⟨o,_,_,e,_⟩:=i;exact tJ e
 refine zen (wpAny_pyIter_list r.isList (zeo ⟨plainId_quiet F.plain_dupd_loop _,?_⟩));refine Yf (Walks.list (prog:=prog) (w:=w) (A:=A.in1.in1) m l.objs.size src (tO (tJ (f _ _ (a _ _ d)))) items) kv s.heap.objs.size (by simp only[tH,zbd,or_false,not_or];exact⟨tO g,Ne.symm (tO (tJ d))⟩) u items.size 0 _ _ [] (by omega) (zao _)
  ⟨⟨_,tR _ rfl,rfl,rfl⟩,r.isList.at λo e=>tm _ e⟩ (i.push _) (zao _) (λj v g=>?_) λd i l m=>⟨rfl,h d i l λb o e=>?_⟩
 ·obtain⟨p,o,c,fF,i,d,l,q,r⟩:=hp j v g;have g:=f _ _ (a _ _ d);refine⟨p,o,c,fF,i,tm _ g,l,q,r,?_,tO (tJ d)⟩;simp only[tH,zbd,or_false];exact tO (tJ g)
 ·have d:=f _ _ (a _ _ e);refine m b o ?_ (tO (tJ e)) (tm _ d);simp only[tH,zbd,or_false];exact tO (tJ d)
end
end PySem
namespace L2
open PySem PySem.Spec
open PyProof.Rows hiding K lo
inductive xh(K:zel)(xs:List V)(H:Hp)(Q:VK):Prop
 | mk (p:Addr) (ps:List Addr) (kvs:List (qZ×V)):xs=[.ref p]->(SqL K H p (ps.map V.ref))->ps.length=kvs.length->((∀(i:Nat) (a:Addr) (kv:qZ×V),ps[i]?=some a->kvs[i]?=some kv->SqT K H a [kV kv.1,kv.2]))->(kvs.length<=1000)->(∀d,H d=none->Q (.ref d) (upd H d (.dK (Jn [] kvs))))->xh K xs H Q
def Gs(K:zel):List V->Hp->VK->Prop:=λa H Q=>xh K a H Q
def XU(I:qw X L O H s):∀(ps:List Addr) (b:List (qZ×V)),ps.length=b.length->(∀(i:Nat) (a:Addr) (kv:qZ×V),ps[i]?=some a->b[i]?=some kv->SqT X.K H a [kV kv.1,kv.2])->
  ∃rs:List (qZ×Value),KV b rs/\rs.length=ps.length/\∀(i:Nat) (a:Addr),ps[i]?=some a->∃kv o c fF,rs[i]?=some kv/\s.heap.get? a=some o/\o.cls=.type "tuple"/\o.data=.seq #[fF,kv.2] c/\(jl X.prog X.w).is kv.1 fF=true
 | [],[],_,_=>⟨[],.nil,rfl,λi a e=>by simp at e⟩
 | [],_::_,h,_=>by cases h
 | _::_,[],h,_=>by cases h
 | a::ps,kv::b,h,k=>by
  obtain⟨rs,g,j,l⟩:=XU I ps b (zdc.inj h) λi d m p q=>k (i+1) d m (by simpa using p) (by simpa using q);obtain⟨Q,r,⟨o,e,u,n1,x⟩,_⟩:=I.tuple (k 0 a kv rfl rfl);cases r with
  | cons y z=>
   cases z with
   | cons B C=>
    cases C;rename_i D J;refine⟨(kv.1,J)::rs,.cons ⟨rfl,B⟩ g,by simp [j],λi d f=>?_⟩;cases i with
    | zero=>
     cases f;exact⟨_,o,n1,D,rfl,e,u,x,Wd y⟩
    | succ i=>exact l i d (by simpa using f)
def Wt{X:Cx}(o:X.calm=true):Q6 X (.type "dict") (Gs X.K):=by
 intro _ s _ H _ _ Q I b h;obtain⟨_,f,j,rfl,d,le,g,_,q⟩:=h;obtain⟨u,rfl,l⟩:=Jy b;cases l;obtain⟨_,b,pl,_⟩:=I.list d;obtain rfl:=WN b;obtain⟨d,p,l,r⟩:=XU I f j le g;have m:(f.map Value.ref).toArray.size=d.length:=by simp [l]
 have x:(t9 (f.map Value.ref).toArray.size).map (λb=>(d[b]?).getD (Sum.inl 0,Value.none))=d:=by
  rw[m];refine zdk λi=>?_;rw[tu];by_cases g:i < d.length
  ·rw[zbG g,tj g];simp [g]
  ·rw[zbl (by rw[zal];omega),zbl (by omega)];rfl
 refine Y5 (knd:=jl X.prog X.w) (kv:=λb=>(d[b]?).getD (Sum.inl 0,Value.none)) pl (λb v y=>?_) (by rwa [m,l,le]) (I.ok.hd o) λ_ tk l m=>?_
 ·have g:(f.map Value.ref)[b]?=some v:=by simpa using y
  rw[tu]at g;cases e:f[b]? with
  | none=>rw[e]at g;cases g
  | some a=>
   rw[e]at g;obtain⟨_,f,c,fF,f1,f2,o,_,_⟩:=r b a e;refine⟨a,f,c,fF,(tF.inj g).symm,f2,o,?_,?_⟩
   ·show f.data=.seq #[fF,((d[b]?).getD (Sum.inl 0,Value.none)).2] c;rwa [f1]
   ·show (jl X.prog X.w).is ((d[b]?).getD (Sum.inl 0,Value.none)).1 fF=true;rwa [f1]
 ·rw[x]at l;have b:(Jn [] j).length<=zeq:=by
   have:=JR j [];rw[zdA]at this;rw[sizeLine_eq];omega
  exact⟨.ref s.heap.objs.size,_,I.laid m (tp _) (kS b (beq_eq_false_iff_ne.mpr (Ne.symm (tO I.big))) (p.merge .nil) l),rfl,q _ (I.hok.fresh (tp s.heap.objs.size))⟩
open PySem PySem.Spec PySem.W
open PyProof.Rows hiding K lo
def RC{α:Type}{l:List α}(nd:l.Nodup){a:i < l.length}{b:j < l.length}(e:l[i]=l[j]):i=j:=by
 have h:=zaM.mp nd;rcases zaB i j with c | c | c
 ·exact absurd e (h i j a b c)
 ·exact c
 ·exact absurd e.symm (h j i b a c)
inductive Gv(K:zel)(x:V)(y:V)(H:Hp)(Q:VK):Prop
 | mk (a:_) (b:_) (xs:_) (ys:_):x=.ref a->y=.ref b->SqL K H a xs->SqL K H b ys->(xs.length+ys.length<=zeq)->(∀l,H l=none->Q (.ref l) (upd H l (.lst (xs++ys))))->Gv K x y H Q
def BL(K:zel):R2:=λx y H Q=>Gv K x y H Q
def Paired.app:∀{l m:List α} {b d:List β},Paired G l b->Paired G m d->Paired G (l++m) (b++d)
 | _,_,_,_,.nil,h=>h
 | _,_,_,_,.cons a b,h=>.cons a (Paired.app b h)
def Z7:JN X (binaryOp .Add) (BL X.K):=by
 intro _ s _ H x y v u Q I d f h;obtain⟨a,b,r,z,rfl,rfl,i,j,B,q⟩:=h;cases d;cases f;obtain⟨d,g,pl,_⟩:=I.list i;obtain⟨f,i,C,_⟩:=I.list j;have j:=g.length;have j:=i.length;obtain⟨⟨cls,D,data,J⟩,j,l,n,hd⟩:=id pl.isList;obtain⟨⟨_,L,gM,O⟩,m,o,n2,p⟩:=id C.isList;simp only at l hd o p;subst l hd o p;have e:d.toArray++f.toArray=(d++f).toArray:=by simp
 refine concat_meets ⟨_,j,rfl⟩ ⟨_,m,rfl⟩ noFill_list_add seq_list_add PySem.F.slot_list_add PySem.F.entry_list_add (PySem.F.args_list_add_2 _ _) (list_addW a b d.toArray f.toArray n n2 D L J O (by simp only[t6];omega)) ⟨j,m,?_⟩;rw[e];exact⟨.ref s.heap.objs.size,_,I.laid (o:=.lst (r++z)) (λb u h=>tm _ h) (tp _) ⟨tx▸B,d++f,_,Paired.app g i,tR _ rfl⟩,rfl,q _ (I.hok.fresh (tp _))⟩
open PySem PySem.Spec PySem.W
open PyProof.Rows hiding K lo
inductive Gm(K:zel)(x:V)(y:V)(H:Hp)(Q:VK):Prop
 | mk (a b:Addr) (xs:List V):x=.ref a->y=.ref b->SqL K H a xs->(SqL K H b [])->(Q (.bl (!xs.isEmpty)) H)->Gm K x y H Q
def Fu(K:zel):R2:=λx y H Q=>Gm K x y H Q
def VS{X:Cx}(hu:X.A.units < cLine):JN X (compareOp .NotEq) (Fu X.K):=by
 intro _ s _ H x y v u Q I e f h;obtain⟨a,b,d,rfl,rfl,g,i,q⟩:=h;cases e;cases f;obtain⟨j,e,pl,_⟩:=I.list g;obtain⟨_,g,f,_⟩:=I.list i;have i:=zap g.length.symm;subst i;cases d with
 | nil=>
  have g:=zap e.length.symm;subst g;exact EqBoolInt.of_rcne (SeqAt.RcNeAt.lists (e:=λ_=>true) pl.isList f.isList rfl hu λg i _=>absurd i (zbP g)) ⟨.bl _,H,I,rfl,q⟩
 | cons x d=>
  cases j with
  | nil=>cases e
  | cons d e=>exact EqBoolInt.of_rcne (SeqAt.RcNeAt.lists_lengths pl.isList f.isList (by simp) hu) ⟨.bl true,H,I,rfl,q⟩
inductive xg(K:zel)(x:V)(xs:List V)(H:Hp)(Q:VK):Prop
 | mk (a:Addr) (zs:List Str) (z:Str) (j:Nat):x=.ref a->xs=[.str z]->(SqL K H a (zs.map V.str))->zs[j]?=some z->((∀i,i < j->zs[i]?≠some z))->(Q (.int (j:Nat)) H)->xg K x xs H Q
def CV(K:zel):V->List V->Hp->VK->Prop:=λx a H Q=>xg K x a H Q
def RE:Ev X "list.index" (CV X.K):=by
 intro _ s _ H x _ v _ Q I b d h;obtain⟨a,f,z,j,rfl,rfl,p,l,r,q⟩:=h;cases b;obtain⟨u,rfl,b⟩:=Jy d;obtain⟨t,rfl⟩:=b;obtain⟨g,o,pl,B⟩:=I.list p;have ln:g.length=f.length:=by
  have:=o.length;rw[tc]at this;exact this.symm
 have b:=(td.mp l).1;have str:∀i (d:i < g.toArray.size),∃b,g.toArray[i]=.str (f[i]'(by simp at d;omega)) b:=λi d=>by
  have p:(f.map V.str)[i]?=some (V.str f[i]):=by rw[tu,tj (by simp at d;omega)];rfl
  obtain⟨C,D,b,e⟩:=o.get p;refine⟨b,?_⟩;have:g.toArray[i]?=some C:=by simpa using D
  rw[zcf d]at this;exact(tF.inj this).trans e
 obtain⟨⟨cls,C,data,D⟩,o,p,n,hd⟩:=id pl.isList;simp only at p hd;subst p hd;have p:f.length<=zeq:=by rwa [tc]at B
 refine call_meets zds ⟨_,o,rfl⟩ PySem.F.entry_list_index (PySem.F.args_list_index_2 _ _) (SeqAt.list_indexAt a g.toArray n C D (.str z t) (λy=>match y with | .str x _=>x==z | _=>false) j (by simp;omega) (by rw[sizeLine_eq]at p;omega) ?_ ?_) ⟨o,λy g=>?_,⟨.int _,H,I.tok _,⟨_,rfl⟩,q⟩⟩
 ·obtain⟨b,e⟩:=str j (by simp;omega);rw[e,(td.mp l).2];exact beq_self_eq_true z
 ·intro m f lt;obtain⟨b,e⟩:=str m f;rw[e];refine beq_eq_false_iff_ne.mpr λc=>r m lt ?_;rw[tj (by simp at f;omega),c]
 ·obtain⟨i,d,rfl⟩:=Array.mem_iff_getElem.mp g;obtain⟨b,e⟩:=str i d;rw[e];exact SeqAt.EqAt.str_str _ b z t
open PySem PySem.Spec PySem.W
open PyProof.Rows hiding K lo
open PySem PySem.Spec PySem.W
open PyProof.Rows hiding K lo
open PySem
open PyProof.Rows hiding K lo
def QI{α:Type}{K:zel}{a D:Addr}{xs:List α}{enc:α->V}{out:α->Option V}{rest:St}{H:Hp}{tt:TT}{te:TE}{Q:Hp->Prop}(m:H D=none)(f:H a=some (.lst (xs.map enc)))(len:xs.length < zeq)
  (q:∀x∈xs,∀G,Same H G->∀R:Bool->Hp->Prop,(∀d,Same G d->R (out x).isSome d)->tt (some (enc x)::rest) G R)
  (r:∀x∈xs,∀v,out x=some v->∀G,Same H G->∀R:V->Hp->Prop,(∀d,Same G d->R v d)->te (some (enc x)::rest) G R)
  (k:∀G,Same H G->G D=some (.lst (xs.filterMap out))->Q G):Yo (B7 K a) (Qp 0) tt te D (none::rest) H Q:=by
 have d:Same H (upd H D (.lst [])):=λb l h=>by
  rwa [qf (λe=>by rw[e,m]at h;cases h)]
 refine j7 (λi g G=>(∃v0,g=v0::rest)/\Same H G/\G D=some (.lst ((xs.take i).filterMap out))) ⟨⟨none,rfl⟩,d,qc⟩ (λi g G _ ⟨_,s,_⟩=>.of (s _ _ f)) ?_ ?_
 ·rintro i y g G d ⟨⟨v0,rfl⟩,s,f⟩;rw[tu]at d;cases j:xs[i]? with
  | none=>rw[j]at d;cases d
  | some x=>
   rw[j]at d;obtain rfl:=(tF.inj d).symm;have o:=tW j;have p:(xs.take (i+1)).filterMap out=(xs.take i).filterMap out++(out x).toList:=by
    rw[tN,j,zau];cases c:out x<;>simp [c]
   show tt (some (enc x)::rest) G _;refine q x o G s _ λj d=>?_;cases c:out x with
   | none=>
    show if false=true then _ else _
    rw[if_neg tK];refine⟨⟨_,rfl⟩,λb l h=>d _ _ (s _ _ h),?_⟩;rw[p,c];simpa using d _ _ f
   | some v=>
    show if true=true then _ else _
    rw[if_pos rfl];refine r x o v c j (λb l h=>d _ _ (s _ _ h)) _ λ_ j=>⟨_,j _ _ (d _ _ f),?_,⟨_,rfl⟩,?_,?_⟩
    ·refine zaI (zaO _ _) ?_;rw[tL];omega
    ·intro b l h;rw[qf (λe=>by rw[e,m]at h;cases h)];exact j _ _ (d _ _ (s _ _ h))
    ·rw[p,c];exact qc
 ·rintro g G ⟨_,s,f⟩;rw[tc,tv (tp _)]at f;exact k G s f
def AU{α:Type}{K:zel}{a D:Addr}{xs:List α}{enc:α->V}{out:α->Option V}{rest:St}{H:Hp}{tt:TT}{te:TE}{Q:Hp->Prop}(m:H D=none)(f:H a=some (.tup (xs.map enc)))(len:xs.length < zeq)
  (q:∀x∈xs,∀G,Same H G->∀R:Bool->Hp->Prop,(∀d,Same G d->R (out x).isSome d)->tt (some (enc x)::rest) G R)
  (r:∀x∈xs,∀v,out x=some v->∀G,Same H G->∀R:V->Hp->Prop,(∀d,Same G d->R v d)->te (some (enc x)::rest) G R)
  (k:∀G,Same H G->G D=some (.lst (xs.filterMap out))->Q G):Yo (Ej K a) (Qp 0) tt te D (none::rest) H Q:=by
 have d:Same H (upd H D (.lst [])):=λb l h=>by
  rwa [qf (λe=>by rw[e,m]at h;cases h)]
 refine xJ (λi g G=>(∃v0,g=v0::rest)/\Same H G/\G D=some (.lst ((xs.take i).filterMap out))) ⟨⟨none,rfl⟩,d,qc⟩ (λi g G _ ⟨_,s,_⟩=>.of (s _ _ f)) ?_ ?_
 ·rintro i y g G d ⟨⟨v0,rfl⟩,s,f⟩;rw[tu]at d;cases j:xs[i]? with
  | none=>rw[j]at d;cases d
  | some x=>
   rw[j]at d;obtain rfl:=(tF.inj d).symm;have o:=tW j;have p:(xs.take (i+1)).filterMap out=(xs.take i).filterMap out++(out x).toList:=by
    rw[tN,j,zau];cases c:out x<;>simp [c]
   show tt (some (enc x)::rest) G _;refine q x o G s _ λj d=>?_;cases c:out x with
   | none=>
    show if false=true then _ else _
    rw[if_neg tK];refine⟨⟨_,rfl⟩,λb l h=>d _ _ (s _ _ h),?_⟩;rw[p,c];simpa using d _ _ f
   | some v=>
    show if true=true then _ else _
    rw[if_pos rfl];refine r x o v c j (λb l h=>d _ _ (s _ _ h)) _ λ_ j=>⟨_,j _ _ (d _ _ f),?_,⟨_,rfl⟩,?_,?_⟩
    ·refine zaI (zaO _ _) ?_;rw[tL];omega
    ·intro b l h;rw[qf (λe=>by rw[e,m]at h;cases h)];exact j _ _ (d _ _ (s _ _ h))
    ·rw[p,c];exact qc
 ·rintro g G ⟨_,s,f⟩;rw[tc,tv (tp _)]at f;exact k G s f
def AV{n:Nat}{D:Addr}{out:Nat->Option V}{rest:St}{H:Hp}{tt:TT}{te:TE}{Q:Hp->Prop}(j:H D=none)(len:n < zeq)
  (o:∀x,x < n->∀G,Same H G->∀R:Bool->Hp->Prop,(∀a,Same G a->R (out x).isSome a)->tt (some (.int (x:Int))::rest) G R)
  (p:∀x,x < n->∀v,out x=some v->∀G,Same H G->∀R:V->Hp->Prop,(∀a,Same G a->R v a)->te (some (.int (x:Int))::rest) G R)
  (k:∀G,Same H G->G D=some (.lst ((t9 n).filterMap out))->Q G):Yo (B6 0 n) (Qp 0) tt te D (none::rest) H Q:=by
 have a:Same H (upd H D (.lst [])):=λb f h=>by
  rwa [qf (λe=>by rw[e,j]at h;cases h)]
 refine Zb (λi g G=>(∃v0,g=v0::rest)/\Same H G/\G D=some (.lst ((t9 i).filterMap out))) ⟨⟨none,rfl⟩,a,qc⟩ ?_ ?_
 ·rintro i g G l ⟨⟨v0,rfl⟩,s,d⟩;rw[zbM];have m:(t9 (i+1)).filterMap out=(t9 i).filterMap out++(out i).toList:=by
   rw[zbQ,zau];cases c:out i<;>simp [c]
  show tt (some (.int (i:Int))::rest) G _;refine o i l G s _ λo a=>?_;cases c:out i with
  | none=>
   show if false=true then _ else _
   rw[if_neg tK];refine⟨⟨_,rfl⟩,λb f h=>a _ _ (s _ _ h),?_⟩;rw[m,c];simpa using a _ _ d
  | some v=>
   show if true=true then _ else _
   rw[if_pos rfl];refine p i l v c o (λb f h=>a _ _ (s _ _ h)) _ λ_ l=>⟨_,l _ _ (a _ _ d),?_,⟨_,rfl⟩,?_,?_⟩
   ·refine zaI (zaO _ _) ?_;rw[zal];omega
   ·intro b f h;rw[qf (λe=>by rw[e,j]at h;cases h)];exact l _ _ (a _ _ (s _ _ h))
   ·rw[m,c];exact qc
 ·rintro g G ⟨_,s,d⟩;exact k G s d
open PySem
open PyProof.Rows hiding K lo
section
variable{prog:Program}{w:World}{KK:Type}[DecidableEq KK]{kd:HeapKind prog w KK}{A:Around}{E:Value->Shared->Prop}{s:Shared}
end
open PySem
open PyProof.Rows hiding K lo
inductive Gu(x:V)(y:V)(H:Hp)(Q:VK):Prop
 | mk (a:_) (b:_) (xs:_) (ys:_):x=.ref a->y=.ref b->H a=some (.tup xs)->H b=some (.tup ys)->(xs.length+ys.length<=zeq)->(∀r H',Same H H'->H' r=some (.tup (xs++ys))->Q (.ref r) H')->Gu x y H Q
def FA:R2:=λx y H Q=>Gu x y H Q
def MZ:JN X (binaryOp .Add) FA:=by
 intro _ s _ H x y v u Q I d f h;obtain⟨a,b,g,C,rfl,rfl,m,i,D,q⟩:=h;cases d;cases f;have j:∀{c:Addr} {d:List V},H c=some (.tup d)->SqT X.K H c d:=λh=>.of h;obtain⟨_,d,l,_⟩:=I.tuple (j m);obtain⟨_,f,p2,_⟩:=I.tuple (j i);have j:Same H H:=λ_ _ h=>h;by_cases m:g=[]
 ·subst m;cases d;obtain⟨⟨_,J,_,f1⟩,o,p,n1,g1⟩:=id l;obtain⟨⟨_,L,_,f2⟩,r,B,n2,g2⟩:=id p2;simp only at p g1 B g2;subst p g1 B g2;exact concat_meets ⟨_,o,rfl⟩ ⟨_,r,rfl⟩ noFill_tuple_add seq_tuple_add zcz zcv (zck _ _) (tuple_addW0 a b _ _ n1 n2 J L f1 f2 rfl) ⟨o,r,.ref b,H,I,rfl,q b H j i⟩
 ·refine HT.cat_tup l p2 (λz=>m (d.nil_iff.mp z)) (λz=>⟨.ref a,H,I,rfl,q a H j ?_⟩) (λz=>?_) (by rwa [<-d.length,<-f.length])
  ·rwa [f.nil_iff.mp z,zaj]
  ·have fr:=I.hok.fresh (tp s.heap.objs.size);refine⟨.ref s.heap.objs.size,_,I.laid (o:=.tup (g++C)) (λc _ e=>tm _ e) (tp _) ⟨tx▸D,_,d.append f,IsTup.new _ _⟩,rfl,q _ _ (λc _ e=>?_) qc⟩;rwa [qf (λw=>by rw[w,fr]at e;cases e)]
open PyProof.Rows hiding K lo
def Nn(o:Obj):Nat:=match o.data with
 | .dict _ a=>a
 | _=>0
def qw.freeze(I:qw X d g H s)(e:H a=some (.dK f)):∃o,qw X d g (upd H a (.frz o (.dK f))) s:=by
 obtain⟨z,hd,g,fy,o,i,j,d,l⟩:=(show qH X.prog X.w H s.heap a (.dK f) from I.hok a _ e);have f:Eg (H a):=e▸True.intro;exact⟨o,I.un (Un.write f (.inl rfl) (λb u _ q=>q) ⟨o,d⟩) (I.hok.write f (.inl rfl) (λb u _ q=>q) ⟨o,d⟩ ⟨d,z,hd,g,fy,o,i,j,d,l⟩)⟩
inductive A9(Q:VK)(x:V)(H1:Hp):Prop
 | mk (a:_) (kvs:_):x=.ref a->H1 a=some (.dK kvs)->(∀o,Q x (upd H1 a (.frz o (.dK kvs))))->A9 Q x H1
def HJ(te:TE):TE:=λa H Q=>te a H λx a=>A9 Q x a
def DU(h:JE X e te):JE X e (HJ te):=.of (by
 refine λb s d H Q I f=>jn (h.to b s d H _ I f) λv _ ⟨x,_,b,d,a,_,_,f,q⟩=>?_;obtain⟨g,i⟩:=b.freeze f;exact⟨x,_,i,d,q g⟩)
def Hh(a:Addr)(o:Obj)(d:List (qZ×V))(b:List Str):It:=
 ⟨λi H=>H a=some (.frz o (.dK d))/\i < b.length,λi H x e=>e=H/\∃z,b[i]?=some z/\x=.str z,λi H=>H a=some (.frz o (.dK d))/\i=b.length⟩
def kO(ok:Zd P w H h)(e:H a=some (.frz o (.dK b))):(a==sysModules)=false/\∃vs,KV b vs/\h.DictAt (jl P w) a vs (Nn o):=by
 obtain⟨d,z,hd,vs,fy,_,g,_,f,i,fI,j⟩:=(show qH P w H h a (.frz o (.dK b)) from ok a _ e);rw[d]at f;cases f;refine⟨hd,vs,fy,o,g,d,i,?_,j⟩;unfold Nn;rw[fI]
def Ap{P:Program}{w:World}{a:List (qZ×V)}{vs:List (qZ×Value)}{b:List Str}(fy:KV a vs)(e:a.map (·.1)=b.map Sum.inr){i:Nat}{z:Str}{k:qZ}{y v:Value}(f:b[i]?=some z)(f1:vs[i]?=some (k,y))(f2:(jl P w).is k v=true):qU (.str z) v:=by
 have g:i < a.length:=by
  have d:=(td.mp f).1;have j:a.length=b.length:=by simpa using congrArg zas e
  omega
 obtain⟨_,g1,g2,_⟩:=Zj fy (tj g);rw[f1]at g1;cases g1;have d:(a.map (·.1))[i]?=some a[i].1:=by rw[tu,tj g];rfl
 rw[e,tu,f]at d;have a:=g2.symm.trans (tF.inj d).symm;subst a;rcases jD (show Wc (Sum.inr z) v=true from f2) with ⟨_,_,c,_⟩ | ⟨a,t,c,rfl⟩
 ·cases c
 ·cases c;exact⟨t,rfl⟩
def xY(a it:Addr)(o:Obj)(p:List (qZ×V))(f:List Str)(x:p.map (·.1)=f.map Sum.inr):vT P w K g (Hh a o p f) [it] it (λi h=>h.IsKeyIter it a i f.length (Nn o)) where
 mem:=by simp
 obj:=λi h st b g=>by
  have e:b=it:=by simpa using g
  subst e;obtain⟨o,e,c,d⟩:=st;exact⟨o,e,λv z=>by rw[d]at z;cases z⟩
 keep:=λi h h' st k=>let ⟨o,e,j⟩:=st;⟨o,k it (by simp) o e,j⟩
 item:=by
  intro X B C D J i ab s σ H E I q st L;subst B C D;obtain⟨l,f1,f2,O,Q,T⟩:=q it (by simp);obtain⟨j,r⟩:=L;obtain⟨_,m,fy,fI⟩:=kO I.hok j;have u:m.length=f.length:=by
   have U:p.length=f.length:=by simpa using congrArg zas x
   rw[<-Paired.length fy,U]
  rw[<-u]at st;refine(Walks.dictKeys (I.ok.hd J) it a (λe=>by rw[e,l]at j;cases j) m (Nn o)).item i s _ _ (by omega) ⟨st,fI⟩ λv h' tk hv aa Y=>?_;obtain⟨k,y,g1,g2⟩:=hv;obtain⟨_,e2,c2,d2⟩:=id aa.1;refine⟨_,rfl,vD e2 c2 d2 (by decide) ⟨.str f[i],H,I.turned (λb o g e=>Y b o (by simpa using g) e) l f1 O Q T,Ap fy x (tj r) g1 g2,⟨rfl,_,tj r,rfl⟩,?_,λb g=>(q b g).1⟩⟩;rw[<-u];exact aa.1
 done:=by
  intro X B C D J i ab s σ H E I q st L;subst B C D;obtain⟨l,f1,f2,O,Q,T⟩:=q it (by simp);obtain⟨j,r⟩:=L;obtain⟨_,m,fy,fI⟩:=kO I.hok j;have u:m.length=f.length:=by
   have U:p.length=f.length:=by simpa using congrArg zas x
   rw[<-Paired.length fy,U]
  subst r;rw[<-u]at st;exact(Walks.dictKeys (I.ok.hd J) it a (λe=>by rw[e,l]at j;cases j) m (Nn o)).done s _ _ ⟨st,fI⟩ λh' tk Y=>⟨rfl,I.turned (λb o g e=>Y b o (by simpa using g) e) l f1 O Q T⟩
 self:=λ_ _ _ _ _ st h=>wpAny_pyIter_keyiter st h
inductive BX(R:It->Hp->Prop)(x:V)(H1:Hp):Prop
 | mk (a:_) (o:_) (kvs:_) (zs:_):x=.ref a->H1 a=some (.frz o (.dK kvs))->kvs.map (·.1)=zs.map Sum.inr->(R (Hh a o kvs zs) H1)->BX R x H1
def IU(a:TE):TI:=λb H R=>a b H λx a=>BX R x a
def DQ(d:JE X l f):JI X g l (IU f):=.of (by
 refine λf s g H R I h=>jn (d.to f s g H _ I h) λv f ⟨x,o,d,p,r⟩=>?_;obtain⟨a,i,j,g,e,u,m,q⟩:=r;subst e;cases p;obtain⟨hd,p,fy,fI⟩:=kO d.hok u;have r:p.length=g.length:=by
  have p:j.length=g.length:=by simpa using congrArg zas m
  rw[<-Paired.length fy,p]
 refine wpAny_pyIter_dict hd fI ⟨f.heap.objs.size,[f.heap.objs.size],_,_,o,rfl,d.kept λb i e=>tm _ e,xY a _ i j g m,?_,λb g=>?_,q⟩
 ·rw[<-r];exact⟨_,tR _ rfl,rfl,rfl⟩
 ·have e:b=f.heap.objs.size:=by simpa using g
  subst e;exact d.fpOk (tp _) (d.hok.fresh (tp _)))
def AH{a:Addr}{o:Obj}{f:List (qZ×V)}{d:List Str}{g:TG}{b:St}{H:Hp}{r:TS}{D:QN}(Pv:Nat->St->Hp->Prop)(B:Pv 0 b H)(C:∀i b H,i<=d.length->Pv i b H->H a=some (.frz o (.dK f)))
  (hs:∀i z b H,d[i]?=some z->Pv i b H->g (.str z) b H λj l=>r {D with nx:=Pv (i+1),ct:=Pv (i+1),bk:=D.nx} j l) (hd:∀b H,Pv d.length b H->D.nx b H):
  ∃W:Nat->Nat->St->Hp->Prop,(∃m,W 0 m b H)/\∀i m b H,W i m b H->
   ((Hh a o f d).stop i H/\D.nx b H)\/((Hh a o f d).go i H/\∃N:St->Hp->Prop,(∀p H',N p H'->∃u,u < m/\W (i+1) u p H')/\∀x H',(Hh a o f d).yld i H x H'->g x b H' λj l=>r {D with nx:=N,ct:=N,bk:=D.nx} j l):=by
 refine⟨λi m b H=>m=d.length - i/\i<=d.length/\Pv i b H,⟨d.length,by simp,zao _,B⟩,?_⟩;rintro i m b H ⟨rfl,j,f⟩;have q:=C i b H j f;by_cases j:i < d.length
 ·refine .inr ⟨⟨q,j⟩,Pv (i+1),λp H' l=>⟨d.length - (i+1),by omega,rfl,j,l⟩,λx H' y=>?_⟩;obtain⟨e,z,j,rfl⟩:=y;subst e;exact hs i z b _ j f
 ·have e:i=d.length:=by omega
  subst e;exact .inl ⟨⟨q,rfl⟩,hd b H f⟩
open PyProof.Rows hiding K lo
def jq.okX{P:Program}{w:World}{K:zel}{mg:Str->Option Value}{base:Heap}{d:yc}{x qual:Str}{st:Stmt}{f:Addr}{e:zep}{N ps:List Str}{k:Nat}{b:Sp}(F:jq K x qual st f e)(S:qk N ps (qg st))(len:∀vs H Q E,b vs H Q E->vs.length=ps.length)
  (g:∀(a:Value) (A:Around) (outer:List Env) (s:Shared) (H:Hp) (vs:List V) (Q:VK) (E:XK),ji k (A.deeper (envOfC qual (qg st) s.heap.objs.size f a))->b vs H Q E->
   ∃t,Xw (Qq d P w K mg base N qual (qg st) f a A outer s H E) (jk st) t/\t {nx:=λ_ H'=>Q .non H',rt:=Q} (start N vs) H):qp P w K mg base d (k+1) f e ps b:=by
 obtain⟨_,_,kV,_,pm,_,a,_,_,rfl,lk,b⟩:=F.ex;refine BZ lk b S len λA outer s H vs Q E hr b=>?_;obtain⟨t,h,q⟩:=g a A outer s H vs Q E hr b;exact⟨t,h.to,q⟩
def jq.okY{P:Program}{w:World}{K:zel}{mg:Str->Option Value}{base:Heap}{b:yc}{x qual:Str}{st:Stmt}{f:Addr}{d:zep}{N ps:List Str}{k:Nat}{a:Sp}(F:jq K x qual st f d)(S:qk N ps (qg st))(g:∀{e:Value} {A:Around} {outer:List Env} {s:Shared} {vs:List V} {nd:N.Nodup} (H:Hp) (Q:VK) (E:XK),ji k (A.deeper (envOfC qual (qg st) s.heap.objs.size f e))->a vs H Q E->∃t,Xw (Qq b P w K mg base N qual (qg st) f e A outer s H E) (jk st) t/\t {nx:=λ_ H'=>Q .non H',rt:=Q} (start N vs) H)(len:∀vs H Q E,a vs H Q E->vs.length=ps.length:=by intro _ _ _ _ z;first | (cases z;subst_vars;rfl) | repeat first | (obtain⟨rfl,_⟩:=z;rfl) | obtain⟨_,z⟩:=z):qp P w K mg base b (k+1) f d ps a:=F.okX S len λ_ _ _ _ H _ Q E hr z=>g (nd:=S.nd) H Q E hr z
open PyProof.Rows hiding K lo
inductive BH(K:zel)(gb:Bool)(x:V)(y:V)(H:Hp)(Q:VK):Prop
 | mk (d:_) (ds:_):DV K H x d->(DV K H y (.list ds))->d.canLay0=true->PyData.canLayAll0 ds=true->(d.depth<=40)->(Q (.bl (if gb then !(ds.any λz=>PyData.eqv z d) else ds.any λz=>PyData.eqv z d)) H)->BH K gb x y H Q
def Fy(K:zel)(gb:Bool):R2:=λx y H Q=>BH K gb x y H Q
def wB{X:Cx}(hu:X.A.units+64 < cLine):JN X (compareOp .NotIn) (Fy X.K true):=by
 intro _ s _ H x y v u Q I a b h;obtain⟨d,e,f,g,i,j,_,q⟩:=h;obtain⟨as,l⟩:=f.reads I a;obtain⟨bs,a⟩:=g.reads I b;refine SeqAt.notIn_list_reads a l j i ?_ ⟨.bl _,H,I,rfl,q⟩;have:=zdt (PyData.depthAll e) d.depth;omega
open PyProof.Rows hiding K lo
open PyProof.Rows hiding K lo
def BA(ok:Zd P w H h)(e:Rd H a (.dK b)):(a==sysModules)=false/\∃vs,KV b vs/\h.DictOf (jl P w) a vs:=by
 obtain⟨_,hd,vs,fy,d⟩:=e.ok ok;exact⟨hd,vs,fy,d⟩
def ZG(b:Str)(u:Tok)(l:Addr)(c:Value)(a:Array DictEntry)(e:Nat)(f:Option Addr)(g:Array (Option Value)):
  Meets (Builtin.«str.__eq__» ⟨[.str b u,.ref l],[]⟩) (λ_ R s=>s.heap.get? l=some {cls:=c,dict:=f,data:=.dict a e,slots:=g}/\R (.ok (.ret .notImplemented)) s):=
 .of_wp λprog w A R s h=>by obtain⟨_,_,d,tk,os⟩:=s;obtain⟨a,h⟩:=h;wp_walk using wpAny_loadPart' a,wpAny_load a;exact⟨_,rfl,h⟩
def vk{A:Around}{s:Shared}(b:Str)(u:Tok)(a:s.heap.DictOf (jl P W) l vs)(hu:A.units < cLine):SeqAt.RcAt A s (.str b u) (.ref l) false:=λprog w E Q h=>by
 obtain⟨⟨cls,e,data,f⟩,g,i,j,m,hd,_⟩:=id a;have d:=a.typeIs;obtain⟨a,_⟩:=m;simp only at a hd;subst a hd;refine SeqAt.rc_eq_decline_or (typeIs_str s b u) d (by decide) F.sub_dict_str F.slot_str_eq F.slot_dict_eq_refl
  (λ_ a=>call_meets F.slot_str_eq (typeIs_str s b u) F.entry_str_eq (F.args_str_eq_2 _ _) (ZG b u l _ g i e f) ⟨j,a⟩)
  (λ_ a=>wpAny_call_entry PySem.F.slot_dict_eq_refl d zdD ?_ (zdw _ _))
  (λ_ a=>wpAny_of_eq (rfl:isSame (.str b u) (.ref l)=pure false) a) (.inr hu) h
 show wpAny _ _ (Builtin.Dict.dictSlotArgs "__eq__" ⟨[.ref l,.str b u],[]⟩ >>= _) _ _ s;refine zen ?_;unfold Builtin.Dict.dictSlotArgs;refine zen (wpAny_notOrdered_dict d ?_);show wpAny _ _ (pure (Value.ref l,Value.str b u)) _ _ s;refine zeo (zen (wpAny_isInstance (typeIs_str s b u) PySem.F.sub_str_dict ?_));simp only[Bool.not_false,if_true];exact zen (wpAny_rule (zeo ⟨_,rfl,a⟩))
def vI{A:Around}{s:Shared}(b:Str)(u:Tok)(hl:s.heap.DictOf (jl P W) l vs)(hu:A.units < cLine):SeqAt.EqAt A s (.str b u) (.ref l) false:=λprog w E Q h=>by
 unfold eqBool;exact wpAny_holding (wpAny_ite_split (λip=>absurd (eq_of_beq ip) nofun) (λ_=>zen (vk b u hl hu prog w E _ (wpAny_truthy_bool h))))
inductive xc(K:zel)(x:V)(y:V)(H:Hp)(Q:VK):Prop
 | mk (a p:Addr) (kvs:List (qZ×V)) (zs:List Str):x=.ref a->y=.ref p->H a=some (.dK kvs)->(SqL K H p (zs.map V.str))->(Q (.bl true) H)->xc K x y H Q
def Gj(K:zel):R2:=λx y H Q=>xc K x y H Q
def GQ{X:Cx}(hu:X.A.units+64 < cLine):JN X (compareOp .NotIn) (Gj X.K):=by
 intro _ s _ H x y v u Q I b d h;obtain⟨a,_,_,g,rfl,rfl,f,j,q⟩:=h;cases b;cases d;obtain⟨_,_,_,l⟩:=BA I.hok (.inl f);obtain⟨d,b,pl,_⟩:=I.list j;refine SeqAt.notIn_listAt (λ_=>false) pl.isList (λy f=>?_) ⟨.bl true,H,I,?_,q⟩
 ·have j:y∈d:=by simpa using f
  obtain⟨i,m,e⟩:=List.getElem_of_mem j;have d:=b.length;obtain⟨_,d,f⟩:=Zj b (tj (by omega:i < (g.map V.str).length));rw[tj m,e]at d;cases d;rw[List.getElem_map]at f;obtain⟨t,rfl⟩:=f;exact vI _ t l (by show X.A.units+1 < cLine;omega)
 ·show Value.bool _=Value.bool _;simp
def MK(K:zel):R2:=λx y H Q=>Fy K true x y H Q\/Gj K x y H Q
def wA{X:Cx}(hu:X.A.units+64 < cLine):JN X (compareOp .NotIn) (MK X.K):=λa s b H x y v u Q I d e h=>
 h.elim (λh=>wB hu a s b H x y v u Q I d e h) λh=>GQ hu a s b H x y v u Q I d e h
open PySem
open PyProof.Rows hiding K lo
end L2
namespace HT
open PySem PySem.Spec
open PyProof.Rows hiding K lo
end HT
namespace L2
open PySem PySem.Spec
open PyProof.Rows hiding K lo
open PySem
open PyProof.Rows hiding K lo
def Nv{xs:List V}{g:TG}{Q:Hp->Prop}(Pv:Nat->St->Hp->Prop)(d:Pv 0 j (upd H D (.lst [])))(f:∀i b H',i<=xs.length->Pv i b H'->SqL K H' a xs)(hs:∀i x b H' p,xs[i]?=some x->H' p=none->Pv i b H'->g (.ref p) b (upd H' p (.tup [.int (i:Nat),x])) (Vv tt te D (Pv (i+1))))(hd:∀b H',Pv xs.length b H'->Q H'):Yo (Ew K a) g tt te D j H Q:=
 Wu Pv d (λi b H' d p=>⟨⟨xs,xs[i],f i b H' (zab d) p,by simp [d]⟩,λx _ y=>by
  obtain⟨j,l,rfl,e⟩:=y;rw[e xs _ (f i b H' (zab d) p) (tj d)];exact hs i _ b H' j (tj d) l p⟩) λb H' p=>⟨⟨xs,f _ b H' (tp _) p,tp _⟩,hd b H' p⟩
open PyProof.Rows hiding K lo
open PyProof.Rows hiding K lo
def kP{s:Shared}{Q:Unit->Shared->Prop}{fr:Option Addr}(g:s.heap.get? e=some {cls:=cl,dict:=d,data:=.fields vs})(i:vs[1]?=some (.ref T))(st:uL T j s.heap)(k:∀a,ka fs [T] s.heap a->uL T (fr.elim .none λf=>rawInt f) a->Q () {s with heap:=a}):wpAny M A (setFlight (.ref e) fr) Q F s:=by
 obtain⟨_,a,j⟩:=st;have lt:=(zaf.mp j).1;unfold setFlight;refine zen (wpAny_field g rfl i ?_);rw[if_pos (show (Value.ref T != Value.none)=true from by simp)];refine wpAny_setField a rfl lt (k _ ⟨λb g _ n q=>?_,λb g _ n q=>⟨g.slots,?_⟩⟩ ⟨_,zaD _ a rfl,by simp [lt]⟩)
 all_goals
  rwa [zag _ _ λz=>n (by simp [z])]
def AI{Q:Unit->Shared->Prop}(I:qw X i j H s)(d:X.stack=X.env::X.outer)(l:X.env.frame=some X.env.locals)(e:H a=some (Zt a C f))(k:∀T g,H T=none->T≠a->qw X i j (upd (upd H a (Qh a C f (.ref T))) T (XA T (rawInt X.env.locals))) {s with heap:=g}->Q () {s with heap:=g}):wpAny M X.A (noteFrame (.ref a) X.env) Q F s:=by
 obtain⟨⟨_,i,g⟩,_,_⟩:=(show qH X.prog X.w H s.heap a (Qh a C f .none) from I.hok a _ e);have fr:=I.ok.frames;have f:=I.stack;rw[d]at fr f;refine vw fr f l i g λm T i j f l=>?_;rw[<-d]at j;have lt:=(zaf.mp g).1;have d:T≠a:=λz=>by
  obtain⟨_,q,_⟩:=l;rw[z,f]at q;cases q
 have g:=I.hok.fresh i;refine k T m g d (I.flown j ⟨λb d=>by cases tM.mp d;exact⟨_,e⟩,λb j d q=>by
   rwa [qf (qm q g),qf λz=>d (by simp [z])],λb d q=>by
   rwa [qf (tO (tI d i)),qf λz=>by rw[z,e]at q;cases q]⟩ (λb d=>by cases tM.mp d;exact⟨_,f⟩) λb j q d=>?_)
 by_cases e:b=T
 ·subst e;rw[qc]at q;cases q;exact ZH l
 ·rw[qf e]at q;by_cases e:b=a
  ·subst e;rw[qc]at q;cases q;exact Zs ⟨_,f,by simp [lt]⟩
  ·rw[qf e]at q;rcases d with d | d
   ·rw[q]at d;cases d
   ·exact absurd (tM.mp d) e
def D2{Q:Unit->Shared->Prop}(I:qw X l m H s)(d:X.stack=X.env::X.outer)(p:X.env.frame=some X.env.locals)(f:H a=some (Qh a C i (.ref T)))(g:H T=some (XA T .none))(k:∀e j,H e=none->e≠a->qw X l m (upd (upd (upd H a (Qh a C i (.ref e))) T (.ext λh=>∃o,h.get? T=some o)) e (XA e (rawInt X.env.locals))) {s with heap:=j}->Q () {s with heap:=j}):wpAny M X.A (noteFrame (.ref a) X.env) Q F s:=by
 obtain⟨⟨_,j,l⟩,_,_⟩:=(show qH X.prog X.w H s.heap a (Qh a C i (.ref T)) from I.hok a _ f);obtain⟨i,_,_⟩:=(show qH X.prog X.w H s.heap T (XA T .none) from I.hok T _ g);have r:T≠a:=λz=>by
  obtain⟨y,q,_⟩:=i;rw[z,j]at q;cases q
 have fr:=I.ok.frames;have m:=I.stack;rw[d]at fr m;refine Xi fr m p j l i r λm e p r B i x=>?_;rw[<-d]at r;have lt:=(zaf.mp l).1;have d:e≠a:=λz=>by
  obtain⟨y,q,_⟩:=x;rw[z,i]at q;cases q
 have l:=I.hok.fresh p;obtain⟨_,j⟩:=B;refine k e m l d (I.flown r ⟨λb d=>by
   simp only[tH,zah,or_false]at d;rcases d with rfl | rfl
   ·exact⟨_,f⟩
   ·exact⟨_,g⟩,λb o d q=>by
   simp only[tH,zah,or_false,not_or]at d;rwa [qf (qm q l),qf d.2,qf d.1],λb d q=>by
   rwa [qf (tO (tI d p)),qf (λz=>by rw[z,g]at q;cases q),qf (λz=>by rw[z,f]at q;cases q)]⟩ (λb d=>by
   simp only[tH,zah,or_false]at d;rcases d with rfl | rfl
   ·exact⟨_,i⟩
   ·exact⟨_,j⟩) λb o q d=>?_)
 by_cases f:b=e
 ·subst f;rw[qc]at q;cases q;exact ZH x
 ·rw[qf f]at q;by_cases e:b=T
  ·subst e;rw[qc]at q;cases q;exact⟨⟨_,j⟩,⟨_,j⟩,λm _ ⟨u,z⟩ k=>⟨u,k u z⟩⟩
  ·rw[qf e]at q;by_cases f:b=a
   ·subst f;rw[qc]at q;cases q;exact Zs ⟨_,i,by simp [lt]⟩
   ·rw[qf f]at q;rcases d with d | d
    ·rw[q]at d;cases d
    ·simp only[tH,zah,or_false]at d;exact(d.elim f e).elim
def vH{Q:Unit->Shared->Prop}(I:qw X g i H s)(b:X.env.frame=some X.env.locals)(d:H a=some (Qh a C e (.ref T)))(f:H T=some (XA T (rawInt X.env.locals)))(k:Q () s):wpAny M X.A (noteFrame (.ref a) X.env) Q F s:=by
 obtain⟨⟨_,g,i⟩,_,_⟩:=(show qH X.prog X.w H s.heap a (Qh a C e (.ref T)) from I.hok a _ d);obtain⟨d,_,_⟩:=(show qH X.prog X.w H s.heap T (XA T (rawInt X.env.locals)) from I.hok T _ f);exact wZ b g i d k
def Ud{Q:Unit->Shared->Prop}{fr:Option Addr}(I:qw X g i H s)(j:H a=some (Qh a C l (.ref T)))(e:H T=some (XA T m))(k:∀d,qw X g i (upd H T (XA T (fr.elim .none λf=>rawInt f))) {s with heap:=d}->Q () {s with heap:=d}):wpAny M X.A (setFlight (.ref a) fr) Q F s:=by
 obtain⟨⟨fs,d,g⟩,_,_⟩:=(show qH X.prog X.w H s.heap a (Qh a C l (.ref T)) from I.hok a _ j);obtain⟨i,_,_⟩:=(show qH X.prog X.w H s.heap T (XA T m) from I.hok T _ e);refine kP (fs:=Yl X.stack) d g i λd g st=>?_;obtain⟨_,q,z⟩:=id st;refine k d (I.flown g ⟨λb d=>by cases tM.mp d;exact⟨_,e⟩,λb g d q=>by rwa [qf (λz=>d (by simp [z]))],λb d q=>by rwa [qf (λz=>by rw[z,e]at q;cases q)]⟩ (λb d=>by cases tM.mp d;exact⟨_,q⟩) λb g q d=>?_);by_cases e:b=T
 ·subst e;rw[qc]at q;cases q;exact ZH st
 ·rw[qf e]at q;rcases d with d | d
  ·rw[q]at d;cases d
  ·exact absurd (tM.mp d) e
def xP(X:Cx)(m:List (Addr×Obj))(E:XK):Value->Shared->Prop:=λe s=>
 (∃(a d f:Addr) (H:Hp) (j:St),e=.ref a/\qw X m j H s/\H a=some (Zt a d f)/\E (.ref d) (some f) H)\/
 ∃(a d f g:Addr) (l:Value) (i H:Hp) (j:St),e=.ref a/\qw X m j H s/\(l=.none\/l=rawInt X.env.locals)/\H a=some (Qh a d f (.ref g))/\H g=some (XA g l)/\i g=none/\i a=some (Zt a d f)/\(∀b g,b≠a->i b=some g->H b=some g)/\E (.ref d) (some f) i
def ur{X:Cx}(Q:X.stack=X.env::X.outer)(D:X.env.frame=some X.env.locals):PassesOwn (model X.prog X.w) X.A X.env (xP X x E):=by
 intro e s h;have J:∀{a i j d:Addr} {L:Value} {H l:Hp} {y:St} {u:Shared},qw X x y H u->H a=some (Qh a i j (.ref d))->H d=some (XA d L)->d≠a->l d=none->l a=some (Zt a i j)->(∀b g,b≠a->l b=some g->H b=some g)->E (.ref i) (some j) l->cameBackBy (model X.prog X.w) X.A X.env (xP X x E) (.ref a) u:=λ{a i j d L H l y u} I f p m o B C r=>by
  obtain⟨⟨fs,x,O⟩,_,_⟩:=(show qH X.prog X.w H u.heap a (Qh a i j (.ref d)) from I.hok a _ f);unfold cameBackBy;refine zen (wpAny_field x rfl O ?_);rw[if_neg (show ¬((Value.ref d==Value.none)=true) by simp)]
  first
   | refine Ud I f p λO u=>?_
   | refine zen (zeo (Ud I f p λO u=>?_))
  refine .inr ⟨a,i,j,d,_,l,_,y,rfl,u,.inr (by rw[D];rfl),by rwa [qf (Ne.symm m)],qc,o,B,λb g x q=>?_,r⟩;rw[qf (λz=>by rw[z,o]at q;cases q)];exact C b g x q
 rcases h with ⟨a,i,j,H,y,rfl,I,f,r⟩ | ⟨a,i,j,d,L,l,H,y,rfl,I,T,f,p,o,B,C,r⟩
 ·exact AI I Q D f λd O i m u=>J u (by rw[qf (Ne.symm m)];exact qc) qc m i f (λb g x q=>by rwa [qf (qm q i),qf x]) r
 ·have m:d≠a:=λz=>by rw[z,B]at o;cases o
  rcases T with rfl | rfl
  ·refine D2 I Q D f p λy O i j u=>J u (by rw[qf (Ne.symm j),qf (Ne.symm m)];exact qc) qc j ?_ B (λb g x q=>?_) r
   ·cases q:l y with
    | none=>rfl
    | some g=>rw[C y g j q]at i;cases i
   ·have n1:b≠d:=λz=>by rw[z,o]at q;cases q
    have d:=C b g x q;rwa [qf (qm d i),qf n1,qf x]
  ·exact vH I D f p (J I f p m o B C r)
def ut(h:xP (Qq (Qb P w) P w K mg base N qual scope f d A outer s₀ H₀ E) r E e s):(Qq (Qb P w) P w K mg base N qual scope f d A outer s₀ H₀ E).xe e s:=by
 rcases h with ⟨a,i,j,H,m,rfl,I,d,l⟩ | ⟨a,i,j,u,C,x,H,m,rfl,I,B,d,o,g,p,y,l⟩
 ·exact Ji r m H s a i j I d l
 ·rcases B with rfl | rfl
  ·exact qQ r m H s _ s I ⟨a,i,j,u,x,H,rfl,rfl,I.bare,Un.refl,I.hok,d,o,g,p,y,l⟩
  ·show wpAny _ _ (leaving _ _) _ _ s;unfold leaving;refine zen (vH I rfl d o (Ud (fr:=none) I d o λ_ m=>⟨a,i,j,u,x,_,rfl,m.os,m.bare,m.base,m.hok,by rw[qf (Ne.symm (λz=>by rw[z,p]at g;cases g))];exact d,qc,g,p,λb d i q=>?_,l⟩));rw[qf (λz=>by rw[z,g]at q;cases q)];exact y b d i q
def RH{P:Program}{w:World}{K:zel}{mg:Str->Option Value}{base:Heap}{N:List Str}{qual:Str}{scope:Scope}{f:Addr}{j:Value}{A:Around}{outer:List Env}{s₀:Shared}{H₀:Hp}{E:XK}{st:Stmt}{t:TS} (h:∀(pn:List (Addr×Obj)) (W:Value->Shared->Prop),PassesOwn (model P w) (Qq (Qb P w) P w K mg base N qual scope f j A outer s₀ H₀ E).A (Qq (Qb P w) P w K mg base N qual scope f j A outer s₀ H₀ E).env W->
   jY (Qb P w) ((Qq (Qb P w) P w K mg base N qual scope f j A outer s₀ H₀ E).tried pn W) E->Ul ((Qq (Qb P w) P w K mg base N qual scope f j A outer s₀ H₀ E).tried pn W) E->JS ((Qq (Qb P w) P w K mg base N qual scope f j A outer s₀ H₀ E).tried pn W) st t):
  PS (Qq (Qb P w) P w K mg base N qual scope f j A outer s₀ H₀ E) st t:=by
 refine λB s C H D I J=>wpAny_mono ((h _ (xP _ B E) (ur rfl rfl) ?_ ?_).to [] s C H D (I.tried _) J) (λL l q=>?_) (λe l z=>ut z)
 ·intro O d y l e s' m Q;obtain⟨a,o,p,T,U,Y,rfl,os,bare,un,aa,r,ht,ab,ac,ae,x⟩:=Q;exact .inr ⟨a,o,p,T,.none,U,Y,d,rfl,I.untried (m.call' os un aa bare λb z=>absurd z (by simp)),.inl rfl,r,ht,ab,ac,ae,x⟩
 ·exact λO d y l a o p m r x=>.inl ⟨a,o,p,y,d,rfl,I.untried m,r,x⟩
 ·cases L with
  | next=>obtain⟨d,g,i,q⟩:=q;exact⟨d,g,I.untried i,q⟩
  | brk=>obtain⟨d,g,i,q⟩:=q;exact⟨d,g,I.untried i,q⟩
  | cont=>obtain⟨d,g,i,q⟩:=q;exact⟨d,g,I.untried i,q⟩
  | ret u=>obtain⟨v,d,g,i,af,q⟩:=q;exact⟨v,d,g,I.untried i,af,q⟩
def Aq{P:Program}{w:World}{K:zel}{mg:Str->Option Value}{base:Heap}{N:List Str}{qual:Str}{scope:Scope}{f:Addr}{a:Value}{A:Around}{outer:List Env}{s₀:Shared}{H₀:Hp}{E:XK}{st:Stmt}{t:TS} (h:∀(pn:List (Addr×Obj)) (W:Value->Shared->Prop),PassesOwn (model P w) (Qq (Qb P w) P w K mg base N qual scope f a A outer s₀ H₀ E).A (Qq (Qb P w) P w K mg base N qual scope f a A outer s₀ H₀ E).env W->
  jY (Qb P w) ((Qq (Qb P w) P w K mg base N qual scope f a A outer s₀ H₀ E).tried pn W) E->Ul ((Qq (Qb P w) P w K mg base N qual scope f a A outer s₀ H₀ E).tried pn W) E->JS ((Qq (Qb P w) P w K mg base N qual scope f a A outer s₀ H₀ E).tried pn W) st t):
 JS (Qq (Qb P w) P w K mg base N qual scope f a A outer s₀ H₀ E) st t:=.of (RH h)
open PyProof.Rows hiding K lo
open PyProof.Rows hiding K lo
open PyProof.Rows hiding K lo
open PyProof.Rows hiding K lo
open PySem PySem.Spec PySem.W
open PyProof.Rows hiding K lo
open PyProof.Rows hiding K lo
open PySem PySem.Spec PySem.W
open PyProof.Rows hiding K lo
open PyProof.Rows hiding K lo
def RawD(h:Heap)(d:Addr)(b:Array DictEntry)(e:Nat):Prop:=∃a,h.get? d=some a/\a.ExactDict/\a.data=.dict b e
def RawD.ty{s:Shared}(x:RawD s.heap d f g):s.TypeIs (.ref d) "dict":=let ⟨e,a,b,_⟩:=x;⟨e,a,b.1⟩
open PyProof.Rows hiding K lo
open PySem PySem.Spec PySem.W
open PyProof.Rows hiding K lo
open PyProof.Rows hiding K lo
section
variable{prog:Program}{w:World}{KK:Type}[DecidableEq KK]{kd:HeapKind prog w KK}{A:Around}{E:Value->Shared->Prop}{s:Shared}
end
open PyProof.Rows hiding K lo
open PyProof.Rows hiding K lo
open PyProof.Rows hiding K lo
open PyProof.Rows hiding K lo
open PyProof.Rows hiding K lo
def Uu(r:qU v a):∀n:Nat,qP (zbs n v) (zbs n [a]).flatten
 | 0=>.nil
 | n+1=>by
  rw[zdO,zdO];exact .cons r (Uu r n)
inductive Gn(K:zel)(x:V)(y:V)(H:Hp)(Q:VK):Prop
 | mk (a:Addr) (v:V) (n:Nat):x=.ref a->(y=.int (n:Int))->(SqL K H a [v])->(n<=200)->(∀l,H l=none->Q (.ref l) (upd H l (.lst (zbs n v))))->Gn K x y H Q
def BD(K:zel):R2:=λx y H Q=>Gn K x y H Q
def xk:JN X (binaryOp .Mult) (BD X.K):=by
 intro L s O H x y v u Q I l m h;obtain⟨a,z,n,rfl,rfl,o,p,q⟩:=h;cases l;obtain⟨t,rfl⟩:=(show ∃t,u=Value.int (n:Int) t from m);obtain⟨T,f,pl,_⟩:=I.list o;cases f with
 | cons r f=>
  cases f;obtain⟨⟨cls,d,data,g⟩,e,i,k,hd⟩:=id pl.isList;simp only at i hd;subst i hd;rename_i b;have B:-(2^63:Int)<=(n:Int):=by omega
  have C:(n:Int) < 2^63:=by omega
  have D:[b].toArray.size*(n:Int).toNat<=256:=by simp;omega
  have j:(n:Int).toNat=n:=by omega
  generalize (n:Int)=x at B C D j;refine wpAny_binaryOp_repeat_ref (by decide) ⟨_,e,rfl⟩ (λJ=>typeIs_int J x t) noFill_list_mul F.fills_int_mul F.slot_int_rmul repeat_list F.slot_int_index.lookup
   (call_meets F.slot_int_rmul (typeIs_int s x t) F.entry_int_rmul (F.args_int_rmul_2 _ _) (PySem.lm_int_rmul_list_any x t a [b].toArray k d g)
    ⟨e,rfl,⟨_,e,rfl⟩,call_meets F.slot_list_mul ⟨_,e,rfl⟩ F.entry_list_mul (F.args_list_mul_2 _ _)
     (PySem.lm_list_mul_any a [b].toArray k d g x t (by simp [Builtin.List.listFitsIndex];omega) (by omega) (by simp [Builtin.List.listTooLong,zeq];omega))
     ⟨e,?_⟩⟩)
  rw[listMul_foldl_if,j];exact⟨.ref s.heap.objs.size,_,I.laid (o:=.lst (zbs n z)) (λb u h=>tm _ h) (tp _) ⟨by rw[zaP];exact t8 p (by decide),_,_,Uu r n,tR _ rfl⟩,rfl,q _ (I.hok.fresh (tp _))⟩
open PyProof.Rows hiding K lo
open PyProof.Rows hiding K lo
abbrev z6(o:Obj):HO:=.frz o (.frz o (.own 0))
inductive ya(q:Str)(oc:Obj):Prop
 | mk (vs:Array Value) (t:Tok):oc.data=.fields vs->vs[1]?=some (.str q t)->ya q oc
structure Wx(mg:Str->Option Value)(base:Heap)(c P:Addr):Prop where
 code:PySem.W.CodeHd base c P
 blt:base.BuiltinsAt mg P
abbrev Cx.shut(X:Cx):Cx:={X with fn:=λ_=>false}
def Ui(l:List Value)(h:TriplesOk l)(e:codeAmong pos (l++[rawInt a,rawInt b,c])=some f):codeAmong pos l=some f\/f=c:=by
 fun_induction TriplesOk l with
 | case1=>
  simp only[zcP,codeAmong,rawInt]at e;split at e
  ·exact .inr (tF.inj e).symm
  ·cases e
 | case2 a t b u x rest g=>
  simp only[zcI,codeAmong]at e ⊢;split at e
  ·rename_i d;rw[if_pos d];exact .inl e
  ·rename_i d;rw[if_neg d];exact g h e
 | case3 l i j=>exact h.elim
def Cx.Ok.shut{X:Cx}(o:X.Ok):X.shut.Ok:=⟨o.mod,o.kind,o.glob,o.blt,o.above,o.inj,o.has,λ_ _ z=>zcJ z,o.hd,o.frames,o.stk,o.exf,o.bs,o.bsz,o.noex,o.exfs,o.funs,o.frf⟩
def Zu(cs:Addr->Option Obj)(H:Hp):Hp:=λb=>match cs b with
 | some a=>some (z6 a)
 | none=>H b
def Jt{H:Hp}{cs:Addr->Option Obj}(a:∀b o,cs b=some o->H b=none){b:Addr}(e:H b=some u):Zu cs H b=some u:=by
 unfold Zu;cases q:cs b with
 | none=>exact e
 | some o=>rw[a b o q]at e;cases e
def ZZ{cs:Addr->Option Obj}(n:∀o,cs b≠some o):Zu cs H b=H b:=by
 unfold Zu;cases q:cs b with
 | none=>rfl
 | some o=>exact absurd q (n o)
def Yg{cs:Addr->Option Obj}(e:cs b=some o):Zu cs H b=some (z6 o):=by unfold Zu;rw[e]
def qw.catchN(I:qw X d f H s){cs:Addr->Option Obj}(a:∀b o,cs b=some o->∃x v,X.env.cells.lookup x=some b/\X.fn x=true/\s.heap.get? b=some o/\o.data=.cell v):∀b o,cs b=some o->H b=none:=λb o e=>by
 obtain⟨x,v,d,f,_⟩:=a b o e;rcases I.freeC x b d with q | ⟨q,_⟩
 ·exact q
 ·rw[f]at q;cases q
def qw.catch(I:qw X a g H s)(cs:Addr->Option Obj)(f:∀b o,cs b=some o->∃x v,X.env.cells.lookup x=some b/\X.fn x=true/\s.heap.get? b=some o/\o.data=.cell v):qw X.shut a g (Zu cs H) s:=by
 have same:∀{b:Addr} {u:HO},H b=some u->Zu cs H b=some u:=λe=>Jt (I.catchN f) e;refine⟨I.ok.shut,I.os,I.bare,⟨I.base.keep,I.base.slot,λb o e n a=>?_,I.base.there,λb g e=>same (I.base.tups b g e),λb o u e=>same (I.base.frzs b o u e),λb l e=>?_⟩,I.loc,I.cell,?_,λx c e=>?_,λp r=>?_,λb u e=>?_,I.len⟩
 ·rw[ZZ λg q=>?_]
  ·exact I.base.free b o e n a
  ·obtain⟨x,v,i,j,_⟩:=f b g q;exact absurd (tI (tJ e) (I.ok.cab x b j i)) (zan _)
 ·obtain⟨m,q⟩:=I.base.tbls b l e;exact⟨m,same q⟩
 ·show Zu cs H X.env.locals=none;rw[ZZ λg q=>?_]
  ·exact I.free
  ·obtain⟨x,v,i,_⟩:=f _ g q;exact I.cne x _ i rfl
 ·cases q:cs c with
  | some o=>exact .inr ⟨rfl,o,Yg q⟩
  | none=>
   rw[ZZ λo z=>by rw[q]at z;cases z];exact(I.freeC x c e).imp id λz=>⟨rfl,z.2⟩
 ·obtain⟨e,n,ne,a,d⟩:=I.pin p r;refine⟨e,?_,ne,a,d⟩;rw[ZZ λg q=>?_]
  ·exact n
  ·obtain⟨x,v,i,j,a,l⟩:=f _ g q;rw[e]at a;cases a;exact d v l
 ·cases q:cs b with
  | some o=>
   rw[Yg q]at e;cases e;obtain⟨x,v,i,j,a,l⟩:=f b o q;exact⟨a,a,o,a⟩
  | none=>
   rw[ZZ λo z=>by rw[q]at z;cases z]at e;exact(I.hok b u e).stay (λ_ _ _ z=>z) (λ_ z=>same z) (λ_ _ z=>same z) (λ_ _ z=>same z)
structure Lc(X:Cx)(σ:St)(H H':Hp)(P:Addr)(a_ qual:Str)(gj:Arguments)(fu:List Stmt)(scope:Scope)(f c':Addr)(gL pm gO:Value)(oc:Obj):Prop where
 same:Same H H'
 new:H f=none
 fn:H' f=some (z6 (zcA a_ qual gj fu scope (qY X.env scope.names []) gL pm c' gO))
 cd:H' c'=some (.frz oc (.own P))
 cq:ya qual oc
 cells:∀x,(x,NameKind.free)∈scope.names->∃ca co v,(qY X.env scope.names []).lookup x=some ca/\H' ca=some (z6 co)/\co.data=.cell v/\∀(i:Nat) (y:V),X.N[i]?=some x->σ[i]?=some (some y)->∃u,v=some u/\qU y u
 inj:∀x y c,(qY X.env scope.names []).lookup x=some c->(qY X.env scope.names []).lookup y=some c->x=y
def PB(X:Cx)(st:List Stmt)(t:TS):Prop:=
 ∀(a:List (Addr×Obj)) (s:Shared) (b:St) (H:Hp) (D:QN),qw X a b H s->t D b H->wpAny (model X.prog X.w) X.A (execs st X.env) (λb d=>∃e,SP {X with fn:=e} a D b d) X.xe s
def FD{X:Cx}{st:List Stmt}{t:TS}(h:Xw X st t):PB X st t:=λa s b H D I q=>jn (h.to a s b H D I q) λ_ _ z=>⟨X.fn,z⟩
def MR{X:Cx}{st:Stmt}{rest:List Stmt}{t u:TS}(b:JS X st t)(d:PB X rest u):PB X (st::rest) (uY t u):=by
 refine λa s e H D I h=>wpAny_execs_cons (jn (b.to a s e H {D with nx:=u D} I h) λf g q=>?_);cases f with
 | next=>
  obtain⟨i,j,l,q⟩:=q;exact d a g i j D l q
 | ret v=>exact⟨X.fn,q⟩
 | brk=>exact⟨X.fn,q⟩
 | cont=>exact⟨X.fn,q⟩
def qw.made_def{pos:Pos}{f i:Obj}(I:qw X a r H s)(o:H P=some (.tbl #[.str qual x]))(O:s.heap.get? P=some (zbI ts))(y:TriplesOk ts.toList)(cs:∀pos j,codeAmong pos ts.toList=some j->∃c f,j=.ref c/\H c=some (.frz f (.own P))/\En #[.str qual x] f)(B:Heap.ExtBut P s.heap d)(l:s.heap.objs.size<=g)(p:g < d.objs.size)(D:d.get? g=some f)(J:ya qual f)(C:d.get? P=some (zbI (ts++#[rawInt pos.line,rawInt pos.col,.ref g])))(L:i.isFreed=false):qw X a r (upd (upd H g (.frz f (.own P))) d.objs.size (z6 i)) {s with heap:=d.push i,toks:=tk}:=by
 have up:∀{b:Addr} {u:HO},H b=some u->upd (upd H g (.frz f (.own P))) d.objs.size (z6 i) b=some u:=λ{b u} e=>by
  rw[qf (qm e (I.hok.fresh (zab (zaI l p)))),qf (qm e (I.hok.fresh l))];exact e
 have r:∀{b:Addr},H b=none->b≠P:=λn z=>by rw[z,o]at n;cases n
 have old:∀b a,b≠P->s.heap.get? b=some a->(d.push i).get? b=some a:=λb a n e=>tm _ (B b a n e);have lt:∀{b:Addr} {a:Obj},s.heap.get? b=some a->b≠d.objs.size/\b≠g:=λe=>⟨tO (zeb (tI (tJ e) l) p),tO (tI (tJ e) l)⟩;refine I.step (ch:=[]) (λ_ z=>nomatch z) (λb a _ _ _ e n=>old b a (r n) e) (λb a _ _ _ e n=>⟨a.slots,old b a (r n) e⟩) (λb a _ e n=>?_) (λb a _ e=>?_) (λb _ e=>up e) (λb a u e=>up e) (λb _ e=>⟨#[],by rw[up e];simp⟩) (λm l=>(l.extBut B (r I.free)).push _) (λb u e=>?_) I.bare
 ·rwa [qf (lt e).1,qf (lt e).2]
 ·rcases Decidable.em (b=P) with z | z
  ·rw[z];exact⟨_,tm _ C⟩
  ·exact⟨a,old b a z e⟩
 ·rcases Decidable.em (b=d.objs.size) with z | z
  ·subst z;rw[qc]at e;cases e;have:=tR d L;exact⟨this,this,_,this⟩
  rw[qf z]at e;rcases Decidable.em (b=g) with a | a
  ·subst a;rw[qc]at e;cases e;have:=tm i D;exact⟨this,_,this⟩
  rw[qf a]at e;rcases Decidable.em (b=P) with a | a
  ·subst a;rw[o]at e;cases e;refine⟨_,tm _ C,?_,λa j q=>?_⟩
   ·rw[zci];exact TriplesOk_snoc _ _ _ _ y
   ·rw[zci]at q;rcases Ui _ y q with q | q
    ·obtain⟨c,d,i,l,r⟩:=cs a j q;exact⟨c,d,i,up l,r⟩
    ·obtain⟨a,t,d,i⟩:=J;exact⟨g,f,q,by rw[qf (tO p),qc],qual,x,a,t,rfl,d,i⟩
  ·refine(I.hok b u e).stay (λc v a d=>old c v ?_ d) (λ_ z=>up z) (λ_ _ z=>up z) (λ_ _ z=>up z);rcases a with z | z
   ·rwa [z]
   ·intro a;rw[a,o]at z;cases z
def HL(X:Cx)(P:Addr)(i:Nat)(a_ qual:Str)(d:Arguments)(fu:List Stmt)(scope:Scope)(u:TS):TS:=λD a H=>(∃b,H P=some (.tbl #[.str qual b]))/\∀f e g pm j l b,Lc X (a.set i (some (.ref f))) H b P a_ qual d fu scope f e g pm j l->u D (a.set i (some (.ref f))) b
open Classical in
def C1{X:Cx}{i:Nat}{c P:Addr}{a_ qual:Str}{g:Arguments}{fu rest:List Stmt}{scope:Scope}{pos:Pos}{u:TS}(a:Wx X.mg X.base c P)(hN:X.N.Nodup)(L:X.N[i]?=some a_)(O:X.env.scope.names.lookup a_=some .local)(af:X.env.code=.ref c)(d:qualnameIn X.env a_ a_=qual)
  (j:(scope.names.all λx=>x.2 != .free || X.env.scope.names.lookup x.1==some .cell)=true) (ai:∀x,X.fn x=true) (l:g.defaults=[]) (o:g.kw_defaults=[]) (p:annTrees g none X.env=[]) (B:PB X.shut rest u):
  PB X (.FunctionDef a_ g fu [] none [] scope none a_ pos::rest) (HL X P i a_ qual g fu scope u):=by
 intro Q s σ H D I h;obtain⟨⟨r,T⟩,h⟩:=h;obtain⟨ts,U,Y,cs⟩:=(show qH X.prog X.w H s.heap P (.tbl #[.str qual r]) from I.hok P _ T);refine wpAny_execs_cons (PySem.W.nestDef_K l o p ?_);rw[d];have hg:=I.ok.mod.glob.keeps I.bk;have CH:=a.code.keeps I.bk;have hb:s.heap.BuiltinsAt X.mg P:=by
  obtain⟨l,d,o,p,r,C,J,b6⟩:=a.blt;exact⟨l,d,o,p,r,C,I.bk _ _ J,b6⟩
 have aj:mainGlobals≠P:=λz=>by
  obtain⟨d,_,_,e,_⟩:=I.ok.mod.glob;have:=(I.bs _ _ e).2;rw[z,T]at this;cases this
 have aa:∀x,(x,NameKind.free)∈scope.names->X.env.scope.names.lookup x=some .cell:=λx a=>by
  have:=zaK.mp j _ a;simpa using this
 have ab:∀x,(x,NameKind.free)∈scope.names->∃c,X.env.cells.lookup x=some c:=λx a=>I.ok.has x (.inl (aa x a));have ag:=QZ λx a e=>ab x.1 (e▸a);have ak:∀x,(x,NameKind.free)∈scope.names->∀p,X.env.cells.lookup x=some p->(qY X.env scope.names []).lookup x=some p:=λx a p e=>by
  obtain⟨c2,j⟩:=Js (cs:=[]) (.inl a);rcases Qi j with z | ⟨_,z⟩
  ·simp at z
  ·rw[e]at z;rw[j,z];rfl
 have look:∀x c,(qY X.env scope.names []).lookup x=some c->X.env.cells.lookup x=some c:=λx c e=>by
  rcases Qi e with z | ⟨l,j⟩
  ·simp at z
  ·obtain⟨c2,B⟩:=ab x l;rw[B]at j;rw[B,j];rfl
 have ft:∀{f j:Addr} {l pm o:Value} {C:Obj} {r:Hp} {J:Shared},qw X Q σ r J->Same H r->H f=none->r f=some (z6 (zcA a_ qual g fu scope (qY X.env scope.names []) l pm j o))->r j=some (.frz C (.own P))->ya qual C->
   wpAny (model X.prog X.w) X.A (storeName X.env a_ (.ref f)) (λ_ al=>wpAny (model X.prog X.w) X.A (execs rest X.env) (λfl s'=>∃am,SP {X with fn:=am} Q D fl s') X.xe al) X.xe J:=λ{f j l pm o C r J} I1 sm nf r J e3=>by
  refine Yp I1 hN L (.inl O) (v:=.ref f) rfl (λs2 L _=>?_) (.inr O);let cc:Addr->Option Obj:=λb=>if ∃x,(x,NameKind.free)∈scope.names/\X.env.cells.lookup x=some b then s2.heap.get? b else none
  have hc:∀b d,cc b=some d->∃x v,X.env.cells.lookup x=some b/\X.fn x=true/\s2.heap.get? b=some d/\d.data=.cell v:=λb d e=>by
   rcases Classical.em (∃x,(x,NameKind.free)∈scope.names/\X.env.cells.lookup x=some b) with z | z
   ·have e':=(if_pos z).symm.trans e;obtain⟨x,a,ah⟩:=z;obtain⟨v,_,O,hd⟩:=L.cell x b ah;rw[e']at O;cases O;exact⟨x,v,ah,ai x,e',hd⟩
   ·have:cc b=none:=if_neg z;rw[this]at e;cases e
  have hn:=L.catchN hc;refine B Q s2 _ _ D (L.catch cc hc) (h f j l pm o C _ ⟨λb u e=>Jt hn (sm _ _ e),nf,Jt hn r,Jt hn J,e3,λx a=>?_,λx y c Q B=>I.ok.inj x y c (look x c Q) (look y c B)⟩);obtain⟨p,B⟩:=ab x a;obtain⟨v,d,O,hd⟩:=L.cell x p B;refine⟨p,d,v,ak x a p B,Yg ((if_pos ⟨x,a,B⟩).trans O),hd,λp y r J=>?_⟩;obtain⟨m,_,Q⟩:=L.loc;obtain⟨w',an,lk⟩:=Q p x y r J (.inr (.inl (aa x a)));rcases lk with ⟨k,_⟩ | ⟨_,c2,p,o2,L,Q⟩
  ·have k':X.env.scope.names.lookup x=some .local:=k;rw[aa x a]at k';cases k'
  ·rw[B]at p;cases p;rw[O]at L;cases L;rw[hd]at Q;exact⟨w',Data.cell.inj Q,an⟩
 cases Q:codeAmong pos ts.toList with
 | none=>
  refine PySem.W.makeFunction_K ag I.ok.glob hg af CH U Y Q aj hb λj o l B tk a ac ae p ao=>?_;obtain⟨c2,C,L,t,J,ap,hd,O⟩:=p;cases J;have p:=I.hok.fresh (zab (zaI ac ae));refine ft (I.made_def T U Y cs a ac ae ap ⟨L,t,hd,O⟩ ao rfl) (λb u e=>?_) p qc ?_ ⟨L,t,hd,O⟩
  ·rw[qf (qm e p),qf (qm e (I.hok.fresh ac))];exact e
  ·rw[qf (tO ae),qc]
 | some a=>
  obtain⟨j,C,rfl,J,q,t,L,T,aq,hd,O⟩:=cs pos a Q;cases aq;refine PySem.W.makeFunction_hit ag I.ok.glob hg af CH U Y Q hb λo l B tk C a=>?_;have p:=I.hok.fresh a;have r:(B.push (zcA a_ qual g fu scope (qY X.env scope.names []) l ((X.mg "__name__").getD .none) j o)).get? B.objs.size=some (zcA a_ qual g fu scope (qY X.env scope.names []) l ((X.mg "__name__").getD .none) j o):=tR B rfl;refine ft (I.laid (o:=z6 (zcA a_ qual g fu scope (qY X.env scope.names []) l ((X.mg "__name__").getD .none) j o)) (λb d e=>tm _ (C b d e)) a ⟨r,r,_,r⟩) (λb u e=>by rwa [qf (qm e p)]) p qc ?_ ⟨L,T,hd,O⟩;rwa [qf (qm J p)]
open PyProof.Rows hiding K lo
def jq.okB{P:Program}{w:World}{K:zel}{mg:Str->Option Value}{base:Heap}{j:yc}{x qual:Str}{st:Stmt}{f c:Addr}{l:zep}{N ps:List Str}{k:Nat}{m:Sp}(F:jq K x qual st f l)(C:l.code=.ref c)(S:qk N ps (qg st))(len:∀vs H Q E,m vs H Q E->vs.length=ps.length)
  (D:∀(A:Around) (outer:List Env) (s:Shared) (H:Hp) (vs:List V) (Q:VK) (E:XK),ji k (A.deeper (envOfC qual (qg st) s.heap.objs.size f (.ref c)))->m vs H Q E->
   ∃t,PB (Qq j P w K mg base N qual (qg st) f (.ref c) A outer s H E) (jk st) t/\t {nx:=λ_ H'=>Q .non H',rt:=Q} (start N vs) H):qp P w K mg base j (k+1) f l ps m:=by
 obtain⟨oc,od,kV,ab,pm,an,ac,ct,ae,rfl,lk,J⟩:=F.ex;have L:=C;subst L;refine⟨len,λA outer s H args O vs Q E hr g T U z=>?_⟩;have B:=g.mod.kin.keeps λb o e=>(g.bs b o e).1;have Y:∀y∈ps.zip O,(qg st).names.lookup y.1=some .local\/((qg st).names.lookup y.1=some .cell/\((cellsFrom (s.heap.objs.size+1) (qg st).names []).lookup y.1).isSome=true):=λ⟨n,v⟩ hy=>by
  rcases S.par n (zbF hy).1 with q | q
  ·exact .inl q
  ·exact .inr ⟨q,zcx _ _ _ (.inl q)⟩
 refine codeAny_call_function hr.depth (B _ _ lk) rfl S.co S.gen rfl (zdR B J) (T _ _ _ _ (wpAny_newFunctionEnv_cells S.kind Y λaf he s1 x=>?_));subst he;refine⟨(g.mod.nolimit.keeps λb o e=>(g.bs b o e).1).keeps x.toInCall.keep,codeAny_func ?_⟩;obtain⟨t,ht,hq⟩:=D A outer s H vs Q E (hr.deeper _) z;refine wpAny_mono (ht [] s1 (start N vs) H _ (Vj S hr.hd g (len _ _ _ _ z) U x) hq) (λfl p a=>?_) λe p a=>a;obtain⟨aa,a⟩:=a;have ft:∀{i:St} {H':Hp} {v:V} {u:Value},qw {Qq j P w K mg base N qual (qg st) f (.ref c) A outer s H E with fn:=aa} [] i H' p->qU v u->Q v H'->CE outer P w H s Q u p:=
  λ{i H' v u} d r q=>⟨v,H',d.os,d.bare,d.base,d.hok,r,q⟩
 cases fl with
 | ret u=>
  obtain⟨v,i,H',d,r,q⟩:=a;exact ft d r q
 | next=>
  obtain⟨i,H',d,q⟩:=a;exact ft (v:=V.non) d rfl q
 | brk=>
  obtain⟨_,_,_,q⟩:=a;exact False.elim q
 | cont=>
  obtain⟨_,_,_,q⟩:=a;exact False.elim q
structure Yk(N ps fr:List Str)(sc:Scope):Prop where
 kind:sc.kind=.function
 co:sc.isCoroutine=false
 gen:sc.isGenerator=false
 nd:N.Nodup
 pre:N.take (ps++fr).length=ps++fr
 par:∀x∈ps,sc.names.lookup x=some .local
 free:∀x∈fr,sc.names.lookup x=some .free
 frees:∀y∈sc.names,y.2=.free->y.1∈fr
 nocell:∀y∈sc.names,y.2≠.cell
structure HB(H:Hp)(P f:Addr)(a_ qual:Str)(st:Stmt)(fd:zep)(ws:List (Str×V)):Prop where
 ex:∃(gL pm gO:Value) (c':Addr) (cl:List (Str×Addr)) (oc:Obj),fd=zej a_ qual (j4 st) (jk st) (qg st) cl .none .none gL pm none (.ref c') gO/\H f=some (z6 {cls:=.type "function",data:=.func fd})/\H c'=some (.frz oc (.own P))/\ya qual oc/\
  (∀x y c,cl.lookup x=some c->cl.lookup y=some c->x=y)/\(∀x c,cl.lookup x=some c->x∈ws.map (·.1))/\
  ∀x v,(x,v)∈ws->∃c o u,cl.lookup x=some c/\H c=some (z6 o)/\o.data=.cell (some u)/\qU v u
def zm(b:yc)(P:Program)(w:World)(K:zel)(mg:Str->Option Value)(base:Heap)(N:List Str)(qual:Str)(scope:Scope)(f:Addr)(a:Value)(cl:List (Str×Addr))(A:Around)(outer:List Env)(s:Shared)(H:Hp)(E:XK):Cx where
 prog:=P
 w:=w
 K:=K
 mg:=mg
 base:=base
 A:=A.deeper (zcc qual scope s.heap.objs.size f a cl)
 N:=N
 s₀:=s
 H₀:=H
 env:=zcc qual scope s.heap.objs.size f a cl
 outer:=outer
 stack:=zcc qual scope s.heap.objs.size f a cl::outer
 ex:=[]
 calm:=true
 fn:=λ_=>false
 pn:=[]
 xe:=λe d=>wpAny (model P w) (A.deeper (zcc qual scope s.heap.objs.size f a cl)) (leaving (zcc qual scope s.heap.objs.size f a cl) e) (λ_ a=>b outer H s E e a) (λg a=>b outer H s E g a) d
def X7:∀{ps:List Str} {us:List Value} {i:Nat},ps.Nodup->ps[i]?=some x->us[i]?=some u->(ps.zip us).reverse.lookup x=some u:=by
 intro ps;induction ps with
 | nil=>intro us i _ h;cases h
 | cons d ps f=>
  intro us i a e b;cases us with
  | nil=>cases b
  | cons v us=>
   rw[List.zip_cons_cons,zdj];obtain⟨np,a⟩:=zak.mp a;cases i with
   | zero=>
    obtain rfl:d=x:=by simpa using e
    obtain rfl:v=u:=by simpa using b
    have:(ps.zip us).reverse.lookup d=none:=by
     rw[List.lookup_eq_none_iff];intro q d;have:=(zbF (zcK.mp d)).1;simp only[beq_eq_false_iff_ne,ne_eq,Bool.not_eq_true,bne_iff_ne];intro z;rw[z]at np;exact np this
    rw[zdS,this];simp
   | succ i=>
    have:=f a (by simpa using e) (by simpa using b);rw[zdS,this];rfl
def D8{P:Program}{w:World}{K:zel}{mg:Str->Option Value}{base:Heap}{O:yc}{PT f:Addr}{a_ qual:Str}{st:Stmt}{fd:zep}{N ps fr:List Str}{k:Nat}{sp:List (Str×V)->Sp}(S:Yk N ps fr (qg st))(len:∀g vs H Q E,sp g vs H Q E->vs.length=ps.length/\g.map (·.1)=fr)
  (af:∀(o:Addr) (cl:List (Str×Addr)) (A:Around) (outer:List Env) (s:Shared) (H:Hp) (g:List (Str×V)) (vs:List V) (Q:VK) (E:XK),ji k (A.deeper (zcc qual (qg st) s.heap.objs.size f (.ref o) cl))->sp g vs H Q E->
   ∃t,Xw (zm O P w K mg base N qual (qg st) f (.ref o) cl A outer s H E) (jk st) t/\t {nx:=λ_ H'=>Q .non H',rt:=Q} (start N (vs++g.map (·.2))) H):
  qp P w K mg base O (k+1) f fd ps (λvs H Q E=>∃g,HB H PT f a_ qual st fd g/\sp g vs H Q E):=by
 refine⟨λvs H Q E ⟨g,_,h⟩=>(len _ _ _ _ _ h).1,λA outer s H args us vs Q E hr l hb ag ⟨g,ah,ae⟩=>?_⟩;obtain⟨hl,Y⟩:=len _ _ _ _ _ ae;obtain⟨ar,pm,as,o,cl,oc,rfl,hf,ai,⟨aj,t',ak,al⟩,inj,am,ab⟩:=ah.ex;refine codeAny_call_function hr.depth ((show qH P w H s.heap f (z6 _) from l.hok f _ hf).1) rfl S.co S.gen rfl ⟨o,oc,aj,t',rfl,(show qH P w H s.heap o (.frz oc (.own PT)) from l.hok o _ ai).1,ak,al⟩ (hb _ _ _ _ (wpAny_newFunctionEnv S.nocell (λy m=>S.par y.1 (zbF m).1) (λh1 an ao=>?_) S.kind));have T:∀b j,s.heap.get? b=some j->h1.get? b=some j:=λb j e=>ao.extBut b j (tO (tJ e)) (tm _ e);refine⟨(l.mod.nolimit.keeps λb j e=>(l.bs b j e).1).keeps T,codeAny_func ?_⟩;obtain⟨t,ht,hq⟩:=af o cl A outer s H g vs Q E (hr.deeper _) ae;have ac:∀b:Addr,b∉(zm O P w K mg base N qual (qg st) f (.ref o) cl A outer s H E).ex:=λb z=>absurd (show b∈([]:List Addr) from z) (by simp);have lw:g.length=fr.length:=by have:=congrArg zas Y;simpa using this
 have hN:ps.length+fr.length<=N.length:=by
  have:=congrArg zas S.pre;rw[tL,tx]at this;omega
 have kn:∀x c,cl.lookup x=some c->∃j u,H c=some (z6 j)/\j.data=.cell (some u):=λx c e=>by
  obtain⟨⟨y,v⟩,m,rfl⟩:=tz.mp (am x c e);obtain⟨J,j,u,a,b,d,_⟩:=ab y v m;rw[e]at a;cases a;exact⟨j,u,b,d⟩
 have I:qw (zm O P w K mg base N qual (qg st) f (.ref o) cl A outer s H E) [] (start N (vs++g.map (·.2))) H {s with heap:=h1,toks:=s.toks+(ps.zip us).length}:=by
  refine⟨⟨l.mod,S.kind,rfl,rfl,tp _,inj,λy m=>?_,λ_ _ z=>zcJ z,λ_=>hr.hd,Around.frames_deeper l.frames,.inr ⟨rfl,rfl⟩,λb z=>absurd z (ac b),l.bs,l.bsz,λb _ _=>ac b,λb z=>absurd z (ac b),l.funs,l.frf⟩,
   rfl,l.bare,Un.kept T,⟨_,an,λi y v q1 p q3=>?_⟩,λy c h=>?_,l.hok.fresh (tp _),λy c h=>?_,λap hp=>absurd (show ap∈([]:List (Addr×Obj)) from hp) (by simp),l.hok.kept T,?_⟩
  ·have m:=m;rcases m with m | m
   ·exact absurd rfl (S.nocell _ (PySem.mem_of_lookup m))
   ·have:=S.frees _ (PySem.mem_of_lookup m) rfl;rw[<-Y]at this;obtain⟨⟨z,v⟩,hz,ez⟩:=tz.mp this;obtain⟨J,j,u,a,_⟩:=ab z v hz;exact⟨J,by rwa [<-show z=y from ez]⟩
  ·have hi:i < (vs++g.map (·.2)).length:=by
    rcases zbj i (vs++g.map (·.2)).length with z | z
    ·exact z
    ·unfold start at p;rw[tY (by simpa using z),zcu]at p;split at p<;>cases p
   have B:(vs++g.map (·.2))[i]?=some v:=by
    unfold start at p;rw[t7 (by simpa using hi),tu]at p;cases e:(vs++g.map (·.2))[i]? with
    | none=>rw[e]at p;cases p
    | some z=>rw[e]at p;cases p;rfl
   rw[tx,tc]at hi;have C:(ps++fr)[i]?=some y:=by
    rwa [<-S.pre,zbp (by rw[tx];omega)]
   rcases zbj i vs.length with z | z
   ·rw[t7 z]at B;rw[t7 (by omega)]at C;obtain⟨u,hu,D⟩:=ag.get B;have aq:ps.Nodup:=by
     have:=S.nd.sublist (zcy (ps++fr).length N);rw[S.pre]at this;exact(zcB.mp this).1
    exact⟨u,D,.inl ⟨S.par y (tW C),X7 aq C hu⟩⟩
   ·rw[tY z,tu]at B;rw[tY (by omega),<-hl]at C;rw[<-Y,tu]at C;cases e:g[i - vs.length]? with
    | none=>rw[e]at B;cases B
    | some U=>
     rw[e]at B C;obtain rfl:U.1=y:=tF.inj C;obtain rfl:U.2=v:=tF.inj B;have hm:=tW e;obtain⟨J,j,u,a,b,d,D⟩:=ab U.1 U.2 hm;exact⟨u,D,.inr ⟨.inr (S.free _ (by rw[<-Y];exact tz.mpr ⟨U,hm,rfl⟩)),J,a,j,T _ _ (show qH P w H s.heap J (z6 j) from l.hok J _ b).1,d⟩⟩
  ·obtain⟨j,u,b,d⟩:=kn y c h;exact⟨some u,j,T _ _ (show qH P w H s.heap c (z6 j) from l.hok c _ b).1,d⟩
  ·obtain⟨j,u,b,d⟩:=kn y c h;exact .inr ⟨rfl,j,b⟩
  ·show (start N (vs++g.map (·.2))).length=N.length;unfold start;rw[tx,tc,zaP,tx,tc];omega
 refine wpAny_mono (ht.to [] _ (start N (vs++g.map (·.2))) H _ I hq) (λfl s' L=>?_) λe s' L=>L;have ft:∀{aa:St} {H':Hp} {v:V} {u:Value},qw (zm O P w K mg base N qual (qg st) f (.ref o) cl A outer s H E) [] aa H' s'->qU v u->Q v H'->CE outer P w H s Q u s':=
  λ{aa H' v u} r D q=>⟨v,H',r.os,r.bare,r.base,r.hok,D,q⟩
 cases fl with
 | ret u=>
  obtain⟨v,aa,H',r,D,q⟩:=L;exact ft r D q
 | next=>
  obtain⟨aa,H',r,q⟩:=L;exact ft (v:=V.non) r rfl q
 | brk=>
  obtain⟨_,_,_,q⟩:=L;exact False.elim q
 | cont=>
  obtain⟨_,_,_,q⟩:=L;exact False.elim q
open PyProof.Rows hiding K lo
structure kZ where
 x:Str
 c:Addr
 P:Addr
 q:Str
def JZ(a:List kZ)(H:Hp):Hp:=λb=>match a.find? λq=>q.P==b with
 | some q=>some (.tbl #[.str q.q 0])
 | none=>H b
def zG{a:List kZ}(h:∀q∈a,q.P≠b):JZ a H b=H b:=by
 unfold JZ;cases e:a.find? λq=>q.P==b with
 | none=>rfl
 | some q=>exact absurd (beq_iff_eq.mp (List.find?_some (p:=λq:kZ=>q.P==b) e)) (h q (zcg e))
def Yn(h:q∈d)(e:q.P=b):∃a∈d,a.P=b/\JZ d H b=some (.tbl #[.str a.q 0]):=by
 unfold JZ;cases f:d.find? λq=>q.P==b with
 | none=>exact absurd (beq_iff_eq.mpr e) (by simpa using zdT.mp f q h)
 | some a=>exact⟨a,zcg f,beq_iff_eq.mp (List.find?_some (p:=λq:kZ=>q.P==b) f),rfl⟩
def NT{d:List kZ}(nd:(d.map (·.P)).Nodup)(h:q∈d):JZ d H q.P=some (.tbl #[.str q.q 0]):=by
 obtain⟨d,j,e,l⟩:=Yn h rfl;have:d=q:=by
  have inj:∀{d:List kZ},(d.map (·.P)).Nodup->∀{a b:kZ},a∈d->b∈d->a.P=b.P->a=b:=by
   intro d;induction d with
   | nil=>intro _ a b h;cases h
   | cons z d m=>
    intro n a b f d e;rw[tV,zak]at n;rcases tH.mp f with i | f
    ·rcases tH.mp d with g | d
     ·rw[i,g]
     ·exact absurd (tz.mpr ⟨b,d,by rw[<-e,i]⟩) n.1
    ·rcases tH.mp d with g | d
     ·exact absurd (tz.mpr ⟨a,f,by rw[e,g]⟩) n.1
     ·exact m n.2 f d e
  exact inj nd j h e
 rw[l,this]
def uh{K:zel}{x:Str}{f:Shared}{vs:List Value}{g:List kZ}(KX:K.In f.heap)(ae:f.heap.Ns mainGlobals mg)(p:f.heap.Ns builtinsNs mb)(ak:∀x:Str,x≠"__name__"->mb x=bootBuiltins x)(al:f.heap.NoLimit)(hg:f.gens=#[])(Y:f.heap.get? a=some {cls:=.type "list",data:=.seq vs.toArray})(hi:IntsAre vs ns)(hl:ns.length<=zeq)(hr:ji k callerA)(B:∀q∈g,PySem.W.CodeHd f.heap q.c q.P/\f.heap.get? q.P=some (zbI #[]))(nd:(g.map (·.P)).Nodup)(am:∃L o,mg "__builtins__"=some (.ref L)/\L≠builtinsNs/\L≠mainGlobals/\f.heap.get? L=some o/\o.cls=.type "module"/\o.dict=some builtinsNs/\o.data=.plain)(an:zdH K=true)(F:∀base:Heap,K.In base->base.Ns mainGlobals mg->(∀q∈g,Wx mg base q.c q.P)->qp P w K mg base CX k fa fd [x] sp)(ao:∀(s:Shared) (u:Value),BindsTo s fd ⟨[u],[]⟩ [(x,u)])(ap:∀H:Hp,SqL K H a (ns.map V.int)->(∀q∈g,H q.P=some (.tbl #[.str q.q 0]))->sp [.ref a] H (λv _=>v=.bl true) λ_ _ _=>False)(aq:∀H e j,CX [] H f (λ_ _ _=>False) e j->False):
  codeAny (model P w) callerA (.call (.ref fa) ⟨[.ref a],[]⟩) (λr j=>r=.ok (.ret (.bool true))/\OldK f.heap j.heap/\j.os=f.os/\AllBare j.gens) f:=by
 have rv:=WO hi;have af:∀q∈g,q.P≠a:=λq l z=>by
  have:=(B q l).2;rw[z,Y]at this;cases this
 have gP:∀i:Hp,La i->SqL K i a (ns.map V.int)->Zd P w i f.heap->(∀b,i b≠none->b=a)->(i a≠none->K.lookup a=none)->
   codeAny (model P w) callerA (.call (.ref fa) ⟨[.ref a],[]⟩) (λr j=>r=.ok (.ret (.bool true))/\OldK f.heap j.heap/\j.os=f.os/\AllBare j.gens) f:=by
  intro i hO ar ag hA hK;have hS:SqL K (JZ g i) a (ns.map V.int):=by
   have e:JZ g i a=i a:=zG af;rcases ar with (h | ⟨o,h⟩) | h
   ·exact .inl (.inl (e.trans h))
   ·exact .inl (.inr ⟨o,e.trans h⟩)
   ·exact .inr h
  have ah:∀b,JZ g i b≠none->b=a\/∃q∈g,q.P=b:=λb z=>by
   rcases Classical.em (∃q∈g,q.P=b) with h | h
   ·exact .inr h
   ·rw[zG λq l e=>h ⟨q,l,e⟩]at z;exact .inl (hA b z)
  have as:Zd P w (JZ g i) f.heap:=λb u e=>by
   rcases Classical.em (∃q∈g,q.P=b) with ⟨q,l,eq⟩ | h
   ·obtain⟨q',au,e',r⟩:=Yn l eq;rw[r]at e;cases e;exact⟨#[],by rw[<-e'];exact(B q' au).2,True.intro,λpos cv z=>nomatch z⟩
   ·rw[zG λq l e=>h ⟨q,l,e⟩]at e;have aB:=hA b (by rw[e];exact λz=>nomatch z);rcases hO b with z | ⟨o,xs,z⟩
    ·rw[z]at e;cases e
    ·rw[z]at e;cases e;obtain⟨O,C,av,n,h3,h4⟩:=(show qH P w i f.heap b (.frz o (.lst xs)) from ag b _ z);exact⟨O,C,av,n,h3,h4⟩
  have ac:∀{b:Addr} {o:Obj},f.heap.get? b=some o->o≠zbI #[]->o≠{cls:=.type "list",data:=.seq vs.toArray}->JZ g i b=none:=λ{b o} e n1 n2=>by
   cases q:JZ g i b with
   | none=>rfl
   | some u=>
    rcases ah b (by rw[q];exact λz=>nomatch z) with z | ⟨t,y,z⟩
    ·rw[z,Y]at e;exact absurd (tF.inj e).symm n2
    ·have:=(B t y).2;rw[z,e]at this;exact absurd (tF.inj this) n1
  have aa:∀{b:Addr} {o:Obj},f.heap.get? b=some o->JZ g i b=none->(vC f.heap (JZ g i)).get? b=some o:=λe n=>R9 e n;have ab:∀{b:Addr} {m:Str->Option Value},f.heap.Ns b m->(vC f.heap (JZ g i)).Ns b m:=λ{b m} ⟨o,es,ep,e,d,r⟩=>⟨o,es,ep,aa e (ac e (λz=>by rw[z]at d;cases d) (λz=>by rw[z]at d;cases d)),d,r⟩;have ai:K.In (vC f.heap (JZ g i)):=λb o e=>aa (KX b o e) (by
   cases q:JZ g i b with
   | none=>rfl
   | some u=>
    rcases ah b (by rw[q];exact λz=>nomatch z) with z | ⟨t,y,z⟩
    ·have J:JZ g i a=i a:=zG af;rw[z,J]at q;rw[z,hK (by rw[q];exact λz=>nomatch z)]at e;cases e
    ·have:=(B t y).2;rw[z,KX b o e]at this;have C:=zaK.mp an (b,o) (PySem.W.mem_of_lookupK e);rw[tF.inj this]at C;exact absurd (show false=true from C) tK)
  have aw:∀q∈g,Wx mg (vC f.heap (JZ g i)) q.c q.P:=λq l=>by
   refine⟨?_,?_⟩
   ·obtain⟨o,ay,g9,tf,az,tg,aA,gX,tt,J,D,r⟩:=(B q l).1;exact⟨o,ay,g9,tf,az,tg,aA,gX,tt,aa J (ac J (λz=>by rw[z]at D;cases D) (λz=>by rw[z]at D;exact absurd (show Value.type "list"=Value.type "code" from D) (by decide))),D,r⟩
   ·obtain⟨L,o,b1,b2,b3,b4,Q,b6,b7⟩:=am;refine⟨L,o,b1,b2,b3,λz=>?_,aa b4 (ac b4 (λz=>by rw[z]at Q;cases Q) (λz=>by rw[z]at Q;exact absurd (show Value.type "list"=Value.type "module" from Q) (by decide))),Q,b6,b7⟩;have:=(B q l).2;rw[<-z,b4]at this;cases this;cases Q
  refine codeAny_mono ((F _ ai (ab ae) aw).run callerA [] f (JZ g i) ⟨[.ref a],[]⟩ [.ref a] [.ref a] _ _ hr ⟨rfl,⟨ai,ab ae,⟨mb,ab p,ak⟩,let ⟨mc,O,C⟩:=al;⟨mc,ab O,C⟩⟩,λb o e=>Ag e,zdv (uu _ _),trivial,λb p=>absurd (show b∈([]:List Addr) from p) (by simp),as,.of_eq hg⟩ (ao f (.ref a)) (.cons rfl .nil) (ap _ hS λq l=>NT nd l)) λr j h=>?_;cases r with
  | error e=>exact(aq _ e j h).elim
  | ok fl=>
   cases fl with
   | next=>exact False.elim h
   | brk=>exact False.elim h
   | cont=>exact False.elim h
   | ret u=>
    obtain⟨v,H',os,bare,un,aj,r',q⟩:=h;have q':=q;subst q';obtain rfl:u=Value.bool true:=r';have all:∀b o,f.heap.get? b=some o->j.heap.get? b=some o\/∃t∈g,t.P=b/\∃T,j.heap.get? b=some (zbI T):=λb o e=>by
     rcases Classical.em (∃q∈g,q.P=b) with ⟨t,y,U⟩ | h
     ·obtain⟨t',aC,e',r⟩:=Yn y U;obtain⟨m,z⟩:=un.tbls b _ r;obtain⟨T,z2,_⟩:=(show qH P w H' j.heap b (.tbl _) from aj b _ z);exact .inr ⟨t,y,U,T,z2⟩
     ·have J:JZ g i b=i b:=zG λq l e=>h ⟨q,l,e⟩;cases q:i b with
      | none=>exact .inl (un.keep b o e (J.trans q) (by intro z;exact absurd (show b∈([]:List Addr) from z) (by simp)) (by simp))
      | some u=>
       rcases hO b with z | ⟨ob,xs,z⟩
       ·rw[q]at z;cases z
       ·have z2:=un.frzs b ob _ (J.trans z);obtain⟨O,_⟩:=ag b _ z;obtain⟨C,_⟩:=aj b _ z2;rw[e]at O;cases O;exact .inl C
    refine⟨rfl,⟨λb o e=>?_,λb o e=>?_⟩,os,bare⟩
    ·rcases all b o e with z | ⟨t,y,U,T,z⟩
     ·exact .inl z
     ·have D:=(B t y).2;rw[U,e]at D;cases D;subst U;exact .inr (.inl ⟨((B t y).1.tab (B t y).2).isCodeTable,rfl,#[],T,rfl,Array.empty_append▸z⟩)
    ·rcases all b o e with z | ⟨t,y,U,T,z⟩
     ·exact⟨_,z⟩
     ·exact⟨_,z⟩
 cases hk:K.lookup a with
 | some o=>
  have e:=KX a o hk;rw[Y]at e;cases e;refine gP (λ_=>none) (λ_=>.inl rfl) (.inr ⟨_,vs.toArray,_,hk,rfl,rfl,rfl,by rw[t6,hi.length];exact hl,by simpa using rv⟩) (λb u z=>by have z':=z;cases z') (λb z=>absurd rfl z) λz=>absurd rfl z
 | none=>
  refine gP (λb=>if b=a then some (.frz {cls:=.type "list",data:=.seq vs.toArray} (.lst (ns.map V.int))) else none) (λb=>?_) (.inl (.inr ⟨{cls:=.type "list",data:=.seq vs.toArray},if_pos rfl⟩)) (λb u z=>?_) (λb z=>?_) λ_=>hk
  ·by_cases p:b=a
   ·exact .inr ⟨_,_,if_pos p⟩
   ·exact .inl (if_neg p)
  ·by_cases p:b=a
   ·have z':=(if_pos p).symm.trans z;cases z';subst p;exact⟨Y,by rw[tc];exact hl,vs,_,rv,Y⟩
   ·have z':=(if_neg p).symm.trans z;cases z'
  ·by_cases p:b=a
   ·exact p
   ·exact absurd (if_neg p) z
def walk_ofT{l:PySem.W.OpenLaw}{i:World->Heap->Prop}{d:DefRec}{K:Params->zel}{r:zel->List kZ->Sp}{ts:List Addr}(B:l.most=some n)(C:n<=zeq)(D:d.params.defaults=[])(hr:ji k callerA)(J:∀(w:World) (h:Heap),i w h->(K w.params).In h)(L:∀(w:World) (h:Heap),i w h->∀P∈ts,h.get? P=some (zbI #[]))(O:∀w:World,zdH (K w.params)=true) (F:∀(w:World) (mg:Str->Option Value) (g:Addr) (h:Heap),(K w.params).In h->h.Ns mainGlobals mg->mg d.name=some (.ref g)->
   ∃(b:List kZ) (j:zep),(b.map (·.P)).Nodup/\(∀t∈b,t.P∈ts/\zcd (K w.params) t.c t.P=true)/\(∀(s:Shared) (u:Value),BindsTo s j ⟨[u],[]⟩ [(x,u)])/\
    ∀base:Heap,(K w.params).In base->base.Ns mainGlobals mg->(∀t∈b,Wx mg base t.c t.P)->qp l.prog w (K w.params) mg base q5 k g j [x] (r (K w.params) b)) (Q:∀(K:zel) (b:List kZ) (H:Hp) (a:Addr) (ns:List Int),ns.length<=n->SqL K H a (ns.map V.int)->(∀q∈b,H q.P=some (.tbl #[.str q.q 0]))->r K b [.ref a] H (λv _=>v=.bl true) λ_ _ _=>False):
  PySem.W.WalkO q ab XP i l.row.toRowW d [] (λf vs=>PySem.call f vs):=by
 refine Att.attach_call B D λw _ _ mg _ g _ pm _ _ a vs ns G Y _ hd _ T o p i r=>?_;have m:=J w _ Y;obtain⟨b,j,U,y,hb,hF⟩:=F w mg g _ m G.T.g T;refine uh m G.T.g G.T.b G.T.builtins G.T.nolimit r o p (t8 i C) hr (λt b=>⟨PySem.W.codeHd_of_K m (y t b).2,L w _ Y _ (y t b).1⟩) U ?_ (O w) hF hb (λH b g=>Q _ _ H a ns i b g) λH e _ z=>z;obtain⟨bm,ob,a1,a2,o,a4,a5,p⟩:=G.T.bmain;refine⟨bm,ob,a1,a2,λz=>?_,o,a4,a5,p⟩;obtain⟨_,_,_,e,aa,_⟩:=G.T.g;rw[z,e]at o;cases o;rw[aa]at p;cases p
open PyProof.Rows hiding K lo
mutual
inductive DG(H:Hp):V->PyData->Prop
 | non:DG H .non .none
 | bl (b:Bool):DG H (.bl b) (.bool b)
 | int (i:Int):DG H (.int i) (.int i)
 | str (x:Str):DG H (.str x) (.str x)
 | lst {a:Addr} {xs:List V} {ds:List PyData}:H a=some (.lst xs)->a≠sysModules->DGs H xs ds->DG H (.ref a) (.list ds)
 | tup {a:Addr} {xs:List V} {ds:List PyData}:H a=some (.tup xs)->DGs H xs ds->DG H (.ref a) (.tuple ds)
 | dct0 {a:Addr}:H a=some (.dK [])->DG H (.ref a) (.dict [])
 | dct1 {a:Addr} {z:Str} {i:Int}:H a=some (.dK [(Sum.inr z,.int i)])->DG H (.ref a) (.dict [(.str z,.int i)])
inductive DGs(H:Hp):List V->List PyData->Prop
 | nil:DGs H [] []
 | cons {x:V} {xs:List V} {d:PyData} {ds:List PyData}:DG H x d->DGs H xs ds->DGs H (x::xs) (d::ds)
end
open PyProof.Rows hiding K lo
structure yb(H:Hp)(P f:Addr)(qual:Str)(ag:Arguments)(be:Expr)(sc:Scope)(fd:zep)(ws:List (Str×V)):Prop where
 ex:∃(pm gO:Value) (c':Addr) (cl:List (Str×Addr)) (oc:Obj),fd=zdI "<lambda>" qual ag be sc cl pm (.ref c') gO/\H f=some (z6 {cls:=.type "function",data:=.func fd})/\H c'=some (.frz oc (.own P))/\ya qual oc/\
  (∀x y c,cl.lookup x=some c->cl.lookup y=some c->x=y)/\(∀x c,cl.lookup x=some c->x∈ws.map (·.1))/\
  ∀x v,(x,v)∈ws->∃c o u,cl.lookup x=some c/\H c=some (z6 o)/\o.data=.cell (some u)/\qU v u
def yb.mono{H':Hp}(h:yb H P f qual g i j l m)(k:∀b o u,H b=some (.frz o u)->H' b=some (.frz o u)):yb H' P f qual g i j l m:=by
 obtain⟨pm,g,i,j,l,m,p,q,r,y,z,B⟩:=h.ex;exact⟨pm,g,i,j,l,m,k _ _ _ p,k _ _ _ q,r,y,z,λx v g=>let ⟨c,o,u,a,b,d,e⟩:=B x v g;⟨c,o,u,a,k _ _ _ b,d,e⟩⟩
def AR{P:Program}{w:World}{K:zel}{mg:Str->Option Value}{base:Heap}{C:yc}{PT f:Addr}{qual:Str}{r:Arguments}{l:Expr}{p:Scope}{m:zep}{N ps fr:List Str}{k:Nat}{j:List (Str×V)->Sp}(S:Yk N ps fr p)(len:∀g vs H Q E,j g vs H Q E->vs.length=ps.length/\g.map (·.1)=fr)
  (L:∀(o:Addr) (cl:List (Str×Addr)) (A:Around) (outer:List Env) (s:Shared) (H:Hp) (g:List (Str×V)) (vs:List V) (Q:VK) (E:XK),ji k (A.deeper (zcc qual p s.heap.objs.size f (.ref o) cl))->j g vs H Q E->
   ∃t,JE (zm C P w K mg base N qual p f (.ref o) cl A outer s H E) l t/\t (start N (vs++g.map (·.2))) H Q):
  qp P w K mg base C (k+1) f m ps (λvs H Q E=>∃g,yb H PT f qual r l p m g/\j g vs H Q E):=by
 refine⟨λvs H Q E ⟨g,_,h⟩=>(len _ _ _ _ _ h).1,λA outer s H args T vs Q E hr l m U ⟨g,B,r⟩=>?_⟩;obtain⟨Y,D⟩:=len _ _ _ _ _ r;obtain⟨pm,_,o,cl,j,rfl,O,aa,⟨ab,t',ac,ae⟩,inj,af,J⟩:=B.ex;refine PySem.W.kla_callFunE hr.depth ((show qH P w H s.heap f (z6 _) from l.hok f _ O).1) rfl S.co S.gen rfl ⟨o,j,ab,t',rfl,(show qH P w H s.heap o (.frz j (.own PT)) from l.hok o _ aa).1,ac,ae⟩ (m _ _ _ _ (wpAny_newFunctionEnv S.nocell (λy m=>S.par y.1 (zbF m).1) (λO ah ai=>?_) S.kind));have B:∀b j,s.heap.get? b=some j->O.get? b=some j:=λb j e=>ai.extBut b j (tO (tJ e)) (tm _ e);refine⟨(l.mod.nolimit.keeps λb j e=>(l.bs b j e).1).keeps B,PySem.W.kla_codeExpr ?_⟩;obtain⟨t,ht,hq⟩:=L o cl A outer s H g vs Q E (hr.deeper _) r;have L:∀b:Addr,b∉(zm C P w K mg base N qual p f (.ref o) cl A outer s H E).ex:=λb z=>absurd (show b∈([]:List Addr) from z) (by simp);have r:g.length=fr.length:=by have:=congrArg zas D;simpa using this
 have r:ps.length+fr.length<=N.length:=by
  have:=congrArg zas S.pre;rw[tL,tx]at this;omega
 have kn:∀x c,cl.lookup x=some c->∃j u,H c=some (z6 j)/\j.data=.cell (some u):=λx c e=>by
  obtain⟨⟨y,v⟩,m,rfl⟩:=tz.mp (af x c e);obtain⟨r,j,u,a,b,d,_⟩:=J y v m;rw[e]at a;cases a;exact⟨j,u,b,d⟩
 have I:qw (zm C P w K mg base N qual p f (.ref o) cl A outer s H E) [] (start N (vs++g.map (·.2))) H {s with heap:=O,toks:=s.toks+(ps.zip T).length}:=by
  refine⟨⟨l.mod,S.kind,rfl,rfl,tp _,inj,λy m=>?_,λ_ _ z=>zcJ z,λ_=>hr.hd,Around.frames_deeper l.frames,.inr ⟨rfl,rfl⟩,λb z=>absurd z (L b),l.bs,l.bsz,λb _ _=>L b,λb z=>absurd z (L b),l.funs,l.frf⟩,
   rfl,l.bare,Un.kept B,⟨_,ah,λi y v _ o _=>?_⟩,λy c h=>?_,l.hok.fresh (tp _),λy c h=>?_,λp C=>absurd (show p∈([]:List (Addr×Obj)) from C) (by simp),l.hok.kept B,?_⟩
  ·have m:=m;rcases m with m | m
   ·exact absurd rfl (S.nocell _ (PySem.mem_of_lookup m))
   ·have:=S.frees _ (PySem.mem_of_lookup m) rfl;rw[<-D]at this;obtain⟨⟨z,v⟩,m,p⟩:=tz.mp this;obtain⟨r,j,u,a,_⟩:=J z v m;exact⟨r,by rwa [<-show z=y from p]⟩
  ·have p:i < (vs++g.map (·.2)).length:=by
    rcases zbj i (vs++g.map (·.2)).length with z | z
    ·exact z
    ·unfold start at o;rw[tY (by simpa using z),zcu]at o;split at o<;>cases o
   have m:(vs++g.map (·.2))[i]?=some v:=by
    unfold start at o;rw[t7 (by simpa using p),tu]at o;cases e:(vs++g.map (·.2))[i]? with
    | none=>rw[e]at o;cases o
    | some z=>rw[e]at o;cases o;rfl
   rw[tx,tc]at p;have o:(ps++fr)[i]?=some y:=by
    rwa [<-S.pre,zbp (by rw[tx];omega)]
   rcases zbj i vs.length with z | z
   ·rw[t7 z]at m;rw[t7 (by omega)]at o;obtain⟨u,hu,p⟩:=U.get m;have C:ps.Nodup:=by
     have:=S.nd.sublist (zcy (ps++fr).length N);rw[S.pre]at this;exact(zcB.mp this).1
    exact⟨u,p,.inl ⟨S.par y (tW o),X7 C o hu⟩⟩
   ·rw[tY z,tu]at m;rw[tY (by omega),<-Y]at o;rw[<-D,tu]at o;cases e:g[i - vs.length]? with
    | none=>rw[e]at m;cases m
    | some C=>
     rw[e]at m o;obtain rfl:C.1=y:=tF.inj o;obtain rfl:C.2=v:=tF.inj m;have m:=tW e;obtain⟨r,j,u,a,b,d,p⟩:=J C.1 C.2 m;exact⟨u,p,.inr ⟨.inr (S.free _ (by rw[<-D];exact tz.mpr ⟨C,m,rfl⟩)),r,a,j,B _ _ (show qH P w H s.heap r (z6 j) from l.hok r _ b).1,d⟩⟩
  ·obtain⟨j,u,b,d⟩:=kn y c h;exact⟨some u,j,B _ _ (show qH P w H s.heap c (z6 j) from l.hok c _ b).1,d⟩
  ·obtain⟨j,u,b,d⟩:=kn y c h;exact .inr ⟨rfl,j,b⟩
  ·show (start N (vs++g.map (·.2))).length=N.length;unfold start;rw[tx,tc,zaP,tx,tc];omega
 refine wpAny_mono (ht.to [] _ (start N (vs++g.map (·.2))) H _ I hq) (λu g j=>?_) λe g j=>j;obtain⟨v,l,g,p,q⟩:=j;exact⟨v,l,g.os,g.bare,g.base,g.hok,p,q⟩
def XT:jY (Qb P w) (zm (Qb P w) P w K mg base N qual scope f p cl A outer s₀ H₀ E) E:=by
 intro _ _ H s e d i j;obtain⟨a,x,y,g,L,m,rfl,os,bare,un,r,o,l,U,Y,O,hE⟩:=j;have I:=i.call' os un r bare λb z=>absurd z (by simp);obtain⟨⟨C,i,j⟩,_,_⟩:=(show qH P w m d.heap a (Qh a x y (.ref g)) from I.hok a _ o);obtain⟨r,_,_⟩:=(show qH P w m d.heap g (XA g .none) from I.hok g _ l);have Q:g≠a:=λz=>by
  obtain⟨D,q,_⟩:=r;rw[z,i]at q;cases q
 show wpAny _ _ (leaving _ _) _ _ d;unfold leaving;refine zen (Xi I.ok.frames I.stack rfl i j r Q λh1 i B F J d r=>?_);have lt:=(zaf.mp j).1;have g1:(C.setIfInBounds 1 (Value.ref i))[1]?=some (.ref i):=by simp [lt]
 have C:i≠a:=λz=>by
  obtain⟨D,q,_⟩:=r;rw[z,d]at q;cases q
 refine Jr (fs:=Yl (zm (Qb P w) P w K mg base N qual scope f p cl A outer s₀ H₀ E).stack) d g1 r λh2 D st=>?_;have r:∀b j,m b=some j->b∉Yl (zm (Qb P w) P w K mg base N qual scope f p cl A outer s₀ H₀ E).stack:=λb j q z=>by
  have:=I.stkFree b z;rw[q]at this;cases this
 have p:=I.hok.fresh B;have T:=D.keep a _ (r a _ o) (by simp [Ne.symm C]) d;obtain⟨_,d⟩:=J;have J:=D.keep g _ (r g _ l) (by simp [Ne.symm ((qm l p).symm)]) d;have r:=I.flown (H':=upd (upd (upd m a (Qh a x y (.ref i))) g (.ext λh=>∃j,h.get? g=some j)) i (XA i .none)) (ka.then F D B) ⟨λb d=>by
   simp only[tH,zah,or_false]at d;rcases d with rfl | rfl
   ·exact⟨_,o⟩
   ·exact⟨_,l⟩,λb j d q=>by
   simp only[tH,zah,or_false,not_or]at d;rwa [qf (qm q p),qf d.2,qf d.1],λb d q=>by
   rwa [qf (tO (tI d B)),qf (λz=>by rw[z,l]at q;cases q),qf (λz=>by rw[z,o]at q;cases q)]⟩ (λb d=>by
   simp only[tH,zah,or_false]at d;rcases d with rfl | rfl
   ·exact⟨_,T⟩
   ·exact⟨_,J⟩) λb j q d=>by
  by_cases l:b=i
  ·subst l;rw[qc]at q;cases q;exact ZH st
  ·rw[qf l]at q;by_cases l:b=g
   ·subst l;rw[qc]at q;cases q;exact⟨⟨_,J⟩,⟨_,J⟩,λh1 h2 ⟨u,z⟩ k=>⟨u,k u z⟩⟩
   ·rw[qf l]at q;by_cases m:b=a
    ·subst m;rw[qc]at q;cases q;exact Zs ⟨_,T,g1⟩
    ·rw[qf m]at q;rcases d with d | d
     ·rw[q]at d;cases d
     ·simp only[tH,zah,or_false]at d;exact(d.elim m l).elim
 refine⟨a,x,y,i,L,_,rfl,r.os,r.bare,r.base,r.hok,by rw[qf (Ne.symm C),qf (Ne.symm Q),qc],qc ..,?_,Y,λb j d q=>?_,hE⟩
 ·cases e:L i with
  | none=>rfl
  | some j=>
   have:=O i j C e;rw[p]at this;cases this
 ·have n1:b≠g:=λz=>by rw[z,U]at q;cases q
  have g:=O b j d q;rwa [qf (qm g p),qf n1,qf d]
open PySem PySem.Spec PySem.Builtin PySem.Builtin.Str
open PyProof.Rows hiding K lo
open PyProof.Rows hiding K lo
def ME{X:Cx}(F:qp X.prog X.w X.K X.mg X.base q5 k f b ps d)(hr:ji (k+1) X.A)(e:jy X.K b ps [])(I:qw X g i H s)(r:qP vs us)(h:d vs H Q E0):
  wpAny (model X.prog X.w) X.A.in1 (call (.ref f) us) (EP X g i Q) (λ_ _=>False) s:=by
 have a:=e s us I.kIn (by rw[zaj];exact r.length.symm.trans (F.len _ _ _ _ h));rw[zaj]at a;refine wpAny_call (codeAny_mono (F.run X.A.in1 X.stack s H ⟨us,[]⟩ us vs Q E0 hr.in1 I.env0.in1 a r h) λz _ q=>?_)
 match z,q with
 | .error y,q=>exact q.elim
 | .ok (.ret u),q=>exact I.after q
def qw.shift{d:Heap}(I:qw X P e H s){a:List (Addr×Obj)}(i:∀p∈a,p.1=b/\p.2=o'\/p∈P/\p.1≠b)(g:Zc X f H b)(m:∀p∈P,p.1≠b->p∈f\/p.1≠b)(j:∀c o,c≠b->s.heap.get? c=some o->d.get? c=some o)(l:d.get? b=some o')(hd:∀v,o'.data≠.cell v):qw X a e H {s with heap:=d,toks:=t'}:=by
 obtain⟨f,f1,f2,m,q,r⟩:=g;have g:qw X (P.filter λp=>p.1 != b) e H {s with heap:=d,toks:=t'}:=(I.pins_of λp a=>I.pin p (tE _ (tP.mp a).1)).turned j f f1 m q λp a=>by
  rcases tQ.mp a with z | z
  ·exact r p (zac _ z)
  ·simpa using (tP.mp z).2
 refine g.pins_of λp a=>?_;rcases i p a with ⟨d,e⟩ | ⟨d,e⟩
 ·rw[d,e];exact⟨l,f,f1,f2,hd⟩
 ·exact g.pin p (tE _ (tP.mpr ⟨d,by simpa using e⟩))
abbrev Y1(vs:Array Value)(c:Nat):Obj:=seqObj "list" vs c
def RF{X:Cx}{R:Hp->Prop}{Z:Result->Shared->Prop}(hc:X.calm=true)(kf:Nat->Int)(gs:∀H,R H->SqL X.K H l xs)(gH:l≠a)(gc:S≠a)(fa:∀H,H a=none->Zc X d_ H a)(fS:∀H,H S=none->Zc X d_ H S)(f7:∀(i:Nat) (x:V) (v:Value) (P:List (Addr×Obj)) (H1:Hp) (s1:Shared),xs[i]?=some x->qU x v->qw X P σ H1 s1->R H1->wpAny (model X.prog X.w) X.A.in1 (call (.ref q) [v]) (EP X P σ λy H2=>y=.int (kf i)/\R H2) (λ_ _=>False) s1)(done:∀(i:Nat) (x:V) (v:Value) (H1:Hp) (s1:Shared),xs[i]?=some x->qU x v->(∀j,j < xs.length->kf i<=kf j/\(j < i->kf i < kf j))->qw X d_ σ H1 s1->R H1->Z (.ok (.ret v)) s1):
  ∀(r j i:Nat) (s1:Shared) (H1:Hp) (xb:V) (vb:Value) (tb:Tok) (c:Nat) (oI:Obj),xs.length - (j+1)=r->j+1<=xs.length->qw X (d_++[(S,Y1 #[vb,.int (kf i) tb] c),(a,oI)]) σ H1 s1->R H1->s1.heap.IsListIter a l (j+1)->xs[i]?=some xb->qU xb vb->i<=j->
   (∀j',j'<=j->kf i<=kf j'/\(j' < i->kf i < kf j'))->codeAny (model X.prog X.w) X.A (.builtin "min.loop" ⟨[.ref a,.ref q,.ref S],[]⟩) Z s1:=by
 have fJ:(toString "min"++toString ".loop":String)="min.loop":=by decide
 have gg:∀{H1:Hp} {s1:Shared} {oS oI:Obj},qw X (d_++[(S,oS),(a,oI)]) σ H1 s1->s1.heap.get? S=some oS/\H1 S=none:=λI=>let z:=I.pin (S,_) (tE _ (tE _ (.head _)));⟨z.1,z.2.1⟩;have gi:∀{H1:Hp} {s1:Shared} {oS oI:Obj},qw X (d_++[(S,oS),(a,oI)]) σ H1 s1->s1.heap.get? a=some oI/\H1 a=none:=λI=>let z:=I.pin (a,_) (tE _ (tE _ (.tail _ (.head _))));⟨z.1,z.2.1⟩;have nS:∀{oS oI:Obj} {p:Addr×Obj} {H:Hp},H S=none->p∈d_++[(S,oS),(a,oI)]->p∈d_->p.1≠S:=λh _ hp=>(fS _ h).2.2.2.2.2 _ (tE _ hp);intro r;induction r with
 | zero=>
  intro j i s1 H1 xb vb tb c oI hr hj I hR fV gY rb ij fQ;have ig:j+1=xs.length:=by omega
  obtain⟨gS,gu⟩:=gg I;obtain⟨ga,fZ⟩:=gi I;obtain⟨fK,rv,pl,hz⟩:=I.list (gs _ hR);have hsz:fK.toArray.size=xs.length:=t6▸rv.length.symm;refine codeAny_builtin zcC ?_;rw[Around.under_plainId zaW _];show wpAny _ X.A.in1 (seqItems? (.ref S) >>= _) _ _ _;refine zen (wpAny_seqItems gS rfl ?_);show wpAny _ X.A.in1 (tryCatch (pyNext (.ref a)) _ >>= _) _ _ _;refine zen (wpAny_tryCatch ((Walks.list (prog:=X.prog) (w:=X.w) (A:=X.A.in1) (I.ok.hd hc) a l gH fK.toArray).done _ _ _ ⟨by rw[hsz,<-ig];exact fV,pl.isList⟩ λh' gw gJ=>?_));have I1:=I.pins_of λp hp=>I.pin p (tE _ (by
    rcases tQ.mp hp with z | z
    ·exact zac _ z
    ·exact tE _ (by rw[tM.mp z];exact .head _)))
  obtain⟨f0,f1,f2,f3,f4,f5⟩:=fa H1 fZ;have I2:qw X (d_++[(S,Y1 #[vb,.int (kf i) tb] c)]) σ H1 {s1 with heap:=h',toks:=gw}:=I1.turned (λb o hb e=>gJ b o (by simpa using hb) e) f0 f1 f3 f4 λp hp=>by
    rcases tQ.mp hp with z | z
    ·exact f5 p (zac _ z)
    rcases tQ.mp z with z | z
    ·exact f5 p (tE _ z)
    ·rwa [tM.mp z]
  have gp:=(I2.pin (S,_) (tE _ (tE _ (.head _)))).1;have s2:=zcX.update h' S (Obj.mapSeq λ_=>(#[]:Array Value));show wpAny _ X.A.in1 (updateSeq S (λ_=>#[]) >>= _) _ _ _;refine zen (wpAny_updateSeq gp rfl (zen (wpAny_letGo (zeo ?_))));obtain⟨g0,g1,g2,g3,g4,g5⟩:=fS H1 gu;have I3:=I2.pins_of λp hp=>I2.pin p (tE _ (zac _ hp));exact done i xb vb H1 _ gY rb (λj' g6=>fQ j' (by omega)) (I3.turned (λb o hb e=>(s2.2 b hb).trans e) g0 g1 g3 g4 g5) hR
 | succ r ih=>
  intro j i s1 H1 xb vb tb c oI hr hj I hR fV gY rb ij fQ;have gR:j+1 < xs.length:=by omega
  obtain⟨gS,gu⟩:=gg I;obtain⟨ga,fZ⟩:=gi I;obtain⟨fK,rv,pl,hz⟩:=I.list (gs _ hR);have hsz:fK.toArray.size=xs.length:=by rw[t6];exact rv.length.symm
  refine codeAny_builtin zcC ?_;rw[Around.under_plainId zaW _];show wpAny _ X.A.in1 (seqItems? (.ref S) >>= _) _ _ _;refine zen (wpAny_seqItems gS rfl ?_);show wpAny _ X.A.in1 (tryCatch (pyNext (.ref a)) _ >>= _) _ _ _;refine zen (wpAny_tryCatch ((Walks.list (A:=X.A.in1) (I.ok.hd hc) a l gH fK.toArray).item (j+1) _ _ _ (by rw[hsz];exact gR) ⟨fV,pl.isList⟩ λv h' gw hP gk gJ=>?_));have hv:fK[j+1]?=some v:=by simpa using hP
  obtain⟨x,hx⟩:∃x,xs[j+1]?=some x:=⟨_,tj gR⟩;obtain⟨v',gF,rx⟩:=rv.get hx;rw[hv]at gF;cases gF;obtain⟨fY,gm,gQ,gq⟩:=id gk.1;have I1:qw X (d_++[(S,Y1 #[vb,.int (kf i) tb] c),(a,fY)]) σ H1 {s1 with heap:=h',toks:=gw}:=by
    refine I.shift (λp hp=>?_) (fa H1 fZ) (λp hp n=>.inr n) (λb o hb e=>gJ b o (by simpa using hb) e) gm (λv z=>by rw[gq]at z;cases z);rcases tQ.mp hp with z | z
    ·exact .inr ⟨zac _ z,(fa H1 fZ).2.2.2.2.2 p (tE _ z)⟩
    ·rcases tH.mp z with rfl | z
     ·exact .inr ⟨tE _ (.head _),gc⟩
     ·rw[tM.mp z];exact .inl ⟨rfl,rfl⟩
  show wpAny _ X.A.in1 (tryCatch (holding [v] (call (.ref q) [v])) _ >>= _) _ _ _;refine zen (wpAny_tryCatch (wpAny_holding (wpAny_mono (f7 (j+1) x v _ H1 _ hx rx I1 hR) (λu s2 he=>?_) λ_ _ hF=>hF.elim)));obtain⟨y,H2,I2,ry,rfl,gU⟩:=he;obtain⟨t2,rfl⟩:=ry;obtain⟨gp,gK⟩:=gg I2;obtain⟨gV,iq⟩:=gi I2;show wpAny _ X.A.in1 (tryCatch (holding [v,.int (kf (j+1)) t2] (richCompare .Lt (.int (kf (j+1)) t2) (.int (kf i) tb) >>= _)) _ >>= _) _ _ _;refine zen (wpAny_tryCatch (wpAny_holding (zen (CmpOf.ints_lt (prog:=X.prog) (w:=X.w) (A:=X.A.in1) (P:=λi v=>∃t,v=.int (kf i) t) kf (λi v h=>h) (j+1) i _ _ _ _ _ ⟨t2,rfl⟩ ⟨tb,rfl⟩ (zen (wpAny_holding (wpAny_truthy_bool (zen (wpAny_letGo (zeo ?_))))))))));by_cases hb':kf (j+1) < kf i
  . have s3:=zcX.update s2.heap S (Obj.mapSeq λ_=>#[v,.int (kf (j+1)) t2]);obtain⟨c2,g7⟩:∃c2,(s2.heap.update S (Obj.mapSeq λ_=>#[v,.int (kf (j+1)) t2])).get? S=some (seqObj "list" #[v,.int (kf (j+1)) t2] c2):=⟨_,get?_update_seq gp λ_=>#[v,.int (kf (j+1)) t2]⟩;simp only[hb',decide_true,if_true];refine zen (wpAny_updateSeq gp rfl (zen (wpAny_letGo ?_)));rw[fJ];have I3:qw X (d_++[(S,Y1 #[v,.int (kf (j+1)) t2] c2),(a,fY)]) σ H2 {s2 with heap:=s2.heap.update S (Obj.mapSeq λ_=>#[v,.int (kf (j+1)) t2]),toks:=s2.toks}:=by
     refine I2.shift (λp hp=>?_) (fS H2 gK) (λp hp n=>.inr n) (λb o hb e=>(s3.2 b hb).trans e) g7 (λv z=>by cases z);rcases tQ.mp hp with z | z
     ·exact .inr ⟨zac _ z,(fS H2 gK).2.2.2.2.2 p (tE _ z)⟩
     ·rcases tH.mp z with rfl | z
      ·exact .inl ⟨rfl,rfl⟩
      ·rw[tM.mp z];exact .inr ⟨tE _ (.tail _ (.head _)),λq=>gc q.symm⟩
    refine zeo ⟨plainId_quiet zaW _,ih (j+1) (j+1) _ H2 x v t2 c2 fY (by omega) gR I3 gU ⟨fY,(s3.2 a λq=>gc q.symm).trans gV,gQ,gq⟩ hx rx (tp _) λj' g6=>?_⟩;by_cases e:j'=j+1
    ·subst e;exact⟨by omega,λ_=>by omega⟩
    ·have ik:=fQ j' (by omega);have iv:=ik.1;exact⟨by omega,λ_=>by omega⟩
  . simp only[hb',decide_false,zaR,if_false];refine zen (wpAny_letGo ?_);rw[fJ];refine zeo ⟨plainId_quiet zaW _,ih (j+1) i _ H2 xb vb tb c fY (by omega) gR I2 gU ⟨fY,gV,gQ,gq⟩ gY rb (by omega) λj' g6=>?_⟩;by_cases e:j'=j+1
    ·subst e;exact⟨by omega,λ_=>by omega⟩
    ·exact fQ j' (by omega)
def uG{X:Cx}{R:Hp->Prop}{Q:Value->Shared->Prop}(hc:X.calm=true)(kf:Nat->Int)(I:qw X d_ σ H s)(hR:R H)(gs:∀H,R H->SqL X.K H l xs)(gZ:0 < xs.length)(f7:∀(i:Nat) (x:V) (v:Value) (P:List (Addr×Obj)) (H1:Hp) (s1:Shared),xs[i]?=some x->qU x v->qw X P σ H1 s1->R H1->wpAny (model X.prog X.w) X.A.in1 (call (.ref q) [v]) (EP X P σ λy H2=>y=.int (kf i)/\R H2) (λ_ _=>False) s1)(done:∀(i:Nat) (x:V) (v:Value) (H1:Hp) (s1:Shared),xs[i]?=some x->qU x v->(∀j,j < xs.length->kf i<=kf j/\(j < i->kf i < kf j))->qw X d_ σ H1 s1->R H1->Q v s1):
  wpAny (model X.prog X.w) X.A (call (.builtin "min") [.ref l] [(zem "key",.ref q)]) Q E s:=by
 have fJ:(toString "min"++toString ".loop":String)="min.loop":=by decide
 obtain⟨ib,ir,hG,_⟩:=I.list (gs _ hR);have hX:l < s.heap.objs.size:=by
  obtain⟨o,n,e,_⟩:=hG;exact tJ e
 refine kmk_tree PySem.F.kind_min PySem.F.plain_min PySem.F.entry_min (kmk_min_key _ _) ?_;show wpAny _ X.A.in1 (Builtin.Builtins.bindParams "min" ["key","default"] 0 ⟨[],[(zem "key",.ref q)]⟩ >>= _) _ _ s;refine zen (wpAny_of_eq (show Builtin.Builtins.bindParams "min" ["key","default"] 0 ⟨[],[(zem "key",.ref q)]⟩=pure [some (.ref q),none] from rfl) (zen (zeo (zen (wpAny_pyIter_list hG.isList (zen (wpAny_newList ?_ (zao _))))))));rw[fJ];have hS:(s.heap.push {cls:=.type "list_iterator",data:=.fields #[.ref l,.int 0 0]}).objs.size=s.heap.objs.size+1:=size_push' ..;generalize hSe:(s.heap.push {cls:=.type "list_iterator",data:=.fields #[.ref l,.int 0 0]}).objs.size=S at hS;generalize hae:s.heap.objs.size=a at hS hX;have gH:=tO hX;have gc:S≠a:=by rw[hS];exact zbL (zaF _)
 have fa:∀H,H a=none->Zc X d_ H a:=λH' h=>I.fpOk (by omega) h;have fS:∀H,H S=none->Zc X d_ H S:=λH' h=>I.fpOk (by omega) h;have fZ:H a=none:=I.hok.fresh (by omega);have gu:H S=none:=I.hok.fresh (by omega);have gI:((s.heap.push {cls:=.type "list_iterator",data:=.fields #[.ref l,.int 0 0]}).push (Y1 #[] 0)).get? a=some {cls:=.type "list_iterator",data:=.fields #[.ref l,.int 0 0]}:=by
  rw[<-hae];exact tm _ (tR _ rfl)
 have gS:((s.heap.push {cls:=.type "list_iterator",data:=.fields #[.ref l,.int 0 0]}).push (Y1 #[] 0)).get? S=some (Y1 #[] 0):=by
  rw[<-hSe];exact tR _ rfl
 have I0:qw X d_ σ H {s with heap:=(s.heap.push {cls:=.type "list_iterator",data:=.fields #[.ref l,.int 0 0]}).push (Y1 #[] 0)}:=I.kept λb o e=>tm _ (tm _ e);have I1:qw X (d_++[(S,Y1 #[] 0),(a,{cls:=.type "list_iterator",data:=.fields #[.ref l,.int 0 0]})]) σ H {s with heap:=(s.heap.push {cls:=.type "list_iterator",data:=.fields #[.ref l,.int 0 0]}).push (Y1 #[] 0)}:=I0.pins_of λp hp=>by
  rcases tQ.mp hp with z | z
  ·exact I0.pin p (tE _ z)
  ·rcases tH.mp z with rfl | z
   ·exact⟨gS,gu,(fS H gu).2.1,(fS H gu).2.2.1,λv z=>by cases z⟩
   ·rw[tM.mp z];exact⟨gI,fZ,(fa H fZ).2.1,(fa H fZ).2.2.1,λv z=>by cases z⟩
 refine zeo ⟨plainId_quiet zaW _,?_⟩;obtain⟨fK,rv,pl,hz⟩:=I1.list (gs _ hR);have hsz:fK.toArray.size=xs.length:=by rw[t6];exact rv.length.symm
 refine codeAny_builtin zcC ?_;rw[Around.under_plainId zaW _];show wpAny _ X.A.in1 (seqItems? (.ref _) >>= _) _ _ _;refine zen (wpAny_seqItems gS rfl ?_);show wpAny _ X.A.in1 (tryCatch (pyNext (.ref a)) _ >>= _) _ _ _;refine zen (wpAny_tryCatch ((Walks.list (A:=X.A.in1) (I.ok.hd hc) a l gH fK.toArray).item 0 _ _ _ (by rw[hsz];exact gZ) ⟨⟨_,gI,rfl,rfl⟩,pl.isList⟩ λv h' gw hP gk gJ=>?_));have hv:fK[0]?=some v:=by simpa using hP
 obtain⟨x,hx⟩:∃x,xs[0]?=some x:=⟨_,tj gZ⟩;obtain⟨v',gF,rx⟩:=rv.get hx;rw[hv]at gF;cases gF;obtain⟨fY,gm,gQ,gq⟩:=id gk.1;have I2:qw X (d_++[(S,Y1 #[] 0),(a,fY)]) σ H {s with heap:=h',toks:=gw}:=by
  refine I1.shift (λp hp=>?_) (fa H fZ) (λp hp n=>.inr n) (λb o hb e=>gJ b o (by simpa using hb) e) gm (λv z=>by rw[gq]at z;cases z);rcases tQ.mp hp with z | z
  ·exact .inr ⟨zac _ z,(fa H fZ).2.2.2.2.2 p (tE _ z)⟩
  ·rcases tH.mp z with rfl | z
   ·exact .inr ⟨tE _ (.head _),gc⟩
   ·rw[tM.mp z];exact .inl ⟨rfl,rfl⟩
 show wpAny _ X.A.in1 (tryCatch (holding [v] (call (.ref q) [v])) _ >>= _) _ _ _;refine zen (wpAny_tryCatch (wpAny_holding (wpAny_mono (f7 0 x v _ H _ hx rx I2 hR) (λu s2 he=>?_) λ_ _ hF=>hF.elim)));obtain⟨y,H2,I3,ry,rfl,gU⟩:=he;obtain⟨t2,rfl⟩:=ry;obtain⟨gp,gK,_⟩:=I3.pin (S,_) (tE _ (tE _ (.head _)));obtain⟨gV,iq,_⟩:=I3.pin (a,_) (tE _ (tE _ (.tail _ (.head _))));have s3:=zcX.update s2.heap S (Obj.mapSeq λ_=>#[v,.int (kf 0) t2]);obtain⟨c2,g7⟩:∃c2,(s2.heap.update S (Obj.mapSeq λ_=>#[v,.int (kf 0) t2])).get? S=some (seqObj "list" #[v,.int (kf 0) t2] c2):=⟨_,get?_update_seq gp λ_=>#[v,.int (kf 0) t2]⟩;show wpAny _ X.A.in1 (updateSeq S (λ_=>#[v,.int (kf 0) t2]) >>= _) _ _ _;refine zen (wpAny_updateSeq gp rfl ?_);rw[fJ];have I4:qw X (d_++[(S,Y1 #[v,.int (kf 0) t2] c2),(a,fY)]) σ H2 {s2 with heap:=s2.heap.update S (Obj.mapSeq λ_=>#[v,.int (kf 0) t2]),toks:=s2.toks}:=by
  refine I3.shift (λp hp=>?_) (fS H2 gK) (λp hp n=>.inr n) (λb o hb e=>(s3.2 b hb).trans e) g7 (λv z=>by cases z);rcases tQ.mp hp with z | z
  ·exact .inr ⟨zac _ z,(fS H2 gK).2.2.2.2.2 p (tE _ z)⟩
  ·rcases tH.mp z with rfl | z
   ·exact .inl ⟨rfl,rfl⟩
   ·rw[tM.mp z];exact .inr ⟨tE _ (.tail _ (.head _)),λq=>gc q.symm⟩
 refine zeo ⟨plainId_quiet zaW _,RF hc kf gs gH gc fa fS f7 (λi x v H1 s1 h1 h2 h3 h4 h5=>done i x v H1 s1 h1 h2 h3 h4 h5) _ 0 0 _ H2 x v t2 c2 fY rfl gZ I4 gU ⟨fY,(s3.2 a λq=>gc q.symm).trans gV,gQ,gq⟩ hx rx (tp _) λj' g6=>?_⟩;have e:j'=0:=by omega
 subst e;exact⟨by omega,λh=>absurd h (zan _)⟩
open PyProof.Rows hiding K lo
def Wz(X:Cx)(H:Hp)(a:List (Str×V)):Prop:=∀x v,(x,v)∈a->∃a co u,X.env.cells.lookup x=some a/\H a=some (z6 co)/\co.data=.cell (some u)/\qU v u
def Wz.mono(h:Wz X H e)(s:Same H H'):Wz X H' e:=λx v e=>let ⟨f,co,u,a,b,c,d⟩:=h x v e;⟨f,co,u,a,s _ _ b,c,d⟩
def Ey(X:Cx)(fr:List (Str×Nat))(u:TS):TS:=λD b H=>∀a,Same H a->(∀d:List (Str×V),(∀e∈d,∃i,(e.1,i)∈fr/\b[i]?=some (some e.2))->Wz X a d)->u D b a
open Classical in
def MQ{X:Cx}{st:List Stmt}{u:TS}{fr:List (Str×Nat)}(g:∀p∈fr,X.env.scope.names.lookup p.1=some .cell/\X.N[p.2]?=some p.1)(q:∀x,X.fn x=true)(r:Xw X.shut st u):PB X st (Ey X fr u):=by
 intro y s B H D I h;have C:∀p∈fr,∃c,X.env.cells.lookup p.1=some c:=λp d=>I.ok.has p.1 (.inl (g p d).1);let f:Addr->Option Obj:=λb=>if ∃p∈fr,X.env.cells.lookup p.1=some b then s.heap.get? b else none
 have j:∀b a,f b=some a->∃x v,X.env.cells.lookup x=some b/\X.fn x=true/\s.heap.get? b=some a/\a.data=.cell v:=λb a e=>by
  rcases Classical.em (∃p∈fr,X.env.cells.lookup p.1=some b) with z | z
  ·have l:=(if_pos z).symm.trans e;obtain⟨p,d,o⟩:=z;obtain⟨v,_,d,hd⟩:=I.cell p.1 b o;rw[l]at d;cases d;exact⟨p.1,v,o,q p.1,l,hd⟩
  ·have:f b=none:=if_neg z;rw[this]at e;cases e
 refine jn (r.to y s B _ D (I.catch f j) (h _ (λb a e=>Jt (I.catchN j) e) λ_ j x v l=>?_)) λ_ _ z=>⟨λ_=>false,z⟩;obtain⟨i,f,o⟩:=j (x,v) l;obtain⟨l,j⟩:=C _ f;obtain⟨_,a,d,hd⟩:=I.cell x l j;obtain⟨m,_,q⟩:=I.loc;obtain⟨y,B,lk⟩:=q i x v (g _ f).2 o (.inr (.inl (g _ f).1));rcases lk with ⟨k,_⟩ | ⟨_,r,o,J,q,C⟩
 ·have r:X.env.scope.names.lookup x=some .local:=k;rw[(g _ f).1]at r;cases r
 ·rw[j]at o;cases o;rw[d]at q;cases q;exact⟨l,a,y,j,Yg ((if_pos ⟨_,f,j⟩).trans d),C,B⟩
def EF(X:Cx)(P:Addr)(qual:Str)(d:Arguments)(e:Expr)(g:Scope)(fr:List Str):TE:=λ_ H Q=>(∃a,H P=some (.tbl #[.str qual a]))/\∃a,a.map (·.1)=fr/\Wz X H a/\∀f i b,Same H b->H f=none->yb b P f qual d e g i a->Q (.ref f) b
def Aw{X:Cx}{g:Scope}{fr:List Str}(i:Wx X.mg X.base c P)(ac:X.env.code=.ref c)(j:X.env.qual++"<lambda>"=qual)(l:(g.names.all λx=>x.2 != .free || (X.env.scope.names.lookup x.1==some .cell&&fr.contains x.1))=true)(ah:∀x∈fr,(x,NameKind.free)∈g.names)(p:defaultsOf m X.env=([],[]):=by rfl):JE X (.Lambda m o g pos) (EF X P qual m o g fr):=.of (by
 intro _ s _ H Q I h;obtain⟨⟨r,T⟩,D,L,ai,h⟩:=h;obtain⟨ts,U,Y,cs⟩:=(show qH X.prog X.w H s.heap P (.tbl #[.str qual r]) from I.hok P _ T);refine PySem.W.kla_eval p ?_;rw[j];have hg:=I.ok.mod.glob.keeps I.bk;have CH:=i.code.keeps I.bk;have hb:s.heap.BuiltinsAt X.mg P:=by
  obtain⟨j,J,p,r,B,C,O,b6⟩:=i.blt;exact⟨j,J,p,r,B,C,I.bk _ _ O,b6⟩
 have aj:mainGlobals≠P:=λz=>by
  obtain⟨J,_,_,e,_⟩:=I.ok.mod.glob;have:=(I.bs _ _ e).2;rw[z,T]at this;cases this
 have O:∀x,(x,NameKind.free)∈g.names->X.env.scope.names.lookup x=some .cell/\x∈fr:=λx j=>by
  have:=zaK.mp l _ j;simp only[bne_self_eq_false,Bool.false_or,zar,beq_iff_eq,List.contains_iff_mem]at this;exact this
 have i:∀x,(x,NameKind.free)∈g.names->∃c,X.env.cells.lookup x=some c:=λx j=>I.ok.has x (.inl (O x j).1);have ae:=QZ λx j e=>i x.1 (e▸j);have ak:∀x,(x,NameKind.free)∈g.names->∀B,X.env.cells.lookup x=some B->(qY X.env g.names []).lookup x=some B:=λx j B e=>by
  obtain⟨c2,l⟩:=Js (cs:=[]) (.inl j);rcases Qi l with z | ⟨_,z⟩
  ·simp at z
  ·rw[e]at z;rw[l,z];rfl
 have look:∀x c,(qY X.env g.names []).lookup x=some c->(x,NameKind.free)∈g.names/\X.env.cells.lookup x=some c:=λx c e=>by
  rcases Qi e with z | ⟨l,p⟩
  ·simp at z
  ·obtain⟨c2,C⟩:=i x l;rw[C]at p;exact⟨l,by rw[C,p];rfl⟩
 have af:∀{f i:Addr} {pm l:Value} {p:Obj} {r:Hp},Same H r->r f=some (z6 (zbR "<lambda>" qual m o g (qY X.env g.names []) pm i l))->r i=some (.frz p (.own P))->ya qual p->yb r P f qual m o g (zdI "<lambda>" qual m o g (qY X.env g.names []) pm (.ref i) l) D:=
  λ{f i pm l p r} r D e2 e3=>⟨pm,l,i,_,p,rfl,D,e2,e3,λx y c h1 C=>I.ok.inj x y c (look x c h1).2 (look y c C).2,λx c z=>by rw[L];exact(O x (look x c z).1).2,λx v j=>by
   obtain⟨B,co,u,a,b,d,e⟩:=ai x v j;have:x∈fr:=by rw[<-L];exact tz.mpr ⟨(x,v),j,rfl⟩
   exact⟨B,co,u,ak x (ah x this) B a,r _ _ b,d,e⟩⟩
 cases hh:codeAmong pos ts.toList with
 | none=>
  refine PySem.W.kla_makeFunction ae I.ok.glob hg ac CH U Y hh aj hb λi l B tk j aa ab C al=>?_;obtain⟨c2,p,L,t,e2,am,hd,O⟩:=C;cases e2;have C:=I.hok.fresh (zab (zaI aa ab));have r:Same H (upd (upd H i (.frz p (.own P))) B.objs.size (z6 (zbR "<lambda>" qual m o g (qY X.env g.names []) ((X.mg "__name__").getD .none) i l))):=λb u e=>by
   rw[qf (qm e C),qf (qm e (I.hok.fresh aa))];exact e
  exact⟨.ref _,_,I.made_def T U Y cs j aa ab am ⟨L,t,hd,O⟩ al rfl,rfl,h _ _ _ r C (af r qc (by rw[qf (tO ab),qc]) ⟨L,t,hd,O⟩)⟩
 | some j=>
  obtain⟨i,p,rfl,T,q,t,L,t',an,hd,O⟩:=cs pos j hh;cases an;refine PySem.W.kla_makeFunctionHit ae I.ok.glob hg ac CH U Y hh hb λl B tk p j=>?_;have C:=I.hok.fresh j;have D:(B.push (zbR "<lambda>" qual m o g (qY X.env g.names []) ((X.mg "__name__").getD .none) i l)).get? B.objs.size=some (zbR "<lambda>" qual m o g (qY X.env g.names []) ((X.mg "__name__").getD .none) i l):=tR B rfl;have r:Same H (upd H B.objs.size (z6 (zbR "<lambda>" qual m o g (qY X.env g.names []) ((X.mg "__name__").getD .none) i l))):=λb u e=>by
   rwa [qf (qm e C)]
  exact⟨.ref _,_,I.laid (o:=z6 (zbR "<lambda>" qual m o g (qY X.env g.names []) ((X.mg "__name__").getD .none) i l)) (λb J e=>tm _ (p b J e)) j ⟨D,D,_,D⟩,rfl,h _ _ _ r C (af r qc (by rwa [qf (qm T C)]) ⟨L,t',hd,O⟩)⟩)
def EB(K:zel)(C:Addr->zep->Sp->Prop)(te b:TE):TE:=λa H Q=>te a H λx d=>b a d λy f=>∃(d q:Addr) (a:List V) (g:zep) (e:Sp) (b:Nat->Int) (R:Hp->Prop),x=.ref d/\y=.ref q/\C q g e/\R f/\(∀G,R G->SqL K G d a)/\0 < a.length/\
 (∀i x G,a[i]?=some x->R G->e [x] G (λy d=>y=.int (b i)/\R d) E0)/\∀i x G,a[i]?=some x->(∀d,d < a.length->b i<=b d/\(d < i->b i < b d))->R G->Q x G
def Au{X:Cx}{C:Addr->zep->Sp->Prop}(l:X.calm=true)(m:Gl X "min")(o:X.mg "min"=none)(r:∀f a b,C f a b->∃(k:Nat) (x:Str),qp X.prog X.w X.K X.mg X.base q5 k f a [x] b/\ji (k+1) X.A/\jy X.K a [x] [])(z:JE X e te)(B:JE X g d)(hs:starEach [e] X.env=[(false,eval e X.env)]:=by rfl)(D:backTo pos (starEach [e] X.env)=(false,eval e X.env)::backTo pos (starEach [] X.env):=by rfl)(J:(backTo pos (starEach [e] X.env)).any (·.1)=false:=by rfl):JE X (.Call (.Name "min" p) [e] [⟨some "key",g,j⟩] pos) (EB X.K C te d):=.of (by
 refine λd s j H Q I h=>wpAny_Call_Name_kw (Jo I m o boot_min (PyProof.Rows.callWith_kw (x6 hs (jn (z.to d s j H _ I h) λu m ⟨x,o,z,L,O⟩=>?_)) D J));show wpAny _ _ (evalAll [do let v <-eval g X.env;standAt pos;pure v]) _ _ _;refine PyProof.Rows.evalAll_cons (zen (jn (B.to d m j o _ z O) λv _ ⟨y,_,d,j,m⟩=>zen (wpAny_standAt (zeo (PyProof.Rows.evalAll_nil ?_)))));obtain⟨o,q,_,a,b,z,R,rfl,rfl,c,B,D,J,O,done⟩:=m;cases L;cases j;obtain⟨k,x,F,hr,m⟩:=r _ _ _ c;show wpAny _ _ (call (.builtin "min") [.ref o] [(zem "key",.ref q)]) _ _ _;exact uG l z d B D J (λi x v P G l a b d j=>ME F hr m d (.cons b .nil) (O i x G a j)) λi x v G l a b l d j=>⟨x,G,d,b,done i x G a l j⟩)
open PySem PySem.Spec PySem.W
open PyProof.Rows hiding K lo
def Cc(C:Addr->zep->Sp->Prop)(E:St->XK)(b:TE)(t:TA):TE:=λa H Q=>b a H λv d=>∃f b e,v=.ref f/\C f b e/\d f=some (z6 {cls:=.type "function",data:=.func b})/\t a d λg d=>d f=some (z6 {cls:=.type "function",data:=.func b})/\e g d Q (E a)
def vB{C:Addr->zep->Sp->Prop}(z:JE X (.Call g j [] p) B)(D:∀f a d,C f a d->∃(k:Nat) (ps:List Str),qp X.prog X.w X.K X.mg X.base J k f a ps d/\ji k X.A/\jy X.K a ps [])(L:Zw J X E)(O:JA X (e::b) t)(T:starEach (e::b) X.env=(false,eval e X.env)::starEach b X.env:=by rfl)(U:(backTo pos (starEach b X.env)).any (·.1)=false:=by rfl):JE X (.Call (.Call g j [] p) (e::b) [] pos) (Cc C E B t):=.of (by
 intro l s m H Q I h;have Y:eval (.Call (.Call g j [] p) (e::b) [] pos) X.env=(do callWith pos (<-eval (.Call g j [] p) X.env) [] (backTo pos (starEach (e::b) X.env)) (backToKw pos (keywordEach [] X.env))):=rfl;rw[Y];refine zen (jn (z.to l s m H _ I h) λu b ⟨v,_,x,r1,f,a,d,e1,c,aa,h⟩=>?_);subst e1;cases r1;obtain⟨k,ps,F,hr,hb⟩:=D f a d c;have y:∀{o:Hp} {r:Shared},qw X l m o r->o f=some (z6 {cls:=.type "function",data:=.func a})->PySem.W.FnAt f r.heap:=λi q=>⟨_,_,a,_,(show qH X.prog X.w _ _ f (z6 _) from i.hok f _ q).1⟩;exact PySem.W.callWith_F (y x aa) (jn (O.to pos l b m _ _ x h) λ_ r ⟨_,o,i,ab,q0,q⟩=>⟨y i q0,y7 F hr hb .nil L i ab (by simpa using q)⟩) T U)
def V9:JE X e (λ_ _ _=>False):=.of λ_ _ _ _ _ _ h=>h.elim
def V8:JG X e (λ_ _ _ _=>False):=.of λ_ _ _ _ _ _ _ _ _ h=>h.elim
def Wf:NE X a (λ_ _ _=>False):=.of λ_ _ _ _ _ _ h=>h.elim
open PySem PySem.Spec PySem.Builtin PySem.W
open PyProof.Rows hiding K lo
open PyProof.Rows hiding K lo
open PyProof.Rows hiding K lo
open PyProof.Rows hiding K lo
open PyProof.Rows hiding K lo
open PyProof.Rows hiding K lo
open PyProof.Rows hiding K lo
open PyProof.Rows hiding K lo
open PyProof.Rows hiding K lo
mutual
inductive DW(K:zel)(H:Hp):V->PyData->Prop
 | non:DW K H .non .none
 | bl (b:Bool):DW K H (.bl b) (.bool b)
 | int (i:Int):DW K H (.int i) (.int i)
 | str (x:Str):DW K H (.str x) (.str x)
 | lst {a:Addr} {xs:List V} {ds:List PyData}:SqL K H a xs->a≠sysModules->DWs K H xs ds->DW K H (.ref a) (.list ds)
 | tup {a:Addr} {xs:List V} {ds:List PyData}:SqT K H a xs->DWs K H xs ds->DW K H (.ref a) (.tuple ds)
inductive DWs(K:zel)(H:Hp):List V->List PyData->Prop
 | nil:DWs K H [] []
 | cons {x:V} {xs:List V} {d:PyData} {ds:List PyData}:DW K H x d->DWs K H xs ds->DWs K H (x::xs) (d::ds)
end
open PyProof.Rows hiding K lo
open PyProof.Rows hiding K lo
open PyProof.Rows hiding K lo
open PySem PySem.Spec PySem.W
open PyProof.Rows hiding K lo
def Fq{A:Around}{s:Shared}(f:(a==sysModules)=false)(g:(b==sysModules)=false)(x:RawD s.heap a #[] d)(y:RawD s.heap b #[] fp)(hu:A.units < cLine):SeqAt.RcAt A s (.ref a) (.ref b) true:=λprog w E Q q=>by
 obtain⟨_,d,_,e⟩:=id x;obtain⟨_,i,_,j⟩:=id y;refine wpAny_richCompare_same_room x.ty y.ty zdJ (wpAny_call_entry zdJ x.ty zdD ?_ (zdw _ _)) (by omega);show wpAny _ _ (Builtin.Dict.dictSlotArgs "__eq__" ⟨[.ref a,.ref b],[]⟩ >>= _) _ _ s;unfold Builtin.Dict.dictSlotArgs;refine zen (zen (wpAny_notOrdered_dict x.ty (show wpAny _ _ (pure (Value.ref a,Value.ref b)) _ _ s from zeo (zen (wpAny_isInstance y.ty PySem.F.sub_dict_dict ?_)))));simp only[Bool.not_true,zaR,if_false];refine zen (zeo (zen (zeo (zen ?_))));unfold Builtin.Dict.samePairs Builtin.Dict.showsAll;rw[f,g,if_neg tK];refine zen (zeo (zen (zeo (zen (wpAny_dictEntries d e ?_)))))
 try dsimp only
 refine zen (wpAny_dictEntries i j ?_);rw[if_neg (by simp)];refine zen (wpAny_dictEpoch d e (zen ?_));rw[Std.Legacy.Range.forIn_eq_forIn_range'];simp only[Std.Legacy.Range.size,zcW,Nat.add_sub_cancel,Nat.div_one];refine wpAny_forIn_list _ (λrest d e=>e=s/\d=(none,())/\rest=[]) _ ?_ ?_ _ _ ⟨rfl,rfl,rfl⟩
 ·rintro x rest d e ⟨_,_,z⟩;cases z
 ·rintro d e ⟨rfl,rfl,_⟩;exact zeo (zeo ⟨_,rfl,(λx=>nomatch x),q⟩)
inductive Gk(K:zel)(x:V)(y:V)(H:Hp)(Q:VK):Prop
 | mk (p q:Addr) (z:Str) (a b:Addr):x=.ref p->y=.ref q->(SqT K H p [.str z,.ref a])->(SqT K H q [.str z,.ref b])->(Rd H a (.dK []))->(Rd H b (.dK []))->(Q (.bl false) H)->Gk K x y H Q
def Ft(K:zel):R2:=λx y H Q=>Gk K x y H Q
def Ge(ok:Zd P w H h)(e:Rd H a (.dK [])):(a==sysModules)=false/\∃b,RawD h a #[] b:=by
 obtain⟨hd,_,fy,f⟩:=BA ok e;cases fy;obtain⟨g,d,b,i,j,l,_,m,_⟩:=f;have:d=#[]:=by
  obtain⟨_⟩:=d;cases m;rfl
 subst this;exact⟨hd,b,g,i,j,l⟩
def MX{X:Cx}(hu:X.A.units+64 < cLine):JN X (compareOp .NotEq) (Ft X.K):=by
 intro _ s _ H x y v u Q I d e h;obtain⟨_,q,z,a,b,rfl,rfl,f,g,i,j,l⟩:=h;cases d;cases e;obtain⟨_,m,pl,_⟩:=I.tuple f;obtain⟨_,o,p,_⟩:=I.tuple g;obtain⟨_,_,rfl,r,B⟩:=WP m;obtain⟨_,_,rfl,C,D⟩:=WP o;obtain⟨t,rfl⟩:=r;obtain⟨J,rfl⟩:=C;cases B;cases D;obtain⟨L,_,O⟩:=Ge I.hok i;obtain⟨T,fp,U⟩:=Ge I.hok j;refine EqBoolInt.of_rcne (SeqAt.RcNeAt.tuples (e:=λ_=>true) pl p (by omega) λd e _=>?_) ⟨.bl _,H,I,rfl,l⟩;have f:d=0\/d=1:=by have:d < 2:=e;omega
 rcases f with rfl | rfl
 ·have:=SeqAt.EqAt.str_str (A:=X.A.in1) (s:=s) z t z J;rwa [beq_self_eq_true]at this
 ·by_cases c:a=b
  ·subst c;exact SeqAt.EqAt.same _
  ·exact SeqAt.EqAt.of_refs c (Fq L T O U (by show X.A.units+1 < cLine;omega))
end L2
namespace Rb
def xorAll(ns:List Nat):Nat:=ns.foldl (·^^^ ·) 0
def setN(ns:List Nat):Nat:=ns.foldl (λb n=>b ||| 2^n) 0
def memN(b n:Nat):List Nat:=(t9 n).filter λi=>b.testBit i
def Lacks(r:Nat)(ns:List Nat):Prop:=r∉ns/\∀x,x < r->x∈ns
def Dz(x:Nat):x % 2=(x.testBit 0).toNat:=by
 rw[zdu];rcases Nat.mod_two_eq_zero_or_one x with h | h<;>simp [h]
def or_and_xor(a:Nat):∀b,(a ||| b)=(a&&& b)+(a^^^b):=by
 induction a using zcQ with
 | ind a d=>
  intro b;by_cases e:a=0
  ·subst e;simp
  ·have i:=d (a / 2) (by omega) (b / 2);have d:(a ||| b) / 2=(a / 2) ||| (b / 2):=Nat.or_div_two;have n1:(a&&& b) / 2=(a / 2)&&& (b / 2):=Nat.and_div_two;have d:(a^^^b) / 2=(a / 2)^^^ (b / 2):=Nat.xor_div_two;have m:(a ||| b) % 2=(a&&& b) % 2+(a^^^b) % 2:=by
    rw[Dz (a ||| b),Dz (a&&& b),Dz (a^^^b),Nat.testBit_or,Nat.testBit_and,zbS];cases a.testBit 0<;>cases b.testBit 0<;>rfl
   omega
def Nh(ns:List Nat):∀b k,(ns.foldl (λb n=>b ||| 2^n) b).testBit k=(b.testBit k || decide (k∈ns)):=by
 induction ns with
 | nil=>intro b k;simp
 | cons n ns a=>
  intro b k;rw[zcR,a,Nat.testBit_or,Nat.testBit_two_pow];by_cases h:n=k
  ·subst h;simp
  ·have a:¬k=n:=λe=>h e.symm;simp [h,a]
def testBit_setN(ns:List Nat)(k:Nat):(setN ns).testBit k=decide (k∈ns):=by
 unfold setN;rw[Nh];simp
def mem_memN{b n i:Nat}:i∈memN b n↔i < n/\b.testBit i=true:=by
 unfold memN;simp
def UA{b k m:Nat}(h:b < 2^m)(a:m<=k):b.testBit k=false:=Nat.testBit_lt_two_pow (tI h (Nat.pow_le_pow_right (by decide) a))
def Vd{b m:Nat}(h:b < 2^m):∀n,m<=n->memN b n=memN b m:=by
 intro n a;obtain⟨k,rfl⟩:=Nat.le.dest a;unfold memN;rw[List.range_add,zay];have e:((t9 k).map (m+·)).filter (λi=>b.testBit i)=[]:=by
  rw[zbN];intro i a;obtain⟨_,_,rfl⟩:=tz.mp a;rw[UA h (Nat.le_add_right _ _)];simp
 rw[e,zaj]
def memN_same{b m n:Nat}(a:b < 2^m)(d:b < 2^n):memN b n=memN b m:=by
 by_cases h:m<=n
 ·exact Vd a n h
 ·exact(Vd d m (by omega)).symm
def setN_lt{ns:List Nat}{m:Nat}(h:∀x∈ns,x < m):setN ns < 2^m:=by
 refine Nat.lt_pow_two_of_testBit _ λi _=>?_;rw[testBit_setN];refine decide_eq_false λz=>?_;have:=h i z;omega
def turnN(b n m:Nat):Nat:=setN ((memN b m).map (·^^^n))
def xor_lt{a b m:Nat}(d:a < 2^m)(e:b < 2^m):a^^^b < 2^m:=Nat.xor_lt_two_pow d e
def yf(a b:Nat):(a^^^b)^^^b=a:=by rw[zbq,zce,zdx]
def yi{b n m k:Nat}(a:m<=2^k)(d:n < 2^k):turnN b n m < 2^ (2^k):=by
 refine setN_lt λx e=>?_;obtain⟨y,f,rfl⟩:=tz.mp e;exact xor_lt (tI (mem_memN.mp f).1 a) d
def pigeon:∀(n:Nat) (ns:List Nat),(∀x,x < n->x∈ns)->n<=ns.length:=by
 intro n;induction n with
 | zero=>intro ns _;exact zao _
 | succ n b=>
  intro ns h;have a:=h n (zaF n);have:=b (ns.erase n) λx d=>(zca (by omega)).mpr (h x (zbX d));rw[zcl a]at this;have b:=zaG a;omega
def Lacks.uniq{r s:Nat}{ns:List Nat}(h:Lacks r ns)(g:Lacks s ns):r=s:=by
 rcases zaB r s with z | z | z
 ·exact absurd (g.2 r z) h.1
 ·exact z
 ·exact absurd (h.2 s z) g.1
def ZA(ns:List Nat):Nat->Nat
 | 0=>0
 | i+1=>if ZA ns i∈ns then ZA ns i+1 else ZA ns i
def kI(ns:List Nat):∀i,(∀x,x < ZA ns i->x∈ns)/\ZA ns i<=i/\(ZA ns i < i->ZA ns i∉ns):=by
 intro i;induction i with
 | zero=>exact⟨λx a=>absurd a (zbP _),tp _,λh=>absurd h (zan _)⟩
 | succ i d=>
  obtain⟨b,_,f⟩:=d;unfold ZA;by_cases h:ZA ns i∈ns
  ·rw[if_pos h];refine⟨λx a=>?_,by omega,λ_=>absurd h (f (by omega))⟩;by_cases e:x=ZA ns i
   ·rwa [e]
   ·exact b x (by omega)
  ·rw[if_neg h];exact⟨b,by omega,λ_=>h⟩
def lackI_lacks(ns:List Nat):Lacks (ZA ns (ns.length+1)) ns:=by
 obtain⟨a,_,b⟩:=kI ns (ns.length+1);refine⟨b ?_,a⟩;have:=pigeon _ _ a;omega
def lackN(ns:List Nat):Nat:=ZA ns (ns.length+1)
def lackN_eq{r:Nat}{ns:List Nat}(h:Lacks r ns):r=lackN ns:=h.uniq (lackI_lacks ns)
def memN_succ(b i:Nat):memN b (i+1)=memN b i++(if b.testBit i then [i] else []):=by
 unfold memN;rw[zbQ,zay];congr 1;by_cases h:b.testBit i=true
 ·simp [h]
 ·simp [h]
def testBit_div(b i:Nat):b.testBit i=decide (b / 2^i % 2=1):=by
 rw[Nat.testBit_eq_decide_div_mod_eq]
def xorAll_snoc(ns:List Nat)(n:Nat):xorAll (ns++[n])=xorAll ns^^^n:=by unfold xorAll;rw[zcD];rfl
def setN_snoc(ns:List Nat)(n:Nat):setN (ns++[n])=setN ns ||| 2^n:=by unfold setN;rw[zcD];rfl
end Rb
namespace MLab
def yk:∀(g m:Nat),m < g->∃k,m.testBit k=false/\g.testBit k=true/\∀j,k < j->m.testBit j=g.testBit j:=by
 intro g;induction g using zcQ with
 | _ g a=>
  intro m h;by_cases c:m / 2 < g / 2
  ·obtain⟨k,b,d,f⟩:=a (g / 2) (by omega) (m / 2) c;refine⟨k+1,by rw[zbJ];exact b,by rw[zbJ];exact d,λj a=>?_⟩;cases j with
   | zero=>omega
   | succ j=>rw[zbJ,zbJ];exact f j (by omega)
  ·have e:m / 2=g / 2:=by omega
   refine⟨0,?_,?_,λj a=>?_⟩
   ·rw[zdu];simp;omega
   ·rw[zdu];simp;omega
   ·cases j with
    | zero=>omega
    | succ j=>rw[zbJ,zbJ,e]
def DB{x y:Nat}(k:Nat)(e:x.testBit k=false)(a:y.testBit k=true)(h:∀j,k < j->x.testBit j=y.testBit j):x < y:=by
 rcases zaB x y with c | rfl | c
 ·exact c
 ·rw[e]at a;cases a
 ·obtain⟨i,b,f,g⟩:=yk _ _ c;rcases zaB i k with d | rfl | d
  ·have:=g k d;rw[e,a]at this;cases this
  ·rw[a]at b;cases b
  ·have:=h i d;rw[b,f]at this;cases this
def j1(ns:List Nat):Nat:=ns.foldr (λa b=>a^^^b) 0
def Z2(a:Nat)(ns:List Nat):j1 (a::ns)=a^^^j1 ns:=rfl
def Us{k:Nat}:∀{ns:List Nat},(j1 ns).testBit k=true->∃n∈ns,n.testBit k=true
 | [],h=>by simp [j1]at h
 | a::ns,h=>by
  rw[Z2,zbS]at h;cases e:a.testBit k with
  | true=>exact⟨a,tX,e⟩
  | false=>
   rw[e,Bool.false_xor]at h;obtain⟨n,b,d⟩:=Us h;exact⟨n,tU _ b,d⟩
def xU{ns:List Nat}{m:Nat}(h:m < j1 ns):∃n∈ns,n^^^j1 ns^^^m < n:=by
 obtain⟨k,e,b,f⟩:=yk _ _ h;obtain⟨n,a,d⟩:=Us b;refine⟨n,a,DB k ?_ d λa g=>?_⟩
 ·rw[zbS,zbS,d,e,b];rfl
 ·rw[zbS,zbS,f a g];cases n.testBit a<;>cases (j1 ns).testBit a<;>rfl
section
variable{α:Type}(G:α->List α)
structure WB(ok:α->Prop)(num:α->Option Nat)(fz:α->Nat):Prop where
 cl:∀{x y},ok x->y∈G x->ok y
 n1:∀{x n m},ok x->num x=some n->m < n->∃y∈G x,num y=some m/\fz y < fz x
 n2:∀{x y n},ok x->num x=some n->y∈G x->num y≠some n
 n3:∀{x y n},ok x->num x=some n->y∈G x->(∀m,num y=some m->n < m)->∃z∈G y,num z=some n/\fz z < fz x
 n4:∀{x y n m},ok x->num x=some n->y∈G x->num y=some m->m < n->fz y < fz x
 e:∀{x m},ok x->num x=none->(∀j,j < m->∃y∈G x,num y=some j)->(∀y∈G x,num y≠some m)->∃y∈G x,num y=none/\∀z∈G y,num z≠some m
section
variable{β:Type}(M:β->List β)
mutual
inductive Uo:β->Prop
 | mk {a:β} (h:∀b∈M a,Won b):Uo a
inductive Won:β->Prop
 | mk {a b:β} (m:b∈M a) (h:Uo b):Won a
end
end
def mv:List α->List (List α)
 | []=>[]
 | x::h=>(G x).map (λy=>y::h)++(mv h).map (λb=>x::b)
def j8:∀{a b:List α},b∈mv G a↔∃p x y q,a=p++x::q/\y∈G x/\b=p++y::q
 | [],b=>by
  constructor
  ·intro h;simp [mv]at h
  ·rintro⟨p,x,y,q,e,_⟩;simp at e
 | x::h,b=>by
  unfold mv;rw[tQ,tz,tz];constructor
  ·rintro(⟨y,hy,rfl⟩ | ⟨b',hb,rfl⟩)
   ·exact⟨[],x,y,h,rfl,hy,rfl⟩
   ·obtain⟨p,u,y,q,rfl,hy,rfl⟩:=j8.mp hb;exact⟨x::p,u,y,q,rfl,hy,rfl⟩
  ·rintro⟨p,u,y,q,e,hy,rfl⟩;cases p with
   | nil=>
    cases e;exact .inl ⟨y,hy,rfl⟩
   | cons v p=>
    cases e;exact .inr ⟨p++y::q,j8.mpr ⟨p,u,y,q,rfl,hy,rfl⟩,rfl⟩
variable{G}{ok:α->Prop}{num:α->Option Nat}{fz:α->Nat}
def nums(num:α->Option Nat)(h:List α):List Nat:=h.filterMap num
def ends(num:α->Option Nat)(h:List α):Nat:=(h.filter λx=>(num x).isNone).length
def Ut(a b:List Nat):j1 (a++b)=j1 a^^^j1 b:=by
 induction a with
 | nil=>show j1 b=0^^^j1 b;rw[zcE]
 | cons x a d=>rw[zcI,Z2,d,Z2,zbq]
def Qn{p q:List α}{x:α}{n:Nat}(h:num x=some n):j1 (nums num (p++x::q))=n^^^j1 (nums num (p++q)):=by
 unfold nums;rw[zau,zav,h,zau,Ut,Ut];show _^^^ (n^^^j1 _)=_;rw[<-zbq,zed _ n,zbq]
def Jl{p q:List α}{x:α}(h:num x=none):nums num (p++x::q)=nums num (p++q):=by
 unfold nums;rw[zau,zav,h,zau]
def jx{p q:List α}{x:α}{n:Nat}(h:num x=some n):ends num (p++x::q)=ends num (p++q):=by
 unfold ends;rw[zay,zbe,h,zay];rfl
def jp{p q:List α}{x:α}(h:num x=none):ends num (p++x::q)=ends num (p++q)+1:=by
 unfold ends;rw[zay,zbe,h,zay,tx,tx];show _+(_+1)=_;omega
def vO(fz:α->Nat)(h:List α):Nat:=(h.map fz).sum
def ZY{p q:List α}{x:α}:vO fz (p++x::q)=fz x+vO fz (p++q):=by
 unfold vO;rw[tA,tV,zcs,zaT,tA,zcs];omega
def Xy{a b c:Nat}(h:a^^^c=b^^^c):a=b:=by
 have:a^^^c^^^c=b^^^c^^^c:=by rw[h]
 rwa [zbq,zbq,zce,zdx,zdx]at this
def Y8(L:WB G ok num fz){h:List α}(e:∀x∈h,ok x){m:Nat}(lt:m < j1 (nums num h)):∃p x y q,h=p++x::q/\y∈G x/\(∃n k,num x=some n/\num y=some k)/\j1 (nums num (p++y::q))=m/\fz y < fz x:=by
 obtain⟨n,d,f⟩:=xU lt;obtain⟨x,b,a⟩:=zaH.mp d;obtain⟨p,q,rfl⟩:=zct b;obtain⟨y,g,d,i⟩:=L.n1 (e x b) a f;refine⟨p,x,y,q,rfl,g,⟨n,_,a,d⟩,?_,i⟩;rw[Qn d,Qn a];generalize j1 (nums num (p++q))=a;rw[<-zbq n n a,zce,zcE,zed a m,zbq,zce,zdx]
def zz{h p q:List α}{x y:α}(L:WB G ok num fz)(b:∀x∈h,ok x)(e:h=p++x::q)(d:y∈G x):∀z∈p++y::q,ok z:=λz a=>by
 subst e;rcases tQ.mp a with a | a
 ·exact b z (zac _ a)
 ·rcases tH.mp a with rfl | a
  ·exact L.cl (b x (by simp)) d
  ·exact b z (tE _ (tU _ a))
def ue(L:WB G ok num fz):∀(c:Nat) {h:List α},vO fz h<=c->(∀x∈h,ok x)->ends num h=0->j1 (nums num h)=0->Uo (mv G) h:=by
 intro c;induction c using zcQ with
 | _ c o=>
  intro h e d f i;refine .mk λb j=>?_;obtain⟨a,x,y,q,rfl,g,rfl⟩:=(j8 G).mp j;have j:=d x (by simp);have l:=zz L d rfl g;cases d:num x with
  | none=>rw[jp d]at f;omega
  | some n=>
   rw[jx d]at f;rw[Qn d]at i;rw[ZY]at e;have p:(∀m,num y=some m->n < m)->Won (mv G) (a++y::q):=λgt=>by
    obtain⟨z,e,r,_⟩:=L.n3 j d g gt;refine .mk ((j8 G).mpr ⟨a,y,z,q,rfl,e,rfl⟩) (o (vO fz (a++z::q)) (by rw[ZY];omega) (tp _) (zz L l rfl e) (by rw[jx r];exact f) (by rw[Qn r];exact i))
   cases e:num y with
   | none=>exact p λm h=>by rw[e]at h;cases h
   | some k=>
    rcases zaB k n with lt | rfl | gt
    ·have r:=L.n4 j d g e lt;have pos:0 < j1 (nums num (a++y::q)):=by
      rw[Qn e];refine zdU λz=>?_;have:=Xy (z.trans i.symm);omega
     obtain⟨r,H,u,B,i,C,⟨_,_,J,O⟩,Q,_⟩:=Y8 L l pos;have ce:vO fz (a++y::q)=fz y+vO fz (a++q):=ZY;rw[i,ZY]at ce;have D:ends num (a++y::q)=0:=by rw[jx e];exact f
     refine .mk ((j8 G).mpr ⟨r,H,u,B,i,C,rfl⟩) (o (vO fz (r++u::B)) (by rw[ZY];omega) (tp _) (zz L l i C) ?_ Q);rw[i,jx J]at D;rw[jx O];exact D
    ·exact absurd e (L.n2 j d g)
    ·exact p λm h=>by rw[e]at h;cases h;exact gt
def Drawn(G:α->List α)(num:α->Option Nat)(h:List α):Prop:=(∃a x q,h=a++x::q/\num x=none/\ends num (a++q)=0/\∀y∈G x,num y≠some (j1 (nums num (a++q))))\/2<=ends num h
def Q5{h:List α}:0 < ends num h↔∃p x q,h=p++x::q/\num x=none:=by
 unfold ends;constructor
 ·intro c;obtain⟨x,a⟩:=List.exists_mem_of_length_pos c;obtain⟨b,d⟩:=tP.mp a;obtain⟨p,q,e⟩:=zct b;exact⟨p,x,q,e,by simpa using d⟩
 ·rintro⟨p,x,q,rfl,a⟩;exact zaG (a:=x) (tP.mpr ⟨by simp,by rw[a];rfl⟩)
def lack(L:WB G ok num fz){x:α}(l:ok x)(ex:num x=none):∃m,(∀j,j < m->∃y∈G x,num y=some j)/\(∀y∈G x,num y≠some m)/\∃y∈G x,num y=none/\∀z∈G y,num z≠some m:=by
 have ⟨b,o⟩:∃b,∀y∈G x,num y≠some b:=by
  refine⟨(nums num (G x)).sum+1,λy f e=>?_⟩;have:∀(d:List Nat) (n:Nat),n∈d->n<=d.sum:=by
   intro d;induction d with
   | nil=>intro n h;cases h
   | cons a d g=>
    intro n h;rw[zaT];rcases tH.mp h with rfl | h
    ·omega
    ·have:=g n h;omega
  have q:(nums num (G x)).sum+1∈nums num (G x):=zaH.mpr ⟨y,f,e⟩;have:=this _ _ q;omega
 have ⟨m,i,p⟩:∃m,(∀y∈G x,num y≠some m)/\∀j,j < m->¬∀y∈G x,num y≠some j:=by
  induction b using zcQ with
  | _ b g=>
   by_cases c:∃j,j < b/\∀y∈G x,num y≠some j
   ·obtain⟨j,d,h⟩:=c;exact g j d h
   ·exact⟨b,o,λj d h=>c ⟨j,d,h⟩⟩
 have lo:∀j,j < m->∃y∈G x,num y=some j:=λj d=>Classical.byContradiction λn=>p j d λy f e=>n ⟨y,f,e⟩;exact⟨m,lo,i,L.e l ex lo i⟩
def Np(L:WB G ok num fz){h:List α}(C:∀x∈h,ok x)(d:Drawn G num h):∃b∈mv G h,Drawn G num b:=by
 rcases d with ⟨a,x,q,rfl,j,Q,no⟩ | two
 ·have f:=C x (by simp);obtain⟨m,lo,U,y,D,H,T⟩:=lack L f j;rcases zaB m (j1 (nums num (a++q))) with lt | e | gt
  ·have g:∀z∈a++q,ok z:=λz f=>C z (by
    rcases tQ.mp f with f | f
    ·exact zac _ f
    ·exact tE _ (tU _ f))
   obtain⟨J,O,f,l,r,o,⟨_,_,Y,ek⟩,x0,_⟩:=Y8 L g lt;have fF:∃p2 B,a++x::q∈[a++x::q]/\(p2++x::B)∈mv G (a++x::q)/\p2++B=J++f::l:=by
    rcases List.append_eq_append_iff.mp r with ⟨i,p,g⟩ | ⟨i,p,g⟩
    ·
     refine⟨a,i++f::l,by simp,(j8 G).mpr ⟨a++x::i,O,f,l,?_,o,?_⟩,?_⟩
     ·rw[g];simp
     ·simp
     ·rw[p];simp
    ·
     cases i with
     | nil=>
      simp at p g;refine⟨a,f::l,by simp,(j8 G).mpr ⟨a++[x],O,f,l,?_,o,?_⟩,?_⟩
      ·rw[<-g];simp
      ·simp
      ·rw[p]
     | cons u i=>
      rw[zcI]at g;obtain⟨rfl,l⟩:=List.cons.inj g;refine⟨J++f::i,q,by simp,(j8 G).mpr ⟨J,O,f,i++x::q,?_,o,?_⟩,?_⟩
      ·rw[p];simp
      ·simp
      ·rw[l];simp
   obtain⟨p2,B,_,i,g⟩:=fF;refine⟨_,i,.inl ⟨p2,x,B,rfl,j,?_,?_⟩⟩
   ·rw[g,jx ek];rwa [r,jx Y]at Q
   ·rwa [g,x0]
  ·exact⟨a++y::q,(j8 G).mpr ⟨a,x,y,q,rfl,D,rfl⟩,.inl ⟨a,y,q,rfl,H,Q,e▸T⟩⟩
  ·obtain⟨f,o,r⟩:=lo _ gt;exact absurd r (no f o)
 ·obtain⟨a,x,q,rfl,j⟩:=Q5.mp (by omega:0 < ends num h);obtain⟨m,lo,U,y,D,H,T⟩:=lack L (C x (by simp)) j;refine⟨a++y::q,(j8 G).mpr ⟨a,x,y,q,rfl,D,rfl⟩,.inr ?_⟩;rw[jp j]at two;rwa [jp H]
def WK(num:α->Option Nat)(h:List α):Prop:=ends num h=0/\j1 (nums num h)=0
def xT(L:WB G ok num fz){h b:List α}(g:∀x∈h,ok x)(z:WK num h)(m:b∈mv G h):¬WK num b:=λw=>by
 obtain⟨_,x,y,q,rfl,i,rfl⟩:=(j8 G).mp m;cases a:num x with
 | none=>have:=z.1;rw[jp a]at this;omega
 | some n=>
  cases d:num y with
  | none=>have:=w.1;rw[jp d]at this;omega
  | some k=>
   have e:=z.2;have f:=w.2;rw[Qn a]at e;rw[Qn d]at f;have:=Xy (e.trans f.symm);subst this;exact L.n2 (g x (by simp)) a i d
def Wp{h b:List α}(d:Drawn G num h)(m:b∈mv G h):¬WK num b:=λw=>by
 obtain⟨l,u,y,o,rfl,r,rfl⟩:=(j8 G).mp m;cases i:num u with
 | some n=>
  have pos:0 < ends num (l++u::o):=by
   rcases d with ⟨g,x,q,e,p,_⟩ | two
   ·exact Q5.mpr ⟨g,x,q,e,p⟩
   ·omega
  rw[jx i]at pos;have j:=w.1;cases f:num y with
  | none=>rw[jp f]at j;omega
  | some k=>rw[jx f]at j;omega
 | none=>
  have j:=w.1;cases f:num y with
  | none=>rw[jp f]at j;omega
  | some k=>
   rw[jx f]at j;rcases d with ⟨g,x,q,e,p,j,no⟩ | two
   ·have hu:u∈g++x::q:=by rw[<-e];simp
    have j:=Classical.byContradiction λne=>by
     have:u∈g++q:=by
      rcases tQ.mp hu with h | h
      ·exact zac _ h
      ·rcases tH.mp h with h | h
       ·exact absurd h ne
       ·exact tE _ h
     obtain⟨a,b,p⟩:=zct this;have:=Q5.mpr ⟨a,u,b,p,i⟩;omega
    subst j;have p:nums num (l++o)=nums num (g++q):=by rw[<-Jl (p:=l) (q:=o) i,e,Jl i]
    have j:=w.2;rw[Qn f,p]at j;have:k=j1 (nums num (g++q)):=Xy (by rw[j,zce]);exact no y r (by rw[f,this])
   ·rw[jp i]at two;omega
def kind(L:WB G ok num fz){h:List α}(i:∀x∈h,ok x):WK num h\/Drawn G num h\/∃b∈mv G h,WK num b/\∀x∈b,ok x:=by
 rcases zaB (ends num h) 1 with c | c | c
 ·have g:ends num h=0:=by omega
  by_cases j:j1 (nums num h)=0
  ·exact .inl ⟨g,j⟩
  ·obtain⟨a,x,y,q,e,f,⟨n,k,l,m⟩,o,_⟩:=Y8 L i (zdU j);refine .inr (.inr ⟨a++y::q,(j8 G).mpr ⟨a,x,y,q,e,f,rfl⟩,⟨?_,o⟩,zz L i e f⟩);rw[e,jx l]at g;rwa [jx m]
 ·obtain⟨a,x,q,rfl,j⟩:=Q5.mp (by omega:0 < ends num h);rw[jp j]at c;have g:ends num (a++q)=0:=by omega
  by_cases d:∃y∈G x,num y=some (j1 (nums num (a++q)))
  ·obtain⟨y,f,l⟩:=d;exact .inr (.inr ⟨a++y::q,(j8 G).mpr ⟨a,x,y,q,rfl,f,rfl⟩,⟨by rw[jx l];exact g,by rw[Qn l,zce]⟩,zz L i rfl f⟩)
  ·exact .inr (.inl (.inl ⟨a,x,q,rfl,j,g,λy f e=>d ⟨y,f,e⟩⟩))
 ·exact .inr (.inl (.inr (by omega)))
mutual
def xt(L:WB G ok num fz){h:List α}(f:∀x∈h,ok x):Uo (mv G) h->WK num h
 | .mk w=>by
  rcases kind L f with z | d | ⟨b,a,z,g⟩
  ·exact z
  ·obtain⟨b,a,i⟩:=Np L f d;have g:∀x∈b,ok x:=by
    obtain⟨_,x,y,q,e,j,rfl⟩:=(j8 G).mp a;exact zz L f e j
   exact absurd i (won_is L g (w b a)).1
  ·exact absurd z (won_is L g (w b a)).2
def won_is(L:WB G ok num fz){h:List α}(a:∀x∈h,ok x):Won (mv G) h->¬Drawn G num h/\¬WK num h
 | .mk (b:=b) m f=>by
  have g:∀x∈b,ok x:=by
   obtain⟨_,x,y,q,e,i,rfl⟩:=(j8 G).mp m;exact zz L a e i
  have z:=xt L g f;exact⟨λd=>Wp d m z,λf=>xT L a f m z⟩
end
def z1(L:WB G ok num fz){h:List α}(a:∀x∈h,ok x):Uo (mv G) h↔WK num h:=⟨xt L a,λz=>ue L _ (tp _) a z.1 z.2⟩
def Vy(L:WB G ok num fz){h:List α}(e:∀x∈h,ok x):Won (mv G) h↔¬Drawn G num h/\¬WK num h:=⟨won_is L e,λ⟨d,z⟩=>by
 rcases kind L e with a | f | ⟨b,g,a,i⟩
 ·exact absurd a z
 ·exact absurd f d
 ·exact .mk g ((z1 L i).mpr a)⟩
end
section
variable{α:Type}[DecidableEq α](G:α->List α)(N:List α)
abbrev Rs(α:Type):=List (Nat×List α)
def qz(rs:Rs α)(z:α):Option Nat:=(rs.find? λa=>decide (z∈a.2)).map (·.1)
def Ja(rs:Rs α)(z:α):Nat:=rs.findIdx λa=>decide (z∈a.2)
def Y6(f:α->Option Nat)(x:α)(n:Nat):Prop:=(∀a,a < n->∃y∈G x,f y=some a)/\(∀y∈G x,f y≠some n)/\∀y∈G x,f y=none->∃z∈G y,f z=some n
structure vZ(rs:Rs α)(n:Nat)(ns:List α):Prop where
 iff:∀x,x∈ns↔x∈N/\qz rs x=none/\Y6 G (qz rs) x n
 sub:ns.Sublist N
inductive QK(n:Nat):Rs α->Rs α->Prop
 | stop {rs:Rs α} (h:vZ G N rs n []):QK n rs rs
 | more {rs rs':Rs α} {ns:List α} (h:vZ G N rs n ns) (ne:ns≠[]) (k:QK n (rs++[(n,ns)]) rs'):QK n rs rs'
inductive All:Nat->Rs α->Rs α->Prop
 | stop {n:Nat} {rs:Rs α} (h:vZ G N rs n []):All n rs rs
 | more {n:Nat} {rs rs' gA:Rs α} (h:QK G N n rs rs') (ne:rs'≠rs) (k:All (n+1) rs' gA):All n rs gA
variable{G N}
def Za{rs:Rs α}{n:Nat}{ns:List α}{z:α}:qz (rs++[(n,ns)]) z=match qz rs z with | some m=>some m | none=>if z∈ns then some n else none:=by
 unfold qz;rw[List.find?_append];cases e:rs.find? (λa=>decide (z∈a.2)) with
 | some a=>rfl
 | none=>
  by_cases c:z∈ns
  ·simp [c]
  ·simp [c]
def Xs{rs:Rs α}{z:α}:qz rs z=none↔∀r∈rs,z∉r.2:=by
 unfold qz;rw[Option.map_eq_none_iff,zdT];simp
def JB{rs:Rs α}{n m:Nat}{ns:List α}{z:α}(h:qz rs z=some m):Ja (rs++[(n,ns)]) z=Ja rs z/\Ja rs z < rs.length:=by
 have d:∃a∈rs,z∈a.2:=Classical.byContradiction λno=>by
  have:=Xs.mpr λa hr b=>no ⟨a,hr,b⟩;rw[h]at this;cases this
 obtain⟨a,hr,b⟩:=d;have lt:Ja rs z < rs.length:=List.findIdx_lt_length_of_exists ⟨a,hr,decide_eq_true b⟩;refine⟨?_,lt⟩;unfold Ja at lt ⊢;rw[zdP,if_pos lt]
def yZ{rs:Rs α}{n:Nat}{ns:List α}{z:α}(h:qz rs z=none)(a:z∈ns):Ja (rs++[(n,ns)]) z=rs.length:=by
 have e:Ja rs z=rs.length:=by
  unfold Ja;rw[List.findIdx_eq_length];exact λb hr=>decide_eq_false (Xs.mp h b hr)
 unfold Ja at e ⊢;rw[zdP,if_neg (by rw[e];exact zan _)];simp [a,List.findIdx_cons]
variable(G N) in
structure B2(rs:Rs α)(n:Nat):Prop where
 inN:∀{x m},qz rs x=some m->x∈N
 le:∀{x m},qz rs x=some m->m<=n
 n1:∀{x k m},qz rs x=some k->m < k->∃y∈G x,qz rs y=some m/\Ja rs y < Ja rs x
 n2:∀{x y k},qz rs x=some k->y∈G x->qz rs y≠some k
 n3:∀{x y k},qz rs x=some k->y∈G x->(∀m,qz rs y=some m->k < m)->∃z∈G y,qz rs z=some k/\Ja rs z < Ja rs x
 n4:∀{x y k m},qz rs x=some k->y∈G x->qz rs y=some m->m < k->Ja rs y < Ja rs x
def zk{rs:Rs α}{n m:Nat}{ns:List α}{z:α}(h:qz rs z=some m):qz (rs++[(n,ns)]) z=some m:=by rw[Za,h]
def xB{rs:Rs α}{n:Nat}{ns:List α}{z:α}(h:qz rs z=none)(a:z∈ns):qz (rs++[(n,ns)]) z=some n:=by
 rw[Za,h];exact if_pos a
def Qu{rs:Rs α}{n m:Nat}{ns:List α}{z:α}(h:qz (rs++[(n,ns)]) z=some m):(qz rs z=some m/\Ja (rs++[(n,ns)]) z=Ja rs z/\Ja rs z < rs.length)\/(qz rs z=none/\z∈ns/\m=n/\Ja (rs++[(n,ns)]) z=rs.length):=by
 cases e:qz rs z with
 | some k=>
  rw[zk e]at h;cases h;exact .inl ⟨rfl,JB e⟩
 | none=>
  rw[Za,e]at h;by_cases c:z∈ns
  ·have h:=h;rw[if_pos c]at h;cases h;exact .inr ⟨rfl,c,rfl,yZ e c⟩
  ·have h:=h;rw[if_neg c]at h;cases h
def Nj{rs:Rs α}{n:Nat}{ns:List α}{z:α}(h:qz (rs++[(n,ns)]) z=none):qz rs z=none:=by
 cases e:qz rs z with
 | none=>rfl
 | some k=>rw[zk e]at h;cases h
def B2.more{rs:Rs α}{n:Nat}{ns:List α}(v:B2 G N rs n)(r:vZ G N rs n ns):B2 G N (rs++[(n,ns)]) n:=by
 refine⟨λ{x m} h=>?_,λ{x m} h=>?_,λ{x k m} h lt=>?_,λ{x y k} h a e=>?_,λ{x y k} h a gt=>?_,λ{x y k m} h a b lt=>?_⟩
 ·rcases Qu h with ⟨h,_⟩ | ⟨_,h,_⟩
  ·exact v.inN h
  ·exact((r.iff x).mp h).1
 ·rcases Qu h with ⟨h,_⟩ | ⟨_,_,rfl,_⟩
  ·exact v.le h
  ·exact tp _
 ·rcases Qu h with ⟨h,d,_⟩ | ⟨h,i,rfl,d⟩
  ·obtain⟨y,a,b,_⟩:=v.n1 h lt;exact⟨y,a,zk b,by rwa [d,(JB b).1]⟩
  ·obtain⟨y,a,b⟩:=((r.iff x).mp i).2.2.1 m lt;exact⟨y,a,zk b,by rw[d,(JB b).1];exact(JB (n:=k) (ns:=ns) b).2⟩
 ·rcases Qu h with ⟨h,_⟩ | ⟨h,i,rfl,_⟩
  ·rcases Qu e with ⟨e,_⟩ | ⟨l,j,o,_⟩
   ·exact v.n2 h a e
   ·obtain⟨z,g,f,_⟩:=v.n3 h a (λm q=>by rw[l]at q;cases q);rw[o]at f;exact((r.iff y).mp j).2.2.2.1 z g f
  ·have l:=((r.iff x).mp i).2.2;rcases Qu e with ⟨e,_⟩ | ⟨e,j,_,_⟩
   ·exact l.2.1 y a e
   ·obtain⟨z,g,f⟩:=l.2.2 y a e;exact((r.iff y).mp j).2.2.2.1 z g f
 ·rcases Qu h with ⟨h,d,_⟩ | ⟨h,i,rfl,d⟩
  ·obtain⟨z,g,f,_⟩:=v.n3 h a (λm q=>gt m (zk q));exact⟨z,g,zk f,by rwa [d,(JB f).1]⟩
  ·have bare:qz rs y=none:=by
    cases e:qz rs y with
    | none=>rfl
    | some m=>
     have:=gt m (zk e);have:=v.le e;omega
   obtain⟨z,g,f⟩:=((r.iff x).mp i).2.2.2.2 y a bare;exact⟨z,g,zk f,by rw[d,(JB f).1];exact(JB (n:=k) (ns:=ns) f).2⟩
 ·rcases Qu h with ⟨h,d,_⟩ | ⟨h,i,rfl,d⟩
  ·rcases Qu b with ⟨b,f,_⟩ | ⟨_,_,em,_⟩
   ·rw[d,f];exact v.n4 h a b lt
   ·have:=v.le h;omega
  ·rcases Qu b with ⟨b,f,a⟩ | ⟨_,_,rfl,_⟩
   ·rwa [d,f]
   ·omega
variable(G N) in
def EP(rs:Rs α)(m:Nat):Prop:=∀x∈N,qz rs x=none->(∀a,a < m->∃y∈G x,qz rs y=some a)->(∀y∈G x,qz rs y≠some m)->∃y∈G x,qz rs y=none/\∀z∈G y,qz rs z≠some m
def Nm{rs:Rs α}{n:Nat}(r:vZ G N rs n []):EP G N rs n:=λx a e lo b=>Classical.byContradiction λno=>by
 refine absurd ((r.iff x).mpr ⟨a,e,lo,b,λy a b=>Classical.byContradiction λq=>no ⟨y,a,b,λz a b=>q ⟨z,a,b⟩⟩⟩) (by simp)
def AN{rs:Rs α}{n m:Nat}{ns:List α}(v:B2 G N rs n)(r:vZ G N rs n ns)(lt:m < n)(h:EP G N rs m):EP G N (rs++[(n,ns)]) m:=λx j e lo l=>by
 have old:∀{z b},b<=m->qz (rs++[(n,ns)]) z=some b->qz rs z=some b:=λ{z b} g a=>by
  rcases Qu a with ⟨a,_⟩ | ⟨_,_,rfl,_⟩
  ·exact a
  ·omega
 obtain⟨y,d,f,i⟩:=h x j (Nj e) (λb g=>let ⟨y,d,f⟩:=lo b g;⟨y,d,old (by omega) f⟩) (λy d f=>l y d (zk f));refine⟨y,d,?_,λz b a=>i z b (old (tp _) a)⟩;cases q:qz (rs++[(n,ns)]) y with
 | none=>rfl
 | some k=>
  rcases Qu q with ⟨q,_⟩ | ⟨_,d,rfl,_⟩
  ·rw[f]at q;cases q
  ·obtain⟨z,b,a⟩:=((r.iff y).mp d).2.2.1 m lt;exact absurd a (i z b)
def AA{n:Nat}{rs a:Rs α}(g:QK G N n rs a):B2 G N rs n->(∀m,m < n->EP G N rs m)->B2 G N a n/\∀m,m<=n->EP G N a m:=by
 induction g with
 | stop a=>exact λv h=>⟨v,λm b=>by
  rcases zbj m n with c | c
  ·exact h m c
  ·have:m=n:=by omega
   subst this;exact Nm a⟩
 | more a ne k d=>exact λv h=>d (v.more a) λm b=>AN v a b (h m b)
def Ed(cl:∀x∈N,∀y∈G x,y∈N){n:Nat}{rs b:Rs α}(a:All G N n rs b):B2 G N rs n->(∀x m,qz rs x=some m->m < n)->(∀m,m < n->EP G N rs m)->WB G (·∈N) (qz b) (Ja b):=by
 induction a with
 | @stop n rs f=>
  refine λv lt h=>⟨λ{x y} b d=>cl x b y d,λ{x n m} _=>v.n1,λ{x y n} _=>v.n2,λ{x y n} _=>v.n3,λ{x y n m} _=>v.n4,λ{x m} b e lo d=>?_⟩;rcases zaB m n with c | rfl | c
  ·exact h m c x b e lo d
  ·exact Nm f x b e lo d
  ·obtain⟨y,_,b⟩:=lo n c;have:=lt y n b;omega
 | @more n rs b g d ne k f=>
  intro v lt h;obtain⟨b,g⟩:=AA d v h;exact f ⟨b.inN,λ{x m} e=>Nat.le_succ_of_le (b.le e),b.n1,b.n2,b.n3,b.n4⟩ (λx m e=>Nat.lt_succ_of_le (b.le e)) λm _=>g m (by omega)
def NQ(n:Nat):B2 G N ([]:Rs α) n:=⟨λh=>(nomatch h),λh=>(nomatch h),λh=>(nomatch h),λh=>(nomatch h),λh=>(nomatch h),λh=>(nomatch h)⟩
def Wa(cl:∀x∈N,∀y∈G x,y∈N){rs:Rs α}(a:All G N 0 [] rs):WB G (·∈N) (qz rs) (Ja rs):=Ed cl a (NQ 0) (λx m h=>(nomatch h)) λm h=>absurd h (zbP m)
end
end MLab
namespace Rb
def QC{b n k:Nat}(e:n < 16):(turnN b n 16).testBit k=(decide (k < 16)&&b.testBit (k^^^n)):=by
 unfold turnN;rw[testBit_setN,zba,decide_eq_true_iff,zar,decide_eq_true_iff,tz];constructor
 ·rintro⟨y,f,rfl⟩;obtain⟨a,d⟩:=mem_memN.mp f;exact⟨xor_lt (m:=4) a e,by rw[yf];exact d⟩
 ·rintro⟨a,d⟩;exact⟨k^^^n,mem_memN.mpr ⟨xor_lt (m:=4) a e,d⟩,yf k n⟩
def xZ{b x y:Nat}(d:x < 16)(a:y < 16):turnN (turnN b x 16) y 16=turnN b (x^^^y) 16:=by
 refine zdK λk=>?_;rw[QC a,QC d,QC (xor_lt (m:=4) d a),zbq,zed y x];by_cases d:k < 16
 ·rw[decide_eq_true d,decide_eq_true (xor_lt (m:=4) d a)];simp
 ·rw[decide_eq_false d];simp
def uS(n:Nat):turnN 0 n 16=0:=by
 unfold turnN;have e:memN 0 16=[]:=by decide
 rw[e];rfl
inductive W where
 | num (n:Nat)
 | edl (b:Nat)
deriving DecidableEq
def zV:W->W->W
 | .num a,.num b=>.num (a^^^b)
 | .num a,.edl b=>.edl (turnN b a 16)
 | .edl b,.num a=>.edl (turnN b a 16)
 | .edl _,.edl _=>.edl 0
def Yw:W->Prop
 | .num n=>n < 16
 | .edl b=>b < 65536
def Jm(a:List W):List Nat:=a.filterMap λ| .num n=>some n | .edl _=>none
def Qx(a:List W):List Nat:=a.filterMap λ| .num _=>none | .edl b=>some b
def QP(a:List W):W:=match Qx a with
 | []=>.num (xorAll (Jm a))
 | [b]=>.edl (turnN b (xorAll (Jm a)) 16)
 | _=>.edl 0
def uA(ns:List Nat):∀a,ns.foldl (·^^^ ·) a=a^^^xorAll ns:=by
 induction ns with
 | nil=>intro a;simp [xorAll]
 | cons n ns b=>
  intro a;unfold xorAll;rw[zcR,zcR,b (a^^^n),b (0^^^n),zcE,zbq]
def YO(n:Nat)(ns:List Nat):xorAll (n::ns)=n^^^xorAll ns:=by
 show ns.foldl (·^^^ ·) (0^^^n)=_;rw[uA,zcE]
def Ym{ns:List Nat}(h:∀x∈ns,x < 16):xorAll ns < 16:=by
 induction ns with
 | nil=>decide
 | cons n ns a=>
  rw[YO];exact xor_lt (m:=4) (h n (tX ..)) (a λx a=>h x (tU _ a))
def VZ{a:List W}(h:∀w∈a,Yw w):∀x∈Jm a,x < 16:=by
 intro x a;obtain⟨w,d,e⟩:=zaH.mp a;cases w with
 | num n=>cases e;exact h _ d
 | edl b=>cases e
def J5(a:List W)(w:W):Jm (a++[w])=Jm a++(match w with | .num n=>[n] | .edl _=>[]):=by
 unfold Jm;rw[zau];cases w<;>rfl
def Yq(a:List W)(w:W):Qx (a++[w])=Qx a++(match w with | .num _=>[] | .edl b=>[b]):=by
 unfold Qx;rw[zau];cases w<;>rfl
def uT{a:List W}{w:W}(h:∀w∈a,Yw w)(f:Yw w):QP (a++[w])=zV (QP a) w:=by
 unfold QP;rw[Yq,J5];cases w with
 | num n=>
  simp only[zaj];have e:xorAll (Jm a++[n])=xorAll (Jm a)^^^n:=xorAll_snoc _ _;cases g:Qx a with
  | nil=>simp only[e];rfl
  | cons b d=>
   cases d with
   | nil=>
    simp only[e];show W.edl _=W.edl _;rw[xZ (Ym (VZ h)) f]
   | cons c d=>
    show W.edl 0=W.edl _;rw[uS]
 | edl b=>
  simp only[zaj];cases g:Qx a with
  | nil=>rfl
  | cons c d=>
   cases d with
   | nil=>rfl
   | cons a d=>rfl
def uU{a:List W}(h:∀w∈a,Yw w):Yw (QP a):=by
 have a:=Ym (VZ h);unfold QP;split
 ·exact a
 ·exact yi (k:=4) (tp _) a
 ·show 0 < 65536;decide
def Ni{a:List W}(h:∀w∈a,Yw w):∀i,i<=a.length->(a.take i).foldl zV (.num 0)=QP (a.take i):=by
 intro i;induction i with
 | zero=>intro _;rfl
 | succ i d=>
  intro f;have b:=f;have e:a.take (i+1)=a.take i++[a[i]]:=by rw[tN,tj b];rfl
  rw[e,zcD,d (zab b),uT (λw a=>h w (zbf a)) (h _ (zbo b))];rfl
def vG{a:List W}(h:∀w∈a,Yw w):a.foldl zV (.num 0)=QP a:=by
 have:=Ni h a.length (tp _);rwa [tv (tp _)]at this
end Rb
namespace MLab
section
variable{α:Type}(G:α->List α)
variable{G}{ok:α->Prop}{num:α->Option Nat}{fz:α->Nat}
end
section
variable{β:Type}{M:β->List β}
end
section
variable{α:Type}[DecidableEq α]{G:α->List α}{N:List α}
def Y9:∀{l m:List α},l.Sublist m->m.Nodup->l=m.filter λx=>decide (x∈l)
 | _,_,.slnil,_=>rfl
 | l,a::m,.cons _ h,b=>by
  rw[zak]at b;rw[zbe,if_neg (by simpa using (λz=>b.1 (h.subset z)))];exact Y9 h b.2
 | a::l,_::m,.cons₂ _ h,b=>by
  rw[zak]at b;rw[zbe,if_pos (by simp)];congr 1;refine(Y9 h b.2).trans (zaX λx d=>?_);have ne:x≠a:=λz=>b.1 (z▸d);simp [ne]
def vZ.uniq(nd:N.Nodup){rs:Rs α}{n:Nat}{ns ms:List α}(a:vZ G N rs n ns)(b:vZ G N rs n ms):ns=ms:=by
 rw[Y9 a.sub nd,Y9 b.sub nd];exact zaX λx _=>decide_eq_decide.mpr ((a.iff x).trans (b.iff x).symm)
def QK.uniq(nd:N.Nodup){n:Nat}{rs a b:Rs α}(h:QK G N n rs a):QK G N n rs b->a=b:=by
 induction h with
 | stop e=>
  intro k;cases k with
  | stop _=>rfl
  | more d ne _=>exact absurd (d.uniq nd e) ne
 | more e ne k f=>
  intro g;cases g with
  | stop d=>exact absurd (e.uniq nd d) ne
  | more d _ g=>
   have:=e.uniq nd d;subst this;exact f g
def QK.same{n:Nat}{rs:Rs α}(h:QK G N n rs rs):vZ G N rs n []:=by
 have len:∀{rs a:Rs α},QK G N n rs a->rs.length<=a.length:=λ{rs a} h=>by
  induction h with
  | stop _=>exact tp _
  | more b ne k d=>
   rw[tx]at d;omega
 generalize e:rs=a at h;have d:=e;cases h with
 | stop b=>exact b
 | more b ne k=>
  have:=len k;rw[tx,zax]at this;omega
def All.uniq(nd:N.Nodup){n:Nat}{rs a b:Rs α}(h:All G N n rs a):All G N n rs b->a=b:=by
 induction h with
 | stop e=>
  intro k;cases k with
  | stop _=>rfl
  | more d ne _=>
   have:=d.uniq nd (QK.stop e);exact absurd this ne
 | more d ne k e=>
  intro f;cases f with
  | stop f=>exact absurd (d.uniq nd (QK.stop f)) ne
  | more f _ g=>
   have:=d.uniq nd f;subst this;exact e g
variable(G N) in
inductive WL:Nat->Rs α->Prop
 | nil:WL 0 []
 | more {n:Nat} {rs rs':Rs α} (h:WL n rs) (g:QK G N n rs rs'):WL (n+1) rs'
def AB{n m:Nat}{rs a:Rs α}(g:QK G N n rs a)(h:∀r∈rs,r.1 < m)(lt:n < m):∀r∈a,r.1 < m:=by
 induction g with
 | stop _=>exact h
 | more r ne k a=>
  exact a λx a=>by
   rcases tQ.mp a with a | a
   ·exact h x a
   ·rwa [tM.mp a]
def WL.lt{n:Nat}{rs:Rs α}(u:WL G N n rs):∀r∈rs,r.1 < n:=by
 induction u with
 | nil=>intro r h;cases h
 | more h a b=>exact AB a (λr hr=>zbX (b r hr)) (zaF _)
def D3{n m:Nat}{rs:Rs α}(h:∀r∈rs,r.1 < n){x:α}(e:qz rs x=some m):m < n:=by
 unfold qz at e;obtain⟨r,hr,a⟩:=zbz.mp e;rw[<-a];exact h r (zcg hr)
def ua{n m:Nat}{rs a:Rs α}(h:∀r∈rs,r.1 < n)(lt:n < m)(g:QK G N m rs a):a=rs:=by
 cases g with
 | stop _=>rfl
 | more r ne k=>
  exfalso;rename_i d;obtain⟨x,t,e⟩:=zbC ne;obtain⟨y,_,b⟩:=(((r.iff x).mp (by rw[e];exact tX)).2.2).1 n lt;exact absurd (D3 h b) (zan _)
def Vl{n:Nat}{rs a:Rs α}(g:QK G N n rs a){x:α}{m:Nat}(e:qz rs x=some m):qz a x=some m:=by
 induction g with
 | stop _=>exact e
 | more _ _ _ a=>exact a (zk e)
def Nb{n:Nat}{rs a:Rs α}(g:QK G N n rs a)(ne:a≠rs):∃x∈N,qz a x=some n:=by
 cases g with
 | stop _=>exact absurd rfl ne
 | more d f k=>
  rename_i i;obtain⟨x,t,e⟩:=zbC f;have b:x∈i:=e▸tX;have h:=(d.iff x).mp b;exact⟨x,h.1,Vl k (xB h.2.1 b)⟩
def WL.run{n:Nat}{rs:Rs α}(u:WL G N n rs):(All G N 0 [] rs/\∃m,m < n/\∀r∈rs,r.1 < m)\/((∀j,j < n->∃x∈N,qz rs x=some j)/\∀b,All G N n rs b->All G N 0 [] b):=by
 induction u with
 | nil=>exact .inr ⟨λj h=>absurd h (zbP j),λb h=>h⟩
 | @more n rs f h d g=>
  rcases g with ⟨a,m,i,lt⟩ | ⟨l,k⟩
  ·have e:=ua lt i d;subst e;exact .inl ⟨a,m,by omega,lt⟩
  ·by_cases e:f=rs
   ·subst e;exact .inl ⟨k _ (.stop (QK.same d)),n,zaF _,h.lt⟩
   ·refine .inr ⟨λj _=>?_,λb a=>k b (.more d e a)⟩;rcases zbj j n with c | c
    ·obtain⟨x,b,f⟩:=l j c;exact⟨x,b,Vl d f⟩
    ·have:j=n:=by omega
     subst this;exact Nb d e
def DF{l m:List α}:l.Nodup->(∀z∈l,z∈m)->l.length<=m.length:=by
 induction l generalizing m with
 | nil=>exact λ_ _=>zao _
 | cons a l g=>
  intro b h;rw[zak]at b;have d:=h a tX;have:=g b.2 λz f=>(zca (λ(e:z=a)=>b.1 (e▸f))).mpr (h z (tU _ f));rw[zcl d]at this;have:=zaG d;rw[zae];omega
def WL.whole{M:Nat}{R:Rs α}(u:WL G N M R)(len:N.length < M):All G N 0 [] R:=by
 rcases u.run with ⟨a,_⟩ | ⟨b,_⟩
 ·exact a
 ·exfalso;have:=DF zcL λd e=>by
   obtain⟨x,f,g⟩:=b d (zaC.mp e);exact zaH.mpr ⟨x,f,g⟩
  rw[zal]at this;have:=zaO (qz R) N;omega
end
section
variable{β:Type}[DecidableEq β]{M:β->List β}
mutual
def vz{a:β}:Uo M a->¬Won M a
 | .mk w=>λ⟨m,b⟩=>won_not (w _ m) b
def won_not{a:β}:Won M a->¬Uo M a
 | .mk m b=>λ⟨w⟩=>vz b (w _ m)
end
variable{Bs:List β}{F:β->Option Bool}{P ln:List β}{lf:β->Nat}{h:β}
end
end MLab
namespace Rh
open PySem L2
def top(i:Nat):Stmt:=PySem.Challenge.pw_ringheaps_k71_drawers_and_players.main.body.getD i (.Pass ⟨0,0,0,0⟩)
abbrev zQ:Stmt:=top 20
abbrev y6:Stmt:=top 81
abbrev Xd:Stmt:=top 82
abbrev zN:Stmt:=top 83
abbrev XG:Stmt:=top 84
abbrev XH:Stmt:=top 85
abbrev yX:Stmt:=top 86
abbrev VF:Stmt:=top 104
open PyProof.Rows hiding K lo
structure qM(K:zel)(mg:Str->Option Value)(x:Str)(st:Stmt)(ps:List Str)(f:Addr)(fd:zep):Prop where
 fn:jq K x x st f fd
 ns:mg x=some (.ref f)
 bi:jy K fd ps []
def qE{X:Cx}{x:Str}{st:Stmt}{ps:List Str}{f:Addr}{b:zep}{k:Nat}{d:Sp}{e:Expr}{a:List Expr}{t:TA}{p pos:Pos}(h:qM X.K X.mg x st ps f b)(G:qp X.prog X.w X.K X.mg X.base q5 k f b ps d)(g:JA X (e::a) t)(i:(x==("__debug__":Str))=false:=by decide)(j:starEach (e::a) X.env=(false,eval e X.env)::starEach a X.env:=by rfl)(l:(backTo pos (starEach a X.env)).any (·.1)=false:=by rfl)(m:Gl X x:=by rfl)(hr:ji k X.A:=by first | assumption | exact ji.mono hr (by decide)):
 JE X (.Call (.Name x p) (e::a) [] pos) (Xz d [] E0 t):=.of (xj G hr m h.ns h.fn.kp h.bi .nil Qy g.to i j l)
def qt{H:Hp}(h:H b=some o)(hp:H p=none):upd H p o' b=some o:=by
 rwa [qf (qm h hp)]
def nq{H:Hp}(h:H a=o)(d:H b=o')(n:o≠o':=by nofun):b≠a:=λe=>n (by rw[<-h,<-d,e])
def nq'{H:Hp}(h:H a=o)(d:H b=o')(n:o≠o':=by nofun):a≠b:=λe=>n (by rw[<-h,<-d,e])
def qi{H:Hp}(hp:H p=none):Same H (upd H p o):=λb u h=>qt h hp
def Same.upd(s:Same H H')(hp:H p=none):Same H (upd H' p o):=λb u h=>by
 rw[qf (qm h hp)];exact s b u h
def src(n s t:Int):List (qZ×V):=[(Sum.inr "number",.int n),(Sum.inr "seed",.int s),(Sum.inr "turn",.int t)]
def nns:¬(zem "number")=zem "seed":=by decide+kernel
def II:¬(zem "number")=zem "turn":=by decide+kernel
def IH:¬(zem "seed")=zem "turn":=by decide+kernel
def nsn:¬(zem "seed")=zem "number":=by decide+kernel
def ntn:¬(zem "turn")=zem "number":=by decide+kernel
def nts:¬(zem "turn")=zem "seed":=by decide+kernel
def R3(h:¬a=b):¬(Sum.inr a:qZ)=Sum.inr b:=λe=>h (Sum.inr.inj e)
def gN{H:Hp}(h:H d=some (.dK (src n s t))):jZ H d (.str "number") (some (.int n)):=by
 have e:jw (src n s t) (Sum.inr "number":qZ)=some (.int n):=jH rfl;have q:=jZ.k (k:=(Sum.inr "number":qZ)) h;rw[e]at q;exact q
def gS{H:Hp}(h:H d=some (.dK (src n s t))):jZ H d (.str "seed") (some (.int s)):=by
 have e:jw (src n s t) (Sum.inr "seed":qZ)=some (.int s):=(jI (R3 nns)).trans (jH rfl);have q:=jZ.k (k:=(Sum.inr "seed":qZ)) h;rw[e]at q;exact q
def gT{H:Hp}(h:H d=some (.dK (src n s t))):jZ H d (.str "turn") (some (.int t)):=by
 have e:jw (src n s t) (Sum.inr "turn":qZ)=some (.int t):=(jI (R3 II)).trans ((jI (R3 IH)).trans (jH rfl));have q:=jZ.k (k:=(Sum.inr "turn":qZ)) h;rw[e]at q;exact q
def EN:(src n s t).length < zeq:=ql (by show 3<=1000;decide)
def pN{H:Hp}(h:H d=some (.dK (src n s t)))(v:Int):Jv H d (.str "number") (.int v) (upd H d (.dK (src v s t))):=by
 have e:Qd (src n s t) (Sum.inr "number":qZ) (.int v)=src v s t:=by
  unfold Qd src;simp [nsn,ntn]
 have q:=Jv.k (k:=(Sum.inr "number":qZ)) (v:=.int v) h EN;rwa [e]at q
def pT{H:Hp}(h:H d=some (.dK (src n s t)))(v:Int):Jv H d (.str "turn") (.int v) (upd H d (.dK (src n s v))):=by
 have e:Qd (src n s t) (Sum.inr "turn":qZ) (.int v)=src n s v:=by
  unfold Qd src;simp [II,IH]
 have q:=Jv.k (k:=(Sum.inr "turn":qZ)) (v:=.int v) h EN;rwa [e]at q
inductive yu(vs:List V)(H:Hp)(Q:VK):Prop
 | mk (d:Addr) (m n s t:Int):vs=[.ref d,.int m]->H d=some (.dK (src n s t))->(0 < m)->(m.natAbs < 2^200)->(∀r n' t',0<=r->r < m->Q (.int r) (upd H d (.dK (src n' s t'))))->yu vs H Q
def Kf:Sp:=λa H Q _=>yu a H Q
inductive WV(vs:List V)(H:Hp)(Q:VK):Prop
 | mk (c:Int):vs=[.int c]->(∀d n s,H d=none->Q (.ref d) (upd H d (.dK (src n s 0))))->WV vs H Q
def Kh:Sp:=λa H Q _=>WV a H Q
inductive yT(K:zel)(vs:List V)(H:Hp)(Q:VK):Prop
 | mk (a:Addr) (ns:List Int) (k:Int):vs=[.ref a,.int k]->(SqL K H a (ns.map V.int))->(0<=k)->(∀v,Q (.int v) H)->yT K vs H Q
def Cn(K:zel):Sp:=λa H Q _=>yT K a H Q
def Ct:qk ["_law_source_here","_law_many","_law_digit","_law_number"] ["_law_source_here","_law_many"] (qg zN):=jM
def Z8(F:jq K "_law_take" "_law_take" zN f a):qp P w K mg base q5 1 f a ["_law_source_here","_law_many"] Kf:=by
 refine F.okK Ct λH Q E hr h=>?_;obtain⟨d,m,n,b,t,rfl,hd,a,e,k⟩:=h;refine⟨_,qd (qA (qj ZM (qO (jv 0) qv) qh)
   (qd (qy 2 (qN Zn (qO (jv 0) qv) (jv 1)))
   (qd (jL (jv 0) qv (qN GV (qO (jv 0) qv) (jv 1)))
   (qe (qo (jv 2))))) qr)
  (qd (jL (jv 0) qv (qN QR (qO (jv 0) qv) qh))
  (qd (qy 3 (qN Zn (qN Zm (qN QR (qO (jv 0) qv) (qN Zm qh (qO (jv 0) qv))) qh) qh))
  (qd (qy 3 (qN Zn (qN Zm (jv 3) (jv 3)) qh))
  (qe (qo (qN Zn (qN MY (qN Zn (qN Zm (qN QR (jv 3) (qO (jv 0) qv)) (qN QR (jv 3) qh)) qh) qh) (jv 1))))))),?_⟩
 refine⟨_,rfl,d,_,rfl,gN hd,_,_,rfl,rfl,_,rfl,ul (λ_=>?_) (λ_=>?_)⟩
 ·exact⟨_,rfl,d,_,rfl,gN hd,_,rfl,_,_,rfl,rfl,a,⟨_,rfl,d,_,rfl,gN hd,_,rfl,_,_,rfl,rfl,⟨a,e⟩,_,rfl,d,_,rfl,pN hd _,⟨_,rfl,k _ _ _ (zbT _ (by omega)) (zbD _ a)⟩⟩⟩
 ·refine⟨_,rfl,d,_,rfl,gT hd,_,_,rfl,rfl,_,rfl,d,_,rfl,pT hd _,?_⟩;have e:upd H d (.dK (src n b (t+1))) d=some (.dK (src n b (t+1))):=qc;refine⟨_,rfl,d,_,rfl,gS e,_,rfl,d,_,rfl,gT e,_,_,rfl,rfl,.inl ⟨by decide,by decide⟩,_,_,rfl,rfl,_,_,rfl,rfl,.inr ⟨by decide,by decide⟩,_,_,rfl,rfl,(by show (0:Int) < 2147483647;decide),?_⟩;generalize g:((b+7919*(t+1))*48271) % 2147483647=x;have b:0<=x:=by rw[<-g];exact zbT _ (by decide)
  have b:x < 2147483647:=by rw[<-g];exact zbD _ (by decide)
  refine⟨_,rfl,_,rfl,_,_,rfl,rfl,.inl ⟨by omega,by omega⟩,_,_,rfl,rfl,(by show (0:Int) < 2147483629;decide),?_⟩;generalize b:(x*x) % 2147483629=y;have g:0<=y:=by rw[<-b];exact zbT _ (by decide)
  have g:y < 2147483629:=by rw[<-b];exact zbD _ (by decide)
  refine⟨_,rfl,_,rfl,d,_,rfl,gT e,_,_,rfl,rfl,_,rfl,_,_,rfl,rfl,_,_,rfl,rfl,.inr ⟨by omega,by omega⟩,_,_,rfl,rfl,(by show (0:Int) < 2147483587;decide),_,_,rfl,rfl,⟨by decide,by decide⟩,_,rfl,_,_,rfl,rfl,a,?_⟩;exact k _ _ _ (zbT _ (by omega)) (zbD _ a)
open PyProof.Rows hiding K lo
structure QL(mg:Str->Option Value):Prop where
 len:mg "len"=none
 max:mg "max"=none
 min:mg "min"=none
 int:mg "int"=none
 rng:mg "range"=none
def ud(n s t:Int):Jn [] (src n s t)=src n s t:=by
 unfold Jn src;simp only[zcR,List.foldl_nil];unfold Qd;simp [nns,II,IH,nsn,ntn,nts]
def KZ:qk ["_law_cell"] ["_law_cell"] (qg Xd):=jM
def wH(F:jq K "_law_source" "_law_source" Xd f a)(B:QL mg):qp P w K mg base q5 1 f a ["_law_cell"] Kh:=by
 refine F.okK KZ λH Q E hr h=>?_;obtain⟨c,rfl,k⟩:=h;refine⟨_,qe (qo (Ax
  (Wg qv (qN Zm (qx (Vo rfl) (by rfl) B.max boot_max (qV qh (jv 0)))
   (jF YK (by rfl) B.int boot_int (jc (Qc GU (jv 0) (qN C3 qh qh)))))
  (Wg qv (qN Zn (jv 0) qh) (Wg qv qh Ar))) rfl rfl (by simp) (by decide))),?_⟩
 refine λa b=>⟨_,rfl,_,_,rfl,_,rfl,_,_,rfl,rfl,⟨by decide,by decide,by decide⟩,_,_,rfl,rfl,.inr ⟨_,rfl,_,_,rfl,rfl,.inr ?_,_,rfl,_,_,rfl,rfl,(by show (0:Int) < 2147483629;decide),?_⟩⟩
 ·split<;>exact⟨by decide,by decide⟩
 ·refine⟨qc,src _ _ 0,rfl,(by show 3<=15;decide),?_⟩;rw[ud,jT];exact k a _ _ b
def CM:qk ["_law_script","_law_k"] ["_law_script","_law_k"] (qg y6):=jM
def Af(F:jq K "_law_cell_at" "_law_cell_at" y6 f b)(B:QL mg):qp P w K mg base q5 1 f b ["_law_script","_law_k"] (Cn K):=by
 refine F.okK CM λH Q E hr h=>?_;obtain⟨a,b,k,rfl,d,_,q⟩:=h;refine⟨_,qd (qA (qj Q7 (jv 1) (qx qL (by rfl) B.len boot_len (jc (jv 0))))
   (qe (qo (qD jj (jv 0) (jv 1)))) qr)
  (qe (qo (qN QR (qN Zm qh (jv 1)) qh))),?_⟩
 refine⟨_,rfl,_,rfl,a,_,rfl,.inl d,_,_,rfl,rfl,_,rfl,ul (λh=>?_) (λ_=>?_)⟩
 ·have e:=of_decide_eq_true h;rw[tc]at e;have e:(b.map V.int)[k.toNat]?=some (V.int b[k.toNat]):=by rw[tu,tj (by omega)];rfl
  have g:k=((k.toNat:Nat):Int):=by omega
  refine⟨_,rfl,_,rfl,a,_,k,V.int b[k.toNat],rfl,rfl,d,?_,q _⟩;have b:=QJ e;rw[<-g]at b;exact b
 ·exact⟨_,rfl,_,_,rfl,rfl,.inl ⟨by decide,by decide⟩,_,_,rfl,rfl,q _⟩
open PyProof.Rows hiding K lo
def Fr(H:Hp)(d:Addr)(H':Hp):Prop:=∀b a,H b=some a->b≠d->H' b=some a
def Fr.refl:Fr H d H:=λ_ _ h _=>h
def Fr.at_d(h:Fr H d H'):Fr H d (upd H' d o):=λb u e a=>by
 rw[qf a];exact h b u e a
def Fr.new(h:Fr H d H')(hp:H' p=none):Fr H d (upd H' p o):=λb u a e=>qt (h b u a e) hp
def Fr.own(h:Fr H d H')(hp:H p=none):Fr H d (upd H' p o):=λb u a e=>by
 rw[qf (qm a hp)];exact h b u a e
def Fr.trans(h:Fr H d H')(k:Fr H' d a):Fr H d a:=λb u e a=>k b u (h b u e a) a
def Fr.fresh(h:Fr H d H')(hd:H' d=some o)(hp:H' p=none):H p=none:=by
 cases e:H p with
 | none=>rfl
 | some u=>
  by_cases n:p=d
  ·subst n;rw[hd]at hp;cases hp
  ·rw[h p u e n]at hp;cases hp
def j9(c:Nat):Bool:=decide (97<=c)&&decide (c<=122)
def jm(z:Str):Bool:=(decide (1<=z.length)&&decide (z.length<=8))&&z.cps.toList.all j9
def xO:Str:="abcdefghijklmnopqrstuvwxyz"
def Vx:xO.cps.toList=[97,98,99,100,101,102,103,104,105,106,107,108,109,110,111,112,113,114,115,116,117,118,119,120,121,122]:=by decide+kernel
def NA:xO.cps.toList=(t9 26).map (97+·):=by rw[Vx];rfl
def xN:xO.length<=zeq:=by
 show xO.cps.size<=zeq;rw[<-zaE,Vx];decide
def NB(a:0<=r)(b:r < 26):Vw xO.cps.toList r=some (97+r.toNat):=by
 have b:xO.cps.toList[r.toNat]?=some (97+r.toNat):=by
  rw[NA,tu,zbG (by omega)];rfl
 have a:=QJ b;have b:r=((r.toNat:Nat):Int):=by omega
 rw[<-b]at a;exact a
def Ve{r:Int}(a:0<=r)(b:r < 26):j9 (97+r.toNat)=true:=by
 unfold j9;rw[decide_eq_true (by omega:97<=97+r.toNat),decide_eq_true (by omega:97+r.toNat<=122)];rfl
def DO(a:List Nat):(Txt.join (zem "") (a.map λk=>(⟨#[k]⟩:Str))).cps.toList=a:=by
 show (Builtin.Str.glued (zem "") _).cps.toList=_;rw[StrLaws.glued_eq_join];have e:(zem "")=⟨#[]⟩:=by decide+kernel
 rw[e,PyProof.Rows.join_ones]
def uo{z:Str}(e:z.cps.toList=A++[c]++B)(a:A.all j9=true)(b:j9 c=true)(d:B.all j9=true)(f:A.length+B.length<=7):jm z=true:=by
 have f:z.length=A.length+1+B.length:=by
  show z.cps.size=_;rw[<-zaE,e];simp;omega
 unfold jm;rw[decide_eq_true (by omega:1<=z.length),decide_eq_true (by omega:z.length<=8),e,zdC,zdC,a,d];simp [b]
def uK(f s:Int)(k:Nat):Nat:=97+((f+s*(k:Int)) % 26).toNat
def Aj:∀s∈[(1:Int),3,5,7,9,11],∀k,k < 14->∀j,j < 14->(s*((k:Nat):Int) - s*((j:Nat):Int)) % 26=0->k=j:=by decide+kernel
def Ai(hs:s=1\/s=3\/s=5\/s=7\/s=9\/s=11)(a:k < 14)(b:j < 14)(h:uK f s k=uK f s j):k=j:=by
 unfold uK at h;refine Aj s (by simpa using hs) k a j b ?_;generalize s*(k:Int)=x at h ⊢;generalize s*(j:Int)=y at h ⊢;omega
def JP(A:List Nat)(f s:Int)(b:List Str):Prop:=∀a z,b[a]?=some z->∃B,z.cps.toList=A++[uK f s a]++B/\B.all j9=true/\A.length+B.length<=7
def JP.snoc(h:JP A f s b){z:Str}(e:z.cps.toList=A++[uK f s b.length]++B)(g:B.all j9=true)(i:A.length+B.length<=7):JP A f s (b++[z]):=by
 intro d y a;by_cases j:d < b.length
 ·rw[t7 j]at a;exact h d y a
 ·have j:d=b.length:=by
   have:=(td.mp a).1;rw[tx,zax]at this;omega
  subst j;rw[tY (tp _),zbO]at a;obtain rfl:=(tF.inj a).symm;exact⟨B,e,g,i⟩
def JP.names{A:List Nat}{f s:Int}{a:List Str}(h:JP A f s a)(b:A.all j9=true):∀z∈a,jm z=true:=λz a=>by
 obtain⟨d,g⟩:=zaS a;obtain⟨B,e,a,i⟩:=h d z g;refine uo e b ?_ a i;unfold uK;exact Ve (zbT _ (by decide)) (zbD _ (by decide))
def JP.nodup(h:JP A f s a)(hs:s=1\/s=3\/s=5\/s=7\/s=9\/s=11)(b:a.length<=14):a.Nodup:=by
 refine zaM.mpr λi a d b _ e=>?_;obtain⟨B,g,_⟩:=h a _ (tj b);obtain⟨j,b,_⟩:=h i _ (tj d);rw[e]at b;have d:(A++[uK f s a]++B)[A.length]?=(A++[uK f s i]++j)[A.length]?:=by rw[<-g,<-b]
 rw[zcF,zcF,tY (tp _),tY (tp _),zbO]at d;exact absurd (Ai hs (by omega) (by omega) (tF.inj d)) (by omega)
def vS{A:List Nat}(h:A.all j9=true)(n:Nat):(A.take n).all j9=true:=by
 rw[zaK]at h ⊢;exact λx a=>h x (zbf a)
def Co(a:0<=r)(b:r < 6):∃m:Int,(m=1\/m=3\/m=5\/m=7\/m=9\/m=11)/\Vw [V.int 1,V.int 3,V.int 5,V.int 7,V.int 9,V.int 11] r=some (.int m):=by
 have:r=0\/r=1\/r=2\/r=3\/r=4\/r=5:=by omega
 rcases this with rfl | rfl | rfl | rfl | rfl | rfl
 ·exact⟨1,by decide,rfl⟩
 ·exact⟨3,by decide,rfl⟩
 ·exact⟨5,by decide,rfl⟩
 ·exact⟨7,by decide,rfl⟩
 ·exact⟨9,by decide,rfl⟩
 ·exact⟨11,by decide,rfl⟩
inductive UW(vs:List V)(H:Hp)(Q:VK):Prop
 | mk (d:Addr) (m:Nat) (n s t:Int):vs=[.ref d,.int m]->H d=some (.dK (src n s t))->(m<=14)->(∀(l:Addr) (zs:List Str) (n' t':Int) (H':Hp),H l=none->H' l=some (.lst (zs.map V.str))->zs.length=m->(∀z∈zs,jm z=true)->zs.Nodup->H' d=some (.dK (src n' s t'))->Fr H d H'->Q (.ref l) H')->UW vs H Q
def N7:Sp:=λa H Q _=>UW a H Q
def UF:∀a:List Str,(a.map λ_=>1).sum=a.length
 | []=>rfl
 | z::a=>by rw[tV,zaT,UF a,zae];omega
abbrev Dw:List Str:=["_law_source_here","_law_many","_law_letters","_law_word","_law_ahead","_law_first","_law_step","_law_names_here","_law_k","_law_behind"]
def Mr:qk Dw ["_law_source_here","_law_many"] (qg XG):=jM
def Rg{P:Program}{w:World}{K:zel}{mg:Str->Option Value}{base:Heap}{f e:Addr}{b g:zep}(F:jq K "_law_names" "_law_names" XG f b)(B:QL mg)(a:qM K mg "_law_take" zN ["_law_source_here","_law_many"] e g):qp P w K mg base q5 2 f b ["_law_source_here","_law_many"] N7:=by
 have GT:=pin P w mg base (Z8 a.fn);refine F.okK Mr λH Q E hr h=>?_;obtain⟨d,m,n,b,t,rfl,hd,_,q⟩:=h;refine⟨_,qd (YV 2 qv)
  (qd (qy 3 (ZT PySem.F.plainAttrs_str PySem.F.slot_str_join PySem.F.type_str_join Al qv (jr
   (jP (N':=["_law_k","_law_letters","_law_source_here"]) (ix:=[none,some 2,some 0])
    (jW (by rfl) B.rng (jc qh))
    (λ_ _ _ fp _=>⟨qF 0,j2,
     qD RX (jv 1) (qE a GT (qV (jv 2) qh))⟩)) jB)))
  (qd (qy 4 (Q4 KQ (jv 3) JK (JJ (qN Zm (qE a GT (qV (jv 0) qh)) (qE a GT (qV (jv 0) qh))))))
  (qd (qy 5 (qE a GT (qV (jv 0) qh)))
  (qd (qy 6 (qD jj (qW (jr qh (ja5 qh qh qh qh qh))) (qE a GT (qV (jv 0) qh))))
  (qd (qy 7 (qW jB))
  (qd (qX (jW (by rfl) B.rng (jc (jv 1))) (qF 8)
   (qd (qy 9 (Q4 KQ (jv 3) JK (JJ (qE a GT (qV (jv 0) (qN C2 qh (qx Zv (by rfl) B.len boot_len (jc (jv 4)))))))))
   (qe (q4 (ZT zat zaY zaZ QT (jv 7) (jr
    (qN zy (qN zy (jv 4) (qD RX (jv 2) (qN Zn (qN QR (jv 5) (qN Zm (jv 6) (jv 8))) qh))) (jv 9)) jB))))))
  (qe (qo (jv 7))))))))),?_⟩
 refine⟨rfl,7,rfl,by decide,by decide,λD j=>?_⟩;have l:D≠d:=nq hd j;refine Zb (λi x e=>∃(v:Option V) (o p:Int) (a:List Nat),x=[v,some (.str xO),some (.ref d)]/\e d=some (.dK (src o b p))/\e D=some (.lst ((a.map λk=>(⟨#[k]⟩:Str)).map V.str))/\a.length=i/\a.all j9=true/\Fr H d e)
  ⟨none,n,t,[],rfl,qt hd j,qc,rfl,rfl,Fr.refl.new j⟩ ?_ ?_
 ·rintro i x e hi ⟨v,o,p,a,rfl,J,r,y,L,fr⟩;refine⟨_,rfl,_,rfl,d,26,o,b,p,rfl,J,by decide,by decide,λg O T U Y=>⟨xO,g,_,rfl,rfl,xN,NB U Y,_,(by rw[qf l];exact r),?_,?_⟩⟩
  ·rw[tc,tc,y];exact ql (by omega)
  ·refine⟨_,O,T,a++[97+g.toNat],rfl,?_,?_,?_,?_,?_⟩
   ·rw[qf (Ne.symm l)];exact qc
   ·rw[tA,tA];exact qc
   ·rw[tx,y];rfl
   ·rw[zdC,L];simp [Ve U Y]
   ·exact(fr.at_d).own j
 rintro x H1 ⟨v,n1,j,a,rfl,l,r,C,ac,ai⟩;have C:a.length=7:=C;refine⟨zem "",D,_,rfl,rfl,.of r,?_,?_⟩
 ·have u:((a.map λk=>(⟨#[k]⟩:Str)).map (·.length))=(a.map λk=>(⟨#[k]⟩:Str)).map λ_=>1:=by
   refine zbH λz r=>?_;obtain⟨c,_,rfl⟩:=tz.mp r;rfl
  have e2:(zem "").length=0:=by decide+kernel
  rw[u,e2,UF,tc,C];decide
 generalize hw:Txt.join (zem "") (a.map λk=>(⟨#[k]⟩:Str))=u;have hW:u.cps.toList=a:=by rw[<-hw];exact DO a
 have ao:u.length=7:=by
  show u.cps.size=7;rw[<-zaE,hW,C]
 refine⟨_,rfl,_,rfl,d,2,n1,b,j,rfl,l,by decide,by decide,λj n2 l _ _=>⟨_,rfl,d,5,n2,b,l,rfl,qc,by decide,by decide,λr3 O T _ _=>?_⟩⟩;rw[jT];have e4:∃l:Nat,j*r3=(l:Int)/\l<=4:=by
  have h2:j=0\/j=1:=by omega
  rcases h2 with rfl | rfl
  ·exact⟨0,by omega,by omega⟩
  ·exact⟨r3.toNat,by omega,by omega⟩
 obtain⟨l,ej,_⟩:=e4;refine⟨_,_,rfl,rfl,.inl ⟨by omega,by omega⟩,_,rfl,u,j*r3,rfl,rfl,rfl,by omega,?_⟩;rw[ej];generalize L:Txt.slice u none (some (l:Int))=j;have hA:j.cps.toList=a.take l:=by rw[<-L,XC,hW]
 have ae:j.length=l:=by
  show j.cps.size=l;rw[<-zaE,hA,tL,C];omega
 refine⟨_,rfl,d,26,O,b,T,rfl,qc,by decide,by decide,λf L T _ f1=>?_⟩;rw[jT];refine⟨sz,λC hp=>?_⟩;have af:C≠d:=nq qc hp;refine⟨_,rfl,d,6,L,b,T,rfl,(by rw[qf (Ne.symm af)];exact qc),by decide,by decide,λr5 n5 O aj ak=>?_⟩;obtain⟨st,al,am⟩:=Co aj ak;refine⟨C,_,r5,.int st,rfl,rfl,.of ((qf af)▸qc),am,?_⟩;have aa:Fr H d (upd (upd (upd H1 d (.dK (src L b T))) C (.lst [V.int 1,V.int 3,V.int 5,V.int 7,V.int 9,V.int 11])) d (.dK (src n5 b O))):=(ai.at_d.new hp).at_d;generalize an:upd (upd (upd H1 d (.dK (src L b T))) C (.lst [V.int 1,V.int 3,V.int 5,V.int 7,V.int 9,V.int 11])) d (.dK (src n5 b O))=C at aa;have T:C d=some (.dK (src n5 b O)):=an▸qc;refine⟨sz,λL y=>⟨_,rfl,m,rfl,by omega,by omega,?_⟩⟩;have ag:=aa.fresh T y;have ab:L≠d:=nq T y;refine Jj (λi x e=>∃(v1 v2:Option V) (o p:Int) (C:List Str),x=[some (.ref d),some (.int m),some (.str xO),some (.str u),some (.str j),some (.int f),some (.int st),some (.ref L),v1,v2]/\
  e d=some (.dK (src o b p))/\e L=some (.lst (C.map V.str))/\C.length=i/\JP (a.take l) f st C/\Fr H d e)
  ⟨none,none,n5,O,[],rfl,qt T y,qc,rfl,λl z r=>(nomatch r),aa.new y⟩ ?_ ?_
 ·rintro i x e hi ⟨v1,v2,o,p,C,rfl,J,y,r,O,fr⟩;rw[zbM];refine⟨_,rfl,_,rfl,_,rfl,j,rfl,(by rw[ae];exact zab (ql (by omega))),_,_,rfl,rfl,d,8 - (j.length:Int),o,b,p,rfl,J,by omega,by omega,λg n6 T U Y=>?_⟩;have U:g=((g.toNat:Nat):Int):=by omega
  refine⟨_,rfl,u,g,rfl,rfl,rfl,by omega,?_⟩;generalize Y:Txt.slice u none (some g)=b;have u:b.cps.toList=a.take g.toNat:=by rw[<-Y,U,XC,hW];rfl
  have U:b.length<=g.toNat:=by
   show b.cps.size<=g.toNat;rw[<-zaE,u,tL];omega
  refine⟨_,rfl,.inl ⟨rfl,_,.of (by rw[qf ab];exact y)⟩,_,rfl,_,rfl,_,rfl,_,rfl,_,rfl,_,_,rfl,rfl,.inl ⟨by omega,by omega⟩,_,_,rfl,rfl,_,_,rfl,rfl,(by show (0:Int) < 26;decide),?_⟩;refine⟨xO,_,_,rfl,rfl,xN,NB (zbT _ (by decide)) (zbD _ (by decide)),?_⟩;have U:97+((f+st*(i:Int)) % 26).toNat=uK f st i:=rfl;rw[U];have U:(j++(⟨#[uK f st i]⟩:Str)).length=l+1:=by
   show (j++(⟨#[uK f st i]⟩:Str)).cps.size=_;rw[Str.cps_append,Array.size_append];show j.length+1=_;rw[ae]
  refine⟨_,_,rfl,rfl,zab (ql (by show j.length+1<=1000;omega)),_,rfl,_,_,rfl,rfl,zab (ql (by rw[U];omega)),?_⟩;refine⟨L,_,_,rfl,rfl,(by rw[qf ab];exact y),(by rw[tc,r];exact ql (by omega)),?_⟩;refine⟨_,_,n6,T,C++[j++(⟨#[uK f st i]⟩:Str)++b],rfl,?_,?_,?_,?_,?_⟩
  ·rw[qf (Ne.symm ab)];exact qc
  ·rw[tA];exact qc
  ·rw[tx,r];rfl
  ·refine O.snoc (B:=a.take g.toNat) ?_ (vS ac _) ?_
   ·rw[Str.cps_append,Str.cps_append,zci,zci,hA,u,r]
   ·rw[tL,tL];omega
  ·exact fr.at_d.own ag
 ·rintro x e ⟨v1,v2,o,p,C,rfl,J,y,r,O,fr⟩;exact⟨_,rfl,q L C o p e ag y r (O.names (vS ac _)) (O.nodup al (by omega)) J fr⟩
open PyProof.Rows hiding K lo
def kY(t:TT)(a:L2.St)(H:Hp):Prop:=∀Q:Bool->Hp->Prop,(∀b,Q b H)->t a H Q
def kY.and(h:kY t a H)(k:kY u a H):kY (EK t u) a H:=λQ q=>h _ λb=>by
 cases b
 ·exact jo (q false)
 ·exact jX (k _ q)
def kY.or(h:kY t a H)(k:kY u a H):kY (tOr t u) a H:=λQ q=>h _ λb=>by
 cases b
 ·exact jo (k _ q)
 ·exact jX (q true)
def R4{e:TS}{D:QN}(G:Hp->Prop)(h:G d)(f:kY g a d)(hp:∀D:QN,(∀H',G H'->D.nx a H')->e D a d)(k:∀H',G H'->D.nx a H'):UC g e UB D a d:=
 f _ λb=>by
  cases b
  ·exact jo (k _ h)
  ·exact jX (hp D k)
def Xm{d u:TS}{D:QN}(G:Hp->Prop)(h:G b)(e:kY f a b)(hp:∀D:QN,(∀H',G H'->D.nx a H')->d D a b)(k:∀H',G H'->u D a H'):uY (UC f d UB) u D a b:=R4 G h e hp k
def Wh{a:L2.St}{Q:L2.St->Hp->Prop}(h:Q (a.set i (some v)) H):Qp i v a H Q:=h
abbrev up(k:Nat×Nat):Int×Int:=((k.1:Int),(k.2:Int))
def DC(a b:Nat×Nat):Prop:=a.1 < b.1\/(a.1=b.1/\a.2 < b.2)
abbrev YF(a:List (Nat×Nat)):List (List qZ):=a.map λk=>YS (up k)
def wz(h:YS (up a)=YS (up b)):a=b:=by
 unfold YS at h;simp only[List.cons.injEq,Sum.inl.injEq,and_true]at h;exact Prod.ext (by have:=h.1;omega) (by have:=h.2;omega)
structure ZC(m i j:Nat)(ks:List (Nat×Nat)):Prop where
 ord:ks.Pairwise DC
 lt:∀x∈ks,x.2 < m/\(x.1 < i\/(x.1=i/\x.2 < j))
 len:ks.length<=i*m+j
def ZC.more(h:ZC m i j a):ZC m i (j+1) a:=⟨h.ord,λx a=>by have:=h.lt x a;omega,by have:=h.len;omega⟩
def ZC.snoc(h:ZC m i j e)(f:j < m):ZC m i (j+1) (e++[(i,j)]):=by
 refine⟨zdL.mpr ⟨h.ord,zcw _ _,λa g b l=>?_⟩,λx d=>?_,?_⟩
 ·rw[tM.mp l];have:=h.lt a g;unfold DC;omega
 ·rcases tQ.mp d with d | d
  ·have:=h.lt x d;omega
  ·rw[tM.mp d];exact⟨f,.inr ⟨rfl,zaF _⟩⟩
 ·rw[tx];have:=h.len;show e.length+1<=_;omega
def ZC.row(h:ZC m i m a):ZC m (i+1) 0 a:=⟨h.ord,λx a=>by have:=h.lt x a;omega,by have:=h.len;rw[Nat.succ_mul];omega⟩
inductive Eh(m i j:Nat)(kvs:List (List qZ×V)):Prop
 | mk (ks:_):ZC m i j ks->((kvs.map (·.1)=YF ks\/kvs.map (·.1)=YF (ks++[(i,j)])))->Eh m i j kvs
def xL(a:List (List qZ×V))(k:List qZ):((a.any λkv=>decide (kv.1=k))=true)↔k∈a.map (·.1):=by
 rw[zbn,tz];simp
def Ao{a:List (List qZ×V)}(v:V)(h:k∈a.map (·.1)):(Qd a k v).map (·.1)=a.map (·.1):=by
 unfold Qd;rw[if_pos ((xL a k).mpr h),zaz];refine zbH λx _=>?_;show (if x.1=k then (x.1,v) else x).1=x.1;split<;>rfl
def RL{a:List (List qZ×V)}(v:V)(h:¬k∈a.map (·.1)):(Qd a k v).map (·.1)=a.map (·.1)++[k]:=by
 unfold Qd;rw[if_neg (λz=>h ((xL a k).mp z)),tA];rfl
def Eh.put(h:Eh m i j a)(v:V):Eh m i j (Qd a (YS (up (i,j))) v):=by
 obtain⟨b,a,h⟩:=h;refine⟨b,a,.inr ?_⟩;rcases h with h | h
 ·rw[RL,h,YF,YF,tA]
  ·rfl
  ·rw[h];intro z;obtain⟨x,b,e⟩:=tz.mp z;have:=a.lt x b;rw[wz e]at this;omega
 ·rw[Ao,h];rw[h];exact tz.mpr ⟨(i,j),by simp,rfl⟩
def Eh.len(h:Eh m i j a):a.length<=i*m+j+1:=by
 obtain⟨_,a,h⟩:=h;have b:=a.len;rcases h with h | h
 ·have:=congrArg zas h;simp only[tc]at this;omega
 ·have:=congrArg zas h;simp only[tc,tx,zax]at this;omega
def Bf(b:i<=m)(a:m<=14):i*m<=196:=t8 (Nat.mul_le_mul (t8 b a) a) (by decide)
def F8(xs:List V):Ye xs none (some 40)=xs.take 40:=by
 unfold Ye;have a:HT.sIx xs.length 0 none=0:=rfl;have b:HT.sIx xs.length xs.length (some 40)=min 40 xs.length:=by
  simp [HT.sIx]
 rw[a,b,zde,zcW];by_cases h:40<=xs.length
 ·rw[zcr h]
 ·rw[zdr (by omega),tv (tp _),tv (by omega)]
def Yj(H:Hp)(ps:List Addr)(a:List (Nat×Nat)):Prop:=ps.length=a.length/\∀(i:Nat) (b:Addr) (k:Nat×Nat),ps[i]?=some b->a[i]?=some k->H b=some (.tup [.int (k.1:Nat),.int (k.2:Nat)])
inductive UZ(vs:List V)(H:Hp)(Q:VK):Prop
 | mk (d:Addr) (m:Nat) (n s t sh lo:Int):vs=[.ref d,.int m,.int sh,.int lo]->H d=some (.dK (src n s t))->(m<=14)->(∀(l:Addr) (ps:List Addr) (ks:List (Nat×Nat)) (n' t':Int) (H':Hp),H l=none->H' l=some (.lst (ps.map V.ref))->Yj H' ps ks->ks.Pairwise DC->(∀x∈ks,x.1 < m/\x.2 < m)->ks.length<=40->H' d=some (.dK (src n' s t'))->Fr H d H'->Q (.ref l) H')->UZ vs H Q
def N8:Sp:=λa H Q _=>UZ a H Q
abbrev Dx:List Str:=["_law_source_here","_law_many","_law_shape","_law_low","_law_pairs","_law_k","_law_j","_law_way"]
abbrev VO:List Str:=["_law_source_here","_law_many","_law_shape","_law_low"]
def Mu:qk Dx VO (qg XH):=jM
def Rl(F:jq K "_law_leads" "_law_leads" XH f j)(B:QL mg)(l:mg "sorted"=none)(g:qM K mg "_law_take" zN ["_law_source_here","_law_many"] o p):qp P w K mg base q5 2 f j VO N8:=by
 refine F.okK Mu λH Q E hr h=>?_;obtain⟨d,m,n,r,t,O,lo,rfl,hd,hm,q⟩:=h;refine⟨_,qd (qy 4 RV)
  (qd (qX (jW (by rfl) B.rng (jc (jv 1))) (qF 5)
   (qe (qX (jW (by rfl) B.rng (jc (jv 1))) (qF 6)
    (qd (qy 7 (qE g (pin P w mg base (Z8 g.fn)) (qV (jv 0) qh)))
    (qd (qA (jN (qj qT (jv 2) qh) (jK (zi (jN (qj Q7 (jv 6) (jv 5)) (jK (qj Q7 (jv 7) qh))).pt (JU (jN (qj GU (jv 6) (jv 5)) (jK (qj Q7 (jv 7) qh))).pt)).pt)).pt
     (qe (jL (jv 4) (qC (qV (jv 5) (jv 6))) Qz)) qr)
    (qd (qA (jN (qj qT (jv 2) qh) (jK (qj Q7 (jv 7) qh))).pt
     (qe (jL (jv 4) (qC (qV (jv 5) (jv 6))) Qz)) qr)
    (qd (qA (jN (qj qT (jv 2) qh) (jK (zi (jN (qj qT (jv 6) (qN Zn (qN QR (jv 5) qh) (jv 1))) (jK (qj Q7 (jv 7) qh))).pt (JU (qj Q7 (jv 7) qh))).pt)).pt
     (qe (jL (jv 4) (qC (qV (jv 5) (jv 6))) Qz)) qr)
    (qd (qA (jN (qj qT (jv 2) qh) (jN (qj Q7 (jv 6) (jv 5)) (jK (zi (qj Q7 (jv 6) (jv 3)) (JU (qj Q7 (jv 7) qh))).pt))).pt
     (qe (jL (jv 4) (qC (qV (jv 5) (jv 6))) Qz)) qr)
    (qe (qA (jN (qj qT (jv 2) qh) (jK (zi (jN (qj Q7 (jv 6) (jv 3)) (jK (qj Q7 (jv 6) (jv 5)))).pt (JU (jN (qj GU (jv 5) (jv 3)) (jK (qj Q7 (jv 7) qh))).pt)).pt)).pt
     (qe (jL (jv 4) (qC (qV (jv 5) (jv 6))) Qz)) qr)))))))))
   )
  (qe (qo (Q4 Z4 (qx (kX rfl) (by rfl) l boot_sorted (jc (jv 4))) JK (JJ qh))))),?_⟩
 intro D T;have ac:D≠d:=nq hd T;refine⟨_,rfl,m,rfl,by omega,by omega,Jj (n:=m) (λi u j=>∃(v1 y z:Option V) (C L:Int) (g:List (List qZ×V)) (l:List (Nat×Nat)),u=[some (.ref d),some (.int m),some (.int O),some (.int lo),some (.ref D),v1,y,z]/\
  j d=some (.dK (src C r L))/\j D=some (.dT g)/\g.map (·.1)=YF l/\ZC m i 0 l/\Fr H d j)
  ⟨none,none,none,n,t,[],[],rfl,qt hd T,qc,rfl,⟨.nil,λx hx=>(nomatch hx),zao _⟩,Fr.refl.new T⟩ ?_ ?_⟩
 ·rintro i u j hi ⟨v1,y,z,C,L,g,l,rfl,U,Y,p,o,fr⟩;rw[zbM];refine⟨_,rfl,m,rfl,by omega,by omega,Jj (λJ u j=>∃(y z:Option V) (C L:Int) (g:List (List qZ×V)) (l:List (Nat×Nat)),u=[some (.ref d),some (.int m),some (.int O),some (.int lo),some (.ref D),some (.int i),y,z]/\
   j d=some (.dK (src C r L))/\j D=some (.dT g)/\g.map (·.1)=YF l/\ZC m i J l/\Fr H d j)
   ⟨_,_,C,L,g,l,rfl,U,Y,p,o,fr⟩ ?_ ?_⟩
  ·rintro J u H2 hj ⟨y,z,n2,t2,g,l,rfl,aa,ab,p,o,fr⟩;rw[zbM];refine⟨_,rfl,d,12,n2,r,t2,rfl,aa,by decide,by decide,λC U Y _ _=>?_⟩;have af:=Bf (zab hi) hm;let G:Hp->Prop:=λj=>∃(g:List (List qZ×V)),j d=some (.dK (src U r Y))/\j D=some (.dT g)/\Eh m i J g/\Fr H d j;have g0:G (upd H2 d (.dK (src U r Y))):=⟨g,qc,((qf ac)▸ab),⟨l,o,.inl p⟩,fr.at_d⟩;have put:∀j,G j->∀E:QN,(∀j,G j->E.nx [some (.ref d),some (.int m),some (.int O),some (.int lo),some (.ref D),some (.int i),some (.int J),some (.int C)] j)->
     By (jg 4) (x4 (jd (jg 5) (jd (jg 6) Q1))) (tC (.bl true)) E [some (.ref d),some (.int m),some (.int O),some (.int lo),some (.ref D),some (.int i),some (.int J),some (.int C)] j:=by
    rintro j ⟨g,C,L,r,O⟩ E k;refine⟨_,rfl,_,rfl,_,rfl,sz,λae j=>⟨D,_,rfl,Jv.t (k:=YS (up (i,J))) (by rw[qf (Ne.symm (λe=>by rw[e,L]at j;cases j))];exact L) qc (ql (by have:=r.len;omega)),?_⟩⟩;refine k _ ⟨_,?_,qc,r.put _,?_⟩
    ·rw[qf (Ne.symm ac),qf (Ne.symm (λe=>by rw[e,C]at j;cases j))];exact C
    ·exact(O.new j).own T
   refine Wh ?_;dsimp only[List.set];refine Xm G g0 ?_ (put _ g0) λ_ g3=>?_
   ·exact kY.and (λQ q=>⟨_,rfl,rfl,_,rfl,q _⟩) (.or (.and (λQ q=>⟨_,rfl,_,rfl,_,_,rfl,rfl,_,rfl,q _⟩) (λQ q=>⟨_,rfl,_,_,rfl,rfl,_,rfl,q _⟩)) (.and (λQ q=>⟨_,rfl,_,rfl,_,_,rfl,rfl,_,rfl,q _⟩) (λQ q=>⟨_,rfl,_,_,rfl,rfl,_,rfl,q _⟩)))
   refine Xm G g3 ?_ (put _ g3) λ_ j=>?_
   ·exact kY.and (λQ q=>⟨_,rfl,rfl,_,rfl,q _⟩) (λQ q=>⟨_,rfl,_,_,rfl,rfl,_,rfl,q _⟩)
   refine Xm G j ?_ (put _ j) λ_ j=>?_
   ·exact kY.and (λQ q=>⟨_,rfl,rfl,_,rfl,q _⟩) (.or (.and (λQ q=>⟨_,rfl,_,rfl,_,_,rfl,rfl,_,rfl,_,_,rfl,rfl,(by show (0:Int) < m;omega),rfl,_,rfl,q _⟩) (λQ q=>⟨_,rfl,_,_,rfl,rfl,_,rfl,q _⟩)) (λQ q=>⟨_,rfl,_,_,rfl,rfl,_,rfl,q _⟩))
   refine Xm G j ?_ (put _ j) λ_ j=>?_
   ·exact kY.and (λQ q=>⟨_,rfl,rfl,_,rfl,q _⟩) (.and (λQ q=>⟨_,rfl,_,rfl,_,_,rfl,rfl,_,rfl,q _⟩) (.or (λQ q=>⟨_,rfl,_,rfl,_,_,rfl,rfl,_,rfl,q _⟩) (λQ q=>⟨_,rfl,_,_,rfl,rfl,_,rfl,q _⟩)))
   refine R4 G j ?_ (put _ j) λ_ j=>?_
   ·exact kY.and (λQ q=>⟨_,rfl,rfl,_,rfl,q _⟩) (.or (.and (λQ q=>⟨_,rfl,_,rfl,_,_,rfl,rfl,_,rfl,q _⟩) (λQ q=>⟨_,rfl,_,rfl,_,_,rfl,rfl,_,rfl,q _⟩)) (.and (λQ q=>⟨_,rfl,_,rfl,_,_,rfl,rfl,_,rfl,q _⟩) (λQ q=>⟨_,rfl,_,_,rfl,rfl,_,rfl,q _⟩)))
   obtain⟨g,C,L,⟨l,o,r⟩,O⟩:=j;rcases r with r | r
   ·exact⟨_,_,U,Y,g,l,rfl,C,L,r,o.more,O⟩
   ·exact⟨_,_,U,Y,g,_,rfl,C,L,r,o.snoc hj,O⟩
  ·rintro u H2 ⟨y,z,n2,t2,g,l,rfl,aa,ab,p,o,fr⟩;exact⟨_,_,_,n2,t2,g,l,rfl,aa,ab,p,o.row,fr⟩
 ·rintro u L ⟨v1,y,z,n1,O,g,l,rfl,J,j,p,o,fr⟩;have r:g.length=l.length:=by simpa using congrArg zas p
  have af:=Bf (tp m) hm;have r:=o.len;refine⟨_,rfl,D,g,l.map up,rfl,j,?_,?_,by omega,λy T r U tup=>?_⟩
  ·rw[p,zaz];rfl
  ·intro i k _ g j;rw[tu]at g j;cases p:l[i]? with
   | none=>rw[p]at g;cases g
   | some a=>
    cases u:l[i+1]? with
    | none=>rw[u]at j;cases j
    | some b=>
     rw[p]at g;rw[u]at j;obtain rfl:=(tF.inj g).symm;obtain rfl:=(tF.inj j).symm;have z:=zaM.mp o.ord i (i+1) (td.mp p).1 (td.mp u).1 (zaF _);rw[(td.mp p).2,(td.mp u).2]at z;unfold DC at z;show X9 _ _;unfold X9;show (a.1:Int) < b.1\/((a.1:Int)=b.1/\(a.2:Int) < b.2);omega
  ·refine⟨40,rfl,y,_,rfl,.of qc,λu p=>?_⟩;rw[F8,<-zdQ];have z:u≠d:=λe=>by
    rw[e,qt J r]at p;cases p
   have z:L u=none:=by
    by_cases e:u=y
    ·rwa [e]
    ·rwa [qf e]at p
   refine q u (T.take 40) (l.take 40) n1 O _ (fr.fresh J z) qc ⟨?_,λi ae k g j=>?_⟩ ?_ ?_ ?_ ?_ ((fr.new r).new p)
   ·rw[tL,tL,U,tc]
   ·have l:i < 40:=by
     have:=(td.mp g).1;rw[tL]at this;omega
    rw[zbp l]at g j;have C:=tup i ae (up k) g (by rw[tu,j];rfl);exact qt (qt C r) p
   ·exact o.ord.sublist (zcy _ _)
   ·intro x hx;have:=o.lt x (zbf hx);omega
   ·rw[tL];omega
   ·exact qt (qt J r) p
open PyProof.Rows hiding K lo
structure qu(rs:List (Str×List Str)):Prop where
 nm:∀r∈rs,jm r.1=true
 nd:(rs.map (·.1)).Nodup
 to:∀r∈rs,∀z∈r.2,z∈rs.map (·.1)
 rd:∀r∈rs,r.2.Nodup
 few:(rs.map λr=>r.2.length).sum<=40
def jS(a:List Str)(j:Nat):Str:=a.getD j ⟨#[]⟩
def Q8{a:List Str}(h:j < a.length):jS a j∈a:=by
 unfold jS;rw[zaq,tj h];exact zbo h
def Z1{a:List Str}(h:j < a.length):a[j]?=some (jS a j):=by
 unfold jS;rw[zaq,tj h];rfl
def ye{a:List Str}(f:a.Nodup)(b:i < a.length)(d:j < a.length)(h:jS a i=jS a j):i=j:=by
 have a:=Z1 b;rw[h,<-(Z1 d),tj b,tj d]at a;have e:=tF.inj a;rcases zaB i j with a | a | a
 ·exact absurd e (zaM.mp f i j b d a)
 ·exact a
 ·exact absurd e.symm (zaM.mp f j i d b a)
def J6{β:Type}{f:α->β}:∀{l:List α},l.Nodup->(∀a∈l,∀b∈l,f a=f b->a=b)->(l.map f).Nodup
 | [],_,_=>zbt
 | a::l,h,k=>by
  rw[tV,zak];rw[zak]at h;refine⟨λz=>?_,J6 h.2 λx hx y hy=>k x (tU _ hx) y (tU _ hy)⟩;obtain⟨b,hb,e⟩:=tz.mp z;have:=k b (tU _ hb) a (tX) e;subst this;exact h.1 hb
def Vz(a:List (Nat×Nat))(k:Nat):List Nat:=(a.filter λx=>decide (x.1=k)).map (·.2)
def x3{d:List (Nat×Nat)}(h:d.Pairwise DC)(k:Nat):(Vz d k).Nodup:=by
 refine zee.mpr (zdn.imp_of_mem (λ{a b} d e f=>?_) (h.sublist (zbk)));have g:=of_decide_eq_true (tP.mp d).2;have d:=of_decide_eq_true (tP.mp e).2;unfold DC at f;omega
def kg{a:List (Nat×Nat)}(h:∀x∈a,x.1 < m/\x.2 < m)(k:Nat):∀j∈Vz a k,j < m:=λj a=>by
 obtain⟨x,b,e⟩:=tz.mp a;have:=(h x (tP.mp b).1).2;omega
def NZ(os:List Nat)(f g:Nat->Nat):(os.map λk=>f k+g k).sum=(os.map f).sum+(os.map g).sum:=by
 induction os with
 | nil=>rfl
 | cons a os b=>
  simp only[tV,zaT,b];omega
def NY{os:List Nat}(h:os.Nodup)(a:Nat):(os.map λk=>if a=k then 1 else 0).sum<=1:=by
 induction os with
 | nil=>exact zao _
 | cons b os d=>
  rw[zak]at h;rw[tV,zaT];by_cases e:a=b
  ·subst e;have z:(os.map λk=>if a=k then 1 else 0)=os.map λ_=>0:=zbH λk f=>by
    rw[if_neg];intro e;subst e;exact h.1 f
   rw[z,if_pos rfl];have:(os.map λ_=>0).sum=0:=by
    clear z d h;induction os with
    | nil=>rfl
    | cons c os d=>rw[tV,zaT,d]
   omega
  ·rw[if_neg e];have:=d h.2;omega
def ym{os:List Nat}(h:os.Nodup):∀a:List (Nat×Nat),(os.map λk=>(Vz a k).length).sum<=a.length
 | []=>by
  have:(os.map λk=>(Vz [] k).length).sum=0:=by
   clear h;induction os with
   | nil=>rfl
   | cons c os b=>rw[tV,zaT,b];rfl
  omega
 | x::a=>by
  have e:(os.map λk=>(Vz (x::a) k).length)=os.map λk=>(if x.1=k then 1 else 0)+(Vz a k).length:=zbH λk _=>by
   unfold Vz;rw[zbe];by_cases z:x.1=k
   ·rw[if_pos (decide_eq_true z),if_pos z];simp only[tV,zae];omega
   ·rw[if_neg (by simpa using z),if_neg z,zec]
  rw[e,NZ,zae];have:=NY h x.1;have:=ym h a;omega
def J3(a:List Str)(b:List (Nat×Nat))(d:Bool)(k:Nat):Str×List Str:=
 (jS a k,if d=true then ((Vz b k).map (jS a)).reverse else (Vz b k).map (jS a))
def wq:z∈(J3 a b d k).2↔z∈(Vz b k).map (jS a):=by
 unfold J3;cases d
 ·rw[if_neg tK]
 ·rw[if_pos rfl,zcK]
def wt:(J3 d a b k).2.length=(Vz a k).length:=by
 unfold J3;cases b
 ·rw[if_neg tK,tc]
 ·rw[if_pos rfl,zch,tc]
structure vU(m:Nat)(os:List Nat):Prop where
 len:os.length=m
 nd:os.Nodup
 lt:∀k∈os,k < m
 all:∀j,j < m->j∈os
def uv{f:List Str}{d:List (Nat×Nat)}{os:List Nat}{m:Nat}(i:Bool)(j:f.length=m)(hN:∀z∈f,jm z=true)(hd:f.Nodup)(C:d.Pairwise DC)(o:∀x∈d,x.1 < m/\x.2 < m)(D:d.length<=40)(g:vU m os):
  qu (os.map (J3 f d i)):=by
 have y:(os.map (J3 f d i)).map (·.1)=os.map (jS f):=by rw[zaz];rfl
 refine⟨λl hr=>?_,?_,λl hr z B=>?_,λl hr=>?_,?_⟩
 ·obtain⟨k,p,rfl⟩:=tz.mp hr;exact hN _ (Q8 (by rw[j];exact g.lt k p))
 ·rw[y];exact J6 g.nd (λa q b r e=>ye hd (by rw[j];exact g.lt a q) (by rw[j];exact g.lt b r) e)
 ·obtain⟨k,p,rfl⟩:=tz.mp hr;rw[wq]at B;obtain⟨u,H,rfl⟩:=tz.mp B;rw[y];exact tz.mpr ⟨u,g.all u (kg o k u H),rfl⟩
 ·obtain⟨k,p,rfl⟩:=tz.mp hr;have p:=J6 (x3 C k) λa q b r e=>ye hd (by rw[j];exact kg o k a q) (by rw[j];exact kg o k b r) e;show (if i=true then _ else _:List Str).Nodup;cases i
  ·rwa [if_neg tK]
  ·rw[if_pos rfl];exact zdE.mpr (p.imp λh=>Ne.symm h)
 ·have j:((os.map (J3 f d i)).map λl=>l.2.length)=os.map λk=>(Vz d k).length:=by
   rw[zaz];exact zbH λk _=>wt
  rw[j];exact t8 (ym g.nd d) D
def GL(m:Nat):vU m (t9 m):=⟨zal,zcL,λk h=>zaC.mp h,λ_ h=>zaC.mpr h⟩
def kA(m:Nat):vU m (Yd m):=⟨by rw[Yd,zch,zal],zdE.mpr (zcL.imp λh=>Ne.symm h),λk h=>zaC.mp (zcK.mp h),λ_ h=>zcK.mpr (zaC.mpr h)⟩
def YW(m:Nat):List Nat:=(t9 m).map λk=>k*5 % m
def uB:∀m,m < 15->(YW m).Nodup->∀j,j < m->j∈YW m:=by decide+kernel
def vo(b:m<=14)(a:0 < m)(h:(YW m).Nodup):vU m (YW m):=
 ⟨by rw[YW,tc,zal],h,λk b=>by obtain⟨x,_,rfl⟩:=tz.mp b;exact Nat.mod_lt _ a,uB m (by omega) h⟩
def Vc(val:Nat->Int):∀i,(firstMet val i).length=i->((t9 i).map val).Nodup
 | 0,_=>zbt
 | i+1,h=>by
  have j:=firstMet_length_le val i;rw[firstMet_succ]at h;unfold step_dedup at h;split at h
  ·omega
  ·rename_i z;rw[tx,zax]at h;rw[zbQ,tA,zcB];refine⟨Vc val i (by omega),by simp,λa d b f e=>?_⟩;have g:b=val i:=by simpa using f
   subst g;subst e;refine z ?_;rw[firstMet_any val i (val i),zbn];exact⟨_,d,by simp⟩
def DA{os:List Nat}(h:¬(firstMet (λi=>(os.map λk=>((k:Nat):Int)).getD i 0) (os.map λk=>((k:Nat):Int)).length).length < os.length):os.Nodup:=by
 have a:=firstMet_length_le (λi=>(os.map λk=>((k:Nat):Int)).getD i 0) (os.map λk=>((k:Nat):Int)).length;have b:=Vc (λi=>(os.map λk=>((k:Nat):Int)).getD i 0) (os.map λk=>((k:Nat):Int)).length (by rw[tc]at a h ⊢;omega);have e:(t9 (os.map λk=>((k:Nat):Int)).length).map (λi=>(os.map λk=>((k:Nat):Int)).getD i 0)=os.map λk=>((k:Nat):Int):=by
  refine zdk λi=>?_;rw[tu];by_cases a:i < (os.map λk=>((k:Nat):Int)).length
  ·rw[zbG a,tj a];simp only[zcq,zaq,tj a,Option.getD_some]
  ·rw[zbl (by rw[zal];omega),zbl (by omega)];rfl
 rw[e]at b;refine(zee.mp b).imp λh e=>h (by rw[e])
open PyProof.Rows hiding K lo
def jR(H:Hp)(ps:List Addr)(rs:List (Str×List Str)):Prop:=ps.length=rs.length/\∀(i:Nat) (b:Addr) (a:Str×List Str),ps[i]?=some b->rs[i]?=some a->∃q,H b=some (.tup [.str a.1,.ref q])/\H q=some (.tup (a.2.map V.str))
inductive yw(vs:List V)(H:Hp)(Q:VK):Prop
 | mk (d:Addr) (mo:Nat) (n s t:Int):vs=[.ref d,.int mo]->H d=some (.dK (src n s t))->(0 < mo)->(mo<=14)->(∀(l:Addr) (ps:List Addr) (rs:List (Str×List Str)) (n' t':Int) (H':Hp),H l=none->H' l=some (.lst (ps.map V.ref))->jR H' ps rs->qu rs->0 < rs.length->rs.length<=mo->H' d=some (.dK (src n' s t'))->Fr H d H'->Q (.ref l) H')->yw vs H Q
def Ce:Sp:=λa H Q _=>yw a H Q
structure QB(mg:Str->Option Value):Prop where
 srt:mg "sorted"=none
 lst:mg "list"=none
 rev:mg "reversed"=none
 set:mg "set"=none
 tup:mg "tuple"=none
def jR.mono(h:jR H ps rs)(s:Same H H'):jR H' ps rs:=⟨h.1,λi d e f g=>let ⟨q,a,b⟩:=h.2 i d e f g;⟨q,s _ _ a,s _ _ b⟩⟩
def Yj.mono(h:Yj H ps a)(s:Same H H'):Yj H' ps a:=⟨h.1,λi a k b d=>s _ _ (h.2 i a k b d)⟩
def Fr.same(h:Fr H d H')(s:Same H' a):Fr H d a:=λb u a e=>s _ _ (h b u a e)
def jR.snoc(h:jR H ps rs)(hp:H p=some (.tup [.str r.1,.ref q]))(e:H q=some (.tup (r.2.map V.str))):jR H (ps++[p]) (rs++[r]):=by
 refine⟨by rw[tx,tx,h.1];rfl,λi f g a b=>?_⟩;by_cases d:i < ps.length
 ·rw[t7 d]at a;rw[t7 (h.1▸d)]at b;exact h.2 i f g a b
 ·have d:i=ps.length:=by
   have:=(td.mp a).1;rw[tx,zax]at this;omega
  subst d;rw[tY (tp _),zbO]at a;rw[h.1,tY (tp _),zbO]at b;obtain rfl:=(tF.inj a).symm;obtain rfl:=(tF.inj b).symm;exact⟨q,hp,e⟩
def jR.upd_lst(h:jR H ps rs)(d:H l=some (.lst xs)):jR (upd H l o) ps rs:=by
 refine⟨h.1,λi f g j m=>?_⟩;obtain⟨q,a,b⟩:=h.2 i f g j m;refine⟨q,?_,?_⟩
 ·rwa [qf (λe=>by rw[e,d]at a;cases a)]
 ·rwa [qf (λe=>by rw[e,d]at b;cases b)]
def kM{f:TT}{g u:TS}(R:Bool->Hp->Prop)(G:L2.St->Hp->Prop)(j:∀Q:Bool->Hp->Prop,(∀b a,R b a->Q b a)->f e l Q)(m:∀a,R true a->∀i:QN,(∀d H',G d H'->i.nx d H')->g i e a)(o:∀a,R false a->G e a)(k:∀d H',G d H'->u D d H'):uY (UC f g UB) u D e l:=
 j _ λb a a=>by
  cases b
  ·exact jo (k _ _ (o _ a))
  ·exact jX (m _ a _ k)
def A3{a:List Str}(h:j < a.length):Vw (a.map V.str) ((j:Nat):Int)=some (V.str (jS a j)):=QJ (by rw[tu,Z1 h];rfl)
def uV{a:List (Nat×Nat)}{j:Nat}{x:Nat×Nat}(k:Nat)(h:a[j]?=some x):Vz (a.take (j+1)) k=Vz (a.take j) k++if x.1=k then [x.2] else []:=by
 unfold Vz;rw[tN,h,zay,tA];congr 1;by_cases e:x.1=k
 ·rw[if_pos e];simp [e]
 ·rw[if_neg e];simp [e]
abbrev oL(os:List Nat):List V:=os.map λk=>V.int ((k:Nat):Int)
def Ah(os:List Nat):oL os=(os.map λk=>((k:Nat):Int)).map V.int:=by rw[zaz];rfl
abbrev FG:List Str:=["_law_source_here","_law_most","_law_many","_law_names_here","_law_shape","_law_pairs","_law_about","_law_order","_law_rows_here","_law_k","_law_leads_here"]
def Cu:qk FG ["_law_source_here","_law_most"] (qg yX):=jM
abbrev IW:List Str:=["_law_one","_law_j","_law_k","_law_names_here"]
def xI:IW.Nodup:=by decide+kernel
def M4(F:jq K "_law_rows" "_law_rows" yX f g)(B:QL mg)(G:QB mg)(j:qM K mg "_law_take" zN ["_law_source_here","_law_many"] o p)(hN:qM K mg "_law_names" XG ["_law_source_here","_law_many"] r C)(l:qM K mg "_law_leads" XH VO J L):qp P w K mg base q5 3 f g ["_law_source_here","_law_most"] Ce:=by
 have GT:=pin P w mg base (Z8 j.fn);refine F.okK Cu λH Q E hr h=>?_;obtain⟨d,mo,n,g,t,rfl,hd,_,_,q⟩:=h;have o:ji 1 _:=hr.mono (by decide);refine⟨_,qd (YV 2 (qN QR qh (qE j GT (qV (jv 0) (jv 1)))))
  (qd (YV 3 (qE hN (pin P w mg base (Rg hN.fn B j)) (qV (jv 0) (jv 2))))
  (qd (qy 4 (qE j GT (qV (jv 0) qh)))
  (qd (qy 5 (qE l (pin P w mg base (Rl l.fn B G.srt j)) (BS (jv 0) (jv 2) (jv 4) (qN QR qh (qE j GT (qV (jv 0) qh))))))
  (qd (qy 6 (Qc qT (qE j GT (qV (jv 0) qh)) qh))
  (qd (qy 7 (FY rfl (by rfl) G.lst (by rfl) B.rng (jv 2)))
  (qd (qA (jA (jv 6)) (qe (QH (i:=7) (N':=["_law_k","_law_many"]) (ix:=[none,some 2]) (jW (by rfl) B.rng (jc (jv 2)))
    (λl p j fp r=>⟨qF 0,j2,qN Zn (qN Zm (jv 0) qh) (jv 1)⟩))) qr)
  (qd (qA (qj Q7 (qx vQ (by rfl) B.len boot_len (jc (jF (uF rfl) (by rfl) G.set boot_set (jc (jv 7))))) (jv 2))
    (qe (qy 7 (DT rfl (by rfl) G.lst (by rfl) G.rev (by rfl) B.rng (jv 2)))) qr)
  (qd (qy 8 (qW jB))
  (qd (qX (qB (jv 7)) (qF 9)
   (qd (QH (i:=10) (ix:=[none,none,some 9,some 3]) (g:=AF K 2 (Wi (Qp 0) (Wi (Qp 1) AG))) (te:=J0 (CU K) (jg 3) (jg 1)) (qB (jv 5))
     (λl p j fp r=>⟨JV rfl (jh (za xI rfl (Or.inl rfl)) (jh (za xI rfl (Or.inl rfl)) QX)),
      jt (qj qT (jv 0) (jv 2)),qD jj (jv 3) (jv 1)⟩))
   (qd (qA (jA (jv 6)) (qe (q4 (RW zat PySem.F.slot_list_reverse PySem.F.type_list_reverse kC (jv 10)))) qr)
   (qe (q4 (ZT zat zaY zaZ QT (jv 8) (jr
    (qC (qV (qD jj (jv 3) (jv 9)) (jF WJ (by rfl) G.tup boot_tuple (jc (jv 10))))) jB)))))))
  (qe (qo (jv 8)))))))))))),?_⟩
 refine⟨_,rfl,_,rfl,d,mo,n,g,t,rfl,hd,by omega,by omega,λU n1 l _ o=>⟨_,_,rfl,rfl,?_⟩⟩;obtain⟨m,em,m0,m1⟩:∃m:Nat,1+U=(m:Int)/\0 < m/\m<=mo:=⟨(1+U).toNat,by omega,by omega,by omega⟩;rw[congrArg V.int em];refine⟨_,rfl,_,rfl,d,m,n1,g,l,rfl,qc,by omega,λp r n2 l j L ar zl zn as j au=>⟨_,rfl,d,5,n2,g,l,rfl,j,by decide,by decide,λsh j l _ _=>⟨_,rfl,_,rfl,_,rfl,_,rfl,d,5,j,g,l,rfl,qc,by decide,by decide,λj l o _ _=>⟨_,_,rfl,rfl,d,m,l,g,o,sh,1+j,rfl,qc,by omega,λY ps l n5 t5 j C av J aw ak ay O T=>?_⟩⟩⟩⟩;have o:p≠d:=nq qc L;refine⟨_,rfl,d,2,n5,g,t5,rfl,O,by decide,by decide,λab n6 L _ _=>⟨rfl,?_⟩⟩;generalize decide (V.int ab=V.int 1)=b;have af:Fr H d (upd j d (.dK (src n6 g L))):=((Fr.refl.at_d.trans au).at_d.at_d.trans T).at_d;have ag:upd j d (.dK (src n6 g L)) d=some (.dK (src n6 g L)):=qc;have al:upd j d (.dK (src n6 g L)) p=some (.lst (r.map V.str)):=by rw[qf o];exact(T _ _ (by rw[qf o,qf o];exact ar) o)
 have ah:upd j d (.dK (src n6 g L)) Y=some (.lst (ps.map V.ref)):=by rw[qf (λe=>by rw[e,qc]at C;cases C)];exact av
 have am:Yj (upd j d (.dK (src n6 g L))) ps l:=⟨J.1,λi o k e1 C=>by
  have h1:=J.2 i o k e1 C;have:o≠d:=nq O h1;rwa [qf this]⟩
 generalize upd j d (.dK (src n6 g L))=O at af ag al ah am;refine⟨_,rfl,m,rfl,by omega,λlo J=>Wh ?_⟩;dsimp only[List.set];refine kM (λc g=>c=b/\g=upd O lo (.lst (A6 m))) (λj g=>∃lo os,j=[some (.ref d),some (.int mo),some (.int m),some (.ref p),some (.int sh),some (.ref Y),some (.bl b),some (.ref lo),none,none,none]/\Same O g/\O lo=none/\g lo=some (.lst (oL os))/\(os=t9 m\/os=YW m))
  (λQ k=>⟨_,rfl,b,rfl,k _ _ ⟨rfl,rfl⟩⟩) ?_ ?_ ?_
 ·rintro H1 ⟨rfl,rfl⟩ D' k;refine⟨_,rfl,m,rfl,by omega,by omega,λD C=>Zb (λi j g=>∃v:Option V,j=[v,some (.int m)]/\g=upd (upd O lo (.lst (A6 m))) D (.lst (oL ((t9 i).map λk=>k*5 % m)))) ⟨none,rfl,rfl⟩ ?_ ?_⟩
  ·rintro i j g T ⟨v,rfl,rfl⟩;rw[zbM];have T:i < m:=by simpa using T
   refine⟨_,rfl,_,_,rfl,rfl,.inl ⟨by omega,by omega⟩,_,rfl,_,_,rfl,rfl,(by show (0:Int) < m;omega),_,qc,?_,_,rfl,?_⟩
   ·rw[tc,tc,zal];exact ql (by omega)
   ·rw[jT,zbQ,tA,oL,oL,tA];rfl
  ·rintro j g ⟨v,rfl,rfl⟩;have T:O D=none:=by
    by_cases e:D=lo
    ·rwa [e]
    ·rwa [qf e]at C
   exact k _ _ ⟨D,YW m,rfl,λa u h=>qt (qt h J) C,T,qc,.inr rfl⟩
 ·rintro H1 ⟨rfl,rfl⟩;exact⟨lo,t9 m,rfl,qi J,J,qc,.inl rfl⟩
 rintro j T ⟨lo,os,rfl,s7,_,an,ao⟩;have J:os.length=m:=by
  rcases ao with rfl | rfl
  ·exact zal
  ·rw[YW,tc,zal]
 refine kM (λc g=>Same T g/\(c=true\/os.Nodup)) (λj g=>∃lo os,j=[some (.ref d),some (.int mo),some (.int m),some (.ref p),some (.int sh),some (.ref Y),some (.bl b),some (.ref lo),none,none,none]/\Same O g/\g lo=some (.lst (oL os))/\vU m os)
  ?_ ?_ ?_ ?_
 ·refine λQ k=>⟨_,rfl,lo,os.map (λk=>((k:Nat):Int)),rfl,.of (by rw[<-Ah];exact an),by rw[tc,J];omega,λT S hl=>?_⟩;refine⟨T,S,_,rfl,qc,_,rfl,_,_,rfl,rfl,_,rfl,k _ _ ⟨qi hl,?_⟩⟩;by_cases h:(((firstMet (λi=>(os.map λk=>((k:Nat):Int)).getD i 0) (os.map λk=>((k:Nat):Int)).length).length:Nat):Int) < (m:Int)
  ·exact .inl (decide_eq_true h)
  ·exact .inr (DA (by rw[J];omega))
 ·rintro H1 ⟨J,_⟩ D' k;exact⟨_,rfl,m,rfl,by omega,λT hl=>k _ _ ⟨T,Yd m,rfl,λa u h=>qt (J _ _ (s7 _ _ h)) hl,qc,kA m⟩⟩
 ·rintro H1 ⟨J,h⟩;have h:=h.resolve_left (by decide);refine⟨lo,os,rfl,λa u h=>J _ _ (s7 _ _ h),J _ _ an,?_⟩;rcases ao with rfl | rfl
  ·exact GL m
  ·exact vo (by omega) m0 h
 rintro j H8 ⟨lo,os,rfl,s8,J,ho⟩;refine⟨sz,λT aa=>⟨_,rfl,lo,rfl,⟨_,.of (qt J aa)⟩,je (xs:=oL os) (λi j g=>∃(v9 gW:Option V) (qs:List Addr),j=[some (.ref d),some (.int mo),some (.int m),some (.ref p),some (.int sh),some (.ref Y),some (.bl b),some (.ref lo),some (.ref T),v9,gW]/\
  Same H8 g/\g T=some (.lst (qs.map V.ref))/\jR g qs ((os.take i).map (J3 r l b)))
  ⟨none,none,[],rfl,qi aa,qc,rfl,λi o U e=>(nomatch e)⟩ (λi j g _ ⟨_,_,_,_,s,_⟩=>.of (s _ _ J)) ?_ ?_⟩⟩
 ·rintro i x j g J ⟨v9,gW,qs,rfl,U,ac,f9⟩;have az:i < os.length:=by
   have:=(td.mp J).1;rwa [tc]at this
  obtain⟨k,hk⟩:∃k,os[i]?=some k:=⟨_,tj az⟩;have ex:x=V.int ((k:Nat):Int):=by
   rw[tu,hk]at J;exact(tF.inj J).symm
  subst ex;refine⟨_,rfl,Y,rfl,⟨_,.of (U _ _ (s8 _ _ ah))⟩,λD C=>?_⟩;have ap:=U _ _ (s8 _ _ al);have ai:=am.mono λa u h=>U _ _ (s8 _ _ h);refine j7 (K:=K) (a:=Y) (xs:=ps.map V.ref) (λJ ae aA=>∃v0 v1:Option V,ae=[v0,v1,some (.int k),some (.ref p)]/\aA=upd g D (.lst (((Vz (l.take J) k).map (jS r)).map V.str))) ⟨none,none,rfl,rfl⟩
   (λJ ae G _ ⟨_,_,_,e⟩=>e▸.of (qt (U _ _ (s8 _ _ ah)) C)) ?_ ?_
  ·rintro J y ae G hy ⟨v0,v1,rfl,rfl⟩;have hj:J < ps.length:=by
    have:=(td.mp hy).1;rwa [tc]at this
   obtain⟨o,hp⟩:∃o,ps[J]?=some o:=⟨_,tj hj⟩;obtain⟨kk,aj⟩:∃o,l[J]?=some o:=⟨_,tj (ai.1▸hj)⟩;have ey:y=V.ref o:=by
    rw[tu,hp]at hy;exact(tF.inj hy).symm
   subst ey;refine⟨o,_,rfl,.of (qt (ai.2 J o kk hp aj) C),rfl,_,_,rfl,_,_,rfl,rfl,_,rfl,_,rfl,rfl,_,rfl,?_⟩;rw[uV k aj];by_cases e:kk.1=k
   ·have e1:decide (V.int ((kk.1:Nat):Int)=V.int ((k:Nat):Int))=true:=decide_eq_true (by rw[e]);rw[e1,if_pos e];refine jX ⟨_,rfl,_,rfl,p,_,_,_,rfl,rfl,.of (qt ap C),A3 (by rw[zl];exact(ak kk (tW aj)).2),_,qc,?_,_,_,rfl,?_⟩
    ·rw[tc,tc];refine ql ?_;have h1:(Vz (l.take J) k).length<=(l.take J).length:=by
      unfold Vz;rw[tc];exact zam _ _
     rw[tL]at h1;omega
    ·rw[jT,tA,tA];rfl
   ·have e1:decide (V.int ((kk.1:Nat):Int)=V.int ((k:Nat):Int))=false:=decide_eq_false (by
     intro z;have:=V.int.inj z;omega)
    rw[e1,if_neg e,zaj];exact jo ⟨_,_,rfl,rfl⟩
  ·rintro ae G ⟨v0,v1,rfl,rfl⟩;rw[tc,ai.1,tv (tp _)];refine Wh ?_;dsimp only[List.set];refine kM (λc G=>c=b/\G=upd g D (.lst (((Vz l k).map (jS r)).map V.str)))
    (λj G=>j=[some (.ref d),some (.int mo),some (.int m),some (.ref p),some (.int sh),some (.ref Y),some (.bl b),some (.ref lo),some (.ref T),some (.int k),some (.ref D)]/\G=upd g D (.lst ((J3 r l b k).2.map V.str)))
    (λQ k=>⟨_,rfl,b,rfl,k _ _ ⟨rfl,rfl⟩⟩) ?_ ?_ ?_
   ·rintro H1 ⟨rfl,rfl⟩ D' kk;refine⟨_,rfl,.inl ⟨rfl,_,.of qc⟩,D,_,rfl,rfl,qc,kk _ _ ⟨rfl,?_⟩⟩;rw[jT,J3,if_pos rfl,List.map_reverse]
   ·rintro H1 ⟨rfl,rfl⟩;exact⟨rfl,rfl⟩
   rintro j G ⟨rfl,rfl⟩;have Y:upd g D (.lst ((J3 r l b k).2.map V.str)) T=some (.lst (qs.map V.ref)):=by rw[qf (Ne.symm (λe=>by rw[e,ac]at C;cases C))];exact ac
   have J:Same g (upd g D (.lst ((J3 r l b k).2.map V.str))):=qi C;refine⟨_,rfl,.inl ⟨rfl,_,.of Y⟩,_,rfl,_,rfl,p,_,_,_,rfl,rfl,.of (J _ _ ap),A3 (by rw[zl];exact(ho.lt k (tW hk))),_,rfl,D,_,rfl,.inl ⟨.of qc,λC p=>⟨sz,λlt o=>?_⟩⟩⟩;have aq:=qt (o':=HO.tup [V.str (jS r k),V.ref C]) (qt (o':=HO.tup ((J3 r l b k).2.map V.str)) Y p) o;refine⟨T,_,_,rfl,rfl,aq,?_,_,_,qs++[lt],rfl,?_,?_,?_⟩
   ·rw[tc,f9.1,tc,tL];refine ql ?_;have:=ho.len;omega
   ·exact Same.upd (λa u h=>qt (qt (J _ _ (U _ _ h)) p) o) aa
   ·rw[tA];exact qc
   ·have e:os.take (i+1)=os.take i++[k]:=by rw[tN,hk];rfl
    rw[e,tA];exact jR.upd_lst (jR.snoc (q:=C) (f9.mono λa u h=>qt (qt (J _ _ h) p) o) qc (qt qc o)) aq
 ·rintro j g ⟨v9,gW,qs,rfl,U,ac,f9⟩;rw[tc ..,tv (tp _)]at f9;have j:O T=none:=by
   cases z:O T with
   | none=>rfl
   | some u=>rw[s8 _ _ z]at aa;cases aa
  refine⟨_,rfl,q T qs _ n6 L g (af.fresh ag j) ac f9 (uv b zl zn as aw ak ay ho) ?_ ?_ (U _ _ (s8 _ _ ag)) (af.same λa u h=>U _ _ (s8 _ _ h))⟩
  ·rw[tc,ho.len];exact m0
  ·rw[tc,ho.len];exact m1
open PyProof.Rows hiding K lo
abbrev W6:Stmt:=top 24
abbrev XM:Stmt:=top 25
abbrev y1:Stmt:=top 26
abbrev MB:Stmt:=top 27
abbrev y2:Stmt:=top 28
abbrev MD:Stmt:=top 29
abbrev U9:Stmt:=top 30
def nd1(x:Str):[x].Nodup:=by simp
structure Qv(K:zel)(mg:Str->Option Value):Prop where
 isi:mg "isinstance"=none
 str:mg "str"=none
 all:mg "all"=none
 enu:mg "enumerate"=none
 sum:mg "sum"=none
 lets:∃t,mg "LETTERS"=some (.str xO t)
 lgst:∃t,mg "LONGEST_NAME"=some (.int 8 t)
 mp:∃t,mg "MOST_PLACES"=some (.int 14 t)
 mr:∃t,mg "MOST_ROADS"=some (.int 40 t)
 kss:tZ K (.type "str") (.type "str")=some true
 ktt:tZ K (.type "tuple") (.type "tuple")=some true
 kll:tZ K (.type "list") (.type "list")=some true
def DY(c:Nat):(!(Builtin.Str.occurrences xO ⟨#[c]⟩ 0 xO.length 1).isEmpty)=j9 c:=by
 rw[StrLaws.found_one,NA];unfold j9;rw[zba];simp only[decide_eq_true_eq,zar,tz,zaC];constructor
 ·rintro⟨k,_,rfl⟩;omega
 ·exact λh=>⟨c - 97,by omega,by omega⟩
def Nz(f:Nat->Bool)(l:List Nat)(i c:Nat)(h:l[i]?=some c):(l.take i).map f++[f c]=(l.take (i+1)).map f:=by
 rw[tN,h];simp
inductive Bj(vs:List V)(H:Hp)(Q:VK):Prop
 | mk (z:_):vs=[.str z]->jm z=true->(∀H',Same H H'->Q (.bl true) H')->Bj vs H Q
def HS:Sp:=λa H Q _=>Bj a H Q
inductive Bh(vs:List V)(H:Hp)(Q:VK):Prop
 | mk (q:Addr) (zs:List Str):vs=[.ref q]->H q=some (.tup (zs.map V.str))->((∀z∈zs,jm z=true))->(zs.length<=1000)->(∀H',Same H H'->Q (.bl true) H')->Bh vs H Q
def HR:Sp:=λa H Q _=>Bh a H Q
inductive Kj(vs:List V)(H:Hp)(Q:VK):Prop
 | mk (p q:Addr) (r:Str×List Str):vs=[.ref p]->H p=some (.tup [.str r.1,.ref q])->H q=some (.tup (r.2.map V.str))->jm r.1=true->((∀z∈r.2,jm z=true))->(r.2.length<=1000)->(∀H',Same H H'->Q (.bl true) H')->Kj vs H Q
def EQ:Sp:=λa H Q _=>Kj a H Q
structure jJ(H:Hp)(l:Addr)(ps:List Addr)(rs:List (Str×List Str)):Prop where
 at_:H l=some (.lst (ps.map V.ref))
 rows:jR H ps rs
 good:qu rs
 pos:0 < rs.length
 le:rs.length<=14
def jJ.mono(h:jJ H l ps rs)(s:Same H H'):jJ H' l ps rs:=⟨s _ _ h.at_,h.rows.mono s,h.good,h.pos,h.le⟩
def qu.names(h:qu rs):∀r∈rs,∀z∈r.2,jm z=true:=λr hr z a=>by
 obtain⟨b,d,rfl⟩:=tz.mp (h.to r hr z a);exact h.nm b d
def qu.len(h:qu rs):∀r∈rs,r.2.length<=40:=λr hr=>by
 refine t8 ?_ h.few;have:∀(rs:List (Str×List Str)),r∈rs->r.2.length<=(rs.map λr=>r.2.length).sum:=by
  intro rs;induction rs with
  | nil=>intro h;cases h
  | cons a rs b=>
   intro h;rw[tV,zaT];rcases tH.mp h with rfl | h
   ·omega
   ·have:=b h;omega
 exact this rs hr
def jR.item{H:Hp}{ps:List Addr}{rs:List (Str×List Str)}(h:jR H ps rs){i:Nat}{x:V}(d:(ps.map V.ref)[i]?=some x):∃p q r,x=.ref p/\rs[i]?=some r/\r∈rs/\H p=some (.tup [.str r.1,.ref q])/\H q=some (.tup (r.2.map V.str)):=by
 rw[tu]at d;cases e:ps[i]? with
 | none=>rw[e]at d;cases d
 | some p=>
  rw[e]at d;have f:i < rs.length:=by
   have:=(td.mp e).1;rwa [h.1]at this
  obtain⟨q,a,b⟩:=h.2 i p _ e (tj f);exact⟨p,q,_,(tF.inj d).symm,tj f,zbo f,a,b⟩
inductive yP(vs:List V)(H:Hp)(Q:VK):Prop
 | mk (l:Addr) (ps:List Addr) (rs:List (Str×List Str)):vs=[.ref l]->jJ H l ps rs->(∀H',Same H H'->Q .non H')->yP vs H Q
def km:Sp:=λa H Q _=>yP a H Q
inductive Km(vs:List V)(H:Hp)(Q:VK):Prop
 | mk (l:Addr) (zs:List Str):vs=[.ref l]->H l=some (.lst (zs.map V.str))->zs.Nodup->(zs.length<=1000)->(∀H',Same H H'->Q .non H')->Km vs H Q
def ER:Sp:=λa H Q _=>Km a H Q
inductive yS(vs:List V)(H:Hp)(Q:VK):Prop
 | mk (q l:Addr) (es zs:List Str):vs=[.ref q,.ref l]->H q=some (.tup (es.map V.str))->H l=some (.lst (zs.map V.str))->es.Nodup->((∀z∈es,z∈zs))->(es.length<=900)->(∀H',Same H H'->Q .non H')->yS vs H Q
def Cm:Sp:=λa H Q _=>yS a H Q
def JY{a:List (qZ×V)}(h:¬k∈a.map (·.1)):jw a k=none:=by
 cases e:jw a k with
 | none=>rfl
 | some v=>exact absurd (NR e) h
def zc(a:List Str):(a.map V.str).all zj=true:=by
 rw[zcV,zaK];intro z _;rfl
def Ub{z:Str}{a:List Str}(h:z∈a):zb (.str z) (a.map V.str)=true:=by
 unfold zb;rw[zbn];exact⟨.str z,tz.mpr ⟨z,h,rfl⟩,by show (z==z)=true;simp⟩
def Cz:qk ["thing"] ["thing"] (qg zQ):=jM
def VU(F:jq K "is_name" "is_name" zQ f a)(B:QL mg)(T:Qv K mg):qp P w K mg base q5 1 f a ["thing"] HS:=by
 refine F.okK Cz λH Q E hr h=>?_;obtain⟨z,rfl,b,q⟩:=h;obtain⟨_,a⟩:=T.lets;obtain⟨_,d⟩:=T.lgst;refine⟨_,qd (qA (Jp (jA (qx jQ (by rfl) T.isi boot_isinstance (qV (jv 0) (Je (v:=.ty "str") (by rfl) T.str boot_str rfl))))) (qe (qo Qz)) qr)
  (qd (qA (zi (qj Q7 (qx Zv (by rfl) B.len boot_len (jc (jv 0))) qh)
    (JU (qj ZM (qx Zv (by rfl) B.len boot_len (jc (jv 0))) (Qt (v:=.int 8) (by rfl) d ⟨_,rfl⟩)))).pt (qe (qo Qz)) qr)
  (qe (qo (qx (YL rfl) (by rfl) T.all boot_all (jc (jP (N':=["sign"]) (ix:=[none]) (DP (jv 0)) (λ_ _ _ fp _=>
   ⟨qF 0,j2,Qc wC (jv 0) (Qt (v:=.str xO) (by rfl) a ⟨_,rfl⟩) (by with_unfolding_all rfl)⟩))))))),?_⟩
 have a:=b;unfold jm at a;simp only[zar,decide_eq_true_eq]at a;obtain⟨⟨n1,n8⟩,d⟩:=a;have a:z.length<=zeq:=zab (ql (by omega));refine⟨_,rfl,_,_,_,_,rfl,rfl,.str z,T.kss,_,rfl,jo ⟨_,rfl,z,rfl,a,_,_,rfl,rfl,_,rfl,ul (λh=>?_) (λh=>?_)⟩⟩
 ·exact absurd (of_decide_eq_true h) (by omega)
 ·refine⟨_,rfl,z,rfl,a,_,_,rfl,rfl,_,rfl,ul (λa=>?_) (λa=>?_)⟩
  ·exact absurd (of_decide_eq_true a) (by show ¬(8:Int) < (z.length:Int);omega)
  ·refine⟨_,rfl,z,rfl,λD e=>AT (λi a b=>∃v,a=[v]/\b=upd H D (.lst (((z.cps.toList.take i).map j9).map V.bl))) ⟨none,rfl,rfl⟩ ?_ ?_⟩
   ·rintro i c a b g ⟨v,rfl,rfl⟩;refine⟨_,rfl,_,_,rfl,rfl,_,qc,?_,?_⟩
    ·rw[tc,tc,tL];exact zaI (zdt _ _) (ql (show z.cps.toList.length<=1000 by rw[zaE];exact t8 n8 (by decide)))
    ·refine⟨_,rfl,?_⟩;rw[jT,DY,<-Nz j9 z.cps.toList i c (by simpa using g),tA];rfl
   ·rintro a b ⟨v,rfl,rfl⟩;refine⟨D,_,rfl,.of qc,?_⟩;have a:(z.cps.toList.map j9).all id=true:=by rw[zcV];exact d
    rw[tv (by simp),a];exact q _ (qi e)
def Cr:qk ["thing"] ["thing"] (qg W6):=jM
def M1(F:jq K "is_tuple_of_names" "is_tuple_of_names" W6 f a)(B:QL mg)(G:QB mg)(T:Qv K mg)(hN:qM K mg "is_name" zQ ["thing"] b d):qp P w K mg base q5 2 f a ["thing"] HR:=by
 refine F.okK Cr λH Q E hr h=>?_;obtain⟨x,m,rfl,b,p,_,q⟩:=h;refine⟨_,qe (qo (ZU (qx jQ (by rfl) T.isi boot_isinstance (qV (jv 0) (Je (v:=.ty "tuple") (by rfl) G.tup boot_tuple rfl)))
  (YH (qx (YL rfl) (by rfl) T.all boot_all (jc (jP (N':=["part"]) (ix:=[none]) (YG (jv 0)) (λ_ g r fp _=>
   ⟨qF 0,j2,qE hN (pin P w mg base (VU hN.fn B T)) (jc (jv 0))⟩))))))),?_⟩
 refine⟨_,rfl,_,_,_,_,rfl,rfl,.tup b,T.ktt,_,rfl,jX ⟨_,rfl,x,rfl,⟨_,.of b⟩,λD o=>xJ (λi d a=>∃v,d=[v]/\Same H a/\a D=some (.lst ((zbs i true).map V.bl))) ⟨none,rfl,qi o,qc⟩ (λi d a _ ⟨_,_,s,_⟩=>.of (s _ _ b)) ?_ ?_⟩⟩
 ·rintro i y d a b ⟨v,rfl,j,l⟩;rw[tu]at b;cases e:m[i]? with
  | none=>rw[e]at b;cases b
  | some z=>
   rw[e]at b;obtain rfl:=(tF.inj b).symm;have b:=(td.mp e).1;refine⟨_,rfl,z,rfl,p z (tW e),λr g=>⟨_,g _ _ l,?_,_,rfl,?_,?_⟩⟩
   ·rw[tc,zaP];exact ql (by omega)
   ·exact Same.upd (j.trans g) o
   ·rw[qc,List.replicate_succ',tA];rfl
 ·rintro d a ⟨v,rfl,j,l⟩;refine⟨D,_,rfl,.of l,?_⟩;have e:(zbs (m.map V.str).length true).all id=true:=by simp
  rw[e];exact q _ j
def Mw:qk ["thing"] ["thing"] (qg XM):=jM
def Ro(F:jq K "is_row" "is_row" XM f a)(B:QL mg)(G:QB mg)(T:Qv K mg)(hN:qM K mg "is_name" zQ ["thing"] b e)(d:qM K mg "is_tuple_of_names" W6 ["thing"] g i):qp P w K mg base q5 3 f a ["thing"] EQ:=by
 refine F.okK Mw λH Q E hr h=>?_;obtain⟨b,x,e,rfl,a,g,i,j,l,q⟩:=h;refine⟨_,qd (qA (zi (Jp (jA (qx jQ (by rfl) T.isi boot_isinstance (qV (jv 0) (Je (v:=.ty "tuple") (by rfl) G.tup boot_tuple rfl)))))
   (JU (qj XY (qx qL (by rfl) B.len boot_len (jc (jv 0))) qh))).pt qS qr)
  (qe (qo (ZU (qE hN (pin P w mg base (VU hN.fn B T)) (jc (qD qJ (jv 0) qh))) (YH (qE d (pin P w mg base (M1 d.fn B G T hN)) (jc (qD qJ (jv 0) qh))))))),?_⟩
 exact⟨_,rfl,_,_,_,_,rfl,rfl,.tup a,T.ktt,_,rfl,jo ⟨_,rfl,b,_,rfl,.inr (.of a),rfl,_,rfl,jo ⟨_,rfl,b,_,0,_,rfl,rfl,.of a,rfl,e.1,rfl,i,λ_ d=>⟨_,rfl,jX ⟨_,rfl,b,_,1,_,rfl,rfl,.of (d _ _ a),rfl,x,e.2,rfl,d _ _ g,j,l,λa b=>q a (d.trans b)⟩⟩⟩⟩⟩
open PyProof.Rows hiding K lo
abbrev FM:List Str:=["rows","number","row"]
def CI:qk FM ["rows"] (qg y1):=jM
def Ac{P:Program}{w:World}{K:zel}{mg:Str->Option Value}{base:Heap}{f e g fR:Addr}{d l m o:zep}(F:jq K "need_form" "need_form" y1 f d)(B:QL mg)(G:QB mg)(T:Qv K mg)(hN:qM K mg "is_name" zQ ["thing"] e l)(p:qM K mg "is_tuple_of_names" W6 ["thing"] g m)
  (j:qM K mg "is_row" XM ["thing"] fR o):qp P w K mg base q5 4 f d ["rows"] km:=by
 obtain⟨_,l⟩:=T.mp;refine F.okK CI λH Q E hr h=>?_;obtain⟨g,e,m,rfl,d,q⟩:=h;refine⟨_,qd (qA (zi (Jp (jA (qx jQ (by rfl) T.isi boot_isinstance (qV (jv 0) (Je (v:=.ty "list") (by rfl) G.lst boot_list rfl)))))
   (JU (qj qT (qx qL (by rfl) B.len boot_len (jc (jv 0))) qh))).pt qS qr)
  (qd (qA (qj ZM (qx qL (by rfl) B.len boot_len (jc (jv 0))) (Qt (v:=.int 14) (by rfl) l ⟨_,rfl⟩)) qS qr)
  (qe (qX (z7 (by rfl) T.enu (jc (jv 0))) (JV rfl (jh (qF 1) (jh (qF 2) QX)))
   (qe (qA (Jp (jA (qE j (pin P w mg base (Ro j.fn B G T hN p)) (jc (jv 2))))) qS qr))))),?_⟩
 have j:(e.map V.ref).length=m.length:=by rw[tc,d.rows.1]
 refine⟨_,rfl,_,_,_,_,rfl,rfl,.lst d.at_,T.kll,_,rfl,jo ⟨_,rfl,g,_,rfl,.inl (.of d.at_),rfl,_,rfl,?_⟩⟩;have j:decide (V.int (((e.map V.ref).length:Nat):Int)=V.int 0)=false:=decide_eq_false (by
  intro z;have:=V.int.inj z;have:=d.pos;omega)
 rw[j];refine jo ⟨_,rfl,g,_,rfl,.inl (.of d.at_),_,_,rfl,rfl,_,rfl,?_⟩;have j:decide ((14:Int) < (((e.map V.ref).length:Nat):Int))=false:=decide_eq_false (by
  have:=d.le;omega)
 refine ul (λz=>absurd z (by rw[j];decide)) (λ_=>?_);refine⟨_,rfl,g,rfl,⟨_,.of d.at_⟩,Yb (λi j e=>∃v1 m,j=[some (.ref g),v1,m]/\Same H e) ⟨none,none,rfl,Same.refl H⟩ (λi j e _ ⟨_,_,_,s⟩=>.of (s _ _ d.at_)) ?_ ?_⟩
 ·rintro i x j e r u p ⟨v1,m,rfl,g⟩;obtain⟨y,C,l,rfl,_,o,a,b⟩:=(d.mono (g.trans (qi (o:=.tup [.int (i:Nat),x]) p))).rows.item u;exact⟨r,_,rfl,.of qc,rfl,_,_,rfl,_,_,rfl,rfl,_,rfl,y,C,l,rfl,a,b,d.good.nm l o,d.good.names l o,t8 (d.good.len l o) (by decide),λ_ d=>⟨_,rfl,jo ⟨_,_,rfl,(g.trans (qi p)).trans d⟩⟩⟩
 ·rintro j e ⟨v1,m,rfl,g⟩;exact q e g
abbrev IJ:List Str:=["order","ahead","name"]
def E7:qk IJ ["order"] (qg MB):=jM
def QS{a:List Str}(g:a.Nodup)(e:a[i]?=some z):¬(Sum.inr z:qZ)∈(a.take i).map Sum.inr:=λh=>by
 obtain⟨y,d,a⟩:=tz.mp h;have b:=Sum.inr.inj a;subst b;obtain⟨b,a⟩:=zaS d;have d:=(td.mp a).1;rw[tL]at d;have d:b < i:=by omega
 rw[zbp d]at a;have f:=(td.mp a);have a:=(td.mp e);exact absurd (f.2.trans a.2.symm) (zaM.mp g b i f.1 a.1 d)
def VN{a:List (qZ×V)}{k:qZ}(v:V)(h:jw a k=none):(Qd a k v).map (·.1)=a.map (·.1)++[k]:=by
 rw[Q3 v h,tA];rfl
def Dd(F:jq K "need_own_names" "need_own_names" MB f a):qp P w K mg base q5 1 f a ["order"] ER:=by
 refine F.okK E7 λH Q E hr h=>?_;obtain⟨d,j,rfl,m,r,_,q⟩:=h;refine⟨_,qd (qy 1 Qf)
  (qe (qX (qB (jv 0)) (qF 2)
   (qd (qA (QG (Zr (jv 2) (jv 1))) qS qr) (qe (jL (jv 1) (jv 2) Qz))))),?_⟩
 refine λD l=>⟨_,rfl,d,rfl,⟨_,.of (qt m l)⟩,je (K:=K) (a:=d) (xs:=j.map V.str) (λi g a=>∃v b,g=[some (.ref d),some (.ref D),v]/\Same H a/\a D=some (.dK b)/\b.map (·.1)=(j.take i).map Sum.inr) ⟨none,[],rfl,qi l,qc,rfl⟩ (λi g a _ ⟨_,_,_,s,_⟩=>.of (s _ _ m)) ?_ ?_⟩
 ·rintro i x g a d ⟨v,b,rfl,m,p,o⟩;rw[tu]at d;cases e:j[i]? with
  | none=>rw[e]at d;cases d
  | some z=>
   rw[e]at d;obtain rfl:=(tF.inj d).symm;have d:=(td.mp e).1;have d:=JY (by rw[o];exact QS r e);have j:jZ a D (.str z) none:=by
    have:=jZ.k (k:=(Sum.inr z:qZ)) p;rwa [d]at this
   have lk:b.length < zeq:=by
    have:=congrArg zas o;rw[tc,tc,tL]at this;exact ql (by omega)
   refine⟨_,rfl,_,rfl,D,none,rfl,j,_,rfl,jo ⟨_,rfl,_,rfl,D,_,rfl,Jv.k (k:=(Sum.inr z:qZ)) p lk,_,_,rfl,Same.upd m l,qc,?_⟩⟩;rw[VN _ d,o,tN,e,tA];rfl
 ·rintro g a ⟨v,b,rfl,m,_⟩;exact q a m
abbrev FN:List Str:=["ends","order","ahead","name"]
def CJ:qk FN ["ends","order"] (qg y2):=jM
def Ad(F:jq K "need_ends" "need_ends" y2 f a):qp P w K mg base q5 1 f a ["ends","order"] Cm:=by
 refine F.okK CJ λH Q E hr h=>?_;obtain⟨x,p,l,u,rfl,d,B,C,J,_,q⟩:=h;refine⟨_,qd (qy 2 Qf)
  (qe (qX (YG (jv 0)) (qF 3)
   (qd (qA (qj Jc (jv 3) (jv 1) (by with_unfolding_all rfl)) qS qr)
   (qd (qA (QG (Zr (jv 3) (jv 2))) qS qr) (qe (jL (jv 2) (jv 3) Qz)))))),?_⟩
 refine λD m=>⟨_,rfl,x,rfl,⟨_,.of (qt d m)⟩,Xr (K:=K) (a:=x) (xs:=l.map V.str) (λi g a=>∃v b,g=[some (.ref x),some (.ref p),some (.ref D),v]/\Same H a/\a D=some (.dK b)/\b.map (·.1)=(l.take i).map Sum.inr) ⟨none,[],rfl,qi m,qc,rfl⟩ (λi g a _ ⟨_,_,_,s,_⟩=>.of (s _ _ d)) ?_ ?_⟩
 ·rintro i y g a d ⟨v,b,rfl,j,r,o⟩;rw[tu]at d;cases e:l[i]? with
  | none=>rw[e]at d;cases d
  | some z=>
   rw[e]at d;obtain rfl:=(tF.inj d).symm;have d:=(td.mp e).1;have d:=JY (by rw[o];exact QS C e);have l:jZ a D (.str z) none:=by
    have:=jZ.k (k:=(Sum.inr z:qZ)) r;rwa [d]at this
   have lk:b.length < zeq:=by
    have:=congrArg zas o;rw[tc,tc,tL]at this;exact ql (by omega)
   refine⟨_,rfl,_,rfl,p,_,rfl,.inl (.of (j _ _ B)),rfl,zc u,_,rfl,?_⟩;rw[Ub (J z (tW e))];refine jo ⟨_,rfl,_,rfl,D,none,rfl,l,_,rfl,jo ⟨_,rfl,_,rfl,D,_,rfl,Jv.k (k:=(Sum.inr z:qZ)) r lk,_,_,rfl,Same.upd j m,qc,?_⟩⟩;rw[VN _ d,o,tN,e,tA];rfl
 ·rintro g a ⟨v,b,rfl,j,_⟩;exact q a j
abbrev IO:List Str:=["rows","many"]
def Fj:qk IO ["rows"] (qg MD):=jM
def Do{P:Program}{w:World}{K:zel}{mg:Str->Option Value}{base:Heap}{f:Addr}{d:zep}(F:jq K "need_few_roads" "need_few_roads" MD f d)(B:QL mg)(T:Qv K mg):qp P w K mg base q5 1 f d ["rows"] km:=by
 obtain⟨_,l⟩:=T.mr;refine F.okK Fj λH Q E hr h=>?_;obtain⟨m,o,p,rfl,d,q⟩:=h;refine⟨_,qd (qy 1 (qx (YJ rfl) (by rfl) T.sum boot_sum (jc (jP (N':=["row"]) (ix:=[none]) (te:=EI (λr H Q=>∃g j,r=[.ref g]/\(SqL K H g j\/SqT K H g j)/\Q (.int j.length) H) (jd (J0 (JQ K) (jg 0) (tC (.int 1))) Q1)) (qB (jv 0)) (λ_ _ _ fp _=>
   ⟨qF 0,j2,qx qL (by rfl) B.len boot_len (jc (qD qJ (jv 0) qh))⟩)))))
  (qe (qA (qj ZM (jv 1) (Qt (v:=.int 40) (by rfl) l ⟨_,rfl⟩)) qS qr)),?_⟩
 refine⟨_,rfl,m,rfl,⟨_,.of d.at_⟩,λD g=>j7 (xs:=o.map V.ref) (λi j l=>∃v,j=[v]/\l=upd H D (.lst (((p.take i).map λm=>m.2.length).map λn=>V.int ((n:Nat):Int)))) ⟨none,rfl,rfl⟩ (λi j l _ ⟨_,_,e⟩=>e▸.of (qt d.at_ g)) ?_ ?_⟩
 ·rintro i x j l p ⟨v,rfl,rfl⟩;obtain⟨r,u,m,rfl,o,_,a,b⟩:=d.rows.item p;have m:=(td.mp o).1;refine⟨_,rfl,r,_,1,_,rfl,rfl,.of (qt a g),rfl,u,_,rfl,.inr (.of (qt b g)),_,qc,?_,_,rfl,?_⟩
  ·rw[tc,tc,tL];have:=d.le;exact ql (by omega)
  ·rw[jT,tN,o,tA,tA,tc];rfl
 ·rintro j l ⟨v,rfl,rfl⟩;rw[tv (by rw[tc,d.rows.1];exact tp _)];refine⟨D,_,rfl,.of qc,zaI d.good.few (by decide),⟨_,rfl,_,_,rfl,rfl,_,rfl,?_⟩⟩;have:=d.good.few;refine ul (λz=>absurd (of_decide_eq_true z) ?_) (λ_=>q _ (qi g));show ¬(40:Int) < _;omega
abbrev FI:List Str:=["rows","order","row"]
def Cy:qk FI ["rows"] (qg U9):=jM
structure Ek(K:zel)(mg:Str->Option Value):Prop where
 nm:∃f fd,qM K mg "is_name" zQ ["thing"] f fd
 tn:∃f fd,qM K mg "is_tuple_of_names" W6 ["thing"] f fd
 rw:∃f fd,qM K mg "is_row" XM ["thing"] f fd
 fo:∃f fd,qM K mg "need_form" y1 ["rows"] f fd
 ow:∃f fd,qM K mg "need_own_names" MB ["order"] f fd
 en:∃f fd,qM K mg "need_ends" y2 ["ends","order"] f fd
 fw:∃f fd,qM K mg "need_few_roads" MD ["rows"] f fd
def M6{P:Program}{w:World}{K:zel}{mg:Str->Option Value}{base:Heap}{f:Addr}{d:zep}(F:jq K "need_rows" "need_rows" U9 f d)(B:QL mg)(G:QB mg)(T:Qv K mg)(N:Ek K mg):qp P w K mg base q5 5 f d ["rows"] km:=by
 obtain⟨_,_,l⟩:=N.nm;obtain⟨_,_,y⟩:=N.tn;obtain⟨fR,_,z⟩:=N.rw;obtain⟨_,_,g⟩:=N.fo;obtain⟨_,_,j⟩:=N.ow;obtain⟨_,_,p⟩:=N.en;obtain⟨_,_,r⟩:=N.fw;refine F.okK Cy λH Q E hr h=>?_;obtain⟨m,u,o,rfl,d,q⟩:=h;refine⟨_,qd (q4 (qE g (pin P w mg base (Ac g.fn B G T l y z)) (jc (jv 0))))
  (qd (QH (i:=1) (N':=["row"]) (ix:=[none]) (te:=J0 (JQ K) (jg 0) (tC (.int 0))) (qB (jv 0)) (λ_ y l fp _=>
   ⟨qF 0,j2,qD qJ (jv 0) qh⟩))
  (qd (q4 (qE j (pin P w mg base (Dd j.fn)) (jc (jv 1))))
  (qd (qX (qB (jv 0)) (qF 2)
   (qe (q4 (qE p (pin P w mg base (Ad p.fn)) (qV (qD qJ (jv 2) qh) (jv 1))))))
  (qe (q4 (qE r (pin P w mg base (Do r.fn B T)) (jc (jv 0)))))))),?_⟩
 refine⟨_,rfl,m,u,o,rfl,d,λp O=>?_⟩;have g1:=d.mono O;refine⟨_,rfl,m,rfl,⟨_,.of g1.at_⟩,λD z=>j7 (xs:=u.map V.ref) (λi g j=>∃v,g=[v]/\j=upd p D (.lst (((o.take i).map (·.1)).map V.str))) ⟨none,rfl,rfl⟩ (λi g j _ ⟨_,_,e⟩=>e▸.of (qt g1.at_ z)) ?_ ?_⟩
 ·rintro i x g j C ⟨v,rfl,rfl⟩;obtain⟨J,U,p,rfl,L,r,a,b⟩:=g1.rows.item C;have Y:=(td.mp L).1;refine⟨_,rfl,J,_,0,_,rfl,rfl,.of (qt a z),rfl,_,qc,?_,_,rfl,?_⟩
  ·rw[tc,tc,tL];have:=d.le;exact ql (by omega)
  ·rw[jT,tN,L,tA,tA];rfl
 ·rintro g j ⟨v,rfl,rfl⟩;rw[tv (by rw[tc,d.rows.1];exact tp _)];refine⟨_,rfl,D,o.map (·.1),rfl,qc,d.good.nd,by rw[tc];have:=d.le;omega,λl y=>?_⟩;have Y:=(qi z).trans y;have g2:=g1.mono Y;refine⟨_,rfl,m,rfl,⟨_,.of g2.at_⟩,je (λi g j=>∃v,g=[some (.ref m),some (.ref D),v]/\Same l j) ⟨none,rfl,Same.refl l⟩ (λi g j _ ⟨_,_,s⟩=>.of (s _ _ g2.at_)) ?_ ?_⟩
  ·rintro i x g j C ⟨v,rfl,l⟩;obtain⟨J,U,p,rfl,L,r,a,b⟩:=(g2.mono l).rows.item C;refine⟨_,rfl,J,_,1,_,rfl,rfl,.of a,rfl,_,rfl,U,D,p.2,o.map (·.1),rfl,b,l _ _ (y _ _ qc),d.good.rd p r,d.good.to p r,t8 (d.good.len p r) (by decide),λp d=>⟨_,rfl,l.trans d⟩⟩
  ·rintro g j ⟨v,rfl,l⟩;exact⟨_,rfl,m,u,o,rfl,g2.mono l,λp d=>q p (((O.trans Y).trans l).trans d)⟩
open PyProof.Rows hiding K lo
abbrev ku:Stmt:=j3 (top 31) 0
abbrev Xg:Stmt:=j3 (top 31) 1
abbrev VJ:Stmt:=j3 (top 31) 2
def j5(rs:List (Str×List Str))(r:Str×List Str):List Str:=(rs.map (·.1)).filter λz=>zb (.str z) (r.2.map V.str)
inductive Qk(CG:Addr)(H:Hp)(a:Addr)(rs:List (Str×List Str)):Prop
 | mk (dx lo rd:Addr) (kvs:List (qZ×V)):H a=some (.ins CG dx [("order",.ref lo),("roads",.ref rd)])->H lo=some (.lst ((rs.map (·.1)).map V.str))->H rd=some (.dK kvs)->(∀r∈rs,∃q,jw kvs (Sum.inr r.1)=some (.ref q)/\H q=some (.lst ((j5 rs r).map V.str)))->Qk CG H a rs
def Qk.mono(h:Qk d H a rs)(s:Same H H'):Qk d H' a rs:=by
 obtain⟨d,lo,e,f,g,i,j,l⟩:=h;exact⟨d,lo,e,f,s _ _ g,s _ _ i,s _ _ j,λd hr=>let ⟨q,a,b⟩:=l d hr;⟨q,a,s _ _ b⟩⟩
def jJ.fr(h:jJ H l ps rs)(d:H x=some (.ins C f fs))(s:Fr H x H'):jJ H' l ps rs:=by
 refine⟨s _ _ h.at_ (λe=>?_),⟨h.rows.1,λi f g j m=>?_⟩,h.good,h.pos,h.le⟩
 ·have:=h.at_;rw[e,d]at this;cases this
 ·obtain⟨q,a,b⟩:=h.rows.2 i f g j m;exact⟨q,s _ _ a (nq d a),s _ _ b (nq d b)⟩
structure Hn(K:zel)(mg:Str->Option Value)(CG f:Addr)(fd:zep):Prop where
 cl:WC K CG
 mkr:Mk K CG f
 ns:mg "Ground"=some (.ref CG)
 no:Ql K CG "order"
 nr:Ql K CG "roads"
 fn:jq K "__init__" "Ground.__init__" ku f fd
 bi:jy K fd ["self","rows"] []
def nor:¬(zem "order")=zem "roads":=by decide+kernel
def IG(v:V):Zi (zem "order") v []=[(zem "order",v)]:=rfl
def IF(v u:V):Zi (zem "roads") u [(zem "order",v)]=[(zem "order",v),(zem "roads",u)]:=by
 unfold Zi;rw[if_neg nor];rfl
def lkO(v u:V):([(zem "order",v),(zem "roads",u)]:List (Str×V)).lookup (zem "order")=some v:=by simp [zbc]
def IP(v u:V):([(zem "order",v),(zem "roads",u)]:List (Str×V)).lookup (zem "roads")=some u:=by
 have e:((zem "roads")==(zem "order"))=false:=by decide+kernel
 simp [zbc,e]
inductive U5(CG:Addr)(vs:List V)(H:Hp)(Q:VK):Prop
 | mk (x dx l:Addr) (ps:List Addr) (rs:List (Str×List Str)):vs=[.ref x,.ref l]->jJ H l ps rs->H x=some (.ins CG dx [])->(∀H',Qk CG H' x rs->Fr H x H'->Q .non H')->U5 CG vs H Q
def VB(a:Addr):Sp:=λb H Q _=>U5 a b H Q
inductive W3(CG:Addr)(vs:List V)(H:Hp)(Q:VK):Prop
 | mk (a:Addr) (rs:List (Str×List Str)):vs=[.ref a]->Qk CG H a rs->(∀l,H l=none->Q (.ref l) (upd H l (.lst ((rs.map (·.1)).map V.str))))->W3 CG vs H Q
def KI(a:Addr):Sp:=λb H Q _=>W3 a b H Q
inductive U6(CG:Addr)(vs:List V)(H:Hp)(Q:VK):Prop
 | mk (a:Addr) (rs:List (Str×List Str)) (r:Str×List Str):vs=[.ref a,.str r.1]->Qk CG H a rs->(r∈rs)->jm r.1=true->(∀H1 l,Same H H1->H1 l=none->Q (.ref l) (upd H1 l (.lst ((j5 rs r).map V.str))))->U6 CG vs H Q
def Md(a:Addr):Sp:=λb H Q _=>U6 a b H Q
abbrev nGI:List Str:=["self","rows","row"]
def Fi:qk nGI ["self","rows"] (qg ku):=jM
def Rq(C:Hn K mg r f d)(B:QL mg)(G:QB mg)(T:Qv K mg)(N:Ek K mg)(g:qM K mg "need_rows" U9 ["rows"] j l):qp P w K mg base q5 6 f d ["self","rows"] (VB r):=by
 refine C.fn.okJ Fi (λd H Q E h=>?_) (λ_ A _ s H d Q E hr h=>?_)
 ·obtain⟨x,m,Y,O,d,rfl,_⟩:=h;rfl
 ·obtain⟨x,m,Y,O,d,rfl,o,hx,q⟩:=h;refine⟨_,qd (q4 (qE g (pin P w mg base (M6 g.fn B G T N)) (jc (jv 1))))
   (qd (V6 (jv 0) (jP (N':=["row"]) (ix:=[none]) (te:=J0 (JQ K) (jg 0) (tC (.int 0))) (qB (jv 1)) (λC g H2 fp j=>
    ⟨qF 0,j2,qD qJ (jv 0) qh⟩)) rfl)
   (qd (V6 (jv 0) Qf rfl)
   (qe (qX (qB (jv 1)) (za (i:=2) Fi.nd rfl (Or.inr rfl))
    (qe (jL (Jq (jv 0) rfl) (qD qJ (jv 2) qh) (jP (N':=["name","row"]) (ix:=[none,some 2]) (tt:=Zx (J0 (Er K false) (jg 0) (J0 (JQ K) (jg 1) (tC (.int 1))))) (qB (Jq (jv 0) rfl)) (λC g H2 fp j=>
      ⟨qF 0,jt (qj J4 (jv 0) (qD qJ (jv 1) qh) (by with_unfolding_all rfl)),jv 0⟩)))))))),?_⟩
  refine⟨_,rfl,Y,O,d,rfl,o,λl g=>?_⟩;have g1:=o.mono g;have aq:Fr H x l:=λb u h _=>g _ _ h;have ak:=g _ _ hx;refine⟨_,rfl,Y,rfl,⟨_,.of g1.at_⟩,λlo p=>?_⟩;have al:lo≠x:=nq ak p;refine j7 (xs:=O.map V.ref) (λi J j=>∃v,J=[v]/\j=upd l lo (.lst (((d.take i).map (·.1)).map V.str))) ⟨none,rfl,rfl⟩ (λi J j _ ⟨_,_,e⟩=>e▸.of (qt g1.at_ p)) ?_ ?_
  ·rintro i y J j L ⟨v,rfl,rfl⟩;obtain⟨p',_,g,rfl,U,ar,a,b⟩:=g1.rows.item L;have hi:=(td.mp U).1;refine⟨_,rfl,p',_,0,_,rfl,rfl,.of (qt a p),rfl,_,qc,?_,_,rfl,?_⟩
   ·rw[tc,tc,tL];have:=o.le;exact ql (by omega)
   ·rw[jT,tN,U,tA,tA];rfl
  rintro J j ⟨v,rfl,rfl⟩;have e:d.take (O.map V.ref).length=d:=tv (by rw[tc,o.rows.1];exact tp _);rw[e];have ag:Fr H x (upd l lo (.lst ((d.map (·.1)).map V.str))):=aq.new p;have am:upd l lo (.lst ((d.map (·.1)).map V.str)) lo=some (.lst ((d.map (·.1)).map V.str)):=qc;have ah:upd l lo (.lst ((d.map (·.1)).map V.str)) x=some (.ins r m []):=qt ak p;generalize upd l lo (.lst ((d.map (·.1)).map V.str))=H2 at ag am ah;refine⟨_,rfl,x,r,m,[],rfl,ah,C.cl,C.no,by decide,?_⟩;rw[IG];intro p l;have ai:p≠x:=nq qc l;have an:H2 p=none:=by rwa [qf ai]at l
  have ao:p≠lo:=nq am an;have ap:=ag.fresh ah an;refine⟨_,rfl,x,r,m,_,rfl,qt qc l,C.cl,C.nr,by show 1 < 1000;decide,?_⟩;rw[IF];have l:Fr H x (upd (upd (upd H2 x (.ins r m [("order",.ref lo)])) p (.dK [])) x (.ins r m [("order",.ref lo),("roads",.ref p)])):=((ag.at_d).own ap).at_d;refine⟨_,rfl,Y,rfl,⟨_,.of (o.fr hx l).at_⟩,je (xs:=O.map V.ref) (λi J j=>∃v O,J=[some (.ref x),some (.ref Y),v]/\j x=some (.ins r m [("order",.ref lo),("roads",.ref p)])/\j lo=some (.lst ((d.map (·.1)).map V.str))/\j p=some (.dK O)/\
   O.map (·.1)=((d.map (·.1)).take i).map Sum.inr/\(∀g∈d.take i,∃q,jw O (Sum.inr g.1)=some (.ref q)/\j q=some (.lst ((j5 d g).map V.str)))/\Fr H x j)
   ⟨none,[],rfl,qc,?_,?_,rfl,λg h=>(nomatch h),l⟩ (λi J j _ ⟨_,_,_,_,_,_,_,_,fr⟩=>.of (o.fr hx fr).at_) ?_ ?_⟩
  ·rwa [qf al,qf (Ne.symm ao),qf al]
  ·rw[qf ai];exact qc
  ·rintro i y J j L ⟨v,O,rfl,aa,ab,ac,ek,hv,fr⟩;obtain⟨aj,qq,g,rfl,U,ar,a,b⟩:=(o.fr hx fr).rows.item L;have hi:=(td.mp U).1;have l:=o.le;refine⟨_,rfl,x,r,m,_,_,rfl,aa,C.cl,C.no,lkO _ _,lo,rfl,⟨_,.of ab⟩,λD l=>j7 (K:=K) (a:=lo) (xs:=(d.map (·.1)).map V.str) (λY ae af=>∃v0,ae=[v0,some (.ref aj)]/\af=upd j D (.lst ((((d.map (·.1)).take Y).filter λz=>zb (.str z) (g.2.map V.str)).map V.str))) ⟨none,rfl,rfl⟩
    (λY ae af _ ⟨_,_,e⟩=>e▸.of (qt ab l)) ?_ ?_⟩
   ·rintro Y y ae af L ⟨v0,rfl,rfl⟩;rw[tu]at L;cases e:(d.map (·.1))[Y]? with
    | none=>rw[e]at L;cases L
    | some z=>
     rw[e]at L;obtain rfl:=(tF.inj L).symm;refine⟨_,rfl,_,rfl,aj,_,1,_,rfl,rfl,.of (qt a l),rfl,qq,_,rfl,.inr (.of (qt b l)),rfl,zc _,_,rfl,?_⟩;have et:((d.map (·.1)).take (Y+1)).filter (λz=>zb (.str z) (g.2.map V.str))=((d.map (·.1)).take Y).filter (λz=>zb (.str z) (g.2.map V.str))++if zb (.str z) (g.2.map V.str)=true then [z] else []:=by
      rw[tN,e,zay];congr 1;cases L:zb (.str z) (g.2.map V.str)
      ·simp [L]
      ·simp [L]
     rw[et];show if zb (.str z) (g.2.map V.str)=true then _ else _
     cases L:zb (.str z) (g.2.map V.str) with
     | true=>
      refine jX ⟨_,rfl,_,qc,?_,_,rfl,?_⟩
      ·rw[tc];refine ql (t8 (zam _ _) ?_);rw[tL,tc];omega
      ·rw[jT,if_pos rfl,tA];rfl
     | false=>
      refine jo ⟨_,rfl,?_⟩;rw[if_neg tK,zaj]
   ·rintro ae af ⟨v0,rfl,rfl⟩;have L:((d.map (·.1)).take ((d.map (·.1)).map V.str).length).filter (λz=>zb (.str z) (g.2.map V.str))=j5 d g:=by
     rw[tc,tv (tp _)];rfl
    rw[L];have L:(d.map (·.1))[i]?=some g.1:=by rw[tu,U];rfl
    have Y:=JY (by rw[ek];exact QS o.good.nd L);have lk:O.length < zeq:=by
     have:=congrArg zas ek;rw[tc,tc,tL,tc]at this;exact ql (by omega)
    refine⟨_,rfl,x,r,m,_,_,rfl,qt aa l,C.cl,C.nr,IP _ _,_,rfl,aj,_,0,_,rfl,rfl,.of (qt a l),rfl,p,_,rfl,Jv.k (k:=(Sum.inr g.1:qZ)) (qt ac l) lk,⟨_,Qd O (Sum.inr g.1) (.ref D),rfl,?_,?_,qc,?_,λr d=>?_,?_⟩⟩
    ·rw[qf (Ne.symm ai)];exact qt aa l
    ·rw[qf (Ne.symm ao)];exact qt ab l
    ·rw[VN _ Y,ek,tN,L,tA];rfl
    ·rw[tN,U]at d;rcases tQ.mp d with h | h
     ·obtain⟨L,d,U⟩:=hv r h;refine⟨L,?_,?_⟩
      ·rw[Qe,if_neg]
       ·exact d
       ·intro z;rw[z,Y]at d;cases d
      ·have n1:L≠p:=nq ac U;rw[qf n1];exact qt U l
     ·have d:r=g:=by simpa using h
      subst d;refine⟨D,?_,?_⟩
      ·rw[Qe,if_pos rfl]
      ·rw[qf (Ne.symm ((λh e=>by rw[e,l]at h;cases h) ac))];exact qc
    ·exact(fr.new l).own ap
  ·rintro J j ⟨v,O,rfl,aa,ab,ac,ek,hv,fr⟩;rw[tv (by rw[tc,o.rows.1];exact tp _)]at hv;exact q j ⟨m,lo,p,O,aa,ab,ac,hv⟩ fr
def Iq:qk ["self"] ["self"] (qg Xg):=jM
def Z9(F:jq K "names" "Ground.names" Xg f d)(C:Hn K mg b e g)(G:QB mg):qp P w K mg base q5 1 f d ["self"] (KI b):=by
 refine F.okK Iq λH Q E hr h=>?_;obtain⟨a,_,rfl,⟨d,lo,_,_,e,g,_,_⟩,q⟩:=h;exact⟨_,qe (qo (jF Qj (by rfl) G.lst boot_list (jc (Jq (jv 0) rfl)))),⟨_,rfl,a,b,d,_,_,rfl,e,C.cl,C.no,lkO _ _,lo,_,rfl,.inl (.of g),q⟩⟩
abbrev IN:List Str:=["self","name"]
def Ir:qk IN IN (qg VJ):=jM
def ZN(F:jq K "roads_from" "Ground.roads_from" VJ f b)(C:Hn K mg d e g)(B:QL mg)(G:QB mg)(T:Qv K mg)(hN:qM K mg "is_name" zQ ["thing"] i j):qp P w K mg base q5 2 f b IN (Md d):=by
 refine F.okK Ir λH Q E hr h=>?_;obtain⟨a,_,b,rfl,m,o,e,q⟩:=h;refine⟨_,qd (qA (zi (Jp (jA (qE hN (pin P w mg base (VU hN.fn B T)) (jc (jv 1))))) (JU (QG (J9 (jv 1) (Jq (jv 0) rfl))))).pt qS qr)
  (qe (qo (jF Qj (by rfl) G.lst boot_list (jc (qO (Jq (jv 0) rfl) (jv 1)))))),?_⟩
 refine⟨_,rfl,b.1,rfl,e,λg i=>⟨_,rfl,jo ?_⟩⟩;obtain⟨j,lo,e,_,l,_,p,r⟩:=m.mono i;obtain⟨m,u,x⟩:=r b o;have o:jZ g e (.str b.1) (some (.ref m)):=by
  have:=jZ.k (k:=(Sum.inr b.1:qZ)) p;rwa [u]at this
 exact⟨_,rfl,_,rfl,a,d,j,_,_,rfl,l,C.cl,C.nr,IP _ _,e,_,rfl,o,_,rfl,jo ⟨_,rfl,a,d,j,_,_,rfl,l,C.cl,C.nr,IP _ _,_,rfl,e,_,rfl,o,m,_,rfl,.inl (.of x),λb d=>q g b i d⟩⟩
open PyProof.Rows hiding K lo
abbrev QE:Stmt:=top 3
abbrev Ys:Stmt:=top 4
abbrev ju:=List (Str×List Str)
def QM(rs:ju)(z:Str):List Str:=match rs.find? (λa=>decide (a.1=z)) with
 | some a=>j5 rs a
 | none=>[]
def Wj:∀{rs:ju} {r:Str×List Str},(rs.map (·.1)).Nodup->r∈rs->rs.find? (λq=>decide (q.1=r.1))=some r
 | a::rs,r,b,h=>by
  rw[tV,zak]at b;rcases tH.mp h with rfl | h
  ·simp [zbw]
  ·have:¬a.1=r.1:=λe=>b.1 (e▸tz.mpr ⟨r,h,rfl⟩);simp only[zbw,decide_eq_false this];exact Wj b.2 h
def Jf{rs:ju}(a:(rs.map (·.1)).Nodup)(h:r∈rs):QM rs r.1=j5 rs r:=by
 unfold QM;rw[Wj a h]
def vj(h:y∈j5 rs r):∃a∈rs,a.1=y:=by
 obtain⟨a,b,d⟩:=tz.mp (tP.mp h).1;exact⟨a,b,d⟩
def Ay{a:List Str}:zb (.str z) (a.map V.str)=true↔z∈a:=by
 refine⟨λh=>?_,Ub⟩;unfold zb at h;obtain⟨y,a,e⟩:=zbn.mp h;obtain⟨x,b,rfl⟩:=tz.mp a;have a:(x==z)=true:=e;rw[beq_iff_eq]at a;exact a▸b
def Gc(g:qu rs)(h:r∈rs):y∈j5 rs r↔y∈r.2:=by
 unfold j5;rw[tP,Ay];exact⟨λz=>z.2,λz=>⟨g.to r h y z,z⟩⟩
def Qg{rs:ju}(b:(rs.map (·.1)).Nodup):∀z∈rs.map (·.1),∀y∈QM rs z,y∈rs.map (·.1):=λz d y a=>by
 obtain⟨_,hr,rfl⟩:=tz.mp d;rw[Jf b hr]at a;obtain⟨b,d,rfl⟩:=vj a;exact tz.mpr ⟨b,d,rfl⟩
def Zp:∀{l m:List α},l.Nodup->(∀z∈l,z∈m)->l.length<=m.length
 | [],m,_,_=>zao _
 | a::l,m,hn,h=>by
  classical
  rw[zak]at hn;have ha:=h a tX;have:=Zp hn.2 λz hz=>(zca (λ(e:z=a)=>hn.1 (e▸hz))).mpr (h z (tU _ hz));rw[zcl ha]at this;have:=zaG ha;rw[zae];omega
def YB:∀{more a:List (qZ×V)},(more.map (·.1)).Nodup->(∀k∈more.map (·.1),¬k∈a.map (·.1))->Jn a more=a++more
 | [],a,_,_=>(zaj _).symm
 | b::more,a,d,h=>by
  rw[tV,zak]at d;show Jn (Qd a b.1 b.2) more=_;rw[Q3 b.2 (JY (h b.1 (by simp))),YB d.2]
  ·rw[zcF];rfl
  ·intro k a m;rw[tA]at m;rcases tQ.mp m with m | m
   ·exact h k (by rw[tV];exact tU _ a) m
   ·have:k=b.1:=by simpa using m
    subst this;exact d.1 a
structure ND(K:zel)(C:Addr)(m qual:Str)(st:Stmt)(ps:List Str)(f:Addr)(fd:zep):Prop where
 fn:jq K m qual st f fd
 me:WM K C m f
 bi:jy K fd ps []
def xu{X:Cx}{C f:Addr}{a:zep}{m qual:Str}{st:Stmt}{ps:List Str}{k:Nat}{b:Sp}{o:Expr}{d:TE}{c_ pos:Pos}{pl:Sem Bool}(h:ND X.K C m qual st ps f a)(c:WC X.K C)(G:qp X.prog X.w X.K X.mg X.base q5 k f a ps b)(hr:ji k X.A)(g:JE X o d)
 (i:eval (.Call (.Attribute o m c_) [] [] pos) X.env=(do
  let e <-eval o X.env
  standAt c_.atName
  let (f,first) <-holding [e] (getMethod e m pl)
  callWith pos f first (backTo pos (starEach [] X.env)) (backToKw pos (keywordEach [] X.env))):=by rfl):
 JE X (.Call (.Attribute o m c_) [] [] pos) (WR C m b [] E0 d Q1):=RT g c h.me G hr h.bi .nil Qy i
def Vg{X:Cx}{C f:Addr}{b:zep}{m qual:Str}{st:Stmt}{ps:List Str}{k:Nat}{d:Sp}{o e:Expr}{a:List Expr}{g:TE}{t:TA}{c_ pos:Pos}{pl:Sem Bool}(h:ND X.K C m qual st ps f b)(c:WC X.K C)(G:qp X.prog X.w X.K X.mg X.base q5 k f b ps d)(hr:ji k X.A)(j:JE X o g)(l:JA X (e::a) t)
 (p:starEach (e::a) X.env=(false,eval e X.env)::starEach a X.env:=by rfl) (q:(backTo pos (starEach a X.env)).any (·.1)=false:=by rfl)
 (r:eval (.Call (.Attribute o m c_) (e::a) [] pos) X.env=(do
  let i <-eval o X.env
  standAt c_.atName
  let (f,first) <-holding [i] (getMethod i m pl)
  callWith pos f first (backTo pos (starEach (e::a) X.env)) (backToKw pos (keywordEach [] X.env))):=by rfl):
 JE X (.Call (.Attribute o m c_) (e::a) [] pos) (WR C m d [] E0 g t):=Av j c h.me G hr h.bi .nil Qy l p q r
structure GM(K:zel)(mg:Str->Option Value)(CG:Addr):Prop where
 cls:∃f fd,Hn K mg CG f fd
 nm:∃f fd,ND K CG "names" "Ground.names" Xg ["self"] f fd
 fr:∃f fd,ND K CG "roads_from" "Ground.roads_from" VJ ["self","name"] f fd
 isn:∃f fd,qM K mg "is_name" zQ ["thing"] f fd
def Qk.ins(h:Qk d H a rs):∃b fs,H a=some (.ins d b fs)/\fs.lookup (zem "names")=none/\fs.lookup (zem "roads_from")=none:=by
 obtain⟨b,lo,_,_,d,_⟩:=h;refine⟨b,_,d,?_,?_⟩
 ·have b:((zem "names")==(zem "order"))=false:=by decide+kernel
  have d:((zem "names")==(zem "roads"))=false:=by decide+kernel
  simp only[zbc];rw[b,d]
 ·have b:((zem "roads_from")==(zem "order"))=false:=by decide+kernel
  have d:((zem "roads_from")==(zem "roads"))=false:=by decide+kernel
  simp only[zbc];rw[b,d]
def RD{rs:ju}{i:Nat}{y:V}(h:((rs.map (·.1)).map V.str)[i]?=some y):∃r,rs[i]?=some r/\r∈rs/\y=.str r.1:=by
 rw[tu,tu]at h;cases e:rs[i]? with
 | none=>rw[e]at h;cases h
 | some r=>rw[e]at h;exact⟨r,rfl,tW e,(tF.inj h).symm⟩
def jU{a:List Str}{i:Nat}{y:V}(h:(a.map V.str)[i]?=some y):∃z,a[i]?=some z/\z∈a/\y=.str z:=by
 rw[tu]at h;cases e:a[i]? with
 | none=>rw[e]at h;cases h
 | some z=>rw[e]at h;exact⟨z,rfl,tW e,(tF.inj h).symm⟩
def Yu(r:Str×List Str):(j5 rs r).length<=rs.length:=by
 have:=zam (λz=>zb (.str z) (r.2.map V.str)) (rs.map (·.1));rwa [tc]at this
def qI{c:Bool}{A B:Prop}(a:c=false)(h:B):if c=true then A else B:=by
 rw[a];exact jo h
def qK{c:Bool}{A B:Prop}(a:c=true)(h:A):if c=true then A else B:=by
 rwa [if_pos a]
def yh{a:List (qZ×V)}:∀{i:Nat} {k:qZ} {v:V},(a.map (·.1)).Nodup->a[i]?=some (k,v)->jw a k=some v:=by
 induction a with
 | nil=>intro i k v _ e;simp at e
 | cons b a d=>
  intro i k v a e;rw[tV,zak]at a;cases i with
  | zero=>
   rw[List.getElem?_cons_zero]at e;obtain rfl:=tF.inj e;exact jH rfl
  | succ i=>
   rw[List.getElem?_cons_succ]at e;have:¬b.1=k:=λz=>a.1 (z▸tz.mpr ⟨_,tW e,rfl⟩);rw[jI this];exact d a.2 e
def VM:∀(ps:List Addr) (rs:ju),jR H ps rs->∃d:List Addr,d.length=rs.length/\∀(i:Nat) (p q:Addr) (r:Str×List Str),ps[i]?=some p->rs[i]?=some r->d[i]?=some q->H p=some (.tup [.str r.1,.ref q])/\H q=some (.tup (r.2.map V.str))
 | [],[],_=>⟨[],rfl,λi p q r e=>by simp at e⟩
 | [],_::_,h=>by cases h.1
 | _::_,[],h=>by cases h.1
 | p::ps,r::rs,h=>by
  obtain⟨d,j,k⟩:=VM ps rs ⟨zdc.inj h.1,λi a b f g=>h.2 (i+1) a b (by simpa using f) (by simpa using g)⟩;obtain⟨q,a,b⟩:=h.2 0 p r rfl rfl;refine⟨q::d,by simp [j],λi j l m f g d=>?_⟩;cases i with
  | zero=>cases f;cases g;cases d;exact⟨a,b⟩
  | succ i=>exact k i j l m (by simpa using f) (by simpa using g) (by simpa using d)
def zC(rs:ju)(a:List Addr):List (qZ×V):=List.zipWith (λb q=>((Sum.inr b.1:qZ),V.ref q)) rs a
def J8:∀{rs:ju} {a:List Addr},a.length=rs.length->(zC rs a).map (·.1)=(rs.map (·.1)).map Sum.inr
 | [],[],_=>rfl
 | [],_::_,h=>by cases h
 | _::_,[],h=>by cases h
 | b::rs,q::a,h=>by
  show Sum.inr b.1::(zC rs a).map (·.1)=_;rw[J8 (zdc.inj h)];rfl
def ZP{rs:ju}{a:List Addr}(h:a.length=rs.length):(zC rs a).length=rs.length:=by
 have:=congrArg zas (J8 h);simpa using this
def V4{rs:ju}{a:List Addr}(h:a.length=rs.length){i:Nat}{r:Str×List Str}(e:rs[i]?=some r):∃q,a[i]?=some q/\(zC rs a)[i]?=some (Sum.inr r.1,.ref q):=by
 have b:i < a.length:=by rw[h];exact(td.mp e).1
 refine⟨a[i],tj b,?_⟩;unfold zC;rw[List.getElem?_zipWith,e,tj b]
def vA{rs:ju}{a:List Addr}(h:a.length=rs.length){i:Nat}{kv:qZ×V}(e:(zC rs a)[i]?=some kv):∃r q,rs[i]?=some r/\a[i]?=some q/\kv=(Sum.inr r.1,.ref q):=by
 have a:i < rs.length:=by rw[<-ZP h];exact(td.mp e).1
 obtain⟨q,b,d⟩:=V4 h (tj a);rw[d]at e;exact⟨_,q,tj a,b,(tF.inj e).symm⟩
def xy(g:qu rs)(h:r∈rs):y∈QM rs r.1↔y∈r.2:=by
 rw[Jf g.nd h];exact Gc g h
def RI:∀{l:List Nat} {x:Nat},x∈l->x<=l.sum
 | a::l,x,h=>by
  rw[zaT];rcases tH.mp h with e | h
  ·omega
  ·have:=RI h;omega
def qu.two(g:qu rs)(h:r∈rs):r.2.length<=40:=by
 exact t8 (RI (tz.mpr ⟨r,h,rfl⟩)) g.few
def Du{Q:List V->Hp->Prop}(h:Q [] H):Q1 a H Q:=h
def jb(s:Same H H')(h:H' a=none):H a=none:=by
 cases z:H a with
 | none=>rfl
 | some u=>rw[s _ _ z]at h;cases h
def X5(h:jm z=true):(∀c∈z.cps.toList,c<=122)/\z.length<=8/\1<=z.length:=by
 unfold jm at h;simp only[zar,decide_eq_true_eq]at h;refine⟨λc a=>?_,h.1.2,h.1.1⟩;have:=zaK.mp h.2 c a;unfold j9 at this;simp only[zar,decide_eq_true_eq]at this;exact this.2
def zY(h:jm z=true):PyData.strOk z=true:=by
 unfold PyData.strOk;rw[Array.all_eq_true_iff_forall_mem];intro c a;have:=(X5 h).1 c (by simpa using a);exact decide_eq_true (by omega)
def dL(a:List Str):PyData:=.list (a.map PyData.str)
def vW:∀a:List Str,DVs K H (a.map V.str) (a.map PyData.str)
 | []=>.nil
 | z::a=>.cons (.str z) (vW a)
def Em{H:Hp}{a:List Str}(h:H p=some (.lst (a.map V.str))):DV K H (.ref p) (dL a):=.lst (.of h) (vW a)
def Ea:∀{a:List Str},(∀z∈a,jm z=true)->PyData.canLayAll0 (a.map PyData.str)=true
 | [],_=>rfl
 | z::a,h=>by
  rw[tV,PyData.canLayAll0,Ea λy a=>h y (tU _ a),Bool.and_true];exact zY (h z tX)
def F6:∀a:List Str,PyData.depthAll (a.map PyData.str)=0
 | []=>rfl
 | z::a=>by
  rw[tV];simp only[PyData.depthAll,PyData.depth,F6 a];rfl
def shL{a:List Str}(h:∀z∈a,jm z=true):PySem.SeqAt.shaped (dL a)=true:=by
 unfold PySem.SeqAt.shaped;rw[zar];refine⟨Ea h,decide_eq_true ?_⟩;unfold dL;simp only[PyData.depth,F6 a];decide
def Nq{K:zel}{H:Hp}{l:Addr}{ps:List Addr}{rs:ju}(g:jJ H l ps rs){Q:VK}
  (q:∀f d,H f=none->d.map (·.1)=(rs.map (·.1)).map Sum.inr->(∀r∈rs,∃t,jw d (Sum.inr r.1:qZ)=some (.ref t)/\H t=some (.tup (r.2.map V.str)))->Q (.ref f) (upd H f (.dK d))):Gs K [.ref l] H Q:=by
 obtain⟨j,d,o⟩:=VM ps rs g.rows;have le:=g.le;refine⟨l,ps,zC rs j,rfl,.of g.at_,by rw[ZP d,g.rows.1],λi a _ p u=>?_,by rw[ZP d];omega,λf x=>?_⟩
 ·obtain⟨y,z,f1,f2,rfl⟩:=vA d u;exact .of (o i a z y p f1 f2).1
 have p:((zC rs j).map (·.1)).Nodup:=by
  rw[J8 d];exact J6 g.good.nd λa _ b _ e=>Sum.inr.inj e
 rw[YB p (λk _ m=>by simp at m),zcP];refine q f _ x (J8 d) λr hr=>?_;obtain⟨u,f⟩:=zaS hr;obtain⟨j,x,y⟩:=V4 d f;have d:=(td.mp f).1;exact⟨j,yh p y,(o u _ j r (tj (g.rows.1▸d)) f x).2⟩
def Nt(x:Int):Builtin.bitNot (Builtin.bitNot x)=x:=by unfold Builtin.bitNot;omega
def bo(a b:Nat):Builtin.bitOr a b=((a ||| b:Nat):Int):=by
 have e:Builtin.bitAnd (Builtin.bitNot a) (Builtin.bitNot b)=Builtin.bitNot (((Builtin.bitNot (Builtin.bitNot a)).toNat ||| (Builtin.bitNot (Builtin.bitNot b)).toNat:Nat):Int):=by
  unfold Builtin.bitAnd;rw[decide_eq_false (by unfold Builtin.bitNot;omega),decide_eq_false (by unfold Builtin.bitNot;omega)]
 unfold Builtin.bitOr;rw[e,Nt,Nt,Nt,zaL,zaL]
def ba(a b:Nat):Builtin.bitAnd a b=((a&&& b:Nat):Int):=by
 unfold Builtin.bitAnd;rw[decide_eq_true (zda a),decide_eq_true (zda b)];rfl
def Jw(ns:List Nat):List V:=ns.map λn=>V.int (n:Nat)
def QY(ns:List Nat):(Jw ns).length=ns.length:=tc ..
def Xn{ns:List Nat}{i:Nat}{x:V}(h:(Jw ns)[i]?=some x):∃n:Nat,ns[i]?=some n/\x=.int n:=by
 unfold Jw at h;rw[tu]at h;cases e:ns[i]? with
 | none=>rw[e]at h;cases h
 | some n=>rw[e]at h;exact⟨n,rfl,(tF.inj h).symm⟩
def Z3{ns:List Nat}{i n:Nat}(h:ns[i]?=some n):ns.take (i+1)=ns.take i++[n]:=by
 rw[tN,h];rfl
def z8(ns:List Nat)(n:Nat):Jw ns++[V.int (n:Nat)]=Jw (ns++[n]):=by unfold Jw;rw[tA];rfl
def ZW(ns:List Nat):(Jw ns).all zj=true:=by
 unfold Jw;rw[zcV];exact zaK.mpr λ_ _=>rfl
def YI(ns:List Nat)(n:Nat):zb (.int (n:Nat)) (Jw ns)=decide (n∈ns):=by
 unfold zb Jw;rw[List.any_map,zba,zbn,decide_eq_true_iff];constructor
 ·rintro⟨y,hy,e⟩;have:y=n:=by
   have:=eq_of_beq e;omega
  exact this▸hy
 ·refine λh=>⟨n,h,?_⟩;show ((n:Int)==(n:Int))=true;simp
inductive XB(K:zel)(vs:List V)(H:Hp)(Q:VK):Prop
 | mk (a:Addr) (ns:List Nat):vs=[.ref a]->(SqL K H a (Jw ns))->(ns.length<=1000)->(∀H',Same H H'->Q (.int (Rb.lackN ns:Nat)) H')->XB K vs H Q
def x8(K:zel):Sp:=λa H Q _=>XB K a H Q
inductive UN(K:zel)(vs:List V)(H:Hp)(Q:VK):Prop
 | mk (a:Addr) (ns:List Nat):vs=[.ref a]->(SqL K H a (Jw ns))->((∀x∈ns,x < 1000))->(Q (.int (Rb.setN ns:Nat)) H)->UN K vs H Q
def N3(K:zel):Sp:=λa H Q _=>UN K a H Q
def Mm:qk ["numbers","bits","number"] ["numbers"] (qg Ys):=jM
def vq{P:Program}{w:World}{K:zel}{mg:Str->Option Value}{base:Heap}{f:Addr}{b:zep}(F:jq K "set_of" "set_of" Ys f b):qp P w K mg base q5 1 f b ["numbers"] (N3 K):=by
 refine F.okK Mm λH Q E hr h=>?_;obtain⟨a,g,rfl,j,l,q⟩:=h;refine⟨_,qd (qy 1 qh)
  (qd (qX (qB (jv 0)) (qF 2) (qe (qy 1 (qN BO (jv 1) (qN GN qh (jv 2))))))
  (qe (qo (jv 1)))),?_⟩
 refine⟨_,rfl,a,rfl,⟨_,j⟩,je (λi b d=>∃v,b=[some (.ref a),some (.int ((Rb.setN (g.take i):Nat):Int)),v]/\d=H) ⟨none,rfl,rfl⟩ (λi b d _ ⟨_,_,e⟩=>e▸j) ?_ ?_⟩
 ·rintro i x b d m ⟨v,rfl,rfl⟩;obtain⟨n,j,rfl⟩:=Xn m;have n1:=l n (tW j);have l:(1:Int)*2^ ((n:Nat):Int).toNat=((2^n:Nat):Int):=by rw[zaL,Int.one_mul];push_cast;rfl
  have e:((Rb.setN (g.take (i+1)):Nat):Int)=Builtin.bitOr (Rb.setN (g.take i):Nat) ((1:Int)*2^ ((n:Nat):Int).toNat):=by rw[l,bo,Z3 j,Rb.setN_snoc]
  refine⟨_,rfl,_,rfl,_,_,rfl,rfl,⟨by omega,by omega,by decide⟩,_,_,rfl,rfl,some (.int n),?_,rfl⟩;rw[e];rfl
 ·rintro b d ⟨v,rfl,rfl⟩;refine⟨_,rfl,?_⟩;rwa [QY,tv (tp _)]
def W5:qk ["numbers","there","number","least"] ["numbers"] (qg QE):=jM
def X0{P:Program}{w:World}{K:zel}{mg:Str->Option Value}{base:Heap}{f:Addr}{b:zep}(F:jq K "lacking" "lacking" QE f b):qp P w K mg base q5 1 f b ["numbers"] (x8 K):=by
 refine F.okK W5 λH Q E hr h=>?_;obtain⟨a,j,rfl,b,_,q⟩:=h;refine⟨_,qd (qy 1 Qf)
  (qd (qX (qB (jv 0)) (qF 2) (qe (jL (jv 1) (jv 2) Qz)))
  (qd (qy 3 qh)
  (qd (ZQ PassesOwn.never (QG (Zr (jv 3) (jv 1)) (by with_unfolding_all rfl)) (qe (RM (i:=3) W5.nd rfl (Or.inl rfl) qh RZ)))
  (qe (qo (jv 3)))))),?_⟩
 refine λD p=>⟨_,rfl,a,rfl,⟨_,(qi p).seq b⟩,je (K:=K) (a:=a) (xs:=Jw j) (λi d l=>∃v g,d=[some (.ref a),some (.ref D),v,none]/\l=upd H D (.dK g)/\g.length<=i/\∀x:Nat,(jw g (Sum.inl (x:Int):qZ)).isSome=decide (x∈j.take i)) ⟨none,[],rfl,rfl,tp _,λx=>by simp [jw]⟩
  (λi d l _ ⟨_,_,_,e,_⟩=>e▸(qi p).seq b) ?_ ?_⟩
 ·rintro i x d l m ⟨v,g,rfl,rfl,r,o⟩;obtain⟨n,b,rfl⟩:=Xn m;have u:=(td.mp b).1;refine⟨_,rfl,_,rfl,D,_,rfl,Jv.k (k:=(Sum.inl (n:Int):qZ)) qc (ql (by omega)),⟨some (.int n),Qd g (Sum.inl (n:Int)) (.bl true),rfl,jT,?_,λx=>?_⟩⟩
  ·have:=JF g (Sum.inl (n:Int):qZ) (.bl true);omega
  ·rw[Qe,Z3 b];by_cases e:x=n
   ·subst e;simp
   ·have b:¬(Sum.inl (x:Int):qZ)=Sum.inl (n:Int):=λz=>e (by have:=Sum.inl.inj z;omega);rw[if_neg b,o x,zba];simp [e]
 ·rintro d l ⟨v,g,rfl,rfl,r,o⟩;rw[QY,tv (tp _)]at o;refine ZF (λd l=>∃b:Nat,d=[some (.ref a),some (.ref D),v,some (.int b)]/\l=upd H D (.dK g)/\∀x,x < b->x∈j) (λd _=>match d with | [_,_,_,some (.int b)]=>j.length - b.toNat | _=>0) ⟨0,rfl,rfl,λx m=>absurd m (zbP _)⟩ ?_ ?_
  ·rintro d l ⟨b,rfl,rfl,r⟩;refine⟨_,rfl,_,rfl,D,_,rfl,jZ.k (k:=(Sum.inl (b:Int):qZ)) qc,_,rfl,?_⟩;rw[o b];by_cases l:b∈j
   ·rw[decide_eq_true l];have o:=Rb.pigeon (b+1) j λx m=>by
     by_cases e:x=b
     ·rwa [e]
     ·exact r x (by omega)
    refine jX ⟨_,rfl,_,_,rfl,rfl,⟨b+1,rfl,rfl,λx m=>?_⟩,?_⟩
    ·by_cases e:x=b
     ·rwa [e]
     ·exact r x (by omega)
    ·show j.length - ((b:Int)+1).toNat < j.length - (b:Int).toNat;omega
   ·rw[decide_eq_false l];refine jo ⟨_,rfl,?_⟩;have e:=Rb.lackN_eq ⟨l,r⟩;have:=q _ (qi (o:=.dK g) p);rwa [<-e]at this
  ·rintro d H Q _ b ⟨v,e,w,g,a,j,l,m,k,o,q⟩;exact⟨v,e,w,g,a,j,l,m,k,o,b _ _ q⟩
open PySem L2 MLab
open PyProof.Rows hiding K lo
abbrev Bv:Stmt:=top 48
abbrev XN:Stmt:=top 49
abbrev Yt:Stmt:=top 50
abbrev vh:Stmt:=top 51
abbrev VI:Stmt:=top 52
abbrev Jb:Stmt:=top 53
structure jE(N:List Str)(H:Hp)(d:Addr)(f:Str->Option Nat):Prop where
 at_:∃kvs:List (qZ×V),H d=some (.dK kvs)/\(∀z:Str,jw kvs (Sum.inr z:qZ)=(f z).map λn=>V.int (n:Nat))/\(kvs.map (·.1)).Nodup/\∀k∈kvs.map (·.1),k∈N.map (Sum.inr:Str->qZ)
def jE.mono(h:jE N H d f)(s:Same H H'):jE N H' d f:=⟨let ⟨e,a,b⟩:=h.at_;⟨e,s _ _ a,b⟩⟩
def jE.get(h:jE N H d f)(z:Str):jZ H d (.str z) ((f z).map λn=>V.int (n:Nat)):=by
 obtain⟨_,a,b,_⟩:=h.at_;rw[<-b z];exact jZ.k (k:=(Sum.inr z:qZ)) a
def jE.isd(h:jE N H d f):∃b:List (qZ×V),H d=some (.dK b):=let ⟨b,a,_⟩:=h.at_;⟨b,a⟩
def jE.put(h:jE N H d f)(l:z∈N)(i:f z=none)(le:N.length<=14):∃H',Jv H d (.str z) (.int (n:Nat)) H'/\jE N H' d (λy=>if y=z then some n else f y)/\∃o,H'=upd H d o:=by
 obtain⟨g,a,b,j,sub⟩:=h.at_;have ln:g.length<=14:=by
  have:=Zp j sub;rw[tc,tc]at this;omega
 refine⟨_,Jv.k (k:=(Sum.inr z:qZ)) a (ql (by omega)),⟨Qd g (Sum.inr z) (.int (n:Nat)),qc,λy=>?_,?_,?_⟩,_,rfl⟩
 ·rw[Qe];by_cases e:y=z
  ·subst e;rw[if_pos rfl,if_pos rfl];rfl
  ·rw[if_neg e,if_neg (λq=>e (Sum.inr.inj q))];exact b y
 ·rw[Q3 _ (by rw[b z,i];rfl),tA];refine zcB.mpr ⟨j,zcw _ _,λx j y m e=>?_⟩;have p:y=Sum.inr z:=by simpa using m
  subst p;subst e;have:(jw g (Sum.inr z:qZ)).isSome=true:=by
   obtain⟨m,p,r⟩:=tz.mp j;have j:(g.any λu=>decide (u.1=(Sum.inr z:qZ)))=true:=zbn.mpr ⟨m,p,decide_eq_true r⟩;rwa [Q0]at j
  rw[b z,i]at this;cases this
 ·rw[Q3 _ (by rw[b z,i];rfl),tA];intro k g;rcases tQ.mp g with g | g
  ·exact sub k g
  ·have:k=Sum.inr z:=by simpa using g
   rw[this];exact tz.mpr ⟨z,l,rfl⟩
def QW(rs:ju)(f:Str->Option Nat)(z:Str):List Nat:=(QM rs z).filterMap f
def jz:n∈QW rs f z↔∃y∈QM rs z,f y=some n:=zaH
def Xq(z:Str):(QM rs z).length<=rs.length:=by
 unfold QM;split
 ·exact Yu _
 ·exact zao _
def vR(rs:ju)(f:Str->Option Nat)(z:Str):List Str:=(QM rs z).filter λy=>(f y).isNone
def Ya(rs:ju)(f:Str->Option Nat)(z:Str)(n:Nat):Bool:=decide (Rb.lackN (QW rs f z)=n)&&(vR rs f z).all λy=>decide (n∈QW rs f y)
def uy:Ya rs f z n=true↔Y6 (QM rs) f z n:=by
 unfold Ya Y6 vR;rw[zar,decide_eq_true_iff,zaK];have lk:Rb.Lacks (Rb.lackN (QW rs f z)) (QW rs f z):=Rb.lackI_lacks _;constructor
 ·rintro⟨rfl,h⟩;exact⟨λa b=>jz.mp (lk.2 a b),λy a e=>lk.1 (jz.mpr ⟨y,a,e⟩),λy a e=>jz.mp (of_decide_eq_true (h y (tP.mpr ⟨a,by rw[e];rfl⟩)))⟩
 ·rintro⟨b,d,g⟩;refine⟨(Rb.lackN_eq ⟨λm=>?_,λx i=>jz.mpr (b x i)⟩).symm,λy a=>decide_eq_true ?_⟩
  ·obtain⟨y,a,e⟩:=jz.mp m;exact d y a e
  ·obtain⟨b,d⟩:=tP.mp a;exact jz.mpr (g y b (by simpa using d))
def Gb(rs:ju)(f:Str->Option Nat)(n:Nat):List Str:=((rs.map (·.1)).filter λz=>(f z).isNone).filter λz=>Ya rs f z n
def MH(rs:ju)(R:Rs Str)(n:Nat):vZ (QM rs) (rs.map (·.1)) R n (Gb rs (qz R) n):=⟨λx=>by
 unfold Gb;rw[tP,tP,uy];constructor
 ·rintro⟨⟨a,b⟩,c⟩;exact⟨a,by simpa using b,c⟩
 ·rintro⟨a,b,c⟩;exact⟨⟨a,by rw[b];rfl⟩,c⟩,zbk.trans zbk⟩
inductive Bk(CG:Addr)(vs:List V)(H:Hp)(Q:VK):Prop
 | mk (g d:Addr) (rs:ju) (z:Str) (f:Str->Option Nat):vs=[.ref g,.ref d,.str z]->Qk CG H g rs->qu rs->(rs.length<=14)->(z∈rs.map (·.1))->(jE (rs.map (·.1)) H d f)->(∀H' l,Same H H'->H l=none->H' l=some (.lst (Jw (QW rs f z)))->Q (.ref l) H')->Bk CG vs H Q
def ES(a:Addr):Sp:=λb H Q _=>Bk a b H Q
inductive yR(CG:Addr)(vs:List V)(H:Hp)(Q:VK):Prop
 | mk (g d:Addr) (rs:ju) (z:Str) (f:Str->Option Nat) (n:Nat):(vs=[.ref g,.ref d,.str z,.int (n:Nat)])->Qk CG H g rs->qu rs->(rs.length<=14)->(z∈rs.map (·.1))->(jE (rs.map (·.1)) H d f)->(∀H',Same H H'->Q (.bl (Ya rs f z n)) H')->yR CG vs H Q
def Ck(a:Addr):Sp:=λb H Q _=>yR a b H Q
inductive UO(CG:Addr)(vs:List V)(H:Hp)(Q:VK):Prop
 | mk (g d:Addr) (rs:ju) (f:Str->Option Nat) (n:Nat):(vs=[.ref g,.ref d,.int (n:Nat)])->Qk CG H g rs->qu rs->(rs.length<=14)->(jE (rs.map (·.1)) H d f)->(∀H' l,Same H H'->H l=none->H' l=some (.lst ((Gb rs f n).map V.str))->Q (.ref l) H')->UO CG vs H Q
def N4(a:Addr):Sp:=λb H Q _=>UO a b H Q
def kD(g:α->Option β)(h:β->V):∀l:List α,(l.filterMap g).map h=l.filterMap λx=>(g x).map h
 | []=>rfl
 | a::l=>by
  rw[zav,zav];cases g a with
  | none=>exact kD g h l
  | some b=>rw[tV,kD g h l];rfl
def Wm(p:Str->Bool):∀l:List Str,(l.filter p).map V.str=l.filterMap λx=>if p x=true then some (V.str x) else none
 | []=>rfl
 | a::l=>by
  rw[zbe,zav];cases p a with
  | false=>exact Wm p l
  | true=>
   rw[if_pos rfl,if_pos rfl,tV,Wm p l]
def xr(f:α->V):∀l:List α,l.map f=l.filterMap λx=>some (f x)
 | []=>rfl
 | a::l=>by rw[tV,zav,xr f l]
abbrev BM:List Str:=["ground","numbered","name"]
def Ic:qk BM BM (qg Bv):=jM
def BP(F:jq K "numbers_behind" "numbers_behind" Bv f a)(B:QL mg)(G:QB mg)(T:Qv K mg)(M:GM K mg b):qp P w K mg base q5 3 f a BM (ES b):=by
 obtain⟨_,_,a⟩:=M.cls;obtain⟨fR,_,e⟩:=M.fr;obtain⟨_,_,g⟩:=M.isn;refine F.okK Ic λH Q E hr h=>?_;obtain⟨i,d,b,z,m,rfl,j,good,_,l,hd,q⟩:=h;refine⟨_,qe (qo (jP (N':=["end","numbered"]) (ix:=[none,some 1]) (qB (Vg e a.cl (pin P w mg base (ZN e.fn a B G T g)) hr (jv 0) (jc (jv 2)))) (λa e o fp _=>
  ⟨qF 0,jt (QG (Zr (jv 0) (jv 1))),qO (jv 1) (jv 0)⟩))),?_⟩
 obtain⟨p,fs,r,_,u⟩:=j.ins;obtain⟨a,g,rfl⟩:=tz.mp l;refine⟨_,rfl,i,p,fs,rfl,r,u,_,rfl,i,b,a,rfl,j,g,good.nm a g,λi le j l=>?_⟩;have e:Same H (upd i le (.lst ((j5 b a).map V.str))):=j.trans (qi l);have j:upd i le (.lst ((j5 b a).map V.str)) le=some (.lst ((j5 b a).map V.str)):=qc;generalize upd i le (.lst ((j5 b a).map V.str))=o at e j;have i:=hd.mono e;refine⟨le,rfl,⟨_,.of j⟩,λW l=>QI (out:=λy=>(m y).map λn=>V.int (n:Nat)) l j (ql (t8 (Yu a) (by omega))) ?_ ?_ ?_⟩
 ·refine λx j b a R k=>⟨_,rfl,_,rfl,d,_,rfl,(i.mono a).get x,_,rfl,k b λ_ _ h=>h⟩
 ·intro x j v m b a R k;have j:=(i.mono a).get x;rw[m]at j;exact⟨_,rfl,_,rfl,d,_,rfl,j,k b λ_ _ h=>h⟩
 ·refine λb a b=>q _ W (e.trans a) (jb e l) ?_;rw[b];congr 2;unfold Jw QW;rw[Jf good.nd g,kD]
abbrev FL:List Str:=["ground","numbered","name","number","bare"]
abbrev Va:List Str:=["ground","numbered","name","number"]
def CF:qk FL Va (qg XN):=jM
def Ab(F:jq K "gets_number" "gets_number" XN f fd)(B:QL mg)(G:QB mg)(T:Qv K mg)(M:GM K mg CG)(L:qM K mg "numbers_behind" Bv BM fB ae)(U:qM K mg "lacking" QE ["numbers"] fL af):qp P w K mg base q5 4 f fd Va (Ck CG):=by
 have GB:=pin P w mg base (BP L.fn B G T M);obtain⟨_,_,o⟩:=M.cls;obtain⟨fR,_,hR⟩:=M.fr;obtain⟨_,_,hN⟩:=M.isn;refine F.okK CF λH Q E hr h=>?_;obtain⟨j,d,a,z,b,n,rfl,p,good,r,O,hd,q⟩:=h;refine⟨_,qd (qA (qj XY (qE U (pin P w mg base (X0 U.fn)) (jc (qE L GB (ZV (jv 0) (jv 1) (jv 2))))) (jv 3)) (qe (qo Qz)) qr)
  (qd (QH (i:=4) (N':=["end","numbered"]) (ix:=[none,some 1]) (qB (Vg hR o.cl (pin P w mg base (ZN hR.fn o B G T hN)) (hr.mono (by decide)) (jv 0) (jc (jv 2)))) (λo U Y fp ac=>
   ⟨qF 0,jt (QG (J9 (jv 0) (jv 1))),jv 0⟩))
  (qe (qo (qx (YL rfl) (by rfl) T.all boot_all (jc (jP (N':=["end","number","ground","numbered"]) (ix:=[none,some 3,some 0,some 1]) (te:=J0 (Er K false) (jg 1) (Xz (ES CG) [] E0 (jd (jg 2) (jd (jg 3) (jd (jg 0) Q1))))) (qB (jv 4)) (λo U Y fp ac=>
   ⟨qF 0,j2,Qc J4 (jv 1) (qE L GB (ZV (jv 2) (jv 3) (jv 0))) (by with_unfolding_all rfl)⟩))))))),?_⟩
 refine⟨_,rfl,_,rfl,_,rfl,j,d,a,z,b,rfl,p,good,r,O,hd,λ_ g o _ i=>?_⟩;have ln:∀y,(QW a b y).length<=14:=λy=>t8 (zaO _ _) (t8 (Xq y) r);refine⟨g,_,rfl,.of i,by have:=ln z;omega,λY U=>⟨_,rfl,rfl,_,rfl,?_⟩⟩;have u:=o.trans U;by_cases c:Rb.lackN (QW a b z)=n
 ·refine qI (by rw[c];simp) ?_;obtain⟨dx,fs,hg,_,e2⟩:=(p.mono u).ins;obtain⟨g,aa,rfl⟩:=tz.mp O;refine⟨_,rfl,j,dx,fs,rfl,hg,e2,_,rfl,j,a,g,rfl,p.mono u,aa,good.nm g aa,λo le L U=>?_⟩;have s4:Same H (upd o le (.lst ((j5 a g).map V.str))):=u.trans (L.trans (qi U));have L:upd o le (.lst ((j5 a g).map V.str)) le=some (.lst ((j5 a g).map V.str)):=qc;generalize upd o le (.lst ((j5 a g).map V.str))=U at s4 L;refine⟨le,rfl,⟨_,.of L⟩,λW i=>QI (out:=λy=>if (b y).isNone=true then some (V.str y) else none) i L (ql (t8 (Yu g) (by omega))) ?_ ?_ ?_⟩
  ·refine λx C i D R k=>⟨_,rfl,_,rfl,d,_,rfl,((hd.mono s4).mono D).get x,_,rfl,?_⟩;have:=k i λ_ _ h=>h;cases e:b x with
   | none=>rwa [e]at this
   | some m=>rwa [e]at this
  ·intro x C v l i D R k;have:v=V.str x:=by
    split at l
    ·exact(tF.inj l).symm
    ·cases l
   subst this;exact⟨_,rfl,k i λ_ _ h=>h⟩
  ·intro _ D o;rw[<-Wm (λy=>(b y).isNone),<-Jf good.nd aa]at o;have L:=o;have ab:=s4.trans D;refine⟨_,rfl,W,rfl,⟨_,.of L⟩,λo D=>?_⟩;have bl:(vR a b g.1).length<=14:=t8 (zam _ _) (t8 (Xq g.1) r);refine QI (a:=W) (xs:=vR a b g.1) (enc:=V.str) (out:=λy=>some (V.bl (decide (n∈QW a b y)))) (rest:=[some (.int (n:Nat)),some (.ref j),some (.ref d)]) D L (ql (by omega)) ?_ ?_ ?_
   ·exact λx C i J R k=>k i λ_ _ h=>h
   ·intro x C v l i J R k;obtain rfl:=tF.inj l;have i:=ab.trans J;refine⟨_,rfl,_,rfl,_,rfl,_,rfl,j,d,a,x,b,rfl,p.mono i,good,r,Qg good.nd _ O x (tP.mp C).1,hd.mono i,λi j l _ p=>⟨j,_,rfl,.inl (.of p),rfl,ZW _,?_⟩⟩;rw[YI];exact k i l
   ·intro j J i;rw[<-xr]at i;refine⟨o,(vR a b g.1).map λy=>decide (n∈QW a b y),rfl,.of (by rw[i,zaz];rfl),?_⟩;have:=q j (ab.trans J);unfold Ya at this;rw[decide_eq_true c,Bool.true_and]at this;rwa [zcV]
 ·refine qK (by
   have:¬V.int ((Rb.lackN (QW a b z):Nat):Int)=V.int ((n:Nat):Int):=λe=>c (by have:=V.int.inj e;omega);rw[decide_eq_false this];rfl) ?_
  have:=q Y u;unfold Ya at this;rwa [decide_eq_false c,zcZ]at this
open PySem L2 MLab
open PyProof.Rows hiding K lo
def jC(H:Hp)(ps:List Addr)(a:List (List Str)):Prop:=ps.length=a.length/\∀(i:Nat) (b:Addr) (d:List Str),ps[i]?=some b->a[i]?=some d->H b=some (.lst (d.map V.str))
def jC.mono(h:jC H ps a)(s:Same H H'):jC H' ps a:=⟨h.1,λi a b d e=>s _ _ (h.2 i a b d e)⟩
def jC.nil:jC H [] []:=⟨rfl,λi _ _ e=>(nomatch e)⟩
def Q9{α:Type}{xs:List α}{x y:α}{i:Nat}(h:(xs++[x])[i]?=some y):(i < xs.length/\xs[i]?=some y)\/(i=xs.length/\y=x):=by
 by_cases a:i < xs.length
 ·rw[t7 a]at h;exact .inl ⟨a,h⟩
 ·have a:i=xs.length:=by
   have:=(td.mp h).1;rw[tx,zax]at this;omega
  subst a;rw[tY (tp _),zbO]at h;exact .inr ⟨rfl,(tF.inj h).symm⟩
def jC.snoc{l:List Str}(h:jC H ps a)(hp:H p=some (.lst (l.map V.str))):jC H (ps++[p]) (a++[l]):=by
 refine⟨by rw[tx,tx,h.1];rfl,λi d e b a=>?_⟩;rcases Q9 b with ⟨f,b⟩ | ⟨f,rfl⟩
 ·rcases Q9 a with ⟨_,a⟩ | ⟨f,_⟩
  ·exact h.2 i d e b a
  ·have:=h.1;omega
 ·rcases Q9 a with ⟨f,_⟩ | ⟨_,rfl⟩
  ·have:=h.1;omega
  ·exact hp
def jC.app(h:jC H ps a)(k:jC H b ms):jC H (ps++b) (a++ms):=by
 refine⟨by rw[tx,tx,h.1,k.1],λi d e a b=>?_⟩;by_cases c:i < ps.length
 ·rw[t7 c]at a;rw[t7 (h.1▸c)]at b;exact h.2 i d e a b
 ·rw[tY (by omega)]at a;rw[tY (by rw[<-h.1];omega),<-h.1]at b;exact k.2 _ d e a b
def jC.fr(h:jC H ps a)(hd:H d=some (.dK l))(f:Fr H d H'):jC H' ps a:=⟨h.1,λi a b g j=>f _ _ (h.2 i a b g j) (λe=>by have:=h.2 i a b g j;rw[e,hd]at this;cases this)⟩
def jE.fr(h:jE N H d f)(s:Fr H e H')(ne:d≠e):jE N H' d f:=⟨let ⟨g,a,b⟩:=h.at_;⟨g,s _ _ a ne,b⟩⟩
def jE.congr{g:Str->Option Nat}(h:jE N H d f)(e:∀z,f z=g z):jE N H d g:=⟨let ⟨i,a,b,c⟩:=h.at_;⟨i,a,λz=>by rw[b z,e z],c⟩⟩
def vX(b:Addr)(H:Hp)(g d:Addr):Prop:=∀e lo a,H g=some (.ins b e [("order",.ref lo),("roads",.ref a)])->a≠d
def Qk.fr(h:Qk g H a rs)(hd:∃f:List (qZ×V),H d=some (.dK f))(ap:vX g H a d)(s:Fr H d H'):Qk g H' a rs:=by
 obtain⟨j,lo,l,g,i,m,r,u⟩:=h;obtain⟨f,hd⟩:=hd;have ne:∀{b:Addr} {o:HO},H b=some o->(∀g:List (qZ×V),o≠.dK g)->b≠d:=λp no e=>by rw[e,hd]at p;exact no f (tF.inj p).symm
 refine⟨j,lo,l,g,s _ _ i (ne i (λ_=>by simp)),s _ _ m (ne m (λ_=>by simp)),s _ _ r (ap j lo l i),λf hr=>let ⟨q,a,b⟩:=u f hr;⟨q,a,s _ _ b (ne b (λ_=>by simp))⟩⟩
def Y3(f:Str->Option Nat)(n:Nat)(ns:List Str):Str->Option Nat:=λz=>if z∈ns then some n else f z
def Nf{ns:List Str}(h:∀z∈ns,qz R z=none)(z:Str):Y3 (qz R) n ns z=qz (R++[(n,ns)]) z:=by
 unfold Y3;rw[Za];by_cases c:z∈ns
 ·rw[if_pos c,h z c];show _=if z∈ns then some n else none
  rw[if_pos c]
 ·rw[if_neg c];cases qz R z with
  | some m=>rfl
  | none=>
   show none=if z∈ns then some n else none
   rw[if_neg c]
def MG:R++(a++[l]).map (λx=>(n,x))=(R++a.map λx=>(n,x))++[(n,l)]:=by
 rw[tA,zcF];rfl
inductive yQ(CG:Addr)(vs:List V)(H:Hp)(Q:VK):Prop
 | mk (g d:Addr) (rs:ju) (R:Rs Str) (n:Nat):(vs=[.ref g,.ref d,.int (n:Nat)])->Qk CG H g rs->qu rs->(rs.length<=14)->(jE (rs.map (·.1)) H d (qz R))->vX CG H g d->(∀H' l ps ls,H l=none->H' l=some (.lst (ps.map V.ref))->jC H' ps ls->(∀p∈ps,H p=none)->jE (rs.map (·.1)) H' d (qz (R++ls.map λx=>(n,x)))->QK (QM rs) (rs.map (·.1)) n R (R++ls.map λx=>(n,x))->Fr H d H'->Q (.ref l) H')->yQ CG vs H Q
def Cj(a:Addr):Sp:=λb H Q _=>yQ a b H Q
def QA(rs:ju)(f:Str->Option Nat):Nat:=((rs.map (·.1)).filter λz=>(f z).isNone).length
def Uk{rs:ju}{ns:List Str}(h:∀z∈ns,z∈rs.map (·.1)/\qz R z=none)(ne:ns≠[]):QA rs (qz (R++[(n,ns)])) < QA rs (qz R):=by
 unfold QA;generalize rs.map (·.1)=N at*;have sub:(N.filter λz=>(qz (R++[(n,ns)]) z).isNone).Sublist (N.filter λz=>(qz R z).isNone):=by
  have e:(N.filter λz=>(qz (R++[(n,ns)]) z).isNone)=(N.filter λz=>(qz R z).isNone).filter λz=>(qz (R++[(n,ns)]) z).isNone:=by
   rw[List.filter_filter];refine zaX λz _=>?_;cases c:(qz (R++[(n,ns)]) z).isNone with
   | false=>simp
   | true=>
    have:=Nj (by simpa using c);rw[this];rfl
  rw[e];exact zbk
 obtain⟨a,_,d⟩:=zbC ne;have b:a∈ns:=d▸tX;obtain⟨f,d⟩:=h a b;rcases zbj (N.filter λz=>(qz (R++[(n,ns)]) z).isNone).length (N.filter λz=>(qz R z).isNone).length with c | c
 ·exact c
 ·have e:=sub.eq_of_length_le c;have m:a∈N.filter λz=>(qz R z).isNone:=tP.mpr ⟨f,by rw[d];rfl⟩;rw[<-e]at m;have:=(tP.mp m).2;rw[xB d b]at this;cases this
def Ju(N:List Str)(H:Hp)(d:Addr):Nat:=match H d with
 | some (.dK a)=>(N.filter λz=>(jw a (Sum.inr z:qZ)).isNone).length
 | _=>0
def jE.bare{rs:ju}(h:jE (rs.map (·.1)) H d f):Ju (rs.map (·.1)) H d=QA rs f:=by
 obtain⟨e,a,b,_⟩:=h.at_;unfold Ju QA;rw[a];show ((rs.map (·.1)).filter λz=>(jw e (Sum.inr z:qZ)).isNone).length=_;congr 1;refine zaX λz _=>?_;rw[b z];cases f z<;>rfl
abbrev Dv:List Str:=["ground","numbered","number","bare"]
abbrev Zl:List Str:=["ground","numbered","number"]
def Mn:qk Dv Zl (qg Yt):=jM
def G9(F:jq K "round_of" "round_of" Yt f a)(B:QL mg)(G:QB mg)(T:Qv K mg)(M:GM K mg b)(p:qM K mg "numbers_behind" Bv BM g j)(u:qM K mg "lacking" QE ["numbers"] l o)(i:qM K mg "gets_number" XN Va r z):qp P w K mg base q5 5 f a Zl (N4 b):=by
 obtain⟨_,_,g⟩:=M.cls;obtain⟨_,_,j⟩:=M.nm;refine F.okK Mn λH Q E hr h=>?_;obtain⟨l,d,a,b,n,rfl,r,good,C,hd,q⟩:=h;refine⟨_,qd (QH (i:=3) (N':=["name","numbered"]) (ix:=[none,some 1]) (qB (xu j g.cl (pin P w mg base (Z9 j.fn g G)) (hr.mono (by decide)) (jv 0))) (λg j o fp z=>
   ⟨qF 0,jt (QG (J9 (jv 0) (jv 1))),jv 0⟩))
  (qe (qo (jP (N':=["name","ground","numbered","number"]) (ix:=[none,some 0,some 1,some 2]) (qB (jv 3)) (λg j o fp z=>
   ⟨qF 0,jt (jA (qE i (pin P w mg base (Ab i.fn B G T M p u)) (BS (jv 1) (jv 2) (jv 0) (jv 3)))),jv 0⟩)))),?_⟩
 obtain⟨g,fs,i,p,_⟩:=r.ins;refine⟨_,rfl,l,g,fs,rfl,i,p,l,a,rfl,r,λln i=>⟨ln,rfl,⟨_,.of qc⟩,λW g=>?_⟩⟩;have j:Same H (upd H ln (.lst ((a.map (·.1)).map V.str))):=qi i;have i:upd H ln (.lst ((a.map (·.1)).map V.str)) ln=some (.lst ((a.map (·.1)).map V.str)):=qc;generalize upd H ln (.lst ((a.map (·.1)).map V.str))=o at j i g;refine QI (out:=λy=>if (b y).isNone=true then some (V.str y) else none) g i (ql (by rw[tc];omega)) ?_ ?_ ?_
 ·refine λx o i p R k=>⟨_,rfl,_,rfl,d,_,rfl,((hd.mono j).mono p).get x,_,rfl,?_⟩;have:=k i λ_ _ h=>h;cases e:b x with
  | none=>rwa [e]at this
  | some m=>rwa [e]at this
 ·intro x o v g i p R k;have:v=V.str x:=by
   split at g
   ·exact(tF.inj g).symm
   ·cases g
  subst this;exact⟨_,rfl,k i λ_ _ h=>h⟩
 ·intro _ p u;rw[<-Wm (λy=>(b y).isNone)]at u;have z:=j.trans p;refine⟨_,rfl,W,rfl,⟨_,.of u⟩,λD p=>?_⟩;have bl:((a.map (·.1)).filter λy=>(b y).isNone).length<=14:=t8 (zam _ _) (by rw[tc];exact C);refine QI (out:=λy=>if Ya a b y n=true then some (V.str y) else none) (rest:=[some (.ref l),some (.ref d),some (.int (n:Nat))]) p u (ql (by omega)) ?_ ?_ ?_
  ·intro x o i j R k;have u:=z.trans j;refine⟨_,rfl,_,rfl,_,rfl,_,rfl,l,d,a,x,b,n,rfl,r.mono u,good,C,(tP.mp o).1,hd.mono u,λl r=>⟨_,rfl,?_⟩⟩;have:=k l r;cases e:Ya a b x n with
   | true=>rwa [e]at this
   | false=>rwa [e]at this
  ·intro x o v g i j R k;have:v=V.str x:=by
    split at g
    ·exact(tF.inj g).symm
    ·cases g
   subst this;exact⟨_,rfl,k i λ_ _ h=>h⟩
  ·intro i j g;rw[<-Wm (λy=>Ya a b y n)]at g;exact q i D (z.trans j) (jb z p) g
abbrev FK:List Str:=["ground","numbered","number","rounds","names","name"]
def CD:qk FK Zl (qg vh):=jM
def Aa(F:jq K "give_number" "give_number" vh f j)(B:QL mg)(G:QB mg)(T:Qv K mg)(M:GM K mg l)(o:qM K mg "numbers_behind" Bv BM C D)(p:qM K mg "lacking" QE ["numbers"] J L)(r:qM K mg "gets_number" XN Va O U)(g:qM K mg "round_of" Yt Zl fR Y):qp P w K mg base q5 6 f j Zl (Cj l):=by
 have j:=pin P w mg base (G9 g.fn B G T M o p r);refine F.okK CD λH Q E hr h=>?_;obtain⟨ab,d,l,R,n,rfl,gr,good,ah,hd,ap,q⟩:=h;refine⟨_,qd (qy 3 (qW jB))
  (qd (qy 4 (qE g j (ZV (jv 0) (jv 1) (jv 2))))
  (qd (ZQ PassesOwn.never (qj ZM (qx qL (by rfl) B.len boot_len (jc (jv 4))) qh)
   (qd (qX (qB (jv 4)) (qF 5) (qe (jL (jv 1) (jv 5) (jv 2))))
   (qd (q4 (ZT zat zaY zaZ QT (jv 3) (jc (jv 4))))
   (qe (qy 4 (qE g j (ZV (jv 0) (jv 1) (jv 2))))))))
  (qe (qo (jv 3))))),?_⟩
 refine⟨sz,λo ac=>?_⟩;have p:Same H (upd H o (.lst [])):=qi ac;refine⟨_,rfl,_,rfl,_,rfl,ab,d,l,qz R,n,rfl,gr.mono p,good,ah,hd.mono p,λ_ O J L az=>?_⟩;obtain⟨am,ai⟩:=hd.isd;have an:o≠d:=nq ai ac;refine ZF (λσ D=>∃(U:Option V) (g:Addr) (j:List Addr) (C:List (List Str)),σ=[some (.ref ab),some (.ref d),some (.int (n:Nat)),some (.ref o),some (.ref g),U]/\Fr H d D/\D o=some (.lst (j.map V.ref))/\jC D j C/\
   jE (l.map (·.1)) D d (qz (R++C.map λx=>(n,x)))/\D g=some (.lst ((Gb l (qz (R++C.map λx=>(n,x))) n).map V.str))/\(∀Y,QK (QM l) (l.map (·.1)) n (R++C.map λx=>(n,x)) Y->QK (QM l) (l.map (·.1)) n R Y)/\g≠o/\(∀r∈j,r≠o)/\H g=none/\(∀r∈j,H r=none)/\C.length+QA l (qz (R++C.map λx=>(n,x)))<=14)
  (λ_ D=>Ju (l.map (·.1)) D d)
  ⟨none,O,[],[],rfl,λb u O _=>J _ _ (p _ _ O),J _ _ qc,.nil,?_,?_,?_,(nq qc L),λr h=>(nomatch h),jb p L,λr h=>(nomatch h),?_⟩ ?_ ?_
 ·have:=(hd.mono p).mono J;simpa using this
 ·simpa using az
 ·intro Y h;simpa using h
 ·show 0+_<=14;rw[zec];refine t8 (zam _ _) ?_;rwa [tc]
 ·rintro σ D ⟨U,g,j,C,rfl,fr,ao,aj,num,hl,gv,nl,np,_,p0,_⟩;have p:=gr.fr ⟨am,ai⟩ ap fr;obtain⟨_,aq⟩:=num.isd;generalize ar:R++C.map (λx=>(n,x))=L at*;refine⟨_,rfl,g,_,rfl,.inl (.of hl),_,_,rfl,rfl,_,rfl,?_⟩;rw[tc];generalize J:Gb l (qz L) n=p at*;have ak:=J▸MH l L n;have aa:∀z∈p,z∈l.map (·.1)/\qz L z=none:=λz O=>let ⟨a,b,_⟩:=(ak.iff z).mp O;⟨a,b⟩;have as:p.Nodup:=by
   rw[<-J];exact good.nd.sublist (zbk.trans zbk)
  have J:p.length<=14:=by
   have:=Zp as λz O=>(aa z O).1;rw[tc]at this;omega
  cases c:p with
  | nil=>
   subst c;refine qI (by decide) ⟨_,rfl,?_⟩;have:=gv L (.stop ak);rw[<-ar]at this num;exact q D o j C ac ao aj p0 num this fr
  | cons J rest=>
   have ne:p≠[]:=by rw[c];simp
   rw[<-c];clear c;refine qK (decide_eq_true (by have:=zcU.mpr ne;show (0:Int) < (p.length:Int);omega)) ?_;have au:g≠d:=nq aq hl;refine⟨_,rfl,g,rfl,⟨_,.of hl⟩,je (λi ae J=>∃U,ae=[some (.ref ab),some (.ref d),some (.int (n:Nat)),some (.ref o),some (.ref g),U]/\jE (l.map (·.1)) J d (Y3 (qz L) n (p.take i))/\Fr D d J)
    ⟨U,rfl,num.congr λz=>by unfold Y3;rw[zdM,if_neg (by simp)],Fr.refl⟩ (λi ae J _ ⟨_,_,_,f⟩=>.of (f _ _ hl au)) ?_ ?_⟩
   ·rintro i y ae J hy ⟨av,rfl,af,U⟩;obtain⟨z,ez,O,rfl⟩:=jU hy;have il:=(td.mp ez).1;have nt:z∉p.take i:=λm=>by
     obtain⟨aw,hj⟩:=zaS m;rw[zdf]at hj;split at hj
     ·have h1:=(td.mp hj);have h2:=(td.mp ez);have:=RC as (h1.2.trans h2.2.symm);omega
     ·cases hj
    obtain⟨H2,put,aA,_,e2⟩:=af.put (aa z O).1 (by unfold Y3;rw[if_neg nt];exact(aa z O).2) (by rw[tc];exact ah);refine⟨_,rfl,_,rfl,_,rfl,d,H2,rfl,put,_,rfl,aA.congr λy=>?_,?_⟩
    ·unfold Y3;rw[tN,ez];by_cases e:y=z
     ·subst e;rw[if_pos rfl,if_pos (by simp)]
     ·rw[if_neg e];by_cases m:y∈p.take i
      ·rw[if_pos m,if_pos (zac _ m)]
      ·rw[if_neg m,if_neg (by simp [m,e])]
    ·rw[e2];exact U.at_d
   ·rintro ae J ⟨av,rfl,af,U⟩;rw[tc,tv (tp _)]at af;have ay:=U _ _ ao an;have rG:=aj.fr aq U;have aB:=Uk (n:=n) aa ne;refine⟨_,rfl,.inl ⟨rfl,_,.of ay⟩,_,rfl,o,_,_,rfl,rfl,ay,by rw[tc,aj.1];exact ql (by omega),?_⟩;have e5:j.map V.ref++[V.ref g]=(j++[g]).map V.ref:=by rw[tA];rfl
    rw[e5];have ag:Fr H d (upd J o (.lst ((j++[g]).map V.ref))):=(fr.trans U).own ac;have r3:jC (upd J o (.lst ((j++[g]).map V.ref))) (j++[g]) (C++[p]):=by
     refine jC.snoc ⟨rG.1,λi r x e1 e2=>?_⟩ (by rw[qf nl];exact(U _ _ hl au));rw[qf (np r (tW e1))];exact rG.2 i r x e1 e2
    have al:upd J o (.lst ((j++[g]).map V.ref)) o=some (.lst ((j++[g]).map V.ref)):=qc;have U:jE (l.map (·.1)) (upd J o (.lst ((j++[g]).map V.ref))) d (qz (L++[(n,p)])):=⟨let ⟨aC,a,b⟩:=(af.congr (Nf λz O=>(aa z O).2)).at_;⟨aC,by rwa [qf (Ne.symm an)],b⟩⟩;generalize upd J o (.lst ((j++[g]).map V.ref))=O at ag r3 al U ⊢;refine⟨_,rfl,_,rfl,_,rfl,ab,d,l,qz (L++[(n,p)]),n,rfl,gr.fr ⟨am,ai⟩ ap ag,good,ah,U,λ_ O l J _=>?_⟩;have o:R++(C++[p]).map (λx=>(n,x))=L++[(n,p)]:=by rw[MG,ar]
    refine⟨⟨av,O,j++[g],C++[p],rfl,ag.same l,l _ _ al,r3.mono l,?_,?_,?_,(nq al J),?_,?_,?_,?_⟩,?_⟩
    ·rw[o];exact U.mono l
    ·rwa [o]
    ·rw[o];exact λY h=>gv Y (.more ak ne h)
    ·intro r g;rcases tQ.mp g with g | g
     ·exact np r g
     ·rwa [tM.mp g]
    ·obtain⟨_,j⟩:=U.isd;exact ag.fresh j J
    ·intro r g;rcases tQ.mp g with g | g
     ·exact p0 r g
     ·rwa [tM.mp g]
    ·rw[o,tx,zax];omega
    ·rw[(U.mono l).bare,num.bare];exact aB
 ·rintro σ D Q _ h ⟨v,e,r,g,e2,h1,i,aw,j,l,b,e5,h2⟩;exact⟨v,e,r,g,e2,h1,i,aw,j,l,b,e5,h _ _ h2⟩
open PySem L2 MLab
open PyProof.Rows hiding K lo
def Nc{G:Str->List Str}{N:List Str}{n:Nat}{R a:Rs Str}(h:QK G N n R a):(a=R/\vZ G N R n [])\/R.length < a.length:=by
 induction h with
 | stop a=>exact .inl ⟨rfl,a⟩
 | more a ne k b=>
  right;rcases b with ⟨e,_⟩ | lt
  ·rw[e,tx];exact zaF _
  ·rw[tx]at lt;exact zcG lt
def uw{G:Str->List Str}{N:List Str}{n:Nat}{R:Rs Str}(h:QK G N n R R):vZ G N R n []:=by
 rcases Nc h with ⟨_,a⟩ | lt
 ·exact a
 ·exact absurd lt (zan _)
structure k7(N:List Str)(R:Rs Str):Prop where
 sub:∀r∈R,∀z∈r.2,z∈N
 dis:R.Pairwise λr r'=>∀z∈r.2,z∉r'.2
 ne:∀r∈R,r.2≠[]
 srt:∀r∈R,r.2.Sublist N
def k7.nil:k7 N []:=⟨λ_ h=>(nomatch h),zdn.nil,λ_ h=>(nomatch h),λ_ h=>(nomatch h)⟩
def k7.more(o:k7 N R)(r:vZ G N R n ns)(ne:ns≠[]):k7 N (R++[(n,ns)]):=by
 refine⟨λx d z e=>?_,zdL.mpr ⟨o.dis,zcw _ _,λa g b i z e f=>?_⟩,λx d=>?_,λx d=>?_⟩
 ·rcases tQ.mp d with d | d
  ·exact o.sub x d z e
  ·rw[tM.mp d]at e;exact((r.iff z).mp e).1
 ·rw[tM.mp i]at f;exact Xs.mp ((r.iff z).mp f).2.1 a g e
 ·rcases tQ.mp d with d | d
  ·exact o.ne x d
  ·rwa [tM.mp d]
 ·rcases tQ.mp d with d | d
  ·exact o.srt x d
  ·rw[tM.mp d];exact r.sub
def vE(h:QK G N n R a):k7 N R->k7 N a:=by
 induction h with
 | stop a=>exact id
 | more a ne k b=>exact λd=>b (d.more a ne)
def xM(h:All G N n R a):k7 N R->k7 N a:=by
 induction h with
 | stop a=>exact id
 | more a ne k b=>exact λd=>b (vE a d)
def ux(h:QK (QM rs) (rs.map (·.1)) n R d):QA rs (qz d)<=QA rs (qz R)/\(d≠R->QA rs (qz d) < QA rs (qz R)):=by
 induction h with
 | stop d=>exact⟨tp _,λe=>absurd rfl e⟩
 | more d ne k f=>
  have:=Uk (λz f=>let ⟨a,b,_⟩:=(d.iff z).mp f;⟨a,b⟩) ne (n:=n);exact⟨by omega,λ_=>by omega⟩
def VP:∀{R:Rs Str},k7 N R->R.length<=N.length:=λ{R} g=>by
 have fF:∀R:Rs Str,(R.Pairwise λa d=>∀z∈a.2,z∉d.2)->(∀a∈R,a.2≠[])->∃b:List Str,b.length=R.length/\b.Nodup/\∀z∈b,∃a∈R,z∈a.2:=by
  intro R;induction R with
  | nil=>exact λ_ _=>⟨[],rfl,zbt,λz h=>(nomatch h)⟩
  | cons a R f=>
   intro p ne;obtain⟨b,i,j,sub⟩:=f (zdg.mp p).2 (λx l=>ne x (tU _ l));obtain⟨z,t,e⟩:=zbC (ne a tX);have f:z∈a.2:=e▸tX;refine⟨z::b,by simp [i],zak.mpr ⟨λm=>?_,j⟩,λy l=>?_⟩
   ·obtain⟨d,o,q⟩:=sub z m;exact(zdg.mp p).1 d o z f q
   ·rcases tH.mp l with rfl | l
    ·exact⟨a,tX,f⟩
    ·obtain⟨d,o,h⟩:=sub y l;exact⟨d,tU _ o,h⟩
 obtain⟨b,i,j,sub⟩:=fF R g.dis g.ne;rw[<-i];exact Zp j λz f=>let ⟨a,hr,h⟩:=sub z f;g.sub a hr z h
inductive U4(CG:Addr)(vs:List V)(H:Hp)(Q:VK):Prop
 | mk (g d:Addr) (rs:ju):vs=[.ref g,.ref d]->Qk CG H g rs->qu rs->(rs.length<=14)->(jE (rs.map (·.1)) H d (qz []))->vX CG H g d->(∀H' l ps R,H l=none->H' l=some (.lst (ps.map V.ref))->jC H' ps (R.map (·.2))->(∀p∈ps,H p=none)->jE (rs.map (·.1)) H' d (qz R)->All (QM rs) (rs.map (·.1)) 0 [] R->Fr H d H'->Q (.ref l) H')->U4 CG vs H Q
def Mc(a:Addr):Sp:=λb H Q _=>U4 a b H Q
abbrev Dy:List Str:=["ground","numbered","rounds","number","more"]
abbrev kx:List Str:=["ground","numbered"]
def yW:qk Dy kx (qg VI):=jM
def Rp(F:jq K "give_numbers" "give_numbers" VI f j)(B:QL mg)(G:QB mg)(T:Qv K mg)(M:GM K mg l)(m:qM K mg "numbers_behind" Bv BM y z)(o:qM K mg "lacking" QE ["numbers"] C D)(p:qM K mg "gets_number" XN Va J L)(r:qM K mg "round_of" Yt Zl fR O)(g:qM K mg "give_number" vh Zl U Y):qp P w K mg base q5 7 f j kx (Mc l):=by
 have j:=pin P w mg base (Aa g.fn B G T M m o p r);refine F.okK yW λH Q E hr h=>?_;obtain⟨aa,d,o,rfl,gr,good,ah,hd,ap,q⟩:=h;refine⟨_,qd (qy 2 (qW jB))
  (qd (qy 3 qh)
  (qd (qy 4 (qE g j (ZV (jv 0) (jv 1) (jv 3))))
  (qd (ZQ PassesOwn.never (qj ZM (qx qL (by rfl) B.len boot_len (jc (jv 4))) qh)
   (qd (q4 (ZT zat zcm zcn YA (jv 2) (jc (jv 4))))
   (qd (RM (i:=3) yW.nd rfl (Or.inl rfl) qh RZ)
   (qe (qy 4 (qE g j (ZV (jv 0) (jv 1) (jv 3))))))))
  (qe (qo (jv 2)))))),?_⟩
 refine⟨sz,λm D=>?_⟩;have g:Same H (upd H m (.lst [])):=qi D;obtain⟨av,ae⟩:=hd.isd;have af:m≠d:=nq ae D;have ai:∀{j:Hp},Fr H d j->vX l j aa d:=λfr _ lo _ h=>by
  obtain⟨_,_,_,_,r,_⟩:=gr;have:=fr _ _ r (nq ae r);rw[h]at this;cases this;exact ap _ _ _ r
 have z:Fr H d (upd H m (.lst [])):=Fr.refl.own D;refine⟨_,rfl,_,rfl,_,rfl,aa,d,o,[],0,rfl,gr.mono g,good,ah,hd.mono g,ai z,λ_ U l Y aw ay az aA aB aC J=>ZF (λL j=>∃(C:Addr) (n:Nat) (p l:List Addr) (R:Rs Str) (y:List (List Str)),L=[some (.ref aa),some (.ref d),some (.ref m),some (.int (n:Nat)),some (.ref C)]/\Fr H d j/\j m=some (.lst (p.map V.ref))/\jC j p (R.map (·.2))/\j C=some (.lst (l.map V.ref))/\jC j l y/\
   jE (o.map (·.1)) j d (qz (R++y.map λx=>(n,x)))/\QK (QM o) (o.map (·.1)) n R (R++y.map λx=>(n,x))/\(∀O,All (QM o) (o.map (·.1)) n R O->All (QM o) (o.map (·.1)) 0 [] O)/\C≠m/\(∀g∈p,g≠m/\H g=none)/\(∀g∈l,g≠m/\H g=none)/\k7 (o.map (·.1)) R)
  (λL j=>Ju (o.map (·.1)) j d*2+(match L with | [_,_,_,_,some (.ref C)]=>(match j C with | some (.lst (_::_))=>1 | _=>0) | _=>0))
  ⟨U,0,[],l,[],Y,rfl,z.trans J,J _ _ qc af,.nil,ay,az,aB,aC,λO h=>h,(nq qc aw),λg h=>(nomatch h),?_,.nil⟩ ?_ ?_⟩
 ·intro g z;have r:=aA g z;have J:g≠m:=nq qc r;exact⟨J,by rwa [qf J]at r⟩
 ·rintro L j ⟨C,n,p,l,R,y,rfl,fr,U,ab,hl,rn,num,gv,al,nl,np,aj,Y⟩;obtain⟨_,_⟩:=num.isd;have ak:=vE gv Y;have ol:=VP ak;rw[tx,tc,tc]at ol;refine⟨_,rfl,C,_,rfl,.inl (.of hl),_,_,rfl,rfl,_,rfl,?_⟩;rw[tc];cases c:y with
  | nil=>
   subst c;have Y:=zap rn.1;subst Y;rw[zcb,zaj]at gv num;exact qI (by decide) ⟨_,rfl,q j m p R D U ab (λg z=>(np g z).2) num (al R (.stop (uw gv))) fr⟩
  | cons Y rest=>
   have ne:y≠[]:=by rw[c];simp
   clear c;have Y:l.length=y.length:=rn.1;have pos:=zcU.mpr ne;refine qK (decide_eq_true (by show (0:Int) < (l.length:Int);omega)) ?_;refine⟨_,rfl,.inl ⟨rfl,_,.of U⟩,_,rfl,m,C,_,_,rfl,rfl,U,hl,?_,?_⟩
   ·rw[tc,tc,ab.1,tc,Y];exact zab (ql (by omega))
   ·have e5:p.map V.ref++l.map V.ref=(p++l).map V.ref:=by rw[tA]
    rw[e5];have U:Fr H d (upd j m (.lst ((p++l).map V.ref))):=fr.own D;have ac:upd j m (.lst ((p++l).map V.ref)) m=some (.lst ((p++l).map V.ref)):=qc;have r3:jC (upd j m (.lst ((p++l).map V.ref))) (p++l) ((R++y.map λx=>(n,x)).map (·.2)):=by
     have D:(R++y.map λx=>(n,x)).map (·.2)=R.map (·.2)++y:=by
      rw[tA,zaz];congr 1;exact zek y
     rw[D];refine jC.app ⟨ab.1,λi g x D Y=>?_⟩ ⟨rn.1,λi g x D Y=>?_⟩
     ·rw[qf (np g (tW D)).1];exact ab.2 i g x D Y
     ·rw[qf (aj g (tW D)).1];exact rn.2 i g x D Y
    have ag:jE (o.map (·.1)) (upd j m (.lst ((p++l).map V.ref))) d (qz (R++y.map λx=>(n,x))):=⟨let ⟨aD,a,b⟩:=num.at_;⟨aD,by rwa [qf (Ne.symm af)],b⟩⟩;have aE:R++y.map (λx=>(n,x))≠R:=λe=>by
     have:=congrArg zas e;rw[tx,tc]at this;omega
    generalize R++y.map (λx=>(n,x))=y at*;generalize upd j m (.lst ((p++l).map V.ref))=G3 at U r3 ac ag ⊢;obtain⟨_,am⟩:=ag.isd;refine⟨_,rfl,_,_,rfl,rfl,⟨_,rfl,_,rfl,_,rfl,aa,d,o,y,n+1,rfl,gr.fr ⟨av,ae⟩ ap U,good,ah,ag,ai U,λH4 l4 an ao aF aq ar aG as au m=>⟨⟨l4,n+1,p++l,an,y,ao,rfl,U.trans m,m _ _ ac af,r3.fr am m,aq,ar,as,au,λO h=>al O (.more gv aE h),(nq ac aF),?_,?_,ak⟩,?_⟩⟩⟩
    ·intro g z;rcases tQ.mp z with z | z
     ·exact np g z
     ·exact aj g z
    ·intro g z;have r:=aG g z;refine⟨(nq ac r),?_⟩;cases J:H g with
     | none=>rfl
     | some u=>
      by_cases c:g=d
      ·rw[c,am]at r;cases r
      ·rw[U _ _ J c]at r;cases r
    ·show Ju (o.map (·.1)) H4 d*2+(match H4 l4 with | some (.lst (_::_))=>1 | _=>0) < Ju (o.map (·.1)) j d*2+(match j C with | some (.lst (_::_))=>1 | _=>0);have m:=ux au;rw[as.bare,num.bare,aq,hl];obtain⟨_,_,D⟩:=List.exists_cons_of_length_pos (by omega:0 < l.length);rw[D];show _ < QA o (qz y)*2+1;cases ao with
     | nil=>
      rw[zap ar.1];show _+0 < _;have:=m.1;omega
     | cons l o=>
      have:=m.2 λe=>by
       have:=congrArg zas e;rw[tx,tc]at this;simp at this
      have l:(match (some (HO.lst (an.map V.ref)):Option HO) with | some (.lst (_::_))=>1 | _=>0)<=1:=by split<;>omega
      omega
 ·rintro L j Q _ h ⟨v,e,g,l,Y,r,i,m,o,p,b,e5,J⟩;exact⟨v,e,g,l,Y,r,i,m,o,p,b,e5,h _ _ J⟩
open PySem L2 MLab
open PyProof.Rows hiding K lo
def WE(R:Rs Str)(i:Nat):Str->Option Nat:=λz=>(qz (R.take i) z).map λ_=>Ja R z
def kr(o:k7 N R)(hr:R[i]?=some r)(a:z∈r.2):Ja R z=i:=by
 obtain⟨b,d⟩:=td.mp hr;unfold Ja;rw[List.findIdx_eq b];refine⟨by rw[d];exact decide_eq_true a,λe f=>decide_eq_false λm=>?_⟩;have:=zaM.mp o.dis e i (by omega) b f z m;rw[d]at this;exact this a
def UI(o:k7 N R)(hr:R[i]?=some r)(b:z∈r.2):WE R i z=none:=by
 unfold WE;have:qz (R.take i) z=none:=Xs.mpr λx d m=>by
  obtain⟨_,a⟩:=zaS d;rw[zdf]at a;split at a
  ·have d:=kr o a m;have d:=kr o hr b;omega
  ·cases a
 rw[this];rfl
def x5(o:k7 N R)(hr:R[i]?=some r)(z:Str):Y3 (WE R i) i r.2 z=WE R (i+1) z:=by
 unfold Y3;by_cases c:z∈r.2
 ·rw[if_pos c];have n:=UI o hr c;unfold WE at n ⊢;have a:qz (R.take i) z=none:=by
   cases e:qz (R.take i) z with
   | none=>rfl
   | some m=>rw[e]at n;cases n
  rw[tN,hr];show _=(qz (R.take i++[(r.1,r.2)]) z).map _;rw[xB a c,kr o hr c];rfl
 ·rw[if_neg c];unfold WE;rw[tN,hr];show _=(qz (R.take i++[(r.1,r.2)]) z).map _;rw[Za];cases qz (R.take i) z with
  | some m=>rfl
  | none=>
   show _=Option.map _ (if z∈r.2 then some r.1 else none);rw[if_neg c]
def Ka(R:Rs Str)(z:Str):WE R R.length z=(qz R z).map λ_=>Ja R z:=by
 unfold WE;rw[tv (tp _)]
def jV(rs:ju)(R:Rs Str)(z:Str):List V:=match qz R z with
 | some n=>[.str "number",.int (n:Nat),.int (Ja R z:Nat)]
 | none=>[.str "endless",.int (Rb.setN (QW rs (qz R) z):Nat)]
structure ja(H:Hp)(D:Addr)(rs:ju)(R:Rs Str):Prop where
 at_:∃kvs:List (qZ×V),H D=some (.dK kvs)/\kvs.map (·.1)=(rs.map (·.1)).map Sum.inr/\∀r∈rs,∃t,jw kvs (Sum.inr r.1:qZ)=some (.ref t)/\H t=some (.tup (jV rs R r.1))
def ja.mono(h:ja H D rs R)(s:Same H H'):ja H' D rs R:=⟨let ⟨d,a,b,c⟩:=h.at_;⟨d,s _ _ a,b,λd hr=>let ⟨t,u,v⟩:=c d hr;⟨t,u,s _ _ v⟩⟩⟩
def yp:∀(n:Nat) (L:List Nat),(∀m,m<=n->m∈L)->n*(n+1)<=2*L.sum
 | 0,_,_=>by simp
 | n+1,L,h=>by
  have a:=yp n (L.erase (n+1)) λm _=>(zca (by omega)).mpr (h m (by omega));have a:L.sum=(n+1)+(L.erase (n+1)).sum:=by
   have:=(List.perm_cons_erase (h (n+1) (tp _))).sum_nat;rw[this,zaT]
  rw[a];have:(n+1)*(n+1+1)=n*(n+1)+2*(n+1):=by
   rw[Nat.mul_comm,<-Nat.add_mul]
  omega
def UG{f g:α->Nat}:∀{l:List α},(∀x∈l,f x<=g x)->(l.map f).sum<=(l.map g).sum
 | [],_=>tp _
 | a::l,h=>by
  rw[tV,tV,zaT,zaT];have:=h a tX;have:=UG λx hx=>h x (tU _ hx);omega
def D0{rs:ju}(a:(rs.map (·.1)).Nodup)(z:Str):(QM rs z).Nodup:=by
 unfold QM;split
 ·exact a.sublist zbk
 ·exact zbt
def zA(good:qu rs)(L:WB (QM rs) (·∈rs.map (·.1)) num fz)(d:x∈rs.map (·.1))(e:num x=some n):n<=8:=by
 have g:∀m,m<=n->m∈rs.map λa=>(num a.1).getD 0:=λm _=>by
  rcases zbj m n with c | c
  ·obtain⟨y,b,f,_⟩:=L.n1 d e c;obtain⟨a,hr,rfl⟩:=tz.mp (L.cl d b);exact tz.mpr ⟨a,hr,by rw[f];rfl⟩
  ·have:m=n:=by omega
   subst this;obtain⟨a,hr,rfl⟩:=tz.mp d;exact tz.mpr ⟨a,hr,by rw[e];rfl⟩
 have d:=yp n _ g;have d:(rs.map λa=>(num a.1).getD 0).sum<=(rs.map λa=>a.2.length).sum:=UG λa hr=>by
  cases c:num a.1 with
  | none=>exact zao _
  | some m=>
   show m<=_;have:(t9 m).length<=((QM rs a.1).filterMap num).length:=Zp zcL λ_ d=>by
    obtain⟨y,b,f,_⟩:=L.n1 (tz.mpr ⟨a,hr,rfl⟩) c (zaC.mp d);exact zaH.mpr ⟨y,b,f⟩
   rw[zal]at this;have d:=zaO num (QM rs a.1);have a:=Zp (D0 good.nd _) λy b=>(xy good hr).mp b;omega
 have d:=good.few;rcases zbj 8 n with c | c
 ·have:9*10<=n*(n+1):=Nat.mul_le_mul c (by omega);omega
 ·exact c
inductive WY(CG:Addr)(vs:List V)(H:Hp)(Q:VK):Prop
 | mk (g:Addr) (rs:ju):vs=[.ref g]->Qk CG H g rs->qu rs->(rs.length<=14)->(∀H' D R,Same H H'->H D=none->ja H' D rs R->All (QM rs) (rs.map (·.1)) 0 [] R->Q (.ref D) H')->WY CG vs H Q
def J1(a:Addr):Sp:=λb H Q _=>WY a b H Q
abbrev nLb:List Str:=["ground","numbered","steps","step","names","name","labels"]
def Ih:qk nLb ["ground"] (qg Jb):=jM
structure El(K:zel)(mg:Str->Option Value):Prop where
 lack:∃f fd,qM K mg "lacking" QE ["numbers"] f fd
 seto:∃f fd,qM K mg "set_of" Ys ["numbers"] f fd
 nb:∃f fd,qM K mg "numbers_behind" Bv BM f fd
 gets:∃f fd,qM K mg "gets_number" XN Va f fd
 round:∃f fd,qM K mg "round_of" Yt Zl f fd
 give:∃f fd,qM K mg "give_number" vh Zl f fd
 gives:∃f fd,qM K mg "give_numbers" VI kx f fd
 labels:∃f fd,qM K mg "labels_of" Jb ["ground"] f fd
def wR(F:jq K "labels_of" "labels_of" Jb f g)(B:QL mg)(G:QB mg)(T:Qv K mg)(M:GM K mg l)(Y:El K mg):qp P w K mg base q5 8 f g ["ground"] (J1 l):=by
 obtain⟨_,_,O⟩:=Y.lack;obtain⟨_,_,o⟩:=Y.seto;obtain⟨_,_,g⟩:=Y.nb;obtain⟨_,_,U⟩:=Y.gets;obtain⟨fR,_,hR⟩:=Y.round;obtain⟨_,_,hV⟩:=Y.give;obtain⟨_,_,p⟩:=Y.gives;obtain⟨_,_,r⟩:=M.cls;obtain⟨_,_,J⟩:=M.nm;refine F.okK Ih λH Q E hr h=>?_;obtain⟨C,j,rfl,gr,good,ah,q⟩:=h;refine⟨_,qd (qy 1 Qf)
  (qd (qy 2 Qf)
  (qd (qX (z7 (by rfl) T.enu (jc (qE p (pin P w mg base (Rp p.fn B G T M g O U hR hV)) (qV (jv 0) (jv 1))))) (JV rfl (jh (qF 3) (jh (qF 4) QX)))
   (qe (qX (qB (jv 4)) (qF 5) (qe (jL (jv 2) (jv 5) (jv 3))))))
  (qd (qy 6 Qf)
  (qd (qX (qB (xu J r.cl (pin P w mg base (Z9 J.fn r G)) (hr.mono (by decide)) (jv 0))) (qF 5)
   (qe (qA (QG (Zr (jv 5) (jv 1)))
    (qe (jL (jv 6) (jv 5) (qC (ZV qv (qO (jv 1) (jv 5)) (qO (jv 2) (jv 5))))))
    (qe (jL (jv 6) (jv 5) (qC (qV qv (qE o (pin P w mg base (vq o.fn)) (jc (qE g (pin P w mg base (BP g.fn B G T M)) (ZV (jv 0) (jv 1) (jv 5))))))))))))
  (qe (qo (jv 6))))))),?_⟩
 intro d hd st ab;have s1:Same H (upd H d (.dK [])):=qi hd;have s2:Same H (upd (upd H d (.dK [])) st (.dK [])):=s1.trans (qi ab);have o:upd (upd H d (.dK [])) st (.dK []) d=some (.dK []):=qt qc ab;have g:upd (upd H d (.dK [])) st (.dK []) st=some (.dK []):=qc;have ar:d≠st:=nq' qc ab;generalize upd (upd H d (.dK [])) st (.dK [])=p at s2 o g;have ap:∀{p:Hp} {a:Addr},Same H p->H a=none->vX l p C a:=λr J dx lo _ h=>by
  obtain⟨_,_,_,_,h1,_,l,_⟩:=gr;have:=r _ _ h1;rw[h]at this;cases this;exact nq J l
 refine⟨_,rfl,_,rfl,C,d,j,rfl,gr.mono s2,good,ah,(λh=>⟨[],h,λz=>rfl,zbt,λk h=>(nomatch h)⟩) o,ap s2 hd,λH3 l U R p J ai _ num all as=>?_⟩;have o:=xM all .nil;have oL:=VP o;rw[tc]at oL;have au:=as _ _ g (Ne.symm ar);obtain⟨_,_⟩:=num.isd;have L:=Wa (Qg good.nd) all;refine⟨l,rfl,⟨_,.of J⟩,Yb (λi O l=>∃v3 v4 r,O=[some (.ref C),some (.ref d),some (.ref st),v3,v4,r,none]/\jE (j.map (·.1)) l st (WE R i)/\Fr H3 st l)
  ⟨none,none,none,rfl,⟨[],au,λz=>rfl,zbt,λk h=>(nomatch h)⟩,Fr.refl⟩ (λi O l _ ⟨_,_,_,_,_,f⟩=>.of (f _ _ J (λe=>by rw[e,g]at p;cases p))) ?_ ?_⟩
 ·rintro i x O l J hx hp ⟨v3,v4,r,rfl,f_,ac⟩;rw[tu]at hx;cases p:U[i]? with
  | none=>rw[p]at hx;cases hx
  | some pi=>
   rw[p]at hx;obtain rfl:=(tF.inj hx).symm;have li:i < R.length:=by
    have:=(td.mp p).1;have:=ai.1;rw[tc]at this;omega
   obtain⟨g,U⟩:∃g,R[i]?=some g:=⟨_,tj li⟩;have aj:=ai.2 i pi g.2 p (by rw[tu,U];rfl);have sp:Same l (upd l J (.tup [.int (i:Nat),V.ref pi])):=qi hp;have ak:=ac.same sp;refine⟨J,_,rfl,.of qc,rfl,_,_,rfl,_,_,rfl,rfl,?_⟩;have av:∀{p:Hp},Fr H3 st p->p pi=some (.lst (g.2.map V.str)):=λf=>f _ _ aj (λe=>by rw[e,au]at aj;cases aj);have aw:=f_.mono sp;generalize upd l J (.tup [.int (i:Nat),V.ref pi])=J at sp ak aw;refine⟨_,rfl,pi,rfl,⟨_,.of (av ak)⟩,je (λaa ae p=>∃r,ae=[some (.ref C),some (.ref d),some (.ref st),some (.int (i:Nat)),some (.ref pi),r,none]/\jE (j.map (·.1)) p st (Y3 (WE R i) i (g.2.take aa))/\Fr H3 st p)
    ⟨r,rfl,aw.congr λz=>by unfold Y3;rw[zdM,if_neg (by simp)],ak⟩ (λaa ae p _ ⟨_,_,_,f⟩=>.of (av f)) ?_ ?_⟩
   ·rintro aa y ae p hy ⟨al,rfl,af,am⟩;obtain⟨z,ez,hz,rfl⟩:=jU hy;by_cases nt:z∈g.2.take aa
    ·exfalso;obtain⟨_,hj⟩:=zaS nt;rw[zdf]at hj;split at hj
     . have h1:=(td.mp hj);have h2:=(td.mp ez);have:=RC (good.nd.sublist (o.srt g (tW U))) (h1.2.trans h2.2.symm);omega
     . cases hj
    ·obtain⟨H4,put,aD,_,e4⟩:=af.put ((o.sub g (tW U)) z hz) (by unfold Y3;rw[if_neg nt];exact UI o U hz) (by rw[tc];exact ah);refine⟨_,rfl,_,rfl,_,rfl,st,H4,rfl,put,_,rfl,aD.congr λy=>?_,?_⟩
     . unfold Y3;rw[tN,ez];by_cases e:y=z
       ·subst e;rw[if_pos rfl,if_pos (by simp)]
       ·rw[if_neg e];by_cases m:y∈g.2.take aa
        ·rw[if_pos m,if_pos (zac _ m)]
        ·rw[if_neg m,if_neg (by simp [m,e])]
     . rw[e4];exact am.at_d
   ·rintro ae p ⟨al,rfl,af,am⟩;rw[tc,tv (tp _)]at af;exact⟨_,_,_,rfl,af.congr (x5 o U),am⟩
 ·rintro O l ⟨v3,v4,r,rfl,f_,ac⟩;rw[tc,ai.1,tc]at f_;have sG:Same H l:=λb u h=>ac _ _ ((λb u h=>as b u (s2 _ _ h) (qm h hd)) _ _ h) (qm h (jb s1 ab));intro D hD;have o:Same l (upd l D (.dK [])):=qi hD;have ay:=jb sG hD;have an:upd l D (.dK []) D=some (.dK []):=qc;generalize upd l D (.dK [])=J at o an;obtain⟨dx,fs,hg,l1,_⟩:=((gr.mono sG).mono o).ins;refine⟨_,rfl,C,dx,fs,rfl,hg,l1,C,j,rfl,(gr.mono sG).mono o,λln ao=>⟨ln,rfl,⟨_,.of qc⟩,?_⟩⟩;have sL:Same J (upd J ln (.lst ((j.map (·.1)).map V.str))):=qi ao;have az:upd J ln (.lst ((j.map (·.1)).map V.str)) ln=some (.lst ((j.map (·.1)).map V.str)):=qc;generalize upd J ln (.lst ((j.map (·.1)).map V.str))=p at sL az;have aA:Same l p:=o.trans sL;refine je (λi O J=>∃r o,O=[some (.ref C),some (.ref d),some (.ref st),v3,v4,r,some (.ref D)]/\Fr p D J/\J D=some (.dK o)/\o.map (·.1)=((j.map (·.1)).take i).map Sum.inr/\
    ∀g∈j.take i,∃t,jw o (Sum.inr g.1:qZ)=some (.ref t)/\J t=some (.tup (jV j R g.1)))
   ⟨r,[],rfl,Fr.refl,sL _ _ an,rfl,λg h=>(nomatch h)⟩ (λi O J _ ⟨_,_,_,f,_⟩=>.of (f _ _ az (λe=>by rw[e,an]at ao;cases ao))) ?_ ?_
  ·rintro i y O J hy ⟨al,o,rfl,fr,ag,ek,hv⟩;obtain⟨g,U,aB,rfl⟩:=RD hy;have hi:=(td.mp U).1;have aq:Same l J:=λb u h=>fr _ _ (aA _ _ h) (qm h hD);have nm:=(num.fr ac ar).mono aq;have lk:o.length=i:=by
    have:=congrArg zas ek;rw[tc,tc,tL,tc]at this;omega
   have eN:(j.map (·.1))[i]?=some g.1:=by rw[tu,U];rfl
   have new:jw o (Sum.inr g.1:qZ)=none:=JY (by rw[ek];exact QS good.nd eN);have ft:∀(G4:Hp) (t:Addr),Fr p D G4->G4 D=some (.dK o)->Same J G4->G4 t=some (.tup (jV j R g.1))->∃H5,Jv G4 D (.str g.1) (.ref t) H5/\
     ∃r o,[some (V.ref C),some (.ref d),some (.ref st),v3,v4,some (.str g.1),some (.ref D)]=[some (.ref C),some (.ref d),some (.ref st),v3,v4,r,some (.ref D)]/\Fr p D H5/\H5 D=some (.dK o)/\o.map (·.1)=((j.map (·.1)).take (i+1)).map Sum.inr/\
      ∀g∈j.take (i+1),∃t,jw o (Sum.inr g.1:qZ)=some (.ref t)/\H5 t=some (.tup (jV j R g.1)):=λG4 t f4 r p l=>by
    refine⟨_,Jv.k (k:=(Sum.inr g.1:qZ)) r (ql (by omega)),some (.str g.1),Qd o (Sum.inr g.1) (.ref t),rfl,f4.at_d,qc,?_,λr2 aC=>?_⟩
    ·rw[Q3 _ new,tA,ek,tN,eN,tA];rfl
    ·have tD:∀{b:Addr} {xs:List V},G4 b=some (.tup xs)->b≠D:=λhb e=>by rw[e,r]at hb;cases hb
     rw[tN,U]at aC;rcases tQ.mp aC with h | h
     . obtain⟨r,a,b⟩:=hv r2 h;refine⟨r,?_,?_⟩
       ·rw[Qe,if_neg (λq=>(λe=>by rw[e,new]at a;cases a) (Sum.inr.inj q))];exact a
       ·rw[qf (tD (p _ _ b))];exact p _ _ b
     . have:r2=g:=by simpa using h
       subst this;refine⟨t,?_,?_⟩
       ·rw[Qe,if_pos rfl]
       ·rw[qf (tD l)];exact l
   refine⟨_,rfl,_,rfl,d,_,rfl,nm.get g.1,_,rfl,?_⟩;cases c:qz R g.1 with
   | some n=>
    have g1:=nm.get g.1;have g2:=((f_.congr (Ka R)).mono aq).get g.1;rw[c]at g1 g2;refine jX ⟨_,rfl,_,rfl,d,_,rfl,g1,_,rfl,_,rfl,st,_,rfl,g2,sz,λt l=>?_⟩;have r:jV j R g.1=[.str "number",.int (n:Nat),.int (Ja R g.1:Nat)]:=by unfold jV;rw[c]
    obtain⟨H5,put,k⟩:=ft (upd J t (.tup [.str "number",.int (n:Nat),.int (Ja R g.1:Nat)])) t (fr.same (qi l)) (qt ag l) (qi l) (by rw[r];exact qc);exact⟨_,rfl,_,rfl,D,H5,rfl,put,k⟩
   | none=>
    have gN:=L;refine jo ⟨_,rfl,_,rfl,_,rfl,C,d,j,g.1,qz R,rfl,gr.mono (sG.trans aq),good,ah,tz.mpr ⟨g,aB,rfl⟩,nm,λH4 C p _ U=>⟨C,_,rfl,.of U,λx hx=>?_,sz,λt l=>?_⟩⟩
    ·obtain⟨y,hy,C⟩:=jz.mp hx;have:=zA good L (Qg good.nd _ (tz.mpr ⟨g,aB,rfl⟩) y hy) C;omega
    ·have r:jV j R g.1=[.str "endless",.int (Rb.setN (QW j (qz R) g.1):Nat)]:=by unfold jV;rw[c]
     obtain⟨H5,put,k⟩:=ft (upd H4 t (.tup [.str "endless",.int (Rb.setN (QW j (qz R) g.1):Nat)])) t ((fr.same p).same (qi l)) (qt (p _ _ ag) l) (p.trans (qi l)) (by rw[r];exact qc);exact⟨_,rfl,_,rfl,D,H5,rfl,put,k⟩
  ·rintro O J ⟨al,o,rfl,fr,ag,ek,hv⟩;rw[tc,tv (tp _)]at ek;rw[tc,tc,tv (tp _)]at hv;exact⟨_,rfl,q J D R (λb u h=>fr _ _ (aA _ _ (sG _ _ h)) (qm h ay)) ay ⟨o,ag,ek,hv⟩ all⟩
open PySem L2 Rb
open PyProof.Rows hiding K lo
abbrev zr:Stmt:=top 5
abbrev Xc:Stmt:=top 6
abbrev ZI:Stmt:=top 19
abbrev zP:Stmt:=top 41
abbrev XL:Stmt:=top 42
abbrev XD:Stmt:=top 46
abbrev VE:Stmt:=j3 (top 44) 0
abbrev kt:Stmt:=j3 (top 44) 3
abbrev K4:Stmt:=j3 (top 44) 4
abbrev y0:Stmt:=j3 (top 44) 5
abbrev VL:Stmt:=j3 (top 45) 0
abbrev kw:Stmt:=j3 (top 45) 3
abbrev K7:Stmt:=j3 (top 45) 4
abbrev y3:Stmt:=j3 (top 45) 5
def bx(a b:Nat):Builtin.bitXor a b=((a^^^b:Nat):Int):=by
 unfold Builtin.bitXor;rw[bo,ba];have:=Rb.or_and_xor a b;omega
inductive UU(vs:List V)(H:Hp)(Q:VK):Prop
 | mk (b:Nat):vs=[.int b]->(b < 65536)->(∀l,H l=none->Q (.ref l) (upd H l (.lst (Jw (Rb.memN b 16)))))->UU vs H Q
def N6:Sp:=λa H Q _=>UU a H Q
inductive WT(vs:List V)(H:Hp)(Q:VK):Prop
 | mk (b n:Nat):vs=[.int b,.int n]->(b < 65536)->(n < 16)->(∀H',Same H H'->Q (.int (Rb.turnN b n 16:Nat)) H')->WT vs H Q
def UL:Sp:=λa H Q _=>WT a H Q
def AW(b:Nat):b < 2^ (Builtin.Int.intBits (b:Nat)):=by
 unfold Builtin.Int.intBits;by_cases h:b=0
 ·subst h;simp
 ·rw[if_neg (by simpa using h)];exact Nat.lt_log2_self
def Vq(h:b < 65536):Builtin.Int.intBits (b:Nat)<=16:=by
 unfold Builtin.Int.intBits;by_cases a:b=0
 ·subst a;simp
 ·rw[if_neg (by simpa using a)];have:b.log2 < 16:=(Nat.log2_lt a).mpr h;exact this
def Xb(b i:Nat):Builtin.bitAnd ((b:Int) / 2^ ((i:Nat):Int).toNat) 1=(((b.testBit i).toNat:Nat):Int):=by
 have a:(b:Int) / 2^ ((i:Nat):Int).toNat=((b / 2^i:Nat):Int):=by rw[zaL];push_cast;rfl
 have d:Builtin.bitAnd ((b / 2^i:Nat):Int) 1=(((b / 2^i)&&& 1:Nat):Int):=ba (b / 2^i) 1;rw[a,d,Nat.and_one_is_mod,Rb.testBit_div];by_cases h:b / 2^i % 2=1
 ·rw[h];rfl
 ·have a:b / 2^i % 2=0:=by omega
  rw[a];rfl
def Mp:qk ["bits"] ["bits"] (qg zr):=jM
def zX(F:jq K "numbers_in" "numbers_in" zr f a)(B:QL mg):qp P w K mg base q5 1 f a ["bits"] N6:=by
 refine F.okK Mp λH Q E hr h=>?_;obtain⟨b,rfl,a,q⟩:=h;refine⟨_,qe (qo (jP (N':=["number","bits"]) (ix:=[none,some 0])
  (jW (by rfl) B.rng (jc (RW PySem.F.plainAttrs_int PySem.F.slot_int_bit_length PySem.F.type_int_bit_length uc (jv 0))))
  (λ_ _ _ fp _=>⟨qF 0,jt (qj qT (qN VT (qN VR (jv 1) (jv 0)) qh) qh),jv 0⟩))),?_⟩
 refine⟨_,rfl,rfl,_,rfl,rfl,_,rfl,by omega,?_,λD l=>?_⟩
 ·have:=Vq a;omega
 ·rw[zaL];refine Zb (λi d g=>∃v,d=[v,some (.int b)]/\g=upd H D (.lst (Jw (Rb.memN b i)))) ⟨none,rfl,rfl⟩ ?_ ?_
  ·rintro i d g _ ⟨v,rfl,rfl⟩;rw[zbM];refine⟨_,rfl,_,rfl,_,_,rfl,rfl,by omega,_,_,rfl,rfl,rfl,_,rfl,?_⟩;have e:decide (V.int (Builtin.bitAnd ((b:Int) / 2^ ((i:Nat):Int).toNat) 1)=V.int 1)=b.testBit i:=by
    rw[Xb];cases b.testBit i<;>decide
   rw[e];have m:(Jw (Rb.memN b i)).length < zeq:=by
    rw[QY];refine ql ?_;have:=Vq a;have j:(Rb.memN b i).length<=(t9 i).length:=zam _ _;rw[zal]at j;omega
   cases j:b.testBit i with
   | true=>
    refine jX ⟨_,rfl,_,qc,m,some (.int i),rfl,?_⟩;rw[jT,z8,Rb.memN_succ,j];rfl
   | false=>
    refine jo ⟨some (.int i),rfl,?_⟩;rw[Rb.memN_succ,j];simp
  ·rintro d g ⟨v,rfl,rfl⟩;rw[Rb.memN_same (m:=16) a (AW b)];exact q D l
def KW:qk ["bits","number"] ["bits","number"] (qg Xc):=jM
def wF(F:jq K "set_turned" "set_turned" Xc f d)(B:QL mg)(hN:qM K mg "numbers_in" zr ["bits"] g j)(a:qM K mg "set_of" Ys ["numbers"] l o):
  qp P w K mg base q5 2 f d ["bits","number"] UL:=by
 refine F.okK KW λH Q E hr h=>?_;obtain⟨b,n,rfl,d,o,q⟩:=h;refine⟨_,qe (qo (qE a (pin P w mg base (vq a.fn)) (jc (jP (N':=["other","number"]) (ix:=[none,some 1])
  (qB (qE hN (pin P w mg base (zX hN.fn B)) (jc (jv 0))))
  (λ_ _ _ fp _=>⟨qF 0,j2,qN XX (jv 0) (jv 1)⟩))))),?_⟩
 refine⟨_,rfl,b,rfl,d,λg p=>⟨g,rfl,⟨_,.of qc⟩,λD j=>?_⟩⟩;have l:g≠D:=λe=>by rw[e,qc]at j;cases j
 refine j7 (λi a d=>∃v,a=[v,some (.int n)]/\d=upd (upd H g (.lst (Jw (Rb.memN b 16)))) D (.lst (Jw (((Rb.memN b 16).take i).map (·^^^n))))) ⟨none,rfl,rfl⟩
  (λi a d _ ⟨_,_,e⟩=>.of (by rw[e,qf l];exact qc)) ?_ ?_
 ·rintro i x a d g ⟨v,rfl,rfl⟩;obtain⟨m,r,rfl⟩:=Xn g;refine⟨_,rfl,_,rfl,_,_,rfl,rfl,_,qc,?_,some (.int m),rfl,?_⟩
  ·rw[QY,tc,tL];refine ql (t8 (zdt _ _) ?_);have u:(Rb.memN b 16).length<=(t9 16).length:=zam _ _;rw[zal]at u;omega
  ·rw[jT]
   try dsimp only
   rw[bx,z8,Z3 r,tA];rfl
 ·rintro a d ⟨v,rfl,rfl⟩;rw[QY,tv (tp _)];refine⟨D,(Rb.memN b 16).map (·^^^n),rfl,.of qc,λx g=>?_,?_⟩
  ·obtain⟨y,a,rfl⟩:=tz.mp g;have:=Rb.xor_lt (m:=4) (Rb.mem_memN.mp a).1 o;omega
  ·exact q _ (Same.upd (qi p) (by rw[<-j,qf (Ne.symm l)]))
structure Cl(K:zel)(mg:Str->Option Value)(x qual fG:Str)(st:Stmt)(C f:Addr)(fd:zep):Prop where
 cl:WC K C
 mkr:Mk K C f
 ns:mg x=some (.ref C)
 na:Ql K C fG
 fn:jq K "__init__" qual st f fd
 bi:jy K fd ["self",fG] []
 ca:zaa K (.ref C) "__class__"=some (some (.builtin "object.__class__"))
 ob:zcj K C (.type "object")=some true
structure Wk(K:zel)(mg:Str->Option Value):Prop where
 isi:mg "isinstance"=none
 bool:mg "bool"=none
 kii:tZ K (.type "int") (.type "int")=some true
 kib:tZ K (.type "int") (.type "bool")=some false
 most:∃t,mg "MOST_NUMBER"=some (.int 15 t)
 mset:∃t,mg "MOST_BITS"=some (.int 65535 t)
def Et{f:Str}{v:V}:[(f,v)].lookup f=some v:=by simp [zbc]
def zo(e CE:Addr)(H:Hp)(a:Addr):W->Prop
 | .num n=>∃d,H a=some (.ins e d [("number",.int (n:Nat))])
 | .edl b=>∃d,H a=some (.ins CE d [("bits",.int (b:Nat))])
def zo.same{d CE:Addr}{H H':Hp}{a:Addr}{w:W}(h:zo d CE H a w)(s:Same H H'):zo d CE H' a w:=by
 cases w with
 | num n=>obtain⟨d,e⟩:=h;exact⟨d,s _ _ e⟩
 | edl b=>obtain⟨d,e⟩:=h;exact⟨d,s _ _ e⟩
inductive WS(vs:List V)(H:Hp)(Q:VK):Prop
 | mk (i:Int):vs=[.int i]->(Q (.bl true) H)->WS vs H Q
def Kb:Sp:=λa H Q _=>WS a H Q
inductive WX(vs:List V)(H:Hp)(Q:VK):Prop
 | mk (i:Int):vs=[.int i]->(0<=i)->(i<=15)->(Q (.bl true) H)->WX vs H Q
def Kt:Sp:=λa H Q _=>WX a H Q
inductive U3(vs:List V)(H:Hp)(Q:VK):Prop
 | mk (i:Int):vs=[.int i]->(0<=i)->(i<=65535)->(Q (.bl true) H)->U3 vs H Q
def Mb:Sp:=λa H Q _=>U3 a H Q
def Mj:qk ["thing"] ["thing"] (qg ZI):=jM
def vp(F:jq K "is_whole" "is_whole" ZI f a)(B:QL mg)(T:Wk K mg):qp P w K mg base q5 1 f a ["thing"] Kb:=by
 refine F.okK Mj λH Q E hr h=>?_;obtain⟨i,rfl,q⟩:=h;refine⟨_,qe (qo (ZU (qx jQ (by rfl) T.isi boot_isinstance (qV (jv 0) (Je (v:=.ty "int") (by rfl) B.int boot_int rfl)))
  (YH (DS (qx jQ (by rfl) T.isi boot_isinstance (qV (jv 0) (Je (v:=.ty "bool") (by rfl) T.bool boot_bool rfl))))))),?_⟩
 exact⟨_,rfl,_,_,_,_,rfl,rfl,.int i,T.kii,_,rfl,jX ⟨_,rfl,_,_,_,_,rfl,rfl,.int i,T.kib,_,rfl,q⟩⟩
def K1:qk ["thing"] ["thing"] (qg zP):=jM
def wK(F:jq K "is_number" "is_number" zP f b)(B:QL mg)(T:Wk K mg)(a:qM K mg "is_whole" ZI ["thing"] d e):qp P w K mg base q5 2 f b ["thing"] Kt:=by
 obtain⟨t,b⟩:=T.most;refine F.okK K1 λH Q E hr h=>?_;obtain⟨i,rfl,d,e,q⟩:=h;refine⟨_,qe (qo (ZU (qE a (pin P w mg base (vp a.fn B T)) (jc (jv 0))) (ZU (Qc xl qh (jv 0)) (YH (Qc xl (jv 0) (Qt (v:=.int 15) (by rfl) b ⟨_,rfl⟩)))))),⟨_,rfl,i,rfl,_,rfl,jX ⟨_,rfl,_,_,rfl,rfl,_,rfl,?_⟩⟩⟩;rw[decide_eq_true d];refine jX ⟨_,rfl,_,_,rfl,rfl,?_⟩;show Q (.bl (decide (i<=15))) H;rw[decide_eq_true e];exact q
def Mv:qk ["thing"] ["thing"] (qg XL):=jM
def Rn(F:jq K "is_set" "is_set" XL f b)(B:QL mg)(T:Wk K mg)(a:qM K mg "is_whole" ZI ["thing"] d e):qp P w K mg base q5 2 f b ["thing"] Mb:=by
 obtain⟨t,b⟩:=T.mset;refine F.okK Mv λH Q E hr h=>?_;obtain⟨i,rfl,d,e,q⟩:=h;refine⟨_,qe (qo (ZU (qE a (pin P w mg base (vp a.fn B T)) (jc (jv 0))) (ZU (Qc xl qh (jv 0)) (YH (Qc xl (jv 0) (Qt (v:=.int 65535) (by rfl) b ⟨_,rfl⟩)))))),⟨_,rfl,i,rfl,_,rfl,jX ⟨_,rfl,_,_,rfl,rfl,_,rfl,?_⟩⟩⟩;rw[decide_eq_true d];refine jX ⟨_,rfl,_,_,rfl,rfl,?_⟩;show Q (.bl (decide (i<=65535))) H;rw[decide_eq_true e];exact q
inductive yO(C:Addr)(fG:Str)(hi:Int)(vs:List V)(H:Hp)(Q:VK):Prop
 | mk (x dx:Addr) (n:Int):vs=[.ref x,.int n]->(0<=n)->(n<=hi)->H x=some (.ins C dx [])->(Q .non (upd H x (.ins C dx [(fG,.int n)])))->yO C fG hi vs H Q
def VA(C:Addr)(fG:Str)(a:Int):Sp:=λb H Q _=>yO C fG a b H Q
def Mt:qk ["self","number"] ["self","number"] (qg VE):=jM
def Re(F:jq K "__init__" "Numbered.__init__" VE f d)(B:QL mg)(T:Wk K mg)(e:qM K mg "is_whole" ZI ["thing"] i j)(b:qM K mg "is_number" zP ["thing"] l m)(cl:WC K a)(g:Ql K a "number"):
  qp P w K mg base q5 3 f d ["self","number"] (VA a "number" 15):=by
 refine F.okK Mt λH Q E hr h=>?_;obtain⟨x,d,n,rfl,i,j,l,q⟩:=h;exact⟨_,qd (qA (Jp (jA (qE b (pin P w mg base (wK b.fn B T e)) (jc (jv 1))))) qS qr) (qe (V6 (jv 0) (jv 1) rfl)),⟨_,rfl,n,rfl,i,j,_,rfl,jo ⟨_,rfl,_,rfl,x,a,d,[],rfl,l,cl,g,by decide,q⟩⟩⟩
def My:qk ["self","bits"] ["self","bits"] (qg VL):=jM
def Rt{P:Program}{w:World}{K:zel}{mg:Str->Option Value}{base:Heap}{f d e CE:Addr}{a g i:zep}(F:jq K "__init__" "Endless.__init__" VL f a)(B:QL mg)(T:Wk K mg)(j:qM K mg "is_whole" ZI ["thing"] e i)(b:qM K mg "is_set" XL ["thing"] d g)(cl:WC K CE)(l:Ql K CE "bits"):
  qp P w K mg base q5 3 f a ["self","bits"] (VA CE "bits" 65535):=by
 refine F.okK My λH Q E hr h=>?_;obtain⟨x,a,n,rfl,d,e,g,q⟩:=h;exact⟨_,qd (qA (Jp (jA (qE b (pin P w mg base (Rn b.fn B T j)) (jc (jv 1))))) qS qr) (qe (V6 (jv 0) (jv 1) rfl)),⟨_,rfl,n,rfl,d,e,_,rfl,jo ⟨_,rfl,_,rfl,x,CE,a,[],rfl,g,cl,l,by decide,q⟩⟩⟩
inductive Bq(b:Bool)(vs:List V)(H:Hp)(Q:VK):Prop
 | mk (a:_):vs=[.ref a]->(Q (.bl b) H)->Bq b vs H Q
def x9(b:Bool):Sp:=λa H Q _=>Bq b a H Q
def CC:qk ["self"] ["self"] (qg y0):=jM
def M5(F:jq K "is_endless" "Numbered.is_endless" y0 f b):qp P w K mg base q5 1 f b ["self"] (x9 false):=by
 refine F.okK CC λH Q E hr h=>?_;obtain⟨a,rfl,q⟩:=h;exact⟨_,qe (qo Qz),q⟩
def CL:qk ["self"] ["self"] (qg y3):=jM
def Ae(F:jq K "is_endless" "Endless.is_endless" y3 f b):qp P w K mg base q5 1 f b ["self"] (x9 true):=by
 refine F.okK CL λH Q E hr h=>?_;obtain⟨a,rfl,q⟩:=h;exact⟨_,qe (qo Qz),q⟩
set_option genInjectivity false in
structure WF(K:zel)(mg:Str->Option Value) where
 (CN CE fNI fEI fNO fEO fNP fEP fNE fEE fW fB fS fT fN fO:Addr)
 (dNI dEI dNO dEO dNP dEP dNE dEE dW dB dS dT dN dO:zep)
 ne:CN≠CE
 cN:Cl K mg "Numbered" "Numbered.__init__" "number" VE CN fNI dNI
 cE:Cl K mg "Endless" "Endless.__init__" "bits" VL CE fEI dEI
 nO:ND K CN "outcome" "Numbered.outcome" K4 ["self"] fNO dNO
 eO:ND K CE "outcome" "Endless.outcome" K7 ["self"] fEO dEO
 nP:ND K CN "plus" "Numbered.plus" kt ["self","other"] fNP dNP
 eP:ND K CE "plus" "Endless.plus" kw ["self","other"] fEP dEP
 nE:ND K CN "is_endless" "Numbered.is_endless" y0 ["self"] fNE dNE
 eE:ND K CE "is_endless" "Endless.is_endless" y3 ["self"] fEE dEE
 hW:qM K mg "is_whole" ZI ["thing"] fW dW
 hB:qM K mg "is_number" zP ["thing"] fB dB
 hS:qM K mg "is_set" XL ["thing"] fS dS
 hT:qM K mg "set_turned" Xc ["bits","number"] fT dT
 hN:qM K mg "numbers_in" zr ["bits"] fN dN
 hO:qM K mg "set_of" Ys ["numbers"] fO dO
def isE:W->Bool
 | .num _=>false
 | .edl _=>true
def WF.gNI(h:WF K mg)(B:QL mg)(T:Wk K mg):qp P w K mg base q5 3 h.fNI h.dNI ["self","number"] (VA h.CN "number" 15):=Re h.cN.fn B T h.hW h.hB h.cN.cl h.cN.na
def WF.gEI(h:WF K mg)(B:QL mg)(T:Wk K mg):qp P w K mg base q5 3 h.fEI h.dEI ["self","bits"] (VA h.CE "bits" 65535):=Rt h.cE.fn B T h.hW h.hS h.cE.cl h.cE.na
def WF.gNE(h:WF K mg):qp P w K mg base q5 1 h.fNE h.dNE ["self"] (x9 false):=M5 h.nE.fn
def WF.gEE(h:WF K mg):qp P w K mg base q5 1 h.fEE h.dEE ["self"] (x9 true):=Ae h.eE.fn
def WF.gT(h:WF K mg)(B:QL mg):qp P w K mg base q5 2 h.fT h.dT ["bits","number"] UL:=wF h.hT.fn B h.hN h.hO
def Dt{f g:Str}{v:V}(h:(g==f)=false):[(f,v)].lookup g=none:=by simp [zbc,h]
def n1:((zem "is_endless")==(zem "number"))=false:=by decide+kernel
def n2:((zem "is_endless")==(zem "bits"))=false:=by decide+kernel
def n5:((zem "plus")==(zem "number"))=false:=by decide+kernel
def n6:((zem "plus")==(zem "bits"))=false:=by decide+kernel
def D6{g CE a:Addr}{H:Hp}{w:W}{Q:VK}(h:zo g CE H a w)(q:Q (.bl (isE w)) H):∃f d fs,V.ref a=.ref f/\fs.lookup (zem "is_endless")=none/\((H f=some (.ins g d fs)/\x9 false [V.ref a] H Q E0)\/(H f=some (.ins CE d fs)/\x9 true [V.ref a] H Q E0)):=by
 cases w with
 | num n=>obtain⟨d,e⟩:=h;exact⟨a,d,_,rfl,Dt n1,.inl ⟨e,a,rfl,q⟩⟩
 | edl b=>obtain⟨d,e⟩:=h;exact⟨a,d,_,rfl,Dt n2,.inr ⟨e,a,rfl,q⟩⟩
def RU{X:Cx}(h:WF X.K X.mg)(hr:ji 1 X.A)(g:JE X o j)(l:eval (.Call (.Attribute o "is_endless" c_) [] [] pos) X.env=(eval o X.env >>= λd=>standAt c_.atName >>= λ_=>holding [d] (getMethod d "is_endless" pl) >>= λr=>callWith pos r.1 r.2 (backTo pos (starEach [] X.env)) (backToKw pos (keywordEach [] X.env))):=by rfl):
  JE X (.Call (.Attribute o "is_endless" c_) [] [] pos) (λf H Q=>j f H λx b=>∃a u,x=.ref a/\zo h.CN h.CE b a u/\Q (.bl (isE u)) b):=
 Ua (Vf (RQ g) h.cN.cl h.nE.me h.gNE hr h.nE.bi h.cE.cl h.eE.me h.gEE hr h.eE.bi l) λf H Q q=>⟨_,q,λx b ⟨a,u,e,i,b⟩=>by subst e;exact D6 i b⟩
inductive UP(CN CE:Addr)(vs:List V)(H:Hp)(Q:VK):Prop
 | mk (a:_) (o:_) (n:_) (v:_):vs=[.ref a,.ref o]->(zo CN CE H a (.num n))->zo CN CE H o v->(n < 16)->Yw v->(∀H' r,Same H H'->zo CN CE H' r (zV (.num n) v)->Q (.ref r) H')->UP CN CE vs H Q
def yx(a CE:Addr):Sp:=λb H Q _=>UP a CE b H Q
inductive UQ(CN CE:Addr)(vs:List V)(H:Hp)(Q:VK):Prop
 | mk (a:_) (o:_) (b:_) (v:_):vs=[.ref a,.ref o]->(zo CN CE H a (.edl b))->zo CN CE H o v->(b < 65536)->Yw v->(∀H' r,Same H H'->zo CN CE H' r (zV (.edl b) v)->Q (.ref r) H')->UQ CN CE vs H Q
def yy(a CE:Addr):Sp:=λb H Q _=>UQ a CE b H Q
def V0{d CE:Addr}{H:Hp}{x a:Addr}{n:Nat}(e:H x=none)(hd:H a=none)(f:a≠x):Same H (upd (upd (upd H a (.own x)) x (.ins d a [])) x (.ins d a [("number",.int (n:Nat))]))/\zo d CE (upd (upd (upd H a (.own x)) x (.ins d a [])) x (.ins d a [("number",.int (n:Nat))])) x (.num n):=
 ⟨λb _ d=>by rwa [qf (qm d e),qf (qm d e),qf (qm d hd)],a,qc⟩
def V1{d CE:Addr}{H:Hp}{x a:Addr}{b:Nat}(e:H x=none)(hd:H a=none)(f:a≠x):Same H (upd (upd (upd H a (.own x)) x (.ins CE a [])) x (.ins CE a [("bits",.int (b:Nat))]))/\zo d CE (upd (upd (upd H a (.own x)) x (.ins CE a [])) x (.ins CE a [("bits",.int (b:Nat))])) x (.edl b):=
 ⟨λb _ d=>by rwa [qf (qm d e),qf (qm d e),qf (qm d hd)],a,qc⟩
def Mx:qk ["self","other"] ["self","other"] (qg kw):=jM
def WF.gEP{P:Program}{w:World}{K:zel}{mg:Str->Option Value}{base:Heap}(h:WF K mg)(B:QL mg)(T:Wk K mg):qp P w K mg base q5 5 h.fEP h.dEP ["self","other"] (yy h.CN h.CE):=by
 refine h.eP.fn.okJ Mx (λd H Q E z=>?_) (λ_ A _ s H d Q E hr z=>?_)
 ·obtain⟨a,d,b,v,rfl,_⟩:=z;rfl
 ·obtain⟨a,d,b,v,rfl,m,j,o,l,q⟩:=z;refine⟨_,qd (qA (jA (RU h (hr.mono (by decide)) (jv 1))) (qe (qo (JL h.cE.mkr (h.gEI B T) hr (by rfl) h.cE.ns h.cE.bi .nil Qy (jc qh)))) qr)
   (qe (qo (JL h.cE.mkr (h.gEI B T) hr (by rfl) h.cE.ns h.cE.bi .nil Qy (jc (qE h.hT (h.gT B) (qV (Jq (jv 0) rfl) (Jq (jv 1) rfl))))))),?_⟩
  refine⟨_,rfl,d,v,rfl,j,_,rfl,?_⟩;cases v with
  | edl c=>
   refine jX (λx e f hd g=>⟨x,e,0,rfl,by decide,by decide,qc,rfl,?_⟩);obtain⟨i,p⟩:=V1 f hd g;exact q _ _ i p
  | num n=>
   obtain⟨p,r⟩:=id m;obtain⟨m,u⟩:=id j;refine jo ⟨_,rfl,a,h.CE,p,_,_,rfl,r,h.cE.cl,h.cE.na,Et,_,rfl,d,h.CN,m,_,_,rfl,u,h.cN.cl,h.cN.na,Et,b,n,rfl,o,l,λ_ i x e f hd g=>⟨x,e,_,rfl,by omega,?_,qc,rfl,?_⟩⟩
   ·have:turnN b n 16 < 65536:=yi (k:=4) (tp _) l;omega
   ·obtain⟨d,e⟩:=V1 f hd g;exact q _ _ (i.trans d) e
def Ms:qk ["self","other"] ["self","other"] (qg kt):=jM
def WF.gNP(h:WF K mg)(B:QL mg)(T:Wk K mg):qp P w K mg base q5 6 h.fNP h.dNP ["self","other"] (yx h.CN h.CE):=by
 refine h.nP.fn.okJ Ms (λd H Q E z=>?_) (λ_ A _ s H d Q E hr z=>?_)
 ·obtain⟨a,d,b,v,rfl,_⟩:=z;rfl
 ·obtain⟨a,d,n,v,rfl,j,e,l,o,q⟩:=z;refine⟨_,qd (qA (jA (RU h (hr.mono (by decide)) (jv 1))) (qe (qo (Vg h.eP h.cE.cl (h.gEP B T) hr (jv 1) (jc (jv 0))))) qr)
   (qe (qo (JL h.cN.mkr (h.gNI B T) (hr.mono (by decide)) (by rfl) h.cN.ns h.cN.bi .nil Qy (jc (qN XX (Jq (jv 0) rfl) (Jq (jv 1) rfl)))))),?_⟩
  refine⟨_,rfl,d,v,rfl,e,_,rfl,?_⟩;cases v with
  | edl c=>
   obtain⟨f,g⟩:=id e;exact jX ⟨_,rfl,d,f,_,rfl,g,Dt n6,_,rfl,d,a,c,.num n,rfl,e,j,o,l,λp r s i=>q p r s i⟩
  | num m=>
   obtain⟨p,r⟩:=id j;obtain⟨f,g⟩:=id e;refine jo ⟨_,rfl,a,h.CN,p,_,_,rfl,r,h.cN.cl,h.cN.na,Et,_,rfl,d,h.CN,f,_,_,rfl,g,h.cN.cl,h.cN.na,Et,_,_,rfl,rfl,λx d e hd f=>?_⟩;have lt:=xor_lt (m:=4) l o;refine⟨x,d,((n^^^m:Nat):Int),by rw[<-bx];rfl,by omega,by omega,qc,rfl,?_⟩;obtain⟨d,g⟩:=V0 e hd f;exact q _ _ d g
def MN{f CE a:Addr}{H:Hp}{u:W}{Q:VK}{t:TA}{i:L2.St}(h:zo f CE H a u)(hu:Yw u)(p:t i H λvs d=>∃o v,vs=[.ref o]/\zo f CE d a u/\zo f CE d o v/\Yw v/\∀H' r,Same d H'->zo f CE H' r (zV u v)->Q (.ref r) H')
  (mono:∀R l:List V->Hp->Prop,(∀vs H,R vs H->l vs H)->t i H R->t i H l):
  ∃j g fs,V.ref a=.ref j/\fs.lookup (zem "plus")=none/\((H j=some (.ins f g fs)/\t i H λvs d=>yx f CE (V.ref a::vs) d Q E0)\/(H j=some (.ins CE g fs)/\t i H λvs d=>yy f CE (V.ref a::vs) d Q E0)):=by
 cases u with
 | num n=>
  obtain⟨g,e⟩:=id h;exact⟨a,g,_,rfl,Dt n5,.inl ⟨e,mono _ _ (λvs d ⟨o,v,f,i,j,l,m⟩=>⟨a,o,n,v,by rw[f],i,j,hu,l,m⟩) p⟩⟩
 | edl b=>
  obtain⟨g,e⟩:=id h;exact⟨a,g,_,rfl,Dt n6,.inr ⟨e,mono _ _ (λvs d ⟨o,v,f,i,j,l,m⟩=>⟨a,o,b,v,by rw[f],i,j,hu,l,m⟩) p⟩⟩
def As{X:Cx}(h:WF X.K X.mg)(B:QL X.mg)(T:Wk X.K X.mg)(hr:ji 6 X.A)(j:JE X o l)(m:JA X [e] t)(p:starEach [e] X.env=(false,eval e X.env)::starEach [] X.env:=by rfl)(C:eval (.Call (.Attribute o "plus" c_) [e] [] pos) X.env=(eval o X.env >>= λg=>standAt c_.atName >>= λ_=>holding [g] (getMethod g "plus" pl) >>= λr=>callWith pos r.1 r.2 (backTo pos (starEach [e] X.env)) (backToKw pos (keywordEach [] X.env))):=by rfl):
  JE X (.Call (.Attribute o "plus" c_) [e] [] pos) (λd H Q=>l d H λx f=>∃a u,x=.ref a/\zo h.CN h.CE f a u/\Yw u/\t d f λvs b=>∃o v,vs=[.ref o]/\zo h.CN h.CE b a u/\zo h.CN h.CE b o v/\Yw v/\∀H' r,Same b H'->zo h.CN h.CE H' r (zV u v)->Q (.ref r) H'):=
 Ua (RS (RQ j) h.cN.cl h.nP.me (h.gNP B T) hr h.nP.bi h.cE.cl h.eP.me (h.gEP B T) (hr.mono (by decide)) h.eP.bi (F1 m) p rfl C) λd H Q q=>⟨_,q,λx f ⟨a,u,e,i,hu,d⟩=>by
  subst e;exact MN i hu ⟨_,d,λvs b z=>z⟩ λR _ k ⟨G,d,z⟩=>⟨G,d,λvs b y=>k vs b (z vs b y)⟩⟩
def Wl(d CE:Addr)(H:Hp)(as:List Addr)(b:List W):Prop:=as.length=b.length/\∀(i:Nat) (a:Addr) (u:W),as[i]?=some a->b[i]?=some u->zo d CE H a u
inductive UM(K:zel)(CN CE:Addr)(vs:List V)(H:Hp)(Q:VK):Prop
 | mk (l:Addr) (as:List Addr) (ws:List W):vs=[.ref l]->(SqL K H l (as.map V.ref))->Wl CN CE H as ws->((∀u∈ws,Yw u))->(∀H' r,Same H H'->zo CN CE H' r (QP ws)->Q (.ref r) H')->UM K CN CE vs H Q
def N2(K:zel)(a CE:Addr):Sp:=λb H Q _=>UM K a CE b H Q
def Ml:qk ["worths","total","worth"] ["worths"] (qg XD):=jM
def Uc{a:List W}(h:∀u∈a,Yw u)(i:Nat):Yw ((a.take i).foldl zV (.num 0)):=by
 have b:∀u∈a.take i,Yw u:=λu hu=>h u (zbf hu);rw[vG b];exact uU b
def G8{P:Program}{w:World}{K:zel}{mg:Str->Option Value}{base:Heap}{f:Addr}{a:zep}(F:jq K "sum_of" "sum_of" XD f a)(h:WF K mg)(B:QL mg)(T:Wk K mg):qp P w K mg base q5 7 f a ["worths"] (N2 K h.CN h.CE):=by
 refine F.okK Ml λH Q E hr z=>?_;obtain⟨g,as,a,rfl,l,p,r,q⟩:=z;refine⟨_,qd (qy 1 (JL h.cN.mkr (h.gNI B T) (hr.mono (by decide)) (by rfl) h.cN.ns h.cN.bi .nil Qy (jc qh)))
  (qd (qX (qB (jv 0)) (qF 2) (qe (qy 1 (As h B T hr (jv 1) (jc (jv 2))))))
  (qe (qo (jv 1)))),?_⟩
 refine λx b d hd j=>⟨x,b,0,rfl,by decide,by decide,qc,rfl,?_⟩;obtain⟨m,o⟩:=V0 d hd j;refine⟨_,rfl,g,rfl,⟨_,m.seq l⟩,je (λi j b=>∃d v,j=[some (.ref g),some (.ref d),v]/\Same H b/\zo h.CN h.CE b d ((a.take i).foldl zV (.num 0))) ⟨x,none,rfl,m,o⟩ (λi j b _ ⟨_,_,_,e,_⟩=>e.seq l) ?_ ?_⟩
 ·rintro i y j b g ⟨d,v,rfl,l,m⟩;rw[tu]at g;cases o:as[i]? with
  | none=>rw[o]at g;cases g
  | some u=>
   rw[o]at g;obtain rfl:=(tF.inj g).symm;have g:i < a.length:=by
    have:=(td.mp o).1;rwa [p.1]at this
   have C:=tj g;have D:a.take (i+1)=a.take i++[a[i]]:=by rw[tN,C];rfl
   refine⟨_,rfl,d,_,rfl,m,Uc r i,_,rfl,u,_,rfl,m,(p.2 i u _ o C).same l,r _ (zbo g),λ_ a g o=>⟨a,_,rfl,l.trans g,?_⟩⟩;rw[D,zcD];exact o
 ·rintro j b ⟨d,v,rfl,l,m⟩;refine⟨_,rfl,q _ _ l ?_⟩;rwa [tc,p.1,tv (tp _),vG r]at m
def zW:W->Str
 | .num n=>if n=0 then "lost" else "won"
 | .edl b=>if b.testBit 0=true then "won" else "drawn"
inductive yA(CN CE:Addr)(vs:List V)(H:Hp)(Q:VK):Prop
 | mk (a:_) (n:_):vs=[.ref a]->(zo CN CE H a (.num n))->(Q (.str (zW (.num n))) H)->yA CN CE vs H Q
def Kn(a CE:Addr):Sp:=λb H Q _=>yA a CE b H Q
inductive yB(CN CE:Addr)(vs:List V)(H:Hp)(Q:VK):Prop
 | mk (a:_) (b:_):vs=[.ref a]->(zo CN CE H a (.edl b))->(b < 65536)->(∀H',Same H H'->Q (.str (zW (.edl b))) H')->yB CN CE vs H Q
def Ko(a CE:Addr):Sp:=λb H Q _=>yB a CE b H Q
def CB:qk ["self"] ["self"] (qg K4):=jM
def CK:qk ["self"] ["self"] (qg K7):=jM
def WF.gNO{P:Program}{w:World}{K:zel}{mg:Str->Option Value}{base:Heap}(h:WF K mg):qp P w K mg base q5 1 h.fNO h.dNO ["self"] (Kn h.CN h.CE):=by
 refine h.nO.fn.okJ CB (λb H Q E z=>?_) (λ_ A _ s H b Q E hr z=>?_)
 ·obtain⟨a,n,rfl,_⟩:=z;rfl
 ·obtain⟨a,n,rfl,⟨b,e⟩,q⟩:=z;refine⟨_,qd (qA (qj qT (Jq (jv 0) rfl) qh) (qe (qo qv)) qr) (qe (qo qv)),⟨_,rfl,a,h.CN,b,_,_,rfl,e,h.cN.cl,h.cN.na,Et,rfl,_,rfl,?_⟩⟩;have q:Q (.str (if n=0 then "lost" else "won")) H:=q;by_cases c:n=0
  ·subst c;rw[if_pos rfl]at q;exact qK (by decide) q
  ·rw[if_neg c]at q;exact qI (decide_eq_false λz=>c (by have:=V.int.inj z;omega)) q
def WF.gEO(h:WF K mg)(B:QL mg):qp P w K mg base q5 2 h.fEO h.dEO ["self"] (Ko h.CN h.CE):=by
 refine h.eO.fn.okJ CK (λd H Q E z=>?_) (λ_ A _ s H d Q E hr z=>?_)
 ·obtain⟨a,b,rfl,_⟩:=z;rfl
 ·obtain⟨a,b,rfl,⟨d,e⟩,f,q⟩:=z;refine⟨_,qd (qA (qj J4 qh (qE h.hN (pin P w mg base (zX h.hN.fn B)) (jc (Jq (jv 0) rfl))) (by with_unfolding_all rfl)) (qe (qo qv)) qr) (qe (qo qv)),⟨_,rfl,a,h.CE,d,_,_,rfl,e,h.cE.cl,h.cE.na,Et,b,rfl,f,λd f=>⟨d,_,rfl,.inl (.of qc),rfl,ZW _,_,rfl,?_⟩⟩⟩;have g:zb (.int ((0:Nat):Int)) (Jw (memN b 16))=b.testBit 0:=by
   rw[YI];unfold memN;rw[zba,decide_eq_true_iff,tP];exact⟨λh=>h.2,λh=>⟨by decide,h⟩⟩
  have q:=q _ (qi (o:=HO.lst (Jw (memN b 16))) f);have q:Q (.str (if b.testBit 0=true then "won" else "drawn")) (upd H d (HO.lst (Jw (memN b 16)))):=q;show if zb (.int ((0:Nat):Int)) (Jw (memN b 16))=true then _ else _
  rw[g];cases c:b.testBit 0 with
  | true=>rw[if_pos c]at q;exact jX q
  | false=>rw[if_neg (c▸tK)]at q;exact jo q
def n7:((zem "outcome")==(zem "number"))=false:=by decide+kernel
def n8:((zem "outcome")==(zem "bits"))=false:=by decide+kernel
def MU{f CE a:Addr}{H:Hp}{w:W}{Q:VK}(h:zo f CE H a w)(ok:Yw w)(q:∀H',Same H H'->Q (.str (zW w)) H'):
  ∃g d fs,V.ref a=.ref g/\fs.lookup (zem "outcome")=none/\((H g=some (.ins f d fs)/\Kn f CE [V.ref a] H Q E0)\/(H g=some (.ins CE d fs)/\Ko f CE [V.ref a] H Q E0)):=by
 cases w with
 | num n=>obtain⟨d,e⟩:=id h;exact⟨a,d,_,rfl,Dt n7,.inl ⟨e,a,n,rfl,h,q H λ_ _ z=>z⟩⟩
 | edl b=>obtain⟨d,e⟩:=id h;exact⟨a,d,_,rfl,Dt n8,.inr ⟨e,a,b,rfl,h,ok,q⟩⟩
def At{X:Cx}(h:WF X.K X.mg)(B:QL X.mg)(hr:ji 2 X.A)(g:JE X o j)(l:eval (.Call (.Attribute o "outcome" c_) [] [] pos) X.env=(eval o X.env >>= λd=>standAt c_.atName >>= λ_=>holding [d] (getMethod d "outcome" pl) >>= λr=>callWith pos r.1 r.2 (backTo pos (starEach [] X.env)) (backToKw pos (keywordEach [] X.env))):=by rfl):
  JE X (.Call (.Attribute o "outcome" c_) [] [] pos) (λf H Q=>j f H λx b=>∃a u,x=.ref a/\zo h.CN h.CE b a u/\Yw u/\∀H',Same b H'->Q (.str (zW u)) H'):=
 Ua (Vf (RQ g) h.cN.cl h.nO.me h.gNO (hr.mono (by decide)) h.nO.bi h.cE.cl h.eO.me (h.gEO B) hr h.eO.bi l) λf H Q q=>⟨_,q,λx b ⟨a,u,e,i,k,b⟩=>by subst e;exact MU i k b⟩
open PySem L2 MLab Rb
open PyProof.Rows hiding K lo
abbrev ZJ:Stmt:=top 32
abbrev QD:Stmt:=top 35
abbrev Fp:Stmt:=top 54
abbrev MA:Stmt:=top 58
structure js(H:Hp)(h:Addr)(rs:ju)(hs:List Str):Prop where
 at_:H h=some (.lst (hs.map V.str))
 le:hs.length<=8
 in_:∀z∈hs,∃r∈rs,r.1=z
def js.mono(x:js H h rs hs)(s:Same H H'):js H' h rs hs:=⟨s _ _ x.at_,x.le,x.in_⟩
inductive US(CG:Addr)(vs:List V)(H:Hp)(Q:VK):Prop
 | mk (g:Addr) (rs:ju) (z:Str):vs=[.ref g,.str z]->Qk CG H g rs->((∃r∈rs,r.1=z))->(∀H',Same H H'->Q .non H')->US CG vs H Q
def yz(a:Addr):Sp:=λb H Q _=>US a b H Q
inductive UX(CG:Addr)(vs:List V)(H:Hp)(Q:VK):Prop
 | mk (g h:Addr) (rs:ju) (hs:List Str):vs=[.ref g,.ref h]->Qk CG H g rs->js H h rs hs->(∀H',Same H H'->Q .non H')->UX CG vs H Q
def Xa(a:Addr):Sp:=λb H Q _=>UX a b H Q
def TK(H H':Hp):Prop:=∀a b,H a=some (.tup b)->H' a=some (.tup b)
def TK.of(s:Same H H'):TK H H':=λa _ h=>s _ _ h
def TK.upd{H:Hp}(hd:H d=some o)(no:∀xs,o≠.tup xs):TK H (upd H d u):=λa xs h=>by
 rw[qf (λe=>by rw[e,hd]at h;exact no xs (tF.inj h))];exact h
def Qo(rs:ju)(z:Str):List Str:=match rs.find? (λa=>decide (a.1=z)) with
 | some a=>a.2
 | none=>[]
def z5{rs:ju}(a:(rs.map (·.1)).Nodup)(h:r∈rs):Qo rs r.1=r.2:=by
 unfold Qo;rw[Wj a h]
def qR(g:qu rs)(a:z∈rs.map (·.1)):y∈Qo rs z↔y∈QM rs z:=by
 obtain⟨_,hr,rfl⟩:=tz.mp a;rw[z5 g.nd hr,xy g hr]
def FT(g:qu rs)(L:WB (QM rs) (·∈rs.map (·.1)) num fz):WB (Qo rs) (·∈rs.map (·.1)) num fz where
 cl:=λ{x y} a b=>L.cl a ((qR g a).mp b)
 n1:=λ{x n m} a e lt=>let ⟨y,b,k⟩:=L.n1 a e lt;⟨y,(qR g a).mpr b,k⟩
 n2:=λ{x y n} a e b=>L.n2 a e ((qR g a).mp b)
 n3:=λ{x y n} a e b gt=>let ⟨z,d,k⟩:=L.n3 a e ((qR g a).mp b) gt;⟨z,(qR g (L.cl a ((qR g a).mp b))).mpr d,k⟩
 n4:=λ{x y n m} a e b=>L.n4 a e ((qR g a).mp b)
 e:=λ{x m} a e lo f=>by
  obtain⟨y,b,i,j⟩:=L.e a e (λl o=>let ⟨y,b,k⟩:=lo l o;⟨y,(qR g a).mp b,k⟩) (λy b=>f y ((qR g a).mpr b));exact⟨y,(qR g a).mpr b,i,λz d=>j z ((qR g (L.cl a b)).mp d)⟩
abbrev BQ:List Str:=["ground","thing"]
def E6:qk BQ BQ (qg ZJ):=jM
def vr(F:jq K "need_place" "need_place" ZJ f a)(G:QB mg)(M:GM K mg b):qp P w K mg base q5 2 f a BQ (yz b):=by
 obtain⟨_,_,a⟩:=M.cls;obtain⟨_,_,b⟩:=M.nm;refine F.okK E6 λH Q E hr h=>?_;obtain⟨d,e,z,rfl,g,i,q⟩:=h;refine⟨_,qe (qA (qj Jc (jv 1) (xu b a.cl (pin P w mg base (Z9 b.fn a G)) hr (jv 0)) (by with_unfolding_all rfl)) qS qr),?_⟩;obtain⟨a,fs,b,j,_⟩:=g.ins;refine⟨_,rfl,_,rfl,d,a,fs,rfl,b,j,d,e,rfl,g,λa b=>⟨a,_,rfl,.inl (.of qc),rfl,zc _,_,rfl,?_⟩⟩;show if (!zb (.str z) ((e.map (·.1)).map V.str))=true then _ else _
 rw[Ub (by obtain⟨a,d,rfl⟩:=i;exact tz.mpr ⟨a,d,rfl⟩)];exact jo (q _ (qi b))
abbrev nNH:List Str:=["ground","heap","thing"]
def Fb:qk nNH ["ground","heap"] (qg QD):=jM
def vt(F:jq K "need_heap" "need_heap" QD f a)(B:QL mg)(G:QB mg)(T:Qv K mg)(M:GM K mg d)(b:qM K mg "need_place" ZJ BQ e g)(mt:∃t,mg "MOST_TOKENS"=some (.int 8 t)):qp P w K mg base q5 3 f a ["ground","heap"] (Xa d):=by
 obtain⟨tk,g⟩:=mt;refine F.okK Fb λH Q E hr h=>?_;obtain⟨e,d,j,_,rfl,l,a,q⟩:=h;refine⟨_,qd (qA (Jp (jA (qx jQ (by rfl) T.isi boot_isinstance (qV (jv 1) (Je (v:=.ty "list") (by rfl) G.lst boot_list rfl))))) qS qr)
  (qd (qA (qj ZM (qx qL (by rfl) B.len boot_len (jc (jv 1))) (Qt (v:=.int 8) (by rfl) g ⟨_,rfl⟩)) qS qr)
  (qe (qX (qB (jv 1)) (qF 2) (qe (q4 (qE b (pin P w mg base (vr b.fn G M)) (qV (jv 0) (jv 2)))))))),?_⟩
 refine⟨_,rfl,_,_,_,_,rfl,rfl,.lst a.at_,T.kll,_,rfl,jo ⟨_,rfl,d,_,rfl,.inl (.of a.at_),_,_,rfl,rfl,_,rfl,qI (decide_eq_false ?_) ?_⟩⟩
 ·have:=a.le;rw[tc];omega
 refine⟨_,rfl,d,rfl,⟨_,.of a.at_⟩,je (λi b G=>∃v,b=[some (.ref e),some (.ref d),v]/\Same H G) ⟨_,rfl,Same.refl H⟩ (λi b G _ ⟨_,_,s⟩=>.of (s _ _ a.at_)) ?_ ?_⟩
 ·rintro i y b G g ⟨v,rfl,d⟩;obtain⟨z,_,m,rfl⟩:=jU g;exact⟨_,rfl,_,rfl,e,j,z,rfl,l.mono d,a.in_ z m,λ_ a=>⟨_,rfl,d.trans a⟩⟩
 ·rintro b G ⟨v,rfl,d⟩;exact q G d
def wT(rs:ju)(R:Rs Str)(z:Str):W:=match qz R z with
 | some n=>.num n
 | none=>.edl (setN (QW rs (qz R) z))
def zp(e:qz R z=some n):wT rs R z=.num n:=by unfold wT;rw[e]
def Ze(e:qz R z=none):wT rs R z=.edl (setN (QW rs (qz R) z)):=by unfold wT;rw[e]
def A5(good:qu rs)(L:WB (QM rs) (·∈rs.map (·.1)) (qz R) (Ja R))(a:z∈rs.map (·.1)):Yw (wT rs R z):=by
 cases e:qz R z with
 | some n=>
  rw[zp e];have:=zA good L a e;show n < 16;omega
 | none=>
  rw[Ze e];show setN _ < 65536;refine setN_lt (m:=16) λx b=>?_;obtain⟨y,d,f⟩:=jz.mp b;have:=zA good L (L.cl a d) f;omega
def Jx(ns:List Nat):xorAll ns=j1 ns:=by
 induction ns with
 | nil=>rfl
 | cons n ns a=>rw[YO,a,Z2]
def Yy:∀hs:List Str,Jm (hs.map (wT rs R))=nums (qz R) hs
 | []=>rfl
 | z::hs=>by
  unfold Jm nums;rw[tV,zav,zav];have a:=Yy (rs:=rs) (R:=R) hs;unfold Jm nums at a;cases e:qz R z with
  | some n=>rw[zp e,a]
  | none=>rw[Ze e,a]
def Yr:∀hs:List Str,(Qx (hs.map (wT rs R))).length=ends (qz R) hs
 | []=>rfl
 | z::hs=>by
  unfold Qx ends;rw[tV,zav,zbe];have a:=Yr (rs:=rs) (R:=R) hs;unfold Qx ends at a;cases e:qz R z with
  | some n=>rwa [zp e]
  | none=>rw[Ze e];show _+1=_+1;rw[a]
def wc(ex:qz R x=none)(b:ends (qz R) (p++q)=0):Qx ((p++x::q).map (wT rs R))=[setN (QW rs (qz R) x)]:=by
 have a:Qx ((p++q).map (wT rs R))=[]:=zap (by rw[Yr];exact b);unfold Qx at a ⊢;rw[tA,zau,List.append_eq_nil_iff]at a;rw[tA,tV,zau,zav,Ze ex,a.1,a.2];rfl
def kz(good:qu rs)(L:WB (QM rs) (·∈rs.map (·.1)) (qz R) (Ja R)){hs:List Str}(o:∀z∈hs,z∈rs.map (·.1)):
  (Uo (mv (Qo rs)) hs/\zW (QP (hs.map (wT rs R)))="lost")\/(Won (mv (Qo rs)) hs/\zW (QP (hs.map (wT rs R)))="won")\/(¬Uo (mv (Qo rs)) hs/\¬Won (mv (Qo rs)) hs/\zW (QP (hs.map (wT rs R)))="drawn"):=by
 have f:=FT good L;have j:=Yr (rs:=rs) (R:=R) hs;have r:xorAll (Jm (hs.map (wT rs R)))=j1 (nums (qz R) hs):=by rw[Yy,Jx]
 rw[z1 f o,Vy f o];rcases zaB (ends (qz R) hs) 1 with c | c | c
 ·have g:ends (qz R) hs=0:=by omega
  rw[g]at j;have l:QP (hs.map (wT rs R))=.num (j1 (nums (qz R) hs)):=by unfold QP;rw[zap j,<-r]
  have u:¬Drawn (Qo rs) (qz R) hs:=by
   rintro(⟨f,x,q,rfl,i,_⟩ | h)
   ·rw[jp i]at g;omega
   ·omega
  rw[l];by_cases p:j1 (nums (qz R) hs)=0
  ·exact .inl ⟨⟨g,p⟩,if_pos p⟩
  ·exact .inr (.inl ⟨⟨u,λz=>p z.2⟩,if_neg p⟩)
 ·obtain⟨f,x,q,rfl,i⟩:=Q5.mp (by omega:0 < ends (qz R) hs);rw[jp i]at c;have g:ends (qz R) (f++q)=0:=by omega
  have u:=o x (by simp);have lt:j1 (nums (qz R) (f++x::q)) < 16:=by
   rw[<-Jx];refine Ym λn p=>?_;obtain⟨z,B,C⟩:=zaH.mp p;have:=zA good L (o z B) C;omega
  have l:QP ((f++x::q).map (wT rs R))=.edl (turnN (setN (QW rs (qz R) x)) (j1 (nums (qz R) (f++x::q))) 16):=by
   unfold QP;rw[wc i g,<-r]
  have r:¬WK (qz R) (f++x::q):=λz=>by have:=z.1;rw[jp i]at this;omega
  have B:(turnN (setN (QW rs (qz R) x)) (j1 (nums (qz R) (f++x::q))) 16).testBit 0=decide (j1 (nums (qz R) (f++q))∈QW rs (qz R) x):=by
   rw[QC lt,zcE,testBit_setN,Jl i];simp
  rw[l];by_cases m:j1 (nums (qz R) (f++q))∈QW rs (qz R) x
  ·refine .inr (.inl ⟨⟨?_,r⟩,?_⟩)
   ·obtain⟨y,p,o⟩:=jz.mp m;exact λd=>Wp d ((j8 _).mpr ⟨f,x,y,q,rfl,(qR good u).mpr p,rfl⟩) ⟨by rw[jx o];exact g,by rw[Qn o,zce]⟩
   ·show (if _ then _ else _)=_;rw[B,if_pos (decide_eq_true m)]
  ·have d:Drawn (Qo rs) (qz R) (f++x::q):=.inl ⟨f,x,q,rfl,i,g,λy p o=>m (jz.mpr ⟨y,(qR good u).mp p,o⟩)⟩;refine .inr (.inr ⟨r,λh=>h.1 d,?_⟩);show (if _ then _ else _)=_;rw[B,decide_eq_false m];rfl
 ·have d:Drawn (Qo rs) (qz R) hs:=.inr (by omega);have l:QP (hs.map (wT rs R))=.edl 0:=by
   unfold QP;cases e:Qx (hs.map (wT rs R)) with
   | nil=>rw[e]at j;simp at j;omega
   | cons a t=>
    cases t with
    | nil=>rw[e]at j;simp at j;omega
    | cons b t=>rfl
  rw[l];exact .inr (.inr ⟨λz=>by have:=z.1;omega,λh=>h.1 d,rfl⟩)
inductive Bo(CN CE:Addr)(vs:List V)(H:Hp)(Q:VK):Prop
 | mk (t:Addr) (rs:ju) (R:Rs Str) (z:Str):vs=[.ref t]->H t=some (.tup (jV rs R z))->(Yw (wT rs R z))->(∀a H',Same H H'->zo CN CE H' a (wT rs R z)->Q (.ref a) H')->Bo CN CE vs H Q
def HU(a CE:Addr):Sp:=λb H Q _=>Bo a CE b H Q
inductive Kc(CN CE:Addr)(vs:List V)(H:Hp)(Q:VK):Prop
 | mk (D h:Addr) (rs:ju) (R:Rs Str) (hs:List Str):vs=[.ref D,.ref h]->ja H D rs R->js H h rs hs->((∀z∈hs,Yw (wT rs R z)))->(∀a H',Same H H'->zo CN CE H' a (QP (hs.map (wT rs R)))->Q (.ref a) H')->Kc CN CE vs H Q
def EO(a CE:Addr):Sp:=λb H Q _=>Kc a CE b H Q
def Ii:qk ["label"] ["label"] (qg Fp):=jM
def FE(F:jq K "label_worth" "label_worth" Fp f a)(h:WF K mg)(B:QL mg)(T:Wk K mg):qp P w K mg base q5 5 f a ["label"] (HU h.CN h.CE):=by
 refine F.okK Ii λH Q E hr z=>?_;obtain⟨t,b,R,z,rfl,a,ok,q⟩:=z;refine⟨_,qd (qA (qj qT (qD qJ (jv 0) qh) qv) (qe (qo (JL h.cN.mkr (h.gNI B T) hr (by rfl) h.cN.ns h.cN.bi .nil Qy (jc (qD qJ (jv 0) qh))))) qr)
  (qe (qo (JL h.cE.mkr (h.gEI B T) hr (by rfl) h.cE.ns h.cE.bi .nil Qy (jc (qD qJ (jv 0) qh))))),?_⟩
 cases e:qz R z with
 | some n=>
  rw[zp e]at ok q;have d:jV b R z=[.str "number",.int (n:Nat),.int (Ja R z:Nat)]:=by unfold jV;rw[e]
  rw[d]at a;refine⟨_,rfl,t,_,0,_,rfl,rfl,.of a,rfl,rfl,_,rfl,qK (by decide+kernel) ⟨_,rfl,t,_,1,_,rfl,rfl,.of a,rfl,λx g i hd j=>⟨x,g,_,rfl,by omega,?_,qc,rfl,?_⟩⟩⟩
  ·have:n < 16:=ok;omega
  ·obtain⟨l,m⟩:=V0 i hd j;exact q _ _ l m
 | none=>
  rw[Ze e]at ok q;have d:jV b R z=[.str "endless",.int (setN (QW b (qz R) z):Nat)]:=by unfold jV;rw[e]
  rw[d]at a;refine⟨_,rfl,t,_,0,_,rfl,rfl,.of a,rfl,rfl,_,rfl,qI (by decide+kernel) ⟨_,rfl,t,_,1,_,rfl,rfl,.of a,rfl,λx g i hd j=>⟨x,g,_,rfl,by omega,?_,qc,rfl,?_⟩⟩⟩
  ·have:setN (QW b (qz R) z) < 65536:=ok;omega
  ·obtain⟨l,m⟩:=V1 i hd j;exact q _ _ l m
def E4:qk ["labels","heap"] ["labels","heap"] (qg MA):=jM
def C9(F:jq K "worth_by" "worth_by" MA f g)(h:WF K mg)(B:QL mg)(T:Wk K mg)(d:qM K mg "label_worth" Fp ["label"] l m)(j:qM K mg "sum_of" XD ["worths"] o p):qp P w K mg base q5 8 f g ["labels","heap"] (EO h.CN h.CE):=by
 refine F.okK E4 λH Q E hr z=>?_;obtain⟨D,m,g,R,C,rfl,x,l,ok,q⟩:=z;have hu:=hu_of hr;refine⟨_,qe (qo (qE j (pin P w mg base (G8 j.fn h B T)) (jc (jP (N':=["place","labels"]) (ix:=[none,some 0]) (qB (jv 1)) (λ_ _ _ fp _=>
   ⟨qF 0,j2,qE d (pin P w mg base (FE d.fn h B T)) (jc (qO (jv 1) (jv 0)))⟩))))),?_⟩
 refine⟨_,rfl,m,rfl,⟨_,.of l.at_⟩,λW J=>j7 (λj m G=>∃(v0:Option V) (as:List Addr),m=[v0,some (.ref D)]/\Same H G/\G W=some (.lst (as.map V.ref))/\Wl h.CN h.CE G as ((C.take j).map (wT g R)))
  ⟨none,[],rfl,qi J,qc,rfl,λi a u e=>(nomatch e)⟩ (λj m G _ ⟨_,_,_,s,_⟩=>.of (s _ _ l.at_)) ?_ ?_⟩
 ·rintro j y m G L ⟨v0,as,rfl,o,p,d⟩;obtain⟨z,U,r,rfl⟩:=jU L;obtain⟨_,Y,_,hv⟩:=(x.mono o).at_;obtain⟨L,aa,er⟩:=l.in_ z r;obtain⟨t,x,O⟩:=hv L aa;rw[er]at x O;refine⟨_,rfl,_,rfl,D,_,rfl,by rw[<-x];exact jZ.k (k:=(Sum.inr z:qZ)) Y,t,g,R,z,rfl,O,ok z r,λa O x Y=>?_⟩;have l8:=l.le;have l:=d.1;rw[tc,tL]at l;have l:=J;refine⟨_,x _ _ p,by rw[tc];exact ql (by omega),_,as++[a],rfl,Same.upd (o.trans x) J,tA▸qc,?_⟩;have up:∀{b:Addr} {u:Rb.W},zo h.CN h.CE O b u->zo h.CN h.CE (upd O W (.lst (as.map V.ref++[V.ref a]))) b u:=λ{b u} J=>by
   have O:=x _ _ p;cases u with
   | num n=>obtain⟨l,e⟩:=J;exact⟨l,by rwa [qf (λq=>by rw[q,O]at e;cases e)]⟩
   | edl n=>obtain⟨l,e⟩:=J;exact⟨l,by rwa [qf (λq=>by rw[q,O]at e;cases e)]⟩
  rw[tN,U,tA];refine⟨by rw[tx,tx,d.1];rfl,λi b u J l=>?_⟩;rcases Q9 J with ⟨O,J⟩ | ⟨O,rfl⟩
  ·rcases Q9 (show (zef (wT g R) (C.take j)++[wT g R z])[i]?=some u from l) with ⟨_,l⟩ | ⟨O,_⟩
   ·exact up ((d.2 i b u J l).same x)
   ·have:=d.1;omega
  ·rcases Q9 (show (zef (wT g R) (C.take j)++[wT g R z])[i]?=some u from l) with ⟨O,_⟩ | ⟨_,rfl⟩
   ·have:=d.1;omega
   ·exact up Y
 ·rintro m G ⟨v0,as,rfl,o,p,d⟩;rw[tc,tv (tp _)]at d;refine⟨W,as,_,rfl,.of p,d,λu hu=>?_,λd L g j=>q L d (o.trans g) j⟩;obtain⟨z,r,rfl⟩:=tz.mp hu;exact ok z r
structure NF(K:zel)(mg:Str->Option Value):Prop where
 place:∃f fd,qM K mg "need_place" ZJ BQ f fd
 heap:∃f fd,qM K mg "need_heap" QD ["ground","heap"] f fd
 lw:∃f fd,qM K mg "label_worth" Fp ["label"] f fd
 sum:∃f fd,qM K mg "sum_of" XD ["worths"] f fd
 wby:∃f fd,qM K mg "worth_by" MA ["labels","heap"] f fd
 most:∃t,mg "MOST_TOKENS"=some (.int 8 t)
open PySem L2 MLab Rb
open PyProof.Rows hiding K lo
abbrev Q2:Stmt:=top 36
abbrev YQ:Stmt:=top 37
abbrev wn:Stmt:=top 59
abbrev zO:Stmt:=top 60
abbrev VH:Stmt:=top 87
def Es(rs:ju)(j:Nat)(z:Str):List (Nat×Str):=(QM rs z).map λe=>(j,e)
def Qm(rs:ju)(hs:List Str)(n:Nat):List (Nat×Str):=(t9 n).flatMap λa=>Es rs a (jS hs a)
def zZ(rs:ju)(hs:List Str)(n:Nat):Qm rs hs (n+1)=Qm rs hs n++Es rs n (jS hs n):=by
 unfold Qm;rw[zbQ,List.flatMap_append];simp
def Yz(m:Nat×Str):List V:=[.int (m.1:Int),.str m.2]
def jG(H:Hp)(ps:List Addr)(ms:List (Nat×Str)):Prop:=ps.length=ms.length/\∀(i:Nat) (a:Addr) (m:Nat×Str),ps[i]?=some a->ms[i]?=some m->H a=some (.tup (Yz m))
def jG.mono(h:jG H ps ms)(s:Same H H'):jG H' ps ms:=⟨h.1,λi a m b d=>s _ _ (h.2 i a m b d)⟩
def jG.nil(H:Hp):jG H [] []:=⟨rfl,λi _ m e=>by simp at e⟩
def jG.app(h:jG H ps ms)(k:jG H a ns):jG H (ps++a) (ms++ns):=by
 refine⟨by rw[tx,tx,h.1,k.1],λi e m a b=>?_⟩;by_cases d:i < ps.length
 ·rw[t7 d]at a;rw[t7 (h.1▸d)]at b;exact h.2 i e m a b
 ·have f:=zdq d;rw[tY f]at a;rw[tY (h.1▸f),<-h.1]at b;exact k.2 _ e m a b
def jG.one{H:Hp}(h:H p=some (.tup (Yz m))):jG H [p] [m]:=by
 refine⟨rfl,λi _ _ a b=>?_⟩;cases i with
 | zero=>cases a;cases b;exact h
 | succ i=>simp at a
def Jd{hs:List Str}(g:qu rs)(le:rs.length<=14)(a:∀z∈hs,∃r∈rs,r.1=z):∀n,n<=hs.length->(Qm rs hs n).length<=n*14
 | 0,_=>tp _
 | n+1,h=>by
  rw[zZ,tx];have b:=Jd g le a n (zab h);obtain⟨r,hr,e⟩:=a _ (Q8 h);have a:=Xq (rs:=rs) (jS hs n);unfold Es;rw[tc];omega
def Vi(g:qu rs)(h:∃r∈rs,r.1=z):jm z=true:=by
 obtain⟨r,hr,rfl⟩:=h;exact g.nm r hr
inductive UY(CG:Addr)(vs:List V)(H:Hp)(Q:VK):Prop
 | mk (g h:Addr) (rs:ju) (hs:List Str):vs=[.ref g,.ref h]->Qk CG H g rs->qu rs->(rs.length<=14)->js H h rs hs->(∀H' l ps,Same H H'->H l=none->H' l=some (.lst (ps.map V.ref))->jG H' ps (Qm rs hs hs.length)->Q (.ref l) H')->UY CG vs H Q
def yG(a:Addr):Sp:=λb H Q _=>UY a b H Q
def mD(m:Nat×Str):PyData:=.tuple [.int (m.1:Int),.str m.2]
def jG.tail(h:jG H (p::ps) (m::ms)):jG H ps ms:=⟨zdc.inj h.1,λi a b d e=>h.2 (i+1) a b (by simpa using d) (by simpa using e)⟩
def B9{H:Hp}(h:H p=some (.tup (Yz m))):DV K H (.ref p) (mD m):=.tup (.of h) (.cons (.int _) (.cons (.str _) .nil))
def NG:∀{ps:List Addr} {ms:List (Nat×Str)},jG H ps ms->DVs K H (ps.map V.ref) (ms.map mD)
 | [],[],_=>.nil
 | [],_::_,h=>by cases h.1
 | _::_,[],h=>by cases h.1
 | a::ps,m::ms,h=>.cons (B9 (h.2 0 a m rfl rfl)) (NG h.tail)
def kW:∀{ms:List (Nat×Str)},(∀m∈ms,jm m.2=true)->PyData.canLayAll0 (ms.map mD)=true
 | [],_=>rfl
 | m::ms,h=>by
  rw[tV,PyData.canLayAll0,kW λy a=>h y (tU _ a),Bool.and_true];show (true&&(PyData.strOk m.2&&true))=true;rw[zY (h m tX)];rfl
def Qr(h:m∈Qm rs hs n):m.1 < n/\m.2∈QM rs (jS hs m.1):=by
 unfold Qm at h;obtain⟨_,a,b⟩:=zcM.mp h;obtain⟨e,d,rfl⟩:=tz.mp b;exact⟨zaC.mp a,d⟩
def z0{hs:List Str}(g:qu rs)(b:∀z∈hs,∃r∈rs,r.1=z):∀m∈Qm rs hs hs.length,jm m.2=true:=λm d=>by
 obtain⟨f,a⟩:=Qr d;obtain⟨r,hr,e⟩:=b _ (Q8 f);rw[<-e,Jf g.nd hr]at a;exact Vi g (vj a)
inductive yH(vs:List V)(H:Hp)(Q:VK):Prop
 | mk (h p:Addr) (hs:List Str) (m:Nat×Str):vs=[.ref h,.ref p]->H h=some (.lst (hs.map V.str))->H p=some (.tup (Yz m))->(m.1 < hs.length)->(∀l,H l=none->Q (.ref l) (upd H l (.lst ((hs.set m.1 m.2).map V.str))))->yH vs H Q
def Cf:Sp:=λa H Q _=>yH a H Q
def atI_get{xs:List V}{r:Int}(a:0<=r)(b:r < (xs.length:Int)):∃v,Vw xs r=some v/\xs[r.toNat]?=some v:=by
 have:r.toNat < xs.length:=by omega
 refine⟨xs[r.toNat],?_,tj this⟩;unfold Vw NH;rw[if_pos a,if_pos b];exact tj this
inductive U1(vs:List V)(H:Hp)(Q:VK):Prop
 | mk (d l:Addr) (mo:Nat) (n s t:Int) (ps:List Addr) (rs:ju):(vs=[.ref d,.ref l,.int (mo:Int)])->H d=some (.dK (src n s t))->jJ H l ps rs->(mo<=8)->(∀(D:Addr) (hs:List Str) (n' t':Int) (H':Hp),H D=none->H' D=some (.lst (hs.map V.str))->hs.length<=mo->(∀z∈hs,∃r∈rs,r.1=z)->H' d=some (.dK (src n' s t'))->Fr H d H'->Q (.ref D) H')->U1 vs H Q
def N9:Sp:=λa H Q _=>U1 a H Q
def jJ.fr'(h:jJ H l ps rs)(hd:H d=some (.dK kv))(s:Fr H d H'):jJ H' l ps rs:=by
 refine⟨s _ _ h.at_ (λe=>?_),⟨h.rows.1,λi f g j m=>?_⟩,h.good,h.pos,h.le⟩
 ·have:=h.at_;rw[e,hd]at this;cases this
 ·obtain⟨q,a,b⟩:=h.rows.2 i f g j m;exact⟨q,s _ _ a (nq hd a),s _ _ b (nq hd b)⟩
abbrev nMo:List Str:=["ground","heap","moves","token","place"]
def Id:qk nMo ["ground","heap"] (qg Q2):=jM
def XZ(F:jq K "moves_of" "moves_of" Q2 f d)(B:QL mg)(G:QB mg)(T:Qv K mg)(M:GM K mg g)(L:qM K mg "need_place" ZJ BQ l o)(mt:∃t,mg "MOST_TOKENS"=some (.int 8 t))(j:qM K mg "need_heap" QD ["ground","heap"] p r):qp P w K mg base q5 4 f d ["ground","heap"] (yG g):=by
 obtain⟨_,_,d⟩:=M.cls;obtain⟨fR,_,l⟩:=M.fr;obtain⟨_,_,O⟩:=M.isn;refine F.okK Id @λ_ A _ s _ _ H Q E hr h=>?_;obtain⟨o,p,g,r,rfl,C,gd,le,J,q⟩:=h;refine⟨_,qd (q4 (qE j (pin P w mg base (vt j.fn B G T M L mt)) (qV (jv 0) (jv 1))))
  (qd (qy 2 (qW jB))
  (qd (qX (z7 (by rfl) T.enu (jc (jv 1))) (JV rfl (jh (qF 3) (jh (qF 4) QX)))
   (qe (q4 (ZT zat zcm zcn YA (jv 2) (jr
    (jP (N':=["end","token"]) (ix:=[none,some 3]) (qB (Vg l d.cl (pin P w mg base (ZN l.fn d B G T O)) (hr.mono (by decide)) (jv 0) (jc (jv 4)))) (λd l U fp _=>
     ⟨qF 0,j2,qC (qV (jv 1) (jv 0))⟩)) jB)))))
  (qe (qo (jv 2))))),?_⟩
 refine⟨_,rfl,_,rfl,o,p,g,r,rfl,C,J,λj O=>⟨sz,λd L=>?_⟩⟩;have ah:H d=none:=by
  cases z:H d with
  | none=>rfl
  | some u=>rw[O _ _ z]at L;cases L
 have l:Same H (upd j d (.lst [])):=O.trans (qi L);have L:upd j d (.lst []) d=some (.lst []):=qc;generalize upd j d (.lst [])=U at l L;refine⟨_,rfl,p,rfl,⟨_,.of (l _ _ J.at_)⟩,Yb (λi U G=>∃v3 v4 j,U=[some (.ref o),some (.ref p),some (.ref d),v3,v4]/\Same H G/\G d=some (.lst (j.map V.ref))/\jG G j (Qm g r i))
  ⟨_,_,[],rfl,l,L,jG.nil _⟩ (λi U G _ ⟨_,_,_,_,s,_⟩=>.of (s _ _ J.at_)) ?_ ?_⟩
 ·rintro i y U G p hy L ⟨v3,v4,j,rfl,sG,ac,mv⟩;obtain⟨z,l,O,rfl⟩:=jU hy;have hi:=(td.mp l).1;have ak:jS r i=z:=by
   have:=Z1 hi;rw[l]at this;exact(tF.inj this).symm
  refine⟨p,_,rfl,.of qc,rfl,_,_,rfl,_,_,rfl,rfl,?_⟩;have l:Same G (upd G p (.tup [.int (i:Nat),.str z])):=qi L;have Y:=sG.trans l;have ae:=l _ _ ac;have ai:=mv.mono l;generalize upd G p (.tup [.int (i:Nat),.str z])=p at l Y ae ai;obtain⟨l,af,er⟩:=J.in_ z O;obtain⟨r,fs,L,_,O⟩:=(C.mono Y).ins;refine⟨_,rfl,.inl ⟨rfl,_,.of ae⟩,_,rfl,o,r,fs,rfl,L,O,_,rfl,o,g,l,by rw[er];rfl,C.mono Y,af,gd.nm l af,λo e r C=>?_⟩;have sE:Same p (upd o e (.lst ((j5 g l).map V.str))):=r.trans (qi C);have p:upd o e (.lst ((j5 g l).map V.str)) e=some (.lst ((j5 g l).map V.str)):=qc;generalize upd o e (.lst ((j5 g l).map V.str))=C at sE p;refine⟨e,rfl,⟨_,.of p⟩,λD hD=>j7 (λaa ab o=>∃v0 r,ab=[v0,some (.int (i:Nat))]/\Same C o/\o D=some (.lst (r.map V.ref))/\jG o r (((j5 g l).take aa).map λy=>(i,y)))
   ⟨none,[],rfl,qi hD,qc,jG.nil _⟩ (λaa ab o _ ⟨_,_,_,s,_⟩=>.of (s _ _ p)) ?_ ?_⟩
  ·rintro aa y ab o hy ⟨v0,r,rfl,L,O,C⟩;obtain⟨x,ex,_,rfl⟩:=jU hy;have p:=(td.mp ex).1;refine⟨_,rfl,_,rfl,sz,λt ht=>⟨_,qt O ht,?_,_,r++[t],rfl,?_,?_,?_⟩⟩
   ·rw[tc,C.1,tc,tL];have:=Yu (rs:=g) l;exact ql (by omega)
   ·exact Same.upd (L.trans (qi ht)) hD
   ·rw[qc,tA];rfl
   ·have nt:t≠D:=nq O ht;have e1:jG (upd (upd o t (.tup [.int (i:Nat),.str x])) D (.lst (r.map V.ref++[.ref t]))) r (((j5 g l).take aa).map λy=>(i,y)):=⟨C.1,λk p m a b=>by
     have z:=C.2 k p m a b;rw[qf (λe=>by rw[e,O]at z;cases z)];exact qt z ht⟩
    rw[tN,ex,tA];exact e1.app (jG.one ((qf nt)▸qc))
  ·rintro ab o ⟨v0,r,rfl,L,O,C⟩;rw[tc,tv (tp _)]at C;have aj:=L _ _ (sE _ _ ae);have ag:=(ai.mono sE).mono L;have ml:=Jd gd le J.in_ i (zab hi);have l8:=J.le;have J:=Yu (rs:=g) l;refine⟨d,D,_,_,rfl,rfl,aj,O,?_,?_⟩
   ·rw[tc,tc,ag.1,C.1,tc];exact zab (ql (by omega))
   ·refine⟨_,_,j++r,rfl,Same.upd ((Y.trans sE).trans L) ah,by rw[qc,tA],?_⟩;rw[zZ,ak,Es,<-er,Jf gd.nd af];have ne:∀{p:Addr} {m:Nat×Str},o p=some (.tup (Yz m))->p≠d:=λh e=>by rw[e,aj]at h;cases h
    have up:∀{j:List Addr} {ms:List (Nat×Str)},jG o j ms->jG (upd o d (.lst (zef V.ref j++zef V.ref r))) j ms:=λh=>⟨h.1,λk p m a b=>by
     have z:=h.2 k p m a b;rwa [qf (ne z)]⟩
    refine jG.app ?_ ?_
    ·exact⟨ag.1,λk p m a b=>by
      have z:=ag.2 k p m a b;rwa [qf (ne z)]⟩
    ·exact⟨C.1,λk p m a b=>by
      have z:=C.2 k p m a b;rwa [qf (ne z)]⟩
 ·rintro U G ⟨v3,v4,j,rfl,sG,ac,mv⟩;rw[tc]at mv;exact⟨_,rfl,q G d j sG ah ac mv⟩
abbrev nLy:List Str:=["heap","move","left"]
def Ie:qk nLy ["heap","move"] (qg YQ):=jM
def VX(F:jq K "left_by" "left_by" YQ f a)(G:QB mg):qp P w K mg base q5 1 f a ["heap","move"] Cf:=by
 refine F.okK Ie λH Q E hr h=>?_;obtain⟨a,b,d,m,rfl,i,g,_,q⟩:=h;refine⟨_,qd (qy 2 (jF Qj (by rfl) G.lst boot_list (jc (jv 0))))
  (qd (RN (qD qJ (jv 1) qh) (DR (jv 2) (qD qJ (jv 1) qh) KS))
  (qe (qo (jv 2)))),?_⟩
 refine⟨_,rfl,a,_,rfl,.inl (.of i),λi a=>⟨_,rfl,b,_,1,_,rfl,rfl,.of (qt g a),rfl,_,rfl,_,rfl,b,_,0,_,rfl,rfl,.of (qt g a),rfl,i,_,(m.1:Int),m.1,rfl,rfl,qc,?_,_,rfl,?_⟩⟩
 ·unfold NH;rw[if_pos (by omega),if_pos (by rw[tc];omega)];rfl
 ·have e:(d.map V.str).set m.1 (.str m.2)=(d.set m.1 m.2).map V.str:=by rw[List.map_set]
  rw[jT,e];exact q i a
abbrev Hu:List Str:=["_law_source_here","_law_rows_here","_law_most"]
def Il:qk Hu Hu (qg VH):=jM
def Rk(F:jq K "_law_heap" "_law_heap" VH f b)(B:QL mg)(a:qM K mg "_law_take" zN ["_law_source_here","_law_many"] g j):qp P w K mg base q5 2 f b Hu N9:=by
 have GT:=pin P w mg base (Z8 a.fn);refine F.okK Il λH Q E hr h=>?_;obtain⟨d,p,j,n,C,t,Y,J,rfl,hd,r,_,q⟩:=h;refine⟨_,qe (qo (jP (N':=["_law_k","_law_rows_here","_law_source_here"]) (ix:=[none,some 1,some 0])
  (te:=J0 (JQ K) (J0 (CU K) (jg 1) (Xz Kf [] E0 (jd (jg 2) (jd (EI (λl H Q=>∃g b,l=[.ref g]/\(SqL K H g b\/SqT K H g b)/\Q (.int b.length) H) (jd (jg 1) Q1)) Q1)))) (tC (.int 0)))
  (jW (by rfl) B.rng (jc (qE a GT (qV (jv 0) (qN QR (jv 2) qh)))))
  (λ_ _ _ fp _=>⟨qF 0,j2,
   qD qJ (qD jj (jv 1) (qE a GT (qV (jv 2) (qx qL (by rfl) B.len boot_len (jc (jv 1)))))) qh⟩))),?_⟩
 refine⟨_,rfl,_,rfl,_,_,rfl,rfl,d,(j:Int)+1,n,C,t,rfl,hd,by omega,by omega,λj n1 y r0 r1=>⟨j,rfl,by omega,by omega,λD o=>?_⟩⟩;have u:D≠d:=nq qc o;have aa:H D=none:=by rwa [qf u]at o
 refine Zb (λi L b=>∃(v:Option V) (l m:Int) (a:List Str),L=[v,some (.ref p),some (.ref d)]/\b d=some (.dK (src l C m))/\b D=some (.lst (a.map V.str))/\a.length=i/\(∀z∈a,∃j∈J,j.1=z)/\Fr H d b)
  ⟨none,n1,y,[],rfl,?_,qc,rfl,λ_ h=>(nomatch h),(Fr.refl.at_d).new o⟩ ?_ ?_
 ·rw[qf (Ne.symm u)];exact qc
 ·rintro i L b _ ⟨v,l,m,a,rfl,o,O,T,U,fr⟩;have y:=r.fr' hd fr;have pl:(Y.map V.ref).length=J.length:=by rw[tc,r.rows.1]
  have ae:=r.pos;refine⟨_,rfl,_,rfl,_,rfl,p,_,rfl,.inl (.of y.at_),d,((Y.map V.ref).length:Nat),l,C,m,rfl,o,by rw[pl];omega,?_,λj Y t3 r0 r1=>?_⟩
  ·rw[pl];have:J.length < 2^200:=zaI r.le (by decide);omega
  obtain⟨x,J,gx⟩:=atI_get r0 r1;obtain⟨g,_,C,rfl,_,ab,r,_⟩:=y.rows.item gx;have ac:p≠d:=λe=>by
   have:=y.at_;rw[e,o]at this;cases this
  refine⟨p,_,j,_,rfl,rfl,.of ((qf ac)▸y.at_),J,g,_,0,_,rfl,rfl,.of (by rw[qf (λe=>by rw[e,o]at r;cases r)];exact r),rfl,_,by rw[qf u];exact O,?_,_,Y,t3,a++[C.1],rfl,?_,?_,?_,?_,?_⟩
  ·rw[tc,T];exact ql (by omega)
  ·rw[qf (Ne.symm u)];exact qc
  ·rw[qc,tA];rfl
  ·rw[tx,T];rfl
  ·intro z g;rcases tQ.mp g with h | h
   ·exact U z h
   ·obtain rfl:=tM.mp h;exact⟨C,ab,rfl⟩
  ·exact(fr.at_d).own aa
 ·rintro L b ⟨v,l,m,a,rfl,o,O,T,U,fr⟩;exact q D a l m b aa O (by omega) U o fr
def lf(hs:List Str)(m:Nat×Str):List Str:=hs.set m.1 m.2
def YN(H:Hp)(ts:List Addr)(os:List ((Nat×Str)×Str)):Prop:=ts.length=os.length/\∀(i:Nat) (t:Addr) (a:(Nat×Str)×Str),ts[i]?=some t->os[i]?=some a->∃b,H t=some (.tup [.ref b,.str a.2])/\H b=some (.tup (Yz a.1))
def YN.tk{H H':Hp}{ts:List Addr}{os:List ((Nat×Str)×Str)}(h:YN H ts os)(k:TK H H'):YN H' ts os:=⟨h.1,λi t d e f=>let ⟨g,a,b⟩:=h.2 i t d e f;⟨g,k _ _ a,k _ _ b⟩⟩
def YN.nil:YN H [] []:=⟨rfl,λi t _ e=>(nomatch e)⟩
def YN.snoc{H:Hp}{ts:List Addr}{os:List ((Nat×Str)×Str)}{t p:Addr}{o:(Nat×Str)×Str}(h:YN H ts os)(d:H t=some (.tup [.ref p,.str o.2]))(hp:H p=some (.tup (Yz o.1))):YN H (ts++[t]) (os++[o]):=by
 refine⟨by rw[tx,tx,h.1];rfl,λi e f b a=>?_⟩;rcases Q9 b with ⟨g,b⟩ | ⟨g,rfl⟩
 ·rcases Q9 a with ⟨_,a⟩ | ⟨g,_⟩
  ·exact h.2 i e f b a
  ·have:=h.1;omega
 ·rcases Q9 a with ⟨g,_⟩ | ⟨_,rfl⟩
  ·have:=h.1;omega
  ·exact⟨p,d,hp⟩
def J7(g:qu rs){hs:List Str}(a:∀z∈hs,∃r∈rs,r.1=z)(d:m∈Qm rs hs hs.length):∀z∈lf hs m,∃r∈rs,r.1=z:=λz b=>by
 obtain⟨f,i⟩:=Qr d;obtain⟨r,hr,e⟩:=a _ (Q8 f);unfold lf at b;rcases List.mem_or_eq_of_mem_set b with h | h
 ·exact a z h
 ·rw[h];exact tz.mp (Qg g.nd _ (tz.mpr ⟨r,hr,e⟩) _ i)
def Yv(rs:ju)(R:Rs Str)(hs:List Str):List ((Nat×Str)×Str):=(Qm rs hs hs.length).map λm=>(m,zW (QP ((lf hs m).map (wT rs R))))
inductive Kr(vs:List V)(H:Hp)(Q:VK):Prop
 | mk (D h:Addr) (rs:ju) (R:Rs Str) (hs:List Str):vs=[.ref D,.ref h]->ja H D rs R->js H h rs hs->((∀z∈hs,Yw (wT rs R z)))->(∀H',Same H H'->Q (.str (zW (QP (hs.map (wT rs R))))) H')->Kr vs H Q
def Ks:Sp:=λa H Q _=>Kr a H Q
inductive yC(CG:Addr)(vs:List V)(H:Hp)(Q:VK):Prop
 | mk (g D h:Addr) (rs:ju) (R:Rs Str) (hs:List Str):vs=[.ref g,.ref D,.ref h]->Qk CG H g rs->qu rs->(rs.length<=14)->ja H D rs R->(WB (QM rs) (·∈rs.map (·.1)) (qz R) (Ja R))->js H h rs hs->(∀H' L ts,Same H H'->H L=none->H' L=some (.lst (ts.map V.ref))->YN H' ts (Yv rs R hs)->Q (.ref L) H')->yC CG vs H Q
def Kp(a:Addr):Sp:=λb H Q _=>yC a b H Q
structure A1(K:zel)(mg:Str->Option Value):Prop where
 mo:∃f fd,qM K mg "moves_of" Q2 ["ground","heap"] f fd
 lb:∃f fd,qM K mg "left_by" YQ ["heap","move"] f fd
 oby:∃f fd,qM K mg "outcome_by" wn ["labels","heap"] f fd
 osby:∃f fd,qM K mg "outcomes_by" zO ["ground","labels","heap"] f fd
def Fa:qk ["labels","heap"] ["labels","heap"] (qg wn):=jM
def Rc(F:jq K "outcome_by" "outcome_by" wn f b)(h:WF K mg)(B:QL mg)(Z:Wk K mg)(O:NF K mg):qp P w K mg base q5 9 f b ["labels","heap"] Ks:=by
 obtain⟨_,_,d⟩:=O.lw;obtain⟨_,_,e⟩:=O.sum;obtain⟨_,_,b⟩:=O.wby;refine F.okK Fa λH Q E hr z=>?_;obtain⟨D,g,i,R,j,rfl,l,m,ok,q⟩:=z;refine⟨_,qe (qo (At h B (hr.mono (by decide)) (qE b (pin P w mg base (C9 b.fn h B Z d e)) (qV (jv 0) (jv 1))))),⟨_,rfl,_,rfl,D,g,i,R,j,rfl,l,m,ok,λa _ b d=>⟨a,_,rfl,d,uU λu hu=>?_,λd e=>q d (b.trans e)⟩⟩⟩;obtain⟨z,b,rfl⟩:=tz.mp hu;exact ok z b
def Cw:qk ["ground","labels","heap"] ["ground","labels","heap"] (qg zO):=jM
def xm(F:jq K "outcomes_by" "outcomes_by" zO f b)(h:WF K mg)(B:QL mg)(Z:Wk K mg)(G:QB mg)(T:Qv K mg)(M:GM K mg d)(O:NF K mg)(a:A1 K mg):qp P w K mg base q5 10 f b ["ground","labels","heap"] (Kp d):=by
 obtain⟨_,_,l⟩:=O.place;obtain⟨_,_,o⟩:=O.heap;obtain⟨_,_,b⟩:=a.mo;obtain⟨_,_,g⟩:=a.lb;obtain⟨_,_,i⟩:=a.oby;refine F.okK Cw λH Q E hr z=>?_;obtain⟨p,D,u,d,R,a,rfl,r,good,le,lb,L,j,q⟩:=z;refine⟨_,qe (qo (jP (N':=["move","labels","heap"]) (ix:=[none,some 1,some 2])
   (qB (qE b (pin P w mg base (XZ b.fn B G T M l O.most o)) (qV (jv 0) (jv 2)))) (λ_ _ _ fp _=>
   ⟨qF 0,j2,
    qC (qV (jv 0) (qE i (pin P w mg base (Rc i.fn h B Z O)) (qV (jv 1) (qE g (pin P w mg base (VX g.fn G)) (qV (jv 2) (jv 0))))))⟩))),?_⟩
 refine⟨_,rfl,_,rfl,p,u,d,a,rfl,r,good,le,j,λo b ps x _ l mv=>⟨b,rfl,⟨_,.of l⟩,λW C=>?_⟩⟩;have l8:=j.le;have b:(Qm d a a.length).length<=112:=by
  have:=Jd good le j.in_ a.length (tp _);omega
 have ab:=mv.1;refine j7 (λg p b=>∃(v0:Option V) (i:List Addr),p=[v0,some (.ref D),some (.ref u)]/\Same o b/\b W=some (.lst (i.map V.ref))/\YN b i ((Yv d R a).take g))
  ⟨none,[],rfl,qi C,qc,.nil⟩ (λg p b _ ⟨_,_,_,s,_⟩=>.of (s _ _ l)) ?_ ?_
 ·rintro g y p b l ⟨v0,i,rfl,o,J,os⟩;rw[tu]at l;cases r:ps[g]? with
  | none=>rw[r]at l;cases l
  | some U=>
   rw[r]at l;obtain rfl:=(tF.inj l).symm;have l:=(td.mp r).1;have l:g < (Qm d a a.length).length:=by omega
   have em:=tj l;have Y:=zbo l;generalize (Qm d a a.length)[g]=m at em Y;have hp:=o _ _ (mv.2 g U m r em);have sA:=x.trans o;refine⟨_,rfl,_,rfl,_,rfl,_,rfl,u,U,a,m,rfl,sA _ _ j.at_,hp,(Qr Y).1,λl u=>?_⟩;have r:Same b (upd b l (.lst ((a.set m.1 m.2).map V.str))):=qi u;have u:upd b l (.lst ((a.set m.1 m.2).map V.str)) l=some (.lst ((lf a m).map V.str)):=qc;generalize upd b l (.lst ((a.set m.1 m.2).map V.str))=G2 at r u;have aa:=J7 good j.in_ Y;refine⟨D,l,d,R,lf a m,rfl,(lb.mono sA).mono r,⟨u,by unfold lf;rw[zbb];exact l8,aa⟩,λz j=>?_,λu Y=>?_⟩
   ·obtain⟨l,ac,e⟩:=aa z j;exact A5 good L (tz.mpr ⟨l,ac,e⟩)
   ·refine⟨sz,λt j=>?_⟩;have l:=r.trans Y;have r:(Yv d R a)[g]?=some (m,zW (QP ((lf a m).map (wT d R)))):=by unfold Yv;rw[tu,em];rfl
    have g:=os.1;rw[tL]at g;have g:upd u t (.tup [V.ref U,.str (zW (QP ((lf a m).map (wT d R))))]) W=some (.lst (i.map V.ref)):=qt (l _ _ J) j;refine⟨_,g,by rw[tc];exact ql (by omega),_,i++[t],rfl,Same.upd (o.trans (l.trans (qi j))) C,tA▸qc,?_⟩;rw[tN,r];exact((os.tk (.of (l.trans (qi j)))).snoc qc (qt (l _ _ hp) j)).tk (TK.upd g λ_=>by simp)
 ·rintro p b ⟨v0,i,rfl,o,J,os⟩;have g:(ps.map V.ref).length=(Yv d R a).length:=by unfold Yv;rw[tc,tc,ab]
  rw[g,tv (tp _)]at os;exact q b W i (x.trans o) (jb x C) J os
open PySem L2 MLab
open PyProof.Rows hiding K lo
abbrev J2:Stmt:=top 88
abbrev Z6:Stmt:=top 89
abbrev zu:Stmt:=top 90
abbrev zS:Stmt:=top 91
abbrev Zg:Stmt:=top 93
structure B5(H:Hp)(d:Addr)(rs:ju):Prop where
 at_:∃(o:Obj) (kvs:List (qZ×V)),H d=some (.frz o (.dK kvs))/\kvs.map (·.1)=(rs.map (·.1)).map Sum.inr/\∀r∈rs,∃q,jw kvs (Sum.inr r.1:qZ)=some (.ref q)/\H q=some (.tup (r.2.map V.str))
def B5.mono(h:B5 H d rs)(s:Same H H'):B5 H' d rs:=⟨let ⟨e,f,a,b,c⟩:=h.at_;⟨e,f,s _ _ a,b,λe hr=>let ⟨q,u,v⟩:=c e hr;⟨q,u,s _ _ v⟩⟩⟩
def B5.get(h:B5 H d rs)(g:qu rs)(f:z∈rs.map (·.1)):∃q,jZ H d (.str z) (some (.ref q))/\H q=some (.tup ((Qo rs z).map V.str)):=by
 obtain⟨i,j,a,b,c⟩:=h.at_;obtain⟨e,hr,rfl⟩:=tz.mp f;obtain⟨q,u,v⟩:=c e hr;refine⟨q,?_,(z5 g.nd hr)▸v⟩;rw[<-u];exact .inl ⟨j,Sum.inr e.1,.inr ⟨i,a⟩,rfl,rfl⟩
def Xj(g:qu rs)(a:z∈rs.map (·.1))(b:y∈Qo rs z):y∈rs.map (·.1):=Qg g.nd _ a _ ((qR g a).mp b)
def RJ(g:qu rs)(a:z∈rs.map (·.1)):(Qo rs z).length<=40:=by
 obtain⟨_,hr,rfl⟩:=tz.mp a;rw[z5 g.nd hr];exact g.two hr
def kn(rs:ju)(f:Str->Option Nat)(z:Str):List Nat:=(Qo rs z).filterMap f
def kJ:n∈kn rs f z↔∃y∈Qo rs z,f y=some n:=zaH
def z9:Y6 (Qo rs) f z n↔(∀j,j < n->j∈kn rs f z)/\n∉kn rs f z/\∀y∈Qo rs z,f y=none->n∈kn rs f y:=by
 unfold Y6;simp only[kJ];constructor
 ·rintro⟨a,b,c⟩;exact⟨a,λ⟨y,d,e⟩=>b y d e,c⟩
 ·rintro⟨a,b,c⟩;exact⟨a,λy d e=>b ⟨y,d,e⟩,c⟩
structure Jg(N:List Str)(H:Hp)(d:Addr)(f:Str->Option (Nat×Nat)):Prop where
 at_:∃kvs:List (qZ×V),H d=some (.dK kvs)/\(∀z,f z=none->jw kvs (Sum.inr z:qZ)=none)/\(∀z n s,f z=some (n,s)->∃t,jw kvs (Sum.inr z:qZ)=some (.ref t)/\H t=some (.tup [.int (n:Nat),.int (s:Nat)]))/\(kvs.map (·.1)).Nodup/\∀k∈kvs.map (·.1),k∈N.map Sum.inr
def Jg.mono(h:Jg N H d f)(s:Same H H'):Jg N H' d f:=⟨let ⟨g,a,b,c,e⟩:=h.at_;⟨g,s _ _ a,b,λz n m q=>let ⟨t,u,v⟩:=c z n m q;⟨t,u,s _ _ v⟩,e⟩⟩
def Jg.isd(h:Jg N H d f):∃b:List (qZ×V),H d=some (.dK b):=let ⟨b,a,_⟩:=h.at_;⟨b,a⟩
def Jg.get(h:Jg N H d f)(z:Str):∃o:Option V,jZ H d (.str z) o/\o.isSome=(f z).isSome/\∀n s,f z=some (n,s)->∃t,o=some (.ref t)/\H t=some (.tup [.int (n:Nat),.int (s:Nat)]):=by
 obtain⟨_,a,b,c,_⟩:=h.at_;refine⟨_,jZ.k (k:=(Sum.inr z:qZ)) a,?_,λn s e=>c z n s e⟩;cases e:f z with
 | none=>rw[b z e];rfl
 | some g=>
  obtain⟨t,u,_⟩:=c z g.1 g.2 e;rw[u];rfl
def f1(f:Str->Option (Nat×Nat))(z:Str):Option Nat:=(f z).map (·.1)
inductive U2(vs:List V)(H:Hp)(Q:VK):Prop
 | mk (d e:Addr) (rs:ju) (f:Str->Option (Nat×Nat)) (z:Str) (n:Nat):(vs=[.ref d,.ref e,.str z,.int (n:Nat)])->B5 H d rs->qu rs->(z∈rs.map (·.1))->(Jg (rs.map (·.1)) H e f)->(Q (.bl (decide (n∈kn rs (f1 f) z))) H)->U2 vs H Q
def Ma:Sp:=λa H Q _=>U2 a H Q
inductive W1(vs:List V)(H:Hp)(Q:VK):Prop
 | mk (d e:Addr) (rs:ju) (f:Str->Option (Nat×Nat)) (z:Str) (n:Nat):(vs=[.ref d,.ref e,.str z,.int (n:Nat)])->B5 H d rs->qu rs->(z∈rs.map (·.1))->(Jg (rs.map (·.1)) H e f)->(n<=15)->(∀H' b,Same H H'->(b=true↔Y6 (Qo rs) (f1 f) z n)->Q (.bl b) H')->W1 vs H Q
def KF:Sp:=λa H Q _=>W1 a H Q
def kn1:n∈kn rs (f1 f) z↔∃y∈Qo rs z,∃s,f y=some (n,s):=by
 rw[kJ];constructor
 ·rintro⟨y,a,e⟩;obtain⟨b,d,g⟩:=zbz.mp e;exact⟨y,a,b.2,by rw[d,<-g]⟩
 ·rintro⟨y,a,s,e⟩;exact⟨y,a,by unfold f1;rw[e];rfl⟩
abbrev nLB:List Str:=["_law_roads","_law_found","_law_name","_law_number","_law_one"]
abbrev GJ:List Str:=["_law_roads","_law_found","_law_name","_law_number"]
def Io:qk nLB GJ (qg zu):=jM
def Rm(F:jq K "_law_back" "_law_back" zu f l):qp P w K mg base q5 1 f l GJ Ma:=by
 refine F.okK Io λH Q E hr h=>?_;obtain⟨d,e,m,a,z,n,rfl,ld,good,r,l,q⟩:=h;refine⟨_,qd (qX (YG (qO (jv 0) (jv 2))) (qF 4)
   (qe (qA (JW.pt (jN (QG (Zr (jv 4) (jv 1))) (jK (qj qT (qD qJ (qO (jv 1) (jv 4)) qh) (jv 3))))) (qe (qo Qz)) qr)))
  (qe (qo Qz)),?_⟩
 obtain⟨B,C,p⟩:=ld.get good r;refine⟨_,rfl,_,rfl,d,_,rfl,C,B,rfl,⟨_,.of p⟩,Xr (K:=K) (xs:=(Qo m z).map V.str) (λi b G=>∃v4,b=[some (.ref d),some (.ref e),some (.str z),some (.int (n:Nat)),v4]/\G=H/\∀y∈(Qo m z).take i,∀s,a y≠some (n,s))
  ⟨_,rfl,rfl,λy h=>(nomatch h)⟩ (λi b G _ ⟨_,_,e,_⟩=>e▸.of p) ?_ ?_⟩
 ·rintro i x b G D ⟨v4,rfl,rfl,g⟩;obtain⟨y,J,o,rfl⟩:=jU D;obtain⟨_,go,p,L⟩:=l.get y;have step:(∀s,a y≠some (n,s))->∃v4,[some (V.ref d),some (.ref e),some (.str z),some (.int (n:Nat)),some (.str y)]=[some (.ref d),some (.ref e),some (.str z),some (.int (n:Nat)),v4]/\G=G/\∀y∈(Qo m z).take (i+1),∀s,a y≠some (n,s):=λno=>by
   refine⟨_,rfl,rfl,λu l=>?_⟩;rw[tN,J]at l;rcases tQ.mp l with h | h
   ·exact g u h
   ·have:u=y:=by simpa using h
    rwa [this]
  refine⟨_,rfl,_,rfl,e,_,rfl,go,_,rfl,?_⟩;rw[p];cases j:a y with
  | none=>exact jo (jo (step λs h=>by rw[j]at h;cases h))
  | some a=>
   obtain⟨t,l,m⟩:=L a.1 a.2 j;rw[l]at go;refine jX ⟨_,rfl,_,rfl,e,_,rfl,go,t,_,0,_,rfl,rfl,.of m,rfl,_,rfl,rfl,_,rfl,?_⟩;by_cases c:a.1=n
   ·refine qK (decide_eq_true (by rw[c])) ?_;rwa [decide_eq_true (kn1.mpr ⟨y,o,a.2,by rw[j,<-c]⟩)]at q
   ·refine qI (decide_eq_false λh=>c (by have:=V.int.inj h;omega)) (step λs h=>?_);rw[j]at h;cases h;exact c rfl
 ·rintro b G ⟨v4,rfl,rfl,g⟩;rw[tc,tv (tp _)]at g;rwa [decide_eq_false (λh=>by obtain⟨y,o,s,e⟩:=kn1.mp h;exact g y o s e)]at q
abbrev nLC:List Str:=["_law_roads","_law_found","_law_name","_law_number","_law_beside","_law_one"]
def Im:qk nLC GJ (qg Z6):=jM
def wQ(F:jq K "_law_comes" "_law_comes" Z6 f r)(B:QL mg)(hB:qM K mg "_law_back" zu GJ fB ah):qp P w K mg base q5 2 f r GJ KF:=by
 refine F.okK Im λH Q E hr h=>?_;obtain⟨d,e,g,b,z,n,rfl,ld,good,L,r,_,q⟩:=h;refine⟨_,qd (YV 4 (jP (N':=["_law_one","_law_found"]) (ix:=[none,some 1]) (te:=J0 (JQ K) (Zy (jg 1) (jg 0)) (tC (.int 0))) (YG (qO (jv 0) (jv 2))) (λj s2 l fp m=>
    ⟨qF 0,jt (QG (Zr (jv 0) (jv 1))),qD qJ (qO (jv 1) (jv 0)) qh⟩)))
  (qd (qA (JW.pt (zi (qj J4 (jv 3) (jv 4) (by with_unfolding_all rfl)) (JU (qj (VS (zcG (hu_of hr))) (jP (N':=["_law_k","_law_beside"]) (ix:=[none,some 4]) (tt:=Zx (J0 (Er K true) (jg 0) (jg 1))) (jW (by rfl) B.rng (jc (jv 3))) (λj s2 l fp m=>
    ⟨qF 0,jt (qj Jc (jv 0) (jv 1) (by with_unfolding_all rfl)),jv 0⟩)) (qW jB))))) (qe (qo Qz)) qr)
  (qd (qX (YG (qO (jv 0) (jv 2))) (qF 5)
   (qe (qA (JW.pt (jN (QG (J9 (jv 5) (jv 1))) (jK (Jp (jA (qE hB (pin P w mg base (Rm hB.fn)) (BS (jv 0) (jv 1) (jv 5) (jv 3)))))))) (qe (qo Qz)) qr)))
  (qe (qo Qz)))),?_⟩
 obtain⟨q0,g0,ab⟩:=ld.get good L;refine⟨_,rfl,_,rfl,d,_,rfl,g0,q0,rfl,⟨_,.of ab⟩,λW hW=>AU (out:=λy=>(f1 b y).map λn=>V.int (n:Nat)) hW ab (ql (by have:=RJ good L;omega)) ?_ ?_ ?_⟩
 ·intro x D m C R p;obtain⟨ac,go,O,_⟩:=(r.mono C).get x;refine⟨_,rfl,_,rfl,e,_,rfl,go,_,rfl,?_⟩;have:=p m λ_ _ h=>h;rw[O];unfold f1 at this;rwa [zbi,zbi]at this
 ·intro x D v l m C R p;obtain⟨ac,go,O,ho⟩:=(r.mono C).get x;cases cx:b x with
  | none=>unfold f1 at l;rw[cx]at l;cases l
  | some T=>
   obtain⟨t,et,ht⟩:=ho T.1 T.2 cx;rw[et]at go;have:v=V.int (T.1:Nat):=by unfold f1 at l;rw[cx]at l;exact(tF.inj l).symm
   subst this;exact⟨_,rfl,_,rfl,e,_,rfl,go,t,_,0,_,rfl,rfl,.of ht,rfl,p m λ_ _ h=>h⟩
 ·intro G1 s1 aa;have eK:(Qo g z).filterMap (λy=>(f1 b y).map λn=>V.int (n:Nat))=Jw (kn g (f1 b) z):=by
   unfold Jw kn;rw[zdV]
  rw[eK]at aa;refine⟨_,rfl,_,rfl,W,_,rfl,.inl (.of aa),rfl,ZW _,_,rfl,?_⟩;by_cases c:n∈kn g (f1 b) z
  ·exact qK (show zb (.int (n:Nat)) (Jw (kn g (f1 b) z))=true by rw[YI];exact decide_eq_true c) (jX (q G1 false s1 ⟨λh=>(nomatch h),λh=>absurd c (z9.mp h).2.1⟩))
  refine qI (show zb (.int (n:Nat)) (Jw (kn g (f1 b) z))=false by rw[YI];exact decide_eq_false c) ?_;refine⟨_,rfl,(n:Int),rfl,by omega,by omega,λo J=>AV (n:=n) (out:=λj=>if j∈kn g (f1 b) z then none else some (V.int (j:Nat))) (rest:=[some (.ref W)]) J (ql (by omega)) ?_ ?_ ?_⟩
  ·refine λx D m C R p=>⟨_,rfl,_,rfl,W,_,rfl,.inl (.of (C _ _ aa)),rfl,ZW _,_,rfl,?_⟩;have:=p m λ_ _ h=>h;show R (!zb (.int (x:Nat)) (Jw (kn g (f1 b) z))) m;rw[YI];by_cases c:x∈kn g (f1 b) z
   ·rw[if_pos c]at this;rwa [decide_eq_true c]
   ·rw[if_neg c]at this;rwa [decide_eq_false c]
  ·intro x D v l m C R p;have:v=V.int (x:Nat):=by
    split at l
    ·cases l
    ·exact(tF.inj l).symm
   subst this;exact⟨_,rfl,p m λ_ _ h=>h⟩
  ·intro l s2 C;generalize af:(t9 n).filterMap (λj=>if j∈kn g (f1 b) z then none else some (V.int (j:Nat)))=ls at C;refine⟨sz,λm ag=>?_⟩;have p:Same l (upd l m (.lst [])):=qi ag;refine⟨o,m,_,rfl,rfl,.of (p _ _ C),.of qc,_,rfl,?_⟩;have o:=(s1.trans s2).trans p;generalize upd l m (.lst [])=G3 at p o;have ae:ls=[]↔∀j,j < n->j∈kn g (f1 b) z:=by
    rw[<-af,List.filterMap_eq_nil_iff];constructor
    ·intro h j hj;have:=h j (zaC.mpr hj);by_cases c:j∈kn g (f1 b) z
     ·exact c
     ·rw[if_neg c]at this;cases this
    ·intro h j hj;rw[if_pos (h j (zaC.mp hj))]
   cases ls with
   | cons a ls=>
    refine jX (q G3 false o ⟨λh=>(nomatch h),λh=>?_⟩);have:=ae.mpr (z9.mp h).1;cases this
   | nil=>
    refine jo ?_;obtain⟨j,g1,l⟩:=(ld.mono o).get good L;refine⟨_,rfl,_,rfl,d,_,rfl,g1,j,rfl,⟨_,.of l⟩,Xr (K:=K) (a:=j) (xs:=(Qo g z).map V.str) (λi U G=>∃J,U=[some (.ref d),some (.ref e),some (.str z),some (.int (n:Nat)),some (.ref W),J]/\G=G3/\∀y∈(Qo g z).take i,f1 b y=none->n∈kn g (f1 b) y)
     ⟨_,rfl,rfl,λy h=>(nomatch h)⟩ (λi U G _ ⟨_,_,e,_⟩=>e▸.of l) ?_ ?_⟩
    ·rintro i x U G D ⟨J,rfl,rfl,Y⟩;obtain⟨y,ey,hy,rfl⟩:=jU D;obtain⟨ac,go,O,_⟩:=(r.mono o).get y;have step:(f1 b y=none->n∈kn g (f1 b) y)->∃J,[some (V.ref d),some (.ref e),some (.str z),some (.int (n:Nat)),some (.ref W),some (.str y)]=[some (.ref d),some (.ref e),some (.str z),some (.int (n:Nat)),some (.ref W),J]/\G=G/\∀y∈(Qo g z).take (i+1),f1 b y=none->n∈kn g (f1 b) y:=λ_=>by
      refine⟨_,rfl,rfl,λu j=>?_⟩;rw[tN,ey]at j;rcases tQ.mp j with h | h
      ·exact Y u h
      ·have:u=y:=by simpa using h
       rwa [this]
     refine⟨_,rfl,_,rfl,e,_,rfl,go,_,rfl,?_⟩;rw[O];cases cy:b y with
     | some T=>exact jo (jo (step λh=>by unfold f1 at h;rw[cy]at h;cases h))
     | none=>
      refine jX ⟨_,rfl,_,rfl,_,rfl,_,rfl,d,e,g,b,y,n,rfl,ld.mono o,good,Xj good L hy,r.mono o,_,rfl,?_⟩;by_cases j:n∈kn g (f1 b) y
      ·rw[decide_eq_true j];exact jo (step λ_=>j)
      ·rw[decide_eq_false j];exact jX (q G false o ⟨λh=>(nomatch h),λh=>absurd ((z9.mp h).2.2 y hy (by unfold f1;rw[cy];rfl)) j⟩)
    ·rintro U G ⟨J,rfl,rfl,Y⟩;rw[tc,tv (tp _)]at Y;exact q G true o ⟨λ_=>z9.mpr ⟨ae.mp rfl,c,Y⟩,λ_=>rfl⟩
def fR(R:Rs Str)(z:Str):Option (Nat×Nat):=(qz R z).map λn=>(n,Ja R z)
def AJ(R:Rs Str)(z:Str):f1 (fR R) z=qz R z:=by
 unfold f1 fR;cases qz R z<;>rfl
def AC(g:qu rs)(i:z∈rs.map (·.1)):Y6 (Qo rs) f z n↔Y6 (QM rs) f z n:=by
 unfold Y6;constructor
 ·rintro⟨a,b,c⟩;refine⟨λj l=>let ⟨y,d,e⟩:=a j l;⟨y,(qR g i).mp d,e⟩,λy d=>b y ((qR g i).mpr d),λy d e=>?_⟩;have o:=(qR g i).mpr d;obtain⟨u,hu,m⟩:=c y o e;exact⟨u,(qR g (Xj g i o)).mp hu,m⟩
 ·rintro⟨a,b,c⟩;refine⟨λj l=>let ⟨y,d,e⟩:=a j l;⟨y,(qR g i).mpr d,e⟩,λy d=>b y ((qR g i).mp d),λy d e=>?_⟩;obtain⟨u,hu,m⟩:=c y ((qR g i).mp d) e;exact⟨u,(qR g (Xj g i d)).mpr hu,m⟩
def Jg.put(h:Jg N H d f)(l:z∈N)(g:f z=none)(le:N.length<=14)(p:H t=some (.tup [.int (n:Nat),.int (s:Nat)])):∃o,Jv H d (.str z) (.ref t) (upd H d o)/\Jg N (upd H d o) d (λy=>if y=z then some (n,s) else f y):=by
 obtain⟨j,a,b,c,i,sub⟩:=h.at_;have ln:j.length<=14:=by
  have:=Zp i sub;rw[tc,tc]at this;omega
 have new:=b z g;have j:∀{b:Addr} {r:List V},H b=some (.tup r)->b≠d:=λg e=>by rw[e,a]at g;cases g
 refine⟨_,Jv.k (k:=(Sum.inr z:qZ)) a (ql (by omega)),⟨_,qc,λy g=>?_,λy m u g=>?_,Ak _ i new,λk i=>?_⟩⟩
 ·by_cases e:y=z
  ·rw[if_pos e]at g;cases g
  ·rw[if_neg e]at g;rw[Qe,if_neg (λq=>e (Sum.inr.inj q))];exact b y g
 ·by_cases e:y=z
  ·rw[if_pos e]at g;cases g;subst e;exact⟨t,by rw[Qe,if_pos rfl],by rwa [qf (j p)]⟩
  ·rw[if_neg e]at g;obtain⟨p,_,r⟩:=c y m u g;exact⟨p,by rwa [Qe,if_neg (λq=>e (Sum.inr.inj q))],by rwa [qf (j r)]⟩
 ·rw[Q3 _ new,tA]at i;rcases tQ.mp i with i | i
  ·exact sub k i
  ·have:k=Sum.inr z:=by simpa using i
   rw[this];exact tz.mpr ⟨z,l,rfl⟩
def Jg.congr{g:Str->Option (Nat×Nat)}(h:Jg N H d f)(e:∀z,f z=g z):Jg N H d g:=⟨let ⟨i,a,b,c,x⟩:=h.at_;⟨i,a,λz i=>b z ((e z)▸i),λz n s i=>c z n s ((e z)▸i),x⟩⟩
def Jg.bare{rs:ju}(h:Jg (rs.map (·.1)) H d f):Ju (rs.map (·.1)) H d=QA rs (f1 f):=by
 obtain⟨g,a,b,c,_⟩:=h.at_;unfold Ju QA;rw[a];show ((rs.map (·.1)).filter λz=>(jw g (Sum.inr z:qZ)).isNone).length=_;congr 1;refine zaX λz _=>?_;unfold f1;cases e:f z with
 | none=>rw[b z e];rfl
 | some g=>
  obtain⟨t,u,_⟩:=c z g.1 g.2 e;rw[u];rfl
def DZ(R:Rs Str)(n s:Nat)(ns:List Str)(z:Str):Option (Nat×Nat):=if z∈ns then some (n,s) else fR R z
def Az{ns:List Str}(h:∀z∈ns,qz R z=none)(z:Str):DZ R n R.length ns z=fR (R++[(n,ns)]) z:=by
 unfold DZ fR;by_cases c:z∈ns
 ·rw[if_pos c,xB (h z c) c,yZ (h z c) c];rfl
 ·rw[if_neg c,Za];cases e:qz R z with
  | some m=>
   show some (m,Ja R z)=some (m,Ja (R++[(n,ns)]) z);rw[(JB e).1]
  | none=>
   show none=Option.map _ (if z∈ns then some n else none);rw[if_neg c];rfl
inductive KA(vs:List V)(H:Hp)(Q:VK):Prop
 | mk (l:Addr) (ps:List Addr) (rs:ju):vs=[.ref l]->jJ H l ps rs->(∀H' D R,Same H H'->H D=none->Jg (rs.map (·.1)) H' D (fR R)->All (QM rs) (rs.map (·.1)) 0 [] R->Q (.ref D) H')->KA vs H Q
def ET:Sp:=λa H Q _=>KA a H Q
abbrev IL:List Str:=["_law_rows_here","_law_roads","_law_found","_law_step","_law_number","_law_coming","_law_name"]
def Fg:qk IL ["_law_rows_here"] (qg J2):=jM
def vu(F:jq K "_law_numbers" "_law_numbers" J2 f r)(B:QL mg)(o:mg "dict"=none)(p:qM K mg "_law_back" zu GJ g j)(l:qM K mg "_law_comes" Z6 GJ C D):qp P w K mg base q5 3 f r ["_law_rows_here"] ET:=by
 refine F.okK Fg λH Q E hr h=>?_;obtain⟨Y,_,g,rfl,j,q⟩:=h;have hu:=hu_of hr;refine⟨_,qd (qy 1 (DU (jF (Wt rfl) (by rfl) o boot_dict (jc (jv 0)))))
  (qd (qy 2 Qf)
  (qd (qy 3 qh)
  (qd (qX (jW (by rfl) B.rng (jc qh)) (qF 4)
   (qd (qy 5 (qW (jc qv)))
   (qe (ZQ PassesOwn.never (qj (VS (zcG hu)) (jv 5) (qW jB))
    (qd (qy 5 (qW jB))
    (qd (qX (DQ (jv 1)) (qF 6)
     (qe (qA (JW.pt (jN (QG (J9 (jv 6) (jv 2))) (jK (jA (qE l (pin P w mg base (wQ l.fn B p)) (BS (jv 1) (jv 2) (jv 6) (jv 4))))))) (qe (q4 (ZT zat zaY zaZ QT (jv 5) (jc (jv 6))))) qr)))
    (qd (qX (qB (jv 5)) (qF 6) (qe (jL (jv 2) (jv 6) (qC (qV (jv 4) (jv 3))))))
    (qe (qy 3 (qN QR (jv 3) (jF YK (by rfl) B.int boot_int (jc (Qc (VS (zcG hu)) (jv 5) (qW jB))))))))))))))
  (qe (qo (jv 2)))))),?_⟩
 have good:=j.good;have aq:=j.le;have nd:=good.nd;have lN:(g.map (·.1)).length=g.length:=tc ..;refine⟨_,rfl,Du (Nq j λd j hd J O=>⟨d,j,rfl,qc,λl=>?_⟩)⟩;rw[jT];have s1:Same H (upd H d (.frz l (.dK j))):=qi hd;have o:upd H d (.frz l (.dK j)) d=some (.frz l (.dK j)):=qc;generalize upd H d (.frz l (.dK j))=p at s1 o;intro e C;have s2:Same p (upd p e (.dK [])):=qi C;have D:upd p e (.dK []) e=some (.dK []):=qc;have ai:=jb s1 C;have L:d≠e:=nq' o C;generalize upd p e (.dK [])=H2 at s2 D;have ia:∀{G:Hp},Fr H2 e G->B5 G d g:=λfr=>by
  refine⟨l,j,fr _ _ (s2 _ _ o) L,J,λp hr=>?_⟩;obtain⟨t,a,b⟩:=O p hr;have p:=s2 _ _ (s1 _ _ b);exact⟨t,a,fr _ _ p (nq D p)⟩
 have O:∀{G:Hp},Fr H2 e G->G d=some (.frz l (.dK j)):=λfr=>fr _ _ (s2 _ _ o) L;refine⟨15,rfl,by decide,by decide,Jj (λi C G=>∃(v4 v5 v6:Option V) (R:Rs Str),C=[some (.ref Y),some (.ref d),some (.ref e),some (.int (R.length:Nat)),v4,v5,v6]/\Fr H2 e G/\Jg (g.map (·.1)) G e (fR R)/\WL (QM g) (g.map (·.1)) i R)
  ⟨none,none,none,[],rfl,Fr.refl,⟨[],D,λz _=>rfl,λz n s h=>(nomatch h),zbt,λk h=>(nomatch h)⟩,.nil⟩ ?_ ?_⟩
 ·rintro i C G o ⟨v4,v5,v6,p,rfl,T,U,ar⟩;rw[zbM];have o:i < 15:=by simpa using o
  refine⟨sz,λD o=>?_⟩;have L:Same G (upd G D (.lst [V.str ""])):=qi o;refine ZF (λC G=>∃(v6:Option V) (c:Addr) (o:List Str) (R:Rs Str),C=[some (.ref Y),some (.ref d),some (.ref e),some (.int (R.length:Nat)),some (.int (i:Nat)),some (.ref c),v6]/\Fr H2 e G/\Jg (g.map (·.1)) G e (fR R)/\G c=some (.lst (o.map V.str))/\
    (∀R',QK (QM g) (g.map (·.1)) i R R'->QK (QM g) (g.map (·.1)) i p R')/\(o=[]->vZ (QM g) (g.map (·.1)) R i []))
   (λC G=>2*Ju (g.map (·.1)) G e+(match C with | [_,_,_,_,_,some (.ref c),_]=>(match G c with | some (.lst (_::_))=>1 | _=>0) | _=>0))
   ⟨v6,D,[""],p,rfl,T.same L,U.mono L,qc,λR' h=>h,λh=>(nomatch h)⟩ ?_ ?_
  ·rintro C G ⟨v6,c,o,R,rfl,fr,r,p,ab,ft⟩;refine⟨_,rfl,sz,λT ac=>?_⟩;have s0:Same G (upd G T (.lst [])):=qi ac;refine⟨c,T,_,rfl,rfl,.of (s0 _ _ p),.of qc,_,rfl,?_⟩;cases o with
   | nil=>
    exact jo ⟨_,_,_,R,rfl,fr.same s0,r.mono s0,.more ar (ab R (.stop (ft rfl)))⟩
   | cons D o=>
    refine jX ⟨sz,λo aj=>?_⟩;have ak:(2*Ju (g.map (·.1)) G e+(match G c with | some (.lst (_::_))=>1 | _=>0))=2*QA g (qz R)+1:=by
     rw[p];show 2*Ju (g.map (·.1)) G e+1=_;rw[r.bare];unfold QA;simp only[AJ]
    have p:Same G (upd (upd G T (.lst [])) o (.lst [])):=s0.trans (qi aj);have L:upd (upd G T (.lst [])) o (.lst []) o=some (.lst []):=qc;generalize upd (upd G T (.lst [])) o (.lst [])=D at p L;refine⟨_,rfl,d,l,j,g.map (·.1),rfl,O (fr.same p),J,AH (λD J l=>∃(v6:Option V) (j:List Str),J=[some (.ref Y),some (.ref d),some (.ref e),some (.int (R.length:Nat)),some (.int (i:Nat)),some (.ref o),v6]/\Same G l/\l o=some (.lst (j.map V.str))/\j.Sublist ((g.map (·.1)).take D)/\∀x,x∈j↔x∈(g.map (·.1)).take D/\qz R x=none/\Y6 (QM g) (qz R) x i)
     ⟨v6,[],rfl,p,L,List.nil_sublist _,λx=>by simp⟩ (λD J l _ ⟨_,_,_,s,_⟩=>s _ _ (O fr)) ?_ ?_⟩
    ·rintro D z J G1 L ⟨al,j,rfl,O,U,sub,iff⟩;have p:=tW L;have l:=(td.mp L).1;have aa:(g.map (·.1)).take (D+1)=(g.map (·.1)).take D++[z]:=by rw[tN,L];rfl
     have l:z∉(g.map (·.1)).take D:=λm=>QS nd L (tz.mpr ⟨z,m,rfl⟩);have gz:∀{l:Hp},Same G1 l->¬(qz R z=none/\Y6 (QM g) (qz R) z i)->∃(v6:Option V) (j:List Str),[some (V.ref Y),some (.ref d),some (.ref e),some (.int (R.length:Nat)),some (.int (i:Nat)),some (.ref o),some (.str z)]=[some (.ref Y),some (.ref d),some (.ref e),some (.int (R.length:Nat)),some (.int (i:Nat)),some (.ref o),v6]/\Same G l/\l o=some (.lst (j.map V.str))/\j.Sublist ((g.map (·.1)).take (D+1))/\∀x,x∈j↔x∈(g.map (·.1)).take (D+1)/\qz R x=none/\Y6 (QM g) (qz R) x i:=λ{l} s' no=>by
      refine⟨_,j,rfl,O.trans s',s' _ _ U,by rw[aa];exact sub.trans (List.sublist_append_left _ _),λx=>?_⟩;rw[iff x,aa,tQ];constructor
      ·rintro⟨a,b⟩;exact⟨.inl a,b⟩
      ·rintro⟨a | a,b⟩
       ·exact⟨a,b⟩
       ·have:x=z:=by simpa using a
        subst this;exact absurd b no
     have D:j.length<=14:=by
      have:=sub.length_le;rw[tL,lN]at this;omega
     obtain⟨_,go,D,_⟩:=(r.mono O).get z;refine⟨_,rfl,_,rfl,e,_,rfl,go,_,rfl,?_⟩;rw[D];have e1:(fR R z).isSome=(qz R z).isSome:=by unfold fR;rw[zbi]
     rw[e1];cases cz:qz R z with
     | some m=>exact jo (jo (gz (λ_ _ h=>h) λh=>by rw[cz]at h;cases h.1))
     | none=>
      refine jX ⟨_,rfl,_,rfl,_,rfl,_,rfl,d,e,g,fR R,z,i,rfl,(ia fr).mono O,good,p,r.mono O,by omega,λl b s' D=>⟨b,rfl,?_⟩⟩;rw[funext (AJ R),AC good p]at D;cases b with
      | false=>exact jo (gz s' λh=>absurd (D.mpr h.2) (by simp))
      | true=>
       have am:=s' _ _ U;refine jX ⟨_,rfl,.inl ⟨rfl,_,.of am⟩,_,rfl,o,_,_,rfl,rfl,am,by rw[tc];exact ql (by omega),_,j++[z],rfl,Same.upd (O.trans s') (jb s0 aj),tA▸qc,by rw[aa];exact List.Sublist.append sub (List.Sublist.refl _),λx=>?_⟩;rw[tQ,iff x,aa,tQ];constructor
       ·rintro(⟨a,b⟩ | a)
        ·exact⟨.inl a,b⟩
        ·have:x=z:=by simpa using a
         subst this;exact⟨.inr a,cz,D.mp rfl⟩
       ·rintro⟨a | a,b⟩
        ·exact .inl ⟨a,b⟩
        ·exact .inr a
    ·rintro J G1 ⟨al,j,rfl,O,U,sub,iff⟩;rw[tv (tp _)]at sub iff;have an:vZ (QM g) (g.map (·.1)) R i j:=⟨iff,sub⟩;have ao:=r.mono O;obtain⟨_,as⟩:=ao.isd;refine⟨_,rfl,o,rfl,⟨_,.of U⟩,je (λm J l=>∃v6,J=[some (.ref Y),some (.ref d),some (.ref e),some (.int (R.length:Nat)),some (.int (i:Nat)),some (.ref o),v6]/\Fr H2 e l/\l o=some (.lst (j.map V.str))/\Jg (g.map (·.1)) l e (DZ R i R.length (j.take m)))
      ⟨al,rfl,fr.same O,U,ao.congr λz=>by unfold DZ;rw[zdM,if_neg (by simp)]⟩ (λm J l _ ⟨_,_,_,h,_⟩=>.of h) ?_ ?_⟩
     ·rintro m x J l hx ⟨ae,rfl,af,O,Y⟩;obtain⟨z,L,p,rfl⟩:=jU hx;refine⟨_,rfl,_,rfl,sz,λt ht=>?_⟩;have st:Same l (upd l t (.tup [.int (i:Nat),.int (R.length:Nat)])):=qi ht;have ap:upd l t (.tup [.int (i:Nat),.int (R.length:Nat)]) t=some (.tup [.int (i:Nat),.int (R.length:Nat)]):=qc;generalize upd l t (.tup [.int (i:Nat),.int (R.length:Nat)])=G3 at st ap;obtain⟨_,put,au⟩:=(Y.mono st).put (((iff z).mp p).1) (by unfold DZ fR;rw[if_neg (λq=>QS (nd.sublist sub) L (tz.mpr ⟨z,q,rfl⟩)),((iff z).mp p).2.1];rfl) (by rw[lN];exact aq) ap;refine⟨_,rfl,_,rfl,e,_,rfl,put,_,rfl,(af.same st).at_d,by rw[qf (λz=>by rw[z,as]at U;cases U)];exact st _ _ O,au.congr λy=>?_⟩;unfold DZ;by_cases q:y=z
      ·subst q;rw[if_pos rfl,if_pos (by rw[tN,L];simp)]
      ·rw[if_neg q];have U:(y∈j.take (m+1))↔y∈j.take m:=by
        rw[tN,L,tQ];exact⟨λh=>h.resolve_right (by simpa using q),.inl⟩
       by_cases h:y∈j.take m
       ·rw[if_pos h,if_pos (U.mpr h)]
       ·rw[if_neg h,if_neg (λw=>h (U.mp w))]
     ·rintro J l ⟨ae,rfl,af,O,Y⟩;rw[tc,tv (tp _)]at Y;refine⟨_,rfl,_,rfl,sz,λU J=>?_⟩;have L:Same l (upd l U (.lst [])):=qi J;refine⟨o,U,_,rfl,rfl,.of (L _ _ O),.of qc,.inr ⟨_,rfl,_,_,rfl,rfl,?_⟩⟩;have ag:=af.same L;have ah:=Y.mono L;have J:=L _ _ O;generalize upd l U (.lst [])=l at ag ah J;cases j with
      | nil=>
       have L:Jg (g.map (·.1)) l e (fR R):=ah.congr λz=>by unfold DZ;rw[if_neg (by simp)]
       refine⟨⟨ae,o,[],R,?_,ag,L,J,ab,λ_=>an⟩,?_⟩
       ·show [_,_,_,some (V.int ((R.length:Int)+0)),_,_,_]=_;rw[Int.add_zero]
       ·have:=L.bare;show 2*Ju (g.map (·.1)) l e+(match l o with | some (.lst (_::_))=>1 | _=>0) < 2*Ju (g.map (·.1)) G e+(match G c with | some (.lst (_::_))=>1 | _=>0);rw[ak,J,this];unfold QA;simp only[AJ];show 2*_+0 < _;omega
      | cons n1 j=>
       have O:∀z∈n1::j,qz R z=none:=λz p=>((iff z).mp p).2.1;have L:Jg (g.map (·.1)) l e (fR (R++[(i,n1::j)])):=ah.congr (Az O);refine⟨⟨ae,o,n1::j,R++[(i,n1::j)],?_,ag,L,J,λR' h=>ab R' (.more an (by simp) h),λh=>(nomatch h)⟩,?_⟩
       ·show [_,_,_,some (V.int ((R.length:Int)+1)),_,_,_]=_;rw[tx,zax];rfl
       ·have:=L.bare;have lt:=Uk (n:=i) (λz p=>⟨((iff z).mp p).1,O z p⟩) (by simp);show 2*Ju (g.map (·.1)) l e+(match l o with | some (.lst (_::_))=>1 | _=>0) < 2*Ju (g.map (·.1)) G e+(match G c with | some (.lst (_::_))=>1 | _=>0);rw[ak,J,this];show 2*QA g (f1 (fR (R++[(i,n1::j)])))+1 < _;have l:QA g (f1 (fR (R++[(i,n1::j)])))=QA g (qz (R++[(i,n1::j)])):=by
         unfold QA;simp only[AJ]
        rw[l];omega
  ·rintro C G _ _ j ⟨x,o,p,J⟩;exact⟨x,o,p,λT ac=>let ⟨a,b,o,e1,l,p,L,O,U,Y⟩:=J T ac;⟨a,b,o,e1,l,p,L,O,U,j _ _ Y⟩⟩
 ·rintro C G ⟨v4,v5,v6,R,rfl,fr,r,up⟩;exact⟨_,rfl,q G e R (λb u D=>fr _ _ (s2 _ _ (s1 _ _ D)) (qm D ai)) ai r (up.whole (by rw[lN];show g.length < 15;omega))⟩
def KR(h:∀x,x∈ns↔x∈ms):Rb.setN ns=Rb.setN ms:=zdK λk=>by rw[Rb.testBit_setN,Rb.testBit_setN,decide_eq_decide.mpr (h k)]
def Cp(g:qu rs)(b:z∈rs.map (·.1)):Rb.setN (kn rs f z)=Rb.setN (QW rs f z):=KR λx=>by
 rw[kJ,jz];constructor
 ·rintro⟨y,a,e⟩;exact⟨y,(qR g b).mp a,e⟩
 ·rintro⟨y,a,e⟩;exact⟨y,(qR g b).mpr a,e⟩
inductive KC(vs:List V)(H:Hp)(Q:VK):Prop
 | mk (l:Addr) (ps:List Addr) (rs:ju):vs=[.ref l]->jJ H l ps rs->(∀H' D R,Same H H'->H D=none->ja H' D rs R->All (QM rs) (rs.map (·.1)) 0 [] R->Q (.ref D) H')->KC vs H Q
def EV:Sp:=λa H Q _=>KC a H Q
abbrev IM:List Str:=["_law_rows_here","_law_found","_law_labels_here","_law_name","_law_leads_here","_law_bits","_law_one"]
def Fh:qk IM ["_law_rows_here"] (qg zS):=jM
def kB(F:jq K "_law_labels" "_law_labels" zS f d)(B:QL mg)(j:mg "dict"=none)(l:qM K mg "_law_back" zu GJ g o)(p:qM K mg "_law_comes" Z6 GJ r C)(hN:qM K mg "_law_numbers" J2 ["_law_rows_here"] J L):qp P w K mg base q5 4 f d ["_law_rows_here"] EV:=by
 refine F.okK Fh λH Q E hr h=>?_;obtain⟨o,J,g,rfl,r,q⟩:=h;refine⟨_,qd (qy 1 (qE hN (pin P w mg base (vu hN.fn B j l p)) (jc (jv 0))))
  (qd (qy 2 Qf)
  (qd (qX (qB (jv 0)) (JV rfl (jh (qF 3) (jh (qF 4) QX)))
   (qe (qA (QG (Zr (jv 3) (jv 1)))
    (qe (jL (jv 2) (jv 3) (qN MZ (qC (jc qv)) (qO (jv 1) (jv 3)))))
    (qd (qy 5 qh)
    (qd (qX (YG (jv 4)) (qF 6)
     (qe (qA (QG (Zr (jv 6) (jv 1))) (qe (qy 5 (qN BO (jv 5) (qN GN qh (qD qJ (qO (jv 1) (jv 6)) qh))))) qr)))
    (qe (jL (jv 2) (jv 3) (qC (qV qv (jv 5))))))))))
  (qe (qo (jv 2))))),?_⟩
 have good:=r.good;have j:=r.le;have nd:=good.nd;refine⟨_,rfl,o,J,g,rfl,r,λj e R L _ d all=>?_⟩;intro D p;have af:=jb L p;have C:Same j (upd j D (.dK [])):=qi p;have l:upd j D (.dK []) D=some (.dK []):=qc;generalize upd j D (.dK [])=U at C l;have Y:=L.trans C;have L:e≠D:=λz=>by
  obtain⟨_,j⟩:=d.isd;rw[z,p]at j;cases j
 have ac:∀{G:Hp},Fr U D G->Jg (g.map (·.1)) G e (fR R):=λfr=>by
  obtain⟨j,a,b,c,x⟩:=(d.mono C).at_;refine⟨j,fr _ _ a L,b,λz n s d=>?_,x⟩;obtain⟨t,u,v⟩:=c z n s d;exact⟨t,u,fr _ _ v (nq l v)⟩
 have d:o≠D:=λz=>by have:=Y _ _ r.at_;rw[z,l]at this;cases this
 have gG:∀{G:Hp},Fr U D G->jJ G o J g:=λfr=>(r.mono Y).fr' l fr;refine⟨_,rfl,o,rfl,⟨_,.of (Y _ _ r.at_)⟩,je (λi aa G=>∃(C v4 p v6:Option V) (j:List (qZ×V)),aa=[some (.ref o),some (.ref e),some (.ref D),C,v4,p,v6]/\Fr U D G/\G D=some (.dK j)/\j.map (·.1)=((g.map (·.1)).take i).map Sum.inr/\∀d∈g.take i,∃t,jw j (Sum.inr d.1:qZ)=some (.ref t)/\G t=some (.tup (jV g R d.1)))
  ⟨none,none,none,none,[],rfl,Fr.refl,l,rfl,λd h=>(nomatch h)⟩ (λi aa G _ ⟨_,_,_,_,_,_,f,_⟩=>.of (gG f).at_) ?_ ?_⟩
 ·rintro i y aa L hy ⟨C,v4,p,v6,j,rfl,fr,ae,J,O⟩;obtain⟨ak,qq,d,rfl,er,ag,ha,T⟩:=(gG fr).rows.item hy;have l:=(td.mp er).1;have eN:(g.map (·.1))[i]?=some d.1:=by rw[tu,er];rfl
  have ah:d.1∈g.map (·.1):=tz.mpr ⟨d,ag,rfl⟩;have lk:j.length=i:=by
   have:=congrArg zas J;rw[tc,tc,tL,tc]at this;omega
  have new:=JY (by rw[J];exact QS nd eN);have ft:∀(l:Hp) (t:Addr) (C v4 p v6:Option V),Same L l->l t=some (.tup (jV g R d.1))->∃H5,Jv l D (.str d.1) (.ref t) H5/\
    ∃(al am an ab:Option V) (j:List (qZ×V)),[some (V.ref o),some (.ref e),some (.ref D),C,v4,p,v6]=[some (.ref o),some (.ref e),some (.ref D),al,am,an,ab]/\Fr U D H5/\H5 D=some (.dK j)/\j.map (·.1)=((g.map (·.1)).take (i+1)).map Sum.inr/\∀d∈g.take (i+1),∃t,jw j (Sum.inr d.1:qZ)=some (.ref t)/\H5 t=some (.tup (jV g R d.1)):=λl t C v4 p v6 U ht=>by
   have h4:=U _ _ ae;refine⟨_,Jv.k (k:=(Sum.inr d.1:qZ)) h4 (ql (by omega)),C,v4,p,v6,Qd j (Sum.inr d.1) (.ref t),rfl,(fr.same U).at_d,qc,?_,λr2 ai=>?_⟩
   ·rw[Q3 _ new,tA,J,tN,eN,tA];rfl
   ·have tD:∀{b:Addr} {xs:List V},l b=some (.tup xs)->b≠D:=λT e=>by rw[e,h4]at T;cases T
    rw[tN,er]at ai;rcases tQ.mp ai with h | h
    ·obtain⟨t2,a,b⟩:=O r2 h;refine⟨t2,?_,?_⟩
     ·rw[Qe,if_neg (λq=>(λe=>by rw[e,new]at a;cases a) (Sum.inr.inj q))];exact a
     ·rw[qf (tD (U _ _ b))];exact U _ _ b
    ·have:r2=d:=by simpa using h
     subst this;exact⟨t,by rw[Qe,if_pos rfl],by rwa [qf (tD ht)]⟩
  refine⟨ak,_,rfl,.of ha,rfl,_,_,rfl,_,_,rfl,rfl,?_⟩;obtain⟨_,go,U,ho⟩:=(ac fr).get d.1;refine⟨_,rfl,_,rfl,e,_,rfl,go,_,rfl,?_⟩;rw[U];have U:(fR R d.1).isSome=(qz R d.1).isSome:=by unfold fR;rw[zbi]
  rw[U];cases cz:qz R d.1 with
  | some n=>
   have ef:fR R d.1=some (n,Ja R d.1):=by unfold fR;rw[cz];rfl
   obtain⟨_,U,_⟩:=ho _ _ ef;rw[U]at go;have el:jV g R d.1=[.str "number",.int (n:Nat),.int (Ja R d.1:Nat)]:=by unfold jV;rw[cz]
   refine jX ⟨sz,λt1 U=>?_⟩;have s5:Same L (upd L t1 (.tup [.str "number"])):=qi U;have U:=(((ac fr).mono s5).get d.1);obtain⟨_,U,_,ao⟩:=U;obtain⟨t5,ap,aq⟩:=ao _ _ ef;rw[ap]at U;refine⟨_,rfl,_,rfl,e,_,rfl,U,t1,t5,_,_,rfl,rfl,qc,aq,by show 1+2<=zeq;decide,λU G6 s6 ar=>?_⟩;obtain⟨H7,put,kk⟩:=ft G6 U (some (.str d.1)) (some (.ref qq)) p v6 (s5.trans s6) (el▸ar);exact⟨_,rfl,_,rfl,D,H7,rfl,put,kk⟩
  | none=>
   have el:jV g R d.1=[.str "endless",.int (Rb.setN (QW g (qz R) d.1):Nat)]:=by unfold jV;rw[cz]
   refine jo ⟨_,rfl,qq,rfl,⟨_,.of T⟩,?_⟩;have aj:=z5 nd ag;refine Xr (xs:=d.2.map V.str) (λm U l=>∃v6,U=[some (.ref o),some (.ref e),some (.ref D),some (.str d.1),some (.ref qq),some (.int (Rb.setN ((d.2.take m).filterMap (qz R)):Nat)),v6]/\l=L)
    ⟨v6,rfl,rfl⟩ (λm U l _ ⟨_,_,e⟩=>e▸.of T) ?_ ?_
   ·rintro m x U l o ⟨ab,rfl,rfl⟩;obtain⟨y,ey,hy,rfl⟩:=jU o;obtain⟨_,T,o,as⟩:=(ac fr).get y;refine⟨_,rfl,_,rfl,e,_,rfl,T,_,rfl,?_⟩;rw[o];have o:(fR R y).isSome=(qz R y).isSome:=by unfold fR;rw[zbi]
    rw[o];have o:(d.2.take (m+1)).filterMap (qz R)=(d.2.take m).filterMap (qz R)++[y].filterMap (qz R):=by
     rw[tN,ey,zau];rfl
    rw[o];cases o:qz R y with
    | none=>
     have e3:[y].filterMap (qz R)=[]:=by simp [o]
     rw[e3,zaj];exact jo ⟨_,rfl,rfl⟩
    | some n=>
     have e3:[y].filterMap (qz R)=[n]:=by simp [o]
     obtain⟨ty,au,av⟩:=as _ _ (by unfold fR;rw[o];rfl);rw[au]at T;have n8:=zA good (Wa (Qg nd) all) (Xj good ah (by rw[aj];exact hy)) o;rw[e3,Rb.setN_snoc];refine jX ⟨_,rfl,_,rfl,_,rfl,e,_,rfl,T,ty,_,0,_,rfl,rfl,.of av,rfl,1,(n:Int),rfl,rfl,⟨by omega,by omega,by decide⟩,_,_,rfl,rfl,some (.str y),?_,rfl⟩;have o:(1:Int)*2^ ((n:Int).toNat)=((2^n:Nat):Int):=by
      rw[Int.one_mul,zaL];exact(Int.natCast_pow 2 n).symm
     show [_,_,_,_,_,some (V.int (Builtin.bitOr (Rb.setN ((d.2.take m).filterMap (qz R)):Nat) ((1:Int)*2^ ((n:Int).toNat)))),_]=_;rw[o,bo]
   ·rintro U l ⟨ab,rfl,rfl⟩;rw[tc,tv (tp _)];have o:Rb.setN (d.2.filterMap (qz R))=Rb.setN (QW g (qz R) d.1):=by
     have:=Cp good (f:=qz R) ah;unfold kn at this;rwa [aj]at this
    rw[o];refine⟨_,rfl,sz,λt ht=>?_⟩;obtain⟨H7,put,kk⟩:=ft (upd l t (.tup [.str "endless",.int (Rb.setN (QW g (qz R) d.1):Nat)])) t (some (.str d.1)) (some (.ref qq)) (some (.int (Rb.setN (QW g (qz R) d.1):Nat))) ab (qi ht) (by rw[el];exact qc);exact⟨_,rfl,_,rfl,D,H7,rfl,put,kk⟩
 ·rintro aa L ⟨C,v4,p,v6,j,rfl,fr,ae,J,O⟩;rw[tc,(r.rows.1)]at J O;rw[<-tc,tv (tp _)]at J;rw[tv (tp _)]at O;exact⟨_,rfl,q L D R (λb u h=>fr _ _ (Y _ _ h) (qm h af)) af ⟨j,ae,J,O⟩ all⟩
open PySem L2 MLab Rb
open PyProof.Rows hiding K lo
abbrev zq:Stmt:=top 64
abbrev zw:Stmt:=top 65
abbrev Zf:Stmt:=top 66
def kH{hs:List Str}(h:j < hs.length)(y:Str):hs.take j++[y]++hs.drop (j+1)=lf hs (j,y):=by
 unfold lf;rw[List.set_eq_take_append_cons_drop,if_pos h];simp
def FP(g:qu rs){hs:List Str}(d:∀z∈hs,∃r∈rs,r.1=z):b∈mv (Qo rs) hs↔∃m∈Qm rs hs hs.length,b=lf hs m:=by
 rw[j8];constructor
 ·rintro⟨a,x,y,q,rfl,f,rfl⟩;have i:x∈rs.map (·.1):=by
   obtain⟨r,hr,e⟩:=d x (by simp);exact tz.mpr ⟨r,hr,e⟩
  have j:jS (a++x::q) a.length=x:=by unfold jS;simp
  refine⟨(a.length,y),zcM.mpr ⟨a.length,zaC.mpr (by simp),tz.mpr ⟨y,by rw[j];exact(qR g i).mp f,rfl⟩⟩,?_⟩;unfold lf;simp
 ·rintro⟨m,f,rfl⟩;obtain⟨a,i⟩:=Qr f;have f:jS hs m.1∈rs.map (·.1):=by
   obtain⟨r,hr,e⟩:=d _ (Q8 a);exact tz.mpr ⟨r,hr,e⟩
  refine⟨hs.take m.1,jS hs m.1,m.2,hs.drop (m.1+1),?_,(qR g f).mpr i,?_⟩
  ·have:=Z1 a;obtain⟨_,d⟩:=td.mp this;rw[<-d];simp
  ·rw[<-kH a];simp
abbrev QO(rs:ju)(R:Rs Str):Prop:=All (QM rs) (rs.map (·.1)) 0 [] R
def oW(rs:ju)(R:Rs Str)(hs:List Str):Str:=zW (QP (hs.map (wT rs R)))
def zd(R:Rs Str)(hs:List Str):Nat:=(hs.map (Ja R)).sum
def ZD(rs:ju)(R:Rs Str)(hs:List Str):List (Nat×Str):=(Qm rs hs hs.length).filter λm=>decide (oW rs R (lf hs m)=zem "lost")
def YZ(rs:ju)(R:Rs Str)(hs:List Str)(m:Nat×Str):Prop:=∃i:Nat,(ZD rs R hs)[i]?=some m/\∀(b:Nat) (a:Nat×Str),(ZD rs R hs)[b]?=some a->zd R (lf hs m)<=zd R (lf hs a)/\(b < i->zd R (lf hs m) < zd R (lf hs a))
def YZ.uniq(h:YZ rs R hs m)(k:YZ rs R hs a):m=a:=by
 obtain⟨i,e,b⟩:=h;obtain⟨d,f,g⟩:=k;rcases zaB i d with c | c | c
 ·have j:=(g i m e).2 c;have l:=(b d a f).1;omega
 ·rw[c,f]at e;exact(tF.inj e).symm
 ·have j:=(b d a f).2 c;have l:=(g i m e).1;omega
def YZ.mem(h:YZ rs R hs m):m∈Qm rs hs hs.length/\oW rs R (lf hs m)=zem "lost":=by
 obtain⟨i,e,_⟩:=h;have:=tP.mp (tW e);exact⟨this.1,of_decide_eq_true this.2⟩
def xC(b:Nat):zW (.edl b)≠zem "lost":=by
 show (if b.testBit 0=true then (zem "won") else zem "drawn")≠_;split<;>decide+kernel
def vv(h:oW rs R hs=zem "lost"):∀z∈hs,∃n,qz R z=some n:=λz d=>by
 cases e:qz R z with
 | some n=>exact⟨n,rfl⟩
 | none=>
  exfalso;have a:setN (QW rs (qz R) z)∈Qx (hs.map (wT rs R)):=by
   unfold Qx;exact zaH.mpr ⟨.edl _,tz.mpr ⟨z,d,Ze e⟩,rfl⟩
  unfold oW QP at h;cases c:Qx (hs.map (wT rs R)) with
  | nil=>rw[c]at a;cases a
  | cons b a=>
   rw[c]at h;cases a with
   | nil=>exact xC _ h
   | cons d a=>exact xC _ h
def uM(good:qu rs)(all:QO rs R){hs:List Str}(a:∀z∈hs,∃r∈rs,r.1=z)(h:oW rs R hs=zem "won"):0 < (ZD rs R hs).length:=by
 have L:=Wa (Qg good.nd) all;have d:∀{b:List Str},(∀z∈b,∃r∈rs,r.1=z)->∀z∈b,z∈rs.map (·.1):=λh z f=>let ⟨r,hr,e⟩:=h z f;tz.mpr ⟨r,hr,e⟩;rcases kz good L (d a) with ⟨_,e⟩ | ⟨w,_⟩ | ⟨_,_,e⟩
 ·exact absurd (h.symm.trans e) (by decide+kernel)
 ·obtain⟨i,f⟩:=w;obtain⟨m,g,rfl⟩:=(FP good a).mp i;have:m∈ZD rs R hs:=tP.mpr ⟨g,decide_eq_true (by
   rcases kz good L (d (J7 good a g)) with ⟨_,e⟩ | ⟨w,_⟩ | ⟨n,_,_⟩
   ·exact e
   ·exact absurd w (vz f)
   ·exact absurd f n)⟩
  exact zaG this
 ·exact absurd (h.symm.trans e) (by decide+kernel)
def u9(all:QO rs R)(le:rs.length<=14)(z:Str):Ja R z<=14:=by
 have a:=VP (xM all k7.nil);rw[tc]at a;have a:Ja R z<=R.length:=List.findIdx_le_length;omega
def UH:∀{hs:List Str},(∀z∈hs,Ja R z<=14)->zd R hs<=14*hs.length:=by
 intro hs;induction hs with
 | nil=>intro _;exact zao _
 | cons z hs a=>
  intro h;have b:=h z tX;have b:=a λy d=>h y (tU _ d);unfold zd at b ⊢;simp only[tV,zaT,zae];omega
def xA(f:α->β)(l:List α):l.filterMap (λx=>some (f x))=l.map f:=by induction l<;>simp [*]
def Jk(p:α->Bool)(f:α->β)(l:List α):(l.filterMap λx=>if p x=true then some (f x) else none)=(l.filter p).map f:=by
 induction l with
 | nil=>rfl
 | cons x l a=>cases c:p x<;>simp [c,a]
def Wy{H:Hp}{f:α->Addr}{g:α->Nat×Str}:∀{l:List α},(∀x∈l,H (f x)=some (.tup (Yz (g x))))->jG H (l.map f) (l.map g):=λ{l} h=>by
 refine⟨by rw[tc,tc],λi _ m a b=>?_⟩;rw[tu]at a b;cases e:l[i]? with
 | none=>rw[e]at a;cases a
 | some x=>
  rw[e]at a b;cases a;cases b;exact h x (tW e)
def YN.pts:∀{ts:List Addr} {os:List ((Nat×Str)×Str)},YN H ts os->∃xs:List (Addr×Addr×((Nat×Str)×Str)),xs.map (·.1)=ts/\xs.map (·.2.2)=os/\∀x∈xs,H x.1=some (.tup [.ref x.2.1,.str x.2.2.2])/\H x.2.1=some (.tup (Yz x.2.2.1)):=by
 intro ts;induction ts with
 | nil=>
  intro os h;cases os with
  | nil=>exact⟨[],rfl,rfl,λ_ z=>by cases z⟩
  | cons d os=>cases h.1
 | cons t ts g=>
  intro os h;cases os with
  | nil=>cases h.1
  | cons d os=>
   obtain⟨j,l,m⟩:=h.2 0 t d rfl rfl;obtain⟨xs,e,f,o⟩:=g ⟨zdc.inj h.1,λi a b e f=>h.2 (i+1) a b (by simpa using e) (by simpa using f)⟩;refine⟨(t,j,d)::xs,by rw[tV,e],by rw[tV,f],λx d=>?_⟩;rcases tH.mp d with rfl | d
   ·exact⟨l,m⟩
   ·exact o x d
def NM(rs:ju)(R:Rs Str)(hs:List Str):((Yv rs R hs).filter λo=>decide (o.2=zem "lost")).map (·.1)=ZD rs R hs:=by
 unfold Yv ZD;rw[zbx,zaz];show zef id _=_;rw[zek];rfl
inductive UK(CG:Addr)(vs:List V)(H:Hp)(Q:VK):Prop
 | mk (g D h:Addr) (rs:ju) (R:Rs Str) (hs:List Str):vs=[.ref g,.ref D,.ref h]->Qk CG H g rs->qu rs->(rs.length<=14)->ja H D rs R->QO rs R->js H h rs hs->(∀H' L ps,Same H H'->H L=none->H' L=some (.lst (ps.map V.ref))->jG H' ps (ZD rs R hs)->Q (.ref L) H')->UK CG vs H Q
def yr(a:Addr):Sp:=λb H Q _=>UK a b H Q
inductive U8(vs:List V)(H:Hp)(Q:VK):Prop
 | mk (D h:Addr) (rs:ju) (R:Rs Str) (hs:List Str):vs=[.ref D,.ref h]->(rs.length<=14)->ja H D rs R->QO rs R->js H h rs hs->((∀z∈hs,∃n,qz R z=some n))->(∀H',Same H H'->Q (.int (zd R hs:Nat)) H')->U8 vs H Q
def Me:Sp:=λa H Q _=>U8 a H Q
def WH:Str:=(zem "winner_by"++zem ".<locals>.")++zem "<lambda>"
inductive UJ(CG PT:Addr)(vs:List V)(H:Hp)(Q:VK):Prop
 | mk (g D h:Addr) (rs:ju) (R:Rs Str) (hs:List Str):vs=[.ref g,.ref D,.ref h]->Qk CG H g rs->qu rs->(rs.length<=14)->ja H D rs R->QO rs R->js H h rs hs->(0 < (ZD rs R hs).length)->((∃tq,H PT=some (.tbl #[.str WH tq])))->(∀H' p m,Same H H'->H' p=some (.tup (Yz m))->YZ rs R hs m->Q (.ref p) H')->UJ CG PT vs H Q
def yq(a PT:Addr):Sp:=λb H Q _=>UJ a PT b H Q
abbrev p3:List Str:=["ground","labels","heap"]
def yV:qk p3 p3 (qg zq):=jM
def G0(F:jq K "winning_by" "winning_by" zq f a)(h:WF K mg)(B:QL mg)(Z:Wk K mg)(G:QB mg)(T:Qv K mg)(M:GM K mg d)(O:NF K mg)(b:A1 K mg):qp P w K mg base q5 11 f a p3 (yr d):=by
 obtain⟨_,_,g⟩:=b.osby;refine F.okK yV λH Q E hr z=>?_;obtain⟨j,D,l,i,R,a,rfl,m,good,le,o,all,d,q⟩:=z;refine⟨_,qe (qo (jP (N':=["pair"]) (ix:=[none]) (tt:=Zx (J0 BK (J0 (JQ K) (jg 0) (tC (.int 1))) (tC (.str (zem "lost"))))) (te:=J0 (JQ K) (jg 0) (tC (.int 0))) (qB (qE g (pin P w mg base (xm g.fn h B Z G T M O b)) (ZV (jv 0) (jv 1) (jv 2)))) (λ_ _ _ fp _=>
   ⟨qF 0,jt (qj qT (qD qJ (jv 0) qh) qv),qD qJ (jv 0) qh⟩))),?_⟩
 refine⟨_,rfl,_,rfl,_,rfl,j,D,l,i,R,a,rfl,m,good,le,o,Wa (Qg good.nd) all,d,λl L _ o _ g os=>⟨L,rfl,⟨_,.of g⟩,λW p=>?_⟩⟩;obtain⟨b,m,r,j⟩:=os.pts;have u:(Qm i a a.length).length<=112:=by
  have:=Jd good le d.in_ a.length (tp _);have:=d.le;omega
 have d:b.length<=112:=by
  have:=congrArg zas r;unfold Yv at this;rw[tc,tc]at this;omega
 have d:l L=some (.lst (b.map λx=>V.ref x.1)):=by
  rwa [<-m,zaz]at g
 refine QI (xs:=b) (out:=λx=>if decide (x.2.2.2=zem "lost")=true then some (V.ref x.2.1) else none) p d (ql (by omega)) (λx d Y l u m=>?_) (λx d v g Y l u m=>?_) (λC u y=>?_)
 ·refine⟨_,rfl,x.1,_,1,.str x.2.2.2,rfl,rfl,.of (l _ _ (j x d).1),rfl,rfl,_,rfl,?_⟩;have J:=m Y (Same.refl Y);have e:(if decide (x.2.2.2=zem "lost")=true then some (V.ref x.2.1) else none).isSome=decide (V.str x.2.2.2=V.str (zem "lost")):=by
   by_cases c:x.2.2.2=zem "lost"
   ·rw[decide_eq_true c,decide_eq_true (by rw[c])];rfl
   ·rw[decide_eq_false c,decide_eq_false λz=>c (V.str.inj z)];rfl
  rwa [e]at J
 ·have J:v=.ref x.2.1:=by
   by_cases c:x.2.2.2=zem "lost"
   ·rw[decide_eq_true c]at g;exact(tF.inj g).symm
   ·rw[decide_eq_false c]at g;cases g
  subst J;exact⟨_,rfl,x.1,_,0,_,rfl,rfl,.of (l _ _ (j x d).1),rfl,m Y (Same.refl Y)⟩
 ·rw[Jk]at y;refine q C W ((b.filter λx=>decide (x.2.2.2=zem "lost")).map (·.2.1)) (o.trans u) (jb o p) (by rw[zaz];exact y) ?_;have g:(b.filter λx=>decide (x.2.2.2=zem "lost")).map (·.2.2.1)=ZD i R a:=by
   rw[<-NM,<-r,zbx,zaz];rfl
  rw[<-g];exact Wy λx d=>u _ _ (j x (tP.mp d).1).2
def Mz:qk ["labels","heap"] ["labels","heap"] (qg zw):=jM
def Rv(F:jq K "count_by" "count_by" zw f a)(T:Qv K mg):qp P w K mg base q5 1 f a ["labels","heap"] Me:=by
 refine F.okK Mz λH Q E hr z=>?_;obtain⟨D,b,_,R,d,rfl,le,j,all,a,l,q⟩:=z;refine⟨_,qe (qo (qx (YJ rfl) (by rfl) T.sum boot_sum (jc (jP (N':=["place","labels"]) (ix:=[none,some 0]) (te:=J0 (JQ K) (Zy (jg 1) (jg 0)) (tC (.int 2))) (qB (jv 1)) (λ_ _ _ fp _=>
   ⟨qF 0,j2,qD qJ (qO (jv 1) (jv 0)) qh⟩))))),?_⟩
 refine⟨_,rfl,b,rfl,⟨_,.of a.at_⟩,λW b=>QI (out:=λz=>some (V.int (Ja R z:Nat))) b a.at_ (ql (t8 a.le (by decide))) (λx e Y b i g=>g Y (Same.refl Y)) (λx e v m Y b i g=>?_) (λo p i=>?_)⟩
 ·cases m;obtain⟨_,m,_,r⟩:=(j.mono b).at_;obtain⟨u,y,B⟩:=a.in_ x e;obtain⟨t,j,b⟩:=r u y;rw[B]at j b;obtain⟨n,r⟩:=l x e;unfold jV at b;rw[r]at b;exact⟨_,rfl,_,rfl,D,_,rfl,by rw[<-j];exact jZ.k (k:=(Sum.inr x:qZ)) m,t,_,2,_,rfl,rfl,.of b,rfl,g Y (Same.refl Y)⟩
 ·rw[xA]at i;have b:=UH (hs:=d) λz _=>u9 all le z;have b:=a.le;refine⟨W,d.map (Ja R),rfl,.of (by rw[zaz];exact i),?_,q o p⟩;show zd R d < 2^62;omega
open PySem L2 MLab Rb
open PyProof.Rows hiding K lo
def EM:Stmt->Expr
 | .Return (some e) _=>e
 | _=>.Constant .none 0 ⟨0,0,0,0⟩
def FU:Expr->Expr
 | .Call _ _ (k::_) _=>k.value
 | e=>e
def FS:Expr->Arguments
 | .Lambda a _ _ _=>a
 | _=>{posonlyargs:=[],args:=[],vararg:=none,kwonlyargs:=[],kw_defaults:=[],kwarg:=none,defaults:=[]}
def FR:Expr->Expr
 | .Lambda _ b _ _=>b
 | e=>e
def DH:Expr->Scope
 | .Lambda _ _ s _=>s
 | _=>{kind:=.function,names:=[],isGenerator:=false,isCoroutine:=false}
abbrev DE:Expr:=FU (EM ((jk Zf).getD 0 (.Pass ⟨0,0,0,0⟩)))
inductive KG(ws:List (Str×V))(vs:List V)(H:Hp)(Q:VK):Prop
 | mk (D h p:Addr) (rs:ju) (R:Rs Str) (hs:List Str) (m:Nat×Str):ws=[(zem "labels",.ref D),(zem "heap",.ref h)]->vs=[.ref p]->qu rs->(rs.length<=14)->ja H D rs R->QO rs R->js H h rs hs->H p=some (.tup (Yz m))->(m∈ZD rs R hs)->(∀H',Same H H'->Q (.int (zd R (lf hs m):Nat)) H')->KG ws vs H Q
def EW(a:List (Str×V)):Sp:=λb H Q _=>KG a b H Q
abbrev Bm(PT f:Addr)(b:zep):Sp:=λd H Q E=>∃a,yb H PT f WH (FS DE) (FR DE) (DH DE) b a/\EW a d H Q E
def Lj(PT f:Addr)(a:zep)(b:Sp):Prop:=(∃(pm d:Value) (e:Addr) (g:List (Str×Addr)),a=zdI "<lambda>" WH (FS DE) (FR DE) (DH DE) g pm (.ref e) d)/\b=Bm PT f a
def Ff:Yk ["move","labels","heap"] ["move"] ["labels","heap"] (DH DE):=⟨rfl,rfl,rfl,by decide+kernel,rfl,by decide+kernel,by decide+kernel,by decide+kernel,by decide+kernel⟩
def Dl{P:Program}{w:World}{K:zel}{mg:Str->Option Value}{base:Heap}{PT f b d:Addr}{a i j:zep}(G:QB mg)(T:Qv K mg)(e:qM K mg "count_by" zw ["labels","heap"] b i)(g:qM K mg "left_by" YQ ["heap","move"] d j):qp P w K mg base q5 2 f a ["move"] (Bm PT f a):=by
 refine AR Ff (λa b H Q E z=>?_) (λ_ _ A _ s H a b Q E hr z=>?_)
 ·obtain⟨D,h,i,j,R,a,m,rfl,rfl,_⟩:=z;exact⟨rfl,rfl⟩
 ·obtain⟨D,h,i,j,R,a,m,rfl,rfl,good,le,l,all,b,o,p,q⟩:=z;have d:=tP.mp p;refine⟨_,qE e (pin P w mg base (Rv e.fn T)) (qV (jv 1) (qE g (pin P w mg base (VX g.fn G)) (qV (jv 2) (jv 0)))),⟨_,rfl,_,rfl,_,rfl,h,i,a,m,rfl,b.at_,o,(Qr d.1).1,λg i=>?_⟩⟩;have e:=qi (o:=HO.lst ((a.set m.1 m.2).map V.str)) i;refine⟨D,g,j,R,lf a m,rfl,le,l.mono e,all,⟨qc,by unfold lf;rw[zbb];exact b.le,J7 good b.in_ d.1⟩,vv (of_decide_eq_true d.2),λa b=>q a (e.trans b)⟩
def AS{P:Program}{w:World}{K:zel}{mg:Str->Option Value}{base:Heap}{PT d e:Addr}{g i:zep}(G:QB mg)(T:Qv K mg)(j:qM K mg "count_by" zw ["labels","heap"] d g)(l:qM K mg "left_by" YQ ["heap","move"] e i):∀f a b,Lj PT f a b->qp P w K mg base q5 2 f a ["move"] b/\jy K a ["move"] []:=by
 rintro f a b ⟨⟨pm,_,_,_,rfl⟩,rfl⟩;exact⟨Dl G T j l,.all λ_ a=>by obtain⟨_,rfl⟩:=ug a;rfl⟩
def Mi:qk p3 p3 (qg Zf):=jM
def GZ{P:Program}{w:World}{K:zel}{mg:Str->Option Value}{base:Heap}{f c PT a g l o:Addr}{d j p r:zep}(F:jq K "winner_by" "winner_by" Zf f d)(C:d.code=.ref c)(J:Wx mg base c PT)(B:QL mg)(G:QB mg)(T:Qv K mg)(O:qM K mg "count_by" zw ["labels","heap"] l p)(y:qM K mg "left_by" YQ ["heap","move"] o r)
  (hW:qM K mg "winning_by" zq p3 g j) (GW:qp P w K mg base q5 11 g j p3 (yr a)):qp P w K mg base q5 12 f d p3 (yq a PT):=by
 have GM:=AS (P:=P) (w:=w) (base:=base) (PT:=PT) G T O y;refine F.okB C Mi (λa H Q E z=>?_) (λA _ s H a Q E hr z=>?_)
 ·obtain⟨l,D,p,j,R,a,rfl,_⟩:=z;rfl
 ·obtain⟨l,D,p,j,R,a,rfl,C,good,le,O,all,U,ne,⟨tq,hP⟩,q⟩:=z;refine⟨_,MQ (fr:=[(zem "labels",1),(zem "heap",2)]) (λo g=>?_) (λ_=>rfl) (qe (qo (Au rfl (by rfl) B.min (λf d r c=>⟨2,_,(GM f d r c).1,hr.mono (by decide),(GM f d r c).2⟩)
   (qE hW GW (ZV (jv 0) (jv 1) (jv 2))) (Aw (fr:=["labels","heap"]) J rfl rfl rfl (by decide+kernel))))),?_⟩
  ·simp only[tH,zah,or_false]at g;rcases g with rfl | rfl
   ·exact⟨rfl,rfl⟩
   ·exact⟨rfl,rfl⟩
  refine λ_ d J=>⟨_,rfl,_,rfl,_,rfl,l,D,p,j,R,a,rfl,C.mono d,good,le,O.mono d,all,U.mono d,λ_ L r l y C mv=>?_⟩;have y:=(J [(zem "labels",.ref D),(zem "heap",.ref p)] (λo g=>by
   simp only[tH,zah,or_false]at g;rcases g with rfl | rfl
   ·exact⟨1,tX,rfl⟩
   ·exact⟨2,tU _ tX,rfl⟩)).mono l
  refine⟨⟨tq,l _ _ (d _ _ hP)⟩,_,rfl,y,λg ab H2 y _ aa=>?_⟩;have J:=(d.trans l).trans y;obtain⟨pm,d,l,cl,_,ac,_⟩:=aa.ex;refine⟨L,g,r.map V.ref,ab,_,λi=>(((ZD j R a)[i]?.map λm=>((zd R (lf a m):Nat):Int)).getD 0),λY=>Same H2 Y,rfl,rfl,⟨⟨pm,d,l,cl,ac⟩,rfl⟩,Same.refl _,λY g=>.of (g _ _ (y _ _ C)),by rwa [tc,mv.1],λi x Y d g=>?_,λi x Y d hb g=>?_⟩
  ·rw[tu]at d;cases l:r[i]? with
   | none=>rw[l]at d;cases d
   | some o=>
    rw[l]at d;obtain rfl:=(tF.inj d).symm;have C:i < (ZD j R a).length:=by rw[<-mv.1];exact(td.mp l).1
    have em:=tj C;refine⟨_,aa.mono (λb _ u e=>g _ _ e),D,p,o,j,R,a,(ZD j R a)[i],rfl,rfl,good,le,O.mono (J.trans g),all,U.mono (J.trans g),(y.trans g) _ _ (mv.2 i o _ l em),zbo C,λ_ p=>⟨?_,g.trans p⟩⟩
    try dsimp only
    rw[em];rfl
  ·rw[tu]at d;cases l:r[i]? with
   | none=>rw[l]at d;cases d
   | some o=>
    rw[l]at d;obtain rfl:=(tF.inj d).symm;have C:i < (ZD j R a).length:=by rw[<-mv.1];exact(td.mp l).1
    have em:=tj C;refine q Y o _ (J.trans g) ((y.trans g) _ _ (mv.2 i o _ l em)) ⟨i,em,λd g l=>?_⟩;have o:d < (r.map V.ref).length:=by rw[tc,mv.1];exact(td.mp l).1
    have:=hb d o
    try dsimp only at this
    rw[em,l]at this;have this:((zd R (lf a (ZD j R a)[i]):Nat):Int)<=((zd R (lf a g):Nat):Int)/\(d < i->((zd R (lf a (ZD j R a)[i]):Nat):Int) < ((zd R (lf a g):Nat):Int)):=this;exact⟨by omega,λc=>by have:=this.2 c;omega⟩
open PySem L2 MLab Rb
open PyProof.Rows hiding K lo
abbrev zT:Stmt:=top 55
abbrev VD:Stmt:=top 56
def GH(a:Addr)(H:Hp)(g h:Addr)(rs:ju)(hs:List Str):Prop:=Qk a H g rs/\qu rs/\rs.length<=14/\js H h rs hs
def GH.mono(x:GH a H g h rs hs)(s:Same H H'):GH a H' g h rs hs:=⟨x.1.mono s,x.2.1,x.2.2.1,x.2.2.2.mono s⟩
def X1(good:qu rs)(all:QO rs R){hs:List Str}(a:∀z∈hs,∃r∈rs,r.1=z):∀z∈hs,Yw (wT rs R z):=λz b=>by
 obtain⟨r,d,e⟩:=a z b;exact A5 good (Wa (Qg good.nd) all) (tz.mpr ⟨r,d,e⟩)
def wL:Str:=zem "lost"
def wW:Str:=zem "won"
def wD:Str:=zem "drawn"
def VY:oW rs R hs=wL\/oW rs R hs=wW\/oW rs R hs=wD:=by
 unfold oW;cases QP (hs.map (wT rs R)) with
 | num n=>
  show (if n=0 then (zem "lost") else zem "won")=_\/(if n=0 then (zem "lost") else zem "won")=_\/_;split
  ·exact .inl rfl
  ·exact .inr (.inl rfl)
 | edl b=>
  show _\/(if b.testBit 0=true then (zem "won") else zem "drawn")=_\/(if b.testBit 0=true then (zem "won") else zem "drawn")=_;split
  ·exact .inr (.inl rfl)
  ·exact .inr (.inr rfl)
def uP:wL≠wW:=by decide+kernel
def yg:wL≠wD:=by decide+kernel
def uO:wW≠wD:=by decide+kernel
def VQ(rs:ju)(R:Rs Str)(n:Nat)(z:Str):Bool:=decide (qz R z=none/\n∉QW rs (qz R) z)
inductive W2(vs:List V)(H:Hp)(Q:VK):Prop
 | mk (t:Addr) (rs:ju) (R:Rs Str) (z:Str) (n:Nat):(vs=[.ref t,.int (n:Nat)])->H t=some (.tup (jV rs R z))->((∀x∈QW rs (qz R) z,x < 16))->(n < 16)->(∀H',Same H H'->Q (.bl (VQ rs R n z)) H')->W2 vs H Q
def KH:Sp:=λa H Q _=>W2 a H Q
def K3:qk ["label","number"] ["label","number"] (qg zT):=jM
def wS(F:jq K "is_open_to" "is_open_to" zT f a)(B:QL mg)(hN:qM K mg "numbers_in" zr ["bits"] b d):qp P w K mg base q5 2 f a ["label","number"] KH:=by
 refine F.okK K3 λH Q E hr h=>?_;obtain⟨t,a,R,z,n,rfl,b,g,i,q⟩:=h;refine⟨_,qe (qo (ZU (Qc qT (qD qJ (jv 0) qh) qv) (YH (Qc Jc (jv 1) (qE hN (pin P w mg base (zX hN.fn B)) (jc (qD qJ (jv 0) qh))) (by with_unfolding_all rfl))))),?_⟩;unfold VQ at q;cases c:qz R z with
 | some m=>
  have d:jV a R z=[.str "number",.int (m:Nat),.int (Ja R z:Nat)]:=by unfold jV;rw[c]
  rw[d]at b;rw[c,decide_eq_false (λh=>(nomatch h.1))]at q;exact⟨_,rfl,t,_,0,_,rfl,rfl,.of b,rfl,rfl,_,rfl,qI (by decide+kernel) (q H λ_ _ h=>h)⟩
 | none=>
  have d:jV a R z=[.str "endless",.int (Rb.setN (QW a (qz R) z):Nat)]:=by unfold jV;rw[c]
  rw[d]at b;refine⟨_,rfl,t,_,0,_,rfl,rfl,.of b,rfl,rfl,_,rfl,qK (by decide+kernel) ⟨_,rfl,_,rfl,t,_,1,_,rfl,rfl,.of b,rfl,_,rfl,Rb.setN_lt (m:=16) g,λb d=>⟨b,_,rfl,.inl (.of qc),rfl,ZW _,?_⟩⟩⟩;have:=q _ (qi (o:=HO.lst (Jw (Rb.memN (Rb.setN (QW a (qz R) z)) 16))) d);have e:(!zb (.int (n:Nat)) (Jw (Rb.memN (Rb.setN (QW a (qz R) z)) 16)))=decide (qz R z=none/\n∉QW a (qz R) z):=by
   rw[YI,c];by_cases h:n∈QW a (qz R) z
   ·rw[decide_eq_true (Rb.mem_memN.mpr ⟨i,by rw[Rb.testBit_setN];exact decide_eq_true h⟩),decide_eq_false (λw=>w.2 h)];rfl
   ·rw[decide_eq_false (λw=>h (by have:=(Rb.mem_memN.mp w).2;rw[Rb.testBit_setN]at this;exact of_decide_eq_true this)),decide_eq_true ⟨rfl,h⟩];rfl
  rwa [<-e]at this
def lst(rs:ju)(R:Rs Str)(z:Str):Nat:=Rb.lackN (QW rs (qz R) z)
def XW(rs:ju)(R:Rs Str)(z:Str):List (Nat×Str):=((QM rs z).filter (VQ rs R (lst rs R z))).map λy=>(lst rs R z,y)
inductive UT(CG:Addr)(vs:List V)(H:Hp)(Q:VK):Prop
 | mk (g D:Addr) (rs:ju) (R:Rs Str) (z:Str):vs=[.ref g,.ref D,.str z]->Qk CG H g rs->qu rs->(rs.length<=14)->ja H D rs R->(WB (QM rs) (·∈rs.map (·.1)) (qz R) (Ja R))->(z∈rs.map (·.1))->qz R z=none->(∀H' L ts,Same H H'->H L=none->H' L=some (.lst (ts.map V.ref))->jG H' ts (XW rs R z)->Q (.ref L) H')->UT CG vs H Q
def N5(a:Addr):Sp:=λb H Q _=>UT a b H Q
def ui(h:∀x,x∈ns↔x∈ms):Rb.lackN ns=Rb.lackN ms:=by
 have a:Rb.Lacks (Rb.lackN ns) ns:=Rb.lackI_lacks _;exact Rb.lackN_eq ⟨λm=>a.1 ((h _).mpr m),λx b=>(h x).mp (a.2 x b)⟩
def X4(g:qu rs)(L:WB (QM rs) (·∈rs.map (·.1)) (qz R) (Ja R))(a:z∈rs.map (·.1)):∀x∈QW rs (qz R) z,x<=8:=λx b=>by
 obtain⟨y,d,e⟩:=jz.mp b;exact zA g L (L.cl a d) e
def DD(g:qu rs)(L:WB (QM rs) (·∈rs.map (·.1)) (qz R) (Ja R))(b:z∈rs.map (·.1)):lst rs R z < 16:=by
 have a:Rb.Lacks (lst rs R z) (QW rs (qz R) z):=Rb.lackI_lacks _;rcases zbj (lst rs R z) 16 with c | c
 ·exact c
 ·have:=X4 g L b 9 (a.2 9 (by omega));omega
def Mo:qk ["ground","labels","name","least"] ["ground","labels","name"] (qg VD):=jM
def Ra(F:jq K "open_roads" "open_roads" VD f d)(B:QL mg)(G:QB mg)(T:Qv K mg)(M:GM K mg e)(i:qM K mg "lacking" QE ["numbers"] g l)(hN:qM K mg "numbers_in" zr ["bits"] o p)(j:qM K mg "is_open_to" zT ["label","number"] r C):qp P w K mg base q5 3 f d ["ground","labels","name"] (N5 e):=by
 obtain⟨_,_,e⟩:=M.cls;obtain⟨fR,_,l⟩:=M.fr;obtain⟨_,_,p⟩:=M.isn;refine F.okK Mo λH Q E hr h=>?_;obtain⟨o,D,d,R,z,rfl,r,good,_,Y,L,g,C,q⟩:=h;refine⟨_,qd (YV 3 (qE i (pin P w mg base (X0 i.fn)) (jc (qE hN (pin P w mg base (zX hN.fn B)) (jc (qD qJ (qO (jv 1) (jv 2)) qh))))))
  (qe (qo (jP (N':=["end","least","labels"]) (ix:=[none,some 3,some 1]) (qB (Vg l e.cl (pin P w mg base (ZN l.fn e B G T p)) hr (jv 0) (jc (jv 2)))) (λe l H2 fp _=>
   ⟨qF 0,jt (jA (qE j (pin P w mg base (wS j.fn B hN)) (qV (qO (jv 2) (jv 0)) (jv 1)))),qC (qV (jv 1) (jv 0))⟩)))),?_⟩
 have gl:∀{e:Hp} {y:Str},ja e D d R->y∈d.map (·.1)->∃t,jZ e D (.str y) (some (.ref t))/\e t=some (.tup (jV d R y)):=λ{e y} i O=>by
  obtain⟨_,a,_,c⟩:=i.at_;obtain⟨e,i,rfl⟩:=tz.mp O;obtain⟨t,u,v⟩:=c e i;exact⟨t,by rw[<-u];exact jZ.k (k:=(Sum.inr e.1:qZ)) a,v⟩
 obtain⟨t,gt,j⟩:=gl Y g;have p:jV d R z=[.str "endless",.int (Rb.setN (QW d (qz R) z):Nat)]:=by unfold jV;rw[C]
 rw[p]at j;have C:=X4 good L g;refine⟨_,rfl,_,rfl,D,_,rfl,gt,t,_,1,_,rfl,rfl,.of j,rfl,_,rfl,Rb.setN_lt (m:=16) λx p=>by have:=C x p;omega,λj U=>?_⟩;have J:Same H (upd H j (.lst (Jw (Rb.memN (Rb.setN (QW d (qz R) z)) 16)))):=qi U;have U:upd H j (.lst (Jw (Rb.memN (Rb.setN (QW d (qz R) z)) 16))) j=some (.lst (Jw (Rb.memN (Rb.setN (QW d (qz R) z)) 16))):=qc;generalize upd H j (.lst (Jw (Rb.memN (Rb.setN (QW d (qz R) z)) 16)))=H1 at J U;have lm:(Rb.memN (Rb.setN (QW d (qz R) z)) 16).length<=16:=by
  have h1:(Rb.memN (Rb.setN (QW d (qz R) z)) 16).length<=(t9 16).length:=zam _ _;rwa [zal]at h1
 have ac:Rb.lackN (Rb.memN (Rb.setN (QW d (qz R) z)) 16)=lst d R z:=ui λx=>by
  rw[Rb.mem_memN,Rb.testBit_setN,decide_eq_true_iff];exact⟨λh=>h.2,λh=>⟨by have:=C x h;omega,h⟩⟩
 refine⟨j,_,rfl,.of U,by omega,λH2 l=>?_⟩;rw[ac];have j:=J.trans l;obtain⟨l,fs,C,_,U⟩:=(r.mono j).ins;obtain⟨e,i,J⟩:=tz.mp g;refine⟨_,rfl,o,l,fs,rfl,C,U,_,rfl,o,d,e,by rw[J];rfl,r.mono j,i,good.nm e i,λl le o r=>?_⟩;have C:Same H (upd l le (.lst ((j5 d e).map V.str))):=j.trans (o.trans (qi r));have o:upd l le (.lst ((j5 d e).map V.str)) le=some (.lst ((j5 d e).map V.str)):=qc;generalize upd l le (.lst ((j5 d e).map V.str))=r at C o;have aa:QM d z=j5 d e:=by rw[<-J,Jf good.nd i]
 have i:=Yu (rs:=d) e;refine⟨le,rfl,⟨_,.of o⟩,λW U=>j7 (λl J i=>∃(v0:Option V) (j:List Addr),J=[v0,some (.int (lst d R z:Nat)),some (.ref D)]/\Same r i/\i W=some (.lst (j.map V.ref))/\jG i j ((((j5 d e).take l).filter (VQ d R (lst d R z))).map λy=>(lst d R z,y)))
  ⟨none,[],rfl,qi U,qc,jG.nil _⟩ (λl J i _ ⟨_,_,_,s,_⟩=>.of (s _ _ o)) ?_ ?_⟩
 ·rintro l x J i p ⟨v0,j,rfl,r,o,mv⟩;obtain⟨y,ey,O,rfl⟩:=jU p;have hj:=(td.mp ey).1;have ab:=L.cl g (aa▸O);obtain⟨ty,O,ae⟩:=gl (Y.mono (C.trans r)) ab;refine⟨_,rfl,_,rfl,D,_,rfl,O,_,rfl,ty,d,R,y,lst d R z,rfl,ae,λx p=>by have:=X4 good L ab x p;omega,DD good L g,λ_ g=>⟨_,rfl,?_⟩⟩;have p:((j5 d e).take (l+1)).filter (VQ d R (lst d R z))=((j5 d e).take l).filter (VQ d R (lst d R z))++[y].filter (VQ d R (lst d R z)):=by rw[tN,ey,zay];rfl
  rw[p];cases c:VQ d R (lst d R z) y with
  | false=>
   refine jo ⟨_,j,rfl,r.trans g,g _ _ o,?_⟩;have p:[y].filter (VQ d R (lst d R z))=[]:=by simp [c]
   rw[p,zaj];exact mv.mono g
  | true=>
   have O:=mv.1;rw[tc]at O;have lf:=zam (VQ d R (lst d R z)) ((j5 d e).take l);rw[tL]at lf;refine jX ⟨_,rfl,_,rfl,sz,λl e=>⟨_,qt (g _ _ o) e,by rw[tc];exact ql (by omega),_,j++[l],rfl,Same.upd (r.trans (g.trans (qi e))) U,tA▸qc,?_⟩⟩;have p:[y].filter (VQ d R (lst d R z))=[y]:=by simp [c]
   rw[p,tA];refine jG.app ⟨mv.1,λk l m a b=>?_⟩ (jG.one (by rw[qf (λq=>by rw[q,g _ _ o]at e;cases e)];exact qc));have d:=g _ _ (mv.2 k l m a b);rw[qf (λq=>by rw[q,g _ _ o]at d;cases d)];exact qt d e
 ·rintro J i ⟨v0,j,rfl,r,o,mv⟩;rw[tc,tv (tp _),<-aa]at mv;exact q i W j (C.trans r) (jb C U) o mv
open PySem L2 MLab Rb
open PyProof.Rows hiding K lo
abbrev XJ:Stmt:=top 92
abbrev YR:Stmt:=top 94
def xR:∀ns:List Nat,DVs K H (Jw ns) (ns.map λn=>PyData.int (n:Nat))
 | []=>.nil
 | n::ns=>.cons (.int _) (xR ns)
def xH:∀ns:List Nat,PyData.canLayAll0 (ns.map λn=>PyData.int (n:Nat))=true
 | []=>rfl
 | n::ns=>by
  rw[tV,PyData.canLayAll0,xH ns];rfl
def Vn:∀ns:List Nat,PyData.depthAll (ns.map λn=>PyData.int (n:Nat))<=1
 | []=>by decide
 | n::ns=>by
  rw[tV];have:=Vn ns;simp only[PyData.depthAll,PyData.depth];omega
def Mf(ns:List Nat):PySem.SeqAt.shaped (.list (ns.map λn=>PyData.int (n:Nat)))=true:=by
 unfold PySem.SeqAt.shaped;rw[zar];refine⟨xH ns,decide_eq_true ?_⟩;have:=Vn ns;simp only[PyData.depth];omega
def AM(ns:List Nat):PyData.eqv (.list (ns.map λn=>PyData.int (n:Nat))) (.list [])=decide (ns=[]):=by
 cases ns with
 | nil=>decide
 | cons n ns=>
  rw[tV,decide_eq_false (by simp)];simp [PyData.eqv,PyData.eqvAll]
inductive W0(vs:List V)(H:Hp)(Q:VK):Prop
 | mk (l h:Addr) (ps:List Addr) (rs:ju) (hs:List Str):vs=[.ref l,.ref h]->jJ H l ps rs->js H h rs hs->(∀H' lf qs,Same H H'->H lf=none->H' lf=some (.lst (qs.map V.ref))->jG H' qs (Qm rs hs hs.length)->Q (.ref lf) H')->W0 vs H Q
def zI:Sp:=λa H Q _=>W0 a H Q
inductive yK(vs:List V)(H:Hp)(Q:VK):Prop
 | mk (D h:Addr) (rs:ju) (R:Rs Str) (hs:List Str):vs=[.ref D,.ref h]->ja H D rs R->js H h rs hs->((∀z∈hs,Yw (wT rs R z)))->(∀H',Same H H'->Q (.str (oW rs R hs)) H')->yK vs H Q
def Ch:Sp:=λa H Q _=>yK a H Q
inductive yN(vs:List V)(H:Hp)(Q:VK):Prop
 | mk (h p:Addr) (hs:List Str) (m:Nat×Str):vs=[.ref h,.ref p]->H h=some (.lst (hs.map V.str))->(hs.length<=8)->H p=some (.tup (Yz m))->(m.1 < hs.length)->(∀H' l,Same H H'->H l=none->H' l=some (.lst ((lf hs m).map V.str))->Q (.ref l) H')->yN vs H Q
def Ci:Sp:=λa H Q _=>yN a H Q
def QQ(rs:ju)(R:Rs Str)(hs:List Str):List Nat:=Qx (hs.map (wT rs R))
def Mg(a:List Rb.W):(Qx a).length<=a.length:=by unfold Qx;exact zaO _ _
def j0(rs:ju)(R:Rs Str)(hs:List Str):Nat:=xorAll (Jm (hs.map (wT rs R)))
def MV{hs:List Str}(ok:∀z∈hs,Yw (wT rs R z)):oW rs R hs=(match QQ rs R hs with
  | []=>if j0 rs R hs=0 then wL else wW
  | [b]=>if b.testBit (j0 rs R hs)=true then wW else wD
  | _=>wD):=by
 unfold oW QP QQ j0;have lt:xorAll (Jm (hs.map (wT rs R))) < 16:=by
  have f:=VZ λu hu=>by
   obtain⟨z,d,rfl⟩:=tz.mp hu;exact ok z d
  have:∀(d:List Nat) (b:Nat),b < 16->(∀x∈d,x < 16)->d.foldl (·^^^ ·) b < 16:=by
   intro d;induction d with
   | nil=>intro b d _;exact d
   | cons a e g=>
    exact λb d h=>g _ (xor_lt (m:=4) d (h a tX)) λx d=>h x (tU _ d)
  exact this _ 0 (by decide) f
 cases Qx (hs.map (wT rs R)) with
 | nil=>rfl
 | cons b e=>
  cases e with
  | nil=>
   show (if (turnN b (xorAll (Jm (hs.map (wT rs R)))) 16).testBit 0=true then (zem "won") else zem "drawn")=_;rw[QC lt,zcE];rfl
  | cons c e=>
   show (if Nat.testBit 0 0=true then (zem "won") else zem "drawn")=wD;exact if_neg (by decide)
abbrev nLM:List Str:=["_law_rows_here","_law_heap_here","_law_roads","_law_moves_here","_law_token","_law_name"]
abbrev MS:List Str:=["_law_rows_here","_law_heap_here"]
def Ik:qk nLM MS (qg Zg):=jM
abbrev FJ:List Str:=["_law_place","_law_leads_here","_law_token","_law_roads","_law_name"]
def wO(F:jq K "_law_moves" "_law_moves" Zg f d)(T:Qv K mg)(j:mg "dict"=none):qp P w K mg base q5 1 f d MS zI:=by
 refine F.okK Ik λH Q E hr h=>?_;obtain⟨u,D,p,d,J,rfl,g,L,q⟩:=h;refine⟨_,qd (YV 2 (jF (Wt rfl) (by rfl) j boot_dict (jc (jv 0))))
  (qd (qy 3 (qW jB))
  (qd (qX (z7 (by rfl) T.enu (jc (jv 1))) (JV rfl (jh (qF 4) (jh (qF 5) QX)))
   (qe (q4 (ZT zat zcm zcn YA (jv 3) (jr
    (jP (ix:=[none,none,some 4,some 2,some 5]) (g:=AF K 2 (Wi (Qp 0) (Wi (Qp 1) AG))) (tt:=Zx (J0 (Er K false) (jg 0) (Zy (jg 3) (jg 4)))) (qB (jv 0)) (λ_ o U fp _=>
     ⟨JV rfl (jh (za (show FJ.Nodup by decide+kernel) rfl (Or.inl rfl)) (jh (za (show FJ.Nodup by decide+kernel) rfl (Or.inl rfl)) QX)),jt (qj J4 (jv 0) (qO (jv 3) (jv 4)) (by with_unfolding_all rfl)),qC (qV (jv 2) (jv 0))⟩)) jB)))))
  (qe (qo (jv 3))))),?_⟩
 obtain⟨j,l,Y⟩:=VM p d g.rows;have le:=g.le;refine⟨_,rfl,u,p,zC d j,rfl,.of g.at_,by rw[ZP l,g.rows.1],λi a _ x B=>?_,by rw[ZP l];omega,λp C=>?_⟩
 ·obtain⟨r,O,f1,f2,rfl⟩:=vA l B;exact .of (Y i a O r x f1 f2).1
 have nk:((zC d j).map (·.1)).Nodup:=by
  rw[J8 l];exact J6 g.good.nd λa _ b _ e=>Sum.inr.inj e
 rw[YB nk (λk _ m=>by simp at m),zcP];have x:Same H (upd H p (.dK (zC d j))):=qi C;have O:upd H p (.dK (zC d j)) p=some (.dK (zC d j)):=qc;generalize upd H p (.dK (zC d j))=B at x O;refine⟨sz,λlf C=>?_⟩;have ag:=jb x C;have o:Same H (upd B lf (.lst [])):=x.trans (qi C);have aa:=qt (o':=HO.lst []) O C;have O:upd B lf (.lst []) lf=some (.lst []):=qc;generalize upd B lf (.lst [])=U at o O aa;refine⟨_,rfl,D,rfl,⟨_,.of (o _ _ L.at_)⟩,Yb (λi U G=>∃v4 v5 ms,U=[some (.ref u),some (.ref D),some (.ref p),some (.ref lf),v4,v5]/\Same H G/\G p=some (.dK (zC d j))/\G lf=some (.lst (ms.map V.ref))/\jG G ms (Qm d J i))
  ⟨_,_,[],rfl,o,aa,O,jG.nil _⟩ (λi U G _ ⟨_,_,_,_,s,_⟩=>.of (s _ _ L.at_)) ?_ ?_⟩
 ·rintro i y U G o hy B ⟨v4,v5,ms,rfl,sG,ah,ab,mv⟩;obtain⟨z,j,x,rfl⟩:=jU hy;have hi:=(td.mp j).1;have aj:jS J i=z:=by
   have:=Z1 hi;rw[j]at this;exact(tF.inj this).symm
  obtain⟨j,ai,er⟩:=L.in_ z x;obtain⟨C,x⟩:=zaS ai;obtain⟨q0,D,ak⟩:=V4 l x;have l:=(td.mp x).1;have al:=(Y C _ q0 j (tj (g.rows.1▸l)) x D).2;refine⟨o,_,rfl,.of qc,rfl,_,_,rfl,_,_,rfl,rfl,?_⟩;have l:Same G (upd G o (.tup [.int (i:Nat),.str z])):=qi B;have D:=sG.trans l;have ac:=l _ _ ah;have ae:=l _ _ ab;have af:=mv.mono l;generalize upd G o (.tup [.int (i:Nat),.str z])=x at l D ac ae af;refine⟨_,rfl,.inl ⟨rfl,_,.of ae⟩,_,rfl,u,rfl,⟨_,.of (D _ _ g.at_)⟩,λW hW=>j7 (λB Y u=>∃v0 v1 o,Y=[v0,v1,some (.int (i:Nat)),some (.ref p),some (.str z)]/\Same x u/\u W=some (.lst (o.map V.ref))/\
    jG u o ((((d.map (·.1)).take B).filter λy=>zb (.str y) (j.2.map V.str)).map λy=>(i,y)))
   ⟨none,none,[],rfl,qi hW,qc,jG.nil _⟩ (λB Y u _ ⟨_,_,_,_,s,_⟩=>.of ((D.trans s) _ _ g.at_)) ?_ ?_⟩
  ·rintro B y Y u hy ⟨v0,v1,o,rfl,l,J,x⟩;obtain⟨C,_,r,rfl,am,_,ea,_⟩:=(g.rows.mono (D.trans l)).item hy;have en:(d.map (·.1))[B]?=some r.1:=by rw[tu,am];rfl
   have gd:=jZ.k (k:=(Sum.inr j.1:qZ)) (l _ _ ac);rw[yh nk ak]at gd;have an:(o.map V.ref).length < zeq:=by
    rw[tc,x.1,tc];have h1:=zam (λy=>zb (.str y) (j.2.map V.str)) ((d.map (·.1)).take B);rw[tL,tc]at h1;exact ql (by omega)
   refine⟨C,_,rfl,.of ea,rfl,_,_,rfl,_,_,rfl,rfl,⟨_,rfl,_,rfl,_,rfl,p,_,rfl,er▸gd,q0,_,rfl,.inr (.of ((D.trans l) _ _ al)),rfl,zc _,_,rfl,?_⟩⟩;have p:((d.map (·.1)).take (B+1)).filter (λy=>zb (.str y) (j.2.map V.str))=((d.map (·.1)).take B).filter (λy=>zb (.str y) (j.2.map V.str))++if zb (.str r.1) (j.2.map V.str)=true then [r.1] else []:=by
    rw[tN,en,zay];congr 1;cases c:zb (.str r.1) (j.2.map V.str)
    ·simp [c]
    ·simp [c]
   rw[p];show if zb (.str r.1) (j.2.map V.str)=true then _ else _
   cases ci:zb (.str r.1) (j.2.map V.str) with
   | false=>
    refine jo ⟨_,_,o,rfl,l,J,?_⟩;rwa [if_neg tK,zaj]
   | true=>
    refine jX ⟨_,rfl,_,rfl,sz,λt p=>⟨_,qt J p,an,_,_,o++[t],rfl,Same.upd (l.trans (qi p)) hW,by rw[qc,tA];rfl,?_⟩⟩;rw[if_pos rfl,tA];refine jG.app ⟨x.1,λk C m a b=>?_⟩ (jG.one (by rw[qf (λz=>by rw[z,J]at p;cases p)];exact qc));have z:=x.2 k C m a b;rw[qf (λe=>by rw[e,J]at z;cases z)];exact qt z p
  ·rintro Y u ⟨v0,v1,o,rfl,l,J,x⟩;rw[tv (by rw[tc,tc,g.rows.1];exact tp _)]at x;have p:=Jd g.good le L.in_ i (zab hi);have p:=L.le;have p:=l _ _ ae;refine⟨lf,W,_,_,rfl,rfl,p,J,?_,_,_,ms++o,rfl,Same.upd (D.trans l) ag,by rw[qf (Ne.symm (λe=>by rw[e,aa]at O;cases O))];exact l _ _ ac,by rw[qc,tA],?_⟩
   ·rw[tc,tc,mv.1,x.1,tc];have h1:=zam (λy=>zb (.str y) (j.2.map V.str)) (d.map (·.1));rw[tc]at h1;exact zab (ql (by omega))
   ·rw[zZ,aj,Es,<-er,Jf g.good.nd ai];have up:∀{k:Addr} {m:Nat×Str},u k=some (.tup (Yz m))->upd u lf (.lst (ms.map V.ref++o.map V.ref)) k=some (.tup (Yz m)):=λ{k m} e=>by
     rwa [qf (λz=>by rw[z,p]at e;cases e)]
    exact jG.app ⟨af.1,λk C m a b=>up (l _ _ (af.2 k C m a b))⟩ ⟨x.1,λk C m a b=>up (x.2 k C m a b)⟩
 ·rintro U G ⟨v4,v5,ms,rfl,sG,ah,ab,mv⟩;rw[tc]at mv;exact⟨_,rfl,q G lf ms sG ag ab mv⟩
abbrev nLO:List Str:=["_law_labels_here","_law_heap_here","_law_total_here","_law_sets","_law_name"]
def Ij:qk nLO ["_law_labels_here","_law_heap_here"] (qg XJ):=jM
def VW(F:jq K "_law_outcome" "_law_outcome" XJ f a)(B:QL mg):qp P w K mg base q5 1 f a ["_law_labels_here","_law_heap_here"] Ch:=by
 refine F.okK Ij λH Q E hr z=>?_;obtain⟨D,h,a,R,d,rfl,g,p,ok,q⟩:=z;refine⟨_,qd (qy 2 qh)
  (qd (qy 3 (qW jB))
  (qd (qX (qB (jv 1)) (qF 4)
   (qe (qA (qj qT (qD qJ (qO (jv 0) (jv 4)) qh) qv)
    (qe (qy 2 (qN XX (jv 2) (qD qJ (qO (jv 0) (jv 4)) qh))))
    (qe (q4 (ZT zat zaY zaZ QT (jv 3) (jc (qD qJ (qO (jv 0) (jv 4)) qh))))))))
  (qd (qA (qj (GX hr.units) (jv 3) (qW jB)) (qe (qo (qD jj (qW (qV qv qv)) (jF YK (by rfl) B.int boot_int (jc (Qc qT (jv 2) qh)))))) qr)
  (qd (qA (JW.pt (jN (qj qT (qx qL (by rfl) B.len boot_len (jc (jv 3))) qh) (jK (qj qT (qN VT (qN VR (qD jj (jv 3) qh) (jv 2)) qh) qh)))) (qe (qo qv)) qr)
  (qe (qo qv)))))),?_⟩
 refine⟨sz,λm C=>⟨_,rfl,h,rfl,⟨_,.of ((qi C) _ _ p.at_)⟩,je (K:=K) (a:=h) (xs:=d.map V.str) (λi r G=>∃v,r=[some (.ref D),some (.ref h),some (.int (j0 a R (d.take i):Nat)),some (.ref m),v]/\Same H G/\G m=some (.lst (Jw (QQ a R (d.take i))))) ⟨none,rfl,qi C,qc⟩ (λi r G _ ⟨_,_,s,_⟩=>.of (s _ _ p.at_)) ?_ ?_⟩⟩
 ·rintro i y r G l ⟨v,rfl,o,j⟩;obtain⟨z,J,u,rfl⟩:=jU l;obtain⟨_,x,_,L⟩:=(g.mono o).at_;obtain⟨O,T,U⟩:=p.in_ z u;obtain⟨t,l,g⟩:=L O T;rw[U]at l g;have u:jZ G D (.str z) (some (.ref t)):=by rw[<-l];exact jZ.k (k:=(Sum.inr z:qZ)) x
  have x:(d.take (i+1)).map (wT a R)=(d.take i).map (wT a R)++[wT a R z]:=by rw[tN,J,tA];rfl
  unfold jV at g;cases l:qz R z with
  | some n=>
   rw[l]at g;have J:j0 a R (d.take (i+1))=j0 a R (d.take i)^^^n:=by unfold j0;rw[x,J5,zp l,xorAll_snoc]
   have L:QQ a R (d.take (i+1))=QQ a R (d.take i):=by unfold QQ;rw[x,Yq,zp l,zaj]
   refine⟨_,rfl,_,rfl,D,_,rfl,u,t,_,0,_,rfl,rfl,.of g,rfl,rfl,_,rfl,qK (decide_eq_true rfl) ⟨_,rfl,_,rfl,_,rfl,D,_,rfl,u,t,_,1,_,rfl,rfl,.of g,rfl,_,_,rfl,rfl,some (.str z),?_,o,L▸j⟩⟩;rw[J,<-bx];rfl
  | none=>
   rw[l]at g;have J:j0 a R (d.take (i+1))=j0 a R (d.take i):=by unfold j0;rw[x,J5,Ze l,zaj]
   have L:QQ a R (d.take (i+1))=QQ a R (d.take i)++[setN (QW a (qz R) z)]:=by unfold QQ;rw[x,Yq,Ze l]
   have l:(Jw (QQ a R (d.take i))).length < zeq:=by
    rw[QY];have x:=Mg ((d.take i).map (wT a R));rw[tc,tL]at x;unfold QQ;have:=p.le;exact ql (by omega)
   refine⟨_,rfl,_,rfl,D,_,rfl,u,t,_,0,_,rfl,rfl,.of g,rfl,rfl,_,rfl,qI (by decide+kernel) ⟨_,rfl,.inl ⟨rfl,_,.of j⟩,_,rfl,_,rfl,D,_,rfl,u,t,_,1,_,rfl,rfl,.of g,rfl,m,_,_,rfl,rfl,j,l,some (.str z),?_,Same.upd o C,?_⟩⟩
   ·rw[J];rfl
   ·rw[qc,L,z8]
 ·rintro r G ⟨v,rfl,o,j⟩;rw[tc,tv (tp _)]at j ⊢;have g:=MV ok;refine⟨_,rfl,sz,λr l=>?_⟩;have p:=qi (o:=HO.lst []) l;refine⟨.list ((QQ a R d).map λn=>PyData.int (n:Nat)),.list [],.lst (.of (p _ _ j)) (xR _),.lst (.of qc) .nil,Mf _,by decide+kernel,_,rfl,?_⟩;have l:=o.trans p;have o:=p _ _ j;generalize upd G r (.lst [])=r at p l o;rw[AM];cases c:QQ a R d with
  | nil=>
   rw[c]at g;refine qK (decide_eq_true rfl) ⟨sz,λj f1=>⟨_,rfl,rfl,.inr ⟨_,rfl,j,_,_,.str (oW a R d),rfl,rfl,.of qc,?_,q _ (l.trans (qi f1))⟩⟩⟩;rw[g];by_cases j:j0 a R d=0
   ·rw[j];rfl
   ·have:decide (V.int ((j0 a R d:Nat):Int)=V.int 0)=false:=decide_eq_false λz=>j (by have:=V.int.inj z;omega);rw[this];show _=some (V.str (if j0 a R d=0 then wL else wW));rw[if_neg j];rfl
  | cons b j=>
   rw[c]at g o;refine qI (decide_eq_false (by simp)) ⟨_,rfl,m,_,rfl,.inl (.of o),rfl,_,rfl,?_⟩;cases j with
   | nil=>
    refine qK (decide_eq_true rfl) ⟨_,rfl,m,_,0,.int (b:Nat),rfl,rfl,.of o,QJ rfl,_,rfl,_,_,rfl,rfl,by omega,_,_,rfl,rfl,rfl,_,rfl,?_⟩;have e:decide (V.int (Builtin.bitAnd ((b:Int) / 2^ ((j0 a R d:Nat):Int).toNat) 1)=V.int 1)=b.testBit (j0 a R d):=by
     rw[Xb];cases b.testBit (j0 a R d)<;>decide
    rw[e];cases m:b.testBit (j0 a R d) with
    | true=>
     have q:=q _ l;rw[g]at q;have q:Q (.str (if b.testBit (j0 a R d)=true then wW else wD)) r:=q;rw[if_pos m]at q;exact jX q
    | false=>
     have q:=q _ l;rw[g]at q;have q:Q (.str (if b.testBit (j0 a R d)=true then wW else wD)) r:=q;rw[if_neg (m▸tK)]at q;exact jo q
   | cons a j=>
    have q:=q _ l;rw[g]at q;exact qI (decide_eq_false λz=>by have:=V.int.inj z;rw[QY]at this;simp at this;omega) q
abbrev BN:List Str:=["_law_heap_here","_law_move"]
def Ip:qk BN BN (qg YR):=jM
def Xh(F:jq K "_law_after" "_law_after" YR f a):qp P w K mg base q5 1 f a BN Ci:=by
 refine F.okK Ip λH Q E hr z=>?_;obtain⟨h,d,a,m,rfl,j,_,e,r,q⟩:=z;refine⟨_,qe (qo (qN Z7 (qN Z7 (Q4 Z4 (jv 0) JK (JJ (qD qJ (jv 1) qh))) (qW (jc (qD qJ (jv 1) qh)))) (Q4 Z4 (jv 0) (JJ (qN QR (qD qJ (jv 1) qh) qh)) JK))),⟨_,rfl,_,rfl,d,_,0,.int (m.1:Nat),rfl,rfl,.of e,rfl,_,rfl,h,_,rfl,.of j,λb f1=>?_⟩⟩;have g:Ye (a.map V.str) none (some ((m.1:Nat):Int))=(a.take m.1).map V.str:=by
  unfold Ye;rw[HT.sIx_none,HT.sIx_nat,tc,zcr (by omega),zde,zcW,zdQ]
 have u:Ye (a.map V.str) (some ((m.1:Nat)+1:Int)) none=(a.drop (m.1+1)).map V.str:=by
  unfold Ye;rw[HT.sIx_none,show ((m.1:Nat)+1:Int)=((m.1+1:Nat):Int) by omega,HT.sIx_nat,tc,zcr (by omega),List.map_drop,tv (by rw[zdp,tc];omega)]
 rw[g];have g:=qi (o:=HO.lst ((a.take m.1).map V.str)) f1;have l:upd H b (HO.lst ((a.take m.1).map V.str)) b=some (.lst ((a.take m.1).map V.str)):=qc;generalize upd H b (HO.lst ((a.take m.1).map V.str))=o at g l;refine⟨_,rfl,d,_,1,.str m.2,rfl,rfl,.of (g _ _ e),rfl,sz,λp2 f2=>?_⟩;have i:=qi (o:=HO.lst [V.str m.2]) f2;have p:upd o p2 (HO.lst [V.str m.2]) p2=some (.lst [V.str m.2]):=qc;generalize upd o p2 (HO.lst [V.str m.2])=o at i p;refine⟨b,p2,_,_,rfl,rfl,.of (i _ _ l),.of p,zab (ql (by rw[tc,tL];show _+1<=_;omega)),λp3 b=>?_⟩;have l:=qi (o:=HO.lst ((a.take m.1).map V.str++[V.str m.2])) b;have p:upd o p3 (HO.lst ((a.take m.1).map V.str++[V.str m.2])) p3=some (.lst ((a.take m.1).map V.str++[V.str m.2])):=qc;generalize upd o p3 (HO.lst ((a.take m.1).map V.str++[V.str m.2]))=o at l p;have b:=(g.trans i).trans l;refine⟨_,rfl,_,rfl,d,_,0,.int (m.1:Nat),rfl,rfl,.of (b _ _ e),rfl,_,_,rfl,rfl,_,rfl,h,_,rfl,.of (b _ _ j),λd g=>?_⟩
 try dsimp only
 rw[u];have e:=qi (o:=HO.lst ((a.drop (m.1+1)).map V.str)) g;have g:upd o d (HO.lst ((a.drop (m.1+1)).map V.str)) d=some (.lst ((a.drop (m.1+1)).map V.str)):=qc;generalize upd o d (HO.lst ((a.drop (m.1+1)).map V.str))=i at e g;refine⟨p3,d,_,_,rfl,rfl,.of (e _ _ p),.of g,zab (ql (by rw[tx,tc,tc,tL,zdp];show _+1+_<=_;omega)),λg d=>?_⟩;refine q _ g ((b.trans e).trans (qi d)) (jb (b.trans e) d) ?_;rw[qc];have:=kH r m.2;rw[show lf a (m.1,m.2)=lf a m from rfl]at this;rw[<-this,tA,tA];rfl
open PySem L2 MLab Rb
open PyProof.Rows hiding K lo
abbrev Z5:Stmt:=top 2
abbrev K8:Stmt:=top 73
abbrev vc:Stmt:=top 74
abbrev MC:Stmt:=top 75
abbrev wo:Stmt:=top 76
abbrev wl:Stmt:=top 78
abbrev QV:Stmt:=top 79
def jG.pts:∀{a:List Addr} {ms:List (Nat×Str)},jG H a ms->∃xs:List (Addr×(Nat×Str)),xs.map (·.1)=a/\xs.map (·.2)=ms/\∀x∈xs,H x.1=some (.tup (Yz x.2)):=by
 intro a;induction a with
 | nil=>
  intro ms h;cases ms with
  | nil=>exact⟨[],rfl,rfl,λ_ z=>by cases z⟩
  | cons a os=>cases h.1
 | cons t d b=>
  intro ms h;cases ms with
  | nil=>cases h.1
  | cons a os=>
   obtain⟨xs,d,e,f⟩:=b h.tail;refine⟨(t,a)::xs,by rw[tV,d],by rw[tV,e],λx b=>?_⟩;rcases tH.mp b with rfl | b
   ·exact h.2 0 t a rfl rfl
   ·exact f x b
def xp{rs:ju}{b:List Str}(h:∀z∈b,∃r∈rs,r.1=z):∀z∈b,z∈rs.map (·.1):=λz a=>let ⟨r,hr,e⟩:=h z a;tz.mpr ⟨r,hr,e⟩
def WA(R:Rs Str)(hs:List Str):List Str:=hs.filter λz=>(qz R z).isNone
def Ur(rs:ju)(R:Rs Str)(hs:List Str)(s:Nat)(m:Nat×Str):Bool:=decide (qz R (jS hs m.1)≠none/\qz R m.2≠none/\j0 rs R (lf hs m)=s)
def Z0(rs:ju)(R:Rs Str)(hs:List Str)(m:Nat×Str):Prop:=∃a,(WA R hs).head?=some a/\((1 < (WA R hs).length/\m.1=hs.idxOf a/\(WA R (QM rs a)).head?=some m.2)\/
 ((WA R hs).length<=1/\∃y,(XW rs R a).head?=some (lst rs R a,y)/\((j0 rs R hs=lst rs R a/\m=(hs.idxOf a,y))\/(j0 rs R hs≠lst rs R a/\((Qm rs hs hs.length).filter (Ur rs R hs (lst rs R a))).head?=some m))))
def Jh(rs:ju)(R:Rs Str)(hs:List Str):j0 rs R hs=j1 (nums (qz R) hs):=by
 unfold j0;rw[Yy,Jx]
def Vm(e:ends num h=1)(no:∀x∈h,num x=none->∀w∈G x,num w≠some (j1 (nums num h))):MLab.Drawn G num h:=by
 obtain⟨b,x,q,rfl,a⟩:=Q5.mp (show 0 < ends num h by omega);refine .inl ⟨b,x,q,rfl,a,?_,?_⟩
 ·rw[jp a]at e;omega
 ·have:=no x (by simp) a;rwa [Jl a]at this
def Xt(e:ends num h=0)(a:z∈h):num z≠none:=λn=>by
 obtain⟨b,q,d⟩:=zct a;have:=Q5.mpr ⟨b,z,q,d,n⟩;omega
def wE(e:ends num h=1)(d:MLab.Drawn G num h):∀x∈h,num x=none->∀w∈G x,num w≠some (j1 (nums num h)):=by
 rcases d with ⟨b,y,q,rfl,f,a,no⟩ | two
 ·intro x g b;rw[Jl f];have:x=y:=by
   rcases tQ.mp g with c | c
   ·exact absurd b (Xt a (zac _ c))
   ·rcases tH.mp c with c | c
    ·exact c
    ·exact absurd b (Xt a (tE _ c))
  rwa [this]
 ·omega
def X8{hs:List Str}(h:i < hs.length)(y:Str):∃p q,hs=p++jS hs i::q/\lf hs (i,y)=p++y::q/\p.length=i:=by
 have a:jS hs i=hs[i]:=by unfold jS;simp [h]
 refine⟨hs.take i,hs.drop (i+1),?_,?_,by rw[tL];omega⟩
 ·rw[a,zdy,zcH]
 ·rw[<-kH h y];simp
def Wq(good:qu rs)(all:QO rs R){hs:List Str}(f:∀z∈hs,∃r∈rs,r.1=z):oW rs R hs=wD↔MLab.Drawn (Qo rs) (qz R) hs:=by
 have L:=Wa (Qg good.nd) all;have b:=FT good L;have a:=xp f;rcases kz good L a with ⟨f,e⟩ | ⟨w,e⟩ | ⟨n,v,e⟩
 ·refine⟨λz=>absurd (e.symm.trans z) yg,λd=>?_⟩;have z:=(z1 b a).mp f;rcases d with ⟨g,x,q,rfl,f,_,_⟩ | two
  ·have:=z.1;rw[jp f]at this;omega
  ·have:=z.1;omega
 ·exact⟨λz=>absurd (e.symm.trans z) uO,λd=>absurd d ((Vy b a).mp w).1⟩
 ·refine⟨λ_=>Classical.byContradiction λf=>v ((Vy b a).mpr ⟨f,λz=>n ((z1 b a).mpr z)⟩),λ_=>e⟩
def Yc(R:Rs Str)(hs:List Str):(WA R hs).length=ends (qz R) hs:=rfl
def XV(h:(XW rs R z).head?=some (n,y)):n=lst rs R z/\y∈QM rs z/\qz R y=none/\lst rs R z∉QW rs (qz R) y:=by
 have a:=zaQ h;unfold XW at a;obtain⟨_,d,e⟩:=tz.mp a;obtain⟨f,b⟩:=tP.mp d;have g:=(Prod.mk.inj e).2;subst g;unfold VQ at b;have a:=of_decide_eq_true b;exact⟨((Prod.mk.inj e).1).symm,f,a.1,a.2⟩
def Ue(good:qu rs)(all:QO rs R)(f:∀z∈hs,∃r∈rs,r.1=z)(b:oW rs R hs=wD)(h:Z0 rs R hs m):m∈Qm rs hs hs.length/\oW rs R (lf hs m)=wD:=by
 have T:=xp f;have d:=(Wq good all f).mp b;obtain⟨b,H,j⟩:=h;have e:=zaQ H;unfold WA at e;obtain⟨J,g⟩:=tP.mp e;have L:qz R b=none:=by simpa using g
 have l:=zdo.mpr J;have u:jS hs (hs.idxOf b)=b:=by unfold jS;simp [l]
 have Q:∀{i:Nat} {y:Str},i < hs.length->y∈QM rs (jS hs i)->(i,y)∈Qm rs hs hs.length:=λ{i y} e g=>by
  unfold Qm;exact zcM.mpr ⟨i,zaC.mpr e,tz.mpr ⟨y,g,rfl⟩⟩
 have ft:∀{m},m∈Qm rs hs hs.length->MLab.Drawn (Qo rs) (qz R) (lf hs m)->m∈Qm rs hs hs.length/\oW rs R (lf hs m)=wD:=λe d=>⟨e,(Wq good all (J7 good f e)).mpr d⟩;have Y:∀w∈Qo rs b,qz R w≠some (lst rs R b):=λw o g=>by
  have a:Rb.Lacks (lst rs R b) (QW rs (qz R) b):=Rb.lackI_lacks _;exact a.1 (jz.mpr ⟨w,(qR good (T b J)).mp o,g⟩)
 rcases j with ⟨two,p,B⟩ | ⟨one,y,ey,⟨U,rfl⟩ | ⟨f,em⟩⟩
 ·have f:=zaQ B;unfold WA at f;obtain⟨O,j⟩:=tP.mp f;have C:qz R m.2=none:=by simpa using j
  have e:=Q (p▸l) (by rwa [p,u]);refine ft e (.inr ?_);obtain⟨D,q,f,j,_⟩:=X8 l m.2;rw[u]at f;have:lf hs m=D++m.2::q:=by rw[<-j,<-p]
  rw[this,jp C];rw[Yc,f,jp L]at two;omega
 ·obtain⟨_,O,C,yl⟩:=XV ey;have e:=Q l (u▸O);refine ft e ?_;obtain⟨D,q,f,j,_⟩:=X8 l y;rw[u]at f;rw[Yc,f,jp L]at one;have Q:ends (qz R) (lf hs (hs.idxOf b,y))=1:=by rw[j,jp C];omega
  refine Vm Q λx u l w o g=>?_;rw[Jh,f,Jl L]at U;rw[j,Jl C,U]at g;have C:x=y:=by
   rw[j]at u;have z:ends (qz R) (D++q)=0:=by omega
   rcases tQ.mp u with c | c
   ·exact absurd l (Xt z (zac _ c))
   ·rcases tH.mp c with c | c
    ·exact c
    ·exact absurd l (Xt z (tE _ c))
  subst C;exact yl (jz.mpr ⟨w,(qR good ((Wa (Qg good.nd) all).cl (T b J) O)).mp o,g⟩)
 ·have J:=zaQ em;obtain⟨e,C⟩:=tP.mp J;unfold Ur at C;obtain⟨J,L,O⟩:=of_decide_eq_true C;refine ft e ?_;obtain⟨D,q,f,j,_⟩:=X8 (Qr e).1 m.2;obtain⟨n1,p⟩:=zbE.mp J;obtain⟨n2,B⟩:=zbE.mp L;have C:=j;have e:ends (qz R) hs=1:=by
   have:0 < (WA R hs).length:=zaG (zaQ H);rw[Yc]at this one;omega
  have Q:ends (qz R) (lf hs m)=1:=by
   rw[f,jx p]at e;rwa [C,jx B]
  refine Vm Q λx u l w o g=>?_;rw[<-Jh,O]at g;have j:x=b:=by
   have p:x∈hs:=by
    rw[C]at u;rw[f];rcases tQ.mp u with c | c
    ·exact zac _ c
    ·rcases tH.mp c with c | c
     ·rw[c,B]at l;cases l
     ·exact tE _ (tU _ c)
   have b:x∈WA R hs:=tP.mpr ⟨p,by rw[l];rfl⟩;have f:=zaQ H;rw[<-Yc]at e;obtain⟨a,l⟩:=List.length_eq_one_iff.mp e;rw[l]at b f;rw[tM.mp b,tM.mp f]
  subst j;exact Y w o g
def Xo{α:Type}{l:List α}(h:0 < l.length):∃x,l.head?=some x:=by
 cases l with
 | nil=>cases h
 | cons x l=>exact⟨x,rfl⟩
def xD(good:qu rs)(all:QO rs R)(b:∀z∈hs,∃r∈rs,r.1=z)(f:oW rs R hs=wD):∃m,Z0 rs R hs m:=by
 have L:=Wa (Qg good.nd) all;have j:=xp b;have d:=(Wq good all b).mp f;have pos:0 < ends (qz R) hs:=by
  rcases d with ⟨f,x,q,e,u,_⟩ | two
  ·exact Q5.mpr ⟨f,x,q,e,u⟩
  ·omega
 obtain⟨b,l⟩:=Xo pos;have g:=zaQ l;unfold WA at g;obtain⟨o,i⟩:=tP.mp g;have B:qz R b=none:=by simpa using i
 by_cases two:1 < (WA R hs).length
 ·obtain⟨_,_,_,y,g,C,_⟩:=lack L (j b o) B;obtain⟨p,i⟩:=Xo (l:=WA R (QM rs b)) (zaG (tP.mpr ⟨g,by rw[C];rfl⟩));exact⟨(hs.idxOf b,p),b,l,.inl ⟨two,rfl,i⟩⟩
 ·have a:Rb.Lacks (lst rs R b) (QW rs (qz R) b):=Rb.lackI_lacks _;obtain⟨y,g,C,D⟩:=L.e (j b o) B (λH J=>jz.mp (a.2 H J)) λy g e=>a.1 (jz.mpr ⟨y,g,e⟩);have H:(lst rs R b,y)∈XW rs R b:=by
   unfold XW;refine tz.mpr ⟨y,tP.mpr ⟨g,?_⟩,rfl⟩;unfold VQ;exact decide_eq_true ⟨C,λh=>let ⟨z,g,e⟩:=jz.mp h;D z g e⟩
  obtain⟨⟨k,p⟩,i⟩:=Xo (zaG H);obtain⟨rfl,_⟩:=XV i;by_cases C:j0 rs R hs=lst rs R b
  ·exact⟨_,b,l,.inr ⟨by omega,p,i,.inl ⟨C,rfl⟩⟩⟩
  ·have D:ends (qz R) hs=1:=by
    rw[Yc]at two;omega
   have lt:lst rs R b < j1 (nums (qz R) hs):=by
    rw[<-Jh rs R hs];rcases zaB (lst rs R b) (j0 rs R hs) with c | c | c
    ·exact c
    ·exact absurd c.symm C
    ·obtain⟨w,H,g⟩:=jz.mp (a.2 _ c);rw[Jh]at g;exact absurd g ((wE D d b o B) w ((qR good (j b o)).mpr H))
   obtain⟨f,x,g,q,o,B,⟨n1,n2,D,H⟩,u,_⟩:=Y8 L j lt;have j:jS hs f.length=x:=by unfold jS;rw[o];simp
   have J:lf hs (f.length,g)=f++g::q:=by unfold lf;rw[o];simp
   have O:(f.length,g)∈(Qm rs hs hs.length).filter (Ur rs R hs (lst rs R b)):=by
    refine tP.mpr ⟨?_,?_⟩
    ·unfold Qm;exact zcM.mpr ⟨f.length,zaC.mpr (by rw[o];simp),tz.mpr ⟨g,j▸B,rfl⟩⟩
    ·unfold Ur;refine decide_eq_true ⟨?_,?_,?_⟩
     ·rw[j,D];exact λz=>nomatch z
     ·rw[H];exact λz=>nomatch z
     ·rw[Jh,J];exact u
   obtain⟨m,em⟩:=Xo (zaG O);exact⟨m,b,l,.inr ⟨by omega,p,i,.inr ⟨C,em⟩⟩⟩
inductive WU(K:zel)(vs:List V)(H:Hp)(Q:VK):Prop
 | mk (a:Addr) (ns:List Nat):vs=[.ref a]->(SqL K H a (Jw ns))->(Q (.int (Rb.xorAll ns:Nat)) H)->WU K vs H Q
def Kg(K:zel):Sp:=λa H Q _=>WU K a H Q
def KY:qk ["numbers","total","number"] ["numbers"] (qg Z5):=jM
def wG(F:jq K "summed" "summed" Z5 f l):qp P w K mg base q5 1 f l ["numbers"] (Kg K):=by
 refine F.okK KY λH Q E hr h=>?_;obtain⟨a,g,rfl,j,q⟩:=h;refine⟨_,qd (qy 1 qh)
  (qd (qX (qB (jv 0)) (qF 2) (qe (qy 1 (qN XX (jv 1) (jv 2)))))
  (qe (qo (jv 1)))),?_⟩
 refine⟨_,rfl,a,rfl,⟨_,j⟩,je (λi b d=>∃v,b=[some (.ref a),some (.int ((Rb.xorAll (g.take i):Nat):Int)),v]/\d=H) ⟨none,rfl,rfl⟩ (λi b d _ ⟨_,_,e⟩=>e▸j) ?_ ?_⟩
 ·rintro i x b d m ⟨v,rfl,rfl⟩;obtain⟨n,o,rfl⟩:=Xn m;have e:((Rb.xorAll (g.take (i+1)):Nat):Int)=Builtin.bitXor (Rb.xorAll (g.take i):Nat) (n:Nat):=by rw[bx,Z3 o,Rb.xorAll_snoc]
  refine⟨_,rfl,_,rfl,_,_,rfl,rfl,some (.int n),?_,rfl⟩;rw[e];rfl
 ·rintro b d ⟨v,rfl,rfl⟩;refine⟨_,rfl,?_⟩;rwa [QY,tv (tp _)]
inductive KJ(vs:List V)(H:Hp)(Q:VK):Prop
 | mk (D p:Addr) (rs:ju) (R:Rs Str) (hs:List Str):vs=[.ref D,.ref p]->ja H D rs R->H p=some (.lst (hs.map V.str))->((∀z∈hs,∃r∈rs,r.1=z))->(hs.length<=100)->(∀H' L,Same H H'->H L=none->H' L=some (.lst ((WA R hs).map V.str))->Q (.ref L) H')->KJ vs H Q
def EY:Sp:=λa H Q _=>KJ a H Q
inductive yF(vs:List V)(H:Hp)(Q:VK):Prop
 | mk (D h:Addr) (rs:ju) (R:Rs Str) (hs:List Str):vs=[.ref D,.ref h]->ja H D rs R->js H h rs hs->(∀H',Same H H'->Q (.int (j0 rs R hs:Nat)) H')->yF vs H Q
def Kv:Sp:=λa H Q _=>yF a H Q
inductive Kw(vs:List V)(H:Hp)(Q:VK):Prop
 | mk (D h p:Addr) (rs:ju) (R:Rs Str) (hs:List Str) (m:Nat×Str) (s:Nat):(vs=[.ref D,.ref h,.ref p,.int (s:Nat)])->qu rs->ja H D rs R->js H h rs hs->H p=some (.tup (Yz m))->(m∈Qm rs hs hs.length)->(∀H',Same H H'->Q (.bl (Ur rs R hs s m)) H')->Kw vs H Q
def Bl:Sp:=λa H Q _=>Kw a H Q
inductive KL(CG:Addr)(vs:List V)(H:Hp)(Q:VK):Prop
 | mk (g D h:Addr) (rs:ju) (R:Rs Str) (hs:List Str):vs=[.ref g,.ref D,.ref h]->GH CG H g h rs hs->ja H D rs R->QO rs R->oW rs R hs=wD->(∀H' p m,Same H H'->H' p=some (.tup (Yz m))->Z0 rs R hs m->Q (.ref p) H')->KL CG vs H Q
def KM(a:Addr):Sp:=λb H Q _=>KL a b H Q
def Yh{x:V}{xs:List V}:Vw (x::xs) 0=some x:=by
 obtain⟨v,a,b⟩:=atI_get (xs:=x::xs) (r:=0) (by omega) (by rw[zae];omega);rw[a];exact b.symm
def Xv{α:Type}{l:List α}{x:α}(h:l.head?=some x):∃a,l=x::a:=by
 cases l with
 | nil=>cases h
 | cons y a=>exact⟨a,by rw[tF.inj h]⟩
def zB(a:ja H D rs R)(b:∃r∈rs,r.1=z):∃t,jZ H D (.str z) (some (.ref t))/\H t=some (.tup (jV rs R z)):=by
 obtain⟨_,d,_,e⟩:=a.at_;obtain⟨r,f,g⟩:=b;obtain⟨t,a,b⟩:=e r f;rw[g]at a b;exact⟨t,by rw[<-a];exact jZ.k (k:=(Sum.inr z:qZ)) d,b⟩
def Fk:qk ["labels","places"] ["labels","places"] (qg K8):=jM
def Ru(F:jq K "endless_in" "endless_in" K8 f a):qp P w K mg base q5 1 f a ["labels","places"] EY:=by
 refine F.okK Fk λH Q E hr z=>?_;obtain⟨D,b,_,R,_,rfl,p,a,r,_,q⟩:=z;refine⟨_,qe (qo (jP (N':=["place","labels"]) (ix:=[none,some 0]) (tt:=Zx (J0 BK (J0 (JQ K) (Zy (jg 1) (jg 0)) (tC (.int 0))) (tC (.str (zem "endless"))))) (qB (jv 1)) (λ_ _ _ fp _=>
   ⟨qF 0,jt (qj qT (qD qJ (qO (jv 1) (jv 0)) qh) qv),jv 0⟩))),?_⟩
 refine⟨_,rfl,b,rfl,⟨_,.of a⟩,λW j=>QI (out:=λz=>if (qz R z).isNone=true then some (V.str z) else none) j a (ql (by omega)) (λz b X g a i=>?_) (λz b v d X g a i=>?_) (λu x l=>?_)⟩
 ·obtain⟨t,o,a⟩:=zB (p.mono g) (r z b);have g:=i X (Same.refl X);unfold jV at a;cases b:qz R z with
  | some m=>
   rw[b]at a g;refine⟨_,rfl,_,rfl,D,_,rfl,o,t,_,0,_,rfl,rfl,.of a,rfl,rfl,_,rfl,?_⟩;have e:decide (V.str (zem "number")=V.str (zem "endless"))=false:=by decide+kernel
   exact e▸g
  | none=>
   rw[b]at a g;exact⟨_,rfl,_,rfl,D,_,rfl,o,t,_,0,_,rfl,rfl,.of a,rfl,rfl,_,rfl,g⟩
 ·have a:v=.str z:=by
   cases b:qz R z with
   | some m=>rw[b]at d;cases d
   | none=>rw[b]at d;exact(tF.inj d).symm
  subst a;exact⟨_,rfl,i X (Same.refl X)⟩
 ·rw[Jk]at l;exact q u W x j l
def CA:qk ["labels","heap"] ["labels","heap"] (qg vc):=jM
def xn(F:jq K "numbers_sum" "numbers_sum" vc f b)(a:qM K mg "summed" Z5 ["numbers"] d g):qp P w K mg base q5 2 f b ["labels","heap"] Kv:=by
 refine F.okK CA λH Q E hr z=>?_;obtain⟨D,h,_,R,l,rfl,u,b,q⟩:=z;refine⟨_,qe (qo (qE a (pin P w mg base (wG a.fn)) (jc (jP (N':=["place","labels"]) (ix:=[none,some 0]) (tt:=Zx (J0 BK (J0 (JQ K) (Zy (jg 1) (jg 0)) (tC (.int 0))) (tC (.str (zem "number"))))) (te:=J0 (JQ K) (Zy (jg 1) (jg 0)) (tC (.int 1))) (qB (jv 1)) (λ_ _ _ fp _=>
   ⟨qF 0,jt (qj qT (qD qJ (qO (jv 1) (jv 0)) qh) qv),qD qJ (qO (jv 1) (jv 0)) qh⟩))))),?_⟩
 refine⟨_,rfl,h,rfl,⟨_,.of b.at_⟩,λW a=>QI (out:=λz=>(qz R z).map λn=>V.int (n:Nat)) a b.at_ (ql (t8 b.le (by decide))) (λz o X p a r=>?_) (λz o v g X p a r=>?_) (λy B x=>?_)⟩
 ·obtain⟨t,i,a⟩:=zB (u.mono p) (b.in_ z o);have j:=r X (Same.refl X);unfold jV at a;cases d:qz R z with
  | some m=>
   rw[d]at a j;exact⟨_,rfl,_,rfl,D,_,rfl,i,t,_,0,_,rfl,rfl,.of a,rfl,rfl,_,rfl,j⟩
  | none=>
   rw[d]at a j;refine⟨_,rfl,_,rfl,D,_,rfl,i,t,_,0,_,rfl,rfl,.of a,rfl,rfl,_,rfl,?_⟩;have e:decide (V.str (zem "endless")=V.str (zem "number"))=false:=by decide+kernel
   exact e▸j
 ·obtain⟨t,i,a⟩:=zB (u.mono p) (b.in_ z o);unfold jV at a;cases d:qz R z with
  | some m=>
   rw[d]at a g;obtain rfl:=(tF.inj g).symm;exact⟨_,rfl,_,rfl,D,_,rfl,i,t,_,1,_,rfl,rfl,.of a,rfl,r X (Same.refl X)⟩
  | none=>rw[d]at g;cases g
 ·have e:l.filterMap (λz=>(qz R z).map λn=>V.int (n:Nat))=Jw (nums (qz R) l):=by
   unfold Jw nums;rw[zdV]
  rw[e]at x;refine⟨W,nums (qz R) l,rfl,.of x,?_⟩;have:=q y B;rwa [Jh,<-Jx]at this
abbrev Ht:List Str:=["labels","heap","move","sought"]
def Fe:qk Ht Ht (qg MC):=jM
def Dj(F:jq K "makes_sum" "makes_sum" MC f a)(B:QL mg)(G:QB mg)(g:qM K mg "endless_in" K8 ["labels","places"] b d)(hN:qM K mg "numbers_sum" vc ["labels","heap"] j o)(i:qM K mg "left_by" YQ ["heap","move"] p r)(l:qM K mg "summed" Z5 ["numbers"] u x):qp P w K mg base q5 3 f a Ht Bl:=by
 refine F.okK Fe λH Q E hr z=>?_;obtain⟨D,h,o,b,R,a,m,j,rfl,good,y,d,p,r,q⟩:=z;refine⟨_,qd (qA (qj ZM (qx qL (by rfl) B.len boot_len (jc (qE g (pin P w mg base (Ru g.fn)) (qV (jv 0) (qW (qV (qD jj (jv 1) (qD qJ (jv 2) (qh))) (qD qJ (jv 2) (qh)))))))) (qh)) (qe (qo Qz)) qr)
  (qe (qo (Qc qT (qE hN (pin P w mg base (xn hN.fn l)) (qV (jv 0) (qE i (pin P w mg base (VX i.fn G)) (qV (jv 1) (jv 2))))) (jv 3)))),?_⟩
 have lt:=(Qr r).1;have l:Vw (a.map V.str) ((m.1:Nat):Int)=some (.str (jS a m.1)):=by
  obtain⟨v,u,g⟩:=atI_get (xs:=a.map V.str) (r:=((m.1:Nat):Int)) (by omega) (by rw[tc];omega);rw[u];rw[tu,zaL]at g;have:a[m.1]?=some (jS a m.1):=by unfold jS;rw[tj lt,zaq,tj lt];rfl
  rw[this]at g;exact g.symm
 refine⟨_,rfl,_,rfl,_,rfl,o,_,0,.int (m.1:Nat),rfl,rfl,.of p,rfl,h,_,((m.1:Nat):Int),_,rfl,rfl,.of d.at_,l,_,rfl,o,_,1,.str m.2,rfl,rfl,.of p,rfl,sz,λl C=>?_⟩;have x:=qi (o:=HO.lst [V.str (jS a m.1),.str m.2]) C;have C:upd H l (HO.lst [V.str (jS a m.1),.str m.2]) l=some (.lst [V.str (jS a m.1),.str m.2]):=qc;generalize upd H l (HO.lst [V.str (jS a m.1),.str m.2])=J at x C;refine⟨D,l,b,R,[jS a m.1,m.2],rfl,y.mono x,C,λz l=>?_,by show 2<=100;decide,λC L J _ i=>⟨L,_,rfl,.inl (.of i),_,_,rfl,rfl,_,rfl,?_⟩⟩
 ·rcases tH.mp l with e | e
  ·rw[e];exact(d.in_ _ (Q8 lt))
  ·rw[tM.mp e];exact(J7 good d.in_ r m.2 (by unfold lf;exact List.mem_set lt _))
 have i:=x.trans J;by_cases c:qz R (jS a m.1)≠none/\qz R m.2≠none
 ·have l:WA R [jS a m.1,m.2]=[]:=by
   unfold WA;obtain⟨n1,u⟩:=zbE.mp c.1;obtain⟨n2,g⟩:=zbE.mp c.2;simp [u,g]
  rw[l];refine qI (by decide) ⟨_,rfl,_,rfl,_,rfl,h,o,a,m,rfl,i _ _ d.at_,i _ _ p,lt,λo p=>?_⟩;have g:=qi (o:=HO.lst ((a.set m.1 m.2).map V.str)) p;refine⟨D,o,b,R,lf a m,rfl,(y.mono i).mono g,⟨qc,by unfold lf;rw[zbb];exact d.le,J7 good d.in_ r⟩,λo p=>⟨_,rfl,rfl,?_⟩⟩;have d:=q o ((i.trans g).trans p);have e:Ur b R a j m=decide (V.int (j0 b R (lf a m):Nat)=V.int (j:Nat)):=by
   unfold Ur;by_cases k:j0 b R (lf a m)=j
   ·rw[decide_eq_true ⟨c.1,c.2,k⟩,decide_eq_true (by rw[k])]
   ·rw[decide_eq_false (λz=>k z.2.2),decide_eq_false λz=>k (by have:=V.int.inj z;omega)]
  rwa [e]at d
 ·have l:0 < (WA R [jS a m.1,m.2]).length:=by
   rw[zcU];intro z;unfold WA at z;rw[zbN]at z;refine c ⟨λe=>z (jS a m.1) (by simp) (by rw[e];rfl),λe=>z m.2 (by simp) (by rw[e];rfl)⟩
  refine qK (decide_eq_true (by rw[tc];omega)) ?_;have d:=q C i;have e:Ur b R a j m=false:=by
   unfold Ur;exact decide_eq_false λz=>c ⟨z.1,z.2.1⟩
  rwa [e]at d
abbrev nDB:List Str:=["ground","labels","heap","endless","place","token","road"]
def Ix:qk nDB p3 (qg wo):=jM
structure Hi(K:zel)(mg:Str->Option Value):Prop where
 sm:∃f fd,qM K mg "summed" Z5 ["numbers"] f fd
 io:∃f fd,qM K mg "is_open_to" zT ["label","number"] f fd
 os:∃f fd,qM K mg "open_roads" VD ["ground","labels","name"] f fd
 ei:∃f fd,qM K mg "endless_in" K8 ["labels","places"] f fd
 ns:∃f fd,qM K mg "numbers_sum" vc ["labels","heap"] f fd
 ms:∃f fd,qM K mg "makes_sum" MC Ht f fd
def Dq{P:Program}{w:World}{K:zel}{mg:Str->Option Value}{base:Heap}{f b:Addr}{d:zep}(F:jq K "drawer_by" "drawer_by" wo f d)(h:WF K mg)(B:QL mg)(G:QB mg)(T:Qv K mg)(M:GM K mg b)(Y:El K mg)(O:NF K mg)(j:A1 K mg)(a:Hi K mg):qp P w K mg base q5 5 f d p3 (KM b):=by
 obtain⟨_,_,l⟩:=a.sm;obtain⟨_,_,x⟩:=a.io;obtain⟨_,_,m⟩:=a.os;obtain⟨_,_,b⟩:=a.ei;obtain⟨_,_,g⟩:=a.ns;obtain⟨_,_,o⟩:=a.ms;obtain⟨_,_,J⟩:=j.lb;obtain⟨_,_,u⟩:=j.mo;obtain⟨_,_,U⟩:=O.place;obtain⟨_,_,hH⟩:=O.heap;obtain⟨_,_,hk⟩:=Y.lack;obtain⟨_,_,j⟩:=M.cls;obtain⟨fR,_,p⟩:=M.fr;obtain⟨fn,_,hn⟩:=M.isn;have GE:=pin P w mg base (Ru b.fn);refine F.okK Ix λH Q E hr z=>?_;obtain⟨aa,D,r,a,R,d,rfl,gh,C,all,dr,q⟩:=z;have r2:ji 2 _:=hr.mono (by decide);refine⟨_,qd (qy 3 (qE b GE (qV (jv 1) (jv 2))))
  (qd (qy 4 (qD jj (jv 3) (qh)))
  (qd (qy 5 (ZT zat zds PySem.F.type_list_index RE (jv 2) (jc (jv 4))))
  (qd (qA (qj ZM (qx qL (by rfl) B.len boot_len (jc (jv 3))) (qh)) (qe (qo (qC (qV (jv 5) (qD jj (qE b GE (qV (jv 1) (Vg p j.cl (pin P w mg base (ZN p.fn j B G T hn)) r2 (jv 0) (jc (jv 4))))) (qh)))))) qr)
  (qd (YV 6 (qD jj (qE m (pin P w mg base (Ra m.fn B G T M hk h.hN x)) (ZV (jv 0) (jv 1) (jv 4))) (qh)))
  (qd (qA (qj qT (qE g (pin P w mg base (xn g.fn l)) (qV (jv 1) (jv 2))) (qD qJ (jv 6) (qh))) (qe (qo (qC (qV (jv 5) (qD qJ (jv 6) (qh)))))) qr)
  (qe (qo (qD jj (jP (N':=["move","heap","labels","road"]) (ix:=[none,some 2,some 1,some 6]) (tt:=tB (Xz Bl [] E0 (jd (jg 2) (jd (jg 1) (jd (jg 0) (jd (J0 (JQ K) (jg 3) (tC (.int 0))) Q1)))))) (qB (qE u (pin P w mg base (XZ u.fn B G T M U O.most hH)) (qV (jv 0) (jv 2)))) (λj s2 H2 fp _=>
   ⟨qF 0,jt (jA (qE o (pin P w mg base (Dj o.fn B G b g J l)) (BS (jv 2) (jv 1) (jv 0) (qD qJ (jv 3) (qh))))),jv 0⟩)) (qh))))))))),?_⟩
 obtain⟨gr,good,le,g⟩:=gh;have L:=Wa (Qg good.nd) all;have nm:=xp g.in_;obtain⟨m0,b,J,x⟩:=xD good all g.in_ dr;obtain⟨_,U⟩:=Xv J;have j:=zaQ J;unfold WA at j;obtain⟨l,al⟩:=tP.mp j;have j:=zdo.mpr l;have ej:d[d.idxOf b]?=some b:=by rw[tj j,zdW j]
 have am:∀i,i < d.idxOf b->d[i]?≠some b:=λi j e=>by
  rw[tj (by omega)]at e;have:=List.not_of_lt_findIdx j;rw[tF.inj e]at this;simp at this
 have j:=g.le;refine⟨_,rfl,_,rfl,D,r,a,R,d,rfl,C,g.at_,g.in_,by omega,λ_ j m _ o=>?_⟩;have u:=o;rw[U]at u;refine⟨_,rfl,j,_,0,.str b,rfl,rfl,.of u,Yh,?_⟩;have u:=g.mono m;refine⟨_,rfl,.inl ⟨rfl,_,.of u.at_⟩,_,rfl,r,d,b,d.idxOf b,rfl,rfl,.of u.at_,ej,am,⟨_,rfl,j,_,rfl,.inl (.of o),_,_,rfl,rfl,_,rfl,?_⟩⟩;rcases x with ⟨two,_,u⟩ | ⟨one,y,u,cc⟩
 ·refine qK (decide_eq_true (by rw[tc];omega)) ?_;obtain⟨j,x,er⟩:=tz.mp (nm b l);obtain⟨o,fs,U,_,e2⟩:=(gr.mono m).ins;refine⟨_,rfl,_,rfl,_,rfl,aa,o,fs,rfl,U,e2,_,rfl,aa,a,j,by rw[er];rfl,gr.mono m,x,good.nm j x,λH3 o s3 hl=>?_⟩;have U:=qi (o:=HO.lst ((j5 a j).map V.str)) hl;have y4:upd H3 o (HO.lst ((j5 a j).map V.str)) o=some (.lst ((j5 a j).map V.str)):=qc;generalize upd H3 o (HO.lst ((j5 a j).map V.str))=H4 at U y4;have an:j5 a j=QM a b:=by rw[<-er,Jf good.nd x]
  rw[an]at y4;have x:=m.trans (s3.trans U);obtain⟨_,ao⟩:=Xv u;refine⟨D,o,a,R,QM a b,rfl,C.mono x,y4,λz o=>?_,?_,λ_ L2 s5 _ ah=>?_⟩
  ·obtain⟨r2,ap,aq⟩:=tz.mp (L.cl (nm b l) o);exact⟨r2,ap,aq⟩
  ·have:=Xq (rs:=a) b;omega
  ·rw[ao]at ah;exact⟨L2,_,0,.str m0.2,rfl,rfl,.of ah,Yh,sz,λac fp=>q _ ac (d.idxOf b,m0.2) ((x.trans s5).trans (qi fp)) qc ⟨b,J,.inl ⟨two,rfl,u⟩⟩⟩
 ·refine qI (decide_eq_false (by rw[tc];omega)) ?_;refine⟨_,rfl,_,rfl,_,rfl,aa,D,a,R,b,rfl,gr.mono m,good,le,C.mono m,L,nm b l,by simpa using al,λH2 Lo ts s2 _ ar ai=>?_⟩;obtain⟨_,aj⟩:=Xv u;obtain⟨l,ab,as⟩:∃l ab,ts=l::ab:=by
   cases ts with
   | nil=>have:=ai.1;rw[aj]at this;cases this
   | cons l ab=>exact⟨l,ab,rfl⟩
  subst as;have ae:=m.trans s2;refine⟨Lo,_,0,.ref l,rfl,rfl,.of ar,Yh,⟨_,rfl,_,rfl,D,r,a,R,d,rfl,C.mono ae,g.mono ae,λH3 s3=>?_⟩⟩;have m:=ae.trans s3;have af:=s3 _ _ (ai.2 0 l _ rfl (by rw[aj];rfl));refine⟨_,rfl,l,_,0,_,rfl,rfl,.of af,rfl,rfl,_,rfl,?_⟩;rcases cc with ⟨et,_⟩ | ⟨nt,em⟩
  ·exact qK (decide_eq_true (by rw[et])) ⟨_,rfl,_,rfl,l,_,1,_,rfl,rfl,.of af,rfl,sz,λac fp=>q _ ac (d.idxOf b,y) (m.trans (qi fp)) qc ⟨b,J,.inr ⟨one,y,u,.inl ⟨et,rfl⟩⟩⟩⟩
  ·refine qI (decide_eq_false λz=>nt (by have:=V.int.inj z;omega)) ?_;refine⟨_,rfl,_,rfl,aa,r,a,d,rfl,gr.mono m,good,le,g.mono m,λH4 Lm _ U _ ak au=>⟨Lm,rfl,⟨_,.of ak⟩,λW hW=>?_⟩⟩;have x:=m.trans U;obtain⟨m,x1,x2,hx⟩:=au.pts;have ay:(Qm a d d.length).length<=112:=by
    have:=Jd good le g.in_ d.length (tp _);omega
   have az:m.length<=112:=by
    have:=congrArg zas x2;rw[tc]at this;omega
   have av:∀z∈m,z.2∈Qm a d d.length:=λz o=>by rw[<-x2];exact tz.mpr ⟨z,o,rfl⟩
   have aw:H4 Lm=some (.lst (m.map λz=>V.ref z.1)):=by
    rwa [<-x1,zaz]at ak
   refine QI (a:=Lm) (xs:=m) (enc:=λz=>V.ref z.1) (out:=λz=>if Ur a R d (lst a R b) z.2=true then some (V.ref z.1) else none) (rest:=[some (.ref r),some (.ref D),some (.ref l)]) hW aw (ql (by omega)) (λz o Y sY Rr p=>?_) (λz o v ev Y sY Rr p=>?_) (λH8 s8 ag=>?_)
   ·refine⟨_,rfl,_,rfl,_,rfl,_,rfl,l,_,0,_,rfl,rfl,.of (sY _ _ (U _ _ af)),rfl,D,r,z.1,a,R,d,z.2,lst a R b,rfl,good,C.mono (x.trans sY),g.mono (x.trans sY),sY _ _ (hx z o),av z o,λg l=>⟨_,rfl,?_⟩⟩;have j:=p g l;cases c:Ur a R d (lst a R b) z.2<;>rw[c]at j<;>exact j
   ·have g:v=.ref z.1:=by
     cases c:Ur a R d (lst a R b) z.2
     ·rw[c]at ev;cases ev
     ·rw[c]at ev;exact(tF.inj ev).symm
    subst g;exact⟨_,rfl,p Y (Same.refl Y)⟩
   ·rw[Jk]at ag;have j:(m.filter λz=>Ur a R d (lst a R b) z.2).map (·.2)=(Qm a d d.length).filter (Ur a R d (lst a R b)):=by
     rw[<-x2,zbx];rfl
    obtain⟨_,g⟩:=Xv em;rw[g]at j;obtain⟨g,l,o⟩:∃g l,(m.filter λz=>Ur a R d (lst a R b) z.2)=g::l:=by
     cases c:(m.filter λz=>Ur a R d (lst a R b) z.2) with
     | nil=>rw[c]at j;cases j
     | cons g l=>exact⟨g,l,rfl⟩
    rw[o]at j ag;exact⟨W,_,0,.ref g.1,rfl,rfl,.of ag,Yh,q H8 g.1 m0 (x.trans s8) (by rw[<-((List.cons.inj j).1)];exact s8 _ _ (hx g ((tP.mp (by rw[o];exact tX)).1))) ⟨b,J,.inr ⟨one,y,u,.inr ⟨nt,em⟩⟩⟩⟩
open PySem L2 MLab Rb
open PyProof.Rows hiding K lo
end Rh
namespace L2
def qp.or(a:qp P w K mg base d k f e ps g)(b:qp P w K mg base d k f e ps i):qp P w K mg base d k f e ps (λvs H Q E=>g vs H Q E\/i vs H Q E):=
 ⟨λvs H Q E h=>h.elim (a.len vs H Q E) (b.len vs H Q E),λA d s H args e vs Q E hr g i j l=>l.elim (a.run A d s H args e vs Q E hr g i j) (b.run A d s H args e vs Q E hr g i j)⟩
def qp.up(a:qp P w K mg base b k f d ps e)(h:k<=j):qp P w K mg base b j f d ps e:=
 ⟨a.len,λA b s H args d e Q E hr g i l m=>a.run A b s H args d e Q E (hr.mono h) g i l m⟩
end L2
namespace Rh
open PySem L2 MLab Rb
open PyProof.Rows hiding K lo
abbrev XE:Stmt:=top 61
abbrev kq:Stmt:=top 62
abbrev W7:Stmt:=top 72
abbrev Zh:Stmt:=top 77
abbrev zt:Stmt:=j3 (top 14) 0
structure k9(K:zel)(mg:Str->Option Value)(D:Addr)(x qual:Str)(st:Stmt)(fG:Str)(C f:Addr)(fd:zep):Prop where
 cls:Y7 K C (.ref D::JD)
 mkr:Hj K C f (.ref D::JD)
 ns:mg x=some (.ref C)
 na:Ql K C fG
 fn:jq K "__init__" qual st f fd
 bi:jy K fd ["self",fG] []
def MT(D:Addr):ky (.ref D::JD):=rfl
def uf(D:Addr):(Value.ref D::JD).contains (.type "BaseException")=true:=rfl
def k9.rcls{K:zel}{mg:Str->Option Value}{D C f:Addr}{x qual fG:Str}{st:Stmt}{a:zep}(h:k9 K mg D x qual st fG C f a):AY K C:=⟨f,_,h.mkr,uf D⟩
inductive EX(C:Addr)(fG:Str)(vs:List V)(H:Hp)(Q:VK):Prop
 | mk (e:_) (y:_):vs=[.ref e,y]->H e=some (Y4 e C)->(∀dx,H dx=none->Q .non (upd (upd H e (Zt e C dx)) dx (.xd [(fG,y)])))->EX C fG vs H Q
def Hs(C:Addr)(fG:Str):Sp:=λa H Q _=>EX C fG a H Q
def Qs{H:Hp}(g:H e=none)(d:upd H e (Y4 e C) a=none):
  Same H (upd (upd (upd H e (Y4 e C)) e (Zt e C a)) a (.xd fs))/\upd (upd (upd H e (Y4 e C)) e (Zt e C a)) a (.xd fs) e=some (Zt e C a)/\upd (upd (upd H e (Y4 e C)) e (Zt e C a)) a (.xd fs) a=some (.xd fs):=by
 refine⟨λb _ a=>?_,?_,qc⟩
 ·have f:=qm a g;rw[qf (λz=>by rw[<-z,qf f,a]at d;cases d),qf f,qf f];exact a
 ·rw[qf (λz=>by rw[<-z,qc]at d;cases d)];exact qc
def Qa(H H':Hp):Prop:=∀b a,H b=some a->(∀d,a≠.ext d)->H' b=some a
def _root_.L2.Same.keep(s:Same H H'):Qa H H':=λb a h _=>s b a h
def Qa.trans(a:Qa H H')(b:Qa H' d):Qa H d:=λc d h n=>b c d (a c d h n) n
def Qa.refl(H:Hp):Qa H H:=λ_ _ h _=>h
def _root_.L2.SqT.keep(h:SqT K H p xs)(s:Qa H H'):SqT K H' p xs:=by
 rcases h with (h | ⟨a,h⟩) | h
 ·exact .inl (.inl (s _ _ h (λ_ z=>nomatch z)))
 ·exact .inl (.inr ⟨a,s _ _ h (λ_ z=>nomatch z)⟩)
 ·exact .inr h
def _root_.L2.SqL.keep(h:SqL K H p xs)(s:Qa H H'):SqL K H' p xs:=by
 rcases h with (h | ⟨a,h⟩) | h
 ·exact .inl (.inl (s _ _ h (λ_ z=>nomatch z)))
 ·exact .inl (.inr ⟨a,s _ _ h (λ_ z=>nomatch z)⟩)
 ·exact .inr h
def Qk.keep(h:Qk d H a rs)(s:Qa H H'):Qk d H' a rs:=by
 obtain⟨d,lo,e,f,g,i,j,l⟩:=h;exact⟨d,lo,e,f,s _ _ g (λ_ z=>nomatch z),s _ _ i (λ_ z=>nomatch z),s _ _ j (λ_ z=>nomatch z),λd hr=>let ⟨q,a,b⟩:=l d hr;⟨q,a,s _ _ b (λ_ z=>nomatch z)⟩⟩
def jR.keep(h:jR H ps rs)(s:Qa H H'):jR H' ps rs:=⟨h.1,λi d e f g=>let ⟨q,a,b⟩:=h.2 i d e f g;⟨q,s _ _ a (λ_ z=>nomatch z),s _ _ b (λ_ z=>nomatch z)⟩⟩
def TyOf.keep(h:TyOf K H v t)(s:Qa H H'):TyOf K H' v t:=by
 cases h with
 | non=>exact .non
 | bl x=>exact .bl x
 | int i=>exact .int i
 | str x=>exact .str x
 | flt x=>exact .flt x
 | lst e=>exact .lst (s _ _ e (λ_ z=>nomatch z))
 | frz e=>exact .frz (s _ _ e (λ_ z=>nomatch z))
 | tup e=>exact .tup (s _ _ e (λ_ z=>nomatch z))
 | dK e=>exact .dK (s _ _ e (λ_ z=>nomatch z))
 | dT e=>exact .dT (s _ _ e (λ_ z=>nomatch z))
 | ins e a b c d f=>exact .ins (s _ _ e (λ_ z=>nomatch z)) a b c d f
mutual
def Xu{K:zel}{H H':Hp}(s:Qa H H'):∀{x:V} {d:PyData},DV K H x d->DV K H' x d
 | _,_,.non=>.non
 | _,_,.bl b=>.bl b
 | _,_,.int i=>.int i
 | _,_,.str x=>.str x
 | _,_,.lst h a=>.lst (h.keep s) (dvs_keep s a)
 | _,_,.tup h a=>.tup (h.keep s) (dvs_keep s a)
def dvs_keep{K:zel}{H H':Hp}(s:Qa H H'):∀{x:List V} {d:List PyData},DVs K H x d->DVs K H' x d
 | _,_,.nil=>.nil
 | _,_,.cons h a=>.cons (Xu s h) (dvs_keep s a)
end
def FZ{X:Cx}{x:Str}{st:Stmt}{ps:List Str}{f:Addr}{b:zep}{k:Nat}{d:Sp}{E:L2.St->XK}{e:Expr}{a:List Expr}{t:TA}{p pos:Pos}(h:qM X.K X.mg x st ps f b)(G:qp X.prog X.w X.K X.mg X.base (Qb X.prog X.w) k f b ps d)(g:Zw (Qb X.prog X.w) X E)(i:Gl X x)(j:JA X (e::a) t)(l:(x==("__debug__":Str))=false:=by decide)(m:starEach (e::a) X.env=(false,eval e X.env)::starEach a X.env:=by rfl)(o:(backTo pos (starEach a X.env)).any (·.1)=false:=by rfl)(hr:ji k X.A:=by first | assumption | exact ji.mono hr (by decide)):
 JE X (.Call (.Name x p) (e::a) [] pos) (u7 d [] E t):=.of (GG G hr i h.ns h.fn.kp h.bi .nil g j.to l m o)
def j6{X:Cx}{x:Str}{st:Stmt}{ps:List Str}{f:Addr}{b:zep}{k:Nat}{d:Sp}{E:XK}{e:Expr}{a:List Expr}{t:TA}{p pos:Pos}(h:qM X.K X.mg x st ps f b)(G:qp X.prog X.w X.K X.mg X.base (Qb X.prog X.w) k f b ps d)(g:jY (Qb X.prog X.w) X E)(i:JA X (e::a) t)(j:(x==("__debug__":Str))=false:=by decide)(l:starEach (e::a) X.env=(false,eval e X.env)::starEach a X.env:=by rfl)(m:(backTo pos (starEach a X.env)).any (·.1)=false:=by rfl)(o:Gl X x:=by rfl)(hr:ji k X.A:=by first | assumption | exact ji.mono hr (by decide)):
 JE X (.Call (.Name x p) (e::a) [] pos) (Xz d [] E t):=.of (xj G hr o h.ns h.fn.kp h.bi .nil g i.to j l m)
def B8(d:Addr)(z:Str)(H:Hp)(E:XK):Prop:=∀a b,Same H a->a b=some (.xd [(zem "found",.str z)])->E (.ref d) (some b) a
def B8.same(h:B8 a z H E)(s:Same H H'):B8 a z H' E:=λa b d e=>h a b (s.trans d) e
inductive UV(CS:Addr)(vs:List V)(H:Hp)(Q:VK)(E:XK):Prop
 | mk (D h:Addr) (rs:ju) (R:Rs Str) (hs:List Str) (wd:Str):vs=[.ref D,.ref h,.str wd]->ja H D rs R->js H h rs hs->((∀z∈hs,Yw (wT rs R z)))->((oW rs R hs=wd->∀H',Same H H'->Q .non H'))->((oW rs R hs≠wd->B8 CS (oW rs R hs) H E))->UV CS vs H Q E
def yE(a:Addr):Sp:=λb H Q E=>UV a b H Q E
def Mq:qk ["self","found"] ["self","found"] (qg zt):=jM
def xo(x:k9 K mg D "NotSo" "NotSo.__init__" zt "found" C f a):qp P w K mg base q5 1 f a ["self","found"] (Hs C "found"):=by
 refine x.fn.okJ Mq (λa H Q E h=>?_) (λ_ A _ s H a Q E hr h=>?_)
 ·obtain⟨e,y,rfl,_⟩:=h;rfl
 ·obtain⟨e,y,rfl,a,k⟩:=h;exact⟨_,qe (V7 (jv 0) (jv 1) rfl),_,rfl,_,rfl,e,C,rfl,a,x.cls,MT D,x.na,λa b=>k a b⟩
abbrev nNO:List Str:=["labels","heap","wanted","found"]
def Ib:qk nNO ["labels","heap","wanted"] (qg XE):=jM
def Rf(F:jq K "need_outcome_by" "need_outcome_by" XE f a)(j:qM K mg "outcome_by" wn ["labels","heap"] b i)(l:qp P w K mg base q5 9 b i ["labels","heap"] Ks)(d:k9 K mg D "NotSo" "NotSo.__init__" zt "found" g m o):qp P w K mg base (Qb P w) 10 f a ["labels","heap","wanted"] (yE g):=by
 refine F.okY Ib λH Q E hr z=>?_;obtain⟨m,h,a,R,b,i,rfl,o,p,ok,q,r⟩:=z;refine⟨_,qd (qy 3 (qE j l (qV (jv 0) (jv 1))))
  (qe (qA (qj XY (jv 3) (jv 2)) (qe (ZR rfl Ji (ZS d.mkr (xo d) (hr.mono (by decide)) (by rfl) d.ns d.bi Qy (jc (jv 3))))) qr)),?_⟩
 refine⟨_,rfl,_,rfl,m,h,a,R,b,rfl,o,p,ok,λl j=>⟨_,rfl,_,rfl,rfl,_,rfl,?_⟩⟩;have m:zW (QP (b.map (wT a R)))=oW a R b:=rfl;rw[m];by_cases c:oW a R b=i
 ·exact qI (by rw[c];simp) (q c l j)
 ·refine qK (by have:¬V.str (oW a R b)=V.str i:=λz=>c (V.str.inj z);simpa using this) ⟨_,rfl,sz,λe i=>⟨e,.str (oW a R b),rfl,qc,λa b=>⟨rfl,e,g,a,rfl,(Qs i b).2.1,d.rcls,?_⟩⟩⟩;obtain⟨d,_,g⟩:=Qs i b;exact r c _ a (j.trans d) g
abbrev ZK:Stmt:=j3 (top 10) 0
abbrev zM:Stmt:=j3 (top 12) 0
abbrev Xe:Stmt:=j3 (top 13) 0
def wk:qk ["self","found"] ["self","found"] (qg ZK):=jM
def wX(x:k9 K mg D "NoPlace" "NoPlace.__init__" ZK "found" C f a):qp P w K mg base q5 1 f a ["self","found"] (Hs C "found"):=by
 refine x.fn.okJ wk (λa H Q E h=>?_) (λ_ A _ s H a Q E hr h=>?_)
 ·obtain⟨e,y,rfl,_⟩:=h;rfl
 ·obtain⟨e,y,rfl,a,k⟩:=h;exact⟨_,qe (V7 (jv 0) (jv 1) rfl),_,rfl,_,rfl,e,C,rfl,a,x.cls,MT D,x.na,λa b=>k a b⟩
def vV(K:zel)(H:Hp)(N:List Str)(v:V):Prop:=(∃d,DV K H v d/\d.canLay0=true/\d.depth<=40/\∀z∈N,PyData.eqv (.str z) d=false)\/∃a b,v=.ref a/\H a=some (.dK b)
def vV.keep(h:vV K H N v)(s:Qa H H'):vV K H' N v:=by
 rcases h with ⟨d,a,b⟩ | ⟨a,f,e,h⟩
 ·exact .inl ⟨d,Xu s a,b⟩
 ·exact .inr ⟨a,f,e,s _ _ h λ_ z=>nomatch z⟩
inductive yD(K:zel)(CG CP:Addr)(vs:List V)(H:Hp)(E:XK):Prop
 | mk (a:Addr) (rs:ju) (v:V):vs=[.ref a,v]->Qk CG H a rs->qu rs->(vV K H (rs.map (·.1)) v)->(∀H1 dx,Same H H1->H1 dx=some (.xd [(zem "found",v)])->E (.ref CP) (some dx) H1)->yD K CG CP vs H E
def Ku(K:zel)(a CP:Addr):Sp:=λb H Q E=>yD K a CP b H E
def wJ(F:jq K "need_place" "need_place" ZJ f b)(G:QB mg)(M:GM K mg g)(i:k9 K mg D "NoPlace" "NoPlace.__init__" ZK "found" CP j l):qp P w K mg base (Qb P w) 3 f b BQ (Ku K g CP):=by
 obtain⟨_,_,g⟩:=M.cls;obtain⟨_,_,j⟩:=M.nm;refine F.okY E6 λH Q E hr h=>?_;obtain⟨l,b,v,rfl,m,good,r,q⟩:=h;refine⟨_,qe (qA (qj (wA hr.units) (jv 1) (xu j g.cl (pin P w mg base (Z9 j.fn g G)) (hr.mono (by decide)) (jv 0)) (by with_unfolding_all rfl))
  (qe (ZR rfl Ji (ZS i.mkr (wX i) hr (by rfl) i.ns i.bi Qy (jc (jv 1))))) qr),?_⟩
 obtain⟨g,fs,j,o,_⟩:=m.ins;refine⟨_,rfl,_,rfl,l,g,fs,rfl,j,o,l,b,rfl,m,λj l=>?_⟩;have o:Same H (upd H j (.lst ((b.map (·.1)).map V.str))):=qi l;have p:upd H j (.lst ((b.map (·.1)).map V.str)) j=some (.lst ((b.map (·.1)).map V.str)):=qc;generalize upd H j (.lst ((b.map (·.1)).map V.str))=l at o p;rcases r.keep o.keep with ⟨d,m,u,y,no⟩ | ⟨a,B,rfl,C⟩
 ·have r:((b.map (·.1)).map PyData.str).any (λz=>PyData.eqv z d)=false:=by
   rw[zdY];intro x J;obtain⟨z,l,rfl⟩:=tz.mp J;rw[no z l];exact tK
  refine .inl ⟨d,_,m,Em p,u,Ea (λz l=>by obtain⟨m,u,rfl⟩:=tz.mp l;exact good.nm m u),y,?_⟩;show ∃k,V.bl (!_)=V.bl k/\_;rw[r];refine⟨_,rfl,jX ⟨_,rfl,sz,λe l=>⟨e,v,rfl,qc,λg m=>⟨rfl,e,CP,g,rfl,?_,i.rcls,?_⟩⟩⟩⟩
  ·exact(Qs l m).2.1
  ·obtain⟨r,y,u⟩:=Qs l m;exact q _ g (o.trans r) u
 ·refine .inr ⟨a,j,B,b.map (·.1),rfl,rfl,C,.of p,_,rfl,jX ⟨_,rfl,sz,λe l=>⟨e,.ref a,rfl,qc,λg m=>⟨rfl,e,CP,g,rfl,?_,i.rcls,?_⟩⟩⟩⟩
  ·exact(Qs l m).2.1
  ·obtain⟨r,y,u⟩:=Qs l m;exact q _ g (o.trans r) u
def yd(K:zel)(CH CT CP:Addr)(H:Hp)(N:List Str)(v:V)(C:Addr)(a:V):Prop:=
 (C=CH/\a=v/\∃t,TyOf K H v t/\tZ K t (.type "list")=some false)\/
 (C=CT/\∃b d,v=.ref b/\H b=some (.lst d)/\8 < d.length/\d.length<=1000/\a=.int (d.length:Nat))\/
 (C=CP/\∃(b:Addr) (d:List Str) (rest:List V),v=.ref b/\H b=some (.lst (d.map V.str++a::rest))/\(d.map V.str++a::rest).length<=8/\(∀z∈d,z∈N)/\vV K H N a)
def yd.keep(h:yd K CH CT CP H N v C f)(s:Qa H H'):yd K CH CT CP H' N v C f:=by
 rcases h with ⟨a,b,t,c,d⟩ | ⟨a,f,g,b,c,d⟩ | ⟨a,f,i,rest,b,c,d,e,j⟩
 ·exact .inl ⟨a,b,t,Rh.TyOf.keep c s,d⟩
 ·exact .inr (.inl ⟨a,f,g,b,s _ _ c (λ_ z=>nomatch z),d⟩)
 ·exact .inr (.inr ⟨a,f,i,rest,b,s _ _ c (λ_ z=>nomatch z),d,e,j.keep s⟩)
def jO(K:zel)(f CH CT CP:Addr):Sp:=λg H Q E=>∃(b:Addr) (a:ju) (v d:V) (e:Addr),g=[.ref b,v]/\Qk f H b a/\qu a/\a.length<=14/\yd K CH CT CP H (a.map (·.1)) v e d/\∀a b,Same H a->a b=some (.xd [(zem "found",d)])->E (.ref e) (some b) a
structure Li(K:zel)(mg:Str->Option Value)(D CH CT CP:Addr):Prop where
 h:∃f fd,k9 K mg D "NoHeap" "NoHeap.__init__" Xe "found" CH f fd
 t:∃f fd,k9 K mg D "TooMany" "TooMany.__init__" zM "found" CT f fd
 p:∃f fd,k9 K mg D "NoPlace" "NoPlace.__init__" ZK "found" CP f fd
def K2:qk ["self","found"] ["self","found"] (qg Xe):=jM
def wj:qk ["self","found"] ["self","found"] (qg zM):=jM
def Rw(x:k9 K mg D "NoHeap" "NoHeap.__init__" Xe "found" C f a):qp P w K mg base q5 1 f a ["self","found"] (Hs C "found"):=by
 refine x.fn.okJ K2 (λa H Q E h=>?_) (λ_ A _ s H a Q E hr h=>?_)
 ·obtain⟨e,y,rfl,_⟩:=h;rfl
 ·obtain⟨e,y,rfl,a,k⟩:=h;exact⟨_,qe (V7 (jv 0) (jv 1) rfl),_,rfl,_,rfl,e,C,rfl,a,x.cls,MT D,x.na,λa b=>k a b⟩
def wV(x:k9 K mg D "TooMany" "TooMany.__init__" zM "found" C f a):qp P w K mg base q5 1 f a ["self","found"] (Hs C "found"):=by
 refine x.fn.okJ wj (λa H Q E h=>?_) (λ_ A _ s H a Q E hr h=>?_)
 ·obtain⟨e,y,rfl,_⟩:=h;rfl
 ·obtain⟨e,y,rfl,a,k⟩:=h;exact⟨_,qe (V7 (jv 0) (jv 1) rfl),_,rfl,_,rfl,e,C,rfl,a,x.cls,MT D,x.na,λa b=>k a b⟩
def wM(F:jq K "need_heap" "need_heap" QD f g)(B:QL mg)(G:QB mg)(T:Qv K mg)(M:GM K mg a)(b:qM K mg "need_place" ZJ BQ j l)(mt:∃t,mg "MOST_TOKENS"=some (.int 8 t))(d:Li K mg D CH CT CP):qp P w K mg base (Qb P w) 4 f g ["ground","heap"] (jO K a CH CT CP):=by
 obtain⟨_,_,g⟩:=d.h;obtain⟨_,_,j⟩:=d.t;obtain⟨_,_,l⟩:=d.p;obtain⟨tk,m⟩:=mt;refine F.okY Fb λH Q E hr h=>?_;obtain⟨r,x,v,o,C,rfl,J,good,_,bad,q⟩:=h;have d:ji 2 _:=hr.mono (by decide);refine⟨_,qd (qA (Jp (jA (qx jQ (by rfl) T.isi boot_isinstance (qV (jv 1) (Je (v:=.ty "list") (by rfl) G.lst boot_list rfl))))) (qe (ZR rfl Ji (ZS g.mkr (Rw g) d (by rfl) g.ns g.bi Qy (jc (jv 1))))) qr)
  (qd (qA (qj ZM (qx qL (by rfl) B.len boot_len (jc (jv 1))) (Qt (v:=.int 8) (by rfl) m ⟨_,rfl⟩)) (qe (ZR rfl Ji (ZS j.mkr (wV j) d (by rfl) j.ns j.bi Qy (jc (qx qL (by rfl) B.len boot_len (jc (jv 1))))))) qr)
  (qe (Aq (t:=EG (BW K (jg 1)) (Qp 2) (Bc (Xz (λd H Q E=>yz a d H Q E\/Ku K a CP d H Q E) [] E (jd (jg 0) (jd (jg 2) Q1))))) λ_ W a d _=>qX (hp:=a) (qB (jv 1)) (qF 2) (qe (q4 (j6 b (qp.or ((pin P w mg base (vr b.fn G M)).up (by decide)).cx (pin P w mg base (wJ b.fn G M l))) d (qV (jv 0) (jv 2)))))))),?_⟩
 rcases bad with ⟨rfl,rfl,t,ty,d⟩ | ⟨rfl,b,m,rfl,a,l,u,rfl⟩ | ⟨rfl,b,p,rest,rfl,a,l,L,O⟩
 ·refine⟨_,rfl,_,_,_,_,rfl,rfl,ty,d,_,rfl,jX ⟨_,rfl,sz,λe l=>⟨e,o,rfl,qc,λd m=>⟨rfl,e,C,d,rfl,(Qs l m).2.1,g.rcls,?_⟩⟩⟩⟩;obtain⟨g,U,u⟩:=Qs l m;exact q _ d g u
 ·refine⟨_,rfl,_,_,_,_,rfl,rfl,.lst a,T.kll,_,rfl,jo ⟨_,rfl,b,_,rfl,.inl (.of a),_,_,rfl,rfl,_,rfl,qK (decide_eq_true (by omega)) ⟨_,rfl,b,_,rfl,.inl (.of a),sz,λe l=>⟨e,_,rfl,qc,λd m=>⟨rfl,e,C,d,rfl,(Qs l m).2.1,j.rcls,?_⟩⟩⟩⟩⟩;obtain⟨g,U,u⟩:=Qs l m;exact q _ d g u
 ·refine⟨_,rfl,_,_,_,_,rfl,rfl,.lst a,T.kll,_,rfl,jo ⟨_,rfl,b,_,rfl,.inl (.of a),_,_,rfl,rfl,_,rfl,qI (decide_eq_false (by omega)) ⟨_,rfl,b,rfl,⟨_,.of a⟩,je (K:=K) (a:=b) (xs:=p.map V.str++o::rest) (λi g X=>(∃v,g=[some (.ref r),some (.ref b),v])/\Same H X/\i<=p.length) ⟨⟨_,rfl⟩,Same.refl H,zao _⟩ (λi g X _ ⟨_,b,_⟩=>.of (b _ _ a)) ?_ ?_⟩⟩⟩
  ·rintro i y g X a ⟨⟨v,rfl⟩,b,j⟩;rcases zbj i p.length with c | c
   ·rw[t7 (by rw[tc];exact c)]at a;obtain⟨z,_,l,rfl⟩:=jU a;exact⟨_,rfl,_,rfl,.inl ⟨r,x,z,rfl,J.mono b,tz.mp (L z l),λ_ l=>⟨⟨_,rfl⟩,b.trans l,c⟩⟩⟩
   ·have e:i=p.length:=by omega
    subst e;rw[tY (by rw[tc];exact tp _),tc,zbO]at a;obtain rfl:o=y:=by simpa using a
    exact⟨_,rfl,_,rfl,.inr ⟨r,x,o,rfl,J.mono b,good,O.keep b.keep,λa d l hd=>q a d (b.trans l) hd⟩⟩
  ·rintro g X ⟨_,_,j⟩;rw[tx,tc,zae]at j;omega
inductive Kq(CG:Addr)(vs:List V)(H:Hp)(Q:VK):Prop
 | mk (g h:Addr) (rs:ju) (hs:List Str):vs=[.ref g,.ref h]->GH CG H g h rs hs->(∀H' L ts R,QO rs R->Same H H'->H L=none->H' L=some (.lst (ts.map V.ref))->YN H' ts (Yv rs R hs)->Q (.ref L) H')->Kq CG vs H Q
def Bi(a:Addr):Sp:=λb H Q _=>Kq a b H Q
def zg(rs:ju)(R:Rs Str)(hs:List Str):List (Nat×Str):=((Yv rs R hs).filter λx=>decide (x.2≠wW)).map (·.1)
inductive yv(CG:Addr)(vs:List V)(H:Hp)(Q:VK):Prop
 | mk (g h:Addr) (rs:ju) (hs:List Str):vs=[.ref g,.ref h]->GH CG H g h rs hs->(∀H' L ps R,QO rs R->Same H H'->H L=none->H' L=some (.lst (ps.map V.ref))->jG H' ps (zg rs R hs)->Q (.ref L) H')->yv CG vs H Q
def Ki(a:Addr):Sp:=λb H Q _=>yv a b H Q
inductive W4(CG CS:Addr)(vs:List V)(H:Hp)(Q:VK)(E:XK):Prop
 | mk (g h:Addr) (rs:ju) (hs:List Str):vs=[.ref g,.ref h]->GH CG H g h rs hs->(∀R,QO rs R->(oW rs R hs=wD->∀H' p m,Same H H'->H' p=some (.tup (Yz m))->Z0 rs R hs m->Q (.ref p) H')/\(oW rs R hs≠wD->B8 CS (oW rs R hs) H E))->W4 CG CS vs H Q E
def U7(a b:Addr):Sp:=λd H Q E=>W4 a b d H Q E
def YY(rs:ju)(R:Rs Str)(hs:List Str)(m:Nat×Str):Prop:=(oW rs R hs=wW/\YZ rs R hs m)\/(oW rs R hs=wD/\Z0 rs R hs m)\/(oW rs R hs=wL/\(Qm rs hs hs.length).head?=some m)
def He(d:Addr)(rs:ju)(R:Rs Str)(hs:List Str)(H:Hp)(Q:VK)(E:XK):Prop:=(∀a b m,Same H a->a b=some (.tup (Yz m))->YY rs R hs m->Q (.ref b) a)/\(oW rs R hs=wL->Qm rs hs hs.length=[]->B8 d wL H E)
def He.same(h:He d rs R hs H Q E)(s:Same H H'):He d rs R hs H' Q E:=⟨λd e m f=>h.1 d e m (s.trans f),λa b=>(h.2 a b).same s⟩
inductive Kk(CG CS PT:Addr)(vs:List V)(H:Hp)(Q:VK)(E:XK):Prop
 | mk (g D h:Addr) (rs:ju) (R:Rs Str) (hs:List Str):vs=[.ref g,.ref D,.ref h]->GH CG H g h rs hs->ja H D rs R->QO rs R->((∃tq,H PT=some (.tbl #[.str WH tq])))->He CS rs R hs H Q E->Kk CG CS PT vs H Q E
def Kl(a b PT:Addr):Sp:=λd H Q E=>Kk a b PT d H Q E
abbrev Jz:Stmt:=(jk QV).getD 1 (.Pass ⟨0,0,0,0⟩)
def Zz:Str:=(zem "player"++zem ".<locals>.")++zem "tell"
inductive WW(CG PP:Addr)(vs:List V)(H:Hp)(Q:VK):Prop
 | mk (g:Addr) (rs:ju):vs=[.ref g]->Qk CG H g rs->qu rs->(rs.length<=14)->((∃tq,H PP=some (.tbl #[.str Zz tq])))->(∀H' f fd D R,Same H H'->ja H' D rs R->QO rs R->HB H' PP f "tell" Zz Jz fd [(zem "ground",.ref g),(zem "labels",.ref D)]->Q (.ref f) H')->WW CG PP vs H Q
def UR(a PP:Addr):Sp:=λb H Q _=>WW a PP b H Q
abbrev p2:List Str:=["ground","heap"]
def Br:qk p2 p2 (qg kq):=jM
def De(F:jq K "outcomes_after" "outcomes_after" kq f g)(i:qM K mg "labels_of" Jb ["ground"] j l)(m:qp P w K mg base q5 8 j l ["ground"] (J1 a))(o:qM K mg "outcomes_by" zO p3 p r)(u:qp P w K mg base q5 10 p r p3 (Kp a)):qp P w K mg base q5 11 f g p2 (Bi a):=by
 refine F.okK Br λH Q E hr z=>?_;obtain⟨b,h,d,x,rfl,⟨e,good,le,y⟩,q⟩:=z;exact⟨_,qe (qo (qE o u (ZV (jv 0) (qE i m (jc (jv 0))) (jv 1)))),⟨_,rfl,_,rfl,b,d,rfl,e,good,le,λ_ D R a _ g all=>⟨_,rfl,b,D,h,d,R,x,rfl,e.mono a,good,le,g,Wa (Qg good.nd) all,y.mono a,λb L d e g i mv=>q b L d R all (a.trans e) (jb a g) i mv⟩⟩⟩
def K0:qk p2 p2 (qg W7):=jM
def M3(F:jq K "safe_moves" "safe_moves" W7 f a)(d:qM K mg "outcomes_after" kq p2 b g)(j:qp P w K mg base q5 11 b g p2 (Bi i)):qp P w K mg base q5 12 f a p2 (Ki i):=by
 refine F.okK K0 λH Q E hr z=>?_;obtain⟨g,l,i,a,rfl,b,q⟩:=z;refine⟨_,qe (qo (jP (N':=["pair"]) (ix:=[none]) (tt:=Zx (J0 rNe (J0 (JQ K) (jg 0) (tC (.int 1))) (tC (.str (zem "won"))))) (te:=J0 (JQ K) (jg 0) (tC (.int 0))) (qB (qE d j (qV (jv 0) (jv 1)))) (λ_ _ _ fp _=>
   ⟨qF 0,jt (qj XY (qD qJ (jv 0) qh) qv),qD qJ (jv 0) qh⟩))),?_⟩
 refine⟨_,rfl,_,rfl,g,l,i,a,rfl,b,λl L _ R all o _ d os=>⟨L,rfl,⟨_,.of d⟩,λW p=>?_⟩⟩;have ⟨j,good,le,g⟩:=b;obtain⟨b,m,r,j⟩:=os.pts;have u:(Qm i a a.length).length<=112:=by
  have:=Jd good le g.in_ a.length (tp _);have:=g.le;omega
 have g:b.length<=112:=by
  have:=congrArg zas r;unfold Yv at this;rw[tc,tc]at this;omega
 have g:l L=some (.lst (b.map λx=>V.ref x.1)):=by
  rwa [<-m,zaz]at d
 refine QI (xs:=b) (out:=λx=>if decide (x.2.2.2≠wW)=true then some (V.ref x.2.1) else none) p g (ql (by omega)) (λx d Y l u m=>?_) (λx d v g Y l u m=>?_) (λB u y=>?_)
 ·refine⟨_,rfl,x.1,_,1,.str x.2.2.2,rfl,rfl,.of (l _ _ (j x d).1),rfl,rfl,_,rfl,?_⟩;have C:=m Y (Same.refl Y);have e:(if decide (x.2.2.2≠wW)=true then some (V.ref x.2.1) else none).isSome= !decide (V.str x.2.2.2=V.str wW):=by
   by_cases c:x.2.2.2=wW
   ·rw[decide_eq_false (λz=>z c),decide_eq_true (congrArg V.str c)];rfl
   ·rw[decide_eq_true c,decide_eq_false λz=>c (V.str.inj z)];rfl
  rwa [e]at C
 ·have C:v=.ref x.2.1:=by
   by_cases c:x.2.2.2=wW
   ·rw[decide_eq_false (λz=>z c)]at g;cases g
   ·rw[decide_eq_true c]at g;exact(tF.inj g).symm
  subst C;exact⟨_,rfl,x.1,_,0,_,rfl,rfl,.of (l _ _ (j x d).1),rfl,m Y (Same.refl Y)⟩
 ·rw[Jk]at y;refine q B W ((b.filter λx=>decide (x.2.2.2≠wW)).map (·.2.1)) R all (o.trans u) (jb o p) (by rw[zaz];exact y) ?_;have g:(b.filter λx=>decide (x.2.2.2≠wW)).map (·.2.2.1)=zg i R a:=by
   unfold zg;rw[<-r,zbx,zaz];rfl
  rw[<-g];exact Wy λx d=>u _ _ (j x (tP.mp d).1).2
abbrev Hv:List Str:=["ground","heap","labels"]
def Iv:qk Hv p2 (qg Zh):=jM
def wU(F:jq K "drawer" "drawer" Zh f p)(r:qM K mg "labels_of" Jb ["ground"] u x)(y:qp P w K mg base q5 8 u x ["ground"] (J1 d))(B:qM K mg "need_heap" QD p2 C J)(L:qp P w K mg base q5 3 C J p2 (Xa d))(hN:qM K mg "need_outcome_by" XE ["labels","heap","wanted"] O T)(U:qp P w K mg base (Qb P w) 10 O T ["labels","heap","wanted"] (yE Y))(hW:qM K mg "drawer_by" wo p3 fW aa)(GW:qp P w K mg base q5 5 fW aa p3 (KM d)):qp P w K mg base (Qb P w) 11 f p p2 (U7 d Y):=by
 refine F.okY Iv λH Q E hr z=>?_;obtain⟨e,h,a,g,rfl,j,q⟩:=z;have ⟨l,good,le,i⟩:=j;refine⟨_,qd (q4 (qE B L (qV (jv 0) (jv 1))))
  (qd (qy 2 (qE r y (jc (jv 0))))
  (qd (q4 (j6 hN U qQ (ZV (jv 2) (jv 1) qv)))
  (qe (qo (qE hW GW (ZV (jv 0) (jv 2) (jv 1))))))),?_⟩
 refine⟨_,rfl,_,rfl,e,h,a,g,rfl,l,i,λ_ o=>⟨_,rfl,e,a,rfl,l.mono o,good,le,λ_ D R s2 _ l all=>?_⟩⟩;have b:=o.trans s2;obtain⟨qa,qb⟩:=q R all;exact⟨_,rfl,_,rfl,D,h,a,R,g,wD,rfl,l,i.mono b,X1 good all i.in_,λc _ d=>⟨_,rfl,_,rfl,_,rfl,e,D,h,a,R,g,rfl,j.mono (b.trans d),l.mono d,all,c,λa e m g i j=>qa c a e m ((b.trans d).trans g) i j⟩,λc=>(qb c).same b⟩
abbrev nPB:List Str:=["ground","labels","heap","found","moves"]
def H0:qk nPB p3 (qg wl):=jM
def Dc{P:Program}{w:World}{K:zel}{mg:Str->Option Value}{base:Heap}{f a u y PT b d g j C:Addr}{l o p r x J:zep}(F:jq K "player_by" "player_by" wl f l)(B:QL mg)(L:qM K mg "outcome_by" wn ["labels","heap"] b o)(O:qp P w K mg base q5 9 b o ["labels","heap"] Ks)(T:qM K mg "winner_by" Zf p3 d p)(U:qp P w K mg base q5 12 d p p3 (yq a PT))(Y:qM K mg "drawer_by" wo p3 g r)(GD:qp P w K mg base q5 5 g r p3 (KM a))(hM:qM K mg "moves_of" Q2 p2 j x)(aa:qp P w K mg base q5 4 j x p2 (yG a))(i:k9 K mg y "NotSo" "NotSo.__init__" zt "found" u C J):qp P w K mg base (Qb P w) 13 f l p3 (Kl a u PT):=by
 refine F.okY H0 λH Q E hr z=>?_;obtain⟨x,D,h,b,R,a,rfl,g,y,all,⟨o,p⟩,q⟩:=z;have ⟨j,good,le,d⟩:=g;refine⟨_,qd (qy 3 (qE L O (qV (jv 1) (jv 2))))
  (qd (qA (qj qT (jv 3) qv) (qe (qo (qE T U (ZV (jv 0) (jv 1) (jv 2))))) qr)
  (qd (qA (qj qT (jv 3) qv) (qe (qo (qE Y GD (ZV (jv 0) (jv 1) (jv 2))))) qr)
  (qd (qy 4 (qE hM aa (qV (jv 0) (jv 2))))
  (qd (qA (qj qT (qx qL (by rfl) B.len boot_len (jc (jv 4))) qh) (qe (ZR rfl Ji (ZS i.mkr (xo i) (hr.mono (by decide)) (by rfl) i.ns i.bi Qy (jc (jv 3))))) qr)
  (qe (qo (qD jj (jv 4) qh))))))),?_⟩
 refine⟨_,rfl,_,rfl,D,h,b,R,a,rfl,y,d,X1 good all d.in_,λ_ j=>⟨_,rfl,rfl,_,rfl,?_⟩⟩;have l:=g.mono j;have r:=q.same j;by_cases c:oW b R a=wW
 ·refine qK (decide_eq_true (congrArg V.str c)) ⟨_,rfl,_,rfl,_,rfl,x,D,h,b,R,a,rfl,l.1,good,le,y.mono j,all,l.2.2.2,uM good all d.in_ c,⟨o,j _ _ p⟩,λo d m g C p=>r.1 o d m g C (.inl ⟨c,p⟩)⟩
 ·refine qI (decide_eq_false λz=>c (V.str.inj z)) ⟨_,rfl,rfl,_,rfl,?_⟩;by_cases p:oW b R a=wD
  ·exact qK (decide_eq_true (congrArg V.str p)) ⟨_,rfl,_,rfl,_,rfl,x,D,h,b,R,a,rfl,l,y.mono j,all,p,λo d m g C j=>r.1 o d m g C (.inr (.inl ⟨p,j⟩))⟩
  ·refine qI (decide_eq_false λz=>p (V.str.inj z)) ?_;have j:oW b R a=wL:=by rcases VY with z | z | z<;>first | exact z | exact absurd z p | exact absurd z c
   refine⟨_,rfl,_,rfl,x,h,b,a,rfl,l.1,good,le,l.2.2.2,λo p x g _ y mv=>⟨_,rfl,p,_,rfl,.inl (.of y),rfl,_,rfl,?_⟩⟩;obtain⟨l,O⟩:=mv;cases x with
   | nil=>
    refine qK (by decide) ⟨_,rfl,sz,λe C=>⟨e,.str (oW b R a),rfl,qc,λJ L=>⟨rfl,e,u,J,rfl,(Qs C L).2.1,i.rcls,?_⟩⟩⟩;obtain⟨i,_,u⟩:=Qs C L;exact r.2 j (zap l.symm) _ J (g.trans i) (u.trans (by rw[j]))
   | cons d x=>
    refine qI (decide_eq_false λz=>by injection z with z;simp at z;omega) ?_;cases em:Qm b a a.length with
    | nil=>rw[em]at l;cases l
    | cons m ms=>
     exact⟨_,rfl,p,_,0,.ref d,rfl,rfl,.of y,QJ rfl,r.1 o d m g (O 0 d m rfl (by rw[em];rfl)) (.inr (.inr ⟨j,by rw[em];rfl⟩))⟩
inductive Bg(K:zel)(CG CS CH CT CP PT:Addr)(ws:List (Str×V))(vs:List V)(H:Hp)(Q:VK)(E:XK):Prop
 | mk (g D:Addr) (rs:ju) (v:V):ws=[(zem "ground",.ref g),(zem "labels",.ref D)]->vs=[v]->(((∃R h hs,v=.ref h/\GH CG H g h rs hs/\ja H D rs R/\QO rs R/\(∃tq,H PT=some (.tbl #[.str WH tq]))/\He CS rs R hs H Q E)\/jO K CG CH CT CP [.ref g,v] H Q E))->Bg K CG CS CH CT CP PT ws vs H Q E
def HQ(K:zel)(a b CH CT CP PT:Addr)(d:List (Str×V)):Sp:=λe H Q E=>Bg K a b CH CT CP PT d e H Q E
abbrev Ke(K:zel)(b d CH CT CP PT PP f:Addr)(e:zep):Sp:=λg H Q E=>∃a,HB H PP f "tell" Zz Jz e a/\HQ K b d CH CT CP PT a g H Q E
def Cs:Yk ["heap","ground","labels"] ["heap"] ["ground","labels"] (qg Jz):=⟨rfl,rfl,rfl,by decide+kernel,rfl,by decide+kernel,by decide+kernel,by decide+kernel,by decide+kernel⟩
def M2{P:Program}{w:World}{K:zel}{mg:Str->Option Value}{base:Heap}{PP PT a e CH CT CP f b g:Addr}{i d j:zep}(l:qM K mg "need_heap" QD p2 b d)(m:qp P w K mg base q5 3 b d p2 (Xa a))(o:qp P w K mg base (Qb P w) 4 b d p2 (jO K a CH CT CP))(p:qM K mg "player_by" wl p3 g j)(r:qp P w K mg base (Qb P w) 13 g j p3 (Kl a e PT)):qp P w K mg base (Qb P w) 14 f i ["heap"] (Ke K a e CH CT CP PT PP f i):=by
 refine D8 Cs (λa b H Q E h=>?_) (λ_ _ A _ s H a b Q E hr h=>?_)
 ·obtain⟨b,D,d,v,rfl,rfl,_⟩:=h;exact⟨rfl,rfl⟩
 ·obtain⟨b,D,d,v,rfl,rfl,⟨R,h,g,rfl,e,i,all,⟨j,u⟩,q⟩ | bad⟩:=h
  ·exact⟨_,qd (q4 (qE l m (qV (jv 1) (jv 0)))) (qe (qo (j6 p r XT (ZV (jv 1) (jv 2) (jv 0))))),⟨_,rfl,_,rfl,b,h,d,g,rfl,e.1,e.2.2.2,λ_ a=>⟨_,rfl,_,rfl,_,rfl,b,D,h,d,R,g,rfl,e.mono a,i.mono a,all,⟨j,a _ _ u⟩,q.same a⟩⟩⟩
  ·exact⟨_,qd (q4 (j6 l o XT (qV (jv 1) (jv 0)))) qS,_,rfl,_,rfl,bad⟩
abbrev nPr:List Str:=["ground","labels","tell"]
def Cv:qk nPr ["ground"] (qg QV):=jM
def wI(F:jq K "player" "player" QV f a)(b:a.code=.ref c)(d:Wx mg base c PP)(g:qM K mg "labels_of" Jb ["ground"] i j)(l:qp P w K mg base q5 8 i j ["ground"] (J1 m)):qp P w K mg base q5 9 f a ["ground"] (UR m PP):=by
 refine F.okB b Cv (λa H Q E h=>?_) (λA i s H a Q E hr h=>?_)
 ·obtain⟨a,b,rfl,_⟩:=h;rfl
 ·obtain⟨a,b,rfl,j,good,le,⟨m,p⟩,q⟩:=h;refine⟨_,MR (kK (i:=1) Cv.nd rfl (Or.inr rfl) (qE g l (jc (jv 0)))) (C1 (i:=2) (c:=c) (P:=PP) (qual:=Zz) d Cv.nd rfl rfl rfl rfl rfl (λ_=>rfl) rfl rfl rfl (FD (qe (qo (jv 2))))),⟨_,rfl,a,b,rfl,j,good,le,λ_ D R o _ B all=>⟨⟨m,o _ _ p⟩,λp b d pm g j r mk=>?_⟩⟩⟩;have C:HB r PP p "tell" Zz Jz (zej "tell" Zz (j4 Jz) (jk Jz) (qg Jz) (qY (Qq q5 P w K mg base nPr "player" (qg QV) f (.ref c) A i s H E).env (qg Jz).names []) .none .none d pm none (.ref b) g) [(zem "ground",.ref a),(zem "labels",.ref D)]:=by
   refine⟨d,pm,g,b,_,j,rfl,mk.fn,mk.cd,mk.cq,mk.inj,λx _ e=>?_,λx b d=>?_⟩
   ·rcases Qi e with z | ⟨z,_⟩
    ·simp at z
    ·have:∀y∈(qg Jz).names,y.2=.free->y.1∈[zem "ground",zem "labels"]:=by decide+kernel
     exact this _ z rfl
   ·have g:(x=zem "ground"/\b=.ref a)\/(x=zem "labels"/\b=.ref D):=by simpa using d
    rcases g with ⟨rfl,rfl⟩ | ⟨rfl,rfl⟩
    ·have b:(zem "ground",NameKind.free)∈(qg Jz).names:=by decide+kernel
     obtain⟨d,co,J,g,i,j,l⟩:=mk.cells _ b;obtain⟨u,rfl,m⟩:=l 0 (.ref a) rfl rfl;exact⟨d,co,u,g,i,j,m⟩
    ·have b:(zem "labels",NameKind.free)∈(qg Jz).names:=by decide+kernel
     obtain⟨d,co,J,g,i,j,l⟩:=mk.cells _ b;obtain⟨u,rfl,m⟩:=l 1 (.ref D) rfl rfl;exact⟨d,co,u,g,i,j,m⟩
  exact⟨_,rfl,q r p _ D R (o.trans mk.same) (B.mono mk.same) all C⟩
open PyProof.Rows hiding K lo
abbrev zL:Stmt:=top 67
abbrev XO:Stmt:=top 68
abbrev zK:Stmt:=top 69
abbrev vd:Stmt:=top 70
def KN(K:zel)(b CH CT CP:Addr):Sp:=λd H Q E=>∃(a:Addr) (y v:V),d=[.ref a,y,v]/\jO K b CH CT CP [.ref a,v] H Q E
def X3(h:jO K a CH CT CP [.ref g,v] H Q E)(s:Same H H'):jO K a CH CT CP [.ref g,v] H' b E:=by
 obtain⟨a,b,d,f,i,e,j,good,le,bad,k⟩:=h;exact⟨a,b,d,f,i,e,j.mono s,good,le,bad.keep s.keep,λa b d=>k a b (s.trans d)⟩
def Fc:qk ["ground","heap","moves","token","place"] p2 (qg Q2):=jM
def Dh(F:jq K "moves_of" "moves_of" Q2 f a)(b:qM K mg "need_heap" QD p2 d e)(g:qp P w K mg base (Qb P w) 4 d e p2 (jO K i CH CT CP)):qp P w K mg base (Qb P w) 5 f a p2 (jO K i CH CT CP):=by
 refine F.okY Fc λH Q E hr h=>?_;obtain⟨a,d,v,e,i,rfl,j⟩:=h;exact⟨_,qd (q4 (j6 b g qQ (qV (jv 0) (jv 1)))) qS,_,rfl,_,rfl,a,d,v,e,i,rfl,j⟩
def Fl:qk Hv p2 (qg Zh):=jM
def Dp(F:jq K "drawer" "drawer" Zh f a)(b:qM K mg "need_heap" QD p2 d e)(g:qp P w K mg base (Qb P w) 4 d e p2 (jO K i CH CT CP)):qp P w K mg base (Qb P w) 5 f a p2 (jO K i CH CT CP):=by
 refine F.okY Fl λH Q E hr h=>?_;obtain⟨a,d,v,e,i,rfl,j⟩:=h;exact⟨_,qd (q4 (j6 b g qQ (qV (jv 0) (jv 1)))) qS,_,rfl,_,rfl,a,d,v,e,i,rfl,j⟩
def E2:qk Hv p2 (qg zK):=jM
def C7(F:jq K "winner" "winner" zK f a)(b:qM K mg "need_heap" QD p2 d e)(g:qp P w K mg base (Qb P w) 4 d e p2 (jO K i CH CT CP)):qp P w K mg base (Qb P w) 5 f a p2 (jO K i CH CT CP):=by
 refine F.okY E2 λH Q E hr h=>?_;obtain⟨a,d,v,e,i,rfl,j⟩:=h;exact⟨_,qd (q4 (j6 b g qQ (qV (jv 0) (jv 1)))) qS,_,rfl,_,rfl,a,d,v,e,i,rfl,j⟩
def Fm:qk Hv p2 (qg XO):=jM
def Dr(F:jq K "count_of" "count_of" XO f a)(b:qM K mg "need_heap" QD p2 d e)(g:qp P w K mg base (Qb P w) 4 d e p2 (jO K i CH CT CP)):qp P w K mg base (Qb P w) 5 f a p2 (jO K i CH CT CP):=by
 refine F.okY Fm λH Q E hr h=>?_;obtain⟨a,d,v,e,i,rfl,j⟩:=h;exact⟨_,qd (q4 (j6 b g qQ (qV (jv 0) (jv 1)))) qS,_,rfl,_,rfl,a,d,v,e,i,rfl,j⟩
def Fd:qk ["ground","heap","labels","found"] p2 (qg vd):=jM
def Di(F:jq K "most_moves" "most_moves" vd f a)(b:qM K mg "need_heap" QD p2 d e)(g:qp P w K mg base (Qb P w) 4 d e p2 (jO K i CH CT CP)):qp P w K mg base (Qb P w) 5 f a p2 (jO K i CH CT CP):=by
 refine F.okY Fd λH Q E hr h=>?_;obtain⟨a,d,v,e,i,rfl,j⟩:=h;exact⟨_,qd (q4 (j6 b g qQ (qV (jv 0) (jv 1)))) qS,_,rfl,_,rfl,a,d,v,e,i,rfl,j⟩
def E8:qk p3 p3 (qg zO):=jM
def Df(F:jq K "outcomes_by" "outcomes_by" zO f a)(b:qM K mg "moves_of" Q2 p2 d e)(g:qp P w K mg base (Qb P w) 5 d e p2 (jO K i CH CT CP)):qp P w K mg base (Qb P w) 6 f a p3 (KN K i CH CT CP):=by
 refine F.okY E8 λH Q E hr h=>?_;obtain⟨_,y,v,rfl,a⟩:=h;exact⟨_,qe (qo (jP (N':=["move"]) (ix:=[none]) (qB (j6 b g qQ (qV (jv 0) (jv 2)))) (λ_ _ _ fp _=>⟨V8,Wf,V9⟩))),_,rfl,_,rfl,a⟩
def Da(F:jq K "winning_by" "winning_by" zq f a)(b:qM K mg "outcomes_by" zO p3 d e)(g:qp P w K mg base (Qb P w) 6 d e p3 (KN K i CH CT CP)):qp P w K mg base (Qb P w) 7 f a p3 (KN K i CH CT CP):=by
 refine F.okY yV λH Q E hr h=>?_;obtain⟨a,y,v,rfl,d⟩:=h;exact⟨_,qe (qo (jP (N':=["pair"]) (ix:=[none]) (qB (j6 b g qQ (ZV (jv 0) (jv 1) (jv 2)))) (λ_ _ _ fp _=>⟨V8,Wf,V9⟩))),_,rfl,_,rfl,_,rfl,a,y,v,rfl,d⟩
def E3:qk p2 p2 (qg zL):=jM
def C8(F:jq K "winning_moves" "winning_moves" zL f b)(d:qM K mg "winning_by" zq p3 e g)(i:qp P w K mg base (Qb P w) 7 e g p3 (KN K a CH CT CP))(j:qM K mg "labels_of" Jb ["ground"] l m)(o:qp P w K mg base q5 8 l m ["ground"] (J1 a)):qp P w K mg base (Qb P w) 9 f b p2 (jO K a CH CT CP):=by
 refine F.okY E3 λH Q E hr h=>?_;have b:=h;obtain⟨a,e,v,_,_,rfl,g,good,le,_⟩:=b;exact⟨_,qe (qo (j6 d i qQ (ZV (jv 0) (qE j o (jc (jv 0))) (jv 1)))),_,rfl,_,rfl,a,e,rfl,g,good,le,λ_ D R b _ _ all=>⟨_,rfl,a,_,v,rfl,X3 h b⟩⟩
def Dg(F:jq K "outcomes_after" "outcomes_after" kq f b)(d:qM K mg "outcomes_by" zO p3 e g)(i:qp P w K mg base (Qb P w) 6 e g p3 (KN K a CH CT CP))(j:qM K mg "labels_of" Jb ["ground"] l m)(o:qp P w K mg base q5 8 l m ["ground"] (J1 a)):qp P w K mg base (Qb P w) 9 f b p2 (jO K a CH CT CP):=by
 refine F.okY Br λH Q E hr h=>?_;have b:=h;obtain⟨a,e,v,_,_,rfl,g,good,le,_⟩:=b;exact⟨_,qe (qo (j6 d i qQ (ZV (jv 0) (qE j o (jc (jv 0))) (jv 1)))),_,rfl,_,rfl,a,e,rfl,g,good,le,λ_ D R b _ _ all=>⟨_,rfl,a,_,v,rfl,X3 h b⟩⟩
def Db(F:jq K "safe_moves" "safe_moves" W7 f a)(b:qM K mg "outcomes_after" kq p2 d e)(g:qp P w K mg base (Qb P w) 9 d e p2 (jO K i CH CT CP)):qp P w K mg base (Qb P w) 10 f a p2 (jO K i CH CT CP):=by
 refine F.okY K0 λH Q E hr h=>?_;have a:=h;obtain⟨_,_,v,_,d,rfl,_⟩:=a;exact⟨_,qe (qo (jP (N':=["pair"]) (ix:=[none]) (qB (j6 b g qQ (qV (jv 0) (jv 1)))) (λd _ _ fp _=>⟨V8,Wf,V9⟩))),_,rfl,_,rfl,h⟩
open PyProof.Rows hiding K lo
abbrev vg:Stmt:=top 95
abbrev XI:Stmt:=top 96
structure Ei(K:zel)(mg:Str->Option Value)(D CP:Addr):Prop where
 nD:mg "HeapError"=some (.ref D)
 cD:A2 K D
 kp:tZ K (.ref CP) (.ref CP)=some true
 spc:zbW K (.builtin "object.__class__") "__get__"=some (some (.builtin "getset_descriptor.__get__"))
 tks:zcp K (.builtin "object.__class__")=some true
def CTl(K:zel)(b d CH CT CP PT PP:Addr)(f:Addr)(a:zep)(e:Sp):Prop:=(∃(g pm i:Value) (j:Addr) (l:List (Str×Addr)),a=zej "tell" Zz (j4 Jz) (jk Jz) (qg Jz) l .none .none g pm none (.ref j) i)/\e=Ke K b d CH CT CP PT PP f a
inductive Rz where
 | mv (m:Nat×Str) | ms (l:List (Nat×Str)) | no (z:Str)
def YM(rs:ju)(R:Rs Str)(hs:List Str)(w:Nat)(r:Rz):Prop:=
 (w=0/\((oW rs R hs=wD/\∃m,Z0 rs R hs m/\r=.mv m)\/(oW rs R hs≠wD/\r=.no (oW rs R hs))))\/
 (w=1/\((∃m,YY rs R hs m/\r=.mv m)\/(oW rs R hs=wL/\Qm rs hs hs.length=[]/\r=.no wL)))\/
 (w=2/\r=.ms (zg rs R hs))
def Le(d:Addr)(r:Rz)(H:Hp)(Q:VK)(E:XK):Prop:=match r with
 | .mv m=>∀a b,Same H a->a b=some (.tup (Yz m))->Q (.ref b) a
 | .ms e=>∀a L b,Same H a->H L=none->a L=some (.lst (b.map V.ref))->jG a b e->Q (.ref L) a
 | .no z=>B8 d z H E
def B3(PT PP:Addr)(H:Hp):Prop:=(∃a,H PT=some (.tbl #[.str WH a]))/\∃a,H PP=some (.tbl #[.str Zz a])
inductive yU(CG CS PT PP:Addr)(vs:List V)(H:Hp)(Q:VK)(E:XK):Prop
 | mk (w:Nat) (g h:Addr) (rs:ju) (hs:List Str):(vs=[.int (w:Nat),.ref g,.ref h])->(w<=2)->GH CG H g h rs hs->B3 PT PP H->(∀R,QO rs R->∀r,YM rs R hs w r->Le CS r H Q E)->yU CG CS PT PP vs H Q E
def KO(a b PT PP:Addr):Sp:=λd H Q E=>yU a b PT PP d H Q E
def KP(K:zel)(b CH CT CP PT PP:Addr):Sp:=λd H Q E=>∃(w:Nat) (a:Addr) (v:V),d=[.int (w:Nat),.ref a,v]/\w<=6/\B3 PT PP H/\jO K b CH CT CP [.ref a,v] H Q E
def D7{P:Program}{w:World}{K:zel}{mg:Str->Option Value}{base:Heap}{a:Addr}{i:Addr}{CH:Addr}{CT:Addr}{CP:Addr}{PT:Addr}{PP:Addr}{d j:Addr}{e l:zep}(m:qM K mg "need_heap" QD p2 d e)(o:qp P w K mg base q5 3 d e p2 (Xa a))(p:qp P w K mg base (Qb P w) 4 d e p2 (jO K a CH CT CP))(q:qM K mg "player_by" wl p3 j l)(r:qp P w K mg base (Qb P w) 13 j l p3 (Kl a i PT)):∀f b g,CTl K a i CH CT CP PT PP f b g->qp P w K mg base (Qb P w) 14 f b ["heap"] g/\jy K b ["heap"] []:=by
 rintro f b g ⟨⟨_,pm,_,_,_,rfl⟩,rfl⟩;exact⟨M2 m o p q r,.all λ_ a=>by obtain⟨_,rfl⟩:=ug a;rfl⟩
abbrev GK:List Str:=["_law_way","_law_ground","_law_heap_here"]
def Iy:qk GK GK (qg vg):=jM
def NO{w k:Nat}{a b:Prop}(d:w=k->a)(e:w≠k->b):if decide (V.int (w:Nat)=V.int (k:Nat))=true then a else b:=by
 by_cases c:w=k
 ·rw[if_pos (decide_eq_true (by rw[c]))];exact d c
 ·rw[if_neg (by rw[decide_eq_false (λz=>c (by have:=V.int.inj z;omega))];decide)];exact e c
def M9{P:Program}{w:World}{K:zel}{mg:Str->Option Value}{base:Heap}{g:Addr}{j:Addr}{CH:Addr}{CT:Addr}{CP:Addr}{PT:Addr}{PP:Addr}{f l u o x B C J:Addr}{d p O r T U Y ab:zep}(F:jq K "_law_ask" "_law_ask" vg f d)(hD:qM K mg "drawer" Zh p2 l p)(GD:qp P w K mg base (Qb P w) 11 l p p2 (U7 g j))(ac:qp P w K mg base (Qb P w) 5 l p p2 (jO K g CH CT CP))(hP:qM K mg "player" QV ["ground"] u O)(GP:qp P w K mg base q5 9 u O ["ground"] (UR g PP))(y:∀f d i,CTl K g j CH CT CP PT PP f d i->qp P w K mg base (Qb P w) 14 f d ["heap"] i/\jy K d ["heap"] [])
  (hS:qM K mg "safe_moves" W7 p2 o r) (GS:qp P w K mg base q5 12 o r p2 (Ki g)) (ae:qp P w K mg base (Qb P w) 10 o r p2 (jO K g CH CT CP)) (hW:qM K mg "winning_moves" zL p2 x T) (GW:qp P w K mg base (Qb P w) 9 x T p2 (jO K g CH CT CP)) (hI:qM K mg "winner" zK p2 B U) (GI:qp P w K mg base (Qb P w) 5 B U p2 (jO K g CH CT CP)) (hC:qM K mg "count_of" XO p2 C Y) (GC:qp P w K mg base (Qb P w) 5 C Y p2 (jO K g CH CT CP)) (hM:qM K mg "most_moves" vd p2 J ab) (GM:qp P w K mg base (Qb P w) 5 J ab p2 (jO K g CH CT CP)):qp P w K mg base (Qb P w) 15 f d GK (λvs H Q E=>KO g j PT PP vs H Q E\/KP K g CH CT CP PT PP vs H Q E):=by
 refine F.okX Iy (λvs H Q E z=>?_) (λ_ A _ s H vs Q E hr z=>?_)
 ·rcases z with ⟨w,g,h,j,B,rfl,_⟩ | ⟨w,g,v,rfl,_⟩<;>rfl
 ·rcases z with ⟨w,g,h,j,B,rfl,o,l,⟨tb,C⟩,q⟩ | ⟨w,g,v,rfl,o,⟨tb,C⟩,bad⟩
  ·refine⟨_,qd (qA (qj qT (jv 0) qh) (qe (qo (j6 hD GD qQ (qV (jv 1) (jv 2))))) qr) (qd (qA (qj qT (jv 0) qh) (qe (qo (vB (qE hP GP (jc (jv 1))) (λf d i c=>⟨14,_,(y f d i c).1,hr,(y f d i c).2⟩) (jY.s qQ) (jc (jv 2))))) qr) (qd (qA (qj qT (jv 0) qh) (qe (qo (qE hS GS (qV (jv 1) (jv 2))))) qr) (qd (qA (qj qT (jv 0) qh) (qe (qo (j6 hW GW qQ (qV (jv 1) (jv 2))))) qr) (qd (qA (qj qT (jv 0) qh) (qe (qo (j6 hI GI qQ (qV (jv 1) (jv 2))))) qr) (qd (qA (qj qT (jv 0) qh) (qe (qo (j6 hC GC qQ (qV (jv 1) (jv 2))))) qr) (qe (qo (j6 hM GM qQ (qV (jv 1) (jv 2)))))))))),⟨_,rfl,rfl,_,rfl,NO (k:=0) (λe=>?_) λn0=>⟨_,rfl,rfl,_,rfl,NO (k:=1) (λe=>?_) λn1=>⟨_,rfl,rfl,_,rfl,NO (k:=2) (λe=>?_) λn2=>by omega⟩⟩⟩⟩
   ·exact⟨_,rfl,_,rfl,g,h,j,B,rfl,l,λR all=>⟨λc p J m r O b=>q R all (.mv m) (.inl ⟨e,.inl ⟨c,m,b,rfl⟩⟩) p J r O,λc=>q R all (.no _) (.inl ⟨e,.inr ⟨c,rfl⟩⟩)⟩⟩
   ·refine⟨_,rfl,g,j,rfl,l.1,l.2.1,l.2.2.1,C,λH1 f d D R o lb all u=>?_⟩;obtain⟨T,pm,U,Y,aa,oc,e1,x,_⟩:=u.ex;refine⟨f,d,_,rfl,⟨⟨T,pm,U,Y,aa,e1⟩,rfl⟩,x,_,rfl,x,_,u,g,D,j,_,rfl,rfl,.inl ⟨R,h,B,rfl,l.mono o,lb,all,tb.imp λ_ z=>o _ _ z,λp J m r O af=>?_,λa b=>?_⟩⟩
    ·exact q R all (.mv m) (.inr (.inl ⟨e,.inl ⟨m,af,rfl⟩⟩)) p J (o.trans r) O
    ·exact B8.same (q R all (.no wL) (.inr (.inl ⟨e,.inr ⟨a,b,rfl⟩⟩))) o
   ·exact⟨_,rfl,_,rfl,g,h,j,B,rfl,l,λp L l R all r B J mv=>q R all (.ms _) (.inr (.inr ⟨e,rfl⟩)) p L l r B J mv⟩
  ·have ⟨r,j,B,J,O,l,p,good,le,_⟩:=bad;cases l;refine⟨_,qd (qA (qj qT (jv 0) qh) (qe (qo (j6 hD ac qQ (qV (jv 1) (jv 2))))) qr) (qd (qA (qj qT (jv 0) qh) (qe (qo (vB (qE hP GP (jc (jv 1))) (λf d i c=>⟨14,_,(y f d i c).1,hr,(y f d i c).2⟩) (jY.s qQ) (jc (jv 2))))) qr) (qd (qA (qj qT (jv 0) qh) (qe (qo (j6 hS ae qQ (qV (jv 1) (jv 2))))) qr) (qd (qA (qj qT (jv 0) qh) (qe (qo (j6 hW GW qQ (qV (jv 1) (jv 2))))) qr) (qd (qA (qj qT (jv 0) qh) (qe (qo (j6 hI GI qQ (qV (jv 1) (jv 2))))) qr) (qd (qA (qj qT (jv 0) qh) (qe (qo (j6 hC GC qQ (qV (jv 1) (jv 2))))) qr) (qe (qo (j6 hM GM qQ (qV (jv 1) (jv 2)))))))))),⟨_,rfl,rfl,_,rfl,NO (k:=0) (λe=>⟨_,rfl,_,rfl,bad⟩) λn0=>⟨_,rfl,rfl,_,rfl,NO (k:=1) (λe=>⟨_,rfl,g,j,rfl,p,good,le,C,λH1 f d D R o lb all u=>?_⟩) λn1=>⟨_,rfl,rfl,_,rfl,NO (k:=2) (λe=>⟨_,rfl,_,rfl,bad⟩) λn2=>⟨_,rfl,rfl,_,rfl,NO (k:=3) (λe=>⟨_,rfl,_,rfl,bad⟩) λ_=>⟨_,rfl,rfl,_,rfl,NO (k:=4) (λe=>⟨_,rfl,_,rfl,bad⟩) λ_=>⟨_,rfl,rfl,_,rfl,NO (k:=5) (λe=>⟨_,rfl,_,rfl,bad⟩) λn5=>⟨_,rfl,_,rfl,bad⟩⟩⟩⟩⟩⟩⟩⟩;obtain⟨T,pm,U,Y,aa,oc,e1,x,_⟩:=u.ex;exact⟨f,d,_,rfl,⟨⟨T,pm,U,Y,aa,e1⟩,rfl⟩,x,_,rfl,x,_,u,g,D,j,_,rfl,rfl,.inr (X3 bad o)⟩
def uJ(b H:Hp)(p:Addr):Rz->Prop
 | .mv m=>∃q,H p=some (.tup [.str (zem "told"),.ref q])/\H q=some (.tup (Yz m))
 | .ms d=>∃L a,b L=none/\H p=some (.tup [.str (zem "told"),.ref L])/\H L=some (.lst (a.map V.ref))/\jG H a d
 | .no z=>H p=some (.tup [.str (zem "not"),.str z])
def Hy(CH CT CP C:Addr)(z:Str):Prop:=(C=CH/\z=zem "heap")\/(C=CT/\z=zem "many")\/(C=CP/\z=zem "place")
inductive yt(K:zel)(CG CH CT CP PT PP:Addr)(vs:List V)(H:Hp)(Q:VK):Prop
 | mk (w:Nat) (g:Addr) (v:V) (rs:ju):(vs=[.int (w:Nat),.ref g,v])->(w<=6)->Qk CG H g rs->qu rs->(rs.length<=14)->B3 PT PP H->(((∃h hs,v=.ref h/\w<=2/\js H h rs hs/\∀R,QO rs R->∀r,YM rs R hs w r->∀H' p,Qa H H'->uJ H H' p r->Q (.ref p) H')\/∃C fv z,yd K CH CT CP H (rs.map (·.1)) v C fv/\Hy CH CT CP C z/\∀H' p,Qa H H'->H' p=some (.tup [.str z,fv])->Q (.ref p) H'))->yt K CG CH CT CP PT PP vs H Q
def Kd(K:zel)(a CH CT CP PT PP:Addr):Sp:=λb H Q _=>yt K a CH CT CP PT PP b H Q
structure KitX(K:zel)(CS CH CT CP:Addr):Prop where
 ss:tZ K (.ref CS) (.ref CS)=some true
 hs:tZ K (.ref CH) (.ref CS)=some false
 hh:tZ K (.ref CH) (.ref CH)=some true
 ts:tZ K (.ref CT) (.ref CS)=some false
 th:tZ K (.ref CT) (.ref CH)=some false
 tt:tZ K (.ref CT) (.ref CT)=some true
 ps:tZ K (.ref CP) (.ref CS)=some false
 ph:tZ K (.ref CP) (.ref CH)=some false
 pt:tZ K (.ref CP) (.ref CT)=some false
 pp:tZ K (.ref CP) (.ref CP)=some true
abbrev nTo:List Str:=["_law_way","_law_ground","_law_heap_here","_law_told_here","e"]
def E5:qk nTo GK (qg XI):=jM
abbrev NV(K:zel)(D C:Addr):TT:=tB (EI (Gq K (.ref D::JD)) (jd (jg 4) (jd (tC (.ref C)) Q1)))
abbrev NX(K:zel)(D:Addr)(z:Str):TS:=UE (x4 (jd (tC (.str z)) (jd (Bb K (.ref D::JD) (jg 4) "found") Q1))) (Qp 3)
def Ri{P:Program}{w:World}{K:zel}{mg:Str->Option Value}{base:Heap}{i:Addr}{j:Addr}{CH:Addr}{CT:Addr}{CP:Addr}{PT:Addr}{PP:Addr}{f D fX fA:Addr}{fd ag ae:zep}(F:jq K "_law_told" "_law_told" XI f fd)(T:Qv K mg)(hA:qM K mg "_law_ask" vg GK fA ae)(GA:qp P w K mg base (Qb P w) 15 fA ae GK (λvs H Q E=>KO i j PT PP vs H Q E\/KP K i CH CT CP PT PP vs H Q E))(C:k9 K mg D "NotSo" "NotSo.__init__" zt "found" j fX ag)(XS:Li K mg D CH CT CP)(Z:Ei K mg D j)(Y:KitX K j CH CT CP):qp P w K mg base q5 16 f fd GK (Kd K i CH CT CP PT PP):=by
 obtain⟨fH,_,B⟩:=XS.h;obtain⟨fT,_,p⟩:=XS.t;obtain⟨fP,_,o⟩:=XS.p;refine F.okK E5 λH Q E hr z=>?_;obtain⟨w,aa,v,rs,rfl,hw,gr,good,le,af,q⟩:=z;refine⟨_,qd (qy 3 Zq)
  (qd (DN rfl rfl (λ_ W E i=>qe (qy 3 (qC (qV qv (FZ hA GA i (by rfl) (ZV (jv 0) (jv 1) (jv 2)))))))
   (RP (j:=4) (ts:=UC (NV K D j) (NX K D "not") (UC (NV K D CH) (NX K D "heap") (UC (NV K D CT) (NX K D "many") (UC (NV K D CP) (NX K D "place") UB)))) (by rfl) Z.nD Z.cD E5.nd rfl rfl
    (λv E=>qe (qA (jA (qx (JM Z.spc Z.tks) (by rfl) T.isi boot_isinstance (qV (jv 4) (Qt (by rfl) C.ns rfl)))) (qe (qy 3 (qC (qV qv (Xk (jv 4) rfl))))) (qe (qA (jA (qx (JM Z.spc Z.tks) (by rfl) T.isi boot_isinstance (qV (jv 4) (Qt (by rfl) B.ns rfl)))) (qe (qy 3 (qC (qV qv (Xk (jv 4) rfl))))) (qe (qA (jA (qx (JM Z.spc Z.tks) (by rfl) T.isi boot_isinstance (qV (jv 4) (Qt (by rfl) p.ns rfl)))) (qe (qy 3 (qC (qV qv (Xk (jv 4) rfl))))) (qe (qA (jA (qx (JM Z.spc Z.tks) (by rfl) T.isi boot_isinstance (qV (jv 4) (Qt (by rfl) o.ns rfl)))) (qe (qy 3 (qC (qV qv (Xk (jv 4) rfl))))) (qr))))))))) RO))
  (qe (qo (jv 3)))),?_⟩
 have lk:∀y:V,([(zem "found",y)]:List (Str×V)).lookup (zem "found")=some y:=λy=>by simp [zbc]
 rcases q with ⟨h,hs,rfl,w2,hh,q⟩ | ⟨C0,J,z,bad,wd,q⟩
 ·refine⟨λl d r=>l=j/\Same H r/\∃z R,r d=some (.xd [(zem "found",.str z)])/\QO rs R/\YM rs R hs w (.no z),⟨_,rfl,_,rfl,_,rfl,.inl ⟨w,aa,h,rs,hs,rfl,w2,⟨gr,good,le,hh⟩,af,λR all ah e=>?_⟩⟩,?_⟩
  ·cases ah with
   | mv m=>exact λO u g x=>⟨sz,λt i=>⟨_,rfl,q R all _ e _ t (g.trans (qi i)).keep ⟨u,qc,(qi i) _ _ x⟩⟩⟩
   | ms ai=>exact λO L u g x U mv=>⟨sz,λt i=>⟨_,rfl,q R all _ e _ t (g.trans (qi i)).keep ⟨L,u,x,qc,(qi i) _ _ U,mv.mono (qi i)⟩⟩⟩
   | no z=>exact λH1 d s1 h1=>⟨rfl,j,d,rfl,rfl,rfl,s1,z,R,h1,all,e⟩
  rintro a l d T' r O ⟨rfl,U,z,R,u,all,hz⟩ ha kp e;have ab:d≠a:=λz=>by
   rw[z,ha]at u;cases u
  have g:=kp d _ ab u;have k1:Qa H O:=λb ac x nx=>kp b ac (λz=>by
   rw[z]at x;have:=U _ _ x;rw[ha]at this;exact nx _ (tF.inj this).symm) (U _ _ x)
  refine⟨fX,_,C.mkr,?_⟩;rw[if_pos (by simp [zbB])];exact⟨_,rfl,a,_,d,_,_,.ref l,true,rfl,rfl,e,g,C.cls,Y.ss,_,rfl,jX ⟨_,rfl,a,_,d,_,_,.str z,rfl,e,g,C.cls,C.na,lk _,sz,λt i=>⟨_,rfl,q R all _ hz _ t (k1.trans (qi i).keep) qc⟩⟩⟩
 ·refine⟨λl d r=>l=C0/\Same H r/\r d=some (.xd [(zem "found",J)]),⟨_,rfl,_,rfl,_,rfl,.inr ⟨w,aa,v,rfl,hw,af,aa,rs,v,J,C0,rfl,gr,good,le,bad,λH1 d s1 h1=>⟨rfl,C0,d,rfl,rfl,rfl,s1,h1⟩⟩⟩,?_⟩;rintro a l d T' r O ⟨rfl,U,u⟩ ha kp e;have ab:d≠a:=λz=>by
   rw[z,ha]at u;cases u
  have g:=kp d _ ab u;have k1:Qa H O:=λb ac x nx=>kp b ac (λz=>by
   rw[z]at x;have:=U _ _ x;rw[ha]at this;exact nx _ (tF.inj this).symm) (U _ _ x)
  rcases wd with ⟨rfl,rfl⟩ | ⟨rfl,rfl⟩ | ⟨rfl,rfl⟩
  ·refine⟨fH,_,B.mkr,?_⟩;rw[if_pos (by simp [zbB])];exact⟨_,rfl,a,_,d,_,_,.ref j,false,rfl,rfl,e,g,B.cls,Y.hs,_,rfl,jo ⟨_,rfl,a,_,d,_,_,.ref l,true,rfl,rfl,e,g,B.cls,Y.hh,_,rfl,jX ⟨_,rfl,a,_,d,_,_,J,rfl,e,g,B.cls,B.na,lk _,sz,λt i=>⟨_,rfl,q _ t (k1.trans (qi i).keep) qc⟩⟩⟩⟩
  ·refine⟨fT,_,p.mkr,?_⟩;rw[if_pos (by simp [zbB])];exact⟨_,rfl,a,_,d,_,_,.ref j,false,rfl,rfl,e,g,p.cls,Y.ts,_,rfl,jo ⟨_,rfl,a,_,d,_,_,.ref CH,false,rfl,rfl,e,g,p.cls,Y.th,_,rfl,jo ⟨_,rfl,a,_,d,_,_,.ref l,true,rfl,rfl,e,g,p.cls,Y.tt,_,rfl,jX ⟨_,rfl,a,_,d,_,_,J,rfl,e,g,p.cls,p.na,lk _,sz,λt i=>⟨_,rfl,q _ t (k1.trans (qi i).keep) qc⟩⟩⟩⟩⟩
  ·refine⟨fP,_,o.mkr,?_⟩;rw[if_pos (by simp [zbB])];exact⟨_,rfl,a,_,d,_,_,.ref j,false,rfl,rfl,e,g,o.cls,Y.ps,_,rfl,jo ⟨_,rfl,a,_,d,_,_,.ref CH,false,rfl,rfl,e,g,o.cls,Y.ph,_,rfl,jo ⟨_,rfl,a,_,d,_,_,.ref CT,false,rfl,rfl,e,g,o.cls,Y.pt,_,rfl,jo ⟨_,rfl,a,_,d,_,_,.ref l,true,rfl,rfl,e,g,o.cls,Y.pp,_,rfl,jX ⟨_,rfl,a,_,d,_,_,J,rfl,e,g,o.cls,o.na,lk _,sz,λt i=>⟨_,rfl,q _ t (k1.trans (qi i).keep) qc⟩⟩⟩⟩⟩⟩
open PyProof.Rows hiding K lo
abbrev zR:Stmt:=top 97
abbrev ve:Stmt:=top 98
inductive KB(vs:List V)(H:Hp)(Q:VK):Prop
 | mk (ns:List Nat):(vs=[.int (setN ns:Nat)])->((∀x∈ns,x < 16))->(Q (.int (lackN ns:Nat)) H)->KB vs H Q
def EU:Sp:=λa H Q _=>KB a H Q
def Nx{b n:Nat}:decide (V.int (Builtin.bitAnd ((b:Int) / 2^ ((n:Nat):Int).toNat) 1)=V.int 1)=b.testBit n:=by
 rw[Xb];cases b.testBit n<;>decide
abbrev nLk:List Str:=["_law_bits","_law_number"]
def Ig:qk nLk ["_law_bits"] (qg zR):=jM
def wP(F:jq K "_law_lacks" "_law_lacks" zR f g):qp P w K mg base q5 1 f g ["_law_bits"] EU:=by
 refine F.okK Ig λH Q E hr z=>?_;obtain⟨g,rfl,lt,q⟩:=z;refine⟨_,qd (qy 1 qh)
  (qd (ZQ PassesOwn.never (qj qT (qN VT (qN VR (jv 0) (jv 1)) qh) qh) (qe (qy 1 (qN QR (jv 1) qh))))
  (qe (qo (jv 1)))),?_⟩
 have lk:=lackI_lacks g;have lk:Lacks (lackN g) g:=lk;refine ZF (λj G=>∃n:Nat,j=[some (.int (setN g:Nat)),some (.int (n:Nat))]/\G=H/\n<=lackN g) (λj _=>lackN g - (match j with | [_,some (.int n)]=>n.toNat | _=>0)) ⟨0,rfl,rfl,zao _⟩ ?_ ?_
 ·rintro j G ⟨n,rfl,rfl,le⟩;refine⟨_,rfl,_,rfl,_,_,rfl,rfl,by omega,_,_,rfl,rfl,rfl,_,rfl,?_⟩;rw[Nx,testBit_setN];by_cases c:n∈g
  ·have lt:=Nat.lt_of_le_of_ne le λe=>lk.1 (e▸c);exact qK (decide_eq_true c) ⟨_,rfl,_,_,rfl,rfl,⟨n+1,rfl,rfl,lt⟩,by show lackN g - (n+1:Int).toNat < lackN g - (n:Int).toNat;omega⟩
  ·have e:=Nat.le_antisymm le (zdq λz=>c (lk.2 n z));exact qI (decide_eq_false c) ⟨_,rfl,e▸q⟩
 ·rintro j G Q _ g ⟨a,l,b,m,i,o,p,r,u,c,d,x,y,B,k,C,q⟩;exact⟨a,l,b,m,i,o,p,r,u,c,d,x,y,B,k,C,g _ _ q⟩
abbrev nTt:List Str:=["_law_labels_here","_law_heap_here","_law_total_here","_law_name"]
def HY:qk nTt ["_law_labels_here","_law_heap_here"] (qg ve):=jM
def M7(F:jq K "_law_total" "_law_total" ve f a):qp P w K mg base q5 1 f a ["_law_labels_here","_law_heap_here"] Kv:=by
 refine F.okK HY λH Q E hr z=>?_;obtain⟨D,h,a,R,b,rfl,g,d,q⟩:=z;refine⟨_,qd (qy 2 qh)
  (qd (qX (qB (jv 1)) (qF 3)
   (qe (qA (qj qT (qD qJ (qO (jv 0) (jv 3)) qh) qv)
    (qe (qy 2 (qN XX (jv 2) (qD qJ (qO (jv 0) (jv 3)) qh)))) qr)))
  (qe (qo (jv 2)))),?_⟩
 refine⟨_,rfl,h,rfl,⟨_,.of d.at_⟩,je (λi e G=>∃v,e=[some (.ref D),some (.ref h),some (.int (j0 a R (b.take i):Nat)),v]/\G=H) ⟨none,rfl,rfl⟩ (λi e G _ ⟨_,_,s⟩=>.of (s▸d.at_)) ?_ ?_⟩
 ·rintro i y e G j ⟨v,rfl,rfl⟩;obtain⟨z,l,m,rfl⟩:=jU j;obtain⟨_,o,_,j⟩:=g.at_;obtain⟨p,r,u⟩:=d.in_ z m;obtain⟨t,g,d⟩:=j p r;rw[u]at g d;have j:jZ G D (.str z) (some (.ref t)):=by rw[<-g];exact jZ.k (k:=(Sum.inr z:qZ)) o
  have m:(b.take (i+1)).map (wT a R)=(b.take i).map (wT a R)++[wT a R z]:=by rw[tN,l,tA];rfl
  unfold jV at d;cases g:qz R z with
  | some n=>
   rw[g]at d;have l:j0 a R (b.take (i+1))=j0 a R (b.take i)^^^n:=by unfold j0;rw[m,J5,zp g,xorAll_snoc]
   refine⟨_,rfl,_,rfl,D,_,rfl,j,t,_,0,_,rfl,rfl,.of d,rfl,rfl,_,rfl,qK (decide_eq_true rfl) ⟨_,rfl,_,rfl,_,rfl,D,_,rfl,j,t,_,1,_,rfl,rfl,.of d,rfl,_,_,rfl,rfl,some (.str z),?_,rfl⟩⟩;rw[l,<-bx];rfl
  | none=>
   rw[g]at d;have l:j0 a R (b.take (i+1))=j0 a R (b.take i):=by unfold j0;rw[m,J5,Ze g,zaj]
   exact⟨_,rfl,_,rfl,D,_,rfl,j,t,_,0,_,rfl,rfl,.of d,rfl,rfl,_,rfl,qI (by decide+kernel) ⟨some (.str z),by rw[l];rfl,rfl⟩⟩
 ·rintro e G ⟨v,rfl,rfl⟩;rw[tc,tv (tp _)];exact⟨_,rfl,q G (Same.refl G)⟩
open PyProof.Rows hiding K lo
def WD(R:Rs Str)(hs:List Str):List Nat:=(t9 hs.length).filter λa=>(qz R (jS hs a)).isNone
def Xx{hs:List Str}(h:i < hs.length):jS hs i=hs[i]:=by
 unfold jS;rw[zaq,tj h];rfl
def R8(hs:List Str):hs=(t9 hs.length).map (jS hs):=by
 refine List.ext_getElem (by simp) λi a _=>?_;rw[List.getElem_map,List.getElem_range,Xx a]
def kR(R:Rs Str)(hs:List Str):WA R hs=(WD R hs).map (jS hs):=by
 unfold WA WD;conv=>lhs;rw[R8 hs,zbx]
 rfl
def Uy(e:WD R hs=a::b):a < hs.length/\qz R (jS hs a)=none/\hs.idxOf (jS hs a)=a/\∀j,j < a->qz R (jS hs j)≠none:=by
 have mem:∀j,j∈WD R hs↔j < hs.length/\qz R (jS hs j)=none:=λj=>by
  unfold WD;rw[tP,zaC,zdi]
 have srt:(WD R hs).Pairwise (· < ·):=zdn.filter _ List.pairwise_lt_range;obtain⟨b,d⟩:=(mem a).mp (e▸tX);have hQ:∀j,j < a->qz R (jS hs j)≠none:=λj f n=>by
  have:=(mem j).mpr ⟨by omega,n⟩;rw[e]at this srt;rcases tH.mp this with rfl | c
  ·exact zan _ f
  ·have:=(zdg.mp srt).1 j c;omega
 refine⟨b,d,?_,hQ⟩;have f:=zcY (Q8 b);have g:jS hs (hs.idxOf (jS hs a))=jS hs a:=by
  rw[Xx f];exact zdW f
 rcases zaB (hs.idxOf (jS hs a)) a with c | c | c
 ·exact absurd (by rw[g];exact d) (hQ _ c)
 ·exact c
 ·exfalso;have:hs.idxOf (jS hs a)<=a:=by
   have d:hs=hs.take a++jS hs a::hs.drop (a+1):=by
    have:=zdy b;rw[Xx b,this,zcH]
   generalize jS hs a=z at d;rw[d,List.idxOf_append];split
   ·have:=zcY ‹_›;rw[tL]at this;omega
   ·rw[List.idxOf_cons_self,tL];omega
  omega
def V2{p:Str->Bool}:∀n,(Qm rs hs n).filter (λm=>decide (m.1=a)&&p m.2)=if a < n then ((QM rs (jS hs a)).filter p).map (λy=>(a,y)) else []
 | 0=>rfl
 | n+1=>by
  rw[zZ,zay,V2 n];unfold Es;rw[zbx];by_cases c:n=a
  ·subst c;rw[if_neg (zan _),if_pos (zaF _),zcP];congr 1;refine zaX λy _=>?_;simp
  ·have:(QM rs (jS hs n)).filter ((λm:Nat×Str=>decide (m.1=a)&&p m.2) ∘ λe=>(n,e))=[]:=zbN.mpr λy _=>by simp [c]
   rw[this,zcb,zaj];by_cases d:a < n
   ·rw[if_pos d,if_pos (by omega)]
   ·rw[if_neg d,if_neg (by omega)]
def dT(rs:ju)(R:Rs Str)(hs:List Str)(a:Nat)(m:Nat×Str):Bool:=
 if 1 < (WD R hs).length then decide (m.1=a)&&(qz R m.2).isNone
 else if j0 rs R hs=lst rs R (jS hs a) then decide (m.1=a)&&VQ rs R (lst rs R (jS hs a)) m.2
 else decide (m.1≠a)&&((qz R m.2).isSome&&decide (j0 rs R (lf hs m)=lst rs R (jS hs a)))
def zE(e:WD R hs=f::o)(d:Z0 rs R hs m):((Qm rs hs hs.length).filter (dT rs R hs f)).head?=some m:=by
 obtain⟨l,p,j,_⟩:=Uy e;have g:=kR R hs;have le:(WA R hs).length=(WD R hs).length:=by rw[g,tc]
 obtain⟨q,i,d⟩:=d;have r:q=jS hs f:=by rw[g,e]at i;exact(tF.inj i).symm
 subst r;rw[j,le]at d;rcases d with ⟨c,i,hd⟩ | ⟨c,y,g,d⟩
 ·have:(Qm rs hs hs.length).filter (dT rs R hs f)=(Qm rs hs hs.length).filter (λm=>decide (m.1=f)&&(qz R m.2).isNone):=zaX λx _=>by unfold dT;rw[if_pos c]
  rw[this,V2 (p:=λz=>(qz R z).isNone),if_pos l,zdN];unfold WA at hd;rw[hd];show some (f,m.2)=some m;rw[<-i]
 ·have i:¬1 < (WD R hs).length:=by omega
  rcases d with ⟨j,rfl⟩ | ⟨j,d⟩
  ·have:(Qm rs hs hs.length).filter (dT rs R hs f)=(Qm rs hs hs.length).filter (λm=>decide (m.1=f)&&VQ rs R (lst rs R (jS hs f)) m.2):=zaX λx _=>by unfold dT;rw[if_neg i,if_pos j]
   rw[this,V2,if_pos l,zdN];unfold XW at g;rw[zdN]at g;cases c:((QM rs (jS hs f)).filter (VQ rs R (lst rs R (jS hs f)))).head? with
   | none=>rw[c]at g;cases g
   | some l=>rw[c]at g;cases g;rfl
  ·have:(Qm rs hs hs.length).filter (dT rs R hs f)=(Qm rs hs hs.length).filter (Ur rs R hs (lst rs R (jS hs f))):=zaX λx g=>by
    unfold dT Ur;rw[if_neg i,if_neg j,zba];have iff:qz R (jS hs x.1)≠none↔x.1≠f:=⟨λa b=>a (b▸p),λa b=>by
     have:x.1∈WD R hs:=by unfold WD;rw[tP,zaC,zdi];exact⟨(Qr g).1,b⟩
     rw[e]at this i;have f:o=[]:=zap (by rw[zae]at i;omega);rw[f]at this;exact a (by simpa using this)⟩
    simp only[zar,decide_eq_true_eq,iff,Option.isSome_iff_ne_none,ne_eq]
   rwa [this]
open PyProof.Rows hiding K lo
abbrev K6:Stmt:=top 99
def LH(H:Hp)(l D h:Addr)(ps:List Addr)(rs:ju)(R:Rs Str)(hs:List Str):Prop:=jJ H l ps rs/\ja H D rs R/\js H h rs hs
def LH.mono(x:LH H l D h ps rs R hs)(s:Same H H'):LH H' l D h ps rs R hs:=⟨x.1.mono s,x.2.1.mono s,x.2.2.mono s⟩
inductive KE(vs:List V)(H:Hp)(Q:VK):Prop
 | mk (l D h:Addr) (ps:List Addr) (rs:ju) (R:Rs Str) (hs:List Str):vs=[.ref l,.ref D,.ref h]->LH H l D h ps rs R hs->QO rs R->oW rs R hs=wD->(∀H' p m,Same H H'->H' p=some (.tup (Yz m))->Z0 rs R hs m->Q (.ref p) H')->KE vs H Q
def Bp:Sp:=λa H Q _=>KE a H Q
def xw{p:α->Bool}:∀{l:List α} {i:Nat},(∀j x,j < i->l[j]?=some x->p x=false)->l[i]?=some m->p m=true->(l.filter p).head?=some m
 | [],i,_,e,_=>by simp at e
 | a::l,0,_,e,h=>by
  cases e;rw[List.filter_cons_of_pos h];rfl
 | a::l,i+1,lo,e,h=>by
  rw[List.filter_cons_of_neg (by rw[lo 0 a (Nat.succ_pos _) rfl];decide)];exact xw (λj x hj ex=>lo (j+1) x (Nat.succ_lt_succ hj) ex) e h
def Nw{b n:Nat}:decide (V.int (Builtin.bitAnd ((b:Int) / 2^ ((n:Nat):Int).toNat) 1)=V.int 0)= !b.testBit n:=by
 rw[Xb];cases b.testBit n<;>decide
def Ep(R:Rs Str)(hs:List Str)(j:Nat):List Nat:=(t9 j).filter λi=>(qz R (jS hs i)).isNone
def Uz(e:hs[j]?=some z):Ep R hs (j+1)=Ep R hs j++(if (qz R z).isNone=true then [j] else []):=by
 have a:=(td.mp e).1;have b:jS hs j=z:=by rw[Xx a];rw[tj a]at e;exact tF.inj e
 unfold Ep;rw[zbQ,zay,<-b];congr 1;by_cases c:(qz R (jS hs j)).isNone=true
 ·rw[if_pos c];simp [c]
 ·rw[if_neg c];simpa using c
abbrev Uq:List Str:=["_law_rows_here","_law_labels_here","_law_heap_here"]
abbrev nDm:List Str:=["_law_rows_here","_law_labels_here","_law_heap_here","_law_tokens","_law_lacks_here","_law_token","_law_place","_law_label"]
def Iw:qk nDm Uq (qg K6):=jM
def Dm(F:jq K "_law_drawn_move" "_law_drawn_move" K6 f d)(B:QL mg)(T:Qv K mg)(p:qM K mg "_law_moves" Zg MS j r)(u:qp P w K mg base q5 1 j r MS zI)(l:qM K mg "_law_after" YR BN C J)(g:qM K mg "_law_total" ve ["_law_labels_here","_law_heap_here"] L O)(o:qM K mg "_law_lacks" zR ["_law_bits"] U Y):qp P w K mg base q5 2 f d Uq Bp:=by
 have GT:=pin P w mg base (M7 g.fn);refine F.okK Iw λH Q E hr z=>?_;obtain⟨ag,D,h,ps,j,R,d,rfl,r,all,C,q⟩:=z;refine⟨_,qd (QH (i:=3) (N':=["_law_token","_law_name","_law_labels_here"]) (ix:=[none,none,some 1]) (g:=AF K 2 (Wi (Qp 0) (Wi (Qp 1) AG))) (tt:=Zx (J0 BK (J0 (JQ K) (Zy (jg 2) (jg 1)) (tC (.int 0))) (tC (.str (zem "endless"))))) (z7 (by rfl) T.enu (jc (jv 2))) (λ_ L _ fp _=>
    ⟨JV rfl (jh (qF 0) (jh (qF 1) QX)),jt (qj qT (qD qJ (qO (jv 2) (jv 1)) qh) qv),jv 0⟩))
  (qd (qy 4 (qE o (pin P w mg base (wP o.fn)) (jc (qD qJ (qO (jv 1) (qD jj (jv 2) (qD jj (jv 3) qh))) qh))))
  (qd (qX (qB (qE p u (qV (jv 0) (jv 2)))) (JV rfl (jh (qF 5) (jh (qF 6) QX)))
   (qd (qy 7 (qO (jv 1) (jv 6)))
   (qd (qA (JW.pt (jN (qj ZM (qx qL (by rfl) B.len boot_len (jc (jv 3))) qh) (jN (qj qT (jv 5) (qD jj (jv 3) qh)) (jK (qj qT (qD qJ (jv 7) qh) qv))))) (qe (qo (qC (qV (jv 5) (jv 6))))) qr)
   (qe (qA (JW.pt (jN (qj qT (qx qL (by rfl) B.len boot_len (jc (jv 3))) qh) (jK (qj qT (qE g GT (qV (jv 1) (jv 2))) (jv 4)))))
    (qe (qA (JW.pt (jN (qj qT (jv 5) (qD jj (jv 3) qh)) (jN (qj qT (qD qJ (jv 7) qh) qv) (jK (qj qT (qN VT (qN VR (qD qJ (jv 7) qh) (jv 4)) qh) qh))))) (qe (qo (qC (qV (jv 5) (jv 6))))) qr))
    (qe (qA (JW.pt (jN (qj qT (qx qL (by rfl) B.len boot_len (jc (jv 3))) qh) (jN (qj XY (jv 5) (qD jj (jv 3) qh)) (jK (qj qT (qD qJ (jv 7) qh) qv)))))
     (qe (qA (qj qT (qE g GT (qV (jv 1) (qE l (pin P w mg base (Xh l.fn)) (qV (jv 2) (qC (qV (jv 5) (jv 6))))))) (jv 4)) (qe (qo (qC (qV (jv 5) (jv 6))))) qr)) qr)))))))
  (qe (qo Zq)))),?_⟩
 have ⟨ga,lb,u⟩:=r;have good:=ga.good;have hi:=u.in_;obtain⟨_,d0⟩:=xD good all hi C;obtain⟨l,tl,et⟩:∃l tl,WD R d=l::tl:=by
  cases c:WD R d with
  | nil=>
   obtain⟨_,hz,_⟩:=d0;rw[kR,c]at hz;cases hz
  | cons a b=>exact⟨a,b,rfl⟩
 obtain⟨h1,h2,_,_⟩:=Uy et;have fst:=zE et d0;have nm:∀{z:Str},(∃J∈j,J.1=z)->z∈j.map (·.1):=λ⟨J,ac,e⟩=>tz.mpr ⟨J,ac,e⟩;refine⟨_,rfl,h,rfl,⟨_,.of u.at_⟩,λW hW=>Nv (λg O G=>∃v0 v1,O=[v0,v1,some (.ref D)]/\Same H G/\G W=some (.lst (Jw (Ep R d g)))) ⟨none,none,rfl,qi hW,qc⟩ (λg O G _ ⟨_,_,_,sx,_⟩=>.of (sx _ _ u.at_)) ?_ ?_⟩
 ·rintro g y O G o U C ⟨v0,v1,rfl,p,r⟩;obtain⟨z,ez,hz,rfl⟩:=jU U;have hj:=(td.mp ez).1;have Y:Same G (upd G o (.tup [.int (g:Nat),.str z])):=qi C;have he:upd G o (.tup [.int (g:Nat),.str z]) o=some (.tup [.int (g:Nat),.str z]):=qc;generalize upd G o (.tup [.int (g:Nat),.str z])=C at Y he;obtain⟨t,gd,C⟩:=zB (lb.mono (p.trans Y)) (hi z hz);refine⟨o,_,rfl,.of he,rfl,_,_,rfl,_,_,rfl,rfl,?_⟩;unfold jV at C;cases o:qz R z with
  | some n=>
   rw[o]at C;refine⟨_,rfl,_,rfl,D,_,rfl,gd,t,_,0,_,rfl,rfl,.of C,rfl,rfl,_,rfl,qI (by decide+kernel) ⟨_,_,rfl,p.trans Y,?_⟩⟩;rw[Uz ez,o,if_neg (λz=>nomatch z),zaj];exact Y _ _ r
  | none=>
   rw[o]at C;have lW:(Jw (Ep R d g)).length < zeq:=by
    rw[QY];have:(Ep R d g).length<=g:=by have:=zam (λi=>(qz R (jS d i)).isNone) (t9 g);rwa [zal]at this
    have:=u.le;exact ql (by omega)
   refine⟨_,rfl,_,rfl,D,_,rfl,gd,t,_,0,_,rfl,rfl,.of C,rfl,rfl,_,rfl,qK (by decide+kernel) ⟨_,rfl,_,Y _ _ r,lW,_,_,rfl,Same.upd (p.trans Y) hW,?_⟩⟩;rw[Uz ez,o,if_pos (by decide),z8,qc]
 rintro O G ⟨v0,v1,rfl,p,r⟩;rw[tc]at r;have r:G W=some (.lst (Jw (WD R d))):=r;rw[et]at r;have at0:Vw (Jw (l::tl)) 0=some (.int (l:Nat)):=Yh;have Y:=hi _ (Q8 h1);obtain⟨t,gd,C⟩:=zB (lb.mono p) Y;unfold jV at C;rw[h2]at C;have aj:Vw (d.map V.str) (l:Nat)=some (.str (jS d l)):=QJ (by rw[tu,tj h1,Xx h1];rfl);refine⟨_,rfl,_,rfl,_,rfl,W,_,0,_,rfl,rfl,.of r,at0,h,_,_,_,rfl,rfl,.of (p _ _ u.at_),aj,D,_,rfl,gd,t,_,1,_,rfl,rfl,.of C,rfl,QW j (qz R) (jS d l),rfl,λx C=>?_,?_⟩
 ·obtain⟨y,U,ey⟩:=jz.mp C;have:=zA good (Wa (Qg good.nd) all) (Qg good.nd _ (nm Y) y U) ey;omega
 refine⟨_,rfl,_,rfl,ag,h,ps,j,d,rfl,ga.mono p,u.mono p,λH1 Y _ s1 _ C mv=>⟨Y,rfl,⟨_,.of C⟩,?_⟩⟩;have ah:=p.trans s1;refine je (λi O G=>∃v5 v6 v7,O=[some (.ref ag),some (.ref D),some (.ref h),some (.ref W),some (.int (lst j R (jS d l):Nat)),v5,v6,v7]/\Same H1 G/\∀g m,g < i->(Qm j d d.length)[g]?=some m->dT j R d l m=false)
  ⟨none,none,none,rfl,λ_ _ h=>h,λg m hj=>absurd hj (zbP _)⟩ (λi O G _ ⟨_,_,_,_,sx,_⟩=>.of (sx _ _ C)) ?_ ?_
 ·rintro i y O G2 U ⟨v5,v6,v7,rfl,L,no⟩;rw[tu]at U;obtain⟨ai,ep,rfl⟩:=zbz.mp U;obtain⟨m,em⟩:∃m,(Qm j d d.length)[i]?=some m:=⟨_,tj (by rw[<-mv.1];exact(td.mp ep).1)⟩;have hm:=tW em;have ae:=Qr hm;have min:∃J∈j,J.1=m.2:=by
   obtain⟨J,ac,e⟩:=tz.mp (Qg good.nd _ (nm (hi _ (Q8 ae.1))) _ ae.2);exact⟨J,ac,e⟩
  have ab:=ah.trans L;obtain⟨Y,ak,J⟩:=zB (lb.mono ab) min;have C:=L _ _ (s1 _ _ r);have done:dT j R d l m=true->∀p G3,Same H1 G3->G3 p=none->Q (.ref p) (upd G3 p (.tup (Yz m))):=λe p G3 s3 U=>by
   have:=xw no em e;rw[fst]at this;cases this;exact q _ p _ ((ah.trans s3).trans (qi U)) qc d0
  have cont:dT j R d l m=false->∀g r,g < i+1->(Qm j d d.length)[g]?=some r->dT j R d l r=false:=λe g r hj ej=>by
   rcases zbj g i with c | c
   ·exact no g r c ej
   ·obtain rfl:g=i:=by omega
    rw[em]at ej;cases ej;exact e
  refine⟨ai,_,rfl,.of (L _ _ (mv.2 i ai m ep em)),rfl,_,_,rfl,_,_,rfl,rfl,⟨_,rfl,_,rfl,D,_,rfl,ak,⟨_,rfl,W,_,rfl,.inl (.of C),_,_,rfl,rfl,_,rfl,?_⟩⟩⟩;have ln:((Jw (l::tl)).length:Int)=((WD R d).length:Int):=by rw[QY,et]
  rw[ln];by_cases r:1 < (WD R d).length
  ·have n1:decide (V.int ((WD R d).length:Nat)=V.int 1)=false:=decide_eq_false λz=>by have:=V.int.inj z;omega
   refine qK (decide_eq_true (by omega)) ⟨_,rfl,_,rfl,W,_,0,_,rfl,rfl,.of C,at0,rfl,_,rfl,?_⟩;by_cases e:m.1=l
   ·refine qK (decide_eq_true (by rw[e])) ?_;unfold jV at J;cases o:qz R m.2 with
    | none=>
     rw[o]at J;exact⟨_,rfl,Y,_,0,_,rfl,rfl,.of J,rfl,rfl,_,rfl,qK (by decide+kernel) ⟨_,rfl,_,rfl,sz,λp U=>done (by unfold dT;rw[if_pos r];simp [e,o]) p _ L U⟩⟩
    | some n=>
     rw[o]at J;refine⟨_,rfl,Y,_,0,_,rfl,rfl,.of J,rfl,rfl,_,rfl,qI (by decide+kernel) ⟨_,rfl,W,_,rfl,.inl (.of C),rfl,_,rfl,?_⟩⟩;rw[ln];refine qI n1 ⟨_,rfl,W,_,rfl,.inl (.of C),rfl,_,rfl,?_⟩;rw[ln];exact qI n1 ⟨_,_,_,rfl,L,cont (by unfold dT;rw[if_pos r];simp [e,o])⟩
   ·refine qI (decide_eq_false λz=>e (by have:=V.int.inj z;omega)) ⟨_,rfl,W,_,rfl,.inl (.of C),rfl,_,rfl,?_⟩;rw[ln];refine qI n1 ⟨_,rfl,W,_,rfl,.inl (.of C),rfl,_,rfl,?_⟩;rw[ln];exact qI n1 ⟨_,_,_,rfl,L,cont (by unfold dT;rw[if_pos r];simp [e])⟩
  ·have l1:(WD R d).length=1:=by
    have:=congrArg zas et;rw[zae]at this;omega
   have n1:decide (V.int ((WD R d).length:Nat)=V.int 1)=true:=by rw[l1];decide
   refine qI (decide_eq_false (by omega)) ⟨_,rfl,W,_,rfl,.inl (.of C),rfl,_,rfl,?_⟩;rw[ln];refine qK n1 ⟨_,rfl,_,rfl,D,h,j,R,d,rfl,lb.mono ab,u.mono ab,λG3 s3=>⟨_,rfl,rfl,_,rfl,?_⟩⟩;have aa:=L.trans s3;have af:=s3 _ _ C;have C:=s3 _ _ J;unfold jV at C;by_cases J:j0 j R d=lst j R (jS d l)
   ·refine qK (decide_eq_true (by rw[J])) ⟨_,rfl,_,rfl,W,_,0,_,rfl,rfl,.of af,at0,rfl,_,rfl,?_⟩;by_cases e:m.1=l
    ·refine qK (decide_eq_true (by rw[e])) ?_;cases o:qz R m.2 with
     | some n=>
      rw[o]at C;exact⟨_,rfl,Y,_,0,_,rfl,rfl,.of C,rfl,rfl,_,rfl,qI (by decide+kernel) ⟨_,_,_,rfl,aa,cont (by unfold dT VQ;rw[if_neg r,if_pos J];simp [o])⟩⟩
     | none=>
      rw[o]at C;refine⟨_,rfl,Y,_,0,_,rfl,rfl,.of C,rfl,rfl,_,rfl,qK (by decide+kernel) ⟨_,rfl,Y,_,1,_,rfl,rfl,.of C,rfl,_,rfl,_,_,rfl,rfl,by omega,_,_,rfl,rfl,rfl,_,rfl,?_⟩⟩;rw[Nw,testBit_setN];by_cases kk:lst j R (jS d l)∈QW j (qz R) m.2
      ·exact qI (by simp [kk]) ⟨_,_,_,rfl,aa,cont (by unfold dT VQ;rw[if_neg r,if_pos J];simp [kk])⟩
      ·exact qK (by simp [kk]) ⟨_,rfl,_,rfl,sz,λp U=>done (by unfold dT VQ;rw[if_neg r,if_pos J];simp [e,o,kk]) p _ aa U⟩
    ·exact qI (decide_eq_false λz=>e (by have:=V.int.inj z;omega)) ⟨_,_,_,rfl,aa,cont (by unfold dT;rw[if_neg r,if_pos J];simp [e])⟩
   ·refine qI (decide_eq_false λz=>J (by have:=V.int.inj z;omega)) ⟨_,rfl,W,_,rfl,.inl (.of af),rfl,_,rfl,?_⟩;rw[ln];refine qK n1 ⟨_,rfl,_,rfl,W,_,0,_,rfl,rfl,.of af,at0,rfl,_,rfl,?_⟩;by_cases e:m.1=l
    ·exact qI (by rw[e];simp) ⟨_,_,_,rfl,aa,cont (by unfold dT;rw[if_neg r,if_neg J];simp [e])⟩
    ·refine qK (by have:¬V.int (m.1:Int)=V.int (l:Int):=λz=>e (by have:=V.int.inj z;omega);simpa using this) ?_;cases o:qz R m.2 with
     | none=>
      rw[o]at C;exact⟨_,rfl,Y,_,0,_,rfl,rfl,.of C,rfl,rfl,_,rfl,qI (by decide+kernel) ⟨_,_,_,rfl,aa,cont (by unfold dT;rw[if_neg r,if_neg J];simp [o])⟩⟩
     | some n=>
      rw[o]at C;refine⟨_,rfl,Y,_,0,_,rfl,rfl,.of C,rfl,rfl,_,rfl,qK (by decide+kernel) ⟨_,rfl,_,rfl,_,rfl,_,rfl,sz,λp U=>?_⟩⟩;have C:Same G3 (upd G3 p (.tup (Yz m))):=qi U;refine⟨h,p,d,m,rfl,C _ _ (s3 _ _ (ab _ _ u.at_)),u.le,qc,ae.1,λ_ l5 s5 _ al=>?_⟩;have Y:=C.trans s5;refine⟨D,l5,j,R,lf d m,rfl,(lb.mono ab).mono (s3.trans Y),⟨al,by unfold lf;rw[zbb];exact u.le,J7 good hi hm⟩,λ_ C=>⟨_,rfl,rfl,_,rfl,?_⟩⟩;have u:=aa.trans (Y.trans C);by_cases tk:j0 j R (lf d m)=lst j R (jS d l)
      ·exact qK (decide_eq_true (by rw[tk])) ⟨_,rfl,_,rfl,sz,λp U=>done (by unfold dT;rw[if_neg r,if_neg J];simp [e,o,tk]) p _ u U⟩
      ·exact qI (decide_eq_false λz=>tk (by have:=V.int.inj z;omega)) ⟨_,_,_,rfl,u,cont (by unfold dT;rw[if_neg r,if_neg J];simp [tk])⟩
 ·rintro O G2 ⟨v5,v6,v7,rfl,L,no⟩;exfalso;have:(Qm j d d.length).filter (dT j R d l)=[]:=zbN.mpr λm hm=>by
   obtain⟨g,hj⟩:=zaS hm;have d:=(td.mp hj).1;rw[no g m (by rwa [tc,mv.1]) hj];decide
  rw[this]at fst;cases fst
open PyProof.Rows hiding K lo
abbrev K5:Stmt:=top 100
inductive Ky(vs:List V)(H:Hp)(Q:VK):Prop
 | mk (l D h:Addr) (ps:List Addr) (rs:ju) (R:Rs Str) (hs:List Str):vs=[.ref l,.ref D,.ref h]->LH H l D h ps rs R hs->QO rs R->(0 < (ZD rs R hs).length)->(∀H' p m,Same H H'->H' p=some (.tup (Yz m))->YZ rs R hs m->Q (.ref p) H')->Ky vs H Q
def Bn:Sp:=λa H Q _=>Ky a H Q
def ZB(R:Rs Str)(hs:List Str)(l:List (Nat×Str))(m:Nat×Str):Prop:=∃i:Nat,l[i]?=some m/\∀(b:Nat) (a:Nat×Str),l[b]?=some a->zd R (lf hs m)<=zd R (lf hs a)/\(b < i->zd R (lf hs m) < zd R (lf hs a))
def ZB.new(h:ZB R hs l b)(c:zd R (lf hs m) < zd R (lf hs b)):ZB R hs (l++[m]) m:=by
 obtain⟨i,e,g⟩:=h;refine⟨l.length,by simp,λd f a=>?_⟩;by_cases j:d < l.length
 ·rw[t7 j]at a;have:=(g d f a).1;exact⟨by omega,λ_=>by omega⟩
 ·have g:d=l.length:=by
   have:=(td.mp a).1;rw[tx,zax]at this;omega
  subst g;rw[tY (tp _),zbO]at a;obtain rfl:m=f:=by simpa using a
  exact⟨tp _,λz=>absurd z (zan _)⟩
def ZB.old(h:ZB R hs l b)(c:¬zd R (lf hs m) < zd R (lf hs b)):ZB R hs (l++[m]) b:=by
 obtain⟨i,e,g⟩:=h;have a:=(td.mp e).1;refine⟨i,by rwa [t7 a],λd f a=>?_⟩;by_cases j:d < l.length
 ·rw[t7 j]at a;exact g d f a
 ·have g:d=l.length:=by
   have:=(td.mp a).1;rw[tx,zax]at this;omega
  subst g;rw[tY (tp _),zbO]at a;obtain rfl:m=f:=by simpa using a
  exact⟨by omega,λz=>by omega⟩
def ZB.one(R:Rs Str)(hs:List Str)(m:Nat×Str):ZB R hs [m] m:=⟨0,rfl,λa d b=>by
 cases a with
 | zero=>obtain rfl:m=d:=by simpa using b
         exact⟨tp _,λz=>absurd z (zan _)⟩
 | succ a=>simp at b⟩
abbrev nWm:List Str:=["_law_rows_here","_law_labels_here","_law_heap_here","_law_best","_law_move","_law_left","_law_steps"]
def HX:qk nWm Uq (qg K5):=jM
def Dk(F:jq K "_law_won_move" "_law_won_move" K5 f a)(B:QL mg)(T:Qv K mg)(o:qM K mg "_law_moves" Zg MS d g)(GM:qp P w K mg base q5 1 d g MS zI)(j:qM K mg "_law_after" YR BN p r)(l:qM K mg "_law_outcome" XJ ["_law_labels_here","_law_heap_here"] u C):qp P w K mg base q5 2 f a Uq Bn:=by
 refine F.okK HX λH Q E hr z=>?_;obtain⟨ab,D,h,p,d,R,a,rfl,⟨ga,lb,g⟩,all,ne,q⟩:=z;have good:=ga.good;refine⟨_,qd (qy 3 Zq)
  (qd (qX (qB (qE o GM (qV (jv 0) (jv 2)))) (qF 4)
   (qd (qy 5 (qE j (pin P w mg base (Xh j.fn)) (qV (jv 2) (jv 4))))
   (qe (qA (qj qT (qE l (pin P w mg base (VW l.fn B)) (qV (jv 1) (jv 5))) qv)
    (qd (qy 6 (qx (YJ rfl) (by rfl) T.sum boot_sum (jc (jP (N':=["_law_name","_law_labels_here"]) (ix:=[none,some 1]) (te:=J0 (JQ K) (Zy (jg 1) (jg 0)) (tC (.int 2))) (qB (jv 5)) (λ_ u _ fp _=>
   ⟨qF 0,j2,qD qJ (qO (jv 1) (jv 0)) qh⟩)))))
    (qe (qA (JW.pt (zi (qj C4 (jv 3) Zq) (JU (qj Q7 (jv 6) (qD qJ (jv 3) qh)))))
     (qe (qy 3 (qC (qV (jv 4) (jv 6))))) qr))) qr))))
  (qe (qo (qD qJ (jv 3) qh)))),?_⟩
 refine⟨_,rfl,_,rfl,ab,h,p,d,a,rfl,ga,g,λH1 L qs s1 _ r mv=>⟨L,rfl,⟨_,.of r⟩,?_⟩⟩;have l8:=g.le;have ah:∀m∈Qm d a a.length,∀{G:Hp} {o:Addr},G o=some (.lst ((lf a m).map V.str))->js G o d (lf a m):=λm j G o e=>⟨e,by unfold lf;rwa [zbb],J7 good g.in_ j⟩;refine je (λi σ G=>∃l O U vs,σ=[some (.ref ab),some (.ref D),some (.ref h),some l,O,U,vs]/\Same H1 G/\
   ((((Qm d a a.length).take i).filter (λm=>decide (oW d R (lf a m)=zem "lost"))=[]/\l=.non)\/∃t j m,l=.ref t/\G t=some (.tup [.ref j,.int (zd R (lf a m):Nat)])/\G j=some (.tup (Yz m))/\ZB R a (((Qm d a a.length).take i).filter λm=>decide (oW d R (lf a m)=zem "lost")) m))
  ⟨_,_,_,_,rfl,Same.refl _,.inl ⟨rfl,rfl⟩⟩ (λi σ G _ ⟨_,_,_,_,_,p,_⟩=>.of (p _ _ r)) ?_ ?_
 ·rintro i y σ G C ⟨l,O,U,vs,rfl,p,hB⟩;rw[tu]at C;cases J:qs[i]? with
  | none=>rw[J]at C;cases C
  | some r=>
   rw[J]at C;obtain rfl:=(tF.inj C).symm;have C:i < (Qm d a a.length).length:=by rw[<-mv.1];exact(td.mp J).1
   have em:=tj C;have aa:=zbo C;have ae:=mv.2 i r _ J em;generalize (Qm d a a.length)[i]=m at em aa ae;have C:=s1.trans p;refine⟨_,rfl,_,rfl,h,r,a,m,rfl,C _ _ g.at_,l8,p _ _ ae,(Qr aa).1,λ_ o u _ J=>?_⟩;have ai:=C.trans u;refine⟨_,rfl,_,rfl,D,o,d,R,lf a m,rfl,lb.mono ai,ah m aa J,X1 good all (J7 good g.in_ aa),λg C=>⟨rfl,_,rfl,?_⟩⟩;have ac:=p.trans (u.trans C);have af:=C _ _ J;have J:((Qm d a a.length).take (i+1)).filter (λm=>decide (oW d R (lf a m)=zem "lost"))=((Qm d a a.length).take i).filter (λm=>decide (oW d R (lf a m)=zem "lost"))++(if oW d R (lf a m)=zem "lost" then [m] else []):=by
    rw[tN,em,zay];congr 1;by_cases c:oW d R (lf a m)=zem "lost"<;>simp [c]
   by_cases c:oW d R (lf a m)=zem "lost"
   ·rw[if_pos c]at J;have put:∀{Y:Hp},Same g Y->∀t,Y t=none->ZB R a (((Qm d a a.length).take (i+1)).filter λm=>decide (oW d R (lf a m)=zem "lost")) m->∃l O U vs,[some (V.ref ab),some (.ref D),some (.ref h),some (.ref t),some (.ref r),some (.ref o),some (.int (zd R (lf a m):Nat))]=[some (V.ref ab),some (.ref D),some (.ref h),some l,O,U,vs]/\Same H1 (upd Y t (.tup [.ref r,.int (zd R (lf a m):Nat)]))/\
      ((((Qm d a a.length).take (i+1)).filter (λm=>decide (oW d R (lf a m)=zem "lost"))=[]/\l=.non)\/∃t' j g,l=.ref t'/\upd Y t (.tup [.ref r,.int (zd R (lf a m):Nat)]) t'=some (.tup [.ref j,.int (zd R (lf a g):Nat)])/\upd Y t (.tup [.ref r,.int (zd R (lf a m):Nat)]) j=some (.tup (Yz g))/\ZB R a (((Qm d a a.length).take (i+1)).filter λm=>decide (oW d R (lf a m)=zem "lost")) g):=λ{Y} sY t g b=>
     ⟨_,_,_,_,rfl,(ac.trans sY).trans (qi g),.inr ⟨t,r,m,rfl,qc,(qi g) _ _ ((ac.trans sY) _ _ ae),b⟩⟩
    refine qK (decide_eq_true (by rw[c])) ⟨_,rfl,o,rfl,⟨_,.of af⟩,λW r=>?_⟩;have o:=ah m aa af;refine QI (out:=λz=>some (V.int (Ja R z:Nat))) r af (ql (t8 o.le (by decide))) (λx r Y sY R' hR=>hR Y (Same.refl Y)) (λx r v ev Y sY R' hR=>?_) (λ_ s5 aj=>?_)
    ·cases ev;obtain⟨t,gd,g⟩:=zB ((lb.mono (ai.trans C)).mono sY) (o.in_ x r);obtain⟨n,en⟩:=vv c x r;unfold jV at g;rw[en]at g;exact⟨_,rfl,_,rfl,D,_,rfl,gd,t,_,2,_,rfl,rfl,.of g,rfl,hR Y (Same.refl Y)⟩
    rw[xA]at aj;have r:=UH (hs:=lf a m) λz _=>u9 all ga.le z;have r:=o.le;refine⟨W,(lf a m).map (Ja R),rfl,.of (by rw[zaz];exact aj),?_,⟨_,rfl,rfl,_,rfl,?_⟩⟩
    ·show zd R (lf a m) < 2^62;omega
    rcases hB with ⟨e0,rfl⟩ | ⟨t,j,o,rfl,g,hp,r⟩
    ·exact qK (decide_eq_true rfl) ⟨_,rfl,_,rfl,sz,λt g=>put s5 t g (by rw[J,e0];exact ZB.one R a m)⟩
    ·have ag:=(u.trans C).trans s5;refine qI (decide_eq_false λz=>nomatch z) ⟨_,rfl,_,rfl,t,_,1,.int (zd R (lf a o):Nat),rfl,rfl,.of (ag _ _ g),rfl,_,_,rfl,rfl,_,rfl,?_⟩;by_cases c2:zd R (lf a m) < zd R (lf a o)
     ·exact qK (decide_eq_true (by show ((zd R (lf a m):Nat):Int) < _;omega)) ⟨_,rfl,_,rfl,sz,λt g=>put s5 t g (by rw[J];exact r.new c2)⟩
     ·exact qI (decide_eq_false (by show ¬((zd R (lf a m):Nat):Int) < _;omega)) ⟨_,_,_,_,rfl,ac.trans s5,.inr ⟨t,j,o,rfl,ag _ _ g,ag _ _ hp,by rw[J];exact r.old c2⟩⟩
   ·rw[if_neg c,zaj]at J;refine qI (decide_eq_false λz=>c (V.str.inj z)) ⟨_,_,_,_,rfl,ac,?_⟩;rw[J];rcases hB with J | ⟨t,j,o,rfl,g,hp,r⟩
    ·exact .inl J
    ·exact .inr ⟨t,j,o,rfl,(u.trans C) _ _ g,(u.trans C) _ _ hp,r⟩
 ·rintro σ G ⟨l,O,U,vs,rfl,p,hB⟩;rw[tc,mv.1,tv (tp _)]at hB;rcases hB with ⟨e0,_⟩ | ⟨t,j,o,rfl,g,hp,r⟩
  ·exact absurd (show ZD d R a=[] from e0) (List.ne_nil_of_length_pos ne)
  ·exact⟨_,rfl,t,_,0,_,rfl,rfl,.of g,rfl,q G j o (s1.trans p) hp r⟩
open PyProof.Rows hiding K lo
abbrev vf:Stmt:=top 101
def Hk(d H:Hp)(rs:ju)(R:Rs Str)(hs:List Str)(L:Addr):Prop:=∃(a:List Addr) (f:Nat->Rz),H L=some (.lst (a.map V.ref))/\a.length=3/\∀w b,a[w]?=some b->YM rs R hs w (f w)/\uJ d H b (f w)
inductive yM(vs:List V)(H:Hp)(Q:VK):Prop
 | mk (l D h:Addr) (ps:List Addr) (rs:ju) (R:Rs Str) (hs:List Str):vs=[.ref l,.ref D,.ref h]->LH H l D h ps rs R hs->QO rs R->(∀H' L,Same H H'->H L=none->Hk H H' rs R hs L->Q (.ref L) H')->yM vs H Q
def KD:Sp:=λa H Q _=>yM a H Q
def zJ(rs:ju)(R:Rs Str)(hs:List Str):zg rs R hs=(Qm rs hs hs.length).filter λm=>decide (oW rs R (lf hs m)≠wW):=by
 unfold zg Yv;rw[zbx,zaz];exact zek _
def uJ.mono(h:uJ d H p r)(s:Same H H'):uJ d H' p r:=by
 cases r with
 | mv m=>obtain⟨q,a,b⟩:=h;exact⟨q,s _ _ a,s _ _ b⟩
 | ms e=>obtain⟨L,d,n,a,b,c⟩:=h;exact⟨L,d,n,s _ _ a,s _ _ b,c.mono s⟩
 | no z=>exact s _ _ h
def dM(ms:List (Nat×Str)):PyData:=.list (ms.map mD)
def Hm{H:Hp}{ps:List Addr}(h:H p=some (.lst (ps.map V.ref)))(mv:jG H ps ms):DV K H (.ref p) (dM ms):=.lst (.of h) (NG mv)
def Nk(ms:List (Nat×Str)):PyData.eqv (dM ms) (.list [])=ms.isEmpty:=by
 cases ms<;>rfl
def kT:∀(ms:List (Nat×Str)),PyData.depthAll (ms.map mD)<=1
 | []=>by decide
 | m::ms=>by
  rw[tV];have:=kT ms;have a:PyData.depth (mD m)=1:=rfl;simp only[PyData.depthAll,a];omega
def HW{ms:List (Nat×Str)}(h:∀m∈ms,jm m.2=true):PySem.SeqAt.shaped (dM ms)=true:=by
 unfold PySem.SeqAt.shaped;rw[zar];refine⟨kW h,decide_eq_true ?_⟩;have:=kT ms;show PyData.depth (.list (ms.map mD))<=64;simp only[PyData.depth];omega
abbrev nDu:List Str:=["_law_rows_here","_law_labels_here","_law_heap_here","_law_found","_law_moves_here","_law_safe","_law_move"]
def Iu:qk nDu Uq (qg vf):=jM
def M8(F:jq K "_law_due" "_law_due" vf f fd)(B:QL mg)(hM:qM K mg "_law_moves" Zg MS fM ak)(GM:qp P w K mg base q5 1 fM ak MS zI)(hA:qM K mg "_law_after" YR BN fA ar)(hO:qM K mg "_law_outcome" XJ ["_law_labels_here","_law_heap_here"] fO as)(hD:qM K mg "_law_drawn_move" K6 Uq fD al)(GD:qp P w K mg base q5 2 fD al Uq Bp)(hW:qM K mg "_law_won_move" K5 Uq fW am)(GW:qp P w K mg base q5 2 fW am Uq Bn):qp P w K mg base q5 3 f fd Uq KD:=by
 have GO:=pin P w mg base (VW hO.fn B);refine F.okK Iu λH Q E hr z=>?_;obtain⟨af,D,h,ps,b,R,a,rfl,lh,all,q⟩:=z;refine⟨_,qd (qy 3 (qE hO GO (qV (jv 1) (jv 2))))
  (qd (qy 4 (qE hM GM (qV (jv 0) (jv 2))))
  (qd (QH (i:=5) (N':=["_law_move","_law_labels_here","_law_heap_here"]) (ix:=[none,some 1,some 2]) (qB (jv 4)) (λ_ s2 H2 fp _=>
     ⟨qF 0,jt (qj XY (qE hO GO (qV (jv 1) (qE hA (pin P w mg base (Xh hA.fn)) (qV (jv 2) (jv 0))))) qv),jv 0⟩))
  (qd (qA (qj qT (jv 3) qv) (qd (qy 6 (qE hD GD (ZV (jv 0) (jv 1) (jv 2)))) (qe (qo (qW (ZV (qC (qV qv (jv 6))) (qC (qV qv (jv 6))) (qC (qV qv (jv 5)))))))) qr)
  (qd (qA (qj qT (jv 3) qv) (qe (qo (qW (ZV (qC (qV qv qv)) (qC (qV qv (qE hW GW (ZV (jv 0) (jv 1) (jv 2))))) (qC (qV qv (jv 5))))))) qr)
  (qd (qA (qj (GX hr.units) (jv 4) (qW jB)) (qe (qo (qW (ZV (qC (qV qv qv)) (qC (qV qv qv)) (qC (qV qv (qW jB))))))) qr)
  (qe (qo (qW (ZV (qC (qV qv qv)) (qC (qV qv (qD jj (jv 4) qh))) (qC (qV qv (jv 5)))))))))))),?_⟩
 have ⟨ga,lb,hh⟩:=lh;have good:=ga.good;have T:=hh.in_;have l8:=hh.le;have ft:∀(Y:Hp) (o p p2 l:Addr) (x0 U y:Rz),Same H Y->Y l=none->YM b R a 0 x0->uJ H Y o x0->YM b R a 1 U->uJ H Y p U->YM b R a 2 y->uJ H Y p2 y->Q (.ref l) (upd Y l (.lst [.ref o,.ref p,.ref p2])):=λY o p p2 l x0 U y r nL a0 b0 a1 b1 a2 b2=>by
  refine q _ l (r.trans (qi nL)) (jb r nL) ⟨[o,p,p2],λw=>if w=0 then x0 else if w=1 then U else y,qc,rfl,λw i e=>?_⟩;cases w with
  | zero=>cases e;exact⟨a0,b0.mono (qi nL)⟩
  | succ w=>
   cases w with
   | zero=>cases e;exact⟨a1,b1.mono (qi nL)⟩
   | succ w=>
    cases w with
    | zero=>cases e;exact⟨a2,b2.mono (qi nL)⟩
    | succ w=>simp at e
 refine⟨_,rfl,_,rfl,D,h,b,R,a,rfl,lb,hh,X1 good all T,λ_ s1=>⟨_,rfl,_,rfl,af,h,ps,b,a,rfl,ga.mono s1,hh.mono s1,λH2 L qs s2 _ ag mv=>?_⟩⟩;have ah:=s1.trans s2;refine⟨_,rfl,L,rfl,⟨_,.of ag⟩,λW hW=>?_⟩;obtain⟨xs,U,y,hx⟩:=mv.pts;have ai:∀z∈xs,z.2∈Qm b a a.length:=λz u=>by rw[<-y];exact tz.mpr ⟨z,u,rfl⟩
 have au:xs.length<=112:=by
  have h1:=Jd good ga.le T a.length (tp _);have h2:=congrArg zas y;rw[tc]at h2;omega
 have an:H2 L=some (.lst (xs.map λz=>V.ref z.1)):=by
  rwa [<-U,zaz]at ag
 refine QI (out:=λz=>if decide (oW b R (lf a z.2)≠wW)=true then some (V.ref z.1) else none) hW an (ql (by omega)) (λz u Y r d hR=>?_) (λz u v ev Y r d hR=>?_) (λG5 s5 ab=>?_)
 ·have U:=(lh.mono ah).mono r;refine⟨_,rfl,_,rfl,_,rfl,h,z.1,a,z.2,rfl,U.2.2.at_,l8,r _ _ (hx z u),(Qr (ai z u)).1,λ_ ll s1 _ ao=>⟨D,ll,b,R,lf a z.2,rfl,U.2.1.mono s1,⟨ao,by unfold lf;rwa [zbb],J7 good T (ai z u)⟩,X1 good all (J7 good T (ai z u)),λU s2=>⟨rfl,_,rfl,?_⟩⟩⟩;have ap:=hR U (s1.trans s2);have e:(if decide (oW b R (lf a z.2)≠wW)=true then some (V.ref z.1) else none).isSome= !decide (V.str (oW b R (lf a z.2))=V.str wW):=by
   by_cases c:oW b R (lf a z.2)=wW
   ·rw[decide_eq_false (λz=>z c),decide_eq_true (congrArg V.str c)];rfl
   ·rw[decide_eq_true c,decide_eq_false λz=>c (V.str.inj z)];rfl
  rwa [e]at ap
 ·have aq:v=.ref z.1:=by
   by_cases c:oW b R (lf a z.2)=wW
   ·rw[decide_eq_false (λz=>z c)]at ev;cases ev
   ·rw[decide_eq_true c]at ev;exact(tF.inj ev).symm
  subst aq;exact⟨_,rfl,hR Y (Same.refl Y)⟩
 rw[Jk]at ab;have aa:=ah.trans s5;obtain⟨U,ab,sf⟩:∃U:List Addr,G5 W=some (.lst (U.map V.ref))/\jG G5 U (zg b R a):=by
  refine⟨(xs.filter λz=>decide (oW b R (lf a z.2)≠wW)).map (·.1),by rw[zaz];exact ab,?_⟩;have ew:(xs.filter λz=>decide (oW b R (lf a z.2)≠wW)).map (·.2)=zg b R a:=by
   rw[zJ,<-y,zbx];rfl
  rw[<-ew];exact Wy λz u=>s5 _ _ (hx z (tP.mp u).1)
 have tS:∀{Y:Hp} {i:Addr},Same G5 Y->Y i=some (.tup [.str (zem "told"),.ref W])->uJ H Y i (.ms (zg b R a)):=λr u=>⟨W,U,jb ah hW,u,r _ _ ab,sf.mono r⟩;have rS:YM b R a 2 (.ms (zg b R a)):=.inr (.inr ⟨rfl,rfl⟩);refine⟨_,rfl,rfl,_,rfl,?_⟩;by_cases x:oW b R a=wD
 ·refine qK (decide_eq_true (congrArg V.str x)) ⟨_,rfl,_,rfl,_,rfl,af,D,h,ps,b,R,a,rfl,lh.mono aa,all,x,λH6 i m y u U=>⟨_,rfl,sz,λo C=>⟨_,rfl,sz,λp J=>⟨_,rfl,sz,λp2 O=>⟨sz,λl r=>?_⟩⟩⟩⟩⟩;have j:=qi (o:=HO.tup [.str (zem "told"),.ref i]) C;have g:=qi (o:=HO.tup [.str (zem "told"),.ref i]) J;have d:=qi (o:=HO.tup [.str (zem "told"),.ref W]) O;exact ft _ o p p2 l (.mv m) (.mv m) _ (aa.trans (y.trans (j.trans (g.trans d)))) r (.inl ⟨rfl,.inl ⟨x,m,U,rfl⟩⟩) ⟨i,d _ _ (g _ _ qc),d _ _ (g _ _ (j _ _ u))⟩ (.inr (.inl ⟨rfl,.inl ⟨m,.inr (.inl ⟨x,U⟩),rfl⟩⟩)) ⟨i,d _ _ qc,d _ _ (g _ _ (j _ _ u))⟩ rS (tS (y.trans (j.trans (g.trans d))) qc)
 ·refine qI (decide_eq_false λz=>x (V.str.inj z)) ⟨_,rfl,rfl,_,rfl,?_⟩;by_cases U:oW b R a=wW
  ·refine qK (decide_eq_true (congrArg V.str U)) ⟨sz,λo C=>?_⟩;have j:=qi (o:=HO.tup [.str (zem "not"),.str (zem "won")]) C;refine⟨_,rfl,_,rfl,_,rfl,af,D,h,ps,b,R,a,rfl,lh.mono (aa.trans j),all,uM good all T U,λH6 i m y u bm=>⟨sz,λp J=>⟨_,rfl,sz,λp2 O=>⟨sz,λl r=>?_⟩⟩⟩⟩;have g:=qi (o:=HO.tup [.str (zem "told"),.ref i]) J;have d:=qi (o:=HO.tup [.str (zem "told"),.ref W]) O;exact ft _ o p p2 l (.no wW) (.mv m) _ (aa.trans (j.trans (y.trans (g.trans d)))) r (.inl ⟨rfl,.inr ⟨x,by rw[U]⟩⟩) (d _ _ (g _ _ (y _ _ qc))) (.inr (.inl ⟨rfl,.inl ⟨m,.inl ⟨U,bm⟩,rfl⟩⟩)) ⟨i,d _ _ qc,d _ _ (g _ _ u)⟩ rS (tS (j.trans (y.trans (g.trans d))) qc)
  ·have cL:oW b R a=wL:=by rcases VY (rs:=b) (R:=R) (hs:=a) with z | z | z<;>first | exact z | exact absurd z x | exact absurd z U
   refine qI (decide_eq_false λz=>U (V.str.inj z)) ⟨_,rfl,sz,λu y=>?_⟩;have s0:=qi (o:=HO.lst []) y;have ac:=(mv.mono s5).mono s0;have aj:=s0 _ _ (s5 _ _ ag);refine⟨dM (Qm b a a.length),.list [],Hm aj ac,.lst (.of qc) .nil,HW (z0 good T),by decide+kernel,_,rfl,?_⟩;have ae:=aa.trans s0;generalize upd G5 u (.lst [])=y at s0 ae ac aj;rw[Nk];cases em:Qm b a a.length with
   | nil=>
    refine jX ⟨sz,λo C=>⟨sz,λp J=>⟨sz,λb u=>⟨sz,λp2 O=>⟨sz,λl r=>?_⟩⟩⟩⟩⟩;have j:=qi (o:=HO.tup [.str (zem "not"),.str (zem "lost")]) C;have g:=qi (o:=HO.tup [.str (zem "not"),.str (zem "lost")]) J;have d:=qi (o:=HO.lst []) u;have a:=qi (o:=HO.tup [.str (zem "told"),.ref b]) O;exact ft _ o p p2 l (.no wL) (.no wL) (.ms []) (ae.trans (j.trans (g.trans (d.trans a)))) r (.inl ⟨rfl,.inr ⟨x,by rw[cL]⟩⟩) (a _ _ (d _ _ (g _ _ qc))) (.inr (.inl ⟨rfl,.inr ⟨cL,em,rfl⟩⟩)) (a _ _ (d _ _ qc)) (.inr (.inr ⟨rfl,by rw[zJ,em];rfl⟩)) ⟨b,[],jb (ae.trans (j.trans g)) u,qc,a _ _ qc,jG.nil _⟩
   | cons m ms=>
    cases qs with
    | nil=>have:=ac.1;rw[em]at this;cases this
    | cons i qs=>
     refine jo ⟨sz,λo C=>?_⟩;have j:=qi (o:=HO.tup [.str (zem "not"),.str (zem "lost")]) C;refine⟨_,rfl,L,_,0,.ref i,rfl,rfl,.of (j _ _ aj),QJ (j:=0) rfl,sz,λp J=>⟨_,rfl,sz,λp2 O=>⟨sz,λl r=>?_⟩⟩⟩;have g:=qi (o:=HO.tup [.str (zem "told"),.ref i]) J;have d:=qi (o:=HO.tup [.str (zem "told"),.ref W]) O;exact ft _ o p p2 l (.no wL) (.mv m) _ (ae.trans (j.trans (g.trans d))) r (.inl ⟨rfl,.inr ⟨x,by rw[cL]⟩⟩) (d _ _ (g _ _ qc)) (.inr (.inl ⟨rfl,.inl ⟨m,.inr (.inr ⟨cL,by rw[em];rfl⟩),rfl⟩⟩)) ⟨i,d _ _ qc,d _ _ (g _ _ (j _ _ (ac.2 0 i m rfl (by rw[em];rfl))))⟩ rS (tS (s0.trans (j.trans (g.trans d))) qc)
open PyProof.Rows hiding K lo
def dR:Rz->PyData
 | .mv m=>.tuple [.str (zem "told"),mD m]
 | .ms a=>.tuple [.str (zem "told"),dM a]
 | .no z=>.tuple [.str (zem "not"),.str z]
def Hd:Rz->Prop
 | .mv m=>jm m.2=true
 | .ms a=>∀m∈a,jm m.2=true
 | .no z=>PyData.strOk z=true
def Hl(h:uJ d H p r):DV K H (.ref p) (dR r):=by
 cases r with
 | mv m=>obtain⟨q,a,b⟩:=h;exact .tup (.of a) (.cons (.str _) (.cons (B9 b) .nil))
 | ms d=>obtain⟨L,_,_,a,b,c⟩:=h;exact .tup (.of a) (.cons (.str _) (.cons (Hm b c) .nil))
 | no z=>exact .tup (.of h) (.cons (.str _) (.cons (.str _) .nil))
def uJ.keep(h:uJ d H p r)(s:Qa H H'):uJ d H' p r:=by
 cases r with
 | mv m=>obtain⟨q,a,b⟩:=h;exact⟨q,s _ _ a (λ_ z=>nomatch z),s _ _ b (λ_ z=>nomatch z)⟩
 | ms g=>obtain⟨L,d,n,a,b,c⟩:=h;exact⟨L,d,n,s _ _ a (λ_ z=>nomatch z),s _ _ b (λ_ z=>nomatch z),c.1,λi p m e f=>s _ _ (c.2 i p m e f) (λ_ z=>nomatch z)⟩
 | no z=>exact s _ _ h (λ_ z=>nomatch z)
def Ds:PyData.strOk (zem "told")=true/\PyData.strOk (zem "not")=true:=by decide+kernel
def HV(h:Hd r):PySem.SeqAt.shaped (dR r)=true:=by
 unfold PySem.SeqAt.shaped;cases r with
 | mv m=>
  have e:(dR (.mv m)).canLay0=true:=by
   show (PyData.strOk (zem "told")&&((true&&(PyData.strOk m.2&&true))&&true))=true;rw[Ds.1,zY h];rfl
  rw[e];exact decide_eq_true (by show 2<=64;decide)
 | ms a=>
  have e:(dR (.ms a)).canLay0=true:=by
   show (PyData.strOk (zem "told")&&(PyData.canLayAll0 (a.map mD)&&true))=true;rw[Ds.1,kW h];rfl
  rw[e];refine decide_eq_true ?_;have:=kT a;show PyData.depth (.tuple [.str (zem "told"),.list (a.map mD)])<=64;simp only[PyData.depth,PyData.depthAll];omega
 | no z=>
  have e:(dR (.no z)).canLay0=true:=by
   show (PyData.strOk (zem "not")&&(PyData.strOk z&&true))=true;rw[Ds.2,show PyData.strOk z=true from h];rfl
  rw[e];exact decide_eq_true (by show 1<=64;decide)
def A4(h:z=wL\/z=wW\/z=wD):PyData.strOk z=true:=by
 rcases h with rfl | rfl | rfl<;>decide+kernel
def YY.mem(good:qu rs)(all:QO rs R){hs:List Str}(a:∀z∈hs,∃r∈rs,r.1=z)(h:YY rs R hs m):m∈Qm rs hs hs.length:=by
 rcases h with ⟨_,b⟩ | ⟨c,d⟩ | ⟨_,e⟩
 ·exact b.mem.1
 ·exact(Ue good all a c d).1
 ·exact List.mem_of_head? e
def YM.ok(good:qu rs)(all:QO rs R){hs:List Str}(a:∀z∈hs,∃r∈rs,r.1=z){r:Rz}(h:YM rs R hs w r):Hd r:=by
 rcases h with ⟨_,⟨c,m,b,rfl⟩ | ⟨_,rfl⟩⟩ | ⟨_,⟨m,b,rfl⟩ | ⟨_,_,rfl⟩⟩ | ⟨_,rfl⟩
 ·exact z0 good a _ (Ue good all a c b).1
 ·exact A4 (VY)
 ·exact z0 good a _ (b.mem good all a)
 ·exact A4 (.inl rfl)
 ·exact λm d=>by rw[zJ]at d;exact z0 good a _ (tP.mp d).1
def Z0.uniq(h:Z0 rs R hs m)(k:Z0 rs R hs b):m=b:=by
 cases c:WD R hs with
 | nil=>
  obtain⟨_,b,_⟩:=h;rw[kR,c]at b;cases b
 | cons b d=>
  have a:=zE c h;rw[zE c k]at a;exact(tF.inj a).symm
def YY.uniq(h:YY rs R hs m)(k:YY rs R hs d):m=d:=by
 rcases h with ⟨c,a⟩ | ⟨c,a⟩ | ⟨c,a⟩<;>rcases k with ⟨d,b⟩ | ⟨d,b⟩ | ⟨d,b⟩
 ·exact a.uniq b
 ·exact absurd (c.symm.trans d) uO
 ·exact absurd (d.symm.trans c) uP
 ·exact absurd (d.symm.trans c) uO
 ·exact a.uniq b
 ·exact absurd (d.symm.trans c) yg
 ·exact absurd (c.symm.trans d) uP
 ·exact absurd (c.symm.trans d) yg
 ·rw[a]at b;exact tF.inj b
def YM.uniq(h:YM rs R hs w r)(k:YM rs R hs w d):r=d:=by
 have no:∀{m},YY rs R hs m->oW rs R hs=wL->Qm rs hs hs.length=[]->False:=λf c e=>by
  rcases f with ⟨d,_⟩ | ⟨d,_⟩ | ⟨_,a⟩
  ·exact uP (c.symm.trans d)
  ·exact yg (c.symm.trans d)
  ·rw[e]at a;cases a
 rcases h with ⟨rfl,h⟩ | ⟨rfl,h⟩ | ⟨rfl,h⟩<;>rcases k with ⟨e,k⟩ | ⟨e,k⟩ | ⟨e,k⟩<;>try cases e
 ·rcases h with ⟨a,m,b,rfl⟩ | ⟨a,rfl⟩<;>rcases k with ⟨f,i,g,rfl⟩ | ⟨f,rfl⟩
  ·rw[b.uniq g]
  ·exact absurd a f
  ·exact absurd f a
  ·rfl
 ·rcases h with ⟨m,b,rfl⟩ | ⟨a,c,rfl⟩<;>rcases k with ⟨i,g,rfl⟩ | ⟨f,d,rfl⟩
  ·rw[b.uniq g]
  ·exact(no b f d).elim
  ·exact(no g a c).elim
  ·rfl
 ·rw[h,k]
open PyProof.Rows hiding K lo
abbrev Xf:Stmt:=top 102
def ja.keep(h:ja H D rs R)(s:Qa H H'):ja H' D rs R:=⟨let ⟨d,a,b,c⟩:=h.at_;⟨d,s _ _ a (λ_ z=>nomatch z),b,λd hr=>let ⟨t,u,v⟩:=c d hr;⟨t,u,s _ _ v (λ_ z=>nomatch z)⟩⟩⟩
def js.keep(x:js H h rs hs)(s:Qa H H'):js H' h rs hs:=⟨s _ _ x.at_ (λ_ z=>nomatch z),x.le,x.in_⟩
def jJ.keep(h:jJ H l ps rs)(s:Qa H H'):jJ H' l ps rs:=⟨s _ _ h.at_ (λ_ z=>nomatch z),h.rows.keep s,h.good,h.pos,h.le⟩
def LH.keep(x:LH H l D h ps rs R hs)(s:Qa H H'):LH H' l D h ps rs R hs:=⟨x.1.keep s,x.2.1.keep s,x.2.2.keep s⟩
def Qa.upd2(a:Qa H d)(n:d p=none)(k:Qa H G):Qa H (L2.upd G p o):=λb u h ne=>by
 rw[qf (nq n (a b u h ne))];exact k b u h ne
def Vb{a:Hp}{ps:List Addr}{R:Hp->Prop}(g:a l=some (.lst (ps.map V.ref)))(f9:jR a ps rs)(good:qu rs)(pos:0 < rs.length)(r:rs.length<=14)(y:a d=none)(i:upd a d (.lst (ps.map V.ref)) x=none)(j:upd a d (.lst (ps.map V.ref)) f=none)(p:f≠x)(k:∀m,Same a m->Qk o m x rs->R m):
  VB o [.ref x,.ref d] (upd (upd (upd a d (.lst (ps.map V.ref))) f (.own x)) x (.ins o f [])) (λv H'=>v=.non/\R H') E:=by
 have p:a x=none:=by
  by_cases e:x=d
  ·rw[e,qc]at i;cases i
  ·rwa [qf e]at i
 have z:a f=none:=by
  by_cases e:f=d
  ·rw[e,qc]at j;cases j
  ·rwa [qf e]at j
 have q:Same a (upd (upd (upd a d (.lst (ps.map V.ref))) f (.own x)) x (.ins o f [])):=λb u g=>by
  rwa [qf (qm g p),qf (qm g z),qf (qm g y)]
 have y:upd (upd (upd a d (.lst (ps.map V.ref))) f (.own x)) x (.ins o f []) d=some (.lst (ps.map V.ref)):=by
  rw[qf (λe=>by rw[<-e,qc]at i;cases i),qf (λe=>by rw[<-e,qc]at j;cases j)];exact qc
 refine⟨x,f,d,ps,rs,rfl,⟨y,f9.mono q,good,pos,r⟩,qc,λm a d=>⟨rfl,k m (λb u g=>d b u (q _ _ g) (qm g p)) a⟩⟩
section
variable(K:zel)
def FW:tZ K (.type "str") (.type "list")=some false:=by kernel_rfl
def FV:tZ K (.type "tuple") (.type "list")=some false:=by kernel_rfl
def FX:tZ K (.type "list") (.type "list")=some true:=by kernel_rfl
end
def Ny(good:qu rs)(h:QO rs R)(k:QO rs a):R=a:=All.uniq good.nd h k
def B3.keep{PT PP:Addr}{H H':Hp}(h:B3 PT PP H)(s:Qa H H'):B3 PT PP H':=⟨h.1.imp λ_ z=>s _ _ z (λ_ z=>nomatch z),h.2.imp λ_ z=>s _ _ z (λ_ z=>nomatch z)⟩
inductive WZ(PT PP:Addr)(vs:List V)(H:Hp)(Q:VK):Prop
 | mk (l D h:Addr) (ps:List Addr) (rs:ju) (R:Rs Str) (hs:List Str):vs=[.ref l,.ref D,.ref h]->LH H l D h ps rs R hs->QO rs R->B3 PT PP H->(∀H',Qa H H'->Q (.bl true) H')->WZ PT PP vs H Q
def Kz(PT PP:Addr):Sp:=λa H Q _=>WZ PT PP a H Q
abbrev nRi:List Str:=["_law_rows_here","_law_labels_here","_law_heap_here","_law_ground","_law_handed","_law_due_here","_law_way","_law_told_here","_law_some"]
def HZ:qk nRi Uq (qg Xf):=jM
def wN{P:Program}{w:World}{K:zel}{mg:Str->Option Value}{base:Heap}{d:Addr}{CH:Addr}{CT:Addr}{CP:Addr}{PT:Addr}{PP:Addr}{f j l o U fA:Addr}{p r u J ai aj:zep}(F:jq K "_law_right" "_law_right" Xf f p)(B:QL mg)(G:QB mg)(T:Qv K mg)(C:Hn K mg d j r)(GI:qp P w K mg base q5 6 j r ["self","rows"] (VB d))(hT:qM K mg "_law_told" XI GK l u)(GT:qp P w K mg base q5 16 l u GK (Kd K d CH CT CP PT PP))(ak:qM K mg "_law_due" vf Uq o J)(al:qp P w K mg base q5 3 o J Uq KD)
  (g:qM K mg "_law_outcome" XJ ["_law_labels_here","_law_heap_here"] U ai) (O:qM K mg "_law_after" YR BN fA aj):qp P w K mg base q5 17 f p Uq (Kz PT PP):=by
 have j:=pin P w mg base (VW g.fn B);refine F.okK HZ λH Q E hr z=>?_;obtain⟨u,D,h,r,o,R,d,rfl,lh,all,am,q⟩:=z;refine⟨_,qd (qy 3 (JL C.mkr GI (hr.mono (by decide)) (by rfl) C.ns C.bi .nil Qy (jc (jF Qj (by rfl) G.lst boot_list (jc (jv 0))))))
  (qd (qy 4 (jF Qj (by rfl) G.lst boot_list (jc (jv 2))))
  (qd (qy 5 (qE ak al (ZV (jv 0) (jv 1) (jv 2))))
  (qd (qX (qB (qW (ja5 qh qh qh qh qh))) (qF 6)
   (qd (qy 7 (qE hT GT (ZV (jv 6) (jv 3) (jv 4))))
   (qd (qA (qj (GR hr.units) (jv 7) (qD jj (jv 5) (jv 6))) qS qr)
   (qd (qy 8 (qD qJ (jv 7) qh))
   (qe (qA (jA (qx jQ (by rfl) T.isi boot_isinstance (qV (jv 8) (Je (v:=.ty "list") (by rfl) G.lst boot_list rfl)))) (qe (q4 (ZT zat zaY zaZ QT (jv 8) (jc Zq)))) qr))))))
  (qd (qA (qj qT (qE g j (qV (jv 1) (jv 2))) qv) (qe (qA (qj XY (qE g j (qV (jv 1) (qE O (pin P w mg base (Xh O.fn)) (qV (jv 2) (qD qJ (qD jj (jv 5) qh) qh))))) qv) qS qr)) qr)
  (qe (qo (Qc (C5 hr.units) (jv 4) (jv 2)))))))),?_⟩
 have ⟨p,j,g⟩:=lh;have good:=p.good;refine⟨_,rfl,u,_,rfl,.inl (.of p.at_),λl2 f2 x _ j l J=>Vb p.at_ p.rows good p.pos p.le f2 j l J λj l gr=>⟨_,rfl,h,_,rfl,.inl (.of (l _ _ g.at_)),λhd O=>?_⟩⟩;have J:=qi (o:=HO.lst (d.map V.str)) O;have U:upd j hd (HO.lst (d.map V.str)) hd=some (.lst (d.map V.str)):=qc;generalize upd j hd (HO.lst (d.map V.str))=O at J U;have j:=l.trans J;refine⟨_,rfl,_,rfl,_,rfl,u,D,h,r,o,R,d,rfl,lh.mono j,all,λH6 L O _ r=>?_⟩;obtain⟨l,_,ac,_,ae⟩:=r;have aa:=j.trans O;have l8:=g.le;have r:=g.in_;have af:js H6 hd o d:=⟨O _ _ U,l8,r⟩;have dk:∀g,g<=2->∃j,l[g]?=some j:=λg h=>⟨_,tj (by omega)⟩;have ag:∀{g j},l[g]?=some j->Vw (l.map V.ref) (g:Nat)=some (.ref j):=λe=>QJ (by rw[tu,e];rfl);refine⟨sz,λl U=>⟨l,rfl,⟨_,.of qc⟩,je (λi σ G=>∃v6 v7 v8,σ=[some (.ref u),some (.ref D),some (.ref h),some (.ref x),some (.ref hd),some (.ref L),v6,v7,v8]/\Qa H6 G/\G l=some (.lst [.int 0,.int 1,.int 2,.int 2,.int 1])) ⟨_,_,_,rfl,(qi U).keep,qc⟩ (λi σ G _ ⟨_,_,_,_,_,e⟩=>.of e) ?_ ?_⟩⟩
 ·rintro i y σ G1 hy ⟨v6,v7,v8,rfl,l,e1⟩;obtain⟨g,rfl,U⟩:∃g:Nat,y=.int (g:Nat)/\g<=2:=by
   have:=tW hy;simp only[tH,zbd,or_false]at this;rcases this with rfl | rfl | rfl | rfl | rfl
   ·exact⟨0,rfl,by decide⟩
   ·exact⟨1,rfl,by decide⟩
   ·exact⟨2,rfl,by decide⟩
   ·exact⟨2,rfl,by decide⟩
   ·exact⟨1,rfl,by decide⟩
  refine⟨_,rfl,_,rfl,_,rfl,g,x,.ref hd,o,rfl,by omega,(gr.mono (J.trans O)).keep l,good,p.le,(am.keep aa.keep).keep l,.inl ⟨hd,d,rfl,U,af.keep l,λ_ J ah an G2 ab k2 ta=>?_⟩⟩;obtain rfl:=Ny good all J;obtain⟨j,O⟩:=dk g U;obtain⟨J,U⟩:=ae g j O;have e:=J.uniq an;rw[e]at J U;have g:=l.trans k2;have e2:=k2 _ _ e1 (λ_ z=>nomatch z);refine⟨_,rfl,_,rfl,_,rfl,L,_,_,.ref j,rfl,rfl,.of (g _ _ ac (λ_ z=>nomatch z)),ag O,dR ah,Hl ta,Hl (U.keep g),HV (J.ok good all r),_,rfl,jo ?_⟩;cases ah with
  | mv m=>
   obtain⟨q',a,b⟩:=ta;exact⟨_,rfl,ab,_,1,_,rfl,rfl,.of a,rfl,_,rfl,_,_,_,_,rfl,rfl,.tup b,FV K,_,rfl,jo ⟨_,_,_,rfl,g,e2⟩⟩
  | no z=>exact⟨_,rfl,ab,_,1,_,rfl,rfl,.of ta,rfl,_,rfl,_,_,_,_,rfl,rfl,.str _,FW K,_,rfl,jo ⟨_,_,_,rfl,g,e2⟩⟩
  | ms u=>
   obtain⟨LW,_,n,a,b,c⟩:=ta;have ll:u.length<=112:=by
    rcases J with ⟨_,⟨_,_,_,z⟩ | ⟨_,z⟩⟩ | ⟨_,⟨_,_,z⟩ | ⟨_,_,z⟩⟩ | ⟨_,z⟩<;>cases z;rw[zJ];have h1:=zam (λm=>decide (oW o R (lf d m)≠wW)) (Qm o d d.length);have h2:=Jd good p.le r d.length (tp _);omega
   exact⟨_,rfl,ab,_,1,_,rfl,rfl,.of a,rfl,_,rfl,_,_,_,_,rfl,rfl,.lst b,FX K,_,rfl,jX ⟨_,rfl,.inl ⟨rfl,_,.of b⟩,LW,_,_,rfl,rfl,b,by rw[tc,c.1];exact ql (by omega),_,_,_,rfl,Qa.upd2 l n g,by rwa [qf (λz=>by rw[z,n]at e1;cases e1)]⟩⟩
 ·rintro σ G ⟨v6,v7,v8,rfl,l,e1⟩;have p:=(lh.mono aa).keep l;have ft:∀{Y:Hp},Same G Y->(J0 (CW K true) (jg 4) (jg 2)) [some (.ref u),some (.ref D),some (.ref h),some (.ref x),some (.ref hd),some (.ref L),v6,v7,v8] Y Q:=λ{Y} g=>⟨_,rfl,_,rfl,dL d,Em ((af.keep l).mono g).at_,Em (p.mono g).2.2.at_,shL (λz hz=>Vi good (r z hz)),q Y ((aa.keep.trans l).trans g.keep)⟩;refine⟨_,rfl,_,rfl,D,h,o,R,d,rfl,p.2.1,p.2.2,X1 good all r,λG1 g=>⟨rfl,_,rfl,?_⟩⟩;by_cases u:oW o R d=wD
  ·obtain⟨j,O⟩:=dk 0 (by decide);obtain⟨J,U⟩:=ae 0 j O;rcases J with ⟨_,⟨_,m,dm,ez⟩ | ⟨c,_⟩⟩ | ⟨z,_⟩ | ⟨z,_⟩
   ·rw[ez]at U;obtain⟨q',a,b⟩:=(U.keep l).mono g;obtain⟨J,ao⟩:=Ue good all r u dm;have U:=p.mono g;refine qK (decide_eq_true (congrArg V.str u)) ⟨_,rfl,_,rfl,_,rfl,L,_,0,.ref j,rfl,rfl,.of (g _ _ (l _ _ ac (λ_ z=>nomatch z))),ag O,j,_,1,.ref q',rfl,rfl,.of a,rfl,h,q',d,m,rfl,U.2.2.at_,l8,b,(Qr J).1,λG2 l2 j nl l=>⟨D,l2,o,R,lf d m,rfl,U.2.1.mono j,⟨l,by unfold lf;rwa [zbb],J7 good r J⟩,X1 good all (J7 good r J),λ_ d=>⟨rfl,_,rfl,qI ?_ (ft (g.trans (j.trans d)))⟩⟩⟩;rw[ao];decide+kernel
   ·exact absurd u c
   ·cases z
   ·cases z
  ·exact qI (decide_eq_false λz=>u (V.str.inj z)) (ft g)
open PyProof.Rows hiding K lo
abbrev VG:Stmt:=top 103
def Hb(K:zel)(H:Hp)(v e:V):Prop:=(∃d,DV K H v d/\DV K H e d/\PySem.SeqAt.shaped (.tuple [.str (zem "place"),d])=true)\/∃a b,v=.ref a/\e=.ref b/\Rd H a (.dK [])/\Rd H b (.dK [])
inductive U0(K:zel)(CH CT CP:Addr)(vs:List V)(H:Hp)(Q:VK):Prop
 | mk (d l:Addr) (n s t:Int) (ps:List Addr) (rs:ju):vs=[.ref d,.ref l]->H d=some (.dK (src n s t))->jJ H l ps rs->(∀H' p q v fv hY C z n' t',H' p=some (.tup [v,.ref q])->H' q=some (.tup [.str z,hY])->yd K CH CT CP H' (rs.map (·.1)) v C fv->Hy CH CT CP C z->Hb K H' fv hY->H' d=some (.dK (src n' s t'))->Fr H d H'->Q (.ref p) H')->U0 K CH CT CP vs H Q
def yL(K:zel)(CH CT CP:Addr):Sp:=λa H Q _=>U0 K CH CT CP a H Q
inductive xQ(y:Str)(H:Hp):V->V->Str->Prop
 | non:xQ y H .non .non (zem "heap")
 | str:xQ y H (.str y) (.str y) (zem "heap")
 | tup {a b:Addr}:H a=some (.tup [.str y])->H b=some (.tup [.str y])->xQ y H (.ref a) (.ref b) (zem "heap")
 | mt {a b:Addr}:H a=some (.dK [])->H b=some (.dK [])->xQ y H (.ref a) (.ref b) (zem "heap")
 | many {a:Addr} {x:V}:H a=some (.lst (zbs 9 x))->xQ y H (.ref a) (.int 9) (zem "many")
 | plc {a:Addr} {u:V} {rest:List V}:H a=some (.lst (.str y::u::rest))->rest.length<=1->(u=.non\/u=.int 0\/u=.str (zem "A"))->xQ y H (.ref a) u (zem "place")
 | pl {a b c:Addr}:H a=some (.lst [.ref b])->H b=some (.lst [.str y])->H c=some (.lst [.str y])->xQ y H (.ref a) (.ref c) (zem "place")
def xQ.keep{H':Hp}(h:xQ y H v u z)(s:∀b o,H b=some o->(∀n s t,o≠.dK (src n s t))->H' b=some o):xQ y H' v u z:=by
 cases h with
 | non=>exact .non
 | str=>exact .str
 | tup a b=>exact .tup (s _ _ a λ_ _ _ z=>nomatch z) (s _ _ b λ_ _ _ z=>nomatch z)
 | mt a b=>exact .mt (s _ _ a λ_ _ _ z=>nomatch z) (s _ _ b λ_ _ _ z=>nomatch z)
 | many a=>exact .many (s _ _ a λ_ _ _ z=>nomatch z)
 | plc a d o=>exact .plc (s _ _ a λ_ _ _ z=>nomatch z) d o
 | pl a b c=>exact .pl (s _ _ a λ_ _ _ z=>nomatch z) (s _ _ b λ_ _ _ z=>nomatch z) (s _ _ c λ_ _ _ z=>nomatch z)
def Ry{N:List Str}(ok:PyData.strOk w=true)(a:jm w=false)(hN:∀z∈N,jm z=true):vV K H N (.str w):=by
 refine .inl ⟨.str w,.str w,ok,zao _,λz b=>?_⟩;show (z==w)=false;rw[beq_eq_false_iff_ne];intro e;have:=hN z b;rw[e,a]at this;cases this
def RA{H:Hp}(h:H t=some (.lst [.str z]))(a:jm z=true):vV K H N (.ref t):=by
 refine .inl ⟨.list [.str z],.lst (.of h) (.cons (.str z) .nil),?_,?_,λy _=>rfl⟩
 ·simp only[PyData.canLay0,PyData.canLayAll0,zY a];rfl
 ·simp only[PyData.depth,PyData.depthAll];decide
def MO:PyData.strOk (zem "place")=true:=by decide+kernel
def xQ.bad(h:xQ y H v u z)(f:y∈N)(hN:∀z∈N,jm z=true):∃C e,yd K CH CT CP H N v C e/\Hy CH CT CP C z/\Hb K H e u:=by
 have g:=hN y f;have ok:=zY g;cases h with
 | non=>exact⟨CH,_,.inl ⟨rfl,rfl,_,.non,by kernel_rfl⟩,.inl ⟨rfl,rfl⟩,.inl ⟨.none,.non,.non,by decide+kernel⟩⟩
 | str=>exact⟨CH,_,.inl ⟨rfl,rfl,_,.str _,by kernel_rfl⟩,.inl ⟨rfl,rfl⟩,.inl ⟨.str y,.str _,.str _,by unfold PySem.SeqAt.shaped;simp only[PyData.canLay0,PyData.canLayAll0,ok,MO,PyData.depth,PyData.depthAll];rfl⟩⟩
 | tup a b=>exact⟨CH,_,.inl ⟨rfl,rfl,_,.tup a,by kernel_rfl⟩,.inl ⟨rfl,rfl⟩,.inl ⟨.tuple [.str y],.tup (.of a) (.cons (.str _) .nil),.tup (.of b) (.cons (.str _) .nil),by unfold PySem.SeqAt.shaped;simp only[PyData.canLay0,PyData.canLayAll0,ok,MO,PyData.depth,PyData.depthAll];rfl⟩⟩
 | mt a b=>exact⟨CH,_,.inl ⟨rfl,rfl,_,.dK a,by kernel_rfl⟩,.inl ⟨rfl,rfl⟩,.inr ⟨_,_,rfl,rfl,.inl a,.inl b⟩⟩
 | many a=>exact⟨CT,.int 9,.inr (.inl ⟨rfl,_,_,rfl,a,by rw[zaP];decide,by rw[zaP];decide,by rw[zaP];rfl⟩),.inr (.inl ⟨rfl,rfl⟩),.inl ⟨.int 9,.int _,.int _,by decide+kernel⟩⟩
 | plc a i e=>
  have np:vV K H N u/\∃d,DV K H u d/\DV K H u d/\PySem.SeqAt.shaped (.tuple [.str (zem "place"),d])=true:=by
   rcases e with rfl | rfl | rfl
   ·exact⟨.inl ⟨.none,.non,rfl,zao _,λ_ _=>rfl⟩,.none,.non,.non,by decide+kernel⟩
   ·exact⟨.inl ⟨.int 0,.int 0,rfl,zao _,λ_ _=>rfl⟩,.int 0,.int 0,.int 0,by decide+kernel⟩
   ·exact⟨Ry (by decide+kernel) (by decide+kernel) hN,.str _,.str _,.str _,by decide+kernel⟩
  exact⟨CP,u,.inr (.inr ⟨rfl,_,[y],_,rfl,a,by show _+1+1<=8;omega,λz e=>(tM.mp e)▸f,np.1⟩),.inr (.inr ⟨rfl,rfl⟩),.inl np.2⟩
 | pl a b c=>exact⟨CP,_,.inr (.inr ⟨rfl,_,[],[],rfl,a,by show 1<=8;decide,λz e=>(nomatch e),RA b g⟩),.inr (.inr ⟨rfl,rfl⟩),.inl ⟨.list [.str y],.lst (.of b) (.cons (.str _) .nil),.lst (.of c) (.cons (.str _) .nil),by unfold PySem.SeqAt.shaped;simp only[PyData.canLay0,PyData.canLayAll0,ok,MO,PyData.depth,PyData.depthAll];rfl⟩⟩
def Um(y:Str)(H:Hp)(x:V):Prop:=∃(a q:Addr) (v u:V) (z:Str),x=.ref a/\H a=some (.tup [v,.ref q])/\H q=some (.tup [.str z,u])/\xQ y H v u z
def Um.keep{H':Hp}(h:Um y H x)(s:∀b o,H b=some o->(∀n s t,o≠.dK (src n s t))->H' b=some o):Um y H' x:=let ⟨d,q,v,u,z,e,a,b,c⟩:=h;⟨d,q,v,u,z,e,s _ _ a λ_ _ _ z=>(nomatch z),s _ _ b λ_ _ _ z=>(nomatch z),c.keep s⟩
def AX(te:TE)(d:L2.St)(Pr:Hp->V->Prop):Prop:=∀b (Q:VK),(∀v a,Same b a->Pr a v->Q v a)->te d b Q
def AL(ts:TA)(e:L2.St)(Pr:Hp->V->Prop)(n:Nat):Prop:=∀d (Q:List V->Hp->Prop),(∀a b,Same d b->a.length=n->(∀x∈a,Pr b x)->Q a b)->ts e d Q
def PX(te:TE)(a:L2.St)(v:V):Prop:=∀H (Q:VK),Q v H->te a H Q
def PA(ts:TA)(a:L2.St)(xs:List V):Prop:=∀H (Q:List V->Hp->Prop),Q xs H->ts a H Q
def PX.c:PX (tC v) σ v:=λ_ _ q=>q
def PX.v{a:L2.St}{i:Nat}{v:V}(e:a[i]?=some (some v)):PX (jg i) a v:=λ_ _ q=>⟨v,e,q⟩
def PA.nil:PA Q1 a []:=λ_ _ q=>q
def PA.cons(a:PX te d v)(b:PA ts d xs):PA (jd te ts) d (v::xs):=λH Q q=>a H _ (b H _ q)
def PX.ax{b:L2.St}{te:TE}{v:V}(a:PX te b v):AX te b λ_ x=>x=v:=λb Q q=>a b _ (q v b (λ_ _ h=>h) rfl)
def PA.lst(a:PA ts b xs)(l:xs.length<=9:=by simp):AX (u3 ts) b λH x=>∃p,x=.ref p/\H p=some (.lst xs):=λb Q q=>a b _ ⟨zab (ql (by omega)),λp b=>q _ _ (qi b) ⟨p,rfl,qc⟩⟩
def PA.tup(a:PA ts b xs)(l:xs.length<=9:=by simp):AX (x4 ts) b λH x=>∃p,x=.ref p/\H p=some (.tup xs):=λb Q q=>a b _ ⟨zab (ql (by omega)),λp b=>q _ _ (qi b) ⟨p,rfl,qc⟩⟩
def AX.mul(a:PX te b v):AX (J0 (BD K) (u3 (jd te Q1)) (tC (.int 9))) b λH x=>∃p,x=.ref p/\H p=some (.lst (zbs 9 v)):=λb Q q=>(PA.cons a .nil).lst (by simp) b _ λx _ b ⟨p,e,d⟩=>⟨p,v,9,e,rfl,.of d,by decide,λd f=>q _ _ (b.trans (qi f)) ⟨d,rfl,qc⟩⟩
def AX.mt:AX kj b λH x=>∃p,x=.ref p/\H p=some (.dK []):=λ_ Q q p a=>q _ _ (qi a) ⟨p,rfl,qc⟩
def AX.lst1{Pr:Hp->V->Prop}(d:∀{H H' v},Same H H'->Pr H v->Pr H' v)(a:AX te b Pr):AX (u3 (jd te Q1)) b λH x=>∃p u,x=.ref p/\H p=some (.lst [u])/\Pr H u:=λb Q q=>a b _ λv _ e pv=>⟨sz,λp b=>q _ _ (e.trans (qi b)) ⟨p,v,rfl,qc,d (qi b) pv⟩⟩
def AL.nil{a:L2.St}{Pr:Hp->V->Prop}:AL Q1 a Pr 0:=λa Q q=>q [] a (λ_ _ h=>h) rfl λx a=>(nomatch a)
def AL.cons(a:AX te d (Um y))(b:AL ts d (Um y) n):AL (jd te ts) d (Um y) (n+1):=λd Q q=>a d _ λv d f pv=>b d _ λd g e i j=>q (v::d) g (f.trans e) (by rw[zae,i]) λx d=>by
 rcases tH.mp d with rfl | d
 ·exact pv.keep λb f h _=>e b f h
 ·exact j x d
def AX.non(a:AX f e d)(b:AX g e i)(j:∀{H H' v},Same H H'->d H v->d H' v)(c:∀{H v u},d H v->i H u->xQ y H v u z):AX (x4 (jd f (jd (x4 (jd (tC (.str z)) (jd g Q1))) Q1))) e (Um y):=λd Q q=>a d _ λv d i pv=>b d _ λu _ d l=>⟨sz,λe m=>⟨sz,λo f=>by
 have g:=(qi m).trans (qi (o:=HO.tup [v,.ref e]) f);exact q _ _ (i.trans (d.trans g)) ⟨o,e,v,u,z,rfl,qc,qt qc f,(c (j d pv) l).keep λb d h _=>g b d h⟩⟩⟩
def A0(y:Str)(n:Nat)(H:Hp)(x:V):Prop:=∃b a,x=.ref b/\H b=some (.lst a)/\a.length=n/\∀v∈a,Um y H v
def AL.lst(h:AL ts a (Um y) n)(j:n<=10):AX (u3 ts) a (A0 y n):=λa Q q=>h a _ λd _ e f g=>⟨zab (ql (by omega)),λi a=>q _ _ (e.trans (qi a)) ⟨i,d,rfl,qc,f,λv d=>(g v d).keep λb _ h _=>qt h a⟩⟩
def AX.add{Q:VK}(e:d[i]?=some (some v))(f:A0 y m H v)(b:AX g d (A0 y n))(l:m+n<=10)(q:∀u a,Same H a->A0 y (m+n) a u->Q u a):J0 (BL K) (jg i) g d H Q:=by
 obtain⟨d,g,rfl,j,_,o⟩:=f;refine⟨_,e,b H _ λu a a ⟨f,p,r,z,_,B⟩=>?_⟩;subst r;refine⟨d,f,g,p,rfl,rfl,.of (a _ _ j),.of z,zab (ql (by omega)),λd hr=>q _ _ (a.trans (qi hr)) ⟨d,_,rfl,qc,by rw[tx];omega,λx d=>?_⟩⟩;rcases tQ.mp d with h | h
 ·exact(o x h).keep λb d h _=>qt (a _ _ h) hr
 ·exact(B x h).keep λb d h _=>qt h hr
def Hw{a:L2.St}{D:QN}(h:D.nx (a.set i (some v)) H):Qp i v a H D.nx:=h
def Cq{a b:TS}(h:a {D with nx:=b D} d H):uY a b D d H:=h
def Ec{te:TE}{g:TG}{D:QN}(h:te a H λv H'=>g v a H' D.nx):UE te g D a H:=h
def F9{xs:List V}{r:Int}(b:0<=r)(d:r < xs.length):∃x∈xs,Vw xs r=some x:=by
 have a:r.toNat < xs.length:=by omega
 refine⟨xs[r.toNat],zbo a,?_⟩;unfold Vw NH;rw[if_pos b,if_pos d];exact tj a
abbrev FH:List Str:=["_law_source_here","_law_rows_here","_law_name","_law_some"]
def Ia:qk FH ["_law_source_here","_law_rows_here"] (qg VG):=jM
def Rj{P:Program}{w:World}{K:zel}{mg:Str->Option Value}{base:Heap}{CH:Addr}{CT:Addr}{CP:Addr}{f j:Addr}{g l:zep}(F:jq K "_law_none" "_law_none" VG f g)(m:qM K mg "_law_take" zN ["_law_source_here","_law_many"] j l):qp P w K mg base q5 2 f g ["_law_source_here","_law_rows_here"] (yL K CH CT CP):=by
 refine F.okK Ia λH Q E hr z=>?_;obtain⟨d,l,n,s0,t,o,O,rfl,hd,j,q⟩:=z;refine⟨_,qd (qy 2 (qD qJ (qD jj (jv 1) qh) qh))
  (qd (qy 3 (qW (BS (qC (qV Zq (qC (qV qv Zq)))) (qC (qV (jv 2) (qC (qV qv (jv 2))))) (qC (qV (qC (jc (jv 2))) (qC (qV qv (qC (jc (jv 2))))))) (qC (qV (qN xk (qW (jc (jv 2))) qh) (qC (qV qv qh)))))))
  (qd (qy 3 (qN Z7 (jv 3) (qW (ZV (qC (qV (qW (qV (jv 2) qv)) (qC (qV qv qv)))) (qC (qV (qW (ZV (jv 2) Zq qh)) (qC (qV qv Zq)))) (qC (qV (qW (jc (qW (jc (jv 2))))) (qC (qV qv (qW (jc (jv 2)))))))))))
  (qd (qy 3 (qN Z7 (jv 3) (qW (ZV (qC (qV Qf (qC (qV qv Qf)))) (qC (qV (qN xk (qW (jc (qN zy (jv 2) qv))) qh) (qC (qV qv qh)))) (qC (qV (qW (qV (jv 2) qh)) (qC (qV qv qh))))))))
  (qe (qo (qD jj (jv 3) (qE m (pin P w mg base (Z8 m.fn)) (qV (jv 0) qh)))))))),?_⟩
 cases O with
 | nil=>exact absurd j.pos (zan 0)
 | cons U O=>
 obtain⟨g,m,rfl⟩:∃g m,o=g::m:=by
  cases o with
  | nil=>exact absurd j.rows.1 (by simp)
  | cons g m=>exact⟨g,m,rfl⟩
 obtain⟨y,Y⟩:=U;obtain⟨_,m,_⟩:=j.rows.2 0 g (y,Y) rfl rfl;have ac:∀z∈((y,Y)::O).map (·.1),jm z=true:=λz o=>by obtain⟨aa,p,rfl⟩:=tz.mp o;exact j.good.nm aa p
 refine⟨_,rfl,l,_,0,.ref g,rfl,rfl,.of j.at_,QJ rfl,g,_,0,.str y,rfl,rfl,.of m,QJ rfl,Hw ?_⟩
 try dsimp only
 refine Cq (Ec ?_);have mk:∀{H j:Hp} {v:V} {m:HO},Same H j->(∃g,v=.ref g/\H g=some m)->∃g,v=.ref g/\j g=some m:=λs ⟨g,e,h⟩=>⟨g,e,s _ _ h⟩;have j:((L2.start FH [V.ref d,V.ref l]).set 2 (some (.str y)))[2]?=some (some (.str y)):=rfl;have B:((L2.start FH [V.ref d,V.ref l]).set 2 (some (.str y)))[0]?=some (some (.ref d)):=rfl;have p:((L2.start FH [V.ref d,V.ref l]).set 2 (some (.str y))).length=4:=rfl;generalize (L2.start FH [V.ref d,V.ref l]).set 2 (some (.str y))=T at j B p;refine AL.lst (y:=y) (n:=4) ?_ (by decide) H _ λv1 _ s1 L=>Hw ?_
 ·refine .cons ?_ (.cons ?_ (.cons ?_ (.cons ?_ .nil)))
  ·exact .non (PX.c.ax) (PX.c.ax) (λ_ e=>e) λa b=>by rw[a,b];exact .non
  ·exact .non (PX.v j).ax (PX.v j).ax (λ_ e=>e) λa b=>by rw[a,b];exact .str
  ·exact .non ((PA.cons (PX.v j) .nil).tup) ((PA.cons (PX.v j) .nil).tup) mk λ⟨g,e,h⟩ ⟨q,C,o⟩=>by rw[e,C];exact .tup h o
  ·exact .non (AX.mul (PX.v j)) (PX.c.ax) mk λ⟨g,e,h⟩ b=>by rw[e,b];exact .many h
 try dsimp only
 refine Cq (Ec ?_);have g3:∀{l:L2.St} {v:V} {i:Nat} {x:Option V},i≠3->l[i]?=some x->(l.set 3 (some v))[i]?=some x:=λ{l v i x} n h=>by rwa [zbY (λz=>n z.symm)]
 have h3:∀{l:L2.St} {v:V},l.length=4->(l.set 3 (some v))[3]?=some (some v):=λ{l v} h=>by rw[zbK (by omega)]
 have r:=g3 (v:=v1) (by decide) j;have D:=g3 (v:=v1) (by decide) B;have J:=h3 (v:=v1) p;have ab:(T.set 3 (some v1)).length=4:=by rw[zbb];exact p
 generalize T.set 3 (some v1)=l at r D J ab;refine AX.add J L (n:=3) (AL.lst ?_ (by decide)) (by decide) λL _ s2 ae=>Hw ?_
 ·refine .cons ?_ (.cons ?_ (.cons ?_ .nil))
  ·exact .non ((PA.cons (PX.v r) (.cons .c .nil)).lst) (PX.c.ax) mk λ⟨g,e,h⟩ b=>by rw[e,b];exact .plc h (by decide) (.inr (.inr rfl))
  ·exact .non ((PA.cons (PX.v r) (.cons .c (.cons .c .nil))).lst) (PX.c.ax) mk λ⟨g,e,h⟩ b=>by rw[e,b];exact .plc h (by decide) (.inl rfl)
  ·exact .non (.lst1 (Pr:=λH x=>∃g,x=V.ref g/\H g=some (HO.lst [V.str y])) mk (PA.cons (PX.v r) .nil).lst) ((PA.cons (PX.v r) .nil).lst) (λs ⟨g,u,e,h,o⟩=>⟨g,u,e,s _ _ h,mk s o⟩) λ⟨g,u,e,h,⟨_,e1,o⟩⟩ ⟨q,C,af⟩=>by subst e1;rw[e,C];exact .pl h o af
 try dsimp only
 refine Cq (Ec ?_);have j:=g3 (v:=L) (by decide) r;have B:=g3 (v:=L) (by decide) D;have r:=h3 (v:=L) ab;have p:(l.set 3 (some L)).length=4:=by rw[zbb];exact ab
 generalize l.set 3 (some L)=T at j B r p;refine AX.add r ae (n:=3) (AL.lst ?_ (by decide)) (by decide) λr L s3 ag=>Hw ?_
 ·refine .cons ?_ (.cons ?_ (.cons ?_ .nil))
  ·exact .non .mt .mt mk λ⟨g,e,h⟩ ⟨q,C,o⟩=>by rw[e,C];exact .mt h o
  ·exact .non (AX.mul (v:=.str (y++zem "9")) λH Q q=>⟨_,j,y,_,rfl,rfl,zab (ql (by have:=(X5 (ac y tX)).2.1;have e:(zem "9").length=1:=rfl;omega)),q⟩) (PX.c.ax) mk λ⟨g,e,h⟩ b=>by rw[e,b];exact .many h
  ·exact .non ((PA.cons (PX.v j) (.cons .c .nil)).lst) (PX.c.ax) mk λ⟨g,e,h⟩ b=>by rw[e,b];exact .plc h (by decide) (.inr (.inl rfl))
 try dsimp only
 have D:=g3 (v:=r) (by decide) B;have J:=h3 (v:=r) p;generalize T.set 3 (some r)=l at D J;have j:=s1.trans (s2.trans s3);refine⟨_,J,_,D,d,10,n,s0,t,rfl,j _ _ hd,by decide,by decide,λaa l o U r=>?_⟩;obtain⟨g,p,rfl,B,C,D⟩:=ag;obtain⟨x,J,T⟩:=F9 (xs:=p) U (C▸r);have r:∀b m,L b=some m->(∀n s t,m≠.dK (src n s t))->upd L d (.dK (src l s0 o)) b=some m:=λb m h C=>by
  rw[qf λz=>?_]
  ·exact h
  ·rw[z,j _ _ hd]at h;exact C _ _ _ (tF.inj h).symm
 obtain⟨C,L,v,u,z,rfl,U,ah,fm⟩:=(D x J).keep r;obtain⟨D,J,bad,wd,tw⟩:=fm.bad (K:=K) (CH:=CH) (CT:=CT) (CP:=CP) (N:=((y,Y)::O).map (·.1)) tX ac;exact⟨g,p,aa,_,rfl,rfl,.of (r _ _ B λ_ _ _ z=>nomatch z),T,q _ C L v J u D z l o U ah bad wd tw qc (λb m h g=>by rw[qf g];exact j _ _ h)⟩
open PyProof.Rows hiding K lo
def FO(b:0<=r)(d:r < 4):∃a:Nat,Vw [V.int 5,.int 7,.int 9,.int 14] r=some (.int (a:Int))/\0 < a/\a<=14:=by
 have:r=0\/r=1\/r=2\/r=3:=by omega
 rcases this with rfl | rfl | rfl | rfl
 ·exact⟨5,rfl,by decide,by decide⟩
 ·exact⟨7,rfl,by decide,by decide⟩
 ·exact⟨9,rfl,by decide,by decide⟩
 ·exact⟨14,rfl,by decide,by decide⟩
def zD(fr:Fr H d H')(hd:H d=some (.dK kv))(a:H b=some o)(no:∀kv,o≠.dK kv):H' b=some o:=fr _ _ a λe=>by
 rw[e,hd]at a;exact no _ (tF.inj a).symm
def NC{ns:List Int}(h:SqL K H p (ns.map V.int))(hd:H d=some (.dK a))(f:Fr H d H'):SqL K H' p (ns.map V.int):=by
 rcases h with (h | ⟨a,h⟩) | h
 ·exact .inl (.inl (f _ _ h (nq hd h)))
 ·exact .inl (.inr ⟨a,f _ _ h (nq hd h)⟩)
 ·exact .inr h
def ja.fr(h:ja H D rs R)(hd:H d=some (.dK kv))(n:D≠d)(s:Fr H d H'):ja H' D rs R:=⟨let ⟨e,a,b,c⟩:=h.at_;⟨e,s _ _ a n,b,λe hr=>let ⟨t,u,v⟩:=c e hr;⟨t,u,zD s hd v (λ_ z=>nomatch z)⟩⟩⟩
def F0(b:0<=n)(h:(if (if (4:Int) < n then (4:Int) else n) > 2 then (if (4:Int) < n then (4:Int) else n) else 2)=a):-(2^62)<=a/\a < 2^62:=by
 subst h;split<;>split<;>omega
inductive yJ(K:zel)(PT PP:Addr)(vs:List V)(H:Hp)(Q:VK):Prop
 | mk (a:Addr) (ns:List Int):vs=[.ref a]->(SqL K H a (ns.map V.int))->(ns.length<=63)->H PT=some (.tbl #[.str WH 0])->H PP=some (.tbl #[.str Zz 0])->(∀H',Q (.bl true) H')->yJ K PT PP vs H Q
def Cg(K:zel)(PT PP:Addr):Sp:=λa H Q _=>yJ K PT PP a H Q
def vY(R:Rs Str)(z:Str):Str:=if (qz R z).isSome=true then zem "number" else zem "endless"
def DI(a:ja H D rs R)(b:∃r∈rs,r.1=z):∃t xs,jZ H D (.str z) (some (.ref t))/\H t=some (.tup (.str (vY R z)::xs)):=by
 obtain⟨_,e,_,d⟩:=a.at_;obtain⟨f,g,i⟩:=b;obtain⟨t,b,a⟩:=d f g;rw[i]at b a;have d:jZ H D (.str z) (some (.ref t)):=by rw[<-b];exact jZ.k (k:=(Sum.inr z:qZ)) e
 unfold jV at a;unfold vY;cases b:qz R z with
 | some m=>rw[b]at a;exact⟨t,_,d,a⟩
 | none=>rw[b]at a;exact⟨t,_,d,a⟩
def Nu{K:zel}{hp D W:Addr}{rs:ju}{R:Rs Str}{hs:List Str}{H:Hp}{a:Str}{Q:Hp->Prop}(b:H W=none)(j:ja H D rs R)(d:js H hp rs hs)(k:∀G,Same H G->G W=some (.lst ((hs.filter λz=>decide (vY R z=a)).map V.str))->Q G):
  Yo (B7 K hp) (Qp 0) (Zx (J0 BK (J0 (JQ K) (Zy (jg 1) (jg 0)) (tC (.int 0))) (tC (.str a)))) (jg 0) W [none,some (.ref D)] H Q:=by
 refine QI b d.at_ (ql (by have:=d.le;omega)) (λz g X i l f=>?_) (λz g v b X i l f=>?_) (λl m o=>k l m (by rwa [Jk]at o))
 ·obtain⟨t,_,l,m⟩:=DI (j.mono i) (d.in_ z g);refine⟨_,rfl,_,rfl,D,_,rfl,l,t,_,0,.str (vY R z),rfl,rfl,.of m,QJ rfl,rfl,_,rfl,?_⟩;have d:=f X (Same.refl X);have e:(if decide (vY R z=a)=true then some (V.str z) else none).isSome=decide (V.str (vY R z)=V.str a):=by
   by_cases c:vY R z=a
   ·rw[decide_eq_true c,decide_eq_true (congrArg V.str c)];rfl
   ·rw[decide_eq_false c,decide_eq_false λz=>c (V.str.inj z)];rfl
  rwa [e]at d
 ·have d:v=.str z:=by
   by_cases c:vY R z=a
   ·rw[decide_eq_true c]at b;exact(tF.inj b).symm
   ·rw[decide_eq_false c]at b;cases b
  subst d;exact⟨_,rfl,f X (Same.refl X)⟩
def uN(R:Rs Str):∀hs:List Str,(hs.filter λz=>decide (vY R z=zem "number")).length+(hs.filter λz=>decide (vY R z=zem "endless")).length<=hs.length
 | []=>tp _
 | z::hs=>by
  have a:=uN R hs;have ne:zem "number"≠zem "endless":=by decide+kernel
  rw[zbe,zbe];by_cases c:vY R z=zem "number"
  ·have a:¬vY R z=zem "endless":=λz=>ne (c.symm.trans z);rw[if_pos (decide_eq_true c),if_neg (by rw[decide_eq_false a];decide),zae,zae];omega
  ·rw[if_neg (by rw[decide_eq_false c];decide),zae];split
   ·rw[zae];omega
   ·omega
def Ug{a:List Str}(k:Nat):Ye (a.map V.str) none (some (k:Nat))=(a.take k).map V.str:=by
 unfold Ye;rw[HT.sIx_none,tc,HT.sIx_nat,zde,zcW,zdQ];by_cases c:k<=a.length
 ·rw[zcr c]
 ·rw[zdr (by omega),tv (by rw[tc];omega),tv (by rw[tc];omega)]
def EZ(h:PySem.SeqAt.shaped (.tuple [.str (zem "place"),d])=true)(a:PyData.strOk z=true):PySem.SeqAt.shaped (.tuple [.str z,d])=true:=by
 unfold PySem.SeqAt.shaped at h ⊢;simp only[PyData.canLay0,PyData.canLayAll0,MO,a,PyData.depth,PyData.depthAll]at h ⊢;exact h
def Ca(h:Hy CH CT CP C z):PyData.strOk z=true:=by
 rcases h with ⟨_,rfl⟩ | ⟨_,rfl⟩ | ⟨_,rfl⟩<;>decide+kernel
def Hb.keep(h:Hb K H v f)(s:Qa H H'):Hb K H' v f:=by
 rcases h with ⟨d,a,b,c⟩ | ⟨a,b,e,f,g,i⟩
 ·exact .inl ⟨d,Xu s a,Xu s b,c⟩
 ·exact .inr ⟨a,b,e,f,g.imp (λh=>s _ _ h λ_ z=>nomatch z) (λ⟨f,h⟩=>⟨f,s _ _ h λ_ z=>nomatch z⟩),i.imp (λh=>s _ _ h λ_ z=>nomatch z) (λ⟨f,h⟩=>⟨f,s _ _ h λ_ z=>nomatch z⟩)⟩
abbrev IK:List Str:=["_law_script","_law_k","_law_source_here","_law_rows_here","_law_labels_here","_law_heap_here","_law_endless","_law_numbered","_law_some","_law_thing","_law_due_here","_law_way"]
def Bt:qk IK ["_law_script"] (qg VF):=jM
structure Lh(K:zel)(mg:Str->Option Value):Prop where
 cell:∃f fd,qM K mg "_law_cell_at" y6 ["_law_script","_law_k"] f fd
 source:∃f fd,qM K mg "_law_source" Xd ["_law_cell"] f fd
 take:∃f fd,qM K mg "_law_take" zN ["_law_source_here","_law_many"] f fd
 names:∃f fd,qM K mg "_law_names" XG ["_law_source_here","_law_many"] f fd
 leads:∃f fd,qM K mg "_law_leads" XH VO f fd
 rows:∃f fd,qM K mg "_law_rows" yX ["_law_source_here","_law_most"] f fd
 need:∃f fd,qM K mg "need_rows" U9 ["rows"] f fd
 heap:∃f fd,qM K mg "_law_heap" VH Hu f fd
 nums:∃f fd,qM K mg "_law_numbers" J2 ["_law_rows_here"] f fd
 comes:∃f fd,qM K mg "_law_comes" Z6 GJ f fd
 back:∃f fd,qM K mg "_law_back" zu GJ f fd
 labels:∃f fd,qM K mg "_law_labels" zS ["_law_rows_here"] f fd
 out:∃f fd,qM K mg "_law_outcome" XJ ["_law_labels_here","_law_heap_here"] f fd
 moves:∃f fd,qM K mg "_law_moves" Zg MS f fd
 aft:∃f fd,qM K mg "_law_after" YR BN f fd
 ask:∃f fd,qM K mg "_law_ask" vg GK f fd
 told:∃f fd,qM K mg "_law_told" XI GK f fd
 lacks:∃f fd,qM K mg "_law_lacks" zR ["_law_bits"] f fd
 tot:∃f fd,qM K mg "_law_total" ve ["_law_labels_here","_law_heap_here"] f fd
 dm:∃f fd,qM K mg "_law_drawn_move" K6 Uq f fd
 wm:∃f fd,qM K mg "_law_won_move" K5 Uq f fd
 due:∃f fd,qM K mg "_law_due" vf Uq f fd
 right:∃f fd,qM K mg "_law_right" Xf Uq f fd
 none_:∃f fd,qM K mg "_law_none" VG ["_law_source_here","_law_rows_here"] f fd
structure Lg(K:zel)(mg:Str->Option Value):Prop where
 wb:∃f fd,qM K mg "winning_by" zq p3 f fd
 cb:∃f fd,qM K mg "count_by" zw ["labels","heap"] f fd
 db:∃f fd,qM K mg "drawer_by" wo p3 f fd
 pb:∃f fd,qM K mg "player_by" wl p3 f fd
 no:∃f fd,qM K mg "need_outcome_by" XE ["labels","heap","wanted"] f fd
 oa:∃f fd,qM K mg "outcomes_after" kq p2 f fd
 sf:∃f fd,qM K mg "safe_moves" W7 p2 f fd
 wm:∃f fd,qM K mg "winning_moves" zL p2 f fd
 co:∃f fd,qM K mg "count_of" XO p2 f fd
 wr:∃f fd,qM K mg "winner" zK p2 f fd
 mm:∃f fd,qM K mg "most_moves" vd p2 f fd
 dr:∃f fd,qM K mg "drawer" Zh p2 f fd
def Dn{P:Program}{w:World}{K:zel}{mg:Str->Option Value}{base:Heap}{f C c PT J m PP U D l CH CT CP fX:Addr}{o p r aM:zep}(F:jq K "law" "law" VF f o)(hA:qM K mg "winner_by" Zf p3 C p)(hc:p.code=.ref c)(TM:Wx mg base c PT)(aw:qM K mg "player" QV ["ground"] J r)(aN:r.code=.ref m)(aO:Wx mg base m PP)(h:WF K mg)(B:QL mg)(Zk:Wk K mg)(G:QB mg)(T:Qv K mg)(N:Ek K mg)(M:GM K mg U)(Y:El K mg)(O:NF K mg)(j:A1 K mg)(D1:Hi K mg)(g:Lg K mg)(L:Lh K mg)(ay:mg "dict"=none)
  (xS:k9 K mg D "NotSo" "NotSo.__init__" zt "found" l fX aM) (XS:Li K mg D CH CT CP) (Z:Ei K mg D l) (Yx:KitX K l CH CT CP):qp P w K mg base q5 18 f o ["_law_script"] (Cg K PT PP):=by
 obtain⟨_,_,hO⟩:=L.cell;obtain⟨_,_,hL⟩:=L.source;obtain⟨_,_,p⟩:=L.take;obtain⟨_,_,hN⟩:=L.names;obtain⟨_,_,hD⟩:=L.leads;obtain⟨fR,_,hR⟩:=L.rows;obtain⟨_,_,o⟩:=L.need;obtain⟨_,_,hH⟩:=L.heap;obtain⟨f1,_,h1⟩:=L.nums;obtain⟨f2,_,h2⟩:=L.comes;obtain⟨f3,_,h3⟩:=L.back;obtain⟨_,_,az⟩:=L.labels;obtain⟨f4,_,h4⟩:=L.out;obtain⟨f5,_,J⟩:=L.moves;obtain⟨_,_,U⟩:=L.aft;obtain⟨_,_,h7⟩:=L.ask;obtain⟨_,_,h8⟩:=L.told;obtain⟨_,_,h9⟩:=L.lacks;obtain⟨g1,_,k1⟩:=L.tot;obtain⟨g2,_,k2⟩:=L.dm;obtain⟨g3,_,k3⟩:=L.wm;obtain⟨_,_,k4⟩:=L.due;obtain⟨_,_,aA⟩:=L.right;obtain⟨aP,aQ,aB⟩:=L.none_;obtain⟨_,_,e1⟩:=g.wb;obtain⟨_,_,e2⟩:=g.cb;obtain⟨_,_,c1⟩:=g.db;obtain⟨_,_,c2⟩:=g.pb;obtain⟨_,_,e3⟩:=g.no;obtain⟨_,_,c3⟩:=g.oa;obtain⟨_,_,c4⟩:=g.sf;obtain⟨_,_,e4⟩:=g.wm;obtain⟨_,_,e5⟩:=g.co;obtain⟨_,_,e6⟩:=g.wr;obtain⟨_,_,e7⟩:=g.mm;obtain⟨_,_,c5⟩:=g.dr;obtain⟨_,_,e8⟩:=O.place;obtain⟨_,_,l⟩:=O.heap;obtain⟨_,_,d7⟩:=j.mo;obtain⟨_,_,d8⟩:=j.lb;obtain⟨_,_,d9⟩:=j.oby;obtain⟨_,_,r⟩:=j.osby;obtain⟨_,_,m⟩:=Y.labels;obtain⟨_,_,g⟩:=M.cls;have GI:=pin P w mg base (Rq g B G T N o);have G5:=pin P w mg base (wO J.fn T ay);have C:=pin P w mg base (wR m.fn B G T M Y);have D9:=pin P w mg base (Rc d9.fn h B Zk O);have E9:=pin P w mg base (vt l.fn B G T M e8 O.most);have ED:=pin P w mg base (Dq c1.fn h B G T M Y O j D1);have EP:=pin P w mg base (Dc c2.fn B d9 D9 hA (pin P w mg base (GZ hA.fn hc TM B G T e2 d8 e1 (pin P w mg base (G0 e1.fn h B Zk G T M O j)))) c1 ED d7 (pin P w mg base (XZ d7.fn B G T M e8 O.most l)) xS);have o:=pin P w mg base (wM l.fn B G T M e8 O.most XS);have X6:=pin P w mg base (Df r.fn d7 (Dh d7.fn l o));have G7:=pin P w mg base (M9 h7.fn c5 (pin P w mg base (wU c5.fn m C l E9 e3 (pin P w mg base (Rf e3.fn d9 D9 xS)) c1 ED)) (Dp c5.fn l o) aw (pin P w mg base (wI aw.fn aN aO m C)) (D7 l E9 o c2 EP) c4 (pin P w mg base (M3 c4.fn c3 (pin P w mg base (De c3.fn m C r (pin P w mg base (xm r.fn h B Zk G T M O j)))))) (Db c4.fn c3 (Dg c3.fn r X6 m C)) e4 (C8 e4.fn e1 (Da e1.fn r X6) m C) e6 (C7 e6.fn l o) e5 (Dr e5.fn l o) e7 (Di e7.fn l o));have m:=pin P w mg base (Ri h8.fn T h7 G7 xS XS Z Yx);have o:qp P w K mg base q5 2 aP aQ ["_law_source_here","_law_rows_here"] (yL K CH CT CP):=Rj aB.fn p;refine F.okK Bt λH Q E hr z=>?_;obtain⟨a,j,rfl,r,_,aR,aS,k⟩:=z;refine⟨_,qd (qX (jW (by rfl) B.rng (jc (qx (Vo rfl) (by rfl) B.max boot_max (qV qh (qx (uH rfl) (by rfl) B.min boot_min (qV (qx qL (by rfl) B.len boot_len (jc (jv 0))) qh)))))) (qF 1)
   (qd (qy 2 (qE hL (pin P w mg base (wH hL.fn B)) (jc (qE hO (pin P w mg base (Af hO.fn B)) (qV (jv 0) (jv 1))))))
  (qd (qy 3 (qE hR (pin P w mg base (M4 hR.fn B G p hN hD)) (qV (jv 2) (qD jj (qW (BS qh qh qh qh)) (qE p (pin P w mg base (Z8 p.fn)) (qV (jv 2) qh))))))
  (qd (YV 4 (qE az (pin P w mg base (kB az.fn B ay h3 h2 h1)) (jc (jv 3))))
  (qd (qy 5 (qE hH (pin P w mg base (Rk hH.fn B p)) (ZV (jv 2) (jv 3) qh)))
  (qd (QH (i:=6) (N':=["_law_name","_law_labels_here"]) (ix:=[none,some 4]) (tt:=Zx (J0 BK (J0 (JQ K) (Zy (jg 1) (jg 0)) (tC (.int 0))) (tC (.str (zem "endless"))))) (qB (jv 5)) (λg p H2 fp C=>
     ⟨qF 0,jt (qj qT (qD qJ (qO (jv 1) (jv 0)) qh) qv),jv 0⟩))
  (qd (QH (i:=7) (N':=["_law_name","_law_labels_here"]) (ix:=[none,some 4]) (tt:=Zx (J0 BK (J0 (JQ K) (Zy (jg 1) (jg 0)) (tC (.int 0))) (tC (.str (zem "number"))))) (te:=jg 0) (hN:=Bt.nd) (qB (jv 5)) (λg p H2 fp C=>
     ⟨qF 0,jt (qj qT (qD qJ (qO (jv 1) (jv 0)) qh) qv),jv 0⟩))
  (qd (qX (qB (qW (BS (jv 5) (qN Z7 (jv 7) (Q4 Z4 (jv 6) JK (JJ qh))) (qN Z7 (Q4 Z4 (jv 6) JK (JJ qh)) (Q4 Z4 (jv 7) JK (JJ qh))) (jv 7)))) (qF 8)
   (qe (qA (Jp (jA (qE aA (pin P w mg base (wN aA.fn B G T g GI h8 m k4 (pin P w mg base (M8 k4.fn B J G5 U h4 k2 (pin P w mg base (Dm k2.fn B T J G5 U k1 h9)) k3 (pin P w mg base (Dk k3.fn B T J G5 U h4)))) h4 U)) (ZV (jv 3) (jv 4) (jv 8))))) qS qr)))
  (qd (RN (qE aB o (qV (jv 2) (jv 3))) (JV rfl (jh (qF 9) (jh (qF 10) QX))))
  (qe (qX (jW (by rfl) B.rng (jc qh)) (qF 11)
   (qe (qA (qj ((GR hr.units).or (MX hr.units)) (qE h8 m (ZV (jv 11) (JL g.mkr GI (hr.mono (by decide)) (by rfl) g.ns g.bi .nil Qy (jc (jF Qj (by rfl) G.lst boot_list (jc (jv 3))))) (jv 9))) (jv 10)) qS qr)))))))))))))
  (qe (qo Qz)),?_⟩
 refine⟨_,rfl,a,_,rfl,.inl r,_,_,rfl,_,_,rfl,?_⟩;generalize m:(if (if (4:Int) < ((j.map V.int).length:Int) then (4:Int) else ((j.map V.int).length:Int)) > 2 then (if (4:Int) < ((j.map V.int).length:Int) then (4:Int) else ((j.map V.int).length:Int)) else 2)=o;have g:=F0 (by omega) m;refine⟨o,rfl,g.1,g.2,Jj (λi m H'=>∃v1 v2 v3 v4 v5 v6 v7 o v9 va C,m=[some (.ref a),v1,v2,v3,v4,v5,v6,v7,o,v9,va,C]/\SqL K H' a (j.map V.int)/\H' PT=some (.tbl #[.str WH 0])/\H' PP=some (.tbl #[.str Zz 0])) ⟨_,_,_,_,_,_,_,_,_,_,_,rfl,r,aR,aS⟩ ?_ ?_⟩
 ·rintro i m H' hi ⟨v1,v2,v3,v4,v5,v6,v7,o,v9,va,C,rfl,am,an,ao⟩;refine⟨_,rfl,_,rfl,a,j,_,rfl,am,by omega,λc=>⟨c,rfl,λd n sd hd=>⟨_,rfl,sz,λj g=>?_⟩⟩⟩;have aC:j≠d:=nq qc g;refine⟨_,rfl,d,4,n,sd,0,rfl,qt qc g,by decide,by decide,λaa n1 p r J=>?_⟩;obtain⟨U,em,m0,aD⟩:=FO r J;refine⟨j,_,aa,_,rfl,rfl,.of ((qf aC)▸qc),em,d,U,n1,sd,p,rfl,qc,m0,aD,λr J p n2 t2 H2 _ aT f9 good pos le aE aU=>?_⟩;have sm:Same H' H2:=λb u U=>by
   have j:=qm U hd;refine aU b u ?_ j;rw[qf j,qf (qm U (by rw[qf aC]at g;exact g)),qf j];exact U
  have g2:jJ H2 r J p:=⟨aT,f9,good,pos,t8 le aD⟩;refine⟨_,rfl,r,J,p,rfl,g2,λ_ D' R g nD lb all=>?_⟩;have U:=g _ _ aE;have ac:=sm.trans g;have g3:=g2.mono g;refine⟨_,rfl,_,rfl,d,r,8,n2,sd,t2,J,p,rfl,U,g3,tp _,λhp hs n4 t4 g _ aV l8 ap aW ab=>?_⟩;have lh:LH g r D' hp J p R hs:=⟨g3.fr' U ab,lb.fr U (λe=>by rw[e,aE]at nD;cases nD) ab,⟨aV,l8,ap⟩⟩;have aX:B3 PT PP g:=⟨⟨0,zD ab U (ac _ _ an) (λ_ z=>nomatch z)⟩,⟨0,zD ab U (ac _ _ ao) (λ_ z=>nomatch z)⟩⟩;refine⟨_,rfl,hp,rfl,⟨_,.of lh.2.2.at_⟩,λWe g=>Nu g lh.2.1 lh.2.2 λ_ s7 aY=>?_⟩;have g:=lh.mono s7;refine⟨_,rfl,hp,rfl,⟨_,.of g.2.2.at_⟩,λWn aZ=>Nu aZ g.2.1 g.2.2 λH8 s8 af=>?_⟩;have aq:=g.mono s8;have ar:=s8 _ _ aY;have gB:=uN R hs;have as:∀z∈hs.filter (λz=>decide (vY R z=zem "endless")),∃aa∈p,aa.1=z:=λz hz=>ap z (tP.mp hz).1;have ag:∀z∈hs.filter (λz=>decide (vY R z=zem "number")),∃aa∈p,aa.1=z:=λz hz=>ap z (tP.mp hz).1;generalize hs.filter (λz=>decide (vY R z=zem "endless"))=g at ar as gB;generalize hs.filter (λz=>decide (vY R z=zem "number"))=j at af ag gB;refine⟨_,rfl,_,rfl,_,rfl,_,rfl,We,_,rfl,.of ar,λp1 f1=>?_⟩
  try dsimp -proj only at f1 ⊢
  rw[show Ye (g.map V.str) none (some 1)=(g.take 1).map V.str from Ug 1];have s9:=qi (o:=HO.lst ((g.take 1).map V.str)) f1;have l:upd H8 p1 (HO.lst ((g.take 1).map V.str)) p1=some (.lst ((g.take 1).map V.str)):=qc;generalize upd H8 p1 (HO.lst ((g.take 1).map V.str))=H9 at s9 l;refine⟨Wn,p1,_,_,rfl,rfl,.of (s9 _ _ af),.of l,zab (ql (by rw[tc,tc,tL];omega)),λp2 f2=>?_⟩;rw[<-tA];have ah:=qi (o:=HO.lst ((j++g.take 1).map V.str)) f2;have aF:upd H9 p2 (HO.lst ((j++g.take 1).map V.str)) p2=some (.lst ((j++g.take 1).map V.str)):=qc;generalize upd H9 p2 (HO.lst ((j++g.take 1).map V.str))=l at ah aF;refine⟨_,rfl,_,rfl,We,_,rfl,.of (ah _ _ (s9 _ _ ar)),λp3 f3=>?_⟩
  try dsimp -proj only at f3 ⊢
  rw[show Ye (g.map V.str) none (some 1)=(g.take 1).map V.str from Ug 1];have ai:=qi (o:=HO.lst ((g.take 1).map V.str)) f3;have aG:upd l p3 (HO.lst ((g.take 1).map V.str)) p3=some (.lst ((g.take 1).map V.str)):=qc;generalize upd l p3 (HO.lst ((g.take 1).map V.str))=aH at ai aG;refine⟨_,rfl,_,rfl,Wn,_,rfl,.of (ai _ _ (ah _ _ (s9 _ _ af))),λl f4=>?_⟩
  try dsimp -proj only at f4 ⊢
  rw[show Ye (j.map V.str) none (some 3)=(j.take 3).map V.str from Ug 3];have aj:=qi (o:=HO.lst ((j.take 3).map V.str)) f4;have aI:upd aH l (HO.lst ((j.take 3).map V.str)) l=some (.lst ((j.take 3).map V.str)):=qc;generalize upd aH l (HO.lst ((j.take 3).map V.str))=aJ at aj aI;refine⟨p3,l,_,_,rfl,rfl,.of (aj _ _ aG),.of aI,zab (ql (by rw[tc,tc,tL,tL];omega)),λl f5=>?_⟩;rw[<-tA];have au:=qi (o:=HO.lst ((g.take 1++j.take 3).map V.str)) f5;have aK:upd aJ l (HO.lst ((g.take 1++j.take 3).map V.str)) l=some (.lst ((g.take 1++j.take 3).map V.str)):=qc;generalize upd aJ l (HO.lst ((g.take 1++j.take 3).map V.str))=ak at au aK;have j:=s9.trans (ah.trans (ai.trans (aj.trans au)));have av:∀{q:Addr} {g:List Str},ak q=some (.lst (g.map V.str))->g.length<=8->(∀z∈g,∃aa∈p,aa.1=z)->LH ak r D' q J p R g:=λh1 h2 h3=>⟨(aq.mono j).1,(aq.mono j).2.1,⟨h1,h2,h3⟩⟩;refine⟨_,rfl,sz,λlw a0=>⟨lw,rfl,⟨_,.of qc⟩,?_⟩⟩;have aL:=s7.trans (s8.trans j);refine je (K:=K) (a:=lw) (xs:=[.ref hp,.ref p2,.ref l,.ref Wn]) (λi m G=>∃v1 o,m=[some (.ref a),v1,some (.ref d),some (.ref r),some (.ref D'),some (.ref hp),some (.ref We),some (.ref Wn),o,v9,va,C]/\Qa ak G/\G lw=some (.lst [.ref hp,.ref p2,.ref l,.ref Wn])) ⟨some (.int (0+(i:Int))),o,rfl,(qi a0).keep,qc⟩ (λi m G _ ⟨_,_,_,_,e⟩=>.of e) ?_ ?_
  ·rintro i y m _ hy ⟨v1,o,rfl,k1,e1⟩;obtain⟨q,g,rfl,a2⟩:∃q g,y=.ref q/\LH ak r D' q J p R g:=by
    have:=tW hy;simp only[tH,zbd,or_false]at this;rcases this with rfl | rfl | rfl | rfl
    ·exact⟨_,_,rfl,aq.mono j⟩
    ·exact⟨_,_,rfl,av (au _ _ (aj _ _ (ai _ _ aF))) (by rw[tx,tL];omega) λz hz=>(tQ.mp hz).elim (ag z) λy=>as z (zbf y)⟩
    ·exact⟨_,_,rfl,av aK (by rw[tx,tL,tL];omega) λz hz=>(tQ.mp hz).elim (λy=>as z (zbf y)) λy=>ag z (zbf y)⟩
    ·exact⟨_,_,rfl,av (j _ _ af) (by omega) ag⟩
   refine⟨_,rfl,_,rfl,_,rfl,r,D',q,J,p,R,g,rfl,a2.keep k1,all,(aX.keep aL.keep).keep k1,λg k2=>⟨_,rfl,jo ⟨_,_,rfl,k1.trans k2,k2 _ _ e1 (λ_ z=>nomatch z)⟩⟩⟩
  rintro m G ⟨v1,o,rfl,k1,e1⟩;have j:=aL.keep.trans k1;have ae:=j _ _ aW (λ_ z=>nomatch z);refine⟨_,rfl,_,rfl,d,r,n4,sd,t4,J,p,rfl,ae,lh.1.keep j,λg J q v fv u C0 z n5 _ a3 a4 bad wd tw _ al=>⟨J,_,rfl,.of a3,rfl,?_⟩⟩;have tG:g PT=some (.tbl #[.str WH 0])/\g PP=some (.tbl #[.str Zz 0]):=⟨zD al ae (j _ _ (zD ab U (ac _ _ an) (λ_ z=>nomatch z)) (λ_ z=>nomatch z)) (λ_ z=>nomatch z),zD al ae (j _ _ (zD ab U (ac _ _ ao) (λ_ z=>nomatch z)) (λ_ z=>nomatch z)) (λ_ z=>nomatch z)⟩;have qG:=NC ((NC (am.keep ac.keep) U ab).keep j) ae al;refine⟨_,_,rfl,_,_,rfl,rfl,7,rfl,by decide,by decide,Jj (λi m Y=>∃v1 o C,m=[some (.ref a),v1,some (.ref d),some (.ref r),some (.ref D'),some (.ref hp),some (.ref We),some (.ref Wn),o,some v,some (.ref q),C]/\Qa g Y) ⟨_,_,_,rfl,Qa.refl _⟩ ?_ ?_⟩
  ·rintro i m Y hi ⟨v1,o,C,rfl,J⟩;rw[zbM];have g:=((lh.1.keep j).fr' ae al).keep J;refine⟨_,rfl,_,rfl,r,_,rfl,.inl (.of g.at_),λ_ f2 x _ j r U=>Vb g.at_ g.rows g.good g.pos g.le f2 j r U λ_ j r=>?_⟩;have k4:=J.trans j.keep;refine⟨_,rfl,i,x,v,p,rfl,by omega,r,g.good,g.le,⟨⟨0,k4 _ _ tG.1 (λ_ z=>nomatch z)⟩,⟨0,k4 _ _ tG.2 (λ_ z=>nomatch z)⟩⟩,.inr ⟨C0,fv,z,bad.keep k4,wd,λ_ l p j=>?_⟩⟩;have g:=k4.trans p;have p:=g _ _ a4 (λ_ z=>nomatch z);refine⟨_,rfl,?_⟩;rcases tw.keep g with ⟨r,U,db,sh⟩ | ⟨a1,b1,rfl,rfl,ra,rb⟩
   ·exact .inl ⟨.tuple [.str z,r],.tup (.of j) (.cons (.str z) (.cons U .nil)),.tup (.of p) (.cons (.str z) (.cons db .nil)),EZ sh (Ca wd),_,rfl,jo ⟨_,_,_,rfl,g⟩⟩
   ·exact .inr ⟨l,q,z,a1,b1,rfl,rfl,.of j,.of p,ra,rb,_,rfl,jo ⟨_,_,_,rfl,g⟩⟩
  ·rintro m Y ⟨v1,o,C,rfl,J⟩;exact⟨_,_,_,_,_,_,_,_,_,_,_,rfl,qG.keep J,J _ _ tG.1 (λ_ z=>nomatch z),J _ _ tG.2 (λ_ z=>nomatch z)⟩
 ·rintro m H' ⟨v1,v2,v3,v4,v5,v6,v7,o,v9,va,C,rfl,am,an,ao⟩;exact k _
open PySem L2 MLab
open PyProof.Rows hiding K lo
def kss:tZ K (.type "str") (.type "str")=some true:=by kernel_rfl
def ktt:tZ K (.type "tuple") (.type "tuple")=some true:=by kernel_rfl
def kll:tZ K (.type "list") (.type "list")=some true:=by kernel_rfl
def kii:tZ K (.type "int") (.type "int")=some true:=by kernel_rfl
def kib:tZ K (.type "int") (.type "bool")=some false:=by kernel_rfl
def MF(K:zel)(n q:Str)(s:Stmt)(f:Addr):Prop:=∃a,jq K n q s f a
def MF.mk'{K:zel}{x qual:Str}{st:Stmt}{f:Addr}{b:Value}{d e:Option Addr}{g:Array (Option Value)}{kV i pm a ct:Value}(l:K.lookup f=some ⟨b,d,.func (zaU x qual (j4 st) (jk st) (qg st) .none kV i pm e a ct),g⟩)(c:zbh K a qual=true)(k:zaw K (.ref f)=true):MF K x qual st f:=⟨_,ZX l c k⟩
def HF(K:zel)(n:Str)(s:Stmt)(f:Addr):Prop:=zad K mainGlobals n=some (some (.ref f))/\MF K n n s f
def HF.mk'{K:zel}{x:Str}{st:Stmt}{f:Addr}{d:Value}{e g:Option Addr}{i:Array (Option Value)}{kV j pm b ct:Value}(a:zad K mainGlobals x=some (some (.ref f)))(l:K.lookup f=some ⟨d,e,.func (zaU x x (j4 st) (jk st) (qg st) .none kV j pm g b ct),i⟩)(c:zbh K b x=true)(k:zaw K (.ref f)=true):HF K x st f:=⟨a,_,ZX l c k⟩
def HF.has(l:HF K n s f)(X:K.In h)(G:h.Ns mainGlobals mg)(b:∀{d},jq K n n s f d->jy K d ps []:=by exact λF=>F.binds λ_ _ _ _ _ _ us e=>by first | (obtain⟨_,rfl⟩:=ug e;rfl) | (obtain⟨_,_,rfl⟩:=WI e;rfl) | (obtain⟨_,_,_,rfl⟩:=An e;rfl) | (obtain⟨_,_,_,_,rfl⟩:=FQ e;rfl) | (obtain⟨_,_,_,_,_,rfl⟩:=len5 e;rfl)):∃d,qM K mg n s ps f d:=let ⟨a,d,F⟩:=l;⟨d,F,zaJ X G a,b F⟩
def QF(K:zel)(C:Addr)(n q:Str)(s:Stmt)(f:Addr):Prop:=(zaa K (.ref C) n=some (some (.ref f))/\zby K (.ref f)=true)/\MF K n q s f
def QF.mk'{K:zel}{C:Addr}{x qual:Str}{st:Stmt}{f:Addr}{e:Value}{g i:Option Addr}{j:Array (Option Value)}{kV m pm d ct:Value}(a:zaa K (.ref C) x=some (some (.ref f)))(b:zby K (.ref f)=true)(l:K.lookup f=some ⟨e,g,.func (zaU x qual (j4 st) (jk st) (qg st) .none kV m pm i d ct),j⟩)(c:zbh K d qual=true)(k:zaw K (.ref f)=true):QF K C x qual st f:=⟨⟨a,b⟩,_,ZX l c k⟩
def QF.has(l:QF K C n q s f)(b:∀{d},jq K n q s f d->jy K d ps []:=by exact λF=>F.binds λ_ _ _ _ _ _ us e=>by first | (obtain⟨_,rfl⟩:=ug e;rfl) | (obtain⟨_,_,rfl⟩:=WI e;rfl) | (obtain⟨_,_,_,rfl⟩:=An e;rfl) | (obtain⟨_,_,_,_,rfl⟩:=FQ e;rfl) | (obtain⟨_,_,_,_,_,rfl⟩:=len5 e;rfl)):∃d,ND K C n q s ps f d:=let ⟨⟨a,c⟩,d,F⟩:=l;⟨d,F,⟨a,c,F.kp⟩,b F⟩
def EL(a:Array DictEntry):Bool:=a.all λe=>match e.key with | .str _ _=>true | _=>false
def N1(h:EL a=true):StrKeys a:=by
 intro e a;have q:=Array.all_eq_true'.mp h e a;revert q;cases a:e.key<;>intro q<;>first | exact⟨_,_,rfl⟩ | (dsimp only at q;cases q)
def XF(K:zel)(D:Addr)(x qual fG:Str)(st:Stmt)(C f:Addr):Prop:=∀{h:Heap} {b:Str->Option Value},K.In h->h.Ns mainGlobals b->(∀h:Heap,K.In h->OwnTail h JD (.ref D::JD))->(∀{a},jq K "__init__" qual st f a->jy K a ["self",fG] [])->∃a,k9 K b D x qual st fG C f a
def XF.mk'{K:zel}{D:Addr}{C:Addr}{f:Addr}{x:Str}{qual:Str}{fG:Str}{st:Stmt}{a q:Str}{N:Addr}{bs:List Value}{d:Bool}{e:List Str}{sub:List Value}{g:Bool}{i:Option Bool}{j:Option Addr}{m o p r u:Option Value}{B:Value}{H J:Option Addr}{L:Array (Option Value)}{kV O pm y ct:Value}
  (Q:zad K mainGlobals x=some (some (.ref C)))
  (z:K.lookup C=some (excClassObj a q C N bs (.ref D::JD) d e sub g i j m o p r u "ValueError.__new__"))
  (T:zaa K (.ref C) "__init__"=some (some (.ref f))) (U:zby K (.ref f)=true) (l:K.lookup f=some ⟨B,H,.func (zaU "__init__" qual (j4 st) (jk st) (qg st) .none kV O pm J y ct),L⟩) (c:zbh K y qual=true) (k:zaw K (.ref f)=true) (Y:zaw K (.ref C)=true)
  (a6:zaa K (.ref C) "__getattribute__"=some (some (.builtin "BaseException.__getattribute__"))) (a7:zaa K (.ref C) "__getattr__"=some none)
  (a8:zaa K (.ref C) "__setattr__"=some (some (.builtin "object.__setattr__"))) (a9:zbu K C=true)
  (aa:zcj K C (.type "BaseException")=some true) (ac:zcj K C (.type "object")=some true)
  (ae:zaa K (.ref C) "__class__"=some (some (.builtin "object.__class__"))) (af:zaa K (.ref C) fG=some none):XF K D x qual fG st C f:=λX G y b=>
 ⟨_,⟨a6,a7,a8,a9,⟨_,by unfold PySem.W.clsIn;rw[z],rfl⟩,aa,ac,ae⟩,⟨⟨a,q,N,bs,d,e,sub,g,i,j,m,o,p,r,u,z⟩,y,T,U,Y⟩,zaJ X G Q,af,ZX l c k,b (ZX l c k)⟩
def at0:(a::l)[0]?=some a:=rfl
def at1:(a::b::l)[1]?=some b:=rfl
inductive yI(K:zel)(gy:List kZ)(vs:List V)(H:Hp)(Q:VK):Prop
 | mk (a:Addr) (ns:List Int):vs=[.ref a]->(SqL K H a (ns.map V.int))->(ns.length<=63)->((∀t∈gy,H t.P=some (.tbl #[.str t.q 0])))->(∀H',Q (.bl true) H')->yI K gy vs H Q
def Kx(K:zel)(a:List kZ):Sp:=λb H Q _=>yI K a b H Q
def all_mk{l:PySem.W.OpenLaw}{w:World}{K:zel}{h:Heap}{mg:Str->Option Value}{T:Addr}(X:K.In h)(G:h.Ns mainGlobals mg)(az:mg "law"=some (.ref T))
  {fO fL fT fN fD fR aA aB aC aD aE aF aG aH aI U aJ aK aL aM aN aO Y aa ab ac ae aP aQ aR aS aT aU aV aW aX aY aZ a0 a1 a2 a3 a4 a5 a6 a7 a8 a9 a' bb bc bd be bf bg bh bi bj bl bm bn bp bq br bt bu bv bw bz bA bB B bC bD r af ag ah u ai aj ak i bE b bF g bG j bH:Addr}
  {C:Addr} {bI al:Option Addr} {bJ:Array (Option Value)} {bK am an ao J ap:Value}
  {f:Addr}
  {d:Addr}
  {CE:Addr}
  {bL:Tok}
  {bM:Tok}
  {bN:Tok}
  {bO:Tok}
  {bP:Tok}
  {bQ:Tok}
  {bR:Tok}
  {D:Addr} {bS bT:Str} {aq:Addr} {bU bV:List Value} {bW bX:Bool} {bY:List Str} {bZ:Option Bool} {b0:Option Addr} {b1 b2 b3 b4 b5:Option Value} {b6:Value} {b7:Option Addr} {x:Array DictEntry} {ep:Nat} {b8:Array (Option Value)}
  {ts:List Addr} {L p m O q o:Addr} {b9 b' ca cb cc cd ce cf cg ch ci cj:Value} {ck cl cm cn co cp:Option Addr} {cq cr cs ct:Array (Option Value)} {ar as:Array Value}
  (lO:HF K "_law_cell_at" y6 fO)
  (lL:HF K "_law_source" Xd fL)
  (lT:HF K "_law_take" zN fT)
  (lN:HF K "_law_names" XG fN)
  (lD:HF K "_law_leads" XH fD)
  (lR:HF K "_law_rows" yX fR)
  (au:HF K "is_name" zQ aA)
  (cu:HF K "is_tuple_of_names" W6 aB)
  (cv:HF K "is_row" XM aC)
  (cw:HF K "need_form" y1 aD)
  (cy:HF K "need_own_names" MB aE)
  (cz:HF K "need_ends" y2 aF)
  (cA:HF K "need_few_roads" MD aG)
  (cB:HF K "need_rows" U9 aH)
  (cC:HF K "lacking" QE aI)
  (av:HF K "set_of" Ys U)
  (cD:HF K "numbers_behind" Bv aJ)
  (cE:HF K "gets_number" XN aK)
  (cF:HF K "round_of" Yt aL)
  (cG:HF K "give_number" vh aM)
  (cH:HF K "give_numbers" VI aN)
  (cI:HF K "labels_of" Jb aO)
  (cJ:HF K "is_whole" ZI Y)
  (cK:HF K "is_number" zP aa)
  (cL:HF K "is_set" XL ab)
  (cM:HF K "set_turned" Xc ac)
  (cN:HF K "numbers_in" zr ae)
  (cO:HF K "sum_of" XD aP)
  (cP:HF K "need_place" ZJ aQ)
  (cQ:HF K "need_heap" QD aR)
  (cR:HF K "label_worth" Fp aS)
  (cS:HF K "worth_by" MA aT)
  (cT:HF K "moves_of" Q2 aU)
  (cU:HF K "left_by" YQ aV)
  (cV:HF K "outcome_by" wn aW)
  (cW:HF K "outcomes_by" zO aX)
  (cX:HF K "winning_by" zq aY)
  (cY:HF K "count_by" zw aZ)
  (cZ:HF K "drawer_by" wo a0)
  (c0:HF K "player_by" wl a1)
  (c1:HF K "need_outcome_by" XE a2)
  (c2:HF K "outcomes_after" kq a3)
  (c3:HF K "safe_moves" W7 a4)
  (c4:HF K "winning_moves" zL a5)
  (c5:HF K "count_of" XO a6)
  (c6:HF K "winner" zK a7)
  (c7:HF K "most_moves" vd a8)
  (c8:HF K "drawer" Zh a9)
  (c9:HF K "summed" Z5 a')
  (c':HF K "is_open_to" zT bb)
  (da:HF K "open_roads" VD bc)
  (db:HF K "endless_in" K8 bd)
  (dc:HF K "numbers_sum" vc be)
  (dd:HF K "makes_sum" MC bf)
  (de:HF K "_law_heap" VH bg)
  (df:HF K "_law_numbers" J2 bh)
  (dg:HF K "_law_comes" Z6 bi)
  (dh:HF K "_law_back" zu bj)
  (di:HF K "_law_labels" zS bl)
  (dj:HF K "_law_outcome" XJ bm)
  (dk:HF K "_law_moves" Zg bn)
  (dm:HF K "_law_after" YR bp)
  (dn:HF K "_law_ask" vg bq)
  (dp:HF K "_law_told" XI br)
  (dq:HF K "_law_lacks" zR bt)
  (dr:HF K "_law_total" ve bu)
  (ds:HF K "_law_drawn_move" K6 bv)
  (dt:HF K "_law_won_move" K5 bw)
  (du:HF K "_law_due" vf bz)
  (dv:HF K "_law_right" Xf bA)
  (dw:HF K "_law_none" VG bB)
  (dx:zad K mainGlobals "law"=some (some (.ref C)))
  (dy:K.lookup C=some ⟨bK,bI,.func (zaU "law" "law" (j4 VF) (jk VF) (qg VF) .none am an ao al J ap),bJ⟩)
  (dz:zbh K J "law"=true)
  (dA:zaw K (.ref C)=true)
  (dB:zad K mainGlobals "Ground"=some (some (.ref f)))
  (dC:zbA K f Str.empty=true)
  (dD:zbu K f=true)
  (dE:zbV K f=true)
  (dF:zaa K (.ref f) "__setattr__"=some (some (.builtin "object.__setattr__")))
  (dG:zco K f=true)
  (dH:zaa K (.ref f) "__init__"=some (some (.ref B)))
  (dI:zby K (.ref B)=true)
  (dJ:zaw K (.ref f)=true)
  (dK:zaa K (.ref f) "order"=some none)
  (dN:zaa K (.ref f) "roads"=some none)
  (dO:MF K "__init__" "Ground.__init__" ku B)
  (dP:QF K f "names" "Ground.names" Xg bC)
  (dQ:QF K f "roads_from" "Ground.roads_from" VJ bD)
  (dS:zad K mainGlobals "Numbered"=some (some (.ref d)))
  (dU:zbA K d Str.empty=true)
  (dV:zbu K d=true)
  (dW:zbV K d=true)
  (dX:zaa K (.ref d) "__setattr__"=some (some (.builtin "object.__setattr__")))
  (dY:zco K d=true)
  (dZ:zaa K (.ref d) "__init__"=some (some (.ref r)))
  (d0:zby K (.ref r)=true)
  (d1:zaw K (.ref d)=true)
  (d2:zaa K (.ref d) "number"=some none)
  (d3:MF K "__init__" "Numbered.__init__" VE r)
  (d4:zaa K (.ref d) "__class__"=some (some (.builtin "object.__class__")))
  (d5:zcj K d (.type "object")=some true)
  (d6:QF K d "outcome" "Numbered.outcome" K4 af)
  (d7:QF K d "plus" "Numbered.plus" kt ag)
  (d8:QF K d "is_endless" "Numbered.is_endless" y0 ah)
  (d9:zad K mainGlobals "Endless"=some (some (.ref CE)))
  (d':zbA K CE Str.empty=true)
  (ea:zbu K CE=true)
  (eb:zbV K CE=true)
  (ec:zaa K (.ref CE) "__setattr__"=some (some (.builtin "object.__setattr__")))
  (ed:zco K CE=true)
  (ee:zaa K (.ref CE) "__init__"=some (some (.ref u)))
  (ef:zby K (.ref u)=true)
  (eg:zaw K (.ref CE)=true)
  (eh:zaa K (.ref CE) "bits"=some none)
  (ei:MF K "__init__" "Endless.__init__" VL u)
  (ej:zaa K (.ref CE) "__class__"=some (some (.builtin "object.__class__")))
  (ek:zcj K CE (.type "object")=some true)
  (el:QF K CE "outcome" "Endless.outcome" K7 ai)
  (en:QF K CE "plus" "Endless.plus" kw aj)
  (eo:QF K CE "is_endless" "Endless.is_endless" y3 ak)
  (eq:zad K mainGlobals "len"=some none)
  (er:zad K mainGlobals "max"=some none)
  (et:zad K mainGlobals "min"=some none)
  (eu:zad K mainGlobals "int"=some none)
  (ev:zad K mainGlobals "range"=some none)
  (aw:zad K mainGlobals "isinstance"=some none)
  (ew:zad K mainGlobals "str"=some none)
  (ex:zad K mainGlobals "all"=some none)
  (ey:zad K mainGlobals "enumerate"=some none)
  (ez:zad K mainGlobals "sum"=some none)
  (eA:zad K mainGlobals "sorted"=some none)
  (eB:zad K mainGlobals "list"=some none)
  (eC:zad K mainGlobals "reversed"=some none)
  (eD:zad K mainGlobals "set"=some none)
  (eE:zad K mainGlobals "tuple"=some none)
  (eF:zad K mainGlobals "dict"=some none)
  (eG:zad K mainGlobals "bool"=some none)
  (m1:zad K mainGlobals "LETTERS"=some (some (.str "abcdefghijklmnopqrstuvwxyz" bL)))
  (m2:zad K mainGlobals "LONGEST_NAME"=some (some (.int 8 bM)))
  (m3:zad K mainGlobals "MOST_PLACES"=some (some (.int 14 bN)))
  (m4:zad K mainGlobals "MOST_ROADS"=some (some (.int 40 bO)))
  (m5:zad K mainGlobals "MOST_NUMBER"=some (some (.int 15 bP)))
  (m6:zad K mainGlobals "MOST_BITS"=some (some (.int 65535 bQ)))
  (m7:zad K mainGlobals "MOST_TOKENS"=some (some (.int 8 bR)))
  (eH:zad K mainGlobals "HeapError"=some (some (.ref D)))
  (ay:K.lookup D=some (excClassObj bS bT D aq bU JD bW bY bV bX bZ b0 b1 b2 b3 b4 b5 "ValueError.__new__"))
  (eI:K.lookup aq=some ⟨b6,b7,.dict x ep,b8⟩)
  (eJ:EL x=true)
  (eK:nsFind x (zem "__init__")=none)
  (eL:XF K D "NotSo" "NotSo.__init__" "found" zt i bE)
  (eM:XF K D "NoHeap" "NoHeap.__init__" "found" Xe b bF)
  (eN:XF K D "NoPlace" "NoPlace.__init__" "found" ZK g bG)
  (eO:XF K D "TooMany" "TooMany.__init__" "found" zM j bH)
  (eP:zbW K (.builtin "object.__class__") "__get__"=some (some (.builtin "getset_descriptor.__get__")))
  (eQ:zcp K (.builtin "object.__class__")=some true)
  (eR:ts[1]?=some m)
  (eS:zad K mainGlobals "winner_by"=some (some (.ref L)))
  (eT:K.lookup L=some ⟨b9,ck,.func (zaU "winner_by" "winner_by" (j4 Zf) (jk Zf) (qg Zf) .none b' ca cb cl (.ref p) cc),cq⟩)
  (eU:zbh K (.ref p) "winner_by"=true)
  (eV:zaw K (.ref L)=true)
  (fj:K.lookup p=some ⟨cd,cm,.fields ar,cr⟩)
  (fk:ar[11]?=some (.ref m))
  (eW:zcd K p m=true)
  (eX:ts[0]?=some o)
  (eY:zad K mainGlobals "player"=some (some (.ref O)))
  (eZ:K.lookup O=some ⟨ce,cn,.func (zaU "player" "player" (j4 QV) (jk QV) (qg QV) .none cf cg ch co (.ref q) ci),cs⟩)
  (e0:zbh K (.ref q) "player"=true)
  (e1:zaw K (.ref O)=true)
  (fl:K.lookup q=some ⟨cj,cp,.fields as,ct⟩)
  (fm:as[11]?=some (.ref o))
  (e2:zcd K q o=true)
  (e3:m≠o)
  (ne:d≠CE)
  (w0:tZ K (.ref i) (.ref i)=some true)
  (w1:tZ K (.ref b) (.ref i)=some false)
  (w2:tZ K (.ref b) (.ref b)=some true)
  (w3:tZ K (.ref j) (.ref i)=some false)
  (w4:tZ K (.ref j) (.ref b)=some false)
  (w5:tZ K (.ref j) (.ref j)=some true)
  (w6:tZ K (.ref g) (.ref i)=some false)
  (w7:tZ K (.ref g) (.ref b)=some false)
  (w8:tZ K (.ref g) (.ref j)=some false)
  (w9:tZ K (.ref g) (.ref g)=some true)
  :
  ∃(y:List kZ) (fd:zep),(y.map (·.P)).Nodup/\(∀t∈y,t.P∈ts/\zcd K t.c t.P=true)/\(∀(s:Shared) (v:Value),BindsTo s fd ⟨[v],[]⟩ [("_law_script",v)])/\∀base:Heap,K.In base->base.Ns mainGlobals mg->(∀t∈y,Wx mg base t.c t.P)->qp l.prog w K mg base q5 18 T fd ["_law_script"] (Kx K y):=by
 have e:=az.symm.trans (zaJ X G dx);cases e;obtain⟨_,L⟩:=av.has (ps:=["numbers"]) X G;obtain⟨_,O⟩:=cJ.has (ps:=["thing"]) X G;obtain⟨_,T⟩:=cK.has (ps:=["thing"]) X G;obtain⟨_,e4⟩:=cL.has (ps:=["thing"]) X G;obtain⟨_,e5⟩:=cM.has (ps:=["bits","number"]) X G;obtain⟨_,e6⟩:=cN.has (ps:=["bits"]) X G;obtain⟨_,y⟩:=dO;obtain⟨_,e7⟩:=dP.has (ps:=["self"]);obtain⟨_,e8⟩:=dQ.has (ps:=["self","name"]);obtain⟨_,B⟩:=d3;obtain⟨_,e9⟩:=d6.has (ps:=["self"]);obtain⟨_,e'⟩:=d7.has (ps:=["self","other"]);obtain⟨_,fb⟩:=d8.has (ps:=["self"]);obtain⟨_,C⟩:=ei;obtain⟨_,fc⟩:=el.has (ps:=["self"]);obtain⟨_,fe⟩:=en.has (ps:=["self","other"]);obtain⟨_,ff⟩:=eo.has (ps:=["self"]);have j:∀h:Heap,K.In h->OwnTail h JD (.ref D::JD):=λh X=>.own (X _ _ ay) ⟨_,x,ep,X _ _ eI,rfl,N1 eJ,λ_=>rfl⟩ eK .base;obtain⟨_,x⟩:=eL X G j λF=>F.binds λ_ _ _ _ _ _ g b=>by obtain⟨_,_,rfl⟩:=WI b;rfl
 obtain⟨_,fg⟩:=eM X G j λF=>F.binds λ_ _ _ _ _ _ g b=>by obtain⟨_,_,rfl⟩:=WI b;rfl
 obtain⟨_,fh⟩:=eN X G j λF=>F.binds λ_ _ _ _ _ _ g b=>by obtain⟨_,_,rfl⟩:=WI b;rfl
 obtain⟨_,fi⟩:=eO X G j λF=>F.binds λ_ _ _ _ _ _ g b=>by obtain⟨_,_,rfl⟩:=WI b;rfl
 have M:GM K mg f:=⟨⟨_,_,⟨⟨dC,dD,dE,dF⟩,⟨dG,dH,dI,dJ⟩,zaJ X G dB,dK,dN,y,y.binds (ps:=["self","rows"]) λ_ _ _ _ _ _ g b=>by obtain⟨_,_,rfl⟩:=WI b;rfl⟩⟩,⟨_,_,e7⟩,⟨_,_,e8⟩,⟨_,au.has X G⟩⟩;have f:=ZX (st:=Zf) eT eU eV;have j:=ZX (st:=QV) eZ e0 e1;let wf:WF K mg:=⟨d,CE,r,u,af,ai,ag,aj,ah,ak,Y,aa,ab,ac,ae,U,_,_,_,_,_,_,_,_,_,_,_,_,_,_,ne,⟨⟨dU,dV,dW,dX⟩,⟨dY,dZ,d0,d1⟩,zaJ X G dS,d2,B,B.binds (ps:=["self","number"]) λ_ _ _ _ _ _ g b=>by obtain⟨_,_,rfl⟩:=WI b;rfl,d4,d5⟩,⟨⟨d',ea,eb,ec⟩,⟨ed,ee,ef,eg⟩,zaJ X G d9,eh,C,C.binds (ps:=["self","bits"]) λ_ _ _ _ _ _ g b=>by obtain⟨_,_,rfl⟩:=WI b;rfl,ej,ek⟩,e9,fc,e',fe,fb,ff,O,T,e4,e5,e6,L⟩;have r:Ei K mg D i:=⟨zaJ X G eH,⟨JD,⟨_,_,_,_,_,_,_,_,_,_,_,_,_,_,_,ay⟩,rfl⟩,w0,eP,eQ⟩;refine⟨[⟨"winner_by",p,m,WH⟩,⟨"player",q,o,Zz⟩],zaU "law" "law" (j4 VF) (jk VF) (qg VF) .none am an ao al J ap,zak.mpr ⟨λz=>e3 (tM.mp z),zak.mpr ⟨zah,zbt⟩⟩,λt i=>?_,λs v=>.of_eq rfl,λbase _ _ d=>?_⟩
 ·rcases tH.mp i with e | e
  ·rw[e];exact⟨tW eR,eW⟩
  ·rw[tM.mp e];exact⟨tW eX,e2⟩
 ·exact(Dn (PT:=m) (PP:=o) (ZX (st:=VF) dy dz dA) ⟨f,zaJ X G eS,f.binds (ps:=p3) λ_ _ _ _ _ _ g b=>by obtain⟨_,_,_,rfl⟩:=An b;rfl⟩ rfl (d _ tX) ⟨j,zaJ X G eY,j.binds (ps:=["ground"]) λ_ _ _ _ _ _ g b=>by obtain⟨_,rfl⟩:=ug b;rfl⟩ rfl (d _ (tU _ tX)) wf ⟨zai X G eq,zai X G er,zai X G et,zai X G eu,zai X G ev⟩ ⟨zai X G aw,zai X G eG,kii,kib,⟨_,zaJ X G m5⟩,⟨_,zaJ X G m6⟩⟩ ⟨zai X G eA,zai X G eB,zai X G eC,zai X G eD,zai X G eE⟩ ⟨zai X G aw,zai X G ew,zai X G ex,zai X G ey,zai X G ez,⟨_,zaJ X G m1⟩,⟨_,zaJ X G m2⟩,⟨_,zaJ X G m3⟩,⟨_,zaJ X G m4⟩,kss,ktt,kll⟩ ⟨⟨_,au.has X G⟩,⟨_,cu.has X G⟩,⟨_,cv.has X G⟩,⟨_,cw.has X G⟩,⟨_,cy.has X G⟩,⟨_,cz.has X G⟩,⟨_,cA.has X G⟩⟩ M ⟨⟨_,cC.has X G⟩,⟨_,av.has X G⟩,⟨_,cD.has X G⟩,⟨_,cE.has X G⟩,⟨_,cF.has X G⟩,⟨_,cG.has X G⟩,⟨_,cH.has X G⟩,⟨_,cI.has X G⟩⟩ ⟨⟨_,cP.has X G⟩,⟨_,cQ.has X G⟩,⟨_,cR.has X G⟩,⟨_,cO.has X G⟩,⟨_,cS.has X G⟩,⟨_,zaJ X G m7⟩⟩ ⟨⟨_,cT.has X G⟩,⟨_,cU.has X G⟩,⟨_,cV.has X G⟩,⟨_,cW.has X G⟩⟩ ⟨⟨_,c9.has X G⟩,⟨_,c'.has X G⟩,⟨_,da.has X G⟩,⟨_,db.has X G⟩,⟨_,dc.has X G⟩,⟨_,dd.has X G⟩⟩ ⟨⟨_,cX.has X G⟩,⟨_,cY.has X G⟩,⟨_,cZ.has X G⟩,⟨_,c0.has X G⟩,⟨_,c1.has X G⟩,⟨_,c2.has X G⟩,⟨_,c3.has X G⟩,⟨_,c4.has X G⟩,⟨_,c5.has X G⟩,⟨_,c6.has X G⟩,⟨_,c7.has X G⟩,⟨_,c8.has X G⟩⟩ ⟨⟨_,lO.has X G⟩,⟨_,lL.has X G⟩,⟨_,lT.has X G⟩,⟨_,lN.has X G⟩,⟨_,lD.has X G⟩,⟨_,lR.has X G⟩,⟨_,cB.has X G⟩,⟨_,de.has X G⟩,⟨_,df.has X G⟩,⟨_,dg.has X G⟩,⟨_,dh.has X G⟩,⟨_,di.has X G⟩,⟨_,dj.has X G⟩,⟨_,dk.has X G⟩,⟨_,dm.has X G⟩,⟨_,dn.has X G⟩,⟨_,dp.has X G⟩,⟨_,dq.has X G⟩,⟨_,dr.has X G⟩,⟨_,ds.has X G⟩,⟨_,dt.has X G⟩,⟨_,du.has X G⟩,⟨_,dv.has X G⟩,⟨_,dw.has X G⟩⟩ (zai X G eF) x ⟨⟨_,_,fg⟩,⟨_,_,fi⟩,⟨_,_,fh⟩⟩ r ⟨w0,w1,w2,w3,w4,w5,w6,w7,w8,w9⟩).imp λ_ H Q E z=>let ⟨a,d,e,f,g,b,i⟩:=z;⟨a,d,e,f,g,b _ tX,b _ (tU _ tX),i⟩
def walk{l:PySem.W.OpenLaw}{e:World->Heap->Prop}{d:DefRec}{K:Params->zel}{ts:List Addr}(j:l.most=some 63)(m:d.params.defaults=[])(o:∀(w:World) (h:Heap),e w h->(K w.params).In h)(p:∀(w:World) (h:Heap),e w h->∀P∈ts,h.get? P=some (zbI #[]))(r:∀w:World,zdH (K w.params)=true) (F:∀(w:World) (mg:Str->Option Value) (g:Addr) (h:Heap),(K w.params).In h->h.Ns mainGlobals mg->mg d.name=some (.ref g)->
   ∃(b:List kZ) (i:zep),(b.map (·.P)).Nodup/\(∀t∈b,t.P∈ts/\zcd (K w.params) t.c t.P=true)/\(∀(s:Shared) (v:Value),BindsTo s i ⟨[v],[]⟩ [("_law_script",v)])/\∀base:Heap,(K w.params).In base->base.Ns mainGlobals mg->(∀t∈b,Wx mg base t.c t.P)->qp l.prog w (K w.params) mg base q5 18 g i ["_law_script"] (Kx (K w.params) b)):
  PySem.W.WalkO q u x e l.row.toRowW d [] (λf vs=>PySem.call f vs):=
 L2.walk_ofT j (by decide) m ⟨rfl,by decide,by decide,rfl⟩ o p r F (λ_ _ _ a b e g i=>⟨a,b,rfl,g,e,i,λ_=>rfl⟩)
end Rh
open PySem PySem.W
open PyProof.Rows hiding K lo
namespace PySem.W.Fast
def tw6301684778523567019:=()
def tw8043027943769002162:=()
def tw1677231408768103498:=()
def tw861502493610598483:=()
def tw18070617111639710692:=()
def tw16024492617791385187:=()
def tw14853348098675926688:=()
def tw7774113678449685934:=()
def tw13359257691425115219:=()
def tw7739030657715857120:=()
def tw3106019142764824439:=()
def tw5660693792873045834:=()
def tw178982042099537163:=()
def tw6861777633991150784:=()
def tw3328698262378449831:=()
def tw3239726496819932882:=()
def tw9791860783291734942:=()
def tw13705283562680751584:=()
def tw17577329170770402720:=()
def tw4451503594504232159:=()
def tw1968430746851473036:=()
def tw16309811473084048462:=()
def tw2992238238014362344:=()
def tw9004299641416957276:=()
def tw8115137120850386438:=()
def tw4120328187809186673:=()
def tw6103891826971794303:=()
def tw13385558918117058561:=()
def tw6594970650091316094:=()
def tw7053471978191194526:=()
def tw10787245059668118972:=()
def tw6575520176995025181:=()
def tw15752536640612570366:=()
def tw15163409612377130007:=()
def tw12099505692703838030:=()
def tw12826555694032677247:=()
def tw12125097214300078407:=()
def tw9689729476882780088:=()
def tw12320846421978348468:=()
def tw2386784164831690217:=()
def tw15006928546322691367:=()
def tw5874822333441161849:=()
def tw17682808508803514257:=()
def tw2827255003249426055:=()
def tw12681666616541194006:=()
def tw11063759124802658401:=()
def tw8742817616077272606:=()
def tw2868442198168577507:=()
def tw13303234937177203706:=()
def tw7151132215420815488:=()
def tw14594842627406614536:=()
def tw13003993480786080133:=()
def tw6822071536725586909:=()
def tw3801850119919557013:=()
def tw16746677531222629524:=()
def tw8122695690928665766:=()
def tw4684226298888400098:=()
def tw14553807712399142462:=()
def tw18383651708701053236:=()
def tw14398111036562950334:=()
def tw699815216081779126:=()
def tw7181997581385953548:=()
def tw5992840812097835891:=()
def tw8997383693586321770:=()
def tw13366278800048369731:=()
def tw16087769525723730265:=()
def tw13073492499399858440:=()
def tw17937168697417666835:=()
def tw5832146486336120021:=()
def tw4545961482378311905:=()
def tw17348111734160510231:=()
def tw15771247859494662083:=()
def tw12314708539913122752:=()
def tw2237833844302104130:=()
def tw7091221385724896812:=()
def tw10911716485165742097:=()
def tw2595618661548880785:=()
def tw18031968618487185184:=()
def tw5994696166404524948:=()
def tw11151835277377553703:=()
def tw12738610918357793766:=()
def tw4290864757253303354:=()
def tw4063829332388037331:=()
def tw10282777137419654623:=()
def tw4382473104129494423:=()
def tw17292613610259460706:=()
def tw2424988045566436242:=()
def tw7873786274422454737:=()
def tw16226643914720891334:=()
def tw12330612334027959195:=()
def tw14935156969734317764:=()
def tw9615563845995560447:=()
def tw15763482434359817770:=()
def tw15805137534098808535:=()
def tw1998347030407657756:=()
def tw7322748291113730364:=()
def tw16756451883985382160:=()
def tw8285278889055680438:=()
def tw8752102160057688731:=()
def tw13032259773685033708:=()
def tw18367749455379333440:=()
def tw13769103115541136327:=()
def tw726351398001015727:=()
def tw10510019762269167821:=()
def tw14341141199694864594:=()
def tw247591363613054380:=()
def tw14284835775768690865:=()
def tw10295913840692754127:=()
def tw16132249320637822498:=()
def tw16860917588515726111:=()
def tw14801369171006070438:=()
def tw17483705464198625004:=()
def tw10159399881129095643:=()
def tw7921390202802761869:=()
def tw16260866306193365299:=()
def tw1891733041441978011:=()
def tw16766484511958638138:=()
def tw1205604411410820431:=()
def tw599730875272715187:=()
def tw443766864951011646:=()
def tw16086907953836968628:=()
def tw5037459499596335280:=()
def tw8908233856664302321:=()
def tw14664691819916384248:=()
def tw14859695947638507448:=()
def tw4334401890000744311:=()
def tw12884060626414724322:=()
def tw13855379610559885079:=()
def tw16615150188913437886:=()
def tw17658959251048325594:=()
def tw13484562703626004877:=()
def tw4321966507151631593:=()
def tw16409965706819354750:=()
def tw10910644110388302437:=()
def tw5395340147747708899:=()
def tw3681537716864247207:=()
def tw3475869608268796686:=()
def tw16859961878692490766:=()
def tw1972164579936704799:=()
def tw819570635367399668:=()
def tw12773500944031208451:=()
def tw14196522196718054806:=()
def tw5404398260228975080:=()
def tw15438627641174518403:=()
def tw9402243437249704421:=()
def tw8356303796347215682:=()
def tw17590705303994421779:=()
def tw13567515925198824819:=()
def tw2925816871977632210:=()
def tw17397653436517662659:=()
def tw5459702643516471331:=()
def tw7001957589650049515:=()
def tw12550775161083096063:=()
def tw13215348057498601715:=()
def tw5072417060200589145:=()
def tw17963105932079019327:=()
def tw18073898193381586223:=()
def tw8319933024895762948:=()
def tw12549542988036985293:=()
def tw14154597600763967237:=()
def tw16378183091871739711:=()
def tw4971374062829452455:=()
def tw3641951560692057861:=()
def tw1708089923452030704:=()
def tw2015444344454546412:=()
def tw10611411778653204182:=()
def tw5000232492035539693:=()
def tw14424681132571578402:=()
def tw17680797132471856694:=()
def tw2527701527901579348:=()
def tw6851275008772768644:=()
def tw18248855084332350957:=()
def tw2694234056635809718:=()
def tw6557801498797044033:=()
def tw11408881796089955267:=()
def tw11824586356888161845:=()
def tw16005714805435085966:=()
def tw1956260828630720203:=()
def tw6945566481307383155:=()
def tw4313010194945074917:=()
def tw15240619367488684849:=()
def tw12901003280762261817:=()
def tw4046790133079468173:=()
def tw1932759071263863916:=()
def tw17267597263503486738:=()
def tw13956191218907399338:=()
def tw16607193741793207195:=()
def tw16864618592142003386:=()
def tw3099597729799864441:=()
def tw13669536469129627823:=()
def tw13421457143807847188:=()
def tw1532491051758110099:=()
def tw14904681115217272601:=()
def tw9879335643197240621:=()
def tw4884199854448574:=()
def tw8432719020341155521:=()
def tw7374399212775623666:=()
def tw16773468814595293053:=()
def tw8924819469995637033:=()
def tw9806118890596472461:=()
def tw991626836265849350:=()
def tw7476452910721959123:=()
def tw11489344026974618541:=()
def tw17334828202450815106:=()
def tw3992765435912101610:=()
def tw8392358500681263680:=()
def tw12887044766017154078:=()
def tw6798380500665416597:=()
def tw4946147512530127568:=()
def tw1719895430356276633:=()
def tw14842496431369740429:=()
def tw12528533614272120300:=()
def tw4493901809537577575:=()
def tw18004296560267143027:=()
def tw9304451534382375720:=()
def tw15528221797031607849:=()
def tw3433779192033484610:=()
def tw9950792792127014553:=()
def tw542563422162235373:=()
def tw1070438729232803039:=()
def tw5960047855520388891:=()
def tw8865387616306378214:=()
def tw9387514328989991554:=()
def tw8047209995159408440:=()
def tw5217270863462422736:=()
def tw12438396322939230373:=()
def tw4683681711962371626:=()
def tw2595585439558603231:=()
def tw2474200967059427378:=()
def tw6194202620331982285:=()
def tw11738243743197964597:=()
def tw11564986514327137767:=()
def tw2046362190076281809:=()
def tw9530734954097333506:=()
def tw13265978090383273239:=()
def tw13831308528885131752:=()
def tw258204147387103276:=()
def tw16248296213531012650:=()
def tw9972681490609642005:=()
def tw727553628536289456:=()
def tw15401437161963490237:=()
def tw8331849164307833061:=()
def tw5610444585433571239:=()
def tw8297923619242306668:=()
def tw4804111812005502284:=()
def tw3520257249291928256:=()
def tw16109456028575089023:=()
def tw12960429369202013873:=()
def tw591959016527307005:=()
def tw3374319085511977134:=()
def tw8912161614967838395:=()
def tw14172470266813156586:=()
def tw4953865588907285216:=()
def tw4039707410889071942:=()
def tw16682895059504647277:=()
def tw10792498714594961201:=()
def tw17163426234232328066:=()
def tw3300454383303005205:=()
def tw13282000867657480947:=()
def tw14187406211511212617:=()
def tw17760279517084355780:=()
def tw16721508838639397229:=()
def tw16120054744476736488:=()
def tw12903330217458380548:=()
def tw9495317472360511255:=()
def tw2941924889016668590:=()
def tw12382822922155266910:=()
def tw3042748168174471775:=()
def tw3985964047577975286:=()
def tw4906484309439969231:=()
def tw2455152089536381482:=()
def tw2466311954974566718:=()
def tw5289818103960998278:=()
def tw17351735930882485243:=()
def tw14746253646979254834:=()
def tw2144661209622563809:=()
def tw9947508896943372755:=()
def tw1922157984580058403:=()
def tw8949853181751564097:=()
def tw1495895850433845275:=()
def tw14827714588952709054:=()
def tw2570914705882880060:=()
def tw3721919958574915784:=()
def tw18157406047293677543:=()
def tw15173544498738437827:=()
def tw14564479935002850509:=()
def tw4547051000311932777:=()
def tw17013487888433625170:=()
def tw1467881925912835984:=()
def tw18101783494082082527:=()
def tw5702276774652866934:=()
def tw15254633091992210921:=()
def tw4562827626845409882:=()
def tw2244103112122482387:=()
def tw16636501806038632012:=()
def tw8995945545434573385:=()
def tw13813618637161013713:=()
def tw16873086082458093902:=()
def tw10236332898609347644:=()
def tw11066385474520676512:=()
def tw4772062507164038959:=()
def tw5101696844757716304:=()
def tw10876078143196172821:=()
def tw8760152093665844161:=()
def tw6278996535519779258:=()
def tw15127105006835628225:=()
def tw9456574344343218679:=()
def tw15227483606004533461:=()
def tw6607644564249050058:=()
def tw16412085850373738351:=()
def tw11024694936033576346:=()
def tw4026147355466621588:=()
def tw12461081396071149458:=()
def tw13462424878891718212:=()
def tw6128145076113358165:=()
def tw17410218998227585676:=()
def tw17360015989920007124:=()
def tw9768418358887946270:=()
def tw384561282630992784:=()
def tw10161179621583223854:=()
def tw6128106870883400570:=()
def tw3726453103677007866:=()
def tw8171798328758944481:=()
def tw1835201335921387983:=()
def tw3592811809046731828:=()
def tw4704452742865826424:=()
def tw12715800853834201459:=()
def tw2576523973992343609:=()
def tw14243238205550065757:=()
def tw10149570385669482864:=()
def tw694261584828832409:=()
def tw13034982811429478159:=()
def tw16626521671886133394:=()
def tw14454166528178196959:=()
def tw15166322114958858414:=()
def tw1342123614928995077:=()
def tw7538781388859322016:=()
def tw15541240446876304647:=()
def tw14993981098963755598:=()
def tw17435391645217708394:=()
def tw15577281813014381367:=()
def tw1915925776726481438:=()
def tw13946496683202179788:=()
def tw17338325484393633139:=()
def tw11212356425047092601:=()
def tw10888863842102328177:=()
def tw2392593158011319353:=()
def tw938635154573522699:=()
def tw16053306600634468012:=()
def tw5285915839522022235:=()
def tw10698057553749749337:=()
def tw2400638427578300857:=()
def tw1956775160557780875:=()
def tw14404928986312190071:=()
def tw15861351967447197489:=()
def tw17464319187374939960:=()
def tw10297410513487048360:=()
def tw15831126876759372255:=()
def tw447263597446747957:=()
def tw9381626543082597023:=()
def tw17659185236578331656:=()
def tw16654469307462801742:=()
def tw2135409205425526673:=()
def tw12917704675397863716:=()
def tw7164969610272591079:=()
def tw14022695629967993375:=()
def tw5694767641087392711:=()
def tw3110587219445414310:=()
def tw772564365185477556:=()
def tw2956708394376553000:=()
def tw6084841979344569690:=()
def tw4323258101793500111:=()
def tw13367274342830030513:=()
def tw11180800956215176064:=()
def tw15621116118777243554:=()
def tw4860023922305330110:=()
def tw5622701340561072331:=()
def tw11513857634932158529:=()
end PySem.W.Fast
set_option maxHeartbeats 0
open_top hd for PySem.Challenge.rw_ringheaps_k71_drawers_and_players
set_option maxRecDepth 100000 in
set_option maxHeartbeats 0 in
theorem PySem.Challenge.cw_ringheaps_k71_drawers_and_players_holds : PySem.Challenge.rw_ringheaps_k71_drawers_and_players.Holds := by
 refine hd ?_
 k_fill
 refine Rh.walk (l:=PySem.Challenge.rw_ringheaps_k71_drawers_and_players) rfl rfl (λw h Y=>PySem.W.km_in_of Y) (λw h Y=>PySem.W.km_tabs_of Y) ?hnt ?F
 case hnt=>exact λw=>by kernel_rfl
 case F=>
   intro w mg fa h KX G ie
   refine' Rh.all_mk KX G ie ..
   any_goals first | exact Rh.at0 | exact Rh.at1 | (apply Rh.HF.mk'<;>k_is) | (apply Rh.MF.mk'<;>k_is) | (apply Rh.QF.mk'<;>k_is) | (apply Rh.XF.mk'<;>k_is) | k_is | kernel_rfl | rfl | decide
