import PyProof.Rows.All
import Wide.All
import OpenK.AllK
import Wide.FinOn
import Lean
import PyProof.EqAt
import PyProof.EqKinds
import PyProof.TupleCall
import PySem.Challenge.RW_ringheaps_k96_whole_plays_of_players
set_option Elab.async false
set_option linter.all false
set_option maxRecDepth 100000
open PySem renaming wpAny_bind → zdW, wpAny_pure → zdX, FuncData → zdY, sizeLine → zdZ
open PySem.Str renaming ofString → zdV
open PySem.W renaming Frag → zdU
open Array renaming length_toList → zap, getElem?_eq_getElem → zbO, toList_append → zbR, getElem?_eq_some_iff → zcI
open Bool renaming false_ne_true → tH, and_eq_true → zae, eq_iff_iff → zaE, false_eq_true → zaO, false_and → zcc, noConfusion → zdd, or_eq_true → zdp, and_true → zdC
open Int renaming toNat_natCast → zaC, emod_lt_of_pos → zaP, emod_nonneg → zbc, fdiv_eq_ediv_of_nonneg → zbJ, zero_add → zcE, natCast_nonneg → zcG
open List renaming length_map → ta, getElem?_eq_some_iff → td, getElem?_eq_getElem → th, mem_map → tl, length_append → tm, getElem?_map → tp, take_of_length_le → tu, mem_append_right → tv, map_append → tw, mem_cons_of_mem → tA, mem_cons_self → tE, map_cons → tG, mem_cons → tI, length_take → tJ, mem_of_getElem? → tL, take_add_one → tM, mem_filter → tO, getElem?_append_right → tP, mem_singleton → tQ, mem_append → tT, size_toArray → tU, getElem?_append_left → tV, mem_append_left → tY, filterMap_cons → tZ, length_cons → t0, length_singleton → t7, range → t8, nodup_cons → zaa, filterMap_append → zab, length → zad, lookup_cons → zaf, all_eq_true → zag, getD_eq_getElem?_getD → zah, length_range → zai, length_filter_le → zak, append_nil → zam, eq_nil_of_length_eq_zero → zao, sum_cons → zaq, mem_filterMap → zas, map_map → zav, pairwise_iff_getElem → zaw, filter_append → zay, length_pos_of_mem → zaz, mem_of_mem_head? → zaB, any_eq_true → zaI, toArray → zaJ, mem_range → zaM, length_filterMap_le → zaN, filter_sublist → zaR, lookup → zaS, getElem?_take_of_lt → zaT, nodup_nil → zaY, find?_cons → zba, filter_cons → zbi, getElem_mem → zbj, of_mem_zip → zbn, getElem?_of_mem → zbp, map_congr_left → zbq, exists_mem_of_length_pos → zbu, length_set → zby, any_cons → zbC, length_replicate → zbE, getElem?_eq_none → zbF, take_append_drop → zbG, nodup_append → zbI, mem_of_mem_take → zbK, length_reverse → zbP, getElem?_range → zbQ, length_pos_iff → zbS, idxOf_lt_length_iff → zbU, sum_append → zbW, append_of_mem → zbX, getElem?_replicate → zbY, lookup_eq_none_iff → zca, pairwise_singleton → zcb, take_sublist → zce, map_nil → zcf, all_map → zci, foldl_append → zcl, filter_congr → zcm, append_assoc → zcn, cons_append → zcr, mem_nil_iff → zcs, mem_reverse → zct, mem_flatMap → zcu, all_cons → zcv, mem_erase_of_ne → zcw, foldl_cons → zcy, range_succ → zcz, cons → zcF, lookup_append → zcJ, exists_cons_of_ne_nil → zcL, getElem?_take → zcM, getElem?_eq_none_iff → zcN, mem_of_find?_eq_some → zcO, drop_eq_getElem_cons → zcP, reverse_cons → zcR, length_erase_of_mem → zcW, nodup_range → zdf, not_mem_nil → zdg, isEmpty_iff → zdi, getElem?_set_self → zdj, filter_eq_nil_iff → zdl, not_of_lt_findIdx → zdn, all_append → zdr, filter_map → zds, pairwise_reverse → zdt, getElem?_set_ne → zdu, replicate → zdv, drop_zero → zdw, pairwise_append → zdz, findIdx_append → zdA, Pairwise → zdB, find?_eq_none → zdF, pairwise_cons → zdG, getElem_idxOf → zdH, filterMap_nil → zdI, ext_getElem? → zdN, pairwise_map → zdP, map → zdQ, range' → zdT
open Nat renaming le_refl → tc, lt_of_lt_of_le → tN, le_trans → tS, ne_of_lt → tW, le_of_lt → t6, zero_le → zac, lt_irrefl → zal, lt_trichotomy → zan, lt_of_le_of_lt → zat, lt_succ_self → zaG, xor_assoc → zaU, lt_or_ge → zbd, min_le_right → zbh, mod_two_eq_zero_or_one → zbk, testBit_succ → zbt, ne_of_gt → zbv, min_eq_left → zbz, testBit_xor → zbB, xor_self → zbM, sub_self → zbN, lt_succ_of_lt → zch, strongRecOn → zcx, zero_xor → zcD, pos_of_ne_zero → zcK, succ → zdb, min_eq_right → zdc, testBit_zero → zde, xor_zero → zdm, not_lt_zero → zdq, lt_trans → zdL, zero_add → zdM, xor_comm → zdO
open Option renaming some → tz, map_some → zbb, ne_none_iff_exists' → zbl, isSome_iff_exists → zbT, map_eq_some_iff → zcg, isSome_map → zcS, isSome_some → zdE, getD_none → zdS
open PySem.F renaming plainAttrs_list → zaj, plainAttrs_str → zaA, plain_min_loop → zaK, slot_list_append → zaV, type_list_append → zaW, slot_str_split → zbe, type_str_split → zbf, slot_list_index → zbZ, entry_min_loop → zck, slot_dict_get → zco, slot_str_join → zcp, type_str_join → zcq, slot_dict_update → zcV, slot_list_extend → zcX, type_list_extend → zcY, args_dict_get_3 → zcZ, plainAttrs_dict → zda, type_list_index → zdh, entry_dict_get → zdk
open PySem.Heap renaming get?_push_of_some → tj, lt_size → tK, get?_push_size → tR, get?_update_other → zax, size_push → zaX, get?_update_self → zbm, SameBut → zcC
open PySem.W renaming nsIn → tX, findIn → t1, mg_none_of → t9, keepIn → zar, mg_of → zau, kitOne → zaD, kia_one → zaF, fnOf → zaH, emptyDict → zaL, codeIn → zaQ, instObj → zaZ, plainGet → zbg, hasDictIn → zbo, tabObj → zbr, codeHdIn → zbs, isFn → zbw, callWith_K → zbx, kla_obj → zbA, methodCall_KW → zbD, plainOver → zbH, envX → zbL, makesIn → zbV, cellsFrom_some → zcd, fnMade → zcj, plainGet_of → zcA, callWith_K0 → zcB, lookIn → zcH, methodObj → zcQ, fnX → zcT, mroIn → zcU, takerIn → zdo, noTabs → zdx, kla_fn → zdy, codeRec_of → zdD, kitx_list → zdJ, kitx_dict → zdK, handedIn → zdR
namespace L2
open PySem PySem.Spec
open PyProof.Rows hiding K lo
abbrev qT:=Sum Int Str
def XP:qT->Value->Bool
 | .inl k,v=>Value.isInt k v
 | .inr x,v=>Value.isStrOf x v
def Hi(w:World):qT->Int
 | .inl k=>hashInt k
 | .inr x=>hashStr w x
def jz:∀{k:qT} {v:Value},XP k v=true->(∃i t,k=Sum.inl i/\v=Value.int i t)\/(∃x t,k=Sum.inr x/\v=Value.str x t)
 | .inl i,v,h=>by
  obtain⟨t,e⟩:=Value.isInt_shape (k:=i) (v:=v) h;exact .inl ⟨i,t,rfl,e⟩
 | .inr x,v,h=>by
  obtain⟨t,e⟩:=Value.isStrOf_shape (x:=x) (v:=v) h;exact .inr ⟨x,t,rfl,e⟩
def wv(i:Int)(t:Tok):XP (.inl i) (.int i t)=true:=by simp [XP,Value.isInt]
def wu(x:Str)(t:Tok):XP (.inr x) (.str x t)=true:=by simp [XP,Value.isStrOf]
def Cc(a b:Int):decide ((Sum.inl a:qT)=Sum.inl b)=(a==b):=by
 by_cases e:a=b
 ·subst e;simp
 ·have h:¬(Sum.inl a:qT)=Sum.inl b:=λq=>e (Sum.inl.inj q);rw[decide_eq_false h];exact(beq_eq_false_iff_ne.mpr e).symm
def B9(a b:Str):decide ((Sum.inr a:qT)=Sum.inr b)=decide (a=b):=by
 by_cases e:a=b
 ·subst e;simp
 ·have h:¬(Sum.inr a:qT)=Sum.inr b:=λq=>e (Sum.inr.inj q);rw[decide_eq_false h,decide_eq_false e]
def Cb(a:Int)(b:Str):decide ((Sum.inl a:qT)=Sum.inr b)=false:=decide_eq_false (λq=>nomatch q)
def Ca(a:Str)(b:Int):decide ((Sum.inr a:qT)=Sum.inl b)=false:=decide_eq_false (λq=>nomatch q)
def js(prog:Program)(w:World):PySem.KeyKind prog w qT where
 is:=XP
 hash:=Hi w
 inj:=λv a b c g=>by
  rcases jz c with ⟨i,t,rfl,rfl⟩ | ⟨x,t,rfl,rfl⟩
  ·rcases jz g with ⟨d,u,rfl,e⟩ | ⟨y,u,rfl,e⟩
   ·injection e with c _;rw[c]
   ·exact nomatch e
  ·rcases jz g with ⟨d,u,rfl,e⟩ | ⟨y,u,rfl,e⟩
   ·exact nomatch e
   ·injection e with c _;rw[c]
 byValue:=λk v h=>by
  rcases jz h with ⟨i,t,rfl,rfl⟩ | ⟨x,t,rfl,rfl⟩<;>rfl
 pyHash:=λg h=>by
  rcases jz g with ⟨i,t,rfl,rfl⟩ | ⟨x,t,rfl,rfl⟩
  ·exact wpAny_pyHash_int h
  ·exact wpAny_pyHash_str h
 eqBool:=λhu g h=>by
  rcases jz hu with ⟨i,t,rfl,rfl⟩ | ⟨x,t,rfl,rfl⟩
  ·rcases jz g with ⟨d,u,rfl,rfl⟩ | ⟨y,u,rfl,rfl⟩
   ·rw[Cc]at h;exact wpAny_eqBool_int h
   ·rw[Cb]at h;exact SeqAt.EqAt.int_str i t y u _ _ _ _ h
  ·rcases jz g with ⟨d,u,rfl,rfl⟩ | ⟨y,u,rfl,rfl⟩
   ·rw[Ca]at h;exact SeqAt.EqAt.str_int x t d u _ _ _ _ h
   ·rw[B9]at h;exact wpAny_eqBool_str h
 «strs»:=λk x t v h=>by
  rcases jz h with ⟨i,u,rfl,e⟩ | ⟨y,u,rfl,e⟩
  ·exact nomatch e
  ·injection e with c _;subst c;cases v<;>rfl
def vc(prog:Program)(w:World)(i:Int)(t:Tok):(js prog w).is (.inl i) (.int i t)=true:=wv i t
def va(prog:Program)(w:World)(x:Str)(t:Tok):(js prog w).is (.inr x) (.str x t)=true:=wu x t
open PyProof.Rows hiding K lo
inductive V where
 | non | bl (b:Bool) | int (i:Int) | str (x:Str) | byt (b:Array UInt8) | flt (b:UInt64) | ref (a:Addr) | ty (n:String)
 deriving DecidableEq
def qM:V->Value->Prop
 | .non,u=>u=Value.none
 | .bl b,u=>u=Value.bool b
 | .int i,u=>∃t,u=Value.int i t
 | .str x,u=>∃t,u=Value.str x t
 | .byt b,u=>∃t,u=Value.bytes b t
 | .flt b,u=>∃t,u=Value.float b t
 | .ref a,u=>u=Value.ref a
 | .ty n,u=>u=Value.type n
abbrev qI:List V->List Value->Prop:=Paired qM
def qI.length(r:qI xs us):xs.length=us.length:=Paired.length r
def qI.get:∀{xs:List V} {us:List Value} {i:Nat} {x:V},qI xs us->xs[i]?=some x->∃u,us[i]?=some u/\qM x u
 | _,_,_,_,.nil,e=>by simp at e
 | _,_,0,_,.cons a _,e=>by simp at e;subst e;exact⟨_,rfl,a⟩
 | _,_,i+1,x,.cons _ t,e=>by
  obtain⟨u,a,b⟩:=qI.get (i:=i) (x:=x) t (by simpa using e);exact⟨u,by simpa using a,b⟩
def qI.set(r:qM x u):∀{xs:List V} {us:List Value} (i:Nat),qI xs us->qI (xs.set i x) (us.set i u)
 | _,_,_,.nil=>.nil
 | _,_,0,.cons _ t=>.cons r t
 | _,_,i+1,.cons q t=>.cons q (qI.set r i t)
def qI.append:∀{xs a:List V} {us b:List Value},qI xs us->qI a b->qI (xs++a) (us++b)
 | _,_,_,_,.nil,s=>s
 | _,_,_,_,.cons a t,s=>.cons a (qI.append t s)
def qI.take:∀{xs:List V} {us:List Value} (n:Nat),qI xs us->qI (xs.take n) (us.take n)
 | _,_,0,_=>.nil
 | _,_,_+1,.nil=>.nil
 | _,_,n+1,.cons a t=>.cons a (qI.take n t)
def qI.drop:∀{xs:List V} {us:List Value} (n:Nat),qI xs us->qI (xs.drop n) (us.drop n)
 | _,_,0,a=>a
 | _,_,_+1,.nil=>.nil
 | _,_,n+1,.cons _ t=>qI.drop n t
def qI.none_of:∀{xs:List V} {us:List Value} {i:Nat},qI xs us->xs[i]?=none->us[i]?=none:=λ{xs us i} a e=>by
 have b:=a.length;have a:xs.length<=i:=zcN.mp e;exact zcN.mpr (by omega)
def Zd:Option V->Option Value->Prop
 | some v,some u=>qM v u
 | none,none=>True
 | _,_=>False
def KV:List (κ×V)->List (κ×Value)->Prop:=Paired λ(a:κ×V) (q:κ×Value)=>a.1=q.1/\qM a.2 q.2
def kV:qT->V
 | .inl i=>.int i
 | .inr x=>.str x
inductive HO where
 | lst (xs:List V)
 | tup (xs:List V)
 | dK (kvs:List (qT×V)) | dT (kvs:List (List qT×V))
 | set (S:Int->Bool) (n:Nat)
 | ins (C dx:Addr) (fs:List (Str×V))
 | own (x:Addr)
 | xd (fs:List (Str×V))
 | met (f x:Addr)
 | rng (lo hi:Int)
 | frz (o:Obj) (u:HO)
 | tbl (ps:Array Value)
 | ext (φ:Heap->Prop)
abbrev Hp:=Addr->Option HO
def upd(H:Hp)(a:Addr)(o:HO):Hp:=λb=>if b=a then some o else H b
def qa:upd H a o a=some o:=by unfold upd;rw[if_pos rfl]
def qg(h:b≠a):upd H a o b=H b:=by unfold upd;rw[if_neg h]
def jx:upd (upd H a o) a u=upd H a u:=by
 funext b;unfold upd;split<;>rfl
def Ea{H:Hp}(h:H a=some o)(h':H b=some u)(d:o≠u):a≠b:=by
 intro e;subst e;rw[h]at h';exact d (tz.inj h')
def qt{H:Hp}(h:H a=some o)(h':H b=none):a≠b:=by
 intro e;subst e;rw[h]at h';cases h'
inductive CL(ps:Array Value)(oc:Obj):Prop
 | mk (q:Str) (t:Tok) (vs:Array Value) (t':Tok):ps[0]?=some (.str q t)->oc.data=.fields vs->vs[1]?=some (.str q t')->CL ps oc
section
variable(P:Program)(w:World)
def qQ(H:Hp)(h:Heap)(a:Addr):HO->Prop
 | .lst xs=>xs.length<=zdZ/\∃(its:List Value) (n:Nat),qI xs its/\h.get? a=some {cls:=.type "list",data:=.seq its.toArray n}
 | .tup xs=>xs.length<=zdZ/\∃its:List Value,qI xs its/\IsTup h a its.toArray
 | .dK kvs=>kvs.length<=zdZ/\(a==sysModules)=false/\∃vs,KV kvs vs/\h.DictOf (js P w) a vs
 | .dT kvs=>kvs.length<=zdZ/\(a==sysModules)=false/\∃xs:List (List qT×Addr×Value),
  Paired (λ(p:List qT×V) (q:List qT×Addr×Value)=>p.1=q.1/\H q.2.1=some (.tup (p.1.map kV))/\qM p.2 q.2.2) kvs xs/\
  ∃o es ep,h.get? a=some o/\o.ExactDict/\o.data=.dict es ep/\es.toList=xs.map (entryOfKey (tupleKind (js P w)))/\(xs.map (·.1)).Nodup
 | .set S n=>h.SetOf (intKind P w) a S n
 | .ins C dx fs=>H dx=some (.own a)/\fs.length<=1000/\dx≠a/\h.get? a=some (zaZ C dx)/\
  ∃mA,h.Ns1 dx mA/\(∀f,Zd (fs.lookup f) (mA f))/\PySem.Within mA (fs.map (·.1))
 | .own _=>∃o,h.get? a=some o
 | .xd fs=>∃mA,h.Ns1 a mA/\∀f,Zd (fs.lookup f) (mA f)
 | .rng lo hi=>∃t u v,h.get? a=some {cls:=.type "range",data:=.fields #[.int lo t,.int hi u,.int 1 v]}
 | .frz o u=>h.get? a=some o/\qQ H h a u
 | .tbl ps=>∃ts:Array Value,h.get? a=some {cls:=.none,data:=.fields ts}/\TriplesOk ts.toList/\∀pos cv,codeAmong pos ts.toList=some cv->∃c oc,cv=.ref c/\H c=some (.frz oc (.own a))/\CL ps oc
 | .met f x=>h.get? a=some (zcQ (.ref f) (.ref x))
 | .ext φ=>φ h/\(∃o,h.get? a=some o)/\∀h1 h2:Heap,φ h1->(∀o,h1.get? a=some o->h2.get? a=some o)->φ h2
def ZS(H:Hp)(h:Heap):Prop:=∀a b,H a=some b->qQ P w H h a b
end
def qQ.lt(x:qQ P w H h a o):a < h.objs.size:=by
 cases o with
 | lst b=>obtain⟨_,_,_,_,e⟩:=x;exact tK e
 | tup b=>obtain⟨_,_,_,c⟩:=x;exact c.lt
 | dK b=>obtain⟨_,_,_,_,o,_,_,e,_⟩:=x;exact tK e
 | dT b=>obtain⟨_,_,_,_,o,_,_,e,_⟩:=x;exact tK e
 | set S n=>obtain⟨o,_,_,_,e,_⟩:=x;exact tK e
 | ins b c fs=>obtain⟨_,_,_,e,_⟩:=x;exact tK e
 | own y=>obtain⟨_,e⟩:=x;exact tK e
 | xd fs=>obtain⟨_,⟨_,_,_,e,_⟩,_⟩:=x;exact tK e
 | rng lo b=>obtain⟨_,_,_,e⟩:=x;exact tK e
 | frz b u=>obtain⟨e,_⟩:=x;exact tK e
 | tbl b=>obtain⟨_,e,_⟩:=x;exact tK e
 | met f y=>exact tK (show h.get? a=some _ from x)
 | ext b=>obtain⟨_,⟨_,e⟩,_⟩:=x;exact tK e
def Paired.mapP{G:α->β->Prop}:∀{c:List α} {d:List β},Paired F c d->(∀a b,F a b->G a b)->Paired G c d
 | _,_,.nil,_=>.nil
 | _,_,.cons c t,f=>.cons (f _ _ c) (Paired.mapP t f)
def qQ.stay{g:Hp}{h':Heap}(x:qQ P w H h a o)(k:∀b u,(b=a\/H b=some (.own a))->h.get? b=some u->h'.get? b=some u)(C:∀b,H b=some (.own a)->g b=some (.own a))(m:∀b xs,H b=some (.tup xs)->g b=some (.tup xs))(D:∀b o,H b=some (.frz o (.own a))->g b=some (.frz o (.own a)):=by exact λ_ _ q=>q):qQ P w g h' a o:=by
 induction o with
 | lst xs=>obtain⟨z,j,n,g,e⟩:=x;exact⟨z,j,n,g,k _ _ (.inl rfl) e⟩
 | tup xs=>obtain⟨z,j,g,i,e,c⟩:=x;exact⟨z,j,g,i,k _ _ (.inl rfl) e,c⟩
 | dK p=>obtain⟨z,y,r,g,i,j,l,e,c⟩:=x;exact⟨z,y,r,g,i,j,l,k _ _ (.inl rfl) e,c⟩
 | dT p=>
  obtain⟨z,y,xs,g,i,j,l,e,c⟩:=x;exact⟨z,y,xs,Paired.mapP g λB q z=>⟨z.1,m _ _ z.2.1,z.2.2⟩,i,j,l,k _ _ (.inl rfl) e,c⟩
 | set S n=>obtain⟨i,j,l,t,e,c⟩:=x;exact⟨i,j,l,t,k _ _ (.inl rfl) e,c⟩
 | ins m p fs=>
  obtain⟨d,z,ne,e,m,⟨p,j,l,r,c⟩,g⟩:=x;exact⟨C _ d,z,ne,k _ _ (.inl rfl) e,m,⟨p,j,l,k _ _ (.inr d) r,c⟩,g⟩
 | own y=>obtain⟨i,e⟩:=x;exact⟨i,k _ _ (.inl rfl) e⟩
 | xd fs=>obtain⟨m,⟨p,j,l,e,c⟩,g⟩:=x;exact⟨m,⟨p,j,l,k _ _ (.inl rfl) e,c⟩,g⟩
 | rng lo g=>obtain⟨t,u,v,e⟩:=x;exact⟨t,u,v,k _ _ (.inl rfl) e⟩
 | frz i u g=>obtain⟨e,q⟩:=x;exact⟨k _ _ (.inl rfl) e,g q⟩
 | tbl g=>
  obtain⟨g,e,i,j⟩:=x;exact⟨g,k a _ (.inl rfl) e,i,λpos i q=>let ⟨c,g,l,r,m⟩:=j pos i q;⟨c,g,l,D c g r,m⟩⟩
 | met f y=>
  have e:h.get? a=some (zcQ (.ref f) (.ref y)):=x;show h'.get? a=some (zcQ (.ref f) (.ref y));exact k a _ (.inl rfl) e
 | ext g=>obtain⟨B,⟨o,e⟩,st⟩:=x;exact⟨st _ _ B λo q=>k _ _ (.inl rfl) q,⟨o,k _ _ (.inl rfl) e⟩,st⟩
def ZS.lt(x:ZS P w H h)(e:H a=some o):a < h.objs.size:=(x a o e).lt
def ZS.fresh(x:ZS P w H h)(e:h.objs.size<=a):H a=none:=by
 cases q:H a with
 | none=>rfl
 | some u=>exact absurd (tN (x.lt q) e) (zal _)
def ZS.kept{h':Heap}(x:ZS P w H h)(k:∀b u,h.get? b=some u->h'.get? b=some u):ZS P w H h':=λa c e=>
 (x a c e).stay (λb u _ q=>k b u q) (λ_ q=>q) λ_ _ q=>q
def ZS.laid{h':Heap}(x:ZS P w H h)(k:∀b u,h.get? b=some u->h'.get? b=some u)(g:h.objs.size<=a)(new:qQ P w (upd H a o) h' a o):ZS P w (upd H a o) h':=λb u e=>by
 have d:=x.fresh g;by_cases g:b=a
 ·subst g;rw[qa]at e;cases e;exact new
 ·rw[qg g]at e;exact(x b u e).stay (λc v _ q=>k c v q) (λc q=>by rw[qg (qt q d)];exact q) (λc _ q=>by rw[qg (qt q d)];exact q) (λc o q=>by rw[qg (qt q d)];exact q)
def Rd(H:Hp)(a:Addr)(u:HO):Prop:=H a=some u\/∃b,H a=some (.frz b u)
def Rd.ok(r:Rd H a u)(x:ZS P w H h):qQ P w H h a u:=by
 rcases r with r | ⟨b,r⟩
 ·exact x a u r
 ·obtain⟨_,q⟩:=x a _ r;exact q
def CV:Option HO->Prop
 | some (.lst _)=>True
 | some (.dK _)=>True
 | some (.dT _)=>True
 | some (.set _ _)=>True
 | some (.ins _ _ _)=>True
 | some (.ext _)=>True
 | _=>False
def ZS.write{h':Heap}(ok:ZS P w H h)(d:CV (H x))(m:e=x\/H e=some (.own x))(k:∀b u,b≠e->h.get? b=some u->h'.get? b=some u)(p:∃u,h'.get? e=some u)(new:qQ P w (upd H x o') h' x o'):ZS P w (upd H x o') h':=λb u q=>by
 have o:∀c y,H c=some (.own y)->c≠x:=λc y a z=>by subst z;rw[a]at d;exact d
 have r:∀c g,H c=some (.tup g)->c≠x:=λc g a z=>by subst z;rw[a]at d;exact d
 by_cases i:b=x
 ·subst i;rw[qa]at q;cases q;exact new
 ·rw[qg i]at q;by_cases j:b=e
  ·have l:H b=some (.own x):=by
    rcases m with z | z
    ·exact absurd (j.trans z) i
    ·rw[j];exact z
   rw[q]at l;cases l;obtain⟨v,l⟩:=p;exact⟨v,by rw[j];exact l⟩
  ·refine(ok b u q).stay (λc v l a=>k c v ?_ a) (λc a=>by rw[qg (o c b a)];exact a) (λc g a=>by rw[qg (r c g a)];exact a) (λc _ a=>by rw[qg (λz=>by subst z;rw[a]at d;exact d)];exact a);rcases l with rfl | l
   ·exact j
   ·rintro rfl;rcases m with z | z
    ·exact o c b l z
    ·rw[l]at z;cases z;exact i rfl
structure Un(fs ex:List Addr)(H H':Hp)(h h':Heap):Prop where
 keep:∀b o,h.get? b=some o->H b=none->b∉fs->b∉ex->h'.get? b=some o
 slot:∀b o,h.get? b=some o->H b=none->b∈fs->b∉ex->∃sl,h'.get? b=some {o with slots:=sl}
 free:∀b o,h.get? b=some o->H b=none->b∉ex->H' b=none
 there:∀b o,h.get? b=some o->b∉ex->∃o',h'.get? b=some o'
 tups:∀b xs,H b=some (.tup xs)->H' b=some (.tup xs)
 frzs:∀b o u,H b=some (.frz o u)->H' b=some (.frz o u)
 tbls:∀b ps,H b=some (.tbl ps)->∃more,H' b=some (.tbl (ps++more))
def Un.any(u:Un fs ex H g h d)(q:h.get? b=some a)(n:H b=none)(c:b∉ex):∃e,d.get? b=some {a with slots:=e}:=by
 by_cases d:b∈fs
 ·exact u.slot b a q n d c
 ·exact⟨a.slots,u.keep b a q n d c⟩
def Un.kept{h:Heap}{h':Heap}(k:∀b u,h.get? b=some u->h'.get? b=some u):Un fs ex H H h h':=
 ⟨λb a q _ _ _=>k b a q,λb a q _ _ _=>⟨a.slots,k b a q⟩,λ_ _ _ n _=>n,λb a q _=>⟨a,k b a q⟩,λ_ _ q=>q,λ_ _ _ q=>q,λ_ _ q=>⟨#[],by rw[q];simp⟩⟩
def Un.refl:Un fs ex H H h h:=Un.kept λ_ _ q=>q
def Un.laid{H:Hp}{h:Heap}{h':Heap}(k:∀b u,h.get? b=some u->h'.get? b=some u)(d:h.objs.size<=a)(c:H a=none):Un fs ex H (upd H a o) h h' where
 keep:=λb u q _ _ _=>k b u q
 slot:=λb u q _ _ _=>⟨u.slots,k b u q⟩
 free:=λb u q n _=>by rw[qg (tW (tN (tK q) d))];exact n
 there:=λb u q _=>⟨u,k b u q⟩
 tups:=λb d q=>by rw[qg (qt q c)];exact q
 frzs:=λb u d q=>by rw[qg (qt q c)];exact q
 tbls:=λb _ q=>⟨#[],by rw[qg (qt q c),q];simp⟩
def Un.write{H:Hp}{h:Heap}{h':Heap}(a:CV (H x))(l:e=x\/H e=some (.own x))(k:∀b u,b≠e->h.get? b=some u->h'.get? b=some u)(m:∃u,h'.get? e=some u):Un fs ex H (upd H x o) h h':=by
 have g:∀b,H b=none->b≠x:=λb n z=>by subst z;rw[n]at a;exact a
 have i:∀b,H b=none->b≠e:=λb n z=>by
  subst z;rcases l with c | c
  ·exact g b n c
  ·rw[n]at c;cases c
 have d:∀b u,H b=some u->¬CV (some u)->b≠x:=λb u q p z=>by subst z;rw[q]at a;exact p a
 refine⟨λb u q n _ _=>k b u (i b n) q,λb u q n _ _=>⟨u.slots,k b u (i b n) q⟩,λb u q n _=>by rw[qg (g b n)];exact n,λb u q _=>?_,
  λb a q=>by rw[qg (d b _ q λz=>z)];exact q,λb u a q=>by rw[qg (d b _ q λz=>z)];exact q,λb _ q=>⟨#[],by rw[qg (d b _ q λz=>z),q];simp⟩⟩
 by_cases j:b=e
 ·subst j;exact m
 ·exact⟨u,k b u j q⟩
def EW(h:Heap)(H:Hp):List Addr:=(t8 h.objs.size).filter λa=>(H a).isSome
def Wn(h:Heap)(H:Hp):Heap:=PySem.W.hideAll h (EW h H)
def wB(h:Heap)(H:Hp):(Wn h H).objs.size=h.objs.size:=PySem.W.hideAll_size _ _
def GQ{h:Heap}{H:Hp}(e:h.get? b=some o)(n:H b=none):(Wn h H).get? b=some o:=
 PySem.W.hideAll_get _ e λa=>by
  have q:(H b).isSome=true:=(tO.mp a).2;rw[n]at q;simp at q
def N4(e:(Wn h H).get? b=some o):h.get? b=some o/\H b=none:=by
 have a:h.get? b=some o:=PySem.W.of_hideAll (EW h H) e;refine⟨a,?_⟩;cases q:H b with
 | none=>rfl
 | some x=>
  have c:b∈EW h H:=tO.mpr ⟨zaM.mpr (tK a),by simp [q]⟩;have z:(Wn h H).get? b=none:=PySem.W.hideAll_none (EW h H) c;rw[z]at e;cases e
open PyProof.Rows hiding K lo
structure Mod(K:zdU)(mg:Str->Option Value)(base:Heap):Prop where
 kin:K.In base
 glob:base.Ns mainGlobals mg
 blt:∃mb,base.Ns builtinsNs mb/\∀x:Str,x≠"__name__"->mb x=bootBuiltins x
 nolimit:base.NoLimit
structure Cx where
 prog:Program
 w:World
 K:zdU
 mg:Str->Option Value
 base:Heap
 A:Around
 N:List Str
 s₀:Shared
 H₀:Hp
 env:Env
 outer:List Env
 stack:List Env
 ex:List Addr
 fn:Str->Bool
 calm:Bool
 pn:List (Addr×Obj)
 xe:Value->Shared->Prop
def GY(l:List Env):List Addr:=l.filterMap (·.frame)
abbrev Cx.fs(X:Cx):List Addr:=GY X.outer
def Cz(sc:Scope)(x:Str):Prop:=sc.names.lookup x=some .local\/sc.names.lookup x=some .cell\/sc.names.lookup x=some .free
def Rx(sc:Scope)(x:Str):Prop:=sc.names.lookup x=some .local\/sc.names.lookup x=some .cell
def Hz(env:Env)(h:Heap)(m:Str->Option Value)(x:Str)(u:Value):Prop:=
 (env.kindOf x=some .local/\m x=some u)\/((env.kindOf x=some .cell\/env.kindOf x=some .free)/\∃c,env.cells.lookup x=some c/\h.IsCell c (some u))
structure Cx.Ok(X:Cx):Prop where
 mod:Mod X.K X.mg X.base
 kind:X.env.scope.kind=.function
 glob:X.env.globals=mainGlobals
 blt:X.env.builtins=builtinsNs
 above:X.s₀.heap.objs.size<=X.env.locals
 inj:∀x y c,X.env.cells.lookup x=some c->X.env.cells.lookup y=some c->x=y
 has:∀x,(X.env.kindOf x=some .cell\/X.env.kindOf x=some .free)->∃c,X.env.cells.lookup x=some c
 cab:∀x c,X.fn x=true->X.env.cells.lookup x=some c->X.s₀.heap.objs.size<=c
 hd:X.calm=true->X.A.handled=none
 frames:X.A.frames=some X.stack
 stk:X.stack=X.outer\/(X.stack=X.env::X.outer/\X.env.frame=some X.env.locals)
 exf:∀b∈X.ex,b≠X.env.locals/\∀x c,X.env.cells.lookup x=some c->c≠b
 bs:∀b o,X.base.get? b=some o->X.s₀.heap.get? b=some o/\X.H₀ b=none
 bsz:X.base.objs.size<=X.s₀.heap.objs.size
 noex:∀b o,X.base.get? b=some o->b∉X.ex
 exfs:∀b∈X.ex,b∉X.fs
 funs:X.s₀.heap.FunFrames X.base X.outer
 frf:∀b∈X.fs,X.H₀ b=none
structure qw(X:Cx)(a_:List (Addr×Obj))(σ:List (Option V))(H:Hp)(s:Shared):Prop where
 ok:X.Ok
 os:s.os=X.s₀.os
 bare:AllBare s.gens
 base:Un X.fs X.ex X.H₀ H X.s₀.heap s.heap
 loc:∃m,s.heap.Ns X.env.locals m/\∀(i:Nat) (x:Str) (v:V),X.N[i]?=some x->σ[i]?=some (some v)->Cz X.env.scope x->∃u,qM v u/\Hz X.env s.heap m x u
 cell:∀x c,X.env.cells.lookup x=some c->∃v,s.heap.IsCell c v
 free:H X.env.locals=none
 freeC:∀x c,X.env.cells.lookup x=some c->H c=none\/(X.fn x=false/\∃o,H c=some (.frz o (.frz o (.own 0))))
 pin:∀p∈X.pn++a_,s.heap.get? p.1=some p.2/\H p.1=none/\p.1≠X.env.locals/\p.1∉X.fs/\∀v,p.2.data≠.cell v
 hok:ZS X.prog X.w H s.heap
 len:σ.length=X.N.length
def Cx.Ok.nofr{X:Cx}(ok:X.Ok)(e:X.base.get? b=some o):b∉X.fs:=λa=>by
 have:=(ok.funs.mem a).1;rw[e]at this;cases this
def qw.bs(I:qw X a_ a H s):∀b o,X.base.get? b=some o->s.heap.get? b=some o/\H b=none:=λb o e=>
 ⟨I.base.keep b o (I.ok.bs b o e).1 (I.ok.bs b o e).2 (I.ok.nofr e) (I.ok.noex b o e),I.base.free b o (I.ok.bs b o e).1 (I.ok.bs b o e).2 (I.ok.noex b o e)⟩
def qw.bk(I:qw X a_ a H s):∀b o,X.base.get? b=some o->s.heap.get? b=some o:=λb o e=>(I.bs b o e).1
def qw.mod(I:qw X a_ a H s):Mod X.K X.mg X.base:=I.ok.mod
def qw.kIn(I:qw X a_ a H s):X.K.In s.heap:=I.ok.mod.kin.keeps I.bk
def qw.lt(I:qw X a_ b H s):X.env.locals < s.heap.objs.size:=let ⟨_,a,_⟩:=I.loc;a.lt
def qw.sz(I:qw X a_ a H s):X.s₀.heap.objs.size<=s.heap.objs.size:=tS I.ok.above (t6 I.lt)
def qw.nofs(I:qw X a_ c H s)(h:s.heap.objs.size<=a):a∉X.fs:=λb=>by
 obtain⟨_,_,c,_⟩:=I.ok.funs.mem b;exact absurd (tN (tK c) (tS I.sz h)) (zal _)
def qw.cne(I:qw X a_ a H s):∀x c,X.env.cells.lookup x=some c->c≠X.env.locals:=λx c e z=>by
 obtain⟨v,_,a,hd⟩:=I.cell x c e;obtain⟨m,⟨_,_,_,b,d,_⟩,_⟩:=I.loc;rw[z,b]at a;cases a;rw[d]at hd;cases hd
def qw.funs(I:qw X a_ a H s):s.heap.FunFrames X.base X.outer:=by
 have all:∀(a:List Env),(∀b∈GY a,b∈X.fs)->X.s₀.heap.FunFrames X.base a->s.heap.FunFrames X.base a:=by
  intro a;induction a with
  | nil=>intro _ _;trivial
  | cons a c g=>
   intro d c;obtain⟨i,⟨L,j,a,l,m,hd⟩,hr⟩:=c;have c:L∈X.fs:=d L (by unfold GY;rw[tZ,a];exact tE);obtain⟨_,e⟩:=I.base.slot L j m (I.ok.frf L c) c λz=>I.ok.exfs L z c;exact⟨i,⟨L,_,a,l,e,hd⟩,g (λb c=>d b (by unfold GY;rw[tZ,a];exact tA _ c)) hr⟩
 exact all X.outer (λ_ c=>c) I.ok.funs
def qw.stack(I:qw X a_ a H s):s.heap.FunFrames X.base X.stack:=by
 rcases I.ok.stk with e | ⟨e,a⟩
 ·rw[e];exact I.funs
 ·rw[e];obtain⟨m,b,_⟩:=I.loc;refine .cons (by rw[I.ok.kind];decide) a b ?_ I.funs;exact Heap.get?_none_of_le (tS I.ok.bsz I.ok.above)
def qw.stkSub(I:qw X a_ c H s):∀b∈GY X.stack,b∈X.env.locals::X.fs:=λb a=>by
 rcases I.ok.stk with e | ⟨e,c⟩
 ·rw[e]at a;exact tA _ a
 ·rw[e]at a;unfold GY at a;rw[tZ,c]at a;exact a
def qw.stkFree(I:qw X a_ c H s):∀b∈GY X.stack,H b=none:=λb a=>by
 rcases tI.mp (I.stkSub b a) with e | a
 ·rw[e];exact I.free
 ·obtain⟨_,c,d,_⟩:=I.ok.funs.mem a;exact I.base.free b c d (I.ok.frf b a) λz=>I.ok.exfs b z a
def qw.step{r:Hp}{h':Heap}{ch:List Addr}(I:qw X a_ a H s)(D:∀b∈ch,(b∈X.ex\/X.s₀.heap.objs.size<=b)/\b≠X.env.locals/\(∀x c,X.env.cells.lookup x=some c->c≠b)/\∀p∈X.pn++a_,p.1≠b)(keep:∀b o,b≠X.env.locals->b∉X.fs->b∉ch->s.heap.get? b=some o->H b=none->h'.get? b=some o)(slot:∀b o,b≠X.env.locals->b∈X.fs->b∉ch->s.heap.get? b=some o->H b=none->∃O,h'.get? b=some {o with slots:=O})(free:∀b o,b∉ch->s.heap.get? b=some o->H b=none->r b=none)(there:∀b o,b∉ch->s.heap.get? b=some o->∃o',h'.get? b=some o')(tups:∀b xs,H b=some (.tup xs)->r b=some (.tup xs))(frzs:∀b o u,H b=some (.frz o u)->r b=some (.frz o u))(tbls:∀b ps,H b=some (.tbl ps)->∃more,r b=some (.tbl (ps++more)))(ns:∀m,s.heap.Ns X.env.locals m->h'.Ns X.env.locals m)(hok:ZS X.prog X.w r h')(T:AllBare g'):
  qw X a_ a r {s with heap:=h',gens:=g',drawn:=d',toks:=t'}:=by
 have gP:∀b o,X.s₀.heap.get? b=some o->b≠X.env.locals:=λb o e=>tW (tN (tK e) I.ok.above);have L:∀b o,X.s₀.heap.get? b=some o->b∉X.ex->b∉ch:=λb o e a y=>by
  rcases(D b y).1 with z | z
  ·exact a z
  ·exact absurd (tN (tK e) z) (zal _)
 have Q:∀x c,X.env.cells.lookup x=some c->∀v,s.heap.IsCell c v->h'.IsCell c v:=λx c e v ⟨o,B,hd⟩=>by
  have J:c∉ch:=λz=>(D c z).2.2.1 x c e rfl;rcases I.freeC x c e with j | ⟨_,l,j⟩
  ·by_cases g:c∈X.fs
   ·obtain⟨O,q⟩:=slot c o (I.cne x c e) g J B j;exact⟨_,q,hd⟩
   ·exact⟨o,keep c o (I.cne x c e) g J B j,hd⟩
  ·obtain⟨g,_⟩:=(show qQ X.prog X.w H s.heap c (.frz l (.frz l (.own 0))) from I.hok c _ j);obtain⟨C,_⟩:=(show qQ X.prog X.w r h' c (.frz l (.frz l (.own 0))) from hok c _ (frzs c l _ j));rw[B]at g;cases g;exact⟨o,C,hd⟩
 refine⟨I.ok,I.os,T,⟨λb o e n y a=>?_,λb o e n y a=>?_,λb o e n a=>?_,λb o e a=>?_,λb xs e=>tups b xs (I.base.tups b xs e),λb o xs e=>frzs b o xs (I.base.frzs b o xs e),λb ps e=>?_⟩,?_,λx c e=>?_,?_,λx c e=>?_,λp r=>?_,hok,I.len⟩
 ·exact keep b o (gP b o e) y (L b o e a) (I.base.keep b o e n y a) (I.base.free b o e n a)
 ·obtain⟨O,g⟩:=I.base.slot b o e n y a;obtain⟨O,C⟩:=slot b _ (gP b o e) y (L b o e a) g (I.base.free b o e n a);exact⟨O,C⟩
 ·obtain⟨o',g⟩:=I.base.there b o e a;exact free b o' (L b o e a) g (I.base.free b o e n a)
 ·obtain⟨o',g⟩:=I.base.there b o e a;exact there b o' (L b o e a) g
 ·obtain⟨a,g⟩:=I.base.tbls b ps e;obtain⟨y,C⟩:=tbls b _ g;exact⟨a++y,by rw[C,Array.append_assoc]⟩
 ·obtain⟨m,a,y⟩:=I.loc;refine⟨m,ns m a,λi x v g C L=>?_⟩;obtain⟨u,O,a⟩:=y i x v g C L;refine⟨u,O,?_⟩;rcases a with a | ⟨k,c,e,z⟩
  ·exact .inl a
  ·exact .inr ⟨k,c,e,Q x c e _ z⟩
 ·obtain⟨v,z⟩:=I.cell x c e;exact⟨v,Q x c e v z⟩
 ·obtain⟨m,⟨o,_,_,B,_⟩,_⟩:=I.loc;exact free _ o (λz=>(D _ z).2.1 rfl) B I.free
 ·obtain⟨v,o,B,hd⟩:=I.cell x c e;rcases I.freeC x c e with j | ⟨a,l,j⟩
  ·exact .inl (free c o (λz=>(D c z).2.2.1 x c e rfl) B j)
  ·exact .inr ⟨a,l,frzs c l _ j⟩
 ·obtain⟨e,n,ne,a,d⟩:=I.pin p r;have J:p.1∉ch:=λz=>(D p.1 z).2.2.2 p r rfl;exact⟨keep p.1 p.2 ne a J e n,free p.1 p.2 J e n,ne,a,d⟩
def qw.un(I:qw X a_ c H s)(u:Un X.fs [] H a s.heap h')(hok:ZS X.prog X.w a h'):qw X a_ c a {s with heap:=h',toks:=t'}:=by
 obtain⟨m,⟨a,_,_,d,_⟩,_⟩:=id I.loc;obtain⟨_,g⟩:=u.any d I.free (by simp);exact I.step (g':=s.gens) (d':=s.drawn) (ch:=[]) (λ_ z=>nomatch z) (λb a _ c _ e n=>u.keep b a e n c (by simp)) (λb a _ c _ e n=>u.slot b a e n c (by simp)) (λb a _ e n=>u.free b a e n (by simp)) (λb a _ e=>u.there b a e (by simp)) u.tups u.frzs u.tbls (λ_ c=>by
  obtain⟨_,i,j,a,l⟩:=c;rw[d]at a;cases a;exact⟨_,i,j,g,l⟩) hok I.bare
def qw.call(I:qw X a_ g H s)(u:Un (GY X.stack) ch H a s.heap h')(hok:ZS X.prog X.w a h')(j:AllBare g')(d:∀b∈ch,(b∈X.ex\/X.s₀.heap.objs.size<=b)/\b≠X.env.locals/\(∀x c,X.env.cells.lookup x=some c->c≠b)/\∀p∈X.pn++a_,p.1≠b):
  qw X a_ g a {s with heap:=h',gens:=g',drawn:=d',toks:=t'}:=by
 obtain⟨m,⟨a,_,_,i,_⟩,_⟩:=id I.loc;obtain⟨_,g⟩:=u.any i I.free λz=>(d _ z).2.1 rfl;exact I.step (ch:=ch) d (λb a g l d e n=>u.keep b a e n (λz=>(tI.mp (I.stkSub b z)).elim g l) d) (λb a _ _ d e n=>u.any e n d) (λb a d e n=>u.free b a e n d) (λb a d e=>u.there b a e d) u.tups u.frzs u.tbls (λ_ d=>by
  obtain⟨_,l,o,a,q⟩:=d;rw[i]at a;cases a;exact⟨_,l,o,g,q⟩) hok j
def qw.turned{h':Heap}(I:qw X a_ a H s)(k:∀b o,b≠it->s.heap.get? b=some o->h'.get? b=some o)(i:H it=none)(d:it≠X.env.locals)(j:it∈X.ex\/X.s₀.heap.objs.size<=it)(l:∀x c,X.env.cells.lookup x=some c->c≠it)(r:∀p∈X.pn++a_,p.1≠it):qw X a_ a H {s with heap:=h',toks:=t'}:=by
 have g:∀b u,H b=some u->b≠it:=λb u e z=>by rw[z,i]at e;cases e
 refine I.step (g':=s.gens) (d':=s.drawn) (ch:=[it]) (λb i=>?_) (λb o _ _ a e _=>k b o (λz=>a (by simp [z])) e) (λb o _ _ a e _=>⟨o.slots,k b o (λz=>a (by simp [z])) e⟩) (λ_ _ _ _ n=>n)
  (λb o a e=>⟨o,k b o (λz=>a (by simp [z])) e⟩) (λ_ _ e=>e) (λ_ _ _ e=>e) (λb _ e=>⟨#[],by rw[e];simp⟩) (λm y=>?_) (λb u e=>?_) I.bare
 ·have e:b=it:=by simpa using i
  subst e;exact⟨j,d,l,r⟩
 ·obtain⟨o,i,j,l,r⟩:=y;exact⟨o,i,j,k _ o (Ne.symm d) l,r⟩
 ·refine(I.hok b u e).stay (λc v a q=>k c v ?_ q) (λ_ q=>q) λ_ _ q=>q;rcases a with z | z
  ·rw[z];exact g b u e
  ·exact g c _ z
def qw.tok(I:qw X a_ a H s)(t:Nat):qw X a_ a H {s with toks:=t}:=I.un (h':=s.heap) (t':=t) Un.refl I.hok
def qw.kept{h':Heap}(I:qw X a_ a H s)(k:∀b u,s.heap.get? b=some u->h'.get? b=some u):qw X a_ a H {s with heap:=h',toks:=t'}:=I.un (Un.kept k) (I.hok.kept k)
def qw.laid{h':Heap}(I:qw X a_ d H s)(k:∀b u,s.heap.get? b=some u->h'.get? b=some u)(c:s.heap.objs.size<=a)(new:qQ X.prog X.w (upd H a o) h' a o):
 qw X a_ d (upd H a o) {s with heap:=h',toks:=t'}:=I.un (Un.laid k c (I.hok.fresh c)) (I.hok.laid k c new)
def qw.write{h':Heap}(I:qw X a_ g H s)(a:CV (H x))(c:e=x\/H e=some (.own x))(k:∀b u,b≠e->s.heap.get? b=some u->h'.get? b=some u)(d:∃u,h'.get? e=some u)(new:qQ X.prog X.w (upd H x o) h' x o):qw X a_ g (upd H x o) {s with heap:=h',toks:=t'}:=I.un (Un.write a c k d) (I.hok.write a c k d new)
def qw.pins_of{a:List (Addr×Obj)}(I:qw X a_ b H s)(h:∀p∈a,s.heap.get? p.1=some p.2/\H p.1=none/\p.1≠X.env.locals/\p.1∉X.fs/\∀v,p.2.data≠.cell v):qw X a b H s:=
 ⟨I.ok,I.os,I.bare,I.base,I.loc,I.cell,I.free,I.freeC,λp a=>(tT.mp a).elim (λz=>I.pin p (tY _ z)) (h p),I.hok,I.len⟩
def U7{N:List Str}(hN:N.Nodup){i j:Nat}{x:Str}(a:N[i]?=some x)(b:N[j]?=some x):i=j:=by
 obtain⟨_,c⟩:=td.mp a;obtain⟨_,d⟩:=td.mp b;exact(List.getElem_inj hN).mp (c.trans d.symm)
def z7{Q:Unit->Shared->Prop}(I:qw X a_ j H s)(hN:X.N.Nodup)(T:X.N[i]?=some x)(o:Rx X.env.scope x)(r:qM v u)(h:∀g,qw X a_ (j.set i (some v)) H g->(∃a,Heap.SameBut a s.heap g.heap/\(a=X.env.locals\/X.env.cells.lookup x=some a))->Q () g)(hf:X.fn x=true\/X.env.scope.names.lookup x=some .local:=by first | exact .inl rfl | exact .inr rfl | assumption):wpAny M A (storeName X.env x u) Q E s:=by
 obtain⟨m,hn,hl⟩:=id I.loc;have B:(X.env.scope.kind==.class || (X.env.scope.kind==.module&&X.env.locals != X.env.globals))=false:=by rw[I.ok.kind];rfl
 have ab:i < j.length:=by rw[I.len];exact(td.mp T).1
 have cne:=I.cne;have ac:∀{a:Addr} {L:Heap},(∃p,s.heap.get? a=some p/\H a=none)->Heap.SameBut a s.heap L->ZS X.prog X.w H L:=λ{a L} l g b C e=>by
  obtain⟨_,_,j⟩:=l;refine(I.hok b C e).stay (λc Y l q=>(g.2 c ?_).trans q) (λ_ q=>q) λ_ _ q=>q;rintro rfl;rcases l with rfl | l
  ·rw[j]at e;cases e
  ·rw[j]at l;cases l
 rcases o with C | C
 ·refine wpAny_storeName_local C hn (λL j g=>?_) B;obtain⟨oL,_,_,J,_⟩:=id hn;refine h _ ⟨I.ok,I.os,I.bare,⟨λb p e n D o=>?_,λb p e n D o=>?_,I.base.free,λb p e o=>?_,I.base.tups,I.base.frzs,I.base.tbls⟩,⟨_,j,λU y v' j B e3=>?_⟩,λy c e=>?_,I.free,I.freeC,λO hp=>?_,ac ⟨oL,J,I.free⟩ g,by simpa using I.len⟩ ⟨_,g,.inl rfl⟩
  ·exact(g.2 b (tW (tN (tK e) I.ok.above))).trans (I.base.keep b p e n D o)
  ·obtain⟨sl,j⟩:=I.base.slot b p e n D o;exact⟨sl,(g.2 b (tW (tN (tK e) I.ok.above))).trans j⟩
  ·obtain⟨o',j⟩:=I.base.there b p e o;exact⟨o',(g.2 b (tW (tN (tK e) I.ok.above))).trans j⟩
  ·by_cases J:U=i
   ·subst J;rw[T]at j;cases j;rw[zdj ab]at B;cases B;exact⟨u,r,.inl ⟨C,by simp⟩⟩
   ·rw[zdu (Ne.symm J)]at B;obtain⟨u',r',q⟩:=hl U y v' j B e3;refine⟨u',r',?_⟩;rcases q with ⟨k,e⟩ | ⟨k,c,e,z⟩
    ·refine .inl ⟨k,?_⟩;have:y≠x:=λe=>J (U7 hN j (e▸T));simp [this,e]
    ·exact .inr ⟨k,c,e,z.sameBut g (cne y c e)⟩
  ·obtain⟨Y,z⟩:=I.cell y c e;exact⟨Y,z.sameBut g (cne y c e)⟩
  ·obtain⟨e,n,ne,nf,d⟩:=I.pin O hp;exact⟨(g.2 O.1 ne).trans e,n,ne,nf,d⟩
 ·have aa:X.fn x=true:=by
   rcases hf with z | z
   ·exact z
   ·rw[z]at C;cases C
  obtain⟨c,l⟩:=I.ok.has x (.inl C);obtain⟨Y,z⟩:=I.cell x c l;refine wpAny_storeName_cell I.ok.kind C l z (λL ae g=>?_);obtain⟨oc,af,ag⟩:=id z;have ah:H c=none:=(I.freeC x c l).elim id λz=>by rw[aa]at z;cases z.1
  refine h {s with heap:=L} ⟨I.ok,I.os,I.bare,⟨λb p e n D o=>?_,λb p e n D o=>?_,I.base.free,λb p e o=>?_,I.base.tups,I.base.frzs,I.base.tbls⟩,⟨m,hn.sameBut g (Ne.symm (cne x c l)),λU y v' j B e3=>?_⟩,λy L e=>?_,I.free,I.freeC,λO hp=>?_,ac ⟨oc,af,ah⟩ g,by simpa using I.len⟩ ⟨c,g,.inr l⟩
  ·exact(g.2 b (tW (tN (tK e) (I.ok.cab x c aa l)))).trans (I.base.keep b p e n D o)
  ·obtain⟨sl,j⟩:=I.base.slot b p e n D o;exact⟨sl,(g.2 b (tW (tN (tK e) (I.ok.cab x c aa l)))).trans j⟩
  ·obtain⟨o',j⟩:=I.base.there b p e o;exact⟨o',(g.2 b (tW (tN (tK e) (I.ok.cab x c aa l)))).trans j⟩
  ·by_cases J:U=i
   ·subst J;rw[T]at j;cases j;rw[zdj ab]at B;cases B;exact⟨u,r,.inr ⟨.inl C,c,l,ae⟩⟩
   ·rw[zdu (Ne.symm J)]at B;obtain⟨u',r',q⟩:=hl U y v' j B e3;refine⟨u',r',?_⟩;rcases q with q | ⟨k,L,e,o⟩
    ·exact .inl q
    ·refine .inr ⟨k,L,e,o.sameBut g ?_⟩;rintro rfl;exact J (U7 hN j (I.ok.inj _ _ _ e l▸T))
  ·by_cases j:L=c
   ·subst j;exact⟨_,ae⟩
   ·obtain⟨l,o⟩:=I.cell y L e;exact⟨l,o.sameBut g j⟩
  ·obtain⟨e,n,ne,nf,d⟩:=I.pin O hp;refine⟨(g.2 O.1 ?_).trans e,n,ne,nf,d⟩;intro q;rw[q,af]at e;have g:oc=O.2:=tz.inj e;exact d Y (by rw[<-g];exact ag)
def Xk{Q:Unit->Shared->Prop}(I:qw X a_ b H s)(hN:X.N.Nodup)(c:X.N[i]?=some x)(d:Rx X.env.scope x)(r:qM v u)(h:∀a,qw X a_ (b.set i (some v)) H a->Q () a)(e:X.fn x=true\/X.env.scope.names.lookup x=some .local:=by first | exact .inl rfl | exact .inr rfl | assumption):wpAny M A (storeName X.env x u) Q E s:=
 z7 I hN c d r (λa b _=>h a b) e
def qw.call'{a:Shared}(I:qw X a_ g H s)(i:a.os=s.os)(u:Un (GY X.stack) ch H d s.heap a.heap)(hok:ZS X.prog X.w d a.heap)(j:AllBare a.gens)(l:∀b∈ch,(b∈X.ex\/X.s₀.heap.objs.size<=b)/\b≠X.env.locals/\(∀x c,X.env.cells.lookup x=some c->c≠b)/\∀p∈X.pn++a_,p.1≠b):qw X a_ g d a:=by
 obtain⟨_,d,g,m,o⟩:=a;have e:o=s.os:=i;subst e;exact I.call (g':=d) (t':=m) (d':=g) u hok j l
abbrev XK:=Value->Option Addr->Hp->Prop
abbrev St:=List (Option V)
abbrev VK:=V->Hp->Prop
abbrev TE:=St->Hp->VK->Prop
abbrev TT:=St->Hp->(Bool->Hp->Prop)->Prop
abbrev TA:=St->Hp->(List V->Hp->Prop)->Prop
structure JD where
 nx:St->Hp->Prop
 rt:VK
 bk:St->Hp->Prop:=λ_ _=>False
 ct:St->Hp->Prop:=λ_ _=>False
abbrev TS:=JD->St->Hp->Prop
inductive EP(X:Cx)(a_:List (Addr×Obj))(σ:St)(Q:VK)(u:Value)(s':Shared):Prop
 | mk (v:_) (H':_):qw X a_ σ H' s'->qM v u->Q v H'->EP X a_ σ Q u s'
inductive TP(X:Cx)(a_:List (Addr×Obj))(σ:St)(Q:Bool->Hp->Prop)(b:Bool)(s':Shared):Prop
 | mk (H':_):qw X a_ σ H' s'->Q b H'->TP X a_ σ Q b s'
inductive AP(X:Cx)(a_:List (Addr×Obj))(σ:St)(Q:List V->Hp->Prop)(us:List Value)(s':Shared):Prop
 | mk (vs:_) (H':_):qw X a_ σ H' s'->qI vs us->Q vs H'->AP X a_ σ Q us s'
def SP(X:Cx)(a_:List (Addr×Obj))(D:JD)(f:Flow)(c:Shared):Prop:=
 match f with
 | .next=>∃b a,qw X a_ b a c/\D.nx b a
 | .brk=>∃b a,qw X a_ b a c/\D.bk b a
 | .cont=>∃b a,qw X a_ b a c/\D.ct b a
 | .ret u=>∃v b a,qw X a_ b a c/\qM v u/\D.rt v a
def PE(X:Cx)(e:Expr)(t:TE):Prop:=
 ∀(b:List (Addr×Obj)) (s:Shared) (a:St) (H:Hp) (Q:VK),qw X b a H s->t a H Q->wpAny (model X.prog X.w) X.A (eval e X.env) (EP X b a Q) X.xe s
@[irreducible] def JE (X:Cx) (e:Expr) (t:TE):Prop:=PE X e t
def JE.of(h:PE X e t):JE X e t:=by unfold JE;exact h
def JE.to(h:JE X e t):PE X e t:=by unfold JE at h;exact h
def PT(X:Cx)(e:Expr)(t:TT):Prop:=
 ∀(b:List (Addr×Obj)) (s:Shared) (a:St) (H:Hp) (Q:Bool->Hp->Prop),qw X b a H s->t a H Q->wpAny (model X.prog X.w) X.A (isTrue e X.env (eval e X.env)) (TP X b a Q) X.xe s
@[irreducible] def JT (X:Cx) (e:Expr) (t:TT):Prop:=PT X e t
def JT.of(h:PT X e t):JT X e t:=by unfold JT;exact h
def JT.to(h:JT X e t):PT X e t:=by unfold JT at h;exact h
def PW(X:Cx)(e:Expr)(t:TT):Prop:=
 ∀(ft:Sem Value) (b:List (Addr×Obj)) (s:Shared) (a:St) (H:Hp) (Q:Bool->Hp->Prop),qw X b a H s->t a H Q->wpAny (model X.prog X.w) X.A (isTrue e X.env ft) (TP X b a Q) X.xe s
def PW.pt(h:PW X e t):PT X e t:=h _
@[irreducible] def JW (X:Cx) (e:Expr) (t:TT):Prop:=PW X e t
def JW.of(h:PW X e t):JW X e t:=by unfold JW;exact h
def JW.to(h:JW X e t):PW X e t:=by unfold JW at h;exact h
def JW.pt(h:JW X e t):JT X e t:=.of h.to.pt
def PA(X:Cx)(es:List Expr)(t:TA):Prop:=
 ∀(pos:Pos) (b:List (Addr×Obj)) (s:Shared) (a:St) (H:Hp) (Q:List V->Hp->Prop),qw X b a H s->t a H Q->wpAny (model X.prog X.w) X.A (spliced (backTo pos (starEach es X.env))) (AP X b a Q) X.xe s
@[irreducible] def JA (X:Cx) (es:List Expr) (t:TA):Prop:=PA X es t
def JA.of(h:PA X es t):JA X es t:=by unfold JA;exact h
def JA.to(h:JA X es t):PA X es t:=by unfold JA at h;exact h
def PS(X:Cx)(st:Stmt)(t:TS):Prop:=
 ∀(a:List (Addr×Obj)) (s:Shared) (b:St) (H:Hp) (D:JD),qw X a b H s->t D b H->wpAny (model X.prog X.w) X.A (exec st X.env) (SP X a D) X.xe s
@[irreducible] def JS (X:Cx) (st:Stmt) (t:TS):Prop:=PS X st t
def JS.of{X:Cx}{st:Stmt}{t:TS}(h:PS X st t):JS X st t:=by unfold JS;exact h
def JS.to{X:Cx}{st:Stmt}{t:TS}(h:JS X st t):PS X st t:=by unfold JS at h;exact h
def AT(X:Cx)(st:List Stmt)(t:TS):Prop:=
 ∀(a:List (Addr×Obj)) (s:Shared) (b:St) (H:Hp) (D:JD),qw X a b H s->t D b H->wpAny (model X.prog X.w) X.A (execs st X.env) (SP X a D) X.xe s
@[irreducible] def JSs (X:Cx) (st:List Stmt) (t:TS):Prop:=AT X st t
def JSs.of{X:Cx}{st:List Stmt}{t:TS}(h:AT X st t):JSs X st t:=by unfold JSs;exact h
def JSs.to{X:Cx}{st:List Stmt}{t:TS}(h:JSs X st t):AT X st t:=by unfold JSs at h;exact h
def jg{α:Type}{t:Sem α}{Q b:α->Shared->Prop}{M:Model}{A:Around}{E:Value->Shared->Prop}{s:Shared}(h:wpAny M A t Q E s)(c:∀a s,Q a s->b a s):wpAny M A t b E s:=wpAny_mono h c λ_ _ x=>x
open PyProof.Rows hiding K lo
inductive MV(i:Nat)(σ:St)(H:Hp)(Q:VK):Prop
 | mk (v:_):σ[i]?=some (some v)->Q v H->MV i σ H Q
def qY(i:Nat):TE:=λa H Q=>MV i a H Q
def tC(v:V):TE:=λ_ H Q=>Q v H
def Kr{X:Cx}(hN:X.N[i]?=some x)(a:Cz X.env.scope x)(hd:(x==("__debug__":Str))=false:=by decide)(g:(x==("__classdict__":Str))=false:=by decide):PE X (.Name x pos) (qY i):=by
 intro b s d H Q I h;obtain⟨v,e,h⟩:=h;obtain⟨m,j,l⟩:=I.loc;obtain⟨u,o,p⟩:=l i x v hN e a;have d_:EP X b d Q u s:=⟨v,H,I,o,h⟩;rcases p with ⟨a,l⟩ | ⟨a,c,b,d⟩
 ·exact wpAny_Name (wpAny_loadName_local I.ok.kind a j l d_) hd
 ·rcases a with a | a
  ·exact wpAny_Name (wpAny_loadName_cell I.ok.kind a b d d_) hd
  ·exact wpAny_Name (wpAny_loadName_free I.ok.kind a b d d_ g) hd
def qe{X:Cx}{i j pos}:JE X (.Constant (.int i) j pos) (tC (.int i)):=.of (by
 exact λ_ _ _ H _ I h=>wpAny_Constant_int ⟨.int i,H,I.tok _,⟨_,rfl⟩,h⟩)
def Qx{X:Cx}{b j pos}:JE X (.Constant (.bool b) j pos) (tC (.bl b)):=.of (by
 exact λ_ _ _ H _ I h=>Constant_bool ⟨.bl b,H,I,rfl,h⟩)
def qy{X:Cx}{x j pos}:JE X (.Constant (.str x) j pos) (tC (.str x)):=.of (by
 exact λ_ _ _ H _ I h=>Calls.Constant_str ⟨.str x,H,I.tok _,⟨_,rfl⟩,h⟩)
def Gl(X:Cx)(x:Str):Prop:=X.env.kindOf x=some .globalImplicit
def VO{Q:Value->Shared->Prop}(I:qw X a_ c H s)(a:Gl X x)(b:X.mg x=some u)(h:Q u s)(hd:(x==("__debug__":Str))=false:=by decide):wpAny (model X.prog X.w) X.A (eval (.Name x pos) X.env) Q E s:=
 Calls.Name_function_global I.ok.kind a (Calls.loadGlobal_global (by rw[I.ok.glob];exact I.mod.glob.keeps I.bk) b h) hd
def QS{Q:Value->Shared->Prop}(I:qw X a_ e H s)(a:Gl X x)(b:X.mg x=none)(c:bootBuiltins x=some u)(h:Q u s)(d:x≠"__name__":=by decide)(hd:(x==("__debug__":Str))=false:=by decide):wpAny (model X.prog X.w) X.A (eval (.Name x pos) X.env) Q E s:=by
 obtain⟨_,e,g⟩:=I.mod.blt;exact Calls.Name_function_global I.ok.kind a (Calls.loadGlobal_builtin (by rw[I.ok.glob];exact I.mod.glob.keeps I.bk) b (by rw[I.ok.blt];exact e.keeps I.bk) ((g x d).trans c) h) hd
def Ju(a:Gl X x)(b:X.mg x=some u)(r:qM v u)(hd:(x==("__debug__":Str))=false:=by decide):JE X (.Name x pos) (tC v):=.of (by
 exact λ_ _ _ H _ I h=>VO I a b ⟨v,H,I,r,h⟩ hd)
def QJ(a:Gl X x)(b:X.mg x=none)(c:bootBuiltins x=some u)(r:qM v u)(d:x≠"__name__":=by decide)(hd:(x==("__debug__":Str))=false:=by decide):JE X (.Name x pos) (tC v):=.of (by
 exact λ_ _ _ H _ I h=>QS I a b c ⟨v,H,I,r,h⟩ d hd)
def PC(X:Cx)(op:CmpOp)(a b:Expr)(t:TE):Prop:=
 ∀(d:List (Addr×Obj)) (s:Shared) (c:St) (H:Hp) (Q:VK),qw X d c H s->t c H Q->
  wpAny (model X.prog X.w) X.A (eval a X.env) (λv e=>wpAny (model X.prog X.w) X.A (eval b X.env) (λu g=>wpAny (model X.prog X.w) X.A (compareOp op v u) (EP X d c Q) X.xe g) X.xe e) X.xe s
@[irreducible] def JC (X:Cx) (op:CmpOp) (a b:Expr) (t:TE):Prop:=PC X op a b t
def JC.of(h:PC X op a b t):JC X op a b t:=by unfold JC;exact h
def JC.to(h:JC X op a b t):PC X op a b t:=by unfold JC at h;exact h
inductive tB_(Q:Bool->Hp->Prop)(x:V)(H1:Hp):Prop
 | mk (c:_):x=.bl c->Q c H1->tB_ Q x H1
def tB(t:TE):TT:=λa H Q=>t a H λx a=>tB_ Q x a
def Jy(h:JC X op a b t)(e:behindInMarks op b=false:=by first | exact nobehind _ (by decide) (by decide) | rfl):JT X (.Compare a [op] [b] pos) (tB t):=.of (by
 have h:=h.to;intro g s i H Q I j;refine wpAny_isTrue_Compare1 (jg (h g s i H _ I j) λv _ e=>jg e λu _ g=>jg g λc _ ⟨x,g,i,j,l⟩=>?_) e;obtain⟨d,rfl,q⟩:=l;cases j;exact wpAny_truthy_bool ⟨g,i,q⟩)
def jn(h:JE X e t)(a:∀ft,isTrue e X.env ft=(do let v <-ft;standAt e.pos;holding [v] (truthy v)):=by intro _;rfl):JT X e (tB t):=.of (by
 have h:=h.to;intro b s c H Q I g;refine isTrue_plain (jg (h b s c H _ I g) λv _ ⟨x,b,c,g,i⟩=>?_) (a _);obtain⟨d,rfl,q⟩:=i;cases g;exact wpAny_truthy_bool ⟨b,c,q⟩)
def Dg(t u:TT):TT:=λa H Q=>t a H λc b=>if c=true then u a b Q else Q false b
def tOr(t u:TT):TT:=λa H Q=>t a H λc b=>if c=true then Q true b else u a b Q
def Fe(t:TT):TT:=λa H Q=>t a H λc a=>Q (!c) a
def Qc(b:JT X a d):JW X (.BoolOp .And [a] pos) d:=.of (by
 have b:=b.to;intro _ d s g H Q I h;refine isTrue_and (jg (b d s g H Q I h) λc _ e=>?_);cases c with
 | true=>exact isTrue_and_nil e
 | false=>exact e)
def QC(b:JT X a d):JW X (.BoolOp .Or [a] pos) d:=.of (by
 have b:=b.to;intro _ d s g H Q I h;refine isTrue_or (jg (b d s g H Q I h) λc _ e=>?_);cases c with
 | false=>exact isTrue_or_nil e
 | true=>exact e)
def Qs{X:Cx}{a:Expr}{b:Expr}{pos:Pos}{g:TT}{i:TT}{rest:List Expr}(d:JT X a g)(e:JW X (.BoolOp .And (b::rest) pos) i):JW X (.BoolOp .And (a::b::rest) pos) (Dg g i):=.of (by
 have d:=d.to;have e:=e.to;intro m g s i H Q I h;refine isTrue_and (jg (d g s i H _ I h) λc o ⟨d,j,l⟩=>?_);cases c with
 | true=>exact e m g o i d Q j l
 | false=>exact⟨d,j,l⟩)
def Ji{X:Cx}{a:Expr}{b:Expr}{pos:Pos}{g:TT}{i:TT}{rest:List Expr}(d:JT X a g)(e:JW X (.BoolOp .Or (b::rest) pos) i):JW X (.BoolOp .Or (a::b::rest) pos) (tOr g i):=.of (by
 have d:=d.to;have e:=e.to;intro m g s i H Q I h;refine isTrue_or (jg (d g s i H _ I h) λc o ⟨d,j,l⟩=>?_);cases c with
 | true=>exact⟨d,j,l⟩
 | false=>exact e m g o i d Q j l)
def j4(b:JT X a d):JT X (.UnaryOp .Not a pos) (Fe d):=.of (by
 have b:=b.to;intro d s e H Q I h;exact isTrue_not (jg (b d s e H (λc b=>Q (!c) b) I h) λc _ ⟨b,d,e⟩=>⟨b,d,e⟩))
inductive ur(tb:TE)(σ:St)(Q:VK)(x:V)(H1:Hp):Prop
 | mk (c:_):x=.bl c->(if c=true then tb σ H1 Q else Q (.bl false) H1)->ur tb σ Q x H1
def Df(b tb:TE):TE:=λa H Q=>b a H λx b=>ur tb a Q x b
inductive ui(Q:VK)(x:V)(H1:Hp):Prop
 | mk (c:_):x=.bl c->(Q (.bl (!c)) H1)->ui Q x H1
def C2(a:TE):TE:=λb H Q=>a b H λx a=>ui Q x a
def za{X:Cx}{a:Expr}{pos:Pos}{op}{t:TE}(h:JE X a t):JE X (.BoolOp op [a] pos) t:=.of (by
 have h:=h.to;exact λb s c H Q I d=>BoolOp_one (h b s c H Q I d))
def J5{X:Cx}{a:Expr}{b:Expr}{g:TE}{tb:TE}{pos:Pos}{rest:List Expr}(d:JE X a g)(e:JE X (.BoolOp .And (b::rest) pos) tb):JE X (.BoolOp .And (a::b::rest) pos) (Df g tb):=.of (by
 have d:=d.to;have e:=e.to;intro g s i H Q I h;refine BoolOp_and (jg (d g s i H _ I h) λv m ⟨x,j,l,o,d⟩=>?_);obtain⟨c,rfl,d⟩:=d;cases o;refine wpAny_truthy_bool ?_;cases c with
 | true=>exact e g m i j Q l d
 | false=>exact⟨.bl false,j,l,rfl,d⟩)
def Ch(b:JE X a d):JE X (.UnaryOp .Not a pos) (C2 d):=.of (by
 have b:=b.to;intro d s e H Q I h;refine UnaryOp_ (jg (b d s e H _ I h) λv _ ⟨x,d,e,g,b⟩=>?_);obtain⟨c,rfl,b⟩:=b;cases g;exact not_of (wpAny_truthy_bool ⟨.bl (!c),d,e,rfl,b⟩))
def tIf(t:TT)(d tb:TE):TE:=λa H Q=>t a H λc b=>if c=true then d a b Q else tb a b Q
def Gn(e:JT X c j)(g:JE X a l)(i:JE X b tb):JE X (.IfExp c a b pos) (tIf j l tb):=.of (by
 have e:=e.to;have g:=g.to;have i:=i.to;intro j s l H Q I h;refine wpAny_IfExp (jg (e j s l H _ I h) λd e ⟨m,o,p⟩=>?_);cases d with
 | true=>exact g j e l m Q o p
 | false=>exact i j e l m Q o p)
open PyProof.Rows hiding K lo
def SqL(K:zdU)(H:Hp)(a:Addr)(xs:List V):Prop:=
 Rd H a (.lst xs)\/
  ∃(b:Obj) (c:Array Value) (n:Nat),K.lookup a=some b/\b.cls=.type "list"/\b.dict=none/\b.data=.seq c n/\c.size<=zdZ/\qI xs c.toList
def SqT(K:zdU)(H:Hp)(a:Addr)(xs:List V):Prop:=
 Rd H a (.tup xs)\/
  ∃(b:Obj) (c:Array Value) (n:Nat),K.lookup a=some b/\b.cls=.type "tuple"/\b.data=.seq c n/\c.size<=zdZ/\qI xs c.toList
def Hr:Value->Option V
 | .none=>some .non
 | .bool b=>some (.bl b)
 | .int i _=>some (.int i)
 | .str x _=>some (.str x)
 | .bytes b _=>some (.byt b)
 | .float b _=>some (.flt b)
 | .ref a=>some (.ref a)
 | .type n=>some (.ty n)
 | _=>none
def qM.abs(r:qM x u):Hr u=some x:=by
 cases x with
 | non=>cases r;rfl
 | bl _=>cases r;rfl
 | int _=>obtain⟨t,rfl⟩:=r;rfl
 | str _=>obtain⟨t,rfl⟩:=r;rfl
 | byt _=>obtain⟨t,rfl⟩:=r;rfl
 | flt _=>obtain⟨t,rfl⟩:=r;rfl
 | ref _=>cases r;rfl
 | ty _=>cases r;rfl
def qM.inj(r:qM x u)(q:qM y u):x=y:=tz.inj (r.abs.symm.trans q.abs)
def qI.inj:∀{xs a:List V} {us:List Value},qI xs us->qI a us->xs=a
 | _,_,_,.nil,.nil=>rfl
 | _,_,_,.cons a t,.cons b c=>by rw[a.inj b,qI.inj t c]
def SqL.of{H:Hp}{a:Addr}{xs:List V}{K:zdU}(h:H a=some (.lst xs)):SqL K H a xs:=.inl (.inl h)
def SqT.of{H:Hp}{a:Addr}{xs:List V}{K:zdU}(h:H a=some (.tup xs)):SqT K H a xs:=.inl (.inl h)
def qw.list(I:qw X a_ c H s)(h:SqL X.K H a xs):∃b:List Value,qI xs b/\PlainL s.heap a b.toArray/\xs.length<=zdZ:=by
 rcases h with h | ⟨d,b,n,g,i,hd,j,l,c⟩
 ·obtain⟨z,b,n,c,e⟩:=h.ok I.hok;exact⟨b,c,⟨_,n,e,rfl,rfl,rfl⟩,z⟩
 ·refine⟨b.toList,c,⟨d,n,I.kIn a d g,i,hd,by simpa using j⟩,?_⟩;have e:=c.length;simp only[zap]at e;omega
def qw.tuple(I:qw X a_ c H s)(h:SqT X.K H a xs):∃b:List Value,qI xs b/\IsTup s.heap a b.toArray/\xs.length<=zdZ:=by
 rcases h with h | ⟨d,b,n,g,i,j,l,c⟩
 ·obtain⟨z,b,c,l⟩:=h.ok I.hok;exact⟨b,c,l,z⟩
 ·refine⟨b.toList,c,⟨d,I.kIn a d g,i,n,by simpa using j⟩,?_⟩;have e:=c.length;simp only[zap]at e;omega
def qw.list_inj(I:qw X a_ c H s)(h:SqL X.K H a xs)(h':SqL X.K H a b):xs=b:=by
 obtain⟨g,i,⟨_,n,e,_,_,d⟩,_⟩:=I.list h;obtain⟨j,l,⟨_,_,b,_,_,c⟩,_⟩:=I.list h';rw[e]at b;cases b;rw[d]at c;injection c with b _;have:g=j:=by simpa using congrArg Array.toList b
 subst this;exact i.inj l
def qw.tuple_inj(I:qw X a_ c H s)(h:SqT X.K H a xs)(h':SqT X.K H a b):xs=b:=by
 obtain⟨g,i,⟨_,e,_,n,d⟩,_⟩:=I.tuple h;obtain⟨j,l,⟨_,b,_,_,c⟩,_⟩:=I.tuple h';rw[e]at b;cases b;rw[d]at c;injection c with b _;have:g=j:=by simpa using congrArg Array.toList b
 subst this;exact i.inj l
abbrev Cx.wish(X:Cx)(E:Value->Shared->Prop):Cx:={X with xe:=E}
abbrev Cx.nox(X:Cx):Cx:=X.wish λ_ _=>False
def Cx.Ok.wish{X:Cx}(ok:X.Ok)(E:Value->Shared->Prop):(X.wish E).Ok:=
 ⟨ok.mod,ok.kind,ok.glob,ok.blt,ok.above,ok.inj,ok.has,ok.cab,ok.hd,ok.frames,ok.stk,ok.exf,ok.bs,ok.bsz,ok.noex,ok.exfs,ok.funs,ok.frf⟩
def Cx.Ok.unwish{X:Cx}(ok:(X.wish E).Ok):X.Ok:=
 ⟨ok.mod,ok.kind,ok.glob,ok.blt,ok.above,ok.inj,ok.has,ok.cab,ok.hd,ok.frames,ok.stk,ok.exf,ok.bs,ok.bsz,ok.noex,ok.exfs,ok.funs,ok.frf⟩
def qw.wish(I:qw X a_ a H s)(E:Value->Shared->Prop):qw (X.wish E) a_ a H s:=⟨I.ok.wish E,I.os,I.bare,I.base,I.loc,I.cell,I.free,I.freeC,I.pin,I.hok,I.len⟩
def qw.unwish{X:Cx}(I:qw (X.wish E) a_ a H s):qw X a_ a H s:=⟨I.ok.unwish,I.os,I.bare,I.base,I.loc,I.cell,I.free,I.freeC,I.pin,I.hok,I.len⟩
def SP.unwish{X:Cx}(h:SP (X.wish E) a_ D f c):SP X a_ D f c:=by
 cases f with
 | next=>obtain⟨a,b,I,q⟩:=h;exact⟨a,b,I.unwish,q⟩
 | brk=>obtain⟨a,b,I,q⟩:=h;exact⟨a,b,I.unwish,q⟩
 | cont=>obtain⟨a,b,I,q⟩:=h;exact⟨a,b,I.unwish,q⟩
 | ret u=>obtain⟨v,a,b,I,d,q⟩:=h;exact⟨v,a,b,I.unwish,d,q⟩
def AT.nox{X:Cx}{st:List Stmt}{t:TS}(h:AT X.nox st t):AT X st t:=λa s b H D I c=>
 wpAny_mono (h a s b H D (I.wish _) c) (λ_ _ q=>q.unwish) λ_ _ z=>False.elim z
def kW:TS:=λD a H=>D.nx a H
def RH(t u:TS):TS:=λD a H=>t {D with nx:=u D} a H
def qr:JSs X [] kW:=.of (by
 exact λ_ _ a H _ I h=>wpAny_execs_nil ⟨a,H,I,h⟩)
def qb{X:Cx}{st:Stmt}{rest:List Stmt}{t:TS}{u:TS}(a:JS X st t)(b:JSs X rest u):JSs X (st::rest) (RH t u):=.of (by
 have a:=a.to;have b:=b.to;intro c s d H D I h;refine wpAny_execs_cons (jg (a c s d H {D with nx:=u D} I h) λf e q=>?_);cases f with
 | next=>
  obtain⟨g,i,j,q⟩:=q;exact b c e g i D j q
 | ret v=>exact q
 | brk=>exact q
 | cont=>exact q)
def qd{X:Cx}{st:Stmt}{t:TS}(a:JS X st t):JSs X [st] t:=.of (by
 have a:=a.to;intro b s c H D I h;refine wpAny_execs_cons (jg (a b s c H D I h) λf d q=>?_);cases f with
 | next=>exact wpAny_execs_nil q
 | ret v=>exact q
 | brk=>exact q
 | cont=>exact q)
def Dd:TS:=λD a H=>D.ct a H
def vg:JS X (.Continue pos) Dd:=.of (by
 exact λ_ _ a H _ I h=>wpAny_Continue ⟨a,H,I,h⟩)
def qw.quiet(I:qw X a_ a H s):interactive X.env=false:=by simp [interactive,I.ok.kind]
def C9(te:TE):TS:=λD a H=>te a H λ_ b=>D.nx a b
def ji{pos:Pos}(a:JE X e te)(hs:swapsWith e none pos.line X.env=pure false:=by rfl):JS X (.Expr e pos) (C9 te):=.of (by
 have a:=a.to;intro c s b H D I h;exact wpAny_Expr_any (jg (a c s b H _ I h) λv _ ⟨x,a,c,_,d⟩=>⟨b,a,c,d⟩) I.quiet hs)
def Fd(te:TE):TS:=λD a H=>te a H D.rt
def qm(a:JE X e te):JS X (.Return (some e) pos) (Fd te):=.of (by
 have a:=a.to;intro c s b H D I h;exact wpAny_Return_some (jg (a c s b H _ I h) λv _ ⟨x,a,c,d,g⟩=>⟨x,b,a,c,d,g⟩))
def RJ(c:TT)(t u:TS):TS:=λD a H=>c a H λb d=>if b=true then t D a d else u D a d
def qF(e:JT X c j)(g:JSs X a t)(i:JSs X b u):JS X (.If c a b pos) (RJ j t u):=.of (by
 have e:=e.to;have g:=g.to;have i:=i.to;intro j s l H D I h;refine wpAny_If (jg (e j s l H _ I h) λd e ⟨m,o,p⟩=>?_);cases d with
 | true=>exact g j e l m D o p
 | false=>exact i j e l m D o p)
def AZ:TS:=λ_ _ _=>False
def qD:JSs X a AZ:=.of (by
 exact λ_ _ _ _ _ _ h=>h.elim)
abbrev TG:=V->St->Hp->(St->Hp->Prop)->Prop
abbrev AS:=List V->St->Hp->(St->Hp->Prop)->Prop
def PG(X:Cx)(b_:Expr)(t:TG):Prop:=
 ∀(a:List (Addr×Obj)) (s:Shared) (b:St) (H:Hp) (v:V) (u:Value) (Q:St->Hp->Prop),qw X a b H s->qM v u->t v b H Q->
  wpAny (model X.prog X.w) X.A (assign b_ X.env u) (λ_ d=>∃b c,qw X a b c d/\Q b c) X.xe s
@[irreducible] def JG (X:Cx) (b_:Expr) (t:TG):Prop:=PG X b_ t
def JG.of(h:PG X b_ t):JG X b_ t:=by unfold JG;exact h
def JG.to(h:JG X b_ t):PG X b_ t:=by unfold JG at h;exact h
def Hv(X:Cx)(e:List Expr)(t:AS):Prop:=
 ∀(a:List (Addr×Obj)) (s:Shared) (b:St) (H:Hp) (c:List V) (d:List Value) (Q:St->Hp->Prop),qw X a b H s->qI c d->t c b H Q->
  wpAny (model X.prog X.w) X.A (assignInOrder ((assignEach e X.env).map (·.2)) d) (λ_ d=>∃b c,qw X a b c d/\Q b c) X.xe s
@[irreducible] def RA (X:Cx) (a:List Expr) (t:AS):Prop:=Hv X a t
def RA.of(h:Hv X a t):RA X a t:=by unfold RA;exact h
def RA.to(h:RA X a t):Hv X a t:=by unfold RA at h;exact h
abbrev EI:=V->V->V->Hp->(Hp->Prop)->Prop
def CC(X:Cx)(t:EI):Prop:=
 ∀(a:List (Addr×Obj)) (s:Shared) (b:St) (H:Hp) (c i v:V) (d e u:Value) (Q:Hp->Prop),qw X a b H s->qM c d->qM i e->qM v u->t c i v H Q->
  wpAny (model X.prog X.w) X.A (setItem d e u) (λ_ d=>∃c,qw X a b c d/\Q c) X.xe s
abbrev E8:=V->V->Hp->VK->Prop
def PIp(X:Cx)(op:Operator)(t:E8):Prop:=
 ∀(a:List (Addr×Obj)) (s:Shared) (b:St) (H:Hp) (x y:V) (v u:Value) (Q:VK),qw X a b H s->qM x v->qM y u->t x y H Q->
  wpAny (model X.prog X.w) X.A (inplaceOp op v u) (EP X a b Q) X.xe s
def QW(i:Nat):TG:=λv a H Q=>Q (a.set i (some v)) H
def zK{X:Cx}(hN:X.N.Nodup)(a:X.N[i]?=some x)(b:Rx X.env.scope x)(c:X.fn x=true\/X.env.scope.names.lookup x=some .local:=by first | exact .inl rfl | exact .inr rfl | assumption):JG X (.Name x pos) (QW i):=.of (by
 intro _ s _ H v u Q I d h;exact wpAny_assign_Name (Xk I hN a b d (λ_ a=>⟨_,H,a,h⟩) c))
def qG{X:Cx}(i:Nat)(a:X.fn x=true\/X.env.scope.names.lookup x=some .local:=by first | exact .inl rfl | exact .inr rfl | assumption)(hN:X.N.Nodup:=by first | assumption | exact ndC)(b:X.N[i]?=some x:=by exact rfl)(c:Rx X.env.scope x:=by first | exact Or.inl rfl | exact Or.inr rfl):JG X (.Name x pos) (QW i):=zK hN b c a
def Mt:AS:=λa b H Q=>a=[]/\Q b H
inductive GX(t:TG)(u:AS)(vs:List V)(σ:St)(H:Hp)(Q:St->Hp->Prop):Prop
 | mk (v:_) (r:_):(vs=v::r)->(t v σ H λfC H'=>u r fC H' Q)->GX t u vs σ H Q
def XW(t:TG)(u:AS):AS:=λa b H Q=>GX t u a b H Q
def Jt:RA X [] Mt:=.of (by
 intro _ s a H _ _ Q I b h;obtain⟨e,h⟩:=h;subst e;cases b;exact assignInOrder_nil ⟨a,H,I,h⟩)
def jw(a:JG X e t)(b:RA X es u)(hs:(assignEach (e::es) X.env).map (·.2)=assign e X.env::(assignEach es X.env).map (·.2):=by rfl):RA X (e::es) (XW t u):=.of (by
 have a:=a.to;have b:=b.to;intro d s g H _ _ Q I c h;obtain⟨v,_,i,h⟩:=h;subst i;cases c with
 | cons c i=>
  rw[hs];refine assignInOrder_cons (jg (a d s g H _ _ _ I c h) λ_ a ⟨c,g,j,l⟩=>?_);exact b d a c g _ _ Q j i l)
inductive AN(K:zdU)(n:Nat)(t:AS)(v:V)(σ:St)(H:Hp)(Q:St->Hp->Prop):Prop
 | mk (a:_) (xs:_):v=.ref a->SqT K H a xs->xs.length=n->t xs σ H Q->AN K n t v σ H Q
def Ms(K:zdU)(n:Nat)(t:AS):TG:=λv a H Q=>AN K n t v a H Q
def Zn{X:Cx}(j:X.calm=true)(h:RA X es t)(l:(assignEach es X.env).length=n:=by rfl)(m:(assignEach es X.env).findIdx? (·.1)=none:=by rfl):JG X (.Tuple es k pos) (Ms X.K n t):=.of (by
 have h:=h.to;intro d s g H v u Q I i c;obtain⟨a,o,p,q,r,c⟩:=c;subst p;cases i;obtain⟨_,i,p,_⟩:=I.tuple q;refine assign_Tuple_tuple (I.ok.hd j) p (by simp [l,<-r,i.length]) m λj l=>?_;have m:qw X d g H {s with heap:=j}:=I.kept (t':=s.toks) λb p e=>l b p (tW (tK e)) e;exact h d _ g H o _ Q m (by simpa using i) c)
def Es(to b:TE)(t:EI):TG:=λv a H Q=>to a H λc d=>b a d λi b=>t c i v b λb=>Q a b
def Bz(e:PE X o to)(g:PE X i c)(hs:CC X t) (j:∀v,assign (.Subscript o i pos) X.env v=(do
  let a <-holding [v] (eval o X.env);let b <-holding [v,a] (eval i X.env)
  standAt pos
  holding [v,a,b] (setItem a b v)
  release [v,a,b] []):=by intro _;rfl):PG X (.Subscript o i pos) (Es to c t):=by
 intro d s c H v u Q I l h;rw[j];refine zdW (wpAny_holding (jg (e d s c H _ I h) λa e ⟨x,j,m,p,q⟩=>?_));refine zdW (wpAny_holding (jg (g d e c j _ m q) λb e ⟨y,g,j,m,q⟩=>?_));refine zdW (wpAny_standAt (zdW (wpAny_holding (jg (hs d e c g x y v a b u _ j p m l q) λ_ _ ⟨a,b,d⟩=>?_))));exact wpAny_release ⟨c,a,b,d⟩
def Gh(c:JE X o to)(d:JE X i e)(hs:CC X t) (g:∀v,assign (.Subscript o i pos) X.env v=(do
 let a <-holding [v] (eval o X.env);let b <-holding [v,a] (eval i X.env)
 standAt pos
 holding [v,a,b] (setItem a b v)
 release [v,a,b] []):=by intro _;rfl):JG X (.Subscript o i pos) (Es to e t):=.of (Bz c.to d.to hs g)
def xA(te:TE)(g:TG):TS:=λD a H=>te a H λx b=>g x a b D.nx
def kr{pos:Pos}(b:JE X e te)(c:JG X a g)(hs:swapsWithSole [a] e pos.line X.env=pure false:=by rfl)(i:swappedStores [a] e X.env=pure none:=by rfl)(j:(assignEach [a] X.env).map (·.2)=[assign a X.env]:=by rfl):JS X (.Assign [a] e pos) (xA te g):=.of (by
 have b:=b.to;have c:=c.to;intro a s d H D I h;refine wpAny_Assign_stores (jg (b a s d H _ I h) λv b ⟨x,l,m,o,p⟩=>?_) hs i;rw[j];exact jg (c a b d l x v _ m o p) λ_ _ q=>q)
def XR{X:Cx}{pos:Pos}(hN:X.N.Nodup)(b:X.N[i]?=some x)(c:Rx X.env.scope x)(a:JE X e te)(hs:swapsWith e (some (.Name x d)) pos.line X.env=pure false:=by rfl)(g:X.fn x=true\/X.env.scope.names.lookup x=some .local:=by first | exact .inl rfl | exact .inr rfl | assumption):JS X (.Assign [.Name x d] e pos) (xA te (QW i)):=.of (by
 have a:=a.to;intro d s j H D I h;refine wpAny_Assign_Name (jg (a d s j H _ I h) λv _ ⟨y,a,d,j,l⟩=>?_) hs;exact Xk d hN b c j (λ_ b=>⟨_,a,b,l⟩) g)
def ZY{pos:Pos}(i:Nat)(a:JE X e te)(hs:swapsWith e (some (.Name x b)) pos.line X.env=pure false:=by rfl)(c:X.fn x=true\/X.env.scope.names.lookup x=some .local:=by first | exact .inl rfl | exact .inr rfl | assumption)(hN:X.N.Nodup:=by first | assumption | exact ndC)(d:X.N[i]?=some x:=by exact rfl)(g:Rx X.env.scope x:=by exact Or.inr rfl):JS X (.Assign [.Name x b] e pos) (xA te (QW i)):=XR hN d g a hs c
def qx{pos:Pos}(i:Nat)(a:JE X e te)(b:X.N[i]?=some x:=by exact rfl)(c:Rx X.env.scope x:=by exact Or.inl rfl)(hs:swapsWith e (some (.Name x d)) pos.line X.env=pure false:=by rfl)(g:X.fn x=true\/X.env.scope.names.lookup x=some .local:=by first | exact .inl rfl | exact .inr rfl | assumption)(hN:X.N.Nodup:=by first | assumption | exact ndC):JS X (.Assign [.Name x d] e pos) (xA te (QW i)):=XR hN b c a hs g
inductive M3(i:Nat)(te:TE)(ti:E8)(D:JD)(σ:St)(H:Hp):Prop
 | mk (x:_):σ[i]?=some (some x)->(te σ H λy H1=>ti x y H1 λz H2=>D.nx (σ.set i (some z)) H2)->M3 i te ti D σ H
def Fo(i:Nat)(te:TE)(a:E8):TS:=λD b H=>M3 i te a D b H
def kq{X:Cx}(hN:X.N.Nodup)(l:X.N[i]?=some x)(b:Rx X.env.scope x)(d:JE X e te)(p:PIp X op q)(r:X.fn x=true\/X.env.scope.names.lookup x=some .local:=by first | exact .inl rfl | exact .inr rfl | assumption):JS X (.AugAssign (.Name x ab) op e pos) (Fo i te q):=.of (by
 have d:=d.to;intro g s o H D I h;obtain⟨v,B,h⟩:=h;obtain⟨m,C,J⟩:=I.loc;have L:Cz X.env.scope x:=by rcases b with k | k;exact .inl k;exact .inr (.inl k)
 obtain⟨u,j,O⟩:=J i x v l B L;refine wpAny_AugAssign_Name ?_;have go:wpAny (model X.prog X.w) X.A (eval e X.env) (λw Q=>wpAny (model X.prog X.w) X.A (inplaceOp op u w) (λj T=>wpAny (model X.prog X.w) X.A (storeName X.env x j) (λ_=>SP X g D .next) X.xe T) X.xe Q) X.xe s:=by
  refine jg (d g s o H _ I h) λw U ⟨y,Y,I1,r1,q1⟩=>?_;refine jg (p g U o Y v y u w _ I1 j r1 q1) λz s2 ⟨zv,H2,I2,r2,q2⟩=>?_;exact Xk I2 hN l b r2 (λs3 I3=>⟨_,H2,I3,q2⟩) r
 rcases O with ⟨a,hm⟩ | ⟨a,c,hc,aa⟩
 ·exact wpAny_loadName_local I.ok.kind a C hm go
 ·rcases a with a | a
  ·exact wpAny_loadName_cell I.ok.kind a hc aa go
  ·rcases b with k | k
   ·have:X.env.scope.names.lookup x=some .free:=a;rw[k]at this;cases this
   ·have:X.env.scope.names.lookup x=some .free:=a;rw[k]at this;cases this)
def ipI(f:Int->Int->Int):E8:=λx y H Q=>∃i a,x=.int i/\y=.int a/\Q (.int (f i a)) H
def kt:PIp X .Add (ipI λi j=>i+j):=by
 intro _ s _ H x y v u Q I a b h;obtain⟨i,j,c,d,q⟩:=h;subst c;subst d;obtain⟨t,rfl⟩:=a;obtain⟨_,rfl⟩:=b;exact iadd_int ⟨.int _,H,I.tok _,⟨_,rfl⟩,q⟩
inductive kU(c:TT)(tb:TS)(D:JD)(σ:St)(H:Hp):Prop
 | mk (W:Nat->St->Hp->Prop):((∃m,W m σ H))->(∀m σ H,W m σ H->c σ H λb H1=>if b=true then ∃N:St->Hp->Prop,(∀fC H',N fC H'->∃m',m' < m/\W m' fC H')/\tb {D with nx:=N,ct:=N,bk:=D.nx} σ H1 else D.nx σ H1)->kU c tb D σ H
def uf(c:TT)(tb:TS):TS:=λD a H=>kU c tb D a H
def Zm{X:Cx}(x:PassesOwn (model X.prog X.w) X.A X.env X.xe)(j:JT X c O)(l:JSs X ff tb):JS X (.While c ff [] pos) (uf O tb):=.of (by
 have j:=j.to;have l:=l.to;intro m s Q H D I h;obtain⟨W,⟨T,U⟩,Y⟩:=h;refine wpAny_While (codeAny_whileLoop (λn s'=>∃y z,qw X m y z s'/\W n y z) ?_ T ⟨Q,H,I,U⟩);rintro n s1 ⟨e,B,I1,w1⟩;refine wpAny_passesOwn x (jg (j m s1 e B _ I1 (Y n e B w1)) λb s2 ⟨C,J,g⟩=>?_);cases b with
 | true=>
  obtain⟨N,L,g⟩:=g;rw[if_pos rfl];refine wpAny_passesOwn x (jg (l m s2 e C _ J g) λf s3 i=>?_);cases f with
  | next=>
   obtain⟨a,d,o,p⟩:=i;obtain⟨q,r,u⟩:=L a d p;exact⟨q,r,a,d,o,u⟩
  | cont=>
   obtain⟨a,d,o,p⟩:=i;obtain⟨q,r,u⟩:=L a d p;exact⟨q,r,a,d,o,u⟩
  | brk=>exact i
  | ret v=>exact i
 | false=>
  rw[if_neg tH];exact wpAny_execs_nil ⟨e,C,J,g⟩)
structure It where
 go:Nat->Hp->Prop
 yld:Nat->Hp->V->Hp->Prop
 stop:Nat->Hp->Prop
def JP(X:Cx)(a_:List (Addr×Obj))(H:Hp)(b:Addr):Prop:=
 H b=none/\b≠X.env.locals/\b∉X.fs/\(b∈X.ex\/X.s₀.heap.objs.size<=b)/\(∀x c,X.env.cells.lookup x=some c->c≠b)/\∀a∈X.pn++a_,a.1≠b
def qw.fpOk{d:Hp}(I:qw X a_ i H s)(a:s.heap.objs.size<=b)(g:d b=none):JP X a_ d b:=by
 refine⟨g,zbv (tN I.lt a),I.nofs a,.inr (tS I.sz a),λx c e z=>?_,λd g z=>?_⟩
 ·obtain⟨v,q⟩:=I.cell x c e;exact absurd (tN q.lt (by rw[z];exact a)) (zal _)
 ·exact absurd (tN (tK (I.pin d g).1) (by rw[z];exact a)) (zal _)
structure vx(P:Program)(w:World)(K:zdU)(tg:Expr)(J:It)(fp:List Addr)(it:Addr)(tn:Nat->Heap->Prop):Prop where
 mem:it∈fp
 obj:∀i h,tn i h->∀b∈fp,∃o,h.get? b=some o/\∀v,o.data≠.cell v
 keep:∀i h h',tn i h->(∀b∈fp,∀o,h.get? b=some o->h'.get? b=some o)->tn i h'
 item:∀(X:Cx),X.prog=P->X.w=w->X.K=K->X.calm=true->∀(i:Nat) (a_:List (Addr×Obj)) (s:Shared) (σ:St) (H:Hp) (E:Value->Shared->Prop),qw X a_ σ H s->(∀b∈fp,JP X a_ H b)->tn i s.heap->J.go i H->
  wpAny (model P w) X.A (pyNext (.ref it)) (λr s1=>∃u,r=some u/\
   wpAny (model P w) X.A (letOwnedTupleGo tg (.ref it) u) (λ_ s2=>∃x H',qw X a_ σ H' s2/\qM x u/\J.yld i H x H'/\tn (i+1) s2.heap/\∀b∈fp,H' b=none) E s1) E s
 done:∀(X:Cx),X.prog=P->X.w=w->X.K=K->X.calm=true->∀(i:Nat) (a_:List (Addr×Obj)) (s:Shared) (σ:St) (H:Hp) (E:Value->Shared->Prop),qw X a_ σ H s->(∀b∈fp,JP X a_ H b)->tn i s.heap->J.stop i H->
  wpAny (model P w) X.A (pyNext (.ref it)) (λr s1=>r=none/\qw X a_ σ H s1) E s
 self:∀(A:Around) (i:Nat) (s:Shared) (Q:Value->Shared->Prop) (E:Value->Shared->Prop),tn i s.heap->Q (.ref it) s->wpAny (model P w) A (pyIter (.ref it)) Q E s
abbrev TI:=St->Hp->(It->Hp->Prop)->Prop
inductive Hu(X:Cx)(a_:List (Addr×Obj))(σ:St)(tg:Expr)(R:It->Hp->Prop)(gQ:Value)(s2:Shared):Prop
 | mk (it:Addr) (fp:List Addr) (tn:Nat->Heap->Prop) (J:It) (H':Hp):gQ=.ref it->qw X a_ σ H' s2->vx X.prog X.w X.K tg J fp it tn->tn 0 s2.heap->((∀b∈fp,JP X a_ H' b))->R J H'->Hu X a_ σ tg R gQ s2
def PI(X:Cx)(c iter:Expr)(d:TI):Prop:=
 ∀(b:List (Addr×Obj)) (s:Shared) (a:St) (H:Hp) (R:It->Hp->Prop),qw X b a H s->d a H R->
  wpAny (model X.prog X.w) X.A (eval iter X.env) (λv d=>wpAny (model X.prog X.w) X.A (pyIter v) (Hu X b a c R) X.xe d) X.xe s
@[irreducible] def JI (X:Cx) (a iter:Expr) (b:TI):Prop:=PI X a iter b
def JI.of(h:PI X a iter b):JI X a iter b:=by unfold JI;exact h
def JI.to(h:JI X a iter b):PI X a iter b:=by unfold JI at h;exact h
def vi{s:Shared}{Q:Unit->Shared->Prop}(b:s.heap.get? it=some o)(c:o.cls=.type n)(hd:o.data=.fields vs)(d:["enumerate","zip","dict_itemiterator","dict_reverseitemiterator","odict_iterator","itertools.zip_longest","itertools.pairwise"].contains n=false)(a:Q () s):wpAny M A (letOwnedTupleGo e (.ref it) u) Q E s:=by
 unfold letOwnedTupleGo;cases e<;>first
   | exact zdX a
   | (cases u<;>first
       | exact zdX a
       | (refine zdW (wpAny_load b ?_)
          rw[c,hd];show wpAny M A (if (["enumerate","zip","dict_itemiterator","dict_reverseitemiterator","odict_iterator","itertools.zip_longest","itertools.pairwise"].contains n&&vs[0]?==some (rawInt _))=true then _ else _) Q E s;rw[if_neg (by intro h;rw[d,zcc]at h;cases h)];exact zdX a))
def AV(K:zdU)(a:Addr):It:=
 ⟨λi H=>∃b x,SqL K H a b/\b[i]?=some x,λi H x c=>c=H/\∀b,SqL K H a b->b[i]?=some x,λi H=>∃b,SqL K H a b/\b.length<=i⟩
def CW(K:zdU)(a:Addr):It:=
 ⟨λi H=>∃b x,SqT K H a b/\b[i]?=some x,λi H x c=>c=H/\∀b,SqT K H a b->b[i]?=some x,λi H=>∃b,SqT K H a b/\b.length<=i⟩
def AU(lo:Int)(n:Nat):It:=⟨λi _=>i < n,λi H x a=>a=H/\x=.int (lo+i),λi _=>n<=i⟩
def xv{P:Program}{w:World}{K:zdU}{g:Expr}(a it:Addr):vx P w K g (AV K a) [it] it (λi h=>h.IsListIter it a i) where
 mem:=by simp
 obj:=λi h st b g=>by
  have e:b=it:=by simpa using g
  subst e;obtain⟨j,e,c,d⟩:=st;exact⟨j,e,λv z=>by rw[d]at z;cases z⟩
 keep:=λi h l st k=>st.at λj e=>k it (by simp) j e
 item:=by
  intro X p q r T i U s Y H E I m st y;subst p q r;obtain⟨xs,x,o,B⟩:=y;obtain⟨ab,C,D,hz⟩:=I.list o;obtain⟨u,hu,ru⟩:=C.get B;obtain⟨J,f1,f2,L,O,Q⟩:=m it (by simp);refine wpAny_pyNext_list_item st D.isList (x:=u) (by simpa using hu) λl aa sb=>?_;have I1:qw X U Y H {s with heap:=l}:=I.turned (t':=s.toks) (λb j g e=>(sb.2 b g).trans e) J f1 L O Q;obtain⟨j,e,c,d⟩:=id aa;exact⟨u,rfl,vi (s:={s with heap:=l}) e c d (by decide) ⟨x,H,I1,ru,⟨rfl,λ_ hy=>by rw[I.list_inj hy o];exact B⟩,aa,λb g=>(m b g).1⟩⟩
 done:=by
  intro X p q r T i U s Y H E I m st y;subst p q r;obtain⟨xs,o,B⟩:=y;obtain⟨ab,C,D,hz⟩:=I.list o;obtain⟨J,f1,f2,L,O,Q⟩:=m it (by simp);have m:=C.length;exact wpAny_pyNext_list_end (I.ok.hd T) st D.isList (by simp;omega) λl l=>⟨rfl,I.turned (t':=s.toks) (λb j g e=>l b j g e) J f1 L O Q⟩
 self:=λ_ _ _ _ _ st h=>wpAny_pyIter_listiter st h
def vF{P:Program}{w:World}{K:zdU}{g:Expr}(a it:Addr):vx P w K g (CW K a) [it] it (λi h=>h.IsTupleIter it a i) where
 mem:=by simp
 obj:=λi h st b g=>by
  have e:b=it:=by simpa using g
  subst e;obtain⟨j,e,c,d⟩:=st;exact⟨j,e,λv z=>by rw[d]at z;cases z⟩
 keep:=λi h l st k=>st.at λj e=>k it (by simp) j e
 item:=by
  intro X p q r U i Y s σ H E I m st y;subst p q r;obtain⟨xs,x,o,B⟩:=y;obtain⟨C,D,J,hz⟩:=I.tuple o;obtain⟨u,hu,ru⟩:=D.get B;obtain⟨L,f1,f2,O,Q,T⟩:=m it (by simp);refine wpAny_pyNext_tuple_item st (show s.heap.IsTuple a C.toArray from J) (x:=u) (by simpa using hu) λl aa sb=>?_;have I1:qw X Y σ H {s with heap:=l}:=I.turned (t':=s.toks) (λb j g e=>(sb.2 b g).trans e) L f1 O Q T;obtain⟨j,e,c,d⟩:=id aa;exact⟨u,rfl,vi (s:={s with heap:=l}) e c d (by decide) ⟨x,H,I1,ru,⟨rfl,λ_ hy=>by rw[I.tuple_inj hy o];exact B⟩,aa,λb g=>(m b g).1⟩⟩
 done:=by
  intro X p q r U i Y s σ H E I m st y;subst p q r;obtain⟨xs,o,B⟩:=y;obtain⟨C,D,J,hz⟩:=I.tuple o;obtain⟨L,f1,f2,O,Q,T⟩:=m it (by simp);have m:=D.length;exact wpAny_pyNext_tuple_end (I.ok.hd U) st (show s.heap.IsTuple a C.toArray from J) (by simp;omega) λl l=>⟨rfl,I.turned (t':=s.toks) (λb j g e=>l b j g e) L f1 O Q T⟩
 self:=λ_ _ _ _ _ st h=>wpAny_pyIter_tupleiter st h
def vG{P:Program}{w:World}{K:zdU}{a:Expr}(it:Addr)(lo:Int)(n:Nat):vx P w K a (AU lo n) [it] it (λi h=>IsRangeIter h it (lo+(i:Nat)*1) ((n:Int) - (i:Nat)) 1) where
 mem:=by simp
 obj:=λi h st b a=>by
  have e:b=it:=by simpa using a
  subst e;exact⟨_,st,λv z=>by
   have c:Data.fields _=Data.cell v:=z;cases c⟩
 keep:=λi h c st k=>k it (by simp) _ st
 item:=by
  intro X g j l m i y s B H E I d st o;subst g j l;obtain⟨p,f1,f2,q,r,u⟩:=d it (by simp);have W:=Walks.range (prog:=X.prog) (w:=X.w) (I.ok.hd m) it lo 1 n;refine W.item i s _ _ o st λv c tk x C D=>?_;obtain⟨t,rfl⟩:=x;have J:qw X y B H {s with heap:=c,toks:=tk}:=I.turned (λb x a e=>D b x (by simpa using a) e) p f1 q r u;refine⟨_,rfl,vi (s:={s with heap:=c,toks:=tk}) (n:="range_iterator") C rfl rfl (by decide) ⟨.int (lo+i),H,J,⟨t,?_⟩,⟨rfl,rfl⟩,C,λb a=>(d b a).1⟩⟩;rw[Int.mul_one]
 done:=by
  intro X g j l m i y s B H E I d st o;subst g j l;obtain⟨p,f1,f2,q,r,u⟩:=d it (by simp);exact wpAny_pyNext_range_end (I.ok.hd m) st (by have:n<=i:=o;omega) λc c=>⟨rfl,I.turned (t':=s.toks) (λb x a e=>c b x a e) p f1 q r u⟩
 self:=λ_ _ _ _ _ st h=>wpAny_pyIter_rangeiter st h
open PyProof.Rows hiding K lo
inductive GG(K:zdU)(R:It->Hp->Prop)(x:V)(H1:Hp):Prop
 | mk (a:_):x=.ref a->((∃xs,SqL K H1 a xs))->(R (AV K a) H1)->GG K R x H1
def Ep(K:zdU)(a:TE):TI:=λb H R=>a b H λx a=>GG K R x a
inductive AK(K:zdU)(R:It->Hp->Prop)(x:V)(H1:Hp):Prop
 | mk (a:_):x=.ref a->((∃xs,SqT K H1 a xs))->(R (CW K a) H1)->AK K R x H1
def Hl(K:zdU)(a:TE):TI:=λb H R=>a b H λx a=>AK K R x a
def qC(c:JE X l d):JI X g l (Ep X.K d):=.of (by
 have c:=c.to;intro d s g H R I h;refine jg (c d s g H _ I h) λv c ⟨x,g,d,i,j⟩=>?_;obtain⟨a,e,⟨_,m⟩,q⟩:=j;subst e;cases i;obtain⟨_,_,i,_⟩:=d.list m;refine wpAny_pyIter_list i.isList ?_;refine⟨c.heap.objs.size,[c.heap.objs.size],_,_,g,rfl,d.kept (t':=c.toks) λb _ e=>tj _ e,xv a _,⟨_,tR _ rfl,rfl,rfl⟩,λb g=>?_,q⟩;have e:b=c.heap.objs.size:=by simpa using g
 subst e;exact d.fpOk (tc _) (d.hok.fresh (tc _)))
def Gg(c:JE X l d):JI X g l (Hl X.K d):=.of (by
 have c:=c.to;intro d s g H R I h;refine jg (c d s g H _ I h) λv c ⟨x,g,d,i,j⟩=>?_;obtain⟨a,e,⟨_,m⟩,q⟩:=j;subst e;cases i;obtain⟨i,_,j,_⟩:=d.tuple m;refine wpAny_pyIter_tuple (show c.heap.IsTuple a i.toArray from j) ?_;refine⟨c.heap.objs.size,[c.heap.objs.size],_,_,g,rfl,d.kept (t':=c.toks) λb _ e=>tj _ e,vF a _,⟨_,tR _ rfl,rfl,rfl⟩,λb g=>?_,q⟩;have e:b=c.heap.objs.size:=by simpa using g
 subst e;exact d.fpOk (tc _) (d.hok.fresh (tc _)))
def UY{X:Cx}{d:Expr}{a_:List (Addr×Obj)}{c:St}{H:Hp}{s:Shared}{R:It->Hp->Prop}{E:Value->Shared->Prop}{lo a:Int}{t u v:Tok}{tk:Nat}(I:qw X a_ c H s)(g:-(2^62)<=lo)(i:lo < 2^62)(j:-(2^62)<=a)(l:a < 2^62)
  (q:R (AU lo (a - lo).toNat) H):wpAny (model X.prog X.w) X.A (pyIter (.ref s.heap.objs.size)) (Hu X a_ c d R) E {s with heap:=s.heap.push {cls:=.type "range",data:=.fields #[.int lo t,.int a u,.int 1 v]},toks:=tk}:=by
 refine wpAny_pyIter_range (IsRange.new ..) (small_one g i j l) ?_;have d:qw X a_ c H {s with heap:=s.heap.push {cls:=.type "range",data:=.fields #[.int lo t,.int a u,.int 1 v]},toks:=tk}:=I.kept λb g e=>tj _ e;refine⟨(s.heap.push {cls:=.type "range",data:=.fields #[.int lo t,.int a u,.int 1 v]}).objs.size,[(s.heap.push {cls:=.type "range",data:=.fields #[.int lo t,.int a u,.int 1 v]}).objs.size],_,_,H,rfl,
  d.kept (t':=tk) λb g e=>tj _ e,vG _ lo (a - lo).toNat,?_,λb c=>?_,q⟩
 ·have g:lo+((0:Nat):Int)*1=lo:=by simp
  have i:(((a - lo).toNat:Nat):Int) - ((0:Nat):Int)=Builtin.Range.rangeSize lo a 1:=by rw[rangeSize_one];split<;>omega
  show IsRangeIter _ _ (lo+((0:Nat):Int)*1) ((((a - lo).toNat:Nat):Int) - ((0:Nat):Int)) 1;rw[g,i];exact tR _ rfl
 ·have e:b=(s.heap.push {cls:=.type "range",data:=.fields #[.int lo t,.int a u,.int 1 v]}).objs.size:=by simpa using c
  subst e;exact d.fpOk (tc _) (d.hok.fresh (tc _))
inductive GF(R:It->Hp->Prop)(vs:List V)(H1:Hp):Prop
 | mk (j:Int):vs=[.int j]->(-(2^62)<=j)->(j < 2^62)->(R (AU 0 j.toNat) H1)->GF R vs H1
def Eo(a:TA):TI:=λb H R=>a b H λa b=>GF R a b
inductive GD(R:It->Hp->Prop)(vs:List V)(H1:Hp):Prop
 | mk (i j:Int):vs=[.int i,.int j]->((-(2^62)<=i/\i < 2^62/\-(2^62)<=j/\j < 2^62))->(R (AU i (j - i).toNat) H1)->GD R vs H1
def Em(a:TA):TI:=λb H R=>a b H λa b=>GD R a b
def QD{X:Cx}{d:Expr}{a:Expr}{c:TA}{p pos:Pos}(g:Gl X "range")(i:X.mg "range"=none)(b:JA X [a] c)(hs:starEach [a] X.env=[(false,eval a X.env)]:=by rfl):JI X d (.Call (.Name "range" p) [a] [] pos) (Eo c):=.of (by
 have b:=b.to;intro c s d H R I h;refine Call_ (QS I g i boot_range (PyProof.Rows.callWith_type1 (jg (b pos c s d H _ I h) λ_ _ ⟨_,_,c,d,b⟩=>?_) hs rfl));obtain⟨_,e,b,g,q⟩:=b;subst e;cases d with
 | cons d i=>
  cases i;obtain⟨t,rfl⟩:=d;exact call_range_1 (UY c (by omega) (by omega) b g (by simpa using q)))
def wx(g:Gl X "range")(j:X.mg "range"=none)(c:JA X [a,b] l)(hs:starEach [a,b] X.env=[(false,eval a X.env),(false,eval b X.env)]:=by rfl)(d:starEach [b] X.env=[(false,eval b X.env)]:=by rfl):JI X m (.Call (.Name "range" p) [a,b] [] pos) (Em l):=.of (by
 have c:=c.to;intro l s m H R I h;refine Call_ (QS I g j boot_range (PyProof.Rows.callWith_type1 (jg (c pos l s m H _ I h) λ_ _ ⟨_,_,g,j,c⟩=>?_) (by rw[hs,d]) (by rw[d];rfl)));obtain⟨i,_,e,⟨c,l,m,o⟩,q⟩:=c;subst e;cases j with
 | cons j d=>
  cases d with
  | cons r d=>
   cases d;obtain⟨t,rfl⟩:=j;obtain⟨_,rfl⟩:=r;exact call_range_2 (UY g c l m o q))
def Fj(b:TI)(g:TG)(tb:TS):TS:=λD a H=>b a H λc b=>∃W:Nat->Nat->St->Hp->Prop,(∃m,W 0 m a b)/\∀i m a H,W i m a H->
 (c.stop i H/\D.nx a H)\/(c.go i H/\∃N:St->Hp->Prop,(∀d b,N d b->∃e,e < m/\W (i+1) e d b)/\∀x b,c.yld i H x b->g x a b λa b=>tb {D with nx:=N,ct:=N,bk:=D.nx} a b)
def XA(fp:List Addr)(h:Heap):List (Addr×Obj):=fp.filterMap λb=>(h.get? b).map λa=>(b,a)
def J1{h:Heap}(a:b∈fp)(e:h.get? b=some o):(b,o)∈XA fp h:=zas.mpr ⟨b,a,by rw[e];rfl⟩
def wg(a:p∈XA fp h):p.1∈fp/\h.get? p.1=some p.2:=by
 obtain⟨b,c,e⟩:=zas.mp a;cases q:h.get? b with
 | none=>rw[q]at e;cases e
 | some a=>
  rw[q]at e;have d:(b,a)=p:=tz.inj e;subst d;exact⟨c,q⟩
def qw.pinned{fp:List Addr}(I:qw X a_ a H s)(g:∀b∈fp,JP X a_ H b)(i:∀b∈fp,∃o,s.heap.get? b=some o/\∀v,o.data≠.cell v):qw X (a_++XA fp s.heap) a H s:=
 I.pins_of λa c=>(tT.mp c).elim (λz=>I.pin a (tv _ z)) λz=>by
  obtain⟨c,e⟩:=wg z;obtain⟨j,f1,f2,_⟩:=g a.1 c;obtain⟨o,g,d⟩:=i a.1 c;rw[e]at g;cases g;exact⟨e,j,f1,f2,d⟩
def qw.unpinned(I:qw X (a_++pl) a H s):qw X a_ a H s:=I.pins_of λa b=>I.pin a (tv _ (tY _ b))
def jc(J:JI X Y iter wi)(L:JG X Y g)(a:JSs X ff tb)(hs:∀x,foldedSetIterable iter X.env x=pure x:=by intro _;rfl)(r:PassesOwn (model X.prog X.w) X.A X.env X.xe:=by exact PassesOwn.never)(hc:X.calm=true:=by exact rfl):JS X (.For Y iter ff [] pos) (Fj wi g tb):=.of (by
 have J:=J.to;have L:=L.to;have a:=a.to;intro q s σ H D I h;refine wpAny_For (jg (J q s σ H _ I h) λv s1 h1=>jg h1 λaj s2 h2=>?_) hs;obtain⟨it,fp,tn,ak,H2,e,I2,y,ac,f2,W,⟨m0,w0⟩,ae⟩:=h2;subst e;have O:∀{o:Hp},(∀b∈fp,o b=none)->∀b∈fp,JP X q o b:=λhn b a=>⟨hn b a,(f2 b a).2⟩;refine codeAny_forLoop_any (λn s'=>∃i z o,qw X q z o s'/\tn i s'.heap/\(∀b∈fp,o b=none)/\W i n z o) ?_ m0 ⟨0,σ,H2,I2,ac,λb a=>(f2 b a).1,w0⟩;rintro n s3 ⟨i,B,C,I3,aa,ab,w3⟩;rcases ae i n B C w3 with ⟨stop,qn⟩ | ⟨go,N,hN,step⟩
 ·refine wpAny_passesOwn r (jg (y.done X rfl rfl rfl hc i q s3 B C X.xe I3 (O ab) aa stop) λaf s4 ⟨hr,I4⟩=>?_);subst hr;exact wpAny_execs_nil ⟨B,C,I4,qn⟩
 ·refine wpAny_passesOwn r (jg (y.item X rfl rfl rfl hc i q s3 B C X.xe I3 (O ab) aa go) λaf s4 ⟨u,hr,h4⟩=>?_);subst hr;refine wpAny_passesOwn r (jg h4 λ_ s5 ⟨x,H5,I5,r5,y5,Q,ag⟩=>?_);have ah:=I5.pinned (O ag) (y.obj _ _ Q);refine wpAny_passesOwn r (jg (L _ s5 B H5 x u _ ah r5 (step x H5 y5)) λ_ s6 ⟨ai,H6,I6,q6⟩=>?_);refine wpAny_passesOwn r (jg (a _ s6 ai H6 _ I6 q6) λf T p=>?_);have again:∀{c:St} {j:Hp},qw X (q++XA fp s5.heap) c j T->N c j->∃m,m < n/\∃i z o,qw X q z o T/\tn i T.heap/\(∀b∈fp,o b=none)/\W i m z o:=λ{c j} l n7=>by
   obtain⟨m',hm,w7⟩:=hN c j n7;refine⟨m',hm,i+1,c,j,l.unpinned,y.keep _ _ _ Q λb a U e=>(l.pin (b,U) (tv _ (tv _ (J1 a e)))).1,λb a=>?_,w7⟩;obtain⟨U,e,d⟩:=y.obj _ _ Q b a;exact(l.pin (b,U) (tv _ (tv _ (J1 a e)))).2.1
  cases f with
  | next=>obtain⟨c,j,l,n7⟩:=p;exact again l n7
  | cont=>obtain⟨c,j,l,n7⟩:=p;exact again l n7
  | brk=>obtain⟨c,j,l,p⟩:=p;exact⟨c,j,l.unpinned,p⟩
  | ret v=>obtain⟨x7,c,j,l,r7,p⟩:=p;exact⟨x7,c,j,l.unpinned,r7,p⟩)
def jm{K:zdU}{a:Addr}{xs:List V}{g:TG}{tb:TS}{D:JD}{b:St}{H:Hp}(Pv:Nat->St->Hp->Prop)(p:Pv 0 b H)(r:∀i b H,i<=xs.length->Pv i b H->SqL K H a xs)
  (hs:∀i x b H,xs[i]?=some x->Pv i b H->g x b H λd j=>tb {D with nx:=Pv (i+1),ct:=Pv (i+1),bk:=D.nx} d j) (hd:∀b H,Pv xs.length b H->D.nx b H):
  ∃W:Nat->Nat->St->Hp->Prop,(∃m,W 0 m b H)/\∀i m b H,W i m b H->
   ((AV K a).stop i H/\D.nx b H)\/((AV K a).go i H/\∃N:St->Hp->Prop,(∀l c,N l c->∃o,o < m/\W (i+1) o l c)/\∀x c,(AV K a).yld i H x c->g x b c λd j=>tb {D with nx:=N,ct:=N,bk:=D.nx} d j):=by
 refine⟨λi m b H=>m=xs.length - i/\i<=xs.length/\Pv i b H,⟨xs.length,by simp,zac _,p⟩,?_⟩;rintro i m b H ⟨rfl,j,d⟩;have q:=r i b H j d;by_cases j:i < xs.length
 ·refine .inr ⟨⟨xs,xs[i],q,by simp [j]⟩,Pv (i+1),λl c l=>⟨xs.length - (i+1),by omega,rfl,j,l⟩,λx c y=>?_⟩;obtain⟨e,y⟩:=y;subst e;exact hs i x b _ (y xs q) d
 ·have e:i=xs.length:=by omega
  subst e;exact .inl ⟨⟨xs,q,tc _⟩,hd b H d⟩
def Mu{K:zdU}{a:Addr}{xs:List V}{g:TG}{tb:TS}{D:JD}{b:St}{H:Hp}(Pv:Nat->St->Hp->Prop)(p:Pv 0 b H)(r:∀i b H,i<=xs.length->Pv i b H->SqT K H a xs)
  (hs:∀i x b H,xs[i]?=some x->Pv i b H->g x b H λd j=>tb {D with nx:=Pv (i+1),ct:=Pv (i+1),bk:=D.nx} d j) (hd:∀b H,Pv xs.length b H->D.nx b H):
  ∃W:Nat->Nat->St->Hp->Prop,(∃m,W 0 m b H)/\∀i m b H,W i m b H->
   ((CW K a).stop i H/\D.nx b H)\/((CW K a).go i H/\∃N:St->Hp->Prop,(∀l c,N l c->∃o,o < m/\W (i+1) o l c)/\∀x c,(CW K a).yld i H x c->g x b c λd j=>tb {D with nx:=N,ct:=N,bk:=D.nx} d j):=by
 refine⟨λi m b H=>m=xs.length - i/\i<=xs.length/\Pv i b H,⟨xs.length,by simp,zac _,p⟩,?_⟩;rintro i m b H ⟨rfl,j,d⟩;have q:=r i b H j d;by_cases j:i < xs.length
 ·refine .inr ⟨⟨xs,xs[i],q,by simp [j]⟩,Pv (i+1),λl c l=>⟨xs.length - (i+1),by omega,rfl,j,l⟩,λx c y=>?_⟩;obtain⟨e,y⟩:=y;subst e;exact hs i x b _ (y xs q) d
 ·have e:i=xs.length:=by omega
  subst e;exact .inl ⟨⟨xs,q,tc _⟩,hd b H d⟩
def ZF{lo:Int}{n:Nat}{g:TG}{tb:TS}{D:JD}{a:St}{H:Hp}(Pv:Nat->St->Hp->Prop)(o:Pv 0 a H)
  (hs:∀i a H,i < n->Pv i a H->g (.int (lo+i)) a H λc d=>tb {D with nx:=Pv (i+1),ct:=Pv (i+1),bk:=D.nx} c d) (hd:∀a H,Pv n a H->D.nx a H):
  ∃W:Nat->Nat->St->Hp->Prop,(∃m,W 0 m a H)/\∀i m a H,W i m a H->
   ((AU lo n).stop i H/\D.nx a H)\/((AU lo n).go i H/\∃N:St->Hp->Prop,(∀j b,N j b->∃l,l < m/\W (i+1) l j b)/\∀x b,(AU lo n).yld i H x b->g x a b λc d=>tb {D with nx:=N,ct:=N,bk:=D.nx} c d):=by
 refine⟨λi m a H=>m=n - i/\i<=n/\Pv i a H,⟨n,by simp,zac _,o⟩,?_⟩;rintro i m a H ⟨rfl,_,d⟩;by_cases c:i < n
 ·refine .inr ⟨c,Pv (i+1),λj b j=>⟨n - (i+1),by omega,rfl,c,j⟩,λx b y=>?_⟩;obtain⟨e,y⟩:=y;subst e y;exact hs i a _ c d
 ·have e:i=n:=by omega
  subst e;exact .inl ⟨tc _,hd a H d⟩
def zi{c:TT}{tb:TS}(Pv:St->Hp->Prop)(i:St->Hp->Nat)(l:Pv a H)(hs:∀a H,Pv a H->c a H λb d=>if b=true then tb {D with nx:=λe g=>Pv e g/\i e g < i a H,ct:=λe g=>Pv e g/\i e g < i a H,bk:=D.nx} a d else D.nx a d)(mono:∀a H Q j,(∀b d,Q b d->j b d)->c a H Q->c a H j):uf c tb D a H:=by
 refine⟨λm a H=>m=i a H/\Pv a H,⟨_,rfl,l⟩,?_⟩;rintro m a H ⟨rfl,i⟩;refine mono a H _ _ (λb d q=>?_) (hs a H i);cases b with
 | true=>exact⟨_,λe g ⟨a,d⟩=>⟨_,d,rfl,a⟩,q⟩
 | false=>exact q
open PyProof.Rows hiding K lo
abbrev R2:=V->V->Hp->VK->Prop
def ZP(X:Cx)(f:Value->Value->Sem Value)(r:R2):Prop:=
 ∀(a:List (Addr×Obj)) (s:Shared) (b:St) (H:Hp) (x y:V) (v u:Value) (Q:VK),qw X a b H s->qM x v->qM y u->r x y H Q->
  wpAny (model X.prog X.w) X.A (f v u) (EP X a b Q) X.xe s
def Hs(X:Cx)(f:Value->Sem Value)(r:V->Hp->VK->Prop):Prop:=
 ∀(a:List (Addr×Obj)) (s:Shared) (b:St) (H:Hp) (x:V) (v:Value) (Q:VK),qw X a b H s->qM x v->r x H Q->
  wpAny (model X.prog X.w) X.A (f v) (EP X a b Q) X.xe s
def QX(X:Cx)(f:Value)(r:List V->Hp->VK->Prop):Prop:=
 ∀(a:List (Addr×Obj)) (s:Shared) (b:St) (H:Hp) (c:List V) (d:List Value) (Q:VK),qw X a b H s->qI c d->r c H Q->
  wpAny (model X.prog X.w) X.A (call f d) (EP X a b Q) X.xe s
def z5(r:R2)(b tb:TE):TE:=λa H Q=>b a H λx b=>tb a b λy a=>r x y a Q
def tUn(r:V->Hp->VK->Prop)(a:TE):TE:=λb H Q=>a b H λx a=>r x a Q
inductive rI_(C:Int->Int->Prop)(g:Int->Int->V)(x:V)(y:V)(H:Hp)(Q:VK):Prop
 | mk (i:_) (j:_):x=.int i->y=.int j->C i j->(Q (g i j) H)->rI_ C g x y H Q
def rI(C:Int->Int->Prop)(g:Int->Int->V):R2:=λx y H Q=>rI_ C g x y H Q
inductive DU(g:Int->Int->V)(x:V)(y:V)(H:Hp)(Q:VK):Prop
 | mk (i:_) (j:_):x=.int i->y=.int j->(Q (g i j) H)->DU g x y H Q
def Kn(g:Int->Int->V):R2:=λx y H Q=>DU g x y H Q
inductive rU_(g:Int->V)(x:V)(H:Hp)(Q:VK):Prop
 | mk (i:_):x=.int i->(Q (g i) H)->rU_ g x H Q
def rU(g:Int->V):V->Hp->VK->Prop:=λx H Q=>rU_ g x H Q
def Cv(i:PE X a j)(l:PE X b tb){R:V->V->Hp->Prop}(I:qw X a_ d H s)(h:j d H λx g=>tb d g λy c=>R x y c){f:Value->Value->Sem Value}(m:∀v u e x y c,qw X a_ d c e->qM x v->qM y u->R x y c->wpAny (model X.prog X.w) X.A (f v u) Q X.xe e):
  wpAny (model X.prog X.w) X.A (eval a X.env) (λv o=>wpAny (model X.prog X.w) X.A (eval b X.env) (λu p=>wpAny (model X.prog X.w) X.A (f v u) Q X.xe p) X.xe o) X.xe s:=by
 refine jg (i a_ s d H _ I h) λv i ⟨x,g,j,o,p⟩=>?_;refine jg (l a_ i d g _ j p) λu e ⟨y,c,d,g,i⟩=>?_;exact m v u e x y c d o g i
def qL(e:ZP X (binaryOp op) r)(c:JE X a g)(d:JE X b tb):JE X (.BinOp a op b pos) (z5 r g tb):=.of (by
 have c:=c.to;have d:=d.to;intro g s i H Q I h;exact wpAny_BinOp (Cv c d I h λv u c x y d j l m q=>e g c i d x y v u Q j l m q))
def AJ(e:Hs X (unaryOp op) r)(b:JE X a c):JE X (.UnaryOp op a pos) (tUn r c):=.of (by
 have b:=b.to;intro c s d H Q I h;exact UnaryOp_ (jg (b c s d H _ I h) λv b ⟨x,g,i,j,l⟩=>e c b d g x v Q i j l))
def BI{X:Cx}{f:Value->Value->Sem Value}{C:Int->Int->Prop}{g:Int->Int->Int}(rule:∀(i j:Int) (t u:Tok) (s:Shared) (Q:Value->Shared->Prop) (E:Value->Shared->Prop),C i j->Q (.int (g i j) s.toks) {s with toks:=s.toks+1}->wpAny (model X.prog X.w) X.A (f (.int i t) (.int j u)) Q E s):
  ZP X f (rI C λi j=>.int (g i j)):=by
 intro _ s _ H x y v u Q I a b h;obtain⟨i,j,rfl,rfl,c,q⟩:=h;obtain⟨t,rfl⟩:=a;obtain⟨a,rfl⟩:=b;exact rule i j t a s _ _ c ⟨.int (g i j),H,I.tok _,⟨_,rfl⟩,q⟩
def KA{X:Cx}{f:Value->Value->Sem Value}{g:Int->Int->Int}(rule:∀(i j:Int) (t u:Tok) (s:Shared) (Q:Value->Shared->Prop) (E:Value->Shared->Prop),Q (.int (g i j) s.toks) {s with toks:=s.toks+1}->wpAny (model X.prog X.w) X.A (f (.int i t) (.int j u)) Q E s):
  ZP X f (Kn λi j=>.int (g i j)):=by
 intro _ s _ H x y v u Q I a b h;obtain⟨i,j,rfl,rfl,q⟩:=h;obtain⟨t,rfl⟩:=a;obtain⟨a,rfl⟩:=b;exact rule i j t a s _ _ ⟨.int (g i j),H,I.tok _,⟨_,rfl⟩,q⟩
def NK{X:Cx}{f:Value->Value->Sem Value}{g:Int->Int->Bool}(rule:∀(i j:Int) (t u:Tok) (s:Shared) (Q:Value->Shared->Prop) (E:Value->Shared->Prop),Q (.bool (g i j)) s->wpAny (model X.prog X.w) X.A (f (.int i t) (.int j u)) Q E s):
  ZP X f (Kn λi j=>.bl (g i j)):=by
 intro _ s _ H x y v u Q I a b h;obtain⟨i,j,rfl,rfl,q⟩:=h;obtain⟨t,rfl⟩:=a;obtain⟨a,rfl⟩:=b;exact rule i j t a s _ _ ⟨.bl (g i j),H,I,rfl,q⟩
def HC(i j:Int):Prop:=0 < j/\j < 1073741824
def ES(i j:Int):Prop:=0<=j/\j<=1000000/\i.natAbs < 2^64
def CM(i j:Int):Prop:=(-(2^64) < i/\i < 2^64)\/(-(2^64) < j/\j < 2^64)
def CM.ok(h:CM i j):IntMulOk i j:=by
 rcases h with ⟨a,b⟩ | ⟨a,b⟩
 ·exact .of_left (intBits_le_64 a b)
 ·exact .of_right (intBits_le_64 a b)
def vE(k:Nat):(0:Int)<=2^k:=by
 rw[two_pow_cast];exact zcG _
def Qj:ZP X (binaryOp .Add) (Kn λi j=>.int (i+j)):=KA λ_ _ _ _ _ _ _ q=>add_int q
def ka:ZP X (binaryOp .Sub) (Kn λi j=>.int (i - j)):=KA λ_ _ _ _ _ _ _ q=>sub_int q
def QR:ZP X (binaryOp .Mult) (rI CM λi j=>.int (i*j)):=BI λ_ _ _ _ _ _ _ a q=>mul_int q a.ok
def NJ:ZP X (binaryOp .FloorDiv) (rI HC λi j=>.int (i / j)):=BI λi j _ _ _ _ _ a q=>by
 have b:(0:Int) < j:=a.1;have b:j < 1073741824:=a.2;exact floordiv_int (by omega) (by rw[zbJ i (by omega)];exact q) (.inl (PyProof.noPylong_small (by omega)))
def Qr:ZP X (binaryOp .Mod) (rI (λ_ j=>0 < j) λi j=>.int (i % j)):=BI λi j _ _ _ _ _ a q=>by
 have b:(0:Int) < j:=a;exact mod_int' (by omega) (by rw[Int.fmod_eq_emod_of_nonneg i (by omega)];exact q)
def BD:ZP X (binaryOp .Pow) (rI ES λi j=>.int (i^j.toNat)):=BI λ_ _ _ _ _ _ _ a q=>pow_int_small a.1 a.2.1 a.2.2 q
def BC:ZP X (binaryOp .LShift) (rI ES λi j=>.int (i*2^j.toNat)):=BI λ_ _ _ _ _ _ _ a q=>lshift_int_small a.1 a.2.1 a.2.2 q
def BB:ZP X (binaryOp .RShift) (rI (λ_ j=>0<=j) λi j=>.int (i / 2^j.toNat)):=BI λi j _ _ _ _ _ a q=>
 rshift_int a (by rw[zbJ i (vE _)];exact q)
def BH:ZP X (binaryOp .BitAnd) (Kn λi j=>.int (Builtin.bitAnd i j)):=KA λ_ _ _ _ _ _ _ q=>and_int q
def D2:ZP X (binaryOp .BitOr) (Kn λi j=>.int (Builtin.bitOr i j)):=KA λ_ _ _ _ _ _ _ q=>or_int q
def vZ:ZP X (binaryOp .BitXor) (Kn λi j=>.int (Builtin.bitXor i j)):=KA λ_ _ _ _ _ _ _ q=>xor_int q
def unI{X:Cx}{f:Value->Sem Value}{g:Int->Int}(rule:∀(i:Int) (t:Tok) (s:Shared) (Q:Value->Shared->Prop) (E:Value->Shared->Prop),Q (.int (g i) s.toks) {s with toks:=s.toks+1}->wpAny (model X.prog X.w) X.A (f (.int i t)) Q E s):
  Hs X f (rU λi=>.int (g i)):=by
 intro _ s _ H x v Q I a h;obtain⟨i,rfl,q⟩:=h;obtain⟨t,rfl⟩:=a;exact rule i t s _ _ ⟨.int (g i),H,I.tok _,⟨_,rfl⟩,q⟩
def w4:Hs X (unaryOp .USub) (rU λi=>.int (-i)):=unI λ_ _ _ _ _ q=>neg_int q
def Dw:V->V->Bool
 | .non,.non=>true | .non,.int _=>true | .int _,.non=>true | .non,.bl _=>true | .bl _,.non=>true | .non,.str _=>true | .str _,.non=>true
 | .int _,.int _=>true | .bl _,.bl _=>true | .str _,.str _=>true | .byt _,.byt _=>true
 | .int _,.str _=>true | .str _,.int _=>true | .bl _,.str _=>true | .str _,.bl _=>true
 | _,_=>false
def E4:R2:=λx y H Q=>Dw x y=true/\Q (.bl (decide (x=y))) H
def rNe:R2:=λx y H Q=>Dw x y=true/\Q (.bl (!decide (x=y))) H
def y9:decide (V.int i=V.int j)=(i==j):=by
 rw[zaE];simp
def Re:decide (V.bl i=V.bl j)=(i==j):=by
 rw[zaE];simp
def y8:decide (V.str i=V.str j)=(i==j):=by
 rw[zaE];simp
def xa:decide (V.byt i=V.byt j)=(i.toList==j.toList):=by
 rw[zaE];cases i;cases j;simp
def qZ{Q:VK}(I:qw X a_ a H s)(q:Q (.bl k) H)(e:k=b):EP X a_ a Q (.bool b) s:=by
 subst e;exact⟨.bl k,H,I,rfl,q⟩
def jl:ZP X (compareOp .Eq) E4:=by
 intro _ s _ H x y v u Q I e a h;obtain⟨d,q⟩:=h;cases x with
 | non=>
  cases e;cases y with
  | non=>cases a;exact PySem.EqNone.eq_none_none (qZ I q (by simp))
  | bl b=>cases a;exact PySem.EqNone.eq_none_bool (qZ I q (by simp))
  | int b=>obtain⟨c,rfl⟩:=a;exact PySem.EqNone.eq_none_int (qZ I q (by simp))
  | str b=>obtain⟨c,rfl⟩:=a;exact PySem.EqNone.eq_none_str (qZ I q (by simp))
  | _=>exact absurd (show false=true from d) tH
 | bl i=>
  cases e;cases y with
  | non=>cases a;exact PySem.EqNone.eq_bool_none (qZ I q (by simp))
  | bl b=>cases a;exact eq_bool (qZ I q Re)
  | str b=>obtain⟨c,rfl⟩:=a;exact PySem.EqMixed.eq_bool_str (qZ I q (by simp))
  | _=>exact absurd (show false=true from d) tH
 | int i=>
  obtain⟨t,rfl⟩:=e;cases y with
  | non=>cases a;exact PySem.EqNone.eq_int_none (qZ I q (by simp))
  | int b=>obtain⟨c,rfl⟩:=a;exact eq_int (qZ I q y9)
  | str b=>obtain⟨c,rfl⟩:=a;exact PySem.EqMixed.eq_int_str (qZ I q (by simp))
  | _=>exact absurd (show false=true from d) tH
 | str i=>
  obtain⟨t,rfl⟩:=e;cases y with
  | non=>cases a;exact PySem.EqNone.eq_str_none (qZ I q (by simp))
  | bl b=>cases a;exact PySem.EqMixed.eq_str_bool (qZ I q (by simp))
  | int b=>obtain⟨c,rfl⟩:=a;exact PySem.EqMixed.eq_str_int (qZ I q (by simp))
  | str b=>obtain⟨c,rfl⟩:=a;exact eq_str (qZ I q y8)
  | _=>exact absurd (show false=true from d) tH
 | byt i=>
  obtain⟨t,rfl⟩:=e;cases y with
  | byt b=>obtain⟨c,rfl⟩:=a;exact PySem.W.eq_bytes (qZ I q xa)
  | _=>exact absurd (show false=true from d) tH
 | _=>cases y<;>exact absurd (show false=true from d) tH
def ZV:ZP X (compareOp .NotEq) rNe:=by
 intro _ s _ H x y v u Q I e a h;obtain⟨d,q⟩:=h;cases x with
 | non=>
  cases e;cases y with
  | non=>cases a;exact PySem.EqNone.ne_none_none (qZ I q (by simp))
  | bl b=>cases a;exact PySem.EqNone.ne_none_bool (qZ I q (by simp))
  | int b=>obtain⟨c,rfl⟩:=a;exact PySem.EqNone.ne_none_int (qZ I q (by simp))
  | str b=>obtain⟨c,rfl⟩:=a;exact PySem.EqNone.ne_none_str (qZ I q (by simp))
  | _=>exact absurd (show false=true from d) tH
 | bl i=>
  cases e;cases y with
  | non=>cases a;exact PySem.EqNone.ne_bool_none (qZ I q (by simp))
  | bl b=>cases a;exact ne_bool (qZ I q (congrArg not Re))
  | str b=>obtain⟨c,rfl⟩:=a;exact PySem.EqMixed.ne_bool_str (qZ I q (by simp))
  | _=>exact absurd (show false=true from d) tH
 | int i=>
  obtain⟨t,rfl⟩:=e;cases y with
  | non=>cases a;exact PySem.EqNone.ne_int_none (qZ I q (by simp))
  | int b=>obtain⟨c,rfl⟩:=a;exact ne_int (qZ I q (congrArg not y9))
  | str b=>obtain⟨c,rfl⟩:=a;exact PySem.EqMixed.ne_int_str (qZ I q (by simp))
  | _=>exact absurd (show false=true from d) tH
 | str i=>
  obtain⟨t,rfl⟩:=e;cases y with
  | non=>cases a;exact PySem.EqNone.ne_str_none (qZ I q (by simp))
  | bl b=>cases a;exact PySem.EqMixed.ne_str_bool (qZ I q (by simp))
  | int b=>obtain⟨c,rfl⟩:=a;exact PySem.EqMixed.ne_str_int (qZ I q (by simp))
  | str b=>obtain⟨c,rfl⟩:=a;exact ne_str (qZ I q (congrArg not y8))
  | _=>exact absurd (show false=true from d) tH
 | byt i=>
  obtain⟨t,rfl⟩:=e;cases y with
  | byt b=>obtain⟨c,rfl⟩:=a;exact PySem.W.ne_bytes (qZ I q (congrArg not xa))
  | _=>exact absurd (show false=true from d) tH
 | _=>cases y<;>exact absurd (show false=true from d) tH
def QV:ZP X (compareOp .Lt) (Kn λi j=>.bl (decide (i < j))):=NK λ_ _ _ _ _ _ _ q=>lt_int q
def WX:ZP X (compareOp .LtE) (Kn λi j=>.bl (decide (i<=j))):=NK λ_ _ _ _ _ _ _ q=>le_int q
def ZW:ZP X (compareOp .Gt) (Kn λi j=>.bl (decide (j < i))):=NK λ_ _ _ _ _ _ _ q=>gt_int q
def Ky:ZP X (compareOp .GtE) (Kn λi j=>.bl (decide (j<=i))):=NK λ_ _ _ _ _ _ _ q=>ge_int q
def xV:ZP X (compareOp .In) (λx y H Q=>∃i j,x=.str i/\y=.str j/\Q (.bl (!(Builtin.Str.occurrences j i 0 j.length 1).isEmpty)) H):=by
 intro _ s _ H x y v u Q I a b h;obtain⟨i,j,rfl,rfl,q⟩:=h;obtain⟨t,rfl⟩:=a;obtain⟨_,rfl⟩:=b;exact in_str (qZ I q rfl)
def K1(b:Expr)(h:op≠.In:=by decide)(a:op≠.NotIn:=by decide):behindInMarks op b=false:=by
 have c:(op==CmpOp.In)=false:=by cases op<;>first | rfl | exact absurd rfl h
 have d:(op==CmpOp.NotIn)=false:=by cases op<;>first | rfl | exact absurd rfl a
 cases b<;>simp [behindInMarks,c,d]
def jK(e:ZP X (compareOp op) r)(c:JE X a g)(d:JE X b tb)(i:behindInMarks op b=false:=by exact K1 _):JE X (.Compare a [op] [b] pos) (z5 r g tb):=.of (by
 have c:=c.to;have d:=d.to;intro g s j H Q I h;exact wpAny_Compare1 (Cv c d I h λv u c x y d l m o q=>e g c j d x y v u Q l m o q) i)
def Wy(t:TE):TT:=λa H Q=>t a H λx a=>∃k,x=.bl k/\Q k a
def qo(l:ZP X (compareOp op) r)(d:JE X a i)(g:JE X b tb)(m:behindInMarks op b=false:=by exact K1 _):JT X (.Compare a [op] [b] pos) (Wy (z5 r i tb)):=.of (by
 have d:=d.to;have g:=g.to;intro i s j H Q I h;refine wpAny_isTrue_Compare1 (jg (d i s j H _ I h) λv d ⟨x,o,p,q,B⟩=>jg (g i d j o _ p B) λu d ⟨y,g,o,p,B⟩=>
  jg (l i d j g x y v u _ o q p B) λc _ ⟨z,d,g,i,k,e,j⟩=>?_) m
 subst e;cases i;exact wpAny_truthy_bool ⟨d,g,j⟩)
def Yl:(zdZ:Nat) < 2^63:=by rw[sizeLine_eq];decide
def Z8:ZP X (binaryOp .Add) (λx y H Q=>∃i j,x=.str i/\y=.str j/\i.length+j.length<=zdZ/\Q (.str (i++j)) H):=by
 intro _ s _ H x y v u Q I a b h;obtain⟨i,j,rfl,rfl,c,q⟩:=h;obtain⟨t,rfl⟩:=a;obtain⟨a,rfl⟩:=b;exact add_str (λa tk=>⟨.str (i++j),H,I.tok _,⟨_,rfl⟩,q⟩) c
def Q9(r:qI [x] us):∃u,us=[u]/\qM x u:=by
 cases r with
 | cons a b=>cases b;exact⟨_,rfl,a⟩
def wZ(r:qI [x,y] us):∃u a,us=[u,a]/\qM x u/\qM y a:=by
 cases r with
 | cons a b=>
  cases b with
  | cons b c=>cases c;exact⟨_,_,rfl,a,b⟩
def wQ{X:Cx}(a:X.calm=true):QX X (.builtin "max") (λxs H Q=>∃i j,xs=[.int i,.int j]/\Q (.int (if j > i then j else i)) H):=by
 intro _ s _ H xs _ Q I b h;obtain⟨i,j,rfl,q⟩:=h;obtain⟨u,_,rfl,⟨t,rfl⟩,⟨_,rfl⟩⟩:=wZ b;refine max_two_ints (I.ok.hd a) λ_ tk k=>⟨_,H,I.kept k,?_,q⟩;by_cases a:j > i
 ·rw[if_pos a,if_pos a];exact⟨_,rfl⟩
 ·rw[if_neg a,if_neg a];exact⟨_,rfl⟩
def Vd{X:Cx}(a:X.calm=true):QX X (.builtin "min") (λxs H Q=>∃i j,xs=[.int i,.int j]/\Q (.int (if j < i then j else i)) H):=by
 intro _ s _ H xs _ Q I b h;obtain⟨i,j,rfl,q⟩:=h;obtain⟨u,_,rfl,⟨t,rfl⟩,⟨_,rfl⟩⟩:=wZ b;refine min_two_ints (I.ok.hd a) λ_ tk k=>⟨_,H,I.kept k,?_,q⟩;by_cases a:j < i
 ·rw[if_pos a,if_pos a];exact⟨_,rfl⟩
 ·rw[if_neg a,if_neg a];exact⟨_,rfl⟩
def Ve:QX X (.type "int") (λxs H Q=>(∃i,xs=[.int i]/\Q (.int i) H)\/∃k,xs=[.bl k]/\Q (.int (if k then 1 else 0)) H):=by
 intro _ s _ H xs _ Q I a h;rcases h with ⟨i,rfl,q⟩ | ⟨k,rfl,q⟩
 ·obtain⟨u,rfl,t,rfl⟩:=Q9 a;exact call_int_int ⟨.int i,H,I,⟨_,rfl⟩,q⟩
 ·obtain⟨u,rfl,b⟩:=Q9 a;cases b;exact call_int_bool ⟨.int (if k then 1 else 0),H,I.tok _,⟨_,rfl⟩,q⟩
open PyProof.Rows hiding K lo
structure kH(h:Heap)(x dx C:Addr)(mA:Str->Option Value):Prop where
 obj:h.get? x=some (zaZ C dx)
 ns:h.Ns1 dx mA
 ne:dx≠x
def wp{h:Heap}(n:h.Ns1 d g):∃b,h.get? d=some b/\∀name,zcH name b=some (g name):=by
 obtain⟨i,c,u,j,hd,l,_,m⟩:=n;refine⟨i,j,λname=>?_⟩;have e:=m name;unfold nsFind findBy at e;rw[<-Array.find?_toList]at e;unfold zcH;rw[hd]
 try dsimp only
 split
 ·rename_i y q;rw[q]at e;exact congrArg some e
 ·rename_i q;rw[q]at e;have a:c.toList.any (·.refKey)=false:=by
   rw[List.any_eq_false];intro y o;obtain⟨z,t,p⟩:=l y (Array.mem_toList_iff.mp o);simp [DictEntry.refKey,p]
  have r:¬c.toList.any (·.refKey)=true:=by rw[a];exact tH
  rw[if_neg r];exact congrArg some e
def kH.look(I:kH h x b C c):∃a,PySem.W.InstAt h x (zaZ C b) C (some a)/\∀name,zcH name a=some (c name):=
 let ⟨a,b,c⟩:=wp I.ns
 ⟨a,⟨I.obj,rfl,rfl,b⟩,c⟩
def Mr{s:Shared}{K:zdU}{Q:Value->Shared->Prop}(X:K.In s.heap)(I:kH s.heap x i C a)(b:zbg K C name=true)(c:zbo K C=true)(d:t1 K (.ref C) name=some none)(e:a name=some v)(g:zdR v=true)(h:Q v {s with toks:=s.toks+1}):
  wpAny (model prog w) A (getAttr (.ref x) name expr) Q E s:=by
 obtain⟨_,a,i⟩:=I.look;exact PySem.W.get_value X a (zcA b).1 (PySem.W.findObj_own c d rfl (by rw[i,e])) g h
def GU{s:Shared}{K:zdU}{Q:Value×List Value->Shared->Prop}(X:K.In s.heap)(I:kH s.heap x g C b)(a:zbg K C name=true)(c:t1 K (.ref C) name=some (some (.ref f)))(d:zbw K (.ref f)=true)(e:b name=none)(h:Q (.ref f,[.ref x]) s):
  wpAny (model prog w) A (getMethod (.ref x) name pl) Q E s:=by
 obtain⟨b,g,i⟩:=I.look;exact PySem.W.method_fn X g (zcA a).1 (zcA a).2 c (beq_iff_eq.mp d) (by show (zcH name b).map (·.isSome)=some false;rw[i,e];rfl) h
def R5{s:Shared}{K:zdU}{Q:Unit->Shared->Prop}(X:K.In s.heap)(I:kH s.heap x a C c)(hs:t1 K (.ref C) "__setattr__"=some (some (.builtin "object.__setattr__")))(d:zbH K C=true)(e:zdo K C name=some none)(g:zbo K C=true)(i:PySem.Within c ns)(hsz:ns.length<=zdZ)(h:∀h',kH h' x a C (λy=>if y=name then some v else c y)->Heap.SameBut a s.heap h'->Q () {s with heap:=h',toks:=s.toks+2}):
  wpAny (model prog w) A (setAttr (.ref x) name v) Q E s:=by
 obtain⟨_,c,_⟩:=I.look;refine PySem.W.set_plain X c hs (PySem.W.osa_open (s:={s with toks:=s.toks+1}) (r:=none) X c d e λb=>?_);obtain⟨_,c,d⟩:=PySem.W.any_some g;have e:s.heap.get? x=some ⟨.ref C,some a,.plain,#[]⟩:=I.obj;refine zdW (zdX (zdW (zdW (wpAny_loadPart e (zdW (PySem.W.Looks.here (s:={s with toks:=s.toks+1}) (PySem.W.looks_clsIn X c) ?_))))));rw[d];refine zdX (a:=some a) (zdW (zdX (zdW ?_)));refine wpAny_nsSet1 (s:={s with toks:=s.toks+1}) I.ns λh' a c=>?_;obtain⟨_,_,_,d,e,g⟩:=a.count (PySem.Within.cons name v i);refine zdW (wpAny_lookBehind d (by rw[e];exact pastItsLine_dict (tS g (by rw[t0];omega))) ?_);exact zdX (h _ ⟨(c.2 _ (Ne.symm I.ne)).trans I.obj,a,I.ne⟩ c)
def K5{A:Around}{s:Shared}{K:zdU}(X:K.In s.heap)(b:zbV K C=true)(c:t1 K (.ref C) "__init__"=some (some (.ref f)))(e:PySem.W.typeIn K (.ref f)=some (.type "function")) (h:codeAny (model prog w) (A.under (.builtin "type.__call__" ⟨.ref C::vs,a⟩)) (.call (.ref f) ⟨.ref (s.heap.objs.size+1)::vs,a⟩) (PySem.W.InitBack (s.heap.objs.size+1) R)
   {s with heap:=(s.heap.push zaL).push (zaZ C s.heap.objs.size)}):
  codeAny (model prog w) A (.call (.ref C) ⟨vs,a⟩) R s:=by
 obtain⟨_,_,d,t,os⟩:=s;exact PySem.W.make_core (PySem.W.makes_of X b) (PySem.W.looks_findIn X c) (λself=>PySem.W.bind_fn X self e) (.inl rfl) h
def JX(f:Str)(v:V):List (Str×V)->List (Str×V)
 | []=>[(f,v)]
 | (a,x)::b=>if a=f then (a,v)::b else (a,x)::JX f v b
def YC(f g:Str)(v:V):∀fs:List (Str×V),(JX f v fs).lookup g=if g=f then some v else fs.lookup g
 | []=>by
  show zaS g [(f,v)]=_;by_cases h:g=f
  ·have a:(g==f)=true:=beq_iff_eq.mpr h;simp only[zaS,a,if_pos h]
  ·have a:(g==f)=false:=beq_eq_false_iff_ne.mpr h;simp only[zaS,a,if_neg h]
 | (k,x)::b=>by
  have c:=YC f g v b;rw[show JX f v ((k,x)::b)=(if k=f then (k,v)::b else (k,x)::JX f v b) from rfl];by_cases b:k=f
  ·rw[if_pos b];by_cases h:g=k
   ·have a:(g==k)=true:=beq_iff_eq.mpr h;simp only[zaS,a,if_pos (h.trans b)]
   ·have a:(g==k)=false:=beq_eq_false_iff_ne.mpr h;simp only[zaS,a,if_neg (λe:g=f=>h (e.trans b.symm))]
  ·rw[if_neg b];by_cases h:g=k
   ·have a:(g==k)=true:=beq_iff_eq.mpr h;simp only[zaS,a,if_neg (λe:g=f=>b (h.symm.trans e))]
   ·have a:(g==k)=false:=beq_eq_false_iff_ne.mpr h;simp only[zaS,a];exact c
def Yn(f:Str)(v:V):∀fs:List (Str×V),f∈(JX f v fs).map (·.1)/\∀g,g∈fs.map (·.1)->g∈(JX f v fs).map (·.1)
 | []=>⟨by simp [JX],λg h=>by simp at h⟩
 | (k,x)::a=>by
  obtain⟨b,c⟩:=Yn f v a;rw[show JX f v ((k,x)::a)=(if k=f then (k,v)::a else (k,x)::JX f v a) from rfl];by_cases a:k=f
  ·rw[if_pos a];subst a;exact⟨by simp,λg h=>by simpa using h⟩
  ·rw[if_neg a];refine⟨?_,λg h=>?_⟩
   ·rw[tG];exact tA _ b
   ·rw[tG]at h ⊢;rcases tI.mp h with e | e
    ·exact tI.mpr (.inl e)
    ·exact tA _ (c g e)
def YD(f:Str)(v:V):∀fs:List (Str×V),(JX f v fs).length<=fs.length+1
 | []=>by simp [JX]
 | (k,x)::a=>by
  have b:=YD f v a;rw[show JX f v ((k,x)::a)=(if k=f then (k,v)::a else (k,x)::JX f v a) from rfl];by_cases a:k=f
  ·rw[if_pos a,t0,t0];omega
  ·rw[if_neg a,t0,t0];omega
def Zd.some_of(r:Zd (some v) o):∃u,o=some u/\qM v u:=by
 cases o with
 | none=>exact(show False from r).elim
 | some u=>exact⟨u,rfl,r⟩
def Zd.none_of(r:Zd none o):o=none:=by
 cases o with
 | none=>rfl
 | some u=>exact(show False from r).elim
def wC(r:qM v u):zdR u=true:=by
 cases v with
 | non=>cases (show u=Value.none from r);rfl
 | bl b=>cases (show u=Value.bool b from r);rfl
 | int i=>obtain⟨t,e⟩:=(show ∃t,u=Value.int i t from r);cases e;rfl
 | str x=>obtain⟨t,e⟩:=(show ∃t,u=Value.str x t from r);cases e;rfl
 | byt b=>obtain⟨t,e⟩:=(show ∃t,u=Value.bytes b t from r);cases e;rfl
 | flt b=>obtain⟨t,e⟩:=(show ∃t,u=Value.float b t from r);cases e;rfl
 | ref a=>cases (show u=Value.ref a from r);rfl
 | ty n=>cases (show u=Value.type n from r);rfl
def Y7(hok:ZS P w H h)(e:H a=some (.ins C c fs)):∃b,kH h a c C b/\(∀f,Zd (fs.lookup f) (b f))/\PySem.Within b (fs.map (·.1))/\fs.length<=1000/\H c=some (.own a):=by
 obtain⟨d,z,ne,g,b,n,i,q⟩:=(show qQ P w H h a (.ins C c fs) from hok a _ e);exact⟨b,⟨g,n,ne⟩,i,q,z,d⟩
structure Wf(K:zdU)(C:Addr):Prop where
 pg:zbg K C Str.empty=true
 hd:zbo K C=true
 po:zbH K C=true
 sa:t1 K (.ref C) "__setattr__"=some (some (.builtin "object.__setattr__"))
def Wf.get{K:zdU}{C:Addr}(c:Wf K C)(f:Str):zbg K C f=true:=c.pg
def Jo(K:zdU)(C:Addr)(f:Str):Prop:=t1 K (.ref C) f=some none
def Jo.taker{K:zdU}{C:Addr}{f:Str}(n:Jo K C f):zdo K C f=some none:=by
 unfold zdo;rw[show t1 K (.ref C) f=some none from n];rfl
structure Ws(K:zdU)(C:Addr)(m:Str)(f:Addr):Prop where
 at_:t1 K (.ref C) m=some (some (.ref f))
 fn:zbw K (.ref f)=true
 kp:zar K (.ref f)=true
def kx{Q:Value->Shared->Prop}(I:qw X a_ g H s)(e:H a=some (.ins C i fs))(c:Wf X.K C)(n:Jo X.K C f)(l:fs.lookup f=some v)(h:∀u d,qw X a_ g H d->qM v u->Q u d):wpAny (model X.prog X.w) A (getAttr (.ref a) f b) Q E s:=by
 obtain⟨g,O,i,_,_,_⟩:=Y7 I.hok e;obtain⟨u,hu,d⟩:=Zd.some_of (v:=v) (o:=g f) (by rw[<-l];exact i f);exact Mr I.kIn O (c.get f) c.hd n hu (wC d) (h u _ (I.tok _) d)
def QE{Q:Value×List Value->Shared->Prop}(I:qw X a_ b H s)(e:H a=some (.ins C d fs))(c:Wf X.K C)(k:Ws X.K C m g)(l:fs.lookup m=none)(h:Q (.ref g,[.ref a]) s):wpAny (model X.prog X.w) A (getMethod (.ref a) m pl) Q E s:=by
 obtain⟨b,O,d,_,_,_⟩:=Y7 I.hok e;have i:b m=none:=Zd.none_of (by rw[<-l];exact d m);exact GU I.kIn O (c.get m) k.at_ k.fn i h
def vQ{Q:Unit->Shared->Prop}(I:qw X a_ i H s)(e:H a=some (.ins C d fs))(c:Wf X.K C)(n:Jo X.K C f)(j:fs.length < 1000)(o:qM y u)(h:∀g,qw X a_ i (upd H a (.ins C d (JX f y fs))) g->Q () g):wpAny (model X.prog X.w) A (setAttr (.ref a) f u) Q E s:=by
 obtain⟨j,O,p,l,_,m⟩:=Y7 I.hok e;have g:(fs.map (·.1)).length<=zdZ:=by rw[ta,sizeLine_eq];omega
 refine R5 I.kIn O c.sa c.po n.taker c.hd l g λr g v=>h _ ?_;have hd:∃i,r.get? d=some i:=let ⟨i,_,_,x,_⟩:=g.ns;⟨i,x⟩;refine I.write (x:=a) (e:=d) (by rw[e];exact True.intro) (.inr m) (λb q d z=>(v.2 b d).trans z) hd ?_;refine⟨by rw[qg O.ne];exact m,?_,O.ne,g.obj,_,g.ns,λd=>?_,λd g=>?_⟩
 ·have:=YD f y fs;omega
 ·show Zd ((JX f y fs).lookup d) (if d=f then some u else j d);rw[YC];by_cases q:d=f
  ·rw[if_pos q,if_pos q];exact o
  ·rw[if_neg q,if_neg q];exact p d
 ·by_cases q:d=f
  ·rw[q];exact(Yn f y fs).1
  ·refine(Yn f y fs).2 d (l d λz=>g ?_);show (if d=f then some u else j d)=none;rw[if_neg q];exact z
def qw.made(I:qw X a_ a H s):qw X a_ a (upd (upd H s.heap.objs.size (.own (s.heap.objs.size+1))) (s.heap.objs.size+1) (.ins C s.heap.objs.size []))
  {s with heap:=(s.heap.push zaL).push (zaZ C s.heap.objs.size)}:=by
 have a:(s.heap.push zaL).get? s.heap.objs.size=some zaL:=tR s.heap rfl;have c:((s.heap.push zaL).push (zaZ C s.heap.objs.size)).get? (s.heap.objs.size+1)=some (zaZ C s.heap.objs.size):=by
  have:=tR (s.heap.push zaL) (o:=zaZ C s.heap.objs.size) rfl;rwa [zaX]at this
 have d:(s.heap.push zaL).Ns s.heap.objs.size (λ_=>none):=⟨zaL,#[],_,a,rfl,(λe g=>absurd g (by simp)),λ_=>rfl⟩;have g:=I.laid (a:=s.heap.objs.size) (o:=.own (s.heap.objs.size+1)) (h':=s.heap.push zaL) (t':=s.toks) (λb u q=>tj _ q) (tc _) ⟨_,a⟩;refine g.laid (a:=s.heap.objs.size+1) (o:=.ins C s.heap.objs.size []) (t':=s.toks) (λb u q=>tj _ q) (Nat.le_of_eq (zaX _ _)) ?_;have ne:s.heap.objs.size≠s.heap.objs.size+1:=tW (zaG _);refine⟨by rw[qg ne,qa],zac _,ne,c,λ_=>none,(Heap.Ns1.of_empty d).at λ_ q=>tj _ q,λ_=>True.intro,λy a=>absurd rfl a⟩
def MJ(a:attributeBase e f env (eval e env)=eval e env)(h:wpAny (model prog w) A (eval e env) (λo b=>wpAny (model prog w) A (getAttr o f true) Q E b) E s):wpAny (model prog w) A (eval (.Attribute e f pos) env) Q E s:=
 Attribute_any_ h (by rw[arm_eval_Attribute,a])
inductive MZ(K:zdU)(f:Str)(Q:VK)(x:V)(H1:Hp):Prop
 | mk (a:_) (C:_) (dx:_) (fs:_) (v:_):x=.ref a->H1 a=some (.ins C dx fs)->Wf K C->Jo K C f->fs.lookup f=some v->Q v H1->MZ K f Q x H1
def Fk(K:zdU)(a:TE)(f:Str):TE:=λb H Q=>a b H λx a=>MZ K f Q x a
inductive Ao(K:zdU)(f:Str)(D:JD)(σ:St)(y:V)(x:V)(H2:Hp):Prop
 | mk (a:_) (C:_) (dx:_) (fs:_):x=.ref a->H2 a=some (.ins C dx fs)->Wf K C->Jo K C f->(fs.length < 1000)->(D.nx σ (upd H2 a (.ins C dx (JX f y fs))))->Ao K f D σ y x H2
def FT(K:zdU)(b c:TE)(f:Str):TS:=λD a H=>c a H λy c=>b a c λx b=>Ao K f D a y x b
def Jk(b:JE X e d)(g:attributeBase e f X.env (eval e X.env)=eval e X.env):JE X (.Attribute e f pos) (Fk X.K d f):=.of (by
 have b:=b.to;intro d s i H Q I h;refine MJ g (jg (b d s i H _ I h) λu _ ⟨x,b,d,g,a,_,_,fs,v,i,j,c,n,l,q⟩=>?_);subst i;obtain rfl:u=Value.ref a:=g;exact kx d j c n l λ_ _ d g=>⟨v,b,d,g,q⟩)
def VQ{pos:Pos}(b:JE X o e)(d:JE X fc g)(hs:swapsWith fc (some (.Attribute o f i)) pos.line X.env=pure false):JS X (.Assign [.Attribute o f i] fc pos) (FT X.K e g f):=.of (by
 have b:=b.to;have d:=d.to;intro g s e H D I h;refine plainObj_wpAny_Assign_Attribute (jg (d g s e H _ I h) λu d ⟨y,i,j,l,q⟩=>jg (b g d e i _ j q) λb _ ⟨x,_,d,g,a,_,_,fs,i,j,c,n,m,p⟩=>?_) hs;subst i;obtain rfl:b=Value.ref a:=g;exact vQ d j c n m l λ_ b=>⟨e,_,b,p⟩)
inductive zY(K:zdU)(H:Hp):V->Value->Prop where
 | non:zY K H .non (.type "NoneType")
 | bl (x:Bool):zY K H (.bl x) (.type "bool")
 | int (i:Int):zY K H (.int i) (.type "int")
 | str (x:Str):zY K H (.str x) (.type "str")
 | flt (x:UInt64):zY K H (.flt x) (.type "float")
 | lst {a:Addr} {xs:List V} (e:H a=some (.lst xs)):zY K H (.ref a) (.type "list")
 | frz {a:Addr} {o:Obj} {xs:List V} (e:H a=some (.frz o (.lst xs))):zY K H (.ref a) (.type "list")
 | tup {a:Addr} {xs:List V} (e:H a=some (.tup xs)):zY K H (.ref a) (.type "tuple")
 | dK {a:Addr} {kvs:List (qT×V)} (e:H a=some (.dK kvs)):zY K H (.ref a) (.type "dict")
 | dT {a:Addr} {kvs:List (List qT×V)} (e:H a=some (.dT kvs)):zY K H (.ref a) (.type "dict")
 | ins {a C dx:Addr} {fs:List (Str×V)} (e:H a=some (.ins C dx fs)) (cl:Wf K C) (ha:t1 K (.ref C) "__class__"=some (some (.builtin "object.__class__")))
  (hn:PySem.W.specialIn K (.builtin "object.__class__") "__get__"=some (some (.builtin "getset_descriptor.__get__"))) (ie:PySem.W.takesIn K (.builtin "object.__class__")=some true)
  (hm:zcU K C (.type "object")=some true):zY K H (.ref a) (.ref C)
def wy{Q:Value->Shared->Prop}(I:qw X a_ g H s)(d:qM x u)(ty:zY X.K H x t)(e:zaD X.K t c=some b)(h:∀tk,Q (.bool b) {s with toks:=tk}):
  wpAny (model X.prog X.w) A (call (.builtin "isinstance") [u,c]) Q E s:=by
 cases ty with
 | non=>cases (show u=Value.none from d);exact zaF PySem.W.kitx_none I.kIn True.intro e (λz=>nomatch z) h
 | bl y=>cases (show u=Value.bool y from d);exact zaF PySem.W.kitx_bool I.kIn True.intro e (λz=>nomatch z) h
 | int i=>obtain⟨t,q⟩:=(show ∃t,u=Value.int i t from d);cases q;exact zaF PySem.W.kitx_int I.kIn True.intro e (λz=>nomatch z) h
 | str y=>obtain⟨t,q⟩:=(show ∃t,u=Value.str y t from d);cases q;exact zaF PySem.W.kitx_str I.kIn True.intro e (λz=>nomatch z) h
 | flt y=>obtain⟨t,q⟩:=(show ∃t,u=Value.float y t from d);cases q;exact zaF PySem.W.kitx_float I.kIn True.intro e (λz=>nomatch z) h
 | @lst a l g=>
  cases (show u=Value.ref a from d);obtain⟨_,_,n,_,j⟩:=(show qQ X.prog X.w H s.heap a (.lst l) from I.hok a _ g);exact zaF zdJ I.kIn ⟨_,j,rfl⟩ e (λz=>nomatch z) h
 | @frz a m l g=>
  cases (show u=Value.ref a from d);obtain⟨_,_,_,n,_,j⟩:=(show qQ X.prog X.w H s.heap a (.frz m (.lst l)) from I.hok a _ g);exact zaF zdJ I.kIn ⟨_,j,rfl⟩ e (λz=>nomatch z) h
 | @tup a l g=>
  cases (show u=Value.ref a from d);obtain⟨_,_,_,p⟩:=(show qQ X.prog X.w H s.heap a (.tup l) from I.hok a _ g);obtain⟨m,j,o,_⟩:=p;exact zaF PySem.W.kitx_tuple I.kIn ⟨m,j,o⟩ e (λz=>nomatch z) h
 | @dK a r g=>
  cases (show u=Value.ref a from d);obtain⟨_,_,_,_,p⟩:=(show qQ X.prog X.w H s.heap a (.dK r) from I.hok a _ g);obtain⟨m,v,B,j,o,_⟩:=p;exact zaF zdK I.kIn ⟨m,j,o.1⟩ e (λz=>nomatch z) h
 | @dT a r g=>
  cases (show u=Value.ref a from d);obtain⟨_,_,l,_,m,v,B,j,o,_⟩:=(show qQ X.prog X.w H s.heap a (.dT r) from I.hok a _ g);exact zaF zdK I.kIn ⟨m,j,o.1⟩ e (λz=>nomatch z) h
 | @ins a r v fs g j l m o p=>
  cases (show u=Value.ref a from d);obtain⟨_,O,_⟩:=Y7 I.hok g;obtain⟨_,d,_⟩:=O.look;exact zaF (PySem.W.kitx_own (j.get _) j.hd l m o p) I.kIn d e (λz=>nomatch z) h
open PyProof.Rows hiding K lo
structure je(k:Nat)(A:Around):Prop where
 hd:A.handled=none
 dp:A.depth+3*k+5 < recursionLimit
 un:A.units+16*k+200 < cLine
 gd:A.guards=some []
def je.mono(r:je k A)(h:j<=k):je j A:=⟨r.hd,by have:=r.dp;omega,by have:=r.un;omega,r.gd⟩
def je.deeper(r:je (k+1) A)(env:Env):je k (A.deeper env):=
 ⟨r.hd,by have:=r.dp;show A.depth+1+3*k+5 < _;omega,by have:=r.un;show A.units+3+16*k+200 < _;omega,r.gd⟩
def je.in1(r:je (k+1) A):je k A.in1:=
 ⟨r.hd,by have:=r.dp;show A.depth+3*k+5 < _;omega,by have:=r.un;show A.units+1+16*k+200 < _;omega,r.gd⟩
def ki{A:Around}:(A.under (.builtin "type.__call__" ⟨.ref C::us,a⟩)).depth=A.depth+1:=by
 first | rfl | simp [Around.under,Code.weight,Code.isCreation,Code.isGuard,Code.isCaller,Code.frames,Code.isFrame,guardIds]
def kh{A:Around}:(A.under (.builtin "type.__call__" ⟨.ref C::us,a⟩)).units=A.units+1:=by
 first | rfl | simp [Around.under,Code.cUnits,Code.frames,Code.isFrame]
def je.make(r:je (k+1) A)(C:Addr)(us:List Value)(a:List (Str×Value)):je k (A.under (.builtin "type.__call__" ⟨.ref C::us,a⟩)):=
 ⟨r.hd,by have:=r.dp;rw[ki];omega,by have:=r.un;rw[kh];omega,(by have:=r.gd;first | exact this | simpa [Around.under,Code.isGuard,guardIds] using this)⟩
def je.depth(r:je k A):A.depth < recursionLimit:=by have:=r.dp;omega
def je.units(r:je k A):A.units+64 < cLine:=by have:=r.un;omega
def Qw:TA:=λ_ H Q=>Q [] H
def qS(b:TE)(c:TA):TA:=λa H Q=>b a H λx b=>c a b λa b=>Q (x::a) b
def Qk:JA X [] Qw:=.of (by
 exact λ_ _ _ _ H Q I h=>Calls.spliced_nil ⟨[],H,I,.nil,h⟩)
def jt(a:JE X e te)(hr:JA X es t)(hs:starEach (e::es) X.env=(false,eval e X.env)::starEach es X.env:=by rfl):JA X (e::es) (qS te t):=.of (by
 have a:=a.to;have hr:=hr.to;intro pos b s c H Q I h;rw[hs];show wpAny _ _ (spliced ((false,eval e X.env)::backTo pos (starEach es X.env))) _ _ s;refine Calls.spliced_cons (jg (a b s c H _ I h) λu a ⟨x,d,g,i,j⟩=>?_);exact jg (hr pos b a c d _ g j) λ_ _ ⟨a,b,c,d,g⟩=>⟨x::a,b,c,.cons i d,g⟩)
def qU(b:JE X a c)(d:starEach [a] X.env=(false,eval a X.env)::starEach [] X.env:=by rfl):JA X [a] (qS c Qw):=(jt b Qk d)
def jr(c:JE X b d)(e:JE X a g)(i:starEach [b,a] X.env=(false,eval b X.env)::starEach [a] X.env:=by rfl)(j:starEach [a] X.env=(false,eval a X.env)::starEach [] X.env:=by rfl):JA X [b,a] (qS d (qS g Qw)):=(jt c (jt e Qk j) i)
def Ys(d:JE X c e)(g:JE X b i)(j:JE X a l)(m:starEach [c,b,a] X.env=(false,eval c X.env)::starEach [b,a] X.env:=by rfl)(o:starEach [b,a] X.env=(false,eval b X.env)::starEach [a] X.env:=by rfl)(p:starEach [a] X.env=(false,eval a X.env)::starEach [] X.env:=by rfl):JA X [c,b,a] (qS e (qS i (qS l Qw))):=(jt d (jt g (jt j Qk p) o) m)
def Hk(e:JE X d g)(i:JE X c j)(l:JE X b m)(o:JE X a p)(q:starEach [d,c,b,a] X.env=(false,eval d X.env)::starEach [c,b,a] X.env:=by rfl)(r:starEach [c,b,a] X.env=(false,eval c X.env)::starEach [b,a] X.env:=by rfl)(u:starEach [b,a] X.env=(false,eval b X.env)::starEach [a] X.env:=by rfl)(v:starEach [a] X.env=(false,eval a X.env)::starEach [] X.env:=by rfl):JA X [d,c,b,a] (qS g (qS j (qS m (qS p Qw)))):=(jt e (jt i (jt l (jt o Qk v) u) r) q)
def CT(g:JE X e i)(j:JE X d l)(m:JE X c o)(p:JE X b q)(r:JE X a u)(v:starEach [e,d,c,b,a] X.env=(false,eval e X.env)::starEach [d,c,b,a] X.env:=by rfl)(x:starEach [d,c,b,a] X.env=(false,eval d X.env)::starEach [c,b,a] X.env:=by rfl)(y:starEach [c,b,a] X.env=(false,eval c X.env)::starEach [b,a] X.env:=by rfl)(z:starEach [b,a] X.env=(false,eval b X.env)::starEach [a] X.env:=by rfl)(B:starEach [a] X.env=(false,eval a X.env)::starEach [] X.env:=by rfl):JA X [e,d,c,b,a] (qS i (qS l (qS o (qS q (qS u Qw))))):=(jt g (jt j (jt m (jt p (jt r Qk B) z) y) x) v)
def ug(t:TA):TE:=λa H Q=>t a H λb c=>b.length<=zdZ/\∀a,c a=none->Q (.ref a) (upd c a (.tup b))
def C5(t:TA):TE:=λa H Q=>t a H λb c=>b.length<=zdZ/\∀a,c a=none->Q (.ref a) (upd c a (.lst b))
def jW{X:Cx}{es:List Expr}{t:TA}{pos:Pos}{a}(h:JA X es t):JE X (.Tuple es a pos) (ug t):=.of (by
 have h:=h.to;intro a s c H Q I d;refine wpAny_Tuple_spliced (jg (h pos a s c H _ I d) λi a ⟨j,c,d,g,z,q⟩=>⟨by rw[<-g.length];exact z,?_⟩);have l:c a.heap.objs.size=none:=d.hok.fresh (tc _);refine⟨.ref a.heap.objs.size,upd c a.heap.objs.size (.tup j),d.laid (t':=a.toks) (λb u e=>tj _ e) (tc _) ?_,rfl,q _ l⟩;exact⟨z,i,g,⟨_,tR _ rfl,rfl,_,rfl⟩⟩)
def j5(h:JA X es t):JE X (.List es pos) (C5 t):=.of (by
 have h:=h.to;intro a s c H Q I d;refine wpAny_List_spliced (jg (h pos a s c H _ I d) λi a ⟨j,c,d,g,z,q⟩=>⟨by rw[<-g.length];exact z,?_⟩);have l:c a.heap.objs.size=none:=d.hok.fresh (tc _);refine⟨.ref a.heap.objs.size,upd c a.heap.objs.size (.lst j),d.laid (t':=a.toks) (λb u e=>tj _ e) (tc _) ?_,rfl,q _ l⟩;exact⟨z,i,0,g,tR _ rfl⟩)
abbrev Sp:=List V->Hp->VK->XK->Prop
abbrev wX:=List Env->Hp->Shared->XK->Value->Shared->Prop
structure Wt(P:Program)(w:World)(K:zdU)(mg:Str->Option Value)(base:Heap)(A:Around)(outer:List Env)(s:Shared)(H:Hp):Prop where
 frames:A.frames=some outer
 mod:Mod K mg base
 bs:∀b o,base.get? b=some o->s.heap.get? b=some o/\H b=none
 bsz:base.objs.size<=s.heap.objs.size
 funs:s.heap.FunFrames base outer
 frf:∀b∈GY outer,H b=none
 hok:ZS P w H s.heap
 bare:AllBare s.gens
inductive CE(outer:List Env)(P:Program)(w:World)(H:Hp)(s:Shared)(Q:VK)(u:Value)(s':Shared):Prop
 | mk (v:_) (H':_):s'.os=s.os->AllBare s'.gens->(Un (GY outer) [] H H' s.heap s'.heap)->ZS P w H' s'.heap->qM v u->Q v H'->CE outer P w H s Q u s'
def CR(b:wX)(outer:List Env)(P:Program)(w:World)(H:Hp)(s:Shared)(Q:VK)(E:XK)(r:Result)(a:Shared):Prop:=
 match r with
 | .ok (.ret u)=>CE outer P w H s Q u a
 | .ok _=>False
 | .error e=>b outer H s E e a
structure qp(P:Program)(w:World)(K:zdU)(mg:Str->Option Value)(base:Heap)(CX:wX)(k:Nat)(f:Addr)(fd:zdY)(ps:List Str)(sp:Sp):Prop where
 len:∀vs H Q E,sp vs H Q E->vs.length=ps.length
 run:∀(A:Around) (outer:List Env) (s:Shared) (H:Hp) (args:Args) (us:List Value) (vs:List V) (Q:VK) (E:XK),je k A->Wt P w K mg base A outer s H->BindsTo s fd args (ps.zip us)->qI vs us->sp vs H Q E->
  codeAny (model P w) A (.call (.ref f) args) (CR CX outer P w H s Q E) s
def pin(P:Program)(w:World)(mg:Str->Option Value)(base:Heap)(h:qp P w K mg base a k f b ps sp):qp P w K mg base a k f b ps sp:=h
def qp.imp{a:Sp}(F:qp P w K mg base b k f c ps sp)(h:∀vs H Q E,a vs H Q E->sp vs H Q E):qp P w K mg base b k f c ps a:=
 ⟨λvs H Q E q=>F.len vs H Q E (h _ _ _ _ q),λA a s H args b vs Q E hr c d e g=>F.run A a s H args b vs Q E hr c d e (h _ _ _ _ g)⟩
def Wt.make{P:Program}{w:World}{K:zdU}{mg:Str->Option Value}{base:Heap}{A:Around}{outer:List Env}{s:Shared}{H:Hp}(e:Wt P w K mg base A outer s H)(C:Addr)(us:List Value)(a:List (Str×Value)):
 Wt P w K mg base (A.under (.builtin "type.__call__" ⟨.ref C::us,a⟩)) outer s H:=⟨by first | exact e.frames | (simpa [Around.under,Code.envs,Code.isFrame,pushEnvs] using e.frames),e.mod,e.bs,e.bsz,e.funs,e.frf,e.hok,e.bare⟩
def Wt.in1(e:Wt P w K mg base A outer s H):
 Wt P w K mg base A.in1 outer s H:=⟨e.frames,e.mod,e.bs,e.bsz,e.funs,e.frf,e.hok,e.bare⟩
def qw.env0(I:qw X a_ a H s):Wt X.prog X.w X.K X.mg X.base X.A X.stack s H:=
 ⟨I.ok.frames,I.ok.mod,I.bs,tS I.ok.bsz I.sz,I.stack,I.stkFree,I.hok,I.bare⟩
def qw.after(I:qw X a_ c H s)(h:CE X.stack X.prog X.w H s Q u a):EP X a_ c Q u a:=by
 obtain⟨v,c,os,bare,un,e,g,q⟩:=h;obtain⟨i,j,d,t,l⟩:=a;obtain rfl:l=s.os:=os;exact⟨v,c,I.call (h':=i) (g':=j) (d':=d) (t':=t) (ch:=[]) un e bare (λb z=>absurd z (by simp)),g,q⟩
def Zg(sp:Sp)(a:List V)(E:XK)(t:TA):TE:=λb H Q=>t b H λb c=>sp (b++a) c Q E
inductive uj(C:Addr)(m:Str)(sp:Sp)(gV:List V)(E:XK)(t:TA)(σ:St)(Q:VK)(x:V)(H1:Hp):Prop
 | mk (a:_) (dx:_) (fs:_):x=.ref a->H1 a=some (.ins C dx fs)->fs.lookup m=none->(t σ H1 λvs H2=>sp (x::(vs++gV)) H2 Q E)->uj C m sp gV E t σ Q x H1
def Wz(C:Addr)(m:Str)(sp:Sp)(b:List V)(E:XK)(c:TE)(t:TA):TE:=λa H Q=>c a H λx c=>uj C m sp b E t a Q x c
def C4(C:Addr)(sp:Sp)(c:List V)(E:XK)(t:TA):TE:=λa H Q=>t a H λd b=>∀x a,b x=none->b a=none->a≠x->
 sp (.ref x::(d++c)) (upd (upd b a (.own x)) x (.ins C a [])) (λv a=>v=.non/\Q (.ref x) a) E
def jN(K:zdU)(c:zdY)(ps:List Str)(b:List Value):Prop:=
 ∀(s:Shared) (a:List Value),K.In s.heap->(a++b).length=ps.length->BindsTo s c ⟨a,[]⟩ (ps.zip (a++b))
def jN.all{K:zdU}{a:zdY}{ps:List Str}(h:∀us:List Value,us.length=ps.length->bindArgs a ⟨us,[]⟩=pure (ps.zip us)):jN K a ps []:=λs us _ a=>by
 rw[zam]at a ⊢;exact .of_eq (h us a)
def QT(b:wX)(X:Cx)(E:XK):Prop:=∀(c:List (Addr×Obj)) (d:St) (H:Hp) (s:Shared) (e:Value) (a:Shared),qw X c d H s->b X.stack H s E e a->X.xe e a
def Z5{X:Cx}(F:qp X.prog X.w X.K X.mg X.base i k f j ps sp)(hr:je k X.A)(l:jN X.K j ps b)(hd:qI c b)(m:QT i X E)(I:qw X a_ d H s)(r:qI vs us)(h:sp (vs++c) H Q E):wpAny (model X.prog X.w) X.A (call (.ref f) us) (EP X a_ d Q) X.xe s:=by
 have g:qI (vs++c) (us++b):=r.append hd;have o:(us++b).length=ps.length:=by rw[<-g.length];exact F.len _ _ _ _ h
 refine wpAny_call (codeAny_mono (F.run X.A X.stack s H ⟨us,[]⟩ (us++b) (vs++c) Q E hr I.env0 (l s us I.kIn o) g h) λr p a=>?_);cases r with
 | error e=>exact m a_ d H s e p I a
 | ok q=>
  cases q with
  | ret u=>exact I.after a
  | next=>exact False.elim a
  | brk=>exact False.elim a
  | cont=>exact False.elim a
def NF{X:Cx}(F:qp X.prog X.w X.K X.mg X.base a k f b ps sp)(hr:je k X.A)(c:Gl X x)(d:X.mg x=some (.ref f))(g:zar X.K (.ref f)=true)(i:jN X.K b ps j)(hd:qI l j)(m:QT a X E)(o:PA X (e::es) t)(r:(x==("__debug__":Str))=false:=by decide)(u:starEach (e::es) X.env=(false,eval e X.env)::starEach es X.env:=by rfl)(v:(backTo pos (starEach es X.env)).any (·.1)=false:=by rfl):
  PE X (.Call (.Name x p) (e::es) [] pos) (Zg sp l E t):=by
 intro a s b H Q I h;refine wpAny_Call_Name_kw (VO I c d ?_ r);refine zbx (h₀:=X.base) I.ok.mod.kin g (jg (o pos a s b H _ I h) λ_ _ ⟨_,_,a,b,q⟩=>⟨a.kIn,?_⟩) u v;exact Z5 F hr i hd m a b q
def NE{pl:Sem Bool}(i:PE X o g)(c:Wf X.K C)(b:Ws X.K C m f)(F:qp X.prog X.w X.K X.mg X.base j k f l ps sp)(hr:je k X.A)(p:jN X.K l ps r)(hd:qI v r)(y:QT j X E)(z:PA X (e::es) t)(B:starEach (e::es) X.env=(false,eval e X.env)::starEach es X.env:=by rfl)(D:(backTo pos (starEach es X.env)).any (·.1)=false:=by rfl) (J:eval (.Call (.Attribute o m c_) (e::es) [] pos) X.env=(do
   let d <-eval o X.env
   standAt c_.atName
   let (f,first) <-holding [d] (getMethod d m pl)
   callWith pos f first (backTo pos (starEach (e::es) X.env)) (backToKw pos (keywordEach [] X.env))):=by rfl):
  PE X (.Call (.Attribute o m c_) (e::es) [] pos) (Wz C m sp v E g t):=by
 intro d s g H Q I h;refine zbD (pl:=pl) (jg (i d s g H _ I h) λu j ⟨x,l,i,r,a,_,fs,v,L,O,q⟩=>?_) J;subst v;obtain rfl:u=Value.ref a:=r;refine QE i L c b O ?_;refine zbx (first:=[.ref a]) (h₀:=X.base) I.ok.mod.kin b.kp (jg (z pos d j g l _ i q) λd _ ⟨g,_,b,i,j⟩=>⟨b.kIn,?_⟩) B D;exact Z5 (us:=.ref a::d) (vs:=.ref a::g) F hr p hd y b (.cons rfl i) j
def Ml{pl:Sem Bool}(b:JE X o d)(c:Wf X.K C)(g:Ws X.K C m f)(F:qp X.prog X.w X.K X.mg X.base i k f j ps sp)(hr:je k X.A)(l:jN X.K j ps p)(hd:qI q p)(r:QT i X E)(u:JA X (e::es) t)(v:starEach (e::es) X.env=(false,eval e X.env)::starEach es X.env:=by rfl)(x:(backTo pos (starEach es X.env)).any (·.1)=false:=by rfl) (y:eval (.Call (.Attribute o m c_) (e::es) [] pos) X.env=(do
 let a <-eval o X.env
 standAt c_.atName
 let (f,first) <-holding [a] (getMethod a m pl)
 callWith pos f first (backTo pos (starEach (e::es) X.env)) (backToKw pos (keywordEach [] X.env))):=by rfl):JE X (.Call (.Attribute o m c_) (e::es) [] pos) (Wz C m sp q E d t):=.of (NE b.to c g F hr l hd r u.to v x y)
def Ks{pl:Sem Bool}(e:PE X o g)(c:Wf X.K C)(d:Ws X.K C m f)(F:qp X.prog X.w X.K X.mg X.base i k f j ps sp)(hr:je k X.A)(l:jN X.K j ps p)(hd:qI r p)(v:QT i X E) (y:eval (.Call (.Attribute o m c_) [] [] pos) X.env=(do
   let b <-eval o X.env
   standAt c_.atName
   let (f,first) <-holding [b] (getMethod b m pl)
   callWith pos f first (backTo pos (starEach [] X.env)) (backToKw pos (keywordEach [] X.env))):=by rfl):
  PE X (.Call (.Attribute o m c_) [] [] pos) (Wz C m sp r E g Qw):=by
 intro b s g H Q I h;refine zbD (pl:=pl) (jg (e b s g H _ I h) λu _ ⟨x,_,b,e,a,_,fs,g,i,j,q⟩=>?_) y;subst g;obtain rfl:u=Value.ref a:=e;refine QE b i c d j ?_;exact zcB (first:=[.ref a]) b.kIn d.kp (Z5 (us:=[.ref a]) (vs:=[.ref a]) F hr l hd v b (.cons rfl .nil) q)
def Gm{pl:Sem Bool}(b:JE X o d)(c:Wf X.K C)(e:Ws X.K C m f)(F:qp X.prog X.w X.K X.mg X.base g k f i ps sp)(hr:je k X.A)(j:jN X.K i ps l)(hd:qI p l)(q:QT g X E) (r:eval (.Call (.Attribute o m c_) [] [] pos) X.env=(do
 let a <-eval o X.env
 standAt c_.atName
 let (f,first) <-holding [a] (getMethod a m pl)
 callWith pos f first (backTo pos (starEach [] X.env)) (backToKw pos (keywordEach [] X.env))):=by rfl):JE X (.Call (.Attribute o m c_) [] [] pos) (Wz C m sp p E d Qw):=.of (Ks b.to c e F hr j hd q r)
structure Mk(K:zdU)(C f:Addr):Prop where
 makes:zbV K C=true
 init:t1 K (.ref C) "__init__"=some (some (.ref f))
 fn:zbw K (.ref f)=true
 kp:zar K (.ref C)=true
def Kd{X:Cx}{Q:VK}(M:Mk X.K C f)(F:qp X.prog X.w X.K X.mg X.base m k f o ps sp)(hr:je (k+1) X.A)(p:jN X.K o ps b)(hd:qI g b)(q:QT m X E)(I:qw X a_ i H s)(r:qI vs us)(h:∀x c,H x=none->H c=none->c≠x->sp (.ref x::(vs++g)) (upd (upd H c (.own x)) x (.ins C c [])) (λv y=>v=.non/\Q (.ref x) y) E):
  wpAny (model X.prog X.w) X.A (call (.ref C) us) (EP X a_ i Q) X.xe s:=by
 have j:=h (s.heap.objs.size+1) s.heap.objs.size (I.hok.fresh (Nat.le_succ _)) (I.hok.fresh (tc _)) (tW (zaG _));have d:=qw.made (C:=C) I;have l:qI (V.ref (s.heap.objs.size+1)::(vs++g)) (Value.ref (s.heap.objs.size+1)::(us++b)):=.cons rfl (r.append hd);have z:(Value.ref (s.heap.objs.size+1)::us++b).length=ps.length:=by
  have e:=l.length;rw[F.len _ _ _ _ j]at e;exact e.symm
 refine wpAny_call (K5 (f:=f) I.kIn M.makes M.init (beq_iff_eq.mp M.fn) (codeAny_mono (F.run _ X.stack _ _ ⟨Value.ref (s.heap.objs.size+1)::us,[]⟩ (Value.ref (s.heap.objs.size+1)::(us++b)) _ _ E (hr.make C us [])
  (d.env0.make C us []) (p _ (Value.ref (s.heap.objs.size+1)::us) d.kIn z) l j) λr B a=>?_))
 cases r with
 | error e=>exact q a_ i _ _ e B d a
 | ok D=>
  cases D with
  | ret u=>
   obtain⟨v,J,L,O,T,U⟩:=d.after a;subst T;exact⟨O,⟨V.ref (s.heap.objs.size+1),J,L,rfl,U⟩⟩
  | next=>exact False.elim a
  | brk=>exact False.elim a
  | cont=>exact False.elim a
def J4{X:Cx}(M:Mk X.K C f)(F:qp X.prog X.w X.K X.mg X.base b k f c ps sp)(hr:je (k+1) X.A)(d:Gl X x)(g:X.mg x=some (.ref C))(i:jN X.K c ps j)(hd:qI l j)(m:QT b X E)(a:JA X (e::es) t)(o:(x==("__debug__":Str))=false:=by decide)(r:starEach (e::es) X.env=(false,eval e X.env)::starEach es X.env:=by rfl)(u:(backTo pos (starEach es X.env)).any (·.1)=false:=by rfl):JE X (.Call (.Name x p) (e::es) [] pos) (C4 C sp l E t):=.of (by
 have a:=a.to;intro b s c H Q I h;refine wpAny_Call_Name_kw (VO I d g ?_ o);refine zbx (h₀:=X.base) I.ok.mod.kin M.kp (jg (a pos b s c H _ I h) λ_ _ ⟨_,_,a,b,q⟩=>⟨a.kIn,?_⟩) r u;exact Kd M F hr i hd m a b q)
structure qh(N P:List Str)(sc:Scope):Prop where
 kind:sc.kind=.function
 co:sc.isCoroutine=false
 gen:sc.isGenerator=false
 nd:N.Nodup
 pre:N.take P.length=P
 par:∀x∈P,sc.names.lookup x=some .local\/sc.names.lookup x=some .cell
 nofree:∀y∈sc.names,y.2≠.free
def jY{N P:List Str}{sc:Scope}(a:sc.kind=.function:=by exact rfl)(b:sc.isCoroutine=false:=by exact rfl)(c:sc.isGenerator=false:=by exact rfl)(d:N.Nodup:=by decide+kernel)(e:N.take P.length=P:=by exact rfl)(f:∀x∈P,sc.names.lookup x=some .local\/sc.names.lookup x=some .cell:=by decide+kernel)(g:∀y∈sc.names,y.2≠.free:=by decide+kernel):qh N P sc:=⟨a,b,c,d,e,f,g⟩
def Vh{e6:Str->Option NameKind}{x:Str}:∀{binds:List (Str×Value)} {m:Str->Option Value},(∀v,(x,v)∉binds)->bindL e6 binds m x=m x
 | [],_,_=>rfl
 | (n,v)::a,m,h=>by
  unfold bindL;rw[Vh λw a=>h w (tA _ a)];split
  ·have:x≠n:=by rintro rfl;exact h v tE
   simp [this]
  ·rfl
def Vj{e6:Str->Option NameKind}{x:Str}:∀{binds:List (Str×Value)} {m:Str->Option Value},(∀v,(x,v)∉binds)->bindC e6 binds m x=m x
 | [],_,_=>rfl
 | (n,v)::a,m,h=>by
  unfold bindC;rw[Vj λw a=>h w (tA _ a)];split
  ·rfl
  ·have:x≠n:=by rintro rfl;exact h v tE
   simp [this]
def Vi{e6:Str->Option NameKind}:∀{P:List Str} {vs:List Value} {i:Nat} {m:Str->Option Value},P.Nodup->P[i]?=some x->vs[i]?=some v->e6 x=some .local->
  bindL e6 (P.zip vs) m x=some v
 | [],_,_,_,_,h,_,_=>by simp at h
 | _::_,[],_,_,_,_,h,_=>by simp at h
 | a::P,w::vs,0,m,d,b,c,e=>by
  simp at b c;subst b;subst c;show bindL e6 ((a,w)::P.zip vs) m a=_;unfold bindL;rw[Vh λv g=>(zaa.mp d).1 (zbn g).1,if_pos e];simp
 | a::P,w::vs,i+1,m,d,b,c,e=>by
  show bindL e6 ((a,w)::P.zip vs) m x=_;unfold bindL;exact Vi (i:=i) (zaa.mp d).2 (by simpa using b) (by simpa using c) e
def Vk{e6:Str->Option NameKind}:∀{P:List Str} {vs:List Value} {i:Nat} {m:Str->Option Value},P.Nodup->P[i]?=some x->vs[i]?=some v->e6 x≠some .local->
  bindC e6 (P.zip vs) m x=some v
 | [],_,_,_,_,h,_,_=>by simp at h
 | _::_,[],_,_,_,_,h,_=>by simp at h
 | a::P,w::vs,0,m,d,b,c,e=>by
  simp at b c;subst b;subst c;show bindC e6 ((a,w)::P.zip vs) m a=_;unfold bindC;rw[Vj λv g=>(zaa.mp d).1 (zbn g).1,if_neg e];simp
 | a::P,w::vs,i+1,m,d,b,c,e=>by
  show bindC e6 ((a,w)::P.zip vs) m x=_;unfold bindC;exact Vk (i:=i) (zaa.mp d).2 (by simpa using b) (by simpa using c) e
def jT(N:List Str)(vs:List V):St:=vs.map some++zdv (N.length - vs.length) none
def zS(b:wX)(P:Program)(w:World)(K:zdU)(mg:Str->Option Value)(base:Heap)(N:List Str)(qual:Str)(scope:Scope)(f:Addr)(a:Value)(A:Around)(outer:List Env)(s:Shared)(H:Hp)(E:XK):Cx where
 prog:=P
 w:=w
 K:=K
 mg:=mg
 base:=base
 A:=A.deeper (envOfC qual scope s.heap.objs.size f a)
 N:=N
 s₀:=s
 H₀:=H
 env:=envOfC qual scope s.heap.objs.size f a
 outer:=outer
 stack:=envOfC qual scope s.heap.objs.size f a::outer
 ex:=[]
 calm:=true
 fn:=λ_=>true
 pn:=[]
 xe:=λe c=>wpAny (model P w) (A.deeper (envOfC qual scope s.heap.objs.size f a)) (leaving (envOfC qual scope s.heap.objs.size f a) e) (λ_ a=>b outer H s E e a) (λd a=>b outer H s E d a) c
def vt{sc:Scope}(h:sc.names.lookup x=some .cell):∃c,(cellsFrom n sc.names []).lookup x=some c:=by
 have q:=zcd sc.names n [] (.inl h);exact zbT.mp q
def W9{j:wX}{P:Program}{w:World}{K:zdU}{mg:Str->Option Value}{base:Heap}{N ps:List Str}{qual:Str}{scope:Scope}{f:Addr}{d:Value}{A:Around}{outer:List Env}{s l:Shared}{H:Hp}{E:XK}{us:List Value}{vs:List V}
  (S:qh N ps scope) (hd:A.handled=none) (g:Wt P w K mg base A outer s H) (m:vs.length=ps.length) (r:qI vs us)
  (x:InCallC s s.heap.objs.size (bindL (envOfC qual scope s.heap.objs.size f d).kindOf (ps.zip us) λ_=>none) (cellsFrom (s.heap.objs.size+1) scope.names []) (bindC (envOfC qual scope s.heap.objs.size f d).kindOf (ps.zip us) λ_=>none) l):
  qw (zS j P w K mg base N qual scope f d A outer s H E) [] (jT N vs) H l:=by
 have l:ps.length<=N.length:=by have:=congrArg zad S.pre;rw[tJ]at this;omega
 obtain⟨m,tk,rfl,o⟩:=x.done;have l:∀b:Addr,b∉(zS j P w K mg base N qual scope f d A outer s H E).ex:=λb z=>absurd (show b∈([]:List Addr) from z) (by simp);refine⟨⟨g.mod,S.kind,rfl,rfl,tc _,λy z c m d=>?_,λy j=>?_,λy c _ h=>?_,λ_=>hd,Around.frames_deeper g.frames,.inr ⟨rfl,rfl⟩,λb z=>absurd z (l b),g.bs,g.bsz,λb _ _=>l b,λb z=>absurd z (l b),g.funs,g.frf⟩,
  rfl,g.bare,Un.kept o,⟨_,x.toInCall.ns,λi y v m d _=>?_⟩,λy c h=>⟨_,x.cell y c h⟩,g.hok.fresh (tc _),λy c h=>?_,λp l=>absurd (show p∈([]:List (Addr×Obj)) from l) (by simp),g.hok.kept o,?_⟩
 ·exact name_of_addr x.apart (PySem.mem_of_lookup m) (PySem.mem_of_lookup d)
 ·have j:scope.names.lookup y=some .cell\/scope.names.lookup y=some .free:=j;rcases j with j | j
  ·exact vt j
  ·exact absurd rfl (S.nofree _ (PySem.mem_of_lookup j))
 ·exact t6 (x.above y c (PySem.mem_of_lookup h))
 ·have j:i < vs.length:=by
   unfold jT at d;by_cases j:i < vs.length
   ·exact j
   ·rw[tP (by simpa using j)]at d;rw[zbY]at d;split at d<;>cases d
  have o:vs[i]?=some v:=by
   unfold jT at d;rw[tV (by simpa using j),tp]at d;cases e:vs[i]? with
   | none=>rw[e]at d;cases d
   | some a=>rw[e]at d;cases d;rfl
  obtain⟨u,hu,j⟩:=r.get o;have l:ps[i]?=some y:=by
   rw[<-S.pre,zaT (by omega)];exact m
  have d:ps.Nodup:=by rw[<-S.pre];exact S.nd.sublist (zce _ _)
  refine⟨u,j,?_⟩;rcases S.par y (tL l) with k | k
  ·exact .inl ⟨k,Vi d l hu k⟩
  ·obtain⟨c,e⟩:=vt (n:=s.heap.objs.size+1) k;refine .inr ⟨.inl k,c,e,?_⟩;have q:=x.cell y c e;rw[Vk d l hu (by show scope.names.lookup y≠_;rw[k];decide)]at q;exact q
 ·exact .inl (g.hok.fresh (t6 (x.above y c (PySem.mem_of_lookup h))))
 ·unfold jT;show _=N.length;rw[tm,ta,zbE];omega
def Et{j:wX}{P:Program}{w:World}{K:zdU}{mg:Str->Option Value}{base:Heap}{k:Nat}{f:Addr}{name qual:Str}{r:Arguments}{ff:List Stmt}{scope:Scope}{z kV B pm d ct oc:Value}{C O:Option Addr}
  {T:Array (Option Value)} {N ps:List Str} {sp:Sp} (lk:K.lookup f=some ⟨oc,O,.func (zaH name qual r ff scope z kV B pm C d ct),T⟩) (U:zaQ K d qual=true) (S:qh N ps scope)
  (len:∀vs H Q E,sp vs H Q E->vs.length=ps.length)
  (Y:∀(A:Around) (outer:List Env) (s:Shared) (H:Hp) (vs:List V) (Q:VK) (E:XK),je k (A.deeper (envOfC qual scope s.heap.objs.size f d))->sp vs H Q E->
   ∃t,AT (zS j P w K mg base N qual scope f d A outer s H E) ff t/\t {nx:=λ_ a=>Q .non a,rt:=Q} (jT N vs) H):
  qp P w K mg base j (k+1) f (zaH name qual r ff scope z kV B pm C d ct) ps sp:=by
 refine⟨len,λA outer s H args us vs Q E hr i hb aa D=>?_⟩;have hl:=len _ _ _ _ D;have J:K.In s.heap:=i.mod.kin.keeps λb m e=>(i.bs b m e).1;have ab:s.heap.NoLimit:=i.mod.nolimit.keeps λb m e=>(i.bs b m e).1;have ac:∀y∈ps.zip us,scope.names.lookup y.1=some .local\/(scope.names.lookup y.1=some .cell/\((cellsFrom (s.heap.objs.size+1) scope.names []).lookup y.1).isSome=true):=λ⟨n,v⟩ hy=>by
  rcases S.par n (zbn hy).1 with q | q
  ·exact .inl q
  ·exact .inr ⟨q,zcd _ _ _ (.inl q)⟩
 refine codeAny_call_function hr.depth (J _ _ lk) rfl S.co S.gen rfl (zdD J U) (hb _ _ _ _ ?_);refine wpAny_newFunctionEnv_cells S.kind ac λae he L x=>?_;subst he;refine⟨ab.keeps x.toInCall.keep,codeAny_func ?_⟩;obtain⟨t,ht,hq⟩:=Y A outer s H vs Q E (hr.deeper _) D;have I:qw (zS j P w K mg base N qual scope f d A outer s H E) [] (jT N vs) H L:=W9 S hr.hd i hl aa x;refine wpAny_mono (ht [] L (jT N vs) H _ I hq) (λfl o g=>?_) λe o g=>g;have d_:∀{l:St} {a:Hp} {v:V} {u:Value},qw (zS j P w K mg base N qual scope f d A outer s H E) [] l a o->qM v u->Q v a->CE outer P w H s Q u o:=
  λ{l a v u} c p q=>⟨v,a,c.os,c.bare,c.base,c.hok,p,q⟩
 cases fl with
 | ret u=>
  obtain⟨v,l,a,c,p,q⟩:=g;exact d_ c p q
 | next=>
  obtain⟨l,a,c,q⟩:=g;exact d_ (v:=V.non) (u:=Value.none) c rfl q
 | brk=>
  obtain⟨_,_,_,q⟩:=g;exact False.elim q
 | cont=>
  obtain⟨_,_,_,q⟩:=g;exact False.elim q
open PyProof.Rows hiding K lo
def De(r:List V->Hp->VK->Prop)(t:TA):TE:=λa H Q=>t a H λa b=>r a b Q
def qu{X:Cx}{x:Str}{p:Pos}{pos:Pos}{e:Expr}{es:List Expr}{t:TA}{id:String}{r:List V->Hp->VK->Prop}(d:QX X (.builtin id) r)(g:Gl X x)(i:X.mg x=none)(j:bootBuiltins x=some (.builtin id))(a:JA X (e::es) t)(l:x≠"__name__":=by decide)(m:(x==("__debug__":Str))=false:=by decide)(o:starEach (e::es) X.env=(false,eval e X.env)::starEach es X.env:=by rfl)(q:(backTo pos (starEach es X.env)).any (·.1)=false:=by rfl):JE X (.Call (.Name x p) (e::es) [] pos) (De r t):=.of (by
 have a:=a.to;intro b s c H Q I h;refine wpAny_Call_Name_kw (QS I g i j ?_ l m);exact PyProof.Rows.callWith_builtin1 (jg (a pos b s c H _ I h) λa g ⟨i,j,l,m,u⟩=>d b g c j i a Q l m u) o q)
def jo(d:QX X (.type T) r)(g:Gl X x)(i:X.mg x=none)(j:bootBuiltins x=some (.type T))(a:JA X (e::es) t)(l:x≠"__name__":=by decide)(m:(x==("__debug__":Str))=false:=by decide)(o:starEach (e::es) X.env=(false,eval e X.env)::starEach es X.env:=by rfl)(q:(backTo pos (starEach es X.env)).any (·.1)=false:=by rfl):JE X (.Call (.Name x p) (e::es) [] pos) (De r t):=.of (by
 have a:=a.to;intro b s c H Q I h;refine wpAny_Call_Name_kw (QS I g i j ?_ l m);exact PyProof.Rows.callWith_type1 (jg (a pos b s c H _ I h) λa g ⟨i,j,l,m,u⟩=>d b g c j i a Q l m u) o q)
end L2
namespace HT
open PySem
open PyProof.Rows hiding K lo
section
open PySem.SeqAt
open PySem.AutoSeq1 (wpAny_loadPart')
open PySem.MeetsSeq PySem.MeetsSeq2 PySem.MeetsSeq3
end
def sIx(n d:Nat):Option Int->Nat
 | none=>d
 | some v=>if v < 0 then (v+(n:Int)).toNat else min v.toNat n
def sIx_none(n d:Nat):sIx n d none=d:=rfl
def sIx_nat(n d k:Nat):sIx n d (some (k:Int))=min k n:=by
 show (if (k:Int) < 0 then ((k:Int)+(n:Int)).toNat else min (k:Int).toNat n)=min k n;rw[if_neg (by omega),zaC]
end HT
namespace L2
open PySem PySem.Spec
open PyProof.Rows hiding K lo
abbrev TO:=St->Hp->(Option Int->Hp->Prop)->Prop
def PO(X:Cx)(e:Option Expr)(t:TO):Prop:=
 ∀(b:List (Addr×Obj)) (s:Shared) (a:St) (H:Hp) (Q:Option Int->Hp->Prop),qw X b a H s->t a H Q->
  wpAny (model X.prog X.w) X.A (evalPart e X.env) (λu g=>∃c d,qw X b a d g/\IsPart u c/\Q c d) X.xe s
@[irreducible] def JO (X:Cx) (e:Option Expr) (t:TO):Prop:=PO X e t
def JO.of(h:PO X e t):JO X e t:=by unfold JO;exact h
def JO.to(h:JO X e t):PO X e t:=by unfold JO at h;exact h
def RI:TO:=λ_ H Q=>Q none H
inductive uh(Q:Option Int->Hp->Prop)(x:V)(H1:Hp):Prop
 | mk (i:_):x=.int i->(Q (some i) H1)->uh Q x H1
def C1(t:TE):TO:=λa H Q=>t a H λx a=>uh Q x a
def ku{ns:List Int}:∀{us:List Value},qI (ns.map V.int) us->IntsAre us ns:=by
 induction ns with
 | nil=>intro us a;rw[zcf]at a;cases a;exact .nil
 | cons n ns b=>
  intro us a;rw[tG]at a;cases a with
  | cons a c=>
   obtain⟨t,e⟩:=a;subst e;exact .cons n t (b c)
def zI:JO X none RI:=.of (by
 intro _ s _ H Q I h;rw[evalPart_none];exact zdX ⟨none,H,I,.none,h⟩)
def zH(h:JE X e te):JO X (some e) (C1 te):=.of (by
 have h:=h.to;intro a s b H Q I c;rw[evalPart_some];refine jg (h a s b H _ I c) λu _ ⟨x,a,b,c,d⟩=>?_;obtain⟨i,rfl,q⟩:=d;obtain⟨t,rfl⟩:=c;exact⟨some i,a,b,.int i t,q⟩)
def Ht(X:Cx)(r:V->Option Int->Option Int->Hp->VK->Prop):Prop:=
 ∀(a:List (Addr×Obj)) (s:Shared) (b:St) (H:Hp) (x:V) (v c d:Value) (lo e:Option Int) (g:Addr) (Q:VK),qw X a b H s->qM x v->s.heap.IsSliceOf g c d .none->IsPart c lo->IsPart d e->r x lo e H Q->
  ∃c id,typeLookup (.type c) "__getitem__"=pure (some (.builtin id))/\s.TypeIs v c/\wpAny (model X.prog X.w) X.A (getItem v (.ref g)) (EP X a b Q) X.xe s
def tSl(r:V->Option Int->Option Int->Hp->VK->Prop)(te:TE)(b c:TO):TE:=λa H Q=>te a H λx d=>b a d λb d=>c a d λu a=>r x b u a Q
def Zo{X:Cx}{e:Expr}{te:TE}{lo:Option Expr}{j:Option Expr}{c:TO}{d:TO}{pos:Pos}{p2:Pos}{r:V->Option Int->Option Int->Hp->VK->Prop}(hr:Ht X r)(a:JE X e te)(g:JO X lo c)(hu:JO X j d):JE X (.Subscript e (.Slice lo j none p2) pos) (tSl r te c d):=.of (by
 have a:=a.to;have g:=g.to;have hu:=hu.to;intro c s d H Q I h;refine Subscript_ (jg (a c s d H _ I h) λv a ⟨x,i,l,m,o⟩=>?_);refine wpAny_Slice (jg (g c a d i _ l o) λg a ⟨o,i,l,p,y⟩=>jg (hu c a d i _ l y) λi a ⟨u,l,y,z,B⟩=>?_);rw[evalPart_none];refine zdX ?_;have C:qw X c d l {a with heap:=a.heap.push {cls:=.type "slice",data:=.fields #[g,i,.none]}}:=y.kept (t':=a.toks) λb _ q=>tj _ q;obtain⟨_,id,y,D,J⟩:=hr c {a with heap:=a.heap.push {cls:=.type "slice",data:=.fields #[g,i,.none]}} d l x v g i o u a.heap.objs.size Q C m (Heap.IsSliceOf.new ..) p z B;show wpAny (model X.prog X.w) X.A (subscriptTail e (.Slice lo j none p2) v (.ref a.heap.objs.size)) (EP X c d Q) X.xe {a with heap:=a.heap.push {cls:=.type "slice",data:=.fields #[g,i,.none]}};exact tail_any (ops:=[.ref a.heap.objs.size,v]) D y J (by with_unfolding_all rfl))
def vr(xs:List V)(lo a:Option Int):List V:=(xs.drop (HT.sIx xs.length 0 lo)).take (HT.sIx xs.length xs.length a - HT.sIx xs.length 0 lo)
def vq(xs:List V)(lo a:Option Int):(vr xs lo a).length<=xs.length:=by
 unfold vr;rw[tJ,List.length_drop];omega
open PyProof.Rows hiding K lo
def Gv(n:Nat)(i:Int):Option Nat:=if 0<=i then (if i < n then some i.toNat else none) else if -(n:Int)<=i then some (i+n).toNat else none
def Wo(xs:List α)(i:Int):Option α:=(Gv xs.length i).bind λa=>xs[a]?
def yY(h:Gv n i=some j):seqIndex? i n=some j/\j < n/\-(n:Int)<=i/\i < n:=by
 unfold Gv at h;by_cases b:0<=i
 ·rw[if_pos b]at h;by_cases a:i < n
  ·rw[if_pos a]at h;have e:i.toNat=j:=tz.inj h;exact⟨by rw[seqIndex_of b a,e],by omega,by omega,a⟩
  ·rw[if_neg a]at h;cases h
 ·rw[if_neg b]at h;by_cases a:-(n:Int)<=i
  ·rw[if_pos a]at h;have e:(i+n).toNat=j:=tz.inj h;exact⟨by rw[seqIndex_neg (by omega) a,e],by omega,a,by omega⟩
  ·rw[if_neg a]at h;cases h
def atI_get{α:Type}{xs:List α}{i:Int}{v:α}(h:Wo xs i=some v):∃j,seqIndex? i xs.length=some j/\xs[j]?=some v/\j < xs.length/\-(xs.length:Int)<=i/\i < xs.length:=by
 unfold Wo at h;cases e:Gv xs.length i with
 | none=>rw[e]at h;cases h
 | some j=>
  rw[e]at h;obtain⟨a,b,c,d⟩:=yY e;exact⟨j,a,h,b,c,d⟩
def ZJ{α:Type}{xs:List α}{j:Nat}{v:α}(h:xs[j]?=some v):Wo xs (j:Int)=some v:=by
 have a:j < xs.length:=(td.mp h).1;have e:Gv xs.length (j:Int)=some j:=by
  unfold Gv;rw[if_pos (by omega),if_pos (by omega)];simp
 unfold Wo;rw[e];exact h
def MK(b:Expr):Prop:=∀a i,subscripted b false a i=operate [a,i] (getItem a i)
def E9(X:Cx)(r:R2):Prop:=
 ∀(fc fg:Expr) (a:List (Addr×Obj)) (s:Shared) (b:St) (H:Hp) (x y:V) (v u:Value) (Q:VK),qw X a b H s->qM x v->qM y u->r x y H Q->
  subscripted fg false v u=operate [v,u] (getItem v u)->wpAny (model X.prog X.w) X.A (subscriptTail fc fg v u) (EP X a b Q) X.xe s
def CF(X:Cx)(id:String)(r:V->List V->Hp->VK->Prop):Prop:=
 ∀(a:List (Addr×Obj)) (s:Shared) (b:St) (H:Hp) (x:V) (c:List V) (v:Value) (d:List Value) (Q:VK),qw X a b H s->qM x v->qI c d->r x c H Q->
  wpAny (model X.prog X.w) X.A (call (.builtin id) (v::d)) (EP X a b Q) X.xe s
def qB(hr:E9 X r)(c:JE X a e)(d:JE X b tb)(hs:MK b:=by exact λ_ _=>rfl):JE X (.Subscript a b pos) (z5 r e tb):=.of (by
 have c:=c.to;have d:=d.to;intro e s g H Q I h;exact Subscript_ (Cv c d I h λv u c x y d i j l q=>hr a b e c g d x y v u Q i j l q (hs _ _)))
inductive Aw(K:zdU)(x:V)(y:V)(H:Hp)(Q:VK):Prop
 | mk (p:_) (xs:_) (i:_) (v:_):x=.ref p->y=.int i->SqL K H p xs->Wo xs i=some v->Q v H->Aw K x y H Q
def Bx(K:zdU):R2:=λx y H Q=>Aw K x y H Q
inductive Au(K:zdU)(x:V)(y:V)(H:Hp)(Q:VK):Prop
 | mk (p:_) (xs:_) (i:_) (v:_):x=.ref p->y=.int i->SqT K H p xs->Wo xs i=some v->Q v H->Au K x y H Q
def zy(K:zdU):R2:=λx y H Q=>Au K x y H Q
inductive Av(x:V)(y:V)(H:Hp)(Q:VK):Prop
 | mk (z:_) (i:_) (c:_):x=.str z->y=.int i->(z.length<=zdZ)->Wo z.cps.toList i=some c->(Q (.str ⟨#[c]⟩) H)->Av x y H Q
def FW:R2:=λx y H Q=>Av x y H Q
def qR{X:Cx}:E9 X (Bx X.K):=by
 intro fc fg e s g H x y v u Q I a b h j;obtain⟨_,_,i,z,rfl,rfl,d,m,q⟩:=h;cases a;obtain⟨t,rfl⟩:=b;obtain⟨p,a,c,_⟩:=I.list d;obtain⟨l,b,d,_,r,B⟩:=atI_get m;obtain⟨w,m,o⟩:=a.get d;have C:=a.length;have d:=Yl;have d_:EP X e g Q w s:=⟨z,H,I,o,q⟩;by_cases o:0<=i
 ·have d:i.toNat=l:=by
   rw[seqIndex_of o B]at b;exact tz.inj b
  exact item_listR c.isList o (by omega) (by rw[d];simpa using m) d_ j
 ·have d:(i+(p.toArray.size:Int)).toNat=l:=by
   rw[seqIndex_neg (by omega) r]at b;rw[tU,<-C];exact tz.inj b
  exact subscriptTail_builtinR (x:=w) c.isList.typeIs slot_list_getitem.lookup
   (wpAny_getItem_list_neg (Q:=λa b=>a=w/\EP X e g Q a b) c.isList (by omega) (by rw[tU]<;>omega) (by omega) (by rw[d];simpa using m) ⟨rfl,d_⟩) j
def qJ{X:Cx}:E9 X (zy X.K):=by
 intro fc fg b s c H x y v u Q I a d h e;obtain⟨_,_,i,z,rfl,rfl,g,j,q⟩:=h;cases a;obtain⟨t,rfl⟩:=d;obtain⟨_,a,d,_⟩:=I.tuple g;obtain⟨g,l,m,_,_,_⟩:=atI_get j;obtain⟨w,j,o⟩:=a.get m;have m:=a.length;have p:=Yl;have d_:EP X b c Q w s:=⟨z,H,I,o,q⟩;exact subscriptTail_builtinR (x:=w) d.typeIs slot_tuple_getitem.lookup
  (getItem_tuple (j:=g) (Q:=λa g=>a=w/\EP X b c Q a g) d (by omega) (by omega) (by rw[tU,<-m];exact l) (by simpa using j) ⟨rfl,d_⟩) e
def Gu{X:Cx}:E9 X FW:=by
 intro fc fg _ s _ H x y v u Q I a b h d;obtain⟨z,i,c,rfl,rfl,_,e,q⟩:=h;obtain⟨t,rfl⟩:=a;obtain⟨_,rfl⟩:=b;obtain⟨_,a,b,_,g,j⟩:=atI_get e;have e:z.cps.toList.length=z.length:=by simp [Str.length]
 rw[e]at a g j;have e:=Yl;exact tail_any (typeIs_str s z t) slot_str_getitem.lookup (getItem_str (c:=c) (by
  have e:decide (i < -(2^63:Int))=false:=decide_eq_false (by omega);have g:decide (i ≥ 2^63)=false:=decide_eq_false (by omega);rw[e,g,Bool.or_false]) (by rw[a];simpa using b) ⟨.str ⟨#[c]⟩,H,I.tok _,⟨_,rfl⟩,q⟩) d
def kg(a:List Value)(n j:Nat)(u:Value):Obj.mapSeq (·.setIfInBounds j u) {cls:=.type "list",data:=.seq a.toArray n}={cls:=.type "list",data:=.seq (a.set j u).toArray n}:=by
 simp [Obj.mapSeq]
def qw.lst(I:qw X a_ b H s)(h:H p=some (.lst xs)):
  ∃(a:List Value) (n:Nat),qI xs a/\s.heap.get? p=some {cls:=.type "list",data:=.seq a.toArray n}/\xs.length<=zdZ:=by
 obtain⟨z,a,n,b,e⟩:=I.hok p _ h;exact⟨a,n,b,e,z⟩
def qw.lstUpd{a its':List Value}{f:Obj->Obj}(I:qw X a_ i H s)(h:H p=some (.lst xs))(j:s.heap.get? p=some {cls:=.type "list",data:=.seq a.toArray n})(c:f {cls:=.type "list",data:=.seq a.toArray n}={cls:=.type "list",data:=.seq its'.toArray d})(r:qI g its')(hz:g.length<=zdZ)(t:Nat):
  qw X a_ i (upd H p (.lst g)) {s with heap:=s.heap.update p f,toks:=t}:=by
 have e:(s.heap.update p f).get? p=some {cls:=.type "list",data:=.seq its'.toArray d}:=by
  rw[zbm f j (by rw[c]<;>rfl),c]
 refine I.write (x:=p) (e:=p) (by rw[h];trivial) (.inl rfl) (λb u a q=>(zax _ _ (Ne.symm a)).trans q) ⟨_,e⟩ ?_;exact⟨hz,its',d,r,e⟩
inductive Kj(o:V)(i:V)(v:V)(H:Hp)(Q:(Hp->Prop)):Prop
 | mk (p:_) (xs:_) (k:_) (j:_):o=.ref p->i=.int k->H p=some (.lst xs)->Gv xs.length k=some j->(Q (upd H p (.lst (xs.set j v))))->Kj o i v H Q
def DQ:V->V->V->Hp->(Hp->Prop)->Prop:=λa i v H Q=>Kj a i v H Q
def UQ:CC X DQ:=by
 intro r s x H _ i v _ _ u Q I b c y h;obtain⟨e,z,k,a,rfl,rfl,g,d,q⟩:=h;cases b;obtain⟨t,rfl⟩:=c;obtain⟨j,n,l,c,B⟩:=I.lst g;obtain⟨b,_,m,o⟩:=yY d;have d:=l.length;have p:=Yl;have p:qw X r x (upd H e (.lst (z.set a v))) {s with heap:=s.heap.update e (Obj.mapSeq (·.setIfInBounds a u))}:=
  I.lstUpd g c (kg j n a u) (l.set y a) (by rw[zby];exact B) s.toks
 by_cases g:0<=k
 ·have e:k.toNat=a:=by
   rw[seqIndex_of g o]at b;exact tz.inj b
  exact PySem.W.ki_setAt c g (by omega) (by rw[tU,<-d];exact o) (by rw[e];exact⟨_,p,q⟩)
 ·have e:(k+(j.toArray.size:Int)).toNat=a:=by
   rw[seqIndex_neg (by omega) m]at b;rw[tU,<-d];exact tz.inj b
  exact PySem.W.ki_setBack c (by omega) (by rw[tU,<-d];exact m) (by omega) (by rw[e];exact⟨_,p,q⟩)
def Vw(lo a:Option Int)(n:Nat):(sliceBounds lo a none n).1=((HT.sIx n 0 lo:Nat):Int)/\(sliceBounds lo a none n).2.1=((HT.sIx n n a:Nat):Int)/\(sliceBounds lo a none n).2.2=1:=by
 refine⟨?_,?_,rfl⟩
 ·cases lo with
  | none=>simp [sliceBounds,HT.sIx]
  | some i=>
   simp only[sliceBounds,HT.sIx,zdS,show (1:Int) > 0 by decide,if_true];by_cases h:i < 0
   ·simp only[h,if_true]<;>omega
   ·simp only[h,if_false]<;>omega
 ·cases a with
  | none=>simp [sliceBounds,HT.sIx]
  | some i=>
   simp only[sliceBounds,HT.sIx,zdS,show (1:Int) > 0 by decide,if_true];by_cases h:i < 0
   ·simp only[h,if_true]<;>omega
   ·simp only[h,if_false]<;>omega
def Wj(a:List Value)(lo b:Option Int):slicePick a.toArray lo b none=((a.drop (HT.sIx a.length 0 lo)).take (HT.sIx a.length a.length b - HT.sIx a.length 0 lo)).toArray:=by
 obtain⟨c,d,e⟩:=Vw lo b a.toArray.size;unfold slicePick;rw[c,d,e];simp only[sliceRange_one,pick_run,tU]<;>rfl
inductive As(K:zdU)(x:V)(lo:Option Int)(hi:Option Int)(H:Hp)(Q:VK):Prop
 | mk (a:_) (xs:_):x=.ref a->SqL K H a xs->(∀p,H p=none->Q (.ref p) (upd H p (.lst (vr xs lo hi))))->As K x lo hi H Q
def FV(K:zdU):V->Option Int->Option Int->Hp->VK->Prop:=λx lo a H Q=>As K x lo a H Q
def Vx:Ht X (FV X.K):=by
 intro _ s _ H x v _ _ lo d _ Q I e i j l h;obtain⟨a,c,rfl,m,q⟩:=h;cases e;obtain⟨_,e,g,o⟩:=I.list m;have m:=e.length;refine⟨"list",_,slot_list_getitem.lookup,g.isList.typeIs,?_⟩;refine wpAny_getItem_list_slice g.isList i j l .none (by simp) ?_ (by rw[tU]<;>omega);rw[Wj,<-m];refine⟨.ref s.heap.objs.size,_,I.laid (t':=s.toks) (o:=.lst (vr c lo d)) (λb _ q=>tj _ q) (tc _) ?_,rfl,q _ (I.hok.fresh (tc _))⟩;exact⟨tS (vq c lo d) o,_,0,(e.drop (HT.sIx c.length 0 lo)).take (HT.sIx c.length c.length d - HT.sIx c.length 0 lo),tR _ rfl⟩
def ZZ:V->Bool
 | .non=>true
 | .bl _=>true
 | .int _=>true
 | .str _=>true
 | _=>false
def AQ:V->V->Bool
 | .non,.non=>true
 | .bl a,.bl b=>a==b
 | .bl a,.int b=>(if a then 1 else 0)==b
 | .int a,.bl b=>a==(if b then 1 else 0)
 | .int a,.int b=>a==b
 | .str a,.str b=>a==b
 | _,_=>false
def Cp{A:Around}{s:Shared}{y x:V}{u v:Value}(e:qM y u)(c:qM x v)(i:ZZ y=true)(g:ZZ x=true):SeqAt.EqAt A s u v (AQ y x):=by
 cases y with
 | non=>
  cases e;cases x with
  | non=>cases c;exact SeqAt.EqAt.same _
  | bl b=>cases c;exact SeqAt.EqAt.none_bool b
  | int b=>obtain⟨t,rfl⟩:=c;exact SeqAt.EqAt.none_int b t
  | str b=>obtain⟨t,rfl⟩:=c;exact SeqAt.EqAt.none_str b t
  | _=>exact absurd (show false=true from g) tH
 | bl a=>
  cases e;cases x with
  | non=>cases c;exact SeqAt.EqAt.bool_none a
  | bl b=>cases c;exact SeqAt.EqAt.bool_bool a b
  | int b=>obtain⟨t,rfl⟩:=c;exact SeqAt.EqAt.bool_int a b t
  | str b=>obtain⟨t,rfl⟩:=c;exact SeqAt.EqAt.bool_str a b t
  | _=>exact absurd (show false=true from g) tH
 | int a=>
  obtain⟨d,rfl⟩:=e;cases x with
  | non=>cases c;exact SeqAt.EqAt.int_none a d
  | bl b=>cases c;exact SeqAt.EqAt.int_bool a d b
  | int b=>obtain⟨t,rfl⟩:=c;exact SeqAt.EqAt.int_int a d b t
  | str b=>obtain⟨t,rfl⟩:=c;exact SeqAt.EqAt.int_str a d b t
  | _=>exact absurd (show false=true from g) tH
 | str a=>
  obtain⟨d,rfl⟩:=e;cases x with
  | non=>cases c;exact SeqAt.EqAt.str_none a d
  | bl b=>cases c;exact SeqAt.EqAt.str_bool a d b
  | int b=>obtain⟨t,rfl⟩:=c;exact SeqAt.EqAt.str_int a d b t
  | str b=>obtain⟨t,rfl⟩:=c;exact SeqAt.EqAt.str_str a d b t
  | _=>exact absurd (show false=true from g) tH
 | _=>exact absurd (show false=true from i) tH
def kA(x:V)(u:Value):Bool:=match u with
 | .none=>AQ .non x
 | .bool b=>AQ (.bl b) x
 | .int i _=>AQ (.int i) x
 | .str z _=>AQ (.str z) x
 | _=>false
def G6{x y:V}{u:Value}(r:qM y u)(f:ZZ y=true):kA x u=AQ y x:=by
 cases y with
 | non=>cases r;rfl
 | bl b=>cases r;rfl
 | int i=>obtain⟨t,rfl⟩:=r;rfl
 | str z=>obtain⟨t,rfl⟩:=r;rfl
 | _=>exact absurd (show false=true from f) tH
def zX{x:V}:∀{xs:List V} {us:List Value},qI xs us->xs.all ZZ=true->us.any (kA x)=xs.any λy=>AQ y x
 | _,_,.nil,_=>rfl
 | y::xs,u::us,.cons a t,f=>by
  rw[zcv,zae]at f;rw[zbC,zbC,G6 a f.1,zX t f.2]
def Zl{A:Around}{s:Shared}{x:V}{v:Value}(a:qM x v)(b:ZZ x=true):∀{xs:List V} {us:List Value},qI xs us->xs.all ZZ=true->∀u∈us,SeqAt.EqAt A s u v (kA x u)
 | _,_,.nil,_=>λu hu=>by cases hu
 | y::xs,u::us,.cons c t,f=>λd hu=>by
  rw[zcv,zae]at f;rcases tI.mp hu with rfl | hu
  ·rw[G6 c f.1];exact Cp c a f.1 b
  ·exact Zl a b t f.2 d hu
def YF(x:V)(xs:List V):Bool:=xs.any λy=>AQ y x
inductive DS(K:zdU)(fH:Bool)(x:V)(y:V)(H:Hp)(Q:VK):Prop
 | mk (p:_) (xs:_):y=.ref p->((SqL K H p xs\/SqT K H p xs))->ZZ x=true->xs.all ZZ=true->(Q (.bl (if fH then !YF x xs else YF x xs)) H)->DS K fH x y H Q
def E3(K:zdU)(fH:Bool):R2:=λx y H Q=>DS K fH x y H Q
def ZB{X:Cx}:ZP X (compareOp .In) (E3 X.K false):=by
 intro _ s _ H x y v u Q I g b h;obtain⟨_,_,rfl,a,i,fs,q⟩:=h;cases b;rcases a with a | a
 ·obtain⟨b,c,d,j⟩:=I.list a;refine SeqAt.in_listAt (kA x) d.isList (λw e=>Zl g i c fs w (by simpa using e)) ⟨.bl _,H,I,rfl,?_⟩;rw[show b.toArray.any (kA x)=b.any (kA x) by simp,zX c fs];exact q
 ·obtain⟨b,c,d,j⟩:=I.tuple a;refine SeqAt.in_tupleAt (kA x) d (λw e=>Zl g i c fs w (by simpa using e)) ⟨.bl _,H,I,rfl,?_⟩;rw[show b.toArray.any (kA x)=b.any (kA x) by simp,zX c fs];exact q
def JZ{X:Cx}:ZP X (compareOp .NotIn) (E3 X.K true):=by
 intro _ s _ H x y v u Q I g b h;obtain⟨_,_,rfl,a,i,fs,q⟩:=h;cases b;rcases a with a | a
 ·obtain⟨b,c,d,j⟩:=I.list a;refine SeqAt.notIn_listAt (kA x) d.isList (λw e=>Zl g i c fs w (by simpa using e)) ⟨.bl _,H,I,rfl,?_⟩;rw[show b.toArray.any (kA x)=b.any (kA x) by simp,zX c fs];exact q
 ·obtain⟨b,c,d,j⟩:=I.tuple a;refine SeqAt.notIn_tupleAt (kA x) d (λw e=>Zl g i c fs w (by simpa using e)) ⟨.bl _,H,I,rfl,?_⟩;rw[show b.toArray.any (kA x)=b.any (kA x) by simp,zX c fs];exact q
def qA:QX X (.builtin "len") (λxs H Q=>∃p a,xs=[.ref p]/\(SqL X.K H p a\/SqT X.K H p a)/\Q (.int a.length) H):=by
 intro _ s _ H xs _ Q I c h;obtain⟨p,a,rfl,b,q⟩:=h;obtain⟨u,rfl,d⟩:=Q9 c;cases d;have c:=Yl;rcases b with b | b
 ·obtain⟨g,c,d,i⟩:=I.list b;have e:=c.length;exact Calls.call_len_list d.isList (by simp only[tU]<;>omega) ⟨.int a.length,H,I.tok _,⟨s.toks+1,by rw[tU,e]⟩,q⟩
 ·obtain⟨g,c,d,i⟩:=I.tuple b;have e:=c.length;exact len_tuple d (by simp only[tU]<;>omega) ⟨.int a.length,H,I.tok _,⟨s.toks+1,by rw[tU,e]⟩,q⟩
def J6:QX X (.builtin "len") (λxs H Q=>∃z,xs=[.str z]/\z.length<=zdZ/\Q (.int z.length) H):=by
 intro _ s _ H xs _ Q I a h;obtain⟨z,rfl,_,q⟩:=h;obtain⟨u,rfl,t,rfl⟩:=Q9 a;have a:=Yl;exact len_str (by omega) ⟨.int z.length,H,I.tok _,⟨_,rfl⟩,q⟩
def jp:QX X (.type "list") (λxs H Q=>∃p d,xs=[.ref p]/\(SqL X.K H p d\/SqT X.K H p d)/\∀l,H l=none->Q (.ref l) (upd H l (.lst d))):=by
 intro m s o H xs _ Q I a h;obtain⟨p,d,rfl,j,q⟩:=h;obtain⟨u,rfl,c⟩:=Q9 a;cases c;have d_:∀(c:List Value),qI d c->d.length<=zdZ->∀(a:Heap) (g:Nat),(∀b i,s.heap.get? b=some i->a.get? b=some i)->
   a.get? s.heap.objs.size=some {cls:=.type "list",dict:=none,data:=.seq c.toArray g,slots:=#[]}->EP X m o Q (.ref s.heap.objs.size) {s with heap:=a}:=λc i m a g o e=>
  ⟨.ref s.heap.objs.size,_,I.laid (t':=s.toks) o (tc _) (show qQ X.prog X.w _ a _ (.lst d) from⟨m,c,g,i,e⟩),rfl,q _ (I.hok.fresh (tc _))⟩
 rcases j with j | j
 ·obtain⟨c,i,d,m⟩:=I.list j;have x:=i.length;obtain⟨y,r,v,n,hd⟩:=d.isList;exact call_list_seq p (.inl rfl) r v hd (λa g o e=>d_ c i m a g o e) (by simp only[tU]<;>omega)
 ·obtain⟨c,i,d,m⟩:=I.tuple j;have x:=i.length;obtain⟨y,r,v,n,hd⟩:=d;exact call_list_seq p (.inr rfl) r v hd (λa g o e=>d_ c i m a g o e) (by simp only[tU]<;>omega)
def Z0:QX X (.type "tuple") (λxs H Q=>∃p a,xs=[.ref p]/\((SqL X.K H p a/\∀l,H l=none->Q (.ref l) (upd H l (.tup a)))\/(SqT X.K H p a/\Q (.ref p) H))):=by
 intro m s o H xs _ Q I c h;obtain⟨p,a,rfl,h⟩:=h;obtain⟨u,rfl,d⟩:=Q9 c;cases d;rcases h with ⟨d,q⟩ | ⟨d,q⟩
 ·obtain⟨g,i,j,r⟩:=I.list d;have c:=i.length;refine call_tuple_list j.isList (λc x=>?_) (by simp only[tU]<;>omega);have v:qw X m o H {s with heap:=c}:=I.kept (t':=s.toks) x;have x:qw X m o (upd H c.objs.size (.tup a)) {s with heap:=c.push {cls:=.type "tuple",data:=.seq g.toArray}}:=
   v.laid (t':=s.toks) (λb _ e=>tj _ e) (tc _) (show qQ X.prog X.w _ _ _ (.tup a) from⟨r,g,i,IsTup.new _ _⟩)
  exact⟨.ref c.objs.size,_,x,rfl,q _ (v.hok.fresh (tc _))⟩
 ·obtain⟨g,i,j,r⟩:=I.tuple d;exact call_tuple_same j ⟨.ref p,H,I,rfl,q⟩
def Fb(K:zdU)(T:String)(x:V)(H:Hp):Prop:=match x with
 | .str _=>T="str"
 | .int _=>T="int"
 | .ref a=>(T="list"/\∃c,SqL K H a c)\/(T="tuple"/\∃b,K.lookup a=some b/\b.cls=.type "tuple"/\b.dict=none)\/
  (T="dict"/\((∃b,H a=some (.dK b))\/∃b,H a=some (.dT b)))\/(T="set"/\∃S n,H a=some (.set S n))
 | _=>False
def w5(I:qw X a_ d H s)(r:qM x v)(ty:Fb X.K T x H):
  s.TypeIs v T/\∀a,v=.ref a->∃b,s.heap.get? a=some b/\b.dict=none:=by
 cases x with
 | str z=>
  obtain⟨t,rfl⟩:=r;cases (show T="str" from ty);exact⟨typeIs_str s z t,λ_ e=>nomatch e⟩
 | int i=>
  obtain⟨t,rfl⟩:=r;cases (show T="int" from ty);exact⟨typeIs_int s i t,λ_ e=>nomatch e⟩
 | ref j=>
  cases r;rcases ty with ⟨rfl,g,l⟩ | ⟨rfl,b,d,m,hd⟩ | ⟨rfl,d⟩ | ⟨rfl,S,n,d⟩
  ·obtain⟨_,_,g,_⟩:=I.list l;refine⟨g.isList.typeIs,λa e=>?_⟩;cases e;obtain⟨b,n,e,c,hd,_⟩:=g;exact⟨b,e,hd⟩
  ·refine⟨⟨b,I.kIn j b d,m⟩,λa e=>?_⟩;cases e;exact⟨b,I.kIn _ b d,hd⟩
  ·have z:∃b,s.heap.get? j=some b/\b.ExactDict:=by
    rcases d with ⟨g,d⟩ | ⟨g,d⟩
    ·obtain⟨_,_,_,_,b,_,_,e,g,_⟩:=I.hok j _ d;exact⟨b,e,g⟩
    ·obtain⟨_,_,_,_,b,_,_,e,g,_⟩:=I.hok j _ d;exact⟨b,e,g⟩
   obtain⟨b,e,g⟩:=z;refine⟨⟨b,e,g.1⟩,λa l=>?_⟩;cases l;exact⟨b,e,g.2.1⟩
  ·obtain⟨b,_,_,_,e,g,_⟩:=I.hok j _ d;refine⟨⟨b,e,g.1⟩,λa l=>?_⟩;cases l;exact⟨b,e,g.2.1⟩
 | _=>exact False.elim ty
def Fm(K:zdU)(T:String)(r:V->List V->Hp->VK->Prop)(to:TE):TE:=λa H Q=>to a H λx a=>Fb K T x a/\r x [] a Q
def Fn(K:zdU)(T:String)(r:V->List V->Hp->VK->Prop)(to:TE)(t:TA):TE:=λa H Q=>to a H λx b=>Fb K T x b/\t a b λa b=>r x a b Q
def Gs{X:Cx}{o:Expr}{to:TE}{name:Str}{c_:Pos}{b:Pos}{T:String}{id:String}{r:V->List V->Hp->VK->Prop}(e:PlainAttrs T)(slot:Slot T name id)(g:typeOf (.builtin id)=pure (.type "method_descriptor"))(i:CF X id r)(a:JE X o to)(d:attributeBase o name X.env (eval o X.env)=eval o X.env:=by rfl)(j:(c_.endLine==b.line)=true:=by rfl):JE X (.Call (.Attribute o name c_) [] [] b) (Fm X.K T r to):=.of (by
 have a:=a.to;intro b s c H Q I h;refine wpAny_Call_method0_late d j (jg (a b s c H _ I h) λv j ⟨x,l,a,d,ty,m⟩=>?_);obtain⟨p,q⟩:=w5 a d ty;exact⟨T,id,e,slot,g,p,q,Calls.callWith_builtin rfl (PySem.evalArgs_none (i b j c l x [] v [] Q a d .nil m))⟩)
def DZ{X:Cx}{o:Expr}{e:Expr}{es:List Expr}{to:TE}{t:TA}{name:Str}{c_:Pos}{a:Pos}{T:String}{id:String}{r:V->List V->Hp->VK->Prop}(i:PlainAttrs T)(slot:Slot T name id)(j:typeOf (.builtin id)=pure (.type "method_descriptor"))(l:CF X id r)(d:PE X o to)(m:PA X (e::es) t)
  (g:attributeBase o name X.env (eval o X.env)=eval o X.env:=by rfl)
  (p:((backTo a (starEach (e::es) X.env)).all (λx=> !x.1)&&(backToKw a (keywordEach [] X.env)).all (λx=>x.1.isSome)
   &&decide ((e::es).length+([]:List Keyword).length+(if ([]:List Keyword).isEmpty then 0 else 1) < 30))=true:=by rfl)
  (q:(c_.endLine==a.line)=true:=by rfl) (hs:starEach (e::es) X.env=(false,eval e X.env)::starEach es X.env:=by rfl) (u:(backTo a (starEach es X.env)).any (·.1)=false:=by rfl):
  PE X (.Call (.Attribute o name c_) (e::es) [] a) (Fn X.K T r to t):=by
 intro b s c H Q I h;refine wpAny_Call_method_late g p q rfl (jg (d b s c H _ I h) λv p ⟨x,q,d,g,ty,y⟩=>?_);obtain⟨z,B⟩:=w5 d g ty;refine⟨T,id,i,slot,j,z,B,?_⟩;have i:=m a b p c q _ d y;rw[hs]at i ⊢;refine Calls.callWith_builtin (by show (false || (backTo a (starEach es X.env)).any (·.1))=false;rw[u]<;>rfl) (Calls.evalArgs_plain ?_);exact jg i λa d ⟨i,j,m,p,q⟩=>l b d c j x i v a Q m g p q
def QP{X:Cx}{o:Expr}{e:Expr}{es:List Expr}{to:TE}{t:TA}{name:Str}{c_:Pos}{a:Pos}{T:String}{id:String}{r:V->List V->Hp->VK->Prop}(b:PlainAttrs T)(slot:Slot T name id)(c:typeOf (.builtin id)=pure (.type "method_descriptor"))(d:CF X id r)(g:JE X o to)(i:JA X (e::es) t)(j:attributeBase o name X.env (eval o X.env)=eval o X.env:=by rfl) (l:((backTo a (starEach (e::es) X.env)).all (λx=> !x.1)&&(backToKw a (keywordEach [] X.env)).all (λx=>x.1.isSome)
 &&decide ((e::es).length+([]:List Keyword).length+(if ([]:List Keyword).isEmpty then 0 else 1) < 30))=true:=by rfl) (m:(c_.endLine==a.line)=true:=by rfl) (hs:starEach (e::es) X.env=(false,eval e X.env)::starEach es X.env:=by rfl) (p:(backTo a (starEach es X.env)).any (·.1)=false:=by rfl):JE X (.Call (.Attribute o name c_) (e::es) [] a) (Fn X.K T r to t):=.of (DZ b slot c d g.to i.to j l m hs p)
open PyProof.Rows hiding K lo
def Hx(X:Cx)(id:String)(r:V->List V->Hp->VK->Prop):Prop:=
 ∀(a:List (Addr×Obj)) (s:Shared) (b:St) (H:Hp) (x:V) (c:List V) (v:Value) (d:List Value) (Q:VK),qw X a b H s->qM x v->qI c d->r x c H Q->
  wpAny (model X.prog X.w) X.A (call (.builtin id) (v::d)) (EP X a b Q) X.xe s
def qI.one:∀{x:V} {us:List Value},qI [x] us->∃u,us=[u]/\qM x u
 | _,_,.cons a .nil=>⟨_,rfl,a⟩
def qI.zero:∀{us:List Value},qI [] us->us=[]
 | _,.nil=>rfl
def qI.reverse(h:qI xs us):qI xs.reverse us.reverse:=by
 induction h with
 | nil=>exact .nil
 | cons a t b=>rw[zcR,zcR];exact qI.append b (.cons a .nil)
def qw.lset{a its':List Value}{f:Array Value->Array Value}(I:qw X a_ c H s)(d:H l=some (.lst xs))(e:s.heap.get? l=some {cls:=.type "list",data:=.seq a.toArray n})(g:f a.toArray=its'.toArray)(i:qI b its')(hz:b.length<=zdZ):
  qw X a_ c (upd H l (.lst b)) {s with heap:=s.heap.update l (Obj.mapSeq f),toks:=t'}:=by
 have q:=PySem.IsL.update e f;rw[g]at q;refine I.write (x:=l) (e:=l) (by rw[d];exact trivial) (.inl rfl) (λ_ u a hu=>(zax s.heap (Obj.mapSeq f) (Ne.symm a)).trans hu) ⟨_,q⟩ ?_;exact⟨hz,its',_,i,q⟩
def qw.lnew(I:qw X a_ c H s)(d:qI a b)(hz:a.length<=zdZ):
  qw X a_ c (upd H s.heap.objs.size (.lst a)) {s with heap:=s.heap.push {cls:=.type "list",data:=.seq b.toArray},toks:=t'}:=
 I.laid (λ_ _ q=>tj _ q) (tc _) ⟨hz,b,0,d,tR _ rfl⟩
def qw.fresh(I:qw X a_ a H s):H s.heap.objs.size=none:=I.hok.fresh (tc _)
def qw.lstM(I:qw X a_ b H s)(c:H l=some (.lst xs)):xs.length<=zdZ/\∃(a:List Value) (n:Nat),qI xs a/\xs.length=a.length/\s.heap.get? l=some {cls:=.type "list",data:=.seq a.toArray n}:=by
 obtain⟨z,a,n,b,e⟩:=I.hok l _ c;exact⟨z,a,n,b,b.length,e⟩
def K0(h:n<=zdZ):Builtin.List.listTooLong n=false:=by
 unfold Builtin.List.listTooLong;exact decide_eq_false (by omega)
inductive U0(x:V)(vs:List V)(H:Hp)(Q:VK):Prop
 | mk (l:_) (xs:_) (y:_):x=.ref l->vs=[y]->H l=some (.lst xs)->(xs.length < zdZ)->(Q .non (upd H l (.lst (xs++[y]))))->U0 x vs H Q
def NB:V->List V->Hp->VK->Prop:=λx a H Q=>U0 x a H Q
def Q8:Hx X "list.append" NB:=by
 intro _ s _ H x _ v _ Q I b c h;obtain⟨d,_,y,rfl,rfl,a,_,q⟩:=h;cases b;obtain⟨u,rfl,g⟩:=c.one;obtain⟨z,b,n,c,_,e⟩:=I.lstM a;refine call_meets F.slot_list_append ⟨_,e,rfl⟩ F.entry_list_append (F.args_list_append_2 _ _) (PySem.list_append d b.toArray n u (by rw[tU];omega)) ⟨e,?_⟩;refine⟨.non,_,I.lset (its':=b++[u]) a e (by simp) (c.append (.cons g .nil)) ?_,rfl,q⟩;rw[tm,t7];omega
inductive UZ(x:V)(vs:List V)(H:Hp)(Q:VK):Prop
 | mk (l:_) (b:_) (xs:_) (zs:_):x=.ref l->vs=[.ref b]->H l=some (.lst xs)->H b=some (.lst zs)->(xs.length+zs.length<=zdZ)->(Q .non (upd H l (.lst (xs++zs))))->UZ x vs H Q
def NA:V->List V->Hp->VK->Prop:=λx a H Q=>UZ x a H Q
def WZ:Hx X "list.extend" NA:=by
 intro _ s _ H x _ v _ Q I a c h;obtain⟨g,b,_,_,rfl,rfl,d,i,_,q⟩:=h;cases a;obtain⟨u,rfl,a⟩:=c.one;cases a;obtain⟨z,a,n,j,_,e⟩:=I.lstM d;obtain⟨_,c,n2,l,_,m⟩:=I.lstM i;have i:a.toArray.size+c.toArray.size<=zdZ:=by rw[tU,tU];omega
 have o:¬(!a.toArray.isEmpty&&Builtin.List.listTooLong (a.toArray.size+c.toArray.size))=true:=by
  rw[K0 i,Bool.and_false];exact tH
 refine call_meets F.slot_list_extend ⟨_,e,rfl⟩ F.entry_list_extend (F.args_list_extend_2 _ _)
  (AutoSeq1.list_extend_list_list_0 g a.toArray n b c.toArray n2 o (by rw[tU];omega) (by omega)) ⟨e,m,?_⟩
 refine⟨.non,_,I.lset (its':=a++c) d e (by simp) (j.append l) ?_,rfl,q⟩;rw[tm];omega
inductive WT(x:V)(vs:List V)(H:Hp)(Q:VK):Prop
 | mk (l:_) (xs:_):x=.ref l->vs=[]->H l=some (.lst xs)->(Q .non (upd H l (.lst xs.reverse)))->WT x vs H Q
def Kk:V->List V->Hp->VK->Prop:=λx a H Q=>WT x a H Q
def kc:Hx X "list.reverse" Kk:=by
 intro _ s _ H x _ v _ Q I b c h;obtain⟨d,_,rfl,rfl,a,q⟩:=h;cases b;have b:=c.zero;subst b;obtain⟨z,b,n,c,_,e⟩:=I.lstM a;refine call_meets F.slot_list_reverse ⟨_,e,rfl⟩ F.entry_list_reverse (F.args_list_reverse_1 _) (AutoSeq1.list_reverse_list_0 d b.toArray n (by rw[tU];omega)) ⟨e,?_⟩;refine⟨.non,_,I.lset (its':=b.reverse) a e (by simp) c.reverse ?_,rfl,q⟩;rw[zbP];omega
inductive AA(x:V)(y:V)(H:Hp)(Q:VK):Prop
 | mk (l:_) (b:_) (xs:_) (zs:_):x=.ref l->y=.ref b->H l=some (.lst xs)->H b=some (.lst zs)->(xs.length+zs.length<=zdZ)->(∀p,H p=none->Q (.ref p) (upd H p (.lst (xs++zs))))->AA x y H Q
def DX:R2:=λx y H Q=>AA x y H Q
def BG:ZP X (binaryOp .Add) DX:=by
 intro _ s _ H x y v u Q I a c h;obtain⟨_,b,_,_,rfl,rfl,d,g,_,q⟩:=h;cases a;cases c;obtain⟨z,a,n,i,_,e⟩:=I.lstM d;obtain⟨_,c,n2,d,_,j⟩:=I.lstM g;refine PySem.P.add_list e j ?_ (by rw[tU,tU];omega);have g:a.toArray++c.toArray=(a++c).toArray:=by simp
 rw[g];exact⟨.ref _,_,I.lnew (t':=s.toks) (i.append d) (by rw[tm];omega),rfl,q _ I.fresh⟩
set_option maxRecDepth 100000 in
open PyProof.Rows hiding K lo
section
variable{κ:Type}[DecidableEq κ]
def jh(kvs:List (κ×V))(k:κ):Option V:=(kvs.find? λa=>decide (a.1=k)).map (·.2)
def jQ(kvs:List (κ×V))(k:κ)(v:V):List (κ×V):=
 if (kvs.any λa=>decide (a.1=k))=true then kvs.map (λa=>if a.1=k then (a.1,v) else a) else kvs++[(k,v)]
def jj{p:κ×V}{r:List (κ×V)}{k:κ}(e:p.1=k):jh (p::r) k=some p.2:=by simp [jh,zba,e]
def jk{p:κ×V}{r:List (κ×V)}{k:κ}(e:¬p.1=k):jh (p::r) k=jh r k:=by simp [jh,zba,e]
def Jb(k:κ):∀kvs:List (κ×V),(kvs.any λa=>decide (a.1=k))=(jh kvs k).isSome
 | []=>rfl
 | a::b=>by
  rw[zbC];by_cases e:a.1=k
  ·simp only[jj e,decide_eq_true e,Bool.true_or,zdE]
  ·rw[jk e,decide_eq_false e,Bool.false_or];exact Jb k b
def Uc(k j:κ)(y:V):∀kvs:List (κ×V),jh (kvs.map λa=>if a.1=k then (a.1,y) else a) j=(jh kvs j).map λx=>if j=k then y else x
 | []=>rfl
 | a::c=>by
  have b:=Uc k j y c;rw[tG];by_cases h:a.1=k
  ·rw[if_pos h];by_cases e:a.1=j
   ·rw[jj (p:=(a.1,y)) e,jj e,zbb,if_pos (e.symm.trans h)]
   ·rw[jk (p:=(a.1,y)) e,jk e,b]
  ·rw[if_neg h];by_cases e:a.1=j
   ·rw[jj (p:=a) e,jj e,zbb,if_neg (λz=>h (e.trans z))]
   ·rw[jk (p:=a) e,jk e,b]
def Ww(k j:κ)(y:V):∀kvs:List (κ×V),jh kvs k=none->jh (kvs++[(k,y)]) j=if j=k then some y else jh kvs j
 | [],_=>by
  by_cases e:k=j
  ·rw[if_pos e.symm];exact jj (p:=(k,y)) e
  ·rw[if_neg (λz=>e z.symm)];exact jk (p:=(k,y)) e
 | b::d,a=>by
  rw[zcr];have c:¬b.1=k:=λz=>by rw[jj z]at a;cases a
  rw[jk c]at a;have g:=Ww k j y d a;by_cases e:b.1=j
  ·rw[jj e,jj e,if_neg (λz=>c (e.trans z))]
  ·rw[jk e,jk e,g]
def QL(kvs:List (κ×V))(k j:κ)(y:V):jh (jQ kvs k y) j=if j=k then some y else jh kvs j:=by
 unfold jQ;by_cases a:(kvs.any λb=>decide (b.1=k))=true
 ·rw[if_pos a,Uc];rw[Jb]at a;by_cases e:j=k
  ·obtain⟨x,b⟩:=zbT.mp a;rw[if_pos e,e,b,zbb,if_pos rfl]
  ·rw[if_neg e];cases jh kvs j with
   | none=>rfl
   | some x=>rw[zbb,if_neg e]
 ·rw[if_neg a];refine Ww k j y kvs ?_;rw[Jb]at a;cases q:jh kvs k with
  | none=>rfl
  | some x=>rw[q]at a;exact(a rfl).elim
def Js(kvs:List (κ×V))(k:κ)(v:V):(jQ kvs k v).length<=kvs.length+1:=by
 unfold jQ;split
 ·rw[ta];omega
 ·rw[tm,t0,List.length_nil];omega
def JK{kvs:List (κ×V)}{k:κ}(v:V)(h:jh kvs k=none):jQ kvs k v=kvs++[(k,v)]:=by
 unfold jQ;rw[Jb,h];exact if_neg (by decide)
def Zd.isSome_eq(r:Zd o u):o.isSome=u.isSome:=by
 cases o with
 | none=>cases u with
  | none=>rfl
  | some _=>exact(show False from r).elim
 | some _=>cases u with
  | none=>exact(show False from r).elim
  | some _=>rfl
def Zd.getD(r:Zd o u)(a:qM d d'):qM (o.getD d) (u.getD d'):=by
 cases o with
 | none=>cases u with
  | none=>exact a
  | some _=>exact(show False from r).elim
 | some _=>cases u with
  | none=>exact(show False from r).elim
  | some _=>exact r
def KV.val(r:KV kvs vs)(k:κ):Zd (jh kvs k) (valueAt vs k):=by
 unfold KV at r;induction r with
 | nil=>exact True.intro
 | @cons c q d a h t g=>
  obtain⟨d,i⟩:=h;by_cases e:c.1=k
  ·have c:q.1=k:=d.symm.trans e;have b:valueAt (q::a) k=some q.2:=by simp [valueAt,zba,c]
   rw[jj e,b];exact i
  ·have c:¬q.1=k:=λz=>e (d.trans z);have b:valueAt (q::a) k=valueAt a k:=by simp [valueAt,zba,c]
   rw[jk e,b];exact g
def KV.any(r:KV kvs vs)(k:κ):(kvs.any λa=>decide (a.1=k))=vs.any λa=>decide (a.1=k):=by
 unfold KV at r;induction r with
 | nil=>rfl
 | cons h t a=>rw[zbC,zbC,a,h.1]
def KV.repl(r:KV kvs vs)(k:κ)(b:qM y u):
  KV (kvs.map λa=>if a.1=k then (a.1,y) else a) (vs.map λa=>if a.1=k then (a.1,u) else a):=by
 unfold KV at r ⊢;induction r with
 | nil=>exact .nil
 | @cons c q d g h t a=>
  rw[tG,tG];refine .cons ?_ a;obtain⟨a,d⟩:=h;by_cases e:c.1=k
  ·rw[if_pos e,if_pos (a.symm.trans e)];exact⟨a,b⟩
  ·rw[if_neg e,if_neg (λz=>e (a.trans z))];exact⟨a,d⟩
def KV.put(r:KV kvs vs)(k:κ)(a:qM y u):KV (jQ kvs k y) (stored vs k u):=by
 unfold jQ stored;rw[r.any k];by_cases e:(vs.any λb=>decide (b.1=k))=true
 ·rw[if_pos e,if_pos e];exact r.repl k a
 ·rw[if_neg e,if_neg e];exact Paired.snoc r ⟨rfl,a⟩
def KV.length(r:KV kvs vs):kvs.length=vs.length:=Paired.length r
end
def XQ(r:qM (kV k) u):(js P w).is k u=true:=by
 cases k with
 | inl i=>obtain⟨t,e⟩:=(show ∃t,u=Value.int i t from r);subst e;exact vc P w i t
 | inr x=>obtain⟨t,e⟩:=(show ∃t,u=Value.str x t from r);subst e;exact va P w x t
def W7:∀{b:List qT} {us:List Value},qI (b.map kV) us->ItemsAre (js P w) b us
 | [],_,a=>by rw[zcf]at a;cases a;exact .nil
 | k::b,_,a=>by
  rw[tG]at a;cases a with
  | cons h t=>exact .cons (XQ h) (W7 t)
abbrev KT(H:Hp):List (List qT×V)->List (List qT×Addr×Value)->Prop:=Paired λa q=>a.1=q.1/\H q.2.1=some (.tup (a.1.map kV))/\qM a.2 q.2.2
def KT.val(r:KT H kvs xs)(k:List qT):Zd (jh kvs k) ((atKey xs k).map (·.2)):=by
 induction r with
 | nil=>exact True.intro
 | @cons c q d a h t g=>
  obtain⟨d,_,i⟩:=h;by_cases e:c.1=k
  ·have c:q.1=k:=d.symm.trans e;have b:atKey (q::a) k=some q.2:=by simp [atKey,zba,c]
   rw[jj e,b];exact i
  ·have c:¬q.1=k:=λz=>e (d.trans z);have b:atKey (q::a) k=atKey a k:=by simp [atKey,zba,c]
   rw[jk e,b];exact g
def KT.repl(r:KT H kvs xs)(k:List qT)(c:qM y u):
  KT H (kvs.map λa=>if a.1=k then (a.1,y) else a) (xs.map (putAt k u)):=by
 induction r with
 | nil=>exact .nil
 | @cons d q b g h t a=>
  rw[tG,tG];refine .cons ?_ a;obtain⟨a,b,g⟩:=h;unfold putAt;by_cases e:d.1=k
  ·rw[if_pos e,if_pos (a.symm.trans e)];exact⟨a,b,c⟩
  ·rw[if_neg e,if_neg (λz=>e (a.trans z))];exact⟨a,b,g⟩
def KT.put(r:KT H kvs xs)(k:List qT)(c:H b=some (.tup (k.map kV)))(a:qM y u):
  KT H (jQ kvs k y) (storedH xs k b u):=by
 have e:(kvs.any λd=>decide (d.1=k))=(atKey xs k).isSome:=by
  rw[Jb,(r.val k).isSome_eq,zcS]
 unfold jQ storedH;rw[e];by_cases q:(atKey xs k).isSome=true
 ·rw[if_pos q,if_pos q];exact r.repl k a
 ·rw[if_neg q,if_neg q];exact Paired.snoc r ⟨rfl,c,a⟩
def KT.keeps{a:Hp}(r:KT H kvs xs)(d:∀b c,H b=some (.tup c)->a b=some (.tup c)):KT a kvs xs:=
 Paired.mapP r λ_ _ z=>⟨z.1,d _ _ z.2.1,z.2.2⟩
def Aq(ok:ZS P w H h)(e:Rd H a u):qQ P w H h a u:=e.ok ok
def YH(ok:ZS P w H h)(e:Rd H a (.dK kvs)):kvs.length<=zdZ/\(a==sysModules)=false/\∃vs,KV kvs vs/\h.DictOf (js P w) a vs:=
 show qQ P w H h a (.dK kvs) from Aq ok e
def y7(ok:ZS P w H h)(e:H a=some (.dK kvs)):kvs.length<=zdZ/\(a==sysModules)=false/\∃vs,KV kvs vs/\h.DictOf (js P w) a vs:=YH ok (.inl e)
def Yp{b:List qT}(ok:ZS P w H h)(e:H a=some (.tup (b.map kV))):(tupleKind (js P w)).is h b a:=by
 obtain⟨_,c,d,g,i,j,n,l⟩:=(show qQ P w H h a (.tup (b.map kV)) from ok a _ e);exact⟨g,c.toArray,n,i,j,l,by simpa using W7 d⟩
def XZ(ok:ZS P w H h)(e:Rd H a (.dT kvs)):kvs.length<=zdZ/\(a==sysModules)=false/\
  ∃xs,KT H kvs xs/\h.DictOfH (tupleKind (js P w)) a xs:=by
 obtain⟨z,y,xs,c,b,d,g,i,j,l,o,p⟩:=(show qQ P w H h a (.dT kvs) from Aq ok e);refine⟨z,y,xs,c,b,d,g,i,j,l,o,λx b=>?_,p⟩;have all:∀{d:List (List qT×V)} {m:List (List qT×Addr×Value)},KT H d m->∀x∈m,(tupleKind (js P w)).is h x.1 x.2.1:=by
  intro d m q;induction q with
  | nil=>intro x b;exact nomatch b
  | @cons i q j l d t g=>
   intro x b;rcases tI.mp b with e | b
   ·subst e;exact Yp ok (by rw[<-d.1];exact d.2.1)
   ·exact g x b
 exact all c x b
def Ew(ok:ZS P w H h)(e:H a=some (.dT kvs)):kvs.length<=zdZ/\(a==sysModules)=false/\
 ∃xs,KT H kvs xs/\h.DictOfH (tupleKind (js P w)) a xs:=XZ ok (.inl e)
def j0(H:Hp)(a:Addr)(y:V)(r:Option V):Prop:=
 (∃c k,Rd H a (.dK c)/\y=kV k/\r=jh c k)\/∃c k b,Rd H a (.dT c)/\y=.ref b/\H b=some (.tup (k.map kV))/\r=jh c k
def Jq(H:Hp)(a:Addr)(y v:V)(d:Hp):Prop:=
 (∃c k,H a=some (.dK c)/\y=kV k/\c.length < zdZ/\d=upd H a (.dK (jQ c k v)))\/
 ∃c k b,H a=some (.dT c)/\y=.ref b/\H b=some (.tup (k.map kV))/\c.length < zdZ/\d=upd H a (.dT (jQ c k v))
def j0.k{H:Hp}{a:Addr}{kvs:List (qT×V)}{k:qT}(e:H a=some (.dK kvs)):j0 H a (kV k) (jh kvs k):=.inl ⟨kvs,k,.inl e,rfl,rfl⟩
def Jq.k{H:Hp}{a:Addr}{kvs:List (qT×V)}{k:qT}{v:V}(e:H a=some (.dK kvs))(b:kvs.length < zdZ):Jq H a (kV k) v (upd H a (.dK (jQ kvs k v))):=.inl ⟨kvs,k,e,rfl,b,rfl⟩
def Jq.t{H:Hp}{k:List qT}(e:H a=some (.dT kvs))(c:H b=some (.tup (k.map kV)))(d:kvs.length < zdZ):
 Jq H a (.ref b) v (upd H a (.dT (jQ kvs k v))):=.inr ⟨kvs,k,b,e,rfl,c,d,rfl⟩
def qw.big(I:qw X a_ a H s):sysModules < s.heap.objs.size:=by
 have h:mainGlobals < s.heap.objs.size:=(I.mod.glob.keeps I.bk).lt;exact zdL (by decide) h
def wM{A:Around}{Q:Value->Shared->Prop}(hu:A.units+1 < cLine)(I:qw X a_ i H s)(g:j0 H a y (some v))(o:qM y u)(h:∀c d,qw X a_ i H d->qM v c->Q c d):
  wpAny (model X.prog X.w) A (getItem (.ref a) u) Q E s:=by
 rcases g with ⟨j,k,e,d,i⟩ | ⟨j,k,b,e,d,p,i⟩
 ·subst d;obtain⟨z,hd,q,e9,j⟩:=YH I.hok e;obtain⟨c,l,m⟩:=Zd.some_of (v:=v) (o:=valueAt q k) (by rw[i];exact e9.val k);exact wpAny_getItem_of (XQ o) j.mapOf l (h c _ (I.tok _) m)
 ·subst d;cases (show u=Value.ref b from o);obtain⟨z,hd,d,e9,j⟩:=XZ I.hok e;obtain⟨c,l,m⟩:=Zd.some_of (v:=v) (o:=(atKey d k).map (·.2)) (by rw[i];exact e9.val k);obtain⟨_,d,i⟩:=zcg.mp l;refine wpAny_getItem_heap (tupleKind_room_in1 hu) (Yp I.hok p) j d ?_;rw[i];exact h c _ (I.tok _) m
def Ho{A:Around}{Q:Value->Shared->Prop}(hu:A.units+1 < cLine)(I:qw X a_ d H s)(g:j0 H a y o)(j:qM y u)(h:∀c,qw X a_ d H c->Q (.bool o.isSome) c):
  wpAny (model X.prog X.w) A (compareOp .In u (.ref a)) Q E s:=by
 rcases g with ⟨i,k,e,c,d⟩ | ⟨i,k,b,e,c,l,d⟩
 ·subst c;obtain⟨z,hd,_,e9,i⟩:=YH I.hok e;refine wpAny_in_of (XQ j) hd i.mapOf ?_;rw[<-(e9.val k).isSome_eq,<-d];exact h _ (I.tok _)
 ·subst c;cases (show u=Value.ref b from j);obtain⟨z,hd,_,e9,i⟩:=XZ I.hok e;refine wpAny_in_heap (tupleKind_room_in1 hu) (Yp I.hok l) hd i ?_;have q:=(e9.val k).isSome_eq;rw[zcS]at q;rw[<-q,<-d];exact h _ (I.tok _)
def Mz{A:Around}{Q:Value->Shared->Prop}(hu:A.units+1 < cLine)(I:qw X a_ d H s)(g:j0 H a y o)(j:qM y u)(h:∀c,qw X a_ d H c->Q (.bool (!o.isSome)) c):
  wpAny (model X.prog X.w) A (compareOp .NotIn u (.ref a)) Q E s:=by
 rcases g with ⟨i,k,e,c,d⟩ | ⟨i,k,b,e,c,l,d⟩
 ·subst c;obtain⟨z,hd,_,e9,i⟩:=YH I.hok e;refine wpAny_notIn_of (XQ j) hd i.mapOf ?_;rw[<-(e9.val k).isSome_eq,<-d];exact h _ (I.tok _)
 ·subst c;cases (show u=Value.ref b from j);obtain⟨z,hd,_,e9,i⟩:=XZ I.hok e;refine wpAny_notIn_heap (tupleKind_room_in1 hu) (Yp I.hok l) hd i ?_;have q:=(e9.val k).isSome_eq;rw[zcS]at q;rw[<-q,<-d];exact h _ (I.tok _)
def Xf(I:qw X a_ d H s)(e:CV (H a))(hs:Heap.SameBut a s.heap h')(g:∃q,h'.get? a=some q)(new:qQ X.prog X.w (upd H a c) h' a c):
  qw X a_ d (upd H a c) {s with heap:=h',toks:=t'}:=
 I.write (x:=a) (e:=a) e (.inl rfl) (λb q c z=>(hs.2 b c).trans z) g new
def kB{h':Heap}{kvs:List (qT×V)}(z:kvs.length<=zdZ)(hd:(a==sysModules)=false)(e9:KV kvs vs)(b:h'.DictOf (js P w) a vs):
 qQ P w c h' a (.dK kvs):=⟨z,hd,vs,e9,b⟩
def wK{A:Around}{Q:Unit->Shared->Prop}(hu:A.units+1 < cLine)(I:qw X a_ i H s)(g:Jq H a y v j)(C:qM y u)(D:qM v r)(h:∀d,qw X a_ i j d->Q () d):
  wpAny (model X.prog X.w) A (setItem (.ref a) u r) Q E s:=by
 rcases g with ⟨d,k,e,l,i,m⟩ | ⟨d,k,b,e,l,J,i,m⟩
 ·subst l m;obtain⟨z,hd,i,e9,o⟩:=y7 I.hok e;have p:i.length<=zdZ:=by rw[<-e9.length];exact z
  have x:(jQ d k v).length<=zdZ:=by have:=Js d k v;omega
  refine wpAny_setItem_pairs (hsz:=p) (XQ C) o λL i B=>h _ ?_;have O:∃q,L.get? a=some q:=let ⟨q,_,_,j,_⟩:=i;⟨q,j⟩;exact Xf I (by rw[e];exact True.intro) B O (kB x hd (e9.put k D) i)
 ·subst l m;cases (show u=Value.ref b from C);obtain⟨z,hd,l,e9,o⟩:=Ew I.hok e;have p:l.length<=zdZ:=by rw[<-Paired.length e9];exact z
  have x:(jQ d k v).length<=zdZ:=by have:=Js d k v;omega
  refine wpAny_setItem_heap (hsz:=p) (tupleKind_room_in1 hu) (Yp I.hok J) o λL i B=>h _ ?_;obtain⟨q,l,m,j,o,p,C,_,L⟩:=i;refine Xf I (by rw[e];exact True.intro) B ⟨q,j⟩ ⟨x,hd,_,(e9.put k J D).keeps λc _ d=>?_,q,l,m,j,o,p,C,L⟩;rw[qg (Ea d e (λz=>nomatch z))];exact d
def Ez{Q:Value->Shared->Prop}(I:qw X a_ c H s)(e:Rd H a (.dK kvs))(h:∀t b,qw X a_ c H b->Q (.int kvs.length t) b):wpAny (model X.prog X.w) A (call (.builtin "len") [.ref a]) Q E s:=by
 obtain⟨z,hd,_,e9,b⟩:=YH I.hok e;refine call_len_dict hd b (by rw[<-e9.length];rw[sizeLine_eq]at z;omega) ?_;rw[<-e9.length];exact h _ _ (I.tok _)
def EK(i:Expr):Prop:=∀a b,subscripted i false a b=operate [a,b] (getItem a b)
def RN{prog:Program}{w:World}{A:Around}{E:Value->Shared->Prop}{s:Shared}{env:Env}{fc fg:Expr}{pos:Pos}{T id:String}{Q:Value->Shared->Prop}
  (d:typeLookup (.type T) "__getitem__"=pure (some (.builtin id))) (hs:EK fg)
  (h:wpAny (model prog w) A (eval fc env) (λo b=>wpAny (model prog w) A (eval fg env) (λi a=>a.TypeIs o T/\wpAny (model prog w) A (getItem o i) Q E a) E b) E s):
  wpAny (model prog w) A (eval (.Subscript fc fg pos) env) Q E s:=by
 refine Subscript_ (wpAny_mono h (λo b b=>wpAny_mono b (λi a b=>?_) λ_ _ x=>x) λ_ _ x=>x);obtain⟨c,b⟩:=b;unfold subscriptTail;refine zdW ?_;rw[getitemInPython_of_ne c.not_modules];refine zdW (wpAny_specialOf c d ?_);have d_:wpAny (model prog w) A (subscripted fg false o i) (λc d=>wpAny (model prog w) A (letTemporaryGo fc o c >>= λ_=>pure c) Q E d) E a:=by
  rw[hs o i];exact wpAny_operating (wpAny_mono b (λc d a=>zdW (wpAny_letTemporaryGo (zdX a))) λ_ _ x=>x)
 first
  | exact zdX (zdW d_)
  | exact zdW (zdX (zdW d_))
  | exact zdW d_
def vp(I:qw X a_ c H s)(g:j0 H a y o):s.TypeIs (.ref a) "dict":=by
 rcases g with ⟨c,k,e,_,_⟩ | ⟨c,k,b,e,_,_,_⟩
 ·obtain⟨_,_,_,_,c⟩:=YH I.hok e;exact c.typeIs
 ·obtain⟨_,_,_,_,c⟩:=XZ I.hok e;exact c.typeIs
inductive uq(Q:VK)(x:V)(y:V)(H2:Hp):Prop
 | mk (a:_) (v:_):x=.ref a->(j0 H2 a y (some v))->Q v H2->uq Q x y H2
def zm(b ty:TE):TE:=λa H Q=>b a H λx b=>ty a b λy a=>uq Q x y a
inductive M0(Q:VK)(y:V)(x:V)(H2:Hp):Prop
 | mk (a:_) (o:_):x=.ref a->j0 H2 a y o->(Q (.bl o.isSome) H2)->M0 Q y x H2
def Dc(ty b:TE):TE:=λa H Q=>ty a H λy c=>b a c λx a=>M0 Q y x a
inductive Ug(Q:VK)(y:V)(x:V)(H2:Hp):Prop
 | mk (a:_) (o:_):x=.ref a->j0 H2 a y o->(Q (.bl (!o.isSome)) H2)->Ug Q y x H2
def RK(ty b:TE):TE:=λa H Q=>ty a H λy c=>b a c λx a=>Ug Q y x a
inductive Kb(D:JD)(σ:St)(v:V)(x:V)(y:V)(H3:Hp):Prop
 | mk (a:_) (H4:_):x=.ref a->Jq H3 a y v H4->D.nx σ H4->Kb D σ v x y H3
def Ap(b ty c:TE):TS:=λD a H=>c a H λv c=>b a c λx b=>ty a b λy b=>Kb D a v x y b
def q5(b:JE X o d)(c:JE X i ty)(hs:EK i:=by exact λ_ _=>rfl)(hu:X.A.units+1 < cLine:=by exact hu_of hr):JE X (.Subscript o i pos) (zm d ty):=.of (by
 have b:=b.to;have c:=c.to;intro d s e H Q I h;refine RN PySem.F.slot_dict_getitem.lookup hs (jg (b d s e H _ I h) λu b ⟨x,g,j,l,m⟩=>jg (c d b e g _ j m) λ_ _ ⟨y,d,b,e,a,v,g,c,j⟩=>?_);subst g;obtain rfl:u=Value.ref a:=l;exact⟨vp b c,wM hu b c e λ_ _ b c=>⟨v,d,b,c,j⟩⟩)
def zb(b:JE X i ty)(c:JE X o d)(hu:X.A.units+1 < cLine:=by exact hu_of hr):JC X .In i o (Dc ty d):=.of (by
 have b:=b.to;have c:=c.to;intro d s e H Q I h;refine jg (b d s e H _ I h) λ_ b ⟨y,g,j,l,m⟩=>jg (c d b e g _ j m) λu _ ⟨x,b,c,d,a,e,g,j,m⟩=>?_;subst g;obtain rfl:u=Value.ref a:=d;exact Ho hu c j l λ_ c=>⟨.bl e.isSome,b,c,rfl,m⟩)
def Yr(b:JE X i ty)(c:JE X o d)(hu:X.A.units+1 < cLine:=by exact hu_of hr):JC X .NotIn i o (RK ty d):=.of (by
 have b:=b.to;have c:=c.to;intro d s e H Q I h;refine jg (b d s e H _ I h) λ_ b ⟨y,g,j,l,m⟩=>jg (c d b e g _ j m) λu _ ⟨x,b,c,d,a,e,g,j,m⟩=>?_;subst g;obtain rfl:u=Value.ref a:=d;exact Mz hu c j l λ_ c=>⟨.bl (!e.isSome),b,c,rfl,m⟩)
def jF{pos:Pos}(c:JE X o g)(d:JE X i ty)(e:JE X fc j)(hu:X.A.units+1 < cLine:=by exact hu_of hr)(hs:swapsWith fc (some (.Subscript o i l)) pos.line X.env=pure false:=by exact rfl):JS X (.Assign [.Subscript o i l] fc pos) (Ap g ty j):=.of (by
 have c:=c.to;have d:=d.to;have e:=e.to;intro g s b H D I h;refine wpAny_Assign_Subscript (jg (e g s b H _ I h) λ_ e ⟨v,j,l,m,p⟩=>jg (c g e b j _ l p) λu c ⟨x,e,j,q,l⟩=>jg (d g c b e _ j l) λ_ _ ⟨y,_,r,z,a,B,C,J,L⟩=>?_) hs;subst C;obtain rfl:u=Value.ref a:=q;exact wK hu r J z m λ_ c=>⟨b,B,c,L⟩)
def vo(h:Heap)(a:sysModules < h.objs.size):qQ P w H (h.push {cls:=.type "dict",data:=.dict #[]}) h.objs.size (.dK []):=
 ⟨zac _,beq_eq_false_iff_ne.mpr (Ne.symm (tW a)),[],.nil,Heap.DictOf.new h⟩
def G9(h:Heap)(a:sysModules < h.objs.size):qQ P w H (h.push {cls:=.type "dict",data:=.dict #[]}) h.objs.size (.dT []):=
 ⟨zac _,beq_eq_false_iff_ne.mpr (Ne.symm (tW a)),[],.nil,_,#[],0,tR _ rfl,⟨rfl,rfl,rfl⟩,rfl,rfl,zaY⟩
def uo:TE:=λ_ H Q=>∀a,H a=none->Q (.ref a) (upd H a (.dK []))
def um:TE:=λ_ H Q=>∀a,H a=none->Q (.ref a) (upd H a (.dT []))
def Ku:PE X (.Dict [] [] pos) uo:=λ_ s _ H Q I h=>
 wpAny_Dict_empty ⟨.ref s.heap.objs.size,_,I.laid (a:=s.heap.objs.size) (o:=.dK []) (t':=s.toks) (λ_ _ q=>tj _ q) (tc _) (vo s.heap I.big),rfl,h _ (I.hok.fresh (tc _))⟩
def Qd:JE X (.Dict [] [] pos) uo:=.of (Ku)
def Kt:PE X (.Dict [] [] pos) um:=λ_ s _ H Q I h=>
 wpAny_Dict_empty ⟨.ref s.heap.objs.size,_,I.laid (a:=s.heap.objs.size) (o:=.dT []) (t':=s.toks) (λ_ _ q=>tj _ q) (tc _) (G9 s.heap I.big),rfl,h _ (I.hok.fresh (tc _))⟩
def Gp:JE X (.Dict [] [] pos) um:=.of (Kt)
def vJ:List (TE×TE)->St->Hp->(List (V×V)->Hp->Prop)->Prop
 | [],_,H,Q=>Q [] H
 | (tk,b)::c,a,H,Q=>tk a H λx d=>b a d λy e=>vJ c a e λg i=>Q ((x,y)::g) i
abbrev VV:List (V×V)->List (Value×Value)->Prop:=Paired λa q=>qM a.1 q.1/\qM a.2 q.2
def EJ(X:Cx)(pos:Pos)(keys:List (Option Expr))(fe:List Expr)(c:List (TE×TE)):Prop:=
 ∀(b:List (Addr×Obj)) (s:Shared) (a:St) (H:Hp) (Q:List (V×V)->Hp->Prop),qw X b a H s->vJ c a H Q->
  wpAny (model X.prog X.w) X.A (evalPairs (pairTrees keys fe X.env pos)) (λe g=>∃c d,qw X b a d g/\VV c e/\Q c d) X.xe s
@[irreducible] def Rz (X:Cx) (pos:Pos) (keys:List (Option Expr)) (fe:List Expr) (a:List (TE×TE)):Prop:=EJ X pos keys fe a
def Rz.of(h:EJ X pos keys fe a):Rz X pos keys fe a:=by unfold Rz;exact h
def Rz.to(h:Rz X pos keys fe a):EJ X pos keys fe a:=by unfold Rz at h;exact h
def yV:Rz X pos [] [] []:=.of (by
 exact λ_ s _ H Q I h=>pairTrees_nil_walk ⟨[],H,I,.nil,h⟩)
def Kp(c:PE X k tk)(d:PE X v a)(hr:EJ X pos b vs e):
  EJ X pos (some k::b) (v::vs) ((tk,a)::e):=λa s b H Q I h=>
 pairTrees_cons_walk (jg (c a s b H _ I h) λu c ⟨x,e,g,i,j⟩=>jg (d a c b e _ g j) λ_ c ⟨y,d,e,g,j⟩=>
  jg (hr a c b d _ e j) λ_ _ ⟨a,b,c,e9,d⟩=>⟨(x,y)::a,b,c,.cons ⟨i,g⟩ e9,d⟩)
def JM(a:JE X k tk)(b:JE X v c)(hr:Rz X pos d vs e):Rz X pos (some k::d) (v::vs) ((tk,c)::e):=.of (Kp a.to b.to hr.to)
def QB(kvs more:List (qT×V)):List (qT×V):=more.foldl (λb a=>jQ b a.1 a.2) kvs
def KV.merge:∀{more:List (qT×V)} {rs:List (qT×Value)} {kvs:List (qT×V)} {vs:List (qT×Value)},KV more rs->KV kvs vs->KV (QB kvs more) (merged vs rs):=by
 intro more rs kvs vs a;unfold KV at a;induction a generalizing kvs vs with
 | nil=>intro q;exact q
 | @cons a q c d h t b=>
  intro c;have e:KV (jQ kvs a.1 a.2) (stored vs q.1 q.2):=by
   have:=c.put a.1 h.2;rw[<-h.1];exact this
  exact b e
def Jx:∀(more kvs:List (qT×V)),(QB kvs more).length<=kvs.length+more.length
 | [],kvs=>by show kvs.length<=kvs.length+0;omega
 | a::b,kvs=>by
  have c:=Jx b (jQ kvs a.1 a.2);have c:=Js kvs a.1 a.2;show (QB (jQ kvs a.1 a.2) b).length<=_;rw[t0];omega
def X6:∀{kvs:List (qT×V)} {d:List (Value×Value)},VV (kvs.map λe=>(kV e.1,e.2)) d->∃rs,Carries (js P w) d rs/\KV kvs rs
 | [],_,d=>by rw[zcf]at d;cases d;exact⟨[],True.intro,.nil⟩
 | e::kvs,_,d=>by
  rw[tG]at d;cases d with
  | @cons a b as bs h t=>
   obtain⟨rs,c,q⟩:=X6 (P:=P) (w:=w) t;obtain⟨_,d⟩:=b;exact⟨(e.1,d)::rs,⟨XQ h.1,rfl,c⟩,.cons ⟨rfl,h.2⟩ q⟩
def Da(b:List (TE×TE)):TE:=λc H Q=>∀a,H a=none->vJ b c (upd H a (.dK [])) λd c=>c a=some (.dK [])/\∃b:List (qT×V),d=b.map (λd=>(kV d.1,d.2))/\b.length<=15/\Q (.ref a) (upd c a (.dK (QB [] b)))
def yX(h:Rz X pos keys fe a)(b:keys.all (·.isSome)=true)(d:keys.length=fe.length)(g:keys≠[])(i:keys.length<=15):JE X (.Dict keys fe pos) (Da a):=.of (by
 have h:=h.to;intro a s j H Q I q;have l:=I.hok.fresh (tc s.heap.objs.size);have m:=I.laid (a:=s.heap.objs.size) (o:=.dK []) (h':=s.heap.push {cls:=.type "dict",data:=.dict #[]}) (t':=s.toks) (λ_ _ q=>tj _ q) (tc _) (vo s.heap I.big);refine wpAny_Dict_walk (knd:=js X.prog X.w) b d g i (jg (h a _ j _ _ m (q _ l)) λ_ _ ⟨_,_,a,e9,e,b,d,lk,g⟩=>?_);subst d;obtain⟨d,c,i⟩:=X6 (P:=X.prog) (w:=X.w) e9;obtain⟨z,hd,_,j,l⟩:=y7 a.hok e;cases j;refine⟨d,c,l,λj d l=>⟨.ref s.heap.objs.size,_,?_,rfl,g⟩⟩;have g:(QB [] b).length<=zdZ:=by
  have m:=Jx b [];rw[List.length_nil]at m;rw[sizeLine_eq];omega
 have b:∃q,j.get? s.heap.objs.size=some q:=let ⟨q,_,_,m,_⟩:=d;⟨q,m⟩;exact Xf a (by rw[e];exact True.intro) l b (kB g hd (i.merge .nil) d))
structure M1(X:Cx)(o:Expr)(m:Str)(c_:Pos)(e:Expr)(fi:Pos):Prop where
 base:attributeBase o m X.env (eval o X.env)=eval o X.env
 few:((backTo fi (starEach [e] X.env)).all (λx=> !x.1)&&(backToKw fi (keywordEach [] X.env)).all (λx=>x.1.isSome)
  &&decide (([e]:List Expr).length+([]:List Keyword).length+(if ([]:List Keyword).isEmpty then 0 else 1) < 30))=true
 line:(c_.endLine==fi.line)=true
 trees:backTo fi (starEach [e] X.env)=[(false,eval e X.env)]
structure M2(X:Cx)(o:Expr)(m:Str)(c_:Pos)(e f:Expr)(fi:Pos):Prop where
 base:attributeBase o m X.env (eval o X.env)=eval o X.env
 few:((backTo fi (starEach [e,f] X.env)).all (λx=> !x.1)&&(backToKw fi (keywordEach [] X.env)).all (λx=>x.1.isSome)
  &&decide (([e,f]:List Expr).length+([]:List Keyword).length+(if ([]:List Keyword).isEmpty then 0 else 1) < 30))=true
 line:(c_.endLine==fi.line)=true
 trees:backTo fi (starEach [e,f] X.env)=[(false,eval e X.env),(false,eval f X.env)]
def HB(H:Hp)(a:Addr):Prop:=(∃b,Rd H a (.dK b))\/∃b,Rd H a (.dT b)
def Gw(I:qw X a_ g H s)(d:HB H a):
  s.TypeIs (.ref a) "dict"/\(∀b,Value.ref a=.ref b->∃c,s.heap.get? b=some c/\c.dict=none)/\(a==sysModules)=false:=by
 rcases d with ⟨g,e⟩ | ⟨g,e⟩
 ·obtain⟨_,hd,_,_,g⟩:=YH I.hok e;refine⟨g.typeIs,λb q=>?_,hd⟩;cases q;obtain⟨c,_,_,i,j,_⟩:=g;exact⟨c,i,j.2.1⟩
 ·obtain⟨_,hd,_,_,g⟩:=XZ I.hok e;refine⟨g.typeIs,λb q=>?_,hd⟩;cases q;obtain⟨c,_,_,i,j,_⟩:=g;exact⟨c,i,j.2.1⟩
def Cs{A:Around}{Q:Value->Shared->Prop}(hu:A.units+1 < cLine)(I:qw X a_ j H s)(g:j0 H a y o)(l:qM y u)(m:qM d r)(h:∀c i,qw X a_ j H i->qM (o.getD d) c->Q c i):
  wpAny (model X.prog X.w) A (call (.builtin "dict.get") [.ref a,u,r]) Q E s:=by
 rcases g with ⟨c,k,e,i,j⟩ | ⟨c,k,b,e,i,p,j⟩
 ·subst i;obtain⟨z,hd,_,e9,c⟩:=YH I.hok e;refine call_meetsIn zco c.typeIs zdk (zcZ _ _ _) (meets_dict_get_default (js X.prog X.w) a (XQ l) hd r) ⟨_,c.mapOf,h _ _ (I.tok _) ?_⟩;rw[j];exact(e9.val k).getD m
 ·subst i;cases (show u=Value.ref b from l);obtain⟨z,hd,i,e9,c⟩:=XZ I.hok e;refine call_meetsIn zco c.typeIs zdk (zcZ _ _ _) (meetsH_dict_get_default (tupleKind (js X.prog X.w)) a b hd r) ⟨tupleKind_room_in1 hu,k,i,Yp I.hok p,c,h _ _ (I.tok _) ?_⟩;rw[j];exact(e9.val k).getD m
inductive kX(ty tx:TE)(σ:St)(Q:VK)(x:V)(H1:Hp):Prop
 | mk (a:_):x=.ref a->HB H1 a->(ty σ H1 λy H2=>tx σ H2 λz H3=>∃o,j0 H3 a y o/\Q (o.getD z) H3)->kX ty tx σ Q x H1
def A0(b ty c:TE):TE:=λa H Q=>b a H λx b=>kX ty c a Q x b
def Gq{X:Cx}(hu:X.A.units+1 < cLine)(b:JE X o i)(c:JE X e ty)(g:JE X f j)(m:M2 X o "get" c_ e f l):JE X (.Call (.Attribute o "get" c_) [e,f] [] l) (A0 i ty j):=.of (by
 have b:=b.to;have c:=c.to;have g:=g.to;intro i s j H Q I h;refine wpAny_Call_method m.base m.few m.line zda zco PySem.F.type_dict_get (jg (b i s j H _ I h) λu l ⟨x,p,b,q,a,r,d,v⟩=>?_);subst r;obtain rfl:u=Value.ref a:=q;obtain⟨q,r,_⟩:=Gw b d;refine⟨q,r,?_⟩;rw[m.trees];refine Calls.callWith_builtin rfl (Calls.evalArgs_plain (Calls.spliced_cons (jg (c i l j p _ b v) λ_ b ⟨y,c,l,p,q⟩=>
  Calls.spliced_cons (jg (g i b j c _ l q) λ_ _ ⟨z,b,c,g,_,i,j⟩=>Calls.spliced_nil ?_))))
 exact Cs hu c i p g λ_ _ c g=>⟨_,b,c,g,j⟩)
end L2
namespace Att
open PySem PySem.W PySem.Calls
open PyProof.Rows hiding K lo
def YM:∀(ns:List Int) (vs:List Value),WellAll P h vs (ns.map WData.int)->IntsAre vs ns:=by
 intro ns;induction ns with
 | nil=>
  intro vs w;rw[zcf]at w;cases w;exact .nil
 | cons n ns c=>
  intro vs w;rw[tG]at w;cases w with
  | cons a b=>
   cases a;exact .cons _ _ (c _ b)
def xJ{l:OpenLaw}(e:l.most=some n)(b:l.row.toRowW.claim.pre args=true)(g:WellAll P h i args):
  ∃a vs ns,i=[Value.ref a]/\args=[WData.list (ns.map WData.int)]/\h.get? a=some {cls:=.type "list",data:=.seq vs.toArray}/\IntsAre vs ns/\ns.length<=n:=by
 have j:WShape.hasAll [] args [.list .int]=true:=(pre_splitW b).1;have c:l.pre.holds [] {args:=args}=true:=(pre_splitW b).2;obtain⟨d,_,rfl,m,o⟩:=hasAllW_cons j;obtain rfl:=hasAllW_nil o;obtain⟨_,rfl,p⟩:=hasW_list m;obtain⟨ns,rfl⟩:=items_int p;have r:ns.length<=n:=by
  unfold OpenLaw.pre at c;have b:(WTm.not (.lt (.lit (.int (n:Int))) (.len (.arg 0)))).holds [] {args:=[.list (ns.map .int)]}=true:=by
   have b:=(holds_andW c).1;rw[e]at b;exact b
  have c:=condW_of b (w_not (w_lt w_lit (w_len_list (w_arg rfl))));rw[ta]at c;refine Nat.le_of_not_lt λq=>?_;have b:(n:Int) < ((ns.length:Nat):Int):=by omega
  first
   | (rw[decide_eq_true b]at c;exact absurd c (by decide))
   | (simp at c;omega)
 cases g with
 | cons u v=>
  cases v;cases u with
  | list b c=>exact⟨_,_,ns,rfl,rfl,b,YM ns _ c,r⟩
def xQ(l:OpenLaw)(args:List WData):l.row.toRowW.claim.post args (.bool true) args=true:=
 postW_of (r:=l.row.toRowW) (X:=(true==true))
  (show WShape.has [] (.bool true) .bool=true by first | rfl | decide | simp [WShape.has,WShape.arms,WShape.armsAll])
  (show (WTm.eq .res (.lit (.bool true))).value [] {args:=args,res:=some (.bool true),after:=args}=some (.bool (true==true)) from w_eq_bool (w_res rfl) w_lit) rfl
def attach_call{l:OpenLaw}{j:World->Heap->Prop}{d:DefRec}(m:l.most=some n)(p:d.params.defaults=[]) (call:∀(w:World) (s₀ b:Shared) (mg g:Str->Option Value) (fa:Addr) (o:Obj) (pm c i:Value) (a:Addr) (vs:List Value) (ns:List Int),
   Ground q u [] v w s₀ mg g b.heap->j w b.heap->
   b.heap.get? fa=some o->o.data=.func (docDef d.name d.params d.body d.scope pm c i)->b.heap.CodeRec c d.name->mg d.name=some (.ref fa)->
   b.heap.get? a=some {cls:=.type "list",data:=.seq vs.toArray}->IntsAre vs ns->ns.length<=n->b.gens=#[]->
   codeAny (model l.prog w) callerA (.call (.ref fa) ⟨[.ref a],[]⟩) (λr e=>r=.ok (.ret (.bool true))/\OldK b.heap e.heap/\e.os=b.os/\AllBare e.gens) b):
  WalkO q u v j l.row.toRowW d [] (λf vs=>PySem.call f vs):=by
 intro w s₀ b mg g G Y fa o pm c i u kV v hd x j y z args _ as B _ _ C _;obtain rfl:u=.none:=Dflts.none j p;obtain rfl:kV=.none:=Dflts.noKw j;obtain⟨a,vs,ns,rfl,rfl,j,p,u⟩:=xJ m B C;refine enter_call (codeAny_mono (call w s₀ b mg g fa o pm c i a vs ns G Y v (fd_plain hd) x y j p u z) λr e b=>?_);obtain⟨rfl,c,e,g⟩:=b;exact⟨.inl ⟨.bool true,.bool true,[],rfl,λ_=>rfl,.bool true,xQ l _,λ_=>⟨zdB.nil,λ_ b=>(nomatch b)⟩⟩,c,e,g⟩
end Att
namespace L2
open PySem PySem.Spec
open PyProof.Rows hiding K lo
def Wv:∀{vs:List Value} {ns:List Int},IntsAre vs ns->qI (ns.map V.int) vs
 | _,_,.nil=>.nil
 | _,_,.cons n t h=>.cons ⟨t,rfl⟩ (Wv h)
def Hw(H:Hp):Prop:=∀b,H b=none\/∃a c,H b=some (.frz a (.lst c))
open PyProof.Rows hiding K lo
open PyProof.Rows hiding K lo
def Qt(s:Stmt)(j:Nat):Stmt:=match s with
 | .ClassDef _ _ _ ff _ _ _ _ _ _ _=>ff.getD j (.Pass ⟨0,0,0,0⟩)
 | _=>.Pass ⟨0,0,0,0⟩
def jL(s:Stmt):Arguments:=match s with
 | .FunctionDef _ a _ _ _ _ _ _ _ _=>a
 | _=>{posonlyargs:=[],args:=[],vararg:=none,kwonlyargs:=[],kw_defaults:=[],kwarg:=none,defaults:=[]}
def qX(s:Stmt):List Stmt:=match s with
 | .FunctionDef _ _ b _ _ _ _ _ _ _=>b
 | _=>[]
def qc(s:Stmt):Scope:=match s with
 | .FunctionDef _ _ _ _ _ _ a _ _ _=>a
 | _=>{kind:=.function,names:=[],isGenerator:=false,isCoroutine:=false}
abbrev qN:wX:=λ_ _ _ _ _ _=>False
abbrev E0:XK:=λ_ _ _=>False
def Jd:QT qN X E0:=λ_ _ _ _ _ _ _ h=>h.elim
structure jE(K:zdU)(x qual:Str)(st:Stmt)(f:Addr)(fd:zdY):Prop where
 ex:∃(oc:Value) (od:Option Addr) (kV fv pm:Value) (an:Option Addr) (gW ct:Value) (g6:Array (Option Value)),
  fd=zaH x qual (jL st) (qX st) (qc st) .none kV fv pm an gW ct/\K.lookup f=some ⟨oc,od,.func fd,g6⟩/\zaQ K gW qual=true
 kp:zar K (.ref f)=true
def jE.ok{P:Program}{w:World}{K:zdU}{mg:Str->Option Value}{base:Heap}{x qual:Str}{st:Stmt}{f:Addr}{b:zdY}{N ps:List Str}{k:Nat}{sp:Sp}(F:jE K x qual st f b)(S:qh N ps (qc st))(len:∀vs H Q E,sp vs H Q E->vs.length=ps.length)
  (c:∀(a:Value) (A:Around) (outer:List Env) (s:Shared) (H:Hp) (vs:List V) (Q:VK) (E:XK),je k (A.deeper (envOfC qual (qc st) s.heap.objs.size f a))->sp vs H Q E->
   ∃t,AT (zS qN P w K mg base N qual (qc st) f a A outer s H E).nox (qX st) t/\t {nx:=λ_ d=>Q .non d,rt:=Q} (jT N vs) H):qp P w K mg base qN (k+1) f b ps sp:=by
 obtain⟨_,_,kV,_,pm,_,a,_,_,rfl,lk,b⟩:=F.ex;refine Et lk b S len λA outer s H vs Q E hr b=>?_;obtain⟨t,h,q⟩:=c a A outer s H vs Q E hr b;exact⟨t,h.nox,q⟩
def jE.okJ{P:Program}{w:World}{K:zdU}{mg:Str->Option Value}{base:Heap}{x qual:Str}{st:Stmt}{f:Addr}{d:zdY}{N ps:List Str}{k:Nat}{sp:Sp}(F:jE K x qual st f d)(S:qh N ps (qc st))(len:∀vs H Q E,sp vs H Q E->vs.length=ps.length)
  (e:∀(c:Value) (A:Around) (outer:List Env) (s:Shared) (H:Hp) (vs:List V) (Q:VK) (E:XK),je k (A.deeper (envOfC qual (qc st) s.heap.objs.size f c))->sp vs H Q E->
   ∃t,JSs (zS qN P w K mg base N qual (qc st) f c A outer s H E).nox (qX st) t/\t {nx:=λ_ g=>Q .non g,rt:=Q} (jT N vs) H):qp P w K mg base qN (k+1) f d ps sp:=
 F.ok S len λc A outer s H vs Q E hr h=>let ⟨t,a,b⟩:=e c A outer s H vs Q E hr h;⟨t,a.to,b⟩
def jE.okK{P:Program}{w:World}{K:zdU}{mg:Str->Option Value}{base:Heap}{x qual:Str}{st:Stmt}{f:Addr}{a:zdY}{N ps:List Str}{k:Nat}{sp:Sp}(F:jE K x qual st f a)(S:qh N ps (qc st))(c:∀{b:Value} {A:Around} {outer:List Env} {s:Shared} {vs:List V} {nd:N.Nodup} (H:Hp) (Q:VK) (E:XK),je k (A.deeper (envOfC qual (qc st) s.heap.objs.size f b))->sp vs H Q E->∃t,JSs (zS qN P w K mg base N qual (qc st) f b A outer s H E).nox (qX st) t/\t {nx:=λ_ d=>Q .non d,rt:=Q} (jT N vs) H)(len:∀vs H Q E,sp vs H Q E->vs.length=ps.length:=by intro _ _ _ _ z;first | (cases z;subst_vars;rfl) | repeat first | (obtain⟨rfl,_⟩:=z;rfl) | obtain⟨_,z⟩:=z):qp P w K mg base qN (k+1) f a ps sp:=F.okJ S len λ_ _ _ _ H _ Q E hr z=>c (nd:=S.nd) H Q E hr z
def jE.binds{K:zdU}{x qual:Str}{st:Stmt}{f:Addr}{d:zdY}{ps:List Str}(F:jE K x qual st f d)
  (h:∀(kV a pm:Value) (b:Option Addr) (c ct:Value) (us:List Value),us.length=ps.length->bindArgs (zaH x qual (jL st) (qX st) (qc st) .none kV a pm b c ct) ⟨us,[]⟩=pure (ps.zip us)):jN K d ps []:=by
 obtain⟨_,_,kV,a,pm,b,c,ct,_,rfl,lk,_⟩:=F.ex;exact .all (h kV a pm b c ct)
def zc{K:zdU}{x qual:Str}{st:Stmt}{f:Addr}{oc:Value}{e b:Option Addr}{g:Array (Option Value)}{kV d pm a ct:Value}(l:K.lookup f=some ⟨oc,e,.func (zaH x qual (jL st) (qX st) (qc st) .none kV d pm b a ct),g⟩)
 (c:zaQ K a qual=true) (k:zar K (.ref f)=true):jE K x qual st f (zaH x qual (jL st) (qX st) (qc st) .none kV d pm b a ct):=⟨⟨oc,e,kV,d,pm,b,a,ct,g,rfl,l,c⟩,k⟩
def hu_of(hr:je k A):A.units+1 < cLine:=zat (Nat.add_le_add_left (by decide:1<=64) _) hr.units
def ql(h:n<=1000):n < zdZ:=zat h (by decide)
def Ze(h:Nat.ble n 1000=true:=by exact rfl):n<=zdZ:=tS (Nat.le_of_ble_eq_true h) (by decide)
def pv{X:Cx}(i:Nat)(hN:X.N[i]?=some x:=by rfl)(a:Cz X.env.scope x:=by first | exact Or.inl rfl | exact Or.inr (Or.inl rfl) | exact Or.inr (Or.inr rfl))(hd:(x==("__debug__":Str))=false:=by decide)(b:(x==("__classdict__":Str))=false:=by decide):PE X (.Name x pos) (qY i):=Kr hN a hd b
def jv{X:Cx}(i:Nat)(hN:X.N[i]?=some x:=by rfl)(a:Cz X.env.scope x:=by first | exact Or.inl rfl | exact Or.inr (Or.inl rfl) | exact Or.inr (Or.inr rfl))(hd:(x==("__debug__":Str))=false:=by decide)(b:(x==("__classdict__":Str))=false:=by decide):JE X (.Name x pos) (qY i):=.of (pv i hN a hd b)
def jG{A B:Prop}(h:B):if false=true then A else B:=by
 rw[if_neg tH];exact h
def Q4{A B:Prop}(h:A):if true=true then A else B:=by
 rw[if_pos rfl];exact h
def VS{c A B:Prop}[Decidable c](a:c->A)(b:¬c->B):if c then A else B:=by
 by_cases h:c
 ·rw[if_pos h];exact a h
 ·rw[if_neg h];exact b h
def qi(H c:Hp):Prop:=∀b a,H b=some a->c b=some a
def qi.refl(H:Hp):qi H H:=λ_ _ h=>h
def qi.trans(a:qi H d)(b:qi d e):qi H e:=λc d h=>b c d (a c d h)
def qi.seq(e:qi H b)(h:SqL K H a xs):SqL K b a xs:=by
 rcases h with (h | ⟨b,h⟩) | h
 ·exact .inl (.inl (e _ _ h))
 ·exact .inl (.inr ⟨b,e _ _ h⟩)
 ·exact .inr h
def wR:QX X (.builtin "len") (λxs H Q=>∃a kvs,xs=[V.ref a]/\H a=some (.dK kvs)/\Q (.int kvs.length) H):=by
 intro _ s _ H xs _ Q I b h;obtain⟨a,kvs,rfl,c,q⟩:=h;obtain⟨u,rfl,d⟩:=Q9 b;cases d;exact Ez I (.inl c) λt _ b=>⟨.int kvs.length,H,b,⟨t,rfl⟩,q⟩
section
variable{κ:Type}[DecidableEq κ]
def RF{kvs:List (κ×V)}{k:κ}{v:V}(h:jh kvs k=some v):k∈kvs.map (·.1):=by
 have q:(kvs.any λa=>decide (a.1=k))=true:=by
  rw[Jb,h]
  all_goals rfl
 obtain⟨a,b,e⟩:=zaI.mp q;exact tl.mpr ⟨a,b,of_decide_eq_true e⟩
end
end L2
set_option maxHeartbeats 4000000
namespace L2
open PySem PySem.Spec
open PyProof.Rows hiding K lo
def y1:(NameKind.free==NameKind.free)=true:=rfl
def qK(env:Env):List (Str×NameKind)->List (Str×Addr)->List (Str×Addr)
 | [],a=>a
 | (n,k)::b,a=>qK env b (if k==.free then (n,(env.cells.lookup n).getD 0)::a else a)
def QK{env:Env}(h:∀x∈scope.names,x.2=.free->∃c,env.cells.lookup x.1=some c):closureFor scope env=pure (qK env scope.names []):=by
 simp only[closureFor];have fm:∀(b:List (Str×NameKind)) (d:List (Str×Addr)),(∀x∈b,x.2=.free->∃c,env.cells.lookup x.1=some c)->
   (forIn b d λx (e:List (Str×Addr))=>if (x.snd==NameKind.free)=true then (do let a <-cellOf env x.fst;pure (ForInStep.yield ((x.fst,a)::e)):Sem (ForInStep (List (Str×Addr)))) else pure (ForInStep.yield e))=(pure (qK env b d):Sem (List (Str×Addr))):=by
  intro b;induction b with
  | nil=>intro d _;rfl
  | cons x b g=>
   intro d e;obtain⟨n,k⟩:=x;have i:=λj=>g j λy l=>e y (tA _ l);rw[List.forIn_cons];by_cases j:k=.free
   ·subst j;obtain⟨c,l⟩:=e (n,.free) tE rfl;have m:cellOf env n=pure c:=by
     unfold cellOf;have e:env.cells.lookup n=some c:=l;rw[e]
    have g:qK env ((n,NameKind.free)::b) d=qK env b ((n,c)::d):=by
     have e:env.cells.lookup n=some c:=l;show qK env b (if (NameKind.free==NameKind.free)=true then (n,(env.cells.lookup n).getD 0)::d else d)=_;rw[if_pos y1,e];rfl
    rw[g,<-i]
    try dsimp only
    rw[if_pos y1,m];rfl
   ·have e:(k==NameKind.free)=false:=by simpa using j
    have g:qK env ((n,k)::b) d=qK env b d:=by
     show qK env b (if (k==NameKind.free)=true then (n,(env.cells.lookup n).getD 0)::d else d)=_;rw[if_neg (by rw[e];decide)]
    rw[g,<-i]
    try dsimp only
    rw[if_neg (by rw[e];decide)];rfl
 rw[fm scope.names [] h];rfl
def j1:∀{l:List (Str×NameKind)} {cs:List (Str×Addr)},(qK env l cs).lookup x=some c->cs.lookup x=some c\/((x,NameKind.free)∈l/\c=(env.cells.lookup x).getD 0)
 | [],cs,h=>.inl h
 | (n,k)::a,cs,h=>by
  rcases j1 (l:=a) h with h | ⟨e,g⟩
  ·by_cases b:k=.free
   ·subst b;rw[if_pos y1,zaf]at h;by_cases d:x=n
    ·subst d;simp only[beq_self_eq_true]at h;exact .inr ⟨tE,(tz.inj h).symm⟩
    ·have a:(x==n)=false:=beq_eq_false_iff_ne.mpr d;simp only[a]at h;exact .inl h
   ·have a:(k==NameKind.free)=false:=by simpa using b
    rw[if_neg (by rw[a];decide)]at h;exact .inl h
  ·exact .inr ⟨tA _ e,g⟩
def Jl:∀{l:List (Str×NameKind)} {cs:List (Str×Addr)},((x,NameKind.free)∈l\/∃c,cs.lookup x=some c)->∃c,(qK env l cs).lookup x=some c
 | [],cs,h=>by
  rcases h with h | h
  ·cases h
  ·exact h
 | (n,k)::a,cs,h=>by
  show ∃c,(qK env a (if (k==NameKind.free)=true then (n,(env.cells.lookup n).getD 0)::cs else cs)).lookup x=some c;refine Jl (l:=a) ?_;rcases h with h | ⟨c,h⟩
  ·rcases tI.mp h with h | h
   ·cases h;refine .inr ⟨(env.cells.lookup x).getD 0,?_⟩;rw[if_pos y1,zaf];simp only[beq_self_eq_true]
   ·exact .inl h
  ·refine .inr ?_;by_cases a:(k==NameKind.free)=true
   ·rw[if_pos a,zaf];cases b:x==n with
    | true=>exact⟨_,rfl⟩
    | false=>exact⟨c,h⟩
   ·rw[if_neg a];exact⟨c,h⟩
def zw{scope:Scope}{env:Env}:∀{names:List (Str×NameKind)},names.lookup x=some k->
  ∃b,(names.map λ(n,k)=>if (k==NameKind.free&&env.scope.kind==.function&&env.kindOf n==some .cell) then (n,NameKind.cell) else (n,k)).lookup x=some b/\(b=k\/(k=.free/\b=.cell))
 | [],h=>by simp at h
 | (n,e)::a,h=>by
  rw[tG];by_cases d:x=n
  ·subst d;rw[zaf]at h;simp only[beq_self_eq_true]at h;cases h
   try dsimp only
   by_cases a:(k==NameKind.free&&env.scope.kind==.function&&env.kindOf x==some .cell)=true
   ·rw[if_pos a,zaf];simp only[beq_self_eq_true];refine⟨_,rfl,.inr ⟨?_,rfl⟩⟩;simp only[zae,beq_iff_eq]at a;exact a.1.1
   ·rw[if_neg a,zaf];simp only[beq_self_eq_true];exact⟨_,rfl,.inl rfl⟩
  ·have c:(x==n)=false:=beq_eq_false_iff_ne.mpr d;rw[zaf]at h;simp only[c]at h;obtain⟨b,d,g⟩:=zw (env:=env) (scope:=scope) h;refine⟨b,?_,g⟩
   try dsimp only
   by_cases a:(e==NameKind.free&&env.scope.kind==.function&&env.kindOf n==some .cell)=true
   ·rw[if_pos a,zaf];simp only[c];exact d
   ·rw[if_neg a,zaf];simp only[c];exact d
def mem_of_lookup:∀{l:List (Str×NameKind)},l.lookup x=some k->(x,k)∈l
 | [],h=>by simp at h
 | (n,a)::b,h=>by
  rw[zaf]at h;by_cases a:x=n
  ·subst a;simp only[beq_self_eq_true]at h;cases h;exact tE
  ·have b:(x==n)=false:=beq_eq_false_iff_ne.mpr a;simp only[b]at h;exact tA _ (mem_of_lookup h)
def ZX{f:Str×NameKind->Str×NameKind}(a:∀p,(f p).1=p.1):∀{l:List (Str×NameKind)},(l.map f).lookup x=some k->∃j,l.lookup x=some j/\(f (x,j)).2=k
 | [],h=>by simp at h
 | (n,j)::b,h=>by
  rw[tG]at h;have e:f (n,j)=(n,(f (n,j)).2):=by
   have:=a (n,j);exact Prod.ext this rfl
  rw[e,zaf]at h;rw[zaf];by_cases b:x=n
  ·subst b;simp only[beq_self_eq_true]at h ⊢;exact⟨j,rfl,tz.inj h⟩
  ·have c:(x==n)=false:=beq_eq_false_iff_ne.mpr b;simp only[c]at h ⊢;exact ZX a h
def Yv(X:Cx)(N:List Str)(scope:Scope)(C:Addr)(a:Shared)(b:Hp)(fp:List Addr)(a_:List (Addr×Obj)):Cx where
 prog:=X.prog
 w:=X.w
 K:=X.K
 mg:=X.mg
 base:=X.base
 A:=X.A
 N:=N
 s₀:=a
 H₀:=b
 env:=compEnvC scope (qK X.env scope.names []) C X.env
 outer:=X.stack
 stack:=X.stack
 ex:=fp
 fn:=λ_=>false
 calm:=X.calm
 pn:=X.pn++a_
 xe:=λ_ _=>False
def ndC{N':List Str}(h:N'.Nodup:=by decide+kernel):(Yv X N' scope C s H fp a_).N.Nodup:=h
def A2(ix:List (Option Nat))(a:St):St:=ix.map λb=>b.bind λb=>(a[b]?).join
def Ck(N' N:List Str)(sc b:Scope)(ix:List (Option Nat)):Bool:=
 ix.length==N'.length&&(ix.zip N').all λa=>match a.1 with
  | none=>true
  | some c=>N[c]?==some a.2&&sc.names.lookup a.2==some .free&&(b.names.lookup a.2==some .cell || b.names.lookup a.2==some .free)
structure Qn(X:Cx)(N':List Str)(ix:List (Option Nat))(scope:Scope):Prop where
 kind:scope.kind=.function
 nocell:(scope.names.all λx=>x.2 != .cell)=true
 locs:(scope.names.all λx=>x.2 != .local || scope.names.lookup x.1==some .local)=true
 frees:(scope.names.all λx=>x.2 != .free || (X.env.scope.names.lookup x.1==some .cell || X.env.scope.names.lookup x.1==some .free))=true
 ixs:Ck N' X.N scope X.env.scope ix=true
def Qn.cellH(S:Qn X N' ix scope):∀y∈scope.names,y.2≠.cell:=λy a e=>by
 have:=zag.mp S.nocell y a;rw[e]at this;exact absurd this (by decide)
def Qn.locH(S:Qn X N' ix scope):∀y∈scope.names,y.2=.local->scope.names.lookup y.1=some .local:=λy a e=>by
 have:=zag.mp S.locs y a;simp only[e,zdp,bne_self_eq_false,zaO,false_or,beq_iff_eq]at this;exact this
def Qn.freeH(S:Qn X N' ix scope)(ok:X.Ok):∀x∈scope.names,x.2=.free->∃c,X.env.cells.lookup x.1=some c:=λx a e=>by
 have:=zag.mp S.frees x a;simp only[e,zdp,bne_self_eq_false,zaO,false_or,beq_iff_eq]at this;exact ok.has x.1 this
def Qn.clook(S:Qn X N' ix scope)(ok:X.Ok)(h:(qK X.env scope.names []).lookup x=some c):X.env.cells.lookup x=some c/\(x,NameKind.free)∈scope.names:=by
 rcases j1 h with h | ⟨a,b⟩
 ·simp at h
 ·obtain⟨e,g⟩:=S.freeH ok _ a rfl;have d:X.env.cells.lookup x=some e:=g;rw[d]at b;subst b;exact⟨d,a⟩
def EB{fp:List Addr}(S:Qn X N' ix scope)(I:qw X a_ a H s)(m:s.heap.objs.size<=C)(g:∀b∈fp,JP X a_ H b)(p:∀b∈fp,b < s.heap.objs.size):(Yv X N' scope C s H fp a_).Ok where
 mod:=I.ok.mod
 kind:=S.kind
 glob:=I.ok.glob
 blt:=I.ok.blt
 above:=m
 inj:=λx y c a d=>I.ok.inj x y c (S.clook I.ok a).1 (S.clook I.ok d).1
 has:=λx i=>by
  have q:(relabel scope X.env).names.lookup x=some .cell\/(relabel scope X.env).names.lookup x=some .free:=i;refine Jl (.inl ?_);have go:∀k,(k=NameKind.cell\/k=.free)->(relabel scope X.env).names.lookup x=some k->(x,NameKind.free)∈scope.names:=λk r h=>by
   obtain⟨j,a,d⟩:=ZX (f:=λ(n,k)=>if (k==NameKind.free&&X.env.scope.kind==.function&&X.env.kindOf n==some .cell) then (n,NameKind.cell) else (n,k)) (λ_=>by dsimp only;split<;>rfl) h;have i:=mem_of_lookup a;by_cases l:j=.free
   ·subst l;exact i
   ·exfalso;have a:(j==NameKind.free)=false:=by simpa using l
    try dsimp only at d
    rw[a,zcc,zcc,if_neg (by decide)]at d;have o:j=k:=d;rcases r with e | e
    ·exact S.cellH _ i (o.trans e)
    ·exact l (o.trans e)
  rcases q with h | h
  ·exact go _ (.inl rfl) h
  ·exact go _ (.inr rfl) h
 cab:=λx c h _=>by cases h
 hd:=I.ok.hd
 frames:=I.ok.frames
 stk:=.inl rfl
 exf:=λb a=>⟨tW (tN (p b a) m),λx c h=>(g b a).2.2.2.2.1 x c (S.clook I.ok h).1⟩
 bs:=I.bs
 bsz:=tS I.ok.bsz I.sz
 noex:=λb d e a=>by
  rcases(g b a).2.2.2.1 with h | h
  ·exact I.ok.noex b d e h
  ·exact absurd (tN (tK e) (tS I.ok.bsz h)) (zal _)
 exfs:=λb a i=>by
  rcases tI.mp (I.stkSub b i) with e | e
  ·exact(g b a).2.1 e
  ·exact(g b a).2.2.1 e
 funs:=I.stack
 frf:=I.stkFree
def wA{fp:List Addr}{a:Heap}(S:Qn X N' ix scope)(I:qw X a_ l H s)(g:∀b∈fp,JP X a_ H b)(j:∀b∈fp,b < s.heap.objs.size)(p:s.heap.objs.size<=D)(J:s.heap.objs.size<=C)(Q:D≠C)(r:∀b o,s.heap.get? b=some o->a.get? b=some o)(y:a.Ns C m)(T:a.get? D=some {cls:=.type "list",data:=.seq #[] U}):
  qw (Yv X N' scope C s H fp a_) [] (A2 ix l) (upd H D (.lst [])) {s with heap:=a,toks:=t'} where
 ok:=EB S I J g j
 os:=rfl
 bare:=I.bare
 base:=Un.laid r p (I.hok.fresh p)
 loc:=by
  refine⟨m,y,λi x v j a _=>?_⟩;have g:=S.ixs;unfold Ck at g;rw[zae]at g;obtain⟨y,L⟩:=g;have B:ix.length=N'.length:=by simpa using y
  have O:N'[i]?=some x:=j;unfold A2 at a;rw[tp]at a;cases j:ix[i]? with
  | none=>rw[j]at a;cases a
  | some o=>
   rw[j]at a;cases o with
   | none=>cases a
   | some y=>
    have B:(l[y]?).join=some v:=tz.inj a;have Y:(ix.zip N')[i]?=some (some y,x):=by
     rw[List.getElem?_zip_eq_some];exact⟨j,O⟩
    have a:=zag.mp L _ (tL Y)
    try dsimp only at a
    simp only[zae,beq_iff_eq,zdp]at a;obtain⟨⟨Y,L⟩,O⟩:=a;have aa:l[y]?=some (some v):=by
     cases q:l[y]? with
     | none=>rw[q]at B;cases B
     | some z=>
      rw[q]at B;have:z=some v:=B;rw[this]
    obtain⟨_,_,B⟩:=I.loc;have ab:Cz X.env.scope x:=by
     rcases O with h | h
     ·exact .inr (.inl h)
     ·exact .inr (.inr h)
    obtain⟨u,ru,lu⟩:=B y x v Y aa ab;refine⟨u,ru,?_⟩;rcases lu with ⟨B,_⟩ | ⟨_,c,Y,ac⟩
    ·exfalso;have y:X.env.scope.names.lookup x=some .local:=B;rcases O with h | h<;>rw[h]at y<;>cases y
    ·right;obtain⟨_,y,B⟩:=zw (scope:=scope) (env:=X.env) L;refine⟨?_,?_⟩
     ·rcases B with z | ⟨_,z⟩
      ·right;rw[z]at y;exact y
      ·left;rw[z]at y;exact y
     ·obtain⟨_,y⟩:=Jl (env:=X.env) (cs:=[]) (.inl (mem_of_lookup L));have:=(S.clook I.ok y).1;rw[Y]at this;cases this;obtain⟨o,B,hd⟩:=ac;exact⟨c,y,o,r _ _ B,hd⟩
 cell:=λx c h=>by
  obtain⟨v,o,j,hd⟩:=I.cell x c (S.clook I.ok h).1;exact⟨v,o,r _ _ j,hd⟩
 free:=by
  show (upd H D _) C=none;rw[qg (Ne.symm Q)];exact I.hok.fresh J
 freeC:=λx c h=>by
  have y:=(S.clook I.ok h).1;obtain⟨v,o,j,hd⟩:=I.cell x c y;rw[qg (tW (tN (tK j) p))];exact(I.freeC x c y).imp id λz=>⟨rfl,z.2⟩
 pin:=λj y=>by
  have B:j∈X.pn++a_:=by
   have:j∈(X.pn++a_)++[]:=y;simpa using this
  obtain⟨e,n,ne,L,d⟩:=I.pin j B;have y:=tK e;refine⟨r _ _ e,?_,tW (tN y J),λa=>?_,d⟩
  ·rw[qg (tW (tN y p))];exact n
  ·rcases tI.mp (I.stkSub j.1 a) with z | z
   ·exact ne z
   ·exact L z
 hok:=I.hok.laid r p ⟨zac _,[],U,.nil,T⟩
 len:=by
  have g:=S.ixs;unfold Ck at g;rw[zae]at g;have:ix.length=N'.length:=by simpa using g.1
  show (A2 ix l).length=N'.length;unfold A2;rw[ta,this]
def Gy{fp:List Addr}(I:qw X a_ d H s)(a:∀b∈fp,JP X a_ H b)(c:qw (Yv X N' scope C s H fp a_) pl i e g):qw X a_ d e g:=
 I.call' (ch:=fp) c.os c.base c.hok c.bare λb c=>⟨(a b c).2.2.2.1,(a b c).2.1,(a b c).2.2.2.2.1,(a b c).2.2.2.2.2⟩
def Gx(a:qw X a_ i H s₀)(I:qw X a_ i j g)(d:s₀.heap.objs.size<=C)(l:j C=none)(m:Heap.SameBut C g.heap h'):qw X a_ i j {g with heap:=h'}:=by
 refine I.turned (it:=C) (t':=g.toks) (λb _ g e=>(m.2 b g).trans e) l (zbv (tN a.lt d)) (.inr (tS a.sz d)) (λx c e z=>?_) λg i z=>?_
 ·obtain⟨v,q⟩:=a.cell x c e;exact absurd (tN q.lt (by rw[z];exact d)) (zal _)
 ·exact absurd (tN (tK (a.pin g i).1) (by rw[z];exact d)) (zal _)
def CU(X:Cx)(d:List Expr)(t:TT):Prop:=
 ∀(b:List (Addr×Obj)) (s:Shared) (a:St) (H:Hp) (Q:Bool->Hp->Prop),qw X b a H s->t a H Q->
  wpAny (model X.prog X.w) X.A (forIn d true λc d=>if d=true then do let ok <-isTrue c X.env (eval c X.env);pure (ForInStep.yield ok) else pure (ForInStep.yield d)) (TP X b a Q) X.xe s
@[irreducible] def Ry (X:Cx) (a:List Expr) (t:TT):Prop:=CU X a t
def Ry.of(h:CU X a t):Ry X a t:=by unfold Ry;exact h
def Ry.to(h:Ry X a t):CU X a t:=by unfold Ry at h;exact h
def Fc:TT:=λ_ H Q=>Q true H
def jJ:Ry X [] Fc:=.of (by
 exact λ_ _ _ H _ I h=>wpAny_tests_nil ⟨H,I,h⟩)
def j7(h:JT X c t):Ry X [c] t:=.of (by
 have h:=h.to;exact λa s b H Q I d=>wpAny_tests_one (h a s b H Q I d))
def VZ{R:Result->Shared->Prop}{b:Expr}{d:Value}(I:Nat->Shared->Prop) (y:∀n s,I n s->wpAny (model prog w) A (pyNext it) (λr e=>match r with
   | none=>R (.ok .next) e
   | some v=>wpAny (model prog w) A (letOwnedTupleGo b_ it v) (λ_ i=>wpAny (model prog w) A (assign b_ env v) (λ_ j=>
    wpAny (model prog w) A (forIn l true λc r=>if r=true then do let ok <-isTrue c env (eval c env);pure (ForInStep.yield ok) else pure (ForInStep.yield r)) (λok g=>
     if ok=true then wpAny (model prog w) A (eval b env) (λx o=>
      wpAny (model prog w) A (call (.builtin "list.append") [d,x]) (λ_ p=>∃m,m < n/\I m p) (λ_ _=>False) o) (λ_ _=>False) g
     else ∃m,m < n/\I m g) (λ_ _=>False) j) (λ_ _=>False) i) (λ_ _=>False) e) (λ_ _=>False) s) (n:Nat) (h:I n s):
  codeAny (model prog w) A (.compLoop (.ListComp b [⟨b_,iter,l,0⟩] scope pos) 0 it d env) R s:=by
 refine codeAny_loop rfl I (λn s z=>?_) n h;show wpAny _ A ((compTurn (.ListComp b [⟨b_,iter,l,0⟩] scope pos) 0 it d env).onRaise (λx=>do noteFrame x env;theTreesLotGoes x)) _ _ s;refine wpAny_noted ?_;rw[compTurn_list];refine zdW (wpAny_standAt (zdW (wpAny_mono (y n s z) (λr e q=>?_) λ_ _ a=>a.elim)));cases r with
 | none=>exact zdX q
 | some v=>
  refine zdW (wpAny_mono q (λ_ i B=>?_) λ_ _ a=>a.elim);refine zdW (wpAny_mono B (λ_ j C=>zdW (wpAny_mono C (λok g u=>?_) λ_ _ a=>a.elim)) λ_ _ a=>a.elim);cases ok with
  | false=>exact zdX ⟨rfl,u⟩
  | true=>
   exact zdW (zdW (wpAny_mono u (λx o D=>zdW (wpAny_mono D (λ_ p H=>zdX (zdX ⟨rfl,H⟩)) λ_ _ a=>a.elim)) λ_ _ a=>a.elim))
inductive Wh(J:It)(g:TG)(tt:TT)(te:TE)(D:Addr)(σ:St)(H:Hp)(Q:Hp->Prop):Prop
 | mk (W:Nat->Nat->St->Hp->Prop):((∃m,W 0 m σ (upd H D (.lst []))))->(∀i m fC H',W i m fC H'->(J.stop i H'/\Q H')\/(J.go i H'/\∃N:St->Hp->Prop,(∀fU H2,N fU H2->∃m',m' < m/\W (i+1) m' fU H2)/\∀x H2,J.yld i H' x H2->g x fC H2 λfU H3=>tt fU H3 λb H4=>if b=true then te fU H4 λv H5=>∃ys,H5 D=some (.lst ys)/\ys.length < zdZ/\N fU (upd H5 D (.lst (ys++[v]))) else N fU H4))->Wh J g tt te D σ H Q
def EX(b:TI)(ix:List (Option Nat))(g:TG)(tt:TT)(te:TE):TE:=λa H Q=>b a H λc b=>∀D,b D=none->Wh c g tt te D (A2 ix a) b λa=>Q (.ref D) a
def Vf{X:Cx}{RR:Value->Addr->Result->Shared->Prop}{Q:Addr->Hp->Prop}(hc:X.calm=true)(S:Qn X N' ix scope)(I:qw X a_ σ H s)(T:vx X.prog X.w X.K b_ aw fp it L)(st:L 0 s.heap)(O:∀b∈fp,JP X a_ H b)(a:∀C ab ac fp a_,PG (Yv X N' scope C ab ac fp a_) b_ g/\CU (Yv X N' scope C ab ac fp a_) ak tt/\PE (Yv X N' scope C ab ac fp a_) al te)(h:∀D,H D=none->Wh aw g tt te D (A2 ix σ) H (Q D))(d_:∀(D C:Addr) (c:Hp) (p:Shared) (m:Str->Option Value),s.heap.objs.size<=C->c C=none->p.heap.Ns C m->qw X a_ σ c p->Q D c->RR (.ref D) C (.ok .next) p):
  wpAny (model X.prog X.w) X.A (newList []) (λam ax=>wpAny (model X.prog X.w) X.A (newFunctionEnv scope X.env.globals (qK X.env scope.names []) [] X.env.qual none .none (some X.env)) (λan ay=>
   codeAny (model X.prog X.w) X.A (.compStart (.ListComp al [⟨b_,iter,ak,0⟩] scope pos) 0 (.ref it) am {an with scope:=relabel scope X.env}) (RR am an.locals) ay) E ax) E s:=by
 have ao:∀b∈fp,b < s.heap.objs.size:=λb a=>by
  obtain⟨l,e,_⟩:=T.obj _ _ st b a;exact tK e
 refine wpAny_newObj_type (wpAny_newFunctionEnv S.cellH (by intro y hy;simp at hy) (λr ae U=>?_) S.kind);dsimp only at ae U ⊢;generalize af:s.heap.push {cls:=.type "list",dict:=none,data:=.seq ([]:List Value).toArray}=j at ae U ⊢;have hC:j.objs.size=s.heap.objs.size+1:=by rw[<-af,zaX]
 have ap:s.heap.objs.size≠j.objs.size:=by rw[hC];exact tW (zaG _)
 have aq:s.heap.objs.size<=j.objs.size:=by rw[hC];exact Nat.le_succ _
 have az:∀b,b < s.heap.objs.size->b≠j.objs.size:=λb a=>by rw[hC];exact tW (zch a)
 have fh:∀b l,s.heap.get? b=some l->r.get? b=some l:=λb l e=>U.extBut b l (az b (tK e)) (tj _ (af▸tj _ e));have aA:r.get? s.heap.objs.size=some {cls:=.type "list",data:=.seq #[] 0}:=U.extBut _ _ ap (tj _ (af▸tR _ rfl));obtain⟨W,⟨m0,w0⟩,aB⟩:=h s.heap.objs.size (I.hok.fresh (tc _));have I1:qw (Yv X N' scope j.objs.size s H fp a_) [] (A2 ix σ) (upd H s.heap.objs.size (.lst [])) {s with heap:=r,toks:=s.toks+([]:List (Str×Value)).length}:=
  wA S I O ao (tc _) aq ap fh ae aA
 have ar:L 0 r:=T.keep _ _ _ st λb a l e=>fh b l e;have aC:∀b∈fp,(upd H s.heap.objs.size (.lst [])) b=none:=λb a=>by
  rw[qg (tW (ao b a))];exact(O b a).1
 obtain⟨hg,aD,aE⟩:=a j.objs.size s H fp a_;have ag:=I1.ok;have ah:∀{c:Hp},(∀b∈fp,c b=none)->∀b∈fp,JP (Yv X N' scope j.objs.size s H fp a_) [] c b:=λ{c} hn b a=>
  ⟨hn b a,(ag.exf b a).1,ag.exfs b a,.inl a,(ag.exf b a).2,λai hp=>by
   have aF:ai∈X.pn++a_:=by
    have:ai∈(X.pn++a_)++[]:=hp;simpa using this
   exact(O b a).2.2.2.2.2 ai aF⟩
 have as:codeAny (model X.prog X.w) X.A (.compLoop (.ListComp al [⟨b_,iter,ak,0⟩] scope pos) 0 (.ref it) (.ref s.heap.objs.size) (compEnvC scope (qK X.env scope.names []) j.objs.size X.env))
   (RR (.ref s.heap.objs.size) j.objs.size) {s with heap:=r,toks:=s.toks+([]:List (Str×Value)).length}:=by
  refine VZ (λn p=>∃i z c,qw (Yv X N' scope j.objs.size s H fp a_) [] z c p/\L i p.heap/\(∀b∈fp,c b=none)/\W i n z c) ?_ m0 ⟨0,_,_,I1,ar,aC,w0⟩;rintro n s3 ⟨i,Y,H3,I3,au,av,w3⟩;rcases aB i n Y H3 w3 with ⟨stop,qn⟩ | ⟨go,NN,aG,step⟩
  ·refine jg (T.done (Yv X N' scope j.objs.size s H fp a_) rfl rfl rfl hc i [] s3 Y H3 _ I3 (ah av) au stop) λaH s4 ⟨hr,I4⟩=>?_;subst hr;obtain⟨mm,aI,_⟩:=I4.loc;exact d_ _ _ H3 s4 mm aq I4.free aI (Gy I O I4) qn
  ·refine jg (T.item (Yv X N' scope j.objs.size s H fp a_) rfl rfl rfl hc i [] s3 Y H3 _ I3 (ah av) au go) λaH s4 ⟨u,hr,h4⟩=>?_;subst hr;refine jg h4 λ_ s5 ⟨x,H5,I5,r5,y5,aj,aJ⟩=>?_;have aK:=I5.pinned (ah aJ) (T.obj _ _ aj);refine jg (hg _ s5 Y H5 x u _ aK r5 (step x H5 y5)) λ_ s6 ⟨aa,H6,I6,q6⟩=>?_;refine jg (aD _ s6 aa H6 _ I6 q6) λok s7 ⟨H7,I7,q7⟩=>?_;have again:∀{B:St} {o:Hp} {q:Shared},qw (Yv X N' scope j.objs.size s H fp a_) ([]++XA fp s5.heap) B o q->NN B o->
     ∃m,m < n/\∃i z c,qw (Yv X N' scope j.objs.size s H fp a_) [] z c q/\L i q.heap/\(∀b∈fp,c b=none)/\W i m z c:=λ{B o q} J n8=>by
    obtain⟨m',hm,w8⟩:=aG B o n8;refine⟨m',hm,i+1,B,o,J.unpinned,T.keep _ _ _ aj λb a l e=>(J.pin (b,l) (tv _ (tv _ (J1 a e)))).1,λb a=>?_,w8⟩;obtain⟨l,e,d⟩:=T.obj _ _ aj b a;exact(J.pin (b,l) (tv _ (tv _ (J1 a e)))).2.1
   cases ok with
   | false=>
    rw[if_neg tH]at q7 ⊢;exact again I7 q7
   | true=>
    rw[if_pos rfl]at q7 ⊢;refine jg (aE _ s7 aa H7 _ I7 q7) λv q ⟨y,o,J,r8,q8⟩=>?_;obtain⟨ys,hy,hz,q8⟩:=q8;refine jg (Q8 (X:=Yv X N' scope j.objs.size s H fp a_) _ q aa o (.ref s.heap.objs.size) [y] (.ref s.heap.objs.size) [v] (λ_ H9=>NN aa H9) J rfl (.cons r8 .nil) ⟨_,ys,y,rfl,rfl,hy,hz,q8⟩) λ_ s9 ⟨_,H9,I9,_,q9⟩=>?_;exact again I9 q9
 exact codeAny_compStart_list as (T.self X.A 0 _ _ _ ar as)
def DY{X:Cx}(c:X.calm=true)(S:Qn X N' ix scope)(d:PI X b_ iter i)(j:∀C a b fp a_,PG (Yv X N' scope C a b fp a_) b_ g/\CU (Yv X N' scope C a b fp a_) l tt/\PE (Yv X N' scope C a b fp a_) o te)(hs:∀x,foldedSetIterable iter X.env x=pure x:=by intro _;rfl):PE X (.ListComp o [⟨b_,iter,l,0⟩] scope pos) (EX i ix g tt te):=by
 intro a_ s a H Q I h;rw[eval_ListComp];refine wpAny_comprehension_free (use:=none) rfl hs (QK (S.freeH I.ok)) S.kind S.locH ?_;refine jg (d a_ s a H _ I h) λ_ _ b=>jg b λ_ _ d=>?_;obtain⟨_,fp,_,_,_,e,b,i,l,f2,o⟩:=d;subst e;refine Vf (RR:=λd C=>compPost (model X.prog X.w) X.A X.xe none (EP X a_ a Q) d C) (Q:=λD a=>Q (.ref D) a) c S b i l f2 j o ?_;intro D C a _ m c d i j q;exact⟨m,i,λ_ i=>⟨.ref D,a,Gx b j c d i,rfl,q⟩⟩
def j8(d:JI X b_ iter e)(c:∀C a b fp a_,JG (Yv X N' scope C a b fp a_) b_ g/\Ry (Yv X N' scope C a b fp a_) i tt/\JE (Yv X N' scope C a b fp a_) j te)(hs:∀x,foldedSetIterable iter X.env x=pure x:=by intro _;rfl)(l:X.calm=true:=by exact rfl)(S:Qn X N' ix scope:=by exact⟨rfl,rfl,rfl,rfl,rfl⟩):JE X (.ListComp j [⟨b_,iter,i,0⟩] scope pos) (EX e ix g tt te):=.of (DY l S d.to (λC a b fp a_=>⟨(c C a b fp a_).1.to,(c C a b fp a_).2.1.to,(c C a b fp a_).2.2.to⟩) hs)
def Ko{X:Cx}{T:Pos}(hN:X.N.Nodup)(Y:X.N[i]?=some x)(hx:Rx X.env.scope x)(hc:X.calm=true)(S:Qn X N' ix scope)(hi:PI X b_ iter wi)(r:∀C u B fp a_,PG (Yv X N' scope C u B fp a_) b_ g/\CU (Yv X N' scope C u B fp a_) J tt/\PE (Yv X N' scope C u B fp a_) L te)(aa:swapsWith (.ListComp L [⟨b_,iter,J,0⟩] scope pos) (some (.Name x l)) T.line X.env=pure true:=by rfl)(hs:∀x,foldedSetIterable iter X.env x=pure x:=by intro _;rfl)(hf:X.fn x=true\/X.env.scope.names.lookup x=some .local:=by first | exact .inl rfl | exact .inr rfl | assumption):
  PS X (.Assign [.Name x l] (.ListComp L [⟨b_,iter,J,0⟩] scope pos) T) (xA (EX wi ix g tt te) (QW i)):=by
 intro a_ s U H D I h;rw[exec_Assign_Name_used _ _ _ _ aa];refine zdW (wpAny_standAt (zdW ?_));show wpAny _ X.A (do let _ <-comprehension (.ListComp L [⟨b_,iter,J,0⟩] scope pos) scope X.env _ (newList []) false (eval iter X.env) (some (assign (.Name x l) X.env))) _ _ s;refine zdW (jg (wpAny_comprehension_free (use:=some (assign (.Name x l) X.env)) (Q:=λ_ o=>SP X a_ D .next o) rfl hs (QK (S.freeH I.ok)) S.kind S.locH ?_) λ_ o hq=>zdX (zdX hq));refine jg (hi a_ s U H _ I h) λxv s1 h1=>jg h1 λal s2 h2=>?_;obtain⟨it,fp,tn,am,H2,e,d,ab,ac,f2,q2⟩:=h2;subst e;refine Vf (RR:=λae C=>compPost (model X.prog X.w) X.A X.xe (some (assign (.Name x l) X.env)) (λ_ o=>SP X a_ D .next o) ae C) (Q:=λp O=>QW i (.ref p) U O D.nx) hc S d ab ac f2 r q2 ?_;intro p C O o m j hn hm I' q;show wpAny _ X.A (assign (.Name x l) X.env (.ref p)) _ _ _;refine wpAny_assign_Name (z7 I' hN Y hx (v:=.ref p) rfl (λaf ag ah=>?_) hf);obtain⟨a,sb,ha⟩:=ah;have ai:C≠a:=by
  rcases ha with z | z
  ·rw[z];exact zbv (tN d.lt j)
  ·intro e;obtain⟨v,Q⟩:=d.cell x a z;exact absurd (tN Q.lt (by rw[<-e];exact j)) (zal _)
 refine⟨m,hm.sameBut sb ai,λh' aj=>?_⟩;refine⟨_,O,?_,q⟩;refine ag.turned (it:=C) (t':=af.toks) (λb an r e=>(aj.2 b r).trans e) hn (zbv (tN d.lt j)) (.inr (tS d.sz j)) (λy c e z=>?_) λak hp z=>?_
 ·obtain⟨v,Q⟩:=d.cell y c e;exact absurd (tN Q.lt (by rw[z];exact j)) (zal _)
 ·exact absurd (tN (tK (d.pin ak hp).1) (by rw[z];exact j)) (zal _)
def Jj{d:Pos}(l:JI X b_ iter m)(c:∀C a b fp a_,JG (Yv X N' scope C a b fp a_) b_ g/\Ry (Yv X N' scope C a b fp a_) e tt/\JE (Yv X N' scope C a b fp a_) j te)(o:swapsWith (.ListComp j [⟨b_,iter,e,0⟩] scope pos) (some (.Name x p)) d.line X.env=pure true:=by rfl)(hs:∀x,foldedSetIterable iter X.env x=pure x:=by intro _;rfl)(q:X.fn x=true\/X.env.scope.names.lookup x=some .local:=by first | exact .inl rfl | exact .inr rfl | assumption)(hN:X.N.Nodup:=by first | assumption | exact ndC)(r:X.N[i]?=some x:=by exact rfl)(u:Rx X.env.scope x:=by exact Or.inl rfl)(v:X.calm=true:=by exact rfl)(S:Qn X N' ix scope:=by exact⟨rfl,rfl,rfl,rfl,rfl⟩):JS X (.Assign [.Name x p] (.ListComp j [⟨b_,iter,e,0⟩] scope pos) d) (xA (EX m ix g tt te) (QW i)):=.of (Ko hN r u v S l.to (λC a b fp a_=>⟨(c C a b fp a_).1.to,(c C a b fp a_).2.1.to,(c C a b fp a_).2.2.to⟩) o hs q)
open PyProof.Rows hiding K lo
def HA(x:Str):It:=⟨λi _=>i < x.cps.size,λi H v a=>a=H/\∃c,x.cps[i]?=some c/\v=.str ⟨#[c]⟩,λi _=>i=x.cps.size⟩
def Ud(it:Addr)(x:Str)(t:Tok)(ty:String)(Y:["enumerate","zip","dict_itemiterator","dict_reverseitemiterator","odict_iterator","itertools.zip_longest","itertools.pairwise"].contains ty=false)(L:∀A:Around,A.handled=none->Walks P w A it [it] [it] x.cps.size (SignAt x) (λi h=>h.IsStrIter it ty x t i))(aa:∀(A:Around) (i:Nat) (s:Shared) (Q:Value->Shared->Prop) (E:Value->Shared->Prop),s.heap.IsStrIter it ty x t i->Q (.ref it) s->wpAny (model P w) A (pyIter (.ref it)) Q E s):
  vx P w K a (HA x) [it] it (λi h=>h.IsStrIter it ty x t i) where
 mem:=by simp
 obj:=λi h st b g=>by
  have e:b=it:=by simpa using g
  subst e;obtain⟨a,e,c,d⟩:=st;exact⟨a,e,λv z=>by rw[d]at z;cases z⟩
 keep:=λi h j st k=>let ⟨a,e,l⟩:=st;⟨a,k it (by simp) a e,l⟩
 item:=by
  intro X m o p q i O s T H E I l st r;subst m o p;obtain⟨y,f1,f2,B,C,D⟩:=l it (by simp);refine(L X.A (I.ok.hd q)).item i s _ _ r st λv j tk hv U J=>?_;obtain⟨c,u,ab,rfl⟩:=hv;have I1:qw X O T H {s with heap:=j,toks:=tk}:=I.turned (λb a g e=>J b a (by simpa using g) e) y f1 B C D;obtain⟨a,e,c1,d1⟩:=id U;exact⟨_,rfl,vi (s:={s with heap:=j,toks:=tk}) e c1 d1 Y ⟨.str ⟨#[c]⟩,H,I1,⟨u,rfl⟩,⟨rfl,c,ab,rfl⟩,U,λb g=>(l b g).1⟩⟩
 done:=by
  intro X m o p q i O s T H E I l st r;subst m o p;obtain⟨y,f1,f2,B,C,D⟩:=l it (by simp);have l:i=x.cps.size:=r;subst l;exact(L X.A (I.ok.hd q)).done s _ _ st λj tk J=>⟨rfl,I.turned (λb a g e=>J b a (by simpa using g) e) y f1 B C D⟩
 self:=aa
inductive AL(R:It->Hp->Prop)(x:V)(H1:Hp):Prop
 | mk (y:_):x=.str y->(R (HA y) H1)->AL R x H1
def Hm(a:TE):TI:=λb H R=>a b H λx a=>AL R x a
def Cf(a:JE X l c):JI X d l (Hm c):=.of (by
 have a:=a.to;intro g s c H R I h;refine jg (a g s c H _ I h) λv a ⟨x,d,c,j,m⟩=>?_;obtain⟨y,e,q⟩:=m;subst e;obtain⟨t,rfl⟩:=j;have fp:∀b∈[a.heap.objs.size],JP X g d b:=λb j=>by
  have e:b=a.heap.objs.size:=by simpa using j
  subst e;exact c.fpOk (tc _) (c.hok.fresh (tc _))
 cases j:y.cps.all (· < 128)
 ·refine wpAny_pyIter_wide j ?_;exact⟨a.heap.objs.size,[a.heap.objs.size],_,_,d,rfl,c.kept (t':=a.toks) λb m e=>tj _ e,
   Ud _ y t "str_iterator" (by decide) (λA g=>Walks.strWide g _ y t) (λA i s Q E st q=>wpAny_pyIter_striter_wide st q),⟨_,tR _ rfl,rfl,rfl⟩,fp,q⟩
 ·refine wpAny_pyIter_ascii j ?_;exact⟨a.heap.objs.size,[a.heap.objs.size],_,_,d,rfl,c.kept (t':=a.toks) λb m e=>tj _ e,
   Ud _ y t "str_ascii_iterator" (by decide) (λA g=>Walks.strAscii g _ y t) (λA i s Q E st q=>wpAny_pyIter_striter_ascii st q),⟨_,tR _ rfl,rfl,rfl⟩,fp,q⟩)
def vv(tt:TT)(te:TE)(D:Addr)(N:St->Hp->Prop):St->Hp->Prop:=λa c=>tt a c λb d=>
 if b=true then te a d λv e=>∃c,e D=some (.lst c)/\c.length < zdZ/\N a (upd e D (.lst (c++[v]))) else N a d
def V2{g:TG}{Q:Hp->Prop}{c:It}(Pv:Nat->St->Hp->Prop)(j:Pv 0 l (upd H D (.lst [])))(go:∀i b a,i < n->Pv i b a->c.go i a/\∀x d,c.yld i a x d->g x b d (vv tt te D (Pv (i+1))))(stop:∀b a,Pv n b a->c.stop n a/\Q a):Wh c g tt te D l H Q:=by
 refine⟨λi m b a=>m=n - i/\i<=n/\Pv i b a,⟨n,by simp,zac _,j⟩,?_⟩;rintro i m b a ⟨rfl,_,c⟩;by_cases j:i < n
 ·obtain⟨l,o⟩:=go i b a j c;exact .inr ⟨l,Pv (i+1),λ_ d p2=>⟨n - (i+1),by omega,rfl,j,p2⟩,o⟩
 ·have e:i=n:=by omega
  subst e;exact .inl (stop b a c)
def ZI{g:TG}{Q:Hp->Prop}(Pv:Nat->St->Hp->Prop)(c:Pv 0 d (upd H D (.lst [])))(hs:∀i a b,i < n->Pv i a b->g (.int (lo+i)) a b (vv tt te D (Pv (i+1))))(hd:∀a b,Pv n a b->Q b):Wh (AU lo n) g tt te D d H Q:=
 V2 (n:=n) Pv c (λi a b d c=>⟨d,λx j y=>by
  obtain⟨e,y⟩:=y;subst e y;exact hs i a j d c⟩) λa b c=>⟨tc _,hd a b c⟩
def jC{g:TG}{Q:Hp->Prop}{xs:List V}(Pv:Nat->St->Hp->Prop)(d:Pv 0 l (upd H D (.lst [])))(j:∀i b c,i<=xs.length->Pv i b c->SqL K c a xs)(hs:∀i x b c,xs[i]?=some x->Pv i b c->g x b c (vv tt te D (Pv (i+1))))(hd:∀b c,Pv xs.length b c->Q c):Wh (AV K a) g tt te D l H Q:=
 V2 (n:=xs.length) Pv d (λi b c l d=>⟨⟨xs,xs[i],j i b c (t6 l) d,by simp [l]⟩,λx _ y=>by
  obtain⟨e,y⟩:=y;subst e;exact hs i x b _ (y xs (j i b _ (t6 l) d)) d⟩) λb c d=>⟨⟨xs,j _ b c (tc _) d,tc _⟩,hd b c d⟩
def MD{g:TG}{Q:Hp->Prop}{xs:List V}(Pv:Nat->St->Hp->Prop)(d:Pv 0 l (upd H D (.lst [])))(j:∀i b c,i<=xs.length->Pv i b c->SqT K c a xs)(hs:∀i x b c,xs[i]?=some x->Pv i b c->g x b c (vv tt te D (Pv (i+1))))(hd:∀b c,Pv xs.length b c->Q c):Wh (CW K a) g tt te D l H Q:=
 V2 (n:=xs.length) Pv d (λi b c l d=>⟨⟨xs,xs[i],j i b c (t6 l) d,by simp [l]⟩,λx _ y=>by
  obtain⟨e,y⟩:=y;subst e;exact hs i x b _ (y xs (j i b _ (t6 l) d)) d⟩) λb c d=>⟨⟨xs,j _ b c (tc _) d,tc _⟩,hd b c d⟩
def ME{g:TG}{Q:Hp->Prop}{x:Str}(Pv:Nat->St->Hp->Prop)(d:Pv 0 j (upd H D (.lst [])))(hs:∀i c a b,x.cps[i]?=some c->Pv i a b->g (.str ⟨#[c]⟩) a b (vv tt te D (Pv (i+1))))(hd:∀a b,Pv x.cps.size a b->Q b):Wh (HA x) g tt te D j H Q:=
 V2 (n:=x.cps.size) Pv d (λi a b j d=>⟨j,λv _ y=>by
  obtain⟨e,c,j,rfl⟩:=y;subst e;exact hs i c a _ j d⟩) λa b d=>⟨rfl,hd a b d⟩
def X9:∀(bs:List Bool),(t8 bs.length).all (λi=>bs.getD i false)=bs.all id:=by
 intro bs;induction bs with
 | nil=>rfl
 | cons b bs a=>
  rw[t0,List.range_succ_eq_map,zcv,zci,zcv];have:((λi=>(b::bs).getD i false) ∘ zdb)=λi=>bs.getD i false:=by
   funext i;simp [Function.comp]
  rw[this,a];simp
def ZH{X:Cx}(j:X.calm=true):QX X (.builtin "all") (λxs H Q=>∃(p:Addr) (bs:List Bool),xs=[.ref p]/\SqL X.K H p (bs.map V.bl)/\Q (.bl (bs.all id)) H):=by
 intro _ s _ H xs _ Q I a h;obtain⟨p,bs,rfl,g,q⟩:=h;obtain⟨u,rfl,c⟩:=Q9 a;cases c;obtain⟨a,c,d,_⟩:=I.list g;have l:p < s.heap.objs.size:=by
  obtain⟨g,n,e,_⟩:=d;exact tK e
 have m:a.toArray.size=bs.length:=by
  have:=c.length;rw[ta]at this;simp only[tU];omega
 have o:X.A.in1.handled=none:=I.ok.hd j;refine call_all_walk (wpAny_pyIter_list d.isList ?_);refine⟨s.heap.objs.size,[s.heap.objs.size,p],[s.heap.objs.size],a.toArray.size,λi v=>a.toArray[i]?=some v,_,λi=>bs.getD i false,rfl,Walks.list o s.heap.objs.size p (tW l) a.toArray,
  ⟨⟨_,tR _ rfl,rfl,rfl⟩,d.isList.at λg e=>tj _ e⟩,?_,λj tk l=>?_⟩
 ·intro i v o r _ x y;have d:a[i]?=some v:=by simpa using x
  have x:∃b,bs[i]?=some b/\v=Value.bool b:=by
   cases e:bs[i]? with
   | none=>
    exfalso;have a:(bs.map V.bl)[i]?=none:=by rw[tp,e];rfl
    rw[qI.none_of c a]at d;cases d
   | some b=>
    have a:(bs.map V.bl)[i]?=some (V.bl b):=by rw[tp,e];rfl
    obtain⟨u,hu,B⟩:=c.get a;rw[d]at hu;cases hu;exact⟨b,rfl,B⟩
  obtain⟨b,e,rfl⟩:=x;refine wpAny_truthy_bool ?_;have c:bs.getD i false=b:=by rw[zah,e];rfl
  have a:r (bs.getD i false) o:=y;rw[c]at a;exact a
 ·rw[m,X9];refine⟨.bl (bs.all id),H,?_,rfl,q⟩;exact I.kept (h':=j) (t':=tk) λb g e=>l b g (by
   intro z;have a:b=s.heap.objs.size:=by simpa using z
   exact absurd (tK e) (by rw[a];exact zal _)) (tj _ e)
def vK{d:List Str}:∀{us:List Value},qI (d.map V.str) us->StrsAre us d:=by
 induction d with
 | nil=>
  intro us c;rw[zcf]at c;cases c;exact .nil
 | cons y d e=>
  intro us c;rw[tG]at c;cases c with
  | cons a b=>
   obtain⟨t,rfl⟩:=a;exact .cons _ _ (e b)
inductive Kl(K:zdU)(x:V)(xs:List V)(H:Hp)(Q:VK):Prop
 | mk (sep:Str) (p:Addr) (ys:List Str):x=.str sep->xs=[.ref p]->(SqL K H p (ys.map V.str))->((ys.map (·.length)).sum+ys.length*sep.length<=16777216)->(Q (.str (Txt.join sep ys)) H)->Kl K x xs H Q
def At(K:zdU):V->List V->Hp->VK->Prop:=λx a H Q=>Kl K x a H Q
def VL:CF X "str.join" (At X.K):=by
 intro _ s _ H x _ v _ Q I a b h;obtain⟨sep,_,_,rfl,rfl,c,d,q⟩:=h;obtain⟨t,rfl⟩:=a;obtain⟨u,rfl,a⟩:=Q9 b;cases a;obtain⟨_,a,b,_⟩:=I.list c;exact join_list b.isList (by simpa using vK a) d λa k=>⟨.str _,H,I.tok k,⟨a,rfl⟩,q⟩
def EF:V->Value
 | .ty n=>.type n
 | .ref a=>.ref a
 | _=>.none
def El:V->Bool
 | .ty _=>true
 | .ref _=>true
 | _=>false
inductive Km(K:zdU)(xs:List V)(H:Hp)(Q:VK):Prop
 | mk (x:_) (c:_) (t:_) (b:_):xs=[x,c]->El c=true->zY K H x t->zaD K t (EF c)=some b->(Q (.bl b) H)->Km K xs H Q
def DR(K:zdU):List V->Hp->VK->Prop:=λa H Q=>Km K a H Q
def jA:QX X (.builtin "isinstance") (DR X.K):=by
 intro _ s _ H _ _ Q I g h;obtain⟨x,c,t,b,rfl,i,ty,e,q⟩:=h;obtain⟨u,j,rfl,l,d⟩:=wZ g;have g:j=EF c:=by
  cases c with
  | ty n=>exact d
  | ref a=>exact d
  | _=>cases i
 subst g;exact wy I l ty e λtk=>⟨.bl b,H,I.tok tk,rfl,q⟩
open PyProof.Rows hiding K lo
open PyProof.Rows hiding K lo
open PySem PySem.W Builtin Builtin.ObjectAttr
open PyProof.Rows hiding K lo
open PySem PySem.W Builtin Builtin.ObjectAttr
open PyProof.Rows hiding K lo
open PyProof.Rows hiding K lo
open PyProof.Rows hiding K lo
open PyProof.Rows hiding K lo
mutual
inductive DV(K:zdU)(H:Hp):V->PyData->Prop
 | non:DV K H .non .none
 | bl (b:Bool):DV K H (.bl b) (.bool b)
 | int (i:Int):DV K H (.int i) (.int i)
 | str (x:Str):DV K H (.str x) (.str x)
 | lst {a:Addr} {xs:List V} {ds:List PyData}:SqL K H a xs->DVs K H xs ds->DV K H (.ref a) (.list ds)
 | tup {a:Addr} {xs:List V} {ds:List PyData}:SqT K H a xs->DVs K H xs ds->DV K H (.ref a) (.tuple ds)
inductive DVs(K:zdU)(H:Hp):List V->List PyData->Prop
 | nil:DVs K H [] []
 | cons {x:V} {xs:List V} {d:PyData} {ds:List PyData}:DV K H x d->DVs K H xs ds->DVs K H (x::xs) (d::ds)
end
mutual
def DV.reads{X:Cx}{a_:List (Addr×Obj)}{c:St}{H:Hp}{s:Shared}(I:qw X a_ c H s):∀{x:V} {d:PyData},DV X.K H x d->∀{u:Value},qM x u->∃as,Reads s.heap u d as
 | _,_,.non,u,c=>by cases (show u=Value.none from c);exact⟨_,.none⟩
 | _,_,.bl b,u,c=>by cases (show u=Value.bool b from c);exact⟨_,.bool b⟩
 | _,_,.int i,u,c=>by obtain⟨t,q⟩:=(show ∃t,u=Value.int i t from c);subst q;exact⟨_,.int i t⟩
 | _,_,.str x,u,c=>by obtain⟨t,q⟩:=(show ∃t,u=Value.str x t from c);subst q;exact⟨_,.str x t⟩
 | _,_,.lst (a:=a) g j,u,c=>by
  cases (show u=Value.ref a from c);obtain⟨r,l,⟨v,n,e,m,hd,o⟩,y⟩:=I.list g;obtain⟨as,p⟩:=DVs.reads I j l;exact⟨_,.list e m o (by simpa using p)⟩
 | _,_,.tup (a:=a) g j,u,c=>by
  cases (show u=Value.ref a from c);obtain⟨r,l,⟨v,e,m,n,o⟩,y⟩:=I.tuple g;obtain⟨as,p⟩:=DVs.reads I j l;exact⟨_,.tuple e m o (by simpa using p)⟩
def DVs.reads{X:Cx}{a_:List (Addr×Obj)}{d:St}{H:Hp}{s:Shared}(I:qw X a_ d H s):∀{xs:List V} {c:List PyData},DVs X.K H xs c->∀{us:List Value},qI xs us->∃as,ReadsAll s.heap us c as
 | _,_,.nil,_,.nil=>⟨_,.nil⟩
 | _,_,.cons h c,_,.cons d e=>by
  obtain⟨as,a⟩:=DV.reads I h d;obtain⟨bs,b⟩:=DVs.reads I c e;exact⟨_,.cons a b⟩
end
open PyProof.Rows hiding K lo
open PyProof.Rows hiding K lo
inductive Az(K:zdU)(k:Bool)(x:V)(y:V)(H:Hp)(Q:VK):Prop
 | mk (d:_):DV K H x d->DV K H y d->PySem.SeqAt.shaped d=true->(Q (.bl k) H)->Az K k x y H Q
def FX(K:zdU)(k:Bool):R2:=λx y H Q=>Az K k x y H Q
def kz(h:PySem.SeqAt.shaped d=true):PyData.eqv d d=true:=PySem.SeqAt.eqv_refl d (PySem.SeqAt.canLay_of_shaped h)
def Kx{X:Cx}(hu:X.A.units+64 < cLine):ZP X (compareOp .NotEq) (FX X.K false):=by
 intro _ s _ H x y v u Q I b c h;obtain⟨d,e,g,a,q⟩:=h;obtain⟨as,i⟩:=e.reads I b;obtain⟨bs,b⟩:=g.reads I c;refine ne_dataH i b a a hu ?_;rw[kz a];exact⟨.bl false,H,I,rfl,q⟩
def EU(i j:Int):Prop:=0 < j/\j.natAbs < 2^200
def Kz:ZP X (binaryOp .FloorDiv) (rI EU λi j=>.int (i / j)):=BI λi j _ _ _ _ _ a q=>by
 have b:(0:Int) < j:=a.1;have b:j.natAbs.log2 < 200:=(Nat.log2_lt (by omega)).mpr a.2;exact floordiv_int (by omega) (by rw[zbJ i (by omega)];exact q) (.inl (PyProof.noPylong_of_log2 (zdL b (by decide))))
def wj:CF X "int.bit_length" (λx xs H Q=>∃i,x=.int i/\xs=[]/\Q (.int (Builtin.Int.intBits i)) H):=by
 intro _ s _ H x xs v _ Q I a b h;obtain⟨i,rfl,rfl,q⟩:=h;obtain⟨t,rfl⟩:=a;cases b;exact call_int_bit_length ⟨.int _,H,I.tok _,⟨_,rfl⟩,q⟩
inductive MW(t u:TS)(D:JD)(σ:St)(H:Hp):Prop
 | mk (W:St->Hp->Prop):(t {D with nx:=W} σ H)->(∀fC H',W fC H'->u D fC H')->MW t u D σ H
def Ff(t u:TS):TS:=λD a H=>MW t u D a H
def VP{X:Cx}{st:Stmt}{rest:List Stmt}{t:TS}{u:TS}(a:JS X st t)(b:JSs X rest u):JSs X (st::rest) (Ff t u):=.of (by
 have a:=a.to;have b:=b.to;intro c s g H D I ⟨W,h,k⟩;refine wpAny_execs_cons (jg (a c s g H {D with nx:=W} I h) λf i q=>?_);cases f with
 | next=>
  obtain⟨d,e,j,q⟩:=q;exact b c i d e D j (k d e q)
 | ret v=>exact q
 | brk=>exact q
 | cont=>exact q)
end L2
namespace PySem
def Xz(x n c:Int):Obj:={cls:=.type "range_iterator",data:=.fields #[rawInt x,rawInt n,rawInt c]}
def yH(n:Nat):Builtin.Range.rangeSize 0 n 1=n:=by
 unfold Builtin.Range.rangeSize;rw[if_pos (by decide)];split<;>omega
def X8{s:Shared}{Q:Value->Shared->Prop}(hr:IsRange s.heap r a b c t u v)(hs:(Builtin.Range.rangeFitsLong a&&Builtin.Range.rangeFitsLong b&&Builtin.Range.rangeFitsLong c&&Builtin.Range.rangeFitsLong (-c)&&Builtin.Range.rangeFitsLong (a - c)&&Builtin.Range.rangeFitsLong (Builtin.Range.rangeSize a b c))=true)(h:Q (.ref s.heap.objs.size) {s with heap:=s.heap.push (Xz (a+(Builtin.Range.rangeSize a b c - 1)*c) (Builtin.Range.rangeSize a b c) (-c))}):wpAny (model prog w) A (call (.builtin "range.__reversed__") [.ref r]) Q E s:=by
 have ty:s.TypeIs (.ref r) "range":=⟨_,hr,rfl⟩;refine wpAny_call_entry F.slot_range_reversed ty F.entry_range_reversed ?_ (F.args_range_reversed_1 _);unfold Builtin.«range.__reversed__»;refine zdW (wpAny_of_eq (a:=Value.ref r) rfl ?_);refine zdW ?_;unfold Builtin.Range.rangeFields;refine zdW (wpAny_field hr rfl (x:=.int a t) rfl ?_);refine zdW (m:=asInt? (.int a t)) (zdX ?_);refine zdW (wpAny_field hr rfl (x:=.int b u) rfl ?_);refine zdW (m:=asInt? (.int b u)) (zdX ?_);refine zdW (wpAny_field hr rfl (x:=.int c v) rfl ?_);refine zdW (m:=asInt? (.int c v)) (zdX ?_);refine zdX ?_
 try dsimp only
 rw[hs];simp only[Bool.not_true,zaO,if_false,if_true]
 first
 | refine zdW (wpAny_newObj_type (zdX ⟨_,rfl,h⟩))
 | refine zdW (zdX (zdW (wpAny_newObj_type (zdX ⟨_,rfl,h⟩))))
def ZO{prog:Program}{w:World}{A:Around}{E:Value->Shared->Prop}{s:Shared}{r:Addr}{n:Nat}{t u v:Tok}{Q:Value->Shared->Prop}(hr:IsRange s.heap r 0 n 1 t u v)(a:n < 1048576)
  (h:Q (.ref s.heap.objs.size) {s with heap:=s.heap.push (Xz ((n:Int) - 1) n (-1))}):wpAny (model prog w) A (call (.builtin "range.__reversed__") [.ref r]) Q E s:=by
 have f:∀x:Int,-2000000<=x->x<=2000000->Builtin.Range.rangeFitsLong x=true:=λx _ q=>by
  unfold Builtin.Range.rangeFitsLong;simp;omega
 have e:=yH n;have a:(Builtin.Range.rangeFitsLong 0&&Builtin.Range.rangeFitsLong (n:Int)&&Builtin.Range.rangeFitsLong 1&&Builtin.Range.rangeFitsLong (-1)&&Builtin.Range.rangeFitsLong (0 - 1)&&Builtin.Range.rangeFitsLong (Builtin.Range.rangeSize 0 n 1))=true:=by
  rw[e,f 0 (by omega) (by omega),f n (by omega) (by omega),f 1 (by omega) (by omega),f (-1) (by omega) (by omega),f (0 - 1) (by omega) (by omega)];rfl
 refine X8 hr a ?_;have a:(0:Int)+(Builtin.Range.rangeSize 0 n 1 - 1)*1=(n:Int) - 1:=by rw[e];omega
 rw[a,e];exact h
def ze{prog:Program}{w:World}{A:Around}{E:Value->Shared->Prop}{s:Shared}{r:Addr}{n:Nat}{t u v:Tok}{Q₁:Value->Shared->Prop}(hr:IsRange s.heap r 0 n 1 t u v)(a:n < 1048576)
  (h:Q₁ (.ref s.heap.objs.size) {s with heap:=s.heap.push (Xz ((n:Int) - 1) n (-1))}):
  codeAny (model prog w) A (.call (.builtin "reversed.__new__") ⟨[.type "reversed",.ref r],[]⟩) (wants Q₁ E) s:=by
 have ty:s.TypeIs (.ref r) "range":=⟨_,hr,rfl⟩;have b:¬((Value.builtin "range.__reversed__"==Value.none)=true):=tH;refine codeAny_of_tree (show wpAny _ A.in1 (checkBuiltinCall "reversed.__new__" ⟨[.type "reversed",.ref r],[]⟩ >>= λ_=>again (.builtin "reversed.__new__" ⟨[.type "reversed",.ref r],[]⟩)) _ _ s from
  zdW (wpAny_of_eq (F.newCall_reversed_1 (.ref r)) (zdX ⟨plainId_quiet F.plain_reversed_new _,codeAny_builtin F.entry_reversed_new ?_⟩)))
 rw[Around.under_plainId F.plain_reversed_new _];unfold Builtin.«reversed.__new__»;refine zdW (wpAny_of_eq (newClass_reversed (.ref r)) ?_);dsimp only;refine zdW (wpAny_of_eq (a:=()) (by kernel_rfl) (zdW (wpAny_of_eq (a:=()) (by kernel_rfl) ?_)));try dsimp only
 refine zdW (wpAny_specialOf ty F.slot_range_reversed.lookup ?_);dsimp only;refine zdW (wpAny_of_eq (F.slot_range_reversed.bind _) ?_);dsimp only;rw[if_neg b];refine zdW (wpAny_rule (zdW (m:=runValue (.call (.builtin "range.__reversed__") ⟨[.ref r],[]⟩)) (show wpAny _ _ (call (.builtin "range.__reversed__") [.ref r]) _ _ _ from ZO hr a ?_)))
 first | exact zdX h | exact zdW (zdX (zdX h))
def YJ:isSubtype (.type "range_iterator") (.type "reversed")=pure false:=by rw[isSubtype_type];kernel_rfl
def ZN{prog:Program}{w:World}{A:Around}{E:Value->Shared->Prop}{s:Shared}{r:Addr}{n:Nat}{t u v:Tok}{Q:Value->Shared->Prop}(hr:IsRange s.heap r 0 n 1 t u v)(b:n < 1048576)
  (h:Q (.ref s.heap.objs.size) {s with heap:=s.heap.push (Xz ((n:Int) - 1) n (-1))}):wpAny (model prog w) A (call (.type "reversed") [.ref r]) Q E s:=by
 refine callType_other (U:="range_iterator") (Q₁:=λobj a=>obj=.ref s.heap.objs.size/\a={s with heap:=s.heap.push (Xz ((n:Int) - 1) n (-1))}) (by decide+kernel) F.create_reversed ⟨_,_,F.mro_reversed⟩ F.made_reversed YJ (F.typeCall_reversed_1 _) (ze hr b ⟨rfl,rfl⟩) ?_;rintro obj a ⟨rfl,rfl⟩;exact⟨⟨_,tR _ rfl,rfl⟩,h⟩
def V1{s:Shared}{Q:Value->Shared->Prop}(fA:IsRangeIter s.heap I x left c)(h:Q (.int left s.toks) {s with toks:=s.toks+1}):
  wpAny (model prog w) A (call (.builtin "range_iterator.__length_hint__") [.ref I]) Q E s:=by
 have a:s.TypeIs (.ref I) "range_iterator":=⟨_,fA,rfl⟩;refine wpAny_call_entry F.slot_range_iterator_length_hint a F.entry_range_iterator_length_hint ?_ (F.args_range_iterator_length_hint_1 _);unfold Builtin.«range_iterator.__length_hint__»;refine zdW (wpAny_of_eq (a:=Value.ref I) rfl ?_);refine zdW (wpAny_field fA rfl (x:=rawInt left) rfl ?_);show wpAny _ _ (do ret (<-mkInt left)) _ _ _;exact wpAny_ret_mkInt h
structure kF(P:Program)(w:World)(T:String)(I:Addr)(fp:List Addr)(n:Nat)(V:Nat->Value->Prop)(St:Nat->Heap->Prop):Prop where
 ty:∀z:Shared,St 0 z.heap->z.TypeIs (.ref I) T
 nl:(Value.type T==Value.type "list")=false
 nt:(Value.type T==Value.type "tuple")=false
 walk:∀B:Around,B.handled=none->Walks P w B I fp [I] n V St
 hint:∀(B:Around) (F:Value->Shared->Prop) (z:Shared) (R:Bool->Shared->Prop),St 0 z.heap->(∀k,R false {z with toks:=k})->wpAny (model P w) B (Builtin.List.listLengthHint (.ref I)) R F z
def kF.list(a:kF P w T I fp n V St){B:Around}{z:Shared}{R:Value->Shared->Prop}(j:B.handled=none)(st:St 0 z.heap)(mem:I∈fp)(fh:∀b∈fp,b < z.heap.objs.size)(d:n<=1048576)(k:∀g tk xs c,(∀b o,b≠I->z.heap.get? b=some o->g.get? b=some o)->g.get? z.heap.objs.size=some (⟨.type "list",none,.seq xs c,#[]⟩:Obj)->ItemsOf V xs n->R (.ref z.heap.objs.size) {z with heap:=g,toks:=tk}):
  wpAny (model P w) B (call (.type "list") [.ref I]) R r z:=by
 have p:∀b∈fp,z.heap.objs.size≠b:=λb d=>zbv (fh b d);have u:Builtin.List.listSameRef (.ref z.heap.objs.size) (.ref I)=false:=by unfold Builtin.List.listSameRef;simp [p I mem]
 refine callType_codes (Q₁:=λi l=>l={z with heap:=z.heap.push {cls:=.type "list",data:=.seq #[]}}/\i=.ref z.heap.objs.size) F.called_list (F.typeCall_list_1 _) F.entry_list_init (code_list_new _ ⟨rfl,rfl⟩) ?_;rintro i l ⟨rfl,rfl⟩;have i:=tR z.heap (o:=({cls:=.type "list",data:=.seq #[]}:Obj)) rfl;refine⟨⟨_,i,rfl⟩,F.args_list_init_2 _ _,?_⟩;show wpAny _ _ (Builtin.List.listItems (.ref _) >>= λl=>Builtin.List.listUpdate (.ref _) (λ_=>#[]) >>= λ_=>letGo l.toList.reverse >>= λ_=>Builtin.List.listExtendWith (.ref _) (.ref I) .none) _ _ _;refine zdW (show wpAny _ _ (Builtin.List.listItems (.ref _)) _ _ _ from ?_);unfold Builtin.List.listItems;refine zdW (wpAny_seqItems i rfl (zdX (zdW ?_)));refine wpAny_updateSeq i rfl (zdW (wpAny_letGo ?_));have l:=zbm (Obj.mapSeq (λ_=>(#[]:Array Value))) i rfl;have m:∀b o,z.heap.get? b=some o->((z.heap.push {cls:=.type "list",data:=.seq #[]}).update z.heap.objs.size (Obj.mapSeq (λ_=>(#[]:Array Value)))).get? b=some o:=λb o e=>
  (zax _ _ (zbv (tK e))).trans (tj _ e)
 generalize i:(z.heap.push {cls:=.type "list",data:=.seq #[]}).update z.heap.objs.size (Obj.mapSeq (λ_=>(#[]:Array Value)))=g1 at l m;have i:St 0 g1:=(a.walk B j).frame 0 _ _ st λb _ o e=>m b o e;unfold Builtin.List.listExtendWith;refine zdW (wpAny_typeOf (a.ty {z with heap:=g1} i) ?_);simp only[u,a.nl,a.nt,Bool.or_false,zaO,if_false];refine zdW ((a.walk B.in1.in1 j).self 0 {z with heap:=g1} _ _ i ?_);refine zdW (wpAny_holding (a.hint B.in1.in1 _ {z with heap:=g1} _ i λtk=>?_));have run:∀(g:Heap) (c tk:Nat),St 0 g->(∀b o,z.heap.get? b=some o->g.get? b=some o)->g.get? z.heap.objs.size=some {cls:=.type "list",data:=.seq #[] c}->
   codeAny (model P w) B.in1 (.builtin "list.extend.loop" ⟨[.ref z.heap.objs.size,.ref I,.none],[]⟩) (wants (λu v=>u=.none/\R (.ref z.heap.objs.size) v) r) {z with heap:=g,toks:=tk}:=λg c tk r u v=>
  codeAny_extend_loopS (a.walk B.in1.in1 j).toS (by rw[sizeLine_eq];omega) _ (λq=>p _ q rfl) .none n 0 _ #[] c rfl (zac _) r v (ItemsOf.nil _) λr xs v mv x y=>by
   rw[Moved.eq_with mv];refine⟨rfl,k r.heap r.toks xs v (λb o d e=>mv.heap b o (λq=>?_) (u b o e)) x y⟩;rcases tI.mp q with q | q
   ·exact absurd q (tW (tK e))
   ·exact d (tQ.mp q)
 refine wpAny_ite_split (λ_=>?_) (λ_=>zdX ⟨plainId_quiet F.plain_extend_loop _,run g1 _ tk i m l⟩);refine zdW (wpAny_rule (zdW (show wpAny _ _ (updateSeq z.heap.objs.size (·.push .none) >>= λ_=>updateSeq z.heap.objs.size (·.pop)) _ _ _ from zdW (wpAny_updateSeq l rfl ?_))));have r:=zbm (Obj.mapSeq (·.push Value.none)) l rfl;refine wpAny_updateSeq (hz:=by seq_fits) r rfl ?_;have l:∀b o,b≠z.heap.objs.size->g1.get? b=some o->((g1.update z.heap.objs.size (Obj.mapSeq (·.push Value.none))).update z.heap.objs.size (Obj.mapSeq (·.pop))).get? b=some o:=λb o d e=>
  (zax _ _ (Ne.symm d)).trans ((zax _ _ (Ne.symm d)).trans e)
 exact zdX ⟨plainId_quiet F.plain_extend_loop _,run _ _ tk ((a.walk B j).frame 0 _ _ i λb d o e=>l b o (λq=>p b d q.symm) e) (λb o e=>l b o (tW (tK e)) (m b o e)) (zbm (Obj.mapSeq (·.pop)) r rfl)⟩
def xI(hn:n<=1048576):kF P w "range_iterator" I [I] n (λi v=>∃t,v=.int (x+i*c) t) (λi h=>IsRangeIter h I (x+(i:Nat)*c) ((n:Int) - (i:Nat)) c) where
 ty:=λ_ st=>⟨_,st,rfl⟩
 nl:=by decide
 nt:=by decide
 walk:=λ_ hB=>Walks.range hB I x c n
 hint:=λB G z R st k=>by
  have gM:IsRangeIter z.heap I x n c:=by
   have e1:x+((0:Nat):Int)*c=x:=by simp
   have e2:(n:Int) - ((0:Nat):Int)=n:=by simp
   rw[<-e1,<-e2];exact st
  have ty:z.TypeIs (.ref I) "range_iterator":=⟨_,gM,rfl⟩;have few:Builtin.List.listTooLong ((n:Int).toNat)=false:=by unfold Builtin.List.listTooLong;rw[zaC];exact decide_eq_false (by rw[sizeLine_eq];omega)
  unfold Builtin.List.listLengthHint;refine zdW (wpAny_specialOf ty F.nolen_ra ?_);refine(show wpAny _ B (specialOf (.ref I) (zdV "__length_hint__") >>= _) _ _ _ from zdW (wpAny_specialOf ty F.hint_ra ?_))
  (generalize hq:("range_iterator.__length_hint__":String)=q0;(fail_if_success (clear hq q0));wp_delta;rw[show splitId q0=some ("range_iterator","__length_hint__") from by subst hq;decide+kernel];subst hq)
  refine zdW (wpAny_isInstance (b:=true) ty (by rw[isSubtype_type];kernel_rfl) ?_);refine(show wpAny _ B (call (.builtin "range_iterator.__length_hint__") [.ref I] >>= _) _ _ _ from zdW (V1 gM (zdW (m:=asInt? (.int (n:Int) _)) (zdX ?_))))
  try dsimp only
  rw[if_neg (by rw[few];decide)];exact zdX (k _)
end PySem
namespace L2
open PySem PySem.Spec
open PyProof.Rows hiding K lo
def zR(n:Nat):List Nat:=(t8 n).reverse
def xt{n:Nat}{d:Array Value}(h:ItemsOf (λi v=>∃t,v=.int ((n:Int) - 1+i*(-1)) t) d n):qI ((zR n).map λi=>V.int (i:Nat)) d.toList:=by
 obtain⟨j,l⟩:=h;have fm:∀(b:List V) (a:List Value),b.length=a.length->(∀(i:Nat) (x:V) (u:Value),b[i]?=some x->a[i]?=some u->qM x u)->qI b a:=by
  intro b;induction b with
  | nil=>intro a c _;cases a with | nil=>exact .nil | cons _ _=>cases c
  | cons x b m=>
   intro a c g;cases a with
   | nil=>cases c
   | cons u a=>exact .cons (g 0 x u rfl rfl) (m a (by simpa using c) λi y w b e=>g (i+1) y w (by simpa using b) (by simpa using e))
 refine fm _ _ (by simp [zR,j]) λi x u b e=>?_;have a:d[i]?=some u:=by simpa using e
 obtain⟨t,rfl⟩:=l i u a;have c:i < n:=by
  have:=(zcI.mp a).1;omega
 rw[tp,zR,List.getElem?_reverse (by simpa using c),zai,zbQ (by omega)]at b;simp at b;subst b;refine⟨t,?_⟩;congr 1;omega
def xC{R:List Value->Shared->Prop}(hs:starEach [e] env=[(false,eval e env)])(h:wpAny M A (eval e env) (λv a=>R [v] a) E s):
  wpAny M A (spliced (backTo pos (starEach [e] env))) R E s:=by
 rw[hs];show wpAny _ _ (spliced ((false,eval e env)::backTo pos [])) _ _ s;exact Calls.spliced_cons (jg h λu a a=>Calls.spliced_nil a)
inductive MX(Q:VK)(x:V)(H1:Hp):Prop
 | mk (n:Nat):x=.int n->(n<=1000)->(∀l,H1 l=none->Q (.ref l) (upd H1 l (.lst ((zR n).map λi=>V.int (i:Nat)))))->MX Q x H1
def Fg(te:TE):TE:=λa H Q=>te a H λx a=>MX Q x a
def Ci{X:Cx}(l:X.calm=true)(g1:Gl X "list")(m:X.mg "list"=none)(g2:Gl X "reversed")(o:X.mg "reversed"=none)(g3:Gl X "range")(p:X.mg "range"=none)(c:JE X e te)(hs:starEach [e] X.env=[(false,eval e X.env)]:=by rfl)(d:starEach [.Call (.Name "range" p3) [e] [] a] X.env=[(false,eval (.Call (.Name "range" p3) [e] [] a) X.env)]:=by rfl)(g:starEach [.Call (.Name "reversed" p2) [.Call (.Name "range" p3) [e] [] a] [] j] X.env=[(false,eval (.Call (.Name "reversed" p2) [.Call (.Name "range" p3) [e] [] a] [] j) X.env)]:=by rfl):JE X (.Call (.Name "list" r) [.Call (.Name "reversed" p2) [.Call (.Name "range" p3) [e] [] a] [] j] [] v) (Fg te):=.of (by
 have c:=c.to;intro a s j H Q I h;refine Call_ (QS I g1 m boot_list (PyProof.Rows.callWith_type1 (xC g ?_) (by rw[g];rfl) rfl));refine Call_ (QS I g2 o boot_reversed (PyProof.Rows.callWith_type1 (xC d ?_) (by rw[d];rfl) rfl));refine Call_ (QS I g3 p boot_range (PyProof.Rows.callWith_type1 (xC hs (jg (c a s j H _ I h) λu a ⟨x,_,d,c,g⟩=>?_)) (by rw[hs];rfl) rfl));obtain⟨n,rfl,j,q⟩:=g;obtain⟨t,rfl⟩:=c;refine call_range_1 ?_;refine ZN (IsRange.new ..) (by omega) ?_;refine(xI (x:=(n:Int) - 1) (c:=-1) (n:=n) (by omega)).list (d.ok.hd l) (by
  have c:(n:Int) - 1+((0:Nat):Int)*(-1)=(n:Int) - 1:=by simp
  have g:(n:Int) - ((0:Nat):Int)=n:=by simp
  rw[c,g];exact tR _ rfl) (by simp) (λb c=>by rw[tQ.mp c,zaX (_:Heap) (Xz _ _ _)];exact zaG _) (by omega) λl tk m o p e r=>?_
 have v:∀b c,a.heap.get? b=some c->l.get? b=some c:=λb c g=>by
  refine p b c (tW ?_) (tj _ (tj _ g));rw[zaX];exact zch (tK g)
 have c:a.heap.objs.size<=((a.heap.push ({cls:=.type "range",data:=.fields #[.int 0 a.toks,.int n t,.int 1 (a.toks+1)]}:Obj)).push (Xz ((n:Int) - 1) n (-1))).objs.size:=by
  rw[zaX,zaX];omega
 exact⟨.ref _,_,d.laid (t':=tk) (o:=.lst ((zR n).map λi=>V.int (i:Nat))) v c ⟨by simp only[ta,zR,zbP,zai];exact t6 (ql j),m.toList,o,xt r,by simpa using e⟩,rfl,q _ (d.hok.fresh c)⟩)
end L2
namespace PySem
namespace F
end F
end PySem
namespace L2
open PySem PySem.Spec
open PyProof.Rows hiding K lo
def xR:∀(xs:List V) (us:List Value),xs.length=us.length->(∀(i:Nat) (x:V) (u:Value),xs[i]?=some x->us[i]?=some u->qM x u)->qI xs us:=by
 intro xs;induction xs with
 | nil=>intro us a _;cases us with | nil=>exact .nil | cons _ _=>cases a
 | cons x xs c=>
  intro us a b;cases us with
  | nil=>cases a
  | cons u us=>exact .cons (b 0 x u rfl rfl) (c us (by simpa using a) λi y w d e=>b (i+1) y w (by simpa using d) (by simpa using e))
open PyProof.Rows hiding K lo
def qw.turnLaid{X:Cx}{a_:List (Addr×Obj)}{a:St}{H:Hp}{s:Shared}{h':Heap}{L:List Addr}{T:Addr}{o:HO}{t':Nat}(I:qw X a_ a H s)(k:∀b u,b∉L->s.heap.get? b=some u->h'.get? b=some u)(g:∀b∈L,JP X a_ H b)(i:s.heap.objs.size<=T)
  (new:qQ X.prog X.w (upd H T o) h' T o):qw X a_ a (upd H T o) {s with heap:=h',toks:=t'}:=by
 have a:H T=none:=I.hok.fresh i;have up:∀b u,H b=some u->upd H T o b=some u:=λb u e=>by rw[qg (qt e a)];exact e
 have j:∀b u,H b=some u->b∉L:=λb u e z=>by rw[(g b z).1]at e;cases e
 refine I.step (g':=s.gens) (d':=s.drawn) (ch:=L) (λb d=>?_) (λb o _ _ a e _=>k b o a e) (λb o _ _ a e _=>⟨o.slots,k b o a e⟩) (λb _ a e n=>?_)
  (λb o a e=>⟨o,k b o a e⟩) (λb l e=>up b _ e) (λb o u e=>up b _ e) (λb _ e=>⟨#[],by rw[up b _ e];simp⟩) (λm p=>?_) (λb u e=>?_) I.bare
 ·obtain⟨_,f1,f2,r,x,y⟩:=g b d;exact⟨r,f1,x,y⟩
 ·have:b≠T:=tW (tN (tK e) i);rw[qg this];exact n
 ·obtain⟨o,i,r,x,y⟩:=p;exact⟨o,i,r,k _ o (λz=>(g _ z).2.1 rfl) x,y⟩
 ·by_cases d:b=T
  ·subst d;rw[qa]at e;cases e;exact new
  ·rw[qg d]at e;refine(I.hok b u e).stay (λc v a q=>k c v ?_ q) (λc q=>up c _ q) (λc l q=>up c _ q) (λc o q=>up c _ q);rcases a with z | z
   ·rw[z];exact j b u e
   ·exact j c _ z
def qw.turnedL{X:Cx}{a_:List (Addr×Obj)}{a:St}{H:Hp}{s:Shared}{h':Heap}{L:List Addr}{t':Nat}(I:qw X a_ a H s)(k:∀b u,b∉L->s.heap.get? b=some u->h'.get? b=some u)(g:∀b∈L,JP X a_ H b):qw X a_ a H {s with heap:=h',toks:=t'}:=by
 have i:∀b u,H b=some u->b∉L:=λb u e z=>by rw[(g b z).1]at e;cases e
 refine I.step (g':=s.gens) (d':=s.drawn) (ch:=L) (λb j=>?_) (λb a _ _ d e _=>k b a d e) (λb a _ _ d e _=>⟨a.slots,k b a d e⟩) (λ_ _ _ _ n=>n)
  (λb a d e=>⟨a,k b a d e⟩) (λ_ _ e=>e) (λ_ _ _ e=>e) (λb _ e=>⟨#[],by rw[e];simp⟩) (λm l=>?_) (λb u e=>?_) I.bare
 ·obtain⟨_,f1,f2,o,p,r⟩:=g b j;exact⟨o,f1,p,r⟩
 ·obtain⟨a,j,o,p,r⟩:=l;exact⟨a,j,o,k _ a (λz=>(g _ z).2.1 rfl) p,r⟩
 ·refine(I.hok b u e).stay (λc v d q=>k c v ?_ q) (λ_ q=>q) λ_ _ q=>q;rcases d with z | z
  ·rw[z];exact i b u e
  ·exact i c _ z
open PyProof.Rows hiding K lo
inductive Ay(K:zdU)(x:V)(y:V)(H:Hp)(Q:VK):Prop
 | mk (d:_) (d':_):DV K H x d->DV K H y d'->PySem.SeqAt.shaped d=true->PySem.SeqAt.shaped d'=true->(Q (.bl (PyData.eqv d d')) H)->Ay K x y H Q
def DW(K:zdU):R2:=λx y H Q=>Ay K x y H Q
def BF{X:Cx}(hu:X.A.units+64 < cLine):ZP X (compareOp .Eq) (DW X.K):=by
 intro _ s _ H x y v u Q I a b h;obtain⟨d,_,c,e,g,i,q⟩:=h;obtain⟨as,j⟩:=c.reads I a;obtain⟨bs,a⟩:=e.reads I b;exact eq_dataH j a g i hu ⟨.bl _,H,I,rfl,q⟩
def uk(C i:Addr)(m:Str)(sp j:Sp)(b:TE)(t:TA):TE:=λc H Q=>b c H λx b=>∃a g fs,x=.ref a/\fs.lookup m=none/\
 ((b a=some (.ins C g fs)/\t c b λd e=>sp (x::d) e Q E0)\/(b a=some (.ins i g fs)/\t c b λd e=>j (x::d) e Q E0))
def Gj(b:JE X o j)(c:Wf X.K C)(p:Ws X.K C m f)(F:qp X.prog X.w X.K X.mg X.base qN k f l ps sp)(hr:je k X.A)(T:jN X.K l ps [])(U:Wf X.K g)(z:Ws X.K g m v)(Y:qp X.prog X.w X.K X.mg X.base qN y v J L O)(aa:je y X.A)(ab:jN X.K J L [])(d:JA X (e::es) t)(B:starEach (e::es) X.env=(false,eval e X.env)::starEach es X.env:=by rfl)(D:(backTo pos (starEach es X.env)).any (·.1)=false:=by rfl)(ht:eval (.Call (.Attribute o m c_) (e::es) [] pos) X.env=(eval o X.env >>= λi=>standAt c_.atName >>= λ_=>holding [i] (getMethod i m pl) >>= λr=>callWith pos r.1 r.2 (backTo pos (starEach (e::es) X.env)) (backToKw pos (keywordEach [] X.env))):=by rfl):JE X (.Call (.Attribute o m c_) (e::es) [] pos) (uk C g m sp O j t):=.of (by
 have b:=b.to;have d:=d.to;intro i s j H Q I h;refine zbD (pl:=pl) (jg (b i s j H _ I h) λu J ⟨x,L,g,b,a,_,fs,l,O,q⟩=>?_) ht;subst l;obtain rfl:u=Value.ref a:=b;rcases q with ⟨l,q⟩ | ⟨l,q⟩
 ·refine QE g l c p O (zbx (first:=[.ref a]) (h₀:=X.base) I.ok.mod.kin p.kp (jg (d pos i J j L _ g q) λp s2 ⟨v,H2,b,r,y⟩=>⟨b.kIn,?_⟩) B D);exact Z5 (us:=.ref a::p) (vs:=.ref a::v) F hr T .nil Jd b (.cons rfl r) (by simpa using y)
 ·refine QE g l U z O (zbx (first:=[.ref a]) (h₀:=X.base) I.ok.mod.kin z.kp (jg (d pos i J j L _ g q) λp s2 ⟨v,H2,b,r,y⟩=>⟨b.kIn,?_⟩) B D);exact Z5 (us:=.ref a::p) (vs:=.ref a::v) Y aa ab .nil Jd b (.cons rfl r) (by simpa using y))
def W5(b:JE X o j)(c:Wf X.K C)(e:Ws X.K C m f)(F:qp X.prog X.w X.K X.mg X.base qN k f l ps sp)(hr:je k X.A)(p:jN X.K l ps [])(v:Wf X.K d)(g:Ws X.K d m y)(z:qp X.prog X.w X.K X.mg X.base qN B y D J L)(O:je B X.A)(T:jN X.K D J [])(U:eval (.Call (.Attribute o m c_) [] [] pos) X.env=(eval o X.env >>= λi=>standAt c_.atName >>= λ_=>holding [i] (getMethod i m pl) >>= λr=>callWith pos r.1 r.2 (backTo pos (starEach [] X.env)) (backToKw pos (keywordEach [] X.env))):=by rfl):JE X (.Call (.Attribute o m c_) [] [] pos) (uk C d m sp L j Qw):=.of (by
 have b:=b.to;intro d s i H Q I h;refine zbD (pl:=pl) (jg (b d s i H _ I h) λu _ ⟨x,_,b,d,a,_,fs,j,i,q⟩=>?_) U;subst j;obtain rfl:u=Value.ref a:=d;rcases q with ⟨d,q⟩ | ⟨d,q⟩
 ·exact QE b d c e i (zcB (first:=[.ref a]) b.kIn e.kp (Z5 (us:=[.ref a]) (vs:=[.ref a]) F hr p .nil Jd b (.cons rfl .nil) q))
 ·exact QE b d v g i (zcB (first:=[.ref a]) b.kIn g.kp (Z5 (us:=[.ref a]) (vs:=[.ref a]) z O T .nil Jd b (.cons rfl .nil) q)))
def VR{t':TE}(h:JE X e te)(k:∀a H Q,t' a H Q->te a H Q):JE X e t':=.of (by
 have h:=h.to;exact λb s a H Q I q=>h b s a H Q I (k a H Q q))
def tWk(te:TE):TE:=λa H Q=>∃G:VK,te a H G/\∀x a,G x a->Q x a
def Gi(h:JE X e te):JE X e (tWk te):=.of (by
 have h:=h.to;intro a s b H Q I ⟨G,c,k⟩;exact jg (h a s b H G I c) λv _ ⟨x,a,b,c,d⟩=>⟨x,a,b,c,k x a d⟩)
def aWk(t:TA):TA:=λa H Q=>∃G:List V->Hp->Prop,t a H G/\∀a b,G a b->Q a b
def Ek(h:JA X es t):JA X es (aWk t):=.of (by
 have h:=h.to;intro pos a s b H Q I ⟨G,c,k⟩;exact jg (h pos a s b H G I c) λ_ _ ⟨a,b,c,d,e⟩=>⟨a,b,c,d,k a b e⟩)
open PySem PySem.Spec PySem.W
open PyProof.Rows hiding K lo
def AH:∀(f n r:Nat),r<=1->minRun' f n r<=n+r
 | 0,n,r,_=>tc _
 | f+1,n,r,hr=>by
  rw[minRun'_succ];split
  ·exact tc _
  ·have a:max r (n % 2)<=1:=Nat.max_le.mpr ⟨hr,by omega⟩;have:=AH f (n / 2) (max r (n % 2)) a;omega
def UX{R:Nat->Shared->Prop}(b:∀i,1<=i->i < n->∀C:Bool->Shared->Prop,C false z->kas_cmp P w B κ it i (i - 1) C z)(c:R n z):
  ∀(f a:Nat),1<=a->a+f=n->(kas_asc (zaJ (t8 n)) f a).kasWp (kas_cmp P w B κ it) R z
 | 0,a,_,e=>by
  have d:a=n:=by omega
  subst d;exact c
 | f+1,a,g,e=>by
  have d:∀i,i < n->(zaJ (t8 n)).getD i 0=i:=λi j=>by simp [Array.getD,j]
  show kas_cmp P w B κ it ((zaJ (t8 n)).getD a 0) ((zaJ (t8 n)).getD (a - 1) 0) _ z;rw[d a (by omega),d (a - 1) (by omega)];refine b a g (by omega) _ ?_;show KasT.kasWp _ (if false=true then _ else _) R z;rw[if_neg tH];exact UX b c f (a+1) (by omega) (by omega)
def xO{Q:Unit->SortSt->Shared->Prop}(b:2<=n)(c:∀i,1<=i->i < n->∀C:Bool->Shared->Prop,C false z->kas_cmp P w B κ it i (i - 1) C z)(d:∀st,arrOf st=(zaJ (t8 n)).map (kas_item it)->failedOf st=none->Q () st z):kasC (model P w) B F sortRuns' Q (kas_st κ it (zaJ (t8 n))) z:=by
 obtain⟨a,rfl⟩:∃a,n=a+2:=⟨n - 2,by omega⟩;have sz:(zaJ (t8 (a+2))).size=a+2:=by simp
 have b:(arrOf (kas_st κ it (zaJ (t8 (a+2))))).size=a+2:=(Array.size_map ..).trans sz;have le:=AH (a+2) (a+2) 0 (by decide);rw[sortRuns'_eq];refine kasC_bind (kasC_get ?_)
 try dsimp only
 rw[b];generalize minRun' (a+2) (a+2) 0=M at le;refine kasC_bind (kasC_range (show kasC _ _ _ (forIn (0::1::zdT 2 a) _ _) _ _ _ from kasC_cons ?_))
 try dsimp only
 rw[if_neg (by omega)];simp only[Nat.sub_zero,zdM];refine kasC_bind (kas_count_ (G:=λq b=>q=(a+2,zaJ (t8 (a+2)))/\b=z) (by omega) (by rw[sz];exact tc _) (λm _ b _ _ _ g=>?_) ?_)
 ·obtain⟨e,rfl⟩:=g;cases e
  try dsimp only
  rw[if_neg (by omega)];refine kasC_bind (kasC_get ?_);rw[show (pendingOf (kas_st κ it (zaJ (t8 (a+2))))).back?=none from rfl]
  try dsimp only
  refine kasC_bind (kasC_modify (kasC_pure (show kasC _ _ _ (forIn (1::zdT 2 a) _ _) _ _ _ from kasC_cons ?_)))
  try dsimp only
  rw[if_pos (tc _)];refine kasC_pure ?_
  try dsimp only
  refine kasC_bind (kasC_range (show kasC _ _ _ (forIn (0::1::zdT 2 a) _ _) _ _ _ from kasC_cons (kasC_bind (kasC_get ?_))));rw[if_pos (show (pendingOf (setPending (kas_st κ it (zaJ (t8 (a+2)))) ((pendingOf (kas_st κ it (zaJ (t8 (a+2))))).push (0,a+2,0)))).size<=1 from tc 1)];refine kasC_pure ?_
  try dsimp only
  exact kasC_pure (d _ rfl rfl)
 ·unfold kas_count;rw[KasT.kasWp_bind];refine UX c ?_ _ 1 (tc 1) (by omega);rw[if_pos (beq_self_eq_true _)];exact⟨rfl,rfl⟩
inductive JB(h:Heap)(v:Value)(k:Int×Int):Prop
 | mk (p:_) (o:_) (n:_) (t:_) (u:_):v=.ref p->h.get? p=some o->o.cls=.type "tuple"->o.data=.seq #[.int k.1 t,.int k.2 u] n->JB h v k
def XO(a b:Int×Int):Prop:=a.1 < b.1\/(a.1=b.1/\a.2 < b.2)
def U1{z:Shared}(i:JB z.heap v b)(hu:JB z.heap u a)(l:XO a b){C:Bool->Shared->Prop}(c:C false z):wpAny (model P w) B (keyLt' (tuples' true) v u) C (λ_ _=>False) z:=by
 obtain⟨_,_,n,d,g,rfl,m,_,o⟩:=i;obtain⟨_,_,_,i,j,rfl,p,_,q⟩:=hu;refine kat_lt m o p q ?_;show KatLex P w B true _ C [(.int b.1 d,.int a.1 i),(.int b.2 g,.int a.2 j)] 0 z;refine kat_cons (SeqAt.EqAt.int_int b.1 d a.1 i P w _ _ ?_);rcases l with h | ⟨h,d⟩
 ·have e:(b.1==a.1)=false:=by
   rw[beq_eq_false_iff_ne];omega
  rw[e];refine kat_no (show wpAny _ _ (oneLt' true _ _) _ _ _ from oneLt_int ?_);rw[decide_eq_false (by omega)];exact c
 ·have e:(b.1==a.1)=true:=by rw[h];exact beq_self_eq_true _
  rw[e];refine kat_yes (kat_cons (SeqAt.EqAt.int_int b.2 g a.2 j P w _ _ ?_));have d:(b.2==a.2)=false:=by
   rw[beq_eq_false_iff_ne];omega
  rw[d];refine kat_no (show wpAny _ _ (oneLt' false _ _) _ _ _ from kat_one _ _ (lt_int ?_));show C (decide (b.2 < a.2)) z;rw[decide_eq_false (by omega)];exact c
def JB.keep{h':Heap}(x:JB h v k)(g:∀b o,h.get? b=some o->o.cls=.type "tuple"->h'.get? b=some o):JB h' v k:=by
 obtain⟨a,o,n,t,u,e,i,c,d⟩:=x;exact⟨a,o,n,t,u,e,g a o i c,c,d⟩
def WU(vs:List Value):(pairsOf vs).map (·.2)=vs.toArray:=by
 apply Array.ext';rw[Array.toList_map,pairsOf_toList,List.map_snd_zip (tc _)]
def kQ:∀(vs:List Value) (a:List (Int×Int)),vs.length=a.length->(∀(i:Nat) (v:Value) (k:Int×Int),vs[i]?=some v->a[i]?=some k->JB h v k)->∃fs,KatTups h vs fs/\fs.length=vs.length/\∀v∈fs,∃i t,v=Value.int i t
 | [],_,_,_=>⟨[],.nil,rfl,λv b=>(nomatch b)⟩
 | v::vs,[],g,_=>by cases g
 | v::vs,k::a,g,b=>by
  obtain⟨fs,j,lf,l⟩:=kQ vs a (zdb.inj g) λi u q m o=>b (i+1) u q (by simpa using m) (by simpa using o);obtain⟨_,_,n,t,u,rfl,a,c,d⟩:=b 0 v k rfl rfl;refine⟨.int k.1 t::fs,.cons a c d rfl j,by simp [lf],λx a=>?_⟩;rcases tI.mp a with e | a
  ·exact⟨_,_,e⟩
  ·exact l x a
def xF{z:Shared}{vs:List Value}{g:List (Int×Int)}{R:PySem.Fin->Shared->Prop}(j:z.heap.get? a=some (seqObj "list" vs.toArray n))(o:vs.length=g.length)(p:∀(i:Nat) (v:Value) (k:Int×Int),vs[i]?=some v->g[i]?=some k->JB z.heap v k)(hr:∀(i:Nat) (k d:Int×Int),g[i]?=some k->g[i+1]?=some d->XO k d)(hz:vs.length<=100000)(k:R (.done (.ret .none)) {z with heap:=sortedHeap z.heap a vs vs.toArray}):wpAny (model P w) B (Builtin.«list.sort» ⟨[.ref a],[]⟩) R F z:=by
 have r:∀b d,z.heap.get? b=some d->d.cls=.type "tuple"->b≠a:=λb d e c q=>by
  rw[q,j]at e;cases e;exact absurd c (show ¬Value.type "list"=Value.type "tuple" by decide)
 rw[list_sort_plain];refine zdW (listItems_at j rfl (zdW (listUpdate_at j rfl ?_)));obtain⟨l,m⟩:∃c,(z.heap.update a (Obj.mapSeq λ_=>#[])).get? a=some (seqObj "list" #[] c):=⟨_,get?_update_seq j (λ_=>#[])⟩;refine zdW (seqEpoch_at m rfl (zdW (wpAny_newTuple (zdW (wpAny_newList (wpAny_holding ?_))))));have lt:=tK j;have j:(((z.heap.update a (Obj.mapSeq λ_=>#[])).push (seqObj "tuple" vs.toArray 0)).push (seqObj "list" #[] 0)).get? a=some (seqObj "list" #[] l):=tj _ (tj _ m);have u:∀b d,z.heap.get? b=some d->d.cls=.type "tuple"->(((z.heap.update a (Obj.mapSeq λ_=>#[])).push (seqObj "tuple" vs.toArray 0)).push (seqObj "list" #[] 0)).get? b=some d:=λb d e c=>
  tj _ (tj _ ((zax _ _ (Ne.symm (r b d e c))).trans e))
 show wpAny (model P w) B _ R F {z with heap:=((z.heap.update a (Obj.mapSeq λ_=>#[])).push (seqObj "tuple" vs.toArray 0)).push (seqObj "list" #[] 0)}
 try dsimp only
 have d:vs.toArray.size=vs.length:=by simp
 have ends:∀st:SortSt,(arrOf st).map (·.2)=vs.toArray->failedOf st=none->wpAny (model P w) B (do
   let m:=(<-seqEpoch a) != l
   Builtin.List.listUpdate (.ref a) λ_=>(arrOf st).map (·.2)
   if let some e:=failedOf st then rule "list.sort.comparison-raised";throw e
   if m then rule "list.sort.modified";raiseError "ValueError" "list modified during sort"
   ret .none) R F {z with heap:=((z.heap.update a (Obj.mapSeq λ_=>#[])).push (seqObj "tuple" vs.toArray 0)).push (seqObj "list" #[] 0)}:=λst e f=>by
  refine zdW (seqEpoch_at j rfl ?_);rw[e,f];refine zdW (listUpdate_at j rfl ?_ (hsz2:=by rw[d,sizeLine_eq];omega));simp only[bne_self_eq_false,zaO,if_false];exact zdX k
 by_cases d:vs.toArray.size < 2
 ·rw[if_pos d,if_pos d];refine zdW (zdX ?_);rw[StateT.run_pure];refine zdW (zdX ?_);exact ends (SortSt.mk' general' (vs.toArray.zip vs.toArray) #[] 7 none) (WU vs) rfl
 ·rw[if_neg d,if_neg d];have d:2<=vs.length:=by omega
  have m:∀(i:Nat) (v:Value) (q:Int×Int),vs[i]?=some v->g[i]?=some q->JB (((z.heap.update a (Obj.mapSeq λ_=>#[])).push (seqObj "tuple" vs.toArray 0)).push (seqObj "list" #[] 0)) v q:=λi v q j l=>(p i v q j l).keep u;obtain⟨fs,p,lf,r⟩:=kQ vs g o m;refine zdW (kat_kind (T:=.type "int") p (by omega) (λv q=>?_) rfl ?_)
  ·obtain⟨i,t,rfl⟩:=r v q;exact Looks.of_pure rfl
  ·have e:vs.toArray.zip vs.toArray=(zaJ (t8 vs.length)).map (kas_item (pairsOf vs)):=by
    have:=kas_range (pairsOf vs);rw[pairsOf_size]at this;exact this.symm
   rw[e];have run:kasC (model P w) B F sortRuns' (λ_ st o=>o={z with heap:=((z.heap.update a (Obj.mapSeq λ_=>#[])).push (seqObj "tuple" vs.toArray 0)).push (seqObj "list" #[] 0)}/\(arrOf st).map (·.2)=vs.toArray/\failedOf st=none)
     (kas_st (tuples' true) (pairsOf vs) (zaJ (t8 vs.length))) {z with heap:=((z.heap.update a (Obj.mapSeq λ_=>#[])).push (seqObj "tuple" vs.toArray 0)).push (seqObj "list" #[] 0)}:=by
    refine xO d (λi _ p _ H=>?_) λst j l=>⟨rfl,by rw[j,<-e];exact WU vs,l⟩;unfold kas_cmp;rw[kas_item_eq,kas_item_eq];have r:∀d,d < vs.length->vs[d]?=some (vs.getD d Value.none):=λd u=>by simp [u]
    have y:∀d,d < vs.length->∃q,g[d]?=some q:=λd u=>⟨_,th (by omega)⟩;obtain⟨d,u⟩:=y i p;obtain⟨C,D⟩:=y (i - 1) (by omega);have y:g[i - 1+1]?=some d:=by rw[show i - 1+1=i by omega];exact u
    exact U1 (m i _ d (r i p) u) (m (i - 1) _ C (r (i - 1) (by omega)) D) (hr (i - 1) C d D y) H
   refine zdW (wpAny_mono run (λd o g=>?_) λ_ _ x=>x);obtain⟨⟨⟩,st⟩:=d;obtain⟨rfl,j,l⟩:=g;exact ends st j l
end L2
namespace PySem
def Wr(h:Heap)(d:Addr)(es:Array DictEntry)(ep:Nat):Prop:=∃a,h.get? d=some a/\a.ExactDict/\a.data=.dict es ep
def Wr.keep{h':Heap}(x:Wr h d es ep)(k:∀o,h.get? d=some o->h'.get? d=some o):Wr h' d es ep:=let ⟨o,e,a⟩:=x;⟨o,k o e,a⟩
def Wr.ty{z:Shared}(x:Wr z.heap d es ep):z.TypeIs (.ref d) "dict":=let ⟨a,e,c,_⟩:=x;⟨a,e,c.1⟩
def Ki{z:Shared}{R:Value->Shared->Prop}(hd:(d==sysModules)=false)(x:Wr z.heap d es ep)(k:R (.ref z.heap.objs.size) {z with heap:=z.heap.push {cls:=.type "dict_keyiterator",data:=.fields #[.ref d,.int 0 0,.int es.size 0,.int ep 0]}}):wpAny (model P w) B (pyIter (.ref d)) R a z:=by
 have ty:=x.ty;obtain⟨_,a,_,b⟩:=x;refine wpAny_pyIter_slot ty F.slot_dict_iter (wpAny_call_entry F.slot_dict_iter ty F.entry_dict_iter ?_ (F.args_dict_iter_1 _));unfold Builtin.«dict.__iter__»;refine zdW (show wpAny _ _ (Builtin.Dict.dictSlotNone _ _) _ _ _ from ?_);unfold Builtin.Dict.dictSlotNone;refine zdW (wpAny_notOrdered_dict ty (show wpAny _ _ (pure (Value.ref d)) _ _ z from zdX ?_));refine(show wpAny _ _ (Builtin.Dict.showsAll d >>= _) _ _ z from ?_);unfold Builtin.Dict.showsAll;rw[if_neg (by rw[hd];exact tH)];refine zdW (zdX (zdW (wpAny_dictEntries a b (zdW (wpAny_dictEpoch a b ?_)))));exact zdW (wpAny_newObj_type (zdX ⟨_,rfl,"dict_keyiterator",_,⟨_,tR _ rfl,rfl⟩,F.slot_dict_keyiterator_next.lookup,by simpa [rawInt] using k⟩))
def Kh{z:Shared}{es:Array DictEntry}{R:Option Value->Shared->Prop}(fA:z.heap.IsKeyIter I d i es.size ep)(x:Wr z.heap d es ep)(e:i < es.size)(k:∀h',h'.IsKeyIter I d (i+1) es.size ep->Heap.SameBut I z.heap h'->R (some es[i].key) {z with heap:=h'}):wpAny (model P w) B (pyNext (.ref I)) R a z:=by
 obtain⟨_,a,g,hd⟩:=id fA;obtain⟨_,b,_,c⟩:=x;have ty:=fA.typeIs;unfold pyNext;refine zdW (wpAny_attempt (wpAny_callSpecial?_slot (name:=zdV "__next__") ty F.slot_dict_keyiterator_next (wpAny_call_entry F.slot_dict_keyiterator_next ty F.entry_dict_keyiterator_next ?_ (F.args_dict_keyiterator_next_1 _))));refine zdW (zdX (zdW (zdW (zdW ?_))))
 first | refine wpAny_typeNameOfWhole_keyiter ty (zdX (zdW (wpAny_fieldsOf a hd ?_))) | refine wpAny_typeNameOf_keyiter ty (zdX (zdW (wpAny_fieldsOf a hd ?_)))
 have own:Builtin.Dict_items.ownsTuple "dict_keyiterator"=false:=by decide
 simp only[own,zaO,if_false];show wpAny _ _ (if (Value.ref d==Value.none)=true then _ else _) _ _ z;rw[if_neg (show ¬((Value.ref d==Value.none)=true) from tH)];refine zdW (zdX (zdW (wpAny_dictEntries b c ?_)));rw[if_neg (by simp)];refine zdW (zdX (zdW (wpAny_dictEpoch b c ?_)));rw[if_neg (by simp)];refine zdX ?_;simp only[show ¬((i:Int) < 0) from by omega,if_false,zaC,zbO e];refine zdW (zdW ?_)
 first | refine wpAny_typeNameOfWhole_keyiter ty (zdX (zdW (wpAny_isOneOf_keyiter ty ?_))) | refine wpAny_typeNameOf_keyiter ty (zdX (zdW (wpAny_isOneOf_keyiter ty ?_)))
 refine(show wpAny _ _ (setField (.ref I) 1 (rawInt ((i:Int)+1)) >>= _) _ _ z from zdW (wpAny_setField a hd (by simp) ?_));have b:(z.heap.update I (Obj.mapFields (·.setIfInBounds 1 (rawInt ((i:Int)+1))))).IsKeyIter I d (i+1) es.size ep:=
  ⟨_,zbm _ a (Obj.isFreed_of_fields (Obj.data_mapFields hd _)),(Obj.cls_mapFields ..).trans g,by rw[Obj.data_mapFields hd];simp [rawInt]⟩
 refine zdW (wpAny_holding (zdW (wpAny_isOneOf_keyiter (s:={z with heap:=z.heap.update I (Obj.mapFields (·.setIfInBounds 1 (rawInt ((i:Int)+1))))}) b.typeIs ?_)));refine(show wpAny _ _ (pure es[i].key) _ _ _ from zdX (zdX ⟨_,rfl,zdX (k _ b (zcC.update ..))⟩))
def Nz{B:Around}{z:Shared}{es:Array DictEntry}{R:Option Value->Shared->Prop}(e:B.handled=none)(fA:z.heap.IsKeyIter I d i es.size ep)(x:Wr z.heap d es ep)(g:es.size<=i)(k:∀h',Heap.ExtBut I z.heap h'->R none {z with heap:=h'}):wpAny (model P w) B (pyNext (.ref I)) R a z:=by
 obtain⟨_,a,_,hd⟩:=id fA;obtain⟨_,b,_,c⟩:=x;have ty:=fA.typeIs;unfold pyNext;refine zdW (wpAny_attempt (wpAny_callSpecial?_slot (name:=zdV "__next__") ty F.slot_dict_keyiterator_next (wpAny_call_entry F.slot_dict_keyiterator_next ty F.entry_dict_keyiterator_next ?_ (F.args_dict_keyiterator_next_1 _))));refine zdW (zdX (zdW (zdW (zdW ?_))))
 first | refine wpAny_typeNameOfWhole_keyiter ty (zdX (zdW (wpAny_fieldsOf a hd ?_))) | refine wpAny_typeNameOf_keyiter ty (zdX (zdW (wpAny_fieldsOf a hd ?_)))
 have own:Builtin.Dict_items.ownsTuple "dict_keyiterator"=false:=by decide
 simp only[own,zaO,if_false];show wpAny _ _ (if (Value.ref d==Value.none)=true then _ else _) _ _ z;rw[if_neg (show ¬((Value.ref d==Value.none)=true) from tH)];refine zdW (zdX (zdW (wpAny_dictEntries b c ?_)));rw[if_neg (by simp)];refine zdW (zdX (zdW (wpAny_dictEpoch b c ?_)));rw[if_neg (by simp)];refine zdX ?_;simp only[show ¬((i:Int) < 0) from by omega,if_false,zaC,Array.getElem?_eq_none g];refine zdW (zdW ?_)
 first | refine wpAny_typeNameOfWhole_keyiter ty (zdX ?_) | refine wpAny_typeNameOf_keyiter ty (zdX ?_)
 refine(show wpAny _ _ (setField (.ref I) 0 .none >>= _) _ _ z from zdW (wpAny_setField a hd (by simp) ?_));refine(show wpAny _ _ (newExc (.type "StopIteration") [] >>= _) _ _ _ from zdW ?_);simp only[newExc,newTuple];refine zdW (wpAny_newObj_type (zdW (m:=firstArgMember _ _) (wpAny_of_eq (a:=Value.none) (by first | rfl | (simp only[firstArgMember];rfl)) (wpAny_newObj_type ?_ (by size_fits)))) (by size_fits));simp only[raiseNew];refine zdW (wpAny_handled ?_);rw[show B.in1.handled=none from e];refine zdW (zdX (wpAny_throw ?_));refine zdW (wpAny_isInstance (T:="StopIteration") (b:=true) ⟨_,tR _ rfl,rfl⟩ isSubtype_stop ?_);exact zdX (k _ ((((zcC.update ..).extBut).push _).push _))
open PySem.W
def xP{es:Array DictEntry}{B:Around}(m:B.handled=none)(I:Addr)(o:d≠I):Walks P w B I [I,d] [I] es.size (λi v=>∃h:i < es.size,v=es[i].key) (λi h=>h.IsKeyIter I d i es.size ep/\Wr h d es ep) where
 sub:=λb c=>by simp at c;simp [c]
 frame:=λ_ _ _ st k=>⟨st.1.at λa e=>k I (by simp) a e,st.2.keep λa e=>k d (by simp) a e⟩
 item:=λi z R G j st q=>Kh st.1 st.2 j λg p l=>q _ g z.toks ⟨j,rfl⟩ ⟨p,st.2.keep λa e=>l.extBut d a o e⟩ λb a c e=>l.extBut b a (λx=>c (by simp [x])) e
 done:=λz R G st q=>Nz m st.1 st.2 (tc _) λg j=>q g z.toks λb a c e=>j b a (λx=>c (by simp [x])) e
 self:=λ_ _ _ _ st q=>wpAny_pyIter_keyiter st.1 q
def Ny{es:Array DictEntry}(hd:(d==sysModules)=false):KdlSrc P w "dict" d d es.size (λi v=>∃h:i < es.size,v=es[i].key) (λh=>Wr h d es ep) where
 type:=λz x=>x.ty
 there:=λh x=>let ⟨a,e,_⟩:=x;⟨tK e,tK e⟩
 keep:=λh _ x k=>x.keep λa e=>k d (.inl rfl) a e
 notList:=by decide
 notTuple:=by decide
 hint:=λ_ _ _ _ x q=>kdl_hint_dict x.ty q
 iter:=λA z b x=>⟨_,_,λE Q q=>Ki hd x q,xP b _ (let ⟨a,e,_⟩:=x;tW (tK e)),⟨⟨_,tR _ rfl,rfl,rfl⟩,x.keep λa e=>tj _ e⟩⟩
end PySem
namespace L2
open PySem PySem.Spec PySem.W
open PyProof.Rows hiding K lo
def Z6:∀{l:List α} {m:List β},Paired G l m->∀{i:Nat} {a:α},l[i]?=some a->∃b,m[i]?=some b/\G a b
 | _,_,.nil,i,a,e=>by simp at e
 | _,_,.cons c t,0,a,e=>by cases e;exact⟨_,rfl,c⟩
 | _,_,.cons c t,i+1,a,e=>by
  obtain⟨b,c,d⟩:=Z6 t (by simpa using e);exact⟨b,by simpa using c,d⟩
def YB(k:Int×Int):List qT:=[Sum.inl k.1,Sum.inl k.2]
inductive yL(xs:List V)(H:Hp)(Q:VK):Prop
 | mk (a:Addr) (kvs:List (List qT×V)) (ks:List (Int×Int)):xs=[.ref a]->H a=some (.dT kvs)->kvs.map (·.1)=ks.map YB->((∀(i:Nat) (k k':Int×Int),ks[i]?=some k->ks[i+1]?=some k'->XO k k'))->(kvs.length<=1000)->(∀(l:Addr) (ps:List Addr),H l=none->ps.length=ks.length->(∀(i:Nat) (p:Addr) (k:Int×Int),ps[i]?=some p->ks[i]?=some k->H p=some (.tup [.int k.1,.int k.2]))->Q (.ref l) (upd H l (.lst (ps.map V.ref))))->yL xs H Q
def Bw:List V->Hp->VK->Prop:=λa H Q=>yL a H Q
def Ub:∀(ps:List Addr),qI (ps.map V.ref) (ps.map Value.ref)
 | []=>.nil
 | a::ps=>.cons rfl (Ub ps)
def kD{X:Cx}(J:X.calm=true):QX X (.builtin "sorted") Bw:=by
 intro L s O H _ _ Q I d h;obtain⟨a,p,B,rfl,j,C,hr,T,q⟩:=h;obtain⟨u,rfl,g⟩:=Q9 d;cases g;obtain⟨_,U,g,pr,l,r,Y,eo,ex,aa,d,_⟩:=(show qQ X.prog X.w H s.heap a (.dT p) from I.hok a _ j);have j:p.length=g.length:=Paired.length pr;have lk:p.length=B.length:=by simpa using congrArg zad C
 have se:r.size=g.length:=by rw[<-zap,d,ta]
 have fm:∀i (m:i < r.size),r[i].key=.ref ((g.map (·.2.1)).getD i 0):=λi m=>by
  have j:r.toList[i]?=some r[i]:=by simp [m]
  have z:i < g.length:=by omega
  rw[d,tp,th z]at j;have x:=(tz.inj j).symm;rw[x];show Value.ref g[i].2.1=_;simp [z]
 have tup:∀(i:Nat) (o:Addr) (k:Int×Int),(g.map (·.2.1))[i]?=some o->B[i]?=some k->H o=some (.tup [.int k.1,.int k.2]):=λi o k j x=>by
  rw[tp]at j;cases d:g[i]? with
  | none=>rw[d]at j;cases j
  | some y=>
   rw[d]at j;have ab:y.2.1=o:=tz.inj j;have m:i < p.length:=by
    have:=(td.mp d).1;omega
   obtain⟨_,D,g1,g2,_⟩:=Z6 pr (th m);rw[d]at D;cases D;have D:p[i].1=YB k:=by
    have d:(p.map (·.1))[i]?=some p[i].1:=by rw[tp,th m];rfl
    rw[C,tp,x]at d;exact(tz.inj d).symm
   rw[D,ab]at g2;exact g2
 have p:X.A.in1.handled=none:=I.ok.hd J;refine Calls.call_function_entry kind_sorted plain_sorted entry_sorted (args_sorted1 _) ?_;unfold Builtin.«sorted»;refine zdW (m:=checkCount "sorted" 1 1 _) (zdX ?_);refine zdW (kdu_collect (Ny (es:=r) (ep:=Y) U) p ⟨l,eo,ex,aa⟩ (by rw[se,sizeLine_eq];omega) λd tk p J C=>?_);have D:p.toList=(g.map (·.2.1)).map Value.ref:=by
  refine zdN λi=>?_;by_cases m:i < r.size
  ·have r:i < p.size:=by rw[C.1];exact m
   have j:p[i]?=some p[i]:=zbO r;obtain⟨_,x⟩:=C.2 i _ j;rw[Array.getElem?_toList,j,x,fm i m,tp];have z:i < (g.map (·.2.1)).length:=by rw[ta];omega
   rw[th z];simp [zah,th z]
  ·rw[zbF (by rw[zap,C.1];omega),zbF (by rw[ta,ta];omega)]
 rw[D];generalize hps:g.map (·.2.1)=g at D tup fm;have m:g.length=B.length:=by rw[<-hps,ta];omega
 refine zdW (wpAny_newList ?_);have p:qw X L O H {s with heap:=d,toks:=tk}:=I.kept (t':=tk) J;show wpAny _ _ _ _ _ {s with heap:=d.push (seqObj "list" (g.map Value.ref).toArray 0),toks:=tk};have oL:(d.push (seqObj "list" (g.map Value.ref).toArray 0)).get? d.objs.size=some (seqObj "list" (g.map Value.ref).toArray 0):=tR _ rfl;have z:∀(i:Nat) (v:Value) (k:Int×Int),(g.map Value.ref)[i]?=some v->B[i]?=some k->JB (d.push (seqObj "list" (g.map Value.ref).toArray 0)) v k:=λi v k j x=>by
  rw[tp]at j;cases r:g[i]? with
  | none=>rw[r]at j;cases j
  | some o=>
   rw[r]at j;obtain rfl:=(tz.inj j).symm;obtain⟨_,j,⟨B,C,D,J,L⟩,_⟩:=p.tuple (.of (tup i o k r x):SqT X.K H o _);cases j with
   | cons r j=>
    cases j with
    | cons x j=>
     cases j;obtain⟨j,rfl⟩:=r;obtain⟨r,rfl⟩:=x;exact⟨o,B,J,j,r,rfl,tj _ C,D,L⟩
 refine zdW (wpAny_holding (wpAny_call_entry slot_list_sort ⟨_,oL,rfl⟩ entry_list_sort (xF oL (by rw[ta];exact m) z hr (by rw[ta];omega) ⟨_,rfl,?_⟩) (args_list_sort _)));refine zdX ⟨_,rfl,?_⟩;have j:∀b l,d.get? b=some l->b≠d.objs.size:=λb l e=>tW (tK e);have o:∀b l,d.get? b=some l->(sortedHeap (d.push (seqObj "list" (g.map Value.ref).toArray 0)) d.objs.size (g.map Value.ref) (g.map Value.ref).toArray).get? b=some l:=λb l e=>by
  unfold sortedHeap;rw[zax _ _ (Ne.symm (j b l e))];exact tj _ (tj _ ((zax _ _ (Ne.symm (j b l e))).trans (tj _ e)))
 obtain⟨_,j⟩:∃c,((d.push (seqObj "list" (g.map Value.ref).toArray 0)).update d.objs.size (Obj.mapSeq λ_=>#[])).get? d.objs.size=some (seqObj "list" #[] c):=⟨_,get?_update_seq oL (λ_=>#[])⟩;obtain⟨l,r⟩:∃c,(sortedHeap (d.push (seqObj "list" (g.map Value.ref).toArray 0)) d.objs.size (g.map Value.ref) (g.map Value.ref).toArray).get? d.objs.size=some (seqObj "list" (g.map Value.ref).toArray c):=
  ⟨_,get?_update_seq (tj _ (tj _ j)) (λ_=>(g.map Value.ref).toArray)⟩
 refine⟨.ref d.objs.size,_,p.laid (t':=tk) (o:=.lst (g.map V.ref)) o (tc _) ⟨by rw[ta,m,<-lk];exact t6 (ql T),_,l,Ub g,r⟩,rfl,?_⟩;exact q _ g (p.hok.fresh (tc _)) m tup
open PyProof.Rows hiding K lo
inductive Ar(x:V)(lo:Option Int)(hi:Option Int)(H:Hp)(Q:VK):Prop
 | mk (z:Str) (j:Int):x=.str z->lo=none->hi=some j->(z.length<=1000)->(Q (.str (Txt.slice z none (some j))) H)->Ar x lo hi H Q
def FU:V->Option Int->Option Int->Hp->VK->Prop:=λx lo a H Q=>Ar x lo a H Q
def uW:Ht X FU:=by
 intro _ s _ H x v _ _ lo _ _ Q I b c d e h;obtain⟨z,a,rfl,rfl,rfl,g,q⟩:=h;obtain⟨t,rfl⟩:=b;refine⟨"str",_,PySem.F.slot_str_getitem.lookup,typeIs_str _ _ _,?_⟩;cases d;cases e;exact wpAny_getItem_str_slice (l:=none) (u:=some (a,_)) (st:=none) c rfl (post_val_or_str ⟨tS (Txt.slice_le z none (some a)) (t6 (ql g)),λa k=>⟨.str _,H,I.tok k,⟨a,rfl⟩,q⟩⟩)
def Xo(z:Str)(j:Nat):(Txt.slice z none (some (j:Int))).cps.toList=z.cps.toList.take j:=by
 have b:z.cps.toList.length=z.length:=zap;have g8:Builtin.Str.strSliceIndices none (some (j:Int)) 1 z.length=(t8 (min j z.length)).map (0+·):=by
  have e:Builtin.Str.strSliceIndices none (some (j:Int)) 1 z.length=sliceRange ((0:Nat):Int) ((min j z.length:Nat):Int) 1:=by
   unfold Builtin.Str.strSliceIndices;simp only[show (1:Int) > 0 by decide,if_true,show ¬((j:Int) < 0) by omega,if_false];congr 1;omega
  rw[e,sliceRange_one];rfl
 unfold Txt.slice;rw[g8];split
 ·rename_i h;have c:min j z.length=z.length:=by simpa using h
  rw[tu];omega
 ·rw[pick_run];show (z.cps.toList.drop 0).take (min j z.length)=_;rw[zdw];by_cases a:j<=z.length
  ·rw[zbz a]
  ·rw[zdc (by omega),tu (by omega),tu (by omega)]
def MS(n:Nat):List V:=(t8 n).map λi=>V.int (i:Nat)
inductive C6(Q:VK)(x:V)(H1:Hp):Prop
 | mk (n:Nat):x=.int n->(n<=1000)->(∀l,H1 l=none->Q (.ref l) (upd H1 l (.lst (MS n))))->C6 Q x H1
def tLr(te:TE):TE:=λa H Q=>te a H λx a=>C6 Q x a
def RD(h:ItemsOf (λi v=>∃t,v=.int (0+i*1) t) b n):qI (MS n) b.toList:=by
 obtain⟨a,d⟩:=h;refine xR _ _ (by simp [MS,a]) λi x u a e=>?_;have c:b[i]?=some u:=by simpa using e
 obtain⟨t,rfl⟩:=d i u c;have b:i < n:=by
  have:=(zcI.mp c).1;omega
 unfold MS at a;rw[tp,zbQ b]at a;obtain rfl:=(tz.inj a).symm;refine⟨t,?_⟩;congr 1;omega
def Ej{X:Cx}(g:X.calm=true)(g1:Gl X "list")(i:X.mg "list"=none)(g3:Gl X "range")(j:X.mg "range"=none)(a:JE X e te)(hs:starEach [e] X.env=[(false,eval e X.env)]:=by rfl)(c:starEach [.Call (.Name "range" p3) [e] [] d] X.env=[(false,eval (.Call (.Name "range" p3) [e] [] d) X.env)]:=by rfl):JE X (.Call (.Name "list" l) [.Call (.Name "range" p3) [e] [] d] [] m) (tLr te):=.of (by
 have a:=a.to;intro d s l H Q I h;refine Call_ (QS I g1 i boot_list (PyProof.Rows.callWith_type1 (xC c ?_) (by rw[c];rfl) rfl));refine Call_ (QS I g3 j boot_range (PyProof.Rows.callWith_type1 (xC hs (jg (a d s l H _ I h) λu a ⟨x,_,c,d,i⟩=>?_)) (by rw[hs];rfl) rfl));obtain⟨n,rfl,j,q⟩:=i;obtain⟨t,rfl⟩:=d;refine call_range_1 ?_;refine call_list_range (n:=n) (c.ok.hd g) (IsRange.new ..) (small_one (by omega) (by omega) (by omega) (by omega)) (yH n) (by omega) λ_ tk g i l e m=>?_;have d:a.heap.objs.size<=(a.heap.push ({cls:=.type "range",data:=.fields #[.int 0 a.toks,.int n t,.int 1 (a.toks+1)]}:Obj)).objs.size:=by
  rw[zaX];omega
 exact⟨.ref _,_,c.laid (t':=tk) (o:=.lst (MS n)) (λb a o=>l b a (tj _ o)) d ⟨by simp only[MS,ta,zai];exact t6 (ql j),g.toList,i,RD m,by simpa using e⟩,rfl,q _ (c.hok.fresh d)⟩)
def wO{X:Cx}(g:X.calm=true):QX X (.type "set") (λxs H Q=>∃(p:Addr) (ns:List Int),xs=[.ref p]/\SqL X.K H p (ns.map V.int)/\ns.length<=1000/\∀l S,H l=none->Q (.ref l) (upd H l (.set S (firstMet (λi=>ns.getD i 0) ns.length).length))):=by
 intro _ s _ H xs _ Q I a h;obtain⟨p,ns,rfl,c,_,q⟩:=h;obtain⟨u,rfl,d⟩:=Q9 a;cases d;obtain⟨j,a,m,_⟩:=I.list c;have c:=a.length;rw[ta]at c;have d:j.toArray.size=ns.length:=by rw[tU,<-c]
 refine call_set_list (ns:=ns) (I.ok.hd g) m.isList (by simpa using ku a) (by rw[d];show ns.length+1 < 4096;omega) λ_ tk a c=>?_;rw[d]at a;exact⟨.ref s.heap.objs.size,_,I.laid (t':=tk) (o:=.set _ _) (λb d e=>c b d (tK e) e) (tc _) a,rfl,q _ _ (I.hok.fresh (tc _))⟩
def vu:QX X (.builtin "len") (λxs H Q=>∃a S n,xs=[V.ref a]/\H a=some (.set S n)/\Q (.int (n:Nat)) H):=by
 intro _ s _ H xs _ Q I c h;obtain⟨a,S,n,rfl,d,q⟩:=h;obtain⟨u,rfl,e⟩:=Q9 c;cases e;obtain⟨_,c,_,t,e,g,i,_,_,b,f,rfl⟩:=(show qQ X.prog X.w H s.heap a (.set S n) from I.hok a _ d);refine call_len_set e g i f (by have:c.size < 4096:=b;omega) ⟨.int _,H,I.tok _,⟨_,rfl⟩,q⟩
open PySem PySem.Spec
open PyProof.Rows hiding K lo
def EM(K:zdU)(a:Addr):It:=⟨λi H=>∃b x,SqL K H a b/\b[i]?=some x,
 λi H v d=>∃c,H c=none/\v=.ref c/\∀b x,SqL K H a b->b[i]?=some x->d=upd H c (.tup [.int (i:Nat),x]),
 λi H=>∃b,SqL K H a b/\b.length<=i⟩
def xw(a e it:Addr)(Q:e≠it):
  vx P w K (.Tuple b d g) (EM K a) [e,it] e (λi h=>(∃fh,IsEnum h e it i fh)/\h.IsListIter it a i) where
 mem:=by simp
 obj:=λi h st c b=>by
  obtain⟨⟨fh,g⟩,⟨T,o,_,d⟩⟩:=st;simp only[tI,zcs,or_false]at b;rcases b with rfl | rfl
  ·exact⟨_,g,λv z=>by cases z⟩
  ·exact⟨T,o,λv z=>by rw[d]at z;cases z⟩
 keep:=λi h p st k=>by
  obtain⟨⟨fh,g⟩,j⟩:=st;exact⟨⟨fh,k e (by simp) _ g⟩,j.at λd e=>k it (by simp) d e⟩
 item:=by
  intro X q r y b i U s Y H E I l st B;subst q r y;obtain⟨⟨fh,g⟩,j⟩:=st;obtain⟨xs,x,m,hx⟩:=B;obtain⟨ac,C,D,_⟩:=I.list m;obtain⟨u,hu,ru⟩:=C.get hx;refine wpAny_pyNext_enum_item g j D.isList (x:=u) (by simpa using hu) Q λp L z2 z3 _ J=>⟨_,rfl,?_⟩;refine wpAny_letOwnedTupleGo_enum L λaa ae sb=>?_;have L:∀c d,s.heap.get? c=some d->s.heap.objs.size≠c:=λc d e=>zbv (tK e);have O:∀c d,c≠e->p.get? c=some d->aa.get? c=some d:=λc d b e=>(sb.2 c b).trans e;have I1:qw X U Y (upd H s.heap.objs.size (.tup [.int (i:Nat),x])) {s with heap:=aa,toks:=s.toks+1}:=I.turnLaid (L:=[e,it]) (t':=s.toks+1)
   (λc d b e=>O c d (λz=>b (by simp [z])) (J c d (λz=>b (by simp [z])) (λz=>b (by simp [z])) e)) l (tc _)
   ⟨Ze,[.int i s.toks,u],.cons ⟨_,rfl⟩ (.cons ru .nil),⟨_,O _ _ (L _ _ g) z3,rfl,_,rfl⟩⟩
  refine⟨.ref s.heap.objs.size,_,I1,rfl,⟨s.heap.objs.size,I.hok.fresh (tc _),rfl,λ_ _ af ab=>?_⟩,⟨⟨_,ae⟩,z2.at λd e=>O _ d (Ne.symm Q) e⟩,λc b=>?_⟩
  ·rw[I.list_inj af m,hx]at ab;cases ab;rfl
  ·have Q:=(l c b).1;by_cases O:c=s.heap.objs.size
   ·subst O;obtain⟨T,o,_⟩:=j;simp only[tI,zcs,or_false]at b;rcases b with e | e
    ·exact absurd e (L _ _ g)
    ·exact absurd e (L _ _ o)
   ·rw[qg O];exact Q
 done:=by
  intro X q r y b i U s Y H E I l st B;subst q r y;obtain⟨⟨fh,g⟩,j⟩:=st;obtain⟨xs,m,_⟩:=B;obtain⟨ac,C,D,_⟩:=I.list m;have m:=C.length;exact wpAny_pyNext_enum_end (I.ok.hd b) g j D.isList (by simp;omega) λp J=>⟨rfl,I.turnedL (L:=[e,it]) (t':=s.toks) (λc d b e=>J c d (λz=>b (by simp [z])) e) l⟩
 self:=λ_ _ _ _ _ st h=>let ⟨⟨_,g⟩,_⟩:=st;wpAny_pyIter_enum g h
inductive GJ(K:zdU)(R:It->Hp->Prop)(vs:List V)(H1:Hp):Prop
 | mk (a:_):vs=[.ref a]->((∃xs,SqL K H1 a xs))->(R (EM K a) H1)->GJ K R vs H1
def Er(K:zdU)(a:TA):TI:=λb H R=>a b H λa b=>GJ K R a b
def zJ(g:Gl X "enumerate")(j:X.mg "enumerate"=none)(b:JA X [a] d)(hs:starEach [a] X.env=[(false,eval a X.env)]:=by rfl):JI X (.Tuple i l m) (.Call (.Name "enumerate" p) [a] [] pos) (Er X.K d):=.of (by
 have b:=b.to;intro i s d H R I h;refine Call_ (QS I g j boot_enumerate (PyProof.Rows.callWith_type1 (jg (b pos i s d H _ I h) λ_ b ⟨_,j,g,l,m⟩=>?_) (by rw[hs];rfl) rfl));obtain⟨o,e,⟨_,r⟩,q⟩:=m;subst e;cases l with
 | cons l m=>
  cases m;cases l;obtain⟨_,_,p,_⟩:=g.list r;refine call_enumerate_list p.isList λm l r _ u=>?_;refine wpAny_pyIter_enum l ?_;have v:qw X i d j {b with heap:=m}:=g.kept (t':=b.toks) u;have fr:∀c,b.heap.objs.size<=c->JP X i j c:=λc d=>g.fpOk d (g.hok.fresh d);refine⟨b.heap.objs.size+1,[b.heap.objs.size+1,b.heap.objs.size],_,_,j,rfl,v,xw o (b.heap.objs.size+1) b.heap.objs.size (Nat.succ_ne_self _),⟨⟨_,l⟩,r⟩,λc d=>?_,q⟩;simp only[tI,zcs,or_false]at d;rcases d with e | e<;>rw[e]<;>first | exact fr _ (Nat.le_add_right _ _) | exact fr _ (tc _))
def Zp{K:zdU}{a:Addr}{xs:List V}{g:TG}{tb:TS}{D:JD}{b:St}{H:Hp}(Pv:Nat->St->Hp->Prop)(q:Pv 0 b H)(r:∀i b H,i<=xs.length->Pv i b H->SqL K H a xs)
  (hs:∀i x b H p,xs[i]?=some x->H p=none->Pv i b H->g (.ref p) b (upd H p (.tup [.int (i:Nat),x])) λd j=>tb {D with nx:=Pv (i+1),ct:=Pv (i+1),bk:=D.nx} d j) (hd:∀b H,Pv xs.length b H->D.nx b H):
  ∃W:Nat->Nat->St->Hp->Prop,(∃m,W 0 m b H)/\∀i m b H,W i m b H->
   ((EM K a).stop i H/\D.nx b H)\/((EM K a).go i H/\∃N:St->Hp->Prop,(∀l c,N l c->∃o,o < m/\W (i+1) o l c)/\∀x c,(EM K a).yld i H x c->g x b c λd j=>tb {D with nx:=N,ct:=N,bk:=D.nx} d j):=by
 refine⟨λi m b H=>m=xs.length - i/\i<=xs.length/\Pv i b H,⟨xs.length,by simp,zac _,q⟩,?_⟩;rintro i m b H ⟨rfl,j,p⟩;have d:=r i b H j p;by_cases o:i < xs.length
 ·have j:xs[i]?=some xs[i]:=th o;refine .inr ⟨⟨xs,_,d,j⟩,Pv (i+1),λl c l=>⟨xs.length - (i+1),by omega,rfl,o,l⟩,λx c c=>?_⟩;obtain⟨l,o,rfl,e⟩:=c;rw[e xs _ d j];exact hs i _ b H l j o p
 ·have e:i=xs.length:=by omega
  subst e;exact .inl ⟨⟨xs,d,tc _⟩,hd b H p⟩
def Zj(ns:List Nat):∀i,i<=ns.length->preSum (λj=>((ns.getD j 0:Nat):Int)) i=(((ns.take i).sum:Nat):Int)
 | 0,_=>by simp [preSum]
 | i+1,h=>by
  have a:i < ns.length:=h;show preSum _ i+_=_;rw[Zj ns i (t6 a),tM,th a,zbW];simp [zah,th a]
def Yy(ns:List Nat)(i:Nat):(ns.take i).sum<=ns.sum:=by
 have h:(ns.take i++ns.drop i).sum=ns.sum:=by rw[zbG]
 rw[zbW]at h;omega
def vk(ns:List Nat)(i:Nat):ns.getD i 0<=ns.sum:=by
 have h:=Yy ns (i+1);rw[tM,zbW]at h;rw[zah];cases e:ns[i]? with
 | none=>exact zac _
 | some x=>
  rw[e]at h;simp at h ⊢;omega
def Vc{X:Cx}(a:X.calm=true):QX X (.builtin "sum") (λxs H Q=>∃(p:Addr) (ns:List Nat),xs=[.ref p]/\SqL X.K H p (ns.map λn=>V.int ((n:Nat):Int))/\ns.sum < 2^62/\Q (.int (ns.sum:Nat)) H):=by
 intro _ s _ H xs _ Q I c h;obtain⟨p,ns,rfl,j,_,q⟩:=h;obtain⟨u,rfl,d⟩:=Q9 c;cases d;obtain⟨c,d,g,_⟩:=I.list j;have l:p < s.heap.objs.size:=by
  obtain⟨j,n,e,_⟩:=g;exact tK e
 have m:c.toArray.size=ns.length:=by
  have:=d.length;rw[ta]at this;simp only[tU];omega
 have o:X.A.in1.handled=none:=I.ok.hd a;refine call_sum_walk (wpAny_pyIter_list g.isList ?_);refine⟨s.heap.objs.size,[s.heap.objs.size,p],[s.heap.objs.size],c.toArray.size,λi v=>c.toArray[i]?=some v,_,λa=>((ns.getD a 0:Nat):Int),rfl,Walks.list o s.heap.objs.size p (tW l) c.toArray,
  ⟨⟨_,tR _ rfl,rfl,rfl⟩,g.isList.at λj e=>tj _ e⟩,?_,?_,?_,λo tk _ r=>?_⟩
 ·intro b g;show b < (s.heap.push _).objs.size;rw[zaX];simp only[tI,zcs,or_false]at g;rcases g with e | e
  ·rw[e];exact zaG _
  ·rw[e];exact zch l
 ·intro i v l;have g:c[i]?=some v:=by simpa using l
  cases e:ns[i]? with
  | none=>
   exfalso;have c:(ns.map λn=>V.int ((n:Nat):Int))[i]?=none:=by rw[tp,e];rfl
   rw[qI.none_of d c]at g;cases g
  | some b=>
   have c:(ns.map λn=>V.int ((n:Nat):Int))[i]?=some (V.int b):=by rw[tp,e];rfl
   obtain⟨u,hu,l⟩:=d.get c;rw[g]at hu;cases hu;obtain⟨t,rfl⟩:=l;refine⟨t,?_⟩;show Value.int b t=.int ((ns.getD i 0:Nat):Int) t;rw[zah,e];rfl
 ·intro a d;rw[m]at d;have c:=vk ns a;have c:=Yy ns (a+1);have c:=Zj ns (a+1) d;refine⟨⟨?_,?_⟩,⟨?_,?_⟩⟩
  ·show -(2^63)<=((ns.getD a 0:Nat):Int);omega
  ·show ((ns.getD a 0:Nat):Int) < 2^63;omega
  ·rw[c];omega
  ·rw[c];omega
 ·rw[m,Zj ns _ (tc _),tu (tc _)];refine⟨.int (ns.sum:Nat),H,?_,⟨_,rfl⟩,q⟩;exact I.kept (h':=o) (t':=tk) λb j e=>r b j (by
   intro z;have a:b=s.heap.objs.size:=by simpa using z
   exact absurd (tK e) (by rw[a];exact zal _)) (tj _ e)
open PySem PySem.Spec
open PyProof.Rows hiding K lo
open PySem PySem.Spec
open PyProof.Rows hiding K lo
open PySem PySem.Spec
open PyProof.Rows hiding K lo
open PySem PySem.Spec
open PyProof.Rows hiding K lo
open PySem PySem.Spec
open PyProof.Rows hiding K lo
def V4(c:wX)(X:Cx)(E:St->XK):Prop:=∀(d:List (Addr×Obj)) (a:St) (H:Hp) (s:Shared) (e:Value) (b:Shared),qw X d a H s->c X.stack H s (E a) e b->X.xe e b
def QT.s(h:QT a X E):V4 a X λ_=>E:=h
def Nu{X:Cx}(F:qp X.prog X.w X.K X.mg X.base d k f e ps sp)(hr:je k X.A)(g:jN X.K e ps a)(hd:qI c a)(i:V4 d X E)(I:qw X a_ b H s)(r:qI vs us)(h:sp (vs++c) H Q (E b)):wpAny (model X.prog X.w) X.A (call (.ref f) us) (EP X a_ b Q) X.xe s:=by
 have d:qI (vs++c) (us++a):=r.append hd;have e:(us++a).length=ps.length:=d.length.symm.trans (F.len _ _ _ _ h);have run:=F.run X.A X.stack s H ⟨us,[]⟩ (us++a) (vs++c) Q (E b) hr I.env0 (g s us I.kIn e) d h;refine wpAny_call (codeAny_mono run λz a q=>?_)
 match z,q with
 | .error y,q=>exact i a_ b H s y a I q
 | .ok (.ret u),q=>exact I.after q
open PySem PySem.Spec
open PyProof.Rows hiding K lo
def Rf{Q:Value->Shared->Prop}(I:qw X a_ d H s)(e:H a=some (.dK kvs))(g:H b=some (.dK more))(i:a≠b)(hz:kvs.length+more.length<=zdZ)(h:∀c,qw X a_ d (upd H a (.dK (QB kvs more))) c->Q .none c):
  wpAny (model X.prog X.w) A (call (.builtin "dict.update") [.ref a,.ref b]) Q E s:=by
 obtain⟨z,hd,j,e9,c⟩:=y7 I.hok e;obtain⟨_,l,m,d,o⟩:=y7 I.hok g;refine call_meetsIn zcV c.typeIs PySem.F.entry_dict_update (PySem.F.args_dict_update_2 _ _) (meets_dict_update (js X.prog X.w) a b i l) ⟨j,m,c,o,by rw[<-e9.length,<-d.length];exact hz,λg c _ i=>h _ ?_⟩;have j:∃q,g.get? a=some q:=let ⟨q,_,_,l,_⟩:=c;⟨q,l⟩;exact Xf (t':=s.toks) I (by rw[e];exact True.intro) i j (kB (tS (Jx more kvs) hz) hd (d.merge e9) c)
inductive ul(ty:TE)(σ:St)(Q:VK)(x:V)(H1:Hp):Prop
 | mk (a:_):x=.ref a->HB H1 a->(ty σ H1 λy H2=>∃b kvs more,y=.ref b/\H2 a=some (.dK kvs)/\H2 b=some (.dK more)/\a≠b/\kvs.length+more.length<=zdZ/\Q .non (upd H2 a (.dK (QB kvs more))))->ul ty σ Q x H1
def Db(b ty:TE):TE:=λa H Q=>b a H λx b=>ul ty a Q x b
def Mn(c:JE X o i)(g:JE X e ty)(m:M1 X o "update" c_ e j):JE X (.Call (.Attribute o "update" c_) [e] [] j) (Db i ty):=.of (by
 have c:=c.to;have g:=g.to;intro i s j H Q I h;refine wpAny_Call_method m.base m.few m.line zda zcV PySem.F.type_dict_update (jg (c i s j H _ I h) λu l ⟨x,p,c,q,a,r,d,v⟩=>?_);subst r;obtain rfl:u=Value.ref a:=q;obtain⟨q,r,_⟩:=Gw c d;refine⟨q,r,?_⟩;rw[m.trees];refine Calls.callWith_builtin rfl (Calls.evalArgs_plain (Calls.spliced_cons (jg (g i l j p _ c v) λc _ ⟨y,_,g,i,b,_,more,j,l,p,q,r,v⟩=>Calls.spliced_nil ?_)));subst j;obtain rfl:c=Value.ref b:=i;exact Rf g l p q r λ_ c=>⟨.non,_,c,rfl,v⟩)
def Hh{us:List Value}(h:us.length=0):us=[]:=zao h
def Gb{us:List Value}(h:us.length=n+1):∃a r,us=a::r/\r.length=n:=by
 cases us with
 | nil=>cases h
 | cons a r=>exact⟨a,r,rfl,zdb.inj h⟩
def kl{us:List Value}(h:us.length=1):∃a,us=[a]:=by
 obtain⟨a,_,rfl,b⟩:=Gb h;exact⟨a,by rw[Hh b]⟩
def kj{us:List Value}(h:us.length=2):∃a b,us=[a,b]:=by
 obtain⟨a,_,rfl,c⟩:=Gb h;obtain⟨b,rfl⟩:=kl c;exact⟨a,b,rfl⟩
def Mb{us:List Value}(h:us.length=3):∃a b c,us=[a,b,c]:=by
 obtain⟨a,_,rfl,d⟩:=Gb h;obtain⟨b,c,rfl⟩:=kj d;exact⟨a,b,c,rfl⟩
def B6{us:List Value}(h:us.length=4):∃a b c d,us=[a,b,c,d]:=by
 obtain⟨a,_,rfl,e⟩:=Gb h;obtain⟨b,c,d,rfl⟩:=Mb e;exact⟨a,b,c,d,rfl⟩
def Eh{us:List Value}(h:us.length=5):∃a b c d e,us=[a,b,c,d,e]:=by
 obtain⟨a,_,rfl,g⟩:=Gb h;obtain⟨b,c,d,e,rfl⟩:=B6 g;exact⟨a,b,c,d,e,rfl⟩
open PySem PySem.Spec
open PyProof.Rows hiding K lo
end L2
namespace PySem
open PySem.Spec
namespace F
end F
section
variable{prog:Program}{w:World}{A:Around}{R:Result->Shared->Prop}{I:Addr}{fp wr:List Addr}{n:Nat}{P:Nat->Value->Prop}{St:Nat->Heap->Prop}{κ:Type}[DecidableEq κ]{knd:KeyKind prog w κ}
end
section
variable{prog:Program}{w:World}{A:Around}{E:Value->Shared->Prop}{s:Shared}{κ:Type}[DecidableEq κ]{knd:KeyKind prog w κ}
end
end PySem
namespace L2
open PySem PySem.Spec
open PyProof.Rows hiding K lo
open PySem PySem.Spec PySem.W
open PyProof.Rows hiding K lo
def K2{α:Type}{l:List α}(nd:l.Nodup){a:i < l.length}{b:j < l.length}(e:l[i]=l[j]):i=j:=by
 have h:=zaw.mp nd;rcases zan i j with c | c | c
 ·exact absurd e (h i j a b c)
 ·exact c
 ·exact absurd e.symm (h j i b a c)
open PySem PySem.Spec PySem.W
open PyProof.Rows hiding K lo
inductive yM(K:zdU)(x:V)(xs:List V)(H:Hp)(Q:VK):Prop
 | mk (a:Addr) (zs:List Str) (z:Str) (j:Nat):x=.ref a->xs=[.str z]->(SqL K H a (zs.map V.str))->zs[j]?=some z->((∀i,i < j->zs[i]?≠some z))->(Q (.int (j:Nat)) H)->yM K x xs H Q
def By(K:zdU):V->List V->Hp->VK->Prop:=λx a H Q=>yM K x a H Q
def U9:CF X "list.index" (By X.K):=by
 intro _ s _ H x _ v _ Q I d g h;obtain⟨a,b,z,l,rfl,rfl,r,o,B,q⟩:=h;cases d;obtain⟨u,rfl,d⟩:=Q9 g;obtain⟨t,rfl⟩:=d;obtain⟨j,p,C,D⟩:=I.list r;have ln:j.length=b.length:=by
  have:=p.length;rw[ta]at this;exact this.symm
 have d:l < b.length:=(td.mp o).1;have str:∀i (g:i < j.toArray.size),∃d,j.toArray[i]=.str (b[i]'(by simp at g;omega)) d:=λi g=>by
  have r:i < b.length:=by simp at g;omega
  have J:(b.map V.str)[i]?=some (V.str b[i]):=by rw[tp,th r];rfl
  obtain⟨r,L,d,e⟩:=p.get J;refine⟨d,?_⟩;have:j.toArray[i]?=some r:=by simpa using L
  rw[zbO g]at this;exact(tz.inj this).trans e
 obtain⟨⟨cls,J,data,L⟩,p,r,n,hd⟩:=id C.isList;simp only at r hd;subst r hd;have r:b.length<=zdZ:=by rwa [ta]at D
 refine call_meets zbZ ⟨_,p,rfl⟩ PySem.F.entry_list_index (PySem.F.args_list_index_2 _ _) (SeqAt.list_indexAt a j.toArray n J L (.str z t) (λy=>match y with | .str x _=>x==z | _=>false) l (by simp;omega) (by rw[sizeLine_eq]at r;omega) ?_ ?_) ⟨p,λy j=>?_,⟨.int _,H,I.tok _,⟨_,rfl⟩,q⟩⟩
 ·obtain⟨d,e⟩:=str l (by simp;omega);rw[e,(td.mp o).2];exact beq_self_eq_true z
 ·intro m b lt;obtain⟨d,e⟩:=str m b;rw[e];refine beq_eq_false_iff_ne.mpr λc=>B m lt ?_;rw[th (by simp at b;omega),c]
 ·obtain⟨i,g,rfl⟩:=Array.mem_iff_getElem.mp j;obtain⟨d,e⟩:=str i g;rw[e];exact SeqAt.EqAt.str_str _ d z t
open PySem PySem.Spec PySem.W
open PyProof.Rows hiding K lo
open PySem PySem.Spec PySem.W
open PyProof.Rows hiding K lo
open PySem
open PyProof.Rows hiding K lo
def Jn{α:Type}{K:zdU}{a D:Addr}{xs:List α}{enc:α->V}{out:α->Option V}{rest:St}{H:Hp}{tt:TT}{te:TE}{Q:Hp->Prop}(o:H D=none)(g:H a=some (.lst (xs.map enc)))(len:xs.length < zdZ)
  (r:∀x∈xs,∀G,qi H G->∀R:Bool->Hp->Prop,(∀d,qi G d->R (out x).isSome d)->tt (some (enc x)::rest) G R)
  (u:∀x∈xs,∀v,out x=some v->∀G,qi H G->∀R:V->Hp->Prop,(∀d,qi G d->R v d)->te (some (enc x)::rest) G R)
  (k:∀G,qi H G->G D=some (.lst (xs.filterMap out))->Q G):Wh (AV K a) (QW 0) tt te D (none::rest) H Q:=by
 have d:qi H (upd H D (.lst [])):=λb m h=>by
  rw[qg (λe=>by rw[e,o]at h;cases h)];exact h
 refine jC (K:=K) (a:=a) (xs:=xs.map enc) (λi j G=>(∃v0,j=v0::rest)/\qi H G/\G D=some (.lst ((xs.take i).filterMap out))) ⟨⟨none,rfl⟩,d,qa⟩ (λi j G _ ⟨_,s,_⟩=>.of (s _ _ g)) ?_ ?_
 ·rintro i y j G d ⟨⟨v0,rfl⟩,s,g⟩;rw[tp]at d;cases l:xs[i]? with
  | none=>rw[l]at d;cases d
  | some x=>
   rw[l]at d;obtain rfl:=(tz.inj d).symm;have p:x∈xs:=tL l;have q:(xs.take (i+1)).filterMap out=(xs.take i).filterMap out++(out x).toList:=by
    rw[tM,l,zab];cases c:out x<;>simp [c]
   show tt (some (enc x)::rest) G _;refine r x p G s _ λl d=>?_;cases c:out x with
   | none=>
    show if false=true then _ else _
    rw[if_neg tH];refine⟨⟨_,rfl⟩,λb m h=>d _ _ (s _ _ h),?_⟩;rw[q,c];simpa using d _ _ g
   | some v=>
    show if true=true then _ else _
    rw[if_pos rfl];refine u x p v c l (λb m h=>d _ _ (s _ _ h)) _ λ_ l=>?_;refine⟨_,l _ _ (d _ _ g),?_,⟨_,rfl⟩,?_,?_⟩
    ·refine zat (zaN _ _) ?_;rw[tJ];omega
    ·intro b m h;rw[qg (λe=>by rw[e,o]at h;cases h)];exact l _ _ (d _ _ (s _ _ h))
    ·rw[q,c];exact qa
 ·rintro j G ⟨_,s,g⟩;rw[ta,tu (tc _)]at g;exact k G s g
open PySem
open PyProof.Rows hiding K lo
section
variable{prog:Program}{w:World}{KK:Type}[DecidableEq KK]{kd:HeapKind prog w KK}{A:Around}{E:Value->Shared->Prop}{s:Shared}
end
open PySem
open PyProof.Rows hiding K lo
open PyProof.Rows hiding K lo
def G8(o:Obj):Nat:=match o.data with
 | .dict _ a=>a
 | _=>0
def qw.freeze(I:qw X a_ c H s)(e:H a=some (.dK kvs)):∃o,qw X a_ c (upd H a (.frz o (.dK kvs))) s:=by
 obtain⟨z,hd,g,e9,o,i,j,c,l⟩:=(show qQ X.prog X.w H s.heap a (.dK kvs) from I.hok a _ e);have d:CV (H a):=by rw[e];exact True.intro
 have un:Un X.fs [] H (upd H a (.frz o (.dK kvs))) s.heap s.heap:=Un.write d (.inl rfl) (λb u _ q=>q) ⟨o,c⟩;have ok:ZS X.prog X.w (upd H a (.frz o (.dK kvs))) s.heap:=I.hok.write d (.inl rfl) (λb u _ q=>q) ⟨o,c⟩ ⟨c,z,hd,g,e9,o,i,j,c,l⟩;exact⟨o,I.un (t':=s.toks) un ok⟩
inductive MY(Q:VK)(x:V)(H1:Hp):Prop
 | mk (a:_) (kvs:_):x=.ref a->H1 a=some (.dK kvs)->(∀o,Q x (upd H1 a (.frz o (.dK kvs))))->MY Q x H1
def Fi(te:TE):TE:=λa H Q=>te a H λx a=>MY Q x a
def Cj(h:JE X e te):JE X e (Fi te):=.of (by
 have h:=h.to;intro b s c H Q I d;refine jg (h b s c H _ I d) λv _ ⟨x,_,b,c,a,_,_,d,q⟩=>?_;obtain⟨g,i⟩:=b.freeze d;exact⟨x,_,i,c,q g⟩)
def EL(a:Addr)(o:Obj)(kvs:List (qT×V))(zs:List Str):It:=
 ⟨λi H=>H a=some (.frz o (.dK kvs))/\i < zs.length,λi H x b=>b=H/\∃z,zs[i]?=some z/\x=.str z,λi H=>H a=some (.frz o (.dK kvs))/\i=zs.length⟩
def ky(ok:ZS P w H h)(e:H a=some (.frz o (.dK kvs))):(a==sysModules)=false/\∃vs,KV kvs vs/\h.DictAt (js P w) a vs (G8 o):=by
 obtain⟨b,z,hd,vs,e9,_,d,_,c,g,i,j⟩:=(show qQ P w H h a (.frz o (.dK kvs)) from ok a _ e);rw[b]at c;cases c;refine⟨hd,vs,e9,o,d,b,g,?_,j⟩;unfold G8;rw[i]
def Mf{P:Program}{w:World}{kvs:List (qT×V)}{vs:List (qT×Value)}{zs:List Str}(e9:KV kvs vs)(b:kvs.map (·.1)=zs.map Sum.inr){i:Nat}{z:Str}{k:qT}{y v:Value}(d:zs[i]?=some z)(f1:vs[i]?=some (k,y))(f2:(js P w).is k v=true):qM (.str z) v:=by
 have e:i < kvs.length:=by
  have a:=(td.mp d).1;have g:kvs.length=zs.length:=by simpa using congrArg zad b
  omega
 obtain⟨_,g1,g2,_⟩:=Z6 e9 (th e);rw[f1]at g1;cases g1;have a:(kvs.map (·.1))[i]?=some kvs[i].1:=by rw[tp,th e];rfl
 rw[b,tp,d]at a;have b:k=Sum.inr z:=g2.symm.trans (tz.inj a).symm;subst b;rcases jz (show XP (Sum.inr z) v=true from f2) with ⟨_,_,c,_⟩ | ⟨a,t,c,rfl⟩
 ·cases c
 ·cases c;exact⟨t,rfl⟩
def xx(a it:Addr)(o:Obj)(kvs:List (qT×V))(zs:List Str)(u:kvs.map (·.1)=zs.map Sum.inr):vx P w K g (EL a o kvs zs) [it] it (λi h=>h.IsKeyIter it a i zs.length (G8 o)) where
 mem:=by simp
 obj:=λi h st b g=>by
  have e:b=it:=by simpa using g
  subst e;obtain⟨o,e,c,d⟩:=st;exact⟨o,e,λv z=>by rw[d]at z;cases z⟩
 keep:=λi h p st k=>let ⟨o,e,j⟩:=st;⟨o,k it (by simp) o e,j⟩
 item:=by
  intro X x B C D i aa s σ H E I q st J;subst x B C;obtain⟨l,f1,f2,L,O,Q⟩:=q it (by simp);obtain⟨j,r⟩:=J;obtain⟨_,m,e9,T⟩:=ky I.hok j;have lv:m.length=zs.length:=by
   have U:kvs.length=zs.length:=by simpa using congrArg zad u
   rw[<-Paired.length e9,U]
  have ne:a≠it:=λe=>by rw[e,l]at j;cases j
  rw[<-lv]at st;refine(Walks.dictKeys (I.ok.hd D) it a ne m (G8 o)).item i s _ _ (by omega) ⟨st,T⟩ λv p tk hv ab Y=>?_;have I1:qw X aa σ H {s with heap:=p,toks:=tk}:=I.turned (λb o g e=>Y b o (by simpa using g) e) l f1 L O Q;obtain⟨k,y,g1,g2⟩:=hv;obtain⟨_,e2,c2,d2⟩:=id ab.1;refine⟨_,rfl,vi (s:={s with heap:=p,toks:=tk}) e2 c2 d2 (by decide) ⟨.str zs[i],H,I1,Mf e9 u (th r) g1 g2,⟨rfl,_,th r,rfl⟩,?_,λb g=>(q b g).1⟩⟩;rw[<-lv];exact ab.1
 done:=by
  intro X x B C D i aa s σ H E I q st J;subst x B C;obtain⟨l,f1,f2,L,O,Q⟩:=q it (by simp);obtain⟨j,r⟩:=J;obtain⟨_,m,e9,T⟩:=ky I.hok j;have lv:m.length=zs.length:=by
   have U:kvs.length=zs.length:=by simpa using congrArg zad u
   rw[<-Paired.length e9,U]
  have ne:a≠it:=λe=>by rw[e,l]at j;cases j
  subst r;rw[<-lv]at st;exact(Walks.dictKeys (I.ok.hd D) it a ne m (G8 o)).done s _ _ ⟨st,T⟩ λp tk Y=>⟨rfl,I.turned (λb o g e=>Y b o (by simpa using g) e) l f1 L O Q⟩
 self:=λ_ _ _ _ _ st h=>wpAny_pyIter_keyiter st h
inductive AM(R:It->Hp->Prop)(x:V)(H1:Hp):Prop
 | mk (a:_) (o:_) (kvs:_) (zs:_):x=.ref a->H1 a=some (.frz o (.dK kvs))->kvs.map (·.1)=zs.map Sum.inr->(R (EL a o kvs zs) H1)->AM R x H1
def Hn(a:TE):TI:=λb H R=>a b H λx a=>AM R x a
def Cg(c:JE X l d):JI X g l (Hn d):=.of (by
 have c:=c.to;intro d s g H R I h;refine jg (c d s g H _ I h) λv c ⟨x,o,d,p,r⟩=>?_;obtain⟨a,i,j,g,e,u,m,q⟩:=r;subst e;cases p;obtain⟨hd,p,e9,r⟩:=ky d.hok u;have lv:p.length=g.length:=by
  have p:j.length=g.length:=by simpa using congrArg zad m
  rw[<-Paired.length e9,p]
 refine wpAny_pyIter_dict hd r ?_;refine⟨c.heap.objs.size,[c.heap.objs.size],_,_,o,rfl,d.kept (t':=c.toks) λb i e=>tj _ e,xx a _ i j g m,?_,λb g=>?_,q⟩
 ·rw[<-lv];exact⟨_,tR _ rfl,rfl,rfl⟩
 ·have e:b=c.heap.objs.size:=by simpa using g
  subst e;exact d.fpOk (tc _) (d.hok.fresh (tc _)))
def Mv{a:Addr}{o:Obj}{kvs:List (qT×V)}{zs:List Str}{g:TG}{b:St}{H:Hp}{tb:TS}{D:JD}(Pv:Nat->St->Hp->Prop)(r:Pv 0 b H)(u:∀i b H,i<=zs.length->Pv i b H->H a=some (.frz o (.dK kvs)))
  (hs:∀i z b H,zs[i]?=some z->Pv i b H->g (.str z) b H λd j=>tb {D with nx:=Pv (i+1),ct:=Pv (i+1),bk:=D.nx} d j) (hd:∀b H,Pv zs.length b H->D.nx b H):
  ∃W:Nat->Nat->St->Hp->Prop,(∃m,W 0 m b H)/\∀i m b H,W i m b H->
   ((EL a o kvs zs).stop i H/\D.nx b H)\/((EL a o kvs zs).go i H/\∃N:St->Hp->Prop,(∀l c,N l c->∃p,p < m/\W (i+1) p l c)/\∀x c,(EL a o kvs zs).yld i H x c->g x b c λd j=>tb {D with nx:=N,ct:=N,bk:=D.nx} d j):=by
 refine⟨λi m b H=>m=zs.length - i/\i<=zs.length/\Pv i b H,⟨zs.length,by simp,zac _,r⟩,?_⟩;rintro i m b H ⟨rfl,j,d⟩;have q:=u i b H j d;by_cases j:i < zs.length
 ·refine .inr ⟨⟨q,j⟩,Pv (i+1),λl c l=>⟨zs.length - (i+1),by omega,rfl,j,l⟩,λx c y=>?_⟩;obtain⟨e,z,c,rfl⟩:=y;subst e;exact hs i z b _ c d
 ·have e:i=zs.length:=by omega
  subst e;exact .inl ⟨⟨q,rfl⟩,hd b H d⟩
open PyProof.Rows hiding K lo
open PyProof.Rows hiding K lo
inductive Ax(K:zdU)(fH:Bool)(x:V)(y:V)(H:Hp)(Q:VK):Prop
 | mk (d:_) (ds:_):DV K H x d->(DV K H y (.list ds))->d.canLay0=true->PyData.canLayAll0 ds=true->(d.depth<=40)->(Q (.bl (if fH then !(ds.any λz=>PyData.eqv z d) else ds.any λz=>PyData.eqv z d)) H)->Ax K fH x y H Q
def DT(K:zdU)(fH:Bool):R2:=λx y H Q=>Ax K fH x y H Q
def BE{X:Cx}(hu:X.A.units+64 < cLine):ZP X (compareOp .In) (DT X.K false):=by
 intro _ s _ H x y v u Q I a b h;obtain⟨d,c,e,g,i,j,_,q⟩:=h;obtain⟨as,l⟩:=e.reads I a;obtain⟨bs,a⟩:=g.reads I b;refine SeqAt.in_list_reads a l j i ?_ ⟨.bl _,H,I,rfl,q⟩;have:=zbh (PyData.depthAll c) d.depth;omega
def xU{X:Cx}(hu:X.A.units+64 < cLine):ZP X (compareOp .NotIn) (DT X.K true):=by
 intro _ s _ H x y v u Q I a b h;obtain⟨d,c,e,g,i,j,_,q⟩:=h;obtain⟨as,l⟩:=e.reads I a;obtain⟨bs,a⟩:=g.reads I b;refine SeqAt.notIn_list_reads a l j i ?_ ⟨.bl _,H,I,rfl,q⟩;have:=zbh (PyData.depthAll c) d.depth;omega
open PyProof.Rows hiding K lo
open PyProof.Rows hiding K lo
open PySem
open PyProof.Rows hiding K lo
end L2
namespace HT
open PySem PySem.Spec
open PyProof.Rows hiding K lo
end HT
namespace L2
open PySem PySem.Spec
open PyProof.Rows hiding K lo
open PySem
open PyProof.Rows hiding K lo
open PyProof.Rows hiding K lo
open PyProof.Rows hiding K lo
open PyProof.Rows hiding K lo
open PyProof.Rows hiding K lo
open PyProof.Rows hiding K lo
open PyProof.Rows hiding K lo
open PySem PySem.Spec PySem.W
open PyProof.Rows hiding K lo
open PyProof.Rows hiding K lo
open PySem PySem.Spec PySem.W
open PyProof.Rows hiding K lo
open PyProof.Rows hiding K lo
open PyProof.Rows hiding K lo
open PySem PySem.Spec PySem.W
open PyProof.Rows hiding K lo
open PyProof.Rows hiding K lo
section
variable{prog:Program}{w:World}{KK:Type}[DecidableEq KK]{kd:HeapKind prog w KK}{A:Around}{E:Value->Shared->Prop}{s:Shared}
end
open PyProof.Rows hiding K lo
open PyProof.Rows hiding K lo
open PyProof.Rows hiding K lo
open PyProof.Rows hiding K lo
open PyProof.Rows hiding K lo
open PyProof.Rows hiding K lo
open PyProof.Rows hiding K lo
abbrev Z9(o:Obj):HO:=.frz o (.frz o (.own 0))
inductive kJ(q:Str)(oc:Obj):Prop
 | mk (vs:Array Value) (t:Tok):oc.data=.fields vs->vs[1]?=some (.str q t)->kJ q oc
structure Yw(mg:Str->Option Value)(base:Heap)(c P:Addr):Prop where
 code:PySem.W.CodeHd base c P
 blt:base.BuiltinsAt mg P
abbrev Cx.shut(X:Cx):Cx:={X with fn:=λ_=>false}
def V0(l:List Value)(h:TriplesOk l)(e:codeAmong pos (l++[rawInt a,rawInt b,c])=some g):codeAmong pos l=some g\/g=c:=by
 fun_induction TriplesOk l with
 | case1=>
  simp only[List.nil_append,codeAmong,rawInt]at e;split at e
  ·exact .inr (tz.inj e).symm
  ·cases e
 | case2 a t b u x rest i=>
  simp only[zcr,codeAmong]at e ⊢;split at e
  ·rename_i d;rw[if_pos d];exact .inl e
  ·rename_i d;rw[if_neg d];exact i h e
 | case3 l j m=>exact h.elim
def Cx.Ok.shut{X:Cx}(o:X.Ok):X.shut.Ok:=⟨o.mod,o.kind,o.glob,o.blt,o.above,o.inj,o.has,λ_ _ z=>zdd z,o.hd,o.frames,o.stk,o.exf,o.bs,o.bsz,o.noex,o.exfs,o.funs,o.frf⟩
def Jz(cs:Addr->Option Obj)(H:Hp):Hp:=λb=>match cs b with
 | some a=>some (Z9 a)
 | none=>H b
def Jm{H:Hp}{cs:Addr->Option Obj}(a:∀b o,cs b=some o->H b=none){b:Addr}(e:H b=some u):Jz cs H b=some u:=by
 unfold Jz;cases q:cs b with
 | none=>exact e
 | some o=>rw[a b o q]at e;cases e
def Zr{cs:Addr->Option Obj}(n:∀o,cs b≠some o):Jz cs H b=H b:=by
 unfold Jz;cases q:cs b with
 | none=>rfl
 | some o=>exact absurd q (n o)
def zU{cs:Addr->Option Obj}(e:cs b=some o):Jz cs H b=some (Z9 o):=by unfold Jz;rw[e]
def qw.catchN(I:qw X a_ c H s){cs:Addr->Option Obj}(a:∀b o,cs b=some o->∃x v,X.env.cells.lookup x=some b/\X.fn x=true/\s.heap.get? b=some o/\o.data=.cell v):∀b o,cs b=some o->H b=none:=λb o e=>by
 obtain⟨x,v,c,d,_⟩:=a b o e;rcases I.freeC x b c with q | ⟨q,_⟩
 ·exact q
 ·rw[d]at q;cases q
def qw.catch(I:qw X a_ a H s)(cs:Addr->Option Obj)(g:∀b o,cs b=some o->∃x v,X.env.cells.lookup x=some b/\X.fn x=true/\s.heap.get? b=some o/\o.data=.cell v):qw X.shut a_ a (Jz cs H) s:=by
 have a:=I.catchN g;have same:∀{b:Addr} {u:HO},H b=some u->Jz cs H b=some u:=λe=>Jm a e;refine⟨I.ok.shut,I.os,I.bare,⟨I.base.keep,I.base.slot,λb o e n a=>?_,I.base.there,λb i e=>same (I.base.tups b i e),λb o u e=>same (I.base.frzs b o u e),λb p e=>?_⟩,I.loc,I.cell,?_,λx c e=>?_,λr y=>?_,λb u e=>?_,I.len⟩
 ·rw[Zr λi q=>?_]
  ·exact I.base.free b o e n a
  ·obtain⟨x,v,j,l,_⟩:=g b i q;exact absurd (tN (tK e) (I.ok.cab x b l j)) (zal _)
 ·obtain⟨m,q⟩:=I.base.tbls b p e;exact⟨m,same q⟩
 ·show Jz cs H X.env.locals=none;rw[Zr λi q=>?_]
  ·exact I.free
  ·obtain⟨x,v,j,_⟩:=g _ i q;exact I.cne x _ j rfl
 ·cases q:cs c with
  | some o=>exact .inr ⟨rfl,o,zU q⟩
  | none=>
   have a:Jz cs H c=H c:=Zr λo z=>by rw[q]at z;cases z
   rw[a];exact(I.freeC x c e).imp id λz=>⟨rfl,z.2⟩
 ·obtain⟨e,n,ne,a,d⟩:=I.pin r y;refine⟨e,?_,ne,a,d⟩;rw[Zr λi q=>?_]
  ·exact n
  ·obtain⟨x,v,j,l,a,p⟩:=g _ i q;rw[e]at a;cases a;exact d v p
 ·cases q:cs b with
  | some o=>
   rw[zU q]at e;cases e;obtain⟨x,v,j,l,a,p⟩:=g b o q;exact⟨a,a,o,a⟩
  | none=>
   rw[Zr λo z=>by rw[q]at z;cases z]at e;exact(I.hok b u e).stay (λ_ _ _ z=>z) (λ_ z=>same z) (λ_ _ z=>same z) (λ_ _ z=>same z)
structure Hy(X:Cx)(σ:St)(H H':Hp)(P:Addr)(name qual:Str)(e7:Arguments)(ff:List Stmt)(scope:Scope)(f c':Addr)(fv pm fx:Value)(oc:Obj):Prop where
 same:qi H H'
 new:H f=none
 fn:H' f=some (Z9 (zcj name qual e7 ff scope (qK X.env scope.names []) fv pm c' fx))
 cd:H' c'=some (.frz oc (.own P))
 cq:kJ qual oc
 cells:∀x,(x,NameKind.free)∈scope.names->∃ca co v,(qK X.env scope.names []).lookup x=some ca/\H' ca=some (Z9 co)/\co.data=.cell v/\∀(i:Nat) (y:V),X.N[i]?=some x->σ[i]?=some (some y)->∃u,v=some u/\qM y u
 inj:∀x y c,(qK X.env scope.names []).lookup x=some c->(qK X.env scope.names []).lookup y=some c->x=y
def PB(X:Cx)(st:List Stmt)(t:TS):Prop:=
 ∀(a:List (Addr×Obj)) (s:Shared) (b:St) (H:Hp) (D:JD),qw X a b H s->t D b H->wpAny (model X.prog X.w) X.A (execs st X.env) (λb c=>∃d,SP {X with fn:=d} a D b c) X.xe s
def AB{X:Cx}{st:List Stmt}{t:TS}(h:JSs X st t):PB X st t:=λa s b H D I q=>jg (h.to a s b H D I q) λ_ _ z=>⟨X.fn,z⟩
def VC{X:Cx}{st:Stmt}{rest:List Stmt}{t u:TS}(b:JS X st t)(c:PB X rest u):PB X (st::rest) (RH t u):=by
 intro a s d H D I h;refine wpAny_execs_cons (jg (b.to a s d H {D with nx:=u D} I h) λf e q=>?_);cases f with
 | next=>
  obtain⟨g,i,j,q⟩:=q;exact c a e g i D j q
 | ret v=>exact⟨X.fn,q⟩
 | brk=>exact⟨X.fn,q⟩
 | cont=>exact⟨X.fn,q⟩
def qw.made_def{pos:Pos}{oc g:Obj}(I:qw X a_ p H s)(l:H P=some (.tbl #[.str qual r]))(L:s.heap.get? P=some (zbr a))(x:TriplesOk a.toList)(cs:∀pos i,codeAmong pos a.toList=some i->∃c oc,i=.ref c/\H c=some (.frz oc (.own P))/\CL #[.str qual r] oc)(y:Heap.ExtBut P s.heap h')(j:s.heap.objs.size<=d)(o:d < h'.objs.size)(C:h'.get? d=some oc)(D:kJ qual oc)(B:h'.get? P=some (zbr (a++#[rawInt pos.line,rawInt pos.col,.ref d])))(J:g.isFreed=false):qw X a_ p (upd (upd H d (.frz oc (.own P))) h'.objs.size (Z9 g)) {s with heap:=h'.push g,toks:=tk}:=by
 have a:H d=none:=I.hok.fresh j;have p:H h'.objs.size=none:=I.hok.fresh (t6 (zat j o));have up:∀{b:Addr} {u:HO},H b=some u->upd (upd H d (.frz oc (.own P))) h'.objs.size (Z9 g) b=some u:=λ{b u} e=>by
  rw[qg (qt e p),qg (qt e a)];exact e
 have p:∀{b:Addr},H b=none->b≠P:=λn z=>by rw[z,l]at n;cases n
 have fh:∀b a,b≠P->s.heap.get? b=some a->(h'.push g).get? b=some a:=λb a n e=>tj _ (y b a n e);have lt:∀{b:Addr} {a:Obj},s.heap.get? b=some a->b≠h'.objs.size/\b≠d:=λe=>⟨tW (zdL (tN (tK e) j) o),tW (tN (tK e) j)⟩;refine I.step (g':=s.gens) (d':=s.drawn) (ch:=[]) (λ_ z=>nomatch z) (λb a _ _ _ e n=>fh b a (p n) e) (λb a _ _ _ e n=>⟨a.slots,fh b a (p n) e⟩) (λb a _ e n=>?_) (λb a _ e=>?_) (λb _ e=>up e) (λb a u e=>up e) (λb _ e=>⟨#[],by rw[up e];simp⟩) (λm j=>(j.extBut y (p I.free)).push _) (λb u e=>?_) I.bare
 ·rw[qg (lt e).1,qg (lt e).2];exact n
 ·rcases Decidable.em (b=P) with z | z
  ·rw[z];exact⟨_,tj _ B⟩
  ·exact⟨a,fh b a z e⟩
 ·rcases Decidable.em (b=h'.objs.size) with z | z
  ·subst z;rw[qa]at e;cases e;have:=tR h' J;exact⟨this,this,_,this⟩
  rw[qg z]at e;rcases Decidable.em (b=d) with a | a
  ·subst a;rw[qa]at e;cases e;have:=tj g C;exact⟨this,_,this⟩
  rw[qg a]at e;rcases Decidable.em (b=P) with a | a
  ·subst a;rw[l]at e;cases e;refine⟨_,tj _ B,?_,λg i q=>?_⟩
   ·rw[zbR];exact TriplesOk_snoc _ _ _ _ x
   ·rw[zbR]at q;rcases V0 _ x q with q | q
    ·obtain⟨c,j,p,x,y⟩:=cs g i q;exact⟨c,j,p,up x,y⟩
    ·obtain⟨g,t,i,j⟩:=D;exact⟨d,oc,q,by rw[qg (tW o),qa],qual,r,g,t,rfl,i,j⟩
  ·refine(I.hok b u e).stay (λc v d g=>fh c v ?_ g) (λ_ z=>up z) (λ_ _ z=>up z) (λ_ _ z=>up z);rcases d with z | z
   ·rw[z];exact a
   ·intro a;rw[a,l]at z;cases z
def Fl(X:Cx)(P:Addr)(i:Nat)(name qual:Str)(c:Arguments)(ff:List Stmt)(scope:Scope)(u:TS):TS:=λD a H=>(∃b,H P=some (.tbl #[.str qual b]))/\∀f d e pm g j b,Hy X (a.set i (some (.ref f))) H b P name qual c ff scope f d e pm g j->u D (a.set i (some (.ref f))) b
open Classical in
def Kv{X:Cx}{i:Nat}{c P:Addr}{name qual:Str}{e7:Arguments}{ff rest:List Stmt}{scope:Scope}{pos:Pos}{u:TS}(TM:Yw X.mg X.base c P)(hN:X.N.Nodup)(g9:X.N[i]?=some name)(gn:X.env.scope.names.lookup name=some .local)(fQ:X.env.code=.ref c)(hq:qualnameIn X.env name name=qual)
  (hX:(scope.names.all λx=>x.2 != .free || X.env.scope.names.lookup x.1==some .cell)=true) (hY:∀x,X.fn x=true) (hZ:e7.defaults=[]) (hJ:e7.kw_defaults=[]) (ha:annTrees e7 none X.env=[]) (h2:PB X.shut rest u):
  PB X (.FunctionDef name e7 ff [] none [] scope none name pos::rest) (Fl X P i name qual e7 ff scope u):=by
 intro a_ s σ H D I h;obtain⟨⟨tq,hP⟩,h⟩:=h;obtain⟨ts,eP,tr,cs⟩:=(show qQ X.prog X.w H s.heap P (.tbl #[.str qual tq]) from I.hok P _ hP);refine wpAny_execs_cons (PySem.W.nestDef_K hZ hJ ha ?_);rw[hq];have hg:s.heap.Ns mainGlobals X.mg:=I.ok.mod.glob.keeps I.bk;have CH:=TM.code.keeps I.bk;have hb:s.heap.BuiltinsAt X.mg P:=by
  obtain⟨bm,o,b1,b2,b3,b4,b5,b6⟩:=TM.blt;exact⟨bm,o,b1,b2,b3,b4,I.bk _ _ b5,b6⟩
 have hV:mainGlobals≠P:=λz=>by
  obtain⟨o,es,ep,e,_⟩:=I.ok.mod.glob;have:=(I.bs _ _ e).2;rw[z,hP]at this;cases this
 have gK:∀x,(x,NameKind.free)∈scope.names->X.env.scope.names.lookup x=some .cell:=λx hx=>by
  have:=zag.mp hX _ hx;simpa using this
 have f9:∀x,(x,NameKind.free)∈scope.names->∃c,X.env.cells.lookup x=some c:=λx hx=>I.ok.has x (.inl (gK x hx));have gU:closureFor scope X.env=pure (qK X.env scope.names []):=QK λx hx e=>f9 x.1 (by rw[<-e];exact hx);have ia:∀x,(x,NameKind.free)∈scope.names->∀ca,X.env.cells.lookup x=some ca->(qK X.env scope.names []).lookup x=some ca:=λx hx ca e=>by
  obtain⟨c2,gh⟩:=Jl (env:=X.env) (cs:=[]) (.inl hx);rcases j1 gh with z | ⟨_,z⟩
  ·simp at z
  ·rw[e]at z;rw[gh,z];rfl
 have look:∀x c,(qK X.env scope.names []).lookup x=some c->X.env.cells.lookup x=some c:=λx c e=>by
  rcases j1 e with z | ⟨z1,z2⟩
  ·simp at z
  ·obtain⟨c2,h2⟩:=f9 x z1;rw[h2]at z2;rw[h2,z2];rfl
 have inj:∀x y c,(qK X.env scope.names []).lookup x=some c->(qK X.env scope.names []).lookup y=some c->x=y:=λx y c h1 h2=>I.ok.inj x y c (look x c h1) (look y c h2);have d_:∀{f c':Addr} {fv pm fx:Value} {oc:Obj} {H1:Hp} {s1:Shared},qw X a_ σ H1 s1->qi H H1->H f=none->H1 f=some (Z9 (zcj name qual e7 ff scope (qK X.env scope.names []) fv pm c' fx))->H1 c'=some (.frz oc (.own P))->kJ qual oc->
   wpAny (model X.prog X.w) X.A (storeName X.env name (.ref f)) (λ_ gY=>wpAny (model X.prog X.w) X.A (execs rest X.env) (λfl s'=>∃g,SP {X with fn:=g} a_ D fl s') X.xe gY) X.xe s1:=λ{f c' fv pm fx oc H1 s1} I1 sm nf e1 e2 e3=>by
  refine z7 I1 hN g9 (.inl gn) (v:=.ref f) rfl (λs2 I2 _=>?_) (.inr gn);let cc:Addr->Option Obj:=λb=>if ∃x,(x,NameKind.free)∈scope.names/\X.env.cells.lookup x=some b then s2.heap.get? b else none
  have hc:∀b o,cc b=some o->∃x v,X.env.cells.lookup x=some b/\X.fn x=true/\s2.heap.get? b=some o/\o.data=.cell v:=λb o e=>by
   rcases Classical.em (∃x,(x,NameKind.free)∈scope.names/\X.env.cells.lookup x=some b) with z | z
   ·have e':s2.heap.get? b=some o:=(if_pos z).symm.trans e;obtain⟨x,hx,f'⟩:=z;obtain⟨v,o',ho,hd⟩:=I2.cell x b f';rw[e']at ho;cases ho;exact⟨x,v,f',hY x,e',hd⟩
   ·have:cc b=none:=if_neg z;rw[this]at e;cases e
  have hn:=I2.catchN hc;refine h2 a_ s2 _ _ D (I2.catch cc hc) (h f c' fv pm fx oc _ ⟨λb u e=>Jm hn (sm _ _ e),nf,Jm hn e1,Jm hn e2,e3,λx hx=>?_,inj⟩);obtain⟨ca,gw⟩:=f9 x hx;obtain⟨v,o,ho,hd⟩:=I2.cell x ca gw;have h_:cc ca=some o:=(if_pos ⟨x,hx,gw⟩).trans ho;refine⟨ca,o,v,ia x hx ca gw,zU h_,hd,λj y e1 e2=>?_⟩;obtain⟨m,_,hl⟩:=I2.loc;obtain⟨w',gZ,lk⟩:=hl j x y e1 e2 (.inr (.inl (gK x hx)));rcases lk with ⟨k,_⟩ | ⟨_,c2,ec2,o2,ho2,hd2⟩
  ·have k':X.env.scope.names.lookup x=some .local:=k;rw[gK x hx]at k';cases k'
  ·rw[gw]at ec2;cases ec2;rw[ho]at ho2;cases ho2;rw[hd]at hd2;exact⟨w',Data.cell.inj hd2,gZ⟩
 cases hh:codeAmong pos ts.toList with
 | none=>
  refine PySem.W.makeFunction_K (mg:=X.mg) gU I.ok.glob hg fQ CH eP tr hh hV hb λc' fx fv h' tk hx gJ fM gE g_=>?_;obtain⟨c2,oc,vs,t,e2,gc,hd,hv⟩:=gE;cases e2;have h6:H c'=none:=I.hok.fresh gJ;have gg:H h'.objs.size=none:=I.hok.fresh (t6 (zat gJ fM));refine d_ (I.made_def hP eP tr cs hx gJ fM gc ⟨vs,t,hd,hv⟩ g_ rfl) (λb u e=>?_) gg qa ?_ ⟨vs,t,hd,hv⟩
  ·rw[qg (qt e gg),qg (qt e h6)];exact e
  ·rw[qg (tW fM),qa]
 | some cv=>
  obtain⟨c',oc,rfl,ec,q,t,vs,t',hG,hd,hv⟩:=cs pos cv hh;cases hG;refine PySem.W.makeFunction_hit (mg:=X.mg) gU I.ok.glob hg fQ CH eP tr hh hb λfx fv h' tk hk hsz=>?_;have gg:H h'.objs.size=none:=I.hok.fresh hsz;have e1:(h'.push (zcj name qual e7 ff scope (qK X.env scope.names []) fv ((X.mg "__name__").getD .none) c' fx)).get? h'.objs.size=some (zcj name qual e7 ff scope (qK X.env scope.names []) fv ((X.mg "__name__").getD .none) c' fx):=tR h' rfl;refine d_ (oc:=oc) (I.laid (t':=tk) (o:=Z9 (zcj name qual e7 ff scope (qK X.env scope.names []) fv ((X.mg "__name__").getD .none) c' fx)) (λb o e=>tj _ (hk b o e)) hsz ⟨e1,e1,_,e1⟩) (λb u e=>by rw[qg (qt e gg)];exact e) gg qa ?_ ⟨vs,t',hd,hv⟩;rw[qg (qt ec gg)];exact ec
open PyProof.Rows hiding K lo
def jE.okB{P:Program}{w:World}{K:zdU}{mg:Str->Option Value}{base:Heap}{j:wX}{x qual:Str}{st:Stmt}{f c:Addr}{m:zdY}{N ps:List Str}{k:Nat}{sp:Sp}(F:jE K x qual st f m)(D:m.code=.ref c)(S:qh N ps (qc st))(len:∀vs H Q E,sp vs H Q E->vs.length=ps.length)
  (J:∀(A:Around) (outer:List Env) (s:Shared) (H:Hp) (vs:List V) (Q:VK) (E:XK),je k (A.deeper (envOfC qual (qc st) s.heap.objs.size f (.ref c)))->sp vs H Q E->
   ∃t,PB (zS j P w K mg base N qual (qc st) f (.ref c) A outer s H E) (qX st) t/\t {nx:=λ_ a=>Q .non a,rt:=Q} (jT N vs) H):qp P w K mg base j (k+1) f m ps sp:=by
 obtain⟨oc,od,kV,af,pm,an,L,ct,ag,rfl,lk,O⟩:=F.ex;have T:L=.ref c:=D;subst T;refine⟨len,λA outer s H args U vs Q E hr i Y aa z=>?_⟩;have hl:=len _ _ _ _ z;have B:K.In s.heap:=i.mod.kin.keeps λb o e=>(i.bs b o e).1;have ab:s.heap.NoLimit:=i.mod.nolimit.keeps λb o e=>(i.bs b o e).1;have ac:∀y∈ps.zip U,(qc st).names.lookup y.1=some .local\/((qc st).names.lookup y.1=some .cell/\((cellsFrom (s.heap.objs.size+1) (qc st).names []).lookup y.1).isSome=true):=λ⟨n,v⟩ hy=>by
  rcases S.par n (zbn hy).1 with q | q
  ·exact .inl q
  ·exact .inr ⟨q,zcd _ _ _ (.inl q)⟩
 refine codeAny_call_function hr.depth (B _ _ lk) rfl S.co S.gen rfl (zdD B O) (Y _ _ _ _ ?_);refine wpAny_newFunctionEnv_cells S.kind ac λah he C x=>?_;subst he;refine⟨ab.keeps x.toInCall.keep,codeAny_func ?_⟩;obtain⟨t,ht,hq⟩:=J A outer s H vs Q E (hr.deeper _) z;have I:qw (zS j P w K mg base N qual (qc st) f (.ref c) A outer s H E) [] (jT N vs) H C:=W9 S hr.hd i hl aa x;refine wpAny_mono (ht [] C (jT N vs) H _ I hq) (λfl p d=>?_) λe p d=>d;obtain⟨ae,d⟩:=d;have d_:∀{l:St} {a:Hp} {v:V} {u:Value},qw {zS j P w K mg base N qual (qc st) f (.ref c) A outer s H E with fn:=ae} [] l a p->qM v u->Q v a->CE outer P w H s Q u p:=
  λ{l a v u} g r q=>⟨v,a,g.os,g.bare,g.base,g.hok,r,q⟩
 cases fl with
 | ret u=>
  obtain⟨v,l,a,g,r,q⟩:=d;exact d_ g r q
 | next=>
  obtain⟨l,a,g,q⟩:=d;exact d_ (v:=V.non) (u:=Value.none) g rfl q
 | brk=>
  obtain⟨_,_,_,q⟩:=d;exact False.elim q
 | cont=>
  obtain⟨_,_,_,q⟩:=d;exact False.elim q
structure Zu(N ps fr:List Str)(sc:Scope):Prop where
 kind:sc.kind=.function
 co:sc.isCoroutine=false
 gen:sc.isGenerator=false
 nd:N.Nodup
 pre:N.take (ps++fr).length=ps++fr
 par:∀x∈ps,sc.names.lookup x=some .local
 free:∀x∈fr,sc.names.lookup x=some .free
 frees:∀y∈sc.names,y.2=.free->y.1∈fr
 nocell:∀y∈sc.names,y.2≠.cell
structure wV(H:Hp)(P f:Addr)(name qual:Str)(st:Stmt)(fd:zdY)(ws:List (Str×V)):Prop where
 ex:∃(fv pm fx:Value) (c':Addr) (cl:List (Str×Addr)) (oc:Obj),fd=zcT name qual (jL st) (qX st) (qc st) cl .none .none fv pm none (.ref c') fx/\H f=some (Z9 {cls:=.type "function",data:=.func fd})/\H c'=some (.frz oc (.own P))/\kJ qual oc/\
  (∀x y c,cl.lookup x=some c->cl.lookup y=some c->x=y)/\(∀x c,cl.lookup x=some c->x∈ws.map (·.1))/\
  ∀x v,(x,v)∈ws->∃c o u,cl.lookup x=some c/\H c=some (Z9 o)/\o.data=.cell (some u)/\qM v u
def wV.mono{H g:Hp}{P f:Addr}{name qual:Str}{st:Stmt}{i:zdY}{j:List (Str×V)}(h:wV H P f name qual st i j)(k:∀b o u,H b=some (.frz o u)->g b=some (.frz o u)):wV g P f name qual st i j:=by
 obtain⟨g,pm,i,j,l,m,p,q,r,y,z,B,C⟩:=h.ex;exact⟨g,pm,i,j,l,m,p,k _ _ _ q,k _ _ _ r,y,z,B,λx v g=>let ⟨c,o,u,a,b,d,e⟩:=C x v g;⟨c,o,u,a,k _ _ _ b,d,e⟩⟩
def X3(b:wX)(P:Program)(w:World)(K:zdU)(mg:Str->Option Value)(base:Heap)(N:List Str)(qual:Str)(scope:Scope)(f:Addr)(a:Value)(cl:List (Str×Addr))(A:Around)(outer:List Env)(s:Shared)(H:Hp)(E:XK):Cx where
 prog:=P
 w:=w
 K:=K
 mg:=mg
 base:=base
 A:=A.deeper (zbL qual scope s.heap.objs.size f a cl)
 N:=N
 s₀:=s
 H₀:=H
 env:=zbL qual scope s.heap.objs.size f a cl
 outer:=outer
 stack:=zbL qual scope s.heap.objs.size f a cl::outer
 ex:=[]
 calm:=true
 fn:=λ_=>false
 pn:=[]
 xe:=λe c=>wpAny (model P w) (A.deeper (zbL qual scope s.heap.objs.size f a cl)) (leaving (zbL qual scope s.heap.objs.size f a cl) e) (λ_ a=>b outer H s E e a) (λd a=>b outer H s E d a) c
def XM:∀{ps:List Str} {us:List Value} {i:Nat},ps.Nodup->ps[i]?=some x->us[i]?=some u->(ps.zip us).reverse.lookup x=some u:=by
 intro ps;induction ps with
 | nil=>intro us i _ h;cases h
 | cons c ps e=>
  intro us i a d b;cases us with
  | nil=>cases b
  | cons v us=>
   rw[List.zip_cons_cons,zcR];obtain⟨np,a⟩:=zaa.mp a;cases i with
   | zero=>
    obtain rfl:c=x:=by simpa using d
    obtain rfl:v=u:=by simpa using b
    have:(ps.zip us).reverse.lookup c=none:=by
     rw[zca];intro q c;have:=(zbn (zct.mp c)).1;simp only[beq_eq_false_iff_ne,ne_eq,Bool.not_eq_true,bne_iff_ne];intro z;rw[z]at np;exact np this
    rw[zcJ,this];simp
   | succ i=>
    have:=e a (by simpa using d) (by simpa using b);rw[zcJ,this];rfl
def Rg{P:Program}{w:World}{K:zdU}{mg:Str->Option Value}{base:Heap}{U:wX}{PT f:Addr}{name qual:Str}{st:Stmt}{fd:zdY}{N ps fr:List Str}{k:Nat}{sp:List (Str×V)->Sp}(S:Zu N ps fr (qc st))(len:∀g vs H Q E,sp g vs H Q E->vs.length=ps.length/\g.map (·.1)=fr)
  (af:∀(o:Addr) (cl:List (Str×Addr)) (A:Around) (outer:List Env) (s:Shared) (H:Hp) (g:List (Str×V)) (vs:List V) (Q:VK) (E:XK),je k (A.deeper (zbL qual (qc st) s.heap.objs.size f (.ref o) cl))->sp g vs H Q E->
   ∃t,JSs (X3 U P w K mg base N qual (qc st) f (.ref o) cl A outer s H E) (qX st) t/\t {nx:=λ_ r=>Q .non r,rt:=Q} (jT N (vs++g.map (·.2))) H):
  qp P w K mg base U (k+1) f fd ps (λvs H Q E=>∃g,wV H PT f name qual st fd g/\sp g vs H Q E):=by
 refine⟨λvs H Q E ⟨g,_,h⟩=>(len _ _ _ _ _ h).1,λA outer s H args us vs Q E hr l hb ag ⟨g,ah,ae⟩=>?_⟩;obtain⟨hl,hw⟩:=len _ _ _ _ _ ae;obtain⟨as,pm,au,o,cl,oc,rfl,hf,ai,⟨aj,t',ak,al⟩,inj,am,ab⟩:=ah.ex;have ef:=(show qQ P w H s.heap f (Z9 _) from l.hok f _ hf).1;have ec:=(show qQ P w H s.heap o (.frz oc (.own PT)) from l.hok o _ ai).1;have an:s.heap.NoLimit:=l.mod.nolimit.keeps λb j e=>(l.bs b j e).1;refine codeAny_call_function hr.depth ef rfl S.co S.gen rfl ⟨o,oc,aj,t',rfl,ec,ak,al⟩ (hb _ _ _ _ ?_);refine wpAny_newFunctionEnv S.nocell (λy m=>S.par y.1 (zbn m).1) (λh1 ao ap=>?_) S.kind;have Y:∀b j,s.heap.get? b=some j->h1.get? b=some j:=λb j e=>ap.extBut b j (tW (tK e)) (tj _ e);refine⟨an.keeps Y,codeAny_func ?_⟩;obtain⟨t,ht,hq⟩:=af o cl A outer s H g vs Q E (hr.deeper _) ae;have ac:∀b:Addr,b∉(X3 U P w K mg base N qual (qc st) f (.ref o) cl A outer s H E).ex:=λb z=>absurd (show b∈([]:List Addr) from z) (by simp);have lw:g.length=fr.length:=by have:=congrArg zad hw;simpa using this
 have hN:ps.length+fr.length<=N.length:=by
  have:=congrArg zad S.pre;rw[tJ,tm]at this;omega
 have kn:∀x c,cl.lookup x=some c->∃j u,H c=some (Z9 j)/\j.data=.cell (some u):=λx c e=>by
  obtain⟨⟨y,v⟩,m,rfl⟩:=tl.mp (am x c e);obtain⟨O,j,u,a,b,d,_⟩:=ab y v m;rw[e]at a;cases a;exact⟨j,u,b,d⟩
 have I:qw (X3 U P w K mg base N qual (qc st) f (.ref o) cl A outer s H E) [] (jT N (vs++g.map (·.2))) H {s with heap:=h1,toks:=s.toks+(ps.zip us).length}:=by
  refine⟨⟨l.mod,S.kind,rfl,rfl,tc _,inj,λy m=>?_,λ_ _ z=>zdd z,λ_=>hr.hd,Around.frames_deeper l.frames,.inr ⟨rfl,rfl⟩,λb z=>absurd z (ac b),l.bs,l.bsz,λb _ _=>ac b,λb z=>absurd z (ac b),l.funs,l.frf⟩,
   rfl,l.bare,Un.kept Y,⟨_,ao,λi y v q1 p q3=>?_⟩,λy c h=>?_,l.hok.fresh (tc _),λy c h=>?_,λaq hp=>absurd (show aq∈([]:List (Addr×Obj)) from hp) (by simp),l.hok.kept Y,?_⟩
  ·have m:(qc st).names.lookup y=some .cell\/(qc st).names.lookup y=some .free:=m;rcases m with m | m
   ·exact absurd rfl (S.nocell _ (PySem.mem_of_lookup m))
   ·have:=S.frees _ (PySem.mem_of_lookup m) rfl;rw[<-hw]at this;obtain⟨⟨z,v⟩,hz,ez⟩:=tl.mp this;obtain⟨O,j,u,a,_⟩:=ab z v hz;exact⟨O,by rw[<-show z=y from ez];exact a⟩
  ·have hi:i < (vs++g.map (·.2)).length:=by
    rcases zbd i (vs++g.map (·.2)).length with z | z
    ·exact z
    ·unfold jT at p;rw[tP (by simpa using z),zbY]at p;split at p<;>cases p
   have C:(vs++g.map (·.2))[i]?=some v:=by
    unfold jT at p;rw[tV (by simpa using hi),tp]at p;cases e:(vs++g.map (·.2))[i]? with
    | none=>rw[e]at p;cases p
    | some z=>rw[e]at p;cases p;rfl
   rw[tm,ta]at hi;have D:(ps++fr)[i]?=some y:=by
    rw[<-S.pre,zaT (by rw[tm];omega)];exact q1
   rcases zbd i vs.length with z | z
   ·rw[tV z]at C;rw[tV (by omega)]at D;obtain⟨u,hu,J⟩:=ag.get C;have ar:ps.Nodup:=by
     have:=S.nd.sublist (zce (ps++fr).length N);rw[S.pre]at this;exact(zbI.mp this).1
    exact⟨u,J,.inl ⟨S.par y (tL D),XM ar D hu⟩⟩
   ·rw[tP z,tp]at C;rw[tP (by omega),<-hl]at D;rw[<-hw,tp]at D;cases e:g[i - vs.length]? with
    | none=>rw[e]at C;cases C
    | some L=>
     rw[e]at C D;obtain rfl:L.1=y:=tz.inj D;obtain rfl:L.2=v:=tz.inj C;have hm:L∈g:=tL e;obtain⟨O,j,u,a,b,d,J⟩:=ab L.1 L.2 hm;have fy:(qc st).names.lookup L.1=some .free:=S.free _ (by rw[<-hw];exact tl.mpr ⟨L,hm,rfl⟩);exact⟨u,J,.inr ⟨.inr fy,O,a,j,Y _ _ (show qQ P w H s.heap O (Z9 j) from l.hok O _ b).1,d⟩⟩
  ·obtain⟨j,u,b,d⟩:=kn y c h;exact⟨some u,j,Y _ _ (show qQ P w H s.heap c (Z9 j) from l.hok c _ b).1,d⟩
  ·obtain⟨j,u,b,d⟩:=kn y c h;exact .inr ⟨rfl,j,b⟩
  ·show (jT N (vs++g.map (·.2))).length=N.length;unfold jT;rw[tm,ta,zbE,tm,ta];omega
 refine wpAny_mono (ht.to [] _ (jT N (vs++g.map (·.2))) H _ I hq) (λfl s' T=>?_) λe s' T=>T;have d_:∀{aa:St} {r:Hp} {v:V} {u:Value},qw (X3 U P w K mg base N qual (qc st) f (.ref o) cl A outer s H E) [] aa r s'->qM v u->Q v r->CE outer P w H s Q u s':=
  λ{aa r v u} B J q=>⟨v,r,B.os,B.bare,B.base,B.hok,J,q⟩
 cases fl with
 | ret u=>
  obtain⟨v,aa,r,B,J,q⟩:=T;exact d_ B J q
 | next=>
  obtain⟨aa,r,B,q⟩:=T;exact d_ (v:=V.non) (u:=Value.none) B rfl q
 | brk=>
  obtain⟨_,_,_,q⟩:=T;exact False.elim q
 | cont=>
  obtain⟨_,_,_,q⟩:=T;exact False.elim q
inductive kY(i:Nat)(C:Addr->zdY->Sp->Prop)(E:St->XK)(t:TA)(σ:St)(H:Hp)(Q:VK):Prop
 | mk (f:_) (fd:_) (sp:_):σ[i]?=some (some (.ref f))->C f fd sp->(H f=some (Z9 {cls:=.type "function",data:=.func fd}))->(t σ H λvs H1=>H1 f=some (Z9 {cls:=.type "function",data:=.func fd})/\sp vs H1 Q (E σ))->kY i C E t σ H Q
def A1(i:Nat)(C:Addr->zdY->Sp->Prop)(E:St->XK)(t:TA):TE:=λa H Q=>kY i C E t a H Q
def Gr{X:Cx}{C:Addr->zdY->Sp->Prop}(hN:X.N[i]?=some x)(b:Cz X.env.scope x)(l:∀f a sp,C f a sp->∃(k:Nat) (ps:List Str),qp X.prog X.w X.K X.mg X.base g k f a ps sp/\je k X.A/\jN X.K a ps [])(r:V4 g X E)(d:JA X (e::es) t)(m:(x==("__debug__":Str))=false:=by decide)(o:(x==("__classdict__":Str))=false:=by decide)(y:starEach (e::es) X.env=(false,eval e X.env)::starEach es X.env:=by rfl)(z:(backTo pos (starEach es X.env)).any (·.1)=false:=by rfl):JE X (.Call (.Name x p) (e::es) [] pos) (A1 i C E t):=.of (by
 have d:=d.to;intro g s j H Q I h;obtain⟨f,a,sp,B,c,D,h⟩:=h;obtain⟨k,ps,F,hr,J⟩:=l f a sp c;refine wpAny_Call_Name_kw (jg (Kr hN b m o g s j H (λv b=>v=.ref f/\b=H) I ⟨_,B,rfl,rfl⟩) λu B ⟨v,_,o,b,l,m⟩=>?_);subst l m;cases b;have at_:∀{l:Hp} {m:Shared},qw X g j l m->l f=some (Z9 {cls:=.type "function",data:=.func a})->PySem.W.FnAt f m.heap:=λb q=>⟨_,_,a,_,(show qQ X.prog X.w _ _ f (Z9 _) from b.hok f _ q).1⟩;exact PySem.W.callWith_F (at_ o D) (jg (d pos g B j _ _ o h) λ_ m ⟨_,l,b,a,d,q⟩=>⟨at_ b d,Nu F hr J .nil r b a (by simpa using q)⟩) y z)
open PyProof.Rows hiding K lo
structure Tab where
 x:Str
 c:Addr
 P:Addr
 q:Str
def QM(tabs:List Tab)(H:Hp):Hp:=λb=>match tabs.find? λq=>q.P==b with
 | some q=>some (.tbl #[.str q.q 0])
 | none=>H b
def zk{tabs:List Tab}(h:∀q∈tabs,q.P≠b):QM tabs H b=H b:=by
 unfold QM;cases e:tabs.find? λq=>q.P==b with
 | none=>rfl
 | some q=>exact absurd (beq_iff_eq.mp (List.find?_some (p:=λq:Tab=>q.P==b) e)) (h q (zcO e))
def z4(h:q∈tabs)(e:q.P=b):∃a∈tabs,a.P=b/\QM tabs H b=some (.tbl #[.str a.q 0]):=by
 unfold QM;cases c:tabs.find? λq=>q.P==b with
 | none=>exact absurd (beq_iff_eq.mpr e) (by simpa using zdF.mp c q h)
 | some a=>exact⟨a,zcO c,beq_iff_eq.mp (List.find?_some (p:=λq:Tab=>q.P==b) c),rfl⟩
def RG{tabs:List Tab}(nd:(tabs.map (·.P)).Nodup)(h:q∈tabs):QM tabs H q.P=some (.tbl #[.str q.q 0]):=by
 obtain⟨c,j,e,l⟩:=z4 (H:=H) h rfl;have:c=q:=by
  have inj:∀{c:List Tab},(c.map (·.P)).Nodup->∀{a b:Tab},a∈c->b∈c->a.P=b.P->a=b:=by
   intro c;induction c with
   | nil=>intro _ a b h;cases h
   | cons z c m=>
    intro n a b d c e;rw[tG,zaa]at n;rcases tI.mp d with i | d
    ·rcases tI.mp c with g | c
     ·rw[i,g]
     ·exact absurd (tl.mpr ⟨b,c,by rw[<-e,i]⟩) n.1
    ·rcases tI.mp c with g | c
     ·exact absurd (tl.mpr ⟨a,d,by rw[e,g]⟩) n.1
     ·exact m n.2 d c e
  exact inj nd j h e
 rw[l,this]
def wq{K:zdU}{x:Str}{c:Shared}{vs:List Value}{tabs:List Tab}(KX:K.In c.heap)(ae:c.heap.Ns mainGlobals mg)(l:c.heap.Ns builtinsNs mb)(ak:∀x:Str,x≠"__name__"->mb x=bootBuiltins x)(al:c.heap.NoLimit)(hg:c.gens=#[])(U:c.heap.get? a=some {cls:=.type "list",data:=.seq vs.toArray})(hi:IntsAre vs ns)(hl:ns.length<=zdZ)(hr:je k callerA)(y:∀q∈tabs,PySem.W.CodeHd c.heap q.c q.P/\c.heap.get? q.P=some (zbr #[]))(nd:(tabs.map (·.P)).Nodup)(am:∃J o,mg "__builtins__"=some (.ref J)/\J≠builtinsNs/\J≠mainGlobals/\c.heap.get? J=some o/\o.cls=.type "module"/\o.dict=some builtinsNs/\o.data=.plain)(an:zdx K=true)(F:∀base:Heap,K.In base->base.Ns mainGlobals mg->(∀q∈tabs,Yw mg base q.c q.P)->qp P w K mg base CX k fa fd [x] sp)(ao:∀(s:Shared) (u:Value),BindsTo s fd ⟨[u],[]⟩ [(x,u)])(ap:∀H:Hp,SqL K H a (ns.map V.int)->(∀q∈tabs,H q.P=some (.tbl #[.str q.q 0]))->sp [.ref a] H (λv _=>v=.bl true) λ_ _ _=>False)(aq:∀H e i,CX [] H c (λ_ _ _=>False) e i->False):
  codeAny (model P w) callerA (.call (.ref fa) ⟨[.ref a],[]⟩) (λr i=>r=.ok (.ret (.bool true))/\OldK c.heap i.heap/\i.os=c.os/\AllBare i.gens) c:=by
 have rv:=Wv hi;have ar:=hi.length;have af:∀q∈tabs,q.P≠a:=λq j z=>by
  have:=(y q j).2;rw[z,U]at this;cases this
 have gu:∀g:Hp,Hw g->SqL K g a (ns.map V.int)->ZS P w g c.heap->(∀b,g b≠none->b=a)->(g a≠none->K.lookup a=none)->
   codeAny (model P w) callerA (.call (.ref fa) ⟨[.ref a],[]⟩) (λr i=>r=.ok (.ret (.bool true))/\OldK c.heap i.heap/\i.os=c.os/\AllBare i.gens) c:=by
  intro g hO as ag hA hK;have hS:SqL K (QM tabs g) a (ns.map V.int):=by
   have e:QM tabs g a=g a:=zk af;rcases as with (h | ⟨o,h⟩) | h
   ·exact .inl (.inl (e.trans h))
   ·exact .inl (.inr ⟨o,e.trans h⟩)
   ·exact .inr h
  have ah:∀b,QM tabs g b≠none->b=a\/∃q∈tabs,q.P=b:=λb z=>by
   rcases Classical.em (∃q∈tabs,q.P=b) with h | h
   ·exact .inr h
   ·rw[zk λq j e=>h ⟨q,j,e⟩]at z;exact .inl (hA b z)
  have au:ZS P w (QM tabs g) c.heap:=λb u e=>by
   rcases Classical.em (∃q∈tabs,q.P=b) with ⟨q,j,eq⟩ | h
   ·obtain⟨q',av,e',r⟩:=z4 (H:=g) j eq;rw[r]at e;cases e;exact⟨#[],by rw[<-e'];exact(y q' av).2,True.intro,λpos cv z=>nomatch z⟩
   ·rw[zk λq j e=>h ⟨q,j,e⟩]at e;have aB:b=a:=hA b (by rw[e];exact λz=>nomatch z);rcases hO b with z | ⟨o,xs,z⟩
    ·rw[z]at e;cases e
    ·rw[z]at e;cases e;obtain⟨L,B,aw,n,h3,h4⟩:=(show qQ P w g c.heap b (.frz o (.lst xs)) from ag b _ z);exact⟨L,B,aw,n,h3,h4⟩
  have ac:∀{b:Addr} {o:Obj},c.heap.get? b=some o->o≠zbr #[]->o≠{cls:=.type "list",data:=.seq vs.toArray}->QM tabs g b=none:=λ{b o} e n1 n2=>by
   cases q:QM tabs g b with
   | none=>rfl
   | some u=>
    rcases ah b (by rw[q];exact λz=>nomatch z) with z | ⟨t,p,z⟩
    ·rw[z,U]at e;exact absurd (tz.inj e).symm n2
    ·have:=(y t p).2;rw[z,e]at this;exact absurd (tz.inj this) n1
  have aa:∀{b:Addr} {o:Obj},c.heap.get? b=some o->QM tabs g b=none->(Wn c.heap (QM tabs g)).get? b=some o:=λe n=>GQ e n;have ab:∀{b:Addr} {m:Str->Option Value},c.heap.Ns b m->(Wn c.heap (QM tabs g)).Ns b m:=λ{b m} ⟨o,es,ep,e,d,r⟩=>⟨o,es,ep,aa e (ac e (λz=>by rw[z]at d;cases d) (λz=>by rw[z]at d;cases d)),d,r⟩;have ai:K.In (Wn c.heap (QM tabs g)):=λb o e=>aa (KX b o e) (by
   cases q:QM tabs g b with
   | none=>rfl
   | some u=>
    rcases ah b (by rw[q];exact λz=>nomatch z) with z | ⟨t,p,z⟩
    ·have D:QM tabs g a=g a:=zk af;rw[z,D]at q;rw[z,hK (by rw[q];exact λz=>nomatch z)]at e;cases e
    ·have:=(y t p).2;rw[z,KX b o e]at this;have B:=zag.mp an (b,o) (PySem.W.mem_of_lookupK e);rw[tz.inj this]at B;exact absurd (show false=true from B) tH)
  have hM:Mod K mg (Wn c.heap (QM tabs g)):=⟨ai,ab ae,⟨mb,ab l,ak⟩,let ⟨mc,L,B⟩:=al;⟨mc,ab L,B⟩⟩;have ax:∀q∈tabs,Yw mg (Wn c.heap (QM tabs g)) q.c q.P:=λq j=>by
   refine⟨?_,?_⟩
   ·obtain⟨o,ay,gL,tf,az,tg,aA,gj,tt,D,C,r⟩:=(y q j).1;exact⟨o,ay,gL,tf,az,tg,aA,gj,tt,aa D (ac D (λz=>by rw[z]at C;cases C) (λz=>by rw[z]at C;exact absurd (show Value.type "list"=Value.type "code" from C) (by decide))),C,r⟩
   ·obtain⟨J,o,b1,b2,b3,b4,O,b6,b7⟩:=am;refine⟨J,o,b1,b2,b3,λz=>?_,aa b4 (ac b4 (λz=>by rw[z]at O;cases O) (λz=>by rw[z]at O;exact absurd (show Value.type "list"=Value.type "module" from O) (by decide))),O,b6,b7⟩;have:=(y q j).2;rw[<-z,b4]at this;cases this;cases O
  have e0:Wt P w K mg (Wn c.heap (QM tabs g)) callerA [] c (QM tabs g):=⟨rfl,hM,λb o e=>N4 e,Nat.le_of_eq (wB _ _),trivial,λb l=>absurd (show b∈([]:List Addr) from l) (by simp),au,.of_eq hg⟩;refine codeAny_mono ((F _ ai (ab ae) ax).run callerA [] c (QM tabs g) ⟨[.ref a],[]⟩ [.ref a] [.ref a] _ _ hr e0 (ao c (.ref a)) (.cons rfl .nil) (ap _ hS λq j=>RG nd j)) λr i h=>?_;cases r with
  | error e=>exact(aq _ e i h).elim
  | ok fl=>
   cases fl with
   | next=>exact False.elim h
   | brk=>exact False.elim h
   | cont=>exact False.elim h
   | ret u=>
    obtain⟨v,H',os,bare,un,aj,r',q⟩:=h;have q':v=.bl true:=q;subst q';obtain rfl:u=Value.bool true:=r';have all:∀b o,c.heap.get? b=some o->i.heap.get? b=some o\/∃t∈tabs,t.P=b/\∃Q,i.heap.get? b=some (zbr Q):=λb o e=>by
     rcases Classical.em (∃q∈tabs,q.P=b) with ⟨t,p,T⟩ | h
     ·obtain⟨t',aC,e',r⟩:=z4 (H:=g) p T;obtain⟨m,z⟩:=un.tbls b _ r;obtain⟨Q,z2,_⟩:=(show qQ P w H' i.heap b (.tbl _) from aj b _ z);exact .inr ⟨t,p,T,Q,z2⟩
     ·have D:QM tabs g b=g b:=zk λq j e=>h ⟨q,j,e⟩;cases q:g b with
      | none=>exact .inl (un.keep b o e (D.trans q) (by intro z;exact absurd (show b∈([]:List Addr) from z) (by simp)) (by simp))
      | some u=>
       rcases hO b with z | ⟨ob,xs,z⟩
       ·rw[q]at z;cases z
       ·have z2:=un.frzs b ob _ (D.trans z);obtain⟨L,_⟩:=ag b _ z;obtain⟨B,_⟩:=aj b _ z2;rw[e]at L;cases L;exact .inl B
    refine⟨rfl,⟨λb o e=>?_,λb o e=>?_⟩,os,bare⟩
    ·rcases all b o e with z | ⟨t,p,T,Q,z⟩
     ·exact .inl z
     ·have C:=(y t p).2;rw[T,e]at C;cases C;subst T;exact .inr (.inl ⟨((y t p).1.tab (y t p).2).isCodeTable,rfl,#[],Q,rfl,by rw[Array.empty_append];exact z⟩)
    ·rcases all b o e with z | ⟨t,p,T,Q,z⟩
     ·exact⟨_,z⟩
     ·exact⟨_,z⟩
 cases hk:K.lookup a with
 | some o=>
  have e:=KX a o hk;rw[U]at e;cases e;refine gu (λ_=>none) (λ_=>.inl rfl) (.inr ⟨_,vs.toArray,_,hk,rfl,rfl,rfl,by rw[tU,ar];exact hl,by simpa using rv⟩) (λb u z=>by have Y:(none:Option HO)=some u:=z;cases Y) (λb z=>absurd rfl z) λz=>absurd rfl z
 | none=>
  refine gu (λb=>if b=a then some (.frz {cls:=.type "list",data:=.seq vs.toArray} (.lst (ns.map V.int))) else none) (λb=>?_) (.inl (.inr ⟨{cls:=.type "list",data:=.seq vs.toArray},if_pos rfl⟩)) (λb u z=>?_) (λb z=>?_) λ_=>hk
  ·by_cases l:b=a
   ·exact .inr ⟨_,_,if_pos l⟩
   ·exact .inl (if_neg l)
  ·by_cases l:b=a
   ·have Y:=(if_pos l).symm.trans z;cases Y;subst l;exact⟨U,by rw[ta];exact hl,vs,_,rv,U⟩
   ·have Y:=(if_neg l).symm.trans z;cases Y
  ·by_cases l:b=a
   ·exact l
   ·exact absurd (if_neg l) z
def walk_ofT{l:PySem.W.OpenLaw}{b:World->Heap->Prop}{d:DefRec}{K:Params->zdU}{sp:zdU->List Tab->Sp}{g:List Addr}(i:l.most=some n)(j:n<=zdZ)(m:d.params.defaults=[])(hr:je k callerA)(o:∀(w:World) (h:Heap),b w h->(K w.params).In h)(p:∀(w:World) (h:Heap),b w h->∀P∈g,h.get? P=some (zbr #[]))(r:∀w:World,zdx (K w.params)=true) (F:∀(w:World) (mg:Str->Option Value) (fa:Addr) (h:Heap),(K w.params).In h->h.Ns mainGlobals mg->mg d.name=some (.ref fa)->
   ∃(tabs:List Tab) (c:zdY),(tabs.map (·.P)).Nodup/\(∀t∈tabs,t.P∈g/\zbs (K w.params) t.c t.P=true)/\(∀(s:Shared) (u:Value),BindsTo s c ⟨[u],[]⟩ [(x,u)])/\
    ∀base:Heap,(K w.params).In base->base.Ns mainGlobals mg->(∀t∈tabs,Yw mg base t.c t.P)->qp l.prog w (K w.params) mg base qN k fa c [x] (sp (K w.params) tabs)) (y:∀(K:zdU) (tabs:List Tab) (H:Hp) (a:Addr) (ns:List Int),ns.length<=n->SqL K H a (ns.map V.int)->(∀q∈tabs,H q.P=some (.tbl #[.str q.q 0]))->sp K tabs [.ref a] H (λv _=>v=.bl true) λ_ _ _=>False):
  PySem.W.WalkO q B C b l.row.toRowW d [] (λf vs=>PySem.call f vs):=by
 refine Att.attach_call i m λw _ _ mg _ fa _ pm _ _ a vs ns G Y _ hd _ m B C g D=>?_;have b:=o w _ Y;obtain⟨tabs,c,o,i,J,L⟩:=F w mg fa _ b G.T.g m;refine wq b G.T.g G.T.b G.T.builtins G.T.nolimit D B C (tS g j) hr (tabs:=tabs) (λt c=>⟨PySem.W.codeHd_of_K b (i t c).2,p w _ Y _ (i t c).1⟩) o ?_ (r w) L J (λH b c=>y _ _ H a ns g b c) λH e _ z=>z;obtain⟨g,i,j,m,b,o,p,c⟩:=G.T.bmain;refine⟨g,i,j,m,λz=>?_,b,o,p,c⟩;obtain⟨_,_,_,e,g,_⟩:=G.T.g;rw[z,e]at b;cases b;rw[g]at c;cases c
open PyProof.Rows hiding K lo
mutual
inductive DG(H:Hp):V->PyData->Prop
 | non:DG H .non .none
 | bl (b:Bool):DG H (.bl b) (.bool b)
 | int (i:Int):DG H (.int i) (.int i)
 | str (x:Str):DG H (.str x) (.str x)
 | lst {a:Addr} {xs:List V} {ds:List PyData}:H a=some (.lst xs)->a≠sysModules->DGs H xs ds->DG H (.ref a) (.list ds)
 | tup {a:Addr} {xs:List V} {ds:List PyData}:H a=some (.tup xs)->DGs H xs ds->DG H (.ref a) (.tuple ds)
 | dct0 {a:Addr}:H a=some (.dK [])->DG H (.ref a) (.dict [])
 | dct1 {a:Addr} {z:Str} {i:Int}:H a=some (.dK [(Sum.inr z,.int i)])->DG H (.ref a) (.dict [(.str z,.int i)])
inductive DGs(H:Hp):List V->List PyData->Prop
 | nil:DGs H [] []
 | cons {x:V} {xs:List V} {d:PyData} {ds:List PyData}:DG H x d->DGs H xs ds->DGs H (x::xs) (d::ds)
end
open PyProof.Rows hiding K lo
structure kK(H:Hp)(P f:Addr)(qual:Str)(ag:Arguments)(be:Expr)(sc:Scope)(fd:zdY)(ws:List (Str×V)):Prop where
 ex:∃(pm fx:Value) (c':Addr) (cl:List (Str×Addr)) (oc:Obj),fd=zdy "<lambda>" qual ag be sc cl pm (.ref c') fx/\H f=some (Z9 {cls:=.type "function",data:=.func fd})/\H c'=some (.frz oc (.own P))/\kJ qual oc/\
  (∀x y c,cl.lookup x=some c->cl.lookup y=some c->x=y)/\(∀x c,cl.lookup x=some c->x∈ws.map (·.1))/\
  ∀x v,(x,v)∈ws->∃c o u,cl.lookup x=some c/\H c=some (Z9 o)/\o.data=.cell (some u)/\qM v u
def kK.mono{g:Hp}(h:kK H P f qual ag be sc i j)(k:∀b o u,H b=some (.frz o u)->g b=some (.frz o u)):kK g P f qual ag be sc i j:=by
 obtain⟨pm,g,i,j,l,m,p,q,r,y,z,B⟩:=h.ex;exact⟨pm,g,i,j,l,m,k _ _ _ p,k _ _ _ q,r,y,z,λx v g=>let ⟨c,o,u,a,b,d,e⟩:=B x v g;⟨c,o,u,a,k _ _ _ b,d,e⟩⟩
def MA{P:Program}{w:World}{K:zdU}{mg:Str->Option Value}{base:Heap}{p:wX}{PT f:Addr}{qual:Str}{ag:Arguments}{be:Expr}{sc:Scope}{j:zdY}{N ps fr:List Str}{k:Nat}{sp:List (Str×V)->Sp}(S:Zu N ps fr sc)(len:∀g vs H Q E,sp g vs H Q E->vs.length=ps.length/\g.map (·.1)=fr)
  (C:∀(o:Addr) (cl:List (Str×Addr)) (A:Around) (outer:List Env) (s:Shared) (H:Hp) (g:List (Str×V)) (vs:List V) (Q:VK) (E:XK),je k (A.deeper (zbL qual sc s.heap.objs.size f (.ref o) cl))->sp g vs H Q E->
   ∃t,JE (X3 p P w K mg base N qual sc f (.ref o) cl A outer s H E) be t/\t (jT N (vs++g.map (·.2))) H Q):
  qp P w K mg base p (k+1) f j ps (λvs H Q E=>∃g,kK H PT f qual ag be sc j g/\sp g vs H Q E):=by
 refine⟨λvs H Q E ⟨g,_,h⟩=>(len _ _ _ _ _ h).1,λA outer s H args T vs Q E hr l B U ⟨g,j,r⟩=>?_⟩;obtain⟨Y,D⟩:=len _ _ _ _ _ r;obtain⟨pm,_,o,cl,m,rfl,L,O,⟨aa,t',ab,ac⟩,inj,ae,J⟩:=j.ex;have ef:=(show qQ P w H s.heap f (Z9 _) from l.hok f _ L).1;have L:=(show qQ P w H s.heap o (.frz m (.own PT)) from l.hok o _ O).1;have O:s.heap.NoLimit:=l.mod.nolimit.keeps λb j e=>(l.bs b j e).1;refine PySem.W.kla_callFunE hr.depth ef rfl S.co S.gen rfl ⟨o,m,aa,t',rfl,L,ab,ac⟩ (B _ _ _ _ ?_);refine wpAny_newFunctionEnv S.nocell (λy m=>S.par y.1 (zbn m).1) (λL af ah=>?_) S.kind;have B:∀b j,s.heap.get? b=some j->L.get? b=some j:=λb j e=>ah.extBut b j (tW (tK e)) (tj _ e);refine⟨O.keeps B,PySem.W.kla_codeExpr ?_⟩;obtain⟨t,ht,hq⟩:=C o cl A outer s H g vs Q E (hr.deeper _) r;have C:∀b:Addr,b∉(X3 p P w K mg base N qual sc f (.ref o) cl A outer s H E).ex:=λb z=>absurd (show b∈([]:List Addr) from z) (by simp);have r:g.length=fr.length:=by have:=congrArg zad D;simpa using this
 have r:ps.length+fr.length<=N.length:=by
  have:=congrArg zad S.pre;rw[tJ,tm]at this;omega
 have O:∀x c,cl.lookup x=some c->∃j u,H c=some (Z9 j)/\j.data=.cell (some u):=λx c e=>by
  obtain⟨⟨y,v⟩,m,rfl⟩:=tl.mp (ae x c e);obtain⟨r,j,u,a,b,d,_⟩:=J y v m;rw[e]at a;cases a;exact⟨j,u,b,d⟩
 have I:qw (X3 p P w K mg base N qual sc f (.ref o) cl A outer s H E) [] (jT N (vs++g.map (·.2))) H {s with heap:=L,toks:=s.toks+(ps.zip T).length}:=by
  refine⟨⟨l.mod,S.kind,rfl,rfl,tc _,inj,λy m=>?_,λ_ _ z=>zdd z,λ_=>hr.hd,Around.frames_deeper l.frames,.inr ⟨rfl,rfl⟩,λb z=>absurd z (C b),l.bs,l.bsz,λb _ _=>C b,λb z=>absurd z (C b),l.funs,l.frf⟩,
   rfl,l.bare,Un.kept B,⟨_,af,λi y v C o _=>?_⟩,λy c h=>?_,l.hok.fresh (tc _),λy c h=>?_,λp L=>absurd (show p∈([]:List (Addr×Obj)) from L) (by simp),l.hok.kept B,?_⟩
  ·have m:sc.names.lookup y=some .cell\/sc.names.lookup y=some .free:=m;rcases m with m | m
   ·exact absurd rfl (S.nocell _ (PySem.mem_of_lookup m))
   ·have:=S.frees _ (PySem.mem_of_lookup m) rfl;rw[<-D]at this;obtain⟨⟨z,v⟩,m,p⟩:=tl.mp this;obtain⟨r,j,u,a,_⟩:=J z v m;exact⟨r,by rw[<-show z=y from p];exact a⟩
  ·have p:i < (vs++g.map (·.2)).length:=by
    rcases zbd i (vs++g.map (·.2)).length with z | z
    ·exact z
    ·unfold jT at o;rw[tP (by simpa using z),zbY]at o;split at o<;>cases o
   have m:(vs++g.map (·.2))[i]?=some v:=by
    unfold jT at o;rw[tV (by simpa using p),tp]at o;cases e:(vs++g.map (·.2))[i]? with
    | none=>rw[e]at o;cases o
    | some z=>rw[e]at o;cases o;rfl
   rw[tm,ta]at p;have o:(ps++fr)[i]?=some y:=by
    rw[<-S.pre,zaT (by rw[tm];omega)];exact C
   rcases zbd i vs.length with z | z
   ·rw[tV z]at m;rw[tV (by omega)]at o;obtain⟨u,hu,C⟩:=U.get m;have p:ps.Nodup:=by
     have:=S.nd.sublist (zce (ps++fr).length N);rw[S.pre]at this;exact(zbI.mp this).1
    exact⟨u,C,.inl ⟨S.par y (tL o),XM p o hu⟩⟩
   ·rw[tP z,tp]at m;rw[tP (by omega),<-Y]at o;rw[<-D,tp]at o;cases e:g[i - vs.length]? with
    | none=>rw[e]at m;cases m
    | some p=>
     rw[e]at m o;obtain rfl:p.1=y:=tz.inj o;obtain rfl:p.2=v:=tz.inj m;have m:p∈g:=tL e;obtain⟨r,j,u,a,b,d,C⟩:=J p.1 p.2 m;have o:sc.names.lookup p.1=some .free:=S.free _ (by rw[<-D];exact tl.mpr ⟨p,m,rfl⟩);exact⟨u,C,.inr ⟨.inr o,r,a,j,B _ _ (show qQ P w H s.heap r (Z9 j) from l.hok r _ b).1,d⟩⟩
  ·obtain⟨j,u,b,d⟩:=O y c h;exact⟨some u,j,B _ _ (show qQ P w H s.heap c (Z9 j) from l.hok c _ b).1,d⟩
  ·obtain⟨j,u,b,d⟩:=O y c h;exact .inr ⟨rfl,j,b⟩
  ·show (jT N (vs++g.map (·.2))).length=N.length;unfold jT;rw[tm,ta,zbE,tm,ta];omega
 refine wpAny_mono (ht.to [] _ (jT N (vs++g.map (·.2))) H _ I hq) (λu g j=>?_) λe g j=>j;obtain⟨v,l,g,C,q⟩:=j;exact⟨v,l,g.os,g.bare,g.base,g.hok,C,q⟩
open PySem PySem.Spec PySem.Builtin PySem.Builtin.Str
open PyProof.Rows hiding K lo
def Wu:∀(l:List (Str×Tok)),qI ((l.map (·.1)).map V.str) (strValues l)
 | []=>.nil
 | a::b=>.cons ⟨a.2,rfl⟩ (Wu b)
inductive yK(x:V)(xs:List V)(H:Hp)(Q:VK):Prop
 | mk (z y:Str):x=.str z->xs=[.str y]->(y.length==0)=false->(z.length<=1000)->(∀l,H l=none->Q (.ref l) (upd H l (.lst ((Txt.split z y).map V.str))))->yK x xs H Q
def Bv:V->List V->Hp->VK->Prop:=λx a H Q=>yK x a H Q
def Zk:CF X "str.split" Bv:=by
 intro c s g H x _ v _ Q I a i h;obtain⟨x,y,rfl,rfl,d,j,q⟩:=h;obtain⟨t,rfl⟩:=a;obtain⟨_,rfl,a⟩:=Q9 i;obtain⟨u,rfl⟩:=a;have a:x.length+2<=zdZ:=by exact tS (Nat.add_le_add_right j 2) (by decide+kernel)
 have d_:∀(a:List (Str×Tok)) (k:Tok),a.map (·.1)=Txt.split x y->EP X c g Q (.ref s.heap.objs.size) {s with heap:=s.heap.push {cls:=.type "list",data:=.seq (strValues a).toArray},toks:=k}:=λa k e=>by
  refine⟨.ref s.heap.objs.size,_,I.laid (t':=k) (o:=.lst ((Txt.split x y).map V.str)) (λb _ e=>tj _ e) (tc _) ?_,rfl,q _ (I.hok.fresh (tc _))⟩;refine⟨?_,strValues a,0,?_,tR _ rfl⟩
  ·rw[ta];have:=split_le x y;omega
  ·rw[<-e];exact Wu a
 have g:(partsBetween x (occurrences x y 0 x.length (x.length+1)) y.length).length<=zdZ:=by
  have a:=StrLaws.occ_length_le x y 0 x.length (x.length+1);rw[length_partsBetween];omega
 cases a:(decide (x.length < y.length) || decide (strKind x < strKind y))
 ·cases c:(occurrences x y 0 x.length (x.length+1)).isEmpty
  ·refine call_meets F.slot_str_split (typeIs_str _ _ _) F.entry_str_split (F.args_str_split_2 _ _) (meets_str_split_sep x y t u a d c (by omega) g) ?_;show wants _ _ _ {s with toks:=_,heap:=s.heap.push {cls:=.type "list",data:=.seq (strsFrom s.toks (partsBetween x (occurrences x y 0 x.length (x.length+1)) y.length)).toArray}};rw[strsFrom_eq];exact d_ (numbered s.toks _) _ ((numbered_texts _ _).trans ((if_neg (ne_true_of_eq_false a)).trans (if_neg (ne_true_of_eq_false c))).symm)
  ·exact call_meets F.slot_str_split (typeIs_str _ _ _) F.entry_str_split (F.args_str_split_2 _ _) (meets_str_split_not_found x y t u a d c)
    (d_ [(x,t)] s.toks ((if_neg (ne_true_of_eq_false a)).trans (if_pos c)).symm)
 ·exact call_meets F.slot_str_split (typeIs_str _ _ _) F.entry_str_split (F.args_str_split_2 _ _) (meets_str_split_cannot_occur x y t u a)
   (d_ [(x,t)] s.toks (if_pos a).symm)
def YT{a b:Str}(h:a.cps.toList=b.cps.toList):a=b:=Str.ext' (Array.toList_inj.mp h)
def MC:∀{a b r s:List Nat},c∉a->c∉b->a++c::r=b++c::s->a=b/\r=s:=by
 intro a;induction a with
 | nil=>
  intro b r s _ d e;cases b with
  | nil=>exact⟨rfl,(zcF.inj e).2⟩
  | cons y b=>exact absurd (by rw[(zcF.inj e).1];exact tE) d
 | cons x a i=>
  intro b r s g d e;cases b with
  | nil=>exact absurd (by rw[<-(zcF.inj e).1];exact tE) g
  | cons y b=>
   obtain⟨j,l⟩:=zcF.inj e;obtain⟨m,o⟩:=i (λz=>g (tA _ z)) (λz=>d (tA _ z)) l;exact⟨by rw[j,m],o⟩
def Ge:∀{xs b:List Str},xs≠[]->b≠[]->(∀x∈xs,c∉x.cps.toList)->(∀x∈b,c∉x.cps.toList)->Str.join ⟨#[c]⟩ xs=Str.join ⟨#[c]⟩ b->xs=b:=by
 have d:∀(x y:Str) (a:List Str),(Str.join ⟨#[c]⟩ (x::y::a)).cps.toList=x.cps.toList++c::(Str.join ⟨#[c]⟩ (y::a)).cps.toList:=λx y a=>by
  show ((x++⟨#[c]⟩)++Str.join ⟨#[c]⟩ (y::a)).cps.toList=_;show ((x.cps++#[c])++(Str.join ⟨#[c]⟩ (y::a)).cps).toList=_;simp
 intro xs;induction xs with
 | nil=>intro b h;exact absurd rfl h
 | cons x a o=>
  intro b _ p g i e;cases b with
  | nil=>exact absurd rfl p
  | cons y m=>
   cases a with
   | nil=>
    cases m with
    | nil=>rw[show x=y from e]
    | cons j m=>
     have:=congrArg (λs:Str=>s.cps.toList) e;rw[d y j m]at this;exact absurd (show c∈x.cps.toList from by rw[show x.cps.toList=_ from this];simp) (g x tE)
   | cons l a=>
    cases m with
    | nil=>
     have:=congrArg (λs:Str=>s.cps.toList) e;rw[d x l a]at this;exact absurd (show c∈y.cps.toList from by rw[show y.cps.toList=_ from this.symm];simp) (i y tE)
    | cons j m=>
     have:=congrArg (λs:Str=>s.cps.toList) e;rw[d x l a,d y j m]at this;obtain⟨a,b⟩:=MC (g x tE) (i y tE) this;rw[YT a,o (by simp) (by simp) (λz a=>g z (tA _ a)) (λz a=>i z (tA _ a)) (YT b)]
def uv(x y:Str):Txt.split x y≠[]:=λz=>by
 have:=split_pos x y;rw[z]at this;exact absurd this (by decide)
def Z2(h:xs≠[])(f:∀x∈xs,c∉x.cps.toList):Txt.split (Str.join ⟨#[c]⟩ xs) ⟨#[c]⟩=xs:=
 Ge (uv _ _) h (StrLaws.split_free _ c) f (StrLaws.join_split _ _)
open PyProof.Rows hiding K lo
def Nv{X:Cx}(F:qp X.prog X.w X.K X.mg X.base qN k f a ps sp)(hr:je (k+1) X.A)(b:jN X.K a ps [])(I:qw X a_ c H s)(r:qI vs us)(h:sp vs H Q E0):
  wpAny (model X.prog X.w) X.A.in1 (call (.ref f) us) (EP X a_ c Q) (λ_ _=>False) s:=by
 have c:(us++[]).length=ps.length:=by rw[zam];exact r.length.symm.trans (F.len _ _ _ _ h)
 have a:=b s us I.kIn c;rw[zam]at a;refine wpAny_call (codeAny_mono (F.run X.A.in1 X.stack s H ⟨us,[]⟩ us vs Q E0 hr.in1 I.env0.in1 a r h) λz _ q=>?_)
 match z,q with
 | .error y,q=>exact q.elim
 | .ok (.ret u),q=>exact I.after q
def qw.shift{h':Heap}(I:qw X P d H s){a:List (Addr×Obj)}(j:∀p∈a,p.1=b/\p.2=o'\/p∈P/\p.1≠b)(fb:JP X a_ H b)(g:∀p∈P,p.1≠b->p∈a_\/p.1≠b)(e:∀c o,c≠b->s.heap.get? c=some o->h'.get? c=some o)(l:h'.get? b=some o')(hd:∀v,o'.data≠.cell v):qw X a d H {s with heap:=h',toks:=t'}:=by
 obtain⟨g,f1,f2,m,q,r⟩:=fb;have u:qw X (P.filter λp=>p.1 != b) d H s:=I.pins_of λp a=>I.pin p (tv _ (tO.mp a).1);have i:qw X (P.filter λp=>p.1 != b) d H {s with heap:=h',toks:=t'}:=u.turned e g f1 m q λp a=>by
  rcases tT.mp a with z | z
  ·exact r p (tY _ z)
  ·simpa using (tO.mp z).2
 refine i.pins_of λp a=>?_;rcases j p a with ⟨d,e⟩ | ⟨d,e⟩
 ·rw[d,e];exact⟨l,g,f1,f2,hd⟩
 ·exact i.pin p (tv _ (tO.mpr ⟨d,by simpa using e⟩))
abbrev ZM(vs:Array Value)(c:Nat):Obj:=seqObj "list" vs c
def K4{X:Cx}{R:Hp->Prop}{Z:Result->Shared->Prop}(hc:X.calm=true)(kf:Nat->Int)(gf:∀H,R H->SqL X.K H l xs)(gp:l≠a)(fJ:S≠a)(fa:∀H,H a=none->JP X a_ H a)(fS:∀H,H S=none->JP X a_ H S)(fG:∀(i:Nat) (x:V) (v:Value) (P:List (Addr×Obj)) (H1:Hp) (s1:Shared),xs[i]?=some x->qM x v->qw X P σ H1 s1->R H1->wpAny (model X.prog X.w) X.A.in1 (call (.ref q) [v]) (EP X P σ λy H2=>y=.int (kf i)/\R H2) (λ_ _=>False) s1)(done:∀(i:Nat) (x:V) (v:Value) (H1:Hp) (s1:Shared),xs[i]?=some x->qM x v->(∀j,j < xs.length->kf i<=kf j/\(j < i->kf i < kf j))->qw X a_ σ H1 s1->R H1->Z (.ok (.ret v)) s1):
  ∀(r j i:Nat) (s1:Shared) (H1:Hp) (xb:V) (vb:Value) (tb:Tok) (c:Nat) (oI:Obj),xs.length - (j+1)=r->j+1<=xs.length->qw X (a_++[(S,ZM #[vb,.int (kf i) tb] c),(a,oI)]) σ H1 s1->R H1->s1.heap.IsListIter a l (j+1)->xs[i]?=some xb->qM xb vb->i<=j->
   (∀j',j'<=j->kf i<=kf j'/\(j' < i->kf i < kf j'))->codeAny (model X.prog X.w) X.A (.builtin "min.loop" ⟨[.ref a,.ref q,.ref S],[]⟩) Z s1:=by
 have fj:(toString "min"++toString ".loop":String)="min.loop":=by decide
 have fX:∀{H1:Hp} {s1:Shared} {oS oI:Obj},qw X (a_++[(S,oS),(a,oI)]) σ H1 s1->s1.heap.get? S=some oS/\H1 S=none:=λI=>let z:=I.pin (S,_) (tv _ (tv _ (.head _)));⟨z.1,z.2.1⟩;have fY:∀{H1:Hp} {s1:Shared} {oS oI:Obj},qw X (a_++[(S,oS),(a,oI)]) σ H1 s1->s1.heap.get? a=some oI/\H1 a=none:=λI=>let z:=I.pin (a,_) (tv _ (tv _ (.tail _ (.head _))));⟨z.1,z.2.1⟩;have nS:∀{oS oI:Obj} {p:Addr×Obj} {H:Hp},H S=none->p∈a_++[(S,oS),(a,oI)]->p∈a_->p.1≠S:=λh _ hp=>(fS _ h).2.2.2.2.2 _ (tv _ hp);intro r;induction r with
 | zero=>
  intro j i s1 H1 xb vb tb c oI hr hj I hR fA f' rb hU fu;have hQ:j+1=xs.length:=by omega
  obtain⟨gS,gi⟩:=fX I;obtain⟨ga,fF⟩:=fY I;obtain⟨its,rv,pl,hz⟩:=I.list (gf _ hR);have hsz:its.toArray.size=xs.length:=by rw[tU];exact rv.length.symm
  have W:=Walks.list (prog:=X.prog) (w:=X.w) (A:=X.A.in1) (I.ok.hd hc) a l gp its.toArray;refine codeAny_builtin zck ?_;rw[Around.under_plainId zaK _];show wpAny _ X.A.in1 (seqItems? (.ref S) >>= _) _ _ _;refine zdW (wpAny_seqItems gS rfl ?_);show wpAny _ X.A.in1 (tryCatch (pyNext (.ref a)) _ >>= _) _ _ _;refine zdW (wpAny_tryCatch (W.done _ _ _ ⟨by rw[hsz,<-hQ];exact fA,pl.isList⟩ λh' fV gq=>?_));have I1:qw X (a_++[(S,ZM #[vb,.int (kf i) tb] c)]) σ H1 s1:=I.pins_of λp hp=>I.pin p (tv _ (by
    rcases tT.mp hp with z | z
    ·exact tY _ z
    ·exact tv _ (by rw[tQ.mp z];exact .head _)))
  obtain⟨f0,f1,f2,f3,f4,f5⟩:=fa H1 fF;have I2:qw X (a_++[(S,ZM #[vb,.int (kf i) tb] c)]) σ H1 {s1 with heap:=h',toks:=fV}:=I1.turned (λb o hb e=>gq b o (by simpa using hb) e) f0 f1 f3 f4 λp hp=>by
    rcases tT.mp hp with z | z
    ·exact f5 p (tY _ z)
    rcases tT.mp z with z | z
    ·exact f5 p (tv _ z)
    ·rw[tQ.mp z];exact fJ
  have f7:h'.get? S=some (ZM #[vb,.int (kf i) tb] c):=(I2.pin (S,_) (tv _ (tv _ (.head _)))).1;have s2:=zcC.update h' S (Obj.mapSeq λ_=>(#[]:Array Value));show wpAny _ X.A.in1 (updateSeq S (λ_=>#[]) >>= _) _ _ _;refine zdW ?_;refine wpAny_updateSeq f7 rfl (zdW (wpAny_letGo (zdX ?_)));obtain⟨g0,g1,g2,g3,g4,g5⟩:=fS H1 gi;have I3:qw X a_ σ H1 {s1 with heap:=h',toks:=fV}:=I2.pins_of λp hp=>I2.pin p (tv _ (tY _ hp));exact done i xb vb H1 _ f' rb (λj' gG=>fu j' (by omega)) (I3.turned (t':=fV) (λb o hb e=>(s2.2 b hb).trans e) g0 g1 g3 g4 g5) hR
 | succ r ih=>
  intro j i s1 H1 xb vb tb c oI hr hj I hR fA f' rb hU fu;have fM:j+1 < xs.length:=by omega
  obtain⟨gS,gi⟩:=fX I;obtain⟨ga,fF⟩:=fY I;obtain⟨its,rv,pl,hz⟩:=I.list (gf _ hR);have hsz:its.toArray.size=xs.length:=by rw[tU];exact rv.length.symm
  have W:=Walks.list (prog:=X.prog) (w:=X.w) (A:=X.A.in1) (I.ok.hd hc) a l gp its.toArray;refine codeAny_builtin zck ?_;rw[Around.under_plainId zaK _];show wpAny _ X.A.in1 (seqItems? (.ref S) >>= _) _ _ _;refine zdW (wpAny_seqItems gS rfl ?_);show wpAny _ X.A.in1 (tryCatch (pyNext (.ref a)) _ >>= _) _ _ _;refine zdW (wpAny_tryCatch (W.item (j+1) _ _ _ (by rw[hsz];exact fM) ⟨fA,pl.isList⟩ λv h' fV hP fZ gq=>?_));have hv:its[j+1]?=some v:=by simpa using hP
  obtain⟨x,hx⟩:∃x,xs[j+1]?=some x:=⟨_,th fM⟩;obtain⟨v',gm,rx⟩:=rv.get hx;rw[hv]at gm;cases gm;obtain⟨fq,f6,gc,gb⟩:=id fZ.1;have gC:∀v,fq.data≠.cell v:=λv z=>by rw[gb]at z;cases z
  have I1:qw X (a_++[(S,ZM #[vb,.int (kf i) tb] c),(a,fq)]) σ H1 {s1 with heap:=h',toks:=fV}:=by
    refine I.shift (a_:=a_) (b:=a) (o':=fq) (λp hp=>?_) (fa H1 fF) (λp hp n=>.inr n) (λb o hb e=>gq b o (by simpa using hb) e) f6 gC;rcases tT.mp hp with z | z
    ·exact .inr ⟨tY _ z,(fa H1 fF).2.2.2.2.2 p (tv _ z)⟩
    ·rcases tI.mp z with rfl | z
     ·exact .inr ⟨tv _ (.head _),fJ⟩
     ·rw[tQ.mp z];exact .inl ⟨rfl,rfl⟩
  show wpAny _ X.A.in1 (tryCatch (holding [v] (call (.ref q) [v])) _ >>= _) _ _ _;refine zdW (wpAny_tryCatch (wpAny_holding (wpAny_mono (fG (j+1) x v _ H1 _ hx rx I1 hR) (λu s2 he=>?_) λ_ _ hF=>hF.elim)));obtain⟨y,H2,I2,ry,rfl,gy⟩:=he;obtain⟨t2,rfl⟩:=ry;obtain⟨f7,gs⟩:=fX I2;obtain⟨gA,h9⟩:=fY I2;have gH:s2.heap.IsListIter a l (j+1+1):=⟨fq,gA,gc,gb⟩;show wpAny _ X.A.in1 (tryCatch (holding [v,.int (kf (j+1)) t2] (richCompare .Lt (.int (kf (j+1)) t2) (.int (kf i) tb) >>= _)) _ >>= _) _ _ _;refine zdW (wpAny_tryCatch (wpAny_holding (zdW (CmpOf.ints_lt (prog:=X.prog) (w:=X.w) (A:=X.A.in1) (P:=λi v=>∃t,v=.int (kf i) t) kf (λi v h=>h) (j+1) i _ _ _ _ _ ⟨t2,rfl⟩ ⟨tb,rfl⟩ ?_))));refine zdW (wpAny_holding (wpAny_truthy_bool ?_));refine zdW (wpAny_letGo (zdX ?_));by_cases hb':kf (j+1) < kf i
  . have s3:=zcC.update s2.heap S (Obj.mapSeq λ_=>#[v,.int (kf (j+1)) t2]);obtain⟨c2,gh⟩:∃c2,(s2.heap.update S (Obj.mapSeq λ_=>#[v,.int (kf (j+1)) t2])).get? S=some (seqObj "list" #[v,.int (kf (j+1)) t2] c2):=⟨_,get?_update_seq f7 λ_=>#[v,.int (kf (j+1)) t2]⟩;simp only[hb',decide_true,if_true];refine zdW ?_;refine wpAny_updateSeq f7 rfl (zdW (wpAny_letGo ?_));rw[fj];have I3:qw X (a_++[(S,ZM #[v,.int (kf (j+1)) t2] c2),(a,fq)]) σ H2 {s2 with heap:=s2.heap.update S (Obj.mapSeq λ_=>#[v,.int (kf (j+1)) t2]),toks:=s2.toks}:=by
     refine I2.shift (a_:=a_) (b:=S) (o':=ZM #[v,.int (kf (j+1)) t2] c2) (λp hp=>?_) (fS H2 gs) (λp hp n=>.inr n) (λb o hb e=>(s3.2 b hb).trans e) gh (λv z=>by cases z);rcases tT.mp hp with z | z
     ·exact .inr ⟨tY _ z,(fS H2 gs).2.2.2.2.2 p (tv _ z)⟩
     ·rcases tI.mp z with rfl | z
      ·exact .inl ⟨rfl,rfl⟩
      ·rw[tQ.mp z];exact .inr ⟨tv _ (.tail _ (.head _)),λq=>fJ q.symm⟩
    refine zdX ⟨plainId_quiet zaK _,ih (j+1) (j+1) _ H2 x v t2 c2 fq (by omega) fM I3 gy ⟨fq,(s3.2 a λq=>fJ q.symm).trans gA,gc,gb⟩ hx rx (tc _) λj' gG=>?_⟩;by_cases e:j'=j+1
    ·subst e;exact⟨by omega,λ_=>by omega⟩
    ·have h8:=fu j' (by omega);have ig:=h8.1;exact⟨by omega,λ_=>by omega⟩
  . simp only[hb',decide_false,zaO,if_false];refine zdW (wpAny_letGo ?_);rw[fj];refine zdX ⟨plainId_quiet zaK _,ih (j+1) i _ H2 xb vb tb c fq (by omega) fM I2 gy gH f' rb (by omega) λj' gG=>?_⟩;by_cases e:j'=j+1
    ·subst e;exact⟨by omega,λ_=>by omega⟩
    ·exact fu j' (by omega)
def wP{X:Cx}{R:Hp->Prop}{Q:Value->Shared->Prop}(hc:X.calm=true)(kf:Nat->Int)(I:qw X a_ σ H s)(hR:R H)(gf:∀H,R H->SqL X.K H l xs)(gF:0 < xs.length)(fG:∀(i:Nat) (x:V) (v:Value) (P:List (Addr×Obj)) (H1:Hp) (s1:Shared),xs[i]?=some x->qM x v->qw X P σ H1 s1->R H1->wpAny (model X.prog X.w) X.A.in1 (call (.ref q) [v]) (EP X P σ λy H2=>y=.int (kf i)/\R H2) (λ_ _=>False) s1)(done:∀(i:Nat) (x:V) (v:Value) (H1:Hp) (s1:Shared),xs[i]?=some x->qM x v->(∀j,j < xs.length->kf i<=kf j/\(j < i->kf i < kf j))->qw X a_ σ H1 s1->R H1->Q v s1):
  wpAny (model X.prog X.w) X.A (call (.builtin "min") [.ref l] [(zdV "key",.ref q)]) Q E s:=by
 have fj:(toString "min"++toString ".loop":String)="min.loop":=by decide
 obtain⟨g7,ic,gO,_⟩:=I.list (gf _ hR);have gR:l < s.heap.objs.size:=by
  obtain⟨o,n,e,_⟩:=gO;exact tK e
 refine kmk_tree PySem.F.kind_min PySem.F.plain_min PySem.F.entry_min (kmk_min_key _ _) ?_;show wpAny _ X.A.in1 (Builtin.Builtins.bindParams "min" ["key","default"] 0 ⟨[],[(zdV "key",.ref q)]⟩ >>= _) _ _ s;refine zdW (wpAny_of_eq (show Builtin.Builtins.bindParams "min" ["key","default"] 0 ⟨[],[(zdV "key",.ref q)]⟩=pure [some (.ref q),none] from rfl) ?_);refine zdW (zdX ?_);refine zdW (wpAny_pyIter_list gO.isList ?_);refine zdW (wpAny_newList ?_ (zac _));rw[fj];have hS:(s.heap.push {cls:=.type "list_iterator",data:=.fields #[.ref l,.int 0 0]}).objs.size=s.heap.objs.size+1:=size_push' ..;generalize hSe:(s.heap.push {cls:=.type "list_iterator",data:=.fields #[.ref l,.int 0 0]}).objs.size=S at hS;generalize hae:s.heap.objs.size=a at hS gR;have gp:l≠a:=tW gR;have fJ:S≠a:=by rw[hS];exact zbv (zaG _)
 have fa:∀H,H a=none->JP X a_ H a:=λH' h=>I.fpOk (by omega) h;have fS:∀H,H S=none->JP X a_ H S:=λH' h=>I.fpOk (by omega) h;have fF:H a=none:=I.hok.fresh (by omega);have gi:H S=none:=I.hok.fresh (by omega);have gI:((s.heap.push {cls:=.type "list_iterator",data:=.fields #[.ref l,.int 0 0]}).push (ZM #[] 0)).get? a=some {cls:=.type "list_iterator",data:=.fields #[.ref l,.int 0 0]}:=by
  rw[<-hae];exact tj _ (tR _ rfl)
 have gS:((s.heap.push {cls:=.type "list_iterator",data:=.fields #[.ref l,.int 0 0]}).push (ZM #[] 0)).get? S=some (ZM #[] 0):=by
  rw[<-hSe];exact tR _ rfl
 have I0:qw X a_ σ H {s with heap:=(s.heap.push {cls:=.type "list_iterator",data:=.fields #[.ref l,.int 0 0]}).push (ZM #[] 0)}:=I.kept (t':=s.toks) λb o e=>tj _ (tj _ e);have I1:qw X (a_++[(S,ZM #[] 0),(a,{cls:=.type "list_iterator",data:=.fields #[.ref l,.int 0 0]})]) σ H {s with heap:=(s.heap.push {cls:=.type "list_iterator",data:=.fields #[.ref l,.int 0 0]}).push (ZM #[] 0)}:=I0.pins_of λp hp=>by
  rcases tT.mp hp with z | z
  ·exact I0.pin p (tv _ z)
  ·rcases tI.mp z with rfl | z
   ·exact⟨gS,gi,(fS H gi).2.1,(fS H gi).2.2.1,λv z=>by cases z⟩
   ·rw[tQ.mp z];exact⟨gI,fF,(fa H fF).2.1,(fa H fF).2.2.1,λv z=>by cases z⟩
 refine zdX ⟨plainId_quiet zaK _,?_⟩;obtain⟨its,rv,pl,hz⟩:=I1.list (gf _ hR);have hsz:its.toArray.size=xs.length:=by rw[tU];exact rv.length.symm
 have W:=Walks.list (prog:=X.prog) (w:=X.w) (A:=X.A.in1) (I.ok.hd hc) a l gp its.toArray;refine codeAny_builtin zck ?_;rw[Around.under_plainId zaK _];show wpAny _ X.A.in1 (seqItems? (.ref _) >>= _) _ _ _;refine zdW (wpAny_seqItems gS rfl ?_);show wpAny _ X.A.in1 (tryCatch (pyNext (.ref a)) _ >>= _) _ _ _;refine zdW (wpAny_tryCatch (W.item 0 _ _ _ (by rw[hsz];exact gF) ⟨⟨_,gI,rfl,rfl⟩,pl.isList⟩ λv h' fV hP fZ gq=>?_));have hv:its[0]?=some v:=by simpa using hP
 obtain⟨x,hx⟩:∃x,xs[0]?=some x:=⟨_,th gF⟩;obtain⟨v',gm,rx⟩:=rv.get hx;rw[hv]at gm;cases gm;obtain⟨fq,f6,gc,gb⟩:=id fZ.1;have gC:∀v,fq.data≠.cell v:=λv z=>by rw[gb]at z;cases z
 have I2:qw X (a_++[(S,ZM #[] 0),(a,fq)]) σ H {s with heap:=h',toks:=fV}:=by
  refine I1.shift (a_:=a_) (b:=a) (o':=fq) (λp hp=>?_) (fa H fF) (λp hp n=>.inr n) (λb o hb e=>gq b o (by simpa using hb) e) f6 gC;rcases tT.mp hp with z | z
  ·exact .inr ⟨tY _ z,(fa H fF).2.2.2.2.2 p (tv _ z)⟩
  ·rcases tI.mp z with rfl | z
   ·exact .inr ⟨tv _ (.head _),fJ⟩
   ·rw[tQ.mp z];exact .inl ⟨rfl,rfl⟩
 show wpAny _ X.A.in1 (tryCatch (holding [v] (call (.ref q) [v])) _ >>= _) _ _ _;refine zdW (wpAny_tryCatch (wpAny_holding (wpAny_mono (fG 0 x v _ H _ hx rx I2 hR) (λu s2 he=>?_) λ_ _ hF=>hF.elim)));obtain⟨y,H2,I3,ry,rfl,gy⟩:=he;obtain⟨t2,rfl⟩:=ry;obtain⟨f7,gs,_⟩:=I3.pin (S,_) (tv _ (tv _ (.head _)));obtain⟨gA,h9,_⟩:=I3.pin (a,_) (tv _ (tv _ (.tail _ (.head _))));have s3:=zcC.update s2.heap S (Obj.mapSeq λ_=>#[v,.int (kf 0) t2]);obtain⟨c2,gh⟩:∃c2,(s2.heap.update S (Obj.mapSeq λ_=>#[v,.int (kf 0) t2])).get? S=some (seqObj "list" #[v,.int (kf 0) t2] c2):=⟨_,get?_update_seq f7 λ_=>#[v,.int (kf 0) t2]⟩;show wpAny _ X.A.in1 (updateSeq S (λ_=>#[v,.int (kf 0) t2]) >>= _) _ _ _;refine zdW ?_;refine wpAny_updateSeq f7 rfl ?_;rw[fj];have I4:qw X (a_++[(S,ZM #[v,.int (kf 0) t2] c2),(a,fq)]) σ H2 {s2 with heap:=s2.heap.update S (Obj.mapSeq λ_=>#[v,.int (kf 0) t2]),toks:=s2.toks}:=by
  refine I3.shift (a_:=a_) (b:=S) (o':=ZM #[v,.int (kf 0) t2] c2) (λp hp=>?_) (fS H2 gs) (λp hp n=>.inr n) (λb o hb e=>(s3.2 b hb).trans e) gh (λv z=>by cases z);rcases tT.mp hp with z | z
  ·exact .inr ⟨tY _ z,(fS H2 gs).2.2.2.2.2 p (tv _ z)⟩
  ·rcases tI.mp z with rfl | z
   ·exact .inl ⟨rfl,rfl⟩
   ·rw[tQ.mp z];exact .inr ⟨tv _ (.tail _ (.head _)),λq=>fJ q.symm⟩
 refine zdX ⟨plainId_quiet zaK _,K4 (R:=R) (Z:=λr s'=>match r with | .ok (.ret v)=>Q v s' | .ok _=>False | .error e=>E e s') hc kf gf gp fJ fa fS fG (λi x v H1 s1 h1 h2 h3 h4 h5=>done i x v H1 s1 h1 h2 h3 h4 h5) _ 0 0 _ H2 x v t2 c2 fq rfl gF I4 gy ⟨fq,(s3.2 a λq=>fJ q.symm).trans gA,gc,gb⟩ hx rx (tc _) λj' gG=>?_⟩;have e:j'=0:=by omega
 subst e;exact⟨by omega,λh=>absurd h (zal _)⟩
open PyProof.Rows hiding K lo
def Wd(X:Cx)(H:Hp)(a:List (Str×V)):Prop:=∀x v,(x,v)∈a->∃a co u,X.env.cells.lookup x=some a/\H a=some (Z9 co)/\co.data=.cell (some u)/\qM v u
def Wd.mono(h:Wd X H e)(s:qi H g):Wd X g e:=λx v e=>let ⟨g,co,u,a,b,c,d⟩:=h x v e;⟨g,co,u,a,s _ _ b,c,d⟩
def C0(X:Cx)(fr:List (Str×Nat))(u:TS):TS:=λD b H=>∀a,qi H a->(∀c:List (Str×V),(∀d∈c,∃i,(d.1,i)∈fr/\b[i]?=some (some d.2))->Wd X a c)->u D b a
open Classical in
def NG{X:Cx}{st:List Stmt}{u:TS}{fr:List (Str×Nat)}(j:∀p∈fr,X.env.scope.names.lookup p.1=some .cell/\X.N[p.2]?=some p.1)(r:∀x,X.fn x=true)(y:JSs X.shut st u):PB X st (C0 X fr u):=by
 intro B s C H D I h;have J:∀p∈fr,∃c,X.env.cells.lookup p.1=some c:=λp d=>I.ok.has p.1 (.inl (j p d).1);let l:Addr->Option Obj:=λb=>if ∃p∈fr,X.env.cells.lookup p.1=some b then s.heap.get? b else none
 have g:∀b a,l b=some a->∃x v,X.env.cells.lookup x=some b/\X.fn x=true/\s.heap.get? b=some a/\a.data=.cell v:=λb a e=>by
  rcases Classical.em (∃p∈fr,X.env.cells.lookup p.1=some b) with z | z
  ·have o:s.heap.get? b=some a:=(if_pos z).symm.trans e;obtain⟨p,d,q⟩:=z;obtain⟨v,_,d,hd⟩:=I.cell p.1 b q;rw[o]at d;cases d;exact⟨p.1,v,q,r p.1,o,hd⟩
  ·have:l b=none:=if_neg z;rw[this]at e;cases e
 have o:=I.catchN g;refine jg (y.to B s C _ D (I.catch l g) (h _ (λb a e=>Jm o e) λ_ o x v q=>?_)) λ_ _ z=>⟨λ_=>false,z⟩;obtain⟨i,g,r⟩:=o (x,v) q;obtain⟨q,o⟩:=J _ g;obtain⟨_,a,d,hd⟩:=I.cell x q o;have B:l q=some a:=(if_pos ⟨_,g,o⟩).trans d;obtain⟨m,_,l⟩:=I.loc;obtain⟨C,J,lk⟩:=l i x v (j _ g).2 r (.inr (.inl (j _ g).1));rcases lk with ⟨k,_⟩ | ⟨_,y,l,O,r,L⟩
 ·have y:X.env.scope.names.lookup x=some .local:=k;rw[(j _ g).1]at y;cases y
 ·rw[o]at l;cases l;rw[d]at r;cases r;exact⟨q,a,C,o,zU B,L,J⟩
def C7(X:Cx)(P:Addr)(qual:Str)(ag:Arguments)(be:Expr)(sc:Scope)(fr:List Str):TE:=λ_ H Q=>(∃a,H P=some (.tbl #[.str qual a]))/\∃a,a.map (·.1)=fr/\Wd X H a/\∀f c b,qi H b->H f=none->kK b P f qual ag be sc c a->Q (.ref f) b
def Mm{X:Cx}{sc:Scope}{fr:List Str}(g:Yw X.mg X.base c P)(aa:X.env.code=.ref c)(i:X.env.qual++"<lambda>"=qual)(j:(sc.names.all λx=>x.2 != .free || (X.env.scope.names.lookup x.1==some .cell&&fr.contains x.1))=true)(T:∀x∈fr,(x,NameKind.free)∈sc.names)(l:defaultsOf ag X.env=([],[]):=by rfl):JE X (.Lambda ag be sc pos) (C7 X P qual ag be sc fr):=.of (by
 intro _ s _ H Q I h;obtain⟨⟨m,J⟩,p,C,U,h⟩:=h;obtain⟨Y,L,O,cs⟩:=(show qQ X.prog X.w H s.heap P (.tbl #[.str qual m]) from I.hok P _ J);refine PySem.W.kla_eval l ?_;rw[i];have hg:s.heap.Ns mainGlobals X.mg:=I.ok.mod.glob.keeps I.bk;have CH:=g.code.keeps I.bk;have hb:s.heap.BuiltinsAt X.mg P:=by
  obtain⟨i,B,l,m,o,r,D,b6⟩:=g.blt;exact⟨i,B,l,m,o,r,I.bk _ _ D,b6⟩
 have ae:mainGlobals≠P:=λz=>by
  obtain⟨B,_,_,e,_⟩:=I.ok.mod.glob;have:=(I.bs _ _ e).2;rw[z,J]at this;cases this
 have D:∀x,(x,NameKind.free)∈sc.names->X.env.scope.names.lookup x=some .cell/\x∈fr:=λx i=>by
  have:=zag.mp j _ i;simp only[bne_self_eq_false,Bool.false_or,zae,beq_iff_eq,List.contains_iff_mem]at this;exact this
 have j:∀x,(x,NameKind.free)∈sc.names->∃c,X.env.cells.lookup x=some c:=λx i=>I.ok.has x (.inl (D x i).1);have ab:closureFor sc X.env=pure (qK X.env sc.names []):=QK λx i e=>j x.1 (by rw[<-e];exact i);have af:∀x,(x,NameKind.free)∈sc.names->∀l,X.env.cells.lookup x=some l->(qK X.env sc.names []).lookup x=some l:=λx i l e=>by
  obtain⟨c2,g⟩:=Jl (env:=X.env) (cs:=[]) (.inl i);rcases j1 g with z | ⟨_,z⟩
  ·simp at z
  ·rw[e]at z;rw[g,z];rfl
 have look:∀x c,(qK X.env sc.names []).lookup x=some c->(x,NameKind.free)∈sc.names/\X.env.cells.lookup x=some c:=λx c e=>by
  rcases j1 e with z | ⟨m,o⟩
  ·simp at z
  ·obtain⟨c2,g⟩:=j x m;rw[g]at o;exact⟨m,by rw[g,o];rfl⟩
 have inj:∀x y c,(qK X.env sc.names []).lookup x=some c->(qK X.env sc.names []).lookup y=some c->x=y:=λx y c j g=>I.ok.inj x y c (look x c j).2 (look y c g).2;have ac:∀{f g:Addr} {pm j:Value} {m:Obj} {o:Hp},qi H o->o f=some (Z9 (zbA "<lambda>" qual ag be sc (qK X.env sc.names []) pm g j))->o g=some (.frz m (.own P))->kJ qual m->kK o P f qual ag be sc (zdy "<lambda>" qual ag be sc (qK X.env sc.names []) pm (.ref g) j) p:=
  λ{f g pm j m o} o r p e3=>⟨pm,j,g,_,m,rfl,r,p,e3,inj,λx c z=>by rw[C];exact(D x (look x c z).1).2,λx v i=>by
   obtain⟨l,co,u,a,b,d,e⟩:=U x v i;have:x∈fr:=by rw[<-C];exact tl.mpr ⟨(x,v),i,rfl⟩
   exact⟨l,co,u,af x (T x this) l a,o _ _ b,d,e⟩⟩
 cases T:codeAmong pos Y.toList with
 | none=>
  refine PySem.W.kla_makeFunction (mg:=X.mg) ab I.ok.glob hg aa CH L O T ae hb λg j l tk i U Y ah ai=>?_;obtain⟨c2,m,C,t,p,aj,hd,D⟩:=ah;cases p;have ak:H g=none:=I.hok.fresh U;have p:H l.objs.size=none:=I.hok.fresh (t6 (zat U Y));have o:qi H (upd (upd H g (.frz m (.own P))) l.objs.size (Z9 (zbA "<lambda>" qual ag be sc (qK X.env sc.names []) ((X.mg "__name__").getD .none) g j))):=λb u e=>by
   rw[qg (qt e p),qg (qt e ak)];exact e
  exact⟨.ref _,_,I.made_def J L O cs i U Y aj ⟨C,t,hd,D⟩ ai rfl,rfl,h _ _ _ o p (ac o qa (by rw[qg (tW Y),qa]) ⟨C,t,hd,D⟩)⟩
 | some J=>
  obtain⟨g,m,rfl,i,q,t,C,U,Y,hd,D⟩:=cs pos J T;cases Y;refine PySem.W.kla_makeFunctionHit (mg:=X.mg) ab I.ok.glob hg aa CH L O T hb λj l tk J m=>?_;have p:H l.objs.size=none:=I.hok.fresh m;have r:(l.push (zbA "<lambda>" qual ag be sc (qK X.env sc.names []) ((X.mg "__name__").getD .none) g j)).get? l.objs.size=some (zbA "<lambda>" qual ag be sc (qK X.env sc.names []) ((X.mg "__name__").getD .none) g j):=tR l rfl;have o:qi H (upd H l.objs.size (Z9 (zbA "<lambda>" qual ag be sc (qK X.env sc.names []) ((X.mg "__name__").getD .none) g j))):=λb u e=>by
   rw[qg (qt e p)];exact e
  exact⟨.ref _,_,I.laid (t':=tk) (o:=Z9 (zbA "<lambda>" qual ag be sc (qK X.env sc.names []) ((X.mg "__name__").getD .none) g j)) (λb B e=>tj _ (J b B e)) m ⟨r,r,_,r⟩,rfl,h _ _ _ o p (ac o qa (by rw[qg (qt i p)];exact i) ⟨C,U,hd,D⟩)⟩)
def C3(K:zdU)(C:Addr->zdY->Sp->Prop)(te b:TE):TE:=λa H Q=>te a H λx c=>b a c λy e=>∃(c q:Addr) (a:List V) (g:zdY) (d:Sp) (b:Nat->Int) (R:Hp->Prop),x=.ref c/\y=.ref q/\C q g d/\R e/\(∀G,R G->SqL K G c a)/\0 < a.length/\
 (∀i x G,a[i]?=some x->R G->d [x] G (λy c=>y=.int (b i)/\R c) E0)/\∀i x G,a[i]?=some x->(∀c,c < a.length->b i<=b c/\(c < i->b i < b c))->R G->Q x G
def Mj{X:Cx}{C:Addr->zdY->Sp->Prop}(m:X.calm=true)(o:Gl X "min")(r:X.mg "min"=none)(z:∀f a sp,C f a sp->∃(k:Nat) (x:Str),qp X.prog X.w X.K X.mg X.base qN k f a [x] sp/\je (k+1) X.A/\jN X.K a [x] [])(b:JE X e te)(d:JE X g j)(hs:starEach [e] X.env=[(false,eval e X.env)]:=by rfl)(B:backTo pos (starEach [e] X.env)=(false,eval e X.env)::backTo pos (starEach [] X.env):=by rfl)(D:(backTo pos (starEach [e] X.env)).any (·.1)=false:=by rfl):JE X (.Call (.Name "min" p) [e] [⟨some "key",g,l⟩] pos) (C3 X.K C te j):=.of (by
 have b:=b.to;have d:=d.to;intro j s l H Q I h;refine wpAny_Call_Name_kw (QS I o r boot_min (PyProof.Rows.callWith_kw (xC hs (jg (b j s l H _ I h) λu b ⟨x,o,r,J,L⟩=>?_)) B D));show wpAny _ _ (evalAll [do let v <-eval g X.env;standAt pos;pure v]) _ _ _;refine PyProof.Rows.evalAll_cons (zdW (jg (d j b l o _ r L) λv _ ⟨y,_,b,d,j⟩=>zdW (wpAny_standAt (zdX (PyProof.Rows.evalAll_nil ?_)))));obtain⟨l,q,_,a,sp,o,R,rfl,rfl,c,r,B,D,L,done⟩:=j;cases J;cases d;obtain⟨k,x,F,hr,J⟩:=z _ _ _ c;show wpAny _ _ (call (.builtin "min") [.ref l] [(zdV "key",.ref q)]) _ _ _;exact wP (R:=R) m o b r B D (λi x v P G l a b d j=>Nv F hr J d (.cons b .nil) (L i x G a j)) λi x v G l a b l d j=>⟨x,G,d,b,done i x G a l j⟩)
open PySem PySem.Spec PySem.Builtin PySem.W
open PyProof.Rows hiding K lo
open PyProof.Rows hiding K lo
open PyProof.Rows hiding K lo
open PyProof.Rows hiding K lo
open PyProof.Rows hiding K lo
open PyProof.Rows hiding K lo
open PyProof.Rows hiding K lo
open PyProof.Rows hiding K lo
def MG{α:Type}{xs:List α}{enc:α->Addr}{fa fb:α->V}{out:α->Option V}{H:Hp}{tt:TT}{te:TE}{Q:Hp->Prop}(p:H D=none)(g:H a=some (.lst (xs.map λx=>V.ref (enc x))))(len:xs.length < zdZ)(r:∀x∈xs,SqT K H (enc x) [fa x,fb x])(u:∀x∈xs,∀G,(∀b o,H b=some o->G b=some o)->∀R:Bool->Hp->Prop,(∀d,(∀b o,G b=some o->d b=some o)->R (out x).isSome d)->tt (some (fa x)::some (fb x)::rest) G R)(z:∀x∈xs,∀v,out x=some v->∀G,(∀b o,H b=some o->G b=some o)->∀R:V->Hp->Prop,(∀d,(∀b o,G b=some o->d b=some o)->R v d)->te (some (fa x)::some (fb x)::rest) G R)(k:∀G,(∀b o,H b=some o->G b=some o)->G D=some (.lst (xs.filterMap out))->Q G):Wh (AV K a) (Ms K 2 (XW (QW 0) (XW (QW 1) Mt))) tt te D (none::none::rest) H Q:=by
 have d:∀b o,H b=some o->upd H D (.lst []) b=some o:=λb o h=>by
  rw[qg (λe=>by rw[e,p]at h;cases h)];exact h
 refine jC (K:=K) (a:=a) (xs:=xs.map λx=>V.ref (enc x)) (λi j G=>(∃v0 v1,j=v0::v1::rest)/\(∀b o,H b=some o->G b=some o)/\G D=some (.lst ((xs.take i).filterMap out))) ⟨⟨none,none,rfl⟩,d,qa⟩ (λi j G _ ⟨_,s,_⟩=>.of (s _ _ g)) ?_ ?_
 ·rintro i y j G d ⟨⟨v0,v1,rfl⟩,s,g⟩;rw[tp]at d;cases l:xs[i]? with
  | none=>rw[l]at d;cases d
  | some x=>
   rw[l]at d;obtain rfl:=(tz.inj d).symm;have m:x∈xs:=tL l;have q:(xs.take (i+1)).filterMap out=(xs.take i).filterMap out++(out x).toList:=by
    rw[tM,l,zab];cases c:out x<;>simp [c]
   have d:SqT K G (enc x) [fa x,fb x]:=by
    rcases r x m with (h | ⟨o,h⟩) | h
    ·exact .inl (.inl (s _ _ h))
    ·exact .inl (.inr ⟨o,s _ _ h⟩)
    ·exact .inr h
   refine⟨enc x,_,rfl,d,rfl,_,_,rfl,_,_,rfl,rfl,?_⟩;show tt (some (fa x)::some (fb x)::rest) G _;refine u x m G s _ λl d=>?_;cases c:out x with
   | none=>
    refine(show if false=true then _ else _ from ?_);rw[if_neg tH];refine⟨⟨_,_,rfl⟩,λb o h=>d _ _ (s _ _ h),?_⟩;rw[q,c];simpa using d _ _ g
   | some v=>
    refine(show if true=true then _ else _ from ?_);rw[if_pos rfl];refine z x m v c l (λb o h=>d _ _ (s _ _ h)) _ λ_ l=>?_;refine⟨_,l _ _ (d _ _ g),?_,⟨_,_,rfl⟩,?_,?_⟩
    ·refine zat (zaN _ _) ?_;rw[tJ];omega
    ·intro b o h;rw[qg (λe=>by rw[e,p]at h;cases h)];exact l _ _ (d _ _ (s _ _ h))
    ·rw[q,c];exact qa
 ·rintro j G ⟨_,s,g⟩;rw[ta,tu (tc _)]at g;exact k G s g
end L2
namespace Rb
def xorAll(ns:List Nat):Nat:=ns.foldl (·^^^ ·) 0
def setN(ns:List Nat):Nat:=ns.foldl (λb n=>b ||| 2^n) 0
def memN(b n:Nat):List Nat:=(t8 n).filter λi=>b.testBit i
def Lacks(r:Nat)(ns:List Nat):Prop:=r∉ns/\∀x,x < r->x∈ns
def B0(x:Nat):x % 2=(x.testBit 0).toNat:=by
 rw[zde];rcases zbk x with h | h<;>simp [h]
def or_and_xor(a:Nat):∀b,(a ||| b)=(a&&& b)+(a^^^b):=by
 induction a using zcx with
 | ind a c=>
  intro b;by_cases d:a=0
  ·subst d;simp
  ·have i:=c (a / 2) (by omega) (b / 2);have c:(a ||| b) / 2=(a / 2) ||| (b / 2):=Nat.or_div_two;have n1:(a&&& b) / 2=(a / 2)&&& (b / 2):=Nat.and_div_two;have c:(a^^^b) / 2=(a / 2)^^^ (b / 2):=Nat.xor_div_two;have m:(a ||| b) % 2=(a&&& b) % 2+(a^^^b) % 2:=by
    rw[B0 (a ||| b),B0 (a&&& b),B0 (a^^^b),Nat.testBit_or,Nat.testBit_and,zbB];cases a.testBit 0<;>cases b.testBit 0<;>rfl
   omega
def GZ(ns:List Nat):∀b k,(ns.foldl (λb n=>b ||| 2^n) b).testBit k=(b.testBit k || decide (k∈ns)):=by
 induction ns with
 | nil=>intro b k;simp
 | cons n ns a=>
  intro b k;rw[zcy,a,Nat.testBit_or,Nat.testBit_two_pow];by_cases h:n=k
  ·subst h;simp
  ·have a:¬k=n:=λe=>h e.symm;simp [h,a]
def testBit_setN(ns:List Nat)(k:Nat):(setN ns).testBit k=decide (k∈ns):=by
 unfold setN;rw[GZ];simp
def mem_memN{b n i:Nat}:i∈memN b n↔i < n/\b.testBit i=true:=by
 unfold memN;simp
def Ue{b k m:Nat}(h:b < 2^m)(a:m<=k):b.testBit k=false:=Nat.testBit_lt_two_pow (tN h (Nat.pow_le_pow_right (by decide) a))
def W2{b m:Nat}(h:b < 2^m):∀n,m<=n->memN b n=memN b m:=by
 intro n a;obtain⟨k,rfl⟩:=Nat.le.dest a;unfold memN;rw[List.range_add,zay];have e:((t8 k).map (m+·)).filter (λi=>b.testBit i)=[]:=by
  rw[zdl];intro i a;obtain⟨_,_,rfl⟩:=tl.mp a;rw[Ue h (Nat.le_add_right _ _)];simp
 rw[e,zam]
def memN_same{b m n:Nat}(a:b < 2^m)(c:b < 2^n):memN b n=memN b m:=by
 by_cases h:m<=n
 ·exact W2 a n h
 ·exact(W2 c m (by omega)).symm
def setN_lt{ns:List Nat}{m:Nat}(h:∀x∈ns,x < m):setN ns < 2^m:=by
 refine Nat.lt_pow_two_of_testBit _ λi _=>?_;rw[testBit_setN];refine decide_eq_false λz=>?_;have:=h i z;omega
def turnN(b n m:Nat):Nat:=setN ((memN b m).map (·^^^n))
def xor_lt{a b m:Nat}(c:a < 2^m)(d:b < 2^m):a^^^b < 2^m:=Nat.xor_lt_two_pow c d
def kM(a b:Nat):(a^^^b)^^^b=a:=by rw[zaU,zbM,zdm]
def kP{b n m k:Nat}(a:m<=2^k)(c:n < 2^k):turnN b n m < 2^ (2^k):=by
 refine setN_lt λx d=>?_;obtain⟨y,e,rfl⟩:=tl.mp d;exact xor_lt (tN (mem_memN.mp e).1 a) c
def pigeon:∀(n:Nat) (ns:List Nat),(∀x,x < n->x∈ns)->n<=ns.length:=by
 intro n;induction n with
 | zero=>intro ns _;exact zac _
 | succ n b=>
  intro ns h;have a:n∈ns:=h n (zaG n);have:=b (ns.erase n) λx c=>(zcw (by omega)).mpr (h x (zch c));rw[zcW a]at this;have b:0 < ns.length:=zaz a;omega
def Lacks.uniq{r s:Nat}{ns:List Nat}(h:Lacks r ns)(g:Lacks s ns):r=s:=by
 rcases zan r s with z | z | z
 ·exact absurd (g.2 r z) h.1
 ·exact z
 ·exact absurd (h.2 s z) g.1
def Za(ns:List Nat):Nat->Nat
 | 0=>0
 | i+1=>if Za ns i∈ns then Za ns i+1 else Za ns i
def km(ns:List Nat):∀i,(∀x,x < Za ns i->x∈ns)/\Za ns i<=i/\(Za ns i < i->Za ns i∉ns):=by
 intro i;induction i with
 | zero=>exact⟨λx a=>absurd a (zdq _),tc _,λh=>absurd h (zal _)⟩
 | succ i c=>
  obtain⟨b,_,d⟩:=c;unfold Za;by_cases h:Za ns i∈ns
  ·rw[if_pos h];refine⟨λx a=>?_,by omega,λ_=>absurd h (d (by omega))⟩;by_cases e:x=Za ns i
   ·rw[e];exact h
   ·exact b x (by omega)
  ·rw[if_neg h];exact⟨b,by omega,λ_=>h⟩
def lackI_lacks(ns:List Nat):Lacks (Za ns (ns.length+1)) ns:=by
 obtain⟨a,_,b⟩:=km ns (ns.length+1);refine⟨b ?_,a⟩;have:=pigeon _ _ a;omega
def lackN(ns:List Nat):Nat:=Za ns (ns.length+1)
def lackN_eq{r:Nat}{ns:List Nat}(h:Lacks r ns):r=lackN ns:=h.uniq (lackI_lacks ns)
def memN_succ(b i:Nat):memN b (i+1)=memN b i++(if b.testBit i then [i] else []):=by
 unfold memN;rw[zcz,zay];congr 1;by_cases h:b.testBit i=true
 ·simp [h]
 ·simp [h]
def testBit_div(b i:Nat):b.testBit i=decide (b / 2^i % 2=1):=by
 rw[Nat.testBit_eq_decide_div_mod_eq]
def xorAll_snoc(ns:List Nat)(n:Nat):xorAll (ns++[n])=xorAll ns^^^n:=by unfold xorAll;rw[zcl];rfl
def setN_snoc(ns:List Nat)(n:Nat):setN (ns++[n])=setN ns ||| 2^n:=by unfold setN;rw[zcl];rfl
end Rb
namespace MLab
def kR:∀(g m:Nat),m < g->∃k,m.testBit k=false/\g.testBit k=true/\∀j,k < j->m.testBit j=g.testBit j:=by
 intro g;induction g using zcx with
 | _ g a=>
  intro m h;by_cases c:m / 2 < g / 2
  ·obtain⟨k,b,d,i⟩:=a (g / 2) (by omega) (m / 2) c;refine⟨k+1,by rw[zbt];exact b,by rw[zbt];exact d,λj a=>?_⟩;cases j with
   | zero=>omega
   | succ j=>rw[zbt,zbt];exact i j (by omega)
  ·have e:m / 2=g / 2:=by omega
   refine⟨0,?_,?_,λj a=>?_⟩
   ·rw[zde];simp;omega
   ·rw[zde];simp;omega
   ·cases j with
    | zero=>omega
    | succ j=>rw[zbt,zbt,e]
def B2{x y:Nat}(k:Nat)(e:x.testBit k=false)(a:y.testBit k=true)(h:∀j,k < j->x.testBit j=y.testBit j):x < y:=by
 rcases zan x y with c | rfl | c
 ·exact c
 ·rw[e]at a;cases a
 ·obtain⟨i,b,g,l⟩:=kR _ _ c;rcases zan i k with d | rfl | d
  ·have:=l k d;rw[e,a]at this;cases this
  ·rw[a]at b;cases b
  ·have:=h i d;rw[b,g]at this;cases this
def jS(ns:List Nat):Nat:=ns.foldr (λa b=>a^^^b) 0
def Zw(a:Nat)(ns:List Nat):jS (a::ns)=a^^^jS ns:=rfl
def V5{k:Nat}:∀{ns:List Nat},(jS ns).testBit k=true->∃n∈ns,n.testBit k=true
 | [],h=>by simp [jS]at h
 | a::ns,h=>by
  rw[Zw,zbB]at h;cases e:a.testBit k with
  | true=>exact⟨a,tE,e⟩
  | false=>
   rw[e,Bool.false_xor]at h;obtain⟨n,b,c⟩:=V5 h;exact⟨n,tA _ b,c⟩
def xq{ns:List Nat}{m:Nat}(h:m < jS ns):∃n∈ns,n^^^jS ns^^^m < n:=by
 obtain⟨k,d,b,e⟩:=kR _ _ h;obtain⟨n,a,c⟩:=V5 b;refine⟨n,a,B2 k ?_ c λa g=>?_⟩
 ·rw[zbB,zbB,c,d,b];rfl
 ·rw[zbB,zbB,e a g];cases n.testBit a<;>cases (jS ns).testBit a<;>rfl
section
variable{α:Type}(G:α->List α)
structure Wa(ok:α->Prop)(num:α->Option Nat)(e_:α->Nat):Prop where
 cl:∀{x y},ok x->y∈G x->ok y
 n1:∀{x n m},ok x->num x=some n->m < n->∃y∈G x,num y=some m/\e_ y < e_ x
 n2:∀{x y n},ok x->num x=some n->y∈G x->num y≠some n
 n3:∀{x y n},ok x->num x=some n->y∈G x->(∀m,num y=some m->n < m)->∃z∈G y,num z=some n/\e_ z < e_ x
 n4:∀{x y n m},ok x->num x=some n->y∈G x->num y=some m->m < n->e_ y < e_ x
 e:∀{x m},ok x->num x=none->(∀j,j < m->∃y∈G x,num y=some j)->(∀y∈G x,num y≠some m)->∃y∈G x,num y=none/\∀z∈G y,num z≠some m
section
variable{β:Type}(M:β->List β)
mutual
inductive YQ:β->Prop
 | mk {a:β} (h:∀b∈M a,Won b):YQ a
inductive Won:β->Prop
 | mk {a b:β} (m:b∈M a) (h:YQ b):Won a
end
end
def mv:List α->List (List α)
 | []=>[]
 | x::h=>(G x).map (λy=>y::h)++(mv h).map (λb=>x::b)
def jH:∀{a b:List α},b∈mv G a↔∃p x y q,a=p++x::q/\y∈G x/\b=p++y::q
 | [],b=>by
  constructor
  ·intro h;simp [mv]at h
  ·rintro⟨p,x,y,q,e,_⟩;simp at e
 | x::h,b=>by
  unfold mv;rw[tT,tl,tl];constructor
  ·rintro(⟨y,hy,rfl⟩ | ⟨b',hb,rfl⟩)
   ·exact⟨[],x,y,h,rfl,hy,rfl⟩
   ·obtain⟨p,u,y,q,rfl,hy,rfl⟩:=jH.mp hb;exact⟨x::p,u,y,q,rfl,hy,rfl⟩
  ·rintro⟨p,u,y,q,e,hy,rfl⟩;cases p with
   | nil=>
    cases e;exact .inl ⟨y,hy,rfl⟩
   | cons v p=>
    cases e;exact .inr ⟨p++y::q,jH.mpr ⟨p,u,y,q,rfl,hy,rfl⟩,rfl⟩
variable{G}{ok:α->Prop}{num:α->Option Nat}{e_:α->Nat}
def jR(num:α->Option Nat)(h:List α):List Nat:=h.filterMap num
def ends(num:α->Option Nat)(h:List α):Nat:=(h.filter λx=>(num x).isNone).length
def V6(a b:List Nat):jS (a++b)=jS a^^^jS b:=by
 induction a with
 | nil=>show jS b=0^^^jS b;rw[zcD]
 | cons x a c=>rw[zcr,Zw,c,Zw,zaU]
def jV{p q:List α}{x:α}{n:Nat}(h:num x=some n):jS (jR num (p++x::q))=n^^^jS (jR num (p++q)):=by
 unfold jR;rw[zab,tZ,h,zab,V6,V6];show _^^^ (n^^^jS _)=_;rw[<-zaU,zdO _ n,zaU]
def Jf{p q:List α}{x:α}(h:num x=none):jR num (p++x::q)=jR num (p++q):=by
 unfold jR;rw[zab,tZ,h,zab]
def qV{p q:List α}{x:α}{n:Nat}(h:num x=some n):ends num (p++x::q)=ends num (p++q):=by
 unfold ends;rw[zay,zbi,h,zay];rfl
def jd{p q:List α}{x:α}(h:num x=none):ends num (p++x::q)=ends num (p++q)+1:=by
 unfold ends;rw[zay,zbi,h,zay,tm,tm];show _+(_+1)=_;omega
def zT(e_:α->Nat)(h:List α):Nat:=(h.map e_).sum
def Qe{p q:List α}{x:α}:zT e_ (p++x::q)=e_ x+zT e_ (p++q):=by
 unfold zT;rw[tw,tG,zbW,zaq,tw,zbW];omega
def zh{a b c:Nat}(h:a^^^c=b^^^c):a=b:=by
 have:a^^^c^^^c=b^^^c^^^c:=by rw[h]
 rwa [zaU,zaU,zbM,zdm,zdm]at this
def zj(L:Wa G ok num e_){h:List α}(d:∀x∈h,ok x){m:Nat}(lt:m < jS (jR num h)):∃p x y q,h=p++x::q/\y∈G x/\(∃n k,num x=some n/\num y=some k)/\jS (jR num (p++y::q))=m/\e_ y < e_ x:=by
 obtain⟨n,c,e⟩:=xq lt;obtain⟨x,b,a⟩:=zas.mp c;obtain⟨p,q,rfl⟩:=zbX b;obtain⟨y,g,c,i⟩:=L.n1 (d x b) a e;refine⟨p,x,y,q,rfl,g,⟨n,_,a,c⟩,?_,i⟩;rw[jV c,jV a];generalize jS (jR num (p++q))=a;rw[<-zaU n n a,zbM,zcD,zdO a m,zaU,zbM,zdm]
def Jw{h p q:List α}{x y:α}(L:Wa G ok num e_)(b:∀x∈h,ok x)(e:h=p++x::q)(c:y∈G x):∀z∈p++y::q,ok z:=λz a=>by
 subst e;rcases tT.mp a with a | a
 ·exact b z (tY _ a)
 ·rcases tI.mp a with rfl | a
  ·exact L.cl (b x (by simp)) c
  ·exact b z (tv _ (tA _ a))
def wo(L:Wa G ok num e_):∀(c:Nat) {h:List α},zT e_ h<=c->(∀x∈h,ok x)->ends num h=0->jS (jR num h)=0->YQ (mv G) h:=by
 intro c;induction c using zcx with
 | _ c v=>
  intro h e d g j;refine .mk λb l=>?_;obtain⟨a,x,y,q,rfl,i,rfl⟩:=(jH G).mp l;have l:=d x (by simp);have o:=Jw L d rfl i;cases d:num x with
  | none=>rw[jd d]at g;omega
  | some n=>
   rw[qV d]at g;rw[jV d]at j;rw[Qe]at e;have B:(∀m,num y=some m->n < m)->Won (mv G) (a++y::q):=λgt=>by
    obtain⟨z,e,p,_⟩:=L.n3 l d i gt;refine .mk (b:=a++z::q) ((jH G).mpr ⟨a,y,z,q,rfl,e,rfl⟩) (v (zT e_ (a++z::q)) (by rw[Qe];omega) (tc _) (Jw L o rfl e) (by rw[qV p];exact g) (by rw[jV p];exact j))
   cases e:num y with
   | none=>exact B λm h=>by rw[e]at h;cases h
   | some k=>
    rcases zan k n with lt | rfl | gt
    ·have p:=L.n4 l d i e lt;have pos:0 < jS (jR num (a++y::q)):=by
      rw[jV e];refine zcK λz=>?_;have:=zh (z.trans j.symm);omega
     obtain⟨p,H,r,u,j,C,⟨_,_,J,O⟩,Q,_⟩:=zj L o pos;have ce:zT e_ (a++y::q)=e_ y+zT e_ (a++q):=Qe;rw[j,Qe]at ce;have D:ends num (a++y::q)=0:=by rw[qV e];exact g
     refine .mk (b:=p++r::u) ((jH G).mpr ⟨p,H,r,u,j,C,rfl⟩) (v (zT e_ (p++r::u)) (by rw[Qe];omega) (tc _) (Jw L o j C) ?_ Q);rw[j,qV J]at D;rw[qV O];exact D
    ·exact absurd e (L.n2 l d i)
    ·exact B λm h=>by rw[e]at h;cases h;exact gt
def Drawn(G:α->List α)(num:α->Option Nat)(h:List α):Prop:=(∃a x q,h=a++x::q/\num x=none/\ends num (a++q)=0/\∀y∈G x,num y≠some (jS (jR num (a++q))))\/2<=ends num h
def QQ{h:List α}:0 < ends num h↔∃p x q,h=p++x::q/\num x=none:=by
 unfold ends;constructor
 ·intro c;obtain⟨x,a⟩:=zbu c;obtain⟨b,d⟩:=tO.mp a;obtain⟨p,q,e⟩:=zbX b;exact⟨p,x,q,e,by simpa using d⟩
 ·rintro⟨p,x,q,rfl,a⟩;exact zaz (a:=x) (tO.mpr ⟨by simp,by rw[a];rfl⟩)
def lack(L:Wa G ok num e_){x:α}(o:ok x)(ex:num x=none):∃m,(∀j,j < m->∃y∈G x,num y=some j)/\(∀y∈G x,num y≠some m)/\∃y∈G x,num y=none/\∀z∈G y,num z≠some m:=by
 have ⟨b,p⟩:∃b,∀y∈G x,num y≠some b:=by
  refine⟨(jR num (G x)).sum+1,λy g e=>?_⟩;have:∀(d:List Nat) (n:Nat),n∈d->n<=d.sum:=by
   intro d;induction d with
   | nil=>intro n h;cases h
   | cons a d i=>
    intro n h;rw[zaq];rcases tI.mp h with rfl | h
    ·omega
    ·have:=i n h;omega
  have q:(jR num (G x)).sum+1∈jR num (G x):=zas.mpr ⟨y,g,e⟩;have:=this _ _ q;omega
 have ⟨m,l,r⟩:∃m,(∀y∈G x,num y≠some m)/\∀j,j < m->¬∀y∈G x,num y≠some j:=by
  induction b using zcx with
  | _ b i=>
   by_cases c:∃j,j < b/\∀y∈G x,num y≠some j
   ·obtain⟨j,d,h⟩:=c;exact i j d h
   ·exact⟨b,p,λj d h=>c ⟨j,d,h⟩⟩
 have lo:∀j,j < m->∃y∈G x,num y=some j:=λj d=>Classical.byContradiction λn=>r j d λy g e=>n ⟨y,g,e⟩;exact⟨m,lo,l,L.e o ex lo l⟩
def Rc(L:Wa G ok num e_){h:List α}(B:∀x∈h,ok x)(d:Drawn G num h):∃b∈mv G h,Drawn G num b:=by
 rcases d with ⟨a,x,q,rfl,j,C,no⟩ | two
 ·have c:=B x (by simp);obtain⟨m,lo,Q,y,D,H,T⟩:=lack L c j;rcases zan m (jS (jR num (a++q))) with lt | e | gt
  ·have g:∀z∈a++q,ok z:=λz c=>B z (by
    rcases tT.mp c with c | c
    ·exact tY _ c
    ·exact tv _ (tA _ c))
   obtain⟨J,O,c,l,r,o,⟨_,_,U,Y⟩,x0,_⟩:=zj L g lt;have fm:∃p2 v,a++x::q∈[a++x::q]/\(p2++x::v)∈mv G (a++x::q)/\p2++v=J++c::l:=by
    rcases List.append_eq_append_iff.mp r with ⟨i,p,g⟩ | ⟨i,p,g⟩
    ·
     refine⟨a,i++c::l,by simp,(jH G).mpr ⟨a++x::i,O,c,l,?_,o,?_⟩,?_⟩
     ·rw[g];simp
     ·simp
     ·rw[p];simp
    ·
     cases i with
     | nil=>
      simp at p g;refine⟨a,c::l,by simp,(jH G).mpr ⟨a++[x],O,c,l,?_,o,?_⟩,?_⟩
      ·rw[<-g];simp
      ·simp
      ·rw[p]
     | cons u i=>
      rw[zcr]at g;obtain⟨rfl,l⟩:=zcF.inj g;refine⟨J++c::i,q,by simp,(jH G).mpr ⟨J,O,c,i++x::q,?_,o,?_⟩,?_⟩
      ·rw[p];simp
      ·simp
      ·rw[l];simp
   obtain⟨p2,v,_,i,g⟩:=fm;refine⟨_,i,.inl ⟨p2,x,v,rfl,j,?_,?_⟩⟩
   ·rw[g,qV Y];rw[r,qV U]at C;exact C
   ·rw[g,x0];exact Q
  ·exact⟨a++y::q,(jH G).mpr ⟨a,x,y,q,rfl,D,rfl⟩,.inl ⟨a,y,q,rfl,H,C,by rw[<-e];exact T⟩⟩
  ·obtain⟨c,o,r⟩:=lo _ gt;exact absurd r (no c o)
 ·obtain⟨a,x,q,rfl,j⟩:=QQ.mp (by omega:0 < ends num h);obtain⟨m,lo,Q,y,D,H,T⟩:=lack L (B x (by simp)) j;refine⟨a++y::q,(jH G).mpr ⟨a,x,y,q,rfl,D,rfl⟩,.inr ?_⟩;rw[jd j]at two;rw[jd H];exact two
def Zero(num:α->Option Nat)(h:List α):Prop:=ends num h=0/\jS (jR num h)=0
def xp(L:Wa G ok num e_){h b:List α}(g:∀x∈h,ok x)(z:Zero num h)(m:b∈mv G h):¬Zero num b:=λw=>by
 obtain⟨_,x,y,q,rfl,i,rfl⟩:=(jH G).mp m;cases a:num x with
 | none=>have:=z.1;rw[jd a]at this;omega
 | some n=>
  cases c:num y with
  | none=>have:=w.1;rw[jd c]at this;omega
  | some k=>
   have d:=z.2;have e:=w.2;rw[jV a]at d;rw[jV c]at e;have:=zh (d.trans e.symm);subst this;exact L.n2 (g x (by simp)) a i c
def zd{h b:List α}(d:Drawn G num h)(m:b∈mv G h):¬Zero num b:=λw=>by
 obtain⟨l,u,y,o,rfl,r,rfl⟩:=(jH G).mp m;cases i:num u with
 | some n=>
  have pos:0 < ends num (l++u::o):=by
   rcases d with ⟨c,x,q,e,p,_⟩ | two
   ·exact QQ.mpr ⟨c,x,q,e,p⟩
   ·omega
  rw[qV i]at pos;have j:=w.1;cases g:num y with
  | none=>rw[jd g]at j;omega
  | some k=>rw[qV g]at j;omega
 | none=>
  have j:=w.1;cases g:num y with
  | none=>rw[jd g]at j;omega
  | some k=>
   rw[qV g]at j;rcases d with ⟨c,x,q,e,p,j,no⟩ | two
   ·have hu:u∈c++x::q:=by rw[<-e];simp
    have j:u=x:=Classical.byContradiction λne=>by
     have:u∈c++q:=by
      rcases tT.mp hu with h | h
      ·exact tY _ h
      ·rcases tI.mp h with h | h
       ·exact absurd h ne
       ·exact tv _ h
     obtain⟨a,b,p⟩:=zbX this;have:=QQ.mpr ⟨a,u,b,p,i⟩;omega
    subst j;have p:jR num (l++o)=jR num (c++q):=by rw[<-Jf (p:=l) (q:=o) i,e,Jf i]
    have j:=w.2;rw[jV g,p]at j;have:k=jS (jR num (c++q)):=zh (c:=jS (jR num (c++q))) (by rw[j,zbM]);exact no y r (by rw[g,this])
   ·rw[jd i]at two;omega
def kind(L:Wa G ok num e_){h:List α}(j:∀x∈h,ok x):Zero num h\/Drawn G num h\/∃b∈mv G h,Zero num b/\∀x∈b,ok x:=by
 rcases zan (ends num h) 1 with c | c | c
 ·have i:ends num h=0:=by omega
  by_cases l:jS (jR num h)=0
  ·exact .inl ⟨i,l⟩
  ·obtain⟨a,x,y,q,e,g,⟨n,k,m,o⟩,p,_⟩:=zj L j (zcK l);refine .inr (.inr ⟨a++y::q,(jH G).mpr ⟨a,x,y,q,e,g,rfl⟩,⟨?_,p⟩,Jw L j e g⟩);rw[e,qV m]at i;rw[qV o];exact i
 ·obtain⟨a,x,q,rfl,l⟩:=QQ.mp (by omega:0 < ends num h);rw[jd l]at c;have i:ends num (a++q)=0:=by omega
  by_cases d:∃y∈G x,num y=some (jS (jR num (a++q)))
  ·obtain⟨y,g,m⟩:=d;exact .inr (.inr ⟨a++y::q,(jH G).mpr ⟨a,x,y,q,rfl,g,rfl⟩,⟨by rw[qV m];exact i,by rw[jV m,zbM]⟩,Jw L j rfl g⟩)
  ·exact .inr (.inl (.inl ⟨a,x,q,rfl,l,i,λy g e=>d ⟨y,g,e⟩⟩))
 ·exact .inr (.inl (.inr (by omega)))
mutual
def yU(L:Wa G ok num e_){h:List α}(c:∀x∈h,ok x):YQ (mv G) h->Zero num h
 | .mk w=>by
  rcases kind L c with z | d | ⟨b,a,z,g⟩
  ·exact z
  ·obtain⟨b,a,i⟩:=Rc L c d;have g:∀x∈b,ok x:=by
    obtain⟨_,x,y,q,e,j,rfl⟩:=(jH G).mp a;exact Jw L c e j
   exact absurd i (won_is L g (w b a)).1
  ·exact absurd z (won_is L g (w b a)).2
def won_is(L:Wa G ok num e_){h:List α}(a:∀x∈h,ok x):Won (mv G) h->¬Drawn G num h/\¬Zero num h
 | .mk (b:=b) m c=>by
  have g:∀x∈b,ok x:=by
   obtain⟨_,x,y,q,e,i,rfl⟩:=(jH G).mp m;exact Jw L a e i
  have z:=yU L g c;exact⟨λd=>zd d m z,λc=>xp L a c m z⟩
end
def Jg(L:Wa G ok num e_){h:List α}(a:∀x∈h,ok x):YQ (mv G) h↔Zero num h:=⟨yU L a,λz=>wo L _ (tc _) a z.1 z.2⟩
def Vo(L:Wa G ok num e_){h:List α}(c:∀x∈h,ok x):Won (mv G) h↔¬Drawn G num h/\¬Zero num h:=⟨won_is L c,λ⟨d,z⟩=>by
 rcases kind L c with a | e | ⟨b,g,a,i⟩
 ·exact absurd a z
 ·exact absurd e d
 ·exact .mk g ((Jg L i).mpr a)⟩
end
section
variable{α:Type}[DecidableEq α](G:α->List α)(N:List α)
abbrev Rs(α:Type):=List (Nat×List α)
def qE(rs:Rs α)(z:α):Option Nat:=(rs.find? λa=>decide (z∈a.2)).map (·.1)
def JF(rs:Rs α)(z:α):Nat:=rs.findIdx λa=>decide (z∈a.2)
def CK(f:α->Option Nat)(x:α)(n:Nat):Prop:=(∀a,a < n->∃y∈G x,f y=some a)/\(∀y∈G x,f y≠some n)/\∀y∈G x,f y=none->∃z∈G y,f z=some n
structure xn(rs:Rs α)(n:Nat)(ns:List α):Prop where
 iff:∀x,x∈ns↔x∈N/\qE rs x=none/\CK G (qE rs) x n
 sub:ns.Sublist N
inductive J7(n:Nat):Rs α->Rs α->Prop
 | stop {rs:Rs α} (h:xn G N rs n []):J7 n rs rs
 | more {rs rs':Rs α} {ns:List α} (h:xn G N rs n ns) (ne:ns≠[]) (k:J7 n (rs++[(n,ns)]) rs'):J7 n rs rs'
inductive All:Nat->Rs α->Rs α->Prop
 | stop {n:Nat} {rs:Rs α} (h:xn G N rs n []):All n rs rs
 | more {n:Nat} {rs rs' gk:Rs α} (h:J7 G N n rs rs') (ne:rs'≠rs) (k:All (n+1) rs' gk):All n rs gk
variable{G N}
def Zq{rs:Rs α}{n:Nat}{ns:List α}{z:α}:qE (rs++[(n,ns)]) z=match qE rs z with | some m=>some m | none=>if z∈ns then some n else none:=by
 unfold qE;rw[List.find?_append];cases e:rs.find? (λa=>decide (z∈a.2)) with
 | some a=>rfl
 | none=>
  by_cases c:z∈ns
  ·simp [c]
  ·simp [c]
def Xd{rs:Rs α}{z:α}:qE rs z=none↔∀r∈rs,z∉r.2:=by
 unfold qE;rw[Option.map_eq_none_iff,zdF];simp
def JU{rs:Rs α}{n m:Nat}{ns:List α}{z:α}(h:qE rs z=some m):JF (rs++[(n,ns)]) z=JF rs z/\JF rs z < rs.length:=by
 have c:∃a∈rs,z∈a.2:=Classical.byContradiction λno=>by
  have:=Xd.mpr λa hr b=>no ⟨a,hr,b⟩;rw[h]at this;cases this
 obtain⟨a,hr,b⟩:=c;have lt:JF rs z < rs.length:=List.findIdx_lt_length_of_exists ⟨a,hr,decide_eq_true b⟩;refine⟨?_,lt⟩;unfold JF at lt ⊢;rw[zdA,if_pos lt]
def Nq{rs:Rs α}{n:Nat}{ns:List α}{z:α}(h:qE rs z=none)(hz:z∈ns):JF (rs++[(n,ns)]) z=rs.length:=by
 have e:JF rs z=rs.length:=by
  unfold JF;rw[List.findIdx_eq_length];intro a hr;exact decide_eq_false (Xd.mp h a hr)
 unfold JF at e ⊢;rw[zdA,if_neg (by rw[e];exact zal _)];simp [hz,List.findIdx_cons]
variable(G N) in
structure AR(rs:Rs α)(n:Nat):Prop where
 inN:∀{x m},qE rs x=some m->x∈N
 le:∀{x m},qE rs x=some m->m<=n
 n1:∀{x k m},qE rs x=some k->m < k->∃y∈G x,qE rs y=some m/\JF rs y < JF rs x
 n2:∀{x y k},qE rs x=some k->y∈G x->qE rs y≠some k
 n3:∀{x y k},qE rs x=some k->y∈G x->(∀m,qE rs y=some m->k < m)->∃z∈G y,qE rs z=some k/\JF rs z < JF rs x
 n4:∀{x y k m},qE rs x=some k->y∈G x->qE rs y=some m->m < k->JF rs y < JF rs x
def zN{rs:Rs α}{n m:Nat}{ns:List α}{z:α}(h:qE rs z=some m):qE (rs++[(n,ns)]) z=some m:=by rw[Zq,h]
def AO{rs:Rs α}{n:Nat}{ns:List α}{z:α}(h:qE rs z=none)(hz:z∈ns):qE (rs++[(n,ns)]) z=some n:=by
 rw[Zq,h];exact if_pos hz
def Qi{rs:Rs α}{n m:Nat}{ns:List α}{z:α}(h:qE (rs++[(n,ns)]) z=some m):(qE rs z=some m/\JF (rs++[(n,ns)]) z=JF rs z/\JF rs z < rs.length)\/(qE rs z=none/\z∈ns/\m=n/\JF (rs++[(n,ns)]) z=rs.length):=by
 cases e:qE rs z with
 | some k=>
  rw[zN e]at h;cases h;exact .inl ⟨rfl,JU e⟩
 | none=>
  rw[Zq,e]at h;by_cases c:z∈ns
  ·have h:(if z∈ns then some n else none)=some m:=h;rw[if_pos c]at h;cases h;exact .inr ⟨rfl,c,rfl,Nq e c⟩
  ·have h:(if z∈ns then some n else none)=some m:=h;rw[if_neg c]at h;cases h
def G5{rs:Rs α}{n:Nat}{ns:List α}{z:α}(h:qE (rs++[(n,ns)]) z=none):qE rs z=none:=by
 cases e:qE rs z with
 | none=>rfl
 | some k=>rw[zN e]at h;cases h
def AR.more{rs:Rs α}{n:Nat}{ns:List α}(v:AR G N rs n)(r:xn G N rs n ns):AR G N (rs++[(n,ns)]) n:=by
 refine⟨λ{x m} h=>?_,λ{x m} h=>?_,λ{x k m} h lt=>?_,λ{x y k} h a e=>?_,λ{x y k} h a gt=>?_,λ{x y k m} h a b lt=>?_⟩
 ·rcases Qi h with ⟨h,_⟩ | ⟨_,h,_⟩
  ·exact v.inN h
  ·exact((r.iff x).mp h).1
 ·rcases Qi h with ⟨h,_⟩ | ⟨_,_,rfl,_⟩
  ·exact v.le h
  ·exact tc _
 ·rcases Qi h with ⟨h,c,_⟩ | ⟨h,i,rfl,c⟩
  ·obtain⟨y,a,b,d⟩:=v.n1 h lt;exact⟨y,a,zN b,by rw[c,(JU b).1];exact d⟩
  ·obtain⟨y,a,b⟩:=((r.iff x).mp i).2.2.1 m lt;exact⟨y,a,zN b,by rw[c,(JU (n:=k) (ns:=ns) b).1];exact(JU (n:=k) (ns:=ns) b).2⟩
 ·rcases Qi h with ⟨h,_⟩ | ⟨h,i,rfl,_⟩
  ·rcases Qi e with ⟨e,_⟩ | ⟨l,j,o,_⟩
   ·exact v.n2 h a e
   ·obtain⟨z,g,d,_⟩:=v.n3 h a (λm q=>by rw[l]at q;cases q);rw[o]at d;exact((r.iff y).mp j).2.2.2.1 z g d
  ·have l:=((r.iff x).mp i).2.2;rcases Qi e with ⟨e,_⟩ | ⟨e,j,_,_⟩
   ·exact l.2.1 y a e
   ·obtain⟨z,g,d⟩:=l.2.2 y a e;exact((r.iff y).mp j).2.2.2.1 z g d
 ·rcases Qi h with ⟨h,c,_⟩ | ⟨h,i,rfl,c⟩
  ·obtain⟨z,g,d,j⟩:=v.n3 h a (λm q=>gt m (zN q));exact⟨z,g,zN d,by rw[c,(JU d).1];exact j⟩
  ·have bare:qE rs y=none:=by
    cases e:qE rs y with
    | none=>rfl
    | some m=>
     have:=gt m (zN e);have:=v.le e;omega
   obtain⟨z,g,d⟩:=((r.iff x).mp i).2.2.2.2 y a bare;exact⟨z,g,zN d,by rw[c,(JU (n:=k) (ns:=ns) d).1];exact(JU (n:=k) (ns:=ns) d).2⟩
 ·rcases Qi h with ⟨h,c,_⟩ | ⟨h,i,rfl,c⟩
  ·rcases Qi b with ⟨b,d,_⟩ | ⟨_,_,em,_⟩
   ·rw[c,d];exact v.n4 h a b lt
   ·have:=v.le h;omega
  ·rcases Qi b with ⟨b,d,a⟩ | ⟨_,_,rfl,_⟩
   ·rw[c,d];exact a
   ·omega
variable(G N) in
def EP(rs:Rs α)(m:Nat):Prop:=∀x∈N,qE rs x=none->(∀a,a < m->∃y∈G x,qE rs y=some a)->(∀y∈G x,qE rs y≠some m)->∃y∈G x,qE rs y=none/\∀z∈G y,qE rs z≠some m
def G7{rs:Rs α}{n:Nat}(r:xn G N rs n []):EP G N rs n:=λx a e lo b=>Classical.byContradiction λno=>by
 refine absurd ((r.iff x).mpr ⟨a,e,lo,b,λy a b=>Classical.byContradiction λq=>no ⟨y,a,b,λz a b=>q ⟨z,a,b⟩⟩⟩) (by simp)
def Mx{rs:Rs α}{n m:Nat}{ns:List α}(v:AR G N rs n)(r:xn G N rs n ns)(lt:m < n)(h:EP G N rs m):EP G N (rs++[(n,ns)]) m:=λx j e lo l=>by
 have fh:∀{z b},b<=m->qE (rs++[(n,ns)]) z=some b->qE rs z=some b:=λ{z b} g a=>by
  rcases Qi a with ⟨a,_⟩ | ⟨_,_,rfl,_⟩
  ·exact a
  ·omega
 obtain⟨y,c,d,i⟩:=h x j (G5 e) (λb g=>let ⟨y,c,d⟩:=lo b g;⟨y,c,fh (by omega) d⟩) (λy c d=>l y c (zN d));refine⟨y,c,?_,λz b a=>i z b (fh (tc _) a)⟩;cases q:qE (rs++[(n,ns)]) y with
 | none=>rfl
 | some k=>
  rcases Qi q with ⟨q,_⟩ | ⟨_,c,rfl,_⟩
  ·rw[d]at q;cases q
  ·obtain⟨z,b,a⟩:=((r.iff y).mp c).2.2.1 m lt;exact absurd a (i z b)
def Mq{n:Nat}{rs a:Rs α}(g:J7 G N n rs a):AR G N rs n->(∀m,m < n->EP G N rs m)->AR G N a n/\∀m,m<=n->EP G N a m:=by
 induction g with
 | stop a=>exact λv h=>⟨v,λm b=>by
  rcases zbd m n with c | c
  ·exact h m c
  ·have:m=n:=by omega
   subst this;exact G7 a⟩
 | more a ne k d=>exact λv h=>d (v.more a) λm b=>Mx v a b (h m b)
def Cw(cl:∀x∈N,∀y∈G x,y∈N){n:Nat}{rs b:Rs α}(a:All G N n rs b):AR G N rs n->(∀x m,qE rs x=some m->m < n)->(∀m,m < n->EP G N rs m)->Wa G (·∈N) (qE b) (JF b):=by
 induction a with
 | @stop n rs g=>
  intro v lt h;refine⟨λ{x y} b d=>cl x b y d,λ{x n m} _=>v.n1,λ{x y n} _=>v.n2,λ{x y n} _=>v.n3,λ{x y n m} _=>v.n4,λ{x m} b e lo d=>?_⟩;rcases zan m n with c | rfl | c
  ·exact h m c x b e lo d
  ·exact G7 g x b e lo d
  ·obtain⟨y,_,b⟩:=lo n c;have:=lt y n b;omega
 | @more n rs b i d ne k g=>
  intro v lt h;obtain⟨b,i⟩:=Mq d v h;exact g ⟨b.inN,λ{x m} e=>Nat.le_succ_of_le (b.le e),b.n1,b.n2,b.n3,b.n4⟩ (λx m e=>Nat.lt_succ_of_le (b.le e)) λm _=>i m (by omega)
def RE(n:Nat):AR G N ([]:Rs α) n:=⟨λh=>(nomatch h),λh=>(nomatch h),λh=>(nomatch h),λh=>(nomatch h),λh=>(nomatch h),λh=>(nomatch h)⟩
def Ym(cl:∀x∈N,∀y∈G x,y∈N){rs:Rs α}(a:All G N 0 [] rs):Wa G (·∈N) (qE rs) (JF rs):=Cw cl a (RE 0) (λx m h=>(nomatch h)) λm h=>absurd h (zdq m)
end
end MLab
namespace Rb
def QZ{b n k:Nat}(d:n < 16):(turnN b n 16).testBit k=(decide (k < 16)&&b.testBit (k^^^n)):=by
 unfold turnN;rw[testBit_setN,zaE,decide_eq_true_iff,zae,decide_eq_true_iff,tl];constructor
 ·rintro⟨y,e,rfl⟩;obtain⟨a,c⟩:=mem_memN.mp e;exact⟨xor_lt (m:=4) a d,by rw[kM];exact c⟩
 ·rintro⟨a,c⟩;exact⟨k^^^n,mem_memN.mpr ⟨xor_lt (m:=4) a d,c⟩,kM k n⟩
def xy{b x y:Nat}(c:x < 16)(a:y < 16):turnN (turnN b x 16) y 16=turnN b (x^^^y) 16:=by
 refine Nat.eq_of_testBit_eq λk=>?_;have d:x^^^y < 16:=xor_lt (m:=4) c a;rw[QZ a,QZ c,QZ d,zaU,zdO y x];by_cases c:k < 16
 ·rw[decide_eq_true c,decide_eq_true (xor_lt (m:=4) c a)];simp
 ·rw[decide_eq_false c];simp
def w6(n:Nat):turnN 0 n 16=0:=by
 unfold turnN;have e:memN 0 16=[]:=by decide
 rw[e];rfl
inductive W where
 | num (n:Nat)
 | edl (b:Nat)
deriving DecidableEq
def zz:W->W->W
 | .num a,.num b=>.num (a^^^b)
 | .num a,.edl b=>.edl (turnN b a 16)
 | .edl b,.num a=>.edl (turnN b a 16)
 | .edl _,.edl _=>.edl 0
def Y0:W->Prop
 | .num n=>n < 16
 | .edl b=>b < 65536
def JL(a:List W):List Nat:=a.filterMap λ| .num n=>some n | .edl _=>none
def QN(a:List W):List Nat:=a.filterMap λ| .num _=>none | .edl b=>some b
def Qv(a:List W):W:=match QN a with
 | []=>.num (xorAll (JL a))
 | [b]=>.edl (turnN b (xorAll (JL a)) 16)
 | _=>.edl 0
def wI(ns:List Nat):∀a,ns.foldl (·^^^ ·) a=a^^^xorAll ns:=by
 induction ns with
 | nil=>intro a;simp [xorAll]
 | cons n ns b=>
  intro a;unfold xorAll;rw[zcy,zcy,b (a^^^n),b (0^^^n),zcD,zaU]
def Yx(n:Nat)(ns:List Nat):xorAll (n::ns)=n^^^xorAll ns:=by
 show ns.foldl (·^^^ ·) (0^^^n)=_;rw[wI,zcD]
def zZ{ns:List Nat}(h:∀x∈ns,x < 16):xorAll ns < 16:=by
 induction ns with
 | nil=>decide
 | cons n ns a=>
  rw[Yx];exact xor_lt (m:=4) (h n (tE ..)) (a λx a=>h x (tA _ a))
def yR{a:List W}(h:∀w∈a,Y0 w):∀x∈JL a,x < 16:=by
 intro x a;obtain⟨w,c,e⟩:=zas.mp a;cases w with
 | num n=>cases e;exact h _ c
 | edl b=>cases e
def wh(a:List W)(w:W):JL (a++[w])=JL a++(match w with | .num n=>[n] | .edl _=>[]):=by
 unfold JL;rw[zab];cases w<;>rfl
def xG(a:List W)(w:W):QN (a++[w])=QN a++(match w with | .num _=>[] | .edl b=>[b]):=by
 unfold QN;rw[zab];cases w<;>rfl
def w9{a:List W}{w:W}(h:∀w∈a,Y0 w)(g:Y0 w):Qv (a++[w])=zz (Qv a) w:=by
 have i:=zZ (yR h);unfold Qv;rw[xG,wh];cases w with
 | num n=>
  simp only[zam];have e:xorAll (JL a++[n])=xorAll (JL a)^^^n:=xorAll_snoc _ _;cases j:QN a with
  | nil=>simp only[e];rfl
  | cons b d=>
   cases d with
   | nil=>
    simp only[e];show W.edl _=W.edl _;rw[xy i g]
   | cons c d=>
    show W.edl 0=W.edl _;rw[w6]
 | edl b=>
  simp only[zam];cases j:QN a with
  | nil=>rfl
  | cons c d=>
   cases d with
   | nil=>rfl
   | cons a d=>rfl
def vH{a:List W}(h:∀w∈a,Y0 w):Y0 (Qv a):=by
 have a:=zZ (yR h);unfold Qv;split
 ·exact a
 ·exact kP (k:=4) (tc _) a
 ·show 0 < 65536;decide
def G0{a:List W}(h:∀w∈a,Y0 w):∀i,i<=a.length->(a.take i).foldl zz (.num 0)=Qv (a.take i):=by
 intro i;induction i with
 | zero=>intro _;rfl
 | succ i c=>
  intro d;have b:i < a.length:=d;have e:a.take (i+1)=a.take i++[a[i]]:=by rw[tM,th b];rfl
  rw[e,zcl,c (t6 b),w9 (λw a=>h w (zbK a)) (h _ (zbj b))];rfl
def vl{a:List W}(h:∀w∈a,Y0 w):a.foldl zz (.num 0)=Qv a:=by
 have:=G0 h a.length (tc _);rw[tu (tc _)]at this;exact this
end Rb
namespace MLab
section
variable{α:Type}(G:α->List α)
variable{G}{ok:α->Prop}{num:α->Option Nat}{e_:α->Nat}
end
section
variable{β:Type}{M:β->List β}
end
section
variable{α:Type}[DecidableEq α]{G:α->List α}{N:List α}
def YS:∀{l m:List α},l.Sublist m->m.Nodup->l=m.filter λx=>decide (x∈l)
 | _,_,.slnil,_=>rfl
 | l,a::m,.cons _ h,b=>by
  rw[zaa]at b;have c:a∉l:=λz=>b.1 (h.subset z);rw[zbi,if_neg (by simpa using c)];exact YS h b.2
 | a::l,_::m,.cons₂ _ h,b=>by
  rw[zaa]at b;rw[zbi,if_pos (by simp)];congr 1;have e:=YS h b.2;refine e.trans (zcm λx c=>?_);have ne:x≠a:=λz=>b.1 (z▸c);simp [ne]
def xn.uniq(nd:N.Nodup){rs:Rs α}{n:Nat}{ns ms:List α}(a:xn G N rs n ns)(b:xn G N rs n ms):ns=ms:=by
 rw[YS a.sub nd,YS b.sub nd];exact zcm λx _=>decide_eq_decide.mpr ((a.iff x).trans (b.iff x).symm)
def J7.uniq(nd:N.Nodup){n:Nat}{rs a b:Rs α}(h:J7 G N n rs a):J7 G N n rs b->a=b:=by
 induction h with
 | stop d=>
  intro k;cases k with
  | stop _=>rfl
  | more c ne _=>exact absurd (c.uniq nd d) ne
 | more d ne k e=>
  intro g;cases g with
  | stop c=>exact absurd (d.uniq nd c) ne
  | more c _ g=>
   have:=d.uniq nd c;subst this;exact e g
def All.uniq(nd:N.Nodup){n:Nat}{rs a b:Rs α}(h:All G N n rs a):All G N n rs b->a=b:=by
 induction h with
 | stop d=>
  intro k;cases k with
  | stop _=>rfl
  | more c ne _=>
   have:=c.uniq nd (J7.stop d);exact absurd this ne
 | more c ne k d=>
  intro e;cases e with
  | stop e=>exact absurd (c.uniq nd (J7.stop e)) ne
  | more e _ g=>
   have:=c.uniq nd e;subst this;exact d g
variable(G N) in
inductive CA:Nat->Rs α->Prop
 | nil:CA 0 []
 | more {n:Nat} {rs rs':Rs α} (h:CA n rs) (g:J7 G N n rs rs'):CA (n+1) rs'
end
section
variable{β:Type}[DecidableEq β]{M:β->List β}
mutual
def zF{a:β}:YQ M a->¬Won M a
 | .mk w=>λ⟨m,b⟩=>won_not (w _ m) b
def won_not{a:β}:Won M a->¬YQ M a
 | .mk m b=>λ⟨w⟩=>zF b (w _ m)
end
variable{Bs:List β}{F:β->Option Bool}{P ln:List β}{lf:β->Nat}{h:β}
end
end MLab
namespace MPlay
abbrev En:=Option (Bool×Int)
section
variable{α:Type}(G:α->List α)
def step(g:α->En)(es:List α)(k:Nat):En:=
 if (es.any λy=>(g y).any λe=> !e.1)=true then some (true,(k:Int)) else if (es.all λy=>(g y).isSome)=true then some (false,(k:Int)) else none
def J2:Nat->α->En
 | 0,_=>none
 | k+1,z=>match J2 k z with
  | some e=>some e
  | none=>step (J2 k) (G z) k
def jB{k:Nat}{z:α}{e:Bool×Int}(h:J2 G k z=some e):J2 G (k+1) z=some e:=by
 simp only[J2,h]
def QI{k:Nat}{z:α}(h:J2 G k z=none):J2 G (k+1) z=step (J2 G k) (G z) k:=by
 simp only[J2,h]
def zW{g:α->En}{es:List α}:(es.any λy=>(g y).any λe=> !e.1)=true↔∃y∈es,∃n,g y=some (false,n):=by
 rw[zaI];constructor
 ·rintro⟨y,a,h⟩;cases e:g y with
  | none=>rw[e]at h;cases h
  | some c=>
   obtain⟨b,n⟩:=c;rw[e]at h;cases b
   ·exact⟨y,a,n,e⟩
   ·cases h
 ·rintro⟨y,a,n,e⟩;exact⟨y,a,by rw[e];rfl⟩
def Ul{g:α->En}{es:List α}{k:Nat}{n:Int}(h:step g es k=some (true,n)):n=k/\∃y∈es,∃m,g y=some (false,m):=by
 unfold step at h;split at h
 ·rename_i c;simp only[tz.injEq,Prod.mk.injEq,true_and]at h;exact⟨h.symm,zW.mp c⟩
 ·split at h<;>simp at h
def z8{g:α->En}{es:List α}{k:Nat}{n:Int}(h:step g es k=some (false,n)):n=k/\∀y∈es,∃m,g y=some (true,m):=by
 unfold step at h;split at h
 ·simp at h
 ·rename_i c;split at h
  ·rename_i d;simp only[tz.injEq,Prod.mk.injEq,true_and]at h;refine⟨h.symm,λy a=>?_⟩;have i:=zag.mp d y a;cases e:g y with
   | none=>rw[e]at i;cases i
   | some j=>
    obtain⟨b,m⟩:=j;cases b
    ·exact absurd (zW.mpr ⟨y,a,m,e⟩) c
    ·exact⟨m,rfl⟩
  ·simp at h
def JH{g:α->En}{es:List α}{k:Nat}(h:step g es k=none):(∀y∈es,∀m,g y≠some (false,m))/\∃y∈es,g y=none:=by
 unfold step at h;split at h
 ·simp at h
 ·rename_i c;split at h
  ·simp at h
  ·rename_i d;refine⟨λy a m e=>c (zW.mpr ⟨y,a,m,e⟩),?_⟩;rw[zag]at d;have ⟨y,a⟩:=Classical.not_forall.mp d;have ⟨b,i⟩:=Classical.not_imp.mp a;exact⟨y,b,by simpa using i⟩
def Xl{g:α->En}{es:List α}{k:Nat}{b:Bool}{n:Int}(h:step g es k=some (b,n)):n=k:=by
 cases b
 ·exact(z8 h).1
 ·exact(Ul h).1
def Yz{g:α->En}{es:List α}{k:Nat}(b:∀y∈es,∀m,g y≠some (false,m))(d:∃y∈es,g y=none):step g es k=none:=by
 unfold step;rw[if_neg (λc=>by obtain⟨y,a,n,e⟩:=zW.mp c;exact b y a n e),if_neg];intro c;obtain⟨y,a,e⟩:=d;have:=zag.mp c y a;rw[e]at this;cases this
def Ga{k:Nat}:∀{z:α} {b:Bool} {n:Int},J2 G k z=some (b,n)->0<=n/\n < k:=by
 induction k with
 | zero=>intro z b n h;simp [J2]at h
 | succ k a=>
  intro z b n h;cases e:J2 G k z with
  | some c=>
   rw[jB G e]at h;obtain rfl:=tz.inj h;have:=a e;omega
  | none=>
   rw[QI G e]at h;have:=Xl h;omega
def B5{k:Nat}{z y:α}{m:Int}(h:J2 G k z=none)(b:y∈G z)(e:J2 G k y=some (false,m)):m+1=k:=by
 cases k with
 | zero=>simp [J2]at e
 | succ a=>
  have c:J2 G a z=none:=by
   cases q:J2 G a z with
   | none=>rfl
   | some d=>rw[jB G q]at h;cases h
  rw[QI G c]at h;have c:=(JH h).1;cases q:J2 G a y with
  | some d=>
   rw[jB G q]at e;obtain rfl:=tz.inj e;exact absurd q (c y b m)
  | none=>
   rw[QI G q]at e;have:=Xl e;omega
def B4{k:Nat}{z:α}(h:J2 G k z=none)(d:∀y∈G z,(J2 G k y).isSome=true):k=0\/∃y∈G z,∃b,J2 G k y=some (b,(k:Int) - 1):=by
 cases k with
 | zero=>exact .inl rfl
 | succ a=>
  have c:J2 G a z=none:=by
   cases q:J2 G a z with
   | none=>rfl
   | some a=>rw[jB G q]at h;cases h
  rw[QI G c]at h;obtain⟨y,a,q⟩:=(JH h).2;refine .inr ⟨y,a,?_⟩;have c:=d y a;rw[QI G q]at c ⊢;obtain⟨⟨b,n⟩,e⟩:=zbT.mp c;have:=Xl e;refine⟨b,?_⟩;rw[e];congr 2;omega
structure Lv(f:α->En)(k:Nat):Prop where
 won:∀{z n},f z=some (true,n)->∃y∈G z,f y=some (false,n - 1)
 lost:∀{z n},f z=some (false,n)->∀y∈G z,∃m,f y=some (true,m)/\m+1<=n
 long:∀{z n},f z=some (false,n)->0 < n->∃y∈G z,f y=some (true,n - 1)
def K9:∀k,Lv G (J2 G k) k
 | 0=>⟨λh=>by simp [J2]at h,λh=>by simp [J2]at h,λh=>by simp [J2]at h⟩
 | k+1=>by
  have L:=K9 k;refine⟨λ{z n} h=>?_,λ{z n} h y hy=>?_,λ{z n} h hn=>?_⟩
  ·cases e:J2 G k z with
   | some p=>
    rw[jB G e]at h;obtain rfl:=tz.inj h;obtain⟨y,hy,q⟩:=L.won e;exact⟨y,hy,jB G q⟩
   | none=>
    rw[QI G e]at h;obtain⟨rfl,y,hy,m,q⟩:=Ul h;have:=B5 G e hy q;refine⟨y,hy,?_⟩;rw[jB G q];congr 2;omega
  ·cases e:J2 G k z with
   | some p=>
    rw[jB G e]at h;obtain rfl:=tz.inj h;obtain⟨m,q,hm⟩:=L.lost e y hy;exact⟨m,jB G q,hm⟩
   | none=>
    rw[QI G e]at h;obtain⟨rfl,ha⟩:=z8 h;obtain⟨m,q⟩:=ha y hy;have:=Ga G q;exact⟨m,jB G q,by omega⟩
  ·cases e:J2 G k z with
   | some p=>
    rw[jB G e]at h;obtain rfl:=tz.inj h;obtain⟨y,hy,q⟩:=L.long e hn;exact⟨y,hy,jB G q⟩
   | none=>
    rw[QI G e]at h;obtain⟨rfl,ha⟩:=z8 h;rcases B4 G e (λy hy=>by obtain⟨m,q⟩:=ha y hy;rw[q];rfl) with h0 | ⟨y,hy,b,q⟩
    ·omega
    ·obtain⟨m,q'⟩:=ha y hy;rw[q]at q';obtain⟨rfl,_⟩:=Prod.mk.inj (tz.inj q');exact⟨y,hy,jB G q⟩
def K8{N:List α}(hN:∀z∈N,∀y∈G z,y∈N){k:Nat}(h:∀z∈N,J2 G k z=none->step (J2 G k) (G z) k=none):∀j,k<=j->∀z∈N,J2 G j z=J2 G k z:=by
 intro j _;induction j with
 | zero=>
  intro z _;have e:k=0:=by omega
  rw[e]
 | succ j a=>
  by_cases e:k=j+1
  ·subst e;intro z _;rfl
  ·have a:=a (by omega);intro z b;cases q:J2 G j z with
   | some c=>rw[jB G q,<-a z b,q]
   | none=>
    rw[QI G q,<-a z b,q];rw[a z b]at q;obtain⟨l,y,d,o⟩:=JH (h z b q);refine Yz (λc g m i=>?_) ⟨y,d,?_⟩
    ·rw[a c (hN z b c g)]at i;exact l c g m i
    ·rw[a y (hN z b y d)];exact o
structure Tab(N:List α)(f:α->En):Prop where
 num:∀{z b n},f z=some (b,n)->0<=n
 won:∀{z n},f z=some (true,n)->∃y∈G z,f y=some (false,n - 1)
 lost:∀{z n},f z=some (false,n)->∀y∈G z,∃m,f y=some (true,m)/\m+1<=n
 long:∀{z n},f z=some (false,n)->0 < n->∃y∈G z,f y=some (true,n - 1)
 drawn:∀{z},z∈N->f z=none->(∀y∈G z,∀m,f y≠some (false,m))/\∃y∈G z,f y=none
 cl:∀z∈N,∀y∈G z,y∈N
def AY{N:List α}(hN:∀z∈N,∀y∈G z,y∈N){k:Nat}(h:∀z∈N,J2 G k z=none->step (J2 G k) (G z) k=none):Tab G N (J2 G k):=
 let L:=K9 G k
 ⟨λe=>(Ga G e).1,L.won,L.lost,L.long,λa e=>JH (h _ a e),hN⟩
def Ql:En->En
 | none=>none
 | some (b,n)=>some (!b,n - 1)
variable[DecidableEq α]
def Rk(f:α->En)(z:α):List α:=(G z).filter λy=>decide (f y=Ql (f z))
variable{G}{N:List α}{f:α->En}
def MI{z y:α}(h:y∈Rk G f z):y∈G z/\f y=Ql (f z):=⟨(tO.mp h).1,of_decide_eq_true (tO.mp h).2⟩
end
end MPlay
namespace Rh
open PySem L2
def top(i:Nat):Stmt:=PySem.Challenge.pw_ringheaps_k96_whole_plays_of_players.main.body.getD i (.Pass ⟨0,0,0,0⟩)
abbrev ZT:Stmt:=top 22
abbrev yG:Stmt:=top 96
abbrev YV:Stmt:=top 97
abbrev YA:Stmt:=top 98
abbrev Xs:Stmt:=top 99
abbrev Xu:Stmt:=top 100
abbrev yz:Stmt:=top 101
abbrev Vz:Stmt:=top 108
open PyProof.Rows hiding K lo
structure qH(K:zdU)(mg:Str->Option Value)(x:Str)(st:Stmt)(ps:List Str)(f:Addr)(fd:zdY):Prop where
 fn:jE K x x st f fd
 ns:mg x=some (.ref f)
 bi:jN K fd ps []
def qv{X:Cx}{x:Str}{st:Stmt}{ps:List Str}{f:Addr}{a:zdY}{k:Nat}{sp:Sp}{e:Expr}{es:List Expr}{t:TA}{p pos:Pos}(h:qH X.K X.mg x st ps f a)(G:qp X.prog X.w X.K X.mg X.base qN k f a ps sp)(b:JA X (e::es) t)(c:(x==("__debug__":Str))=false:=by decide)(d:starEach (e::es) X.env=(false,eval e X.env)::starEach es X.env:=by rfl)(g:(backTo pos (starEach es X.env)).any (·.1)=false:=by rfl)(i:Gl X x:=by rfl)(hr:je k X.A:=by first | assumption | exact je.mono hr (by decide)):
 JE X (.Call (.Name x p) (e::es) [] pos) (Zg sp [] E0 t):=.of (NF G hr i h.ns h.fn.kp h.bi .nil Jd b.to c d g)
def qk{H:Hp}(h:H b=some o)(a:H p=none):upd H p o' b=some o:=by
 rw[qg (qt h a)];exact h
def nq{H:Hp}(h:H a=o)(h':H b=o')(n:o≠o':=by nofun):b≠a:=λe=>n (by rw[<-h,<-h',e])
def nq'{H:Hp}(h:H a=o)(h':H b=o')(n:o≠o':=by nofun):a≠b:=λe=>n (by rw[<-h,<-h',e])
def qf{H:Hp}(a:H p=none):qi H (upd H p o):=λb u h=>qk h a
def qi.upd(s:qi H H')(hp:H p=none):qi H (upd H' p o):=λb u h=>by
 rw[qg (qt h hp)];exact s b u h
def j9(n s t:Int):List (qT×V):=[(Sum.inr "number",.int n),(Sum.inr "seed",.int s),(Sum.inr "turn",.int t)]
def nns:¬(zdV "number")=zdV "seed":=by decide+kernel
def Ha:¬(zdV "number")=zdV "turn":=by decide+kernel
def F8:¬(zdV "seed")=zdV "turn":=by decide+kernel
def nsn:¬(zdV "seed")=zdV "number":=by decide+kernel
def ntn:¬(zdV "turn")=zdV "number":=by decide+kernel
def nts:¬(zdV "turn")=zdV "seed":=by decide+kernel
def Gz(h:¬a=b):¬(Sum.inr a:qT)=Sum.inr b:=λe=>h (Sum.inr.inj e)
def gN{H:Hp}(h:H d=some (.dK (j9 n s t))):j0 H d (.str "number") (some (.int n)):=by
 have e:jh (j9 n s t) (Sum.inr "number":qT)=some (.int n):=jj rfl;have q:=j0.k (k:=(Sum.inr "number":qT)) h;rw[e]at q;exact q
def gS{H:Hp}(h:H d=some (.dK (j9 n s t))):j0 H d (.str "seed") (some (.int s)):=by
 have e:jh (j9 n s t) (Sum.inr "seed":qT)=some (.int s):=(jk (Gz nns)).trans (jj rfl);have q:=j0.k (k:=(Sum.inr "seed":qT)) h;rw[e]at q;exact q
def gT{H:Hp}(h:H d=some (.dK (j9 n s t))):j0 H d (.str "turn") (some (.int t)):=by
 have e:jh (j9 n s t) (Sum.inr "turn":qT)=some (.int t):=(jk (Gz Ha)).trans ((jk (Gz F8)).trans (jj rfl));have q:=j0.k (k:=(Sum.inr "turn":qT)) h;rw[e]at q;exact q
def Di:(j9 n s t).length < zdZ:=ql (by show 3<=1000;decide)
def pN{H:Hp}(h:H d=some (.dK (j9 n s t)))(v:Int):Jq H d (.str "number") (.int v) (upd H d (.dK (j9 v s t))):=by
 have e:jQ (j9 n s t) (Sum.inr "number":qT) (.int v)=j9 v s t:=by
  unfold jQ j9;simp [nsn,ntn]
 have q:=Jq.k (k:=(Sum.inr "number":qT)) (v:=.int v) h Di;rw[e]at q;exact q
def pT{H:Hp}(h:H d=some (.dK (j9 n s t)))(v:Int):Jq H d (.str "turn") (.int v) (upd H d (.dK (j9 n s v))):=by
 have e:jQ (j9 n s t) (Sum.inr "turn":qT) (.int v)=j9 n s v:=by
  unfold jQ j9;simp [Ha,F8]
 have q:=Jq.k (k:=(Sum.inr "turn":qT)) (v:=.int v) h Di;rw[e]at q;exact q
inductive k4(vs:List V)(H:Hp)(Q:VK):Prop
 | mk (d:Addr) (m n s t:Int):vs=[.ref d,.int m]->H d=some (.dK (j9 n s t))->(0 < m)->(m.natAbs < 2^200)->(∀r n' t',0<=r->r < m->Q (.int r) (upd H d (.dK (j9 n' s t'))))->k4 vs H Q
def uz:Sp:=λa H Q _=>k4 a H Q
inductive WE(vs:List V)(H:Hp)(Q:VK):Prop
 | mk (c:Int):vs=[.int c]->(∀d n s,H d=none->Q (.ref d) (upd H d (.dK (j9 n s 0))))->WE vs H Q
def uC:Sp:=λa H Q _=>WE a H Q
inductive yv(K:zdU)(vs:List V)(H:Hp)(Q:VK):Prop
 | mk (a:Addr) (ns:List Int) (k:Int):vs=[.ref a,.int k]->(SqL K H a (ns.map V.int))->(0<=k)->(∀v,Q (.int v) H)->yv K vs H Q
def Bc(K:zdU):Sp:=λa H Q _=>yv K a H Q
def Bg:qh ["_law_source_here","_law_many","_law_digit","_law_number"] ["_law_source_here","_law_many"] (qc YA):=jY
def zA(F:jE K "_law_take" "_law_take" YA f a):qp P w K mg base qN 1 f a ["_law_source_here","_law_many"] uz:=by
 refine F.okK Bg λH Q E hr h=>?_;obtain⟨d,m,n,b,t,rfl,hd,a,c,k⟩:=h;refine⟨_,qb (qF (qo ZW (q5 (jv 0) qy) qe)
   (qb (qx 2 (qL Qr (q5 (jv 0) qy) (jv 1)))
   (qb (jF (jv 0) qy (qL Kz (q5 (jv 0) qy) (jv 1)))
   (qd (qm (jv 2))))) qr)
  (qb (jF (jv 0) qy (qL Qj (q5 (jv 0) qy) qe))
  (qb (qx 3 (qL Qr (qL QR (qL Qj (q5 (jv 0) qy) (qL QR qe (q5 (jv 0) qy))) qe) qe))
  (qb (qx 3 (qL Qr (qL QR (jv 3) (jv 3)) qe))
  (qd (qm (qL Qr (qL NJ (qL Qr (qL QR (qL Qj (jv 3) (q5 (jv 0) qy)) (qL Qj (jv 3) qe)) qe) qe) (jv 1))))))),?_⟩
 refine⟨_,rfl,d,_,rfl,gN hd,_,_,rfl,rfl,_,rfl,?_⟩;refine VS (λ_=>?_) (λ_=>?_)
 ·refine⟨_,rfl,d,_,rfl,gN hd,_,rfl,_,_,rfl,rfl,a,?_⟩;refine⟨_,rfl,d,_,rfl,gN hd,_,rfl,_,_,rfl,rfl,⟨a,c⟩,_,rfl,d,_,rfl,pN hd _,?_⟩;exact⟨_,rfl,k _ _ _ (zbc _ (by omega)) (zaP _ a)⟩
 ·refine⟨_,rfl,d,_,rfl,gT hd,_,_,rfl,rfl,_,rfl,d,_,rfl,pT hd _,?_⟩;have c:upd H d (.dK (j9 n b (t+1))) d=some (.dK (j9 n b (t+1))):=qa;refine⟨_,rfl,d,_,rfl,gS c,_,rfl,d,_,rfl,gT c,_,_,rfl,rfl,.inl ⟨by decide,by decide⟩,_,_,rfl,rfl,_,_,rfl,rfl,.inr ⟨by decide,by decide⟩,_,_,rfl,rfl,(by show (0:Int) < 2147483647;decide),?_⟩;generalize e:((b+7919*(t+1))*48271) % 2147483647=x;have b:0<=x:=by rw[<-e];exact zbc _ (by decide)
  have b:x < 2147483647:=by rw[<-e];exact zaP _ (by decide)
  refine⟨_,rfl,_,rfl,_,_,rfl,rfl,.inl ⟨by omega,by omega⟩,_,_,rfl,rfl,(by show (0:Int) < 2147483629;decide),?_⟩;generalize b:(x*x) % 2147483629=y;have e:0<=y:=by rw[<-b];exact zbc _ (by decide)
  have e:y < 2147483629:=by rw[<-b];exact zaP _ (by decide)
  refine⟨_,rfl,_,rfl,d,_,rfl,gT c,_,_,rfl,rfl,_,rfl,_,_,rfl,rfl,_,_,rfl,rfl,.inr ⟨by omega,by omega⟩,_,_,rfl,rfl,(by show (0:Int) < 2147483587;decide),_,_,rfl,rfl,⟨by decide,by decide⟩,_,rfl,_,_,rfl,rfl,a,?_⟩;exact k _ _ _ (zbc _ (by omega)) (zaP _ a)
open PyProof.Rows hiding K lo
structure Qo(mg:Str->Option Value):Prop where
 len:mg "len"=none
 max:mg "max"=none
 min:mg "min"=none
 int:mg "int"=none
 rng:mg "range"=none
def wm(n s t:Int):QB [] (j9 n s t)=j9 n s t:=by
 unfold QB j9;simp only[zcy,List.foldl_nil];unfold jQ;simp [nns,Ha,F8,nsn,ntn,nts]
def u0:qh ["_law_cell"] ["_law_cell"] (qc YV):=jY
def xZ(F:jE K "_law_source" "_law_source" YV f a)(B:Qo mg):qp P w K mg base qN 1 f a ["_law_cell"] uC:=by
 refine F.okK u0 λH Q E hr h=>?_;obtain⟨c,rfl,k⟩:=h;refine⟨_,qd (qm (yX
  (JM qy (qL QR (qu (wQ rfl) (by rfl) B.max boot_max (jr qe (jv 0)))
   (jo Ve (by rfl) B.int boot_int (qU (jK Ky (jv 0) (qL BD qe qe)))))
  (JM qy (qL Qr (jv 0) qe) (JM qy qe yV))) rfl rfl (by simp) (by decide))),?_⟩
 intro a b;refine⟨_,rfl,_,_,rfl,_,rfl,_,_,rfl,rfl,⟨by decide,by decide,by decide⟩,_,_,rfl,rfl,.inr ⟨_,rfl,_,_,rfl,rfl,.inr ?_,_,rfl,_,_,rfl,rfl,(by show (0:Int) < 2147483629;decide),?_⟩⟩
 ·split<;>exact⟨by decide,by decide⟩
 ·refine⟨qa,j9 _ _ 0,rfl,(by show 3<=15;decide),?_⟩;rw[wm,jx];exact k a _ _ b
def Bu:qh ["_law_script","_law_k"] ["_law_script","_law_k"] (qc yG):=jY
def N2(F:jE K "_law_cell_at" "_law_cell_at" yG f b)(B:Qo mg):qp P w K mg base qN 1 f b ["_law_script","_law_k"] (Bc K):=by
 refine F.okK Bu λH Q E hr h=>?_;obtain⟨a,b,k,rfl,c,_,q⟩:=h;refine⟨_,qb (qF (qo QV (jv 1) (qu qA (by rfl) B.len boot_len (qU (jv 0))))
   (qd (qm (qB qR (jv 0) (jv 1)))) qr)
  (qd (qm (qL Qj (qL QR qe (jv 1)) qe))),?_⟩
 refine⟨_,rfl,_,rfl,a,_,rfl,.inl c,_,_,rfl,rfl,_,rfl,?_⟩;refine VS (λh=>?_) (λ_=>?_)
 ·have d:k < ((b.map V.int).length:Int):=of_decide_eq_true h;rw[ta]at d;have d:k.toNat < b.length:=by omega
  have e:(b.map V.int)[k.toNat]?=some (V.int b[k.toNat]):=by rw[tp,th d];rfl
  have d:k=((k.toNat:Nat):Int):=by omega
  refine⟨_,rfl,_,rfl,a,_,k,V.int b[k.toNat],rfl,rfl,c,?_,q _⟩;have b:=ZJ e;rw[<-d]at b;exact b
 ·exact⟨_,rfl,_,_,rfl,rfl,.inl ⟨by decide,by decide⟩,_,_,rfl,rfl,q _⟩
open PyProof.Rows hiding K lo
def Fr(H:Hp)(d:Addr)(c:Hp):Prop:=∀b a,H b=some a->b≠d->c b=some a
def Fr.refl:Fr H d H:=λ_ _ h _=>h
def Fr.at_d(h:Fr H d a):Fr H d (upd a d o):=λb u c a=>by
 rw[qg a];exact h b u c a
def Fr.new(h:Fr H d a)(c:a p=none):Fr H d (upd a p o):=λb u a e=>qk (h b u a e) c
def Fr.own(h:Fr H d a)(c:H p=none):Fr H d (upd a p o):=λb u a e=>by
 rw[qg (qt a c)];exact h b u a e
def Fr.trans(h:Fr H d a)(k:Fr a d c):Fr H d c:=λb u c a=>k b u (h b u c a) a
def Fr.fresh(h:Fr H d b)(hd:b d=some o)(a:b p=none):H p=none:=by
 cases e:H p with
 | none=>rfl
 | some u=>
  by_cases n:p=d
  ·subst n;rw[hd]at a;cases a
  ·rw[h p u e n]at a;cases a
def j2(c:Nat):Bool:=decide (97<=c)&&decide (c<=122)
def ja(z:Str):Bool:=(decide (1<=z.length)&&decide (z.length<=8))&&z.cps.toList.all j2
def xl:Str:="abcdefghijklmnopqrstuvwxyz"
def Vn:xl.cps.toList=[97,98,99,100,101,102,103,104,105,106,107,108,109,110,111,112,113,114,115,116,117,118,119,120,121,122]:=by decide+kernel
def Rm:xl.cps.toList=(t8 26).map (97+·):=by rw[Vn];rfl
def xk:xl.length<=zdZ:=by
 show xl.cps.size<=zdZ;rw[<-zap,Vn];decide
def Rn(a:0<=r)(b:r < 26):Wo xl.cps.toList r=some (97+r.toNat):=by
 have b:xl.cps.toList[r.toNat]?=some (97+r.toNat):=by
  rw[Rm,tp,zbQ (by omega)];rfl
 have a:=ZJ b;have b:r=((r.toNat:Nat):Int):=by omega
 rw[<-b]at a;exact a
def W3{r:Int}(a:0<=r)(b:r < 26):j2 (97+r.toNat)=true:=by
 unfold j2;rw[decide_eq_true (by omega:97<=97+r.toNat),decide_eq_true (by omega:97+r.toNat<=122)];rfl
def Ce(a:List Nat):(Txt.join (zdV "") (a.map λk=>(⟨#[k]⟩:Str))).cps.toList=a:=by
 show (Builtin.Str.glued (zdV "") _).cps.toList=_;rw[StrLaws.glued_eq_join];have e:(zdV "")=⟨#[]⟩:=by decide+kernel
 rw[e,PyProof.Rows.join_ones]
def wz{z:Str}(e:z.cps.toList=A++[c]++B)(a:A.all j2=true)(b:j2 c=true)(d:B.all j2=true)(g:A.length+B.length<=7):ja z=true:=by
 have g:z.length=A.length+1+B.length:=by
  show z.cps.size=_;rw[<-zap,e];simp;omega
 unfold ja;rw[decide_eq_true (by omega:1<=z.length),decide_eq_true (by omega:z.length<=8),e,zdr,zdr,a,d];simp [b]
def yS(f s:Int)(k:Nat):Nat:=97+((f+s*(k:Int)) % 26).toNat
def N9:∀s∈[(1:Int),3,5,7,9,11],∀k,k < 14->∀j,j < 14->(s*((k:Nat):Int) - s*((j:Nat):Int)) % 26=0->k=j:=by decide+kernel
def N8(hs:s=1\/s=3\/s=5\/s=7\/s=9\/s=11)(a:k < 14)(b:j < 14)(h:yS f s k=yS f s j):k=j:=by
 unfold yS at h;refine N9 s (by simpa using hs) k a j b ?_;generalize s*(k:Int)=x at h ⊢;generalize s*(j:Int)=y at h ⊢;omega
def Jv(A:List Nat)(f s:Int)(zs:List Str):Prop:=∀a z,zs[a]?=some z->∃B,z.cps.toList=A++[yS f s a]++B/\B.all j2=true/\A.length+B.length<=7
def Jv.snoc(h:Jv A f s zs){z:Str}(e:z.cps.toList=A++[yS f s zs.length]++B)(c:B.all j2=true)(d:A.length+B.length<=7):Jv A f s (zs++[z]):=by
 intro b y a;by_cases g:b < zs.length
 ·rw[tV g]at a;exact h b y a
 ·have g:b=zs.length:=by
   have:=(td.mp a).1;rw[tm,t7]at this;omega
  subst g;rw[tP (tc _),zbN]at a;obtain rfl:=(tz.inj a).symm;exact⟨B,e,c,d⟩
def Jv.names{A:List Nat}{f s:Int}{zs:List Str}(h:Jv A f s zs)(a:A.all j2=true):∀z∈zs,ja z=true:=λz b=>by
 obtain⟨c,d⟩:=zbp b;obtain⟨B,e,b,g⟩:=h c z d;refine wz e a ?_ b g;unfold yS;exact W3 (zbc _ (by decide)) (zaP _ (by decide))
def Jv.nodup(h:Jv A f s zs)(hs:s=1\/s=3\/s=5\/s=7\/s=9\/s=11)(hz:zs.length<=14):zs.Nodup:=by
 refine zaw.mpr λi a c b _ e=>?_;obtain⟨B,d,_⟩:=h a _ (th b);obtain⟨g,b,_⟩:=h i _ (th c);rw[e]at b;have c:(A++[yS f s a]++B)[A.length]?=(A++[yS f s i]++g)[A.length]?:=by rw[<-d,<-b]
 rw[zcn,zcn,tP (tc _),tP (tc _),zbN]at c;have b:yS f s a=yS f s i:=tz.inj c;exact absurd (N8 hs (by omega) (by omega) b) (by omega)
def vw{A:List Nat}(h:A.all j2=true)(n:Nat):(A.take n).all j2=true:=by
 rw[zag]at h ⊢;exact λx a=>h x (zbK a)
def Bd(a:0<=r)(b:r < 6):∃m:Int,(m=1\/m=3\/m=5\/m=7\/m=9\/m=11)/\Wo [V.int 1,V.int 3,V.int 5,V.int 7,V.int 9,V.int 11] r=some (.int m):=by
 have:r=0\/r=1\/r=2\/r=3\/r=4\/r=5:=by omega
 rcases this with rfl | rfl | rfl | rfl | rfl | rfl
 ·exact⟨1,by decide,rfl⟩
 ·exact⟨3,by decide,rfl⟩
 ·exact⟨5,by decide,rfl⟩
 ·exact⟨7,by decide,rfl⟩
 ·exact⟨9,by decide,rfl⟩
 ·exact⟨11,by decide,rfl⟩
inductive UD(vs:List V)(H:Hp)(Q:VK):Prop
 | mk (d:Addr) (m:Nat) (n s t:Int):vs=[.ref d,.int m]->H d=some (.dK (j9 n s t))->(m<=14)->(∀(l:Addr) (zs:List Str) (n' t':Int) (H':Hp),H l=none->H' l=some (.lst (zs.map V.str))->zs.length=m->(∀z∈zs,ja z=true)->zs.Nodup->H' d=some (.dK (j9 n' s t'))->Fr H d H'->Q (.ref l) H')->UD vs H Q
def RY:Sp:=λa H Q _=>UD a H Q
def Uh:∀zs:List Str,(zs.map λ_=>1).sum=zs.length
 | []=>rfl
 | z::zs=>by rw[tG,zaq,Uh zs,t0];omega
abbrev BW:List Str:=["_law_source_here","_law_many","_law_letters","_law_word","_law_ahead","_law_first","_law_step","_law_names_here","_law_k","_law_behind"]
def Nf:qh BW ["_law_source_here","_law_many"] (qc Xs):=jY
def KO{P:Program}{w:World}{K:zdU}{mg:Str->Option Value}{base:Heap}{f g:Addr}{b j:zdY}(F:jE K "_law_names" "_law_names" Xs f b)(B:Qo mg)(a:qH K mg "_law_take" YA ["_law_source_here","_law_many"] g j):qp P w K mg base qN 2 f b ["_law_source_here","_law_many"] RY:=by
 have GT:=pin P w mg base (zA a.fn);refine F.okK Nf λH Q E hr h=>?_;obtain⟨d,m,n,b,t,rfl,hd,_,q⟩:=h;refine⟨_,qb (ZY 2 qy)
  (qb (qx 3 (QP zaA zcp zcq VL qy (jt
   (j8 (N':=["_law_k","_law_letters","_law_source_here"]) (ix:=[none,some 2,some 0])
    (QD (by rfl) B.rng (qU qe))
    (λ_ _ _ fp _=>⟨qG 0,jJ,
     qB Gu (jv 1) (qv a GT (jr (jv 2) qe))⟩)) Qk)))
  (qb (qx 4 (Zo uW (jv 3) zI (zH (qL QR (qv a GT (jr (jv 0) qe)) (qv a GT (jr (jv 0) qe))))))
  (qb (qx 5 (qv a GT (jr (jv 0) qe)))
  (qb (qx 6 (qB qR (j5 (jt qe (CT qe qe qe qe qe))) (qv a GT (jr (jv 0) qe))))
  (qb (qx 7 (j5 Qk))
  (qb (jc (QD (by rfl) B.rng (qU (jv 1))) (qG 8)
   (qb (qx 9 (Zo uW (jv 3) zI (zH (qv a GT (jr (jv 0) (qL ka qe (qu J6 (by rfl) B.len boot_len (qU (jv 4)))))))))
   (qd (ji (QP zaj zaV zaW Q8 (jv 7) (jt
    (qL Z8 (qL Z8 (jv 4) (qB Gu (jv 2) (qL Qr (qL Qj (jv 5) (qL QR (jv 6) (jv 8))) qe))) (jv 9)) Qk))))))
  (qd (qm (jv 7))))))))),?_⟩
 refine⟨rfl,7,rfl,by decide,by decide,λD l=>?_⟩;have o:D≠d:=λe=>by rw[e,hd]at l;cases l
 refine ZI (λi C g=>∃(v:Option V) (p r:Int) (a:List Nat),C=[v,some (.str xl),some (.ref d)]/\g d=some (.dK (j9 p b r))/\g D=some (.lst ((a.map λk=>(⟨#[k]⟩:Str)).map V.str))/\a.length=i/\a.all j2=true/\Fr H d g)
  ⟨none,n,t,[],rfl,qk hd l,qa,rfl,rfl,Fr.refl.new l⟩ ?_ ?_
 ·rintro i C g hi ⟨v,p,r,a,rfl,O,u,x,L,fr⟩;refine⟨_,rfl,_,rfl,d,26,p,b,r,rfl,O,by decide,by decide,λj T U Y r1=>?_⟩;refine⟨xl,j,_,rfl,rfl,xk,Rn Y r1,_,(by rw[qg o];exact u),?_,?_⟩
  ·rw[ta,ta,x];exact ql (by omega)
  ·refine⟨_,T,U,a++[97+j.toNat],rfl,?_,?_,?_,?_,?_⟩
   ·rw[qg (Ne.symm o)];exact qa
   ·rw[tw,tw];exact qa
   ·rw[tm,x];rfl
   ·rw[zdr,L];simp [W3 Y r1]
   ·exact(fr.at_d).own l
 rintro C H1 ⟨v,n1,l,a,rfl,o,u,J,ac,ai⟩;have J:a.length=7:=J;refine⟨zdV "",D,_,rfl,rfl,.of u,?_,?_⟩
 ·have y:((a.map λk=>(⟨#[k]⟩:Str)).map (·.length))=(a.map λk=>(⟨#[k]⟩:Str)).map λ_=>1:=by
   refine zbq λz u=>?_;obtain⟨c,_,rfl⟩:=tl.mp u;rfl
  have e2:(zdV "").length=0:=by decide+kernel
  rw[y,e2,Uh,ta,J];decide
 generalize hw:Txt.join (zdV "") (a.map λk=>(⟨#[k]⟩:Str))=y;have hW:y.cps.toList=a:=by rw[<-hw];exact Ce a
 have ao:y.length=7:=by
  show y.cps.size=7;rw[<-zap,hW,J]
 refine⟨_,rfl,_,rfl,d,2,n1,b,l,rfl,o,by decide,by decide,λl n2 o _ _=>?_⟩;refine⟨_,rfl,d,5,n2,b,o,rfl,qa,by decide,by decide,λr3 T U _ _=>?_⟩;rw[jx];have e4:∃o:Nat,l*r3=(o:Int)/\o<=4:=by
  have h2:l=0\/l=1:=by omega
  rcases h2 with rfl | rfl
  ·exact⟨0,by omega,by omega⟩
  ·exact⟨r3.toNat,by omega,by omega⟩
 obtain⟨o,ej,_⟩:=e4;refine⟨_,_,rfl,rfl,.inl ⟨by omega,by omega⟩,_,rfl,y,l*r3,rfl,rfl,rfl,by omega,?_⟩;rw[ej];generalize L:Txt.slice y none (some (o:Int))=l;have hA:l.cps.toList=a.take o:=by rw[<-L,Xo,hW]
 have ae:l.length=o:=by
  show l.cps.size=o;rw[<-zap,hA,tJ,J];omega
 refine⟨_,rfl,d,26,T,b,U,rfl,qa,by decide,by decide,λf L U _ f1=>?_⟩;rw[jx];refine⟨Ze,λJ hp=>?_⟩;have af:J≠d:=λe=>by rw[e,qa]at hp;cases hp
 refine⟨_,rfl,d,6,L,b,U,rfl,(by rw[qg (Ne.symm af)];exact qa),by decide,by decide,λr5 n5 T aj ak=>?_⟩;obtain⟨st,al,am⟩:=Bd aj ak;refine⟨J,_,r5,.int st,rfl,rfl,.of (by rw[qg af];exact qa),am,?_⟩;have aa:Fr H d (upd (upd (upd H1 d (.dK (j9 L b U))) J (.lst [V.int 1,V.int 3,V.int 5,V.int 7,V.int 9,V.int 11])) d (.dK (j9 n5 b T))):=(ai.at_d.new hp).at_d;generalize an:upd (upd (upd H1 d (.dK (j9 L b U))) J (.lst [V.int 1,V.int 3,V.int 5,V.int 7,V.int 9,V.int 11])) d (.dK (j9 n5 b T))=J at aa;have U:J d=some (.dK (j9 n5 b T)):=by rw[<-an];exact qa
 refine⟨Ze,λL x=>⟨_,rfl,m,rfl,by omega,by omega,?_⟩⟩;have ag:H L=none:=aa.fresh U x;have ab:L≠d:=λe=>by rw[e,U]at x;cases x
 refine ZF (lo:=0) (n:=m) (λi C g=>∃(v1 v2:Option V) (p r:Int) (J:List Str),C=[some (.ref d),some (.int m),some (.str xl),some (.str y),some (.str l),some (.int f),some (.int st),some (.ref L),v1,v2]/\
  g d=some (.dK (j9 p b r))/\g L=some (.lst (J.map V.str))/\J.length=i/\Jv (a.take o) f st J/\Fr H d g)
  ⟨none,none,n5,T,[],rfl,qk U x,qa,rfl,λo z u=>(nomatch u),aa.new x⟩ ?_ ?_
 ·rintro i C g hi ⟨v1,v2,p,r,J,rfl,O,x,u,T,fr⟩;rw[zcE];refine⟨_,rfl,_,rfl,_,rfl,l,rfl,(by rw[ae];exact t6 (ql (by omega))),_,_,rfl,rfl,d,8 - (l.length:Int),p,b,r,rfl,O,by omega,by omega,λj n6 U Y r1=>?_⟩;have Y:j=((j.toNat:Nat):Int):=by omega
  refine⟨_,rfl,y,j,rfl,rfl,rfl,by omega,?_⟩;generalize hb:Txt.slice y none (some j)=b;have y:b.cps.toList=a.take j.toNat:=by rw[<-hb,Y,Xo,hW];rfl
  have Y:b.length<=j.toNat:=by
   show b.cps.size<=j.toNat;rw[<-zap,y,tJ];omega
  refine⟨_,rfl,.inl ⟨rfl,_,.of (by rw[qg ab];exact x)⟩,_,rfl,_,rfl,_,rfl,_,rfl,_,rfl,_,_,rfl,rfl,.inl ⟨by omega,by omega⟩,_,_,rfl,rfl,_,_,rfl,rfl,(by show (0:Int) < 26;decide),?_⟩;refine⟨xl,_,_,rfl,rfl,xk,Rn (zbc _ (by decide)) (zaP _ (by decide)),?_⟩;have Y:97+((f+st*(i:Int)) % 26).toNat=yS f st i:=rfl;rw[Y];have Y:(l++(⟨#[yS f st i]⟩:Str)).length=o+1:=by
   show (l++(⟨#[yS f st i]⟩:Str)).cps.size=_;rw[Str.cps_append,Array.size_append];show l.length+1=_;rw[ae]
  refine⟨_,_,rfl,rfl,t6 (ql (by show l.length+1<=1000;omega)),_,rfl,_,_,rfl,rfl,t6 (ql (by rw[Y];omega)),?_⟩;refine⟨L,_,_,rfl,rfl,(by rw[qg ab];exact x),(by rw[ta,u];exact ql (by omega)),?_⟩;refine⟨_,_,n6,U,J++[l++(⟨#[yS f st i]⟩:Str)++b],rfl,?_,?_,?_,?_,?_⟩
  ·rw[qg (Ne.symm ab)];exact qa
  ·rw[tw];exact qa
  ·rw[tm,u];rfl
  ·refine T.snoc (B:=a.take j.toNat) ?_ (vw ac _) ?_
   ·rw[Str.cps_append,Str.cps_append,zbR,zbR,hA,y,u]
   ·rw[tJ,tJ];omega
  ·exact fr.at_d.own ag
 ·rintro C g ⟨v1,v2,p,r,J,rfl,O,x,u,T,fr⟩;exact⟨_,rfl,q L J p r g ag x u (T.names (vw ac _)) (T.nodup al (by omega)) O fr⟩
open PyProof.Rows hiding K lo
def kE(t:TT)(a:L2.St)(H:Hp):Prop:=∀Q:Bool->Hp->Prop,(∀b,Q b H)->t a H Q
def kE.and(h:kE t a H)(k:kE u a H):kE (Dg t u) a H:=λQ q=>h _ λb=>by
 cases b
 ·exact jG (q false)
 ·exact Q4 (k _ q)
def kE.or(h:kE t a H)(k:kE u a H):kE (tOr t u) a H:=λQ q=>h _ λb=>by
 cases b
 ·exact jG (k _ q)
 ·exact Q4 (q true)
def GC{e:TS}{D:JD}(G:Hp->Prop)(h:G d)(g:kE i c d)(j:∀D:JD,(∀a,G a->D.nx c a)->e D c d)(k:∀a,G a->D.nx c a):RJ i e kW D c d:=
 g _ λb=>by
  cases b
  ·exact jG (k _ h)
  ·exact Q4 (j D k)
def Y8{d u:TS}{D:JD}(G:Hp->Prop)(h:G c)(e:kE g b c)(i:∀D:JD,(∀a,G a->D.nx b a)->d D b c)(k:∀a,G a->u D b a):RH (RJ g d kW) u D b c:=GC G h e i k
def XV{a:L2.St}{Q:L2.St->Hp->Prop}(h:Q (a.set i (some v)) H):QW i v a H Q:=h
abbrev up(k:Nat×Nat):Int×Int:=((k.1:Int),(k.2:Int))
def AI(a b:Nat×Nat):Prop:=a.1 < b.1\/(a.1=b.1/\a.2 < b.2)
abbrev Yo(a:List (Nat×Nat)):List (List qT):=a.map λk=>YB (up k)
def xS(h:YB (up a)=YB (up b)):a=b:=by
 unfold YB at h;simp only[zcF.injEq,Sum.inl.injEq,and_true]at h;exact Prod.ext (by have:=h.1;omega) (by have:=h.2;omega)
structure Zb(m i j:Nat)(ks:List (Nat×Nat)):Prop where
 ord:ks.Pairwise AI
 lt:∀x∈ks,x.2 < m/\(x.1 < i\/(x.1=i/\x.2 < j))
 len:ks.length<=i*m+j
def Zb.more(h:Zb m i j a):Zb m i (j+1) a:=⟨h.ord,λx a=>by have:=h.lt x a;omega,by have:=h.len;omega⟩
def Zb.snoc(h:Zb m i j d)(e:j < m):Zb m i (j+1) (d++[(i,j)]):=by
 refine⟨zdz.mpr ⟨h.ord,zcb _ _,λa g b l=>?_⟩,λx c=>?_,?_⟩
 ·rw[tQ.mp l];have:=h.lt a g;unfold AI;omega
 ·rcases tT.mp c with c | c
  ·have:=h.lt x c;omega
  ·rw[tQ.mp c];exact⟨e,.inr ⟨rfl,zaG _⟩⟩
 ·rw[tm];have:=h.len;show d.length+1<=_;omega
def Zb.row(h:Zb m i m a):Zb m (i+1) 0 a:=⟨h.ord,λx a=>by have:=h.lt x a;omega,by have:=h.len;rw[Nat.succ_mul];omega⟩
inductive CI(m i j:Nat)(kvs:List (List qT×V)):Prop
 | mk (ks:_):Zb m i j ks->((kvs.map (·.1)=Yo ks\/kvs.map (·.1)=Yo (ks++[(i,j)])))->CI m i j kvs
def xi(kvs:List (List qT×V))(k:List qT):((kvs.any λa=>decide (a.1=k))=true)↔k∈kvs.map (·.1):=by
 rw[zaI,tl];simp
def Me{kvs:List (List qT×V)}(v:V)(h:k∈kvs.map (·.1)):(jQ kvs k v).map (·.1)=kvs.map (·.1):=by
 unfold jQ;rw[if_pos ((xi kvs k).mpr h),zav];refine zbq λx _=>?_;show (if x.1=k then (x.1,v) else x).1=x.1;split<;>rfl
def Gd{kvs:List (List qT×V)}(v:V)(h:¬k∈kvs.map (·.1)):(jQ kvs k v).map (·.1)=kvs.map (·.1)++[k]:=by
 unfold jQ;rw[if_neg (λz=>h ((xi kvs k).mp z)),tw];rfl
def CI.put(h:CI m i j kvs)(v:V):CI m i j (jQ kvs (YB (up (i,j))) v):=by
 obtain⟨b,a,h⟩:=h;refine⟨b,a,.inr ?_⟩;rcases h with h | h
 ·rw[Gd,h,Yo,Yo,tw]
  ·rfl
  ·rw[h];intro z;obtain⟨x,b,e⟩:=tl.mp z;have c:=xS e;have:=a.lt x b;rw[c]at this;omega
 ·rw[Me,h];rw[h];exact tl.mpr ⟨(i,j),by simp,rfl⟩
def CI.len(h:CI m i j kvs):kvs.length<=i*m+j+1:=by
 obtain⟨_,a,h⟩:=h;have b:=a.len;rcases h with h | h
 ·have:=congrArg zad h;simp only[ta]at this;omega
 ·have:=congrArg zad h;simp only[ta,tm,t7]at this;omega
def M4(b:i<=m)(a:m<=14):i*m<=196:=tS (Nat.mul_le_mul (tS b a) a) (by decide)
def EC(xs:List V):vr xs none (some 40)=xs.take 40:=by
 unfold vr;have a:HT.sIx xs.length 0 none=0:=rfl;have b:HT.sIx xs.length xs.length (some 40)=min 40 xs.length:=by
  simp [HT.sIx]
 rw[a,b,zdw,Nat.sub_zero];by_cases h:40<=xs.length
 ·rw[zbz h]
 ·rw[zdc (by omega),tu (tc _),tu (by omega)]
def ZK(H:Hp)(ps:List Addr)(a:List (Nat×Nat)):Prop:=ps.length=a.length/\∀(i:Nat) (b:Addr) (k:Nat×Nat),ps[i]?=some b->a[i]?=some k->H b=some (.tup [.int (k.1:Nat),.int (k.2:Nat)])
inductive UG(vs:List V)(H:Hp)(Q:VK):Prop
 | mk (d:Addr) (m:Nat) (n s t sh lo:Int):vs=[.ref d,.int m,.int sh,.int lo]->H d=some (.dK (j9 n s t))->(m<=14)->(∀(l:Addr) (ps:List Addr) (ks:List (Nat×Nat)) (n' t':Int) (H':Hp),H l=none->H' l=some (.lst (ps.map V.ref))->ZK H' ps ks->ks.Pairwise AI->(∀x∈ks,x.1 < m/\x.2 < m)->ks.length<=40->H' d=some (.dK (j9 n' s t'))->Fr H d H'->Q (.ref l) H')->UG vs H Q
def RZ:Sp:=λa H Q _=>UG a H Q
abbrev BX:List Str:=["_law_source_here","_law_many","_law_shape","_law_low","_law_pairs","_law_k","_law_j","_law_way"]
abbrev VD:List Str:=["_law_source_here","_law_many","_law_shape","_law_low"]
def Ni:qh BX VD (qc Xu):=jY
def KP(F:jE K "_law_leads" "_law_leads" Xu f g)(B:Qo mg)(j:mg "sorted"=none)(c:qH K mg "_law_take" YA ["_law_source_here","_law_many"] l o):qp P w K mg base qN 2 f g VD RZ:=by
 have GT:=pin P w mg base (zA c.fn);refine F.okK Ni λH Q E hr h=>?_;obtain⟨d,m,n,p,t,L,lo,rfl,hd,hm,q⟩:=h;refine⟨_,qb (qx 4 Gp)
  (qb (jc (QD (by rfl) B.rng (qU (jv 1))) (qG 5)
   (qd (jc (QD (by rfl) B.rng (qU (jv 1))) (qG 6)
    (qb (qx 7 (qv c GT (jr (jv 0) qe)))
    (qb (qF (Qs (qo jl (jv 2) qe) (Qc (Ji (Qs (qo QV (jv 6) (jv 5)) (Qc (qo QV (jv 7) qe))).pt (QC (Qs (qo Ky (jv 6) (jv 5)) (Qc (qo QV (jv 7) qe))).pt)).pt)).pt
     (qd (jF (jv 4) (jW (jr (jv 5) (jv 6))) Qx)) qr)
    (qb (qF (Qs (qo jl (jv 2) qe) (Qc (qo QV (jv 7) qe))).pt
     (qd (jF (jv 4) (jW (jr (jv 5) (jv 6))) Qx)) qr)
    (qb (qF (Qs (qo jl (jv 2) qe) (Qc (Ji (Qs (qo jl (jv 6) (qL Qr (qL Qj (jv 5) qe) (jv 1))) (Qc (qo QV (jv 7) qe))).pt (QC (qo QV (jv 7) qe))).pt)).pt
     (qd (jF (jv 4) (jW (jr (jv 5) (jv 6))) Qx)) qr)
    (qb (qF (Qs (qo jl (jv 2) qe) (Qs (qo QV (jv 6) (jv 5)) (Qc (Ji (qo QV (jv 6) (jv 3)) (QC (qo QV (jv 7) qe))).pt))).pt
     (qd (jF (jv 4) (jW (jr (jv 5) (jv 6))) Qx)) qr)
    (qd (qF (Qs (qo jl (jv 2) qe) (Qc (Ji (Qs (qo QV (jv 6) (jv 3)) (Qc (qo QV (jv 6) (jv 5)))).pt (QC (Qs (qo Ky (jv 5) (jv 3)) (Qc (qo QV (jv 7) qe))).pt)).pt)).pt
     (qd (jF (jv 4) (jW (jr (jv 5) (jv 6))) Qx)) qr)))))))))
   )
  (qd (qm (Zo Vx (qu (kD rfl) (by rfl) j boot_sorted (qU (jv 4))) zI (zH qe))))),?_⟩
 intro D C;have ac:D≠d:=λe=>by rw[e,hd]at C;cases C
 refine⟨_,rfl,m,rfl,by omega,by omega,?_⟩;refine ZF (lo:=0) (n:=m) (λi r g=>∃(v1 u v:Option V) (y J:Int) (c:List (List qT×V)) (j:List (Nat×Nat)),r=[some (.ref d),some (.int m),some (.int L),some (.int lo),some (.ref D),v1,u,v]/\
  g d=some (.dK (j9 y p J))/\g D=some (.dT c)/\c.map (·.1)=Yo j/\Zb m i 0 j/\Fr H d g)
  ⟨none,none,none,n,t,[],[],rfl,qk hd C,qa,rfl,⟨.nil,λx Y=>(nomatch Y),zac _⟩,Fr.refl.new C⟩ ?_ ?_
 ·rintro i r g U ⟨v1,u,v,y,J,c,j,rfl,O,T,o,l,fr⟩;rw[zcE];refine⟨_,rfl,m,rfl,by omega,by omega,?_⟩;refine ZF (lo:=0) (n:=m) (λz r g=>∃(u v:Option V) (y J:Int) (c:List (List qT×V)) (j:List (Nat×Nat)),r=[some (.ref d),some (.int m),some (.int L),some (.int lo),some (.ref D),some (.int i),u,v]/\
   g d=some (.dK (j9 y p J))/\g D=some (.dT c)/\c.map (·.1)=Yo j/\Zb m i z j/\Fr H d g)
   ⟨_,_,y,J,c,j,rfl,O,T,o,l,fr⟩ ?_ ?_
  ·rintro z r H2 hj ⟨u,v,n2,t2,c,j,rfl,aa,ab,o,l,fr⟩;rw[zcE];refine⟨_,rfl,d,12,n2,p,t2,rfl,aa,by decide,by decide,λy O T _ _=>?_⟩;have ae:=M4 (t6 U) hm;let G:Hp->Prop:=λg=>∃(c:List (List qT×V)),g d=some (.dK (j9 O p T))/\g D=some (.dT c)/\CI m i z c/\Fr H d g;have g0:G (upd H2 d (.dK (j9 O p T))):=⟨c,qa,(by rw[qg ac];exact ab),⟨j,l,.inl o⟩,fr.at_d⟩;have put:∀g,G g->∀E:JD,(∀g,G g->E.nx [some (.ref d),some (.int m),some (.int L),some (.int lo),some (.ref D),some (.int i),some (.int z),some (.int y)] g)->
     Ap (qY 4) (ug (qS (qY 5) (qS (qY 6) Qw))) (tC (.bl true)) E [some (.ref d),some (.int m),some (.int L),some (.int lo),some (.ref D),some (.int i),some (.int z),some (.int y)] g:=by
    rintro g ⟨c,y,J,p,L⟩ E k;refine⟨_,rfl,_,rfl,_,rfl,Ze,λU g=>?_⟩;have af:U≠d:=λe=>by rw[e,y]at g;cases g
    have ag:U≠D:=λe=>by rw[e,J]at g;cases g
    refine⟨D,_,rfl,Jq.t (k:=YB (up (i,z))) (kvs:=c) (by rw[qg (Ne.symm ag)];exact J) qa (ql (by have:=p.len;omega)),?_⟩;refine k _ ⟨_,?_,qa,p.put _,?_⟩
    ·rw[qg (Ne.symm ac),qg (Ne.symm af)];exact y
    ·exact(L.new g).own C
   refine XV ?_;dsimp only[List.set];refine Y8 G g0 ?_ (put _ g0) λ_ g3=>?_
   ·exact kE.and (λQ q=>⟨_,rfl,rfl,_,rfl,q _⟩) (.or (.and (λQ q=>⟨_,rfl,_,rfl,_,_,rfl,rfl,_,rfl,q _⟩) (λQ q=>⟨_,rfl,_,_,rfl,rfl,_,rfl,q _⟩)) (.and (λQ q=>⟨_,rfl,_,rfl,_,_,rfl,rfl,_,rfl,q _⟩) (λQ q=>⟨_,rfl,_,_,rfl,rfl,_,rfl,q _⟩)))
   refine Y8 G g3 ?_ (put _ g3) λ_ g=>?_
   ·exact kE.and (λQ q=>⟨_,rfl,rfl,_,rfl,q _⟩) (λQ q=>⟨_,rfl,_,_,rfl,rfl,_,rfl,q _⟩)
   refine Y8 G g ?_ (put _ g) λ_ g=>?_
   ·exact kE.and (λQ q=>⟨_,rfl,rfl,_,rfl,q _⟩) (.or (.and (λQ q=>⟨_,rfl,_,rfl,_,_,rfl,rfl,_,rfl,_,_,rfl,rfl,(by show (0:Int) < m;omega),rfl,_,rfl,q _⟩) (λQ q=>⟨_,rfl,_,_,rfl,rfl,_,rfl,q _⟩)) (λQ q=>⟨_,rfl,_,_,rfl,rfl,_,rfl,q _⟩))
   refine Y8 G g ?_ (put _ g) λ_ g=>?_
   ·exact kE.and (λQ q=>⟨_,rfl,rfl,_,rfl,q _⟩) (.and (λQ q=>⟨_,rfl,_,rfl,_,_,rfl,rfl,_,rfl,q _⟩) (.or (λQ q=>⟨_,rfl,_,rfl,_,_,rfl,rfl,_,rfl,q _⟩) (λQ q=>⟨_,rfl,_,_,rfl,rfl,_,rfl,q _⟩)))
   refine GC G g ?_ (put _ g) λ_ g=>?_
   ·exact kE.and (λQ q=>⟨_,rfl,rfl,_,rfl,q _⟩) (.or (.and (λQ q=>⟨_,rfl,_,rfl,_,_,rfl,rfl,_,rfl,q _⟩) (λQ q=>⟨_,rfl,_,rfl,_,_,rfl,rfl,_,rfl,q _⟩)) (.and (λQ q=>⟨_,rfl,_,rfl,_,_,rfl,rfl,_,rfl,q _⟩) (λQ q=>⟨_,rfl,_,_,rfl,rfl,_,rfl,q _⟩)))
   obtain⟨c,y,J,⟨j,l,p⟩,L⟩:=g;rcases p with p | p
   ·exact⟨_,_,O,T,c,j,rfl,y,J,p,l.more,L⟩
   ·exact⟨_,_,O,T,c,_,rfl,y,J,p,l.snoc hj,L⟩
  ·rintro r H2 ⟨u,v,n2,t2,c,j,rfl,aa,ab,o,l,fr⟩;exact⟨_,_,_,n2,t2,c,j,rfl,aa,ab,o,l.row,fr⟩
 ·rintro r J ⟨v1,u,v,n1,L,c,j,rfl,z,g,o,l,fr⟩;have p:c.length=j.length:=by simpa using congrArg zad o
  have ae:=M4 (tc m) hm;have p:=l.len;refine⟨_,rfl,D,c,j.map up,rfl,g,?_,?_,by omega,λv u p O tup=>?_⟩
  ·rw[o,zav];rfl
  ·intro i k _ c g;rw[tp]at c g;cases o:j[i]? with
   | none=>rw[o]at c;cases c
   | some a=>
    cases r:j[i+1]? with
    | none=>rw[r]at g;cases g
    | some b=>
     rw[o]at c;rw[r]at g;obtain rfl:=(tz.inj c).symm;obtain rfl:=(tz.inj g).symm;have C:=zaw.mp l.ord i (i+1) (td.mp o).1 (td.mp r).1 (zaG _);rw[(td.mp o).2,(td.mp r).2]at C;unfold AI at C;show XO _ _;unfold XO;show (a.1:Int) < b.1\/((a.1:Int)=b.1/\(a.2:Int) < b.2);omega
  ·refine⟨40,rfl,v,_,rfl,.of qa,λr o=>?_⟩;rw[EC,<-List.map_take];have C:r≠d:=λe=>by
    rw[e,qk z p]at o;cases o
   have C:J r=none:=by
    by_cases e:r=v
    ·rw[e];exact p
    ·rw[qg e]at o;exact o
   have v:=(fr.new (o:=.lst (u.map V.ref)) p).new (o:=.lst ((u.take 40).map V.ref)) o;refine q r (u.take 40) (j.take 40) n1 L _ (fr.fresh z C) qa ⟨?_,λi U k c g=>?_⟩ ?_ ?_ ?_ ?_ v
   ·rw[tJ,tJ,O,ta]
   ·have j:i < 40:=by
     have:=(td.mp c).1;rw[tJ]at this;omega
    rw[zaT j]at c g;have y:=tup i U (up k) c (by rw[tp,g];rfl);exact qk (qk y p) o
   ·exact l.ord.sublist (zce _ _)
   ·intro x Y;have:=l.lt x (zbK Y);omega
   ·rw[tJ];omega
   ·exact qk (qk z p) o
open PyProof.Rows hiding K lo
structure qj(rs:List (Str×List Str)):Prop where
 nm:∀r∈rs,ja r.1=true
 nd:(rs.map (·.1)).Nodup
 to:∀r∈rs,∀z∈r.2,z∈rs.map (·.1)
 rd:∀r∈rs,r.2.Nodup
 few:(rs.map λr=>r.2.length).sum<=40
def QY(zs:List Str)(j:Nat):Str:=zs.getD j ⟨#[]⟩
def Zv{zs:List Str}(h:j < zs.length):QY zs j∈zs:=by
 unfold QY;rw[zah,th h];exact zbj h
def zg{zs:List Str}(h:j < zs.length):zs[j]?=some (QY zs j):=by
 unfold QY;rw[zah,th h];rfl
def kL{zs:List Str}(d:zs.Nodup)(b:i < zs.length)(c:j < zs.length)(h:QY zs i=QY zs j):i=j:=by
 have a:=zg b;have g:=zg c;rw[h,<-g,th b,th c]at a;have e:zs[i]=zs[j]:=tz.inj a;rcases zan i j with a | a | a
 ·exact absurd e (zaw.mp d i j b c a)
 ·exact a
 ·exact absurd e.symm (zaw.mp d j i c b a)
def ZD{β:Type}{f:α->β}:∀{l:List α},l.Nodup->(∀a∈l,∀b∈l,f a=f b->a=b)->(l.map f).Nodup
 | [],_,_=>zaY
 | a::l,h,k=>by
  rw[tG,zaa];rw[zaa]at h;refine⟨λz=>?_,ZD h.2 λx hx y hy=>k x (tA _ hx) y (tA _ hy)⟩;obtain⟨b,hb,e⟩:=tl.mp z;have:=k b (tA _ hb) a (tE) e;subst this;exact h.1 hb
def Wx(a:List (Nat×Nat))(k:Nat):List Nat:=(a.filter λx=>decide (x.1=k)).map (·.2)
def xz{c:List (Nat×Nat)}(h:c.Pairwise AI)(k:Nat):(Wx c k).Nodup:=by
 have d:(c.filter λx=>decide (x.1=k)).Pairwise AI:=h.sublist (zaR);refine zdP.mpr (zdB.imp_of_mem (λ{a b} c e g=>?_) d);have d:a.1=k:=of_decide_eq_true (tO.mp c).2;have c:b.1=k:=of_decide_eq_true (tO.mp e).2;unfold AI at g;omega
def vI{a:List (Nat×Nat)}(h:∀x∈a,x.1 < m/\x.2 < m)(k:Nat):∀j∈Wx a k,j < m:=λj a=>by
 obtain⟨x,b,e⟩:=tl.mp a;have:=(h x (tO.mp b).1).2;omega
def RM(os:List Nat)(f g:Nat->Nat):(os.map λk=>f k+g k).sum=(os.map f).sum+(os.map g).sum:=by
 induction os with
 | nil=>rfl
 | cons a os b=>
  simp only[tG,zaq,b];omega
def RL{os:List Nat}(h:os.Nodup)(a:Nat):(os.map λk=>if a=k then 1 else 0).sum<=1:=by
 induction os with
 | nil=>exact zac _
 | cons b os d=>
  rw[zaa]at h;rw[tG,zaq];by_cases e:a=b
  ·subst e;have z:(os.map λk=>if a=k then 1 else 0)=os.map λ_=>0:=zbq λk g=>by
    rw[if_neg];intro e;subst e;exact h.1 g
   rw[z,if_pos rfl];have:(os.map λ_=>0).sum=0:=by
    clear z d h;induction os with
    | nil=>rfl
    | cons c os d=>rw[tG,zaq,d]
   omega
  ·rw[if_neg e];have:=d h.2;omega
def kS{os:List Nat}(h:os.Nodup):∀a:List (Nat×Nat),(os.map λk=>(Wx a k).length).sum<=a.length
 | []=>by
  have:(os.map λk=>(Wx [] k).length).sum=0:=by
   clear h;induction os with
   | nil=>rfl
   | cons c os b=>rw[tG,zaq,b];rfl
  omega
 | x::a=>by
  have e:(os.map λk=>(Wx (x::a) k).length)=os.map λk=>(if x.1=k then 1 else 0)+(Wx a k).length:=zbq λk _=>by
   unfold Wx;rw[zbi];by_cases z:x.1=k
   ·rw[if_pos (decide_eq_true z),if_pos z];simp only[tG,t0];omega
   ·rw[if_neg (by simpa using z),if_neg z,zdM]
  rw[e,RM,t0];have:=RL h x.1;have:=kS h a;omega
def JJ(zs:List Str)(a:List (Nat×Nat))(b:Bool)(k:Nat):Str×List Str:=
 (QY zs k,if b=true then ((Wx a k).map (QY zs)).reverse else (Wx a k).map (QY zs))
def xM:z∈(JJ zs a b k).2↔z∈(Wx a k).map (QY zs):=by
 unfold JJ;cases b
 ·rw[if_neg tH]
 ·rw[if_pos rfl,zct]
def xN:(JJ zs a b k).2.length=(Wx a k).length:=by
 unfold JJ;cases b
 ·rw[if_neg tH,ta]
 ·rw[if_pos rfl,zbP,ta]
structure vy(m:Nat)(os:List Nat):Prop where
 len:os.length=m
 nd:os.Nodup
 lt:∀k∈os,k < m
 all:∀j,j < m->j∈os
def wE{zs:List Str}{c:List (Nat×Nat)}{os:List Nat}{m:Nat}(g:Bool)(hz:zs.length=m)(hN:∀z∈zs,ja z=true)(hd:zs.Nodup)(v:c.Pairwise AI)(j:∀x∈c,x.1 < m/\x.2 < m)(y:c.length<=40)(d:vy m os):
  qj (os.map (JJ zs c g)):=by
 have r:(os.map (JJ zs c g)).map (·.1)=os.map (QY zs):=by rw[zav];rfl
 have inj:∀a∈os,∀b∈os,QY zs a=QY zs b->a=b:=λa l b o e=>kL hd (by rw[hz];exact d.lt a l) (by rw[hz];exact d.lt b o) e;refine⟨λi hr=>?_,?_,λi hr z u=>?_,λi hr=>?_,?_⟩
 ·obtain⟨k,p,rfl⟩:=tl.mp hr;exact hN _ (Zv (by rw[hz];exact d.lt k p))
 ·rw[r];exact ZD d.nd inj
 ·obtain⟨k,p,rfl⟩:=tl.mp hr;rw[xM]at u;obtain⟨q,B,rfl⟩:=tl.mp u;rw[r];exact tl.mpr ⟨q,d.all q (vI j k q B),rfl⟩
 ·obtain⟨k,p,rfl⟩:=tl.mp hr;have p:((Wx c k).map (QY zs)).Nodup:=ZD (xz v k) λa l b o e=>kL hd (by rw[hz];exact vI j k a l) (by rw[hz];exact vI j k b o) e;show (if g=true then _ else _:List Str).Nodup;cases g
  ·rw[if_neg tH];exact p
  ·rw[if_pos rfl];exact zdt.mpr (p.imp λh=>Ne.symm h)
 ·have j:((os.map (JJ zs c g)).map λi=>i.2.length)=os.map λk=>(Wx c k).length:=by
   rw[zav];exact zbq λk _=>xN
  rw[j];exact tS (kS d.nd c) y
def Kw(m:Nat):vy m (t8 m):=⟨zai,zdf,λk h=>zaM.mp h,λ_ h=>zaM.mpr h⟩
def vY(m:Nat):vy m (zR m):=⟨by rw[zR,zbP,zai],zdt.mpr (zdf.imp λh=>Ne.symm h),λk h=>zaM.mp (zct.mp h),λ_ h=>zct.mpr (zaM.mpr h)⟩
def YG(m:Nat):List Nat:=(t8 m).map λk=>k*5 % m
def wJ:∀m,m < 15->(YG m).Nodup->∀j,j < m->j∈YG m:=by decide+kernel
def U2(b:m<=14)(a:0 < m)(h:(YG m).Nodup):vy m (YG m):=
 ⟨by rw[YG,ta,zai],h,λk b=>by obtain⟨x,_,rfl⟩:=tl.mp b;exact Nat.mod_lt _ a,wJ m (by omega) h⟩
def W0(val:Nat->Int):∀i,(firstMet val i).length=i->((t8 i).map val).Nodup
 | 0,_=>zaY
 | i+1,h=>by
  have c:=firstMet_any val i (val i);have l:=firstMet_length_le val i;rw[firstMet_succ]at h;unfold step_dedup at h;split at h
  ·omega
  ·rename_i z;rw[tm,t7]at h;rw[zcz,tw,zbI];refine⟨W0 val i (by omega),by simp,λa d b g e=>?_⟩;have j:b=val i:=by simpa using g
   subst j;subst e;refine z ?_;rw[c,zaI];exact⟨_,d,by simp⟩
def B1{os:List Nat}(h:¬(firstMet (λi=>(os.map λk=>((k:Nat):Int)).getD i 0) (os.map λk=>((k:Nat):Int)).length).length < os.length):os.Nodup:=by
 have a:=firstMet_length_le (λi=>(os.map λk=>((k:Nat):Int)).getD i 0) (os.map λk=>((k:Nat):Int)).length;have b:=W0 (λi=>(os.map λk=>((k:Nat):Int)).getD i 0) (os.map λk=>((k:Nat):Int)).length (by rw[ta]at a h ⊢;omega);have e:(t8 (os.map λk=>((k:Nat):Int)).length).map (λi=>(os.map λk=>((k:Nat):Int)).getD i 0)=os.map λk=>((k:Nat):Int):=by
  refine zdN λi=>?_;rw[tp];by_cases a:i < (os.map λk=>((k:Nat):Int)).length
  ·rw[zbQ a,th a];simp only[zbb,zah,th a,Option.getD_some]
  ·rw[zbF (by rw[zai];omega),zbF (by omega)];rfl
 rw[e]at b;refine(zdP.mp b).imp λh e=>h (by rw[e])
open PyProof.Rows hiding K lo
def jD(H:Hp)(ps:List Addr)(rs:List (Str×List Str)):Prop:=ps.length=rs.length/\∀(i:Nat) (b:Addr) (a:Str×List Str),ps[i]?=some b->rs[i]?=some a->∃q,H b=some (.tup [.str a.1,.ref q])/\H q=some (.tup (a.2.map V.str))
inductive k6(vs:List V)(H:Hp)(Q:VK):Prop
 | mk (d:Addr) (mo:Nat) (n s t:Int):vs=[.ref d,.int mo]->H d=some (.dK (j9 n s t))->(0 < mo)->(mo<=14)->(∀(l:Addr) (ps:List Addr) (rs:List (Str×List Str)) (n' t':Int) (H':Hp),H l=none->H' l=some (.lst (ps.map V.ref))->jD H' ps rs->qj rs->0 < rs.length->rs.length<=mo->H' d=some (.dK (j9 n' s t'))->Fr H d H'->Q (.ref l) H')->k6 vs H Q
def A3:Sp:=λa H Q _=>k6 a H Q
structure j3(mg:Str->Option Value):Prop where
 srt:mg "sorted"=none
 lst:mg "list"=none
 rev:mg "reversed"=none
 set:mg "set"=none
 tup:mg "tuple"=none
def jD.mono(h:jD H ps rs)(s:qi H c):jD c ps rs:=⟨h.1,λi c d e g=>let ⟨q,a,b⟩:=h.2 i c d e g;⟨q,s _ _ a,s _ _ b⟩⟩
def ZK.mono(h:ZK H ps a)(s:qi H b):ZK b ps a:=⟨h.1,λi a k b c=>s _ _ (h.2 i a k b c)⟩
def Fr.same(h:Fr H d a)(s:qi a c):Fr H d c:=λb u a c=>s _ _ (h b u a c)
def jD.snoc(h:jD H ps rs)(d:H p=some (.tup [.str r.1,.ref q]))(e:H q=some (.tup (r.2.map V.str))):jD H (ps++[p]) (rs++[r]):=by
 refine⟨by rw[tm,tm,h.1];rfl,λi g j a b=>?_⟩;by_cases c:i < ps.length
 ·rw[tV c]at a;rw[tV (by rw[<-h.1];exact c)]at b;exact h.2 i g j a b
 ·have c:i=ps.length:=by
   have:=(td.mp a).1;rw[tm,t7]at this;omega
  subst c;rw[tP (tc _),zbN]at a;rw[h.1,tP (tc _),zbN]at b;obtain rfl:=(tz.inj a).symm;obtain rfl:=(tz.inj b).symm;exact⟨q,d,e⟩
def jD.upd_lst(h:jD H ps rs)(c:H l=some (.lst xs)):jD (upd H l o) ps rs:=by
 refine⟨h.1,λi d g j m=>?_⟩;obtain⟨q,a,b⟩:=h.2 i d g j m;refine⟨q,?_,?_⟩
 ·rw[qg (λe=>by rw[e,c]at a;cases a)];exact a
 ·rw[qg (λe=>by rw[e,c]at b;cases b)];exact b
def kv{g:TT}{i u:TS}(R:Bool->Hp->Prop)(G:L2.St->Hp->Prop)(l:∀Q:Bool->Hp->Prop,(∀b a,R b a->Q b a)->g e m Q)(o:∀a,R true a->∀j:JD,(∀c d,G c d->j.nx c d)->i j e a)(p:∀a,R false a->G e a)(k:∀c d,G c d->u D c d):RH (RJ g i kW) u D e m:=
 l _ λb a a=>by
  cases b
  ·exact jG (k _ _ (p _ a))
  ·exact Q4 (o _ a _ k)
def MO{zs:List Str}(h:j < zs.length):Wo (zs.map V.str) ((j:Nat):Int)=some (V.str (QY zs j)):=ZJ (by rw[tp,zg h];rfl)
def ua{a:List (Nat×Nat)}{j:Nat}{x:Nat×Nat}(k:Nat)(h:a[j]?=some x):Wx (a.take (j+1)) k=Wx (a.take j) k++if x.1=k then [x.2] else []:=by
 unfold Wx;rw[tM,h,zay,tw];congr 1;by_cases e:x.1=k
 ·rw[if_pos e];simp [e]
 ·rw[if_neg e];simp [e]
abbrev oL(os:List Nat):List V:=os.map λk=>V.int ((k:Nat):Int)
def N5(os:List Nat):oL os=(os.map λk=>((k:Nat):Int)).map V.int:=by rw[zav];rfl
abbrev Eb:List Str:=["_law_source_here","_law_most","_law_many","_law_names_here","_law_shape","_law_pairs","_law_about","_law_order","_law_rows_here","_law_k","_law_leads_here"]
def vR:qh Eb ["_law_source_here","_law_most"] (qc yz):=jY
abbrev EH:List Str:=["_law_one","_law_j","_law_k","_law_names_here"]
def xc:EH.Nodup:=by decide+kernel
def NP(F:jE K "_law_rows" "_law_rows" yz f g)(B:Qo mg)(G:j3 mg)(j:qH K mg "_law_take" YA ["_law_source_here","_law_many"] o p)(hN:qH K mg "_law_names" Xs ["_law_source_here","_law_many"] r C)(l:qH K mg "_law_leads" Xu VD J L):qp P w K mg base qN 3 f g ["_law_source_here","_law_most"] A3:=by
 have GT:=pin P w mg base (zA j.fn);have o:=pin P w mg base (KO hN.fn B j);have p:=pin P w mg base (KP l.fn B G.srt j);refine F.okK vR λH Q E hr h=>?_;obtain⟨d,mo,n,g,t,rfl,hd,_,_,q⟩:=h;have r:je 1 _:=hr.mono (by decide);refine⟨_,qb (ZY 2 (qL Qj qe (qv j GT (jr (jv 0) (jv 1)))))
  (qb (ZY 3 (qv hN o (jr (jv 0) (jv 2))))
  (qb (qx 4 (qv j GT (jr (jv 0) qe)))
  (qb (qx 5 (qv l p (Hk (jv 0) (jv 2) (jv 4) (qL Qj qe (qv j GT (jr (jv 0) qe))))))
  (qb (qx 6 (jK jl (qv j GT (jr (jv 0) qe)) qe))
  (qb (qx 7 (Ej rfl (by rfl) G.lst (by rfl) B.rng (jv 2)))
  (qb (qF (jn (jv 6)) (qd (Jj (i:=7) (N':=["_law_k","_law_many"]) (ix:=[none,some 2]) (hN:=vR.nd) (QD (by rfl) B.rng (qU (jv 2)))
    (λl o j fp p=>⟨qG 0,jJ,qL Qr (qL QR (jv 0) qe) (jv 1)⟩))) qr)
  (qb (qF (qo QV (qu vu (by rfl) B.len boot_len (qU (jo (wO rfl) (by rfl) G.set boot_set (qU (jv 7))))) (jv 2))
    (qd (qx 7 (Ci rfl (by rfl) G.lst (by rfl) G.rev (by rfl) B.rng (jv 2)))) qr)
  (qb (qx 8 (j5 Qk))
  (qb (jc (qC (jv 7)) (qG 9)
   (qb (Jj (i:=10) (N':=EH) (ix:=[none,none,some 9,some 3]) (g:=Ms K 2 (XW (QW 0) (XW (QW 1) Mt))) (te:=z5 (Bx K) (qY 3) (qY 1)) (hN:=vR.nd) (qC (jv 5))
     (λl o j fp p=>⟨Zn rfl (jw (zK (i:=0) xc rfl (Or.inl rfl)) (jw (zK (i:=1) xc rfl (Or.inl rfl)) Jt)),
      j7 (qo jl (jv 0) (jv 2)),qB qR (jv 3) (jv 1)⟩))
   (qb (qF (jn (jv 6)) (qd (ji (Gs zaj PySem.F.slot_list_reverse PySem.F.type_list_reverse kc (jv 10)))) qr)
   (qd (ji (QP zaj zaV zaW Q8 (jv 8) (jt
    (jW (jr (qB qR (jv 3) (jv 9)) (jo Z0 (by rfl) G.tup boot_tuple (qU (jv 10))))) Qk)))))))
  (qd (qm (jv 8)))))))))))),?_⟩
 refine⟨_,rfl,_,rfl,d,mo,n,g,t,rfl,hd,by omega,by omega,λL n1 l _ r=>⟨_,_,rfl,rfl,?_⟩⟩;obtain⟨m,em,m0,m1⟩:∃m:Nat,1+L=(m:Int)/\0 < m/\m<=mo:=⟨(1+L).toNat,by omega,by omega,by omega⟩;have o:V.int (1+L)=V.int (m:Int):=congrArg V.int em;rw[o];refine⟨_,rfl,_,rfl,d,m,n1,g,l,rfl,qa,by omega,λp l n2 o j T ar zl zn as r J=>?_⟩;have J:Fr H d j:=Fr.refl.at_d.trans J;refine⟨_,rfl,d,5,n2,g,o,rfl,r,by decide,by decide,λsh j o _ _=>?_⟩;refine⟨_,rfl,_,rfl,_,rfl,_,rfl,d,5,j,g,o,rfl,qa,by decide,by decide,λj o r _ _=>⟨_,_,rfl,rfl,d,m,o,g,r,sh,1+j,rfl,qa,by omega,λO ps o n5 t5 j U au Y av ak aw al r=>?_⟩⟩;have C:p≠d:=λe=>by rw[e,qa]at T;cases T
 have ax:j p=some (.lst (l.map V.str)):=r _ _ (by rw[qg C,qg C];exact ar) C;have r:Fr H d j:=J.at_d.at_d.trans r;refine⟨_,rfl,d,2,n5,g,t5,rfl,al,by decide,by decide,λJ n6 T _ _=>⟨rfl,?_⟩⟩;generalize decide (V.int J=V.int 1)=b;have J:O≠d:=λe=>by rw[e,qa]at U;cases U
 have af:Fr H d (upd j d (.dK (j9 n6 g T))):=r.at_d;have ag:upd j d (.dK (j9 n6 g T)) d=some (.dK (j9 n6 g T)):=qa;have am:upd j d (.dK (j9 n6 g T)) p=some (.lst (l.map V.str)):=by rw[qg C];exact ax
 have ah:upd j d (.dK (j9 n6 g T)) O=some (.lst (ps.map V.ref)):=by rw[qg J];exact au
 have an:ZK (upd j d (.dK (j9 n6 g T))) ps o:=⟨Y.1,λi r k e1 C=>by
  have h1:=Y.2 i r k e1 C;have:r≠d:=λe=>by rw[e,al]at h1;cases h1
  rw[qg this];exact h1⟩
 generalize upd j d (.dK (j9 n6 g T))=U at af ag am ah an;refine⟨_,rfl,m,rfl,by omega,λlo J=>?_⟩;refine XV ?_;dsimp only[List.set];refine kv (λc g=>c=b/\g=upd U lo (.lst (MS m))) (λj g=>∃lo os,j=[some (.ref d),some (.int mo),some (.int m),some (.ref p),some (.int sh),some (.ref O),some (.bl b),some (.ref lo),none,none,none]/\qi U g/\U lo=none/\g lo=some (.lst (oL os))/\(os=t8 m\/os=YG m))
  (λQ k=>⟨_,rfl,b,rfl,k _ _ ⟨rfl,rfl⟩⟩) ?_ ?_ ?_
 ·rintro H1 ⟨rfl,rfl⟩ D' k;refine⟨_,rfl,m,rfl,by omega,by omega,λD C=>?_⟩;refine ZI (λi j g=>∃v:Option V,j=[v,some (.int m)]/\g=upd (upd U lo (.lst (MS m))) D (.lst (oL ((t8 i).map λk=>k*5 % m)))) ⟨none,rfl,rfl⟩ ?_ ?_
  ·rintro i j g Y ⟨v,rfl,rfl⟩;rw[zcE];have Y:i < m:=by simpa using Y
   refine⟨_,rfl,_,_,rfl,rfl,.inl ⟨by omega,by omega⟩,_,rfl,_,_,rfl,rfl,(by show (0:Int) < m;omega),_,qa,?_,_,rfl,?_⟩
   ·rw[ta,ta,zai];exact ql (by omega)
   ·rw[jx,zcz,tw,oL,oL,tw];rfl
  ·rintro j g ⟨v,rfl,rfl⟩;have Y:U D=none:=by
    by_cases e:D=lo
    ·rw[e];exact J
    ·rw[qg e]at C;exact C
   exact k _ _ ⟨D,YG m,rfl,λa u h=>qk (qk h J) C,Y,qa,.inr rfl⟩
 ·rintro H1 ⟨rfl,rfl⟩;exact⟨lo,t8 m,rfl,qf J,J,qa,.inl rfl⟩
 rintro j Y ⟨lo,os,rfl,s7,_,ao,ap⟩;have J:os.length=m:=by
  rcases ap with rfl | rfl
  ·exact zai
  ·rw[YG,ta,zai]
 refine kv (λc g=>qi Y g/\(c=true\/os.Nodup)) (λj g=>∃lo os,j=[some (.ref d),some (.int mo),some (.int m),some (.ref p),some (.int sh),some (.ref O),some (.bl b),some (.ref lo),none,none,none]/\qi U g/\g lo=some (.lst (oL os))/\vy m os)
  ?_ ?_ ?_ ?_
 ·intro Q k;refine⟨_,rfl,lo,os.map (λk=>((k:Nat):Int)),rfl,.of (by rw[<-N5];exact ao),by rw[ta,J];omega,λY S hl=>?_⟩;refine⟨Y,S,_,rfl,qa,_,rfl,_,_,rfl,rfl,_,rfl,k _ _ ⟨qf hl,?_⟩⟩;by_cases h:(((firstMet (λi=>(os.map λk=>((k:Nat):Int)).getD i 0) (os.map λk=>((k:Nat):Int)).length).length:Nat):Int) < (m:Int)
  ·exact .inl (decide_eq_true h)
  ·exact .inr (B1 (by rw[J];omega))
 ·rintro H1 ⟨J,_⟩ D' k;refine⟨_,rfl,m,rfl,by omega,λY hl=>?_⟩;exact k _ _ ⟨Y,zR m,rfl,λa u h=>qk (J _ _ (s7 _ _ h)) hl,qa,vY m⟩
 ·rintro H1 ⟨J,h⟩;have h:os.Nodup:=h.resolve_left (by decide);refine⟨lo,os,rfl,λa u h=>J _ _ (s7 _ _ h),J _ _ ao,?_⟩;rcases ap with rfl | rfl
  ·exact Kw m
  ·exact U2 (by omega) m0 h
 rintro j H8 ⟨lo,os,rfl,s8,Y,ho⟩;refine⟨Ze,λJ aa=>⟨_,rfl,lo,rfl,⟨_,.of (qk Y aa)⟩,?_⟩⟩;refine jm (K:=K) (a:=lo) (xs:=oL os) (λi j g=>∃(v9 gB:Option V) (qs:List Addr),j=[some (.ref d),some (.int mo),some (.int m),some (.ref p),some (.int sh),some (.ref O),some (.bl b),some (.ref lo),some (.ref J),v9,gB]/\
  qi H8 g/\g J=some (.lst (qs.map V.ref))/\jD g qs ((os.take i).map (JJ l o b)))
  ⟨none,none,[],rfl,qf aa,qa,rfl,λi r L e=>(nomatch e)⟩ (λi j g _ ⟨_,_,_,_,s,_⟩=>.of (s _ _ Y)) ?_ ?_
 ·rintro i x j g L ⟨v9,gB,qs,rfl,Y,ac,fk⟩;have ay:i < os.length:=by
   have:=(td.mp L).1;rwa [ta]at this
  obtain⟨k,hk⟩:∃k,os[i]?=some k:=⟨_,th ay⟩;have ex:x=V.int ((k:Nat):Int):=by
   rw[tp,hk]at L;exact(tz.inj L).symm
  subst ex;have az:k < m:=ho.lt k (tL hk);refine⟨_,rfl,O,rfl,⟨_,.of (Y _ _ (s8 _ _ ah))⟩,λD C=>?_⟩;have aA:D≠J:=λe=>by rw[e,ac]at C;cases C
  have aq:g p=some (.lst (l.map V.str)):=Y _ _ (s8 _ _ am);have ai:ZK g ps o:=an.mono λa u h=>Y _ _ (s8 _ _ h);refine jC (K:=K) (a:=O) (xs:=ps.map V.ref) (λL ae aB=>∃v0 v1:Option V,ae=[v0,v1,some (.int k),some (.ref p)]/\aB=upd g D (.lst (((Wx (o.take L) k).map (QY l)).map V.str))) ⟨none,none,rfl,rfl⟩
   (λL ae G _ ⟨_,_,_,e⟩=>e▸.of (qk (Y _ _ (s8 _ _ ah)) C)) ?_ ?_
  ·rintro L y ae G hy ⟨v0,v1,rfl,rfl⟩;have hj:L < ps.length:=by
    have:=(td.mp hy).1;rwa [ta]at this
   obtain⟨r,hp⟩:∃r,ps[L]?=some r:=⟨_,th hj⟩;obtain⟨kk,aj⟩:∃r,o[L]?=some r:=⟨_,th (by rw[<-ai.1];exact hj)⟩;have ey:y=V.ref r:=by
    rw[tp,hp]at hy;exact(tz.inj hy).symm
   subst ey;have aC:=ai.2 L r kk hp aj;have aD:kk.2 < l.length:=by rw[zl];exact(ak kk (tL aj)).2
   refine⟨r,_,rfl,.of (qk aC C),rfl,_,_,rfl,_,_,rfl,rfl,_,rfl,_,rfl,rfl,_,rfl,?_⟩;rw[ua k aj];by_cases e:kk.1=k
   ·have e1:decide (V.int ((kk.1:Nat):Int)=V.int ((k:Nat):Int))=true:=decide_eq_true (by rw[e]);rw[e1,if_pos e];refine Q4 ⟨_,rfl,_,rfl,p,_,_,_,rfl,rfl,.of (qk aq C),MO aD,_,qa,?_,_,_,rfl,?_⟩
    ·rw[ta,ta];refine ql ?_;have h1:(Wx (o.take L) k).length<=(o.take L).length:=by
      unfold Wx;rw[ta];exact zak _ _
     rw[tJ]at h1;omega
    ·rw[jx,tw,tw];rfl
   ·have e1:decide (V.int ((kk.1:Nat):Int)=V.int ((k:Nat):Int))=false:=decide_eq_false (by
     intro z;have:=V.int.inj z;omega)
    rw[e1,if_neg e,zam];exact jG ⟨_,_,rfl,rfl⟩
  ·rintro ae G ⟨v0,v1,rfl,rfl⟩;rw[ta,ai.1,tu (tc _)];refine XV ?_;dsimp only[List.set];refine kv (λc G=>c=b/\G=upd g D (.lst (((Wx o k).map (QY l)).map V.str)))
    (λj G=>j=[some (.ref d),some (.int mo),some (.int m),some (.ref p),some (.int sh),some (.ref O),some (.bl b),some (.ref lo),some (.ref J),some (.int k),some (.ref D)]/\G=upd g D (.lst ((JJ l o b k).2.map V.str)))
    (λQ k=>⟨_,rfl,b,rfl,k _ _ ⟨rfl,rfl⟩⟩) ?_ ?_ ?_
   ·rintro H1 ⟨rfl,rfl⟩ D' kk;refine⟨_,rfl,.inl ⟨rfl,_,.of qa⟩,D,_,rfl,rfl,qa,?_⟩;refine kk _ _ ⟨rfl,?_⟩;rw[jx,JJ,if_pos rfl,List.map_reverse]
   ·rintro H1 ⟨rfl,rfl⟩;exact⟨rfl,rfl⟩
   rintro j G ⟨rfl,rfl⟩;have L:upd g D (.lst ((JJ l o b k).2.map V.str)) J=some (.lst (qs.map V.ref)):=by rw[qg (Ne.symm aA)];exact ac
   have r:qi g (upd g D (.lst ((JJ l o b k).2.map V.str))):=qf C;refine⟨_,rfl,.inl ⟨rfl,_,.of L⟩,_,rfl,_,rfl,p,_,_,_,rfl,rfl,.of (r _ _ aq),MO (by rw[zl];exact az),_,rfl,D,_,rfl,.inl ⟨.of qa,λO C=>⟨Ze,λlt p=>?_⟩⟩⟩;have aE:=qk (o':=HO.tup ((JJ l o b k).2.map V.str)) L C;have o:=qk (o':=HO.tup [V.str (QY l k),V.ref O]) aE p;refine⟨J,_,_,rfl,rfl,o,?_,_,_,qs++[lt],rfl,?_,?_,?_⟩
   ·rw[ta,fk.1,ta,tJ];refine ql ?_;have:=ho.len;omega
   ·exact qi.upd (λa u h=>qk (qk (r _ _ (Y _ _ h)) C) p) aa
   ·rw[tw];exact qa
   ·have e:os.take (i+1)=os.take i++[k]:=by rw[tM,hk];rfl
    rw[e,tw];refine jD.upd_lst ?_ o;exact jD.snoc (q:=O) (fk.mono λa u h=>qk (qk (r _ _ h) C) p) qa (qk qa p)
 ·rintro j g ⟨v9,gB,qs,rfl,Y,ac,fk⟩;have e:(oL os).length=os.length:=ta ..;rw[e,tu (tc _)]at fk;have j:U J=none:=by
   cases z:U J with
   | none=>rfl
   | some u=>rw[s8 _ _ z]at aa;cases aa
  refine⟨_,rfl,q J qs _ n6 T g (af.fresh ag j) ac fk (wE b zl zn as av ak aw ho) ?_ ?_ (Y _ _ (s8 _ _ ag)) (af.same λa u h=>Y _ _ (s8 _ _ h))⟩
  ·rw[ta,ho.len];exact m0
  ·rw[ta,ho.len];exact m1
open PyProof.Rows hiding K lo
abbrev WP:Stmt:=top 26
abbrev Xw:Stmt:=top 27
abbrev yD:Stmt:=top 28
abbrev Np:Stmt:=top 29
abbrev yE:Stmt:=top 30
abbrev Nt:Stmt:=top 31
abbrev US:Stmt:=top 32
def nd1(x:Str):[x].Nodup:=by simp
structure Qb(K:zdU)(mg:Str->Option Value):Prop where
 isi:mg "isinstance"=none
 str:mg "str"=none
 all:mg "all"=none
 enu:mg "enumerate"=none
 sum:mg "sum"=none
 lets:∃t,mg "LETTERS"=some (.str xl t)
 lgst:∃t,mg "LONGEST_NAME"=some (.int 8 t)
 mp:∃t,mg "MOST_PLACES"=some (.int 14 t)
 mr:∃t,mg "MOST_ROADS"=some (.int 40 t)
 kss:zaD K (.type "str") (.type "str")=some true
 ktt:zaD K (.type "tuple") (.type "tuple")=some true
 kll:zaD K (.type "list") (.type "list")=some true
def Cm(c:Nat):(!(Builtin.Str.occurrences xl ⟨#[c]⟩ 0 xl.length 1).isEmpty)=j2 c:=by
 rw[StrLaws.found_one,Rm];unfold j2;rw[zaE];simp only[decide_eq_true_eq,zae,tl,zaM];constructor
 ·rintro⟨k,_,rfl⟩;omega
 ·intro h;exact⟨c - 97,by omega,by omega⟩
def Rl(f:Nat->Bool)(l:List Nat)(i c:Nat)(h:l[i]?=some c):(l.take i).map f++[f c]=(l.take (i+1)).map f:=by
 rw[tM,h];simp
inductive Aa(vs:List V)(H:Hp)(Q:VK):Prop
 | mk (z:_):vs=[.str z]->ja z=true->(∀H',qi H H'->Q (.bl true) H')->Aa vs H Q
def Do:Sp:=λa H Q _=>Aa a H Q
inductive M7(vs:List V)(H:Hp)(Q:VK):Prop
 | mk (q:Addr) (zs:List Str):vs=[.ref q]->H q=some (.tup (zs.map V.str))->((∀z∈zs,ja z=true))->(zs.length<=1000)->(∀H',qi H H'->Q (.bl true) H')->M7 vs H Q
def Fp:Sp:=λa H Q _=>M7 a H Q
inductive uD(vs:List V)(H:Hp)(Q:VK):Prop
 | mk (p q:Addr) (r:Str×List Str):vs=[.ref p]->H p=some (.tup [.str r.1,.ref q])->H q=some (.tup (r.2.map V.str))->ja r.1=true->((∀z∈r.2,ja z=true))->(r.2.length<=1000)->(∀H',qi H H'->Q (.bl true) H')->uD vs H Q
def Dm:Sp:=λa H Q _=>uD a H Q
structure QG(H:Hp)(l:Addr)(ps:List Addr)(rs:List (Str×List Str)):Prop where
 at_:H l=some (.lst (ps.map V.ref))
 rows:jD H ps rs
 good:qj rs
 pos:0 < rs.length
 le:rs.length<=14
def QG.mono(h:QG H l ps rs)(s:qi H a):QG a l ps rs:=⟨s _ _ h.at_,h.rows.mono s,h.good,h.pos,h.le⟩
def qj.names(h:qj rs):∀r∈rs,∀z∈r.2,ja z=true:=λr hr z a=>by
 obtain⟨b,c,rfl⟩:=tl.mp (h.to r hr z a);exact h.nm b c
def qj.len(h:qj rs):∀r∈rs,r.2.length<=40:=λr hr=>by
 refine tS ?_ h.few;have:∀(rs:List (Str×List Str)),r∈rs->r.2.length<=(rs.map λr=>r.2.length).sum:=by
  intro rs;induction rs with
  | nil=>intro h;cases h
  | cons a rs b=>
   intro h;rw[tG,zaq];rcases tI.mp h with rfl | h
   ·omega
   ·have:=b h;omega
 exact this rs hr
def jD.item{H:Hp}{ps:List Addr}{rs:List (Str×List Str)}(h:jD H ps rs){i:Nat}{x:V}(c:(ps.map V.ref)[i]?=some x):∃p q r,x=.ref p/\rs[i]?=some r/\r∈rs/\H p=some (.tup [.str r.1,.ref q])/\H q=some (.tup (r.2.map V.str)):=by
 rw[tp]at c;cases e:ps[i]? with
 | none=>rw[e]at c;cases c
 | some p=>
  rw[e]at c;have d:i < rs.length:=by
   have:=(td.mp e).1;rw[h.1]at this;exact this
  obtain⟨q,a,b⟩:=h.2 i p _ e (th d);exact⟨p,q,_,(tz.inj c).symm,th d,zbj d,a,b⟩
inductive yp(vs:List V)(H:Hp)(Q:VK):Prop
 | mk (l:Addr) (ps:List Addr) (rs:List (Str×List Str)):vs=[.ref l]->QG H l ps rs->(∀H',qi H H'->Q .non H')->yp vs H Q
def vP:Sp:=λa H Q _=>yp a H Q
inductive uF(vs:List V)(H:Hp)(Q:VK):Prop
 | mk (l:Addr) (zs:List Str):vs=[.ref l]->H l=some (.lst (zs.map V.str))->zs.Nodup->(zs.length<=1000)->(∀H',qi H H'->Q .non H')->uF vs H Q
def Dn:Sp:=λa H Q _=>uF a H Q
inductive yt(vs:List V)(H:Hp)(Q:VK):Prop
 | mk (q l:Addr) (es zs:List Str):vs=[.ref q,.ref l]->H q=some (.tup (es.map V.str))->H l=some (.lst (zs.map V.str))->es.Nodup->((∀z∈es,z∈zs))->(es.length<=900)->(∀H',qi H H'->Q .non H')->yt vs H Q
def Bb:Sp:=λa H Q _=>yt a H Q
def Ja{kvs:List (qT×V)}(h:¬k∈kvs.map (·.1)):jh kvs k=none:=by
 cases e:jh kvs k with
 | none=>rfl
 | some v=>exact absurd (RF e) h
def ZG(zs:List Str):(zs.map V.str).all ZZ=true:=by
 rw[zci,zag];intro z _;rfl
def VT{z:Str}{zs:List Str}(h:z∈zs):YF (.str z) (zs.map V.str)=true:=by
 unfold YF;rw[zaI];exact⟨.str z,tl.mpr ⟨z,h,rfl⟩,by show (z==z)=true;simp⟩
def Bk:qh ["thing"] ["thing"] (qc ZT):=jY
def YY(F:jE K "is_name" "is_name" ZT f a)(B:Qo mg)(T:Qb K mg):qp P w K mg base qN 1 f a ["thing"] Do:=by
 refine F.okK Bk λH Q E hr h=>?_;obtain⟨z,rfl,b,q⟩:=h;obtain⟨_,a⟩:=T.lets;obtain⟨_,d⟩:=T.lgst;refine⟨_,qb (qF (j4 (jn (qu jA (by rfl) T.isi boot_isinstance (jr (jv 0) (QJ (v:=.ty "str") (by rfl) T.str boot_str rfl))))) (qd (qm Qx)) qr)
  (qb (qF (Ji (qo QV (qu J6 (by rfl) B.len boot_len (qU (jv 0))) qe)
    (QC (qo ZW (qu J6 (by rfl) B.len boot_len (qU (jv 0))) (Ju (v:=.int 8) (by rfl) d ⟨_,rfl⟩)))).pt (qd (qm Qx)) qr)
  (qd (qm (qu (ZH rfl) (by rfl) T.all boot_all (qU (j8 (N':=["sign"]) (ix:=[none]) (Cf (jv 0)) (λ_ _ _ fp _=>
   ⟨qG 0,jJ,jK xV (jv 0) (Ju (v:=.str xl) (by rfl) a ⟨_,rfl⟩) (by with_unfolding_all rfl)⟩))))))),?_⟩
 have a:=b;unfold ja at a;simp only[zae,decide_eq_true_eq]at a;obtain⟨⟨n1,n8⟩,d⟩:=a;have a:z.length<=zdZ:=t6 (ql (by omega));refine⟨_,rfl,_,_,_,_,rfl,rfl,.str z,T.kss,_,rfl,jG ?_⟩;refine⟨_,rfl,z,rfl,a,_,_,rfl,rfl,_,rfl,?_⟩;refine VS (λh=>?_) (λh=>?_)
 ·exact absurd (of_decide_eq_true h) (by omega)
 ·refine⟨_,rfl,z,rfl,a,_,_,rfl,rfl,_,rfl,?_⟩;refine VS (λa=>?_) (λa=>?_)
  ·exact absurd (of_decide_eq_true a) (by show ¬(8:Int) < (z.length:Int);omega)
  ·refine⟨_,rfl,z,rfl,λD e=>?_⟩;refine ME (λi a b=>∃v,a=[v]/\b=upd H D (.lst (((z.cps.toList.take i).map j2).map V.bl))) ⟨none,rfl,rfl⟩ ?_ ?_
   ·rintro i c a b g ⟨v,rfl,rfl⟩;refine⟨_,rfl,_,_,rfl,rfl,_,qa,?_,?_⟩
    ·rw[ta,ta,tJ];exact zat (zbh _ _) (ql (show z.cps.toList.length<=1000 by rw[zap];exact tS n8 (by decide)))
    ·refine⟨_,rfl,?_⟩;rw[jx,Cm];have j:z.cps.toList[i]?=some c:=by simpa using g
     rw[<-Rl j2 z.cps.toList i c j,tw];rfl
   ·rintro a b ⟨v,rfl,rfl⟩;refine⟨D,_,rfl,.of qa,?_⟩;have a:z.cps.toList.take z.cps.size=z.cps.toList:=tu (by simp);have b:(z.cps.toList.map j2).all id=true:=by rw[zci];exact d
    rw[a,b];exact q _ (qf e)
def Be:qh ["thing"] ["thing"] (qc WP):=jY
def NM(F:jE K "is_tuple_of_names" "is_tuple_of_names" WP f a)(B:Qo mg)(G:j3 mg)(T:Qb K mg)(hN:qH K mg "is_name" ZT ["thing"] b c):qp P w K mg base qN 2 f a ["thing"] Fp:=by
 have a:=pin P w mg base (YY hN.fn B T);refine F.okK Be λH Q E hr h=>?_;obtain⟨x,d,rfl,b,o,_,q⟩:=h;refine⟨_,qd (qm (J5 (qu jA (by rfl) T.isi boot_isinstance (jr (jv 0) (QJ (v:=.ty "tuple") (by rfl) G.tup boot_tuple rfl)))
  (za (qu (ZH rfl) (by rfl) T.all boot_all (qU (j8 (N':=["part"]) (ix:=[none]) (Gg (jv 0)) (λ_ g p fp _=>
   ⟨qG 0,jJ,qv hN a (qU (jv 0))⟩))))))),?_⟩
 refine⟨_,rfl,_,_,_,_,rfl,rfl,.tup b,T.ktt,_,rfl,Q4 ⟨_,rfl,x,rfl,⟨_,.of b⟩,λD m=>?_⟩⟩;refine MD (K:=K) (a:=x) (xs:=d.map V.str) (λi c a=>∃v,c=[v]/\qi H a/\a D=some (.lst ((zdv i true).map V.bl))) ⟨none,rfl,qf m,qa⟩ (λi c a _ ⟨_,_,s,_⟩=>.of (s _ _ b)) ?_ ?_
 ·rintro i y c a b ⟨v,rfl,j,l⟩;rw[tp]at b;cases e:d[i]? with
  | none=>rw[e]at b;cases b
  | some z=>
   rw[e]at b;obtain rfl:=(tz.inj b).symm;have b:=(td.mp e).1;refine⟨_,rfl,z,rfl,o z (tL e),λp g=>⟨_,g _ _ l,?_,_,rfl,?_,?_⟩⟩
   ·rw[ta,zbE];exact ql (by omega)
   ·exact qi.upd (j.trans g) m
   ·rw[qa,List.replicate_succ',tw];rfl
 ·rintro c a ⟨v,rfl,j,l⟩;refine⟨D,_,rfl,.of l,?_⟩;have e:(zdv (d.map V.str).length true).all id=true:=by simp
  rw[e];exact q _ j
def Nk:qh ["thing"] ["thing"] (qc Xw):=jY
def KR(F:jE K "is_row" "is_row" Xw f a)(B:Qo mg)(G:j3 mg)(T:Qb K mg)(hN:qH K mg "is_name" ZT ["thing"] b d)(c:qH K mg "is_tuple_of_names" WP ["thing"] e g):qp P w K mg base qN 3 f a ["thing"] Dm:=by
 have e:=pin P w mg base (YY hN.fn B T);have g:=pin P w mg base (NM c.fn B G T hN);refine F.okK Nk λH Q E hr h=>?_;obtain⟨b,x,d,rfl,a,i,j,l,m,q⟩:=h;refine⟨_,qb (qF (Ji (j4 (jn (qu jA (by rfl) T.isi boot_isinstance (jr (jv 0) (QJ (v:=.ty "tuple") (by rfl) G.tup boot_tuple rfl)))))
   (QC (qo ZV (qu qA (by rfl) B.len boot_len (qU (jv 0))) qe))).pt qD qr)
  (qd (qm (J5 (qv hN e (qU (qB qJ (jv 0) qe))) (za (qv c g (qU (qB qJ (jv 0) qe))))))),?_⟩
 refine⟨_,rfl,_,_,_,_,rfl,rfl,.tup a,T.ktt,_,rfl,jG ⟨_,rfl,b,_,rfl,.inr (.of a),rfl,_,rfl,jG ?_⟩⟩;refine⟨_,rfl,b,_,0,_,rfl,rfl,.of a,rfl,d.1,rfl,j,λ_ c=>⟨_,rfl,Q4 ?_⟩⟩;exact⟨_,rfl,b,_,1,_,rfl,rfl,.of (c _ _ a),rfl,x,d.2,rfl,c _ _ i,l,m,λa b=>q a (c.trans b)⟩
open PyProof.Rows hiding K lo
abbrev Ef:List Str:=["rows","number","row"]
def Bp:qh Ef ["rows"] (qc yD):=jY
def NZ{P:Program}{w:World}{K:zdU}{mg:Str->Option Value}{base:Heap}{f d e j:Addr}{c l m o:zdY}(F:jE K "need_form" "need_form" yD f c)(B:Qo mg)(G:j3 mg)(T:Qb K mg)(hN:qH K mg "is_name" ZT ["thing"] d l)(p:qH K mg "is_tuple_of_names" WP ["thing"] e m)
  (g:qH K mg "is_row" Xw ["thing"] j o):qp P w K mg base qN 4 f c ["rows"] vP:=by
 have j:=pin P w mg base (KR g.fn B G T hN p);obtain⟨_,l⟩:=T.mp;refine F.okK Bp λH Q E hr h=>?_;obtain⟨d,e,m,rfl,c,q⟩:=h;refine⟨_,qb (qF (Ji (j4 (jn (qu jA (by rfl) T.isi boot_isinstance (jr (jv 0) (QJ (v:=.ty "list") (by rfl) G.lst boot_list rfl)))))
   (QC (qo jl (qu qA (by rfl) B.len boot_len (qU (jv 0))) qe))).pt qD qr)
  (qb (qF (qo ZW (qu qA (by rfl) B.len boot_len (qU (jv 0))) (Ju (v:=.int 14) (by rfl) l ⟨_,rfl⟩)) qD qr)
  (qd (jc (zJ (by rfl) T.enu (qU (jv 0))) (Zn rfl (jw (qG 1) (jw (qG 2) Jt)))
   (qd (qF (j4 (jn (qv g j (qU (jv 2))))) qD qr))))),?_⟩
 have g:(e.map V.ref).length=m.length:=by rw[ta,c.rows.1]
 refine⟨_,rfl,_,_,_,_,rfl,rfl,.lst c.at_,T.kll,_,rfl,jG ⟨_,rfl,d,_,rfl,.inl (.of c.at_),rfl,_,rfl,?_⟩⟩;have g:decide (V.int (((e.map V.ref).length:Nat):Int)=V.int 0)=false:=decide_eq_false (by
  intro z;have:=V.int.inj z;have:=c.pos;omega)
 rw[g];refine jG ⟨_,rfl,d,_,rfl,.inl (.of c.at_),_,_,rfl,rfl,_,rfl,?_⟩;have g:decide ((14:Int) < (((e.map V.ref).length:Nat):Int))=false:=decide_eq_false (by
  have:=c.le;omega)
 refine VS (λz=>absurd z (by rw[g];decide)) (λ_=>?_);refine⟨_,rfl,d,rfl,⟨_,.of c.at_⟩,?_⟩;refine Zp (K:=K) (a:=d) (xs:=e.map V.ref) (λi g e=>∃v1 l,g=[some (.ref d),v1,l]/\qi H e) ⟨none,none,rfl,qi.refl H⟩ (λi g e _ ⟨_,_,_,s⟩=>.of (s _ _ c.at_)) ?_ ?_
 ·rintro i x g e p r o ⟨v1,l,rfl,d⟩;have g1:=c.mono (d.trans (qf (o:=.tup [.int (i:Nat),x]) o));obtain⟨u,v,j,rfl,_,m,a,b⟩:=g1.rows.item r;refine⟨p,_,rfl,.of qa,rfl,_,_,rfl,_,_,rfl,rfl,_,rfl,u,v,j,rfl,a,b,c.good.nm j m,c.good.names j m,tS (c.good.len j m) (by decide),λ_ c=>⟨_,rfl,jG ⟨_,_,rfl,?_⟩⟩⟩;exact(d.trans (qf o)).trans c
 ·rintro g e ⟨v1,l,rfl,d⟩;exact q e d
abbrev Hb:List Str:=["order","ahead","name"]
def DC:qh Hb ["order"] (qc Np):=jY
def Q7{zs:List Str}(g:zs.Nodup)(e:zs[i]?=some z):¬(Sum.inr z:qT)∈(zs.take i).map Sum.inr:=λh=>by
 obtain⟨y,c,a⟩:=tl.mp h;have b:y=z:=Sum.inr.inj a;subst b;obtain⟨b,a⟩:=zbp c;have c:=(td.mp a).1;rw[tJ]at c;have c:b < i:=by omega
 rw[zaT c]at a;have d:=(td.mp a);have a:=(td.mp e);exact absurd (d.2.trans a.2.symm) (zaw.mp g b i d.1 a.1 c)
def YX{kvs:List (qT×V)}{k:qT}(v:V)(h:jh kvs k=none):(jQ kvs k v).map (·.1)=kvs.map (·.1)++[k]:=by
 rw[JK v h,tw];rfl
def BM(F:jE K "need_own_names" "need_own_names" Np f a):qp P w K mg base qN 1 f a ["order"] Dn:=by
 refine F.okK DC λH Q E hr h=>?_;obtain⟨c,g,rfl,l,p,_,q⟩:=h;refine⟨_,qb (qx 1 Qd)
  (qd (jc (qC (jv 0)) (qG 2)
   (qb (qF (Jy (zb (jv 2) (jv 1))) qD qr) (qd (jF (jv 1) (jv 2) Qx))))),?_⟩
 intro D j;refine⟨_,rfl,c,rfl,⟨_,.of (qk l j)⟩,?_⟩;refine jm (K:=K) (a:=c) (xs:=g.map V.str) (λi d a=>∃v b,d=[some (.ref c),some (.ref D),v]/\qi H a/\a D=some (.dK b)/\b.map (·.1)=(g.take i).map Sum.inr) ⟨none,[],rfl,qf j,qa,rfl⟩ (λi d a _ ⟨_,_,_,s,_⟩=>.of (s _ _ l)) ?_ ?_
 ·rintro i x d a c ⟨v,b,rfl,l,o,m⟩;rw[tp]at c;cases e:g[i]? with
  | none=>rw[e]at c;cases c
  | some z=>
   rw[e]at c;obtain rfl:=(tz.inj c).symm;have c:=(td.mp e).1;have c:jh b (Sum.inr z:qT)=none:=Ja (by rw[m];exact Q7 p e);have g:j0 a D (.str z) none:=by
    have:=j0.k (k:=(Sum.inr z:qT)) o;rw[c]at this;exact this
   have lk:b.length < zdZ:=by
    have:=congrArg zad m;rw[ta,ta,tJ]at this;exact ql (by omega)
   refine⟨_,rfl,_,rfl,D,none,rfl,g,_,rfl,jG ?_⟩;refine⟨_,rfl,_,rfl,D,_,rfl,Jq.k (k:=(Sum.inr z:qT)) o lk,_,_,rfl,qi.upd l j,qa,?_⟩;rw[YX _ c,m,tM,e,tw];rfl
 ·rintro d a ⟨v,b,rfl,l,_⟩;exact q a l
abbrev Eg:List Str:=["ends","order","ahead","name"]
def Bq:qh Eg ["ends","order"] (qc yE):=jY
def N0(F:jE K "need_ends" "need_ends" yE f a):qp P w K mg base qN 1 f a ["ends","order"] Bb:=by
 refine F.okK Bq λH Q E hr h=>?_;obtain⟨x,o,j,r,rfl,c,u,B,C,_,q⟩:=h;refine⟨_,qb (qx 2 Qd)
  (qd (jc (Gg (jv 0)) (qG 3)
   (qb (qF (qo JZ (jv 3) (jv 1) (by with_unfolding_all rfl)) qD qr)
   (qb (qF (Jy (zb (jv 3) (jv 2))) qD qr) (qd (jF (jv 2) (jv 3) Qx)))))),?_⟩
 intro D l;refine⟨_,rfl,x,rfl,⟨_,.of (qk c l)⟩,?_⟩;refine Mu (K:=K) (a:=x) (xs:=j.map V.str) (λi d a=>∃v b,d=[some (.ref x),some (.ref o),some (.ref D),v]/\qi H a/\a D=some (.dK b)/\b.map (·.1)=(j.take i).map Sum.inr) ⟨none,[],rfl,qf l,qa,rfl⟩ (λi d a _ ⟨_,_,_,s,_⟩=>.of (s _ _ c)) ?_ ?_
 ·rintro i y d a c ⟨v,b,rfl,g,p,m⟩;rw[tp]at c;cases e:j[i]? with
  | none=>rw[e]at c;cases c
  | some z=>
   rw[e]at c;obtain rfl:=(tz.inj c).symm;have c:=(td.mp e).1;have c:jh b (Sum.inr z:qT)=none:=Ja (by rw[m];exact Q7 B e);have j:j0 a D (.str z) none:=by
    have:=j0.k (k:=(Sum.inr z:qT)) p;rw[c]at this;exact this
   have lk:b.length < zdZ:=by
    have:=congrArg zad m;rw[ta,ta,tJ]at this;exact ql (by omega)
   refine⟨_,rfl,_,rfl,o,_,rfl,.inl (.of (g _ _ u)),rfl,ZG r,_,rfl,?_⟩;rw[VT (C z (tL e))];refine jG ⟨_,rfl,_,rfl,D,none,rfl,j,_,rfl,jG ?_⟩;refine⟨_,rfl,_,rfl,D,_,rfl,Jq.k (k:=(Sum.inr z:qT)) p lk,_,_,rfl,qi.upd g l,qa,?_⟩;rw[YX _ c,m,tM,e,tw];rfl
 ·rintro d a ⟨v,b,rfl,g,_⟩;exact q a g
abbrev He:List Str:=["rows","many"]
def DK:qh He ["rows"] (qc Nt):=jY
def BS{P:Program}{w:World}{K:zdU}{mg:Str->Option Value}{base:Heap}{f:Addr}{c:zdY}(F:jE K "need_few_roads" "need_few_roads" Nt f c)(B:Qo mg)(T:Qb K mg):qp P w K mg base qN 1 f c ["rows"] vP:=by
 obtain⟨_,o⟩:=T.mr;refine F.okK DK λH Q E hr h=>?_;obtain⟨j,m,l,rfl,c,q⟩:=h;refine⟨_,qb (qx 1 (qu (Vc rfl) (by rfl) T.sum boot_sum (qU (j8 (N':=["row"]) (ix:=[none]) (te:=De (λp H Q=>∃d g,p=[.ref d]/\(SqL K H d g\/SqT K H d g)/\Q (.int g.length) H) (qS (z5 (zy K) (qY 0) (tC (.int 1))) Qw)) (qC (jv 0)) (λ_ _ _ fp _=>
   ⟨qG 0,jJ,qu qA (by rfl) B.len boot_len (qU (qB qJ (jv 0) qe))⟩)))))
  (qd (qF (qo ZW (jv 1) (Ju (v:=.int 40) (by rfl) o ⟨_,rfl⟩)) qD qr)),?_⟩
 refine⟨_,rfl,j,rfl,⟨_,.of c.at_⟩,λD d=>?_⟩;refine jC (K:=K) (a:=j) (xs:=m.map V.ref) (λi g j=>∃v,g=[v]/\j=upd H D (.lst (((l.take i).map λo=>o.2.length).map λn=>V.int ((n:Nat):Int)))) ⟨none,rfl,rfl⟩ (λi g j _ ⟨_,_,e⟩=>e▸.of (qk c.at_ d)) ?_ ?_
 ·rintro i x g j r ⟨v,rfl,rfl⟩;obtain⟨u,y,o,rfl,p,_,a,b⟩:=c.rows.item r;have o:=(td.mp p).1;refine⟨_,rfl,u,_,1,_,rfl,rfl,.of (qk a d),rfl,y,_,rfl,.inr (.of (qk b d)),_,qa,?_,_,rfl,?_⟩
  ·rw[ta,ta,tJ];have:=c.le;exact ql (by omega)
  ·rw[jx,tM,p,tw,tw,ta];rfl
 ·rintro g j ⟨v,rfl,rfl⟩;have e:l.take (m.map V.ref).length=l:=tu (by rw[ta,c.rows.1];exact tc _);rw[e];refine⟨D,_,rfl,.of qa,zat c.good.few (by decide),?_⟩;refine⟨_,rfl,_,_,rfl,rfl,_,rfl,?_⟩;have:=c.good.few;refine VS (λz=>absurd (of_decide_eq_true z) ?_) (λ_=>q _ (qf d));show ¬(40:Int) < _;omega
abbrev Ec:List Str:=["rows","order","row"]
def u3:qh Ec ["rows"] (qc US):=jY
structure ML(K:zdU)(mg:Str->Option Value):Prop where
 nm:∃f fd,qH K mg "is_name" ZT ["thing"] f fd
 tn:∃f fd,qH K mg "is_tuple_of_names" WP ["thing"] f fd
 rw:∃f fd,qH K mg "is_row" Xw ["thing"] f fd
 fo:∃f fd,qH K mg "need_form" yD ["rows"] f fd
 ow:∃f fd,qH K mg "need_own_names" Np ["order"] f fd
 en:∃f fd,qH K mg "need_ends" yE ["ends","order"] f fd
 fw:∃f fd,qH K mg "need_few_roads" Nt ["rows"] f fd
def NV{P:Program}{w:World}{K:zdU}{mg:Str->Option Value}{base:Heap}{f:Addr}{c:zdY}(F:jE K "need_rows" "need_rows" US f c)(B:Qo mg)(G:j3 mg)(T:Qb K mg)(N:ML K mg):qp P w K mg base qN 5 f c ["rows"] vP:=by
 obtain⟨_,_,c⟩:=N.nm;obtain⟨_,_,j⟩:=N.tn;obtain⟨_,_,l⟩:=N.rw;obtain⟨_,_,d⟩:=N.fo;obtain⟨_,_,g⟩:=N.ow;obtain⟨_,_,p⟩:=N.en;obtain⟨_,_,r⟩:=N.fw;have m:=pin P w mg base (NZ d.fn B G T c j l);have y:=pin P w mg base (BM g.fn);have GE:=pin P w mg base (N0 p.fn);have z:=pin P w mg base (BS r.fn B T);refine F.okK u3 λH Q E hr h=>?_;obtain⟨l,o,j,rfl,c,q⟩:=h;refine⟨_,qb (ji (qv d m (qU (jv 0))))
  (qb (Jj (i:=1) (N':=["row"]) (ix:=[none]) (te:=z5 (zy K) (qY 0) (tC (.int 0))) (hN:=u3.nd) (qC (jv 0)) (λ_ u m fp _=>
   ⟨qG 0,jJ,qB qJ (jv 0) qe⟩))
  (qb (ji (qv g y (qU (jv 1))))
  (qb (jc (qC (jv 0)) (qG 2)
   (qd (ji (qv p GE (jr (qB qJ (jv 2) qe) (jv 1))))))
  (qd (ji (qv r z (qU (jv 0)))))))),?_⟩
 refine⟨_,rfl,l,o,j,rfl,c,λL O=>?_⟩;have g1:=c.mono O;refine⟨_,rfl,l,rfl,⟨_,.of g1.at_⟩,λD y=>?_⟩;refine jC (K:=K) (a:=l) (xs:=o.map V.ref) (λi d g=>∃v,d=[v]/\g=upd L D (.lst (((j.take i).map (·.1)).map V.str))) ⟨none,rfl,rfl⟩ (λi d g _ ⟨_,_,e⟩=>e▸.of (qk g1.at_ y)) ?_ ?_
 ·rintro i x d g z ⟨v,rfl,rfl⟩;obtain⟨C,U,p,rfl,J,r,a,b⟩:=g1.rows.item z;have Y:=(td.mp J).1;refine⟨_,rfl,C,_,0,_,rfl,rfl,.of (qk a y),rfl,_,qa,?_,_,rfl,?_⟩
  ·rw[ta,ta,tJ];have:=c.le;exact ql (by omega)
  ·rw[jx,tM,J,tw,tw];rfl
 ·rintro d g ⟨v,rfl,rfl⟩;have e:j.take (o.map V.ref).length=j:=tu (by rw[ta,c.rows.1];exact tc _);rw[e];refine⟨_,rfl,D,j.map (·.1),rfl,qa,c.good.nd,by rw[ta];have:=c.le;omega,λm u=>?_⟩;have Y:qi L m:=(qf y).trans u;have y:m D=some (.lst ((j.map (·.1)).map V.str)):=u _ _ qa;have g2:=g1.mono Y;refine⟨_,rfl,l,rfl,⟨_,.of g2.at_⟩,?_⟩;refine jm (K:=K) (a:=l) (xs:=o.map V.ref) (λi d g=>∃v,d=[some (.ref l),some (.ref D),v]/\qi m g) ⟨none,rfl,qi.refl m⟩ (λi d g _ ⟨_,_,s⟩=>.of (s _ _ g2.at_)) ?_ ?_
  ·rintro i x d g z ⟨v,rfl,m⟩;obtain⟨C,U,p,rfl,J,r,a,b⟩:=(g2.mono m).rows.item z;refine⟨_,rfl,C,_,1,_,rfl,rfl,.of a,rfl,_,rfl,U,D,p.2,j.map (·.1),rfl,b,m _ _ y,c.good.rd p r,c.good.to p r,tS (c.good.len p r) (by decide),λp c=>⟨_,rfl,m.trans c⟩⟩
  ·rintro d g ⟨v,rfl,m⟩;exact⟨_,rfl,l,o,j,rfl,g2.mono m,λp c=>q p (((O.trans Y).trans m).trans c)⟩
open PyProof.Rows hiding K lo
abbrev vV:Stmt:=Qt (top 33) 0
abbrev YW:Stmt:=Qt (top 33) 1
abbrev VB:Stmt:=Qt (top 33) 2
def qP(rs:List (Str×List Str))(r:Str×List Str):List Str:=(rs.map (·.1)).filter λz=>YF (.str z) (r.2.map V.str)
inductive jZ(CG:Addr)(H:Hp)(a:Addr)(rs:List (Str×List Str)):Prop
 | mk (dx lo rd:Addr) (kvs:List (qT×V)):H a=some (.ins CG dx [("order",.ref lo),("roads",.ref rd)])->H lo=some (.lst ((rs.map (·.1)).map V.str))->H rd=some (.dK kvs)->(∀r∈rs,∃q,jh kvs (Sum.inr r.1)=some (.ref q)/\H q=some (.lst ((qP rs r).map V.str)))->jZ CG H a rs
def jZ.mono(h:jZ c H a rs)(s:qi H d):jZ c d a rs:=by
 obtain⟨c,lo,d,e,g,i,j,l⟩:=h;exact⟨c,lo,d,e,s _ _ g,s _ _ i,s _ _ j,λc hr=>let ⟨q,a,b⟩:=l c hr;⟨q,a,s _ _ b⟩⟩
def QG.fr(h:QG H l ps rs)(c:H x=some (.ins C g fs))(s:Fr H x d):QG d l ps rs:=by
 refine⟨s _ _ h.at_ (λe=>?_),⟨h.rows.1,λi d g j m=>?_⟩,h.good,h.pos,h.le⟩
 ·have:=h.at_;rw[e,c]at this;cases this
 ·obtain⟨q,a,b⟩:=h.rows.2 i d g j m;exact⟨q,s _ _ a (λe=>by rw[e,c]at a;cases a),s _ _ b (λe=>by rw[e,c]at b;cases b)⟩
structure CY(K:zdU)(mg:Str->Option Value)(CG f:Addr)(fd:zdY):Prop where
 cl:Wf K CG
 mkr:Mk K CG f
 ns:mg "Ground"=some (.ref CG)
 no:Jo K CG "order"
 nr:Jo K CG "roads"
 fn:jE K "__init__" "Ground.__init__" vV f fd
 bi:jN K fd ["self","rows"] []
def nor:¬(zdV "order")=zdV "roads":=by decide+kernel
def FZ(v:V):JX (zdV "order") v []=[(zdV "order",v)]:=rfl
def FY(v u:V):JX (zdV "roads") u [(zdV "order",v)]=[(zdV "order",v),(zdV "roads",u)]:=by
 unfold JX;rw[if_neg nor];rfl
def lkO(v u:V):([(zdV "order",v),(zdV "roads",u)]:List (Str×V)).lookup (zdV "order")=some v:=by simp [zaS]
def Hg(v u:V):([(zdV "order",v),(zdV "roads",u)]:List (Str×V)).lookup (zdV "roads")=some u:=by
 have e:((zdV "roads")==(zdV "order"))=false:=by decide+kernel
 simp [zaS,e]
inductive UM(CG:Addr)(vs:List V)(H:Hp)(Q:VK):Prop
 | mk (x dx l:Addr) (ps:List Addr) (rs:List (Str×List Str)):vs=[.ref x,.ref l]->QG H l ps rs->H x=some (.ins CG dx [])->(∀H',jZ CG H' x rs->Fr H x H'->Q .non H')->UM CG vs H Q
def Vu(a:Addr):Sp:=λb H Q _=>UM a b H Q
inductive WM(CG:Addr)(vs:List V)(H:Hp)(Q:VK):Prop
 | mk (a:Addr) (rs:List (Str×List Str)):vs=[.ref a]->jZ CG H a rs->(∀l,H l=none->Q (.ref l) (upd H l (.lst ((rs.map (·.1)).map V.str))))->WM CG vs H Q
def uR(a:Addr):Sp:=λb H Q _=>WM a b H Q
inductive UN(CG:Addr)(vs:List V)(H:Hp)(Q:VK):Prop
 | mk (a:Addr) (rs:List (Str×List Str)) (r:Str×List Str):vs=[.ref a,.str r.1]->jZ CG H a rs->(r∈rs)->ja r.1=true->(∀H1 l,qi H H1->H1 l=none->Q (.ref l) (upd H1 l (.lst ((qP rs r).map V.str))))->UN CG vs H Q
def R3(a:Addr):Sp:=λb H Q _=>UN a b H Q
abbrev nGI:List Str:=["self","rows","row"]
def DJ:qh nGI ["self","rows"] (qc vV):=jY
def KU(C:CY K mg r f d)(B:Qo mg)(G:j3 mg)(T:Qb K mg)(N:ML K mg)(g:qH K mg "need_rows" US ["rows"] j l):qp P w K mg base qN 6 f d ["self","rows"] (Vu r):=by
 have j:=pin P w mg base (NV g.fn B G T N);refine C.fn.okJ DJ (λd H Q E h=>?_) (λ_ A _ s H d Q E hr h=>?_)
 ·obtain⟨x,o,m,U,d,rfl,_⟩:=h;rfl
 ·obtain⟨x,o,m,U,d,rfl,p,hx,q⟩:=h;refine⟨_,qb (ji (qv g j (qU (jv 1))))
   (qb (VQ (jv 0) (j8 (N':=["row"]) (ix:=[none]) (te:=z5 (zy K) (qY 0) (tC (.int 0))) (qC (jv 1)) (λC g H2 fp j=>
    ⟨qG 0,jJ,qB qJ (jv 0) qe⟩)) rfl)
   (qb (VQ (jv 0) Qd rfl)
   (qd (jc (qC (jv 1)) (zK (i:=2) DJ.nd rfl (Or.inr rfl))
    (qd (jF (Jk (jv 0) rfl) (qB qJ (jv 2) qe) (j8 (N':=["name","row"]) (ix:=[none,some 2]) (tt:=Wy (z5 (E3 K false) (qY 0) (z5 (zy K) (qY 1) (tC (.int 1))))) (qC (Jk (jv 0) rfl)) (λC g H2 fp j=>
      ⟨qG 0,j7 (qo ZB (jv 0) (qB qJ (jv 1) qe) (by with_unfolding_all rfl)),jv 0⟩)))))))),?_⟩
  refine⟨_,rfl,m,U,d,rfl,p,λl g=>?_⟩;have g1:=p.mono g;have as:Fr H x l:=λb u h _=>g _ _ h;have an:=g _ _ hx;refine⟨_,rfl,m,rfl,⟨_,.of g1.at_⟩,λlo O=>?_⟩;have ao:lo≠x:=λe=>by rw[e,an]at O;cases O
  refine jC (K:=K) (a:=m) (xs:=U.map V.ref) (λi J j=>∃v,J=[v]/\j=upd l lo (.lst (((d.take i).map (·.1)).map V.str))) ⟨none,rfl,rfl⟩ (λi J j _ ⟨_,_,e⟩=>e▸.of (qk g1.at_ O)) ?_ ?_
  ·rintro i y J j L ⟨v,rfl,rfl⟩;obtain⟨p',_,g,rfl,Y,au,a,b⟩:=g1.rows.item L;have hi:=(td.mp Y).1;refine⟨_,rfl,p',_,0,_,rfl,rfl,.of (qk a O),rfl,_,qa,?_,_,rfl,?_⟩
   ·rw[ta,ta,tJ];have:=p.le;exact ql (by omega)
   ·rw[jx,tM,Y,tw,tw];rfl
  rintro J j ⟨v,rfl,rfl⟩;have e:d.take (U.map V.ref).length=d:=tu (by rw[ta,p.rows.1];exact tc _);rw[e];have ah:Fr H x (upd l lo (.lst ((d.map (·.1)).map V.str))):=as.new O;have ai:upd l lo (.lst ((d.map (·.1)).map V.str)) lo=some (.lst ((d.map (·.1)).map V.str)):=qa;have aj:upd l lo (.lst ((d.map (·.1)).map V.str)) x=some (.ins r o []):=qk an O;generalize upd l lo (.lst ((d.map (·.1)).map V.str))=H2 at ah ai aj;refine⟨_,rfl,x,r,o,[],rfl,aj,C.cl,C.no,by decide,?_⟩;rw[FZ];intro l O;have ak:l≠x:=λe=>by rw[e,qa]at O;cases O
  have al:H2 l=none:=by rw[qg ak]at O;exact O
  have ap:l≠lo:=λe=>by rw[e,ai]at al;cases al
  have aq:H l=none:=ah.fresh aj al;refine⟨_,rfl,x,r,o,_,rfl,qk qa O,C.cl,C.nr,by show 1 < 1000;decide,?_⟩;rw[FY];have ar:Fr H x (upd (upd (upd H2 x (.ins r o [("order",.ref lo)])) l (.dK [])) x (.ins r o [("order",.ref lo),("roads",.ref l)])):=((ah.at_d).own aq).at_d;have O:=p.fr hx ar;refine⟨_,rfl,m,rfl,⟨_,.of O.at_⟩,?_⟩;refine jm (K:=K) (a:=m) (xs:=U.map V.ref) (λi J j=>∃v O,J=[some (.ref x),some (.ref m),v]/\j x=some (.ins r o [("order",.ref lo),("roads",.ref l)])/\j lo=some (.lst ((d.map (·.1)).map V.str))/\j l=some (.dK O)/\
   O.map (·.1)=((d.map (·.1)).take i).map Sum.inr/\(∀g∈d.take i,∃q,jh O (Sum.inr g.1)=some (.ref q)/\j q=some (.lst ((qP d g).map V.str)))/\Fr H x j)
   ⟨none,[],rfl,qa,?_,?_,rfl,λg h=>(nomatch h),ar⟩ (λi J j _ ⟨_,_,_,_,_,_,_,_,fr⟩=>.of (p.fr hx fr).at_) ?_ ?_
  ·rw[qg ao,qg (Ne.symm ap),qg ao];exact ai
  ·rw[qg ak];exact qa
  ·rintro i y J j L ⟨v,O,rfl,ab,ac,ae,ek,hv,fr⟩;have m:=p.fr hx fr;obtain⟨am,qq,g,rfl,Y,au,a,b⟩:=m.rows.item L;have hi:=(td.mp Y).1;have m:=p.le;refine⟨_,rfl,x,r,o,_,_,rfl,ab,C.cl,C.no,lkO _ _,lo,rfl,⟨_,.of ac⟩,λD m=>?_⟩;refine jC (K:=K) (a:=lo) (xs:=(d.map (·.1)).map V.str) (λaa af ag=>∃v0,af=[v0,some (.ref am)]/\ag=upd j D (.lst ((((d.map (·.1)).take aa).filter λz=>YF (.str z) (g.2.map V.str)).map V.str))) ⟨none,rfl,rfl⟩
    (λaa af ag _ ⟨_,_,e⟩=>e▸.of (qk ac m)) ?_ ?_
   ·rintro aa y af ag L ⟨v0,rfl,rfl⟩;rw[tp]at L;cases e:(d.map (·.1))[aa]? with
    | none=>rw[e]at L;cases L
    | some z=>
     rw[e]at L;obtain rfl:=(tz.inj L).symm;refine⟨_,rfl,_,rfl,am,_,1,_,rfl,rfl,.of (qk a m),rfl,qq,_,rfl,.inr (.of (qk b m)),rfl,ZG _,_,rfl,?_⟩;have et:((d.map (·.1)).take (aa+1)).filter (λz=>YF (.str z) (g.2.map V.str))=((d.map (·.1)).take aa).filter (λz=>YF (.str z) (g.2.map V.str))++if YF (.str z) (g.2.map V.str)=true then [z] else []:=by
      rw[tM,e,zay];congr 1;cases L:YF (.str z) (g.2.map V.str)
      ·simp [L]
      ·simp [L]
     rw[et];show if YF (.str z) (g.2.map V.str)=true then _ else _
     cases L:YF (.str z) (g.2.map V.str) with
     | true=>
      refine Q4 ⟨_,rfl,_,qa,?_,_,rfl,?_⟩
      ·rw[ta];refine ql (tS (zak _ _) ?_);rw[tJ,ta];omega
      ·rw[jx,if_pos rfl,tw];rfl
     | false=>
      refine jG ⟨_,rfl,?_⟩;rw[if_neg tH,zam]
   ·rintro af ag ⟨v0,rfl,rfl⟩;have L:((d.map (·.1)).take ((d.map (·.1)).map V.str).length).filter (λz=>YF (.str z) (g.2.map V.str))=qP d g:=by
     rw[ta,tu (tc _)];rfl
    rw[L];have nD:∀{c:Addr} {L:HO},j c=some L->c≠D:=λh e=>by rw[e,m]at h;cases h
    have L:(d.map (·.1))[i]?=some g.1:=by rw[tp,Y];rfl
    have ez:jh O (Sum.inr g.1:qT)=none:=Ja (by rw[ek];exact Q7 p.good.nd L);have lk:O.length < zdZ:=by
     have:=congrArg zad ek;rw[ta,ta,tJ,ta]at this;exact ql (by omega)
    refine⟨_,rfl,x,r,o,_,_,rfl,qk ab m,C.cl,C.nr,Hg _ _,_,rfl,am,_,0,_,rfl,rfl,.of (qk a m),rfl,l,_,rfl,Jq.k (k:=(Sum.inr g.1:qT)) (qk ae m) lk,?_⟩;refine⟨_,jQ O (Sum.inr g.1) (.ref D),rfl,?_,?_,qa,?_,λr' r=>?_,?_⟩
    ·rw[qg (Ne.symm ak)];exact qk ab m
    ·rw[qg (Ne.symm ap)];exact qk ac m
    ·rw[YX _ ez,ek,tM,L,tw];rfl
    ·rw[tM,Y]at r;rcases tT.mp r with h | h
     ·obtain⟨Y,r,L⟩:=hv r' h;refine⟨Y,?_,?_⟩
      ·rw[QL,if_neg]
       ·exact r
       ·intro z;rw[z,ez]at r;cases r
      ·have n1:Y≠l:=λe=>by rw[e,ae]at L;cases L
       rw[qg n1];exact qk L m
     ·have r:r'=g:=by simpa using h
      subst r;refine⟨D,?_,?_⟩
      ·rw[QL,if_pos rfl]
      ·rw[qg (Ne.symm (nD ae))];exact qa
    ·exact(fr.new m).own aq
  ·rintro J j ⟨v,O,rfl,ab,ac,ae,ek,hv,fr⟩;have e:d.take (U.map V.ref).length=d:=tu (by rw[ta,p.rows.1];exact tc _);rw[e]at hv;exact q j ⟨o,lo,l,O,ab,ac,ae,hv⟩ fr
def FN:qh ["self"] ["self"] (qc YW):=jY
def Q6(F:jE K "names" "Ground.names" YW f c)(C:CY K mg b d e)(G:j3 mg):qp P w K mg base qN 1 f c ["self"] (uR b):=by
 refine F.okK FN λH Q E hr h=>?_;obtain⟨a,_,rfl,⟨c,lo,_,_,d,e,_,_⟩,q⟩:=h;refine⟨_,qd (qm (jo jp (by rfl) G.lst boot_list (qU (Jk (jv 0) rfl)))),?_⟩;exact⟨_,rfl,a,b,c,_,_,rfl,d,C.cl,C.no,lkO _ _,lo,_,rfl,.inl (.of e),q⟩
abbrev Hd:List Str:=["self","name"]
def FO:qh Hd Hd (qc VB):=jY
def Je(F:jE K "roads_from" "Ground.roads_from" VB f b)(C:CY K mg c d e)(B:Qo mg)(G:j3 mg)(T:Qb K mg)(hN:qH K mg "is_name" ZT ["thing"] g i):qp P w K mg base qN 2 f b Hd (R3 c):=by
 have d:=pin P w mg base (YY hN.fn B T);refine F.okK FO λH Q E hr h=>?_;obtain⟨a,_,b,rfl,l,m,e,q⟩:=h;refine⟨_,qb (qF (Ji (j4 (jn (qv hN d (qU (jv 1))))) (QC (Jy (Yr (jv 1) (Jk (jv 0) rfl))))).pt qD qr)
  (qd (qm (jo jp (by rfl) G.lst boot_list (qU (q5 (Jk (jv 0) rfl) (jv 1)))))),?_⟩
 refine⟨_,rfl,b.1,rfl,e,λe g=>⟨_,rfl,jG ?_⟩⟩;obtain⟨i,lo,d,_,j,_,o,p⟩:=l.mono g;obtain⟨l,r,u⟩:=p b m;have m:j0 e d (.str b.1) (some (.ref l)):=by
  have:=j0.k (k:=(Sum.inr b.1:qT)) o;rw[r]at this;exact this
 refine⟨_,rfl,_,rfl,a,c,i,_,_,rfl,j,C.cl,C.nr,Hg _ _,d,_,rfl,m,_,rfl,jG ?_⟩;exact⟨_,rfl,a,c,i,_,_,rfl,j,C.cl,C.nr,Hg _ _,_,rfl,d,_,rfl,m,l,_,rfl,.inl (.of u),λb c=>q e b g c⟩
open PyProof.Rows hiding K lo
abbrev Qq:Stmt:=top 3
abbrev Yc:Stmt:=top 4
abbrev jf:=List (Str×List Str)
def Qh(rs:jf)(z:Str):List Str:=match rs.find? (λa=>decide (a.1=z)) with
 | some a=>qP rs a
 | none=>[]
def XX:∀{rs:jf} {r:Str×List Str},(rs.map (·.1)).Nodup->r∈rs->rs.find? (λq=>decide (q.1=r.1))=some r
 | a::rs,r,b,h=>by
  rw[tG,zaa]at b;rcases tI.mp h with rfl | h
  ·simp [zba]
  ·have:¬a.1=r.1:=λe=>b.1 (e▸tl.mpr ⟨r,h,rfl⟩);simp only[zba,decide_eq_false this];exact XX b.2 h
def Qu{rs:jf}(a:(rs.map (·.1)).Nodup)(h:r∈rs):Qh rs r.1=qP rs r:=by
 unfold Qh;rw[XX a h]
def zx(h:y∈qP rs r):∃a∈rs,a.1=y:=by
 obtain⟨a,b,c⟩:=tl.mp (tO.mp h).1;exact⟨a,b,c⟩
def Mo{zs:List Str}:YF (.str z) (zs.map V.str)=true↔z∈zs:=by
 refine⟨λh=>?_,VT⟩;unfold YF at h;obtain⟨y,a,e⟩:=zaI.mp h;obtain⟨x,b,rfl⟩:=tl.mp a;have a:(x==z)=true:=e;rw[beq_iff_eq]at a;exact a▸b
def Kg(g:qj rs)(h:r∈rs):y∈qP rs r↔y∈r.2:=by
 unfold qP;rw[tO,Mo];exact⟨λz=>z.2,λz=>⟨g.to r h y z,z⟩⟩
def jX{rs:jf}(b:(rs.map (·.1)).Nodup):∀z∈rs.map (·.1),∀y∈Qh rs z,y∈rs.map (·.1):=λz c y a=>by
 obtain⟨_,hr,rfl⟩:=tl.mp c;rw[Qu b hr]at a;obtain⟨b,c,rfl⟩:=zx a;exact tl.mpr ⟨b,c,rfl⟩
def J3:∀{l m:List α},l.Nodup->(∀z∈l,z∈m)->l.length<=m.length
 | [],m,_,_=>zac _
 | a::l,m,hn,h=>by
  classical
  rw[zaa]at hn;have ha:=h a tE;have:=J3 (m:=m.erase a) hn.2 λz hz=>(zcw (λ(e:z=a)=>hn.1 (e▸hz))).mpr (h z (tA _ hz));rw[zcW ha]at this;have:=zaz ha;rw[t0];omega
def W1:∀{more kvs:List (qT×V)},(more.map (·.1)).Nodup->(∀k∈more.map (·.1),¬k∈kvs.map (·.1))->QB kvs more=kvs++more
 | [],kvs,_,_=>(zam _).symm
 | a::more,kvs,b,h=>by
  rw[tG,zaa]at b;have e:jh kvs a.1=none:=Ja (h a.1 (by simp));show QB (jQ kvs a.1 a.2) more=_;rw[JK a.2 e,W1 b.2]
  ·rw[zcn];rfl
  ·intro k c m;rw[tw]at m;rcases tT.mp m with m | m
   ·exact h k (by rw[tG];exact tA _ c) m
   ·have:k=a.1:=by simpa using m
    subst this;exact b.1 c
structure Rt(K:zdU)(C:Addr)(m qual:Str)(st:Stmt)(ps:List Str)(f:Addr)(fd:zdY):Prop where
 fn:jE K m qual st f fd
 me:Ws K C m f
 bi:jN K fd ps []
def W6{X:Cx}{C f:Addr}{a:zdY}{m qual:Str}{st:Stmt}{ps:List Str}{k:Nat}{sp:Sp}{o:Expr}{b:TE}{c_ pos:Pos}{pl:Sem Bool}(h:Rt X.K C m qual st ps f a)(c:Wf X.K C)(G:qp X.prog X.w X.K X.mg X.base qN k f a ps sp)(hr:je k X.A)(e:JE X o b)
 (g:eval (.Call (.Attribute o m c_) [] [] pos) X.env=(do
  let d <-eval o X.env
  standAt c_.atName
  let (f,first) <-holding [d] (getMethod d m pl)
  callWith pos f first (backTo pos (starEach [] X.env)) (backToKw pos (keywordEach [] X.env))):=by rfl):
 JE X (.Call (.Attribute o m c_) [] [] pos) (Wz C m sp [] E0 b Qw):=Gm e c h.me G hr h.bi .nil Jd g
def YE{X:Cx}{C f:Addr}{a:zdY}{m qual:Str}{st:Stmt}{ps:List Str}{k:Nat}{sp:Sp}{o e:Expr}{es:List Expr}{b:TE}{t:TA}{c_ pos:Pos}{pl:Sem Bool}(h:Rt X.K C m qual st ps f a)(c:Wf X.K C)(G:qp X.prog X.w X.K X.mg X.base qN k f a ps sp)(hr:je k X.A)(g:JE X o b)(i:JA X (e::es) t)
 (j:starEach (e::es) X.env=(false,eval e X.env)::starEach es X.env:=by rfl) (l:(backTo pos (starEach es X.env)).any (·.1)=false:=by rfl)
 (p:eval (.Call (.Attribute o m c_) (e::es) [] pos) X.env=(do
  let d <-eval o X.env
  standAt c_.atName
  let (f,first) <-holding [d] (getMethod d m pl)
  callWith pos f first (backTo pos (starEach (e::es) X.env)) (backToKw pos (keywordEach [] X.env))):=by rfl):
 JE X (.Call (.Attribute o m c_) (e::es) [] pos) (Wz C m sp [] E0 b t):=Ml g c h.me G hr h.bi .nil Jd i j l p
structure GM(K:zdU)(mg:Str->Option Value)(CG:Addr):Prop where
 cls:∃f fd,CY K mg CG f fd
 nm:∃f fd,Rt K CG "names" "Ground.names" YW ["self"] f fd
 fr:∃f fd,Rt K CG "roads_from" "Ground.roads_from" VB ["self","name"] f fd
 isn:∃f fd,qH K mg "is_name" ZT ["thing"] f fd
def jZ.ins(h:jZ c H a rs):∃b fs,H a=some (.ins c b fs)/\fs.lookup (zdV "names")=none/\fs.lookup (zdV "roads_from")=none:=by
 obtain⟨b,lo,_,_,c,_⟩:=h;refine⟨b,_,c,?_,?_⟩
 ·have b:((zdV "names")==(zdV "order"))=false:=by decide+kernel
  have c:((zdV "names")==(zdV "roads"))=false:=by decide+kernel
  simp only[zaS];rw[b,c]
 ·have b:((zdV "roads_from")==(zdV "order"))=false:=by decide+kernel
  have c:((zdV "roads_from")==(zdV "roads"))=false:=by decide+kernel
  simp only[zaS];rw[b,c]
def XJ{rs:jf}{i:Nat}{y:V}(h:((rs.map (·.1)).map V.str)[i]?=some y):∃r,rs[i]?=some r/\r∈rs/\y=.str r.1:=by
 rw[tp,tp]at h;cases e:rs[i]? with
 | none=>rw[e]at h;cases h
 | some r=>rw[e]at h;exact⟨r,rfl,tL e,(tz.inj h).symm⟩
def Qf{zs:List Str}{i:Nat}{y:V}(h:(zs.map V.str)[i]?=some y):∃z,zs[i]?=some z/\z∈zs/\y=.str z:=by
 rw[tp]at h;cases e:zs[i]? with
 | none=>rw[e]at h;cases h
 | some z=>rw[e]at h;exact⟨z,rfl,tL e,(tz.inj h).symm⟩
def Zi(r:Str×List Str):(qP rs r).length<=rs.length:=by
 have:=zak (λz=>YF (.str z) (r.2.map V.str)) (rs.map (·.1));rwa [ta]at this
def qO{c:Bool}{A B:Prop}(a:c=false)(h:B):if c=true then A else B:=by
 rw[a];exact jG h
def qW{c:Bool}{A B:Prop}(a:c=true)(h:A):if c=true then A else B:=by
 rw[if_pos a];exact h
def yZ(g:qj rs)(h:r∈rs):y∈Qh rs r.1↔y∈r.2:=by
 rw[Qu g.nd h];exact Kg g h
def jU(s:qi H b)(h:b a=none):H a=none:=by
 cases z:H a with
 | none=>rfl
 | some u=>rw[s _ _ z]at h;cases h
def J0(h:ja z=true):(∀c∈z.cps.toList,c<=122)/\z.length<=8/\1<=z.length:=by
 unfold ja at h;simp only[zae,decide_eq_true_eq]at h;refine⟨λc a=>?_,h.1.2,h.1.1⟩;have:=zag.mp h.2 c a;unfold j2 at this;simp only[zae,decide_eq_true_eq]at this;exact this.2
def Y5(h:ja z=true):PyData.strOk z=true:=by
 unfold PyData.strOk;rw[Array.all_eq_true_iff_forall_mem];intro c a;have:=(J0 h).1 c (by simpa using a);exact decide_eq_true (by omega)
def dL(zs:List Str):PyData:=.list (zs.map PyData.str)
def vz:∀zs:List Str,DVs K H (zs.map V.str) (zs.map PyData.str)
 | []=>.nil
 | z::zs=>.cons (.str z) (vz zs)
def MN{H:Hp}{zs:List Str}(h:H p=some (.lst (zs.map V.str))):DV K H (.ref p) (dL zs):=.lst (.of h) (vz zs)
def EG:∀{zs:List Str},(∀z∈zs,ja z=true)->PyData.canLayAll0 (zs.map PyData.str)=true
 | [],_=>rfl
 | z::zs,h=>by
  rw[tG,PyData.canLayAll0,EG λy a=>h y (tA _ a),zdC];exact Y5 (h z tE)
def Ex:∀zs:List Str,PyData.depthAll (zs.map PyData.str)=0
 | []=>rfl
 | z::zs=>by
  rw[tG];simp only[PyData.depthAll,PyData.depth,Ex zs];rfl
def shL{zs:List Str}(h:∀z∈zs,ja z=true):PySem.SeqAt.shaped (dL zs)=true:=by
 unfold PySem.SeqAt.shaped;rw[zae];refine⟨EG h,decide_eq_true ?_⟩;unfold dL;simp only[PyData.depth,Ex zs];decide
def Rj(x:Int):Builtin.bitNot (Builtin.bitNot x)=x:=by unfold Builtin.bitNot;omega
def bo(a b:Nat):Builtin.bitOr a b=((a ||| b:Nat):Int):=by
 have c:¬(0:Int)<=Builtin.bitNot a:=by unfold Builtin.bitNot;omega
 have d:¬(0:Int)<=Builtin.bitNot b:=by unfold Builtin.bitNot;omega
 have e:Builtin.bitAnd (Builtin.bitNot a) (Builtin.bitNot b)=Builtin.bitNot (((Builtin.bitNot (Builtin.bitNot a)).toNat ||| (Builtin.bitNot (Builtin.bitNot b)).toNat:Nat):Int):=by
  unfold Builtin.bitAnd;rw[decide_eq_false c,decide_eq_false d]
 unfold Builtin.bitOr;rw[e,Rj,Rj,Rj,zaC,zaC]
def ba(a b:Nat):Builtin.bitAnd a b=((a&&& b:Nat):Int):=by
 unfold Builtin.bitAnd;rw[decide_eq_true (zcG a),decide_eq_true (zcG b)];rfl
def Zf(ns:List Nat):List V:=ns.map λn=>V.int (n:Nat)
def ZE(ns:List Nat):(Zf ns).length=ns.length:=ta ..
def Y9{ns:List Nat}{i:Nat}{x:V}(h:(Zf ns)[i]?=some x):∃n:Nat,ns[i]?=some n/\x=.int n:=by
 unfold Zf at h;rw[tp]at h;cases e:ns[i]? with
 | none=>rw[e]at h;cases h
 | some n=>rw[e]at h;exact⟨n,rfl,(tz.inj h).symm⟩
def Zx{ns:List Nat}{i n:Nat}(h:ns[i]?=some n):ns.take (i+1)=ns.take i++[n]:=by
 rw[tM,h];rfl
def vh(ns:List Nat)(n:Nat):Zf ns++[V.int (n:Nat)]=Zf (ns++[n]):=by unfold Zf;rw[tw];rfl
def XU(ns:List Nat):(Zf ns).all ZZ=true:=by
 unfold Zf;rw[zci];exact zag.mpr λ_ _=>rfl
def kw(ns:List Nat)(n:Nat):YF (.int (n:Nat)) (Zf ns)=decide (n∈ns):=by
 unfold YF Zf;rw[List.any_map,zaE,zaI,decide_eq_true_iff];constructor
 ·rintro⟨y,hy,e⟩;have e':((y:Int)==(n:Int))=true:=e;have:y=n:=by
   have:=eq_of_beq e';omega
  exact this▸hy
 ·intro h;refine⟨n,h,?_⟩;show ((n:Int)==(n:Int))=true;simp
inductive Xn(K:zdU)(vs:List V)(H:Hp)(Q:VK):Prop
 | mk (a:Addr) (ns:List Nat):vs=[.ref a]->(SqL K H a (Zf ns))->(ns.length<=1000)->(∀H',qi H H'->Q (.int (Rb.lackN ns:Nat)) H')->Xn K vs H Q
def xD(K:zdU):Sp:=λa H Q _=>Xn K a H Q
inductive Uu(K:zdU)(vs:List V)(H:Hp)(Q:VK):Prop
 | mk (a:Addr) (ns:List Nat):vs=[.ref a]->(SqL K H a (Zf ns))->((∀x∈ns,x < 1000))->(Q (.int (Rb.setN ns:Nat)) H)->Uu K vs H Q
def RQ(K:zdU):Sp:=λa H Q _=>Uu K a H Q
def Na:qh ["numbers","bits","number"] ["numbers"] (qc Yc):=jY
def U4{P:Program}{w:World}{K:zdU}{mg:Str->Option Value}{base:Heap}{f:Addr}{b:zdY}(F:jE K "set_of" "set_of" Yc f b):qp P w K mg base qN 1 f b ["numbers"] (RQ K):=by
 refine F.okK Na λH Q E hr h=>?_;obtain⟨a,b,rfl,g,j,q⟩:=h;refine⟨_,qb (qx 1 qe)
  (qb (jc (qC (jv 0)) (qG 2) (qd (qx 1 (qL D2 (jv 1) (qL BC qe (jv 2))))))
  (qd (qm (jv 1)))),?_⟩
 refine⟨_,rfl,a,rfl,⟨_,g⟩,?_⟩;refine jm (K:=K) (a:=a) (xs:=Zf b) (λi c d=>∃v,c=[some (.ref a),some (.int ((Rb.setN (b.take i):Nat):Int)),v]/\d=H) ⟨none,rfl,rfl⟩ (λi c d _ ⟨_,_,e⟩=>e▸g) ?_ ?_
 ·rintro i x c d l ⟨v,rfl,rfl⟩;obtain⟨n,g,rfl⟩:=Y9 l;have n1:=j n (tL g);have j:(1:Int)*2^ ((n:Nat):Int).toNat=((2^n:Nat):Int):=by rw[zaC,Int.one_mul];push_cast;rfl
  have e:((Rb.setN (b.take (i+1)):Nat):Int)=Builtin.bitOr (Rb.setN (b.take i):Nat) ((1:Int)*2^ ((n:Nat):Int).toNat):=by rw[j,bo,Zx g,Rb.setN_snoc]
  refine⟨_,rfl,_,rfl,_,_,rfl,rfl,⟨by omega,by omega,by decide⟩,_,_,rfl,rfl,some (.int n),?_,rfl⟩;rw[e];rfl
 ·rintro c d ⟨v,rfl,rfl⟩;refine⟨_,rfl,?_⟩;rw[ZE,tu (tc _)];exact q
def WO:qh ["numbers","there","number","least"] ["numbers"] (qc Qq):=jY
def XE{P:Program}{w:World}{K:zdU}{mg:Str->Option Value}{base:Heap}{f:Addr}{b:zdY}(F:jE K "lacking" "lacking" Qq f b):qp P w K mg base qN 1 f b ["numbers"] (xD K):=by
 refine F.okK WO λH Q E hr h=>?_;obtain⟨a,c,rfl,b,_,q⟩:=h;refine⟨_,qb (qx 1 Qd)
  (qb (jc (qC (jv 0)) (qG 2) (qd (jF (jv 1) (jv 2) Qx)))
  (qb (qx 3 qe)
  (qb (Zm PassesOwn.never (Jy (zb (jv 3) (jv 1)) (by with_unfolding_all rfl)) (qd (kq (i:=3) WO.nd rfl (Or.inl rfl) qe kt)))
  (qd (qm (jv 3)))))),?_⟩
 intro D o;refine⟨_,rfl,a,rfl,⟨_,(qf o).seq b⟩,?_⟩;refine jm (K:=K) (a:=a) (xs:=Zf c) (λi d j=>∃v g,d=[some (.ref a),some (.ref D),v,none]/\j=upd H D (.dK g)/\g.length<=i/\∀x:Nat,(jh g (Sum.inl (x:Int):qT)).isSome=decide (x∈c.take i)) ⟨none,[],rfl,rfl,tc _,λx=>by simp [jh]⟩
  (λi d j _ ⟨_,_,_,e,_⟩=>e▸(qf o).seq b) ?_ ?_
 ·rintro i x d j l ⟨v,g,rfl,rfl,p,m⟩;obtain⟨n,b,rfl⟩:=Y9 l;have r:i < c.length:=(td.mp b).1;refine⟨_,rfl,_,rfl,D,_,rfl,Jq.k (k:=(Sum.inl (n:Int):qT)) qa (ql (by omega)),?_⟩;refine⟨some (.int n),jQ g (Sum.inl (n:Int)) (.bl true),rfl,jx,?_,λx=>?_⟩
  ·have:=Js g (Sum.inl (n:Int):qT) (.bl true);omega
  ·rw[QL,Zx b];by_cases e:x=n
   ·subst e;simp
   ·have b:¬(Sum.inl (x:Int):qT)=Sum.inl (n:Int):=λz=>e (by have:=Sum.inl.inj z;omega);rw[if_neg b,m x,zaE];simp [e]
 ·rintro d j ⟨v,g,rfl,rfl,p,m⟩;rw[ZE,tu (tc _)]at m;refine zi (λd j=>∃b:Nat,d=[some (.ref a),some (.ref D),v,some (.int b)]/\j=upd H D (.dK g)/\∀x,x < b->x∈c) (λd _=>match d with | [_,_,_,some (.int b)]=>c.length - b.toNat | _=>0) ⟨0,rfl,rfl,λx l=>absurd l (zdq _)⟩ ?_ ?_
  ·rintro d j ⟨b,rfl,rfl,p⟩;refine⟨_,rfl,_,rfl,D,_,rfl,j0.k (k:=(Sum.inl (b:Int):qT)) qa,_,rfl,?_⟩;rw[m b];by_cases j:b∈c
   ·rw[decide_eq_true j];have m:=Rb.pigeon (b+1) c λx l=>by
     by_cases e:x=b
     ·rw[e];exact j
     ·exact p x (by omega)
    refine Q4 ⟨_,rfl,_,_,rfl,rfl,⟨b+1,rfl,rfl,λx l=>?_⟩,?_⟩
    ·by_cases e:x=b
     ·rw[e];exact j
     ·exact p x (by omega)
    ·show c.length - ((b:Int)+1).toNat < c.length - (b:Int).toNat;omega
   ·rw[decide_eq_false j];refine jG ⟨_,rfl,?_⟩;have e:=Rb.lackN_eq (r:=b) (ns:=c) ⟨j,p⟩;have:=q _ (qf (o:=.dK g) o);rw[<-e]at this;exact this
  ·rintro d H Q _ b ⟨v,e,w,c,a,g,j,l,k,m,q⟩;exact⟨v,e,w,c,a,g,j,l,k,m,b _ _ q⟩
open PySem L2 MLab
open PyProof.Rows hiding K lo
abbrev An:Stmt:=top 53
abbrev Xx:Stmt:=top 54
abbrev Yd:Stmt:=top 55
abbrev UV:Stmt:=top 56
abbrev VA:Stmt:=top 57
abbrev JV:Stmt:=top 58
structure ju(N:List Str)(H:Hp)(d:Addr)(f:Str->Option Nat):Prop where
 at_:∃kvs:List (qT×V),H d=some (.dK kvs)/\(∀z:Str,jh kvs (Sum.inr z:qT)=(f z).map λn=>V.int (n:Nat))/\(kvs.map (·.1)).Nodup/\∀k∈kvs.map (·.1),k∈N.map (Sum.inr:Str->qT)
def ju.mono(h:ju N H d f)(s:qi H c):ju N c d f:=⟨let ⟨c,a,b⟩:=h.at_;⟨c,s _ _ a,b⟩⟩
def ju.get(h:ju N H d f)(z:Str):j0 H d (.str z) ((f z).map λn=>V.int (n:Nat)):=by
 obtain⟨_,a,b,_⟩:=h.at_;rw[<-b z];exact j0.k (k:=(Sum.inr z:qT)) a
def ju.isd(h:ju N H d f):∃kvs:List (qT×V),H d=some (.dK kvs):=let ⟨kvs,a,_⟩:=h.at_;⟨kvs,a⟩
def ju.put(h:ju N H d f)(hz:z∈N)(g:f z=none)(le:N.length<=14):∃c,Jq H d (.str z) (.int (n:Nat)) c/\ju N c d (λy=>if y=z then some n else f y)/\∃o,c=upd H d o:=by
 obtain⟨c,a,b,i,sub⟩:=h.at_;have ln:c.length<=14:=by
  have:=J3 i sub;rw[ta,ta]at this;omega
 refine⟨_,Jq.k (k:=(Sum.inr z:qT)) a (ql (by omega)),⟨jQ c (Sum.inr z) (.int (n:Nat)),qa,λy=>?_,?_,?_⟩,_,rfl⟩
 ·rw[QL];by_cases e:y=z
  ·subst e;rw[if_pos rfl,if_pos rfl];rfl
  ·rw[if_neg e,if_neg (λq=>e (Sum.inr.inj q))];exact b y
 ·rw[JK _ (by rw[b z,g];rfl),tw];refine zbI.mpr ⟨i,zcb _ _,λx i y j e=>?_⟩;have l:y=Sum.inr z:=by simpa using j
  subst l;subst e;have:(jh c (Sum.inr z:qT)).isSome=true:=by
   obtain⟨j,l,m⟩:=tl.mp i;have i:(c.any λp=>decide (p.1=(Sum.inr z:qT)))=true:=zaI.mpr ⟨j,l,decide_eq_true m⟩;rw[Jb]at i;exact i
  rw[b z,g]at this;cases this
 ·rw[JK _ (by rw[b z,g];rfl),tw];intro k c;rcases tT.mp c with c | c
  ·exact sub k c
  ·have:k=Sum.inr z:=by simpa using c
   rw[this];exact tl.mpr ⟨z,hz,rfl⟩
def Q2(rs:jf)(f:Str->Option Nat)(z:Str):List Nat:=(Qh rs z).filterMap f
def jI:n∈Q2 rs f z↔∃y∈Qh rs z,f y=some n:=zas
def Xc(z:Str):(Qh rs z).length<=rs.length:=by
 unfold Qh;split
 ·exact Zi _
 ·exact zac _
def Vl(rs:jf)(f:Str->Option Nat)(z:Str):List Str:=(Qh rs z).filter λy=>(f y).isNone
def zM(rs:jf)(f:Str->Option Nat)(z:Str)(n:Nat):Bool:=decide (Rb.lackN (Q2 rs f z)=n)&&(Vl rs f z).all λy=>decide (n∈Q2 rs f y)
def wH:zM rs f z n=true↔CK (Qh rs) f z n:=by
 unfold zM CK Vl;rw[zae,decide_eq_true_iff,zag];have lk:Rb.Lacks (Rb.lackN (Q2 rs f z)) (Q2 rs f z):=Rb.lackI_lacks _;constructor
 ·rintro⟨rfl,h⟩;refine⟨λa b=>jI.mp (lk.2 a b),λy a e=>lk.1 (jI.mpr ⟨y,a,e⟩),λy a e=>?_⟩;exact jI.mp (of_decide_eq_true (h y (tO.mpr ⟨a,by rw[e];rfl⟩)))
 ·rintro⟨b,c,d⟩;refine⟨(Rb.lackN_eq ⟨λm=>?_,λx g=>jI.mpr (b x g)⟩).symm,λy a=>decide_eq_true ?_⟩
  ·obtain⟨y,a,e⟩:=jI.mp m;exact c y a e
  ·obtain⟨b,c⟩:=tO.mp a;exact jI.mpr (d y b (by simpa using c))
def Kf(rs:jf)(f:Str->Option Nat)(n:Nat):List Str:=((rs.map (·.1)).filter λz=>(f z).isNone).filter λz=>zM rs f z n
def Nx(rs:jf)(R:Rs Str)(n:Nat):xn (Qh rs) (rs.map (·.1)) R n (Kf rs (qE R) n):=⟨λx=>by
 unfold Kf;rw[tO,tO,wH];constructor
 ·rintro⟨⟨a,b⟩,c⟩;exact⟨a,by simpa using b,c⟩
 ·rintro⟨a,b,c⟩;exact⟨⟨a,by rw[b];rfl⟩,c⟩,zaR.trans zaR⟩
inductive Ab(CG:Addr)(vs:List V)(H:Hp)(Q:VK):Prop
 | mk (g d:Addr) (rs:jf) (z:Str) (f:Str->Option Nat):vs=[.ref g,.ref d,.str z]->jZ CG H g rs->qj rs->(rs.length<=14)->(z∈rs.map (·.1))->(ju (rs.map (·.1)) H d f)->(∀H' l,qi H H'->H l=none->H' l=some (.lst (Zf (Q2 rs f z)))->Q (.ref l) H')->Ab CG vs H Q
def Dp(a:Addr):Sp:=λb H Q _=>Ab a b H Q
inductive yr(CG:Addr)(vs:List V)(H:Hp)(Q:VK):Prop
 | mk (g d:Addr) (rs:jf) (z:Str) (f:Str->Option Nat) (n:Nat):(vs=[.ref g,.ref d,.str z,.int (n:Nat)])->jZ CG H g rs->qj rs->(rs.length<=14)->(z∈rs.map (·.1))->(ju (rs.map (·.1)) H d f)->(∀H',qi H H'->Q (.bl (zM rs f z n)) H')->yr CG vs H Q
def Ba(a:Addr):Sp:=λb H Q _=>yr a b H Q
inductive Ux(CG:Addr)(vs:List V)(H:Hp)(Q:VK):Prop
 | mk (g d:Addr) (rs:jf) (f:Str->Option Nat) (n:Nat):(vs=[.ref g,.ref d,.int (n:Nat)])->jZ CG H g rs->qj rs->(rs.length<=14)->(ju (rs.map (·.1)) H d f)->(∀H' l,qi H H'->H l=none->H' l=some (.lst ((Kf rs f n).map V.str))->Q (.ref l) H')->Ux CG vs H Q
def RT(a:Addr):Sp:=λb H Q _=>Ux a b H Q
def ke(g:α->Option β)(h:β->V):∀l:List α,(l.filterMap g).map h=l.filterMap λx=>(g x).map h
 | []=>rfl
 | a::l=>by
  rw[tZ,tZ];cases g a with
  | none=>exact ke g h l
  | some b=>rw[tG,ke g h l];rfl
def XY(p:Str->Bool):∀l:List Str,(l.filter p).map V.str=l.filterMap λx=>if p x=true then some (V.str x) else none
 | []=>rfl
 | a::l=>by
  rw[zbi,tZ];cases p a with
  | false=>exact XY p l
  | true=>
   rw[if_pos rfl,if_pos rfl,tG,XY p l]
def yT(f:α->V):∀l:List α,l.map f=l.filterMap λx=>some (f x)
 | []=>rfl
 | a::l=>by rw[tG,tZ,yT f l]
abbrev AD:List Str:=["ground","numbered","name"]
def FE:qh AD AD (qc An):=jY
def AF(F:jE K "numbers_behind" "numbers_behind" An f a)(B:Qo mg)(G:j3 mg)(T:Qb K mg)(M:GM K mg b):qp P w K mg base qN 3 f a AD (Dp b):=by
 obtain⟨_,_,a⟩:=M.cls;obtain⟨_,_,c⟩:=M.fr;obtain⟨_,_,b⟩:=M.isn;have e:=pin P w mg base (Je c.fn a B G T b);refine F.okK FE λH Q E hr h=>?_;obtain⟨g,d,b,z,l,rfl,i,good,_,j,hd,q⟩:=h;refine⟨_,qd (qm (j8 (N':=["end","numbered"]) (ix:=[none,some 1]) (qC (YE c a.cl e hr (jv 0) (qU (jv 2)))) (λa c m fp _=>
  ⟨qG 0,j7 (Jy (zb (jv 0) (jv 1))),q5 (jv 1) (jv 0)⟩))),?_⟩
 obtain⟨o,fs,p,_,r⟩:=i.ins;obtain⟨a,e,rfl⟩:=tl.mp j;refine⟨_,rfl,g,o,fs,rfl,p,r,_,rfl,g,b,a,rfl,i,e,good.nm a e,λg le i j=>?_⟩;have c:qi H (upd g le (.lst ((qP b a).map V.str))):=i.trans (qf j);have i:upd g le (.lst ((qP b a).map V.str)) le=some (.lst ((qP b a).map V.str)):=qa;generalize upd g le (.lst ((qP b a).map V.str))=m at c i;have g:=hd.mono c;refine⟨le,rfl,⟨_,.of i⟩,λW j=>?_⟩;refine Jn (K:=K) (a:=le) (xs:=qP b a) (enc:=V.str) (out:=λy=>(l y).map λn=>V.int (n:Nat)) (rest:=[some (.ref d)]) j i (ql (tS (Zi a) (by omega))) ?_ ?_ ?_
 ·intro x i b a R k;refine⟨_,rfl,_,rfl,d,_,rfl,(g.mono a).get x,_,rfl,k b λ_ _ h=>h⟩
 ·intro x i v l b a R k;have i:=(g.mono a).get x;rw[l]at i;exact⟨_,rfl,_,rfl,d,_,rfl,i,k b λ_ _ h=>h⟩
 ·intro b a g;refine q _ W (c.trans a) (jU c j) ?_;rw[g];congr 2;unfold Zf Q2;rw[Qu good.nd e,ke]
abbrev Ee:List Str:=["ground","numbered","name","number","bare"]
abbrev WV:List Str:=["ground","numbered","name","number"]
def u5:qh Ee WV (qc Xx):=jY
def NY(F:jE K "gets_number" "gets_number" Xx f fd)(B:Qo mg)(G:j3 mg)(T:Qb K mg)(M:GM K mg CG)(L:qH K mg "numbers_behind" An AD fB ae)(U:qH K mg "lacking" Qq ["numbers"] fL af):qp P w K mg base qN 4 f fd WV (Ba CG):=by
 have GB:=pin P w mg base (AF L.fn B G T M);have GL:=pin P w mg base (XE U.fn);obtain⟨_,_,o⟩:=M.cls;obtain⟨_,_,hR⟩:=M.fr;obtain⟨_,_,hN⟩:=M.isn;have GR:=pin P w mg base (Je hR.fn o B G T hN);refine F.okK u5 λH Q E hr h=>?_;obtain⟨j,d,a,z,b,n,rfl,p,good,r,O,hd,q⟩:=h;have r2:je 2 _:=hr.mono (by decide);refine⟨_,qb (qF (qo ZV (qv U GL (qU (qv L GB (Ys (jv 0) (jv 1) (jv 2))))) (jv 3)) (qd (qm Qx)) qr)
  (qb (Jj (i:=4) (N':=["end","numbered"]) (ix:=[none,some 1]) (hN:=u5.nd) (qC (YE hR o.cl GR r2 (jv 0) (qU (jv 2)))) (λo U Y fp ac=>
   ⟨qG 0,j7 (Jy (Yr (jv 0) (jv 1))),jv 0⟩))
  (qd (qm (qu (ZH rfl) (by rfl) T.all boot_all (qU (j8 (N':=["end","number","ground","numbered"]) (ix:=[none,some 3,some 0,some 1]) (te:=z5 (E3 K false) (qY 1) (Zg (Dp CG) [] E0 (qS (qY 2) (qS (qY 3) (qS (qY 0) Qw))))) (qC (jv 4)) (λo U Y fp ac=>
   ⟨qG 0,jJ,jK ZB (jv 1) (qv L GB (Ys (jv 2) (jv 3) (jv 0))) (by with_unfolding_all rfl)⟩))))))),?_⟩
 refine⟨_,rfl,_,rfl,_,rfl,j,d,a,z,b,rfl,p,good,r,O,hd,λ_ g o _ i=>?_⟩;have ln:∀y,(Q2 a b y).length<=14:=λy=>tS (zaN _ _) (tS (Xc y) r);refine⟨g,_,rfl,.of i,by have:=ln z;omega,λY U=>⟨_,rfl,rfl,_,rfl,?_⟩⟩;have u:=o.trans U;by_cases c:Rb.lackN (Q2 a b z)=n
 ·refine qO (by rw[c];simp) ?_;obtain⟨dx,fs,hg,_,e2⟩:=(p.mono u).ins;obtain⟨g,aa,rfl⟩:=tl.mp O;refine⟨_,rfl,j,dx,fs,rfl,hg,e2,_,rfl,j,a,g,rfl,p.mono u,aa,good.nm g aa,λo le L U=>?_⟩;have s4:qi H (upd o le (.lst ((qP a g).map V.str))):=u.trans (L.trans (qf U));have L:upd o le (.lst ((qP a g).map V.str)) le=some (.lst ((qP a g).map V.str)):=qa;generalize upd o le (.lst ((qP a g).map V.str))=U at s4 L;refine⟨le,rfl,⟨_,.of L⟩,λW i=>?_⟩;refine Jn (K:=K) (a:=le) (xs:=qP a g) (enc:=V.str) (out:=λy=>if (b y).isNone=true then some (V.str y) else none) (rest:=[some (.ref d)]) i L (ql (tS (Zi g) (by omega))) ?_ ?_ ?_
  ·intro x C i D R k;refine⟨_,rfl,_,rfl,d,_,rfl,((hd.mono s4).mono D).get x,_,rfl,?_⟩;have:=k i λ_ _ h=>h;cases e:b x with
   | none=>rw[e]at this;exact this
   | some m=>rw[e]at this;exact this
  ·intro x C v l i D R k;have:v=V.str x:=by
    split at l
    ·exact(tz.inj l).symm
    ·cases l
   subst this;exact⟨_,rfl,k i λ_ _ h=>h⟩
  ·intro U D o;rw[<-XY (λy=>(b y).isNone),<-Qu good.nd aa]at o;have L:U W=some (.lst ((Vl a b g.1).map V.str)):=o;have ab:=s4.trans D;refine⟨_,rfl,W,rfl,⟨_,.of L⟩,λo D=>?_⟩;have bl:(Vl a b g.1).length<=14:=tS (zak _ _) (tS (Xc g.1) r);refine Jn (K:=K) (a:=W) (xs:=Vl a b g.1) (enc:=V.str) (out:=λy=>some (V.bl (decide (n∈Q2 a b y)))) (rest:=[some (.int (n:Nat)),some (.ref j),some (.ref d)]) D L (ql (by omega)) ?_ ?_ ?_
   ·intro x C i J R k;exact k i λ_ _ h=>h
   ·intro x C v l i J R k;obtain rfl:=tz.inj l;have l:x∈a.map (·.1):=jX good.nd _ O x (tO.mp C).1;have i:=ab.trans J;refine⟨_,rfl,_,rfl,_,rfl,_,rfl,j,d,a,x,b,rfl,p.mono i,good,r,l,hd.mono i,λi j l _ p=>?_⟩;refine⟨j,_,rfl,.inl (.of p),rfl,XU _,?_⟩;rw[kw];exact k i l
   ·intro j J i;rw[<-yT]at i;refine⟨o,(Vl a b g.1).map λy=>decide (n∈Q2 a b y),rfl,.of (by rw[i,zav];rfl),?_⟩;have:=q j (ab.trans J);unfold zM at this;rw[decide_eq_true c,Bool.true_and]at this;rw[zci];exact this
 ·refine qW (by
   have:¬V.int ((Rb.lackN (Q2 a b z):Nat):Int)=V.int ((n:Nat):Int):=λe=>c (by have:=V.int.inj e;omega);rw[decide_eq_false this];rfl) ?_
  have:=q Y u;unfold zM at this;rw[decide_eq_false c,zcc]at this;exact this
open PySem L2 MLab
open PyProof.Rows hiding K lo
def jy(H:Hp)(ps:List Addr)(ls:List (List Str)):Prop:=ps.length=ls.length/\∀(i:Nat) (a:Addr) (b:List Str),ps[i]?=some a->ls[i]?=some b->H a=some (.lst (b.map V.str))
def jy.mono(h:jy H ps ls)(s:qi H a):jy a ps ls:=⟨h.1,λi a b c d=>s _ _ (h.2 i a b c d)⟩
def jy.nil:jy H [] []:=⟨rfl,λi _ _ e=>(nomatch e)⟩
def Q1{α:Type}{xs:List α}{x y:α}{i:Nat}(h:(xs++[x])[i]?=some y):(i < xs.length/\xs[i]?=some y)\/(i=xs.length/\y=x):=by
 by_cases a:i < xs.length
 ·rw[tV a]at h;exact .inl ⟨a,h⟩
 ·have a:i=xs.length:=by
   have:=(td.mp h).1;rw[tm,t7]at this;omega
  subst a;rw[tP (tc _),zbN]at h;exact .inr ⟨rfl,(tz.inj h).symm⟩
def jy.snoc{l:List Str}(h:jy H ps ls)(c:H p=some (.lst (l.map V.str))):jy H (ps++[p]) (ls++[l]):=by
 refine⟨by rw[tm,tm,h.1];rfl,λi d e b a=>?_⟩;rcases Q1 b with ⟨g,b⟩ | ⟨g,rfl⟩
 ·rcases Q1 a with ⟨_,a⟩ | ⟨g,_⟩
  ·exact h.2 i d e b a
  ·have:=h.1;omega
 ·rcases Q1 a with ⟨g,_⟩ | ⟨_,rfl⟩
  ·have:=h.1;omega
  ·exact c
def jy.app(h:jy H ps ls)(k:jy H a ms):jy H (ps++a) (ls++ms):=by
 refine⟨by rw[tm,tm,h.1,k.1],λi d e b a=>?_⟩;by_cases c:i < ps.length
 ·rw[tV c]at b;rw[tV (by rw[<-h.1];exact c)]at a;exact h.2 i d e b a
 ·rw[tP (by omega)]at b;rw[tP (by rw[<-h.1];omega)]at a;rw[<-h.1]at a;exact k.2 _ d e b a
def jy.fr(h:jy H ps ls)(hd:H d=some (.dK kvs))(f:Fr H d a):jy a ps ls:=⟨h.1,λi a b c g=>f _ _ (h.2 i a b c g) (λe=>by have:=h.2 i a b c g;rw[e,hd]at this;cases this)⟩
def ju.fr(h:ju N H d f)(s:Fr H e c)(ne:d≠e):ju N c d f:=⟨let ⟨c,a,b⟩:=h.at_;⟨c,s _ _ a ne,b⟩⟩
def ju.congr{g:Str->Option Nat}(h:ju N H d f)(e:∀z,f z=g z):ju N H d g:=⟨let ⟨i,a,b,c⟩:=h.at_;⟨i,a,λz=>by rw[b z,e z],c⟩⟩
def vA(b:Addr)(H:Hp)(g d:Addr):Prop:=∀c lo a,H g=some (.ins b c [("order",.ref lo),("roads",.ref a)])->a≠d
def jZ.fr(h:jZ c H a rs)(hd:∃kvs:List (qT×V),H d=some (.dK kvs))(ap:vA c H a d)(s:Fr H d g):jZ c g a rs:=by
 obtain⟨i,lo,j,c,g,l,p,r⟩:=h;obtain⟨kvs,hd⟩:=hd;have ne:∀{b:Addr} {m:HO},H b=some m->(∀c:List (qT×V),m≠.dK c)->b≠d:=λo no e=>by rw[e,hd]at o;exact no kvs (tz.inj o).symm
 refine⟨i,lo,j,c,s _ _ g (ne g (λ_=>by simp)),s _ _ l (ne l (λ_=>by simp)),s _ _ p (ap i lo j g),λc hr=>let ⟨q,a,b⟩:=r c hr;⟨q,a,s _ _ b (ne b (λ_=>by simp))⟩⟩
def YN(f:Str->Option Nat)(n:Nat)(ns:List Str):Str->Option Nat:=λz=>if z∈ns then some n else f z
def GV{ns:List Str}(h:∀z∈ns,qE R z=none)(z:Str):YN (qE R) n ns z=qE (R++[(n,ns)]) z:=by
 unfold YN;rw[Zq];by_cases c:z∈ns
 ·rw[if_pos c,h z c];show _=if z∈ns then some n else none
  rw[if_pos c]
 ·rw[if_neg c];cases qE R z with
  | some m=>rfl
  | none=>
   show none=if z∈ns then some n else none
   rw[if_neg c]
def Nw:R++(ls++[l]).map (λx=>(n,x))=(R++ls.map λx=>(n,x))++[(n,l)]:=by
 rw[tw,zcn];rfl
inductive yq(CG:Addr)(vs:List V)(H:Hp)(Q:VK):Prop
 | mk (g d:Addr) (rs:jf) (R:Rs Str) (n:Nat):(vs=[.ref g,.ref d,.int (n:Nat)])->jZ CG H g rs->qj rs->(rs.length<=14)->(ju (rs.map (·.1)) H d (qE R))->vA CG H g d->(∀H' l ps ls,H l=none->H' l=some (.lst (ps.map V.ref))->jy H' ps ls->(∀p∈ps,H p=none)->ju (rs.map (·.1)) H' d (qE (R++ls.map λx=>(n,x)))->J7 (Qh rs) (rs.map (·.1)) n R (R++ls.map λx=>(n,x))->Fr H d H'->Q (.ref l) H')->yq CG vs H Q
def A9(a:Addr):Sp:=λb H Q _=>yq a b H Q
def Zs(rs:jf)(f:Str->Option Nat):Nat:=((rs.map (·.1)).filter λz=>(f z).isNone).length
def xg{rs:jf}{ns:List Str}(h:∀z∈ns,z∈rs.map (·.1)/\qE R z=none)(ne:ns≠[]):Zs rs (qE (R++[(n,ns)])) < Zs rs (qE R):=by
 unfold Zs;generalize rs.map (·.1)=N at*;have sub:(N.filter λz=>(qE (R++[(n,ns)]) z).isNone).Sublist (N.filter λz=>(qE R z).isNone):=by
  have e:(N.filter λz=>(qE (R++[(n,ns)]) z).isNone)=(N.filter λz=>(qE R z).isNone).filter λz=>(qE (R++[(n,ns)]) z).isNone:=by
   rw[List.filter_filter];refine zcm λz _=>?_;cases c:(qE (R++[(n,ns)]) z).isNone with
   | false=>simp
   | true=>
    have:=G5 (by simpa using c);rw[this];rfl
  rw[e];exact zaR
 obtain⟨a,_,d⟩:=zcL ne;have b:a∈ns:=by rw[d];exact tE
 obtain⟨g,d⟩:=h a b;rcases zbd (N.filter λz=>(qE (R++[(n,ns)]) z).isNone).length (N.filter λz=>(qE R z).isNone).length with c | c
 ·exact c
 ·have e:=sub.eq_of_length_le c;have m:a∈N.filter λz=>(qE R z).isNone:=tO.mpr ⟨g,by rw[d];rfl⟩;rw[<-e]at m;have:=(tO.mp m).2;rw[AO d b]at this;cases this
def Vm(N:List Str)(H:Hp)(d:Addr):Nat:=match H d with
 | some (.dK a)=>(N.filter λz=>(jh a (Sum.inr z:qT)).isNone).length
 | _=>0
def ju.bare{rs:jf}(h:ju (rs.map (·.1)) H d f):Vm (rs.map (·.1)) H d=Zs rs f:=by
 obtain⟨c,a,b,_⟩:=h.at_;unfold Vm Zs;rw[a];show ((rs.map (·.1)).filter λz=>(jh c (Sum.inr z:qT)).isNone).length=_;congr 1;refine zcm λz _=>?_;rw[b z];cases f z<;>rfl
abbrev BV:List Str:=["ground","numbered","number","bare"]
abbrev JY:List Str:=["ground","numbered","number"]
def yx:qh BV JY (qc Yd):=jY
def KI(F:jE K "round_of" "round_of" Yd f a)(B:Qo mg)(G:j3 mg)(T:Qb K mg)(M:GM K mg b)(c:qH K mg "numbers_behind" An AD j l)(i:qH K mg "lacking" Qq ["numbers"] o p)(g:qH K mg "gets_number" Xx WV r u):qp P w K mg base qN 5 f a JY (RT b):=by
 have o:=pin P w mg base (NY g.fn B G T M c i);obtain⟨_,_,c⟩:=M.cls;obtain⟨_,_,i⟩:=M.nm;have GM:=pin P w mg base (Q6 i.fn c G);refine F.okK yx λH Q E hr h=>?_;obtain⟨j,d,a,b,n,rfl,p,good,z,hd,q⟩:=h;have l:je 1 _:=hr.mono (by decide);refine⟨_,qb (Jj (i:=3) (N':=["name","numbered"]) (ix:=[none,some 1]) (hN:=yx.nd) (qC (W6 i c.cl GM l (jv 0))) (λc i l fp r=>
   ⟨qG 0,j7 (Jy (Yr (jv 0) (jv 1))),jv 0⟩))
  (qd (qm (j8 (N':=["name","ground","numbered","number"]) (ix:=[none,some 0,some 1,some 2]) (qC (jv 3)) (λc i l fp r=>
   ⟨qG 0,j7 (jn (qv g o (Hk (jv 1) (jv 2) (jv 0) (jv 3)))),jv 0⟩)))),?_⟩
 obtain⟨c,fs,g,o,_⟩:=p.ins;refine⟨_,rfl,j,c,fs,rfl,g,o,j,a,rfl,p,λln g=>⟨ln,rfl,⟨_,.of qa⟩,λW c=>?_⟩⟩;have i:qi H (upd H ln (.lst ((a.map (·.1)).map V.str))):=qf g;have g:upd H ln (.lst ((a.map (·.1)).map V.str)) ln=some (.lst ((a.map (·.1)).map V.str)):=qa;generalize upd H ln (.lst ((a.map (·.1)).map V.str))=l at i g c;refine Jn (K:=K) (a:=ln) (xs:=a.map (·.1)) (enc:=V.str) (out:=λy=>if (b y).isNone=true then some (V.str y) else none) (rest:=[some (.ref d)]) c g (ql (by rw[ta];omega)) ?_ ?_ ?_
 ·intro x l g o R k;refine⟨_,rfl,_,rfl,d,_,rfl,((hd.mono i).mono o).get x,_,rfl,?_⟩;have:=k g λ_ _ h=>h;cases e:b x with
  | none=>rw[e]at this;exact this
  | some m=>rw[e]at this;exact this
 ·intro x l v c g o R k;have:v=V.str x:=by
   split at c
   ·exact(tz.inj c).symm
   ·cases c
  subst this;exact⟨_,rfl,k g λ_ _ h=>h⟩
 ·intro _ o r;rw[<-XY (λy=>(b y).isNone)]at r;have u:=i.trans o;refine⟨_,rfl,W,rfl,⟨_,.of r⟩,λC o=>?_⟩;have bl:((a.map (·.1)).filter λy=>(b y).isNone).length<=14:=tS (zak _ _) (by rw[ta];exact z);refine Jn (K:=K) (a:=W) (xs:=(a.map (·.1)).filter λy=>(b y).isNone) (enc:=V.str) (out:=λy=>if zM a b y n=true then some (V.str y) else none) (rest:=[some (.ref j),some (.ref d),some (.int (n:Nat))]) o r (ql (by omega)) ?_ ?_ ?_
  ·intro x l g i R k;have r:=u.trans i;refine⟨_,rfl,_,rfl,_,rfl,_,rfl,j,d,a,x,b,n,rfl,p.mono r,good,z,(tO.mp l).1,hd.mono r,λj p=>⟨_,rfl,?_⟩⟩;have:=k j p;cases e:zM a b x n with
   | true=>rw[e]at this;exact this
   | false=>rw[e]at this;exact this
  ·intro x l v c g i R k;have:v=V.str x:=by
    split at c
    ·exact(tz.inj c).symm
    ·cases c
   subst this;exact⟨_,rfl,k g λ_ _ h=>h⟩
  ·intro g i c;rw[<-XY (λy=>zM a b y n)]at c;exact q g C (u.trans i) (jU u o) c
abbrev Ed:List Str:=["ground","numbered","number","rounds","names","name"]
def Bo:qh Ed JY (qc UV):=jY
def NX(F:jE K "give_number" "give_number" UV f j)(B:Qo mg)(G:j3 mg)(T:Qb K mg)(M:GM K mg O)(o:qH K mg "numbers_behind" An AD l C)(p:qH K mg "lacking" Qq ["numbers"] D J)(r:qH K mg "gets_number" Xx WV L U)(g:qH K mg "round_of" Yd JY Y aC):qp P w K mg base qN 6 f j JY (A9 O):=by
 have l:=pin P w mg base (KI g.fn B G T M o p r);refine F.okK Bo λH Q E hr h=>?_;obtain⟨ab,d,j,R,n,rfl,gr,good,af,hd,ap,q⟩:=h;refine⟨_,qb (qx 3 (j5 Qk))
  (qb (qx 4 (qv g l (Ys (jv 0) (jv 1) (jv 2))))
  (qb (Zm PassesOwn.never (qo ZW (qu qA (by rfl) B.len boot_len (qU (jv 4))) qe)
   (qb (jc (qC (jv 4)) (qG 5) (qd (jF (jv 1) (jv 5) (jv 2))))
   (qb (ji (QP zaj zaV zaW Q8 (jv 3) (qU (jv 4))))
   (qd (qx 4 (qv g l (Ys (jv 0) (jv 1) (jv 2))))))))
  (qd (qm (jv 3))))),?_⟩
 refine⟨Ze,λp ac=>?_⟩;have l:qi H (upd H p (.lst [])):=qf ac;refine⟨_,rfl,_,rfl,_,rfl,ab,d,j,qE R,n,rfl,gr.mono l,good,af,hd.mono l,λ_ U J L aw=>?_⟩;obtain⟨al,ah⟩:=hd.isd;have am:p≠d:=λe=>by rw[e,ah]at ac;cases ac
 refine zi (λσ C=>∃(Y:Option V) (g:Addr) (o:List Addr) (D:List (List Str)),σ=[some (.ref ab),some (.ref d),some (.int (n:Nat)),some (.ref p),some (.ref g),Y]/\Fr H d C/\C p=some (.lst (o.map V.ref))/\jy C o D/\
   ju (j.map (·.1)) C d (qE (R++D.map λx=>(n,x)))/\C g=some (.lst ((Kf j (qE (R++D.map λx=>(n,x))) n).map V.str))/\(∀R',J7 (Qh j) (j.map (·.1)) n (R++D.map λx=>(n,x)) R'->J7 (Qh j) (j.map (·.1)) n R R')/\g≠p/\(∀r∈o,r≠p)/\H g=none/\(∀r∈o,H r=none)/\D.length+Zs j (qE (R++D.map λx=>(n,x)))<=14)
  (λ_ C=>Vm (j.map (·.1)) C d)
  ⟨none,U,[],[],rfl,λb u U _=>J _ _ (l _ _ U),J _ _ qa,.nil,?_,?_,?_,(λe=>by rw[e,qa]at L;cases L),λr h=>(nomatch h),jU l L,λr h=>(nomatch h),?_⟩ ?_ ?_
 ·have:=(hd.mono l).mono J;simpa using this
 ·simpa using aw
 ·intro R' h;simpa using h
 ·show 0+_<=14;rw[zdM];refine tS (zak _ _) ?_;rw[ta];exact af
 ·rintro σ C ⟨Y,g,o,D,rfl,fr,an,ai,num,U,gv,nl,np,l0,p0,_⟩;have l:jZ O C ab j:=gr.fr ⟨al,ah⟩ ap fr;obtain⟨_,ao⟩:=num.isd;generalize aq:R++D.map (λx=>(n,x))=L at*;refine⟨_,rfl,g,_,rfl,.inl (.of U),_,_,rfl,rfl,_,rfl,?_⟩;rw[ta];generalize J:Kf j (qE L) n=l at*;have aj:xn (Qh j) (j.map (·.1)) L n l:=J▸Nx j L n;have ae:∀z∈l,z∈j.map (·.1)/\qE L z=none:=λz O=>let ⟨a,b,_⟩:=(aj.iff z).mp O;⟨a,b⟩;have ar:l.Nodup:=by
   rw[<-J];exact good.nd.sublist (zaR.trans zaR)
  have J:l.length<=14:=by
   have:=J3 ar λz O=>(ae z O).1;rw[ta]at this;omega
  cases c:l with
  | nil=>
   subst c;refine qO (by decide) ?_;refine⟨_,rfl,?_⟩;have:=gv L (.stop aj);rw[<-aq]at this num;exact q C p o D ac an ai p0 num this fr
  | cons J rest=>
   have ne:l≠[]:=by rw[c];simp
   rw[<-c];clear c;refine qW (decide_eq_true (by have:=zbS.mpr ne;show (0:Int) < (l.length:Int);omega)) ?_;have as:g≠d:=λe=>by rw[e,ao]at U;cases U
   refine⟨_,rfl,g,rfl,⟨_,.of U⟩,?_⟩;refine jm (K:=K) (a:=g) (xs:=l.map V.str) (λi ag J=>∃Y,ag=[some (.ref ab),some (.ref d),some (.int (n:Nat)),some (.ref p),some (.ref g),Y]/\ju (j.map (·.1)) J d (YN (qE L) n (l.take i))/\Fr C d J)
    ⟨Y,rfl,num.congr λz=>by unfold YN;rw[List.take_zero,if_neg (by simp)],Fr.refl⟩ (λi ag J _ ⟨_,_,_,f⟩=>.of (f _ _ U as)) ?_ ?_
   ·rintro i y ag J hy ⟨au,rfl,Y,aa⟩;obtain⟨z,ez,O,rfl⟩:=Qf hy;have il:=(td.mp ez).1;have nt:z∉l.take i:=λm=>by
     obtain⟨av,hj⟩:=zbp m;rw[zcM]at hj;split at hj
     ·have h1:=(td.mp hj);have h2:=(td.mp ez);have:=K2 ar (h1.2.trans h2.2.symm);omega
     ·cases hj
    obtain⟨H2,put,ax,_,e2⟩:=Y.put (n:=n) (ae z O).1 (by unfold YN;rw[if_neg nt];exact(ae z O).2) (by rw[ta];exact af);refine⟨_,rfl,_,rfl,_,rfl,d,H2,rfl,put,_,rfl,ax.congr λy=>?_,?_⟩
    ·unfold YN;rw[tM,ez];by_cases e:y=z
     ·subst e;rw[if_pos rfl,if_pos (by simp)]
     ·rw[if_neg e];by_cases m:y∈l.take i
      ·rw[if_pos m,if_pos (tY _ m)]
      ·rw[if_neg m,if_neg (by simp [m,e])]
    ·rw[e2];exact aa.at_d
   ·rintro ag J ⟨au,rfl,Y,aa⟩;rw[ta,tu (tc _)]at Y;have Y:=Y.congr (GV λz O=>(ae z O).2);have O:=aa _ _ an am;have lG:=aa _ _ U as;have rG:=ai.fr ao aa;have ay:=fr.trans aa;have az:=xg (n:=n) ae ne;refine⟨_,rfl,.inl ⟨rfl,_,.of O⟩,_,rfl,p,_,_,rfl,rfl,O,by rw[ta,ai.1];exact ql (by omega),?_⟩;have e5:o.map V.ref++[V.ref g]=(o++[g]).map V.ref:=by rw[tw];rfl
    rw[e5];have U:Fr H d (upd J p (.lst ((o++[g]).map V.ref))):=ay.own ac;have r3:jy (upd J p (.lst ((o++[g]).map V.ref))) (o++[g]) (D++[l]):=by
     refine jy.snoc ⟨rG.1,λi r x O e2=>?_⟩ (by rw[qg nl];exact lG);rw[qg (np r (tL O))];exact rG.2 i r x O e2
    have ak:upd J p (.lst ((o++[g]).map V.ref)) p=some (.lst ((o++[g]).map V.ref)):=qa;have O:ju (j.map (·.1)) (upd J p (.lst ((o++[g]).map V.ref))) d (qE (L++[(n,l)])):=⟨let ⟨aA,a,b⟩:=Y.at_;⟨aA,by rw[qg (Ne.symm am)];exact a,b⟩⟩;generalize upd J p (.lst ((o++[g]).map V.ref))=Y at U r3 ak O ⊢;refine⟨_,rfl,_,rfl,_,rfl,ab,d,j,qE (L++[(n,l)]),n,rfl,gr.fr ⟨al,ah⟩ ap U,good,af,O,λ_ Y j J aB=>?_⟩;have p:R++(D++[l]).map (λx=>(n,x))=L++[(n,l)]:=by rw[Nw,aq]
    refine⟨⟨au,Y,o++[g],D++[l],rfl,U.same j,j _ _ ak,r3.mono j,?_,?_,?_,(λe=>by rw[e,ak]at J;cases J),?_,?_,?_,?_⟩,?_⟩
    ·rw[p];exact O.mono j
    ·rw[p];exact aB
    ·rw[p];exact λR' h=>gv R' (.more aj ne h)
    ·intro r g;rcases tT.mp g with g | g
     ·exact np r g
     ·rw[tQ.mp g];exact nl
    ·obtain⟨_,l⟩:=O.isd;exact U.fresh l J
    ·intro r g;rcases tT.mp g with g | g
     ·exact p0 r g
     ·rw[tQ.mp g];exact l0
    ·rw[p,tm,t7];omega
    ·rw[(O.mono j).bare,num.bare];exact az
 ·rintro σ C Q _ h ⟨v,e,r,g,e2,h1,i,av,j,l,b,e5,h2⟩;exact⟨v,e,r,g,e2,h1,i,av,j,l,b,e5,h _ _ h2⟩
open PySem L2 MLab
open PyProof.Rows hiding K lo
def GS{G:Str->List Str}{N:List Str}{n:Nat}{R a:Rs Str}(h:J7 G N n R a):(a=R/\xn G N R n [])\/R.length < a.length:=by
 induction h with
 | stop a=>exact .inl ⟨rfl,a⟩
 | more a ne k b=>
  right;rcases b with ⟨e,_⟩ | lt
  ·rw[e,tm];exact zaG _
  ·rw[tm]at lt;exact Nat.lt_of_succ_lt lt
def wF{G:Str->List Str}{N:List Str}{n:Nat}{R:Rs Str}(h:J7 G N n R R):xn G N R n []:=by
 rcases GS h with ⟨_,a⟩ | lt
 ·exact a
 ·exact absurd lt (zal _)
structure kG(N:List Str)(R:Rs Str):Prop where
 sub:∀r∈R,∀z∈r.2,z∈N
 dis:R.Pairwise λr r'=>∀z∈r.2,z∉r'.2
 ne:∀r∈R,r.2≠[]
 srt:∀r∈R,r.2.Sublist N
def kG.nil:kG N []:=⟨λ_ h=>(nomatch h),zdB.nil,λ_ h=>(nomatch h),λ_ h=>(nomatch h)⟩
def kG.more(o:kG N R)(r:xn G N R n ns)(ne:ns≠[]):kG N (R++[(n,ns)]):=by
 refine⟨λx c z d=>?_,zdz.mpr ⟨o.dis,zcb _ _,λa g b i z d e=>?_⟩,λx c=>?_,λx c=>?_⟩
 ·rcases tT.mp c with c | c
  ·exact o.sub x c z d
  ·rw[tQ.mp c]at d;exact((r.iff z).mp d).1
 ·rw[tQ.mp i]at e;exact Xd.mp ((r.iff z).mp e).2.1 a g d
 ·rcases tT.mp c with c | c
  ·exact o.ne x c
  ·rw[tQ.mp c];exact ne
 ·rcases tT.mp c with c | c
  ·exact o.srt x c
  ·rw[tQ.mp c];exact r.sub
def vj(h:J7 G N n R a):kG N R->kG N a:=by
 induction h with
 | stop a=>exact id
 | more a ne k b=>exact λc=>b (c.more a ne)
def xj(h:All G N n R a):kG N R->kG N a:=by
 induction h with
 | stop a=>exact id
 | more a ne k b=>exact λc=>b (vj a c)
def wG(h:J7 (Qh rs) (rs.map (·.1)) n R c):Zs rs (qE c)<=Zs rs (qE R)/\(c≠R->Zs rs (qE c) < Zs rs (qE R)):=by
 induction h with
 | stop c=>exact⟨tc _,λe=>absurd rfl e⟩
 | more c ne k d=>
  have:=xg (λz d=>let ⟨a,b,_⟩:=(c.iff z).mp d;⟨a,b⟩) ne (n:=n) (rs:=rs);exact⟨by omega,λ_=>by omega⟩
def VF:∀{R:Rs Str},kG N R->R.length<=N.length:=λ{R} g=>by
 have fm:∀R:Rs Str,(R.Pairwise λa c=>∀z∈a.2,z∉c.2)->(∀a∈R,a.2≠[])->∃b:List Str,b.length=R.length/\b.Nodup/\∀z∈b,∃a∈R,z∈a.2:=by
  intro R;induction R with
  | nil=>exact λ_ _=>⟨[],rfl,zaY,λz h=>(nomatch h)⟩
  | cons a R d=>
   intro p ne;obtain⟨b,i,j,sub⟩:=d (zdG.mp p).2 (λx l=>ne x (tA _ l));obtain⟨z,t,e⟩:=zcL (ne a tE);have d:z∈a.2:=by rw[e];exact tE
   refine⟨z::b,by simp [i],zaa.mpr ⟨λm=>?_,j⟩,λy l=>?_⟩
   ·obtain⟨c,o,q⟩:=sub z m;exact(zdG.mp p).1 c o z d q
   ·rcases tI.mp l with rfl | l
    ·exact⟨a,tE,d⟩
    ·obtain⟨c,o,h⟩:=sub y l;exact⟨c,tA _ o,h⟩
 obtain⟨b,i,j,sub⟩:=fm R g.dis g.ne;rw[<-i];exact J3 j λz d=>let ⟨a,hr,h⟩:=sub z d;g.sub a hr z h
inductive UL(CG:Addr)(vs:List V)(H:Hp)(Q:VK):Prop
 | mk (g d:Addr) (rs:jf):vs=[.ref g,.ref d]->jZ CG H g rs->qj rs->(rs.length<=14)->(ju (rs.map (·.1)) H d (qE []))->vA CG H g d->(∀H' l ps R,H l=none->H' l=some (.lst (ps.map V.ref))->jy H' ps (R.map (·.2))->(∀p∈ps,H p=none)->ju (rs.map (·.1)) H' d (qE R)->All (Qh rs) (rs.map (·.1)) 0 [] R->Fr H d H'->Q (.ref l) H')->UL CG vs H Q
def R1(a:Addr):Sp:=λb H Q _=>UL a b H Q
abbrev BY:List Str:=["ground","numbered","rounds","number","more"]
abbrev vX:List Str:=["ground","numbered"]
def yy:qh BY vX (qc VA):=jY
def KS(F:jE K "give_numbers" "give_numbers" VA f j)(B:Qo mg)(G:j3 mg)(T:Qb K mg)(M:GM K mg l)(m:qH K mg "numbers_behind" An AD y z)(o:qH K mg "lacking" Qq ["numbers"] C D)(p:qH K mg "gets_number" Xx WV J L)(r:qH K mg "round_of" Yd JY O U)(g:qH K mg "give_number" UV JY Y aG):qp P w K mg base qN 7 f j vX (R1 l):=by
 have j:=pin P w mg base (NX g.fn B G T M m o p r);refine F.okK yy λH Q E hr h=>?_;obtain⟨aa,d,p,rfl,gr,good,ai,hd,ap,q⟩:=h;refine⟨_,qb (qx 2 (j5 Qk))
  (qb (qx 3 qe)
  (qb (qx 4 (qv g j (Ys (jv 0) (jv 1) (jv 3))))
  (qb (Zm PassesOwn.never (qo ZW (qu qA (by rfl) B.len boot_len (qU (jv 4))) qe)
   (qb (ji (QP zaj zcX zcY WZ (jv 2) (qU (jv 4))))
   (qb (kq (i:=3) yy.nd rfl (Or.inl rfl) qe kt)
   (qd (qx 4 (qv g j (Ys (jv 0) (jv 1) (jv 3))))))))
  (qd (qm (jv 2)))))),?_⟩
 refine⟨Ze,λo D=>?_⟩;have g:qi H (upd H o (.lst [])):=qf D;obtain⟨aw,ae⟩:=hd.isd;have af:o≠d:=λe=>by rw[e,ae]at D;cases D
 have aj:∀{j:Hp},Fr H d j->vA l j aa d:=λfr _ lo _ h=>by
  obtain⟨_,_,_,_,m,_⟩:=gr;have:=fr _ _ m (λe=>by rw[e,ae]at m;cases m);rw[h]at this;cases this;exact ap _ _ _ m
 have z:Fr H d (upd H o (.lst [])):=Fr.refl.own D;refine⟨_,rfl,_,rfl,_,rfl,aa,d,p,[],0,rfl,gr.mono g,good,ai,hd.mono g,aj z,λ_ Y l ax J ay az aA aB aC U=>?_⟩;refine zi (λL j=>∃(C:Addr) (n:Nat) (r l:List Addr) (R:Rs Str) (y:List (List Str)),L=[some (.ref aa),some (.ref d),some (.ref o),some (.int (n:Nat)),some (.ref C)]/\Fr H d j/\j o=some (.lst (r.map V.ref))/\jy j r (R.map (·.2))/\j C=some (.lst (l.map V.ref))/\jy j l y/\
   ju (p.map (·.1)) j d (qE (R++y.map λx=>(n,x)))/\J7 (Qh p) (p.map (·.1)) n R (R++y.map λx=>(n,x))/\(∀O,All (Qh p) (p.map (·.1)) n R O->All (Qh p) (p.map (·.1)) 0 [] O)/\C≠o/\(∀g∈r,g≠o/\H g=none)/\(∀g∈l,g≠o/\H g=none)/\kG (p.map (·.1)) R)
  (λL j=>Vm (p.map (·.1)) j d*2+(match L with | [_,_,_,_,some (.ref C)]=>(match j C with | some (.lst (_::_))=>1 | _=>0) | _=>0))
  ⟨Y,0,[],l,[],ax,rfl,z.trans U,U _ _ qa af,.nil,ay,az,aB,aC,λO h=>h,(λe=>by rw[e,qa]at J;cases J),λg h=>(nomatch h),?_,.nil⟩ ?_ ?_
 ·intro g z;have m:=aA g z;have J:g≠o:=λe=>by rw[e,qa]at m;cases m
  exact⟨J,by rw[qg J]at m;exact m⟩
 ·rintro L j ⟨C,n,r,l,R,y,rfl,fr,U,ab,hl,rn,num,gv,al,nl,np,ak,Y⟩;obtain⟨_,_⟩:=num.isd;have am:=vj gv Y;have ol:=VF am;rw[tm,ta,ta]at ol;refine⟨_,rfl,C,_,rfl,.inl (.of hl),_,_,rfl,rfl,_,rfl,?_⟩;rw[ta];cases c:y with
  | nil=>
   subst c;have e0:l=[]:=zao rn.1;subst e0;rw[zcf,zam]at gv num;refine qO (by decide) ⟨_,rfl,?_⟩;exact q j o r R D U ab (λg z=>(np g z).2) num (al R (.stop (wF gv))) fr
  | cons Y rest=>
   have ne:y≠[]:=by rw[c];simp
   clear c;have Y:l.length=y.length:=rn.1;have pos:=zbS.mpr ne;refine qW (decide_eq_true (by show (0:Int) < (l.length:Int);omega)) ?_;refine⟨_,rfl,.inl ⟨rfl,_,.of U⟩,_,rfl,o,C,_,_,rfl,rfl,U,hl,?_,?_⟩
   ·rw[ta,ta,ab.1,ta,Y];exact t6 (ql (by omega))
   ·have e5:r.map V.ref++l.map V.ref=(r++l).map V.ref:=by rw[tw]
    rw[e5];have U:Fr H d (upd j o (.lst ((r++l).map V.ref))):=fr.own D;have ac:upd j o (.lst ((r++l).map V.ref)) o=some (.lst ((r++l).map V.ref)):=qa;have r3:jy (upd j o (.lst ((r++l).map V.ref))) (r++l) ((R++y.map λx=>(n,x)).map (·.2)):=by
     have D:(R++y.map λx=>(n,x)).map (·.2)=R.map (·.2)++y:=by
      rw[tw,zav];congr 1;exact List.map_id y
     rw[D];refine jy.app ⟨ab.1,λi g x D Y=>?_⟩ ⟨rn.1,λi g x D Y=>?_⟩
     ·rw[qg (np g (tL D)).1];exact ab.2 i g x D Y
     ·rw[qg (ak g (tL D)).1];exact rn.2 i g x D Y
    have ag:ju (p.map (·.1)) (upd j o (.lst ((r++l).map V.ref))) d (qE (R++y.map λx=>(n,x))):=⟨let ⟨aD,a,b⟩:=num.at_;⟨aD,by rw[qg (Ne.symm af)];exact a,b⟩⟩;have aE:R++y.map (λx=>(n,x))≠R:=λe=>by
     have:=congrArg zad e;rw[tm,ta]at this;omega
    generalize R++y.map (λx=>(n,x))=y at*;generalize upd j o (.lst ((r++l).map V.ref))=G3 at U r3 ac ag ⊢;obtain⟨_,an⟩:=ag.isd;refine⟨_,rfl,_,_,rfl,rfl,?_⟩;refine⟨_,rfl,_,rfl,_,rfl,aa,d,p,y,n+1,rfl,gr.fr ⟨aw,ae⟩ ap U,good,ai,ag,aj U,λH4 l4 o ao aq ar as aF au av ah=>?_⟩;refine⟨⟨l4,n+1,r++l,o,y,ao,rfl,U.trans ah,ah _ _ ac af,r3.fr an ah,ar,as,au,av,λO h=>al O (.more gv aE h),(λe=>by rw[e,ac]at aq;cases aq),?_,?_,am⟩,?_⟩
    ·intro g z;rcases tT.mp z with z | z
     ·exact np g z
     ·exact ak g z
    ·intro g z;have m:=aF g z;refine⟨(λe=>by rw[e,ac]at m;cases m),?_⟩;cases J:H g with
     | none=>rfl
     | some u=>
      by_cases c:g=d
      ·rw[c,an]at m;cases m
      ·rw[U _ _ J c]at m;cases m
    ·show Vm (p.map (·.1)) H4 d*2+(match H4 l4 with | some (.lst (_::_))=>1 | _=>0) < Vm (p.map (·.1)) j d*2+(match j C with | some (.lst (_::_))=>1 | _=>0);have r:=wG av;rw[au.bare,num.bare,ar,hl];obtain⟨_,_,D⟩:=List.exists_cons_of_length_pos (by omega:0 < l.length);rw[D];show _ < Zs p (qE y)*2+1;cases ao with
     | nil=>
      have e0:o=[]:=zao as.1;rw[e0];show _+0 < _;have:=r.1;omega
     | cons l p=>
      have:=r.2 λe=>by
       have:=congrArg zad e;rw[tm,ta]at this;simp at this
      have l:(match (some (HO.lst (o.map V.ref)):Option HO) with | some (.lst (_::_))=>1 | _=>0)<=1:=by split<;>omega
      omega
 ·rintro L j Q _ h ⟨v,e,g,l,Y,m,i,o,p,r,b,e5,J⟩;exact⟨v,e,g,l,Y,m,i,o,p,r,b,e5,h _ _ J⟩
open PySem L2 MLab
open PyProof.Rows hiding K lo
def Wi(R:Rs Str)(i:Nat):Str->Option Nat:=λz=>(qE (R.take i) z).map λ_=>JF R z
def vT(o:kG N R)(hr:R[i]?=some r)(hz:z∈r.2):JF R z=i:=by
 obtain⟨a,b⟩:=td.mp hr;unfold JF;rw[List.findIdx_eq a];refine⟨by rw[b];exact decide_eq_true hz,λc d=>decide_eq_false λm=>?_⟩;have:=zaw.mp o.dis c i (by omega) a d z m;rw[b]at this;exact this hz
def Uk(o:kG N R)(hr:R[i]?=some r)(hz:z∈r.2):Wi R i z=none:=by
 unfold Wi;have:qE (R.take i) z=none:=Xd.mpr λx b m=>by
  obtain⟨_,a⟩:=zbp b;rw[zcM]at a;split at a
  ·have b:=vT o a m;have b:=vT o hr hz;omega
  ·cases a
 rw[this];rfl
def xB(o:kG N R)(hr:R[i]?=some r)(z:Str):YN (Wi R i) i r.2 z=Wi R (i+1) z:=by
 unfold YN;by_cases c:z∈r.2
 ·rw[if_pos c];have n:=Uk o hr c;unfold Wi at n ⊢;have a:qE (R.take i) z=none:=by
   cases e:qE (R.take i) z with
   | none=>rfl
   | some m=>rw[e]at n;cases n
  rw[tM,hr];show _=(qE (R.take i++[(r.1,r.2)]) z).map _;rw[AO a c,vT o hr c];rfl
 ·rw[if_neg c];unfold Wi;rw[tM,hr];show _=(qE (R.take i++[(r.1,r.2)]) z).map _;rw[Zq];cases qE (R.take i) z with
  | some m=>rfl
  | none=>
   show _=Option.map _ (if z∈r.2 then some r.1 else none);rw[if_neg c]
def uu(R:Rs Str)(z:Str):Wi R R.length z=(qE R z).map λ_=>JF R z:=by
 unfold Wi;rw[tu (tc _)]
def QO(rs:jf)(R:Rs Str)(z:Str):List V:=match qE R z with
 | some n=>[.str "number",.int (n:Nat),.int (JF R z:Nat)]
 | none=>[.str "endless",.int (Rb.setN (Q2 rs (qE R) z):Nat)]
structure jq(H:Hp)(D:Addr)(rs:jf)(R:Rs Str):Prop where
 at_:∃kvs:List (qT×V),H D=some (.dK kvs)/\kvs.map (·.1)=(rs.map (·.1)).map Sum.inr/\∀r∈rs,∃t,jh kvs (Sum.inr r.1:qT)=some (.ref t)/\H t=some (.tup (QO rs R r.1))
def jq.mono(h:jq H D rs R)(s:qi H d):jq d D rs R:=⟨let ⟨d,a,b,c⟩:=h.at_;⟨d,s _ _ a,b,λd hr=>let ⟨t,u,v⟩:=c d hr;⟨t,u,s _ _ v⟩⟩⟩
def kZ:∀(n:Nat) (L:List Nat),(∀m,m<=n->m∈L)->n*(n+1)<=2*L.sum
 | 0,_,_=>by simp
 | n+1,L,h=>by
  have a:=h (n+1) (tc _);have b:=kZ n (L.erase (n+1)) λm _=>(zcw (by omega)).mpr (h m (by omega));have b:L.sum=(n+1)+(L.erase (n+1)).sum:=by
   have:=(List.perm_cons_erase a).sum_nat;rw[this,zaq]
  rw[b];have:(n+1)*(n+1+1)=n*(n+1)+2*(n+1):=by
   rw[Nat.mul_comm,<-Nat.add_mul]
  omega
def Ui{f g:α->Nat}:∀{l:List α},(∀x∈l,f x<=g x)->(l.map f).sum<=(l.map g).sum
 | [],_=>tc _
 | a::l,h=>by
  rw[tG,tG,zaq,zaq];have:=h a tE;have:=Ui (l:=l) λx hx=>h x (tA _ hx);omega
def Co{rs:jf}(a:(rs.map (·.1)).Nodup)(z:Str):(Qh rs z).Nodup:=by
 unfold Qh;split
 ·exact a.sublist zaR
 ·exact zaY
def XH(good:qj rs)(L:Wa (Qh rs) (·∈rs.map (·.1)) num e_)(d:x∈rs.map (·.1))(e:num x=some n):n<=8:=by
 have i:∀m,m<=n->m∈rs.map λa=>(num a.1).getD 0:=λm _=>by
  rcases zbd m n with c | c
  ·obtain⟨y,b,g,_⟩:=L.n1 d e c;obtain⟨a,hr,rfl⟩:=tl.mp (L.cl d b);exact tl.mpr ⟨a,hr,by rw[g];rfl⟩
  ·have:m=n:=by omega
   subst this;obtain⟨a,hr,rfl⟩:=tl.mp d;exact tl.mpr ⟨a,hr,by rw[e];rfl⟩
 have d:=kZ n _ i;have d:(rs.map λa=>(num a.1).getD 0).sum<=(rs.map λa=>a.2.length).sum:=Ui λa hr=>by
  cases c:num a.1 with
  | none=>exact zac _
  | some m=>
   show m<=_;have d:a.1∈rs.map (·.1):=tl.mpr ⟨a,hr,rfl⟩;have:(t8 m).length<=((Qh rs a.1).filterMap num).length:=J3 zdf λ_ i=>by
    obtain⟨y,b,g,_⟩:=L.n1 d c (zaM.mp i);exact zas.mpr ⟨y,b,g⟩
   rw[zai]at this;have d:=zaN num (Qh rs a.1);have g:(Qh rs a.1).length<=a.2.length:=J3 (Co good.nd _) λy b=>(yZ good hr).mp b;omega
 have d:=good.few;rcases zbd 8 n with c | c
 ·have:9*10<=n*(n+1):=Nat.mul_le_mul c (by omega);omega
 ·exact c
inductive WI(CG:Addr)(vs:List V)(H:Hp)(Q:VK):Prop
 | mk (g:Addr) (rs:jf):vs=[.ref g]->jZ CG H g rs->qj rs->(rs.length<=14)->(∀H' D R,qi H H'->H D=none->jq H' D rs R->All (Qh rs) (rs.map (·.1)) 0 [] R->Q (.ref D) H')->WI CG vs H Q
def zo(a:Addr):Sp:=λb H Q _=>WI a b H Q
abbrev nLb:List Str:=["ground","numbered","steps","step","names","name","labels"]
def FH:qh nLb ["ground"] (qc JV):=jY
structure MM(K:zdU)(mg:Str->Option Value):Prop where
 lack:∃f fd,qH K mg "lacking" Qq ["numbers"] f fd
 seto:∃f fd,qH K mg "set_of" Yc ["numbers"] f fd
 nb:∃f fd,qH K mg "numbers_behind" An AD f fd
 gets:∃f fd,qH K mg "gets_number" Xx WV f fd
 round:∃f fd,qH K mg "round_of" Yd JY f fd
 give:∃f fd,qH K mg "give_number" UV JY f fd
 gives:∃f fd,qH K mg "give_numbers" VA vX f fd
 labels:∃f fd,qH K mg "labels_of" JV ["ground"] f fd
def x6(F:jE K "labels_of" "labels_of" JV f g)(B:Qo mg)(G:j3 mg)(T:Qb K mg)(M:GM K mg o)(Y:MM K mg):qp P w K mg base qN 8 f g ["ground"] (zo o):=by
 obtain⟨_,_,j⟩:=Y.lack;obtain⟨_,_,l⟩:=Y.seto;obtain⟨_,_,g⟩:=Y.nb;obtain⟨_,_,r⟩:=Y.gets;obtain⟨_,_,v⟩:=Y.round;obtain⟨_,_,C⟩:=Y.give;obtain⟨_,_,p⟩:=Y.gives;have J:=pin P w mg base (KS p.fn B G T M g j r v C);have O:=pin P w mg base (AF g.fn B G T M);have U:=pin P w mg base (U4 l.fn);obtain⟨_,_,r⟩:=M.cls;obtain⟨_,_,C⟩:=M.nm;have GM:=pin P w mg base (Q6 C.fn r G);refine F.okK FH λH Q E hr h=>?_;obtain⟨v,j,rfl,gr,good,af,q⟩:=h;have r1:je 1 _:=hr.mono (by decide);refine⟨_,qb (qx 1 Qd)
  (qb (qx 2 Qd)
  (qb (jc (zJ (by rfl) T.enu (qU (qv p J (jr (jv 0) (jv 1))))) (Zn rfl (jw (qG 3) (jw (qG 4) Jt)))
   (qd (jc (qC (jv 4)) (qG 5) (qd (jF (jv 2) (jv 5) (jv 3))))))
  (qb (qx 6 Qd)
  (qb (jc (qC (W6 C r.cl GM r1 (jv 0))) (qG 5)
   (qd (qF (Jy (zb (jv 5) (jv 1)))
    (qd (jF (jv 6) (jv 5) (jW (Ys qy (q5 (jv 1) (jv 5)) (q5 (jv 2) (jv 5))))))
    (qd (jF (jv 6) (jv 5) (jW (jr qy (qv l U (qU (qv g O (Ys (jv 0) (jv 1) (jv 5))))))))))))
  (qd (qm (jv 6))))))),?_⟩
 intro d hd st g;have r:qi H (upd H d (.dK [])):=qf hd;have l:qi H (upd (upd H d (.dK [])) st (.dK [])):=r.trans (qf g);have C:upd (upd H d (.dK [])) st (.dK []) d=some (.dK []):=qk qa g;have p:upd (upd H d (.dK [])) st (.dK []) st=some (.dK []):=qa;have am:d≠st:=λe=>by rw[<-e,qa]at g;cases g
 have ax:H st=none:=jU r g;generalize upd (upd H d (.dK [])) st (.dK [])=g at l C p;have r:∀{a:Addr},g a=some (.dK [])->ju (j.map (·.1)) g a (qE []):=λh=>⟨[],h,λz=>rfl,zaY,λk h=>(nomatch h)⟩;have ap:∀{g:Hp} {a:Addr},qi H g->H a=none->vA o g v a:=λJ O dx lo _ h=>by
  obtain⟨_,_,_,_,h1,_,g,_⟩:=gr;have:=J _ _ h1;rw[h]at this;cases this;exact λe=>by rw[e,O]at g;cases g
 refine⟨_,rfl,_,rfl,v,d,j,rfl,gr.mono l,good,af,r C,ap l hd,λo g O R r U ag _ num all J=>?_⟩;have C:=xj all .nil;have oL:=VF C;rw[ta]at oL;have s3:qi H o:=λb u h=>J b u (l _ _ h) (qt h hd);have an:o st=some (.dK []):=J _ _ p (Ne.symm am);obtain⟨_,_⟩:=num.isd;have ay:g≠st:=λe=>by rw[e,p]at r;cases r
 have L:=Ym (jX good.nd) all;refine⟨g,rfl,⟨_,.of U⟩,?_⟩;refine Zp (K:=K) (a:=g) (xs:=O.map V.ref) (λi J l=>∃v3 v4 r,J=[some (.ref v),some (.ref d),some (.ref st),v3,v4,r,none]/\ju (j.map (·.1)) l st (Wi R i)/\Fr o st l)
  ⟨none,none,none,rfl,⟨[],an,λz=>rfl,zaY,λk h=>(nomatch h)⟩,Fr.refl⟩ (λi J l _ ⟨_,_,_,_,_,f⟩=>.of (f _ _ U ay)) ?_ ?_
 ·rintro i x J l U hx hp ⟨v3,v4,r,rfl,fz,ab⟩;rw[tp]at hx;cases p:O[i]? with
  | none=>rw[p]at hx;cases hx
  | some pi=>
   rw[p]at hx;obtain rfl:=(tz.inj hx).symm;have li:i < R.length:=by
    have:=(td.mp p).1;have:=ag.1;rw[ta]at this;omega
   obtain⟨g,O⟩:∃g,R[i]?=some g:=⟨_,th li⟩;have ah:=ag.2 i pi g.2 p (by rw[tp,O];rfl);have az:pi≠st:=λe=>by rw[e,an]at ah;cases ah
   have sp:qi l (upd l U (.tup [.int (i:Nat),V.ref pi])):=qf hp;have ai:Fr o st (upd l U (.tup [.int (i:Nat),V.ref pi])):=ab.same sp;have rN:∀z∈g.2,z∈j.map (·.1):=C.sub g (tL O);refine⟨U,_,rfl,.of qa,rfl,_,_,rfl,_,_,rfl,rfl,?_⟩;have ao:∀{p:Hp},Fr o st p->p pi=some (.lst (g.2.map V.str)):=λf=>f _ _ ah az;have aq:=fz.mono sp;generalize upd l U (.tup [.int (i:Nat),V.ref pi])=U at sp ai aq;refine⟨_,rfl,pi,rfl,⟨_,.of (ao ai)⟩,?_⟩;have aA:g.2.Nodup:=good.nd.sublist (C.srt g (tL O));refine jm (K:=K) (a:=pi) (xs:=g.2.map V.str) (λaa ac p=>∃r,ac=[some (.ref v),some (.ref d),some (.ref st),some (.int (i:Nat)),some (.ref pi),r,none]/\ju (j.map (·.1)) p st (YN (Wi R i) i (g.2.take aa))/\Fr o st p)
    ⟨r,rfl,aq.congr λz=>by unfold YN;rw[List.take_zero,if_neg (by simp)],ai⟩ (λaa ac p _ ⟨_,_,_,f⟩=>.of (ao f)) ?_ ?_
   ·rintro aa y ac p hy ⟨aj,rfl,o,ak⟩;obtain⟨z,ez,hz,rfl⟩:=Qf hy;by_cases nt:z∈g.2.take aa
    ·exfalso;obtain⟨_,hj⟩:=zbp nt;rw[zcM]at hj;split at hj
     . have h1:=(td.mp hj);have h2:=(td.mp ez);have:=K2 aA (h1.2.trans h2.2.symm);omega
     . cases hj
    ·obtain⟨H4,put,aB,_,e4⟩:=o.put (n:=i) (rN z hz) (by unfold YN;rw[if_neg nt];exact Uk C O hz) (by rw[ta];exact af);refine⟨_,rfl,_,rfl,_,rfl,st,H4,rfl,put,_,rfl,aB.congr λy=>?_,?_⟩
     . unfold YN;rw[tM,ez];by_cases e:y=z
       ·subst e;rw[if_pos rfl,if_pos (by simp)]
       ·rw[if_neg e];by_cases m:y∈g.2.take aa
        ·rw[if_pos m,if_pos (tY _ m)]
        ·rw[if_neg m,if_neg (by simp [m,e])]
     . rw[e4];exact ak.at_d
   ·rintro ac p ⟨aj,rfl,o,ak⟩;rw[ta,tu (tc _)]at o;exact⟨_,_,_,rfl,o.congr (xB C O),ak⟩
 ·rintro J l ⟨v3,v4,r,rfl,fz,ab⟩;rw[ta,ag.1,ta]at fz;have fz:=fz.congr (uu R);have sG:qi H l:=λb u h=>ab _ _ (s3 _ _ h) (qt h ax);have aC:ju (j.map (·.1)) l d (qE R):=num.fr ab am;intro D hD;have o:qi l (upd l D (.dK [])):=qf hD;have ar:H D=none:=jU sG hD;have al:upd l D (.dK []) D=some (.dK []):=qa;generalize upd l D (.dK [])=U at o al;obtain⟨dx,fs,C,l1,_⟩:=((gr.mono sG).mono o).ins;refine⟨_,rfl,v,dx,fs,rfl,C,l1,v,j,rfl,(gr.mono sG).mono o,λln C=>⟨ln,rfl,⟨_,.of qa⟩,?_⟩⟩;have sL:qi U (upd U ln (.lst ((j.map (·.1)).map V.str))):=qf C;have as:upd U ln (.lst ((j.map (·.1)).map V.str)) ln=some (.lst ((j.map (·.1)).map V.str)):=qa;have aD:ln≠D:=λe=>by rw[e,al]at C;cases C
  generalize upd U ln (.lst ((j.map (·.1)).map V.str))=p at sL as;have au:qi l p:=o.trans sL;refine jm (K:=K) (a:=ln) (xs:=(j.map (·.1)).map V.str) (λi J C=>∃r o,J=[some (.ref v),some (.ref d),some (.ref st),v3,v4,r,some (.ref D)]/\Fr p D C/\C D=some (.dK o)/\o.map (·.1)=((j.map (·.1)).take i).map Sum.inr/\
    ∀g∈j.take i,∃t,jh o (Sum.inr g.1:qT)=some (.ref t)/\C t=some (.tup (QO j R g.1)))
   ⟨r,[],rfl,Fr.refl,sL _ _ al,rfl,λg h=>(nomatch h)⟩ (λi J C _ ⟨_,_,_,f,_⟩=>.of (f _ _ as aD)) ?_ ?_
  ·rintro i y J C hy ⟨aj,o,rfl,fr,ae,ek,hv⟩;obtain⟨g,O,av,rfl⟩:=XJ hy;have U:=(td.mp O).1;have U:qi l C:=λb u h=>fr _ _ (au _ _ h) (qt h hD);have sA:=sG.trans U;have nm:=aC.mono U;have ns:=fz.mono U;have lk:o.length=i:=by
    have:=congrArg zad ek;rw[ta,ta,tJ,ta]at this;omega
   have eN:(j.map (·.1))[i]?=some g.1:=by rw[tp,O];rfl
   have new:jh o (Sum.inr g.1:qT)=none:=Ja (by rw[ek];exact Q7 good.nd eN);have d_:∀(G4:Hp) (t:Addr),Fr p D G4->G4 D=some (.dK o)->qi C G4->G4 t=some (.tup (QO j R g.1))->∃U,Jq G4 D (.str g.1) (.ref t) U/\
     ∃r o,[some (V.ref v),some (.ref d),some (.ref st),v3,v4,some (.str g.1),some (.ref D)]=[some (.ref v),some (.ref d),some (.ref st),v3,v4,r,some (.ref D)]/\Fr p D U/\U D=some (.dK o)/\o.map (·.1)=((j.map (·.1)).take (i+1)).map Sum.inr/\
      ∀g∈j.take (i+1),∃t,jh o (Sum.inr g.1:qT)=some (.ref t)/\U t=some (.tup (QO j R g.1)):=λG4 t r h4 p l=>by
    refine⟨_,Jq.k (k:=(Sum.inr g.1:qT)) h4 (ql (by omega)),some (.str g.1),jQ o (Sum.inr g.1) (.ref t),rfl,r.at_d,qa,?_,λr aw=>?_⟩
    ·rw[JK _ new,tw,ek,tM,eN,tw];rfl
    ·have tD:∀{b:Addr} {xs:List V},G4 b=some (.tup xs)->b≠D:=λhb e=>by rw[e,h4]at hb;cases hb
     rw[tM,O]at aw;rcases tT.mp aw with h | h
     . obtain⟨O,a,b⟩:=hv r h;have ne:r.1≠g.1:=λe=>by rw[e,new]at a;cases a
       refine⟨O,?_,?_⟩
       ·rw[QL,if_neg (λq=>ne (Sum.inr.inj q))];exact a
       ·rw[qg (tD (p _ _ b))];exact p _ _ b
     . have:r=g:=by simpa using h
       subst this;refine⟨t,?_,?_⟩
       ·rw[QL,if_pos rfl]
       ·rw[qg (tD l)];exact l
   refine⟨_,rfl,_,rfl,d,_,rfl,nm.get g.1,_,rfl,?_⟩;cases c:qE R g.1 with
   | some n=>
    have g1:=nm.get g.1;have g2:=ns.get g.1;rw[c]at g1 g2;refine Q4 ⟨_,rfl,_,rfl,d,_,rfl,g1,_,rfl,_,rfl,st,_,rfl,g2,Ze,λt l=>?_⟩;have r:QO j R g.1=[.str "number",.int (n:Nat),.int (JF R g.1:Nat)]:=by unfold QO;rw[c]
    obtain⟨U,put,k⟩:=d_ (upd C t (.tup [.str "number",.int (n:Nat),.int (JF R g.1:Nat)])) t (fr.same (qf l)) (qk ae l) (qf l) (by rw[r];exact qa);exact⟨_,rfl,_,rfl,D,U,rfl,put,k⟩
   | none=>
    have gN:=L;refine jG ⟨_,rfl,_,rfl,_,rfl,v,d,j,g.1,qE R,rfl,gr.mono sA,good,af,tl.mpr ⟨g,av,rfl⟩,nm,λH4 v p _ O=>?_⟩;refine⟨v,_,rfl,.of O,λx hx=>?_,Ze,λt l=>?_⟩
    ·obtain⟨y,hy,v⟩:=jI.mp hx;have:=XH good L (jX good.nd _ (tl.mpr ⟨g,av,rfl⟩) y hy) v;omega
    ·have r:QO j R g.1=[.str "endless",.int (Rb.setN (Q2 j (qE R) g.1):Nat)]:=by unfold QO;rw[c]
     obtain⟨U,put,k⟩:=d_ (upd H4 t (.tup [.str "endless",.int (Rb.setN (Q2 j (qE R) g.1):Nat)])) t ((fr.same p).same (qf l)) (qk (p _ _ ae) l) (p.trans (qf l)) (by rw[r];exact qa);exact⟨_,rfl,_,rfl,D,U,rfl,put,k⟩
  ·rintro J C ⟨aj,o,rfl,fr,ae,ek,hv⟩;rw[ta,tu (tc _)]at ek;rw[ta,ta,tu (tc _)]at hv;exact⟨_,rfl,q C D R (λb u h=>fr _ _ (au _ _ (sG _ _ h)) (qt h ar)) ar ⟨o,ae,ek,hv⟩ all⟩
open PySem L2 Rb
open PyProof.Rows hiding K lo
abbrev Z4:Stmt:=top 5
abbrev YU:Stmt:=top 6
abbrev JR:Stmt:=top 21
abbrev zp:Stmt:=top 46
abbrev Xv:Stmt:=top 47
abbrev Xq:Stmt:=top 51
abbrev Xt:Stmt:=Qt (top 49) 0
abbrev vU:Stmt:=Qt (top 49) 3
abbrev u8:Stmt:=Qt (top 49) 4
abbrev yC:Stmt:=Qt (top 49) 5
abbrev Xy:Stmt:=Qt (top 50) 0
abbrev vW:Stmt:=Qt (top 50) 3
abbrev u9:Stmt:=Qt (top 50) 4
abbrev yF:Stmt:=Qt (top 50) 5
def bx(a b:Nat):Builtin.bitXor a b=((a^^^b:Nat):Int):=by
 unfold Builtin.bitXor;rw[bo,ba];have:=Rb.or_and_xor a b;omega
inductive UC(vs:List V)(H:Hp)(Q:VK):Prop
 | mk (b:Nat):vs=[.int b]->(b < 65536)->(∀l,H l=none->Q (.ref l) (upd H l (.lst (Zf (Rb.memN b 16)))))->UC vs H Q
def RX:Sp:=λa H Q _=>UC a H Q
inductive WC(vs:List V)(H:Hp)(Q:VK):Prop
 | mk (b n:Nat):vs=[.int b,.int n]->(b < 65536)->(n < 16)->(∀H',qi H H'->Q (.int (Rb.turnN b n 16:Nat)) H')->WC vs H Q
def Uq:Sp:=λa H Q _=>WC a H Q
def MH(b:Nat):b < 2^ (Builtin.Int.intBits (b:Nat)):=by
 unfold Builtin.Int.intBits;by_cases h:b=0
 ·subst h;simp
 ·rw[if_neg (by simpa using h)];exact Nat.lt_log2_self
def Vg(h:b < 65536):Builtin.Int.intBits (b:Nat)<=16:=by
 unfold Builtin.Int.intBits;by_cases a:b=0
 ·subst a;simp
 ·rw[if_neg (by simpa using a)];have:b.log2 < 16:=(Nat.log2_lt a).mpr h;exact this
def R4(b i:Nat):Builtin.bitAnd ((b:Int) / 2^ ((i:Nat):Int).toNat) 1=(((b.testBit i).toNat:Nat):Int):=by
 have a:(b:Int) / 2^ ((i:Nat):Int).toNat=((b / 2^i:Nat):Int):=by rw[zaC];push_cast;rfl
 have c:Builtin.bitAnd ((b / 2^i:Nat):Int) 1=(((b / 2^i)&&& 1:Nat):Int):=ba (b / 2^i) 1;rw[a,c,Nat.and_one_is_mod,Rb.testBit_div];by_cases h:b / 2^i % 2=1
 ·rw[h];rfl
 ·have a:b / 2^i % 2=0:=by omega
  rw[a];rfl
def Nd:qh ["bits"] ["bits"] (qc Z4):=jY
def zB(F:jE K "numbers_in" "numbers_in" Z4 f a)(B:Qo mg):qp P w K mg base qN 1 f a ["bits"] RX:=by
 refine F.okK Nd λH Q E hr h=>?_;obtain⟨b,rfl,a,q⟩:=h;refine⟨_,qd (qm (j8 (N':=["number","bits"]) (ix:=[none,some 0])
  (QD (by rfl) B.rng (qU (Gs PySem.F.plainAttrs_int PySem.F.slot_int_bit_length PySem.F.type_int_bit_length wj (jv 0))))
  (λ_ _ _ fp _=>⟨qG 0,j7 (qo jl (qL BH (qL BB (jv 1) (jv 0)) qe) qe),jv 0⟩))),?_⟩
 refine⟨_,rfl,rfl,_,rfl,rfl,_,rfl,by omega,?_,λD j=>?_⟩
 ·have:=Vg a;omega
 ·rw[zaC];refine ZI (λi c d=>∃v,c=[v,some (.int b)]/\d=upd H D (.lst (Zf (Rb.memN b i)))) ⟨none,rfl,rfl⟩ ?_ ?_
  ·rintro i c d _ ⟨v,rfl,rfl⟩;rw[zcE];refine⟨_,rfl,_,rfl,_,_,rfl,rfl,by omega,_,_,rfl,rfl,rfl,_,rfl,?_⟩;have e:decide (V.int (Builtin.bitAnd ((b:Int) / 2^ ((i:Nat):Int).toNat) 1)=V.int 1)=b.testBit i:=by
    rw[R4];cases b.testBit i<;>decide
   rw[e];have l:(Zf (Rb.memN b i)).length < zdZ:=by
    rw[ZE];refine ql ?_;have:=Vg a;have g:(Rb.memN b i).length<=(t8 i).length:=zak _ _;rw[zai]at g;omega
   cases g:b.testBit i with
   | true=>
    refine Q4 ⟨_,rfl,_,qa,l,some (.int i),rfl,?_⟩;rw[jx,vh,Rb.memN_succ,g];rfl
   | false=>
    refine jG ⟨some (.int i),rfl,?_⟩;rw[Rb.memN_succ,g];simp
  ·rintro c d ⟨v,rfl,rfl⟩;rw[Rb.memN_same (m:=16) a (MH b)];exact q D j
def uX:qh ["bits","number"] ["bits","number"] (qc YU):=jY
def xX(F:jE K "set_turned" "set_turned" YU f c)(B:Qo mg)(hN:qH K mg "numbers_in" Z4 ["bits"] d g)(a:qH K mg "set_of" Yc ["numbers"] j l):
  qp P w K mg base qN 2 f c ["bits","number"] Uq:=by
 have c:=pin P w mg base (zB hN.fn B);have d:=pin P w mg base (U4 a.fn);refine F.okK uX λH Q E hr h=>?_;obtain⟨b,n,rfl,g,j,q⟩:=h;refine⟨_,qd (qm (qv a d (qU (j8 (N':=["other","number"]) (ix:=[none,some 1])
  (qC (qv hN c (qU (jv 0))))
  (λ_ _ _ fp _=>⟨qG 0,jJ,qL vZ (jv 0) (jv 1)⟩))))),?_⟩
 refine⟨_,rfl,b,rfl,g,λa l=>⟨a,rfl,⟨_,.of qa⟩,λD c=>?_⟩⟩;have g:a≠D:=λe=>by rw[e,qa]at c;cases c
 have o:H D=none:=by rw[<-c,qg (Ne.symm g)]
 refine jC (K:=K) (a:=a) (xs:=Zf (Rb.memN b 16)) (λi c d=>∃v,c=[v,some (.int n)]/\d=upd (upd H a (.lst (Zf (Rb.memN b 16)))) D (.lst (Zf (((Rb.memN b 16).take i).map (·^^^n))))) ⟨none,rfl,rfl⟩
  (λi c d _ ⟨_,_,e⟩=>.of (by rw[e,qg g];exact qa)) ?_ ?_
 ·rintro i x c d a ⟨v,rfl,rfl⟩;obtain⟨m,g,rfl⟩:=Y9 a;refine⟨_,rfl,_,rfl,_,_,rfl,rfl,_,qa,?_,some (.int m),rfl,?_⟩
  ·rw[ZE,ta,tJ];refine ql (tS (zbh _ _) ?_);have p:(Rb.memN b 16).length<=(t8 16).length:=zak _ _;rw[zai]at p;omega
  ·rw[jx]
   try dsimp only
   rw[bx,vh,Zx g,tw];rfl
 ·rintro c d ⟨v,rfl,rfl⟩;rw[ZE,tu (tc _)];refine⟨D,(Rb.memN b 16).map (·^^^n),rfl,.of qa,λx a=>?_,?_⟩
  ·obtain⟨y,c,rfl⟩:=tl.mp a;have:=Rb.xor_lt (m:=4) (Rb.mem_memN.mp c).1 j;omega
  ·exact q _ (qi.upd (qf l) o)
structure Cl(K:zdU)(mg:Str->Option Value)(x qual f_:Str)(st:Stmt)(C f:Addr)(fd:zdY):Prop where
 cl:Wf K C
 mkr:Mk K C f
 ns:mg x=some (.ref C)
 na:Jo K C f_
 fn:jE K "__init__" qual st f fd
 bi:jN K fd ["self",f_] []
 ca:t1 K (.ref C) "__class__"=some (some (.builtin "object.__class__"))
 ob:zcU K C (.type "object")=some true
structure Wk(K:zdU)(mg:Str->Option Value):Prop where
 isi:mg "isinstance"=none
 bool:mg "bool"=none
 kii:zaD K (.type "int") (.type "int")=some true
 kib:zaD K (.type "int") (.type "bool")=some false
 most:∃t,mg "MOST_NUMBER"=some (.int 15 t)
 mset:∃t,mg "MOST_BITS"=some (.int 65535 t)
def CS{f:Str}{v:V}:[(f,v)].lookup f=some v:=by simp [zaS]
def ZQ(CN CE:Addr)(H:Hp)(a:Addr):W->Prop
 | .num n=>∃c,H a=some (.ins CN c [("number",.int (n:Nat))])
 | .edl b=>∃c,H a=some (.ins CE c [("bits",.int (b:Nat))])
def ZQ.same{CN CE:Addr}{H c:Hp}{a:Addr}{w:W}(h:ZQ CN CE H a w)(s:qi H c):ZQ CN CE c a w:=by
 cases w with
 | num n=>obtain⟨c,e⟩:=h;exact⟨c,s _ _ e⟩
 | edl b=>obtain⟨c,e⟩:=h;exact⟨c,s _ _ e⟩
inductive WB(vs:List V)(H:Hp)(Q:VK):Prop
 | mk (i:Int):vs=[.int i]->(Q (.bl true) H)->WB vs H Q
def Up:Sp:=λa H Q _=>WB a H Q
inductive WH(vs:List V)(H:Hp)(Q:VK):Prop
 | mk (i:Int):vs=[.int i]->(0<=i)->(i<=15)->(Q (.bl true) H)->WH vs H Q
def uL:Sp:=λa H Q _=>WH a H Q
inductive UH(vs:List V)(H:Hp)(Q:VK):Prop
 | mk (i:Int):vs=[.int i]->(0<=i)->(i<=65535)->(Q (.bl true) H)->UH vs H Q
def R0:Sp:=λa H Q _=>UH a H Q
def R8:qh ["thing"] ["thing"] (qc JR):=jY
def XC(F:jE K "is_whole" "is_whole" JR f a)(B:Qo mg)(T:Wk K mg):qp P w K mg base qN 1 f a ["thing"] Up:=by
 refine F.okK R8 λH Q E hr h=>?_;obtain⟨i,rfl,q⟩:=h;refine⟨_,qd (qm (J5 (qu jA (by rfl) T.isi boot_isinstance (jr (jv 0) (QJ (v:=.ty "int") (by rfl) B.int boot_int rfl)))
  (za (Ch (qu jA (by rfl) T.isi boot_isinstance (jr (jv 0) (QJ (v:=.ty "bool") (by rfl) T.bool boot_bool rfl))))))),?_⟩
 exact⟨_,rfl,_,_,_,_,rfl,rfl,.int i,T.kii,_,rfl,Q4 ⟨_,rfl,_,_,_,_,rfl,rfl,.int i,T.kib,_,rfl,q⟩⟩
def u2:qh ["thing"] ["thing"] (qc zp):=jY
def x5(F:jE K "is_number" "is_number" zp f b)(B:Qo mg)(T:Wk K mg)(a:qH K mg "is_whole" JR ["thing"] c d):qp P w K mg base qN 2 f b ["thing"] uL:=by
 have b:=pin P w mg base (XC a.fn B T);obtain⟨t,c⟩:=T.most;refine F.okK u2 λH Q E hr h=>?_;obtain⟨i,rfl,d,g,q⟩:=h;refine⟨_,qd (qm (J5 (qv a b (qU (jv 0))) (J5 (jK WX qe (jv 0)) (za (jK WX (jv 0) (Ju (v:=.int 15) (by rfl) c ⟨_,rfl⟩)))))),?_⟩;refine⟨_,rfl,i,rfl,_,rfl,Q4 ⟨_,rfl,_,_,rfl,rfl,_,rfl,?_⟩⟩;rw[decide_eq_true d];refine Q4 ⟨_,rfl,_,_,rfl,rfl,?_⟩;have e:decide (i<=15)=true:=decide_eq_true g;show Q (.bl (decide (i<=15))) H;rw[e];exact q
def Nj:qh ["thing"] ["thing"] (qc Xv):=jY
def KQ(F:jE K "is_set" "is_set" Xv f b)(B:Qo mg)(T:Wk K mg)(a:qH K mg "is_whole" JR ["thing"] c d):qp P w K mg base qN 2 f b ["thing"] R0:=by
 have b:=pin P w mg base (XC a.fn B T);obtain⟨t,c⟩:=T.mset;refine F.okK Nj λH Q E hr h=>?_;obtain⟨i,rfl,d,g,q⟩:=h;refine⟨_,qd (qm (J5 (qv a b (qU (jv 0))) (J5 (jK WX qe (jv 0)) (za (jK WX (jv 0) (Ju (v:=.int 65535) (by rfl) c ⟨_,rfl⟩)))))),?_⟩;refine⟨_,rfl,i,rfl,_,rfl,Q4 ⟨_,rfl,_,_,rfl,rfl,_,rfl,?_⟩⟩;rw[decide_eq_true d];refine Q4 ⟨_,rfl,_,_,rfl,rfl,?_⟩;have e:decide (i<=65535)=true:=decide_eq_true g;show Q (.bl (decide (i<=65535))) H;rw[e];exact q
inductive yo(C:Addr)(f_:Str)(hi:Int)(vs:List V)(H:Hp)(Q:VK):Prop
 | mk (x dx:Addr) (n:Int):vs=[.ref x,.int n]->(0<=n)->(n<=hi)->H x=some (.ins C dx [])->(Q .non (upd H x (.ins C dx [(f_,.int n)])))->yo C f_ hi vs H Q
def Vt(C:Addr)(f_:Str)(a:Int):Sp:=λb H Q _=>yo C f_ a b H Q
def Nh:qh ["self","number"] ["self","number"] (qc Xt):=jY
def KN(F:jE K "__init__" "Numbered.__init__" Xt f b)(B:Qo mg)(T:Wk K mg)(c:qH K mg "is_whole" JR ["thing"] e g)(a:qH K mg "is_number" zp ["thing"] i j)(cl:Wf K CN)(d:Jo K CN "number"):
  qp P w K mg base qN 3 f b ["self","number"] (Vt CN "number" 15):=by
 have b:=pin P w mg base (x5 a.fn B T c);refine F.okK Nh λH Q E hr h=>?_;obtain⟨x,c,n,rfl,e,g,i,q⟩:=h;refine⟨_,qb (qF (j4 (jn (qv a b (qU (jv 1))))) qD qr) (qd (VQ (jv 0) (jv 1) rfl)),?_⟩;exact⟨_,rfl,n,rfl,e,g,_,rfl,jG ⟨_,rfl,_,rfl,x,CN,c,[],rfl,i,cl,d,by decide,q⟩⟩
def Nm:qh ["self","bits"] ["self","bits"] (qc Xy):=jY
def KW{P:Program}{w:World}{K:zdU}{mg:Str->Option Value}{base:Heap}{f c d CE:Addr}{a e g:zdY}(F:jE K "__init__" "Endless.__init__" Xy f a)(B:Qo mg)(T:Wk K mg)(i:qH K mg "is_whole" JR ["thing"] d g)(b:qH K mg "is_set" Xv ["thing"] c e)(cl:Wf K CE)(j:Jo K CE "bits"):
  qp P w K mg base qN 3 f a ["self","bits"] (Vt CE "bits" 65535):=by
 have a:=pin P w mg base (KQ b.fn B T i);refine F.okK Nm λH Q E hr h=>?_;obtain⟨x,c,n,rfl,d,e,g,q⟩:=h;refine⟨_,qb (qF (j4 (jn (qv b a (qU (jv 1))))) qD qr) (qd (VQ (jv 0) (jv 1) rfl)),?_⟩;exact⟨_,rfl,n,rfl,d,e,_,rfl,jG ⟨_,rfl,_,rfl,x,CE,c,[],rfl,g,cl,j,by decide,q⟩⟩
inductive Al(b:Bool)(vs:List V)(H:Hp)(Q:VK):Prop
 | mk (a:_):vs=[.ref a]->(Q (.bl b) H)->Al b vs H Q
def xE(b:Bool):Sp:=λa H Q _=>Al b a H Q
def Bn:qh ["self"] ["self"] (qc yC):=jY
def NU(F:jE K "is_endless" "Numbered.is_endless" yC f b):qp P w K mg base qN 1 f b ["self"] (xE false):=by
 refine F.okK Bn λH Q E hr h=>?_;obtain⟨a,rfl,q⟩:=h;exact⟨_,qd (qm Qx),q⟩
def Bt:qh ["self"] ["self"] (qc yF):=jY
def N1(F:jE K "is_endless" "Endless.is_endless" yF f b):qp P w K mg base qN 1 f b ["self"] (xE true):=by
 refine F.okK Bt λH Q E hr h=>?_;obtain⟨a,rfl,q⟩:=h;exact⟨_,qd (qm Qx),q⟩
structure WF(K:zdU)(mg:Str->Option Value) where
 (CN CE fNI fEI fNO fEO fNP fEP fNE fEE fW fB fS fT fN fO:Addr)
 (dNI dEI dNO dEO dNP dEP dNE dEE dW dB dS dT dN dO:zdY)
 ne:CN≠CE
 cN:Cl K mg "Numbered" "Numbered.__init__" "number" Xt CN fNI dNI
 cE:Cl K mg "Endless" "Endless.__init__" "bits" Xy CE fEI dEI
 nO:Rt K CN "outcome" "Numbered.outcome" u8 ["self"] fNO dNO
 eO:Rt K CE "outcome" "Endless.outcome" u9 ["self"] fEO dEO
 nP:Rt K CN "plus" "Numbered.plus" vU ["self","other"] fNP dNP
 eP:Rt K CE "plus" "Endless.plus" vW ["self","other"] fEP dEP
 nE:Rt K CN "is_endless" "Numbered.is_endless" yC ["self"] fNE dNE
 eE:Rt K CE "is_endless" "Endless.is_endless" yF ["self"] fEE dEE
 hW:qH K mg "is_whole" JR ["thing"] fW dW
 hB:qH K mg "is_number" zp ["thing"] fB dB
 hS:qH K mg "is_set" Xv ["thing"] fS dS
 hT:qH K mg "set_turned" YU ["bits","number"] fT dT
 hN:qH K mg "numbers_in" Z4 ["bits"] fN dN
 hO:qH K mg "set_of" Yc ["numbers"] fO dO
def isE:W->Bool
 | .num _=>false
 | .edl _=>true
def WF.gNI(h:WF K mg)(B:Qo mg)(T:Wk K mg):qp P w K mg base qN 3 h.fNI h.dNI ["self","number"] (Vt h.CN "number" 15):=KN h.cN.fn B T h.hW h.hB h.cN.cl h.cN.na
def WF.gEI(h:WF K mg)(B:Qo mg)(T:Wk K mg):qp P w K mg base qN 3 h.fEI h.dEI ["self","bits"] (Vt h.CE "bits" 65535):=KW h.cE.fn B T h.hW h.hS h.cE.cl h.cE.na
def WF.gNE(h:WF K mg):qp P w K mg base qN 1 h.fNE h.dNE ["self"] (xE false):=NU h.nE.fn
def WF.gEE(h:WF K mg):qp P w K mg base qN 1 h.fEE h.dEE ["self"] (xE true):=N1 h.eE.fn
def WF.gT(h:WF K mg)(B:Qo mg):qp P w K mg base qN 2 h.fT h.dT ["bits","number"] Uq:=xX h.hT.fn B h.hN h.hO
def BU{f g:Str}{v:V}(h:(g==f)=false):[(f,v)].lookup g=none:=by simp [zaS,h]
def n1:((zdV "is_endless")==(zdV "number"))=false:=by decide+kernel
def n2:((zdV "is_endless")==(zdV "bits"))=false:=by decide+kernel
def n5:((zdV "plus")==(zdV "number"))=false:=by decide+kernel
def n6:((zdV "plus")==(zdV "bits"))=false:=by decide+kernel
def Cr{CN CE a:Addr}{H:Hp}{w:W}{Q:VK}(h:ZQ CN CE H a w)(q:Q (.bl (isE w)) H):∃d c fs,V.ref a=.ref d/\fs.lookup (zdV "is_endless")=none/\((H d=some (.ins CN c fs)/\xE false [V.ref a] H Q E0)\/(H d=some (.ins CE c fs)/\xE true [V.ref a] H Q E0)):=by
 cases w with
 | num n=>obtain⟨c,e⟩:=h;exact⟨a,c,_,rfl,BU n1,.inl ⟨e,a,rfl,q⟩⟩
 | edl b=>obtain⟨c,e⟩:=h;exact⟨a,c,_,rfl,BU n2,.inr ⟨e,a,rfl,q⟩⟩
def Go{X:Cx}(h:WF X.K X.mg)(hr:je 1 X.A)(g:JE X o j)(l:eval (.Call (.Attribute o "is_endless" c_) [] [] pos) X.env=(eval o X.env >>= λc=>standAt c_.atName >>= λ_=>holding [c] (getMethod c "is_endless" pl) >>= λr=>callWith pos r.1 r.2 (backTo pos (starEach [] X.env)) (backToKw pos (keywordEach [] X.env))):=by rfl):
  JE X (.Call (.Attribute o "is_endless" c_) [] [] pos) (λd H Q=>j d H λx b=>∃a u,x=.ref a/\ZQ h.CN h.CE b a u/\Q (.bl (isE u)) b):=
 VR (W5 (Gi g) h.cN.cl h.nE.me h.gNE hr h.nE.bi h.cE.cl h.eE.me h.gEE hr h.eE.bi l) λd H Q q=>⟨_,q,λx b ⟨a,u,e,i,b⟩=>by subst e;exact Cr i b⟩
inductive Uy(CN CE:Addr)(vs:List V)(H:Hp)(Q:VK):Prop
 | mk (a:_) (o:_) (n:_) (v:_):vs=[.ref a,.ref o]->(ZQ CN CE H a (.num n))->ZQ CN CE H o v->(n < 16)->Y0 v->(∀H' r,qi H H'->ZQ CN CE H' r (zz (.num n) v)->Q (.ref r) H')->Uy CN CE vs H Q
def k8(CN CE:Addr):Sp:=λa H Q _=>Uy CN CE a H Q
inductive Uz(CN CE:Addr)(vs:List V)(H:Hp)(Q:VK):Prop
 | mk (a:_) (o:_) (b:_) (v:_):vs=[.ref a,.ref o]->(ZQ CN CE H a (.edl b))->ZQ CN CE H o v->(b < 65536)->Y0 v->(∀H' r,qi H H'->ZQ CN CE H' r (zz (.edl b) v)->Q (.ref r) H')->Uz CN CE vs H Q
def k9(CN CE:Addr):Sp:=λa H Q _=>Uz CN CE a H Q
def VH{CN CE:Addr}{H:Hp}{x a:Addr}{n:Nat}(d:H x=none)(hd:H a=none)(c:a≠x):qi H (upd (upd (upd H a (.own x)) x (.ins CN a [])) x (.ins CN a [("number",.int (n:Nat))]))/\ZQ CN CE (upd (upd (upd H a (.own x)) x (.ins CN a [])) x (.ins CN a [("number",.int (n:Nat))])) x (.num n):=
 ⟨λb _ c=>by rw[qg (qt c d),qg (qt c d),qg (qt c hd)];exact c,a,qa⟩
def VI{CN CE:Addr}{H:Hp}{x a:Addr}{b:Nat}(d:H x=none)(hd:H a=none)(c:a≠x):qi H (upd (upd (upd H a (.own x)) x (.ins CE a [])) x (.ins CE a [("bits",.int (b:Nat))]))/\ZQ CN CE (upd (upd (upd H a (.own x)) x (.ins CE a [])) x (.ins CE a [("bits",.int (b:Nat))])) x (.edl b):=
 ⟨λb _ c=>by rw[qg (qt c d),qg (qt c d),qg (qt c hd)];exact c,a,qa⟩
def Nl:qh ["self","other"] ["self","other"] (qc vW):=jY
def WF.gEP{P:Program}{w:World}{K:zdU}{mg:Str->Option Value}{base:Heap}(h:WF K mg)(B:Qo mg)(T:Wk K mg):qp P w K mg base qN 5 h.fEP h.dEP ["self","other"] (k9 h.CN h.CE):=by
 refine h.eP.fn.okJ Nl (λd H Q E z=>?_) (λ_ A _ s H d Q E hr z=>?_)
 ·obtain⟨a,d,b,v,rfl,_⟩:=z;rfl
 ·obtain⟨a,d,b,v,rfl,o,l,p,m,q⟩:=z;refine⟨_,qb (qF (jn (Go h (hr.mono (by decide)) (jv 1))) (qd (qm (J4 h.cE.mkr (h.gEI B T) hr (by rfl) h.cE.ns h.cE.bi .nil Jd (qU qe)))) qr)
   (qd (qm (J4 h.cE.mkr (h.gEI B T) hr (by rfl) h.cE.ns h.cE.bi .nil Jd (qU (qv h.hT (h.gT B) (jr (Jk (jv 0) rfl) (Jk (jv 1) rfl))))))),?_⟩
  refine⟨_,rfl,d,v,rfl,l,_,rfl,?_⟩;cases v with
  | edl c=>
   refine Q4 (λx e g hd i=>⟨x,e,0,rfl,by decide,by decide,qa,rfl,?_⟩);obtain⟨j,r⟩:=VI (CN:=h.CN) (CE:=h.CE) (b:=0) g hd i;exact q _ _ j r
  | num n=>
   obtain⟨r,u⟩:=id o;obtain⟨o,y⟩:=id l;refine jG ⟨_,rfl,a,h.CE,r,_,_,rfl,u,h.cE.cl,h.cE.na,CS,_,rfl,d,h.CN,o,_,_,rfl,y,h.cN.cl,h.cN.na,CS,b,n,rfl,p,m,λ_ j x e g hd i=>?_⟩;have lt:=kP (k:=4) (b:=b) (tc _) m;refine⟨x,e,_,rfl,by omega,?_,qa,rfl,?_⟩
   ·have:turnN b n 16 < 65536:=lt;omega
   ·obtain⟨d,e⟩:=VI (CN:=h.CN) (CE:=h.CE) (b:=turnN b n 16) g hd i;exact q _ _ (j.trans d) e
def Ng:qh ["self","other"] ["self","other"] (qc vU):=jY
def WF.gNP(h:WF K mg)(B:Qo mg)(T:Wk K mg):qp P w K mg base qN 6 h.fNP h.dNP ["self","other"] (k8 h.CN h.CE):=by
 refine h.nP.fn.okJ Ng (λd H Q E z=>?_) (λ_ A _ s H d Q E hr z=>?_)
 ·obtain⟨a,d,b,v,rfl,_⟩:=z;rfl
 ·obtain⟨a,d,n,v,rfl,l,e,o,p,q⟩:=z;refine⟨_,qb (qF (jn (Go h (hr.mono (by decide)) (jv 1))) (qd (qm (YE h.eP h.cE.cl (h.gEP B T) hr (jv 1) (qU (jv 0))))) qr)
   (qd (qm (J4 h.cN.mkr (h.gNI B T) (hr.mono (by decide)) (by rfl) h.cN.ns h.cN.bi .nil Jd (qU (qL vZ (Jk (jv 0) rfl) (Jk (jv 1) rfl)))))),?_⟩
  refine⟨_,rfl,d,v,rfl,e,_,rfl,?_⟩;cases v with
  | edl c=>
   obtain⟨g,j⟩:=id e;exact Q4 ⟨_,rfl,d,g,_,rfl,j,BU n6,_,rfl,d,a,c,.num n,rfl,e,l,p,o,λr u s i=>q r u s i⟩
  | num m=>
   obtain⟨r,u⟩:=id l;obtain⟨g,j⟩:=id e;refine jG ⟨_,rfl,a,h.CN,r,_,_,rfl,u,h.cN.cl,h.cN.na,CS,_,rfl,d,h.CN,g,_,_,rfl,j,h.cN.cl,h.cN.na,CS,_,_,rfl,rfl,λx d e hd g=>?_⟩;have lt:n^^^m < 16:=xor_lt (m:=4) o p;refine⟨x,d,((n^^^m:Nat):Int),by rw[<-bx];rfl,by omega,by omega,qa,rfl,?_⟩;obtain⟨d,j⟩:=VH (CN:=h.CN) (CE:=h.CE) (n:=n^^^m) e hd g;exact q _ _ d j
def ND{CN CE a:Addr}{H:Hp}{u:W}{Q:VK}{t:TA}{g:L2.St}(h:ZQ CN CE H a u)(hu:Y0 u)(p:t g H λvs c=>∃o v,vs=[.ref o]/\ZQ CN CE c a u/\ZQ CN CE c o v/\Y0 v/\∀i r,qi c i->ZQ CN CE i r (zz u v)->Q (.ref r) i)
  (mono:∀R l:List V->Hp->Prop,(∀vs H,R vs H->l vs H)->t g H R->t g H l):
  ∃j d fs,V.ref a=.ref j/\fs.lookup (zdV "plus")=none/\((H j=some (.ins CN d fs)/\t g H λvs c=>k8 CN CE (V.ref a::vs) c Q E0)\/(H j=some (.ins CE d fs)/\t g H λvs c=>k9 CN CE (V.ref a::vs) c Q E0)):=by
 cases u with
 | num n=>
  obtain⟨d,e⟩:=id h;exact⟨a,d,_,rfl,BU n5,.inl ⟨e,mono _ _ (λvs c ⟨o,v,g,i,j,l,m⟩=>⟨a,o,n,v,by rw[g],i,j,hu,l,m⟩) p⟩⟩
 | edl b=>
  obtain⟨d,e⟩:=id h;exact⟨a,d,_,rfl,BU n6,.inr ⟨e,mono _ _ (λvs c ⟨o,v,g,i,j,l,m⟩=>⟨a,o,b,v,by rw[g],i,j,hu,l,m⟩) p⟩⟩
def Mi{X:Cx}(h:WF X.K X.mg)(B:Qo X.mg)(T:Wk X.K X.mg)(hr:je 6 X.A)(l:JE X o m)(p:JA X [e] t)(C:starEach [e] X.env=(false,eval e X.env)::starEach [] X.env:=by rfl)(D:eval (.Call (.Attribute o "plus" c_) [e] [] pos) X.env=(eval o X.env >>= λj=>standAt c_.atName >>= λ_=>holding [j] (getMethod j "plus" pl) >>= λr=>callWith pos r.1 r.2 (backTo pos (starEach [e] X.env)) (backToKw pos (keywordEach [] X.env))):=by rfl):
  JE X (.Call (.Attribute o "plus" c_) [e] [] pos) (λc H Q=>m c H λx d=>∃a u,x=.ref a/\ZQ h.CN h.CE d a u/\Y0 u/\t c d λvs b=>∃o v,vs=[.ref o]/\ZQ h.CN h.CE b a u/\ZQ h.CN h.CE b o v/\Y0 v/\∀g r,qi b g->ZQ h.CN h.CE g r (zz u v)->Q (.ref r) g):=
 VR (Gj (Gi l) h.cN.cl h.nP.me (h.gNP B T) hr h.nP.bi h.cE.cl h.eP.me (h.gEP B T) (hr.mono (by decide)) h.eP.bi (Ek p) C rfl D) λc H Q q=>⟨_,q,λx d ⟨a,u,e,i,hu,c⟩=>by
  subst e;exact ND (t:=aWk t) i hu ⟨_,c,λvs b z=>z⟩ λR _ k ⟨G,c,z⟩=>⟨G,c,λvs b y=>k vs b (z vs b y)⟩⟩
def Wl(CN CE:Addr)(H:Hp)(as:List Addr)(b:List W):Prop:=as.length=b.length/\∀(i:Nat) (a:Addr) (u:W),as[i]?=some a->b[i]?=some u->ZQ CN CE H a u
inductive Us(K:zdU)(CN CE:Addr)(vs:List V)(H:Hp)(Q:VK):Prop
 | mk (l:Addr) (as:List Addr) (ws:List W):vs=[.ref l]->(SqL K H l (as.map V.ref))->Wl CN CE H as ws->((∀u∈ws,Y0 u))->(∀H' r,qi H H'->ZQ CN CE H' r (Qv ws)->Q (.ref r) H')->Us K CN CE vs H Q
def RO(K:zdU)(CN CE:Addr):Sp:=λa H Q _=>Us K CN CE a H Q
def R9:qh ["worths","total","worth"] ["worths"] (qc Xq):=jY
def VU{a:List W}(h:∀u∈a,Y0 u)(i:Nat):Y0 ((a.take i).foldl zz (.num 0)):=by
 have b:∀u∈a.take i,Y0 u:=λu hu=>h u (zbK hu);rw[vl b];exact vH b
def KE{P:Program}{w:World}{K:zdU}{mg:Str->Option Value}{base:Heap}{f:Addr}{a:zdY}(F:jE K "sum_of" "sum_of" Xq f a)(h:WF K mg)(B:Qo mg)(T:Wk K mg):qp P w K mg base qN 7 f a ["worths"] (RO K h.CN h.CE):=by
 refine F.okK R9 λH Q E hr z=>?_;obtain⟨d,as,a,rfl,g,o,p,q⟩:=z;refine⟨_,qb (qx 1 (J4 h.cN.mkr (h.gNI B T) (hr.mono (by decide)) (by rfl) h.cN.ns h.cN.bi .nil Jd (qU qe)))
  (qb (jc (qC (jv 0)) (qG 2) (qd (qx 1 (Mi h B T hr (jv 1) (qU (jv 2))))))
  (qd (qm (jv 1)))),?_⟩
 intro x b c hd j;refine⟨x,b,0,rfl,by decide,by decide,qa,rfl,?_⟩;obtain⟨l,m⟩:=VH (CN:=h.CN) (CE:=h.CE) (n:=0) c hd j;refine⟨_,rfl,d,rfl,⟨_,l.seq g⟩,?_⟩;refine jm (K:=K) (a:=d) (xs:=as.map V.ref) (λi j b=>∃c v,j=[some (.ref d),some (.ref c),v]/\qi H b/\ZQ h.CN h.CE b c ((a.take i).foldl zz (.num 0))) ⟨x,none,rfl,l,m⟩ (λi j b _ ⟨_,_,_,e,_⟩=>e.seq g) ?_ ?_
 ·rintro i y j b d ⟨c,v,rfl,l,g⟩;rw[tp]at d;cases m:as[i]? with
  | none=>rw[m]at d;cases d
  | some r=>
   rw[m]at d;obtain rfl:=(tz.inj d).symm;have d:i < a.length:=by
    have:=(td.mp m).1;rw[o.1]at this;exact this
   have u:a[i]?=some a[i]:=th d;have io:=(o.2 i r _ m u).same l;have m:a.take (i+1)=a.take i++[a[i]]:=by rw[tM,u];rfl
   refine⟨_,rfl,c,_,rfl,g,VU p i,_,rfl,r,_,rfl,g,io,p _ (zbj d),λ_ a d r=>?_⟩;refine⟨a,_,rfl,l.trans d,?_⟩;rw[m,zcl];exact r
 ·rintro j b ⟨c,v,rfl,l,g⟩;refine⟨_,rfl,q _ _ l ?_⟩;rw[ta,o.1,tu (tc _),vl p]at g;exact g
def Z7:W->Str
 | .num n=>if n=0 then "lost" else "won"
 | .edl b=>if b.testBit 0=true then "won" else "drawn"
inductive ye(CN CE:Addr)(vs:List V)(H:Hp)(Q:VK):Prop
 | mk (a:_) (n:_):vs=[.ref a]->(ZQ CN CE H a (.num n))->(Q (.str (Z7 (.num n))) H)->ye CN CE vs H Q
def uG(CN CE:Addr):Sp:=λa H Q _=>ye CN CE a H Q
inductive yf(CN CE:Addr)(vs:List V)(H:Hp)(Q:VK):Prop
 | mk (a:_) (b:_):vs=[.ref a]->(ZQ CN CE H a (.edl b))->(b < 65536)->(∀H',qi H H'->Q (.str (Z7 (.edl b))) H')->yf CN CE vs H Q
def uH(CN CE:Addr):Sp:=λa H Q _=>yf CN CE a H Q
def Bm:qh ["self"] ["self"] (qc u8):=jY
def Br:qh ["self"] ["self"] (qc u9):=jY
def WF.gNO{P:Program}{w:World}{K:zdU}{mg:Str->Option Value}{base:Heap}(h:WF K mg):qp P w K mg base qN 1 h.fNO h.dNO ["self"] (uG h.CN h.CE):=by
 refine h.nO.fn.okJ Bm (λb H Q E z=>?_) (λ_ A _ s H b Q E hr z=>?_)
 ·obtain⟨a,n,rfl,_⟩:=z;rfl
 ·obtain⟨a,n,rfl,⟨b,e⟩,q⟩:=z;refine⟨_,qb (qF (qo jl (Jk (jv 0) rfl) qe) (qd (qm qy)) qr) (qd (qm qy)),?_⟩;refine⟨_,rfl,a,h.CN,b,_,_,rfl,e,h.cN.cl,h.cN.na,CS,rfl,_,rfl,?_⟩;have q:Q (.str (if n=0 then "lost" else "won")) H:=q;by_cases c:n=0
  ·subst c;rw[if_pos rfl]at q;exact qW (by decide) q
  ·rw[if_neg c]at q;exact qO (decide_eq_false λz=>c (by have:=V.int.inj z;omega)) q
def WF.gEO(h:WF K mg)(B:Qo mg):qp P w K mg base qN 2 h.fEO h.dEO ["self"] (uH h.CN h.CE):=by
 have d:=pin P w mg base (zB h.hN.fn B);refine h.eO.fn.okJ Br (λg H Q E z=>?_) (λ_ A _ s H g Q E hr z=>?_)
 ·obtain⟨a,b,rfl,_⟩:=z;rfl
 ·obtain⟨a,b,rfl,⟨g,e⟩,i,q⟩:=z;refine⟨_,qb (qF (qo ZB qe (qv h.hN d (qU (Jk (jv 0) rfl))) (by with_unfolding_all rfl)) (qd (qm qy)) qr) (qd (qm qy)),?_⟩;refine⟨_,rfl,a,h.CE,g,_,_,rfl,e,h.cE.cl,h.cE.na,CS,b,rfl,i,λd g=>?_⟩;refine⟨d,_,rfl,.inl (.of qa),rfl,XU _,_,rfl,?_⟩;have i:YF (.int ((0:Nat):Int)) (Zf (memN b 16))=b.testBit 0:=by
   rw[kw];unfold memN;rw[zaE,decide_eq_true_iff,tO];exact⟨λh=>h.2,λh=>⟨by decide,h⟩⟩
  have q:=q _ (qf (o:=HO.lst (Zf (memN b 16))) g);have q:Q (.str (if b.testBit 0=true then "won" else "drawn")) (upd H d (HO.lst (Zf (memN b 16)))):=q;show if YF (.int ((0:Nat):Int)) (Zf (memN b 16))=true then _ else _
  rw[i];cases c:b.testBit 0 with
  | true=>rw[if_pos c]at q;exact Q4 q
  | false=>rw[if_neg (by rw[c];exact tH)]at q;exact jG q
def n7:((zdV "outcome")==(zdV "number"))=false:=by decide+kernel
def n8:((zdV "outcome")==(zdV "bits"))=false:=by decide+kernel
def NI{CN CE a:Addr}{H:Hp}{w:W}{Q:VK}(h:ZQ CN CE H a w)(ok:Y0 w)(q:∀g,qi H g->Q (.str (Z7 w)) g):
  ∃d c fs,V.ref a=.ref d/\fs.lookup (zdV "outcome")=none/\((H d=some (.ins CN c fs)/\uG CN CE [V.ref a] H Q E0)\/(H d=some (.ins CE c fs)/\uH CN CE [V.ref a] H Q E0)):=by
 cases w with
 | num n=>obtain⟨c,e⟩:=id h;exact⟨a,c,_,rfl,BU n7,.inl ⟨e,a,n,rfl,h,q H λ_ _ z=>z⟩⟩
 | edl b=>obtain⟨c,e⟩:=id h;exact⟨a,c,_,rfl,BU n8,.inr ⟨e,a,b,rfl,h,ok,q⟩⟩
def yW{X:Cx}(h:WF X.K X.mg)(B:Qo X.mg)(hr:je 2 X.A)(j:JE X o l)(m:eval (.Call (.Attribute o "outcome" c_) [] [] pos) X.env=(eval o X.env >>= λc=>standAt c_.atName >>= λ_=>holding [c] (getMethod c "outcome" pl) >>= λr=>callWith pos r.1 r.2 (backTo pos (starEach [] X.env)) (backToKw pos (keywordEach [] X.env))):=by rfl):
  JE X (.Call (.Attribute o "outcome" c_) [] [] pos) (λd H Q=>l d H λx b=>∃a u,x=.ref a/\ZQ h.CN h.CE b a u/\Y0 u/\∀g,qi b g->Q (.str (Z7 u)) g):=
 VR (W5 (Gi j) h.cN.cl h.nO.me h.gNO (hr.mono (by decide)) h.nO.bi h.cE.cl h.eO.me (h.gEO B) hr h.eO.bi m) λd H Q q=>⟨_,q,λx b ⟨a,u,e,i,k,b⟩=>by subst e;exact NI i k b⟩
open PySem L2 MLab Rb
open PyProof.Rows hiding K lo
abbrev Ye:Stmt:=top 34
abbrev QA:Stmt:=top 37
abbrev DN:Stmt:=top 59
abbrev u7:Stmt:=top 63
structure Qm(H:Hp)(h:Addr)(rs:jf)(hs:List Str):Prop where
 at_:H h=some (.lst (hs.map V.str))
 le:hs.length<=8
 in_:∀z∈hs,∃r∈rs,r.1=z
def Qm.mono(x:Qm H h rs hs)(s:qi H a):Qm a h rs hs:=⟨s _ _ x.at_,x.le,x.in_⟩
inductive UA(CG:Addr)(vs:List V)(H:Hp)(Q:VK):Prop
 | mk (g:Addr) (rs:jf) (z:Str):vs=[.ref g,.str z]->jZ CG H g rs->((∃r∈rs,r.1=z))->(∀H',qi H H'->Q .non H')->UA CG vs H Q
def RU(a:Addr):Sp:=λb H Q _=>UA a b H Q
inductive UE(CG:Addr)(vs:List V)(H:Hp)(Q:VK):Prop
 | mk (g h:Addr) (rs:jf) (hs:List Str):vs=[.ref g,.ref h]->jZ CG H g rs->Qm H h rs hs->(∀H',qi H H'->Q .non H')->UE CG vs H Q
def Q0(a:Addr):Sp:=λb H Q _=>UE a b H Q
def TK(H c:Hp):Prop:=∀a b,H a=some (.tup b)->c a=some (.tup b)
def TK.of(s:qi H b):TK H b:=λa _ h=>s _ _ h
def TK.upd{H:Hp}(hd:H d=some o)(no:∀xs,o≠.tup xs):TK H (upd H d u):=λa xs h=>by
 rw[qg (λe=>by rw[e,hd]at h;exact no xs (tz.inj h))];exact h
def Q3(rs:jf)(z:Str):List Str:=match rs.find? (λa=>decide (a.1=z)) with
 | some a=>a.2
 | none=>[]
def Gc{rs:jf}(a:(rs.map (·.1)).Nodup)(h:r∈rs):Q3 rs r.1=r.2:=by
 unfold Q3;rw[XX a h]
def q4(g:qj rs)(hz:z∈rs.map (·.1)):y∈Q3 rs z↔y∈Qh rs z:=by
 obtain⟨_,hr,rfl⟩:=tl.mp hz;rw[Gc g.nd hr,yZ g hr]
def Md(g:qj rs)(L:Wa (Qh rs) (·∈rs.map (·.1)) num e_):Wa (Q3 rs) (·∈rs.map (·.1)) num e_ where
 cl:=λ{x y} a b=>L.cl a ((q4 g a).mp b)
 n1:=λ{x n m} a e lt=>let ⟨y,b,k⟩:=L.n1 a e lt;⟨y,(q4 g a).mpr b,k⟩
 n2:=λ{x y n} a e b=>L.n2 a e ((q4 g a).mp b)
 n3:=λ{x y n} a e b gt=>let ⟨z,c,k⟩:=L.n3 a e ((q4 g a).mp b) gt;⟨z,(q4 g (L.cl a ((q4 g a).mp b))).mpr c,k⟩
 n4:=λ{x y n m} a e b=>L.n4 a e ((q4 g a).mp b)
 e:=λ{x m} a e lo d=>by
  obtain⟨y,b,i,j⟩:=L.e a e (λl o=>let ⟨y,b,k⟩:=lo l o;⟨y,(q4 g a).mp b,k⟩) (λy b=>d y ((q4 g a).mpr b));exact⟨y,(q4 g a).mpr b,i,λz c=>j z ((q4 g (L.cl a b)).mp c)⟩
abbrev CP:List Str:=["ground","thing"]
def Fy:qh CP CP (qc Ye):=jY
def KJ(F:jE K "need_place" "need_place" Ye f a)(G:j3 mg)(M:GM K mg b):qp P w K mg base qN 2 f a CP (RU b):=by
 obtain⟨_,_,b⟩:=M.cls;obtain⟨_,_,c⟩:=M.nm;have i:=pin P w mg base (Q6 c.fn b G);refine F.okK Fy λH Q E hr h=>?_;obtain⟨d,a,z,rfl,g,j,q⟩:=h;refine⟨_,qd (qF (qo JZ (jv 1) (W6 c b.cl i hr (jv 0)) (by with_unfolding_all rfl)) qD qr),?_⟩;obtain⟨b,fs,c,i,_⟩:=g.ins;refine⟨_,rfl,_,rfl,d,b,fs,rfl,c,i,d,a,rfl,g,λb c=>⟨b,_,rfl,.inl (.of qa),rfl,ZG _,_,rfl,?_⟩⟩;have e:YF (.str z) ((a.map (·.1)).map V.str)=true:=VT (by obtain⟨b,d,rfl⟩:=j;exact tl.mpr ⟨b,d,rfl⟩);show if (!YF (.str z) ((a.map (·.1)).map V.str))=true then _ else _
 rw[e];exact jG (q _ (qf c))
abbrev nNH:List Str:=["ground","heap","thing"]
def FD:qh nNH ["ground","heap"] (qc QA):=jY
def U5(F:jE K "need_heap" "need_heap" QA f a)(B:Qo mg)(G:j3 mg)(T:Qb K mg)(M:GM K mg b)(c:qH K mg "need_place" Ye CP d e)(mt:∃t,mg "MOST_TOKENS"=some (.int 8 t)):qp P w K mg base qN 3 f a ["ground","heap"] (Q0 b):=by
 have e:=pin P w mg base (KJ c.fn G M);obtain⟨tk,g⟩:=mt;refine F.okK FD λH Q E hr h=>?_;obtain⟨d,b,j,l,rfl,m,a,q⟩:=h;refine⟨_,qb (qF (j4 (jn (qu jA (by rfl) T.isi boot_isinstance (jr (jv 1) (QJ (v:=.ty "list") (by rfl) G.lst boot_list rfl))))) qD qr)
  (qb (qF (qo ZW (qu qA (by rfl) B.len boot_len (qU (jv 1))) (Ju (v:=.int 8) (by rfl) g ⟨_,rfl⟩)) qD qr)
  (qd (jc (qC (jv 1)) (qG 2) (qd (ji (qv c e (jr (jv 0) (jv 2)))))))),?_⟩
 refine⟨_,rfl,_,_,_,_,rfl,rfl,.lst a.at_,T.kll,_,rfl,jG ?_⟩;refine⟨_,rfl,b,_,rfl,.inl (.of a.at_),_,_,rfl,rfl,_,rfl,qO (decide_eq_false ?_) ?_⟩
 ·have:=a.le;rw[ta];omega
 refine⟨_,rfl,b,rfl,⟨_,.of a.at_⟩,?_⟩;refine jm (K:=K) (a:=b) (xs:=l.map V.str) (λi c G=>∃v,c=[some (.ref d),some (.ref b),v]/\qi H G) ⟨_,rfl,qi.refl H⟩ (λi c G _ ⟨_,_,s⟩=>.of (s _ _ a.at_)) ?_ ?_
 ·rintro i y c G e ⟨v,rfl,b⟩;obtain⟨z,_,g,rfl⟩:=Qf e;exact⟨_,rfl,_,rfl,d,j,z,rfl,m.mono b,a.in_ z g,λ_ a=>⟨_,rfl,b.trans a⟩⟩
 ·rintro c G ⟨v,rfl,b⟩;exact q G b
def wT(rs:jf)(R:Rs Str)(z:Str):W:=match qE R z with
 | some n=>.num n
 | none=>.edl (setN (Q2 rs (qE R) z))
def Vp(e:qE R z=some n):wT rs R z=.num n:=by unfold wT;rw[e]
def z0(e:qE R z=none):wT rs R z=.edl (setN (Q2 rs (qE R) z)):=by unfold wT;rw[e]
def MR(good:qj rs)(L:Wa (Qh rs) (·∈rs.map (·.1)) (qE R) (JF R))(hz:z∈rs.map (·.1)):Y0 (wT rs R z):=by
 cases e:qE R z with
 | some n=>
  rw[Vp e];have:=XH good L hz e;show n < 16;omega
 | none=>
  rw[z0 e];show setN _ < 65536;refine setN_lt (m:=16) λx a=>?_;obtain⟨y,b,c⟩:=jI.mp a;have:=XH good L (L.cl hz b) c;omega
def Jr(ns:List Nat):xorAll ns=jS ns:=by
 induction ns with
 | nil=>rfl
 | cons n ns a=>rw[Yx,a,Zw]
def Yi:∀hs:List Str,JL (hs.map (wT rs R))=jR (qE R) hs
 | []=>rfl
 | z::hs=>by
  unfold JL jR;rw[tG,tZ,tZ];have a:=Yi (rs:=rs) (R:=R) hs;unfold JL jR at a;cases e:qE R z with
  | some n=>rw[Vp e,a]
  | none=>rw[z0 e,a]
def z9:∀hs:List Str,(QN (hs.map (wT rs R))).length=ends (qE R) hs
 | []=>rfl
 | z::hs=>by
  unfold QN ends;rw[tG,tZ,zbi];have a:=z9 (rs:=rs) (R:=R) hs;unfold QN ends at a;cases e:qE R z with
  | some n=>rw[Vp e];exact a
  | none=>rw[z0 e];show _+1=_+1;rw[a]
def xH(ex:qE R x=none)(b:ends (qE R) (p++q)=0):QN ((p++x::q).map (wT rs R))=[setN (Q2 rs (qE R) x)]:=by
 have a:QN ((p++q).map (wT rs R))=[]:=zao (by rw[z9];exact b);unfold QN at a ⊢;rw[tw,zab,List.append_eq_nil_iff]at a;rw[tw,tG,zab,tZ,z0 ex,a.1,a.2];rfl
def Yh(good:qj rs)(L:Wa (Qh rs) (·∈rs.map (·.1)) (qE R) (JF R)){hs:List Str}(p:∀z∈hs,z∈rs.map (·.1)):
  (YQ (mv (Q3 rs)) hs/\Z7 (Qv (hs.map (wT rs R)))="lost")\/(Won (mv (Q3 rs)) hs/\Z7 (Qv (hs.map (wT rs R)))="won")\/(¬YQ (mv (Q3 rs)) hs/\¬Won (mv (Q3 rs)) hs/\Z7 (Qv (hs.map (wT rs R)))="drawn"):=by
 have g:=Md good L;have l:=z9 (rs:=rs) (R:=R) hs;have u:xorAll (JL (hs.map (wT rs R)))=jS (jR (qE R) hs):=by rw[Yi,Jr]
 rw[Jg g p,Vo g p];rcases zan (ends (qE R) hs) 1 with c | c | c
 ·have i:ends (qE R) hs=0:=by omega
  rw[i]at l;have g:QN (hs.map (wT rs R))=[]:=zao l;have o:Qv (hs.map (wT rs R))=.num (jS (jR (qE R) hs)):=by unfold Qv;rw[g,<-u]
  have v:¬Drawn (Q3 rs) (qE R) hs:=by
   rintro(⟨g,x,q,rfl,j,_⟩ | h)
   ·rw[jd j]at i;omega
   ·omega
  rw[o];by_cases r:jS (jR (qE R) hs)=0
  ·exact .inl ⟨⟨i,r⟩,if_pos r⟩
  ·exact .inr (.inl ⟨⟨v,λz=>r z.2⟩,if_neg r⟩)
 ·obtain⟨g,x,q,rfl,j⟩:=QQ.mp (by omega:0 < ends (qE R) hs);rw[jd j]at c;have i:ends (qE R) (g++q)=0:=by omega
  have v:x∈rs.map (·.1):=p x (by simp);have lt:jS (jR (qE R) (g++x::q)) < 16:=by
   rw[<-Jr];refine zZ λn r=>?_;obtain⟨z,B,C⟩:=zas.mp r;have:=XH good L (p z B) C;omega
  have o:Qv ((g++x::q).map (wT rs R))=.edl (turnN (setN (Q2 rs (qE R) x)) (jS (jR (qE R) (g++x::q))) 16):=by
   unfold Qv;rw[xH j i,<-u]
  have p:¬Zero (qE R) (g++x::q):=λz=>by have:=z.1;rw[jd j]at this;omega
  have B:(turnN (setN (Q2 rs (qE R) x)) (jS (jR (qE R) (g++x::q))) 16).testBit 0=decide (jS (jR (qE R) (g++q))∈Q2 rs (qE R) x):=by
   rw[QZ lt,zcD,testBit_setN,Jf j];simp
  rw[o];by_cases m:jS (jR (qE R) (g++q))∈Q2 rs (qE R) x
  ·refine .inr (.inl ⟨⟨?_,p⟩,?_⟩)
   ·obtain⟨y,u,r⟩:=jI.mp m;have C:y∈Q3 rs x:=(q4 good v).mpr u;intro d;have D:Zero (qE R) (g++y::q):=⟨by rw[qV r];exact i,by rw[jV r,zbM]⟩;exact zd d ((jH _).mpr ⟨g,x,y,q,rfl,C,rfl⟩) D
   ·show (if _ then _ else _)=_;rw[B,if_pos (decide_eq_true m)]
  ·have d:Drawn (Q3 rs) (qE R) (g++x::q):=.inl ⟨g,x,q,rfl,j,i,λy u r=>m (jI.mpr ⟨y,(q4 good v).mp u,r⟩)⟩;refine .inr (.inr ⟨p,λh=>h.1 d,?_⟩);show (if _ then _ else _)=_;rw[B,decide_eq_false m];rfl
 ·have d:Drawn (Q3 rs) (qE R) hs:=.inr (by omega);have p:¬Zero (qE R) hs:=λz=>by have:=z.1;omega
  have o:Qv (hs.map (wT rs R))=.edl 0:=by
   unfold Qv;cases e:QN (hs.map (wT rs R)) with
   | nil=>rw[e]at l;simp at l;omega
   | cons a t=>
    cases t with
    | nil=>rw[e]at l;simp at l;omega
    | cons b t=>rfl
  rw[o];exact .inr (.inr ⟨p,λh=>h.1 d,rfl⟩)
inductive Ae(CN CE:Addr)(vs:List V)(H:Hp)(Q:VK):Prop
 | mk (t:Addr) (rs:jf) (R:Rs Str) (z:Str):vs=[.ref t]->H t=some (.tup (QO rs R z))->(Y0 (wT rs R z))->(∀a H',qi H H'->ZQ CN CE H' a (wT rs R z)->Q (.ref a) H')->Ae CN CE vs H Q
def Dq(CN CE:Addr):Sp:=λa H Q _=>Ae CN CE a H Q
inductive uy(CN CE:Addr)(vs:List V)(H:Hp)(Q:VK):Prop
 | mk (D h:Addr) (rs:jf) (R:Rs Str) (hs:List Str):vs=[.ref D,.ref h]->jq H D rs R->Qm H h rs hs->((∀z∈hs,Y0 (wT rs R z)))->(∀a H',qi H H'->ZQ CN CE H' a (Qv (hs.map (wT rs R)))->Q (.ref a) H')->uy CN CE vs H Q
def M5(CN CE:Addr):Sp:=λa H Q _=>uy CN CE a H Q
def FI:qh ["label"] ["label"] (qc DN):=jY
def D3(F:jE K "label_worth" "label_worth" DN f a)(h:WF K mg)(B:Qo mg)(T:Wk K mg):qp P w K mg base qN 5 f a ["label"] (Dq h.CN h.CE):=by
 refine F.okK FI λH Q E hr z=>?_;obtain⟨t,b,R,z,rfl,a,ok,q⟩:=z;refine⟨_,qb (qF (qo jl (qB qJ (jv 0) qe) qy) (qd (qm (J4 h.cN.mkr (h.gNI B T) hr (by rfl) h.cN.ns h.cN.bi .nil Jd (qU (qB qJ (jv 0) qe))))) qr)
  (qd (qm (J4 h.cE.mkr (h.gEI B T) hr (by rfl) h.cE.ns h.cE.bi .nil Jd (qU (qB qJ (jv 0) qe))))),?_⟩
 cases e:qE R z with
 | some n=>
  rw[Vp e]at ok q;have c:QO b R z=[.str "number",.int (n:Nat),.int (JF R z:Nat)]:=by unfold QO;rw[e]
  rw[c]at a;refine⟨_,rfl,t,_,0,_,rfl,rfl,.of a,rfl,rfl,_,rfl,qW (by decide+kernel) ?_⟩;refine⟨_,rfl,t,_,1,_,rfl,rfl,.of a,rfl,λx d g hd i=>⟨x,d,_,rfl,by omega,?_,qa,rfl,?_⟩⟩
  ·have:n < 16:=ok;omega
  ·obtain⟨j,l⟩:=VH (CN:=h.CN) (CE:=h.CE) (n:=n) g hd i;exact q _ _ j l
 | none=>
  rw[z0 e]at ok q;have c:QO b R z=[.str "endless",.int (setN (Q2 b (qE R) z):Nat)]:=by unfold QO;rw[e]
  rw[c]at a;refine⟨_,rfl,t,_,0,_,rfl,rfl,.of a,rfl,rfl,_,rfl,qO (by decide+kernel) ?_⟩;refine⟨_,rfl,t,_,1,_,rfl,rfl,.of a,rfl,λx d g hd i=>⟨x,d,_,rfl,by omega,?_,qa,rfl,?_⟩⟩
  ·have:setN (Q2 b (qE R) z) < 65536:=ok;omega
  ·obtain⟨j,l⟩:=VI (CN:=h.CN) (CE:=h.CE) (b:=setN (Q2 b (qE R) z)) g hd i;exact q _ _ j l
def Dy:qh ["labels","heap"] ["labels","heap"] (qc u7):=jY
def KD(F:jE K "worth_by" "worth_by" u7 f d)(h:WF K mg)(B:Qo mg)(T:Wk K mg)(c:qH K mg "label_worth" DN ["label"] j l)(g:qH K mg "sum_of" Xq ["worths"] m o):qp P w K mg base qN 8 f d ["labels","heap"] (M5 h.CN h.CE):=by
 have o:=pin P w mg base (D3 c.fn h B T);have p:=pin P w mg base (KE g.fn h B T);refine F.okK Dy λH Q E hr z=>?_;obtain⟨D,m,d,R,j,rfl,v,l,ok,q⟩:=z;have hu:=hu_of hr;refine⟨_,qd (qm (qv g p (qU (j8 (N':=["place","labels"]) (ix:=[none,some 0]) (te:=Zg (Dq h.CN h.CE) [] E0 (qS (zm (qY 1) (qY 0)) Qw)) (qC (jv 1)) (λ_ _ _ fp _=>
   ⟨qG 0,jJ,qv c o (qU (q5 (jv 1) (jv 0)))⟩))))),?_⟩
 refine⟨_,rfl,m,rfl,⟨_,.of l.at_⟩,λW x=>?_⟩;refine jC (K:=K) (a:=m) (xs:=j.map V.str) (λg m G=>∃(v0:Option V) (as:List Addr),m=[v0,some (.ref D)]/\qi H G/\G W=some (.lst (as.map V.ref))/\Wl h.CN h.CE G as ((j.take g).map (wT d R)))
  ⟨none,[],rfl,qf x,qa,rfl,λi a u e=>(nomatch e)⟩ (λg m G _ ⟨_,_,_,s,_⟩=>.of (s _ _ l.at_)) ?_ ?_
 ·rintro g y m G C ⟨v0,as,rfl,o,p,c⟩;obtain⟨z,L,r,rfl⟩:=Qf C;obtain⟨_,O,_,U⟩:=(v.mono o).at_;obtain⟨C,Y,er⟩:=l.in_ z r;obtain⟨t,v,J⟩:=U C Y;rw[er]at v J;refine⟨_,rfl,_,rfl,D,_,rfl,by rw[<-v];exact j0.k (k:=(Sum.inr z:qT)) O,t,d,R,z,rfl,J,ok z r,λa J v O=>?_⟩;have U:=l.le;have l:=c.1;rw[ta,tJ]at l;have l:H W=none:=x;refine⟨_,v _ _ p,by rw[ta];exact ql (by omega),_,as++[a],rfl,qi.upd (o.trans v) x,by rw[tw];exact qa,?_⟩;have up:∀{b:Addr} {u:Rb.W},ZQ h.CN h.CE J b u->ZQ h.CN h.CE (upd J W (.lst (as.map V.ref++[V.ref a]))) b u:=λ{b u} x=>by
   have J:=v _ _ p;cases u with
   | num n=>obtain⟨l,e⟩:=x;exact⟨l,by rw[qg (λq=>by rw[q,J]at e;cases e)];exact e⟩
   | edl n=>obtain⟨l,e⟩:=x;exact⟨l,by rw[qg (λq=>by rw[q,J]at e;cases e)];exact e⟩
  rw[tM,L,tw];refine⟨by rw[tm,tm,c.1];rfl,λi b u x l=>?_⟩;rcases Q1 x with ⟨J,x⟩ | ⟨J,rfl⟩
  ·rcases Q1 (show (zdQ (wT d R) (j.take g)++[wT d R z])[i]?=some u from l) with ⟨_,l⟩ | ⟨J,_⟩
   ·exact up ((c.2 i b u x l).same v)
   ·have:=c.1;omega
  ·rcases Q1 (show (zdQ (wT d R) (j.take g)++[wT d R z])[i]?=some u from l) with ⟨J,_⟩ | ⟨_,rfl⟩
   ·have:=c.1;omega
   ·exact up O
 ·rintro m G ⟨v0,as,rfl,o,p,c⟩;rw[ta,tu (tc _)]at c;refine⟨W,as,_,rfl,.of p,c,λu hu=>?_,λc C d g=>q C c (o.trans d) g⟩;obtain⟨z,r,rfl⟩:=tl.mp hu;exact ok z r
structure wU(K:zdU)(mg:Str->Option Value):Prop where
 place:∃f fd,qH K mg "need_place" Ye CP f fd
 heap:∃f fd,qH K mg "need_heap" QA ["ground","heap"] f fd
 lw:∃f fd,qH K mg "label_worth" DN ["label"] f fd
 sum:∃f fd,qH K mg "sum_of" Xq ["worths"] f fd
 wby:∃f fd,qH K mg "worth_by" u7 ["labels","heap"] f fd
 most:∃t,mg "MOST_TOKENS"=some (.int 8 t)
open PySem L2 MLab Rb
open PyProof.Rows hiding K lo
abbrev Qa:Stmt:=top 38
abbrev ZU:Stmt:=top 41
abbrev xK:Stmt:=top 64
abbrev yB:Stmt:=top 65
def E7(rs:jf)(j:Nat)(z:Str):List (Nat×Str):=(Qh rs z).map λe=>(j,e)
def jO(rs:jf)(hs:List Str)(n:Nat):List (Nat×Str):=(t8 n).flatMap λa=>E7 rs a (QY hs a)
def U8(rs:jf)(hs:List Str)(n:Nat):jO rs hs (n+1)=jO rs hs n++E7 rs n (QY hs n):=by
 unfold jO;rw[zcz,List.flatMap_append];simp
def Wm(m:Nat×Str):List V:=[.int (m.1:Int),.str m.2]
def jM(H:Hp)(ps:List Addr)(ms:List (Nat×Str)):Prop:=ps.length=ms.length/\∀(i:Nat) (a:Addr) (m:Nat×Str),ps[i]?=some a->ms[i]?=some m->H a=some (.tup (Wm m))
def jM.mono(h:jM H ps ms)(s:qi H a):jM a ps ms:=⟨h.1,λi a m b c=>s _ _ (h.2 i a m b c)⟩
def jM.nil(H:Hp):jM H [] []:=⟨rfl,λi _ m e=>by simp at e⟩
def jM.app(h:jM H ps ms)(k:jM H a ns):jM H (ps++a) (ms++ns):=by
 refine⟨by rw[tm,tm,h.1,k.1],λi d m a b=>?_⟩;by_cases c:i < ps.length
 ·rw[tV c]at a;rw[tV (by rw[<-h.1];exact c)]at b;exact h.2 i d m a b
 ·have e:ps.length<=i:=Nat.le_of_not_lt c;rw[tP e]at a;rw[tP (by rw[<-h.1];exact e),<-h.1]at b;exact k.2 _ d m a b
def jM.one{H:Hp}(h:H p=some (.tup (Wm m))):jM H [p] [m]:=by
 refine⟨rfl,λi _ _ a b=>?_⟩;cases i with
 | zero=>cases a;cases b;exact h
 | succ i=>simp at a
def zE{hs:List Str}(g:qj rs)(le:rs.length<=14)(a:∀z∈hs,∃r∈rs,r.1=z):∀n,n<=hs.length->(jO rs hs n).length<=n*14
 | 0,_=>tc _
 | n+1,h=>by
  rw[U8,tm];have b:=zE g le a n (t6 h);obtain⟨r,hr,e⟩:=a _ (Zv h);have a:=Xc (rs:=rs) (QY hs n);unfold E7;rw[ta];omega
def W8(g:qj rs)(h:∃r∈rs,r.1=z):ja z=true:=by
 obtain⟨r,hr,rfl⟩:=h;exact g.nm r hr
inductive UF(CG:Addr)(vs:List V)(H:Hp)(Q:VK):Prop
 | mk (g h:Addr) (rs:jf) (hs:List Str):vs=[.ref g,.ref h]->jZ CG H g rs->qj rs->(rs.length<=14)->Qm H h rs hs->(∀H' l ps,qi H H'->H l=none->H' l=some (.lst (ps.map V.ref))->jM H' ps (jO rs hs hs.length)->Q (.ref l) H')->UF CG vs H Q
def JQ(a:Addr):Sp:=λb H Q _=>UF a b H Q
def mD(m:Nat×Str):PyData:=.tuple [.int (m.1:Int),.str m.2]
def jM.tail(h:jM H (p::ps) (m::ms)):jM H ps ms:=⟨zdb.inj h.1,λi a b c d=>h.2 (i+1) a b (by simpa using c) (by simpa using d)⟩
def Rv{H:Hp}(h:H p=some (.tup (Wm m))):DV K H (.ref p) (mD m):=.tup (.of h) (.cons (.int _) (.cons (.str _) .nil))
def kI:∀{ps:List Addr} {ms:List (Nat×Str)},jM H ps ms->DVs K H (ps.map V.ref) (ms.map mD)
 | [],[],_=>.nil
 | [],_::_,h=>by cases h.1
 | _::_,[],h=>by cases h.1
 | a::ps,m::ms,h=>.cons (Rv (h.2 0 a m rfl rfl)) (kI h.tail)
def kC:∀{ms:List (Nat×Str)},(∀m∈ms,ja m.2=true)->PyData.canLayAll0 (ms.map mD)=true
 | [],_=>rfl
 | m::ms,h=>by
  rw[tG,PyData.canLayAll0,kC λy a=>h y (tA _ a),zdC];show (true&&(PyData.strOk m.2&&true))=true;rw[Y5 (h m tE)];rfl
def QH(h:m∈jO rs hs n):m.1 < n/\m.2∈Qh rs (QY hs m.1):=by
 unfold jO at h;obtain⟨_,a,b⟩:=zcu.mp h;obtain⟨e,c,rfl⟩:=tl.mp b;exact⟨zaM.mp a,c⟩
def XL{hs:List Str}(g:qj rs)(b:∀z∈hs,∃r∈rs,r.1=z):∀m∈jO rs hs hs.length,ja m.2=true:=λm c=>by
 obtain⟨d,a⟩:=QH c;obtain⟨r,hr,e⟩:=b _ (Zv d);rw[<-e,Qu g.nd hr]at a;exact W8 g (zx a)
inductive yk(vs:List V)(H:Hp)(Q:VK):Prop
 | mk (h p:Addr) (hs:List Str) (m:Nat×Str):vs=[.ref h,.ref p]->H h=some (.lst (hs.map V.str))->H p=some (.tup (Wm m))->(m.1 < hs.length)->(∀l,H l=none->Q (.ref l) (upd H l (.lst ((hs.set m.1 m.2).map V.str))))->yk vs H Q
def Vs:Sp:=λa H Q _=>yk a H Q
def atI_get{xs:List V}{r:Int}(a:0<=r)(b:r < (xs.length:Int)):∃v,Wo xs r=some v/\xs[r.toNat]?=some v:=by
 have:r.toNat < xs.length:=by omega
 refine⟨xs[r.toNat],?_,th this⟩;unfold Wo Gv;rw[if_pos a,if_pos b];exact th this
def QG.fr'(h:QG H l ps rs)(hd:H d=some (.dK g))(s:Fr H d c):QG c l ps rs:=by
 refine⟨s _ _ h.at_ (λe=>?_),⟨h.rows.1,λi c g j m=>?_⟩,h.good,h.pos,h.le⟩
 ·have:=h.at_;rw[e,hd]at this;cases this
 ·obtain⟨q,a,b⟩:=h.rows.2 i c g j m;exact⟨q,s _ _ a (λe=>by rw[e,hd]at a;cases a),s _ _ b (λe=>by rw[e,hd]at b;cases b)⟩
abbrev nMo:List Str:=["ground","heap","moves","token","place"]
def FF:qh nMo ["ground","heap"] (qc Qa):=jY
def XD(F:jE K "moves_of" "moves_of" Qa f c)(B:Qo mg)(G:j3 mg)(T:Qb K mg)(M:GM K mg d)(g:qH K mg "need_place" Ye CP j l)(mt:∃t,mg "MOST_TOKENS"=some (.int 8 t))(o:qH K mg "need_heap" QA ["ground","heap"] p r):qp P w K mg base qN 4 f c ["ground","heap"] (JQ d):=by
 obtain⟨_,_,d⟩:=M.cls;obtain⟨_,_,p⟩:=M.fr;obtain⟨_,_,c⟩:=M.isn;have GH:=pin P w mg base (U5 o.fn B G T M g mt);have C:=pin P w mg base (Je p.fn d B G T c);refine F.okK FF @λJ A _ s _ _ H Q E hr h=>?_;obtain⟨j,g,c,l,rfl,r,gd,le,v,q⟩:=h;have L:je 2 (A.deeper (envOfC "moves_of" (qc Qa) s.heap.objs.size f J)):=hr.mono (by decide);refine⟨_,qb (ji (qv o GH (jr (jv 0) (jv 1))))
  (qb (qx 2 (j5 Qk))
  (qb (jc (zJ (by rfl) T.enu (qU (jv 1))) (Zn rfl (jw (qG 3) (jw (qG 4) Jt)))
   (qd (ji (QP zaj zcX zcY WZ (jv 2) (jt
    (j8 (N':=["end","token"]) (ix:=[none,some 3]) (te:=ug (qS (qY 1) (qS (qY 0) Qw))) (qC (YE p d.cl C L (jv 0) (qU (jv 4)))) (λd p L fp _=>
     ⟨qG 0,jJ,jW (jr (jv 1) (jv 0))⟩)) Qk)))))
  (qd (qm (jv 2))))),?_⟩
 refine⟨_,rfl,_,rfl,j,g,c,l,rfl,r,v,λo J=>?_⟩;refine⟨Ze,λd C=>?_⟩;have ag:H d=none:=by
  cases z:H d with
  | none=>rfl
  | some u=>rw[J _ _ z]at C;cases C
 have p:qi H (upd o d (.lst [])):=J.trans (qf C);have C:upd o d (.lst []) d=some (.lst []):=qa;generalize upd o d (.lst [])=L at p C;refine⟨_,rfl,g,rfl,⟨_,.of (p _ _ v.at_)⟩,?_⟩;refine Zp (K:=K) (a:=g) (xs:=l.map V.str) (λi O G=>∃v3 v4 o,O=[some (.ref j),some (.ref g),some (.ref d),v3,v4]/\qi H G/\G d=some (.lst (o.map V.ref))/\jM G o (jO c l i))
  ⟨_,_,[],rfl,p,C,jM.nil _⟩ (λi O G _ ⟨_,_,_,_,s,_⟩=>.of (s _ _ v.at_)) ?_ ?_
 ·rintro i y O G p L C ⟨v3,v4,o,rfl,sG,ac,mv⟩;obtain⟨z,g,J,rfl⟩:=Qf L;have hi:=(td.mp g).1;have ai:QY l i=z:=by
   have:=zg hi;rw[g]at this;exact(tz.inj this).symm
  refine⟨p,_,rfl,.of qa,rfl,_,_,rfl,_,_,rfl,rfl,?_⟩;have g:qi G (upd G p (.tup [.int (i:Nat),.str z])):=qf C;have U:=sG.trans g;have ae:=g _ _ ac;have ah:=mv.mono g;generalize upd G p (.tup [.int (i:Nat),.str z])=l at g U ae ah;obtain⟨g,af,er⟩:=v.in_ z J;obtain⟨p,fs,C,_,J⟩:=(r.mono U).ins;refine⟨_,rfl,.inl ⟨rfl,_,.of ae⟩,_,rfl,j,p,fs,rfl,C,J,_,rfl,j,c,g,by rw[er];rfl,r.mono U,af,gd.nm g af,λj e p r=>?_⟩;have Y:qi l (upd j e (.lst ((qP c g).map V.str))):=p.trans (qf r);have l:upd j e (.lst ((qP c g).map V.str)) e=some (.lst ((qP c g).map V.str)):=qa;generalize upd j e (.lst ((qP c g).map V.str))=r at Y l;refine⟨e,rfl,⟨_,.of l⟩,λD hD=>?_⟩;refine jC (K:=K) (a:=e) (xs:=(qP c g).map V.str) (λaa ab j=>∃v0 p,ab=[v0,some (.int (i:Nat))]/\qi r j/\j D=some (.lst (p.map V.ref))/\jM j p (((qP c g).take aa).map λy=>(i,y)))
   ⟨none,[],rfl,qf hD,qa,jM.nil _⟩ (λaa ab j _ ⟨_,_,_,s,_⟩=>.of (s _ _ l)) ?_ ?_
  ·rintro aa y ab j L ⟨v0,p,rfl,C,J,r⟩;obtain⟨x,ex,_,rfl⟩:=Qf L;have l:=(td.mp ex).1;refine⟨_,rfl,_,rfl,Ze,λt L=>⟨_,qk J L,?_,_,p++[t],rfl,?_,?_,?_⟩⟩
   ·rw[ta,r.1,ta,tJ];have:=Zi (rs:=c) g;exact ql (by omega)
   ·exact qi.upd (C.trans (qf L)) hD
   ·rw[qa,tw];rfl
   ·have nt:t≠D:=λz=>by rw[z,J]at L;cases L
    have e1:jM (upd (upd j t (.tup [.int (i:Nat),.str x])) D (.lst (p.map V.ref++[.ref t]))) p (((qP c g).take aa).map λy=>(i,y)):=⟨r.1,λk l m a b=>by
     have z:=r.2 k l m a b;have n1:l≠D:=λe=>by rw[e,J]at z;cases z
     rw[qg n1];exact qk z L⟩
    rw[tM,ex,tw];exact e1.app (jM.one (by rw[qg nt];exact qa))
  ·rintro ab j ⟨v0,p,rfl,C,J,r⟩;rw[ta,tu (tc _)]at r;have aj:qi H j:=(U.trans Y).trans C;have U:=C _ _ (Y _ _ ae);have L:=(ah.mono Y).mono C;have C:=zE gd le v.in_ i (t6 hi);have C:=v.le;have v:=Zi (rs:=c) g;refine⟨d,D,_,_,rfl,rfl,U,J,?_,?_⟩
   ·rw[ta,ta,L.1,r.1,ta];exact t6 (ql (by omega))
   ·refine⟨_,_,o++p,rfl,qi.upd aj ag,by rw[qa,tw],?_⟩;rw[U8,ai,E7,<-er,Qu gd.nd af];have ne:∀{l:Addr} {m:Nat×Str},j l=some (.tup (Wm m))->l≠d:=λh e=>by rw[e,U]at h;cases h
    have up:∀{o:List Addr} {c:List (Nat×Str)},jM j o c->jM (upd j d (.lst (zdQ V.ref o++zdQ V.ref p))) o c:=λh=>⟨h.1,λk l m a b=>by
     have z:=h.2 k l m a b;rw[qg (ne z)];exact z⟩
    refine jM.app ?_ ?_
    ·exact⟨L.1,λk l m a b=>by
      have z:=L.2 k l m a b;rw[qg (ne z)];exact z⟩
    ·exact⟨r.1,λk l m a b=>by
      have z:=r.2 k l m a b;rw[qg (ne z)];exact z⟩
 ·rintro O G ⟨v3,v4,o,rfl,sG,ac,mv⟩;rw[ta]at mv;exact⟨_,rfl,q G d o sG ag ac mv⟩
abbrev nLy:List Str:=["heap","move","left"]
def FG:qh nLy ["heap","move"] (qc ZU):=jY
def YZ(F:jE K "left_by" "left_by" ZU f a)(G:j3 mg):qp P w K mg base qN 1 f a ["heap","move"] Vs:=by
 refine F.okK FG λH Q E hr h=>?_;obtain⟨a,b,c,m,rfl,g,d,_,q⟩:=h;refine⟨_,qb (qx 2 (jo jp (by rfl) G.lst boot_list (qU (jv 0))))
  (qb (kr (qB qJ (jv 1) qe) (Gh (jv 2) (qB qJ (jv 1) qe) UQ))
  (qd (qm (jv 2)))),?_⟩
 refine⟨_,rfl,a,_,rfl,.inl (.of g),λg a=>?_⟩;refine⟨_,rfl,b,_,1,_,rfl,rfl,.of (qk d a),rfl,_,rfl,_,rfl,b,_,0,_,rfl,rfl,.of (qk d a),rfl,g,_,(m.1:Int),m.1,rfl,rfl,qa,?_,_,rfl,?_⟩
 ·unfold Gv;rw[if_pos (by omega),if_pos (by rw[ta];omega)];rfl
 ·have e:(c.map V.str).set m.1 (.str m.2)=(c.set m.1 m.2).map V.str:=by rw[List.map_set]
  rw[jx,e];exact q g a
def lf(hs:List Str)(m:Nat×Str):List Str:=hs.set m.1 m.2
def YP(H:Hp)(b:List Addr)(os:List ((Nat×Str)×Str)):Prop:=b.length=os.length/\∀(i:Nat) (t:Addr) (a:(Nat×Str)×Str),b[i]?=some t->os[i]?=some a->∃b,H t=some (.tup [.ref b,.str a.2])/\H b=some (.tup (Wm a.1))
def YP.tk{H c:Hp}{d:List Addr}{os:List ((Nat×Str)×Str)}(h:YP H d os)(k:TK H c):YP c d os:=⟨h.1,λi t c d e=>let ⟨g,a,b⟩:=h.2 i t c d e;⟨g,k _ _ a,k _ _ b⟩⟩
def YP.nil:YP H [] []:=⟨rfl,λi t _ e=>(nomatch e)⟩
def YP.snoc{H:Hp}{a:List Addr}{os:List ((Nat×Str)×Str)}{t p:Addr}{o:(Nat×Str)×Str}(h:YP H a os)(c:H t=some (.tup [.ref p,.str o.2]))(d:H p=some (.tup (Wm o.1))):YP H (a++[t]) (os++[o]):=by
 refine⟨by rw[tm,tm,h.1];rfl,λi e g b a=>?_⟩;rcases Q1 b with ⟨j,b⟩ | ⟨j,rfl⟩
 ·rcases Q1 a with ⟨_,a⟩ | ⟨j,_⟩
  ·exact h.2 i e g b a
  ·have:=h.1;omega
 ·rcases Q1 a with ⟨j,_⟩ | ⟨_,rfl⟩
  ·have:=h.1;omega
  ·exact⟨p,c,d⟩
def J9(g:qj rs){hs:List Str}(a:∀z∈hs,∃r∈rs,r.1=z)(c:m∈jO rs hs hs.length):∀z∈lf hs m,∃r∈rs,r.1=z:=λz b=>by
 obtain⟨d,i⟩:=QH c;obtain⟨r,hr,e⟩:=a _ (Zv d);unfold lf at b;rcases List.mem_or_eq_of_mem_set b with h | h
 ·exact a z h
 ·rw[h];exact tl.mp (jX g.nd _ (tl.mpr ⟨r,hr,e⟩) _ i)
def VE(rs:jf)(R:Rs Str)(hs:List Str):List ((Nat×Str)×Str):=(jO rs hs hs.length).map λm=>(m,Z7 (Qv ((lf hs m).map (wT rs R))))
inductive uK(vs:List V)(H:Hp)(Q:VK):Prop
 | mk (D h:Addr) (rs:jf) (R:Rs Str) (hs:List Str):vs=[.ref D,.ref h]->jq H D rs R->Qm H h rs hs->((∀z∈hs,Y0 (wT rs R z)))->(∀H',qi H H'->Q (.str (Z7 (Qv (hs.map (wT rs R))))) H')->uK vs H Q
def yh:Sp:=λa H Q _=>uK a H Q
inductive yg(CG:Addr)(vs:List V)(H:Hp)(Q:VK):Prop
 | mk (g D h:Addr) (rs:jf) (R:Rs Str) (hs:List Str):vs=[.ref g,.ref D,.ref h]->jZ CG H g rs->qj rs->(rs.length<=14)->jq H D rs R->(Wa (Qh rs) (·∈rs.map (·.1)) (qE R) (JF R))->Qm H h rs hs->(∀H' L ts,qi H H'->H L=none->H' L=some (.lst (ts.map V.ref))->YP H' ts (VE rs R hs)->Q (.ref L) H')->yg CG vs H Q
def A5(a:Addr):Sp:=λb H Q _=>yg a b H Q
structure Ru(K:zdU)(mg:Str->Option Value):Prop where
 mo:∃f fd,qH K mg "moves_of" Qa ["ground","heap"] f fd
 lb:∃f fd,qH K mg "left_by" ZU ["heap","move"] f fd
 oby:∃f fd,qH K mg "outcome_by" xK ["labels","heap"] f fd
 osby:∃f fd,qH K mg "outcomes_by" yB ["ground","labels","heap"] f fd
def DD:qh ["labels","heap"] ["labels","heap"] (qc xK):=jY
def KM(F:jE K "outcome_by" "outcome_by" xK f b)(h:WF K mg)(B:Qo mg)(Z:Wk K mg)(O:wU K mg):qp P w K mg base qN 9 f b ["labels","heap"] yh:=by
 obtain⟨_,_,c⟩:=O.lw;obtain⟨_,_,d⟩:=O.sum;obtain⟨_,_,b⟩:=O.wby;have e:=pin P w mg base (KD b.fn h B Z c d);refine F.okK DD λH Q E hr z=>?_;obtain⟨D,c,d,R,g,rfl,i,j,ok,q⟩:=z;refine⟨_,qd (qm (yW h B (hr.mono (by decide)) (qv b e (jr (jv 0) (jv 1))))),?_⟩;refine⟨_,rfl,_,rfl,D,c,d,R,g,rfl,i,j,ok,λa _ b c=>⟨a,_,rfl,c,?_,λc d=>q c (b.trans d)⟩⟩;refine vH λu hu=>?_;obtain⟨z,b,rfl⟩:=tl.mp hu;exact ok z b
def Bj:qh ["ground","labels","heap"] ["ground","labels","heap"] (qc yB):=jY
def NT(F:jE K "outcomes_by" "outcomes_by" yB f b)(h:WF K mg)(B:Qo mg)(Z:Wk K mg)(G:j3 mg)(T:Qb K mg)(M:GM K mg c)(O:wU K mg)(a:Ru K mg):qp P w K mg base qN 10 f b ["ground","labels","heap"] (A5 c):=by
 obtain⟨_,_,b⟩:=O.place;obtain⟨_,_,i⟩:=O.heap;obtain⟨_,_,c⟩:=a.mo;obtain⟨_,_,d⟩:=a.lb;obtain⟨_,_,g⟩:=a.oby;have GM:=pin P w mg base (XD c.fn B G T M b O.most i);have j:=pin P w mg base (YZ d.fn G);have l:=pin P w mg base (KM g.fn h B Z O);refine F.okK Bj λH Q E hr z=>?_;obtain⟨o,D,u,b,R,a,rfl,p,good,le,lb,L,i,q⟩:=z;refine⟨_,qd (qm (j8 (N':=["move","labels","heap"]) (ix:=[none,some 1,some 2])
   (te:=ug (qS (qY 0) (qS (Zg yh [] E0 (qS (qY 1) (qS (Zg Vs [] E0 (qS (qY 2) (qS (qY 0) Qw))) Qw))) Qw))) (qC (qv c GM (jr (jv 0) (jv 2)))) (λ_ _ _ fp _=>
   ⟨qG 0,jJ,
    jW (jr (jv 0) (qv g l (jr (jv 1) (qv d j (jr (jv 2) (jv 0))))))⟩))),?_⟩
 refine⟨_,rfl,_,rfl,o,u,b,a,rfl,p,good,le,i,λl c v x _ j mv=>⟨c,rfl,⟨_,.of j⟩,λW C=>?_⟩⟩;have l8:=i.le;have d:(jO b a a.length).length<=112:=by
  have:=zE good le i.in_ a.length (tc _);omega
 have ab:=mv.1;refine jC (K:=K) (a:=c) (xs:=v.map V.ref) (λd o c=>∃(v0:Option V) (g:List Addr),o=[v0,some (.ref D),some (.ref u)]/\qi l c/\c W=some (.lst (g.map V.ref))/\YP c g ((VE b R a).take d))
  ⟨none,[],rfl,qf C,qa,.nil⟩ (λd o c _ ⟨_,_,_,s,_⟩=>.of (s _ _ j)) ?_ ?_
 ·rintro d y o c j ⟨v0,g,rfl,l,J,os⟩;rw[tp]at j;cases p:v[d]? with
  | none=>rw[p]at j;cases j
  | some r=>
   rw[p]at j;obtain rfl:=(tz.inj j).symm;have j:=(td.mp p).1;have j:d < (jO b a a.length).length:=by omega
   have em:(jO b a a.length)[d]?=some (jO b a a.length)[d]:=th j;have U:=zbj j;generalize (jO b a a.length)[d]=m at em U;have Y:=l _ _ (mv.2 d r m p em);have sA:=x.trans l;refine⟨_,rfl,_,rfl,_,rfl,_,rfl,u,r,a,m,rfl,sA _ _ i.at_,Y,(QH U).1,λj u=>?_⟩;have p:qi c (upd c j (.lst ((a.set m.1 m.2).map V.str))):=qf u;have u:upd c j (.lst ((a.set m.1 m.2).map V.str)) j=some (.lst ((lf a m).map V.str)):=qa;generalize upd c j (.lst ((a.set m.1 m.2).map V.str))=G2 at p u;have aa:=J9 good i.in_ U;refine⟨D,j,b,R,lf a m,rfl,(lb.mono sA).mono p,⟨u,by unfold lf;rw[zby];exact l8,aa⟩,λz i=>?_,λu U=>?_⟩
   ·obtain⟨j,ac,e⟩:=aa z i;exact MR good L (tl.mpr ⟨j,ac,e⟩)
   ·refine⟨Ze,λt i=>?_⟩;have j:qi c u:=p.trans U;have p:(VE b R a)[d]?=some (m,Z7 (Qv ((lf a m).map (wT b R)))):=by unfold VE;rw[tp,em];rfl
    have d:=os.1;rw[tJ]at d;have d:upd u t (.tup [V.ref r,.str (Z7 (Qv ((lf a m).map (wT b R))))]) W=some (.lst (g.map V.ref)):=qk (j _ _ J) i;refine⟨_,d,by rw[ta];exact ql (by omega),_,g++[t],rfl,qi.upd (l.trans (j.trans (qf i))) C,by rw[tw];exact qa,?_⟩;rw[tM,p];refine((os.tk (.of (j.trans (qf i)))).snoc (t:=t) (p:=r) (o:=(m,Z7 (Qv ((lf a m).map (wT b R))))) qa (qk (j _ _ Y) i)).tk ?_;exact TK.upd d λ_=>by simp
 ·rintro o c ⟨v0,g,rfl,l,J,os⟩;have d:(v.map V.ref).length=(VE b R a).length:=by unfold VE;rw[ta,ta,ab]
  rw[d,tu (tc _)]at os;exact q c W g (x.trans l) (jU x C) J os
open PySem L2 MLab
open PyProof.Rows hiding K lo
open PySem L2 MLab Rb
open PyProof.Rows hiding K lo
abbrev Xp:Stmt:=top 69
abbrev Zh:Stmt:=top 70
abbrev Jc:Stmt:=top 71
def K7{hs:List Str}(h:j < hs.length)(y:Str):hs.take j++[y]++hs.drop (j+1)=lf hs (j,y):=by
 unfold lf;rw[List.set_eq_take_append_cons_drop,if_pos h];simp
def vd(g:qj rs){hs:List Str}(c:∀z∈hs,∃r∈rs,r.1=z):b∈mv (Q3 rs) hs↔∃m∈jO rs hs hs.length,b=lf hs m:=by
 rw[jH];constructor
 ·rintro⟨a,x,y,q,rfl,d,rfl⟩;have i:x∈rs.map (·.1):=by
   obtain⟨r,hr,e⟩:=c x (by simp);exact tl.mpr ⟨r,hr,e⟩
  have j:QY (a++x::q) a.length=x:=by unfold QY;simp
  refine⟨(a.length,y),zcu.mpr ⟨a.length,zaM.mpr (by simp),tl.mpr ⟨y,by rw[j];exact(q4 g i).mp d,rfl⟩⟩,?_⟩;unfold lf;simp
 ·rintro⟨m,d,rfl⟩;obtain⟨a,i⟩:=QH d;have d:QY hs m.1∈rs.map (·.1):=by
   obtain⟨r,hr,e⟩:=c _ (Zv a);exact tl.mpr ⟨r,hr,e⟩
  refine⟨hs.take m.1,QY hs m.1,m.2,hs.drop (m.1+1),?_,(q4 g d).mpr i,?_⟩
  ·have:=zg a;obtain⟨_,c⟩:=td.mp this;rw[<-c];simp
  ·rw[<-K7 a];simp
abbrev Qp(rs:jf)(R:Rs Str):Prop:=All (Qh rs) (rs.map (·.1)) 0 [] R
def oW(rs:jf)(R:Rs Str)(hs:List Str):Str:=Z7 (Qv (hs.map (wT rs R)))
def zf(R:Rs Str)(hs:List Str):Nat:=(hs.map (JF R)).sum
def Jp(rs:jf)(R:Rs Str)(hs:List Str):List (Nat×Str):=(jO rs hs hs.length).filter λm=>decide (oW rs R (lf hs m)=zdV "lost")
def Qz(rs:jf)(R:Rs Str)(hs:List Str)(m:Nat×Str):Prop:=∃i:Nat,(Jp rs R hs)[i]?=some m/\∀(b:Nat) (a:Nat×Str),(Jp rs R hs)[b]?=some a->zf R (lf hs m)<=zf R (lf hs a)/\(b < i->zf R (lf hs m) < zf R (lf hs a))
def Qz.uniq(h:Qz rs R hs m)(k:Qz rs R hs a):m=a:=by
 obtain⟨i,e,b⟩:=h;obtain⟨d,g,j⟩:=k;rcases zan i d with c | c | c
 ·have l:=(j i m e).2 c;have o:=(b d a g).1;omega
 ·rw[c,g]at e;exact(tz.inj e).symm
 ·have l:=(b d a g).2 c;have o:=(j i m e).1;omega
def Qz.mem(h:Qz rs R hs m):m∈jO rs hs hs.length/\oW rs R (lf hs m)=zdV "lost":=by
 obtain⟨i,e,_⟩:=h;have:=tO.mp (tL e);exact⟨this.1,of_decide_eq_true this.2⟩
def y6(b:Nat):Z7 (.edl b)≠zdV "lost":=by
 show (if b.testBit 0=true then (zdV "won") else zdV "drawn")≠_;split<;>decide+kernel
def XG(h:oW rs R hs=zdV "lost"):∀z∈hs,∃n,qE R z=some n:=λz d=>by
 cases e:qE R z with
 | some n=>exact⟨n,rfl⟩
 | none=>
  exfalso;have a:setN (Q2 rs (qE R) z)∈QN (hs.map (wT rs R)):=by
   unfold QN;exact zas.mpr ⟨.edl _,tl.mpr ⟨z,d,z0 e⟩,rfl⟩
  unfold oW Qv at h;cases c:QN (hs.map (wT rs R)) with
  | nil=>rw[c]at a;cases a
  | cons b a=>
   rw[c]at h;cases a with
   | nil=>exact y6 _ h
   | cons d a=>exact y6 _ h
def vD(good:qj rs)(all:Qp rs R){hs:List Str}(a:∀z∈hs,∃r∈rs,r.1=z)(h:oW rs R hs=zdV "won"):0 < (Jp rs R hs).length:=by
 have L:=Ym (jX good.nd) all;have c:∀{b:List Str},(∀z∈b,∃r∈rs,r.1=z)->∀z∈b,z∈rs.map (·.1):=λh z d=>let ⟨r,hr,e⟩:=h z d;tl.mpr ⟨r,hr,e⟩;have d:¬(zdV "won"=zdV "lost"):=by decide+kernel
 have i:¬(zdV "won"=zdV "drawn"):=by decide+kernel
 rcases Yh good L (c a) with ⟨_,e⟩ | ⟨w,_⟩ | ⟨_,_,e⟩
 ·exact absurd (h.symm.trans e) d
 ·obtain⟨j,d⟩:=w;obtain⟨m,g,rfl⟩:=(vd good a).mp j;have:m∈Jp rs R hs:=tO.mpr ⟨g,decide_eq_true (by
   rcases Yh good L (c (J9 good a g)) with ⟨_,e⟩ | ⟨w,_⟩ | ⟨n,_,_⟩
   ·exact e
   ·exact absurd w (zF d)
   ·exact absurd d n)⟩
  exact zaz this
 ·exact absurd (h.symm.trans e) i
def ut(all:Qp rs R)(le:rs.length<=14)(z:Str):JF R z<=14:=by
 have a:=VF (xj all kG.nil);rw[ta]at a;have a:JF R z<=R.length:=List.findIdx_le_length;omega
def Uj:∀{hs:List Str},(∀z∈hs,JF R z<=14)->zf R hs<=14*hs.length:=by
 intro hs;induction hs with
 | nil=>intro _;exact zac _
 | cons z hs a=>
  intro h;have b:=h z tE;have b:=a λy c=>h y (tA _ c);unfold zf at b ⊢;simp only[tG,zaq,t0];omega
def VW(f:α->β)(l:List α):l.filterMap (λx=>some (f x))=l.map f:=by induction l<;>simp [*]
def Yt(p:α->Bool)(f:α->β)(l:List α):(l.filterMap λx=>if p x=true then some (f x) else none)=(l.filter p).map f:=by
 induction l with
 | nil=>rfl
 | cons x l a=>cases c:p x<;>simp [c,a]
def Rq{H:Hp}{f:α->Addr}{g:α->Nat×Str}:∀{l:List α},(∀x∈l,H (f x)=some (.tup (Wm (g x))))->jM H (l.map f) (l.map g):=λ{l} h=>by
 refine⟨by rw[ta,ta],λi _ m a b=>?_⟩;rw[tp]at a b;cases e:l[i]? with
 | none=>rw[e]at a;cases a
 | some x=>
  rw[e]at a b;cases a;cases b;exact h x (tL e)
def YP.pts:∀{c:List Addr} {os:List ((Nat×Str)×Str)},YP H c os->∃xs:List (Addr×Addr×((Nat×Str)×Str)),xs.map (·.1)=c/\xs.map (·.2.2)=os/\∀x∈xs,H x.1=some (.tup [.ref x.2.1,.str x.2.2.2])/\H x.2.1=some (.tup (Wm x.2.2.1)):=by
 intro c;induction c with
 | nil=>
  intro os h;cases os with
  | nil=>exact⟨[],rfl,rfl,λ_ z=>by cases z⟩
  | cons d os=>cases h.1
 | cons t c g=>
  intro os h;cases os with
  | nil=>cases h.1
  | cons d os=>
   obtain⟨j,l,m⟩:=h.2 0 t d rfl rfl;obtain⟨xs,c,e,o⟩:=g (os:=os) ⟨zdb.inj h.1,λi a b c e=>h.2 (i+1) a b (by simpa using c) (by simpa using e)⟩;refine⟨(t,j,d)::xs,by rw[tG,c],by rw[tG,e],λx c=>?_⟩;rcases tI.mp c with rfl | c
   ·exact⟨l,m⟩
   ·exact o x c
def RC(rs:jf)(R:Rs Str)(hs:List Str):((VE rs R hs).filter λo=>decide (o.2=zdV "lost")).map (·.1)=Jp rs R hs:=by
 unfold VE Jp;rw[zds,zav];show zdQ id _=_;rw[List.map_id];rfl
inductive Uo(CG:Addr)(vs:List V)(H:Hp)(Q:VK):Prop
 | mk (g D h:Addr) (rs:jf) (R:Rs Str) (hs:List Str):vs=[.ref g,.ref D,.ref h]->jZ CG H g rs->qj rs->(rs.length<=14)->jq H D rs R->Qp rs R->Qm H h rs hs->(∀H' L ps,qi H H'->H L=none->H' L=some (.lst (ps.map V.ref))->jM H' ps (Jp rs R hs)->Q (.ref L) H')->Uo CG vs H Q
def k2(a:Addr):Sp:=λb H Q _=>Uo a b H Q
inductive UO(vs:List V)(H:Hp)(Q:VK):Prop
 | mk (D h:Addr) (rs:jf) (R:Rs Str) (hs:List Str):vs=[.ref D,.ref h]->(rs.length<=14)->jq H D rs R->Qp rs R->Qm H h rs hs->((∀z∈hs,∃n,qE R z=some n))->(∀H',qi H H'->Q (.int (zf R hs:Nat)) H')->UO vs H Q
def yu:Sp:=λa H Q _=>UO a H Q
def YK:Str:=(zdV "winner_by"++zdV ".<locals>.")++zdV "<lambda>"
inductive Um(CG PT:Addr)(vs:List V)(H:Hp)(Q:VK):Prop
 | mk (g D h:Addr) (rs:jf) (R:Rs Str) (hs:List Str):vs=[.ref g,.ref D,.ref h]->jZ CG H g rs->qj rs->(rs.length<=14)->jq H D rs R->Qp rs R->Qm H h rs hs->(0 < (Jp rs R hs).length)->((∃tq,H PT=some (.tbl #[.str YK tq])))->(∀H' p m,qi H H'->H' p=some (.tup (Wm m))->Qz rs R hs m->Q (.ref p) H')->Um CG PT vs H Q
def Vq(a PT:Addr):Sp:=λb H Q _=>Um a PT b H Q
abbrev p3:List Str:=["ground","labels","heap"]
def R7:qh p3 p3 (qc Xp):=jY
def KC(F:jE K "winning_by" "winning_by" Xp f b)(h:WF K mg)(B:Qo mg)(Z:Wk K mg)(G:j3 mg)(T:Qb K mg)(M:GM K mg d)(O:wU K mg)(a:Ru K mg):qp P w K mg base qN 11 f b p3 (k2 d):=by
 obtain⟨_,_,b⟩:=a.osby;have g:=pin P w mg base (NT b.fn h B Z G T M O a);refine F.okK R7 λH Q E hr z=>?_;obtain⟨j,D,l,i,R,a,rfl,m,good,le,o,all,d,q⟩:=z;refine⟨_,qd (qm (j8 (N':=["pair"]) (ix:=[none]) (tt:=Wy (z5 E4 (z5 (zy K) (qY 0) (tC (.int 1))) (tC (.str (zdV "lost"))))) (te:=z5 (zy K) (qY 0) (tC (.int 0))) (qC (qv b g (Ys (jv 0) (jv 1) (jv 2)))) (λ_ _ _ fp _=>
   ⟨qG 0,j7 (qo jl (qB qJ (jv 0) qe) qy),qB qJ (jv 0) qe⟩))),?_⟩
 refine⟨_,rfl,_,rfl,_,rfl,j,D,l,i,R,a,rfl,m,good,le,o,Ym (jX good.nd) all,d,λl L _ o _ g os=>⟨L,rfl,⟨_,.of g⟩,λW p=>?_⟩⟩;obtain⟨b,m,r,j⟩:=os.pts;have u:(jO i a a.length).length<=112:=by
  have:=zE good le d.in_ a.length (tc _);have:=d.le;omega
 have d:b.length<=112:=by
  have:=congrArg zad r;unfold VE at this;rw[ta,ta]at this;omega
 have d:l L=some (.lst (b.map λx=>V.ref x.1)):=by
  rw[<-m,zav]at g;exact g
 refine Jn (K:=K) (a:=L) (xs:=b) (enc:=λx=>V.ref x.1) (out:=λx=>if decide (x.2.2.2=zdV "lost")=true then some (V.ref x.2.1) else none) (rest:=[]) p d (ql (by omega)) (λx d Y l u m=>?_) (λx d v g Y l u m=>?_) (λJ u y=>?_)
 ·refine⟨_,rfl,x.1,_,1,.str x.2.2.2,rfl,rfl,.of (l _ _ (j x d).1),rfl,rfl,_,rfl,?_⟩;have C:=m Y (qi.refl Y);have e:(if decide (x.2.2.2=zdV "lost")=true then some (V.ref x.2.1) else none).isSome=decide (V.str x.2.2.2=V.str (zdV "lost")):=by
   by_cases c:x.2.2.2=zdV "lost"
   ·rw[decide_eq_true c,decide_eq_true (by rw[c])];rfl
   ·rw[decide_eq_false c,decide_eq_false λz=>c (V.str.inj z)];rfl
  rw[e]at C;exact C
 ·have C:v=.ref x.2.1:=by
   by_cases c:x.2.2.2=zdV "lost"
   ·rw[decide_eq_true c]at g;exact(tz.inj g).symm
   ·rw[decide_eq_false c]at g;cases g
  subst C;exact⟨_,rfl,x.1,_,0,_,rfl,rfl,.of (l _ _ (j x d).1),rfl,m Y (qi.refl Y)⟩
 ·rw[Yt]at y;refine q J W ((b.filter λx=>decide (x.2.2.2=zdV "lost")).map (·.2.1)) (o.trans u) (jU o p) (by rw[zav];exact y) ?_;have g:(b.filter λx=>decide (x.2.2.2=zdV "lost")).map (·.2.2.1)=Jp i R a:=by
   rw[<-RC,<-r,zds,zav];rfl
  rw[<-g];exact Rq λx d=>u _ _ (j x (tO.mp d).1).2
def No:qh ["labels","heap"] ["labels","heap"] (qc Zh):=jY
def U6(F:jE K "count_by" "count_by" Zh f a)(T:Qb K mg):qp P w K mg base qN 1 f a ["labels","heap"] yu:=by
 refine F.okK No λH Q E hr z=>?_;obtain⟨D,c,_,R,b,rfl,le,i,all,a,j,q⟩:=z;refine⟨_,qd (qm (qu (Vc rfl) (by rfl) T.sum boot_sum (qU (j8 (N':=["place","labels"]) (ix:=[none,some 0]) (te:=z5 (zy K) (zm (qY 1) (qY 0)) (tC (.int 2))) (qC (jv 1)) (λ_ _ _ fp _=>
   ⟨qG 0,jJ,qB qJ (q5 (jv 1) (jv 0)) qe⟩))))),?_⟩
 refine⟨_,rfl,c,rfl,⟨_,.of a.at_⟩,λW d=>?_⟩;refine Jn (K:=K) (a:=c) (xs:=b) (enc:=V.str) (out:=λz=>some (V.int (JF R z:Nat))) (rest:=[some (.ref D)]) d a.at_ (ql (tS a.le (by decide))) (λx d Y c g e=>e Y (qi.refl Y)) (λx d v l Y c g e=>?_) (λm o g=>?_)
 ·cases l;obtain⟨_,l,_,p⟩:=(i.mono c).at_;obtain⟨r,u,y⟩:=a.in_ x d;obtain⟨t,i,c⟩:=p r u;rw[y]at i c;obtain⟨n,p⟩:=j x d;unfold QO at c;rw[p]at c;exact⟨_,rfl,_,rfl,D,_,rfl,by rw[<-i];exact j0.k (k:=(Sum.inr x:qT)) l,t,_,2,_,rfl,rfl,.of c,rfl,e Y (qi.refl Y)⟩
 ·rw[VW]at g;have c:=Uj (R:=R) (hs:=b) λz _=>ut all le z;have c:=a.le;refine⟨W,b.map (JF R),rfl,.of (by rw[zav];exact g),?_,q m o⟩;show zf R b < 2^62;omega
open PySem L2 MLab Rb
open PyProof.Rows hiding K lo
def Dh:Stmt->Expr
 | .Return (some e) _=>e
 | _=>.Constant .none 0 ⟨0,0,0,0⟩
def Ei:Expr->Expr
 | .Call _ _ (k::_) _=>k.value
 | e=>e
def B8:Expr->Arguments
 | .Lambda a _ _ _=>a
 | _=>{posonlyargs:=[],args:=[],vararg:=none,kwonlyargs:=[],kw_defaults:=[],kwarg:=none,defaults:=[]}
def B7:Expr->Expr
 | .Lambda _ b _ _=>b
 | e=>e
def Mc:Expr->Scope
 | .Lambda _ _ s _=>s
 | _=>{kind:=.function,names:=[],isGenerator:=false,isCoroutine:=false}
abbrev Rw:Expr:=Ei (Dh ((qX Jc).getD 0 (.Pass ⟨0,0,0,0⟩)))
inductive uQ(ws:List (Str×V))(vs:List V)(H:Hp)(Q:VK):Prop
 | mk (D h p:Addr) (rs:jf) (R:Rs Str) (hs:List Str) (m:Nat×Str):ws=[(zdV "labels",.ref D),(zdV "heap",.ref h)]->vs=[.ref p]->qj rs->(rs.length<=14)->jq H D rs R->Qp rs R->Qm H h rs hs->H p=some (.tup (Wm m))->(m∈Jp rs R hs)->(∀H',qi H H'->Q (.int (zf R (lf hs m):Nat)) H')->uQ ws vs H Q
def Ah(a:List (Str×V)):Sp:=λb H Q _=>uQ a b H Q
abbrev Ad(PT f:Addr)(b:zdY):Sp:=λc H Q E=>∃a,kK H PT f YK (B8 Rw) (B7 Rw) (Mc Rw) b a/\Ah a c H Q E
def ET(PT f:Addr)(a:zdY)(sp:Sp):Prop:=(∃(pm b:Value) (c:Addr) (d:List (Str×Addr)),a=zdy "<lambda>" YK (B8 Rw) (B7 Rw) (Mc Rw) d pm (.ref c) b)/\sp=Ad PT f a
def DH:Zu ["move","labels","heap"] ["move"] ["labels","heap"] (Mc Rw):=⟨rfl,rfl,rfl,by decide+kernel,rfl,by decide+kernel,by decide+kernel,by decide+kernel,by decide+kernel⟩
def BQ{P:Program}{w:World}{K:zdU}{mg:Str->Option Value}{base:Heap}{PT f b c:Addr}{a g i:zdY}(G:j3 mg)(T:Qb K mg)(d:qH K mg "count_by" Zh ["labels","heap"] b g)(e:qH K mg "left_by" ZU ["heap","move"] c i):qp P w K mg base qN 2 f a ["move"] (Ad PT f a):=by
 have j:=pin P w mg base (U6 d.fn T);have l:=pin P w mg base (YZ e.fn G);refine MA (PT:=PT) (qual:=YK) (ag:=B8 Rw) (be:=B7 Rw) (sc:=Mc Rw) (fr:=["labels","heap"]) (sp:=Ah) DH (λa b H Q E z=>?_) (λ_ _ A _ s H a b Q E hr z=>?_)
 ·obtain⟨D,h,g,i,R,a,m,rfl,rfl,_⟩:=z;exact⟨rfl,rfl⟩
 ·obtain⟨D,h,g,i,R,a,m,rfl,rfl,good,le,o,all,b,p,r,q⟩:=z;have c:=tO.mp r;refine⟨_,qv d j (jr (jv 1) (qv e l (jr (jv 2) (jv 0)))),?_⟩;refine⟨_,rfl,_,rfl,_,rfl,h,g,a,m,rfl,b.at_,p,(QH c.1).1,λe g=>?_⟩;have d:=qf (o:=HO.lst ((a.set m.1 m.2).map V.str)) g;refine⟨D,e,i,R,lf a m,rfl,le,o.mono d,all,⟨qa,by unfold lf;rw[zby];exact b.le,J9 good b.in_ c.1⟩,XG (of_decide_eq_true c.2),λa b=>q a (d.trans b)⟩
def MB{P:Program}{w:World}{K:zdU}{mg:Str->Option Value}{base:Heap}{PT b c:Addr}{d e:zdY}(G:j3 mg)(T:Qb K mg)(g:qH K mg "count_by" Zh ["labels","heap"] b d)(i:qH K mg "left_by" ZU ["heap","move"] c e):∀f a sp,ET PT f a sp->qp P w K mg base qN 2 f a ["move"] sp/\jN K a ["move"] []:=by
 rintro f a sp ⟨⟨pm,_,_,_,rfl⟩,rfl⟩;exact⟨BQ G T g i,.all λ_ a=>by obtain⟨_,rfl⟩:=kl a;rfl⟩
def R6:qh p3 p3 (qc Jc):=jY
def KB{P:Program}{w:World}{K:zdU}{mg:Str->Option Value}{base:Heap}{f c PT a d l p:Addr}{g j r v:zdY}(F:jE K "winner_by" "winner_by" Jc f g)(y:g.code=.ref c)(C:Yw mg base c PT)(B:Qo mg)(G:j3 mg)(T:Qb K mg)(J:qH K mg "count_by" Zh ["labels","heap"] l r)(o:qH K mg "left_by" ZU ["heap","move"] p v)
  (hW:qH K mg "winning_by" Xp p3 d j) (GW:qp P w K mg base qN 11 d j p3 (k2 a)):qp P w K mg base qN 12 f g p3 (Vq a PT):=by
 have GM:=MB (P:=P) (w:=w) (base:=base) (PT:=PT) G T J o;refine F.okB y R6 (λa H Q E z=>?_) (λA _ s H a Q E hr z=>?_)
 ·obtain⟨j,D,r,d,R,a,rfl,_⟩:=z;rfl
 ·obtain⟨j,D,r,d,R,a,rfl,y,good,le,O,all,U,ne,⟨J,hP⟩,q⟩:=z;refine⟨_,NG (fr:=[(zdV "labels",1),(zdV "heap",2)]) (λp l=>?_) (λ_=>rfl) (qd (qm (Mj (C:=ET PT) rfl (by rfl) B.min (λf g v c=>⟨2,_,(GM f g v c).1,hr.mono (by decide),(GM f g v c).2⟩)
   (qv hW GW (Ys (jv 0) (jv 1) (jv 2))) (Mm (fr:=["labels","heap"]) (qual:=YK) C rfl rfl rfl (by decide+kernel))))),?_⟩
  ·simp only[tI,zdg,or_false]at l;rcases l with rfl | rfl
   ·exact⟨rfl,rfl⟩
   ·exact⟨rfl,rfl⟩
  intro _ g C;refine⟨_,rfl,_,rfl,_,rfl,j,D,r,d,R,a,rfl,y.mono g,good,le,O.mono g,all,U.mono g,λ_ L v j o o mv=>?_⟩;have y:=(C [(zdV "labels",.ref D),(zdV "heap",.ref r)] (λp l=>by
   simp only[tI,zdg,or_false]at l;rcases l with rfl | rfl
   ·exact⟨1,tE,rfl⟩
   ·exact⟨2,tA _ tE,rfl⟩)).mono j
  refine⟨⟨J,j _ _ (g _ _ hP)⟩,_,rfl,y,λC ab H2 y _ aa=>?_⟩;have J:=(g.trans j).trans y;obtain⟨pm,g,j,cl,_,ac,_⟩:=aa.ex;refine⟨L,C,v.map V.ref,ab,_,λi=>(((Jp d R a)[i]?.map λm=>((zf R (lf a m):Nat):Int)).getD 0),λY=>qi H2 Y,rfl,rfl,⟨⟨pm,g,j,cl,ac⟩,rfl⟩,qi.refl _,λY j=>.of (j _ _ (y _ _ o)),by rw[ta,mv.1];exact ne,λi x Y g j=>?_,λi x Y g hb j=>?_⟩
  ·rw[tp]at g;cases o:v[i]? with
   | none=>rw[o]at g;cases g
   | some p=>
    rw[o]at g;obtain rfl:=(tz.inj g).symm;have C:i < (Jp d R a).length:=by rw[<-mv.1];exact(td.mp o).1
    have em:(Jp d R a)[i]?=some (Jp d R a)[i]:=th C;have l:=mv.2 i p _ o em;refine⟨_,aa.mono (λb _ u e=>j _ _ e),D,r,p,d,R,a,(Jp d R a)[i],rfl,rfl,good,le,O.mono (J.trans j),all,U.mono (J.trans j),(y.trans j) _ _ l,zbj C,λ_ r=>⟨?_,j.trans r⟩⟩
    try dsimp only
    rw[em];rfl
  ·rw[tp]at g;cases o:v[i]? with
   | none=>rw[o]at g;cases g
   | some p=>
    rw[o]at g;obtain rfl:=(tz.inj g).symm;have C:i < (Jp d R a).length:=by rw[<-mv.1];exact(td.mp o).1
    have em:(Jp d R a)[i]?=some (Jp d R a)[i]:=th C;have l:=mv.2 i p _ o em;refine q Y p _ (J.trans j) ((y.trans j) _ _ l) ⟨i,em,λg j l=>?_⟩;have o:g < (v.map V.ref).length:=by rw[ta,mv.1];exact(td.mp l).1
    have:=hb g o
    try dsimp only at this
    rw[em,l]at this;have this:((zf R (lf a (Jp d R a)[i]):Nat):Int)<=((zf R (lf a j):Nat):Int)/\(g < i->((zf R (lf a (Jp d R a)[i]):Nat):Int) < ((zf R (lf a j):Nat):Int)):=this;exact⟨by omega,λc=>by have:=this.2 c;omega⟩
open PySem L2 MLab Rb
open PyProof.Rows hiding K lo
abbrev zq:Stmt:=top 60
abbrev Vy:Stmt:=top 61
def GH(a:Addr)(H:Hp)(g h:Addr)(rs:jf)(hs:List Str):Prop:=jZ a H g rs/\qj rs/\rs.length<=14/\Qm H h rs hs
def GH.mono(x:GH a H g h rs hs)(s:qi H b):GH a b g h rs hs:=⟨x.1.mono s,x.2.1,x.2.2.1,x.2.2.2.mono s⟩
def yQ(good:qj rs)(all:Qp rs R){hs:List Str}(a:∀z∈hs,∃r∈rs,r.1=z):∀z∈hs,Y0 (wT rs R z):=λz b=>by
 obtain⟨r,c,e⟩:=a z b;exact MR good (Ym (jX good.nd) all) (tl.mpr ⟨r,c,e⟩)
def wL:Str:=zdV "lost"
def wW:Str:=zdV "won"
def wD:Str:=zdV "drawn"
def VG:oW rs R hs=wL\/oW rs R hs=wW\/oW rs R hs=wD:=by
 unfold oW;cases Qv (hs.map (wT rs R)) with
 | num n=>
  show (if n=0 then (zdV "lost") else zdV "won")=_\/(if n=0 then (zdV "lost") else zdV "won")=_\/_;split
  ·exact .inl rfl
  ·exact .inr (.inl rfl)
 | edl b=>
  show _\/(if b.testBit 0=true then (zdV "won") else zdV "drawn")=_\/(if b.testBit 0=true then (zdV "won") else zdV "drawn")=_;split
  ·exact .inr (.inl rfl)
  ·exact .inr (.inr rfl)
def Xi:wL≠wW:=by decide+kernel
def Ua:wL≠wD:=by decide+kernel
def V9:wW≠wD:=by decide+kernel
def xT(rs:jf)(R:Rs Str)(n:Nat)(z:Str):Bool:=decide (qE R z=none/\n∉Q2 rs (qE R) z)
inductive WJ(vs:List V)(H:Hp)(Q:VK):Prop
 | mk (t:Addr) (rs:jf) (R:Rs Str) (z:Str) (n:Nat):(vs=[.ref t,.int (n:Nat)])->H t=some (.tup (QO rs R z))->((∀x∈Q2 rs (qE R) z,x < 16))->(n < 16)->(∀H',qi H H'->Q (.bl (xT rs R n z)) H')->WJ vs H Q
def UI:Sp:=λa H Q _=>WJ a H Q
def u4:qh ["label","number"] ["label","number"] (qc zq):=jY
def x8(F:jE K "is_open_to" "is_open_to" zq f a)(B:Qo mg)(hN:qH K mg "numbers_in" Z4 ["bits"] b d):qp P w K mg base qN 2 f a ["label","number"] UI:=by
 have d:=pin P w mg base (zB hN.fn B);refine F.okK u4 λH Q E hr h=>?_;obtain⟨t,a,R,z,n,rfl,b,g,i,q⟩:=h;refine⟨_,qd (qm (J5 (jK jl (qB qJ (jv 0) qe) qy) (za (jK JZ (jv 1) (qv hN d (qU (qB qJ (jv 0) qe))) (by with_unfolding_all rfl))))),?_⟩;unfold xT at q;cases c:qE R z with
 | some m=>
  have d:QO a R z=[.str "number",.int (m:Nat),.int (JF R z:Nat)]:=by unfold QO;rw[c]
  rw[d]at b;rw[c,decide_eq_false (λh=>(nomatch h.1))]at q;refine⟨_,rfl,t,_,0,_,rfl,rfl,.of b,rfl,rfl,_,rfl,qO (by decide+kernel) ?_⟩;exact q H λ_ _ h=>h
 | none=>
  have d:QO a R z=[.str "endless",.int (Rb.setN (Q2 a (qE R) z):Nat)]:=by unfold QO;rw[c]
  rw[d]at b;refine⟨_,rfl,t,_,0,_,rfl,rfl,.of b,rfl,rfl,_,rfl,qW (by decide+kernel) ?_⟩;have lt:Rb.setN (Q2 a (qE R) z) < 65536:=Rb.setN_lt (m:=16) g;refine⟨_,rfl,_,rfl,t,_,1,_,rfl,rfl,.of b,rfl,_,rfl,lt,λb d=>?_⟩;refine⟨b,_,rfl,.inl (.of qa),rfl,XU _,?_⟩;have:=q _ (qf (o:=HO.lst (Zf (Rb.memN (Rb.setN (Q2 a (qE R) z)) 16))) d);have e:(!YF (.int (n:Nat)) (Zf (Rb.memN (Rb.setN (Q2 a (qE R) z)) 16)))=decide (qE R z=none/\n∉Q2 a (qE R) z):=by
   rw[kw,c];by_cases h:n∈Q2 a (qE R) z
   ·rw[decide_eq_true (Rb.mem_memN.mpr ⟨i,by rw[Rb.testBit_setN];exact decide_eq_true h⟩),decide_eq_false (λw=>w.2 h)];rfl
   ·rw[decide_eq_false (λw=>h (by have:=(Rb.mem_memN.mp w).2;rw[Rb.testBit_setN]at this;exact of_decide_eq_true this)),decide_eq_true ⟨rfl,h⟩];rfl
  rw[<-e]at this;exact this
def lst(rs:jf)(R:Rs Str)(z:Str):Nat:=Rb.lackN (Q2 rs (qE R) z)
def WW(rs:jf)(R:Rs Str)(z:Str):List (Nat×Str):=((Qh rs z).filter (xT rs R (lst rs R z))).map λy=>(lst rs R z,y)
inductive UB(CG:Addr)(vs:List V)(H:Hp)(Q:VK):Prop
 | mk (g D:Addr) (rs:jf) (R:Rs Str) (z:Str):vs=[.ref g,.ref D,.str z]->jZ CG H g rs->qj rs->(rs.length<=14)->jq H D rs R->(Wa (Qh rs) (·∈rs.map (·.1)) (qE R) (JF R))->(z∈rs.map (·.1))->qE R z=none->(∀H' L ts,qi H H'->H L=none->H' L=some (.lst (ts.map V.ref))->jM H' ts (WW rs R z)->Q (.ref L) H')->UB CG vs H Q
def RW(a:Addr):Sp:=λb H Q _=>UB a b H Q
def wt(h:∀x,x∈ns↔x∈ms):Rb.lackN ns=Rb.lackN ms:=by
 have a:Rb.Lacks (Rb.lackN ns) ns:=Rb.lackI_lacks _;exact Rb.lackN_eq ⟨λm=>a.1 ((h _).mpr m),λx b=>(h x).mp (a.2 x b)⟩
def XI(g:qj rs)(L:Wa (Qh rs) (·∈rs.map (·.1)) (qE R) (JF R))(hz:z∈rs.map (·.1)):∀x∈Q2 rs (qE R) z,x<=8:=λx a=>by
 obtain⟨y,b,c⟩:=jI.mp a;exact XH g L (L.cl hz b) c
def B3(g:qj rs)(L:Wa (Qh rs) (·∈rs.map (·.1)) (qE R) (JF R))(hz:z∈rs.map (·.1)):lst rs R z < 16:=by
 have a:Rb.Lacks (lst rs R z) (Q2 rs (qE R) z):=Rb.lackI_lacks _;rcases zbd (lst rs R z) 16 with c | c
 ·exact c
 ·have:=XI g L hz 9 (a.2 9 (by omega));omega
def Nb:qh ["ground","labels","name","least"] ["ground","labels","name"] (qc Vy):=jY
def KL(F:jE K "open_roads" "open_roads" Vy f d)(B:Qo mg)(G:j3 mg)(T:Qb K mg)(M:GM K mg e)(i:qH K mg "lacking" Qq ["numbers"] g l)(hN:qH K mg "numbers_in" Z4 ["bits"] o p)(j:qH K mg "is_open_to" zq ["label","number"] r C):qp P w K mg base qN 3 f d ["ground","labels","name"] (RW e):=by
 have p:=pin P w mg base (XE i.fn);have C:=pin P w mg base (zB hN.fn B);have J:=pin P w mg base (x8 j.fn B hN);obtain⟨_,_,e⟩:=M.cls;obtain⟨_,_,l⟩:=M.fr;obtain⟨_,_,d⟩:=M.isn;have O:=pin P w mg base (Je l.fn e B G T d);refine F.okK Nb λH Q E hr h=>?_;obtain⟨o,D,d,R,z,rfl,r,good,_,Y,L,g,U,q⟩:=h;refine⟨_,qb (ZY 3 (qv i p (qU (qv hN C (qU (qB qJ (q5 (jv 1) (jv 2)) qe))))))
  (qd (qm (j8 (N':=["end","least","labels"]) (ix:=[none,some 3,some 1]) (tt:=tB (Zg UI [] E0 (qS (zm (qY 2) (qY 0)) (qS (qY 1) Qw)))) (te:=ug (qS (qY 1) (qS (qY 0) Qw))) (qC (YE l e.cl O hr (jv 0) (qU (jv 2)))) (λe l H2 fp _=>
   ⟨qG 0,j7 (jn (qv j J (jr (q5 (jv 2) (jv 0)) (jv 1)))),jW (jr (jv 1) (jv 0))⟩)))),?_⟩
 have gl:∀{e:Hp} {y:Str},jq e D d R->y∈d.map (·.1)->∃t,j0 e D (.str y) (some (.ref t))/\e t=some (.tup (QO d R y)):=λ{e y} i O=>by
  obtain⟨_,a,_,c⟩:=i.at_;obtain⟨e,i,rfl⟩:=tl.mp O;obtain⟨t,u,v⟩:=c e i;exact⟨t,by rw[<-u];exact j0.k (k:=(Sum.inr e.1:qT)) a,v⟩
 obtain⟨t,gt,j⟩:=gl Y g;have p:QO d R z=[.str "endless",.int (Rb.setN (Q2 d (qE R) z):Nat)]:=by unfold QO;rw[U]
 rw[p]at j;have C:=XI good L g;have lt:Rb.setN (Q2 d (qE R) z) < 65536:=Rb.setN_lt (m:=16) λx p=>by have:=C x p;omega
 refine⟨_,rfl,_,rfl,D,_,rfl,gt,t,_,1,_,rfl,rfl,.of j,rfl,_,rfl,lt,λj U=>?_⟩;have J:qi H (upd H j (.lst (Zf (Rb.memN (Rb.setN (Q2 d (qE R) z)) 16)))):=qf U;have U:upd H j (.lst (Zf (Rb.memN (Rb.setN (Q2 d (qE R) z)) 16))) j=some (.lst (Zf (Rb.memN (Rb.setN (Q2 d (qE R) z)) 16))):=qa;generalize upd H j (.lst (Zf (Rb.memN (Rb.setN (Q2 d (qE R) z)) 16)))=H1 at J U;have lm:(Rb.memN (Rb.setN (Q2 d (qE R) z)) 16).length<=16:=by
  have h1:(Rb.memN (Rb.setN (Q2 d (qE R) z)) 16).length<=(t8 16).length:=zak _ _;rwa [zai]at h1
 have ac:Rb.lackN (Rb.memN (Rb.setN (Q2 d (qE R) z)) 16)=lst d R z:=wt λx=>by
  rw[Rb.mem_memN,Rb.testBit_setN,decide_eq_true_iff];exact⟨λh=>h.2,λh=>⟨by have:=C x h;omega,h⟩⟩
 refine⟨j,_,rfl,.of U,by omega,λH2 l=>?_⟩;rw[ac];have j:=J.trans l;have ae:=B3 good L g;obtain⟨l,fs,C,_,U⟩:=(r.mono j).ins;obtain⟨e,i,J⟩:=tl.mp g;refine⟨_,rfl,o,l,fs,rfl,C,U,_,rfl,o,d,e,by rw[J];rfl,r.mono j,i,good.nm e i,λl le o r=>?_⟩;have C:qi H (upd l le (.lst ((qP d e).map V.str))):=j.trans (o.trans (qf r));have o:upd l le (.lst ((qP d e).map V.str)) le=some (.lst ((qP d e).map V.str)):=qa;generalize upd l le (.lst ((qP d e).map V.str))=r at C o;have aa:Qh d z=qP d e:=by rw[<-J,Qu good.nd i]
 have i:=Zi (rs:=d) e;refine⟨le,rfl,⟨_,.of o⟩,λW U=>?_⟩;refine jC (K:=K) (a:=le) (xs:=(qP d e).map V.str) (λl J i=>∃(v0:Option V) (j:List Addr),J=[v0,some (.int (lst d R z:Nat)),some (.ref D)]/\qi r i/\i W=some (.lst (j.map V.ref))/\jM i j ((((qP d e).take l).filter (xT d R (lst d R z))).map λy=>(lst d R z,y)))
  ⟨none,[],rfl,qf U,qa,jM.nil _⟩ (λl J i _ ⟨_,_,_,s,_⟩=>.of (s _ _ o)) ?_ ?_
 ·rintro l x J i p ⟨v0,j,rfl,r,o,mv⟩;obtain⟨y,ey,O,rfl⟩:=Qf p;have hj:=(td.mp ey).1;have ab:y∈d.map (·.1):=L.cl g (by rw[aa];exact O);have g:=C.trans r;obtain⟨ty,O,af⟩:=gl (Y.mono g) ab;refine⟨_,rfl,_,rfl,D,_,rfl,O,_,rfl,ty,d,R,y,lst d R z,rfl,af,λx p=>by have:=XI good L ab x p;omega,ae,λ_ g=>⟨_,rfl,?_⟩⟩;have p:((qP d e).take (l+1)).filter (xT d R (lst d R z))=((qP d e).take l).filter (xT d R (lst d R z))++[y].filter (xT d R (lst d R z)):=by rw[tM,ey,zay];rfl
  rw[p];cases c:xT d R (lst d R z) y with
  | false=>
   refine jG ⟨_,j,rfl,r.trans g,g _ _ o,?_⟩;have p:[y].filter (xT d R (lst d R z))=[]:=by simp [c]
   rw[p,zam];exact mv.mono g
  | true=>
   have O:=mv.1;rw[ta]at O;have lf:=zak (xT d R (lst d R z)) ((qP d e).take l);rw[tJ]at lf;refine Q4 ⟨_,rfl,_,rfl,Ze,λl e=>?_⟩;refine⟨_,qk (g _ _ o) e,by rw[ta];exact ql (by omega),_,j++[l],rfl,qi.upd (r.trans (g.trans (qf e))) U,by rw[tw];exact qa,?_⟩;have p:[y].filter (xT d R (lst d R z))=[y]:=by simp [c]
   rw[p,tw];have d:l≠W:=λq=>by rw[q,g _ _ o]at e;cases e
   refine jM.app ⟨mv.1,λk l m a b=>?_⟩ (jM.one (by rw[qg d];exact qa));have d:=g _ _ (mv.2 k l m a b);have n1:l≠W:=λq=>by rw[q,g _ _ o]at d;cases d
   rw[qg n1];exact qk d e
 ·rintro J i ⟨v0,j,rfl,r,o,mv⟩;rw[ta,tu (tc _),<-aa]at mv;exact q i W j (C.trans r) (jU C U) o mv
open PySem L2 MLab Rb
open PyProof.Rows hiding K lo
def Wg(rs:jf)(R:Rs Str)(hs:List Str):Nat:=xorAll (JL (hs.map (wT rs R)))
open PySem L2 MLab Rb
open PyProof.Rows hiding K lo
abbrev Zy:Stmt:=top 2
abbrev Ka:Stmt:=top 74
abbrev UT:Stmt:=top 75
abbrev Nr:Stmt:=top 76
abbrev Kc:Stmt:=top 77
abbrev vS:Stmt:=top 78
abbrev Qg:Stmt:=top 79
def jM.pts:∀{a:List Addr} {ms:List (Nat×Str)},jM H a ms->∃xs:List (Addr×(Nat×Str)),xs.map (·.1)=a/\xs.map (·.2)=ms/\∀x∈xs,H x.1=some (.tup (Wm x.2)):=by
 intro a;induction a with
 | nil=>
  intro ms h;cases ms with
  | nil=>exact⟨[],rfl,rfl,λ_ z=>by cases z⟩
  | cons a os=>cases h.1
 | cons t c b=>
  intro ms h;cases ms with
  | nil=>cases h.1
  | cons a os=>
   obtain⟨xs,c,d,e⟩:=b (ms:=os) h.tail;refine⟨(t,a)::xs,by rw[tG,c],by rw[tG,d],λx b=>?_⟩;rcases tI.mp b with rfl | b
   ·exact h.2 0 t a rfl rfl
   ·exact e x b
def zC{rs:jf}{b:List Str}(h:∀z∈b,∃r∈rs,r.1=z):∀z∈b,z∈rs.map (·.1):=λz a=>let ⟨r,hr,e⟩:=h z a;tl.mpr ⟨r,hr,e⟩
def Y6(good:qj rs)(all:Qp rs R){hs:List Str}(b:∀z∈hs,∃r∈rs,r.1=z):oW rs R hs=wL↔YQ (mv (Q3 rs)) hs:=by
 have L:=Ym (jX good.nd) all;rcases Yh good L (zC b) with ⟨a,e⟩ | ⟨w,e⟩ | ⟨n,_,e⟩
 ·exact⟨λ_=>a,λ_=>e⟩
 ·exact⟨λz=>absurd (e.symm.trans z).symm Xi,λa=>absurd w (zF a)⟩
 ·exact⟨λz=>absurd (e.symm.trans z).symm Ua,λa=>absurd a n⟩
def AX(good:qj rs)(all:Qp rs R){hs:List Str}(a:∀z∈hs,∃r∈rs,r.1=z)(w:Won (mv (Q3 rs)) hs):oW rs R hs=wW:=by
 have L:=Ym (jX good.nd) all;rcases Yh good L (zC a) with ⟨b,e⟩ | ⟨_,e⟩ | ⟨_,n,e⟩
 ·exact absurd w (zF b)
 ·exact e
 ·exact absurd w n
def VX(R:Rs Str)(hs:List Str):List Str:=hs.filter λz=>(qE R z).isNone
def vB(rs:jf)(R:Rs Str)(hs:List Str)(s:Nat)(m:Nat×Str):Bool:=decide (qE R (QY hs m.1)≠none/\qE R m.2≠none/\Wg rs R (lf hs m)=s)
def xo(rs:jf)(R:Rs Str)(hs:List Str)(m:Nat×Str):Prop:=∃a,(VX R hs).head?=some a/\((1 < (VX R hs).length/\m.1=hs.idxOf a/\(VX R (Qh rs a)).head?=some m.2)\/
 ((VX R hs).length<=1/\∃y,(WW rs R a).head?=some (lst rs R a,y)/\((Wg rs R hs=lst rs R a/\m=(hs.idxOf a,y))\/(Wg rs R hs≠lst rs R a/\((jO rs hs hs.length).filter (vB rs R hs (lst rs R a))).head?=some m))))
def Q5(rs:jf)(R:Rs Str)(hs:List Str):Wg rs R hs=jS (jR (qE R) hs):=by
 unfold Wg;rw[Yi,Jr]
def Vb(e:ends num h=1)(no:∀x∈h,num x=none->∀w∈G x,num w≠some (jS (jR num h))):MLab.Drawn G num h:=by
 obtain⟨b,x,q,rfl,a⟩:=QQ.mp (show 0 < ends num h by omega);refine .inl ⟨b,x,q,rfl,a,?_,?_⟩
 ·rw[jd a]at e;omega
 ·have:=no x (by simp) a;rw[Jf a]at this;exact this
def Xe(e:ends num h=0)(hz:z∈h):num z≠none:=λn=>by
 obtain⟨a,q,b⟩:=zbX hz;have:=QQ.mpr ⟨a,z,q,b,n⟩;omega
def xW(e:ends num h=1)(d:MLab.Drawn G num h):∀x∈h,num x=none->∀w∈G x,num w≠some (jS (jR num h)):=by
 rcases d with ⟨b,y,q,rfl,g,a,no⟩ | two
 ·intro x i b;rw[Jf g];have:x=y:=by
   rcases tT.mp i with c | c
   ·exact absurd b (Xe a (tY _ c))
   ·rcases tI.mp c with c | c
    ·exact c
    ·exact absurd b (Xe a (tv _ c))
  rw[this];exact no
 ·omega
def XN{hs:List Str}(h:i < hs.length)(y:Str):∃p q,hs=p++QY hs i::q/\lf hs (i,y)=p++y::q/\p.length=i:=by
 have a:QY hs i=hs[i]:=by unfold QY;simp [h]
 refine⟨hs.take i,hs.drop (i+1),?_,?_,by rw[tJ];omega⟩
 ·rw[a,List.getElem_cons_drop,zbG]
 ·rw[<-K7 h y];simp
def zQ(good:qj rs)(all:Qp rs R){hs:List Str}(c:∀z∈hs,∃r∈rs,r.1=z):oW rs R hs=wD↔MLab.Drawn (Q3 rs) (qE R) hs:=by
 have L:=Ym (jX good.nd) all;have b:=Md good L;have a:=zC c;rcases Yh good L a with ⟨c,e⟩ | ⟨w,e⟩ | ⟨n,v,e⟩
 ·refine⟨λz=>absurd (e.symm.trans z) Ua,λd=>?_⟩;have z:=(Jg b a).mp c;rcases d with ⟨g,x,q,rfl,c,_,_⟩ | two
  ·have:=z.1;rw[jd c]at this;omega
  ·have:=z.1;omega
 ·exact⟨λz=>absurd (e.symm.trans z) V9,λd=>absurd d ((Vo b a).mp w).1⟩
 ·refine⟨λ_=>Classical.byContradiction λc=>v ((Vo b a).mpr ⟨c,λz=>n ((Jg b a).mpr z)⟩),λ_=>e⟩
def zP(R:Rs Str)(hs:List Str):(VX R hs).length=ends (qE R) hs:=rfl
def XB(h:(WW rs R z).head?=some (n,y)):n=lst rs R z/\y∈Qh rs z/\qE R y=none/\lst rs R z∉Q2 rs (qE R) y:=by
 have a:=zaB h;unfold WW at a;obtain⟨_,c,e⟩:=tl.mp a;obtain⟨d,b⟩:=tO.mp c;have g:=(Prod.mk.inj e).1;have i:=(Prod.mk.inj e).2;subst i;unfold xT at b;have a:=of_decide_eq_true b;exact⟨g.symm,d,a.1,a.2⟩
def VY(good:qj rs)(all:Qp rs R)(g:∀z∈hs,∃r∈rs,r.1=z)(b:oW rs R hs=wD)(h:xo rs R hs m):m∈jO rs hs hs.length/\oW rs R (lf hs m)=wD:=by
 have L:=Ym (jX good.nd) all;have U:=zC g;have d:=(zQ good all g).mp b;obtain⟨b,J,l⟩:=h;have e:=zaB J;unfold VX at e;obtain⟨O,j⟩:=tO.mp e;have Q:qE R b=none:=by simpa using j
 have o:hs.idxOf b < hs.length:=zbU.mpr O;have B:QY hs (hs.idxOf b)=b:=by unfold QY;simp [o]
 have T:∀{i:Nat} {y:Str},i < hs.length->y∈Qh rs (QY hs i)->(i,y)∈jO rs hs hs.length:=λ{i y} e j=>by
  unfold jO;exact zcu.mpr ⟨i,zaM.mpr e,tl.mpr ⟨y,j,rfl⟩⟩
 have d_:∀{m},m∈jO rs hs hs.length->MLab.Drawn (Q3 rs) (qE R) (lf hs m)->m∈jO rs hs hs.length/\oW rs R (lf hs m)=wD:=λe d=>⟨e,(zQ good all (J9 good g e)).mpr d⟩;have aa:∀w∈Q3 rs b,qE R w≠some (lst rs R b):=λw p j=>by
  have a:Rb.Lacks (lst rs R b) (Q2 rs (qE R) b):=Rb.lackI_lacks _;exact a.1 (jI.mpr ⟨w,(q4 good (U b O)).mp p,j⟩)
 rcases l with ⟨two,u,C⟩ | ⟨one,y,ey,⟨Y,rfl⟩ | ⟨g,em⟩⟩
 ·have g:=zaB C;unfold VX at g;obtain⟨D,l⟩:=tO.mp g;have H:qE R m.2=none:=by simpa using l
  have e:(m.1,m.2)∈jO rs hs hs.length:=T (by rw[u];exact o) (by rw[u,B];exact D);refine d_ e (.inr ?_);obtain⟨v,q,g,l,_⟩:=XN o m.2;rw[B]at g;have:lf hs m=v++m.2::q:=by rw[<-l,<-u]
  rw[this,jd H];rw[zP,g,jd Q]at two;omega
 ·obtain⟨_,D,H,yl⟩:=XB ey;have e:(hs.idxOf b,y)∈jO rs hs hs.length:=T o (by rw[B];exact D);refine d_ e ?_;obtain⟨v,q,g,l,_⟩:=XN o y;rw[B]at g;rw[zP,g,jd Q]at one;have T:ends (qE R) (lf hs (hs.idxOf b,y))=1:=by rw[l,jd H];omega
  refine Vb T λx B o w p j=>?_;rw[Q5,g,Jf Q]at Y;rw[l,Jf H,Y]at j;have H:x=y:=by
   rw[l]at B;have z:ends (qE R) (v++q)=0:=by omega
   rcases tT.mp B with c | c
   ·exact absurd o (Xe z (tY _ c))
   ·rcases tI.mp c with c | c
    ·exact c
    ·exact absurd o (Xe z (tv _ c))
  subst H;have H:x∈rs.map (·.1):=L.cl (U b O) D;exact yl (jI.mpr ⟨w,(q4 good H).mp p,j⟩)
 ·have H:=zaB em;obtain⟨e,D⟩:=tO.mp H;unfold vB at D;obtain⟨H,O,Q⟩:=of_decide_eq_true D;refine d_ e ?_;obtain⟨v,q,g,l,_⟩:=XN (QH e).1 m.2;obtain⟨n1,u⟩:=zbl.mp H;obtain⟨n2,C⟩:=zbl.mp O;have D:lf hs m=v++m.2::q:=l;have e:ends (qE R) hs=1:=by
   have:0 < (VX R hs).length:=zaz (zaB J);rw[zP]at this one;omega
  have T:ends (qE R) (lf hs m)=1:=by
   rw[g,qV u]at e;rw[D,qV C];exact e
  refine Vb T λx B o w p j=>?_;rw[<-Q5,Q]at j;have l:x=b:=by
   have u:x∈hs:=by
    rw[D]at B;rw[g];rcases tT.mp B with c | c
    ·exact tY _ c
    ·rcases tI.mp c with c | c
     ·rw[c,C]at o;cases o
     ·exact tv _ (tA _ c)
   have b:x∈VX R hs:=tO.mpr ⟨u,by rw[o];rfl⟩;have g:=zaB J;rw[<-zP]at e;obtain⟨a,o⟩:=List.length_eq_one_iff.mp e;rw[o]at b g;rw[tQ.mp b,tQ.mp g]
  subst l;exact aa w p j
def Xb{α:Type}{l:List α}(h:0 < l.length):∃x,l.head?=some x:=by
 cases l with
 | nil=>cases h
 | cons x l=>exact⟨x,rfl⟩
def My(good:qj rs)(all:Qp rs R)(b:∀z∈hs,∃r∈rs,r.1=z)(g:oW rs R hs=wD):∃m,xo rs R hs m:=by
 have L:=Ym (jX good.nd) all;have l:=zC b;have d:=(zQ good all b).mp g;have pos:0 < ends (qE R) hs:=by
  rcases d with ⟨g,x,q,e,v,_⟩ | two
  ·exact QQ.mpr ⟨g,x,q,e,v⟩
  ·omega
 obtain⟨b,o⟩:=Xb (l:=VX R hs) pos;have i:=zaB o;unfold VX at i;obtain⟨p,j⟩:=tO.mp i;have B:qE R b=none:=by simpa using j
 by_cases two:1 < (VX R hs).length
 ·obtain⟨_,_,_,y,i,C,_⟩:=lack L (l b p) B;obtain⟨u,j⟩:=Xb (l:=VX R (Qh rs b)) (zaz (tO.mpr ⟨i,by rw[C];rfl⟩));exact⟨(hs.idxOf b,u),b,o,.inl ⟨two,rfl,j⟩⟩
 ·have a:Rb.Lacks (lst rs R b) (Q2 rs (qE R) b):=Rb.lackI_lacks _;obtain⟨y,i,C,D⟩:=L.e (m:=lst rs R b) (l b p) B (λH J=>jI.mp (a.2 H J)) λy i e=>a.1 (jI.mpr ⟨y,i,e⟩);have H:(lst rs R b,y)∈WW rs R b:=by
   unfold WW;refine tl.mpr ⟨y,tO.mpr ⟨i,?_⟩,rfl⟩;unfold xT;exact decide_eq_true ⟨C,λh=>let ⟨z,i,e⟩:=jI.mp h;D z i e⟩
  obtain⟨⟨k,u⟩,j⟩:=Xb (zaz H);obtain⟨rfl,_⟩:=XB j;by_cases C:Wg rs R hs=lst rs R b
  ·exact⟨_,b,o,.inr ⟨by omega,u,j,.inl ⟨C,rfl⟩⟩⟩
  ·have i:ends (qE R) hs=1:=by
    rw[zP]at two;omega
   have no:=xW i d b p B;have lt:lst rs R b < jS (jR (qE R) hs):=by
    rw[<-Q5 rs R hs];rcases zan (lst rs R b) (Wg rs R hs) with c | c | c
    ·exact c
    ·exact absurd c.symm C
    ·obtain⟨w,B,i⟩:=jI.mp (a.2 _ c);rw[Q5]at i;exact absurd i (no w ((q4 good (l b p)).mpr B))
   obtain⟨g,x,i,q,p,B,⟨n1,n2,D,H⟩,v,_⟩:=zj L l lt;have l:QY hs g.length=x:=by unfold QY;rw[p];simp
   have J:lf hs (g.length,i)=g++i::q:=by unfold lf;rw[p];simp
   have O:(g.length,i)∈(jO rs hs hs.length).filter (vB rs R hs (lst rs R b)):=by
    refine tO.mpr ⟨?_,?_⟩
    ·unfold jO;exact zcu.mpr ⟨g.length,zaM.mpr (by rw[p];simp),tl.mpr ⟨i,by rw[l];exact B,rfl⟩⟩
    ·unfold vB;refine decide_eq_true ⟨?_,?_,?_⟩
     ·rw[l,D];exact λz=>nomatch z
     ·rw[H];exact λz=>nomatch z
     ·rw[Q5,J];exact v
   obtain⟨m,em⟩:=Xb (zaz O);exact⟨m,b,o,.inr ⟨by omega,u,j,.inr ⟨C,em⟩⟩⟩
inductive WD(K:zdU)(vs:List V)(H:Hp)(Q:VK):Prop
 | mk (a:Addr) (ns:List Nat):vs=[.ref a]->(SqL K H a (Zf ns))->(Q (.int (Rb.xorAll ns:Nat)) H)->WD K vs H Q
def uB(K:zdU):Sp:=λa H Q _=>WD K a H Q
def uZ:qh ["numbers","total","number"] ["numbers"] (qc Zy):=jY
def xY(F:jE K "summed" "summed" Zy f j):qp P w K mg base qN 1 f j ["numbers"] (uB K):=by
 refine F.okK uZ λH Q E hr h=>?_;obtain⟨a,b,rfl,g,q⟩:=h;refine⟨_,qb (qx 1 qe)
  (qb (jc (qC (jv 0)) (qG 2) (qd (qx 1 (qL vZ (jv 1) (jv 2)))))
  (qd (qm (jv 1)))),?_⟩
 refine⟨_,rfl,a,rfl,⟨_,g⟩,?_⟩;refine jm (K:=K) (a:=a) (xs:=Zf b) (λi c d=>∃v,c=[some (.ref a),some (.int ((Rb.xorAll (b.take i):Nat):Int)),v]/\d=H) ⟨none,rfl,rfl⟩ (λi c d _ ⟨_,_,e⟩=>e▸g) ?_ ?_
 ·rintro i x c d l ⟨v,rfl,rfl⟩;obtain⟨n,m,rfl⟩:=Y9 l;have e:((Rb.xorAll (b.take (i+1)):Nat):Int)=Builtin.bitXor (Rb.xorAll (b.take i):Nat) (n:Nat):=by rw[bx,Zx m,Rb.xorAll_snoc]
  refine⟨_,rfl,_,rfl,_,_,rfl,rfl,some (.int n),?_,rfl⟩;rw[e];rfl
 ·rintro c d ⟨v,rfl,rfl⟩;refine⟨_,rfl,?_⟩;rw[ZE,tu (tc _)];exact q
inductive uS(vs:List V)(H:Hp)(Q:VK):Prop
 | mk (D p:Addr) (rs:jf) (R:Rs Str) (hs:List Str):vs=[.ref D,.ref p]->jq H D rs R->H p=some (.lst (hs.map V.str))->((∀z∈hs,∃r∈rs,r.1=z))->(hs.length<=100)->(∀H' L,qi H H'->H L=none->H' L=some (.lst ((VX R hs).map V.str))->Q (.ref L) H')->uS vs H Q
def Du:Sp:=λa H Q _=>uS a H Q
inductive yi(vs:List V)(H:Hp)(Q:VK):Prop
 | mk (D h:Addr) (rs:jf) (R:Rs Str) (hs:List Str):vs=[.ref D,.ref h]->jq H D rs R->Qm H h rs hs->(∀H',qi H H'->Q (.int (Wg rs R hs:Nat)) H')->yi vs H Q
def A7:Sp:=λa H Q _=>yi a H Q
inductive uN(vs:List V)(H:Hp)(Q:VK):Prop
 | mk (D h p:Addr) (rs:jf) (R:Rs Str) (hs:List Str) (m:Nat×Str) (s:Nat):(vs=[.ref D,.ref h,.ref p,.int (s:Nat)])->qj rs->jq H D rs R->Qm H h rs hs->H p=some (.tup (Wm m))->(m∈jO rs hs hs.length)->(∀H',qi H H'->Q (.bl (vB rs R hs s m)) H')->uN vs H Q
def Ac:Sp:=λa H Q _=>uN a H Q
inductive uT(CG:Addr)(vs:List V)(H:Hp)(Q:VK):Prop
 | mk (g D h:Addr) (rs:jf) (R:Rs Str) (hs:List Str):vs=[.ref g,.ref D,.ref h]->GH CG H g h rs hs->jq H D rs R->Qp rs R->oW rs R hs=wD->(∀H' p m,qi H H'->H' p=some (.tup (Wm m))->xo rs R hs m->Q (.ref p) H')->uT CG vs H Q
def Ak(a:Addr):Sp:=λb H Q _=>uT a b H Q
def zV{x:V}{xs:List V}:Wo (x::xs) 0=some x:=by
 obtain⟨v,a,b⟩:=atI_get (xs:=x::xs) (r:=0) (by omega) (by rw[t0];omega);rw[a];exact b.symm
def Xg{α:Type}{l:List α}{x:α}(h:l.head?=some x):∃a,l=x::a:=by
 cases l with
 | nil=>cases h
 | cons y a=>exact⟨a,by rw[tz.inj h]⟩
def ko(a:jq H D rs R)(hz:∃r∈rs,r.1=z):∃t,j0 H D (.str z) (some (.ref t))/\H t=some (.tup (QO rs R z)):=by
 obtain⟨_,c,_,d⟩:=a.at_;obtain⟨r,e,g⟩:=hz;obtain⟨t,a,b⟩:=d r e;rw[g]at a b;exact⟨t,by rw[<-a];exact j0.k (k:=(Sum.inr z:qT)) c,b⟩
def DL:qh ["labels","places"] ["labels","places"] (qc Ka):=jY
def KY(F:jE K "endless_in" "endless_in" Ka f a):qp P w K mg base qN 1 f a ["labels","places"] Du:=by
 refine F.okK DL λH Q E hr z=>?_;obtain⟨D,a,_,R,c,rfl,o,b,p,_,q⟩:=z;refine⟨_,qd (qm (j8 (N':=["place","labels"]) (ix:=[none,some 0]) (tt:=Wy (z5 E4 (z5 (zy K) (zm (qY 1) (qY 0)) (tC (.int 0))) (tC (.str (zdV "endless"))))) (te:=qY 0) (qC (jv 1)) (λ_ _ _ fp _=>
   ⟨qG 0,j7 (qo jl (qB qJ (q5 (jv 1) (jv 0)) qe) qy),jv 0⟩))),?_⟩
 refine⟨_,rfl,a,rfl,⟨_,.of b⟩,λW i=>?_⟩;refine Jn (K:=K) (a:=a) (xs:=c) (enc:=V.str) (out:=λz=>if (qE R z).isNone=true then some (V.str z) else none) (rest:=[some (.ref D)]) i b (ql (by omega)) (λz b X d a g=>?_) (λz b v c X d a g=>?_) (λr u j=>?_)
 ·obtain⟨t,l,a⟩:=ko (o.mono d) (p z b);have d:=g X (qi.refl X);unfold QO at a;cases b:qE R z with
  | some m=>
   rw[b]at a d;refine⟨_,rfl,_,rfl,D,_,rfl,l,t,_,0,_,rfl,rfl,.of a,rfl,rfl,_,rfl,?_⟩;have e:decide (V.str (zdV "number")=V.str (zdV "endless"))=false:=by decide+kernel
   exact e▸d
  | none=>
   rw[b]at a d;exact⟨_,rfl,_,rfl,D,_,rfl,l,t,_,0,_,rfl,rfl,.of a,rfl,rfl,_,rfl,d⟩
 ·have a:v=.str z:=by
   cases b:qE R z with
   | some m=>rw[b]at c;cases c
   | none=>rw[b]at c;exact(tz.inj c).symm
  subst a;exact⟨_,rfl,g X (qi.refl X)⟩
 ·rw[Yt]at j;exact q r W u i j
def Bl:qh ["labels","heap"] ["labels","heap"] (qc UT):=jY
def yO(F:jE K "numbers_sum" "numbers_sum" UT f b)(a:qH K mg "summed" Zy ["numbers"] c d):qp P w K mg base qN 2 f b ["labels","heap"] A7:=by
 have c:=pin P w mg base (xY a.fn);refine F.okK Bl λH Q E hr z=>?_;obtain⟨D,h,_,R,d,rfl,r,b,q⟩:=z;refine⟨_,qd (qm (qv a c (qU (j8 (N':=["place","labels"]) (ix:=[none,some 0]) (tt:=Wy (z5 E4 (z5 (zy K) (zm (qY 1) (qY 0)) (tC (.int 0))) (tC (.str (zdV "number"))))) (te:=z5 (zy K) (zm (qY 1) (qY 0)) (tC (.int 1))) (qC (jv 1)) (λ_ _ _ fp _=>
   ⟨qG 0,j7 (qo jl (qB qJ (q5 (jv 1) (jv 0)) qe) qy),qB qJ (q5 (jv 1) (jv 0)) qe⟩))))),?_⟩
 refine⟨_,rfl,h,rfl,⟨_,.of b.at_⟩,λW a=>?_⟩;refine Jn (K:=K) (a:=h) (xs:=d) (enc:=V.str) (out:=λz=>(qE R z).map λn=>V.int (n:Nat)) (rest:=[some (.ref D)]) a b.at_ (ql (tS b.le (by decide))) (λz l X o a p=>?_) (λz l v g X o a p=>?_) (λx y u=>?_)
 ·obtain⟨t,i,a⟩:=ko (r.mono o) (b.in_ z l);have j:=p X (qi.refl X);unfold QO at a;cases c:qE R z with
  | some m=>
   rw[c]at a j;exact⟨_,rfl,_,rfl,D,_,rfl,i,t,_,0,_,rfl,rfl,.of a,rfl,rfl,_,rfl,j⟩
  | none=>
   rw[c]at a j;refine⟨_,rfl,_,rfl,D,_,rfl,i,t,_,0,_,rfl,rfl,.of a,rfl,rfl,_,rfl,?_⟩;have e:decide (V.str (zdV "endless")=V.str (zdV "number"))=false:=by decide+kernel
   exact e▸j
 ·obtain⟨t,i,a⟩:=ko (r.mono o) (b.in_ z l);unfold QO at a;cases c:qE R z with
  | some m=>
   rw[c]at a g;obtain rfl:=(tz.inj g).symm;exact⟨_,rfl,_,rfl,D,_,rfl,i,t,_,1,_,rfl,rfl,.of a,rfl,p X (qi.refl X)⟩
  | none=>rw[c]at g;cases g
 ·have e:d.filterMap (λz=>(qE R z).map λn=>V.int (n:Nat))=Zf (jR (qE R) d):=by
   unfold Zf jR;rw[List.map_filterMap]
  rw[e]at u;refine⟨W,jR (qE R) d,rfl,.of u,?_⟩;have:=q x y;rw[Q5,<-Jr]at this;exact this
abbrev E5:List Str:=["labels","heap","move","sought"]
def DF:qh E5 E5 (qc Nr):=jY
def BO(F:jE K "makes_sum" "makes_sum" Nr f a)(B:Qo mg)(G:j3 mg)(b:qH K mg "endless_in" Ka ["labels","places"] g i)(hN:qH K mg "numbers_sum" UT ["labels","heap"] l o)(j:qH K mg "left_by" ZU ["heap","move"] p r)(d:qH K mg "summed" Zy ["numbers"] u x):qp P w K mg base qN 3 f a E5 Ac:=by
 have GE:=pin P w mg base (KY b.fn);have i:=pin P w mg base (yO hN.fn d);have o:=pin P w mg base (YZ j.fn G);refine F.okK DF λH Q E hr z=>?_;obtain⟨D,h,p,d,R,a,m,l,rfl,good,C,g,r,u,q⟩:=z;refine⟨_,qb (qF (qo ZW (qu qA (by rfl) B.len boot_len (qU (qv b GE (jr (jv 0) (j5 (jr (qB qR (jv 1) (qB qJ (jv 2) (qe))) (qB qJ (jv 2) (qe)))))))) (qe)) (qd (qm Qx)) qr)
  (qd (qm (jK jl (qv hN i (jr (jv 0) (qv j o (jr (jv 1) (jv 2))))) (jv 3)))),?_⟩
 have lt:=(QH u).1;have O:∃b∈d,b.1=QY a m.1:=g.in_ _ (Zv lt);have T:∃b∈d,b.1=m.2:=J9 good g.in_ u m.2 (by unfold lf;exact List.mem_set lt _);have o:Wo (a.map V.str) ((m.1:Nat):Int)=some (.str (QY a m.1)):=by
  obtain⟨v,x,i⟩:=atI_get (xs:=a.map V.str) (r:=((m.1:Nat):Int)) (by omega) (by rw[ta];omega);rw[x];rw[tp,zaC]at i;have:a[m.1]?=some (QY a m.1):=by unfold QY;rw[th lt,zah,th lt];rfl
  rw[this]at i;exact i.symm
 refine⟨_,rfl,_,rfl,_,rfl,p,_,0,.int (m.1:Nat),rfl,rfl,.of r,rfl,h,_,((m.1:Nat):Int),_,rfl,rfl,.of g.at_,o,_,rfl,p,_,1,.str m.2,rfl,rfl,.of r,rfl,Ze,λo J=>?_⟩;have y:=qf (o:=HO.lst [V.str (QY a m.1),.str m.2]) J;have J:upd H o (HO.lst [V.str (QY a m.1),.str m.2]) o=some (.lst [V.str (QY a m.1),.str m.2]):=qa;generalize upd H o (HO.lst [V.str (QY a m.1),.str m.2])=U at y J;refine⟨D,o,d,R,[QY a m.1,m.2],rfl,C.mono y,J,λz o=>?_,by show 2<=100;decide,λJ L U _ j=>⟨L,_,rfl,.inl (.of j),_,_,rfl,rfl,_,rfl,?_⟩⟩
 ·rcases tI.mp o with e | e
  ·rw[e];exact O
  ·rw[tQ.mp e];exact T
 have j:=y.trans U;by_cases c:qE R (QY a m.1)≠none/\qE R m.2≠none
 ·have o:VX R [QY a m.1,m.2]=[]:=by
   unfold VX;obtain⟨n1,x⟩:=zbl.mp c.1;obtain⟨n2,i⟩:=zbl.mp c.2;simp [x,i]
  rw[o];refine qO (by decide) ⟨_,rfl,_,rfl,_,rfl,h,p,a,m,rfl,j _ _ g.at_,j _ _ r,lt,λp r=>?_⟩;have i:=qf (o:=HO.lst ((a.set m.1 m.2).map V.str)) r;refine⟨D,p,d,R,lf a m,rfl,(C.mono j).mono i,⟨qa,by unfold lf;rw[zby];exact g.le,J9 good g.in_ u⟩,λg p=>⟨_,rfl,rfl,?_⟩⟩;have b:=q g ((j.trans i).trans p);have e:vB d R a l m=decide (V.int (Wg d R (lf a m):Nat)=V.int (l:Nat)):=by
   unfold vB;by_cases k:Wg d R (lf a m)=l
   ·rw[decide_eq_true ⟨c.1,c.2,k⟩,decide_eq_true (by rw[k])]
   ·rw[decide_eq_false (λz=>k z.2.2),decide_eq_false λz=>k (by have:=V.int.inj z;omega)]
  rw[e]at b;exact b
 ·have o:0 < (VX R [QY a m.1,m.2]).length:=by
   rw[zbS];intro z;unfold VX at z;rw[zdl]at z;refine c ⟨λe=>z (QY a m.1) (by simp) (by rw[e];rfl),λe=>z m.2 (by simp) (by rw[e];rfl)⟩
  refine qW (decide_eq_true (by rw[ta];omega)) ?_;have b:=q J j;have e:vB d R a l m=false:=by
   unfold vB;exact decide_eq_false λz=>c ⟨z.1,z.2.1⟩
  rw[e]at b;exact b
abbrev nDB:List Str:=["ground","labels","heap","endless","place","token","road"]
def FQ:qh nDB p3 (qc Kc):=jY
structure CJ(K:zdU)(mg:Str->Option Value):Prop where
 sm:∃f fd,qH K mg "summed" Zy ["numbers"] f fd
 io:∃f fd,qH K mg "is_open_to" zq ["label","number"] f fd
 os:∃f fd,qH K mg "open_roads" Vy ["ground","labels","name"] f fd
 ei:∃f fd,qH K mg "endless_in" Ka ["labels","places"] f fd
 ns:∃f fd,qH K mg "numbers_sum" UT ["labels","heap"] f fd
 ms:∃f fd,qH K mg "makes_sum" Nr E5 f fd
def BT{P:Program}{w:World}{K:zdU}{mg:Str->Option Value}{base:Heap}{f b:Addr}{d:zdY}(F:jE K "drawer_by" "drawer_by" Kc f d)(h:WF K mg)(B:Qo mg)(G:j3 mg)(T:Qb K mg)(M:GM K mg b)(Y:MM K mg)(O:wU K mg)(j:Ru K mg)(a:CJ K mg):qp P w K mg base qN 5 f d p3 (Ak b):=by
 obtain⟨_,_,d⟩:=a.sm;obtain⟨_,_,r⟩:=a.io;obtain⟨_,_,l⟩:=a.os;obtain⟨_,_,b⟩:=a.ei;obtain⟨_,_,g⟩:=a.ns;obtain⟨_,_,m⟩:=a.ms;obtain⟨_,_,a⟩:=j.lb;obtain⟨_,_,o⟩:=j.mo;obtain⟨_,_,u⟩:=O.place;obtain⟨_,_,x⟩:=O.heap;obtain⟨_,_,C⟩:=Y.lack;obtain⟨_,_,j⟩:=M.cls;obtain⟨_,_,p⟩:=M.fr;obtain⟨fn,_,J⟩:=M.isn;have GE:=pin P w mg base (KY b.fn);have U:=pin P w mg base (yO g.fn d);have GK:=pin P w mg base (BO m.fn B G b g a d);have GO:=pin P w mg base (KL l.fn B G T M C h.hN r);have al:=pin P w mg base (XD o.fn B G T M u O.most x);have u:=pin P w mg base (Je p.fn j B G T J);refine F.okK FQ λH Q E hr z=>?_;obtain⟨aa,D,r,a,R,d,rfl,x,C,all,dr,q⟩:=z;have r2:je 2 _:=hr.mono (by decide);refine⟨_,qb (qx 3 (qv b GE (jr (jv 1) (jv 2))))
  (qb (qx 4 (qB qR (jv 3) (qe)))
  (qb (qx 5 (QP zaj zbZ zdh U9 (jv 2) (qU (jv 4))))
  (qb (qF (qo ZW (qu qA (by rfl) B.len boot_len (qU (jv 3))) (qe)) (qd (qm (jW (jr (jv 5) (qB qR (qv b GE (jr (jv 1) (YE p j.cl u r2 (jv 0) (qU (jv 4))))) (qe)))))) qr)
  (qb (ZY 6 (qB qR (qv l GO (Ys (jv 0) (jv 1) (jv 4))) (qe)))
  (qb (qF (qo jl (qv g U (jr (jv 1) (jv 2))) (qB qJ (jv 6) (qe))) (qd (qm (jW (jr (jv 5) (qB qJ (jv 6) (qe)))))) qr)
  (qd (qm (qB qR (j8 (N':=["move","heap","labels","road"]) (ix:=[none,some 2,some 1,some 6]) (tt:=tB (Zg Ac [] E0 (qS (qY 2) (qS (qY 1) (qS (qY 0) (qS (z5 (zy K) (qY 3) (tC (.int 0))) Qw)))))) (te:=qY 0) (qC (qv o al (jr (jv 0) (jv 2)))) (λj s2 H2 fp _=>
   ⟨qG 0,j7 (jn (qv m GK (Hk (jv 2) (jv 1) (jv 0) (qB qJ (jv 3) (qe))))),jv 0⟩)) (qe))))))))),?_⟩
 obtain⟨gr,good,le,j⟩:=x;have L:=Ym (jX good.nd) all;have nm:=zC j.in_;obtain⟨m0,b,J,x⟩:=My good all j.in_ dr;obtain⟨_,U⟩:=Xg J;have l:=zaB J;unfold VX at l;obtain⟨g,m⟩:=tO.mp l;have am:qE R b=none:=by simpa using m
 have l:d.idxOf b < d.length:=zbU.mpr g;have ej:d[d.idxOf b]?=some b:=by rw[th l,zdH l]
 have an:∀i,i < d.idxOf b->d[i]?≠some b:=λi l e=>by
  have lt:i < d.length:=by omega
  rw[th lt]at e;have:=zdn (p:=(·==b)) (xs:=d) (i:=i) l;rw[tz.inj e]at this;simp at this
 have l:=j.le;refine⟨_,rfl,_,rfl,D,r,a,R,d,rfl,C,j.at_,j.in_,by omega,λ_ l m _ o=>?_⟩;have u:=o;rw[U]at u;refine⟨_,rfl,l,_,0,.str b,rfl,rfl,.of u,zV,?_⟩;have u:=j.mono m;refine⟨_,rfl,.inl ⟨rfl,_,.of u.at_⟩,_,rfl,r,d,b,d.idxOf b,rfl,rfl,.of u.at_,ej,an,?_⟩;refine⟨_,rfl,l,_,rfl,.inl (.of o),_,_,rfl,rfl,_,rfl,?_⟩;rcases x with ⟨two,_,u⟩ | ⟨one,y,u,cc⟩
 ·refine qW (decide_eq_true (by rw[ta];omega)) ?_;obtain⟨l,x,er⟩:=tl.mp (nm b g);obtain⟨o,fs,U,_,e2⟩:=(gr.mono m).ins;refine⟨_,rfl,_,rfl,_,rfl,aa,o,fs,rfl,U,e2,_,rfl,aa,a,l,by rw[er];rfl,gr.mono m,x,good.nm l x,λH3 o s3 hl=>?_⟩;have U:=qf (o:=HO.lst ((qP a l).map V.str)) hl;have y4:upd H3 o (HO.lst ((qP a l).map V.str)) o=some (.lst ((qP a l).map V.str)):=qa;generalize upd H3 o (HO.lst ((qP a l).map V.str))=H4 at U y4;have ao:qP a l=Qh a b:=by rw[<-er,Qu good.nd x]
  rw[ao]at y4;have x:=m.trans (s3.trans U);obtain⟨_,ap⟩:=Xg u;refine⟨D,o,a,R,Qh a b,rfl,C.mono x,y4,λz o=>?_,?_,λ_ L2 s5 _ ai=>?_⟩
  ·obtain⟨r2,aq,ar⟩:=tl.mp (L.cl (nm b g) o);exact⟨r2,aq,ar⟩
  ·have:=Xc (rs:=a) b;omega
  ·rw[ap]at ai;refine⟨L2,_,0,.str m0.2,rfl,rfl,.of ai,zV,Ze,λac fp=>?_⟩;exact q _ ac (d.idxOf b,m0.2) ((x.trans s5).trans (qf fp)) qa ⟨b,J,.inl ⟨two,rfl,u⟩⟩
 ·refine qO (decide_eq_false (by rw[ta];omega)) ?_;refine⟨_,rfl,_,rfl,_,rfl,aa,D,a,R,b,rfl,gr.mono m,good,le,C.mono m,L,nm b g,am,λH2 Lo ts s2 _ as aj=>?_⟩;obtain⟨_,ak⟩:=Xg u;obtain⟨g,ab,au⟩:∃g ab,ts=g::ab:=by
   cases ts with
   | nil=>have:=aj.1;rw[ak]at this;cases this
   | cons g ab=>exact⟨g,ab,rfl⟩
  subst au;have av:H2 g=some (.tup (Wm (lst a R b,y))):=aj.2 0 g _ rfl (by rw[ak];rfl);have ae:=m.trans s2;refine⟨Lo,_,0,.ref g,rfl,rfl,.of as,zV,?_⟩;refine⟨_,rfl,_,rfl,D,r,a,R,d,rfl,C.mono ae,j.mono ae,λH3 s3=>?_⟩;have m:=ae.trans s3;have af:=s3 _ _ av;refine⟨_,rfl,g,_,0,_,rfl,rfl,.of af,rfl,rfl,_,rfl,?_⟩;rcases cc with ⟨et,_⟩ | ⟨nt,em⟩
  ·refine qW (decide_eq_true (by rw[et])) ⟨_,rfl,_,rfl,g,_,1,_,rfl,rfl,.of af,rfl,Ze,λac fp=>?_⟩;exact q _ ac (d.idxOf b,y) (m.trans (qf fp)) qa ⟨b,J,.inr ⟨one,y,u,.inl ⟨et,rfl⟩⟩⟩
  ·refine qO (decide_eq_false λz=>nt (by have:=V.int.inj z;omega)) ?_;refine⟨_,rfl,_,rfl,aa,r,a,d,rfl,gr.mono m,good,le,j.mono m,λH4 Lm _ U _ ag aw=>⟨Lm,rfl,⟨_,.of ag⟩,λW hW=>?_⟩⟩;have x:=m.trans U;obtain⟨m,x1,x2,hx⟩:=aw.pts;have az:(jO a d d.length).length<=112:=by
    have:=zE good le j.in_ d.length (tc _);omega
   have aA:m.length<=112:=by
    have:=congrArg zad x2;rw[ta]at this;omega
   have ax:∀z∈m,z.2∈jO a d d.length:=λz o=>by rw[<-x2];exact tl.mpr ⟨z,o,rfl⟩
   have ay:H4 Lm=some (.lst (m.map λz=>V.ref z.1)):=by
    rw[<-x1,zav]at ag;exact ag
   refine Jn (K:=K) (a:=Lm) (xs:=m) (enc:=λz=>V.ref z.1) (out:=λz=>if vB a R d (lst a R b) z.2=true then some (V.ref z.1) else none) (rest:=[some (.ref r),some (.ref D),some (.ref g)]) hW ay (ql (by omega)) (λz o Y sY Rr p=>?_) (λz o v ev Y sY Rr p=>?_) (λH8 s8 ah=>?_)
   ·refine⟨_,rfl,_,rfl,_,rfl,_,rfl,g,_,0,_,rfl,rfl,.of (sY _ _ (U _ _ af)),rfl,D,r,z.1,a,R,d,z.2,lst a R b,rfl,good,C.mono (x.trans sY),j.mono (x.trans sY),sY _ _ (hx z o),ax z o,λg j=>⟨_,rfl,?_⟩⟩;have l:=p g j;cases c:vB a R d (lst a R b) z.2<;>rw[c]at l<;>exact l
   ·have g:v=.ref z.1:=by
     cases c:vB a R d (lst a R b) z.2
     ·rw[c]at ev;cases ev
     ·rw[c]at ev;exact(tz.inj ev).symm
    subst g;exact⟨_,rfl,p Y (qi.refl Y)⟩
   ·rw[Yt]at ah;have j:(m.filter λz=>vB a R d (lst a R b) z.2).map (·.2)=(jO a d d.length).filter (vB a R d (lst a R b)):=by
     rw[<-x2,zds];rfl
    obtain⟨_,g⟩:=Xg em;rw[g]at j;obtain⟨g,l,o⟩:∃g l,(m.filter λz=>vB a R d (lst a R b) z.2)=g::l:=by
     cases c:(m.filter λz=>vB a R d (lst a R b) z.2) with
     | nil=>rw[c]at j;cases j
     | cons g l=>exact⟨g,l,rfl⟩
    rw[o]at j ah;have a:g.2=m0:=(zcF.inj j).1;have d:g∈m:=(tO.mp (by rw[o];exact tE)).1;refine⟨W,_,0,.ref g.1,rfl,rfl,.of ah,zV,?_⟩;exact q H8 g.1 m0 (x.trans s8) (by rw[<-a];exact s8 _ _ (hx g d)) ⟨b,J,.inr ⟨one,y,u,.inr ⟨nt,em⟩⟩⟩
open PySem L2 MLab Rb
open PyProof.Rows hiding K lo
abbrev UU:Stmt:=top 72
def Z1(rs:jf)(R:Rs Str)(hs:List Str)(m:Nat×Str):Prop:=(oW rs R hs=wW/\Qz rs R hs m)\/(oW rs R hs=wD/\xo rs R hs m)\/(oW rs R hs=wL/\m∈jO rs hs hs.length)
inductive uE(CG PT:Addr)(vs:List V)(H:Hp)(Q:VK):Prop
 | mk (g D h:Addr) (rs:jf) (R:Rs Str) (hs:List Str):vs=[.ref g,.ref D,.ref h]->GH CG H g h rs hs->jq H D rs R->Qp rs R->(jO rs hs hs.length≠[])->((∃tq,H PT=some (.tbl #[.str YK tq])))->(∀H' p m,qi H H'->H' p=some (.tup (Wm m))->Z1 rs R hs m->Q (.ref p) H')->uE CG PT vs H Q
def ya(a PT:Addr):Sp:=λb H Q _=>uE a PT b H Q
abbrev QU:Stmt:=(qX Qg).getD 1 (.Pass ⟨0,0,0,0⟩)
def J8:Str:=(zdV "player"++zdV ".<locals>.")++zdV "tell"
inductive M6(CG PT:Addr)(ws:List (Str×V))(vs:List V)(H:Hp)(Q:VK):Prop
 | mk (g D h:Addr) (rs:jf) (R:Rs Str) (hs:List Str):ws=[(zdV "ground",.ref g),(zdV "labels",.ref D)]->vs=[.ref h]->GH CG H g h rs hs->jq H D rs R->Qp rs R->(jO rs hs hs.length≠[])->((∃tq,H PT=some (.tbl #[.str YK tq])))->(∀H' p m,qi H H'->H' p=some (.tup (Wm m))->Z1 rs R hs m->Q (.ref p) H')->M6 CG PT ws vs H Q
def Dk(a PT:Addr)(b:List (Str×V)):Sp:=λc H Q _=>M6 a PT b c H Q
abbrev vL(b PT PP f:Addr)(c:zdY):Sp:=λd H Q E=>∃a,wV H PP f "tell" J8 QU c a/\Dk b PT a d H Q E
inductive WG(CG PP:Addr)(vs:List V)(H:Hp)(Q:VK):Prop
 | mk (g:Addr) (rs:jf):vs=[.ref g]->jZ CG H g rs->qj rs->(rs.length<=14)->((∃tq,H PP=some (.tbl #[.str J8 tq])))->(∀H' f fd D R,qi H H'->jq H' D rs R->Qp rs R->wV H' PP f "tell" J8 QU fd [(zdV "ground",.ref g),(zdV "labels",.ref D)]->Q (.ref f) H')->WG CG PP vs H Q
def Xm(a PP:Addr):Sp:=λb H Q _=>WG a PP b H Q
inductive yj(CG PT:Addr)(vs:List V)(H:Hp)(Q:VK):Prop
 | mk (g h:Addr) (rs:jf) (hs:List Str):vs=[.ref g,.ref h]->GH CG H g h rs hs->((∃tq,H PT=some (.tbl #[.str YK tq])))->(∀R,Qp rs R->oW rs R hs≠wD/\(oW rs R hs=wL->∀H',qi H H'->Q (.int (2*zf R hs:Nat)) H')/\(oW rs R hs=wW->∀H' m,qi H H'->Qz rs R hs m->Q (.int (1+2*zf R (lf hs m):Nat)) H'))->yj CG PT vs H Q
def uM(a PT:Addr):Sp:=λb H Q _=>yj a PT b H Q
abbrev nPB:List Str:=["ground","labels","heap","found","moves"]
def FA:qh nPB p3 (qc vS):=jY
def BL{P:Program}{w:World}{K:zdU}{mg:Str->Option Value}{base:Heap}{f a PT b d e g:Addr}{i j l o p:zdY}(F:jE K "player_by" "player_by" vS f i)(B:Qo mg)(u:qH K mg "outcome_by" xK ["labels","heap"] b j)(v:qp P w K mg base qN 9 b j ["labels","heap"] yh)(x:qH K mg "winner_by" Jc p3 d l)(y:qp P w K mg base qN 12 d l p3 (Vq a PT))(C:qH K mg "drawer_by" Kc p3 e o)(J:qp P w K mg base qN 5 e o p3 (Ak a))(L:qH K mg "moves_of" Qa ["ground","heap"] g p)(O:qp P w K mg base qN 4 g p ["ground","heap"] (JQ a)):qp P w K mg base qN 13 f i p3 (ya a PT):=by
 refine F.okK FA λH Q E hr z=>?_;obtain⟨p,D,h,b,R,a,rfl,i,r,all,ne,⟨j,tb⟩,q⟩:=z;have ⟨d,good,le,e⟩:=i;refine⟨_,qb (qx 3 (qv u v (jr (jv 1) (jv 2))))
  (qb (qF (qo jl (jv 3) (qy)) (qd (qm (qv x y (Ys (jv 0) (jv 1) (jv 2))))) qr)
  (qb (qF (qo jl (jv 3) (qy)) (qd (qm (qv C J (Ys (jv 0) (jv 1) (jv 2))))) qr)
  (qb (qx 4 (qv L O (jr (jv 0) (jv 2))))
  (qb (qF (qo jl (qu qA (by rfl) B.len boot_len (qU (jv 4))) (qe)) (qD) qr)
  (qd (qm (qB qR (jv 4) qe))))))),?_⟩
 refine⟨_,rfl,_,rfl,D,h,b,R,a,rfl,r,e,yQ good all e.in_,λ_ d=>⟨_,rfl,rfl,_,rfl,?_⟩⟩;have g:=i.mono d;by_cases c:oW b R a=wW
 ·refine qW (decide_eq_true (congrArg V.str c)) ⟨_,rfl,_,rfl,_,rfl,p,D,h,b,R,a,rfl,g.1,good,le,r.mono d,all,g.2.2.2,vD good all e.in_ c,⟨j,d _ _ tb⟩,λi e m j l o=>q i e m (d.trans j) l (.inl ⟨c,o⟩)⟩
 ·refine qO (decide_eq_false λz=>c (V.str.inj z)) ⟨_,rfl,rfl,_,rfl,?_⟩;by_cases o:oW b R a=wD
  ·exact qW (decide_eq_true (congrArg V.str o)) ⟨_,rfl,_,rfl,_,rfl,p,D,h,b,R,a,rfl,g,r.mono d,all,o,λi e m j l r=>q i e m (d.trans j) l (.inr (.inl ⟨o,r⟩))⟩
  ·refine qO (decide_eq_false λz=>o (V.str.inj z)) ?_;have r:oW b R a=wL:=by rcases VG (rs:=b) (R:=R) (hs:=a) with z | z | z<;>first | exact z | exact absurd z o | exact absurd z c
   refine⟨_,rfl,_,rfl,p,h,b,a,rfl,g.1,good,le,g.2.2.2,λi g o j _ p mv=>⟨_,rfl,g,_,rfl,.inl (.of p),rfl,_,rfl,?_⟩⟩;obtain⟨u,v⟩:=mv;cases o with
   | nil=>exact absurd (zao u.symm) ne
   | cons e o=>
    refine qO (decide_eq_false λz=>by injection z with z;simp at z;omega) ?_;cases em:jO b a a.length with
    | nil=>exact absurd em ne
    | cons m a=>
     have l:=v 0 e m rfl (by rw[em];rfl);exact⟨_,rfl,g,_,0,.ref e,rfl,rfl,.of p,ZJ (j:=0) rfl,q i e m (d.trans j) l (.inr (.inr ⟨r,by rw[em];exact tE⟩))⟩
def Bf:Zu ["heap","ground","labels"] ["heap"] ["ground","labels"] (qc QU):=⟨rfl,rfl,rfl,by decide+kernel,rfl,by decide+kernel,by decide+kernel,by decide+kernel,by decide+kernel⟩
def NO{P:Program}{w:World}{K:zdU}{mg:Str->Option Value}{base:Heap}{PP PT a f b c:Addr}{d e g:zdY}(i:qH K mg "need_heap" QA ["ground","heap"] b e)(j:qp P w K mg base qN 3 b e ["ground","heap"] (Q0 a))(l:qH K mg "player_by" vS p3 c g)(o:qp P w K mg base qN 13 c g p3 (ya a PT)):qp P w K mg base qN 14 f d ["heap"] (vL a PT PP f d):=by
 refine Rg (PT:=PP) (name:="tell") (qual:=J8) (st:=QU) (fr:=["ground","labels"]) (sp:=Dk a PT) Bf (λa b H Q E h=>?_) (λ_ _ A _ s H a b Q E hr h=>?_)
 ·obtain⟨b,D,h,c,R,d,rfl,rfl,_⟩:=h;exact⟨rfl,rfl⟩
 ·obtain⟨b,D,h,c,R,d,rfl,rfl,e,g,all,nl,⟨p,tb⟩,q⟩:=h;refine⟨_,qb (ji (qv i j (jr (jv 1) (jv 0))))
   (qd (qm (qv l o (Ys (jv 1) (jv 2) (jv 0))))),?_⟩
  refine⟨_,rfl,_,rfl,b,h,c,d,rfl,e.1,e.2.2.2,λ_ a=>?_⟩;exact⟨_,rfl,_,rfl,_,rfl,b,D,h,c,R,d,rfl,e.mono a,g.mono a,all,nl,⟨p,a _ _ tb⟩,λb c m d e pm=>q b c m (a.trans d) e pm⟩
abbrev nPr:List Str:=["ground","labels","tell"]
def Bh:qh nPr ["ground"] (qc Qg):=jY
def x3(F:jE K "player" "player" Qg f a)(b:a.code=.ref c)(d:Yw mg base c PP)(g:qH K mg "labels_of" JV ["ground"] i j)(l:qp P w K mg base qN 8 i j ["ground"] (zo m)):qp P w K mg base qN 9 f a ["ground"] (Xm m PP):=by
 refine F.okB b Bh (λa H Q E h=>?_) (λA i s H a Q E hr h=>?_)
 ·obtain⟨a,b,rfl,_⟩:=h;rfl
 ·obtain⟨a,b,rfl,j,good,le,⟨m,tb⟩,q⟩:=h;refine⟨_,VC (XR (i:=1) Bh.nd rfl (Or.inr rfl) (qv g l (qU (jv 0)))) (Kv (i:=2) (c:=c) (P:=PP) (qual:=J8) d Bh.nd rfl rfl rfl rfl rfl (λ_=>rfl) rfl rfl rfl (AB (qd (qm (jv 2))))),?_⟩;refine⟨_,rfl,a,b,rfl,j,good,le,λ_ D R o _ v all=>?_⟩;refine⟨⟨m,o _ _ tb⟩,λp b d pm g j r mk=>?_⟩;have B:wV r PP p "tell" J8 QU (zcT "tell" J8 (jL QU) (qX QU) (qc QU) (qK (zS qN P w K mg base nPr "player" (qc Qg) f (.ref c) A i s H E).env (qc QU).names []) .none .none d pm none (.ref b) g) [(zdV "ground",.ref a),(zdV "labels",.ref D)]:=by
   refine⟨d,pm,g,b,_,j,rfl,mk.fn,mk.cd,mk.cq,mk.inj,λx _ e=>?_,λx b d=>?_⟩
   ·rcases j1 e with z | ⟨z,_⟩
    ·simp at z
    ·have:∀y∈(qc QU).names,y.2=.free->y.1∈[zdV "ground",zdV "labels"]:=by decide+kernel
     exact this _ z rfl
   ·have g:(x=zdV "ground"/\b=.ref a)\/(x=zdV "labels"/\b=.ref D):=by simpa using d
    rcases g with ⟨rfl,rfl⟩ | ⟨rfl,rfl⟩
    ·have b:(zdV "ground",NameKind.free)∈(qc QU).names:=by decide+kernel
     obtain⟨d,co,C,g,i,j,l⟩:=mk.cells _ b;obtain⟨u,rfl,m⟩:=l 0 (.ref a) rfl rfl;exact⟨d,co,u,g,i,j,m⟩
    ·have b:(zdV "labels",NameKind.free)∈(qc QU).names:=by decide+kernel
     obtain⟨d,co,C,g,i,j,l⟩:=mk.cells _ b;obtain⟨u,rfl,m⟩:=l 1 (.ref D) rfl rfl;exact⟨d,co,u,g,i,j,m⟩
  exact⟨_,rfl,q r p _ D R (o.trans mk.same) (v.mono mk.same) all B⟩
def CTl(b PT PP:Addr)(f:Addr)(a:zdY)(sp:Sp):Prop:=(∃(c pm d:Value) (e:Addr) (g:List (Str×Addr)),a=zcT "tell" J8 (jL QU) (qX QU) (qc QU) g .none .none c pm none (.ref e) d)/\sp=vL b PT PP f a
def Ct{P:Program}{w:World}{K:zdU}{mg:Str->Option Value}{base:Heap}{PP PT b c d:Addr}{e g:zdY}(i:qH K mg "need_heap" QA ["ground","heap"] c e)(j:qp P w K mg base qN 3 c e ["ground","heap"] (Q0 b))(l:qH K mg "player_by" vS p3 d g)(m:qp P w K mg base qN 13 d g p3 (ya b PT)):∀f a sp,CTl b PT PP f a sp->qp P w K mg base qN 14 f a ["heap"] sp/\jN K a ["heap"] []:=by
 rintro f a sp ⟨⟨_,pm,_,_,_,rfl⟩,rfl⟩;exact⟨NO i j l m,.all λ_ a=>by obtain⟨_,rfl⟩:=kl a;rfl⟩
def DE:qh ["ground","heap","labels","found"] ["ground","heap"] (qc UU):=jY
def NW{P:Program}{w:World}{K:zdU}{mg:Str->Option Value}{base:Heap}{f a PT d e g i j l:Addr}{o p r u v x y:zdY}(F:jE K "most_moves" "most_moves" UU f o)(D:qH K mg "labels_of" JV ["ground"] d p)(J:qp P w K mg base qN 8 d p ["ground"] (zo a))(L:qH K mg "need_heap" QA ["ground","heap"] e r)(O:qp P w K mg base qN 3 e r ["ground","heap"] (Q0 a))
  (T:qH K mg "outcome_by" xK ["labels","heap"] g u) (U:qp P w K mg base qN 9 g u ["labels","heap"] yh) (Y:qH K mg "winner_by" Jc p3 i v) (GW:qp P w K mg base qN 12 i v p3 (Vq a PT)) (B:qH K mg "count_by" Zh ["labels","heap"] j x) (C:qp P w K mg base qN 1 j x ["labels","heap"] yu)
  (hL:qH K mg "left_by" ZU ["heap","move"] l y) (GL:qp P w K mg base qN 1 l y ["heap","move"] Vs):qp P w K mg base qN 13 f o ["ground","heap"] (uM a PT):=by
 refine F.okK DE λH Q E hr z=>?_
 ·obtain⟨p,h,d,a,rfl,⟨r,good,le,e⟩,⟨x,y⟩,q⟩:=z;refine⟨_,qb (ji (qv L O (jr (jv 0) (jv 1))))
 (qb (qx 2 (qv D J (qU (jv 0))))
 (qb (qx 3 (qv T U (jr (jv 2) (jv 1))))
 (qb (qF (qo jl (jv 3) (qy)) (qd (qm (qL QR qe (qv B C (jr (jv 2) (jv 1)))))) qr)
 (qb (qF (qo jl (jv 3) (qy)) (qd (qm (qL Qj qe (qL QR qe (qv B C (jr (jv 2) (qv hL GL (jr (jv 1) (qv Y GW (Ys (jv 0) (jv 2) (jv 1))))))))))) qr) qD)))),?_⟩
  refine⟨_,rfl,_,rfl,p,h,d,a,rfl,r,e,λ_ g=>⟨_,rfl,p,d,rfl,r.mono g,good,le,λ_ i R l _ j all=>?_⟩⟩;have o:=g.trans l;obtain⟨B,u,C⟩:=q R all;refine⟨_,rfl,_,rfl,i,h,d,R,a,rfl,j,e.mono o,yQ good all e.in_,λ_ l=>⟨_,rfl,rfl,_,rfl,?_⟩⟩;have g:=o.trans l;have o:Z7 (Qv (a.map (wT d R)))=oW d R a:=rfl;rw[o];by_cases c:oW d R a=wL
  ·refine qW (by rw[c];decide+kernel) ⟨_,rfl,_,rfl,i,h,d,R,a,rfl,le,j.mono l,all,e.mono g,XG c,λv o=>⟨_,_,rfl,rfl,.inl ⟨by decide,by decide⟩,?_⟩⟩;have:=u c v (g.trans o);rw[Int.natCast_mul]at this;exact this
  ·refine qO (decide_eq_false λz=>c (V.str.inj z)) ⟨_,rfl,rfl,_,rfl,?_⟩;have u:oW d R a=wW:=by rcases VG (rs:=d) (R:=R) (hs:=a) with z | z | z<;>first | exact z | exact absurd z c | exact absurd z B
   refine qW (by rw[u];decide+kernel) ⟨_,rfl,_,rfl,_,rfl,_,rfl,_,rfl,p,i,h,d,R,a,rfl,r.mono g,good,le,j.mono l,all,e.mono g,vD good all e.in_ u,⟨x,g _ _ y⟩,λv r m o v b=>?_⟩;have p:=g.trans o;refine⟨h,r,a,m,rfl,p _ _ e.at_,v,(QH b.mem.1).1,λr v=>?_⟩;have g:=qf (o:=HO.lst ((a.set m.1 m.2).map V.str)) v;refine⟨i,r,d,R,lf a m,rfl,le,(j.mono (l.trans o)).mono g,all,⟨qa,by unfold lf;rw[zby];exact e.le,J9 good e.in_ b.mem.1⟩,XG b.mem.2,λa d=>⟨_,_,rfl,rfl,.inl ⟨by decide,by decide⟩,_,_,rfl,rfl,?_⟩⟩;have:=C u a m ((p.trans g).trans d) b;rw[Int.natCast_add,Int.natCast_mul]at this;exact this
open PySem L2 MLab Rb
open PyProof.Rows hiding K lo
abbrev WQ:Stmt:=top 39
abbrev zr:Stmt:=top 40
abbrev Yg:Stmt:=top 42
abbrev u6:Stmt:=top 85
abbrev UR:Stmt:=top 87
abbrev Zz:Stmt:=top 86
def vm(m:Nat×Str):PyData.eqv (mD m) (mD m)=true:=by
 show (((m.1:Int)==(m.1:Int))&&((m.2==m.2)&&true))=true;simp
def Mw(rs:jf):List Str->List (Nat×Str)->Prop
 | _,[]=>True
 | a,m::b=>m∈jO rs a a.length/\Mw rs (lf a m) b
def qz:List Str->List (Nat×Str)->List Str
 | a,[]=>a
 | a,m::b=>qz (lf a m) b
def hps:List Str->List (Nat×Str)->List (List Str)
 | a,[]=>[a]
 | a,m::b=>a::hps (lf a m) b
def W4(hs:List Str)(ms:List (Nat×Str))(m:Nat×Str):qz hs (ms++[m])=lf (qz hs ms) m:=by
 induction ms generalizing hs with
 | nil=>rfl
 | cons a ms b=>exact b _
def Mp(hs:List Str)(ms:List (Nat×Str))(m:Nat×Str):hps hs (ms++[m])=hps hs ms++[lf (qz hs ms) m]:=by
 induction ms generalizing hs with
 | nil=>rfl
 | cons a ms b=>exact congrArg (hs::·) (b _)
def Xa(hs:List Str)(ms:List (Nat×Str)):(hps hs ms).length=ms.length+1:=by
 induction ms generalizing hs with
 | nil=>rfl
 | cons a ms b=>exact congrArg zdb (b _)
def GN(hs:List Str)(ms:List (Nat×Str)):∀i,i<=ms.length->(hps hs ms)[i]?=some (qz hs (ms.take i)):=by
 induction ms generalizing hs with
 | nil=>intro i h;obtain rfl:i=0:=Nat.le_zero.mp h;rfl
 | cons a ms b=>
  intro i h;cases i with
  | zero=>rfl
  | succ i=>exact b _ i (Nat.le_of_succ_le_succ h)
def Mw.app(h:Mw rs hs (ms++ns)):Mw rs hs ms/\Mw rs (qz hs ms) ns:=by
 induction ms generalizing hs with
 | nil=>exact⟨trivial,h⟩
 | cons a ms b=>exact⟨⟨h.1,(b h.2).1⟩,(b h.2).2⟩
def Mw.mk(h:Mw rs hs ms)(k:m∈jO rs (qz hs ms) (qz hs ms).length):Mw rs hs (ms++[m]):=by
 induction ms generalizing hs with
 | nil=>exact⟨k,trivial⟩
 | cons a ms b=>exact⟨h.1,b h.2 k⟩
def Mw.at_(h:Mw rs hs ms)(c:i < ms.length):Mw rs hs (ms.take i)/\ms[i]∈jO rs (qz hs (ms.take i)) (qz hs (ms.take i)).length/\qz hs (ms.take (i+1))=lf (qz hs (ms.take i)) ms[i]:=by
 have z:=Mw.app (rs:=rs) (hs:=hs) (ms:=ms.take i) (ns:=ms.drop i) (by rw[zbG];exact h);have a:=z.2;rw[zcP c]at a;refine⟨z.1,a.1,?_⟩;rw[tM,th c];exact W4 _ _ _
def ZR(rs:jf)(hs:List Str):Prop:=hs.length<=8/\∀z∈hs,∃a∈rs,a.1=z
def ZR.set(o:ZR rs hs)(g:qj rs)(h:m∈jO rs hs hs.length):ZR rs (lf hs m):=⟨by unfold lf;rw[zby];exact o.1,J9 g o.2 h⟩
def ZR.last(g:qj rs)(o:ZR rs hs)(h:Mw rs hs ms):ZR rs (qz hs ms):=by
 induction ms generalizing hs with
 | nil=>exact o
 | cons m ms a=>exact a (o.set g h.1) h.2
def Wb(H:Hp)(ls:List Addr)(hss:List (List Str)):Prop:=ls.length=hss.length/\∀(i:Nat) (a:Addr) (b:List Str),ls[i]?=some a->hss[i]?=some b->H a=some (.lst (b.map V.str))
def Wb.snoc{hs:List Str}(h:Wb H ls hss)(j:H a=some (.lst (hs.map V.str))):Wb H (ls++[a]) (hss++[hs]):=by
 refine⟨by rw[tm,tm,h.1];rfl,λi b e c d=>?_⟩;by_cases g:i < ls.length
 ·rw[tV g]at c;rw[tV (by rw[<-h.1];exact g)]at d;exact h.2 i b e c d
 ·rw[tP (by omega)]at c;rw[tP (by rw[<-h.1];omega),<-h.1]at d;have g:=(td.mp c).1;have l:i - ls.length=0:=by simp at g;omega
  rw[l]at c d;obtain rfl:a=b:=by simpa using c
  obtain rfl:hs=e:=by simpa using d
  exact j
def xh:Wo (a++[v]) (-1)=some v:=by
 unfold Wo Gv;rw[if_neg (by decide),if_pos (by rw[tm,t7];omega)];show (a++[v])[(-1+((a++[v]).length:Int)).toNat]?=some v;have e:(-1+((a++[v]).length:Int)).toNat=a.length:=by rw[tm,t7];omega
 rw[e,tP (tc _),zbN];rfl
inductive yb(CG:Addr)(vs:List V)(H:Hp)(Q:VK):Prop
 | mk (g h:Addr) (rs:jf) (hs:List Str):vs=[.ref g,.ref h]->GH CG H g h rs hs->(∀H',qi H H'->Q (.bl (jO rs hs hs.length).isEmpty) H')->yb CG vs H Q
def vM(a:Addr):Sp:=λb H Q _=>yb a b H Q
inductive WK(CG:Addr)(vs:List V)(H:Hp)(Q:VK):Prop
 | mk (g h p:Addr) (rs:jf) (hs:List Str) (m:Nat×Str):vs=[.ref g,.ref h,.ref p]->GH CG H g h rs hs->H p=some (.tup (Wm m))->(m∈jO rs hs hs.length)->(∀H',qi H H'->Q (.bl true) H')->WK CG vs H Q
def UJ(a:Addr):Sp:=λb H Q _=>WK a b H Q
inductive UP(CG:Addr)(vs:List V)(H:Hp)(Q:VK):Prop
 | mk (g h p:Addr) (rs:jf) (hs:List Str) (m:Nat×Str):vs=[.ref g,.ref h,.ref p]->GH CG H g h rs hs->H p=some (.tup (Wm m))->(m∈jO rs hs hs.length)->(∀H' l,qi H H'->H l=none->H' l=some (.lst ((lf hs m).map V.str))->Q (.ref l) H')->UP CG vs H Q
def Vv(a:Addr):Sp:=λb H Q _=>UP a b H Q
def YI(n:Nat):Str:=if n % 2=0 then zdV "second" else zdV "first"
inductive uw(vs:List V)(H:Hp)(Q:VK):Prop
 | mk (n:Nat):(vs=[.int (n:Nat)])->(Q (.str (YI n)) H)->uw vs H Q
def Dj:Sp:=λa H Q _=>uw a H Q
inductive k3(CG:Addr)(vs:List V)(H:Hp)(Q:VK):Prop
 | mk (g h l:Addr) (rs:jf) (hs:List Str) (qs:List Addr) (ms:List (Nat×Str)):vs=[.ref g,.ref h,.ref l]->GH CG H g h rs hs->H l=some (.lst (qs.map V.ref))->jM H qs ms->Mw rs hs ms->(ms.length<=300)->(∀H' L ls,qi H H'->H' L=some (.lst (ls.map V.ref))->Wb H' ls (hps hs ms)->Q (.ref L) H')->k3 CG vs H Q
def ux(a:Addr):Sp:=λb H Q _=>k3 a b H Q
abbrev p2:List Str:=["ground","heap"]
def FC:qh p2 p2 (qc WQ):=jY
def NR(F:jE K "is_over" "is_over" WQ f b)(B:Qo mg)(d:qH K mg "moves_of" Qa p2 c g)(i:qp P w K mg base qN 4 c g p2 (JQ j)):qp P w K mg base qN 5 f b p2 (vM j):=by
 refine F.okK FC λH Q E hr h=>?_;obtain⟨g,j,c,b,rfl,⟨l,m,le,o⟩,q⟩:=h;refine⟨_,qd (qm (jK jl (qu qA (by rfl) B.len boot_len (qU (qv d i (jr (jv 0) (jv 1))))) qe)),?_⟩;refine⟨_,rfl,_,rfl,g,j,c,b,rfl,l,m,le,o,λg d i j _ l mv=>⟨d,_,rfl,.inl (.of l),rfl,?_⟩⟩;have e:decide (V.int ((i.map V.ref).length:Nat)=V.int 0)=(jO c b b.length).isEmpty:=by
  rw[ta,mv.1];cases jO c b b.length with
  | nil=>rfl
  | cons a d=>
   refine decide_eq_false λz=>?_;have:=V.int.inj z;rw[t0]at this;omega
 rw[e];exact q g j
abbrev CQ:List Str:=["ground","heap","thing"]
def FL:qh CQ CQ (qc zr):=jY
def x9(F:jE K "is_move" "is_move" zr f a)(B:Qo mg)(G:j3 mg)(T:Qb K mg)(l:qH K mg "moves_of" Qa p2 b c)(o:qp P w K mg base qN 4 b c p2 (JQ d))(p:qH K mg "is_whole" JR ["thing"] g i)(r:qp P w K mg base qN 1 g i ["thing"] Up):qp P w K mg base qN 5 f a CQ (UJ d):=by
 refine F.okK FL λH Q E hr h=>?_;obtain⟨u,v,i,b,a,m,rfl,⟨x,d,le,g⟩,c,j,q⟩:=h;refine⟨_,qb (qF (JW.pt (Ji (j4 (jn (qu jA (by rfl) T.isi boot_isinstance (jr (jv 2) (QJ (v:=.ty "tuple") (by rfl) G.tup boot_tuple rfl))))) (Ji (qo ZV (qu qA (by rfl) B.len boot_len (qU (jv 2))) (qe)) (QC (j4 (jn (qv p r (qU (qB qJ (jv 2) (qe)))))))))) (qd (qm Qx)) qr)
  (qd (qm (jK (BE hr.units) (jv 2) (qv l o (jr (jv 0) (jv 1))) (by with_unfolding_all rfl)))),?_⟩
 refine⟨_,rfl,_,_,_,_,rfl,rfl,.tup c,T.ktt,_,rfl,jG ⟨_,rfl,i,_,rfl,.inr (.of c),rfl,_,rfl,qO rfl ?_⟩⟩;refine⟨_,rfl,i,_,0,_,rfl,rfl,.of c,rfl,_,rfl,_,rfl,jG ?_⟩;refine⟨_,rfl,_,rfl,_,rfl,u,v,b,a,rfl,x,d,le,g,λi _ _ l _ o mv=>?_⟩;refine⟨mD m,(jO b a a.length).map mD,Rv (l _ _ c),.lst (.of o) (kI mv),?_,kC (XL d g.in_),by show 1<=40;decide,?_⟩
 ·show (true&&(PyData.strOk m.2&&true))=true;rw[Y5 (XL d g.in_ m j)];rfl
 ·show Q (.bl (((jO b a a.length).map mD).any λz=>PyData.eqv z (mD m))) i;have e:(((jO b a a.length).map mD).any λz=>PyData.eqv z (mD m))=true:=zaI.mpr ⟨mD m,tl.mpr ⟨m,j,rfl⟩,vm m⟩;rw[e];exact q i l
abbrev AG:List Str:=["ground","heap","move"]
def FS:qh AG AG (qc Yg):=jY
def KZ(F:jE K "after" "after" Yg f b)(e:qH K mg "need_heap" QA p2 c d)(o:qp P w K mg base qN 3 c d p2 (Q0 a))(p:qH K mg "is_move" zr CQ g i)(r:qp P w K mg base qN 5 g i CQ (UJ a))(u:qH K mg "left_by" ZU ["heap","move"] j l)(v:qp P w K mg base qN 1 j l ["heap","move"] Vs):qp P w K mg base qN 6 f b AG (Vv a):=by
 refine F.okK FS λH Q E hr h=>?_;obtain⟨b,c,g,i,d,m,rfl,a,j,l,q⟩:=h;refine⟨_,qb (ji (qv e o (jr (jv 0) (jv 1))))
  (qb (qF (j4 (jn (qv p r (Ys (jv 0) (jv 1) (jv 2))))) (qD) qr)
  (qd (qm (qv u v (jr (jv 1) (jv 2)))))),?_⟩
 refine⟨_,rfl,_,rfl,b,c,i,d,rfl,a.1,a.2.2.2,λ_ e=>?_⟩;refine⟨_,rfl,_,rfl,_,rfl,b,c,g,i,d,m,rfl,a.mono e,e _ _ j,l,λ_ i=>⟨_,rfl,jG ?_⟩⟩;have b:=e.trans i;refine⟨_,rfl,_,rfl,c,g,d,m,rfl,(a.mono b).2.2.2.at_,b _ _ j,(QH l).1,λc a=>?_⟩;exact q _ c (b.trans (qf a)) (jU b a) qa
def Dx:qh ["made"] ["made"] (qc u6):=jY
def BJ(F:jE K "who_won" "who_won" u6 f a):qp P w K mg base qN 1 f a ["made"] Dj:=by
 refine F.okK Dx λH Q E hr h=>?_;obtain⟨n,rfl,q⟩:=h;refine⟨_,qb (qF (qo jl (qL Qr (jv 0) qe) qe) (qd (qm qy)) qr) (qd (qm qy)),?_⟩;refine⟨_,rfl,_,_,rfl,rfl,(by show (0:Int) < 2;decide),rfl,_,rfl,?_⟩;unfold YI at q;rcases zbk n with e | e
 ·rw[if_pos e]at q;exact qW (decide_eq_true (by show V.int ((n:Int) % 2)=V.int 0;rw[show (n:Int) % 2=0 by omega])) q
 ·rw[if_neg (by omega)]at q;exact qO (decide_eq_false λz=>by have z:V.int ((n:Int) % 2)=V.int 0:=z;have:=V.int.inj z;omega) q
abbrev nWk:List Str:=["ground","heap","moves","heaps","move"]
abbrev D0:List Str:=["ground","heap","moves"]
def Fu:qh nWk D0 (qc UR):=jY
def NL(F:jE K "walk" "walk" UR f g)(G:j3 mg)(T:Qb K mg)(l:qH K mg "need_heap" QA p2 j o)(p:qp P w K mg base qN 3 j o p2 (Q0 d))(r:qH K mg "after" Yg AG u v)(C:qp P w K mg base qN 6 u v AG (Vv d)):qp P w K mg base qN 7 f g D0 (ux d):=by
 refine F.okK Fu λH Q E hr h=>?_;obtain⟨J,u,v,L,j,B,d,rfl,g,x,mv,wk,_,q⟩:=h;refine⟨_,qb (ji (qv l p (jr (jv 0) (jv 1))))
  (qb (qF (j4 (jn (qu jA (by rfl) T.isi boot_isinstance (jr (jv 2) (QJ (v:=.ty "list") (by rfl) G.lst boot_list rfl))))) (qD) qr)
  (qb (qx 3 (j5 (qU (jo jp (by rfl) G.lst boot_list (qU (jv 1))))))
  (qb (jc (qC (jv 2)) (qG 4)
   (qd (ji (QP zaj zaV zaW Q8 (jv 3) (qU (qv r C (Ys (jv 0) (qB qR (jv 3) (AJ w4 qe)) (jv 4))))))))
  (qd (qm (jv 3)))))),?_⟩
 have ⟨Y,good,ab,o⟩:=g;refine⟨_,rfl,_,rfl,J,u,L,j,rfl,Y,o,λD C=>?_⟩;refine⟨_,rfl,_,_,_,_,rfl,rfl,.lst (C _ _ x),T.kll,_,rfl,jG ?_⟩;refine⟨_,rfl,u,_,rfl,.inl (.of (C _ _ o.at_)),λl r=>⟨Ze,λg p=>?_⟩⟩;have O:=qf (o:=HO.lst (j.map V.str)) r;have r:upd D l (.lst (j.map V.str)) l=some (.lst (j.map V.str)):=qa;generalize upd D l (.lst (j.map V.str))=U at O r p;have D:=C.trans O;have fp:H g=none:=jU D p;have O:l≠g:=λz=>by rw[z,p]at r;cases r
 have U:=D.trans (qf (o:=HO.lst [V.ref l]) p);have ac:ZR L j:=⟨o.le,o.in_⟩;refine⟨_,rfl,v,rfl,⟨_,.of (U _ _ x)⟩,?_⟩;refine jm (K:=K) (a:=v) (xs:=B.map V.ref) (λi C X=>i<=d.length/\∃(v4:Option V) (o:List Addr),C=[some (.ref J),some (.ref u),some (.ref v),some (.ref g),v4]/\qi H X/\X g=some (.lst (o.map V.ref))/\Wb X o (hps j (d.take i))/\g∉o)
  ⟨zac _,_,[l],rfl,U,qa,Wb.snoc (ls:=[]) (hss:=[]) ⟨rfl,λi a y e=>(nomatch e)⟩ (by rw[qg O];exact r),λz=>O (tQ.mp z).symm⟩ (λi C X _ ⟨_,_,_,_,r,_⟩=>.of (r _ _ x)) ?_ ?_
 ·rintro i y C X D ⟨hi,v4,o,rfl,r,v,u,O⟩;have x:=u.1;rw[Xa,tJ,zbz hi]at x;obtain⟨p,l,rfl⟩:∃p l,o=p++[l]:=⟨o.dropLast,o.getLast (by intro z;rw[z]at x;cases x),(List.dropLast_concat_getLast _).symm⟩;have ae:X l=some (.lst ((qz j (d.take i)).map V.str)):=by
   refine u.2 p.length l _ (by rw[tP (tc _),zbN];rfl) ?_;have:p.length=i:=by rw[tm,t7]at x;omega
   rw[this];have e:=GN j (d.take i) i (by rw[tJ];omega);rw[List.take_take,Nat.min_self]at e;exact e
  have U:=mv.1;have c:i < d.length:=by
   have:=(td.mp D).1;rw[ta]at this;omega
  obtain⟨U,hm,el⟩:=wk.at_ c;have aa:=ac.last good U;have em:d[i]?=some d[i]:=th c;generalize d[i]=m at em hm el;rw[tp]at D;have U:B[i]?=some (B[i]'(by omega)):=th (by omega);generalize B[i]'(by omega)=B at U;rw[U]at D;obtain rfl:V.ref B=y:=tz.inj D;have D:=mv.2 i B m U em;refine⟨_,rfl,.inl ⟨rfl,_,.of v⟩,_,rfl,_,rfl,1,rfl,g,_,_,_,rfl,rfl,.of v,by rw[tw];exact xh,_,rfl,J,l,B,L,_,m,rfl,⟨Y.mono r,good,ab,⟨ae,aa.1,aa.2⟩⟩,r _ _ D,hm,λL B D J U=>?_⟩;have tk:d.take (i+1)=d.take i++[m]:=by rw[tM,em];rfl
  have n2:B≠g:=λz=>by rw[z,v]at J;cases J
  refine⟨g,_,_,rfl,rfl,D _ _ v,by rw[ta,tm,t7];rw[tm,t7]at x;exact ql (by omega),?_⟩;have J:Wb (upd L g (.lst ((p++[l]).map V.ref++[V.ref B]))) (p++[l]) (hps j (d.take i)):=⟨u.1,λY b ys x e2=>by
   have d:=D _ _ (u.2 Y b ys x e2);rw[qg (λ(z:b=g)=>O (by rw[<-z];exact tL x))];exact d⟩
  refine⟨c,_,p++[l]++[B],rfl,λb _ d=>?_,by rw[show (p++[l]++[B]).map V.ref=(p++[l]).map V.ref++[V.ref B] by rw[tw];rfl];exact qa,?_,λz=>?_⟩
  ·rw[qg (qt d fp)];exact D _ _ (r _ _ d)
  ·rw[tk,Mp];exact J.snoc (by rw[qg n2];exact U)
  ·rcases tT.mp z with k | k
   ·exact O k
   ·exact n2 (tQ.mp k).symm
 ·rintro C X ⟨hi,v4,o,rfl,r,v,u,O⟩;rw[ta,mv.1,tu (tc _)]at u;exact⟨_,rfl,q X g o r v u⟩
open PySem L2 MLab Rb
open PyProof.Rows hiding K lo
abbrev Yf:Stmt:=top 103
def Jh(fr:Fr H d g)(hd:H d=some (.dK c))(a:H b=some o)(no:∀c,o≠.dK c):g b=some o:=fr _ _ a λe=>by
 rw[e,hd]at a;exact no _ (tz.inj a).symm
def k0:¬jh (j9 n s t) k=some (.ref q):=λh=>by
 unfold j9 at h;by_cases a:(Sum.inr (zdV "number"):qT)=k
 ·rw[jj a]at h;cases h
 ·rw[jk a]at h;by_cases a:(Sum.inr (zdV "seed"):qT)=k
  ·rw[jj a]at h;cases h
  ·rw[jk a]at h;by_cases a:(Sum.inr (zdV "turn"):qT)=k
   ·rw[jj a]at h;cases h
   ·rw[jk a]at h;cases h
def jZ.frd(h:jZ a H x rs)(pos:0 < rs.length)(hd:H d=some (.dK (j9 n s t)))(fr:Fr H d b):jZ a b x rs:=by
 obtain⟨l,lo,g,m,o,p,a,i⟩:=h;have r:g≠d:=λe=>by
  rw[e,hd]at a;obtain⟨b,c⟩:=zbu pos;obtain⟨q,j,_⟩:=i b c;rw[<-(HO.dK.inj (tz.inj a))]at j;exact k0 j
 exact⟨l,lo,g,m,Jh fr hd o (λ_ e=>nomatch e),Jh fr hd p (λ_ e=>nomatch e),fr _ _ a r,λb c=>let ⟨q,a,g⟩:=i b c;⟨q,a,Jh fr hd g (λ_ e=>nomatch e)⟩⟩
def GH.frd(x:GH a H g h rs hs)(pos:0 < rs.length)(hd:H d=some (.dK (j9 n s t)))(fr:Fr H d b):GH a b g h rs hs:=⟨x.1.frd pos hd fr,x.2.1,x.2.2.1,⟨Jh fr hd x.2.2.2.at_ (λ_ e=>nomatch e),x.2.2.2.le,x.2.2.2.in_⟩⟩
abbrev ZL:Stmt:=(qX Yf).getD 2 (.Pass ⟨0,0,0,0⟩)
def YL:Str:=(zdV "_law_opponent"++zdV ".<locals>.")++zdV "_law_told_move"
abbrev EV(g n:Addr)(a:Int):List (Str×V):=[(zdV "_law_ground",.ref g),(zdV "_law_names_here",.ref n),(zdV "_law_seed",.int a)]
inductive uA(CG:Addr)(ws:List (Str×V))(vs:List V)(H:Hp)(Q:VK):Prop
 | mk (g n h:Addr) (sd:Int) (rs:jf) (hs:List Str):ws=EV g n sd->vs=[.ref h]->GH CG H g h rs hs->H n=some (.lst ((rs.map (·.1)).map V.str))->(0<=sd)->(sd < 1000003)->(jO rs hs hs.length≠[])->(∀H' p m,qi H H'->H' p=some (.tup (Wm m))->m∈jO rs hs hs.length->Q (.ref p) H')->uA CG ws vs H Q
def M8(a:Addr)(b:List (Str×V)):Sp:=λc H Q _=>uA a b c H Q
abbrev A6(b PO f:Addr)(c:zdY):Sp:=λd H Q E=>∃a,wV H PO f "_law_told_move" YL ZL c a/\M8 b a d H Q E
inductive uI(CG PO:Addr)(vs:List V)(H:Hp)(Q:VK):Prop
 | mk (d g:Addr) (n s t:Int) (rs:jf):vs=[.ref d,.ref g]->H d=some (.dK (j9 n s t))->jZ CG H g rs->(0 < rs.length)->((∃tq,H PO=some (.tbl #[.str YL tq])))->(∀H' f fd nl sd n' t',Fr H d H'->H' d=some (.dK (j9 n' s t'))->H' nl=some (.lst ((rs.map (·.1)).map V.str))->0<=sd->sd < 1000003->wV H' PO f "_law_told_move" YL ZL fd (EV g nl sd)->Q (.ref f) H')->uI CG PO vs H Q
def uJ(a PO:Addr):Sp:=λb H Q _=>uI a PO b H Q
inductive Zt(CG PT PP PO:Addr)(H:Hp)(g:Addr)(rs:jf):(List Str->(Nat×Str)->Prop)->Addr->Prop
 | own {f D:Addr} {fd:zdY} {R:Rs Str}:wV H PP f "tell" J8 QU fd [(zdV "ground",.ref g),(zdV "labels",.ref D)]->jq H D rs R->Qp rs R->(∃tq,H PT=some (.tbl #[.str YK tq]))->Zt CG PT PP PO H g rs (Z1 rs R) f
 | any {f n:Addr} {fd:zdY} {sd:Int}:wV H PO f "_law_told_move" YL ZL fd (EV g n sd)->H n=some (.lst ((rs.map (·.1)).map V.str))->0<=sd->sd < 1000003->Zt CG PT PP PO H g rs (λhs m=>m∈jO rs hs hs.length) f
def Zt.mono{e PT PP PO:Addr}{H i:Hp}{g:Addr}{rs:jf}{T:List Str->(Nat×Str)->Prop}{f:Addr}(h:Zt e PT PP PO H g rs T f)(s:qi H i):Zt e PT PP PO i g rs T f:=by
 cases h with
 | own a b c d=>obtain⟨e,d⟩:=d;exact .own (a.mono λ_ _ _ z=>s _ _ z) (b.mono s) c ⟨e,s _ _ d⟩
 | any a b c d=>exact .any (a.mono λ_ _ _ z=>s _ _ z) (s _ _ b) c d
def Kq(good:qj rs)(all:Qp rs R){hs:List Str}(a:∀z∈hs,∃r∈rs,r.1=z)(h:Z1 rs R hs m):m∈jO rs hs hs.length:=by
 rcases h with ⟨_,b⟩ | ⟨c,d⟩ | ⟨_,b⟩
 ·exact b.mem.1
 ·exact(VY good all a c d).1
 ·exact b
def Zt.mem{e PT PP PO:Addr}{H:Hp}{g:Addr}{rs:jf}{T:List Str->(Nat×Str)->Prop}{f:Addr}(h:Zt e PT PP PO H g rs T f)(good:qj rs){hs:List Str}(i:∀z∈hs,∃r∈rs,r.1=z){m:Nat×Str}(k:T hs m):m∈jO rs hs hs.length:=by
 cases h with
 | own a b c d=>exact Kq good c i k
 | any=>exact k
def Zc(rs:jf)(hs:List Str)(ms:List (Nat×Str)):Str:=if (jO rs (qz hs ms) (qz hs ms).length).isEmpty=true then YI ms.length else zdV "open"
structure Rp(rs:jf)(T0 T1:List Str->(Nat×Str)->Prop)(hs:List Str)(ms:List (Nat×Str)):Prop where
 mw:Mw rs hs ms
 by_:∀i (c:i < ms.length),(if i % 2=0 then T0 else T1) (qz hs (ms.take i)) ms[i]
def Rp.snoc(h:Rp rs a b hs ms)(k:m∈jO rs (qz hs ms) (qz hs ms).length)(t:(if ms.length % 2=0 then a else b) (qz hs ms) m):Rp rs a b hs (ms++[m]):=⟨h.mw.mk k,λi c=>by
 rw[tm,t7]at c;rcases zbd i ms.length with d | d
 ·rw[List.take_append_of_le_length (by omega),List.getElem_append_left d];exact h.by_ i d
 ·obtain rfl:i=ms.length:=by omega
  rw[List.take_left,List.getElem_concat_length rfl];exact t⟩
inductive M9(CG PT PP PO:Addr)(vs:List V)(H:Hp)(Q:VK):Prop
 | mk (g h f0 f1:Addr) (rs:jf) (hs:List Str) (T0 T1:List Str->(Nat×Str)->Prop) (most:Nat):(vs=[.ref g,.ref h,.ref f0,.ref f1,.int (most:Nat)])->GH CG H g h rs hs->Zt CG PT PP PO H g rs T0 f0->Zt CG PT PP PO H g rs T1 f1->(most<=300)->(∀H' t mo ms qs,qi H H'->H' t=some (.tup [.ref mo,.str (Zc rs hs ms)])->H' mo=some (.lst (qs.map V.ref))->jM H' qs ms->Rp rs T0 T1 hs ms->ms.length<=most->(jO rs (qz hs ms) (qz hs ms).length=[]\/ms.length=most)->Q (.ref t) H')->M9 CG PT PP PO vs H Q
def RV(a PT PP PO:Addr):Sp:=λb H Q _=>M9 a PT PP PO b H Q
def COp(b PO:Addr)(f:Addr)(a:zdY)(sp:Sp):Prop:=(∃(c pm d:Value) (e:Addr) (g:List (Str×Addr)),a=zcT "_law_told_move" YL (jL ZL) (qX ZL) (qc ZL) g .none .none c pm none (.ref e) d)/\sp=A6 b PO f a
def Fa(a PT PP PO:Addr)(f:Addr)(b:zdY)(sp:Sp):Prop:=CTl a PT PP f b sp\/COp a PO f b sp
def _root_.L2.JSs.nox{X:Cx}{st:List Stmt}{t:TS}(h:JSs X.nox st t):JSs X st t:=.of h.to.nox
def Ft{Q:VK}(c:a[2]?=some (some (V.ref f0)))(d:a[3]?=some (some (V.ref f1)))(h:Q (.ref (if b=true then f0 else f1)) X):if b=true then qY 2 a X Q else qY 3 a X Q:=by
 cases b with
 | true=>exact Q4 ⟨_,c,h⟩
 | false=>exact jG ⟨_,d,h⟩
abbrev nTM:List Str:=["_law_heap_here","_law_ground","_law_names_here","_law_seed","_law_number","_law_name","_law_moves"]
def uY:Zu nTM ["_law_heap_here"] ["_law_ground","_law_names_here","_law_seed"] (qc ZL):=⟨rfl,rfl,rfl,by decide+kernel,rfl,by decide+kernel,by decide+kernel,by decide+kernel,by decide+kernel⟩
def G1{zs:List Str}{z:Str}(h:z∈zs):zs[zs.idxOf z]?=some z/\∀i,i < zs.idxOf z->zs[i]?≠some z:=by
 have c:=zbU.mpr h;refine⟨by rw[th c,zdH c],λi c e=>?_⟩;obtain⟨a,b⟩:=td.mp e;have:=zdn c;rw[b]at this;simp at this
def BK{P:Program}{w:World}{K:zdU}{mg:Str->Option Value}{base:Heap}{PO m f x:Addr}{C D:zdY}(B:Qo mg)(L:qH K mg "moves_of" Qa p2 x D)(O:qp P w K mg base qN 4 x D p2 (JQ m)):qp P w K mg base qN 5 f C ["_law_heap_here"] (A6 m PO f C):=by
 refine Rg (PT:=PO) (name:="_law_told_move") (qual:=YL) (st:=ZL) (fr:=["_law_ground","_law_names_here","_law_seed"]) (sp:=M8 m) uY (λa b H Q E h=>?_) (λ_ _ A _ s H a b Q E hr h=>?_)
 ·obtain⟨o,n,h,p,d,a,rfl,rfl,_⟩:=h;exact⟨rfl,rfl⟩
 ·obtain⟨o,n,h,p,d,a,rfl,rfl,T,J,U,Y,ne,q⟩:=h;have ⟨gr,good,le,j⟩:=T;refine⟨_,JSs.nox (qb (qx 4 (hN:=uY.nd) (jv 3))
   (qb (jc (qC (jv 0)) (zK (i:=5) uY.nd rfl (Or.inl rfl))
    (qd (qx 4 (hN:=uY.nd) (qL Qr (qL Qj (qL Qj (qL QR (jv 4) (qe)) (QP zaj zbZ zdh U9 (jv 2) (qU (jv 5)))) (qe)) (qe)))))
   (qb (qx 6 (hN:=uY.nd) (qv L O (jr (jv 1) (jv 0))))
   (qd (qm (qB qR (jv 6) (qL Qr (jv 4) (qu qA (by rfl) B.len boot_len (qU (jv 6)))))))))),?_⟩
  refine⟨_,rfl,_,rfl,h,rfl,⟨_,.of j.at_⟩,?_⟩;refine jm (K:=K) (a:=h) (xs:=a.map V.str) (λ_ l X=>∃(i:Int) (r v6:Option V),l=[some (.ref h),some (.ref o),some (.ref n),some (.int p),some (.int i),r,v6]/\X=H/\0<=i/\i < 1000003) ⟨p,_,_,rfl,rfl,U,Y⟩ (λi l X _ ⟨_,_,_,_,e,_⟩=>by rw[e];exact .of j.at_) ?_ ?_
  ·rintro aa y l X g ⟨i,r,v6,rfl,rfl,i0,i1⟩;rw[tp]at g;cases u:a[aa]? with
   | none=>rw[u]at g;cases g
   | some z=>
    rw[u]at g;obtain rfl:V.str z=y:=tz.inj g;obtain⟨g,m,p⟩:=j.in_ z (tL u);have u:z∈d.map (·.1):=tl.mpr ⟨g,m,p⟩;obtain⟨f1,f2⟩:=G1 u;refine⟨_,rfl,_,_,rfl,rfl,.inl ⟨by omega,by omega⟩,_,rfl,.inl ⟨rfl,_,.of J⟩,_,rfl,n,_,z,_,rfl,rfl,.of J,f1,f2,_,_,rfl,rfl,_,_,rfl,rfl,_,_,rfl,rfl,by show (0:Int) < 1000003;decide,?_⟩;exact⟨_,_,_,rfl,rfl,zbc _ (by decide),zaP _ (by decide)⟩
  ·rintro l X ⟨i,r,v6,rfl,rfl,i0,i1⟩;refine⟨_,rfl,_,rfl,o,h,d,a,rfl,gr,good,le,j,λm g v o _ j mv=>?_⟩;have l:=mv.1;have p:0 < (jO d a a.length).length:=zbS.mpr ne;refine⟨_,rfl,_,rfl,_,rfl,g,_,rfl,.inl (.of j),_,_,rfl,rfl,by rw[ta,l];omega,?_⟩;rw[ta,l];have l:=zbc i (show ((jO d a a.length).length:Int)≠0 by omega);have p:=zaP i (show (0:Int) < ((jO d a a.length).length:Int) by omega);generalize ab:i % ((jO d a a.length).length:Int)=ii at l p;obtain⟨b,rfl⟩:∃b:Nat,ii=(b:Int):=⟨ii.toNat,by omega⟩;have c:b < v.length:=by omega
   have em:(jO d a a.length)[b]?=some ((jO d a a.length)[b]'(by omega)):=th (by omega);have a:v[b]?=some v[b]:=th c;refine⟨g,_,(b:Int),_,rfl,by first | exact congrArg V.int ab | rfl,.of j,ZJ (j:=b) (by rw[tp,a];rfl),?_⟩;exact q m _ _ o (mv.2 b _ _ a em) (zbj _)
abbrev E6:List Str:=["_law_source_here","_law_ground","_law_seed","_law_names_here","_law_told_move"]
abbrev NH:List Str:=["_law_source_here","_law_ground"]
def Nc:qh E6 NH (qc Yf):=jY
def BN{P:Program}{w:World}{K:zdU}{mg:Str->Option Value}{base:Heap}{f c PO b g:Addr}{a l:zdY}(F:jE K "_law_opponent" "_law_opponent" Yf f a)(o:a.code=.ref c)(p:Yw mg base c PO)(G:j3 mg)(M:GM K mg b)(j:qH K mg "_law_take" YA ["_law_source_here","_law_many"] g l):qp P w K mg base qN 2 f a NH (uJ b PO):=by
 obtain⟨_,_,l⟩:=M.cls;obtain⟨_,_,m⟩:=M.nm;have v:=pin P w mg base (Q6 m.fn l G);have GT:=pin P w mg base (zA j.fn);refine F.okB o Nc (λa H Q E h=>?_) (λA r s H a Q E hr h=>?_)
 ·obtain⟨d,a,n,s,t,b,rfl,_⟩:=h;rfl
 ·obtain⟨d,a,n,g,t,b,rfl,hd,B,pos,⟨C,tb⟩,q⟩:=h;refine⟨_,VC (XR (i:=2) Nc.nd rfl (Or.inr rfl) (qv j GT (jr (jv 0) qe))) (VC (XR (i:=3) Nc.nd rfl (Or.inr rfl) (W6 m l.cl v hr (jv 1))) (Kv (i:=4) (c:=c) (P:=PO) (qual:=YL) p Nc.nd rfl rfl rfl rfl rfl (λ_=>rfl) rfl rfl rfl (AB (qd (qm (jv 4)))))),?_⟩;refine⟨_,rfl,d,1000003,n,g,t,rfl,hd,by decide,by decide,λl n1 j J L=>?_⟩;have m:Fr H d (upd H d (.dK (j9 n1 g j))):=Fr.refl.at_d;have v:upd H d (.dK (j9 n1 g j)) d=some (.dK (j9 n1 g j)):=qa;generalize upd H d (.dK (j9 n1 g j))=o at m v;have g:=B.frd pos hd m;obtain⟨p,fs,B,D,_⟩:=g.ins;refine⟨_,rfl,a,p,fs,rfl,B,D,a,b,rfl,g,λnl p=>?_⟩;have g:=qf (o:=HO.lst ((b.map (·.1)).map V.str)) p;have B:upd o nl (.lst ((b.map (·.1)).map V.str)) nl=some (.lst ((b.map (·.1)).map V.str)):=qa;generalize upd o nl (.lst ((b.map (·.1)).map V.str))=p at g B;refine⟨⟨C,g _ _ (Jh m hd tb (λ_ e=>nomatch e))⟩,λb p C pm D O o mk=>?_⟩;have T:wV o PO b "_law_told_move" YL ZL (zcT "_law_told_move" YL (jL ZL) (qX ZL) (qc ZL) (qK (zS qN P w K mg base E6 "_law_opponent" (qc Yf) f (.ref c) A r s H E).env (qc ZL).names []) .none .none C pm none (.ref p) D) (EV a nl l):=by
   refine⟨C,pm,D,p,_,O,rfl,mk.fn,mk.cd,mk.cq,mk.inj,λx _ e=>?_,λx p D=>?_⟩
   ·rcases j1 e with z | ⟨z,_⟩
    ·simp at z
    ·have:∀y∈(qc ZL).names,y.2=.free->y.1∈[zdV "_law_ground",zdV "_law_names_here",zdV "_law_seed"]:=by decide+kernel
     exact this _ z rfl
   ·have fm:∀(i:Nat) (y:V) (x:Str),E6[i]?=some x->[some (V.ref d),some (.ref a),some (.int l),some (.ref nl),some (.ref b)][i]?=some (some y)->(x,NameKind.free)∈(qc ZL).names->∃c C u,(qK (zS qN P w K mg base E6 "_law_opponent" (qc Yf) f (.ref c) A r s H E).env (qc ZL).names []).lookup x=some c/\o c=some (Z9 C)/\C.data=.cell (some u)/\qM y u:=λi y x O U Y=>by
     obtain⟨r,co,_,C,e2,e3,e4⟩:=mk.cells _ Y;obtain⟨u,rfl,Y⟩:=e4 i y O U;exact⟨r,co,u,C,e2,e3,Y⟩
    have r:(x=zdV "_law_ground"/\p=.ref a)\/(x=zdV "_law_names_here"/\p=.ref nl)\/(x=zdV "_law_seed"/\p=.int l):=by simpa using D
    rcases r with ⟨rfl,rfl⟩ | ⟨rfl,rfl⟩ | ⟨rfl,rfl⟩
    ·exact fm 1 _ _ rfl rfl (by decide+kernel)
    ·exact fm 3 _ _ rfl rfl (by decide+kernel)
    ·exact fm 2 _ _ rfl rfl (by decide+kernel)
  have a:=g.trans mk.same;exact⟨_,rfl,q o b _ nl l n1 j (m.same a) (a _ _ v) (mk.same _ _ B) J L T⟩
def Cu{P:Program}{w:World}{K:zdU}{mg:Str->Option Value}{base:Heap}{PP PT PO b c d e:Addr}{g i j:zdY}(B:Qo mg)(l:qH K mg "need_heap" QA p2 c g)(m:qp P w K mg base qN 3 c g p2 (Q0 b))(o:qH K mg "player_by" vS p3 d i)(p:qp P w K mg base qN 13 d i p3 (ya b PT))(q:qH K mg "moves_of" Qa p2 e j)(r:qp P w K mg base qN 4 e j p2 (JQ b)):∀f a sp,Fa b PT PP PO f a sp->∃(k:Nat) (ps:List Str),qp P w K mg base qN k f a ps sp/\k<=14/\jN K a ps []:=by
 rintro f a sp (h | h)
 ·have:=Ct l m o p f a sp h;exact⟨14,_,this.1,tc _,this.2⟩
 ·obtain⟨⟨_,pm,_,_,_,rfl⟩,rfl⟩:=h;exact⟨5,_,BK B q r,by decide,.all λ_ a=>by obtain⟨_,rfl⟩:=kl a;rfl⟩
def Cn{l PT PP PO g f:Addr}{H:Hp}{rs:jf}{T:List Str->(Nat×Str)->Prop}{hs:List Str}(h:Zt l PT PP PO H g rs T f):∃e sp,Fa l PT PP PO f e sp/\H f=some (Z9 {cls:=.type "function",data:=.func e})/\∀i j Q E,qi H i->GH l i g j rs hs->jO rs hs hs.length≠[]->(∀o p m,qi i o->o p=some (.tup (Wm m))->T hs m->Q (.ref p) o)->sp [.ref j] i Q E:=by
 cases h with
 | @own f D e R a b c d=>
  obtain⟨o,pm,r,u,v,C,x,y,_⟩:=a.ex;refine⟨e,vL l PT PP f e,.inl ⟨⟨o,pm,r,u,v,x⟩,rfl⟩,y,λi j Q E s B ne q=>?_⟩;obtain⟨J,d⟩:=d;exact⟨_,a.mono λ_ _ _ z=>s _ _ z,g,D,j,rs,R,hs,rfl,rfl,B,b.mono s,c,ne,⟨J,s _ _ d⟩,q⟩
 | @any f n e J a b c d=>
  obtain⟨o,pm,r,u,v,C,x,y,_⟩:=a.ex;exact⟨e,A6 l PO f e,.inr ⟨⟨o,pm,r,u,v,x⟩,rfl⟩,y,λi j Q E s B ne q=>⟨_,a.mono λ_ _ _ z=>s _ _ z,g,n,j,J,rs,hs,rfl,rfl,B,s _ _ b,c,d,ne,q⟩⟩
abbrev nPd:List Str:=["ground","heap","first","second","most","now","moves","player","move"]
abbrev AC:List Str:=["ground","heap","first","second","most"]
def Fz:qh nPd AC (qc Zz):=jY
def x4{P:Program}{w:World}{K:zdU}{mg:Str->Option Value}{base:Heap}{f j l o D U PT PP PO:Addr}{g p r u J:zdY}(F:jE K "played" "played" Zz f g)(B:Qo mg)(G:j3 mg)(O:qH K mg "need_heap" QA p2 j p)(T:qp P w K mg base qN 3 j p p2 (Q0 U))
  (v:qH K mg "is_over" WQ p2 l r) (y:qp P w K mg base qN 5 l r p2 (vM U)) (Y:qH K mg "after" Yg AG o u) (GA:qp P w K mg base qN 6 o u AG (Vv U)) (C:qH K mg "who_won" u6 ["made"] D J) (CH:∀f g sp,Fa U PT PP PO f g sp->∃(k:Nat) (ps:List Str),qp P w K mg base qN k f g ps sp/\k<=14/\jN K g ps []):qp P w K mg base qN 15 f g AC (RV U PT PP PO):=by
 have l:=pin P w mg base (BJ C.fn);refine F.okK Fz λH Q E hr h=>?_
 ·obtain⟨L,h',f0,f1,r,j,T0,T1,u,rfl,p,h0,h1,_,q⟩:=h;have o:je 14 _:=hr;refine⟨_,qb (ji (qv O T (jr (jv 0) (jv 1))))
 (qb (qx 5 (jo jp (by rfl) G.lst boot_list (qU (jv 1))))
 (qb (qx 6 (j5 Qk))
 (VP (Zm PassesOwn.never (JW.pt (Qs (qo QV (qu qA (by rfl) B.len boot_len (qU (jv 6))) (jv 4)) (Qc (j4 (jn (qv v y (jr (jv 0) (jv 5))))))))
 (qb (qx 7 (Gn (qo jl (qL Qr (qu qA (by rfl) B.len boot_len (qU (jv 6))) (qe)) (qe)) (jv 2) (jv 3)))
   (qb (qx 8 (Gr (C:=Fa U PT PP PO) (x:="player") (i:=7) rfl (Or.inl rfl) (λf g sp c=>let ⟨k,ps,a,b,d⟩:=CH f g sp c;⟨k,ps,a,o.mono b,d⟩) (QT.s Jd) (qU (jo jp (by rfl) G.lst boot_list (qU (jv 5))))))
   (qb (qx 5 (qv Y GA (Ys (jv 0) (jv 5) (jv 8))))
   (qd (ji (QP zaj zaV zaW Q8 (jv 6) (qU (jv 8)))))))))
 (qb (qF (jn (qv v y (jr (jv 0) (jv 5)))) (qd (qm (jW (jr (jv 6) (qv C l (qU (qu qA (by rfl) B.len boot_len (qU (jv 6))))))))) qr)
   (qd (qm (jW (jr (jv 6) qy)))))))),?_⟩
  have ⟨gr,good,ac,o⟩:=p;refine⟨_,rfl,_,rfl,L,h',r,j,rfl,gr,o,λp y=>?_⟩;refine⟨_,rfl,h',_,rfl,.inl (.of (o.mono y).at_),λno v=>⟨Ze,λl g=>?_⟩⟩;have C:=qf (o:=HO.lst (j.map V.str)) v;have v:upd p no (.lst (j.map V.str)) no=some (.lst (j.map V.str)):=qa;generalize upd p no (.lst (j.map V.str))=p at C v g;have D:=qf (o:=HO.lst []) g;have J:upd p l (.lst []) l=some (.lst []):=qa;have f2:=y.trans C;have ao:H l=none:=jU f2 g;have T:no≠l:=λz=>by rw[<-z,v]at g;cases g
  generalize upd p l (.lst [])=g at D J;have Y:=f2.trans D;have ag:ZR r j:=⟨o.le,o.in_⟩;refine⟨λO X=>∃(g:List (Nat×Str)) (p:List Addr) (o:Addr) (y C:Option V),O=[some (.ref L),some (.ref h'),some (.ref f0),some (.ref f1),some (.int (u:Nat)),some (.ref o),some (.ref l),y,C]/\qi H X/\X o=some (.lst ((qz j g).map V.str))/\X l=some (.lst (p.map V.ref))/\jM X p g/\Rp r T0 T1 j g/\g.length<=u/\(jO r (qz j g) (qz j g).length=[]\/g.length=u),?_,?_⟩;refine⟨λm O X=>∃(g:List (Nat×Str)) (p:List Addr) (o:Addr) (y C:Option V),m=u - g.length/\O=[some (.ref L),some (.ref h'),some (.ref f0),some (.ref f1),some (.int (u:Nat)),some (.ref o),some (.ref l),y,C]/\qi H X/\X o=some (.lst ((qz j g).map V.str))/\o≠l/\X l=some (.lst (p.map V.ref))/\jM X p g/\Rp r T0 T1 j g/\g.length<=u,
   ⟨u,[],[],no,none,none,rfl,rfl,Y,D _ _ v,T,J,jM.nil _,⟨trivial,λi c=>nomatch c⟩,zac _⟩,?_⟩
  ·rintro m O X ⟨g,p,o,y,C,rfl,rfl,sX,Y,n2,J,mv,pl,ae⟩;have lq:=mv.1;have D:=ag.last good pl.mw;refine⟨_,rfl,l,_,rfl,.inl (.of J),_,rfl,_,_,rfl,rfl,_,rfl,?_⟩;by_cases c:g.length < u
   ·refine qW (decide_eq_true (by rw[ta];omega)) ?_;refine⟨_,rfl,_,rfl,L,o,r,_,rfl,⟨gr.mono sX,good,ac,⟨Y,D.1,D.2⟩⟩,λX4 v=>⟨_,rfl,?_⟩⟩;have aa:=sX.trans v;cases ab:(jO r (qz j g) (qz j g).length).isEmpty with
    | true=>exact qO rfl ⟨g,p,o,y,C,rfl,aa,v _ _ Y,v _ _ J,mv.mono v,pl,ae,.inl (zdi.mp ab)⟩
    | false=>
     refine qW rfl ⟨λO X=>∃(T:List (Nat×Str)) (p:List Addr) (o:Addr) (y C:Option V),u - T.length < u - g.length/\O=[some (.ref L),some (.ref h'),some (.ref f0),some (.ref f1),some (.int (u:Nat)),some (.ref o),some (.ref l),y,C]/\qi H X/\X o=some (.lst ((qz j T).map V.str))/\o≠l/\X l=some (.lst (p.map V.ref))/\jM X p T/\Rp r T0 T1 j T/\T.length<=u,λO X ⟨T,p,o,y,C,lt,z⟩=>⟨u - T.length,lt,T,p,o,y,C,rfl,z⟩,?_⟩;have ne:jO r (qz j g) (qz j g).length≠[]:=λz=>by rw[z]at ab;cases ab
     refine⟨_,rfl,l,_,rfl,.inl (.of (v _ _ J)),_,_,rfl,rfl,(by show (0:Int) < 2;decide),rfl,_,rfl,?_⟩;rw[ta,lq];refine Ft (f0:=f0) (f1:=f1) rfl rfl ?_;have ah:Zt U PT PP PO X4 L r (if g.length % 2=0 then T0 else T1) (if decide (V.int ((g.length:Int) % 2)=V.int 0)=true then f0 else f1):=by
      rcases zbk g.length with e | e
      ·rw[if_pos e,if_pos (decide_eq_true (by rw[show (g.length:Int) % 2=0 by omega]))];exact h0.mono aa
      ·rw[if_neg (by omega),if_neg (by rw[decide_eq_false (λz=>by have:=V.int.inj z;omega)];decide)];exact h1.mono aa
     obtain⟨u,T,cc,U,ib⟩:=Cn (hs:=qz j g) ah;refine⟨_,u,T,rfl,cc,U,_,rfl,o,_,rfl,.inl (.of (v _ _ Y)),λT ap=>?_⟩;have u:=qf (o:=HO.lst ((qz j g).map V.str)) ap;have y5:upd X4 T (.lst ((qz j g).map V.str)) T=some (.lst ((qz j g).map V.str)):=qa;generalize upd X4 T (.lst ((qz j g).map V.str))=X5 at u y5;have ai:=aa.trans u;refine⟨u _ _ U,ib X5 T _ _ u ⟨gr.mono ai,good,ac,⟨y5,D.1,D.2⟩⟩ ne λ_ T x U aj tx=>?_⟩;have aq:=u.trans U;have u:=v.trans aq;have ak:=ai.trans U;have xm:=ah.mem good D.2 tx;refine⟨_,rfl,_,rfl,_,rfl,L,o,T,r,_,x,rfl,⟨gr.mono ak,good,ac,⟨u _ _ Y,D.1,D.2⟩⟩,aj,xm,λX7 a7 U al h7=>?_⟩;have af:=U _ _ (u _ _ J);have nm:a7≠l:=λz=>by rw[z,u _ _ J]at al;cases al
     refine⟨_,rfl,.inl ⟨rfl,_,.of af⟩,_,rfl,l,_,_,rfl,rfl,af,by rw[ta,lq];exact ql (by omega),?_⟩;have am:=mv.mono (u.trans U);have an:∀{b:Addr} {xs ys:List V},X7 b=some (.tup xs)->upd X7 l (.lst ys) b=some (.tup xs):=λu=>by
      rw[qg (λz=>by rw[z,af]at u;cases u)];exact u
     refine⟨g++[x],p++[T],a7,_,_,by rw[tm,t7];omega,rfl,λb _ u=>?_,?_,nm,?_,?_,pl.snoc xm tx,by rw[tm,t7];omega⟩
     ·rw[qg (qt u ao)];exact U _ _ (ak _ _ u)
     ·rw[qg nm,W4];exact h7
     ·rw[qa,tw];rfl
     ·exact jM.app (ps:=p) (ms:=g) ⟨am.1,λi T m u e2=>an (am.2 i T m u e2)⟩ (jM.one (an (U _ _ aj)))
   ·exact qO (decide_eq_false (by rw[ta];omega)) ⟨g,p,o,y,C,rfl,sX,Y,J,mv,pl,ae,.inr (by omega)⟩
  ·rintro O X ⟨g,p,o,y,C,rfl,sX,Y,J,mv,pl,ae,u⟩;have D:=ag.last good pl.mw;have lq:=mv.1;refine⟨_,rfl,_,rfl,L,o,r,_,rfl,⟨gr.mono sX,good,ac,⟨Y,D.1,D.2⟩⟩,λX4 v=>⟨_,rfl,?_⟩⟩;have aa:=sX.trans v;have d_:∀z,z=Zc r j g->∀t,X4 t=none->Q (.ref t) (upd X4 t (.tup [.ref l,.str z])):=λz y t o=>by
    have st:=qf (o:=HO.tup [.ref l,.str z]) o;exact q _ t l g p (aa.trans st) (by rw[<-y];exact qa) (st _ _ (v _ _ J)) (mv.mono (v.trans st)) pl ae u
   cases ab:(jO r (qz j g) (qz j g).length).isEmpty with
   | true=>
    refine qW rfl ⟨_,rfl,_,rfl,l,_,rfl,.inl (.of (v _ _ J)),_,rfl,Ze,λt o=>?_⟩;refine d_ _ ?_ t o;rw[ta,lq];unfold Zc;rw[if_pos ab]
   | false=>
    refine qO rfl ⟨_,rfl,Ze,λt o=>?_⟩;refine d_ _ ?_ t o;unfold Zc;rw[if_neg (by rw[ab];decide)]
open PySem L2 MLab Rb
open PyProof.Rows hiding K lo
abbrev DO:Stmt:=top 66
abbrev WR:Stmt:=top 67
def vC{α:Type}{G:α->List α}{ok:α->Prop}{num:α->Option Nat}{e_:α->Nat}(L:Wa G ok num e_){h b:List α}(d:∀x∈h,ok x)(hz:MLab.Zero num h)(e:b∈mv G h):∃c∈mv G b,(∀x∈c,ok x)/\MLab.Zero num c/\zT e_ c < zT e_ h:=by
 obtain⟨g,j⟩:=hz;obtain⟨a,x,y,q,rfl,i,rfl⟩:=(jH G).mp e;have l:=d x (by simp);have o:=Jw L d rfl i;cases d:num x with
 | none=>rw[jd d]at g;omega
 | some n=>
  rw[qV d]at g;rw[jV d]at j;rw[Qe];have p:(∀m,num y=some m->n < m)->∃c∈mv G (a++y::q),(∀x∈c,ok x)/\MLab.Zero num c/\zT e_ c < e_ x+zT e_ (a++q):=λgt=>by
   obtain⟨z,hz,e,_⟩:=L.n3 l d i gt;exact⟨a++z::q,(jH G).mpr ⟨a,y,z,q,rfl,hz,rfl⟩,Jw L o rfl hz,⟨by rw[qV e];exact g,by rw[jV e];exact j⟩,by rw[Qe];omega⟩
  cases e:num y with
  | none=>exact p λm h=>by rw[e]at h;cases h
  | some k=>
   rcases zan k n with lt | rfl | gt
   ·have r:=L.n4 l d i e lt;have pos:0 < jS (jR num (a++y::q)):=by
     rw[jV e];refine zcK λz=>?_;have:=zh (z.trans j.symm);omega
    obtain⟨r,D,u,v,j,B,⟨_,_,H,J⟩,O,_⟩:=zj L o pos;have ce:zT e_ (a++y::q)=e_ y+zT e_ (a++q):=Qe;have C:ends num (a++y::q)=0:=by rw[qV e];exact g
    refine⟨r++u::v,(jH G).mpr ⟨r,D,u,v,j,B,rfl⟩,Jw L o j B,⟨?_,O⟩,?_⟩
    ·rw[j,qV H]at C;rw[qV J];exact C
    ·rw[j,Qe]at ce;rw[Qe];omega
   ·exact absurd e (L.n2 l d i)
   ·exact p λm h=>by rw[e]at h;cases h;exact gt
def VM{rs:jf}(good:qj rs){R:Rs Str}(all:Qp rs R){hs:List Str}(a:∀z∈hs,∃r∈rs,r.1=z)(l:oW rs R hs=wL){m:Nat×Str}(g:m∈jO rs hs hs.length):oW rs R (lf hs m)=wW/\∀b,Qz rs R (lf hs m) b->zf R (lf (lf hs m) b) < zf R hs:=by
 have d:=Md good (Ym (jX good.nd) all);have e:=J9 good a g;have u:=(vd good a).mpr ⟨m,g,rfl⟩;have z:=(Jg d (zC a)).mp ((Y6 good all a).mp l);obtain⟨c,j,g,v,lt⟩:=vC d (zC a) z u;have o:=(Jg d g).mpr v;refine⟨AX good all e (.mk j o),λb x=>?_⟩;obtain⟨p,q,rfl⟩:=(vd good e).mp j;have a:p∈Jp rs R (lf hs m):=tO.mpr ⟨q,decide_eq_true ((Y6 good all (J9 good e q)).mpr o)⟩;obtain⟨d,e⟩:=List.mem_iff_getElem?.mp a;obtain⟨i,_,a⟩:=x;exact zat (a d p e).1 lt
def Yj(good:qj rs)(all:Qp rs R){hs:List Str}(a:∀z∈hs,∃r∈rs,r.1=z)(e:jO rs hs hs.length=[]):oW rs R hs=wL:=(Y6 good all a).mpr (.mk λb d=>by
 obtain⟨m,c,_⟩:=(vd good a).mp d;rw[e]at c;cases c)
def Ra(good:qj rs)(all:Qp rs R){hs:List Str}(a:∀z∈hs,∃r∈rs,r.1=z)(d:oW rs R hs=wD)(b:m∈jO rs hs hs.length):oW rs R (lf hs m)≠wL:=λe=>by
 have g:=Md good (Ym (jX good.nd) all);have c:=J9 good a b;exact zd ((zQ good all a).mp d) ((vd good a).mpr ⟨m,b,rfl⟩) ((Jg g (zC c)).mp ((Y6 good all c).mp e))
def Va(f:α->Nat):∀(l:List α),l≠[]->∃(i:Nat) (m:α),l[i]?=some m/\∀(j:Nat) (mj:α),l[j]?=some mj->f m<=f mj/\(j < i->f m < f mj)
 | [],h=>absurd rfl h
 | a::l,_=>by
   by_cases e:l=[]
   . subst e;refine⟨0,a,rfl,λj mj ej=>?_⟩;cases j with
     | zero=>obtain rfl:a=mj:=by simpa using ej
             exact⟨tc _,λz=>by omega⟩
     | succ j=>simp at ej
   . obtain⟨i,m,ei,h⟩:=Va f l e;by_cases c:f m < f a
     . refine⟨i+1,m,ei,λj mj ej=>?_⟩;cases j with
       | zero=>obtain rfl:a=mj:=by simpa using ej
               exact⟨t6 c,λ_=>c⟩
       | succ j=>exact⟨(h j mj ej).1,λz=>(h j mj ej).2 (by omega)⟩
     . refine⟨0,a,rfl,λj mj ej=>⟨?_,λz=>by omega⟩⟩;cases j with
       | zero=>obtain rfl:a=mj:=by simpa using ej
               exact tc _
       | succ j=>have:=(h j mj ej).1;omega
def xf(good:qj rs)(all:Qp rs R){hs:List Str}(c:∀z∈hs,∃r∈rs,r.1=z)(h:oW rs R hs=wW):∃m,Qz rs R hs m:=by
 have:=vD good all c h;obtain⟨i,m,a,b⟩:=Va (λm=>zf R (lf hs m)) (Jp rs R hs) (λz=>by rw[z]at this;exact absurd this (by decide));exact⟨m,i,a,b⟩
def RB(good:qj rs)(all:Qp rs R)(o:ZR rs hs)(p:Rp rs c d hs ms)(b g:Nat)(j:∀i a m,i % 2=b->(if i % 2=0 then c else d) a m->oW rs R a=wW->Qz rs R a m)(q:b < 2)(st:(b=0/\oW rs R hs=wW/\∀m,Qz rs R hs m->1+2*zf R (lf hs m)<=g)\/(b=1/\oW rs R hs=wL/\2*zf R hs<=g))(l:jO rs (qz hs ms) (qz hs ms).length=[]\/ms.length=g):jO rs (qz hs ms) (qz hs ms).length=[]/\ms.length % 2≠b:=by
 have q:∀i,i<=ms.length->(i % 2=b/\oW rs R (qz hs (ms.take i))=wW/\∀m,Qz rs R (qz hs (ms.take i)) m->i+1+2*zf R (lf (qz hs (ms.take i)) m)<=g)\/(i % 2≠b/\oW rs R (qz hs (ms.take i))=wL/\i+2*zf R (qz hs (ms.take i))<=g):=by
  intro i;induction i with
  | zero=>
   intro _;rcases st with ⟨e,a,c⟩ | ⟨e,a,c⟩
   ·exact .inl ⟨by omega,a,λm d=>by have:=c m d;show 0+1+2*zf R (lf hs m)<=g;omega⟩
   ·exact .inr ⟨by omega,a,by show 0+2*zf R hs<=g;omega⟩
  | succ i g=>
   intro _;obtain⟨r,d,u⟩:=p.mw.at_ (show i < ms.length by omega);have v:=o.last good r;rw[u];have r:=p.by_ i (by omega);rcases g (by omega) with ⟨e,a,c⟩ | ⟨e,a,c⟩
   ·have g:=j i _ _ e r a;exact .inr ⟨by omega,g.mem.2,c _ g⟩
   ·obtain⟨g1,g2⟩:=VM good all v.2 a d;exact .inl ⟨by omega,g1,λm j=>by have:=g2 m j;omega⟩
 have d_:=q ms.length (tc _);rw[tu (tc _)]at d_;have g:=o.last good p.mw;have em:jO rs (qz hs ms) (qz hs ms).length=[]:=by
  rcases l with e | e
  ·exact e
  ·rcases d_ with ⟨_,a,c⟩ | ⟨_,a,c⟩
   ·obtain⟨m,d⟩:=xf good all g.2 a;have:=c m d;omega
   ·cases z:jO rs (qz hs ms) (qz hs ms).length with
    | nil=>rfl
    | cons m c=>
     have d:m∈jO rs (qz hs ms) (qz hs ms).length:=by rw[z];exact tE
     obtain⟨g1,g2⟩:=VM good all g.2 a d;obtain⟨c,j⟩:=xf good all (J9 good g.2 d) g1;have:=g2 c j;omega
 refine⟨em,λe=>?_⟩;rcases d_ with ⟨_,a,_⟩ | ⟨a,_⟩
 ·exact absurd ((Yj good all g.2 em).symm.trans a) Xi
 ·exact a e
def vn(good:qj rs)(all:Qp rs R)(o:ZR rs hs)(p:Rp rs g j hs ms)(b:Nat)(q:b < 2)(l:∀i a m,i % 2=b->(if i % 2=0 then g else j) a m->Z1 rs R a m)(st:oW rs R hs=wD)(em:jO rs (qz hs ms) (qz hs ms).length=[]):ms.length % 2≠b:=by
 have j:∀i,i<=ms.length->(i % 2=b->oW rs R (qz hs (ms.take i))≠wL)/\(i % 2≠b->oW rs R (qz hs (ms.take i))≠wW):=by
  intro i;induction i with
  | zero=>exact λ_=>⟨λ_ z=>Ua (z.symm.trans st),λ_ z=>V9 (z.symm.trans st)⟩
  | succ i q=>
   intro _;obtain⟨r,g,u⟩:=p.mw.at_ (show i < ms.length by omega);have a:=o.last good r;rw[u];obtain⟨r,u⟩:=q (by omega);refine⟨λe=>?_,λe=>?_⟩
   ·have q:=u (by omega);rcases VG (rs:=rs) (R:=R) (hs:=qz hs (ms.take i)) with c | c | c
    ·rw[(VM good all a.2 c g).1];exact Ne.symm Xi
    ·exact absurd c q
    ·exact Ra good all a.2 c g
   ·have g:i % 2=b:=by omega
    rcases l i _ _ g (p.by_ i (by omega)) with ⟨_,q⟩ | ⟨c,d⟩ | ⟨c,_⟩
    ·rw[show oW rs R _=wL from q.mem.2];exact Xi
    ·rw[(VY good all a.2 c d).2];exact Ne.symm V9
    ·exact absurd c (r g)
 have d_:=j ms.length (tc _);rw[tu (tc _)]at d_;exact λe=>d_.1 e (Yj good all (o.last good p.mw).2 em)
def Ri(good:qj rs)(all:Qp rs R)(o:ZR rs hs)(p:Rp rs (Z1 rs R) (Z1 rs R) hs ms)(st:oW rs R hs=wD):jO rs (qz hs ms) (qz hs ms).length≠[]:=by
 have b:∀i,i<=ms.length->oW rs R (qz hs (ms.take i))=wD:=by
  intro i;induction i with
  | zero=>exact λ_=>st
  | succ i a=>
   intro _;obtain⟨g,_,j⟩:=p.mw.at_ (show i < ms.length by omega);have l:=o.last good g;rw[j];have e:=a (by omega);have a:=p.by_ i (by omega);rw[ite_self]at a;rcases a with ⟨c,_⟩ | ⟨c,d⟩ | ⟨c,_⟩
   ·exact absurd (c.symm.trans e) V9
   ·exact(VY good all l.2 c d).2
   ·exact absurd (c.symm.trans e) Ua
 have d_:=b ms.length (tc _);rw[tu (tc _)]at d_;exact λem=>Ua ((Yj good all (o.last good p.mw).2 em).symm.trans d_)
def Yu(h:Zc rs hs ms≠zdV "open"):jO rs (qz hs ms) (qz hs ms).length=[]/\Zc rs hs ms=YI ms.length:=by
 unfold Zc at h ⊢;cases e:(jO rs (qz hs ms) (qz hs ms).length).isEmpty with
 | true=>exact⟨zdi.mp e,if_pos rfl⟩
 | false=>rw[e]at h;exact absurd (if_neg (by decide)) h
def y2(h:jO rs (qz hs ms) (qz hs ms).length=[]):Zc rs hs ms=YI ms.length:=by
 unfold Zc;rw[h];exact if_pos rfl
inductive Ai(CG CN CE:Addr)(vs:List V)(H:Hp)(Q:VK):Prop
 | mk (g h:Addr) (rs:jf) (hs:List Str):vs=[.ref g,.ref h]->GH CG H g h rs hs->(∀a H' R,qi H H'->Qp rs R->ZQ CN CE H' a (Qv (hs.map (wT rs R)))->Q (.ref a) H')->Ai CG CN CE vs H Q
def Ds(a CN CE:Addr):Sp:=λb H Q _=>Ai a CN CE b H Q
inductive yc(CG:Addr)(vs:List V)(H:Hp)(Q:VK):Prop
 | mk (g h:Addr) (rs:jf) (hs:List Str):vs=[.ref g,.ref h]->GH CG H g h rs hs->(∀H' R,Qp rs R->qi H H'->Q (.str (oW rs R hs)) H')->yc CG vs H Q
def vN(a:Addr):Sp:=λb H Q _=>yc a b H Q
def FM:qh p2 p2 (qc DO):=jY
def D6(F:jE K "heap_worth" "heap_worth" DO f c)(h:WF K mg)(d:qH K mg "need_heap" QA p2 e g)(l:qp P w K mg base qN 3 e g p2 (Q0 b))(m:qH K mg "worth_by" u7 ["labels","heap"] i j)(o:qp P w K mg base qN 8 i j ["labels","heap"] (M5 h.CN h.CE))(p:qH K mg "labels_of" JV ["ground"] r u)(v:qp P w K mg base qN 8 r u ["ground"] (zo b)):qp P w K mg base qN 9 f c p2 (Ds b h.CN h.CE):=by
 refine F.okK FM λH Q E hr z=>?_;obtain⟨e,g,b,i,rfl,⟨j,good,le,c⟩,q⟩:=z;refine⟨_,qb (ji (qv d l (jr (jv 0) (jv 1))))
  (qd (qm (qv m o (jr (qv p v (qU (jv 0))) (jv 1))))),?_⟩
 refine⟨_,rfl,_,rfl,e,g,b,i,rfl,j,c,λ_ d=>?_⟩;refine⟨_,rfl,e,b,rfl,j.mono d,good,le,λ_ D R e _ j all=>?_⟩;exact⟨_,rfl,D,g,b,R,i,rfl,j,(c.mono d).mono e,yQ good all c.in_,λa b c g=>q a b R (d.trans (e.trans c)) all g⟩
def Bi:qh p2 p2 (qc WR):=jY
def NS(F:jE K "outcome" "outcome" WR f b)(h:WF K mg)(B:Qo mg)(c:qH K mg "heap_worth" DO p2 d e)(g:qp P w K mg base qN 9 d e p2 (Ds i h.CN h.CE)):qp P w K mg base qN 10 f b p2 (vN i):=by
 refine F.okK Bi λH Q E hr z=>?_;obtain⟨d,e,i,j,rfl,b,q⟩:=z;refine⟨_,qd (qm (yW h B (hr.mono (by decide)) (qv c g (jr (jv 0) (jv 1))))),?_⟩;refine⟨_,rfl,_,rfl,d,e,i,j,rfl,b,λa _ R c all d=>⟨a,_,rfl,d,?_,λd e=>q d R all (c.trans e)⟩⟩;refine vH λu hu=>?_;obtain⟨z,c,rfl⟩:=tl.mp hu;exact yQ b.2.1 all b.2.2.2.in_ z c
open PySem L2 MLab Rb
open PyProof.Rows hiding K lo
abbrev xL:Stmt:=top 104
def Wb.get(h:Wb H ls (hps hs ms))(c:i<=ms.length):∃a,ls[i]?=some a/\H a=some (.lst ((qz hs (ms.take i)).map V.str)):=by
 have b:=h.1;rw[Xa]at b;have e:ls[i]?=some (ls[i]'(by omega)):=th (by omega);exact⟨_,e,h.2 i _ _ e (GN hs ms i c)⟩
def V3{ls:List Addr}{i:Nat}{a:Addr}(h:ls[i]?=some a):Wo (ls.map V.ref) (i:Nat)=some (.ref a):=ZJ (j:=i) (by rw[tp,h];rfl)
def Wb.last(h:Wb H ls (hps hs ms)):∃a,Wo (ls.map V.ref) (-1)=some (.ref a)/\H a=some (.lst ((qz hs ms).map V.str)):=by
 obtain⟨a,e,k⟩:=h.get (tc _);rw[tu (tc _)]at k;refine⟨a,?_,k⟩;have b:=h.1;rw[Xa]at b;have b:ls=ls.take ms.length++[a]:=by
  have:=zbG ms.length ls;rw[zcP (by omega),List.drop_eq_nil_of_le (by omega)]at this;obtain⟨x,y⟩:=td.mp e;rw[y]at this;exact this.symm
 rw[b,tw];exact xh
inductive uO(CG:Addr)(vs:List V)(H:Hp)(Q:VK):Prop
 | mk (g h t mo:Addr) (rs:jf) (hs:List Str) (qs:List Addr) (ms:List (Nat×Str)):vs=[.ref g,.ref h,.ref t]->GH CG H g h rs hs->H t=some (.tup [.ref mo,.str (Zc rs hs ms)])->H mo=some (.lst (qs.map V.ref))->jM H qs ms->Mw rs hs ms->(ms.length<=300)->(∀H',qi H H'->Q (.bl true) H')->uO CG vs H Q
def uP(a:Addr):Sp:=λb H Q _=>uO a b H Q
abbrev nWd:List Str:=["_law_ground","_law_heap_here","_law_told","_law_moves","_law_ending","_law_heaps","_law_k","_law_move","_law_due"]
abbrev BA:List Str:=["_law_ground","_law_heap_here","_law_told"]
def Fv:qh nWd BA (qc xL):=jY
def BP(F:jE K "_law_walked" "_law_walked" xL f b)(B:Qo mg)(G:j3 mg)(T:Qb K mg)(o:qH K mg "walk" UR D0 d g)(p:qp P w K mg base qN 7 d g D0 (ux a))(r:qH K mg "moves_of" Qa p2 j l)(u:qp P w K mg base qN 4 j l p2 (JQ a))(v:qH K mg "is_over" WQ p2 x C)(D:qp P w K mg base qN 5 x C p2 (vM a)):qp P w K mg base qN 8 f b BA (uP a):=by
 refine F.okK Fv λH Q E hr z=>?_
 ·obtain⟨x,h,t,g,d,b,l,a,rfl,j,C,O,mv,U,J,q⟩:=z;refine⟨_,qb (kr (jv 2) (Zn rfl (jw (qG 3) (jw (qG 4) Jt))))
   (qb (qx 5 (qv o p (Ys (jv 0) (jv 1) (jv 3))))
   (qb (qF (JW.pt (Ji (qo ZV (qu qA (by rfl) B.len boot_len (qU (jv 5))) (qL Qj (qu qA (by rfl) B.len boot_len (qU (jv 3))) (qe))) (QC (qo (Kx hr.units) (qB qR (jv 5) (qe)) (jv 1))))) (qD) (qr))
   (qb (jc (zJ (by rfl) T.enu (qU (jv 3))) (Zn rfl (jw (qG 6) (jw (qG 7) Jt)))
 (qb (qx 8 (jo jp (by rfl) G.lst boot_list (qU (qB qR (jv 5) (jv 6)))))
   (qb (kr (qB qJ (jv 7) (qe)) (Gh (jv 8) (qB qJ (jv 7) (qe)) UQ))
   (qd (qF (JW.pt (Ji (qo (xU hr.units) (jv 7) (qv r u (jr (jv 0) (qB qR (jv 5) (jv 6)))) (by with_unfolding_all rfl)) (QC (qo (Kx hr.units) (qB qR (jv 5) (qL Qj (jv 6) (qe))) (jv 8))))) (qD) (qr))))))
   (qb (qF (jn (qv v D (jr (jv 0) (qB qR (jv 5) (AJ w4 qe))))) (qd (qm (jK jl (jv 4) (qB qR (j5 (jr qy qy)) (qL Qr (qu qA (by rfl) B.len boot_len (qU (jv 3))) (qe)))))) (qr))
   (qd (qm (jK jl (jv 4) qy))))))),?_⟩
  have ⟨gr,good,le,r⟩:=j;have Y:ZR d b:=⟨r.le,r.in_⟩;have ac:∀{o:List Str},ZR d o->∀z∈o,ja z=true:=λp z u=>W8 good (p.2 z u);refine⟨_,rfl,t,_,rfl,.of C,rfl,_,_,rfl,_,_,rfl,rfl,?_⟩;refine⟨_,rfl,_,rfl,_,rfl,x,h,g,d,b,l,a,rfl,j,O,mv,U,J,λD L _ o j p=>?_⟩;have v:=p.1;rw[Xa]at v;have lq:=mv.1;have u:=o _ _ O;obtain⟨_,C,J⟩:=p.get (zac _);refine⟨_,rfl,L,_,rfl,.inl (.of j),_,rfl,g,_,rfl,.inl (.of u),_,_,rfl,rfl,rfl,_,rfl,qO ?_ ⟨_,rfl,L,_,0,_,rfl,rfl,.of j,V3 C,_,rfl,dL b,MN J,MN (o _ _ r.at_),shL (ac Y),_,rfl,jG ?_⟩⟩
  ·rw[ta,ta,v,lq,decide_eq_true (by rfl)];rfl
  refine⟨_,rfl,g,rfl,⟨_,.of u⟩,?_⟩;refine Zp (K:=K) (a:=g) (xs:=l.map V.ref) (λi C X=>i<=a.length/\∃v6 v7 v8,C=[some (.ref x),some (.ref h),some (.ref t),some (.ref g),some (.str (Zc d b a)),some (.ref L),v6,v7,v8]/\qi D X) ⟨zac _,_,_,_,rfl,qi.refl _⟩ (λi C X _ ⟨_,_,_,_,_,s⟩=>.of (s _ _ u)) ?_ ?_
  ·rintro i y C X r D hp ⟨hi,v6,v7,v8,rfl,u⟩;have c:i < a.length:=by
    have:=(td.mp D).1;rw[ta]at this;omega
   obtain⟨aj,v,el⟩:=U.at_ c;have J:=Y.last good aj;have em:a[i]?=some a[i]:=th c;generalize a[i]=m at em v el;rw[tp]at D;have ep:l[i]?=some (l[i]'(by omega)):=th (by omega);generalize l[i]'(by omega)=pm at ep;rw[ep]at D;obtain rfl:V.ref pm=y:=tz.inj D;have D:qi X (upd X r (.tup [.int (i:Nat),.ref pm])):=qf hp;have yP:upd X r (.tup [.int (i:Nat),.ref pm]) r=some (.tup [.int (i:Nat),.ref pm]):=qa;generalize upd X r (.tup [.int (i:Nat),.ref pm])=X1 at D yP;have l:=u.trans D;have D:=(mv.mono (o.trans l)).2 i pm m ep em;obtain⟨ai,ae,af⟩:=p.get hi;obtain⟨_,ak,ag⟩:=p.get (i:=i+1) c;rw[el]at ag;refine⟨r,_,rfl,.of yP,rfl,_,_,rfl,_,_,rfl,rfl,?_⟩;have r:=l _ _ j;refine⟨_,rfl,_,rfl,L,_,(i:Nat),_,rfl,rfl,.of r,V3 ae,ai,_,rfl,.inl (.of (l _ _ af)),λr aa=>?_⟩;have sd:=qf (o:=HO.lst ((lf (qz b (a.take i)) m).map V.str)) aa;refine⟨_,rfl,pm,_,1,_,rfl,rfl,.of (qk D aa),rfl,_,rfl,_,rfl,pm,_,0,_,rfl,rfl,.of (qk D aa),rfl,r,_,(m.1:Int),m.1,rfl,rfl,qa,?_,_,rfl,?_⟩
   ·have:=(QH v).1;unfold Gv;rw[if_pos (by omega),if_pos (by rw[ta];omega)];rfl
   have e2:((qz b (a.take i)).map V.str).set m.1 (.str m.2)=(lf (qz b (a.take i)) m).map V.str:=by unfold lf;rw[List.map_set]
   rw[jx,e2];have yd:upd X1 r (HO.lst ((lf (qz b (a.take i)) m).map V.str)) r=some (.lst ((lf (qz b (a.take i)) m).map V.str)):=qa;generalize upd X1 r (HO.lst ((lf (qz b (a.take i)) m).map V.str))=X2 at sd yd;have r:=l.trans sd;have l:=o.trans r;have am:=r _ _ j;have ah:=XL good J.2;have c1:(mD m).canLay0=true:=by
    show (true&&(PyData.strOk m.2&&true))=true;rw[Y5 (ah m v)];rfl
   refine⟨_,rfl,_,rfl,_,rfl,L,_,(i:Nat),_,rfl,rfl,.of am,V3 ae,x,ai,d,_,rfl,gr.mono l,good,le,⟨r _ _ af,J.1,J.2⟩,λ_ _ _ l _ ao ap=>?_⟩;have c3:(!((jO d (qz b (a.take i)) (qz b (a.take i)).length).map mD).any λz=>PyData.eqv z (mD m))=false:=by
    have e:(((jO d (qz b (a.take i)) (qz b (a.take i)).length).map mD).any λz=>PyData.eqv z (mD m))=true:=zaI.mpr ⟨mD m,tl.mpr ⟨m,v,rfl⟩,vm m⟩;rw[e];rfl
   have ab:=r.trans l;refine⟨mD m,_,Rv (l _ _ (sd _ _ D)),.lst (.of ao) (kI ap),c1,kC ah,by show 1<=40;decide,_,rfl,qO c3 ?_⟩;refine⟨_,rfl,_,rfl,_,_,rfl,rfl,L,_,((i+1:Nat):Int),_,rfl,rfl,.of (ab _ _ j),V3 ak,_,rfl,dL _,MN (ab _ _ ag),MN (l _ _ yd),shL (ac (J.set good v)),_,rfl,jG ?_⟩;exact⟨c,_,_,_,rfl,ab⟩
  ·rintro C X ⟨_,v6,v7,v8,rfl,u⟩;obtain⟨r,v,C⟩:=p.last;have l:=Y.last good U;have p:=o.trans u;refine⟨_,rfl,_,rfl,1,rfl,L,_,_,_,rfl,rfl,.of (u _ _ j),v,x,r,d,_,rfl,⟨gr.mono p,good,le,⟨u _ _ C,l.1,l.2⟩⟩,λ_ l=>⟨_,rfl,?_⟩⟩;have j:=p.trans l;cases o:(jO d (qz b a) (qz b a).length).isEmpty with
   | true=>
    have l:=y2 (rs:=d) (hs:=b) (ms:=a) (zdi.mp o);refine qW rfl ⟨_,rfl,Ze,λr u=>?_⟩;have p:=qf (o:=HO.lst [V.str (zdV "second"),.str (zdV "first")]) u;refine⟨_,rfl,g,_,rfl,.inl (.of (p _ _ (j _ _ O))),_,_,rfl,rfl,by show (0:Int) < 2;decide,r,_,_,.str (YI a.length),rfl,rfl,.of qa,?_,rfl,?_⟩
    ·rw[ta,lq];unfold YI;rcases zbk a.length with e | e
     ·rw[if_pos e,show ((a.length:Nat):Int) % 2=0 by omega];rfl
     ·rw[if_neg (by omega),show ((a.length:Nat):Int) % 2=1 by omega];rfl
    ·rw[l,decide_eq_true rfl];exact q _ (j.trans p)
   | false=>
    refine qO rfl ⟨_,rfl,rfl,?_⟩;have l:Zc d b a=zdV "open":=by unfold Zc;rw[if_neg (by rw[o];decide)]
    rw[l,decide_eq_true rfl];exact q _ j
open PySem L2 MLab Rb
open PyProof.Rows hiding K lo
abbrev DP:Stmt:=top 105
abbrev EZ:Stmt:=top 106
def jq.fr(h:jq H D rs R)(hd:H d=some (.dK g))(n:D≠d)(s:Fr H d e):jq e D rs R:=⟨let ⟨e,a,b,c⟩:=h.at_;⟨e,s _ _ a n,b,λe hr=>let ⟨t,u,v⟩:=c e hr;⟨t,u,Jh s hd v (λ_ z=>nomatch z)⟩⟩⟩
structure Wq(PT PP PO:Addr)(H:Hp):Prop where
 t:∃tq,H PT=some (.tbl #[.str YK tq])
 p:∃tq,H PP=some (.tbl #[.str J8 tq])
 o:∃tq,H PO=some (.tbl #[.str YL tq])
def Wq.mono{PT PP PO:Addr}{H a:Hp}(h:Wq PT PP PO H)(s:qi H a):Wq PT PP PO a:=⟨let ⟨q,e⟩:=h.t;⟨q,s _ _ e⟩,let ⟨q,e⟩:=h.p;⟨q,s _ _ e⟩,let ⟨q,e⟩:=h.o;⟨q,s _ _ e⟩⟩
def Wq.frd{PT PP PO d:Addr}{H a:Hp}{n s t:Int}(h:Wq PT PP PO H)(hd:H d=some (.dK (j9 n s t)))(fr:Fr H d a):Wq PT PP PO a:=⟨let ⟨q,e⟩:=h.t;⟨q,Jh fr hd e (λ_ e=>nomatch e)⟩,let ⟨q,e⟩:=h.p;⟨q,Jh fr hd e (λ_ e=>nomatch e)⟩,let ⟨q,e⟩:=h.o;⟨q,Jh fr hd e (λ_ e=>nomatch e)⟩⟩
def vf(b:jq H D rs R)(pos:0 < rs.length)(hd:H d=some (.dK (j9 n s t))):D≠d:=λe=>by
 obtain⟨_,a,_,c⟩:=b.at_;rw[e,hd]at a;obtain⟨g,i⟩:=zbu pos;obtain⟨_,b,_⟩:=c g i;rw[<-(HO.dK.inj (tz.inj a))]at b;exact k0 b
inductive Aj(CG PT PP PO:Addr)(vs:List V)(H:Hp)(Q:VK):Prop
 | mk (d g h:Addr) (n s t:Int) (rs:jf) (hs:List Str):vs=[.ref d,.ref g,.ref h]->H d=some (.dK (j9 n s t))->GH CG H g h rs hs->(0 < rs.length)->Wq PT PP PO H->((∀R,Qp rs R->oW rs R hs=wD))->(∀H' n' t',Fr H d H'->H' d=some (.dK (j9 n' s t'))->Q (.bl true) H')->Aj CG PT PP PO vs H Q
def Dv(a PT PP PO:Addr):Sp:=λb H Q _=>Aj a PT PP PO b H Q
inductive Ag(CG PT PP PO:Addr)(vs:List V)(H:Hp)(Q:VK):Prop
 | mk (d g h:Addr) (n s t:Int) (rs:jf) (hs:List Str):vs=[.ref d,.ref g,.ref h]->H d=some (.dK (j9 n s t))->GH CG H g h rs hs->(0 < rs.length)->Wq PT PP PO H->(∀H' n' t',Fr H d H'->H' d=some (.dK (j9 n' s t'))->Q (.bl true) H')->Ag CG PT PP PO vs H Q
def Fs(a PT PP PO:Addr):Sp:=λb H Q _=>Ag a PT PP PO b H Q
def yN:(n % 2=0->YI n=zdV "second")/\(n % 2=1->YI n=zdV "first"):=⟨λe=>if_pos e,λe=>if_neg (by omega)⟩
abbrev AE:List Str:=["_law_source_here","_law_ground","_law_heap_here"]
abbrev Hf:List Str:=["_law_source_here","_law_ground","_law_heap_here","_law_own","_law_opponent_here","_law_first","_law_second","_law_both","_law_told"]
def FP:qh Hf AE (qc DP):=jY
def D7{P:Program}{w:World}{K:zdU}{mg:Str->Option Value}{base:Heap}{f j PT PP PO a c g l:Addr}{r v x B C:zdY}(F:jE K "_law_drawn_right" "_law_drawn_right" DP f r)(J:qH K mg "player" Qg ["ground"] a v)(O:qp P w K mg base qN 9 a v ["ground"] (Xm j PP))(T:qH K mg "_law_opponent" Yf NH c x)(U:qp P w K mg base qN 2 c x NH (uJ j PO))
  (o:qH K mg "played" Zz AC g B) (p:qp P w K mg base qN 15 g B AC (RV j PT PP PO)) (Y:qH K mg "_law_walked" xL BA l C) (al:qp P w K mg base qN 8 l C BA (uP j)):qp P w K mg base qN 16 f r AE (Dv j PT PP PO):=by
 refine F.okK FP λH Q E hr z=>?_;obtain⟨d,g,h,n,x,t,a,c,rfl,hd,l,pos,tb,dr,q⟩:=z;refine⟨_,qb (qx 3 (qv J O (qU (jv 1))))
  (qb (qx 4 (qv T U (jr (jv 0) (jv 1))))
  (qb (qx 5 (qv o p (CT (jv 1) (jv 2) (jv 3) (jv 4) qe)))
  (qb (qx 6 (qv o p (CT (jv 1) (jv 2) (jv 4) (jv 3) qe)))
  (qb (qx 7 (qv o p (CT (jv 1) (jv 2) (jv 3) (jv 3) qe)))
  (qb (qF (JW.pt (Ji (qo jl (qB qJ (jv 5) (qe)) (qy)) (Ji (qo jl (qB qJ (jv 6) (qe)) (qy)) (QC (qo ZV (qB qJ (jv 7) (qe)) (qy)))))) (qD) (qr))
  (qb (jc (qC (j5 (Ys (jv 5) (jv 6) (jv 7)))) (qG 8)
   (qd (qF (j4 (jn (qv Y al (Ys (jv 1) (jv 2) (jv 8))))) (qD) (qr))))
  (qd (qm Qx)))))))),?_⟩
 have good:=l.2.1;have T:ZR a c:=⟨l.2.2.2.le,l.2.2.2.in_⟩;refine⟨_,rfl,g,a,rfl,l.1,good,l.2.2.1,tb.p,λH1 r _ D R v p all U=>?_⟩;have o:=v _ _ hd;refine⟨_,rfl,_,rfl,d,g,n,x,t,a,rfl,o,l.1.mono v,pos,(tb.mono v).o,λB J _ nl _ n2 t2 x am Y an ao ap=>?_⟩;have O:=(l.mono v).frd pos o x;have l:=(tb.mono v).frd o x;have C:Zt j PT PP PO B g a (Z1 a R) r:=.own (U.mono λb af u z=>Jh x o z (λ_ e=>nomatch e)) (p.fr o (vf p pos o) x) all l.t;have l:Zt j PT PP PO B g a (λc m=>m∈jO a c c.length) J:=.any ap Y an ao;have st:=dr R all;refine⟨_,rfl,_,rfl,_,rfl,_,rfl,g,h,r,J,a,c,_,_,16,rfl,O,C,l,by decide,λ_ j aq ab ar p ag as au p3 _ _=>?_⟩;refine⟨_,rfl,_,rfl,_,rfl,_,rfl,g,h,J,r,a,c,_,_,16,rfl,O.mono p,l.mono p,C.mono p,by decide,λ_ l av ac aw B ah ax ay p4 _ _=>?_⟩;refine⟨_,rfl,_,rfl,_,rfl,_,rfl,g,h,r,r,a,c,_,_,8,rfl,O.mono (p.trans B),C.mono (p.trans B),C.mono (p.trans B),by decide,λU o az ai aA s5 aj aB aC p5 _ _=>?_⟩;have Y:=B.trans s5;have ak:=p.trans Y;have n3:Zc a c ab≠zdV "second":=λe=>by
  obtain⟨em,p⟩:=Yu (rs:=a) (hs:=c) (ms:=ab) (λz=>by rw[e]at z;exact absurd z (by decide+kernel));have:=vn good all T p3 0 (by decide) (λi hk m hi C=>by rw[if_pos hi]at C;exact C) st em;rw[yN.2 (by omega),e]at p;exact absurd p (by decide+kernel)
 have n4:Zc a c ac≠zdV "first":=λe=>by
  obtain⟨em,p⟩:=Yu (rs:=a) (hs:=c) (ms:=ac) (λz=>by rw[e]at z;exact absurd z (by decide+kernel));have:=vn good all T p4 1 (by decide) (λi hk m hi C=>by rw[if_neg (by omega)]at C;exact C) st em;rw[yN.1 (by omega),e]at p;exact absurd p (by decide+kernel)
 have n5:Zc a c ai=zdV "open":=Classical.byContradiction λz=>Ri good all T p5 st (Yu z).1;refine⟨_,rfl,j,_,1,_,rfl,rfl,.of (Y _ _ ag),rfl,rfl,_,rfl,qO (decide_eq_false λz=>n3 (V.str.inj z)) ?_⟩;refine⟨_,rfl,l,_,1,_,rfl,rfl,.of (s5 _ _ ah),rfl,rfl,_,rfl,qO (decide_eq_false λz=>n4 (V.str.inj z)) ?_⟩;refine⟨_,rfl,o,_,1,_,rfl,rfl,.of aj,rfl,rfl,_,rfl,qO (by rw[n5,decide_eq_true rfl];rfl) ?_⟩;refine⟨_,rfl,_,rfl,_,rfl,Ze,λL p=>⟨L,rfl,⟨_,.of qa⟩,?_⟩⟩;have T:=qf (o:=HO.lst [V.ref j,.ref l,.ref o]) p;have p:upd U L (.lst [V.ref j,.ref l,.ref o]) L=some (.lst [V.ref j,.ref l,.ref o]):=qa;generalize upd U L (.lst [V.ref j,.ref l,.ref o])=C at T p;have aD:=O.mono (ak.trans T);refine jm (K:=K) (a:=L) (xs:=[V.ref j,.ref l,.ref o]) (λ_ O X=>∃v8,O=[some (.ref d),some (.ref g),some (.ref h),some (.ref r),some (.ref J),some (.ref j),some (.ref l),some (.ref o),v8]/\qi C X) ⟨_,rfl,qi.refl _⟩ (λi O X _ ⟨_,_,s⟩=>.of (s _ _ p)) ?_ ?_
 ·rintro i y O X hy ⟨v8,rfl,r⟩;have J:=T.trans r;have fm:∃U Y p qs,y=.ref U/\X U=some (.tup [.ref Y,.str (Zc a c p)])/\X Y=some (.lst (qs.map V.ref))/\jM X qs p/\Mw a c p/\p.length<=300:=by
   have C:=tL hy;have aa:=s5.trans J;have ae:=B.trans aa;rcases tI.mp C with e | C
   ·exact⟨j,aq,ab,ar,e,ae _ _ ag,ae _ _ as,au.mono ae,p3.mw,by omega⟩
   rcases tI.mp C with e | C
   ·exact⟨l,av,ac,aw,e,aa _ _ ah,aa _ _ ax,ay.mono aa,p4.mw,by omega⟩
   ·exact⟨o,az,ai,aA,tQ.mp C,J _ _ aj,J _ _ aB,aC.mono J,p5.mw,by omega⟩
  obtain⟨U,Y,p,qs,rfl,j,l,mv,o,B⟩:=fm;refine⟨_,rfl,_,rfl,_,rfl,g,h,U,Y,a,c,qs,p,rfl,aD.mono r,j,l,mv,o,B,λ_ a=>⟨_,rfl,jG ?_⟩⟩;exact⟨_,rfl,r.trans a⟩
 ·rintro O X ⟨v8,rfl,r⟩;have a:=(ak.trans T).trans r;have c:Fr H d H1:=λb af g _=>v b af g;exact q X n2 t2 ((c.trans x).same a) (a _ _ am)
abbrev nLR:List Str:=["_law_source_here","_law_ground","_law_heap_here","_law_found","_law_own","_law_opponent_here","_law_most","_law_hands","_law_told","_law_again"]
def FK:qh nLR AE (qc EZ):=jY
def D5{P:Program}{w:World}{K:zdU}{mg:Str->Option Value}{base:Heap}{f o PT PP PO a g j l p r v:Addr}{x y C J L O T U:zdY}(F:jE K "_law_right" "_law_right" EZ f x)(B:Qo mg)(G:j3 mg)(ax:qH K mg "player" Qg ["ground"] a y)(ay:qp P w K mg base qN 9 a y ["ground"] (Xm o PP))(az:qH K mg "_law_opponent" Yf NH g C)(aA:qp P w K mg base qN 2 g C NH (uJ o PO))
  (hP:qH K mg "played" Zz AC j J) (GP:qp P w K mg base qN 15 j J AC (RV o PT PP PO)) (aB:qH K mg "_law_walked" xL BA l L) (aC:qp P w K mg base qN 8 l L BA (uP o)) (hO:qH K mg "outcome" WR p2 p O) (GO:qp P w K mg base qN 10 p O p2 (vN o)) (aD:qH K mg "_law_drawn_right" DP AE r T) (aE:qp P w K mg base qN 16 r T AE (Dv o PT PP PO)) (aF:qH K mg "most_moves" UU p2 v U) (aG:qp P w K mg base qN 13 v U p2 (uM o PT)):qp P w K mg base qN 17 f x AE (Fs o PT PP PO):=by
 refine F.okK FK λH Q E hr z=>?_
 ·obtain⟨d,l,h,n,r,t,a,g,rfl,hd,j,pos,tb,q⟩:=z;refine⟨_,qb (qx 3 (qv hO GO (jr (jv 1) (jv 2))))
 (qb (qF (qo jl (jv 3) (qy)) (qd (qm (qv aD aE (Ys (jv 0) (jv 1) (jv 2))))) (qr))
 (qb (qx 4 (qv ax ay (qU (jv 1))))
 (qb (qx 5 (qv az aA (jr (jv 0) (jv 1))))
 (VP (qx 6 (qv aF aG (jr (jv 1) (jv 2))))
 (qb (qx 7 (j5 (jr (jv 4) (jv 5))))
 (VP (qF (qo jl (jv 3) (qy)) (qd (qx 7 (j5 (jr (jv 5) (jv 4))))) (qr))
 (qb (qx 8 (qv hP GP (CT (jv 1) (jo jp (by rfl) G.lst boot_list (qU (jv 2))) (qB qR (jv 7) (qe)) (qB qR (jv 7) (qe)) (qu (Vd rfl) (by rfl) B.min boot_min (jr (jv 6) qe)))))
   (qb (qF (JW.pt (Qs (qo WX (jv 6) (qe)) (Qc (qo ZV (qB qJ (jv 8) (qe)) (qB qR (j5 (jr qy qy)) (jo Ve (by rfl) B.int boot_int (qU (jK jl (jv 3) qy)))))))) (qD) (qr))
   (qb (qx 9 (qv hP GP (CT (jv 1) (jo jp (by rfl) G.lst boot_list (qU (jv 2))) (jv 4) (jv 4) (qu (Vd rfl) (by rfl) B.min boot_min (jr (jv 6) qe)))))
   (qb (qF (JW.pt (Qs (qo WX (jv 6) (qe)) (Qc (qo ZV (qB qJ (jv 9) (qe)) (qB qJ (jv 8) (qe)))))) (qD) (qr))
   (qd (qm (qv aB aC (Ys (jv 1) (jv 2) (jv 8))))))))))))))),?_⟩
  have ⟨v,good,le,p⟩:=j;have y:ZR a g:=⟨p.le,p.in_⟩;refine⟨_,rfl,_,rfl,l,h,a,g,rfl,j,λ_ R all T=>⟨_,rfl,rfl,_,rfl,?_⟩⟩;have O:=T _ _ hd;have x:=j.mono T;have ab:=tb.mono T;by_cases cD:oW a R g=wD
  ·refine qW (decide_eq_true (congrArg V.str cD)) ⟨_,rfl,_,rfl,_,rfl,d,l,h,n,r,t,a,g,rfl,O,x,pos,ab,λR' v=>?_,λp n2 C L j=>q p n2 C (λb J hb nb=>L b J (T _ _ hb) nb) j⟩;obtain rfl:=All.uniq good.nd all v;exact cD
  refine qO (decide_eq_false λz=>cD (V.str.inj z)) ?_;refine⟨_,rfl,l,a,rfl,x.1,good,le,ab.p,λp p _ D R' L lb v aH=>?_⟩;obtain rfl:=All.uniq good.nd all v;have j:=L _ _ O;refine⟨_,rfl,_,rfl,d,l,n,r,t,a,rfl,j,x.1.mono L,pos,(ab.mono L).o,λH3 r _ nl _ aI t3 U aJ aK aL aM aN=>?_⟩;have O:=(x.mono L).frd pos j U;have x:=(ab.mono L).frd j U;have ho:Zt o PT PP PO H3 l a (Z1 a R) p:=.own (aH.mono λb J u z=>Jh U j z (λ_ e=>nomatch e)) (lb.fr j (vf lb pos j) U) all x.t;have ha:Zt o PT PP PO H3 l a (λg m=>m∈jO a g g.length) r:=.any aN aK aL aM;have af:∀{j:List Str} {m:Nat×Str},Z1 a R j m->oW a R j=wW->Qz a R j m:=λpm c=>by
   rcases pm with ⟨_,b⟩ | ⟨e,_⟩ | ⟨e,_⟩
   ·exact b
   ·exact absurd (c.symm.trans e) V9
   ·exact absurd (e.symm.trans c) Xi
  have ak:∀{j:List Str},ZR a j->zf R j<=112:=λ{j} J=>by
   have h1:=Uj (R:=R) (hs:=j) λz _=>ut all le z;have h2:=J.1;omega
  refine⟨λσ X=>∃N:Nat,σ=[some (.ref d),some (.ref l),some (.ref h),some (.str (oW a R g)),some (.ref p),some (.ref r),some (.int (N:Nat)),none,none,none]/\qi H3 X/\N<=300/\((oW a R g=wW/\∀m,Qz a R g m->1+2*zf R (lf g m)<=N)\/(oW a R g=wL/\2*zf R g<=N)),⟨_,rfl,_,rfl,l,h,a,g,rfl,O,x.t,λR' v=>?_⟩,?_⟩
  ·obtain rfl:=All.uniq good.nd all v;exact⟨cD,λc x v=>⟨_,rfl,v,by have:=ak y;omega,.inr ⟨c,tc _⟩⟩,λc x m v x=>⟨_,rfl,v,by have:=ak (y.set good x.mem.1);omega,.inl ⟨c,λ_ v=>by rw[v.uniq x];exact tc _⟩⟩⟩
  rintro σ X ⟨N,rfl,x,n3,gX⟩;refine⟨_,rfl,_,rfl,Ze,λl0 f0=>?_⟩;have v:=qf (o:=HO.lst [V.ref p,.ref r]) f0;have y0:upd X l0 (.lst [V.ref p,.ref r]) l0=some (.lst [V.ref p,.ref r]):=qa;generalize upd X l0 (.lst [V.ref p,.ref r])=X0 at v y0;have ac:=x.trans v;refine⟨λσ Y=>∃(aa f0 f1:Addr) (v x:List Str->(Nat×Str)->Prop) (b:Nat),σ=[some (.ref d),some (.ref l),some (.ref h),some (.str (oW a R g)),some (.ref p),some (.ref r),some (.int (N:Nat)),some (.ref aa),none,none]/\qi H3 Y/\Y aa=some (.lst [.ref f0,.ref f1])/\Zt o PT PP PO Y l a v f0/\Zt o PT PP PO Y l a x f1/\b < 2/\(∀i j m,i % 2=b->(if i % 2=0 then v else x) j m->oW a R j=wW->Qz a R j m)/\((b=0/\oW a R g=wW/\∀m,Qz a R g m->1+2*zf R (lf g m)<=N)\/(b=1/\oW a R g=wL/\2*zf R g<=N)),⟨_,rfl,rfl,_,rfl,?_⟩,?_⟩
  ·rcases gX with ⟨c,k⟩ | ⟨c,k⟩
   ·exact qO (decide_eq_false λz=>Xi ((V.str.inj z).symm.trans c)) ⟨l0,p,r,_,_,0,rfl,ac,y0,ho.mono ac,ha.mono ac,by decide,λi j m hi o=>by rw[if_pos hi]at o;exact af o,.inl ⟨rfl,c,k⟩⟩
   ·refine qW (decide_eq_true (congrArg V.str c)) ⟨_,rfl,_,rfl,Ze,λl1 f1=>?_⟩;have u1:=qf (o:=HO.lst [V.ref r,.ref p]) f1;have ag:=ac.trans u1;exact⟨l1,r,p,_,_,1,rfl,ag,qa,ha.mono ag,ho.mono ag,by decide,λi j m hi o=>by rw[if_neg (by omega)]at o;exact af o,.inr ⟨rfl,c,k⟩⟩
  rintro σ Y ⟨aa,aO,aP,v,x,b,rfl,sY,hl,aQ,aR,b2,hT,al⟩;have am:=O.mono sY;refine⟨_,rfl,_,rfl,h,_,rfl,.inl (.of am.2.2.2.at_),λr aS=>?_⟩;have v1:=qf (o:=HO.lst (g.map V.str)) aS;have w1:upd Y r (.lst (g.map V.str)) r=some (.lst (g.map V.str)):=qa;generalize upd Y r (.lst (g.map V.str))=Y1 at v1 w1;have an:=v1 _ _ hl;have ao:∀M:Nat,(if ((M:Nat):Int) < ((N:Nat):Int) then ((M:Nat):Int) else ((N:Nat):Int))=((min N M:Nat):Int):=λM=>by
   by_cases c:M < N
   ·rw[if_pos (by omega),zdc (by omega)]
   ·rw[if_neg (by omega),zbz (by omega)]
  refine⟨_,rfl,aa,_,0,_,rfl,rfl,.of an,rfl,_,rfl,aa,_,1,_,rfl,rfl,.of an,rfl,_,rfl,_,_,rfl,?_⟩;refine⟨l,r,aO,aP,a,g,v,x,min N 300,by rw[<-ao 300];rfl,⟨(am.mono v1).1,good,le,⟨w1,y.1,y.2⟩⟩,aQ.mono v1,aR.mono v1,zbh _ _,λY2 C ap ah aq r ae ar as ai aT aU=>?_⟩;have au:=(sY.trans v1).trans r;have av:∀{v x:List Str->(Nat×Str)->Prop} {r:List (Nat×Str)} {M:Nat},Rp a v x g r->(∀i j m,i % 2=b->(if i % 2=0 then v else x) j m->oW a R j=wW->Qz a R j m)->(jO a (qz g r) (qz g r).length=[]\/r.length=min N M)->N<=M->Zc a g r=YI (1 - b):=λ{v x r M} aV hT ov nm=>by
   rw[zbz nm]at ov;obtain⟨v,_⟩:=RB good all y aV b N hT b2 al ov;rw[y2 v];have:r.length % 2=(1 - b) % 2:=by omega
   unfold YI;rw[this]
  have w2:=av ai hT aU n3;refine⟨_,rfl,_,_,rfl,rfl,_,rfl,qW (decide_eq_true (by omega)) ⟨_,rfl,C,_,1,_,rfl,rfl,.of ae,rfl,Ze,λr f2=>?_⟩⟩;have v:=qf (o:=HO.lst [V.str (zdV "second"),.str (zdV "first")]) f2;have x:upd Y2 r (HO.lst [V.str (zdV "second"),.str (zdV "first")]) r=some (.lst [V.str (zdV "second"),.str (zdV "first")]):=qa;generalize upd Y2 r (HO.lst [V.str (zdV "second"),.str (zdV "first")])=Y3 at v x;have ew:∃k,decide (V.str (oW a R g)=V.str (zdV "won"))=k/\Wo [V.str (zdV "second"),.str (zdV "first")] (if k=true then (1:Int) else 0)=some (.str (YI (1 - b))):=by
   rcases al with ⟨e,c,_⟩ | ⟨e,c,_⟩
   ·exact⟨true,decide_eq_true (congrArg V.str c),by rw[e];rfl⟩
   ·exact⟨false,decide_eq_false λz=>Xi (c.symm.trans (V.str.inj z)),by rw[e];rfl⟩
  obtain⟨k,ek,ea⟩:=ew;refine⟨_,rfl,rfl,.inr ⟨k,by rw[ek],r,_,_,_,rfl,rfl,.of x,ea,rfl,_,rfl,qO (by rw[w2,decide_eq_true rfl];rfl) ?_⟩⟩;have aw:=au.trans v;refine⟨_,rfl,_,rfl,h,_,rfl,.inl (.of (aw _ _ O.2.2.2.at_)),λr aW=>?_⟩;have x:=qf (o:=HO.lst (g.map V.str)) aW;have x2:upd Y3 r (.lst (g.map V.str)) r=some (.lst (g.map V.str)):=qa;generalize upd Y3 r (.lst (g.map V.str))=Y4 at x x2;have aj:=aw.trans x;refine⟨_,rfl,_,rfl,_,rfl,_,_,rfl,?_⟩;refine⟨l,r,p,p,a,g,_,_,min N 60,by rw[<-ao 60];rfl,⟨(O.mono aj).1,good,le,⟨x2,y.1,y.2⟩⟩,ho.mono aj,ho.mono aj,tS (zbh _ _) (by decide),λy t5 _ _ _ r aX _ _ p5 _ aY=>?_⟩;have p:=(v.trans x).trans r;have v:=au.trans p;have x:ah.length<=300:=tS aT (zbh _ _);have d_:∀r,qi y r->Q (.bl true) r:=λr s6=>by
   have y:=v.trans s6;refine q r aI t3 (λb J hb nb=>y _ _ (U b J (L _ _ (T _ _ hb)) nb)) (y _ _ aJ)
  refine⟨_,rfl,_,_,rfl,rfl,_,rfl,?_⟩;by_cases r:N<=60
  ·have y:=av p5 (λi j m hi o=>by rw[ite_self]at o;exact af o) aY r;refine qW (decide_eq_true (by omega)) ⟨_,rfl,t5,_,1,_,rfl,rfl,.of aX,rfl,_,rfl,C,_,1,_,rfl,rfl,.of (p _ _ ae),rfl,rfl,_,rfl,qO (by rw[y,w2,decide_eq_true rfl];rfl) ?_⟩;exact⟨_,rfl,_,rfl,_,rfl,l,h,C,ap,a,g,aq,ah,rfl,O.mono v,p _ _ ae,p _ _ ar,as.mono p,ai.mw,x,d_⟩
  ·exact qO (decide_eq_false (by omega)) ⟨_,rfl,_,rfl,_,rfl,l,h,C,ap,a,g,aq,ah,rfl,O.mono v,p _ _ ae,p _ _ ar,as.mono p,ai.mw,x,d_⟩
open PySem L2 MPlay
open PyProof.Rows hiding K lo
abbrev lv(rs:jf)(k:Nat):Str->En:=J2 (Qh rs) k
abbrev AW:=Str×(Bool×Int)
def WY(rs:jf)(k:Nat)(r:Str×List Str):En:=if (lv rs k r.1).isSome=true then none else step (lv rs k) (qP rs r) k
def We(rs:jf)(k:Nat)(a:jf):List AW:=a.filterMap λa=>(WY rs k a).map λe=>(a.1,e)
def tb(rs:jf):Nat->List AW
 | 0=>[]
 | k+1=>tb rs k++We rs k rs
def zG(g:(Str×List Str)->En):∀{b:jf},(b.map (·.1)).Nodup->∀r∈b,(b.filterMap λr=>(g r).map λe=>(r.1,e)).lookup r.1=g r
 | a::b,c,r,h=>by
  rw[tG,zaa]at c;have d:∀z,¬z∈b.map (·.1)->(b.filterMap λr=>(g r).map λe=>(r.1,e)).lookup z=none:=by
   intro z i;rw[zca];intro b j;obtain⟨l,m,o⟩:=zas.mp j;obtain⟨e,_,rfl⟩:=zcg.mp o;simp only[beq_eq_false_iff_ne,ne_eq,bne_iff_ne];intro j;exact i (j▸tl.mpr ⟨l,m,rfl⟩)
  rw[tZ];rcases tI.mp h with rfl | h
  ·cases e:g r with
   | none=>exact d _ c.1
   | some b=>simp [zaf]
  ·have ne:¬r.1=a.1:=λe=>c.1 (e▸tl.mpr ⟨r,h,rfl⟩);cases e:g a with
   | none=>exact zG g c.2 r h
   | some b=>
    simp only[zbb,zaf];rw[beq_eq_false_iff_ne.mpr ne];exact zG g c.2 r h
def YR{rs:jf}(a:(rs.map (·.1)).Nodup):∀k,∀r∈rs,(tb rs k).lookup r.1=lv rs k r.1
 | 0,r,h=>rfl
 | k+1,r,h=>by
  have b:=YR a k r h;show (tb rs k++We rs k rs).lookup r.1=_;rw[zcJ,b];cases e:lv rs k r.1 with
  | some b=>exact(jB _ e).symm
  | none=>
   have b:lv rs (k+1) r.1=step (lv rs k) (Qh rs r.1) k:=QI _ e;rw[b,Qu a h,We,zG _ a r h];show WY rs k r=_;unfold WY;rw[e];rfl
def ZC(rs:jf)(k:Nat):∀b:jf,((We rs k b).map (·.1)).Sublist (b.map (·.1))
 | []=>.slnil
 | a::b=>by
  have c:=ZC rs k b;unfold We at c ⊢;rw[tZ];cases e:WY rs k a with
  | none=>exact c.cons _
  | some b=>exact c.cons₂ _
def MU(rs:jf):∀k,∀z∈(tb rs k).map (·.1),z∈rs.map (·.1)
 | 0,z,h=>(nomatch h)
 | k+1,z,h=>by
  rw[tb,tw]at h;rcases tT.mp h with h | h
  ·exact MU rs k z h
  ·exact(ZC rs k rs).subset h
def N6(h:z∈(We rs k d).map (·.1)):lv rs k z=none:=by
 obtain⟨x,c,rfl⟩:=tl.mp h;obtain⟨b,_,e⟩:=zas.mp c;obtain⟨_,a,rfl⟩:=zcg.mp e;unfold WY at a;show lv rs k b.1=none;cases q:lv rs k b.1 with
 | none=>rfl
 | some y=>rw[q]at a;cases a
def ub{rs:jf}(a:(rs.map (·.1)).Nodup)(h:z∈(We rs k rs).map (·.1)):¬z∈(tb rs k).map (·.1):=λm=>by
 obtain⟨b,hr,rfl⟩:=tl.mp ((ZC rs k rs).subset h);have e:=YR a k b hr;rw[N6 h,zca]at e;obtain⟨x,a,b⟩:=tl.mp m;have:=e x a;simp only[beq_eq_false_iff_ne,ne_eq,bne_iff_ne]at this;exact this b.symm
def MT{rs:jf}(c:(rs.map (·.1)).Nodup):∀k,((tb rs k).map (·.1)).Nodup
 | 0=>zaY
 | k+1=>by
  rw[tb,tw,zbI];refine⟨MT c k,c.sublist (ZC rs k rs),λa d b g e=>?_⟩;subst e;exact ub c g d
def uc{rs:jf}(a:(rs.map (·.1)).Nodup)(k:Nat):(tb rs k).length<=rs.length:=by
 have:=J3 (MT a k) (MU rs k);rwa [ta,ta]at this
def ud{rs:jf}(c:(rs.map (·.1)).Nodup)(h:We rs k rs=[]):∀z∈rs.map (·.1),lv rs k z=none->step (lv rs k) (Qh rs z) k=none:=λz b e=>by
 obtain⟨a,hr,rfl⟩:=tl.mp b;have q:=zG (WY rs k) c a hr;have b:(rs.filterMap λa=>(WY rs k a).map λe=>(a.1,e))=[]:=h;rw[b]at q;have b:WY rs k a=none:=q.symm;unfold WY at b;rw[e]at b;rw[Qu c hr];exact b
abbrev tF(rs:jf):Str->En:=lv rs 14
def C8{rs:jf}(a:(rs.map (·.1)).Nodup)(b:k<=14)(h:We rs k rs=[]):Tab (Qh rs) (rs.map (·.1)) (tF rs)/\∀r∈rs,tF rs r.1=lv rs k r.1:=by
 have e:=K8 (Qh rs) (jX a) (ud a h) 14 b;refine⟨AY (Qh rs) (jX a) λz b c=>?_,λr hr=>e _ (tl.mpr ⟨r,hr,rfl⟩)⟩;rw[e z b]at c;obtain⟨i,y,d,j⟩:=JH (ud a h z b c);refine Yz (λc g m q=>?_) ⟨y,d,?_⟩
 ·rw[e c (jX a z b c g)]at q;exact i c g m q
 ·rw[e y (jX a z b y d)];exact j
def j6(b:Bool):Str:=if b=true then "won" else "lost"
def zO:En->List V
 | none=>[.str "drawn",.non]
 | some e=>[.str (j6 e.1),.int e.2]
inductive Qy(K:zdU)(H:Hp)(v:V)(e:En):Prop
 | mk (p:_):v=.ref p->(SqT K H p (zO e))->Qy K H v e
def _root_.L2.SqT.mono(h:SqT K H p xs)(s:qi H a):SqT K a p xs:=by
 rcases h with (h | ⟨a,h⟩) | h
 ·exact .inl (.inl (s _ _ h))
 ·exact .inl (.inr ⟨a,s _ _ h⟩)
 ·exact .inr h
def _root_.L2.SqT.put(h:SqT K H p xs)(a:H D=some (.dK kvs)):SqT K (upd H D o) p xs:=by
 rcases h with (h | ⟨u,h⟩) | h
 ·exact .inl (.inl (by rw[qg (λe=>by rw[e,a]at h;cases h)];exact h))
 ·exact .inl (.inr ⟨u,by rw[qg (λe=>by rw[e,a]at h;cases h)];exact h⟩)
 ·exact .inr h
def Qy.mono(h:Qy K H v e)(s:qi H c):Qy K c v e:=let ⟨c,a,b⟩:=h;⟨c,a,L2.SqT.mono b s⟩
def Qy.put(h:Qy K H v e)(c:H D=some (.dK kvs)):Qy K (upd H D o) v e:=let ⟨d,a,b⟩:=h;⟨d,a,L2.SqT.put b c⟩
def jP(K:zdU)(H:Hp)(kvs:List (qT×V))(t:List AW):Prop:=Paired (λ(a:qT×V) (x:AW)=>a.1=Sum.inr x.1/\Qy K H a.2 (some x.2)) kvs t
def jP.imp(f:∀v e,Qy K H v e->Qy K a v e):∀{kvs:List (qT×V)} {t:List AW},jP K H kvs t->jP K a kvs t
 | _,_,.nil=>.nil
 | _,_,.cons h a=>.cons ⟨h.1,f _ _ h.2⟩ (jP.imp f a)
def jP.append:∀{kvs more:List (qT×V)} {t u:List AW},jP K H kvs t->jP K H more u->jP K H (kvs++more) (t++u)
 | _,_,_,_,.nil,k=>k
 | _,_,_,_,.cons h a,k=>.cons h (jP.append a k)
def jP.keys:∀{kvs:List (qT×V)} {t:List AW},jP K H kvs t->kvs.map (·.1)=(t.map (·.1)).map Sum.inr
 | _,_,.nil=>rfl
 | _,_,.cons h a=>by rw[tG,tG,tG,h.1,jP.keys a]
def jP.len(h:jP K H kvs t):kvs.length=t.length:=by
 have:=congrArg zad h.keys;simpa using this
def jP.look(z:Str):∀{kvs:List (qT×V)} {t:List AW},jP K H kvs t->(t.lookup z=none/\jh kvs (Sum.inr z)=none)\/∃e v,t.lookup z=some e/\jh kvs (Sum.inr z)=some v/\Qy K H v (some e)
 | _,_,.nil=>.inl ⟨rfl,rfl⟩
 | _,_,.cons (a:=a) (b:=(b,c)) h d=>by
  by_cases e:b=z
  ·subst e;exact .inr ⟨c,a.2,by simp [zaf],jj h.1,h.2⟩
  ·have c:¬a.1=Sum.inr z:=λq=>e (Sum.inr.inj (h.1.symm.trans q));have a:(z==b)=false:=beq_eq_false_iff_ne.mpr λq=>e q.symm;rw[jk c,zaf,a];exact jP.look z d
def V8(f:Str->En)(es:List Str):List Str:=es.filterMap λy=>(f y).map λe=>j6 e.1
def V7(f:Str->En):∀es:List Str,YF (.str "lost") ((V8 f es).map V.str)=es.any λy=>(f y).any λe=> !e.1
 | []=>rfl
 | y::es=>by
  have a:=V7 f es;unfold V8 YF at a ⊢;rw[tZ,zbC];cases e:f y with
  | none=>simpa using a
  | some c=>
   obtain⟨b,n⟩:=c;rw[zbb,tG,zbC,a];congr 1;cases b
   ·show (zdV "lost"==zdV "lost")=true;simp
   ·show (zdV "won"==zdV "lost")=false;decide+kernel
def wY(f:Str->En)(es:List Str):(V8 f es).length<=es.length:=zaN _ _
def kN(f:Str->En):∀es:List Str,decide ((V8 f es).length=es.length)=es.all λy=>(f y).isSome
 | []=>rfl
 | y::es=>by
  have a:=kN f es;have le:=wY f es;unfold V8 at a le ⊢;rw[tZ,zcv];cases e:f y with
  | none=>
   simp only[Option.map_none,Option.isSome_none,zcc,t0];exact decide_eq_false (by omega)
  | some b=>
   rw[<-a];simp only[zbb,zdE,Bool.true_and,t0];exact decide_eq_decide.mpr (by omega)
abbrev Z3:Stmt:=top 90
abbrev Yb:Stmt:=top 91
abbrev Ya:Stmt:=top 92
def XF(e:rs[i]?=some r):We rs k (rs.take (i+1))=We rs k (rs.take i)++(match WY rs k r with | some x=>[(r.1,x)] | none=>[]):=by
 unfold We;rw[tM,e,zab];congr 1;show List.filterMap _ [r]=_;rw[tZ,zdI];cases WY rs k r<;>rfl
def N7(rs:jf)(k:Nat)(a:jf):(We rs k a).length<=a.length:=zaN _ _
def NC{H:Hp}{rs:jf}(d:(rs.map (·.1)).Nodup)(a:H D=some (.dK more))(fE:jP K H more (We rs k (rs.take i)))(b:rs[i]?=some r)(g:WY rs k r=some e)(j:H p=some (.tup (zO (some e)))):
  jP K (upd H D (.dK (jQ more (Sum.inr r.1) (.ref p)))) (jQ more (Sum.inr r.1) (.ref p)) (We rs k (rs.take (i+1))):=by
 have l:jh more (Sum.inr r.1:qT)=none:=by
  refine Ja λm=>?_;rw[fE.keys]at m;obtain⟨z,o,c⟩:=tl.mp m;obtain rfl:=Sum.inr.inj c;have c:=(ZC rs k (rs.take i)).subset o;rw[List.map_take]at c;have o:(rs.map (·.1))[i]?=some r.1:=by rw[tp,b];rfl
  exact Q7 d o (tl.mpr ⟨_,c,rfl⟩)
 rw[JK _ l,XF b,g];refine jP.append (fE.imp λv e h=>h.put a) (.cons ⟨rfl,Qy.put ⟨p,rfl,.of j⟩ a⟩ .nil)
inductive Uv(K:zdU)(CG:Addr)(vs:List V)(H:Hp)(Q:VK):Prop
 | mk (g d:Addr) (rs:jf) (k:Nat) (kvs:List (qT×V)):vs=[.ref g,.ref d,.int k]->jZ CG H g rs->qj rs->(rs.length<=14)->H d=some (.dK kvs)->(jP K H kvs (tb rs k))->(∀H' D more,qi H H'->H D=none->H' D=some (.dK more)->jP K H' more (We rs k rs)->Q (.ref D) H')->Uv K CG vs H Q
def RS(K:zdU)(a:Addr):Sp:=λb H Q _=>Uv K a b H Q
abbrev nSI:List Str:=["ground","table","number","settled","name","ends","words"]
abbrev CO:List Str:=["ground","table","number"]
def DA:qh nSI CO (qc Z3):=jY
def KG(F:jE K "settled_in" "settled_in" Z3 f a)(B:Qo mg)(G:j3 mg)(T:Qb K mg)(M:GM K mg b):qp P w K mg base qN 3 f a CO (RS K b):=by
 obtain⟨_,_,b⟩:=M.cls;obtain⟨_,_,j⟩:=M.nm;obtain⟨_,_,l⟩:=M.fr;obtain⟨_,_,a⟩:=M.isn;have GM:=pin P w mg base (Q6 j.fn b G);have m:=pin P w mg base (Je l.fn b B G T a);refine F.okK DA λH Q E hr h=>?_;obtain⟨g,d,a,k,ag,rfl,r,good,_,hd,fE,q⟩:=h;have o:je 1 _:=hr.mono (by decide);refine⟨_,qb (qx 3 Qd)
  (qb (jc (qC (W6 j b.cl GM o (jv 0))) (qG 4)
   (qb (qF (Jy (zb (jv 4) (jv 1))) (qd vg) qr)
   (qb (qx 5 (YE l b.cl m hr (jv 0) (qU (jv 4))))
   (qb (Jj (i:=6) (N':=["end","table"]) (ix:=[none,some 1]) (tt:=tB (Dc (qY 0) (qY 1))) (te:=z5 (zy K) (zm (qY 1) (qY 0)) (tC (.int 0))) (hN:=DA.nd) (qC (jv 5)) (λb C l fp _=>
    ⟨qG 0,j7 (Jy (zb (jv 0) (jv 1))),qB qJ (q5 (jv 1) (jv 0)) qe⟩))
   (qd (qF (qo ZB qy (jv 6) (by with_unfolding_all rfl))
    (qd (jF (jv 3) (jv 4) (jW (jr qy (jv 2)))))
    (qd (qF (qo jl (qu qA (by rfl) B.len boot_len (qU (jv 6))) (qu qA (by rfl) B.len boot_len (qU (jv 5))))
     (qd (jF (jv 3) (jv 4) (jW (jr qy (jv 2))))) qr))))))))
  (qd (qm (jv 3)))),?_⟩
 intro D p;obtain⟨dx,fs,hg,b,l2⟩:=r.ins;have j:D≠d:=λe=>by rw[e,hd]at p;cases p
 refine⟨_,rfl,g,dx,fs,rfl,qk hg p,b,g,a,rfl,r.mono (qf p),λln b=>⟨ln,rfl,⟨_,.of qa⟩,?_⟩⟩;have ah:ln≠D:=λe=>by rw[e,qa]at b;cases b
 refine jm (K:=K) (a:=ln) (xs:=(a.map (·.1)).map V.str) (λi L j=>∃v4 v5 v6 more,L=[some (.ref g),some (.ref d),some (.int k),some (.ref D),v4,v5,v6]/\qi H j/\j ln=some (.lst ((a.map (·.1)).map V.str))/\j D=some (.dK more)/\jP K j more (We a k (a.take i)))
  ⟨none,none,none,[],rfl,(qf p).trans (qf b),qa,?_,.nil⟩ (λi L j _ ⟨_,_,_,_,_,_,h,_⟩=>.of h) ?_ ?_
 ·rw[qg (Ne.symm ah)];exact qa
 ·rintro i y L j J ⟨v4,v5,v6,more,rfl,m,O,U,u⟩;obtain⟨b,Y,aa,rfl⟩:=XJ J;have o:=(td.mp Y).1;have QM:=fE.imp λv e h=>h.mono m;have ai:=m _ _ hd;have ab:∀b∈a,(tb a k).lookup b.1=lv a k b.1:=YR good.nd k;have o:=j0.k (k:=(Sum.inr b.1:qT)) ai;refine⟨_,rfl,_,rfl,d,_,rfl,o,_,rfl,?_⟩;rcases QM.look b.1 with ⟨x,e2⟩ | ⟨e,v,x,e2,e3⟩
  ·rw[ab b aa]at x;rw[e2];refine jG ?_;refine⟨_,rfl,g,dx,fs,rfl,m _ _ hg,l2,_,rfl,g,a,b,rfl,r.mono m,aa,good.nm b aa,λl le C g=>?_⟩;have nW:WY a k b=step (lv a k) (qP a b) k:=by
    unfold WY;rw[x];rfl
   have s3:qi j (upd l le (.lst ((qP a b).map V.str))):=C.trans (qf g);have ac:upd l le (.lst ((qP a b).map V.str)) le=some (.lst ((qP a b).map V.str)):=qa;generalize upd l le (.lst ((qP a b).map V.str))=H3 at s3 ac;have g:=s3 _ _ ai;have am:=QM.imp λv e h=>h.mono s3;have l:=Zi (rs:=a) b;refine⟨_,rfl,le,rfl,⟨_,.of ac⟩,λW C=>?_⟩;refine jC (K:=K) (a:=le) (xs:=(qP a b).map V.str) (λl r ae=>∃v0,r=[v0,some (.ref d)]/\ae=upd H3 W (.lst ((V8 (lv a k) ((qP a b).take l)).map V.str))) ⟨none,rfl,rfl⟩ (λl r ae _ ⟨_,_,e⟩=>e▸.of (qk ac C)) ?_ ?_
   ·rintro l y r ae J ⟨v0,rfl,rfl⟩;obtain⟨z,ez,hz,rfl⟩:=Qf J;have J:=qk (o':=HO.lst ((V8 (lv a k) ((qP a b).take l)).map V.str)) g C;have o:=j0.k (k:=(Sum.inr z:qT)) J;obtain⟨g,aj,rfl⟩:=zx hz;have J:V8 (lv a k) ((qP a b).take (l+1))=V8 (lv a k) ((qP a b).take l)++(match lv a k g.1 with | some e=>[j6 e.1] | none=>[]):=by
     unfold V8;rw[tM,ez,zab];congr 1;show List.filterMap _ [g.1]=_;rw[tZ,zdI];cases lv a k g.1<;>rfl
    refine⟨_,rfl,_,rfl,d,_,rfl,o,_,rfl,?_⟩;rw[J];rcases am.look g.1 with ⟨f1,f2⟩ | ⟨e,v,f1,f2,J⟩
    ·rw[ab g aj]at f1;rw[f1];show if (jh ag (Sum.inr g.1)).isSome=true then _ else _
     rw[f2];refine jG ⟨_,rfl,?_⟩;rw[zam]
    ·rw[ab g aj]at f1;rw[f1];show if (jh ag (Sum.inr g.1)).isSome=true then _ else _
     rw[f2];rw[f2]at o;obtain⟨g,rfl,l⟩:=J;refine Q4 ⟨_,rfl,_,rfl,d,_,rfl,o,g,_,0,.str (j6 e.1),rfl,rfl,l.mono (qf C),rfl,_,qa,?_,_,rfl,?_⟩
     ·rw[ta];refine ql (tS (wY _ _) ?_);rw[tJ];omega
     ·rw[jx,tw];rfl
   ·rintro r ae ⟨v0,rfl,rfl⟩;rw[ta,tu (tc _)];have r:qi j (upd H3 W (.lst ((V8 (lv a k) (qP a b)).map V.str))):=s3.trans (qf C);have ak:=qk (o':=HO.lst ((V8 (lv a k) (qP a b)).map V.str)) ac C;have af:upd H3 W (.lst ((V8 (lv a k) (qP a b)).map V.str)) W=some (.lst ((V8 (lv a k) (qP a b)).map V.str)):=qa;generalize upd H3 W (.lst ((V8 (lv a k) (qP a b)).map V.str))=l at r ak af;have C:=r _ _ U;have al:=u.imp λv e h=>h.mono r;have lk:more.length < zdZ:=by
     rw[u.len];refine ql (tS (N7 _ _ _) ?_);rw[tJ];omega
    refine⟨_,rfl,W,_,rfl,.inl (.of af),rfl,ZG _,_,rfl,?_⟩;have wl:=V7 (lv a k) (qP a b);have wa:=kN (lv a k) (qP a b);have d_:∀e g,WY a k b=some e->l g=none->(upd l g (.tup (zO (some e)))) g=some (.tup (zO (some e)))->
      qi H (upd (upd l g (.tup (zO (some e)))) D (.dK (jQ more (Sum.inr b.1) (.ref g))))/\upd (upd l g (.tup (zO (some e)))) D (.dK (jQ more (Sum.inr b.1) (.ref g))) ln=some (.lst ((a.map (·.1)).map V.str))/\
      jP K (upd (upd l g (.tup (zO (some e)))) D (.dK (jQ more (Sum.inr b.1) (.ref g)))) (jQ more (Sum.inr b.1) (.ref g)) (We a k (a.take (i+1))):=λe g o l an=>by
     refine⟨qi.upd ((m.trans r).trans (qf l)) p,?_,NC good.nd (qk C l) (al.imp λv e h=>h.mono (qf l)) Y o an⟩;rw[qg ah];exact qk (r _ _ O) l
    show if YF (.str (zdV "lost")) ((V8 (lv a k) (qP a b)).map V.str)=true then _ else _
    rw[wl];refine VS (λc=>?_) (λc=>?_)
    ·have o:WY a k b=some (true,(k:Int)):=by
      rw[nW];unfold MPlay.step;rw[if_pos c]
     refine⟨_,rfl,Ze,λg l=>⟨_,rfl,_,rfl,D,_,rfl,Jq.k (k:=(Sum.inr b.1:qT)) (qk C l) lk,?_⟩⟩;obtain⟨f1,f2,J⟩:=d_ _ g o l qa;exact⟨_,_,_,_,rfl,f1,f2,qa,J⟩
    ·refine⟨_,rfl,W,_,rfl,.inl (.of af),_,rfl,le,_,rfl,.inl (.of ak),rfl,_,rfl,?_⟩;have ed:decide (V.int ((((V8 (lv a k) (qP a b)).map V.str).length:Nat):Int)=V.int ((((qP a b).map V.str).length:Nat):Int))=(qP a b).all λy=>(lv a k y).isSome:=by
      rw[<-wa,ta,ta];refine decide_eq_decide.mpr ⟨λh=>?_,λh=>by rw[h]⟩;have:=V.int.inj h;omega
     rw[ed];refine VS (λc2=>?_) (λc2=>?_)
     ·have o:WY a k b=some (false,(k:Int)):=by
       rw[nW];unfold MPlay.step;rw[if_neg c,if_pos c2]
      refine⟨_,rfl,Ze,λg l=>⟨_,rfl,_,rfl,D,_,rfl,Jq.k (k:=(Sum.inr b.1:qT)) (qk C l) lk,?_⟩⟩;obtain⟨f1,f2,J⟩:=d_ _ g o l qa;exact⟨_,_,_,_,rfl,f1,f2,qa,J⟩
     ·have o:WY a k b=none:=by
       rw[nW];unfold MPlay.step;rw[if_neg c,if_neg c2]
      refine⟨_,_,_,_,rfl,m.trans r,r _ _ O,C,?_⟩;rw[XF Y,o];rw[zam];exact al
  ·rw[ab b aa]at x;rw[e2];refine Q4 ⟨_,_,_,more,rfl,m,O,U,?_⟩;have o:WY a k b=none:=by
    unfold WY;rw[x];rfl
   rw[XF Y,o,zam];exact u
 ·rintro L j ⟨v4,v5,v6,more,rfl,m,O,U,u⟩;rw[ta,ta,tu (tc _)]at u;exact⟨_,rfl,q j D more m p U u⟩
abbrev zu:Stmt:=top 93
abbrev UW:Stmt:=top 94
inductive Ut(K:zdU)(CG:Addr)(vs:List V)(H:Hp)(Q:VK):Prop
 | mk (g:Addr) (rs:jf):vs=[.ref g]->jZ CG H g rs->qj rs->(rs.length<=14)->(∀H' D kvs t,qi H H'->H D=none->H' D=some (.dK kvs)->jP K H' kvs t->(∀r∈rs,t.lookup r.1=tF rs r.1)->Tab (Qh rs) (rs.map (·.1)) (tF rs)->Q (.ref D) H')->Ut K CG vs H Q
def RP(K:zdU)(a:Addr):Sp:=λb H Q _=>Ut K a b H Q
def Wc(K:zdU)(H:Hp)(kvs:List (qT×V))(rs:jf):Prop:=∀a∈rs,∃v,jh kvs (Sum.inr a.1:qT)=some v/\Qy K H v (tF rs a.1)
def Wc.mono(h:Wc K H kvs rs)(s:qi H c):Wc K c kvs rs:=λc hr=>let ⟨v,a,b⟩:=h c hr;⟨v,a,b.mono s⟩
inductive Ur(K:zdU)(CG:Addr)(vs:List V)(H:Hp)(Q:VK):Prop
 | mk (g:Addr) (rs:jf):vs=[.ref g]->jZ CG H g rs->qj rs->(rs.length<=14)->(∀H' D kvs,qi H H'->H D=none->H' D=some (.dK kvs)->kvs.map (·.1)=(rs.map (·.1)).map Sum.inr->Wc K H' kvs rs->Tab (Qh rs) (rs.map (·.1)) (tF rs)->Q (.ref D) H')->Ur K CG vs H Q
def k5(K:zdU)(a:Addr):Sp:=λb H Q _=>Ur K a b H Q
inductive WN(K:zdU)(vs:List V)(H:Hp)(Q:VK):Prop
 | mk (v:V) (e:En):vs=[v]->Qy K H v e->(∀H' v',qi H H'->Qy K H' v' (Ql e)->Q v' H')->WN K vs H Q
def uV(K:zdU):Sp:=λa H Q _=>WN K a H Q
inductive yw(CG:Addr)(vs:List V)(H:Hp)(Q:VK):Prop
 | mk (g:Addr) (rs:jf) (r:Str×List Str):vs=[.ref g,.str r.1]->jZ CG H g rs->qj rs->(rs.length<=14)->(r∈rs)->(∀H' l,qi H H'->H l=none->H' l=some (.lst ((Rk (Qh rs) (tF rs) r.1).map V.str))->Q (.ref l) H')->yw CG vs H Q
def uU(a:Addr):Sp:=λb H Q _=>yw a b H Q
def dE:En->PyData
 | none=>.tuple [.str "drawn",.none]
 | some e=>.tuple [.str (j6 e.1),.int e.2]
def ER(h:Qy K H v e):DV K H v (dE e):=by
 obtain⟨_,rfl,a⟩:=h;cases e with
 | none=>exact .tup a (.cons (.str _) (.cons .non .nil))
 | some e=>exact .tup a (.cons (.str _) (.cons (.int _) .nil))
def F4(b:Bool):PyData.strOk (j6 b)=true:=by cases b<;>decide+kernel
def okD:PyData.strOk (zdV "drawn")=true:=by decide+kernel
def shE(e:En):PySem.SeqAt.shaped (dE e)=true:=by
 unfold PySem.SeqAt.shaped;cases e with
 | none=>
  show ((PyData.strOk (zdV "drawn")&&(true&&true))&&_)=true;rw[okD];exact decide_eq_true (by show 1<=64;decide)
 | some e=>
  show ((PyData.strOk (j6 e.1)&&(true&&true))&&_)=true;rw[F4];exact decide_eq_true (by show 1<=64;decide)
def MP(b:Bool):(j6 b==zdV "drawn")=false:=by cases b<;>decide+kernel
def Ev(b:Bool):(zdV "drawn"==j6 b)=false:=by cases b<;>decide+kernel
def CZ(a b:Bool):(j6 a==j6 b)=decide (a=b):=by cases a<;>cases b<;>decide+kernel
def Eu(a b:En):PyData.eqv (dE a) (dE b)=decide (a=b):=by
 cases a with
 | none=>
  cases b with
  | none=>show ((zdV "drawn"==zdV "drawn")&&(true&&true))=_;simp
  | some e=>
   show ((zdV "drawn"==j6 e.1)&&_)=_;rw[Ev];simp
 | some e=>
  cases b with
  | none=>
   show ((j6 e.1==zdV "drawn")&&_)=_;rw[MP];simp
  | some u=>
   obtain⟨a,n⟩:=e;obtain⟨b,m⟩:=u;show ((j6 a==j6 b)&&((n==m)&&true))=_;rw[CZ,zdC];rw[zaE];simp
abbrev nSP:List Str:=["ground","table","number","settled"]
def Dz:qh nSP ["ground"] (qc Yb):=jY
def KF(F:jE K "settled_places" "settled_places" Yb f fd)(B:Qo mg)(G:j3 mg)(T:Qb K mg)(M:GM K mg CG)(J:qH K mg "settled_in" Z3 CO fI ah):qp P w K mg base qN 4 f fd ["ground"] (RP K CG):=by
 have U:=pin P w mg base (KG J.fn B G T M);refine F.okK Dz λH Q E hr h=>?_;obtain⟨L,d,rfl,Y,good,aa,q⟩:=h;refine⟨_,qb (qx 1 Qd)
  (qb (qx 2 qe)
  (qb (qx 3 (qv J U (Ys (jv 0) (jv 1) (jv 2))))
  (qb (Zm PassesOwn.never (qo ZW (qu wR (by rfl) B.len boot_len (qU (jv 3))) qe)
   (qb (ji (Mn (jv 1) (jv 3) ⟨rfl,rfl,rfl,rfl⟩))
   (qb (kq (i:=2) Dz.nd rfl (Or.inl rfl) qe kt)
   (qd (qx 3 (qv J U (Ys (jv 0) (jv 1) (jv 2))))))))
  (qd (qm (jv 1)))))),?_⟩
 intro j p;refine⟨_,rfl,_,rfl,_,rfl,L,j,d,0,[],rfl,Y.mono (qf p),good,aa,qa,.nil,λ_ u C o ab J O=>?_⟩;have nT:∀{c:Addr} {ae:HO},H c=some ae->c≠j:=λh e=>by rw[e,p]at h;cases h
 refine zi (λr l=>∃(k:Nat) (D:Addr) (g more:List (qT×V)),r=[some (.ref L),some (.ref j),some (.int k),some (.ref D)]/\qi H l/\l j=some (.dK g)/\jP K l g (tb d k)/\l D=some (.dK more)/\jP K l more (We d k d)/\k<=(tb d k).length/\j≠D)
  (λr _=>match r with | [_,_,some (.int k),_]=>15 - k.toNat | _=>0)
  ⟨0,u,[],C,rfl,(qf p).trans o,o _ _ qa,.nil,J,O,zac _,λe=>by rw[<-e,qa]at ab;cases ab⟩ ?_ ?_
 ·rintro r l ⟨k,D,g,more,rfl,sH,u,C,hD,o,_,ne⟩;have J:=uc good.nd k;have J:=uc good.nd (k+1);refine⟨_,rfl,D,more,rfl,hD,_,_,rfl,rfl,_,rfl,?_⟩;refine VS (λc=>?_) (λc=>?_)
  ·have c':(0:Int) < ((more.length:Nat):Int):=of_decide_eq_true c;have eM:QB g more=g++more:=by
    refine W1 ?_ λz hz m=>?_
    ·rw[o.keys];exact ZD (good.nd.sublist (ZC d k d)) λa _ b _ e=>Sum.inr.inj e
    ·rw[o.keys]at hz;rw[C.keys]at m;obtain⟨x,hx,rfl⟩:=tl.mp hz;obtain⟨y,hy,e⟩:=tl.mp m;obtain rfl:=Sum.inr.inj e;exact ub good.nd hx hy
   have lk:g.length+more.length<=zdZ:=by
    have O:(tb d (k+1)).length=(tb d k).length+(We d k d).length:=by rw[tb,tm]
    rw[C.len,o.len];exact t6 (ql (by omega))
   refine⟨_,rfl,j,rfl,.inl ⟨_,.inl u⟩,_,rfl,D,g,more,rfl,u,hD,ne,lk,?_⟩;rw[eM];refine⟨_,rfl,_,_,rfl,rfl,?_⟩;have U:jP K (upd l j (.dK (g++more))) (g++more) (tb d (k+1)):=(C.append o).imp λv e h=>h.put u;have sT:qi H (upd l j (.dK (g++more))):=qi.upd sH p;refine⟨_,rfl,_,rfl,_,rfl,L,j,d,k+1,_,rfl,Y.mono sT,good,aa,qa,U,λ_ L Y J ac af ag=>?_⟩;refine⟨⟨k+1,L,_,Y,rfl,sT.trans J,J _ _ qa,U.imp λv e h=>h.mono J,af,ag,?_,λe=>by rw[<-e,qa]at ac;cases ac⟩,?_⟩
   ·have O:(tb d (k+1)).length=(tb d k).length+(We d k d).length:=by rw[tb,tm]
    have:=o.len;omega
   ·show 15 - ((k:Int)+1).toNat < 15 - (k:Int).toNat;omega
  ·have c':¬(0:Int) < ((more.length:Nat):Int):=λz=>c (decide_eq_true z);have J:We d k d=[]:=zao (by rw[<-o.len];omega);obtain⟨o,L⟩:=C8 good.nd (k:=k) (by omega) J;refine⟨_,rfl,q l j g _ sH p u C (λd hr=>?_) o⟩;rw[L d hr];exact YR good.nd k d hr
 ·rintro r l Q _ f ⟨v,e,a,g,d,O,i,j,o,p,b,u,C⟩;exact⟨v,e,a,g,d,O,i,j,o,p,b,u,f _ _ C⟩
abbrev nTO:List Str:=["ground","settled","table","name"]
def Fw:qh nTO ["ground"] (qc Ya):=jY
def U3(F:jE K "table_of" "table_of" Ya f c)(B:Qo mg)(G:j3 mg)(T:Qb K mg)(M:GM K mg d)(m:∃a,mg "DRAWN"=some (.ref a)/\∃(o:Obj) (b:Array Value) (n:Nat),K.lookup a=some o/\o.cls=.type "tuple"/\o.data=.seq b n/\b.size<=zdZ/\qI (zO none) b.toList)(j:qH K mg "settled_in" Z3 CO l p)(g:qH K mg "settled_places" Yb ["ground"] r x):qp P w K mg base qN 5 f c ["ground"] (k5 K d):=by
 have p:=pin P w mg base (KF g.fn B G T M j);obtain⟨_,_,j⟩:=M.cls;obtain⟨_,_,l⟩:=M.nm;obtain⟨J,r,oD⟩:=m;have GM:=pin P w mg base (Q6 l.fn j G);refine F.okK Fw λH Q E hr h=>?_;obtain⟨b,c,rfl,d,good,m,q⟩:=h;have hu:=hu_of hr;refine⟨_,qb (qx 1 (qv g p (qU (jv 0))))
  (qb (qx 2 Qd)
  (qb (jc (qC (W6 l j.cl GM (hr.mono (by decide)) (jv 0))) (qG 3)
   (qd (jF (jv 2) (jv 3) (Gq hu (jv 1) (jv 3) (Ju (v:=.ref J) (by rfl) r rfl) ⟨rfl,rfl,rfl,rfl⟩))))
  (qd (qm (jv 2))))),?_⟩
 refine⟨_,rfl,b,c,rfl,d,good,m,λm S ac t r _ ae fE lk tt=>?_⟩;intro D j;obtain⟨g,fs,l,p,_⟩:=d.ins;refine⟨_,rfl,b,g,fs,rfl,qk (r _ _ l) j,p,b,c,rfl,(d.mono r).mono (qf j),λln l=>⟨ln,rfl,⟨_,.of qa⟩,?_⟩⟩;have U:ln≠D:=λe=>by rw[e,qa]at l;cases l
 have af:H D=none:=by
  cases z:H D with
  | none=>rfl
  | some u=>rw[r _ _ z]at j;cases j
 refine jm (K:=K) (a:=ln) (xs:=(c.map (·.1)).map V.str) (λi x d=>∃L g,x=[some (.ref b),some (.ref S),some (.ref D),L]/\qi m d/\d ln=some (.lst ((c.map (·.1)).map V.str))/\d D=some (.dK g)/\
  g.map (·.1)=((c.map (·.1)).take i).map Sum.inr/\∀b∈c.take i,∃v,jh g (Sum.inr b.1:qT)=some v/\Qy K d v (tF c b.1))
  ⟨none,[],rfl,(qf j).trans (qf l),qa,?_,rfl,λb h=>(nomatch h)⟩ (λi x d _ ⟨_,_,_,_,h,_⟩=>.of h) ?_ ?_
 ·rw[qg (Ne.symm U)];exact qa
 ·rintro i y x d hy ⟨L,g,rfl,m,Y,p,l,C⟩;obtain⟨b,O,aa,rfl⟩:=XJ hy;have hi:=(td.mp O).1;have ab:=m _ _ ae;have ag:=fE.imp λv e h=>h.mono m;have gz:=j0.k (k:=(Sum.inr b.1:qT)) ab;have en:(c.map (·.1))[i]?=some b.1:=by rw[tp,O];rfl
  have ez:jh g (Sum.inr b.1:qT)=none:=Ja (by rw[l];exact Q7 good.nd en);have ah:g.length < zdZ:=by
   have:=congrArg zad l;rw[ta,ta,tJ,ta]at this;exact ql (by omega)
  have hE:Qy K d ((jh ac (Sum.inr b.1:qT)).getD (.ref J)) (tF c b.1):=by
   rcases ag.look b.1 with ⟨f1,f2⟩ | ⟨e,v,f1,f2,c⟩
   ·rw[lk b aa]at f1;rw[f2,f1];exact⟨J,rfl,.inr oD⟩
   ·rw[lk b aa]at f1;rw[f2,f1];exact c
  refine⟨_,rfl,S,rfl,.inl ⟨_,.inl ab⟩,_,rfl,_,gz,_,rfl,_,rfl,D,_,rfl,Jq.k (k:=(Sum.inr b.1:qT)) p ah,?_⟩;refine⟨_,_,rfl,qi.upd m j,?_,qa,?_,λj c=>?_⟩
  ·rw[qg U];exact Y
  ·rw[YX _ ez,l,tM,en,tw];rfl
  ·rw[tM,O]at c;rcases tT.mp c with h | h
   ·obtain⟨v1,c,J⟩:=C j h;refine⟨v1,?_,J.put p⟩;rw[QL,if_neg]
    ·exact c
    ·intro z;rw[z,ez]at c;cases c
   ·have c:j=b:=by simpa using h
    subst c;refine⟨_,?_,hE.put p⟩;rw[QL,if_pos rfl]
 ·rintro x d ⟨L,g,rfl,m,Y,p,l,C⟩;rw[ta,ta,tu (tc _)]at C;rw[ta,tu (tc _)]at l;exact⟨_,rfl,q d D g (r.trans m) af p l C tt⟩
def DM:qh ["entry"] ["entry"] (qc zu):=jY
def Ey:decide (V.str a=V.str b)=(a==b):=by
 rw[zaE];simp
def we(F:jE K "entry_behind_best" "entry_behind_best" zu f a):qp P w K mg base qN 1 f a ["entry"] (uV K):=by
 refine F.okK DM λH Q E hr h=>?_;obtain⟨v,e,rfl,⟨a,rfl,c⟩,q⟩:=h;refine⟨_,qb (qF (qo jl (qB qJ (jv 0) qe) qy) (qd (qm (jv 0))) qr)
  (qb (qF (qo jl (qB qJ (jv 0) qe) qy) (qd (qm (jW (jr qy (qL ka (qB qJ (jv 0) qe) qe))))) qr)
  (qd (qm (jW (jr qy (qL ka (qB qJ (jv 0) qe) qe)))))),?_⟩
 cases e with
 | none=>
  refine⟨_,rfl,a,_,0,.str (zdV "drawn"),rfl,rfl,c,rfl,rfl,_,rfl,qW (decide_eq_true rfl) ?_⟩;exact⟨_,rfl,q H _ (qi.refl H) ⟨a,rfl,c⟩⟩
 | some e=>
  obtain⟨b,n⟩:=e;refine⟨_,rfl,a,_,0,.str (j6 b),rfl,rfl,c,rfl,rfl,_,rfl,?_⟩;have d:decide (V.str (j6 b)=V.str (zdV "drawn"))=false:=by rw[Ey];exact MP b
  rw[d];refine jG ⟨_,rfl,a,_,0,.str (j6 b),rfl,rfl,c,rfl,rfl,_,rfl,?_⟩;cases b with
  | true=>
   refine qW (decide_eq_true rfl) ⟨_,rfl,a,_,1,.int n,rfl,rfl,c,rfl,_,_,rfl,rfl,Ze,λd g=>?_⟩;exact q _ _ (qf g) ⟨d,rfl,.of qa⟩
  | false=>
   have i:decide (V.str (j6 false)=V.str (zdV "won"))=false:=by rw[Ey];decide+kernel
   rw[i];refine jG ⟨_,rfl,a,_,1,.int n,rfl,rfl,c,rfl,_,_,rfl,rfl,Ze,λd g=>?_⟩;exact q _ _ (qf g) ⟨d,rfl,.of qa⟩
abbrev nBM:List Str:=["ground","name","ends","table","sought"]
def FR:qh nBM ["ground","name"] (qc UW):=jY
def N3(F:jE K "best_moves" "best_moves" UW f fd)(B:Qo mg)(G:j3 mg)(T:Qb K mg)(M:GM K mg CG)(Dr:∃a,mg "DRAWN"=some (.ref a)/\∃(o:Obj) (J:Array Value) (n:Nat),K.lookup a=some o/\o.cls=.type "tuple"/\o.data=.seq J n/\J.size<=zdZ/\qI (zO none) J.toList)(hI:qH K mg "settled_in" Z3 CO fI ai)(hP:qH K mg "settled_places" Yb ["ground"] fP aj)(Y:qH K mg "table_of" Ya ["ground"] fT ak)(hB:qH K mg "entry_behind_best" zu ["entry"] fB al):qp P w K mg base qN 6 f fd ["ground","name"] (uU CG):=by
 have GT:=pin P w mg base (U3 Y.fn B G T M Dr hI hP);have GB:=pin P w mg base (we hB.fn);obtain⟨_,_,L⟩:=M.cls;obtain⟨_,_,hR⟩:=M.fr;obtain⟨_,_,J⟩:=M.isn;have GR:=pin P w mg base (Je hR.fn L B G T J);refine F.okK FR λH Q E hr h=>?_;obtain⟨O,b,d,rfl,U,good,aa,m,q⟩:=h;refine⟨_,qb (qx 2 (YE hR L.cl GR (hr.mono (by decide)) (jv 0) (qU (jv 1))))
  (qb (ZY 3 (qv Y GT (qU (jv 0))))
  (qb (ZY 4 (qv hB GB (qU (q5 (jv 3) (jv 1)))))
  (qd (qm (j8 (N':=["end","table","sought"]) (ix:=[none,some 3,some 4]) (tt:=Wy (z5 (DW K) (zm (qY 1) (qY 0)) (qY 2))) (te:=qY 0) (qC (jv 2)) (λL p Y fp _=>
   ⟨qG 0,j7 (qo (BF hr.units) (q5 (jv 1) (jv 0)) (jv 2)),jv 0⟩)))))),?_⟩
 obtain⟨J,fs,L,_,l2⟩:=U.ins;refine⟨_,rfl,O,J,fs,rfl,L,l2,_,rfl,O,b,d,rfl,U,m,good.nm d m,λJ le L ab=>?_⟩;have p:qi H (upd J le (.lst ((qP b d).map V.str))):=L.trans (qf ab);have L:upd J le (.lst ((qP b d).map V.str)) le=some (.lst ((qP b d).map V.str)):=qa;generalize upd J le (.lst ((qP b d).map V.str))=Y at p L;refine⟨_,rfl,O,b,rfl,U.mono p,good,aa,λ_ D _ s3 _ J _ fK _=>?_⟩;obtain⟨v,O,U⟩:=fK d m;have l:=j0.k (k:=(Sum.inr d.1:qT)) J;rw[O]at l;refine⟨_,rfl,_,rfl,D,_,rfl,l,v,_,rfl,U,λH4 u r U=>?_⟩;have O:=r _ _ (s3 _ _ L);have ac:=r _ _ J;have ae:=fK.mono r;refine⟨_,rfl,le,rfl,⟨_,.of O⟩,λW j=>?_⟩;have J:=Zi (rs:=b) d;refine jC (K:=K) (a:=le) (xs:=(qP b d).map V.str) (λg x C=>∃v0,x=[v0,some (.ref D),some u]/\C=upd H4 W (.lst ((((qP b d).take g).filter λy=>decide (tF b y=Ql (tF b d.1))).map V.str))) ⟨none,rfl,rfl⟩ (λg x C _ ⟨_,_,e⟩=>e▸.of (qk O j)) ?_ ?_
 ·rintro g y x C hy ⟨v0,rfl,rfl⟩;obtain⟨z,ez,hz,rfl⟩:=Qf hy;obtain⟨i,af,rfl⟩:=zx hz;obtain⟨_,J,ag⟩:=ae i af;have l:=j0.k (k:=(Sum.inr i.1:qT)) (qk (o':=HO.lst ((((qP b d).take g).filter λy=>decide (tF b y=Ql (tF b d.1))).map V.str)) ac j);rw[J]at l;have sW:=qf (o:=HO.lst ((((qP b d).take g).filter λy=>decide (tF b y=Ql (tF b d.1))).map V.str)) j;have et:((qP b d).take (g+1)).filter (λy=>decide (tF b y=Ql (tF b d.1)))=((qP b d).take g).filter (λy=>decide (tF b y=Ql (tF b d.1)))++if decide (tF b i.1=Ql (tF b d.1))=true then [i.1] else []:=by
   rw[tM,ez,zay];congr 1;cases c:decide (tF b i.1=Ql (tF b d.1))
   ·simp [c]
   ·simp [c]
  refine⟨_,rfl,_,rfl,D,_,rfl,l,_,rfl,dE (tF b i.1),dE (Ql (tF b d.1)),ER (ag.mono sW),ER (U.mono sW),shE _,shE _,_,rfl,?_⟩;rw[Eu,et];cases c:decide (tF b i.1=Ql (tF b d.1)) with
  | true=>
   refine Q4 ⟨_,rfl,_,qa,?_,_,rfl,?_⟩
   ·rw[ta];refine ql (tS (zak _ _) ?_);rw[tJ];omega
   ·rw[jx,if_pos rfl,tw];rfl
  | false=>
   refine jG ⟨_,rfl,?_⟩;rw[if_neg tH,zam]
 ·rintro x C ⟨v0,rfl,rfl⟩;have g:((qP b d).take ((qP b d).map V.str).length).filter (λy=>decide (tF b y=Ql (tF b d.1)))=Rk (Qh b) (tF b) d.1:=by
   rw[ta,tu (tc _)];unfold Rk;rw[Qu good.nd m]
  rw[g];have s5:qi H H4:=(p.trans s3).trans r;have ah:H W=none:=by
   cases z:H W with
   | none=>rfl
   | some o=>rw[s5 _ _ z]at j;cases j
  exact q _ W (s5.trans (qf j)) ah qa
open PySem L2 MLab Rb MPlay
open PyProof.Rows hiding K lo
abbrev EY:Stmt:=top 107
def MQ:En->Str
 | none=>zdV "drawn"
 | some e=>j6 e.1
def Cq(e:En):∃v,zO e=[.str (MQ e),v]:=by
 cases e with
 | none=>exact⟨_,rfl⟩
 | some e=>exact⟨_,rfl⟩
def VJ(good:qj rs)(hz:z∈rs.map (·.1)):b∈mv (Q3 rs) [z]↔∃y∈Qh rs z,b=[y]:=by
 rw[jH];constructor
 ·rintro⟨d,x,y,q,e,c,rfl⟩;cases d with
  | nil=>
   obtain⟨rfl,rfl⟩:z=x/\q=[]:=by simpa [eq_comm] using e
   exact⟨y,(q4 good hz).mp c,rfl⟩
  | cons a d=>simp at e
 ·rintro⟨y,c,rfl⟩;exact⟨[],z,y,[],rfl,(q4 good hz).mpr c,rfl⟩
mutual
def Uf{rs:jf}{f:Str->En}(good:qj rs)(T:Tab (Qh rs) (rs.map (·.1)) f){h:List Str}:YQ (mv (Q3 rs)) h->∀z,h=[z]->z∈rs.map (·.1)->∃n,f z=some (false,n)
 | .mk w=>have d:∀b,b∈mv (Q3 rs) h->∀z,b=[z]->z∈rs.map (·.1)->∃n,f z=some (true,n):=λb a=>tab_won good T (w b a)
   λz e c=>by
   subst e;have all:∀y∈Qh rs z,∃n,f y=some (true,n):=λy a=>d [y] ((VJ good c).mpr ⟨y,a,rfl⟩) y rfl (T.cl z c y a);cases e:f z with
   | none=>
     obtain⟨_,y,a,q⟩:=T.drawn c e;obtain⟨n,k⟩:=all y a;rw[q]at k;cases k
   | some c=>
     obtain⟨b,n⟩:=c;cases b
     . exact⟨n,rfl⟩
     . obtain⟨y,a,q⟩:=T.won e;obtain⟨m,k⟩:=all y a;rw[q]at k;cases k
def tab_won{rs:jf}{f:Str->En}(good:qj rs)(T:Tab (Qh rs) (rs.map (·.1)) f){h:List Str}:Won (mv (Q3 rs)) h->∀z,h=[z]->z∈rs.map (·.1)->∃n,f z=some (true,n)
 | .mk m a=>have d:=Uf good T a
   λz e c=>by
   subst e;have g:=(VJ good c).mp m;have k:∃y∈Qh rs z,∃n,f y=some (false,n):=by
     obtain⟨y,a,i⟩:=g;exact⟨y,a,d y i (T.cl z c y a)⟩
   obtain⟨y,a,n,k⟩:=k;cases e:f z with
   | none=>exact absurd k ((T.drawn c e).1 y a n)
   | some c=>
     obtain⟨b,d⟩:=c;cases b
     . obtain⟨_,q,_⟩:=T.lost e y a;rw[q]at k;cases k
     . exact⟨d,rfl⟩
end
def ue(good:qj rs)(T:Tab (Qh rs) (rs.map (·.1)) f):∀(k:Nat) (n:Int),n.toNat < k->∀z∈rs.map (·.1),(f z=some (false,n)->YQ (mv (Q3 rs)) [z])/\(f z=some (true,n)->Won (mv (Q3 rs)) [z]):=by
 intro k;induction k with
 | zero=>intro n h;omega
 | succ k d=>
  intro n _ z c;refine⟨λe=>.mk λb g=>?_,λe=>?_⟩
  ·obtain⟨y,a,rfl⟩:=(VJ good c).mp g;obtain⟨m,em,_⟩:=T.lost e y a;have:=T.num em;exact(d m (by omega) y (T.cl z c y a)).2 em
  ·obtain⟨y,a,em⟩:=T.won e;have:=T.num em;exact .mk ((VJ good c).mpr ⟨y,a,rfl⟩) ((d (n - 1) (by omega) y (T.cl z c y a)).1 em)
def kT(good:qj rs)(T:Tab (Qh rs) (rs.map (·.1)) f)(all:Qp rs R)(hz:z∈rs.map (·.1)):oW rs R [z]=MQ (f z):=by
 rcases Yh good (Ym (jX good.nd) all) (hs:=[z]) (λy a=>by rw[tQ.mp a];exact hz) with ⟨c,e⟩ | ⟨w,e⟩ | ⟨n,v,e⟩
 ·obtain⟨m,k⟩:=Uf good T c z rfl hz;rw[k];exact e
 ·obtain⟨m,k⟩:=tab_won good T w z rfl hz;rw[k];exact e
 ·cases k:f z with
  | none=>exact e
  | some a=>
   obtain⟨b,m⟩:=a;have h:=ue good T (m.toNat+1) m (by omega) z hz;cases b
   ·exact absurd (h.1 k) n
   ·exact absurd (h.2 k) v
def Wp:List (qT×V):=[(Sum.inr (zdV "won"),.str (zdV "lost")),(Sum.inr (zdV "lost"),.str (zdV "won")),(Sum.inr (zdV "drawn"),.str (zdV "drawn"))]
def wn:QB [] Wp=Wp:=by decide+kernel
def Cy(e:En):jh Wp (Sum.inr (MQ e):qT)=some (.str (MQ (Ql e))):=by
 cases e with
 | none=>decide+kernel
 | some a=>
  obtain⟨b,n⟩:=a;cases b
  ·show jh Wp (Sum.inr (j6 false):qT)=some (.str (j6 true));decide+kernel
  ·show jh Wp (Sum.inr (j6 true):qT)=some (.str (j6 false));decide+kernel
inductive Af(CG:Addr)(vs:List V)(H:Hp)(Q:VK):Prop
 | mk (g:Addr) (rs:jf):vs=[.ref g]->jZ CG H g rs->qj rs->(rs.length<=14)->(∀H',qi H H'->Q (.bl true) H')->Af CG vs H Q
def Fq(a:Addr):Sp:=λb H Q _=>Af a b H Q
abbrev nLS:List Str:=["_law_ground","_law_table","_law_about","_law_name","_law_place"]
def FJ:qh nLS ["_law_ground"] (qc EY):=jY
def D4(F:jE K "_law_single_right" "_law_single_right" EY f d)(j:qH K mg "table_of" Ya ["ground"] l m)(GT:qp P w K mg base qN 5 l m ["ground"] (k5 K g))(c:qH K mg "outcome" WR p2 o p)(e:qp P w K mg base qN 10 o p p2 (vN g))(r:qH K mg "best_moves" UW ["ground","name"] u x)(B:qp P w K mg base qN 6 u x ["ground","name"] (uU g)):qp P w K mg base qN 11 f d ["_law_ground"] (Fq g):=by
 refine F.okK FJ λH Q E hr z=>?_;obtain⟨l,d,rfl,J,good,le,q⟩:=z;refine⟨_,qb (qx 1 (Cj (qv j GT (qU (jv 0)))))
  (qb (qx 2 (yX (JM qy qy (JM qy qy (JM qy qy yV))) rfl rfl (by simp) (by decide)))
  (qb (jc (Cg (jv 1)) (qG 3)
   (qb (qF (qo ZV (qB qJ (q5 (jv 1) (jv 3)) (qe)) (qv c e (jr (jv 0) (j5 (qU (jv 3)))))) (qD) (qr))
  (qd (jc (qC (qv r B (jr (jv 0) (jv 3)))) (qG 4)
   (qd (qF (qo ZV (qv c e (jr (jv 0) (j5 (qU (jv 4))))) (q5 (jv 2) (qB qJ (q5 (jv 1) (jv 3)) (qe)))) (qD) (qr)))))))
  (qd (qm Qx)))),?_⟩
 refine⟨_,rfl,l,d,rfl,J,good,le,λj D e c p o C fK fE=>⟨D,e,rfl,o,λm=>?_⟩⟩;have r:qi H (upd j D (.frz m (.dK e))):=qi.upd c p;have u:upd j D (.frz m (.dK e)) D=some (.frz m (.dK e)):=qa;have U:Wc K (upd j D (.frz m (.dK e))) e d:=λc x=>let ⟨v,a,b⟩:=fK c x;⟨v,a,b.put o⟩;generalize upd j D (.frz m (.dK e))=j at r u U;intro o B;refine⟨qa,Wp,rfl,(by show 3<=15;decide),?_⟩;rw[wn,jx];have p:=qf (o:=HO.dK Wp) B;have y3:upd j o (.dK Wp) o=some (.dK Wp):=qa;generalize upd j o (.dK Wp)=B at p y3;have L:=r.trans p;refine⟨_,rfl,D,m,e,d.map (·.1),rfl,p _ _ u,C,?_⟩;have one:∀{X:Hp} {C:Addr} {z:Str},qi B X->z∈d.map (·.1)->X C=some (.lst [.str z])->GH g X l C d [z]:=λ{X C z} j r T=>⟨J.mono (L.trans j),good,le,⟨T,by show 1<=8;decide,λy O=>by
  rw[tQ.mp O];obtain⟨c,g,C⟩:=tl.mp r;exact⟨c,g,C⟩⟩⟩
 refine Mv (zs:=d.map (·.1)) (λ_ g X=>∃T v4,g=[some (.ref l),some (.ref D),some (.ref o),T,v4]/\qi B X) ⟨_,_,rfl,qi.refl _⟩ (λi g X _ ⟨_,_,_,s⟩=>s _ _ (p _ _ u)) ?_ ?_
 ·rintro i z g X C ⟨T,v4,rfl,j⟩;have r:=tL C;obtain⟨c,x,rfl⟩:=tl.mp r;obtain⟨v,ev,C,rfl,hE⟩:=U c x;have U:∀{Y:Hp},qi B Y->SqT K Y C (zO (tF d c.1)):=λs=>(hE.mono p).mono s;have gD:∀{Y:Hp},qi B Y->j0 Y D (.str c.1) (some (.ref C)):=λs=>by
   rw[<-ev];exact .inl ⟨e,Sum.inr c.1,.inr ⟨m,s _ _ (p _ _ u)⟩,rfl,rfl⟩
  obtain⟨v1,e⟩:=Cq (tF d c.1);have at0:Wo (zO (tF d c.1)) 0=some (.str (MQ (tF d c.1))):=by rw[e];rfl
  refine⟨_,rfl,_,rfl,D,_,rfl,gD j,C,_,0,_,rfl,rfl,U j,at0,_,rfl,_,rfl,Ze,λm f1=>?_⟩;have e:=qf (o:=HO.lst [V.str c.1]) f1;refine⟨l,m,d,[c.1],rfl,one (j.trans e) r qa,λ_ R all p=>?_⟩;rw[kT good fE all r];refine⟨rfl,_,rfl,qO (by rw[decide_eq_true rfl];rfl) ?_⟩;have m:=(j.trans e).trans p;refine⟨_,rfl,_,rfl,l,d,c,rfl,J.mono (L.trans m),good,le,x,λx e B _ p=>⟨e,rfl,⟨_,.of p⟩,?_⟩⟩;have u:=m.trans B;refine jm (K:=K) (a:=e) (xs:=(Rk (Qh d) (tF d) c.1).map V.str) (λ_ g Y=>∃v4,g=[some (.ref l),some (.ref D),some (.ref o),some (.str c.1),v4]/\qi x Y) ⟨_,rfl,qi.refl _⟩ (λi g Y _ ⟨_,_,s⟩=>.of (s _ _ p)) ?_ ?_
  ·rintro _ y g Y O ⟨v4,rfl,e⟩;obtain⟨m,_,p,rfl⟩:=Qf O;obtain⟨B,J⟩:=MI p;have x:=fE.cl c.1 r m B;have r:=u.trans e;refine⟨_,rfl,_,rfl,Ze,λB O=>?_⟩;have p:=qf (o:=HO.lst [V.str m]) O;refine⟨l,B,d,[m],rfl,one (r.trans p) x qa,λB R O m=>?_⟩;have l:=(r.trans p).trans m;rw[kT good fE O x,J];have r:j0 B o (.str (MQ (tF d c.1))) (some (.str (MQ (Ql (tF d c.1))))):=by
    rw[<-Cy];exact j0.k (k:=(Sum.inr (MQ (tF d c.1)):qT)) (l _ _ y3)
   refine⟨_,rfl,_,rfl,_,rfl,D,_,rfl,gD l,C,_,0,_,rfl,rfl,U l,at0,o,_,rfl,r,rfl,_,rfl,qO (by rw[decide_eq_true rfl];rfl) ?_⟩;exact⟨_,rfl,(e.trans p).trans m⟩
  ·rintro g Y ⟨v4,rfl,e⟩;exact⟨_,_,rfl,u.trans e⟩
 ·rintro g X ⟨T,v4,rfl,j⟩;exact q X (L.trans j)
open PyProof.Rows hiding K lo
abbrev zt:Stmt:=top 81
abbrev Xr:Stmt:=top 82
abbrev yA:Stmt:=top 83
abbrev YO:Str:=⟨#[32]⟩
abbrev wS:Str:=⟨#[58]⟩
def CB(z:Str)(r:Str×List Str):Prop:=ja r.1=true/\(∀x∈r.2,ja x=true)/\z=Str.join YO ((r.1++wS)::r.2)
def K3(h:ja z=true):∀c∈z.cps.toList,97<=c:=by
 unfold ja at h;simp only[zae,decide_eq_true_eq]at h;intro c a;have:=zag.mp h.2 c a;unfold j2 at this;simp only[zae,decide_eq_true_eq]at this;exact this.1
def zD(h:ja z=true)(a:c < 97):c∉z.cps.toList:=λm=>by
 have:=K3 h c m;omega
def JN(c:Nat)(x y:Str)(l:List Str):(Str.join ⟨#[c]⟩ (x::y::l)).cps.toList=x.cps.toList++c::(Str.join ⟨#[c]⟩ (y::l)).cps.toList:=by
 show ((x++⟨#[c]⟩)++Str.join ⟨#[c]⟩ (y::l)).cps.toList=_;show ((x.cps++#[c])++(Str.join ⟨#[c]⟩ (y::l)).cps).toList=_;simp
def Xh(a b:Str):(a++b).cps.toList=a.cps.toList++b.cps.toList:=by
 show (a.cps++b.cps).toList=_;simp
def XT(a b:Str)(l:List Str):(Str.join YO ((a++b)::l)).cps.toList=a.cps.toList++(Str.join YO (b::l)).cps.toList:=by
 cases l with
 | nil=>exact Xh a b
 | cons y l=>
  rw[JN,JN,Xh];simp
def Yq(a:c≠32):∀{l:List Str},(∀x∈l,c∉x.cps.toList)->c∉(Str.join YO l).cps.toList
 | [],_=>by show c∉([]:List Nat);simp
 | [x],h=>h x tE
 | x::y::l,h=>by
  rw[JN];intro m;rcases tT.mp m with m | m
  ·exact h x tE m
  ·rcases tI.mp m with m | m
   ·exact a m
   ·exact Yq a (λz a=>h z (tA _ a)) m
def wN(a:Str):a++(⟨#[]⟩:Str)=a:=YT (by rw[Xh];simp)
def Ke(a:Str)(ns:List Str):Str.join YO ((a++wS)::ns)=Str.join wS [a,Str.join YO (⟨#[]⟩::ns)]:=by
 refine YT ?_;rw[XT,JN];congr 1;show (Str.join YO (wS::ns)).cps.toList=58::(Str.join YO (⟨#[]⟩::ns)).cps.toList;have:=XT wS ⟨#[]⟩ ns;rw[wN]at this;exact this
def ZA(h:CB z r):Txt.split z wS=[r.1,Str.join YO (⟨#[]⟩::r.2)]:=by
 obtain⟨b,c,e⟩:=h;rw[e,Ke];refine Z2 (by simp) λx a=>?_;rcases tI.mp a with rfl | a
 ·exact zD b (by decide)
 ·rw[tQ.mp a];refine Yq (by decide) λy a=>?_;rcases tI.mp a with rfl | a
  ·simp
  ·exact zD (c y a) (by decide)
def WS(h:CB z r):Txt.split (Str.join YO (⟨#[]⟩::r.2)) YO=⟨#[]⟩::r.2:=by
 refine Z2 (by simp) λy a=>?_;rcases tI.mp a with rfl | a
 ·simp
 ·exact zD (h.2.1 y a) (by decide)
def VN(x:Str):x.length=x.cps.toList.length:=by
 show x.cps.size=_;simp
def XS:∀{l:List Str} {x:Str},x∈l->x.length<=(Str.join ⟨#[c]⟩ l).length
 | [y],x,h=>by rw[tQ.mp h];exact tc _
 | y::a::l,x,h=>by
  have e:=congrArg zad (JN c y a l);rw[<-VN,tm,t0,<-VN,<-VN]at e;rcases tI.mp h with rfl | h
  ·omega
  ·have:=XS (c:=c) h;omega
def WA(h:x∈Txt.split z ⟨#[c]⟩):x.length<=z.length:=by
 have:=XS (c:=c) h;rwa [StrLaws.join_split]at this
def kb{X:Hp}{ps:List Addr}{R:Hp->Prop}(l:X i=some (.lst (ps.map V.ref)))(fk:jD X ps rs)(good:qj rs)(pos:0 < rs.length)(m:rs.length<=14)(j:X x=none)(o:X a=none)(g:a≠x)(k:∀d,qi X d->jZ e d x rs->R d):
  Vu e [.ref x,.ref i] (upd (upd X a (.own x)) x (.ins e a [])) (λv c=>v=.non/\R c) E:=by
 have g:qi X (upd (upd X a (.own x)) x (.ins e a [])):=λb u c=>by
  rw[qg (qt c j),qg (qt c o)];exact c
 refine⟨x,a,i,ps,rs,rfl,⟨g _ _ l,fk.mono g,good,pos,m⟩,qa,λd a e=>⟨rfl,k d (λb u c=>e b u (g _ _ c) (qt c j)) a⟩⟩
def yI(g:qj rs)(h:r∈rs):r.2.length<=40:=by
 have:∀a:List Nat,∀x∈a,x<=a.sum:=λa=>by
  induction a with
  | nil=>intro x b;cases b
  | cons y a c=>
   intro x b;rw[zaq];rcases tI.mp b with rfl | b
   ·omega
   ·have:=c x b;omega
 exact tS (this _ _ (tl.mpr ⟨r,h,rfl⟩)) g.few
abbrev Hq:Str:=⟨#[10]⟩
def Gf(sep:Str)(l:List Str):Txt.join sep l=Str.join sep l:=StrLaws.glued_eq_join sep l
def Cd:zdV "\n"=Hq:=by decide+kernel
def Mh:zdV ":"=wS:=by decide+kernel
def Mg:zdV " "=YO:=by decide+kernel
def Hj:zdV ""=(⟨#[]⟩:Str):=by decide+kernel
def jb(r:Str×List Str):Str:=Str.join YO ((r.1++wS)::r.2)
def CD(r:Str×List Str):Prop:=ja r.1=true/\∀x∈r.2,ja x=true
def yJ(h:CD r):CB (jb r) r:=⟨h.1,h.2,rfl⟩
def ve(c:Nat)(l:List Str):(Str.join ⟨#[c]⟩ l).length=(l.map (·.length)).sum+(l.length - 1):=by
 rw[<-Gf];have:=size_glued (⟨#[c]⟩:Str) l;show (Builtin.Str.glued ⟨#[c]⟩ l).length=_;rw[this];show _+(l.length - 1)*1=_;omega
def z6:∀{l:List Str},(∀x∈l,ja x=true)->(l.map (·.length)).sum<=8*l.length
 | [],_=>tc _
 | x::l,h=>by
  have a:=z6 (l:=l) λy c=>h y (tA _ c);have b:=(J0 (h x tE)).2.1;rw[tG,zaq,t0];omega
def K6(h:CD r):(jb r).length<=9+9*r.2.length:=by
 have a:=z6 h.2;have b:=(J0 h.1).2.1;have c:(r.1++wS).length=r.1.length+1:=Str.length_append _ _;unfold jb;rw[ve,tG,zaq,t0,c];omega
def Yk:∀{rs:jf},(∀r∈rs,CD r)->((rs.map jb).map (·.length)).sum<=9*rs.length+9*(rs.map λr=>r.2.length).sum
 | [],_=>tc _
 | r::rs,h=>by
  have a:=Yk (rs:=rs) λy c=>h y (tA _ c);have b:=K6 (h r tE);simp only[tG,zaq,t0]at a ⊢;omega
def zL(g:qj rs):∀r∈rs,CD r:=λr hr=>⟨g.nm r hr,g.names r hr⟩
def Xj(rs:jf):Str:=Str.join Hq (rs.map jb)
def Ma(h:CD r):(10:Nat)∉(jb r).cps.toList:=by
 refine Yq (by decide) λx a=>?_;rcases tI.mp a with rfl | a
 ·rw[Xh];intro m;rcases tT.mp m with m | m
  ·exact zD h.1 (by decide) m
  ·simp at m
 ·exact zD (h.2 x a) (by decide)
def xu(g:qj rs)(pos:0 < rs.length):Txt.split (Xj rs) Hq=rs.map jb:=by
 refine Z2 (λz=>?_) λx a=>?_
 ·rw[List.map_eq_nil_iff]at z;rw[z]at pos;exact absurd pos (by decide)
 ·obtain⟨b,hr,rfl⟩:=tl.mp a;exact Ma (zL g b hr)
def kO(g:qj rs)(le:rs.length<=14):(Xj rs).length<=1000/\∀r∈rs,(jb r).length<=1000:=by
 have a:=Yk (zL g);have b:=g.few;have c:(Xj rs).length<=1000:=by
  unfold Xj;rw[ve,ta];omega
 refine⟨c,λr hr=>?_⟩;have:=XS (c:=10) (l:=rs.map jb) (tl.mpr ⟨r,hr,rfl⟩);exact tS this c
def EE(b:Str)(a:List Str):vr ((b::a).map V.str) (some (1:Int)) none=a.map V.str:=by
 unfold vr;rw[HT.sIx_none,show (1:Int)=((1:Nat):Int) from rfl,HT.sIx_nat,ta,t0,zbz (by omega),tG,List.drop_succ_cons,zdw,tu (by rw[ta];omega)]
inductive WL(vs:List V)(H:Hp)(Q:VK):Prop
 | mk (r:Str×List Str):vs=[.str (jb r)]->((jb r).length<=1000)->CD r->(r.2.length<=100)->(∀H',qi H H'->Q (.bl true) H')->WL vs H Q
def UK:Sp:=λa H Q _=>WL a H Q
inductive Uw(vs:List V)(H:Hp)(Q:VK):Prop
 | mk (r:Str×List Str):vs=[.str (jb r)]->((jb r).length<=1000)->CD r->(∀H' p q,qi H H'->H' p=some (.tup [.str r.1,.ref q])->H' q=some (.tup (r.2.map V.str))->Q (.ref p) H')->Uw vs H Q
def Vr:Sp:=λa H Q _=>Uw a H Q
inductive k7(CG:Addr)(vs:List V)(H:Hp)(Q:VK):Prop
 | mk (rs:jf):vs=[.str (Xj rs)]->qj rs->(0 < rs.length)->(rs.length<=14)->(∀H' a,qi H H'->jZ CG H' a rs->Q (.ref a) H')->k7 CG vs H Q
def A4(a:Addr):Sp:=λb H Q _=>k7 a b H Q
def DI:qh ["line","halves","words"] ["line"] (qc zt):=jY
def wc(F:jE K "is_line" "is_line" zt f a)(B:Qo mg)(T:Qb K mg)(hN:qH K mg "is_name" ZT ["thing"] b c):qp P w K mg base qN 2 f a ["line"] UK:=by
 have b:=pin P w mg base (YY hN.fn B T);refine F.okK DI λH Q E hr h=>?_;obtain⟨a,rfl,j,d,_,q⟩:=h;have e:=yJ d;refine⟨_,qb (qx 1 (QP zaA zbe zbf Zk (jv 0) (qU qy)))
  (qb (qF (JW.pt (Ji (qo ZV (qu qA (by rfl) B.len boot_len (qU (jv 1))) (qe)) (QC (j4 (jn (qv hN b (qU (qB qR (jv 1) (qe))))))))) (qd (qm Qx)) qr)
  (qb (qx 2 (QP zaA zbe zbf Zk (qB qR (jv 1) (qe)) (qU qy)))
  (qd (qm (J5 (jK jl (qB qR (jv 2) (qe)) qy) (za (qu (ZH rfl) (by rfl) T.all boot_all (qU (j8 (N':=["word"]) (ix:=[none]) (te:=Zg Do [] E0 (qS (qY 0) Qw)) (qC (Zo Vx (jv 2) (zH qe) zI)) (λ_ g i fp _=>
   ⟨qG 0,jJ,qv hN b (qU (jv 0))⟩)))))))))),?_⟩
 refine⟨_,rfl,rfl,_,_,rfl,rfl,by decide+kernel,j,λb c=>?_⟩;rw[Mh,ZA e];have l:=qf (o:=HO.lst ([a.1,Str.join YO (⟨#[]⟩::a.2)].map V.str)) c;have c:upd H b (HO.lst ([a.1,Str.join YO (⟨#[]⟩::a.2)].map V.str)) b=some (.lst [V.str a.1,.str (Str.join YO (⟨#[]⟩::a.2))]):=qa;generalize upd H b (HO.lst ([a.1,Str.join YO (⟨#[]⟩::a.2)].map V.str))=m at l c;have m:(Str.join YO (⟨#[]⟩::a.2)).length<=1000:=tS (WA (c:=58) (by show _∈Txt.split (jb a) wS;rw[ZA e];simp)) j;refine⟨_,rfl,b,_,rfl,.inl (.of c),rfl,_,rfl,qO rfl ⟨_,rfl,b,_,0,.str a.1,rfl,rfl,.of c,rfl,_,rfl,d.1,λi g=>⟨_,rfl,jG ?_⟩⟩⟩;refine⟨_,rfl,b,_,1,.str (Str.join YO (⟨#[]⟩::a.2)),rfl,rfl,.of (g _ _ c),rfl,rfl,_,_,rfl,rfl,by decide+kernel,m,λb f2=>?_⟩;rw[Mg,WS e];have e:=qf (o:=HO.lst ((⟨#[]⟩::a.2).map V.str)) f2;have c:upd i b (HO.lst ((⟨#[]⟩::a.2).map V.str)) b=some (.lst ((⟨#[]⟩::a.2).map V.str)):=qa;generalize upd i b (HO.lst ((⟨#[]⟩::a.2).map V.str))=i at e c;refine⟨_,rfl,b,_,0,.str ⟨#[]⟩,rfl,rfl,.of c,zV,rfl,_,rfl,qW (decide_eq_true (by rw[Hj])) ⟨_,rfl,1,rfl,b,_,rfl,.of c,λb c=>?_⟩⟩;rw[EE];have j:=qf (o:=HO.lst (a.2.map V.str)) c;have c:upd i b (HO.lst (a.2.map V.str)) b=some (.lst (a.2.map V.str)):=qa;generalize upd i b (HO.lst (a.2.map V.str))=m at j c;refine⟨b,rfl,⟨_,.of c⟩,λW i=>?_⟩;refine Jn (K:=K) (a:=b) (xs:=a.2) (enc:=V.str) (out:=λx=>some (V.bl true)) (rest:=[]) i c (ql (by omega)) (λx c Y i m b=>b Y (qi.refl Y)) (λx c v o Y i m b=>?_) (λm p i=>?_)
 ·cases o;exact⟨_,rfl,x,rfl,d.2 x c,λc d=>b c d⟩
 ·have em:a.2.filterMap (λx=>some (V.bl true))=(a.2.map λ_=>true).map V.bl:=by rw[VW (λ_=>V.bl true),zav];rfl
  rw[em]at i;refine⟨W,_,rfl,.of i,?_⟩;have b:(a.2.all λ_=>true)=true:=by simp
  simp only[zci,Function.comp_def,id];rw[b];exact q m ((((l.trans g).trans e).trans j).trans p)
def DB:qh ["line","halves"] ["line"] (qc Xr):=jY
def KH(F:jE K "row_of" "row_of" Xr f a)(G:j3 mg):qp P w K mg base qN 1 f a ["line"] Vr:=by
 refine F.okK DB λH Q E hr h=>?_;obtain⟨a,rfl,e,b,q⟩:=h;have c:=yJ b;refine⟨_,qb (qx 1 (QP zaA zbe zbf Zk (jv 0) (qU qy)))
  (qd (qm (jW (jr (qB qR (jv 1) (qe)) (jo Z0 (by rfl) G.tup boot_tuple (qU (Zo Vx (QP zaA zbe zbf Zk (qB qR (jv 1) (qe)) (qU qy)) (zH qe) zI))))))),?_⟩
 refine⟨_,rfl,rfl,_,_,rfl,rfl,by decide+kernel,e,λb d=>?_⟩;rw[Mh,ZA c];have g:=qf (o:=HO.lst ([a.1,Str.join YO (⟨#[]⟩::a.2)].map V.str)) d;have d:upd H b (HO.lst ([a.1,Str.join YO (⟨#[]⟩::a.2)].map V.str)) b=some (.lst [V.str a.1,.str (Str.join YO (⟨#[]⟩::a.2))]):=qa;generalize upd H b (HO.lst ([a.1,Str.join YO (⟨#[]⟩::a.2)].map V.str))=i at g d;have j:(Str.join YO (⟨#[]⟩::a.2)).length<=1000:=tS (WA (c:=58) (by show _∈Txt.split (jb a) wS;rw[ZA c];simp)) e;refine⟨_,rfl,b,_,0,.str a.1,rfl,rfl,.of d,rfl,_,rfl,b,_,1,.str (Str.join YO (⟨#[]⟩::a.2)),rfl,rfl,.of d,rfl,rfl,_,_,rfl,rfl,by decide+kernel,j,λb f2=>?_⟩;rw[Mg,WS c];have c:=qf (o:=HO.lst ((⟨#[]⟩::a.2).map V.str)) f2;have d:upd i b (HO.lst ((⟨#[]⟩::a.2).map V.str)) b=some (.lst ((⟨#[]⟩::a.2).map V.str)):=qa;generalize upd i b (HO.lst ((⟨#[]⟩::a.2).map V.str))=e at c d;refine⟨1,rfl,b,_,rfl,.of d,λb i=>?_⟩;rw[EE];have d:=qf (o:=HO.lst (a.2.map V.str)) i;have i:upd e b (HO.lst (a.2.map V.str)) b=some (.lst (a.2.map V.str)):=qa;generalize upd e b (HO.lst (a.2.map V.str))=j at d i;refine⟨b,_,rfl,.inl ⟨.of i,λb e=>⟨Ze,λi fp=>?_⟩⟩⟩;have j:=qf (o:=HO.tup (a.2.map V.str)) e;have e:=qf (o:=HO.tup [V.str a.1,.ref b]) fp;exact q _ i b ((g.trans c).trans (d.trans (j.trans e))) qa (e _ _ qa)
abbrev nRd:List Str:=["text","lines","number","line"]
def Fx:qh nRd ["text"] (qc yA):=jY
def NQ(F:jE K "read_ground" "read_ground" yA f c)(T:Qb K mg)(C:CY K mg b d g)(j:qp P w K mg base qN 6 d g ["self","rows"] (Vu b))(l:qH K mg "is_line" zt ["line"] m o)(p:qp P w K mg base qN 2 m o ["line"] UK)(r:qH K mg "row_of" Xr ["line"] u z)(B:qp P w K mg base qN 1 u z ["line"] Vr):qp P w K mg base qN 8 f c ["text"] (A4 b):=by
 refine F.okK Fx λH Q E hr h=>?_
 ·obtain⟨c,rfl,good,pos,le,q⟩:=h;refine⟨_,qb (qF (j4 (jn (qu jA (by rfl) T.isi boot_isinstance (jr (jv 0) (QJ (v:=.ty "str") (by rfl) T.str boot_str rfl))))) (qD) (qr))
   (qb (qx 1 (QP zaA zbe zbf Zk (jv 0) (qU qy)))
   (qb (jc (zJ (by rfl) T.enu (qU (jv 1))) (Zn rfl (jw (qG 2) (jw (qG 3) Jt)))
 (qd (qF (j4 (jn (qv l p (qU (jv 3))))) (qD) (qr))))
   (qd (qm (J4 C.mkr j hr (by rfl) C.ns C.bi .nil Jd (qU (j8 (N':=["line"]) (ix:=[none]) (te:=Zg Vr [] E0 (qS (qY 0) Qw)) (qC (jv 1)) (λC o u fp _=>
    ⟨qG 0,jJ,qv r B (qU (jv 0))⟩)))))))),?_⟩
  obtain⟨b,L⟩:=kO good le;have O:=zL good;refine⟨_,rfl,_,_,_,_,rfl,rfl,zY.str _,T.kss,_,rfl,jG ?_⟩;refine⟨_,rfl,rfl,_,_,rfl,rfl,by decide+kernel,b,λg b=>?_⟩;rw[Cd,xu good pos];have U:=qf (o:=HO.lst ((c.map jb).map V.str)) b;have p:upd H g (HO.lst ((c.map jb).map V.str)) g=some (.lst ((c.map jb).map V.str)):=qa;generalize upd H g (HO.lst ((c.map jb).map V.str))=m at U p;have Y:∀{i:Nat} {y:Str},(c.map jb)[i]?=some y->∃b,c[i]?=some b/\b∈c/\y=jb b:=λ{i y} e=>by
   rw[tp]at e;cases l:c[i]? with
   | none=>rw[l]at e;cases e
   | some b=>rw[l]at e;exact⟨b,rfl,tL l,(tz.inj e).symm⟩
  refine⟨_,rfl,g,rfl,⟨_,.of p⟩,?_⟩;refine Zp (K:=K) (a:=g) (xs:=(c.map jb).map V.str) (λi d j=>(∃v1 z,d=[some (.str (Xj c)),some (.ref g),v1,z])/\qi m j) ⟨⟨none,none,rfl⟩,qi.refl m⟩ (λi d j _ ⟨_,s⟩=>.of (s _ _ p)) ?_ ?_
  ·rintro i x d j r B m ⟨⟨v1,z,rfl⟩,o⟩;have s3:=o.trans (qf (o:=.tup [.int (i:Nat),x]) m);obtain⟨y,D,hy,rfl⟩:=Qf B;obtain⟨b,l,m,rfl⟩:=Y D;exact⟨r,_,rfl,.of qa,rfl,_,_,rfl,_,_,rfl,rfl,_,rfl,b,rfl,L b m,O b m,tS (yI good m) (by decide),λu J=>⟨_,rfl,jG ⟨⟨_,_,rfl⟩,s3.trans J⟩⟩⟩
  ·rintro d u ⟨⟨v1,z,rfl⟩,o⟩;have z:=o _ _ p;refine⟨_,rfl,g,rfl,⟨_,.of z⟩,λW p=>?_⟩;refine jC (K:=K) (a:=g) (xs:=(c.map jb).map V.str) (λi d j=>∃(v:Option V) (g:List Addr),d=[v]/\qi u j/\j W=some (.lst (g.map V.ref))/\jD j g (c.take i))
    ⟨none,[],rfl,qf p,qa,rfl,λi r b e=>(nomatch e)⟩ (λi d j _ ⟨_,_,_,s,_⟩=>.of (s _ _ z)) ?_ ?_
   ·rintro i x d X B ⟨v,g,rfl,c,j,fk⟩;obtain⟨y,D,hy,rfl⟩:=Qf B;obtain⟨b,l,m,rfl⟩:=Y D;refine⟨_,rfl,b,rfl,L b m,O b m,λ_ r q b u z=>?_⟩;have m:=b _ _ j;have B:=fk.1;rw[tJ]at B;refine⟨_,m,by rw[ta];exact ql (by omega),_,g++[r],rfl,qi.upd (c.trans b) p,by rw[tw];exact qa,?_⟩;rw[tM,l];exact jD.upd_lst (jD.snoc (q:=q) (fk.mono b) u z) m
   ·rintro d X ⟨v,g,rfl,c,j,fk⟩;rw[ta,ta,tu (tc _)]at fk;have J:=(U.trans o).trans c;exact λa _ b c d=>kb j fk good pos le b c d λb c d=>q b a (J.trans c) d
end Rh
/-! THE LAW k96. -/
namespace Rh
open PySem L2 MLab Rb MPlay
open PyProof.Rows hiding K lo
def Ro{ns:List Int}(h:SqL K H p (ns.map V.int))(hd:H d=some (.dK kvs))(f:Fr H d a):SqL K a p (ns.map V.int):=by
 rcases h with (h | ⟨a,h⟩) | h
 ·exact .inl (.inl (f _ _ h (λe=>by rw[e,hd]at h;cases h)))
 ·exact .inl (.inr ⟨a,f _ _ h (λe=>by rw[e,hd]at h;cases h)⟩)
 ·exact .inr h
def _root_.L2.SqL.mono(h:SqL K H p xs)(s:qi H a):SqL K a p xs:=by
 rcases h with (h | ⟨a,h⟩) | h
 ·exact .inl (.inl (s _ _ h))
 ·exact .inl (.inr ⟨a,s _ _ h⟩)
 ·exact .inr h
def jD.pts:∀{ps:List Addr} {rs:jf},jD H ps rs->∃xs:List (Addr×Addr×(Str×List Str)),xs.map (·.1)=ps/\xs.map (·.2.2)=rs/\∀x∈xs,H x.1=some (.tup [.str x.2.2.1,.ref x.2.1])/\H x.2.1=some (.tup (x.2.2.2.map V.str))
 | [],[],_=>⟨[],rfl,rfl,λx c=>nomatch c⟩
 | [],_::_,h=>nomatch h.1
 | _::_,[],h=>nomatch h.1
 | d::ps,g::rs,h=>by
  obtain⟨q,a,b⟩:=h.2 0 d g rfl rfl;obtain⟨xs,j,l,k⟩:=jD.pts (H:=H) (ps:=ps) (rs:=rs) ⟨zdb.inj h.1,λi m o p r=>h.2 (i+1) m o (by simpa using p) (by simpa using r)⟩;refine⟨(d,q,g)::xs,by rw[tG,j],by rw[tG,l],λx c=>?_⟩;rcases tI.mp c with e | e
  ·rw[e];exact⟨a,b⟩
  ·exact k x e
def BZ(b:0<=r)(c:r < 3):∃a:Nat,Wo [V.int 4,.int 6,.int 9] r=some (.int (a:Nat))/\0 < a/\a<=14:=by
 obtain rfl | rfl | rfl:r=0\/r=1\/r=2:=by omega
 ·exact⟨4,rfl,by decide,by decide⟩
 ·exact⟨6,rfl,by decide,by decide⟩
 ·exact⟨9,rfl,by decide,by decide⟩
abbrev rAS:R2:=λx y H Q=>∃i a,x=.str i/\y=.str a/\i.length+a.length<=zdZ/\Q (.str (i++a)) H
abbrev Fh(K:zdU)(i:Nat):TE:=De (λc H Q=>∃a b,c=[V.ref a]/\(SqL K H a b\/SqT K H a b)/\∀a,H a=none->Q (.ref a) (upd H a (.lst b))) (qS (qY i) Qw)
/-- the law's promise -/
inductive yn(K:zdU)(PT PP PO:Addr)(vs:List V)(H:Hp)(Q:VK):Prop
 | mk (a:Addr) (ns:List Int):vs=[.ref a]->(SqL K H a (ns.map V.int))->(ns.length<=63)->H PT=some (.tbl #[.str YK 0])->H PP=some (.tbl #[.str J8 0])->H PO=some (.tbl #[.str YL 0])->(∀H',Q (.bl true) H')->yn K PT PP PO vs H Q
def A8(K:zdU)(PT PP PO:Addr):Sp:=λa H Q _=>yn K PT PP PO a H Q
abbrev Hc:List Str:=["_law_script","_law_source_here","_law_rows_here","_law_text","_law_ground","_law_k","_law_heap_here"]
def Am:qh Hc ["_law_script"] (qc Vz):=jY
/-- the defs of the law -/
structure EQ(K:zdU)(mg:Str->Option Value):Prop where
 cell:∃f fd,qH K mg "_law_cell_at" yG ["_law_script","_law_k"] f fd
 source:∃f fd,qH K mg "_law_source" YV ["_law_cell"] f fd
 take:∃f fd,qH K mg "_law_take" YA ["_law_source_here","_law_many"] f fd
 names:∃f fd,qH K mg "_law_names" Xs ["_law_source_here","_law_many"] f fd
 leads:∃f fd,qH K mg "_law_leads" Xu VD f fd
 rows:∃f fd,qH K mg "_law_rows" yz ["_law_source_here","_law_most"] f fd
 need:∃f fd,qH K mg "need_rows" US ["rows"] f fd
 wd:∃f fd,qH K mg "_law_walked" xL BA f fd
 dr:∃f fd,qH K mg "_law_drawn_right" DP AE f fd
 lr:∃f fd,qH K mg "_law_right" EZ AE f fd
 ls:∃f fd,qH K mg "_law_single_right" EY ["_law_ground"] f fd
/-- the program's defs -/
structure EN(K:zdU)(mg:Str->Option Value):Prop where
 wb:∃f fd,qH K mg "winning_by" Xp p3 f fd
 cb:∃f fd,qH K mg "count_by" Zh ["labels","heap"] f fd
 db:∃f fd,qH K mg "drawer_by" Kc p3 f fd
 pb:∃f fd,qH K mg "player_by" vS p3 f fd
 ov:∃f fd,qH K mg "is_over" WQ p2 f fd
 im:∃f fd,qH K mg "is_move" zr CQ f fd
 af:∃f fd,qH K mg "after" Yg AG f fd
 ww:∃f fd,qH K mg "who_won" u6 ["made"] f fd
 pd:∃f fd,qH K mg "played" Zz AC f fd
 wk:∃f fd,qH K mg "walk" UR D0 f fd
 hw:∃f fd,qH K mg "heap_worth" DO p2 f fd
 oc:∃f fd,qH K mg "outcome" WR p2 f fd
 mm:∃f fd,qH K mg "most_moves" UU p2 f fd
 si:∃f fd,qH K mg "settled_in" Z3 CO f fd
 sp:∃f fd,qH K mg "settled_places" Yb ["ground"] f fd
 tb:∃f fd,qH K mg "table_of" Ya ["ground"] f fd
 eb:∃f fd,qH K mg "entry_behind_best" zu ["entry"] f fd
 bm:∃f fd,qH K mg "best_moves" UW ["ground","name"] f fd
 il:∃f fd,qH K mg "is_line" zt ["line"] f fd
 ro:∃f fd,qH K mg "row_of" Xr ["line"] f fd
 rg:∃f fd,qH K mg "read_ground" yA ["text"] f fd
 dr:∃a,mg "DRAWN"=some (.ref a)/\∃(o:Obj) (its:Array Value) (n:Nat),K.lookup a=some o/\o.cls=.type "tuple"/\o.data=.seq its n/\its.size<=zdZ/\qI (zO none) its.toList
def BR{P:Program}{w:World}{K:zdU}{mg:Str->Option Value}{base:Heap}{f C c PT D j PP J l PO CG:Addr}{m o p r:zdY}(F:jE K "law" "law" Vz f m)(hA:qH K mg "winner_by" Jc p3 C o)(hc:o.code=.ref c)(TM:Yw mg base c PT)(ac:qH K mg "player" Qg ["ground"] D p)(au:p.code=.ref j)(av:Yw mg base j PP)(ae:qH K mg "_law_opponent" Yf NH J r)(aw:r.code=.ref l)(ax:Yw mg base l PO)
  (h:WF K mg) (B:Qo mg) (y:Wk K mg) (G:j3 mg) (T:Qb K mg) (N:ML K mg) (M:GM K mg CG) (Y:MM K mg) (O:wU K mg) (q:Ru K mg) (D1:CJ K mg) (g:EN K mg) (L:EQ K mg):qp P w K mg base qN 18 f m ["_law_script"] (A8 K PT PP PO):=by
 obtain⟨_,_,hO⟩:=L.cell;obtain⟨_,_,hL⟩:=L.source;obtain⟨_,_,l⟩:=L.take;obtain⟨_,_,o⟩:=L.names;obtain⟨_,_,r⟩:=L.leads;obtain⟨_,_,p⟩:=L.rows;obtain⟨_,_,hW⟩:=L.need;obtain⟨_,_,af⟩:=L.wd;obtain⟨_,_,al⟩:=L.dr;obtain⟨_,_,am⟩:=L.lr;obtain⟨_,_,an⟩:=L.ls;obtain⟨_,_,e1⟩:=g.wb;obtain⟨_,_,e2⟩:=g.cb;obtain⟨_,_,c1⟩:=g.db;obtain⟨_,_,c2⟩:=g.pb;obtain⟨v1,_,o1⟩:=g.ov;obtain⟨_,_,o2⟩:=g.im;obtain⟨_,_,o3⟩:=g.af;obtain⟨v4,_,o4⟩:=g.ww;obtain⟨C,ay,o5⟩:=g.pd;obtain⟨v6,_,o6⟩:=g.wk;obtain⟨_,_,o7⟩:=g.hw;obtain⟨_,_,o8⟩:=g.oc;obtain⟨_,_,o9⟩:=g.mm;obtain⟨_,_,p1⟩:=g.si;obtain⟨_,_,ao⟩:=g.sp;obtain⟨_,_,ag⟩:=g.tb;obtain⟨_,_,p4⟩:=g.eb;obtain⟨_,_,p5⟩:=g.bm;obtain⟨_,_,p6⟩:=g.il;obtain⟨_,_,p7⟩:=g.ro;obtain⟨_,_,p8⟩:=g.rg;obtain⟨_,_,e8⟩:=O.place;obtain⟨_,_,j⟩:=O.heap;obtain⟨x1,_,b1⟩:=O.lw;obtain⟨x2,_,b2⟩:=O.sum;obtain⟨_,_,b3⟩:=O.wby;obtain⟨_,_,D⟩:=q.lb;obtain⟨_,_,d9⟩:=q.oby;obtain⟨_,_,m⟩:=q.mo;obtain⟨_,_,J⟩:=Y.labels;obtain⟨_,_,U⟩:=M.cls;obtain⟨_,_,az⟩:=M.isn;have GO:=pin P w mg base (N2 hO.fn B);have GL:=pin P w mg base (xZ hL.fn B);have GT:=pin P w mg base (zA l.fn);have GR:=pin P w mg base (NP p.fn B G l o r);have GI:=pin P w mg base (KU U B G T N hW);have GB:=pin P w mg base (x6 J.fn B G T M Y);have E1:=pin P w mg base (KC e1.fn h B y G T M O q);have E2:=pin P w mg base (U6 e2.fn T);have D8:=pin P w mg base (YZ D.fn G);have D9:=pin P w mg base (KM d9.fn h B y O);have o:=pin P w mg base (U5 j.fn B G T M e8 O.most);have r:=pin P w mg base (XD m.fn B G T M e8 O.most j);have EA:=pin P w mg base (KB hA.fn hc TM B G T e2 D e1 E1);have ED:=pin P w mg base (BT c1.fn h B G T M Y O q D1);have EP:=pin P w mg base (BL c2.fn B d9 D9 hA EA c1 ED m r);have q:=pin P w mg base (x3 ac.fn au av J GB);have EO:=pin P w mg base (BN ae.fn aw ax G M l);have F1:=pin P w mg base (NR o1.fn B m r);have F0:=pin P w mg base (XC h.hW.fn B y);have F2:=pin P w mg base (x9 o2.fn B G T m r h.hW F0);have F3:=pin P w mg base (KZ o3.fn j o o2 F2 D D8);have F5:qp P w K mg base qN 15 C ay AC (RV CG PT PP PO):=x4 o5.fn B G j o o1 F1 o3 F3 o4 (Cu B j o c2 EP m r);have F6:=pin P w mg base (NL o6.fn G T j o o3 F3);have FB:=pin P w mg base (KD b3.fn h B y b1 b2);have F7:=pin P w mg base (D6 o7.fn h j o b3 FB J GB);have y:=pin P w mg base (NS o8.fn h B o7 F7);have F9:=pin P w mg base (NW o9.fn J GB j o d9 D9 hA EA e2 E2 D D8);have j:=pin P w mg base (U3 ag.fn B G T M g.dr p1 ao);have o:=pin P w mg base (N3 p5.fn B G T M g.dr p1 ao ag p4);have g:=pin P w mg base (wc p6.fn B T az);have D:=pin P w mg base (KH p7.fn G);have J:=pin P w mg base (NQ p8.fn T U GI p6 g p7 D);have g:=pin P w mg base (BP af.fn B G T o6 F6 m r o1 F1);have L2:=pin P w mg base (D7 al.fn ac q ae EO o5 F5 af g);have L3:=pin P w mg base (D5 am.fn B G ac q ae EO o5 F5 af g o8 y al L2 o9 F9);have L4:=pin P w mg base (D4 an.fn ag j o8 y p5 o);refine F.okK Am λH Q E hr z=>?_;obtain⟨a,ns,rfl,hq,_,j,o,y,k⟩:=z;have r1:je 1 _:=hr.mono (by decide);refine⟨_,qb (ZY 1 (qv hL GL (qU (qv hO GO (jr (jv 0) qe)))))
  (qb (ZY 2 (qv p GR (jr (jv 1) (qB qR (j5 (Ys qe qe qe)) (qv l GT (jr (jv 1) qe))))))
  (qb (qx 3 (QP zaA zcp zcq VL qy (qU (j8 (N':=["_law_name","_law_leads_here"]) (ix:=[none,none]) (g:=Ms K 2 (XW (QW 0) (XW (QW 1) Mt)))
  (te:=Fn K "str" (At K) (tC (.str (zdV " "))) (qS (z5 DX (C5 (qS (z5 rAS (qY 0) (tC (.str (zdV ":")))) Qw)) (Fh K 1)) Qw)) (qC (jv 2)) (λU D q fp aA=>
   ⟨Zn rfl (jw (qG 0) (jw (qG 1) Jt)),jJ,
    QP zaA zcp zcq VL qy (qU (qL BG (j5 (qU (qL Z8 (jv 0) qy))) (jo jp (by rfl) G.lst boot_list (qU (jv 1)))))⟩)))))
  (qb (qx 4 (qv p8 J (qU (jv 3))))
  (qb (jc (wx (by rfl) B.rng (jr qe qe)) (qG 5)
   (qb (ZY 1 (qv hL GL (qU (qv hO GO (jr (jv 0) (jv 5))))))
  (qb (Jj (i:=6) (N':=["_law_j","_law_rows_here","_law_source_here"]) (ix:=[none,some 2,some 1])
  (te:=z5 (zy K) (z5 (Bx K) (qY 1) (Zg uz [] E0 (qS (qY 2) (qS (De (λm H Q=>∃r g,m=[.ref r]/\(SqL K H r g\/SqT K H r g)/\Q (.int g.length) H) (qS (qY 1) Qw)) Qw)))) (tC (.int 0))) (hN:=Am.nd)
  (QD (by rfl) B.rng (qU (qL Qj qe (qv l GT (jr (jv 1) qe)))))
  (λU D q fp aA=>⟨qG 0,jJ,
   qB qJ (qB qR (jv 1) (qv l GT (jr (jv 2) (qu qA (by rfl) B.len boot_len (qU (jv 1)))))) qe⟩))
  (qd (qF (j4 (jn (qv am L3 (Ys (jv 1) (jv 4) (jv 6))))) (qD) (qr))))))
  (qd (qm (qv an L4 (qU (jv 4))))))))),?_⟩
 have aB:Wq PT PP PO H:=⟨⟨_,j⟩,⟨_,o⟩,⟨_,y⟩⟩;refine⟨_,rfl,a,ns,0,rfl,hq,by decide,λc=>⟨c,rfl,λd n j hd=>?_⟩⟩;refine⟨_,rfl,Ze,λU l=>?_⟩;have aa:U≠d:=λe=>by rw[e,qa]at l;cases l
 refine⟨_,rfl,d,3,n,j,0,rfl,qk qa l,by decide,by decide,λJ n1 g r0 o=>?_⟩;obtain⟨y,em,m0,ap⟩:=BZ r0 o;refine⟨U,_,J,_,rfl,rfl,.of (by rw[qg aa];exact qa),em,d,y,n1,j,g,rfl,qa,m0,ap,λo ps g n2 _ q hl y fk good pos le _ aC=>?_⟩;have aD:H U=none:=by rw[qg aa]at l;exact l
 have sm:qi H q:=λb u l=>by
  have U:b≠d:=qt l hd;refine aC b u ?_ U;rw[qg U,qg (qt l aD),qg U];exact l
 have U:g.length<=14:=tS le ap;have g2:QG q o ps g:=⟨y,fk,good,pos,U⟩;have aq:=zL good
 -- aE gj
 obtain⟨m,x1,x2,hx⟩:=fk.pts;have l:q o=some (.lst (m.map λx=>V.ref x.1)):=by
  rw[<-x1,zav]at y;exact y
 have aL:m.length<=14:=by
  have:=congrArg zad x2;rw[ta]at this;omega
 have xr:∀x∈m,x.2.2∈g:=λx hx=>by rw[<-x2];exact tl.mpr ⟨x,hx,rfl⟩
 obtain⟨_,_⟩:=kO good U;refine⟨rfl,_,rfl,o,rfl,⟨_,.of y⟩,λDt y=>?_⟩;refine MG (K:=K) (a:=o) (xs:=m) (enc:=λx=>x.1) (fa:=λx=>.str x.2.2.1) (fb:=λx=>.ref x.2.1) (out:=λx=>some (V.str (jb x.2.2))) (rest:=[]) y l (ql (by omega)) (λx y=>.of (hx x y).1) (λx y Y sY l p=>p Y (λ_ _ z=>z)) (λx y v ev Y sY l p=>?_) (λH3 l ar=>?_)
 ·cases ev;have nr:=aq _ (xr x y);have b8:=(J0 nr.1).2.1;have aM:=yI good (xr x y);refine⟨rfl,_,rfl,_,_,rfl,rfl,?_,Ze,λk1 f1=>?_⟩
  ·rw[Mh];exact t6 (ql (by show x.2.2.1.length+1<=1000;omega))
  have s1:=qf (o:=HO.lst [V.str (x.2.2.1++zdV ":")]) f1;have h1:upd Y k1 (HO.lst [V.str (x.2.2.1++zdV ":")]) k1=some (.lst [V.str (x.2.2.1++zdV ":")]):=qa;generalize upd Y k1 (HO.lst [V.str (x.2.2.1++zdV ":")])=Y1 at s1 h1;refine⟨_,rfl,x.2.1,_,rfl,.inr (.of (s1 _ _ (sY _ _ (hx x y).2))),λy f2=>?_⟩;have D:=qf (o:=HO.lst (x.2.2.2.map V.str)) f2;have h2:upd Y1 y (HO.lst (x.2.2.2.map V.str)) y=some (.lst (x.2.2.2.map V.str)):=qa;generalize upd Y1 y (HO.lst (x.2.2.2.map V.str))=Y2 at D h2;refine⟨k1,y,_,_,rfl,rfl,D _ _ h1,h2,t6 (ql (by rw[ta];show 1+_<=1000;omega)),λy f3=>?_⟩;have l:=qf (o:=HO.lst ([V.str (x.2.2.1++zdV ":")]++x.2.2.2.map V.str)) f3;refine⟨_,y,(x.2.2.1++wS)::x.2.2.2,rfl,rfl,.of (by rw[<-Mh];exact qa),?_,?_⟩
  ·have a:=z6 nr.2;have c:(x.2.2.1++wS).length=x.2.2.1.length+1:=Str.length_append _ _;rw[tG,zaq,t0,c,Mg];show _+(x.2.2.2.length+1)*1<=_;omega
  ·rw[Gf,Mg];exact p _ ((s1.trans D).trans l)
 have p:m.filterMap (λx=>some (V.str (jb x.2.2)))=(g.map jb).map V.str:=by
  rw[VW (λx:Addr×Addr×(Str×List Str)=>V.str (jb x.2.2)),<-x2,zav,zav];rfl
 rw[p]at ar;have l:qi q H3:=l;refine⟨_,Dt,g.map jb,rfl,rfl,.of ar,?_,?_⟩
 ·have a:=Yk aq;have b:=good.few;rw[Cd];show _+(g.map jb).length*1<=_;rw[ta];omega
 rw[Gf,Cd]
 -- aE ground
 refine⟨_,rfl,g,rfl,good,pos,U,λH4 D p q=>?_⟩;have m:=l.trans p;have p:=sm.trans m;refine⟨1,3,rfl,by decide,?_⟩;refine ZF (λi σ X=>∃v1 C v6,σ=[some (.ref a),v1,some (.ref o),some (.str (Xj g)),some (.ref D),C,v6]/\SqL K X a (ns.map V.int)/\QG X o ps g/\jZ CG X D g/\Wq PT PP PO X) ⟨_,_,_,rfl,hq.mono p,g2.mono m,q,aB.mono p⟩ ?_ ?_
 ·rintro i σ m hi ⟨v1,C,v6,rfl,ah,ga,ai,as⟩;refine⟨_,rfl,_,rfl,a,ns,_,rfl,ah,by omega,λc=>⟨c,rfl,λd n j hd=>?_⟩⟩;have l:qi m (upd m d (.dK (j9 n j 0))):=qf hd;have p:upd m d (.dK (j9 n j 0)) d=some (.dK (j9 n j 0)):=qa;generalize upd m d (.dK (j9 n j 0))=H3 at l p;have g3:=ga.mono l;refine⟨_,rfl,d,5,n,j,0,rfl,p,by decide,by decide,λr' n3 t3 _ _=>⟨_,_,rfl,rfl,1+r',rfl,by omega,by omega,λDl y=>?_⟩⟩;have ab:Dl≠d:=λe=>by rw[e,qa]at y;cases y
  have aF:H3 Dl=none:=by rw[qg ab]at y;exact y
  refine ZI (λi aj m=>∃(v:Option V) (n' t':Int) (q:List Str),aj=[v,some (.ref o),some (.ref d)]/\m d=some (.dK (j9 n' j t'))/\m Dl=some (.lst (q.map V.str))/\q.length=i/\(∀z∈q,∃J∈g,J.1=z)/\Fr H3 d m)
   ⟨none,n3,t3,[],rfl,?_,qa,rfl,λ_ h=>(nomatch h),(Fr.refl.at_d).new y⟩ ?_ ?_
  ·rw[qg (Ne.symm ab)];exact qa
  ·rintro i aj m hi ⟨v,n',t',q,rfl,ak,aG,hl,ha,fr⟩;have y:=g3.fr' p fr;have pl:(ps.map V.ref).length=g.length:=by rw[ta,g3.rows.1]
   have le:=g3.le;have aN:=g3.pos;refine⟨_,rfl,_,rfl,_,rfl,o,_,rfl,.inl (.of y.at_),d,((ps.map V.ref).length:Nat),n',j,t',rfl,ak,by rw[pl];omega,?_,λJ n3 t3 r0 r1=>?_⟩
   . rw[pl];have:g.length < 2^200:=zat le (by decide);omega
   obtain⟨x,ex,gx⟩:=atI_get r0 r1;obtain⟨r,_,r',rfl,_,aH,ea,_⟩:=y.rows.item gx;have aI:o≠d:=λe=>by
     have:=y.at_;rw[e,ak]at this;cases this
   have aa:r≠d:=λe=>by rw[e,ak]at ea;cases ea
   refine⟨o,_,J,_,rfl,rfl,.of (by rw[qg aI];exact y.at_),ex,r,_,0,_,rfl,rfl,.of (by rw[qg aa];exact ea),rfl,_,by rw[qg ab];exact aG,?_,_,n3,t3,q++[r'.1],rfl,?_,?_,?_,?_,?_⟩
   . rw[ta,hl];exact ql (by omega)
   . rw[qg (Ne.symm ab)];exact qa
   . rw[qa,tw];rfl
   . rw[tm,hl];rfl
   . intro z o;rcases tT.mp o with h | h
     ·exact ha z h
     ·obtain rfl:=tQ.mp h;exact⟨r',aH,rfl⟩
   . exact(fr.at_d).own aF
  ·rintro aj H4 ⟨v,n4,t4,q,rfl,o,aJ,hl,ha,r⟩;have g4:=g3.fr' p r;have y:=(ai.mono l).frd pos p r;have J:=(as.mono l).frd p r;have aK:=Ro (ah.mono l) p r;refine⟨_,rfl,_,rfl,_,rfl,d,D,Dl,n4,j,t4,g,q,rfl,o,⟨y,good,U,⟨aJ,by omega,ha⟩⟩,pos,J,λ_ n5 _ j _=>⟨_,rfl,jG ?_⟩⟩;exact⟨_,_,_,rfl,Ro aK o j,g4.fr' o j,y.frd pos o j,J.frd o j⟩
 ·rintro σ X ⟨v1,C,v6,rfl,ah,ga,ai,as⟩;exact⟨_,rfl,D,g,rfl,ai,good,U,λm _=>k m⟩
open PySem L2 MLab MPlay
open PyProof.Rows hiding K lo
def kss:zaD K (.type "str") (.type "str")=some true:=by kernel_rfl
def ktt:zaD K (.type "tuple") (.type "tuple")=some true:=by kernel_rfl
def kll:zaD K (.type "list") (.type "list")=some true:=by kernel_rfl
def kii:zaD K (.type "int") (.type "int")=some true:=by kernel_rfl
def kib:zaD K (.type "int") (.type "bool")=some false:=by kernel_rfl
/-- a def as the head tells it -/
def MF(K:zdU)(n q:Str)(s:Stmt)(f:Addr):Prop:=∃a,jE K n q s f a
def MF.mk'{K:zdU}{x qual:Str}{st:Stmt}{f:Addr}{oc:Value}{b d:Option Addr}{e:Array (Option Value)}{kV g pm a ct:Value}(l:K.lookup f=some ⟨oc,b,.func (zaH x qual (jL st) (qX st) (qc st) .none kV g pm d a ct),e⟩)(c:zaQ K a qual=true)(k:zar K (.ref f)=true):MF K x qual st f:=⟨_,zc l c k⟩
def HF(K:zdU)(n:Str)(s:Stmt)(f:Addr):Prop:=tX K mainGlobals n=some (some (.ref f))/\MF K n n s f
def HF.mk'{K:zdU}{x:Str}{st:Stmt}{f:Addr}{oc:Value}{d e:Option Addr}{g:Array (Option Value)}{kV i pm b ct:Value}(a:tX K mainGlobals x=some (some (.ref f)))(l:K.lookup f=some ⟨oc,d,.func (zaH x x (jL st) (qX st) (qc st) .none kV i pm e b ct),g⟩)(c:zaQ K b x=true)(k:zar K (.ref f)=true):HF K x st f:=⟨a,_,zc l c k⟩
def HF.has(l:HF K n s f)(X:K.In h)(G:h.Ns mainGlobals mg)(b:∀{c},jE K n n s f c->jN K c ps []:=by exact λF=>F.binds λ_ _ _ _ _ _ us d=>by first | (obtain⟨_,rfl⟩:=kl d;rfl) | (obtain⟨_,_,rfl⟩:=kj d;rfl) | (obtain⟨_,_,_,rfl⟩:=Mb d;rfl) | (obtain⟨_,_,_,_,rfl⟩:=B6 d;rfl) | (obtain⟨_,_,_,_,_,rfl⟩:=Eh d;rfl)):∃c,qH K mg n s ps f c:=let ⟨a,c,F⟩:=l;⟨c,F,zau X G a,b F⟩
def QF(K:zdU)(C:Addr)(n q:Str)(s:Stmt)(f:Addr):Prop:=(t1 K (.ref C) n=some (some (.ref f))/\zbw K (.ref f)=true)/\MF K n q s f
def QF.mk'{K:zdU}{C:Addr}{x qual:Str}{st:Stmt}{f:Addr}{oc:Value}{e g:Option Addr}{i:Array (Option Value)}{kV j pm d ct:Value}(a:t1 K (.ref C) x=some (some (.ref f)))(b:zbw K (.ref f)=true)(l:K.lookup f=some ⟨oc,e,.func (zaH x qual (jL st) (qX st) (qc st) .none kV j pm g d ct),i⟩)(c:zaQ K d qual=true)(k:zar K (.ref f)=true):QF K C x qual st f:=⟨⟨a,b⟩,_,zc l c k⟩
def QF.has(l:QF K C n q s f)(b:∀{d},jE K n q s f d->jN K d ps []:=by exact λF=>F.binds λ_ _ _ _ _ _ us e=>by first | (obtain⟨_,rfl⟩:=kl e;rfl) | (obtain⟨_,_,rfl⟩:=kj e;rfl) | (obtain⟨_,_,_,rfl⟩:=Mb e;rfl) | (obtain⟨_,_,_,_,rfl⟩:=B6 e;rfl) | (obtain⟨_,_,_,_,_,rfl⟩:=Eh e;rfl)):∃d,Rt K C n q s ps f d:=let ⟨⟨a,c⟩,d,F⟩:=l;⟨d,F,⟨a,c,F.kp⟩,b F⟩
def at0:(a::l)[0]?=some a:=rfl
def at1:(a::b::l)[1]?=some b:=rfl
def at2:(a::b::c::l)[2]?=some c:=rfl
/-- the law's promise,with its makers' tables -/
inductive ym(K:zdU)(tabs:List Tab)(vs:List V)(H:Hp)(Q:VK):Prop
 | mk (a:Addr) (ns:List Int):vs=[.ref a]->(SqL K H a (ns.map V.int))->(ns.length<=63)->((∀t∈tabs,H t.P=some (.tbl #[.str t.q 0])))->(∀H',Q (.bl true) H')->ym K tabs vs H Q
def vO(K:zdU)(tabs:List Tab):Sp:=λa H Q _=>ym K tabs a H Q
def all_mk{l:PySem.W.OpenLaw}{w:World}{K:zdU}{h:Heap}{mg:Str->Option Value}{fa:Addr}(X:K.In h)(G:h.Ns mainGlobals mg)(ay:mg "law"=some (.ref fa))
  {fO fL fT fN fD fR az aA aB aC aD aE aF aG aH T aI aJ aK aL aM aN U aa ab ac ae aO aP aQ aR aS aT aU aV aW aX aY aZ a0 a1 a2 a3 a4 a5 a6 a7 a8 a9 a' bb bc bd be bf bg bh bi bj bl bm bn bp bq br bt bu u bv bw j af ag ah m ai aj ak:Addr}
  {r:Addr} {bz al:Option Addr} {bA:Array (Option Value)} {bB am an ao D ap:Value}
  {b:Addr}
  {CN:Addr}
  {CE:Addr}
  {bC:Tok}
  {bD:Tok}
  {bE:Tok}
  {bF:Tok}
  {bG:Tok}
  {bH:Tok}
  {bI:Tok}
  {c:List Addr}
  {x o d:Addr} {bJ bK bL bM bN bO:Value} {bP bQ bR:Option Addr} {bS bT:Array (Option Value)} {aq:Array Value}
  {y p g:Addr} {bU bV bW bX bY bZ:Value} {b0 b1 b2:Option Addr} {b3 b4:Array (Option Value)} {ar:Array Value}
  {C q i:Addr} {b5 b6 b7 b8 b9 b':Value} {ca cb cc:Option Addr} {cd ce:Array (Option Value)} {as:Array Value}
  {J:Addr} {cf:Option Addr} {Hf:Nat} {t5:Tok} {cg:Array (Option Value)}
  (lO:HF K "_law_cell_at" yG fO)
  (lL:HF K "_law_source" YV fL)
  (lT:HF K "_law_take" YA fT)
  (lN:HF K "_law_names" Xs fN)
  (lD:HF K "_law_leads" Xu fD)
  (lR:HF K "_law_rows" yz fR)
  (au:HF K "is_name" ZT az)
  (ch:HF K "is_tuple_of_names" WP aA)
  (ci:HF K "is_row" Xw aB)
  (cj:HF K "need_form" yD aC)
  (ck:HF K "need_own_names" Np aD)
  (cl:HF K "need_ends" yE aE)
  (cm:HF K "need_few_roads" Nt aF)
  (cn:HF K "need_rows" US aG)
  (co:HF K "lacking" Qq aH)
  (av:HF K "set_of" Yc T)
  (cp:HF K "numbers_behind" An aI)
  (cq:HF K "gets_number" Xx aJ)
  (cr:HF K "round_of" Yd aK)
  (cs:HF K "give_number" UV aL)
  (ct:HF K "give_numbers" VA aM)
  (cu:HF K "labels_of" JV aN)
  (cv:HF K "is_whole" JR U)
  (cw:HF K "is_number" zp aa)
  (cx:HF K "is_set" Xv ab)
  (cy:HF K "set_turned" YU ac)
  (cz:HF K "numbers_in" Z4 ae)
  (cA:HF K "sum_of" Xq aO)
  (cB:HF K "need_place" Ye aP)
  (cC:HF K "need_heap" QA aQ)
  (cD:HF K "label_worth" DN aR)
  (cE:HF K "worth_by" u7 aS)
  (cF:HF K "moves_of" Qa aT)
  (cG:HF K "left_by" ZU aU)
  (cH:HF K "outcome_by" xK aV)
  (cI:HF K "outcomes_by" yB aW)
  (cJ:HF K "winning_by" Xp aX)
  (cK:HF K "count_by" Zh aY)
  (cL:HF K "drawer_by" Kc aZ)
  (cM:HF K "player_by" vS a0)
  (cN:HF K "is_over" WQ a1)
  (cO:HF K "is_move" zr a2)
  (cP:HF K "after" Yg a3)
  (cQ:HF K "who_won" u6 a4)
  (cR:HF K "played" Zz a5)
  (cS:HF K "walk" UR a6)
  (cT:HF K "heap_worth" DO a7)
  (cU:HF K "outcome" WR a8)
  (cV:HF K "most_moves" UU a9)
  (cW:HF K "settled_in" Z3 a')
  (cX:HF K "settled_places" Yb bb)
  (cY:HF K "table_of" Ya bc)
  (cZ:HF K "entry_behind_best" zu bd)
  (c0:HF K "best_moves" UW be)
  (c1:HF K "is_line" zt bf)
  (c2:HF K "row_of" Xr bg)
  (c3:HF K "read_ground" yA bh)
  (c4:HF K "summed" Zy bi)
  (c5:HF K "is_open_to" zq bj)
  (c6:HF K "open_roads" Vy bl)
  (c7:HF K "endless_in" Ka bm)
  (c8:HF K "numbers_sum" UT bn)
  (c9:HF K "makes_sum" Nr bp)
  (c':HF K "_law_walked" xL bq)
  (da:HF K "_law_drawn_right" DP br)
  (db:HF K "_law_right" EZ bt)
  (dc:HF K "_law_single_right" EY bu)
  (dd:tX K mainGlobals "law"=some (some (.ref r)))
  (de:K.lookup r=some ⟨bB,bz,.func (zaH "law" "law" (jL Vz) (qX Vz) (qc Vz) .none am an ao al D ap),bA⟩)
  (df:zaQ K D "law"=true)
  (dg:zar K (.ref r)=true)
  (dh:tX K mainGlobals "Ground"=some (some (.ref b)))
  (di:zbg K b Str.empty=true)
  (dj:zbo K b=true)
  (dk:zbH K b=true)
  (dm:t1 K (.ref b) "__setattr__"=some (some (.builtin "object.__setattr__")))
  (dn:zbV K b=true)
  (dp:t1 K (.ref b) "__init__"=some (some (.ref u)))
  (dq:zbw K (.ref u)=true)
  (dr:zar K (.ref b)=true)
  (ds:t1 K (.ref b) "order"=some none)
  (dt:t1 K (.ref b) "roads"=some none)
  (du:MF K "__init__" "Ground.__init__" vV u)
  (dv:QF K b "names" "Ground.names" YW bv)
  (dw:QF K b "roads_from" "Ground.roads_from" VB bw)
  (dx:tX K mainGlobals "Numbered"=some (some (.ref CN)))
  (dy:zbg K CN Str.empty=true)
  (dz:zbo K CN=true)
  (dA:zbH K CN=true)
  (dB:t1 K (.ref CN) "__setattr__"=some (some (.builtin "object.__setattr__")))
  (dC:zbV K CN=true)
  (dD:t1 K (.ref CN) "__init__"=some (some (.ref j)))
  (dF:zbw K (.ref j)=true)
  (dG:zar K (.ref CN)=true)
  (dH:t1 K (.ref CN) "number"=some none)
  (dI:MF K "__init__" "Numbered.__init__" Xt j)
  (dJ:t1 K (.ref CN) "__class__"=some (some (.builtin "object.__class__")))
  (dK:zcU K CN (.type "object")=some true)
  (dM:QF K CN "outcome" "Numbered.outcome" u8 af)
  (dN:QF K CN "plus" "Numbered.plus" vU ag)
  (dO:QF K CN "is_endless" "Numbered.is_endless" yC ah)
  (dP:tX K mainGlobals "Endless"=some (some (.ref CE)))
  (dQ:zbg K CE Str.empty=true)
  (dR:zbo K CE=true)
  (dS:zbH K CE=true)
  (dT:t1 K (.ref CE) "__setattr__"=some (some (.builtin "object.__setattr__")))
  (dU:zbV K CE=true)
  (dV:t1 K (.ref CE) "__init__"=some (some (.ref m)))
  (dW:zbw K (.ref m)=true)
  (dX:zar K (.ref CE)=true)
  (dY:t1 K (.ref CE) "bits"=some none)
  (dZ:MF K "__init__" "Endless.__init__" Xy m)
  (d0:t1 K (.ref CE) "__class__"=some (some (.builtin "object.__class__")))
  (d1:zcU K CE (.type "object")=some true)
  (d2:QF K CE "outcome" "Endless.outcome" u9 ai)
  (d3:QF K CE "plus" "Endless.plus" vW aj)
  (d4:QF K CE "is_endless" "Endless.is_endless" yF ak)
  (d5:tX K mainGlobals "len"=some none)
  (d6:tX K mainGlobals "max"=some none)
  (d7:tX K mainGlobals "min"=some none)
  (d8:tX K mainGlobals "int"=some none)
  (d9:tX K mainGlobals "range"=some none)
  (aw:tX K mainGlobals "isinstance"=some none)
  (d':tX K mainGlobals "str"=some none)
  (ea:tX K mainGlobals "all"=some none)
  (eb:tX K mainGlobals "enumerate"=some none)
  (ec:tX K mainGlobals "sum"=some none)
  (ed:tX K mainGlobals "sorted"=some none)
  (ee:tX K mainGlobals "list"=some none)
  (ef:tX K mainGlobals "reversed"=some none)
  (eg:tX K mainGlobals "set"=some none)
  (eh:tX K mainGlobals "tuple"=some none)
  (eW:tX K mainGlobals "dict"=some none)
  (ei:tX K mainGlobals "bool"=some none)
  (m1:tX K mainGlobals "LETTERS"=some (some (.str "abcdefghijklmnopqrstuvwxyz" bC)))
  (m2:tX K mainGlobals "LONGEST_NAME"=some (some (.int 8 bD)))
  (m3:tX K mainGlobals "MOST_PLACES"=some (some (.int 14 bE)))
  (m4:tX K mainGlobals "MOST_ROADS"=some (some (.int 40 bF)))
  (m5:tX K mainGlobals "MOST_NUMBER"=some (some (.int 15 bG)))
  (m6:tX K mainGlobals "MOST_BITS"=some (some (.int 65535 bH)))
  (m7:tX K mainGlobals "MOST_TOKENS"=some (some (.int 8 bI)))
  (ej:c[2]?=some d)
  (ek:tX K mainGlobals "winner_by"=some (some (.ref x)))
  (el:K.lookup x=some ⟨bJ,bP,.func (zaH "winner_by" "winner_by" (jL Jc) (qX Jc) (qc Jc) .none bK bL bM bQ (.ref o) bN),bS⟩)
  (en:zaQ K (.ref o) "winner_by"=true)
  (eo:zar K (.ref x)=true)
  (eX:K.lookup o=some ⟨bO,bR,.fields aq,bT⟩)
  (eY:aq[11]?=some (.ref d))
  (ep:zbs K o d=true)
  (eq:c[1]?=some g)
  (er:tX K mainGlobals "player"=some (some (.ref y)))
  (es:K.lookup y=some ⟨bU,b0,.func (zaH "player" "player" (jL Qg) (qX Qg) (qc Qg) .none bV bW bX b1 (.ref p) bY),b3⟩)
  (et:zaQ K (.ref p) "player"=true)
  (eu:zar K (.ref y)=true)
  (eZ:K.lookup p=some ⟨bZ,b2,.fields ar,b4⟩)
  (e0:ar[11]?=some (.ref g))
  (ev:zbs K p g=true)
  (ew:c[0]?=some i)
  (ex:tX K mainGlobals "_law_opponent"=some (some (.ref C)))
  (ey:K.lookup C=some ⟨b5,ca,.func (zaH "_law_opponent" "_law_opponent" (jL Yf) (qX Yf) (qc Yf) .none b6 b7 b8 cb (.ref q) b9),cd⟩)
  (ez:zaQ K (.ref q) "_law_opponent"=true)
  (eA:zar K (.ref C)=true)
  (e1:K.lookup q=some ⟨b',cc,.fields as,ce⟩)
  (e2:as[11]?=some (.ref i))
  (eB:zbs K q i=true)
  (n1:d≠g)
  (n2:d≠i)
  (n3:g≠i)
  (ne:CN≠CE)
  (md:tX K mainGlobals "DRAWN"=some (some (.ref J)))
  (eC:K.lookup J=some ⟨.type "tuple",cf,.seq #[.str "drawn" t5,.none] Hf,cg⟩)
  :
  ∃(tabs:List Tab) (fd:zdY),(tabs.map (·.P)).Nodup/\(∀t∈tabs,t.P∈c/\zbs K t.c t.P=true)/\(∀(s:Shared) (v:Value),BindsTo s fd ⟨[v],[]⟩ [("_law_script",v)])/\∀base:Heap,K.In base->base.Ns mainGlobals mg->(∀t∈tabs,Yw mg base t.c t.P)->qp l.prog w K mg base qN 18 fa fd ["_law_script"] (vO K tabs):=by
 have e:=ay.symm.trans (zau X G dd);cases e;obtain⟨_,eD⟩:=av.has (ps:=["numbers"]) X G;obtain⟨_,eE⟩:=cv.has (ps:=["thing"]) X G;obtain⟨_,eF⟩:=cw.has (ps:=["thing"]) X G;obtain⟨_,eG⟩:=cx.has (ps:=["thing"]) X G;obtain⟨_,eH⟩:=cy.has (ps:=["bits","number"]) X G;obtain⟨_,eI⟩:=cz.has (ps:=["bits"]) X G;have eJ:=zc (st:=Vz) de df dg;obtain⟨_,ax⟩:=du;have eK:CY K mg b u _:=⟨⟨di,dj,dk,dm⟩,⟨dn,dp,dq,dr⟩,zau X G dh,ds,dt,ax,ax.binds (ps:=["self","rows"]) λ_ _ _ _ _ _ r c=>by obtain⟨_,_,rfl⟩:=kj c;rfl⟩;obtain⟨_,eL⟩:=dv.has (ps:=["self"]);obtain⟨_,eM⟩:=dw.has (ps:=["self","name"]);obtain⟨_,u⟩:=dI;have eN:Cl K mg "Numbered" "Numbered.__init__" "number" Xt CN j _:=⟨⟨dy,dz,dA,dB⟩,⟨dC,dD,dF,dG⟩,zau X G dx,dH,u,u.binds (ps:=["self","number"]) λ_ _ _ _ _ _ r c=>by obtain⟨_,_,rfl⟩:=kj c;rfl,dJ,dK⟩;obtain⟨_,eO⟩:=dM.has (ps:=["self"]);obtain⟨_,eP⟩:=dN.has (ps:=["self","other"]);obtain⟨_,eQ⟩:=dO.has (ps:=["self"]);obtain⟨_,u⟩:=dZ;have eR:Cl K mg "Endless" "Endless.__init__" "bits" Xy CE m _:=⟨⟨dQ,dR,dS,dT⟩,⟨dU,dV,dW,dX⟩,zau X G dP,dY,u,u.binds (ps:=["self","bits"]) λ_ _ _ _ _ _ r c=>by obtain⟨_,_,rfl⟩:=kj c;rfl,d0,d1⟩;obtain⟨_,u⟩:=d2.has (ps:=["self"]);obtain⟨_,eS⟩:=d3.has (ps:=["self","other"]);obtain⟨_,eT⟩:=d4.has (ps:=["self"]);have B:Qo mg:=⟨t9 X G d5,t9 X G d6,t9 X G d7,t9 X G d8,t9 X G d9⟩;have Gk:j3 mg:=⟨t9 X G ed,t9 X G ee,t9 X G ef,t9 X G eg,t9 X G eh⟩;have eU:Qb K mg:=⟨t9 X G aw,t9 X G d',t9 X G ea,t9 X G eb,t9 X G ec,⟨_,zau X G m1⟩,⟨_,zau X G m2⟩,⟨_,zau X G m3⟩,⟨_,zau X G m4⟩,kss,ktt,kll⟩;have Nn:ML K mg:=⟨⟨_,au.has X G⟩,⟨_,ch.has X G⟩,⟨_,ci.has X G⟩,⟨_,cj.has X G⟩,⟨_,ck.has X G⟩,⟨_,cl.has X G⟩,⟨_,cm.has X G⟩⟩;have M:GM K mg b:=⟨⟨_,_,eK⟩,⟨_,_,eL⟩,⟨_,_,eM⟩,⟨_,au.has X G⟩⟩;have b:=zc (st:=Jc) el en eo;have eV:qH K mg "winner_by" Jc p3 x _:=⟨b,zau X G ek,b.binds (ps:=p3) λ_ _ _ _ _ _ r c=>by obtain⟨_,_,_,rfl⟩:=Mb c;rfl⟩;have b:=zc (st:=Qg) es et eu;have x:qH K mg "player" Qg ["ground"] y _:=⟨b,zau X G er,b.binds (ps:=["ground"]) λ_ _ _ _ _ _ r c=>by obtain⟨_,rfl⟩:=kl c;rfl⟩;have b:=zc (st:=Yf) ey ez eA;have y:qH K mg "_law_opponent" Yf NH C _:=⟨b,zau X G ex,b.binds (ps:=NH) λ_ _ _ _ _ _ r c=>by obtain⟨_,_,rfl⟩:=kj c;rfl⟩;have Y:MM K mg:=⟨⟨_,co.has X G⟩,⟨_,av.has X G⟩,⟨_,cp.has X G⟩,⟨_,cq.has X G⟩,⟨_,cr.has X G⟩,⟨_,cs.has X G⟩,⟨_,ct.has X G⟩,⟨_,cu.has X G⟩⟩;have r:Wk K mg:=⟨t9 X G aw,t9 X G ei,kii,kib,⟨_,zau X G m5⟩,⟨_,zau X G m6⟩⟩;let wf:WF K mg:=⟨CN,CE,j,m,af,ai,ag,aj,ah,ak,U,aa,ab,ac,ae,T,_,_,_,_,_,_,_,_,_,_,_,_,_,_,ne,eN,eR,eO,u,eP,eS,eQ,eT,eE,eF,eG,eH,eI,eD⟩;have O:wU K mg:=⟨⟨_,cB.has X G⟩,⟨_,cC.has X G⟩,⟨_,cD.has X G⟩,⟨_,cA.has X G⟩,⟨_,cE.has X G⟩,⟨_,zau X G m7⟩⟩;have j:Ru K mg:=⟨⟨_,cF.has X G⟩,⟨_,cG.has X G⟩,⟨_,cH.has X G⟩,⟨_,cI.has X G⟩⟩;have m:CJ K mg:=⟨⟨_,c4.has X G⟩,⟨_,c5.has X G⟩,⟨_,c6.has X G⟩,⟨_,c7.has X G⟩,⟨_,c8.has X G⟩,⟨_,c9.has X G⟩⟩;have u:∃a,mg "DRAWN"=some (.ref a)/\∃(b:Obj) (c:Array Value) (n:Nat),K.lookup a=some b/\b.cls=.type "tuple"/\b.data=.seq c n/\c.size<=zdZ/\qI (zO none) c.toList:=⟨J,zau X G md,_,#[.str "drawn" t5,.none],_,eC,rfl,rfl,(Ze),.cons ⟨_,rfl⟩ (.cons rfl .nil)⟩;have c:EN K mg:=⟨⟨_,cJ.has X G⟩,⟨_,cK.has X G⟩,⟨_,cL.has X G⟩,⟨_,cM.has X G⟩,⟨_,cN.has X G⟩,⟨_,cO.has X G⟩,⟨_,cP.has X G⟩,⟨_,cQ.has X G⟩,⟨_,cR.has X G⟩,⟨_,cS.has X G⟩,⟨_,cT.has X G⟩,⟨_,cU.has X G⟩,⟨_,cV.has X G⟩,⟨_,cW.has X G⟩,⟨_,cX.has X G⟩,⟨_,cY.has X G⟩,⟨_,cZ.has X G⟩,⟨_,c0.has X G⟩,⟨_,c1.has X G⟩,⟨_,c2.has X G⟩,⟨_,c3.has X G⟩,u⟩;have L:EQ K mg:=⟨⟨_,lO.has X G⟩,⟨_,lL.has X G⟩,⟨_,lT.has X G⟩,⟨_,lN.has X G⟩,⟨_,lD.has X G⟩,⟨_,lR.has X G⟩,⟨_,cn.has X G⟩,⟨_,c'.has X G⟩,⟨_,da.has X G⟩,⟨_,db.has X G⟩,⟨_,dc.has X G⟩⟩;refine⟨[⟨"winner_by",o,d,YK⟩,⟨"player",p,g,J8⟩,⟨"_law_opponent",q,i,YL⟩],zaH "law" "law" (jL Vz) (qX Vz) (qc Vz) .none am an ao al D ap,?_,λt o=>?_,λs v=>.of_eq rfl,λbase _ _ b=>?_⟩
 ·refine zaa.mpr ⟨λz=>?_,zaa.mpr ⟨λz=>n3 (tQ.mp z),zaa.mpr ⟨zdg,zaY⟩⟩⟩;rcases tI.mp z with e | e
  ·exact n1 e
  ·exact n2 (tQ.mp e)
 ·rcases tI.mp o with e | e
  ·rw[e];exact⟨tL ej,ep⟩
  rcases tI.mp e with e | e
  ·rw[e];exact⟨tL eq,ev⟩
  ·rw[tQ.mp e];exact⟨tL ew,eB⟩
 ·exact(BR (PT:=d) (PP:=g) (PO:=i) eJ eV rfl (b _ tE) x rfl (b _ (tA _ tE)) y rfl (b _ (tA _ (tA _ tE))) wf B r Gk eU Nn M Y O j m c L).imp λ_ H Q E z=>let ⟨a,c,e,d,g,b,i⟩:=z;⟨a,c,e,d,g,b _ tE,b _ (tA _ tE),b _ (tA _ (tA _ tE)),i⟩
def walk{l:PySem.W.OpenLaw}{b:World->Heap->Prop}{d:DefRec}{K:Params->zdU}{c:List Addr}(g:l.most=some 63)(i:d.params.defaults=[])(j:∀(w:World) (h:Heap),b w h->(K w.params).In h)(m:∀(w:World) (h:Heap),b w h->∀P∈c,h.get? P=some (zbr #[]))(o:∀w:World,zdx (K w.params)=true) (F:∀(w:World) (mg:Str->Option Value) (fa:Addr) (h:Heap),(K w.params).In h->h.Ns mainGlobals mg->mg d.name=some (.ref fa)->
   ∃(tabs:List Tab) (e:zdY),(tabs.map (·.P)).Nodup/\(∀t∈tabs,t.P∈c/\zbs (K w.params) t.c t.P=true)/\(∀(s:Shared) (v:Value),BindsTo s e ⟨[v],[]⟩ [("_law_script",v)])/\∀base:Heap,(K w.params).In base->base.Ns mainGlobals mg->(∀t∈tabs,Yw mg base t.c t.P)->qp l.prog w (K w.params) mg base qN 18 fa e ["_law_script"] (vO (K w.params) tabs)):
  PySem.W.WalkO q p r b l.row.toRowW d [] (λf vs=>PySem.call f vs):=
 L2.walk_ofT (n:=63) (k:=18) (x:="_law_script") (sp:=λK tabs=>vO K tabs) g (by decide) i ⟨rfl,by decide,by decide,rfl⟩ j m o F (λ_ _ _ a b c e g=>⟨a,b,rfl,e,c,g,λ_=>rfl⟩)
end Rh
open PySem PySem.W
open PyProof.Rows hiding K lo
namespace PySem.W.Fast
def tw13084449416583773190:=()
def tw8015938337994709721:=()
def tw861502493610598483:=()
def tw7926312261625145857:=()
def tw17755456524704518848:=()
def tw329941283463616030:=()
def tw6830661539357928910:=()
def tw7774113678449685934:=()
def tw10325601046913268018:=()
def tw3383372514294647766:=()
def tw5771433454967703170:=()
def tw280917380089993231:=()
def tw9325782499559507614:=()
def tw17322059916419148152:=()
def tw2849704279308238487:=()
def tw10834659324959297461:=()
def tw5472014076119043557:=()
def tw12592172766608505503:=()
def tw3239726496819932882:=()
def tw908480701973217441:=()
def tw5188249020564956088:=()
def tw1968430746851473036:=()
def tw13366278800048369731:=()
def tw2992238238014362344:=()
def tw12550775161083096063:=()
def tw6474689817104897974:=()
def tw5486008376365147428:=()
def tw4120328187809186673:=()
def tw1378205811072252300:=()
def tw6594970650091316094:=()
def tw6216382948874008006:=()
def tw1607123104830579860:=()
def tw14746253646979254834:=()
def tw6128145076113358165:=()
def tw15163409612377130007:=()
def tw11063759124802658401:=()
def tw4605971472053405522:=()
def tw4493901809537577575:=()
def tw10345878139772363575:=()
def tw206757683497733573:=()
def tw10089430224358428292:=()
def tw1532491051758110099:=()
def tw10988764466652934233:=()
def tw9215358943560890414:=()
def tw14135006944967825841:=()
def tw18384110700954362821:=()
def tw6714880395473160397:=()
def tw8742817616077272606:=()
def tw14785633479632635281:=()
def tw17318462890700432884:=()
def tw1435854016186708032:=()
def tw1883925188791702583:=()
def tw8274446707539698164:=()
def tw5832146486336120021:=()
def tw4684226298888400098:=()
def tw10470340158578859262:=()
def tw6508132753307246276:=()
def tw786537726763496527:=()
def tw2527701527901579348:=()
def tw2956708394376553000:=()
def tw12369848792361866835:=()
def tw8997383693586321770:=()
def tw4341293187932698999:=()
def tw14334995849660946996:=()
def tw6125853113672642322:=()
def tw13465540834166320765:=()
def tw7873786274422454737:=()
def tw3300257896294614128:=()
def tw17163426234232328066:=()
def tw7053471978191194526:=()
def tw6703304554741867743:=()
def tw6822071536725586909:=()
def tw5634867526602368427:=()
def tw12826555694032677247:=()
def tw12003660372656728261:=()
def tw9969077435446430640:=()
def tw8115137120850386438:=()
def tw8428246938381088814:=()
def tw14617222483516278133:=()
def tw5994696166404524948:=()
def tw16101134707931498060:=()
def tw1891733041441978011:=()
def tw17292613610259460706:=()
def tw12715800853834201459:=()
def tw7046044490832178742:=()
def tw12330612334027959195:=()
def tw10879749546641988924:=()
def tw4565167180653195659:=()
def tw4859391219904099992:=()
def tw3676754643040562684:=()
def tw10149570385669482864:=()
def tw12461081396071149458:=()
def tw11308061921803828041:=()
def tw17916429707943930468:=()
def tw12770481643036789091:=()
def tw8285278889055680438:=()
def tw4290864757253303354:=()
def tw3233987462203235646:=()
def tw14398111036562950334:=()
def tw9113380124883318265:=()
def tw8919978131948313185:=()
def tw13769103115541136327:=()
def tw5610444585433571239:=()
def tw13367274342830030513:=()
def tw14520296925931582552:=()
def tw17678831435119133177:=()
def tw694261584828832409:=()
def tw11692469974320434101:=()
def tw7050804516273991350:=()
def tw10295913840692754127:=()
def tw9461873434466728008:=()
def tw3075201292733833056:=()
def tw6880980288501444468:=()
def tw15763482434359817770:=()
def tw7592715696027808041:=()
def tw14537775516033599862:=()
def tw11373181179767321252:=()
def tw5010956058597451964:=()
def tw14441679199631801671:=()
def tw15495752065017430504:=()
def tw9104974531708491489:=()
def tw4096438862311573950:=()
def tw14391293386007564604:=()
def tw9768418358887946270:=()
def tw8318101203651539667:=()
def tw17986951261819808105:=()
def tw12125097214300078407:=()
def tw6060609690816243450:=()
def tw4015202173357781934:=()
def tw1956775160557780875:=()
def tw14849461344987154502:=()
def tw12020253756985099128:=()
def tw539538531456391632:=()
def tw10911716485165742097:=()
def tw3953844824629472508:=()
def tw9530734954097333506:=()
def tw5522115075389312692:=()
def tw16409965706819354750:=()
def tw17937168697417666835:=()
def tw8171798328758944481:=()
def tw8737599933303070863:=()
def tw9399754086935153974:=()
def tw1630143524128594353:=()
def tw12147665669636231765:=()
def tw1599053048872161195:=()
def tw727553628536289456:=()
def tw16309811473084048462:=()
def tw15433366417846715934:=()
def tw11033627544408312984:=()
def tw384561282630992784:=()
def tw11502921971960690029:=()
def tw18310463660012746435:=()
def tw10826640976665885199:=()
def tw14859695947638507448:=()
def tw17590876675597686902:=()
def tw866652123128751154:=()
def tw9387514328989991554:=()
def tw3671519592330383864:=()
def tw12954591660760965231:=()
def tw506581581156960101:=()
def tw11205608169257636508:=()
def tw6124413428159637790:=()
def tw772564365185477556:=()
def tw17963105932079019327:=()
def tw3641951560692057861:=()
def tw2399617604181995578:=()
def tw8752102160057688731:=()
def tw2925816871977632210:=()
def tw4512776594637900181:=()
def tw10576836333797772347:=()
def tw14424681132571578402:=()
def tw8222940686941784037:=()
def tw5233118043267047457:=()
def tw7538781388859322016:=()
def tw11468729153070441980:=()
def tw6248682570935725439:=()
def tw17659185236578331656:=()
def tw14219159868682941630:=()
def tw15499940227032437249:=()
def tw16864618592142003386:=()
def tw13348088958985639553:=()
def tw16005714805435085966:=()
def tw8535803893964050539:=()
def tw354308444213283272:=()
def tw9304451534382375720:=()
def tw5289818103960998278:=()
def tw8432719020341155521:=()
def tw11481637867367846703:=()
def tw2244103112122482387:=()
def tw9433028549170029634:=()
def tw14904681115217272601:=()
def tw16654469307462801742:=()
def tw4884199854448574:=()
def tw5622701340561072331:=()
def tw2424988045566436242:=()
def tw12798174099139212305:=()
def tw9630203353718772412:=()
def tw2046362190076281809:=()
def tw15142666989864626641:=()
def tw18094105663378112561:=()
def tw258204147387103276:=()
def tw14036186469904095446:=()
def tw16493865465440409018:=()
def tw7476452910721959123:=()
def tw12488014758255163090:=()
def tw9317495090193701157:=()
def tw6472337539984862722:=()
def tw3110587219445414310:=()
def tw9757595895972200118:=()
def tw13813618637161013713:=()
def tw5037459499596335280:=()
def tw14842496431369740429:=()
def tw12652081859355081885:=()
def tw12669407529647801677:=()
def tw14935156969734317764:=()
def tw14611616552423853409:=()
def tw15528221797031607849:=()
def tw12138319994727072339:=()
def tw622995879521568732:=()
def tw17016834523296244275:=()
def tw15565715512253457277:=()
def tw463774138113389760:=()
def tw1342123614928995077:=()
def tw6420159726195949164:=()
def tw890339118813698166:=()
def tw1915925776726481438:=()
def tw13303234937177203706:=()
def tw5217270863462422736:=()
def tw17823556299335049440:=()
def tw12438396322939230373:=()
def tw4683681711962371626:=()
def tw4189273013823423559:=()
end PySem.W.Fast
set_option maxHeartbeats 0
open_top hd for PySem.Challenge.rw_ringheaps_k96_whole_plays_of_players
set_option maxRecDepth 100000 in
set_option maxHeartbeats 0 in
theorem PySem.Challenge.cw_ringheaps_k96_whole_plays_of_players_holds : PySem.Challenge.rw_ringheaps_k96_whole_plays_of_players.Holds := by
 refine hd ?_
 k_fill
 refine Rh.walk (l:=PySem.Challenge.rw_ringheaps_k96_whole_plays_of_players) rfl rfl (λw h Y=>PySem.W.km_in_of Y) (λw h Y=>PySem.W.km_tabs_of Y) ?hnt ?F
 case hnt=>exact λw=>by kernel_rfl
 case F=>
   intro w mg fa h KX G hH
   refine' Rh.all_mk KX G hH ..
   any_goals first | exact Rh.at0 | exact Rh.at1 | exact Rh.at2 | (apply Rh.HF.mk'<;>k_is) | (apply Rh.MF.mk'<;>k_is) | (apply Rh.QF.mk'<;>k_is) | k_is | kernel_rfl | rfl | decide
