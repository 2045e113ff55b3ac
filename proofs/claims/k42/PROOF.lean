import PyProof.Rows.All
import Wide.All
import OpenK.AllK
import Wide.FinOn
import Lean
import PyProof.EqAt
import PyProof.EqKinds
import PyProof.TupleCall
import PySem.Challenge.RW_ringheaps_k42_labels_that_show_themselve
set_option Elab.async false
set_option linter.all false
set_option maxRecDepth 100000
open Array renaming length_toList → zag, getElem?_eq_getElem → zbE, getElem?_eq_some_iff → zck, getElem?_eq_none → zcE, toList_append → zdd
open Bool renaming false_ne_true → tI, and_eq_true → zam, eq_iff_iff → zaz, false_eq_true → zaA, or_eq_true → zcK, false_and → zcT, true_and → zde
open Int renaming toNat_natCast → zad, toNat_of_nonneg → zbc, emod_lt_of_pos → zbi, emod_nonneg → zbs, fdiv_eq_ediv_of_nonneg → zbv, zero_add → zbC, natCast_nonneg → zch, eq_ofNat_of_zero_le → zcA, one_mul → zdb
open List renaming length_map → tj, getElem?_eq_some_iff → tw, getElem?_eq_getElem → tz, mem_map → tE, take_of_length_le → tF, getElem?_map → tH, map_append → tL, mem_cons_of_mem → tN, map_cons → tP, take_add_one → tQ, mem_cons → tR, mem_cons_self → tS, length_take → tT, range → tU, size_toArray → tW, length_append → tX, mem_of_getElem? → tY, mem_append → tZ, length_cons → zac, nodup_cons → zaf, length_range → zai, mem_append_right → zak, mem_filterMap → zal, getD_eq_getElem?_getD → zap, filterMap_cons → zar, length_filterMap_le → zas, all_eq_true → zav, mem_filter → zaw, length → zax, map_map → zaB, lookup_cons → zaC, mem_singleton → zaE, mem_nil_iff → zaF, length_singleton → zaG, getElem?_append_right → zaH, filter_cons → zaK, toArray → zaL, any_eq_true → zaO, mem_range → zaP, pairwise_iff_getElem → zaS, length_filter_le → zaT, getElem?_eq_none → zaU, filterMap_append → zaV, sum_cons → zaW, append_nil → zaZ, find?_cons → zba, map_congr_left → zbb, lookup → zbe, exists_cons_of_ne_nil → zbh, getElem?_append_left → zbk, mem_of_find?_eq_some → zbl, getElem?_range → zbm, nodup_nil → zbn, eq_nil_of_length_eq_zero → zbo, all_map → zbq, any_cons → zbt, mem_erase_of_ne → zby, length_reverse → zbF, getElem?_take_of_lt → zbG, length_erase_of_mem → zbI, filter_append → zbL, filter_eq_nil_iff → zbR, length_pos_of_mem → zbS, findIdx_lt_length_of_exists → zbT, nodup_range → zbV, getElem_mem → zbW, Pairwise → zbX, mem_append_left → zbY, getElem?_of_mem → zbZ, mem_of_mem_take → zca, range_succ → zcb, filter_sublist → zcd, map_nil → zce, pairwise_cons → zcl, getElem?_eq_none_iff → zcm, drop_eq_getElem_cons → zcn, ext_getElem? → zcq, append_assoc → zcs, nodup_append → zct, all_cons → zcu, pairwise_singleton → zcy, mem_reverse → zcz, getElem?_set_self → zcB, range_succ_eq_map → zcD, of_mem_zip → zcI, length_nil → zcJ, sum_append → zcL, all_append → zcM, length_replicate → zcO, pairwise_reverse → zcQ, getElem?_set_ne → zcS, replicate → zcV, drop_zero → zcW, pairwise_append → zda, findIdx_append → zdc, map_filterMap → zdf, take_sublist → zdh, reverse_cons → zdi, any_map → zdj, pairwise_map → zdk, filter_congr → zdl, range' → zdo
open Nat renaming le_refl → tu, ne_of_lt → tM, lt_of_lt_of_le → tO, le_trans → tV, le_of_lt → zab, zero_le → zah, lt_irrefl → zay, lt_of_le_of_lt → zaD, lt_succ_self → zaI, not_lt_zero → zbr, lt_succ_of_lt → zbu, ne_of_gt → zbz, lt_or_ge → zbD, lt_of_succ_lt → zbU, lt_trans → zcf, lt_trichotomy → zcr, succ → zcx, sub_self → zcF, le_of_ble_eq_true → zcR, le_succ → zcU, eq_of_testBit_eq → zcZ
open Option renaming some → tK, isSome_iff_exists → zaN, isSome_map → zaR, map_eq_some_iff → zbp, map_some → zbJ, getD_none → zdn
open PySem.F renaming plainAttrs_list → zaq, slot_list_append → zat, type_list_append → zau, slot_NoneType_hash → zbg, sub_str_dict → zbx, args_tuple_add_2 → zbH, entry_tuple_add → zbM, slot_tuple_add → zbQ, slot_str_eq_refl → zcv, slot_str_ne_refl → zcw, slot_dict_pop → zcP, slot_dict_eq → zcX, slot_dict_ne → zcY
open PySem.Heap renaming get?_push_of_some → tq, lt_size → tG, get?_push_size → tJ, get?_update_other → zaJ, size_push → zaX, get?_update_self → zbj, SameBut → zcg
open PySem.W renaming mg_none_of → zaa, nsIn → zae, kia_one → zaj, findIn → zan, kitOne → zao, emptyDict → zaM, keepIn → zaQ, instObj → zaY, fnOf → zbd, mg_of → zbf, codeIn → zbw, plainGet → zbA, isFn → zbB, kitx_tuple → zbK, hasDictIn → zbN, kitx_list → zbO, kitx_dict → zbP, plainGet_of → zcc, lookIn → zci, callWith_K → zcj, methodObj → zco, plainOver → zcp, cellsFrom_some → zcC, takerIn → zcG, makesIn → zcH, methodCall_KW → zcN, specialIn → zdg, handedIn → zdm, keq_eq → zdp
namespace L2
open PySem PySem.Spec PyProof.Rows
abbrev qI:=Sum Int Str
def J1:qI->Value->Bool
 | .inl k,v=>Value.isInt k v
 | .inr x,v=>Value.isStrOf x v
def qaD (w:World):qI->Int
 | .inl k=>hashInt k
 | .inr x=>hashStr w x
theorem jf:∀{k:qI} {v:Value},J1 k v=true->(∃i t,k=Sum.inl i/\v=Value.int i t)\/(∃x t,k=Sum.inr x/\v=Value.str x t)
 | .inl i,v,h=>by
   obtain⟨t,e⟩:=Value.isInt_shape (k:=i) (v:=v) h
   exact .inl ⟨i,t,rfl,e⟩
 | .inr x,v,h=>by
   obtain⟨t,e⟩:=Value.isStrOf_shape (x:=x) (v:=v) h
   exact .inr ⟨x,t,rfl,e⟩
theorem kB (i:Int) (t:Tok):J1 (.inl i) (.int i t)=true:=by simp [J1,Value.isInt]
theorem kA (x:Str) (t:Tok):J1 (.inr x) (.str x t)=true:=by simp [J1,Value.isStrOf]
theorem RP (a b:Int):decide ((Sum.inl a:qI)=Sum.inl b)=(a==b):=by
 by_cases e:a=b
 . subst e;simp
 . have h:¬(Sum.inl a:qI)=Sum.inl b:=λq=>e (Sum.inl.inj q)
   rw[decide_eq_false h]
   exact(beq_eq_false_iff_ne.mpr e).symm
theorem RM (a b:Str):decide ((Sum.inr a:qI)=Sum.inr b)=decide (a=b):=by
 by_cases e:a=b
 . subst e;simp
 . have h:¬(Sum.inr a:qI)=Sum.inr b:=λq=>e (Sum.inr.inj q)
   rw[decide_eq_false h,decide_eq_false e]
theorem RO (a:Int) (b:Str):decide ((Sum.inl a:qI)=Sum.inr b)=false:=decide_eq_false (λq=>nomatch q)
theorem RN (a:Str) (b:Int):decide ((Sum.inr a:qI)=Sum.inl b)=false:=decide_eq_false (λq=>nomatch q)
def qQ (prog:Program) (w:World):PySem.KeyKind prog w qI where
 is:=J1
 hash:=qaD w
 inj:=λv a b ha hb=>by
   rcases jf ha with ⟨i,t,rfl,rfl⟩ | ⟨x,t,rfl,rfl⟩
   . rcases jf hb with ⟨j,u,rfl,e⟩ | ⟨y,u,rfl,e⟩
     . injection e with e1 _;rw[e1]
     . exact nomatch e
   . rcases jf hb with ⟨j,u,rfl,e⟩ | ⟨y,u,rfl,e⟩
     . exact nomatch e
     . injection e with e1 _;rw[e1]
 byValue:=λk v h=>by
   rcases jf h with ⟨i,t,rfl,rfl⟩ | ⟨x,t,rfl,rfl⟩<;>rfl
 pyHash:=λhv h=>by
   rcases jf hv with ⟨i,t,rfl,rfl⟩ | ⟨x,t,rfl,rfl⟩
   . exact wpAny_pyHash_int h
   . exact wpAny_pyHash_str h
 eqBool:=λhu hv h=>by
   rcases jf hu with ⟨i,t,rfl,rfl⟩ | ⟨x,t,rfl,rfl⟩
   . rcases jf hv with ⟨j,u,rfl,rfl⟩ | ⟨y,u,rfl,rfl⟩
     . rw[RP]at h;exact wpAny_eqBool_int h
     . rw[RO]at h;exact SeqAt.EqAt.int_str i t y u _ _ _ _ h
   . rcases jf hv with ⟨j,u,rfl,rfl⟩ | ⟨y,u,rfl,rfl⟩
     . rw[RN]at h;exact SeqAt.EqAt.str_int x t j u _ _ _ _ h
     . rw[RM]at h;exact wpAny_eqBool_str h
 «strs»:=λk x t v h=>by
   rcases jf h with ⟨i,u,rfl,e⟩ | ⟨y,u,rfl,e⟩
   . exact nomatch e
   . injection e with e1 _
     subst e1
     cases v<;>rfl
theorem W9 (prog:Program) (w:World) (i:Int) (t:Tok):(qQ prog w).is (.inl i) (.int i t)=true:=kB i t
theorem W8 (prog:Program) (w:World) (x:Str) (t:Tok):(qQ prog w).is (.inr x) (.str x t)=true:=kA x t
inductive V where
 | non | bl (b:Bool) | int (i:Int) | str (x:Str) | byt (b:Array UInt8) | flt (b:UInt64) | ref (a:Addr) | ty (n:String)
 deriving DecidableEq
def qX:V->Value->Prop
 | .non,u=>u=Value.none
 | .bl b,u=>u=Value.bool b
 | .int i,u=>∃t,u=Value.int i t
 | .str x,u=>∃t,u=Value.str x t
 | .byt b,u=>∃t,u=Value.bytes b t
 | .flt b,u=>∃t,u=Value.float b t
 | .ref a,u=>u=Value.ref a
 | .ty n,u=>u=Value.type n
abbrev qP:List V->List Value->Prop:=Paired qX
theorem qP.length {xs:List V} {us:List Value} (r:qP xs us):xs.length=us.length:=Paired.length r
theorem qP.get:∀{xs:List V} {us:List Value} {i:Nat} {x:V},qP xs us->xs[i]?=some x->∃u,us[i]?=some u/\qX x u
 | _,_,_,_,.nil,e=>by simp at e
 | _,_,0,_,.cons r _,e=>by simp at e;subst e;exact⟨_,rfl,r⟩
 | _,_,i+1,x,.cons _ t,e=>by
   obtain⟨u,h1,h2⟩:=qP.get (i:=i) (x:=x) t (by simpa using e)
   exact⟨u,by simpa using h1,h2⟩
theorem qP.append:∀{xs ys:List V} {us ws:List Value},qP xs us->qP ys ws->qP (xs++ys) (us++ws)
 | _,_,_,_,.nil,s=>s
 | _,_,_,_,.cons r t,s=>.cons r (qP.append t s)
theorem qP.take:∀{xs:List V} {us:List Value} (n:Nat),qP xs us->qP (xs.take n) (us.take n)
 | _,_,0,_=>.nil
 | _,_,_+1,.nil=>.nil
 | _,_,n+1,.cons r t=>.cons r (qP.take n t)
theorem qP.drop:∀{xs:List V} {us:List Value} (n:Nat),qP xs us->qP (xs.drop n) (us.drop n)
 | _,_,0,r=>r
 | _,_,_+1,.nil=>.nil
 | _,_,n+1,.cons _ t=>qP.drop n t
theorem qP.none_of:∀{xs:List V} {us:List Value} {i:Nat},qP xs us->xs[i]?=none->us[i]?=none:=λ{xs us i} r e=>by
 have h1:=r.length
 have h2:xs.length<=i:=zcm.mp e
 exact zcm.mpr (by omega)
def J5:Option V->Option Value->Prop
 | some v,some u=>qX v u
 | none,none=>True
 | _,_=>False
def KV {κ:Type}:List (κ×V)->List (κ×Value)->Prop:=Paired λ(p:κ×V) (q:κ×Value)=>p.1=q.1/\qX p.2 q.2
def kV:qI->V
 | .inl i=>.int i
 | .inr x=>.str x
inductive HO where
 | lst (xs:List V)
 | tup (xs:List V)
 | dK (kvs:List (qI×V)) | dT (kvs:List (List qI×V))
 | set (S:Int->Bool) (n:Nat)
 | ins (C dx:Addr) (fs:List (Str×V))
 | own (x:Addr)
 | xd (fs:List (Str×V))
 | met (f x:Addr)
 | rng (lo hi:Int)
 | frz (o:Obj) (u:HO)
 | tbl (ps:Array Value)
 | ext (φ:Heap->Prop)
abbrev Hp:=Addr->Option HO
def upd (H:Hp) (a:Addr) (o:HO):Hp:=λb=>if b=a then some o else H b
theorem qe {H:Hp} {a:Addr} {o:HO}:upd H a o a=some o:=by unfold upd;rw[if_pos rfl]
theorem qi {H:Hp} {a b:Addr} {o:HO} (h:b≠a):upd H a o b=H b:=by unfold upd;rw[if_neg h]
theorem jV {H:Hp} {a:Addr} {o u:HO}:upd (upd H a o) a u=upd H a u:=by
 funext b;unfold upd;split<;>rfl
theorem N9 {H:Hp} {a b:Addr} {o u:HO} (h:H a=some o) (h':H b=some u) (d:o≠u):a≠b:=by
 intro e;subst e;rw[h]at h';exact d (tK.inj h')
theorem qE {H:Hp} {a b:Addr} {o:HO} (h:H a=some o) (h':H b=none):a≠b:=by
 intro e;subst e;rw[h]at h';cases h'
def qaV (ps:Array Value) (oc:Obj):Prop:=∃(q:Str) (t:Tok) (vs:Array Value) (t':Tok),ps[0]?=some (.str q t)/\oc.data=.fields vs/\vs[1]?=some (.str q t')
section
variable (P:Program) (w:World)
def jd (H:Hp) (h:Heap) (a:Addr):HO->Prop
 | .lst xs=>xs.length<=sizeLine/\∃(its:List Value) (n:Nat),qP xs its/\h.get? a=some {cls:=.type "list",data:=.seq its.toArray n}
 | .tup xs=>xs.length<=sizeLine/\∃its:List Value,qP xs its/\IsTup h a its.toArray
 | .dK kvs=>kvs.length<=sizeLine/\(a==sysModules)=false/\∃vs,KV kvs vs/\h.DictOf (qQ P w) a vs
 | .dT kvs=>kvs.length<=sizeLine/\(a==sysModules)=false/\∃xs:List (List qI×Addr×Value),
     Paired (λ(p:List qI×V) (q:List qI×Addr×Value)=>p.1=q.1/\H q.2.1=some (.tup (p.1.map kV))/\qX p.2 q.2.2) kvs xs/\
     ∃o es ep,h.get? a=some o/\o.ExactDict/\o.data=.dict es ep/\es.toList=xs.map (entryOfKey (tupleKind (qQ P w)))/\(xs.map (·.1)).Nodup
 | .set S n=>h.SetOf (intKind P w) a S n
 | .ins C dx fs=>H dx=some (.own a)/\fs.length<=1000/\dx≠a/\h.get? a=some (zaY C dx)/\
     ∃mA,h.Ns1 dx mA/\(∀f,J5 (fs.lookup f) (mA f))/\PySem.Within mA (fs.map (·.1))
 | .own _=>∃o,h.get? a=some o
 | .xd fs=>∃mA,h.Ns1 a mA/\∀f,J5 (fs.lookup f) (mA f)
 | .rng lo hi=>∃t u v,h.get? a=some {cls:=.type "range",data:=.fields #[.int lo t,.int hi u,.int 1 v]}
 | .frz o u=>h.get? a=some o/\jd H h a u
 | .tbl ps=>∃ts:Array Value,h.get? a=some {cls:=.none,data:=.fields ts}/\TriplesOk ts.toList/\∀pos cv,codeAmong pos ts.toList=some cv->∃c oc,cv=.ref c/\H c=some (.frz oc (.own a))/\qaV ps oc
 | .met f x=>h.get? a=some (zco (.ref f) (.ref x))
 | .ext φ=>φ h/\(∃o,h.get? a=some o)/\∀h1 h2:Heap,φ h1->(∀o,h1.get? a=some o->h2.get? a=some o)->φ h2
def JU (H:Hp) (h:Heap):Prop:=∀a o,H a=some o->jd P w H h a o
end
section
variable {P:Program} {w:World} {H H':Hp} {h h':Heap} {a:Addr} {o:HO}
theorem jd.lt (x:jd P w H h a o):a < h.objs.size:=by
 cases o with
 | lst xs=>obtain⟨_,_,_,_,e⟩:=x;exact tG e
 | tup xs=>obtain⟨_,_,_,p⟩:=x;exact p.lt
 | dK kvs=>obtain⟨_,_,_,_,o,_,_,e,_⟩:=x;exact tG e
 | dT kvs=>obtain⟨_,_,_,_,o,_,_,e,_⟩:=x;exact tG e
 | set S n=>obtain⟨o,_,_,_,e,_⟩:=x;exact tG e
 | ins C dx fs=>obtain⟨_,_,_,e,_⟩:=x;exact tG e
 | own y=>obtain⟨_,e⟩:=x;exact tG e
 | xd fs=>obtain⟨_,⟨_,_,_,e,_⟩,_⟩:=x;exact tG e
 | rng lo hi=>obtain⟨_,_,_,e⟩:=x;exact tG e
 | frz ob u=>obtain⟨e,_⟩:=x;exact tG e
 | tbl ps=>obtain⟨_,e,_⟩:=x;exact tG e
 | met f y=>exact tG (show h.get? a=some _ from x)
 | ext φ=>obtain⟨_,⟨_,e⟩,_⟩:=x;exact tG e
theorem Paired.mapP {α β:Type} {F G:α->β->Prop}:∀{l₁:List α} {l₂:List β},Paired F l₁ l₂->(∀a b,F a b->G a b)->Paired G l₁ l₂
 | _,_,.nil,_=>.nil
 | _,_,.cons r t,f=>.cons (f _ _ r) (Paired.mapP t f)
theorem jd.stay (x:jd P w H h a o) (k:∀b u,(b=a\/H b=some (.own a))->h.get? b=some u->h'.get? b=some u)
   (ho:∀b,H b=some (.own a)->H' b=some (.own a)) (ht:∀b xs,H b=some (.tup xs)->H' b=some (.tup xs)) (hf:∀b o,H b=some (.frz o (.own a))->H' b=some (.frz o (.own a)):=by exact λ_ _ q=>q):jd P w H' h' a o:=by
 induction o with
 | lst xs=>obtain⟨z,its,n,r,e⟩:=x;exact⟨z,its,n,r,k _ _ (.inl rfl) e⟩
 | tup xs=>obtain⟨z,its,r,ob,e,c⟩:=x;exact⟨z,its,r,ob,k _ _ (.inl rfl) e,c⟩
 | dK kvs=>obtain⟨z,y,vs,r,ob,es,ep,e,c⟩:=x;exact⟨z,y,vs,r,ob,es,ep,k _ _ (.inl rfl) e,c⟩
 | dT kvs=>
   obtain⟨z,y,xs,r,ob,es,ep,e,c⟩:=x
   exact⟨z,y,xs,Paired.mapP r λp q z=>⟨z.1,ht _ _ z.2.1,z.2.2⟩,ob,es,ep,k _ _ (.inl rfl) e,c⟩
 | set S n=>obtain⟨ob,es,ep,t,e,c⟩:=x;exact⟨ob,es,ep,t,k _ _ (.inl rfl) e,c⟩
 | ins C dx fs=>
   obtain⟨d,z,ne,e,mA,⟨od,es,ep,e2,c⟩,r⟩:=x
   exact⟨ho _ d,z,ne,k _ _ (.inl rfl) e,mA,⟨od,es,ep,k _ _ (.inr d) e2,c⟩,r⟩
 | own y=>obtain⟨ob,e⟩:=x;exact⟨ob,k _ _ (.inl rfl) e⟩
 | xd fs=>obtain⟨mA,⟨od,es,ep,e,c⟩,r⟩:=x;exact⟨mA,⟨od,es,ep,k _ _ (.inl rfl) e,c⟩,r⟩
 | rng lo hi=>obtain⟨t,u,v,e⟩:=x;exact⟨t,u,v,k _ _ (.inl rfl) e⟩
 | frz ob u ih=>obtain⟨e,q⟩:=x;exact⟨k _ _ (.inl rfl) e,ih q⟩
 | tbl ps=>
   obtain⟨ts,e,tr,cs⟩:=x
   exact⟨ts,k a _ (.inl rfl) e,tr,λpos cv q=>let ⟨c,oc,e1,e2,e3⟩:=cs pos cv q;⟨c,oc,e1,hf c oc e2,e3⟩⟩
 | met f y=>
   have e:h.get? a=some (zco (.ref f) (.ref y)):=x
   show h'.get? a=some (zco (.ref f) (.ref y))
   exact k a _ (.inl rfl) e
 | ext φ=>obtain⟨p,⟨o,e⟩,st⟩:=x;exact⟨st _ _ p λo q=>k _ _ (.inl rfl) q,⟨o,k _ _ (.inl rfl) e⟩,st⟩
theorem JU.lt (x:JU P w H h) (e:H a=some o):a < h.objs.size:=(x a o e).lt
theorem JU.fresh (x:JU P w H h) (e:h.objs.size<=a):H a=none:=by
 cases q:H a with
 | none=>rfl
 | some u=>exact absurd (tO (x.lt q) e) (zay _)
theorem JU.kept (x:JU P w H h) (k:∀b u,h.get? b=some u->h'.get? b=some u):JU P w H h':=λa o e=>
 (x a o e).stay (λb u _ q=>k b u q) (λ_ q=>q) λ_ _ q=>q
theorem JU.laid (x:JU P w H h) (k:∀b u,h.get? b=some u->h'.get? b=some u) (hp:h.objs.size<=a) (new:jd P w (upd H a o) h' a o):JU P w (upd H a o) h':=λb u e=>by
 have hn:=x.fresh hp
 by_cases hb:b=a
 . subst hb;rw[qe]at e;cases e;exact new
 . rw[qi hb]at e
   exact(x b u e).stay (λc v _ q=>k c v q) (λc q=>by rw[qi (qE q hn)];exact q) (λc xs q=>by rw[qi (qE q hn)];exact q) (λc o q=>by rw[qi (qE q hn)];exact q)
end
def Rd (H:Hp) (a:Addr) (u:HO):Prop:=H a=some u\/∃o,H a=some (.frz o u)
theorem Rd.ok {P:Program} {w:World} {H:Hp} {h:Heap} {a:Addr} {u:HO} (r:Rd H a u) (x:JU P w H h):jd P w H h a u:=by
 rcases r with r | ⟨o,r⟩
 . exact x a u r
 . obtain⟨_,q⟩:=x a _ r
   exact q
def Gj:Option HO->Prop
 | some (.lst _)=>True
 | some (.dK _)=>True
 | some (.dT _)=>True
 | some (.set _ _)=>True
 | some (.ins _ _ _)=>True
 | some (.ext _)=>True
 | _=>False
section
variable {P:Program} {w:World} {H:Hp} {h h':Heap} {x e:Addr} {o':HO}
theorem JU.write (ok:JU P w H h) (mu:Gj (H x)) (he:e=x\/H e=some (.own x)) (k:∀b u,b≠e->h.get? b=some u->h'.get? b=some u) (heo:∃u,h'.get? e=some u)
   (new:jd P w (upd H x o') h' x o'):JU P w (upd H x o') h':=λb u q=>by
 have nown:∀c y,H c=some (.own y)->c≠x:=λc y r z=>by subst z;rw[r]at mu;exact mu
 have ntup:∀c xs,H c=some (.tup xs)->c≠x:=λc xs r z=>by subst z;rw[r]at mu;exact mu
 by_cases hb:b=x
 . subst hb;rw[qe]at q;cases q;exact new
 . rw[qi hb]at q
   by_cases hbe:b=e
   . have q':H b=some (.own x):=by
       rcases he with z | z
       . exact absurd (hbe.trans z) hb
       . rw[hbe];exact z
     rw[q]at q';cases q'
     obtain⟨v,hv⟩:=heo
     exact⟨v,by rw[hbe];exact hv⟩
   . refine(ok b u q).stay (λc v hc r=>k c v ?_ r) (λc r=>by rw[qi (nown c b r)];exact r) (λc xs r=>by rw[qi (ntup c xs r)];exact r) (λc o r=>by rw[qi (λz=>by subst z;rw[r]at mu;exact mu)];exact r)
     rcases hc with rfl | hc
     . exact hbe
     . rintro rfl
       rcases he with z | z
       . exact nown c b hc z
       . rw[hc]at z;cases z;exact hb rfl
end
structure Un (fs ex:List Addr) (H H':Hp) (h h':Heap):Prop where
 keep:∀b o,h.get? b=some o->H b=none->b∉fs->b∉ex->h'.get? b=some o
 slot:∀b o,h.get? b=some o->H b=none->b∈fs->b∉ex->∃sl,h'.get? b=some {o with slots:=sl}
 free:∀b o,h.get? b=some o->H b=none->b∉ex->H' b=none
 there:∀b o,h.get? b=some o->b∉ex->∃o',h'.get? b=some o'
 tups:∀b xs,H b=some (.tup xs)->H' b=some (.tup xs)
 frzs:∀b o u,H b=some (.frz o u)->H' b=some (.frz o u)
 tbls:∀b ps,H b=some (.tbl ps)->∃more,H' b=some (.tbl (ps++more))
section
variable {fs fs' ex ex':List Addr} {H H1 H2:Hp} {h h1 h2 h':Heap} {a x e:Addr} {o:HO}
theorem Un.any (u:Un fs ex H H1 h h1) {b:Addr} {ob:Obj} (q:h.get? b=some ob) (n:H b=none) (hx:b∉ex):∃sl,h1.get? b=some {ob with slots:=sl}:=by
 by_cases hb:b∈fs
 . exact u.slot b ob q n hb hx
 . exact⟨ob.slots,u.keep b ob q n hb hx⟩
theorem Un.kept (k:∀b u,h.get? b=some u->h'.get? b=some u):Un fs ex H H h h':=
 ⟨λb ob q _ _ _=>k b ob q,λb ob q _ _ _=>⟨ob.slots,k b ob q⟩,λ_ _ _ n _=>n,λb ob q _=>⟨ob,k b ob q⟩,λ_ _ q=>q,λ_ _ _ q=>q,λ_ ps q=>⟨#[],by rw[q];simp⟩⟩
theorem Un.refl:Un fs ex H H h h:=Un.kept λ_ _ q=>q
theorem Un.laid (k:∀b u,h.get? b=some u->h'.get? b=some u) (hp:h.objs.size<=a) (hn:H a=none):Un fs ex H (upd H a o) h h' where
 keep:=λb u q _ _ _=>k b u q
 slot:=λb u q _ _ _=>⟨u.slots,k b u q⟩
 free:=λb u q n _=>by rw[qi (tM (tO (tG q) hp))];exact n
 there:=λb u q _=>⟨u,k b u q⟩
 tups:=λb xs q=>by rw[qi (qE q hn)];exact q
 frzs:=λb u xs q=>by rw[qi (qE q hn)];exact q
 tbls:=λb ps q=>⟨#[],by rw[qi (qE q hn),q];simp⟩
theorem Un.write (mu:Gj (H x)) (he:e=x\/H e=some (.own x)) (k:∀b u,b≠e->h.get? b=some u->h'.get? b=some u) (heo:∃u,h'.get? e=some u):Un fs ex H (upd H x o) h h':=by
 have hx:∀b,H b=none->b≠x:=λb n z=>by subst z;rw[n]at mu;exact mu
 have hb:∀b,H b=none->b≠e:=λb n z=>by
   subst z
   rcases he with r | r
   . exact hx b n r
   . rw[n]at r;cases r
 have hm:∀b u,H b=some u->¬Gj (some u)->b≠x:=λb u q nm z=>by subst z;rw[q]at mu;exact nm mu
 refine⟨λb u q n _ _=>k b u (hb b n) q,λb u q n _ _=>⟨u.slots,k b u (hb b n) q⟩,λb u q n _=>by rw[qi (hx b n)];exact n,λb u q _=>?_,
   λb xs q=>by rw[qi (hm b _ q λz=>z)];exact q,λb u xs q=>by rw[qi (hm b _ q λz=>z)];exact q,λb ps q=>⟨#[],by rw[qi (hm b _ q λz=>z),q];simp⟩⟩
 by_cases hbe:b=e
 . subst hbe;exact heo
 . exact⟨u,k b u hbe q⟩
end
def MU (h:Heap) (H:Hp):List Addr:=(tU h.objs.size).filter λa=>(H a).isSome
def Ws (h:Heap) (H:Hp):Heap:=PySem.W.hideAll h (MU h H)
theorem kH (h:Heap) (H:Hp):(Ws h H).objs.size=h.objs.size:=PySem.W.hideAll_size _ _
theorem wo {h:Heap} {H:Hp} {b:Addr} {o:Obj} (e:h.get? b=some o) (n:H b=none):(Ws h H).get? b=some o:=
 PySem.W.hideAll_get _ e λhm=>by
   have q:(H b).isSome=true:=(zaw.mp hm).2
   rw[n]at q;simp at q
theorem uT {h:Heap} {H:Hp} {b:Addr} {o:Obj} (e:(Ws h H).get? b=some o):h.get? b=some o/\H b=none:=by
 have e':h.get? b=some o:=PySem.W.of_hideAll (MU h H) e
 refine⟨e',?_⟩
 cases q:H b with
 | none=>rfl
 | some x=>
   have hm:b∈MU h H:=zaw.mpr ⟨zaP.mpr (tG e'),by simp [q]⟩
   have z:(Ws h H).get? b=none:=PySem.W.hideAll_none (MU h H) hm
   rw[z]at e;cases e
def KD (g h:Heap) (L:Addr):List (Addr×Obj):=(tU h.objs.size).filterMap λa=>if a=L\/(g.get? a).isSome=true then none else (h.get? a).map λo=>(a,o)
def rest (g h:Heap) (L d:Addr):List (Addr×Obj):=(KD g h L).filter λp=>decide (p.1≠d)
structure Mod (K:PySem.W.Frag) (mg:Str->Option Value) (base:Heap):Prop where
 kin:K.In base
 glob:base.Ns mainGlobals mg
 blt:∃mb,base.Ns builtinsNs mb/\∀x:Str,x≠"__name__"->mb x=bootBuiltins x
 nolimit:base.NoLimit
structure Cx where
 prog:Program
 w:World
 K:PySem.W.Frag
 mg:Str->Option Value
 base:Heap
 A:Around
 N:List Str
 s₀:Shared
 H₀:Hp
 env:Env
 outer:List Env
 stack:List Env
 ex:List Addr
 fn:Str->Bool
 calm:Bool
 pn:List (Addr×Obj)
 xe:Value->Shared->Prop
def wv (l:List Env):List Addr:=l.filterMap (·.frame)
abbrev Cx.fs (X:Cx):List Addr:=wv X.outer
def Nz (sc:Scope) (x:Str):Prop:=sc.names.lookup x=some .local\/sc.names.lookup x=some .cell\/sc.names.lookup x=some .free
def Ni (sc:Scope) (x:Str):Prop:=sc.names.lookup x=some .local\/sc.names.lookup x=some .cell
def qaQ (env:Env) (h:Heap) (m:Str->Option Value) (x:Str) (u:Value):Prop:=
 (env.kindOf x=some .local/\m x=some u)\/((env.kindOf x=some .cell\/env.kindOf x=some .free)/\∃c,env.cells.lookup x=some c/\h.IsCell c (some u))
structure Cx.Ok (X:Cx):Prop where
 mod:Mod X.K X.mg X.base
 kind:X.env.scope.kind=.function
 glob:X.env.globals=mainGlobals
 blt:X.env.builtins=builtinsNs
 above:X.s₀.heap.objs.size<=X.env.locals
 inj:∀x y c,X.env.cells.lookup x=some c->X.env.cells.lookup y=some c->x=y
 has:∀x,(X.env.kindOf x=some .cell\/X.env.kindOf x=some .free)->∃c,X.env.cells.lookup x=some c
 cab:∀x c,X.fn x=true->X.env.cells.lookup x=some c->X.s₀.heap.objs.size<=c
 hd:X.calm=true->X.A.handled=none
 frames:X.A.frames=some X.stack
 stk:X.stack=X.outer\/(X.stack=X.env::X.outer/\X.env.frame=some X.env.locals)
 exf:∀b∈X.ex,b≠X.env.locals/\∀x c,X.env.cells.lookup x=some c->c≠b
 bs:∀b o,X.base.get? b=some o->X.s₀.heap.get? b=some o/\X.H₀ b=none
 bsz:X.base.objs.size<=X.s₀.heap.objs.size
 noex:∀b o,X.base.get? b=some o->b∉X.ex
 exfs:∀b∈X.ex,b∉X.fs
 funs:X.s₀.heap.FunFrames X.base X.outer
 frf:∀b∈X.fs,X.H₀ b=none
structure qJ (X:Cx) (pins:List (Addr×Obj)) (σ:List (Option V)) (H:Hp) (s:Shared):Prop where
 ok:X.Ok
 os:s.os=X.s₀.os
 bare:AllBare s.gens
 base:Un X.fs X.ex X.H₀ H X.s₀.heap s.heap
 loc:∃m,s.heap.Ns X.env.locals m/\∀(i:Nat) (x:Str) (v:V),X.N[i]?=some x->σ[i]?=some (some v)->Nz X.env.scope x->∃u,qX v u/\qaQ X.env s.heap m x u
 cell:∀x c,X.env.cells.lookup x=some c->∃v,s.heap.IsCell c v
 free:H X.env.locals=none
 freeC:∀x c,X.env.cells.lookup x=some c->H c=none\/(X.fn x=false/\∃o,H c=some (.frz o (.frz o (.own 0))))
 pin:∀p∈X.pn++pins,s.heap.get? p.1=some p.2/\H p.1=none/\p.1≠X.env.locals/\p.1∉X.fs/\∀v,p.2.data≠.cell v
 hok:JU X.prog X.w H s.heap
 len:σ.length=X.N.length
section
variable {X:Cx} {pins:List (Addr×Obj)} {σ:List (Option V)} {H H':Hp} {s:Shared} {h':Heap}
theorem Cx.Ok.nofr (ok:X.Ok) {b:Addr} {o:Obj} (e:X.base.get? b=some o):b∉X.fs:=λhb=>by
 have:=(ok.funs.mem hb).1
 rw[e]at this;cases this
theorem qJ.bs (I:qJ X pins σ H s):∀b o,X.base.get? b=some o->s.heap.get? b=some o/\H b=none:=λb o e=>
 ⟨I.base.keep b o (I.ok.bs b o e).1 (I.ok.bs b o e).2 (I.ok.nofr e) (I.ok.noex b o e),I.base.free b o (I.ok.bs b o e).1 (I.ok.bs b o e).2 (I.ok.noex b o e)⟩
theorem qJ.bk (I:qJ X pins σ H s):∀b o,X.base.get? b=some o->s.heap.get? b=some o:=λb o e=>(I.bs b o e).1
theorem qJ.mod (I:qJ X pins σ H s):Mod X.K X.mg X.base:=I.ok.mod
theorem qJ.kIn (I:qJ X pins σ H s):X.K.In s.heap:=I.ok.mod.kin.keeps I.bk
theorem qJ.lt (I:qJ X pins σ H s):X.env.locals < s.heap.objs.size:=let ⟨_,hn,_⟩:=I.loc;hn.lt
theorem qJ.sz (I:qJ X pins σ H s):X.s₀.heap.objs.size<=s.heap.objs.size:=tV I.ok.above (zab I.lt)
theorem qJ.nofs (I:qJ X pins σ H s) {a:Addr} (h:s.heap.objs.size<=a):a∉X.fs:=λhb=>by
 obtain⟨_,o,ho,_⟩:=I.ok.funs.mem hb
 exact absurd (tO (tG ho) (tV I.sz h)) (zay _)
theorem qJ.cne (I:qJ X pins σ H s):∀x c,X.env.cells.lookup x=some c->c≠X.env.locals:=λx c e z=>by
 obtain⟨v,o,ho,hd⟩:=I.cell x c e
 obtain⟨m,⟨o',es,ep,ho',hd',_⟩,_⟩:=I.loc
 rw[z,ho']at ho;cases ho;rw[hd']at hd;cases hd
theorem qJ.funs (I:qJ X pins σ H s):s.heap.FunFrames X.base X.outer:=by
 have all:∀(l:List Env),(∀b∈wv l,b∈X.fs)->X.s₀.heap.FunFrames X.base l->s.heap.FunFrames X.base l:=by
   intro l
   induction l with
   | nil=>intro _ _;trivial
   | cons env r ih=>
     intro hs hl
     obtain⟨hk,⟨L,o,hf,hn,ho,hd⟩,hr⟩:=hl
     have hL:L∈X.fs:=hs L (by unfold wv;rw[zar,hf];exact tS)
     obtain⟨sl,e⟩:=I.base.slot L o ho (I.ok.frf L hL) hL λz=>I.ok.exfs L z hL
     exact⟨hk,⟨L,_,hf,hn,e,hd⟩,ih (λb hb=>hs b (by unfold wv;rw[zar,hf];exact tN _ hb)) hr⟩
 exact all X.outer (λ_ hb=>hb) I.ok.funs
theorem qJ.stack (I:qJ X pins σ H s):s.heap.FunFrames X.base X.stack:=by
 rcases I.ok.stk with e | ⟨e,hf⟩
 . rw[e];exact I.funs
 . rw[e]
   obtain⟨m,hn,_⟩:=I.loc
   refine .cons (by rw[I.ok.kind];decide) hf hn ?_ I.funs
   exact Heap.get?_none_of_le (tV I.ok.bsz I.ok.above)
theorem qJ.stkSub (I:qJ X pins σ H s):∀b∈wv X.stack,b∈X.env.locals::X.fs:=λb hb=>by
 rcases I.ok.stk with e | ⟨e,hf⟩
 . rw[e]at hb;exact tN _ hb
 . rw[e]at hb
   unfold wv at hb
   rw[zar,hf]at hb
   exact hb
theorem qJ.stkFree (I:qJ X pins σ H s):∀b∈wv X.stack,H b=none:=λb hb=>by
 rcases tR.mp (I.stkSub b hb) with e | hb
 . rw[e];exact I.free
 . obtain⟨_,o,ho,_⟩:=I.ok.funs.mem hb
   exact I.base.free b o ho (I.ok.frf b hb) λz=>I.ok.exfs b z hb
theorem qJ.step {g':Array GenState} {t':Nat} {d':Drawn} {ch:List Addr} (I:qJ X pins σ H s)
   (hch:∀b∈ch,(b∈X.ex\/X.s₀.heap.objs.size<=b)/\b≠X.env.locals/\(∀x c,X.env.cells.lookup x=some c->c≠b)/\∀p∈X.pn++pins,p.1≠b)
   (keep:∀b o,b≠X.env.locals->b∉X.fs->b∉ch->s.heap.get? b=some o->H b=none->h'.get? b=some o)
   (slot:∀b o,b≠X.env.locals->b∈X.fs->b∉ch->s.heap.get? b=some o->H b=none->∃sl,h'.get? b=some {o with slots:=sl}) (free:∀b o,b∉ch->s.heap.get? b=some o->H b=none->H' b=none)
   (there:∀b o,b∉ch->s.heap.get? b=some o->∃o',h'.get? b=some o')
   (tups:∀b xs,H b=some (.tup xs)->H' b=some (.tup xs)) (frzs:∀b o u,H b=some (.frz o u)->H' b=some (.frz o u)) (tbls:∀b ps,H b=some (.tbl ps)->∃more,H' b=some (.tbl (ps++more)))
   (ns:∀m,s.heap.Ns X.env.locals m->h'.Ns X.env.locals m) (hok:JU X.prog X.w H' h') (hg:AllBare g'):
   qJ X pins σ H' {s with heap:=h',gens:=g',drawn:=d',toks:=t'}:=by
 have neL:∀b o,X.s₀.heap.get? b=some o->b≠X.env.locals:=λb o e=>tM (tO (tG e) I.ok.above)
 have neC:∀b o,X.s₀.heap.get? b=some o->b∉X.ex->b∉ch:=λb o e hx hb=>by
   rcases(hch b hb).1 with z | z
   . exact hx z
   . exact absurd (tO (tG e) z) (zay _)
 have cellK:∀x c,X.env.cells.lookup x=some c->∀v,s.heap.IsCell c v->h'.IsCell c v:=λx c e v ⟨o,ho,hd⟩=>by
   have nch:c∉ch:=λz=>(hch c z).2.2.1 x c e rfl
   rcases I.freeC x c e with fc | ⟨_,oc,fc⟩
   . by_cases hc:c∈X.fs
     . obtain⟨sl,q⟩:=slot c o (I.cne x c e) hc nch ho fc
       exact⟨_,q,hd⟩
     . exact⟨o,keep c o (I.cne x c e) hc nch ho fc,hd⟩
   . obtain⟨e1,_⟩:=(show jd X.prog X.w H s.heap c (.frz oc (.frz oc (.own 0))) from I.hok c _ fc)
     obtain⟨e2,_⟩:=(show jd X.prog X.w H' h' c (.frz oc (.frz oc (.own 0))) from hok c _ (frzs c oc _ fc))
     rw[ho]at e1
     cases e1
     exact⟨o,e2,hd⟩
 refine⟨I.ok,I.os,hg,⟨λb o e n hb hx=>?_,λb o e n hb hx=>?_,λb o e n hx=>?_,λb o e hx=>?_,λb xs e=>tups b xs (I.base.tups b xs e),λb o xs e=>frzs b o xs (I.base.frzs b o xs e),λb ps e=>?_⟩,?_,λx c e=>?_,?_,λx c e=>?_,λp hp=>?_,hok,I.len⟩
 . exact keep b o (neL b o e) hb (neC b o e hx) (I.base.keep b o e n hb hx) (I.base.free b o e n hx)
 . obtain⟨sl,e1⟩:=I.base.slot b o e n hb hx
   obtain⟨sl',e2⟩:=slot b _ (neL b o e) hb (neC b o e hx) e1 (I.base.free b o e n hx)
   exact⟨sl',e2⟩
 . obtain⟨o',e1⟩:=I.base.there b o e hx
   exact free b o' (neC b o e hx) e1 (I.base.free b o e n hx)
 . obtain⟨o',e1⟩:=I.base.there b o e hx
   exact there b o' (neC b o e hx) e1
 . obtain⟨m1,e1⟩:=I.base.tbls b ps e
   obtain⟨m2,e2⟩:=tbls b _ e1
   exact⟨m1++m2,by rw[e2,Array.append_assoc]⟩
 . obtain⟨m,hn,hl⟩:=I.loc
   refine⟨m,ns m hn,λi x v e1 e2 e3=>?_⟩
   obtain⟨u,r,l⟩:=hl i x v e1 e2 e3
   refine⟨u,r,?_⟩
   rcases l with l | ⟨k,c,e,z⟩
   . exact .inl l
   . exact .inr ⟨k,c,e,cellK x c e _ z⟩
 . obtain⟨v,z⟩:=I.cell x c e
   exact⟨v,cellK x c e v z⟩
 . obtain⟨m,⟨o,_,_,ho,_⟩,_⟩:=I.loc
   exact free _ o (λz=>(hch _ z).2.1 rfl) ho I.free
 . obtain⟨v,o,ho,hd⟩:=I.cell x c e
   rcases I.freeC x c e with fc | ⟨fx,oc,fc⟩
   . exact .inl (free c o (λz=>(hch c z).2.2.1 x c e rfl) ho fc)
   . exact .inr ⟨fx,oc,frzs c oc _ fc⟩
 . obtain⟨e,n,ne,nf,d⟩:=I.pin p hp
   have nch:p.1∉ch:=λz=>(hch p.1 z).2.2.2 p hp rfl
   exact⟨keep p.1 p.2 ne nf nch e n,free p.1 p.2 nch e n,ne,nf,d⟩
theorem qJ.un {t':Nat} (I:qJ X pins σ H s) (u:Un X.fs [] H H' s.heap h') (hok:JU X.prog X.w H' h'):qJ X pins σ H' {s with heap:=h',toks:=t'}:=by
 obtain⟨m,⟨o,es,ep,ho,r⟩,_⟩:=id I.loc
 obtain⟨sl,hL⟩:=u.any ho I.free (by simp)
 exact I.step (g':=s.gens) (d':=s.drawn) (ch:=[]) (λ_ z=>nomatch z) (λb o _ hb _ e n=>u.keep b o e n hb (by simp)) (λb o _ hb _ e n=>u.slot b o e n hb (by simp)) (λb o _ e n=>u.free b o e n (by simp)) (λb o _ e=>u.there b o e (by simp)) u.tups u.frzs u.tbls (λm' hm=>by
   obtain⟨o',es',ep',ho',r'⟩:=hm
   rw[ho]at ho';cases ho'
   exact⟨_,es',ep',hL,r'⟩) hok I.bare
theorem qJ.call {g':Array GenState} {t':Nat} {d':Drawn} {ch:List Addr} (I:qJ X pins σ H s) (u:Un (wv X.stack) ch H H' s.heap h') (hok:JU X.prog X.w H' h') (hg:AllBare g')
   (hch:∀b∈ch,(b∈X.ex\/X.s₀.heap.objs.size<=b)/\b≠X.env.locals/\(∀x c,X.env.cells.lookup x=some c->c≠b)/\∀p∈X.pn++pins,p.1≠b):
   qJ X pins σ H' {s with heap:=h',gens:=g',drawn:=d',toks:=t'}:=by
 obtain⟨m,⟨o,es,ep,ho,r⟩,_⟩:=id I.loc
 obtain⟨sl,hL⟩:=u.any ho I.free λz=>(hch _ z).2.1 rfl
 exact I.step (ch:=ch) hch (λb o hL hb hc e n=>u.keep b o e n (λz=>(tR.mp (I.stkSub b z)).elim hL hb) hc) (λb o _ _ hc e n=>u.any e n hc) (λb o hc e n=>u.free b o e n hc) (λb o hc e=>u.there b o e hc) u.tups u.frzs u.tbls (λm' hm=>by
   obtain⟨o',es',ep',ho',r'⟩:=hm
   rw[ho]at ho';cases ho'
   exact⟨_,es',ep',hL,r'⟩) hok hg
theorem qJ.turned {t':Nat} {it:Addr} (I:qJ X pins σ H s) (k:∀b o,b≠it->s.heap.get? b=some o->h'.get? b=some o) (hn:H it=none) (hL:it≠X.env.locals)
   (h1:it∈X.ex\/X.s₀.heap.objs.size<=it) (h2:∀x c,X.env.cells.lookup x=some c->c≠it) (h3:∀p∈X.pn++pins,p.1≠it):qJ X pins σ H {s with heap:=h',toks:=t'}:=by
 have nit:∀b u,H b=some u->b≠it:=λb u e z=>by rw[z,hn]at e;cases e
 refine I.step (g':=s.gens) (d':=s.drawn) (ch:=[it]) (λb hb=>?_) (λb o _ _ hc e _=>k b o (λz=>hc (by simp [z])) e) (λb o _ _ hc e _=>⟨o.slots,k b o (λz=>hc (by simp [z])) e⟩) (λ_ _ _ _ n=>n)
   (λb o hc e=>⟨o,k b o (λz=>hc (by simp [z])) e⟩) (λ_ _ e=>e) (λ_ _ _ e=>e) (λb ps e=>⟨#[],by rw[e];simp⟩) (λm hm=>?_) (λb u e=>?_) I.bare
 . have e:b=it:=by simpa using hb
   subst e
   exact⟨h1,hL,h2,h3⟩
 . obtain⟨o,es,ep,ho,r⟩:=hm
   exact⟨o,es,ep,k _ o (Ne.symm hL) ho,r⟩
 . refine(I.hok b u e).stay (λc v hc q=>k c v ?_ q) (λ_ q=>q) λ_ _ q=>q
   rcases hc with z | z
   . rw[z];exact nit b u e
   . exact nit c _ z
theorem qJ.tok (I:qJ X pins σ H s) (t:Nat):qJ X pins σ H {s with toks:=t}:=I.un (h':=s.heap) (t':=t) Un.refl I.hok
theorem qJ.kept {t':Nat} (I:qJ X pins σ H s) (k:∀b u,s.heap.get? b=some u->h'.get? b=some u):qJ X pins σ H {s with heap:=h',toks:=t'}:=I.un (Un.kept k) (I.hok.kept k)
theorem qJ.laid {a:Addr} {o:HO} {t':Nat} (I:qJ X pins σ H s) (k:∀b u,s.heap.get? b=some u->h'.get? b=some u) (hp:s.heap.objs.size<=a) (new:jd X.prog X.w (upd H a o) h' a o):
   qJ X pins σ (upd H a o) {s with heap:=h',toks:=t'}:=I.un (Un.laid k hp (I.hok.fresh hp)) (I.hok.laid k hp new)
theorem qJ.write {x e:Addr} {o:HO} {t':Nat} (I:qJ X pins σ H s) (mu:Gj (H x)) (he:e=x\/H e=some (.own x)) (k:∀b u,b≠e->s.heap.get? b=some u->h'.get? b=some u) (heo:∃u,h'.get? e=some u)
   (new:jd X.prog X.w (upd H x o) h' x o):qJ X pins σ (upd H x o) {s with heap:=h',toks:=t'}:=I.un (Un.write mu he k heo) (I.hok.write mu he k heo new)
theorem qJ.pins_of {pins':List (Addr×Obj)} (I:qJ X pins σ H s) (h:∀p∈pins',s.heap.get? p.1=some p.2/\H p.1=none/\p.1≠X.env.locals/\p.1∉X.fs/\∀v,p.2.data≠.cell v):qJ X pins' σ H s:=
 ⟨I.ok,I.os,I.bare,I.base,I.loc,I.cell,I.free,I.freeC,λp hp=>(tZ.mp hp).elim (λz=>I.pin p (zbY _ z)) (h p),I.hok,I.len⟩
theorem W6 {N:List Str} (hN:N.Nodup) {i j:Nat} {x:Str} (a:N[i]?=some x) (b:N[j]?=some x):i=j:=by
 obtain⟨h1,e1⟩:=tw.mp a
 obtain⟨h2,e2⟩:=tw.mp b
 exact(List.getElem_inj hN).mp (e1.trans e2.symm)
theorem Xm {M:Model} {A:Around} {E:Value->Shared->Prop} {i:Nat} {x:Str} {v:V} {u:Value} {Q:Unit->Shared->Prop} (I:qJ X pins σ H s) (hN:X.N.Nodup) (hi:X.N[i]?=some x) (hx:Ni X.env.scope x) (r:qX v u)
   (h:∀s',qJ X pins (σ.set i (some v)) H s'->(∃a,Heap.SameBut a s.heap s'.heap/\(a=X.env.locals\/X.env.cells.lookup x=some a))->Q () s') (hf:X.fn x=true\/X.env.scope.names.lookup x=some .local:=by first | exact .inl rfl | exact .inr rfl | assumption):wpAny M A (storeName X.env x u) Q E s:=by
 obtain⟨m,hn,hl⟩:=id I.loc
 have hcls:(X.env.scope.kind==.class || (X.env.scope.kind==.module&&X.env.locals != X.env.globals))=false:=by rw[I.ok.kind];rfl
 have hiσ:i < σ.length:=by rw[I.len];exact(tw.mp hi).1
 have cne:=I.cne
 have tracked:∀{a:Addr} {h':Heap},(∃o,s.heap.get? a=some o/\H a=none)->Heap.SameBut a s.heap h'->JU X.prog X.w H h':=λ{a h'} ha hs b ob e=>by
   obtain⟨_,_,hfree⟩:=ha
   refine(I.hok b ob e).stay (λc w' hc q=>(hs.2 c ?_).trans q) (λ_ q=>q) λ_ _ q=>q
   rintro rfl
   rcases hc with rfl | hc
   . rw[hfree]at e;cases e
   . rw[hfree]at hc;cases hc
 rcases hx with hk | hk
 . refine wpAny_storeName_local hk hn (λh' hn' hs=>?_) hcls
   obtain⟨oL,_,_,hoL,_⟩:=id hn
   refine h _ ⟨I.ok,I.os,I.bare,⟨λb o e n hb hx=>?_,λb o e n hb hx=>?_,I.base.free,λb o e hx=>?_,I.base.tups,I.base.frzs,I.base.tbls⟩,⟨_,hn',λj y v' e1 e2 e3=>?_⟩,λy c e=>?_,I.free,I.freeC,λp hp=>?_,tracked ⟨oL,hoL,I.free⟩ hs,by simpa using I.len⟩ ⟨_,hs,.inl rfl⟩
   . exact(hs.2 b (tM (tO (tG e) I.ok.above))).trans (I.base.keep b o e n hb hx)
   . obtain⟨sl,e1⟩:=I.base.slot b o e n hb hx
     exact⟨sl,(hs.2 b (tM (tO (tG e) I.ok.above))).trans e1⟩
   . obtain⟨o',e1⟩:=I.base.there b o e hx
     exact⟨o',(hs.2 b (tM (tO (tG e) I.ok.above))).trans e1⟩
   . by_cases hj:j=i
     . subst hj
       rw[hi]at e1;cases e1
       rw[zcB hiσ]at e2
       cases e2
       exact⟨u,r,.inl ⟨hk,by simp⟩⟩
     . rw[zcS (Ne.symm hj)]at e2
       obtain⟨u',r',q⟩:=hl j y v' e1 e2 e3
       refine⟨u',r',?_⟩
       rcases q with ⟨k,e⟩ | ⟨k,c,e,z⟩
       . refine .inl ⟨k,?_⟩
         have:y≠x:=λe=>hj (W6 hN e1 (e▸hi))
         simp [this,e]
       . exact .inr ⟨k,c,e,z.sameBut hs (cne y c e)⟩
   . obtain⟨w',z⟩:=I.cell y c e
     exact⟨w',z.sameBut hs (cne y c e)⟩
   . obtain⟨e,n,ne,nf,d⟩:=I.pin p hp
     exact⟨(hs.2 p.1 ne).trans e,n,ne,nf,d⟩
 . have hfn:X.fn x=true:=by
     rcases hf with z | z
     . exact z
     . rw[z]at hk;cases hk
   obtain⟨c,hc⟩:=I.ok.has x (.inl hk)
   obtain⟨w',z⟩:=I.cell x c hc
   refine wpAny_storeName_cell I.ok.kind hk hc z (λh' hc' hs=>?_)
   obtain⟨oc,hoc,hocd⟩:=id z
   have fcn:H c=none:=(I.freeC x c hc).elim id λz=>by rw[hfn]at z;cases z.1
   refine h {s with heap:=h'} ⟨I.ok,I.os,I.bare,⟨λb o e n hb hx=>?_,λb o e n hb hx=>?_,I.base.free,λb o e hx=>?_,I.base.tups,I.base.frzs,I.base.tbls⟩,⟨m,hn.sameBut hs (Ne.symm (cne x c hc)),λj y v' e1 e2 e3=>?_⟩,λy c' e=>?_,I.free,I.freeC,λp hp=>?_,tracked ⟨oc,hoc,fcn⟩ hs,by simpa using I.len⟩ ⟨c,hs,.inr hc⟩
   . exact(hs.2 b (tM (tO (tG e) (I.ok.cab x c hfn hc)))).trans (I.base.keep b o e n hb hx)
   . obtain⟨sl,e1⟩:=I.base.slot b o e n hb hx
     exact⟨sl,(hs.2 b (tM (tO (tG e) (I.ok.cab x c hfn hc)))).trans e1⟩
   . obtain⟨o',e1⟩:=I.base.there b o e hx
     exact⟨o',(hs.2 b (tM (tO (tG e) (I.ok.cab x c hfn hc)))).trans e1⟩
   . by_cases hj:j=i
     . subst hj
       rw[hi]at e1;cases e1
       rw[zcB hiσ]at e2
       cases e2
       exact⟨u,r,.inr ⟨.inl hk,c,hc,hc'⟩⟩
     . rw[zcS (Ne.symm hj)]at e2
       obtain⟨u',r',q⟩:=hl j y v' e1 e2 e3
       refine⟨u',r',?_⟩
       rcases q with q | ⟨k,c',e,z'⟩
       . exact .inl q
       . refine .inr ⟨k,c',e,z'.sameBut hs ?_⟩
         rintro rfl
         exact hj (W6 hN e1 (I.ok.inj _ _ _ e hc▸hi))
   . by_cases hcc:c'=c
     . subst hcc;exact⟨_,hc'⟩
     . obtain⟨w2,z2⟩:=I.cell y c' e
       exact⟨w2,z2.sameBut hs hcc⟩
   . obtain⟨e,n,ne,nf,d⟩:=I.pin p hp
     refine⟨(hs.2 p.1 ?_).trans e,n,ne,nf,d⟩
     intro q
     rw[q,hoc]at e
     have q':oc=p.2:=tK.inj e
     exact d w' (by rw[<-q'];exact hocd)
theorem JY {M:Model} {A:Around} {E:Value->Shared->Prop} {i:Nat} {x:Str} {v:V} {u:Value} {Q:Unit->Shared->Prop} (I:qJ X pins σ H s) (hN:X.N.Nodup) (hi:X.N[i]?=some x) (hx:Ni X.env.scope x) (r:qX v u)
   (h:∀s',qJ X pins (σ.set i (some v)) H s'->Q () s') (hf:X.fn x=true\/X.env.scope.names.lookup x=some .local:=by first | exact .inl rfl | exact .inr rfl | assumption):wpAny M A (storeName X.env x u) Q E s:=
 Xm I hN hi hx r (λs' I' _=>h s' I') hf
theorem qJ.call' {s':Shared} {ch:List Addr} (I:qJ X pins σ H s) (ho:s'.os=s.os) (u:Un (wv X.stack) ch H H' s.heap s'.heap) (hok:JU X.prog X.w H' s'.heap) (hg:AllBare s'.gens)
   (hch:∀b∈ch,(b∈X.ex\/X.s₀.heap.objs.size<=b)/\b≠X.env.locals/\(∀x c,X.env.cells.lookup x=some c->c≠b)/\∀p∈X.pn++pins,p.1≠b):qJ X pins σ H' s':=by
 obtain⟨h',g',d',t',o'⟩:=s'
 have e:o'=s.os:=ho
 subst e
 exact I.call (g':=g') (t':=t') (d':=d') u hok hg hch
end
abbrev XK:=Value->Option Addr->Hp->Prop
abbrev St:=List (Option V)
abbrev VK:=V->Hp->Prop
abbrev TE:=St->Hp->VK->Prop
abbrev TT:=St->Hp->(Bool->Hp->Prop)->Prop
abbrev TA:=St->Hp->(List V->Hp->Prop)->Prop
structure QN where
 nx:St->Hp->Prop
 rt:VK
 bk:St->Hp->Prop:=λ_ _=>False
 ct:St->Hp->Prop:=λ_ _=>False
abbrev TS:=QN->St->Hp->Prop
def EP (X:Cx) (pins:List (Addr×Obj)) (σ:St) (Q:VK) (u:Value) (s':Shared):Prop:=∃v H',qJ X pins σ H' s'/\qX v u/\Q v H'
def TP (X:Cx) (pins:List (Addr×Obj)) (σ:St) (Q:Bool->Hp->Prop) (b:Bool) (s':Shared):Prop:=∃H',qJ X pins σ H' s'/\Q b H'
def AP (X:Cx) (pins:List (Addr×Obj)) (σ:St) (Q:List V->Hp->Prop) (us:List Value) (s':Shared):Prop:=∃vs H',qJ X pins σ H' s'/\qP vs us/\Q vs H'
def SP (X:Cx) (pins:List (Addr×Obj)) (D:QN) (f:Flow) (s':Shared):Prop:=
 match f with
 | .next=>∃σ' H',qJ X pins σ' H' s'/\D.nx σ' H'
 | .brk=>∃σ' H',qJ X pins σ' H' s'/\D.bk σ' H'
 | .cont=>∃σ' H',qJ X pins σ' H' s'/\D.ct σ' H'
 | .ret u=>∃v σ' H',qJ X pins σ' H' s'/\qX v u/\D.rt v H'
def PE (X:Cx) (e:Expr) (t:TE):Prop:=
 ∀(pins:List (Addr×Obj)) (s:Shared) (σ:St) (H:Hp) (Q:VK),qJ X pins σ H s->t σ H Q->wpAny (model X.prog X.w) X.A (eval e X.env) (EP X pins σ Q) X.xe s
@[irreducible] def JE (X:Cx) (e:Expr) (t:TE):Prop:=PE X e t
theorem JE.of {X:Cx} {e:Expr} {t:TE} (h:PE X e t):JE X e t:=by unfold JE;exact h
theorem JE.to {X:Cx} {e:Expr} {t:TE} (h:JE X e t):PE X e t:=by unfold JE at h;exact h
def PT (X:Cx) (e:Expr) (t:TT):Prop:=
 ∀(pins:List (Addr×Obj)) (s:Shared) (σ:St) (H:Hp) (Q:Bool->Hp->Prop),qJ X pins σ H s->t σ H Q->wpAny (model X.prog X.w) X.A (isTrue e X.env (eval e X.env)) (TP X pins σ Q) X.xe s
@[irreducible] def JT (X:Cx) (e:Expr) (t:TT):Prop:=PT X e t
theorem JT.of {X:Cx} {e:Expr} {t:TT} (h:PT X e t):JT X e t:=by unfold JT;exact h
theorem JT.to {X:Cx} {e:Expr} {t:TT} (h:JT X e t):PT X e t:=by unfold JT at h;exact h
def PW (X:Cx) (e:Expr) (t:TT):Prop:=
 ∀(whole:Sem Value) (pins:List (Addr×Obj)) (s:Shared) (σ:St) (H:Hp) (Q:Bool->Hp->Prop),qJ X pins σ H s->t σ H Q->wpAny (model X.prog X.w) X.A (isTrue e X.env whole) (TP X pins σ Q) X.xe s
theorem PW.pt {X:Cx} {e:Expr} {t:TT} (h:PW X e t):PT X e t:=h _
@[irreducible] def JW (X:Cx) (e:Expr) (t:TT):Prop:=PW X e t
theorem JW.of {X:Cx} {e:Expr} {t:TT} (h:PW X e t):JW X e t:=by unfold JW;exact h
theorem JW.to {X:Cx} {e:Expr} {t:TT} (h:JW X e t):PW X e t:=by unfold JW at h;exact h
theorem JW.pt {X:Cx} {e:Expr} {t:TT} (h:JW X e t):JT X e t:=.of h.to.pt
def PA (X:Cx) (es:List Expr) (t:TA):Prop:=
 ∀(pos:Pos) (pins:List (Addr×Obj)) (s:Shared) (σ:St) (H:Hp) (Q:List V->Hp->Prop),qJ X pins σ H s->t σ H Q->wpAny (model X.prog X.w) X.A (spliced (backTo pos (starEach es X.env))) (AP X pins σ Q) X.xe s
@[irreducible] def JA (X:Cx) (es:List Expr) (t:TA):Prop:=PA X es t
theorem JA.of {X:Cx} {es:List Expr} {t:TA} (h:PA X es t):JA X es t:=by unfold JA;exact h
theorem JA.to {X:Cx} {es:List Expr} {t:TA} (h:JA X es t):PA X es t:=by unfold JA at h;exact h
def PS (X:Cx) (st:Stmt) (t:TS):Prop:=
 ∀(pins:List (Addr×Obj)) (s:Shared) (σ:St) (H:Hp) (D:QN),qJ X pins σ H s->t D σ H->wpAny (model X.prog X.w) X.A (exec st X.env) (SP X pins D) X.xe s
@[irreducible] def JS (X:Cx) (st:Stmt) (t:TS):Prop:=PS X st t
theorem JS.of {X:Cx} {st:Stmt} {t:TS} (h:PS X st t):JS X st t:=by unfold JS;exact h
theorem JS.to {X:Cx} {st:Stmt} {t:TS} (h:JS X st t):PS X st t:=by unfold JS at h;exact h
def Gi (X:Cx) (st:List Stmt) (t:TS):Prop:=
 ∀(pins:List (Addr×Obj)) (s:Shared) (σ:St) (H:Hp) (D:QN),qJ X pins σ H s->t D σ H->wpAny (model X.prog X.w) X.A (execs st X.env) (SP X pins D) X.xe s
@[irreducible] def WE (X:Cx) (st:List Stmt) (t:TS):Prop:=Gi X st t
theorem WE.of {X:Cx} {st:List Stmt} {t:TS} (h:Gi X st t):WE X st t:=by unfold WE;exact h
theorem WE.to {X:Cx} {st:List Stmt} {t:TS} (h:WE X st t):Gi X st t:=by unfold WE at h;exact h
theorem jB {α:Type} {t:Sem α} {Q Q':α->Shared->Prop} {M:Model} {A:Around} {E:Value->Shared->Prop} {s:Shared} (h:wpAny M A t Q E s) (hQ:∀a s,Q a s->Q' a s):wpAny M A t Q' E s:=wpAny_mono h hQ λ_ _ x=>x
section
variable {X:Cx}
def qN (i:Nat):TE:=λσ H Q=>∃v,σ[i]?=some (some v)/\Q v H
def tC (v:V):TE:=λ_ H Q=>Q v H
theorem Rn {i:Nat} {x:Str} {pos:Pos} (hN:X.N[i]?=some x) (hv:Nz X.env.scope x) (hd:(x==("__debug__":Str))=false:=by decide) (hcd:(x==("__classdict__":Str))=false:=by decide):PE X (.Name x pos) (qN i):=by
 intro pins s σ H Q I h
 obtain⟨v,e,h⟩:=h
 obtain⟨m,hn,hl⟩:=I.loc
 obtain⟨u,r,l⟩:=hl i x v hN e hv
 have fin:EP X pins σ Q u s:=⟨v,H,I,r,h⟩
 rcases l with ⟨hk,hm⟩ | ⟨hk,c,hc,hcell⟩
 . exact wpAny_Name (wpAny_loadName_local I.ok.kind hk hn hm fin) hd
 . rcases hk with hk | hk
   . exact wpAny_Name (wpAny_loadName_cell I.ok.kind hk hc hcell fin) hd
   . exact wpAny_Name (wpAny_loadName_free I.ok.kind hk hc hcell fin hcd) hd
theorem qf {i j pos}:JE X (.Constant (.int i) j pos) (tC (.int i)):=.of (by
 exact λ_ _ _ H _ I h=>wpAny_Constant_int ⟨.int i,H,I.tok _,⟨_,rfl⟩,h⟩)
theorem ja {b j pos}:JE X (.Constant (.bool b) j pos) (tC (.bl b)):=.of (by
 exact λ_ _ _ H _ I h=>Constant_bool ⟨.bl b,H,I,rfl,h⟩)
theorem YU {j pos}:JE X (.Constant .none j pos) (tC .non):=.of (by
 exact λ_ _ _ H _ I h=>Constant_none ⟨.non,H,I,rfl,h⟩)
theorem qx {x j pos}:JE X (.Constant (.str x) j pos) (tC (.str x)):=.of (by
 exact λ_ _ _ H _ I h=>Calls.Constant_str ⟨.str x,H,I.tok _,⟨_,rfl⟩,h⟩)
def Gl (X:Cx) (x:Str):Prop:=X.env.kindOf x=some .globalImplicit
theorem Wl {E:Value->Shared->Prop} {pins:List (Addr×Obj)} {s:Shared} {σ:St} {H:Hp} {x:Str} {u:Value} {pos:Pos} {Q:Value->Shared->Prop} (I:qJ X pins σ H s) (hg:Gl X x) (hm:X.mg x=some u) (h:Q u s)
   (hd:(x==("__debug__":Str))=false:=by decide):wpAny (model X.prog X.w) X.A (eval (.Name x pos) X.env) Q E s:=
 Calls.Name_function_global I.ok.kind hg (Calls.loadGlobal_global (by rw[I.ok.glob];exact I.mod.glob.keeps I.bk) hm h) hd
theorem Jb {E:Value->Shared->Prop} {pins:List (Addr×Obj)} {s:Shared} {σ:St} {H:Hp} {x:Str} {u:Value} {pos:Pos} {Q:Value->Shared->Prop} (I:qJ X pins σ H s) (hg:Gl X x) (hm:X.mg x=none) (hv:bootBuiltins x=some u) (h:Q u s)
   (hn:x≠"__name__":=by decide) (hd:(x==("__debug__":Str))=false:=by decide):wpAny (model X.prog X.w) X.A (eval (.Name x pos) X.env) Q E s:=by
 obtain⟨mb,h1,h2⟩:=I.mod.blt
 exact Calls.Name_function_global I.ok.kind hg (Calls.loadGlobal_builtin (by rw[I.ok.glob];exact I.mod.glob.keeps I.bk) hm (by rw[I.ok.blt];exact h1.keeps I.bk) ((h2 x hn).trans hv) h) hd
theorem Zi {x:Str} {v:V} {u:Value} {pos:Pos} (hg:Gl X x) (hm:X.mg x=some u) (r:qX v u) (hd:(x==("__debug__":Str))=false:=by decide):JE X (.Name x pos) (tC v):=.of (by
 exact λ_ _ _ H _ I h=>Wl I hg hm ⟨v,H,I,r,h⟩ hd)
theorem j3 {x:Str} {v:V} {u:Value} {pos:Pos} (hg:Gl X x) (hm:X.mg x=none) (hv:bootBuiltins x=some u) (r:qX v u) (hn:x≠"__name__":=by decide) (hd:(x==("__debug__":Str))=false:=by decide):JE X (.Name x pos) (tC v):=.of (by
 exact λ_ _ _ H _ I h=>Jb I hg hm hv ⟨v,H,I,r,h⟩ hn hd)
variable {a b:Expr} {ta tb:TE} {pos:Pos}
def PC (X:Cx) (op:CmpOp) (a b:Expr) (t:TE):Prop:=
 ∀(pins:List (Addr×Obj)) (s:Shared) (σ:St) (H:Hp) (Q:VK),qJ X pins σ H s->t σ H Q->
   wpAny (model X.prog X.w) X.A (eval a X.env) (λv s₁=>wpAny (model X.prog X.w) X.A (eval b X.env) (λu s₂=>wpAny (model X.prog X.w) X.A (compareOp op v u) (EP X pins σ Q) X.xe s₂) X.xe s₁) X.xe s
@[irreducible] def JC (X:Cx) (op:CmpOp) (a b:Expr) (t:TE):Prop:=PC X op a b t
theorem JC.of {X:Cx} {op:CmpOp} {a b:Expr} {t:TE} (h:PC X op a b t):JC X op a b t:=by unfold JC;exact h
theorem JC.to {X:Cx} {op:CmpOp} {a b:Expr} {t:TE} (h:JC X op a b t):PC X op a b t:=by unfold JC at h;exact h
def tB (t:TE):TT:=λσ H Q=>t σ H λx H1=>∃c,x=.bl c/\Q c H1
theorem Jc {op:CmpOp} {t:TE} (h:JC X op a b t) (h1:behindInMarks op b=false:=by first | exact nobehind _ (by decide) (by decide) | rfl):JT X (.Compare a [op] [b] pos) (tB t):=.of (by
 have h:=h.to
 intro pins s σ H Q I hw
 refine wpAny_isTrue_Compare1 (jB (h pins s σ H _ I hw) λv s1 h1=>jB h1 λu s2 h2=>jB h2 λc s3 ⟨x,H1,I1,r1,q1⟩=>?_) h1
 obtain⟨d,rfl,q⟩:=q1
 cases r1
 exact wpAny_truthy_bool ⟨H1,I1,q⟩)
theorem jF {e:Expr} {t:TE} (h:JE X e t) (he:∀whole,isTrue e X.env whole=(do let v <-whole;standAt e.pos;holding [v] (truthy v)):=by intro _;rfl):JT X e (tB t):=.of (by
 have h:=h.to
 intro pins s σ H Q I hw
 refine isTrue_plain (jB (h pins s σ H _ I hw) λv s1 ⟨x,H1,I1,r1,q1⟩=>?_) (he _)
 obtain⟨d,rfl,q⟩:=q1
 cases r1
 exact wpAny_truthy_bool ⟨H1,I1,q⟩)
variable {tA tB':TT} {rest:List Expr}
def Gx (t u:TT):TT:=λσ H Q=>t σ H λc H1=>if c=true then u σ H1 Q else Q false H1
def tOr (t u:TT):TT:=λσ H Q=>t σ H λc H1=>if c=true then Q true H1 else u σ H1 Q
def Gu (t:TT):TT:=λσ H Q=>t σ H λc H1=>Q (!c) H1
theorem jC (ha:JT X a tA):JW X (.BoolOp .And [a] pos) tA:=.of (by
 have ha:=ha.to
 intro wh pins s σ H Q I h
 refine isTrue_and (jB (ha pins s σ H Q I h) λc s1 e=>?_)
 cases c with
 | true=>exact isTrue_and_nil e
 | false=>exact e)
theorem Qp (ha:JT X a tA):JW X (.BoolOp .Or [a] pos) tA:=.of (by
 have ha:=ha.to
 intro wh pins s σ H Q I h
 refine isTrue_or (jB (ha pins s σ H Q I h) λc s1 e=>?_)
 cases c with
 | false=>exact isTrue_or_nil e
 | true=>exact e)
theorem jN (ha:JT X a tA) (hb:JW X (.BoolOp .And (b::rest) pos) tB'):JW X (.BoolOp .And (a::b::rest) pos) (Gx tA tB'):=.of (by
 have ha:=ha.to
 have hb:=hb.to
 intro wh pins s σ H Q I h
 refine isTrue_and (jB (ha pins s σ H _ I h) λc s1 ⟨H1,I1,q1⟩=>?_)
 cases c with
 | true=>exact hb wh pins s1 σ H1 Q I1 q1
 | false=>exact⟨H1,I1,q1⟩)
theorem QU (ha:JT X a tA) (hb:JW X (.BoolOp .Or (b::rest) pos) tB'):JW X (.BoolOp .Or (a::b::rest) pos) (tOr tA tB'):=.of (by
 have ha:=ha.to
 have hb:=hb.to
 intro wh pins s σ H Q I h
 refine isTrue_or (jB (ha pins s σ H _ I h) λc s1 ⟨H1,I1,q1⟩=>?_)
 cases c with
 | true=>exact⟨H1,I1,q1⟩
 | false=>exact hb wh pins s1 σ H1 Q I1 q1)
theorem j1 (ha:JT X a tA):JT X (.UnaryOp .Not a pos) (Gu tA):=.of (by
 have ha:=ha.to
 intro pins s σ H Q I h
 exact isTrue_not (ha pins s σ H (λc H1=>Q (!c) H1) I h))
def Uw (ta tb:TE):TE:=λσ H Q=>ta σ H λx H1=>∃c,x=.bl c/\if c=true then tb σ H1 Q else Q (.bl false) H1
def NK (ta:TE):TE:=λσ H Q=>ta σ H λx H1=>∃c,x=.bl c/\Q (.bl (!c)) H1
theorem Qj {op} {t:TE} (h:JE X a t):JE X (.BoolOp op [a] pos) t:=.of (by
 have h:=h.to
 exact λpins s σ H Q I hw=>BoolOp_one (h pins s σ H Q I hw))
theorem jJ (ha:JE X a ta) (hb:JE X (.BoolOp .And (b::rest) pos) tb):JE X (.BoolOp .And (a::b::rest) pos) (Uw ta tb):=.of (by
 have ha:=ha.to
 have hb:=hb.to
 intro pins s σ H Q I h
 refine BoolOp_and (jB (ha pins s σ H _ I h) λv s1 ⟨x,H1,I1,r1,q1⟩=>?_)
 obtain⟨c,rfl,q1⟩:=q1
 cases r1
 refine wpAny_truthy_bool ?_
 cases c with
 | true=>exact hb pins s1 σ H1 Q I1 q1
 | false=>exact⟨.bl false,H1,I1,rfl,q1⟩)
theorem x5 (ha:JE X a ta):JE X (.UnaryOp .Not a pos) (NK ta):=.of (by
 have ha:=ha.to
 intro pins s σ H Q I h
 refine UnaryOp_ (jB (ha pins s σ H _ I h) λv s1 ⟨x,H1,I1,r1,q1⟩=>?_)
 obtain⟨c,rfl,q1⟩:=q1
 cases r1
 exact not_of (wpAny_truthy_bool ⟨.bl (!c),H1,I1,rfl,q1⟩))
end
def SqL (K:PySem.W.Frag) (H:Hp) (a:Addr) (xs:List V):Prop:=
 Rd H a (.lst xs)\/
   ∃(o:Obj) (its:Array Value) (n:Nat),K.lookup a=some o/\o.cls=.type "list"/\o.dict=none/\o.data=.seq its n/\its.size<=sizeLine/\qP xs its.toList
def SqT (K:PySem.W.Frag) (H:Hp) (a:Addr) (xs:List V):Prop:=
 Rd H a (.tup xs)\/
   ∃(o:Obj) (its:Array Value) (n:Nat),K.lookup a=some o/\o.cls=.type "tuple"/\o.data=.seq its n/\its.size<=sizeLine/\qP xs its.toList
def qaL:Value->Option V
 | .none=>some .non
 | .bool b=>some (.bl b)
 | .int i _=>some (.int i)
 | .str x _=>some (.str x)
 | .bytes b _=>some (.byt b)
 | .float b _=>some (.flt b)
 | .ref a=>some (.ref a)
 | .type n=>some (.ty n)
 | _=>none
theorem qX.abs {x:V} {u:Value} (r:qX x u):qaL u=some x:=by
 cases x with
 | non=>cases r;rfl
 | bl _=>cases r;rfl
 | int _=>obtain⟨t,rfl⟩:=r;rfl
 | str _=>obtain⟨t,rfl⟩:=r;rfl
 | byt _=>obtain⟨t,rfl⟩:=r;rfl
 | flt _=>obtain⟨t,rfl⟩:=r;rfl
 | ref _=>cases r;rfl
 | ty _=>cases r;rfl
theorem qX.inj {x y:V} {u:Value} (r:qX x u) (q:qX y u):x=y:=tK.inj (r.abs.symm.trans q.abs)
theorem qP.inj:∀{xs ys:List V} {us:List Value},qP xs us->qP ys us->xs=ys
 | _,_,_,.nil,.nil=>rfl
 | _,_,_,.cons r t,.cons r' t'=>by rw[r.inj r',qP.inj t t']
section
variable {X:Cx} {pins:List (Addr×Obj)} {σ:St} {H:Hp} {s:Shared} {a:Addr} {xs ys:List V}
theorem SqL.of {K:PySem.W.Frag} (h:H a=some (.lst xs)):SqL K H a xs:=.inl (.inl h)
theorem SqT.of {K:PySem.W.Frag} (h:H a=some (.tup xs)):SqT K H a xs:=.inl (.inl h)
theorem qJ.list (I:qJ X pins σ H s) (h:SqL X.K H a xs):∃its:List Value,qP xs its/\PlainL s.heap a its.toArray/\xs.length<=sizeLine:=by
 rcases h with h | ⟨o,its,n,hk,hc,hd,hs,hz,r⟩
 . obtain⟨z,its,n,r,e⟩:=h.ok I.hok
   exact⟨its,r,⟨_,n,e,rfl,rfl,rfl⟩,z⟩
 . refine⟨its.toList,r,⟨o,n,I.kIn a o hk,hc,hd,by simpa using hs⟩,?_⟩
   have e:=r.length
   simp only[zag]at e
   omega
theorem qJ.tuple (I:qJ X pins σ H s) (h:SqT X.K H a xs):∃its:List Value,qP xs its/\IsTup s.heap a its.toArray/\xs.length<=sizeLine:=by
 rcases h with h | ⟨o,its,n,hk,hc,hs,hz,r⟩
 . obtain⟨z,its,r,p⟩:=h.ok I.hok
   exact⟨its,r,p,z⟩
 . refine⟨its.toList,r,⟨o,I.kIn a o hk,hc,n,by simpa using hs⟩,?_⟩
   have e:=r.length
   simp only[zag]at e
   omega
theorem qJ.list_inj (I:qJ X pins σ H s) (h:SqL X.K H a xs) (h':SqL X.K H a ys):xs=ys:=by
 obtain⟨its,r,⟨o,n,e,_,_,d⟩,_⟩:=I.list h
 obtain⟨its',r',⟨o',n',e',_,_,d'⟩,_⟩:=I.list h'
 rw[e]at e';cases e'
 rw[d]at d'
 injection d' with d1 _
 have:its=its':=by simpa using congrArg Array.toList d1
 subst this
 exact r.inj r'
theorem qJ.tuple_inj (I:qJ X pins σ H s) (h:SqT X.K H a xs) (h':SqT X.K H a ys):xs=ys:=by
 obtain⟨its,r,⟨o,e,_,n,d⟩,_⟩:=I.tuple h
 obtain⟨its',r',⟨o',e',_,n',d'⟩,_⟩:=I.tuple h'
 rw[e]at e';cases e'
 rw[d]at d'
 injection d' with d1 _
 have:its=its':=by simpa using congrArg Array.toList d1
 subst this
 exact r.inj r'
end
abbrev Cx.wish (X:Cx) (E:Value->Shared->Prop):Cx:={X with xe:=E}
abbrev Cx.nox (X:Cx):Cx:=X.wish λ_ _=>False
theorem Cx.Ok.wish {X:Cx} (ok:X.Ok) (E:Value->Shared->Prop):(X.wish E).Ok:=
 ⟨ok.mod,ok.kind,ok.glob,ok.blt,ok.above,ok.inj,ok.has,ok.cab,ok.hd,ok.frames,ok.stk,ok.exf,ok.bs,ok.bsz,ok.noex,ok.exfs,ok.funs,ok.frf⟩
theorem Cx.Ok.unwish {X:Cx} {E:Value->Shared->Prop} (ok:(X.wish E).Ok):X.Ok:=
 ⟨ok.mod,ok.kind,ok.glob,ok.blt,ok.above,ok.inj,ok.has,ok.cab,ok.hd,ok.frames,ok.stk,ok.exf,ok.bs,ok.bsz,ok.noex,ok.exfs,ok.funs,ok.frf⟩
section
variable {X:Cx} {pins:List (Addr×Obj)} {σ:St} {H:Hp} {s:Shared} {E:Value->Shared->Prop}
theorem qJ.wish (I:qJ X pins σ H s) (E:Value->Shared->Prop):qJ (X.wish E) pins σ H s:=⟨I.ok.wish E,I.os,I.bare,I.base,I.loc,I.cell,I.free,I.freeC,I.pin,I.hok,I.len⟩
theorem qJ.unwish (I:qJ (X.wish E) pins σ H s):qJ X pins σ H s:=⟨I.ok.unwish,I.os,I.bare,I.base,I.loc,I.cell,I.free,I.freeC,I.pin,I.hok,I.len⟩
theorem SP.unwish {D:QN} {f:Flow} {s':Shared} (h:SP (X.wish E) pins D f s'):SP X pins D f s':=by
 cases f with
 | next=>obtain⟨σ',H',I,q⟩:=h;exact⟨σ',H',I.unwish,q⟩
 | brk=>obtain⟨σ',H',I,q⟩:=h;exact⟨σ',H',I.unwish,q⟩
 | cont=>obtain⟨σ',H',I,q⟩:=h;exact⟨σ',H',I.unwish,q⟩
 | ret u=>obtain⟨v,σ',H',I,r,q⟩:=h;exact⟨v,σ',H',I.unwish,r,q⟩
theorem Gi.nox {st:List Stmt} {t:TS} (h:Gi X.nox st t):Gi X st t:=λpins s σ H D I hw=>
 wpAny_mono (h pins s σ H D (I.wish _) hw) (λ_ _ q=>q.unwish) λ_ _ z=>False.elim z
end
section
variable {X:Cx} {st:Stmt} {rest:List Stmt} {t u:TS} {e:Expr} {te:TE} {pos:Pos}
def Uv:TS:=λD σ H=>D.nx σ H
def w5 (t u:TS):TS:=λD σ H=>t {D with nx:=u D} σ H
theorem qF:WE X [] Uv:=.of (by
 exact λ_ _ σ H _ I h=>wpAny_execs_nil ⟨σ,H,I,h⟩)
theorem qg (h1:JS X st t) (h2:WE X rest u):WE X (st::rest) (w5 t u):=.of (by
 have h1:=h1.to
 have h2:=h2.to
 intro pins s σ H D I h
 refine wpAny_execs_cons (jB (h1 pins s σ H {D with nx:=u D} I h) λf s1 q=>?_)
 cases f with
 | next=>
   obtain⟨σ',H',I',q⟩:=q
   exact h2 pins s1 σ' H' D I' q
 | ret v=>exact q
 | brk=>exact q
 | cont=>exact q)
theorem qh (h1:JS X st t):WE X [st] t:=.of (by
 have h1:=h1.to
 intro pins s σ H D I h
 refine wpAny_execs_cons (jB (h1 pins s σ H D I h) λf s1 q=>?_)
 cases f with
 | next=>exact wpAny_execs_nil q
 | ret v=>exact q
 | brk=>exact q
 | cont=>exact q)
theorem qJ.quiet {pins:List (Addr×Obj)} {σ:St} {H:Hp} {s:Shared} (I:qJ X pins σ H s):interactive X.env=false:=by simp [interactive,I.ok.kind]
def KJ (te:TE):TS:=λD σ H=>te σ H λ_ H1=>D.nx σ H1
theorem jO (he:JE X e te) (hs:swapsWith e none pos.line X.env=pure false:=by rfl):JS X (.Expr e pos) (KJ te):=.of (by
 have he:=he.to
 intro pins s σ H D I h
 exact wpAny_Expr_any (jB (he pins s σ H _ I h) λv s1 ⟨x,H1,I1,r1,q1⟩=>⟨σ,H1,I1,q1⟩) I.quiet hs)
def NI (te:TE):TS:=λD σ H=>te σ H D.rt
theorem qA (he:JE X e te):JS X (.Return (some e) pos) (NI te):=.of (by
 have he:=he.to
 intro pins s σ H D I h
 exact wpAny_Return_some (jB (he pins s σ H _ I h) λv s1 ⟨x,H1,I1,r1,q1⟩=>⟨x,σ,H1,I1,r1,q1⟩))
def w6 (c:TT) (t u:TS):TS:=λD σ H=>c σ H λb H1=>if b=true then t D σ H1 else u D σ H1
theorem qS {c:Expr} {a b:List Stmt} {tc:TT} (hc:JT X c tc) (ha:WE X a t) (hb:WE X b u):JS X (.If c a b pos) (w6 tc t u):=.of (by
 have hc:=hc.to
 have ha:=ha.to
 have hb:=hb.to
 intro pins s σ H D I h
 refine wpAny_If (jB (hc pins s σ H _ I h) λd s1 ⟨H1,I1,q1⟩=>?_)
 cases d with
 | true=>exact ha pins s1 σ H1 D I1 q1
 | false=>exact hb pins s1 σ H1 D I1 q1)
def Gv:TS:=λ_ _ _=>False
theorem Qa {sts:List Stmt}:WE X sts Gv:=.of (by
 exact λ_ _ _ _ _ _ h=>h.elim)
end
abbrev TG:=V->St->Hp->(St->Hp->Prop)->Prop
abbrev yd:=List V->St->Hp->(St->Hp->Prop)->Prop
def PG (X:Cx) (target:Expr) (t:TG):Prop:=
 ∀(pins:List (Addr×Obj)) (s:Shared) (σ:St) (H:Hp) (v:V) (u:Value) (Q:St->Hp->Prop),qJ X pins σ H s->qX v u->t v σ H Q->
   wpAny (model X.prog X.w) X.A (assign target X.env u) (λ_ s'=>∃σ' H',qJ X pins σ' H' s'/\Q σ' H') X.xe s
@[irreducible] def JG (X:Cx) (target:Expr) (t:TG):Prop:=PG X target t
theorem JG.of {X:Cx} {target:Expr} {t:TG} (h:PG X target t):JG X target t:=by unfold JG;exact h
theorem JG.to {X:Cx} {target:Expr} {t:TG} (h:JG X target t):PG X target t:=by unfold JG at h;exact h
def PGs (X:Cx) (ts:List Expr) (t:yd):Prop:=
 ∀(pins:List (Addr×Obj)) (s:Shared) (σ:St) (H:Hp) (vs:List V) (us:List Value) (Q:St->Hp->Prop),qJ X pins σ H s->qP vs us->t vs σ H Q->
   wpAny (model X.prog X.w) X.A (assignInOrder ((assignEach ts X.env).map (·.2)) us) (λ_ s'=>∃σ' H',qJ X pins σ' H' s'/\Q σ' H') X.xe s
@[irreducible] def wM (X:Cx) (ts:List Expr) (t:yd):Prop:=PGs X ts t
theorem wM.of {X:Cx} {ts:List Expr} {t:yd} (h:PGs X ts t):wM X ts t:=by unfold wM;exact h
theorem wM.to {X:Cx} {ts:List Expr} {t:yd} (h:wM X ts t):PGs X ts t:=by unfold wM at h;exact h
abbrev M0:=V->V->Hp->VK->Prop
def PIp (X:Cx) (op:Operator) (t:M0):Prop:=
 ∀(pins:List (Addr×Obj)) (s:Shared) (σ:St) (H:Hp) (x y:V) (v u:Value) (Q:VK),qJ X pins σ H s->qX x v->qX y u->t x y H Q->
   wpAny (model X.prog X.w) X.A (inplaceOp op v u) (EP X pins σ Q) X.xe s
section
variable {X:Cx} {pos:Pos}
def Qu (i:Nat):TG:=λv σ H Q=>Q (σ.set i (some v)) H
theorem qv {i:Nat} {x:Str} (hN:X.N.Nodup) (hi:X.N[i]?=some x) (hx:Ni X.env.scope x) (hf:X.fn x=true\/X.env.scope.names.lookup x=some .local:=by first | exact .inl rfl | exact .inr rfl | assumption):JG X (.Name x pos) (Qu i):=.of (by
 intro pins s σ H v u Q I r h
 exact wpAny_assign_Name (JY I hN hi hx r (λs' I'=>⟨_,H,I',h⟩) hf))
def R9:yd:=λvs σ H Q=>vs=[]/\Q σ H
def XH (t:TG) (u:yd):yd:=λvs σ H Q=>∃v r,vs=v::r/\t v σ H λσ' H'=>u r σ' H' Q
theorem Ju:wM X [] R9:=.of (by
 intro pins s σ H vs us Q I r h
 obtain⟨e,h⟩:=h
 subst e
 cases r
 exact assignInOrder_nil ⟨σ,H,I,h⟩)
theorem jw {e:Expr} {es:List Expr} {t:TG} {u:yd} (h1:JG X e t) (h2:wM X es u) (hs:(assignEach (e::es) X.env).map (·.2)=assign e X.env::(assignEach es X.env).map (·.2):=by rfl):wM X (e::es) (XH t u):=.of (by
 have h1:=h1.to
 have h2:=h2.to
 intro pins s σ H vs us Q I r h
 obtain⟨v,vr,e1,h⟩:=h
 subst e1
 cases r with
 | cons r rr=>
   rw[hs]
   refine assignInOrder_cons (jB (h1 pins s σ H _ _ _ I r h) λ_ s1 ⟨σ1,H1,I1,q1⟩=>?_)
   exact h2 pins s1 σ1 H1 _ _ Q I1 rr q1)
def Mr (K:PySem.W.Frag) (n:Nat) (t:yd):TG:=λv σ H Q=>∃a xs,v=.ref a/\SqT K H a xs/\xs.length=n/\t xs σ H Q
theorem YT {es:List Expr} {k:Nat} {t:yd} {n:Nat} (hc:X.calm=true) (h:wM X es t) (hn:(assignEach es X.env).length=n:=by rfl) (hst:(assignEach es X.env).findIdx? (·.1)=none:=by rfl):JG X (.Tuple es k pos) (Mr X.K n t):=.of (by
 have h:=h.to
 intro pins s σ H v u Q I r hw
 obtain⟨a,xs,e1,hq,hl,hw⟩:=hw
 subst e1
 cases r
 obtain⟨its,rv,ht,hz⟩:=I.tuple hq
 refine assign_Tuple_tuple (I.ok.hd hc) ht (by simp [hn,<-hl,rv.length]) hst λh' hx=>?_
 have I1:qJ X pins σ H {s with heap:=h'}:=I.kept (t':=s.toks) λb o e=>hx b o (tM (tG e)) e
 exact h pins _ σ H xs _ Q I1 (by simpa using rv) hw)
def vD (te:TE) (g:TG):TS:=λD σ H=>te σ H λx H1=>g x σ H1 D.nx
theorem x3 {tg e:Expr} {te:TE} {g:TG} (he:JE X e te) (hg:JG X tg g) (hs:swapsWithSole [tg] e pos.line X.env=pure false:=by rfl) (hw:swappedStores [tg] e X.env=pure none:=by rfl) (h1:(assignEach [tg] X.env).map (·.2)=[assign tg X.env]:=by rfl):JS X (.Assign [tg] e pos) (vD te g):=.of (by
 have he:=he.to
 have hg:=hg.to
 intro pins s σ H D I h
 refine wpAny_Assign_stores (jB (he pins s σ H _ I h) λv s1 ⟨x,H1,I1,r1,q1⟩=>?_) hs hw
 rw[h1]
 exact jB (hg pins s1 σ H1 x v _ I1 r1 q1) λ_ s2 q=>q)
theorem qz {i:Nat} {x:Str} {e:Expr} {te:TE} {pos':Pos} (hN:X.N.Nodup) (hi:X.N[i]?=some x) (hx:Ni X.env.scope x) (he:JE X e te) (hs:swapsWith e (some (.Name x pos')) pos.line X.env=pure false:=by rfl) (hf:X.fn x=true\/X.env.scope.names.lookup x=some .local:=by first | exact .inl rfl | exact .inr rfl | assumption):JS X (.Assign [.Name x pos'] e pos) (vD te (Qu i)):=.of (by
 have he:=he.to
 intro pins s σ H D I h
 refine wpAny_Assign_Name (jB (he pins s σ H _ I h) λv s1 ⟨y,H1,I1,r1,q1⟩=>?_) hs
 exact JY I1 hN hi hx r1 (λs2 I2=>⟨_,H1,I2,q1⟩) hf)
def NJ (i j:Nat) (ta:TA):TS:=λD σ H=>ta σ H λvs H1=>∃v w,vs=[v,w]/\D.nx ((σ.set i (some v)).set j (some w)) H1
theorem RQ {i j:Nat} {x y:Str} {a b:Expr} {ta:TA} {px py pt:Pos} {kt k2 pt2} (hc:X.calm=true) (hN:X.N.Nodup) (hi:X.N[i]?=some x) (hj:X.N[j]?=some y) (hij:i≠j) (hx:X.env.scope.names.lookup x=some .local) (hy:X.env.scope.names.lookup y=some .local) (ha:JA X [a,b] ta) (hw:swappedStores [.Tuple [.Name x px,.Name y py] kt pt] (.Tuple [a,b] k2 pt2) X.env=pure (some [x,y])) (hs:swapsWithSole [.Tuple [.Name x px,.Name y py] kt pt] (.Tuple [a,b] k2 pt2) pos.line X.env=pure false:=by rfl):JS X (.Assign [.Tuple [.Name x px,.Name y py] kt pt] (.Tuple [a,b] k2 pt2) pos) (NJ i j ta):=.of (by
 have ha:=ha.to
 intro pins s σ H D I h
 rw[exec_Assign_arm]
 refine wpAny_bind (wpAny_standAt ?_)
 rw[hs]
 refine wpAny_bind (wpAny_pure ?_)
 rw[if_neg (by decide)]
 refine wpAny_bind (Tuple_ (jB (ha _ pins s σ H _ I h) λus s1 ⟨vs,H1,I1,r1,q1⟩=>?_))
 obtain⟨v,w,e1,q1⟩:=q1
 subst e1
 obtain⟨u1,u2,rfl,rv,rw'⟩:∃u1 u2,us=[u1,u2]/\qX v u1/\qX w u2:=by
   cases r1 with
   | cons p q=>
     cases q with
     | cons p' q'=>
       cases q'
       exact⟨_,_,rfl,p,p'⟩
 refine wpAny_newObj_type ?_ (by show 2<=sizeLine;decide)
 have I2:qJ X pins σ H1 {s1 with heap:=s1.heap.push {cls:=.type "tuple",data:=.seq [u1,u2].toArray}}:=I1.kept (t':=s1.toks) λb o e=>tq _ e
 rw[hw]
 refine wpAny_bind (wpAny_pure ?_)
 show wpAny (model X.prog X.w) X.A (do rule "assign.swapped-stores";let items <-unpackItems (.ref s1.heap.objs.size) 2 none;assignInOrder [λv=>bindName X.env y v,λv=>bindName X.env x v] items.reverse;pure Flow.next) _ _ _
 refine wpAny_bind (wpAny_rule (wpAny_bind (unpackItems_tuple (items:=#[u1,u2]) (I.ok.hd hc) (IsTup.new s1.heap _) λh' hx'=>?_)))
 have I3:=I2.kept (h':=h') (t':=s1.toks) λb o e=>hx' b o (tM (tG e)) e
 show wpAny _ _ (assignInOrder [λv=>bindName X.env y v,λv=>bindName X.env x v] [u2,u1] >>= λ_=>pure Flow.next) _ _ _
 refine wpAny_bind (assignInOrder_cons (wpAny_bindName (JY I3 hN hj (.inl hy) rw' (λs2 I4=>?_) (.inr hy))))
 refine assignInOrder_cons (wpAny_bindName (JY I4 hN hi (.inl hx) rv (λs3 I5=>assignInOrder_nil (wpAny_pure ?_)) (.inr hx)))
 rw[List.set_comm _ _ (Ne.symm hij)]at I5
 exact⟨_,H1,I5,q1⟩)
def qae (i:Nat) (te:TE) (ti:M0):TS:=λD σ H=>∃x,σ[i]?=some (some x)/\te σ H λy H1=>ti x y H1 λz H2=>D.nx (σ.set i (some z)) H2
theorem RS {i:Nat} {x:Str} {e:Expr} {te:TE} {op:Operator} {ti:M0} {pos':Pos} (hN:X.N.Nodup) (hi:X.N[i]?=some x) (hx:Ni X.env.scope x) (he:JE X e te) (ho:PIp X op ti) (hf:X.fn x=true\/X.env.scope.names.lookup x=some .local:=by first | exact .inl rfl | exact .inr rfl | assumption):JS X (.AugAssign (.Name x pos') op e pos) (qae i te ti):=.of (by
 have he:=he.to
 intro pins s σ H D I h
 obtain⟨v,e1,h⟩:=h
 obtain⟨m,hn,hl⟩:=I.loc
 have vis:Nz X.env.scope x:=by rcases hx with k | k;exact .inl k;exact .inr (.inl k)
 obtain⟨u,r,l⟩:=hl i x v hi e1 vis
 refine wpAny_AugAssign_Name ?_
 have go:wpAny (model X.prog X.w) X.A (eval e X.env) (λw s₂=>wpAny (model X.prog X.w) X.A (inplaceOp op u w) (λr s₃=>wpAny (model X.prog X.w) X.A (storeName X.env x r) (λ_=>SP X pins D .next) X.xe s₃) X.xe s₂) X.xe s:=by
   refine jB (he pins s σ H _ I h) λw s1 ⟨y,H1,I1,r1,q1⟩=>?_
   refine jB (ho pins s1 σ H1 v y u w _ I1 r r1 q1) λz s2 ⟨zv,H2,I2,r2,q2⟩=>?_
   exact JY I2 hN hi hx r2 (λs3 I3=>⟨_,H2,I3,q2⟩) hf
 rcases l with ⟨hk,hm⟩ | ⟨hk,c,hc,hcell⟩
 . exact wpAny_loadName_local I.ok.kind hk hn hm go
 . rcases hk with hk | hk
   . exact wpAny_loadName_cell I.ok.kind hk hc hcell go
   . rcases hx with k | k
     . have:X.env.scope.names.lookup x=some .free:=hk
       rw[k]at this;cases this
     . have:X.env.scope.names.lookup x=some .free:=hk
       rw[k]at this;cases this)
def ipI (f:Int->Int->Int):M0:=λx y H Q=>∃i j,x=.int i/\y=.int j/\Q (.int (f i j)) H
theorem R1:PIp X .Add (ipI λi j=>i+j):=by
 intro pins s σ H x y v u Q I r1 r2 h
 obtain⟨i,j,e1,e2,q⟩:=h
 subst e1;subst e2
 obtain⟨t,rfl⟩:=r1
 obtain⟨t',rfl⟩:=r2
 exact iadd_int ⟨.int _,H,I.tok _,⟨_,rfl⟩,q⟩
end
section
variable {X:Cx} {pos:Pos}
def yk (c:TT) (tb:TS):TS:=λD σ H=>∃W:Nat->St->Hp->Prop,(∃m,W m σ H)/\∀m σ H,W m σ H->
 c σ H λb H1=>if b=true then ∃N:St->Hp->Prop,(∀σ' H',N σ' H'->∃m',m' < m/\W m' σ' H')/\tb {D with nx:=N,ct:=N,bk:=D.nx} σ H1 else D.nx σ H1
theorem YS {c:Expr} {body:List Stmt} {tc:TT} {tb:TS} (hp:PassesOwn (model X.prog X.w) X.A X.env X.xe) (hc:JT X c tc) (hb:WE X body tb):JS X (.While c body [] pos) (yk tc tb):=.of (by
 have hc:=hc.to
 have hb:=hb.to
 intro pins s σ H D I h
 obtain⟨W,⟨m0,w0⟩,turn⟩:=h
 refine wpAny_While (codeAny_whileLoop (λn s'=>∃σ' H',qJ X pins σ' H' s'/\W n σ' H') ?_ m0 ⟨σ,H,I,w0⟩)
 rintro n s1 ⟨σ1,H1,I1,w1⟩
 refine wpAny_passesOwn hp (jB (hc pins s1 σ1 H1 _ I1 (turn n σ1 H1 w1)) λb s2 ⟨H2,I2,q2⟩=>?_)
 cases b with
 | true=>
   obtain⟨N,hN,q2⟩:=q2
   rw[if_pos rfl]
   refine wpAny_passesOwn hp (jB (hb pins s2 σ1 H2 _ I2 q2) λf s3 q3=>?_)
   cases f with
   | next=>
     obtain⟨σ3,H3,I3,n3⟩:=q3
     obtain⟨m',hm,w3⟩:=hN σ3 H3 n3
     exact⟨m',hm,σ3,H3,I3,w3⟩
   | cont=>
     obtain⟨σ3,H3,I3,n3⟩:=q3
     obtain⟨m',hm,w3⟩:=hN σ3 H3 n3
     exact⟨m',hm,σ3,H3,I3,w3⟩
   | brk=>exact q3
   | ret v=>exact q3
 | false=>
   rw[if_neg tI]
   exact wpAny_execs_nil ⟨σ1,H2,I2,q2⟩)
end
structure It where
 go:Nat->Hp->Prop
 yld:Nat->Hp->V->Hp->Prop
 stop:Nat->Hp->Prop
def ZK (X:Cx) (pins:List (Addr×Obj)) (H:Hp) (b:Addr):Prop:=
 H b=none/\b≠X.env.locals/\b∉X.fs/\(b∈X.ex\/X.s₀.heap.objs.size<=b)/\(∀x c,X.env.cells.lookup x=some c->c≠b)/\∀p∈X.pn++pins,p.1≠b
theorem qJ.fpOk {X:Cx} {pins:List (Addr×Obj)} {σ:St} {H H':Hp} {s:Shared} {b:Addr} (I:qJ X pins σ H s) (hb:s.heap.objs.size<=b) (hn:H' b=none):ZK X pins H' b:=by
 refine⟨hn,zbz (tO I.lt hb),I.nofs hb,.inr (tV I.sz hb),λx c e z=>?_,λp hp z=>?_⟩
 . obtain⟨v,q⟩:=I.cell x c e
   exact absurd (tO q.lt (by rw[z];exact hb)) (zay _)
 . exact absurd (tO (tG (I.pin p hp).1) (by rw[z];exact hb)) (zay _)
structure WA (P:Program) (w:World) (K:PySem.W.Frag) (tg:Expr) (J:It) (fp:List Addr) (it:Addr) (tn:Nat->Heap->Prop):Prop where
 mem:it∈fp
 obj:∀i h,tn i h->∀b∈fp,∃o,h.get? b=some o/\∀v,o.data≠.cell v
 keep:∀i h h',tn i h->(∀b∈fp,∀o,h.get? b=some o->h'.get? b=some o)->tn i h'
 item:∀(X:Cx),X.prog=P->X.w=w->X.K=K->X.calm=true->∀(i:Nat) (pins:List (Addr×Obj)) (s:Shared) (σ:St) (H:Hp) (E:Value->Shared->Prop),qJ X pins σ H s->(∀b∈fp,ZK X pins H b)->tn i s.heap->J.go i H->
   wpAny (model P w) X.A (pyNext (.ref it)) (λr s1=>∃u,r=some u/\
     wpAny (model P w) X.A (letOwnedTupleGo tg (.ref it) u) (λ_ s2=>∃x H',qJ X pins σ H' s2/\qX x u/\J.yld i H x H'/\tn (i+1) s2.heap/\∀b∈fp,H' b=none) E s1) E s
 done:∀(X:Cx),X.prog=P->X.w=w->X.K=K->X.calm=true->∀(i:Nat) (pins:List (Addr×Obj)) (s:Shared) (σ:St) (H:Hp) (E:Value->Shared->Prop),qJ X pins σ H s->(∀b∈fp,ZK X pins H b)->tn i s.heap->J.stop i H->
   wpAny (model P w) X.A (pyNext (.ref it)) (λr s1=>r=none/\qJ X pins σ H s1) E s
 self:∀(A:Around) (i:Nat) (s:Shared) (Q:Value->Shared->Prop) (E:Value->Shared->Prop),tn i s.heap->Q (.ref it) s->wpAny (model P w) A (pyIter (.ref it)) Q E s
abbrev TI:=St->Hp->(It->Hp->Prop)->Prop
def PIE (X:Cx) (pins:List (Addr×Obj)) (σ:St) (tg:Expr) (R:It->Hp->Prop) (itv:Value) (s2:Shared):Prop:=
 ∃(it:Addr) (fp:List Addr) (tn:Nat->Heap->Prop) (J:It) (H':Hp),itv=.ref it/\qJ X pins σ H' s2/\WA X.prog X.w X.K tg J fp it tn/\tn 0 s2.heap/\(∀b∈fp,ZK X pins H' b)/\R J H'
def PI (X:Cx) (tg iter:Expr) (wi:TI):Prop:=
 ∀(pins:List (Addr×Obj)) (s:Shared) (σ:St) (H:Hp) (R:It->Hp->Prop),qJ X pins σ H s->wi σ H R->
   wpAny (model X.prog X.w) X.A (eval iter X.env) (λv s1=>wpAny (model X.prog X.w) X.A (pyIter v) (PIE X pins σ tg R) X.xe s1) X.xe s
@[irreducible] def JI (X:Cx) (tg iter:Expr) (wi:TI):Prop:=PI X tg iter wi
theorem JI.of {X:Cx} {tg iter:Expr} {wi:TI} (h:PI X tg iter wi):JI X tg iter wi:=by unfold JI;exact h
theorem JI.to {X:Cx} {tg iter:Expr} {wi:TI} (h:JI X tg iter wi):PI X tg iter wi:=by unfold JI at h;exact h
theorem XF {M:Model} {A:Around} {E:Value->Shared->Prop} {s:Shared} {tg:Expr} {it:Addr} {u:Value} {o:Obj} {n:String} {vs:Array Value} {Q:Unit->Shared->Prop} (ho:s.heap.get? it=some o) (hc:o.cls=.type n) (hd:o.data=.fields vs)
   (hn:["enumerate","zip","dict_itemiterator","dict_reverseitemiterator","odict_iterator","itertools.zip_longest","itertools.pairwise"].contains n=false) (hQ:Q () s):wpAny M A (letOwnedTupleGo tg (.ref it) u) Q E s:=by
 unfold letOwnedTupleGo
 cases tg<;>first
   | exact wpAny_pure hQ
   | (cases u<;>first
       | exact wpAny_pure hQ
       | (refine wpAny_bind (wpAny_load ho ?_)
          rw[hc,hd]
          show wpAny M A (if (["enumerate","zip","dict_itemiterator","dict_reverseitemiterator","odict_iterator","itertools.zip_longest","itertools.pairwise"].contains n&&vs[0]?==some (rawInt _))=true then _ else _) Q E s
          rw[if_neg (by intro h;rw[hn,zcT]at h;cases h)]
          exact wpAny_pure hQ))
def Nk (K:PySem.W.Frag) (a:Addr):It:=
 ⟨λi H=>∃xs x,SqL K H a xs/\xs[i]?=some x,λi H x H'=>H'=H/\∀xs,SqL K H a xs->xs[i]?=some x,λi H=>∃xs,SqL K H a xs/\xs.length<=i⟩
def Nj (K:PySem.W.Frag) (a:Addr):It:=
 ⟨λi H=>∃xs x,SqT K H a xs/\xs[i]?=some x,λi H x H'=>H'=H/\∀xs,SqT K H a xs->xs[i]?=some x,λi H=>∃xs,SqT K H a xs/\xs.length<=i⟩
def Gn (lo:Int) (n:Nat):It:=⟨λi _=>i < n,λi H x H'=>H'=H/\x=.int (lo+i),λi _=>n<=i⟩
theorem vz {P:Program} {w:World} {K:PySem.W.Frag} {tg:Expr} (a it:Addr):WA P w K tg (Nk K a) [it] it (λi h=>h.IsListIter it a i) where
 mem:=by simp
 obj:=λi h st b hb=>by
   have e:b=it:=by simpa using hb
   subst e
   obtain⟨o,e,c,d⟩:=st
   exact⟨o,e,λv z=>by rw[d]at z;cases z⟩
 keep:=λi h h' st k=>st.at λo e=>k it (by simp) o e
 item:=by
   intro X hP hw hK hc i pins s σ H E I hf st hg
   subst hP hw hK
   obtain⟨xs,x,hq,hx⟩:=hg
   obtain⟨its,rv,p,hz⟩:=I.list hq
   obtain⟨u,hu,ru⟩:=rv.get hx
   obtain⟨f0,f1,f2,f3,f4,f5⟩:=hf it (by simp)
   refine wpAny_pyNext_list_item st p.isList (x:=u) (by simpa using hu) λh' st' sb=>?_
   have I1:qJ X pins σ H {s with heap:=h'}:=I.turned (t':=s.toks) (λb o hb e=>(sb.2 b hb).trans e) f0 f1 f3 f4 f5
   obtain⟨o,e,c,d⟩:=id st'
   exact⟨u,rfl,XF (s:={s with heap:=h'}) e c d (by decide) ⟨x,H,I1,ru,⟨rfl,λys hy=>by rw[I.list_inj hy hq];exact hx⟩,st',λb hb=>(hf b hb).1⟩⟩
 done:=by
   intro X hP hw hK hc i pins s σ H E I hf st hg
   subst hP hw hK
   obtain⟨xs,hq,hx⟩:=hg
   obtain⟨its,rv,p,hz⟩:=I.list hq
   obtain⟨f0,f1,f2,f3,f4,f5⟩:=hf it (by simp)
   have hl:=rv.length
   exact wpAny_pyNext_list_end (I.ok.hd hc) st p.isList (by simp;omega) λh' eb=>⟨rfl,I.turned (t':=s.toks) (λb o hb e=>eb b o hb e) f0 f1 f3 f4 f5⟩
 self:=λ_ _ _ _ _ st h=>wpAny_pyIter_listiter st h
theorem Vw {P:Program} {w:World} {K:PySem.W.Frag} {tg:Expr} (a it:Addr):WA P w K tg (Nj K a) [it] it (λi h=>h.IsTupleIter it a i) where
 mem:=by simp
 obj:=λi h st b hb=>by
   have e:b=it:=by simpa using hb
   subst e
   obtain⟨o,e,c,d⟩:=st
   exact⟨o,e,λv z=>by rw[d]at z;cases z⟩
 keep:=λi h h' st k=>st.at λo e=>k it (by simp) o e
 item:=by
   intro X hP hw hK hc i pins s σ H E I hf st hg
   subst hP hw hK
   obtain⟨xs,x,hq,hx⟩:=hg
   obtain⟨its,rv,p,hz⟩:=I.tuple hq
   obtain⟨u,hu,ru⟩:=rv.get hx
   obtain⟨f0,f1,f2,f3,f4,f5⟩:=hf it (by simp)
   refine wpAny_pyNext_tuple_item st (show s.heap.IsTuple a its.toArray from p) (x:=u) (by simpa using hu) λh' st' sb=>?_
   have I1:qJ X pins σ H {s with heap:=h'}:=I.turned (t':=s.toks) (λb o hb e=>(sb.2 b hb).trans e) f0 f1 f3 f4 f5
   obtain⟨o,e,c,d⟩:=id st'
   exact⟨u,rfl,XF (s:={s with heap:=h'}) e c d (by decide) ⟨x,H,I1,ru,⟨rfl,λys hy=>by rw[I.tuple_inj hy hq];exact hx⟩,st',λb hb=>(hf b hb).1⟩⟩
 done:=by
   intro X hP hw hK hc i pins s σ H E I hf st hg
   subst hP hw hK
   obtain⟨xs,hq,hx⟩:=hg
   obtain⟨its,rv,p,hz⟩:=I.tuple hq
   obtain⟨f0,f1,f2,f3,f4,f5⟩:=hf it (by simp)
   have hl:=rv.length
   exact wpAny_pyNext_tuple_end (I.ok.hd hc) st (show s.heap.IsTuple a its.toArray from p) (by simp;omega) λh' eb=>⟨rfl,I.turned (t':=s.toks) (λb o hb e=>eb b o hb e) f0 f1 f3 f4 f5⟩
 self:=λ_ _ _ _ _ st h=>wpAny_pyIter_tupleiter st h
theorem Vx {P:Program} {w:World} {K:PySem.W.Frag} {tg:Expr} (it:Addr) (lo:Int) (n:Nat):WA P w K tg (Gn lo n) [it] it (λi h=>IsRangeIter h it (lo+(i:Nat)*1) ((n:Int) - (i:Nat)) 1) where
 mem:=by simp
 obj:=λi h st b hb=>by
   have e:b=it:=by simpa using hb
   subst e
   exact⟨_,st,λv z=>by
     have z':Data.fields _=Data.cell v:=z
     cases z'⟩
 keep:=λi h h' st k=>k it (by simp) _ st
 item:=by
   intro X hP hw hK hc i pins s σ H E I hf st hg
   subst hP hw hK
   obtain⟨f0,f1,f2,f3,f4,f5⟩:=hf it (by simp)
   have W:=Walks.range (prog:=X.prog) (w:=X.w) (I.ok.hd hc) it lo 1 n
   refine W.item i s _ _ hg st λv h' tk hv st' kk=>?_
   obtain⟨t,rfl⟩:=hv
   have I1:qJ X pins σ H {s with heap:=h',toks:=tk}:=I.turned (λb o hb e=>kk b o (by simpa using hb) e) f0 f1 f3 f4 f5
   refine⟨_,rfl,XF (s:={s with heap:=h',toks:=tk}) (n:="range_iterator") st' rfl rfl (by decide) ⟨.int (lo+i),H,I1,⟨t,?_⟩,⟨rfl,rfl⟩,st',λb hb=>(hf b hb).1⟩⟩
   rw[Int.mul_one]
 done:=by
   intro X hP hw hK hc i pins s σ H E I hf st hg
   subst hP hw hK
   obtain⟨f0,f1,f2,f3,f4,f5⟩:=hf it (by simp)
   exact wpAny_pyNext_range_end (I.ok.hd hc) st (by have:n<=i:=hg;omega) λh' eb=>⟨rfl,I.turned (t':=s.toks) (λb o hb e=>eb b o hb e) f0 f1 f3 f4 f5⟩
 self:=λ_ _ _ _ _ st h=>wpAny_pyIter_rangeiter st h
section
variable {X:Cx} {tg:Expr}
def Mo (K:PySem.W.Frag) (tl:TE):TI:=λσ H R=>tl σ H λx H1=>∃a,x=.ref a/\(∃xs,SqL K H1 a xs)/\R (Nk K a) H1
def qaE (K:PySem.W.Frag) (tl:TE):TI:=λσ H R=>tl σ H λx H1=>∃a,x=.ref a/\(∃xs,SqT K H1 a xs)/\R (Nj K a) H1
theorem jl {l:Expr} {tl:TE} (hl:JE X l tl):JI X tg l (Mo X.K tl):=.of (by
 have hl:=hl.to
 intro pins s σ H R I h
 refine jB (hl pins s σ H _ I h) λv s1 ⟨x,H1,I1,r1,q1⟩=>?_
 obtain⟨a,e,⟨xs,hq⟩,q⟩:=q1
 subst e
 cases r1
 obtain⟨its,rv,p,hz⟩:=I1.list hq
 refine wpAny_pyIter_list p.isList ?_
 refine⟨s1.heap.objs.size,[s1.heap.objs.size],_,_,H1,rfl,I1.kept (t':=s1.toks) λb o e=>tq _ e,vz a _,⟨_,tJ _ rfl,rfl,rfl⟩,λb hb=>?_,q⟩
 have e:b=s1.heap.objs.size:=by simpa using hb
 subst e
 exact I1.fpOk (tu _) (I1.hok.fresh (tu _)))
theorem Jd {l:Expr} {tl:TE} (hl:JE X l tl):JI X tg l (qaE X.K tl):=.of (by
 have hl:=hl.to
 intro pins s σ H R I h
 refine jB (hl pins s σ H _ I h) λv s1 ⟨x,H1,I1,r1,q1⟩=>?_
 obtain⟨a,e,⟨xs,hq⟩,q⟩:=q1
 subst e
 cases r1
 obtain⟨its,rv,p,hz⟩:=I1.tuple hq
 refine wpAny_pyIter_tuple (show s1.heap.IsTuple a its.toArray from p) ?_
 refine⟨s1.heap.objs.size,[s1.heap.objs.size],_,_,H1,rfl,I1.kept (t':=s1.toks) λb o e=>tq _ e,Vw a _,⟨_,tJ _ rfl,rfl,rfl⟩,λb hb=>?_,q⟩
 have e:b=s1.heap.objs.size:=by simpa using hb
 subst e
 exact I1.fpOk (tu _) (I1.hok.fresh (tu _)))
theorem yR {pins:List (Addr×Obj)} {σ:St} {H:Hp} {s:Shared} {R:It->Hp->Prop} {E:Value->Shared->Prop} {lo hi:Int} {t u v:Tok} {tk:Nat} (I:qJ X pins σ H s) (h1:-(2^62)<=lo) (h2:lo < 2^62) (h3:-(2^62)<=hi) (h4:hi < 2^62)
   (q:R (Gn lo (hi - lo).toNat) H):wpAny (model X.prog X.w) X.A (pyIter (.ref s.heap.objs.size)) (PIE X pins σ tg R) E {s with heap:=s.heap.push {cls:=.type "range",data:=.fields #[.int lo t,.int hi u,.int 1 v]},toks:=tk}:=by
 refine wpAny_pyIter_range (IsRange.new ..) (small_one h1 h2 h3 h4) ?_
 have I1:qJ X pins σ H {s with heap:=s.heap.push {cls:=.type "range",data:=.fields #[.int lo t,.int hi u,.int 1 v]},toks:=tk}:=I.kept λb o e=>tq _ e
 refine⟨(s.heap.push {cls:=.type "range",data:=.fields #[.int lo t,.int hi u,.int 1 v]}).objs.size,[(s.heap.push {cls:=.type "range",data:=.fields #[.int lo t,.int hi u,.int 1 v]}).objs.size],_,_,H,rfl,
   I1.kept (t':=tk) λb o e=>tq _ e,Vx _ lo (hi - lo).toNat,?_,λb hb=>?_,q⟩
 . have e1:lo+((0:Nat):Int)*1=lo:=by simp
   have e2:(((hi - lo).toNat:Nat):Int) - ((0:Nat):Int)=Builtin.Range.rangeSize lo hi 1:=by rw[rangeSize_one];split<;>omega
   show IsRangeIter _ _ (lo+((0:Nat):Int)*1) ((((hi - lo).toNat:Nat):Int) - ((0:Nat):Int)) 1
   rw[e1,e2]
   exact tJ _ rfl
 . have e:b=(s.heap.push {cls:=.type "range",data:=.fields #[.int lo t,.int hi u,.int 1 v]}).objs.size:=by simpa using hb
   subst e
   exact I1.fpOk (tu _) (I1.hok.fresh (tu _))
def Mn (ta:TA):TI:=λσ H R=>ta σ H λvs H1=>∃j:Int,vs=[.int j]/\-(2^62)<=j/\j < 2^62/\R (Gn 0 j.toNat) H1
theorem jK {a:Expr} {ta:TA} {p pos:Pos} (hg:Gl X "range") (hm:X.mg "range"=none) (ha:JA X [a] ta) (hs:starEach [a] X.env=[(false,eval a X.env)]:=by rfl):JI X tg (.Call (.Name "range" p) [a] [] pos) (Mn ta):=.of (by
 have ha:=ha.to
 intro pins s σ H R I h
 refine Call_ (Jb I hg hm boot_range (PyProof.Rows.callWith_type1 (jB (ha pos pins s σ H _ I h) λus s1 ⟨vs,H1,I1,r1,q1⟩=>?_) hs rfl))
 obtain⟨j,e,q1,q2,q⟩:=q1
 subst e
 cases r1 with
 | cons r rr=>
   cases rr
   obtain⟨t,rfl⟩:=r
   exact call_range_1 (yR I1 (by omega) (by omega) q1 q2 (by simpa using q)))
def qaa (wi:TI) (g:TG) (tb:TS):TS:=λD σ H=>wi σ H λJ H1=>∃W:Nat->Nat->St->Hp->Prop,(∃m,W 0 m σ H1)/\∀i m σ H,W i m σ H->
 (J.stop i H/\D.nx σ H)\/(J.go i H/\∃N:St->Hp->Prop,(∀σ' H',N σ' H'->∃m',m' < m/\W (i+1) m' σ' H')/\∀x H',J.yld i H x H'->g x σ H' λσ2 H2=>tb {D with nx:=N,ct:=N,bk:=D.nx} σ2 H2)
def YE (fp:List Addr) (h:Heap):List (Addr×Obj):=fp.filterMap λb=>(h.get? b).map λo=>(b,o)
theorem Js {fp:List Addr} {h:Heap} {b:Addr} {o:Obj} (hb:b∈fp) (e:h.get? b=some o):(b,o)∈YE fp h:=zal.mpr ⟨b,hb,by rw[e];rfl⟩
theorem kj {fp:List Addr} {h:Heap} {p:Addr×Obj} (hp:p∈YE fp h):p.1∈fp/\h.get? p.1=some p.2:=by
 obtain⟨b,hb,e⟩:=zal.mp hp
 cases q:h.get? b with
 | none=>rw[q]at e;cases e
 | some o=>
   rw[q]at e
   have e':(b,o)=p:=tK.inj e
   subst e'
   exact⟨hb,q⟩
theorem qJ.pinned {pins:List (Addr×Obj)} {σ:St} {H:Hp} {s:Shared} {fp:List Addr} (I:qJ X pins σ H s) (hf:∀b∈fp,ZK X pins H b) (ho:∀b∈fp,∃o,s.heap.get? b=some o/\∀v,o.data≠.cell v):qJ X (pins++YE fp s.heap) σ H s:=
 I.pins_of λp hp=>(tZ.mp hp).elim (λz=>I.pin p (zak _ z)) λz=>by
   obtain⟨hb,e⟩:=kj z
   obtain⟨f0,f1,f2,_⟩:=hf p.1 hb
   obtain⟨o,e',d⟩:=ho p.1 hb
   rw[e]at e';cases e'
   exact⟨e,f0,f1,f2,d⟩
theorem qJ.unpinned {pins pl:List (Addr×Obj)} {σ:St} {H:Hp} {s:Shared} (I:qJ X (pins++pl) σ H s):qJ X pins σ H s:=I.pins_of λp hp=>I.pin p (zak _ (zbY _ hp))
theorem jp {iter:Expr} {body:List Stmt} {wi:TI} {g:TG} {tb:TS} {pos:Pos} (hp:PassesOwn (model X.prog X.w) X.A X.env X.xe) (hc:X.calm=true) (hi:JI X tg iter wi) (hg:JG X tg g) (hb:WE X body tb) (hs:∀x,foldedSetIterable iter X.env x=pure x:=by intro _;rfl):JS X (.For tg iter body [] pos) (qaa wi g tb):=.of (by
 have hi:=hi.to
 have hg:=hg.to
 have hb:=hb.to
 intro pins s σ H D I h
 refine wpAny_For (jB (hi pins s σ H _ I h) λv s1 h1=>jB h1 λitv s2 h2=>?_) hs
 obtain⟨it,fp,tn,J,H2,e,I2,T,st2,f2,W,⟨m0,w0⟩,turn⟩:=h2
 subst e
 have stat:∀{H':Hp},(∀b∈fp,H' b=none)->∀b∈fp,ZK X pins H' b:=λhn b hb=>⟨hn b hb,(f2 b hb).2⟩
 refine codeAny_forLoop_any (λn s'=>∃i σ' H',qJ X pins σ' H' s'/\tn i s'.heap/\(∀b∈fp,H' b=none)/\W i n σ' H') ?_ m0 ⟨0,σ,H2,I2,st2,λb hb=>(f2 b hb).1,w0⟩
 rintro n s3 ⟨i,σ3,H3,I3,st3,fr3,w3⟩
 rcases turn i n σ3 H3 w3 with ⟨stop,qn⟩ | ⟨go,N,hN,step⟩
 . refine wpAny_passesOwn hp (jB (T.done X rfl rfl rfl hc i pins s3 σ3 H3 X.xe I3 (stat fr3) st3 stop) λr s4 ⟨hr,I4⟩=>?_)
   subst hr
   exact wpAny_execs_nil ⟨σ3,H3,I4,qn⟩
 . refine wpAny_passesOwn hp (jB (T.item X rfl rfl rfl hc i pins s3 σ3 H3 X.xe I3 (stat fr3) st3 go) λr s4 ⟨u,hr,h4⟩=>?_)
   subst hr
   refine wpAny_passesOwn hp (jB h4 λ_ s5 ⟨x,H5,I5,r5,y5,st5,fr5⟩=>?_)
   have I5':=I5.pinned (stat fr5) (T.obj _ _ st5)
   refine wpAny_passesOwn hp (jB (hg _ s5 σ3 H5 x u _ I5' r5 (step x H5 y5)) λ_ s6 ⟨σ6,H6,I6,q6⟩=>?_)
   refine wpAny_passesOwn hp (jB (hb _ s6 σ6 H6 _ I6 q6) λf s7 q7=>?_)
   have again:∀{σ7:St} {H7:Hp},qJ X (pins++YE fp s5.heap) σ7 H7 s7->N σ7 H7->∃m,m < n/\∃i σ' H',qJ X pins σ' H' s7/\tn i s7.heap/\(∀b∈fp,H' b=none)/\W i m σ' H':=λ{σ7 H7} I7 n7=>by
     obtain⟨m',hm,w7⟩:=hN σ7 H7 n7
     refine⟨m',hm,i+1,σ7,H7,I7.unpinned,T.keep _ _ _ st5 λb hb o e=>(I7.pin (b,o) (zak _ (zak _ (Js hb e)))).1,λb hb=>?_,w7⟩
     obtain⟨o,e,d⟩:=T.obj _ _ st5 b hb
     exact(I7.pin (b,o) (zak _ (zak _ (Js hb e)))).2.1
   cases f with
   | next=>obtain⟨σ7,H7,I7,n7⟩:=q7;exact again I7 n7
   | cont=>obtain⟨σ7,H7,I7,n7⟩:=q7;exact again I7 n7
   | brk=>obtain⟨σ7,H7,I7,q7⟩:=q7;exact⟨σ7,H7,I7.unpinned,q7⟩
   | ret v=>obtain⟨x7,σ7,H7,I7,r7,q7⟩:=q7;exact⟨x7,σ7,H7,I7.unpinned,r7,q7⟩)
end
theorem j7 {K:PySem.W.Frag} {a:Addr} {xs:List V} {g:TG} {tb:TS} {D:QN} {σ:St} {H:Hp} (Pv:Nat->St->Hp->Prop) (h0:Pv 0 σ H) (hl:∀i σ H,i<=xs.length->Pv i σ H->SqL K H a xs)
   (hs:∀i x σ H,xs[i]?=some x->Pv i σ H->g x σ H λσ2 H2=>tb {D with nx:=Pv (i+1),ct:=Pv (i+1),bk:=D.nx} σ2 H2) (hd:∀σ H,Pv xs.length σ H->D.nx σ H):
   ∃W:Nat->Nat->St->Hp->Prop,(∃m,W 0 m σ H)/\∀i m σ H,W i m σ H->
    ((Nk K a).stop i H/\D.nx σ H)\/((Nk K a).go i H/\∃N:St->Hp->Prop,(∀σ' H',N σ' H'->∃m',m' < m/\W (i+1) m' σ' H')/\∀x H',(Nk K a).yld i H x H'->g x σ H' λσ2 H2=>tb {D with nx:=N,ct:=N,bk:=D.nx} σ2 H2):=by
 refine⟨λi m σ H=>m=xs.length - i/\i<=xs.length/\Pv i σ H,⟨xs.length,by simp,zah _,h0⟩,?_⟩
 rintro i m σ H ⟨rfl,hi,p⟩
 have q:=hl i σ H hi p
 by_cases hlt:i < xs.length
 . refine .inr ⟨⟨xs,xs[i],q,by simp [hlt]⟩,Pv (i+1),λσ' H' p'=>⟨xs.length - (i+1),by omega,rfl,hlt,p'⟩,λx H' y=>?_⟩
   obtain⟨e,y⟩:=y
   subst e
   exact hs i x σ _ (y xs q) p
 . have e:i=xs.length:=by omega
   subst e
   exact .inl ⟨⟨xs,q,tu _⟩,hd σ H p⟩
theorem Z8 {K:PySem.W.Frag} {a:Addr} {xs:List V} {g:TG} {tb:TS} {D:QN} {σ:St} {H:Hp} (Pv:Nat->St->Hp->Prop) (h0:Pv 0 σ H) (hl:∀i σ H,i<=xs.length->Pv i σ H->SqT K H a xs)
   (hs:∀i x σ H,xs[i]?=some x->Pv i σ H->g x σ H λσ2 H2=>tb {D with nx:=Pv (i+1),ct:=Pv (i+1),bk:=D.nx} σ2 H2) (hd:∀σ H,Pv xs.length σ H->D.nx σ H):
   ∃W:Nat->Nat->St->Hp->Prop,(∃m,W 0 m σ H)/\∀i m σ H,W i m σ H->
    ((Nj K a).stop i H/\D.nx σ H)\/((Nj K a).go i H/\∃N:St->Hp->Prop,(∀σ' H',N σ' H'->∃m',m' < m/\W (i+1) m' σ' H')/\∀x H',(Nj K a).yld i H x H'->g x σ H' λσ2 H2=>tb {D with nx:=N,ct:=N,bk:=D.nx} σ2 H2):=by
 refine⟨λi m σ H=>m=xs.length - i/\i<=xs.length/\Pv i σ H,⟨xs.length,by simp,zah _,h0⟩,?_⟩
 rintro i m σ H ⟨rfl,hi,p⟩
 have q:=hl i σ H hi p
 by_cases hlt:i < xs.length
 . refine .inr ⟨⟨xs,xs[i],q,by simp [hlt]⟩,Pv (i+1),λσ' H' p'=>⟨xs.length - (i+1),by omega,rfl,hlt,p'⟩,λx H' y=>?_⟩
   obtain⟨e,y⟩:=y
   subst e
   exact hs i x σ _ (y xs q) p
 . have e:i=xs.length:=by omega
   subst e
   exact .inl ⟨⟨xs,q,tu _⟩,hd σ H p⟩
theorem Ql {lo:Int} {n:Nat} {g:TG} {tb:TS} {D:QN} {σ:St} {H:Hp} (Pv:Nat->St->Hp->Prop) (h0:Pv 0 σ H)
   (hs:∀i σ H,i < n->Pv i σ H->g (.int (lo+i)) σ H λσ2 H2=>tb {D with nx:=Pv (i+1),ct:=Pv (i+1),bk:=D.nx} σ2 H2) (hd:∀σ H,Pv n σ H->D.nx σ H):
   ∃W:Nat->Nat->St->Hp->Prop,(∃m,W 0 m σ H)/\∀i m σ H,W i m σ H->
    ((Gn lo n).stop i H/\D.nx σ H)\/((Gn lo n).go i H/\∃N:St->Hp->Prop,(∀σ' H',N σ' H'->∃m',m' < m/\W (i+1) m' σ' H')/\∀x H',(Gn lo n).yld i H x H'->g x σ H' λσ2 H2=>tb {D with nx:=N,ct:=N,bk:=D.nx} σ2 H2):=by
 refine⟨λi m σ H=>m=n - i/\i<=n/\Pv i σ H,⟨n,by simp,zah _,h0⟩,?_⟩
 rintro i m σ H ⟨rfl,hi,p⟩
 by_cases hlt:i < n
 . refine .inr ⟨hlt,Pv (i+1),λσ' H' p'=>⟨n - (i+1),by omega,rfl,hlt,p'⟩,λx H' y=>?_⟩
   obtain⟨e,y⟩:=y
   subst e y
   exact hs i σ _ hlt p
 . have e:i=n:=by omega
   subst e
   exact .inl ⟨tu _,hd σ H p⟩
theorem Yg {c:TT} {tb:TS} {D:QN} {σ:St} {H:Hp} (Pv:St->Hp->Prop) (μ:St->Hp->Nat) (h0:Pv σ H)
   (hs:∀σ H,Pv σ H->c σ H λb H1=>if b=true then tb {D with nx:=λσ' H'=>Pv σ' H'/\μ σ' H' < μ σ H,ct:=λσ' H'=>Pv σ' H'/\μ σ' H' < μ σ H,bk:=D.nx} σ H1 else D.nx σ H1)
   (mono:∀σ H Q Q',(∀b H1,Q b H1->Q' b H1)->c σ H Q->c σ H Q'):yk c tb D σ H:=by
 refine⟨λm σ H=>m=μ σ H/\Pv σ H,⟨_,rfl,h0⟩,?_⟩
 rintro m σ H ⟨rfl,p⟩
 refine mono σ H _ _ (λb H1 q=>?_) (hs σ H p)
 cases b with
 | true=>exact⟨_,λσ' H' ⟨p',l⟩=>⟨_,l,rfl,p'⟩,q⟩
 | false=>exact q
abbrev R2:=V->V->Hp->VK->Prop
def JF (X:Cx) (f:Value->Value->Sem Value) (r:R2):Prop:=
 ∀(pins:List (Addr×Obj)) (s:Shared) (σ:St) (H:Hp) (x y:V) (v u:Value) (Q:VK),qJ X pins σ H s->qX x v->qX y u->r x y H Q->
   wpAny (model X.prog X.w) X.A (f v u) (EP X pins σ Q) X.xe s
def UnR (X:Cx) (f:Value->Sem Value) (r:V->Hp->VK->Prop):Prop:=
 ∀(pins:List (Addr×Obj)) (s:Shared) (σ:St) (H:Hp) (x:V) (v:Value) (Q:VK),qJ X pins σ H s->qX x v->r x H Q->
   wpAny (model X.prog X.w) X.A (f v) (EP X pins σ Q) X.xe s
def js (X:Cx) (f:Value) (r:List V->Hp->VK->Prop):Prop:=
 ∀(pins:List (Addr×Obj)) (s:Shared) (σ:St) (H:Hp) (xs:List V) (us:List Value) (Q:VK),qJ X pins σ H s->qP xs us->r xs H Q->
   wpAny (model X.prog X.w) X.A (call f us) (EP X pins σ Q) X.xe s
def Jf (r:R2) (ta tb:TE):TE:=λσ H Q=>ta σ H λx H1=>tb σ H1 λy H2=>r x y H2 Q
def tUn (r:V->Hp->VK->Prop) (ta:TE):TE:=λσ H Q=>ta σ H λx H1=>r x H1 Q
def rI (C:Int->Int->Prop) (g:Int->Int->V):R2:=λx y H Q=>∃i j,x=.int i/\y=.int j/\C i j/\Q (g i j) H
def US (g:Int->Int->V):R2:=λx y H Q=>∃i j,x=.int i/\y=.int j/\Q (g i j) H
def rU (g:Int->V):V->Hp->VK->Prop:=λx H Q=>∃i,x=.int i/\Q (g i) H
section
variable {X:Cx} {a b c:Expr} {ta tb tc:TE} {pos:Pos}
theorem Nd (ha:PE X a ta) (hb:PE X b tb) {pins:List (Addr×Obj)} {s:Shared} {σ:St} {H:Hp} {R:V->V->Hp->Prop} (I:qJ X pins σ H s)
   (h:ta σ H λx H1=>tb σ H1 λy H2=>R x y H2) {Q:Value->Shared->Prop} {f:Value->Value->Sem Value}
   (hf:∀v u s2 x y H2,qJ X pins σ H2 s2->qX x v->qX y u->R x y H2->wpAny (model X.prog X.w) X.A (f v u) Q X.xe s2):
   wpAny (model X.prog X.w) X.A (eval a X.env) (λv s₁=>wpAny (model X.prog X.w) X.A (eval b X.env) (λu s₂=>wpAny (model X.prog X.w) X.A (f v u) Q X.xe s₂) X.xe s₁) X.xe s:=by
 refine jB (ha pins s σ H _ I h) λv s1 ⟨x,H1,I1,r1,q1⟩=>?_
 refine jB (hb pins s1 σ H1 _ I1 q1) λu s2 ⟨y,H2,I2,r2,q2⟩=>?_
 exact hf v u s2 x y H2 I2 r1 r2 q2
theorem qH {op:Operator} {r:R2} (ho:JF X (binaryOp op) r) (ha:JE X a ta) (hb:JE X b tb):JE X (.BinOp a op b pos) (Jf r ta tb):=.of (by
 have ha:=ha.to
 have hb:=hb.to
 intro pins s σ H Q I h
 exact wpAny_BinOp (Nd ha hb I h λv u s2 x y H2 I2 rx ry q=>ho pins s2 σ H2 x y v u Q I2 rx ry q))
theorem Mi {op:UnaryOp} {r:V->Hp->VK->Prop} (ho:UnR X (unaryOp op) r) (ha:JE X a ta):JE X (.UnaryOp op a pos) (tUn r ta):=.of (by
 have ha:=ha.to
 intro pins s σ H Q I h
 exact UnaryOp_ (jB (ha pins s σ H _ I h) λv s1 ⟨x,H1,I1,r1,q1⟩=>ho pins s1 σ H1 x v Q I1 r1 q1))
theorem Rt {f:Value->Value->Sem Value} {C:Int->Int->Prop} {g:Int->Int->Int}
   (rule:∀(i j:Int) (t u:Tok) (s:Shared) (Q:Value->Shared->Prop) (E:Value->Shared->Prop),C i j->Q (.int (g i j) s.toks) {s with toks:=s.toks+1}->wpAny (model X.prog X.w) X.A (f (.int i t) (.int j u)) Q E s):
   JF X f (rI C λi j=>.int (g i j)):=by
 intro pins s σ H x y v u Q I rx ry h
 obtain⟨i,j,rfl,rfl,hc,q⟩:=h
 obtain⟨t,rfl⟩:=rx
 obtain⟨t',rfl⟩:=ry
 exact rule i j t t' s _ _ hc ⟨.int (g i j),H,I.tok _,⟨_,rfl⟩,q⟩
theorem xg {f:Value->Value->Sem Value} {g:Int->Int->Int}
   (rule:∀(i j:Int) (t u:Tok) (s:Shared) (Q:Value->Shared->Prop) (E:Value->Shared->Prop),Q (.int (g i j) s.toks) {s with toks:=s.toks+1}->wpAny (model X.prog X.w) X.A (f (.int i t) (.int j u)) Q E s):
   JF X f (US λi j=>.int (g i j)):=by
 intro pins s σ H x y v u Q I rx ry h
 obtain⟨i,j,rfl,rfl,q⟩:=h
 obtain⟨t,rfl⟩:=rx
 obtain⟨t',rfl⟩:=ry
 exact rule i j t t' s _ _ ⟨.int (g i j),H,I.tok _,⟨_,rfl⟩,q⟩
theorem uH {f:Value->Value->Sem Value} {g:Int->Int->Bool}
   (rule:∀(i j:Int) (t u:Tok) (s:Shared) (Q:Value->Shared->Prop) (E:Value->Shared->Prop),Q (.bool (g i j)) s->wpAny (model X.prog X.w) X.A (f (.int i t) (.int j u)) Q E s):
   JF X f (US λi j=>.bl (g i j)):=by
 intro pins s σ H x y v u Q I rx ry h
 obtain⟨i,j,rfl,rfl,q⟩:=h
 obtain⟨t,rfl⟩:=rx
 obtain⟨t',rfl⟩:=ry
 exact rule i j t t' s _ _ ⟨.bl (g i j),H,I,rfl,q⟩
def qaW (i j:Int):Prop:=0 < j/\j < 1073741824
def Nq (i j:Int):Prop:=0<=j/\j<=1000000/\i.natAbs < 2^64
def Nr (i j:Int):Prop:=(-(2^64) < i/\i < 2^64)\/(-(2^64) < j/\j < 2^64)
theorem Nr.ok {i j:Int} (h:Nr i j):IntMulOk i j:=by
 rcases h with ⟨h1,h2⟩ | ⟨h1,h2⟩
 . exact .of_left (intBits_le_64 h1 h2)
 . exact .of_right (intBits_le_64 h1 h2)
theorem Vv (k:Nat):(0:Int)<=2^k:=by
 rw[two_pow_cast]
 exact zch _
theorem j5:JF X (binaryOp .Add) (US λi j=>.int (i+j)):=xg λ_ _ _ _ _ _ _ q=>add_int q
theorem VO:JF X (binaryOp .Sub) (US λi j=>.int (i - j)):=xg λ_ _ _ _ _ _ _ q=>sub_int q
theorem QG:JF X (binaryOp .Mult) (rI Nr λi j=>.int (i*j)):=Rt λ_ _ _ _ _ _ _ hc q=>mul_int q hc.ok
theorem uF:JF X (binaryOp .FloorDiv) (rI qaW λi j=>.int (i / j)):=Rt λi j _ _ _ _ _ hc q=>by
 have h1:(0:Int) < j:=hc.1
 have h2:j < 1073741824:=hc.2
 exact floordiv_int (by omega) (by rw[zbv i (by omega)];exact q) (.inl (PyProof.noPylong_small (by omega)))
theorem QS:JF X (binaryOp .Mod) (rI (λ_ j=>0 < j) λi j=>.int (i % j)):=Rt λi j _ _ _ _ _ hc q=>by
 have h1:(0:Int) < j:=hc
 exact mod_int' (by omega) (by rw[Int.fmod_eq_emod_of_nonneg i (by omega)];exact q)
theorem zA:JF X (binaryOp .Pow) (rI Nq λi j=>.int (i^j.toNat)):=Rt λ_ _ _ _ _ _ _ hc q=>pow_int_small hc.1 hc.2.1 hc.2.2 q
theorem YG:JF X (binaryOp .LShift) (rI Nq λi j=>.int (i*2^j.toNat)):=Rt λ_ _ _ _ _ _ _ hc q=>lshift_int_small hc.1 hc.2.1 hc.2.2 q
theorem xa:JF X (binaryOp .RShift) (rI (λ_ j=>0<=j) λi j=>.int (i / 2^j.toNat)):=Rt λi j _ _ _ _ _ hc q=>
 rshift_int hc (by rw[zbv i (Vv _)];exact q)
theorem xf:JF X (binaryOp .BitAnd) (US λi j=>.int (Builtin.bitAnd i j)):=xg λ_ _ _ _ _ _ _ q=>and_int q
theorem xb:JF X (binaryOp .BitOr) (US λi j=>.int (Builtin.bitOr i j)):=xg λ_ _ _ _ _ _ _ q=>or_int q
theorem Ro:JF X (binaryOp .BitXor) (US λi j=>.int (Builtin.bitXor i j)):=xg λ_ _ _ _ _ _ _ q=>xor_int q
theorem unI {f:Value->Sem Value} {g:Int->Int}
   (rule:∀(i:Int) (t:Tok) (s:Shared) (Q:Value->Shared->Prop) (E:Value->Shared->Prop),Q (.int (g i) s.toks) {s with toks:=s.toks+1}->wpAny (model X.prog X.w) X.A (f (.int i t)) Q E s):
   UnR X f (rU λi=>.int (g i)):=by
 intro pins s σ H x v Q I rx h
 obtain⟨i,rfl,q⟩:=h
 obtain⟨t,rfl⟩:=rx
 exact rule i t s _ _ ⟨.int (g i),H,I.tok _,⟨_,rfl⟩,q⟩
theorem Gq:UnR X (unaryOp .USub) (rU λi=>.int (-i)):=unI λ_ _ _ _ _ q=>neg_int q
end
def NQ:V->V->Bool
 | .non,.non=>true | .non,.int _=>true | .int _,.non=>true | .non,.bl _=>true | .bl _,.non=>true | .non,.str _=>true | .str _,.non=>true
 | .int _,.int _=>true | .bl _,.bl _=>true | .str _,.str _=>true | .byt _,.byt _=>true
 | .int _,.str _=>true | .str _,.int _=>true | .bl _,.str _=>true | .str _,.bl _=>true
 | _,_=>false
def Nu:R2:=λx y H Q=>NQ x y=true/\Q (.bl (decide (x=y))) H
def rNe:R2:=λx y H Q=>NQ x y=true/\Q (.bl (!decide (x=y))) H
theorem vh {i j:Int}:decide (V.int i=V.int j)=(i==j):=by
 rw[zaz]
 simp
theorem wE {i j:Bool}:decide (V.bl i=V.bl j)=(i==j):=by
 rw[zaz]
 simp
theorem vg {i j:Str}:decide (V.str i=V.str j)=(i==j):=by
 rw[zaz]
 simp
theorem vi {i j:Array UInt8}:decide (V.byt i=V.byt j)=(i.toList==j.toList):=by
 rw[zaz]
 cases i
 cases j
 simp
section
variable {X:Cx} {a b c:Expr} {ta tb tc:TE} {pos:Pos}
theorem je {pins:List (Addr×Obj)} {σ:St} {H:Hp} {s:Shared} {Q:VK} {k k':Bool} (I:qJ X pins σ H s) (q:Q (.bl k) H) (e:k=k'):EP X pins σ Q (.bool k') s:=by
 subst e
 exact⟨.bl k,H,I,rfl,q⟩
theorem jo:JF X (compareOp .Eq) Nu:=by
 intro pins s σ H x y v u Q I rx ry h
 obtain⟨hs,q⟩:=h
 cases x with
 | non=>
   cases rx
   cases y with
   | non=>cases ry;exact PySem.EqNone.eq_none_none (je I q (by simp))
   | bl j=>cases ry;exact PySem.EqNone.eq_none_bool (je I q (by simp))
   | int j=>obtain⟨t',rfl⟩:=ry;exact PySem.EqNone.eq_none_int (je I q (by simp))
   | str j=>obtain⟨t',rfl⟩:=ry;exact PySem.EqNone.eq_none_str (je I q (by simp))
   | _=>exact absurd (show false=true from hs) tI
 | bl i=>
   cases rx
   cases y with
   | non=>cases ry;exact PySem.EqNone.eq_bool_none (je I q (by simp))
   | bl j=>cases ry;exact eq_bool (je I q wE)
   | str j=>obtain⟨t',rfl⟩:=ry;exact PySem.EqMixed.eq_bool_str (je I q (by simp))
   | _=>exact absurd (show false=true from hs) tI
 | int i=>
   obtain⟨t,rfl⟩:=rx
   cases y with
   | non=>cases ry;exact PySem.EqNone.eq_int_none (je I q (by simp))
   | int j=>obtain⟨t',rfl⟩:=ry;exact eq_int (je I q vh)
   | str j=>obtain⟨t',rfl⟩:=ry;exact PySem.EqMixed.eq_int_str (je I q (by simp))
   | _=>exact absurd (show false=true from hs) tI
 | str i=>
   obtain⟨t,rfl⟩:=rx
   cases y with
   | non=>cases ry;exact PySem.EqNone.eq_str_none (je I q (by simp))
   | bl j=>cases ry;exact PySem.EqMixed.eq_str_bool (je I q (by simp))
   | int j=>obtain⟨t',rfl⟩:=ry;exact PySem.EqMixed.eq_str_int (je I q (by simp))
   | str j=>obtain⟨t',rfl⟩:=ry;exact eq_str (je I q vg)
   | _=>exact absurd (show false=true from hs) tI
 | byt i=>
   obtain⟨t,rfl⟩:=rx
   cases y with
   | byt j=>obtain⟨t',rfl⟩:=ry;exact PySem.W.eq_bytes (je I q vi)
   | _=>exact absurd (show false=true from hs) tI
 | _=>cases y<;>exact absurd (show false=true from hs) tI
theorem WZ:JF X (compareOp .NotEq) rNe:=by
 intro pins s σ H x y v u Q I rx ry h
 obtain⟨hs,q⟩:=h
 cases x with
 | non=>
   cases rx
   cases y with
   | non=>cases ry;exact PySem.EqNone.ne_none_none (je I q (by simp))
   | bl j=>cases ry;exact PySem.EqNone.ne_none_bool (je I q (by simp))
   | int j=>obtain⟨t',rfl⟩:=ry;exact PySem.EqNone.ne_none_int (je I q (by simp))
   | str j=>obtain⟨t',rfl⟩:=ry;exact PySem.EqNone.ne_none_str (je I q (by simp))
   | _=>exact absurd (show false=true from hs) tI
 | bl i=>
   cases rx
   cases y with
   | non=>cases ry;exact PySem.EqNone.ne_bool_none (je I q (by simp))
   | bl j=>cases ry;exact ne_bool (je I q (congrArg not wE))
   | str j=>obtain⟨t',rfl⟩:=ry;exact PySem.EqMixed.ne_bool_str (je I q (by simp))
   | _=>exact absurd (show false=true from hs) tI
 | int i=>
   obtain⟨t,rfl⟩:=rx
   cases y with
   | non=>cases ry;exact PySem.EqNone.ne_int_none (je I q (by simp))
   | int j=>obtain⟨t',rfl⟩:=ry;exact ne_int (je I q (congrArg not vh))
   | str j=>obtain⟨t',rfl⟩:=ry;exact PySem.EqMixed.ne_int_str (je I q (by simp))
   | _=>exact absurd (show false=true from hs) tI
 | str i=>
   obtain⟨t,rfl⟩:=rx
   cases y with
   | non=>cases ry;exact PySem.EqNone.ne_str_none (je I q (by simp))
   | bl j=>cases ry;exact PySem.EqMixed.ne_str_bool (je I q (by simp))
   | int j=>obtain⟨t',rfl⟩:=ry;exact PySem.EqMixed.ne_str_int (je I q (by simp))
   | str j=>obtain⟨t',rfl⟩:=ry;exact ne_str (je I q (congrArg not vg))
   | _=>exact absurd (show false=true from hs) tI
 | byt i=>
   obtain⟨t,rfl⟩:=rx
   cases y with
   | byt j=>obtain⟨t',rfl⟩:=ry;exact PySem.W.ne_bytes (je I q (congrArg not vi))
   | _=>exact absurd (show false=true from hs) tI
 | _=>cases y<;>exact absurd (show false=true from hs) tI
theorem Qb:JF X (compareOp .Lt) (US λi j=>.bl (decide (i < j))):=uH λ_ _ _ _ _ _ _ q=>lt_int q
theorem W0:JF X (compareOp .LtE) (US λi j=>.bl (decide (i<=j))):=uH λ_ _ _ _ _ _ _ q=>le_int q
theorem Xu:JF X (compareOp .Gt) (US λi j=>.bl (decide (j < i))):=uH λ_ _ _ _ _ _ _ q=>gt_int q
theorem W1:JF X (compareOp .GtE) (US λi j=>.bl (decide (j<=i))):=uH λ_ _ _ _ _ _ _ q=>ge_int q
theorem vV:JF X (compareOp .In) (λx y H Q=>∃i j,x=.str i/\y=.str j/\Q (.bl (!(Builtin.Str.occurrences j i 0 j.length 1).isEmpty)) H):=by
 intro pins s σ H x y v u Q I rx ry h
 obtain⟨i,j,rfl,rfl,q⟩:=h
 obtain⟨t,rfl⟩:=rx
 obtain⟨t',rfl⟩:=ry
 exact in_str (je I q rfl)
theorem qp (b:Expr) {op:CmpOp} (h:op≠.In:=by decide) (h2:op≠.NotIn:=by decide):behindInMarks op b=false:=by
 have e1:(op==CmpOp.In)=false:=by cases op<;>first | rfl | exact absurd rfl h
 have e2:(op==CmpOp.NotIn)=false:=by cases op<;>first | rfl | exact absurd rfl h2
 cases b<;>simp [behindInMarks,e1,e2]
theorem qW {op:CmpOp} {r:R2} (ho:JF X (compareOp op) r) (ha:JE X a ta) (hb:JE X b tb) (hm:behindInMarks op b=false):JE X (.Compare a [op] [b] pos) (Jf r ta tb):=.of (by
 have ha:=ha.to
 have hb:=hb.to
 intro pins s σ H Q I h
 exact wpAny_Compare1 (Nd ha hb I h λv u s2 x y H2 I2 rx ry q=>ho pins s2 σ H2 x y v u Q I2 rx ry q) hm)
def Yi (t:TE):TT:=λσ H Q=>t σ H λx H'=>∃k,x=.bl k/\Q k H'
theorem qt {op:CmpOp} {r:R2} (ho:JF X (compareOp op) r) (ha:JE X a ta) (hb:JE X b tb) (hm:behindInMarks op b=false):JT X (.Compare a [op] [b] pos) (Yi (Jf r ta tb)):=.of (by
 have ha:=ha.to
 have hb:=hb.to
 intro pins s σ H Q I h
 refine wpAny_isTrue_Compare1 (jB (ha pins s σ H _ I h) λv s1 ⟨x,H1,I1,r1,q1⟩=>jB (hb pins s1 σ H1 _ I1 q1) λu s2 ⟨y,H2,I2,r2,q2⟩=>
   jB (ho pins s2 σ H2 x y v u _ I2 r1 r2 q2) λc s3 ⟨z,H3,I3,r3,k,e,q3⟩=>?_) hm
 subst e
 cases r3
 exact wpAny_truthy_bool ⟨H3,I3,q3⟩)
theorem YM:(sizeLine:Nat) < 2^63:=by rw[sizeLine_eq];decide
theorem YH:JF X (binaryOp .Add) (λx y H Q=>∃i j,x=.str i/\y=.str j/\i.length+j.length<=sizeLine/\Q (.str (i++j)) H):=by
 intro pins s σ H x y v u Q I rx ry h
 obtain⟨i,j,rfl,rfl,hz,q⟩:=h
 obtain⟨t,rfl⟩:=rx
 obtain⟨t',rfl⟩:=ry
 exact add_str (λt' tk=>⟨.str (i++j),H,I.tok _,⟨_,rfl⟩,q⟩) hz
theorem j4 {x:V} {us:List Value} (r:qP [x] us):∃u,us=[u]/\qX x u:=by
 cases r with
 | cons r1 r2=>cases r2;exact⟨_,rfl,r1⟩
theorem ZM {x y:V} {us:List Value} (r:qP [x,y] us):∃u w',us=[u,w']/\qX x u/\qX y w':=by
 cases r with
 | cons r1 r2=>
   cases r2 with
   | cons r3 r4=>cases r4;exact⟨_,_,rfl,r1,r3⟩
theorem XO (hc:X.calm=true):js X (.builtin "max") (λxs H Q=>∃i j,xs=[.int i,.int j]/\Q (.int (if j > i then j else i)) H):=by
 intro pins s σ H xs us Q I r h
 obtain⟨i,j,rfl,q⟩:=h
 obtain⟨u,w',rfl,⟨t,rfl⟩,⟨t',rfl⟩⟩:=ZM r
 refine max_two_ints (I.ok.hd hc) λh' tk k=>⟨_,H,I.kept k,?_,q⟩
 by_cases hj:j > i
 . rw[if_pos hj,if_pos hj];exact⟨_,rfl⟩
 . rw[if_neg hj,if_neg hj];exact⟨_,rfl⟩
theorem kZ (hc:X.calm=true):js X (.builtin "min") (λxs H Q=>∃i j,xs=[.int i,.int j]/\Q (.int (if j < i then j else i)) H):=by
 intro pins s σ H xs us Q I r h
 obtain⟨i,j,rfl,q⟩:=h
 obtain⟨u,w',rfl,⟨t,rfl⟩,⟨t',rfl⟩⟩:=ZM r
 refine min_two_ints (I.ok.hd hc) λh' tk k=>⟨_,H,I.kept k,?_,q⟩
 by_cases hj:j < i
 . rw[if_pos hj,if_pos hj];exact⟨_,rfl⟩
 . rw[if_neg hj,if_neg hj];exact⟨_,rfl⟩
theorem zG:js X (.type "int") (λxs H Q=>(∃i,xs=[.int i]/\Q (.int i) H)\/∃k,xs=[.bl k]/\Q (.int (if k then 1 else 0)) H):=by
 intro pins s σ H xs us Q I r h
 rcases h with ⟨i,rfl,q⟩ | ⟨k,rfl,q⟩
 . obtain⟨u,rfl,t,rfl⟩:=j4 r
   exact call_int_int ⟨.int i,H,I,⟨_,rfl⟩,q⟩
 . obtain⟨u,rfl,r1⟩:=j4 r
   cases r1
   exact call_int_bool ⟨.int (if k then 1 else 0),H,I.tok _,⟨_,rfl⟩,q⟩
end
structure Up (h:Heap) (x dx C:Addr) (mA:Str->Option Value):Prop where
 obj:h.get? x=some (zaY C dx)
 ns:h.Ns1 dx mA
 ne:dx≠x
theorem kx {h:Heap} {dx:Addr} {mA:Str->Option Value} (n:h.Ns1 dx mA):∃od,h.get? dx=some od/\∀name,zci name od=some (mA name):=by
 obtain⟨o,es,ep,ho,hd,hk,_,hm⟩:=n
 refine⟨o,ho,λname=>?_⟩
 have e:=hm name
 unfold nsFind findBy at e
 rw[<-Array.find?_toList]at e
 unfold zci
 rw[hd]
 dsimp only
 split
 . rename_i y q
   rw[q]at e
   exact congrArg some e
 . rename_i q
   rw[q]at e
   have a:es.toList.any (·.refKey)=false:=by
     rw[List.any_eq_false]
     intro y hy
     obtain⟨z,t,hkey⟩:=hk y (Array.mem_toList_iff.mp hy)
     simp [DictEntry.refKey,hkey]
   have a':¬es.toList.any (·.refKey)=true:=by rw[a];exact tI
   rw[if_neg a']
   exact congrArg some e
theorem Up.look {h:Heap} {x dx C:Addr} {mA:Str->Option Value} (I:Up h x dx C mA):∃od,PySem.W.InstAt h x (zaY C dx) C (some od)/\∀name,zci name od=some (mA name):=
 let ⟨od,ho,hl⟩:=kx I.ns
 ⟨od,⟨I.obj,rfl,rfl,ho⟩,hl⟩
section
variable {prog:Program} {w:World} {A:Around} {E:Value->Shared->Prop} {s:Shared} {K:PySem.W.Frag} {x dx C f:Addr} {mA:Str->Option Value} {name:Str} {v:Value}
theorem Km {expr:Bool} {Q:Value->Shared->Prop} (X:K.In s.heap) (I:Up s.heap x dx C mA) (hg:zbA K C name=true) (hh:zbN K C=true)
   (ha:zan K (.ref C) name=some none) (hv:mA name=some v) (hv':zdm v=true) (h:Q v {s with toks:=s.toks+1}):
   wpAny (model prog w) A (getAttr (.ref x) name expr) Q E s:=by
 obtain⟨od,J,hl⟩:=I.look
 exact PySem.W.get_value X J (zcc hg).1 (PySem.W.findObj_own hh ha rfl (by rw[hl,hv])) hv' h
theorem wt {pl:Sem Bool} {Q:Value×List Value->Shared->Prop} (X:K.In s.heap) (I:Up s.heap x dx C mA) (hg:zbA K C name=true)
   (hf:zan K (.ref C) name=some (some (.ref f))) (ht:zbB K (.ref f)=true) (hv:mA name=none) (h:Q (.ref f,[.ref x]) s):
   wpAny (model prog w) A (getMethod (.ref x) name pl) Q E s:=by
 obtain⟨od,J,hl⟩:=I.look
 exact PySem.W.method_fn X J (zcc hg).1 (zcc hg).2 hf (beq_iff_eq.mp ht) (by show (zci name od).map (·.isSome)=some false;rw[hl,hv];rfl) h
theorem uk {ns:List Str} {Q:Unit->Shared->Prop} (X:K.In s.heap) (I:Up s.heap x dx C mA)
   (hs:zan K (.ref C) "__setattr__"=some (some (.builtin "object.__setattr__"))) (hp:zcp K C=true) (ht:zcG K C name=some none) (hh:zbN K C=true)
   (hw:PySem.Within mA ns) (hsz:ns.length<=sizeLine)
   (h:∀h',Up h' x dx C (λy=>if y=name then some v else mA y)->Heap.SameBut dx s.heap h'->Q () {s with heap:=h',toks:=s.toks+2}):
   wpAny (model prog w) A (setAttr (.ref x) name v) Q E s:=by
 obtain⟨od,J,hl⟩:=I.look
 refine PySem.W.set_plain X J hs (PySem.W.osa_open (s:={s with toks:=s.toks+1}) (r:=none) X J hp ht λb=>?_)
 obtain⟨cd,hc,hd'⟩:=PySem.W.any_some hh
 have hx:s.heap.get? x=some ⟨.ref C,some dx,.plain,#[]⟩:=I.obj
 refine wpAny_bind (wpAny_pure (wpAny_bind (wpAny_bind (wpAny_loadPart hx (wpAny_bind (PySem.W.Looks.here (s:={s with toks:=s.toks+1}) (PySem.W.looks_clsIn X hc) ?_))))))
 rw[hd']
 refine wpAny_pure (a:=some dx) (wpAny_bind (wpAny_pure (wpAny_bind ?_)))
 refine wpAny_nsSet1 (s:={s with toks:=s.toks+1}) I.ns λh' hn2 hs2=>?_
 obtain⟨oD,esD,epD,hoD,hdD,hcD⟩:=hn2.count (PySem.Within.cons name v hw)
 refine wpAny_bind (wpAny_lookBehind hoD (by rw[hdD];exact pastItsLine_dict (tV hcD (by rw[zac];omega))) ?_)
 exact wpAny_pure (h _ ⟨(hs2.2 _ (Ne.symm I.ne)).trans I.obj,hn2,I.ne⟩ hs2)
theorem xC {R:Result->Shared->Prop} {vs:List Value} {kw:List (Str×Value)} (X:K.In s.heap) (hm:zcH K C=true)
   (hi:zan K (.ref C) "__init__"=some (some (.ref f))) (hf:PySem.W.typeIn K (.ref f)=some (.type "function"))
   (h:codeAny (model prog w) (A.under (.builtin "type.__call__" ⟨.ref C::vs,kw⟩)) (.call (.ref f) ⟨.ref (s.heap.objs.size+1)::vs,kw⟩) (PySem.W.InitBack (s.heap.objs.size+1) R)
     {s with heap:=(s.heap.push zaM).push (zaY C s.heap.objs.size)}):
   codeAny (model prog w) A (.call (.ref C) ⟨vs,kw⟩) R s:=by
 obtain⟨hh,g,d,t,os⟩:=s
 exact PySem.W.make_core (PySem.W.makes_of X hm) (PySem.W.looks_findIn X hi) (λself=>PySem.W.bind_fn X self hf) (.inl rfl) h
end
def Jp (f:Str) (v:V):List (Str×V)->List (Str×V)
 | []=>[(f,v)]
 | (g,x)::r=>if g=f then (g,v)::r else (g,x)::Jp f v r
theorem zM (f g:Str) (v:V):∀fs:List (Str×V),(Jp f v fs).lookup g=if g=f then some v else fs.lookup g
 | []=>by
   show zbe g [(f,v)]=_
   by_cases h:g=f
   . have hb:(g==f)=true:=beq_iff_eq.mpr h
     simp only[zbe,hb,if_pos h]
   . have hb:(g==f)=false:=beq_eq_false_iff_ne.mpr h
     simp only[zbe,hb,if_neg h]
 | (k,x)::r=>by
   have ih:=zM f g v r
   rw[show Jp f v ((k,x)::r)=(if k=f then (k,v)::r else (k,x)::Jp f v r) from rfl]
   by_cases hk:k=f
   . rw[if_pos hk]
     by_cases h:g=k
     . have hb:(g==k)=true:=beq_iff_eq.mpr h
       simp only[zbe,hb,if_pos (h.trans hk)]
     . have hb:(g==k)=false:=beq_eq_false_iff_ne.mpr h
       simp only[zbe,hb,if_neg (λe:g=f=>h (e.trans hk.symm))]
   . rw[if_neg hk]
     by_cases h:g=k
     . have hb:(g==k)=true:=beq_iff_eq.mpr h
       simp only[zbe,hb,if_neg (λe:g=f=>hk (h.symm.trans e))]
     . have hb:(g==k)=false:=beq_eq_false_iff_ne.mpr h
       simp only[zbe,hb]
       exact ih
theorem zD (f:Str) (v:V):∀fs:List (Str×V),f∈(Jp f v fs).map (·.1)/\∀g,g∈fs.map (·.1)->g∈(Jp f v fs).map (·.1)
 | []=>⟨by simp [Jp],λg h=>by simp at h⟩
 | (k,x)::r=>by
   obtain⟨i1,i2⟩:=zD f v r
   rw[show Jp f v ((k,x)::r)=(if k=f then (k,v)::r else (k,x)::Jp f v r) from rfl]
   by_cases hk:k=f
   . rw[if_pos hk]
     subst hk
     exact⟨by simp,λg h=>by simpa using h⟩
   . rw[if_neg hk]
     refine⟨?_,λg h=>?_⟩
     . rw[tP]
       exact tN _ i1
     . rw[tP]at h ⊢
       rcases tR.mp h with e | e
       . exact tR.mpr (.inl e)
       . exact tN _ (i2 g e)
theorem zN (f:Str) (v:V):∀fs:List (Str×V),(Jp f v fs).length<=fs.length+1
 | []=>by simp [Jp]
 | (k,x)::r=>by
   have ih:=zN f v r
   rw[show Jp f v ((k,x)::r)=(if k=f then (k,v)::r else (k,x)::Jp f v r) from rfl]
   by_cases hk:k=f
   . rw[if_pos hk,zac,zac];omega
   . rw[if_neg hk,zac,zac];omega
theorem J5.some_of {v:V} {o:Option Value} (r:J5 (some v) o):∃u,o=some u/\qX v u:=by
 cases o with
 | none=>exact(show False from r).elim
 | some u=>exact⟨u,rfl,r⟩
theorem J5.none_of {o:Option Value} (r:J5 none o):o=none:=by
 cases o with
 | none=>rfl
 | some u=>exact(show False from r).elim
theorem kJ {v:V} {u:Value} (r:qX v u):zdm u=true:=by
 cases v with
 | non=>cases (show u=Value.none from r);rfl
 | bl b=>cases (show u=Value.bool b from r);rfl
 | int i=>obtain⟨t,e⟩:=(show ∃t,u=Value.int i t from r);cases e;rfl
 | str x=>obtain⟨t,e⟩:=(show ∃t,u=Value.str x t from r);cases e;rfl
 | byt b=>obtain⟨t,e⟩:=(show ∃t,u=Value.bytes b t from r);cases e;rfl
 | flt b=>obtain⟨t,e⟩:=(show ∃t,u=Value.float b t from r);cases e;rfl
 | ref a=>cases (show u=Value.ref a from r);rfl
 | ty n=>cases (show u=Value.type n from r);rfl
section
variable {P:Program} {w:World} {H H':Hp} {h h':Heap} {a C dx:Addr} {fs fs':List (Str×V)}
theorem Yc (hok:JU P w H h) (e:H a=some (.ins C dx fs)):∃mA,Up h a dx C mA/\(∀f,J5 (fs.lookup f) (mA f))/\PySem.Within mA (fs.map (·.1))/\fs.length<=1000/\H dx=some (.own a):=by
 obtain⟨d,z,ne,ob,mA,n,r,q⟩:=(show jd P w H h a (.ins C dx fs) from hok a _ e)
 exact⟨mA,⟨ob,n,ne⟩,r,q,z,d⟩
end
structure Ur (K:PySem.W.Frag) (C:Addr):Prop where
 pg:zbA K C Str.empty=true
 hd:zbN K C=true
 po:zcp K C=true
 sa:zan K (.ref C) "__setattr__"=some (some (.builtin "object.__setattr__"))
theorem Ur.get {K:PySem.W.Frag} {C:Addr} (c:Ur K C) (f:Str):zbA K C f=true:=c.pg
def J6 (K:PySem.W.Frag) (C:Addr) (f:Str):Prop:=zan K (.ref C) f=some none
theorem J6.taker {K:PySem.W.Frag} {C:Addr} {f:Str} (n:J6 K C f):zcG K C f=some none:=by
 unfold zcG
 rw[show zan K (.ref C) f=some none from n]
 rfl
structure Con (K:PySem.W.Frag) (C:Addr) (f:Str) (v:V) (u:Value):Prop where
 at_:zan K (.ref C) f=some (some u)
 rel:qX v u
 get:zdg K u "__get__"=some none
 cp:PySem.W.copiedNames.contains f=false
structure k9 (K:PySem.W.Frag) (C:Addr) (m:Str) (f:Addr):Prop where
 at_:zan K (.ref C) m=some (some (.ref f))
 fn:zbB K (.ref f)=true
 kp:zaQ K (.ref f)=true
section
variable {X:Cx} {pins:List (Addr×Obj)} {σ:St} {H:Hp} {s:Shared} {a C dx:Addr} {fs:List (Str×V)} {f:Str} {v:V} {A:Around} {E:Value->Shared->Prop}
theorem V7 {b:Bool} {Q:Value->Shared->Prop} (I:qJ X pins σ H s) (e:H a=some (.ins C dx fs)) (c:Ur X.K C) (n:J6 X.K C f) (l:fs.lookup f=some v)
   (h:∀u s',qJ X pins σ H s'->qX v u->Q u s'):wpAny (model X.prog X.w) A (getAttr (.ref a) f b) Q E s:=by
 obtain⟨mA,O,r,_,_,_⟩:=Yc I.hok e
 obtain⟨u,hu,ru⟩:=J5.some_of (v:=v) (o:=mA f) (by rw[<-l];exact r f)
 exact Km I.kIn O (c.get f) c.hd n hu (kJ ru) (h u _ (I.tok _) ru)
theorem YX {m:Str} {g:Addr} {pl:Sem Bool} {Q:Value×List Value->Shared->Prop} (I:qJ X pins σ H s) (e:H a=some (.ins C dx fs)) (c:Ur X.K C) (k:k9 X.K C m g) (l:fs.lookup m=none)
   (h:Q (.ref g,[.ref a]) s):wpAny (model X.prog X.w) A (getMethod (.ref a) m pl) Q E s:=by
 obtain⟨mA,O,r,_,_,_⟩:=Yc I.hok e
 have hn:mA m=none:=J5.none_of (by rw[<-l];exact r m)
 exact wt I.kIn O (c.get m) k.at_ k.fn hn h
theorem VF {y:V} {u:Value} {Q:Unit->Shared->Prop} (I:qJ X pins σ H s) (e:H a=some (.ins C dx fs)) (c:Ur X.K C) (n:J6 X.K C f) (hl:fs.length < 1000) (ry:qX y u)
   (h:∀s',qJ X pins σ (upd H a (.ins C dx (Jp f y fs))) s'->Q () s'):wpAny (model X.prog X.w) A (setAttr (.ref a) f u) Q E s:=by
 obtain⟨mA,O,r,wi,_,ho⟩:=Yc I.hok e
 have hz:(fs.map (·.1)).length<=sizeLine:=by rw[tj,sizeLine_eq];omega
 refine uk I.kIn O c.sa c.po n.taker c.hd wi hz λh' O' sb=>h _ ?_
 have hd:∃o,h'.get? dx=some o:=let ⟨o,_,_,e',_⟩:=O'.ns;⟨o,e'⟩
 refine I.write (x:=a) (e:=dx) (by rw[e];exact True.intro) (.inr ho) (λb q hb z=>(sb.2 b hb).trans z) hd ?_
 refine⟨by rw[qi O.ne];exact ho,?_,O.ne,O'.obj,_,O'.ns,λg=>?_,λg hg=>?_⟩
 . have:=zN f y fs;omega
 . show J5 ((Jp f y fs).lookup g) (if g=f then some u else mA g)
   rw[zM]
   by_cases q:g=f
   . rw[if_pos q,if_pos q];exact ry
   . rw[if_neg q,if_neg q];exact r g
 . by_cases q:g=f
   . rw[q];exact(zD f y fs).1
   . refine(zD f y fs).2 g (wi g λz=>hg ?_)
     show (if g=f then some u else mA g)=none
     rw[if_neg q];exact z
theorem qJ.made (I:qJ X pins σ H s):qJ X pins σ (upd (upd H s.heap.objs.size (.own (s.heap.objs.size+1))) (s.heap.objs.size+1) (.ins C s.heap.objs.size []))
   {s with heap:=(s.heap.push zaM).push (zaY C s.heap.objs.size)}:=by
 have e1:(s.heap.push zaM).get? s.heap.objs.size=some zaM:=tJ s.heap rfl
 have e2:((s.heap.push zaM).push (zaY C s.heap.objs.size)).get? (s.heap.objs.size+1)=some (zaY C s.heap.objs.size):=by
   have:=tJ (s.heap.push zaM) (o:=zaY C s.heap.objs.size) rfl
   rwa [zaX]at this
 have e3:(s.heap.push zaM).Ns s.heap.objs.size (λ_=>none):=⟨zaM,#[],_,e1,rfl,(λe he=>absurd he (by simp)),λ_=>rfl⟩
 have I1:=I.laid (a:=s.heap.objs.size) (o:=.own (s.heap.objs.size+1)) (h':=s.heap.push zaM) (t':=s.toks) (λb u q=>tq _ q) (tu _) ⟨_,e1⟩
 refine I1.laid (a:=s.heap.objs.size+1) (o:=.ins C s.heap.objs.size []) (t':=s.toks) (λb u q=>tq _ q) (Nat.le_of_eq (zaX _ _)) ?_
 have ne:s.heap.objs.size≠s.heap.objs.size+1:=tM (zaI _)
 refine⟨by rw[qi ne,qe],zah _,ne,e2,λ_=>none,(Heap.Ns1.of_empty e3).at λo q=>tq _ q,λ_=>True.intro,λy hy=>absurd rfl hy⟩
theorem KB {prog:Program} {w:World} {env:Env} {e:Expr} {f:Str} {pos:Pos} {s:Shared} {Q:Value->Shared->Prop} (hb:attributeBase e f env (eval e env)=eval e env)
   (h:wpAny (model prog w) A (eval e env) (λo s₁=>wpAny (model prog w) A (getAttr o f true) Q E s₁) E s):wpAny (model prog w) A (eval (.Attribute e f pos) env) Q E s:=
 Attribute_any_ h (by rw[arm_eval_Attribute,hb])
end
def qab (K:PySem.W.Frag) (ta:TE) (f:Str):TE:=λσ H Q=>ta σ H λx H1=>∃a C dx fs v,x=.ref a/\H1 a=some (.ins C dx fs)/\Ur K C/\J6 K C f/\fs.lookup f=some v/\Q v H1
def qaj (K:PySem.W.Frag) (ta tv:TE) (f:Str):TS:=λD σ H=>tv σ H λy H1=>ta σ H1 λx H2=>∃a C dx fs,x=.ref a/\H2 a=some (.ins C dx fs)/\Ur K C/\J6 K C f/\fs.length < 1000/\
 D.nx σ (upd H2 a (.ins C dx (Jp f y fs)))
section
variable {X:Cx} {o e value:Expr} {f:Str} {pos pos' tpos:Pos} {ta tv:TE}
theorem YV (he:JE X e ta) (hb:attributeBase e f X.env (eval e X.env)=eval e X.env):JE X (.Attribute e f pos) (qab X.K ta f):=.of (by
 have he:=he.to
 intro pins s σ H Q I h
 refine KB hb (jB (he pins s σ H _ I h) λu s1 ⟨x,H1,I1,rx,a,C,dx,fs,v,ex,ea,c,n,l,q⟩=>?_)
 subst ex
 obtain rfl:u=Value.ref a:=rx
 exact V7 I1 ea c n l λu' s2 I2 ru=>⟨v,H1,I2,ru,q⟩)
theorem xY (ha:JE X o ta) (hv:JE X value tv) (hs:swapsWith value (some (.Attribute o f pos')) pos.line X.env=pure false):JS X (.Assign [.Attribute o f pos'] value pos) (qaj X.K ta tv f):=.of (by
 have ha:=ha.to
 have hv:=hv.to
 intro pins s σ H D I h
 refine plainObj_wpAny_Assign_Attribute (jB (hv pins s σ H _ I h) λu s1 ⟨y,H1,I1,ry,q⟩=>jB (ha pins s1 σ H1 _ I1 q) λov s2 ⟨x,H2,I2,rx,a,C,dx,fs,ex,ea,c,n,l,q2⟩=>?_) hs
 subst ex
 obtain rfl:ov=Value.ref a:=rx
 exact VF I2 ea c n l ry λs3 I3=>⟨σ,_,I3,q2⟩)
end
section
variable {X:Cx} {pins:List (Addr×Obj)} {σ:St} {H:Hp} {s:Shared} {A:Around} {E:Value->Shared->Prop} {Q:Value->Shared->Prop} {c:Value} {b:Bool}
inductive zI (K:PySem.W.Frag) (H:Hp):V->Value->Prop where
 | non:zI K H .non (.type "NoneType")
 | bl (x:Bool):zI K H (.bl x) (.type "bool")
 | int (i:Int):zI K H (.int i) (.type "int")
 | str (x:Str):zI K H (.str x) (.type "str")
 | flt (x:UInt64):zI K H (.flt x) (.type "float")
 | lst {a:Addr} {xs:List V} (e:H a=some (.lst xs)):zI K H (.ref a) (.type "list")
 | frz {a:Addr} {o:Obj} {xs:List V} (e:H a=some (.frz o (.lst xs))):zI K H (.ref a) (.type "list")
 | tup {a:Addr} {xs:List V} (e:H a=some (.tup xs)):zI K H (.ref a) (.type "tuple")
 | dK {a:Addr} {kvs:List (qI×V)} (e:H a=some (.dK kvs)):zI K H (.ref a) (.type "dict")
 | dT {a:Addr} {kvs:List (List qI×V)} (e:H a=some (.dT kvs)):zI K H (.ref a) (.type "dict")
 | ins {a C dx:Addr} {fs:List (Str×V)} (e:H a=some (.ins C dx fs)) (cl:Ur K C) (ha:zan K (.ref C) "__class__"=some (some (.builtin "object.__class__")))
     (hn:zdg K (.builtin "object.__class__") "__get__"=some (some (.builtin "getset_descriptor.__get__"))) (htk:PySem.W.takesIn K (.builtin "object.__class__")=some true)
     (hm:PySem.W.mroIn K C (.type "object")=some true):zI K H (.ref a) (.ref C)
theorem Jn {x:V} {u t:Value} (I:qJ X pins σ H s) (rx:qX x u) (ty:zI X.K H x t) (e:zao X.K t c=some b) (h:∀tk,Q (.bool b) {s with toks:=tk}):
   wpAny (model X.prog X.w) A (call (.builtin "isinstance") [u,c]) Q E s:=by
 cases ty with
 | non=>cases (show u=Value.none from rx);exact zaj PySem.W.kitx_none I.kIn True.intro e (λz=>nomatch z) h
 | bl y=>cases (show u=Value.bool y from rx);exact zaj PySem.W.kitx_bool I.kIn True.intro e (λz=>nomatch z) h
 | int i=>obtain⟨t,q⟩:=(show ∃t,u=Value.int i t from rx);cases q;exact zaj PySem.W.kitx_int I.kIn True.intro e (λz=>nomatch z) h
 | str y=>obtain⟨t,q⟩:=(show ∃t,u=Value.str y t from rx);cases q;exact zaj PySem.W.kitx_str I.kIn True.intro e (λz=>nomatch z) h
 | flt y=>obtain⟨t,q⟩:=(show ∃t,u=Value.float y t from rx);cases q;exact zaj PySem.W.kitx_float I.kIn True.intro e (λz=>nomatch z) h
 | @lst a xs ea=>
   cases (show u=Value.ref a from rx)
   obtain⟨_,_,n,_,h1⟩:=(show jd X.prog X.w H s.heap a (.lst xs) from I.hok a _ ea)
   exact zaj zbO I.kIn ⟨_,h1,rfl⟩ e (λz=>nomatch z) h
 | @frz a ob xs ea=>
   cases (show u=Value.ref a from rx)
   obtain⟨_,_,_,n,_,h1⟩:=(show jd X.prog X.w H s.heap a (.frz ob (.lst xs)) from I.hok a _ ea)
   exact zaj zbO I.kIn ⟨_,h1,rfl⟩ e (λz=>nomatch z) h
 | @tup a xs ea=>
   cases (show u=Value.ref a from rx)
   obtain⟨_,_,_,p⟩:=(show jd X.prog X.w H s.heap a (.tup xs) from I.hok a _ ea)
   obtain⟨o,h1,h2,_⟩:=p
   exact zaj zbK I.kIn ⟨o,h1,h2⟩ e (λz=>nomatch z) h
 | @dK a kvs ea=>
   cases (show u=Value.ref a from rx)
   obtain⟨_,_,vs,_,p⟩:=(show jd X.prog X.w H s.heap a (.dK kvs) from I.hok a _ ea)
   obtain⟨o,es,ep,h1,h2,_⟩:=p
   exact zaj zbP I.kIn ⟨o,h1,h2.1⟩ e (λz=>nomatch z) h
 | @dT a kvs ea=>
   cases (show u=Value.ref a from rx)
   obtain⟨_,_,xs,_,o,es,ep,h1,h2,_⟩:=(show jd X.prog X.w H s.heap a (.dT kvs) from I.hok a _ ea)
   exact zaj zbP I.kIn ⟨o,h1,h2.1⟩ e (λz=>nomatch z) h
 | @ins a C dx fs ea cl ha hn htk hm=>
   cases (show u=Value.ref a from rx)
   obtain⟨mA,O,_⟩:=Yc I.hok ea
   obtain⟨od,J,_⟩:=O.look
   exact zaj (PySem.W.kitx_own (cl.get _) cl.hd ha hn htk hm) I.kIn J e (λz=>nomatch z) h
end
structure jE (k:Nat) (A:Around):Prop where
 hd:A.handled=none
 dp:A.depth+3*k+5 < recursionLimit
 un:A.units+16*k+200 < cLine
 gd:A.guards=some []
theorem jE.mono {j k:Nat} {A:Around} (r:jE k A) (h:j<=k):jE j A:=⟨r.hd,by have:=r.dp;omega,by have:=r.un;omega,r.gd⟩
theorem jE.deeper {k:Nat} {A:Around} (r:jE (k+1) A) (env:Env):jE k (A.deeper env):=
 ⟨r.hd,by have:=r.dp;show A.depth+1+3*k+5 < _;omega,by have:=r.un;show A.units+3+16*k+200 < _;omega,r.gd⟩
theorem VY {A:Around} {C:Addr} {us:List Value} {kw:List (Str×Value)}:(A.under (.builtin "type.__call__" ⟨.ref C::us,kw⟩)).depth=A.depth+1:=by
 first | rfl | simp [Around.under,Code.weight,Code.isCreation,Code.isGuard,Code.isCaller,Code.frames,Code.isFrame,guardIds]
theorem VX {A:Around} {C:Addr} {us:List Value} {kw:List (Str×Value)}:(A.under (.builtin "type.__call__" ⟨.ref C::us,kw⟩)).units=A.units+1:=by
 first | rfl | simp [Around.under,Code.cUnits,Code.frames,Code.isFrame]
theorem jE.make {k:Nat} {A:Around} (r:jE (k+1) A) (C:Addr) (us:List Value) (kw:List (Str×Value)):jE k (A.under (.builtin "type.__call__" ⟨.ref C::us,kw⟩)):=
 ⟨r.hd,by have:=r.dp;rw[VY];omega,by have:=r.un;rw[VX];omega,(by have:=r.gd;first | exact this | simpa [Around.under,Code.isGuard,guardIds] using this)⟩
theorem jE.depth {k:Nat} {A:Around} (r:jE k A):A.depth < recursionLimit:=by have:=r.dp;omega
theorem jE.units {k:Nat} {A:Around} (r:jE k A):A.units+64 < cLine:=by have:=r.un;omega
def jT:TA:=λ_ H Q=>Q [] H
def qM (ta:TE) (tr:TA):TA:=λσ H Q=>ta σ H λx H1=>tr σ H1 λxs H2=>Q (x::xs) H2
section
variable {X:Cx} {e:Expr} {es:List Expr} {te:TE} {t:TA} {pos:Pos}
theorem qd:JA X [] jT:=.of (by
 exact λ_ _ _ _ H Q I h=>Calls.spliced_nil ⟨[],H,I,.nil,h⟩)
theorem qb (ha:JE X e te) (hr:JA X es t) (hs:starEach (e::es) X.env=(false,eval e X.env)::starEach es X.env:=by rfl):JA X (e::es) (qM te t):=.of (by
 have ha:=ha.to
 have hr:=hr.to
 intro pos pins s σ H Q I h
 rw[hs]
 show wpAny _ _ (spliced ((false,eval e X.env)::backTo pos (starEach es X.env))) _ _ s
 refine Calls.spliced_cons (jB (ha pins s σ H _ I h) λu s1 ⟨x,H1,I1,r1,q1⟩=>?_)
 exact jB (hr pos pins s1 σ H1 _ I1 q1) λus s2 ⟨xs,H2,I2,r2,q2⟩=>⟨x::xs,H2,I2,.cons r1 r2,q2⟩)
def JN (t:TA):TE:=λσ H Q=>t σ H λxs H1=>xs.length<=sizeLine/\∀p,H1 p=none->Q (.ref p) (upd H1 p (.tup xs))
def VA (t:TA):TE:=λσ H Q=>t σ H λxs H1=>xs.length<=sizeLine/\∀p,H1 p=none->Q (.ref p) (upd H1 p (.lst xs))
theorem qk {x1} (h:JA X es t):JE X (.Tuple es x1 pos) (JN t):=.of (by
 have h:=h.to
 intro pins s σ H Q I hq
 refine wpAny_Tuple_spliced (jB (h pos pins s σ H _ I hq) λus s1 ⟨xs,H1,I1,r,z,q⟩=>⟨by rw[<-r.length];exact z,?_⟩)
 have hf:H1 s1.heap.objs.size=none:=I1.hok.fresh (tu _)
 refine⟨.ref s1.heap.objs.size,upd H1 s1.heap.objs.size (.tup xs),I1.laid (t':=s1.toks) (λb u e=>tq _ e) (tu _) ?_,rfl,q _ hf⟩
 exact⟨z,us,r,⟨_,tJ _ rfl,rfl,_,rfl⟩⟩)
theorem qV (h:JA X es t):JE X (.List es pos) (VA t):=.of (by
 have h:=h.to
 intro pins s σ H Q I hq
 refine wpAny_List_spliced (jB (h pos pins s σ H _ I hq) λus s1 ⟨xs,H1,I1,r,z,q⟩=>⟨by rw[<-r.length];exact z,?_⟩)
 have hf:H1 s1.heap.objs.size=none:=I1.hok.fresh (tu _)
 refine⟨.ref s1.heap.objs.size,upd H1 s1.heap.objs.size (.lst xs),I1.laid (t':=s1.toks) (λb u e=>tq _ e) (tu _) ?_,rfl,q _ hf⟩
 exact⟨z,us,0,r,tJ _ rfl⟩)
end
abbrev Sp:=List V->Hp->VK->XK->Prop
abbrev WF:=List Env->Hp->Shared->XK->Value->Shared->Prop
structure Vs (P:Program) (w:World) (K:PySem.W.Frag) (mg:Str->Option Value) (base:Heap) (A:Around) (outer:List Env) (s:Shared) (H:Hp):Prop where
 frames:A.frames=some outer
 mod:Mod K mg base
 bs:∀b o,base.get? b=some o->s.heap.get? b=some o/\H b=none
 bsz:base.objs.size<=s.heap.objs.size
 funs:s.heap.FunFrames base outer
 frf:∀b∈wv outer,H b=none
 hok:JU P w H s.heap
 bare:AllBare s.gens
def CE (outer:List Env) (P:Program) (w:World) (H:Hp) (s:Shared) (Q:VK) (u:Value) (s':Shared):Prop:=
 ∃v H',s'.os=s.os/\AllBare s'.gens/\Un (wv outer) [] H H' s.heap s'.heap/\JU P w H' s'.heap/\qX v u/\Q v H'
def CR (CX:WF) (outer:List Env) (P:Program) (w:World) (H:Hp) (s:Shared) (Q:VK) (E:XK) (r:Result) (s':Shared):Prop:=
 match r with
 | .ok (.ret u)=>CE outer P w H s Q u s'
 | .ok _=>False
 | .error e=>CX outer H s E e s'
structure qB (P:Program) (w:World) (K:PySem.W.Frag) (mg:Str->Option Value) (base:Heap) (CX:WF) (k:Nat) (f:Addr) (fd:FuncData) (ps:List Str) (sp:Sp):Prop where
 len:∀vs H Q E,sp vs H Q E->vs.length=ps.length
 run:∀(A:Around) (outer:List Env) (s:Shared) (H:Hp) (args:Args) (us:List Value) (vs:List V) (Q:VK) (E:XK),jE k A->Vs P w K mg base A outer s H->BindsTo s fd args (ps.zip us)->qP vs us->sp vs H Q E->
   codeAny (model P w) A (.call (.ref f) args) (CR CX outer P w H s Q E) s
theorem Vs.make {P:Program} {w:World} {K:PySem.W.Frag} {mg:Str->Option Value} {base:Heap} {A:Around} {outer:List Env} {s:Shared} {H:Hp} (e:Vs P w K mg base A outer s H) (C:Addr) (us:List Value) (kw:List (Str×Value)):
   Vs P w K mg base (A.under (.builtin "type.__call__" ⟨.ref C::us,kw⟩)) outer s H:=⟨by first | exact e.frames | (simpa [Around.under,Code.envs,Code.isFrame,pushEnvs] using e.frames),e.mod,e.bs,e.bsz,e.funs,e.frf,e.hok,e.bare⟩
section
variable {X:Cx} {pins:List (Addr×Obj)} {σ:St} {H:Hp} {s s':Shared}
theorem qJ.env0 (I:qJ X pins σ H s):Vs X.prog X.w X.K X.mg X.base X.A X.stack s H:=
 ⟨I.ok.frames,I.ok.mod,I.bs,tV I.ok.bsz I.sz,I.stack,I.stkFree,I.hok,I.bare⟩
theorem qJ.after {Q:VK} {u:Value} (I:qJ X pins σ H s) (h:CE X.stack X.prog X.w H s Q u s'):EP X pins σ Q u s':=by
 obtain⟨v,H',os,bare,un,hok,r,q⟩:=h
 obtain⟨hh,g,d,t,os'⟩:=s'
 obtain rfl:os'=s.os:=os
 exact⟨v,H',I.call (h':=hh) (g':=g) (d':=d) (t':=t) (ch:=[]) un hok bare (λb z=>absurd z (by simp)),r,q⟩
end
def JJ (sp:Sp) (dvs:List V) (E:XK) (t:TA):TE:=λσ H Q=>t σ H λvs H1=>sp (vs++dvs) H1 Q E
def Xl (C:Addr) (m:Str) (sp:Sp) (dvs:List V) (E:XK) (ta:TE) (t:TA):TE:=λσ H Q=>ta σ H λx H1=>∃a dx fs,x=.ref a/\H1 a=some (.ins C dx fs)/\fs.lookup m=none/\
 t σ H1 λvs H2=>sp (x::(vs++dvs)) H2 Q E
def NL (C:Addr) (sp:Sp) (dvs:List V) (E:XK) (t:TA):TE:=λσ H Q=>t σ H λvs H1=>∀x dx,H1 x=none->H1 dx=none->dx≠x->
 sp (.ref x::(vs++dvs)) (upd (upd H1 dx (.own x)) x (.ins C dx [])) (λv H2=>v=.non/\Q (.ref x) H2) E
def QY (K:PySem.W.Frag) (fd:FuncData) (ps:List Str) (ds:List Value):Prop:=
 ∀(s:Shared) (us:List Value),K.In s.heap->(us++ds).length=ps.length->BindsTo s fd ⟨us,[]⟩ (ps.zip (us++ds))
theorem QY.all {K:PySem.W.Frag} {fd:FuncData} {ps:List Str} (h:∀us:List Value,us.length=ps.length->bindArgs fd ⟨us,[]⟩=pure (ps.zip us)):QY K fd ps []:=λs us _ hl=>by
 rw[zaZ]at hl ⊢
 exact .of_eq (h us hl)
def JB (CX:WF) (X:Cx) (E:XK):Prop:=∀(pins:List (Addr×Obj)) (σ:St) (H:Hp) (s:Shared) (e:Value) (s':Shared),qJ X pins σ H s->CX X.stack H s E e s'->X.xe e s'
section
variable {X:Cx} {CX:WF} {k:Nat} {f C:Addr} {fd:FuncData} {ps:List Str} {sp:Sp} {dvs:List V} {ds:List Value} {E:XK} {x m:Str} {p pos apos:Pos} {e o:Expr} {es:List Expr} {ta:TE} {t:TA}
theorem VL {pins:List (Addr×Obj)} {σ:St} {H:Hp} {s:Shared} {Q:VK} {us:List Value} {vs:List V} (F:qB X.prog X.w X.K X.mg X.base CX k f fd ps sp) (hr:jE k X.A) (hb:QY X.K fd ps ds) (hd:qP dvs ds) (hx:JB CX X E)
   (I:qJ X pins σ H s) (r:qP vs us) (h:sp (vs++dvs) H Q E):wpAny (model X.prog X.w) X.A (call (.ref f) us) (EP X pins σ Q) X.xe s:=by
 have r2:qP (vs++dvs) (us++ds):=r.append hd
 have hl:(us++ds).length=ps.length:=by rw[<-r2.length];exact F.len _ _ _ _ h
 refine wpAny_call (codeAny_mono (F.run X.A X.stack s H ⟨us,[]⟩ (us++ds) (vs++dvs) Q E hr I.env0 (hb s us I.kIn hl) r2 h) λr s' hq=>?_)
 cases r with
 | error e=>exact hx pins σ H s e s' I hq
 | ok fl=>
   cases fl with
   | ret u=>exact I.after hq
   | next=>exact False.elim hq
   | brk=>exact False.elim hq
   | cont=>exact False.elim hq
theorem uC (F:qB X.prog X.w X.K X.mg X.base CX k f fd ps sp) (hr:jE k X.A) (hg:Gl X x) (hm:X.mg x=some (.ref f)) (hk:zaQ X.K (.ref f)=true) (hb:QY X.K fd ps ds) (hd:qP dvs ds) (hx:JB CX X E)
   (ha:PA X (e::es) t) (hdb:(x==("__debug__":Str))=false:=by decide) (he:starEach (e::es) X.env=(false,eval e X.env)::starEach es X.env:=by rfl) (hpl:(backTo pos (starEach es X.env)).any (·.1)=false:=by rfl):
   PE X (.Call (.Name x p) (e::es) [] pos) (JJ sp dvs E t):=by
 intro pins s σ H Q I h
 refine wpAny_Call_Name_kw (Wl I hg hm ?_ hdb)
 refine zcj (h₀:=X.base) I.ok.mod.kin hk (jB (ha pos pins s σ H _ I h) λus s1 ⟨vs,H1,I1,r,q⟩=>⟨I1.kIn,?_⟩) he hpl
 exact VL F hr hb hd hx I1 r q
theorem uB {pl:Sem Bool} (he:PE X o ta) (c:Ur X.K C) (hm:k9 X.K C m f) (F:qB X.prog X.w X.K X.mg X.base CX k f fd ps sp) (hr:jE k X.A) (hb:QY X.K fd ps ds) (hd:qP dvs ds) (hx:JB CX X E) (ha:PA X (e::es) t)
   (hst:starEach (e::es) X.env=(false,eval e X.env)::starEach es X.env:=by rfl) (hpl:(backTo pos (starEach es X.env)).any (·.1)=false:=by rfl)
   (ht:eval (.Call (.Attribute o m apos) (e::es) [] pos) X.env=(do
     let ov <-eval o X.env
     standAt apos.atName
     let (f,first) <-holding [ov] (getMethod ov m pl)
     callWith pos f first (backTo pos (starEach (e::es) X.env)) (backToKw pos (keywordEach [] X.env))):=by rfl):
   PE X (.Call (.Attribute o m apos) (e::es) [] pos) (Xl C m sp dvs E ta t):=by
 intro pins s σ H Q I h
 refine zcN (pl:=pl) (jB (he pins s σ H _ I h) λu s1 ⟨x,H1,I1,rx,a,dx,fs,ex,ea,l,q⟩=>?_) ht
 subst ex
 obtain rfl:u=Value.ref a:=rx
 refine YX I1 ea c hm l ?_
 refine zcj (first:=[.ref a]) (h₀:=X.base) I.ok.mod.kin hm.kp (jB (ha pos pins s1 σ H1 _ I1 q) λus s2 ⟨vs,H2,I2,r,q2⟩=>⟨I2.kIn,?_⟩) hst hpl
 exact VL (us:=.ref a::us) (vs:=.ref a::vs) F hr hb hd hx I2 (.cons rfl r) q2
theorem Kd {pl:Sem Bool} (he:JE X o ta) (c:Ur X.K C) (hm:k9 X.K C m f) (F:qB X.prog X.w X.K X.mg X.base CX k f fd ps sp) (hr:jE k X.A) (hb:QY X.K fd ps ds) (hd:qP dvs ds) (hx:JB CX X E) (ha:JA X (e::es) t) (hst:starEach (e::es) X.env=(false,eval e X.env)::starEach es X.env:=by rfl) (hpl:(backTo pos (starEach es X.env)).any (·.1)=false:=by rfl) (ht:eval (.Call (.Attribute o m apos) (e::es) [] pos) X.env=(do
     let ov <-eval o X.env
     standAt apos.atName
     let (f,first) <-holding [ov] (getMethod ov m pl)
     callWith pos f first (backTo pos (starEach (e::es) X.env)) (backToKw pos (keywordEach [] X.env))):=by rfl):JE X (.Call (.Attribute o m apos) (e::es) [] pos) (Xl C m sp dvs E ta t):=.of (uB he.to c hm F hr hb hd hx ha.to hst hpl ht)
theorem y6 {pl:Sem Bool} (he:PE X o ta) (c:Ur X.K C) (hm:k9 X.K C m f) (F:qB X.prog X.w X.K X.mg X.base CX k f fd ps sp) (hr:jE k X.A) (hb:QY X.K fd ps ds) (hd:qP dvs ds) (hx:JB CX X E)
   (ht:eval (.Call (.Attribute o m apos) [] [] pos) X.env=(do
     let ov <-eval o X.env
     standAt apos.atName
     let (f,first) <-holding [ov] (getMethod ov m pl)
     callWith pos f first (backTo pos (starEach [] X.env)) (backToKw pos (keywordEach [] X.env))):=by rfl):
   PE X (.Call (.Attribute o m apos) [] [] pos) (Xl C m sp dvs E ta jT):=by
 intro pins s σ H Q I h
 refine zcN (pl:=pl) (jB (he pins s σ H _ I h) λu s1 ⟨x,H1,I1,rx,a,dx,fs,ex,ea,l,q⟩=>?_) ht
 subst ex
 obtain rfl:u=Value.ref a:=rx
 refine YX I1 ea c hm l ?_
 exact PySem.W.callWith_K0 (first:=[.ref a]) I1.kIn hm.kp (VL (us:=[.ref a]) (vs:=[.ref a]) F hr hb hd hx I1 (.cons rfl .nil) q)
theorem x6 {pl:Sem Bool} (he:JE X o ta) (c:Ur X.K C) (hm:k9 X.K C m f) (F:qB X.prog X.w X.K X.mg X.base CX k f fd ps sp) (hr:jE k X.A) (hb:QY X.K fd ps ds) (hd:qP dvs ds) (hx:JB CX X E) (ht:eval (.Call (.Attribute o m apos) [] [] pos) X.env=(do
     let ov <-eval o X.env
     standAt apos.atName
     let (f,first) <-holding [ov] (getMethod ov m pl)
     callWith pos f first (backTo pos (starEach [] X.env)) (backToKw pos (keywordEach [] X.env))):=by rfl):JE X (.Call (.Attribute o m apos) [] [] pos) (Xl C m sp dvs E ta jT):=.of (y6 he.to c hm F hr hb hd hx ht)
structure Mk (K:PySem.W.Frag) (C f:Addr):Prop where
 makes:zcH K C=true
 init:zan K (.ref C) "__init__"=some (some (.ref f))
 fn:zbB K (.ref f)=true
 kp:zaQ K (.ref C)=true
theorem yI {pins:List (Addr×Obj)} {σ:St} {H:Hp} {s:Shared} {Q:VK} {us:List Value} {vs:List V} (M:Mk X.K C f) (F:qB X.prog X.w X.K X.mg X.base CX k f fd ps sp) (hr:jE (k+1) X.A) (hb:QY X.K fd ps ds) (hd:qP dvs ds)
   (hx:JB CX X E) (I:qJ X pins σ H s) (r:qP vs us)
   (h:∀x dx,H x=none->H dx=none->dx≠x->sp (.ref x::(vs++dvs)) (upd (upd H dx (.own x)) x (.ins C dx [])) (λv H2=>v=.non/\Q (.ref x) H2) E):
   wpAny (model X.prog X.w) X.A (call (.ref C) us) (EP X pins σ Q) X.xe s:=by
 have hq:=h (s.heap.objs.size+1) s.heap.objs.size (I.hok.fresh (zcU _)) (I.hok.fresh (tu _)) (tM (zaI _))
 have I2:=qJ.made (C:=C) I
 have r2:qP (V.ref (s.heap.objs.size+1)::(vs++dvs)) (Value.ref (s.heap.objs.size+1)::(us++ds)):=.cons rfl (r.append hd)
 have hl:(Value.ref (s.heap.objs.size+1)::us++ds).length=ps.length:=by
   have e:=r2.length
   rw[F.len _ _ _ _ hq]at e
   exact e.symm
 refine wpAny_call (xC (f:=f) I.kIn M.makes M.init (beq_iff_eq.mp M.fn) (codeAny_mono (F.run _ X.stack _ _ ⟨Value.ref (s.heap.objs.size+1)::us,[]⟩ (Value.ref (s.heap.objs.size+1)::(us++ds)) _ _ E (hr.make C us [])
   (I2.env0.make C us []) (hb _ (Value.ref (s.heap.objs.size+1)::us) I2.kIn hl) r2 hq) λr s' hq'=>?_))
 cases r with
 | error e=>exact hx pins σ _ _ e s' I2 hq'
 | ok fl=>
   cases fl with
   | ret u=>
     obtain⟨v,H',I3,rv,ev,q3⟩:=I2.after hq'
     subst ev
     exact⟨rv,⟨V.ref (s.heap.objs.size+1),H',I3,rfl,q3⟩⟩
   | next=>exact False.elim hq'
   | brk=>exact False.elim hq'
   | cont=>exact False.elim hq'
theorem Wo (M:Mk X.K C f) (F:qB X.prog X.w X.K X.mg X.base CX k f fd ps sp) (hr:jE (k+1) X.A) (hg:Gl X x) (hm:X.mg x=some (.ref C)) (hb:QY X.K fd ps ds) (hd:qP dvs ds) (hx:JB CX X E) (ha:JA X (e::es) t) (hdb:(x==("__debug__":Str))=false:=by decide) (he:starEach (e::es) X.env=(false,eval e X.env)::starEach es X.env:=by rfl) (hpl:(backTo pos (starEach es X.env)).any (·.1)=false:=by rfl):JE X (.Call (.Name x p) (e::es) [] pos) (NL C sp dvs E t):=.of (by
 have ha:=ha.to
 intro pins s σ H Q I h
 refine wpAny_Call_Name_kw (Wl I hg hm ?_ hdb)
 refine zcj (h₀:=X.base) I.ok.mod.kin M.kp (jB (ha pos pins s σ H _ I h) λus s1 ⟨vs,H1,I1,r,q⟩=>⟨I1.kIn,?_⟩) he hpl
 exact yI M F hr hb hd hx I1 r q)
end
section
variable {X:Cx} {CX:WF} {k:Nat} {f C:Addr} {fd:FuncData} {ps ks:List Str} {sp:Sp} {E:XK} {x m:Str} {p pos apos kpos:Pos} {e o:Expr} {es:List Expr} {kws:List Keyword} {te ta:TE} {t tk:TA} {nm:Option Str}
structure qaR (K:PySem.W.Frag) (fd:FuncData) (ps ks:List Str) (g:List Value->List Value->List Value) (gV:List V->List V->List V):Prop where
 to:∀(s:Shared) (us ws:List Value),K.In s.heap->(g us ws).length=ps.length->BindsTo s fd ⟨us,ks.zip ws⟩ (ps.zip (g us ws))
 rel:∀{vs:List V} {us:List Value} {zs:List V} {ws:List Value},qP vs us->qP zs ws->qP (gV vs zs) (g us ws)
variable {g:List Value->List Value->List Value} {gV:List V->List V->List V}
end
structure qG (N P:List Str) (sc:Scope):Prop where
 kind:sc.kind=.function
 co:sc.isCoroutine=false
 gen:sc.isGenerator=false
 nd:N.Nodup
 pre:N.take P.length=P
 par:∀x∈P,sc.names.lookup x=some .local\/sc.names.lookup x=some .cell
 nofree:∀y∈sc.names,y.2≠.free
theorem XS {kindOf:Str->Option NameKind} {x:Str}:∀{binds:List (Str×Value)} {m:Str->Option Value},(∀v,(x,v)∉binds)->bindL kindOf binds m x=m x
 | [],_,_=>rfl
 | (n,v)::r,m,h=>by
   unfold bindL
   rw[XS λw hw=>h w (tN _ hw)]
   split
   . have:x≠n:=by rintro rfl;exact h v tS
     simp [this]
   . rfl
theorem XU {kindOf:Str->Option NameKind} {x:Str}:∀{binds:List (Str×Value)} {m:Str->Option Value},(∀v,(x,v)∉binds)->bindC kindOf binds m x=m x
 | [],_,_=>rfl
 | (n,v)::r,m,h=>by
   unfold bindC
   rw[XU λw hw=>h w (tN _ hw)]
   split
   . rfl
   . have:x≠n:=by rintro rfl;exact h v tS
     simp [this]
theorem XT {kindOf:Str->Option NameKind} {x:Str} {v:Value}:∀{P:List Str} {vs:List Value} {i:Nat} {m:Str->Option Value},P.Nodup->P[i]?=some x->vs[i]?=some v->kindOf x=some .local->
   bindL kindOf (P.zip vs) m x=some v
 | [],_,_,_,_,h,_,_=>by simp at h
 | _::_,[],_,_,_,_,h,_=>by simp at h
 | p::P,w::vs,0,m,nd,h1,h2,hk=>by
   simp at h1 h2;subst h1;subst h2
   show bindL kindOf ((p,w)::P.zip vs) m p=_
   unfold bindL
   rw[XS λv hv=>(zaf.mp nd).1 (zcI hv).1,if_pos hk]
   simp
 | p::P,w::vs,i+1,m,nd,h1,h2,hk=>by
   show bindL kindOf ((p,w)::P.zip vs) m x=_
   unfold bindL
   exact XT (i:=i) (zaf.mp nd).2 (by simpa using h1) (by simpa using h2) hk
theorem XV {kindOf:Str->Option NameKind} {x:Str} {v:Value}:∀{P:List Str} {vs:List Value} {i:Nat} {m:Str->Option Value},P.Nodup->P[i]?=some x->vs[i]?=some v->kindOf x≠some .local->
   bindC kindOf (P.zip vs) m x=some v
 | [],_,_,_,_,h,_,_=>by simp at h
 | _::_,[],_,_,_,_,h,_=>by simp at h
 | p::P,w::vs,0,m,nd,h1,h2,hk=>by
   simp at h1 h2;subst h1;subst h2
   show bindC kindOf ((p,w)::P.zip vs) m p=_
   unfold bindC
   rw[XU λv hv=>(zaf.mp nd).1 (zcI hv).1,if_neg hk]
   simp
 | p::P,w::vs,i+1,m,nd,h1,h2,hk=>by
   show bindC kindOf ((p,w)::P.zip vs) m x=_
   unfold bindC
   exact XV (i:=i) (zaf.mp nd).2 (by simpa using h1) (by simpa using h2) hk
def ZP (N:List Str) (vs:List V):St:=vs.map some++zcV (N.length - vs.length) none
def Ue (CX:WF) (P:Program) (w:World) (K:PySem.W.Frag) (mg:Str->Option Value) (base:Heap) (N:List Str) (qual:Str) (scope:Scope) (f:Addr) (cd:Value) (A:Around) (outer:List Env) (s:Shared) (H:Hp) (E:XK):Cx where
 prog:=P
 w:=w
 K:=K
 mg:=mg
 base:=base
 A:=A.deeper (envOfC qual scope s.heap.objs.size f cd)
 N:=N
 s₀:=s
 H₀:=H
 env:=envOfC qual scope s.heap.objs.size f cd
 outer:=outer
 stack:=envOfC qual scope s.heap.objs.size f cd::outer
 ex:=[]
 calm:=true
 fn:=λ_=>true
 pn:=[]
 xe:=λe s'=>wpAny (model P w) (A.deeper (envOfC qual scope s.heap.objs.size f cd)) (leaving (envOfC qual scope s.heap.objs.size f cd) e) (λ_ s''=>CX outer H s E e s'') (λe' s''=>CX outer H s E e' s'') s'
theorem Vo {sc:Scope} {n:Nat} {x:Str} (h:sc.names.lookup x=some .cell):∃c,(cellsFrom n sc.names []).lookup x=some c:=by
 have q:=zcC sc.names n [] (.inl h)
 exact zaN.mp q
theorem kF {CX:WF} {P:Program} {w:World} {K:PySem.W.Frag} {mg:Str->Option Value} {base:Heap} {N ps:List Str} {qual:Str} {scope:Scope} {f:Addr} {cd:Value} {A:Around} {outer:List Env} {s s1:Shared} {H:Hp} {E:XK} {us:List Value} {vs:List V}
   (S:qG N ps scope) (hd:A.handled=none) (e0:Vs P w K mg base A outer s H) (hl:vs.length=ps.length) (r:qP vs us)
   (x:InCallC s s.heap.objs.size (bindL (envOfC qual scope s.heap.objs.size f cd).kindOf (ps.zip us) λ_=>none) (cellsFrom (s.heap.objs.size+1) scope.names []) (bindC (envOfC qual scope s.heap.objs.size f cd).kindOf (ps.zip us) λ_=>none) s1):
   qJ (Ue CX P w K mg base N qual scope f cd A outer s H E) [] (ZP N vs) H s1:=by
 have hpl:ps.length<=N.length:=by have:=congrArg zax S.pre;rw[tT]at this;omega
 obtain⟨h1,tk,rfl,hk⟩:=x.done
 have noA:∀b:Addr,b∉(Ue CX P w K mg base N qual scope f cd A outer s H E).ex:=λb z=>absurd (show b∈([]:List Addr) from z) (by simp)
 refine⟨⟨e0.mod,S.kind,rfl,rfl,tu _,λy z c h1 h2=>?_,λy hy=>?_,λy c _ h=>?_,λ_=>hd,Around.frames_deeper e0.frames,.inr ⟨rfl,rfl⟩,λb z=>absurd z (noA b),e0.bs,e0.bsz,λb _ _=>noA b,λb z=>absurd z (noA b),e0.funs,e0.frf⟩,
   rfl,e0.bare,Un.kept hk,⟨_,x.toInCall.ns,λi y v h1 h2 h3=>?_⟩,λy c h=>⟨_,x.cell y c h⟩,e0.hok.fresh (tu _),λy c h=>?_,λp hp=>absurd (show p∈([]:List (Addr×Obj)) from hp) (by simp),e0.hok.kept hk,?_⟩
 . exact name_of_addr x.apart (PySem.mem_of_lookup h1) (PySem.mem_of_lookup h2)
 . have hy:scope.names.lookup y=some .cell\/scope.names.lookup y=some .free:=hy
   rcases hy with hy | hy
   . exact Vo hy
   . exact absurd rfl (S.nofree _ (PySem.mem_of_lookup hy))
 . exact zab (x.above y c (PySem.mem_of_lookup h))
 . have hi:i < vs.length:=by
     unfold ZP at h2
     by_cases hi:i < vs.length
     . exact hi
     . rw[zaH (by simpa using hi)]at h2
       rw[List.getElem?_replicate]at h2
       split at h2<;>cases h2
   have ha:vs[i]?=some v:=by
     unfold ZP at h2
     rw[zbk (by simpa using hi),tH]at h2
     cases e:vs[i]? with
     | none=>rw[e]at h2;cases h2
     | some a=>rw[e]at h2;cases h2;rfl
   obtain⟨u,hu,rv⟩:=r.get ha
   have hp:ps[i]?=some y:=by
     rw[<-S.pre,zbG (by omega)];exact h1
   have ndP:ps.Nodup:=by rw[<-S.pre];exact S.nd.sublist (zdh _ _)
   refine⟨u,rv,?_⟩
   rcases S.par y (tY hp) with k | k
   . exact .inl ⟨k,XT ndP hp hu k⟩
   . obtain⟨c,e⟩:=Vo (n:=s.heap.objs.size+1) k
     refine .inr ⟨.inl k,c,e,?_⟩
     have q:=x.cell y c e
     rw[XV ndP hp hu (by show scope.names.lookup y≠_;rw[k];decide)]at q
     exact q
 . exact .inl (e0.hok.fresh (zab (x.above y c (PySem.mem_of_lookup h))))
 . unfold ZP
   show _=N.length
   rw[tX,tj,zcO]
   omega
theorem Ms {CX:WF} {P:Program} {w:World} {K:PySem.W.Frag} {mg:Str->Option Value} {base:Heap} {k:Nat} {f:Addr} {name qual:Str} {params:Arguments} {body:List Stmt} {scope:Scope} {dV kV doc pm cdv ct oc:Value} {an od:Option Addr}
   {osl:Array (Option Value)} {N ps:List Str} {sp:Sp} (lk:K.lookup f=some ⟨oc,od,.func (zbd name qual params body scope dV kV doc pm an cdv ct),osl⟩) (hcd:zbw K cdv qual=true) (S:qG N ps scope)
   (len:∀vs H Q E,sp vs H Q E->vs.length=ps.length)
   (hbody:∀(A:Around) (outer:List Env) (s:Shared) (H:Hp) (vs:List V) (Q:VK) (E:XK),jE k (A.deeper (envOfC qual scope s.heap.objs.size f cdv))->sp vs H Q E->
     ∃t,Gi (Ue CX P w K mg base N qual scope f cdv A outer s H E) body t/\t {nx:=λ_ H'=>Q .non H',rt:=Q} (ZP N vs) H):
   qB P w K mg base CX (k+1) f (zbd name qual params body scope dV kV doc pm an cdv ct) ps sp:=by
 refine⟨len,λA outer s H args us vs Q E hr e0 hb r hsp=>?_⟩
 have hl:=len _ _ _ _ hsp
 have KX:K.In s.heap:=e0.mod.kin.keeps λb o e=>(e0.bs b o e).1
 have lim:s.heap.NoLimit:=e0.mod.nolimit.keeps λb o e=>(e0.bs b o e).1
 have hkind:∀y∈ps.zip us,scope.names.lookup y.1=some .local\/(scope.names.lookup y.1=some .cell/\((cellsFrom (s.heap.objs.size+1) scope.names []).lookup y.1).isSome=true):=λ⟨n,v⟩ hy=>by
   rcases S.par n (zcI hy).1 with q | q
   . exact .inl q
   . exact .inr ⟨q,zcC _ _ _ (.inl q)⟩
 refine codeAny_call_function hr.depth (KX _ _ lk) rfl S.co S.gen rfl (PySem.W.codeRec_of KX hcd) (hb _ _ _ _ ?_)
 refine wpAny_newFunctionEnv_cells S.kind hkind λenv he s1 x=>?_
 subst he
 refine⟨lim.keeps x.toInCall.keep,codeAny_func ?_⟩
 obtain⟨t,ht,hq⟩:=hbody A outer s H vs Q E (hr.deeper _) hsp
 have I:qJ (Ue CX P w K mg base N qual scope f cdv A outer s H E) [] (ZP N vs) H s1:=kF S hr.hd e0 hl r x
 refine wpAny_mono (ht [] s1 (ZP N vs) H _ I hq) (λfl s' hs=>?_) λe s' hs=>hs
 have fin:∀{σ':St} {H':Hp} {v:V} {u:Value},qJ (Ue CX P w K mg base N qual scope f cdv A outer s H E) [] σ' H' s'->qX v u->Q v H'->CE outer P w H s Q u s':=
   λ{σ' H' v u} J rv q=>⟨v,H',J.os,J.bare,J.base,J.hok,rv,q⟩
 cases fl with
 | ret u=>
   obtain⟨v,σ',H',J,rv,q⟩:=hs
   exact fin J rv q
 | next=>
   obtain⟨σ',H',J,q⟩:=hs
   exact fin (v:=V.non) (u:=Value.none) J rfl q
 | brk=>
   obtain⟨_,_,_,q⟩:=hs
   exact False.elim q
 | cont=>
   obtain⟨_,_,_,q⟩:=hs
   exact False.elim q
section
variable {X:Cx} {x:Str} {p pos:Pos} {e:Expr} {es:List Expr} {t:TA} {id T:String} {r:List V->Hp->VK->Prop}
def Nt (r:List V->Hp->VK->Prop) (t:TA):TE:=λσ H Q=>t σ H λvs H1=>r vs H1 Q
theorem qy (hc:js X (.builtin id) r) (hg:Gl X x) (hm:X.mg x=none) (hv:bootBuiltins x=some (.builtin id)) (ha:JA X (e::es) t) (hn:x≠"__name__":=by decide) (hdb:(x==("__debug__":Str))=false:=by decide) (he:starEach (e::es) X.env=(false,eval e X.env)::starEach es X.env:=by rfl) (hpl:(backTo pos (starEach es X.env)).any (·.1)=false:=by rfl):JE X (.Call (.Name x p) (e::es) [] pos) (Nt r t):=.of (by
 have ha:=ha.to
 intro pins s σ H Q I h
 refine wpAny_Call_Name_kw (Jb I hg hm hv ?_ hn hdb)
 exact PyProof.Rows.callWith_builtin1 (jB (ha pos pins s σ H _ I h) λus s1 ⟨vs,H1,I1,r1,q1⟩=>hc pins s1 σ H1 vs us Q I1 r1 q1) he hpl)
theorem jq (hc:js X (.type T) r) (hg:Gl X x) (hm:X.mg x=none) (hv:bootBuiltins x=some (.type T)) (ha:JA X (e::es) t) (hn:x≠"__name__":=by decide) (hdb:(x==("__debug__":Str))=false:=by decide) (he:starEach (e::es) X.env=(false,eval e X.env)::starEach es X.env:=by rfl) (hpl:(backTo pos (starEach es X.env)).any (·.1)=false:=by rfl):JE X (.Call (.Name x p) (e::es) [] pos) (Nt r t):=.of (by
 have ha:=ha.to
 intro pins s σ H Q I h
 refine wpAny_Call_Name_kw (Jb I hg hm hv ?_ hn hdb)
 exact PyProof.Rows.callWith_type1 (jB (ha pos pins s σ H _ I h) λus s1 ⟨vs,H1,I1,r1,q1⟩=>hc pins s1 σ H1 vs us Q I1 r1 q1) he hpl)
end
end L2
namespace HT
open PySem PyProof.Rows
section
open PySem.SeqAt
open PySem.AutoSeq1 (wpAny_loadPart')
open PySem.MeetsSeq PySem.MeetsSeq2 PySem.MeetsSeq3
end
section
variable {prog:Program} {w:World} {A:Around} {E:Value->Shared->Prop} {s:Shared}
theorem cat_tup {t b:Addr} {vs ws:List Value} {Q:Value->Shared->Prop} (ht:IsTup s.heap t vs.toArray) (hb:IsTup s.heap b ws.toArray) (hv:vs≠[])
   (h1:ws=[]->Q (.ref t) s) (h2:ws≠[]->Q (.ref s.heap.objs.size) {s with heap:=s.heap.push {cls:=.type "tuple",data:=.seq (vs++ws).toArray}})
   (hsz:vs.length+ws.length<=sizeLine):wpAny (model prog w) A (binaryOp .Add (.ref t) (.ref b)) Q E s:=by
 obtain⟨⟨cls,dd,data,sl⟩,ho,hc,n,hd⟩:=id ht
 obtain⟨⟨cls2,dd2,data2,sl2⟩,ho2,hc2,n2,hd2⟩:=id hb
 simp only at hc hd hc2 hd2
 subst hc hd hc2 hd2
 have e:vs.toArray++ws.toArray=(vs++ws).toArray:=by simp
 by_cases hw:ws=[]
 . exact concat_meets ⟨_,ho,rfl⟩ ⟨_,ho2,rfl⟩ noFill_tuple_add seq_tuple_add zbQ zbM (zbH _ _)
     (tuple_addW1 t b vs.toArray ws.toArray n n2 dd dd2 sl sl2 (by simpa using hv) (by simp [hw])) ⟨ho,ho2,h1 hw⟩
 . refine concat_meets ⟨_,ho,rfl⟩ ⟨_,ho2,rfl⟩ noFill_tuple_add seq_tuple_add zbQ zbM (zbH _ _)
     (tuple_addW2 t b vs.toArray ws.toArray n n2 dd dd2 sl sl2 (by simpa using hv) (by simpa using hw) (by rw[tW,tW];exact hsz)) ⟨ho,ho2,?_⟩
   rw[e]
   exact h2 hw
def sIx (n d:Nat):Option Int->Nat
 | none=>d
 | some v=>if v < 0 then (v+(n:Int)).toNat else min v.toNat n
theorem Rc (n d:Nat) (hd:d<=n) (o:Option Int):sIx n d o<=n:=by
 cases o with
 | none=>exact hd
 | some v=>
   show (if v < 0 then (v+(n:Int)).toNat else min v.toNat n)<=n
   by_cases hv:v < 0
   . rw[if_pos hv];omega
   . rw[if_neg hv];exact Nat.min_le_right _ _
theorem vk (v:Int) (n d:Nat):(if v < 0 then max (v+(n:Int)) 0 else min v (n:Int))=((sIx n d (some v):Nat):Int):=by
 show (if v < 0 then max (v+(n:Int)) 0 else min v (n:Int))=(((if v < 0 then (v+(n:Int)).toNat else min v.toNat n):Nat):Int)
 by_cases hv:v < 0
 . simp only[if_pos hv];omega
 . simp only[if_neg hv];omega
theorem Uk (lo hi:Option Int) (n:Nat):Builtin.Slice.sliceAdjust lo hi 1 (n:Int)=(((sIx n 0 lo:Nat):Int),((sIx n n hi:Nat):Int)):=by
 have h1:¬((1:Int) < 0):=by omega
 unfold Builtin.Slice.sliceAdjust
 simp only[h1,if_false]
 refine Prod.ext ?_ ?_
 . cases lo with
   | none=>rfl
   | some v=>exact vk v n 0
 . cases hi with
   | none=>rfl
   | some v=>exact vk v n n
theorem VM (i j:Nat):Builtin.Slice.slicePlaces (i:Int) (j:Int) 1=j - i:=by
 unfold Builtin.Slice.slicePlaces
 have h1:(1:Int) > 0:=by omega
 simp only[h1,if_true,Int.ediv_one]
 split<;>omega
theorem Yo {v:Value} {o:Option Int} {Q:Option Int->Shared->Prop} (p:IsPart v o) (h:Q o s):wpAny (model prog w) A (Builtin.Slice.slicePartIndex v) Q E s:=by
 cases p with
 | none=>exact slicePart_none h
 | int i t=>exact slicePart_int h
theorem Jg {sl:Addr} {vl vu:Value} {lo hi:Option Int} {n:Nat} {Q:Int×Int×Nat->Shared->Prop} (hs:s.heap.IsSliceOf sl vl vu .none) (pl:IsPart vl lo) (pu:IsPart vu hi)
   (h:Q (((sIx n 0 lo:Nat):Int),1,sIx n n hi - sIx n 0 lo) s):wpAny (model prog w) A (Builtin.Slice.sliceApplied (.ref sl) (pure (n:Int))) Q E s:=by
 obtain⟨os,hos,hcs,hds⟩:=id hs
 unfold Builtin.Slice.sliceApplied Builtin.Slice.sliceFields
 refine wpAny_bind (wpAny_bind (wpAny_field hos hds (x:=vl) rfl (wpAny_bind (wpAny_field hos hds (x:=vu) rfl (wpAny_bind (wpAny_field hos hds (x:=.none) rfl (wpAny_pure ?_)))))))
 refine wpAny_bind (slicePart_none ?_)
 show wpAny _ _ (if ((1:Int)==0)=true then _ else _) _ _ s
 rw[if_neg (by decide)]
 refine wpAny_bind (Yo pl (wpAny_bind (Yo pu (wpAny_bind (wpAny_pure ?_)))))
 show wpAny _ _ (match Builtin.Slice.sliceAdjust lo hi 1 (n:Int) with | (lo,hi)=>pure (lo,(1:Int),Builtin.Slice.slicePlaces lo hi 1)) _ _ s
 rw[Uk lo hi n]
 show wpAny _ _ (pure (((sIx n 0 lo:Nat):Int),(1:Int),Builtin.Slice.slicePlaces ((sIx n 0 lo:Nat):Int) ((sIx n n hi:Nat):Int) 1)) _ _ s
 rw[VM]
 exact wpAny_pure h
theorem y3 (xs:Array Value) (i k:Nat):((tU k).filterMap λ(m:Nat)=>xs[((i:Int)+(m:Int)*1).toNat]?).toArray=((xs.toList.drop i).take k).toArray:=by
 have e:(λ(m:Nat)=>xs[((i:Int)+(m:Int)*1).toNat]?)=λm=>xs[i+m]?:=by
   funext m
   have:((i:Int)+(m:Int)*1).toNat=i+m:=by omega
   rw[this]
 rw[e]
 have:=pick_run xs i k
 rw[List.filterMap_map]at this
 have e2:((λx=>xs[x]?) ∘ λx=>i+x)=λm=>xs[i+m]?:=rfl
 rw[e2]at this
 rw[this]
theorem getItem_tuple_cut {t sl:Addr} {items:Array Value} {vl vu:Value} {lo hi:Option Int} {Q:Value->Shared->Prop} (ht:IsTup s.heap t items) (hs:s.heap.IsSliceOf sl vl vu .none) (pl:IsPart vl lo) (pu:IsPart vu hi)
   (hw:¬(sIx items.size 0 lo=0/\sIx items.size items.size hi=items.size))
   (h:Q (.ref s.heap.objs.size) {s with heap:=s.heap.push {cls:=.type "tuple",data:=.seq ((items.toList.drop (sIx items.size 0 lo)).take (sIx items.size items.size hi - sIx items.size 0 lo)).toArray}})
   (hsz:items.size<=sizeLine):wpAny (model prog w) A (getItem (.ref t) (.ref sl)) Q E s:=by
 have htake:sizeOk (.seq ((items.toList.drop (sIx items.size 0 lo)).take (sIx items.size items.size hi - sIx items.size 0 lo)).toArray):=by
   show ((items.toList.drop (sIx items.size 0 lo)).take (sIx items.size items.size hi - sIx items.size 0 lo)).toArray.size<=sizeLine
   rw[tW,tT,List.length_drop,zag]
   omega
 have hj:sIx items.size items.size hi<=items.size:=Rc _ _ (tu _) hi
 obtain⟨os,hos,hcs,hds⟩:=id hs
 have hTs:s.TypeIs (.ref sl) "slice":=⟨os,hos,hcs⟩
 unfold getItem
 try with_reducible refine wpAny_holding ?_
 first | refine wpAny_bind (wpAny_pure ?_) | skip
 refine wpAny_bind (wpAny_sequenceKey ht.typeIs (by decide) ?_)
 refine wpAny_bind (wpAny_callSpecial?_slot (name:=Str.ofString "__getitem__") ht.typeIs PyProof.Rows.slot_tuple_getitem
   (wpAny_call_entry PyProof.Rows.slot_tuple_getitem ht.typeIs entry_tuple_getitem ?_ (args_tuple_getitem _ _)))
 show wpAny _ _ (Builtin.Tuple.tupleItemsOf (.ref t) >>= _) _ _ s
 refine wpAny_bind (tupleItemsOf_ ht ?_)
 refine wpAny_bind (wpAny_typeOf hTs ?_)
 rw[if_pos (by decide)]
 refine wpAny_bind (Jg hs pl pu ?_)
 have hno:¬((((sIx items.size 0 lo:Nat):Int)==0&&(1:Int)==1&&(sIx items.size items.size hi - sIx items.size 0 lo)==items.size)=true):=by
   intro q
   rw[zam,zam]at q
   have q1:((sIx items.size 0 lo:Nat):Int)=0:=eq_of_beq q.1.1
   have q2:sIx items.size items.size hi - sIx items.size 0 lo=items.size:=eq_of_beq q.2
   exact hw ⟨by omega,by omega⟩
 show wpAny _ _ (if (((sIx items.size 0 lo:Nat):Int)==0&&(1:Int)==1&&(sIx items.size items.size hi - sIx items.size 0 lo)==items.size)=true then _ else _) _ _ s
 rw[if_neg hno,y3]
 first
   | exact wpAny_bind (m:=Builtin.Tuple.tupleExact _) (wpAny_newObj_type (wpAny_pure ⟨_,rfl,wpAny_pure h⟩) htake)
   | exact wpAny_bind (m:=Builtin.Tuple.tupleExact _) (wpAny_newObj_type (wpAny_bind (wpAny_pure (wpAny_pure ⟨_,rfl,wpAny_pure h⟩))) htake)
   | exact wpAny_bind (wpAny_bind (m:=Builtin.Tuple.tupleExact _) (wpAny_newObj_type (wpAny_pure (wpAny_pure ⟨_,rfl,wpAny_pure h⟩)) htake))
   | exact wpAny_bind (wpAny_bind (m:=Builtin.Tuple.tupleExact _) (wpAny_newObj_type (wpAny_pure ⟨_,rfl,wpAny_pure h⟩) htake))
end
end HT
namespace L2
open PySem PySem.Spec PyProof.Rows
abbrev TO:=St->Hp->(Option Int->Hp->Prop)->Prop
def PO (X:Cx) (e:Option Expr) (t:TO):Prop:=
 ∀(pins:List (Addr×Obj)) (s:Shared) (σ:St) (H:Hp) (Q:Option Int->Hp->Prop),qJ X pins σ H s->t σ H Q->
   wpAny (model X.prog X.w) X.A (evalPart e X.env) (λu s'=>∃o H',qJ X pins σ H' s'/\IsPart u o/\Q o H') X.xe s
@[irreducible] def JO (X:Cx) (e:Option Expr) (t:TO):Prop:=PO X e t
theorem JO.of {X:Cx} {e:Option Expr} {t:TO} (h:PO X e t):JO X e t:=by unfold JO;exact h
theorem JO.to {X:Cx} {e:Option Expr} {t:TO} (h:JO X e t):PO X e t:=by unfold JO at h;exact h
def X2:TO:=λ_ H Q=>Q none H
def ym (t:TE):TO:=λσ H Q=>t σ H λx H1=>∃i,x=.int i/\Q (some i) H1
theorem V4 {ns:List Int}:∀{us:List Value},qP (ns.map V.int) us->IntsAre us ns:=by
 induction ns with
 | nil=>intro us r;rw[zce]at r;cases r;exact .nil
 | cons n ns ih=>
   intro us r
   rw[tP]at r
   cases r with
   | cons r1 r2=>
     obtain⟨t,e⟩:=r1
     subst e
     exact .cons n t (ih r2)
section
variable {X:Cx} {e:Expr} {te:TE} {lo hi:Option Expr} {tl th:TO} {pos p2:Pos}
theorem jX:JO X none X2:=.of (by
 intro pins s σ H Q I h
 rw[evalPart_none]
 exact wpAny_pure ⟨none,H,I,.none,h⟩)
theorem jW (h:JE X e te):JO X (some e) (ym te):=.of (by
 have h:=h.to
 intro pins s σ H Q I hw
 rw[evalPart_some]
 refine jB (h pins s σ H _ I hw) λu s1 ⟨x,H1,I1,r1,q1⟩=>?_
 obtain⟨i,rfl,q⟩:=q1
 obtain⟨t,rfl⟩:=r1
 exact⟨some i,H1,I1,.int i t,q⟩)
def MH (X:Cx) (r:V->Option Int->Option Int->Hp->VK->Prop):Prop:=
 ∀(pins:List (Addr×Obj)) (s:Shared) (σ:St) (H:Hp) (x:V) (v vl vu:Value) (lo hi:Option Int) (sl:Addr) (Q:VK),qJ X pins σ H s->qX x v->s.heap.IsSliceOf sl vl vu .none->IsPart vl lo->IsPart vu hi->r x lo hi H Q->
   ∃T id,typeLookup (.type T) "__getitem__"=pure (some (.builtin id))/\s.TypeIs v T/\wpAny (model X.prog X.w) X.A (getItem v (.ref sl)) (EP X pins σ Q) X.xe s
def MV (r:V->Option Int->Option Int->Hp->VK->Prop) (te:TE) (tl th:TO):TE:=λσ H Q=>te σ H λx H1=>tl σ H1 λl H2=>th σ H2 λu H3=>r x l u H3 Q
theorem jG {r:V->Option Int->Option Int->Hp->VK->Prop} (hr:MH X r) (he:JE X e te) (hl:JO X lo tl) (hu:JO X hi th):JE X (.Subscript e (.Slice lo hi none p2) pos) (MV r te tl th):=.of (by
 have he:=he.to
 have hl:=hl.to
 have hu:=hu.to
 intro pins s σ H Q I h
 refine Subscript_ (jB (he pins s σ H _ I h) λv s1 ⟨x,H1,I1,r1,q1⟩=>?_)
 refine wpAny_Slice (jB (hl pins s1 σ H1 _ I1 q1) λvl s2 ⟨l,H2,I2,pl,q2⟩=>jB (hu pins s2 σ H2 _ I2 q2) λvu s3 ⟨u,H3,I3,pu,q3⟩=>?_)
 rw[evalPart_none]
 refine wpAny_pure ?_
 have I4:qJ X pins σ H3 {s3 with heap:=s3.heap.push {cls:=.type "slice",data:=.fields #[vl,vu,.none]}}:=I3.kept (t':=s3.toks) λb ob q=>tq _ q
 obtain⟨T,id,hT,ht,hg⟩:=hr pins {s3 with heap:=s3.heap.push {cls:=.type "slice",data:=.fields #[vl,vu,.none]}} σ H3 x v vl vu l u s3.heap.objs.size Q I4 r1 (Heap.IsSliceOf.new ..) pl pu q3
 show wpAny (model X.prog X.w) X.A (subscriptTail e (.Slice lo hi none p2) v (.ref s3.heap.objs.size)) (EP X pins σ Q) X.xe {s3 with heap:=s3.heap.push {cls:=.type "slice",data:=.fields #[vl,vu,.none]}}
 exact tail_any (ops:=[.ref s3.heap.objs.size,v]) ht hT hg (by with_unfolding_all rfl))
def Ww (xs:List V) (lo hi:Option Int):List V:=(xs.drop (HT.sIx xs.length 0 lo)).take (HT.sIx xs.length xs.length hi - HT.sIx xs.length 0 lo)
theorem J4 (xs:List V) (lo hi:Option Int):(Ww xs lo hi).length<=xs.length:=by
 unfold Ww
 rw[tT,List.length_drop]
 omega
def NY (K:PySem.W.Frag):V->Option Int->Option Int->Hp->VK->Prop:=λx lo hi H Q=>∃a xs,x=.ref a/\SqT K H a xs/\
 ¬(HT.sIx xs.length 0 lo=0/\HT.sIx xs.length xs.length hi=xs.length)/\∀p,H p=none->Q (.ref p) (upd H p (.tup (Ww xs lo hi)))
theorem Gz:MH X (NY X.K):=by
 intro pins s σ H x v vl vu lo hi sl Q I rx hs pl pu h
 obtain⟨a,xs,rfl,hx,hw,q⟩:=h
 cases rx
 obtain⟨its,r,ht,hz⟩:=I.tuple hx
 have hlen:its.toArray.size=xs.length:=by rw[tW];exact r.length.symm
 refine⟨"tuple",_,PyProof.Rows.slot_tuple_getitem.lookup,ht.typeIs,?_⟩
 refine HT.getItem_tuple_cut ht hs pl pu (by rw[hlen];exact hw) ?_ (by rw[hlen];exact hz)
 rw[hlen]
 refine⟨.ref s.heap.objs.size,_,I.laid (t':=s.toks) (o:=.tup (Ww xs lo hi)) (λb ob q=>tq _ q) (tu _) ?_,rfl,q _ (I.hok.fresh (tu _))⟩
 exact⟨tV (J4 xs lo hi) hz,_,(r.drop (HT.sIx xs.length 0 lo)).take (HT.sIx xs.length xs.length hi - HT.sIx xs.length 0 lo),IsTup.new _ _⟩
theorem qP.nil_iff {xs:List V} {us:List Value} (r:qP xs us):us=[]↔xs=[]:=by
 cases r with
 | nil=>simp
 | cons _ _=>simp
end
def RX (n:Nat) (i:Int):Option Nat:=if 0<=i then (if i < n then some i.toNat else none) else if -(n:Int)<=i then some (i+n).toNat else none
def Uj {α:Type} (xs:List α) (i:Int):Option α:=(RX xs.length i).bind λj=>xs[j]?
theorem Kf {n:Nat} {i:Int} {j:Nat} (h:RX n i=some j):seqIndex? i n=some j/\j < n/\-(n:Int)<=i/\i < n:=by
 unfold RX at h
 by_cases h0:0<=i
 . rw[if_pos h0]at h
   by_cases h1:i < n
   . rw[if_pos h1]at h
     have e:i.toNat=j:=tK.inj h
     exact⟨by rw[seqIndex_of h0 h1,e],by omega,by omega,h1⟩
   . rw[if_neg h1]at h;cases h
 . rw[if_neg h0]at h
   by_cases h1:-(n:Int)<=i
   . rw[if_pos h1]at h
     have e:(i+n).toNat=j:=tK.inj h
     exact⟨by rw[seqIndex_neg (by omega) h1,e],by omega,h1,by omega⟩
   . rw[if_neg h1]at h;cases h
theorem Wz {α:Type} {xs:List α} {i:Int} {v:α} (h:Uj xs i=some v):∃j,seqIndex? i xs.length=some j/\xs[j]?=some v/\j < xs.length/\-(xs.length:Int)<=i/\i < xs.length:=by
 unfold Uj at h
 cases e:RX xs.length i with
 | none=>rw[e]at h;cases h
 | some j=>
   rw[e]at h
   obtain⟨h1,h2,h3,h4⟩:=Kf e
   exact⟨j,h1,h,h2,h3,h4⟩
theorem QL {α:Type} {xs:List α} {j:Nat} {v:α} (h:xs[j]?=some v):Uj xs (j:Int)=some v:=by
 have hj:j < xs.length:=(tw.mp h).1
 have e:RX xs.length (j:Int)=some j:=by
   unfold RX
   rw[if_pos (by omega),if_pos (by omega)];simp
 unfold Uj;rw[e];exact h
def KF (b:Expr):Prop:=∀o i,subscripted b false o i=operate [o,i] (getItem o i)
def M3 (X:Cx) (r:R2):Prop:=
 ∀(value slice:Expr) (pins:List (Addr×Obj)) (s:Shared) (σ:St) (H:Hp) (x y:V) (v u:Value) (Q:VK),qJ X pins σ H s->qX x v->qX y u->r x y H Q->
   subscripted slice false v u=operate [v,u] (getItem v u)->wpAny (model X.prog X.w) X.A (subscriptTail value slice v u) (EP X pins σ Q) X.xe s
def MN (X:Cx) (id:String) (r:V->List V->Hp->VK->Prop):Prop:=
 ∀(pins:List (Addr×Obj)) (s:Shared) (σ:St) (H:Hp) (x:V) (xs:List V) (v:Value) (us:List Value) (Q:VK),qJ X pins σ H s->qX x v->qP xs us->r x xs H Q->
   wpAny (model X.prog X.w) X.A (call (.builtin id) (v::us)) (EP X pins σ Q) X.xe s
section
variable {X:Cx} {a b:Expr} {ta tb:TE} {pos:Pos}
theorem qD {r:R2} (hr:M3 X r) (ha:JE X a ta) (hb:JE X b tb) (hs:KF b):JE X (.Subscript a b pos) (Jf r ta tb):=.of (by
 have ha:=ha.to
 have hb:=hb.to
 intro pins s σ H Q I h
 exact Subscript_ (Nd ha hb I h λv u s2 x y H2 I2 rx ry q=>hr a b pins s2 σ H2 x y v u Q I2 rx ry q (hs _ _)))
def Rg (K:PySem.W.Frag):R2:=λx y H Q=>∃p xs i v,x=.ref p/\y=.int i/\SqL K H p xs/\Uj xs i=some v/\Q v H
def JQ (K:PySem.W.Frag):R2:=λx y H Q=>∃p xs i v,x=.ref p/\y=.int i/\SqT K H p xs/\Uj xs i=some v/\Q v H
def qam:R2:=λx y H Q=>∃z i c,x=.str z/\y=.int i/\z.length<=sizeLine/\Uj z.cps.toList i=some c/\Q (.str ⟨#[c]⟩) H
theorem Qh:M3 X (Rg X.K):=by
 intro value slice pins s σ H x y v u Q I rx ry h hs
 obtain⟨p,xs,i,z,rfl,rfl,hq,he,q⟩:=h
 cases rx
 obtain⟨t,rfl⟩:=ry
 obtain⟨its,r,pl,hz⟩:=I.list hq
 obtain⟨j,h1,h2,h3,h4,h5⟩:=Wz he
 obtain⟨w,ew,rw'⟩:=r.get h2
 have hl:=r.length
 have hn:=YM
 have fin:EP X pins σ Q w s:=⟨z,H,I,rw',q⟩
 by_cases h0:0<=i
 . have hj:i.toNat=j:=by
     rw[seqIndex_of h0 h5]at h1
     exact tK.inj h1
   exact item_listR pl.isList h0 (by omega) (by rw[hj];simpa using ew) fin hs
 . have hj:(i+(its.toArray.size:Int)).toNat=j:=by
     rw[seqIndex_neg (by omega) h4]at h1
     rw[tW,<-hl]
     exact tK.inj h1
   exact subscriptTail_builtinR (x:=w) pl.isList.typeIs slot_list_getitem.lookup
     (wpAny_getItem_list_neg (Q:=λr s'=>r=w/\EP X pins σ Q r s') pl.isList (by omega) (by rw[tW]<;>omega) (by omega) (by rw[hj];simpa using ew) ⟨rfl,fin⟩) hs
theorem qw:M3 X (JQ X.K):=by
 intro value slice pins s σ H x y v u Q I rx ry h hs
 obtain⟨p,xs,i,z,rfl,rfl,hq,he,q⟩:=h
 cases rx
 obtain⟨t,rfl⟩:=ry
 obtain⟨its,r,pl,hz⟩:=I.tuple hq
 obtain⟨j,h1,h2,h3,h4,h5⟩:=Wz he
 obtain⟨w,ew,rw'⟩:=r.get h2
 have hl:=r.length
 have hn:=YM
 have fin:EP X pins σ Q w s:=⟨z,H,I,rw',q⟩
 exact subscriptTail_builtinR (x:=w) pl.typeIs slot_tuple_getitem.lookup
   (getItem_tuple (j:=j) (Q:=λr s'=>r=w/\EP X pins σ Q r s') pl (by omega) (by omega) (by rw[tW,<-hl];exact h1) (by simpa using ew) ⟨rfl,fin⟩) hs
theorem wc:M3 X qam:=by
 intro value slice pins s σ H x y v u Q I rx ry h hs
 obtain⟨z,i,c,rfl,rfl,hz,he,q⟩:=h
 obtain⟨t,rfl⟩:=rx
 obtain⟨t',rfl⟩:=ry
 obtain⟨j,h1,h2,h3,h4,h5⟩:=Wz he
 have hl:z.cps.toList.length=z.length:=by simp [Str.length]
 rw[hl]at h1 h4 h5
 have hn:=YM
 exact tail_any (typeIs_str s z t) slot_str_getitem.lookup (getItem_str (c:=c) (by
   have e1:decide (i < -(2^63:Int))=false:=decide_eq_false (by omega)
   have e2:decide (i ≥ 2^63)=false:=decide_eq_false (by omega)
   rw[e1,e2,Bool.or_false]) (by rw[h1];simpa using h2) ⟨.str ⟨#[c]⟩,H,I.tok _,⟨_,rfl⟩,q⟩) hs
theorem Wa (lo hi:Option Int) (n:Nat):(sliceBounds lo hi none n).1=((HT.sIx n 0 lo:Nat):Int)/\(sliceBounds lo hi none n).2.1=((HT.sIx n n hi:Nat):Int)/\(sliceBounds lo hi none n).2.2=1:=by
 refine⟨?_,?_,rfl⟩
 . cases lo with
   | none=>simp [sliceBounds,HT.sIx]
   | some i=>
     simp only[sliceBounds,HT.sIx,zdn,show (1:Int) > 0 by decide,if_true]
     by_cases h:i < 0
     . simp only[h,if_true]<;>omega
     . simp only[h,if_false]<;>omega
 . cases hi with
   | none=>simp [sliceBounds,HT.sIx]
   | some i=>
     simp only[sliceBounds,HT.sIx,zdn,show (1:Int) > 0 by decide,if_true]
     by_cases h:i < 0
     . simp only[h,if_true]<;>omega
     . simp only[h,if_false]<;>omega
theorem Xa (its:List Value) (lo hi:Option Int):slicePick its.toArray lo hi none=((its.drop (HT.sIx its.length 0 lo)).take (HT.sIx its.length its.length hi - HT.sIx its.length 0 lo)).toArray:=by
 obtain⟨h1,h2,h3⟩:=Wa lo hi its.toArray.size
 unfold slicePick
 rw[h1,h2,h3]
 simp only[sliceRange_one,pick_run,tW]<;>rfl
def qal (K:PySem.W.Frag):V->Option Int->Option Int->Hp->VK->Prop:=λx lo hi H Q=>∃a xs,x=.ref a/\SqL K H a xs/\∀p,H p=none->Q (.ref p) (upd H p (.lst (Ww xs lo hi)))
theorem uj:MH X (qal X.K):=by
 intro pins s σ H x v vl vu lo hi sl Q I rx hs pl pu h
 obtain⟨a,xs,rfl,hx,q⟩:=h
 cases rx
 obtain⟨its,r,ht,hz⟩:=I.list hx
 have hlen:=r.length
 refine⟨"list",_,slot_list_getitem.lookup,ht.isList.typeIs,?_⟩
 refine wpAny_getItem_list_slice ht.isList hs pl pu .none (by simp) ?_ (by rw[tW]<;>omega)
 rw[Xa,<-hlen]
 refine⟨.ref s.heap.objs.size,_,I.laid (t':=s.toks) (o:=.lst (Ww xs lo hi)) (λb ob q=>tq _ q) (tu _) ?_,rfl,q _ (I.hok.fresh (tu _))⟩
 exact⟨tV (J4 xs lo hi) hz,_,0,(r.drop (HT.sIx xs.length 0 lo)).take (HT.sIx xs.length xs.length hi - HT.sIx xs.length 0 lo),tJ _ rfl⟩
def Zu:V->Bool
 | .non=>true
 | .bl _=>true
 | .int _=>true
 | .str _=>true
 | _=>false
def Kt:V->V->Bool
 | .non,.non=>true
 | .bl a,.bl b=>a==b
 | .bl a,.int b=>(if a then 1 else 0)==b
 | .int a,.bl b=>a==(if b then 1 else 0)
 | .int a,.int b=>a==b
 | .str a,.str b=>a==b
 | _,_=>false
theorem Nb {A:Around} {s:Shared} {y x:V} {u v:Value} (ry:qX y u) (rx:qX x v) (fy:Zu y=true) (fx:Zu x=true):SeqAt.EqAt A s u v (Kt y x):=by
 cases y with
 | non=>
   cases ry
   cases x with
   | non=>cases rx;exact SeqAt.EqAt.same _
   | bl b=>cases rx;exact SeqAt.EqAt.none_bool b
   | int b=>obtain⟨t,rfl⟩:=rx;exact SeqAt.EqAt.none_int b t
   | str b=>obtain⟨t,rfl⟩:=rx;exact SeqAt.EqAt.none_str b t
   | _=>exact absurd (show false=true from fx) tI
 | bl a=>
   cases ry
   cases x with
   | non=>cases rx;exact SeqAt.EqAt.bool_none a
   | bl b=>cases rx;exact SeqAt.EqAt.bool_bool a b
   | int b=>obtain⟨t,rfl⟩:=rx;exact SeqAt.EqAt.bool_int a b t
   | str b=>obtain⟨t,rfl⟩:=rx;exact SeqAt.EqAt.bool_str a b t
   | _=>exact absurd (show false=true from fx) tI
 | int a=>
   obtain⟨t',rfl⟩:=ry
   cases x with
   | non=>cases rx;exact SeqAt.EqAt.int_none a t'
   | bl b=>cases rx;exact SeqAt.EqAt.int_bool a t' b
   | int b=>obtain⟨t,rfl⟩:=rx;exact SeqAt.EqAt.int_int a t' b t
   | str b=>obtain⟨t,rfl⟩:=rx;exact SeqAt.EqAt.int_str a t' b t
   | _=>exact absurd (show false=true from fx) tI
 | str a=>
   obtain⟨t',rfl⟩:=ry
   cases x with
   | non=>cases rx;exact SeqAt.EqAt.str_none a t'
   | bl b=>cases rx;exact SeqAt.EqAt.str_bool a t' b
   | int b=>obtain⟨t,rfl⟩:=rx;exact SeqAt.EqAt.str_int a t' b t
   | str b=>obtain⟨t,rfl⟩:=rx;exact SeqAt.EqAt.str_str a t' b t
   | _=>exact absurd (show false=true from fx) tI
 | _=>exact absurd (show false=true from fy) tI
def Uc (x:V) (u:Value):Bool:=match u with
 | .none=>Kt .non x
 | .bool b=>Kt (.bl b) x
 | .int i _=>Kt (.int i) x
 | .str z _=>Kt (.str z) x
 | _=>false
theorem wA {x y:V} {u:Value} (r:qX y u) (f:Zu y=true):Uc x u=Kt y x:=by
 cases y with
 | non=>cases r;rfl
 | bl b=>cases r;rfl
 | int i=>obtain⟨t,rfl⟩:=r;rfl
 | str z=>obtain⟨t,rfl⟩:=r;rfl
 | _=>exact absurd (show false=true from f) tI
theorem zm {x:V}:∀{xs:List V} {us:List Value},qP xs us->xs.all Zu=true->us.any (Uc x)=xs.any λy=>Kt y x
 | _,_,.nil,_=>rfl
 | y::xs,u::us,.cons r t,f=>by
   rw[zcu,zam]at f
   rw[zbt,zbt,wA r f.1,zm t f.2]
theorem J0 {A:Around} {s:Shared} {x:V} {v:Value} (rx:qX x v) (fx:Zu x=true):∀{xs:List V} {us:List Value},qP xs us->xs.all Zu=true->∀u∈us,SeqAt.EqAt A s u v (Uc x u)
 | _,_,.nil,_=>λu hu=>by cases hu
 | y::xs,u::us,.cons r t,f=>λu' hu=>by
   rw[zcu,zam]at f
   rcases tR.mp hu with rfl | hu
   . rw[wA r f.1];exact Nb r rx f.1 fx
   . exact J0 rx fx t f.2 u' hu
def zQ (x:V) (xs:List V):Bool:=xs.any λy=>Kt y x
def MX (K:PySem.W.Frag) (neg:Bool):R2:=λx y H Q=>∃p xs,y=.ref p/\(SqL K H p xs\/SqT K H p xs)/\Zu x=true/\xs.all Zu=true/\Q (.bl (if neg then !zQ x xs else zQ x xs)) H
theorem zB:JF X (compareOp .In) (MX X.K false):=by
 intro pins s σ H x y v u Q I rx ry h
 obtain⟨p,xs,rfl,hq,fx,fs,q⟩:=h
 cases ry
 rcases hq with hq | hq
 . obtain⟨its,r,pl,hz⟩:=I.list hq
   refine SeqAt.in_listAt (Uc x) pl.isList (λw hw=>J0 rx fx r fs w (by simpa using hw)) ⟨.bl _,H,I,rfl,?_⟩
   rw[show its.toArray.any (Uc x)=its.any (Uc x) by simp,zm r fs]
   exact q
 . obtain⟨its,r,pl,hz⟩:=I.tuple hq
   refine SeqAt.in_tupleAt (Uc x) pl (λw hw=>J0 rx fx r fs w (by simpa using hw)) ⟨.bl _,H,I,rfl,?_⟩
   rw[show its.toArray.any (Uc x)=its.any (Uc x) by simp,zm r fs]
   exact q
theorem Jq:JF X (compareOp .NotIn) (MX X.K true):=by
 intro pins s σ H x y v u Q I rx ry h
 obtain⟨p,xs,rfl,hq,fx,fs,q⟩:=h
 cases ry
 rcases hq with hq | hq
 . obtain⟨its,r,pl,hz⟩:=I.list hq
   refine SeqAt.notIn_listAt (Uc x) pl.isList (λw hw=>J0 rx fx r fs w (by simpa using hw)) ⟨.bl _,H,I,rfl,?_⟩
   rw[show its.toArray.any (Uc x)=its.any (Uc x) by simp,zm r fs]
   exact q
 . obtain⟨its,r,pl,hz⟩:=I.tuple hq
   refine SeqAt.notIn_tupleAt (Uc x) pl (λw hw=>J0 rx fx r fs w (by simpa using hw)) ⟨.bl _,H,I,rfl,?_⟩
   rw[show its.toArray.any (Uc x)=its.any (Uc x) by simp,zm r fs]
   exact q
theorem qU:js X (.builtin "len") (λxs H Q=>∃p ys,xs=[.ref p]/\(SqL X.K H p ys\/SqT X.K H p ys)/\Q (.int ys.length) H):=by
 intro pins s σ H xs us Q I r h
 obtain⟨p,ys,rfl,hq,q⟩:=h
 obtain⟨u,rfl,rx⟩:=j4 r
 cases rx
 have hn:=YM
 rcases hq with hq | hq
 . obtain⟨its,r',pl,hz⟩:=I.list hq
   have hlen:=r'.length
   exact Calls.call_len_list pl.isList (by simp only[tW]<;>omega) ⟨.int ys.length,H,I.tok _,⟨s.toks+1,by rw[tW,hlen]⟩,q⟩
 . obtain⟨its,r',pl,hz⟩:=I.tuple hq
   have hlen:=r'.length
   exact len_tuple pl (by simp only[tW]<;>omega) ⟨.int ys.length,H,I.tok _,⟨s.toks+1,by rw[tW,hlen]⟩,q⟩
theorem Jx:js X (.builtin "len") (λxs H Q=>∃z,xs=[.str z]/\z.length<=sizeLine/\Q (.int z.length) H):=by
 intro pins s σ H xs us Q I r h
 obtain⟨z,rfl,hz,q⟩:=h
 obtain⟨u,rfl,t,rfl⟩:=j4 r
 have hn:=YM
 exact len_str (by omega) ⟨.int z.length,H,I.tok _,⟨_,rfl⟩,q⟩
theorem js.or {f:Value} {r r':List V->Hp->VK->Prop} (h:js X f r) (h':js X f r'):js X f (λxs H Q=>r xs H Q\/r' xs H Q):=by
 intro pins s σ H xs us Q I rs q
 rcases q with q | q
 . exact h pins s σ H xs us Q I rs q
 . exact h' pins s σ H xs us Q I rs q
theorem QK:js X (.type "list") (λxs H Q=>∃p ys,xs=[.ref p]/\(SqL X.K H p ys\/SqT X.K H p ys)/\∀l,H l=none->Q (.ref l) (upd H l (.lst ys))):=by
 intro pins s σ H xs us Q I r h
 obtain⟨p,ys,rfl,hq,q⟩:=h
 obtain⟨u,rfl,rx⟩:=j4 r
 cases rx
 have fin:∀(its:List Value),qP ys its->ys.length<=sizeLine->∀(h':Heap) (c':Nat),(∀b o',s.heap.get? b=some o'->h'.get? b=some o')->
     h'.get? s.heap.objs.size=some {cls:=.type "list",dict:=none,data:=.seq its.toArray c',slots:=#[]}->EP X pins σ Q (.ref s.heap.objs.size) {s with heap:=h'}:=λits r' hz h' c' kp e=>
   ⟨.ref s.heap.objs.size,_,I.laid (t':=s.toks) kp (tu _) (show jd X.prog X.w _ h' _ (.lst ys) from⟨hz,its,c',r',e⟩),rfl,q _ (I.hok.fresh (tu _))⟩
 rcases hq with hq | hq
 . obtain⟨its,r',pl,hz⟩:=I.list hq
   have hlen:=r'.length
   obtain⟨o,ho,hc,n,hd⟩:=pl.isList
   exact call_list_seq p (.inl rfl) ho hc hd (λh' c' kp e=>fin its r' hz h' c' kp e) (by simp only[tW]<;>omega)
 . obtain⟨its,r',pl,hz⟩:=I.tuple hq
   have hlen:=r'.length
   obtain⟨o,ho,hc,n,hd⟩:=pl
   exact call_list_seq p (.inr rfl) ho hc hd (λh' c' kp e=>fin its r' hz h' c' kp e) (by simp only[tW]<;>omega)
theorem Xd:js X (.type "tuple") (λxs H Q=>∃p ys,xs=[.ref p]/\((SqL X.K H p ys/\∀l,H l=none->Q (.ref l) (upd H l (.tup ys)))\/(SqT X.K H p ys/\Q (.ref p) H))):=by
 intro pins s σ H xs us Q I r h
 obtain⟨p,ys,rfl,h⟩:=h
 obtain⟨u,rfl,rx⟩:=j4 r
 cases rx
 rcases h with ⟨hq,q⟩ | ⟨hq,q⟩
 . obtain⟨its,r',pl,hz⟩:=I.list hq
   have hlen:=r'.length
   refine call_tuple_list pl.isList (λh' kp=>?_) (by simp only[tW]<;>omega)
   have I1:qJ X pins σ H {s with heap:=h'}:=I.kept (t':=s.toks) kp
   have I2:qJ X pins σ (upd H h'.objs.size (.tup ys)) {s with heap:=h'.push {cls:=.type "tuple",data:=.seq its.toArray}}:=
     I1.laid (t':=s.toks) (λb o e=>tq _ e) (tu _) (show jd X.prog X.w _ _ _ (.tup ys) from⟨hz,its,r',IsTup.new _ _⟩)
   exact⟨.ref h'.objs.size,_,I2,rfl,q _ (I1.hok.fresh (tu _))⟩
 . obtain⟨its,r',pl,hz⟩:=I.tuple hq
   exact call_tuple_same pl ⟨.ref p,H,I,rfl,q⟩
def M6 (K:PySem.W.Frag) (T:String) (x:V) (H:Hp):Prop:=match x with
 | .str _=>T="str"
 | .int _=>T="int"
 | .ref p=>(T="list"/\∃xs,SqL K H p xs)\/(T="tuple"/\∃o,K.lookup p=some o/\o.cls=.type "tuple"/\o.dict=none)\/
     (T="dict"/\((∃kvs,H p=some (.dK kvs))\/∃kvs,H p=some (.dT kvs)))\/(T="set"/\∃S n,H p=some (.set S n))
 | _=>False
theorem yf {pins:List (Addr×Obj)} {σ:St} {H:Hp} {s:Shared} {T:String} {x:V} {v:Value} (I:qJ X pins σ H s) (r:qX x v) (ty:M6 X.K T x H):
   s.TypeIs v T/\∀a,v=.ref a->∃ob,s.heap.get? a=some ob/\ob.dict=none:=by
 cases x with
 | str z=>
   obtain⟨t,rfl⟩:=r
   cases (show T="str" from ty)
   exact⟨typeIs_str s z t,λ_ e=>nomatch e⟩
 | int i=>
   obtain⟨t,rfl⟩:=r
   cases (show T="int" from ty)
   exact⟨typeIs_int s i t,λ_ e=>nomatch e⟩
 | ref p=>
   cases r
   rcases ty with ⟨rfl,xs,hq⟩ | ⟨rfl,o,hk,hc,hd⟩ | ⟨rfl,hk⟩ | ⟨rfl,S,n,hk⟩
   . obtain⟨its,_,pl,_⟩:=I.list hq
     refine⟨pl.isList.typeIs,λa e=>?_⟩
     cases e
     obtain⟨o,n,e,c,hd,_⟩:=pl
     exact⟨o,e,hd⟩
   . refine⟨⟨o,I.kIn p o hk,hc⟩,λa e=>?_⟩
     cases e
     exact⟨o,I.kIn _ o hk,hd⟩
   . have z:∃o,s.heap.get? p=some o/\o.ExactDict:=by
       rcases hk with ⟨kvs,hk⟩ | ⟨kvs,hk⟩
       . obtain⟨_,_,_,_,o,_,_,e,ex,_⟩:=I.hok p _ hk
         exact⟨o,e,ex⟩
       . obtain⟨_,_,_,_,o,_,_,e,ex,_⟩:=I.hok p _ hk
         exact⟨o,e,ex⟩
     obtain⟨o,e,ex⟩:=z
     refine⟨⟨o,e,ex.1⟩,λa e2=>?_⟩
     cases e2
     exact⟨o,e,ex.2.1⟩
   . obtain⟨o,_,_,_,e,ex,_⟩:=I.hok p _ hk
     refine⟨⟨o,e,ex.1⟩,λa e2=>?_⟩
     cases e2
     exact⟨o,e,ex.2.1⟩
 | _=>exact False.elim ty
def qac (K:PySem.W.Frag) (T:String) (r:V->List V->Hp->VK->Prop) (to:TE):TE:=λσ H Q=>to σ H λx H1=>M6 K T x H1/\r x [] H1 Q
def tBM (K:PySem.W.Frag) (T:String) (r:V->List V->Hp->VK->Prop) (to:TE) (t:TA):TE:=λσ H Q=>to σ H λx H1=>M6 K T x H1/\t σ H1 λxs H2=>r x xs H2 Q
variable {o e:Expr} {es:List Expr} {to:TE} {t:TA} {name:Str} {apos cpos:Pos} {T id:String} {r:V->List V->Hp->VK->Prop}
theorem wb (pa:PlainAttrs T) (slot:Slot T name id) (hty:typeOf (.builtin id)=pure (.type "method_descriptor")) (hm:MN X id r) (ho:JE X o to) (hbase:attributeBase o name X.env (eval o X.env)=eval o X.env:=by rfl) (hline:(apos.endLine==cpos.line)=true:=by rfl):JE X (.Call (.Attribute o name apos) [] [] cpos) (qac X.K T r to):=.of (by
 have ho:=ho.to
 intro pins s σ H Q I h
 refine wpAny_Call_method0_late hbase hline (jB (ho pins s σ H _ I h) λv s1 ⟨x,H1,I1,r1,ty,q1⟩=>?_)
 obtain⟨h1,h2⟩:=yf I1 r1 ty
 exact⟨T,id,pa,slot,hty,h1,h2,Calls.callWith_builtin rfl (PySem.evalArgs_none (hm pins s1 σ H1 x [] v [] Q I1 r1 .nil q1))⟩)
theorem N5 (pa:PlainAttrs T) (slot:Slot T name id) (hty:typeOf (.builtin id)=pure (.type "method_descriptor")) (hm:MN X id r) (ho:PE X o to) (ha:PA X (e::es) t)
   (hbase:attributeBase o name X.env (eval o X.env)=eval o X.env:=by rfl)
   (hfew:((backTo cpos (starEach (e::es) X.env)).all (λx=> !x.1)&&(backToKw cpos (keywordEach [] X.env)).all (λx=>x.1.isSome)
     &&decide ((e::es).length+([]:List Keyword).length+(if ([]:List Keyword).isEmpty then 0 else 1) < 30))=true:=by rfl)
   (hline:(apos.endLine==cpos.line)=true:=by rfl) (hs:starEach (e::es) X.env=(false,eval e X.env)::starEach es X.env:=by rfl) (hplain:(backTo cpos (starEach es X.env)).any (·.1)=false:=by rfl):
   PE X (.Call (.Attribute o name apos) (e::es) [] cpos) (tBM X.K T r to t):=by
 intro pins s σ H Q I h
 refine wpAny_Call_method_late hbase hfew hline rfl (jB (ho pins s σ H _ I h) λv s1 ⟨x,H1,I1,r1,ty,q1⟩=>?_)
 obtain⟨h1,h2⟩:=yf I1 r1 ty
 refine⟨T,id,pa,slot,hty,h1,h2,?_⟩
 have hA:=ha cpos pins s1 σ H1 _ I1 q1
 rw[hs]at hA ⊢
 refine Calls.callWith_builtin (by show (false || (backTo cpos (starEach es X.env)).any (·.1))=false;rw[hplain]<;>rfl) (Calls.evalArgs_plain ?_)
 exact jB hA λus s2 ⟨vs,H2,I2,r2,q2⟩=>hm pins s2 σ H2 x vs v us Q I2 r1 r2 q2
theorem Zt (pa:PlainAttrs T) (slot:Slot T name id) (hty:typeOf (.builtin id)=pure (.type "method_descriptor")) (hm:MN X id r) (ho:JE X o to) (ha:JA X (e::es) t) (hbase:attributeBase o name X.env (eval o X.env)=eval o X.env:=by rfl) (hfew:((backTo cpos (starEach (e::es) X.env)).all (λx=> !x.1)&&(backToKw cpos (keywordEach [] X.env)).all (λx=>x.1.isSome)
     &&decide ((e::es).length+([]:List Keyword).length+(if ([]:List Keyword).isEmpty then 0 else 1) < 30))=true:=by rfl) (hline:(apos.endLine==cpos.line)=true:=by rfl) (hs:starEach (e::es) X.env=(false,eval e X.env)::starEach es X.env:=by rfl) (hplain:(backTo cpos (starEach es X.env)).any (·.1)=false:=by rfl):JE X (.Call (.Attribute o name apos) (e::es) [] cpos) (tBM X.K T r to t):=.of (N5 pa slot hty hm ho.to ha.to hbase hfew hline hs hplain)
end
def MtM (X:Cx) (id:String) (r:V->List V->Hp->VK->Prop):Prop:=
 ∀(pins:List (Addr×Obj)) (s:Shared) (σ:St) (H:Hp) (x:V) (xs:List V) (v:Value) (us:List Value) (Q:VK),qJ X pins σ H s->qX x v->qP xs us->r x xs H Q->
   wpAny (model X.prog X.w) X.A (call (.builtin id) (v::us)) (EP X pins σ Q) X.xe s
theorem qP.one:∀{x:V} {us:List Value},qP [x] us->∃u,us=[u]/\qX x u
 | _,_,.cons r .nil=>⟨_,rfl,r⟩
theorem qP.zero:∀{us:List Value},qP [] us->us=[]
 | _,.nil=>rfl
theorem qP.reverse {xs:List V} {us:List Value} (h:qP xs us):qP xs.reverse us.reverse:=by
 induction h with
 | nil=>exact .nil
 | cons r t ih=>rw[zdi,zdi];exact qP.append ih (.cons r .nil)
section
variable {X:Cx} {pins:List (Addr×Obj)} {σ:St} {H:Hp} {s:Shared} {l b:Addr} {xs ys zs:List V}
theorem qJ.lset {its its':List Value} {n:Nat} {f:Array Value->Array Value} {t':Nat} (I:qJ X pins σ H s) (hH:H l=some (.lst xs))
   (e:s.heap.get? l=some {cls:=.type "list",data:=.seq its.toArray n}) (hf:f its.toArray=its'.toArray) (hv:qP ys its') (hz:ys.length<=sizeLine):
   qJ X pins σ (upd H l (.lst ys)) {s with heap:=s.heap.update l (Obj.mapSeq f),toks:=t'}:=by
 have q:=PySem.IsL.update e f
 rw[hf]at q
 refine I.write (x:=l) (e:=l) (by rw[hH];exact trivial) (.inl rfl) (λb' u hb hu=>(zaJ s.heap (Obj.mapSeq f) (Ne.symm hb)).trans hu) ⟨_,q⟩ ?_
 exact⟨hz,its',_,hv,q⟩
theorem qJ.lstM (I:qJ X pins σ H s) (hH:H l=some (.lst xs)):xs.length<=sizeLine/\∃(its:List Value) (n:Nat),qP xs its/\xs.length=its.length/\s.heap.get? l=some {cls:=.type "list",data:=.seq its.toArray n}:=by
 obtain⟨z,its,n,r,e⟩:=I.hok l _ hH
 exact⟨z,its,n,r,r.length,e⟩
end
section
variable {X:Cx}
def UT:V->List V->Hp->VK->Prop:=λx vs H Q=>∃l xs y,x=.ref l/\vs=[y]/\H l=some (.lst xs)/\xs.length < sizeLine/\Q .non (upd H l (.lst (xs++[y])))
theorem jZ:MtM X "list.append" UT:=by
 intro pins s σ H x vs v us Q I rx rv h
 obtain⟨l,xs,y,rfl,rfl,hH,hz,q⟩:=h
 cases rx
 obtain⟨u,rfl,ru⟩:=rv.one
 obtain⟨z,its,n,r,hl,e⟩:=I.lstM hH
 refine call_meets F.slot_list_append ⟨_,e,rfl⟩ F.entry_list_append (F.args_list_append_2 _ _) (PySem.list_append l its.toArray n u (by rw[tW];omega)) ⟨e,?_⟩
 refine⟨.non,_,I.lset (its':=its++[u]) hH e (by simp) (r.append (.cons ru .nil)) ?_,rfl,q⟩
 rw[tX,zaG]
 omega
def yV:V->List V->Hp->VK->Prop:=λx vs H Q=>∃l xs,x=.ref l/\vs=[]/\H l=some (.lst xs)/\Q .non (upd H l (.lst xs.reverse))
theorem VW:MtM X "list.reverse" yV:=by
 intro pins s σ H x vs v us Q I rx rv h
 obtain⟨l,xs,rfl,rfl,hH,q⟩:=h
 cases rx
 have hus:=rv.zero
 subst hus
 obtain⟨z,its,n,r,hl,e⟩:=I.lstM hH
 refine call_meets F.slot_list_reverse ⟨_,e,rfl⟩ F.entry_list_reverse (F.args_list_reverse_1 _) (AutoSeq1.list_reverse_list_0 l its.toArray n (by rw[tW];omega)) ⟨e,?_⟩
 refine⟨.non,_,I.lset (its':=its.reverse) hH e (by simp) r.reverse ?_,rfl,q⟩
 rw[zbF]
 omega
end
section
variable {prog:Program} {w:World} {A:Around} {E:Value->Shared->Prop} {s:Shared}
set_option maxRecDepth 100000 in
end
section
variable {X:Cx}
end
section
variable {κ:Type} [DecidableEq κ]
def qY (kvs:List (κ×V)) (k:κ):Option V:=(kvs.find? λkv=>decide (kv.1=k)).map (·.2)
def jm (kvs:List (κ×V)) (k:κ) (v:V):List (κ×V):=
 if (kvs.any λkv=>decide (kv.1=k))=true then kvs.map (λkv=>if kv.1=k then (kv.1,v) else kv) else kvs++[(k,v)]
def QV (kvs:List (κ×V)) (k:κ):List (κ×V):=kvs.filter λkv=>decide (kv.1≠k)
theorem jh {p:κ×V} {r:List (κ×V)} {k:κ} (e:p.1=k):qY (p::r) k=some p.2:=by simp [qY,zba,e]
theorem ji {p:κ×V} {r:List (κ×V)} {k:κ} (e:¬p.1=k):qY (p::r) k=qY r k:=by simp [qY,zba,e]
theorem QQ (k:κ):∀kvs:List (κ×V),(kvs.any λkv=>decide (kv.1=k))=(qY kvs k).isSome
 | []=>rfl
 | p::r=>by
   rw[zbt]
   by_cases e:p.1=k
   . simp only[jh e,decide_eq_true e,Bool.true_or,Option.isSome_some]
   . rw[ji e,decide_eq_false e,Bool.false_or];exact QQ k r
theorem WJ (k j:κ) (y:V):∀kvs:List (κ×V),qY (kvs.map λkv=>if kv.1=k then (kv.1,y) else kv) j=(qY kvs j).map λx=>if j=k then y else x
 | []=>rfl
 | p::r=>by
   have ih:=WJ k j y r
   rw[tP]
   by_cases h:p.1=k
   . rw[if_pos h]
     by_cases e:p.1=j
     . rw[jh (p:=(p.1,y)) e,jh e,zbJ,if_pos (e.symm.trans h)]
     . rw[ji (p:=(p.1,y)) e,ji e,ih]
   . rw[if_neg h]
     by_cases e:p.1=j
     . rw[jh (p:=p) e,jh e,zbJ,if_neg (λz=>h (e.trans z))]
     . rw[ji (p:=p) e,ji e,ih]
theorem Xk (k j:κ) (y:V):∀kvs:List (κ×V),qY kvs k=none->qY (kvs++[(k,y)]) j=if j=k then some y else qY kvs j
 | [],_=>by
   by_cases e:k=j
   . rw[if_pos e.symm];exact jh (p:=(k,y)) e
   . rw[if_neg (λz=>e z.symm)];exact ji (p:=(k,y)) e
 | p::r,hn=>by
   rw[List.cons_append]
   have hk:¬p.1=k:=λz=>by rw[jh z]at hn;cases hn
   rw[ji hk]at hn
   have ih:=Xk k j y r hn
   by_cases e:p.1=j
   . rw[jh e,jh e,if_neg (λz=>hk (e.trans z))]
   . rw[ji e,ji e,ih]
theorem QB (kvs:List (κ×V)) (k j:κ) (y:V):qY (jm kvs k y) j=if j=k then some y else qY kvs j:=by
 unfold jm
 by_cases a:(kvs.any λkv=>decide (kv.1=k))=true
 . rw[if_pos a,WJ]
   rw[QQ]at a
   by_cases e:j=k
   . obtain⟨x,hx⟩:=zaN.mp a
     rw[if_pos e,e,hx,zbJ,if_pos rfl]
   . rw[if_neg e]
     cases qY kvs j with
     | none=>rfl
     | some x=>rw[zbJ,if_neg e]
 . rw[if_neg a]
   refine Xk k j y kvs ?_
   rw[QQ]at a
   cases q:qY kvs k with
   | none=>rfl
   | some x=>rw[q]at a;exact(a rfl).elim
theorem QD (kvs:List (κ×V)) (k:κ) (v:V):(jm kvs k v).length<=kvs.length+1:=by
 unfold jm
 split
 . rw[tj];omega
 . rw[tX,zac,zcJ];omega
theorem QC {kvs:List (κ×V)} {k:κ} (v:V) (h:qY kvs k=none):jm kvs k v=kvs++[(k,v)]:=by
 unfold jm
 rw[QQ,h]
 exact if_neg (by decide)
theorem J5.isSome_eq {o:Option V} {u:Option Value} (r:J5 o u):o.isSome=u.isSome:=by
 cases o with
 | none=>cases u with
   | none=>rfl
   | some _=>exact(show False from r).elim
 | some _=>cases u with
   | none=>exact(show False from r).elim
   | some _=>rfl
theorem KV.val {kvs:List (κ×V)} {vs:List (κ×Value)} (r:KV kvs vs) (k:κ):J5 (qY kvs k) (valueAt vs k):=by
 unfold KV at r
 induction r with
 | nil=>exact True.intro
 | @cons p q ps qs h t ih=>
   obtain⟨h1,h2⟩:=h
   by_cases e:p.1=k
   . have e':q.1=k:=h1.symm.trans e
     have b:valueAt (q::qs) k=some q.2:=by simp [valueAt,zba,e']
     rw[jh e,b];exact h2
   . have e':¬q.1=k:=λz=>e (h1.trans z)
     have b:valueAt (q::qs) k=valueAt qs k:=by simp [valueAt,zba,e']
     rw[ji e,b];exact ih
theorem KV.any {kvs:List (κ×V)} {vs:List (κ×Value)} (r:KV kvs vs) (k:κ):(kvs.any λkv=>decide (kv.1=k))=vs.any λkv=>decide (kv.1=k):=by
 unfold KV at r
 induction r with
 | nil=>rfl
 | cons h t ih=>rw[zbt,zbt,ih,h.1]
theorem KV.repl {kvs:List (κ×V)} {vs:List (κ×Value)} (r:KV kvs vs) (k:κ) {y:V} {u:Value} (ry:qX y u):
   KV (kvs.map λkv=>if kv.1=k then (kv.1,y) else kv) (vs.map λkv=>if kv.1=k then (kv.1,u) else kv):=by
 unfold KV at r ⊢
 induction r with
 | nil=>exact .nil
 | @cons p q ps qs h t ih=>
   rw[tP,tP]
   refine .cons ?_ ih
   obtain⟨h1,h2⟩:=h
   by_cases e:p.1=k
   . rw[if_pos e,if_pos (h1.symm.trans e)];exact⟨h1,ry⟩
   . rw[if_neg e,if_neg (λz=>e (h1.trans z))];exact⟨h1,h2⟩
theorem KV.put {kvs:List (κ×V)} {vs:List (κ×Value)} (r:KV kvs vs) (k:κ) {y:V} {u:Value} (ry:qX y u):KV (jm kvs k y) (stored vs k u):=by
 unfold jm stored
 rw[r.any k]
 by_cases e:(vs.any λkv=>decide (kv.1=k))=true
 . rw[if_pos e,if_pos e];exact r.repl k ry
 . rw[if_neg e,if_neg e];exact Paired.snoc r ⟨rfl,ry⟩
theorem KV.drop {kvs:List (κ×V)} {vs:List (κ×Value)} (r:KV kvs vs) (k:κ):KV (QV kvs k) (without vs k):=by
 unfold KV at r ⊢
 unfold QV without
 induction r with
 | nil=>exact .nil
 | @cons p q ps qs h t ih=>
   obtain⟨h1,h2⟩:=h
   rw[zaK,zaK]
   by_cases e:p.1=k
   . have a:¬decide (p.1≠k)=true:=by simp [e]
     have b:¬decide (q.1≠k)=true:=by simp [h1.symm.trans e]
     rw[if_neg a,if_neg b];exact ih
   . have e':¬q.1=k:=λz=>e (h1.trans z)
     have a:decide (p.1≠k)=true:=by simp [e]
     have b:decide (q.1≠k)=true:=by simp [e']
     rw[if_pos a,if_pos b];exact .cons ⟨h1,h2⟩ ih
theorem KV.length {kvs:List (κ×V)} {vs:List (κ×Value)} (r:KV kvs vs):kvs.length=vs.length:=Paired.length r
theorem Vj (kvs:List (κ×V)) (k:κ):(QV kvs k).length<=kvs.length:=zaT _ _
end
theorem zP {P:Program} {w:World} {k:qI} {u:Value} (r:qX (kV k) u):(qQ P w).is k u=true:=by
 cases k with
 | inl i=>obtain⟨t,e⟩:=(show ∃t,u=Value.int i t from r);subst e;exact W9 P w i t
 | inr x=>obtain⟨t,e⟩:=(show ∃t,u=Value.str x t from r);subst e;exact W8 P w x t
theorem XD {P:Program} {w:World}:∀{ks:List qI} {us:List Value},qP (ks.map kV) us->ItemsAre (qQ P w) ks us
 | [],_,r=>by rw[zce]at r;cases r;exact .nil
 | k::ks,_,r=>by
   rw[tP]at r
   cases r with
   | cons h t=>exact .cons (zP h) (XD t)
abbrev KT (H:Hp):List (List qI×V)->List (List qI×Addr×Value)->Prop:=Paired λp q=>p.1=q.1/\H q.2.1=some (.tup (p.1.map kV))/\qX p.2 q.2.2
theorem KT.val {H:Hp} {kvs:List (List qI×V)} {xs:List (List qI×Addr×Value)} (r:KT H kvs xs) (k:List qI):J5 (qY kvs k) ((atKey xs k).map (·.2)):=by
 induction r with
 | nil=>exact True.intro
 | @cons p q ps qs h t ih=>
   obtain⟨h1,_,h2⟩:=h
   by_cases e:p.1=k
   . have e':q.1=k:=h1.symm.trans e
     have b:atKey (q::qs) k=some q.2:=by simp [atKey,zba,e']
     rw[jh e,b];exact h2
   . have e':¬q.1=k:=λz=>e (h1.trans z)
     have b:atKey (q::qs) k=atKey qs k:=by simp [atKey,zba,e']
     rw[ji e,b];exact ih
theorem KT.repl {H:Hp} {kvs:List (List qI×V)} {xs:List (List qI×Addr×Value)} (r:KT H kvs xs) (k:List qI) {y:V} {u:Value} (ry:qX y u):
   KT H (kvs.map λkv=>if kv.1=k then (kv.1,y) else kv) (xs.map (putAt k u)):=by
 induction r with
 | nil=>exact .nil
 | @cons p q ps qs h t ih=>
   rw[tP,tP]
   refine .cons ?_ ih
   obtain⟨h1,h2,h3⟩:=h
   unfold putAt
   by_cases e:p.1=k
   . rw[if_pos e,if_pos (h1.symm.trans e)];exact⟨h1,h2,ry⟩
   . rw[if_neg e,if_neg (λz=>e (h1.trans z))];exact⟨h1,h2,h3⟩
theorem KT.put {H:Hp} {kvs:List (List qI×V)} {xs:List (List qI×Addr×Value)} (r:KT H kvs xs) (k:List qI) {b:Addr} {y:V} {u:Value} (hb:H b=some (.tup (k.map kV))) (ry:qX y u):
   KT H (jm kvs k y) (storedH xs k b u):=by
 have e:(kvs.any λkv=>decide (kv.1=k))=(atKey xs k).isSome:=by
   rw[QQ,(r.val k).isSome_eq,zaR]
 unfold jm storedH
 rw[e]
 by_cases q:(atKey xs k).isSome=true
 . rw[if_pos q,if_pos q];exact r.repl k ry
 . rw[if_neg q,if_neg q];exact Paired.snoc r ⟨rfl,hb,ry⟩
theorem KT.keeps {H H':Hp} {kvs:List (List qI×V)} {xs:List (List qI×Addr×Value)} (r:KT H kvs xs) (ht:∀b ys,H b=some (.tup ys)->H' b=some (.tup ys)):KT H' kvs xs:=
 Paired.mapP r λ_ _ z=>⟨z.1,ht _ _ z.2.1,z.2.2⟩
section
variable {P:Program} {w:World} {H:Hp} {h:Heap} {a:Addr}
theorem K1 {u:HO} (ok:JU P w H h) (e:Rd H a u):jd P w H h a u:=e.ok ok
theorem ze {kvs:List (qI×V)} (ok:JU P w H h) (e:Rd H a (.dK kvs)):kvs.length<=sizeLine/\(a==sysModules)=false/\∃vs,KV kvs vs/\h.DictOf (qQ P w) a vs:=
 show jd P w H h a (.dK kvs) from K1 ok e
theorem ve {kvs:List (qI×V)} (ok:JU P w H h) (e:H a=some (.dK kvs)):kvs.length<=sizeLine/\(a==sysModules)=false/\∃vs,KV kvs vs/\h.DictOf (qQ P w) a vs:=ze ok (.inl e)
theorem YR {ks:List qI} (ok:JU P w H h) (e:H a=some (.tup (ks.map kV))):(tupleKind (qQ P w)).is h ks a:=by
 obtain⟨_,its,r,o,h1,h2,n,h3⟩:=(show jd P w H h a (.tup (ks.map kV)) from ok a _ e)
 exact⟨o,its.toArray,n,h1,h2,h3,by simpa using XD r⟩
theorem XL {kvs:List (List qI×V)} (ok:JU P w H h) (e:Rd H a (.dT kvs)):kvs.length<=sizeLine/\(a==sysModules)=false/\
   ∃xs,KT H kvs xs/\h.DictOfH (tupleKind (qQ P w)) a xs:=by
 obtain⟨z,y,xs,r,o,es,ep,h1,h2,h3,h4,h5⟩:=(show jd P w H h a (.dT kvs) from K1 ok e)
 refine⟨z,y,xs,r,o,es,ep,h1,h2,h3,h4,λx hx=>?_,h5⟩
 have all:∀{l:List (List qI×V)} {m:List (List qI×Addr×Value)},KT H l m->∀x∈m,(tupleKind (qQ P w)).is h x.1 x.2.1:=by
   intro l m q
   induction q with
   | nil=>intro x hx;exact nomatch hx
   | @cons p q ps qs hq t ih=>
     intro x hx
     rcases tR.mp hx with e | hx
     . subst e
       exact YR ok (by rw[<-hq.1];exact hq.2.1)
     . exact ih x hx
 exact all r x hx
theorem Mu {kvs:List (List qI×V)} (ok:JU P w H h) (e:H a=some (.dT kvs)):kvs.length<=sizeLine/\(a==sysModules)=false/\
   ∃xs,KT H kvs xs/\h.DictOfH (tupleKind (qQ P w)) a xs:=XL ok (.inl e)
end
def j8 (H:Hp) (a:Addr) (y:V) (r:Option V):Prop:=
 (∃kvs k,Rd H a (.dK kvs)/\y=kV k/\r=qY kvs k)\/∃kvs k b,Rd H a (.dT kvs)/\y=.ref b/\H b=some (.tup (k.map kV))/\r=qY kvs k
def QE (H:Hp) (a:Addr) (y v:V) (H':Hp):Prop:=
 (∃kvs k,H a=some (.dK kvs)/\y=kV k/\kvs.length < sizeLine/\H'=upd H a (.dK (jm kvs k v)))\/
 ∃kvs k b,H a=some (.dT kvs)/\y=.ref b/\H b=some (.tup (k.map kV))/\kvs.length < sizeLine/\H'=upd H a (.dT (jm kvs k v))
theorem j8.k {H:Hp} {a:Addr} {kvs:List (qI×V)} {k:qI} (e:H a=some (.dK kvs)):j8 H a (kV k) (qY kvs k):=.inl ⟨kvs,k,.inl e,rfl,rfl⟩
theorem QE.k {H:Hp} {a:Addr} {kvs:List (qI×V)} {k:qI} {v:V} (e:H a=some (.dK kvs)) (hl:kvs.length < sizeLine):QE H a (kV k) v (upd H a (.dK (jm kvs k v))):=.inl ⟨kvs,k,e,rfl,hl,rfl⟩
theorem QE.t {H:Hp} {a b:Addr} {kvs:List (List qI×V)} {k:List qI} {v:V} (e:H a=some (.dT kvs)) (eb:H b=some (.tup (k.map kV))) (hl:kvs.length < sizeLine):
   QE H a (.ref b) v (upd H a (.dT (jm kvs k v))):=.inr ⟨kvs,k,b,e,rfl,eb,hl,rfl⟩
section
variable {X:Cx} {pins:List (Addr×Obj)} {σ:St} {H:Hp} {s:Shared} {a:Addr} {y v:V} {u r:Value} {o:Option V} {A:Around} {E:Value->Shared->Prop}
theorem qJ.big (I:qJ X pins σ H s):sysModules < s.heap.objs.size:=by
 have h:mainGlobals < s.heap.objs.size:=(I.mod.glob.keeps I.bk).lt
 exact zcf (by decide) h
theorem kS {Q:Value->Shared->Prop} (hu:A.units+1 < cLine) (I:qJ X pins σ H s) (g:j8 H a y (some v)) (ry:qX y u) (h:∀w' s',qJ X pins σ H s'->qX v w'->Q w' s'):
   wpAny (model X.prog X.w) A (getItem (.ref a) u) Q E s:=by
 rcases g with ⟨kvs,k,e,ey,l⟩ | ⟨kvs,k,b,e,ey,eb,l⟩
 . subst ey
   obtain⟨z,hd,vs,rel,dd⟩:=ze I.hok e
   obtain⟨w',hw,rw'⟩:=J5.some_of (v:=v) (o:=valueAt vs k) (by rw[l];exact rel.val k)
   exact wpAny_getItem_of (zP ry) dd.mapOf hw (h w' _ (I.tok _) rw')
 . subst ey
   cases (show u=Value.ref b from ry)
   obtain⟨z,hd,xs,rel,dd⟩:=XL I.hok e
   obtain⟨w',hw,rw'⟩:=J5.some_of (v:=v) (o:=(atKey xs k).map (·.2)) (by rw[l];exact rel.val k)
   obtain⟨p,hp,hp2⟩:=zbp.mp hw
   refine wpAny_getItem_heap (tupleKind_room_in1 hu) (YR I.hok eb) dd hp ?_
   rw[hp2]
   exact h w' _ (I.tok _) rw'
theorem My {Q:Value->Shared->Prop} (hu:A.units+1 < cLine) (I:qJ X pins σ H s) (g:j8 H a y o) (ry:qX y u) (h:∀s',qJ X pins σ H s'->Q (.bool o.isSome) s'):
   wpAny (model X.prog X.w) A (compareOp .In u (.ref a)) Q E s:=by
 rcases g with ⟨kvs,k,e,ey,l⟩ | ⟨kvs,k,b,e,ey,eb,l⟩
 . subst ey
   obtain⟨z,hd,vs,rel,dd⟩:=ze I.hok e
   refine wpAny_in_of (zP ry) hd dd.mapOf ?_
   rw[<-(rel.val k).isSome_eq,<-l]
   exact h _ (I.tok _)
 . subst ey
   cases (show u=Value.ref b from ry)
   obtain⟨z,hd,xs,rel,dd⟩:=XL I.hok e
   refine wpAny_in_heap (tupleKind_room_in1 hu) (YR I.hok eb) hd dd ?_
   have q:=(rel.val k).isSome_eq
   rw[zaR]at q
   rw[<-q,<-l]
   exact h _ (I.tok _)
theorem vj {Q:Value->Shared->Prop} (hu:A.units+1 < cLine) (I:qJ X pins σ H s) (g:j8 H a y o) (ry:qX y u) (h:∀s',qJ X pins σ H s'->Q (.bool (!o.isSome)) s'):
   wpAny (model X.prog X.w) A (compareOp .NotIn u (.ref a)) Q E s:=by
 rcases g with ⟨kvs,k,e,ey,l⟩ | ⟨kvs,k,b,e,ey,eb,l⟩
 . subst ey
   obtain⟨z,hd,vs,rel,dd⟩:=ze I.hok e
   refine wpAny_notIn_of (zP ry) hd dd.mapOf ?_
   rw[<-(rel.val k).isSome_eq,<-l]
   exact h _ (I.tok _)
 . subst ey
   cases (show u=Value.ref b from ry)
   obtain⟨z,hd,xs,rel,dd⟩:=XL I.hok e
   refine wpAny_notIn_heap (tupleKind_room_in1 hu) (YR I.hok eb) hd dd ?_
   have q:=(rel.val k).isSome_eq
   rw[zaR]at q
   rw[<-q,<-l]
   exact h _ (I.tok _)
theorem zf {h':Heap} {t':Nat} {ob:HO} (I:qJ X pins σ H s) (mu:Gj (H a)) (hs:Heap.SameBut a s.heap h') (he:∃q,h'.get? a=some q) (new:jd X.prog X.w (upd H a ob) h' a ob):
   qJ X pins σ (upd H a ob) {s with heap:=h',toks:=t'}:=
 I.write (x:=a) (e:=a) mu (.inl rfl) (λb q hb z=>(hs.2 b hb).trans z) he new
theorem Y0 {P:Program} {w:World} {H':Hp} {h':Heap} {kvs:List (qI×V)} {vs:List (qI×Value)} (z:kvs.length<=sizeLine) (hd:(a==sysModules)=false) (rel:KV kvs vs) (dd:h'.DictOf (qQ P w) a vs):
   jd P w H' h' a (.dK kvs):=⟨z,hd,vs,rel,dd⟩
theorem XN {H':Hp} {Q:Unit->Shared->Prop} (hu:A.units+1 < cLine) (I:qJ X pins σ H s) (g:QE H a y v H') (ry:qX y u) (rv:qX v r) (h:∀s',qJ X pins σ H' s'->Q () s'):
   wpAny (model X.prog X.w) A (setItem (.ref a) u r) Q E s:=by
 rcases g with ⟨kvs,k,e,ey,l,eH⟩ | ⟨kvs,k,b,e,ey,eb,l,eH⟩
 . subst ey eH
   obtain⟨z,hd,vs,rel,dd⟩:=ve I.hok e
   have hz:vs.length<=sizeLine:=by rw[<-rel.length];exact z
   have hl:(jm kvs k v).length<=sizeLine:=by have:=QD kvs k v;omega
   refine wpAny_setItem_pairs (hsz:=hz) (zP ry) dd λh' dd' hs=>h _ ?_
   have he:∃q,h'.get? a=some q:=let ⟨q,_,_,hq,_⟩:=dd';⟨q,hq⟩
   exact zf I (by rw[e];exact True.intro) hs he (Y0 hl hd (rel.put k rv) dd')
 . subst ey eH
   cases (show u=Value.ref b from ry)
   obtain⟨z,hd,xs,rel,dd⟩:=Mu I.hok e
   have hz:xs.length<=sizeLine:=by rw[<-Paired.length rel];exact z
   have hl:(jm kvs k v).length<=sizeLine:=by have:=QD kvs k v;omega
   refine wpAny_setItem_heap (hsz:=hz) (tupleKind_room_in1 hu) (YR I.hok eb) dd λh' dd' hs=>h _ ?_
   obtain⟨q,es,ep,hq,h2,h3,h4,_,h5⟩:=dd'
   refine zf I (by rw[e];exact True.intro) hs ⟨q,hq⟩ ⟨hl,hd,_,(rel.put k eb rv).keeps λc ys ec=>?_,q,es,ep,hq,h2,h3,h4,h5⟩
   rw[qi (N9 ec e (λz=>nomatch z))]
   exact ec
end
section
variable {X:Cx} {pins:List (Addr×Obj)} {σ:St} {H:Hp} {s:Shared} {a:Addr} {kvs:List (qI×V)} {k:qI} {u:Value} {A:Around} {E:Value->Shared->Prop}
theorem Mw {v:V} {more:List Value} {Q:Value->Shared->Prop} (I:qJ X pins σ H s) (e:H a=some (.dK kvs)) (ry:qX (kV k) u) (l:qY kvs k=some v) (hm:more=[]\/∃x,more=[x])
   (h:∀w' s',qJ X pins σ (upd H a (.dK (QV kvs k))) s'->qX v w'->Q w' s'):wpAny (model X.prog X.w) A (call (.builtin "dict.pop") (.ref a::u::more)) Q E s:=by
 obtain⟨z,hd,vs,rel,dd⟩:=ve I.hok e
 obtain⟨w',hw,rw'⟩:=J5.some_of (v:=v) (o:=valueAt vs k) (by rw[<-l];exact rel.val k)
 have hp:(keyPart u).isSome=true:=by
   cases k with
   | inl i=>obtain⟨t,q⟩:=(show ∃t,u=Value.int i t from ry);subst q;rfl
   | inr x=>obtain⟨t,q⟩:=(show ∃t,u=Value.str x t from ry);subst q;rfl
 have ha:argsOk "dict.pop" ⟨.ref a::u::more,[]⟩:=by
   rcases hm with q | ⟨x,q⟩
   . subst q;exact PySem.F.args_dict_pop_2 _ _
   . subst q;exact PySem.F.args_dict_pop_3 _ _ _
 refine call_meetsIn zcP dd.typeIs PySem.F.entry_dict_pop ha (meets_dict_pop_there (qQ X.prog X.w) a (zP ry) more hm hp)
   ⟨vs,w',dd,by rw[<-rel.length];exact z,hw,λh' dd' hs=>h w' _ ?_ rw'⟩
 have he:∃q,h'.get? a=some q:=let ⟨q,_,_,hq,_⟩:=dd';⟨q,hq⟩
 exact zf I (by rw[e];exact True.intro) hs he (Y0 (tV (Vj kvs k) z) hd (rel.drop k) dd')
theorem Mx {Q:Value->Shared->Prop} (I:qJ X pins σ H s) (e:Rd H a (.dK kvs)) (h:∀t s',qJ X pins σ H s'->Q (.int kvs.length t) s'):wpAny (model X.prog X.w) A (call (.builtin "len") [.ref a]) Q E s:=by
 obtain⟨z,hd,vs,rel,dd⟩:=ze I.hok e
 refine call_len_dict hd dd (by rw[<-rel.length];rw[sizeLine_eq]at z;omega) ?_
 rw[<-rel.length]
 exact h _ _ (I.tok _)
end
def MM (i:Expr):Prop:=∀ov iv,subscripted i false ov iv=operate [ov,iv] (getItem ov iv)
theorem ue {prog:Program} {w:World} {A:Around} {E:Value->Shared->Prop} {s:Shared} {env:Env} {value slice:Expr} {pos:Pos} {T id:String} {Q:Value->Shared->Prop}
   (hl:typeLookup (.type T) "__getitem__"=pure (some (.builtin id))) (hs:MM slice)
   (h:wpAny (model prog w) A (eval value env) (λo s₁=>wpAny (model prog w) A (eval slice env) (λi s₂=>s₂.TypeIs o T/\wpAny (model prog w) A (getItem o i) Q E s₂) E s₁) E s):
   wpAny (model prog w) A (eval (.Subscript value slice pos) env) Q E s:=by
 refine Subscript_ (wpAny_mono h (λo s₁ h₁=>wpAny_mono h₁ (λi s₂ h₂=>?_) λ_ _ x=>x) λ_ _ x=>x)
 obtain⟨hT,h₂⟩:=h₂
 unfold subscriptTail
 refine wpAny_bind ?_
 rw[getitemInPython_of_ne hT.not_modules]
 refine wpAny_bind (wpAny_specialOf hT hl ?_)
 have fin:wpAny (model prog w) A (subscripted slice false o i) (λr s₃=>wpAny (model prog w) A (letTemporaryGo value o r >>= λ_=>pure r) Q E s₃) E s₂:=by
   rw[hs o i]
   exact wpAny_operating (wpAny_mono h₂ (λr s₃ h₃=>wpAny_bind (wpAny_letTemporaryGo (wpAny_pure h₃))) λ_ _ x=>x)
 first
   | exact wpAny_pure (wpAny_bind fin)
   | exact wpAny_bind (wpAny_pure (wpAny_bind fin))
   | exact wpAny_bind fin
theorem Vl {X:Cx} {pins:List (Addr×Obj)} {σ:St} {H:Hp} {s:Shared} {a:Addr} {y:V} {o:Option V} (I:qJ X pins σ H s) (g:j8 H a y o):s.TypeIs (.ref a) "dict":=by
 rcases g with ⟨kvs,k,e,_,_⟩ | ⟨kvs,k,b,e,_,_,_⟩
 . obtain⟨_,_,vs,_,dd⟩:=ze I.hok e
   exact dd.typeIs
 . obtain⟨_,_,xs,_,dd⟩:=XL I.hok e
   exact dd.typeIs
def JV (td ty:TE):TE:=λσ H Q=>td σ H λx H1=>ty σ H1 λy H2=>∃a v,x=.ref a/\j8 H2 a y (some v)/\Q v H2
def NM (ty td:TE):TE:=λσ H Q=>ty σ H λy H1=>td σ H1 λx H2=>∃a o,x=.ref a/\j8 H2 a y o/\Q (.bl o.isSome) H2
def ua (ty td:TE):TE:=λσ H Q=>ty σ H λy H1=>td σ H1 λx H2=>∃a o,x=.ref a/\j8 H2 a y o/\Q (.bl (!o.isSome)) H2
def KZ (td ty tv:TE):TS:=λD σ H=>tv σ H λv H1=>td σ H1 λx H2=>ty σ H2 λy H3=>∃a H4,x=.ref a/\QE H3 a y v H4/\D.nx σ H4
section
variable {X:Cx} {o i e value:Expr} {pos pos' tpos:Pos} {td ty tv:TE}
theorem qC (hu:X.A.units+1 < cLine) (ho:JE X o td) (hi:JE X i ty) (hs:MM i):JE X (.Subscript o i pos) (JV td ty):=.of (by
 have ho:=ho.to
 have hi:=hi.to
 intro pins s σ H Q I h
 refine ue PySem.F.slot_dict_getitem.lookup hs (jB (ho pins s σ H _ I h) λu s1 ⟨x,H1,I1,rx,q1⟩=>jB (hi pins s1 σ H1 _ I1 q1) λiv s2 ⟨y,H2,I2,ry,a,v,ex,g,q2⟩=>?_)
 subst ex
 obtain rfl:u=Value.ref a:=rx
 exact⟨Vl I2 g,kS hu I2 g ry λw' s3 I3 rw'=>⟨v,H2,I3,rw',q2⟩⟩)
theorem ZC (hu:X.A.units+1 < cLine) (hi:JE X i ty) (ho:JE X o td):JC X .In i o (NM ty td):=.of (by
 have hi:=hi.to
 have ho:=ho.to
 intro pins s σ H Q I h
 refine jB (hi pins s σ H _ I h) λiv s1 ⟨y,H1,I1,ry,q1⟩=>jB (ho pins s1 σ H1 _ I1 q1) λu s2 ⟨x,H2,I2,rx,a,ov,ex,g,q2⟩=>?_
 subst ex
 obtain rfl:u=Value.ref a:=rx
 exact My hu I2 g ry λs3 I3=>⟨.bl ov.isSome,H2,I3,rfl,q2⟩)
theorem zE (hu:X.A.units+1 < cLine) (hi:JE X i ty) (ho:JE X o td):JC X .NotIn i o (ua ty td):=.of (by
 have hi:=hi.to
 have ho:=ho.to
 intro pins s σ H Q I h
 refine jB (hi pins s σ H _ I h) λiv s1 ⟨y,H1,I1,ry,q1⟩=>jB (ho pins s1 σ H1 _ I1 q1) λu s2 ⟨x,H2,I2,rx,a,ov,ex,g,q2⟩=>?_
 subst ex
 obtain rfl:u=Value.ref a:=rx
 exact vj hu I2 g ry λs3 I3=>⟨.bl (!ov.isSome),H2,I3,rfl,q2⟩)
theorem jL (hu:X.A.units+1 < cLine) (ho:JE X o td) (hi:JE X i ty) (hv:JE X value tv) (hs:swapsWith value (some (.Subscript o i pos')) pos.line X.env=pure false):JS X (.Assign [.Subscript o i pos'] value pos) (KZ td ty tv):=.of (by
 have ho:=ho.to
 have hi:=hi.to
 have hv:=hv.to
 intro pins s σ H D I h
 refine wpAny_Assign_Subscript (jB (hv pins s σ H _ I h) λr s1 ⟨v,H1,I1,rv,q1⟩=>jB (ho pins s1 σ H1 _ I1 q1) λu s2 ⟨x,H2,I2,rx,q2⟩=>jB (hi pins s2 σ H2 _ I2 q2) λiv s3 ⟨y,H3,I3,ry,a,H4,ex,g,q3⟩=>?_) hs
 subst ex
 obtain rfl:u=Value.ref a:=rx
 exact XN hu I3 g ry rv λs4 I4=>⟨σ,H4,I4,q3⟩)
end
theorem Vk {P:Program} {w:World} {H:Hp} (h:Heap) (hb:sysModules < h.objs.size):jd P w H (h.push {cls:=.type "dict",data:=.dict #[]}) h.objs.size (.dK []):=
 ⟨zah _,beq_eq_false_iff_ne.mpr (Ne.symm (tM hb)),[],.nil,Heap.DictOf.new h⟩
theorem wC {P:Program} {w:World} {H:Hp} (h:Heap) (hb:sysModules < h.objs.size):jd P w H (h.push {cls:=.type "dict",data:=.dict #[]}) h.objs.size (.dT []):=
 ⟨zah _,beq_eq_false_iff_ne.mpr (Ne.symm (tM hb)),[],.nil,_,#[],0,tJ _ rfl,⟨rfl,rfl,rfl⟩,rfl,rfl,zbn⟩
def VB:TE:=λ_ H Q=>∀p,H p=none->Q (.ref p) (upd H p (.dK []))
def yn:TE:=λ_ H Q=>∀p,H p=none->Q (.ref p) (upd H p (.dT []))
section
variable {X:Cx} {pos:Pos}
theorem y8:PE X (.Dict [] [] pos) VB:=λpins s σ H Q I h=>
 wpAny_Dict_empty ⟨.ref s.heap.objs.size,_,I.laid (a:=s.heap.objs.size) (o:=.dK []) (t':=s.toks) (λ_ _ q=>tq _ q) (tu _) (Vk s.heap I.big),rfl,h _ (I.hok.fresh (tu _))⟩
theorem Qc:JE X (.Dict [] [] pos) VB:=.of (y8)
theorem y7:PE X (.Dict [] [] pos) yn:=λpins s σ H Q I h=>
 wpAny_Dict_empty ⟨.ref s.heap.objs.size,_,I.laid (a:=s.heap.objs.size) (o:=.dT []) (t':=s.toks) (λ_ _ q=>tq _ q) (tu _) (wC s.heap I.big),rfl,h _ (I.hok.fresh (tu _))⟩
theorem wa:JE X (.Dict [] [] pos) yn:=.of (y7)
end
def X1:List (TE×TE)->St->Hp->(List (V×V)->Hp->Prop)->Prop
 | [],_,H,Q=>Q [] H
 | (tk,tv)::r,σ,H,Q=>tk σ H λx H1=>tv σ H1 λy H2=>X1 r σ H2 λps H3=>Q ((x,y)::ps) H3
abbrev VV:List (V×V)->List (Value×Value)->Prop:=Paired λp q=>qX p.1 q.1/\qX p.2 q.2
def MJ (X:Cx) (pos:Pos) (keys:List (Option Expr)) (values:List Expr) (trs:List (TE×TE)):Prop:=
 ∀(pins:List (Addr×Obj)) (s:Shared) (σ:St) (H:Hp) (Q:List (V×V)->Hp->Prop),qJ X pins σ H s->X1 trs σ H Q->
   wpAny (model X.prog X.w) X.A (evalPairs (pairTrees keys values X.env pos)) (λvs s'=>∃ps H',qJ X pins σ H' s'/\VV ps vs/\Q ps H') X.xe s
@[irreducible] def wU (X:Cx) (pos:Pos) (keys:List (Option Expr)) (values:List Expr) (trs:List (TE×TE)):Prop:=MJ X pos keys values trs
theorem wU.of {X:Cx} {pos:Pos} {keys:List (Option Expr)} {values:List Expr} {trs:List (TE×TE)} (h:MJ X pos keys values trs):wU X pos keys values trs:=by unfold wU;exact h
theorem wU.to {X:Cx} {pos:Pos} {keys:List (Option Expr)} {values:List Expr} {trs:List (TE×TE)} (h:wU X pos keys values trs):MJ X pos keys values trs:=by unfold wU at h;exact h
theorem Qf {X:Cx} {pos:Pos}:wU X pos [] [] []:=.of (by
 exact λpins s σ H Q I h=>pairTrees_nil_walk ⟨[],H,I,.nil,h⟩)
theorem yZ {X:Cx} {pos:Pos} {k v:Expr} {ks:List (Option Expr)} {vs:List Expr} {tk tv:TE} {trs:List (TE×TE)} (hk:PE X k tk) (hv:PE X v tv) (hr:MJ X pos ks vs trs):
   MJ X pos (some k::ks) (v::vs) ((tk,tv)::trs):=λpins s σ H Q I h=>
 pairTrees_cons_walk (jB (hk pins s σ H _ I h) λu s1 ⟨x,H1,I1,rx,q1⟩=>jB (hv pins s1 σ H1 _ I1 q1) λw2 s2 ⟨y,H2,I2,ry,q2⟩=>
   jB (hr pins s2 σ H2 _ I2 q2) λws s3 ⟨ps,H3,I3,rel,q3⟩=>⟨(x,y)::ps,H3,I3,.cons ⟨rx,ry⟩ rel,q3⟩)
theorem q4 {X:Cx} {pos:Pos} {k v:Expr} {ks:List (Option Expr)} {vs:List Expr} {tk tv:TE} {trs:List (TE×TE)} (hk:JE X k tk) (hv:JE X v tv) (hr:wU X pos ks vs trs):wU X pos (some k::ks) (v::vs) ((tk,tv)::trs):=.of (yZ hk.to hv.to hr.to)
def Qo (kvs more:List (qI×V)):List (qI×V):=more.foldl (λacc kv=>jm acc kv.1 kv.2) kvs
theorem KV.merge:∀{more:List (qI×V)} {rs:List (qI×Value)} {kvs:List (qI×V)} {vs:List (qI×Value)},KV more rs->KV kvs vs->KV (Qo kvs more) (merged vs rs):=by
 intro more rs kvs vs r
 unfold KV at r
 induction r generalizing kvs vs with
 | nil=>intro q;exact q
 | @cons p q ps qs h t ih=>
   intro r0
   have e:KV (jm kvs p.1 p.2) (stored vs q.1 q.2):=by
     have:=r0.put p.1 h.2
     rw[<-h.1];exact this
   exact ih e
theorem Ja:∀(more kvs:List (qI×V)),(Qo kvs more).length<=kvs.length+more.length
 | [],kvs=>by show kvs.length<=kvs.length+0;omega
 | p::r,kvs=>by
   have h1:=Ja r (jm kvs p.1 p.2)
   have h2:=QD kvs p.1 p.2
   show (Qo (jm kvs p.1 p.2) r).length<=_
   rw[zac];omega
theorem Y1 {P:Program} {w:World}:∀{kvs:List (qI×V)} {ws:List (Value×Value)},VV (kvs.map λkv=>(kV kv.1,kv.2)) ws->∃rs,Carries (qQ P w) ws rs/\KV kvs rs
 | [],_,r=>by rw[zce]at r;cases r;exact⟨[],True.intro,.nil⟩
 | p::kvs,_,r=>by
   rw[tP]at r
   cases r with
   | @cons a b as bs h t=>
     obtain⟨rs,c,q⟩:=Y1 (P:=P) (w:=w) t
     obtain⟨b1,b2⟩:=b
     exact⟨(p.1,b2)::rs,⟨zP h.1,rfl,c⟩,.cons ⟨rfl,h.2⟩ q⟩
def KL (trs:List (TE×TE)):TE:=λσ H Q=>∀p,H p=none->X1 trs σ (upd H p (.dK [])) λps H2=>H2 p=some (.dK [])/\∃kvs:List (qI×V),ps=kvs.map (λkv=>(kV kv.1,kv.2))/\kvs.length<=15/\Q (.ref p) (upd H2 p (.dK (Qo [] kvs)))
theorem Qg {X:Cx} {pos:Pos} {keys:List (Option Expr)} {values:List Expr} {trs:List (TE×TE)} (h:wU X pos keys values trs) (hall:keys.all (·.isSome)=true) (hl:keys.length=values.length) (h0:keys≠[]) (h15:keys.length<=15):JE X (.Dict keys values pos) (KL trs):=.of (by
 have h:=h.to
 intro pins s σ H Q I q
 have hn:=I.hok.fresh (tu s.heap.objs.size)
 have I1:=I.laid (a:=s.heap.objs.size) (o:=.dK []) (h':=s.heap.push {cls:=.type "dict",data:=.dict #[]}) (t':=s.toks) (λ_ _ q=>tq _ q) (tu _) (Vk s.heap I.big)
 refine wpAny_Dict_walk (knd:=qQ X.prog X.w) hall hl h0 h15 (jB (h pins _ σ _ _ I1 (q _ hn)) λws s2 ⟨ps,H2,I2,rel,e,kvs,ep,lk,q2⟩=>?_)
 subst ep
 obtain⟨rs,c,rk⟩:=Y1 (P:=X.prog) (w:=X.w) rel
 obtain⟨z,hd,vs0,r0,dd⟩:=ve I2.hok e
 cases r0
 refine⟨rs,c,dd,λh' dd' hs=>⟨.ref s.heap.objs.size,_,?_,rfl,q2⟩⟩
 have hz:(Qo [] kvs).length<=sizeLine:=by
   have h1:=Ja kvs []
   rw[zcJ]at h1
   rw[sizeLine_eq];omega
 have he:∃q,h'.get? s.heap.objs.size=some q:=let ⟨q,_,_,hq,_⟩:=dd';⟨q,hq⟩
 exact zf I2 (by rw[e];exact True.intro) hs he (Y0 hz hd (rk.merge .nil) dd'))
structure M1 (X:Cx) (o:Expr) (m:Str) (apos:Pos) (e:Expr) (cpos:Pos):Prop where
 base:attributeBase o m X.env (eval o X.env)=eval o X.env
 few:((backTo cpos (starEach [e] X.env)).all (λx=> !x.1)&&(backToKw cpos (keywordEach [] X.env)).all (λx=>x.1.isSome)
   &&decide (([e]:List Expr).length+([]:List Keyword).length+(if ([]:List Keyword).isEmpty then 0 else 1) < 30))=true
 line:(apos.endLine==cpos.line)=true
 trees:backTo cpos (starEach [e] X.env)=[(false,eval e X.env)]
structure M2 (X:Cx) (o:Expr) (m:Str) (apos:Pos) (e f:Expr) (cpos:Pos):Prop where
 base:attributeBase o m X.env (eval o X.env)=eval o X.env
 few:((backTo cpos (starEach [e,f] X.env)).all (λx=> !x.1)&&(backToKw cpos (keywordEach [] X.env)).all (λx=>x.1.isSome)
   &&decide (([e,f]:List Expr).length+([]:List Keyword).length+(if ([]:List Keyword).isEmpty then 0 else 1) < 30))=true
 line:(apos.endLine==cpos.line)=true
 trees:backTo cpos (starEach [e,f] X.env)=[(false,eval e X.env),(false,eval f X.env)]
def IsD (H:Hp) (a:Addr):Prop:=(∃kvs,Rd H a (.dK kvs))\/∃kvs,Rd H a (.dT kvs)
theorem RZ {X:Cx} {pins:List (Addr×Obj)} {σ:St} {H:Hp} {s:Shared} {a:Addr} (I:qJ X pins σ H s) (d:IsD H a):
   s.TypeIs (.ref a) "dict"/\(∀b,Value.ref a=.ref b->∃ob,s.heap.get? b=some ob/\ob.dict=none)/\(a==sysModules)=false:=by
 rcases d with ⟨kvs,e⟩ | ⟨kvs,e⟩
 . obtain⟨_,hd,vs,_,dd⟩:=ze I.hok e
   refine⟨dd.typeIs,λb q=>?_,hd⟩
   cases q
   obtain⟨ob,_,_,h1,h2,_⟩:=dd
   exact⟨ob,h1,h2.2.1⟩
 . obtain⟨_,hd,xs,_,dd⟩:=XL I.hok e
   refine⟨dd.typeIs,λb q=>?_,hd⟩
   cases q
   obtain⟨ob,_,_,h1,h2,_⟩:=dd
   exact⟨ob,h1,h2.2.1⟩
section
variable {X:Cx} {pins:List (Addr×Obj)} {σ:St} {H:Hp} {s:Shared} {a:Addr} {y d:V} {u r:Value} {o:Option V} {A:Around} {E:Value->Shared->Prop}
end
def Gw (td ty:TE):TE:=λσ H Q=>td σ H λx H1=>∃a,x=.ref a/\IsD H1 a/\ty σ H1 λy H2=>∃kvs k v,H2 a=some (.dK kvs)/\y=kV k/\qY kvs k=some v/\Q v (upd H2 a (.dK (QV kvs k)))
section
variable {X:Cx} {o e f:Expr} {apos cpos:Pos} {td ty tx:TE}
theorem x9 (ho:JE X o td) (he:JE X e ty) (m:M1 X o "pop" apos e cpos):JE X (.Call (.Attribute o "pop" apos) [e] [] cpos) (Gw td ty):=.of (by
 have ho:=ho.to
 have he:=he.to
 intro pins s σ H Q I h
 refine wpAny_Call_method m.base m.few m.line PySem.F.plainAttrs_dict zcP PySem.F.type_dict_pop (jB (ho pins s σ H _ I h) λu s1 ⟨x,H1,I1,rx,a,ex,d,q1⟩=>?_)
 subst ex
 obtain rfl:u=Value.ref a:=rx
 obtain⟨t1,t2,_⟩:=RZ I1 d
 refine⟨t1,t2,?_⟩
 rw[m.trees]
 refine Calls.callWith_builtin rfl (Calls.evalArgs_plain (Calls.spliced_cons (jB (he pins s1 σ H1 _ I1 q1) λiv s2 ⟨y,H2,I2,ry,kvs,k,v,ea,ey,l,q2⟩=>Calls.spliced_nil ?_)))
 subst ey
 exact Mw I2 ea ry l (.inl rfl) λw' s3 I3 rw'=>⟨v,_,I3,rw',q2⟩)
end
section
variable {X:Cx} {pins:List (Addr×Obj)} {σ:St} {H:Hp} {s:Shared} {a:Addr} {kvs:List (qI×V)} {A:Around} {E:Value->Shared->Prop}
theorem wF {Q:Value->Shared->Prop} (I:qJ X pins σ H s) (e:Rd H a (.dK kvs)) (h:∀p s',H p=none->qJ X pins σ (upd H p (.dK kvs)) s'->Q (.ref p) s'):wpAny (model X.prog X.w) A (call (.type "dict") [.ref a]) Q E s:=by
 obtain⟨z,hd,vs,rel,dd⟩:=ze I.hok e
 refine kt_call_dict hd dd (by rw[<-rel.length];exact z) λh' dd' hs=>?_
 refine h _ _ (I.hok.fresh (tu _)) (I.laid (a:=s.heap.objs.size) (o:=.dK kvs) (t':=s.toks) (λb q hq=>?_) (tu _) (Y0 z (beq_eq_false_iff_ne.mpr (Ne.symm (tM I.big))) rel dd'))
 exact(hs.2 b (tM (tG hq))).trans (tq _ hq)
end
section
variable {X:Cx} {pins:List (Addr×Obj)} {σ:St} {H:Hp} {s:Shared} {a:Addr} {y:V} {u:Value} {A:Around} {E:Value->Shared->Prop}
end
end L2
namespace Att
open PySem PySem.W PySem.Calls PyProof.Rows
theorem zV {P:Params} {h:Heap}:∀(ns:List Int) (vs:List Value),WellAll P h vs (ns.map WData.int)->IntsAre vs ns:=by
 intro ns
 induction ns with
 | nil=>
   intro vs w
   rw[zce]at w
   cases w
   exact .nil
 | cons n ns ih=>
   intro vs w
   rw[tP]at w
   cases w with
   | cons a b=>
     cases a
     exact .cons _ _ (ih _ b)
theorem vI {l:OpenLaw} {n:Nat} (hn:l.most=some n) {P:Params} {h:Heap} {args:List WData} {vals:List Value}
   (hpre:l.row.toRowW.claim.pre args=true) (hwl:WellAll P h vals args):
   ∃a vs ns,vals=[Value.ref a]/\args=[WData.list (ns.map WData.int)]/\h.get? a=some {cls:=.type "list",data:=.seq vs.toArray}/\IntsAre vs ns/\ns.length<=n:=by
 have hsh:WShape.hasAll [] args [.list .int]=true:=(pre_splitW hpre).1
 have hc:l.pre.holds [] {args:=args}=true:=(pre_splitW hpre).2
 obtain⟨d,r,rfl,h1,h2⟩:=hasAllW_cons hsh
 obtain rfl:=hasAllW_nil h2
 obtain⟨xs,rfl,h3⟩:=hasW_list h1
 obtain⟨ns,rfl⟩:=items_int h3
 have hlen:ns.length<=n:=by
   unfold OpenLaw.pre at hc
   have h4:(WTm.not (.lt (.lit (.int (n:Int))) (.len (.arg 0)))).holds [] {args:=[.list (ns.map .int)]}=true:=by
     have h4:=(holds_andW hc).1
     rw[hn]at h4
     exact h4
   have h5:=condW_of h4 (w_not (w_lt w_lit (w_len_list (w_arg rfl))))
   rw[tj]at h5
   refine Nat.le_of_not_lt λq=>?_
   have q':(n:Int) < ((ns.length:Nat):Int):=by omega
   first
     | (rw[decide_eq_true q']at h5;exact absurd h5 (by decide))
     | (simp at h5;omega)
 cases hwl with
 | cons w1 w2=>
   cases w2
   cases w1 with
   | list ho hall=>exact⟨_,_,ns,rfl,rfl,ho,zV ns _ hall,hlen⟩
theorem vR (l:OpenLaw) (args:List WData):l.row.toRowW.claim.post args (.bool true) args=true:=
 postW_of (r:=l.row.toRowW) (X:=(true==true))
   (show WShape.has [] (.bool true) .bool=true by first | rfl | decide | simp [WShape.has,WShape.arms,WShape.armsAll])
   (show (WTm.eq .res (.lit (.bool true))).value [] {args:=args,res:=some (.bool true),after:=args}=some (.bool (true==true)) from w_eq_bool (w_res rfl) w_lit) rfl
theorem attach_call {l:OpenLaw} {n:Nat} {q:Program} {loose:List Str} {XP:(Str->Option Value)->Heap->Prop} {YP:World->Heap->Prop} {d:DefRec}
   (hn:l.most=some n) (hdf:d.params.defaults=[])
   (call:∀(w:World) (s₀ s₁:Shared) (mg mb:Str->Option Value) (fa:Addr) (o:Obj) (pm cd doc:Value) (a:Addr) (vs:List Value) (ns:List Int),
     Ground q loose [] XP w s₀ mg mb s₁.heap->YP w s₁.heap->
     s₁.heap.get? fa=some o->o.data=.func (docDef d.name d.params d.body d.scope pm cd doc)->s₁.heap.CodeRec cd d.name->mg d.name=some (.ref fa)->
     s₁.heap.get? a=some {cls:=.type "list",data:=.seq vs.toArray}->IntsAre vs ns->ns.length<=n->s₁.gens=#[]->
     codeAny (model l.prog w) callerA (.call (.ref fa) ⟨[.ref a],[]⟩) (λr s'=>r=.ok (.ret (.bool true))/\OldK s₁.heap s'.heap/\s'.os=s₁.os/\AllBare s'.gens) s₁):
   WalkO q loose XP YP l.row.toRowW d [] (λf vs=>PySem.call f vs):=by
 intro w s₀ s₁ mg mb G Y fa o pm cd doc dV kV ho hd hcd hD hmg hg args vals as hpre hlay hrd hwl hlo
 obtain rfl:dV=.none:=Dflts.none hD hdf
 obtain rfl:kV=.none:=Dflts.noKw hD
 obtain⟨a,vs,ns,rfl,rfl,hobj,hints,hlen⟩:=vI hn hpre hwl
 refine enter_call (codeAny_mono (call w s₀ s₁ mg mb fa o pm cd doc a vs ns G Y ho (fd_plain hd) hcd hmg hobj hints hlen hg) λr s' hq=>?_)
 obtain⟨rfl,h2,h3,h4⟩:=hq
 exact⟨.inl ⟨.bool true,.bool true,[],rfl,λ_=>rfl,.bool true,vR l _,λ_=>⟨zbX.nil,λ_ hm=>(nomatch hm)⟩⟩,h2,h3,h4⟩
section
variable {prog:Program} {w:World} {A:Around} {E:Value->Shared->Prop} {s:Shared} {K:Frag}
end
end Att
namespace L2
open PySem PySem.Spec PyProof.Rows
theorem Xj:∀{vs:List Value} {ns:List Int},IntsAre vs ns->qP (ns.map V.int) vs
 | _,_,.nil=>.nil
 | _,_,.cons n t h=>.cons ⟨t,rfl⟩ (Xj h)
def Nh (H:Hp):Prop:=∀b,H b=none\/∃o xs,H b=some (.frz o (.lst xs))
theorem xH {P:Program} {w:World} {K:PySem.W.Frag} {mg mb:Str->Option Value} {CX:WF} {k:Nat} {fa a:Addr} {fd:FuncData} {x:Str} {sp:Sp} {s₁:Shared} {vs:List Value} {ns:List Int}
   (KX:K.In s₁.heap) (hns:s₁.heap.Ns mainGlobals mg) (hb:s₁.heap.Ns builtinsNs mb) (hbb:∀x:Str,x≠"__name__"->mb x=bootBuiltins x) (hlim:s₁.heap.NoLimit) (hg:s₁.gens=#[])
   (ha:s₁.heap.get? a=some {cls:=.type "list",data:=.seq vs.toArray}) (hi:IntsAre vs ns) (hl:ns.length<=sizeLine) (hr:jE k callerA)
   (F:∀base:Heap,K.In base->base.Ns mainGlobals mg->qB P w K mg base CX k fa fd [x] sp) (hbind:∀(s:Shared) (u:Value),BindsTo s fd ⟨[u],[]⟩ [(x,u)])
   (hsp:∀H:Hp,Nh H->SqL K H a (ns.map V.int)->sp [.ref a] H (λv _=>v=.bl true) λ_ _ _=>False)
   (hCX:∀H e s',CX [] H s₁ (λ_ _ _=>False) e s'->False):
   codeAny (model P w) callerA (.call (.ref fa) ⟨[.ref a],[]⟩) (λr s'=>r=.ok (.ret (.bool true))/\OldK s₁.heap s'.heap/\s'.os=s₁.os/\AllBare s'.gens) s₁:=by
 have rv:=Xj hi
 have lenV:=hi.length
 have core:∀H:Hp,Nh H->SqL K H a (ns.map V.int)->JU P w H s₁.heap->(∀b,H b≠none->b=a)->(H a≠none->K.lookup a=none)->
     codeAny (model P w) callerA (.call (.ref fa) ⟨[.ref a],[]⟩) (λr s'=>r=.ok (.ret (.bool true))/\OldK s₁.heap s'.heap/\s'.os=s₁.os/\AllBare s'.gens) s₁:=by
   intro H hO hS hok hA hK
   have base_of:∀{b:Addr} {o:Obj},s₁.heap.get? b=some o->H b=none->(Ws s₁.heap H).get? b=some o:=λe n=>wo e n
   have noA:∀{b:Addr} {o:Obj} {es:Array DictEntry} {ep:Nat},s₁.heap.get? b=some o->o.data=.dict es ep->H b=none:=λ{b o es ep} e d=>by
     cases q:H b with
     | none=>rfl
     | some u=>
       have e':b=a:=hA b (by rw[q];simp)
       subst e'
       rw[ha]at e;cases e
       have d':Data.seq vs.toArray _=Data.dict es ep:=d
       cases d'
   have nsK:∀{b:Addr} {m:Str->Option Value},s₁.heap.Ns b m->(Ws s₁.heap H).Ns b m:=λ{b m} ⟨o,es,ep,e,d,r⟩=>⟨o,es,ep,base_of e (noA e d),d,r⟩
   have hKb:K.In (Ws s₁.heap H):=λb o e=>base_of (KX b o e) (by
     cases q:H b with
     | none=>rfl
     | some u=>
       have e':b=a:=hA b (by rw[q];simp)
       subst e'
       rw[hK (by rw[q];simp)]at e;cases e)
   have hM:Mod K mg (Ws s₁.heap H):=⟨hKb,nsK hns,⟨mb,nsK hb,hbb⟩,let ⟨mc,h1,h2⟩:=hlim;⟨mc,nsK h1,h2⟩⟩
   have e0:Vs P w K mg (Ws s₁.heap H) callerA [] s₁ H:=⟨rfl,hM,λb o e=>uT e,Nat.le_of_eq (kH _ _),trivial,λb hb=>absurd (show b∈([]:List Addr) from hb) (by simp),hok,.of_eq hg⟩
   refine codeAny_mono ((F _ hKb (nsK hns)).run callerA [] s₁ H ⟨[.ref a],[]⟩ [.ref a] [.ref a] _ _ hr e0 (hbind s₁ (.ref a)) (.cons rfl .nil) (hsp H hO hS)) λr s' h=>?_
   cases r with
   | error e=>exact(hCX H e s' h).elim
   | ok fl=>
     cases fl with
     | next=>exact False.elim h
     | brk=>exact False.elim h
     | cont=>exact False.elim h
     | ret u=>
       obtain⟨v,H',os,bare,un,hok',r',q⟩:=h
       have q':v=.bl true:=q
       subst q'
       obtain rfl:u=Value.bool true:=r'
       refine⟨rfl,OldK.of_keep λb o e=>?_,os,bare⟩
       cases q:H b with
       | none=>exact un.keep b o e q (by intro z;exact absurd (show b∈([]:List Addr) from z) (by simp)) (by simp)
       | some u=>
         rcases hO b with z | ⟨ob,xs,z⟩
         . rw[q]at z;cases z
         . have z2:=un.frzs b ob _ z
           obtain⟨e1,_⟩:=hok b _ z
           obtain⟨e2,_⟩:=hok' b _ z2
           rw[e]at e1;cases e1
           exact e2
 cases hk:K.lookup a with
 | some o=>
   have e:=KX a o hk
   rw[ha]at e
   cases e
   refine core (λ_=>none) (λ_=>.inl rfl) (.inr ⟨_,vs.toArray,_,hk,rfl,rfl,rfl,by rw[tW,lenV];exact hl,by simpa using rv⟩) (λb u z=>by have z':(none:Option HO)=some u:=z;cases z') (λb z=>absurd rfl z) λz=>absurd rfl z
 | none=>
   refine core (λb=>if b=a then some (.frz {cls:=.type "list",data:=.seq vs.toArray} (.lst (ns.map V.int))) else none) (λb=>?_) (.inl (.inr ⟨{cls:=.type "list",data:=.seq vs.toArray},if_pos rfl⟩)) (λb u z=>?_) (λb z=>?_) λ_=>hk
   . by_cases hb:b=a
     . exact .inr ⟨_,_,if_pos hb⟩
     . exact .inl (if_neg hb)
   . by_cases hb:b=a
     . have z':=(if_pos hb).symm.trans z
       cases z'
       subst hb
       exact⟨ha,by rw[tj];exact hl,vs,_,rv,ha⟩
     . have z':=(if_neg hb).symm.trans z
       cases z'
   . by_cases hb:b=a
     . exact hb
     . exact absurd (if_neg hb) z
theorem walk_of {l:PySem.W.OpenLaw} {n k:Nat} {q:Program} {loose:List Str} {XP:(Str->Option Value)->Heap->Prop} {YP:World->Heap->Prop} {d:DefRec} {K:Params->PySem.W.Frag} {CX:World->WF} {sp:World->Sp} {x:Str}
   (hn:l.most=some n) (hn2:n<=sizeLine) (hdf:d.params.defaults=[]) (hr:jE k callerA)
   (hY:∀(w:World) (h:Heap),YP w h->(K w.params).In h)
   (F:∀(w:World) (mg:Str->Option Value) (fa:Addr) (h:Heap),(K w.params).In h->h.Ns mainGlobals mg->mg d.name=some (.ref fa)->
     ∃fd:FuncData,(∀(s:Shared) (u:Value),BindsTo s fd ⟨[u],[]⟩ [(x,u)])/\
      ∀base:Heap,(K w.params).In base->base.Ns mainGlobals mg->qB l.prog w (K w.params) mg base (CX w) k fa fd [x] (sp w))
   (hsp:∀(w:World) (H:Hp) (a:Addr) (ns:List Int),ns.length<=n->Nh H->SqL (K w.params) H a (ns.map V.int)->sp w [.ref a] H (λv _=>v=.bl true) λ_ _ _=>False)
   (hCX:∀(w:World) (H:Hp) (s:Shared) (e:Value) (s':Shared),CX w [] H s (λ_ _ _=>False) e s'->False):
   PySem.W.WalkO q loose XP YP l.row.toRowW d [] (λf vs=>PySem.call f vs):=by
 refine Att.attach_call hn hdf λw s₀ s₁ mg mb fa o pm cd doc a vs ns G Y ho hd hcd hmg hobj hints hlen hg=>?_
 have KX:=hY w _ Y
 obtain⟨fd,hb,hF⟩:=F w mg fa _ KX G.T.g hmg
 exact xH KX G.T.g G.T.b G.T.builtins G.T.nolimit hg hobj hints (tV hlen hn2) hr hF hb (λH hO hS=>hsp w H a ns hlen hO hS) λH e s'=>hCX w H s₁ e s'
def Wq (s:Stmt) (j:Nat):Stmt:=match s with
 | .ClassDef _ _ _ body _ _ _ _ _ _ _=>body.getD j (.Pass ⟨0,0,0,0⟩)
 | _=>.Pass ⟨0,0,0,0⟩
def QJ (s:Stmt):Arguments:=match s with
 | .FunctionDef _ a _ _ _ _ _ _ _ _=>a
 | _=>{posonlyargs:=[],args:=[],vararg:=none,kwonlyargs:=[],kw_defaults:=[],kwarg:=none,defaults:=[]}
def Qr (s:Stmt):List Stmt:=match s with
 | .FunctionDef _ _ b _ _ _ _ _ _ _=>b
 | _=>[]
def qo (s:Stmt):Scope:=match s with
 | .FunctionDef _ _ _ _ _ _ sc _ _ _=>sc
 | _=>{kind:=.function,names:=[],isGenerator:=false,isCoroutine:=false}
abbrev q5:WF:=λ_ _ _ _ _ _=>False
abbrev E0:XK:=λ_ _ _=>False
theorem Xq {X:Cx}:JB q5 X E0:=λ_ _ _ _ _ _ _ h=>h.elim
structure Qn (K:PySem.W.Frag) (x qual:Str) (st:Stmt) (f:Addr) (fd:FuncData):Prop where
 ex:∃(oc:Value) (od:Option Addr) (kV doc pm:Value) (an:Option Addr) (cdv ct:Value) (osl:Array (Option Value)),
   fd=zbd x qual (QJ st) (Qr st) (qo st) .none kV doc pm an cdv ct/\K.lookup f=some ⟨oc,od,.func fd,osl⟩/\zbw K cdv qual=true
 kp:zaQ K (.ref f)=true
section
variable {P:Program} {w:World} {K:PySem.W.Frag} {mg:Str->Option Value} {base:Heap}
theorem Qn.ok {x qual:Str} {st:Stmt} {f:Addr} {fd:FuncData} {N ps:List Str} {k:Nat} {sp:Sp} (F:Qn K x qual st f fd) (S:qG N ps (qo st)) (len:∀vs H Q E,sp vs H Q E->vs.length=ps.length)
   (hbody:∀(cdv:Value) (A:Around) (outer:List Env) (s:Shared) (H:Hp) (vs:List V) (Q:VK) (E:XK),jE k (A.deeper (envOfC qual (qo st) s.heap.objs.size f cdv))->sp vs H Q E->
     ∃t,Gi (Ue q5 P w K mg base N qual (qo st) f cdv A outer s H E).nox (Qr st) t/\t {nx:=λ_ H'=>Q .non H',rt:=Q} (ZP N vs) H):qB P w K mg base q5 (k+1) f fd ps sp:=by
 obtain⟨oc,od,kV,doc,pm,an,cdv,ct,osl,rfl,lk,hcd⟩:=F.ex
 refine Ms lk hcd S len λA outer s H vs Q E hr hsp=>?_
 obtain⟨t,h,q⟩:=hbody cdv A outer s H vs Q E hr hsp
 exact⟨t,h.nox,q⟩
theorem Qn.okJ {x qual:Str} {st:Stmt} {f:Addr} {fd:FuncData} {N ps:List Str} {k:Nat} {sp:Sp} (F:Qn K x qual st f fd) (S:qG N ps (qo st)) (len:∀vs H Q E,sp vs H Q E->vs.length=ps.length)
   (hbody:∀(cdv:Value) (A:Around) (outer:List Env) (s:Shared) (H:Hp) (vs:List V) (Q:VK) (E:XK),jE k (A.deeper (envOfC qual (qo st) s.heap.objs.size f cdv))->sp vs H Q E->
     ∃t,WE (Ue q5 P w K mg base N qual (qo st) f cdv A outer s H E).nox (Qr st) t/\t {nx:=λ_ H'=>Q .non H',rt:=Q} (ZP N vs) H):qB P w K mg base q5 (k+1) f fd ps sp:=
 F.ok S len λcdv A outer s H vs Q E hr h=>let ⟨t,a,b⟩:=hbody cdv A outer s H vs Q E hr h;⟨t,a.to,b⟩
theorem Qn.binds {x qual:Str} {st:Stmt} {f:Addr} {fd:FuncData} {ps:List Str} (F:Qn K x qual st f fd)
   (h:∀(kV doc pm:Value) (an:Option Addr) (cdv ct:Value) (us:List Value),us.length=ps.length->bindArgs (zbd x qual (QJ st) (Qr st) (qo st) .none kV doc pm an cdv ct) ⟨us,[]⟩=pure (ps.zip us)):QY K fd ps []:=by
 obtain⟨oc,od,kV,doc,pm,an,cdv,ct,osl,rfl,lk,hcd⟩:=F.ex
 exact .all (h kV doc pm an cdv ct)
theorem V8 {x qual:Str} {st:Stmt} {f:Addr} {oc:Value} {od an:Option Addr} {osl:Array (Option Value)} {kV doc pm cdv ct:Value} (l:K.lookup f=some ⟨oc,od,.func (zbd x qual (QJ st) (Qr st) (qo st) .none kV doc pm an cdv ct),osl⟩)
   (c:zbw K cdv qual=true) (k:zaQ K (.ref f)=true):Qn K x qual st f (zbd x qual (QJ st) (Qr st) (qo st) .none kV doc pm an cdv ct):=⟨⟨oc,od,kV,doc,pm,an,cdv,ct,osl,rfl,l,c⟩,k⟩
end
theorem jQ {A:Around} {k:Nat} (hr:jE k A):A.units+1 < cLine:=zaD (Nat.add_le_add_left (by decide:1<=64) _) hr.units
theorem qm {n:Nat} (h:n<=1000):n < sizeLine:=zaD h (by decide)
section
variable {X:Cx}
theorem pv (i:Nat) {x:Str} {pos:Pos} (hN:X.N[i]?=some x:=by rfl) (hv:Nz X.env.scope x:=by first | exact Or.inl rfl | exact Or.inr (Or.inl rfl) | exact Or.inr (Or.inr rfl)) (hd:(x==("__debug__":Str))=false:=by decide)
   (hcd:(x==("__classdict__":Str))=false:=by decide):PE X (.Name x pos) (qN i):=Rn hN hv hd hcd
theorem jv (i:Nat) {x:Str} {pos:Pos} (hN:X.N[i]?=some x:=by rfl) (hv:Nz X.env.scope x:=by first | exact Or.inl rfl | exact Or.inr (Or.inl rfl) | exact Or.inr (Or.inr rfl)) (hd:(x==("__debug__":Str))=false:=by decide) (hcd:(x==("__classdict__":Str))=false:=by decide):JE X (.Name x pos) (qN i):=.of (pv i hN hv hd hcd)
end
theorem jg {A B:Prop} (h:B):if false=true then A else B:=by
 rw[if_neg tI]
 exact h
theorem jI {A B:Prop} (h:A):if true=true then A else B:=by
 rw[if_pos rfl]
 exact h
theorem J2 {c A B:Prop} [Decidable c] (h1:c->A) (h2:¬c->B):if c then A else B:=by
 by_cases h:c
 . rw[if_pos h]
   exact h1 h
 . rw[if_neg h]
   exact h2 h
def qr (H H':Hp):Prop:=∀b o,H b=some o->H' b=some o
theorem qr.refl (H:Hp):qr H H:=λ_ _ h=>h
theorem qr.trans {H H1 H2:Hp} (a:qr H H1) (b:qr H1 H2):qr H H2:=λc o h=>b c o (a c o h)
theorem qr.seq {K:PySem.W.Frag} {H H':Hp} {a:Addr} {xs:List V} (e:qr H H') (h:SqL K H a xs):SqL K H' a xs:=by
 rcases h with (h | ⟨o,h⟩) | h
 . exact .inl (.inl (e _ _ h))
 . exact .inl (.inr ⟨o,e _ _ h⟩)
 . exact .inr h
section
variable {X:Cx}
end
section
variable {κ:Type} [DecidableEq κ]
theorem WI {kvs:List (κ×V)} {k:κ} (h:qY kvs k=none):¬k∈kvs.map (·.1):=by
 intro m
 obtain⟨p,hp,e⟩:=tE.mp m
 have q:(kvs.any λkv=>decide (kv.1=k))=true:=zaO.mpr ⟨p,hp,decide_eq_true e⟩
 rw[QQ,h]at q
 exact absurd q (by simp)
theorem ZN {kvs:List (κ×V)} {k:κ} {v:V} (h:qY kvs k=some v):k∈kvs.map (·.1):=by
 have q:(kvs.any λkv=>decide (kv.1=k))=true:=by
   rw[QQ,h]
   all_goals rfl
 obtain⟨p,hp,e⟩:=zaO.mp q
 exact tE.mpr ⟨p,hp,of_decide_eq_true e⟩
theorem UY:∀{l:List κ} {k:κ},l.Nodup->¬k∈l->(l++[k]).Nodup
 | [],k,_,_=>by simp
 | a::r,k,h,hk=>by
   obtain⟨h1,h2⟩:=zaf.mp h
   show (a::(r++[k])).Nodup
   refine zaf.mpr ⟨λm=>?_,UY h2 λm=>hk (tR.mpr (Or.inr m))⟩
   rcases tZ.mp m with q | q
   . exact h1 q
   . exact hk (tR.mpr (Or.inl (zaE.mp q).symm))
theorem UZ {kvs:List (κ×V)} {k:κ} (v:V) (hn:(kvs.map (·.1)).Nodup) (h:qY kvs k=none):((jm kvs k v).map (·.1)).Nodup:=by
 rw[QC v h,tL]
 exact UY hn (WI h)
theorem kQ {p:κ×V} {r:List (κ×V)} {k:κ} (e:p.1=k):QV (p::r) k=QV r k:=by
 unfold QV
 rw[zaK,if_neg (by simp [e])]
theorem kR {p:κ×V} {r:List (κ×V)} {k:κ} (e:¬p.1=k):QV (p::r) k=p::QV r k:=by
 unfold QV
 rw[zaK,if_pos (by simp [e])]
theorem zF {kvs:List (κ×V)} {k:κ} {p:κ×V} (h:p∈QV kvs k):p∈kvs:=(zaw.mp h).1
theorem YL:∀{kvs:List (κ×V)} {k:κ},(kvs.map (·.1)).Nodup->((QV kvs k).map (·.1)).Nodup
 | [],_,_=>zbn
 | p::r,k,h=>by
   have h:(p.1::r.map (·.1)).Nodup:=h
   obtain⟨h1,h2⟩:=zaf.mp h
   by_cases e:p.1=k
   . rw[kQ e]
     exact YL h2
   . rw[kR e]
     show (p.1::(QV r k).map (·.1)).Nodup
     refine zaf.mpr ⟨λm=>h1 ?_,YL h2⟩
     obtain⟨q,hq,eq⟩:=tE.mp m
     exact tE.mpr ⟨q,zF hq,eq⟩
end
end L2
set_option maxHeartbeats 4000000
namespace L2
open PySem PySem.Spec PyProof.Rows
theorem U9:(NameKind.free==NameKind.free)=true:=rfl
def jR (env:Env):List (Str×NameKind)->List (Str×Addr)->List (Str×Addr)
 | [],cs=>cs
 | (n,k)::r,cs=>jR env r (if k==.free then (n,(env.cells.lookup n).getD 0)::cs else cs)
theorem Zw {scope:Scope} {env:Env} (h:∀x∈scope.names,x.2=.free->∃c,env.cells.lookup x.1=some c):closureFor scope env=pure (jR env scope.names []):=by
 simp only[closureFor]
 have key:∀(l:List (Str×NameKind)) (cs:List (Str×Addr)),(∀x∈l,x.2=.free->∃c,env.cells.lookup x.1=some c)->
     (forIn l cs λx (r:List (Str×Addr))=>if (x.snd==NameKind.free)=true then (do let a <-cellOf env x.fst;pure (ForInStep.yield ((x.fst,a)::r)):Sem (ForInStep (List (Str×Addr)))) else pure (ForInStep.yield r))=(pure (jR env l cs):Sem (List (Str×Addr))):=by
   intro l
   induction l with
   | nil=>intro cs _;rfl
   | cons x l ih=>
     intro cs hl
     obtain⟨n,k⟩:=x
     have ihl:=λcs'=>ih cs' λy hy=>hl y (tN _ hy)
     rw[List.forIn_cons]
     by_cases hk:k=.free
     . subst hk
       obtain⟨c,hc⟩:=hl (n,.free) tS rfl
       have e1:cellOf env n=pure c:=by
         unfold cellOf
         have hc':env.cells.lookup n=some c:=hc
         rw[hc']
       have e2:jR env ((n,NameKind.free)::l) cs=jR env l ((n,c)::cs):=by
         have hc':env.cells.lookup n=some c:=hc
         show jR env l (if (NameKind.free==NameKind.free)=true then (n,(env.cells.lookup n).getD 0)::cs else cs)=_
         rw[if_pos U9,hc']
         rfl
       rw[e2,<-ihl]
       dsimp only
       rw[if_pos U9,e1]
       rfl
     . have hb:(k==NameKind.free)=false:=by simpa using hk
       have e2:jR env ((n,k)::l) cs=jR env l cs:=by
         show jR env l (if (k==NameKind.free)=true then (n,(env.cells.lookup n).getD 0)::cs else cs)=_
         rw[if_neg (by rw[hb];decide)]
       rw[e2,<-ihl]
       dsimp only
       rw[if_neg (by rw[hb];decide)]
       rfl
 rw[key scope.names [] h]
 rfl
theorem zT {env:Env} {x:Str} {c:Addr}:∀{l:List (Str×NameKind)} {cs:List (Str×Addr)},(jR env l cs).lookup x=some c->cs.lookup x=some c\/((x,NameKind.free)∈l/\c=(env.cells.lookup x).getD 0)
 | [],cs,h=>.inl h
 | (n,k)::r,cs,h=>by
   rcases zT (l:=r) h with h | ⟨h1,h2⟩
   . by_cases hk:k=.free
     . subst hk
       rw[if_pos U9,zaC]at h
       by_cases hx:x=n
       . subst hx
         simp only[beq_self_eq_true]at h
         exact .inr ⟨tS,(tK.inj h).symm⟩
       . have hb:(x==n)=false:=beq_eq_false_iff_ne.mpr hx
         simp only[hb]at h
         exact .inl h
     . have hb:(k==NameKind.free)=false:=by simpa using hk
       rw[if_neg (by rw[hb];decide)]at h
       exact .inl h
   . exact .inr ⟨tN _ h1,h2⟩
theorem ZE {env:Env} {x:Str}:∀{l:List (Str×NameKind)} {cs:List (Str×Addr)},((x,NameKind.free)∈l\/∃c,cs.lookup x=some c)->∃c,(jR env l cs).lookup x=some c
 | [],cs,h=>by
   rcases h with h | h
   . cases h
   . exact h
 | (n,k)::r,cs,h=>by
   show ∃c,(jR env r (if (k==NameKind.free)=true then (n,(env.cells.lookup n).getD 0)::cs else cs)).lookup x=some c
   refine ZE (l:=r) ?_
   rcases h with h | ⟨c,h⟩
   . rcases tR.mp h with h | h
     . cases h
       refine .inr ⟨(env.cells.lookup x).getD 0,?_⟩
       rw[if_pos U9,zaC]
       simp only[beq_self_eq_true]
     . exact .inl h
   . refine .inr ?_
     by_cases hk:(k==NameKind.free)=true
     . rw[if_pos hk,zaC]
       cases hx:x==n with
       | true=>exact⟨_,rfl⟩
       | false=>exact⟨c,h⟩
     . rw[if_neg hk]
       exact⟨c,h⟩
theorem Z2 {scope:Scope} {env:Env} {x:Str} {k:NameKind}:∀{names:List (Str×NameKind)},names.lookup x=some k->
   ∃k',(names.map λ(n,k)=>if (k==NameKind.free&&env.scope.kind==.function&&env.kindOf n==some .cell) then (n,NameKind.cell) else (n,k)).lookup x=some k'/\(k'=k\/(k=.free/\k'=.cell))
 | [],h=>by simp at h
 | (n,j)::r,h=>by
   rw[tP]
   by_cases hx:x=n
   . subst hx
     rw[zaC]at h
     simp only[beq_self_eq_true]at h
     cases h
     dsimp only
     by_cases hc:(k==NameKind.free&&env.scope.kind==.function&&env.kindOf x==some .cell)=true
     . rw[if_pos hc,zaC]
       simp only[beq_self_eq_true]
       refine⟨_,rfl,.inr ⟨?_,rfl⟩⟩
       simp only[zam,beq_iff_eq]at hc
       exact hc.1.1
     . rw[if_neg hc,zaC]
       simp only[beq_self_eq_true]
       exact⟨_,rfl,.inl rfl⟩
   . have hb:(x==n)=false:=beq_eq_false_iff_ne.mpr hx
     rw[zaC]at h
     simp only[hb]at h
     obtain⟨k',h1,h2⟩:=Z2 (env:=env) (scope:=scope) h
     refine⟨k',?_,h2⟩
     dsimp only
     by_cases hc:(j==NameKind.free&&env.scope.kind==.function&&env.kindOf n==some .cell)=true
     . rw[if_pos hc,zaC]
       simp only[hb]
       exact h1
     . rw[if_neg hc,zaC]
       simp only[hb]
       exact h1
theorem mem_of_lookup {x:Str} {k:NameKind}:∀{l:List (Str×NameKind)},l.lookup x=some k->(x,k)∈l
 | [],h=>by simp at h
 | (n,j)::r,h=>by
   rw[zaC]at h
   by_cases hx:x=n
   . subst hx
     simp only[beq_self_eq_true]at h
     cases h
     exact tS
   . have hb:(x==n)=false:=beq_eq_false_iff_ne.mpr hx
     simp only[hb]at h
     exact tN _ (mem_of_lookup h)
theorem Zs {f:Str×NameKind->Str×NameKind} (hf:∀p,(f p).1=p.1) {x:Str} {k:NameKind}:∀{l:List (Str×NameKind)},(l.map f).lookup x=some k->∃j,l.lookup x=some j/\(f (x,j)).2=k
 | [],h=>by simp at h
 | (n,j)::r,h=>by
   rw[tP]at h
   have e:f (n,j)=(n,(f (n,j)).2):=by
     have:=hf (n,j)
     exact Prod.ext this rfl
   rw[e,zaC]at h
   rw[zaC]
   by_cases hx:x=n
   . subst hx
     simp only[beq_self_eq_true]at h ⊢
     exact⟨j,rfl,tK.inj h⟩
   . have hb:(x==n)=false:=beq_eq_false_iff_ne.mpr hx
     simp only[hb]at h ⊢
     exact Zs hf h
def zS (X:Cx) (N:List Str) (scope:Scope) (C:Addr) (s₂:Shared) (H₂:Hp) (fp:List Addr) (pins:List (Addr×Obj)):Cx where
 prog:=X.prog
 w:=X.w
 K:=X.K
 mg:=X.mg
 base:=X.base
 A:=X.A
 N:=N
 s₀:=s₂
 H₀:=H₂
 env:=compEnvC scope (jR X.env scope.names []) C X.env
 outer:=X.stack
 stack:=X.stack
 ex:=fp
 fn:=λ_=>false
 calm:=X.calm
 pn:=X.pn++pins
 xe:=λ_ _=>False
def Gy (ix:List (Option Nat)) (σ:St):St:=ix.map λo=>o.bind λj=>(σ[j]?).join
def Ke (N' N:List Str) (sc esc:Scope) (ix:List (Option Nat)):Bool:=
 ix.length==N'.length&&(ix.zip N').all λp=>match p.1 with
   | none=>true
   | some j=>N[j]?==some p.2&&sc.names.lookup p.2==some .free&&(esc.names.lookup p.2==some .cell || esc.names.lookup p.2==some .free)
structure Qk (X:Cx) (N':List Str) (ix:List (Option Nat)) (scope:Scope):Prop where
 kind:scope.kind=.function
 nocell:(scope.names.all λx=>x.2 != .cell)=true
 locs:(scope.names.all λx=>x.2 != .local || scope.names.lookup x.1==some .local)=true
 frees:(scope.names.all λx=>x.2 != .free || (X.env.scope.names.lookup x.1==some .cell || X.env.scope.names.lookup x.1==some .free))=true
 ixs:Ke N' X.N scope X.env.scope ix=true
section
variable {X:Cx} {N':List Str} {ix:List (Option Nat)} {scope:Scope} {pins:List (Addr×Obj)} {σ:St} {H:Hp} {s:Shared}
theorem Qk.cellH (S:Qk X N' ix scope):∀y∈scope.names,y.2≠.cell:=λy hy e=>by
 have:=zav.mp S.nocell y hy
 rw[e]at this
 exact absurd this (by decide)
theorem Qk.locH (S:Qk X N' ix scope):∀y∈scope.names,y.2=.local->scope.names.lookup y.1=some .local:=λy hy e=>by
 have:=zav.mp S.locs y hy
 simp only[e,zcK,bne_self_eq_false,zaA,false_or,beq_iff_eq]at this
 exact this
theorem Qk.freeH (S:Qk X N' ix scope) (ok:X.Ok):∀x∈scope.names,x.2=.free->∃c,X.env.cells.lookup x.1=some c:=λx hx e=>by
 have:=zav.mp S.frees x hx
 simp only[e,zcK,bne_self_eq_false,zaA,false_or,beq_iff_eq]at this
 exact ok.has x.1 this
theorem Qk.clook (S:Qk X N' ix scope) (ok:X.Ok) {x:Str} {c:Addr} (h:(jR X.env scope.names []).lookup x=some c):X.env.cells.lookup x=some c/\(x,NameKind.free)∈scope.names:=by
 rcases zT h with h | ⟨h1,h2⟩
 . simp at h
 . obtain⟨c',hc'⟩:=S.freeH ok _ h1 rfl
   have hc2:X.env.cells.lookup x=some c':=hc'
   rw[hc2]at h2
   subst h2
   exact⟨hc2,h1⟩
theorem Mz {C:Addr} {fp:List Addr} (S:Qk X N' ix scope) (I:qJ X pins σ H s) (hC:s.heap.objs.size<=C) (hf:∀b∈fp,ZK X pins H b) (hfo:∀b∈fp,b < s.heap.objs.size):(zS X N' scope C s H fp pins).Ok where
 mod:=I.ok.mod
 kind:=S.kind
 glob:=I.ok.glob
 blt:=I.ok.blt
 above:=hC
 inj:=λx y c h1 h2=>I.ok.inj x y c (S.clook I.ok h1).1 (S.clook I.ok h2).1
 has:=λx hx=>by
   have hx':(relabel scope X.env).names.lookup x=some .cell\/(relabel scope X.env).names.lookup x=some .free:=hx
   refine ZE (.inl ?_)
   have go:∀k,(k=NameKind.cell\/k=.free)->(relabel scope X.env).names.lookup x=some k->(x,NameKind.free)∈scope.names:=λk hk h=>by
     obtain⟨j,h1,h2⟩:=Zs (f:=λ(n,k)=>if (k==NameKind.free&&X.env.scope.kind==.function&&X.env.kindOf n==some .cell) then (n,NameKind.cell) else (n,k)) (λp=>by dsimp only;split<;>rfl) h
     have hm:=mem_of_lookup h1
     by_cases hj:j=.free
     . subst hj;exact hm
     . exfalso
       have hb:(j==NameKind.free)=false:=by simpa using hj
       dsimp only at h2
       rw[hb,zcT,zcT,if_neg (by decide)]at h2
       have h2':j=k:=h2
       rcases hk with e | e
       . exact S.cellH _ hm (h2'.trans e)
       . exact hj (h2'.trans e)
   rcases hx' with h | h
   . exact go _ (.inl rfl) h
   . exact go _ (.inr rfl) h
 cab:=λx c h _=>by cases h
 hd:=I.ok.hd
 frames:=I.ok.frames
 stk:=.inl rfl
 exf:=λb hb=>⟨tM (tO (hfo b hb) hC),λx c h=>(hf b hb).2.2.2.2.1 x c (S.clook I.ok h).1⟩
 bs:=I.bs
 bsz:=tV I.ok.bsz I.sz
 noex:=λb o e hb=>by
   rcases(hf b hb).2.2.2.1 with h | h
   . exact I.ok.noex b o e h
   . exact absurd (tO (tG e) (tV I.ok.bsz h)) (zay _)
 exfs:=λb hb hm=>by
   rcases tR.mp (I.stkSub b hm) with e | e
   . exact(hf b hb).2.1 e
   . exact(hf b hb).2.2.1 e
 funs:=I.stack
 frf:=I.stkFree
theorem kG {C D:Addr} {fp:List Addr} {h₁:Heap} {m:Str->Option Value} {t':Nat} {n₀:Nat} (S:Qk X N' ix scope) (I:qJ X pins σ H s) (hf:∀b∈fp,ZK X pins H b) (hfo:∀b∈fp,b < s.heap.objs.size)
   (hD:s.heap.objs.size<=D) (hC:s.heap.objs.size<=C) (hDC:D≠C) (kp:∀b o,s.heap.get? b=some o->h₁.get? b=some o) (hn:h₁.Ns C m) (hl:h₁.get? D=some {cls:=.type "list",data:=.seq #[] n₀}):
   qJ (zS X N' scope C s H fp pins) [] (Gy ix σ) (upd H D (.lst [])) {s with heap:=h₁,toks:=t'} where
 ok:=Mz S I hC hf hfo
 os:=rfl
 bare:=I.bare
 base:=Un.laid kp hD (I.hok.fresh hD)
 loc:=by
   refine⟨m,hn,λi x v e1 e2 e3=>?_⟩
   have hix:=S.ixs
   unfold Ke at hix
   rw[zam]at hix
   obtain⟨hlen,hall⟩:=hix
   have hlen':ix.length=N'.length:=by simpa using hlen
   have e1':N'[i]?=some x:=e1
   unfold Gy at e2
   rw[tH]at e2
   cases ho:ix[i]? with
   | none=>rw[ho]at e2;cases e2
   | some o=>
     rw[ho]at e2
     cases o with
     | none=>cases e2
     | some j=>
       have e2':(σ[j]?).join=some v:=tK.inj e2
       have hz:(ix.zip N')[i]?=some (some j,x):=by
         rw[List.getElem?_zip_eq_some]
         exact⟨ho,e1'⟩
       have hm:=zav.mp hall _ (tY hz)
       dsimp only at hm
       simp only[zam,beq_iff_eq,zcK]at hm
       obtain⟨⟨hN,hfr⟩,hk⟩:=hm
       have e2'':σ[j]?=some (some v):=by
         cases q:σ[j]? with
         | none=>rw[q]at e2';cases e2'
         | some z=>
           rw[q]at e2'
           have:z=some v:=e2'
           rw[this]
       obtain⟨mX,hnX,hlX⟩:=I.loc
       have hvis:Nz X.env.scope x:=by
         rcases hk with h | h
         . exact .inr (.inl h)
         . exact .inr (.inr h)
       obtain⟨u,ru,lu⟩:=hlX j x v hN e2'' hvis
       refine⟨u,ru,?_⟩
       rcases lu with ⟨hk',_⟩ | ⟨_,c,hc,hcell⟩
       . exfalso
         have hk'':X.env.scope.names.lookup x=some .local:=hk'
         rcases hk with h | h<;>rw[h]at hk''<;>cases hk''
       . right
         obtain⟨k',r1,r2⟩:=Z2 (scope:=scope) (env:=X.env) hfr
         refine⟨?_,?_⟩
         . rcases r2 with z | ⟨_,z⟩
           . right;rw[z]at r1;exact r1
           . left;rw[z]at r1;exact r1
         . obtain⟨c',hc'⟩:=ZE (env:=X.env) (cs:=[]) (.inl (mem_of_lookup hfr))
           have:=(S.clook I.ok hc').1
           rw[hc]at this
           cases this
           obtain⟨o,ho',hd⟩:=hcell
           exact⟨c,hc',o,kp _ _ ho',hd⟩
 cell:=λx c h=>by
   obtain⟨v,o,ho,hd⟩:=I.cell x c (S.clook I.ok h).1
   exact⟨v,o,kp _ _ ho,hd⟩
 free:=by
   show (upd H D _) C=none
   rw[qi (Ne.symm hDC)]
   exact I.hok.fresh hC
 freeC:=λx c h=>by
   have h1:=(S.clook I.ok h).1
   obtain⟨v,o,ho,hd⟩:=I.cell x c h1
   rw[qi (tM (tO (tG ho) hD))]
   exact(I.freeC x c h1).imp id λz=>⟨rfl,z.2⟩
 pin:=λp hp=>by
   have hp':p∈X.pn++pins:=by
     have:p∈(X.pn++pins)++[]:=hp
     simpa using this
   obtain⟨e,n,ne,nf,d⟩:=I.pin p hp'
   have hlt:=tG e
   refine⟨kp _ _ e,?_,tM (tO hlt hC),λhm=>?_,d⟩
   . rw[qi (tM (tO hlt hD))];exact n
   . rcases tR.mp (I.stkSub p.1 hm) with z | z
     . exact ne z
     . exact nf z
 hok:=I.hok.laid kp hD ⟨zah _,[],n₀,.nil,hl⟩
 len:=by
   have hix:=S.ixs
   unfold Ke at hix
   rw[zam]at hix
   have:ix.length=N'.length:=by simpa using hix.1
   show (Gy ix σ).length=N'.length
   unfold Gy
   rw[tj,this]
theorem wk {C:Addr} {fp:List Addr} {σ':St} {H':Hp} {s':Shared} {pl:List (Addr×Obj)} (I:qJ X pins σ H s) (hf:∀b∈fp,ZK X pins H b) (J:qJ (zS X N' scope C s H fp pins) pl σ' H' s'):qJ X pins σ H' s':=
 I.call' (ch:=fp) J.os J.base J.hok J.bare λb hb=>⟨(hf b hb).2.2.2.1,(hf b hb).2.1,(hf b hb).2.2.2.2.1,(hf b hb).2.2.2.2.2⟩
theorem wj {C:Addr} {H':Hp} {s₀ s':Shared} {h':Heap} (I₀:qJ X pins σ H s₀) (I:qJ X pins σ H' s') (hC:s₀.heap.objs.size<=C) (hn:H' C=none) (sb:Heap.SameBut C s'.heap h'):qJ X pins σ H' {s' with heap:=h'}:=by
 refine I.turned (it:=C) (t':=s'.toks) (λb o hb e=>(sb.2 b hb).trans e) hn (zbz (tO I₀.lt hC)) (.inr (tV I₀.sz hC)) (λx c e z=>?_) λp hp z=>?_
 . obtain⟨v,q⟩:=I₀.cell x c e
   exact absurd (tO q.lt (by rw[z];exact hC)) (zay _)
 . exact absurd (tO (tG (I₀.pin p hp).1) (by rw[z];exact hC)) (zay _)
end
def NA (X:Cx) (ifs:List Expr) (t:TT):Prop:=
 ∀(pins:List (Addr×Obj)) (s:Shared) (σ:St) (H:Hp) (Q:Bool->Hp->Prop),qJ X pins σ H s->t σ H Q->
   wpAny (model X.prog X.w) X.A (forIn ifs true λc r=>if r=true then do let ok <-isTrue c X.env (eval c X.env);pure (ForInStep.yield ok) else pure (ForInStep.yield r)) (TP X pins σ Q) X.xe s
@[irreducible] def wT (X:Cx) (ifs:List Expr) (t:TT):Prop:=NA X ifs t
theorem wT.of {X:Cx} {ifs:List Expr} {t:TT} (h:NA X ifs t):wT X ifs t:=by unfold wT;exact h
theorem wT.to {X:Cx} {ifs:List Expr} {t:TT} (h:wT X ifs t):NA X ifs t:=by unfold wT at h;exact h
def NH:TT:=λ_ H Q=>Q true H
theorem j9 {X:Cx}:wT X [] NH:=.of (by
 exact λ_ _ _ H _ I h=>wpAny_tests_nil ⟨H,I,h⟩)
theorem Qq {X:Cx} {c:Expr} {t:TT} (h:JT X c t):wT X [c] t:=.of (by
 have h:=h.to
 exact λpins s σ H Q I hw=>wpAny_tests_one (h pins s σ H Q I hw))
section
variable {prog:Program} {w:World} {A:Around} {R:Result->Shared->Prop} {s:Shared}
theorem Wx {elt target iter:Expr} {ifs:List Expr} {scope:Scope} {pos:Pos} {it acc:Value} {env:Env} (I:Nat->Shared->Prop)
   (turn:∀n s,I n s->wpAny (model prog w) A (pyNext it) (λr s₁=>match r with
     | none=>R (.ok .next) s₁
     | some v=>wpAny (model prog w) A (letOwnedTupleGo target it v) (λ_ s₁'=>wpAny (model prog w) A (assign target env v) (λ_ s₂=>
         wpAny (model prog w) A (forIn ifs true λc r=>if r=true then do let ok <-isTrue c env (eval c env);pure (ForInStep.yield ok) else pure (ForInStep.yield r)) (λok s₃=>
           if ok=true then wpAny (model prog w) A (eval elt env) (λx s₄=>
             wpAny (model prog w) A (call (.builtin "list.append") [acc,x]) (λ_ s₅=>∃m,m < n/\I m s₅) (λ_ _=>False) s₄) (λ_ _=>False) s₃
           else ∃m,m < n/\I m s₃) (λ_ _=>False) s₂) (λ_ _=>False) s₁') (λ_ _=>False) s₁) (λ_ _=>False) s)
   (n:Nat) (h:I n s):
   codeAny (model prog w) A (.compLoop (.ListComp elt [⟨target,iter,ifs,0⟩] scope pos) 0 it acc env) R s:=by
 refine codeAny_loop rfl I (λn s hI=>?_) n h
 show wpAny _ A ((compTurn (.ListComp elt [⟨target,iter,ifs,0⟩] scope pos) 0 it acc env).onRaise (λx=>do noteFrame x env;theTreesLotGoes x)) _ _ s
 refine wpAny_noted ?_
 rw[compTurn_list]
 refine wpAny_bind (wpAny_standAt (wpAny_bind (wpAny_mono (turn n s hI) (λr s₁ h₁=>?_) λ_ _ h'=>h'.elim)))
 cases r with
 | none=>exact wpAny_pure h₁
 | some v=>
   refine wpAny_bind (wpAny_mono h₁ (λ_ s₁' h₁'=>?_) λ_ _ h'=>h'.elim)
   refine wpAny_bind (wpAny_mono h₁' (λ_ s₂ h₂=>wpAny_bind (wpAny_mono h₂ (λok s₃ h₃=>?_) λ_ _ h'=>h'.elim)) λ_ _ h'=>h'.elim)
   cases ok with
   | false=>exact wpAny_pure ⟨rfl,h₃⟩
   | true=>
     exact wpAny_bind (wpAny_bind (wpAny_mono h₃ (λx s₄ h₄=>wpAny_bind (wpAny_mono h₄ (λ_ s₅ h₅=>wpAny_pure (wpAny_pure ⟨rfl,h₅⟩)) λ_ _ h'=>h'.elim)) λ_ _ h'=>h'.elim))
end
def ZO (J:It) (g:TG) (tt:TT) (te:TE) (D:Addr) (σ:St) (H:Hp) (Q:Hp->Prop):Prop:=
 ∃W:Nat->Nat->St->Hp->Prop,(∃m,W 0 m σ (upd H D (.lst [])))/\∀i m σ' H',W i m σ' H'->
   (J.stop i H'/\Q H')\/(J.go i H'/\∃N:St->Hp->Prop,(∀σ2 H2,N σ2 H2->∃m',m' < m/\W (i+1) m' σ2 H2)/\∀x H2,J.yld i H' x H2->g x σ' H2 λσ2 H3=>tt σ2 H3 λb H4=>
     if b=true then te σ2 H4 λv H5=>∃ys,H5 D=some (.lst ys)/\ys.length < sizeLine/\N σ2 (upd H5 D (.lst (ys++[v]))) else N σ2 H4)
def MW (wi:TI) (ix:List (Option Nat)) (g:TG) (tt:TT) (te:TE):TE:=λσ H Q=>wi σ H λJ H1=>∀D,H1 D=none->ZO J g tt te D (Gy ix σ) H1 λH2=>Q (.ref D) H2
section
variable {X:Cx} {N':List Str} {ix:List (Option Nat)} {scope:Scope}
theorem XQ {elt iter target:Expr} {ifs:List Expr} {pos:Pos} {g:TG} {tt:TT} {te:TE} {pins:List (Addr×Obj)} {σ:St} {H:Hp} {s:Shared} {it:Addr} {fp:List Addr} {tn:Nat->Heap->Prop} {J:It} {E:Value->Shared->Prop}
   {RR:Value->Addr->Result->Shared->Prop} {Q:Addr->Hp->Prop}
   (hc:X.calm=true) (S:Qk X N' ix scope) (I:qJ X pins σ H s) (T:WA X.prog X.w X.K target J fp it tn) (st:tn 0 s.heap) (hf:∀b∈fp,ZK X pins H b)
   (hb:∀C s₂ H₂ fp pins,PG (zS X N' scope C s₂ H₂ fp pins) target g/\NA (zS X N' scope C s₂ H₂ fp pins) ifs tt/\PE (zS X N' scope C s₂ H₂ fp pins) elt te)
   (h:∀D,H D=none->ZO J g tt te D (Gy ix σ) H (Q D))
   (fin:∀(D C:Addr) (H':Hp) (s':Shared) (m:Str->Option Value),s.heap.objs.size<=C->H' C=none->s'.heap.Ns C m->qJ X pins σ H' s'->Q D H'->RR (.ref D) C (.ok .next) s'):
   wpAny (model X.prog X.w) X.A (newList []) (λacc s₃=>wpAny (model X.prog X.w) X.A (newFunctionEnv scope X.env.globals (jR X.env scope.names []) [] X.env.qual none .none (some X.env)) (λcenv s₄=>
     codeAny (model X.prog X.w) X.A (.compStart (.ListComp elt [⟨target,iter,ifs,0⟩] scope pos) 0 (.ref it) acc {cenv with scope:=relabel scope X.env}) (RR acc cenv.locals) s₄) E s₃) E s:=by
 have hfo:∀b∈fp,b < s.heap.objs.size:=λb hb=>by
   obtain⟨o,e,_⟩:=T.obj _ _ st b hb
   exact tG e
 refine wpAny_newObj_type (wpAny_newFunctionEnv S.cellH (by intro y hy;simp at hy) (λh₁ hns₁ hsb₁=>?_) S.kind)
 dsimp only at hns₁ hsb₁ ⊢
 generalize hH2:s.heap.push {cls:=.type "list",dict:=none,data:=.seq ([]:List Value).toArray}=H2 at hns₁ hsb₁ ⊢
 have hC:H2.objs.size=s.heap.objs.size+1:=by rw[<-hH2,zaX]
 have hDC:s.heap.objs.size≠H2.objs.size:=by rw[hC];exact tM (zaI _)
 have hCle:s.heap.objs.size<=H2.objs.size:=by rw[hC];exact zcU _
 have below:∀b,b < s.heap.objs.size->b≠H2.objs.size:=λb hb=>by rw[hC];exact tM (zbu hb)
 have old:∀b o,s.heap.get? b=some o->h₁.get? b=some o:=λb o e=>hsb₁.extBut b o (below b (tG e)) (tq _ (hH2▸tq _ e))
 have hacc:h₁.get? s.heap.objs.size=some {cls:=.type "list",data:=.seq #[] 0}:=hsb₁.extBut _ _ hDC (tq _ (hH2▸tJ _ rfl))
 obtain⟨W,⟨m0,w0⟩,turn⟩:=h s.heap.objs.size (I.hok.fresh (tu _))
 have I1:qJ (zS X N' scope H2.objs.size s H fp pins) [] (Gy ix σ) (upd H s.heap.objs.size (.lst [])) {s with heap:=h₁,toks:=s.toks+([]:List (Str×Value)).length}:=
   kG S I hf hfo (tu _) hCle hDC old hns₁ hacc
 have st₁:tn 0 h₁:=T.keep _ _ _ st λb hb o e=>old b o e
 have fpn:∀b∈fp,(upd H s.heap.objs.size (.lst [])) b=none:=λb hb=>by
   rw[qi (tM (hfo b hb))]
   exact(hf b hb).1
 obtain⟨hg,htt,hte⟩:=hb H2.objs.size s H fp pins
 have okY:=I1.ok
 have stat:∀{H':Hp},(∀b∈fp,H' b=none)->∀b∈fp,ZK (zS X N' scope H2.objs.size s H fp pins) [] H' b:=λ{H'} hn b hb=>
   ⟨hn b hb,(okY.exf b hb).1,okY.exfs b hb,.inl hb,(okY.exf b hb).2,λp hp=>by
     have hp':p∈X.pn++pins:=by
       have:p∈(X.pn++pins)++[]:=hp
       simpa using this
     exact(hf b hb).2.2.2.2.2 p hp'⟩
 have loop:codeAny (model X.prog X.w) X.A (.compLoop (.ListComp elt [⟨target,iter,ifs,0⟩] scope pos) 0 (.ref it) (.ref s.heap.objs.size) (compEnvC scope (jR X.env scope.names []) H2.objs.size X.env))
     (RR (.ref s.heap.objs.size) H2.objs.size) {s with heap:=h₁,toks:=s.toks+([]:List (Str×Value)).length}:=by
   refine Wx (λn s'=>∃i σ' H',qJ (zS X N' scope H2.objs.size s H fp pins) [] σ' H' s'/\tn i s'.heap/\(∀b∈fp,H' b=none)/\W i n σ' H') ?_ m0 ⟨0,_,_,I1,st₁,fpn,w0⟩
   rintro n s3 ⟨i,σ3,H3,I3,st3,fr3,w3⟩
   rcases turn i n σ3 H3 w3 with ⟨stop,qn⟩ | ⟨go,NN,hNN,step⟩
   . refine jB (T.done (zS X N' scope H2.objs.size s H fp pins) rfl rfl rfl hc i [] s3 σ3 H3 _ I3 (stat fr3) st3 stop) λr s4 ⟨hr,I4⟩=>?_
     subst hr
     obtain⟨mm,hnm,_⟩:=I4.loc
     exact fin _ _ H3 s4 mm hCle I4.free hnm (wk I hf I4) qn
   . refine jB (T.item (zS X N' scope H2.objs.size s H fp pins) rfl rfl rfl hc i [] s3 σ3 H3 _ I3 (stat fr3) st3 go) λr s4 ⟨u,hr,h4⟩=>?_
     subst hr
     refine jB h4 λ_ s5 ⟨x,H5,I5,r5,y5,st5,fr5⟩=>?_
     have I5':=I5.pinned (stat fr5) (T.obj _ _ st5)
     refine jB (hg _ s5 σ3 H5 x u _ I5' r5 (step x H5 y5)) λ_ s6 ⟨σ6,H6,I6,q6⟩=>?_
     refine jB (htt _ s6 σ6 H6 _ I6 q6) λok s7 ⟨H7,I7,q7⟩=>?_
     have again:∀{σ8:St} {H8:Hp} {s8:Shared},qJ (zS X N' scope H2.objs.size s H fp pins) ([]++YE fp s5.heap) σ8 H8 s8->NN σ8 H8->
         ∃m,m < n/\∃i σ' H',qJ (zS X N' scope H2.objs.size s H fp pins) [] σ' H' s8/\tn i s8.heap/\(∀b∈fp,H' b=none)/\W i m σ' H':=λ{σ8 H8 s8} I8 n8=>by
       obtain⟨m',hm,w8⟩:=hNN σ8 H8 n8
       refine⟨m',hm,i+1,σ8,H8,I8.unpinned,T.keep _ _ _ st5 λb hb o e=>(I8.pin (b,o) (zak _ (zak _ (Js hb e)))).1,λb hb=>?_,w8⟩
       obtain⟨o,e,d⟩:=T.obj _ _ st5 b hb
       exact(I8.pin (b,o) (zak _ (zak _ (Js hb e)))).2.1
     cases ok with
     | false=>
       rw[if_neg tI]at q7 ⊢
       exact again I7 q7
     | true=>
       rw[if_pos rfl]at q7 ⊢
       refine jB (hte _ s7 σ6 H7 _ I7 q7) λv s8 ⟨y,H8,I8,r8,q8⟩=>?_
       obtain⟨ys,hy,hz,q8⟩:=q8
       refine jB (jZ (X:=zS X N' scope H2.objs.size s H fp pins) _ s8 σ6 H8 (.ref s.heap.objs.size) [y] (.ref s.heap.objs.size) [v] (λ_ H9=>NN σ6 H9) I8 rfl (.cons r8 .nil) ⟨_,ys,y,rfl,rfl,hy,hz,q8⟩) λ_ s9 ⟨_,H9,I9,_,q9⟩=>?_
       exact again I9 q9
 exact codeAny_compStart_list loop (T.self X.A 0 _ _ _ st₁ loop)
theorem N4 {elt iter target:Expr} {ifs:List Expr} {pos:Pos} {wi:TI} {g:TG} {tt:TT} {te:TE} (hc:X.calm=true) (S:Qk X N' ix scope) (hi:PI X target iter wi)
   (hb:∀C s₂ H₂ fp pins,PG (zS X N' scope C s₂ H₂ fp pins) target g/\NA (zS X N' scope C s₂ H₂ fp pins) ifs tt/\PE (zS X N' scope C s₂ H₂ fp pins) elt te)
   (hs:∀x,foldedSetIterable iter X.env x=pure x:=by intro _;rfl):PE X (.ListComp elt [⟨target,iter,ifs,0⟩] scope pos) (MW wi ix g tt te):=by
 intro pins s σ H Q I h
 rw[eval_ListComp]
 refine wpAny_comprehension_free (use:=none) rfl hs (Zw (S.freeH I.ok)) S.kind S.locH ?_
 refine jB (hi pins s σ H _ I h) λxv s1 h1=>jB h1 λitv s2 h2=>?_
 obtain⟨it,fp,tn,J,H2,e,I2,T,st2,f2,q2⟩:=h2
 subst e
 refine XQ (RR:=λacc C=>compPost (model X.prog X.w) X.A X.xe none (EP X pins σ Q) acc C) (Q:=λD H'=>Q (.ref D) H') hc S I2 T st2 f2 hb q2 ?_
 intro D C H' s' m hC hn hm I' q
 exact⟨m,hm,λh' sb=>⟨.ref D,H',wj I2 I' hC hn sb,rfl,q⟩⟩
theorem Qt {elt iter target:Expr} {ifs:List Expr} {pos:Pos} {wi:TI} {g:TG} {tt:TT} {te:TE} (hc:X.calm=true) (S:Qk X N' ix scope) (hi:JI X target iter wi) (hb:∀C s₂ H₂ fp pins,JG (zS X N' scope C s₂ H₂ fp pins) target g/\wT (zS X N' scope C s₂ H₂ fp pins) ifs tt/\JE (zS X N' scope C s₂ H₂ fp pins) elt te) (hs:∀x,foldedSetIterable iter X.env x=pure x:=by intro _;rfl):JE X (.ListComp elt [⟨target,iter,ifs,0⟩] scope pos) (MW wi ix g tt te):=.of (N4 hc S hi.to (λC s₂ H₂ fp pins=>⟨(hb C s₂ H₂ fp pins).1.to,(hb C s₂ H₂ fp pins).2.1.to,(hb C s₂ H₂ fp pins).2.2.to⟩) hs)
theorem yY {i:Nat} {x:Str} {elt iter target:Expr} {ifs:List Expr} {pos spos px:Pos} {wi:TI} {g:TG} {tt:TT} {te:TE} (hN:X.N.Nodup) (hxi:X.N[i]?=some x) (hx:Ni X.env.scope x) (hc:X.calm=true) (S:Qk X N' ix scope) (hi:PI X target iter wi)
   (hb:∀C s₂ H₂ fp pins,PG (zS X N' scope C s₂ H₂ fp pins) target g/\NA (zS X N' scope C s₂ H₂ fp pins) ifs tt/\PE (zS X N' scope C s₂ H₂ fp pins) elt te)
   (hsw:swapsWith (.ListComp elt [⟨target,iter,ifs,0⟩] scope pos) (some (.Name x px)) spos.line X.env=pure true:=by rfl)
   (hs:∀x,foldedSetIterable iter X.env x=pure x:=by intro _;rfl) (hf:X.fn x=true\/X.env.scope.names.lookup x=some .local:=by first | exact .inl rfl | exact .inr rfl | assumption):
   PS X (.Assign [.Name x px] (.ListComp elt [⟨target,iter,ifs,0⟩] scope pos) spos) (vD (MW wi ix g tt te) (Qu i)):=by
 intro pins s σ H D I h
 rw[exec_Assign_Name_used _ _ _ _ hsw]
 refine wpAny_bind (wpAny_standAt (wpAny_bind ?_))
 show wpAny _ X.A (do let _ <-comprehension (.ListComp elt [⟨target,iter,ifs,0⟩] scope pos) scope X.env _ (newList []) false (eval iter X.env) (some (assign (.Name x px) X.env))) _ _ s
 refine wpAny_bind (jB (wpAny_comprehension_free (use:=some (assign (.Name x px) X.env)) (Q:=λ_ s'=>SP X pins D .next s') rfl hs (Zw (S.freeH I.ok)) S.kind S.locH ?_) λ_ s' hq=>wpAny_pure (wpAny_pure hq))
 refine jB (hi pins s σ H _ I h) λxv s1 h1=>jB h1 λitv s2 h2=>?_
 obtain⟨it,fp,tn,J,H2,e,I2,T,st2,f2,q2⟩:=h2
 subst e
 refine XQ (RR:=λacc C=>compPost (model X.prog X.w) X.A X.xe (some (assign (.Name x px) X.env)) (λ_ s'=>SP X pins D .next s') acc C) (Q:=λD' H'=>Qu i (.ref D') σ H' D.nx) hc S I2 T st2 f2 hb q2 ?_
 intro D' C H' s' m hC hn hm I' q
 show wpAny _ X.A (assign (.Name x px) X.env (.ref D')) _ _ _
 refine wpAny_assign_Name (Xm I' hN hxi hx (v:=.ref D') rfl (λs'' I'' hch=>?_) hf)
 obtain⟨a,sb,ha⟩:=hch
 have hCa:C≠a:=by
   rcases ha with z | z
   . rw[z];exact zbz (tO I2.lt hC)
   . intro e
     obtain⟨v,qc⟩:=I2.cell x a z
     exact absurd (tO qc.lt (by rw[<-e];exact hC)) (zay _)
 refine⟨m,hm.sameBut sb hCa,λh' sb'=>?_⟩
 refine⟨_,H',?_,q⟩
 refine I''.turned (it:=C) (t':=s''.toks) (λb o hb e=>(sb'.2 b hb).trans e) hn (zbz (tO I2.lt hC)) (.inr (tV I2.sz hC)) (λy c e z=>?_) λp hp z=>?_
 . obtain⟨v,qc⟩:=I2.cell y c e
   exact absurd (tO qc.lt (by rw[z];exact hC)) (zay _)
 . exact absurd (tO (tG (I2.pin p hp).1) (by rw[z];exact hC)) (zay _)
theorem Jm {i:Nat} {x:Str} {elt iter target:Expr} {ifs:List Expr} {pos spos px:Pos} {wi:TI} {g:TG} {tt:TT} {te:TE} (hN:X.N.Nodup) (hxi:X.N[i]?=some x) (hx:Ni X.env.scope x) (hc:X.calm=true) (S:Qk X N' ix scope) (hi:JI X target iter wi) (hb:∀C s₂ H₂ fp pins,JG (zS X N' scope C s₂ H₂ fp pins) target g/\wT (zS X N' scope C s₂ H₂ fp pins) ifs tt/\JE (zS X N' scope C s₂ H₂ fp pins) elt te) (hsw:swapsWith (.ListComp elt [⟨target,iter,ifs,0⟩] scope pos) (some (.Name x px)) spos.line X.env=pure true:=by rfl) (hs:∀x,foldedSetIterable iter X.env x=pure x:=by intro _;rfl) (hf:X.fn x=true\/X.env.scope.names.lookup x=some .local:=by first | exact .inl rfl | exact .inr rfl | assumption):JS X (.Assign [.Name x px] (.ListComp elt [⟨target,iter,ifs,0⟩] scope pos) spos) (vD (MW wi ix g tt te) (Qu i)):=.of (yY hN hxi hx hc S hi.to (λC s₂ H₂ fp pins=>⟨(hb C s₂ H₂ fp pins).1.to,(hb C s₂ H₂ fp pins).2.1.to,(hb C s₂ H₂ fp pins).2.2.to⟩) hsw hs hf)
end
def Its (x:Str):It:=⟨λi _=>i < x.cps.size,λi H v H'=>H'=H/\∃c,x.cps[i]?=some c/\v=.str ⟨#[c]⟩,λi _=>i=x.cps.size⟩
theorem WK {P:Program} {w:World} {K:PySem.W.Frag} {tg:Expr} (it:Addr) (x:Str) (t:Tok) (ty:String)
   (hn:["enumerate","zip","dict_itemiterator","dict_reverseitemiterator","odict_iterator","itertools.zip_longest","itertools.pairwise"].contains ty=false)
   (hW:∀A:Around,A.handled=none->Walks P w A it [it] [it] x.cps.size (SignAt x) (λi h=>h.IsStrIter it ty x t i))
   (hself:∀(A:Around) (i:Nat) (s:Shared) (Q:Value->Shared->Prop) (E:Value->Shared->Prop),s.heap.IsStrIter it ty x t i->Q (.ref it) s->wpAny (model P w) A (pyIter (.ref it)) Q E s):
   WA P w K tg (Its x) [it] it (λi h=>h.IsStrIter it ty x t i) where
 mem:=by simp
 obj:=λi h st b hb=>by
   have e:b=it:=by simpa using hb
   subst e
   obtain⟨o,e,c,d⟩:=st
   exact⟨o,e,λv z=>by rw[d]at z;cases z⟩
 keep:=λi h h' st k=>let ⟨o,e,r⟩:=st;⟨o,k it (by simp) o e,r⟩
 item:=by
   intro X hP hw hK hc i pins s σ H E I hf st hg
   subst hP hw hK
   obtain⟨f0,f1,f2,f3,f4,f5⟩:=hf it (by simp)
   refine(hW X.A (I.ok.hd hc)).item i s _ _ hg st λv h' tk hv st' kk=>?_
   obtain⟨c,u,hcu,rfl⟩:=hv
   have I1:qJ X pins σ H {s with heap:=h',toks:=tk}:=I.turned (λb o hb e=>kk b o (by simpa using hb) e) f0 f1 f3 f4 f5
   obtain⟨o,e,c1,d1⟩:=id st'
   exact⟨_,rfl,XF (s:={s with heap:=h',toks:=tk}) e c1 d1 hn ⟨.str ⟨#[c]⟩,H,I1,⟨u,rfl⟩,⟨rfl,c,hcu,rfl⟩,st',λb hb=>(hf b hb).1⟩⟩
 done:=by
   intro X hP hw hK hc i pins s σ H E I hf st hg
   subst hP hw hK
   obtain⟨f0,f1,f2,f3,f4,f5⟩:=hf it (by simp)
   have hi:i=x.cps.size:=hg
   subst hi
   exact(hW X.A (I.ok.hd hc)).done s _ _ st λh' tk kk=>⟨rfl,I.turned (λb o hb e=>kk b o (by simpa using hb) e) f0 f1 f3 f4 f5⟩
 self:=hself
def qaF (tl:TE):TI:=λσ H R=>tl σ H λx H1=>∃y,x=.str y/\R (Its y) H1
theorem RU {X:Cx} {tg l:Expr} {tl:TE} (hl:JE X l tl):JI X tg l (qaF tl):=.of (by
 have hl:=hl.to
 intro pins s σ H R I h
 refine jB (hl pins s σ H _ I h) λv s1 ⟨x,H1,I1,r1,q1⟩=>?_
 obtain⟨y,e,q⟩:=q1
 subst e
 obtain⟨t,rfl⟩:=r1
 have fp:∀b∈[s1.heap.objs.size],ZK X pins H1 b:=λb hb=>by
   have e:b=s1.heap.objs.size:=by simpa using hb
   subst e
   exact I1.fpOk (tu _) (I1.hok.fresh (tu _))
 cases ha:y.cps.all (· < 128)
 . refine wpAny_pyIter_wide ha ?_
   exact⟨s1.heap.objs.size,[s1.heap.objs.size],_,_,H1,rfl,I1.kept (t':=s1.toks) λb o e=>tq _ e,
     WK _ y t "str_iterator" (by decide) (λA hA=>Walks.strWide hA _ y t) (λA i s Q E st q=>wpAny_pyIter_striter_wide st q),⟨_,tJ _ rfl,rfl,rfl⟩,fp,q⟩
 . refine wpAny_pyIter_ascii ha ?_
   exact⟨s1.heap.objs.size,[s1.heap.objs.size],_,_,H1,rfl,I1.kept (t':=s1.toks) λb o e=>tq _ e,
     WK _ y t "str_ascii_iterator" (by decide) (λA hA=>Walks.strAscii hA _ y t) (λA i s Q E st q=>wpAny_pyIter_striter_ascii st q),⟨_,tJ _ rfl,rfl,rfl⟩,fp,q⟩)
section
variable {K:PySem.W.Frag} {g:TG} {tt:TT} {te:TE} {D a:Addr} {σ:St} {H:Hp} {Q:Hp->Prop}
def XW (tt:TT) (te:TE) (D:Addr) (N:St->Hp->Prop):St->Hp->Prop:=λσ2 H3=>tt σ2 H3 λb H4=>
 if b=true then te σ2 H4 λv H5=>∃ys,H5 D=some (.lst ys)/\ys.length < sizeLine/\N σ2 (upd H5 D (.lst (ys++[v]))) else N σ2 H4
theorem Y5 {J:It} {n:Nat} (Pv:Nat->St->Hp->Prop) (h0:Pv 0 σ (upd H D (.lst [])))
   (go:∀i σ' H',i < n->Pv i σ' H'->J.go i H'/\∀x H2,J.yld i H' x H2->g x σ' H2 (XW tt te D (Pv (i+1)))) (stop:∀σ' H',Pv n σ' H'->J.stop n H'/\Q H'):ZO J g tt te D σ H Q:=by
 refine⟨λi m σ' H'=>m=n - i/\i<=n/\Pv i σ' H',⟨n,by simp,zah _,h0⟩,?_⟩
 rintro i m σ' H' ⟨rfl,hi,p⟩
 by_cases hlt:i < n
 . obtain⟨h1,h2⟩:=go i σ' H' hlt p
   exact .inr ⟨h1,Pv (i+1),λσ2 H2 p2=>⟨n - (i+1),by omega,rfl,hlt,p2⟩,h2⟩
 . have e:i=n:=by omega
   subst e
   exact .inl (stop σ' H' p)
theorem Zk {lo:Int} {n:Nat} (Pv:Nat->St->Hp->Prop) (h0:Pv 0 σ (upd H D (.lst [])))
   (hs:∀i σ' H',i < n->Pv i σ' H'->g (.int (lo+i)) σ' H' (XW tt te D (Pv (i+1)))) (hd:∀σ' H',Pv n σ' H'->Q H'):ZO (Gn lo n) g tt te D σ H Q:=
 Y5 (n:=n) Pv h0 (λi σ' H' hi p=>⟨hi,λx H2 y=>by
   obtain⟨e,y⟩:=y
   subst e y
   exact hs i σ' H2 hi p⟩) λσ' H' p=>⟨tu _,hd σ' H' p⟩
theorem QX {xs:List V} (Pv:Nat->St->Hp->Prop) (h0:Pv 0 σ (upd H D (.lst []))) (hl:∀i σ' H',i<=xs.length->Pv i σ' H'->SqL K H' a xs)
   (hs:∀i x σ' H',xs[i]?=some x->Pv i σ' H'->g x σ' H' (XW tt te D (Pv (i+1)))) (hd:∀σ' H',Pv xs.length σ' H'->Q H'):ZO (Nk K a) g tt te D σ H Q:=
 Y5 (n:=xs.length) Pv h0 (λi σ' H' hi p=>⟨⟨xs,xs[i],hl i σ' H' (zab hi) p,by simp [hi]⟩,λx H2 y=>by
   obtain⟨e,y⟩:=y
   subst e
   exact hs i x σ' _ (y xs (hl i σ' _ (zab hi) p)) p⟩) λσ' H' p=>⟨⟨xs,hl _ σ' H' (tu _) p,tu _⟩,hd σ' H' p⟩
theorem vo {xs:List V} (Pv:Nat->St->Hp->Prop) (h0:Pv 0 σ (upd H D (.lst []))) (hl:∀i σ' H',i<=xs.length->Pv i σ' H'->SqT K H' a xs)
   (hs:∀i x σ' H',xs[i]?=some x->Pv i σ' H'->g x σ' H' (XW tt te D (Pv (i+1)))) (hd:∀σ' H',Pv xs.length σ' H'->Q H'):ZO (Nj K a) g tt te D σ H Q:=
 Y5 (n:=xs.length) Pv h0 (λi σ' H' hi p=>⟨⟨xs,xs[i],hl i σ' H' (zab hi) p,by simp [hi]⟩,λx H2 y=>by
   obtain⟨e,y⟩:=y
   subst e
   exact hs i x σ' _ (y xs (hl i σ' _ (zab hi) p)) p⟩) λσ' H' p=>⟨⟨xs,hl _ σ' H' (tu _) p,tu _⟩,hd σ' H' p⟩
theorem Kv {x:Str} (Pv:Nat->St->Hp->Prop) (h0:Pv 0 σ (upd H D (.lst [])))
   (hs:∀i c σ' H',x.cps[i]?=some c->Pv i σ' H'->g (.str ⟨#[c]⟩) σ' H' (XW tt te D (Pv (i+1)))) (hd:∀σ' H',Pv x.cps.size σ' H'->Q H'):ZO (Its x) g tt te D σ H Q:=
 Y5 (n:=x.cps.size) Pv h0 (λi σ' H' hi p=>⟨hi,λv H2 y=>by
   obtain⟨e,c,hc,rfl⟩:=y
   subst e
   exact hs i c σ' _ hc p⟩) λσ' H' p=>⟨rfl,hd σ' H' p⟩
end
section
variable {X:Cx}
theorem Y8:∀(bs:List Bool),(tU bs.length).all (λi=>bs.getD i false)=bs.all id:=by
 intro bs
 induction bs with
 | nil=>rfl
 | cons b bs ih=>
   rw[zac,zcD,zcu,zbq,zcu]
   have:((λi=>(b::bs).getD i false) ∘ zcx)=λi=>bs.getD i false:=by
     funext i
     simp [Function.comp]
   rw[this,ih]
   simp
theorem QO (hc:X.calm=true):js X (.builtin "all") (λxs H Q=>∃(p:Addr) (bs:List Bool),xs=[.ref p]/\SqL X.K H p (bs.map V.bl)/\Q (.bl (bs.all id)) H):=by
 intro pins s σ H xs us Q I r h
 obtain⟨p,bs,rfl,hq,q⟩:=h
 obtain⟨u,rfl,rx⟩:=j4 r
 cases rx
 obtain⟨its,rv,pl,hz⟩:=I.list hq
 have hlt:p < s.heap.objs.size:=by
   obtain⟨o,n,e,_⟩:=pl
   exact tG e
 have hn:its.toArray.size=bs.length:=by
   have:=rv.length
   rw[tj]at this
   simp only[tW]
   omega
 have hh:X.A.in1.handled=none:=I.ok.hd hc
 refine call_all_walk (wpAny_pyIter_list pl.isList ?_)
 refine⟨s.heap.objs.size,[s.heap.objs.size,p],[s.heap.objs.size],its.toArray.size,λi v=>its.toArray[i]?=some v,_,λi=>bs.getD i false,rfl,Walks.list hh s.heap.objs.size p (tM hlt) its.toArray,
   ⟨⟨_,tJ _ rfl,rfl,rfl⟩,pl.isList.at λo e=>tq _ e⟩,?_,λh' tk hk=>?_⟩
 . intro i v s' Q' E' hP hQ
   have hi:its[i]?=some v:=by simpa using hP
   have hb:∃b,bs[i]?=some b/\v=Value.bool b:=by
     cases e:bs[i]? with
     | none=>
       exfalso
       have h1:(bs.map V.bl)[i]?=none:=by rw[tH,e];rfl
       rw[qP.none_of rv h1]at hi
       cases hi
     | some b=>
       have h1:(bs.map V.bl)[i]?=some (V.bl b):=by rw[tH,e];rfl
       obtain⟨u,hu,ru⟩:=rv.get h1
       rw[hi]at hu
       cases hu
       exact⟨b,rfl,ru⟩
   obtain⟨b,e,rfl⟩:=hb
   refine wpAny_truthy_bool ?_
   have e2:bs.getD i false=b:=by rw[zap,e];rfl
   have hQ':Q' (bs.getD i false) s':=hQ
   rw[e2]at hQ'
   exact hQ'
 . rw[hn,Y8]
   refine⟨.bl (bs.all id),H,?_,rfl,q⟩
   exact I.kept (h':=h') (t':=tk) λb o e=>hk b o (by
     intro z
     have z':b=s.heap.objs.size:=by simpa using z
     exact absurd (tG e) (by rw[z'];exact zay _)) (tq _ e)
theorem VC {ys:List Str}:∀{us:List Value},qP (ys.map V.str) us->StrsAre us ys:=by
 induction ys with
 | nil=>
   intro us r
   rw[zce]at r
   cases r
   exact .nil
 | cons y ys ih=>
   intro us r
   rw[tP]at r
   cases r with
   | cons a b=>
     obtain⟨t,rfl⟩:=a
     exact .cons _ _ (ih b)
def N1 (K:PySem.W.Frag):V->List V->Hp->VK->Prop:=λx xs H Q=>∃(sep:Str) (p:Addr) (ys:List Str),x=.str sep/\xs=[.ref p]/\SqL K H p (ys.map V.str)/\(ys.map (·.length)).sum+ys.length*sep.length<=16777216/\Q (.str (Txt.join sep ys)) H
theorem uZ:MN X "str.join" (N1 X.K):=by
 intro pins s σ H x xs v us Q I rx rv h
 obtain⟨sep,p,ys,rfl,rfl,hq,hz,q⟩:=h
 obtain⟨t,rfl⟩:=rx
 obtain⟨u,rfl,ru⟩:=j4 rv
 cases ru
 obtain⟨its,r',pl,_⟩:=I.list hq
 exact join_list pl.isList (by simpa using VC r') hz λt' k=>⟨.str _,H,I.tok k,⟨t',rfl⟩,q⟩
def MB:V->Value
 | .ty n=>.type n
 | .ref a=>.ref a
 | _=>.none
def Ml:V->Bool
 | .ty _=>true
 | .ref _=>true
 | _=>false
def N2 (K:PySem.W.Frag):List V->Hp->VK->Prop:=λxs H Q=>∃x c t b,xs=[x,c]/\Ml c=true/\zI K H x t/\zao K t (MB c)=some b/\Q (.bl b) H
theorem Q7:js X (.builtin "isinstance") (N2 X.K):=by
 intro pins s σ H xs us Q I r h
 obtain⟨x,c,t,b,rfl,hc,ty,e,q⟩:=h
 obtain⟨u,w',rfl,ru,rw'⟩:=ZM r
 have ew:w'=MB c:=by
   cases c with
   | ty n=>exact rw'
   | ref a=>exact rw'
   | _=>cases hc
 subst ew
 exact Jn I ru ty e λtk=>⟨.bl b,H,I.tok tk,rfl,q⟩
end
section
variable {prog:Program} {w:World} {A:Around} {E:Value->Shared->Prop} {h:Heap} {g:Array GenState} {d:Drawn} {t:Nat} {os:OsState}
variable {nm q:Str} {C N fI:Addr} {bs bm bmB bmN:List Value} {hdct:Bool} {sn:List Str} {sub:List Value} {ab:Bool} {col:Option Bool} {dd:Option Addr} {k0 k1 k2 k3 k5:Option Value} {B Bn newId nid initId inN:String} {rest:List Value} {oI:Obj}
end
open PySem PySem.W PyProof.Rows Builtin Builtin.ObjectAttr
structure ECls (K:Frag) (C:Addr) (bm:List Value):Prop where
 ga:findIn K (.ref C) "__getattribute__"=some (some (.builtin "BaseException.__getattribute__"))
 gt:findIn K (.ref C) "__getattr__"=some none
 sa:findIn K (.ref C) "__setattr__"=some (some (.builtin "object.__setattr__"))
 hd:hasDictIn K C=true
 mr:∃cd,clsIn K C=some cd/\cd.mro=.ref C::bm
 mb:mroIn K C (.type "BaseException")=some true
 mo:mroIn K C (.type "object")=some true
 cl:findIn K (.ref C) "__class__"=some (some (.builtin "object.__class__"))
section
variable {prog:Program} {w:World} {A:Around} {E:Value->Shared->Prop} {s:Shared} {K:Frag} {x C:Addr} {ox:Obj} {od:Option Obj} {bm:List Value} {name:Str} {v:Value}
end
open PySem PySem.W PyProof.Rows Builtin Builtin.ObjectAttr
section
variable {K:Frag} {x C:Addr} {ox odd:Obj} {bm:List Value}
end
def Mg:List Value:=[.type "ValueError",.type "Exception",.type "BaseException",.type "object"]
structure EMk (K:PySem.W.Frag) (C f:Addr) (bm:List Value):Prop where
 obj:∃nm q N bs hdct sn sub ab col dd k0 k1 k2 k3 k5,K.lookup C=some (excClassObj nm q C N bs bm hdct sn sub ab col dd k0 k1 k2 k3 k5 "ValueError.__new__")
 tail:∀h:Heap,K.In h->OwnTail h Mg bm
 init:zan K (.ref C) "__init__"=some (some (.ref f))
 fn:zbB K (.ref f)=true
 kp:zaQ K (.ref C)=true
section
variable {P:Program} {w:World} {H:Hp} {h h':Heap} {e C dx:Addr}
end
section
variable {X:Cx} {pins:List (Addr×Obj)} {σ:St} {H:Hp} {s:Shared} {e C dx:Addr} {f:Str} {bm:List Value} {y v:V} {u:Value} {A:Around} {E:Value->Shared->Prop}
end
section
variable {X:Cx} {CX:WF} {k:Nat} {C fI:Addr} {fd:FuncData} {ps:List Str} {sp:Sp} {E:XK} {x f:Str} {o e value:Expr} {es:List Expr} {p pos pos':Pos} {ta tv:TE} {t:TA} {bm:List Value}
end
def neL (xs ys:List V):Bool:=if xs.length=ys.length then !((tU xs.length).all λj=>Kt (xs.getD j .non) (ys.getD j .non)) else true
mutual
inductive DV (K:PySem.W.Frag) (H:Hp):V->PyData->Prop
 | non:DV K H .non .none
 | bl (b:Bool):DV K H (.bl b) (.bool b)
 | int (i:Int):DV K H (.int i) (.int i)
 | str (x:Str):DV K H (.str x) (.str x)
 | lst {a:Addr} {xs:List V} {ds:List PyData}:SqL K H a xs->DVs K H xs ds->DV K H (.ref a) (.list ds)
 | tup {a:Addr} {xs:List V} {ds:List PyData}:SqT K H a xs->DVs K H xs ds->DV K H (.ref a) (.tuple ds)
inductive DVs (K:PySem.W.Frag) (H:Hp):List V->List PyData->Prop
 | nil:DVs K H [] []
 | cons {x:V} {xs:List V} {d:PyData} {ds:List PyData}:DV K H x d->DVs K H xs ds->DVs K H (x::xs) (d::ds)
end
section
variable {X:Cx} {pins:List (Addr×Obj)} {σ:St} {H:Hp} {s:Shared}
mutual
theorem DV.reads (I:qJ X pins σ H s):∀{x:V} {d:PyData},DV X.K H x d->∀{u:Value},qX x u->∃as,Reads s.heap u d as
 | _,_,.non,u,r=>by cases (show u=Value.none from r);exact⟨_,.none⟩
 | _,_,.bl b,u,r=>by cases (show u=Value.bool b from r);exact⟨_,.bool b⟩
 | _,_,.int i,u,r=>by obtain⟨t,q⟩:=(show ∃t,u=Value.int i t from r);subst q;exact⟨_,.int i t⟩
 | _,_,.str x,u,r=>by obtain⟨t,q⟩:=(show ∃t,u=Value.str x t from r);subst q;exact⟨_,.str x t⟩
 | _,_,.lst (a:=a) hq hs,u,r=>by
   cases (show u=Value.ref a from r)
   obtain⟨its,rv,⟨o,n,e,hc,hd,hda⟩,hz⟩:=I.list hq
   obtain⟨as,ra⟩:=DVs.reads I hs rv
   exact⟨_,.list e hc hda (by simpa using ra)⟩
 | _,_,.tup (a:=a) hq hs,u,r=>by
   cases (show u=Value.ref a from r)
   obtain⟨its,rv,⟨o,e,hc,n,hda⟩,hz⟩:=I.tuple hq
   obtain⟨as,ra⟩:=DVs.reads I hs rv
   exact⟨_,.tuple e hc hda (by simpa using ra)⟩
theorem DVs.reads (I:qJ X pins σ H s):∀{xs:List V} {ds:List PyData},DVs X.K H xs ds->∀{us:List Value},qP xs us->∃as,ReadsAll s.heap us ds as
 | _,_,.nil,_,.nil=>⟨_,.nil⟩
 | _,_,.cons h hs,_,.cons r rs=>by
   obtain⟨as,a⟩:=DV.reads I h r
   obtain⟨bs,b⟩:=DVs.reads I hs rs
   exact⟨_,.cons a b⟩
end
end
section
variable {X:Cx}
def MT (i j:Int):Prop:=0 < j/\j.natAbs < 2^200
theorem xc:JF X (binaryOp .FloorDiv) (rI MT λi j=>.int (i / j)):=Rt λi j _ _ _ _ _ hc q=>by
 have h1:(0:Int) < j:=hc.1
 have h3:j.natAbs.log2 < 200:=(Nat.log2_lt (by omega)).mpr hc.2
 exact floordiv_int (by omega) (by rw[zbv i (by omega)];exact q) (.inl (PyProof.noPylong_of_log2 (zcf h3 (by decide))))
theorem ko:MN X "int.bit_length" (λx xs H Q=>∃i,x=.int i/\xs=[]/\Q (.int (Builtin.Int.intBits i)) H):=by
 intro pins s σ H x xs v us Q I rx rv h
 obtain⟨i,rfl,rfl,q⟩:=h
 obtain⟨t,rfl⟩:=rx
 cases rv
 exact call_int_bit_length ⟨.int _,H,I.tok _,⟨_,rfl⟩,q⟩
end
section
variable {X:Cx} {tg:Expr}
end
section
variable {X:Cx} {st:Stmt} {rest:List Stmt} {t u:TS}
def M7 (t u:TS):TS:=λD σ H=>∃W:St->Hp->Prop,t {D with nx:=W} σ H/\∀σ' H',W σ' H'->u D σ' H'
theorem Z5 (h1:JS X st t) (h2:WE X rest u):WE X (st::rest) (M7 t u):=.of (by
 have h1:=h1.to
 have h2:=h2.to
 intro pins s σ H D I ⟨W,h,k⟩
 refine wpAny_execs_cons (jB (h1 pins s σ H {D with nx:=W} I h) λf s1 q=>?_)
 cases f with
 | next=>
   obtain⟨σ',H',I',q⟩:=q
   exact h2 pins s1 σ' H' D I' (k σ' H' q)
 | ret v=>exact q
 | brk=>exact q
 | cont=>exact q)
end
end L2
namespace PySem
section
variable {prog:Program} {w:World} {A:Around} {E:Value->Shared->Prop} {s:Shared}
def Yz (x n c:Int):Obj:={cls:=.type "range_iterator",data:=.fields #[rawInt x,rawInt n,rawInt c]}
theorem UO (n:Nat):Builtin.Range.rangeSize 0 n 1=n:=by
 unfold Builtin.Range.rangeSize
 rw[if_pos (by decide)]
 split<;>omega
theorem Y2 {r:Addr} {a b c:Int} {t u v:Tok} {Q:Value->Shared->Prop} (hr:IsRange s.heap r a b c t u v)
   (hs:(Builtin.Range.rangeFitsLong a&&Builtin.Range.rangeFitsLong b&&Builtin.Range.rangeFitsLong c&&Builtin.Range.rangeFitsLong (-c)&&Builtin.Range.rangeFitsLong (a - c)&&Builtin.Range.rangeFitsLong (Builtin.Range.rangeSize a b c))=true)
   (h:Q (.ref s.heap.objs.size) {s with heap:=s.heap.push (Yz (a+(Builtin.Range.rangeSize a b c - 1)*c) (Builtin.Range.rangeSize a b c) (-c))}):wpAny (model prog w) A (call (.builtin "range.__reversed__") [.ref r]) Q E s:=by
 have ty:s.TypeIs (.ref r) "range":=⟨_,hr,rfl⟩
 refine wpAny_call_entry F.slot_range_reversed ty F.entry_range_reversed ?_ (F.args_range_reversed_1 _)
 unfold Builtin.«range.__reversed__»
 refine wpAny_bind (wpAny_of_eq (a:=Value.ref r) rfl ?_)
 refine wpAny_bind ?_
 unfold Builtin.Range.rangeFields
 refine wpAny_bind (wpAny_field hr rfl (x:=.int a t) rfl ?_)
 refine wpAny_bind (m:=asInt? (.int a t)) (wpAny_pure ?_)
 refine wpAny_bind (wpAny_field hr rfl (x:=.int b u) rfl ?_)
 refine wpAny_bind (m:=asInt? (.int b u)) (wpAny_pure ?_)
 refine wpAny_bind (wpAny_field hr rfl (x:=.int c v) rfl ?_)
 refine wpAny_bind (m:=asInt? (.int c v)) (wpAny_pure ?_)
 refine wpAny_pure ?_
 dsimp only
 rw[hs]
 simp only[Bool.not_true,zaA,if_false,if_true]
 first
 | refine wpAny_bind (wpAny_newObj_type (wpAny_pure ⟨_,rfl,h⟩))
 | refine wpAny_bind (wpAny_pure (wpAny_bind (wpAny_newObj_type (wpAny_pure ⟨_,rfl,h⟩))))
theorem Zo {r:Addr} {n:Nat} {t u v:Tok} {Q:Value->Shared->Prop} (hr:IsRange s.heap r 0 n 1 t u v) (hn:n < 1048576)
   (h:Q (.ref s.heap.objs.size) {s with heap:=s.heap.push (Yz ((n:Int) - 1) n (-1))}):wpAny (model prog w) A (call (.builtin "range.__reversed__") [.ref r]) Q E s:=by
 have f:∀x:Int,-2000000<=x->x<=2000000->Builtin.Range.rangeFitsLong x=true:=λx p q=>by
   unfold Builtin.Range.rangeFitsLong
   simp
   omega
 have e:=UO n
 have hs:(Builtin.Range.rangeFitsLong 0&&Builtin.Range.rangeFitsLong (n:Int)&&Builtin.Range.rangeFitsLong 1&&Builtin.Range.rangeFitsLong (-1)&&Builtin.Range.rangeFitsLong (0 - 1)&&Builtin.Range.rangeFitsLong (Builtin.Range.rangeSize 0 n 1))=true:=by
   rw[e,f 0 (by omega) (by omega),f n (by omega) (by omega),f 1 (by omega) (by omega),f (-1) (by omega) (by omega),f (0 - 1) (by omega) (by omega)]
   rfl
 refine Y2 hr hs ?_
 have e2:(0:Int)+(Builtin.Range.rangeSize 0 n 1 - 1)*1=(n:Int) - 1:=by rw[e];omega
 rw[e2,e]
 exact h
end
section
variable {prog:Program} {w:World} {A:Around} {E:Value->Shared->Prop} {s:Shared}
theorem ZD {r:Addr} {n:Nat} {t u v:Tok} {Q₁:Value->Shared->Prop} (hr:IsRange s.heap r 0 n 1 t u v) (hn:n < 1048576)
   (h:Q₁ (.ref s.heap.objs.size) {s with heap:=s.heap.push (Yz ((n:Int) - 1) n (-1))}):
   codeAny (model prog w) A (.call (.builtin "reversed.__new__") ⟨[.type "reversed",.ref r],[]⟩) (wants Q₁ E) s:=by
 have ty:s.TypeIs (.ref r) "range":=⟨_,hr,rfl⟩
 have nn:¬((Value.builtin "range.__reversed__"==Value.none)=true):=tI
 refine codeAny_of_tree (show wpAny _ A.in1 (checkBuiltinCall "reversed.__new__" ⟨[.type "reversed",.ref r],[]⟩ >>= λ_=>again (.builtin "reversed.__new__" ⟨[.type "reversed",.ref r],[]⟩)) _ _ s from
   wpAny_bind (wpAny_of_eq (F.newCall_reversed_1 (.ref r)) (wpAny_pure ⟨plainId_quiet F.plain_reversed_new _,codeAny_builtin F.entry_reversed_new ?_⟩)))
 rw[Around.under_plainId F.plain_reversed_new _];unfold Builtin.«reversed.__new__»
 refine wpAny_bind (wpAny_of_eq (newClass_reversed (.ref r)) ?_);dsimp only
 refine wpAny_bind (wpAny_of_eq (a:=()) (by kernel_rfl) (wpAny_bind (wpAny_of_eq (a:=()) (by kernel_rfl) ?_)));try dsimp only
 refine wpAny_bind (wpAny_specialOf ty F.slot_range_reversed.lookup ?_);dsimp only
 refine wpAny_bind (wpAny_of_eq (F.slot_range_reversed.bind _) ?_);dsimp only
 rw[if_neg nn]
 refine wpAny_bind (wpAny_rule (wpAny_bind (m:=runValue (.call (.builtin "range.__reversed__") ⟨[.ref r],[]⟩)) (show wpAny _ _ (call (.builtin "range.__reversed__") [.ref r]) _ _ _ from Zo hr hn ?_)))
 first | exact wpAny_pure h | exact wpAny_bind (wpAny_pure (wpAny_pure h))
theorem zU:isSubtype (.type "range_iterator") (.type "reversed")=pure false:=by rw[isSubtype_type];kernel_rfl
theorem Zn {r:Addr} {n:Nat} {t u v:Tok} {Q:Value->Shared->Prop} (hr:IsRange s.heap r 0 n 1 t u v) (hn:n < 1048576)
   (h:Q (.ref s.heap.objs.size) {s with heap:=s.heap.push (Yz ((n:Int) - 1) n (-1))}):wpAny (model prog w) A (call (.type "reversed") [.ref r]) Q E s:=by
 refine callType_other (U:="range_iterator") (Q₁:=λobj s₁=>obj=.ref s.heap.objs.size/\s₁={s with heap:=s.heap.push (Yz ((n:Int) - 1) n (-1))}) (by decide+kernel) F.create_reversed ⟨_,_,F.mro_reversed⟩ F.made_reversed zU (F.typeCall_reversed_1 _) (ZD hr hn ⟨rfl,rfl⟩) ?_
 rintro obj s₁ ⟨rfl,rfl⟩
 exact⟨⟨_,tJ _ rfl,rfl⟩,h⟩
theorem Wy {I:Addr} {x left c:Int} {Q:Value->Shared->Prop} (hit:IsRangeIter s.heap I x left c) (h:Q (.int left s.toks) {s with toks:=s.toks+1}):
   wpAny (model prog w) A (call (.builtin "range_iterator.__length_hint__") [.ref I]) Q E s:=by
 have hT:s.TypeIs (.ref I) "range_iterator":=⟨_,hit,rfl⟩
 refine wpAny_call_entry F.slot_range_iterator_length_hint hT F.entry_range_iterator_length_hint ?_ (F.args_range_iterator_length_hint_1 _)
 unfold Builtin.«range_iterator.__length_hint__»
 refine wpAny_bind (wpAny_of_eq (a:=Value.ref I) rfl ?_)
 refine wpAny_bind (wpAny_field hit rfl (x:=rawInt left) rfl ?_)
 show wpAny _ _ (do ret (<-mkInt left)) _ _ _
 exact wpAny_ret_mkInt h
structure Uo (P:Program) (w:World) (T:String) (I:Addr) (fp:List Addr) (n:Nat) (V:Nat->Value->Prop) (St:Nat->Heap->Prop):Prop where
 ty:∀z:Shared,St 0 z.heap->z.TypeIs (.ref I) T
 nl:(Value.type T==Value.type "list")=false
 nt:(Value.type T==Value.type "tuple")=false
 walk:∀B:Around,B.handled=none->Walks P w B I fp [I] n V St
 hint:∀(B:Around) (F:Value->Shared->Prop) (z:Shared) (R:Bool->Shared->Prop),St 0 z.heap->(∀k,R false {z with toks:=k})->wpAny (model P w) B (Builtin.List.listLengthHint (.ref I)) R F z
theorem Uo.list {P:Program} {T:String} {I:Addr} {fp:List Addr} {n:Nat} {V:Nat->Value->Prop} {St:Nat->Heap->Prop} (J:Uo P w T I fp n V St) {B:Around} {F':Value->Shared->Prop} {z:Shared} {R:Value->Shared->Prop}
   (hB:B.handled=none) (st:St 0 z.heap) (mem:I∈fp) (old:∀b∈fp,b < z.heap.objs.size) (hn:n<=1048576)
   (k:∀g tk xs c,(∀b o,b≠I->z.heap.get? b=some o->g.get? b=some o)->g.get? z.heap.objs.size=some (⟨.type "list",none,.seq xs c,#[]⟩:Obj)->ItemsOf V xs n->R (.ref z.heap.objs.size) {z with heap:=g,toks:=tk}):
   wpAny (model P w) B (call (.type "list") [.ref I]) R F' z:=by
 have nI:∀b∈fp,z.heap.objs.size≠b:=λb hb=>zbz (old b hb)
 have sI:Builtin.List.listSameRef (.ref z.heap.objs.size) (.ref I)=false:=by unfold Builtin.List.listSameRef;simp [nI I mem]
 refine callType_codes (Q₁:=λob z1=>z1={z with heap:=z.heap.push {cls:=.type "list",data:=.seq #[]}}/\ob=.ref z.heap.objs.size) F.called_list (F.typeCall_list_1 _) F.entry_list_init (code_list_new _ ⟨rfl,rfl⟩) ?_
 rintro ob z1 ⟨rfl,rfl⟩
 have a0:=tJ z.heap (o:=({cls:=.type "list",data:=.seq #[]}:Obj)) rfl
 refine⟨⟨_,a0,rfl⟩,F.args_list_init_2 _ _,?_⟩
 show wpAny _ _ (Builtin.List.listItems (.ref _) >>= λys=>Builtin.List.listUpdate (.ref _) (λ_=>#[]) >>= λ_=>letGo ys.toList.reverse >>= λ_=>Builtin.List.listExtendWith (.ref _) (.ref I) .none) _ _ _
 refine wpAny_bind (show wpAny _ _ (Builtin.List.listItems (.ref _)) _ _ _ from ?_)
 unfold Builtin.List.listItems
 refine wpAny_bind (wpAny_seqItems a0 rfl (wpAny_pure (wpAny_bind ?_)))
 refine wpAny_updateSeq a0 rfl (wpAny_bind (wpAny_letGo ?_))
 have a1:=zbj (Obj.mapSeq (λ_=>(#[]:Array Value))) a0 rfl
 have keep1:∀b o,z.heap.get? b=some o->((z.heap.push {cls:=.type "list",data:=.seq #[]}).update z.heap.objs.size (Obj.mapSeq (λ_=>(#[]:Array Value)))).get? b=some o:=λb o e=>
   (zaJ _ _ (zbz (tG e))).trans (tq _ e)
 generalize hg1:(z.heap.push {cls:=.type "list",data:=.seq #[]}).update z.heap.objs.size (Obj.mapSeq (λ_=>(#[]:Array Value)))=g1 at a1 keep1
 have st1:St 0 g1:=(J.walk B hB).frame 0 _ _ st λb _ o e=>keep1 b o e
 unfold Builtin.List.listExtendWith
 refine wpAny_bind (wpAny_typeOf (J.ty {z with heap:=g1} st1) ?_)
 simp only[sI,J.nl,J.nt,Bool.or_false,zaA,if_false]
 refine wpAny_bind ((J.walk B.in1.in1 hB).self 0 {z with heap:=g1} _ _ st1 ?_)
 refine wpAny_bind (wpAny_holding (J.hint B.in1.in1 _ {z with heap:=g1} _ st1 λtk=>?_))
 have run:∀(g:Heap) (c tk:Nat),St 0 g->(∀b o,z.heap.get? b=some o->g.get? b=some o)->g.get? z.heap.objs.size=some {cls:=.type "list",data:=.seq #[] c}->
     codeAny (model P w) B.in1 (.builtin "list.extend.loop" ⟨[.ref z.heap.objs.size,.ref I,.none],[]⟩) (wants (λr z2=>r=.none/\R (.ref z.heap.objs.size) z2) F') {z with heap:=g,toks:=tk}:=λg c tk sg kg ag=>
   codeAny_extend_loopS (J.walk B.in1.in1 hB).toS (by rw[sizeLine_eq];omega) _ (λq=>nI _ q rfl) .none n 0 _ #[] c rfl (zah _) sg ag (ItemsOf.nil _) λz3 xs c3 mv a3 it=>by
     rw[Moved.eq_with mv]
     refine⟨rfl,k z3.heap z3.toks xs c3 (λb o hb e=>mv.heap b o (λq=>?_) (kg b o e)) a3 it⟩
     rcases tR.mp q with q | q
     . exact absurd q (tM (tG e))
     . exact hb (zaE.mp q)
 refine wpAny_ite_split (λ_=>?_) (λ_=>wpAny_pure ⟨plainId_quiet F.plain_extend_loop _,run g1 _ tk st1 keep1 a1⟩)
 refine wpAny_bind (wpAny_rule (wpAny_bind (show wpAny _ _ (updateSeq z.heap.objs.size (·.push .none) >>= λ_=>updateSeq z.heap.objs.size (·.pop)) _ _ _ from wpAny_bind (wpAny_updateSeq a1 rfl ?_))))
 have a2:=zbj (Obj.mapSeq (·.push Value.none)) a1 rfl
 refine wpAny_updateSeq (hz:=by seq_fits) a2 rfl ?_
 have keep3:∀b o,b≠z.heap.objs.size->g1.get? b=some o->((g1.update z.heap.objs.size (Obj.mapSeq (·.push Value.none))).update z.heap.objs.size (Obj.mapSeq (·.pop))).get? b=some o:=λb o hb e=>
   (zaJ _ _ (Ne.symm hb)).trans ((zaJ _ _ (Ne.symm hb)).trans e)
 exact wpAny_pure ⟨plainId_quiet F.plain_extend_loop _,run _ _ tk ((J.walk B hB).frame 0 _ _ st1 λb hb o e=>keep3 b o (λq=>nI b hb q.symm) e) (λb o e=>keep3 b o (tM (tG e)) (keep1 b o e)) (zbj (Obj.mapSeq (·.pop)) a2 rfl)⟩
theorem vH {P:Program} {I:Addr} {x c:Int} {n:Nat} (hn:n<=1048576):Uo P w "range_iterator" I [I] n (λi v=>∃t,v=.int (x+i*c) t) (λi h=>IsRangeIter h I (x+(i:Nat)*c) ((n:Int) - (i:Nat)) c) where
 ty:=λ_ st=>⟨_,st,rfl⟩
 nl:=by decide
 nt:=by decide
 walk:=λ_ hB=>Walks.range hB I x c n
 hint:=λB G z R st k=>by
   have st':IsRangeIter z.heap I x n c:=by
     have e1:x+((0:Nat):Int)*c=x:=by simp
     have e2:(n:Int) - ((0:Nat):Int)=n:=by simp
     rw[<-e1,<-e2]
     exact st
   have ty:z.TypeIs (.ref I) "range_iterator":=⟨_,st',rfl⟩
   have few:Builtin.List.listTooLong ((n:Int).toNat)=false:=by unfold Builtin.List.listTooLong;rw[zad];exact decide_eq_false (by rw[sizeLine_eq];omega)
   unfold Builtin.List.listLengthHint
   refine wpAny_bind (wpAny_specialOf ty F.nolen_ra ?_)
   refine(show wpAny _ B (specialOf (.ref I) (Str.ofString "__length_hint__") >>= _) _ _ _ from wpAny_bind (wpAny_specialOf ty F.hint_ra ?_))
   (generalize hq:("range_iterator.__length_hint__":String)=q0;(fail_if_success (clear hq q0));wp_delta;rw[show splitId q0=some ("range_iterator","__length_hint__") from by subst hq;decide+kernel];subst hq)
   refine wpAny_bind (wpAny_isInstance (b:=true) ty (by rw[isSubtype_type];kernel_rfl) ?_)
   refine(show wpAny _ B (call (.builtin "range_iterator.__length_hint__") [.ref I] >>= _) _ _ _ from wpAny_bind (Wy st' (wpAny_bind (m:=asInt? (.int (n:Int) _)) (wpAny_pure ?_))))
   dsimp only
   rw[if_neg (by rw[few];decide)]
   exact wpAny_pure (k _)
end
end PySem
namespace L2
open PySem PySem.Spec PyProof.Rows
def zd (n:Nat):List Nat:=(tU n).reverse
theorem vy {n:Nat} {acc:Array Value} (h:ItemsOf (λi v=>∃t,v=.int ((n:Int) - 1+i*(-1)) t) acc n):qP ((zd n).map λi=>V.int (i:Nat)) acc.toList:=by
 obtain⟨hz,hv⟩:=h
 have key:∀(xs:List V) (us:List Value),xs.length=us.length->(∀(i:Nat) (x:V) (u:Value),xs[i]?=some x->us[i]?=some u->qX x u)->qP xs us:=by
   intro xs
   induction xs with
   | nil=>intro us hl _;cases us with | nil=>exact .nil | cons _ _=>cases hl
   | cons x xs ih=>
     intro us hl hp
     cases us with
     | nil=>cases hl
     | cons u us=>exact .cons (hp 0 x u rfl rfl) (ih us (by simpa using hl) λi y w h1 h2=>hp (i+1) y w (by simpa using h1) (by simpa using h2))
 refine key _ _ (by simp [zd,hz]) λi x u h1 h2=>?_
 have h2':acc[i]?=some u:=by simpa using h2
 obtain⟨t,rfl⟩:=hv i u h2'
 have hi:i < n:=by
   have:=(zck.mp h2').1
   omega
 rw[tH,zd,List.getElem?_reverse (by simpa using hi),zai,zbm (by omega)]at h1
 simp at h1
 subst h1
 refine⟨t,?_⟩
 congr 1
 omega
section
variable {X:Cx} {e:Expr} {te:TE} {p1 p2 p3 pos1 pos2 pos3:Pos}
theorem yo {M:Model} {A:Around} {E:Value->Shared->Prop} {s:Shared} {env:Env} {e:Expr} {pos:Pos} {R:List Value->Shared->Prop} (hs:starEach [e] env=[(false,eval e env)]) (h:wpAny M A (eval e env) (λv s1=>R [v] s1) E s):
   wpAny M A (spliced (backTo pos (starEach [e] env))) R E s:=by
 rw[hs]
 show wpAny _ _ (spliced ((false,eval e env)::backTo pos [])) _ _ s
 exact Calls.spliced_cons (jB h λu s1 h1=>Calls.spliced_nil h1)
def M8 (te:TE):TE:=λσ H Q=>te σ H λx H1=>∃n:Nat,x=.int n/\n<=1000/\∀l,H1 l=none->Q (.ref l) (upd H1 l (.lst ((zd n).map λi=>V.int (i:Nat))))
theorem RV (hc:X.calm=true) (g1:Gl X "list") (m1:X.mg "list"=none) (g2:Gl X "reversed") (m2:X.mg "reversed"=none) (g3:Gl X "range") (m3:X.mg "range"=none) (ha:JE X e te) (hs:starEach [e] X.env=[(false,eval e X.env)]:=by rfl) (hs2:starEach [.Call (.Name "range" p3) [e] [] pos3] X.env=[(false,eval (.Call (.Name "range" p3) [e] [] pos3) X.env)]:=by rfl) (hs3:starEach [.Call (.Name "reversed" p2) [.Call (.Name "range" p3) [e] [] pos3] [] pos2] X.env=[(false,eval (.Call (.Name "reversed" p2) [.Call (.Name "range" p3) [e] [] pos3] [] pos2) X.env)]:=by rfl):JE X (.Call (.Name "list" p1) [.Call (.Name "reversed" p2) [.Call (.Name "range" p3) [e] [] pos3] [] pos2] [] pos1) (M8 te):=.of (by
 have ha:=ha.to
 intro pins s σ H Q I h
 refine Call_ (Jb I g1 m1 boot_list (PyProof.Rows.callWith_type1 (yo hs3 ?_) (by rw[hs3];rfl) rfl))
 refine Call_ (Jb I g2 m2 boot_reversed (PyProof.Rows.callWith_type1 (yo hs2 ?_) (by rw[hs2];rfl) rfl))
 refine Call_ (Jb I g3 m3 boot_range (PyProof.Rows.callWith_type1 (yo hs (jB (ha pins s σ H _ I h) λu s1 ⟨x,H1,I1,r1,q1⟩=>?_)) (by rw[hs];rfl) rfl))
 obtain⟨n,rfl,hn,q⟩:=q1
 obtain⟨t,rfl⟩:=r1
 refine call_range_1 ?_
 refine Zn (IsRange.new ..) (by omega) ?_
 refine(vH (x:=(n:Int) - 1) (c:=-1) (n:=n) (by omega)).list (I1.ok.hd hc) (by
   have e1:(n:Int) - 1+((0:Nat):Int)*(-1)=(n:Int) - 1:=by simp
   have e2:(n:Int) - ((0:Nat):Int)=n:=by simp
   rw[e1,e2]
   exact tJ _ rfl) (by simp) (λb hb=>by rw[zaE.mp hb,zaX (_:Heap) (Yz _ _ _)];exact zaI _) (by omega) λh' tk acc' c' kp e hi=>?_
 have kk:∀b o,s1.heap.get? b=some o->h'.get? b=some o:=λb o eb=>by
   refine kp b o (tM ?_) (tq _ (tq _ eb))
   rw[zaX]
   exact zbu (tG eb)
 have s1z:s1.heap.objs.size<=((s1.heap.push ({cls:=.type "range",data:=.fields #[.int 0 s1.toks,.int n t,.int 1 (s1.toks+1)]}:Obj)).push (Yz ((n:Int) - 1) n (-1))).objs.size:=by
   rw[zaX,zaX]
   omega
 exact⟨.ref _,_,I1.laid (t':=tk) (o:=.lst ((zd n).map λi=>V.int (i:Nat))) kk s1z ⟨by simp only[tj,zd,zbF,zai];exact zab (qm hn),acc'.toList,c',vy hi,by simpa using e⟩,rfl,q _ (I1.hok.fresh s1z)⟩)
end
end L2
namespace PySem
namespace F
end F
end PySem
namespace L2
open PySem PySem.Spec PyProof.Rows
theorem Xt:∀(xs:List V) (us:List Value),xs.length=us.length->(∀(i:Nat) (x:V) (u:Value),xs[i]?=some x->us[i]?=some u->qX x u)->qP xs us:=by
 intro xs
 induction xs with
 | nil=>intro us hl _;cases us with | nil=>exact .nil | cons _ _=>cases hl
 | cons x xs ih=>
   intro us hl hp
   cases us with
   | nil=>cases hl
   | cons u us=>exact .cons (hp 0 x u rfl rfl) (ih us (by simpa using hl) λi y w h1 h2=>hp (i+1) y w (by simpa using h1) (by simpa using h2))
section
variable {X:Cx} {e:Expr} {te:TE} {p1 p2 pos1 pos2:Pos}
end
section
variable {X:Cx} {pins:List (Addr×Obj)} {σ:St} {H:Hp} {s:Shared} {h':Heap}
theorem qJ.turnLaid {L:List Addr} {T:Addr} {o:HO} {t':Nat} (I:qJ X pins σ H s) (k:∀b u,b∉L->s.heap.get? b=some u->h'.get? b=some u) (hf:∀b∈L,ZK X pins H b) (hp:s.heap.objs.size<=T)
   (new:jd X.prog X.w (upd H T o) h' T o):qJ X pins σ (upd H T o) {s with heap:=h',toks:=t'}:=by
 have hn:H T=none:=I.hok.fresh hp
 have up:∀b u,H b=some u->upd H T o b=some u:=λb u e=>by rw[qi (qE e hn)];exact e
 have nL:∀b u,H b=some u->b∉L:=λb u e z=>by rw[(hf b z).1]at e;cases e
 refine I.step (g':=s.gens) (d':=s.drawn) (ch:=L) (λb hb=>?_) (λb o _ _ hc e _=>k b o hc e) (λb o _ _ hc e _=>⟨o.slots,k b o hc e⟩) (λb ob hc e n=>?_)
   (λb o hc e=>⟨o,k b o hc e⟩) (λb xs e=>up b _ e) (λb o u e=>up b _ e) (λb ps e=>⟨#[],by rw[up b _ e];simp⟩) (λm hm=>?_) (λb u e=>?_) I.bare
 . obtain⟨f0,f1,f2,f3,f4,f5⟩:=hf b hb
   exact⟨f3,f1,f4,f5⟩
 . have:b≠T:=tM (tO (tG e) hp)
   rw[qi this]
   exact n
 . obtain⟨o,es,ep,ho,r⟩:=hm
   exact⟨o,es,ep,k _ o (λz=>(hf _ z).2.1 rfl) ho,r⟩
 . by_cases hb:b=T
   . subst hb
     rw[qe]at e
     cases e
     exact new
   . rw[qi hb]at e
     refine(I.hok b u e).stay (λc v hc q=>k c v ?_ q) (λc q=>up c _ q) (λc xs q=>up c _ q) (λc o q=>up c _ q)
     rcases hc with z | z
     . rw[z];exact nL b u e
     . exact nL c _ z
theorem qJ.turnedL {L:List Addr} {t':Nat} (I:qJ X pins σ H s) (k:∀b u,b∉L->s.heap.get? b=some u->h'.get? b=some u) (hf:∀b∈L,ZK X pins H b):qJ X pins σ H {s with heap:=h',toks:=t'}:=by
 have nL:∀b u,H b=some u->b∉L:=λb u e z=>by rw[(hf b z).1]at e;cases e
 refine I.step (g':=s.gens) (d':=s.drawn) (ch:=L) (λb hb=>?_) (λb o _ _ hc e _=>k b o hc e) (λb o _ _ hc e _=>⟨o.slots,k b o hc e⟩) (λ_ _ _ _ n=>n)
   (λb o hc e=>⟨o,k b o hc e⟩) (λ_ _ e=>e) (λ_ _ _ e=>e) (λb ps e=>⟨#[],by rw[e];simp⟩) (λm hm=>?_) (λb u e=>?_) I.bare
 . obtain⟨f0,f1,f2,f3,f4,f5⟩:=hf b hb
   exact⟨f3,f1,f4,f5⟩
 . obtain⟨o,es,ep,ho,r⟩:=hm
   exact⟨o,es,ep,k _ o (λz=>(hf _ z).2.1 rfl) ho,r⟩
 . refine(I.hok b u e).stay (λc v hc q=>k c v ?_ q) (λ_ q=>q) λ_ _ q=>q
   rcases hc with z | z
   . rw[z];exact nL b u e
   . exact nL c _ z
end
section
variable {X:Cx} {elts:List Expr} {x1:Nat} {tpos:Pos}
end
section
variable {X:Cx}
theorem Xi:∀{cs:List Addr} {us:List Value},qP (cs.map V.ref) us->us=cs.map Value.ref
 | [],_,.nil=>rfl
 | c::cs,u::us,.cons r t=>by
   obtain rfl:u=Value.ref c:=r
   rw[tP,Xi t]
def qan (K:PySem.W.Frag):R2:=λx y H Q=>∃d d',DV K H x d/\DV K H y d'/\PySem.SeqAt.shaped d=true/\PySem.SeqAt.shaped d'=true/\Q (.bl (PyData.eqv d d')) H
theorem VR (hu:X.A.units+64 < cLine):JF X (compareOp .Eq) (qan X.K):=by
 intro pins s σ H x y v u Q I rx ry h
 obtain⟨d,d',h1,h2,hs,hs',q⟩:=h
 obtain⟨as,ra⟩:=h1.reads I rx
 obtain⟨bs,rb⟩:=h2.reads I ry
 exact eq_dataH ra rb hs hs' hu ⟨.bl _,H,I,rfl,q⟩
end
section
variable {X:Cx} {o e:Expr} {es:List Expr} {ta:TE} {t:TA} {m:Str} {C C' f f':Addr} {fd fd':FuncData} {ps ps':List Str} {k k':Nat} {sp sp':Sp} {apos pos:Pos}
end
section
variable {X:Cx} {e:Expr} {es:List Expr} {te:TE} {t:TA}
end
open PySem PySem.Spec PySem.W PyProof.Rows
theorem K8:∀(f n r:Nat),r<=1->minRun' f n r<=n+r
 | 0,n,r,_=>tu _
 | f+1,n,r,hr=>by
   rw[minRun'_succ]
   split
   . exact tu _
   . have h1:max r (n % 2)<=1:=Nat.max_le.mpr ⟨hr,by omega⟩
     have:=K8 f (n / 2) (max r (n % 2)) h1
     omega
section
variable {P:Program} {w:World} {B:Around} {F:Value->Shared->Prop} {κ:SortKind} {it:Array Keyed} {z:Shared}
theorem WW {n:Nat} {R:Nat->Shared->Prop} (hc:∀i,1<=i->i < n->∀C:Bool->Shared->Prop,C false z->kas_cmp P w B κ it i (i - 1) C z) (hR:R n z):
   ∀(f a:Nat),1<=a->a+f=n->(kas_asc (zaL (tU n)) f a).kasWp (kas_cmp P w B κ it) R z
 | 0,a,_,e=>by
   have e':a=n:=by omega
   subst e'
   exact hR
 | f+1,a,h1,e=>by
   have g:∀i,i < n->(zaL (tU n)).getD i 0=i:=λi hi=>by simp [Array.getD,hi]
   show kas_cmp P w B κ it ((zaL (tU n)).getD a 0) ((zaL (tU n)).getD (a - 1) 0) _ z
   rw[g a (by omega),g (a - 1) (by omega)]
   refine hc a h1 (by omega) _ ?_
   show KasT.kasWp _ (if false=true then _ else _) R z
   rw[if_neg tI]
   exact WW hc hR f (a+1) (by omega) (by omega)
theorem vP {n:Nat} {Q:Unit->SortSt->Shared->Prop} (h2:2<=n) (hc:∀i,1<=i->i < n->∀C:Bool->Shared->Prop,C false z->kas_cmp P w B κ it i (i - 1) C z)
   (hQ:∀st,arrOf st=(zaL (tU n)).map (kas_item it)->failedOf st=none->Q () st z):kasC (model P w) B F sortRuns' Q (kas_st κ it (zaL (tU n))) z:=by
 obtain⟨r,rfl⟩:∃r,n=r+2:=⟨n - 2,by omega⟩
 have sz:(zaL (tU (r+2))).size=r+2:=by simp
 have sa:(arrOf (kas_st κ it (zaL (tU (r+2))))).size=r+2:=(Array.size_map ..).trans sz
 have le:=K8 (r+2) (r+2) 0 (by decide)
 rw[sortRuns'_eq]
 refine kasC_bind (kasC_get ?_)
 dsimp only
 rw[sa]
 generalize minRun' (r+2) (r+2) 0=M at le
 refine kasC_bind (kasC_range (show kasC _ _ _ (forIn (0::1::zdo 2 r) _ _) _ _ _ from kasC_cons ?_))
 dsimp only
 rw[if_neg (by omega)]
 simp only[Nat.sub_zero,Nat.zero_add]
 refine kasC_bind (kas_count_ (G:=λq z'=>q=(r+2,zaL (tU (r+2)))/\z'=z) (by omega) (by rw[sz];exact tu _) (λm p' z' _ _ _ hg=>?_) ?_)
 . obtain⟨e,rfl⟩:=hg
   cases e
   dsimp only
   rw[if_neg (by omega)]
   refine kasC_bind (kasC_get ?_)
   rw[show (pendingOf (kas_st κ it (zaL (tU (r+2))))).back?=none from rfl]
   dsimp only
   refine kasC_bind (kasC_modify (kasC_pure (show kasC _ _ _ (forIn (1::zdo 2 r) _ _) _ _ _ from kasC_cons ?_)))
   dsimp only
   rw[if_pos (tu _)]
   refine kasC_pure ?_
   dsimp only
   refine kasC_bind (kasC_range (show kasC _ _ _ (forIn (0::1::zdo 2 r) _ _) _ _ _ from kasC_cons (kasC_bind (kasC_get ?_))))
   rw[if_pos (show (pendingOf (setPending (kas_st κ it (zaL (tU (r+2)))) ((pendingOf (kas_st κ it (zaL (tU (r+2))))).push (0,r+2,0)))).size<=1 from tu 1)]
   refine kasC_pure ?_
   dsimp only
   exact kasC_pure (hQ _ rfl rfl)
 . unfold kas_count
   rw[KasT.kasWp_bind]
   refine WW hc ?_ _ 1 (tu 1) (by omega)
   rw[if_pos (beq_self_eq_true _)]
   exact⟨rfl,rfl⟩
end
def JD (h:Heap) (v:Value) (k:Int×Int):Prop:=∃p o n t u,v=.ref p/\h.get? p=some o/\o.cls=.type "tuple"/\o.data=.seq #[.int k.1 t,.int k.2 u] n
def YN (a b:Int×Int):Prop:=a.1 < b.1\/(a.1=b.1/\a.2 < b.2)
section
variable {P:Program} {w:World} {B:Around} {F:Value->Shared->Prop} {z:Shared}
theorem WX {v u:Value} {a b:Int×Int} (hv:JD z.heap v b) (hu:JD z.heap u a) (hlt:YN a b) {C:Bool->Shared->Prop} (hC:C false z):wpAny (model P w) B (keyLt' (tuples' true) v u) C (λ_ _=>False) z:=by
 obtain⟨p,o,n,t1,t2,rfl,h1,_,d1⟩:=hv
 obtain⟨p',o',n',t1',t2',rfl,h1',_,d1'⟩:=hu
 refine kat_lt h1 d1 h1' d1' ?_
 show KatLex P w B true _ C [(.int b.1 t1,.int a.1 t1'),(.int b.2 t2,.int a.2 t2')] 0 z
 refine kat_cons (SeqAt.EqAt.int_int b.1 t1 a.1 t1' P w _ _ ?_)
 rcases hlt with h | ⟨h,h'⟩
 . have e:(b.1==a.1)=false:=by
     rw[beq_eq_false_iff_ne]
     omega
   rw[e]
   refine kat_no (show wpAny _ _ (oneLt' true _ _) _ _ _ from oneLt_int ?_)
   rw[decide_eq_false (by omega)]
   exact hC
 . have e:(b.1==a.1)=true:=by rw[h];exact beq_self_eq_true _
   rw[e]
   refine kat_yes (kat_cons (SeqAt.EqAt.int_int b.2 t2 a.2 t2' P w _ _ ?_))
   have e2:(b.2==a.2)=false:=by
     rw[beq_eq_false_iff_ne]
     omega
   rw[e2]
   refine kat_no (show wpAny _ _ (oneLt' false _ _) _ _ _ from kat_one _ _ (lt_int ?_))
   show C (decide (b.2 < a.2)) z
   rw[decide_eq_false (by omega)]
   exact hC
theorem JD.keep {h h':Heap} {v:Value} {k:Int×Int} (x:JD h v k) (kp:∀b o,h.get? b=some o->o.cls=.type "tuple"->h'.get? b=some o):JD h' v k:=by
 obtain⟨p,o,n,t,u,e,h1,c,d⟩:=x
 exact⟨p,o,n,t,u,e,kp p o h1 c,c,d⟩
theorem Xs (vs:List Value):(pairsOf vs).map (·.2)=vs.toArray:=by
 apply Array.ext'
 rw[Array.toList_map,pairsOf_toList,List.map_snd_zip (tu _)]
theorem Ut {h:Heap}:∀(vs:List Value) (ks:List (Int×Int)),vs.length=ks.length->(∀(i:Nat) (v:Value) (k:Int×Int),vs[i]?=some v->ks[i]?=some k->JD h v k)->∃fs,KatTups h vs fs/\fs.length=vs.length/\∀v∈fs,∃i t,v=Value.int i t
 | [],_,_,_=>⟨[],.nil,rfl,λv hv=>(nomatch hv)⟩
 | v::vs,[],hl,_=>by cases hl
 | v::vs,k::ks,hl,hv=>by
   obtain⟨fs,tf,lf,hf⟩:=Ut vs ks (zcx.inj hl) λi u q e1 e2=>hv (i+1) u q (by simpa using e1) (by simpa using e2)
   obtain⟨p,o,n,t,u,rfl,h1,c,d⟩:=hv 0 v k rfl rfl
   refine⟨.int k.1 t::fs,.cons h1 c d rfl tf,by simp [lf],λx hx=>?_⟩
   rcases tR.mp hx with e | hx
   . exact⟨_,_,e⟩
   . exact hf x hx
theorem vF {a:Addr} {vs:List Value} {ks:List (Int×Int)} {n:Nat} {R:PySem.Fin->Shared->Prop} (ho:z.heap.get? a=some (seqObj "list" vs.toArray n)) (hl:vs.length=ks.length) (hv:∀(i:Nat) (v:Value) (k:Int×Int),vs[i]?=some v->ks[i]?=some k->JD z.heap v k)
   (hr:∀(i:Nat) (k k':Int×Int),ks[i]?=some k->ks[i+1]?=some k'->YN k k') (hz:vs.length<=100000)
   (k:R (.done (.ret .none)) {z with heap:=sortedHeap z.heap a vs vs.toArray}):wpAny (model P w) B (Builtin.«list.sort» ⟨[.ref a],[]⟩) R F z:=by
 have na:∀b o,z.heap.get? b=some o->o.cls=.type "tuple"->b≠a:=λb o e c q=>by
   rw[q,ho]at e
   cases e
   exact absurd c (show ¬Value.type "list"=Value.type "tuple" by decide)
 rw[list_sort_plain]
 refine wpAny_bind (listItems_at ho rfl (wpAny_bind (listUpdate_at ho rfl ?_)))
 obtain⟨c1,o1⟩:∃c,(z.heap.update a (Obj.mapSeq λ_=>#[])).get? a=some (seqObj "list" #[] c):=⟨_,get?_update_seq ho (λ_=>#[])⟩
 refine wpAny_bind (seqEpoch_at o1 rfl (wpAny_bind (wpAny_newTuple (wpAny_bind (wpAny_newList (wpAny_holding ?_))))))
 have lt:=tG ho
 have o2:(((z.heap.update a (Obj.mapSeq λ_=>#[])).push (seqObj "tuple" vs.toArray 0)).push (seqObj "list" #[] 0)).get? a=some (seqObj "list" #[] c1):=tq _ (tq _ o1)
 have kp:∀b o,z.heap.get? b=some o->o.cls=.type "tuple"->(((z.heap.update a (Obj.mapSeq λ_=>#[])).push (seqObj "tuple" vs.toArray 0)).push (seqObj "list" #[] 0)).get? b=some o:=λb o e c=>
   tq _ (tq _ ((zaJ _ _ (Ne.symm (na b o e c))).trans e))
 show wpAny (model P w) B _ R F {z with heap:=((z.heap.update a (Obj.mapSeq λ_=>#[])).push (seqObj "tuple" vs.toArray 0)).push (seqObj "list" #[] 0)}
 dsimp only
 have sv:vs.toArray.size=vs.length:=by simp
 have ends:∀st:SortSt,(arrOf st).map (·.2)=vs.toArray->failedOf st=none->wpAny (model P w) B (do
     let touched:=(<-seqEpoch a) != c1
     Builtin.List.listUpdate (.ref a) λ_=>(arrOf st).map (·.2)
     if let some e:=failedOf st then rule "list.sort.comparison-raised";throw e
     if touched then rule "list.sort.modified";raiseError "ValueError" "list modified during sort"
     ret .none) R F {z with heap:=((z.heap.update a (Obj.mapSeq λ_=>#[])).push (seqObj "tuple" vs.toArray 0)).push (seqObj "list" #[] 0)}:=λst e f=>by
   refine wpAny_bind (seqEpoch_at o2 rfl ?_)
   rw[e,f]
   refine wpAny_bind (listUpdate_at o2 rfl ?_ (hsz2:=by rw[sv,sizeLine_eq];omega))
   simp only[bne_self_eq_false,zaA,if_false]
   exact wpAny_pure k
 by_cases h2:vs.toArray.size < 2
 . rw[if_pos h2,if_pos h2]
   refine wpAny_bind (wpAny_pure ?_)
   rw[StateT.run_pure]
   refine wpAny_bind (wpAny_pure ?_)
   exact ends (SortSt.mk' general' (vs.toArray.zip vs.toArray) #[] 7 none) (Xs vs) rfl
 . rw[if_neg h2,if_neg h2]
   have l2:2<=vs.length:=by omega
   have hv':∀(i:Nat) (v:Value) (q:Int×Int),vs[i]?=some v->ks[i]?=some q->JD (((z.heap.update a (Obj.mapSeq λ_=>#[])).push (seqObj "tuple" vs.toArray 0)).push (seqObj "list" #[] 0)) v q:=λi v q e1 e2=>(hv i v q e1 e2).keep kp
   obtain⟨fs,tf,lf,hf⟩:=Ut vs ks hl hv'
   refine wpAny_bind (kat_kind (T:=.type "int") tf (by omega) (λv q=>?_) rfl ?_)
   . obtain⟨i,t,rfl⟩:=hf v q
     exact Looks.of_pure rfl
   . have e:vs.toArray.zip vs.toArray=(zaL (tU vs.length)).map (kas_item (pairsOf vs)):=by
       have:=kas_range (pairsOf vs)
       rw[pairsOf_size]at this
       exact this.symm
     rw[e]
     have run:kasC (model P w) B F sortRuns' (λ_ st z'=>z'={z with heap:=((z.heap.update a (Obj.mapSeq λ_=>#[])).push (seqObj "tuple" vs.toArray 0)).push (seqObj "list" #[] 0)}/\(arrOf st).map (·.2)=vs.toArray/\failedOf st=none)
         (kas_st (tuples' true) (pairsOf vs) (zaL (tU vs.length))) {z with heap:=((z.heap.update a (Obj.mapSeq λ_=>#[])).push (seqObj "tuple" vs.toArray 0)).push (seqObj "list" #[] 0)}:=by
       refine vP l2 (λi i1 i2 C hC=>?_) λst e1 e2=>⟨rfl,by rw[e1,<-e];exact Xs vs,e2⟩
       unfold kas_cmp
       rw[kas_item_eq,kas_item_eq]
       have g:∀j,j < vs.length->vs[j]?=some (vs.getD j Value.none):=λj hj=>by simp [hj]
       have gk:∀j,j < vs.length->∃q,ks[j]?=some q:=λj hj=>⟨_,tz (by omega)⟩
       obtain⟨q1,eq1⟩:=gk i i2
       obtain⟨q0,eq0⟩:=gk (i - 1) (by omega)
       have eq1':ks[i - 1+1]?=some q1:=by rw[show i - 1+1=i by omega];exact eq1
       exact WX (hv' i _ q1 (g i i2) eq1) (hv' (i - 1) _ q0 (g (i - 1) (by omega)) eq0) (hr (i - 1) q0 q1 eq0 eq1') hC
     refine wpAny_bind (wpAny_mono run (λr z' h3=>?_) λ_ _ x=>x)
     obtain⟨⟨⟩,st⟩:=r
     obtain⟨rfl,e1,e2⟩:=h3
     exact ends st e1 e2
end
end L2
namespace PySem
def RawD (h:Heap) (d:Addr) (es:Array DictEntry) (ep:Nat):Prop:=∃o,h.get? d=some o/\o.ExactDict/\o.data=.dict es ep
theorem RawD.keep {h h':Heap} {d:Addr} {es:Array DictEntry} {ep:Nat} (x:RawD h d es ep) (k:∀o,h.get? d=some o->h'.get? d=some o):RawD h' d es ep:=let ⟨o,e,r⟩:=x;⟨o,k o e,r⟩
section
variable {P:Program} {w:World} {B:Around} {F':Value->Shared->Prop} {z:Shared} {d I:Addr} {es:Array DictEntry} {ep i:Nat}
theorem RawD.ty (x:RawD z.heap d es ep):z.TypeIs (.ref d) "dict":=let ⟨o,e,c,_⟩:=x;⟨o,e,c.1⟩
theorem raw_iter {R:Value->Shared->Prop} (hd:(d==sysModules)=false) (x:RawD z.heap d es ep)
   (k:R (.ref z.heap.objs.size) {z with heap:=z.heap.push {cls:=.type "dict_keyiterator",data:=.fields #[.ref d,.int 0 0,.int es.size 0,.int ep 0]}}):wpAny (model P w) B (pyIter (.ref d)) R F' z:=by
 have ty:=x.ty
 obtain⟨o,ho,_,dat⟩:=x
 refine wpAny_pyIter_slot ty F.slot_dict_iter (wpAny_call_entry F.slot_dict_iter ty F.entry_dict_iter ?_ (F.args_dict_iter_1 _))
 unfold Builtin.«dict.__iter__»
 refine wpAny_bind (show wpAny _ _ (Builtin.Dict.dictSlotNone _ _) _ _ _ from ?_)
 unfold Builtin.Dict.dictSlotNone
 refine wpAny_bind (wpAny_notOrdered_dict ty (show wpAny _ _ (pure (Value.ref d)) _ _ z from wpAny_pure ?_))
 refine(show wpAny _ _ (Builtin.Dict.showsAll d >>= _) _ _ z from ?_)
 unfold Builtin.Dict.showsAll
 rw[if_neg (by rw[hd];exact tI)]
 refine wpAny_bind (wpAny_pure (wpAny_bind (wpAny_dictEntries ho dat (wpAny_bind (wpAny_dictEpoch ho dat ?_)))))
 exact wpAny_bind (wpAny_newObj_type (wpAny_pure ⟨_,rfl,"dict_keyiterator",_,⟨_,tJ _ rfl,rfl⟩,F.slot_dict_keyiterator_next.lookup,by simpa [rawInt] using k⟩))
theorem yO {R:Option Value->Shared->Prop} (hit:z.heap.IsKeyIter I d i es.size ep) (x:RawD z.heap d es ep) (hi:i < es.size)
   (k:∀h',h'.IsKeyIter I d (i+1) es.size ep->Heap.SameBut I z.heap h'->R (some es[i].key) {z with heap:=h'}):wpAny (model P w) B (pyNext (.ref I)) R F' z:=by
 obtain⟨o,ho,hc,hd⟩:=id hit
 obtain⟨od,hod,_,dat⟩:=x
 have ty:=hit.typeIs
 unfold pyNext
 refine wpAny_bind (wpAny_attempt (wpAny_callSpecial?_slot (name:=Str.ofString "__next__") ty F.slot_dict_keyiterator_next (wpAny_call_entry F.slot_dict_keyiterator_next ty F.entry_dict_keyiterator_next ?_ (F.args_dict_keyiterator_next_1 _))))
 refine wpAny_bind (wpAny_pure (wpAny_bind (wpAny_bind (wpAny_bind ?_))))
 first | refine wpAny_typeNameOfWhole_keyiter ty (wpAny_pure (wpAny_bind (wpAny_fieldsOf ho hd ?_))) | refine wpAny_typeNameOf_keyiter ty (wpAny_pure (wpAny_bind (wpAny_fieldsOf ho hd ?_)))
 have own:Builtin.Dict_items.ownsTuple "dict_keyiterator"=false:=by decide
 simp only[own,zaA,if_false]
 show wpAny _ _ (if (Value.ref d==Value.none)=true then _ else _) _ _ z
 rw[if_neg (show ¬((Value.ref d==Value.none)=true) from tI)]
 refine wpAny_bind (wpAny_pure (wpAny_bind (wpAny_dictEntries hod dat ?_)))
 rw[if_neg (by simp)]
 refine wpAny_bind (wpAny_pure (wpAny_bind (wpAny_dictEpoch hod dat ?_)))
 rw[if_neg (by simp)]
 refine wpAny_pure ?_
 simp only[show ¬((i:Int) < 0) from by omega,if_false,zad,zbE hi]
 refine wpAny_bind (wpAny_bind ?_)
 first | refine wpAny_typeNameOfWhole_keyiter ty (wpAny_pure (wpAny_bind (wpAny_isOneOf_keyiter ty ?_))) | refine wpAny_typeNameOf_keyiter ty (wpAny_pure (wpAny_bind (wpAny_isOneOf_keyiter ty ?_)))
 refine(show wpAny _ _ (setField (.ref I) 1 (rawInt ((i:Int)+1)) >>= _) _ _ z from wpAny_bind (wpAny_setField ho hd (by simp) ?_))
 have hit':(z.heap.update I (Obj.mapFields (·.setIfInBounds 1 (rawInt ((i:Int)+1))))).IsKeyIter I d (i+1) es.size ep:=
   ⟨_,zbj _ ho (Obj.isFreed_of_fields (Obj.data_mapFields hd _)),(Obj.cls_mapFields ..).trans hc,by rw[Obj.data_mapFields hd];simp [rawInt]⟩
 refine wpAny_bind (wpAny_holding (wpAny_bind (wpAny_isOneOf_keyiter (s:={z with heap:=z.heap.update I (Obj.mapFields (·.setIfInBounds 1 (rawInt ((i:Int)+1))))}) hit'.typeIs ?_)))
 refine(show wpAny _ _ (pure es[i].key) _ _ _ from wpAny_pure (wpAny_pure ⟨_,rfl,wpAny_pure (k _ hit' (zcg.update ..))⟩))
theorem uA {R:Option Value->Shared->Prop} (hB:B.handled=none) (hit:z.heap.IsKeyIter I d i es.size ep) (x:RawD z.heap d es ep) (hi:es.size<=i)
   (k:∀h',Heap.ExtBut I z.heap h'->R none {z with heap:=h'}):wpAny (model P w) B (pyNext (.ref I)) R F' z:=by
 obtain⟨o,ho,hc,hd⟩:=id hit
 obtain⟨od,hod,_,dat⟩:=x
 have ty:=hit.typeIs
 unfold pyNext
 refine wpAny_bind (wpAny_attempt (wpAny_callSpecial?_slot (name:=Str.ofString "__next__") ty F.slot_dict_keyiterator_next (wpAny_call_entry F.slot_dict_keyiterator_next ty F.entry_dict_keyiterator_next ?_ (F.args_dict_keyiterator_next_1 _))))
 refine wpAny_bind (wpAny_pure (wpAny_bind (wpAny_bind (wpAny_bind ?_))))
 first | refine wpAny_typeNameOfWhole_keyiter ty (wpAny_pure (wpAny_bind (wpAny_fieldsOf ho hd ?_))) | refine wpAny_typeNameOf_keyiter ty (wpAny_pure (wpAny_bind (wpAny_fieldsOf ho hd ?_)))
 have own:Builtin.Dict_items.ownsTuple "dict_keyiterator"=false:=by decide
 simp only[own,zaA,if_false]
 show wpAny _ _ (if (Value.ref d==Value.none)=true then _ else _) _ _ z
 rw[if_neg (show ¬((Value.ref d==Value.none)=true) from tI)]
 refine wpAny_bind (wpAny_pure (wpAny_bind (wpAny_dictEntries hod dat ?_)))
 rw[if_neg (by simp)]
 refine wpAny_bind (wpAny_pure (wpAny_bind (wpAny_dictEpoch hod dat ?_)))
 rw[if_neg (by simp)]
 refine wpAny_pure ?_
 simp only[show ¬((i:Int) < 0) from by omega,if_false,zad,zcE hi]
 refine wpAny_bind (wpAny_bind ?_)
 first | refine wpAny_typeNameOfWhole_keyiter ty (wpAny_pure ?_) | refine wpAny_typeNameOf_keyiter ty (wpAny_pure ?_)
 refine(show wpAny _ _ (setField (.ref I) 0 .none >>= _) _ _ z from wpAny_bind (wpAny_setField ho hd (by simp) ?_))
 refine(show wpAny _ _ (newExc (.type "StopIteration") [] >>= _) _ _ _ from wpAny_bind ?_)
 simp only[newExc,newTuple]
 refine wpAny_bind (wpAny_newObj_type (wpAny_bind (m:=firstArgMember _ _) (wpAny_of_eq (a:=Value.none) (by first | rfl | (simp only[firstArgMember];rfl)) (wpAny_newObj_type ?_ (by size_fits)))) (by size_fits))
 simp only[raiseNew]
 refine wpAny_bind (wpAny_handled ?_)
 rw[show B.in1.handled=none from hB]
 refine wpAny_bind (wpAny_pure (wpAny_throw ?_))
 refine wpAny_bind (wpAny_isInstance (T:="StopIteration") (b:=true) ⟨_,tJ _ rfl,rfl⟩ isSubtype_stop ?_)
 exact wpAny_pure (k _ ((((zcg.update ..).extBut).push _).push _))
end
open PySem.W
section
variable {P:Program} {w:World} {d:Addr} {es:Array DictEntry} {ep:Nat}
theorem vQ {B:Around} (hB:B.handled=none) (I:Addr) (hne:d≠I):Walks P w B I [I,d] [I] es.size (λi v=>∃h:i < es.size,v=es[i].key) (λi h=>h.IsKeyIter I d i es.size ep/\RawD h d es ep) where
 sub:=λb hb=>by simp at hb;simp [hb]
 frame:=λ_ _ _ st k=>⟨st.1.at λo e=>k I (by simp) o e,st.2.keep λo e=>k d (by simp) o e⟩
 item:=λi z R G hi st q=>yO st.1 st.2 hi λh' it' sb=>q _ h' z.toks ⟨hi,rfl⟩ ⟨it',st.2.keep λo e=>sb.extBut d o hne e⟩ λb o hb e=>sb.extBut b o (λx=>hb (by simp [x])) e
 done:=λz R G st q=>uA hB st.1 st.2 (tu _) λh' eb=>q h' z.toks λb o hb e=>eb b o (λx=>hb (by simp [x])) e
 self:=λ_ _ _ _ st q=>wpAny_pyIter_keyiter st.1 q
theorem uy (hd:(d==sysModules)=false):KdlSrc P w "dict" d d es.size (λi v=>∃h:i < es.size,v=es[i].key) (λh=>RawD h d es ep) where
 type:=λz x=>x.ty
 there:=λh x=>let ⟨o,e,_⟩:=x;⟨tG e,tG e⟩
 keep:=λh h' x k=>x.keep λo e=>k d (.inl rfl) o e
 notList:=by decide
 notTuple:=by decide
 hint:=λ_ _ _ _ x q=>kdl_hint_dict x.ty q
 iter:=λA z hh x=>⟨_,_,λE Q q=>raw_iter hd x q,vQ hh _ (let ⟨o,e,_⟩:=x;tM (tG e)),⟨⟨_,tJ _ rfl,rfl,rfl⟩,x.keep λo e=>tq _ e⟩⟩
end
end PySem
namespace L2
open PySem PySem.Spec PySem.W PyProof.Rows
theorem Qv {α β:Type} {G:α->β->Prop}:∀{l:List α} {m:List β},Paired G l m->∀{i:Nat} {a:α},l[i]?=some a->∃b,m[i]?=some b/\G a b
 | _,_,.nil,i,a,e=>by simp at e
 | _,_,.cons r t,0,a,e=>by cases e;exact⟨_,rfl,r⟩
 | _,_,.cons r t,i+1,a,e=>by
   obtain⟨b,eb,g⟩:=Qv t (by simpa using e)
   exact⟨b,by simpa using eb,g⟩
section
variable {X:Cx}
def zL (k:Int×Int):List qI:=[Sum.inl k.1,Sum.inl k.2]
def Rf:List V->Hp->VK->Prop:=λxs H Q=>∃(a:Addr) (kvs:List (List qI×V)) (ks:List (Int×Int)),xs=[.ref a]/\H a=some (.dT kvs)/\kvs.map (·.1)=ks.map zL/\(∀(i:Nat) (k k':Int×Int),ks[i]?=some k->ks[i+1]?=some k'->YN k k')/\kvs.length<=1000/\
 ∀(l:Addr) (ps:List Addr),H l=none->ps.length=ks.length->(∀(i:Nat) (p:Addr) (k:Int×Int),ps[i]?=some p->ks[i]?=some k->H p=some (.tup [.int k.1,.int k.2]))->Q (.ref l) (upd H l (.lst (ps.map V.ref)))
theorem WG:∀(ps:List Addr),qP (ps.map V.ref) (ps.map Value.ref)
 | []=>.nil
 | p::ps=>.cons rfl (WG ps)
theorem Ug (hc:X.calm=true):js X (.builtin "sorted") Rf:=by
 intro pins s σ H xs us Q I r h
 obtain⟨a,kvs,ks,rfl,ea,eks,hr,hz,q⟩:=h
 obtain⟨u,rfl,ru⟩:=j4 r
 cases ru
 obtain⟨_,hsys,ys,pr,o,es,ep,eo,ex,dat,ents,_⟩:=(show jd X.prog X.w H s.heap a (.dT kvs) from I.hok a _ ea)
 have ly:kvs.length=ys.length:=Paired.length pr
 have lk:kvs.length=ks.length:=by simpa using congrArg zax eks
 have se:es.size=ys.length:=by rw[<-zag,ents,tj]
 have key:∀i (hi:i < es.size),es[i].key=.ref ((ys.map (·.2.1)).getD i 0):=λi hi=>by
   have e1:es.toList[i]?=some es[i]:=by simp [hi]
   have hy:i < ys.length:=by omega
   rw[ents,tH,tz hy]at e1
   have e2:=(tK.inj e1).symm
   rw[e2]
   show Value.ref ys[i].2.1=_
   simp [hy]
 have tup:∀(i:Nat) (p:Addr) (k:Int×Int),(ys.map (·.2.1))[i]?=some p->ks[i]?=some k->H p=some (.tup [.int k.1,.int k.2]):=λi p k e1 e2=>by
   rw[tH]at e1
   cases ey:ys[i]? with
   | none=>rw[ey]at e1;cases e1
   | some y=>
     rw[ey]at e1
     have ep':y.2.1=p:=tK.inj e1
     have hi:i < kvs.length:=by
       have:=(tw.mp ey).1
       omega
     obtain⟨y',ey',g1,g2,_⟩:=Qv pr (tz hi)
     rw[ey]at ey'
     cases ey'
     have ek:kvs[i].1=zL k:=by
       have h1:(kvs.map (·.1))[i]?=some kvs[i].1:=by rw[tH,tz hi];rfl
       rw[eks,tH,e2]at h1
       exact(tK.inj h1).symm
     rw[ek,ep']at g2
     exact g2
 have hh:X.A.in1.handled=none:=I.ok.hd hc
 refine Calls.call_function_entry kind_sorted plain_sorted entry_sorted (args_sorted1 _) ?_
 unfold Builtin.«sorted»
 refine wpAny_bind (m:=checkCount "sorted" 1 1 _) (wpAny_pure ?_)
 refine wpAny_bind (kdu_collect (uy (es:=es) (ep:=ep) hsys) hh ⟨o,eo,ex,dat⟩ (by rw[se,sizeLine_eq];omega) λh1 tk acc k1 it=>?_)
 have eacc:acc.toList=(ys.map (·.2.1)).map Value.ref:=by
   refine zcq λi=>?_
   by_cases hi:i < es.size
   . have ha:i < acc.size:=by rw[it.1];exact hi
     have e1:acc[i]?=some acc[i]:=zbE ha
     obtain⟨h',e2⟩:=it.2 i _ e1
     rw[Array.getElem?_toList,e1,e2,key i hi,tH]
     have hy:i < (ys.map (·.2.1)).length:=by rw[tj];omega
     rw[tz hy]
     simp [zap,tz hy]
   . rw[zaU (by rw[zag,it.1];omega),zaU (by rw[tj,tj];omega)]
 rw[eacc]
 generalize hps:ys.map (·.2.1)=ps at eacc tup key
 have lp:ps.length=ks.length:=by rw[<-hps,tj];omega
 refine wpAny_bind (wpAny_newList ?_)
 have I1:qJ X pins σ H {s with heap:=h1,toks:=tk}:=I.kept (t':=tk) k1
 show wpAny _ _ _ _ _ {s with heap:=h1.push (seqObj "list" (ps.map Value.ref).toArray 0),toks:=tk}
 have oL:(h1.push (seqObj "list" (ps.map Value.ref).toArray 0)).get? h1.objs.size=some (seqObj "list" (ps.map Value.ref).toArray 0):=tJ _ rfl
 have pa:∀(i:Nat) (v:Value) (k:Int×Int),(ps.map Value.ref)[i]?=some v->ks[i]?=some k->JD (h1.push (seqObj "list" (ps.map Value.ref).toArray 0)) v k:=λi v k e1 e2=>by
   rw[tH]at e1
   cases ep1:ps[i]? with
   | none=>rw[ep1]at e1;cases e1
   | some p=>
     rw[ep1]at e1
     obtain rfl:=(tK.inj e1).symm
     obtain⟨its,rv,⟨ob,eb,cb,nb,db⟩,_⟩:=I1.tuple (.of (tup i p k ep1 e2):SqT X.K H p _)
     cases rv with
     | cons r1 rv=>
       cases rv with
       | cons r2 rv=>
         cases rv
         obtain⟨t1,rfl⟩:=r1
         obtain⟨t2,rfl⟩:=r2
         exact⟨p,ob,nb,t1,t2,rfl,tq _ eb,cb,db⟩
 refine wpAny_bind (wpAny_holding (wpAny_call_entry slot_list_sort ⟨_,oL,rfl⟩ entry_list_sort (vF oL (by rw[tj];exact lp) pa hr (by rw[tj];omega) ⟨_,rfl,?_⟩) (args_list_sort _)))
 refine wpAny_pure ⟨_,rfl,?_⟩
 have lne:∀b o,h1.get? b=some o->b≠h1.objs.size:=λb o e=>tM (tG e)
 have kf:∀b o,h1.get? b=some o->(sortedHeap (h1.push (seqObj "list" (ps.map Value.ref).toArray 0)) h1.objs.size (ps.map Value.ref) (ps.map Value.ref).toArray).get? b=some o:=λb o e=>by
   unfold sortedHeap
   rw[zaJ _ _ (Ne.symm (lne b o e))]
   exact tq _ (tq _ ((zaJ _ _ (Ne.symm (lne b o e))).trans (tq _ e)))
 obtain⟨c2,o2⟩:∃c,((h1.push (seqObj "list" (ps.map Value.ref).toArray 0)).update h1.objs.size (Obj.mapSeq λ_=>#[])).get? h1.objs.size=some (seqObj "list" #[] c):=⟨_,get?_update_seq oL (λ_=>#[])⟩
 obtain⟨c3,o3⟩:∃c,(sortedHeap (h1.push (seqObj "list" (ps.map Value.ref).toArray 0)) h1.objs.size (ps.map Value.ref) (ps.map Value.ref).toArray).get? h1.objs.size=some (seqObj "list" (ps.map Value.ref).toArray c):=
   ⟨_,get?_update_seq (tq _ (tq _ o2)) (λ_=>(ps.map Value.ref).toArray)⟩
 refine⟨.ref h1.objs.size,_,I1.laid (t':=tk) (o:=.lst (ps.map V.ref)) kf (tu _) ⟨by rw[tj,lp,<-lk];exact zab (qm hz),_,c3,WG ps,o3⟩,rfl,?_⟩
 exact q _ ps (I1.hok.fresh (tu _)) lp tup
end
section
variable {X:Cx}
def qak:V->Option Int->Option Int->Hp->VK->Prop:=λx lo hi H Q=>∃(z:Str) (j:Int),x=.str z/\lo=none/\hi=some j/\z.length<=1000/\Q (.str (Txt.slice z none (some j))) H
theorem yx:MH X qak:=by
 intro pins s σ H x v vl vu lo hi sl Q I rx hs pl pu h
 obtain⟨z,j,rfl,rfl,rfl,hz,q⟩:=h
 obtain⟨t,rfl⟩:=rx
 refine⟨"str",_,PySem.F.slot_str_getitem.lookup,typeIs_str _ _ _,?_⟩
 cases pl
 cases pu
 exact wpAny_getItem_str_slice (l:=none) (u:=some (j,_)) (st:=none) hs rfl (post_val_or_str ⟨tV (Txt.slice_le z none (some j)) (zab (qm hz)),λt' k=>⟨.str _,H,I.tok k,⟨t',rfl⟩,q⟩⟩)
theorem Yn (z:Str) (j:Nat):(Txt.slice z none (some (j:Int))).cps.toList=z.cps.toList.take j:=by
 have hl:z.cps.toList.length=z.length:=zag
 have idx:Builtin.Str.strSliceIndices none (some (j:Int)) 1 z.length=(tU (min j z.length)).map (0+·):=by
   have e:Builtin.Str.strSliceIndices none (some (j:Int)) 1 z.length=sliceRange ((0:Nat):Int) ((min j z.length:Nat):Int) 1:=by
     unfold Builtin.Str.strSliceIndices
     simp only[show (1:Int) > 0 by decide,if_true,show ¬((j:Int) < 0) by omega,if_false]
     congr 1
     omega
   rw[e,sliceRange_one]
   rfl
 unfold Txt.slice
 rw[idx]
 split
 . rename_i h
   have hm:min j z.length=z.length:=by simpa using h
   rw[tF]
   omega
 . rw[pick_run]
   show (z.cps.toList.drop 0).take (min j z.length)=_
   rw[zcW]
   by_cases hj:j<=z.length
   . rw[Nat.min_eq_left hj]
   . rw[Nat.min_eq_right (by omega),tF (by omega),tF (by omega)]
def KI (n:Nat):List V:=(tU n).map λi=>V.int (i:Nat)
def tLr (te:TE):TE:=λσ H Q=>te σ H λx H1=>∃n:Nat,x=.int n/\n<=1000/\∀l,H1 l=none->Q (.ref l) (upd H1 l (.lst (KI n)))
theorem wW {n:Nat} {acc:Array Value} (h:ItemsOf (λi v=>∃t,v=.int (0+i*1) t) acc n):qP (KI n) acc.toList:=by
 obtain⟨hz,hv⟩:=h
 refine Xt _ _ (by simp [KI,hz]) λi x u h1 h2=>?_
 have h2':acc[i]?=some u:=by simpa using h2
 obtain⟨t,rfl⟩:=hv i u h2'
 have hi:i < n:=by
   have:=(zck.mp h2').1
   omega
 unfold KI at h1
 rw[tH,zbm hi]at h1
 obtain rfl:=(tK.inj h1).symm
 refine⟨t,?_⟩
 congr 1
 omega
variable {e:Expr} {te:TE} {p1 p3 pos1 pos3:Pos}
theorem Mj (hc:X.calm=true) (g1:Gl X "list") (m1:X.mg "list"=none) (g3:Gl X "range") (m3:X.mg "range"=none) (ha:JE X e te) (hs:starEach [e] X.env=[(false,eval e X.env)]:=by rfl) (hs2:starEach [.Call (.Name "range" p3) [e] [] pos3] X.env=[(false,eval (.Call (.Name "range" p3) [e] [] pos3) X.env)]:=by rfl):JE X (.Call (.Name "list" p1) [.Call (.Name "range" p3) [e] [] pos3] [] pos1) (tLr te):=.of (by
 have ha:=ha.to
 intro pins s σ H Q I h
 refine Call_ (Jb I g1 m1 boot_list (PyProof.Rows.callWith_type1 (yo hs2 ?_) (by rw[hs2];rfl) rfl))
 refine Call_ (Jb I g3 m3 boot_range (PyProof.Rows.callWith_type1 (yo hs (jB (ha pins s σ H _ I h) λu s1 ⟨x,H1,I1,r1,q1⟩=>?_)) (by rw[hs];rfl) rfl))
 obtain⟨n,rfl,hn,q⟩:=q1
 obtain⟨t,rfl⟩:=r1
 refine call_range_1 ?_
 refine call_list_range (n:=n) (I1.ok.hd hc) (IsRange.new ..) (small_one (by omega) (by omega) (by omega) (by omega)) (UO n) (by omega) λh' tk acc' c' kp e hi=>?_
 have s1z:s1.heap.objs.size<=(s1.heap.push ({cls:=.type "range",data:=.fields #[.int 0 s1.toks,.int n t,.int 1 (s1.toks+1)]}:Obj)).objs.size:=by
   rw[zaX]
   omega
 exact⟨.ref _,_,I1.laid (t':=tk) (o:=.lst (KI n)) (λb o eb=>kp b o (tq _ eb)) s1z ⟨by simp only[KI,tj,zai];exact zab (qm hn),acc'.toList,c',wW hi,by simpa using e⟩,rfl,q _ (I1.hok.fresh s1z)⟩)
theorem kY (hc:X.calm=true):js X (.type "set") (λxs H Q=>∃(p:Addr) (ns:List Int),xs=[.ref p]/\SqL X.K H p (ns.map V.int)/\ns.length<=1000/\∀l S,H l=none->Q (.ref l) (upd H l (.set S (firstMet (λi=>ns.getD i 0) ns.length).length))):=by
 intro pins s σ H xs us Q I r h
 obtain⟨p,ns,rfl,hq,hz,q⟩:=h
 obtain⟨u,rfl,ru⟩:=j4 r
 cases ru
 obtain⟨its,rv,pl,_⟩:=I.list hq
 have hl:=rv.length
 rw[tj]at hl
 have hsz:its.toArray.size=ns.length:=by rw[tW,<-hl]
 refine call_set_list (ns:=ns) (I.ok.hd hc) pl.isList (by simpa using V4 rv) (by rw[hsz];show ns.length+1 < 4096;omega) λh' tk so kp=>?_
 rw[hsz]at so
 exact⟨.ref s.heap.objs.size,_,I.laid (t':=tk) (o:=.set _ _) (λb o e=>kp b o (tG e) e) (tu _) so,rfl,q _ _ (I.hok.fresh (tu _))⟩
theorem Vp:js X (.builtin "len") (λxs H Q=>∃a S n,xs=[V.ref a]/\H a=some (.set S n)/\Q (.int (n:Nat)) H):=by
 intro pins s σ H xs us Q I r h
 obtain⟨a,S,n,rfl,ea,q⟩:=h
 obtain⟨u,rfl,ru⟩:=j4 r
 cases ru
 obtain⟨o,es,ep,t,e1,e2,e3,_,_,b,f,rfl⟩:=(show jd X.prog X.w H s.heap a (.set S n) from I.hok a _ ea)
 refine call_len_set e1 e2 e3 f (by have:es.size < 4096:=b;omega) ⟨.int _,H,I.tok _,⟨_,rfl⟩,q⟩
end
open PySem PySem.Spec PyProof.Rows
def MQ (K:PySem.W.Frag) (a:Addr):It:=⟨λi H=>∃xs x,SqL K H a xs/\xs[i]?=some x,
 λi H v H'=>∃p,H p=none/\v=.ref p/\∀xs x,SqL K H a xs->xs[i]?=some x->H'=upd H p (.tup [.int (i:Nat),x]),
 λi H=>∃xs,SqL K H a xs/\xs.length<=i⟩
theorem vA {P:Program} {w:World} {K:PySem.W.Frag} {elts:List Expr} {x1:Nat} {tpos:Pos} (a e it:Addr) (hne:e≠it):
   WA P w K (.Tuple elts x1 tpos) (MQ K a) [e,it] e (λi h=>(∃old,IsEnum h e it i old)/\h.IsListIter it a i) where
 mem:=by simp
 obj:=λi h st c hc=>by
   obtain⟨⟨old,he⟩,⟨o1,e1,c1,d1⟩⟩:=st
   simp only[tR,zaF,or_false]at hc
   rcases hc with rfl | rfl
   . exact⟨_,he,λv z=>by cases z⟩
   . exact⟨o1,e1,λv z=>by rw[d1]at z;cases z⟩
 keep:=λi h h' st k=>by
   obtain⟨⟨old,he⟩,h1⟩:=st
   exact⟨⟨old,k e (by simp) _ he⟩,h1.at λo e=>k it (by simp) o e⟩
 item:=by
   intro X hP hw hK hc i pins s σ H E I hf st hg
   subst hP hw hK
   obtain⟨⟨old,he⟩,h1⟩:=st
   obtain⟨xs,x,qa,hx⟩:=hg
   obtain⟨its,rv,p,_⟩:=I.list qa
   obtain⟨u,hu,ru⟩:=rv.get hx
   refine wpAny_pyNext_enum_item he h1 p.isList (x:=u) (by simpa using hu) hne λh' z1 z2 z3 z4 kk=>⟨_,rfl,?_⟩
   refine wpAny_letOwnedTupleGo_enum z1 λh'' z1' sb=>?_
   have nT:∀c o,s.heap.get? c=some o->s.heap.objs.size≠c:=λc o e=>zbz (tG e)
   have kT:∀c o,c≠e->h'.get? c=some o->h''.get? c=some o:=λc o hc e=>(sb.2 c hc).trans e
   have I1:qJ X pins σ (upd H s.heap.objs.size (.tup [.int (i:Nat),x])) {s with heap:=h'',toks:=s.toks+1}:=I.turnLaid (L:=[e,it]) (t':=s.toks+1)
     (λc o hc e=>kT c o (λz=>hc (by simp [z])) (kk c o (λz=>hc (by simp [z])) (λz=>hc (by simp [z])) e)) hf (tu _)
     ⟨by show 2<=sizeLine;decide,[.int i s.toks,u],.cons ⟨_,rfl⟩ (.cons ru .nil),⟨_,kT _ _ (nT _ _ he) z3,rfl,_,rfl⟩⟩
   refine⟨.ref s.heap.objs.size,_,I1,rfl,⟨s.heap.objs.size,I.hok.fresh (tu _),rfl,λxs' x' qa' hx'=>?_⟩,⟨⟨_,z1'⟩,z2.at λo e=>kT _ o (Ne.symm hne) e⟩,λc hc=>?_⟩
   . rw[I.list_inj qa' qa,hx]at hx'
     cases hx'
     rfl
   . have h0:=(hf c hc).1
     by_cases ec:c=s.heap.objs.size
     . subst ec
       obtain⟨o1,e1,_⟩:=h1
       simp only[tR,zaF,or_false]at hc
       rcases hc with e | e
       . exact absurd e (nT _ _ he)
       . exact absurd e (nT _ _ e1)
     . rw[qi ec];exact h0
 done:=by
   intro X hP hw hK hc i pins s σ H E I hf st hg
   subst hP hw hK
   obtain⟨⟨old,he⟩,h1⟩:=st
   obtain⟨xs,qa,hl⟩:=hg
   obtain⟨its,rv,p,_⟩:=I.list qa
   have l1:=rv.length
   exact wpAny_pyNext_enum_end (I.ok.hd hc) he h1 p.isList (by simp;omega) λh' kk=>⟨rfl,I.turnedL (L:=[e,it]) (t':=s.toks) (λc o hc e=>kk c o (λz=>hc (by simp [z])) e) hf⟩
 self:=λ_ _ _ _ _ st h=>let ⟨⟨_,he⟩,_⟩:=st;wpAny_pyIter_enum he h
section
variable {X:Cx} {elts:List Expr} {x1:Nat} {tpos:Pos}
def Mp (K:PySem.W.Frag) (ta:TA):TI:=λσ H R=>ta σ H λvs H1=>∃a,vs=[.ref a]/\(∃xs,SqL K H1 a xs)/\R (MQ K a) H1
theorem Kc {a:Expr} {ta:TA} {p pos:Pos} (hg:Gl X "enumerate") (hm:X.mg "enumerate"=none) (ha:JA X [a] ta) (hs:starEach [a] X.env=[(false,eval a X.env)]:=by rfl):JI X (.Tuple elts x1 tpos) (.Call (.Name "enumerate" p) [a] [] pos) (Mp X.K ta):=.of (by
 have ha:=ha.to
 intro pins s σ H R I h
 refine Call_ (Jb I hg hm boot_enumerate (PyProof.Rows.callWith_type1 (jB (ha pos pins s σ H _ I h) λus s1 ⟨vs,H1,I1,r1,q1⟩=>?_) (by rw[hs];rfl) rfl))
 obtain⟨l,e,⟨xs,qa⟩,q⟩:=q1
 subst e
 cases r1 with
 | cons r rr=>
   cases rr
   cases r
   obtain⟨its,rv,p,_⟩:=I1.list qa
   refine call_enumerate_list p.isList λh' z1 z2 z3 kk=>?_
   refine wpAny_pyIter_enum z1 ?_
   have I2:qJ X pins σ H1 {s1 with heap:=h'}:=I1.kept (t':=s1.toks) kk
   have fr:∀c,s1.heap.objs.size<=c->ZK X pins H1 c:=λc hc=>I1.fpOk hc (I1.hok.fresh hc)
   refine⟨s1.heap.objs.size+1,[s1.heap.objs.size+1,s1.heap.objs.size],_,_,H1,rfl,I2,vA l (s1.heap.objs.size+1) s1.heap.objs.size (Nat.succ_ne_self _),⟨⟨_,z1⟩,z2⟩,λc hc=>?_,q⟩
   simp only[tR,zaF,or_false]at hc
   rcases hc with e | e<;>rw[e]<;>first | exact fr _ (Nat.le_add_right _ _) | exact fr _ (tu _))
end
theorem ww {K:PySem.W.Frag} {a:Addr} {xs:List V} {g:TG} {tb:TS} {D:QN} {σ:St} {H:Hp} (Pv:Nat->St->Hp->Prop) (h0:Pv 0 σ H) (hl:∀i σ H,i<=xs.length->Pv i σ H->SqL K H a xs)
   (hs:∀i x σ H p,xs[i]?=some x->H p=none->Pv i σ H->g (.ref p) σ (upd H p (.tup [.int (i:Nat),x])) λσ2 H2=>tb {D with nx:=Pv (i+1),ct:=Pv (i+1),bk:=D.nx} σ2 H2) (hd:∀σ H,Pv xs.length σ H->D.nx σ H):
   ∃W:Nat->Nat->St->Hp->Prop,(∃m,W 0 m σ H)/\∀i m σ H,W i m σ H->
    ((MQ K a).stop i H/\D.nx σ H)\/((MQ K a).go i H/\∃N:St->Hp->Prop,(∀σ' H',N σ' H'->∃m',m' < m/\W (i+1) m' σ' H')/\∀x H',(MQ K a).yld i H x H'->g x σ H' λσ2 H2=>tb {D with nx:=N,ct:=N,bk:=D.nx} σ2 H2):=by
 refine⟨λi m σ H=>m=xs.length - i/\i<=xs.length/\Pv i σ H,⟨xs.length,by simp,zah _,h0⟩,?_⟩
 rintro i m σ H ⟨rfl,hi,p⟩
 have qa:=hl i σ H hi p
 by_cases hlt:i < xs.length
 . have ex:xs[i]?=some xs[i]:=tz hlt
   refine .inr ⟨⟨xs,_,qa,ex⟩,Pv (i+1),λσ' H' p'=>⟨xs.length - (i+1),by omega,rfl,hlt,p'⟩,λx H' yl=>?_⟩
   obtain⟨pp,hp,rfl,e⟩:=yl
   rw[e xs _ qa ex]
   exact hs i _ σ H pp ex hp p
 . have e:i=xs.length:=by omega
   subst e
   exact .inl ⟨⟨xs,qa,tu _⟩,hd σ H p⟩
theorem JZ (ns:List Nat):∀i,i<=ns.length->preSum (λj=>((ns.getD j 0:Nat):Int)) i=(((ns.take i).sum:Nat):Int)
 | 0,_=>by simp [preSum]
 | i+1,h=>by
   have hi:i < ns.length:=h
   show preSum _ i+_=_
   rw[JZ ns i (zab hi),tQ,tz hi,zcL]
   simp [zap,tz hi]
theorem zJ (ns:List Nat) (i:Nat):(ns.take i).sum<=ns.sum:=by
 have h:(ns.take i++ns.drop i).sum=ns.sum:=by rw[List.take_append_drop]
 rw[zcL]at h
 omega
theorem Vh (ns:List Nat) (i:Nat):ns.getD i 0<=ns.sum:=by
 have h:=zJ ns (i+1)
 rw[tQ,zcL]at h
 rw[zap]
 cases e:ns[i]? with
 | none=>exact zah _
 | some x=>
   rw[e]at h
   simp at h ⊢
   omega
section
variable {X:Cx}
theorem kU (hc:X.calm=true):js X (.builtin "sum") (λxs H Q=>∃(p:Addr) (ns:List Nat),xs=[.ref p]/\SqL X.K H p (ns.map λn=>V.int ((n:Nat):Int))/\ns.sum < 2^62/\Q (.int (ns.sum:Nat)) H):=by
 intro pins s σ H xs us Q I r h
 obtain⟨p,ns,rfl,hq,hs,q⟩:=h
 obtain⟨u,rfl,rx⟩:=j4 r
 cases rx
 obtain⟨its,rv,pl,hz⟩:=I.list hq
 have hlt:p < s.heap.objs.size:=by
   obtain⟨o,n,e,_⟩:=pl
   exact tG e
 have hn:its.toArray.size=ns.length:=by
   have:=rv.length
   rw[tj]at this
   simp only[tW]
   omega
 have hh:X.A.in1.handled=none:=I.ok.hd hc
 refine call_sum_walk (wpAny_pyIter_list pl.isList ?_)
 refine⟨s.heap.objs.size,[s.heap.objs.size,p],[s.heap.objs.size],its.toArray.size,λi v=>its.toArray[i]?=some v,_,λj=>((ns.getD j 0:Nat):Int),rfl,Walks.list hh s.heap.objs.size p (tM hlt) its.toArray,
   ⟨⟨_,tJ _ rfl,rfl,rfl⟩,pl.isList.at λo e=>tq _ e⟩,?_,?_,?_,λh' tk t' hk=>?_⟩
 . intro b hb
   show b < (s.heap.push _).objs.size
   rw[zaX]
   simp only[tR,zaF,or_false]at hb
   rcases hb with e | e
   . rw[e];exact zaI _
   . rw[e];exact zbu hlt
 . intro i v hP
   have hi:its[i]?=some v:=by simpa using hP
   cases e:ns[i]? with
   | none=>
     exfalso
     have h1:(ns.map λn=>V.int ((n:Nat):Int))[i]?=none:=by rw[tH,e];rfl
     rw[qP.none_of rv h1]at hi
     cases hi
   | some b=>
     have h1:(ns.map λn=>V.int ((n:Nat):Int))[i]?=some (V.int b):=by rw[tH,e];rfl
     obtain⟨u,hu,ru⟩:=rv.get h1
     rw[hi]at hu
     cases hu
     obtain⟨t,rfl⟩:=ru
     refine⟨t,?_⟩
     show Value.int b t=.int ((ns.getD i 0:Nat):Int) t
     rw[zap,e]
     rfl
 . intro j hj
   rw[hn]at hj
   have h1:=Vh ns j
   have h2:=zJ ns (j+1)
   have h3:=JZ ns (j+1) hj
   refine⟨⟨?_,?_⟩,⟨?_,?_⟩⟩
   . show -(2^63)<=((ns.getD j 0:Nat):Int)
     omega
   . show ((ns.getD j 0:Nat):Int) < 2^63
     omega
   . rw[h3];omega
   . rw[h3];omega
 . rw[hn,JZ ns _ (tu _),tF (tu _)]
   refine⟨.int (ns.sum:Nat),H,?_,⟨_,rfl⟩,q⟩
   exact I.kept (h':=h') (t':=tk) λb o e=>hk b o (by
     intro z
     have z':b=s.heap.objs.size:=by simpa using z
     exact absurd (tG e) (by rw[z'];exact zay _)) (tq _ e)
end
open PySem PySem.Spec PyProof.Rows
structure Fly (fs:List Addr) (ex:List Addr) (h h':Heap):Prop where
 keep:∀b o,b∉fs->b∉ex->h.get? b=some o->h'.get? b=some o
 slot:∀b o,b∈fs->b∉ex->h.get? b=some o->∃sl,h'.get? b=some {o with slots:=sl}
section
variable {M:Model} {A:Around} {E:Value->Shared->Prop} {s:Shared} {base:Heap} {env:Env} {outer:List Env} {L e:Addr} {cl head:Value} {d:Option Addr} {vs:Array Value} {had:Bool} {Q:Unit->Shared->Prop}
end
structure Track (ex:List Addr) (n:Nat) (H H':Hp):Prop where
 ext:∀b∈ex,∃φ,H b=some (.ext φ)
 same:∀b o,b∉ex->H b=some o->H' b=some o
 no:∀b,b < n->H b=none->H' b=none
section
variable {P:Program} {w:World} {fs ex:List Addr} {H H':Hp} {h h':Heap}
end
open PySem PySem.Spec PyProof.Rows
section
variable {X:Cx} {pins:List (Addr×Obj)} {σ:St} {H H':Hp} {s:Shared} {h':Heap} {ex:List Addr}
end
section
variable {P:Program} {w:World} {K:PySem.W.Frag} {mg:Str->Option Value} {base:Heap} {N:List Str} {qual:Str} {scope:Scope} {f:Addr} {cd:Value} {A:Around} {outer:List Env} {s₀:Shared} {H₀:Hp} {E:XK}
end
open PySem PySem.Spec PyProof.Rows
section
variable {M:Model} {A:Around} {E:Value->Shared->Prop} {s:Shared} {env:Env} {C:Addr}
end
section
variable {X:Cx} {E:XK} {e:Expr} {te:TE} {pos:Pos}
end
open PySem PySem.Spec PyProof.Rows
section
variable {M:Model} {A:Around} {E:Value->Shared->Prop}
end
open PySem PySem.Spec PyProof.Rows
section
variable {X:Cx} {CX:WF} {k:Nat} {f C:Addr} {fd:FuncData} {ps:List Str} {sp:Sp} {dvs:List V} {ds:List Value} {E:St->XK} {x m:Str} {p pos apos:Pos} {e o:Expr} {es:List Expr} {ta:TE} {t:TA}
end
open PySem PySem.Spec PyProof.Rows
section
variable {X:Cx} {pins:List (Addr×Obj)} {σ:St} {H:Hp} {s:Shared} {a b:Addr} {kvs more:List (qI×V)} {A:Around} {E:Value->Shared->Prop}
end
section
variable {X:Cx} {o e:Expr} {apos cpos:Pos} {td ty:TE}
end
theorem qaC {us:List Value} (h:us.length=0):us=[]:=zbo h
theorem u3 {us:List Value} {n:Nat} (h:us.length=n+1):∃a r,us=a::r/\r.length=n:=by
 cases us with
 | nil=>cases h
 | cons a r=>exact⟨a,r,rfl,zcx.inj h⟩
theorem QT {us:List Value} (h:us.length=1):∃a,us=[a]:=by
 obtain⟨a,r,rfl,h'⟩:=u3 h
 exact⟨a,by rw[qaC h']⟩
theorem Zm {us:List Value} (h:us.length=2):∃a b,us=[a,b]:=by
 obtain⟨a,r,rfl,h'⟩:=u3 h
 obtain⟨b,rfl⟩:=QT h'
 exact⟨a,b,rfl⟩
theorem Vb {us:List Value} (h:us.length=3):∃a b c,us=[a,b,c]:=by
 obtain⟨a,r,rfl,h'⟩:=u3 h
 obtain⟨b,c,rfl⟩:=Zm h'
 exact⟨a,b,c,rfl⟩
theorem xD {us:List Value} (h:us.length=4):∃a b c d,us=[a,b,c,d]:=by
 obtain⟨a,r,rfl,h'⟩:=u3 h
 obtain⟨b,c,d,rfl⟩:=Vb h'
 exact⟨a,b,c,d,rfl⟩
open PySem PySem.Spec PyProof.Rows
section
variable {X:Cx} {pins:List (Addr×Obj)} {σ:St} {H:Hp} {s:Shared} {E:Value->Shared->Prop} {a:Value}
end
section
variable {X:Cx} {f:Str} {e:Expr} {pos:Pos} {ta:TE} {bm:List Value}
end
end L2
namespace PySem
open PySem.Spec
namespace F
theorem plain_dupd_loop:plainId "dict.update.loop"=true:=by decide+kernel
theorem entry_dupd_loop:entryFor table "dict.update.loop"=some Builtin.«dict.update.loop»:=entryFor_of_fast (by kernel_rfl)
end F
theorem Heap.DictOf.keepsAt {prog:Program} {w:World} {κ:Type} [DecidableEq κ] {knd:KeyKind prog w κ} {h h':Heap} {a:Addr} {kvs:List (κ×Value)} (hm:h.DictOf knd a kvs) (k:∀o,h.get? a=some o->h'.get? a=some o):h'.DictOf knd a kvs:=
 let ⟨o,es,ep,ho,r⟩:=hm;⟨o,es,ep,k o ho,r⟩
section
variable {prog:Program} {w:World} {A:Around} {R:Result->Shared->Prop} {I:Addr} {fp wr:List Addr} {n:Nat} {P:Nat->Value->Prop} {St:Nat->Heap->Prop} {κ:Type} [DecidableEq κ] {knd:KeyKind prog w κ}
def Ng (knd:KeyKind prog w κ) (h:Heap) (wr:List Addr) (d:Addr) (v:Value) (kv:κ×Value):Prop:=∃p o c k,v=.ref p/\h.get? p=some o/\o.cls=.type "tuple"/\o.data=.seq #[k,kv.2] c/\knd.is kv.1 k=true/\p∉wr/\p≠d
theorem zg (W:Walks prog w A.in1 I fp wr n P St) (kv:Nat->κ×Value) (d:Addr) (hdf:d∉fp) (hn:n<=1000):
   ∀(k i:Nat) (s:Shared) (t:Tok) (kvs:List (κ×Value)),n - i=k->i<=n->St i s.heap->s.heap.DictOf knd d kvs->kvs.length<=i->(∀j v,P j v->Ng knd s.heap wr d v (kv j))->
   (∀h' tk,h'.DictOf knd d (merged kvs (((tU n).drop i).map kv))->(∀b o,b∉wr->b≠d->s.heap.get? b=some o->h'.get? b=some o)->R (.ok (.ret .none)) {s with heap:=h',toks:=tk})->
   codeAny (model prog w) A (.builtin "dict.update.loop" ⟨[.ref d,.ref I,.int i t,.none],[]⟩) R s:=by
 have hdw:d∉wr:=λh=>hdf (W.sub _ h)
 intro k
 induction k with
 | zero=>
   intro i s t kvs hk hi hst hd hl hp hR
   have hin:i=n:=by omega
   subst hin
   refine codeAny_builtin F.entry_dupd_loop ?_
   rw[Around.under_plainId F.plain_dupd_loop _]
   show wpAny _ A.in1 (pyNext (.ref I) >>= _) _ _ s
   refine wpAny_bind (W.done s _ _ hst λh' tk hk'=>?_)
   show wpAny _ A.in1 (Builtin.Dict.addKeywords d [] >>= _) _ _ _
   refine wpAny_bind (wpAny_pure (wpAny_pure (hR h' tk ?_ λb o hb _ e=>hk' b o hb e)))
   rw[List.drop_of_length_le (by simp)]
   exact hd.keepsAt λo e=>hk' d o hdw e
 | succ k ih=>
   intro i s t kvs hk hi hst hd hl hp hR
   have hlt:i < n:=by omega
   refine codeAny_builtin F.entry_dupd_loop ?_
   rw[Around.under_plainId F.plain_dupd_loop _]
   show wpAny _ A.in1 (pyNext (.ref I) >>= _) _ _ s
   refine wpAny_bind (W.item i s _ _ hlt hst λv h' tk hP hst' hk'=>?_)
   obtain⟨p,o,c,key,rfl,ho,hc,hdat,hkey,hpw,hpd⟩:=hp i v hP
   have ho':=hk' p o hpw ho
   have hd':h'.DictOf knd d kvs:=hd.keepsAt λo e=>hk' d o hdw e
   have ty:(⟨h',s.gens,s.drawn,tk,s.os⟩:Shared).TypeIs (.ref p) "tuple":=⟨o,ho',hc⟩
   refine wpAny_bind (wpAny_holding (wpAny_bind (wpAny_tryCatch ?_)))
   unfold Builtin.Dict.pairItems
   refine wpAny_bind (wpAny_typeOf ty ?_)
   rw[if_pos (by decide)]
   refine wpAny_bind (wpAny_seqItems ho' hdat (wpAny_pure ?_))
   refine(show wpAny _ _ (holding [key,(kv i).2] (dictSet d key (kv i).2)) _ _ _ from wpAny_holding (wpAny_dictSet_pairs hkey hd' (λh'' dd hs=>?_) (by rw[sizeLine_eq];omega)))
   refine wpAny_pure ⟨plainId_quiet F.plain_dupd_loop _,?_⟩
   have keep:∀b o,b∉wr->b≠d->s.heap.get? b=some o->h''.get? b=some o:=λb o hb hbd e=>(hs.2 b hbd).trans (hk' b o hb e)
   have len:(stored kvs (kv i).1 (kv i).2).length<=i+1:=by
     have:=stored_length_le kvs (kv i).1 (kv i).2
     omega
   refine ih (i+1) _ _ (stored kvs (kv i).1 (kv i).2) (by omega) hlt (W.frame _ _ _ hst' λb hb o e=>(hs.2 b (λz=>hdf (z▸hb))).trans e) dd len (λj v hj=>?_) λh3 tk3 d3 k3=>?_
   . obtain⟨p,o,c,k,e1,e2,r⟩:=hp j v hj
     exact⟨p,o,c,k,e1,keep p o r.2.2.2.1 r.2.2.2.2 e2,r⟩
   . refine hR h3 tk3 ?_ λb o hb hbd e=>k3 b o hb hbd (keep b o hb hbd e)
     have e:(tU n).drop i=i::(tU n).drop (i+1):=by
       rw[zcn (by simpa using hlt)]
       simp
     rw[e]
     exact d3
end
section
variable {prog:Program} {w:World} {A:Around} {E:Value->Shared->Prop} {s:Shared} {κ:Type} [DecidableEq κ] {knd:KeyKind prog w κ}
theorem Wk:typeLookup (.type "list") "keys"=pure none:=by rw[typeLookup_type,builtinLookup_eq_fast];kernel_rfl
theorem Wm {a:Addr} {o:Obj} {xs:Array Value} {k:Nat} {Q:Option Value->Shared->Prop} (hx:s.heap.get? a=some o) (hc:o.cls=.type "list") (hdat:o.data=.seq xs k) (hd:o.dict=none) (hA:A.handled=none)
   (h:∀h' tk,(∀b o,s.heap.get? b=some o->h'.get? b=some o)->Q none {s with heap:=h',toks:=tk}):wpAny (model prog w) A (getAttr? (.ref a) "keys") Q E s:=by
 obtain⟨c,dct,dat,sl⟩:=o
 simp only at hc hdat hd
 subst hc hdat hd
 obtain⟨hp,g,d,tk,os⟩:=s
 have hT:∀tk',(⟨hp,g,d,tk',os⟩:Shared).TypeIs (.ref a) "list":=λ_=>⟨_,hx,rfl⟩
 have f1:=sub_AttributeError
 have f3:=F.slot_list_getattribute.lookup
 have f4:=F.slot_list_getattribute.bind (.ref a)
 have f5:=am_list_getattr_none
 unfold getAttr? getAttrBy? getAttrBy
 repeat (any_goals (first | assumption | exact hT _ | ((with_reducible show wpAny _ _ (call (Value.builtin "list.__getattribute__") _ _) _ _ _);refine call_meets F.slot_list_getattribute (hT _) am_entry_list_getattribute (F.args_list_getattribute_2 _ _) (meets_getattribute_miss_list a xs k sl "keys" _ Wk (by decide+kernel)) ⟨hx,hA,λh' tk' e hx'=>?_⟩) | wp_step))
 obtain⟨t',u',he⟩:=hx'.there
 show wpAny _ _ (getattributeRaised _ _ _ _ _ _ _) _ _ _
 unfold getattributeRaised
 repeat (any_goals (first | assumption | wp_step))
 exact h _ _ hx'.of.keeps
theorem zW {src:Addr} {items:Array Value} {kv:Nat->κ×Value} {Q:Value->Shared->Prop} (pl:PlainL s.heap src items) (hp:∀j v,items[j]?=some v->∃p o c key,v=.ref p/\s.heap.get? p=some o/\o.cls=.type "tuple"/\o.data=.seq #[key,(kv j).2] c/\knd.is (kv j).1 key=true)
   (hn:items.size<=1000) (hA:A.handled=none)
   (h:∀h' tk,h'.DictOf knd s.heap.objs.size (merged [] ((tU items.size).map kv))->(∀b o,s.heap.get? b=some o->h'.get? b=some o)->Q (.ref s.heap.objs.size) {s with heap:=h',toks:=tk}):
   wpAny (model prog w) A (call (.type "dict") [.ref src]) Q E s:=by
 refine callType_codes (Q₁:=λobj s₁=>obj=.ref s.heap.objs.size/\s₁={s with heap:=s.heap.push {cls:=.type "dict",data:=.dict #[]}}) F.kt_called_dict (F.kt_typeCall_dict_1 _) F.entry_dict_init (kt_code_dict_new _ ⟨rfl,rfl⟩) ?_
 rintro obj s₁ ⟨rfl,rfl⟩
 have hnew:(s.heap.push {cls:=.type "dict",data:=.dict #[]}).DictOf knd s.heap.objs.size []:=Heap.DictOf.new s.heap
 have hp0:∀b o,s.heap.get? b=some o->(s.heap.push {cls:=.type "dict",data:=.dict #[]}).get? b=some o:=λb o e=>tq _ e
 obtain⟨ol,nl,ho,hc,hd,hdat⟩:=id pl
 have ty:(⟨s.heap.push {cls:=.type "dict",data:=.dict #[]},s.gens,s.drawn,s.toks,s.os⟩:Shared).TypeIs (.ref src) "list":=⟨ol,hp0 _ _ ho,hc⟩
 refine⟨hnew.typeIs,F.args_dict_init_2 _ _,?_⟩
 unfold Builtin.«dict.__init__»
 refine wpAny_bind ?_
 unfold Builtin.Dict.selfAndRest
 refine wpAny_bind (wpAny_notOrdered_dict hnew.typeIs ?_)
 show wpAny _ _ (pure (s.heap.objs.size,[Value.ref src])) _ _ _
 refine wpAny_pure ?_
 show wpAny _ _ (Builtin.Dict.updateFrom "dict.__init__" s.heap.objs.size (.ref src) [] .none) _ _ _
 unfold Builtin.Dict.updateFrom
 refine wpAny_bind (wpAny_typeOf ty ?_)
 rw[if_pos (by decide)]
 refine wpAny_bind (Wm (hp0 _ _ ho) hc hdat hd hA λh1 tk1 k1=>?_)
 rw[if_pos (show (none:Option Value).isNone=true from rfl)]
 refine wpAny_bind (wpAny_rule ?_)
 have pl1:PlainL h1 src items:=⟨ol,nl,k1 _ _ (hp0 _ _ ho),hc,hd,hdat⟩
 have hlt:src < h1.objs.size:=tG (k1 _ _ (hp0 _ _ ho))
 have hnew1:h1.DictOf knd s.heap.objs.size []:=hnew.keepsAt λo e=>k1 _ o e
 have hld:s.heap.objs.size < h1.objs.size:=by
   obtain⟨o,_,_,e,_⟩:=hnew1
   exact tG e
 refine wpAny_bind (wpAny_pyIter_list pl1.isList ?_)
 refine wpAny_pure ⟨plainId_quiet F.plain_dupd_loop _,?_⟩
 have W:=Walks.list (prog:=prog) (w:=w) (A:=A.in1.in1) hA h1.objs.size src (tM hlt) items
 have nsrc:s.heap.objs.size≠src:=Ne.symm (tM (tG ho))
 refine zg (A:=A.in1) W kv s.heap.objs.size (by simp only[tR,zaF,or_false,not_or];exact⟨tM hld,nsrc⟩) hn items.size 0 _ _ [] (by omega) (zah _)
   ⟨⟨_,tJ _ rfl,rfl,rfl⟩,pl1.isList.at λo e=>tq _ e⟩ (hnew1.push _) (zah _) (λj v hj=>?_) λh2 tk2 d2 k2=>⟨rfl,h h2 tk2 d2 λb o e=>?_⟩
 . obtain⟨p,o,c,key,e1,e2,e3,e4,e5⟩:=hp j v hj
   have e2':=k1 _ _ (hp0 _ _ e2)
   refine⟨p,o,c,key,e1,tq _ e2',e3,e4,e5,?_,tM (tG e2)⟩
   simp only[tR,zaF,or_false]
   exact tM (tG e2')
 . have e':=k1 _ _ (hp0 _ _ e)
   refine k2 b o ?_ (tM (tG e)) (tq _ e')
   simp only[tR,zaF,or_false]
   exact tM (tG e')
end
end PySem
namespace L2
open PySem PySem.Spec PyProof.Rows
section
variable {X:Cx} {pins:List (Addr×Obj)} {σ:St} {H:Hp} {s:Shared}
def yW (K:PySem.W.Frag):List V->Hp->VK->Prop:=λxs H Q=>∃(p:Addr) (ps:List Addr) (kvs:List (qI×V)),xs=[.ref p]/\SqL K H p (ps.map V.ref)/\ps.length=kvs.length/\(∀(i:Nat) (a:Addr) (kv:qI×V),ps[i]?=some a->kvs[i]?=some kv->SqT K H a [kV kv.1,kv.2])/\kvs.length<=1000/\
 ∀d,H d=none->Q (.ref d) (upd H d (.dK (Qo [] kvs)))
theorem YF (I:qJ X pins σ H s):∀(ps:List Addr) (kvs:List (qI×V)),ps.length=kvs.length->(∀(i:Nat) (a:Addr) (kv:qI×V),ps[i]?=some a->kvs[i]?=some kv->SqT X.K H a [kV kv.1,kv.2])->
   ∃rs:List (qI×Value),KV kvs rs/\rs.length=ps.length/\∀(i:Nat) (a:Addr),ps[i]?=some a->∃kv o c key,rs[i]?=some kv/\s.heap.get? a=some o/\o.cls=.type "tuple"/\o.data=.seq #[key,kv.2] c/\(qQ X.prog X.w).is kv.1 key=true
 | [],[],_,_=>⟨[],.nil,rfl,λi a e=>by simp at e⟩
 | [],_::_,h,_=>by cases h
 | _::_,[],h,_=>by cases h
 | a::ps,kv::kvs,h,k=>by
   obtain⟨rs,r1,r2,r3⟩:=YF I ps kvs (zcx.inj h) λi a' kv' e1 e2=>k (i+1) a' kv' (by simpa using e1) (by simpa using e2)
   obtain⟨its,rv,⟨o,e,c1,n1,d1⟩,_⟩:=I.tuple (k 0 a kv rfl rfl)
   cases rv with
   | cons ra rt=>
     cases rt with
     | cons rb rn=>
       cases rn
       rename_i u1 u2
       refine⟨(kv.1,u2)::rs,.cons ⟨rfl,rb⟩ r1,by simp [r2],λi a' e'=>?_⟩
       cases i with
       | zero=>
         cases e'
         exact⟨_,o,n1,u1,rfl,e,c1,d1,zP ra⟩
       | succ i=>exact r3 i a' (by simpa using e')
theorem Y4 (hc:X.calm=true):js X (.type "dict") (yW X.K):=by
 intro pins s σ H xs us Q I r h
 obtain⟨p,ps,kvs,rfl,hl,le,hps,hz,q⟩:=h
 obtain⟨u,rfl,ru⟩:=j4 r
 cases ru
 obtain⟨its,rv,pl,_⟩:=I.list hl
 obtain rfl:=Xi rv
 obtain⟨rs,r1,r2,r3⟩:=YF I ps kvs le hps
 have hsz:(ps.map Value.ref).toArray.size=rs.length:=by simp [r2]
 have hR:(tU (ps.map Value.ref).toArray.size).map (λj=>(rs[j]?).getD (Sum.inl 0,Value.none))=rs:=by
   rw[hsz]
   refine zcq λi=>?_
   rw[tH]
   by_cases hi:i < rs.length
   . rw[zbm hi,tz hi]
     simp [hi]
   . rw[zaU (by rw[zai];omega),zaU (by omega)]
     rfl
 refine zW (knd:=qQ X.prog X.w) (kv:=λj=>(rs[j]?).getD (Sum.inl 0,Value.none)) pl (λj v hj=>?_) (by rw[hsz,r2,le];exact hz) (I.ok.hd hc) λh' tk dd kp=>?_
 . have hj':(ps.map Value.ref)[j]?=some v:=by simpa using hj
   rw[tH]at hj'
   cases e:ps[j]? with
   | none=>rw[e]at hj';cases hj'
   | some a=>
     rw[e]at hj'
     obtain⟨kv,o,c,key,f1,f2,f3,f4,f5⟩:=r3 j a e
     refine⟨a,o,c,key,(tK.inj hj').symm,f2,f3,?_,?_⟩
     . show o.data=.seq #[key,((rs[j]?).getD (Sum.inl 0,Value.none)).2] c
       rw[f1]
       exact f4
     . show (qQ X.prog X.w).is ((rs[j]?).getD (Sum.inl 0,Value.none)).1 key=true
       rw[f1]
       exact f5
 . rw[hR]at dd
   have hn:=I.hok.fresh (tu s.heap.objs.size)
   have big:(s.heap.objs.size==sysModules)=false:=beq_eq_false_iff_ne.mpr (Ne.symm (tM I.big))
   have hlen:(Qo [] kvs).length<=sizeLine:=by
     have:=Ja kvs []
     rw[zcJ]at this
     rw[sizeLine_eq]
     omega
   exact⟨.ref s.heap.objs.size,_,I.laid (a:=s.heap.objs.size) (o:=.dK (Qo [] kvs)) (h':=h') (t':=tk) kp (tu _) (Y0 hlen big (r1.merge .nil) dd),rfl,q _ hn⟩
end
open PySem PySem.Spec PySem.W PyProof.Rows
section
variable {α β:Type} {lt:Nat->Nat->Bool} {n:Nat}
def evT (lt:Nat->Nat->Bool):KasT α->α
 | .ret a=>a
 | .ask i j k=>evT lt (k (lt i j))
end
def ltS (zs:List Str) (i j:Nat):Bool:=decide ((zs.getD i "").cps.toList < (zs.getD j "").cps.toList)
def srt (zs:List Str):List Nat:=if zs.length < 2 then tU zs.length else (evT (ltS zs) (kas_sort zs.length)).toList
section
variable {P:Program} {w:World} {B:Around} {F:Value->Shared->Prop} {z:Shared}
end
section
variable {X:Cx} {o:Expr} {td:TE} {p1 p2 pos1 pos2 ap cp:Pos}
end
section
variable {X:Cx}
def yX (K:PySem.W.Frag):R2:=λx y H Q=>∃a b xs ys,x=.ref a/\y=.ref b/\SqL K H a xs/\SqL K H b ys/\xs.length+ys.length<=sizeLine/\∀l,H l=none->Q (.ref l) (upd H l (.lst (xs++ys)))
theorem Paired.app {α β:Type} {G:α->β->Prop}:∀{l m:List α} {l' m':List β},Paired G l l'->Paired G m m'->Paired G (l++m) (l'++m')
 | _,_,_,_,.nil,h=>h
 | _,_,_,_,.cons a r,h=>.cons a (Paired.app r h)
theorem Q5:JF X (binaryOp .Add) (yX X.K):=by
 intro pins s σ H x y v u Q I rx ry h
 obtain⟨a,b,xs,ys,rfl,rfl,ha,hb,hz,q⟩:=h
 cases rx
 cases ry
 obtain⟨its,rv,pl,_⟩:=I.list ha
 obtain⟨its2,rv2,pl2,_⟩:=I.list hb
 have l1:=rv.length
 have l2:=rv2.length
 obtain⟨⟨cls,dd,data,sl⟩,ho,hc,n,hd⟩:=id pl.isList
 obtain⟨⟨cls2,dd2,data2,sl2⟩,ho2,hc2,n2,hd2⟩:=id pl2.isList
 simp only at hc hd hc2 hd2
 subst hc hd hc2 hd2
 have e:its.toArray++its2.toArray=(its++its2).toArray:=by simp
 refine concat_meets ⟨_,ho,rfl⟩ ⟨_,ho2,rfl⟩ noFill_list_add seq_list_add PySem.F.slot_list_add PySem.F.entry_list_add (PySem.F.args_list_add_2 _ _) (list_addW a b its.toArray its2.toArray n n2 dd dd2 sl sl2 (by simp only[tW];omega)) ⟨ho,ho2,?_⟩
 rw[e]
 exact⟨.ref s.heap.objs.size,_,I.laid (t':=s.toks) (o:=.lst (xs++ys)) (λb u h=>tq _ h) (tu _) ⟨by rw[tX];exact hz,its++its2,_,Paired.app rv rv2,tJ _ rfl⟩,rfl,q _ (I.hok.fresh (tu _))⟩
end
open PySem PySem.Spec PySem.W PyProof.Rows
section
variable {X:Cx}
def N0 (K:PySem.W.Frag):R2:=λx y H Q=>∃(a b:Addr) (xs:List V),x=.ref a/\y=.ref b/\SqL K H a xs/\SqL K H b []/\Q (.bl (!xs.isEmpty)) H
theorem Wg (hu:X.A.units < cLine):JF X (compareOp .NotEq) (N0 X.K):=by
 intro pins s σ H x y v u Q I rx ry h
 obtain⟨a,b,xs,rfl,rfl,ha,hb,q⟩:=h
 cases rx
 cases ry
 obtain⟨its,rv,pl,_⟩:=I.list ha
 obtain⟨its2,rv2,pl2,_⟩:=I.list hb
 have l2:its2=[]:=zbo rv2.length.symm
 subst l2
 cases xs with
 | nil=>
   have l1:its=[]:=zbo rv.length.symm
   subst l1
   exact EqBoolInt.of_rcne (SeqAt.RcNeAt.lists (e:=λ_=>true) pl.isList pl2.isList rfl hu λj h1 h2=>absurd h1 (zbr j)) ⟨.bl _,H,I,rfl,q⟩
 | cons x xs=>
   cases its with
   | nil=>cases rv
   | cons u' us'=>exact EqBoolInt.of_rcne (SeqAt.RcNeAt.lists_lengths pl.isList pl2.isList (by simp) hu) ⟨.bl true,H,I,rfl,q⟩
end
open PySem PySem.Spec PySem.W PyProof.Rows
section
variable {P:Program} {w:World} {B:Around} {F:Value->Shared->Prop} {z:Shared}
end
section
variable {X:Cx}
end
open PySem PySem.Spec PySem.W PyProof.Rows
section
variable {prog:Program} {w:World} {A:Around} {R:Result->Shared->Prop} {I:Addr} {fp wr:List Addr} {G:Array GenState->Array GenState->Prop} {n:Nat} {P:Nat->Value->Prop} {St:Nat->Shared->Prop}
end
section
variable {prog:Program} {w:World} {A:Around} {E:Value->Shared->Prop} {s:Shared}
end
section
variable {X:Cx} {e:Expr} {te:TE} {p1 p2 pos1 pos2:Pos}
end
open PySem PyProof.Rows
theorem zH {α:Type} {K:PySem.W.Frag} {a D:Addr} {xs:List α} {enc:α->V} {out:α->Option V} {rest:St} {H:Hp} {tt:TT} {te:TE} {Q:Hp->Prop} (hD:H D=none) (ha:H a=some (.lst (xs.map enc))) (len:xs.length < sizeLine)
   (ht:∀x∈xs,∀G,qr H G->∀R:Bool->Hp->Prop,(∀G',qr G G'->R (out x).isSome G')->tt (some (enc x)::rest) G R)
   (he:∀x∈xs,∀v,out x=some v->∀G,qr H G->∀R:V->Hp->Prop,(∀G',qr G G'->R v G')->te (some (enc x)::rest) G R)
   (k:∀G,qr H G->G D=some (.lst (xs.filterMap out))->Q G):ZO (Nk K a) (Qu 0) tt te D (none::rest) H Q:=by
 have sD:qr H (upd H D (.lst [])):=λb o h=>by
   rw[qi (λe=>by rw[e,hD]at h;cases h)]
   exact h
 refine QX (K:=K) (a:=a) (xs:=xs.map enc) (λi σ' G=>(∃v0,σ'=v0::rest)/\qr H G/\G D=some (.lst ((xs.take i).filterMap out))) ⟨⟨none,rfl⟩,sD,qe⟩ (λi σ' G _ ⟨_,s,_⟩=>.of (s _ _ ha)) ?_ ?_
 . rintro i y σ' G hy ⟨⟨v0,rfl⟩,s,hG⟩
   rw[tH]at hy
   cases ex:xs[i]? with
   | none=>rw[ex]at hy;cases hy
   | some x=>
     rw[ex]at hy
     obtain rfl:=(tK.inj hy).symm
     have hx:x∈xs:=tY ex
     have et:(xs.take (i+1)).filterMap out=(xs.take i).filterMap out++(out x).toList:=by
       rw[tQ,ex,zaV]
       cases c:out x<;>simp [c]
     show tt (some (enc x)::rest) G _
     refine ht x hx G s _ λG1 s1=>?_
     cases c:out x with
     | none=>
       show if false=true then _ else _
       rw[if_neg tI]
       refine⟨⟨_,rfl⟩,λb o h=>s1 _ _ (s _ _ h),?_⟩
       rw[et,c]
       simpa using s1 _ _ hG
     | some v=>
       show if true=true then _ else _
       rw[if_pos rfl]
       refine he x hx v c G1 (λb o h=>s1 _ _ (s _ _ h)) _ λG2 s2=>?_
       refine⟨_,s2 _ _ (s1 _ _ hG),?_,⟨_,rfl⟩,?_,?_⟩
       . refine zaD (zas _ _) ?_
         rw[tT]
         omega
       . intro b o h
         rw[qi (λe=>by rw[e,hD]at h;cases h)]
         exact s2 _ _ (s1 _ _ (s _ _ h))
       . rw[et,c]
         exact qe
 . rintro σ' G ⟨_,s,hG⟩
   rw[tj,tF (tu _)]at hG
   exact k G s hG
theorem Yf {α:Type} {K:PySem.W.Frag} {a D:Addr} {xs:List α} {enc:α->V} {out:α->Option V} {rest:St} {H:Hp} {tt:TT} {te:TE} {Q:Hp->Prop} (hD:H D=none) (ha:H a=some (.tup (xs.map enc))) (len:xs.length < sizeLine)
   (ht:∀x∈xs,∀G,qr H G->∀R:Bool->Hp->Prop,(∀G',qr G G'->R (out x).isSome G')->tt (some (enc x)::rest) G R)
   (he:∀x∈xs,∀v,out x=some v->∀G,qr H G->∀R:V->Hp->Prop,(∀G',qr G G'->R v G')->te (some (enc x)::rest) G R)
   (k:∀G,qr H G->G D=some (.lst (xs.filterMap out))->Q G):ZO (Nj K a) (Qu 0) tt te D (none::rest) H Q:=by
 have sD:qr H (upd H D (.lst [])):=λb o h=>by
   rw[qi (λe=>by rw[e,hD]at h;cases h)]
   exact h
 refine vo (K:=K) (a:=a) (xs:=xs.map enc) (λi σ' G=>(∃v0,σ'=v0::rest)/\qr H G/\G D=some (.lst ((xs.take i).filterMap out))) ⟨⟨none,rfl⟩,sD,qe⟩ (λi σ' G _ ⟨_,s,_⟩=>.of (s _ _ ha)) ?_ ?_
 . rintro i y σ' G hy ⟨⟨v0,rfl⟩,s,hG⟩
   rw[tH]at hy
   cases ex:xs[i]? with
   | none=>rw[ex]at hy;cases hy
   | some x=>
     rw[ex]at hy
     obtain rfl:=(tK.inj hy).symm
     have hx:x∈xs:=tY ex
     have et:(xs.take (i+1)).filterMap out=(xs.take i).filterMap out++(out x).toList:=by
       rw[tQ,ex,zaV]
       cases c:out x<;>simp [c]
     show tt (some (enc x)::rest) G _
     refine ht x hx G s _ λG1 s1=>?_
     cases c:out x with
     | none=>
       show if false=true then _ else _
       rw[if_neg tI]
       refine⟨⟨_,rfl⟩,λb o h=>s1 _ _ (s _ _ h),?_⟩
       rw[et,c]
       simpa using s1 _ _ hG
     | some v=>
       show if true=true then _ else _
       rw[if_pos rfl]
       refine he x hx v c G1 (λb o h=>s1 _ _ (s _ _ h)) _ λG2 s2=>?_
       refine⟨_,s2 _ _ (s1 _ _ hG),?_,⟨_,rfl⟩,?_,?_⟩
       . refine zaD (zas _ _) ?_
         rw[tT]
         omega
       . intro b o h
         rw[qi (λe=>by rw[e,hD]at h;cases h)]
         exact s2 _ _ (s1 _ _ (s _ _ h))
       . rw[et,c]
         exact qe
 . rintro σ' G ⟨_,s,hG⟩
   rw[tj,tF (tu _)]at hG
   exact k G s hG
theorem Kw {n:Nat} {D:Addr} {out:Nat->Option V} {rest:St} {H:Hp} {tt:TT} {te:TE} {Q:Hp->Prop} (hD:H D=none) (len:n < sizeLine)
   (ht:∀x,x < n->∀G,qr H G->∀R:Bool->Hp->Prop,(∀G',qr G G'->R (out x).isSome G')->tt (some (.int (x:Int))::rest) G R)
   (he:∀x,x < n->∀v,out x=some v->∀G,qr H G->∀R:V->Hp->Prop,(∀G',qr G G'->R v G')->te (some (.int (x:Int))::rest) G R)
   (k:∀G,qr H G->G D=some (.lst ((tU n).filterMap out))->Q G):ZO (Gn 0 n) (Qu 0) tt te D (none::rest) H Q:=by
 have sD:qr H (upd H D (.lst [])):=λb o h=>by
   rw[qi (λe=>by rw[e,hD]at h;cases h)]
   exact h
 refine Zk (λi σ' G=>(∃v0,σ'=v0::rest)/\qr H G/\G D=some (.lst ((tU i).filterMap out))) ⟨⟨none,rfl⟩,sD,qe⟩ ?_ ?_
 . rintro i σ' G hi ⟨⟨v0,rfl⟩,s,hG⟩
   rw[zbC]
   have et:(tU (i+1)).filterMap out=(tU i).filterMap out++(out i).toList:=by
     rw[zcb,zaV]
     cases c:out i<;>simp [c]
   show tt (some (.int (i:Int))::rest) G _
   refine ht i hi G s _ λG1 s1=>?_
   cases c:out i with
   | none=>
     show if false=true then _ else _
     rw[if_neg tI]
     refine⟨⟨_,rfl⟩,λb o h=>s1 _ _ (s _ _ h),?_⟩
     rw[et,c]
     simpa using s1 _ _ hG
   | some v=>
     show if true=true then _ else _
     rw[if_pos rfl]
     refine he i hi v c G1 (λb o h=>s1 _ _ (s _ _ h)) _ λG2 s2=>?_
     refine⟨_,s2 _ _ (s1 _ _ hG),?_,⟨_,rfl⟩,?_,?_⟩
     . refine zaD (zas _ _) ?_
       rw[zai]
       omega
     . intro b o h
       rw[qi (λe=>by rw[e,hD]at h;cases h)]
       exact s2 _ _ (s1 _ _ (s _ _ h))
     . rw[et,c]
       exact qe
 . rintro σ' G ⟨_,s,hG⟩
   exact k G s hG
open PySem PyProof.Rows
section
variable {prog:Program} {w:World} {KK:Type} [DecidableEq KK] {kd:HeapKind prog w KK} {A:Around} {E:Value->Shared->Prop} {s:Shared}
end
section
variable {X:Cx} {pins:List (Addr×Obj)} {σ:St} {H:Hp} {s:Shared} {a b:Addr} {v:V} {r:Value} {A:Around} {E:Value->Shared->Prop}
end
section
variable {X:Cx} {o e f:Expr} {apos cpos:Pos} {td ty tx:TE}
end
open PySem PyProof.Rows
section
variable {X:Cx}
def K4:R2:=λx y H Q=>∃a b xs ys,x=.ref a/\y=.ref b/\H a=some (.tup xs)/\H b=some (.tup ys)/\xs.length+ys.length<=sizeLine/\∀r H',qr H H'->H' r=some (.tup (xs++ys))->Q (.ref r) H'
theorem Qe:JF X (binaryOp .Add) K4:=by
 intro pins s σ H x y v u Q I rx ry h
 obtain⟨a,b,xs,ys,rfl,rfl,ha,hb,hz,q⟩:=h
 cases rx
 cases ry
 have sq:∀{c:Addr} {zs:List V},H c=some (.tup zs)->SqT X.K H c zs:=λh=>.of h
 obtain⟨its,r1,p1,_⟩:=I.tuple (sq ha)
 obtain⟨its2,r2,p2,_⟩:=I.tuple (sq hb)
 have sm:qr H H:=λ_ _ h=>h
 by_cases hx:xs=[]
 . subst hx
   cases r1
   obtain⟨⟨c1,d1,e1,f1⟩,o1,k1,n1,g1⟩:=id p1
   obtain⟨⟨c2,d2,e2,f2⟩,o2,k2,n2,g2⟩:=id p2
   simp only at k1 g1 k2 g2
   subst k1 g1 k2 g2
   exact concat_meets ⟨_,o1,rfl⟩ ⟨_,o2,rfl⟩ noFill_tuple_add seq_tuple_add zbQ zbM (zbH _ _) (tuple_addW0 a b _ _ n1 n2 d1 d2 f1 f2 rfl) ⟨o1,o2,.ref b,H,I,rfl,q b H sm hb⟩
 . refine HT.cat_tup p1 p2 (λz=>hx (r1.nil_iff.mp z)) (λz=>⟨.ref a,H,I,rfl,q a H sm ?_⟩) (λz=>?_) (by rw[<-r1.length,<-r2.length];exact hz)
   . rw[r2.nil_iff.mp z,zaZ]
     exact ha
   . have fr:=I.hok.fresh (tu s.heap.objs.size)
     refine⟨.ref s.heap.objs.size,_,I.laid (t':=s.toks) (o:=.tup (xs++ys)) (λc ob e=>tq _ e) (tu _) ⟨by rw[tX];exact hz,_,r1.append r2,IsTup.new _ _⟩,rfl,q _ _ (λc o e=>?_) qe⟩
     rw[qi (λw=>by rw[w,fr]at e;cases e)]
     exact e
end
section
variable {X:Cx} {pins:List (Addr×Obj)} {σ:St} {H:Hp} {s:Shared} {tg:Expr}
def Wv (o:Obj):Nat:=match o.data with
 | .dict _ ep=>ep
 | _=>0
theorem qJ.freeze {a:Addr} {kvs:List (qI×V)} (I:qJ X pins σ H s) (e:H a=some (.dK kvs)):∃o,qJ X pins σ (upd H a (.frz o (.dK kvs))) s:=by
 obtain⟨z,hd,vs,rel,o,es,ep,ho,r⟩:=(show jd X.prog X.w H s.heap a (.dK kvs) from I.hok a _ e)
 have mu:Gj (H a):=by rw[e];exact True.intro
 have un:Un X.fs [] H (upd H a (.frz o (.dK kvs))) s.heap s.heap:=Un.write mu (.inl rfl) (λb u _ q=>q) ⟨o,ho⟩
 have ok:JU X.prog X.w (upd H a (.frz o (.dK kvs))) s.heap:=I.hok.write mu (.inl rfl) (λb u _ q=>q) ⟨o,ho⟩ ⟨ho,z,hd,vs,rel,o,es,ep,ho,r⟩
 exact⟨o,I.un (t':=s.toks) un ok⟩
def M9 (te:TE):TE:=λσ H Q=>te σ H λx H1=>∃a kvs,x=.ref a/\H1 a=some (.dK kvs)/\∀o,Q x (upd H1 a (.frz o (.dK kvs)))
theorem V2 {e:Expr} {te:TE} (h:JE X e te):JE X e (M9 te):=.of (by
 have h:=h.to
 intro pins s σ H Q I hw
 refine jB (h pins s σ H _ I hw) λv s1 ⟨x,H1,I1,r1,a,kvs,ex,ea,q⟩=>?_
 obtain⟨o,I2⟩:=I1.freeze ea
 exact⟨x,_,I2,r1,q o⟩)
def Nl (a:Addr) (o:Obj) (kvs:List (qI×V)) (zs:List Str):It:=
 ⟨λi H=>H a=some (.frz o (.dK kvs))/\i < zs.length,λi H x H'=>H'=H/\∃z,zs[i]?=some z/\x=.str z,λi H=>H a=some (.frz o (.dK kvs))/\i=zs.length⟩
theorem Ua {P:Program} {w:World} {h:Heap} {a:Addr} {o:Obj} {kvs:List (qI×V)} (ok:JU P w H h) (e:H a=some (.frz o (.dK kvs))):(a==sysModules)=false/\∃vs,KV kvs vs/\h.DictAt (qQ P w) a vs (Wv o):=by
 obtain⟨ho,z,hd,vs,rel,o',es,ep,ho',ex,dat,r⟩:=(show jd P w H h a (.frz o (.dK kvs)) from ok a _ e)
 rw[ho]at ho'
 cases ho'
 refine⟨hd,vs,rel,o,es,ho,ex,?_,r⟩
 unfold Wv
 rw[dat]
theorem Kb {P:Program} {w:World} {kvs:List (qI×V)} {vs:List (qI×Value)} {zs:List Str} (rel:KV kvs vs) (ek:kvs.map (·.1)=zs.map Sum.inr) {i:Nat} {z:Str} {k:qI} {y v:Value} (ez:zs[i]?=some z) (f1:vs[i]?=some (k,y)) (f2:(qQ P w).is k v=true):qX (.str z) v:=by
 have hi:i < kvs.length:=by
   have h1:=(tw.mp ez).1
   have h2:kvs.length=zs.length:=by simpa using congrArg zax ek
   omega
 obtain⟨q',g1,g2,_⟩:=Qv rel (tz hi)
 rw[f1]at g1
 cases g1
 have h1:(kvs.map (·.1))[i]?=some kvs[i].1:=by rw[tH,tz hi];rfl
 rw[ek,tH,ez]at h1
 have e3:k=Sum.inr z:=g2.symm.trans (tK.inj h1).symm
 subst e3
 rcases jf (show J1 (Sum.inr z) v=true from f2) with ⟨_,_,c,_⟩ | ⟨w',t,c,rfl⟩
 . cases c
 . cases c
   exact⟨t,rfl⟩
theorem vB {P:Program} {w:World} {K:PySem.W.Frag} (a it:Addr) (o:Obj) (kvs:List (qI×V)) (zs:List Str) (ek:kvs.map (·.1)=zs.map Sum.inr):WA P w K tg (Nl a o kvs zs) [it] it (λi h=>h.IsKeyIter it a i zs.length (Wv o)) where
 mem:=by simp
 obj:=λi h st b hb=>by
   have e:b=it:=by simpa using hb
   subst e
   obtain⟨o,e,c,d⟩:=st
   exact⟨o,e,λv z=>by rw[d]at z;cases z⟩
 keep:=λi h h' st k=>let ⟨o,e,r⟩:=st;⟨o,k it (by simp) o e,r⟩
 item:=by
   intro X hP hw hK hc i pins s σ H E I hf st hg
   subst hP hw hK
   obtain⟨f0,f1,f2,f3,f4,f5⟩:=hf it (by simp)
   obtain⟨ea,hi⟩:=hg
   obtain⟨_,vs,rel,dat⟩:=Ua I.hok ea
   have lv:vs.length=zs.length:=by
     have h1:kvs.length=zs.length:=by simpa using congrArg zax ek
     rw[<-Paired.length rel,h1]
   have ne:a≠it:=λe=>by rw[e,f0]at ea;cases ea
   rw[<-lv]at st
   refine(Walks.dictKeys (I.ok.hd hc) it a ne vs (Wv o)).item i s _ _ (by omega) ⟨st,dat⟩ λv h' tk hv st' kk=>?_
   have I1:qJ X pins σ H {s with heap:=h',toks:=tk}:=I.turned (λb o hb e=>kk b o (by simpa using hb) e) f0 f1 f3 f4 f5
   obtain⟨k,y,g1,g2⟩:=hv
   obtain⟨o2,e2,c2,d2⟩:=id st'.1
   refine⟨_,rfl,XF (s:={s with heap:=h',toks:=tk}) e2 c2 d2 (by decide) ⟨.str zs[i],H,I1,Kb rel ek (tz hi) g1 g2,⟨rfl,_,tz hi,rfl⟩,?_,λb hb=>(hf b hb).1⟩⟩
   rw[<-lv]
   exact st'.1
 done:=by
   intro X hP hw hK hc i pins s σ H E I hf st hg
   subst hP hw hK
   obtain⟨f0,f1,f2,f3,f4,f5⟩:=hf it (by simp)
   obtain⟨ea,hi⟩:=hg
   obtain⟨_,vs,rel,dat⟩:=Ua I.hok ea
   have lv:vs.length=zs.length:=by
     have h1:kvs.length=zs.length:=by simpa using congrArg zax ek
     rw[<-Paired.length rel,h1]
   have ne:a≠it:=λe=>by rw[e,f0]at ea;cases ea
   subst hi
   rw[<-lv]at st
   exact(Walks.dictKeys (I.ok.hd hc) it a ne vs (Wv o)).done s _ _ ⟨st,dat⟩ λh' tk kk=>⟨rfl,I.turned (λb o hb e=>kk b o (by simpa using hb) e) f0 f1 f3 f4 f5⟩
 self:=λ_ _ _ _ _ st h=>wpAny_pyIter_keyiter st h
def qaG (tl:TE):TI:=λσ H R=>tl σ H λx H1=>∃a o kvs zs,x=.ref a/\H1 a=some (.frz o (.dK kvs))/\kvs.map (·.1)=zs.map Sum.inr/\R (Nl a o kvs zs) H1
theorem Wn {l:Expr} {tl:TE} (hl:JE X l tl):JI X tg l (qaG tl):=.of (by
 have hl:=hl.to
 intro pins s σ H R I h
 refine jB (hl pins s σ H _ I h) λv s1 ⟨x,H1,I1,r1,q1⟩=>?_
 obtain⟨a,o,kvs,zs,e,ea,ek,q⟩:=q1
 subst e
 cases r1
 obtain⟨hd,vs,rel,dat⟩:=Ua I1.hok ea
 have lv:vs.length=zs.length:=by
   have h1:kvs.length=zs.length:=by simpa using congrArg zax ek
   rw[<-Paired.length rel,h1]
 refine wpAny_pyIter_dict hd dat ?_
 refine⟨s1.heap.objs.size,[s1.heap.objs.size],_,_,H1,rfl,I1.kept (t':=s1.toks) λb o e=>tq _ e,vB a _ o kvs zs ek,?_,λb hb=>?_,q⟩
 . rw[<-lv]
   exact⟨_,tJ _ rfl,rfl,rfl⟩
 . have e:b=s1.heap.objs.size:=by simpa using hb
   subst e
   exact I1.fpOk (tu _) (I1.hok.fresh (tu _)))
end
section
variable {a:Addr} {o:Obj} {kvs:List (qI×V)} {zs:List Str} {g:TG} {σ:St} {H:Hp}
theorem Wt {tb:TS} {D:QN} (Pv:Nat->St->Hp->Prop) (h0:Pv 0 σ H) (hl:∀i σ H,i<=zs.length->Pv i σ H->H a=some (.frz o (.dK kvs)))
   (hs:∀i z σ H,zs[i]?=some z->Pv i σ H->g (.str z) σ H λσ2 H2=>tb {D with nx:=Pv (i+1),ct:=Pv (i+1),bk:=D.nx} σ2 H2) (hd:∀σ H,Pv zs.length σ H->D.nx σ H):
   ∃W:Nat->Nat->St->Hp->Prop,(∃m,W 0 m σ H)/\∀i m σ H,W i m σ H->
    ((Nl a o kvs zs).stop i H/\D.nx σ H)\/((Nl a o kvs zs).go i H/\∃N:St->Hp->Prop,(∀σ' H',N σ' H'->∃m',m' < m/\W (i+1) m' σ' H')/\∀x H',(Nl a o kvs zs).yld i H x H'->g x σ H' λσ2 H2=>tb {D with nx:=N,ct:=N,bk:=D.nx} σ2 H2):=by
 refine⟨λi m σ H=>m=zs.length - i/\i<=zs.length/\Pv i σ H,⟨zs.length,by simp,zah _,h0⟩,?_⟩
 rintro i m σ H ⟨rfl,hi,p⟩
 have q:=hl i σ H hi p
 by_cases hlt:i < zs.length
 . refine .inr ⟨⟨q,hlt⟩,Pv (i+1),λσ' H' p'=>⟨zs.length - (i+1),by omega,rfl,hlt,p'⟩,λx H' y=>?_⟩
   obtain⟨e,z,ez,rfl⟩:=y
   subst e
   exact hs i z σ _ ez p
 . have e:i=zs.length:=by omega
   subst e
   exact .inl ⟨⟨q,rfl⟩,hd σ H p⟩
theorem Ky {tt:TT} {te:TE} {D:Addr} {Q:Hp->Prop} (Pv:Nat->St->Hp->Prop) (h0:Pv 0 σ (upd H D (.lst []))) (hl:∀i σ' H',i<=zs.length->Pv i σ' H'->H' a=some (.frz o (.dK kvs)))
   (hs:∀i z σ' H',zs[i]?=some z->Pv i σ' H'->g (.str z) σ' H' (XW tt te D (Pv (i+1)))) (hd:∀σ' H',Pv zs.length σ' H'->Q H'):ZO (Nl a o kvs zs) g tt te D σ H Q:=
 Y5 (n:=zs.length) Pv h0 (λi σ' H' hi p=>⟨⟨hl i σ' H' (zab hi) p,hi⟩,λx H2 y=>by
   obtain⟨e,z,ez,rfl⟩:=y
   subst e
   exact hs i z σ' _ ez p⟩) λσ' H' p=>⟨⟨hl _ σ' H' (tu _) p,rfl⟩,hd σ' H' p⟩
end
section
variable {P:Program} {w:World} {K:PySem.W.Frag} {mg:Str->Option Value} {base:Heap}
end
section
variable {X:Cx} {es:List Expr} {t:TA} {pos:Pos}
end
section
variable {X:Cx}
end
section
variable {X:Cx} {pins pins0:List (Addr×Obj)} {σ σ0:St} {H H0:Hp} {s s0:Shared}
end
section
variable {X:Cx}
theorem K2 {P:Program} {w:World} {H:Hp} {h:Heap} {a:Addr} {kvs:List (qI×V)} (ok:JU P w H h) (e:Rd H a (.dK kvs)):(a==sysModules)=false/\∃vs,KV kvs vs/\h.DictOf (qQ P w) a vs:=by
 obtain⟨_,hd,vs,rel,d⟩:=e.ok ok
 exact⟨hd,vs,rel,d⟩
end
open PySem PyProof.Rows
theorem Kx {a D:Addr} {o:Obj} {kvs:List (qI×V)} {zs:List Str} {out:Str->Option V} {rest:St} {H:Hp} {tt:TT} {te:TE} {Q:Hp->Prop} (hD:H D=none) (ha:H a=some (.frz o (.dK kvs))) (len:zs.length < sizeLine)
   (ht:∀x∈zs,∀G,qr H G->∀R:Bool->Hp->Prop,(∀G',qr G G'->R (out x).isSome G')->tt (some (.str x)::rest) G R)
   (he:∀x∈zs,∀v,out x=some v->∀G,qr H G->∀R:V->Hp->Prop,(∀G',qr G G'->R v G')->te (some (.str x)::rest) G R)
   (k:∀G,qr H G->G D=some (.lst (zs.filterMap out))->Q G):ZO (Nl a o kvs zs) (Qu 0) tt te D (none::rest) H Q:=by
 have sD:qr H (upd H D (.lst [])):=λb o h=>by
   rw[qi (λe=>by rw[e,hD]at h;cases h)]
   exact h
 refine Ky (λi σ' G=>(∃v0,σ'=v0::rest)/\qr H G/\G D=some (.lst ((zs.take i).filterMap out))) ⟨⟨none,rfl⟩,sD,qe⟩ (λi σ' G _ ⟨_,s,_⟩=>s _ _ ha) ?_ ?_
 . rintro i x σ' G ex ⟨⟨v0,rfl⟩,s,hG⟩
   have hx:x∈zs:=tY ex
   have et:(zs.take (i+1)).filterMap out=(zs.take i).filterMap out++(out x).toList:=by
     rw[tQ,ex,zaV]
     cases c:out x<;>simp [c]
   show tt (some (.str x)::rest) G _
   refine ht x hx G s _ λG1 s1=>?_
   cases c:out x with
   | none=>
     show if false=true then _ else _
     rw[if_neg tI]
     refine⟨⟨_,rfl⟩,λb o h=>s1 _ _ (s _ _ h),?_⟩
     rw[et,c]
     simpa using s1 _ _ hG
   | some v=>
     show if true=true then _ else _
     rw[if_pos rfl]
     refine he x hx v c G1 (λb o h=>s1 _ _ (s _ _ h)) _ λG2 s2=>?_
     refine⟨_,s2 _ _ (s1 _ _ hG),?_,⟨_,rfl⟩,?_,?_⟩
     . refine zaD (zas _ _) ?_
       rw[tT]
       omega
     . intro b o h
       rw[qi (λe=>by rw[e,hD]at h;cases h)]
       exact s2 _ _ (s1 _ _ (s _ _ h))
     . rw[et,c]
       exact qe
 . rintro σ' G ⟨_,s,hG⟩
   rw[tF (tu _)]at hG
   exact k G s hG
end L2
namespace HT
open PySem PySem.Spec PyProof.Rows
section
variable {prog:Program} {w:World} {A:Around} {E:Value->Shared->Prop} {s:Shared}
theorem getItem_tuple_whole {t sl:Addr} {items:Array Value} {vl vu:Value} {lo hi:Option Int} {Q:Value->Shared->Prop} (ht:IsTup s.heap t items) (hs:s.heap.IsSliceOf sl vl vu .none) (pl:IsPart vl lo) (pu:IsPart vu hi)
   (hw:sIx items.size 0 lo=0/\sIx items.size items.size hi=items.size) (h:Q (.ref t) s):wpAny (model prog w) A (getItem (.ref t) (.ref sl)) Q E s:=by
 obtain⟨os,hos,hcs,hds⟩:=id hs
 have hTs:s.TypeIs (.ref sl) "slice":=⟨os,hos,hcs⟩
 unfold getItem
 try with_reducible refine wpAny_holding ?_
 first | refine wpAny_bind (wpAny_pure ?_) | skip
 refine wpAny_bind (wpAny_sequenceKey ht.typeIs (by decide) ?_)
 refine wpAny_bind (wpAny_callSpecial?_slot (name:=Str.ofString "__getitem__") ht.typeIs PyProof.Rows.slot_tuple_getitem
   (wpAny_call_entry PyProof.Rows.slot_tuple_getitem ht.typeIs entry_tuple_getitem ?_ (args_tuple_getitem _ _)))
 show wpAny _ _ (Builtin.Tuple.tupleItemsOf (.ref t) >>= _) _ _ s
 refine wpAny_bind (tupleItemsOf_ ht ?_)
 refine wpAny_bind (wpAny_typeOf hTs ?_)
 rw[if_pos (by decide)]
 refine wpAny_bind (Jg hs pl pu ?_)
 have hno:(((sIx items.size 0 lo:Nat):Int)==0&&(1:Int)==1&&(sIx items.size items.size hi - sIx items.size 0 lo)==items.size)=true:=by
   rw[hw.1,hw.2]
   simp
 show wpAny _ _ (if (((sIx items.size 0 lo:Nat):Int)==0&&(1:Int)==1&&(sIx items.size items.size hi - sIx items.size 0 lo)==items.size)=true then _ else _) _ _ s
 rw[if_pos hno]
 refine wpAny_bind ?_
 unfold Builtin.Tuple.tupleIsExact
 refine wpAny_bind (wpAny_typeOf ht.typeIs (wpAny_pure ?_))
 rw[if_pos (by decide)]
 first
   | exact wpAny_bind (wpAny_rule (wpAny_pure ⟨_,rfl,wpAny_pure h⟩))
   | exact wpAny_bind (wpAny_rule (wpAny_bind (wpAny_pure (wpAny_pure ⟨_,rfl,wpAny_pure h⟩))))
end
end HT
namespace L2
open PySem PySem.Spec PyProof.Rows
section
variable {X:Cx}
def UR (K:PySem.W.Frag):V->Option Int->Option Int->Hp->VK->Prop:=λx lo hi H Q=>NY K x lo hi H Q\/∃a xs,x=.ref a/\SqT K H a xs/\(HT.sIx xs.length 0 lo=0/\HT.sIx xs.length xs.length hi=xs.length)/\Q (.ref a) H
theorem Qd:MH X (UR X.K):=by
 intro pins s σ H x v vl vu lo hi sl Q I rx hs pl pu h
 rcases h with h | ⟨a,xs,rfl,hx,hw,q⟩
 . exact Gz pins s σ H x v vl vu lo hi sl Q I rx hs pl pu h
 . cases rx
   obtain⟨its,r,ht,hz⟩:=I.tuple hx
   have hlen:its.toArray.size=xs.length:=by rw[tW];exact r.length.symm
   exact⟨"tuple",_,PyProof.Rows.slot_tuple_getitem.lookup,ht.typeIs,HT.getItem_tuple_whole ht hs pl pu (by rw[hlen];exact hw) ⟨.ref a,H,I,rfl,q⟩⟩
end
open PySem PyProof.Rows
section
variable {X:Cx} {CX:WF} {C:Addr->Sp->Prop} {E:St->XK} {x:Str} {p pos:Pos} {e:Expr} {es:List Expr} {t:TA} {i:Nat}
end
section
variable {M:Model} {A:Around} {F:Value->Shared->Prop} {s:Shared} {e:Addr} {cl:Value} {d:Option Addr} {vs:Array Value} {Q:Unit->Shared->Prop}
end
section
variable {X:Cx} {pins:List (Addr×Obj)} {σ:St} {H:Hp} {s:Shared} {M:Model} {F:Value->Shared->Prop} {Q:Unit->Shared->Prop} {a C dx:Addr}
end
section
variable {P:Program} {w:World} {K:PySem.W.Frag} {mg:Str->Option Value} {base:Heap} {N:List Str} {qual:Str} {scope:Scope} {f:Addr} {cd:Value} {A:Around} {outer:List Env} {s₀:Shared} {H₀:Hp} {E:XK}
end
section
variable {X:Cx}
end
def MC:Obj:={cls:=.type "cell",data:=.cell none}
structure OwnC (n:Nat) (l:List (Str×NameKind)) (cs cs':List (Str×Addr)) (h h':Heap):Prop where
 kp:∀b o,h.get? b=some o->h'.get? b=some o
 same:∀x,(x,NameKind.cell)∉l->cs'.lookup x=cs.lookup x
 own:∀x,(x,NameKind.cell)∈l->∃c,cs'.lookup x=some c/\n<=c/\h'.get? c=some MC
 inj:∀x y c,(x,NameKind.cell)∈l->(y,NameKind.cell)∈l->cs'.lookup x=some c->cs'.lookup y=some c->x=y
structure qaT (X:Cx) (N':List Str) (ix:List (Option Nat)) (scope:Scope):Prop where
 kind:scope.kind=.function
 nd:(scope.names.map (·.1)).Nodup
 frees:(scope.names.all λx=>x.2 != .free || (X.env.scope.names.lookup x.1==some .cell || X.env.scope.names.lookup x.1==some .free))=true
 ixs:Ke N' X.N scope X.env.scope ix=true
section
variable {X:Cx} {N':List Str} {ix:List (Option Nat)} {scope:Scope} {pins:List (Addr×Obj)} {σ:St} {H:Hp} {s:Shared}
end
section
variable {X:Cx} {N':List Str} {ix:List (Option Nat)} {scope:Scope}
end
section
variable {X:Cx} {CX:WF} {k:Nat} {f C:Addr} {fd:FuncData} {ps:List Str} {sp:Sp} {dvs:List V} {ds:List Value} {E:St->XK} {m:Str} {pos apos:Pos} {e o:Expr} {es:List Expr} {ta:TE} {t:TA}
end
theorem Uz {zs:List Str}:∀{its:List Value},qP (zs.map V.str) its->StrsAre its zs:=by
 induction zs with
 | nil=>
   intro its h
   cases h
   exact .nil
 | cons z zs ih=>
   intro its h
   cases h with
   | cons a b=>
     obtain⟨t,rfl⟩:=a
     exact .cons z t (ih b)
theorem XZ {zs:List Str} {its:List Value} (h:StrsAre its zs):qP (zs.map V.str) its:=by
 induction h with
 | nil=>exact .nil
 | cons x t h ih=>exact .cons ⟨t,rfl⟩ ih
def xG (a b:Str):Prop:=a.cps.toList<=b.cps.toList
theorem kz {a b c:Str} (h:xG a b) (k:xG b c):xG a c:=List.le_trans h k
theorem xF {a b:Str} (h:xG a b) (k:xG b a):a=b:=by
 have e:a.cps.toList=b.cps.toList:=List.le_antisymm h k
 cases a
 cases b
 congr 1
 exact Array.toList_inj.mp e
theorem UQ:∀(l:List Str) (p:Str),risingS p l=true->(∀x∈l,xG p x)/\l.Pairwise xG
 | [],_,_=>⟨λ_ h=>(nomatch h),.nil⟩
 | x::r,p,h=>by
   have h':(!ltCps x.cps.toList p.cps.toList&&risingS x r)=true:=h
   rw[zam]at h'
   obtain⟨h1,h2⟩:=h'
   obtain⟨i1,i2⟩:=UQ r x h2
   have px:xG p x:=by
     have:ltCps x.cps.toList p.cps.toList=false:=by simpa using h1
     rw[ltCps_eq]at this
     exact List.not_lt.mp (of_decide_eq_false this)
   refine⟨λy hy=>?_,.cons i1 i2⟩
   rcases tR.mp hy with rfl | hy
   . exact px
   . exact kz px (i1 y hy)
theorem Xn:∀{l:List Str},sortedS l=true->l.Pairwise xG
 | [],_=>.nil
 | x::r,h=>let ⟨a,b⟩:=UQ r x h;.cons a b
theorem UU:∀{l m:List Str},l.Perm m->l.Pairwise xG->m.Pairwise xG->l=m
 | [],m,p,_,_=>(List.Perm.nil_eq p)
 | a::l,[],p,_,_=>absurd p.length_eq (by simp)
 | a::l,b::m,p,hl,hm=>by
   rw[zcl]at hl hm
   have e:a=b:=by
     rcases tR.mp (p.mem_iff.mp (tS (a:=a) (l:=l))) with e | e
     . exact e
     . rcases tR.mp (p.mem_iff.mpr (tS (a:=b) (l:=m))) with e' | e'
       . exact e'.symm
       . exact xF (hl.1 b e') (hm.1 a e)
   subst e
   rw[UU (List.Perm.cons_inv p) hl.2 hm.2]
theorem vE {a b ys zs:List Str} (ha:a.Perm ys) (hb:b.Perm zs) (p:ys.Perm zs) (sa:sortedS a=true) (sb:sortedS b=true):a=b:=UU (ha.trans (p.trans hb.symm)) (Xn sa) (Xn sb)
section
variable {X:Cx}
def yU (K:PySem.W.Frag):List V->Hp->VK->Prop:=λxs H Q=>∃(p:Addr) (zs:List Str),xs=[.ref p]/\SqL K H p (zs.map V.str)/\zs.length < 64/\∀l ys,H l=none->ys.Perm zs->sortedS ys=true->Q (.ref l) (upd H l (.lst (ys.map V.str)))
theorem Uf:js X (.builtin "sorted") (yU X.K):=by
 intro pins s σ H xs us Q I r h
 obtain⟨p,zs,rfl,hq,h64,q⟩:=h
 obtain⟨u,rfl,ru⟩:=j4 r
 cases ru
 obtain⟨its,rv,pl,hz⟩:=I.list hq
 have ln:its.length=zs.length:=by
   have:=rv.length
   rw[tj]at this
   exact this.symm
 refine sorted_strs pl.isList (Uz rv) (by omega) λout ss' h1 h2 h3=>?_
 obtain⟨e,he⟩:=sortedAll_at s.heap its out
 have lo:out.toList.length=ss'.length:=by
   have:=(XZ h1).length
   rw[tj]at this
   exact this.symm
 have ls:ss'.length=zs.length:=h2.length_eq
 refine⟨.ref (s.heap.objs.size+1),_,I.laid (t':=s.toks) (λb o z=>sortedAll_old z) (zcU _) ?_,rfl,q _ ss' (I.hok.fresh (zcU _)) h2 h3⟩
 exact⟨by rw[tj,ls];exact zab (zcf h64 (by decide)),out.toList,e,XZ h1,he⟩
end
open PySem PySem.Spec PyProof.Rows PySem.W
section
variable {X:Cx}
end
section
variable {P:Program} {w:World} {K:PySem.W.Frag} {mg:Str->Option Value} {base:Heap} {CX:WF} {k:Nat} {f:Addr} {fd:FuncData} {ps:List Str} {sp sp':Sp}
end
open PySem PySem.Spec PyProof.Rows PySem.W
section
variable {X:Cx}
def Rm:List V->Hp->VK->Prop:=λxs H Q=>∃(a:Addr) (kvs:List (qI×V)),xs=[.ref a]/\Rd H a (.dK kvs)/\∀p,H p=none->Q (.ref p) (upd H p (.dK kvs))
theorem ZH:js X (.type "dict") Rm:=by
 intro pins s σ H xs us Q I r h
 obtain⟨a,kvs,rfl,ea,q⟩:=h
 obtain⟨u,rfl,ru⟩:=j4 r
 cases ru
 exact wF I ea λp s' hp I'=>⟨.ref p,_,I',rfl,q p hp⟩
end
def RawD (h:Heap) (d:Addr) (es:Array DictEntry) (ep:Nat):Prop:=∃o,h.get? d=some o/\o.ExactDict/\o.data=.dict es ep
theorem RawD.ty {s:Shared} {d:Addr} {es:Array DictEntry} {ep:Nat} (x:RawD s.heap d es ep):s.TypeIs (.ref d) "dict":=let ⟨o,a,b,_⟩:=x;⟨o,a,b.1⟩
section
variable {prog:Program} {w:World} {A:Around} {E:Value->Shared->Prop} {s:Shared} {it d:Addr} {es:Array DictEntry} {i ep:Nat}
theorem raw_iter {Q:Value->Shared->Prop} (hd:(d==sysModules)=false) (x:RawD s.heap d es ep)
   (q:Q (.ref s.heap.objs.size) {s with heap:=s.heap.push {cls:=.type "dict_keyiterator",data:=.fields #[.ref d,.int 0 0,.int es.size 0,.int ep 0]}}):wpAny (model prog w) A (pyIter (.ref d)) Q E s:=by
 obtain⟨o,e1,e2,e3⟩:=id x
 refine wpAny_pyIter_slot x.ty F.slot_dict_iter (wpAny_call_entry F.slot_dict_iter x.ty F.entry_dict_iter ?_ (F.args_dict_iter_1 _))
 unfold Builtin.«dict.__iter__» Builtin.Dict.dictSlotNone
 refine wpAny_bind (wpAny_bind (wpAny_notOrdered_dict x.ty (show wpAny _ _ (pure (Value.ref d)) _ _ s from wpAny_pure ?_)))
 show wpAny _ _ (Builtin.Dict.showsAll d >>= _) _ _ s
 unfold Builtin.Dict.showsAll
 rw[hd,if_neg tI]
 refine wpAny_bind (wpAny_pure (wpAny_bind (wpAny_dictEntries e1 e3 (wpAny_bind (wpAny_dictEpoch e1 e3 (wpAny_bind (wpAny_newObj_type (wpAny_pure ⟨_,rfl,"dict_keyiterator",_,⟨_,tJ _ rfl,rfl⟩,F.slot_dict_keyiterator_next.lookup,?_⟩))))))))
 simpa [rawInt] using q
theorem uz {Q:Option Value->Shared->Prop} (t:s.heap.IsKeyIter it d i es.size ep) (x:RawD s.heap d es ep) (hi:i < es.size)
   (q:∀h',h'.IsKeyIter it d (i+1) es.size ep->Heap.SameBut it s.heap h'->Q (some es[i].key) {s with heap:=h'}):wpAny (model prog w) A (pyNext (.ref it)) Q E s:=by
 obtain⟨o,t1,t2,t3⟩:=id t
 obtain⟨od,e1,e2,e3⟩:=id x
 unfold pyNext
 refine wpAny_bind (wpAny_attempt (wpAny_callSpecial?_slot (name:=Str.ofString "__next__") t.typeIs F.slot_dict_keyiterator_next (wpAny_call_entry F.slot_dict_keyiterator_next t.typeIs F.entry_dict_keyiterator_next (wpAny_bind (wpAny_pure (wpAny_bind (wpAny_bind ?_)))) (F.args_dict_keyiterator_next_1 _))))
 refine wpAny_bind (wpAny_typeNameOfWhole_keyiter t.typeIs (wpAny_pure (wpAny_bind (wpAny_fieldsOf t1 t3 ?_))))
 simp only[show Builtin.Dict_items.ownsTuple "dict_keyiterator"=false by decide,zaA,if_false]
 show wpAny _ _ (if (Value.ref d==Value.none)=true then _ else _) _ _ s
 rw[if_neg (show ¬((Value.ref d==.none)=true) from nofun)]
 refine wpAny_bind (wpAny_pure (wpAny_bind (wpAny_dictEntries e1 e3 ?_)))
 rw[if_neg (by simp)]
 refine wpAny_bind (wpAny_pure (wpAny_bind (wpAny_dictEpoch e1 e3 ?_)))
 rw[if_neg (by simp)]
 refine wpAny_pure ?_
 simp only[show ¬((i:Int) < 0) from by omega,if_false,zad,zbE hi]
 refine wpAny_bind (wpAny_bind (wpAny_typeNameOfWhole_keyiter t.typeIs (wpAny_pure (wpAny_bind (wpAny_isOneOf_keyiter t.typeIs ?_)))))
 show wpAny _ _ (setField (.ref it) 1 (rawInt ((i:Int)+1)) >>= _) _ _ s
 refine wpAny_bind (wpAny_setField t1 t3 (by simp) ?_)
 have t':(s.heap.update it (Obj.mapFields (·.setIfInBounds 1 (rawInt ((i:Int)+1))))).IsKeyIter it d (i+1) es.size ep:=
   ⟨_,zbj _ t1 (Obj.isFreed_of_fields (Obj.data_mapFields t3 _)),(Obj.cls_mapFields ..).trans t2,by rw[Obj.data_mapFields t3];simp [rawInt]⟩
 refine wpAny_bind (wpAny_holding (wpAny_bind (wpAny_isOneOf_keyiter (s:={s with heap:=s.heap.update it (Obj.mapFields (·.setIfInBounds 1 (rawInt ((i:Int)+1))))}) t'.typeIs ?_)))
 exact(show wpAny _ _ (pure es[i].key) _ _ _ from wpAny_pure (wpAny_pure ⟨_,rfl,wpAny_pure (q _ t' (zcg.update ..))⟩))
theorem yN {Q:Option Value->Shared->Prop} (hh:A.handled=none) (t:s.heap.IsKeyIter it d es.size es.size ep) (x:RawD s.heap d es ep) (q:∀h',Heap.ExtBut it s.heap h'->Q none {s with heap:=h'}):wpAny (model prog w) A (pyNext (.ref it)) Q E s:=by
 obtain⟨o,t1,t2,t3⟩:=id t
 obtain⟨od,e1,e2,e3⟩:=id x
 unfold pyNext
 refine wpAny_bind (wpAny_attempt (wpAny_callSpecial?_slot (name:=Str.ofString "__next__") t.typeIs F.slot_dict_keyiterator_next (wpAny_call_entry F.slot_dict_keyiterator_next t.typeIs F.entry_dict_keyiterator_next (wpAny_bind (wpAny_pure (wpAny_bind (wpAny_bind ?_)))) (F.args_dict_keyiterator_next_1 _))))
 refine wpAny_bind (wpAny_typeNameOfWhole_keyiter t.typeIs (wpAny_pure (wpAny_bind (wpAny_fieldsOf t1 t3 ?_))))
 simp only[show Builtin.Dict_items.ownsTuple "dict_keyiterator"=false by decide,zaA,if_false]
 show wpAny _ _ (if (Value.ref d==Value.none)=true then _ else _) _ _ s
 rw[if_neg (show ¬((Value.ref d==.none)=true) from nofun)]
 refine wpAny_bind (wpAny_pure (wpAny_bind (wpAny_dictEntries e1 e3 ?_)))
 rw[if_neg (by simp)]
 refine wpAny_bind (wpAny_pure (wpAny_bind (wpAny_dictEpoch e1 e3 ?_)))
 rw[if_neg (by simp)]
 refine wpAny_pure ?_
 simp only[show ¬((es.size:Int) < 0) from by omega,if_false,zad,zcE (tu es.size)]
 refine wpAny_bind (wpAny_bind (wpAny_typeNameOfWhole_keyiter t.typeIs (wpAny_pure ?_)))
 show wpAny _ _ (setField (.ref it) 0 .none >>= _) _ _ s
 refine wpAny_bind (wpAny_setField t1 t3 (by simp) (show wpAny _ _ (newExc (.type "StopIteration") [] >>= _) _ _ _ from wpAny_bind ?_))
 simp only[newExc,newTuple]
 refine wpAny_bind (wpAny_newObj_type (wpAny_bind (m:=firstArgMember _ _) (wpAny_of_eq (a:=Value.none) (by first | rfl | (simp only[firstArgMember];rfl)) (wpAny_newObj_type ?_ (by size_fits)))) (by size_fits))
 simp only[raiseNew]
 refine wpAny_bind (wpAny_handled ?_)
 rw[show A.in1.handled=none from hh]
 refine wpAny_bind (wpAny_pure (wpAny_throw (wpAny_bind ?_)))
 exact wpAny_isInstance (T:="StopIteration") (b:=true) ⟨_,tJ _ rfl,rfl⟩ isSubtype_stop (wpAny_pure (q _ (((zcg.update ..).extBut.push _).push _)))
end
def Pr (H:Hp) (u:HO) (i:Nat) (x y:V):Prop:=match u with
 | .dK kvs=>∃z,kvs[i]?=some (Sum.inr z,y)/\x=.str z
 | .dT kvs=>∃k b,kvs[i]?=some (k,y)/\x=.ref b/\H b=some (.tup (k.map kV))
 | _=>False
section
variable {X:Cx} {pins:List (Addr×Obj)} {σ:St} {H:Hp} {s:Shared} {tg:Expr}
end
section
variable {a:Addr} {o:Obj} {u:HO} {g:TG} {σ:St} {H:Hp}
end
open PySem PySem.Spec PyProof.Rows PySem.W
section
variable {X:Cx}
end
section
variable {prog:Program} {w:World} {KK:Type} [DecidableEq KK] {kd:HeapKind prog w KK} {A:Around} {E:Value->Shared->Prop} {s:Shared}
end
section
variable {X:Cx}
end
structure FnLd (P:Program) (w:World) (K:PySem.W.Frag) (mg:Str->Option Value) (base:Heap) (k:Nat) (f:Addr) (fd:FuncData) (ps:List Str) (sp:Sp):Prop where
 len:∀vs H Q E,sp vs H Q E->vs.length=ps.length
 run:∀(A:Around) (a:Value) (outer:List Env) (s:Shared) (H:Hp) (args:Args) (us:List Value) (vs:List V) (Q:VK) (E:XK),jE k A->Vs P w K mg base (A.mark (some a)) outer s H->BindsTo s fd args (ps.zip us)->qP vs us->sp vs H Q E->
   codeAny (model P w) (A.mark (some a)) (.call (.ref f) args) (CR q5 outer P w H s Q E) s
section
variable {P:Program} {w:World} {K:PySem.W.Frag} {mg:Str->Option Value} {base:Heap}
end
section
variable {X:Cx} {k:Nat} {f:Addr} {fd:FuncData} {ps:List Str} {sp:Sp} {x:Str} {p pos:Pos} {e:Expr} {es:List Expr} {t:TA} {a:Value} {E:Value->Shared->Prop}
end
section
variable {X:Cx}
end
section
variable {X:Cx} {CX:WF} {k:Nat} {f C:Addr} {fd:FuncData} {ps:List Str} {sp:Sp} {dvs:List V} {ds:List Value} {E:St->XK} {x m:Str} {p pos apos:Pos} {e o:Expr} {es:List Expr} {ta:TE} {t:TA}
end
section
variable {X:Cx}
end
section
variable {X:Cx} {pins:List (Addr×Obj)} {σ:St} {H:Hp} {s:Shared}
end
section
variable {prog:Program} {w:World} {A:Around} {E:Value->Shared->Prop} {s:Shared}
theorem XM {it t:Addr} {items:Array Value} (hne:t≠it):∀(n i:Nat) (s:Shared) (Q:List Value->Shared->Prop),s.heap.IsListIter it t i->s.heap.IsList t items->i+n<=items.size->
   (∀h',h'.IsListIter it t (i+n)->Heap.SameBut it s.heap h'->Q ((items.toList.drop i).take n) {s with heap:=h'})->wpAny (model prog w) A (draw (.ref it) n) Q E s
 | 0,i,s,Q,hit,_,_,hQ=>by
   show wpAny _ _ (pure []) Q E s
   exact wpAny_pure (by simpa using hQ s.heap hit (zcg.refl ..))
 | n+1,i,s,Q,hit,ht,hle,hQ=>by
   have hlt:i < items.size:=by omega
   show wpAny _ _ (pyNext (.ref it) >>= _) Q E s
   refine wpAny_bind (wpAny_pyNext_list_item hit ht (x:=items[i]) (by simp [hlt]) λh₁ hit₁ hs₁=>?_)
   refine wpAny_bind (wpAny_holding (XM hne n (i+1) _ _ hit₁ (ht.extBut hs₁.extBut hne) (by omega) λh₂ hit₂ hs₂=>wpAny_pure ?_))
   have hd:items.toList.drop i=items[i]::items.toList.drop (i+1):=by simp [zcn,hlt]
   have:=hQ h₂ (by rw[show i+(n+1)=i+1+n by omega];exact hit₂) (hs₁.trans hs₂)
   rw[hd,List.take_succ_cons]at this
   exact this
theorem zq {t:Addr} {items:Array Value} {Q:List Value->Shared->Prop} (hh:A.handled=none) (ht:s.heap.IsList t items)
   (hQ:∀h',Heap.ExtBut s.heap.objs.size s.heap h'->Q items.toList {s with heap:=h'}):wpAny (model prog w) A (unpackItems (.ref t) items.size none) Q E s:=by
 have hlt:t≠s.heap.objs.size:=by obtain⟨o,ho,_⟩:=ht;exact tM (tG ho)
 unfold unpackItems
 refine wpAny_bind ?_
 unfold notIterableAtAll
 refine wpAny_bind (wpAny_specialOf ht.typeIs slot_list_iter.lookup ?_)
 refine wpAny_pure ?_
 simp only[zaA,if_false]
 refine wpAny_bind (wpAny_holding (wpAny_pyIter_list ht ?_))
 refine wpAny_bind (wpAny_holding (XM hlt items.size 0 _ _ ⟨_,tJ _ rfl,rfl,rfl⟩ (ht.push _) (by omega) λh₁ hit₁ hs₁=>?_))
 have hall:List.take items.size (List.drop 0 items.toList)=items.toList:=by
   rw[zcW];exact tF (by simp)
 rw[hall]
 rw[if_neg (by simp)]
 have ht₁:h₁.IsList t items:=(ht.push _).extBut hs₁.extBut hlt
 refine wpAny_bind (wpAny_holding (wpAny_pyNext_list_end hh hit₁ ht₁ (by simp) λh₂ he₂=>?_))
 simp only[Option.isSome_none,zaA,if_false]
 exact wpAny_pure (hQ h₂ λb o hb e=>he₂ b o hb (hs₁.extBut b o hb (tq _ e)))
theorem zj {env:Env} {elts:List Expr} {x1} {pos:Pos} {t:Addr} {items:Array Value} {Q:Unit->Shared->Prop} (hh:A.handled=none) (ht:s.heap.IsList t items)
   (hn:(assignEach elts env).length=items.size) (hstar:(assignEach elts env).findIdx? (·.1)=none)
   (h:∀h',Heap.ExtBut s.heap.objs.size s.heap h'->wpAny (model prog w) A (assignInOrder ((assignEach elts env).map (·.2)) items.toList) Q E {s with heap:=h'}):
   wpAny (model prog w) A (assign (.Tuple elts x1 pos) env (.ref t)) Q E s:=by
 rw[assign_Tuple]
 refine wpAny_bind (wpAny_standAt ?_)
 unfold unpack
 rw[hn,hstar]
 exact wpAny_bind (wpAny_holding (zq hh ht h))
end
section
variable {X:Cx} {pos:Pos}
def Gd (K:PySem.W.Frag) (n:Nat) (t:yd):TG:=λv σ H Q=>∃a xs,v=.ref a/\SqL K H a xs/\xs.length=n/\t xs σ H Q
theorem U4 {es:List Expr} {k:Nat} {t:yd} {n:Nat} (hc:X.calm=true) (h:wM X es t) (hn:(assignEach es X.env).length=n:=by rfl) (hst:(assignEach es X.env).findIdx? (·.1)=none:=by rfl):JG X (.Tuple es k pos) (Gd X.K n t):=.of (by
 have h:=h.to
 intro pins s σ H v u Q I r hw
 obtain⟨a,xs,e1,hq,hl,hw⟩:=hw
 subst e1
 cases r
 obtain⟨its,rv,ht,hz⟩:=I.list hq
 refine zj (I.ok.hd hc) ht.isList (by simp [hn,<-hl,rv.length]) hst λh' hx=>?_
 have I1:qJ X pins σ H {s with heap:=h'}:=I.kept (t':=s.toks) λb o e=>hx b o (tM (tG e)) e
 exact h pins _ σ H xs _ Q I1 (by simpa using rv) hw)
end
section
variable {X:Cx}
end
section
variable {X:Cx} {N':List Str} {ix:List (Option Nat)} {scope:Scope}
end
abbrev Ny (o:Obj):HO:=.frz o (.frz o (.own 0))
def Np (q:Str) (oc:Obj):Prop:=∃(vs:Array Value) (t:Tok),oc.data=.fields vs/\vs[1]?=some (.str q t)
structure TabM (mg:Str->Option Value) (base:Heap) (c P:Addr):Prop where
 code:PySem.W.CodeHd base c P
 blt:base.BuiltinsAt mg P
section
variable {X:Cx} {pins:List (Addr×Obj)} {σ:St} {H:Hp} {s:Shared}
structure Made (X:Cx) (σ:St) (H H':Hp) (P:Addr) (name qual:Str) (params:Arguments) (body:List Stmt) (scope:Scope) (f c':Addr) (doc pm ctv:Value) (oc:Obj):Prop where
 same:qr H H'
 new:H f=none
 fn:H' f=some (Ny (PySem.W.fnMade name qual params body scope (jR X.env scope.names []) doc pm c' ctv))
 cd:H' c'=some (.frz oc (.own P))
 cq:Np qual oc
 cells:∀x,(x,NameKind.free)∈scope.names->∃ca co v,(jR X.env scope.names []).lookup x=some ca/\H' ca=some (Ny co)/\co.data=.cell v/\∀(i:Nat) (y:V),X.N[i]?=some x->σ[i]?=some (some y)->∃u,v=some u/\qX y u
 inj:∀x y c,(jR X.env scope.names []).lookup x=some c->(jR X.env scope.names []).lookup y=some c->x=y
open Classical in
end
section
variable {P:Program} {w:World} {K:PySem.W.Frag} {mg:Str->Option Value} {base:Heap} {N:List Str} {qual:Str} {scope:Scope} {f:Addr} {cd:Value} {A:Around} {outer:List Env} {s₀:Shared} {H₀:Hp} {E:XK}
end
section
variable {P:Program} {w:World} {K:PySem.W.Frag} {mg:Str->Option Value} {base:Heap}
end
structure MR (N ps fr:List Str) (sc:Scope):Prop where
 kind:sc.kind=.function
 co:sc.isCoroutine=false
 gen:sc.isGenerator=false
 nd:N.Nodup
 pre:N.take (ps++fr).length=ps++fr
 par:∀x∈ps,sc.names.lookup x=some .local
 free:∀x∈fr,sc.names.lookup x=some .free
 frees:∀y∈sc.names,y.2=.free->y.1∈fr
 nocell:∀y∈sc.names,y.2≠.cell
structure Clo (H:Hp) (P f:Addr) (name qual:Str) (st:Stmt) (fd:FuncData) (ws:List (Str×V)):Prop where
 ex:∃(doc pm ctv:Value) (c':Addr) (cl:List (Str×Addr)) (oc:Obj),fd=PySem.W.fnX name qual (QJ st) (Qr st) (qo st) cl .none .none doc pm none (.ref c') ctv/\H f=some (Ny {cls:=.type "function",data:=.func fd})/\H c'=some (.frz oc (.own P))/\Np qual oc/\
   (∀x y c,cl.lookup x=some c->cl.lookup y=some c->x=y)/\(∀x c,cl.lookup x=some c->x∈ws.map (·.1))/\
   ∀x v,(x,v)∈ws->∃c o u,cl.lookup x=some c/\H c=some (Ny o)/\o.data=.cell (some u)/\qX v u
section
variable {P:Program} {w:World} {K:PySem.W.Frag} {mg:Str->Option Value} {base:Heap}
end
section
variable {X:Cx} {CX:WF} {C:Addr->FuncData->Sp->Prop} {E:St->XK} {x:Str} {p pos:Pos} {e:Expr} {es:List Expr} {t:TA} {i:Nat}
end
structure Tab where
 x:Str
 c:Addr
 P:Addr
 q:Str
mutual
inductive DG (H:Hp):V->PyData->Prop
 | non:DG H .non .none
 | bl (b:Bool):DG H (.bl b) (.bool b)
 | int (i:Int):DG H (.int i) (.int i)
 | str (x:Str):DG H (.str x) (.str x)
 | lst {a:Addr} {xs:List V} {ds:List PyData}:H a=some (.lst xs)->a≠sysModules->DGs H xs ds->DG H (.ref a) (.list ds)
 | tup {a:Addr} {xs:List V} {ds:List PyData}:H a=some (.tup xs)->DGs H xs ds->DG H (.ref a) (.tuple ds)
 | dct0 {a:Addr}:H a=some (.dK [])->DG H (.ref a) (.dict [])
 | dct1 {a:Addr} {z:Str} {i:Int}:H a=some (.dK [(Sum.inr z,.int i)])->DG H (.ref a) (.dict [(.str z,.int i)])
inductive DGs (H:Hp):List V->List PyData->Prop
 | nil:DGs H [] []
 | cons {x:V} {xs:List V} {d:PyData} {ds:List PyData}:DG H x d->DGs H xs ds->DGs H (x::xs) (d::ds)
end
section
variable {X:Cx} {pins:List (Addr×Obj)} {σ:St} {H:Hp} {s:Shared}
end
section
variable {X:Cx}
end
structure CloE (H:Hp) (P f:Addr) (qual:Str) (ag:Arguments) (be:Expr) (sc:Scope) (fd:FuncData) (ws:List (Str×V)):Prop where
 ex:∃(pm ctv:Value) (c':Addr) (cl:List (Str×Addr)) (oc:Obj),fd=PySem.W.kla_fn "<lambda>" qual ag be sc cl pm (.ref c') ctv/\H f=some (Ny {cls:=.type "function",data:=.func fd})/\H c'=some (.frz oc (.own P))/\Np qual oc/\
   (∀x y c,cl.lookup x=some c->cl.lookup y=some c->x=y)/\(∀x c,cl.lookup x=some c->x∈ws.map (·.1))/\
   ∀x v,(x,v)∈ws->∃c o u,cl.lookup x=some c/\H c=some (Ny o)/\o.data=.cell (some u)/\qX v u
section
variable {P:Program} {w:World} {K:PySem.W.Frag} {mg:Str->Option Value} {base:Heap}
end
section
variable {X:Cx} {c P:Addr} {qual:Str} {ag:Arguments} {be:Expr} {sc:Scope} {pos:Pos}
end
section
variable {P:Program} {w:World} {K:PySem.W.Frag} {mg:Str->Option Value} {base:Heap} {N:List Str} {qual:Str} {scope:Scope} {f:Addr} {cd:Value} {cl:List (Str×Addr)} {A:Around} {outer:List Env} {s₀:Shared} {H₀:Hp} {E:XK}
end
section
variable {P:Program} {w:World} {K:PySem.W.Frag} {mg:Str->Option Value} {base:Heap}
end
open PySem PySem.Spec PySem.Builtin PySem.Builtin.Str PyProof.Rows
section
variable {X:Cx}
def NX:List V->Hp->VK->Prop:=λxs H Q=>∃n:Int,xs=[.int n]/\-10^100 < n/\n < 10^100/\Q (.str (toString n)) H
theorem kW:js X (.type "str") NX:=by
 intro pins s σ H xs us Q I r h
 obtain⟨n,rfl,h1,h2,q⟩:=h
 obtain⟨u,rfl,ru⟩:=j4 r
 obtain⟨t,rfl⟩:=ru
 exact P.str_of_int (shown (N:=10^100) h1 h2 (by decide+kernel)) ⟨.str _,H,I.tok _,⟨_,rfl⟩,q⟩
end
section
variable {X:Cx} {k:Nat} {f:Addr} {fd:FuncData} {ps:List Str} {sp:Sp}
end
section
variable {X:Cx} {pins:List (Addr×Obj)} {σ:St} {xs:List V} {l q a S:Addr} {R:Hp->Prop} {Z:Result->Shared->Prop}
end
section
variable {X:Cx} {st:List Stmt} {u:TS}
open Classical in
end
section
variable {X:Cx} {c P:Addr} {qual:Str} {ag:Arguments} {be:Expr} {sc:Scope} {pos:Pos} {fr:List Str}
end
section
variable {X:Cx} {C:Addr->FuncData->Sp->Prop} {p pos kp:Pos} {e g:Expr} {te tl:TE}
end
open PySem PySem.Spec PySem.Builtin PySem.W PyProof.Rows
section
variable {prog:Program} {w:World} {A:Around} {R:Result->Shared->Prop} {It:Addr} {fp wr:List Addr} {n:Nat} {Pv:Nat->Value->Prop} {St:Nat->Heap->Prop}
end
section
variable {X:Cx} {p pos kp:Pos} {e g:Expr} {te td:TE}
end
def yc:PyData->String
 | .none=>"NoneType"
 | .bool _=>"bool"
 | .int _=>"int"
 | .str _=>"str"
 | .list _=>"list"
 | .tuple _=>"tuple"
 | .dict _=>"dict"
def Wp (t c:String):Bool:=t==c || (t=="bool"&&c=="int")
def Yh:List String:=["NoneType","bool","int","str","list","tuple","dict"]
theorem Gr (d:PyData):yc d∈Yh:=by cases d<;>simp [yc,Yh]
section
variable {X:Cx}
def Rj (K:PySem.W.Frag):List V->Hp->VK->Prop:=λxs H Q=>∃x c d b,xs=[x,.ty c]/\DV K H x d/\zao K (.type (yc d)) (.type c)=some b/\Q (.bl b) H
theorem QW:js X (.builtin "isinstance") (Rj X.K):=by
 intro pins s σ H xs us Q I r h
 obtain⟨x,c,d,b,rfl,dv,e,q⟩:=h
 obtain⟨u,w',rfl,ru,rw'⟩:=ZM r
 cases rw'
 have fin:∀tk,EP X pins σ Q (.bool b) {s with toks:=tk}:=λtk=>⟨.bl b,H,I.tok tk,rfl,q⟩
 cases dv with
 | non=>exact Jn I ru .non e fin
 | bl y=>exact Jn I ru (.bl y) e fin
 | int i=>exact Jn I ru (.int i) e fin
 | str y=>exact Jn I ru (.str y) e fin
 | lst hq hs=>
   cases ru
   obtain⟨its,rv,⟨o,n,e1,hc,_⟩,hz⟩:=I.list hq
   exact zaj zbO I.kIn ⟨_,e1,hc⟩ e (λz=>nomatch z) fin
 | tup hq hs=>
   cases ru
   obtain⟨its,rv,⟨o,e1,hc,_⟩,hz⟩:=I.tuple hq
   exact zaj zbK I.kIn ⟨_,e1,hc⟩ e (λz=>nomatch z) fin
end
inductive OK where
 | s (x:Str) | n | t | u (x:Str)
 deriving DecidableEq
def OK.dat:OK->PyData
 | .s x=>.str x
 | .n=>.none
 | .t=>.bool true
 | .u x=>.tuple [.str x]
section
variable {P:Program} {w:World} {A:Around} {E:Value->Shared->Prop} {s:Shared}
abbrev OE:=OK×Value×Value
def qaI (hs:OK->Int) (x:OE):DictEntry:=⟨hs x.1,x.2.1,x.2.2⟩
end
section
variable {P:Program} {w:World} {A:Around} {E:Value->Shared->Prop} {s:Shared}
def Mq (P:Program) (w:World):OK->Int
 | .s x=>(qQ P w).hash (Sum.inr x)
 | .n=>0xFCA86420
 | .t=>1
 | .u x=>tupleKeyHash (qQ P w) [Sum.inr x]
def qaU (P:Program) (w:World) (h:Heap) (a:Addr) (xs:List OE):Prop:=∃o es ep,h.get? a=some o/\o.ExactDict/\o.data=.dict es ep/\es.toList=xs.map (qaI (Mq P w))/\(xs.map (·.1)).Nodup
variable {a:Addr} {xs:List OE} {k:OK} {key:Value}
end
abbrev OV:=OK×V×V
def KOk (K:PySem.W.Frag) (H:Hp):OK->V->Prop
 | .s x,v=>PyData.strOk x=true/\v=.str x
 | .n,v=>v=.non
 | .t,v=>v=.bl true
 | .u x,v=>PyData.strOk x=true/\∃p,v=.ref p/\SqT K H p [.str x]
def MI (p:OV) (q:OE):Prop:=q.1=p.1/\qX p.2.1 q.2.1/\qX p.2.2 q.2.2
def qaP (P:Program) (w:World) (a:Addr) (ks:List OV):HO:=.ext λh=>ks.length<=sizeLine/\(a==sysModules)=false/\∃xs:List OE,Paired MI ks xs/\qaU P w h a xs
def MK (P:Program) (w:World) (K:PySem.W.Frag) (H:Hp) (a:Addr) (ks:List OV):Prop:=H a=some (qaP P w a ks)/\∀x∈ks,KOk K H x.1 x.2.1
section
variable {X:Cx} {pins:List (Addr×Obj)} {σ:St} {H:Hp} {s:Shared}
def Rk (neg:Bool):R2:=λx y H Q=>∃(a:Addr) (o:Option V),y=.ref a/\j8 H a x o/\Q (.bl (if neg then !o.isSome else o.isSome)) H
theorem Rq (hu:X.A.units+1 < cLine):JF X (compareOp .In) (Rk false):=by
 intro pins s σ H x y v u Q I rx ry h
 obtain⟨a,o,rfl,g,q⟩:=h
 cases ry
 exact My hu I g rx λs3 I3=>⟨.bl _,H,I3,rfl,q⟩
theorem vU (hu:X.A.units+1 < cLine):JF X (compareOp .NotIn) (Rk true):=by
 intro pins s σ H x y v u Q I rx ry h
 obtain⟨a,o,rfl,g,q⟩:=h
 cases ry
 exact vj hu I g rx λs3 I3=>⟨.bl _,H,I3,rfl,q⟩
end
section
variable {P:Program} {w:World}
end
section
variable {X:Cx} {o i e value:Expr} {pos pos' apos cpos:Pos} {td ty tv:TE}
end
theorem Rd.mono {H H':Hp} {a:Addr} {u:HO} (r:Rd H a u) (s:∀b o,H b=some o->H' b=some o):Rd H' a u:=r.elim (λe=>.inl (s _ _ e)) λ⟨o,e⟩=>.inr ⟨o,s _ _ e⟩
theorem j8.r {H:Hp} {a:Addr} {kvs:List (qI×V)} {k:qI} (e:Rd H a (.dK kvs)):j8 H a (kV k) (qY kvs k):=.inl ⟨kvs,k,e,rfl,rfl⟩
section
variable {X:Cx}
theorem k4:js X (.builtin "len") (λxs H Q=>∃a kvs,xs=[V.ref a]/\Rd H a (.dK kvs)/\Q (.int kvs.length) H):=by
 intro pins s σ H xs us Q I r h
 obtain⟨a,kvs,rfl,ha,q⟩:=h
 obtain⟨u,rfl,ru⟩:=j4 r
 cases ru
 exact Mx I ha λt s' I'=>⟨.int kvs.length,H,I',⟨t,rfl⟩,q⟩
theorem Jz:js X (.builtin "isinstance") (λxs H Q=>∃(a:Addr) (kvs:List (qI×V)) (c:String) (b:Bool),xs=[.ref a,.ty c]/\Rd H a (.dK kvs)/\zao X.K (.type "dict") (.type c)=some b/\Q (.bl b) H):=by
 intro pins s σ H xs us Q I r h
 obtain⟨a,ks,c,b,rfl,rd,e,q⟩:=h
 obtain⟨u,w',rfl,ru,rw'⟩:=ZM r
 cases ru
 cases rw'
 obtain⟨_,_,vs,_,o,es,ep,g,cl,_⟩:=(show jd X.prog X.w H s.heap a (.dK ks) from rd.ok I.hok)
 exact zaj zbP I.kIn ⟨o,g,cl.1⟩ e (λz=>nomatch z) λtk=>⟨.bl b,H,I.tok tk,rfl,q⟩
end
section
variable {X:Cx}
def NZ (K:PySem.W.Frag):R2:=λx y H Q=>∃d d',DV K H x d/\DV K H y d'/\PySem.SeqAt.shaped d=true/\PySem.SeqAt.shaped d'=true/\Q (.bl (!PyData.eqv d d')) H
theorem VP (hu:X.A.units+64 < cLine):JF X (compareOp .NotEq) (NZ X.K):=by
 intro pins s σ H x y v u Q I rx ry h
 obtain⟨d,d',h1,h2,hs,hs',q⟩:=h
 obtain⟨as,ra⟩:=h1.reads I rx
 obtain⟨bs,rb⟩:=h2.reads I ry
 exact SeqAt.compareNe_shaped ra rb hs hs' hu ⟨.bl _,H,I,rfl,q⟩
end
mutual
inductive DW (K:PySem.W.Frag) (H:Hp):V->PyData->Prop
 | non:DW K H .non .none
 | bl (b:Bool):DW K H (.bl b) (.bool b)
 | int (i:Int):DW K H (.int i) (.int i)
 | str (x:Str):DW K H (.str x) (.str x)
 | lst {a:Addr} {xs:List V} {ds:List PyData}:SqL K H a xs->a≠sysModules->DWs K H xs ds->DW K H (.ref a) (.list ds)
 | tup {a:Addr} {xs:List V} {ds:List PyData}:SqT K H a xs->DWs K H xs ds->DW K H (.ref a) (.tuple ds)
inductive DWs (K:PySem.W.Frag) (H:Hp):List V->List PyData->Prop
 | nil:DWs K H [] []
 | cons {x:V} {xs:List V} {d:PyData} {ds:List PyData}:DW K H x d->DWs K H xs ds->DWs K H (x::xs) (d::ds)
end
section
variable {X:Cx} {pins:List (Addr×Obj)} {σ:St} {H:Hp} {s:Shared}
def kD:qI->PyData
 | .inl i=>.int i
 | .inr x=>.str x
def DWd (K:PySem.W.Frag) (H:Hp):List (qI×V)->List (qI×PyData)->Prop:=Paired λ(p:qI×V) (q:qI×PyData)=>p.1=q.1/\DW K H p.2 q.2
def DWo (K:PySem.W.Frag) (H:Hp):List OV->List (OK×PyData)->Prop:=Paired λ(p:OV) (q:OK×PyData)=>p.1=q.1/\DW K H p.2.2 q.2
inductive RW (P:Program) (w:World) (K:PySem.W.Frag) (H:Hp):V->PyData->Prop
 | dat {v:V} {d:PyData}:DW K H v d->RW P w K H v d
 | dk {a:Addr} {kvs:List (qI×V)} {ds:List (qI×PyData)}:Rd H a (.dK kvs)->DWd K H kvs ds->RW P w K H (.ref a) (.dict (ds.map λx=>(kD x.1,x.2)))
 | odd {a:Addr} {ks:List OV} {ds:List (OK×PyData)}:MK P w K H a ks->DWo K H ks ds->RW P w K H (.ref a) (.dict (ds.map λx=>(x.1.dat,x.2)))
end
section
variable {X:Cx}
end
section
variable {X:Cx} {pins:List (Addr×Obj)} {σ:St} {H H':Hp} {s:Shared} {h':Heap}
end
section
variable {X:Cx} {o:Expr} {td:TE} {p1 pos1 ap cp:Pos}
end
section
variable {P:Program} {w:World} {A:Around} {E:Value->Shared->Prop} {s:Shared}
theorem WO (b:Str) (u:Tok) (l:Addr) (c:Value) (es:Array DictEntry) (n:Nat) (dd:Option Addr) (sl:Array (Option Value)):
   Meets (Builtin.«str.__eq__» ⟨[.str b u,.ref l],[]⟩) (λ_ R s=>s.heap.get? l=some {cls:=c,dict:=dd,data:=.dict es n,slots:=sl}/\R (.ok (.ret .notImplemented)) s):=
 .of_wp λprog w A R s h=>by obtain⟨hp,g,d,tk,os⟩:=s;obtain⟨hl,h⟩:=h;wp_walk using wpAny_loadPart' hl,wpAny_load hl;exact⟨_,rfl,h⟩
theorem WN (b:Str) (u:Tok) (l:Addr) (c:Value) (es:Array DictEntry) (n:Nat) (dd:Option Addr) (sl:Array (Option Value)):
   Meets (Builtin.«str.__ne__» ⟨[.str b u,.ref l],[]⟩) (λ_ R s=>s.heap.get? l=some {cls:=c,dict:=dd,data:=.dict es n,slots:=sl}/\R (.ok (.ret .notImplemented)) s):=
 .of_wp λprog w A R s h=>by obtain⟨hp,g,d,tk,os⟩:=s;obtain⟨hl,h⟩:=h;wp_walk using wpAny_loadPart' hl,wpAny_load hl;exact⟨_,rfl,h⟩
theorem yQ {a:Addr} {es:Array DictEntry} {ep:Nat} {b:Str} {u:Tok} {Q:Value->Shared->Prop} (x:RawD s.heap a es ep) (hu:A.units < cLine) (h:Q (.bool false) s):wpAny (model P w) A (compareOp .Eq (.ref a) (.str b u)) Q E s:=by
 have ty:=x.ty
 obtain⟨⟨cls,dd,data,sl⟩,ho,hc,hd⟩:=x
 simp only at hd
 subst hd
 refine PySem.SeqAt.rc_eq_decline_or (k:=false) ty (typeIs_str s b u) (by decide) zbx zcX zcv ?_ ?_ (λ_ hq=>wpAny_of_eq (rfl:isSame (.ref a) (.str b u)=pure false) hq) (.inr hu) h
 . intro Q' hq
   refine wpAny_call_entry zcX ty PySem.F.entry_dict_eq ?_ (PySem.F.args_dict_eq_2 _ _)
   show wpAny _ _ (Builtin.Dict.dictSlotArgs "__eq__" ⟨[.ref a,.str b u],[]⟩ >>= _) _ _ s
   refine wpAny_bind ?_
   unfold Builtin.Dict.dictSlotArgs
   refine wpAny_bind (wpAny_notOrdered_dict ty ?_)
   show wpAny _ _ (pure (Value.ref a,Value.str b u)) _ _ s
   refine wpAny_pure ?_
   refine wpAny_bind (wpAny_isInstance (T:="str") (typeIs_str s b u) zbx ?_)
   simp only[Bool.not_false,if_true]
   exact wpAny_bind (wpAny_rule (wpAny_pure ⟨_,rfl,hq⟩))
 . intro Q' hq
   exact call_meets zcv (typeIs_str s b u) PySem.F.entry_str_eq (PySem.F.args_str_eq_2 _ _) (WO b u a cls es ep dd sl) ⟨ho,hq⟩
theorem yP {a:Addr} {es:Array DictEntry} {ep:Nat} {b:Str} {u:Tok} {Q:Value->Shared->Prop} (x:RawD s.heap a es ep) (hu:A.units < cLine) (h:Q (.bool true) s):wpAny (model P w) A (compareOp .NotEq (.ref a) (.str b u)) Q E s:=by
 have ty:=x.ty
 obtain⟨⟨cls,dd,data,sl⟩,ho,hc,hd⟩:=x
 simp only at hd
 subst hd
 refine PySem.SeqAt.rc_ne_decline_or (k:=false) ty (typeIs_str s b u) (by decide) zbx zcY zcw ?_ ?_ (λ_ hq=>wpAny_of_eq (rfl:isSame (.ref a) (.str b u)=pure false) hq) (.inr hu) h
 . intro Q' hq
   refine wpAny_call_entry zcY ty PySem.F.entry_dict_ne ?_ (PySem.F.args_dict_ne_2 _ _)
   show wpAny _ _ (Builtin.Dict.dictSlotArgs "__ne__" ⟨[.ref a,.str b u],[]⟩ >>= _) _ _ s
   refine wpAny_bind ?_
   unfold Builtin.Dict.dictSlotArgs
   refine wpAny_bind (wpAny_notOrdered_dict ty ?_)
   show wpAny _ _ (pure (Value.ref a,Value.str b u)) _ _ s
   refine wpAny_pure ?_
   refine wpAny_bind (wpAny_isInstance (T:="str") (typeIs_str s b u) zbx ?_)
   simp only[Bool.not_false,if_true]
   exact wpAny_bind (wpAny_rule (wpAny_pure ⟨_,rfl,hq⟩))
 . intro Q' hq
   exact call_meets zcw (typeIs_str s b u) PySem.F.entry_str_ne (PySem.F.args_str_ne_2 _ _) (WN b u a cls es ep dd sl) ⟨ho,hq⟩
end
def DZ (K:PySem.W.Frag) (H:Hp) (v:V) (d:PyData):Prop:=DV K H v d\/∃a,v=.ref a/\Rd H a (.dK [])/\d=.dict []
def DY (K:PySem.W.Frag) (H:Hp) (v:V) (d:PyData):Prop:=DV K H v d\/∃p xs ds,v=.ref p/\SqT K H p xs/\Paired (DZ K H) xs ds/\d=.tuple ds
def okZ (d:PyData):Prop:=d=.dict []\/(d.canLay0=true/\d.depth<=40)
section
variable {X:Cx}
theorem yK {P:Program} {w:World} {H:Hp} {h:Heap} {a:Addr} {kvs:List (qI×V)} (ok:JU P w H h) (e:Rd H a (.dK kvs)):∃es ep,RawD h a es ep:=by
 obtain⟨_,hd,vs,rel,o,es,ep,g,c,d,_⟩:=e.ok ok
 exact⟨es,ep,o,g,c,d⟩
def N3 (K:PySem.W.Frag) (neg:Bool):R2:=λx y H Q=>∃(d:PyData) (z:Str),y=.str z/\DZ K H x d/\okZ d/\PyData.strOk z=true/\Q (.bl (if neg then !PyData.eqv d (.str z) else PyData.eqv d (.str z))) H
theorem VQ (hu:X.A.units+64 < cLine):JF X (compareOp .Eq) (N3 X.K false):=by
 intro pins s σ H x y v u Q I rx ry h
 obtain⟨d,z,rfl,dz,ok,sz,q⟩:=h
 rcases dz with dv | ⟨a,rfl,rd,rfl⟩
 . rcases ok with rfl | ⟨c,dp⟩
   . cases dv
   . refine VR hu pins s σ H x (.str z) v u Q I rx ry ⟨d,.str z,dv,.str z,?_,?_,q⟩
     . unfold PySem.SeqAt.shaped;rw[c];exact decide_eq_true (by omega)
     . unfold PySem.SeqAt.shaped;rw[show (PyData.str z).canLay0=true from sz];rfl
 . cases rx
   obtain⟨t,rfl⟩:=ry
   obtain⟨es,ep,raw⟩:=yK I.hok rd
   exact yQ raw (by omega) ⟨.bl false,H,I,rfl,q⟩
theorem Rp (hu:X.A.units+64 < cLine):JF X (compareOp .NotEq) (N3 X.K true):=by
 intro pins s σ H x y v u Q I rx ry h
 obtain⟨d,z,rfl,dz,ok,sz,q⟩:=h
 rcases dz with dv | ⟨a,rfl,rd,rfl⟩
 . rcases ok with rfl | ⟨c,dp⟩
   . cases dv
   . refine VP hu pins s σ H x (.str z) v u Q I rx ry ⟨d,.str z,dv,.str z,?_,?_,q⟩
     . unfold PySem.SeqAt.shaped;rw[c];exact decide_eq_true (by omega)
     . unfold PySem.SeqAt.shaped;rw[show (PyData.str z).canLay0=true from sz];rfl
 . cases rx
   obtain⟨t,rfl⟩:=ry
   obtain⟨es,ep,raw⟩:=yK I.hok rd
   exact yP raw (by omega) ⟨.bl true,H,I,rfl,q⟩
def Ri (K:PySem.W.Frag):List V->Hp->VK->Prop:=λxs H Q=>∃x c d b,xs=[x,.ty c]/\(DZ K H x d\/DY K H x d)/\zao K (.type (yc d)) (.type c)=some b/\Q (.bl b) H
theorem Jy:js X (.builtin "isinstance") (Ri X.K):=by
 intro pins s σ H xs us Q I r h
 obtain⟨x,c,d,b,rfl,dz,e,q⟩:=h
 have dv:DV X.K H x d->_:=λdv=>QW pins s σ H [x,.ty c] us Q I r ⟨x,c,d,b,rfl,dv,e,q⟩
 rcases dz with (h | ⟨a,rfl,rd,rfl⟩) | (h | ⟨p,xs,ds,rfl,sq,_,rfl⟩)
 . exact dv h
 . exact Jz pins s σ H _ us Q I r ⟨a,[],c,b,rfl,rd,e,q⟩
 . exact dv h
 . obtain⟨u,w',rfl,ru,rw'⟩:=ZM r
   cases ru
   cases rw'
   obtain⟨its,rv,⟨o,e1,hc,_⟩,hz⟩:=I.tuple sq
   exact zaj zbK I.kIn ⟨_,e1,hc⟩ e (λz=>nomatch z) λtk=>⟨.bl b,H,I.tok tk,rfl,q⟩
end
abbrev QA:=Option qI
def xX:QA->Value->Bool
 | none,v=>v==.none
 | some k,v=>J1 k v
theorem j6 {k:QA} {v:Value} (h:xX k v=true):(k=none/\v=.none)\/(∃i t,k=some (.inl i)/\v=.int i t)\/∃y t,k=some (.inr y)/\v=.str y t:=by
 cases k with
 | none=>exact .inl ⟨rfl,eq_of_beq h⟩
 | some k=>
   rcases jf (show J1 k v=true from h) with ⟨i,t,rfl,rfl⟩ | ⟨y,t,rfl,rfl⟩
   . exact .inr (.inl ⟨i,t,rfl,rfl⟩)
   . exact .inr (.inr ⟨y,t,rfl,rfl⟩)
section
variable {P:Program} {w:World} {A:Around} {E:Value->Shared->Prop} {s:Shared}
theorem V6 {Q:Int->Shared->Prop} (h:Q 0xFCA86420 {s with toks:=s.toks+1}):wpAny (model P w) A (pyHash .none) Q E s:=by
 unfold pyHash pyHashByItsType
 refine wpAny_bind (m:=cRoomFor "hash" [Value.none]) ?_
 unfold cRoomFor
 rw[if_neg (by decide)]
 refine wpAny_pure (wpAny_bind (wpAny_specialOf (typeIs_none s) zbg.lookup ?_))
 rw[if_neg (by decide)]
 refine wpAny_bind (wpAny_specialOf (typeIs_none s) zbg.lookup ?_)
 rw[if_neg (by decide)]
 refine wpAny_bind (wpAny_callSpecialIfBoundUnlessNone?_slot (typeIs_none s) zbg (wpAny_call_entry zbg (typeIs_none s) PySem.F.entry_NoneType_hash (show wpAny _ _ (do ret (<-mkInt 0xFCA86420)) _ _ s from wpAny_ret_mkInt ?_) (PySem.F.args_NoneType_hash_1 _)))
 dsimp only
 unfold pyHashByItsType.reduced
 rw[if_pos (by decide)]
 exact wpAny_pure h
def Q6 (P:Program) (w:World):PySem.KeyKind P w QA where
 is:=xX
 hash:=λk=>match k with
   | none=>0xFCA86420
   | some k=>(qQ P w).hash k
 inj:=λv a b ha hb=>by
   rcases j6 ha with ⟨rfl,rfl⟩ | ⟨i,t,rfl,rfl⟩ | ⟨y,t,rfl,rfl⟩<;>rcases j6 hb with ⟨rfl,e⟩ | ⟨i',t',rfl,e⟩ | ⟨y',t',rfl,e⟩<;>cases e<;>rfl
 byValue:=λk v h=>by
   rcases j6 h with ⟨rfl,rfl⟩ | ⟨i,t,rfl,rfl⟩ | ⟨y,t,rfl,rfl⟩<;>rfl
 pyHash:=λ{A E s k v Q} h q=>by
   cases k with
   | none=>rcases j6 h with ⟨_,rfl⟩ | ⟨i,t,e,_⟩ | ⟨y,t,e,_⟩
           . exact V6 q
           . cases e
           . cases e
   | some k=>exact(qQ P w).pyHash (k:=k) h q
 eqBool:=λ{A E s a b u v Q} ha hb q=>by
   rcases j6 ha with ⟨rfl,rfl⟩ | ⟨i,t,rfl,rfl⟩ | ⟨y,t,rfl,rfl⟩<;>rcases j6 hb with ⟨rfl,rfl⟩ | ⟨i',t',rfl,rfl⟩ | ⟨y',t',rfl,rfl⟩
   . exact PySem.SeqAt.EqAt.same _ P w E Q q
   . exact PySem.SeqAt.EqAt.none_int i' t' P w E Q q
   . exact PySem.SeqAt.EqAt.none_str y' t' P w E Q q
   . exact PySem.SeqAt.EqAt.int_none i t P w E Q q
   . exact(qQ P w).eqBool (a:=.inl i) (b:=.inl i') ha hb (by rw[show decide ((some (Sum.inl i):QA)=some (Sum.inl i'))=decide ((Sum.inl i:qI)=Sum.inl i') from decide_eq_decide.mpr ⟨λz=>tK.inj z,λz=>congrArg some z⟩]at q;exact q)
   . exact(qQ P w).eqBool (a:=.inl i) (b:=.inr y') ha hb (by rw[show decide ((some (Sum.inl i):QA)=some (Sum.inr y'))=decide ((Sum.inl i:qI)=Sum.inr y') from decide_eq_decide.mpr ⟨λz=>tK.inj z,λz=>congrArg some z⟩]at q;exact q)
   . exact PySem.SeqAt.EqAt.str_none y t P w E Q q
   . exact(qQ P w).eqBool (a:=.inr y) (b:=.inl i') ha hb (by rw[show decide ((some (Sum.inr y):QA)=some (Sum.inl i'))=decide ((Sum.inr y:qI)=Sum.inl i') from decide_eq_decide.mpr ⟨λz=>tK.inj z,λz=>congrArg some z⟩]at q;exact q)
   . exact(qQ P w).eqBool (a:=.inr y) (b:=.inr y') ha hb (by rw[show decide ((some (Sum.inr y):QA)=some (Sum.inr y'))=decide ((Sum.inr y:qI)=Sum.inr y') from decide_eq_decide.mpr ⟨λz=>tK.inj z,λz=>congrArg some z⟩]at q;exact q)
 «strs»:=λk x t v h=>by
   rcases j6 h with ⟨rfl,e⟩ | ⟨i,t',rfl,e⟩ | ⟨y,t',rfl,e⟩
   . cases e
   . cases e
   . exact(qQ P w).«strs» (.inr y) x t v h
end
def kN:QA->V
 | none=>.non
 | some k=>kV k
def QZ (P:Program) (w:World) (a:Addr) (kvs:List (QA×V)):HO:=.ext λh=>kvs.length<=sizeLine/\(a==sysModules)=false/\∃vs,KV kvs vs/\h.DictOf (Q6 P w) a vs
section
variable {P:Program} {w:World}
theorem Vn {h h':Heap} {a:Addr} {vs:List (QA×Value)} (x:h.DictOf (Q6 P w) a vs) (k:∀o,h.get? a=some o->h'.get? a=some o):h'.DictOf (Q6 P w) a vs:=by
 obtain⟨o,es,ep,g,r⟩:=x
 exact⟨o,es,ep,k o g,r⟩
theorem UX {H':Hp} {h':Heap} {a:Addr} {kvs:List (QA×V)} {vs:List (QA×Value)} (z:kvs.length<=sizeLine) (lo:(a==sysModules)=false) (r:KV kvs vs) (d:h'.DictOf (Q6 P w) a vs):jd P w H' h' a (QZ P w a kvs):=
 ⟨⟨z,lo,vs,r,d⟩,let ⟨o,_,_,g,_⟩:=d;⟨o,g⟩,λh1 h2 ⟨z,lo,vs,r,d⟩ k=>⟨z,lo,vs,r,Vn d k⟩⟩
theorem YK {H:Hp} {h:Heap} {a:Addr} {kvs:List (QA×V)} (ok:JU P w H h) (e:Rd H a (QZ P w a kvs)):kvs.length<=sizeLine/\(a==sysModules)=false/\∃vs,KV kvs vs/\h.DictOf (Q6 P w) a vs:=by
 obtain⟨x,_⟩:=(show jd P w H h a (QZ P w a kvs) from e.ok ok)
 exact x
def toN (kvs:List (qI×V)):List (QA×V):=kvs.map λp=>(some p.1,p.2)
theorem xT:∀{kvs:List (qI×V)} {vs:List (qI×Value)},KV kvs vs->KV (toN kvs) (vs.map λp=>(some p.1,p.2))
 | _,_,.nil=>.nil
 | _,_,.cons r t=>.cons ⟨congrArg some r.1,r.2⟩ (xT t)
theorem Xr:∀{es:List DictEntry} {vs:List (qI×Value)},Pairs (qQ P w) es vs->Pairs (Q6 P w) es (vs.map λp=>(some p.1,p.2))
 | _,_,.nil=>.nil
 | _,_,.cons h1 h2 t=>.cons h1 h2 (Xr t)
theorem wD {h:Heap} {a:Addr} {vs:List (qI×Value)} (d:h.DictOf (qQ P w) a vs):h.DictOf (Q6 P w) a (vs.map λp=>(some p.1,p.2)):=by
 obtain⟨o,es,ep,g,c,dt,hk,hp,hn⟩:=d
 refine⟨o,es,ep,g,c,dt,λe he=>?_,Xr hp,?_⟩
 . obtain⟨k,k1,k2⟩:=hk e he
   exact⟨some k,k1,k2⟩
 . rw[zaB,show ((λp:QA×Value=>p.1) ∘ λp:qI×Value=>((some p.1:QA),p.2))=some ∘ (λp=>p.1) from rfl,<-zaB]
   exact zbX.map _ (λa b z e=>z (tK.inj e)) hn
end
theorem Ks {v:V} {u u':Value} (r:qX v u) (r':qX v u') (A:Around) (s:Shared) (hv:(∃a,v=.ref a)\/v=.non\/(∃b,v=.bl b)\/(∃i,v=.int i)\/∃x,v=.str x):PySem.SeqAt.EqAt A s u u' true:=by
 rcases hv with ⟨a,rfl⟩ | rfl | ⟨b,rfl⟩ | ⟨i,rfl⟩ | ⟨x,rfl⟩
 . cases r;cases r';exact PySem.SeqAt.EqAt.same _
 . cases r;cases r';exact PySem.SeqAt.EqAt.same _
 . cases r;cases r';exact PySem.SeqAt.EqAt.same _
 . obtain⟨t,rfl⟩:=r
   obtain⟨t',rfl⟩:=r'
   have:=PySem.SeqAt.EqAt.int_int (A:=A) (s:=s) i t i t'
   simpa using this
 . obtain⟨t,rfl⟩:=r
   obtain⟨t',rfl⟩:=r'
   have:=PySem.SeqAt.EqAt.str_str (A:=A) (s:=s) x t x t'
   simpa using this
def Cm (v:V):Prop:=(∃a,v=.ref a)\/v=.non\/(∃b,v=.bl b)\/(∃i,v=.int i)\/∃x,v=.str x
section
variable {X:Cx} {κ:Type} [DecidableEq κ] {knd:PySem.KeyKind X.prog X.w κ}
theorem XE {kvs:List (κ×V)} {va vb:List (κ×Value)} {A:Around} {s:Shared} (ra:KV kvs va) (rb:KV kvs vb) (hn:(kvs.map (·.1)).Nodup) (hc:∀p∈kvs,Cm p.2):PySem.W.KeqHits A s vb va true:=by
 have key:∀(l:List (κ×V)) (m:List (κ×Value)),KV l m->(∀p∈l,p∈kvs)->PySem.W.KeqHits A s vb m true:=by
   intro l m r
   induction r with
   | nil=>intro _;exact .nil
   | @cons p p' l m r1 r2 ih=>
     intro hin
     have hp:=hin p (tS ..)
     have rel:=rb.val p.1
     have ev:qY kvs p.1=some p.2:=by
       clear rel ih r1 r2 ra rb hin
       induction kvs with
       | nil=>cases hp
       | cons a kvs ih=>
         rw[tP,zaf]at hn
         rcases tR.mp hp with rfl | hp
         . exact jh rfl
         . rw[ji (λe=>hn.1 (e▸tE.mpr ⟨p,hp,rfl⟩))]
           exact ih hn.2 (λq hq=>hc q (tN _ hq)) hp
     rw[ev]at rel
     obtain⟨k,y⟩:=p'
     obtain⟨ek,rv⟩:=r1
     cases hv:valueAt vb p.1 with
     | none=>rw[hv]at rel;exact rel.elim
     | some y'=>
       rw[hv]at rel
       have:=PySem.W.KeqHits.hit (A:=A) (s:=s) (kb:=vb) (k:=k) (v:=y) (r:=m) (e:=true) (b:=true) (by have ek':p.1=k:=ek;rw[<-ek'];exact hv) (Ks rv rel A s (hc p hp)) (ih λp hp=>hin p (tN _ hp))
       exact this
 exact key kvs va ra λ_ h=>h
def K3 (P:Program) (w:World):R2:=λx y H Q=>∃(a b:Addr),x=.ref a/\y=.ref b/\((∃kvs:List (qI×V),Rd H a (.dK kvs)/\Rd H b (.dK kvs)/\(kvs.map (·.1)).Nodup/\∀p∈kvs,Cm p.2)\/
 ∃kvs:List (QA×V),Rd H a (QZ P w a kvs)/\Rd H b (QZ P w b kvs)/\(kvs.map (·.1)).Nodup/\∀p∈kvs,Cm p.2)/\Q (.bl true) H
theorem uG (hu:X.A.units+64 < cLine):JF X (compareOp .Eq) (K3 X.prog X.w):=by
 intro pins s σ H x y v u Q I rx ry h
 obtain⟨a,b,rfl,rfl,h,q⟩:=h
 cases rx
 cases ry
 rcases h with ⟨kvs,ea,eb,hn,hc⟩ | ⟨kvs,ea,eb,hn,hc⟩
 . obtain⟨hda,va,ra,da⟩:=K2 I.hok ea
   obtain⟨hdb,vb,rb,db⟩:=K2 I.hok eb
   have la:=Paired.length ra
   have lb:=Paired.length rb
   refine zdp (r:=true) hda hdb da db (by omega) (λ_=>XE ra rb hn hc) ⟨.bl _,H,I,?_,q⟩
   show Value.bool _=Value.bool _
   rw[<-la,<-lb]
   simp
 . obtain⟨_,hda,va,ra,da⟩:=YK I.hok ea
   obtain⟨_,hdb,vb,rb,db⟩:=YK I.hok eb
   have la:=Paired.length ra
   have lb:=Paired.length rb
   refine zdp (r:=true) hda hdb da db (by omega) (λ_=>XE ra rb hn hc) ⟨.bl _,H,I,?_,q⟩
   show Value.bool _=Value.bool _
   rw[<-la,<-lb]
   simp
def Rl (P:Program) (w:World):List V->Hp->VK->Prop:=λxs H Q=>∃(a:Addr) (kvs:List (QA×V)),xs=[.ref a]/\Rd H a (QZ P w a kvs)/\∀p,H p=none->Q (.ref p) (upd H p (QZ P w p kvs))
theorem Ui:js X (.type "dict") (Rl X.prog X.w):=by
 intro pins s σ H xs us Q I r h
 obtain⟨a,kvs,rfl,ea,q⟩:=h
 obtain⟨u,rfl,ru⟩:=j4 r
 cases ru
 obtain⟨z,hd,vs,rel,dd⟩:=YK I.hok ea
 refine kt_call_dict hd dd (by rw[<-rel.length];exact z) λh' dd' hs=>?_
 refine⟨.ref s.heap.objs.size,_,I.laid (a:=s.heap.objs.size) (o:=QZ X.prog X.w s.heap.objs.size kvs) (t':=s.toks) (λb q hq=>?_) (tu _) (UX z (beq_eq_false_iff_ne.mpr (Ne.symm (tM I.big))) rel dd'),rfl,q _ (I.hok.fresh (tu _))⟩
 exact(hs.2 b (tM (tG hq))).trans (tq _ hq)
theorem k6:js X (.builtin "len") (λxs H Q=>∃(a:Addr) (kvs:List (QA×V)),xs=[V.ref a]/\Rd H a (QZ X.prog X.w a kvs)/\Q (.int kvs.length) H):=by
 intro pins s σ H xs us Q I r h
 obtain⟨a,kvs,rfl,ha,q⟩:=h
 obtain⟨u,rfl,ru⟩:=j4 r
 cases ru
 obtain⟨z,hd,vs,rel,dd⟩:=YK I.hok ha
 refine call_len_dict hd dd (by rw[<-rel.length];rw[sizeLine_eq]at z;omega) ?_
 exact⟨.int kvs.length,H,I.tok _,⟨_,by rw[rel.length]⟩,q⟩
theorem ZG:js X (.builtin "isinstance") (λxs H Q=>∃(a:Addr) (kvs:List (QA×V)) (c:String) (b:Bool),xs=[.ref a,.ty c]/\Rd H a (QZ X.prog X.w a kvs)/\zao X.K (.type "dict") (.type c)=some b/\Q (.bl b) H):=by
 intro pins s σ H xs us Q I r h
 obtain⟨a,ks,c,b,rfl,rd,e,q⟩:=h
 obtain⟨u,w',rfl,ru,rw'⟩:=ZM r
 cases ru
 cases rw'
 obtain⟨_,_,vs,_,o,es,ep,g,cl,_⟩:=YK I.hok rd
 exact zaj zbP I.kIn ⟨o,g,cl.1⟩ e (λz=>nomatch z) λtk=>⟨.bl b,H,I.tok tk,rfl,q⟩
end
def Re (P:Program) (w:World) (td ty tv:TE):TS:=λD σ H=>tv σ H λv H1=>td σ H1 λx H2=>ty σ H2 λy H3=>∃a,x=.ref a/\((∃H4,QE H3 a y v H4/\D.nx σ H4)\/
 ∃kvs,H3 a=some (.dK kvs)/\y=.non/\kvs.length < sizeLine/\D.nx σ (upd H3 a (QZ P w a (toN kvs++[(none,v)]))))
section
variable {X:Cx} {o i e value:Expr} {pos pos' apos cpos:Pos} {td ty tv:TE}
theorem yh (kvs:List (qI×V)):qY (toN kvs) none=none:=by
 cases e:qY (toN kvs) none with
 | none=>rfl
 | some v=>
   have:=ZN e
   obtain⟨p,hp,q⟩:=tE.mp this
   obtain⟨p',_,rfl⟩:=tE.mp hp
   cases q
theorem xZ (hu:X.A.units+64 < cLine) (ho:JE X o td) (hi:JE X i ty) (hv:JE X value tv) (hs:swapsWith value (some (.Subscript o i pos')) pos.line X.env=pure false):JS X (.Assign [.Subscript o i pos'] value pos) (Re X.prog X.w td ty tv):=.of (by
 have ho:=ho.to
 have hi:=hi.to
 have hv:=hv.to
 intro pins s σ H D I h
 refine wpAny_Assign_Subscript (jB (hv pins s σ H _ I h) λr s1 ⟨v,H1,I1,rv,q1⟩=>jB (ho pins s1 σ H1 _ I1 q1) λu s2 ⟨x,H2,I2,rx,q2⟩=>jB (hi pins s2 σ H2 _ I2 q2) λiv s3 ⟨y,H3,I3,ry,a,ex,q3⟩=>?_) hs
 subst ex
 obtain rfl:u=Value.ref a:=rx
 rcases q3 with ⟨H4,g,q3⟩ | ⟨kvs,ea,rfl,lt,q3⟩
 . exact XN (by omega) I3 g ry rv λs4 I4=>⟨σ,H4,I4,q3⟩
 . cases ry
   obtain⟨z,hd,vs,rel,dd⟩:=ve I3.hok ea
   have r2:=xT rel
   have d2:=wD dd
   have l2:(toN kvs).length=kvs.length:=by unfold toN;rw[tj]
   refine wpAny_setItem_pairs (knd:=Q6 X.prog X.w) (k:=none) (hsz:=by rw[<-r2.length,l2];omega) rfl d2 λh' dd' hs=>?_
   have r3:=r2.put (none:QA) rv
   rw[QC _ (yh kvs)]at r3
   have he:∃q,h'.get? a=some q:=let ⟨q,_,_,hq,_⟩:=dd';⟨q,hq⟩
   exact⟨σ,_,zf I3 (by rw[ea];exact True.intro) hs he (UX (by rw[tX,l2];exact lt) hd r3 dd'),q3⟩)
end
def KR (P:Program) (w:World) (a:Addr) (u:HO) (ks:List V):Prop:=∀(H:Hp) (h:Heap),jd P w H h a u->(a==sysModules)=false/\∃(ob:Obj) (es:Array DictEntry) (ep:Nat),h.get? a=some ob/\ob.ExactDict/\ob.data=.dict es ep/\es.size=ks.length/\∀(i:Nat) (hi:i < es.size),∃x,ks[i]?=some x/\qX x es[i].key
theorem ZB {P:Program} {w:World} {κ:Type} [DecidableEq κ] {knd:PySem.KeyKind P w κ} {f:κ->V} (hf:∀k v,knd.is k v=true->qX (f k) v):∀{es:List DictEntry} {vs:List (κ×Value)} {kvs:List (κ×V)},Pairs knd es vs->KV kvs vs->es.length=kvs.length/\∀(i:Nat) (e:DictEntry),es[i]?=some e->∃x,(kvs.map λp=>f p.1)[i]?=some x/\qX x e.key
 | _,_,_,.nil,.nil=>⟨rfl,λi e h=>by simp at h⟩
 | _,_,_,.cons h1 h2 t,.cons r r'=>by
   obtain⟨l,a⟩:=ZB hf t r'
   refine⟨by rw[zac,zac,l],λi e he=>?_⟩
   cases i with
   | zero=>
     cases he
     exact⟨_,rfl,hf _ _ (by rw[r.1];exact h1)⟩
   | succ i=>exact a i e (by simpa using he)
theorem Mh {P:Program} {w:World} {a:Addr} {kvs:List (qI×V)}:KR P w a (.dK kvs) (kvs.map λp=>kV p.1):=λH h ok=>by
 obtain⟨z,hd,vs,rel,o,es,ep,g,c,d,hk,hp,hn⟩:=ok
 obtain⟨l,al⟩:=ZB (f:=kV) (λk v hv=>by
   rcases jf (show J1 k v=true from hv) with ⟨i,t,rfl,rfl⟩ | ⟨y,t,rfl,rfl⟩
   . exact⟨t,rfl⟩
   . exact⟨t,rfl⟩) hp rel
 refine⟨hd,o,es,ep,g,c,d,by rw[tj,<-l,zag],λi hi=>al i _ (by simp [hi])⟩
theorem RL {P:Program} {w:World} {a:Addr} {kvs:List (QA×V)}:KR P w a (QZ P w a kvs) (kvs.map λp=>kN p.1):=λH h ok=>by
 obtain⟨⟨z,hd,vs,rel,o,es,ep,g,c,d,hk,hp,hn⟩,_⟩:=ok
 obtain⟨l,al⟩:=ZB (f:=kN) (λk v hv=>by
   rcases j6 hv with ⟨rfl,rfl⟩ | ⟨i,t,rfl,rfl⟩ | ⟨y,t,rfl,rfl⟩
   . rfl
   . exact⟨t,rfl⟩
   . exact⟨t,rfl⟩) hp rel
 refine⟨hd,o,es,ep,g,c,d,by rw[tj,<-l,zag],λi hi=>al i _ (by simp [hi])⟩
def M4 (a:Addr) (o:Obj) (u:HO) (ks:List V):It:=⟨λi H=>H a=some (.frz o u)/\i < ks.length,λi H x H'=>H'=H/\ks[i]?=some x,λi H=>H a=some (.frz o u)/\i=ks.length⟩
theorem V9 {P:Program} {w:World} {H:Hp} {h:Heap} {a:Addr} {o:Obj} {u:HO} {ks:List V} (ok:JU P w H h) (kr:KR P w a u ks) (e:H a=some (.frz o u)):
   (a==sysModules)=false/\∃es,RawD h a es (Wv o)/\es.size=ks.length/\∀(i:Nat) (hi:i < es.size),∃x,ks[i]?=some x/\qX x es[i].key:=by
 obtain⟨ho,ok'⟩:=(show jd P w H h a (.frz o u) from ok a _ e)
 obtain⟨hd,ob,es,ep,g,c,d,l,al⟩:=kr H h ok'
 rw[ho]at g
 cases g
 have ep':Wv o=ep:=by unfold Wv;rw[d]
 exact⟨hd,es,⟨o,ho,c,by rw[ep'];exact d⟩,l,al⟩
section
variable {X:Cx} {pins:List (Addr×Obj)} {σ:St} {H:Hp} {s:Shared} {tg:Expr}
theorem wZ {P:Program} {w:World} {K:PySem.W.Frag} (a it:Addr) (o:Obj) (u:HO) (ks:List V) (kr:KR P w a u ks):WA P w K tg (M4 a o u ks) [it] it (λi h=>h.IsKeyIter it a i ks.length (Wv o)) where
 mem:=by simp
 obj:=λi h st b hb=>by
   have e:b=it:=by simpa using hb
   subst e
   obtain⟨o,e,c,d⟩:=st
   exact⟨o,e,λv z=>by rw[d]at z;cases z⟩
 keep:=λi h h' st k=>let ⟨o,e,r⟩:=st;⟨o,k it (by simp) o e,r⟩
 item:=by
   intro X hP hw hK hc i pins s σ H E I hf st hg
   subst hP hw hK
   obtain⟨f0,f1,f2,f3,f4,f5⟩:=hf it (by simp)
   obtain⟨ea,hi⟩:=hg
   obtain⟨_,es,rd,sz,all⟩:=V9 I.hok kr ea
   rw[<-sz]at st hi
   refine uz st rd hi λh' st' sb=>?_
   have I1:qJ X pins σ H {s with heap:=h',toks:=s.toks}:=I.turned (λb o hb e=>(sb.2 b hb).trans e) f0 f1 f3 f4 f5
   obtain⟨x,pr,rx⟩:=all i hi
   obtain⟨o2,e2,c2,d2⟩:=id st'
   exact⟨_,rfl,XF (s:={s with heap:=h'}) e2 c2 d2 (by decide) ⟨x,H,I1,rx,⟨rfl,pr⟩,by rw[<-sz];exact st',λb hb=>(hf b hb).1⟩⟩
 done:=by
   intro X hP hw hK hc i pins s σ H E I hf st hg
   subst hP hw hK
   obtain⟨f0,f1,f2,f3,f4,f5⟩:=hf it (by simp)
   obtain⟨ea,hi⟩:=hg
   obtain⟨_,es,rd,sz,all⟩:=V9 I.hok kr ea
   subst hi
   rw[<-sz]at st
   exact yN (I.ok.hd hc) st rd λh' kk=>⟨rfl,I.turned (t':=s.toks) (λb o hb e=>kk b o hb e) f0 f1 f3 f4 f5⟩
 self:=λ_ _ _ _ _ st h=>wpAny_pyIter_keyiter st h
theorem qJ.freezeU {a:Addr} {u:HO} (I:qJ X pins σ H s) (e:H a=some u) (mu:Gj (some u)) (hex:∃o,s.heap.get? a=some o) (st:∀o,jd X.prog X.w H s.heap a u->s.heap.get? a=some o->jd X.prog X.w (upd H a (.frz o u)) s.heap a u):∃o,qJ X pins σ (upd H a (.frz o u)) s:=by
 have ok:=I.hok a _ e
 obtain⟨o,ho⟩:=hex
 have mu':Gj (H a):=by rw[e];exact mu
 have un:Un X.fs [] H (upd H a (.frz o u)) s.heap s.heap:=Un.write mu' (.inl rfl) (λb u _ q=>q) ⟨o,ho⟩
 have ok':JU X.prog X.w (upd H a (.frz o u)) s.heap:=I.hok.write mu' (.inl rfl) (λb u _ q=>q) ⟨o,ho⟩ ⟨ho,st o ok ho⟩
 exact⟨o,I.un (t':=s.toks) un ok'⟩
def R6 (P:Program) (w:World) (tl:TE):TI:=λσ H R=>tl σ H λx H1=>∃(a:Addr) (u:HO) (ks:List V),x=.ref a/\Rd H1 a u/\((∃kvs,u=.dK kvs/\ks=kvs.map λp=>kV p.1)\/∃kvs,u=QZ P w a kvs/\ks=kvs.map λp=>kN p.1)/\
 ∀o H2,(∀b,b≠a->H2 b=H1 b)->H2 a=some (.frz o u)->R (M4 a o u ks) H2
theorem x4 {l:Expr} {tl:TE} (hl:JE X l tl):JI X tg l (R6 X.prog X.w tl):=.of (by
 have hl:=hl.to
 intro pins s σ H R I h
 refine jB (hl pins s σ H _ I h) λv s1 ⟨x,H1,I1,r1,q1⟩=>?_
 obtain⟨a,u,ks,e,ea,hk,q⟩:=q1
 subst e
 cases r1
 have kr:KR X.prog X.w a u ks:=by
   rcases hk with ⟨kvs,rfl,rfl⟩ | ⟨kvs,rfl,rfl⟩
   . exact Mh
   . exact RL
 have fr:∃o H2,qJ X pins σ H2 s1/\(∀b,b≠a->H2 b=H1 b)/\H2 a=some (.frz o u):=by
   rcases ea with ea | ⟨o,ea⟩
   . have:∃o,qJ X pins σ (upd H1 a (.frz o u)) s1:=by
       rcases hk with ⟨kvs,rfl,_⟩ | ⟨kvs,rfl,_⟩
       . exact I1.freeze ea
       . exact I1.freezeU ea True.intro (I1.hok a _ ea).2.1 λo ok _=>ok
     obtain⟨o,I2⟩:=this
     exact⟨o,_,I2,λb hb=>qi hb,qe⟩
   . exact⟨o,H1,I1,λ_ _=>rfl,ea⟩
 obtain⟨o,H2,I2,ne,e2⟩:=fr
 obtain⟨hd,es,rd,sz,all⟩:=V9 I2.hok kr e2
 refine raw_iter hd rd ?_
 refine⟨s1.heap.objs.size,[s1.heap.objs.size],_,_,H2,rfl,I2.kept (t':=s1.toks) λb o e=>tq _ e,wZ a _ o u ks kr,?_,λb hb=>?_,q o H2 ne e2⟩
 . rw[<-sz]
   exact⟨_,tJ _ rfl,rfl,rfl⟩
 . have e:b=s1.heap.objs.size:=by simpa using hb
   subst e
   exact I2.fpOk (tu _) (I2.hok.fresh (tu _)))
def X3:V->Str
 | .str x=>x
 | .int i=>toString i
 | _=>"None"
def yS:List V->Hp->VK->Prop:=λxs H Q=>∃v,xs=[v]/\((∃x,v=.str x)\/v=.non\/∃i:Int,v=.int i/\0<=i/\i < 10^100)/\Q (.str (X3 v)) H
theorem kX:js X (.type "str") yS:=by
 intro pins s σ H xs us Q I r h
 obtain⟨v,rfl,h,q⟩:=h
 rcases h with ⟨x,rfl⟩ | rfl | ⟨i,rfl,h1,h2⟩
 . obtain⟨u,rfl,ru⟩:=j4 r
   obtain⟨t,rfl⟩:=ru
   exact P.str_of_str ⟨.str x,H,I,⟨_,rfl⟩,q⟩
 . obtain⟨u,rfl,ru⟩:=j4 r
   cases ru
   exact P.str_of_none ⟨.str "None",H,I.tok _,⟨_,rfl⟩,q⟩
 . exact kW pins s σ H _ us Q I r ⟨i,rfl,by omega,h2,q⟩
theorem Zd:JF X (compareOp .IsNot) (λx y H Q=>∃a b:Bool,x=.bl a/\y=.bl b/\Q (.bl (!decide (a=b))) H):=by
 intro pins s σ H x y v u Q I rx ry h
 obtain⟨a,b,rfl,rfl,q⟩:=h
 cases rx
 cases ry
 exact isnot_bool ⟨.bl _,H,I,by cases a<;>cases b<;>rfl,q⟩
end
theorem Nc {a D:Addr} {o:Obj} {u:HO} {ks:List V} {out:V->Option V} {rest:St} {H:Hp} {tt:TT} {te:TE} {Q:Hp->Prop} (hD:H D=none) (ha:H a=some (.frz o u)) (len:ks.length < sizeLine)
   (ht:∀x∈ks,∀G,(∀b o,H b=some o->G b=some o)->∀R:Bool->Hp->Prop,(∀G',(∀b o,G b=some o->G' b=some o)->R (out x).isSome G')->tt (some x::rest) G R)
   (he:∀x∈ks,∀v,out x=some v->∀G,(∀b o,H b=some o->G b=some o)->∀R:V->Hp->Prop,(∀G',(∀b o,G b=some o->G' b=some o)->R v G')->te (some x::rest) G R)
   (k:∀G,(∀b o,H b=some o->G b=some o)->G D=some (.lst (ks.filterMap out))->Q G):ZO (M4 a o u ks) (Qu 0) tt te D (none::rest) H Q:=by
 have sD:∀b o,H b=some o->upd H D (.lst []) b=some o:=λb o h=>by
   rw[qi (λe=>by rw[e,hD]at h;cases h)]
   exact h
 refine⟨λi m σ' G=>i+m=ks.length/\(∃v0,σ'=v0::rest)/\(∀b o,H b=some o->G b=some o)/\G D=some (.lst ((ks.take i).filterMap out)),⟨ks.length,by omega,⟨none,rfl⟩,sD,qe⟩,?_⟩
 rintro i m σ' G ⟨em,⟨v0,rfl⟩,s,hG⟩
 by_cases hi:i < ks.length
 . refine .inr ⟨⟨s _ _ ha,hi⟩,λσ2 G2=>i+1+(m - 1)=ks.length/\(∃v0,σ2=v0::rest)/\(∀b o,H b=some o->G2 b=some o)/\G2 D=some (.lst ((ks.take (i+1)).filterMap out)),λσ2 G2 h=>⟨m - 1,by omega,h⟩,?_⟩
   rintro y G' ⟨rfl,ek⟩
   have hm:y∈ks:=tY ek
   have et:(ks.take (i+1)).filterMap out=(ks.take i).filterMap out++(out y).toList:=by
     rw[tQ,ek,zaV]
     cases c:out y<;>simp [c]
   show tt (some y::rest) G' _
   refine ht y hm G' s _ λG1 s1=>?_
   cases c:out y with
   | none=>
     refine(show if false=true then _ else _ from ?_)
     rw[if_neg tI]
     refine⟨by omega,⟨_,rfl⟩,λb o h=>s1 _ _ (s _ _ h),?_⟩
     rw[et,c]
     simpa using s1 _ _ hG
   | some v=>
     refine(show if true=true then _ else _ from ?_)
     rw[if_pos rfl]
     refine he y hm v c G1 (λb o h=>s1 _ _ (s _ _ h)) _ λG2 s2=>?_
     refine⟨_,s2 _ _ (s1 _ _ hG),?_,by omega,⟨_,rfl⟩,?_,?_⟩
     . refine zaD (zas _ _) ?_
       rw[tT]
       omega
     . intro b o h
       rw[qi (λe=>by rw[e,hD]at h;cases h)]
       exact s2 _ _ (s1 _ _ (s _ _ h))
     . rw[et,c]
       exact qe
 . have ei:i=ks.length:=by omega
   refine .inl ⟨⟨s _ _ ha,ei⟩,k G s ?_⟩
   rw[hG,ei,tF (tu _)]
section
variable {X:Cx}
theorem Y7:∀(bs:List Bool),(tU bs.length).any (λi=>bs.getD i false)=bs.any id:=by
 intro bs
 induction bs with
 | nil=>rfl
 | cons b bs ih=>
   rw[zac,zcD,zbt,zdj,zbt]
   have:((λi=>(b::bs).getD i false) ∘ zcx)=λi=>bs.getD i false:=by
     funext i
     simp [Function.comp]
   rw[this,ih]
   simp
theorem k7 (hc:X.calm=true):js X (.builtin "any") (λxs H Q=>∃(p:Addr) (bs:List Bool),xs=[.ref p]/\SqL X.K H p (bs.map V.bl)/\Q (.bl (bs.any id)) H):=by
 intro pins s σ H xs us Q I r h
 obtain⟨p,bs,rfl,hq,q⟩:=h
 obtain⟨u,rfl,rx⟩:=j4 r
 cases rx
 obtain⟨its,rv,pl,hz⟩:=I.list hq
 have hlt:p < s.heap.objs.size:=by
   obtain⟨o,n,e,_⟩:=pl
   exact tG e
 have hn:its.toArray.size=bs.length:=by
   have:=rv.length
   rw[tj]at this
   simp only[tW]
   omega
 have hh:X.A.in1.handled=none:=I.ok.hd hc
 refine call_any_walk (wpAny_pyIter_list pl.isList ?_)
 refine⟨s.heap.objs.size,[s.heap.objs.size,p],[s.heap.objs.size],its.toArray.size,λi v=>its.toArray[i]?=some v,_,λi=>bs.getD i false,rfl,Walks.list hh s.heap.objs.size p (tM hlt) its.toArray,
   ⟨⟨_,tJ _ rfl,rfl,rfl⟩,pl.isList.at λo e=>tq _ e⟩,?_,λh' tk hk=>?_⟩
 . intro i v s' Q' E' hP hQ
   have hi:its[i]?=some v:=by simpa using hP
   have hb:∃b,bs[i]?=some b/\v=Value.bool b:=by
     cases e:bs[i]? with
     | none=>
       exfalso
       have h1:(bs.map V.bl)[i]?=none:=by rw[tH,e];rfl
       rw[qP.none_of rv h1]at hi
       cases hi
     | some b=>
       have h1:(bs.map V.bl)[i]?=some (V.bl b):=by rw[tH,e];rfl
       obtain⟨u,hu,ru⟩:=rv.get h1
       rw[hi]at hu
       cases hu
       exact⟨b,rfl,ru⟩
   obtain⟨b,e,rfl⟩:=hb
   refine wpAny_truthy_bool ?_
   have e2:bs.getD i false=b:=by rw[zap,e];rfl
   have hQ':Q' (bs.getD i false) s':=hQ
   rw[e2]at hQ'
   exact hQ'
 . rw[hn,Y7]
   refine⟨.bl (bs.any id),H,?_,rfl,q⟩
   exact I.kept (h':=h') (t':=tk) λb o e=>hk b o (by
     intro z
     have z':b=s.heap.objs.size:=by simpa using z
     exact absurd (tG e) (by rw[z'];exact zay _)) (tq _ e)
end
open PySem PySem.Spec PyProof.Rows PySem.W
section
variable {X:Cx}
def yT:List V->Hp->VK->Prop:=λxs H Q=>∃(a:Addr) (kvs:List (qI×V)) (zs:List Str),xs=[.ref a]/\Rd H a (.dK kvs)/\kvs.map (·.1)=zs.map Sum.inr/\zs.length < 64/\∀l ys,H l=none->ys.Perm zs->sortedS ys=true->Q (.ref l) (upd H l (.lst (ys.map V.str)))
theorem ZF (hc:X.calm=true):js X (.builtin "sorted") yT:=by
 intro pins s σ H xs us Q I r h
 obtain⟨a,kvs,zs,rfl,ea,ek,h64,q⟩:=h
 obtain⟨u,rfl,ru⟩:=j4 r
 cases ru
 obtain⟨zk,hd,vs,rel,dd⟩:=ze I.hok ea
 obtain⟨ep,dat⟩:=dd.dictAt
 have lk:kvs.length=zs.length:=by simpa using congrArg zax ek
 have lv:kvs.length=vs.length:=Paired.length rel
 have hh:X.A.in1.handled=none:=I.ok.hd hc
 refine Calls.call_function_entry kind_sorted plain_sorted entry_sorted (args_sorted1 _) ?_
 unfold Builtin.«sorted»
 refine wpAny_bind (m:=checkCount "sorted" 1 1 _) (wpAny_pure ?_)
 refine wpAny_bind (kdu_collect (kdl_dict (knd:=qQ X.prog X.w) (kvs:=vs) (ep:=ep) hd) hh dat (by rw[<-lv];exact zk) λh1 tk acc k1 it=>?_)
 have vv:qP (zs.map V.str) acc.toList:=by
   refine Xt _ _ (by have:=it.1;simp only[tj,zag];omega) λi x u e1 e2=>?_
   have e2':acc[i]?=some u:=by simpa using e2
   obtain⟨k,y,f1,f2⟩:=it.2 i u e2'
   rw[tH]at e1
   cases ez:zs[i]? with
   | none=>rw[ez]at e1;cases e1
   | some z=>
     rw[ez]at e1
     obtain rfl:=(tK.inj e1).symm
     have hi:i < kvs.length:=by
       have:=(tw.mp ez).1
       omega
     obtain⟨q',g1,g2,_⟩:=Qv rel (tz hi)
     rw[f1]at g1
     cases g1
     have h1:(kvs.map (·.1))[i]?=some kvs[i].1:=by rw[tH,tz hi];rfl
     rw[ek,tH,ez]at h1
     have e3:k=Sum.inr z:=g2.symm.trans (tK.inj h1).symm
     subst e3
     rcases jf (show J1 (Sum.inr z) u=true from f2) with ⟨_,_,c,_⟩ | ⟨w',t,c,rfl⟩
     . cases c
     . cases c
       exact⟨t,rfl⟩
 have hS:=Uz vv
 have la:acc.toList.length=zs.length:=by
   have:=vv.length
   rw[tj]at this
   exact this.symm
 generalize acc.toList=ws at vv hS la
 refine wpAny_bind (wpAny_newList ?_)
 have I1:qJ X pins σ H {s with heap:=h1,toks:=tk}:=I.kept (t':=tk) k1
 show wpAny _ _ _ _ _ {s with heap:=h1.push (seqObj "list" ws.toArray 0),toks:=tk}
 have oL:(h1.push (seqObj "list" ws.toArray 0)).get? h1.objs.size=some (seqObj "list" ws.toArray 0):=tJ _ rfl
 refine wpAny_bind (wpAny_holding (wpAny_call_entry slot_list_sort ⟨_,oL,rfl⟩ entry_list_sort (list_sort_treeK strKind_oneLt oL hS.keysOf (λv₁ v₂ rest e=>keyKind_strs (by rw[<-e];exact hS)) (by omega) λst' a1 a2=>⟨_,rfl,?_⟩) (args_list_sort _)))
 refine wpAny_pure ⟨_,rfl,?_⟩
 obtain⟨ss',b1,b2,b3⟩:=sorted_out_str hS a1 a2
 generalize (arrOf st').map (λx=>x.2)=out at b1
 have kf:∀b o,h1.get? b=some o->(sortedHeap (h1.push (seqObj "list" ws.toArray 0)) h1.objs.size ws out).get? b=some o:=λb o e=>by
   have lb:=tG e
   rw[sortedHeap_old (tM lb) (tG (tq _ e))]
   exact tq _ e
 obtain⟨c3,o3⟩:=sortedHeap_at (vs:=ws) (out:=out) oL
 have ls:ss'.length=zs.length:=b2.length_eq
 refine⟨.ref h1.objs.size,_,I1.laid (t':=tk) (o:=.lst (ss'.map V.str)) kf (tu _) ⟨by rw[tj,ls];exact zab (zcf h64 (by decide)),_,c3,XZ b1,o3⟩,rfl,q _ ss' (I1.hok.fresh (tu _)) b2 b3⟩
end
end L2
namespace Rb
def setN (ns:List Nat):Nat:=ns.foldl (λb n=>b ||| 2^n) 0
def memN (b n:Nat):List Nat:=(tU n).filter λi=>b.testBit i
def Lacks (r:Nat) (ns:List Nat):Prop:=r∉ns/\∀x,x < r->x∈ns
theorem RC (x:Nat):x % 2=(x.testBit 0).toNat:=by
 rw[Nat.testBit_zero]
 rcases Nat.mod_two_eq_zero_or_one x with h | h<;>simp [h]
theorem or_and_xor (a:Nat):∀b,(a ||| b)=(a&&& b)+(a^^^b):=by
 induction a using Nat.strongRecOn with
 | ind a ih=>
   intro b
   by_cases ha:a=0
   . subst ha;simp
   . have i:=ih (a / 2) (by omega) (b / 2)
     have o1:(a ||| b) / 2=(a / 2) ||| (b / 2):=Nat.or_div_two
     have n1:(a&&& b) / 2=(a / 2)&&& (b / 2):=Nat.and_div_two
     have x1:(a^^^b) / 2=(a / 2)^^^ (b / 2):=Nat.xor_div_two
     have m:(a ||| b) % 2=(a&&& b) % 2+(a^^^b) % 2:=by
       rw[RC (a ||| b),RC (a&&& b),RC (a^^^b),Nat.testBit_or,Nat.testBit_and,Nat.testBit_xor]
       cases a.testBit 0<;>cases b.testBit 0<;>rfl
     omega
theorem wx (ns:List Nat):∀b k,(ns.foldl (λb n=>b ||| 2^n) b).testBit k=(b.testBit k || decide (k∈ns)):=by
 induction ns with
 | nil=>intro b k;simp
 | cons n ns ih=>
   intro b k
   rw[List.foldl_cons,ih,Nat.testBit_or,Nat.testBit_two_pow]
   by_cases h:n=k
   . subst h;simp
   . have h':¬k=n:=λe=>h e.symm
     simp [h,h']
theorem testBit_setN (ns:List Nat) (k:Nat):(setN ns).testBit k=decide (k∈ns):=by
 unfold setN
 rw[wx]
 simp
theorem mem_memN {b n i:Nat}:i∈memN b n↔i < n/\b.testBit i=true:=by
 unfold memN
 simp
theorem testBit_big {b k m:Nat} (h:b < 2^m) (hk:m<=k):b.testBit k=false:=Nat.testBit_lt_two_pow (tO h (Nat.pow_le_pow_right (by decide) hk))
theorem XA {b m:Nat} (h:b < 2^m):∀n,m<=n->memN b n=memN b m:=by
 intro n hn
 obtain⟨k,rfl⟩:=Nat.le.dest hn
 unfold memN
 rw[List.range_add,zbL]
 have e:((tU k).map (m+·)).filter (λi=>b.testBit i)=[]:=by
   rw[zbR]
   intro i hi
   obtain⟨j,_,rfl⟩:=tE.mp hi
   rw[testBit_big h (Nat.le_add_right _ _)]
   simp
 rw[e,zaZ]
theorem memN_same {b m n:Nat} (hm:b < 2^m) (hn:b < 2^n):memN b n=memN b m:=by
 by_cases h:m<=n
 . exact XA hm n h
 . exact(XA hn m (by omega)).symm
theorem setN_lt {ns:List Nat} {m:Nat} (h:∀x∈ns,x < m):setN ns < 2^m:=by
 refine Nat.lt_pow_two_of_testBit _ λi hi=>?_
 rw[testBit_setN]
 refine decide_eq_false λz=>?_
 have:=h i z
 omega
theorem pigeon:∀(n:Nat) (ns:List Nat),(∀x,x < n->x∈ns)->n<=ns.length:=by
 intro n
 induction n with
 | zero=>intro ns _;exact zah _
 | succ n ih=>
   intro ns h
   have hn:n∈ns:=h n (zaI n)
   have:=ih (ns.erase n) λx hx=>(zby (by omega)).mpr (h x (zbu hx))
   rw[zbI hn]at this
   have hp:0 < ns.length:=zbS hn
   omega
theorem Lacks.uniq {r s:Nat} {ns:List Nat} (h:Lacks r ns) (g:Lacks s ns):r=s:=by
 rcases zcr r s with z | z | z
 . exact absurd (g.2 r z) h.1
 . exact z
 . exact absurd (h.2 s z) g.1
def JK (ns:List Nat):Nat->Nat
 | 0=>0
 | i+1=>if JK ns i∈ns then JK ns i+1 else JK ns i
theorem VZ (ns:List Nat):∀i,(∀x,x < JK ns i->x∈ns)/\JK ns i<=i/\(JK ns i < i->JK ns i∉ns):=by
 intro i
 induction i with
 | zero=>exact⟨λx hx=>absurd hx (zbr _),tu _,λh=>absurd h (zay _)⟩
 | succ i ih=>
   obtain⟨h1,h2,h3⟩:=ih
   unfold JK
   by_cases h:JK ns i∈ns
   . rw[if_pos h]
     refine⟨λx hx=>?_,by omega,λhlt=>absurd h (h3 (by omega))⟩
     by_cases e:x=JK ns i
     . rw[e];exact h
     . exact h1 x (by omega)
   . rw[if_neg h]
     exact⟨h1,by omega,λ_=>h⟩
theorem lackI_lacks (ns:List Nat):Lacks (JK ns (ns.length+1)) ns:=by
 obtain⟨h1,h2,h3⟩:=VZ ns (ns.length+1)
 refine⟨h3 ?_,h1⟩
 have:=pigeon _ _ h1
 omega
def lackN (ns:List Nat):Nat:=JK ns (ns.length+1)
theorem lackN_eq {r:Nat} {ns:List Nat} (h:Lacks r ns):r=lackN ns:=h.uniq (lackI_lacks ns)
theorem memN_succ (b i:Nat):memN b (i+1)=memN b i++(if b.testBit i then [i] else []):=by
 unfold memN
 rw[zcb,zbL]
 congr 1
 by_cases h:b.testBit i=true
 . simp [h]
 . simp [h]
theorem testBit_div (b i:Nat):b.testBit i=decide (b / 2^i % 2=1):=by
 rw[Nat.testBit_eq_decide_div_mod_eq]
theorem setN_snoc (ns:List Nat) (n:Nat):setN (ns++[n])=setN ns ||| 2^n:=by unfold setN;rw[List.foldl_append];rfl
end Rb
namespace MLab
def M5 (ns:List Nat):Nat:=ns.foldr (λa b=>a^^^b) 0
section
variable {α:Type} (G:α->List α)
structure MP (ok:α->Prop) (num:α->Option Nat) (stp:α->Nat):Prop where
 cl:∀{x y},ok x->y∈G x->ok y
 n1:∀{x n m},ok x->num x=some n->m < n->∃y∈G x,num y=some m/\stp y < stp x
 n2:∀{x y n},ok x->num x=some n->y∈G x->num y≠some n
 n3:∀{x y n},ok x->num x=some n->y∈G x->(∀m,num y=some m->n < m)->∃z∈G y,num z=some n/\stp z < stp x
 n4:∀{x y n m},ok x->num x=some n->y∈G x->num y=some m->m < n->stp y < stp x
 e:∀{x m},ok x->num x=none->(∀j,j < m->∃y∈G x,num y=some j)->(∀y∈G x,num y≠some m)->∃y∈G x,num y=none/\∀z∈G y,num z≠some m
section
variable {β:Type} (M:β->List β)
mutual
inductive MO:β->Prop
 | mk {a:β} (h:∀b∈M a,Won b):MO a
inductive Won:β->Prop
 | mk {a b:β} (m:b∈M a) (h:MO b):Won a
end
end
def mv:List α->List (List α)
 | []=>[]
 | x::h=>(G x).map (λy=>y::h)++(mv h).map (λb=>x::b)
variable {G} {ok:α->Prop} {num:α->Option Nat} {stp:α->Nat}
def qas (num:α->Option Nat) (h:List α):List Nat:=h.filterMap num
def ends (num:α->Option Nat) (h:List α):Nat:=(h.filter λx=>(num x).isNone).length
def Drawn (G:α->List α) (num:α->Option Nat) (h:List α):Prop:=(∃p x q,h=p++x::q/\num x=none/\ends num (p++q)=0/\∀y∈G x,num y≠some (M5 (qas num (p++q))))\/2<=ends num h
end
section
variable {α:Type} [DecidableEq α] (G:α->List α) (N:List α)
abbrev Rs (α:Type):=List (Nat×List α)
def jt (rs:Rs α) (z:α):Option Nat:=(rs.find? λr=>decide (z∈r.2)).map (·.1)
def ZL (rs:Rs α) (z:α):Nat:=rs.findIdx λr=>decide (z∈r.2)
def Xh (f:α->Option Nat) (x:α) (n:Nat):Prop:=(∀j,j < n->∃y∈G x,f y=some j)/\(∀y∈G x,f y≠some n)/\∀y∈G x,f y=none->∃z∈G y,f z=some n
structure wQ (rs:Rs α) (n:Nat) (ns:List α):Prop where
 iff:∀x,x∈ns↔x∈N/\jt rs x=none/\Xh G (jt rs) x n
 sub:ns.Sublist N
inductive J8 (n:Nat):Rs α->Rs α->Prop
 | stop {rs:Rs α} (h:wQ G N rs n []):J8 n rs rs
 | more {rs rs':Rs α} {ns:List α} (h:wQ G N rs n ns) (ne:ns≠[]) (k:J8 n (rs++[(n,ns)]) rs'):J8 n rs rs'
inductive All:Nat->Rs α->Rs α->Prop
 | stop {n:Nat} {rs:Rs α} (h:wQ G N rs n []):All n rs rs
 | more {n:Nat} {rs rs' rs'':Rs α} (h:J8 G N n rs rs') (ne:rs'≠rs) (k:All (n+1) rs' rs''):All n rs rs''
variable {G N}
theorem Z9 {rs:Rs α} {n:Nat} {ns:List α} {z:α}:jt (rs++[(n,ns)]) z=match jt rs z with | some m=>some m | none=>if z∈ns then some n else none:=by
 unfold jt
 rw[List.find?_append]
 cases e:rs.find? (λr=>decide (z∈r.2)) with
 | some r=>rfl
 | none=>
   by_cases c:z∈ns
   . simp [c]
   . simp [c]
theorem Wu {rs:Rs α} {z:α}:jt rs z=none↔∀r∈rs,z∉r.2:=by
 unfold jt
 rw[Option.map_eq_none_iff,List.find?_eq_none]
 simp
theorem Q4 {rs:Rs α} {n m:Nat} {ns:List α} {z:α} (h:jt rs z=some m):ZL (rs++[(n,ns)]) z=ZL rs z/\ZL rs z < rs.length:=by
 have ex:∃r∈rs,z∈r.2:=Classical.byContradiction λno=>by
   have:=Wu.mpr λr hr hz=>no ⟨r,hr,hz⟩
   rw[h]at this
   cases this
 obtain⟨r,hr,hz⟩:=ex
 have lt:ZL rs z < rs.length:=zbT ⟨r,hr,decide_eq_true hz⟩
 refine⟨?_,lt⟩
 unfold ZL at lt ⊢
 rw[zdc,if_pos lt]
theorem UK {rs:Rs α} {n:Nat} {ns:List α} {z:α} (h:jt rs z=none) (hz:z∈ns):ZL (rs++[(n,ns)]) z=rs.length:=by
 have e:ZL rs z=rs.length:=by
   unfold ZL
   rw[List.findIdx_eq_length]
   intro r hr
   exact decide_eq_false (Wu.mp h r hr)
 unfold ZL at e ⊢
 rw[zdc,if_neg (by rw[e];exact zay _)]
 simp [hz,List.findIdx_cons]
variable (G N) in
structure Gg (rs:Rs α) (n:Nat):Prop where
 inN:∀{x m},jt rs x=some m->x∈N
 le:∀{x m},jt rs x=some m->m<=n
 n1:∀{x k m},jt rs x=some k->m < k->∃y∈G x,jt rs y=some m/\ZL rs y < ZL rs x
 n2:∀{x y k},jt rs x=some k->y∈G x->jt rs y≠some k
 n3:∀{x y k},jt rs x=some k->y∈G x->(∀m,jt rs y=some m->k < m)->∃z∈G y,jt rs z=some k/\ZL rs z < ZL rs x
 n4:∀{x y k m},jt rs x=some k->y∈G x->jt rs y=some m->m < k->ZL rs y < ZL rs x
theorem Zv {rs:Rs α} {n m:Nat} {ns:List α} {z:α} (h:jt rs z=some m):jt (rs++[(n,ns)]) z=some m:=by rw[Z9,h]
theorem wz {rs:Rs α} {n:Nat} {ns:List α} {z:α} (h:jt rs z=none) (hz:z∈ns):jt (rs++[(n,ns)]) z=some n:=by
 rw[Z9,h]
 exact if_pos hz
theorem Qi {rs:Rs α} {n m:Nat} {ns:List α} {z:α} (h:jt (rs++[(n,ns)]) z=some m):(jt rs z=some m/\ZL (rs++[(n,ns)]) z=ZL rs z/\ZL rs z < rs.length)\/(jt rs z=none/\z∈ns/\m=n/\ZL (rs++[(n,ns)]) z=rs.length):=by
 cases e:jt rs z with
 | some k=>
   rw[Zv e]at h
   cases h
   exact .inl ⟨rfl,Q4 e⟩
 | none=>
   rw[Z9,e]at h
   by_cases c:z∈ns
   . have h:(if z∈ns then some n else none)=some m:=h
     rw[if_pos c]at h
     cases h
     exact .inr ⟨rfl,c,rfl,UK e c⟩
   . have h:(if z∈ns then some n else none)=some m:=h
     rw[if_neg c]at h
     cases h
theorem wy {rs:Rs α} {n:Nat} {ns:List α} {z:α} (h:jt (rs++[(n,ns)]) z=none):jt rs z=none:=by
 cases e:jt rs z with
 | none=>rfl
 | some k=>rw[Zv e]at h;cases h
theorem Gg.more {rs:Rs α} {n:Nat} {ns:List α} (v:Gg G N rs n) (r:wQ G N rs n ns):Gg G N (rs++[(n,ns)]) n:=by
 refine⟨λ{x m} h=>?_,λ{x m} h=>?_,λ{x k m} h lt=>?_,λ{x y k} h hy e=>?_,λ{x y k} h hy gt=>?_,λ{x y k m} h hy ey lt=>?_⟩
 . rcases Qi h with ⟨h,_⟩ | ⟨_,h,_⟩
   . exact v.inN h
   . exact((r.iff x).mp h).1
 . rcases Qi h with ⟨h,_⟩ | ⟨_,_,rfl,_⟩
   . exact v.le h
   . exact tu _
 . rcases Qi h with ⟨h,es,_⟩ | ⟨h,hx,rfl,es⟩
   . obtain⟨y,hy,ey,ly⟩:=v.n1 h lt
     exact⟨y,hy,Zv ey,by rw[es,(Q4 ey).1];exact ly⟩
   . obtain⟨y,hy,ey⟩:=((r.iff x).mp hx).2.2.1 m lt
     exact⟨y,hy,Zv ey,by rw[es,(Q4 (n:=k) (ns:=ns) ey).1];exact(Q4 (n:=k) (ns:=ns) ey).2⟩
 . rcases Qi h with ⟨h,_⟩ | ⟨h,hx,rfl,_⟩
   . rcases Qi e with ⟨e,_⟩ | ⟨e1,hy',e2,_⟩
     . exact v.n2 h hy e
     . obtain⟨z,hz,ez,_⟩:=v.n3 h hy (λm q=>by rw[e1]at q;cases q)
       rw[e2]at ez
       exact((r.iff y).mp hy').2.2.2.1 z hz ez
   . have g:=((r.iff x).mp hx).2.2
     rcases Qi e with ⟨e,_⟩ | ⟨e,hy',_,_⟩
     . exact g.2.1 y hy e
     . obtain⟨z,hz,ez⟩:=g.2.2 y hy e
       exact((r.iff y).mp hy').2.2.2.1 z hz ez
 . rcases Qi h with ⟨h,es,_⟩ | ⟨h,hx,rfl,es⟩
   . obtain⟨z,hz,ez,lz⟩:=v.n3 h hy (λm q=>gt m (Zv q))
     exact⟨z,hz,Zv ez,by rw[es,(Q4 ez).1];exact lz⟩
   . have bare:jt rs y=none:=by
       cases e:jt rs y with
       | none=>rfl
       | some m=>
         have:=gt m (Zv e)
         have:=v.le e
         omega
     obtain⟨z,hz,ez⟩:=((r.iff x).mp hx).2.2.2.2 y hy bare
     exact⟨z,hz,Zv ez,by rw[es,(Q4 (n:=k) (ns:=ns) ez).1];exact(Q4 (n:=k) (ns:=ns) ez).2⟩
 . rcases Qi h with ⟨h,es,_⟩ | ⟨h,hx,rfl,es⟩
   . rcases Qi ey with ⟨ey,es',_⟩ | ⟨_,_,em,_⟩
     . rw[es,es']
       exact v.n4 h hy ey lt
     . have:=v.le h
       omega
   . rcases Qi ey with ⟨ey,es',l'⟩ | ⟨_,_,rfl,_⟩
     . rw[es,es']
       exact l'
     . omega
variable (G N) in
def EP (rs:Rs α) (m:Nat):Prop:=∀x∈N,jt rs x=none->(∀j,j < m->∃y∈G x,jt rs y=some j)->(∀y∈G x,jt rs y≠some m)->∃y∈G x,jt rs y=none/\∀z∈G y,jt rs z≠some m
theorem wB {rs:Rs α} {n:Nat} (r:wQ G N rs n []):EP G N rs n:=λx hx e lo hi=>Classical.byContradiction λno=>by
 refine absurd ((r.iff x).mpr ⟨hx,e,lo,hi,λy hy ey=>Classical.byContradiction λq=>no ⟨y,hy,ey,λz hz ez=>q ⟨z,hz,ez⟩⟩⟩) (by simp)
theorem Ku {rs:Rs α} {n m:Nat} {ns:List α} (v:Gg G N rs n) (r:wQ G N rs n ns) (lt:m < n) (h:EP G N rs m):EP G N (rs++[(n,ns)]) m:=λx hx e lo hi=>by
 have old:∀{z j},j<=m->jt (rs++[(n,ns)]) z=some j->jt rs z=some j:=λ{z j} hj ez=>by
   rcases Qi ez with ⟨ez,_⟩ | ⟨_,_,rfl,_⟩
   . exact ez
   . omega
 obtain⟨y,hy,ey,ly⟩:=h x hx (wy e) (λj hj=>let ⟨y,hy,ey⟩:=lo j hj;⟨y,hy,old (by omega) ey⟩) (λy hy ey=>hi y hy (Zv ey))
 refine⟨y,hy,?_,λz hz ez=>ly z hz (old (tu _) ez)⟩
 cases q:jt (rs++[(n,ns)]) y with
 | none=>rfl
 | some k=>
   rcases Qi q with ⟨q,_⟩ | ⟨_,hy',rfl,_⟩
   . rw[ey]at q;cases q
   . obtain⟨z,hz,ez⟩:=((r.iff y).mp hy').2.2.1 m lt
     exact absurd ez (ly z hz)
theorem Kj {n:Nat} {rs rs':Rs α} (g:J8 G N n rs rs'):Gg G N rs n->(∀m,m < n->EP G N rs m)->Gg G N rs' n/\∀m,m<=n->EP G N rs' m:=by
 induction g with
 | stop r=>exact λv h=>⟨v,λm hm=>by
     rcases zbD m n with c | c
     . exact h m c
     . have:m=n:=by omega
       subst this
       exact wB r⟩
 | more r ne k ih=>exact λv h=>ih (v.more r) λm hm=>Ku v r hm (h m hm)
theorem Nf (cl:∀x∈N,∀y∈G x,y∈N) {n:Nat} {rs rs':Rs α} (a:All G N n rs rs'):Gg G N rs n->(∀x m,jt rs x=some m->m < n)->(∀m,m < n->EP G N rs m)->MP G (·∈N) (jt rs') (ZL rs'):=by
 induction a with
 | @stop n rs r=>
   intro v lt h
   refine⟨λ{x y} hx hy=>cl x hx y hy,λ{x n m} _=>v.n1,λ{x y n} _=>v.n2,λ{x y n} _=>v.n3,λ{x y n m} _=>v.n4,λ{x m} hx e lo hi=>?_⟩
   rcases zcr m n with c | rfl | c
   . exact h m c x hx e lo hi
   . exact wB r x hx e lo hi
   . obtain⟨y,_,ey⟩:=lo n c
     have:=lt y n ey
     omega
 | @more n rs rs1 rs2 g ne k ih=>
   intro v lt h
   obtain⟨v',h'⟩:=Kj g v h
   exact ih ⟨v'.inN,λ{x m} e=>Nat.le_succ_of_le (v'.le e),v'.n1,v'.n2,v'.n3,v'.n4⟩ (λx m e=>Nat.lt_succ_of_le (v'.le e)) λm hm=>h' m (by omega)
theorem wX (n:Nat):Gg G N ([]:Rs α) n:=⟨λh=>(nomatch h),λh=>(nomatch h),λh=>(nomatch h),λh=>(nomatch h),λh=>(nomatch h),λh=>(nomatch h)⟩
theorem RJ (cl:∀x∈N,∀y∈G x,y∈N) {rs:Rs α} (a:All G N 0 [] rs):MP G (·∈N) (jt rs) (ZL rs):=Nf cl a (wX 0) (λx m h=>(nomatch h)) λm h=>absurd h (zbr m)
end
section
variable {α:Type} (G:α->List α)
def gS:α ⊕ Nat->List (α ⊕ Nat)
 | .inl z=>(G z).map .inl
 | .inr h=>(tU h).map .inr
variable {G} {ok:α->Prop} {num:α->Option Nat} {stp:α->Nat}
def two (b:α×Nat):List (α ⊕ Nat):=[.inl b.1,.inr b.2]
end
section
variable {β:Type} {M:β->List β}
end
section
variable {α:Type} [DecidableEq α] {G:α->List α} {N:List α}
theorem J8.same {n:Nat} {rs:Rs α} (h:J8 G N n rs rs):wQ G N rs n []:=by
 have len:∀{rs a:Rs α},J8 G N n rs a->rs.length<=a.length:=λ{rs a} h=>by
   induction h with
   | stop _=>exact tu _
   | more r ne k ih=>
     rw[tX]at ih
     omega
 generalize e:rs=a at h
 have e':rs=a:=e
 cases h with
 | stop r=>exact r
 | more r ne k=>
   have:=len k
   rw[tX,zaG]at this
   omega
variable (G N) in
inductive Xe:Nat->Rs α->Prop
 | nil:Xe 0 []
 | more {n:Nat} {rs rs':Rs α} (h:Xe n rs) (g:J8 G N n rs rs'):Xe (n+1) rs'
theorem Kk {n m:Nat} {rs rs':Rs α} (g:J8 G N n rs rs') (h:∀r∈rs,r.1 < m) (lt:n < m):∀r∈rs',r.1 < m:=by
 induction g with
 | stop _=>exact h
 | more r ne k ih=>
   exact ih λx hx=>by
     rcases tZ.mp hx with hx | hx
     . exact h x hx
     . rw[zaE.mp hx];exact lt
theorem Xe.lt {n:Nat} {rs:Rs α} (u:Xe G N n rs):∀r∈rs,r.1 < n:=by
 induction u with
 | nil=>intro r h;cases h
 | more h g ih=>exact Kk g (λr hr=>zbu (ih r hr)) (zaI _)
theorem Na {n m:Nat} {rs:Rs α} (h:∀r∈rs,r.1 < n) {x:α} (e:jt rs x=some m):m < n:=by
 unfold jt at e
 obtain⟨r,hr,e2⟩:=zbp.mp e
 rw[<-e2]
 exact h r (zbl hr)
theorem km {n m:Nat} {rs rs':Rs α} (h:∀r∈rs,r.1 < n) (lt:n < m) (g:J8 G N m rs rs'):rs'=rs:=by
 cases g with
 | stop _=>rfl
 | more r ne k=>
   exfalso
   rename_i ns
   obtain⟨x,t,e⟩:=zbh ne
   have hx:=((r.iff x).mp (by rw[e];exact tS)).2.2
   obtain⟨y,_,ey⟩:=hx.1 n lt
   exact absurd (Na h ey) (zay _)
theorem XG {n:Nat} {rs rs':Rs α} (g:J8 G N n rs rs') {x:α} {m:Nat} (e:jt rs x=some m):jt rs' x=some m:=by
 induction g with
 | stop _=>exact e
 | more _ _ _ ih=>exact ih (Zv e)
theorem wq {n:Nat} {rs rs':Rs α} (g:J8 G N n rs rs') (ne:rs'≠rs):∃x∈N,jt rs' x=some n:=by
 cases g with
 | stop _=>exact absurd rfl ne
 | more r ne' k=>
   rename_i ns
   obtain⟨x,t,e⟩:=zbh ne'
   have hx:x∈ns:=by rw[e];exact tS
   have h:=(r.iff x).mp hx
   exact⟨x,h.1,XG k (wz h.2.1 hx)⟩
theorem Xe.run {n:Nat} {rs:Rs α} (u:Xe G N n rs):(All G N 0 [] rs/\∃m,m < n/\∀r∈rs,r.1 < m)\/((∀j,j < n->∃x∈N,jt rs x=some j)/\∀R',All G N n rs R'->All G N 0 [] R'):=by
 induction u with
 | nil=>exact .inr ⟨λj h=>absurd h (zbr j),λR' h=>h⟩
 | @more n rs rs' h g ih=>
   rcases ih with ⟨a,m,hm,lt⟩ | ⟨al,k⟩
   . have e:=km lt hm g
     subst e
     exact .inl ⟨a,m,by omega,lt⟩
   . by_cases e:rs'=rs
     . subst e
       exact .inl ⟨k _ (.stop (J8.same g)),n,zaI _,h.lt⟩
     . refine .inr ⟨λj hj=>?_,λR' a=>k R' (.more g e a)⟩
       rcases zbD j n with c | c
       . obtain⟨x,hx,ex⟩:=al j c
         exact⟨x,hx,XG g ex⟩
       . have:j=n:=by omega
         subst this
         exact wq g e
theorem RH {l m:List α}:l.Nodup->(∀z∈l,z∈m)->l.length<=m.length:=by
 induction l generalizing m with
 | nil=>exact λ_ _=>zah _
 | cons a l ih=>
   intro hn h
   rw[zaf]at hn
   have ha:=h a tS
   have:=ih (m:=m.erase a) hn.2 λz hz=>(zby (λ(e:z=a)=>hn.1 (e▸hz))).mpr (h z (tN _ hz))
   rw[zbI ha]at this
   have:=zbS ha
   rw[zac]
   omega
theorem Xe.whole {M:Nat} {R:Rs α} (u:Xe G N M R) (len:N.length < M):All G N 0 [] R:=by
 rcases u.run with ⟨a,_⟩ | ⟨al,_⟩
 . exact a
 . exfalso
   have:=RH (l:=tU M) (m:=N.filterMap (jt R)) zbV λj hj=>by
     obtain⟨x,hx,ex⟩:=al j (zaP.mp hj)
     exact zal.mpr ⟨x,hx,ex⟩
   rw[zai]at this
   have:=zas (jt R) N
   omega
end
inductive Lb where
 | num (n s:Nat) | end_ (b:Nat)
 deriving DecidableEq
def Lb.nm:Lb->Option Nat
 | .num n _=>some n
 | .end_ _=>none
def qT (n s:Nat):Lb->Bool
 | .num m u=>decide (m=n)&&decide (u < s)
 | .end_ _=>false
def jH (m:Nat):Lb->Bool
 | .num _ _=>false
 | .end_ b=> !b.testBit m
section
variable {α:Type} (G:α->List α) (f:α->Lb)
def JR (z:α):List Nat:=(G z).filterMap λy=>(f y).nm
def jA (n s:Nat) (y:α):Prop:=match f y with
 | .num m t=>if m < n then t < s else ∃b∈G y,qT n s (f b)=true
 | .end_ _=>∃b∈G y,qT n s (f b)=true
def jM (z:α):Prop:=match f z with
 | .num n s=>n=Rb.lackN (JR G f z)/\∀y∈G z,jA G f n s y
 | .end_ b=>b=Rb.setN (JR G f z)/\∃y∈G z,jH (Rb.lackN (JR G f z)) (f y)=true
end
theorem zO (ns:List Nat):Rb.Lacks (Rb.lackN ns) ns:=Rb.lackI_lacks ns
theorem YO {ns ms:List Nat} (h:∀x,x∈ns↔x∈ms):Rb.lackN ns=Rb.lackN ms:=by
 have a:Rb.Lacks (Rb.lackN ns) ns:=Rb.lackI_lacks _
 exact Rb.lackN_eq ⟨λm=>a.1 ((h _).mpr m),λx hx=>(h x).mp (a.2 x hx)⟩
theorem vG {ns ms:List Nat} (h:∀x,x∈ns↔x∈ms):Rb.setN ns=Rb.setN ms:=zcZ λk=>by rw[Rb.testBit_setN,Rb.testBit_setN,decide_eq_decide.mpr (h k)]
section
variable {α:Type} {G G':α->List α} {f:α->Lb} {N:List α}
theorem Wi {z:α} {n:Nat}:n∈JR G f z↔∃y∈G z,(f y).nm=some n:=zal
theorem jA.same (cl:∀z∈N,∀y∈G z,y∈N) (h:∀z∈N,∀y,y∈G z↔y∈G' z) {n s:Nat} {y:α} (hy:y∈N):jA G f n s y↔jA G' f n s y:=by
 have e:(∃b∈G y,qT n s (f b)=true)↔∃b∈G' y,qT n s (f b)=true:=⟨λ⟨b,hb,q⟩=>⟨b,(h y hy b).mp hb,q⟩,λ⟨b,hb,q⟩=>⟨b,(h y hy b).mpr hb,q⟩⟩
 unfold jA
 cases f y with
 | num m t=>simp only;split
            . exact Iff.rfl
            . exact e
 | end_ b=>exact e
def Jk (G:α->List α) (num:α->Option Nat) (stp:α->Nat) (z:α):Lb:=match num z with
 | some n=>.num n (stp z)
 | none=>.end_ (Rb.setN ((G z).filterMap num))
theorem u4 {num:α->Option Nat} {stp:α->Nat} (z:α):(Jk G num stp z).nm=num z:=by
 unfold Jk
 cases num z<;>rfl
theorem u5 {num:α->Option Nat} {stp:α->Nat} (z:α):JR G (Jk G num stp) z=(G z).filterMap num:=by
 unfold JR
 exact congrArg (λg=>(G z).filterMap g) (funext λy=>u4 y)
theorem MP.fit {num:α->Option Nat} {stp:α->Nat} (L:MP G (·∈N) num stp) {z:α} (hz:z∈N):jM G (Jk G num stp) z:=by
 have back:∀{n s:Nat} {y b:α},b∈G y->num b=some n->stp b < s->∃b∈G y,qT n s (Jk G num stp b)=true:=λ{n s y b} hb e l=>⟨b,hb,by
   unfold Jk
   rw[e]
   show (decide (n=n)&&decide (stp b < s))=true
   rw[decide_eq_true rfl,decide_eq_true l]
   rfl⟩
 unfold jM
 rw[u5]
 cases e:num z with
 | some n=>
   have el:Jk G num stp z=.num n (stp z):=by unfold Jk;rw[e]
   rw[el]
   refine⟨Rb.lackN_eq ⟨λm=>?_,λm hm=>?_⟩,λy hy=>?_⟩
   . obtain⟨y,hy,q⟩:=zal.mp m
     exact L.n2 hz e hy q
   . obtain⟨y,hy,q,_⟩:=L.n1 hz e hm
     exact zal.mpr ⟨y,hy,q⟩
   . have n3:(∀m,num y=some m->n < m)->∃b∈G y,qT n (stp z) (Jk G num stp b)=true:=λh=>by
       obtain⟨b,hb,q,l⟩:=L.n3 hz e hy h
       exact back hb q l
     unfold jA
     cases ey:num y with
     | some m=>
       have el':Jk G num stp y=.num m (stp y):=by unfold Jk;rw[ey]
       rw[el']
       show if m < n then _ else _
       split
       . rename_i c
         exact L.n4 hz e hy ey c
       . rename_i c
         refine n3 λk hk=>?_
         rw[ey]at hk
         cases hk
         have:m≠n:=λq=>L.n2 hz e hy (by rw[<-q];exact ey)
         omega
     | none=>
       have el':Jk G num stp y=.end_ (Rb.setN ((G y).filterMap num)):=by unfold Jk;rw[ey]
       rw[el']
       exact n3 λk hk=>by rw[ey]at hk;cases hk
 | none=>
   have el:Jk G num stp z=.end_ (Rb.setN ((G z).filterMap num)):=by unfold Jk;rw[e]
   rw[el]
   refine⟨rfl,?_⟩
   have la:=zO ((G z).filterMap num)
   obtain⟨y,hy,ey,q⟩:=L.e (m:=Rb.lackN ((G z).filterMap num)) hz e (λj hj=>zal.mp (la.2 j hj)) λy hy q=>la.1 (zal.mpr ⟨y,hy,q⟩)
   refine⟨y,hy,?_⟩
   have el':Jk G num stp y=.end_ (Rb.setN ((G y).filterMap num)):=by unfold Jk;rw[ey]
   rw[el']
   show (!(Rb.setN ((G y).filterMap num)).testBit _)=true
   rw[Rb.testBit_setN,decide_eq_false λm=>?_]
   . rfl
   . obtain⟨b,hb,eb⟩:=zal.mp m
     exact q b hb eb
theorem u8 (ns:List Nat):Rb.lackN ns<=ns.length:=Rb.pigeon _ _ (zO ns).2
end
end MLab
namespace Rh
open PySem L2
def top (i:Nat):Stmt:=PySem.Challenge.pw_ringheaps_k42_labels_that_show_themselve.main.body.getD i (.Pass ⟨0,0,0,0⟩)
abbrev ZT:Stmt:=top 14
abbrev UN:Stmt:=top 44
abbrev z8:Stmt:=top 45
abbrev Zr:Stmt:=top 46
abbrev Ys:Stmt:=top 47
abbrev Yt:Stmt:=top 48
abbrev UJ:Stmt:=top 49
abbrev Wd:Stmt:=top 66
open PySem L2 PyProof.Rows
structure jr (K:PySem.W.Frag) (mg:Str->Option Value) (x:Str) (st:Stmt) (ps:List Str) (f:Addr) (fd:FuncData):Prop where
 fn:Qn K x x st f fd
 ns:mg x=some (.ref f)
 bi:QY K fd ps []
theorem qO {X:Cx} {x:Str} {st:Stmt} {ps:List Str} {f:Addr} {fd:FuncData} {k:Nat} {sp:Sp} {e:Expr} {es:List Expr} {t:TA} {p pos:Pos} (h:jr X.K X.mg x st ps f fd) (G:qB X.prog X.w X.K X.mg X.base q5 k f fd ps sp) (hr:jE k X.A)
   (hg:Gl X x) (ha:JA X (e::es) t) (hdb:(x==("__debug__":Str))=false:=by decide) (he:starEach (e::es) X.env=(false,eval e X.env)::starEach es X.env:=by rfl) (hpl:(backTo pos (starEach es X.env)).any (·.1)=false:=by rfl):
   JE X (.Call (.Name x p) (e::es) [] pos) (JJ sp [] E0 t):=.of (uC G hr hg h.ns h.fn.kp h.bi .nil Xq ha.to hdb he hpl)
theorem ql {H:Hp} {b p:Addr} {o o':HO} (h:H b=some o) (hp:H p=none):upd H p o' b=some o:=by
 rw[qi (qE h hp)]
 exact h
theorem qj {H:Hp} {p:Addr} {o:HO} (hp:H p=none):qr H (upd H p o):=λb u h=>ql h hp
theorem qr.upd {H H':Hp} {p:Addr} {o:HO} (s:qr H H') (hp:H p=none):qr H (upd H' p o):=λb u h=>by
 rw[qi (qE h hp)]
 exact s b u h
def src (n s t:Int):List (qI×V):=[(Sum.inr "number",.int n),(Sum.inr "seed",.int s),(Sum.inr "turn",.int t)]
theorem MZ:¬(Str.ofString "number")=Str.ofString "seed":=by decide+kernel
theorem nnt:¬(Str.ofString "number")=Str.ofString "turn":=by decide+kernel
theorem nst:¬(Str.ofString "seed")=Str.ofString "turn":=by decide+kernel
theorem nsn:¬(Str.ofString "seed")=Str.ofString "number":=by decide+kernel
theorem ntn:¬(Str.ofString "turn")=Str.ofString "number":=by decide+kernel
theorem nts:¬(Str.ofString "turn")=Str.ofString "seed":=by decide+kernel
theorem wl {a b:Str} (h:¬a=b):¬(Sum.inr a:qI)=Sum.inr b:=λe=>h (Sum.inr.inj e)
section
variable {H:Hp} {d:Addr} {n s t:Int}
theorem gN (h:H d=some (.dK (src n s t))):j8 H d (.str "number") (some (.int n)):=by
 have e:qY (src n s t) (Sum.inr "number":qI)=some (.int n):=jh rfl
 have q:=j8.k (k:=(Sum.inr "number":qI)) h
 rw[e]at q
 exact q
theorem gS (h:H d=some (.dK (src n s t))):j8 H d (.str "seed") (some (.int s)):=by
 have e:qY (src n s t) (Sum.inr "seed":qI)=some (.int s):=(ji (wl MZ)).trans (jh rfl)
 have q:=j8.k (k:=(Sum.inr "seed":qI)) h
 rw[e]at q
 exact q
theorem gT (h:H d=some (.dK (src n s t))):j8 H d (.str "turn") (some (.int t)):=by
 have e:qY (src n s t) (Sum.inr "turn":qI)=some (.int t):=(ji (wl nnt)).trans ((ji (wl nst)).trans (jh rfl))
 have q:=j8.k (k:=(Sum.inr "turn":qI)) h
 rw[e]at q
 exact q
theorem NO:(src n s t).length < sizeLine:=qm (by show 3<=1000;decide)
theorem pN (h:H d=some (.dK (src n s t))) (v:Int):QE H d (.str "number") (.int v) (upd H d (.dK (src v s t))):=by
 have e:jm (src n s t) (Sum.inr "number":qI) (.int v)=src v s t:=by
   unfold jm src
   simp [nsn,ntn]
 have q:=QE.k (k:=(Sum.inr "number":qI)) (v:=.int v) h NO
 rw[e]at q
 exact q
theorem pT (h:H d=some (.dK (src n s t))) (v:Int):QE H d (.str "turn") (.int v) (upd H d (.dK (src n s v))):=by
 have e:jm (src n s t) (Sum.inr "turn":qI) (.int v)=src n s v:=by
   unfold jm src
   simp [nnt,nst]
 have q:=QE.k (k:=(Sum.inr "turn":qI)) (v:=.int v) h NO
 rw[e]at q
 exact q
end
def Q9:Sp:=λvs H Q _=>∃(d:Addr) (m n s t:Int),vs=[.ref d,.int m]/\H d=some (.dK (src n s t))/\0 < m/\m.natAbs < 2^200/\∀r n' t',0<=r->r < m->Q (.int r) (upd H d (.dK (src n' s t')))
def WP:Sp:=λvs H Q _=>∃c:Int,vs=[.int c]/\∀d n s,H d=none->Q (.ref d) (upd H d (.dK (src n s 0)))
def yw (K:PySem.W.Frag):Sp:=λvs H Q _=>∃(a:Addr) (ns:List Int) (k:Int),vs=[.ref a,.int k]/\SqL K H a (ns.map V.int)/\0<=k/\∀v,Q (.int v) H
section
variable {P:Program} {w:World} {K:PySem.W.Frag} {mg:Str->Option Value} {base:Heap}
theorem Wb:qG ["_law_source_here","_law_many","_law_digit","_law_number"] ["_law_source_here","_law_many"] (qo Zr):=⟨rfl,rfl,rfl,by decide+kernel,rfl,by decide+kernel,by decide+kernel⟩
theorem Jr {f:Addr} {fd:FuncData} (F:Qn K "_law_take" "_law_take" Zr f fd):qB P w K mg base q5 1 f fd ["_law_source_here","_law_many"] Q9:=by
 refine F.okJ Wb (λvs H Q E h=>?_) (λcdv A outer s H vs Q E hr h=>?_)
 . obtain⟨d,m,n,sd,t,rfl,_⟩:=h
   rfl
 . obtain⟨d,m,n,sd,t,rfl,hd,m0,m1,k⟩:=h
   have hu:=jQ hr
   refine⟨_,qg (qS (qt Xu (qC hu (jv 0) qx (λ_ _=>rfl)) qf (qp _))
       (qg (qz (i:=2) Wb.nd rfl (Or.inl rfl) (qH QS (qC hu (jv 0) qx (λ_ _=>rfl)) (jv 1)))
       (qg (jL hu (jv 0) qx (qH xc (qC hu (jv 0) qx (λ_ _=>rfl)) (jv 1)) rfl)
       (qh (qA (jv 2))))) qF)
     (qg (jL hu (jv 0) qx (qH j5 (qC hu (jv 0) qx (λ_ _=>rfl)) qf) rfl)
     (qg (qz (i:=3) Wb.nd rfl (Or.inl rfl) (qH QS (qH QG (qH j5 (qC hu (jv 0) qx (λ_ _=>rfl)) (qH QG qf (qC hu (jv 0) qx (λ_ _=>rfl)))) qf) qf))
     (qg (qz (i:=3) Wb.nd rfl (Or.inl rfl) (qH QS (qH QG (jv 3) (jv 3)) qf))
     (qh (qA (qH QS (qH uF (qH QS (qH QG (qH j5 (jv 3) (qC hu (jv 0) qx (λ_ _=>rfl))) (qH j5 (jv 3) qf)) qf) qf) (jv 1))))))),?_⟩
   refine⟨_,rfl,d,_,rfl,gN hd,_,_,rfl,rfl,_,rfl,?_⟩
   refine J2 (λ_=>?_) (λ_=>?_)
   . refine⟨_,rfl,d,_,rfl,gN hd,_,rfl,_,_,rfl,rfl,m0,?_⟩
     refine⟨_,rfl,d,_,rfl,gN hd,_,rfl,_,_,rfl,rfl,⟨m0,m1⟩,_,rfl,d,_,rfl,pN hd _,?_⟩
     exact⟨_,rfl,k _ _ _ (zbs _ (by omega)) (zbi _ m0)⟩
   . refine⟨_,rfl,d,_,rfl,gT hd,_,_,rfl,rfl,_,rfl,d,_,rfl,pT hd _,?_⟩
     have h1:upd H d (.dK (src n sd (t+1))) d=some (.dK (src n sd (t+1))):=qe
     refine⟨_,rfl,d,_,rfl,gS h1,_,rfl,d,_,rfl,gT h1,_,_,rfl,rfl,.inl ⟨by decide,by decide⟩,_,_,rfl,rfl,_,_,rfl,rfl,.inr ⟨by decide,by decide⟩,_,_,rfl,rfl,(by show (0:Int) < 2147483647;decide),?_⟩
     generalize ha:((sd+7919*(t+1))*48271) % 2147483647=x
     have x0:0<=x:=by rw[<-ha];exact zbs _ (by decide)
     have x1:x < 2147483647:=by rw[<-ha];exact zbi _ (by decide)
     refine⟨_,rfl,_,rfl,_,_,rfl,rfl,.inl ⟨by omega,by omega⟩,_,_,rfl,rfl,(by show (0:Int) < 2147483629;decide),?_⟩
     generalize hb:(x*x) % 2147483629=y
     have y0:0<=y:=by rw[<-hb];exact zbs _ (by decide)
     have y1:y < 2147483629:=by rw[<-hb];exact zbi _ (by decide)
     refine⟨_,rfl,_,rfl,d,_,rfl,gT h1,_,_,rfl,rfl,_,rfl,_,_,rfl,rfl,_,_,rfl,rfl,.inr ⟨by omega,by omega⟩,_,_,rfl,rfl,(by show (0:Int) < 2147483587;decide),_,_,rfl,rfl,⟨by decide,by decide⟩,_,rfl,_,_,rfl,rfl,m0,?_⟩
     exact k _ _ _ (zbs _ (by omega)) (zbi _ m0)
end
open PySem L2 PyProof.Rows
structure JH (mg:Str->Option Value):Prop where
 len:mg "len"=none
 max:mg "max"=none
 min:mg "min"=none
 int:mg "int"=none
 rng:mg "range"=none
theorem ku (n s t:Int):Qo [] (src n s t)=src n s t:=by
 unfold Qo src
 simp only[List.foldl_cons,List.foldl_nil]
 unfold jm
 simp [MZ,nnt,nst,nsn,ntn,nts]
section
variable {P:Program} {w:World} {K:PySem.W.Frag} {mg:Str->Option Value} {base:Heap}
theorem yC:qG ["_law_cell"] ["_law_cell"] (qo z8):=⟨rfl,rfl,rfl,by decide+kernel,rfl,by decide+kernel,by decide+kernel⟩
theorem vX {f:Addr} {fd:FuncData} (F:Qn K "_law_source" "_law_source" z8 f fd) (B:JH mg):qB P w K mg base q5 1 f fd ["_law_cell"] WP:=by
 refine F.okJ yC (λvs H Q E h=>?_) (λcdv A outer s H vs Q E hr h=>?_)
 . obtain⟨c,rfl,_⟩:=h
   rfl
 . obtain⟨c,rfl,k⟩:=h
   refine⟨_,qh (qA (Qg
     (q4 qx (qH QG (qy (XO rfl) (by rfl) B.max boot_max (qb qf (qb (jv 0) qd)))
       (jq zG (by rfl) B.int boot_int (qb (qW W1 (jv 0) (qH zA qf qf) (qp _)) qd)))
     (q4 qx (qH QS (jv 0) qf) (q4 qx qf Qf))) rfl rfl (by simp) (by decide))),?_⟩
   intro p hp
   refine⟨_,rfl,_,_,rfl,_,rfl,_,_,rfl,rfl,⟨by decide,by decide,by decide⟩,_,_,rfl,rfl,.inr ⟨_,rfl,_,_,rfl,rfl,.inr ?_,_,rfl,_,_,rfl,rfl,(by show (0:Int) < 2147483629;decide),?_⟩⟩
   . split<;>exact⟨by decide,by decide⟩
   . refine⟨qe,src _ _ 0,rfl,(by show 3<=15;decide),?_⟩
     rw[ku,jV]
     exact k p _ _ hp
theorem G8:qG ["_law_script","_law_k"] ["_law_script","_law_k"] (qo UN):=⟨rfl,rfl,rfl,by decide+kernel,rfl,by decide+kernel,by decide+kernel⟩
theorem uS {f:Addr} {fd:FuncData} (F:Qn K "_law_cell_at" "_law_cell_at" UN f fd) (B:JH mg):qB P w K mg base q5 1 f fd ["_law_script","_law_k"] (yw K):=by
 refine F.okJ G8 (λvs H Q E h=>?_) (λcdv A outer s H vs Q E hr h=>?_)
 . obtain⟨a,ns,k,rfl,_⟩:=h
   rfl
 . obtain⟨a,ns,k,rfl,hS,k0,q⟩:=h
   refine⟨_,qg (qS (qt Qb (jv 1) (qy qU (by rfl) B.len boot_len (qb (jv 0) qd)) (qp _))
       (qh (qA (qD Qh (jv 0) (jv 1) (λ_ _=>rfl)))) qF)
     (qh (qA (qH j5 (qH QG qf (jv 1)) qf))),?_⟩
   refine⟨_,rfl,_,rfl,a,_,rfl,.inl hS,_,_,rfl,rfl,_,rfl,?_⟩
   refine J2 (λh=>?_) (λ_=>?_)
   . have h1:k < ((ns.map V.int).length:Int):=of_decide_eq_true h
     rw[tj]at h1
     have h2:k.toNat < ns.length:=by omega
     have h3:(ns.map V.int)[k.toNat]?=some (V.int ns[k.toNat]):=by rw[tH,tz h2];rfl
     have h4:k=((k.toNat:Nat):Int):=by omega
     refine⟨_,rfl,_,rfl,a,_,k,V.int ns[k.toNat],rfl,rfl,hS,?_,q _⟩
     have h5:=QL h3
     rw[<-h4]at h5
     exact h5
   . exact⟨_,rfl,_,_,rfl,rfl,.inl ⟨by decide,by decide⟩,_,_,rfl,rfl,q _⟩
end
open PySem L2 PyProof.Rows
def Fr (H:Hp) (d:Addr) (H':Hp):Prop:=∀b o,H b=some o->b≠d->H' b=some o
theorem Fr.refl {H:Hp} {d:Addr}:Fr H d H:=λ_ _ h _=>h
theorem Fr.at_d {H H':Hp} {d:Addr} {o:HO} (h:Fr H d H'):Fr H d (upd H' d o):=λb u hb hn=>by
 rw[qi hn]
 exact h b u hb hn
theorem Fr.new {H H':Hp} {d p:Addr} {o:HO} (h:Fr H d H') (hp:H' p=none):Fr H d (upd H' p o):=λb u hb hn=>ql (h b u hb hn) hp
theorem Fr.own {H H':Hp} {d p:Addr} {o:HO} (h:Fr H d H') (hp:H p=none):Fr H d (upd H' p o):=λb u hb hn=>by
 rw[qi (qE hb hp)]
 exact h b u hb hn
theorem Fr.trans {H H' H'':Hp} {d:Addr} (h:Fr H d H') (k:Fr H' d H''):Fr H d H'':=λb u hb hn=>k b u (h b u hb hn) hn
theorem Fr.fresh {H H':Hp} {d p:Addr} {o:HO} (h:Fr H d H') (hd:H' d=some o) (hp:H' p=none):H p=none:=by
 cases e:H p with
 | none=>rfl
 | some u=>
   by_cases n:p=d
   . subst n
     rw[hd]at hp
     cases hp
   . rw[h p u e n]at hp
     cases hp
def j0 (c:Nat):Bool:=decide (97<=c)&&decide (c<=122)
def jc (z:Str):Bool:=(decide (1<=z.length)&&decide (z.length<=8))&&z.cps.toList.all j0
def vw:Str:="abcdefghijklmnopqrstuvwxyz"
theorem XX:vw.cps.toList=[97,98,99,100,101,102,103,104,105,106,107,108,109,110,111,112,113,114,115,116,117,118,119,120,121,122]:=by decide+kernel
theorem wI:vw.cps.toList=(tU 26).map (97+·):=by rw[XX];rfl
theorem vt:vw.length<=sizeLine:=by
 show vw.cps.size<=sizeLine
 rw[<-zag,XX]
 decide
theorem wJ {r:Int} (h0:0<=r) (h1:r < 26):Uj vw.cps.toList r=some (97+r.toNat):=by
 have h2:vw.cps.toList[r.toNat]?=some (97+r.toNat):=by
   rw[wI,tH,zbm (by omega)]
   rfl
 have h4:=QL h2
 have h5:r=((r.toNat:Nat):Int):=by omega
 rw[<-h5]at h4
 exact h4
theorem XB {r:Int} (h0:0<=r) (h1:r < 26):j0 (97+r.toNat)=true:=by
 unfold j0
 rw[decide_eq_true (by omega:97<=97+r.toNat),decide_eq_true (by omega:97+r.toNat<=122)]
 rfl
theorem RT (ws:List Nat):(Txt.join (Str.ofString "") (ws.map λk=>(⟨#[k]⟩:Str))).cps.toList=ws:=by
 show (Builtin.Str.glued (Str.ofString "") _).cps.toList=_
 rw[StrLaws.glued_eq_join]
 have e:(Str.ofString "")=⟨#[]⟩:=by decide+kernel
 rw[e,PyProof.Rows.join_ones]
theorem kC {z:Str} {A B:List Nat} {c:Nat} (e:z.cps.toList=A++[c]++B) (hA:A.all j0=true) (hc:j0 c=true) (hB:B.all j0=true) (hl:A.length+B.length<=7):jc z=true:=by
 have l:z.length=A.length+1+B.length:=by
   show z.cps.size=_
   rw[<-zag,e]
   simp
   omega
 unfold jc
 rw[decide_eq_true (by omega:1<=z.length),decide_eq_true (by omega:z.length<=8),e,zcM,zcM,hA,hB]
 simp [hc]
def UW (f s:Int) (k:Nat):Nat:=97+((f+s*(k:Int)) % 26).toNat
theorem uW:∀s∈[(1:Int),3,5,7,9,11],∀k,k < 14->∀j,j < 14->(s*((k:Nat):Int) - s*((j:Nat):Int)) % 26=0->k=j:=by decide+kernel
theorem uV {f s:Int} {k j:Nat} (hs:s=1\/s=3\/s=5\/s=7\/s=9\/s=11) (hk:k < 14) (hj:j < 14) (h:UW f s k=UW f s j):k=j:=by
 unfold UW at h
 refine uW s (by simpa using hs) k hk j hj ?_
 generalize s*(k:Int)=x at h ⊢
 generalize s*(j:Int)=y at h ⊢
 omega
def Q8 (A:List Nat) (f s:Int) (zs:List Str):Prop:=∀j z,zs[j]?=some z->∃B,z.cps.toList=A++[UW f s j]++B/\B.all j0=true/\A.length+B.length<=7
theorem Q8.snoc {A:List Nat} {f s:Int} {zs:List Str} (h:Q8 A f s zs) {z:Str} {B:List Nat} (e:z.cps.toList=A++[UW f s zs.length]++B) (hB:B.all j0=true) (hl:A.length+B.length<=7):Q8 A f s (zs++[z]):=by
 intro j y hy
 by_cases hj:j < zs.length
 . rw[zbk hj]at hy
   exact h j y hy
 . have hj':j=zs.length:=by
     have:=(tw.mp hy).1
     rw[tX,zaG]at this
     omega
   subst hj'
   rw[zaH (tu _),zcF]at hy
   obtain rfl:=(tK.inj hy).symm
   exact⟨B,e,hB,hl⟩
theorem Q8.names {A:List Nat} {f s:Int} {zs:List Str} (h:Q8 A f s zs) (hA:A.all j0=true):∀z∈zs,jc z=true:=λz hz=>by
 obtain⟨j,hj⟩:=zbZ hz
 obtain⟨B,e,hB,hl⟩:=h j z hj
 refine kC e hA ?_ hB hl
 unfold UW
 exact XB (zbs _ (by decide)) (zbi _ (by decide))
theorem Q8.nodup {A:List Nat} {f s:Int} {zs:List Str} (h:Q8 A f s zs) (hs:s=1\/s=3\/s=5\/s=7\/s=9\/s=11) (hz:zs.length<=14):zs.Nodup:=by
 refine zaS.mpr λi j hi hj hij e=>?_
 obtain⟨B,b1,_⟩:=h j _ (tz hj)
 obtain⟨C,c1,_⟩:=h i _ (tz hi)
 rw[e]at c1
 have e2:(A++[UW f s j]++B)[A.length]?=(A++[UW f s i]++C)[A.length]?:=by rw[<-b1,<-c1]
 rw[zcs,zcs,zaH (tu _),zaH (tu _),zcF]at e2
 have e3:UW f s j=UW f s i:=tK.inj e2
 exact absurd (uV hs (by omega) (by omega) e3) (by omega)
theorem Vq {A:List Nat} (h:A.all j0=true) (n:Nat):(A.take n).all j0=true:=by
 rw[zav]at h ⊢
 exact λx hx=>h x (zca hx)
theorem GG {r:Int} (h0:0<=r) (h1:r < 6):∃m:Int,(m=1\/m=3\/m=5\/m=7\/m=9\/m=11)/\Uj [V.int 1,V.int 3,V.int 5,V.int 7,V.int 9,V.int 11] r=some (.int m):=by
 have:r=0\/r=1\/r=2\/r=3\/r=4\/r=5:=by omega
 rcases this with rfl | rfl | rfl | rfl | rfl | rfl
 . exact⟨1,by decide,rfl⟩
 . exact⟨3,by decide,rfl⟩
 . exact⟨5,by decide,rfl⟩
 . exact⟨7,by decide,rfl⟩
 . exact⟨9,by decide,rfl⟩
 . exact⟨11,by decide,rfl⟩
def X6:Sp:=λvs H Q _=>∃(d:Addr) (m:Nat) (n s t:Int),vs=[.ref d,.int m]/\H d=some (.dK (src n s t))/\m<=14/\
 ∀(l:Addr) (zs:List Str) (n' t':Int) (H':Hp),H l=none->H' l=some (.lst (zs.map V.str))->zs.length=m->(∀z∈zs,jc z=true)->zs.Nodup->H' d=some (.dK (src n' s t'))->Fr H d H'->Q (.ref l) H'
theorem WL:∀zs:List Str,(zs.map λ_=>1).sum=zs.length
 | []=>rfl
 | z::zs=>by rw[tP,zaW,WL zs,zac];omega
section
variable {P:Program} {w:World} {K:PySem.W.Frag} {mg:Str->Option Value} {base:Heap}
abbrev RA:List Str:=["_law_source_here","_law_many","_law_letters","_law_word","_law_ahead","_law_first","_law_step","_law_names_here","_law_k","_law_behind"]
theorem QI:qG RA ["_law_source_here","_law_many"] (qo Ys):=⟨rfl,rfl,rfl,by decide+kernel,rfl,by decide+kernel,by decide+kernel⟩
theorem W3 {f fT:Addr} {fd fdT:FuncData} (F:Qn K "_law_names" "_law_names" Ys f fd) (B:JH mg) (hT:jr K mg "_law_take" Zr ["_law_source_here","_law_many"] fT fdT):qB P w K mg base q5 2 f fd ["_law_source_here","_law_many"] X6:=by
 have GT:qB P w K mg base q5 1 fT fdT ["_law_source_here","_law_many"] Q9:=Jr hT.fn
 refine F.okJ QI (λvs H Q E h=>?_) (λcdv A outer s H vs Q E hr h=>?_)
 . obtain⟨d,m,n,sd,t,rfl,_⟩:=h
   rfl
 . obtain⟨d,m,n,sd,t,rfl,hd,hm,q⟩:=h
   refine⟨_,qg (qz (i:=2) QI.nd rfl (Or.inr rfl) qx)
     (qg (qz (i:=3) QI.nd rfl (Or.inl rfl) (Zt PySem.F.plainAttrs_str PySem.F.slot_str_join PySem.F.type_str_join uZ qx (qb
       (Qt (N':=["_law_k","_law_letters","_law_source_here"]) (ix:=[none,some 2,some 0]) rfl ⟨rfl,rfl,rfl,rfl,rfl⟩
         (jK (by rfl) B.rng (qb qf qd))
         (λC s2 H2 fp pins=>⟨qv (i:=0) (show (["_law_k","_law_letters","_law_source_here"]:List Str).Nodup by decide+kernel) rfl (Or.inl rfl),j9,
           qD wc (jv 1) (qO hT GT hr (by rfl) (qb (jv 2) (qb qf qd))) (λ_ _=>rfl)⟩)) qd)))
     (qg (qz (i:=4) QI.nd rfl (Or.inl rfl) (jG yx (jv 3) jX (jW (qH QG (qO hT GT hr (by rfl) (qb (jv 0) (qb qf qd))) (qO hT GT hr (by rfl) (qb (jv 0) (qb qf qd)))))))
     (qg (qz (i:=5) QI.nd rfl (Or.inl rfl) (qO hT GT hr (by rfl) (qb (jv 0) (qb qf qd))))
     (qg (qz (i:=6) QI.nd rfl (Or.inl rfl) (qD Qh (qV (qb qf (qb qf (qb qf (qb qf (qb qf (qb qf qd))))))) (qO hT GT hr (by rfl) (qb (jv 0) (qb qf qd))) (λ_ _=>rfl)))
     (qg (qz (i:=7) QI.nd rfl (Or.inl rfl) (qV qd))
     (qg (jp PassesOwn.never rfl (jK (by rfl) B.rng (qb (jv 1) qd)) (qv (i:=8) QI.nd rfl (Or.inl rfl))
       (qg (qz (i:=9) QI.nd rfl (Or.inl rfl) (jG yx (jv 3) jX (jW (qO hT GT hr (by rfl) (qb (jv 0) (qb (qH VO qf (qy Jx (by rfl) B.len boot_len (qb (jv 4) qd))) qd))))))
       (qh (jO (Zt zaq zat zau jZ (jv 7) (qb
         (qH YH (qH YH (jv 4) (qD wc (jv 2) (qH QS (qH j5 (jv 5) (qH QG (jv 6) (jv 8))) qf) (λ_ _=>rfl))) (jv 9)) qd))))))
     (qh (qA (jv 7))))))))),?_⟩
   refine⟨rfl,7,rfl,by decide,by decide,λD hD=>?_⟩
   have nDd:D≠d:=λe=>by rw[e,hd]at hD;cases hD
   refine Zk (λi σ' H'=>∃(v:Option V) (n' t':Int) (ws:List Nat),σ'=[v,some (.str vw),some (.ref d)]/\H' d=some (.dK (src n' sd t'))/\H' D=some (.lst ((ws.map λk=>(⟨#[k]⟩:Str)).map V.str))/\ws.length=i/\ws.all j0=true/\Fr H d H')
     ⟨none,n,t,[],rfl,ql hd hD,qe,rfl,rfl,Fr.refl.new hD⟩ ?_ ?_
   . rintro i σ' H' hi ⟨v,n',t',ws,rfl,hd',hD',hl,ha,fr⟩
     refine⟨_,rfl,_,rfl,d,26,n',sd,t',rfl,hd',by decide,by decide,λr n3 t3 r0 r1=>?_⟩
     refine⟨vw,r,_,rfl,rfl,vt,wJ r0 r1,_,(by rw[qi nDd];exact hD'),?_,?_⟩
     . rw[tj,tj,hl]
       exact qm (by omega)
     . refine⟨_,n3,t3,ws++[97+r.toNat],rfl,?_,?_,?_,?_,?_⟩
       . rw[qi (Ne.symm nDd)];exact qe
       . rw[tL,tL];exact qe
       . rw[tX,hl];rfl
       . rw[zcM,ha]
         simp [XB r0 r1]
       . exact(fr.at_d).own hD
   rintro σ' H1 ⟨v,n1,t1,ws,rfl,hd1,hD1,hl1,ha1,fr1⟩
   have hl1:ws.length=7:=hl1
   refine⟨Str.ofString "",D,_,rfl,rfl,.of hD1,?_,?_⟩
   . have e1:((ws.map λk=>(⟨#[k]⟩:Str)).map (·.length))=(ws.map λk=>(⟨#[k]⟩:Str)).map λ_=>1:=by
       refine zbb λz hz=>?_
       obtain⟨c,_,rfl⟩:=tE.mp hz
       rfl
     have e2:(Str.ofString "").length=0:=by decide+kernel
     rw[e1,e2,WL,tj,hl1]
     decide
   generalize hw:Txt.join (Str.ofString "") (ws.map λk=>(⟨#[k]⟩:Str))=wd
   have hW:wd.cps.toList=ws:=by rw[<-hw];exact RT ws
   have hWl:wd.length=7:=by
     show wd.cps.size=7
     rw[<-zag,hW,hl1]
   refine⟨_,rfl,_,rfl,d,2,n1,sd,t1,rfl,hd1,by decide,by decide,λr2 n2 t2 r20 r21=>?_⟩
   refine⟨_,rfl,d,5,n2,sd,t2,rfl,qe,by decide,by decide,λr3 n3 t3 r30 r31=>?_⟩
   rw[jV]
   have e4:∃j:Nat,r2*r3=(j:Int)/\j<=4:=by
     have h2:r2=0\/r2=1:=by omega
     rcases h2 with rfl | rfl
     . exact⟨0,by omega,by omega⟩
     . exact⟨r3.toNat,by omega,by omega⟩
   obtain⟨j,ej,hj⟩:=e4
   refine⟨_,_,rfl,rfl,.inl ⟨by omega,by omega⟩,_,rfl,wd,r2*r3,rfl,rfl,rfl,by omega,?_⟩
   rw[ej]
   generalize ha:Txt.slice wd none (some (j:Int))=ah
   have hA:ah.cps.toList=ws.take j:=by rw[<-ha,Yn,hW]
   have hAl:ah.length=j:=by
     show ah.cps.size=j
     rw[<-zag,hA,tT,hl1]
     omega
   refine⟨_,rfl,d,26,n3,sd,t3,rfl,qe,by decide,by decide,λf n4 t4 f0 f1=>?_⟩
   rw[jV]
   refine⟨by show 6<=sizeLine;decide,λp hp=>?_⟩
   have npd:p≠d:=λe=>by rw[e,qe]at hp;cases hp
   refine⟨_,rfl,d,6,n4,sd,t4,rfl,(by rw[qi (Ne.symm npd)];exact qe),by decide,by decide,λr5 n5 t5 r50 r51=>?_⟩
   obtain⟨st,hst,hsa⟩:=GG r50 r51
   refine⟨p,_,r5,.int st,rfl,rfl,.of (by rw[qi npd];exact qe),hsa,?_⟩
   have fr5:Fr H d (upd (upd (upd H1 d (.dK (src n4 sd t4))) p (.lst [V.int 1,V.int 3,V.int 5,V.int 7,V.int 9,V.int 11])) d (.dK (src n5 sd t5))):=(fr1.at_d.new hp).at_d
   generalize hH5:upd (upd (upd H1 d (.dK (src n4 sd t4))) p (.lst [V.int 1,V.int 3,V.int 5,V.int 7,V.int 9,V.int 11])) d (.dK (src n5 sd t5))=H5 at fr5
   have hd5:H5 d=some (.dK (src n5 sd t5)):=by rw[<-hH5];exact qe
   refine⟨by show 0<=sizeLine;decide,λl hl=>⟨_,rfl,m,rfl,by omega,by omega,?_⟩⟩
   have hHl:H l=none:=fr5.fresh hd5 hl
   have nld:l≠d:=λe=>by rw[e,hd5]at hl;cases hl
   refine Ql (lo:=0) (n:=m) (λi σ' H'=>∃(v1 v2:Option V) (n' t':Int) (zs:List Str),σ'=[some (.ref d),some (.int m),some (.str vw),some (.str wd),some (.str ah),some (.int f),some (.int st),some (.ref l),v1,v2]/\
     H' d=some (.dK (src n' sd t'))/\H' l=some (.lst (zs.map V.str))/\zs.length=i/\Q8 (ws.take j) f st zs/\Fr H d H')
     ⟨none,none,n5,t5,[],rfl,ql hd5 hl,qe,rfl,λj z hz=>(nomatch hz),fr5.new hl⟩ ?_ ?_
   . rintro i σ' H' hi ⟨v1,v2,n',t',zs,rfl,hd',hl',hz,hN,fr⟩
     rw[zbC]
     refine⟨_,rfl,_,rfl,_,rfl,ah,rfl,(by rw[hAl];exact zab (qm (by omega))),_,_,rfl,rfl,d,8 - (ah.length:Int),n',sd,t',rfl,hd',by omega,by omega,λr n6 t6 r0 r1=>?_⟩
     have er:r=((r.toNat:Nat):Int):=by omega
     refine⟨_,rfl,wd,r,rfl,rfl,rfl,by omega,?_⟩
     generalize hb:Txt.slice wd none (some r)=bh
     have hB:bh.cps.toList=ws.take r.toNat:=by rw[<-hb,er,Yn,hW];rfl
     have hBl:bh.length<=r.toNat:=by
       show bh.cps.size<=r.toNat
       rw[<-zag,hB,tT]
       omega
     refine⟨_,rfl,.inl ⟨rfl,_,.of (by rw[qi nld];exact hl')⟩,_,rfl,_,rfl,_,rfl,_,rfl,_,rfl,_,_,rfl,rfl,.inl ⟨by omega,by omega⟩,_,_,rfl,rfl,_,_,rfl,rfl,(by show (0:Int) < 26;decide),?_⟩
     refine⟨vw,_,_,rfl,rfl,vt,wJ (zbs _ (by decide)) (zbi _ (by decide)),?_⟩
     have e26:97+((f+st*(i:Int)) % 26).toNat=UW f st i:=rfl
     rw[e26]
     have l1:(ah++(⟨#[UW f st i]⟩:Str)).length=j+1:=by
       show (ah++(⟨#[UW f st i]⟩:Str)).cps.size=_
       rw[Str.cps_append,Array.size_append]
       show ah.length+1=_
       rw[hAl]
     refine⟨_,_,rfl,rfl,zab (qm (by show ah.length+1<=1000;omega)),_,rfl,_,_,rfl,rfl,zab (qm (by rw[l1];omega)),?_⟩
     refine⟨l,_,_,rfl,rfl,(by rw[qi nld];exact hl'),(by rw[tj,hz];exact qm (by omega)),?_⟩
     refine⟨_,_,n6,t6,zs++[ah++(⟨#[UW f st i]⟩:Str)++bh],rfl,?_,?_,?_,?_,?_⟩
     . rw[qi (Ne.symm nld)];exact qe
     . rw[tL];exact qe
     . rw[tX,hz];rfl
     . refine hN.snoc (B:=ws.take r.toNat) ?_ (Vq ha1 _) ?_
       . rw[Str.cps_append,Str.cps_append,zdd,zdd,hA,hB,hz]
       . rw[tT,tT]
         omega
     . exact fr.at_d.own hHl
   . rintro σ' H' ⟨v1,v2,n',t',zs,rfl,hd',hl',hz,hN,fr⟩
     exact⟨_,rfl,q l zs n' t' H' hHl hl' hz (hN.names (Vq ha1 _)) (hN.nodup hst (by omega)) hd' fr⟩
end
open PySem L2 PyProof.Rows
def Ul (t:TT) (σ:L2.St) (H:Hp):Prop:=∀Q:Bool->Hp->Prop,(∀b,Q b H)->t σ H Q
theorem Ul.and {t u:TT} {σ:L2.St} {H:Hp} (h:Ul t σ H) (k:Ul u σ H):Ul (Gx t u) σ H:=λQ q=>h _ λb=>by
 cases b
 . exact jg (q false)
 . exact jI (k _ q)
theorem Ul.or {t u:TT} {σ:L2.St} {H:Hp} (h:Ul t σ H) (k:Ul u σ H):Ul (tOr t u) σ H:=λQ q=>h _ λb=>by
 cases b
 . exact jg (k _ q)
 . exact jI (q true)
theorem wm {tc:TT} {tp:TS} {D:QN} {σ:L2.St} {H0:Hp} (G:Hp->Prop) (h:G H0) (ht:Ul tc σ H0) (hp:∀D:QN,(∀H',G H'->D.nx σ H')->tp D σ H0) (k:∀H',G H'->D.nx σ H'):w6 tc tp Uv D σ H0:=
 ht _ λb=>by
   cases b
   . exact jg (k _ h)
   . exact jI (hp D k)
theorem Yd {tc:TT} {tp u:TS} {D:QN} {σ:L2.St} {H0:Hp} (G:Hp->Prop) (h:G H0) (ht:Ul tc σ H0) (hp:∀D:QN,(∀H',G H'->D.nx σ H')->tp D σ H0) (k:∀H',G H'->u D σ H'):w5 (w6 tc tp Uv) u D σ H0:=wm G h ht hp k
theorem YY {i:Nat} {v:V} {σ:L2.St} {H:Hp} {Q:L2.St->Hp->Prop} (h:Q (σ.set i (some v)) H):Qu i v σ H Q:=h
abbrev up (k:Nat×Nat):Int×Int:=((k.1:Int),(k.2:Int))
def K9 (a b:Nat×Nat):Prop:=a.1 < b.1\/(a.1=b.1/\a.2 < b.2)
abbrev keysOf (ks:List (Nat×Nat)):List (List qI):=ks.map λk=>zL (up k)
theorem vS {a b:Nat×Nat} (h:zL (up a)=zL (up b)):a=b:=by
 unfold zL at h
 simp only[List.cons.injEq,Sum.inl.injEq,and_true]at h
 exact Prod.ext (by have:=h.1;omega) (by have:=h.2;omega)
structure JM (m i j:Nat) (ks:List (Nat×Nat)):Prop where
 ord:ks.Pairwise K9
 lt:∀x∈ks,x.2 < m/\(x.1 < i\/(x.1=i/\x.2 < j))
 len:ks.length<=i*m+j
theorem JM.more {m i j:Nat} {ks:List (Nat×Nat)} (h:JM m i j ks):JM m i (j+1) ks:=⟨h.ord,λx hx=>by have:=h.lt x hx;omega,by have:=h.len;omega⟩
theorem JM.snoc {m i j:Nat} {ks:List (Nat×Nat)} (h:JM m i j ks) (hj:j < m):JM m i (j+1) (ks++[(i,j)]):=by
 refine⟨zda.mpr ⟨h.ord,zcy _ _,λa ha b hb=>?_⟩,λx hx=>?_,?_⟩
 . rw[zaE.mp hb]
   have:=h.lt a ha
   unfold K9
   omega
 . rcases tZ.mp hx with hx | hx
   . have:=h.lt x hx
     omega
   . rw[zaE.mp hx]
     exact⟨hj,.inr ⟨rfl,zaI _⟩⟩
 . rw[tX]
   have:=h.len
   show ks.length+1<=_
   omega
theorem JM.row {m i:Nat} {ks:List (Nat×Nat)} (h:JM m i m ks):JM m (i+1) 0 ks:=⟨h.ord,λx hx=>by have:=h.lt x hx;omega,by have:=h.len;rw[Nat.succ_mul];omega⟩
def NC (m i j:Nat) (kvs:List (List qI×V)):Prop:=∃ks,JM m i j ks/\(kvs.map (·.1)=keysOf ks\/kvs.map (·.1)=keysOf (ks++[(i,j)]))
theorem vq (kvs:List (List qI×V)) (k:List qI):((kvs.any λkv=>decide (kv.1=k))=true)↔k∈kvs.map (·.1):=by
 rw[zaO,tE]
 simp
theorem Ka {kvs:List (List qI×V)} {k:List qI} (v:V) (h:k∈kvs.map (·.1)):(jm kvs k v).map (·.1)=kvs.map (·.1):=by
 unfold jm
 rw[if_pos ((vq kvs k).mpr h),zaB]
 refine zbb λx _=>?_
 show (if x.1=k then (x.1,v) else x).1=x.1
 split<;>rfl
theorem xW {kvs:List (List qI×V)} {k:List qI} (v:V) (h:¬k∈kvs.map (·.1)):(jm kvs k v).map (·.1)=kvs.map (·.1)++[k]:=by
 unfold jm
 rw[if_neg (λz=>h ((vq kvs k).mp z)),tL]
 rfl
theorem NC.put {m i j:Nat} {kvs:List (List qI×V)} (h:NC m i j kvs) (v:V):NC m i j (jm kvs (zL (up (i,j))) v):=by
 obtain⟨ks,ha,h⟩:=h
 refine⟨ks,ha,.inr ?_⟩
 rcases h with h | h
 . rw[xW,h,keysOf,keysOf,tL]
   . rfl
   . rw[h]
     intro z
     obtain⟨x,hx,e⟩:=tE.mp z
     have e':=vS e
     have:=ha.lt x hx
     rw[e']at this
     omega
 . rw[Ka,h]
   rw[h]
   exact tE.mpr ⟨(i,j),by simp,rfl⟩
theorem NC.len {m i j:Nat} {kvs:List (List qI×V)} (h:NC m i j kvs):kvs.length<=i*m+j+1:=by
 obtain⟨ks,ha,h⟩:=h
 have hl:=ha.len
 rcases h with h | h
 . have:=congrArg zax h
   simp only[tj]at this
   omega
 . have:=congrArg zax h
   simp only[tj,tX,zaG]at this
   omega
theorem KM {i m:Nat} (hi:i<=m) (hm:m<=14):i*m<=196:=tV (Nat.mul_le_mul (tV hi hm) hm) (by decide)
theorem MA (xs:List V):Ww xs none (some 40)=xs.take 40:=by
 unfold Ww
 have e1:HT.sIx xs.length 0 none=0:=rfl
 have e2:HT.sIx xs.length xs.length (some 40)=min 40 xs.length:=by
   simp [HT.sIx]
 rw[e1,e2,zcW,Nat.sub_zero]
 by_cases h:40<=xs.length
 . rw[Nat.min_eq_left h]
 . rw[Nat.min_eq_right (by omega),tF (tu _),tF (by omega)]
def Zl (H:Hp) (ps:List Addr) (ks:List (Nat×Nat)):Prop:=ps.length=ks.length/\∀(i:Nat) (p:Addr) (k:Nat×Nat),ps[i]?=some p->ks[i]?=some k->H p=some (.tup [.int (k.1:Nat),.int (k.2:Nat)])
def UD:Sp:=λvs H Q _=>∃(d:Addr) (m:Nat) (n s t sh lo:Int),vs=[.ref d,.int m,.int sh,.int lo]/\H d=some (.dK (src n s t))/\m<=14/\
 ∀(l:Addr) (ps:List Addr) (ks:List (Nat×Nat)) (n' t':Int) (H':Hp),H l=none->H' l=some (.lst (ps.map V.ref))->Zl H' ps ks->ks.Pairwise K9->(∀x∈ks,x.1 < m/\x.2 < m)->ks.length<=40->H' d=some (.dK (src n' s t'))->Fr H d H'->Q (.ref l) H'
section
variable {P:Program} {w:World} {K:PySem.W.Frag} {mg:Str->Option Value} {base:Heap}
abbrev RB:List Str:=["_law_source_here","_law_many","_law_shape","_law_low","_law_pairs","_law_k","_law_j","_law_way"]
abbrev Wf:List Str:=["_law_source_here","_law_many","_law_shape","_law_low"]
theorem ZS:qG RB Wf (qo Yt):=⟨rfl,rfl,rfl,by decide+kernel,rfl,by decide+kernel,by decide+kernel⟩
theorem xp {f fT:Addr} {fd fdT:FuncData} (F:Qn K "_law_leads" "_law_leads" Yt f fd) (B:JH mg) (hso:mg "sorted"=none) (hT:jr K mg "_law_take" Zr ["_law_source_here","_law_many"] fT fdT):qB P w K mg base q5 2 f fd Wf UD:=by
 have GT:qB P w K mg base q5 1 fT fdT ["_law_source_here","_law_many"] Q9:=Jr hT.fn
 refine F.okJ ZS (λvs H Q E h=>?_) (λcdv A outer s H vs Q E hr h=>?_)
 . obtain⟨d,m,n,sd,t,sh,lo,rfl,_⟩:=h
   rfl
 . obtain⟨d,m,n,sd,t,sh,lo,rfl,hd,hm,q⟩:=h
   have hu:=jQ hr
   refine⟨_,qg (qz (i:=4) ZS.nd rfl (Or.inl rfl) wa)
     (qg (jp PassesOwn.never rfl (jK (by rfl) B.rng (qb (jv 1) qd)) (qv (i:=5) ZS.nd rfl (Or.inl rfl))
       (qh (jp PassesOwn.never rfl (jK (by rfl) B.rng (qb (jv 1) qd)) (qv (i:=6) ZS.nd rfl (Or.inl rfl))
         (qg (qz (i:=7) ZS.nd rfl (Or.inl rfl) (qO hT GT hr (by rfl) (qb (jv 0) (qb qf qd))))
         (qg (qS (jN (qt jo (jv 2) qf (qp _)) (jC (QU (jN (qt Qb (jv 6) (jv 5) (qp _)) (jC (qt Qb (jv 7) qf (qp _)))).pt (Qp (jN (qt W1 (jv 6) (jv 5) (qp _)) (jC (qt Qb (jv 7) qf (qp _)))).pt)).pt)).pt
           (qh (jL hu (jv 4) (qk (qb (jv 5) (qb (jv 6) qd))) ja rfl)) qF)
         (qg (qS (jN (qt jo (jv 2) qf (qp _)) (jC (qt Qb (jv 7) qf (qp _)))).pt
           (qh (jL hu (jv 4) (qk (qb (jv 5) (qb (jv 6) qd))) ja rfl)) qF)
         (qg (qS (jN (qt jo (jv 2) qf (qp _)) (jC (QU (jN (qt jo (jv 6) (qH QS (qH j5 (jv 5) qf) (jv 1)) (qp _)) (jC (qt Qb (jv 7) qf (qp _)))).pt (Qp (qt Qb (jv 7) qf (qp _)))).pt)).pt
           (qh (jL hu (jv 4) (qk (qb (jv 5) (qb (jv 6) qd))) ja rfl)) qF)
         (qg (qS (jN (qt jo (jv 2) qf (qp _)) (jN (qt Qb (jv 6) (jv 5) (qp _)) (jC (QU (qt Qb (jv 6) (jv 3) (qp _)) (Qp (qt Qb (jv 7) qf (qp _)))).pt))).pt
           (qh (jL hu (jv 4) (qk (qb (jv 5) (qb (jv 6) qd))) ja rfl)) qF)
         (qh (qS (jN (qt jo (jv 2) qf (qp _)) (jC (QU (jN (qt Qb (jv 6) (jv 3) (qp _)) (jC (qt Qb (jv 6) (jv 5) (qp _)))).pt (Qp (jN (qt W1 (jv 5) (jv 3) (qp _)) (jC (qt Qb (jv 7) qf (qp _)))).pt)).pt)).pt
           (qh (jL hu (jv 4) (qk (qb (jv 5) (qb (jv 6) qd))) ja rfl)) qF)))))))))
       )
     (qh (qA (jG uj (qy (Ug rfl) (by rfl) hso boot_sorted (qb (jv 4) qd)) jX (jW qf))))),?_⟩
   intro D hD
   have nDd:D≠d:=λe=>by rw[e,hd]at hD;cases hD
   refine⟨_,rfl,m,rfl,by omega,by omega,?_⟩
   refine Ql (lo:=0) (n:=m) (λi σ' H'=>∃(v1 v2 v3:Option V) (n' t':Int) (kvs:List (List qI×V)) (ks:List (Nat×Nat)),σ'=[some (.ref d),some (.int m),some (.int sh),some (.int lo),some (.ref D),v1,v2,v3]/\
     H' d=some (.dK (src n' sd t'))/\H' D=some (.dT kvs)/\kvs.map (·.1)=keysOf ks/\JM m i 0 ks/\Fr H d H')
     ⟨none,none,none,n,t,[],[],rfl,ql hd hD,qe,rfl,⟨.nil,λx hx=>(nomatch hx),zah _⟩,Fr.refl.new hD⟩ ?_ ?_
   . rintro i σ' H' hi ⟨v1,v2,v3,n',t',kvs,ks,rfl,hd',hD',ek,ha,fr⟩
     rw[zbC]
     refine⟨_,rfl,m,rfl,by omega,by omega,?_⟩
     refine Ql (lo:=0) (n:=m) (λj σ' H'=>∃(v2 v3:Option V) (n' t':Int) (kvs:List (List qI×V)) (ks:List (Nat×Nat)),σ'=[some (.ref d),some (.int m),some (.int sh),some (.int lo),some (.ref D),some (.int i),v2,v3]/\
       H' d=some (.dK (src n' sd t'))/\H' D=some (.dT kvs)/\kvs.map (·.1)=keysOf ks/\JM m i j ks/\Fr H d H')
       ⟨_,_,n',t',kvs,ks,rfl,hd',hD',ek,ha,fr⟩ ?_ ?_
     . rintro j σ' H2 hj ⟨v2,v3,n2,t2,kvs,ks,rfl,hd2,hD2,ek,ha,fr⟩
       rw[zbC]
       refine⟨_,rfl,d,12,n2,sd,t2,rfl,hd2,by decide,by decide,λr n3 t3 r0 r1=>?_⟩
       have hsq:=KM (zab hi) hm
       let G:Hp->Prop:=λH'=>∃(kvs:List (List qI×V)),H' d=some (.dK (src n3 sd t3))/\H' D=some (.dT kvs)/\NC m i j kvs/\Fr H d H'
       have g0:G (upd H2 d (.dK (src n3 sd t3))):=⟨kvs,qe,(by rw[qi nDd];exact hD2),⟨ks,ha,.inl ek⟩,fr.at_d⟩
       have put:∀H',G H'->∀E:QN,(∀H',G H'->E.nx [some (.ref d),some (.int m),some (.int sh),some (.int lo),some (.ref D),some (.int i),some (.int j),some (.int r)] H')->
           KZ (qN 4) (JN (qM (qN 5) (qM (qN 6) jT))) (tC (.bl true)) E [some (.ref d),some (.int m),some (.int sh),some (.int lo),some (.ref D),some (.int i),some (.int j),some (.int r)] H':=by
         rintro H' ⟨kvs,h1,h2,h3,h4⟩ E k
         refine⟨_,rfl,_,rfl,_,rfl,by show 2<=sizeLine;decide,λp hp=>?_⟩
         have npd:p≠d:=λe=>by rw[e,h1]at hp;cases hp
         have npD:p≠D:=λe=>by rw[e,h2]at hp;cases hp
         refine⟨D,_,rfl,QE.t (k:=zL (up (i,j))) (kvs:=kvs) (by rw[qi (Ne.symm npD)];exact h2) qe (qm (by have:=h3.len;omega)),?_⟩
         refine k _ ⟨_,?_,qe,h3.put _,?_⟩
         . rw[qi (Ne.symm nDd),qi (Ne.symm npd)]
           exact h1
         . exact(h4.new hp).own hD
       refine YY ?_
       dsimp only[List.set]
       refine Yd G g0 ?_ (put _ g0) λH3 g3=>?_
       . exact Ul.and (λQ q=>⟨_,rfl,rfl,_,rfl,q _⟩) (.or (.and (λQ q=>⟨_,rfl,_,rfl,_,_,rfl,rfl,_,rfl,q _⟩) (λQ q=>⟨_,rfl,_,_,rfl,rfl,_,rfl,q _⟩)) (.and (λQ q=>⟨_,rfl,_,rfl,_,_,rfl,rfl,_,rfl,q _⟩) (λQ q=>⟨_,rfl,_,_,rfl,rfl,_,rfl,q _⟩)))
       refine Yd G g3 ?_ (put _ g3) λH4 g4=>?_
       . exact Ul.and (λQ q=>⟨_,rfl,rfl,_,rfl,q _⟩) (λQ q=>⟨_,rfl,_,_,rfl,rfl,_,rfl,q _⟩)
       refine Yd G g4 ?_ (put _ g4) λH5 g5=>?_
       . exact Ul.and (λQ q=>⟨_,rfl,rfl,_,rfl,q _⟩) (.or (.and (λQ q=>⟨_,rfl,_,rfl,_,_,rfl,rfl,_,rfl,_,_,rfl,rfl,(by show (0:Int) < m;omega),rfl,_,rfl,q _⟩) (λQ q=>⟨_,rfl,_,_,rfl,rfl,_,rfl,q _⟩)) (λQ q=>⟨_,rfl,_,_,rfl,rfl,_,rfl,q _⟩))
       refine Yd G g5 ?_ (put _ g5) λH6 g6=>?_
       . exact Ul.and (λQ q=>⟨_,rfl,rfl,_,rfl,q _⟩) (.and (λQ q=>⟨_,rfl,_,rfl,_,_,rfl,rfl,_,rfl,q _⟩) (.or (λQ q=>⟨_,rfl,_,rfl,_,_,rfl,rfl,_,rfl,q _⟩) (λQ q=>⟨_,rfl,_,_,rfl,rfl,_,rfl,q _⟩)))
       refine wm G g6 ?_ (put _ g6) λH7 g7=>?_
       . exact Ul.and (λQ q=>⟨_,rfl,rfl,_,rfl,q _⟩) (.or (.and (λQ q=>⟨_,rfl,_,rfl,_,_,rfl,rfl,_,rfl,q _⟩) (λQ q=>⟨_,rfl,_,rfl,_,_,rfl,rfl,_,rfl,q _⟩)) (.and (λQ q=>⟨_,rfl,_,rfl,_,_,rfl,rfl,_,rfl,q _⟩) (λQ q=>⟨_,rfl,_,_,rfl,rfl,_,rfl,q _⟩)))
       obtain⟨kvs,h1,h2,⟨ks,ha,h3⟩,h4⟩:=g7
       rcases h3 with h3 | h3
       . exact⟨_,_,n3,t3,kvs,ks,rfl,h1,h2,h3,ha.more,h4⟩
       . exact⟨_,_,n3,t3,kvs,_,rfl,h1,h2,h3,ha.snoc hj,h4⟩
     . rintro σ' H2 ⟨v2,v3,n2,t2,kvs,ks,rfl,hd2,hD2,ek,ha,fr⟩
       exact⟨_,_,_,n2,t2,kvs,ks,rfl,hd2,hD2,ek,ha.row,fr⟩
   . rintro σ' H1 ⟨v1,v2,v3,n1,t1,kvs,ks,rfl,hd1,hD1,ek,ha,fr⟩
     have hl:kvs.length=ks.length:=by simpa using congrArg zax ek
     have hsq:=KM (tu m) hm
     have hal:=ha.len
     refine⟨_,rfl,D,kvs,ks.map up,rfl,hD1,?_,?_,by omega,λl ps hfl lps tup=>?_⟩
     . rw[ek,zaB]
       rfl
     . intro i k k' e1 e2
       rw[tH]at e1 e2
       cases e3:ks[i]? with
       | none=>rw[e3]at e1;cases e1
       | some a=>
         cases e4:ks[i+1]? with
         | none=>rw[e4]at e2;cases e2
         | some b=>
           rw[e3]at e1
           rw[e4]at e2
           obtain rfl:=(tK.inj e1).symm
           obtain rfl:=(tK.inj e2).symm
           have h5:=zaS.mp ha.ord i (i+1) (tw.mp e3).1 (tw.mp e4).1 (zaI _)
           rw[(tw.mp e3).2,(tw.mp e4).2]at h5
           unfold K9 at h5
           show YN _ _
           unfold YN
           show (a.1:Int) < b.1\/((a.1:Int)=b.1/\(a.2:Int) < b.2)
           omega
     . refine⟨40,rfl,l,_,rfl,.of qe,λl2 hl2=>?_⟩
       rw[MA,<-List.map_take]
       have n2d:l2≠d:=λe=>by
         rw[e,ql hd1 hfl]at hl2
         cases hl2
       have hl1:H1 l2=none:=by
         by_cases e:l2=l
         . rw[e];exact hfl
         . rw[qi e]at hl2;exact hl2
       have fr2:=(fr.new (o:=.lst (ps.map V.ref)) hfl).new (o:=.lst ((ps.take 40).map V.ref)) hl2
       refine q l2 (ps.take 40) (ks.take 40) n1 t1 _ (fr.fresh hd1 hl1) qe ⟨?_,λi p k e1 e2=>?_⟩ ?_ ?_ ?_ ?_ fr2
       . rw[tT,tT,lps,tj]
       . have i40:i < 40:=by
           have:=(tw.mp e1).1
           rw[tT]at this
           omega
         rw[zbG i40]at e1 e2
         have h1:=tup i p (up k) e1 (by rw[tH,e2];rfl)
         exact ql (ql h1 hfl) hl2
       . exact ha.ord.sublist (zdh _ _)
       . intro x hx
         have:=ha.lt x (zca hx)
         omega
       . rw[tT]
         omega
       . exact ql (ql hd1 hfl) hl2
end
open PySem L2 PyProof.Rows
structure qu (rs:List (Str×List Str)):Prop where
 nm:∀r∈rs,jc r.1=true
 nd:(rs.map (·.1)).Nodup
 to:∀r∈rs,∀z∈r.2,z∈rs.map (·.1)
 rd:∀r∈rs,r.2.Nodup
 few:(rs.map λr=>r.2.length).sum<=40
def WC (zs:List Str) (j:Nat):Str:=zs.getD j ⟨#[]⟩
theorem wV {zs:List Str} {j:Nat} (h:j < zs.length):WC zs j∈zs:=by
 unfold WC
 rw[zap,tz h]
 exact zbW h
theorem XY {zs:List Str} {j:Nat} (h:j < zs.length):zs[j]?=some (WC zs j):=by
 unfold WC
 rw[zap,tz h]
 rfl
theorem Us {zs:List Str} (hn:zs.Nodup) {i j:Nat} (hi:i < zs.length) (hj:j < zs.length) (h:WC zs i=WC zs j):i=j:=by
 have h1:=XY hi
 have h2:=XY hj
 rw[h,<-h2,tz hi,tz hj]at h1
 have e:zs[i]=zs[j]:=tK.inj h1
 rcases zcr i j with l | l | l
 . exact absurd e (zaS.mp hn i j hi hj l)
 . exact l
 . exact absurd e.symm (zaS.mp hn j i hj hi l)
theorem Qx {α β:Type} {f:α->β}:∀{l:List α},l.Nodup->(∀a∈l,∀b∈l,f a=f b->a=b)->(l.map f).Nodup
 | [],_,_=>zbn
 | a::l,h,k=>by
   rw[tP,zaf]
   rw[zaf]at h
   refine⟨λz=>?_,Qx h.2 λx hx y hy=>k x (tN _ hx) y (tN _ hy)⟩
   obtain⟨b,hb,e⟩:=tE.mp z
   have:=k b (tN _ hb) a (tS) e
   subst this
   exact h.1 hb
def toN (ks:List (Nat×Nat)) (k:Nat):List Nat:=(ks.filter λx=>decide (x.1=k)).map (·.2)
theorem vC {ks:List (Nat×Nat)} (h:ks.Pairwise K9) (k:Nat):(toN ks k).Nodup:=by
 have h1:(ks.filter λx=>decide (x.1=k)).Pairwise K9:=h.sublist (zcd)
 refine zdk.mpr (zbX.imp_of_mem (λ{a b} ha hb r=>?_) h1)
 have e1:a.1=k:=of_decide_eq_true (zaw.mp ha).2
 have e2:b.1=k:=of_decide_eq_true (zaw.mp hb).2
 unfold K9 at r
 omega
theorem Vy {ks:List (Nat×Nat)} {m:Nat} (h:∀x∈ks,x.1 < m/\x.2 < m) (k:Nat):∀j∈toN ks k,j < m:=λj hj=>by
 obtain⟨x,hx,e⟩:=tE.mp hj
 have:=(h x (zaw.mp hx).1).2
 omega
theorem ud (os:List Nat) (f g:Nat->Nat):(os.map λk=>f k+g k).sum=(os.map f).sum+(os.map g).sum:=by
 induction os with
 | nil=>rfl
 | cons a os ih=>
   simp only[tP,zaW,ih]
   omega
theorem uc {os:List Nat} (h:os.Nodup) (a:Nat):(os.map λk=>if a=k then 1 else 0).sum<=1:=by
 induction os with
 | nil=>exact zah _
 | cons b os ih=>
   rw[zaf]at h
   rw[tP,zaW]
   by_cases e:a=b
   . subst e
     have z:(os.map λk=>if a=k then 1 else 0)=os.map λ_=>0:=zbb λk hk=>by
       rw[if_neg]
       intro e
       subst e
       exact h.1 hk
     rw[z,if_pos rfl]
     have:(os.map λ_=>0).sum=0:=by
       clear z ih h
       induction os with
       | nil=>rfl
       | cons c os ih=>rw[tP,zaW,ih]
     omega
   . rw[if_neg e]
     have:=ih h.2
     omega
theorem Uu {os:List Nat} (h:os.Nodup):∀ks:List (Nat×Nat),(os.map λk=>(toN ks k).length).sum<=ks.length
 | []=>by
   have:(os.map λk=>(toN [] k).length).sum=0:=by
     clear h
     induction os with
     | nil=>rfl
     | cons c os ih=>rw[tP,zaW,ih];rfl
   omega
 | x::ks=>by
   have e:(os.map λk=>(toN (x::ks) k).length)=os.map λk=>(if x.1=k then 1 else 0)+(toN ks k).length:=zbb λk _=>by
     unfold toN
     rw[zaK]
     by_cases z:x.1=k
     . rw[if_pos (decide_eq_true z),if_pos z]
       simp only[tP,zac]
       omega
     . rw[if_neg (by simpa using z),if_neg z,Nat.zero_add]
   rw[e,ud,zac]
   have:=uc h x.1
   have:=Uu h ks
   omega
def Jj (zs:List Str) (ks:List (Nat×Nat)) (ab:Bool) (k:Nat):Str×List Str:=
 (WC zs k,if ab=true then ((toN ks k).map (WC zs)).reverse else (toN ks k).map (WC zs))
theorem vN {zs:List Str} {ks:List (Nat×Nat)} {ab:Bool} {k:Nat} {z:Str}:z∈(Jj zs ks ab k).2↔z∈(toN ks k).map (WC zs):=by
 unfold Jj
 cases ab
 . rw[if_neg tI]
 . rw[if_pos rfl,zcz]
theorem vO {zs:List Str} {ks:List (Nat×Nat)} {ab:Bool} {k:Nat}:(Jj zs ks ab k).2.length=(toN ks k).length:=by
 unfold Jj
 cases ab
 . rw[if_neg tI,tj]
 . rw[if_pos rfl,zbF,tj]
structure Vr (m:Nat) (os:List Nat):Prop where
 len:os.length=m
 nd:os.Nodup
 lt:∀k∈os,k < m
 all:∀j,j < m->j∈os
theorem kL {zs:List Str} {ks:List (Nat×Nat)} {os:List Nat} {m:Nat} (ab:Bool) (hz:zs.length=m) (hN:∀z∈zs,jc z=true) (hd:zs.Nodup) (hk:ks.Pairwise K9) (hl:∀x∈ks,x.1 < m/\x.2 < m) (h40:ks.length<=40) (ho:Vr m os):
   qu (os.map (Jj zs ks ab)):=by
 have e1:(os.map (Jj zs ks ab)).map (·.1)=os.map (WC zs):=by rw[zaB];rfl
 have inj:∀a∈os,∀b∈os,WC zs a=WC zs b->a=b:=λa ha b hb e=>Us hd (by rw[hz];exact ho.lt a ha) (by rw[hz];exact ho.lt b hb) e
 refine⟨λr hr=>?_,?_,λr hr z hz'=>?_,λr hr=>?_,?_⟩
 . obtain⟨k,hk',rfl⟩:=tE.mp hr
   exact hN _ (wV (by rw[hz];exact ho.lt k hk'))
 . rw[e1]
   exact Qx ho.nd inj
 . obtain⟨k,hk',rfl⟩:=tE.mp hr
   rw[vN]at hz'
   obtain⟨j,hj,rfl⟩:=tE.mp hz'
   rw[e1]
   exact tE.mpr ⟨j,ho.all j (Vy hl k j hj),rfl⟩
 . obtain⟨k,hk',rfl⟩:=tE.mp hr
   have h1:((toN ks k).map (WC zs)).Nodup:=Qx (vC hk k) λa ha b hb e=>Us hd (by rw[hz];exact Vy hl k a ha) (by rw[hz];exact Vy hl k b hb) e
   show (if ab=true then _ else _:List Str).Nodup
   cases ab
   . rw[if_neg tI]
     exact h1
   . rw[if_pos rfl]
     exact zcQ.mpr (h1.imp λh=>Ne.symm h)
 . have e2:((os.map (Jj zs ks ab)).map λr=>r.2.length)=os.map λk=>(toN ks k).length:=by
     rw[zaB]
     exact zbb λk _=>vO
   rw[e2]
   exact tV (Uu ho.nd ks) h40
theorem y9 (m:Nat):Vr m (tU m):=⟨zai,zbV,λk h=>zaP.mp h,λj h=>zaP.mpr h⟩
theorem VN (m:Nat):Vr m (zd m):=⟨by rw[zd,zbF,zai],zcQ.mpr (zbV.imp λh=>Ne.symm h),λk h=>zaP.mp (zcz.mp h),λj h=>zcz.mpr (zaP.mpr h)⟩
def zR (m:Nat):List Nat:=(tU m).map λk=>k*5 % m
theorem kP:∀m,m < 15->(zR m).Nodup->∀j,j < m->j∈zR m:=by decide+kernel
theorem WY {m:Nat} (hm:m<=14) (h0:0 < m) (h:(zR m).Nodup):Vr m (zR m):=
 ⟨by rw[zR,tj,zai],h,λk hk=>by obtain⟨x,_,rfl⟩:=tE.mp hk;exact Nat.mod_lt _ h0,kP m (by omega) h⟩
theorem Xy (val:Nat->Int):∀i,(firstMet val i).length=i->((tU i).map val).Nodup
 | 0,_=>zbn
 | i+1,h=>by
   have h1:=firstMet_any val i (val i)
   have h2:=firstMet_length_le val i
   rw[firstMet_succ]at h
   unfold step_dedup at h
   split at h
   . omega
   . rename_i z
     rw[tX,zaG]at h
     rw[zcb,tL,zct]
     refine⟨Xy val i (by omega),by simp,λa ha b hb e=>?_⟩
     have eb:b=val i:=by simpa using hb
     subst eb
     subst e
     refine z ?_
     rw[h1,zaO]
     exact⟨_,ha,by simp⟩
theorem RD {os:List Nat} (h:¬(firstMet (λi=>(os.map λk=>((k:Nat):Int)).getD i 0) (os.map λk=>((k:Nat):Int)).length).length < os.length):os.Nodup:=by
 have h1:=firstMet_length_le (λi=>(os.map λk=>((k:Nat):Int)).getD i 0) (os.map λk=>((k:Nat):Int)).length
 have h2:=Xy (λi=>(os.map λk=>((k:Nat):Int)).getD i 0) (os.map λk=>((k:Nat):Int)).length (by rw[tj]at h1 h ⊢;omega)
 have e:(tU (os.map λk=>((k:Nat):Int)).length).map (λi=>(os.map λk=>((k:Nat):Int)).getD i 0)=os.map λk=>((k:Nat):Int):=by
   refine zcq λi=>?_
   rw[tH]
   by_cases hi:i < (os.map λk=>((k:Nat):Int)).length
   . rw[zbm hi,tz hi]
     simp only[zbJ,zap,tz hi,Option.getD_some]
   . rw[zaU (by rw[zai];omega),zaU (by omega)]
     rfl
 rw[e]at h2
 refine(zdk.mp h2).imp λh e=>h (by rw[e])
open PySem L2 PyProof.Rows
def jS (H:Hp) (ps:List Addr) (rs:List (Str×List Str)):Prop:=ps.length=rs.length/\∀(i:Nat) (p:Addr) (r:Str×List Str),ps[i]?=some p->rs[i]?=some r->∃q,H p=some (.tup [.str r.1,.ref q])/\H q=some (.tup (r.2.map V.str))
def yq:Sp:=λvs H Q _=>∃(d:Addr) (mo:Nat) (n s t:Int),vs=[.ref d,.int mo]/\H d=some (.dK (src n s t))/\0 < mo/\mo<=14/\
 ∀(l:Addr) (ps:List Addr) (rs:List (Str×List Str)) (n' t':Int) (H':Hp),H l=none->H' l=some (.lst (ps.map V.ref))->jS H' ps rs->qu rs->0 < rs.length->rs.length<=mo->H' d=some (.dK (src n' s t'))->Fr H d H'->Q (.ref l) H'
structure Je (mg:Str->Option Value):Prop where
 srt:mg "sorted"=none
 lst:mg "list"=none
 rev:mg "reversed"=none
 set:mg "set"=none
 tup:mg "tuple"=none
theorem jS.mono {H H':Hp} {ps:List Addr} {rs:List (Str×List Str)} (h:jS H ps rs) (s:qr H H'):jS H' ps rs:=⟨h.1,λi p r e1 e2=>let ⟨q,a,b⟩:=h.2 i p r e1 e2;⟨q,s _ _ a,s _ _ b⟩⟩
theorem Zl.mono {H H':Hp} {ps:List Addr} {ks:List (Nat×Nat)} (h:Zl H ps ks) (s:qr H H'):Zl H' ps ks:=⟨h.1,λi p k e1 e2=>s _ _ (h.2 i p k e1 e2)⟩
theorem Fr.same {H H' H'':Hp} {d:Addr} (h:Fr H d H') (s:qr H' H''):Fr H d H'':=λb u hb hn=>s _ _ (h b u hb hn)
theorem jS.snoc {H:Hp} {ps:List Addr} {rs:List (Str×List Str)} (h:jS H ps rs) {p q:Addr} {r:Str×List Str} (hp:H p=some (.tup [.str r.1,.ref q])) (hq:H q=some (.tup (r.2.map V.str))):jS H (ps++[p]) (rs++[r]):=by
 refine⟨by rw[tX,tX,h.1];rfl,λi p' r' e1 e2=>?_⟩
 by_cases hi:i < ps.length
 . rw[zbk hi]at e1
   rw[zbk (by rw[<-h.1];exact hi)]at e2
   exact h.2 i p' r' e1 e2
 . have hi':i=ps.length:=by
     have:=(tw.mp e1).1
     rw[tX,zaG]at this
     omega
   subst hi'
   rw[zaH (tu _),zcF]at e1
   rw[h.1,zaH (tu _),zcF]at e2
   obtain rfl:=(tK.inj e1).symm
   obtain rfl:=(tK.inj e2).symm
   exact⟨q,hp,hq⟩
theorem jS.upd_lst {H:Hp} {ps:List Addr} {rs:List (Str×List Str)} {l:Addr} {xs:List V} {o:HO} (h:jS H ps rs) (hl:H l=some (.lst xs)):jS (upd H l o) ps rs:=by
 refine⟨h.1,λi p r e1 e2=>?_⟩
 obtain⟨q,a,b⟩:=h.2 i p r e1 e2
 refine⟨q,?_,?_⟩
 . rw[qi (λe=>by rw[e,hl]at a;cases a)]
   exact a
 . rw[qi (λe=>by rw[e,hl]at b;cases b)]
   exact b
theorem V5 {tc:TT} {tp u:TS} {D:QN} {σ:L2.St} {H0:Hp} (R:Bool->Hp->Prop) (G:L2.St->Hp->Prop) (ht:∀Q:Bool->Hp->Prop,(∀b H1,R b H1->Q b H1)->tc σ H0 Q)
   (hT:∀H1,R true H1->∀D':QN,(∀σ' H',G σ' H'->D'.nx σ' H')->tp D' σ H1) (hF:∀H1,R false H1->G σ H1) (k:∀σ' H',G σ' H'->u D σ' H'):w5 (w6 tc tp Uv) u D σ H0:=
 ht _ λb H1 r=>by
   cases b
   . exact jg (k _ _ (hF _ r))
   . exact jI (hT _ r _ k)
theorem KH {zs:List Str} {j:Nat} (h:j < zs.length):Uj (zs.map V.str) ((j:Nat):Int)=some (V.str (WC zs j)):=QL (by rw[tH,XY h];rfl)
theorem yg {ks:List (Nat×Nat)} {j:Nat} {x:Nat×Nat} (k:Nat) (h:ks[j]?=some x):toN (ks.take (j+1)) k=toN (ks.take j) k++if x.1=k then [x.2] else []:=by
 unfold toN
 rw[tQ,h,zbL,tL]
 congr 1
 by_cases e:x.1=k
 . rw[if_pos e]
   simp [e]
 . rw[if_neg e]
   simp [e]
abbrev oL (os:List Nat):List V:=os.map λk=>V.int ((k:Nat):Int)
theorem uU (os:List Nat):oL os=(os.map λk=>((k:Nat):Int)).map V.int:=by rw[zaB];rfl
section
variable {P:Program} {w:World} {K:PySem.W.Frag} {mg:Str->Option Value} {base:Heap}
abbrev Ma:List Str:=["_law_source_here","_law_most","_law_many","_law_names_here","_law_shape","_law_pairs","_law_about","_law_order","_law_rows_here","_law_k","_law_leads_here"]
theorem QF:qG Ma ["_law_source_here","_law_most"] (qo UJ):=⟨rfl,rfl,rfl,by decide+kernel,rfl,by decide+kernel,by decide+kernel⟩
abbrev ME:List Str:=["_law_one","_law_j","_law_k","_law_names_here"]
theorem vn:ME.Nodup:=by decide+kernel
theorem uJ {f fT fN fL:Addr} {fd fdT fdN fdL:FuncData} (F:Qn K "_law_rows" "_law_rows" UJ f fd) (B:JH mg) (G:Je mg) (hT:jr K mg "_law_take" Zr ["_law_source_here","_law_many"] fT fdT)
   (hN:jr K mg "_law_names" Ys ["_law_source_here","_law_many"] fN fdN) (hL:jr K mg "_law_leads" Yt Wf fL fdL):qB P w K mg base q5 3 f fd ["_law_source_here","_law_most"] yq:=by
 have GT:qB P w K mg base q5 1 fT fdT ["_law_source_here","_law_many"] Q9:=Jr hT.fn
 have GN:qB P w K mg base q5 2 fN fdN ["_law_source_here","_law_many"] X6:=W3 hN.fn B hT
 have GL:qB P w K mg base q5 2 fL fdL Wf UD:=xp hL.fn B G.srt hT
 refine F.okJ QF (λvs H Q E h=>?_) (λcdv A outer s H vs Q E hr h=>?_)
 . obtain⟨d,m,n,sd,t,rfl,_⟩:=h
   rfl
 . obtain⟨d,mo,n,sd,t,rfl,hd,hmo,hm14,q⟩:=h
   have r1:jE 1 _:=hr.mono (by decide)
   refine⟨_,qg (qz (i:=2) QF.nd rfl (Or.inr rfl) (qH j5 qf (qO hT GT r1 (by rfl) (qb (jv 0) (qb (jv 1) qd)))))
     (qg (qz (i:=3) QF.nd rfl (Or.inr rfl) (qO hN GN hr (by rfl) (qb (jv 0) (qb (jv 2) qd))))
     (qg (qz (i:=4) QF.nd rfl (Or.inl rfl) (qO hT GT r1 (by rfl) (qb (jv 0) (qb qf qd))))
     (qg (qz (i:=5) QF.nd rfl (Or.inl rfl) (qO hL GL hr (by rfl) (qb (jv 0) (qb (jv 2) (qb (jv 4) (qb (qH j5 qf (qO hT GT r1 (by rfl) (qb (jv 0) (qb qf qd)))) qd))))))
     (qg (qz (i:=6) QF.nd rfl (Or.inl rfl) (qW jo (qO hT GT r1 (by rfl) (qb (jv 0) (qb qf qd))) qf (qp _)))
     (qg (qz (i:=7) QF.nd rfl (Or.inl rfl) (Mj rfl (by rfl) G.lst (by rfl) B.rng (jv 2)))
     (qg (qS (jF (jv 6)) (qh (Jm (i:=7) (N':=["_law_k","_law_many"]) (ix:=[none,some 2]) QF.nd rfl (Or.inl rfl) rfl ⟨rfl,rfl,rfl,rfl,rfl⟩ (jK (by rfl) B.rng (qb (jv 2) qd))
         (λC s2 H2 fp pins=>⟨qv (i:=0) (show (["_law_k","_law_many"]:List Str).Nodup by decide+kernel) rfl (Or.inl rfl),j9,qH QS (qH QG (jv 0) qf) (jv 1)⟩))) qF)
     (qg (qS (qt Qb (qy Vp (by rfl) B.len boot_len (qb (jq (kY rfl) (by rfl) G.set boot_set (qb (jv 7) qd)) qd)) (jv 2) (qp _))
         (qh (qz (i:=7) QF.nd rfl (Or.inl rfl) (RV rfl (by rfl) G.lst (by rfl) G.rev (by rfl) B.rng (jv 2)))) qF)
     (qg (qz (i:=8) QF.nd rfl (Or.inl rfl) (qV qd))
     (qg (jp PassesOwn.never rfl (jl (jv 7)) (qv (i:=9) QF.nd rfl (Or.inr rfl))
       (qg (Jm (i:=10) (N':=ME) (ix:=[none,none,some 9,some 3]) (g:=Mr K 2 (XH (Qu 0) (XH (Qu 1) R9))) (te:=Jf (Rg K) (qN 3) (qN 1)) QF.nd rfl (Or.inl rfl) rfl ⟨rfl,rfl,rfl,rfl,rfl⟩ (jl (jv 5))
           (λC s2 H2 fp pins=>⟨YT rfl (jw (qv (i:=0) vn rfl (Or.inl rfl)) (jw (qv (i:=1) vn rfl (Or.inl rfl)) Ju)),
             Qq (qt jo (jv 0) (jv 2) (qp _)),qD Qh (jv 3) (jv 1) (λ_ _=>rfl)⟩))
       (qg (qS (jF (jv 6)) (qh (jO (wb zaq PySem.F.slot_list_reverse PySem.F.type_list_reverse VW (jv 10)))) qF)
       (qh (jO (Zt zaq zat zau jZ (jv 8) (qb
         (qk (qb (qD Qh (jv 3) (jv 9) (λ_ _=>rfl)) (qb (jq Xd (by rfl) G.tup boot_tuple (qb (jv 10) qd)) qd))) qd)))))))
     (qh (qA (jv 8)))))))))))),?_⟩
   refine⟨_,rfl,_,rfl,d,mo,n,sd,t,rfl,hd,by omega,by omega,λr n1 t1 r0 r1=>⟨_,_,rfl,rfl,?_⟩⟩
   obtain⟨m,em,m0,m1⟩:∃m:Nat,1+r=(m:Int)/\0 < m/\m<=mo:=⟨(1+r).toNat,by omega,by omega,by omega⟩
   have em':(λi j:Int=>V.int (i+j)) 1 r=V.int (m:Int):=congrArg V.int em
   rw[em']
   refine⟨_,rfl,_,rfl,d,m,n1,sd,t1,rfl,qe,by omega,λlz zs n2 t2 H2 hlz hlz' zl zn znd hd2 fr2=>?_⟩
   have fr2:Fr H d H2:=Fr.refl.at_d.trans fr2
   refine⟨_,rfl,d,5,n2,sd,t2,rfl,hd2,by decide,by decide,λsh n3 t3 _ _=>?_⟩
   refine⟨_,rfl,_,rfl,_,rfl,_,rfl,d,5,n3,sd,t3,rfl,qe,by decide,by decide,λlw n4 t4 _ _=>⟨_,_,rfl,rfl,d,m,n4,sd,t4,sh,1+lw,rfl,qe,by omega,λlp ps ks n5 t5 H5 hlp hlp' pat kord klt k40 hd5 fr5=>?_⟩⟩
   have nzd:lz≠d:=λe=>by rw[e,qe]at hlz;cases hlz
   have hz5:H5 lz=some (.lst (zs.map V.str)):=fr5 _ _ (by rw[qi nzd,qi nzd];exact hlz') nzd
   have fr5:Fr H d H5:=fr2.at_d.at_d.trans fr5
   refine⟨_,rfl,d,2,n5,sd,t5,rfl,hd5,by decide,by decide,λab n6 t6 _ _=>⟨rfl,?_⟩⟩
   generalize decide (V.int ab=V.int 1)=b
   have npd:lp≠d:=λe=>by rw[e,qe]at hlp;cases hlp
   have fr6:Fr H d (upd H5 d (.dK (src n6 sd t6))):=fr5.at_d
   have hd6:upd H5 d (.dK (src n6 sd t6)) d=some (.dK (src n6 sd t6)):=qe
   have hz6:upd H5 d (.dK (src n6 sd t6)) lz=some (.lst (zs.map V.str)):=by rw[qi nzd];exact hz5
   have hp6:upd H5 d (.dK (src n6 sd t6)) lp=some (.lst (ps.map V.ref)):=by rw[qi npd];exact hlp'
   have pat6:Zl (upd H5 d (.dK (src n6 sd t6))) ps ks:=⟨pat.1,λi p k e1 e2=>by
     have h1:=pat.2 i p k e1 e2
     have:p≠d:=λe=>by rw[e,hd5]at h1;cases h1
     rw[qi this]
     exact h1⟩
   generalize upd H5 d (.dK (src n6 sd t6))=H6 at fr6 hd6 hz6 hp6 pat6
   refine⟨_,rfl,m,rfl,by omega,λlo hlo=>?_⟩
   refine YY ?_
   dsimp only[List.set]
   refine V5 (λc H'=>c=b/\H'=upd H6 lo (.lst (KI m))) (λσ' H'=>∃lo os,σ'=[some (.ref d),some (.int mo),some (.int m),some (.ref lz),some (.int sh),some (.ref lp),some (.bl b),some (.ref lo),none,none,none]/\qr H6 H'/\H6 lo=none/\H' lo=some (.lst (oL os))/\(os=tU m\/os=zR m))
     (λQ k=>⟨_,rfl,b,rfl,k _ _ ⟨rfl,rfl⟩⟩) ?_ ?_ ?_
   . rintro H1 ⟨rfl,rfl⟩ D' k
     refine⟨_,rfl,m,rfl,by omega,by omega,λD hD=>?_⟩
     refine Zk (λi σ' H'=>∃v:Option V,σ'=[v,some (.int m)]/\H'=upd (upd H6 lo (.lst (KI m))) D (.lst (oL ((tU i).map λk=>k*5 % m)))) ⟨none,rfl,rfl⟩ ?_ ?_
     . rintro i σ' H' hi ⟨v,rfl,rfl⟩
       rw[zbC]
       have hi:i < m:=by simpa using hi
       refine⟨_,rfl,_,_,rfl,rfl,.inl ⟨by omega,by omega⟩,_,rfl,_,_,rfl,rfl,(by show (0:Int) < m;omega),_,qe,?_,_,rfl,?_⟩
       . rw[tj,tj,zai]
         exact qm (by omega)
       . rw[jV,zcb,tL,oL,oL,tL]
         rfl
     . rintro σ' H' ⟨v,rfl,rfl⟩
       have hD6:H6 D=none:=by
         by_cases e:D=lo
         . rw[e];exact hlo
         . rw[qi e]at hD;exact hD
       exact k _ _ ⟨D,zR m,rfl,λa u h=>ql (ql h hlo) hD,hD6,qe,.inr rfl⟩
   . rintro H1 ⟨rfl,rfl⟩
     exact⟨lo,tU m,rfl,qj hlo,hlo,qe,.inl rfl⟩
   rintro σ' H7 ⟨lo,os,rfl,s7,hlo6,hlo7,hos⟩
   have los:os.length=m:=by
     rcases hos with rfl | rfl
     . exact zai
     . rw[zR,tj,zai]
   refine V5 (λc H'=>qr H7 H'/\(c=true\/os.Nodup)) (λσ' H'=>∃lo os,σ'=[some (.ref d),some (.int mo),some (.int m),some (.ref lz),some (.int sh),some (.ref lp),some (.bl b),some (.ref lo),none,none,none]/\qr H6 H'/\H' lo=some (.lst (oL os))/\Vr m os)
     ?_ ?_ ?_ ?_
   . intro Q k
     refine⟨_,rfl,lo,os.map (λk=>((k:Nat):Int)),rfl,.of (by rw[<-uU];exact hlo7),by rw[tj,los];omega,λl S hl=>?_⟩
     refine⟨l,S,_,rfl,qe,_,rfl,_,_,rfl,rfl,_,rfl,k _ _ ⟨qj hl,?_⟩⟩
     by_cases h:(((firstMet (λi=>(os.map λk=>((k:Nat):Int)).getD i 0) (os.map λk=>((k:Nat):Int)).length).length:Nat):Int) < (m:Int)
     . exact .inl (decide_eq_true h)
     . exact .inr (RD (by rw[los];omega))
   . rintro H1 ⟨s1,_⟩ D' k
     refine⟨_,rfl,m,rfl,by omega,λl hl=>?_⟩
     exact k _ _ ⟨l,zd m,rfl,λa u h=>ql (s1 _ _ (s7 _ _ h)) hl,qe,VN m⟩
   . rintro H1 ⟨s1,h⟩
     have h:os.Nodup:=h.resolve_left (by decide)
     refine⟨lo,os,rfl,λa u h=>s1 _ _ (s7 _ _ h),s1 _ _ hlo7,?_⟩
     rcases hos with rfl | rfl
     . exact y9 m
     . exact WY (by omega) m0 h
   rintro σ' H8 ⟨lo,os,rfl,s8,hlo8,ho⟩
   refine⟨by show 0<=sizeLine;decide,λlr hlr=>⟨_,rfl,lo,rfl,⟨_,.of (ql hlo8 hlr)⟩,?_⟩⟩
   refine j7 (K:=K) (a:=lo) (xs:=oL os) (λi σ' H'=>∃(v9 v10:Option V) (qs:List Addr),σ'=[some (.ref d),some (.int mo),some (.int m),some (.ref lz),some (.int sh),some (.ref lp),some (.bl b),some (.ref lo),some (.ref lr),v9,v10]/\
     qr H8 H'/\H' lr=some (.lst (qs.map V.ref))/\jS H' qs ((os.take i).map (Jj zs ks b)))
     ⟨none,none,[],rfl,qj hlr,qe,rfl,λi p r e=>(nomatch e)⟩ (λi σ' H' _ ⟨_,_,_,_,s,_⟩=>.of (s _ _ hlo8)) ?_ ?_
   . rintro i x σ' H' hx ⟨v9,v10,qs,rfl,s9,hlr9,rat⟩
     have hix:i < os.length:=by
       have:=(tw.mp hx).1
       rwa [tj]at this
     obtain⟨k,hk⟩:∃k,os[i]?=some k:=⟨_,tz hix⟩
     have ex:x=V.int ((k:Nat):Int):=by
       rw[tH,hk]at hx
       exact(tK.inj hx).symm
     subst ex
     have hkm:k < m:=ho.lt k (tY hk)
     refine⟨_,rfl,lp,rfl,⟨_,.of (s9 _ _ (s8 _ _ hp6))⟩,λD hD=>?_⟩
     have nDr:D≠lr:=λe=>by rw[e,hlr9]at hD;cases hD
     have hz9:H' lz=some (.lst (zs.map V.str)):=s9 _ _ (s8 _ _ hz6)
     have pat9:Zl H' ps ks:=pat6.mono λa u h=>s9 _ _ (s8 _ _ h)
     refine QX (K:=K) (a:=lp) (xs:=ps.map V.ref) (λj σ'' H''=>∃v0 v1:Option V,σ''=[v0,v1,some (.int k),some (.ref lz)]/\H''=upd H' D (.lst (((toN (ks.take j) k).map (WC zs)).map V.str))) ⟨none,none,rfl,rfl⟩
       (λj σ'' G _ ⟨_,_,_,e⟩=>e▸.of (ql (s9 _ _ (s8 _ _ hp6)) hD)) ?_ ?_
     . rintro j y σ'' G hy ⟨v0,v1,rfl,rfl⟩
       have hj:j < ps.length:=by
         have:=(tw.mp hy).1
         rwa [tj]at this
       obtain⟨p,hp⟩:∃p,ps[j]?=some p:=⟨_,tz hj⟩
       obtain⟨kk,hkk⟩:∃p,ks[j]?=some p:=⟨_,tz (by rw[<-pat9.1];exact hj)⟩
       have ey:y=V.ref p:=by
         rw[tH,hp]at hy
         exact(tK.inj hy).symm
       subst ey
       have hpt:=pat9.2 j p kk hp hkk
       have hk2:kk.2 < zs.length:=by rw[zl];exact(klt kk (tY hkk)).2
       refine⟨p,_,rfl,.of (ql hpt hD),rfl,_,_,rfl,_,_,rfl,rfl,_,rfl,_,rfl,rfl,_,rfl,?_⟩
       rw[yg k hkk]
       by_cases e:kk.1=k
       . have e1:decide (V.int ((kk.1:Nat):Int)=V.int ((k:Nat):Int))=true:=decide_eq_true (by rw[e])
         rw[e1,if_pos e]
         refine jI ⟨_,rfl,_,rfl,lz,_,_,_,rfl,rfl,.of (ql hz9 hD),KH hk2,_,qe,?_,_,_,rfl,?_⟩
         . rw[tj,tj]
           refine qm ?_
           have h1:(toN (ks.take j) k).length<=(ks.take j).length:=by
             unfold toN
             rw[tj]
             exact zaT _ _
           rw[tT]at h1
           omega
         . rw[jV,tL,tL]
           rfl
       . have e1:decide (V.int ((kk.1:Nat):Int)=V.int ((k:Nat):Int))=false:=decide_eq_false (by
           intro z
           have:=V.int.inj z
           omega)
         rw[e1,if_neg e,zaZ]
         exact jg ⟨_,_,rfl,rfl⟩
     . rintro σ'' G ⟨v0,v1,rfl,rfl⟩
       rw[tj,pat9.1,tF (tu _)]
       refine YY ?_
       dsimp only[List.set]
       refine V5 (λc G=>c=b/\G=upd H' D (.lst (((toN ks k).map (WC zs)).map V.str)))
         (λσ' G=>σ'=[some (.ref d),some (.int mo),some (.int m),some (.ref lz),some (.int sh),some (.ref lp),some (.bl b),some (.ref lo),some (.ref lr),some (.int k),some (.ref D)]/\G=upd H' D (.lst ((Jj zs ks b k).2.map V.str)))
         (λQ k=>⟨_,rfl,b,rfl,k _ _ ⟨rfl,rfl⟩⟩) ?_ ?_ ?_
       . rintro H1 ⟨rfl,rfl⟩ D' kk
         refine⟨_,rfl,.inl ⟨rfl,_,.of qe⟩,D,_,rfl,rfl,qe,?_⟩
         refine kk _ _ ⟨rfl,?_⟩
         rw[jV,Jj,if_pos rfl,List.map_reverse]
       . rintro H1 ⟨rfl,rfl⟩
         exact⟨rfl,rfl⟩
       rintro σ' G ⟨rfl,rfl⟩
       have hlrG:upd H' D (.lst ((Jj zs ks b k).2.map V.str)) lr=some (.lst (qs.map V.ref)):=by rw[qi (Ne.symm nDr)];exact hlr9
       have sG:qr H' (upd H' D (.lst ((Jj zs ks b k).2.map V.str))):=qj hD
       refine⟨_,rfl,.inl ⟨rfl,_,.of hlrG⟩,_,rfl,_,rfl,lz,_,_,_,rfl,rfl,.of (sG _ _ hz9),KH (by rw[zl];exact hkm),_,rfl,D,_,rfl,.inl ⟨.of qe,λlq hq=>⟨by show 2<=sizeLine;decide,λlt hlt=>?_⟩⟩⟩
       have hqlr:=ql (o':=HO.tup ((Jj zs ks b k).2.map V.str)) hlrG hq
       have htlr:=ql (o':=HO.tup [V.str (WC zs k),V.ref lq]) hqlr hlt
       refine⟨lr,_,_,rfl,rfl,htlr,?_,_,_,qs++[lt],rfl,?_,?_,?_⟩
       . rw[tj,rat.1,tj,tT]
         refine qm ?_
         have:=ho.len
         omega
       . exact qr.upd (λa u h=>ql (ql (sG _ _ (s9 _ _ h)) hq) hlt) hlr
       . rw[tL]
         exact qe
       . have e:os.take (i+1)=os.take i++[k]:=by rw[tQ,hk];rfl
         rw[e,tL]
         refine jS.upd_lst ?_ htlr
         exact jS.snoc (q:=lq) (rat.mono λa u h=>ql (ql (sG _ _ h) hq) hlt) qe (ql qe hlt)
   . rintro σ' H' ⟨v9,v10,qs,rfl,s9,hlr9,rat⟩
     have e:(oL os).length=os.length:=tj ..
     rw[e,tF (tu _)]at rat
     have h8:H6 lr=none:=by
       cases z:H6 lr with
       | none=>rfl
       | some u=>rw[s8 _ _ z]at hlr;cases hlr
     refine⟨_,rfl,q lr qs _ n6 t6 H' (fr6.fresh hd6 h8) hlr9 rat (kL b zl zn znd kord klt k40 ho) ?_ ?_ (s9 _ _ (s8 _ _ hd6)) (fr6.same λa u h=>s9 _ _ (s8 _ _ h))⟩
     . rw[tj,ho.len];exact m0
     . rw[tj,ho.len];exact m1
end
open PySem L2 PyProof.Rows
abbrev Xo:Stmt:=top 18
abbrev Yv:Stmt:=top 19
abbrev UL:Stmt:=top 20
abbrev uw:Stmt:=top 21
abbrev UM:Stmt:=top 22
abbrev ux:Stmt:=top 23
abbrev WS:Stmt:=top 24
theorem wO (x:Str):[x].Nodup:=by simp
structure J7 (K:PySem.W.Frag) (mg:Str->Option Value):Prop where
 isi:mg "isinstance"=none
 str:mg "str"=none
 all:mg "all"=none
 enu:mg "enumerate"=none
 sum:mg "sum"=none
 lets:∃t,mg "LETTERS"=some (.str vw t)
 lgst:∃t,mg "LONGEST_NAME"=some (.int 8 t)
 mp:∃t,mg "MOST_PLACES"=some (.int 14 t)
 mr:∃t,mg "MOST_ROADS"=some (.int 40 t)
 kss:zao K (.type "str") (.type "str")=some true
 ktt:zao K (.type "tuple") (.type "tuple")=some true
 kll:zao K (.type "list") (.type "list")=some true
theorem R5 (c:Nat):(!(Builtin.Str.occurrences vw ⟨#[c]⟩ 0 vw.length 1).isEmpty)=j0 c:=by
 rw[StrLaws.found_one,wI]
 unfold j0
 rw[zaz]
 simp only[decide_eq_true_eq,zam,tE,zaP]
 constructor
 . rintro⟨k,hk,rfl⟩
   omega
 . intro h
   exact⟨c - 97,by omega,by omega⟩
theorem wH (f:Nat->Bool) (l:List Nat) (i c:Nat) (h:l[i]?=some c):(l.take i).map f++[f c]=(l.take (i+1)).map f:=by
 rw[tQ,h]
 simp
def uh:Sp:=λvs H Q _=>∃z,vs=[.str z]/\jc z=true/\∀H',qr H H'->Q (.bl true) H'
def NP:Sp:=λvs H Q _=>∃(q:Addr) (zs:List Str),vs=[.ref q]/\H q=some (.tup (zs.map V.str))/\(∀z∈zs,jc z=true)/\zs.length<=1000/\∀H',qr H H'->Q (.bl true) H'
def KN:Sp:=λvs H Q _=>∃(p q:Addr) (r:Str×List Str),vs=[.ref p]/\H p=some (.tup [.str r.1,.ref q])/\H q=some (.tup (r.2.map V.str))/\jc r.1=true/\(∀z∈r.2,jc z=true)/\r.2.length<=1000/\∀H',qr H H'->Q (.bl true) H'
structure jD (H:Hp) (l:Addr) (ps:List Addr) (rs:List (Str×List Str)):Prop where
 at_:H l=some (.lst (ps.map V.ref))
 rows:jS H ps rs
 good:qu rs
 pos:0 < rs.length
 le:rs.length<=14
theorem jD.mono {H H':Hp} {l:Addr} {ps:List Addr} {rs:List (Str×List Str)} (h:jD H l ps rs) (s:qr H H'):jD H' l ps rs:=⟨s _ _ h.at_,h.rows.mono s,h.good,h.pos,h.le⟩
theorem qu.names {rs:List (Str×List Str)} (h:qu rs):∀r∈rs,∀z∈r.2,jc z=true:=λr hr z hz=>by
 obtain⟨r',hr',rfl⟩:=tE.mp (h.to r hr z hz)
 exact h.nm r' hr'
theorem qu.len {rs:List (Str×List Str)} (h:qu rs):∀r∈rs,r.2.length<=40:=λr hr=>by
 refine tV ?_ h.few
 have:∀(rs:List (Str×List Str)),r∈rs->r.2.length<=(rs.map λr=>r.2.length).sum:=by
   intro rs
   induction rs with
   | nil=>intro h;cases h
   | cons a rs ih=>
     intro h
     rw[tP,zaW]
     rcases tR.mp h with rfl | h
     . omega
     . have:=ih h
       omega
 exact this rs hr
theorem jS.item {H:Hp} {ps:List Addr} {rs:List (Str×List Str)} (h:jS H ps rs) {i:Nat} {x:V} (hx:(ps.map V.ref)[i]?=some x):∃p q r,x=.ref p/\rs[i]?=some r/\r∈rs/\H p=some (.tup [.str r.1,.ref q])/\H q=some (.tup (r.2.map V.str)):=by
 rw[tH]at hx
 cases e:ps[i]? with
 | none=>rw[e]at hx;cases hx
 | some p=>
   rw[e]at hx
   have hi:i < rs.length:=by
     have:=(tw.mp e).1
     rw[h.1]at this
     exact this
   obtain⟨q,a,b⟩:=h.2 i p _ e (tz hi)
   exact⟨p,q,_,(tK.inj hx).symm,tz hi,zbW hi,a,b⟩
def zu:Sp:=λvs H Q _=>∃(l:Addr) (ps:List Addr) (rs:List (Str×List Str)),vs=[.ref l]/\jD H l ps rs/\∀H',qr H H'->Q .non H'
def KO:Sp:=λvs H Q _=>∃(l:Addr) (zs:List Str),vs=[.ref l]/\H l=some (.lst (zs.map V.str))/\zs.Nodup/\zs.length<=1000/\∀H',qr H H'->Q .non H'
def yu:Sp:=λvs H Q _=>∃(q l:Addr) (es zs:List Str),vs=[.ref q,.ref l]/\H q=some (.tup (es.map V.str))/\H l=some (.lst (zs.map V.str))/\es.Nodup/\(∀z∈es,z∈zs)/\es.length<=900/\∀H',qr H H'->Q .non H'
theorem QP {kvs:List (qI×V)} {k:qI} (h:¬k∈kvs.map (·.1)):qY kvs k=none:=by
 cases e:qY kvs k with
 | none=>rfl
 | some v=>exact absurd (ZN e) h
theorem XI (zs:List Str):(zs.map V.str).all Zu=true:=by
 rw[zbq,zav]
 intro z _
 rfl
theorem U6 {z:Str} {zs:List Str} (h:z∈zs):zQ (.str z) (zs.map V.str)=true:=by
 unfold zQ
 rw[zaO]
 exact⟨.str z,tE.mpr ⟨z,h,rfl⟩,by show (z==z)=true;simp⟩
section
variable {P:Program} {w:World} {K:PySem.W.Frag} {mg:Str->Option Value} {base:Heap}
theorem GK:qG ["thing"] ["thing"] (qo ZT):=⟨rfl,rfl,rfl,by decide+kernel,rfl,by decide+kernel,by decide+kernel⟩
theorem Wh {f:Addr} {fd:FuncData} (F:Qn K "is_name" "is_name" ZT f fd) (B:JH mg) (T:J7 K mg):qB P w K mg base q5 1 f fd ["thing"] uh:=by
 refine F.okJ GK (λvs H Q E h=>?_) (λcdv A outer s H vs Q E hr h=>?_)
 . obtain⟨x,rfl,_⟩:=h
   rfl
 . obtain⟨z,rfl,hz,q⟩:=h
   obtain⟨tl,hlets⟩:=T.lets
   obtain⟨tg,hlg⟩:=T.lgst
   refine⟨_,qg (qS (j1 (jF (qy Q7 (by rfl) T.isi boot_isinstance (qb (jv 0) (qb (j3 (v:=.ty "str") (by rfl) T.str boot_str rfl) qd))))) (qh (qA ja)) qF)
     (qg (qS (QU (qt Qb (qy Jx (by rfl) B.len boot_len (qb (jv 0) qd)) qf (qp _))
         (Qp (qt Xu (qy Jx (by rfl) B.len boot_len (qb (jv 0) qd)) (Zi (v:=.int 8) (by rfl) hlg ⟨_,rfl⟩) (qp _)))).pt (qh (qA ja)) qF)
     (qh (qA (qy (QO rfl) (by rfl) T.all boot_all (qb (Qt (N':=["sign"]) (ix:=[none]) rfl ⟨rfl,rfl,rfl,rfl,rfl⟩ (RU (jv 0)) (λC s2 H2 fp pins=>
       ⟨qv (i:=0) (wO _) rfl (Or.inl rfl),j9,qW vV (jv 0) (Zi (v:=.str vw) (by rfl) hlets ⟨_,rfl⟩) (by with_unfolding_all rfl)⟩)) qd))))),?_⟩
   have hn:=hz
   unfold jc at hn
   simp only[zam,decide_eq_true_eq]at hn
   obtain⟨⟨n1,n8⟩,na⟩:=hn
   have hz':z.length<=sizeLine:=zab (qm (by omega))
   refine⟨_,rfl,_,_,_,_,rfl,rfl,.str z,T.kss,_,rfl,jg ?_⟩
   refine⟨_,rfl,z,rfl,hz',_,_,rfl,rfl,_,rfl,?_⟩
   refine J2 (λh=>?_) (λh=>?_)
   . exact absurd (of_decide_eq_true h) (by omega)
   . refine⟨_,rfl,z,rfl,hz',_,_,rfl,rfl,_,rfl,?_⟩
     refine J2 (λh2=>?_) (λh2=>?_)
     . exact absurd (of_decide_eq_true h2) (by show ¬(8:Int) < (z.length:Int);omega)
     . refine⟨_,rfl,z,rfl,λD hD=>?_⟩
       refine Kv (λi σ' H'=>∃v,σ'=[v]/\H'=upd H D (.lst (((z.cps.toList.take i).map j0).map V.bl))) ⟨none,rfl,rfl⟩ ?_ ?_
       . rintro i c σ' H' hc ⟨v,rfl,rfl⟩
         refine⟨_,rfl,_,_,rfl,rfl,_,qe,?_,?_⟩
         . rw[tj,tj,tT]
           exact zaD (Nat.min_le_right _ _) (qm (show z.cps.toList.length<=1000 by rw[zag];exact tV n8 (by decide)))
         . refine⟨_,rfl,?_⟩
           rw[jV,R5]
           have hc':z.cps.toList[i]?=some c:=by simpa using hc
           rw[<-wH j0 z.cps.toList i c hc',tL]
           rfl
       . rintro σ' H' ⟨v,rfl,rfl⟩
         refine⟨D,_,rfl,.of qe,?_⟩
         have e0:z.cps.toList.take z.cps.size=z.cps.toList:=tF (by simp)
         have e1:(z.cps.toList.map j0).all id=true:=by rw[zbq];exact na
         rw[e0,e1]
         exact q _ (qj hD)
theorem GJ:qG ["thing"] ["thing"] (qo Xo):=⟨rfl,rfl,rfl,by decide+kernel,rfl,by decide+kernel,by decide+kernel⟩
theorem uI {f fN:Addr} {fd fdN:FuncData} (F:Qn K "is_tuple_of_names" "is_tuple_of_names" Xo f fd) (B:JH mg) (G:Je mg) (T:J7 K mg) (hN:jr K mg "is_name" ZT ["thing"] fN fdN):qB P w K mg base q5 2 f fd ["thing"] NP:=by
 have GN:qB P w K mg base q5 1 fN fdN ["thing"] uh:=Wh hN.fn B T
 refine F.okJ GJ (λvs H Q E h=>?_) (λcdv A outer s H vs Q E hr h=>?_)
 . obtain⟨x,zs,rfl,_⟩:=h
   rfl
 . obtain⟨x,zs,rfl,hx,hz,hl,q⟩:=h
   refine⟨_,qh (qA (jJ (qy Q7 (by rfl) T.isi boot_isinstance (qb (jv 0) (qb (j3 (v:=.ty "tuple") (by rfl) G.tup boot_tuple rfl) qd)))
     (Qj (qy (QO rfl) (by rfl) T.all boot_all (qb (Qt (N':=["part"]) (ix:=[none]) rfl ⟨rfl,rfl,rfl,rfl,rfl⟩ (Jd (jv 0)) (λC s2 H2 fp pins=>
       ⟨qv (i:=0) (wO _) rfl (Or.inl rfl),j9,qO hN GN hr (by rfl) (qb (jv 0) qd)⟩)) qd))))),?_⟩
   refine⟨_,rfl,_,_,_,_,rfl,rfl,.tup hx,T.ktt,_,rfl,jI ⟨_,rfl,x,rfl,⟨_,.of hx⟩,λD hD=>?_⟩⟩
   refine vo (K:=K) (a:=x) (xs:=zs.map V.str) (λi σ' H'=>∃v,σ'=[v]/\qr H H'/\H' D=some (.lst ((zcV i true).map V.bl))) ⟨none,rfl,qj hD,qe⟩ (λi σ' H' _ ⟨_,_,s,_⟩=>.of (s _ _ hx)) ?_ ?_
   . rintro i y σ' H' hy ⟨v,rfl,s1,hD1⟩
     rw[tH]at hy
     cases e:zs[i]? with
     | none=>rw[e]at hy;cases hy
     | some z=>
       rw[e]at hy
       obtain rfl:=(tK.inj hy).symm
       have hi:=(tw.mp e).1
       refine⟨_,rfl,z,rfl,hz z (tY e),λH2 s2=>⟨_,s2 _ _ hD1,?_,_,rfl,?_,?_⟩⟩
       . rw[tj,zcO]
         exact qm (by omega)
       . exact qr.upd (s1.trans s2) hD
       . rw[qe,List.replicate_succ',tL]
         rfl
   . rintro σ' H' ⟨v,rfl,s1,hD1⟩
     refine⟨D,_,rfl,.of hD1,?_⟩
     have e:(zcV (zs.map V.str).length true).all id=true:=by simp
     rw[e]
     exact q _ s1
theorem uq:qG ["thing"] ["thing"] (qo Yv):=⟨rfl,rfl,rfl,by decide+kernel,rfl,by decide+kernel,by decide+kernel⟩
theorem xt {f fN fP:Addr} {fd fdN fdP:FuncData} (F:Qn K "is_row" "is_row" Yv f fd) (B:JH mg) (G:Je mg) (T:J7 K mg) (hN:jr K mg "is_name" ZT ["thing"] fN fdN) (hP:jr K mg "is_tuple_of_names" Xo ["thing"] fP fdP):qB P w K mg base q5 3 f fd ["thing"] KN:=by
 have GN:qB P w K mg base q5 1 fN fdN ["thing"] uh:=Wh hN.fn B T
 have GP:qB P w K mg base q5 2 fP fdP ["thing"] NP:=uI hP.fn B G T hN
 refine F.okJ uq (λvs H Q E h=>?_) (λcdv A outer s H vs Q E hr h=>?_)
 . obtain⟨p,x,r,rfl,_⟩:=h
   rfl
 . obtain⟨p,x,r,rfl,hp,hx,hn,hz,hl,q⟩:=h
   refine⟨_,qg (qS (QU (j1 (jF (qy Q7 (by rfl) T.isi boot_isinstance (qb (jv 0) (qb (j3 (v:=.ty "tuple") (by rfl) G.tup boot_tuple rfl) qd)))))
       (Qp (qt WZ (qy qU (by rfl) B.len boot_len (qb (jv 0) qd)) qf (qp _)))).pt Qa qF)
     (qh (qA (jJ (qO hN GN (hr.mono (by decide)) (by rfl) (qb (qD qw (jv 0) qf (λ_ _=>rfl)) qd)) (Qj (qO hP GP hr (by rfl) (qb (qD qw (jv 0) qf (λ_ _=>rfl)) qd)))))),?_⟩
   refine⟨_,rfl,_,_,_,_,rfl,rfl,.tup hp,T.ktt,_,rfl,jg ⟨_,rfl,p,_,rfl,.inr (.of hp),rfl,_,rfl,jg ?_⟩⟩
   refine⟨_,rfl,p,_,0,_,rfl,rfl,.of hp,rfl,r.1,rfl,hn,λH1 s1=>⟨_,rfl,jI ?_⟩⟩
   exact⟨_,rfl,p,_,1,_,rfl,rfl,.of (s1 _ _ hp),rfl,x,r.2,rfl,s1 _ _ hx,hz,hl,λH2 s2=>q H2 (s1.trans s2)⟩
end
open PySem L2 PyProof.Rows
section
variable {P:Program} {w:World} {K:PySem.W.Frag} {mg:Str->Option Value} {base:Heap}
abbrev Mc:List Str:=["rows","number","row"]
theorem VH:qG Mc ["rows"] (qo UL):=⟨rfl,rfl,rfl,by decide+kernel,rfl,by decide+kernel,by decide+kernel⟩
theorem uP {f fN fP fR:Addr} {fd fdN fdP fdR:FuncData} (F:Qn K "need_form" "need_form" UL f fd) (B:JH mg) (G:Je mg) (T:J7 K mg) (hN:jr K mg "is_name" ZT ["thing"] fN fdN) (hP:jr K mg "is_tuple_of_names" Xo ["thing"] fP fdP)
   (hR:jr K mg "is_row" Yv ["thing"] fR fdR):qB P w K mg base q5 4 f fd ["rows"] zu:=by
 have GR:qB P w K mg base q5 3 fR fdR ["thing"] KN:=xt hR.fn B G T hN hP
 obtain⟨tm,hmp⟩:=T.mp
 refine F.okJ VH (λvs H Q E h=>?_) (λcdv A outer s H vs Q E hr h=>?_)
 . obtain⟨l,ps,rs,rfl,_⟩:=h
   rfl
 . obtain⟨l,ps,rs,rfl,g,q⟩:=h
   refine⟨_,qg (qS (QU (j1 (jF (qy Q7 (by rfl) T.isi boot_isinstance (qb (jv 0) (qb (j3 (v:=.ty "list") (by rfl) G.lst boot_list rfl) qd)))))
       (Qp (qt jo (qy qU (by rfl) B.len boot_len (qb (jv 0) qd)) qf (qp _)))).pt Qa qF)
     (qg (qS (qt Xu (qy qU (by rfl) B.len boot_len (qb (jv 0) qd)) (Zi (v:=.int 14) (by rfl) hmp ⟨_,rfl⟩) (qp _)) Qa qF)
     (qh (jp PassesOwn.never rfl (Kc (by rfl) T.enu (qb (jv 0) qd)) (YT rfl (jw (qv (i:=1) VH.nd rfl (Or.inl rfl)) (jw (qv (i:=2) VH.nd rfl (Or.inl rfl)) Ju)))
       (qh (qS (j1 (jF (qO hR GR hr (by rfl) (qb (jv 2) qd)))) Qa qF))))),?_⟩
   have lp:(ps.map V.ref).length=rs.length:=by rw[tj,g.rows.1]
   refine⟨_,rfl,_,_,_,_,rfl,rfl,.lst g.at_,T.kll,_,rfl,jg ⟨_,rfl,l,_,rfl,.inl (.of g.at_),rfl,_,rfl,?_⟩⟩
   have e0:decide (V.int (((ps.map V.ref).length:Nat):Int)=V.int 0)=false:=decide_eq_false (by
     intro z
     have:=V.int.inj z
     have:=g.pos
     omega)
   rw[e0]
   refine jg ⟨_,rfl,l,_,rfl,.inl (.of g.at_),_,_,rfl,rfl,_,rfl,?_⟩
   have e1:decide ((14:Int) < (((ps.map V.ref).length:Nat):Int))=false:=decide_eq_false (by
     have:=g.le
     omega)
   refine J2 (λz=>absurd z (by rw[e1];decide)) (λ_=>?_)
   refine⟨_,rfl,l,rfl,⟨_,.of g.at_⟩,?_⟩
   refine ww (K:=K) (a:=l) (xs:=ps.map V.ref) (λi σ' H'=>∃v1 v2,σ'=[some (.ref l),v1,v2]/\qr H H') ⟨none,none,rfl,qr.refl H⟩ (λi σ' H' _ ⟨_,_,_,s⟩=>.of (s _ _ g.at_)) ?_ ?_
   . rintro i x σ' H' p hx hp ⟨v1,v2,rfl,s1⟩
     have g1:=g.mono (s1.trans (qj (o:=.tup [.int (i:Nat),x]) hp))
     obtain⟨p',q',r,rfl,_,hr',a,b⟩:=g1.rows.item hx
     refine⟨p,_,rfl,.of qe,rfl,_,_,rfl,_,_,rfl,rfl,_,rfl,p',q',r,rfl,a,b,g.good.nm r hr',g.good.names r hr',tV (g.good.len r hr') (by decide),λH2 s2=>⟨_,rfl,jg ⟨_,_,rfl,?_⟩⟩⟩
     exact(s1.trans (qj hp)).trans s2
   . rintro σ' H' ⟨v1,v2,rfl,s1⟩
     exact q H' s1
abbrev qav:List Str:=["order","ahead","name"]
theorem yD:qG qav ["order"] (qo uw):=⟨rfl,rfl,rfl,by decide+kernel,rfl,by decide+kernel,by decide+kernel⟩
theorem Qw {zs:List Str} (hn:zs.Nodup) {i:Nat} {z:Str} (e:zs[i]?=some z):¬(Sum.inr z:qI)∈(zs.take i).map Sum.inr:=λh=>by
 obtain⟨y,hy,ey⟩:=tE.mp h
 have ey':y=z:=Sum.inr.inj ey
 subst ey'
 obtain⟨j,hj⟩:=zbZ hy
 have hj1:=(tw.mp hj).1
 rw[tT]at hj1
 have hji:j < i:=by omega
 rw[zbG hji]at hj
 have h1:=(tw.mp hj)
 have h2:=(tw.mp e)
 exact absurd (h1.2.trans h2.2.symm) (zaS.mp hn j i h1.1 h2.1 hji)
theorem We {kvs:List (qI×V)} {k:qI} (v:V) (h:qY kvs k=none):(jm kvs k v).map (·.1)=kvs.map (·.1)++[k]:=by
 rw[QC v h,tL]
 rfl
theorem Rv {f:Addr} {fd:FuncData} (F:Qn K "need_own_names" "need_own_names" uw f fd):qB P w K mg base q5 1 f fd ["order"] KO:=by
 refine F.okJ yD (λvs H Q E h=>?_) (λcdv A outer s H vs Q E hr h=>?_)
 . obtain⟨l,zs,rfl,_⟩:=h
   rfl
 . obtain⟨l,zs,rfl,hl,hn,hz,q⟩:=h
   have hu:=jQ hr
   refine⟨_,qg (qz (i:=1) yD.nd rfl (Or.inl rfl) Qc)
     (qh (jp PassesOwn.never rfl (jl (jv 0)) (qv (i:=2) yD.nd rfl (Or.inl rfl))
       (qg (qS (Jc (ZC hu (jv 2) (jv 1))) Qa qF) (qh (jL hu (jv 1) (jv 2) ja rfl))))),?_⟩
   intro D hD
   refine⟨_,rfl,l,rfl,⟨_,.of (ql hl hD)⟩,?_⟩
   refine j7 (K:=K) (a:=l) (xs:=zs.map V.str) (λi σ' H'=>∃v kvs,σ'=[some (.ref l),some (.ref D),v]/\qr H H'/\H' D=some (.dK kvs)/\kvs.map (·.1)=(zs.take i).map Sum.inr) ⟨none,[],rfl,qj hD,qe,rfl⟩ (λi σ' H' _ ⟨_,_,_,s,_⟩=>.of (s _ _ hl)) ?_ ?_
   . rintro i x σ' H' hx ⟨v,kvs,rfl,s1,hD1,ek⟩
     rw[tH]at hx
     cases e:zs[i]? with
     | none=>rw[e]at hx;cases hx
     | some z=>
       rw[e]at hx
       obtain rfl:=(tK.inj hx).symm
       have hi:=(tw.mp e).1
       have ez:qY kvs (Sum.inr z:qI)=none:=QP (by rw[ek];exact Qw hn e)
       have gz:j8 H' D (.str z) none:=by
         have:=j8.k (k:=(Sum.inr z:qI)) hD1
         rw[ez]at this
         exact this
       have lk:kvs.length < sizeLine:=by
         have:=congrArg zax ek
         rw[tj,tj,tT]at this
         exact qm (by omega)
       refine⟨_,rfl,_,rfl,D,none,rfl,gz,_,rfl,jg ?_⟩
       refine⟨_,rfl,_,rfl,D,_,rfl,QE.k (k:=(Sum.inr z:qI)) hD1 lk,_,_,rfl,qr.upd s1 hD,qe,?_⟩
       rw[We _ ez,ek,tQ,e,tL]
       rfl
   . rintro σ' H' ⟨v,kvs,rfl,s1,_⟩
     exact q H' s1
abbrev Md:List Str:=["ends","order","ahead","name"]
theorem VI:qG Md ["ends","order"] (qo UM):=⟨rfl,rfl,rfl,by decide+kernel,rfl,by decide+kernel,by decide+kernel⟩
theorem uQ {f:Addr} {fd:FuncData} (F:Qn K "need_ends" "need_ends" UM f fd):qB P w K mg base q5 1 f fd ["ends","order"] yu:=by
 refine F.okJ VI (λvs H Q E h=>?_) (λcdv A outer s H vs Q E hr h=>?_)
 . obtain⟨x,l,es,zs,rfl,_⟩:=h
   rfl
 . obtain⟨x,l,es,zs,rfl,hx,hl,hn,hin,hz,q⟩:=h
   have hu:=jQ hr
   refine⟨_,qg (qz (i:=2) VI.nd rfl (Or.inl rfl) Qc)
     (qh (jp PassesOwn.never rfl (Jd (jv 0)) (qv (i:=3) VI.nd rfl (Or.inl rfl))
       (qg (qS (qt Jq (jv 3) (jv 1) (by with_unfolding_all rfl)) Qa qF)
       (qg (qS (Jc (ZC hu (jv 3) (jv 2))) Qa qF) (qh (jL hu (jv 2) (jv 3) ja rfl)))))),?_⟩
   intro D hD
   refine⟨_,rfl,x,rfl,⟨_,.of (ql hx hD)⟩,?_⟩
   refine Z8 (K:=K) (a:=x) (xs:=es.map V.str) (λi σ' H'=>∃v kvs,σ'=[some (.ref x),some (.ref l),some (.ref D),v]/\qr H H'/\H' D=some (.dK kvs)/\kvs.map (·.1)=(es.take i).map Sum.inr) ⟨none,[],rfl,qj hD,qe,rfl⟩ (λi σ' H' _ ⟨_,_,_,s,_⟩=>.of (s _ _ hx)) ?_ ?_
   . rintro i y σ' H' hy ⟨v,kvs,rfl,s1,hD1,ek⟩
     rw[tH]at hy
     cases e:es[i]? with
     | none=>rw[e]at hy;cases hy
     | some z=>
       rw[e]at hy
       obtain rfl:=(tK.inj hy).symm
       have hi:=(tw.mp e).1
       have ez:qY kvs (Sum.inr z:qI)=none:=QP (by rw[ek];exact Qw hn e)
       have gz:j8 H' D (.str z) none:=by
         have:=j8.k (k:=(Sum.inr z:qI)) hD1
         rw[ez]at this
         exact this
       have lk:kvs.length < sizeLine:=by
         have:=congrArg zax ek
         rw[tj,tj,tT]at this
         exact qm (by omega)
       refine⟨_,rfl,_,rfl,l,_,rfl,.inl (.of (s1 _ _ hl)),rfl,XI zs,_,rfl,?_⟩
       rw[U6 (hin z (tY e))]
       refine jg ⟨_,rfl,_,rfl,D,none,rfl,gz,_,rfl,jg ?_⟩
       refine⟨_,rfl,_,rfl,D,_,rfl,QE.k (k:=(Sum.inr z:qI)) hD1 lk,_,_,rfl,qr.upd s1 hD,qe,?_⟩
       rw[We _ ez,ek,tQ,e,tL]
       rfl
   . rintro σ' H' ⟨v,kvs,rfl,s1,_⟩
     exact q H' s1
abbrev qaA:List Str:=["rows","many"]
theorem KY:qG qaA ["rows"] (qo ux):=⟨rfl,rfl,rfl,by decide+kernel,rfl,by decide+kernel,by decide+kernel⟩
theorem Rz {f:Addr} {fd:FuncData} (F:Qn K "need_few_roads" "need_few_roads" ux f fd) (B:JH mg) (T:J7 K mg):qB P w K mg base q5 1 f fd ["rows"] zu:=by
 obtain⟨tm,hmr⟩:=T.mr
 refine F.okJ KY (λvs H Q E h=>?_) (λcdv A outer s H vs Q E hr h=>?_)
 . obtain⟨l,ps,rs,rfl,_⟩:=h
   rfl
 . obtain⟨l,ps,rs,rfl,g,q⟩:=h
   refine⟨_,qg (qz (i:=1) KY.nd rfl (Or.inl rfl) (qy (kU rfl) (by rfl) T.sum boot_sum (qb (Qt (N':=["row"]) (ix:=[none]) (te:=Nt (λxs H Q=>∃p ys,xs=[.ref p]/\(SqL K H p ys\/SqT K H p ys)/\Q (.int ys.length) H) (qM (Jf (JQ K) (qN 0) (tC (.int 1))) jT)) rfl ⟨rfl,rfl,rfl,rfl,rfl⟩ (jl (jv 0)) (λC s2 H2 fp pins=>
       ⟨qv (i:=0) (wO _) rfl (Or.inl rfl),j9,qy qU (by rfl) B.len boot_len (qb (qD qw (jv 0) qf (λ_ _=>rfl)) qd)⟩)) qd)))
     (qh (qS (qt Xu (jv 1) (Zi (v:=.int 40) (by rfl) hmr ⟨_,rfl⟩) (qp _)) Qa qF)),?_⟩
   refine⟨_,rfl,l,rfl,⟨_,.of g.at_⟩,λD hD=>?_⟩
   refine QX (K:=K) (a:=l) (xs:=ps.map V.ref) (λi σ' H'=>∃v,σ'=[v]/\H'=upd H D (.lst (((rs.take i).map λr=>r.2.length).map λn=>V.int ((n:Nat):Int)))) ⟨none,rfl,rfl⟩ (λi σ' H' _ ⟨_,_,e⟩=>e▸.of (ql g.at_ hD)) ?_ ?_
   . rintro i x σ' H' hx ⟨v,rfl,rfl⟩
     obtain⟨p',q',r,rfl,er,hr',a,b⟩:=g.rows.item hx
     have hi:=(tw.mp er).1
     refine⟨_,rfl,p',_,1,_,rfl,rfl,.of (ql a hD),rfl,q',_,rfl,.inr (.of (ql b hD)),_,qe,?_,_,rfl,?_⟩
     . rw[tj,tj,tT]
       have:=g.le
       exact qm (by omega)
     . rw[jV,tQ,er,tL,tL,tj]
       rfl
   . rintro σ' H' ⟨v,rfl,rfl⟩
     have e:rs.take (ps.map V.ref).length=rs:=tF (by rw[tj,g.rows.1];exact tu _)
     rw[e]
     refine⟨D,_,rfl,.of qe,zaD g.good.few (by decide),?_⟩
     refine⟨_,rfl,_,_,rfl,rfl,_,rfl,?_⟩
     have:=g.good.few
     refine J2 (λz=>absurd (of_decide_eq_true z) ?_) (λ_=>q _ (qj hD))
     show ¬(40:Int) < _
     omega
abbrev Mb:List Str:=["rows","order","row"]
theorem VG:qG Mb ["rows"] (qo WS):=⟨rfl,rfl,rfl,by decide+kernel,rfl,by decide+kernel,by decide+kernel⟩
structure KG (K:PySem.W.Frag) (mg:Str->Option Value):Prop where
 nm:∃f fd,jr K mg "is_name" ZT ["thing"] f fd
 tn:∃f fd,jr K mg "is_tuple_of_names" Xo ["thing"] f fd
 rw:∃f fd,jr K mg "is_row" Yv ["thing"] f fd
 fo:∃f fd,jr K mg "need_form" UL ["rows"] f fd
 ow:∃f fd,jr K mg "need_own_names" uw ["order"] f fd
 en:∃f fd,jr K mg "need_ends" UM ["ends","order"] f fd
 fw:∃f fd,jr K mg "need_few_roads" ux ["rows"] f fd
theorem uL {f:Addr} {fd:FuncData} (F:Qn K "need_rows" "need_rows" WS f fd) (B:JH mg) (G:Je mg) (T:J7 K mg) (N:KG K mg):qB P w K mg base q5 5 f fd ["rows"] zu:=by
 obtain⟨fN,fdN,hN⟩:=N.nm
 obtain⟨fP,fdP,hP⟩:=N.tn
 obtain⟨fR,fdR,hR⟩:=N.rw
 obtain⟨fF,fdF,hF⟩:=N.fo
 obtain⟨fO,fdO,hO⟩:=N.ow
 obtain⟨fE,fdE,hE⟩:=N.en
 obtain⟨fW,fdW,hW⟩:=N.fw
 have GF:qB P w K mg base q5 4 fF fdF ["rows"] zu:=uP hF.fn B G T hN hP hR
 have GO:qB P w K mg base q5 1 fO fdO ["order"] KO:=Rv hO.fn
 have GE:qB P w K mg base q5 1 fE fdE ["ends","order"] yu:=uQ hE.fn
 have GW:qB P w K mg base q5 1 fW fdW ["rows"] zu:=Rz hW.fn B T
 refine F.okJ VG (λvs H Q E h=>?_) (λcdv A outer s H vs Q E hr h=>?_)
 . obtain⟨l,ps,rs,rfl,_⟩:=h
   rfl
 . obtain⟨l,ps,rs,rfl,g,q⟩:=h
   refine⟨_,qg (jO (qO hF GF hr (by rfl) (qb (jv 0) qd)))
     (qg (Jm (i:=1) (N':=["row"]) (ix:=[none]) (te:=Jf (JQ K) (qN 0) (tC (.int 0))) VG.nd rfl (Or.inl rfl) rfl ⟨rfl,rfl,rfl,rfl,rfl⟩ (jl (jv 0)) (λC s2 H2 fp pins=>
       ⟨qv (i:=0) (wO _) rfl (Or.inl rfl),j9,qD qw (jv 0) qf (λ_ _=>rfl)⟩))
     (qg (jO (qO hO GO (hr.mono (by decide)) (by rfl) (qb (jv 1) qd)))
     (qg (jp PassesOwn.never rfl (jl (jv 0)) (qv (i:=2) VG.nd rfl (Or.inl rfl))
       (qh (jO (qO hE GE (hr.mono (by decide)) (by rfl) (qb (qD qw (jv 2) qf (λ_ _=>rfl)) (qb (jv 1) qd))))))
     (qh (jO (qO hW GW (hr.mono (by decide)) (by rfl) (qb (jv 0) qd))))))),?_⟩
   refine⟨_,rfl,l,ps,rs,rfl,g,λH1 s1=>?_⟩
   have g1:=g.mono s1
   refine⟨_,rfl,l,rfl,⟨_,.of g1.at_⟩,λD hD=>?_⟩
   refine QX (K:=K) (a:=l) (xs:=ps.map V.ref) (λi σ' H'=>∃v,σ'=[v]/\H'=upd H1 D (.lst (((rs.take i).map (·.1)).map V.str))) ⟨none,rfl,rfl⟩ (λi σ' H' _ ⟨_,_,e⟩=>e▸.of (ql g1.at_ hD)) ?_ ?_
   . rintro i x σ' H' hx ⟨v,rfl,rfl⟩
     obtain⟨p',q',r,rfl,er,hr',a,b⟩:=g1.rows.item hx
     have hi:=(tw.mp er).1
     refine⟨_,rfl,p',_,0,_,rfl,rfl,.of (ql a hD),rfl,_,qe,?_,_,rfl,?_⟩
     . rw[tj,tj,tT]
       have:=g.le
       exact qm (by omega)
     . rw[jV,tQ,er,tL,tL]
       rfl
   . rintro σ' H' ⟨v,rfl,rfl⟩
     have e:rs.take (ps.map V.ref).length=rs:=tF (by rw[tj,g.rows.1];exact tu _)
     rw[e]
     refine⟨_,rfl,D,rs.map (·.1),rfl,qe,g.good.nd,by rw[tj];have:=g.le;omega,λH2 s2=>?_⟩
     have sD:qr H1 H2:=(qj hD).trans s2
     have hD2:H2 D=some (.lst ((rs.map (·.1)).map V.str)):=s2 _ _ qe
     have g2:=g1.mono sD
     refine⟨_,rfl,l,rfl,⟨_,.of g2.at_⟩,?_⟩
     refine j7 (K:=K) (a:=l) (xs:=ps.map V.ref) (λi σ' H'=>∃v,σ'=[some (.ref l),some (.ref D),v]/\qr H2 H') ⟨none,rfl,qr.refl H2⟩ (λi σ' H' _ ⟨_,_,s⟩=>.of (s _ _ g2.at_)) ?_ ?_
     . rintro i x σ' H' hx ⟨v,rfl,s3⟩
       obtain⟨p',q',r,rfl,er,hr',a,b⟩:=(g2.mono s3).rows.item hx
       refine⟨_,rfl,p',_,1,_,rfl,rfl,.of a,rfl,_,rfl,q',D,r.2,rs.map (·.1),rfl,b,s3 _ _ hD2,g.good.rd r hr',g.good.to r hr',tV (g.good.len r hr') (by decide),λH4 s4=>⟨_,rfl,s3.trans s4⟩⟩
     . rintro σ' H' ⟨v,rfl,s3⟩
       exact⟨_,rfl,l,ps,rs,rfl,g2.mono s3,λH4 s4=>q H4 (((s1.trans sD).trans s3).trans s4)⟩
end
open PySem L2 PyProof.Rows
abbrev VJ:Stmt:=Wq (top 25) 0
abbrev Z1:Stmt:=Wq (top 25) 1
abbrev Yy:Stmt:=Wq (top 25) 2
def jU (rs:List (Str×List Str)) (r:Str×List Str):List Str:=(rs.map (·.1)).filter λz=>zQ (.str z) (r.2.map V.str)
def Q0 (CG:Addr) (H:Hp) (a:Addr) (rs:List (Str×List Str)):Prop:=∃(dx lo rd:Addr) (kvs:List (qI×V)),H a=some (.ins CG dx [("order",.ref lo),("roads",.ref rd)])/\H lo=some (.lst ((rs.map (·.1)).map V.str))/\H rd=some (.dK kvs)/\
 ∀r∈rs,∃q,qY kvs (Sum.inr r.1)=some (.ref q)/\H q=some (.lst ((jU rs r).map V.str))
theorem Q0.mono {CG:Addr} {H H':Hp} {a:Addr} {rs:List (Str×List Str)} (h:Q0 CG H a rs) (s:qr H H'):Q0 CG H' a rs:=by
 obtain⟨dx,lo,rd,kvs,h1,h2,h3,h4⟩:=h
 exact⟨dx,lo,rd,kvs,s _ _ h1,s _ _ h2,s _ _ h3,λr hr=>let ⟨q,a,b⟩:=h4 r hr;⟨q,a,s _ _ b⟩⟩
theorem jD.fr {H H':Hp} {l x C dx:Addr} {fs:List (Str×V)} {ps:List Addr} {rs:List (Str×List Str)} (h:jD H l ps rs) (hx:H x=some (.ins C dx fs)) (s:Fr H x H'):jD H' l ps rs:=by
 refine⟨s _ _ h.at_ (λe=>?_),⟨h.rows.1,λi p r e1 e2=>?_⟩,h.good,h.pos,h.le⟩
 . have:=h.at_
   rw[e,hx]at this
   cases this
 . obtain⟨q,a,b⟩:=h.rows.2 i p r e1 e2
   exact⟨q,s _ _ a (λe=>by rw[e,hx]at a;cases a),s _ _ b (λe=>by rw[e,hx]at b;cases b)⟩
structure MS (K:PySem.W.Frag) (mg:Str->Option Value) (CG f:Addr) (fd:FuncData):Prop where
 cl:Ur K CG
 mkr:Mk K CG f
 ns:mg "Ground"=some (.ref CG)
 no:J6 K CG "order"
 nr:J6 K CG "roads"
 fn:Qn K "__init__" "Ground.__init__" VJ f fd
 bi:QY K fd ["self","rows"] []
theorem nor:¬(Str.ofString "order")=Str.ofString "roads":=by decide+kernel
theorem qap (v:V):Jp (Str.ofString "order") v []=[(Str.ofString "order",v)]:=rfl
theorem qao (v u:V):Jp (Str.ofString "roads") u [(Str.ofString "order",v)]=[(Str.ofString "order",v),(Str.ofString "roads",u)]:=by
 unfold Jp
 rw[if_neg nor]
 rfl
theorem lkO (v u:V):([(Str.ofString "order",v),(Str.ofString "roads",u)]:List (Str×V)).lookup (Str.ofString "order")=some v:=by simp [zbe]
theorem lkR (v u:V):([(Str.ofString "order",v),(Str.ofString "roads",u)]:List (Str×V)).lookup (Str.ofString "roads")=some u:=by
 have e:((Str.ofString "roads")==(Str.ofString "order"))=false:=by decide+kernel
 simp [zbe,e]
def z6 (CG:Addr):Sp:=λvs H Q _=>∃(x dx l:Addr) (ps:List Addr) (rs:List (Str×List Str)),vs=[.ref x,.ref l]/\jD H l ps rs/\H x=some (.ins CG dx [])/\∀H',Q0 CG H' x rs->Fr H x H'->Q .non H'
def Ym (CG:Addr):Sp:=λvs H Q _=>∃(a:Addr) (rs:List (Str×List Str)),vs=[.ref a]/\Q0 CG H a rs/\∀l,H l=none->Q (.ref l) (upd H l (.lst ((rs.map (·.1)).map V.str)))
def ZR (CG:Addr):Sp:=λvs H Q _=>∃(a:Addr) (rs:List (Str×List Str)) (r:Str×List Str),vs=[.ref a,.str r.1]/\Q0 CG H a rs/\r∈rs/\jc r.1=true/\∀H1 l,qr H H1->H1 l=none->Q (.ref l) (upd H1 l (.lst ((jU rs r).map V.str)))
section
variable {P:Program} {w:World} {K:PySem.W.Frag} {mg:Str->Option Value} {base:Heap}
abbrev nGI:List Str:=["self","rows","row"]
theorem NV:qG nGI ["self","rows"] (qo VJ):=⟨rfl,rfl,rfl,by decide+kernel,rfl,by decide+kernel,by decide+kernel⟩
theorem xv {f fW CG:Addr} {fd fdW:FuncData} (C:MS K mg CG f fd) (B:JH mg) (G:Je mg) (T:J7 K mg) (N:KG K mg) (hW:jr K mg "need_rows" WS ["rows"] fW fdW):qB P w K mg base q5 6 f fd ["self","rows"] (z6 CG):=by
 have GW:qB P w K mg base q5 5 fW fdW ["rows"] zu:=uL hW.fn B G T N
 refine C.fn.okJ NV (λvs H Q E h=>?_) (λcdv A outer s H vs Q E hr h=>?_)
 . obtain⟨x,dx,l,ps,rs,rfl,_⟩:=h
   rfl
 . obtain⟨x,dx,l,ps,rs,rfl,g,hx,q⟩:=h
   have hu:=jQ hr
   refine⟨_,qg (jO (qO hW GW hr (by rfl) (qb (jv 1) qd)))
     (qg (xY (jv 0) (Qt (N':=["row"]) (ix:=[none]) (te:=Jf (JQ K) (qN 0) (tC (.int 0))) rfl ⟨rfl,rfl,rfl,rfl,rfl⟩ (jl (jv 1)) (λC s2 H2 fp pins=>
       ⟨qv (i:=0) (wO _) rfl (Or.inl rfl),j9,qD qw (jv 0) qf (λ_ _=>rfl)⟩)) rfl)
     (qg (xY (jv 0) Qc rfl)
     (qh (jp PassesOwn.never rfl (jl (jv 1)) (qv (i:=2) NV.nd rfl (Or.inr rfl))
       (qh (jL hu (YV (jv 0) rfl) (qD qw (jv 2) qf (λ_ _=>rfl))
         (Qt (N':=["name","row"]) (ix:=[none,some 2]) (tt:=Yi (Jf (MX K false) (qN 0) (Jf (JQ K) (qN 1) (tC (.int 1))))) rfl ⟨rfl,rfl,rfl,rfl,rfl⟩ (jl (YV (jv 0) rfl)) (λC s2 H2 fp pins=>
           ⟨qv (i:=0) (show (["name","row"]:List Str).Nodup by decide+kernel) rfl (Or.inl rfl),Qq (qt zB (jv 0) (qD qw (jv 1) qf (λ_ _=>rfl)) (by with_unfolding_all rfl)),jv 0⟩)) rfl)))))),?_⟩
   refine⟨_,rfl,l,ps,rs,rfl,g,λH1 s1=>?_⟩
   have g1:=g.mono s1
   have fr1:Fr H x H1:=λb u h _=>s1 _ _ h
   have hx1:=s1 _ _ hx
   refine⟨_,rfl,l,rfl,⟨_,.of g1.at_⟩,λlo hlo=>?_⟩
   have nlx:lo≠x:=λe=>by rw[e,hx1]at hlo;cases hlo
   refine QX (K:=K) (a:=l) (xs:=ps.map V.ref) (λi σ' H'=>∃v,σ'=[v]/\H'=upd H1 lo (.lst (((rs.take i).map (·.1)).map V.str))) ⟨none,rfl,rfl⟩ (λi σ' H' _ ⟨_,_,e⟩=>e▸.of (ql g1.at_ hlo)) ?_ ?_
   . rintro i y σ' H' hy ⟨v,rfl,rfl⟩
     obtain⟨p',q',r,rfl,er,hr',a,b⟩:=g1.rows.item hy
     have hi:=(tw.mp er).1
     refine⟨_,rfl,p',_,0,_,rfl,rfl,.of (ql a hlo),rfl,_,qe,?_,_,rfl,?_⟩
     . rw[tj,tj,tT]
       have:=g.le
       exact qm (by omega)
     . rw[jV,tQ,er,tL,tL]
       rfl
   rintro σ' H' ⟨v,rfl,rfl⟩
   have e:rs.take (ps.map V.ref).length=rs:=tF (by rw[tj,g.rows.1];exact tu _)
   rw[e]
   have fr2:Fr H x (upd H1 lo (.lst ((rs.map (·.1)).map V.str))):=fr1.new hlo
   have hlo2:upd H1 lo (.lst ((rs.map (·.1)).map V.str)) lo=some (.lst ((rs.map (·.1)).map V.str)):=qe
   have hx2:upd H1 lo (.lst ((rs.map (·.1)).map V.str)) x=some (.ins CG dx []):=ql hx1 hlo
   generalize upd H1 lo (.lst ((rs.map (·.1)).map V.str))=H2 at fr2 hlo2 hx2
   refine⟨_,rfl,x,CG,dx,[],rfl,hx2,C.cl,C.no,by decide,?_⟩
   rw[qap]
   intro rd hrd
   have nrx:rd≠x:=λe=>by rw[e,qe]at hrd;cases hrd
   have hrd2:H2 rd=none:=by rw[qi nrx]at hrd;exact hrd
   have nrl:rd≠lo:=λe=>by rw[e,hlo2]at hrd2;cases hrd2
   have hHr:H rd=none:=fr2.fresh hx2 hrd2
   refine⟨_,rfl,x,CG,dx,_,rfl,ql qe hrd,C.cl,C.nr,by show 1 < 1000;decide,?_⟩
   rw[qao]
   have fr5:Fr H x (upd (upd (upd H2 x (.ins CG dx [("order",.ref lo)])) rd (.dK [])) x (.ins CG dx [("order",.ref lo),("roads",.ref rd)])):=((fr2.at_d).own hHr).at_d
   have g5:=g.fr hx fr5
   refine⟨_,rfl,l,rfl,⟨_,.of g5.at_⟩,?_⟩
   refine j7 (K:=K) (a:=l) (xs:=ps.map V.ref) (λi σ' H'=>∃v kvs,σ'=[some (.ref x),some (.ref l),v]/\H' x=some (.ins CG dx [("order",.ref lo),("roads",.ref rd)])/\H' lo=some (.lst ((rs.map (·.1)).map V.str))/\H' rd=some (.dK kvs)/\
     kvs.map (·.1)=((rs.map (·.1)).take i).map Sum.inr/\(∀r∈rs.take i,∃q,qY kvs (Sum.inr r.1)=some (.ref q)/\H' q=some (.lst ((jU rs r).map V.str)))/\Fr H x H')
     ⟨none,[],rfl,qe,?_,?_,rfl,λr h=>(nomatch h),fr5⟩ (λi σ' H' _ ⟨_,_,_,_,_,_,_,_,fr⟩=>.of (g.fr hx fr).at_) ?_ ?_
   . rw[qi nlx,qi (Ne.symm nrl),qi nlx]
     exact hlo2
   . rw[qi nrx]
     exact qe
   . rintro i y σ' H' hy ⟨v,kvs,rfl,hx',hlo',hrd',ek,hv,fr⟩
     have g':=g.fr hx fr
     obtain⟨p,qq,r,rfl,er,hr',a,b⟩:=g'.rows.item hy
     have hi:=(tw.mp er).1
     have hle:=g.le
     refine⟨_,rfl,x,CG,dx,_,_,rfl,hx',C.cl,C.no,lkO _ _,lo,rfl,⟨_,.of hlo'⟩,λD hD=>?_⟩
     refine QX (K:=K) (a:=lo) (xs:=(rs.map (·.1)).map V.str) (λj σ'' H''=>∃v0,σ''=[v0,some (.ref p)]/\H''=upd H' D (.lst ((((rs.map (·.1)).take j).filter λz=>zQ (.str z) (r.2.map V.str)).map V.str))) ⟨none,rfl,rfl⟩
       (λj σ'' H'' _ ⟨_,_,e⟩=>e▸.of (ql hlo' hD)) ?_ ?_
     . rintro j y σ'' H'' hy ⟨v0,rfl,rfl⟩
       rw[tH]at hy
       cases e:(rs.map (·.1))[j]? with
       | none=>rw[e]at hy;cases hy
       | some z=>
         rw[e]at hy
         obtain rfl:=(tK.inj hy).symm
         refine⟨_,rfl,_,rfl,p,_,1,_,rfl,rfl,.of (ql a hD),rfl,qq,_,rfl,.inr (.of (ql b hD)),rfl,XI _,_,rfl,?_⟩
         have et:((rs.map (·.1)).take (j+1)).filter (λz=>zQ (.str z) (r.2.map V.str))=((rs.map (·.1)).take j).filter (λz=>zQ (.str z) (r.2.map V.str))++if zQ (.str z) (r.2.map V.str)=true then [z] else []:=by
           rw[tQ,e,zbL]
           congr 1
           cases ei:zQ (.str z) (r.2.map V.str)
           . simp [ei]
           . simp [ei]
         rw[et]
         show if zQ (.str z) (r.2.map V.str)=true then _ else _
         cases ei:zQ (.str z) (r.2.map V.str) with
         | true=>
           refine jI ⟨_,rfl,_,qe,?_,_,rfl,?_⟩
           . rw[tj]
             refine qm (tV (zaT _ _) ?_)
             rw[tT,tj]
             omega
           . rw[jV,if_pos rfl,tL]
             rfl
         | false=>
           refine jg ⟨_,rfl,?_⟩
           rw[if_neg tI,zaZ]
     . rintro σ'' H'' ⟨v0,rfl,rfl⟩
       have ed:((rs.map (·.1)).take ((rs.map (·.1)).map V.str).length).filter (λz=>zQ (.str z) (r.2.map V.str))=jU rs r:=by
         rw[tj,tF (tu _)]
         rfl
       rw[ed]
       have nD:∀{c:Addr} {o:HO},H' c=some o->c≠D:=λh e=>by rw[e,hD]at h;cases h
       have en:(rs.map (·.1))[i]?=some r.1:=by rw[tH,er];rfl
       have ez:qY kvs (Sum.inr r.1:qI)=none:=QP (by rw[ek];exact Qw g.good.nd en)
       have lk:kvs.length < sizeLine:=by
         have:=congrArg zax ek
         rw[tj,tj,tT,tj]at this
         exact qm (by omega)
       refine⟨_,rfl,x,CG,dx,_,_,rfl,ql hx' hD,C.cl,C.nr,lkR _ _,_,rfl,p,_,0,_,rfl,rfl,.of (ql a hD),rfl,rd,_,rfl,QE.k (k:=(Sum.inr r.1:qI)) (ql hrd' hD) lk,?_⟩
       refine⟨_,jm kvs (Sum.inr r.1) (.ref D),rfl,?_,?_,qe,?_,λr' hr2=>?_,?_⟩
       . rw[qi (Ne.symm nrx)];exact ql hx' hD
       . rw[qi (Ne.symm nrl)];exact ql hlo' hD
       . rw[We _ ez,ek,tQ,en,tL]
         rfl
       . rw[tQ,er]at hr2
         rcases tZ.mp hr2 with h | h
         . obtain⟨q1,a1,b1⟩:=hv r' h
           refine⟨q1,?_,?_⟩
           . rw[QB,if_neg]
             . exact a1
             . intro z
               rw[z,ez]at a1
               cases a1
           . have n1:q1≠rd:=λe=>by rw[e,hrd']at b1;cases b1
             rw[qi n1]
             exact ql b1 hD
         . have er':r'=r:=by simpa using h
           subst er'
           refine⟨D,?_,?_⟩
           . rw[QB,if_pos rfl]
           . rw[qi (Ne.symm (nD hrd'))]
             exact qe
       . exact(fr.new hD).own hHr
   . rintro σ' H' ⟨v,kvs,rfl,hx',hlo',hrd',ek,hv,fr⟩
     have e:rs.take (ps.map V.ref).length=rs:=tF (by rw[tj,g.rows.1];exact tu _)
     rw[e]at hv
     exact q H' ⟨dx,lo,rd,kvs,hx',hlo',hrd',hv⟩ fr
theorem qah:qG ["self"] ["self"] (qo Z1):=⟨rfl,rfl,rfl,by decide+kernel,rfl,by decide+kernel,by decide+kernel⟩
theorem Xv {f fI CG:Addr} {fd fdI:FuncData} (F:Qn K "names" "Ground.names" Z1 f fd) (C:MS K mg CG fI fdI) (G:Je mg):qB P w K mg base q5 1 f fd ["self"] (Ym CG):=by
 refine F.okJ qah (λvs H Q E h=>?_) (λcdv A outer s H vs Q E hr h=>?_)
 . obtain⟨a,rs,rfl,_⟩:=h
   rfl
 . obtain⟨a,rs,rfl,⟨dx,lo,rd,kvs,h1,h2,h3,h4⟩,q⟩:=h
   refine⟨_,qh (qA (jq QK (by rfl) G.lst boot_list (qb (YV (jv 0) rfl) qd))),?_⟩
   exact⟨_,rfl,a,CG,dx,_,_,rfl,h1,C.cl,C.no,lkO _ _,lo,_,rfl,.inl (.of h2),q⟩
abbrev nGF:List Str:=["self","name"]
theorem qai:qG nGF nGF (qo Yy):=⟨rfl,rfl,rfl,by decide+kernel,rfl,by decide+kernel,by decide+kernel⟩
theorem Z3 {f fI fN CG:Addr} {fd fdI fdN:FuncData} (F:Qn K "roads_from" "Ground.roads_from" Yy f fd) (C:MS K mg CG fI fdI) (B:JH mg) (G:Je mg) (T:J7 K mg) (hN:jr K mg "is_name" ZT ["thing"] fN fdN):qB P w K mg base q5 2 f fd nGF (ZR CG):=by
 have GN:qB P w K mg base q5 1 fN fdN ["thing"] uh:=Wh hN.fn B T
 refine F.okJ qai (λvs H Q E h=>?_) (λcdv A outer s H vs Q E hr h=>?_)
 . obtain⟨a,rs,r,rfl,_⟩:=h
   rfl
 . obtain⟨a,rs,r,rfl,gr,hr',hn,q⟩:=h
   have hu:=jQ hr
   refine⟨_,qg (qS (QU (j1 (jF (qO hN GN hr (by rfl) (qb (jv 1) qd)))) (Qp (Jc (zE hu (jv 1) (YV (jv 0) rfl))))).pt Qa qF)
     (qh (qA (jq QK (by rfl) G.lst boot_list (qb (qC hu (YV (jv 0) rfl) (jv 1) (λ_ _=>rfl)) qd)))),?_⟩
   refine⟨_,rfl,r.1,rfl,hn,λH1 s1=>⟨_,rfl,jg ?_⟩⟩
   obtain⟨dx,lo,rd,kvs,h1,h2,h3,h4⟩:=gr.mono s1
   obtain⟨qq,hv,hq⟩:=h4 r hr'
   have gz:j8 H1 rd (.str r.1) (some (.ref qq)):=by
     have:=j8.k (k:=(Sum.inr r.1:qI)) h3
     rw[hv]at this
     exact this
   refine⟨_,rfl,_,rfl,a,CG,dx,_,_,rfl,h1,C.cl,C.nr,lkR _ _,rd,_,rfl,gz,_,rfl,jg ?_⟩
   exact⟨_,rfl,a,CG,dx,_,_,rfl,h1,C.cl,C.nr,lkR _ _,_,rfl,rd,_,rfl,gz,qq,_,rfl,.inl (.of hq),λl hl=>q H1 l s1 hl⟩
end
open PySem L2 PyProof.Rows
abbrev QR:Stmt:=top 1
abbrev Yp:Stmt:=top 2
abbrev jz:=List (Str×List Str)
def ju (rs:jz) (z:Str):List Str:=match rs.find? (λr=>decide (r.1=z)) with
 | some r=>jU rs r
 | none=>[]
theorem YZ:∀{rs:jz} {r:Str×List Str},(rs.map (·.1)).Nodup->r∈rs->rs.find? (λq=>decide (q.1=r.1))=some r
 | a::rs,r,hn,h=>by
   rw[tP,zaf]at hn
   rcases tR.mp h with rfl | h
   . simp [zba]
   . have:¬a.1=r.1:=λe=>hn.1 (e▸tE.mpr ⟨r,h,rfl⟩)
     simp only[zba,decide_eq_false this]
     exact YZ hn.2 h
theorem Jv {rs:jz} {r:Str×List Str} (hn:(rs.map (·.1)).Nodup) (h:r∈rs):ju rs r.1=jU rs r:=by
 unfold ju
 rw[YZ hn h]
theorem yL {rs:jz} {r:Str×List Str} {y:Str} (h:y∈jU rs r):∃r'∈rs,r'.1=y:=by
 obtain⟨r',h1,h2⟩:=tE.mp (zaw.mp h).1
 exact⟨r',h1,h2⟩
theorem U7 {z:Str} {zs:List Str}:zQ (.str z) (zs.map V.str)=true↔z∈zs:=by
 refine⟨λh=>?_,U6⟩
 unfold zQ at h
 obtain⟨y,hy,e⟩:=zaO.mp h
 obtain⟨x,hx,rfl⟩:=tE.mp hy
 have e':(x==z)=true:=e
 rw[beq_iff_eq]at e'
 exact e'▸hx
theorem yM {rs:jz} (g:qu rs) {r:Str×List Str} (h:r∈rs) {y:Str}:y∈jU rs r↔y∈r.2:=by
 unfold jU
 rw[zaw,U7]
 exact⟨λz=>z.2,λz=>⟨g.to r h y z,z⟩⟩
theorem Qz {rs:jz} (hn:(rs.map (·.1)).Nodup):∀z∈rs.map (·.1),∀y∈ju rs z,y∈rs.map (·.1):=λz hz y hy=>by
 obtain⟨r,hr,rfl⟩:=tE.mp hz
 rw[Jv hn hr]at hy
 obtain⟨r',h1,rfl⟩:=yL hy
 exact tE.mpr ⟨r',h1,rfl⟩
theorem Ze {α:Type}:∀{l m:List α},l.Nodup->(∀z∈l,z∈m)->l.length<=m.length
 | [],m,_,_=>zah _
 | a::l,m,hn,h=>by
   classical
   rw[zaf]at hn
   have ha:=h a tS
   have:=Ze (m:=m.erase a) hn.2 λz hz=>(zby (λ(e:z=a)=>hn.1 (e▸hz))).mpr (h z (tN _ hz))
   rw[zbI ha]at this
   have:=zbS ha
   rw[zac]
   omega
theorem Xz:∀{more kvs:List (qI×V)},(more.map (·.1)).Nodup->(∀k∈more.map (·.1),¬k∈kvs.map (·.1))->Qo kvs more=kvs++more
 | [],kvs,_,_=>(zaZ _).symm
 | p::more,kvs,hn,h=>by
   rw[tP,zaf]at hn
   have e:qY kvs p.1=none:=QP (h p.1 (by simp))
   show Qo (jm kvs p.1 p.2) more=_
   rw[QC p.2 e,Xz hn.2]
   . rw[zcs]
     rfl
   . intro k hk m
     rw[tL]at m
     rcases tZ.mp m with m | m
     . exact h k (by rw[tP];exact tN _ hk) m
     . have:k=p.1:=by simpa using m
       subst this
       exact hn.1 hk
structure NB (K:PySem.W.Frag) (C:Addr) (m qual:Str) (st:Stmt) (ps:List Str) (f:Addr) (fd:FuncData):Prop where
 fn:Qn K m qual st f fd
 me:k9 K C m f
 bi:QY K fd ps []
theorem x8 {X:Cx} {C f:Addr} {fd:FuncData} {m qual:Str} {st:Stmt} {ps:List Str} {k:Nat} {sp:Sp} {o:Expr} {ta:TE} {apos pos:Pos} {pl:Sem Bool} (h:NB X.K C m qual st ps f fd) (c:Ur X.K C) (G:qB X.prog X.w X.K X.mg X.base q5 k f fd ps sp) (hr:jE k X.A) (he:JE X o ta)
   (ht:eval (.Call (.Attribute o m apos) [] [] pos) X.env=(do
     let ov <-eval o X.env
     standAt apos.atName
     let (f,first) <-holding [ov] (getMethod ov m pl)
     callWith pos f first (backTo pos (starEach [] X.env)) (backToKw pos (keywordEach [] X.env))):=by rfl):
   JE X (.Call (.Attribute o m apos) [] [] pos) (Xl C m sp [] E0 ta jT):=x6 he c h.me G hr h.bi .nil Xq ht
theorem U5 {X:Cx} {C f:Addr} {fd:FuncData} {m qual:Str} {st:Stmt} {ps:List Str} {k:Nat} {sp:Sp} {o e:Expr} {es:List Expr} {ta:TE} {t:TA} {apos pos:Pos} {pl:Sem Bool} (h:NB X.K C m qual st ps f fd) (c:Ur X.K C) (G:qB X.prog X.w X.K X.mg X.base q5 k f fd ps sp) (hr:jE k X.A) (he:JE X o ta) (ha:JA X (e::es) t)
   (hst:starEach (e::es) X.env=(false,eval e X.env)::starEach es X.env:=by rfl) (hpl:(backTo pos (starEach es X.env)).any (·.1)=false:=by rfl)
   (ht:eval (.Call (.Attribute o m apos) (e::es) [] pos) X.env=(do
     let ov <-eval o X.env
     standAt apos.atName
     let (f,first) <-holding [ov] (getMethod ov m pl)
     callWith pos f first (backTo pos (starEach (e::es) X.env)) (backToKw pos (keywordEach [] X.env))):=by rfl):
   JE X (.Call (.Attribute o m apos) (e::es) [] pos) (Xl C m sp [] E0 ta t):=Kd he c h.me G hr h.bi .nil Xq ha hst hpl ht
structure GM (K:PySem.W.Frag) (mg:Str->Option Value) (CG:Addr):Prop where
 cls:∃f fd,MS K mg CG f fd
 nm:∃f fd,NB K CG "names" "Ground.names" Z1 ["self"] f fd
 fr:∃f fd,NB K CG "roads_from" "Ground.roads_from" Yy ["self","name"] f fd
 isn:∃f fd,jr K mg "is_name" ZT ["thing"] f fd
theorem Q0.ins {CG:Addr} {H:Hp} {a:Addr} {rs:jz} (h:Q0 CG H a rs):∃dx fs,H a=some (.ins CG dx fs)/\fs.lookup (Str.ofString "names")=none/\fs.lookup (Str.ofString "roads_from")=none:=by
 obtain⟨dx,lo,rd,kvs,h1,_⟩:=h
 refine⟨dx,_,h1,?_,?_⟩
 . have e1:((Str.ofString "names")==(Str.ofString "order"))=false:=by decide+kernel
   have e2:((Str.ofString "names")==(Str.ofString "roads"))=false:=by decide+kernel
   simp only[zbe]
   rw[e1,e2]
 . have e1:((Str.ofString "roads_from")==(Str.ofString "order"))=false:=by decide+kernel
   have e2:((Str.ofString "roads_from")==(Str.ofString "roads"))=false:=by decide+kernel
   simp only[zbe]
   rw[e1,e2]
theorem J9 {zs:List Str} {i:Nat} {y:V} (h:(zs.map V.str)[i]?=some y):∃z,zs[i]?=some z/\z∈zs/\y=.str z:=by
 rw[tH]at h
 cases e:zs[i]? with
 | none=>rw[e]at h;cases h
 | some z=>rw[e]at h;exact⟨z,rfl,tY e,(tK.inj h).symm⟩
theorem YB {rs:jz} (r:Str×List Str):(jU rs r).length<=rs.length:=by
 have:=zaT (λz=>zQ (.str z) (r.2.map V.str)) (rs.map (·.1))
 rwa [tj]at this
theorem qL {c:Bool} {A B:Prop} (hc:c=false) (h:B):if c=true then A else B:=by
 rw[hc]
 exact jg h
theorem qR {c:Bool} {A B:Prop} (hc:c=true) (h:A):if c=true then A else B:=by
 rw[if_pos hc]
 exact h
theorem wY {kvs:List (qI×V)}:∀{i:Nat} {k:qI} {v:V},(kvs.map (·.1)).Nodup->kvs[i]?=some (k,v)->qY kvs k=some v:=by
 induction kvs with
 | nil=>intro i k v _ e;simp at e
 | cons p r ih=>
   intro i k v hn e
   rw[tP,zaf]at hn
   cases i with
   | zero=>
     rw[List.getElem?_cons_zero]at e
     obtain rfl:=tK.inj e
     exact jh rfl
   | succ i=>
     rw[List.getElem?_cons_succ]at e
     have:¬p.1=k:=λz=>hn.1 (z▸tE.mpr ⟨_,tY e,rfl⟩)
     rw[ji this]
     exact ih hn.2 e
theorem UP {H:Hp}:∀(ps:List Addr) (rs:jz),jS H ps rs->∃qs:List Addr,qs.length=rs.length/\∀(i:Nat) (p q:Addr) (r:Str×List Str),ps[i]?=some p->rs[i]?=some r->qs[i]?=some q->H p=some (.tup [.str r.1,.ref q])/\H q=some (.tup (r.2.map V.str))
 | [],[],_=>⟨[],rfl,λi p q r e=>by simp at e⟩
 | [],_::_,h=>by cases h.1
 | _::_,[],h=>by cases h.1
 | p::ps,r::rs,h=>by
   obtain⟨qs,l,k⟩:=UP ps rs ⟨zcx.inj h.1,λi a b e1 e2=>h.2 (i+1) a b (by simpa using e1) (by simpa using e2)⟩
   obtain⟨q,a,b⟩:=h.2 0 p r rfl rfl
   refine⟨q::qs,by simp [l],λi p' q' r' e1 e2 e3=>?_⟩
   cases i with
   | zero=>cases e1;cases e2;cases e3;exact⟨a,b⟩
   | succ i=>exact k i p' q' r' (by simpa using e1) (by simpa using e2) (by simpa using e3)
def Vf (rs:jz) (qs:List Addr):List (qI×V):=List.zipWith (λr q=>((Sum.inr r.1:qI),V.ref q)) rs qs
theorem Zg:∀{rs:jz} {qs:List Addr},qs.length=rs.length->(Vf rs qs).map (·.1)=(rs.map (·.1)).map Sum.inr
 | [],[],_=>rfl
 | [],_::_,h=>by cases h
 | _::_,[],h=>by cases h
 | r::rs,q::qs,h=>by
   show Sum.inr r.1::(Vf rs qs).map (·.1)=_
   rw[Zg (zcx.inj h)]
   rfl
theorem YQ {rs:jz} {qs:List Addr} (h:qs.length=rs.length):(Vf rs qs).length=rs.length:=by
 have:=congrArg zax (Zg h)
 simpa using this
theorem U2 {rs:jz} {qs:List Addr} (h:qs.length=rs.length) {i:Nat} {r:Str×List Str} (e:rs[i]?=some r):∃q,qs[i]?=some q/\(Vf rs qs)[i]?=some (Sum.inr r.1,.ref q):=by
 have hi:i < qs.length:=by rw[h];exact(tw.mp e).1
 refine⟨qs[i],tz hi,?_⟩
 unfold Vf
 rw[List.getElem?_zipWith,e,tz hi]
theorem xU {rs:jz} {qs:List Addr} (h:qs.length=rs.length) {i:Nat} {kv:qI×V} (e:(Vf rs qs)[i]?=some kv):∃r q,rs[i]?=some r/\qs[i]?=some q/\kv=(Sum.inr r.1,.ref q):=by
 have hi:i < rs.length:=by rw[<-YQ h];exact(tw.mp e).1
 obtain⟨q,e1,e2⟩:=U2 h (tz hi)
 rw[e2]at e
 exact⟨_,q,tz hi,e1,(tK.inj e).symm⟩
theorem U8 {rs:jz} (g:qu rs) {r:Str×List Str} (h:r∈rs) {y:Str}:y∈ju rs r.1↔y∈r.2:=by
 rw[Jv g.nd h]
 exact yM g h
theorem xE:∀{l:List Nat} {x:Nat},x∈l->x<=l.sum
 | a::l,x,h=>by
   rw[zaW]
   rcases tR.mp h with e | h
   . omega
   . have:=xE h
     omega
theorem qu.two {rs:jz} (g:qu rs) {r:Str×List Str} (h:r∈rs):r.2.length<=40:=by
 refine tV ?_ g.few
 exact xE (tE.mpr ⟨r,h,rfl⟩)
theorem xA {σ:L2.St} {H:Hp} {Q:List V->Hp->Prop} (h:Q [] H):jT σ H Q:=h
theorem zw {H H':Hp} {a:Addr} (s:qr H H') (h:H' a=none):H a=none:=by
 cases z:H a with
 | none=>rfl
 | some u=>rw[s _ _ z]at h;cases h
theorem VU {z:Str} (h:jc z=true):(∀c∈z.cps.toList,c<=122)/\z.length<=8/\1<=z.length:=by
 unfold jc at h
 simp only[zam,decide_eq_true_eq]at h
 refine⟨λc hc=>?_,h.1.2,h.1.1⟩
 have:=zav.mp h.2 c hc
 unfold j0 at this
 simp only[zam,decide_eq_true_eq]at this
 exact this.2
theorem Wj {z:Str} (h:jc z=true):PyData.strOk z=true:=by
 unfold PyData.strOk
 rw[Array.all_eq_true_iff_forall_mem]
 intro c hc
 have:=(VU h).1 c (by simpa using hc)
 exact decide_eq_true (by omega)
def dL (zs:List Str):PyData:=.list (zs.map PyData.str)
theorem Vt {K:PySem.W.Frag} {H:Hp}:∀zs:List Str,DVs K H (zs.map V.str) (zs.map PyData.str)
 | []=>.nil
 | z::zs=>.cons (.str z) (Vt zs)
theorem wN {K:PySem.W.Frag} {H:Hp} {p:Addr} {zs:List Str} (h:H p=some (.lst (zs.map V.str))):DV K H (.ref p) (dL zs):=.lst (.of h) (Vt zs)
theorem MD:∀{zs:List Str},(∀z∈zs,jc z=true)->PyData.canLayAll0 (zs.map PyData.str)=true
 | [],_=>rfl
 | z::zs,h=>by
   rw[tP,PyData.canLayAll0,MD λy hy=>h y (tN _ hy),Bool.and_true]
   exact Wj (h z tS)
theorem Mv:∀zs:List Str,PyData.depthAll (zs.map PyData.str)=0
 | []=>rfl
 | z::zs=>by
   rw[tP]
   simp only[PyData.depthAll,PyData.depth,Mv zs]
   rfl
theorem shL {zs:List Str} (h:∀z∈zs,jc z=true):PySem.SeqAt.shaped (dL zs)=true:=by
 unfold PySem.SeqAt.shaped
 rw[zam]
 refine⟨MD h,decide_eq_true ?_⟩
 unfold dL
 simp only[PyData.depth,Mv zs]
 decide
theorem Vm {K:PySem.W.Frag} {H:Hp} {l:Addr} {ps:List Addr} {rs:jz} (g:jD H l ps rs) {Q:VK}
   (q:∀dd kvs,H dd=none->kvs.map (·.1)=(rs.map (·.1)).map Sum.inr->(∀r∈rs,∃t,qY kvs (Sum.inr r.1:qI)=some (.ref t)/\H t=some (.tup (r.2.map V.str)))->Q (.ref dd) (upd H dd (.dK kvs))):yW K [.ref l] H Q:=by
 obtain⟨qs,lq,hqs⟩:=UP ps rs g.rows
 have le:=g.le
 refine⟨l,ps,Vf rs qs,rfl,.of g.at_,by rw[YQ lq,g.rows.1],λi a kv e1 e2=>?_,by rw[YQ lq];omega,λdd hdd=>?_⟩
 . obtain⟨r',q',f1,f2,rfl⟩:=xU lq e2
   exact .of (hqs i a q' r' e1 f1 f2).1
 have nk:((Vf rs qs).map (·.1)).Nodup:=by
   rw[Zg lq]
   exact Qx g.good.nd λa _ b _ e=>Sum.inr.inj e
 rw[Xz nk (λk _ m=>by simp at m),List.nil_append]
 refine q dd _ hdd (Zg lq) λr hr=>?_
 obtain⟨i0,hi0⟩:=zbZ hr
 obtain⟨q0,eq0,ekv⟩:=U2 lq hi0
 have hi0':=(tw.mp hi0).1
 exact⟨q0,wY nk ekv,(hqs i0 _ q0 r (tz (by rw[g.rows.1];exact hi0')) hi0 eq0).2⟩
section
variable {P:Program} {w:World} {K:PySem.W.Frag} {mg:Str->Option Value} {base:Heap}
theorem wG (x:Int):Builtin.bitNot (Builtin.bitNot x)=x:=by unfold Builtin.bitNot;omega
theorem bo (a b:Nat):Builtin.bitOr a b=((a ||| b:Nat):Int):=by
 have na:¬(0:Int)<=Builtin.bitNot a:=by unfold Builtin.bitNot;omega
 have nb:¬(0:Int)<=Builtin.bitNot b:=by unfold Builtin.bitNot;omega
 have e:Builtin.bitAnd (Builtin.bitNot a) (Builtin.bitNot b)=Builtin.bitNot (((Builtin.bitNot (Builtin.bitNot a)).toNat ||| (Builtin.bitNot (Builtin.bitNot b)).toNat:Nat):Int):=by
   unfold Builtin.bitAnd
   rw[decide_eq_false na,decide_eq_false nb]
 unfold Builtin.bitOr
 rw[e,wG,wG,wG,zad,zad]
theorem ba (a b:Nat):Builtin.bitAnd a b=((a&&& b:Nat):Int):=by
 unfold Builtin.bitAnd
 rw[decide_eq_true (zch a),decide_eq_true (zch b)]
 rfl
def J3 (ns:List Nat):List V:=ns.map λn=>V.int (n:Nat)
theorem Ye (ns:List Nat):(J3 ns).length=ns.length:=tj ..
theorem Wr {ns:List Nat} {i:Nat} {x:V} (h:(J3 ns)[i]?=some x):∃n:Nat,ns[i]?=some n/\x=.int n:=by
 unfold J3 at h
 rw[tH]at h
 cases e:ns[i]? with
 | none=>rw[e]at h;cases h
 | some n=>rw[e]at h;exact⟨n,rfl,(tK.inj h).symm⟩
theorem zr {ns:List Nat} {i n:Nat} (h:ns[i]?=some n):ns.take (i+1)=ns.take i++[n]:=by
 rw[tQ,h]
 rfl
theorem wn (ns:List Nat) (n:Nat):J3 ns++[V.int (n:Nat)]=J3 (ns++[n]):=by unfold J3;rw[tL];rfl
theorem Z6 (ns:List Nat):(J3 ns).all Zu=true:=by
 unfold J3
 rw[zbq]
 exact zav.mpr λ_ _=>rfl
theorem YW (ns:List Nat) (n:Nat):zQ (.int (n:Nat)) (J3 ns)=decide (n∈ns):=by
 unfold zQ J3
 rw[zdj,zaz,zaO,decide_eq_true_iff]
 constructor
 . rintro⟨y,hy,e⟩
   have e':((y:Int)==(n:Int))=true:=e
   have:y=n:=by
     have:=eq_of_beq e'
     omega
   exact this▸hy
 . intro h
   refine⟨n,h,?_⟩
   show ((n:Int)==(n:Int))=true
   simp
def zt (K:PySem.W.Frag):Sp:=λvs H Q _=>∃(a:Addr) (ns:List Nat),vs=[.ref a]/\SqL K H a (J3 ns)/\ns.length<=1000/\∀H',qr H H'->Q (.int (Rb.lackN ns:Nat)) H'
def UA (K:PySem.W.Frag):Sp:=λvs H Q _=>∃(a:Addr) (ns:List Nat),vs=[.ref a]/\SqL K H a (J3 ns)/\(∀x∈ns,x < 1000)/\Q (.int (Rb.setN ns:Nat)) H
theorem z7:qG ["numbers","bits","number"] ["numbers"] (qo Yp):=⟨rfl,rfl,rfl,by decide+kernel,rfl,by decide+kernel,by decide+kernel⟩
theorem xk {f:Addr} {fd:FuncData} (F:Qn K "set_of" "set_of" Yp f fd):qB P w K mg base q5 1 f fd ["numbers"] (UA K):=by
 refine F.okJ z7 (λvs H Q E h=>?_) (λcdv A outer s H vs Q E hr h=>?_)
 . obtain⟨a,ns,rfl,_⟩:=h
   rfl
 . obtain⟨a,ns,rfl,hS,hb,q⟩:=h
   refine⟨_,qg (qz (i:=1) z7.nd rfl (Or.inl rfl) qf)
     (qg (jp PassesOwn.never rfl (jl (jv 0)) (qv (i:=2) z7.nd rfl (Or.inl rfl)) (qh (qz (i:=1) z7.nd rfl (Or.inl rfl) (qH xb (jv 1) (qH YG qf (jv 2))))))
     (qh (qA (jv 1)))),?_⟩
   refine⟨_,rfl,a,rfl,⟨_,hS⟩,?_⟩
   refine j7 (K:=K) (a:=a) (xs:=J3 ns) (λi σ H'=>∃v,σ=[some (.ref a),some (.int ((Rb.setN (ns.take i):Nat):Int)),v]/\H'=H) ⟨none,rfl,rfl⟩ (λi σ H' _ ⟨_,_,e⟩=>e▸hS) ?_ ?_
   . rintro i x σ H' hx ⟨v,rfl,rfl⟩
     obtain⟨n,hn,rfl⟩:=Wr hx
     have n1:=hb n (tY hn)
     have e1:(1:Int)*2^ ((n:Nat):Int).toNat=((2^n:Nat):Int):=by rw[zad,zdb];push_cast;rfl
     have e:((Rb.setN (ns.take (i+1)):Nat):Int)=Builtin.bitOr (Rb.setN (ns.take i):Nat) ((1:Int)*2^ ((n:Nat):Int).toNat):=by rw[e1,bo,zr hn,Rb.setN_snoc]
     refine⟨_,rfl,_,rfl,_,_,rfl,rfl,⟨by omega,by omega,by decide⟩,_,_,rfl,rfl,some (.int n),?_,rfl⟩
     rw[e]
     rfl
   . rintro σ H' ⟨v,rfl,rfl⟩
     refine⟨_,rfl,?_⟩
     rw[Ye,tF (tu _)]
     exact q
theorem Jh:qG ["numbers","there","number","least"] ["numbers"] (qo QR):=⟨rfl,rfl,rfl,by decide+kernel,rfl,by decide+kernel,by decide+kernel⟩
theorem YJ {f:Addr} {fd:FuncData} (F:Qn K "lacking" "lacking" QR f fd):qB P w K mg base q5 1 f fd ["numbers"] (zt K):=by
 refine F.okJ Jh (λvs H Q E h=>?_) (λcdv A outer s H vs Q E hr h=>?_)
 . obtain⟨a,ns,rfl,_⟩:=h
   rfl
 . obtain⟨a,ns,rfl,hS,hl,q⟩:=h
   have hu:=jQ hr
   refine⟨_,qg (qz (i:=1) Jh.nd rfl (Or.inl rfl) Qc)
     (qg (jp PassesOwn.never rfl (jl (jv 0)) (qv (i:=2) Jh.nd rfl (Or.inl rfl)) (qh (jL hu (jv 1) (jv 2) ja rfl)))
     (qg (qz (i:=3) Jh.nd rfl (Or.inl rfl) qf)
     (qg (YS PassesOwn.never (Jc (ZC hu (jv 3) (jv 1)) (by with_unfolding_all rfl)) (qh (RS (i:=3) Jh.nd rfl (Or.inl rfl) qf R1)))
     (qh (qA (jv 3)))))),?_⟩
   intro D hD
   refine⟨_,rfl,a,rfl,⟨_,(qj hD).seq hS⟩,?_⟩
   refine j7 (K:=K) (a:=a) (xs:=J3 ns) (λi σ H'=>∃v kvs,σ=[some (.ref a),some (.ref D),v,none]/\H'=upd H D (.dK kvs)/\kvs.length<=i/\∀x:Nat,(qY kvs (Sum.inl (x:Int):qI)).isSome=decide (x∈ns.take i)) ⟨none,[],rfl,rfl,tu _,λx=>by simp [qY]⟩
     (λi σ H' _ ⟨_,_,_,e,_⟩=>e▸(qj hD).seq hS) ?_ ?_
   . rintro i x σ H' hx ⟨v,kvs,rfl,rfl,hk,hv⟩
     obtain⟨n,hn,rfl⟩:=Wr hx
     have hi:i < ns.length:=(tw.mp hn).1
     refine⟨_,rfl,_,rfl,D,_,rfl,QE.k (k:=(Sum.inl (n:Int):qI)) qe (qm (by omega)),?_⟩
     refine⟨some (.int n),jm kvs (Sum.inl (n:Int)) (.bl true),rfl,jV,?_,λx=>?_⟩
     . have:=QD kvs (Sum.inl (n:Int):qI) (.bl true)
       omega
     . rw[QB,zr hn]
       by_cases e:x=n
       . subst e;simp
       . have e':¬(Sum.inl (x:Int):qI)=Sum.inl (n:Int):=λz=>e (by have:=Sum.inl.inj z;omega)
         rw[if_neg e',hv x,zaz]
         simp [e]
   . rintro σ H' ⟨v,kvs,rfl,rfl,hk,hv⟩
     rw[Ye,tF (tu _)]at hv
     refine Yg (λσ H'=>∃r:Nat,σ=[some (.ref a),some (.ref D),v,some (.int r)]/\H'=upd H D (.dK kvs)/\∀x,x < r->x∈ns) (λσ _=>match σ with | [_,_,_,some (.int r)]=>ns.length - r.toNat | _=>0) ⟨0,rfl,rfl,λx hx=>absurd hx (zbr _)⟩ ?_ ?_
     . rintro σ H' ⟨r,rfl,rfl,hr'⟩
       refine⟨_,rfl,_,rfl,D,_,rfl,j8.k (k:=(Sum.inl (r:Int):qI)) qe,_,rfl,?_⟩
       rw[hv r]
       by_cases hm:r∈ns
       . rw[decide_eq_true hm]
         have hp:=Rb.pigeon (r+1) ns λx hx=>by
           by_cases e:x=r
           . rw[e];exact hm
           . exact hr' x (by omega)
         refine jI ⟨_,rfl,_,_,rfl,rfl,⟨r+1,rfl,rfl,λx hx=>?_⟩,?_⟩
         . by_cases e:x=r
           . rw[e];exact hm
           . exact hr' x (by omega)
         . show ns.length - ((r:Int)+1).toNat < ns.length - (r:Int).toNat
           omega
       . rw[decide_eq_false hm]
         refine jg ⟨_,rfl,?_⟩
         have e:=Rb.lackN_eq (r:=r) (ns:=ns) ⟨hm,hr'⟩
         have:=q _ (qj (o:=.dK kvs) hD)
         rw[<-e]at this
         exact this
     . rintro σ H Q Q' h1 ⟨v,e,w,e2,a,o,e3,g,k,e4,q⟩
       exact⟨v,e,w,e2,a,o,e3,g,k,e4,h1 _ _ q⟩
end
open PySem L2 PyProof.Rows MLab
structure NumAt (N:List Str) (H:Hp) (d:Addr) (f:Str->Option Nat):Prop where
 at_:∃kvs:List (qI×V),H d=some (.dK kvs)/\(∀z:Str,qY kvs (Sum.inr z:qI)=(f z).map λn=>V.int (n:Nat))/\(kvs.map (·.1)).Nodup/\∀k∈kvs.map (·.1),k∈N.map (Sum.inr:Str->qI)
def K7 (rs:jz) (f:Str->Option Nat) (z:Str):List Nat:=(ju rs z).filterMap f
theorem uY {rs:jz} {f:Str->Option Nat} {z:Str} {n:Nat}:n∈K7 rs f z↔∃y∈ju rs z,f y=some n:=zal
theorem Kn {rs:jz} (z:Str):(ju rs z).length<=rs.length:=by
 unfold ju
 split
 . exact YB _
 . exact zah _
theorem Ub (p:Str->Bool):∀l:List Str,(l.filter p).map V.str=l.filterMap λx=>if p x=true then some (V.str x) else none
 | []=>rfl
 | a::l=>by
   rw[zaK,zar]
   cases p a with
   | false=>exact Ub p l
   | true=>
     rw[if_pos rfl,if_pos rfl,tP,Ub p l]
def JL (rs:jz) (f:Str->Option Nat):Nat:=((rs.map (·.1)).filter λz=>(f z).isNone).length
theorem KA {rs:jz} {R:Rs Str} {n:Nat} {ns:List Str} (h:∀z∈ns,z∈rs.map (·.1)/\jt R z=none) (ne:ns≠[]):JL rs (jt (R++[(n,ns)])) < JL rs (jt R):=by
 unfold JL
 generalize rs.map (·.1)=N at*
 have sub:(N.filter λz=>(jt (R++[(n,ns)]) z).isNone).Sublist (N.filter λz=>(jt R z).isNone):=by
   have e:(N.filter λz=>(jt (R++[(n,ns)]) z).isNone)=(N.filter λz=>(jt R z).isNone).filter λz=>(jt (R++[(n,ns)]) z).isNone:=by
     rw[List.filter_filter]
     refine zdl λz _=>?_
     cases c:(jt (R++[(n,ns)]) z).isNone with
     | false=>simp
     | true=>
       have:=wy (by simpa using c)
       rw[this]
       rfl
   rw[e]
   exact zcd
 obtain⟨z0,r,e0⟩:=zbh ne
 have m0:z0∈ns:=by rw[e0];exact tS
 obtain⟨hz,ez⟩:=h z0 m0
 rcases zbD (N.filter λz=>(jt (R++[(n,ns)]) z).isNone).length (N.filter λz=>(jt R z).isNone).length with c | c
 . exact c
 . have e:=sub.eq_of_length_le c
   have m:z0∈N.filter λz=>(jt R z).isNone:=zaw.mpr ⟨hz,by rw[ez];rfl⟩
   rw[<-e]at m
   have:=(zaw.mp m).2
   rw[wz ez m0]at this
   cases this
def zh (N:List Str) (H:Hp) (d:Addr):Nat:=match H d with
 | some (.dK kvs)=>(N.filter λz=>(qY kvs (Sum.inr z:qI)).isNone).length
 | _=>0
structure wR (N:List Str) (R:Rs Str):Prop where
 sub:∀r∈R,∀z∈r.2,z∈N
 dis:R.Pairwise λr r'=>∀z∈r.2,z∉r'.2
 ne:∀r∈R,r.2≠[]
 srt:∀r∈R,r.2.Sublist N
theorem wR.nil {N:List Str}:wR N []:=⟨λ_ h=>(nomatch h),zbX.nil,λ_ h=>(nomatch h),λ_ h=>(nomatch h)⟩
theorem wR.more {G:Str->List Str} {N:List Str} {R:Rs Str} {n:Nat} {ns:List Str} (o:wR N R) (r:wQ G N R n ns) (ne:ns≠[]):wR N (R++[(n,ns)]):=by
 refine⟨λx hx z hz=>?_,zda.mpr ⟨o.dis,zcy _ _,λa ha b hb z hz hb'=>?_⟩,λx hx=>?_,λx hx=>?_⟩
 . rcases tZ.mp hx with hx | hx
   . exact o.sub x hx z hz
   . rw[zaE.mp hx]at hz
     exact((r.iff z).mp hz).1
 . rw[zaE.mp hb]at hb'
   exact Wu.mp ((r.iff z).mp hb').2.1 a ha hz
 . rcases tZ.mp hx with hx | hx
   . exact o.ne x hx
   . rw[zaE.mp hx];exact ne
 . rcases tZ.mp hx with hx | hx
   . exact o.srt x hx
   . rw[zaE.mp hx];exact r.sub
theorem wp {G:Str->List Str} {N:List Str} {n:Nat} {R R':Rs Str} (h:J8 G N n R R'):wR N R->wR N R':=by
 induction h with
 | stop r=>exact id
 | more r ne k ih=>exact λo=>ih (o.more r ne)
theorem KC {G:Str->List Str} {N:List Str} {n:Nat} {R R':Rs Str} (h:All G N n R R'):wR N R->wR N R':=by
 induction h with
 | stop r=>exact id
 | more g ne k ih=>exact λo=>ih (wp g o)
theorem uE {N:List Str}:∀{R:Rs Str},wR N R->R.length<=N.length:=λ{R} o=>by
 have key:∀R:Rs Str,(R.Pairwise λr r'=>∀z∈r.2,z∉r'.2)->(∀r∈R,r.2≠[])->∃zs:List Str,zs.length=R.length/\zs.Nodup/\∀z∈zs,∃r∈R,z∈r.2:=by
   intro R
   induction R with
   | nil=>exact λ_ _=>⟨[],rfl,zbn,λz h=>(nomatch h)⟩
   | cons r R ih=>
     intro p ne
     obtain⟨zs,l,nd,sub⟩:=ih (zcl.mp p).2 (λx hx=>ne x (tN _ hx))
     obtain⟨z,t,e⟩:=zbh (ne r tS)
     have hz:z∈r.2:=by rw[e];exact tS
     refine⟨z::zs,by simp [l],zaf.mpr ⟨λm=>?_,nd⟩,λy hy=>?_⟩
     . obtain⟨r',hr',hz'⟩:=sub z m
       exact(zcl.mp p).1 r' hr' z hz hz'
     . rcases tR.mp hy with rfl | hy
       . exact⟨r,tS,hz⟩
       . obtain⟨r',hr',h⟩:=sub y hy
         exact⟨r',tN _ hr',h⟩
 obtain⟨zs,l,nd,sub⟩:=key R o.dis o.ne
 rw[<-l]
 exact Ze nd λz hz=>let ⟨r,hr,h⟩:=sub z hz;o.sub r hr z h
def Xc (rs:jz) (R:Rs Str) (z:Str):List V:=match jt R z with
 | some n=>[.str "number",.int (n:Nat),.int (ZL R z:Nat)]
 | none=>[.str "endless",.int (Rb.setN (K7 rs (jt R) z):Nat)]
structure Uq (H:Hp) (D:Addr) (rs:jz) (R:Rs Str):Prop where
 at_:∃kvs:List (qI×V),H D=some (.dK kvs)/\kvs.map (·.1)=(rs.map (·.1)).map Sum.inr/\∀r∈rs,∃t,qY kvs (Sum.inr r.1:qI)=some (.ref t)/\H t=some (.tup (Xc rs R r.1))
theorem Uy:∀(n:Nat) (L:List Nat),(∀m,m<=n->m∈L)->n*(n+1)<=2*L.sum
 | 0,_,_=>by simp
 | n+1,L,h=>by
   have hm:=h (n+1) (tu _)
   have ih:=Uy n (L.erase (n+1)) λm hm'=>(zby (by omega)).mpr (h m (by omega))
   have es:L.sum=(n+1)+(L.erase (n+1)).sum:=by
     have:=(List.perm_cons_erase hm).sum_nat
     rw[this,zaW]
   rw[es]
   have:(n+1)*(n+1+1)=n*(n+1)+2*(n+1):=by
     rw[Nat.mul_comm,<-Nat.add_mul]
   omega
theorem WM {α:Type} {f g:α->Nat}:∀{l:List α},(∀x∈l,f x<=g x)->(l.map f).sum<=(l.map g).sum
 | [],_=>tu _
 | a::l,h=>by
   rw[tP,tP,zaW,zaW]
   have:=h a tS
   have:=WM (l:=l) λx hx=>h x (tN _ hx)
   omega
theorem R8 {rs:jz} (hn:(rs.map (·.1)).Nodup) (z:Str):(ju rs z).Nodup:=by
 unfold ju
 split
 . exact hn.sublist zcd
 . exact zbn
theorem VT {rs:jz} (good:qu rs) {num:Str->Option Nat} {stp:Str->Nat} (L:MP (ju rs) (·∈rs.map (·.1)) num stp) {x:Str} {n:Nat} (hx:x∈rs.map (·.1)) (e:num x=some n):n<=8:=by
 have h1:∀m,m<=n->m∈rs.map λr=>(num r.1).getD 0:=λm hm=>by
   rcases zbD m n with c | c
   . obtain⟨y,hy,ey,_⟩:=L.n1 hx e c
     obtain⟨r,hr,rfl⟩:=tE.mp (L.cl hx hy)
     exact tE.mpr ⟨r,hr,by rw[ey];rfl⟩
   . have:m=n:=by omega
     subst this
     obtain⟨r,hr,rfl⟩:=tE.mp hx
     exact tE.mpr ⟨r,hr,by rw[e];rfl⟩
 have h2:=Uy n _ h1
 have h3:(rs.map λr=>(num r.1).getD 0).sum<=(rs.map λr=>r.2.length).sum:=WM λr hr=>by
   cases c:num r.1 with
   | none=>exact zah _
   | some m=>
     show m<=_
     have hr':r.1∈rs.map (·.1):=tE.mpr ⟨r,hr,rfl⟩
     have:(tU m).length<=((ju rs r.1).filterMap num).length:=Ze zbV λj hj=>by
       obtain⟨y,hy,ey,_⟩:=L.n1 hr' c (zaP.mp hj)
       exact zal.mpr ⟨y,hy,ey⟩
     rw[zai]at this
     have h4:=zas num (ju rs r.1)
     have h5:(ju rs r.1).length<=r.2.length:=Ze (R8 good.nd _) λy hy=>(U8 good hr).mp hy
     omega
 have h4:=good.few
 rcases zbD 8 n with c | c
 . have:9*10<=n*(n+1):=Nat.mul_le_mul c (by omega)
   omega
 . exact c
open PySem L2 PyProof.Rows MLab
abbrev Ji:Stmt:=top 51
abbrev Zb:Stmt:=top 52
abbrev ZA:Stmt:=top 53
abbrev ZY:Stmt:=top 54
def jn (rs:jz) (z:Str):List Str:=match rs.find? (λr=>decide (r.1=z)) with
 | some r=>r.2
 | none=>[]
theorem Z4 {rs:jz} {r:Str×List Str} (hn:(rs.map (·.1)).Nodup) (h:r∈rs):jn rs r.1=r.2:=by
 unfold jn
 rw[YZ hn h]
theorem jk {rs:jz} (g:qu rs) {z y:Str} (hz:z∈rs.map (·.1)):y∈jn rs z↔y∈ju rs z:=by
 obtain⟨r,hr,rfl⟩:=tE.mp hz
 rw[Z4 g.nd hr,U8 g hr]
structure wL (H:Hp) (d:Addr) (rs:jz):Prop where
 at_:∃(o:Obj) (kvs:List (qI×V)),H d=some (.frz o (.dK kvs))/\kvs.map (·.1)=(rs.map (·.1)).map Sum.inr/\∀r∈rs,∃q,qY kvs (Sum.inr r.1:qI)=some (.ref q)/\H q=some (.tup (r.2.map V.str))
theorem wL.mono {H H':Hp} {d:Addr} {rs:jz} (h:wL H d rs) (s:qr H H'):wL H' d rs:=⟨let ⟨o,kvs,a,b,c⟩:=h.at_;⟨o,kvs,s _ _ a,b,λr hr=>let ⟨q,u,v⟩:=c r hr;⟨q,u,s _ _ v⟩⟩⟩
theorem wL.get {H:Hp} {d:Addr} {rs:jz} (h:wL H d rs) (g:qu rs) {z:Str} (hz:z∈rs.map (·.1)):∃q,j8 H d (.str z) (some (.ref q))/\H q=some (.tup ((jn rs z).map V.str)):=by
 obtain⟨o,kvs,a,b,c⟩:=h.at_
 obtain⟨r,hr,rfl⟩:=tE.mp hz
 obtain⟨q,u,v⟩:=c r hr
 refine⟨q,?_,by rw[Z4 g.nd hr];exact v⟩
 rw[<-u]
 exact .inl ⟨kvs,Sum.inr r.1,.inr ⟨o,a⟩,rfl,rfl⟩
theorem Jt {rs:jz} (g:qu rs) {z y:Str} (hz:z∈rs.map (·.1)) (hy:y∈jn rs z):y∈rs.map (·.1):=Qz g.nd _ hz _ ((jk g hz).mp hy)
theorem Vc {rs:jz} (g:qu rs) {z:Str} (hz:z∈rs.map (·.1)):(jn rs z).length<=40:=by
 obtain⟨r,hr,rfl⟩:=tE.mp hz
 rw[Z4 g.nd hr]
 exact g.two hr
def kn (rs:jz) (f:Str->Option Nat) (z:Str):List Nat:=(jn rs z).filterMap f
theorem V1 {rs:jz} {f:Str->Option Nat} {z:Str} {n:Nat}:n∈kn rs f z↔∃y∈jn rs z,f y=some n:=zal
theorem Z7 {rs:jz} {f:Str->Option Nat} {z:Str} {n:Nat}:Xh (jn rs) f z n↔(∀j,j < n->j∈kn rs f z)/\n∉kn rs f z/\∀y∈jn rs z,f y=none->n∈kn rs f y:=by
 unfold Xh
 simp only[V1]
 constructor
 . rintro⟨a,b,c⟩
   exact⟨a,λ⟨y,hy,e⟩=>b y hy e,c⟩
 . rintro⟨a,b,c⟩
   exact⟨a,λy hy e=>b ⟨y,hy,e⟩,c⟩
theorem jD.fr' {H H':Hp} {l d:Addr} {ps:List Addr} {rs:jz} {kv:List (qI×V)} (h:jD H l ps rs) (hd:H d=some (.dK kv)) (s:Fr H d H'):jD H' l ps rs:=by
 refine⟨s _ _ h.at_ (λe=>?_),⟨h.rows.1,λi p r e1 e2=>?_⟩,h.good,h.pos,h.le⟩
 . have:=h.at_
   rw[e,hd]at this
   cases this
 . obtain⟨q,a,b⟩:=h.rows.2 i p r e1 e2
   exact⟨q,s _ _ a (λe=>by rw[e,hd]at a;cases a),s _ _ b (λe=>by rw[e,hd]at b;cases b)⟩
structure QM (N:List Str) (H:Hp) (d:Addr) (f:Str->Option (Nat×Nat)):Prop where
 at_:∃kvs:List (qI×V),H d=some (.dK kvs)/\(∀z,f z=none->qY kvs (Sum.inr z:qI)=none)/\(∀z n s,f z=some (n,s)->∃t,qY kvs (Sum.inr z:qI)=some (.ref t)/\H t=some (.tup [.int (n:Nat),.int (s:Nat)]))/\(kvs.map (·.1)).Nodup/\∀k∈kvs.map (·.1),k∈N.map Sum.inr
theorem QM.mono {N:List Str} {H H':Hp} {d:Addr} {f:Str->Option (Nat×Nat)} (h:QM N H d f) (s:qr H H'):QM N H' d f:=⟨let ⟨kvs,a,b,c,e⟩:=h.at_;⟨kvs,s _ _ a,b,λz n m q=>let ⟨t,u,v⟩:=c z n m q;⟨t,u,s _ _ v⟩,e⟩⟩
theorem QM.isd {N:List Str} {H:Hp} {d:Addr} {f:Str->Option (Nat×Nat)} (h:QM N H d f):∃kvs:List (qI×V),H d=some (.dK kvs):=let ⟨kvs,a,_⟩:=h.at_;⟨kvs,a⟩
theorem QM.get {N:List Str} {H:Hp} {d:Addr} {f:Str->Option (Nat×Nat)} (h:QM N H d f) (z:Str):∃o:Option V,j8 H d (.str z) o/\o.isSome=(f z).isSome/\∀n s,f z=some (n,s)->∃t,o=some (.ref t)/\H t=some (.tup [.int (n:Nat),.int (s:Nat)]):=by
 obtain⟨kvs,a,b,c,_⟩:=h.at_
 refine⟨_,j8.k (k:=(Sum.inr z:qI)) a,?_,λn s e=>c z n s e⟩
 cases e:f z with
 | none=>rw[b z e];rfl
 | some p=>
   obtain⟨t,u,_⟩:=c z p.1 p.2 e
   rw[u];rfl
def f1 (f:Str->Option (Nat×Nat)) (z:Str):Option Nat:=(f z).map (·.1)
def UF:Sp:=λvs H Q _=>∃(d e:Addr) (rs:jz) (f:Str->Option (Nat×Nat)) (z:Str) (n:Nat),vs=[.ref d,.ref e,.str z,.int (n:Nat)]/\wL H d rs/\qu rs/\z∈rs.map (·.1)/\QM (rs.map (·.1)) H e f/\Q (.bl (decide (n∈kn rs (f1 f) z))) H
def WQ:Sp:=λvs H Q _=>∃(d e:Addr) (rs:jz) (f:Str->Option (Nat×Nat)) (z:Str) (n:Nat),vs=[.ref d,.ref e,.str z,.int (n:Nat)]/\wL H d rs/\qu rs/\z∈rs.map (·.1)/\QM (rs.map (·.1)) H e f/\n<=15/\
 ∀H' b,qr H H'->(b=true↔Xh (jn rs) (f1 f) z n)->Q (.bl b) H'
theorem kn1 {rs:jz} {f:Str->Option (Nat×Nat)} {z:Str} {n:Nat}:n∈kn rs (f1 f) z↔∃y∈jn rs z,∃s,f y=some (n,s):=by
 rw[V1]
 constructor
 . rintro⟨y,hy,e⟩
   obtain⟨p,e1,e2⟩:=zbp.mp e
   exact⟨y,hy,p.2,by rw[e1,<-e2]⟩
 . rintro⟨y,hy,s,e⟩
   exact⟨y,hy,by unfold f1;rw[e];rfl⟩
section
variable {P:Program} {w:World} {K:PySem.W.Frag} {mg:Str->Option Value} {base:Heap}
abbrev nLB:List Str:=["_law_roads","_law_found","_law_name","_law_number","_law_one"]
abbrev vT:List Str:=["_law_roads","_law_found","_law_name","_law_number"]
theorem NT:qG nLB vT (qo ZA):=⟨rfl,rfl,rfl,by decide+kernel,rfl,by decide+kernel,by decide+kernel⟩
theorem xq {f:Addr} {fd:FuncData} (F:Qn K "_law_back" "_law_back" ZA f fd):qB P w K mg base q5 1 f fd vT UF:=by
 refine F.okJ NT (λvs H Q E h=>?_) (λcdv A outer s H vs Q E hr h=>?_)
 . obtain⟨d,e,rs,ff,z,n,rfl,_⟩:=h
   rfl
 . obtain⟨d,e,rs,ff,z,n,rfl,ld,good,hz,fd,q⟩:=h
   have hu:=jQ hr
   refine⟨_,qg (jp PassesOwn.never rfl (Jd (qC hu (jv 0) (jv 2) (λ_ _=>rfl))) (qv (i:=4) NT.nd rfl (Or.inl rfl))
       (qh (qS (JW.pt (jN (Jc (ZC hu (jv 4) (jv 1))) (jC (qt jo (qD qw (qC hu (jv 1) (jv 4) (λ_ _=>rfl)) qf (λ_ _=>rfl)) (jv 3) (qp _))))) (qh (qA ja)) qF)))
     (qh (qA ja)),?_⟩
   obtain⟨q0,g0,hq0⟩:=ld.get good hz
   refine⟨_,rfl,_,rfl,d,_,rfl,g0,q0,rfl,⟨_,.of hq0⟩,?_⟩
   refine Z8 (K:=K) (a:=q0) (xs:=(jn rs z).map V.str) (λi σ' G=>∃v4,σ'=[some (.ref d),some (.ref e),some (.str z),some (.int (n:Nat)),v4]/\G=H/\∀y∈(jn rs z).take i,∀s,ff y≠some (n,s))
     ⟨_,rfl,rfl,λy h=>(nomatch h)⟩ (λi σ' G _ ⟨_,_,e,_⟩=>e▸.of hq0) ?_ ?_
   . rintro i x σ' G hx ⟨v4,rfl,rfl,hall⟩
     obtain⟨y,ey,hy,rfl⟩:=J9 hx
     obtain⟨o,go,eo,ho⟩:=fd.get y
     have step:(∀s,ff y≠some (n,s))->∃v4,[some (V.ref d),some (.ref e),some (.str z),some (.int (n:Nat)),some (.str y)]=[some (.ref d),some (.ref e),some (.str z),some (.int (n:Nat)),v4]/\G=G/\∀y∈(jn rs z).take (i+1),∀s,ff y≠some (n,s):=λno=>by
       refine⟨_,rfl,rfl,λu hu'=>?_⟩
       rw[tQ,ey]at hu'
       rcases tZ.mp hu' with h | h
       . exact hall u h
       . have:u=y:=by simpa using h
         rw[this];exact no
     refine⟨_,rfl,_,rfl,e,_,rfl,go,_,rfl,?_⟩
     rw[eo]
     cases cy:ff y with
     | none=>exact jg (jg (step λs h=>by rw[cy]at h;cases h))
     | some p=>
       obtain⟨t,et,ht⟩:=ho p.1 p.2 cy
       rw[et]at go
       refine jI ⟨_,rfl,_,rfl,e,_,rfl,go,t,_,0,_,rfl,rfl,.of ht,rfl,_,rfl,rfl,_,rfl,?_⟩
       by_cases c:p.1=n
       . refine qR (decide_eq_true (by rw[c])) ?_
         rw[decide_eq_true (kn1.mpr ⟨y,hy,p.2,by rw[cy,<-c]⟩)]at q
         exact q
       . refine qL (decide_eq_false λh=>c (by have:=V.int.inj h;omega)) (step λs h=>?_)
         rw[cy]at h
         cases h
         exact c rfl
   . rintro σ' G ⟨v4,rfl,rfl,hall⟩
     rw[tj,tF (tu _)]at hall
     rw[decide_eq_false (λh=>by obtain⟨y,hy,s,e⟩:=kn1.mp h;exact hall y hy s e)]at q
     exact q
abbrev nLC:List Str:=["_law_roads","_law_found","_law_name","_law_number","_law_beside","_law_one"]
theorem GX:qG nLC vT (qo Zb):=⟨rfl,rfl,rfl,by decide+kernel,rfl,by decide+kernel,by decide+kernel⟩
theorem kc {f fB:Addr} {fd fdB:FuncData} (F:Qn K "_law_comes" "_law_comes" Zb f fd) (B:JH mg) (hB:jr K mg "_law_back" ZA vT fB fdB):qB P w K mg base q5 2 f fd vT WQ:=by
 have GB:qB P w K mg base q5 1 fB fdB vT UF:=xq hB.fn
 refine F.okJ GX (λvs H Q E h=>?_) (λcdv A outer s H vs Q E hr h=>?_)
 . obtain⟨d,e,rs,ff,z,n,rfl,_⟩:=h
   rfl
 . obtain⟨d,e,rs,ff,z,n,rfl,ld,good,hz,fd,n15,q⟩:=h
   have hu:=jQ hr
   refine⟨_,qg (qz (i:=4) GX.nd rfl (Or.inr rfl) (Qt (N':=["_law_one","_law_found"]) (ix:=[none,some 1]) (tt:=tB (NM (qN 0) (qN 1))) (te:=Jf (JQ K) (JV (qN 1) (qN 0)) (tC (.int 0))) rfl ⟨rfl,rfl,rfl,rfl,rfl⟩ (Jd (qC hu (jv 0) (jv 2) (λ_ _=>rfl))) (λC s2 H2 fp pins=>
         ⟨qv (i:=0) (show (["_law_one","_law_found"]:List Str).Nodup by decide+kernel) rfl (Or.inl rfl),Qq (Jc (ZC hu (jv 0) (jv 1))),qD qw (qC hu (jv 1) (jv 0) (λ_ _=>rfl)) qf (λ_ _=>rfl)⟩)))
     (qg (qS (JW.pt (QU (qt zB (jv 3) (jv 4) (by with_unfolding_all rfl)) (Qp (qt (Wg (zbU hu)) (Qt (N':=["_law_k","_law_beside"]) (ix:=[none,some 4]) (tt:=Yi (Jf (MX K true) (qN 0) (qN 1))) (te:=qN 0) rfl ⟨rfl,rfl,rfl,rfl,rfl⟩ (jK (by rfl) B.rng (qb (jv 3) qd)) (λC s2 H2 fp pins=>
         ⟨qv (i:=0) (show (["_law_k","_law_beside"]:List Str).Nodup by decide+kernel) rfl (Or.inl rfl),Qq (qt Jq (jv 0) (jv 1) (by with_unfolding_all rfl)),jv 0⟩)) (qV qd) (qp _))))) (qh (qA ja)) qF)
     (qg (jp PassesOwn.never rfl (Jd (qC hu (jv 0) (jv 2) (λ_ _=>rfl))) (qv (i:=5) GX.nd rfl (Or.inl rfl))
       (qh (qS (JW.pt (jN (Jc (zE hu (jv 5) (jv 1))) (jC (j1 (jF (qO hB GB hr (by rfl) (qb (jv 0) (qb (jv 1) (qb (jv 5) (qb (jv 3) qd)))))))))) (qh (qA ja)) qF)))
     (qh (qA ja)))),?_⟩
   obtain⟨q0,g0,hq0⟩:=ld.get good hz
   refine⟨_,rfl,_,rfl,d,_,rfl,g0,q0,rfl,⟨_,.of hq0⟩,λW hW=>?_⟩
   refine Yf (K:=K) (a:=q0) (xs:=jn rs z) (enc:=V.str) (out:=λy=>(f1 ff y).map λn=>V.int (n:Nat)) (rest:=[some (.ref e)]) hW hq0 (qm (by have:=Vc good hz;omega)) ?_ ?_ ?_
   . intro x hx G' s5 R kk
     obtain⟨o,go,eo,_⟩:=(fd.mono s5).get x
     refine⟨_,rfl,_,rfl,e,_,rfl,go,_,rfl,?_⟩
     have:=kk G' λ_ _ h=>h
     rw[eo]
     unfold f1 at this
     rw[zaR,zaR]at this
     exact this
   . intro x hx v ev G' s5 R kk
     obtain⟨o,go,eo,ho⟩:=(fd.mono s5).get x
     cases cx:ff x with
     | none=>unfold f1 at ev;rw[cx]at ev;cases ev
     | some p=>
       obtain⟨t,et,ht⟩:=ho p.1 p.2 cx
       rw[et]at go
       have:v=V.int (p.1:Nat):=by unfold f1 at ev;rw[cx]at ev;exact(tK.inj ev).symm
       subst this
       exact⟨_,rfl,_,rfl,e,_,rfl,go,t,_,0,_,rfl,rfl,.of ht,rfl,kk G' λ_ _ h=>h⟩
   . intro G1 s1 hW1
     have eK:(jn rs z).filterMap (λy=>(f1 ff y).map λn=>V.int (n:Nat))=J3 (kn rs (f1 ff) z):=by
       unfold J3 kn
       rw[zdf]
     rw[eK]at hW1
     refine⟨_,rfl,_,rfl,W,_,rfl,.inl (.of hW1),rfl,Z6 _,_,rfl,?_⟩
     by_cases c:n∈kn rs (f1 ff) z
     . exact qR (show zQ (.int (n:Nat)) (J3 (kn rs (f1 ff) z))=true by rw[YW];exact decide_eq_true c) (jI (q G1 false s1 ⟨λh=>(nomatch h),λh=>absurd c (Z7.mp h).2.1⟩))
     refine qL (show zQ (.int (n:Nat)) (J3 (kn rs (f1 ff) z))=false by rw[YW];exact decide_eq_false c) ?_
     refine⟨_,rfl,(n:Int),rfl,by omega,by omega,λU hU=>?_⟩
     refine Kw (n:=n) (out:=λj=>if j∈kn rs (f1 ff) z then none else some (V.int (j:Nat))) (rest:=[some (.ref W)]) hU (qm (by omega)) ?_ ?_ ?_
     . intro x hx G' s5 R kk
       refine⟨_,rfl,_,rfl,W,_,rfl,.inl (.of (s5 _ _ hW1)),rfl,Z6 _,_,rfl,?_⟩
       have:=kk G' λ_ _ h=>h
       show R (!zQ (.int (x:Nat)) (J3 (kn rs (f1 ff) z))) G'
       rw[YW]
       by_cases c:x∈kn rs (f1 ff) z
       . rw[if_pos c]at this
         rw[decide_eq_true c]
         exact this
       . rw[if_neg c]at this
         rw[decide_eq_false c]
         exact this
     . intro x hx v ev G' s5 R kk
       have:v=V.int (x:Nat):=by
         split at ev
         . cases ev
         . exact(tK.inj ev).symm
       subst this
       exact⟨_,rfl,kk G' λ_ _ h=>h⟩
     . intro G2 s2 hU2
       have s12:=s1.trans s2
       generalize hls:(tU n).filterMap (λj=>if j∈kn rs (f1 ff) z then none else some (V.int (j:Nat)))=ls at hU2
       refine⟨by show 0<=sizeLine;decide,λl0 hl0=>?_⟩
       have s0:qr G2 (upd G2 l0 (.lst [])):=qj hl0
       refine⟨U,l0,_,rfl,rfl,.of (s0 _ _ hU2),.of qe,_,rfl,?_⟩
       have s3:qr H (upd G2 l0 (.lst [])):=s12.trans s0
       generalize upd G2 l0 (.lst [])=G3 at s0 s3
       have lsE:ls=[]↔∀j,j < n->j∈kn rs (f1 ff) z:=by
         rw[<-hls,List.filterMap_eq_nil_iff]
         constructor
         . intro h j hj
           have:=h j (zaP.mpr hj)
           by_cases c:j∈kn rs (f1 ff) z
           . exact c
           . rw[if_neg c]at this;cases this
         . intro h j hj
           rw[if_pos (h j (zaP.mp hj))]
       cases ls with
       | cons a ls=>
         refine jI (q G3 false s3 ⟨λh=>(nomatch h),λh=>?_⟩)
         have:=lsE.mpr (Z7.mp h).1
         cases this
       | nil=>
         refine jg ?_
         have lo:=lsE.mp rfl
         obtain⟨q1,g1,hq1⟩:=(ld.mono s3).get good hz
         refine⟨_,rfl,_,rfl,d,_,rfl,g1,q1,rfl,⟨_,.of hq1⟩,?_⟩
         refine Z8 (K:=K) (a:=q1) (xs:=(jn rs z).map V.str) (λi σ' G=>∃v5,σ'=[some (.ref d),some (.ref e),some (.str z),some (.int (n:Nat)),some (.ref W),v5]/\G=G3/\∀y∈(jn rs z).take i,f1 ff y=none->n∈kn rs (f1 ff) y)
           ⟨_,rfl,rfl,λy h=>(nomatch h)⟩ (λi σ' G _ ⟨_,_,e,_⟩=>e▸.of hq1) ?_ ?_
         . rintro i x σ' G hx ⟨v5,rfl,rfl,hall⟩
           obtain⟨y,ey,hy,rfl⟩:=J9 hx
           have hyN:=Jt good hz hy
           obtain⟨o,go,eo,_⟩:=(fd.mono s3).get y
           have step:(f1 ff y=none->n∈kn rs (f1 ff) y)->∃v5,[some (V.ref d),some (.ref e),some (.str z),some (.int (n:Nat)),some (.ref W),some (.str y)]=[some (.ref d),some (.ref e),some (.str z),some (.int (n:Nat)),some (.ref W),v5]/\G=G/\∀y∈(jn rs z).take (i+1),f1 ff y=none->n∈kn rs (f1 ff) y:=λhy'=>by
             refine⟨_,rfl,rfl,λu hu'=>?_⟩
             rw[tQ,ey]at hu'
             rcases tZ.mp hu' with h | h
             . exact hall u h
             . have:u=y:=by simpa using h
               rw[this];exact hy'
           refine⟨_,rfl,_,rfl,e,_,rfl,go,_,rfl,?_⟩
           rw[eo]
           cases cy:ff y with
           | some p=>exact jg (jg (step λh=>by unfold f1 at h;rw[cy]at h;cases h))
           | none=>
             refine jI ⟨_,rfl,_,rfl,_,rfl,_,rfl,d,e,rs,ff,y,n,rfl,ld.mono s3,good,hyN,fd.mono s3,_,rfl,?_⟩
             by_cases c2:n∈kn rs (f1 ff) y
             . rw[decide_eq_true c2]
               exact jg (step λ_=>c2)
             . rw[decide_eq_false c2]
               exact jI (q G false s3 ⟨λh=>(nomatch h),λh=>absurd ((Z7.mp h).2.2 y hy (by unfold f1;rw[cy];rfl)) c2⟩)
         . rintro σ' G ⟨v5,rfl,rfl,hall⟩
           rw[tj,tF (tu _)]at hall
           exact q G true s3 ⟨λ_=>Z7.mpr ⟨lo,c,hall⟩,λ_=>rfl⟩
end
open PySem L2 PyProof.Rows MLab
def fR (R:Rs Str) (z:Str):Option (Nat×Nat):=(jt R z).map λn=>(n,ZL R z)
theorem Kr (R:Rs Str) (z:Str):f1 (fR R) z=jt R z:=by
 unfold f1 fR
 cases jt R z<;>rfl
theorem Kl {rs:jz} (g:qu rs) {f:Str->Option Nat} {z:Str} {n:Nat} (hz:z∈rs.map (·.1)):Xh (jn rs) f z n↔Xh (ju rs) f z n:=by
 unfold Xh
 constructor
 . rintro⟨a,b,c⟩
   refine⟨λj hj=>let ⟨y,hy,e⟩:=a j hj;⟨y,(jk g hz).mp hy,e⟩,λy hy=>b y ((jk g hz).mpr hy),λy hy e=>?_⟩
   have hy':=(jk g hz).mpr hy
   obtain⟨u,hu,eu⟩:=c y hy' e
   exact⟨u,(jk g (Jt g hz hy')).mp hu,eu⟩
 . rintro⟨a,b,c⟩
   refine⟨λj hj=>let ⟨y,hy,e⟩:=a j hj;⟨y,(jk g hz).mpr hy,e⟩,λy hy=>b y ((jk g hz).mp hy),λy hy e=>?_⟩
   obtain⟨u,hu,eu⟩:=c y ((jk g hz).mp hy) e
   exact⟨u,(jk g (Jt g hz hy)).mpr hu,eu⟩
theorem QM.put {N:List Str} {H:Hp} {d t:Addr} {f:Str->Option (Nat×Nat)} (h:QM N H d f) {z:Str} {n s:Nat} (hz:z∈N) (hf:f z=none) (le:N.length<=14) (ht:H t=some (.tup [.int (n:Nat),.int (s:Nat)])):∃o,QE H d (.str z) (.ref t) (upd H d o)/\QM N (upd H d o) d (λy=>if y=z then some (n,s) else f y):=by
 obtain⟨kvs,a,b,c,nd,sub⟩:=h.at_
 have ln:kvs.length<=14:=by
   have:=Ze nd sub
   rw[tj,tj]at this
   omega
 have new:=b z hf
 have tD:∀{b:Addr} {xs:List V},H b=some (.tup xs)->b≠d:=λhb e=>by rw[e,a]at hb;cases hb
 refine⟨_,QE.k (k:=(Sum.inr z:qI)) a (qm (by omega)),⟨_,qe,λy hy=>?_,λy m u hy=>?_,UZ _ nd new,λk hk=>?_⟩⟩
 . by_cases e:y=z
   . rw[if_pos e]at hy;cases hy
   . rw[if_neg e]at hy
     rw[QB,if_neg (λq=>e (Sum.inr.inj q))]
     exact b y hy
 . by_cases e:y=z
   . rw[if_pos e]at hy
     cases hy
     subst e
     exact⟨t,by rw[QB,if_pos rfl],by rw[qi (tD ht)];exact ht⟩
   . rw[if_neg e]at hy
     obtain⟨t',u',v'⟩:=c y m u hy
     exact⟨t',by rw[QB,if_neg (λq=>e (Sum.inr.inj q))];exact u',by rw[qi (tD v')];exact v'⟩
 . rw[QC _ new,tL]at hk
   rcases tZ.mp hk with hk | hk
   . exact sub k hk
   . have:k=Sum.inr z:=by simpa using hk
     rw[this]
     exact tE.mpr ⟨z,hz,rfl⟩
theorem QM.congr {N:List Str} {H:Hp} {d:Addr} {f g:Str->Option (Nat×Nat)} (h:QM N H d f) (e:∀z,f z=g z):QM N H d g:=⟨let ⟨kvs,a,b,c,x⟩:=h.at_;⟨kvs,a,λz hz=>b z (by rw[e z];exact hz),λz n s hz=>c z n s (by rw[e z];exact hz),x⟩⟩
theorem QM.bare {rs:jz} {H:Hp} {d:Addr} {f:Str->Option (Nat×Nat)} (h:QM (rs.map (·.1)) H d f):zh (rs.map (·.1)) H d=JL rs (f1 f):=by
 obtain⟨kvs,a,b,c,_⟩:=h.at_
 unfold zh JL
 rw[a]
 show ((rs.map (·.1)).filter λz=>(qY kvs (Sum.inr z:qI)).isNone).length=_
 congr 1
 refine zdl λz _=>?_
 unfold f1
 cases e:f z with
 | none=>rw[b z e];rfl
 | some p=>
   obtain⟨t,u,_⟩:=c z p.1 p.2 e
   rw[u];rfl
def R7 (R:Rs Str) (n s:Nat) (ns:List Str) (z:Str):Option (Nat×Nat):=if z∈ns then some (n,s) else fR R z
theorem Kh {R:Rs Str} {n:Nat} {ns:List Str} (h:∀z∈ns,jt R z=none) (z:Str):R7 R n R.length ns z=fR (R++[(n,ns)]) z:=by
 unfold R7 fR
 by_cases c:z∈ns
 . rw[if_pos c,wz (h z c) c,UK (h z c) c]
   rfl
 . rw[if_neg c,Z9]
   cases e:jt R z with
   | some m=>
     show some (m,ZL R z)=some (m,ZL (R++[(n,ns)]) z)
     rw[(Q4 e).1]
   | none=>
     show none=Option.map _ (if z∈ns then some n else none)
     rw[if_neg c]
     rfl
def KS:Sp:=λvs H Q _=>∃(l:Addr) (ps:List Addr) (rs:jz),vs=[.ref l]/\jD H l ps rs/\
 ∀H' D R,qr H H'->H D=none->QM (rs.map (·.1)) H' D (fR R)->All (ju rs) (rs.map (·.1)) 0 [] R->Q (.ref D) H'
section
variable {P:Program} {w:World} {K:PySem.W.Frag} {mg:Str->Option Value} {base:Heap}
abbrev qax:List Str:=["_law_rows_here","_law_roads","_law_found","_law_step","_law_number","_law_coming","_law_name"]
theorem Zq:qG qax ["_law_rows_here"] (qo Ji):=⟨rfl,rfl,rfl,by decide+kernel,rfl,by decide+kernel,by decide+kernel⟩
theorem W4 {f fC fB:Addr} {fd fdC fdB:FuncData} (F:Qn K "_law_numbers" "_law_numbers" Ji f fd) (B:JH mg) (hdi:mg "dict"=none) (hB:jr K mg "_law_back" ZA vT fB fdB) (hC:jr K mg "_law_comes" Zb vT fC fdC):qB P w K mg base q5 3 f fd ["_law_rows_here"] KS:=by
 have GC:qB P w K mg base q5 2 fC fdC vT WQ:=kc hC.fn B hB
 refine F.okJ Zq (λvs H Q E h=>?_) (λcdv A outer s H vs Q E hr h=>?_)
 . obtain⟨l,ps,rs,rfl,_⟩:=h
   rfl
 . obtain⟨l,ps,rs,rfl,g,q⟩:=h
   have hu:=jQ hr
   refine⟨_,qg (qz (i:=1) Zq.nd rfl (Or.inl rfl) (V2 (jq (Y4 rfl) (by rfl) hdi boot_dict (qb (jv 0) qd))))
     (qg (qz (i:=2) Zq.nd rfl (Or.inl rfl) Qc)
     (qg (qz (i:=3) Zq.nd rfl (Or.inl rfl) qf)
     (qg (jp PassesOwn.never rfl (jK (by rfl) B.rng (qb qf qd)) (qv (i:=4) Zq.nd rfl (Or.inl rfl))
       (qg (qz (i:=5) Zq.nd rfl (Or.inl rfl) (qV (qb qx qd)))
       (qh (YS PassesOwn.never (qt (Wg (zbU hu)) (jv 5) (qV qd) (qp _))
         (qg (qz (i:=5) Zq.nd rfl (Or.inl rfl) (qV qd))
         (qg (jp PassesOwn.never rfl (Wn (jv 1)) (qv (i:=6) Zq.nd rfl (Or.inl rfl))
           (qh (qS (JW.pt (jN (Jc (zE hu (jv 6) (jv 2))) (jC (jF (qO hC GC hr (by rfl) (qb (jv 1) (qb (jv 2) (qb (jv 6) (qb (jv 4) qd))))))))) (qh (jO (Zt zaq zat zau jZ (jv 5) (qb (jv 6) qd)))) qF)))
         (qg (jp PassesOwn.never rfl (jl (jv 5)) (qv (i:=6) Zq.nd rfl (Or.inl rfl)) (qh (jL hu (jv 2) (jv 6) (qk (qb (jv 4) (qb (jv 3) qd))) rfl)))
         (qh (qz (i:=3) Zq.nd rfl (Or.inl rfl) (qH j5 (jv 3) (jq zG (by rfl) B.int boot_int (qb (qW (Wg (zbU hu)) (jv 5) (qV qd) (qp _)) qd))))))))))))
     (qh (qA (jv 2)))))),?_⟩
   have good:=g.good
   have le14:=g.le
   have nd:=good.nd
   have lN:(rs.map (·.1)).length=rs.length:=tj ..
   refine⟨_,rfl,xA (Vm g λd kvs hd ek hv=>⟨d,kvs,rfl,qe,λo=>?_⟩)⟩
   rw[jV]
   have s1:qr H (upd H d (.frz o (.dK kvs))):=qj hd
   have hd1:upd H d (.frz o (.dK kvs)) d=some (.frz o (.dK kvs)):=qe
   generalize upd H d (.frz o (.dK kvs))=H1 at s1 hd1
   intro e he
   have s2:qr H1 (upd H1 e (.dK [])):=qj he
   have he2:upd H1 e (.dK []) e=some (.dK []):=qe
   have he0:H e=none:=zw s1 he
   have nde:d≠e:=λz=>by rw[<-z,hd1]at he;cases he
   generalize upd H1 e (.dK [])=H2 at s2 he2
   have ldG:∀{G:Hp},Fr H2 e G->wL G d rs:=λfr=>by
     refine⟨o,kvs,fr _ _ (s2 _ _ hd1) nde,ek,λr hr=>?_⟩
     obtain⟨t,a,b⟩:=hv r hr
     have b2:=s2 _ _ (s1 _ _ b)
     exact⟨t,a,fr _ _ b2 (λz=>by rw[z,he2]at b2;cases b2)⟩
   have hdG:∀{G:Hp},Fr H2 e G->G d=some (.frz o (.dK kvs)):=λfr=>fr _ _ (s2 _ _ hd1) nde
   refine⟨15,rfl,by decide,by decide,?_⟩
   refine Ql (λi σ G=>∃(v4 v5 v6:Option V) (R:Rs Str),σ=[some (.ref l),some (.ref d),some (.ref e),some (.int (R.length:Nat)),v4,v5,v6]/\Fr H2 e G/\QM (rs.map (·.1)) G e (fR R)/\Xe (ju rs) (rs.map (·.1)) i R)
     ⟨none,none,none,[],rfl,Fr.refl,⟨[],he2,λz _=>rfl,λz n s h=>(nomatch h),zbn,λk h=>(nomatch h)⟩,.nil⟩ ?_ ?_
   . rintro i σ G hi ⟨v4,v5,v6,R0,rfl,fr0,fd0,up0⟩
     rw[zbC]
     have hi:i < 15:=by simpa using hi
     refine⟨by show 1<=sizeLine;decide,λc0 hc0=>?_⟩
     have sc:qr G (upd G c0 (.lst [V.str ""])):=qj hc0
     refine Yg (λσ G=>∃(v6:Option V) (c:Addr) (cs:List Str) (R:Rs Str),σ=[some (.ref l),some (.ref d),some (.ref e),some (.int (R.length:Nat)),some (.int (i:Nat)),some (.ref c),v6]/\Fr H2 e G/\QM (rs.map (·.1)) G e (fR R)/\G c=some (.lst (cs.map V.str))/\
         (∀R',J8 (ju rs) (rs.map (·.1)) i R R'->J8 (ju rs) (rs.map (·.1)) i R0 R')/\(cs=[]->wQ (ju rs) (rs.map (·.1)) R i []))
       (λσ G=>2*zh (rs.map (·.1)) G e+(match σ with | [_,_,_,_,_,some (.ref c),_]=>(match G c with | some (.lst (_::_))=>1 | _=>0) | _=>0))
       ⟨v6,c0,[""],R0,rfl,fr0.same sc,fd0.mono sc,qe,λR' h=>h,λh=>(nomatch h)⟩ ?_ ?_
     . rintro σ G ⟨v6,c,cs,R,rfl,fr,fd,hc,giv,fin⟩
       refine⟨_,rfl,by show 0<=sizeLine;decide,λl0 hl0=>?_⟩
       have s0:qr G (upd G l0 (.lst [])):=qj hl0
       refine⟨c,l0,_,rfl,rfl,.of (s0 _ _ hc),.of qe,_,rfl,?_⟩
       cases cs with
       | nil=>
         have r0:=fin rfl
         exact jg ⟨_,_,_,R,rfl,fr.same s0,fd.mono s0,.more up0 (giv R (.stop r0))⟩
       | cons c1 cs=>
         refine jI ⟨by show 0<=sizeLine;decide,λc2 hc2=>?_⟩
         have mu0:(2*zh (rs.map (·.1)) G e+(match G c with | some (.lst (_::_))=>1 | _=>0))=2*JL rs (jt R)+1:=by
           rw[hc]
           show 2*zh (rs.map (·.1)) G e+1=_
           rw[fd.bare]
           unfold JL
           simp only[Kr]
         have sA:qr G (upd (upd G l0 (.lst [])) c2 (.lst [])):=s0.trans (qj hc2)
         have hcA:upd (upd G l0 (.lst [])) c2 (.lst []) c2=some (.lst []):=qe
         have hc2G:G c2=none:=zw s0 hc2
         generalize upd (upd G l0 (.lst [])) c2 (.lst [])=GA at sA hcA
         refine⟨_,rfl,d,o,kvs,rs.map (·.1),rfl,hdG (fr.same sA),ek,?_⟩
         refine Wt (zs:=rs.map (·.1)) (λj σ' G'=>∃(v6:Option V) (ns:List Str),σ'=[some (.ref l),some (.ref d),some (.ref e),some (.int (R.length:Nat)),some (.int (i:Nat)),some (.ref c2),v6]/\qr G G'/\G' c2=some (.lst (ns.map V.str))/\ns.Sublist ((rs.map (·.1)).take j)/\∀x,x∈ns↔x∈(rs.map (·.1)).take j/\jt R x=none/\Xh (ju rs) (jt R) x i)
           ⟨v6,[],rfl,sA,hcA,List.nil_sublist _,λx=>by simp⟩ (λj σ' G' _ ⟨_,_,_,s,_⟩=>s _ _ (hdG fr)) ?_ ?_
         . rintro j z σ' G1 ez ⟨v6',ns,rfl,sG,hcG,sub,iff⟩
           have hz:z∈rs.map (·.1):=tY ez
           have hj:=(tw.mp ez).1
           have etk:(rs.map (·.1)).take (j+1)=(rs.map (·.1)).take j++[z]:=by rw[tQ,ez];rfl
           have nz:z∉(rs.map (·.1)).take j:=λm=>Qw nd ez (tE.mpr ⟨z,m,rfl⟩)
           have skip:∀{G2:Hp},qr G1 G2->¬(jt R z=none/\Xh (ju rs) (jt R) z i)->∃(v6:Option V) (ns:List Str),[some (V.ref l),some (.ref d),some (.ref e),some (.int (R.length:Nat)),some (.int (i:Nat)),some (.ref c2),some (.str z)]=[some (.ref l),some (.ref d),some (.ref e),some (.int (R.length:Nat)),some (.int (i:Nat)),some (.ref c2),v6]/\qr G G2/\G2 c2=some (.lst (ns.map V.str))/\ns.Sublist ((rs.map (·.1)).take (j+1))/\∀x,x∈ns↔x∈(rs.map (·.1)).take (j+1)/\jt R x=none/\Xh (ju rs) (jt R) x i:=λ{G2} s' no=>by
             refine⟨_,ns,rfl,sG.trans s',s' _ _ hcG,by rw[etk];exact sub.trans (List.sublist_append_left _ _),λx=>?_⟩
             rw[iff x,etk,tZ]
             constructor
             . rintro⟨a,b⟩;exact⟨.inl a,b⟩
             . rintro⟨a | a,b⟩
               . exact⟨a,b⟩
               . have:x=z:=by simpa using a
                 subst this
                 exact absurd b no
           have ls:ns.length<=14:=by
             have:=sub.length_le
             rw[tT,lN]at this
             omega
           obtain⟨ov,go,eo,_⟩:=(fd.mono sG).get z
           refine⟨_,rfl,_,rfl,e,_,rfl,go,_,rfl,?_⟩
           rw[eo]
           have e1:(fR R z).isSome=(jt R z).isSome:=by unfold fR;rw[zaR]
           rw[e1]
           cases cz:jt R z with
           | some m=>exact jg (jg (skip (λ_ _ h=>h) λh=>by rw[cz]at h;cases h.1))
           | none=>
             refine jI ⟨_,rfl,_,rfl,_,rfl,_,rfl,d,e,rs,fR R,z,i,rfl,(ldG fr).mono sG,good,hz,fd.mono sG,by omega,λG2 b s' hb=>⟨b,rfl,?_⟩⟩
             have eg:(f1 (fR R))=jt R:=funext (Kr R)
             rw[eg,Kl good hz]at hb
             cases b with
             | false=>exact jg (skip s' λh=>absurd (hb.mpr h.2) (by simp))
             | true=>
               have hc3:=s' _ _ hcG
               refine jI ⟨_,rfl,.inl ⟨rfl,_,.of hc3⟩,_,rfl,c2,_,_,rfl,rfl,hc3,by rw[tj];exact qm (by omega),_,ns++[z],rfl,qr.upd (sG.trans s') hc2G,by rw[tL];exact qe,by rw[etk];exact List.Sublist.append sub (List.Sublist.refl _),λx=>?_⟩
               rw[tZ,iff x,etk,tZ]
               constructor
               . rintro(⟨a,b⟩ | a)
                 . exact⟨.inl a,b⟩
                 . have:x=z:=by simpa using a
                   subst this
                   exact⟨.inr a,cz,hb.mp rfl⟩
               . rintro⟨a | a,b⟩
                 . exact .inl ⟨a,b⟩
                 . exact .inr a
         . rintro σ' G1 ⟨v6',ns,rfl,sG,hcG,sub,iff⟩
           rw[tF (tu _)]at sub iff
           have rnd:wQ (ju rs) (rs.map (·.1)) R i ns:=⟨iff,sub⟩
           have MZ:ns.Nodup:=nd.sublist sub
           have fr1:Fr H2 e G1:=fr.same sG
           have fd1:=fd.mono sG
           obtain⟨ke,hke⟩:=fd1.isd
           have nce:c2≠e:=λz=>by rw[z,hke]at hcG;cases hcG
           refine⟨_,rfl,c2,rfl,⟨_,.of hcG⟩,?_⟩
           refine j7 (K:=K) (a:=c2) (xs:=ns.map V.str) (λm σ' G2=>∃v6,σ'=[some (.ref l),some (.ref d),some (.ref e),some (.int (R.length:Nat)),some (.int (i:Nat)),some (.ref c2),v6]/\Fr H2 e G2/\G2 c2=some (.lst (ns.map V.str))/\QM (rs.map (·.1)) G2 e (R7 R i R.length (ns.take m)))
             ⟨v6',rfl,fr1,hcG,fd1.congr λz=>by unfold R7;rw[List.take_zero,if_neg (by simp)]⟩ (λm σ' G2 _ ⟨_,_,_,h,_⟩=>.of h) ?_ ?_
           . rintro m x σ' G2 hx ⟨v6'',rfl,fr2,hc2',fd2⟩
             obtain⟨z,ez,hz,rfl⟩:=J9 hx
             have hzN:=((iff z).mp hz).1
             have hzn:=((iff z).mp hz).2.1
             have nt:z∉ns.take m:=λq=>Qw MZ ez (tE.mpr ⟨z,q,rfl⟩)
             refine⟨_,rfl,_,rfl,by show 2<=sizeLine;decide,λt ht=>?_⟩
             have st:qr G2 (upd G2 t (.tup [.int (i:Nat),.int (R.length:Nat)])):=qj ht
             have htt:upd G2 t (.tup [.int (i:Nat),.int (R.length:Nat)]) t=some (.tup [.int (i:Nat),.int (R.length:Nat)]):=qe
             generalize upd G2 t (.tup [.int (i:Nat),.int (R.length:Nat)])=G3 at st htt
             obtain⟨o4,put,fd4⟩:=(fd2.mono st).put (z:=z) hzN (by unfold R7 fR;rw[if_neg nt,hzn];rfl) (by rw[lN];exact le14) htt
             refine⟨_,rfl,_,rfl,e,_,rfl,put,_,rfl,(fr2.same st).at_d,by rw[qi nce];exact st _ _ hc2',fd4.congr λy=>?_⟩
             unfold R7
             by_cases q:y=z
             . subst q
               rw[if_pos rfl,if_pos (by rw[tQ,ez];simp)]
             . rw[if_neg q]
               have im:(y∈ns.take (m+1))↔y∈ns.take m:=by
                 rw[tQ,ez,tZ]
                 exact⟨λh=>h.resolve_right (by simpa using q),.inl⟩
               by_cases h:y∈ns.take m
               . rw[if_pos h,if_pos (im.mpr h)]
               . rw[if_neg h,if_neg (λw=>h (im.mp w))]
           . rintro σ' G2 ⟨v6'',rfl,fr2,hc2',fd2⟩
             rw[tj,tF (tu _)]at fd2
             refine⟨_,rfl,_,rfl,by show 0<=sizeLine;decide,λl1 hl1=>?_⟩
             have s9:qr G2 (upd G2 l1 (.lst [])):=qj hl1
             refine⟨c2,l1,_,rfl,rfl,.of (s9 _ _ hc2'),.of qe,.inr ⟨_,rfl,_,_,rfl,rfl,?_⟩⟩
             have fr9:=fr2.same s9
             have fd9:=fd2.mono s9
             have hc9:=s9 _ _ hc2'
             generalize upd G2 l1 (.lst [])=G9 at fr9 fd9 hc9
             cases ns with
             | nil=>
               have eR:QM (rs.map (·.1)) G9 e (fR R):=fd9.congr λz=>by unfold R7;rw[if_neg (by simp)]
               refine⟨⟨v6'',c2,[],R,?_,fr9,eR,hc9,giv,λ_=>rnd⟩,?_⟩
               . show [_,_,_,some (V.int ((R.length:Int)+0)),_,_,_]=_
                 rw[Int.add_zero]
               . have:=eR.bare
                 show 2*zh (rs.map (·.1)) G9 e+(match G9 c2 with | some (.lst (_::_))=>1 | _=>0) < 2*zh (rs.map (·.1)) G e+(match G c with | some (.lst (_::_))=>1 | _=>0)
                 rw[mu0,hc9,this]
                 unfold JL
                 simp only[Kr]
                 show 2*_+0 < _
                 omega
             | cons n1 ns=>
               have nw:∀z∈n1::ns,jt R z=none:=λz hz=>((iff z).mp hz).2.1
               have eR:QM (rs.map (·.1)) G9 e (fR (R++[(i,n1::ns)])):=fd9.congr (Kh nw)
               refine⟨⟨v6'',c2,n1::ns,R++[(i,n1::ns)],?_,fr9,eR,hc9,λR' h=>giv R' (.more rnd (by simp) h),λh=>(nomatch h)⟩,?_⟩
               . show [_,_,_,some (V.int ((R.length:Int)+1)),_,_,_]=_
                 rw[tX,zaG]
                 rfl
               . have:=eR.bare
                 have lt:=KA (rs:=rs) (R:=R) (n:=i) (ns:=n1::ns) (λz hz=>⟨((iff z).mp hz).1,nw z hz⟩) (by simp)
                 show 2*zh (rs.map (·.1)) G9 e+(match G9 c2 with | some (.lst (_::_))=>1 | _=>0) < 2*zh (rs.map (·.1)) G e+(match G c with | some (.lst (_::_))=>1 | _=>0)
                 rw[mu0,hc9,this]
                 show 2*JL rs (f1 (fR (R++[(i,n1::ns)])))+1 < _
                 have e2:JL rs (f1 (fR (R++[(i,n1::ns)])))=JL rs (jt (R++[(i,n1::ns)])):=by
                   unfold JL
                   simp only[Kr]
                 rw[e2]
                 omega
     . rintro σ G Q1 Q2 kk ⟨x,ex,h1,h2⟩
       exact⟨x,ex,h1,λl0 hl0=>let ⟨a,b,xs,e1,e2,e3,e4,kb,e5,q1⟩:=h2 l0 hl0;⟨a,b,xs,e1,e2,e3,e4,kb,e5,kk _ _ q1⟩⟩
   . rintro σ G ⟨v4,v5,v6,R,rfl,fr,fd,up⟩
     exact⟨_,rfl,q G e R (λb u hb=>fr _ _ (s2 _ _ (s1 _ _ hb)) (qE hb he0)) he0 fd (up.whole (by rw[lN];show rs.length < 15;omega))⟩
end
open PySem L2 PyProof.Rows MLab
theorem yz {ns ms:List Nat} (h:∀x,x∈ns↔x∈ms):Rb.setN ns=Rb.setN ms:=zcZ λk=>by rw[Rb.testBit_setN,Rb.testBit_setN,decide_eq_decide.mpr (h k)]
theorem GH {rs:jz} (g:qu rs) {f:Str->Option Nat} {z:Str} (hz:z∈rs.map (·.1)):Rb.setN (kn rs f z)=Rb.setN (K7 rs f z):=yz λx=>by
 rw[V1,uY]
 constructor
 . rintro⟨y,hy,e⟩;exact⟨y,(jk g hz).mp hy,e⟩
 . rintro⟨y,hy,e⟩;exact⟨y,(jk g hz).mpr hy,e⟩
def KU:Sp:=λvs H Q _=>∃(l:Addr) (ps:List Addr) (rs:jz),vs=[.ref l]/\jD H l ps rs/\
 ∀H' D R,qr H H'->H D=none->Uq H' D rs R->All (ju rs) (rs.map (·.1)) 0 [] R->Q (.ref D) H'
section
variable {P:Program} {w:World} {K:PySem.W.Frag} {mg:Str->Option Value} {base:Heap}
abbrev qay:List Str:=["_law_rows_here","_law_found","_law_labels_here","_law_name","_law_leads_here","_law_bits","_law_one"]
theorem zK:qG qay ["_law_rows_here"] (qo ZY):=⟨rfl,rfl,rfl,by decide+kernel,rfl,by decide+kernel,by decide+kernel⟩
theorem VS {f fN fC fB:Addr} {fd fdN fdC fdB:FuncData} (F:Qn K "_law_labels" "_law_labels" ZY f fd) (B:JH mg) (hdi:mg "dict"=none) (hB:jr K mg "_law_back" ZA vT fB fdB) (hC:jr K mg "_law_comes" Zb vT fC fdC) (hN:jr K mg "_law_numbers" Ji ["_law_rows_here"] fN fdN):qB P w K mg base q5 4 f fd ["_law_rows_here"] KU:=by
 have GN:qB P w K mg base q5 3 fN fdN ["_law_rows_here"] KS:=W4 hN.fn B hdi hB hC
 refine F.okJ zK (λvs H Q E h=>?_) (λcdv A outer s H vs Q E hr h=>?_)
 . obtain⟨l,ps,rs,rfl,_⟩:=h
   rfl
 . obtain⟨l,ps,rs,rfl,g,q⟩:=h
   have hu:=jQ hr
   refine⟨_,qg (qz (i:=1) zK.nd rfl (Or.inl rfl) (qO hN GN hr (by rfl) (qb (jv 0) qd)))
     (qg (qz (i:=2) zK.nd rfl (Or.inl rfl) Qc)
     (qg (jp PassesOwn.never rfl (jl (jv 0)) (YT rfl (jw (qv (i:=3) zK.nd rfl (Or.inl rfl)) (jw (qv (i:=4) zK.nd rfl (Or.inl rfl)) Ju)))
       (qh (qS (Jc (ZC hu (jv 3) (jv 1)))
         (qh (jL hu (jv 2) (jv 3) (qH Qe (qk (qb qx qd)) (qC hu (jv 1) (jv 3) (λ_ _=>rfl))) rfl))
         (qg (qz (i:=5) zK.nd rfl (Or.inl rfl) qf)
         (qg (jp PassesOwn.never rfl (Jd (jv 4)) (qv (i:=6) zK.nd rfl (Or.inl rfl))
           (qh (qS (Jc (ZC hu (jv 6) (jv 1))) (qh (qz (i:=5) zK.nd rfl (Or.inl rfl) (qH xb (jv 5) (qH YG qf (qD qw (qC hu (jv 1) (jv 6) (λ_ _=>rfl)) qf (λ_ _=>rfl)))))) qF)))
         (qh (jL hu (jv 2) (jv 3) (qk (qb qx (qb (jv 5) qd))) rfl)))))))
     (qh (qA (jv 2))))),?_⟩
   have good:=g.good
   have le14:=g.le
   have nd:=good.nd
   refine⟨_,rfl,l,ps,rs,rfl,g,λH1 e R s1 he fd all=>?_⟩
   have L:=RJ (Qz nd) all
   intro D hD
   have hD0:H D=none:=zw s1 hD
   have sD:qr H1 (upd H1 D (.dK [])):=qj hD
   have hDD:upd H1 D (.dK []) D=some (.dK []):=qe
   generalize upd H1 D (.dK [])=H2 at sD hDD
   have s12:=s1.trans sD
   have fd2:=fd.mono sD
   have nDe:e≠D:=λz=>by
     obtain⟨k0,h0⟩:=fd.isd
     rw[z,hD]at h0;cases h0
   have fdG:∀{G:Hp},Fr H2 D G->QM (rs.map (·.1)) G e (fR R):=λfr=>by
     obtain⟨kvs,a,b,c,x⟩:=fd2.at_
     refine⟨kvs,fr _ _ a nDe,b,λz n s hz=>?_,x⟩
     obtain⟨t,u,v⟩:=c z n s hz
     exact⟨t,u,fr _ _ v (λq=>by rw[q,hDD]at v;cases v)⟩
   have nlD:l≠D:=λz=>by have:=s12 _ _ g.at_;rw[z,hDD]at this;cases this
   have gG:∀{G:Hp},Fr H2 D G->jD G l ps rs:=λfr=>(g.mono s12).fr' hDD fr
   refine⟨_,rfl,l,rfl,⟨_,.of (s12 _ _ g.at_)⟩,?_⟩
   refine j7 (K:=K) (a:=l) (xs:=ps.map V.ref) (λi σ' G=>∃(v3 v4 v5 v6:Option V) (kvs:List (qI×V)),σ'=[some (.ref l),some (.ref e),some (.ref D),v3,v4,v5,v6]/\Fr H2 D G/\G D=some (.dK kvs)/\kvs.map (·.1)=((rs.map (·.1)).take i).map Sum.inr/\∀r∈rs.take i,∃t,qY kvs (Sum.inr r.1:qI)=some (.ref t)/\G t=some (.tup (Xc rs R r.1)))
     ⟨none,none,none,none,[],rfl,Fr.refl,hDD,rfl,λr h=>(nomatch h)⟩ (λi σ' G _ ⟨_,_,_,_,_,_,f,_⟩=>.of (gG f).at_) ?_ ?_
   . rintro i y σ' G3 hy ⟨v3,v4,v5,v6,kvs,rfl,fr,hDk,ek,hv⟩
     obtain⟨p,qq,r,rfl,er,hr',ha,hb⟩:=(gG fr).rows.item hy
     have hi:=(tw.mp er).1
     have eN:(rs.map (·.1))[i]?=some r.1:=by rw[tH,er];rfl
     have hrN:r.1∈rs.map (·.1):=tE.mpr ⟨r,hr',rfl⟩
     have lk:kvs.length=i:=by
       have:=congrArg zax ek
       rw[tj,tj,tT,tj]at this
       omega
     have new:qY kvs (Sum.inr r.1:qI)=none:=QP (by rw[ek];exact Qw nd eN)
     have fin:∀(G4:Hp) (t:Addr) (v3 v4 v5 v6:Option V),qr G3 G4->G4 t=some (.tup (Xc rs R r.1))->∃H5,QE G4 D (.str r.1) (.ref t) H5/\
         ∃(v3' v4' v5' v6':Option V) (kvs:List (qI×V)),[some (V.ref l),some (.ref e),some (.ref D),v3,v4,v5,v6]=[some (.ref l),some (.ref e),some (.ref D),v3',v4',v5',v6']/\Fr H2 D H5/\H5 D=some (.dK kvs)/\kvs.map (·.1)=((rs.map (·.1)).take (i+1)).map Sum.inr/\∀r∈rs.take (i+1),∃t,qY kvs (Sum.inr r.1:qI)=some (.ref t)/\H5 t=some (.tup (Xc rs R r.1)):=λG4 t v3 v4 v5 v6 s4 ht=>by
       have h4:=s4 _ _ hDk
       refine⟨_,QE.k (k:=(Sum.inr r.1:qI)) h4 (qm (by omega)),v3,v4,v5,v6,jm kvs (Sum.inr r.1) (.ref t),rfl,(fr.same s4).at_d,qe,?_,λr2 hr2=>?_⟩
       . rw[QC _ new,tL,ek,tQ,eN,tL]
         rfl
       . have tD:∀{b:Addr} {xs:List V},G4 b=some (.tup xs)->b≠D:=λhb e=>by rw[e,h4]at hb;cases hb
         rw[tQ,er]at hr2
         rcases tZ.mp hr2 with h | h
         . obtain⟨t2,a,b⟩:=hv r2 h
           have ne:r2.1≠r.1:=λe=>by rw[e,new]at a;cases a
           refine⟨t2,?_,?_⟩
           . rw[QB,if_neg (λq=>ne (Sum.inr.inj q))];exact a
           . rw[qi (tD (s4 _ _ b))];exact s4 _ _ b
         . have:r2=r:=by simpa using h
           subst this
           exact⟨t,by rw[QB,if_pos rfl],by rw[qi (tD ht)];exact ht⟩
     refine⟨p,_,rfl,.of ha,rfl,_,_,rfl,_,_,rfl,rfl,?_⟩
     obtain⟨ov,go,eo,ho⟩:=(fdG fr).get r.1
     refine⟨_,rfl,_,rfl,e,_,rfl,go,_,rfl,?_⟩
     rw[eo]
     have e1:(fR R r.1).isSome=(jt R r.1).isSome:=by unfold fR;rw[zaR]
     rw[e1]
     cases cz:jt R r.1 with
     | some n=>
       have ef:fR R r.1=some (n,ZL R r.1):=by unfold fR;rw[cz];rfl
       obtain⟨t0,et,ht0⟩:=ho _ _ ef
       rw[et]at go
       have el:Xc rs R r.1=[.str "number",.int (n:Nat),.int (ZL R r.1:Nat)]:=by unfold Xc;rw[cz]
       refine jI ⟨by show 1<=sizeLine;decide,λt1 ht1=>?_⟩
       have s5:qr G3 (upd G3 t1 (.tup [.str "number"])):=qj ht1
       have go5:=(((fdG fr).mono s5).get r.1)
       obtain⟨ov5,go5,_,ho5⟩:=go5
       obtain⟨t5,et5,ht5⟩:=ho5 _ _ ef
       rw[et5]at go5
       refine⟨_,rfl,_,rfl,e,_,rfl,go5,t1,t5,_,_,rfl,rfl,qe,ht5,by show 1+2<=sizeLine;decide,λt6 G6 s6 ht6=>?_⟩
       obtain⟨H7,put,kk⟩:=fin G6 t6 (some (.str r.1)) (some (.ref qq)) v5 v6 (s5.trans s6) (by rw[el];exact ht6)
       exact⟨_,rfl,_,rfl,D,H7,rfl,put,kk⟩
     | none=>
       have el:Xc rs R r.1=[.str "endless",.int (Rb.setN (K7 rs (jt R) r.1):Nat)]:=by unfold Xc;rw[cz]
       refine jg ⟨_,rfl,qq,rfl,⟨_,.of hb⟩,?_⟩
       have eld:jn rs r.1=r.2:=Z4 nd hr'
       refine Z8 (K:=K) (a:=qq) (xs:=r.2.map V.str) (λm σ'' G4=>∃v6,σ''=[some (.ref l),some (.ref e),some (.ref D),some (.str r.1),some (.ref qq),some (.int (Rb.setN ((r.2.take m).filterMap (jt R)):Nat)),v6]/\G4=G3)
         ⟨v6,rfl,rfl⟩ (λm σ'' G4 _ ⟨_,_,e⟩=>e▸.of hb) ?_ ?_
       . rintro m x σ'' G4 hx ⟨v6',rfl,rfl⟩
         obtain⟨y,ey,hy,rfl⟩:=J9 hx
         obtain⟨oy,gy,eoy,hoy⟩:=(fdG fr).get y
         refine⟨_,rfl,_,rfl,e,_,rfl,gy,_,rfl,?_⟩
         rw[eoy]
         have e2:(fR R y).isSome=(jt R y).isSome:=by unfold fR;rw[zaR]
         rw[e2]
         have etk:(r.2.take (m+1)).filterMap (jt R)=(r.2.take m).filterMap (jt R)++[y].filterMap (jt R):=by
           rw[tQ,ey,zaV]
           rfl
         rw[etk]
         cases cy:jt R y with
         | none=>
           have e3:[y].filterMap (jt R)=[]:=by simp [cy]
           rw[e3,zaZ]
           exact jg ⟨_,rfl,rfl⟩
         | some n=>
           have e3:[y].filterMap (jt R)=[n]:=by simp [cy]
           have efy:fR R y=some (n,ZL R y):=by unfold fR;rw[cy];rfl
           obtain⟨ty,ety,hty⟩:=hoy _ _ efy
           rw[ety]at gy
           have hyN:y∈rs.map (·.1):=Jt good hrN (by rw[eld];exact hy)
           have n8:=VT good L hyN cy
           rw[e3,Rb.setN_snoc]
           refine jI ⟨_,rfl,_,rfl,_,rfl,e,_,rfl,gy,ty,_,0,_,rfl,rfl,.of hty,rfl,1,(n:Int),rfl,rfl,⟨by omega,by omega,by decide⟩,_,_,rfl,rfl,some (.str y),?_,rfl⟩
           have e9:(1:Int)*2^ ((n:Int).toNat)=((2^n:Nat):Int):=by
             rw[zdb,zad]
             exact(Int.natCast_pow 2 n).symm
           show [_,_,_,_,_,some (V.int (Builtin.bitOr (Rb.setN ((r.2.take m).filterMap (jt R)):Nat) ((1:Int)*2^ ((n:Int).toNat)))),_]=_
           rw[e9,bo]
       . rintro σ'' G4 ⟨v6',rfl,rfl⟩
         rw[tj,tF (tu _)]
         have ek2:Rb.setN (r.2.filterMap (jt R))=Rb.setN (K7 rs (jt R) r.1):=by
           have:=GH good (f:=jt R) hrN
           unfold kn at this
           rw[eld]at this
           exact this
         rw[ek2]
         refine⟨_,rfl,by show 2<=sizeLine;decide,λt ht=>?_⟩
         obtain⟨H7,put,kk⟩:=fin (upd G4 t (.tup [.str "endless",.int (Rb.setN (K7 rs (jt R) r.1):Nat)])) t (some (.str r.1)) (some (.ref qq)) (some (.int (Rb.setN (K7 rs (jt R) r.1):Nat))) v6' (qj ht) (by rw[el];exact qe)
         exact⟨_,rfl,_,rfl,D,H7,rfl,put,kk⟩
   . rintro σ' G3 ⟨v3,v4,v5,v6,kvs,rfl,fr,hDk,ek,hv⟩
     have lp:=(g.rows.1)
     rw[tj,lp]at ek hv
     rw[<-tj (f:=(·.1)) (as:=rs),tF (tu _)]at ek
     rw[tF (tu _)]at hv
     exact⟨_,rfl,q G3 D R (λb u h=>fr _ _ (s12 _ _ h) (qE h hD0)) hD0 ⟨kvs,hDk,ek,hv⟩ all⟩
end
open PySem L2 PyProof.Rows MLab
abbrev Zx:Stmt:=top 13
abbrev yH:Stmt:=top 26
abbrev Yw:Stmt:=top 30
abbrev Yu:Stmt:=top 31
abbrev Yx:Stmt:=top 33
inductive Xg where
 | str (x:Str) | int (i:Int) | oth
def Xg.isInt:Xg->Bool
 | .int _=>true
 | _=>false
def Xg.isS (z:Str):Xg->Bool
 | .str x=>decide (x=z)
 | _=>false
inductive Tg where
 | tup (its:List Xg) | no
mutual
theorem _root_.L2.DV.mono {K:PySem.W.Frag} {H H':Hp} (s:qr H H'):∀{x:V} {d:PyData},DV K H x d->DV K H' x d
 | _,_,.non=>.non
 | _,_,.bl b=>.bl b
 | _,_,.int i=>.int i
 | _,_,.str x=>.str x
 | _,_,.lst q hs=>.lst (q.elim (λe=>.inl (e.elim (λe=>.inl (s _ _ e)) λ⟨o,e⟩=>.inr ⟨o,s _ _ e⟩)) .inr) (L2.DVs.mono s hs)
 | _,_,.tup q hs=>.tup (q.elim (λe=>.inl (e.elim (λe=>.inl (s _ _ e)) λ⟨o,e⟩=>.inr ⟨o,s _ _ e⟩)) .inr) (L2.DVs.mono s hs)
theorem _root_.L2.DVs.mono {K:PySem.W.Frag} {H H':Hp} (s:qr H H'):∀{xs:List V} {ds:List PyData},DVs K H xs ds->DVs K H' xs ds
 | _,_,.nil=>.nil
 | _,_,.cons h hs=>.cons (L2.DV.mono s h) (L2.DVs.mono s hs)
end
theorem _root_.L2.DZ.mono {K:PySem.W.Frag} {H H':Hp} {v:V} {d:PyData} (h:DZ K H v d) (s:qr H H'):DZ K H' v d:=h.elim (λh=>.inl (h.mono s)) λ⟨a,e,r,q⟩=>.inr ⟨a,e,r.mono s,q⟩
inductive ZI (K:PySem.W.Frag) (H:Hp):V->Xg->Prop
 | str (x:Str):PyData.strOk x=true->ZI K H (.str x) (.str x)
 | int (i:Int):ZI K H (.int i) (.int i)
 | oth {v:V} {d:PyData}:DZ K H v d->okZ d->(∀x,d≠.str x)->(∀i,d≠.int i)->ZI K H v .oth
theorem ZI.mono {K:PySem.W.Frag} {H H':Hp} {v:V} {i:Xg} (h:ZI K H v i) (s:qr H H'):ZI K H' v i:=by
 cases h with
 | str x o=>exact .str x o
 | int i=>exact .int i
 | oth a b c d=>exact .oth (a.mono s) b c d
theorem _root_.L2.SqT.mono {K:PySem.W.Frag} {H H':Hp} {p:Addr} {xs:List V} (h:SqT K H p xs) (s:qr H H'):SqT K H' p xs:=by
 rcases h with (h | ⟨o,h⟩) | h
 . exact .inl (.inl (s _ _ h))
 . exact .inl (.inr ⟨o,s _ _ h⟩)
 . exact .inr h
inductive Zp (K:PySem.W.Frag) (H:Hp):V->Tg->Prop
 | tup {p:Addr} {xs:List V} {its:List Xg}:SqT K H p xs->Paired (ZI K H) xs its->Zp K H (.ref p) (.tup its)
 | no {v:V} {d:PyData}:DV K H v d->(∀ds,d≠.tuple ds)->Zp K H v .no
theorem Zp.mono {K:PySem.W.Frag} {H H':Hp} {v:V} {t:Tg} (h:Zp K H v t) (s:qr H H'):Zp K H' v t:=by
 cases h with
 | tup a b=>exact .tup (a.mono s) (Paired.mapP b λ_ _ z=>z.mono s)
 | no a b=>exact .no (a.mono s) b
def Qy:Tg->Option Lb
 | .tup [.str x,.int b]=>if x=Str.ofString "endless"/\0<=b/\b<=65535 then some (.end_ b.toNat) else none
 | .tup [.str x,.int n,.int s]=>if x=Str.ofString "number"/\(0<=n/\n<=15)/\0<=s then some (.num n.toNat s.toNat) else none
 | _=>none
def Qm:Tg->Option Lb
 | .tup [.str x,.int b]=>if x=Str.ofString "endless"/\0<=b/\b<=65535 then some (.end_ b.toNat) else none
 | .tup [.str x,.int n,.int s]=>if x=Str.ofString "number"/\0<=n/\0<=s then some (.num n.toNat s.toNat) else none
 | _=>none
structure ZJ (K:PySem.W.Frag) (mg:Str->Option Value):Prop where
 isi:mg "isinstance"=none
 bool:mg "bool"=none
 tup:mg "tuple"=none
 dict:mg "dict"=none
 kit:∀t∈Yh,∀c∈["int","bool","tuple","dict"],zao K (.type t) (.type c)=some (Wp t c)
theorem ZJ.at {K:PySem.W.Frag} {mg:Str->Option Value} (T:ZJ K mg) (d:PyData) {c:String} (h:c∈["int","bool","tuple","dict"]:=by simp):zao K (.type (yc d)) (.type c)=some (Wp (yc d) c):=T.kit _ (Gr d) _ h
theorem ZI.dz {K:PySem.W.Frag} {H:Hp} {v:V} {i:Xg} (h:ZI K H v i):∃d,DZ K H v d/\okZ d/\(if Wp (yc d) "int"=true then !Wp (yc d) "bool" else false)=i.isInt/\∀z,PyData.eqv d (.str z)=i.isS z:=by
 cases h with
 | str x o=>exact⟨.str x,.inl (.str x),.inr ⟨o,zah _⟩,rfl,λz=>by show (x==z)=decide (x=z);rw[zaz];simp⟩
 | int i=>exact⟨.int i,.inl (.int i),.inr ⟨rfl,zah _⟩,rfl,λz=>rfl⟩
 | @oth v d a b c e=>
   refine⟨d,a,b,?_,λz=>?_⟩
   . cases d<;>first | rfl | exact absurd rfl (e _) | exact absurd rfl (c _)
   . cases d<;>first | rfl | exact absurd rfl (c _)
theorem UV {α β:Type} {R:α->β->Prop} {xs:List α} {ys:List β} (h:Paired R xs ys) (l:xs.length=2):∃a b c d,xs=[a,b]/\ys=[c,d]/\R a c/\R b d:=by
 cases h with
 | nil=>cases l
 | cons h0 h=>
   cases h with
   | nil=>cases l
   | cons h1 h=>
     cases h with
     | nil=>exact⟨_,_,_,_,rfl,rfl,h0,h1⟩
     | cons _ _=>simp at l
theorem uD {α β:Type} {R:α->β->Prop} {xs:List α} {ys:List β} (h:Paired R xs ys) (l:xs.length=3):∃a b e c d f,xs=[a,b,e]/\ys=[c,d,f]/\R a c/\R b d/\R e f:=by
 cases h with
 | nil=>cases l
 | cons h0 h=>
   obtain⟨a,b,c,d,rfl,rfl,h1,h2⟩:=UV h (by simpa using l)
   exact⟨_,_,_,_,_,_,rfl,rfl,h0,h1,h2⟩
theorem xL {its:List Xg} (h:its.length≠2) (h':its.length≠3):Qy (.tup its)=none:=by
 unfold Qy
 split
 . rename_i e;cases e;exact absurd rfl h
 . rename_i e;cases e;exact absurd rfl h'
 . rfl
def ZQ (K:PySem.W.Frag):Sp:=λvs H Q _=>∃(v:V) (i:Xg),vs=[v]/\ZI K H v i/\Q (.bl i.isInt) H
def W5 (m:Int):Xg->Bool
 | .int i=>decide (0<=i)&&decide (i<=m)
 | _=>false
def UC (K:PySem.W.Frag) (m:Int):Sp:=λvs H Q _=>∃(v:V) (i:Xg),vs=[v]/\ZI K H v i/\Q (.bl (W5 m i)) H
def z5 (K:PySem.W.Frag):Sp:=λvs H Q _=>∃(v:V) (t:Tg),vs=[v]/\Zp K H v t/\Q (.bl (Qy t).isSome) H
theorem Y3 {X:Cx}:js X (.builtin "isinstance") (λxs H Q=>∃(p:Addr) (ys:List V) (c:String) (b:Bool),xs=[.ref p,.ty c]/\SqT X.K H p ys/\zao X.K (.type "tuple") (.type c)=some b/\Q (.bl b) H):=by
 intro pins s σ H xs us Q I r h
 obtain⟨p,ys,c,b,rfl,sq,e,q⟩:=h
 obtain⟨u,w',rfl,ru,rw'⟩:=ZM r
 cases ru
 cases rw'
 obtain⟨its,rv,⟨o,e1,hc,_⟩,hz⟩:=I.tuple sq
 exact zaj zbK I.kIn ⟨_,e1,hc⟩ e (λz=>nomatch z) λtk=>⟨.bl b,H,I.tok tk,rfl,q⟩
section
variable {P:Program} {w:World} {K:PySem.W.Frag} {mg:Str->Option Value} {base:Heap}
theorem ul:qG ["thing"] ["thing"] (qo Zx):=⟨rfl,rfl,rfl,by decide+kernel,rfl,by decide+kernel,by decide+kernel⟩
theorem YI {f:Addr} {fd:FuncData} (F:Qn K "is_whole" "is_whole" Zx f fd) (B:JH mg) (T:ZJ K mg):qB P w K mg base q5 1 f fd ["thing"] (ZQ K):=by
 refine F.okJ ul (λvs H Q E h=>?_) (λcdv A outer s H vs Q E hr h=>?_)
 . obtain⟨v,d,rfl,_⟩:=h
   rfl
 . obtain⟨v,i,rfl,zi,q⟩:=h
   refine⟨_,qh (qA (jJ (qy Jy (by rfl) T.isi boot_isinstance (qb (jv 0) (qb (j3 (v:=.ty "int") (by rfl) B.int boot_int rfl) qd)))
     (Qj (x5 (qy Jy (by rfl) T.isi boot_isinstance (qb (jv 0) (qb (j3 (v:=.ty "bool") (by rfl) T.bool boot_bool rfl) qd))))))),?_⟩
   obtain⟨d,dz,ok,e,_⟩:=zi.dz
   refine⟨_,rfl,_,_,d,_,rfl,.inl dz,T.at d,_,rfl,?_⟩
   refine J2 (λc=>?_) (λc=>?_)
   . rw[c,if_pos rfl]at e
     refine⟨_,rfl,_,_,d,_,rfl,.inl dz,T.at d,_,rfl,?_⟩
     rw[e]
     exact q
   . rw[if_neg c]at e
     rw[<-e]at q
     exact q
theorem ur:qG ["thing"] ["thing"] (qo Yw):=⟨rfl,rfl,rfl,by decide+kernel,rfl,by decide+kernel,by decide+kernel⟩
theorem uo:qG ["thing"] ["thing"] (qo Yu):=⟨rfl,rfl,rfl,by decide+kernel,rfl,by decide+kernel,by decide+kernel⟩
theorem xy {K:PySem.W.Frag} {H:Hp} {v:V} {i:Xg} {m:Int} {Q:VK} (zi:ZI K H v i) (q:Q (.bl (W5 m i)) H):NI (Uw (JJ (ZQ K) [] E0 (qM (qN 0) jT)) (Uw (Jf (US λi j=>.bl (decide (i<=j))) (tC (.int 0)) (qN 0)) (Jf (US λi j=>.bl (decide (i<=j))) (qN 0) (tC (.int m))))) {nx:=λ_ H'=>Q V.non H',rt:=Q} [some v] H:=by
 refine⟨_,rfl,v,i,rfl,zi,_,rfl,?_⟩
 cases zi with
 | str x o=>exact jg q
 | oth a b c d=>exact jg q
 | int i=>
   refine jI ⟨_,rfl,0,i,rfl,rfl,_,rfl,J2 (λc=>⟨_,rfl,i,m,rfl,rfl,?_⟩) (λc=>?_)⟩
   . have e:W5 m (.int i)=decide (i<=m):=by show (decide (0<=i)&&decide (i<=m))=_;rw[c];rfl
     rw[e]at q
     exact q
   . have e:W5 m (.int i)=false:=by show (decide (0<=i)&&decide (i<=m))=_;cases x:decide (0<=i) with | true=>exact absurd x c | false=>rfl
     rw[e]at q
     exact q
theorem Rw {f fW:Addr} {fd fdW:FuncData} (F:Qn K "is_number" "is_number" Yw f fd) (B:JH mg) (T:ZJ K mg) (hW:jr K mg "is_whole" Zx ["thing"] fW fdW) (m:∃t,mg "MOST_NUMBER"=some (.int 15 t)):qB P w K mg base q5 2 f fd ["thing"] (UC K 15):=by
 have GW:qB P w K mg base q5 1 fW fdW ["thing"] (ZQ K):=YI hW.fn B T
 obtain⟨t,hm⟩:=m
 refine F.okJ ur (λvs H Q E h=>?_) (λcdv A outer s H vs Q E hr h=>?_)
 . obtain⟨v,d,rfl,_⟩:=h
   rfl
 . obtain⟨v,i,rfl,zi,q⟩:=h
   exact⟨_,qh (qA (jJ (qO hW GW hr (by rfl) (qb (jv 0) qd)) (jJ (qW W0 qf (jv 0) (qp _)) (Qj (qW W0 (jv 0) (Zi (v:=.int 15) (by rfl) hm ⟨_,rfl⟩) (qp _)))))),xy zi q⟩
theorem Ru {f fW:Addr} {fd fdW:FuncData} (F:Qn K "is_set" "is_set" Yu f fd) (B:JH mg) (T:ZJ K mg) (hW:jr K mg "is_whole" Zx ["thing"] fW fdW) (m:∃t,mg "MOST_BITS"=some (.int 65535 t)):qB P w K mg base q5 2 f fd ["thing"] (UC K 65535):=by
 have GW:qB P w K mg base q5 1 fW fdW ["thing"] (ZQ K):=YI hW.fn B T
 obtain⟨t,hm⟩:=m
 refine F.okJ uo (λvs H Q E h=>?_) (λcdv A outer s H vs Q E hr h=>?_)
 . obtain⟨v,d,rfl,_⟩:=h
   rfl
 . obtain⟨v,i,rfl,zi,q⟩:=h
   exact⟨_,qh (qA (jJ (qO hW GW hr (by rfl) (qb (jv 0) qd)) (jJ (qW W0 qf (jv 0) (qp _)) (Qj (qW W0 (jv 0) (Zi (v:=.int 65535) (by rfl) hm ⟨_,rfl⟩) (qp _)))))),xy zi q⟩
theorem ut:qG ["thing"] ["thing"] (qo Yx):=⟨rfl,rfl,rfl,by decide+kernel,rfl,by decide+kernel,by decide+kernel⟩
theorem xu {f fW fN fS:Addr} {fd fdW fdN fdS:FuncData} (F:Qn K "is_label" "is_label" Yx f fd) (B:JH mg) (T:ZJ K mg) (hW:jr K mg "is_whole" Zx ["thing"] fW fdW) (hN:jr K mg "is_number" Yw ["thing"] fN fdN) (hS:jr K mg "is_set" Yu ["thing"] fS fdS) (m:∃t,mg "MOST_NUMBER"=some (.int 15 t)) (m':∃t,mg "MOST_BITS"=some (.int 65535 t)):qB P w K mg base q5 3 f fd ["thing"] (z5 K):=by
 have GW:qB P w K mg base q5 1 fW fdW ["thing"] (ZQ K):=YI hW.fn B T
 have GN:qB P w K mg base q5 2 fN fdN ["thing"] (UC K 15):=Rw hN.fn B T hW m
 have GS:qB P w K mg base q5 2 fS fdS ["thing"] (UC K 65535):=Ru hS.fn B T hW m'
 refine F.okJ ut (λvs H Q E h=>?_) (λcdv A outer s H vs Q E hr h=>?_)
 . obtain⟨v,t,rfl,_⟩:=h
   rfl
 . obtain⟨v,t,rfl,tg,q⟩:=h
   have hu:=jQ hr
   have r1:jE 1 _:=hr.mono (by decide)
   refine⟨_,qg (qS (j1 (jF (qy (QW.or Y3) (by rfl) T.isi boot_isinstance (qb (jv 0) (qb (j3 (v:=.ty "tuple") (by rfl) T.tup boot_tuple rfl) qd))))) (qh (qA ja)) qF)
     (qg (qS (qt jo (qy qU (by rfl) B.len boot_len (qb (jv 0) qd)) qf (qp _)) (qh (qA (jJ (qW (VQ hr.units) (qD qw (jv 0) qf (λ_ _=>rfl)) qx (qp _)) (Qj (qO hS GS (hr.mono (by decide)) (by rfl) (qb (qD qw (jv 0) qf (λ_ _=>rfl)) qd)))))) qF)
     (qg (qS (JW.pt (QU (qt WZ (qy qU (by rfl) B.len boot_len (qb (jv 0) qd)) qf (qp _)) (Qp (qt (Rp hr.units) (qD qw (jv 0) qf (λ_ _=>rfl)) qx (qp _))))) (qh (qA ja)) qF)
     (qh (qA (jJ (qO hN GN (hr.mono (by decide)) (by rfl) (qb (qD qw (jv 0) qf (λ_ _=>rfl)) qd)) (jJ (qO hW GW r1 (by rfl) (qb (qD qw (jv 0) qf (λ_ _=>rfl)) qd)) (Qj (qW W1 (qD qw (jv 0) qf (λ_ _=>rfl)) qf (qp _))))))))),?_⟩
   have ke:PyData.strOk (Str.ofString "endless")=true:=by decide+kernel
   have kn:PyData.strOk (Str.ofString "number")=true:=by decide+kernel
   cases tg with
   | no dv nt=>
     rename_i d
     refine⟨_,rfl,.inl ⟨_,_,d,_,rfl,dv,T.at d,_,rfl,?_⟩⟩
     rw[show Wp (yc d) "tuple"=false from by cases d<;>first | rfl | exact absurd rfl (nt _)]
     exact jI q
   | tup sq hs=>
     rename_i p xs its
     have kt:=T.kit "tuple" (by simp [Yh]) "tuple" (by simp)
     refine⟨_,rfl,.inr ⟨p,xs,_,_,rfl,sq,kt,_,rfl,jg ⟨_,rfl,p,xs,rfl,.inr sq,rfl,_,rfl,?_⟩⟩⟩
     have lx:=Paired.length hs
     refine J2 (λc=>?_) (λc=>?_)
     . have l2:xs.length=2:=by have:=V.int.inj (of_decide_eq_true c);omega
       obtain⟨x0,x1,i0,i1,rfl,rfl,h0,h1⟩:=UV hs l2
       . obtain⟨d0,z0,o0,_,e0⟩:=h0.dz
         refine⟨_,rfl,p,_,0,x0,rfl,rfl,sq,rfl,d0,_,rfl,z0,o0,ke,_,rfl,?_⟩
         rw[show (if false=true then !PyData.eqv d0 (PyData.str (Str.ofString "endless")) else PyData.eqv d0 (PyData.str (Str.ofString "endless")))=PyData.eqv d0 (PyData.str (Str.ofString "endless")) from rfl,e0]
         cases h0 with
         | int i=>exact jg q
         | oth _ _ _ _=>exact jg q
         | str x o=>
           refine J2 (λc=>⟨_,rfl,p,_,1,x1,rfl,rfl,sq,rfl,x1,i1,rfl,h1,?_⟩) (λc=>?_)
           . have ex:x=Str.ofString "endless":=of_decide_eq_true c
             have:(Qy (.tup [.str x,i1])).isSome=W5 65535 i1:=by
               cases i1 with
               | int b=>
                 show (if _ then _ else _:Option Lb).isSome=(decide (0<=b)&&decide (b<=65535))
                 by_cases h:0<=b/\b<=65535
                 . rw[if_pos ⟨ex,h⟩,decide_eq_true h.1,decide_eq_true h.2];rfl
                 . rw[if_neg (λz=>h z.2)]
                   by_cases h0:0<=b
                   . rw[decide_eq_true h0,decide_eq_false (λz=>h ⟨h0,z⟩)];rfl
                   . rw[decide_eq_false h0];rfl
               | str y=>rfl
               | oth=>rfl
             rw[<-this]
             exact q
           . have:(Qy (.tup [.str x,i1])).isSome=false:=by
               cases i1 with
               | int b=>show (if _ then _ else _:Option Lb).isSome=false;rw[if_neg (λz=>c (decide_eq_true z.1))];rfl
               | str y=>rfl
               | oth=>rfl
             rw[this]at q
             exact q
     . have n2:its.length≠2:=λz=>c (by rw[lx,z];decide)
       refine⟨_,rfl,p,xs,rfl,.inr sq,rfl,_,rfl,?_⟩
       refine J2 (λc3=>?_) (λc3=>?_)
       . have n3:its.length≠3:=λz=>by rw[lx,z]at c3;exact absurd c3 (by decide)
         have:(Qy (.tup its)).isSome=false:=by rw[xL n2 n3];rfl
         rw[this]at q
         exact jI q
       . have l3:xs.length=3:=Classical.byContradiction λz=>c3 (by rw[decide_eq_false (λy=>z (by have:=V.int.inj y;omega))];rfl)
         obtain⟨x0,x1,x2,i0,i1,i2,rfl,rfl,h0,h1,h2⟩:=uD hs l3
         . obtain⟨d0,z0,o0,_,e0⟩:=h0.dz
           refine⟨_,rfl,p,_,0,x0,rfl,rfl,sq,rfl,d0,_,rfl,z0,o0,kn,_,rfl,?_⟩
           rw[show (if true=true then !PyData.eqv d0 (PyData.str (Str.ofString "number")) else PyData.eqv d0 (PyData.str (Str.ofString "number")))= !PyData.eqv d0 (PyData.str (Str.ofString "number")) from rfl,e0]
           cases h0 with
           | int i=>exact jI q
           | oth _ _ _ _=>exact jI q
           | str x o=>
             refine J2 (λc=>?_) (λc=>?_)
             . have nx:¬x=Str.ofString "number":=λz=>by have c:(!decide (x=Str.ofString "number"))=true:=c;rw[decide_eq_true z]at c;exact absurd c (by decide)
               have:(Qy (.tup [.str x,i1,i2])).isSome=false:=by
                 cases i1<;>cases i2<;>first | rfl | (show (if _ then _ else _:Option Lb).isSome=false;rw[if_neg (λz=>nx z.1)];rfl)
               rw[this]at q
               exact q
             . have ex:x=Str.ofString "number":=Classical.byContradiction λz=>c (by show (!decide (x=Str.ofString "number"))=true;rw[decide_eq_false z];rfl)
               refine⟨_,rfl,p,_,1,x1,rfl,rfl,sq,rfl,x1,i1,rfl,h1,_,rfl,?_⟩
               cases h1 with
               | str y o=>exact jg q
               | oth _ _ _ _=>exact jg q
               | int n=>
                 refine J2 (λcn=>?_) (λcn=>?_)
                 . have hn:0<=n/\n<=15:=by
                     have:(decide (0<=n)&&decide (n<=15))=true:=cn
                     rw[zam]at this
                     exact⟨of_decide_eq_true this.1,of_decide_eq_true this.2⟩
                   refine⟨_,rfl,p,_,2,x2,rfl,rfl,sq,rfl,x2,i2,rfl,h2,_,rfl,?_⟩
                   cases h2 with
                   | str y o=>exact jg q
                   | oth _ _ _ _=>exact jg q
                   | int s'=>
                     refine jI ⟨_,rfl,p,_,2,_,rfl,rfl,sq,rfl,s',0,rfl,rfl,?_⟩
                     have:(Qy (.tup [.str x,.int n,.int s'])).isSome=decide (0<=s'):=by
                       show (if _ then _ else _:Option Lb).isSome=_
                       by_cases h:0<=s'
                       . rw[if_pos ⟨ex,hn,h⟩,decide_eq_true h];rfl
                       . rw[if_neg (λz=>h z.2.2),decide_eq_false h];rfl
                     rw[this]at q
                     exact q
                 . have:(Qy (.tup [.str x,.int n,i2])).isSome=false:=by
                     cases i2<;>first | rfl | (show (if _ then _ else _:Option Lb).isSome=false;rw[if_neg (λz=>cn (by show (decide (0<=n)&&decide (n<=15))=true;rw[decide_eq_true z.2.1.1,decide_eq_true z.2.1.2];rfl))];rfl)
                   rw[this]at q
                   exact q
end
open PySem L2 PyProof.Rows MLab
abbrev Zz:Stmt:=top 3
abbrev zy:Stmt:=top 34
abbrev Yq:Stmt:=top 35
abbrev vM:Stmt:=top 36
abbrev WR:Stmt:=top 37
abbrev Zc:Stmt:=top 38
abbrev Yr:Stmt:=top 39
abbrev WV:Stmt:=top 40
abbrev WT:Stmt:=top 41
abbrev Zy:Stmt:=top 42
section
variable {P:Program} {w:World} {K:PySem.W.Frag} {mg:Str->Option Value} {base:Heap}
theorem bx (a b:Nat):Builtin.bitXor a b=((a^^^b:Nat):Int):=by
 unfold Builtin.bitXor
 rw[bo,ba]
 have:=Rb.or_and_xor a b
 omega
def X5:Sp:=λvs H Q _=>∃b:Nat,vs=[.int b]/\b < 65536/\∀l,H l=none->Q (.ref l) (upd H l (.lst (J3 (Rb.memN b 16))))
theorem Kz (b:Nat):b < 2^ (Builtin.Int.intBits (b:Nat)):=by
 unfold Builtin.Int.intBits
 by_cases h:b=0
 . subst h;simp
 . rw[if_neg (by simpa using h)]
   exact Nat.lt_log2_self
theorem XR {b:Nat} (h:b < 65536):Builtin.Int.intBits (b:Nat)<=16:=by
 unfold Builtin.Int.intBits
 by_cases h0:b=0
 . subst h0;simp
 . rw[if_neg (by simpa using h0)]
   have:b.log2 < 16:=(Nat.log2_lt h0).mpr h
   exact this
theorem UG (b i:Nat):Builtin.bitAnd ((b:Int) / 2^ ((i:Nat):Int).toNat) 1=(((b.testBit i).toNat:Nat):Int):=by
 have e1:(b:Int) / 2^ ((i:Nat):Int).toNat=((b / 2^i:Nat):Int):=by rw[zad];push_cast;rfl
 have e2:Builtin.bitAnd ((b / 2^i:Nat):Int) 1=(((b / 2^i)&&& 1:Nat):Int):=ba (b / 2^i) 1
 rw[e1,e2,Nat.and_one_is_mod,Rb.testBit_div]
 by_cases h:b / 2^i % 2=1
 . rw[h];rfl
 . have h':b / 2^i % 2=0:=by omega
   rw[h'];rfl
theorem um:qG ["bits"] ["bits"] (qo Zz):=⟨rfl,rfl,rfl,by decide+kernel,rfl,by decide+kernel,by decide+kernel⟩
theorem W2 {f:Addr} {fd:FuncData} (F:Qn K "numbers_in" "numbers_in" Zz f fd) (B:JH mg):qB P w K mg base q5 1 f fd ["bits"] X5:=by
 refine F.okJ um (λvs H Q E h=>?_) (λcdv A outer s H vs Q E hr h=>?_)
 . obtain⟨b,rfl,_⟩:=h
   rfl
 . obtain⟨b,rfl,hb,q⟩:=h
   refine⟨_,qh (qA (Qt (N':=["number","bits"]) (ix:=[none,some 0]) rfl ⟨rfl,rfl,rfl,rfl,rfl⟩
     (jK (by rfl) B.rng (qb (wb PySem.F.plainAttrs_int PySem.F.slot_int_bit_length PySem.F.type_int_bit_length ko (jv 0)) qd))
     (λC s2 H2 fp pins=>⟨qv (i:=0) (show (["number","bits"]:List Str).Nodup by decide+kernel) rfl (Or.inl rfl),Qq (qt jo (qH xf (qH xa (jv 1) (jv 0)) qf) qf (qp _)),jv 0⟩))),?_⟩
   refine⟨_,rfl,rfl,_,rfl,rfl,_,rfl,by omega,?_,λD hD=>?_⟩
   . have:=XR hb
     omega
   . rw[zad]
     refine Zk (λi σ' H'=>∃v,σ'=[v,some (.int b)]/\H'=upd H D (.lst (J3 (Rb.memN b i)))) ⟨none,rfl,rfl⟩ ?_ ?_
     . rintro i σ' H' hi ⟨v,rfl,rfl⟩
       rw[zbC]
       refine⟨_,rfl,_,rfl,_,_,rfl,rfl,by omega,_,_,rfl,rfl,rfl,_,rfl,?_⟩
       have e:decide (V.int (Builtin.bitAnd ((b:Int) / 2^ ((i:Nat):Int).toNat) 1)=V.int 1)=b.testBit i:=by
         rw[UG]
         cases b.testBit i<;>decide
       rw[e]
       have l:(J3 (Rb.memN b i)).length < sizeLine:=by
         rw[Ye]
         refine qm ?_
         have:=XR hb
         have h1:(Rb.memN b i).length<=(tU i).length:=zaT _ _
         rw[zai]at h1
         omega
       cases hb':b.testBit i with
       | true=>
         refine jI ⟨_,rfl,_,qe,l,some (.int i),rfl,?_⟩
         rw[jV,wn,Rb.memN_succ,hb']
         rfl
       | false=>
         refine jg ⟨some (.int i),rfl,?_⟩
         rw[Rb.memN_succ,hb']
         simp
     . rintro σ' H' ⟨v,rfl,rfl⟩
       rw[Rb.memN_same (m:=16) hb (Kz b)]
       exact q D hD
end
theorem Zj {α β:Type} (f:α->β) (l:List α):l.filterMap (λx=>some (f x))=l.map f:=by
 exact congrFun (List.filterMap_eq_map (f:=f)) l
theorem RY:Wp "dict" "dict"=true:=by decide
def Vd:Lb->List V
 | .num n s=>[.str (Str.ofString "number"),.int (n:Nat),.int (s:Nat)]
 | .end_ b=>[.str (Str.ofString "endless"),.int (b:Nat)]
def Xf (K:PySem.W.Frag) (H:Hp) (v:V) (l:Lb):Prop:=∃p,v=.ref p/\SqT K H p (Vd l)
theorem Xf.mono {K:PySem.W.Frag} {H H':Hp} {v:V} {l:Lb} (h:Xf K H v l) (s:qr H H'):Xf K H' v l:=let ⟨p,e,q⟩:=h;⟨p,e,q.mono s⟩
structure Um (K:PySem.W.Frag) (H:Hp) (D:Addr) (rs:jz) (f:Str->Lb):Prop where
 at_:∃kvs,Rd H D (.dK kvs)/\∀z∈rs.map (·.1),∃v,qY kvs (Sum.inr z:qI)=some v/\Xf K H v (f z)
theorem Um.mono {K:PySem.W.Frag} {H H':Hp} {D:Addr} {rs:jz} {f:Str->Lb} (h:Um K H D rs f) (s:qr H H'):Um K H' D rs f:=⟨let ⟨kvs,a,b⟩:=h.at_;⟨kvs,a.mono s,λz hz=>let ⟨v,e,l⟩:=b z hz;⟨v,e,l.mono s⟩⟩⟩
theorem Um.get {K:PySem.W.Frag} {H:Hp} {D:Addr} {rs:jz} {f:Str->Lb} (h:Um K H D rs f) {z:Str} (hz:z∈rs.map (·.1)):∃p,j8 H D (.str z) (some (.ref p))/\SqT K H p (Vd (f z)):=by
 obtain⟨kvs,a,b⟩:=h.at_
 obtain⟨v,e,p,rfl,sq⟩:=b z hz
 have g:=j8.r (k:=(Sum.inr z:qI)) a
 rw[e]at g
 exact⟨p,g,sq⟩
def KE (rs:jz) (f:Str->Lb):Prop:=∀z∈rs.map (·.1),match f z with
 | .num n _=>n < 1000
 | .end_ b=>b < 65536
theorem xB {rs:jz} {f:Str->Lb} (hn:(rs.map (·.1)).Nodup) (h:KE rs f) {z:Str} (hz:z∈rs.map (·.1)):∀x∈JR (ju rs) f z,x < 1000:=λx hx=>by
 obtain⟨y,hy,e⟩:=Wi.mp hx
 have:=h y (Qz hn z hz y hy)
 revert this e
 cases f y with
 | num n s=>intro e h;cases e;exact h
 | end_ b=>intro e;cases e
theorem U0 {rs:jz} {f:Str->Lb} (z:Str):(JR (ju rs) f z).length<=rs.length:=tV (zas _ _) (Kn z)
def X9 (K:PySem.W.Frag):Sp:=λvs H Q _=>∃(v u:V) (l:Lb) (n s:Nat),vs=[v,u]/\Xf K H v l/\Xf K H u (.num n s)/\Q (.bl (qT n s l)) H
def X4 (K:PySem.W.Frag) (CG:Addr):Sp:=λvs H Q _=>∃(g D:Addr) (u:V) (rs:jz) (f:Str->Lb) (y:Str) (n s:Nat),vs=[.ref g,.ref D,u,.str y]/\Q0 CG H g rs/\qu rs/\rs.length<=14/\Um K H D rs f/\Xf K H u (.num n s)/\y∈rs.map (·.1)/\
 ∀H' b,qr H H'->(b=true↔jA (ju rs) f n s y)->Q (.bl b) H'
def yp (K:PySem.W.Frag) (CG:Addr):Sp:=λvs H Q _=>∃(g D:Addr) (rs:jz) (f:Str->Lb) (z:Str),vs=[.ref g,.ref D,.str z]/\Q0 CG H g rs/\qu rs/\rs.length<=14/\Um K H D rs f/\z∈rs.map (·.1)/\
 ∀H' l,qr H H'->H' l=some (.lst (J3 (JR (ju rs) f z)))->Q (.ref l) H'
def VD (K:PySem.W.Frag) (CG:Addr):Sp:=λvs H Q _=>∃(g D:Addr) (rs:jz) (f:Str->Lb) (z:Str) (n s:Nat),vs=[.ref g,.ref D,.str z]/\Q0 CG H g rs/\qu rs/\rs.length<=14/\Um K H D rs f/\z∈rs.map (·.1)/\f z=.num n s/\
 ∀H' b,qr H H'->(b=true↔jM (ju rs) f z)->Q (.bl b) H'
theorem Ge (l:List Str) (g:Str->Option Nat):l.filterMap (λy=>(g y).map λn=>V.int (n:Nat))=J3 (l.filterMap g):=by
 unfold J3
 rw[zdf]
section
variable {P:Program} {w:World} {K:PySem.W.Frag} {mg:Str->Option Value} {base:Heap}
theorem uv:qG ["other","label"] ["other","label"] (qo zy):=⟨rfl,rfl,rfl,by decide+kernel,rfl,by decide+kernel,by decide+kernel⟩
theorem xx {f:Addr} {fd:FuncData} (F:Qn K "is_ahead" "is_ahead" zy f fd):qB P w K mg base q5 1 f fd ["other","label"] (X9 K):=by
 refine F.okJ uv (λvs H Q E h=>?_) (λcdv A outer s H vs Q E hr h=>?_)
 . obtain⟨v,u,l,n,s,rfl,_⟩:=h
   rfl
 . obtain⟨v,u,l,n,s',rfl,⟨p,rfl,sp⟩,⟨p2,rfl,sp2⟩,q⟩:=h
   refine⟨_,qh (qA (jJ (qW jo (qD qw (jv 0) qf (λ_ _=>rfl)) qx (qp _)) (jJ (qW jo (qD qw (jv 0) qf (λ_ _=>rfl)) (qD qw (jv 1) qf (λ_ _=>rfl)) (qp _)) (Qj (qW Qb (qD qw (jv 0) qf (λ_ _=>rfl)) (qD qw (jv 1) qf (λ_ _=>rfl)) (qp _)))))),?_⟩
   cases l with
   | end_ b=>exact⟨_,rfl,p,_,0,_,rfl,rfl,sp,rfl,rfl,_,rfl,qL (by decide+kernel) q⟩
   | num m t=>
     refine⟨_,rfl,p,_,0,_,rfl,rfl,sp,rfl,rfl,_,rfl,qR (by decide+kernel) ⟨_,rfl,p,_,1,_,rfl,rfl,sp,rfl,_,rfl,p2,_,1,_,rfl,rfl,sp2,rfl,rfl,_,rfl,?_⟩⟩
     by_cases c:m=n
     . refine qR (decide_eq_true (by rw[c])) ⟨_,rfl,p,_,2,_,rfl,rfl,sp,rfl,_,rfl,p2,_,2,_,rfl,rfl,sp2,rfl,(t:Int),(s':Int),rfl,rfl,?_⟩
       have e:qT n s' (.num m t)=decide ((t:Int) < (s':Int)):=by
         show (decide (m=n)&&decide (t < s'))=_
         rw[decide_eq_true c,zde]
         exact decide_eq_decide.mpr (by omega)
       rw[e]at q
       exact q
     . refine qL (decide_eq_false λz=>c (by have:=V.int.inj z;omega)) ?_
       have e:qT n s' (.num m t)=false:=by
         show (decide (m=n)&&decide (t < s'))=_
         rw[decide_eq_false c]
         rfl
       rw[e]at q
       exact q
theorem UH:qG ["ground","told","label","end","other"] ["ground","told","label","end"] (qo Yq):=⟨rfl,rfl,rfl,by decide+kernel,rfl,by decide+kernel,by decide+kernel⟩
theorem xl {f fA CG:Addr} {fd fdA:FuncData} (F:Qn K "road_fits" "road_fits" Yq f fd) (B:JH mg) (G:Je mg) (T:J7 K mg) (M:GM K mg CG) (any:mg "any"=none) (hA:jr K mg "is_ahead" zy ["other","label"] fA fdA):qB P w K mg base q5 3 f fd ["ground","told","label","end"] (X4 K CG):=by
 obtain⟨fI,fdI,C⟩:=M.cls
 obtain⟨fR,fdR,hR⟩:=M.fr
 obtain⟨fN,fdN,hN⟩:=M.isn
 have GR:qB P w K mg base q5 2 fR fdR ["self","name"] (ZR CG):=Z3 hR.fn C B G T hN
 have GA:qB P w K mg base q5 1 fA fdA ["other","label"] (X9 K):=xx hA.fn
 refine F.okJ UH (λvs H Q E h=>?_) (λcdv A outer s H vs Q E hr h=>?_)
 . obtain⟨g,D,u,rs,f,y,n,s,rfl,_⟩:=h
   rfl
 . obtain⟨g,D,u,rs,f,y,n,s',rfl,gr,good,le14,td,⟨p2,rfl,sp2⟩,hy,q⟩:=h
   have hu:=jQ hr
   have r1:jE 1 _:=hr.mono (by decide)
   refine⟨_,qg (qz (i:=4) UH.nd rfl (Or.inl rfl) (qC hu (jv 1) (jv 3) (λ_ _=>rfl)))
     (Z5 (qS (JW.pt (jN (qt jo (qD qw (jv 4) qf (λ_ _=>rfl)) qx (qp _)) (jC (qt Qb (qD qw (jv 4) qf (λ_ _=>rfl)) (qD qw (jv 2) qf (λ_ _=>rfl)) (qp _))))) (qh (qA (qW Qb (qD qw (jv 4) qf (λ_ _=>rfl)) (qD qw (jv 2) qf (λ_ _=>rfl)) (qp _)))) qF)
     (qh (qA (qy (k7 rfl) (by rfl) any boot_any (qb (Qt (N':=["back","label","told"]) (ix:=[none,some 2,some 1]) (te:=JJ (X9 K) [] E0 (qM (JV (qN 2) (qN 0)) (qM (qN 1) jT))) rfl ⟨rfl,rfl,rfl,rfl,rfl⟩ (jl (U5 hR C.cl GR (hr.mono (by decide)) (jv 0) (qb (jv 3) qd))) (λC s2 H2 fp pins=>
       ⟨qv (i:=0) (show (["back","label","told"]:List Str).Nodup by decide+kernel) rfl (Or.inl rfl),j9,qO hA GA r1 (by rfl) (qb (qC hu (jv 2) (jv 0) (λ_ _=>rfl)) (qb (jv 1) qd))⟩)) qd))))),?_⟩
   obtain⟨p,gp,sp⟩:=td.get hy
   obtain⟨r,hr',er⟩:=tE.mp hy
   have egy:ju rs y=jU rs r:=by rw[<-er,Jv good.nd hr']
   refine⟨_,rfl,_,rfl,D,_,rfl,gp,?_⟩
   refine⟨λσ' H'=>H'=H/\σ'=[some (.ref g),some (.ref D),some (.ref p2),some (.str y),some (.ref p)]/\((∃x∈ju rs y,qT n s' (f x)=true)↔jA (ju rs) f n s' y),?_,?_⟩
   . have sr:qr H H:=λ_ _ z=>z
     unfold jA
     unfold jA at q
     cases ef:f y with
     | end_ b=>
       rw[ef]at sp
       exact⟨_,rfl,p,_,0,_,rfl,rfl,sp,rfl,rfl,_,rfl,qL (by decide+kernel) (jg ⟨rfl,rfl,Iff.rfl⟩)⟩
     | num m t=>
       rw[ef]at sp q
       refine⟨_,rfl,p,_,0,_,rfl,rfl,sp,rfl,rfl,_,rfl,qR (by decide+kernel) ⟨_,rfl,p,_,1,_,rfl,rfl,sp,rfl,_,rfl,p2,_,1,_,rfl,rfl,sp2,rfl,(m:Int),(n:Int),rfl,rfl,_,rfl,?_⟩⟩
       by_cases c:m < n
       . refine qR (decide_eq_true (by omega)) ⟨_,rfl,p,_,2,_,rfl,rfl,sp,rfl,_,rfl,p2,_,2,_,rfl,rfl,sp2,rfl,(t:Int),(s':Int),rfl,rfl,q H _ sr ?_⟩
         rw[decide_eq_true_iff]
         show _↔if m < n then t < s' else _
         rw[if_pos c]
         omega
       . refine qL (decide_eq_false (by omega)) ⟨rfl,rfl,?_⟩
         show _↔if m < n then t < s' else _
         rw[if_neg c]
   . rintro σ' H' ⟨rfl,rfl,iff⟩
     obtain⟨dx,fs,hg,l1,l2⟩:=gr.ins
     refine⟨_,rfl,g,dx,fs,rfl,hg,l2,_,rfl,g,rs,r,by rw[er];rfl,gr,hr',good.nm r hr',λH1 le s1 hle=>⟨le,rfl,⟨_,.of qe⟩,λW hW=>?_⟩⟩
     have s2:qr H' (upd H1 le (.lst ((jU rs r).map V.str))):=s1.trans (qj hle)
     have hl2:upd H1 le (.lst ((jU rs r).map V.str)) le=some (.lst ((jU rs r).map V.str)):=qe
     generalize upd H1 le (.lst ((jU rs r).map V.str))=H2 at s2 hl2 hW
     refine zH (K:=K) (a:=le) (xs:=jU rs r) (enc:=V.str) (out:=λz=>some (V.bl (qT n s' (f z)))) (rest:=[some (.ref p2),some (.ref D)]) hW hl2 (qm (tV (YB r) (by omega))) (λz hz Y sY Rr hR=>hR Y (qr.refl Y)) (λz hz v ev Y sY Rr hR=>?_) (λG3 s3 hG=>?_)
     . cases ev
       obtain⟨pz,gz,sz⟩:=((td.mono s2).mono sY).get (Qz good.nd y hy z (by rw[egy];exact hz))
       exact⟨_,rfl,_,rfl,D,_,rfl,gz,_,rfl,_,_,f z,n,s',rfl,⟨pz,rfl,sz⟩,⟨p2,rfl,(sp2.mono s2).mono sY⟩,hR Y (qr.refl Y)⟩
     . refine⟨W,(jU rs r).map λz=>qT n s' (f z),rfl,.of (by rw[hG,Zj,zaB];rfl),q _ _ (s2.trans s3) ?_⟩
       rw[<-iff,zdj,zaO,egy]
       rfl
theorem NR:qG ["ground","told","name"] ["ground","told","name"] (qo vM):=⟨rfl,rfl,rfl,by decide+kernel,rfl,by decide+kernel,by decide+kernel⟩
theorem xh {f CG:Addr} {fd:FuncData} (F:Qn K "told_numbers_behind" "told_numbers_behind" vM f fd) (B:JH mg) (G:Je mg) (T:J7 K mg) (M:GM K mg CG):qB P w K mg base q5 3 f fd ["ground","told","name"] (yp K CG):=by
 obtain⟨fI,fdI,C⟩:=M.cls
 obtain⟨fR,fdR,hR⟩:=M.fr
 obtain⟨fN,fdN,hN⟩:=M.isn
 have GR:qB P w K mg base q5 2 fR fdR ["self","name"] (ZR CG):=Z3 hR.fn C B G T hN
 refine F.okJ NR (λvs H Q E h=>?_) (λcdv A outer s H vs Q E hr h=>?_)
 . obtain⟨g,D,rs,f,z,rfl,_⟩:=h
   rfl
 . obtain⟨g,D,rs,f,z,rfl,gr,good,le14,td,hz,q⟩:=h
   have hu:=jQ hr
   refine⟨_,qh (qA (Qt (N':=["end","told"]) (ix:=[none,some 1]) (tt:=Yi (Jf Nu (Jf (JQ K) (JV (qN 1) (qN 0)) (tC (.int 0))) (tC (.str (Str.ofString "number"))))) (te:=Jf (JQ K) (JV (qN 1) (qN 0)) (tC (.int 1))) rfl ⟨rfl,rfl,rfl,rfl,rfl⟩ (jl (U5 hR C.cl GR (hr.mono (by decide)) (jv 0) (qb (jv 2) qd))) (λC s2 H2 fp pins=>
       ⟨qv (i:=0) (show (["end","told"]:List Str).Nodup by decide+kernel) rfl (Or.inl rfl),Qq (qt jo (qD qw (qC hu (jv 1) (jv 0) (λ_ _=>rfl)) qf (λ_ _=>rfl)) qx (qp _)),qD qw (qC hu (jv 1) (jv 0) (λ_ _=>rfl)) qf (λ_ _=>rfl)⟩))),?_⟩
   obtain⟨r,hr',er⟩:=tE.mp hz
   have egz:ju rs z=jU rs r:=by rw[<-er,Jv good.nd hr']
   obtain⟨dx,fs,hg,l1,l2⟩:=gr.ins
   refine⟨_,rfl,g,dx,fs,rfl,hg,l2,_,rfl,g,rs,r,by rw[er];rfl,gr,hr',good.nm r hr',λH1 le s1 hle=>⟨le,rfl,⟨_,.of qe⟩,λW hW=>?_⟩⟩
   have s2:qr H (upd H1 le (.lst ((jU rs r).map V.str))):=s1.trans (qj hle)
   have hl2:upd H1 le (.lst ((jU rs r).map V.str)) le=some (.lst ((jU rs r).map V.str)):=qe
   generalize upd H1 le (.lst ((jU rs r).map V.str))=H2 at s2 hl2 hW
   refine zH (K:=K) (a:=le) (xs:=jU rs r) (enc:=V.str) (out:=λy=>((f y).nm).map λn=>V.int (n:Nat)) (rest:=[some (.ref D)]) hW hl2 (qm (tV (YB r) (by omega))) (λy hy Y sY Rr hR=>?_) (λy hy v ev Y sY Rr hR=>?_) (λG3 s3 hG=>?_)
   . obtain⟨pz,gz,sz⟩:=((td.mono s2).mono sY).get (Qz good.nd z hz y (by rw[egz];exact hy))
     have h:=hR Y (qr.refl Y)
     revert h sz
     cases f y with
     | num n s=>
       intro sz h
       refine⟨_,rfl,_,rfl,D,_,rfl,gz,pz,_,0,_,rfl,rfl,sz,rfl,rfl,_,rfl,?_⟩
       rw[show decide (V.str (Str.ofString "number")=V.str (Str.ofString "number"))=true from decide_eq_true rfl]
       exact h
     | end_ b=>
       intro sz h
       refine⟨_,rfl,_,rfl,D,_,rfl,gz,pz,_,0,_,rfl,rfl,sz,rfl,rfl,_,rfl,?_⟩
       rw[show decide (V.str (Str.ofString "endless")=V.str (Str.ofString "number"))=false from by decide+kernel]
       exact h
   . obtain⟨pz,gz,sz⟩:=((td.mono s2).mono sY).get (Qz good.nd z hz y (by rw[egz];exact hy))
     revert sz ev
     cases f y with
     | num n s=>
       intro ev sz
       cases ev
       exact⟨_,rfl,_,rfl,D,_,rfl,gz,pz,_,1,_,rfl,rfl,sz,rfl,hR Y (qr.refl Y)⟩
     | end_ b=>
       intro ev sz
       cases ev
   . rw[Ge,<-egz]at hG
     exact q G3 W (s2.trans s3) hG
theorem yE:qG ["ground","told","name","label"] ["ground","told","name"] (qo WR):=⟨rfl,rfl,rfl,by decide+kernel,rfl,by decide+kernel,by decide+kernel⟩
theorem uK {f fA fT fR' fL CG:Addr} {fd fdA fdT fdR' fdL:FuncData} (F:Qn K "numbered_fits" "numbered_fits" WR f fd) (B:JH mg) (G:Je mg) (T:J7 K mg) (M:GM K mg CG) (any:mg "any"=none) (hA:jr K mg "is_ahead" zy ["other","label"] fA fdA) (hT:jr K mg "told_numbers_behind" vM ["ground","told","name"] fT fdT) (hF:jr K mg "road_fits" Yq ["ground","told","label","end"] fR' fdR') (hL:jr K mg "lacking" QR ["numbers"] fL fdL):qB P w K mg base q5 4 f fd ["ground","told","name"] (VD K CG):=by
 obtain⟨fI,fdI,C⟩:=M.cls
 obtain⟨fR,fdR,hR⟩:=M.fr
 obtain⟨fN,fdN,hN⟩:=M.isn
 have GR:qB P w K mg base q5 2 fR fdR ["self","name"] (ZR CG):=Z3 hR.fn C B G T hN
 have GT:qB P w K mg base q5 3 fT fdT ["ground","told","name"] (yp K CG):=xh hT.fn B G T M
 have GF:qB P w K mg base q5 3 fR' fdR' ["ground","told","label","end"] (X4 K CG):=xl hF.fn B G T M any hA
 have GL:qB P w K mg base q5 1 fL fdL ["numbers"] (zt K):=YJ hL.fn
 refine F.okJ yE (λvs H Q E h=>?_) (λcdv A outer s H vs Q E hr h=>?_)
 . obtain⟨g,D,rs,f,z,n,s,rfl,_⟩:=h
   rfl
 . obtain⟨g,D,rs,f,z,n,s',rfl,gr,good,le14,td,hz,ef,q⟩:=h
   have hu:=jQ hr
   have r1:jE 1 _:=hr.mono (by decide)
   have r3:jE 3 _:=hr.mono (by decide)
   refine⟨_,qg (qz (i:=3) yE.nd rfl (Or.inr rfl) (qC hu (jv 1) (jv 2) (λ_ _=>rfl)))
     (qg (qS (qt WZ (qD qw (jv 3) qf (λ_ _=>rfl)) (qO hL GL r1 (by rfl) (qb (qO hT GT r3 (by rfl) (qb (jv 0) (qb (jv 1) (qb (jv 2) qd)))) qd)) (qp _)) (qh (qA ja)) qF)
     (qh (qA (qy (QO rfl) (by rfl) T.all boot_all (qb (Qt (N':=["end","ground","label","told"]) (ix:=[none,some 0,some 3,some 1]) (te:=JJ (X4 K CG) [] E0 (qM (qN 1) (qM (qN 3) (qM (qN 2) (qM (qN 0) jT))))) rfl ⟨rfl,rfl,rfl,rfl,rfl⟩ (jl (U5 hR C.cl GR (hr.mono (by decide)) (jv 0) (qb (jv 2) qd))) (λC s2 H2 fp pins=>
       ⟨qv (i:=0) (show (["end","ground","label","told"]:List Str).Nodup by decide+kernel) rfl (Or.inl rfl),j9,qO hF GF r3 (by rfl) (qb (jv 1) (qb (jv 3) (qb (jv 2) (qb (jv 0) qd))))⟩)) qd))))),?_⟩
   obtain⟨p,gp,sp⟩:=td.get hz
   rw[ef]at sp
   obtain⟨r,hr',er⟩:=tE.mp hz
   have egz:ju rs z=jU rs r:=by rw[<-er,Jv good.nd hr']
   unfold jM at q
   rw[ef]at q
   refine⟨_,rfl,_,rfl,D,_,rfl,gp,?_⟩
   refine⟨_,rfl,p,_,1,_,rfl,rfl,sp,rfl,_,rfl,_,rfl,_,rfl,g,D,rs,f,z,rfl,gr,good,le14,td,hz,λH1 l s1 hl=>?_⟩
   refine⟨l,_,rfl,.of hl,tV (U0 z) (by omega),λH2 s2=>⟨rfl,_,rfl,?_⟩⟩
   have s12:=s1.trans s2
   by_cases c:n=Rb.lackN (JR (ju rs) f z)
   . refine qL (by rw[<-c,decide_eq_true rfl];rfl) ?_
     obtain⟨dx,fs,hg,l1,l2⟩:=(gr.mono s12).ins
     refine⟨_,rfl,g,dx,fs,rfl,hg,l2,_,rfl,g,rs,r,by rw[er];rfl,gr.mono s12,hr',good.nm r hr',λH3 le s3 hle=>⟨le,rfl,⟨_,.of qe⟩,λW hW=>?_⟩⟩
     have s4:qr H (upd H3 le (.lst ((jU rs r).map V.str))):=(s12.trans s3).trans (qj hle)
     have hl4:upd H3 le (.lst ((jU rs r).map V.str)) le=some (.lst ((jU rs r).map V.str)):=qe
     generalize upd H3 le (.lst ((jU rs r).map V.str))=H4 at s4 hl4 hW
     classical
     refine zH (K:=K) (a:=le) (xs:=jU rs r) (enc:=V.str) (out:=λy=>some (V.bl (decide (jA (ju rs) f n s' y)))) (rest:=[some (.ref g),some (.ref p),some (.ref D)]) hW hl4 (qm (tV (YB r) (by omega))) (λz hz Y sY Rr hR=>hR Y (qr.refl Y)) (λy hy v ev Y sY Rr hR=>?_) (λG5 s5 hG=>?_)
     . cases ev
       refine⟨_,rfl,_,rfl,_,rfl,_,rfl,g,D,_,rs,f,y,n,s',rfl,gr.mono (s4.trans sY),good,le14,(td.mono s4).mono sY,⟨p,rfl,(sp.mono s4).mono sY⟩,Qz good.nd z hz y (by rw[egz];exact hy),λH' b sb hb=>?_⟩
       have:=hR H' sb
       rwa [show decide (jA (ju rs) f n s' y)=b from by rw[zaz,decide_eq_true_iff];exact hb.symm]at this
     . refine⟨W,(jU rs r).map λy=>decide (jA (ju rs) f n s' y),rfl,.of (by rw[hG,Zj,zaB];rfl),q _ _ (s4.trans s5) ?_⟩
       rw[zbq,zav,egz]
       exact⟨λh=>⟨c,λy hy=>of_decide_eq_true (h y hy)⟩,λh y hy=>decide_eq_true (h.2 y hy)⟩
   . refine qR (by rw[decide_eq_false (λz=>c (by have:=V.int.inj z;omega))];rfl) (q _ false s12 ⟨λz=>(nomatch z),λz=>absurd z.1 c⟩)
end
open PySem L2 PyProof.Rows MLab
def Yk (K:PySem.W.Frag):Sp:=λvs H Q _=>∃(v:V) (l:Lb) (n:Nat),vs=[v,.int (n:Nat)]/\Xf K H v l/\(∀b,l=.end_ b->b < 65536)/\∀H',qr H H'->Q (.bl (jH n l)) H'
def UB (K:PySem.W.Frag) (CG:Addr):Sp:=λvs H Q _=>∃(g D:Addr) (rs:jz) (f:Str->Lb) (z:Str) (b:Nat),vs=[.ref g,.ref D,.str z]/\Q0 CG H g rs/\qu rs/\rs.length<=14/\Um K H D rs f/\KE rs f/\z∈rs.map (·.1)/\f z=.end_ b/\
 ∀H' L (xs:List V),qr H H'->H' L=some (.lst xs)->(xs.length > 0↔∃y∈ju rs z,jH (Rb.lackN (Rb.memN b 16)) (f y)=true)->Q (.ref L) H'
def X8 (K:PySem.W.Frag) (CG:Addr):Sp:=λvs H Q _=>∃(g D:Addr) (rs:jz) (f:Str->Lb) (z:Str),vs=[.ref g,.ref D,.str z]/\Q0 CG H g rs/\qu rs/\rs.length<=14/\Um K H D rs f/\KE rs f/\z∈rs.map (·.1)/\
 ∀H' b,qr H H'->(b=true↔jM (ju rs) f z)->Q (.bl b) H'
def VE (K:PySem.W.Frag) (CG:Addr):Sp:=λvs H Q _=>∃(g D:Addr) (rs:jz) (f:Str->Lb) (z:Str) (e:Nat),vs=[.ref g,.ref D,.str z]/\Q0 CG H g rs/\qu rs/\rs.length<=14/\Um K H D rs f/\KE rs f/\z∈rs.map (·.1)/\f z=.end_ e/\
 ∀H' b,qr H H'->(b=true↔jM (ju rs) f z)->Q (.bl b) H'
theorem KE.e {rs:jz} {f:Str->Lb} (h:KE rs f) {z:Str} (hz:z∈rs.map (·.1)) {b:Nat} (e:f z=.end_ b):b < 65536:=by
 have:=h z hz
 rw[e]at this
 exact this
section
variable {P:Program} {w:World} {K:PySem.W.Frag} {mg:Str->Option Value} {base:Heap}
theorem yG:qG ["label","number"] ["label","number"] (qo Zc):=⟨rfl,rfl,rfl,by decide+kernel,rfl,by decide+kernel,by decide+kernel⟩
theorem kh {f fN:Addr} {fd fdN:FuncData} (F:Qn K "is_open_to" "is_open_to" Zc f fd) (B:JH mg) (hN:jr K mg "numbers_in" Zz ["bits"] fN fdN):qB P w K mg base q5 2 f fd ["label","number"] (Yk K):=by
 have GN:qB P w K mg base q5 1 fN fdN ["bits"] X5:=W2 hN.fn B
 refine F.okJ yG (λvs H Q E h=>?_) (λcdv A outer s H vs Q E hr h=>?_)
 . obtain⟨v,l,n,rfl,_⟩:=h
   rfl
 . obtain⟨v,l,n,rfl,⟨t,rfl,ht⟩,sm,q⟩:=h
   refine⟨_,qh (qA (jJ (qW jo (qD qw (jv 0) qf (λ_ _=>rfl)) qx (qp _)) (Qj (qW Jq (jv 1) (qO hN GN hr (by rfl) (qb (qD qw (jv 0) qf (λ_ _=>rfl)) qd)) (by with_unfolding_all rfl))))),?_⟩
   cases l with
   | num m s'=>exact⟨_,rfl,t,_,0,_,rfl,rfl,ht,rfl,rfl,_,rfl,qL (by decide+kernel) (q H λ_ _ h=>h)⟩
   | end_ b=>
     have lt:=sm b rfl
     refine⟨_,rfl,t,_,0,_,rfl,rfl,ht,rfl,rfl,_,rfl,qR (by decide+kernel) ?_⟩
     refine⟨_,rfl,_,rfl,t,_,1,_,rfl,rfl,ht,rfl,_,rfl,lt,λl hl=>?_⟩
     refine⟨l,_,rfl,.inl (.of qe),rfl,Z6 _,?_⟩
     have:=q _ (qj (o:=HO.lst (J3 (Rb.memN b 16))) hl)
     have e:(!zQ (.int (n:Nat)) (J3 (Rb.memN b 16)))=jH n (.end_ b):=by
       rw[YW]
       show (!decide (n∈Rb.memN b 16))= !b.testBit n
       congr 1
       rw[zaz,decide_eq_true_iff,Rb.mem_memN]
       refine⟨λh=>h.2,λh=>⟨Nat.lt_of_not_le λz=>?_,h⟩⟩
       rw[Rb.testBit_big (m:=16) lt z]at h
       cases h
     rw[<-e]at this
     exact this
theorem UI:qG ["ground","labels","name","least"] ["ground","labels","name"] (qo Yr):=⟨rfl,rfl,rfl,by decide+kernel,rfl,by decide+kernel,by decide+kernel⟩
theorem xn {f fL fN fI CG:Addr} {fd fdL fdN fdI:FuncData} (F:Qn K "open_roads" "open_roads" Yr f fd) (B:JH mg) (G:Je mg) (T:J7 K mg) (M:GM K mg CG) (hL:jr K mg "lacking" QR ["numbers"] fL fdL) (hN:jr K mg "numbers_in" Zz ["bits"] fN fdN) (hI:jr K mg "is_open_to" Zc ["label","number"] fI fdI):qB P w K mg base q5 3 f fd ["ground","labels","name"] (UB K CG):=by
 have GL:qB P w K mg base q5 1 fL fdL ["numbers"] (zt K):=YJ hL.fn
 have GN:qB P w K mg base q5 1 fN fdN ["bits"] X5:=W2 hN.fn B
 have GI:qB P w K mg base q5 2 fI fdI ["label","number"] (Yk K):=kh hI.fn B hN
 obtain⟨fC,fdC,C⟩:=M.cls
 obtain⟨fR,fdR,hR⟩:=M.fr
 obtain⟨fA,fdA,hA⟩:=M.isn
 have GR:qB P w K mg base q5 2 fR fdR ["self","name"] (ZR CG):=Z3 hR.fn C B G T hA
 refine F.okJ UI (λvs H Q E h=>?_) (λcdv A outer s H vs Q E hr h=>?_)
 . obtain⟨g,D,rs,f,z,b,rfl,_⟩:=h
   rfl
 . obtain⟨g,D,rs,f,z,b,rfl,gr,good,le14,td,sm,hz,ez,q⟩:=h
   have hu:=jQ hr
   have r1:jE 1 _:=hr.mono (by decide)
   refine⟨_,qg (qz (i:=3) UI.nd rfl (Or.inr rfl) (qO hL GL r1 (by rfl) (qb (qO hN GN r1 (by rfl) (qb (qD qw (qC hu (jv 1) (jv 2) (λ_ _=>rfl)) qf (λ_ _=>rfl)) qd)) qd)))
     (qh (qA (Qt (N':=["end","least","labels"]) (ix:=[none,some 3,some 1]) (tt:=tB (JJ (Yk K) [] E0 (qM (JV (qN 2) (qN 0)) (qM (qN 1) jT)))) (te:=JN (qM (qN 1) (qM (qN 0) jT))) rfl ⟨rfl,rfl,rfl,rfl,rfl⟩ (jl (U5 hR C.cl GR hr (jv 0) (qb (jv 2) qd))) (λC s2 H2 fp pins=>
       ⟨qv (i:=0) (show (["end","least","labels"]:List Str).Nodup by decide+kernel) rfl (Or.inl rfl),Qq (jF (qO hI GI hr (by rfl) (qb (qC hu (jv 2) (jv 0) (λ_ _=>rfl)) (qb (jv 1) qd)))),qk (qb (jv 1) (qb (jv 0) qd))⟩)))),?_⟩
   obtain⟨t,gt,ht⟩:=td.get hz
   rw[ez]at ht
   have lt:=sm.e hz ez
   refine⟨_,rfl,_,rfl,D,_,rfl,gt,t,_,1,_,rfl,rfl,ht,rfl,_,rfl,lt,λl hl=>?_⟩
   have s1:qr H (upd H l (.lst (J3 (Rb.memN b 16)))):=qj hl
   have hl1:upd H l (.lst (J3 (Rb.memN b 16))) l=some (.lst (J3 (Rb.memN b 16))):=qe
   generalize upd H l (.lst (J3 (Rb.memN b 16)))=H1 at s1 hl1
   have lm:(Rb.memN b 16).length<=16:=by
     have h1:(Rb.memN b 16).length<=(tU 16).length:=zaT _ _
     rwa [zai]at h1
   refine⟨l,_,rfl,.of hl1,by omega,λH2 s2=>?_⟩
   generalize Rb.lackN (Rb.memN b 16)=ls at q ⊢
   have s12:=s1.trans s2
   obtain⟨dx,fs,hg,e1,e2⟩:=(gr.mono s12).ins
   obtain⟨r,hr',er⟩:=tE.mp hz
   refine⟨_,rfl,g,dx,fs,rfl,hg,e2,_,rfl,g,rs,r,by rw[er];rfl,gr.mono s12,hr',good.nm r hr',λH3 le s3 hle=>?_⟩
   have s4:qr H (upd H3 le (.lst ((jU rs r).map V.str))):=s12.trans (s3.trans (qj hle))
   have hl4:upd H3 le (.lst ((jU rs r).map V.str)) le=some (.lst ((jU rs r).map V.str)):=qe
   generalize upd H3 le (.lst ((jU rs r).map V.str))=H4 at s4 hl4
   have egz:ju rs z=jU rs r:=by rw[<-er,Jv good.nd hr']
   have lr:=YB (rs:=rs) r
   refine⟨le,rfl,⟨_,.of hl4⟩,λW hW=>?_⟩
   refine QX (K:=K) (a:=le) (xs:=(jU rs r).map V.str) (λj σ'' G5=>∃(v0:Option V) (ts:List V),σ''=[v0,some (.int (ls:Nat)),some (.ref D)]/\qr H4 G5/\G5 W=some (.lst ts)/\ts.length<=j/\(ts.length > 0↔∃y∈(jU rs r).take j,jH ls (f y)=true))
     ⟨none,[],rfl,qj hW,qe,tu _,⟨λz=>absurd z (by decide),λ⟨y,hy,_⟩=>(nomatch hy)⟩⟩ (λj σ'' G5 _ ⟨_,_,_,s,_⟩=>.of (s _ _ hl4)) ?_ ?_
   . rintro j x σ'' G5 hx ⟨v0,ts,rfl,s5,hW5,lts,iff⟩
     obtain⟨y,ey,hy,rfl⟩:=J9 hx
     have hj:=(tw.mp ey).1
     have hyN:y∈rs.map (·.1):=Qz good.nd z hz y (by rw[egz];exact hy)
     have sA:=s4.trans s5
     obtain⟨ty,gy,hty⟩:=(td.mono sA).get hyN
     refine⟨_,rfl,_,rfl,D,_,rfl,gy,_,rfl,_,f y,ls,rfl,⟨ty,rfl,hty⟩,λb e=>sm.e hyN e,λG6 s6=>⟨_,rfl,?_⟩⟩
     have etk:(jU rs r).take (j+1)=(jU rs r).take j++[y]:=by rw[tQ,ey];rfl
     cases c:jH ls (f y) with
     | false=>
       refine jg ⟨_,ts,rfl,s5.trans s6,s6 _ _ hW5,by omega,iff.trans ?_⟩
       rw[etk]
       constructor
       . rintro⟨u,hu',e⟩;exact⟨u,zbY _ hu',e⟩
       . rintro⟨u,hu',e⟩
         rcases tZ.mp hu' with h | h
         . exact⟨u,h,e⟩
         . have:u=y:=by simpa using h
           rw[this,c]at e
           cases e
     | true=>
       refine jI ⟨_,rfl,_,rfl,by show 2<=sizeLine;decide,λt6 ht6=>?_⟩
       refine⟨_,ql (s6 _ _ hW5) ht6,qm (by omega),_,ts++[.ref t6],rfl,qr.upd (s5.trans (s6.trans (qj ht6))) hW,qe,by rw[tX];show ts.length+1<=j+1;omega,?_⟩
       rw[etk]
       refine iff_of_true (by rw[tX];exact Nat.succ_pos _) ⟨y,zak _ tS,c⟩
   . rintro σ'' G5 ⟨v0,ts,rfl,s5,hW5,lts,iff⟩
     rw[tj,tF (tu _),<-egz]at iff
     exact q G5 W ts (s4.trans s5) hW5 iff
theorem GY:qG ["ground","told","name"] ["ground","told","name"] (qo WV):=⟨rfl,rfl,rfl,by decide+kernel,rfl,by decide+kernel,by decide+kernel⟩
theorem uR {f fL fN fI fT fS fO CG:Addr} {fd fdL fdN fdI fdT fdS fdO:FuncData} (F:Qn K "endless_fits" "endless_fits" WV f fd) (B:JH mg) (G:Je mg) (T:J7 K mg) (M:GM K mg CG) (hL:jr K mg "lacking" QR ["numbers"] fL fdL) (hN:jr K mg "numbers_in" Zz ["bits"] fN fdN) (hI:jr K mg "is_open_to" Zc ["label","number"] fI fdI) (hT:jr K mg "told_numbers_behind" vM ["ground","told","name"] fT fdT) (hS:jr K mg "set_of" Yp ["numbers"] fS fdS) (hO:jr K mg "open_roads" Yr ["ground","labels","name"] fO fdO):qB P w K mg base q5 4 f fd ["ground","told","name"] (VE K CG):=by
 have GT:qB P w K mg base q5 3 fT fdT ["ground","told","name"] (yp K CG):=xh hT.fn B G T M
 have GO:qB P w K mg base q5 3 fO fdO ["ground","labels","name"] (UB K CG):=xn hO.fn B G T M hL hN hI
 have GS:qB P w K mg base q5 1 fS fdS ["numbers"] (UA K):=xk hS.fn
 refine F.okJ GY (λvs H Q E h=>?_) (λcdv A outer s H vs Q E hr h=>?_)
 . obtain⟨g,D,rs,f,z,e,rfl,_⟩:=h
   rfl
 . obtain⟨g,D,rs,f,z,e,rfl,gr,good,le14,td,sm,hz,ef,q⟩:=h
   have hu:=jQ hr
   have r1:jE 1 _:=hr.mono (by decide)
   refine⟨_,qg (qS (qt WZ (qD qw (qC hu (jv 1) (jv 2) (λ_ _=>rfl)) qf (λ_ _=>rfl)) (qO hS GS r1 (by rfl) (qb (qO hT GT hr (by rfl) (qb (jv 0) (qb (jv 1) (qb (jv 2) qd)))) qd)) (qp _)) (qh (qA ja)) qF)
     (qh (qA (qW Xu (qy qU (by rfl) B.len boot_len (qb (qO hO GO hr (by rfl) (qb (jv 0) (qb (jv 1) (qb (jv 2) qd)))) qd)) qf (qp _)))),?_⟩
   obtain⟨p,gp,sp⟩:=td.get hz
   rw[ef]at sp
   have lt:=sm.e hz ef
   unfold jM at q
   rw[ef]at q
   refine⟨_,rfl,_,rfl,D,_,rfl,gp,p,_,1,_,rfl,rfl,sp,rfl,_,rfl,_,rfl,_,rfl,g,D,rs,f,z,rfl,gr,good,le14,td,hz,λH1 l s1 hl=>?_⟩
   refine⟨l,_,rfl,.of hl,xB good.nd sm hz,rfl,_,rfl,?_⟩
   by_cases c:e=Rb.setN (JR (ju rs) f z)
   . refine qL (by rw[<-c,decide_eq_true rfl];rfl) ⟨_,rfl,_,rfl,_,rfl,g,D,rs,f,z,e,rfl,gr.mono s1,good,le14,td.mono s1,sm,hz,ef,λH2 L xs s2 hL iff=>⟨L,xs,rfl,.inl (.of hL),_,0,rfl,rfl,q _ _ (s1.trans s2) ?_⟩⟩
     have el:Rb.lackN (Rb.memN e 16)=Rb.lackN (JR (ju rs) f z):=YO λx=>by
       rw[Rb.mem_memN,c,Rb.testBit_setN,decide_eq_true_iff]
       refine⟨λh=>h.2,λh=>⟨Nat.lt_of_not_le λz'=>?_,h⟩⟩
       have:(Rb.setN (JR (ju rs) f z)).testBit x=true:=by rw[Rb.testBit_setN];exact decide_eq_true h
       rw[<-c,Rb.testBit_big (m:=16) lt z']at this
       cases this
     rw[el]at iff
     rw[decide_eq_true_iff]
     constructor
     . intro h;exact⟨c,iff.mp (by omega)⟩
     . intro h;have:=iff.mpr h.2;omega
   . exact qR (by rw[decide_eq_false (λz=>c (by have:=V.int.inj z;omega))];rfl) (q _ false s1 ⟨λz=>(nomatch z),λz=>absurd z.1 c⟩)
theorem GQ:qG ["ground","told","name"] ["ground","told","name"] (qo WT):=⟨rfl,rfl,rfl,by decide+kernel,rfl,by decide+kernel,by decide+kernel⟩
theorem uO {f f1 f2 CG:Addr} {fd fd1 fd2:FuncData} (F:Qn K "label_fits" "label_fits" WT f fd) (h1:jr K mg "numbered_fits" WR ["ground","told","name"] f1 fd1) (G1:qB P w K mg base q5 4 f1 fd1 ["ground","told","name"] (VD K CG)) (h2:jr K mg "endless_fits" WV ["ground","told","name"] f2 fd2) (G2:qB P w K mg base q5 4 f2 fd2 ["ground","told","name"] (VE K CG)):qB P w K mg base q5 5 f fd ["ground","told","name"] (X8 K CG):=by
 refine F.okJ GQ (λvs H Q E h=>?_) (λcdv A outer s H vs Q E hr h=>?_)
 . obtain⟨g,D,rs,f,z,rfl,_⟩:=h
   rfl
 . obtain⟨g,D,rs,f,z,rfl,gr,good,le14,td,sm,hz,q⟩:=h
   have hu:=jQ hr
   refine⟨_,qg (qS (qt jo (qD qw (qC hu (jv 1) (jv 2) (λ_ _=>rfl)) qf (λ_ _=>rfl)) qx (qp _)) (qh (qA (qO h1 G1 hr (by rfl) (qb (jv 0) (qb (jv 1) (qb (jv 2) qd)))))) qF)
     (qh (qA (qO h2 G2 hr (by rfl) (qb (jv 0) (qb (jv 1) (qb (jv 2) qd)))))),?_⟩
   obtain⟨p,gp,sp⟩:=td.get hz
   cases ef:f z with
   | num n s'=>
     rw[ef]at sp
     exact⟨_,rfl,_,rfl,D,_,rfl,gp,p,_,0,_,rfl,rfl,sp,rfl,rfl,_,rfl,qR (by decide+kernel) ⟨_,rfl,_,rfl,_,rfl,g,D,rs,f,z,n,s',rfl,gr,good,le14,td,hz,ef,q⟩⟩
   | end_ b=>
     rw[ef]at sp
     exact⟨_,rfl,_,rfl,D,_,rfl,gp,p,_,0,_,rfl,rfl,sp,rfl,rfl,_,rfl,qL (by decide+kernel) ⟨_,rfl,_,rfl,_,rfl,g,D,rs,f,z,b,rfl,gr,good,le14,td,sm,hz,ef,q⟩⟩
end
open PySem L2 PyProof.Rows MLab
inductive Pl (P:Program) (w:World) (K:PySem.W.Frag) (H:Hp) (rs:jz):V->Bool->Prop
 | dat {v:V} {d:PyData}:DV K H v d->Pl P w K H rs v false
 | lst {p:Addr} {xs:List V}:SqL K H p xs->Pl P w K H rs (.ref p) false
 | dk {D:Addr} {kvs:List (qI×V)}:Rd H D (.dK kvs)->Pl P w K H rs (.ref D) (decide (kvs.length=rs.length)&&(rs.map (·.1)).all λz=>(qY kvs (Sum.inr z:qI)).isSome)
 | non {D:Addr} {kvs:List (QA×V)}:Rd H D (QZ P w D kvs)->kvs.length≠rs.length->Pl P w K H rs (.ref D) false
def yt (P:Program) (w:World) (K:PySem.W.Frag) (CG:Addr):Sp:=λvs H Q _=>∃(g:Addr) (v:V) (rs:jz) (b:Bool),vs=[.ref g,v]/\Q0 CG H g rs/\qu rs/\rs.length<=14/\Pl P w K H rs v b/\∀H',qr H H'->Q (.bl b) H'
theorem Uh {X:Cx}:js X (.builtin "isinstance") (λxs H Q=>∃(p:Addr) (ys:List V) (c:String) (b:Bool),xs=[.ref p,.ty c]/\SqL X.K H p ys/\zao X.K (.type "list") (.type c)=some b/\Q (.bl b) H):=by
 intro pins s σ H xs us Q I r h
 obtain⟨p,ys,c,b,rfl,sq,e,q⟩:=h
 obtain⟨u,w',rfl,ru,rw'⟩:=ZM r
 cases ru
 cases rw'
 obtain⟨its,rv,⟨o,n,e1,hc,_⟩,hz⟩:=I.list sq
 exact zaj zbO I.kIn ⟨_,e1,hc⟩ e (λz=>nomatch z) λtk=>⟨.bl b,H,I.tok tk,rfl,q⟩
theorem _root_.L2.SqL.mono {K:PySem.W.Frag} {H H':Hp} {p:Addr} {xs:List V} (h:SqL K H p xs) (s:qr H H'):SqL K H' p xs:=by
 rcases h with (h | ⟨o,h⟩) | h
 . exact .inl (.inl (s _ _ h))
 . exact .inl (.inr ⟨o,s _ _ h⟩)
 . exact .inr h
theorem qaJ {K:PySem.W.Frag} {H:Hp} {v:V} {d:PyData} (h:DV K H v d):Wp (yc d) "dict"=false:=by cases h<;>rfl
theorem RE {α:Type} (f:α->Bool) (l:List α):(l.map f).map V.bl=l.map λz=>V.bl (f z):=by rw[zaB];rfl
def fL (t:Str->Tg) (z:Str):Lb:=(Qy (t z)).getD (.end_ 0)
def vx (rs:jz) (t:Str->Tg):Prop:=(∀z∈rs.map (·.1),(Qy (t z)).isSome=true)/\∀z∈rs.map (·.1),jM (ju rs) (fL t) z
def zo (K:PySem.W.Frag) (H:Hp) (kvs:List (qI×V)) (rs:jz) (t:Str->Tg):Prop:=∀z∈rs.map (·.1),∃v,qY kvs (Sum.inr z:qI)=some v/\Zp K H v (t z)
theorem zo.mono {K:PySem.W.Frag} {H H':Hp} {kvs:List (qI×V)} {rs:jz} {t:Str->Tg} (h:zo K H kvs rs t) (s:qr H H'):zo K H' kvs rs t:=λz hz=>let ⟨v,a,b⟩:=h z hz;⟨v,a,b.mono s⟩
def WD:Lb->Prop
 | .num n _=>n<=15
 | .end_ b=>b < 65536
theorem Ve {t:Tg} {l:Lb} (e:Qy t=some l):(∃b:Nat,l=.end_ b/\b < 65536/\t=.tup [.str (Str.ofString "endless"),.int (b:Nat)])\/∃n s:Nat,l=.num n s/\n<=15/\t=.tup [.str (Str.ofString "number"),.int (n:Nat),.int (s:Nat)]:=by
 unfold Qy at e
 split at e
 . split at e
   . rename_i x b c
     obtain⟨c0,c1,c2⟩:=c
     cases e
     exact .inl ⟨b.toNat,rfl,by omega,by rw[c0,zbc c1]⟩
   . cases e
 . split at e
   . rename_i x n s c
     obtain⟨c0,⟨c1,c2⟩,c3⟩:=c
     cases e
     exact .inr ⟨n.toNat,s.toNat,rfl,by omega,by rw[c0,zbc c1,zbc c3]⟩
   . cases e
 . cases e
theorem xI {K:PySem.W.Frag} {H:Hp} {v:V} {t:Tg} {l:Lb} (h:Zp K H v t) (e:Qy t=some l):Xf K H v l/\WD l:=by
 rcases Ve e with ⟨b,rfl,lt,rfl⟩ | ⟨n,s,rfl,le,rfl⟩
 . cases h with
   | tup sq hs=>
     cases hs with
     | cons h0 hs=>cases hs with
       | cons h1 hs=>cases hs;cases h0;cases h1;exact⟨⟨_,rfl,sq⟩,lt⟩
 . cases h with
   | tup sq hs=>
     cases hs with
     | cons h0 hs=>cases hs with
       | cons h1 hs=>cases hs with
         | cons h2 hs=>cases hs;cases h0;cases h1;cases h2;exact⟨⟨_,rfl,sq⟩,le⟩
def zZ (P:Program) (w:World) (K:PySem.W.Frag) (CG:Addr):Sp:=λvs H Q _=>∃(g:Addr) (v:V) (rs:jz),vs=[.ref g,v]/\Q0 CG H g rs/\qu rs/\rs.length<=14/\((Pl P w K H rs v false/\∀H',qr H H'->Q (.bl false) H')\/
 ∃D kvs t,v=.ref D/\Rd H D (.dK kvs)/\kvs.length=rs.length/\zo K H kvs rs t/\∀H' b,qr H H'->(b=true↔vx rs t)->Q (.bl b) H')
section
variable {P:Program} {w:World} {K:PySem.W.Frag} {mg:Str->Option Value} {base:Heap}
abbrev nID:List Str:=["ground","thing","order"]
theorem NU:qG nID ["ground","thing"] (qo yH):=⟨rfl,rfl,rfl,by decide+kernel,rfl,by decide+kernel,by decide+kernel⟩
theorem Ry {f CG:Addr} {fd:FuncData} (F:Qn K "is_dict_of_places" "is_dict_of_places" yH f fd) (B:JH mg) (G:Je mg) (T:ZJ K mg) (A':mg "all"=none) (M:GM K mg CG):qB P w K mg base q5 2 f fd ["ground","thing"] (yt P w K CG):=by
 obtain⟨fI,fdI,C⟩:=M.cls
 obtain⟨fM,fdM,hM⟩:=M.nm
 have GM:qB P w K mg base q5 1 fM fdM ["self"] (Ym CG):=Xv hM.fn C G
 refine F.okJ NU (λvs H Q E h=>?_) (λcdv A outer s H vs Q E hr h=>?_)
 . obtain⟨g,v,rs,b,rfl,_⟩:=h
   rfl
 . obtain⟨g,v,rs,b,rfl,gr,good,le14,pl,q⟩:=h
   have hu:=jQ hr
   refine⟨_,qg (qz (i:=2) NU.nd rfl (Or.inl rfl) (x8 hM C.cl GM hr (jv 0)))
     (qg (qS (JW.pt (QU (j1 (jF (qy (QW.or (Jz.or (ZG.or Uh))) (by rfl) T.isi boot_isinstance (qb (jv 1) (qb (j3 (v:=.ty "dict") (by rfl) T.dict boot_dict rfl) qd)))))
       (Qp (qt WZ (qy (k4.or k6) (by rfl) B.len boot_len (qb (jv 1) qd)) (qy qU (by rfl) B.len boot_len (qb (jv 2) qd)) (qp _))))) (qh (qA ja)) qF)
     (qh (qA (qy (QO rfl) (by rfl) A' boot_all (qb (Qt (N':=["name","thing"]) (ix:=[none,some 1]) (te:=Jf (Rk false) (qN 0) (qN 1)) rfl ⟨rfl,rfl,rfl,rfl,rfl⟩ (jl (jv 2)) (λC s2 H2 fp pins=>
       ⟨qv (i:=0) (show (["name","thing"]:List Str).Nodup by decide+kernel) rfl (Or.inl rfl),j9,qW (Rq hu) (jv 0) (jv 1) (by with_unfolding_all rfl)⟩)) qd))))),?_⟩
   obtain⟨dx,fs,hg,l1,l2⟩:=gr.ins
   refine⟨_,rfl,g,dx,fs,rfl,hg,l1,g,rs,rfl,gr,λln hln=>?_⟩
   have s1:qr H (upd H ln (.lst ((rs.map (·.1)).map V.str))):=qj hln
   have hl1:upd H ln (.lst ((rs.map (·.1)).map V.str)) ln=some (.lst ((rs.map (·.1)).map V.str)):=qe
   generalize upd H ln (.lst ((rs.map (·.1)).map V.str))=H1 at s1 hl1
   have lnN:((rs.map (·.1)).map V.str).length=rs.length:=by rw[tj,tj]
   have kd:=T.kit "dict" (by simp [Yh]) "dict" (by simp)
   have kl:=T.kit "list" (by simp [Yh]) "dict" (by simp)
   rw[RY]at kd
   refine⟨_,rfl,?_⟩
   cases pl with
   | dat dv=>
     rename_i d
     refine .inl ⟨_,_,d,_,rfl,dv.mono s1,T.at d,_,rfl,?_⟩
     rw[qaJ dv]
     exact jI (jI (q _ s1))
   | lst sq=>exact .inr (.inr (.inr ⟨_,_,_,_,rfl,sq.mono s1,kl,_,rfl,jI (jI (q _ s1))⟩))
   | non rd ne=>
     rename_i D kvs
     refine .inr (.inr (.inl ⟨D,kvs,_,_,rfl,rd.mono s1,kd,_,rfl,jg ⟨_,rfl,.inr ⟨D,kvs,rfl,rd.mono s1,_,rfl,ln,_,rfl,.inl (.of hl1),rfl,_,rfl,?_⟩⟩⟩))
     rw[lnN]
     exact qR (by rw[decide_eq_false (λy=>ne (by have:=V.int.inj y;omega))];rfl) (q _ s1)
   | dk hD=>
     rename_i D kvs
     refine .inr (.inl ⟨D,kvs,_,_,rfl,hD.mono s1,kd,_,rfl,jg ⟨_,rfl,.inl ⟨D,kvs,rfl,hD.mono s1,_,rfl,ln,_,rfl,.inl (.of hl1),rfl,_,rfl,?_⟩⟩⟩)
     rw[lnN]
     refine J2 (λc=>?_) (λc=>?_)
     . have ne:¬kvs.length=rs.length:=λz=>by rw[z]at c;simp at c
       have:=q _ s1
       rw[decide_eq_false ne]at this
       exact this
     . have eq:kvs.length=rs.length:=Classical.byContradiction λz=>c (by rw[decide_eq_false (λy=>z (by have:=V.int.inj y;omega))];rfl)
       refine⟨_,rfl,ln,rfl,⟨_,.of hl1⟩,λD2 hD2=>?_⟩
       refine zH (K:=K) (a:=ln) (xs:=rs.map (·.1)) (enc:=V.str) (out:=λz=>some (V.bl ((qY kvs (Sum.inr z:qI)).isSome))) (rest:=[some (.ref D)]) hD2 hl1 (qm (by rw[tj];omega)) (λz hz Y sY Rr hR=>hR Y (qr.refl Y)) (λz hz v ev Y sY Rr hR=>?_) (λG sG hG=>?_)
       . cases ev
         exact⟨_,rfl,_,rfl,D,_,rfl,j8.r (k:=(Sum.inr z:qI)) ((hD.mono s1).mono sY),hR Y (qr.refl Y)⟩
       . refine⟨D2,(rs.map (·.1)).map λz=>(qY kvs (Sum.inr z:qI)).isSome,rfl,.of (by rw[hG,Zj,RE]),?_⟩
         have:=q _ (s1.trans sG)
         rw[decide_eq_true eq,zde]at this
         rw[zbq]
         exact this
abbrev wP:List Str:=["ground","told"]
theorem qag:qG wP wP (qo Zy):=⟨rfl,rfl,rfl,by decide+kernel,rfl,by decide+kernel,by decide+kernel⟩
theorem xj {f CG fD fE fP:Addr} {fd fdD fdE fdP:FuncData} (F:Qn K "shows" "shows" Zy f fd) (B:JH mg) (G:Je mg) (T:J7 K mg) (M:GM K mg CG) (hD:jr K mg "is_dict_of_places" yH ["ground","thing"] fD fdD) (GD:qB P w K mg base q5 2 fD fdD ["ground","thing"] (yt P w K CG))
   (hE:jr K mg "is_label" Yx ["thing"] fE fdE) (GE:qB P w K mg base q5 3 fE fdE ["thing"] (z5 K)) (hP:jr K mg "label_fits" WT ["ground","told","name"] fP fdP) (GP:qB P w K mg base q5 5 fP fdP ["ground","told","name"] (X8 K CG)):qB P w K mg base q5 6 f fd wP (zZ P w K CG):=by
 obtain⟨fI,fdI,C⟩:=M.cls
 obtain⟨fM,fdM,hM⟩:=M.nm
 have GM:qB P w K mg base q5 1 fM fdM ["self"] (Ym CG):=Xv hM.fn C G
 refine F.okJ qag (λvs H Q E h=>?_) (λcdv A outer s H vs Q E hr h=>?_)
 . obtain⟨g,v,rs,rfl,_⟩:=h
   rfl
 . obtain⟨g,v,rs,rfl,gr,good,le14,h⟩:=h
   have hu:=jQ hr
   have r1:jE 1 _:=hr.mono (by decide)
   have r2:jE 2 _:=hr.mono (by decide)
   have r3:jE 3 _:=hr.mono (by decide)
   refine⟨_,qg (qS (j1 (jF (qO hD GD r2 (by rfl) (qb (jv 0) (qb (jv 1) qd))))) (qh (qA ja)) qF)
     (qg (qS (j1 (jF (qy (QO rfl) (by rfl) T.all boot_all (qb (Qt (N':=["name","told"]) (ix:=[none,some 1]) (te:=JJ (z5 K) [] E0 (qM (JV (qN 1) (qN 0)) jT)) rfl ⟨rfl,rfl,rfl,rfl,rfl⟩ (jl (x8 hM C.cl GM r1 (jv 0))) (λC s2 H2 fp pins=>
       ⟨qv (i:=0) (show (["name","told"]:List Str).Nodup by decide+kernel) rfl (Or.inl rfl),j9,qO hE GE r3 (by rfl) (qb (qC hu (jv 1) (jv 0) (λ_ _=>rfl)) qd)⟩)) qd)))) (qh (qA ja)) qF)
     (qh (qA (qy (QO rfl) (by rfl) T.all boot_all (qb (Qt (N':=["name","ground","told"]) (ix:=[none,some 0,some 1]) (te:=JJ (X8 K CG) [] E0 (qM (qN 1) (qM (qN 2) (qM (qN 0) jT)))) rfl ⟨rfl,rfl,rfl,rfl,rfl⟩ (jl (x8 hM C.cl GM r1 (jv 0))) (λC s2 H2 fp pins=>
       ⟨qv (i:=0) (show (["name","ground","told"]:List Str).Nodup by decide+kernel) rfl (Or.inl rfl),j9,qO hP GP hr (by rfl) (qb (jv 1) (qb (jv 2) (qb (jv 0) qd)))⟩)) qd))))),?_⟩
   rcases h with ⟨pl,q⟩ | ⟨D,kvs,t,rfl,hDk,len,dat,q⟩
   . exact⟨_,rfl,_,rfl,g,v,rs,false,rfl,gr,good,le14,pl,λH' s'=>⟨_,rfl,jI (q _ s')⟩⟩
   . have eb:(decide (kvs.length=rs.length)&&(rs.map (·.1)).all λz=>(qY kvs (Sum.inr z:qI)).isSome)=true:=by
       rw[decide_eq_true len,zde,zav]
       intro z hz
       obtain⟨v,e,_⟩:=dat z hz
       rw[e]
       rfl
     have pl:Pl P w K H rs (.ref D) true:=by
       have:=Pl.dk (P:=P) (w:=w) (K:=K) (rs:=rs) hDk
       rwa [eb]at this
     refine⟨_,rfl,_,rfl,g,.ref D,rs,true,rfl,gr,good,le14,pl,λH1 s1=>⟨_,rfl,jg ?_⟩⟩
     obtain⟨dx,fs,hg,l1,l2⟩:=gr.ins
     refine⟨_,rfl,g,dx,fs,rfl,s1 _ _ hg,l1,g,rs,rfl,gr.mono s1,λln hln=>⟨ln,rfl,⟨_,.of qe⟩,λW hW=>?_⟩⟩
     have s2:qr H (upd H1 ln (.lst ((rs.map (·.1)).map V.str))):=s1.trans (qj hln)
     have hl2:upd H1 ln (.lst ((rs.map (·.1)).map V.str)) ln=some (.lst ((rs.map (·.1)).map V.str)):=qe
     generalize upd H1 ln (.lst ((rs.map (·.1)).map V.str))=H2 at s2 hl2 hW
     refine zH (K:=K) (a:=ln) (xs:=rs.map (·.1)) (enc:=V.str) (out:=λz=>some (V.bl (Qy (t z)).isSome)) (rest:=[some (.ref D)]) hW hl2 (qm (by rw[tj];omega)) (λz hz Y sY Rr hR=>hR Y (qr.refl Y)) (λz hz v ev Y sY Rr hR=>?_) (λG3 s3 hG=>?_)
     . cases ev
       obtain⟨v,e,tg⟩:=dat z hz
       have gz:=j8.r (k:=(Sum.inr z:qI)) ((hDk.mono s2).mono sY)
       rw[e]at gz
       exact⟨_,rfl,_,rfl,D,v,rfl,gz,v,t z,rfl,(tg.mono s2).mono sY,hR Y (qr.refl Y)⟩
     . have s3:=s2.trans s3
       refine⟨W,(rs.map (·.1)).map λz=>(Qy (t z)).isSome,rfl,.of (by rw[hG,Zj,RE]),_,rfl,?_⟩
       rw[zbq]
       refine J2 (λc=>?_) (λc=>?_)
       . refine q _ false s3 ⟨λz=>(nomatch z),λgd=>?_⟩
         have:((rs.map (·.1)).all (id ∘ λz=>(Qy (t z)).isSome))=true:=zav.mpr λz hz=>gd.1 z hz
         rw[this]at c
         cases c
       . have all:∀z∈rs.map (·.1),(Qy (t z)).isSome=true:=by
           cases y:(rs.map (·.1)).all (id ∘ λz=>(Qy (t z)).isSome) with
           | true=>exact λz hz=>zav.mp y z hz
           | false=>exact absurd (by rw[y];rfl) c
         have lz:∀z∈rs.map (·.1),Qy (t z)=some (fL t z):=λz hz=>by
           obtain⟨l,e⟩:=zaN.mp (all z hz)
           unfold fL
           rw[e]
           rfl
         have td:Um K H D rs (fL t):=⟨kvs,hDk,λz hz=>let ⟨v,e,tg⟩:=dat z hz;⟨v,e,(xI tg (lz z hz)).1⟩⟩
         have sml:KE rs (fL t):=λz hz=>by
           obtain⟨v,e,tg⟩:=dat z hz
           have:=(xI tg (lz z hz)).2
           revert this
           cases fL t z with
           | num n s=>intro h;exact zaD h (by decide)
           | end_ b=>exact λh=>h
         refine⟨_,rfl,g,dx,fs,rfl,s3 _ _ hg,l1,g,rs,rfl,gr.mono s3,λln' hln'=>⟨ln',rfl,⟨_,.of qe⟩,λW' hW'=>?_⟩⟩
         have s4:qr H (upd G3 ln' (.lst ((rs.map (·.1)).map V.str))):=s3.trans (qj hln')
         have hl4:upd G3 ln' (.lst ((rs.map (·.1)).map V.str)) ln'=some (.lst ((rs.map (·.1)).map V.str)):=qe
         generalize upd G3 ln' (.lst ((rs.map (·.1)).map V.str))=H4 at s4 hl4 hW'
         classical
         refine zH (K:=K) (a:=ln') (xs:=rs.map (·.1)) (enc:=V.str) (out:=λz=>some (V.bl (decide (jM (ju rs) (fL t) z)))) (rest:=[some (.ref g),some (.ref D)]) hW' hl4 (qm (by rw[tj];omega)) (λz hz Y sY Rr hR=>hR Y (qr.refl Y)) (λz hz v ev Y sY Rr hR=>?_) (λG5 s5 hG=>?_)
         . cases ev
           refine⟨_,rfl,_,rfl,_,rfl,g,D,rs,fL t,z,rfl,gr.mono (s4.trans sY),good,le14,(td.mono s4).mono sY,sml,hz,λH' b s' hb=>?_⟩
           have:=hR H' s'
           rwa [show decide (jM (ju rs) (fL t) z)=b from by rw[zaz,decide_eq_true_iff];exact hb.symm]at this
         . refine⟨W',(rs.map (·.1)).map λz=>decide (jM (ju rs) (fL t) z),rfl,.of (by rw[hG,Zj,RE]),q _ _ (s4.trans s5) ?_⟩
           rw[zbq,zav]
           exact⟨λh=>⟨all,λz hz=>of_decide_eq_true (h z hz)⟩,λh z hz=>decide_eq_true (h.2 z hz)⟩
end
open PySem L2 PyProof.Rows MLab
abbrev Za:Stmt:=top 55
abbrev ZZ:Stmt:=top 56
abbrev zx:Stmt:=top 57
abbrev ZV:Stmt:=top 58
abbrev WU:Stmt:=top 59
abbrev z9:Stmt:=top 60
abbrev ZW:Stmt:=top 61
abbrev ZU:Stmt:=top 62
abbrev Z0:Stmt:=top 63
abbrev ZX:Stmt:=top 64
abbrev Ya:Stmt:=top 65
def W7:Xg->Bool
 | .int i=>decide (0<=i)
 | _=>false
def KQ (K:PySem.W.Frag):Sp:=λvs H Q _=>∃(v:V) (i:Xg),vs=[v]/\ZI K H v i/\Q (.bl (W7 i)) H
def yr (K:PySem.W.Frag):Sp:=λvs H Q _=>∃(v:V) (t:Tg),vs=[v]/\Zp K H v t/\Q (.bl (Qm t).isSome) H
def Qs (G:Str->List Str) (f:Str->Lb) (n s:Nat) (y:Str):Prop:=match f y with
 | .num m t=>if m < n then t < s else if m=n then False else ∃b∈G y,qT n s (f b)=true
 | .end_ _=>∃b∈G y,qT n s (f b)=true
def X7 (K:PySem.W.Frag):Sp:=λvs H Q _=>∃(d D:Addr) (rs:jz) (f:Str->Lb) (z y:Str) (n s:Nat),vs=[.ref d,.ref D,.str z,.str y]/\wL H d rs/\qu rs/\Um K H D rs f/\z∈rs.map (·.1)/\y∈rs.map (·.1)/\f z=.num n s/\
 ∀b,(b=true↔Qs (jn rs) f n s y)->Q (.bl b) H
theorem V0 {its:List Xg} (h:its.length < 2):Qm (.tup its)=none:=by
 unfold Qm
 split
 . rename_i e;cases e;simp at h
 . rename_i e;cases e;simp at h
 . rfl
theorem xO {i0 i1:Xg} {r:List Xg} (h:W7 i1=false):Qm (.tup (i0::i1::r))=none:=by
 unfold Qm
 split
 . rename_i x b e
   cases e
   rw[if_neg (λz=>by have:decide (0<=b)=false:=h;rw[decide_eq_true z.2.1]at this;cases this)]
 . rename_i x n s e
   cases e
   rw[if_neg (λz=>by have:decide (0<=n)=false:=h;rw[decide_eq_true z.2.1]at this;cases this)]
 . rfl
section
variable {P:Program} {w:World} {K:PySem.W.Frag} {mg:Str->Option Value} {base:Heap}
theorem NS:qG ["_law_thing"] ["_law_thing"] (qo Za):=⟨rfl,rfl,rfl,by decide+kernel,rfl,by decide+kernel,by decide+kernel⟩
theorem vZ {f:Addr} {fd:FuncData} (F:Qn K "_law_whole" "_law_whole" Za f fd) (B:JH mg) (T:ZJ K mg):qB P w K mg base q5 1 f fd ["_law_thing"] (KQ K):=by
 refine F.okJ NS (λvs H Q E h=>?_) (λcdv A outer s H vs Q E hr h=>?_)
 . obtain⟨v,d,rfl,_⟩:=h
   rfl
 . obtain⟨v,i,rfl,zi,q⟩:=h
   refine⟨_,qh (qA (jJ (qy Jy (by rfl) T.isi boot_isinstance (qb (jv 0) (qb (j3 (v:=.ty "int") (by rfl) B.int boot_int rfl) qd)))
     (jJ (x5 (qy Jy (by rfl) T.isi boot_isinstance (qb (jv 0) (qb (j3 (v:=.ty "bool") (by rfl) T.bool boot_bool rfl) qd)))) (Qj (qW W1 (jv 0) qf (qp _)))))),?_⟩
   obtain⟨d,dz,ok,e,_⟩:=zi.dz
   have no:i.isInt=false->Q (.bl false) H:=λh=>by
     have:W7 i=false:=by cases i<;>first | rfl | cases h
     rw[this]at q
     exact q
   refine⟨_,rfl,_,_,d,_,rfl,.inl dz,T.at d,_,rfl,?_⟩
   refine J2 (λc=>?_) (λc=>?_)
   . rw[c,if_pos rfl]at e
     refine⟨_,rfl,_,_,d,_,rfl,.inl dz,T.at d,_,rfl,_,rfl,?_⟩
     rw[e]
     refine J2 (λc2=>?_) (λc2=>?_)
     . cases zi with
       | int n=>exact⟨_,rfl,n,0,rfl,rfl,q⟩
       | str x o=>cases c2
       | oth _ _ _ _=>cases c2
     . exact no (by cases x:i.isInt with | true=>exact absurd x c2 | false=>rfl)
   . rw[if_neg c]at e
     exact no e.symm
theorem GV:qG ["_law_thing"] ["_law_thing"] (qo ZZ):=⟨rfl,rfl,rfl,by decide+kernel,rfl,by decide+kernel,by decide+kernel⟩
theorem uM {f fW:Addr} {fd fdW:FuncData} (F:Qn K "_law_is_label" "_law_is_label" ZZ f fd) (B:JH mg) (T:ZJ K mg) (hW:jr K mg "_law_whole" Za ["_law_thing"] fW fdW):qB P w K mg base q5 2 f fd ["_law_thing"] (yr K):=by
 have GW:qB P w K mg base q5 1 fW fdW ["_law_thing"] (KQ K):=vZ hW.fn B T
 refine F.okJ GV (λvs H Q E h=>?_) (λcdv A outer s H vs Q E hr h=>?_)
 . obtain⟨v,t,rfl,_⟩:=h
   rfl
 . obtain⟨v,t,rfl,tg,q⟩:=h
   refine⟨_,qg (qS (JW.pt (QU (j1 (jF (qy (QW.or Y3) (by rfl) T.isi boot_isinstance (qb (jv 0) (qb (j3 (v:=.ty "tuple") (by rfl) T.tup boot_tuple rfl) qd)))))
       (QU (qt Qb (qy qU (by rfl) B.len boot_len (qb (jv 0) qd)) qf (qp _)) (Qp (j1 (jF (qO hW GW hr (by rfl) (qb (qD qw (jv 0) qf (λ_ _=>rfl)) qd)))))))) (qh (qA ja)) qF)
     (qg (qS (qt (VQ hr.units) (qD qw (jv 0) qf (λ_ _=>rfl)) qx (qp _)) (qh (qA (jJ (qW jo (qy qU (by rfl) B.len boot_len (qb (jv 0) qd)) qf (qp _)) (Qj (qO hW GW hr (by rfl) (qb (qD qw (jv 0) qf (λ_ _=>rfl)) qd)))))) qF)
     (qh (qA (jJ (qW (VQ hr.units) (qD qw (jv 0) qf (λ_ _=>rfl)) qx (qp _)) (jJ (qW jo (qy qU (by rfl) B.len boot_len (qb (jv 0) qd)) qf (qp _)) (Qj (qW W0 (qD qw (jv 0) qf (λ_ _=>rfl)) qf (qp _)))))))),?_⟩
   have ke:PyData.strOk (Str.ofString "endless")=true:=by decide+kernel
   have kn:PyData.strOk (Str.ofString "number")=true:=by decide+kernel
   cases tg with
   | no dv nt=>
     rename_i d
     refine⟨_,rfl,.inl ⟨_,_,d,_,rfl,dv,T.at d,_,rfl,?_⟩⟩
     rw[show Wp (yc d) "tuple"=false from by cases d<;>first | rfl | exact absurd rfl (nt _)]
     exact jI (jI q)
   | tup sq hs=>
     rename_i p xs its
     have kt:=T.kit "tuple" (by simp [Yh]) "tuple" (by simp)
     have lx:=Paired.length hs
     refine⟨_,rfl,.inr ⟨p,xs,_,_,rfl,sq,kt,_,rfl,jg ⟨_,rfl,p,xs,rfl,.inr sq,_,2,rfl,rfl,_,rfl,?_⟩⟩⟩
     by_cases c:xs.length < 2
     . refine qR (decide_eq_true (by omega)) (jI ?_)
       rw[V0 (by omega)]at q
       exact q
     . refine qL (decide_eq_false (by omega)) ?_
       obtain⟨x0,x1,xr,i0,i1,ir,rfl,rfl,h0,h1,hr'⟩:∃x0 x1 xr i0 i1 ir,xs=x0::x1::xr/\its=i0::i1::ir/\ZI K H x0 i0/\ZI K H x1 i1/\Paired (ZI K H) xr ir:=by
         cases hs with
         | nil=>exact absurd (by decide) c
         | cons h0 hs=>
           cases hs with
           | nil=>exact absurd (by simp) c
           | cons h1 hs=>exact⟨_,_,_,_,_,_,rfl,rfl,h0,h1,hs⟩
       have lr:=Paired.length hr'
       refine⟨_,rfl,p,_,1,x1,rfl,rfl,sq,QL (j:=1) rfl,x1,i1,rfl,h1,_,rfl,?_⟩
       cases cn:W7 i1 with
       | false=>
         rw[xO cn]at q
         exact jI q
       | true=>
         obtain⟨b,rfl,b0⟩:∃b,i1=.int b/\0<=b:=by
           cases i1 with
           | int b=>exact⟨b,rfl,of_decide_eq_true cn⟩
           | str x=>cases cn
           | oth=>cases cn
         refine jg ?_
         cases h1
         obtain⟨d0,z0,o0,_,e0⟩:=h0.dz
         refine⟨_,rfl,p,_,0,x0,rfl,rfl,sq,QL (j:=0) rfl,d0,_,rfl,z0,o0,kn,_,rfl,?_⟩
         rw[show (if false=true then !PyData.eqv d0 (PyData.str (Str.ofString "number")) else PyData.eqv d0 (PyData.str (Str.ofString "number")))=PyData.eqv d0 (PyData.str (Str.ofString "number")) from rfl,e0]
         by_cases c0:i0.isS (Str.ofString "number")=true
         . obtain⟨x,rfl,ex⟩:∃x,i0=.str x/\x=Str.ofString "number":=by
             cases i0 with
             | str x=>exact⟨x,rfl,of_decide_eq_true c0⟩
             | int i=>cases c0
             | oth=>cases c0
           refine qR c0 ⟨_,rfl,p,_,rfl,.inr sq,rfl,_,rfl,?_⟩
           have ne:¬x=Str.ofString "endless":=by rw[ex];decide+kernel
           by_cases c3:(x0::V.int b::xr).length=3
           . refine qR (decide_eq_true (by rw[c3];rfl)) ?_
             obtain⟨x2,rfl⟩:∃x2,xr=[x2]:=by
               match xr,c3 with
               | [x2],_=>exact⟨x2,rfl⟩
             cases hr' with
             | cons h2 hr'=>
               cases hr'
               rename_i i2
               refine⟨_,rfl,p,_,2,x2,rfl,rfl,sq,QL (j:=2) rfl,x2,i2,rfl,h2,?_⟩
               have e:(Qm (.tup [.str x,.int b,i2])).isSome=W7 i2:=by
                 cases i2 with
                 | int s'=>
                   show (if _ then _ else _:Option Lb).isSome=decide (0<=s')
                   by_cases h:0<=s'
                   . rw[if_pos ⟨ex,b0,h⟩,decide_eq_true h];rfl
                   . rw[if_neg (λz=>h z.2.2),decide_eq_false h];rfl
                 | str y=>rfl
                 | oth=>rfl
               rw[e]at q
               exact q
           . refine qL (decide_eq_false (λz=>c3 (by have:=V.int.inj z;omega))) ?_
             have e:Qm (.tup (.str x::.int b::ir))=none:=by
               unfold Qm
               split
               . rename_i e;cases e;rw[if_neg (λz=>ne z.1)]
               . rename_i e;cases e;exact absurd (by simp at lr ⊢;omega) c3
               . rfl
             rw[e]at q
             exact q
         . have c0':i0.isS (Str.ofString "number")=false:=by cases y:i0.isS (Str.ofString "number") with | true=>exact absurd y c0 | false=>rfl
           have nn:∀{r:List Xg},(∀s',r≠[.int s'])->Qm (.tup (i0::.int b::r))=(match i0,r with | .str x,[]=>if x=Str.ofString "endless"/\0<=b/\b<=65535 then some (.end_ b.toNat) else none | _,_=>none):=λ{r} h=>by
             match i0,r with
             | .str x,[]=>rfl
             | .int _,[]=>rfl
             | .oth,[]=>rfl
             | .str x,.int s'::[]=>exact absurd rfl (h s')
             | .str x,.int s'::_::_=>rfl
             | .str x,.str _::_=>rfl
             | .str x,.oth::_=>rfl
             | .int _,_::_=>rfl
             | .oth,_::_=>rfl
           refine qL c0' ?_
           refine⟨_,rfl,p,_,0,x0,rfl,rfl,sq,QL (j:=0) rfl,d0,_,rfl,z0,o0,ke,_,rfl,?_⟩
           rw[show (if false=true then !PyData.eqv d0 (PyData.str (Str.ofString "endless")) else PyData.eqv d0 (PyData.str (Str.ofString "endless")))=PyData.eqv d0 (PyData.str (Str.ofString "endless")) from rfl,e0]
           have e3:∀s',Qm (.tup [i0,.int b,.int s'])=none:=λs'=>by
             cases i0 with
             | str x=>
               show (if _ then _ else _:Option Lb)=none
               rw[if_neg (λz=>c0 (decide_eq_true z.1))]
             | int _=>rfl
             | oth=>rfl
           by_cases c1:i0.isS (Str.ofString "endless")=true
           . obtain⟨x,rfl,ex⟩:∃x,i0=.str x/\x=Str.ofString "endless":=by
               cases i0 with
               | str x=>exact⟨x,rfl,of_decide_eq_true c1⟩
               | int i=>cases c1
               | oth=>cases c1
             refine qR c1 ⟨_,rfl,p,_,rfl,.inr sq,rfl,_,rfl,?_⟩
             by_cases c3:(x0::V.int b::xr).length=2
             . refine qR (decide_eq_true (by rw[c3];rfl)) ⟨_,rfl,p,_,1,_,rfl,rfl,sq,QL (j:=1) rfl,b,65535,rfl,rfl,?_⟩
               obtain rfl:ir=[]:=List.length_eq_zero_iff.mp (by rw[<-lr];simpa using c3)
               have e:(Qm (.tup [.str x,.int b])).isSome=decide (b<=65535):=by
                 show (if _ then _ else _:Option Lb).isSome=_
                 by_cases h:b<=65535
                 . rw[if_pos ⟨ex,b0,h⟩,decide_eq_true h];rfl
                 . rw[if_neg (λz=>h z.2.2),decide_eq_false h];rfl
               rw[e]at q
               exact q
             . refine qL (decide_eq_false (λz=>c3 (by have:=V.int.inj z;omega))) ?_
               have e:Qm (.tup (.str x::.int b::ir))=none:=by
                 by_cases h:∃s',ir=[.int s']
                 . obtain⟨s',rfl⟩:=h
                   exact e3 s'
                 . rw[nn (λs' z=>h ⟨s',z⟩)]
                   cases ir with
                   | nil=>exact absurd (by simp at lr ⊢;omega) c3
                   | cons _ _=>rfl
               rw[e]at q
               exact q
           . refine qL (by cases y:i0.isS (Str.ofString "endless") with | true=>exact absurd y c1 | false=>rfl) ?_
             have e:Qm (.tup (i0::.int b::ir))=none:=by
               by_cases h:∃s',ir=[.int s']
               . obtain⟨s',rfl⟩:=h
                 exact e3 s'
               . rw[nn (λs' z=>h ⟨s',z⟩)]
                 cases i0 with
                 | str x=>
                   cases ir with
                   | nil=>show (if _ then _ else _:Option Lb)=none;rw[if_neg (λz=>c1 (decide_eq_true z.1))]
                   | cons _ _=>rfl
                 | int _=>rfl
                 | oth=>rfl
             rw[e]at q
             exact q
end
open PySem L2 PyProof.Rows MLab
def Yl (K:PySem.W.Frag):Sp:=λvs H Q _=>∃(d D:Addr) (rs:jz) (f:Str->Lb) (z:Str),vs=[.ref d,.ref D,.str z]/\wL H d rs/\qu rs/\Um K H D rs f/\KE rs f/\z∈rs.map (·.1)/\
 ∀H' b,qr H H'->(b=true↔jM (ju rs) f z)->Q (.bl b) H'
theorem Xw {rs:jz} (good:qu rs) {z:Str} (h:z∈rs.map (·.1)):jc z=true:=by
 obtain⟨r,hr,rfl⟩:=tE.mp h
 exact good.nm r hr
theorem Ud (zs:List Str):PyData.eqv (dL zs) (.list [])=decide (zs=[]):=by cases zs<;>rfl
theorem YA {G:Str->List Str} {f:Str->Lb} {n s:Nat} {y:Str} (h:(f y).nm≠some n):Qs G f n s y↔jA G f n s y:=by
 unfold Qs jA
 cases e:f y with
 | end_ b=>exact Iff.rfl
 | num m t=>
   have ne:m≠n:=λz=>h (by rw[e,z];rfl)
   show (if m < n then t < s else if m=n then False else _)↔if m < n then t < s else _
   rw[if_neg ne]
section
variable {P:Program} {w:World} {K:PySem.W.Frag} {mg:Str->Option Value} {base:Heap}
abbrev nLR:List Str:=["_law_roads","_law_told","_law_name","_law_one","_law_label","_law_two"]
abbrev Nv:List Str:=["_law_roads","_law_told","_law_name","_law_one"]
theorem GU:qG nLR Nv (qo zx):=⟨rfl,rfl,rfl,by decide+kernel,rfl,by decide+kernel,by decide+kernel⟩
theorem xo {f:Addr} {fd:FuncData} (F:Qn K "_law_road_right" "_law_road_right" zx f fd):qB P w K mg base q5 1 f fd Nv (X7 K):=by
 refine F.okJ GU (λvs H Q E h=>?_) (λcdv A outer s H vs Q E hr h=>?_)
 . obtain⟨d,D,rs,f,z,y,n,s,rfl,_⟩:=h
   rfl
 . obtain⟨d,D,rs,f,z,y,n,s',rfl,ld,good,td,hz,hy,ef,q⟩:=h
   have hu:=jQ hr
   refine⟨_,qg (qz (i:=4) GU.nd rfl (Or.inl rfl) (qC hu (jv 1) (jv 2) (λ_ _=>rfl)))
     (Z5 (qS (JW.pt (jN (qt jo (qD qw (qC hu (jv 1) (jv 3) (λ_ _=>rfl)) qf (λ_ _=>rfl)) qx (qp _)) (jC (qt Qb (qD qw (qC hu (jv 1) (jv 3) (λ_ _=>rfl)) qf (λ_ _=>rfl)) (qD qw (jv 4) qf (λ_ _=>rfl)) (qp _))))) (qh (qA (qW Qb (qD qw (qC hu (jv 1) (jv 3) (λ_ _=>rfl)) qf (λ_ _=>rfl)) (qD qw (jv 4) qf (λ_ _=>rfl)) (qp _)))) qF)
     (Z5 (qS (JW.pt (jN (qt jo (qD qw (qC hu (jv 1) (jv 3) (λ_ _=>rfl)) qf (λ_ _=>rfl)) qx (qp _)) (jC (qt jo (qD qw (qC hu (jv 1) (jv 3) (λ_ _=>rfl)) qf (λ_ _=>rfl)) (qD qw (jv 4) qf (λ_ _=>rfl)) (qp _))))) (qh (qA ja)) qF)
     (qg (jp PassesOwn.never rfl (Jd (qC hu (jv 0) (jv 3) (λ_ _=>rfl))) (qv (i:=5) GU.nd rfl (Or.inl rfl))
       (qh (qS (JW.pt (jN (qt jo (qD qw (qC hu (jv 1) (jv 5) (λ_ _=>rfl)) qf (λ_ _=>rfl)) qx (qp _)) (jN (qt jo (qD qw (qC hu (jv 1) (jv 5) (λ_ _=>rfl)) qf (λ_ _=>rfl)) (qD qw (jv 4) qf (λ_ _=>rfl)) (qp _)) (jC (qt Qb (qD qw (qC hu (jv 1) (jv 5) (λ_ _=>rfl)) qf (λ_ _=>rfl)) (qD qw (jv 4) qf (λ_ _=>rfl)) (qp _)))))) (qh (qA ja)) qF)))
     (qh (qA ja))))),?_⟩
   obtain⟨p2,g2,sp2⟩:=td.get hz
   obtain⟨p,gp,sp⟩:=td.get hy
   rw[ef]at sp2
   refine⟨_,rfl,_,rfl,D,_,rfl,g2,?_⟩
   refine⟨λσ' H'=>H'=H/\σ'=[some (.ref d),some (.ref D),some (.str z),some (.str y),some (.ref p2),none]/\∀m t,f y=.num m t->¬m < n,?_,?_⟩
   . cases efy:f y with
     | end_ b=>
       rw[efy]at sp
       exact⟨_,rfl,_,rfl,D,_,rfl,gp,p,_,0,_,rfl,rfl,sp,rfl,rfl,_,rfl,qL (by decide+kernel) (jg ⟨rfl,rfl,λm t e=>by cases e⟩)⟩
     | num m t=>
       rw[efy]at sp
       refine⟨_,rfl,_,rfl,D,_,rfl,gp,p,_,0,_,rfl,rfl,sp,rfl,rfl,_,rfl,qR (by decide+kernel) ⟨_,rfl,_,rfl,D,_,rfl,gp,p,_,1,_,rfl,rfl,sp,rfl,_,rfl,p2,_,1,_,rfl,rfl,sp2,rfl,(m:Int),(n:Int),rfl,rfl,_,rfl,?_⟩⟩
       by_cases c:m < n
       . refine qR (decide_eq_true (by omega)) ⟨_,rfl,_,rfl,D,_,rfl,gp,p,_,2,_,rfl,rfl,sp,rfl,_,rfl,p2,_,2,_,rfl,rfl,sp2,rfl,(t:Int),(s':Int),rfl,rfl,q _ ?_⟩
         unfold Qs
         rw[efy,decide_eq_true_iff]
         show _↔if m < n then t < s' else _
         rw[if_pos c]
         omega
       . exact qL (decide_eq_false (by omega)) ⟨rfl,rfl,λm' t' e=>by cases e;exact c⟩
   . rintro σ' H' ⟨rfl,rfl,nl⟩
     refine⟨λσ' H2=>H2=H'/\σ'=[some (.ref d),some (.ref D),some (.str z),some (.str y),some (.ref p2),none]/\(Qs (jn rs) f n s' y↔∃b∈jn rs y,qT n s' (f b)=true),?_,?_⟩
     . unfold Qs at q ⊢
       cases efy:f y with
       | end_ b=>
         rw[efy]at sp
         exact⟨_,rfl,_,rfl,D,_,rfl,gp,p,_,0,_,rfl,rfl,sp,rfl,rfl,_,rfl,qL (by decide+kernel) (jg ⟨rfl,rfl,Iff.rfl⟩)⟩
       | num m t=>
         have nl':=nl m t efy
         rw[efy]at sp q
         refine⟨_,rfl,_,rfl,D,_,rfl,gp,p,_,0,_,rfl,rfl,sp,rfl,rfl,_,rfl,qR (by decide+kernel) ⟨_,rfl,_,rfl,D,_,rfl,gp,p,_,1,_,rfl,rfl,sp,rfl,_,rfl,p2,_,1,_,rfl,rfl,sp2,rfl,rfl,_,rfl,?_⟩⟩
         by_cases c:m=n
         . refine qR (decide_eq_true (by rw[c])) (q _ ?_)
           show _↔if m < n then t < s' else if m=n then False else _
           rw[if_neg nl',if_pos c]
           exact⟨λz=>(nomatch z),λz=>z.elim⟩
         . refine qL (decide_eq_false (λz=>c (by have:=V.int.inj z;omega))) ⟨rfl,rfl,?_⟩
           show (if m < n then t < s' else if m=n then False else _)↔_
           rw[if_neg nl',if_neg c]
     . rintro σ' H2 ⟨rfl,rfl,iff⟩
       obtain⟨q',gq,hq⟩:=ld.get good hy
       refine⟨_,rfl,_,rfl,d,_,rfl,gq,q',rfl,⟨_,.of hq⟩,?_⟩
       refine Z8 (K:=K) (a:=q') (xs:=(jn rs y).map V.str) (λm σ'' G=>∃v5,σ''=[some (.ref d),some (.ref D),some (.str z),some (.str y),some (.ref p2),v5]/\G=H2/\∀b∈(jn rs y).take m,qT n s' (f b)=false)
         ⟨none,rfl,rfl,λb hb=>(nomatch hb)⟩ (λm σ'' G _ ⟨_,_,e,_⟩=>e▸.of hq) ?_ ?_
       . rintro m x σ'' G hx ⟨v5,rfl,rfl,no⟩
         obtain⟨u,eu,hu',rfl⟩:=J9 hx
         have huN:u∈rs.map (·.1):=Jt good hy hu'
         obtain⟨pu,gu,su⟩:=td.get huN
         have etk:(jn rs y).take (m+1)=(jn rs y).take m++[u]:=by rw[tQ,eu];rfl
         have skip:qT n s' (f u)=false->∃v5,[some (V.ref d),some (.ref D),some (.str z),some (.str y),some (.ref p2),some (.str u)]=[some (.ref d),some (.ref D),some (.str z),some (.str y),some (.ref p2),v5]/\G=G/\∀b∈(jn rs y).take (m+1),qT n s' (f b)=false:=λe=>⟨_,rfl,rfl,λb hb=>by
           rw[etk]at hb
           rcases tZ.mp hb with h | h
           . exact no b h
           . have:b=u:=by simpa using h
             rw[this];exact e⟩
         cases efu:f u with
         | end_ b=>
           rw[efu]at su
           exact⟨_,rfl,_,rfl,D,_,rfl,gu,pu,_,0,_,rfl,rfl,su,rfl,rfl,_,rfl,qL (by decide+kernel) (jg (skip (by rw[efu];rfl)))⟩
         | num m' t=>
           rw[efu]at su
           refine⟨_,rfl,_,rfl,D,_,rfl,gu,pu,_,0,_,rfl,rfl,su,rfl,rfl,_,rfl,qR (by decide+kernel) ⟨_,rfl,_,rfl,D,_,rfl,gu,pu,_,1,_,rfl,rfl,su,rfl,_,rfl,p2,_,1,_,rfl,rfl,sp2,rfl,rfl,_,rfl,?_⟩⟩
           by_cases c:m'=n
           . refine qR (decide_eq_true (by rw[c])) ⟨_,rfl,_,rfl,D,_,rfl,gu,pu,_,2,_,rfl,rfl,su,rfl,_,rfl,p2,_,2,_,rfl,rfl,sp2,rfl,(t:Int),(s':Int),rfl,rfl,_,rfl,?_⟩
             by_cases c2:t < s'
             . refine qR (decide_eq_true (by omega)) (q _ (iff_of_true rfl (iff.mpr ⟨u,hu',?_⟩)))
               rw[efu]
               show (decide (m'=n)&&decide (t < s'))=true
               rw[decide_eq_true c,decide_eq_true c2];rfl
             . refine qL (decide_eq_false (by omega)) (skip ?_)
               rw[efu]
               show (decide (m'=n)&&decide (t < s'))=false
               rw[decide_eq_false c2,Bool.and_false]
           . refine qL (decide_eq_false (λz=>c (by have:=V.int.inj z;omega))) (jg (skip ?_))
             rw[efu]
             show (decide (m'=n)&&decide (t < s'))=false
             rw[decide_eq_false c];rfl
       . rintro σ'' G ⟨v5,rfl,rfl,no⟩
         rw[tj,tF (tu _)]at no
         refine q _ ⟨λz=>(nomatch z),λz=>?_⟩
         obtain⟨b,hb,e⟩:=iff.mp z
         rw[no b hb]at e
         cases e
abbrev nLP:List Str:=["_law_roads","_law_told","_law_name","_law_numbers_here","_law_least","_law_bad","_law_bits","_law_number","_law_some"]
abbrev N7:List Str:=["_law_roads","_law_told","_law_name"]
theorem Wc:qG nLP N7 (qo ZV):=⟨rfl,rfl,rfl,by decide+kernel,rfl,by decide+kernel,by decide+kernel⟩
theorem ka {f fR:Addr} {fd fdR:FuncData} (F:Qn K "_law_place_right" "_law_place_right" ZV f fd) (hR:jr K mg "_law_road_right" zx Nv fR fdR):qB P w K mg base q5 2 f fd N7 (Yl K):=by
 have GR:qB P w K mg base q5 1 fR fdR Nv (X7 K):=xo hR.fn
 refine F.okJ Wc (λvs H Q E h=>?_) (λcdv A outer s H vs Q E hr h=>?_)
 . obtain⟨d,D,rs,f,z,rfl,_⟩:=h
   rfl
 . obtain⟨d,D,rs,f,z,rfl,ld,good,td,sm,hz,q⟩:=h
   have hu:=jQ hr
   have hu0:_:=zbU hu
   refine⟨_,qg (Jm (i:=3) (N':=["_law_one","_law_told"]) (ix:=[none,some 1]) (tt:=Yi (Jf Nu (Jf (JQ K) (JV (qN 1) (qN 0)) (tC (.int 0))) (tC (.str (Str.ofString "number"))))) (te:=Jf (JQ K) (JV (qN 1) (qN 0)) (tC (.int 1))) Wc.nd rfl (Or.inl rfl) rfl ⟨rfl,rfl,rfl,rfl,rfl⟩ (Jd (qC hu (jv 0) (jv 2) (λ_ _=>rfl))) (λC s2 H2 fp pins=>
       ⟨qv (i:=0) (show (["_law_one","_law_told"]:List Str).Nodup by decide+kernel) rfl (Or.inl rfl),Qq (qt jo (qD qw (qC hu (jv 1) (jv 0) (λ_ _=>rfl)) qf (λ_ _=>rfl)) qx (qp _)),qD qw (qC hu (jv 1) (jv 0) (λ_ _=>rfl)) qf (λ_ _=>rfl)⟩))
     (qg (qz (i:=4) Wc.nd rfl (Or.inr rfl) qf)
     (qg (YS PassesOwn.never (qt zB (jv 4) (jv 3) (by with_unfolding_all rfl)) (qh (qz (i:=4) Wc.nd rfl (Or.inr rfl) (qH j5 (jv 4) qf))))
     (qg (qS (qt jo (qD qw (qC hu (jv 1) (jv 2) (λ_ _=>rfl)) qf (λ_ _=>rfl)) qx (qp _))
       (qg (Jm (i:=5) (N':=["_law_one","_law_name","_law_roads","_law_told"]) (ix:=[none,some 2,some 0,some 1]) (tt:=Gu (tB (JJ (X7 K) [] E0 (qM (qN 2) (qM (qN 3) (qM (qN 1) (qM (qN 0) jT))))))) (te:=qN 0) Wc.nd rfl (Or.inl rfl) rfl ⟨rfl,rfl,rfl,rfl,rfl⟩ (Jd (qC hu (jv 0) (jv 2) (λ_ _=>rfl))) (λC s2 H2 fp pins=>
         ⟨qv (i:=0) (show (["_law_one","_law_name","_law_roads","_law_told"]:List Str).Nodup by decide+kernel) rfl (Or.inl rfl),Qq (j1 (jF (qO hR GR hr (by rfl) (qb (jv 2) (qb (jv 3) (qb (jv 1) (qb (jv 0) qd))))))),jv 0⟩))
       (qh (qA (jJ (qW jo (qD qw (qC hu (jv 1) (jv 2) (λ_ _=>rfl)) qf (λ_ _=>rfl)) (jv 4) (qp _)) (Qj (qW (VR hr.units) (jv 5) (qV qd) (qp _))))))) qF)
     (qg (qz (i:=6) Wc.nd rfl (Or.inl rfl) qf)
     (qg (jp PassesOwn.never rfl (jl (jv 3)) (qv (i:=7) Wc.nd rfl (Or.inl rfl)) (qh (qz (i:=6) Wc.nd rfl (Or.inl rfl) (qH xb (jv 6) (qH YG qf (jv 7))))))
     (qg (Jm (i:=8) (N':=["_law_one","_law_least","_law_told"]) (ix:=[none,some 4,some 1]) (tt:=Gx (Yi (Jf Nu (Jf (JQ K) (JV (qN 2) (qN 0)) (tC (.int 0))) (tC (.str (Str.ofString "endless"))))) (Yi (Jf Nu (Jf (US λi j=>.int (Builtin.bitAnd i j)) (Jf (rI (λ_ j=>0<=j) λi j=>.int (i / 2^j.toNat)) (Jf (JQ K) (JV (qN 2) (qN 0)) (tC (.int 1))) (qN 1)) (tC (.int 1))) (tC (.int 0))))) (te:=qN 0) Wc.nd rfl (Or.inl rfl) rfl ⟨rfl,rfl,rfl,rfl,rfl⟩ (Jd (qC hu (jv 0) (jv 2) (λ_ _=>rfl))) (λC s2 H2 fp pins=>
         ⟨qv (i:=0) (show (["_law_one","_law_least","_law_told"]:List Str).Nodup by decide+kernel) rfl (Or.inl rfl),Qq (JW.pt (jN (qt jo (qD qw (qC hu (jv 2) (jv 0) (λ_ _=>rfl)) qf (λ_ _=>rfl)) qx (qp _)) (jC (qt jo (qH xf (qH xa (qD qw (qC hu (jv 2) (jv 0) (λ_ _=>rfl)) qf (λ_ _=>rfl)) (jv 1)) qf) qf (qp _))))),jv 0⟩))
     (qh (qA (jJ (qW jo (qD qw (qC hu (jv 1) (jv 2) (λ_ _=>rfl)) qf (λ_ _=>rfl)) (jv 6) (qp _)) (Qj (qW (VP hr.units) (jv 8) (qV qd) (qp _)))))))))))),?_⟩
   obtain⟨q0,gq,hq⟩:=ld.get good hz
   have l40:=Vc good hz
   refine⟨_,rfl,_,rfl,d,_,rfl,gq,q0,rfl,⟨_,.of hq⟩,λW hW=>?_⟩
   have cl:∀{y:Str},y∈jn rs z->y∈rs.map (·.1):=λhy=>Jt good hz hy
   refine Yf (K:=K) (a:=q0) (xs:=jn rs z) (enc:=V.str) (out:=λy=>((f y).nm).map λn=>V.int (n:Nat)) (rest:=[some (.ref D)]) hW hq (qm (by omega)) (λy hy Y sY Rr hR=>?_) (λy hy v ev Y sY Rr hR=>?_) (λG1 s1 hG=>?_)
   . obtain⟨pz,gz,sz⟩:=(td.mono sY).get (cl hy)
     have h:=hR Y (qr.refl Y)
     revert h sz
     cases f y with
     | num n s=>
       intro sz h
       refine⟨_,rfl,_,rfl,D,_,rfl,gz,pz,_,0,_,rfl,rfl,sz,rfl,rfl,_,rfl,?_⟩
       rw[show decide (V.str (Str.ofString "number")=V.str (Str.ofString "number"))=true from decide_eq_true rfl]
       exact h
     | end_ b=>
       intro sz h
       refine⟨_,rfl,_,rfl,D,_,rfl,gz,pz,_,0,_,rfl,rfl,sz,rfl,rfl,_,rfl,?_⟩
       rw[show decide (V.str (Str.ofString "endless")=V.str (Str.ofString "number"))=false from by decide+kernel]
       exact h
   . obtain⟨pz,gz,sz⟩:=(td.mono sY).get (cl hy)
     revert sz ev
     cases f y with
     | num n s=>
       intro ev sz
       cases ev
       exact⟨_,rfl,_,rfl,D,_,rfl,gz,pz,_,1,_,rfl,rfl,sz,rfl,hR Y (qr.refl Y)⟩
     | end_ b=>
       intro ev sz
       cases ev
   rw[Ge]at hG
   have enb:∀x,x∈(jn rs z).filterMap (λy=>(f y).nm)↔x∈JR (ju rs) f z:=λx=>by
     rw[Wi,zal]
     exact⟨λ⟨y,hy,e⟩=>⟨y,(jk good hz).mp hy,e⟩,λ⟨y,hy,e⟩=>⟨y,(jk good hz).mpr hy,e⟩⟩
   have la:Rb.lackN ((jn rs z).filterMap (λy=>(f y).nm))=Rb.lackN (JR (ju rs) f z):=YO enb
   have lset:Rb.setN ((jn rs z).filterMap (λy=>(f y).nm))=Rb.setN (JR (ju rs) f z):=vG enb
   have smN:∀x∈(jn rs z).filterMap (λy=>(f y).nm),x < 1000:=λx hx=>xB good.nd sm hz x ((enb x).mp hx)
   have lns:((jn rs z).filterMap (λy=>(f y).nm)).length<=40:=tV (zas _ _) l40
   generalize (jn rs z).filterMap (λy=>(f y).nm)=ns at hG enb la lset smN lns
   refine Yg (λσ G=>G=G1/\∃k:Nat,σ=[some (.ref d),some (.ref D),some (.str z),some (.ref W),some (.int (k:Nat)),none,none,none,none]/\∀x,x < k->x∈ns) (λσ G=>match σ with | [_,_,_,_,some (.int k),_,_,_,_]=>41 - k.toNat | _=>0) ⟨rfl,0,rfl,λx h=>absurd h (zbr x)⟩ ?_ ?_
   . rintro σ G ⟨rfl,k,rfl,all⟩
     have kl:k<=40:=tV (Rb.pigeon k ns all) lns
     refine⟨_,rfl,_,rfl,W,_,rfl,.inl (.of hG),rfl,Z6 _,_,rfl,?_⟩
     rw[show (if false=true then !zQ (.int (k:Nat)) (J3 ns) else zQ (.int (k:Nat)) (J3 ns))=zQ (.int (k:Nat)) (J3 ns) from rfl,YW]
     by_cases c:k∈ns
     . have k40:k+1<=40:=tV (Rb.pigeon (k+1) ns λx hx=>by
         rcases zbD x k with h | h
         . exact all x h
         . have:x=k:=by omega
           rw[this];exact c) lns
       refine qR (decide_eq_true c) ⟨_,rfl,(k:Int),1,rfl,rfl,⟨rfl,k+1,rfl,λx hx=>?_⟩,?_⟩
       . rcases zbD x k with h | h
         . exact all x h
         . have:x=k:=by omega
           rw[this];exact c
       . show 41 - ((k:Int)+1).toNat < 41 - ((k:Nat):Int).toNat
         omega
     . refine qL (decide_eq_false c) ?_
       have ek:k=Rb.lackN (JR (ju rs) f z):=by rw[<-la];exact Rb.lackN_eq ⟨c,all⟩
       obtain⟨p,gp,sp⟩:=(td.mono s1).get hz
       have ld1:=ld.mono s1
       obtain⟨q1,gq1,hq1⟩:=ld1.get good hz
       unfold jM at q
       cases ef:f z with
       | num n s'=>
         rw[ef]at sp q
         refine⟨_,rfl,_,rfl,D,_,rfl,gp,p,_,0,_,rfl,rfl,sp,rfl,rfl,_,rfl,qR (by decide+kernel) ?_⟩
         refine⟨_,rfl,_,rfl,d,_,rfl,gq1,q1,rfl,⟨_,.of hq1⟩,λW2 hW2=>?_⟩
         classical
         refine Yf (K:=K) (a:=q1) (xs:=jn rs z) (enc:=V.str) (out:=λy=>if Qs (jn rs) f n s' y then none else some (V.str y)) (rest:=[some (.str z),some (.ref d),some (.ref D)]) hW2 hq1 (qm (by omega)) (λy hy Y sY Rr hR=>?_) (λy hy v ev Y sY Rr hR=>?_) (λG2 s2 hG2=>?_)
         . refine⟨_,rfl,_,rfl,_,rfl,_,rfl,d,D,rs,f,z,y,n,s',rfl,ld1.mono sY,good,(td.mono s1).mono sY,hz,cl hy,ef,λb hb=>⟨_,rfl,?_⟩⟩
           have:=hR Y (qr.refl Y)
           by_cases c:Qs (jn rs) f n s' y
           . rw[if_pos c]at this
             rw[hb.mpr c]
             exact this
           . rw[if_neg c]at this
             rw[show b=false from by cases b with | true=>exact absurd (hb.mp rfl) c | false=>rfl]
             exact this
         . have ev:(if Qs (jn rs) f n s' y then none else some (V.str y))=some v:=ev
           split at ev
           . cases ev
           . cases ev
             exact⟨_,rfl,hR Y (qr.refl Y)⟩
         have s12:=s1.trans s2
         have eb:(jn rs z).filterMap (λy=>if Qs (jn rs) f n s' y then none else some (V.str y))=((jn rs z).filter λy=> !decide (Qs (jn rs) f n s' y)).map V.str:=by
           generalize jn rs z=L
           induction L with
           | nil=>rfl
           | cons y L ih=>
             by_cases c:Qs (jn rs) f n s' y
             . rw[zar,if_pos c,zaK,if_neg (by rw[decide_eq_true c];decide)];exact ih
             . rw[zar,if_neg c,zaK,if_pos (by rw[decide_eq_false c];rfl),tP];exact congrArg _ ih
         rw[eb]at hG2
         obtain⟨p2,gp2,sp2⟩:=(td.mono s12).get hz
         rw[ef]at sp2
         refine⟨_,rfl,_,rfl,D,_,rfl,gp2,p2,_,1,_,rfl,rfl,sp2,rfl,_,rfl,rfl,_,rfl,?_⟩
         by_cases cn:n=k
         . refine qR (decide_eq_true (by rw[cn])) ⟨_,rfl,by decide,λl0 h0=>?_⟩
           refine⟨dL ((jn rs z).filter λy=> !decide (Qs (jn rs) f n s' y)),.list [],wN (ql hG2 h0),.lst (.of qe) .nil,shL (λy hy=>Xw good (cl (zaw.mp hy).1)),by decide+kernel,q _ _ (s12.trans (qj h0)) ?_⟩
           rw[Ud,decide_eq_true_iff,zbR]
           have nk:∀y∈jn rs z,(f y).nm≠some n:=λy hy e=>by
             have:n∈ns:=(enb n).mpr (Wi.mpr ⟨y,(jk good hz).mp hy,e⟩)
             rw[cn]at this
             exact c this
           have clg:∀x∈rs.map (·.1),∀y∈jn rs x,y∈rs.map (·.1):=λx hx y hy=>Jt good hx hy
           have sameM:∀x∈rs.map (·.1),∀y,y∈jn rs x↔y∈ju rs x:=λx hx y=>jk good hx
           constructor
           . intro h
             refine⟨cn.trans ek,λy hy=>?_⟩
             have hy':=(jk good hz).mpr hy
             have:=h y hy'
             have r:Qs (jn rs) f n s' y:=Classical.byContradiction λz=>this (by rw[decide_eq_false z];rfl)
             exact(jA.same clg sameM (cl hy')).mp ((YA (nk y hy')).mp r)
           . intro h y hy
             have r:=(YA (nk y hy)).mpr ((jA.same clg sameM (cl hy)).mpr (h.2 y ((jk good hz).mp hy)))
             rw[decide_eq_true r]
             decide
         . refine qL (decide_eq_false (λz=>cn (by have:=V.int.inj z;omega))) (q _ false s12 ⟨λz=>(nomatch z),λz=>absurd (z.1.trans ek.symm) cn⟩)
       | end_ e=>
         rw[ef]at sp q
         refine⟨_,rfl,_,rfl,D,_,rfl,gp,p,_,0,_,rfl,rfl,sp,rfl,rfl,_,rfl,qL (by decide+kernel) ?_⟩
         refine⟨_,rfl,W,rfl,⟨_,.of hG⟩,?_⟩
         refine j7 (K:=K) (a:=W) (xs:=J3 ns) (λi σ H'=>∃v,σ=[some (.ref d),some (.ref D),some (.str z),some (.ref W),some (.int (k:Nat)),none,some (.int ((Rb.setN (ns.take i):Nat):Int)),v,none]/\H'=G) ⟨none,rfl,rfl⟩ (λi σ H' _ ⟨_,_,e⟩=>e▸.of hG) ?_ ?_
         . rintro i x σ H' hx ⟨v,rfl,rfl⟩
           obtain⟨n,hn,rfl⟩:=Wr hx
           have n1:=smN n (tY hn)
           have e1:(1:Int)*2^ ((n:Nat):Int).toNat=((2^n:Nat):Int):=by rw[zad,zdb];push_cast;rfl
           have e:((Rb.setN (ns.take (i+1)):Nat):Int)=Builtin.bitOr (Rb.setN (ns.take i):Nat) ((1:Int)*2^ ((n:Nat):Int).toNat):=by rw[e1,bo,zr hn,Rb.setN_snoc]
           refine⟨_,rfl,_,rfl,_,_,rfl,rfl,⟨by omega,by omega,by decide⟩,_,_,rfl,rfl,some (.int n),?_,rfl⟩
           rw[e]
           rfl
         . rintro σ H' ⟨v,rfl,rfl⟩
           rw[Ye,tF (tu _)]
           refine⟨_,rfl,_,rfl,d,_,rfl,gq1,q1,rfl,⟨_,.of hq1⟩,λW2 hW2=>?_⟩
           refine Yf (K:=K) (a:=q1) (xs:=jn rs z) (enc:=V.str) (out:=λy=>if jH k (f y)=true then some (V.str y) else none) (rest:=[some (.int (k:Nat)),some (.ref D)]) hW2 hq1 (qm (by omega)) (λy hy Y sY Rr hR=>?_) (λy hy v ev Y sY Rr hR=>?_) (λG2 s2 hG2=>?_)
           . obtain⟨py,gy,sy⟩:=((td.mono s1).mono sY).get (cl hy)
             have h:=hR Y (qr.refl Y)
             cases efy:f y with
             | num n s=>
               rw[efy]at sy h
               exact⟨_,rfl,_,rfl,D,_,rfl,gy,py,_,0,_,rfl,rfl,sy,rfl,rfl,_,rfl,qL (by decide+kernel) h⟩
             | end_ b=>
               rw[efy]at sy h
               refine⟨_,rfl,_,rfl,D,_,rfl,gy,py,_,0,_,rfl,rfl,sy,rfl,rfl,_,rfl,qR (by decide+kernel) ⟨_,rfl,_,rfl,D,_,rfl,gy,py,_,1,_,rfl,rfl,sy,rfl,_,rfl,_,_,rfl,rfl,by omega,_,_,rfl,rfl,rfl,_,rfl,?_⟩⟩
               have e:decide (V.int (Builtin.bitAnd ((b:Int) / 2^ ((k:Nat):Int).toNat) 1)=V.int 0)= !b.testBit k:=by
                 rw[UG]
                 cases b.testBit k<;>decide
               rw[e]
               have e2:(if jH k (.end_ b)=true then some (V.str y) else none).isSome= !b.testBit k:=by
                 show (if (!b.testBit k)=true then some (V.str y) else none).isSome=_
                 cases b.testBit k<;>rfl
               rw[e2]at h
               exact h
           . have ev:(if jH k (f y)=true then some (V.str y) else none)=some v:=ev
             split at ev
             . cases ev
               exact⟨_,rfl,hR Y (qr.refl Y)⟩
             . cases ev
           have s12:=s1.trans s2
           rw[<-Ub]at hG2
           obtain⟨p2,gp2,sp2⟩:=(td.mono s12).get hz
           rw[ef]at sp2
           refine⟨_,rfl,_,rfl,D,_,rfl,gp2,p2,_,1,_,rfl,rfl,sp2,rfl,_,rfl,rfl,_,rfl,?_⟩
           by_cases cn:e=Rb.setN ns
           . refine qR (decide_eq_true (by rw[cn])) ⟨_,rfl,by decide,λl0 h0=>?_⟩
             refine⟨dL ((jn rs z).filter λy=>jH k (f y)),.list [],wN (ql hG2 h0),.lst (.of qe) .nil,shL (λy hy=>Xw good (cl (zaw.mp hy).1)),by decide+kernel,q _ _ (s12.trans (qj h0)) ?_⟩
             rw[Ud,<-ek]
             constructor
             . intro h
               refine⟨cn.trans lset,?_⟩
               have:(jn rs z).filter (λy=>jH k (f y))≠[]:=λz=>by rw[decide_eq_true z]at h;cases h
               obtain⟨y,hy⟩:=List.exists_mem_of_ne_nil _ this
               obtain⟨h1,h2⟩:=zaw.mp hy
               exact⟨y,(jk good hz).mp h1,h2⟩
             . rintro⟨_,y,hy,e⟩
               have:y∈(jn rs z).filter (λy=>jH k (f y)):=zaw.mpr ⟨(jk good hz).mpr hy,e⟩
               rw[decide_eq_false (λz=>by rw[z]at this;cases this)]
               rfl
           . refine qL (decide_eq_false (λz=>cn (by have:=V.int.inj z;omega))) (q _ false s12 ⟨λz=>(nomatch z),λz=>absurd (z.1.trans lset.symm) cn⟩)
   . rintro σ G Q1 Q2 kk ⟨x,ex,y,ey,a,xs,e1,e2,e3,e4,b,eb,q1⟩
     exact⟨x,ex,y,ey,a,xs,e1,e2,e3,e4,b,eb,kk _ _ q1⟩
end
open PySem L2 PyProof.Rows MLab
def fE (t:Str->Tg) (z:Str):Lb:=(Qm (t z)).getD (.end_ 0)
def Go (rs:jz) (t:Str->Tg):Prop:=(∀z∈rs.map (·.1),∃l,Qm (t z)=some l/\∀n,l.nm=some n->n<=1000)/\∀z∈rs.map (·.1),jM (ju rs) (fE t) z
def ML (rs:jz) (t:Str->Tg):Prop:=∀z∈rs.map (·.1),∀l,Qm (t z)=some l->∀n,l.nm=some n->n < 1000\/1000 < n
theorem Jl {t:Tg} {l:Lb} (e:Qm t=some l):(∃b:Nat,l=.end_ b/\b < 65536/\t=.tup [.str (Str.ofString "endless"),.int (b:Nat)])\/∃n s:Nat,l=.num n s/\t=.tup [.str (Str.ofString "number"),.int (n:Nat),.int (s:Nat)]:=by
 unfold Qm at e
 split at e
 . split at e
   . rename_i x b c
     obtain⟨c0,c1,c2⟩:=c
     cases e
     exact .inl ⟨b.toNat,rfl,by omega,by rw[c0,zbc c1]⟩
   . cases e
 . split at e
   . rename_i x n s c
     obtain⟨c0,c1,c3⟩:=c
     cases e
     exact .inr ⟨n.toNat,s.toNat,rfl,by rw[c0,zbc c1,zbc c3]⟩
   . cases e
 . cases e
theorem U1 {K:PySem.W.Frag} {H:Hp} {v:V} {t:Tg} {l:Lb} (h:Zp K H v t) (e:Qm t=some l):Xf K H v l:=by
 rcases Jl e with ⟨b,rfl,lt,rfl⟩ | ⟨n,s,rfl,rfl⟩
 . cases h with
   | tup sq hs=>
     cases hs with
     | cons h0 hs=>cases hs with
       | cons h1 hs=>cases hs;cases h0;cases h1;exact⟨_,rfl,sq⟩
 . cases h with
   | tup sq hs=>
     cases hs with
     | cons h0 hs=>cases hs with
       | cons h1 hs=>cases hs with
         | cons h2 hs=>cases hs;cases h0;cases h1;cases h2;exact⟨_,rfl,sq⟩
theorem xP {b:Nat} (lt:b < 65536):Qm (.tup [.str (Str.ofString "endless"),.int (b:Nat)])=some (.end_ b):=by
 show (if Str.ofString "endless"=Str.ofString "endless"/\(0:Int)<=(b:Int)/\(b:Int)<=65535 then some (Lb.end_ ((b:Int).toNat)) else none)=_
 rw[if_pos ⟨rfl,by omega,by omega⟩,zad]
theorem xM {b:Nat} (lt:b < 65536):Qy (.tup [.str (Str.ofString "endless"),.int (b:Nat)])=some (.end_ b):=by
 show (if Str.ofString "endless"=Str.ofString "endless"/\(0:Int)<=(b:Int)/\(b:Int)<=65535 then some (Lb.end_ ((b:Int).toNat)) else none)=_
 rw[if_pos ⟨rfl,by omega,by omega⟩,zad]
theorem xN {n s:Nat}:Qm (.tup [.str (Str.ofString "number"),.int (n:Nat),.int (s:Nat)])=some (.num n s):=by
 show (if Str.ofString "number"=Str.ofString "number"/\(0:Int)<=(n:Int)/\(0:Int)<=(s:Int) then some (Lb.num ((n:Int).toNat) ((s:Int).toNat)) else none)=_
 rw[if_pos ⟨rfl,by omega,by omega⟩,zad,zad]
theorem xK {n s:Nat} (le:n<=15):Qy (.tup [.str (Str.ofString "number"),.int (n:Nat),.int (s:Nat)])=some (.num n s):=by
 show (if Str.ofString "number"=Str.ofString "number"/\((0:Int)<=(n:Int)/\(n:Int)<=15)/\(0:Int)<=(s:Int) then some (Lb.num ((n:Int).toNat) ((s:Int).toNat)) else none)=_
 rw[if_pos ⟨rfl,⟨by omega,by omega⟩,by omega⟩,zad,zad]
theorem Zf {t:Tg} {l:Lb}:Qy t=some l↔Qm t=some l/\∀n,l.nm=some n->n<=15:=by
 constructor
 . intro h
   rcases Ve h with ⟨b,rfl,lt,rfl⟩ | ⟨n,s,rfl,le,rfl⟩
   . exact⟨xP lt,λn e=>by cases e⟩
   . exact⟨xN,λn' e=>by cases e;exact le⟩
 . rintro⟨h,le⟩
   rcases Jl h with ⟨b,rfl,lt,rfl⟩ | ⟨n,s,rfl,rfl⟩
   . exact xM lt
   . exact xK (le n rfl)
theorem kK {rs:jz} {t:Str->Tg} (good:qu rs) (le:rs.length<=14):vx rs t↔Go rs t:=by
 have ext:(∀z∈rs.map (·.1),fL t z=fE t z)->∀z∈rs.map (·.1),(jM (ju rs) (fL t) z↔jM (ju rs) (fE t) z):=λh z hz=>by
   have cl:=Qz good.nd
   have e1:∀y∈rs.map (·.1),JR (ju rs) (fL t) y=JR (ju rs) (fE t) y:=λy hy=>by
     unfold JR
     have:∀L:List Str,(∀x∈L,x∈rs.map (·.1))->L.filterMap (λx=>(fL t x).nm)=L.filterMap (λx=>(fE t x).nm):=λL=>by
       induction L with
       | nil=>exact λ_=>rfl
       | cons x L ih=>
         intro hL
         rw[zar,zar,h x (hL x tS),ih λu hu=>hL u (tN _ hu)]
     exact this _ λx hx=>cl y hy x hx
   have ah:∀n s y,y∈rs.map (·.1)->((∃b∈ju rs y,qT n s (fL t b)=true)↔∃b∈ju rs y,qT n s (fE t b)=true):=λn s y hy=>⟨λ⟨b,hb,e⟩=>⟨b,hb,by rw[<-h b (cl y hy b hb)];exact e⟩,λ⟨b,hb,e⟩=>⟨b,hb,by rw[h b (cl y hy b hb)];exact e⟩⟩
   unfold jM
   rw[h z hz,e1 z hz]
   cases fE t z with
   | num n s=>
     refine and_congr_right λ_=>⟨λa y hy=>?_,λa y hy=>?_⟩
     . have:=a y hy
       have hy':=cl z hz y hy
       unfold jA at this ⊢
       rw[<-h y hy']
       revert this
       cases fL t y with
       | num m u=>intro r;show if m < n then u < s else _;have r:if m < n then u < s else _:=r;split at r<;>rename_i c;· rw[if_pos c];exact r
                  . rw[if_neg c];exact(ah n s y hy').mp r
       | end_ b=>exact λr=>(ah n s y hy').mp r
     . have:=a y hy
       have hy':=cl z hz y hy
       unfold jA at this ⊢
       rw[h y hy']
       revert this
       cases fE t y with
       | num m u=>intro r;show if m < n then u < s else _;have r:if m < n then u < s else _:=r;split at r<;>rename_i c;· rw[if_pos c];exact r
                  . rw[if_neg c];exact(ah n s y hy').mpr r
       | end_ b=>exact λr=>(ah n s y hy').mpr r
   | end_ b=>exact and_congr_right λ_=>⟨λ⟨y,hy,e⟩=>⟨y,hy,by rw[<-h y (cl z hz y hy)];exact e⟩,λ⟨y,hy,e⟩=>⟨y,hy,by rw[h y (cl z hz y hy)];exact e⟩⟩
 constructor
 . rintro⟨a,b⟩
   have al:∀z∈rs.map (·.1),∃l,Qy (t z)=some l:=λz hz=>zaN.mp (a z hz)
   have eq:∀z∈rs.map (·.1),fL t z=fE t z:=λz hz=>by
     obtain⟨l,e⟩:=al z hz
     unfold fL fE
     rw[e,(Zf.mp e).1]
   refine⟨λz hz=>?_,λz hz=>(ext eq z hz).mp (b z hz)⟩
   obtain⟨l,e⟩:=al z hz
   exact⟨l,(Zf.mp e).1,λn h=>tV ((Zf.mp e).2 n h) (by decide)⟩
 . rintro⟨a,b⟩
   have al:∀z∈rs.map (·.1),∃l,Qy (t z)=some l/\fE t z=l:=λz hz=>by
     obtain⟨l,e,_⟩:=a z hz
     have ez:fE t z=l:=by unfold fE;rw[e];rfl
     refine⟨l,Zf.mpr ⟨e,λn h=>?_⟩,ez⟩
     have fit:=b z hz
     unfold jM at fit
     rw[ez]at fit
     cases l with
     | end_ b=>cases h
     | num m s=>
       obtain rfl:m=n:=tK.inj h
       have e1:m=Rb.lackN (JR (ju rs) (fE t) z):=fit.1
       have:=u8 (JR (ju rs) (fE t) z)
       have l2:(JR (ju rs) (fE t) z).length<=rs.length:=U0 z
       omega
   have eq:∀z∈rs.map (·.1),fL t z=fE t z:=λz hz=>by
     obtain⟨l,e,ez⟩:=al z hz
     rw[ez]
     unfold fL
     rw[e]
     rfl
   exact⟨λz hz=>let ⟨l,e,_⟩:=al z hz;by rw[e];rfl,λz hz=>(ext eq z hz).mpr (b z hz)⟩
def wS (k:qI):Prop:=(∃z,k=Sum.inr z/\PyData.strOk z=true)\/k=Sum.inl 5
def Nx (k:qI):Str:=X3 (kV k)
theorem Kp:jc (Nx (Sum.inl 5))=false:=by decide+kernel
theorem vd:PyData.strOk (Nx (Sum.inl 5))=true:=by decide+kernel
theorem uX:PyData.strOk (Str.ofString "None")=true:=by decide+kernel
theorem y4 {kvs:List (qI×V)} {rs:jz} (hn:(kvs.map (·.1)).Nodup) (hk:∀p∈kvs,wS p.1) (good:qu rs):(kvs.map λp=>Nx p.1).Perm (rs.map (·.1))↔(kvs.length=rs.length/\∀z∈rs.map (·.1),(qY kvs (Sum.inr z:qI)).isSome=true):=by
 constructor
 . intro pm
   refine⟨by simpa using pm.length_eq,λz hz=>?_⟩
   obtain⟨p,hp,e⟩:=tE.mp (pm.mem_iff.mpr hz)
   rcases hk p hp with ⟨y,ey,_⟩ | e5
   . have:y=z:=by rw[<-e,ey];rfl
     subst this
     cases c:qY kvs (Sum.inr y:qI) with
     | some v=>rfl
     | none=>exact absurd (tE.mpr ⟨p,hp,ey⟩) (WI c)
   . rw[e5]at e
     have n1:=Xw good hz
     rw[<-e,Kp]at n1
     cases n1
 . rintro⟨len,all⟩
   have sub:∀x∈(rs.map (·.1)).map (Sum.inr:Str->qI),x∈kvs.map (·.1):=λx hx=>by
     obtain⟨z,hz,rfl⟩:=tE.mp hx
     obtain⟨v,ev⟩:=zaN.mp (all z hz)
     exact ZN ev
   have ndN:((rs.map (·.1)).map (Sum.inr:Str->qI)).Nodup:=Qx good.nd λa _ b _ e=>Sum.inr.inj e
   have full:∀x∈kvs.map (·.1),x∈(rs.map (·.1)).map (Sum.inr:Str->qI):=λx hx=>by
     refine Classical.byContradiction λc=>?_
     have:=Ze (l:=x::(rs.map (·.1)).map (Sum.inr:Str->qI)) (m:=kvs.map (·.1)) (zaf.mpr ⟨c,ndN⟩) λy hy=>by
       rcases tR.mp hy with rfl | hy
       . exact hx
       . exact sub y hy
     simp at this
     omega
   have pk:(kvs.map (·.1)).Perm ((rs.map (·.1)).map (Sum.inr:Str->qI)):=(List.perm_ext_iff_of_nodup hn ndN).mpr λx=>⟨full x,sub x⟩
   have:=pk.map Nx
   rw[zaB,zaB]at this
   have e1:(Nx ∘ (Sum.inr:Str->qI))=id:=funext λz=>rfl
   rw[e1,List.map_id]at this
   exact this
theorem shS {zs:List Str} (h:∀z∈zs,PyData.strOk z=true):PySem.SeqAt.shaped (dL zs)=true:=by
 have c:∀zs:List Str,(∀z∈zs,PyData.strOk z=true)->PyData.canLayAll0 (zs.map PyData.str)=true/\PyData.depthAll (zs.map PyData.str)=0:=λzs=>by
   induction zs with
   | nil=>exact λ_=>⟨rfl,rfl⟩
   | cons z zs ih=>
     intro h
     obtain⟨a,b⟩:=ih λy hy=>h y (tN _ hy)
     refine⟨?_,?_⟩
     . show (PyData.strOk z&&PyData.canLayAll0 (zs.map PyData.str))=true
       rw[a,h z tS]
       rfl
     . simp only[tP,PyData.depthAll,PyData.depth,b]
       rfl
 obtain⟨a,b⟩:=c zs h
 unfold PySem.SeqAt.shaped
 rw[show (dL zs).canLay0=true from a]
 exact decide_eq_true (by show (PyData.list _).depth<=_;simp only[PyData.depth,b];decide)
theorem qaH:∀xs ys:List Str,PyData.eqv (dL xs) (dL ys)=decide (xs=ys):=λxs ys=>by
 show PyData.eqvAll (xs.map PyData.str) (ys.map PyData.str)=_
 induction xs generalizing ys with
 | nil=>cases ys<;>rfl
 | cons x xs ih=>
   cases ys with
   | nil=>rfl
   | cons y ys=>
     show ((x==y)&&PyData.eqvAll (xs.map PyData.str) (ys.map PyData.str))=_
     rw[ih,zaz]
     simp
def yv (P:Program) (w:World) (K:PySem.W.Frag):Sp:=λvs H Q _=>∃(l D:Addr) (ps:List Addr) (rs:jz),vs=[.ref l,.ref D]/\jD H l ps rs/\
 ((∃kvs:List (QA×V),Rd H D (QZ P w D kvs)/\kvs.length≠rs.length/\kvs.length<=20/\(∀p∈kvs,p.1=none\/∃k,p.1=some k/\wS k)/\∀H',(∀x o,x≠D->H x=some o->H' x=some o)->Rd H' D (QZ P w D kvs)->Q (.bl false) H')\/
  ∃kvs:List (qI×V),Rd H D (.dK kvs)/\(kvs.map (·.1)).Nodup/\kvs.length<=20/\(∀p∈kvs,wS p.1)/\
   ((¬(kvs.length=rs.length/\∀z∈rs.map (·.1),(qY kvs (Sum.inr z:qI)).isSome=true)/\∀H',(∀x o,x≠D->H x=some o->H' x=some o)->Rd H' D (.dK kvs)->Q (.bl false) H')\/
    ∃t,kvs.length=rs.length/\zo K H kvs rs t/\ML rs t/\∀H' b,(∀x o,x≠D->H x=some o->H' x=some o)->Rd H' D (.dK kvs)->(b=true↔Go rs t)->Q (.bl b) H'))
def Gh (u:HO):Prop:=(∃xs,u=.lst xs)\/(∃xs,u=.tup xs)\/u=.dK []
mutual
theorem _root_.L2.DV.keep {K:PySem.W.Frag} {H H':Hp} (k:∀a u,Gh u->Rd H a u->Rd H' a u):∀{x:V} {d:PyData},DV K H x d->DV K H' x d
 | _,_,.non=>.non
 | _,_,.bl b=>.bl b
 | _,_,.int i=>.int i
 | _,_,.str x=>.str x
 | _,_,.lst q hs=>.lst (q.elim (λe=>.inl (k _ _ (.inl ⟨_,rfl⟩) e)) .inr) (L2.DVs.keep k hs)
 | _,_,.tup q hs=>.tup (q.elim (λe=>.inl (k _ _ (.inr (.inl ⟨_,rfl⟩)) e)) .inr) (L2.DVs.keep k hs)
theorem _root_.L2.DVs.keep {K:PySem.W.Frag} {H H':Hp} (k:∀a u,Gh u->Rd H a u->Rd H' a u):∀{xs:List V} {ds:List PyData},DVs K H xs ds->DVs K H' xs ds
 | _,_,.nil=>.nil
 | _,_,.cons h hs=>.cons (L2.DV.keep k h) (L2.DVs.keep k hs)
end
theorem ZI.keep {K:PySem.W.Frag} {H H':Hp} (k:∀a u,Gh u->Rd H a u->Rd H' a u) {v:V} {i:Xg} (h:ZI K H v i):ZI K H' v i:=by
 cases h with
 | str x o=>exact .str x o
 | int i=>exact .int i
 | oth a b c d=>
   refine .oth ?_ b c d
   rcases a with a | ⟨p,e,r,q⟩
   . exact .inl (a.keep k)
   . exact .inr ⟨p,e,k _ _ (.inr (.inr rfl)) r,q⟩
theorem Zp.keep {K:PySem.W.Frag} {H H':Hp} (k:∀a u,Gh u->Rd H a u->Rd H' a u) {v:V} {t:Tg} (h:Zp K H v t):Zp K H' v t:=by
 cases h with
 | tup a b=>exact .tup (a.elim (λe=>.inl (k _ _ (.inr (.inl ⟨_,rfl⟩)) e)) .inr) (Paired.mapP b λ_ _ z=>z.keep k)
 | no a b=>exact .no (a.keep k) b
theorem NW {H H':Hp} {D:Addr} {kvs:List (qI×V)} (rd:Rd H D (.dK kvs)) (rd':Rd H' D (.dK kvs)) (k:∀x o,x≠D->H x=some o->H' x=some o) (a:Addr) (u:HO) (hu:Gh u) (r:Rd H a u):Rd H' a u:=by
 by_cases e:a=D
 . subst e
   rcases rd with c | ⟨o,c⟩<;>rcases r with c' | ⟨o',c'⟩<;>rw[c]at c'<;>cases c'
   . exact rd'
   . rcases hu with ⟨_,z⟩ | ⟨_,z⟩ | z<;>cases z
   . exact rd'
 . exact r.elim (λc=>.inl (k _ _ e c)) λ⟨o,c⟩=>.inr ⟨o,k _ _ e c⟩
theorem Vi {K:PySem.W.Frag} {H1 H2:Hp} {D d l W:Addr} {o o':Obj} {u:HO} {kvr:List (qI×V)} {ks:List V} {N:List Str} (hl:ks.length<=20) (hk:∀x∈ks,(∃z,x=.str z)\/x=.non\/∃i:Int,x=.int i/\0<=i/\i < 10^100) (ok:∀z∈ks.map X3,PyData.strOk z=true) (okN:∀z∈N,PyData.strOk z=true) (lN:N.length<=14)
   (hd:H1 d=some (.frz o (.dK kvr))) (ek:kvr.map (·.1)=N.map Sum.inr) (nd:d≠D) (ne2:∀b,b≠D->H2 b=H1 b) (hD2:H2 D=some (.frz o' u)) (hW:H2 W=none) {R:Bool->Hp->Prop}
   (q:∀H5 b,(∀x ob,x≠D->H1 x=some ob->H5 x=some ob)->H5 D=some (.frz o' u)->(b=true↔(ks.map X3).Perm N)->R (!b) H5):
   ZO (M4 D o' u ks) (Qu 0) NH (Nt yS (qM (qN 0) jT)) W [none] H2 λG=>yU K [.ref W] G λx G1=>Nt yT (qM (qN 2) jT) [some (.ref l),some (.ref D),some (.ref d),none] G1 λy G2=>NZ K x y G2 λv G3=>∃b,v=.bl b/\R b G3:=by
 refine Nc (out:=λx=>some (V.str (X3 x))) hW hD2 (qm (by omega)) (λx hx Y sY Rr hR=>hR Y (qr.refl Y)) (λx hx v ev Y sY Rr hR=>?_) (λG sG hG=>?_)
 . cases ev
   exact⟨_,rfl,x,rfl,hk x hx,hR Y (qr.refl Y)⟩
 . have eG:ks.filterMap (λx=>some (V.str (X3 x)))=(ks.map X3).map V.str:=by rw[Zj,zaB];rfl
   rw[eG]at hG
   refine⟨W,ks.map X3,rfl,.of hG,by rw[tj];omega,λl1 ys hl1 pm srt=>?_⟩
   have hdG:upd G l1 (.lst (ys.map V.str)) d=some (.frz o (.dK kvr)):=ql (sG _ _ (by rw[ne2 d nd];exact hd)) hl1
   refine⟨_,rfl,d,kvr,N,rfl,.inr ⟨o,hdG⟩,ek,by omega,λl2 ys2 hl2 pm2 srt2=>?_⟩
   have o1:∀z∈ys,PyData.strOk z=true:=λz hz=>ok z (pm.mem_iff.mp hz)
   have o2:∀z∈ys2,PyData.strOk z=true:=λz hz=>okN z (pm2.mem_iff.mp hz)
   refine⟨dL ys,dL ys2,wN (ql qe hl2),wN qe,shS o1,shS o2,_,rfl,?_⟩
   rw[qaH]
   refine q _ _ (λx ob nx e=>ql (ql (sG _ _ (by rw[ne2 x nx];exact e)) hl1) hl2) (ql (ql (sG _ _ hD2) hl1) hl2) ?_
   rw[decide_eq_true_iff]
   exact⟨λe=>(pm.symm.trans (by rw[e])).trans pm2,λp=>vE pm pm2 p srt srt2⟩
section
variable {P:Program} {w:World} {K:PySem.W.Frag} {mg:Str->Option Value} {base:Heap}
abbrev nDu:List Str:=["_law_rows_here","_law_told","_law_roads","_law_name"]
abbrev Nw:List Str:=["_law_rows_here","_law_told"]
theorem GZ:qG nDu Nw (qo WU):=⟨rfl,rfl,rfl,by decide+kernel,rfl,by decide+kernel,by decide+kernel⟩
theorem uN {f f1 f2 f3 f4:Addr} {fd fd1 fd2 fd3 fd4:FuncData} (F:Qn K "_law_due" "_law_due" WU f fd) (B:JH mg) (G:Je mg) (T:ZJ K mg) (str:mg "str"=none) (h1:jr K mg "_law_whole" Za ["_law_thing"] f1 fd1) (h2:jr K mg "_law_is_label" ZZ ["_law_thing"] f2 fd2) (h3:jr K mg "_law_road_right" zx Nv f3 fd3) (h4:jr K mg "_law_place_right" ZV N7 f4 fd4):qB P w K mg base q5 3 f fd Nw (yv P w K):=by
 have G2:qB P w K mg base q5 2 f2 fd2 ["_law_thing"] (yr K):=uM h2.fn B T h1
 have G4:qB P w K mg base q5 2 f4 fd4 N7 (Yl K):=ka h4.fn h3
 refine F.okJ GZ (λvs H Q E h=>?_) (λcdv A outer s H vs Q E hr h=>?_)
 . obtain⟨l,D,ps,rs,rfl,_⟩:=h
   rfl
 . obtain⟨l,D,ps,rs,rfl,g,h⟩:=h
   have hu:=jQ hr
   refine⟨_,qg (qz (i:=2) GZ.nd rfl (Or.inr rfl) (V2 (jq (Y4 rfl) (by rfl) T.dict boot_dict (qb (jv 0) qd))))
     (qg (qS (JW.pt (QU (j1 (jF (qy (Jz.or ZG) (by rfl) T.isi boot_isinstance (qb (jv 1) (qb (j3 (v:=.ty "dict") (by rfl) T.dict boot_dict rfl) qd)))))
       (Qp (qt (VP hr.units) (qy Uf (by rfl) G.srt boot_sorted (qb (Qt (N':=["_law_name"]) (ix:=[none]) (te:=Nt yS (qM (qN 0) jT)) rfl ⟨rfl,rfl,rfl,rfl,rfl⟩ (x4 (jv 1)) (λC s2 H2 fp pins=>
         ⟨qv (i:=0) (show (["_law_name"]:List Str).Nodup by decide+kernel) rfl (Or.inl rfl),j9,jq kX (by rfl) str boot_str (qb (jv 0) qd)⟩)) qd)) (qy (ZF rfl) (by rfl) G.srt boot_sorted (qb (jv 2) qd)) (qp _))))) (qh (qA ja)) qF)
     (qg (jp PassesOwn.never rfl (Wn (jv 2)) (qv (i:=3) GZ.nd rfl (Or.inl rfl))
       (qg (qS (JW.pt (QU (qt (vU hu) (jv 3) (jv 1) (by with_unfolding_all rfl)) (Qp (j1 (jF (qO h2 G2 hr (by rfl) (qb (qC hu (jv 1) (jv 3) (λ_ _=>rfl)) qd))))))) (qh (qA ja)) qF)
       (qh (qS (JW.pt (jN (qt jo (qD qw (qC hu (jv 1) (jv 3) (λ_ _=>rfl)) qf (λ_ _=>rfl)) qx (qp _)) (jC (qt Xu (qD qw (qC hu (jv 1) (jv 3) (λ_ _=>rfl)) qf (λ_ _=>rfl)) qf (qp _))))) (qh (qA ja)) qF))))
     (qh (qA (qW (VR hr.units) (Qt (N':=["_law_name","_law_roads","_law_told"]) (ix:=[none,some 2,some 1]) (tt:=Gu (tB (JJ (Yl K) [] E0 (qM (qN 1) (qM (qN 2) (qM (qN 0) jT)))))) (te:=qN 0) rfl ⟨rfl,rfl,rfl,rfl,rfl⟩ (Wn (jv 2)) (λC s2 H2 fp pins=>
         ⟨qv (i:=0) (show (["_law_name","_law_roads","_law_told"]:List Str).Nodup by decide+kernel) rfl (Or.inl rfl),Qq (j1 (jF (qO h4 G4 hr (by rfl) (qb (jv 1) (qb (jv 2) (qb (jv 0) qd)))))),jv 0⟩)) (qV qd) (qp _)))))),?_⟩
   have good:=g.good
   have le14:=g.le
   have lN:(rs.map (·.1)).length=rs.length:=tj ..
   refine⟨_,rfl,xA (Vm g λd kvr hd ek hv=>⟨d,kvr,rfl,qe,λo=>?_⟩)⟩
   rw[jV]
   have s1:qr H (upd H d (.frz o (.dK kvr))):=qj hd
   have hd1:upd H d (.frz o (.dK kvr)) d=some (.frz o (.dK kvr)):=qe
   generalize upd H d (.frz o (.dK kvr))=H1 at s1 hd1
   have kd:=T.kit "dict" (by simp [Yh]) "dict" (by simp)
   rw[RY]at kd
   refine⟨_,rfl,?_⟩
   have okN:∀z∈rs.map (·.1),PyData.strOk z=true:=λz hz=>Wj (Xw good hz)
   have rn:∀{u:HO},Rd H D u->(∀kv ob,u≠.frz ob kv)->d≠D:=λ{u} rd _ z=>by
     rw[<-z]at rd
     rcases rd with e | ⟨_,e⟩<;>rw[hd]at e<;>cases e
   rcases h with ⟨kvs,rd,nl,l20,ok,q⟩ | ⟨kvs,rd,hn,l20,ok,h⟩
   . have ndD:d≠D:=rn rd λkv ob z=>by unfold QZ at z;cases z
     refine .inr ⟨D,kvs,_,_,rfl,rd.mono s1,kd,_,rfl,jg ⟨_,rfl,D,_,_,rfl,rd.mono s1,.inr ⟨kvs,rfl,rfl⟩,λo' H2 ne2 hD2 W hW=>?_⟩⟩
     refine Vi (K:=K) (N:=rs.map (·.1)) (by rw[tj];exact l20) (λx hx=>?_) (λz hz=>?_) okN (by rw[lN];exact le14) hd1 ek ndD ne2 hD2 hW λH5 b k5 hD5 hb=>?_
     . obtain⟨p,hp,rfl⟩:=tE.mp hx
       rcases ok p hp with e | ⟨k,e,ky⟩
       . rw[e];exact .inr (.inl rfl)
       . rw[e]
         rcases ky with ⟨z,rfl,_⟩ | rfl
         . exact .inl ⟨z,rfl⟩
         . exact .inr (.inr ⟨5,rfl,by decide,by decide+kernel⟩)
     . obtain⟨x,hx,rfl⟩:=tE.mp hz
       obtain⟨p,hp,rfl⟩:=tE.mp hx
       rcases ok p hp with e | ⟨k,e,ky⟩
       . rw[e];exact uX
       . rw[e]
         rcases ky with ⟨z,rfl,h⟩ | rfl
         . exact h
         . exact vd
     . have:b=false:=by
         cases b with
         | false=>rfl
         | true=>
           have:=(hb.mp rfl).length_eq
           rw[tj,tj,lN]at this
           exact absurd this nl
       subst this
       exact jI (q H5 (λx ob nx e=>k5 x ob nx (s1 _ _ e)) (.inr ⟨o',hD5⟩))
   . have ndD:d≠D:=rn rd λkv ob z=>by cases z
     refine .inl ⟨D,kvs,_,_,rfl,rd.mono s1,kd,_,rfl,jg ⟨_,rfl,D,_,_,rfl,rd.mono s1,.inl ⟨kvs,rfl,rfl⟩,λo' H2 ne2 hD2 W hW=>?_⟩⟩
     refine Vi (K:=K) (N:=rs.map (·.1)) (by rw[tj];exact l20) (λx hx=>?_) (λz hz=>?_) okN (by rw[lN];exact le14) hd1 ek ndD ne2 hD2 hW λH5 b k5 hD5 hb=>?_
     . obtain⟨p,hp,rfl⟩:=tE.mp hx
       rcases ok p hp with ⟨z,e,_⟩ | e
       . rw[e];exact .inl ⟨z,rfl⟩
       . rw[e];exact .inr (.inr ⟨5,rfl,by decide,by decide+kernel⟩)
     . obtain⟨x,hx,rfl⟩:=tE.mp hz
       obtain⟨p,hp,rfl⟩:=tE.mp hx
       rcases ok p hp with ⟨z,e,h⟩ | e
       . rw[e];exact h
       . rw[e];exact vd
     . have eks:(kvs.map λp=>kV p.1).map X3=kvs.map λp=>Nx p.1:=by rw[zaB];rfl
       rw[eks,y4 hn ok good]at hb
       have k05:∀x ob,x≠D->H x=some ob->H5 x=some ob:=λx ob nx e=>k5 x ob nx (s1 _ _ e)
       have rd5:Rd H5 D (.dK kvs):=.inr ⟨o',hD5⟩
       rcases h with ⟨no,q⟩ | ⟨t,len,tg,ns,q⟩
       . have:b=false:=by cases b with | false=>rfl | true=>exact absurd (hb.mp rfl) no
         subst this
         exact jI (q H5 k05 rd5)
       . have:b=true:=hb.mpr ⟨len,λz hz=>let ⟨v,e,_⟩:=tg z hz;by rw[e];rfl⟩
         subst this
         refine jg ?_
         have hd5:=k5 _ _ ndD hd1
         have ld5:wL H5 d rs:=⟨o,kvr,hd5,ek,λr hr'=>by
           obtain⟨tt,a,b⟩:=hv r hr'
           refine⟨tt,a,k05 _ _ (λz=>?_) b⟩
           rw[z]at b
           rcases rd with e | ⟨_,e⟩<;>rw[b]at e<;>cases e⟩
         have tg5:zo K H5 kvs rs t:=λz hz=>let ⟨v,e,h⟩:=tg z hz;⟨v,e,h.keep (NW rd rd5 k05)⟩
         have tr:∀z∈rs.map (·.1),z∈(rs.map (·.1)).take rs.length:=λz hz=>by rw[tF (by rw[lN];exact tu _)];exact hz
         refine⟨_,rfl,d,o,kvr,rs.map (·.1),rfl,hd5,ek,?_⟩
         refine Wt (zs:=rs.map (·.1)) (λj σ' G'=>∃v3,σ'=[some (.ref l),some (.ref D),some (.ref d),v3]/\G'=H5/\∀z∈(rs.map (·.1)).take j,∃l,Qm (t z)=some l/\∀n,l.nm=some n->n < 1000)
           ⟨none,rfl,rfl,λz hz=>(nomatch hz)⟩ (λj σ' G' _ ⟨_,_,e,_⟩=>e▸hd5) ?_ ?_
         . rintro j z σ' G' ez ⟨v3,rfl,rfl,al⟩
           have hz:z∈rs.map (·.1):=tY ez
           obtain⟨v,ev,tgz⟩:=tg5 z hz
           have gz:=j8.r (k:=(Sum.inr z:qI)) rd5
           have gz':=gz
           rw[ev]at gz'
           have bad:(¬∃l,Qm (t z)=some l/\∀n,l.nm=some n->n<=1000)->Q (.bl false) G':=λh=>q G' false k05 rd5 ⟨λz=>(nomatch z),λgd=>absurd (gd.1 z hz) h⟩
           refine⟨_,rfl,_,rfl,D,_,rfl,gz,_,rfl,?_⟩
           rw[ev]
           refine jg ⟨_,rfl,_,rfl,D,v,rfl,gz',v,t z,rfl,tgz,_,rfl,?_⟩
           cases el:Qm (t z) with
           | none=>exact jI (bad λ⟨l,e,_⟩=>by rw[el]at e;cases e)
           | some lb=>
             refine jg ?_
             obtain⟨p,rfl,sp⟩:=U1 tgz el
             have etk:(rs.map (·.1)).take (j+1)=(rs.map (·.1)).take j++[z]:=by rw[tQ,ez];rfl
             have next:(∀n,lb.nm=some n->n < 1000)->∃v3,[some (V.ref l),some (.ref D),some (.ref d),some (.str z)]=[some (.ref l),some (.ref D),some (.ref d),v3]/\G'=G'/\∀z∈(rs.map (·.1)).take (j+1),∃l,Qm (t z)=some l/\∀n,l.nm=some n->n < 1000:=λh=>⟨_,rfl,rfl,λy hy=>by
               rw[etk]at hy
               rcases tZ.mp hy with hy | hy
               . exact al y hy
               . have:y=z:=by simpa using hy
                 rw[this]
                 exact⟨lb,el,h⟩⟩
             cases lb with
             | end_ b=>exact⟨_,rfl,_,rfl,D,_,rfl,gz',p,_,0,_,rfl,rfl,sp,rfl,rfl,_,rfl,qL (by decide+kernel) (jg (next λn e=>by cases e))⟩
             | num n s'=>
               refine⟨_,rfl,_,rfl,D,_,rfl,gz',p,_,0,_,rfl,rfl,sp,rfl,rfl,_,rfl,qR (by decide+kernel) ⟨_,rfl,_,rfl,D,_,rfl,gz',p,_,1,_,rfl,rfl,sp,rfl,(n:Int),1000,rfl,rfl,_,rfl,?_⟩⟩
               rcases ns z hz _ el n rfl with c | c
               . exact qL (decide_eq_false (by omega)) (next λn' e=>by cases e;exact c)
               . refine qR (decide_eq_true (by omega)) (bad λ⟨l,e,h⟩=>?_)
                 rw[el]at e
                 cases e
                 have:=h n rfl
                 omega
         . rintro σ' G' ⟨v3,rfl,rfl,al⟩
           rw[lN]at al
           have al:∀z∈rs.map (·.1),∃l,Qm (t z)=some l/\∀n,l.nm=some n->n < 1000:=λz hz=>al z (tr z hz)
           have fe:∀z∈rs.map (·.1),Qm (t z)=some (fE t z):=λz hz=>by
             obtain⟨l,e,_⟩:=al z hz
             unfold fE
             rw[e]
             rfl
           have td:Um K G' D rs (fE t):=⟨kvs,rd5,λz hz=>let ⟨v,e,h⟩:=tg5 z hz;⟨v,e,U1 h (fe z hz)⟩⟩
           have sml:KE rs (fE t):=λz hz=>by
             obtain⟨l,e,h⟩:=al z hz
             have e1:=fe z hz
             rw[e]at e1
             have e2:fE t z=l:=(tK.inj e1).symm
             rw[e2]
             rcases Jl e with ⟨b,rfl,lt,_⟩ | ⟨n,s,rfl,_⟩
             . exact lt
             . exact h n rfl
           refine⟨_,rfl,d,o,kvr,rs.map (·.1),rfl,hd5,ek,λW2 hW2=>?_⟩
           classical
           refine Kx (zs:=rs.map (·.1)) (out:=λz=>if jM (ju rs) (fE t) z then none else some (V.str z)) (rest:=[some (.ref d),some (.ref D)]) hW2 hd5 (qm (by rw[lN];omega)) (λz hz Y sY Rr hR=>?_) (λz hz v ev Y sY Rr hR=>?_) (λG2 s2 hG2=>?_)
           . refine⟨_,rfl,_,rfl,_,rfl,d,D,rs,fE t,z,rfl,ld5.mono sY,good,td.mono sY,sml,hz,λH' b s' hb=>⟨_,rfl,?_⟩⟩
             have:=hR H' s'
             by_cases c:jM (ju rs) (fE t) z
             . rw[if_pos c]at this
               rw[hb.mpr c]
               exact this
             . rw[if_neg c]at this
               rw[show b=false from by cases b with | true=>exact absurd (hb.mp rfl) c | false=>rfl]
               exact this
           . have ev:(if jM (ju rs) (fE t) z then none else some (V.str z))=some v:=ev
             split at ev
             . cases ev
             . cases ev
               exact⟨_,rfl,hR Y (qr.refl Y)⟩
           have eb:(rs.map (·.1)).filterMap (λz=>if jM (ju rs) (fE t) z then none else some (V.str z))=((rs.map (·.1)).filter λz=> !decide (jM (ju rs) (fE t) z)).map V.str:=by
             generalize rs.map (·.1)=L
             induction L with
             | nil=>rfl
             | cons y L ih=>
               by_cases c:jM (ju rs) (fE t) y
               . rw[zar,if_pos c,zaK,if_neg (by rw[decide_eq_true c];decide)];exact ih
               . rw[zar,if_neg c,zaK,if_pos (by rw[decide_eq_false c];rfl),tP];exact congrArg _ ih
           rw[eb]at hG2
           refine⟨by decide,λl0 h0=>?_⟩
           refine⟨dL ((rs.map (·.1)).filter λz=> !decide (jM (ju rs) (fE t) z)),.list [],wN (ql hG2 h0),.lst (.of qe) .nil,shL (λy hy=>Xw good (zaw.mp hy).1),by decide+kernel,q _ _ (λx ob nx e=>ql (s2 _ _ (k05 x ob nx e)) h0) ((rd5.mono s2).mono (qj h0)) ?_⟩
           rw[Ud,decide_eq_true_iff,zbR]
           constructor
           . intro h
             refine⟨λz hz=>let ⟨l,e,h⟩:=al z hz;⟨l,e,λn hn=>zab (h n hn)⟩,λz hz=>?_⟩
             exact Classical.byContradiction λc=>h z hz (by rw[decide_eq_false c];rfl)
           . intro h z hz
             rw[decide_eq_true (h.2 z hz)]
             decide
end
open PySem L2 PyProof.Rows MLab
def jY (K:PySem.W.Frag) (H:Hp) (v:V):Prop:=∃t,Zp K H v t/\∀l,Qm t=some l->∀n,l.nm=some n->n < 1000\/1000 < n
theorem jY.mono {K:PySem.W.Frag} {H H':Hp} {v:V} (h:jY K H v) (s:qr H H'):jY K H' v:=let ⟨t,a,b⟩:=h;⟨t,a.mono s,b⟩
theorem jY.keep {K:PySem.W.Frag} {H H':Hp} (k:∀a u,Gh u->Rd H a u->Rd H' a u) {v:V} (h:jY K H v):jY K H' v:=let ⟨t,a,b⟩:=h;⟨t,a.keep k,b⟩
theorem jY.cm {K:PySem.W.Frag} {H:Hp} {v:V} (h:jY K H v):Cm v:=by
 obtain⟨t,a,_⟩:=h
 cases a with
 | tup _ _=>exact .inl ⟨_,rfl⟩
 | no d _=>
   cases d with
   | non=>exact .inr (.inl rfl)
   | bl b=>exact .inr (.inr (.inl ⟨b,rfl⟩))
   | int i=>exact .inr (.inr (.inr (.inl ⟨i,rfl⟩)))
   | str x=>exact .inr (.inr (.inr (.inr ⟨x,rfl⟩)))
   | lst _ _=>exact .inl ⟨_,rfl⟩
   | tup _ _=>exact .inl ⟨_,rfl⟩
inductive WB (P:Program) (w:World) (K:PySem.W.Frag) (H:Hp) (rs:jz) (D:Addr):Prop
 | non {kvs:List (QA×V)}:H D=some (QZ P w D kvs)->(kvs.map (·.1)).Nodup->kvs.length≠rs.length->kvs.length<=20->(∀p∈kvs,p.1=none\/∃k,p.1=some k/\wS k)->(∀p∈kvs,jY K H p.2)->WB P w K H rs D
 | dk {kvs:List (qI×V)}:H D=some (.dK kvs)->(kvs.map (·.1)).Nodup->kvs.length<=20->(∀p∈kvs,wS p.1)->(∀p∈kvs,jY K H p.2)->WB P w K H rs D
def KW (P:Program) (w:World) (K:PySem.W.Frag) (CG:Addr):Sp:=λvs H Q _=>∃(l g D:Addr) (ps:List Addr) (rs:jz),vs=[.ref l,.ref g,.ref D]/\jD H l ps rs/\Q0 CG H g rs/\WB P w K H rs D/\∀H',(∀x o,x≠D->H x=some o->H' x=some o)->Q (.bl true) H'
theorem Gp {kvs:List (qI×V)} (hn:(kvs.map (·.1)).Nodup) {k:qI} {v:V} (h:qY kvs k=some v):∃p∈kvs,p.1=k/\p.2=v:=by
 have hm:=ZN h
 obtain⟨p,hp,e⟩:=tE.mp hm
 refine⟨p,hp,e,?_⟩
 have:qY kvs p.1=some p.2:=by
   clear h hm
   induction kvs with
   | nil=>cases hp
   | cons a kvs ih=>
     rw[tP,zaf]at hn
     rcases tR.mp hp with rfl | hp
     . exact jh rfl
     . rw[ji (λe=>hn.1 (e▸tE.mpr ⟨p,hp,rfl⟩))]
       exact ih hn.2 hp
 rw[e,h]at this
 exact(tK.inj this).symm
theorem NF {K:PySem.W.Frag} {H:Hp} {kvs:List (qI×V)} {rs:jz} (hn:(kvs.map (·.1)).Nodup) (h:∀p∈kvs,jY K H p.2) (all:∀z∈rs.map (·.1),(qY kvs (Sum.inr z:qI)).isSome=true):∃t,zo K H kvs rs t/\ML rs t:=by
 have:∀z:Str,∃t,z∈rs.map (·.1)->∃v,qY kvs (Sum.inr z:qI)=some v/\Zp K H v t/\∀l,Qm t=some l->∀n,l.nm=some n->n < 1000\/1000 < n:=λz=>by
   by_cases hz:z∈rs.map (·.1)
   . obtain⟨v,ev⟩:=zaN.mp (all z hz)
     obtain⟨p,hp,_,rfl⟩:=Gp hn ev
     obtain⟨t,a,b⟩:=h p hp
     exact⟨t,λ_=>⟨p.2,ev,a,b⟩⟩
   . exact⟨.no,λc=>absurd c hz⟩
 refine⟨λz=>(this z).choose,λz hz=>?_,λz hz=>?_⟩
 . obtain⟨v,e,a,_⟩:=(this z).choose_spec hz
   exact⟨v,e,a⟩
 . obtain⟨v,e,_,b⟩:=(this z).choose_spec hz
   exact b
theorem Pl.to {P:Program} {w:World} {K:PySem.W.Frag} {H:Hp} {rs:jz} {v:V} {b:Bool} (h:Pl P w K H rs v b) (e:b=false):Pl P w K H rs v false:=e▸h
section
variable {P:Program} {w:World} {K:PySem.W.Frag} {mg:Str->Option Value} {base:Heap}
abbrev nAs:List Str:=["_law_rows_here","_law_ground","_law_told","_law_kept","_law_found"]
abbrev MY:List Str:=["_law_rows_here","_law_ground","_law_told"]
theorem uu:qG nAs MY (qo Ya):=⟨rfl,rfl,rfl,by decide+kernel,rfl,by decide+kernel,by decide+kernel⟩
theorem xw {f CG fS fD:Addr} {fd fdS fdD:FuncData} (F:Qn K "_law_asked" "_law_asked" Ya f fd) (B:JH mg) (T:ZJ K mg) (hS:jr K mg "shows" Zy wP fS fdS) (GS:qB P w K mg base q5 6 fS fdS wP (zZ P w K CG)) (hD:jr K mg "_law_due" WU Nw fD fdD) (GD:qB P w K mg base q5 3 fD fdD Nw (yv P w K)):qB P w K mg base q5 7 f fd MY (KW P w K CG):=by
 refine F.okJ uu (λvs H Q E h=>?_) (λcdv A outer s H vs Q E hr h=>?_)
 . obtain⟨l,g,D,ps,rs,rfl,_⟩:=h
   rfl
 . obtain⟨l,g,D,ps,rs,rfl,ga,gr,td,q⟩:=h
   refine⟨_,qg (qz (i:=3) uu.nd rfl (Or.inl rfl) (jv 2))
     (qg (qS (jF (qy (Jz.or ZG) (by rfl) T.isi boot_isinstance (qb (jv 2) (qb (j3 (v:=.ty "dict") (by rfl) T.dict boot_dict rfl) qd)))) (qh (qz (i:=3) uu.nd rfl (Or.inl rfl) (jq (ZH.or Ui) (by rfl) T.dict boot_dict (qb (jv 2) qd)))) qF)
     (qg (qz (i:=4) uu.nd rfl (Or.inl rfl) (qO hS GS hr (by rfl) (qb (jv 1) (qb (jv 2) qd))))
     (qh (qA (jJ (qy QW (by rfl) T.isi boot_isinstance (qb (jv 4) (qb (j3 (v:=.ty "bool") (by rfl) T.bool boot_bool rfl) qd)))
       (jJ (qW jo (jv 4) (qO hD GD (hr.mono (by decide)) (by rfl) (qb (jv 0) (qb (jv 2) qd))) (qp _)) (Qj (qW (uG hr.units) (jv 2) (jv 3) (qp _))))))))),?_⟩
   have good:=ga.good
   have le14:=ga.le
   have kd:=T.kit "dict" (by simp [Yh]) "dict" (by simp)
   rw[RY]at kd
   have isb:∀b,zao K (.type (yc (.bool b))) (.type "bool")=some true:=λb=>T.at (.bool b)
   cases td with
   | non hDD hn nl l20 ok hv=>
     rename_i kvs
     refine⟨_,rfl,_,rfl,.inr ⟨D,kvs,_,_,rfl,.inl hDD,kd,_,rfl,jI ⟨_,rfl,.inr ⟨D,kvs,rfl,.inl hDD,λp hp=>?_⟩⟩⟩⟩
     have s1:qr H (upd H p (QZ P w p kvs)):=qj hp
     have e1:upd H p (QZ P w p kvs) p=some (QZ P w p kvs):=qe
     have npD:p≠D:=λz=>by rw[z,hDD]at hp;cases hp
     refine⟨_,rfl,_,rfl,g,.ref D,rs,rfl,gr.mono s1,good,le14,.inl ⟨.non (.inl (s1 _ _ hDD)) nl,λH2 s2=>?_⟩⟩
     have s12:=s1.trans s2
     refine⟨_,rfl,_,_,.bool false,_,rfl,.bl false,isb false,_,rfl,jI ⟨_,rfl,_,rfl,_,rfl,l,D,ps,rs,rfl,ga.mono s12,.inl ⟨kvs,.inl (s12 _ _ hDD),nl,l20,ok,λH3 k3 rd3=>?_⟩⟩⟩
     refine⟨rfl,_,rfl,jI ⟨_,rfl,_,rfl,D,p,rfl,rfl,.inr ⟨kvs,rd3,.inl (k3 _ _ npD (s2 _ _ e1)),hn,λp hp=>(hv p hp).cm⟩,q H3 λx o nx e=>k3 x o nx (s12 _ _ e)⟩⟩
   | dk hDD hn l20 ok hv=>
     rename_i kvs
     refine⟨_,rfl,_,rfl,.inl ⟨D,kvs,_,_,rfl,.inl hDD,kd,_,rfl,jI ⟨_,rfl,.inl ⟨D,kvs,rfl,.inl hDD,λp hp=>?_⟩⟩⟩⟩
     have s1:qr H (upd H p (.dK kvs)):=qj hp
     have e1:upd H p (.dK kvs) p=some (.dK kvs):=qe
     have npD:p≠D:=λz=>by rw[z,hDD]at hp;cases hp
     generalize upd H p (.dK kvs)=H1 at s1 e1
     have fin:∀(b:Bool) (H2 H3:Hp),qr H H2->H2 p=some (.dK kvs)->(∀x o,x≠D->H2 x=some o->H3 x=some o)->Rd H3 D (.dK kvs)->(Uw (Jf Nu (tC (.bl b)) (tC (.bl b))) (Jf (K3 P w) (qN 2) (qN 3))) [some (.ref l),some (.ref g),some (.ref D),some (.ref p),some (.bl b)] H3 Q:=λb H2 H3 s2 e2 k3 rd3=>by
       refine⟨by cases b<;>rfl,_,rfl,?_⟩
       rw[decide_eq_true rfl]
       exact jI ⟨_,rfl,_,rfl,D,p,rfl,rfl,.inl ⟨kvs,rd3,.inl (k3 _ _ npD e2),hn,λp hp=>(hv p hp).cm⟩,q H3 λx o nx e=>k3 x o nx (s2 _ _ e)⟩
     by_cases full:kvs.length=rs.length/\∀z∈rs.map (·.1),(qY kvs (Sum.inr z:qI)).isSome=true
     . obtain⟨len,all⟩:=full
       obtain⟨t,tg,nS⟩:=NF hn hv all
       refine⟨_,rfl,_,rfl,g,.ref D,rs,rfl,gr.mono s1,good,le14,.inr ⟨D,kvs,t,rfl,.inl (s1 _ _ hDD),len,tg.mono s1,λH2 b s2 hb=>?_⟩⟩
       have s12:=s1.trans s2
       refine⟨_,rfl,_,_,.bool b,_,rfl,.bl b,isb b,_,rfl,jI ⟨_,rfl,_,rfl,_,rfl,l,D,ps,rs,rfl,ga.mono s12,.inr ⟨kvs,.inl (s12 _ _ hDD),hn,l20,ok,.inr ⟨t,len,tg.mono s12,nS,λH3 b' k3 rd3 hb'=>?_⟩⟩⟩⟩
       obtain rfl:b'=b:=by
         rw[zaz]
         exact hb'.trans ((kK good le14).symm.trans hb.symm)
       exact fin b' H2 H3 s12 (s2 _ _ e1) k3 rd3
     . have pl:Pl P w K H1 rs (.ref D) false:=Pl.to (.dk (.inl (s1 _ _ hDD))) (by
         cases c:(decide (kvs.length=rs.length)&&(rs.map (·.1)).all λz=>(qY kvs (Sum.inr z:qI)).isSome) with
         | false=>rfl
         | true=>
           rw[zam,decide_eq_true_iff,zav]at c
           exact absurd c full)
       refine⟨_,rfl,_,rfl,g,.ref D,rs,rfl,gr.mono s1,good,le14,.inl ⟨pl,λH2 s2=>?_⟩⟩
       have s12:=s1.trans s2
       refine⟨_,rfl,_,_,.bool false,_,rfl,.bl false,isb false,_,rfl,jI ⟨_,rfl,_,rfl,_,rfl,l,D,ps,rs,rfl,ga.mono s12,.inr ⟨kvs,.inl (s12 _ _ hDD),hn,l20,ok,.inl ⟨full,λH3 k3 rd3=>?_⟩⟩⟩⟩
       exact fin false H2 H3 s12 (s2 _ _ e1) k3 rd3
end
open PySem L2 PyProof.Rows MLab
def zp (K:PySem.W.Frag) (H:Hp) (v:V):Prop:=∃i,ZI K H v i/\∀n,i=.int n->n≠1000
theorem zp.keep {K:PySem.W.Frag} {H H':Hp} (k:∀a u,Gh u->Rd H a u->Rd H' a u) {v:V} (h:zp K H v):zp K H' v:=let ⟨i,a,b⟩:=h;⟨i,a.keep k,b⟩
theorem jP {K:PySem.W.Frag} {H:Hp} {n:Int} (h:n≠1000):zp K H (.int n):=⟨.int n,.int n,λm e=>by cases e;exact h⟩
theorem j2 {K:PySem.W.Frag} {H:Hp} {x:Str} (h:PyData.strOk x=true):zp K H (.str x):=⟨.str x,.str x h,λm e=>by cases e⟩
theorem wf {K:PySem.W.Frag} {H:Hp}:zp K H .non:=⟨.oth,.oth (.inl .non) (.inr ⟨rfl,zah _⟩) (λ_ z=>(nomatch z)) (λ_ z=>(nomatch z)),λm e=>by cases e⟩
theorem wg {K:PySem.W.Frag} {H:Hp} (b:Bool):zp K H (.bl b):=⟨.oth,.oth (.inl (.bl b)) (.inr ⟨rfl,zah _⟩) (λ_ z=>(nomatch z)) (λ_ z=>(nomatch z)),λm e=>by cases e⟩
theorem Mm {K:PySem.W.Frag} {H:Hp} {a:Addr} (h:H a=some (.dK [])):zp K H (.ref a):=⟨.oth,.oth (.inr ⟨a,rfl,.inl h,rfl⟩) (.inl rfl) (λ_ z=>(nomatch z)) (λ_ z=>(nomatch z)),λm e=>by cases e⟩
inductive Fl:V->PyData->Prop
 | int (n:Int):Fl (.int n) (.int n)
 | str {x:Str}:PyData.strOk x=true->Fl (.str x) (.str x)
theorem Fl.dv {K:PySem.W.Frag} {H:Hp} {v:V} {d:PyData} (h:Fl v d):DV K H v d/\d.canLay0=true/\d.depth=0:=by
 cases h with
 | int n=>exact⟨.int n,rfl,rfl⟩
 | str o=>exact⟨.str _,o,rfl⟩
theorem R4 {K:PySem.W.Frag} {H:Hp} {a:Addr} {x:V} {d:PyData} (h:H a=some (.lst [x])) (f:Fl x d):zp K H (.ref a):=by
 obtain⟨a1,a2,a3⟩:=f.dv (K:=K) (H:=H)
 refine⟨.oth,.oth (.inl (.lst (.of h) (.cons a1 .nil))) (.inr ⟨?_,?_⟩) (λ_ z=>(nomatch z)) (λ_ z=>(nomatch z)),λm e=>by cases e⟩
 . show (d.canLay0&&true)=true
   rw[a2];rfl
 . simp only[PyData.depth,PyData.depthAll,a3];decide
theorem R3 {K:PySem.W.Frag} {H:Hp} {a:Addr} {x:V} {d:PyData} (h:H a=some (.tup [x])) (f:Fl x d):zp K H (.ref a):=by
 obtain⟨a1,a2,a3⟩:=f.dv (K:=K) (H:=H)
 refine⟨.oth,.oth (.inl (.tup (.of h) (.cons a1 .nil))) (.inr ⟨?_,?_⟩) (λ_ z=>(nomatch z)) (λ_ z=>(nomatch z)),λm e=>by cases e⟩
 . show (d.canLay0&&true)=true
   rw[a2];rfl
 . simp only[PyData.depth,PyData.depthAll,a3];decide
theorem we {K:PySem.W.Frag} {H:Hp}:∀{xs:List V},(∀x∈xs,zp K H x)->∃its,Paired (ZI K H) xs its/\∀i∈its,∀n,i=.int n->n≠1000
 | [],_=>⟨[],.nil,λi h=>(nomatch h)⟩
 | x::xs,h=>by
   obtain⟨its,a,b⟩:=we λy hy=>h y (tN _ hy)
   obtain⟨i,z,q⟩:=h x tS
   refine⟨i::its,.cons z a,λj hj=>?_⟩
   rcases tR.mp hj with rfl | hj
   . exact q
   . exact b j hj
theorem Gs {K:PySem.W.Frag} {H:Hp} {p:Addr} {xs:List V} (h:H p=some (.tup xs)) (a:∀x∈xs,zp K H x):jY K H (.ref p):=by
 obtain⟨its,pr,ne⟩:=we a
 refine⟨.tup its,.tup (.of h) pr,λl e n hn=>?_⟩
 rcases Jl e with ⟨b,rfl,_,_⟩ | ⟨m,s,rfl,et⟩
 . cases hn
 . cases hn
   cases et
   have:=ne (.int (n:Nat)) (by simp) (n:Nat) rfl
   omega
theorem X0 {K:PySem.W.Frag} {H:Hp} {v:V} {d:PyData} (h:DV K H v d) (n:∀ds,d≠.tuple ds):jY K H v:=⟨.no,.no h n,λl e=>by cases e⟩
def Sx (d:Addr) (s:Int) (H:Hp):Prop:=∃n t,H d=some (.dK (src n s t))
theorem Ux {d:Addr} {s:Int} {H H':Hp} (sx:Sx d s H) (f:Fr H d H') (a:Addr) (u:HO) (hu:Gh u) (r:Rd H a u):Rd H' a u:=by
 obtain⟨n,t,e⟩:=sx
 have ne:a≠d:=λz=>by
   rw[z]at r
   rcases r with c | ⟨o,c⟩<;>rw[e]at c<;>cases c
   rcases hu with ⟨_,z⟩ | ⟨_,z⟩ | z<;>cases z
 exact r.elim (λc=>.inl (f _ _ c ne)) λ⟨o,c⟩=>.inr ⟨o,f _ _ c ne⟩
theorem JX {d a:Addr} {s:Int} {H H':Hp} {xs:List V} (sx:Sx d s H) (f:Fr H d H') (h:H a=some (.tup xs)):H' a=some (.tup xs):=by
 obtain⟨n,t,e⟩:=sx
 exact f _ _ h λz=>by rw[z,e]at h;cases h
theorem Yj {d a:Addr} {s:Int} {H H':Hp} {xs:List V} (sx:Sx d s H) (f:Fr H d H') (h:H a=some (.lst xs)):H' a=some (.lst xs):=by
 obtain⟨n,t,e⟩:=sx
 exact f _ _ h λz=>by rw[z,e]at h;cases h
theorem Jo {d a:Addr} {s:Int} {H:Hp} {o:HO} (sx:Sx d s H) (h:H a=none):Sx d s (upd H a o):=let ⟨n,t,e⟩:=sx;⟨n,t,ql e h⟩
theorem ub {d:Addr} {s:Int} {H H':Hp} (sx:Sx d s H) (h:qr H H'):Sx d s H':=let ⟨n,t,e⟩:=sx;⟨n,t,h _ _ e⟩
theorem Jw {d a:Addr} {H:Hp} {o:HO} (h:H a=none):Fr H d (upd H a o):=Fr.new Fr.refl h
theorem Ko {d:Addr} {H H':Hp} (h:qr H H'):Fr H d H':=λb o e _=>h b o e
def EX (d:Addr) (s:Int) (te:TE) (σ:L2.St) (H:Hp) (Pr:Hp->V->Prop):Prop:=∀H1,Fr H d H1->Sx d s H1->∀Q:VK,(∀v H2,Fr H1 d H2->Sx d s H2->Pr H2 v->Q v H2)->te σ H1 Q
def EA (d:Addr) (s:Int) (ts:TA) (σ:L2.St) (H:Hp) (Pr:Hp->V->Prop) (n:Nat):Prop:=∀H1,Fr H d H1->Sx d s H1->∀Q:List V->Hp->Prop,(∀xs H2,Fr H1 d H2->Sx d s H2->xs.length=n->(∀x∈xs,Pr H2 x)->Q xs H2)->ts σ H1 Q
def Sta (d:Addr) (s:Int) (Pr:Hp->V->Prop):Prop:=∀H H' v,Sx d s H->Fr H d H'->Pr H v->Pr H' v
section
variable {K:PySem.W.Frag} {d:Addr} {s:Int} {σ:L2.St} {H:Hp} {Pr Pr':Hp->V->Prop}
theorem qK:Sta d s (zp K):=λH H' v sx f h=>h.keep (Ux sx f)
theorem qZ:Sta d s (jY K):=λH H' v sx f h=>h.keep (Ux sx f)
theorem EX.c {v:V} (h:∀H2,Pr H2 v):EX d s (tC v) σ H Pr:=λH1 f sx Q q=>q v H1 Fr.refl sx (h H1)
theorem EX.v {i:Nat} {v:V} (e:σ[i]?=some (some v)) (h:∀H2,Fr H d H2->Sx d s H2->Pr H2 v):EX d s (qN i) σ H Pr:=λH1 f sx Q q=>⟨v,e,q v H1 Fr.refl sx (h H1 f sx)⟩
theorem EX.imp {te:TE} (h:EX d s te σ H Pr) (k:∀H v,Pr H v->Pr' H v):EX d s te σ H Pr':=λH1 f sx Q q=>h H1 f sx Q λv H2 f2 sx2 p=>q v H2 f2 sx2 (k _ _ p)
theorem EX.take {i:Nat} {m:Int} (e:σ[i]?=some (some (.ref d))) (m0:0 < m) (m1:m.natAbs < 2^200) (h:∀r H2,0<=r->r < m->Pr H2 (.int r)):EX d s (JJ Q9 [] E0 (qM (qN i) (qM (tC (.int m)) jT))) σ H Pr:=λH1 f ⟨n,t,hd⟩ Q q=>
 ⟨_,e,d,m,n,s,t,rfl,hd,m0,m1,λr n' t' r0 r1=>q (.int r) _ (Fr.at_d Fr.refl) ⟨n',t',qe⟩ (h r _ r0 r1)⟩
theorem EA.nil:EA d s jT σ H Pr 0:=λH1 f sx Q q=>q [] H1 Fr.refl sx rfl λx hx=>(nomatch hx)
theorem EA.cons {te:TE} {ts:TA} {n:Nat} (st:Sta d s Pr) (a:EX d s te σ H Pr) (b:EA d s ts σ H Pr n):EA d s (qM te ts) σ H Pr (n+1):=λH1 f sx Q q=>a H1 f sx _ λv H2 f2 sx2 p=>b H2 (f.trans f2) sx2 _ λxs H3 f3 sx3 l al=>q (v::xs) H3 (f2.trans f3) sx3 (by rw[zac,l]) λx hx=>by
 rcases tR.mp hx with rfl | hx
 . exact st _ _ _ sx2 f3 p
 . exact al x hx
def wK (K:PySem.W.Frag) (m:Nat) (H:Hp) (v:V):Prop:=∃p xs,v=.ref p/\H p=some (.tup xs)/\xs.length<=m/\∀x∈xs,zp K H x
theorem wK.tg {m:Nat} {v:V} (h:wK K m H v):jY K H v:=by
 obtain⟨p,xs,rfl,a,_,b⟩:=h
 exact Gs a b
theorem V3 {a:Addr} {o:HO} {v:V} (h:zp K H v) (hn:H a=none):zp K (upd H a o) v:=h.keep λb u _ r=>r.mono (qj hn)
theorem Vz {a:Addr} {o:HO} {v:V} (h:jY K H v) (hn:H a=none):jY K (upd H a o) v:=h.mono (qj hn)
theorem EX.tup {ts:TA} {n:Nat} (h:EA d s ts σ H (zp K) n) (hn:n<=10):EX d s (JN ts) σ H (wK K n):=λH1 f sx Q q=>h H1 f sx _ λxs H2 f2 sx2 l al=>⟨zab (qm (by omega)),λp hp=>q _ _ (f2.trans (Jw hp)) (Jo sx2 hp) ⟨p,xs,rfl,qe,by omega,λx hx=>V3 (al x hx) hp⟩⟩
theorem EX.cat {ta tb:TE} {m n:Nat} (a:EX d s ta σ H (wK K m)) (b:EX d s tb σ H (wK K n)) (l:m+n<=20):EX d s (Jf K4 ta tb) σ H (wK K (m+n)):=λH1 f sx Q q=>a H1 f sx _ λv H2 f2 sx2 ⟨p,xs,ev,hp,lx,al⟩=>b H2 (f.trans f2) sx2 _ λu H3 f3 sx3 ⟨p',ys,eu,hp',ly,al'⟩=>by
 subst ev eu
 refine⟨p,p',xs,ys,rfl,rfl,JX sx2 f3 hp,hp',zab (qm (by omega)),λr H4 s4 hr=>q _ H4 ((f2.trans f3).trans (Ko s4)) (ub sx3 s4) ⟨r,_,rfl,hr,by rw[tX];omega,λx hx=>?_⟩⟩
 rcases tZ.mp hx with h | h
 . exact(qK _ _ _ sx2 f3 (al x h)).keep λb u _ r=>r.mono s4
 . exact(al' x h).keep λb u _ r=>r.mono s4
def ya (K:PySem.W.Frag) (m:Nat) (H:Hp) (v:V):Prop:=∃p xs,v=.ref p/\H p=some (.lst xs)/\xs.length=m/\∀x∈xs,jY K H x
theorem EX.lst {ts:TA} {n:Nat} (h:EA d s ts σ H (jY K) n) (hn:n<=100):EX d s (VA ts) σ H (ya K n):=λH1 f sx Q q=>h H1 f sx _ λxs H2 f2 sx2 l al=>⟨zab (qm (by omega)),λp hp=>q _ _ (f2.trans (Jw hp)) (Jo sx2 hp) ⟨p,xs,rfl,qe,l,λx hx=>Vz (al x hx) hp⟩⟩
theorem EX.add {ta tb:TE} {m n:Nat} (a:EX d s ta σ H (ya K m)) (b:EX d s tb σ H (ya K n)) (l:m+n<=100):EX d s (Jf (yX K) ta tb) σ H (ya K (m+n)):=λH1 f sx Q q=>a H1 f sx _ λv H2 f2 sx2 ⟨p,xs,ev,hp,lx,al⟩=>b H2 (f.trans f2) sx2 _ λu H3 f3 sx3 ⟨p',ys,eu,hp',ly,al'⟩=>by
 subst ev eu
 refine⟨p,p',xs,ys,rfl,rfl,.of (Yj sx2 f3 hp),.of hp',zab (qm (by omega)),λr hr=>q _ _ ((f2.trans f3).trans (Jw hr)) (Jo sx3 hr) ⟨r,_,rfl,qe,by rw[tX];omega,λx hx=>?_⟩⟩
 rcases tZ.mp hx with h | h
 . exact Vz (qZ _ _ _ sx2 f3 (al x h)) hr
 . exact Vz (al' x h) hr
theorem EX.run {te:TE} (ex:EX d s te σ H Pr) (sx:Sx d s H) {Q:VK} (q:∀v H2,Fr H d H2->Sx d s H2->Pr H2 v->Q v H2):te σ H Q:=ex H Fr.refl sx Q q
theorem Ki {i:Nat} {v:V} {σ:L2.St} {H:Hp} {D:QN} (h:D.nx (σ.set i (some v)) H):Qu i v σ H D.nx:=h
theorem JP {a b:TS} {D:QN} {σ:L2.St} {H:Hp} (h:a {D with nx:=b D} σ H):w5 a b D σ H:=h
theorem Y6 {te:TE} {g:TG} {D:QN} {σ:L2.St} {H:Hp} (h:te σ H λv H'=>g v σ H' D.nx):vD te g D σ H:=h
theorem EX.lit {te:TE} {v:V} (h:∀H1 (Q:VK),Q v H1->te σ H1 Q) (p:∀H2,Pr H2 v):EX d s te σ H Pr:=λH1 f sx Q q=>h H1 Q (q v H1 Fr.refl sx (p H1))
theorem EX.mt:EX d s VB σ H (zp K):=λH1 f sx Q q a ha=>q _ _ (Jw ha) (Jo sx ha) (Mm qe)
theorem EX.ix {i k:Nat} {p:Addr} {xs:List V} {x:V} (sx0:Sx d s H) (e:σ[i]?=some (some (.ref p))) (hp:H p=some (.tup xs)) (hx:xs[k]?=some x) (h:∀H2,Pr H2 x):EX d s (Jf (JQ K) (qN i) (tC (.int (k:Int)))) σ H Pr:=λH1 f sx Q q=>
 ⟨_,e,p,xs,(k:Int),x,rfl,rfl,.of (JX sx0 f hp),QL hx,q x H1 Fr.refl sx (h H1)⟩
theorem EX.op {r:R2} {ta tb:TE} {x y z:V} (a:EX d s ta σ H λ_ v=>v=x) (b:EX d s tb σ H λ_ v=>v=y) (hr:∀H1 (Q:VK),Q z H1->r x y H1 Q) (h:∀H2,Pr H2 z):EX d s (Jf r ta tb) σ H Pr:=λH1 f sx Q q=>
 a H1 f sx _ λv H2 f2 sx2 ev=>b H2 (f.trans f2) sx2 _ λu H3 f3 sx3 eu=>by
   subst ev eu
   exact hr H3 Q (q z H3 (f2.trans f3) sx3 (h H3))
theorem EX.sl {te:TE} {tl th:TO} {m:Nat} (lo hi:Option Int) (a:EX d s te σ H (wK K m)) (hl:∀H1 (Q:Option Int->Hp->Prop),Q lo H1->tl σ H1 Q) (hh:∀H1 (Q:Option Int->Hp->Prop),Q hi H1->th σ H1 Q):EX d s (MV (UR K) te tl th) σ H (wK K m):=λH1 f sx Q q=>
 a H1 f sx _ λv H2 f2 sx2 ⟨p,xs,ev,hp,lx,al⟩=>by
   subst ev
   refine hl H2 _ (hh H2 _ ?_)
   by_cases c:HT.sIx xs.length 0 lo=0/\HT.sIx xs.length xs.length hi=xs.length
   . exact .inr ⟨p,xs,rfl,.of hp,c,q _ H2 f2 sx2 ⟨p,xs,rfl,hp,lx,al⟩⟩
   . refine .inl ⟨p,xs,rfl,.of hp,c,λp' hp'=>q _ _ (f2.trans (Jw hp')) (Jo sx2 hp') ⟨p',_,rfl,qe,tV (J4 xs lo hi) lx,λx hx=>V3 (al x ?_) hp'⟩⟩
     unfold Ww at hx
     exact List.mem_of_mem_drop (zca hx)
def LIo (K:PySem.W.Frag) (m:Nat) (H:Hp) (v:V):Prop:=∃p xs,v=.ref p/\H p=some (.lst xs)/\xs.length=m/\∀x∈xs,zp K H x
theorem EX.lio {ts:TA} {n:Nat} (h:EA d s ts σ H (zp K) n) (hn:n<=100):EX d s (VA ts) σ H (LIo K n):=λH1 f sx Q q=>h H1 f sx _ λxs H2 f2 sx2 l al=>⟨zab (qm (by omega)),λp hp=>q _ _ (f2.trans (Jw hp)) (Jo sx2 hp) ⟨p,xs,rfl,qe,l,λx hx=>V3 (al x hx) hp⟩⟩
theorem vp {xs:List V} {r:Int} (r0:0<=r) (r1:r < xs.length):∃x∈xs,Uj xs r=some x:=by
 have li:r.toNat < xs.length:=by omega
 refine⟨xs[r.toNat],zbW li,?_⟩
 unfold Uj RX
 rw[if_pos r0,if_pos r1]
 exact tz li
theorem EX.pick {ta tb:TE} {m:Nat} (a:EX d s ta σ H (LIo K m)) (b:EX d s tb σ H λ_ v=>∃r,v=.int r/\0<=r/\r < m):EX d s (Jf (Rg K) ta tb) σ H (zp K):=λH1 f sx Q q=>
 a H1 f sx _ λv H2 f2 sx2 ⟨p,xs,ev,hp,lx,al⟩=>b H2 (f.trans f2) sx2 _ λu H3 f3 sx3 ⟨r,eu,r0,r1⟩=>by
   subst ev eu
   obtain⟨x,hx,e⟩:=vp r0 (by rw[lx];exact r1)
   exact⟨p,xs,r,x,rfl,rfl,.of (Yj sx2 f3 hp),e,q x H3 (f2.trans f3) sx3 (qK _ _ _ sx2 f3 (al x hx))⟩
theorem EX.lst1 {te:TE} {x:V} {dd:PyData} (a:EX d s te σ H λ_ v=>v=x) (f:Fl x dd):EX d s (VA (qM te jT)) σ H (zp K):=λH1 fr sx Q q=>a H1 fr sx _ λv H2 f2 sx2 ev=>by
 subst ev
 exact⟨by show 1<=sizeLine;decide,λp hp=>q _ _ (f2.trans (Jw hp)) (Jo sx2 hp) (R4 qe f)⟩
theorem EX.tup1 {te:TE} {x:V} {dd:PyData} (a:EX d s te σ H λ_ v=>v=x) (f:Fl x dd):EX d s (JN (qM te jT)) σ H (zp K):=λH1 fr sx Q q=>a H1 fr sx _ λv H2 f2 sx2 ev=>by
 subst ev
 exact⟨by show 1<=sizeLine;decide,λp hp=>q _ _ (f2.trans (Jw hp)) (Jo sx2 hp) (R3 qe f)⟩
end
open PySem L2 PyProof.Rows MLab
def Gf:Lb->Prop
 | .num n s=>n<=8/\s<=14
 | .end_ b=>b < 512
theorem XC {l:Lb} (bd:Gf l):∃x k r,Vd l=.str x::.int (k:Nat)::r/\PyData.strOk x=true/\k < 512/\r.length<=1/\∀y∈r,∃m:Nat,y=.int (m:Nat)/\m<=14:=by
 cases l with
 | num n s'=>exact⟨_,n,[.int (s':Nat)],rfl,by decide+kernel,by have:=bd.1;omega,tu _,λy hy=>⟨s',by simpa using hy,bd.2⟩⟩
 | end_ b=>exact⟨_,b,[],rfl,by decide+kernel,bd,zah _,λy hy=>(nomatch hy)⟩
theorem RK {K:PySem.W.Frag} {H:Hp} {l:Lb} (bd:Gf l):(Vd l).length<=3/\∀x∈Vd l,zp K H x:=by
 obtain⟨x,k,r,e,sx,lt,lr,hr⟩:=XC bd
 rw[e]
 refine⟨by simp;omega,λy hy=>?_⟩
 rcases tR.mp hy with rfl | hy
 . exact j2 sx
 . rcases tR.mp hy with rfl | hy
   . exact jP (by omega)
   . obtain⟨m,rfl,le⟩:=hr y hy
     exact jP (by omega)
theorem N8 {n:Nat} (h:n<=8):(1:Int)*2^n - 1≠1000:=by
 have:∀n,n < 9->(1:Int)*2^n - 1≠1000:=by decide+kernel
 exact this n (by omega)
def KP (K:PySem.W.Frag):Sp:=λvs H Q _=>∃(d p:Addr) (l:Lb) (n s t:Int),vs=[.ref d,.ref p]/\H d=some (.dK (src n s t))/\H p=some (.tup (Vd l))/\Gf l/\
 ∀v n' t' H',jY K H' v->H' d=some (.dK (src n' s t'))->Fr H d H'->Q v H'
section
variable {P:Program} {w:World} {K:PySem.W.Frag} {mg:Str->Option Value} {base:Heap}
abbrev nOt:List Str:=["_law_source_here","_law_label","_law_some","_law_odd"]
abbrev N6:List Str:=["_law_source_here","_law_label"]
theorem Xb:qG nOt N6 (qo ZW):=⟨rfl,rfl,rfl,by decide+kernel,rfl,by decide+kernel,by decide+kernel⟩
theorem xm {f fT:Addr} {fd fdT:FuncData} (F:Qn K "_law_other" "_law_other" ZW f fd) (B:JH mg) (G:Je mg) (hT:jr K mg "_law_take" Zr ["_law_source_here","_law_many"] fT fdT):qB P w K mg base q5 2 f fd N6 (KP K):=by
 have GT:qB P w K mg base q5 1 fT fdT ["_law_source_here","_law_many"] Q9:=Jr hT.fn
 refine F.okJ Xb (λvs H Q E h=>?_) (λcdv A outer s H vs Q E hr h=>?_)
 . obtain⟨d,p,l,n,s,t,rfl,_⟩:=h
   rfl
 . obtain⟨d,p,l,n,s0,t,rfl,hd,hp,bd,q⟩:=h
   have hu:=jQ hr
   refine⟨_,qg (qz (i:=2) Xb.nd rfl (Or.inl rfl) (qV (qb (qk (qb qx (qb (qO hT GT hr (by rfl) (qb (jv 0) (qb qf qd))) (qb (qO hT GT hr (by rfl) (qb (jv 0) (qb qf qd))) qd)))) (qb (qk (qb qx (qb (qO hT GT hr (by rfl) (qb (jv 0) (qb qf qd))) qd))) (qb (qH Qe (jv 1) (qk (qb qf qd))) qd)))))
     (qg (qz (i:=2) Xb.nd rfl (Or.inl rfl) (qH Q5 (jv 2) (qV (qb (jq QK (by rfl) G.lst boot_list (qb (jv 1) qd)) (qb (jG Qd (jv 1) jX (jW qf)) (qb (qk (qb qx (qb ja (qb qf qd)))) (qb (qk (qb qx (qb ja qd)))
       (qb (qH Qe (qk (qb (qD qw (jv 1) qf (λ_ _=>rfl)) (qb (Mi Gq qf) qd))) (jG Qd (jv 1) (jW qf) jX)) qd))))))))
     (qg (qz (i:=2) Xb.nd rfl (Or.inl rfl) (qH Q5 (jv 2) (qV (qb YU (qb qx (qb qf (qb (qH Qe (qk (qb qx qd)) (jG Qd (jv 1) (jW qf) jX)) (qb (qk (qb qx (qb qf qd))) (qb (qk (qb qx (qb (qH zA qf qf) (qb (qH zA qf qf) qd)))) qd)))))))))
     (qg (qz (i:=3) Xb.nd rfl (Or.inl rfl) (qD Qh (qV (qb qx (qb YU (qb (qV (qb (qD qw (jv 1) qf (λ_ _=>rfl)) qd)) (qb (qk (qb (qD qw (jv 1) qf (λ_ _=>rfl)) qd)) (qb Qc (qb qx (qb (qH VO qf (qH zA qf qf)) qd)))))))) (qO hT GT hr (by rfl) (qb (jv 0) (qb qf qd))) (λ_ _=>rfl)))
     (qg (qz (i:=2) Xb.nd rfl (Or.inl rfl) (qH Q5 (jv 2) (qV (qb (qk (qb qx (qb (jv 3) (qb qf qd)))) (qb (qk (qb qx (qb (qD qw (jv 1) qf (λ_ _=>rfl)) (qb (jv 3) qd)))) (qb (qk (qb qx (qb (jv 3) qd))) (qb (qH Qe (qk (qb (qV (qb (qD qw (jv 1) qf (λ_ _=>rfl)) qd)) qd)) (jG Qd (jv 1) (jW qf) jX)) qd)))))))
     (qg (qz (i:=2) Xb.nd rfl (Or.inl rfl) (qH Q5 (jv 2) (qV (qb (qH Qe (qk (qb Qc qd)) (jG Qd (jv 1) (jW qf) jX)) (qb (qH Qe (qk (qb YU qd)) (jG Qd (jv 1) (jW qf) jX)) (qb (qH Qe (qk (qb qf qd)) (jG Qd (jv 1) (jW qf) jX)) qd))))))
     (Z5 (qS (qt jo (qD qw (jv 1) qf (λ_ _=>rfl)) qx (qp _))
       (qg (qz (i:=2) Xb.nd rfl (Or.inl rfl) (qH Q5 (jv 2) (qV (qb (qH Qe (jG Qd (jv 1) jX (jW qf)) (qk (qb (qO hT GT hr (by rfl) (qb (jv 0) (qb qf qd))) qd))) (qb (qk (qb qx (qb (qH j5 (qD qw (jv 1) qf (λ_ _=>rfl)) qf) (qb (qD qw (jv 1) qf (λ_ _=>rfl)) qd)))) (qb (jG Qd (jv 1) jX (jW qf)) qd))))))
       (qh (qz (i:=2) Xb.nd rfl (Or.inl rfl) (qH Q5 (jv 2) (qV (qb (qH Qe (jG Qd (jv 1) jX (jW qf)) (qk (qb (qH j5 (qD qw (jv 1) qf (λ_ _=>rfl)) (qH zA qf qf)) qd))) (qb (qH Qe (jG Qd (jv 1) jX (jW qf)) (qk (qb ja qd))) (qb (qk (qb qx (qb (qH VO (qH YG qf (qD qw (jv 1) qf (λ_ _=>rfl))) qf) qd))) qd))))))))
       (qh (qz (i:=2) Xb.nd rfl (Or.inl rfl) (qH Q5 (jv 2) (qV (qb (qk (qb qx (qb (qH Ro (qD qw (jv 1) qf (λ_ _=>rfl)) (qH YG qf (qO hT GT hr (by rfl) (qb (jv 0) (qb qf qd))))) qd))) (qb (qk (qb qx (qb (qH QS (qD qw (jv 1) qf (λ_ _=>rfl)) qf) (qb (qH zA qf qf) qd)))) qd)))))))
     (qh (qA (qD Qh (jv 2) (qO hT GT hr (by rfl) (qb (jv 0) (qb (qy qU (by rfl) B.len boot_len (qb (jv 2) qd)) qd))) (λ_ _=>rfl)))))))))),?_⟩
   have sx0:Sx d s0 H:=⟨n,t,hd⟩
   obtain⟨x0,k0,r0,e0,sx',lt,lr,hr0⟩:=XC bd
   obtain⟨lio1,lio2⟩:=RK (K:=K) (H:=H) bd
   have kE:PyData.strOk (Str.ofString "endless")=true:=by decide+kernel
   have kN:PyData.strOk (Str.ofString "number")=true:=by decide+kernel
   have kO:PyData.strOk (Str.ofString "other")=true:=by decide+kernel
   have k0':PyData.strOk (Str.ofString "0")=true:=by decide+kernel
   have kM:PyData.strOk (Str.ofString "")=true:=by decide+kernel
   have lab:∀{σ:L2.St} {H1:Hp},Fr H d H1->σ[1]?=some (some (.ref p))->EX d s0 (qN 1) σ H1 (wK K 3):=λ{σ H1} f e=>EX.v e λH2 f2 _=>⟨p,_,rfl,JX sx0 (f.trans f2) hp,lio1,λx hx=>qK _ _ _ sx0 (f.trans f2) (lio2 x hx)⟩
   have ix0:∀{σ:L2.St} {H1:Hp} {Pr:Hp->V->Prop},Fr H d H1->Sx d s0 H1->σ[1]?=some (some (.ref p))->(∀H2,Pr H2 (.str x0))->EX d s0 (Jf (JQ K) (qN 1) (tC (.int 0))) σ H1 Pr:=λf sx e h=>EX.ix (k:=0) sx e (JX sx0 f hp) (by rw[e0];rfl) h
   have ix1:∀{σ:L2.St} {H1:Hp} {Pr:Hp->V->Prop},Fr H d H1->Sx d s0 H1->σ[1]?=some (some (.ref p))->(∀H2,Pr H2 (.int (k0:Nat)))->EX d s0 (Jf (JQ K) (qN 1) (tC (.int 1))) σ H1 Pr:=λf sx e h=>EX.ix (k:=1) sx e (JX sx0 f hp) (by rw[e0];rfl) h
   have sl1:∀{σ:L2.St} {H1:Hp},Fr H d H1->σ[1]?=some (some (.ref p))->EX d s0 (MV (UR K) (qN 1) (ym (tC (.int 1))) X2) σ H1 (wK K 3):=λf e=>EX.sl (some 1) none (lab f e) (λ_ _ h=>⟨1,rfl,h⟩) (λ_ _ h=>h)
   have pw:∀{σ:L2.St} {H1:Hp} {k:Nat} {Pr:Hp->V->Prop},k<=1000000->(∀H2,Pr H2 (.int ((10:Int)^k)))->EX d s0 (Jf (rI Nq λi j=>.int (i^j.toNat)) (tC (.int 10)) (tC (.int (k:Int)))) σ H1 Pr:=λ{σ H1 k Pr} hk h=>EX.lit (v:=.int ((10:Int)^k)) (λH2 Q q=>⟨10,(k:Int),rfl,rfl,⟨by omega,by omega,by decide⟩,q⟩) h
   have tk:∀{σ:L2.St} {H1:Hp} {m:Int},σ[0]?=some (some (.ref d))->0 < m->m<=100->EX d s0 (JJ Q9 [] E0 (qM (qN 0) (qM (tC (.int m)) jT))) σ H1 (zp K):=λe m0 m1=>EX.take e m0 (by omega) λr _ a b=>jP (by omega)
   have big:∀{k:Nat},k=30\/k=20\/k=6->(10:Int)^k≠1000:=λh=>by rcases h with rfl | rfl | rfl<;>decide+kernel
   refine JP (Y6 (EX.run (Pr:=ya K 3) ?_ sx0 λv1 H1 f1 sx1 lo1=>?_))
   . exact EX.lst (EA.cons qZ (EX.imp (EX.tup (EA.cons qK (EX.c λ_=>j2 kN) (EA.cons qK (tk rfl (by decide) (by decide)) (EA.cons qK (tk rfl (by decide) (by decide)) EA.nil))) (by decide)) λ_ _ h=>h.tg)
       (EA.cons qZ (EX.imp (EX.tup (EA.cons qK (EX.c λ_=>j2 kE) (EA.cons qK (tk rfl (by decide) (by decide)) EA.nil)) (by decide)) λ_ _ h=>h.tg)
       (EA.cons qZ (EX.imp (EX.cat (lab Fr.refl rfl) (EX.tup (EA.cons qK (EX.c λ_=>jP (by decide)) EA.nil) (by decide)) (by decide)) λ_ _ h=>h.tg) EA.nil))) (by decide)
   obtain⟨L1,xs1,rfl,hL1,lx1,al1⟩:=lo1
   refine Ki ?_
   dsimp only
   have lv:∀{σ:L2.St} {H1:Hp} {L:Addr} {xs:List V} {m:Nat},Sx d s0 H1->σ[2]?=some (some (.ref L))->H1 L=some (.lst xs)->xs.length=m->(∀x∈xs,jY K H1 x)->EX d s0 (qN 2) σ H1 (ya K m):=λ{σ H1 L xs m} sx e hL lx al=>EX.v e λH2 f2 _=>⟨L,xs,rfl,Yj sx f2 hL,lx,λx hx=>qZ _ _ _ sx f2 (al x hx)⟩
   refine JP (Y6 (EX.run (Pr:=ya K 8) ?_ sx1 λv2 H2 f2 sx2 lo2=>?_))
   . refine EX.add (m:=3) (n:=5) (lv sx1 rfl hL1 lx1 al1) (EX.lst (EA.cons qZ ?_ (EA.cons qZ (EX.imp (EX.sl none (some 1) (lab f1 rfl) (λ_ _ h=>h) (λ_ _ h=>⟨1,rfl,h⟩)) λ_ _ h=>h.tg) (EA.cons qZ (EX.imp (EX.tup (EA.cons qK (EX.c λ_=>j2 kN) (EA.cons qK (EX.c λ_=>wg true) (EA.cons qK (EX.c λ_=>jP (by decide)) EA.nil))) (by decide)) λ_ _ h=>h.tg)
       (EA.cons qZ (EX.imp (EX.tup (EA.cons qK (EX.c λ_=>j2 kE) (EA.cons qK (EX.c λ_=>wg true) EA.nil)) (by decide)) λ_ _ h=>h.tg)
       (EA.cons qZ (EX.imp (EX.cat (EX.tup (EA.cons qK (ix0 f1 sx1 rfl λ_=>j2 sx') (EA.cons qK (EX.lit (v:=.int (-1)) (λ_ _ h=>⟨1,rfl,h⟩) λ_=>jP (by decide)) EA.nil)) (by decide)) (EX.sl (some 2) none (lab f1 rfl) (λ_ _ h=>⟨2,rfl,h⟩) (λ_ _ h=>h)) (by decide)) λ_ _ h=>h.tg) EA.nil))))) (by decide)) (by decide)
     intro H3 f3 sx3 Q' q'
     refine⟨_,rfl,p,_,rfl,.inr (.of (JX sx0 (f1.trans f3) hp)),λl hl=>q' _ _ (Jw hl) (Jo sx3 hl) ?_⟩
     have dv:∃ds,DVs K (upd H3 l (.lst (Vd ‹Lb›))) (Vd ‹Lb›) ds:=by
       rw[e0]
       have:∀r:List V,(∀y∈r,∃m:Nat,y=.int (m:Nat)/\m<=14)->∃ds,DVs K (upd H3 l (.lst (.str x0::.int (k0:Nat)::r0))) r ds:=λr=>by
         induction r with
         | nil=>exact λ_=>⟨[],.nil⟩
         | cons y r ih=>
           intro h
           obtain⟨ds,hd⟩:=ih λz hz=>h z (tN _ hz)
           obtain⟨m,rfl,_⟩:=h y tS
           exact⟨_,.cons (.int _) hd⟩
       obtain⟨ds,hd⟩:=this r0 hr0
       exact⟨_,.cons (.str _) (.cons (.int _) hd)⟩
     obtain⟨ds,hds⟩:=dv
     exact X0 (.lst (.of qe) hds) λ_ z=>(nomatch z)
   obtain⟨L2',xs2,rfl,hL2,lx2,al2⟩:=lo2
   refine Ki ?_
   dsimp only
   have f02:=f1.trans f2
   refine JP (Y6 (EX.run (Pr:=ya K 14) ?_ sx2 λv3 H3 f3 sx3 lo3=>?_))
   . exact EX.add (m:=8) (n:=6) (lv sx2 rfl hL2 lx2 al2) (EX.lst (EA.cons qZ (EX.c λ_=>X0 .non λ_ z=>(nomatch z)) (EA.cons qZ (EX.c λ_=>X0 (.str _) λ_ z=>(nomatch z)) (EA.cons qZ (EX.c λ_=>X0 (.int _) λ_ z=>(nomatch z))
       (EA.cons qZ (EX.imp (EX.cat (EX.tup (EA.cons qK (EX.c λ_=>j2 kO) EA.nil) (by decide)) (sl1 f02 rfl) (by decide)) λ_ _ h=>h.tg) (EA.cons qZ (EX.imp (EX.tup (EA.cons qK (EX.c λ_=>j2 kE) (EA.cons qK (EX.c λ_=>jP (by decide)) EA.nil)) (by decide)) λ_ _ h=>h.tg)
       (EA.cons qZ (EX.imp (EX.tup (EA.cons qK (EX.c λ_=>j2 kN) (EA.cons qK (pw (k:=30) (by decide) λ_=>jP (big (.inl rfl))) (EA.cons qK (pw (k:=30) (by decide) λ_=>jP (big (.inl rfl))) EA.nil))) (by decide)) λ_ _ h=>h.tg) EA.nil)))))) (by decide)) (by decide)
   obtain⟨L3,xs3,rfl,hL3,lx3,al3⟩:=lo3
   refine Ki ?_
   dsimp only
   have f03:=f02.trans f3
   refine JP (Y6 (EX.run (Pr:=zp K) ?_ sx3 λod H4 f4 sx4 io4=>?_))
   . refine EX.pick (m:=7) (EX.lio (EA.cons qK (EX.c λ_=>j2 k0') (EA.cons qK (EX.c λ_=>wf) (EA.cons qK (EX.lst1 (ix1 f03 sx3 rfl λ_=>rfl) (.int _)) (EA.cons qK (EX.tup1 (ix1 f03 sx3 rfl λ_=>rfl) (.int _)) (EA.cons qK EX.mt (EA.cons qK (EX.c λ_=>j2 kM)
       (EA.cons qK (EX.op (x:=.int 0) (y:=.int ((10:Int)^30)) (z:=.int (0 - (10:Int)^30)) (EX.c λ_=>rfl) (pw (k:=30) (by decide) λ_=>rfl) (λ_ _ h=>⟨0,_,rfl,rfl,h⟩) λ_=>jP (by decide+kernel)) EA.nil))))))) (by decide)) (EX.take rfl (by decide) (by decide) λr _ a b=>⟨r,rfl,a,b⟩)
   refine Ki ?_
   dsimp only
   have f04:=f03.trans f4
   have hL4:=Yj sx3 f4 hL3
   have al4:∀x∈xs3,jY K H4 x:=λx hx=>qZ _ _ _ sx3 f4 (al3 x hx)
   have ov:∀{σ:L2.St} {H5:Hp},Fr H4 d H5->Sx d s0 H5->σ[3]?=some (some od)->EX d s0 (qN 3) σ H5 (zp K):=λ{σ H5} f sx e=>EX.v e λH6 f6 _=>qK _ _ _ sx4 (f.trans f6) io4
   refine JP (Y6 (EX.run (Pr:=ya K 18) ?_ sx4 λv5 H5 f5 sx5 lo5=>?_))
   . exact EX.add (m:=14) (n:=4) (lv sx4 rfl hL4 lx3 al4) (EX.lst (EA.cons qZ (EX.imp (EX.tup (EA.cons qK (EX.c λ_=>j2 kN) (EA.cons qK (ov Fr.refl sx4 rfl) (EA.cons qK (EX.c λ_=>jP (by decide)) EA.nil))) (by decide)) λ_ _ h=>h.tg)
       (EA.cons qZ (EX.imp (EX.tup (EA.cons qK (EX.c λ_=>j2 kN) (EA.cons qK (ix1 f04 sx4 rfl λ_=>jP (by omega)) (EA.cons qK (ov Fr.refl sx4 rfl) EA.nil))) (by decide)) λ_ _ h=>h.tg)
       (EA.cons qZ (EX.imp (EX.tup (EA.cons qK (EX.c λ_=>j2 kE) (EA.cons qK (ov Fr.refl sx4 rfl) EA.nil)) (by decide)) λ_ _ h=>h.tg)
       (EA.cons qZ (EX.imp (EX.cat (EX.tup (EA.cons qK (EX.lst1 (ix0 f04 sx4 rfl λ_=>rfl) (.str sx')) EA.nil) (by decide)) (sl1 f04 rfl) (by decide)) λ_ _ h=>h.tg) EA.nil)))) (by decide)) (by decide)
   obtain⟨L5,xs5,rfl,hL5,lx5,al5⟩:=lo5
   refine Ki ?_
   dsimp only
   have f05:=f04.trans f5
   refine JP (Y6 (EX.run (Pr:=ya K 21) ?_ sx5 λv6 H6 f6 sx6 lo6=>?_))
   . exact EX.add (m:=18) (n:=3) (lv sx5 rfl hL5 lx5 al5) (EX.lst (EA.cons qZ (EX.imp (EX.cat (EX.tup (EA.cons qK EX.mt EA.nil) (by decide)) (sl1 f05 rfl) (by decide)) λ_ _ h=>h.tg)
       (EA.cons qZ (EX.imp (EX.cat (EX.tup (EA.cons qK (EX.c λ_=>wf) EA.nil) (by decide)) (sl1 f05 rfl) (by decide)) λ_ _ h=>h.tg)
       (EA.cons qZ (EX.imp (EX.cat (EX.tup (EA.cons qK (EX.c λ_=>jP (by decide)) EA.nil) (by decide)) (sl1 f05 rfl) (by decide)) λ_ _ h=>h.tg) EA.nil))) (by decide)) (by decide)
   obtain⟨L6,xs6,rfl,hL6,lx6,al6⟩:=lo6
   refine Ki ?_
   dsimp only
   have f06:=f05.trans f6
   refine⟨λσ' H7=>Fr H d H7/\Sx d s0 H7/\∃L xs m,σ'=[some (.ref d),some (.ref p),some (.ref L),some od]/\H7 L=some (.lst xs)/\xs.length=m/\0 < m/\m<=50/\∀x∈xs,jY K H7 x,?_,?_⟩
   . have sl2:∀{σ:L2.St} {H1:Hp},Fr H d H1->σ[1]?=some (some (.ref p))->EX d s0 (MV (UR K) (qN 1) X2 (ym (tC (.int 2)))) σ H1 (wK K 3):=λf e=>EX.sl none (some 2) (lab f e) (λ_ _ h=>h) (λ_ _ h=>⟨2,rfl,h⟩)
     cases l with
     | num n' s'=>
       obtain⟨b1,b2⟩:=bd
       have hp':∀{H1:Hp},Fr H d H1->H1 p=some (.tup [.str (Str.ofString "number"),.int (n':Nat),.int (s':Nat)]):=λf=>JX sx0 f hp
       have jx:∀{σ:L2.St} {H1:Hp} {Pr:Hp->V->Prop},Fr H d H1->Sx d s0 H1->σ[1]?=some (some (.ref p))->(∀H2,Pr H2 (.int (n':Nat)))->EX d s0 (Jf (JQ K) (qN 1) (tC (.int 1))) σ H1 Pr:=λf sx e h=>EX.ix (k:=1) sx e (hp' f) rfl h
       have jy:∀{σ:L2.St} {H1:Hp} {Pr:Hp->V->Prop},Fr H d H1->Sx d s0 H1->σ[1]?=some (some (.ref p))->(∀H2,Pr H2 (.int (s':Nat)))->EX d s0 (Jf (JQ K) (qN 1) (tC (.int 2))) σ H1 Pr:=λf sx e h=>EX.ix (k:=2) sx e (hp' f) rfl h
       refine⟨_,rfl,p,_,0,_,rfl,rfl,.of (hp' f06),rfl,rfl,_,rfl,qR (by decide+kernel) ?_⟩
       refine JP (Y6 (EX.run (Pr:=ya K 24) ?_ sx6 λv7 H7 f7 sx7 lo7=>?_))
       . exact EX.add (m:=21) (n:=3) (lv sx6 rfl hL6 lx6 al6) (EX.lst (EA.cons qZ (EX.imp (EX.cat (sl2 f06 rfl) (EX.tup (EA.cons qK (tk rfl (by decide) (by decide)) EA.nil) (by decide)) (by decide)) λ_ _ h=>h.tg)
           (EA.cons qZ (EX.imp (EX.tup (EA.cons qK (EX.c λ_=>j2 kN) (EA.cons qK (EX.op (x:=.int (n':Nat)) (y:=.int 1) (z:=.int ((n':Nat)+1)) (jx f06 sx6 rfl λ_=>rfl) (EX.c λ_=>rfl) (λ_ _ h=>⟨_,_,rfl,rfl,h⟩) λ_=>jP (by omega)) (EA.cons qK (jy f06 sx6 rfl λ_=>jP (by omega)) EA.nil))) (by decide)) λ_ _ h=>h.tg)
           (EA.cons qZ (EX.imp (sl2 f06 rfl) λ_ _ h=>h.tg) EA.nil))) (by decide)) (by decide)
       obtain⟨L7,xs7,rfl,hL7,lx7,al7⟩:=lo7
       refine Ki ?_
       dsimp only
       have f07:=f06.trans f7
       refine(Y6 (EX.run (Pr:=ya K 27) ?_ sx7 λv8 H8 f8 sx8 lo8=>?_))
       . exact EX.add (m:=24) (n:=3) (lv sx7 rfl hL7 lx7 al7) (EX.lst (EA.cons qZ (EX.imp (EX.cat (sl2 f07 rfl) (EX.tup (EA.cons qK (EX.op (x:=.int (s':Nat)) (y:=.int ((10:Int)^20)) (z:=.int ((s':Nat)+(10:Int)^20)) (jy f07 sx7 rfl λ_=>rfl) (pw (k:=20) (by decide) λ_=>rfl) (λ_ _ h=>⟨_,_,rfl,rfl,h⟩) λ_=>jP (by omega)) EA.nil) (by decide)) (by decide)) λ_ _ h=>h.tg)
           (EA.cons qZ (EX.imp (EX.cat (sl2 f07 rfl) (EX.tup (EA.cons qK (EX.c λ_=>wg false) EA.nil) (by decide)) (by decide)) λ_ _ h=>h.tg)
           (EA.cons qZ (EX.imp (EX.tup (EA.cons qK (EX.c λ_=>j2 kE) (EA.cons qK (EX.op (x:=.int ((1:Int)*2^n')) (y:=.int 1) (z:=.int ((1:Int)*2^n' - 1)) (EX.op (x:=.int 1) (y:=.int (n':Nat)) (EX.c λ_=>rfl) (jx f07 sx7 rfl λ_=>rfl) (λ_ _ h=>⟨_,_,rfl,rfl,⟨by omega,by omega,by decide⟩,h⟩) λ_=>rfl) (EX.c λ_=>rfl) (λ_ _ h=>⟨_,_,rfl,rfl,h⟩) λ_=>jP (N8 b1)) EA.nil)) (by decide)) λ_ _ h=>h.tg) EA.nil))) (by decide)) (by decide)
       obtain⟨L8,xs8,rfl,hL8,lx8,al8⟩:=lo8
       exact⟨f07.trans f8,sx8,L8,xs8,27,rfl,hL8,lx8,by decide,by decide,al8⟩
     | end_ b=>
       have bd:b < 512:=bd
       have hp':∀{H1:Hp},Fr H d H1->H1 p=some (.tup [.str (Str.ofString "endless"),.int (b:Nat)]):=λf=>JX sx0 f hp
       have jx:∀{σ:L2.St} {H1:Hp} {Pr:Hp->V->Prop},Fr H d H1->Sx d s0 H1->σ[1]?=some (some (.ref p))->(∀H2,Pr H2 (.int (b:Nat)))->EX d s0 (Jf (JQ K) (qN 1) (tC (.int 1))) σ H1 Pr:=λf sx e h=>EX.ix (k:=1) sx e (hp' f) rfl h
       refine⟨_,rfl,p,_,0,_,rfl,rfl,.of (hp' f06),rfl,rfl,_,rfl,qL (by decide+kernel) ?_⟩
       refine(Y6 (EX.run (Pr:=ya K 23) ?_ sx6 λv8 H8 f8 sx8 lo8=>?_))
       . refine EX.add (m:=21) (n:=2) (lv sx6 rfl hL6 lx6 al6) (EX.lst (EA.cons qZ (EX.imp (EX.tup (EA.cons qK (EX.c λ_=>j2 kE) (EA.cons qK ?_ EA.nil)) (by decide)) λ_ _ h=>h.tg)
           (EA.cons qZ (EX.imp (EX.tup (EA.cons qK (EX.c λ_=>j2 kN) (EA.cons qK (EX.op (x:=.int (b:Nat)) (y:=.int 4) (z:=.int ((b:Int) % 4)) (jx f06 sx6 rfl λ_=>rfl) (EX.c λ_=>rfl) (λ_ _ h=>⟨_,_,rfl,rfl,(by decide:(0:Int) < 4),h⟩) λ_=>jP (by omega)) (EA.cons qK (pw (k:=6) (by decide) λ_=>jP (big (.inr (.inr rfl)))) EA.nil))) (by decide)) λ_ _ h=>h.tg) EA.nil)) (by decide)) (by decide)
         intro H7 f7 sx7 Q' q'
         refine jx f06 sx6 rfl (Pr:=λ_ v=>v=.int (b:Nat)) (λ_=>rfl) H7 f7 sx7 _ λv H8 f8 sx8 ev=>?_
         subst ev
         obtain⟨n8,t8,hd8⟩:=id sx8
         refine⟨_,rfl,d,9,n8,s0,t8,rfl,hd8,by decide,by decide,λr n9 t9 ra rb=>?_⟩
         obtain⟨m,rfl⟩:=zcA ra
         refine⟨1,(m:Int),rfl,rfl,⟨by omega,by omega,by decide⟩,_,_,rfl,rfl,q' _ _ (f8.trans (Fr.at_d Fr.refl)) ⟨n9,t9,qe⟩ ?_⟩
         have e1:(1:Int)*2^ ((m:Nat):Int).toNat=((2^m:Nat):Int):=by rw[zad,zdb];push_cast;rfl
         show zp K _ (.int (Builtin.bitXor (b:Nat) ((1:Int)*2^ ((m:Nat):Int).toNat)))
         rw[e1,bx]
         have m9:m < 9:=by omega
         have:b^^^2^m < 2^9:=Nat.xor_lt_two_pow bd (Nat.pow_lt_pow_right (by decide) m9)
         exact jP (by omega)
       obtain⟨L8,xs8,rfl,hL8,lx8,al8⟩:=lo8
       exact⟨f06.trans f8,sx8,L8,xs8,23,rfl,hL8,lx8,by decide,by decide,al8⟩
   . rintro σ' H7 ⟨f7,sx7,L,xs,m,rfl,hL,lx,m0,m50,al⟩
     obtain⟨n7,t7,hd7⟩:=id sx7
     refine⟨_,rfl,_,rfl,_,rfl,L,xs,rfl,.inl (.of hL),d,_,n7,s0,t7,rfl,hd7,by rw[lx];omega,by rw[lx];omega,λr n8 t8 ra rb=>?_⟩
     obtain⟨x,hx,e⟩:=vp (xs:=xs) ra rb
     have nL:L≠d:=λz=>by rw[z,hd7]at hL;cases hL
     have f8:Fr H7 d (upd H7 d (.dK (src n8 s0 t8))):=Fr.at_d Fr.refl
     exact⟨L,xs,r,x,rfl,rfl,.of (Yj sx7 f8 hL),e,q x n8 t8 _ (qZ _ _ _ sx7 f8 (al x hx)) qe (f7.trans f8)⟩
end
open PySem L2 PyProof.Rows MLab
structure ye (H:Hp) (D:Addr) (rs:jz) (f:Str->Lb):Prop where
 at_:∃o kvs,H D=some (.frz o (.dK kvs))/\kvs.map (·.1)=(rs.map (·.1)).map Sum.inr/\∀z∈rs.map (·.1),∃p,qY kvs (Sum.inr z:qI)=some (.ref p)/\H p=some (.tup (Vd (f z)))
theorem ye.fr {H H':Hp} {D d:Addr} {rs:jz} {f:Str->Lb} {kv:List (qI×V)} (h:ye H D rs f) (hd:H d=some (.dK kv)) (fr:Fr H d H'):ye H' D rs f:=⟨let ⟨o,kvs,a,b,c⟩:=h.at_;⟨o,kvs,fr _ _ a (λz=>by rw[z,hd]at a;cases a),b,λz hz=>let ⟨p,e,q⟩:=c z hz;⟨p,e,fr _ _ q (λz=>by rw[z,hd]at q;cases q)⟩⟩⟩
theorem ye.mono {H H':Hp} {D:Addr} {rs:jz} {f:Str->Lb} (h:ye H D rs f) (s:qr H H'):ye H' D rs f:=⟨let ⟨o,kvs,a,b,c⟩:=h.at_;⟨o,kvs,s _ _ a,b,λz hz=>let ⟨p,e,q⟩:=c z hz;⟨p,e,s _ _ q⟩⟩⟩
theorem ye.get {H:Hp} {D:Addr} {rs:jz} {f:Str->Lb} (h:ye H D rs f) {z:Str} (hz:z∈rs.map (·.1)):∃p,j8 H D (.str z) (some (.ref p))/\H p=some (.tup (Vd (f z))):=by
 obtain⟨o,kvs,a,_,c⟩:=h.at_
 obtain⟨p,e,q⟩:=c z hz
 have g:=j8.r (k:=(Sum.inr z:qI)) (.inr ⟨o,a⟩:Rd H D (.dK kvs))
 rw[e]at g
 exact⟨p,g,q⟩
def FT (H:Hp) (v:V):Prop:=∃q xs,v=.ref q/\H q=some (.tup xs)/\((∃(n:Nat) (s:Int),xs=[.str (Str.ofString "number"),.int (n:Nat),.int s]/\n<=8)\/∃b:Nat,xs=[.str (Str.ofString "endless"),.int (b:Nat)])
theorem FT.keep {H H':Hp} {v:V} (h:FT H v) (k:∀a xs,H a=some (.tup xs)->H' a=some (.tup xs)):FT H' v:=let ⟨q,xs,e,a,b⟩:=h;⟨q,xs,e,k _ _ a,b⟩
theorem FT.tg {K:PySem.W.Frag} {H:Hp} {v:V} (h:FT H v):jY K H v:=by
 obtain⟨q,xs,rfl,a,b⟩:=h
 have kE:PyData.strOk (Str.ofString "endless")=true:=by decide+kernel
 have kN:PyData.strOk (Str.ofString "number")=true:=by decide+kernel
 rcases b with ⟨n,s,rfl,le⟩ | ⟨b,rfl⟩
 . refine⟨_,.tup (.of a) (.cons (.str _ kN) (.cons (.int _) (.cons (.int s) .nil))),λl e m hm=>?_⟩
   rcases Jl e with ⟨b,rfl,_,et⟩ | ⟨m',s',rfl,et⟩
   . cases hm
   . cases hm
     have:(n:Int)=(m:Int):=by injection et with e1;injection e1 with _ e2;injection e2 with e3 _;injection e3
     omega
 . refine⟨_,.tup (.of a) (.cons (.str _ kE) (.cons (.int _) .nil)),λl e m hm=>?_⟩
   rcases Jl e with ⟨b,rfl,_,et⟩ | ⟨m',s',rfl,et⟩
   . cases hm
   . cases et
theorem wu {H:Hp} {p:Addr} {l:Lb} (h:H p=some (.tup (Vd l))) (bd:Gf l):FT H (.ref p):=by
 cases l with
 | num n s=>exact⟨p,_,rfl,h,.inl ⟨n,s,rfl,bd.1⟩⟩
 | end_ b=>exact⟨p,_,rfl,h,.inr ⟨b,rfl⟩⟩
def zY (P:Program) (w:World) (K:PySem.W.Frag):Sp:=λvs H Q _=>∃(d D:Addr) (rs:jz) (f:Str->Lb) (n s t:Int),vs=[.ref d,.ref D]/\H d=some (.dK (src n s t))/\ye H D rs f/\(∀z∈rs.map (·.1),Gf (f z))/\qu rs/\0 < rs.length/\rs.length<=14/\
 ∀D' n' t' H',H D'=none->WB P w K H' rs D'->H' d=some (.dK (src n' s t'))->Fr H d H'->Q (.ref D') H'
theorem Yb {kvs:List (qI×V)} {k:qI} {v:V} {p:qI×V} (h:p∈jm kvs k v):p∈kvs\/p.2=v:=by
 unfold jm at h
 split at h
 . obtain⟨a,ha,e⟩:=tE.mp h
   split at e
   . exact .inr (by rw[<-e])
   . exact .inl (e▸ha)
 . rcases tZ.mp h with h | h
   . exact .inl h
   . exact .inr (by have:p=(k,v):=by simpa using h
                    rw[this])
theorem YD {kvs:List (qI×V)} {k:qI} {v:V} (h:k∈kvs.map (·.1)):(jm kvs k v).map (·.1)=kvs.map (·.1):=by
 obtain⟨p,hp,e⟩:=tE.mp h
 unfold jm
 rw[if_pos (zaO.mpr ⟨p,hp,decide_eq_true e⟩),zaB]
 refine zbb λx _=>?_
 show (if x.1=k then (x.1,v) else x).1=x.1
 split<;>rfl
theorem Zh {kv:List (qI×V)} {rs:jz} (good:qu rs) (ek:kv.map (·.1)=(rs.map (·.1)).map Sum.inr):(kv.map (·.1)).Nodup/\kv.length=rs.length/\∀p∈kv,wS p.1:=by
 refine⟨by rw[ek];exact Qx good.nd λa _ b _ e=>Sum.inr.inj e,by simpa using congrArg zax ek,λp hp=>?_⟩
 have hm:p.1∈kv.map (·.1):=tE.mpr ⟨p,hp,rfl⟩
 rw[ek]at hm
 obtain⟨z,hz,e1⟩:=tE.mp hm
 exact .inl ⟨z,e1.symm,Wj (Xw good hz)⟩
section
variable {P:Program} {w:World} {K:PySem.W.Frag} {mg:Str->Option Value} {base:Heap}
abbrev nSt:List Str:=["_law_source_here","_law_labels_here","_law_way","_law_more","_law_found","_law_name","_law_step"]
abbrev K5:List Str:=["_law_source_here","_law_labels_here"]
theorem vJ:qG nSt K5 (qo z9):=⟨rfl,rfl,rfl,by decide+kernel,rfl,by decide+kernel,by decide+kernel⟩
theorem xi {f fT:Addr} {fd fdT:FuncData} (F:Qn K "_law_steps" "_law_steps" z9 f fd) (B:JH mg) (hT:jr K mg "_law_take" Zr ["_law_source_here","_law_many"] fT fdT):qB P w K mg base q5 2 f fd K5 (zY P w K):=by
 have GT:qB P w K mg base q5 1 fT fdT ["_law_source_here","_law_many"] Q9:=Jr hT.fn
 refine F.okJ vJ (λvs H Q E h=>?_) (λcdv A outer s H vs Q E hr h=>?_)
 . obtain⟨d,D,rs,f,n,s,t,rfl,_⟩:=h
   rfl
 . obtain⟨d,D,rs,f,n,s0,t,rfl,hd,lb,bd,good,pos,le14,q⟩:=h
   have hu:=jQ hr
   refine⟨_,qg (qz (i:=2) vJ.nd rfl (Or.inl rfl) (qO hT GT hr (by rfl) (qb (jv 0) (qb qf qd))))
     (qg (qz (i:=3) vJ.nd rfl (Or.inl rfl) (qO hT GT hr (by rfl) (qb (jv 0) (qb qf qd))))
     (qg (qz (i:=4) vJ.nd rfl (Or.inl rfl) Qc)
     (qg (jp PassesOwn.never rfl (Wn (jv 1)) (qv (i:=5) vJ.nd rfl (Or.inl rfl))
       (qg (jL hu (jv 4) (jv 5) (qC hu (jv 1) (jv 5) (λ_ _=>rfl)) rfl)
       (qh (qS (qt jo (qD qw (qC hu (jv 1) (jv 5) (λ_ _=>rfl)) qf (λ_ _=>rfl)) qx (qp _))
         (qg (qz (i:=6) vJ.nd rfl (Or.inl rfl) (qD Qh (qV (qb (qD qw (qC hu (jv 1) (jv 5) (λ_ _=>rfl)) qf (λ_ _=>rfl)) (qb (qH QG qf (qD qw (qC hu (jv 1) (jv 5) (λ_ _=>rfl)) qf (λ_ _=>rfl))) (qb (qH j5 (qD qw (qC hu (jv 1) (jv 5) (λ_ _=>rfl)) qf (λ_ _=>rfl)) (jv 3)) (qb (qH j5 (qH QG qf (qD qw (qC hu (jv 1) (jv 5) (λ_ _=>rfl)) qf (λ_ _=>rfl))) qf) qd))))) (jv 2) (λ_ _=>rfl)))
         (qh (jL hu (jv 4) (jv 5) (qH Qe (jG Qd (qC hu (jv 1) (jv 5) (λ_ _=>rfl)) jX (jW qf)) (qk (qb (qH j5 (jv 6) (qH QG (qO hT GT hr (by rfl) (qb (jv 0) (qb qf qd))) (jq zG (by rfl) B.int boot_int (qb (qW jo (qH QS (jv 2) qf) qf (qp _)) qd)))) qd))) rfl))) qF))))
     (qh (qA (jv 4)))))),?_⟩
   have ndN:=good.nd
   have lN:(rs.map (·.1)).length=rs.length:=tj ..
   refine⟨_,rfl,d,4,n,s0,t,rfl,hd,by decide,by decide,λway n1 t1 w0 w4=>?_⟩
   refine⟨_,rfl,d,1000,n1,s0,t1,rfl,qe,by decide,by decide,λmore n2 t2 m0 m1=>?_⟩
   have f2:Fr H d (upd (upd H d (.dK (src n1 s0 t1))) d (.dK (src n2 s0 t2))):=Fr.at_d (Fr.at_d Fr.refl)
   have hd2:upd (upd H d (.dK (src n1 s0 t1))) d (.dK (src n2 s0 t2)) d=some (.dK (src n2 s0 t2)):=qe
   have none2:∀{a:Addr},upd (upd H d (.dK (src n1 s0 t1))) d (.dK (src n2 s0 t2)) a=none->H a=none:=λ{a} h=>by
     have:a≠d:=λz=>by rw[z,qe]at h;cases h
     rw[qi this,qi this]at h
     exact h
   generalize upd (upd H d (.dK (src n1 s0 t1))) d (.dK (src n2 s0 t2))=H2 at f2 hd2 none2
   intro D' hD2
   have hD':H D'=none:=none2 hD2
   have nDd:D'≠d:=λz=>by rw[z,hd]at hD';cases hD'
   obtain⟨o,kvl,hDl,ekl,_⟩:=(lb.fr hd (f2.same (qj (o:=.dK []) hD2))).at_
   refine⟨_,rfl,D,o,kvl,rs.map (·.1),rfl,hDl,ekl,?_⟩
   refine Wt (zs:=rs.map (·.1)) (λj σ' G=>∃v5 v6 kv n' t',σ'=[some (.ref d),some (.ref D),some (.int way),some (.int more),some (.ref D'),v5,v6]/\Fr H d G/\G d=some (.dK (src n' s0 t'))/\G D=some (.frz o (.dK kvl))/\G D'=some (.dK kv)/\kv.map (·.1)=((rs.map (·.1)).take j).map Sum.inr/\∀p∈kv,FT G p.2)
     ⟨none,none,[],n2,t2,rfl,f2.same (qj hD2),ql hd2 hD2,hDl,qe,rfl,λp hp=>(nomatch hp)⟩ (λj σ' G _ ⟨_,_,_,_,_,_,_,_,e,_⟩=>e) ?_ ?_
   . rintro j z σ' G ez ⟨v5,v6,kv,n',t',rfl,fr,hdG,hDG,hkG,ek,ft⟩
     have hz:z∈rs.map (·.1):=tY ez
     have hj:=(tw.mp ez).1
     have lbG:=lb.fr hd fr
     obtain⟨p,gp,hp⟩:=lbG.get hz
     have lk:kv.length=j:=by
       have:=congrArg zax ek
       rw[tj,tj,tT]at this
       omega
     have new:qY kv (Sum.inr z:qI)=none:=QP (by rw[ek];exact Qw ndN ez)
     have tD:∀{b:Addr} {xs:List V},G b=some (.tup xs)->b≠D':=λhb e=>by rw[e,hkG]at hb;cases hb
     have etk:((rs.map (·.1)).take (j+1)).map (Sum.inr:Str->qI)=((rs.map (·.1)).take j).map Sum.inr++[Sum.inr z]:=by rw[tQ,ez,tL];rfl
     have ek1:(jm kv (Sum.inr z) (.ref p)).map (·.1)=((rs.map (·.1)).take (j+1)).map Sum.inr:=by rw[QC _ new,tL,ek,etk];rfl
     refine⟨_,rfl,_,rfl,D,_,rfl,gp,_,rfl,_,rfl,D',_,rfl,QE.k (k:=(Sum.inr z:qI)) hkG (qm (by omega)),?_⟩
     have f1':Fr G D' (upd G D' (.dK (jm kv (Sum.inr z) (.ref p)))):=Fr.at_d Fr.refl
     have fr1:Fr H d (upd G D' (.dK (jm kv (Sum.inr z) (.ref p)))):=λb u hb hn=>by rw[qi (qE hb hD')];exact fr b u hb hn
     have hd1:upd G D' (.dK (jm kv (Sum.inr z) (.ref p))) d=some (.dK (src n' s0 t')):=by rw[qi (Ne.symm nDd)];exact hdG
     have lb1:=lbG.fr hkG f1'
     have hD1:upd G D' (.dK (jm kv (Sum.inr z) (.ref p))) D=some (.frz o (.dK kvl)):=f1' _ _ hDG (λe=>by rw[e,hkG]at hDG;cases hDG)
     have hk1:upd G D' (.dK (jm kv (Sum.inr z) (.ref p))) D'=some (.dK (jm kv (Sum.inr z) (.ref p))):=qe
     have ft1:∀q∈jm kv (Sum.inr z) (.ref p),FT (upd G D' (.dK (jm kv (Sum.inr z) (.ref p)))) q.2:=λq hq=>by
       have k:∀a xs,G a=some (.tup xs)->upd G D' (.dK (jm kv (Sum.inr z) (.ref p))) a=some (.tup xs):=λa xs h=>by rw[qi (tD h)];exact h
       rcases Yb hq with h | h
       . exact(ft q h).keep k
       . rw[h];exact(wu hp (bd z hz)).keep k
     generalize upd G D' (.dK (jm kv (Sum.inr z) (.ref p)))=G1 at fr1 hd1 lb1 hD1 hk1 ft1
     generalize jm kv (Sum.inr z) (.ref p)=kv1 at ek1 hk1 ft1
     obtain⟨p1,gp1,hp1⟩:=lb1.get hz
     cases ef:f z with
     | end_ b=>
       rw[ef]at hp1
       exact⟨_,rfl,_,rfl,D,_,rfl,gp1,p1,_,0,_,rfl,rfl,.of hp1,rfl,rfl,_,rfl,qL (by decide+kernel) ⟨_,_,kv1,n',t',rfl,fr1,hd1,hD1,hk1,ek1,ft1⟩⟩
     | num nn ss=>
       have bz:=bd z hz
       rw[ef]at hp1 bz
       obtain⟨b1,b2⟩:=bz
       have hp1:G1 p1=some (.tup [.str (Str.ofString "number"),.int (nn:Nat),.int (ss:Nat)]):=hp1
       refine⟨_,rfl,_,rfl,D,_,rfl,gp1,p1,_,0,_,rfl,rfl,.of hp1,rfl,rfl,_,rfl,qR (by decide+kernel) ?_⟩
       refine⟨_,rfl,_,rfl,D,_,rfl,gp1,p1,_,2,_,rfl,rfl,.of hp1,rfl,_,rfl,_,rfl,D,_,rfl,gp1,p1,_,2,_,rfl,rfl,.of hp1,rfl,2,(ss:Int),rfl,rfl,.inl ⟨by decide,by decide⟩,?_⟩
       refine⟨_,rfl,_,rfl,D,_,rfl,gp1,p1,_,2,_,rfl,rfl,.of hp1,rfl,_,rfl,(ss:Int),more,rfl,rfl,_,rfl,_,rfl,D,_,rfl,gp1,p1,_,2,_,rfl,rfl,.of hp1,rfl,7,(ss:Int),rfl,rfl,.inl ⟨by decide,by decide⟩,_,3,rfl,rfl,by show 4<=sizeLine;decide,λls hls=>?_⟩
       obtain⟨st,est⟩:∃st:Int,Uj [V.int (ss:Nat),.int (2*(ss:Nat)),.int ((ss:Nat)+more),.int (7*(ss:Nat)+3)] way=some (.int st):=by
         have:way=0\/way=1\/way=2\/way=3:=by omega
         rcases this with rfl | rfl | rfl | rfl
         . exact⟨_,rfl⟩
         . exact⟨_,rfl⟩
         . exact⟨_,rfl⟩
         . exact⟨_,rfl⟩
       refine⟨_,rfl,ls,_,way,_,rfl,rfl,.of qe,est,?_⟩
       have s3:qr G1 (upd G1 ls (.lst [V.int (ss:Nat),.int (2*(ss:Nat)),.int ((ss:Nat)+more),.int (7*(ss:Nat)+3)])):=qj hls
       have fr3:Fr H d (upd G1 ls (.lst [V.int (ss:Nat),.int (2*(ss:Nat)),.int ((ss:Nat)+more),.int (7*(ss:Nat)+3)])):=fr1.same s3
       generalize upd G1 ls (.lst [V.int (ss:Nat),.int (2*(ss:Nat)),.int ((ss:Nat)+more),.int (7*(ss:Nat)+3)])=G3 at s3 fr3
       obtain⟨p3,gp3,hp3⟩:=(lb1.mono s3).get hz
       rw[ef]at hp3
       have hp3:G3 p3=some (.tup [.str (Str.ofString "number"),.int (nn:Nat),.int (ss:Nat)]):=hp3
       refine⟨_,rfl,_,rfl,D,_,rfl,gp3,2,rfl,.inl ⟨p3,_,rfl,.of hp3,(by decide:¬(HT.sIx 3 0 none=0/\HT.sIx 3 3 (some 2)=3)),λps hps=>?_⟩⟩
       have s4:qr G3 (upd G3 ps (.tup [.str (Str.ofString "number"),.int (nn:Nat)])):=qj hps
       have e4:upd G3 ps (.tup [.str (Str.ofString "number"),.int (nn:Nat)]) ps=some (.tup [.str (Str.ofString "number"),.int (nn:Nat)]):=qe
       show JN _ _ (upd G3 ps (.tup [.str (Str.ofString "number"),.int (nn:Nat)])) _
       have hd4:=s4 _ _ (s3 _ _ hd1)
       have fr4:=fr3.same s4
       generalize upd G3 ps (.tup [.str (Str.ofString "number"),.int (nn:Nat)])=G4 at s4 e4 hd4 fr4
       refine⟨_,rfl,_,rfl,d,2,n',s0,t',rfl,hd4,by decide,by decide,λr n5 t5 r0 r1=>?_⟩
       have np:ps≠d:=λz=>by rw[z,hd4]at e4;cases e4
       have e5:upd G4 d (.dK (src n5 s0 t5)) ps=some (.tup [.str (Str.ofString "number"),.int (nn:Nat)]):=by rw[qi np];exact e4
       have fr5:Fr H d (upd G4 d (.dK (src n5 s0 t5))):=Fr.at_d fr4
       have hd5:upd G4 d (.dK (src n5 s0 t5)) d=some (.dK (src n5 s0 t5)):=qe
       have hD5:upd G4 d (.dK (src n5 s0 t5)) D=some (.frz o (.dK kvl)):=by
         rw[qi (λe=>by rw[e,hd1]at hD1;cases hD1)]
         exact s4 _ _ (s3 _ _ hD1)
       have hk5:upd G4 d (.dK (src n5 s0 t5)) D'=some (.dK kv1):=by rw[qi nDd];exact s4 _ _ (s3 _ _ hk1)
       have ft5:∀q∈kv1,FT (upd G4 d (.dK (src n5 s0 t5))) q.2:=λq hq=>(ft1 q hq).keep λa xs h=>by
         rw[qi (λe=>by rw[e,hd1]at h;cases h)]
         exact s4 _ _ (s3 _ _ h)
       generalize upd G4 d (.dK (src n5 s0 t5))=G5 at e5 fr5 hd5 hD5 hk5 ft5
       refine⟨_,rfl,way,2,rfl,rfl,(by decide:(0:Int) < 2),rfl,.inr ⟨_,rfl,r,_,rfl,rfl,.inl ⟨by omega,by omega⟩,st,_,rfl,rfl,by show 1<=sizeLine;decide,λpt hpt=>?_⟩⟩
       refine⟨ps,pt,_,_,rfl,rfl,ql e5 hpt,qe,by show 2+1<=sizeLine;decide,λrr G7 s7 hr7=>?_⟩
       have s57:=(qj hpt).trans s7
       have hk7:=s57 _ _ hk5
       refine⟨_,rfl,_,rfl,D',_,rfl,QE.k (k:=(Sum.inr z:qI)) hk7 (qm (by
         have:=congrArg zax ek1
         rw[tj,tj,tT]at this
         omega)),?_⟩
       have tD7:∀{b:Addr} {xs:List V},G7 b=some (.tup xs)->b≠D':=λhb e=>by rw[e,hk7]at hb;cases hb
       refine⟨_,_,jm kv1 (Sum.inr z) (.ref rr),n5,t5,rfl,λb u hb hn=>?_,?_,?_,qe,?_,λq hq=>?_⟩
       . rw[qi (qE hb hD')];exact s57 _ _ (fr5 b u hb hn)
       . rw[qi (Ne.symm nDd)];exact s57 _ _ hd5
       . rw[qi (λe=>by rw[e,hk5]at hD5;cases hD5)];exact s57 _ _ hD5
       . rw[YD,ek1]
         rw[ek1,etk]
         exact zak _ tS
       . have k:∀a xs,G7 a=some (.tup xs)->upd G7 D' (.dK (jm kv1 (Sum.inr z) (.ref rr))) a=some (.tup xs):=λa xs h=>by rw[qi (tD7 h)];exact h
         rcases Yb hq with h | h
         . exact((ft5 q h).keep λa xs h=>s57 _ _ h).keep k
         . rw[h]
           exact⟨rr,_,rfl,k _ _ hr7,.inl ⟨nn,_,rfl,b1⟩⟩
   . rintro σ' G ⟨v5,v6,kv,n',t',rfl,fr,hdG,hDG,hkG,ek,ft⟩
     rw[tF (tu _)]at ek
     obtain⟨kn,kl,ky⟩:=Zh good ek
     exact⟨_,rfl,q D' n' t' G hD' (.dk hkG kn (by omega) ky λp hp=>(ft p hp).tg) hdG fr⟩
end
open PySem L2 PyProof.Rows MLab
theorem zX {K:PySem.W.Frag} {H:Hp} {D:Addr} {kv:List (qI×V)} {o:HO} {v:V} (h:jY K H v) (hD:H D=some (.dK kv)) (ne:kv≠[]):jY K (upd H D o) v:=h.keep λa u hu r=>by
 have na:a≠D:=λz=>by
   rw[z]at r
   rcases r with c | ⟨ob,c⟩<;>rw[hD]at c<;>cases c
   rcases hu with ⟨_,z⟩ | ⟨_,z⟩ | z<;>cases z
   exact ne rfl
 exact r.elim (λc=>.inl (by rw[qi na];exact c)) λ⟨ob,c⟩=>.inr ⟨ob,by rw[qi na];exact c⟩
theorem y2 {P:Program} {w:World} {K:PySem.W.Frag} {H:Hp} {D:Addr} {kv:List (qI×V)} {rs:jz} {k:qI} (hD:H D=some (.dK kv)) (ne:kv≠[]) (hn:(kv.map (·.1)).Nodup) (le:kv.length<=20) (ky:∀p∈kv,wS p.1) (tg:∀p∈kv,jY K H p.2):WB P w K (upd H D (.dK (QV kv k))) rs D:=
 .dk qe (YL hn) (tV (Vj _ _) le) (λp hp=>ky p (zF hp)) λp hp=>zX (tg p (zF hp)) hD ne
theorem YC {P:Program} {w:World} {K:PySem.W.Frag} {H:Hp} {D:Addr} {kv:List (qI×V)} {rs:jz} {k:qI} {v:V} (hD:H D=some (.dK kv)) (ne:kv≠[]) (hn:(kv.map (·.1)).Nodup) (le:kv.length<=14) (ky:∀p∈kv,wS p.1) (kk:wS k) (tg:∀p∈kv,jY K H p.2) (tv:jY K H v):WB P w K (upd H D (.dK (jm kv k v))) rs D:=by
 refine .dk qe ?_ (tV (QD _ _ _) (by omega)) (λp hp=>?_) λp hp=>zX ?_ hD ne
 . cases e:qY kv k with
   | none=>exact UZ v hn e
   | some u=>rw[YD (ZN e)];exact hn
 . unfold jm at hp
   split at hp
   . obtain⟨a,ha,e⟩:=tE.mp hp
     split at e
     . rw[<-e];exact ky a ha
     . rw[<-e];exact ky a ha
   . rcases tZ.mp hp with h | h
     . exact ky p h
     . have:p=(k,v):=by simpa using h
       rw[this];exact kk
 . rcases Yb hp with h | h
   . exact tg p h
   . rw[h];exact tv
theorem xz {P:Program} {w:World} {K:PySem.W.Frag} {H:Hp} {D:Addr} {kv:List (qI×V)} {rs:jz} {v:V} (hD:H D=some (.dK kv)) (ne:kv≠[]) (hn:(kv.map (·.1)).Nodup) (l:kv.length=rs.length) (le:rs.length<=14) (ky:∀p∈kv,wS p.1) (tg:∀p∈kv,jY K H p.2) (tv:jY K H v):WB P w K (upd H D (QZ P w D (L2.toN kv++[(none,v)]))) rs D:=by
 have lt:(L2.toN kv++[(none,v)]).length=kv.length+1:=by rw[tX];unfold L2.toN;rw[tj];rfl
 have ms:∀p∈L2.toN kv++[(none,v)],(∃q∈kv,p.1=some q.1/\p.2=q.2)\/(p.1=none/\p.2=v):=λp hp=>by
   rcases tZ.mp hp with h | h
   . obtain⟨q,hq,rfl⟩:=tE.mp h
     exact .inl ⟨q,hq,rfl,rfl⟩
   . have:p=(none,v):=by simpa using h
     rw[this];exact .inr ⟨rfl,rfl⟩
 refine .non qe ?_ (by rw[lt];omega) (by rw[lt];omega) (λp hp=>?_) λp hp=>zX ?_ hD ne
 . rw[tL,zct]
   refine⟨?_,by simp,λa ha b hb e=>?_⟩
   . unfold L2.toN
     rw[zaB,show ((λp:QA×V=>p.1) ∘ λp:qI×V=>((some p.1:QA),p.2))=some ∘ (λp=>p.1) from rfl,<-zaB]
     exact zbX.map _ (λa b z e=>z (tK.inj e)) hn
   . obtain⟨x,hx,rfl⟩:=tE.mp ha
     obtain⟨q,hq,rfl⟩:=tE.mp hx
     have eb:b=none:=by simpa using hb
     rw[eb]at e
     cases e
 . rcases ms p hp with ⟨q,hq,e,_⟩ | ⟨e,_⟩
   . exact .inr ⟨q.1,e,ky q hq⟩
   . exact .inl e
 . rcases ms p hp with ⟨q,hq,_,e⟩ | ⟨_,e⟩
   . rw[e];exact tg q hq
   . rw[e];exact tv
theorem WH {kvs:List (qI×V)} (hn:(kvs.map (·.1)).Nodup) {p:qI×V} (hp:p∈kvs):qY kvs p.1=some p.2:=by
 induction kvs with
 | nil=>cases hp
 | cons a kvs ih=>
   rw[tP,zaf]at hn
   rcases tR.mp hp with rfl | hp
   . exact jh rfl
   . rw[ji (λe=>hn.1 (e▸tE.mpr ⟨p,hp,rfl⟩))]
     exact ih hn.2 hp
section
variable {P:Program} {w:World} {K:PySem.W.Frag} {mg:Str->Option Value} {base:Heap}
abbrev nSo:List Str:=["_law_source_here","_law_labels_here","_law_found","_law_names_here","_law_k","_law_name","_law_way"]
theorem vK:qG nSo K5 (qo ZU):=⟨rfl,rfl,rfl,by decide+kernel,rfl,by decide+kernel,by decide+kernel⟩
theorem vW {f fT fO:Addr} {fd fdT fdO:FuncData} (F:Qn K "_law_spoilt" "_law_spoilt" ZU f fd) (B:JH mg) (G:Je mg) (T:ZJ K mg) (hT:jr K mg "_law_take" Zr ["_law_source_here","_law_many"] fT fdT) (hO:jr K mg "_law_other" ZW N6 fO fdO):qB P w K mg base q5 3 f fd K5 (zY P w K):=by
 have GT:qB P w K mg base q5 1 fT fdT ["_law_source_here","_law_many"] Q9:=Jr hT.fn
 have GO:qB P w K mg base q5 2 fO fdO N6 (KP K):=xm hO.fn B G hT
 refine F.okJ vK (λvs H Q E h=>?_) (λcdv A outer s H vs Q E hr h=>?_)
 . obtain⟨d,D,rs,f,n,s,t,rfl,_⟩:=h
   rfl
 . obtain⟨d,D,rs,f,n,s0,t,rfl,hd,lb,bd,good,pos,le14,q⟩:=h
   have hu:=jQ hr
   have r1:jE 1 _:=hr.mono (by decide)
   refine⟨_,qg (qz (i:=2) vK.nd rfl (Or.inl rfl) (jq ZH (by rfl) T.dict boot_dict (qb (jv 1) qd)))
     (qg (qz (i:=3) vK.nd rfl (Or.inl rfl) (qy (ZF rfl) (by rfl) G.srt boot_sorted (qb (jv 1) qd)))
     (qg (jp PassesOwn.never rfl (jK (by rfl) B.rng (qb (qH j5 qf (qO hT GT r1 (by rfl) (qb (jv 0) (qb qf qd)))) qd)) (qv (i:=4) vK.nd rfl (Or.inl rfl))
       (qg (qz (i:=5) vK.nd rfl (Or.inl rfl) (qD Qh (jv 3) (qO hT GT r1 (by rfl) (qb (jv 0) (qb (qy qU (by rfl) B.len boot_len (qb (jv 3) qd)) qd))) (λ_ _=>rfl)))
       (qh (jL hu (jv 2) (jv 5) (qO hO GO hr (by rfl) (qb (jv 0) (qb (qC hu (jv 1) (jv 5) (λ_ _=>rfl)) qd))) rfl))))
     (qg (qz (i:=6) vK.nd rfl (Or.inl rfl) (qO hT GT r1 (by rfl) (qb (jv 0) (qb qf qd))))
     (Z5 (qS (qt jo (jv 6) qf (qp _)) (qh (jO (x9 (jv 2) (qD Qh (jv 3) (qO hT GT r1 (by rfl) (qb (jv 0) (qb (qy qU (by rfl) B.len boot_len (qb (jv 3) qd)) qd))) (λ_ _=>rfl)) ⟨rfl,rfl,rfl,rfl⟩))) qF)
     (qg (qS (qt jo (jv 6) qf (qp _)) (qh (xZ hr.units (jv 2) (qD Qh (qV (qb qx (qb qx (qb qf (qb YU qd))))) (qO hT GT r1 (by rfl) (qb (jv 0) (qb qf qd))) (λ_ _=>rfl)) (qk (qb qx (qb qf (qb qf qd)))) rfl)) qF)
     (qh (qA (jv 2)))))))),?_⟩
   have ndN:=good.nd
   have lN:(rs.map (·.1)).length=rs.length:=tj ..
   obtain⟨o,kvl,hDl,ekl,tpl⟩:=lb.at_
   refine⟨_,rfl,D,kvl,rfl,.inr ⟨o,hDl⟩,λD' hD'=>?_⟩
   have nDd:D'≠d:=λz=>by rw[z,hd]at hD';cases hD'
   refine⟨_,rfl,D,kvl,rs.map (·.1),rfl,.inr ⟨o,ql hDl hD'⟩,ekl,by omega,λln ys hln pm srt=>?_⟩
   have s1:qr H (upd (upd H D' (.dK kvl)) ln (.lst (ys.map V.str))):=(qj hD').trans (qj hln)
   have hk1:upd (upd H D' (.dK kvl)) ln (.lst (ys.map V.str)) D'=some (.dK kvl):=ql qe hln
   have hn1:upd (upd H D' (.dK kvl)) ln (.lst (ys.map V.str)) ln=some (.lst (ys.map V.str)):=qe
   generalize upd (upd H D' (.dK kvl)) ln (.lst (ys.map V.str))=H1 at s1 hk1 hn1
   have ly:(ys.map V.str).length=rs.length:=by rw[tj,pm.length_eq,lN]
   have hd1:=s1 _ _ hd
   have nld:ln≠d:=λz=>by rw[z,hd1]at hn1;cases hn1
   refine⟨_,rfl,d,3,n,s0,t,rfl,hd1,by decide,by decide,λr0 n1 t1 r00 r03=>?_⟩
   obtain⟨m,rfl⟩:=zcA r00
   refine⟨_,_,rfl,rfl,1+m,by rfl,by omega,by omega,?_⟩
   obtain⟨kn0,kl0,ky0⟩:=Zh good ekl
   have ft0:∀p∈kvl,jY K (upd H1 d (.dK (src n1 s0 t1))) p.2:=λp hp=>by
     have hm:p.1∈kvl.map (·.1):=tE.mpr ⟨p,hp,rfl⟩
     rw[ekl]at hm
     obtain⟨z,hz,e1⟩:=tE.mp hm
     obtain⟨q',e2,hq⟩:=tpl z hz
     have e3:=WH kn0 hp
     rw[<-e1,e2]at e3
     rw[<-tK.inj e3]
     exact(wu ((qi (λe=>by rw[e,hd]at hq;cases hq)).trans (s1 _ _ hq)) (bd z hz)).tg
   refine Ql (lo:=0) (n:=1+m) (λi σ G=>∃v4 v5 kv n' t',σ=[some (.ref d),some (.ref D),some (.ref D'),some (.ref ln),v4,v5,none]/\Fr H d G/\G d=some (.dK (src n' s0 t'))/\G ln=some (.lst (ys.map V.str))/\G D'=some (.dK kv)/\kv.map (·.1)=(rs.map (·.1)).map Sum.inr/\∀p∈kv,jY K G p.2)
     ⟨none,none,kvl,n1,t1,rfl,Fr.at_d (Fr.refl.same s1),qe,(qi nld).trans hn1,(qi nDd).trans hk1,ekl,ft0⟩ ?_ ?_
   . rintro i σ G hi ⟨v4,v5,kv,n',t',rfl,fr,hdG,hlG,hkG,ek,tg⟩
     refine⟨_,rfl,_,rfl,_,rfl,ln,_,rfl,.inl (.of hlG),d,_,n',s0,t',rfl,hdG,by omega,by omega,λr n2 t2 ra rb=>?_⟩
     obtain⟨x,hx,e⟩:=vp (xs:=ys.map V.str) ra rb
     obtain⟨z,hz,rfl⟩:=tE.mp hx
     have hz:=pm.mem_iff.mp hz
     have f2:Fr G d (upd G d (.dK (src n2 s0 t2))):=Fr.at_d Fr.refl
     have hl2:upd G d (.dK (src n2 s0 t2)) ln=some (.lst (ys.map V.str)):=(qi nld).trans hlG
     have fr2:Fr H d (upd G d (.dK (src n2 s0 t2))):=Fr.at_d fr
     have hd2:upd G d (.dK (src n2 s0 t2)) d=some (.dK (src n2 s0 t2)):=qe
     have hk2:upd G d (.dK (src n2 s0 t2)) D'=some (.dK kv):=(qi nDd).trans hkG
     refine⟨ln,_,r,_,rfl,rfl,.of hl2,e,?_⟩
     obtain⟨p,gp,hp⟩:=(lb.fr hd fr2).get hz
     refine⟨_,rfl,_,rfl,_,rfl,D,_,rfl,gp,d,p,f z,n2,s0,t2,rfl,hd2,hp,bd z hz,λv n3 t3 G3 tv hd3 f3=>?_⟩
     have f03:=f2.trans f3
     have hk3:=f3 _ _ hk2 nDd
     have hl3:=f3 _ _ hl2 nld
     have tg3:∀p∈kv,jY K G3 p.2:=λp hp=>qZ _ _ _ ⟨n',t',hdG⟩ f03 (tg p hp)
     obtain⟨kn,kl,ky⟩:=Zh good ek
     have ne:kv≠[]:=λz=>by rw[z]at kl;exact absurd kl (by simpa using (tM pos))
     have mem:(Sum.inr z:qI)∈kv.map (·.1):=by rw[ek];exact tE.mpr ⟨z,hz,rfl⟩
     refine⟨_,rfl,_,rfl,D',_,rfl,QE.k (k:=(Sum.inr z:qI)) hk3 (qm (by omega)),?_⟩
     refine⟨_,_,jm kv (Sum.inr z) v,n3,t3,rfl,λb u hb hn=>?_,?_,?_,qe,by rw[YD mem,ek],λp hp=>zX ?_ hk3 ne⟩
     . rw[qi (qE hb hD')];exact f3 _ _ (fr2 b u hb hn) hn
     . rw[qi (Ne.symm nDd)];exact hd3
     . rw[qi (λe=>by rw[e,hk3]at hl3;cases hl3)];exact hl3
     . rcases Yb hp with h | h
       . exact tg3 p h
       . rw[h];exact tv
   . rintro σ G ⟨v4,v5,kv,n',t',rfl,fr,hdG,hlG,hkG,ek,tg⟩
     obtain⟨kn,kl,ky⟩:=Zh good ek
     have ne:kv≠[]:=λz=>by rw[z]at kl;exact absurd kl (by simpa using (tM pos))
     have put:∀{G3:Hp} {o:HO},Fr H d G3->Fr H d (upd G3 D' o):=λf b u hb hn=>by rw[qi (qE hb hD')];exact f b u hb hn
     refine⟨_,rfl,d,8,n',s0,t',rfl,hdG,by decide,by decide,λway n2 t2 w0 w8=>?_⟩
     have f2:Fr G d (upd G d (.dK (src n2 s0 t2))):=Fr.at_d Fr.refl
     have hl2:upd G d (.dK (src n2 s0 t2)) ln=some (.lst (ys.map V.str)):=(qi nld).trans hlG
     have fr2:Fr H d (upd G d (.dK (src n2 s0 t2))):=Fr.at_d fr
     have hd2:upd G d (.dK (src n2 s0 t2)) d=some (.dK (src n2 s0 t2)):=qe
     have hk2:upd G d (.dK (src n2 s0 t2)) D'=some (.dK kv):=(qi nDd).trans hkG
     have tg2:∀p∈kv,jY K (upd G d (.dK (src n2 s0 t2))) p.2:=λp hp=>qZ _ _ _ ⟨n',t',hdG⟩ f2 (tg p hp)
     generalize upd G d (.dK (src n2 s0 t2))=G2 at hl2 fr2 hd2 hk2 tg2
     refine⟨λσ' G'=>∃n3 t3,σ'=[some (.ref d),some (.ref D),some (.ref D'),some (.ref ln),v4,v5,some (.int way)]/\Fr H d G'/\G' d=some (.dK (src n3 s0 t3))/\((way=0/\WB P w K G' rs D')\/(way≠0/\G' D'=some (.dK kv)/\∀p∈kv,jY K G' p.2)),?_,?_⟩
     . refine⟨_,rfl,rfl,_,rfl,?_⟩
       by_cases h0:way=0
       . refine qR (by rw[h0];decide) ?_
         refine⟨_,rfl,D',rfl,.inl ⟨_,.inl hk2⟩,?_⟩
         refine⟨_,rfl,_,rfl,_,rfl,ln,_,rfl,.inl (.of hl2),d,_,n2,s0,t2,rfl,hd2,by omega,by omega,λr n3 t3 ra rb=>?_⟩
         obtain⟨x,hx,e⟩:=vp (xs:=ys.map V.str) ra rb
         obtain⟨z,hz,rfl⟩:=tE.mp hx
         have hz:=pm.mem_iff.mp hz
         have f3:Fr G2 d (upd G2 d (.dK (src n3 s0 t3))):=Fr.at_d Fr.refl
         have hk3:upd G2 d (.dK (src n3 s0 t3)) D'=some (.dK kv):=(qi nDd).trans hk2
         have mem:(Sum.inr z:qI)∈kv.map (·.1):=by rw[ek];exact tE.mpr ⟨z,hz,rfl⟩
         obtain⟨pp,hpp,epp⟩:=tE.mp mem
         have ev:=WH kn hpp
         rw[epp]at ev
         refine⟨ln,_,r,_,rfl,rfl,.of ((qi nld).trans hl2),e,kv,(Sum.inr z:qI),_,hk3,rfl,ev,?_⟩
         exact⟨n3,t3,rfl,put (Fr.at_d fr2),(qi (Ne.symm nDd)).trans qe,.inl ⟨h0,y2 hk3 ne kn (by omega) ky λp hp=>qZ _ _ _ ⟨n2,t2,hd2⟩ f3 (tg2 p hp)⟩⟩
       . exact qL (decide_eq_false λz=>h0 (V.int.inj z)) ⟨n2,t2,rfl,fr2,hd2,.inr ⟨h0,hk2,tg2⟩⟩
     . rintro σ' G3 ⟨n3,t3,rfl,fr3,hd3,alt⟩
       refine⟨_,rfl,rfl,_,rfl,?_⟩
       by_cases h1:way=1
       . refine qR (by rw[h1];decide) ?_
         rcases alt with ⟨h0,_⟩ | ⟨_,hk3,tg3⟩
         . omega
         refine⟨by show 3<=sizeLine;decide,λtp htp=>⟨_,rfl,by show 4<=sizeLine;decide,λls hls=>?_⟩⟩
         have s4:qr G3 (upd (upd G3 tp (.tup [.str (Str.ofString "number"),.int 0,.int 0])) ls (.lst [.str (Str.ofString "A"),.str (Str.ofString "x9"),.int 5,.non])):=(qj htp).trans (qj hls)
         have e4:upd (upd G3 tp (.tup [.str (Str.ofString "number"),.int 0,.int 0])) ls (.lst [.str (Str.ofString "A"),.str (Str.ofString "x9"),.int 5,.non]) tp=some (.tup [.str (Str.ofString "number"),.int 0,.int 0]):=ql qe hls
         have l4:upd (upd G3 tp (.tup [.str (Str.ofString "number"),.int 0,.int 0])) ls (.lst [.str (Str.ofString "A"),.str (Str.ofString "x9"),.int 5,.non]) ls=some (.lst [.str (Str.ofString "A"),.str (Str.ofString "x9"),.int 5,.non]):=qe
         generalize upd (upd G3 tp (.tup [.str (Str.ofString "number"),.int 0,.int 0])) ls (.lst [.str (Str.ofString "A"),.str (Str.ofString "x9"),.int 5,.non])=G4 at s4 e4 l4
         have hd4:=s4 _ _ hd3
         refine⟨_,rfl,d,4,n3,s0,t3,rfl,hd4,by decide,by decide,λr n5 t5 ra rb=>?_⟩
         have ntd:tp≠d:=λz=>by rw[z,hd4]at e4;cases e4
         have nsd:ls≠d:=λz=>by rw[z,hd4]at l4;cases l4
         have f5:Fr G4 d (upd G4 d (.dK (src n5 s0 t5))):=Fr.at_d Fr.refl
         have l5:upd G4 d (.dK (src n5 s0 t5)) ls=_:=(qi nsd).trans l4
         have e5:upd G4 d (.dK (src n5 s0 t5)) tp=_:=(qi ntd).trans e4
         have k5:upd G4 d (.dK (src n5 s0 t5)) D'=some (.dK kv):=(qi nDd).trans (s4 _ _ hk3)
         have d5:upd G4 d (.dK (src n5 s0 t5)) d=some (.dK (src n5 s0 t5)):=qe
         have fr5:Fr H d (upd G4 d (.dK (src n5 s0 t5))):=Fr.at_d (fr3.same s4)
         have tg5:∀p∈kv,jY K (upd G4 d (.dK (src n5 s0 t5))) p.2:=λp hp=>qZ _ _ _ ⟨n3,t3,hd4⟩ f5 ((tg3 p hp).mono s4)
         generalize upd G4 d (.dK (src n5 s0 t5))=G5 at l5 e5 k5 d5 fr5 tg5
         have tv:jY K G5 (.ref tp):=FT.tg ⟨tp,_,rfl,e5,.inl ⟨0,0,rfl,by decide⟩⟩
         have fin:∀{o:HO},WB P w K (upd G5 D' o) rs D'->Q (.ref D') (upd G5 D' o):=λ{o} td=>q D' n5 t5 _ hD' td ((qi (Ne.symm nDd)).trans d5) (put fr5)
         have sm:kv.length<=1000:=by omega
         have c4:r=0\/r=1\/r=2\/r=3:=by omega
         rcases c4 with rfl | rfl | rfl | rfl
         . exact⟨ls,_,0,_,rfl,rfl,.of l5,rfl,D',rfl,.inl ⟨_,QE.k (k:=(Sum.inr (Str.ofString "A"):qI)) k5 (qm sm),_,rfl,fin (YC k5 ne kn (by omega) ky (.inl ⟨_,rfl,by decide+kernel⟩) tg5 tv)⟩⟩
         . exact⟨ls,_,1,_,rfl,rfl,.of l5,rfl,D',rfl,.inl ⟨_,QE.k (k:=(Sum.inr (Str.ofString "x9"):qI)) k5 (qm sm),_,rfl,fin (YC k5 ne kn (by omega) ky (.inl ⟨_,rfl,by decide+kernel⟩) tg5 tv)⟩⟩
         . exact⟨ls,_,2,_,rfl,rfl,.of l5,rfl,D',rfl,.inl ⟨_,QE.k (k:=(Sum.inl 5:qI)) k5 (qm sm),_,rfl,fin (YC k5 ne kn (by omega) ky (.inr rfl) tg5 tv)⟩⟩
         . exact⟨ls,_,3,_,rfl,rfl,.of l5,rfl,D',rfl,.inr ⟨kv,k5,rfl,qm sm,_,rfl,fin (xz k5 ne kn kl le14 ky tg5 tv)⟩⟩
       . refine qL (decide_eq_false λz=>h1 (V.int.inj z)) ?_
         rcases alt with ⟨_,td⟩ | ⟨_,hk3,tg3⟩
         . exact⟨_,rfl,q D' n3 t3 G3 hD' td hd3 fr3⟩
         . exact⟨_,rfl,q D' n3 t3 G3 hD' (.dk hk3 kn (by omega) ky tg3) hd3 fr3⟩
end
open PySem L2 PyProof.Rows MLab
def AX (te:TE) (σ:L2.St) (H:Hp) (Pr:Hp->V->Prop):Prop:=∀H1,qr H H1->∀Q:VK,(∀v H2,qr H1 H2->Pr H2 v->Q v H2)->te σ H1 Q
def AN (ts:TA) (σ:L2.St) (xs:List V):Prop:=∀H1 (Q:List V->Hp->Prop),Q xs H1->ts σ H1 Q
def RdM (xs:List Str) (H:Hp) (v:V):Prop:=∃t,v=.ref t/\H t=some (.tup (xs.map V.str))
def Y9 (r:Str×List Str) (H:Hp) (v:V):Prop:=∃p t,v=.ref p/\H p=some (.tup [.str r.1,.ref t])/\H t=some (.tup (r.2.map V.str))
theorem Y9.mono {r:Str×List Str} {H H':Hp} {v:V} (h:Y9 r H v) (s:qr H H'):Y9 r H' v:=let ⟨p,t,e,a,b⟩:=h;⟨p,t,e,s _ _ a,s _ _ b⟩
def ND (l:Lb) (H:Hp) (v:V):Prop:=∃p,v=.ref p/\H p=some (.tup (Vd l))
def Gm (H:Hp) (kv:qI×V) (zl:Str×Lb):Prop:=kv.1=Sum.inr zl.1/\∃p,kv.2=.ref p/\H p=some (.tup (Vd zl.2))
def DiM (zl:List (Str×Lb)) (H:Hp) (v:V):Prop:=∃D kvs,v=.ref D/\H D=some (.dK kvs)/\Paired (Gm H) kvs zl
theorem Gm.mono {H H':Hp} {kv:qI×V} {zl:Str×Lb} (h:Gm H kv zl) (k:∀a xs,H a=some (.tup xs)->H' a=some (.tup xs)):Gm H' kv zl:=let ⟨e,p,a,b⟩:=h;⟨e,p,a,k _ _ b⟩
abbrev Cs:=jz×List (Str×Lb)
def Vu (bad:Addr->Prop) (c:Cs) (H:Hp) (v:V):Prop:=∃p L D ps kvs,v=.ref p/\H p=some (.tup [.ref L,.ref D])/\¬bad L/\H L=some (.lst (ps.map V.ref))/\jS H ps c.1/\H D=some (.dK kvs)/\Paired (Gm H) kvs c.2
theorem Vu.mono {bad:Addr->Prop} {c:Cs} {H H':Hp} {v:V} (h:Vu bad c H v) (s:qr H H'):Vu bad c H' v:=let ⟨p,L,D,ps,kvs,e,a,b,q,r,t,u⟩:=h;⟨p,L,D,ps,kvs,e,s _ _ a,b,s _ _ q,r.mono s,s _ _ t,Paired.mapP u λ_ _ z=>z.mono λ_ _ h=>s _ _ h⟩
theorem Vu.fr {bad:Addr->Prop} {c:Cs} {H H':Hp} {v:V} {l:Addr} {xs:List V} (h:Vu bad c H v) (hl:H l=some (.lst xs)) (b:bad l) (f:Fr H l H'):Vu bad c H' v:=by
 obtain⟨p,L,D,ps,kvs,e,a,nb,q,r,t,u⟩:=h
 have kt:∀{a:Addr} {xs:List V},H a=some (.tup xs)->H' a=some (.tup xs):=λ{a xs} h=>f _ _ h (λz=>by rw[z,hl]at h;cases h)
 exact⟨p,L,D,ps,kvs,e,kt a,nb,f _ _ q (λz=>nb (z▸b)),⟨r.1,λi p r' e1 e2=>let ⟨q,x,y⟩:=r.2 i p r' e1 e2;⟨q,kt x,kt y⟩⟩,f _ _ t (λz=>by rw[z,hl]at t;cases t),Paired.mapP u λ_ _ z=>z.mono λ_ _ h=>kt h⟩
theorem Vu.imp {bad bad':Addr->Prop} {c:Cs} {H:Hp} {v:V} (h:Vu bad c H v) (k:∀a,H a≠none->bad' a->bad a):Vu bad' c H v:=let ⟨p,L,D,ps,kvs,e,a,b,q,r,t,u⟩:=h;⟨p,L,D,ps,kvs,e,a,λz=>b (k _ (by rw[q];exact λz=>nomatch z) z),q,r,t,u⟩
section
variable {σ:L2.St} {H:Hp}
theorem AN.nil:AN jT σ []:=λ_ _ q=>q
theorem AN.v {i:Nat} {ts:TA} {x:V} {xs:List V} (e:σ[i]?=some (some x)) (h:AN ts σ xs):AN (qM (qN i) ts) σ (x::xs):=λH1 Q q=>⟨x,e,h H1 _ q⟩
theorem AN.c {ts:TA} {x:V} {xs:List V} (h:AN ts σ xs):AN (qM (tC x) ts) σ (x::xs):=λH1 Q q=>h H1 _ q
theorem AX.v {i:Nat} {v:V} {Pr:Hp->V->Prop} (e:σ[i]?=some (some v)) (h:∀H2,qr H H2->Pr H2 v):AX (qN i) σ H Pr:=λH1 s Q q=>⟨v,e,q v H1 (λ_ _ h=>h) (h H1 s)⟩
theorem AX.rd {ts:TA} {xs:List Str} (h:AN ts σ (xs.map V.str)) (hn:xs.length<=10):AX (JN ts) σ H (RdM xs):=λH1 s Q q=>h H1 _ ⟨zab (qm (by rw[tj];omega)),λp hp=>q _ _ (qj hp) ⟨p,rfl,qe⟩⟩
theorem AX.row {i:Nat} {tr:TE} {a:Str} {xs:List Str} (e:σ[i]?=some (some (.str a))) (h:AX tr σ H (RdM xs)):AX (JN (qM (qN i) (qM tr jT))) σ H (Y9 (a,xs)):=λH1 s Q q=>⟨_,e,h H1 s _ λv H2 s2 ⟨t,ev,ht⟩=>by
 subst ev
 exact⟨by show 2<=sizeLine;decide,λp hp=>q _ _ (s2.trans (qj hp)) ⟨p,t,rfl,qe,ql ht hp⟩⟩⟩
theorem AX.lab {ts:TA} {l:Lb} (h:AN ts σ (Vd l)):AX (JN ts) σ H (ND l):=λH1 s Q q=>h H1 _ ⟨by cases l;exact(by decide:3<=sizeLine);exact(by decide:2<=sizeLine),λp hp=>q _ _ (qj hp) ⟨p,rfl,qe⟩⟩
def AR (ts:TA) (σ:L2.St) (H:Hp) (rs:jz):Prop:=∀H1,qr H H1->∀Q:List V->Hp->Prop,(∀ps H2,qr H1 H2->jS H2 ps rs->Q (ps.map V.ref) H2)->ts σ H1 Q
theorem AR.nil:AR jT σ H []:=λH1 s Q q=>q [] H1 (λ_ _ h=>h) ⟨rfl,λi p r e _=>by simp at e⟩
theorem AR.cons {te:TE} {ts:TA} {r:Str×List Str} {rs:jz} (a:AX te σ H (Y9 r)) (b:AR ts σ H rs):AR (qM te ts) σ H (r::rs):=λH1 s Q q=>a H1 s _ λv H2 s2 rv=>b H2 (s.trans s2) _ λps H3 s3 ra=>by
 obtain⟨p,t,rfl,e1,e2⟩:=rv.mono s3
 refine q (p::ps) H3 (s2.trans s3) ⟨by rw[zac,zac,ra.1],λi p' r' x y=>?_⟩
 cases i with
 | zero=>cases x;cases y;exact⟨t,e1,e2⟩
 | succ i=>exact ra.2 i p' r' x y
def AP (trs:List (TE×TE)) (σ:L2.St) (H:Hp) (zl:List (Str×Lb)):Prop:=∀H1,qr H H1->∀Q:List (V×V)->Hp->Prop,(∀kvs H2,qr H1 H2->Paired (Gm H2) kvs zl->Q (kvs.map λkv=>(kV kv.1,kv.2)) H2)->X1 trs σ H1 Q
theorem AP.nil:AP [] σ H []:=λH1 s Q q=>q [] H1 (λ_ _ h=>h) .nil
theorem AP.cons {i:Nat} {te:TE} {trs:List (TE×TE)} {z:Str} {l:Lb} {zl:List (Str×Lb)} (e:σ[i]?=some (some (.str z))) (a:AX te σ H (ND l)) (b:AP trs σ H zl):AP ((qN i,te)::trs) σ H ((z,l)::zl):=λH1 s Q q=>⟨_,e,a H1 s _ λv H2 s2 ⟨p,ev,hp⟩=>b H2 (s.trans s2) _ λkvs H3 s3 pk=>by
 subst ev
 exact q ((Sum.inr z,.ref p)::kvs) H3 (s2.trans s3) (.cons ⟨rfl,p,rfl,s3 _ _ hp⟩ pk)⟩
theorem U3 {H:Hp}:∀{kvs:List (qI×V)} {zl:List (Str×Lb)},Paired (Gm H) kvs zl->kvs.map (·.1)=(zl.map (·.1)).map Sum.inr
 | _,_,.nil=>rfl
 | _,_,.cons h t=>by rw[tP,tP,tP,U3 t,h.1]
theorem Va:∀{more acc:List (qI×V)},((acc++more).map (·.1)).Nodup->Qo acc more=acc++more
 | [],acc,_=>(zaZ acc).symm
 | a::more,acc,h=>by
   have new:qY acc a.1=none:=QP (by
     rw[tL,zct]at h
     exact λz=>h.2.2 _ z _ (by simp) rfl)
   show Qo (jm acc a.1 a.2) more=_
   rw[QC _ new,Va (by simpa using h)]
   simp
theorem AX.dic {trs:List (TE×TE)} {zl:List (Str×Lb)} (h:AP trs σ H zl) (nd:(zl.map (·.1)).Nodup) (hn:zl.length<=15):AX (KL trs) σ H (DiM zl):=λH1 s Q q p hp=>h _ (s.trans (qj hp)) _ λkvs H2 s2 pk=>by
 have hp2:=s2 _ _ (qe (H:=H1) (a:=p) (o:=.dK []))
 have ek:=U3 pk
 have ln:kvs.length=zl.length:=by simpa using congrArg zax ek
 have nk:(kvs.map (·.1)).Nodup:=by rw[ek];exact Qx nd λa _ b _ e=>Sum.inr.inj e
 refine⟨hp2,kvs,rfl,by omega,q _ _ (λa o ha=>?_) ⟨p,kvs,rfl,by rw[Va (by simpa using nk)];exact qe,Paired.mapP pk λ_ _ z=>z.mono λa xs ha=>?_⟩⟩
 . rw[qi (qE ha hp)]
   exact s2 _ _ (ql ha hp)
 . rw[qi (λz=>by rw[z,hp2]at ha;cases ha)]
   exact ha
theorem AX.case {ts:TA} {td:TE} {c:Cs} (a:AR ts σ H c.1) (b:AX td σ H (DiM c.2)) (hn:c.1.length<=10):AX (JN (qM (VA ts) (qM td jT))) σ H (Vu (λa=>H a≠none) c):=λH1 s Q q=>a H1 s _ λps H2 s2 ra=>by
 refine⟨by rw[tj,ra.1];exact zab (qm (by omega)),λL hL=>?_⟩
 have s3:qr H2 (upd H2 L (.lst (ps.map V.ref))):=qj hL
 have eL:upd H2 L (.lst (ps.map V.ref)) L=some (.lst (ps.map V.ref)):=qe
 generalize upd H2 L (.lst (ps.map V.ref))=H3 at s3 eL
 refine b H3 (s.trans (s2.trans s3)) _ λv H4 s4 ⟨D,kvs,ev,hD,pk⟩=>?_
 subst ev
 refine⟨by show 2<=sizeLine;decide,λp hp=>q _ _ (s2.trans (s3.trans (s4.trans (qj hp)))) ⟨p,L,D,ps,kvs,rfl,qe,λz=>z ?_,ql (s4 _ _ eL) hp,(ra.mono (s3.trans s4)).mono (qj hp),ql hD hp,Paired.mapP pk λ_ _ z=>z.mono λ_ _ h=>ql h hp⟩⟩
 cases e:H L with
 | none=>rfl
 | some o=>rw[s2 _ _ (s _ _ e)]at hL;cases hL
def AC (ts:TA) (σ:L2.St) (H:Hp) (bad:Addr->Prop) (cs:List Cs):Prop:=∀H1,qr H H1->∀Q:List V->Hp->Prop,(∀vs H2,qr H1 H2->Paired (λv c=>Vu bad c H2 v) vs cs->Q vs H2)->ts σ H1 Q
theorem AC.nil {bad:Addr->Prop}:AC jT σ H bad []:=λH1 s Q q=>q [] H1 (λ_ _ h=>h) .nil
theorem AC.cons {bad:Addr->Prop} {te:TE} {ts:TA} {c:Cs} {cs:List Cs} (a:AX te σ H (Vu bad c)) (b:AC ts σ H bad cs):AC (qM te ts) σ H bad (c::cs):=λH1 s Q q=>a H1 s _ λv H2 s2 rv=>b H2 (s.trans s2) _ λvs H3 s3 ra=>q (v::vs) H3 (s2.trans s3) (.cons (rv.mono s3) ra)
end
open PySem L2 PyProof.Rows MLab
theorem zz {α β:Type} {R:α->β->Prop}:∀{xs:List α} {ys:List β},Paired R xs ys->xs.length=ys.length
 | _,_,.nil=>rfl
 | _,_,.cons _ t=>by rw[zac,zac,zz t]
abbrev yb (l:Addr) (H:Hp) (vs:List V) (cs:List Cs):Prop:=Paired (λv c=>Vu (λa=>a=l) c H v) vs cs
section
variable {K:PySem.W.Frag} {σ:L2.St} {H:Hp} {D:QN}
theorem RF {ts:TA} {cs:List Cs} (h:AC ts σ H (λa=>H a≠none) cs) (hn:cs.length<=10) {Q:VK} (q:∀l vs H',qr H H'->H l=none->H' l=some (.lst vs)->yb l H' vs cs->Q (.ref l) H'):VA ts σ H Q:=h H (λ_ _ h=>h) _ λvs H2 s2 pc=>⟨by rw[zz pc];exact zab (qm (by omega)),λl hl=>by
 have n1:H l=none:=by
   cases e:H l with
   | none=>rfl
   | some o=>rw[s2 _ _ e]at hl;cases hl
 exact q l vs _ (s2.trans (qj hl)) n1 qe (Paired.mapP pc λv c z=>(z.imp (bad':=λa=>a=l) λa ha e=>absurd (e▸hl) ha).mono (qj hl))⟩
theorem k8 {i:Nat} {te:TE} {l:Addr} {vs:List V} {cs:List Cs} {c:Cs} (e:σ[i]?=some (some (.ref l))) (hl:H l=some (.lst vs)) (pc:yb l H vs cs) (hn:cs.length<=10) (ax:AX te σ H (Vu (λa=>H a≠none) c)) (q:∀vs' H',Fr H l H'->H' l=some (.lst vs')->yb l H' vs' (cs++[c])->D.nx σ H'):KJ (tBM K "list" UT (qN i) (qM te jT)) D σ H:=by
 refine⟨_,e,.inl ⟨rfl,vs,.of hl⟩,ax H (λ_ _ h=>h) _ λv H2 s2 cv=>⟨l,vs,v,rfl,rfl,s2 _ _ hl,qm (by rw[zz pc];omega),?_⟩⟩
 have hl2:=s2 _ _ hl
 have f:Fr H2 l (upd H2 l (.lst (vs++[v]))):=Fr.at_d Fr.refl
 refine q _ _ (λb o hb nb=>f _ _ (s2 _ _ hb) nb) qe (Paired.app (Paired.mapP pc λv c z=>(z.mono s2).fr hl2 rfl f) (.cons ((cv.imp (bad':=λa=>a=l) λa _ z=>by rw[z,hl];exact λz=>nomatch z).fr hl2 rfl f) .nil))
end
def Kq (a b c:Str):List Cs:=[([(a,[])],[(a,.end_ 0)]),([(a,[])],[(a,.num 1 0)]),([(a,[b]),(b,[a,b])],[(a,.num 0 5),(b,.end_ 1)]),([(a,[b]),(b,[])],[(a,.num 1 3),(b,.num 0 3)]),([(a,[b]),(b,[c]),(c,[])],[(a,.num 0 2),(b,.num 1 5),(c,.num 0 4)]),([(a,[a,b]),(b,[])],[(a,.end_ 0),(b,.num 0 0)])]
def u0 (a b c:Str):List Cs:=[([(a,[])],[(a,.num 0 7)]),([(a,[b]),(b,[])],[(a,.num 1 4),(b,.num 0 3)]),([(a,[b]),(b,[c]),(c,[])],[(a,.num 0 5),(b,.num 1 5),(c,.num 0 4)]),([(a,[b]),(b,[a,b])],[(a,.end_ 0),(b,.end_ 0)]),([(a,[a,b]),(b,[])],[(a,.end_ 1),(b,.num 0 0)])]
def ui (cs:Str->Str->Str->List Cs):Sp:=λvs H Q _=>∃(ln:Addr) (a b c:Str),vs=[.ref ln]/\H ln=some (.lst [.str a,.str b,.str c])/\[a,b,c].Nodup/\
 ∀l vs H',qr H H'->H' l=some (.lst vs)->yb l H' vs (cs a b c)->Q (.ref l) H'
theorem dl {m n:Nat} (h:Nat.ble m n=true:=by rfl):m<=n:=zcR h
theorem NE {K:PySem.W.Frag} {σ:L2.St} {H:Hp} {D:QN} {ln:Addr} {x y z:V} (e:σ[0]?=some (some (.ref ln))) (hl:H ln=some (.lst [x,y,z])) (q:D.nx (((σ.set 1 (some x)).set 2 (some y)).set 3 (some z)) H):vD (qN 0) (Gd K 3 (XH (Qu 1) (XH (Qu 2) (XH (Qu 3) R9)))) D σ H:=⟨_,e,ln,_,rfl,.of hl,rfl,_,_,rfl,_,_,rfl,_,_,rfl,rfl,q⟩
theorem qaq {i j:Nat} {ta tb:TE} {σ:L2.St} {H:Hp} {D:QN} {ra rb:Str×List Str} (a:AX ta σ H (Y9 ra)) (b:AX tb σ H (Y9 rb)) (q:∀v w H2,qr H H2->Y9 ra H2 v->Y9 rb H2 w->D.nx ((σ.set i (some v)).set j (some w)) H2):NJ i j (qM ta (qM tb jT)) D σ H:=a H (λ_ _ h=>h) _ λv H1 s1 pv=>b H1 s1 _ λw H2 s2 pw=>⟨v,w,rfl,q v w H2 (s1.trans s2) (pv.mono s2) pw⟩
section
variable {P:Program} {w:World} {K:PySem.W.Frag} {mg:Str->Option Value} {base:Heap}
abbrev nFg:List Str:=["_law_names_here","_law_a","_law_b","_law_c","_law_none","_law_loop","_law_some"]
abbrev nMd:List Str:=["_law_names_here","_law_a","_law_b","_law_c","_law_some"]
abbrev K6:List Str:=["_law_names_here"]
theorem vL:qG nFg K6 (qo Z0):=⟨rfl,rfl,rfl,by decide+kernel,rfl,by decide+kernel,by decide+kernel⟩
theorem yF:qG nMd K6 (qo ZX):=⟨rfl,rfl,rfl,by decide+kernel,rfl,by decide+kernel,by decide+kernel⟩
theorem ki {f:Addr} {fd:FuncData} (F:Qn K "_law_forged" "_law_forged" Z0 f fd):qB P w K mg base q5 1 f fd K6 (ui Kq):=by
 refine F.okJ vL (λvs H Q E h=>?_) (λcdv A outer s H vs Q E hr h=>?_)
 . obtain⟨ln,a,b,c,rfl,_⟩:=h
   rfl
 . obtain⟨ln,a,b,c,rfl,hln,nd,q⟩:=h
   refine⟨_,qg (x3 (jv 0) (U4 rfl (jw (qv (i:=1) vL.nd rfl (Or.inl rfl)) (jw (qv (i:=2) vL.nd rfl (Or.inl rfl)) (jw (qv (i:=3) vL.nd rfl (Or.inl rfl)) Ju)))))
     (qg (RQ (i:=4) (j:=5) rfl vL.nd rfl rfl (by decide) rfl rfl (qb (qk (qb (jv 1) (qb (qk qd) qd))) (qb (qk (qb (jv 1) (qb (qk (qb (jv 1) (qb (jv 2) qd))) qd))) qd)) rfl)
     (qg (qz (i:=6) vL.nd rfl (Or.inl rfl) (qV (qb (qk (qb (qV (qb (jv 4) qd)) (qb (Qg (q4 (jv 1) (qk (qb qx (qb qf qd))) Qf) rfl rfl (λz=>nomatch z) (by decide)) qd))) (qb (qk (qb (qV (qb (jv 4) qd)) (qb (Qg (q4 (jv 1) (qk (qb qx (qb qf (qb qf qd)))) Qf) rfl rfl (λz=>nomatch z) (by decide)) qd))) qd))))
     (qg (jO (Zt zaq zat zau jZ (jv 6) (qb (qk (qb (qV (qb (qk (qb (jv 1) (qb (qk (qb (jv 2) qd)) qd))) (qb (qk (qb (jv 2) (qb (qk (qb (jv 1) (qb (jv 2) qd))) qd))) qd))) (qb (Qg (q4 (jv 1) (qk (qb qx (qb qf (qb qf qd)))) (q4 (jv 2) (qk (qb qx (qb qf qd))) Qf)) rfl rfl (λz=>nomatch z) (by decide)) qd))) qd)))
     (qg (jO (Zt zaq zat zau jZ (jv 6) (qb (qk (qb (qV (qb (qk (qb (jv 1) (qb (qk (qb (jv 2) qd)) qd))) (qb (qk (qb (jv 2) (qb (qk qd) qd))) qd))) (qb (Qg (q4 (jv 1) (qk (qb qx (qb qf (qb qf qd)))) (q4 (jv 2) (qk (qb qx (qb qf (qb qf qd)))) Qf)) rfl rfl (λz=>nomatch z) (by decide)) qd))) qd)))
     (qg (jO (Zt zaq zat zau jZ (jv 6) (qb (qk (qb (qV (qb (qk (qb (jv 1) (qb (qk (qb (jv 2) qd)) qd))) (qb (qk (qb (jv 2) (qb (qk (qb (jv 3) qd)) qd))) (qb (qk (qb (jv 3) (qb (qk qd) qd))) qd)))) (qb (Qg (q4 (jv 1) (qk (qb qx (qb qf (qb qf qd)))) (q4 (jv 2) (qk (qb qx (qb qf (qb qf qd)))) (q4 (jv 3) (qk (qb qx (qb qf (qb qf qd)))) Qf))) rfl rfl (λz=>nomatch z) (by decide)) qd))) qd)))
     (qg (jO (Zt zaq zat zau jZ (jv 6) (qb (qk (qb (qV (qb (jv 5) (qb (qk (qb (jv 2) (qb (qk qd) qd))) qd))) (qb (Qg (q4 (jv 1) (qk (qb qx (qb qf qd))) (q4 (jv 2) (qk (qb qx (qb qf (qb qf qd)))) Qf)) rfl rfl (λz=>nomatch z) (by decide)) qd))) qd)))
     (qh (qA (jv 6))))))))),?_⟩
   have wO:[a].Nodup:=by simp
   have nd2:[a,b].Nodup:=by simp at nd ⊢;exact nd.1.1
   refine JP (NE rfl hln ?_)
   dsimp only
   have rowE:∀{σ:L2.St} {H1:Hp} {i:Nat} {z:Str},σ[i]?=some (some (.str z))->AX (JN (qM (qN i) (qM (JN jT) jT))) σ H1 (Y9 (z,[])):=λe=>AX.row e (AX.rd AN.nil dl)
   refine JP (qaq (rowE (i:=1) rfl) (AX.row (i:=1) rfl (AX.rd (xs:=[a,b]) (AN.v rfl (AN.v rfl AN.nil)) dl)) λv1 v2 H1 s1 r1 r2=>?_)
   dsimp only
   have lab2:∀{σ:L2.St} {H1:Hp} {n:Nat},AX (JN (qM (tC (.str (Str.ofString "endless"))) (qM (tC (.int (n:Int))) jT))) σ H1 (ND (.end_ n)):=λ{σ H1 n}=>AX.lab (l:=.end_ n) (AN.c (AN.c AN.nil))
   have lab3:∀{σ:L2.St} {H1:Hp} {n k:Nat},AX (JN (qM (tC (.str (Str.ofString "number"))) (qM (tC (.int (n:Int))) (qM (tC (.int (k:Int))) jT)))) σ H1 (ND (.num n k)):=λ{σ H1 n k}=>AX.lab (l:=.num n k) (AN.c (AN.c (AN.c AN.nil)))
   refine JP (Y6 (RF (cs:=[([(a,[])],[(a,.end_ 0)]),([(a,[])],[(a,.num 1 0)])]) (AC.cons (AX.case (AR.cons (AX.v rfl λH2 s2=>r1.mono s2) AR.nil) (AX.dic (AP.cons rfl (lab2 (n:=0)) AP.nil) wO dl) dl) (AC.cons (AX.case (AR.cons (AX.v rfl λH2 s2=>r1.mono s2) AR.nil) (AX.dic (AP.cons rfl (lab3 (n:=1) (k:=0)) AP.nil) wO dl) dl) AC.nil)) dl λl vs2 H2 s2 hl1 hl2 c2=>?_))
   refine Ki ?_
   dsimp only
   have same:∀{H3 H4:Hp},qr H1 H3->Fr H3 l H4->qr H1 H4:=λs f b o hb=>f _ _ (s _ _ hb) (qE hb hl1)
   refine JP (k8 (c:=([(a,[b]),(b,[a,b])],[(a,.num 0 5),(b,.end_ 1)])) rfl hl2 c2 dl (AX.case (AR.cons (AX.row rfl (AX.rd (xs:=[b]) (AN.v rfl AN.nil) dl)) (AR.cons (AX.row rfl (AX.rd (xs:=[a,b]) (AN.v rfl (AN.v rfl AN.nil)) dl)) AR.nil)) (AX.dic (AP.cons rfl (lab3 (n:=0) (k:=5)) (AP.cons rfl (lab2 (n:=1)) AP.nil)) nd2 dl) dl) λvs3 H3 f3 hl3 c3=>?_)
   dsimp only
   have s3:=same s2 f3
   refine JP (k8 (c:=([(a,[b]),(b,[])],[(a,.num 1 3),(b,.num 0 3)])) rfl hl3 c3 dl (AX.case (AR.cons (AX.row rfl (AX.rd (xs:=[b]) (AN.v rfl AN.nil) dl)) (AR.cons (rowE rfl) AR.nil)) (AX.dic (AP.cons rfl (lab3 (n:=1) (k:=3)) (AP.cons rfl (lab3 (n:=0) (k:=3)) AP.nil)) nd2 dl) dl) λvs4 H4 f4 hl4 c4=>?_)
   dsimp only
   have s4:=same s3 f4
   refine JP (k8 (c:=([(a,[b]),(b,[c]),(c,[])],[(a,.num 0 2),(b,.num 1 5),(c,.num 0 4)])) rfl hl4 c4 dl (AX.case (AR.cons (AX.row rfl (AX.rd (xs:=[b]) (AN.v rfl AN.nil) dl)) (AR.cons (AX.row rfl (AX.rd (xs:=[c]) (AN.v rfl AN.nil) dl)) (AR.cons (rowE rfl) AR.nil))) (AX.dic (AP.cons rfl (lab3 (n:=0) (k:=2)) (AP.cons rfl (lab3 (n:=1) (k:=5)) (AP.cons rfl (lab3 (n:=0) (k:=4)) AP.nil))) nd dl) dl) λvs5 H5 f5 hl5 c5=>?_)
   dsimp only
   have s5:=same s4 f5
   refine JP (k8 (c:=([(a,[a,b]),(b,[])],[(a,.end_ 0),(b,.num 0 0)])) rfl hl5 c5 dl (AX.case (AR.cons (AX.v rfl λH2 s2=>r2.mono (s5.trans s2)) (AR.cons (rowE rfl) AR.nil)) (AX.dic (AP.cons rfl (lab2 (n:=0)) (AP.cons rfl (lab3 (n:=0) (k:=0)) AP.nil)) nd2 dl) dl) λvs6 H6 f6 hl6 c6=>?_)
   exact⟨_,rfl,q l vs6 H6 (s1.trans (same s5 f6)) hl6 c6⟩
theorem qaK {i:Nat} {te:TE} {σ:L2.St} {H:Hp} {Q:VK} {l:Addr} {vs:List V} {cs:List Cs} {c:Cs} (e:σ[i]?=some (some (.ref l))) (hl:H l=some (.lst vs)) (pc:yb l H vs cs) (hn:cs.length<=10) (ax:AX te σ H (Vu (λa=>H a≠none) c)) (q:∀l' vs' H',qr H H'->H' l'=some (.lst vs')->yb l' H' vs' (cs++[c])->Q (.ref l') H'):Jf (yX K) (qN i) (VA (qM te jT)) σ H Q:=
 ⟨_,e,RF (cs:=[c]) (AC.cons ax AC.nil) (zcR rfl) λl2 vs2 H2 s2 n2 hl2 c2=>⟨l,l2,vs,vs2,rfl,rfl,.of (s2 _ _ hl),.of hl2,by rw[zz pc,zz c2];exact zab (qm (by rw[zaG];omega)),λl' hl'=>q l' _ _ (s2.trans (qj hl')) qe
   (Paired.app (Paired.mapP pc λv c z=>((z.mono s2).imp (bad':=λa=>a=l') λa ha e=>absurd (e▸hl') ha).mono (qj hl')) (Paired.mapP c2 λv c z=>(z.imp (bad':=λa=>a=l') λa ha e=>absurd (e▸hl') ha).mono (qj hl')))⟩⟩
theorem vY {f:Addr} {fd:FuncData} (F:Qn K "_law_mended" "_law_mended" ZX f fd):qB P w K mg base q5 1 f fd K6 (ui u0):=by
 refine F.okJ yF (λvs H Q E h=>?_) (λcdv A outer s H vs Q E hr h=>?_)
 . obtain⟨ln,a,b,c,rfl,_⟩:=h
   rfl
 . obtain⟨ln,a,b,c,rfl,hln,nd,q⟩:=h
   refine⟨_,qg (x3 (jv 0) (U4 rfl (jw (qv (i:=1) yF.nd rfl (Or.inl rfl)) (jw (qv (i:=2) yF.nd rfl (Or.inl rfl)) (jw (qv (i:=3) yF.nd rfl (Or.inl rfl)) Ju)))))
     (qg (qz (i:=4) yF.nd rfl (Or.inl rfl) (qV (qb (qk (qb (qV (qb (qk (qb (jv 1) (qb (qk qd) qd))) qd)) (qb (Qg (q4 (jv 1) (qk (qb qx (qb qf (qb qf qd)))) Qf) rfl rfl (λz=>nomatch z) (by decide)) qd))) (qb (qk (qb (qV (qb (qk (qb (jv 1) (qb (qk (qb (jv 2) qd)) qd))) (qb (qk (qb (jv 2) (qb (qk qd) qd))) qd))) (qb (Qg (q4 (jv 1) (qk (qb qx (qb qf (qb qf qd)))) (q4 (jv 2) (qk (qb qx (qb qf (qb qf qd)))) Qf)) rfl rfl (λz=>nomatch z) (by decide)) qd))) qd))))
     (qg (jO (Zt zaq zat zau jZ (jv 4) (qb (qk (qb (qV (qb (qk (qb (jv 1) (qb (qk (qb (jv 2) qd)) qd))) (qb (qk (qb (jv 2) (qb (qk (qb (jv 3) qd)) qd))) (qb (qk (qb (jv 3) (qb (qk qd) qd))) qd)))) (qb (Qg (q4 (jv 1) (qk (qb qx (qb qf (qb qf qd)))) (q4 (jv 2) (qk (qb qx (qb qf (qb qf qd)))) (q4 (jv 3) (qk (qb qx (qb qf (qb qf qd)))) Qf))) rfl rfl (λz=>nomatch z) (by decide)) qd))) qd)))
     (qg (jO (Zt zaq zat zau jZ (jv 4) (qb (qk (qb (qV (qb (qk (qb (jv 1) (qb (qk (qb (jv 2) qd)) qd))) (qb (qk (qb (jv 2) (qb (qk (qb (jv 1) (qb (jv 2) qd))) qd))) qd))) (qb (Qg (q4 (jv 1) (qk (qb qx (qb qf qd))) (q4 (jv 2) (qk (qb qx (qb qf qd))) Qf)) rfl rfl (λz=>nomatch z) (by decide)) qd))) qd)))
     (qh (qA (qH Q5 (jv 4) (qV (qb (qk (qb (qV (qb (qk (qb (jv 1) (qb (qk (qb (jv 1) (qb (jv 2) qd))) qd))) (qb (qk (qb (jv 2) (qb (qk qd) qd))) qd))) (qb (Qg (q4 (jv 1) (qk (qb qx (qb qf qd))) (q4 (jv 2) (qk (qb qx (qb qf (qb qf qd)))) Qf)) rfl rfl (λz=>nomatch z) (by decide)) qd))) qd)))))))),?_⟩
   have wO:[a].Nodup:=by simp
   have nd2:[a,b].Nodup:=by simp at nd ⊢;exact nd.1.1
   have rowE:∀{σ:L2.St} {H1:Hp} {i:Nat} {z:Str},σ[i]?=some (some (.str z))->AX (JN (qM (qN i) (qM (JN jT) jT))) σ H1 (Y9 (z,[])):=λe=>AX.row e (AX.rd AN.nil dl)
   have lab2:∀{σ:L2.St} {H1:Hp} {n:Nat},AX (JN (qM (tC (.str (Str.ofString "endless"))) (qM (tC (.int (n:Int))) jT))) σ H1 (ND (.end_ n)):=λ{σ H1 n}=>AX.lab (l:=.end_ n) (AN.c (AN.c AN.nil))
   have lab3:∀{σ:L2.St} {H1:Hp} {n k:Nat},AX (JN (qM (tC (.str (Str.ofString "number"))) (qM (tC (.int (n:Int))) (qM (tC (.int (k:Int))) jT)))) σ H1 (ND (.num n k)):=λ{σ H1 n k}=>AX.lab (l:=.num n k) (AN.c (AN.c (AN.c AN.nil)))
   refine JP (NE rfl hln ?_)
   dsimp only
   refine JP (Y6 (RF (cs:=[([(a,[])],[(a,.num 0 7)]),([(a,[b]),(b,[])],[(a,.num 1 4),(b,.num 0 3)])]) (AC.cons (AX.case (AR.cons (rowE rfl) AR.nil) (AX.dic (AP.cons rfl (lab3 (n:=0) (k:=7)) AP.nil) wO dl) dl) (AC.cons (AX.case (AR.cons (AX.row rfl (AX.rd (xs:=[b]) (AN.v rfl AN.nil) dl)) (AR.cons (rowE rfl) AR.nil)) (AX.dic (AP.cons rfl (lab3 (n:=1) (k:=4)) (AP.cons rfl (lab3 (n:=0) (k:=3)) AP.nil)) nd2 dl) dl) AC.nil)) dl λl vs2 H2 s2 hl1 hl2 c2=>?_))
   refine Ki ?_
   dsimp only
   have same:∀{H3 H4:Hp},qr H H3->Fr H3 l H4->qr H H4:=λs f b o hb=>f _ _ (s _ _ hb) (qE hb hl1)
   refine JP (k8 (c:=([(a,[b]),(b,[c]),(c,[])],[(a,.num 0 5),(b,.num 1 5),(c,.num 0 4)])) rfl hl2 c2 dl (AX.case (AR.cons (AX.row rfl (AX.rd (xs:=[b]) (AN.v rfl AN.nil) dl)) (AR.cons (AX.row rfl (AX.rd (xs:=[c]) (AN.v rfl AN.nil) dl)) (AR.cons (rowE rfl) AR.nil))) (AX.dic (AP.cons rfl (lab3 (n:=0) (k:=5)) (AP.cons rfl (lab3 (n:=1) (k:=5)) (AP.cons rfl (lab3 (n:=0) (k:=4)) AP.nil))) nd dl) dl) λvs3 H3 f3 hl3 c3=>?_)
   dsimp only
   have s3:=same s2 f3
   refine JP (k8 (c:=([(a,[b]),(b,[a,b])],[(a,.end_ 0),(b,.end_ 0)])) rfl hl3 c3 dl (AX.case (AR.cons (AX.row rfl (AX.rd (xs:=[b]) (AN.v rfl AN.nil) dl)) (AR.cons (AX.row rfl (AX.rd (xs:=[a,b]) (AN.v rfl (AN.v rfl AN.nil)) dl)) AR.nil)) (AX.dic (AP.cons rfl (lab2 (n:=0)) (AP.cons rfl (lab2 (n:=0)) AP.nil)) nd2 dl) dl) λvs4 H4 f4 hl4 c4=>?_)
   dsimp only
   have s4:=same s3 f4
   exact qaK (c:=([(a,[a,b]),(b,[])],[(a,.end_ 1),(b,.num 0 0)])) rfl hl4 c4 dl (AX.case (AR.cons (AX.row rfl (AX.rd (xs:=[a,b]) (AN.v rfl (AN.v rfl AN.nil)) dl)) (AR.cons (rowE rfl) AR.nil)) (AX.dic (AP.cons rfl (lab2 (n:=1)) (AP.cons rfl (lab3 (n:=0) (k:=0)) AP.nil)) nd2 dl) dl) λl' vs' H' s' hl' c'=>q l' vs' H' (s4.trans s') hl' c'
end
open PySem L2 PyProof.Rows MLab
def NG:Lb->Tg
 | .num n s=>.tup [.str (Str.ofString "number"),.int (n:Nat),.int (s:Nat)]
 | .end_ b=>.tup [.str (Str.ofString "endless"),.int (b:Nat)]
theorem yi {K:PySem.W.Frag} {H:Hp} {p:Addr} {l:Lb} (h:H p=some (.tup (Vd l))):Zp K H (.ref p) (NG l):=by
 have kE:PyData.strOk (Str.ofString "endless")=true:=by decide+kernel
 have kN:PyData.strOk (Str.ofString "number")=true:=by decide+kernel
 cases l with
 | num n s=>exact .tup (.of h) (.cons (.str _ kN) (.cons (.int _) (.cons (.int _) .nil)))
 | end_ b=>exact .tup (.of h) (.cons (.str _ kE) (.cons (.int _) .nil))
theorem xJ {l:Lb} (h:WD l):Qy (NG l)=some l:=by
 cases l with
 | num n s=>
   have h:n<=15:=h
   show (if _ then some (Lb.num ((n:Nat):Int).toNat ((s:Nat):Int).toNat) else none)=_
   rw[if_pos ⟨rfl,⟨by omega,by omega⟩,by omega⟩]
   rfl
 | end_ b=>
   have h:b < 65536:=h
   show (if _ then some (Lb.end_ ((b:Nat):Int).toNat) else none)=_
   rw[if_pos ⟨rfl,by omega,by omega⟩]
   rfl
theorem XJ {G:Str->List Str} {N:List Str} {f f':Str->Lb} (cl:∀z∈N,∀y∈G z,y∈N) (e:∀z∈N,f z=f' z) {z:Str} (hz:z∈N) (h:jM G f z):jM G f' z:=by
 have nb:JR G f z=JR G f' z:=by
   unfold JR
   have:∀L:List Str,(∀y∈L,y∈N)->L.filterMap (λy=>(f y).nm)=L.filterMap (λy=>(f' y).nm):=λL=>by
     induction L with
     | nil=>exact λ_=>rfl
     | cons a L ih=>intro h;rw[zar,zar,e a (h a tS),ih λy hy=>h y (tN _ hy)]
   exact this _ (cl z hz)
 have road:∀{n s:Nat} {y:Str},y∈N->jA G f n s y->jA G f' n s y:=λ{n s y} hy r=>by
   have ah:(∃b∈G y,qT n s (f b)=true)->∃b∈G y,qT n s (f' b)=true:=λ⟨b,hb,q⟩=>⟨b,hb,by rw[<-e b (cl y hy b hb)];exact q⟩
   unfold jA at r ⊢
   rw[<-e y hy]
   cases fy:f y with
   | num m t=>
     rw[fy]at r
     dsimp only at r ⊢
     split
     . rwa [if_pos ‹_›]at r
     . rw[if_neg ‹_›]at r;exact ah r
   | end_ b=>rw[fy]at r;exact ah r
 unfold jM at h ⊢
 rw[<-e z hz,<-nb]
 cases fz:f z with
 | num n s=>rw[fz]at h;exact⟨h.1,λy hy=>road (cl z hz y hy) (h.2 y hy)⟩
 | end_ b=>rw[fz]at h;obtain⟨h1,y,hy,q⟩:=h;exact⟨h1,y,hy,by rw[<-e y (cl z hz y hy)];exact q⟩
theorem Vg {rs:jz} (good:qu rs) {t:Str->Tg} {f:Str->Lb} (h:∀z∈rs.map (·.1),t z=NG (f z)/\WD (f z)):vx rs t↔∀z∈rs.map (·.1),jM (ju rs) f z:=by
 have cl:=Qz good.nd
 have e:∀z∈rs.map (·.1),Qy (t z)=some (f z):=λz hz=>by rw[(h z hz).1];exact xJ (h z hz).2
 have e':∀z∈rs.map (·.1),fL t z=f z:=λz hz=>by unfold fL;rw[e z hz];rfl
 exact⟨λg z hz=>XJ cl e' hz (g.2 z hz),λg=>⟨λz hz=>by rw[e z hz];rfl,λz hz=>XJ cl (λz hz=>(e' z hz).symm) hz (g z hz)⟩⟩
def QH (zl:List (Str×Lb)) (z:Str):Lb:=match zl.find? (λp=>decide (p.1=z)) with
 | some p=>p.2
 | none=>.num 0 0
theorem xV {H:Hp} {z:Str}:∀{kvs:List (qI×V)} {zl:List (Str×Lb)},Paired (Gm H) kvs zl->z∈zl.map (·.1)->∃p,qY kvs (Sum.inr z:qI)=some (.ref p)/\H p=some (.tup (Vd (QH zl z)))
 | _,_,.nil,h=>nomatch h
 | (k,v)::kvs,(y,l)::zl,.cons hd t,h=>by
   obtain⟨e1,p,e2,hp⟩:=hd
   cases e1
   cases e2
   by_cases c:y=z
   . subst c
     refine⟨p,jh rfl,?_⟩
     unfold QH
     rw[List.find?_cons_of_pos (by simp)]
     exact hp
   . have h:z∈zl.map (·.1):=(tR.mp h).resolve_left (λe=>c e.symm)
     obtain⟨q,a,b⟩:=xV t h
     refine⟨q,by rw[ji (λe=>c (Sum.inr.inj e))];exact a,?_⟩
     unfold QH
     rw[List.find?_cons_of_neg (by simpa using c)]
     exact b
structure No (c:Cs) (b:Bool):Prop where
 good:qu c.1
 pos:0 < c.1.length
 le:c.1.length<=14
 keys:c.2.map (·.1)=c.1.map (·.1)
 bd:∀p∈c.2,WD p.2
 fit:(∀z∈c.1.map (·.1),jM (ju c.1) (QH c.2) z)↔b=true
theorem RG {zl:List (Str×Lb)} (h:∀p∈zl,WD p.2) (z:Str):WD (QH zl z):=by
 unfold QH
 cases e:zl.find? (λp=>decide (p.1=z)) with
 | none=>exact zah _
 | some p=>exact h p (zbl e)
theorem Vu.ask {K:PySem.W.Frag} {bad:Addr->Prop} {c:Cs} {b:Bool} {H:Hp} {v:V} (h:Vu bad c H v) (ok:No c b):∃p L D ps kvs t,v=.ref p/\H p=some (.tup [.ref L,.ref D])/\jD H L ps c.1/\H D=some (.dK kvs)/\kvs.length=c.1.length/\zo K H kvs c.1 t/\(vx c.1 t↔b=true):=by
 obtain⟨p,L,D,ps,kvs,e,a,_,q,r,hd,pk⟩:=h
 refine⟨p,L,D,ps,kvs,λz=>NG (QH c.2 z),e,a,⟨q,r,ok.good,ok.pos,ok.le⟩,hd,?_,λz hz=>?_,(Vg ok.good λz _=>⟨rfl,RG ok.bd z⟩).trans ok.fit⟩
 . rw[zz pk]
   have:=congrArg zax ok.keys
   simpa using this
 . obtain⟨q,x,y⟩:=xV pk (by rw[ok.keys];exact hz)
   exact⟨_,x,yi y⟩
section
variable {a b c:Str}
theorem yJ (na:jc a=true):qu [(a,[])]:=⟨by simpa using na,by simp,by simp,by simp,by simp⟩
theorem Xp {xs ys:List Str} (na:jc a=true) (nb:jc b=true) (ab:a≠b) (hx:xs.Nodup) (hy:ys.Nodup) (mx:∀z∈xs,z=a\/z=b) (my:∀z∈ys,z=a\/z=b) (l:xs.length+ys.length<=40):qu [(a,xs),(b,ys)]:=⟨by simpa using ⟨na,nb⟩,by simpa using ab,by simpa using ⟨mx,my⟩,by simpa using ⟨hx,hy⟩,by simpa using l⟩
theorem K0 (na:jc a=true) (nb:jc b=true) (nc:jc c=true) (ab:a≠b) (ac:a≠c) (bc:b≠c):qu [(a,[b]),(b,[c]),(c,[])]:=⟨by simpa using ⟨na,nb,nc⟩,by simp [ab,ac,bc],by simp,by simp,by simp⟩
theorem Kg {z:Str} {zs:List Str}:zQ (.str z) (zs.map V.str)=decide (z∈zs):=by rw[zaz,U7,decide_eq_true_iff]
theorem xS:Rb.lackN []=0:=by decide
theorem xR:Rb.lackN [0]=1:=by decide
theorem xQ:Rb.lackN [1]=0:=by decide
theorem yB:Rb.setN []=0:=by decide
theorem yj:Nat.testBit 1 1=false:=by decide
theorem yA:Rb.setN [0]=1:=by decide
theorem zC {c:Cs} {a:Str} (ha:a∈c.1.map (·.1)) (h:¬jM (ju c.1) (QH c.2) a):(∀z∈c.1.map (·.1),jM (ju c.1) (QH c.2) z)↔false=true:=⟨λg=>absurd (g a ha) h,λz=>nomatch z⟩
theorem gv {rs:jz} (g:qu rs) {r:Str×List Str} (h:r∈rs):ju rs r.1=(rs.map (·.1)).filter (λz=>decide (z∈r.2)):=by
 rw[Jv g.nd h]
 unfold jU
 simp only[Kg]
theorem Mt (na:jc a=true) (nb:jc b=true) (nc:jc c=true) (ab:a≠b) (ac:a≠c) (bc:b≠c):∀k∈Kq a b c,No k false:=by
 have ba:=ab.symm
 have ca:=ac.symm
 have cb:=bc.symm
 intro k hk
 simp only[Kq,tR,zaF,or_false]at hk
 rcases hk with rfl | rfl | rfl | rfl | rfl | rfl
 . have good:qu [(a,[])]:=yJ na
   have ga:ju [(a,[])] a=[]:=by rw[show a=((a,[]):Str×List Str).1 from rfl,gv good (by simp)];simp [ab,ba,ac,ca,bc,cb]
   have va:QH [(a,.end_ 0)] a=.end_ 0:=by simp [QH,ab,ba,ac,ca,bc,cb]
   exact⟨good,by simp,by simp,by simp,by simp [WD],zC (a:=a) (by simp) (by simp [jM,JR,jA,qT,jH,xS,xR,xQ,yB,yA,yj,Lb.nm,ga,va])⟩
 . have good:qu [(a,[])]:=yJ na
   have ga:ju [(a,[])] a=[]:=by rw[show a=((a,[]):Str×List Str).1 from rfl,gv good (by simp)];simp [ab,ba,ac,ca,bc,cb]
   have va:QH [(a,.num 1 0)] a=.num 1 0:=by simp [QH,ab,ba,ac,ca,bc,cb]
   exact⟨good,by simp,by simp,by simp,by simp [WD],zC (a:=a) (by simp) (by simp [jM,JR,jA,qT,jH,xS,xR,xQ,yB,yA,yj,Lb.nm,ga,va])⟩
 . have good:qu [(a,[b]),(b,[a,b])]:=Xp na nb ab (by simp [ab]) (by simp [ab]) (by simp) (by simp) (by simp)
   have ga:ju [(a,[b]),(b,[a,b])] a=[b]:=by rw[show a=((a,[b]):Str×List Str).1 from rfl,gv good (by simp)];simp [ab,ba,ac,ca,bc,cb]
   have gb:ju [(a,[b]),(b,[a,b])] b=[a,b]:=by rw[show b=((b,[a,b]):Str×List Str).1 from rfl,gv good (by simp)];simp [ab,ba,ac,ca,bc,cb]
   have va:QH [(a,.num 0 5),(b,.end_ 1)] a=.num 0 5:=by simp [QH,ab,ba,ac,ca,bc,cb]
   have vb:QH [(a,.num 0 5),(b,.end_ 1)] b=.end_ 1:=by simp [QH,ab,ba,ac,ca,bc,cb]
   exact⟨good,by simp,by simp,by simp,by simp [WD],zC (a:=a) (by simp) (by simp [jM,JR,jA,qT,jH,xS,xR,xQ,yB,yA,yj,Lb.nm,ga,gb,va,vb])⟩
 . have good:qu [(a,[b]),(b,[])]:=Xp na nb ab (by simp [ab]) (by simp [ab]) (by simp) (by simp) (by simp)
   have ga:ju [(a,[b]),(b,[])] a=[b]:=by rw[show a=((a,[b]):Str×List Str).1 from rfl,gv good (by simp)];simp [ab,ba,ac,ca,bc,cb]
   have gb:ju [(a,[b]),(b,[])] b=[]:=by rw[show b=((b,[]):Str×List Str).1 from rfl,gv good (by simp)];simp [ab,ba,ac,ca,bc,cb]
   have va:QH [(a,.num 1 3),(b,.num 0 3)] a=.num 1 3:=by simp [QH,ab,ba,ac,ca,bc,cb]
   have vb:QH [(a,.num 1 3),(b,.num 0 3)] b=.num 0 3:=by simp [QH,ab,ba,ac,ca,bc,cb]
   exact⟨good,by simp,by simp,by simp,by simp [WD],zC (a:=a) (by simp) (by simp [jM,JR,jA,qT,jH,xS,xR,xQ,yB,yA,yj,Lb.nm,ga,gb,va,vb])⟩
 . have good:qu [(a,[b]),(b,[c]),(c,[])]:=K0 na nb nc ab ac bc
   have ga:ju [(a,[b]),(b,[c]),(c,[])] a=[b]:=by rw[show a=((a,[b]):Str×List Str).1 from rfl,gv good (by simp)];simp [ab,ba,ac,ca,bc,cb]
   have gb:ju [(a,[b]),(b,[c]),(c,[])] b=[c]:=by rw[show b=((b,[c]):Str×List Str).1 from rfl,gv good (by simp)];simp [ab,ba,ac,ca,bc,cb]
   have gc:ju [(a,[b]),(b,[c]),(c,[])] c=[]:=by rw[show c=((c,[]):Str×List Str).1 from rfl,gv good (by simp)];simp [ab,ba,ac,ca,bc,cb]
   have va:QH [(a,.num 0 2),(b,.num 1 5),(c,.num 0 4)] a=.num 0 2:=by simp [QH,ab,ba,ac,ca,bc,cb]
   have vb:QH [(a,.num 0 2),(b,.num 1 5),(c,.num 0 4)] b=.num 1 5:=by simp [QH,ab,ba,ac,ca,bc,cb]
   have vc:QH [(a,.num 0 2),(b,.num 1 5),(c,.num 0 4)] c=.num 0 4:=by simp [QH,ab,ba,ac,ca,bc,cb]
   exact⟨good,by simp,by simp,by simp,by simp [WD],zC (a:=a) (by simp) (by simp [jM,JR,jA,qT,jH,xS,xR,xQ,yB,yA,yj,Lb.nm,ga,gb,gc,va,vb,vc])⟩
 . have good:qu [(a,[a,b]),(b,[])]:=Xp na nb ab (by simp [ab]) (by simp [ab]) (by simp) (by simp) (by simp)
   have ga:ju [(a,[a,b]),(b,[])] a=[a,b]:=by rw[show a=((a,[a,b]):Str×List Str).1 from rfl,gv good (by simp)];simp [ab,ba,ac,ca,bc,cb]
   have gb:ju [(a,[a,b]),(b,[])] b=[]:=by rw[show b=((b,[]):Str×List Str).1 from rfl,gv good (by simp)];simp [ab,ba,ac,ca,bc,cb]
   have va:QH [(a,.end_ 0),(b,.num 0 0)] a=.end_ 0:=by simp [QH,ab,ba,ac,ca,bc,cb]
   have vb:QH [(a,.end_ 0),(b,.num 0 0)] b=.num 0 0:=by simp [QH,ab,ba,ac,ca,bc,cb]
   exact⟨good,by simp,by simp,by simp,by simp [WD],zC (a:=a) (by simp) (by simp [jM,JR,jA,qT,jH,xS,xR,xQ,yB,yA,yj,Lb.nm,ga,gb,va,vb])⟩
theorem Mf (na:jc a=true) (nb:jc b=true) (nc:jc c=true) (ab:a≠b) (ac:a≠c) (bc:b≠c):∀k∈u0 a b c,No k true:=by
 have ba:=ab.symm
 have ca:=ac.symm
 have cb:=bc.symm
 intro k hk
 simp only[u0,tR,zaF,or_false]at hk
 rcases hk with rfl | rfl | rfl | rfl | rfl
 . have good:qu [(a,[])]:=yJ na
   have ga:ju [(a,[])] a=[]:=by rw[show a=((a,[]):Str×List Str).1 from rfl,gv good (by simp)];simp [ab,ba,ac,ca,bc,cb]
   have va:QH [(a,.num 0 7)] a=.num 0 7:=by simp [QH,ab,ba,ac,ca,bc,cb]
   exact⟨good,by simp,by simp,by simp,by simp [WD],iff_of_true (by simp [jM,JR,jA,qT,jH,xS,xR,xQ,yB,yA,yj,Lb.nm,ga,va]) rfl⟩
 . have good:qu [(a,[b]),(b,[])]:=Xp na nb ab (by simp [ab]) (by simp [ab]) (by simp) (by simp) (by simp)
   have ga:ju [(a,[b]),(b,[])] a=[b]:=by rw[show a=((a,[b]):Str×List Str).1 from rfl,gv good (by simp)];simp [ab,ba,ac,ca,bc,cb]
   have gb:ju [(a,[b]),(b,[])] b=[]:=by rw[show b=((b,[]):Str×List Str).1 from rfl,gv good (by simp)];simp [ab,ba,ac,ca,bc,cb]
   have va:QH [(a,.num 1 4),(b,.num 0 3)] a=.num 1 4:=by simp [QH,ab,ba,ac,ca,bc,cb]
   have vb:QH [(a,.num 1 4),(b,.num 0 3)] b=.num 0 3:=by simp [QH,ab,ba,ac,ca,bc,cb]
   exact⟨good,by simp,by simp,by simp,by simp [WD],iff_of_true (by simp [jM,JR,jA,qT,jH,xS,xR,xQ,yB,yA,yj,Lb.nm,ga,gb,va,vb]) rfl⟩
 . have good:qu [(a,[b]),(b,[c]),(c,[])]:=K0 na nb nc ab ac bc
   have ga:ju [(a,[b]),(b,[c]),(c,[])] a=[b]:=by rw[show a=((a,[b]):Str×List Str).1 from rfl,gv good (by simp)];simp [ab,ba,ac,ca,bc,cb]
   have gb:ju [(a,[b]),(b,[c]),(c,[])] b=[c]:=by rw[show b=((b,[c]):Str×List Str).1 from rfl,gv good (by simp)];simp [ab,ba,ac,ca,bc,cb]
   have gc:ju [(a,[b]),(b,[c]),(c,[])] c=[]:=by rw[show c=((c,[]):Str×List Str).1 from rfl,gv good (by simp)];simp [ab,ba,ac,ca,bc,cb]
   have va:QH [(a,.num 0 5),(b,.num 1 5),(c,.num 0 4)] a=.num 0 5:=by simp [QH,ab,ba,ac,ca,bc,cb]
   have vb:QH [(a,.num 0 5),(b,.num 1 5),(c,.num 0 4)] b=.num 1 5:=by simp [QH,ab,ba,ac,ca,bc,cb]
   have vc:QH [(a,.num 0 5),(b,.num 1 5),(c,.num 0 4)] c=.num 0 4:=by simp [QH,ab,ba,ac,ca,bc,cb]
   exact⟨good,by simp,by simp,by simp,by simp [WD],iff_of_true (by simp [jM,JR,jA,qT,jH,xS,xR,xQ,yB,yA,yj,Lb.nm,ga,gb,gc,va,vb,vc]) rfl⟩
 . have good:qu [(a,[b]),(b,[a,b])]:=Xp na nb ab (by simp [ab]) (by simp [ab]) (by simp) (by simp) (by simp)
   have ga:ju [(a,[b]),(b,[a,b])] a=[b]:=by rw[show a=((a,[b]):Str×List Str).1 from rfl,gv good (by simp)];simp [ab,ba,ac,ca,bc,cb]
   have gb:ju [(a,[b]),(b,[a,b])] b=[a,b]:=by rw[show b=((b,[a,b]):Str×List Str).1 from rfl,gv good (by simp)];simp [ab,ba,ac,ca,bc,cb]
   have va:QH [(a,.end_ 0),(b,.end_ 0)] a=.end_ 0:=by simp [QH,ab,ba,ac,ca,bc,cb]
   have vb:QH [(a,.end_ 0),(b,.end_ 0)] b=.end_ 0:=by simp [QH,ab,ba,ac,ca,bc,cb]
   exact⟨good,by simp,by simp,by simp,by simp [WD],iff_of_true (by simp [jM,JR,jA,qT,jH,xS,xR,xQ,yB,yA,yj,Lb.nm,ga,gb,va,vb]) rfl⟩
 . have good:qu [(a,[a,b]),(b,[])]:=Xp na nb ab (by simp [ab]) (by simp [ab]) (by simp) (by simp) (by simp)
   have ga:ju [(a,[a,b]),(b,[])] a=[a,b]:=by rw[show a=((a,[a,b]):Str×List Str).1 from rfl,gv good (by simp)];simp [ab,ba,ac,ca,bc,cb]
   have gb:ju [(a,[a,b]),(b,[])] b=[]:=by rw[show b=((b,[]):Str×List Str).1 from rfl,gv good (by simp)];simp [ab,ba,ac,ca,bc,cb]
   have va:QH [(a,.end_ 1),(b,.num 0 0)] a=.end_ 1:=by simp [QH,ab,ba,ac,ca,bc,cb]
   have vb:QH [(a,.end_ 1),(b,.num 0 0)] b=.num 0 0:=by simp [QH,ab,ba,ac,ca,bc,cb]
   exact⟨good,by simp,by simp,by simp,by simp [WD],iff_of_true (by simp [jM,JR,jA,qT,jH,xS,xR,xQ,yB,yA,yj,Lb.nm,ga,gb,va,vb]) rfl⟩
end
open PySem L2 PyProof.Rows MLab
def UE (K:PySem.W.Frag):Sp:=λvs H Q _=>∃(a:Addr) (ns:List Int),vs=[.ref a]/\SqL K H a (ns.map V.int)/\ns.length<=63/\∀H',Q (.bl true) H'
theorem Me {r:Int} (h0:0<=r) (h1:r < 3):∃mo:Nat,Uj [V.int 4,.int 6,.int 9] r=some (.int (mo:Int))/\0 < mo/\mo<=14:=by
 have:r=0\/r=1\/r=2:=by omega
 rcases this with rfl | rfl | rfl
 . exact⟨4,rfl,by decide,by decide⟩
 . exact⟨6,rfl,by decide,by decide⟩
 . exact⟨9,rfl,by decide,by decide⟩
theorem kq {H2:Hp} {l:Addr} {ps:List Addr} {rs:jz} {CG:Addr} {R:Hp->Prop} (hl2:H2 l=some (.lst (ps.map V.ref))) (rat:jS H2 ps rs) (good:qu rs) (pos:0 < rs.length) (le14:rs.length<=14)
   {l2:Addr} (hl2':H2 l2=none) {x dx:Addr} (hx:upd H2 l2 (.lst (ps.map V.ref)) x=none) (hdx:upd H2 l2 (.lst (ps.map V.ref)) dx=none) (ndx:dx≠x) {E:XK} (k:∀H4,qr H2 H4->Q0 CG H4 x rs->R H4):
   z6 CG [.ref x,.ref l2] (upd (upd (upd H2 l2 (.lst (ps.map V.ref))) dx (.own x)) x (.ins CG dx [])) (λv H'=>v=.non/\R H') E:=by
 have hx2:H2 x=none:=by
   by_cases e:x=l2
   . rw[e,qe]at hx;cases hx
   . rw[qi e]at hx;exact hx
 have hdx2:H2 dx=none:=by
   by_cases e:dx=l2
   . rw[e,qe]at hdx;cases hdx
   . rw[qi e]at hdx;exact hdx
 have s3:qr H2 (upd (upd (upd H2 l2 (.lst (ps.map V.ref))) dx (.own x)) x (.ins CG dx [])):=λb u hb=>by
   rw[qi (qE hb hx2),qi (qE hb hdx2),qi (qE hb hl2')]
   exact hb
 have hl3:upd (upd (upd H2 l2 (.lst (ps.map V.ref))) dx (.own x)) x (.ins CG dx []) l2=some (.lst (ps.map V.ref)):=by
   have n1:l2≠x:=λe=>by rw[<-e,qe]at hx;cases hx
   have n2:l2≠dx:=λe=>by rw[<-e,qe]at hdx;cases hdx
   rw[qi n1,qi n2]
   exact qe
 refine⟨x,dx,l2,ps,rs,rfl,⟨hl3,rat.mono s3,good,pos,le14⟩,qe,λH4 gr fr4=>⟨rfl,k H4 (λb u hb=>fr4 b u (s3 _ _ hb) (qE hb hx2)) gr⟩⟩
theorem Xx {H2:Hp} {l:Addr} {ps:List Addr} {rs:jz} {CG:Addr} {R:Hp->Prop} (g:jD H2 l ps rs) {x dx:Addr} (hx:H2 x=none) (hdx:H2 dx=none) (ndx:dx≠x) {E:XK} (k:∀H4,qr H2 H4->Q0 CG H4 x rs->R H4):
   z6 CG [.ref x,.ref l] (upd (upd H2 dx (.own x)) x (.ins CG dx [])) (λv H'=>v=.non/\R H') E:=by
 have s3:qr H2 (upd (upd H2 dx (.own x)) x (.ins CG dx [])):=λb u hb=>by
   rw[qi (qE hb hx),qi (qE hb hdx)]
   exact hb
 exact⟨x,dx,l,ps,rs,rfl,g.mono s3,qe,λH4 gr fr4=>⟨rfl,k H4 (λb u hb=>fr4 b u (s3 _ _ hb) (qE hb hx)) gr⟩⟩
def u7 (rs:jz) (R:Rs Str):Str->Lb:=Jk (ju rs) (jt R) (ZL R)
theorem u9 {rs:jz} {R:Rs Str} {z:Str}:Xc rs R z=Vd (u7 rs R z):=by
 unfold Xc u7 Jk K7
 cases jt R z<;>rfl
theorem Ra {R:Rs Str} {z:Str} {n:Nat} (e:jt R z=some n):ZL R z < R.length:=by
 unfold jt at e
 cases c:R.find? λr=>decide (z∈r.2) with
 | none=>rw[c]at e;cases e
 | some r=>exact zbT ⟨r,zbl c,by have:=List.find?_some c;exact this⟩
theorem RI {rs:jz} {R:Rs Str} (good:qu rs) (le:rs.length<=14) (a:All (ju rs) (rs.map (·.1)) 0 [] R) {z:Str} (hz:z∈rs.map (·.1)):Gf (u7 rs R z):=by
 have L:=RJ (Qz good.nd) a
 have lR:=uE (KC a .nil)
 rw[tj]at lR
 unfold u7 Jk
 cases e:jt R z with
 | some n=>exact⟨VT good L hz e,by have:=Ra e;omega⟩
 | none=>
   refine Rb.setN_lt (m:=9) λx hx=>?_
   obtain⟨y,hy,ey⟩:=zal.mp hx
   have:=VT good L (Qz good.nd z hz y hy) ey
   omega
theorem u6 {rs:jz} {R:Rs Str} (good:qu rs) (a:All (ju rs) (rs.map (·.1)) 0 [] R):∀z∈rs.map (·.1),jM (ju rs) (u7 rs R) z:=λz hz=>(RJ (Qz good.nd) a).fit hz
theorem MG {l:Lb} (h:Gf l):WD l:=by
 cases l with
 | num n s=>exact tV h.1 (by decide)
 | end_ b=>exact zcf h (by decide)
theorem uf {n s t:Int} {k:qI} {v:V} (h:qY (src n s t) k=some v):∃i,v=.int i:=by
 obtain⟨p,hp,e⟩:=zbp.mp h
 have:=zbl hp
 unfold src at this
 simp only[tR,zaF,or_false]at this
 rcases this with rfl | rfl | rfl<;>exact⟨_,e.symm⟩
theorem Q0.frd {CG:Addr} {H H':Hp} {g d:Addr} {rs:jz} {n s t:Int} (h:Q0 CG H g rs) (pos:0 < rs.length) (hd:H d=some (.dK (src n s t))) (f:Fr H d H'):Q0 CG H' g rs:=by
 obtain⟨dx',lo',rd',kvs',e1,e2,e3,e4⟩:=h
 refine⟨dx',lo',rd',kvs',f _ _ e1 (λz=>by rw[z,hd]at e1;cases e1),f _ _ e2 (λz=>by rw[z,hd]at e2;cases e2),f _ _ e3 (λz=>?_),λr' hr'=>let ⟨q',a1,a2⟩:=e4 r' hr';⟨q',a1,f _ _ a2 (λz=>by rw[z,hd]at a2;cases a2)⟩⟩
 rw[z,hd]at e3
 have e5:=HO.dK.inj (tK.inj e3)
 obtain⟨q',a1,_⟩:=e4 rs[0] (zbW pos)
 rw[<-e5]at a1
 obtain⟨i',e6⟩:=uf a1
 cases e6
theorem jD.frd {H H':Hp} {l d:Addr} {kv:List (qI×V)} {ps:List Addr} {rs:jz} (h:jD H l ps rs) (hd:H d=some (.dK kv)) (f:Fr H d H'):jD H' l ps rs:=by
 have kt:∀{a:Addr} {xs:List V},H a=some (.tup xs)->H' a=some (.tup xs):=λ{a xs} h=>f _ _ h (λz=>by rw[z,hd]at h;cases h)
 exact⟨f _ _ h.at_ (λz=>by have:=h.at_;rw[z,hd]at this;cases this),⟨h.rows.1,λi p r e1 e2=>let ⟨q,a,b⟩:=h.rows.2 i p r e1 e2;⟨q,kt a,kt b⟩⟩,h.good,h.pos,h.le⟩
theorem ug {K:PySem.W.Frag} {H H':Hp} {a d:Addr} {kv:List (qI×V)} {xs:List V} (h:SqL K H a xs) (hd:H d=some (.dK kv)) (f:Fr H d H'):SqL K H' a xs:=by
 rcases h with (h | ⟨o,h⟩) | h
 . exact .inl (.inl (f _ _ h (λz=>by rw[z,hd]at h;cases h)))
 . exact .inl (.inr ⟨o,f _ _ h (λz=>by rw[z,hd]at h;cases h)⟩)
 . exact .inr h
theorem Uq.lbd {H:Hp} {D:Addr} {rs:jz} {R:Rs Str} (h:Uq H D rs R):∃kvs,H D=some (.dK kvs)/\∀o,ye (upd H D (.frz o (.dK kvs))) D rs (u7 rs R):=by
 obtain⟨kvs,a,b,c⟩:=h.at_
 refine⟨kvs,a,λo=>⟨o,kvs,qe,b,λz hz=>?_⟩⟩
 obtain⟨r,hr,rfl⟩:=tE.mp hz
 obtain⟨t,e,q⟩:=c r hr
 refine⟨t,e,?_⟩
 rw[qi (λz=>by rw[z,a]at q;cases q),q,u9]
theorem ye.tgs {K:PySem.W.Frag} {H H':Hp} {D:Addr} {rs:jz} {f:Str->Lb} (h:ye H D rs f) (s:qr H H'):∃o kvs,H D=some (.frz o (.dK kvs))/\kvs.map (·.1)=(rs.map (·.1)).map Sum.inr/\kvs.length=rs.length/\zo K H' kvs rs λz=>NG (f z):=by
 obtain⟨o,kvs,a,b,c⟩:=h.at_
 refine⟨o,kvs,a,b,by simpa using congrArg zax b,λz hz=>?_⟩
 obtain⟨p,e,q⟩:=c z hz
 exact⟨_,e,yi (s _ _ q)⟩
structure Nm (K:PySem.W.Frag) (mg:Str->Option Value):Prop where
 cell:∃f fd,jr K mg "_law_cell_at" UN ["_law_script","_law_k"] f fd
 source:∃f fd,jr K mg "_law_source" z8 ["_law_cell"] f fd
 take:∃f fd,jr K mg "_law_take" Zr ["_law_source_here","_law_many"] f fd
 names:∃f fd,jr K mg "_law_names" Ys ["_law_source_here","_law_many"] f fd
 leads:∃f fd,jr K mg "_law_leads" Yt ["_law_source_here","_law_many","_law_shape","_law_low"] f fd
 rows:∃f fd,jr K mg "_law_rows" UJ ["_law_source_here","_law_most"] f fd
 need:∃f fd,jr K mg "need_rows" WS ["rows"] f fd
 b1:∃f fd,jr K mg "lacking" QR ["numbers"] f fd
 b2:∃f fd,jr K mg "set_of" Yp ["numbers"] f fd
 b3:∃f fd,jr K mg "numbers_in" Zz ["bits"] f fd
 c1:∃f fd,jr K mg "is_whole" Zx ["thing"] f fd
 c2:∃f fd,jr K mg "is_dict_of_places" yH ["ground","thing"] f fd
 c3:∃f fd,jr K mg "is_number" Yw ["thing"] f fd
 c4:∃f fd,jr K mg "is_set" Yu ["thing"] f fd
 c5:∃f fd,jr K mg "is_label" Yx ["thing"] f fd
 c6:∃f fd,jr K mg "is_ahead" zy ["other","label"] f fd
 c7:∃f fd,jr K mg "road_fits" Yq ["ground","told","label","end"] f fd
 c8:∃f fd,jr K mg "told_numbers_behind" vM ["ground","told","name"] f fd
 c9:∃f fd,jr K mg "numbered_fits" WR ["ground","told","name"] f fd
 d1:∃f fd,jr K mg "is_open_to" Zc ["label","number"] f fd
 d2:∃f fd,jr K mg "open_roads" Yr ["ground","labels","name"] f fd
 d3:∃f fd,jr K mg "endless_fits" WV ["ground","told","name"] f fd
 d4:∃f fd,jr K mg "label_fits" WT ["ground","told","name"] f fd
 d5:∃f fd,jr K mg "shows" Zy wP f fd
 e1:∃f fd,jr K mg "_law_numbers" Ji ["_law_rows_here"] f fd
 e2:∃f fd,jr K mg "_law_comes" Zb vT f fd
 e3:∃f fd,jr K mg "_law_back" ZA vT f fd
 e4:∃f fd,jr K mg "_law_labels" ZY ["_law_rows_here"] f fd
 e5:∃f fd,jr K mg "_law_whole" Za ["_law_thing"] f fd
 e6:∃f fd,jr K mg "_law_is_label" ZZ ["_law_thing"] f fd
 e7:∃f fd,jr K mg "_law_road_right" zx Nv f fd
 e8:∃f fd,jr K mg "_law_place_right" ZV N7 f fd
 e9:∃f fd,jr K mg "_law_due" WU Nw f fd
 f1:∃f fd,jr K mg "_law_steps" z9 K5 f fd
 f2:∃f fd,jr K mg "_law_other" ZW N6 f fd
 f3:∃f fd,jr K mg "_law_spoilt" ZU K5 f fd
 f4:∃f fd,jr K mg "_law_forged" Z0 K6 f fd
 f5:∃f fd,jr K mg "_law_mended" ZX K6 f fd
 f6:∃f fd,jr K mg "_law_asked" Ya MY f fd
section
variable {P:Program} {w:World} {K:PySem.W.Frag} {mg:Str->Option Value} {base:Heap}
theorem yy {CG:Addr} (B:JH mg) (G:Je mg) (T:J7 K mg) (TI:ZJ K mg) (any:mg "any"=none) (M:GM K mg CG) (m:∃t,mg "MOST_NUMBER"=some (.int 15 t)) (m':∃t,mg "MOST_BITS"=some (.int 65535 t)) (Z:Nm K mg):∃f fd,jr K mg "shows" Zy wP f fd/\qB P w K mg base q5 6 f fd wP (zZ P w K CG):=by
 obtain⟨fB1,fdB1,hB1⟩:=Z.b1
 obtain⟨fB2,fdB2,hB2⟩:=Z.b2
 obtain⟨fB3,fdB3,hB3⟩:=Z.b3
 obtain⟨fC1,fdC1,hC1⟩:=Z.c1
 obtain⟨fC2,fdC2,hC2⟩:=Z.c2
 obtain⟨fC3,fdC3,hC3⟩:=Z.c3
 obtain⟨fC4,fdC4,hC4⟩:=Z.c4
 obtain⟨fC5,fdC5,hC5⟩:=Z.c5
 obtain⟨fC6,fdC6,hC6⟩:=Z.c6
 obtain⟨fC7,fdC7,hC7⟩:=Z.c7
 obtain⟨fC8,fdC8,hC8⟩:=Z.c8
 obtain⟨fC9,fdC9,hC9⟩:=Z.c9
 obtain⟨fD1,fdD1,hD1⟩:=Z.d1
 obtain⟨fD2,fdD2,hD2⟩:=Z.d2
 obtain⟨fD3,fdD3,hD3⟩:=Z.d3
 obtain⟨fD4,fdD4,hD4⟩:=Z.d4
 obtain⟨fD5,fdD5,hD5⟩:=Z.d5
 have GD:qB P w K mg base q5 2 fC2 fdC2 ["ground","thing"] (yt P w K CG):=Ry hC2.fn B G TI T.all M
 have GE:qB P w K mg base q5 3 fC5 fdC5 ["thing"] (z5 K):=xu hC5.fn B TI hC1 hC3 hC4 m m'
 have G1:qB P w K mg base q5 4 fC9 fdC9 ["ground","told","name"] (VD K CG):=uK hC9.fn B G T M any hC6 hC8 hC7 hB1
 have G2:qB P w K mg base q5 4 fD3 fdD3 ["ground","told","name"] (VE K CG):=uR hD3.fn B G T M hB1 hB3 hD1 hC8 hB2 hD2
 have GP:qB P w K mg base q5 5 fD4 fdD4 ["ground","told","name"] (X8 K CG):=uO hD4.fn hC9 G1 hD3 G2
 exact⟨fD5,fdD5,hD5,xj hD5.fn B G T M hC2 GD hC5 GE hD4 GP⟩
end
open PySem L2 PyProof.Rows MLab
section
variable {P:Program} {w:World} {K:PySem.W.Frag} {mg:Str->Option Value} {base:Heap}
abbrev qaw:List Str:=["_law_script","_law_names_here","_law_rows_here","_law_told","_law_k","_law_source_here","_law_ground","_law_labels_here","_law_again","_law_thing"]
theorem Q3:qG qaw ["_law_script"] (qo Wd):=⟨rfl,rfl,rfl,by decide+kernel,rfl,by decide+kernel,by decide+kernel⟩
theorem Rx {f CG:Addr} {fd:FuncData} (F:Qn K "law" "law" Wd f fd) (B:JH mg) (G:Je mg) (T:J7 K mg) (TI:ZJ K mg) (any:mg "any"=none) (N:KG K mg) (M:GM K mg CG) (m:∃t,mg "MOST_NUMBER"=some (.int 15 t)) (m':∃t,mg "MOST_BITS"=some (.int 65535 t)) (Z:Nm K mg):qB P w K mg base q5 8 f fd ["_law_script"] (UE K):=by
 obtain⟨fO,fdO,hO⟩:=Z.cell
 obtain⟨fL,fdL,hL⟩:=Z.source
 obtain⟨fT,fdT,hT⟩:=Z.take
 obtain⟨fN,fdN,hN⟩:=Z.names
 obtain⟨fD,fdD,hD⟩:=Z.leads
 obtain⟨fR,fdR,hR⟩:=Z.rows
 obtain⟨fW,fdW,hW⟩:=Z.need
 obtain⟨fE1,fdE1,hE1⟩:=Z.e1
 obtain⟨fE2,fdE2,hE2⟩:=Z.e2
 obtain⟨fE3,fdE3,hE3⟩:=Z.e3
 obtain⟨fE4,fdE4,hE4⟩:=Z.e4
 obtain⟨fE5,fdE5,hE5⟩:=Z.e5
 obtain⟨fE6,fdE6,hE6⟩:=Z.e6
 obtain⟨fE7,fdE7,hE7⟩:=Z.e7
 obtain⟨fE8,fdE8,hE8⟩:=Z.e8
 obtain⟨fE9,fdE9,hE9⟩:=Z.e9
 obtain⟨fF1,fdF1,hF1⟩:=Z.f1
 obtain⟨fF2,fdF2,hF2⟩:=Z.f2
 obtain⟨fF3,fdF3,hF3⟩:=Z.f3
 obtain⟨fF4,fdF4,hF4⟩:=Z.f4
 obtain⟨fF5,fdF5,hF5⟩:=Z.f5
 obtain⟨fF6,fdF6,hF6⟩:=Z.f6
 obtain⟨fI,fdI,C⟩:=M.cls
 have GO:qB P w K mg base q5 1 fO fdO ["_law_script","_law_k"] (yw K):=uS hO.fn B
 have GL:qB P w K mg base q5 1 fL fdL ["_law_cell"] WP:=vX hL.fn B
 have GT:qB P w K mg base q5 1 fT fdT ["_law_source_here","_law_many"] Q9:=Jr hT.fn
 have GN:qB P w K mg base q5 2 fN fdN ["_law_source_here","_law_many"] X6:=W3 hN.fn B hT
 have GR:qB P w K mg base q5 3 fR fdR ["_law_source_here","_law_most"] yq:=uJ hR.fn B G hT hN hD
 have GI:qB P w K mg base q5 6 fI fdI ["self","rows"] (z6 CG):=xv C B G T N hW
 obtain⟨fS,fdS,hS,GS⟩:∃f fd,jr K mg "shows" Zy wP f fd/\qB P w K mg base q5 6 f fd wP (zZ P w K CG):=yy B G T TI any M m m' Z
 have GLa:qB P w K mg base q5 4 fE4 fdE4 ["_law_rows_here"] KU:=VS hE4.fn B TI.dict hE3 hE2 hE1
 have GDu:qB P w K mg base q5 3 fE9 fdE9 Nw (yv P w K):=uN hE9.fn B G TI T.str hE5 hE6 hE7 hE8
 have GAs:qB P w K mg base q5 7 fF6 fdF6 MY (KW P w K CG):=xw hF6.fn B TI hS GS hE9 GDu
 have GSt:qB P w K mg base q5 2 fF1 fdF1 K5 (zY P w K):=xi hF1.fn B hT
 have GSp:qB P w K mg base q5 3 fF3 fdF3 K5 (zY P w K):=vW hF3.fn B G TI hT hF2
 have GFg:qB P w K mg base q5 1 fF4 fdF4 K6 (ui Kq):=ki hF4.fn
 have GMd:qB P w K mg base q5 1 fF5 fdF5 K6 (ui u0):=vY hF5.fn
 refine F.okJ Q3 (λvs H Q E z=>?_) (λcdv A outer s H vs Q E hr z=>?_)
 . obtain⟨a,ns,rfl,_⟩:=z
   rfl
 . obtain⟨a,ns,rfl,hq,hlen,k⟩:=z
   have hu:=jQ hr
   have r1:jE 1 _:=hr.mono (by decide)
   have r2:jE 2 _:=hr.mono (by decide)
   have r3:jE 3 _:=hr.mono (by decide)
   have r4:jE 4 _:=hr.mono (by decide)
   have r6:jE 6 _:=hr.mono (by decide)
   refine⟨_,qg (qz (i:=1) Q3.nd rfl (Or.inl rfl) (qO hN GN r2 (by rfl) (qb (qO hL GL r1 (by rfl) (qb (qO hO GO r1 (by rfl) (qb (jv 0) (qb qf qd))) qd)) (qb qf qd))))
     (qg (jp PassesOwn.never rfl (jl (qO hF4 GFg r1 (by rfl) (qb (jv 1) qd))) (YT rfl (jw (qv (i:=2) Q3.nd rfl (Or.inl rfl)) (jw (qv (i:=3) Q3.nd rfl (Or.inl rfl)) Ju)))
       (qh (qS (qt Zd (qO hS GS r6 (by rfl) (qb (Wo C.mkr GI hr (by rfl) C.ns C.bi .nil Xq (qb (jv 2) qd)) (qb (jv 3) qd))) ja (qp _)) (qh (qA ja)) qF)))
     (qg (jp PassesOwn.never rfl (jl (qO hF5 GMd r1 (by rfl) (qb (jv 1) qd))) (YT rfl (jw (qv (i:=2) Q3.nd rfl (Or.inl rfl)) (jw (qv (i:=3) Q3.nd rfl (Or.inl rfl)) Ju)))
       (qh (qS (qt Zd (qO hS GS r6 (by rfl) (qb (Wo C.mkr GI hr (by rfl) C.ns C.bi .nil Xq (qb (jv 2) qd)) (qb (jv 3) qd))) ja (qp _)) (qh (qA ja)) qF)))
     (qg (jp PassesOwn.never rfl (jK (by rfl) B.rng (qb (qy (XO rfl) (by rfl) B.max boot_max (qb qf (qb (qy (kZ rfl) (by rfl) B.min boot_min (qb (qy qU (by rfl) B.len boot_len (qb (jv 0) qd)) (qb qf qd))) qd))) qd))
       (qv (i:=4) Q3.nd rfl (Or.inl rfl))
       (qg (qz (i:=5) Q3.nd rfl (Or.inl rfl) (qO hL GL r1 (by rfl) (qb (qO hO GO r1 (by rfl) (qb (jv 0) (qb (jv 4) qd))) qd)))
       (qg (qz (i:=2) Q3.nd rfl (Or.inl rfl) (qO hR GR r3 (by rfl) (qb (jv 5) (qb (qD Qh (qV (qb qf (qb qf (qb qf qd)))) (qO hT GT r1 (by rfl) (qb (jv 5) (qb qf qd))) (λ_ _=>rfl)) qd))))
       (qg (qz (i:=6) Q3.nd rfl (Or.inl rfl) (Wo C.mkr GI hr (by rfl) C.ns C.bi .nil Xq (qb (jq QK (by rfl) G.lst boot_list (qb (jv 2) qd)) qd)))
       (qg (qz (i:=7) Q3.nd rfl (Or.inl rfl) (V2 (qO hE4 GLa r4 (by rfl) (qb (jv 2) qd))))
       (qg (qS (qt Zd (qO hS GS r6 (by rfl) (qb (jv 6) (qb (jq ZH (by rfl) TI.dict boot_dict (qb (jv 7) qd)) qd))) ja (qp _)) (qh (qA ja)) qF)
       (qg (jp PassesOwn.never rfl (jK (by rfl) B.rng (qb qf qd)) (qv (i:=8) Q3.nd rfl (Or.inl rfl))
         (qh (qS (j1 (jF (qO hF6 GAs hr (by rfl) (qb (jv 2) (qb (jv 6) (qb (qO hF1 GSt r2 (by rfl) (qb (jv 5) (qb (jv 7) qd))) qd)))))) (qh (qA ja)) qF)))
       (qg (jp PassesOwn.never rfl (jK (by rfl) B.rng (qb qf qd)) (qv (i:=8) Q3.nd rfl (Or.inl rfl))
         (qh (qS (j1 (jF (qO hF6 GAs hr (by rfl) (qb (jv 2) (qb (jv 6) (qb (qO hF3 GSp r3 (by rfl) (qb (jv 5) (qb (jv 7) qd))) qd)))))) (qh (qA ja)) qF)))
       (qg (qz (i:=9) Q3.nd rfl (Or.inl rfl) (qD Qh (qV (qb YU (qb (qV (qb (jv 7) qd)) (qb qf (qb qx (qb (qk qd) (qb Qc (qb ja (qb (qy (ZF rfl) (by rfl) G.srt boot_sorted (qb (jv 7) qd)) qd))))))))) (qO hT GT r1 (by rfl) (qb (jv 5) (qb qf qd))) (λ_ _=>rfl)))
       (qh (qS (qt Zd (qO hS GS r6 (by rfl) (qb (jv 6) (qb (jv 9) qd))) ja (qp _)) (qh (qA ja)) qF)))))))))))
     (qh (qA ja))))),?_⟩
   refine⟨_,rfl,a,ns,0,rfl,hq,by decide,λc=>⟨c,rfl,λd0 n0 s0 hd0=>?_⟩⟩
   refine⟨d0,3,n0,s0,0,rfl,qe,by decide,λln zs n1 t1 H1 hln hl1 lz nmz ndz hd1 fr1=>?_⟩
   have sm1:qr H H1:=λb u hb=>by
     have nb:b≠d0:=qE hb hd0
     refine fr1 b u ?_ nb
     rw[qi nb]
     exact hb
   obtain⟨za,zb,zc,rfl⟩:∃x y z,zs=[x,y,z]:=by
     cases zs with
     | nil=>cases lz
     | cons x zs=>
       cases zs with
       | nil=>cases lz
       | cons y zs=>
         cases zs with
         | nil=>cases lz
         | cons z zs=>
           cases zs with
           | nil=>exact⟨x,y,z,rfl⟩
           | cons _ _=>cases lz
   have na:=nmz za (by simp)
   have nb:=nmz zb (by simp)
   have nc:=nmz zc (by simp)
   have dis:za≠zb/\za≠zc/\zb≠zc:=by
     simp at ndz
     exact⟨ndz.1.1,ndz.1.2,ndz.2⟩
   refine⟨_,rfl,ln,za,zb,zc,rfl,hl1,ndz,λlf vf H2 s2 hlf cf=>?_⟩
   refine⟨lf,rfl,⟨_,.of hlf⟩,?_⟩
   refine j7 (K:=K) (a:=lf) (xs:=vf) (λi σ' G=>∃v2 v3,σ'=[some (.ref a),some (.ref ln),v2,v3,none,none,none,none,none,none]/\qr H2 G) ⟨none,none,rfl,λ_ _ h=>h⟩ (λi σ G _ ⟨_,_,_,s⟩=>.of (s _ _ hlf)) ?_ ?_
   . rintro i v σ' G0 ev ⟨v2,v3,rfl,sG⟩
     obtain⟨c',ec,cv⟩:=Qv cf ev
     have ok:=Mt na nb nc dis.1 dis.2.1 dis.2.2 c' (tY ec)
     obtain⟨p,L,D,ps,kvs,t,rfl,hp,ga,hDD,lk,tg,gl⟩:=(cv.mono sG).ask (K:=K) ok
     refine⟨p,_,rfl,.of hp,rfl,_,_,rfl,_,_,rfl,rfl,?_⟩
     refine⟨_,rfl,λx dx hx hdx ndx=>Xx ga hx hdx ndx λH4 s4 gr=>?_⟩
     refine⟨_,rfl,x,.ref D,c'.1,rfl,gr,ok.good,ok.le,.inr ⟨D,kvs,t,rfl,.inl (s4 _ _ hDD),lk,tg.mono s4,λH5 b s5 hb=>?_⟩⟩
     obtain rfl:b=false:=by
       cases b with
       | false=>rfl
       | true=>exact absurd (gl.mp (hb.mp rfl)) (by decide)
     exact⟨false,false,rfl,rfl,_,rfl,qL (by decide) ⟨_,_,rfl,sG.trans (s4.trans s5)⟩⟩
   rintro σ' G0 ⟨v2,v3,rfl,sG⟩
   have s12:=s2.trans sG
   refine⟨_,rfl,ln,za,zb,zc,rfl,s12 _ _ hl1,ndz,λlm vm H3 s3 hlm cm=>?_⟩
   refine⟨lm,rfl,⟨_,.of hlm⟩,?_⟩
   refine j7 (K:=K) (a:=lm) (xs:=vm) (λi σ' G=>∃v2 v3,σ'=[some (.ref a),some (.ref ln),v2,v3,none,none,none,none,none,none]/\qr H3 G) ⟨_,_,rfl,λ_ _ h=>h⟩ (λi σ G _ ⟨_,_,_,s⟩=>.of (s _ _ hlm)) ?_ ?_
   . rintro i v σ' G1 ev ⟨v2,v3,rfl,sG1⟩
     obtain⟨c',ec,cv⟩:=Qv cm ev
     have ok:=Mf na nb nc dis.1 dis.2.1 dis.2.2 c' (tY ec)
     obtain⟨p,L,D,ps,kvs,t,rfl,hp,ga,hDD,lk,tg,gl⟩:=(cv.mono sG1).ask (K:=K) ok
     refine⟨p,_,rfl,.of hp,rfl,_,_,rfl,_,_,rfl,rfl,?_⟩
     refine⟨_,rfl,λx dx hx hdx ndx=>Xx ga hx hdx ndx λH4 s4 gr=>?_⟩
     refine⟨_,rfl,x,.ref D,c'.1,rfl,gr,ok.good,ok.le,.inr ⟨D,kvs,t,rfl,.inl (s4 _ _ hDD),lk,tg.mono s4,λH5 b s5 hb=>?_⟩⟩
     obtain rfl:b=true:=hb.mpr (gl.mpr rfl)
     exact⟨true,true,rfl,rfl,_,rfl,qL (by decide) ⟨_,_,rfl,sG1.trans (s4.trans s5)⟩⟩
   rintro σ' G1 ⟨w2,w3,rfl,sG1⟩
   have sm3:qr H G1:=sm1.trans (s12.trans (s3.trans sG1))
   have hqG:SqL K G1 a (ns.map V.int):=sm3.seq hq
   refine⟨_,rfl,a,_,rfl,.inl hqG,_,_,rfl,_,_,rfl,?_⟩
   generalize hj:(if (if (5:Int) < ((ns.map V.int).length:Int) then (5:Int) else ((ns.map V.int).length:Int)) > 2 then (if (5:Int) < ((ns.map V.int).length:Int) then (5:Int) else ((ns.map V.int).length:Int)) else 2)=jj
   have jb:-(2^62)<=jj/\jj < 2^62:=by
     rw[<-hj]
     split<;>split<;>omega
   refine⟨jj,rfl,jb.1,jb.2,?_⟩
   refine Ql (λi σ H'=>∃v2 v3 v4 v5 v6 v7 v8 v9,σ=[some (.ref a),some (.ref ln),v2,v3,v4,v5,v6,v7,v8,v9]/\SqL K H' a (ns.map V.int)) ⟨_,_,_,_,_,_,_,_,rfl,hqG⟩ ?_ ?_
   . rintro i σ H' hi ⟨v2,v3,v4,v5,v6,v7,v8,v9,rfl,hq2⟩
     refine⟨_,rfl,_,rfl,a,ns,_,rfl,hq2,by omega,λc=>⟨c,rfl,λd n sd hd=>?_⟩⟩
     refine⟨_,rfl,by show 3<=sizeLine;decide,λlp hlp=>?_⟩
     have ndp:lp≠d:=λe=>by rw[e,qe]at hlp;cases hlp
     refine⟨_,rfl,d,3,n,sd,0,rfl,ql qe hlp,by decide,by decide,λr n1 t1 r0 r1'=>?_⟩
     obtain⟨mo,em,m0,m14⟩:=Me r0 r1'
     refine⟨lp,_,r,_,rfl,rfl,.of (by rw[qi ndp];exact qe),em,d,mo,n1,sd,t1,rfl,qe,m0,m14,λl ps rs n2 t2 H2 hl hl2 rat good pos le hd2 fr2=>?_⟩
     have hlp':H' lp=none:=by rw[qi ndp]at hlp;exact hlp
     have sm:qr H' H2:=λb u hb=>by
       have nb:b≠d:=qE hb hd
       refine fr2 b u ?_ nb
       rw[qi nb,qi (qE hb hlp'),qi nb]
       exact hb
     have le14:rs.length<=14:=tV le m14
     have g2:jD H2 l ps rs:=⟨hl2,rat,good,pos,le14⟩
     refine⟨_,rfl,l,_,rfl,.inl (.of hl2),λl2 hl2' x dx hx hdx ndx=>?_⟩
     refine kq hl2 rat good pos le14 hl2' hx hdx ndx λH4 s4 gr=>?_
     have g4:jD H4 l ps rs:=g2.mono s4
     refine⟨_,rfl,l,ps,rs,rfl,g4,λH5 Dl R s5 hDl lab all=>?_⟩
     obtain⟨kvl,hDl5,lbd⟩:=lab.lbd
     refine⟨Dl,kvl,rfl,hDl5,λo=>?_⟩
     have s6:qr H4 (upd H5 Dl (.frz o (.dK kvl))):=λb u hb=>by rw[qi (qE hb hDl)];exact s5 _ _ hb
     have lb6:=lbd o
     generalize upd H5 Dl (.frz o (.dK kvl))=H6 at s6 lb6
     have bd:∀z∈rs.map (·.1),Gf (u7 rs R z):=λz hz=>RI good le14 all hz
     obtain⟨o',kv6,hDl6,ek6,lk6,tg6⟩:=lb6.tgs (K:=K) (λ_ _ h=>h)
     refine⟨_,rfl,_,rfl,Dl,kv6,rfl,.inr ⟨o',hDl6⟩,λD' hD'=>?_⟩
     refine⟨x,.ref D',rs,rfl,(gr.mono s6).mono (qj hD'),good,le14,.inr ⟨D',kv6,_,rfl,.inl qe,lk6,tg6.mono (qj hD'),λH8 b s8 hb=>?_⟩⟩
     obtain rfl:b=true:=hb.mpr ((Vg good λz hz=>⟨rfl,MG (bd z hz)⟩).mpr (u6 good all))
     refine⟨true,true,rfl,rfl,_,rfl,qL (by decide) ?_⟩
     have s68:qr H6 H8:=(qj hD').trans s8
     have s28:qr H2 H8:=s4.trans (s6.trans s68)
     have hd8:=s28 _ _ hd2
     have g8:=g2.mono s28
     have gr8:=(gr.mono s6).mono s68
     have lb8:=lb6.mono s68
     have hq8:SqL K H8 a (ns.map V.int):=s28.seq (sm.seq hq2)
     clear s68 s8 hb tg6
     refine⟨3,rfl,by decide,by decide,?_⟩
     refine Ql (λm σ' G=>∃w8 n' t',σ'=[some (.ref a),some (.ref ln),some (.ref l),v3,some (.int (0+(i:Int))),some (.ref d),some (.ref x),some (.ref Dl),w8,v9]/\Fr H8 d G/\G d=some (.dK (src n' sd t'))) ⟨_,_,_,rfl,Fr.refl,hd8⟩ ?_ ?_
     . rintro m σ' G0 hm ⟨w8,n',t',rfl,fr,hdG⟩
       refine⟨_,rfl,_,rfl,_,rfl,_,rfl,d,Dl,rs,u7 rs R,n',sd,t',rfl,hdG,lb8.fr hd8 fr,bd,good,pos,le14,λD1 n3 t3 G2 hD1 told hd3 fr3=>?_⟩
       refine⟨l,x,D1,ps,rs,rfl,(g8.frd hd8 fr).frd hdG fr3,(gr8.frd pos hd8 fr).frd pos hdG fr3,told,λG3 k3=>⟨_,rfl,jg ?_⟩⟩
       exact⟨_,n3,t3,rfl,λb u hb nb=>k3 b u (qE (fr b u hb nb) hD1) (fr3 b u (fr b u hb nb) nb),k3 d _ (qE hdG hD1) hd3⟩
     rintro σ' G4 ⟨w8,n4,t4,rfl,fr4,hd4⟩
     refine⟨8,rfl,by decide,by decide,?_⟩
     refine Ql (λm σ' G=>∃w8 n' t',σ'=[some (.ref a),some (.ref ln),some (.ref l),v3,some (.int (0+(i:Int))),some (.ref d),some (.ref x),some (.ref Dl),w8,v9]/\Fr H8 d G/\G d=some (.dK (src n' sd t'))) ⟨_,_,_,rfl,fr4,hd4⟩ ?_ ?_
     . rintro m σ' G0 hm ⟨w8,n',t',rfl,fr,hdG⟩
       refine⟨_,rfl,_,rfl,_,rfl,_,rfl,d,Dl,rs,u7 rs R,n',sd,t',rfl,hdG,lb8.fr hd8 fr,bd,good,pos,le14,λD1 n3 t3 G2 hD1 told hd3 fr3=>?_⟩
       refine⟨l,x,D1,ps,rs,rfl,(g8.frd hd8 fr).frd hdG fr3,(gr8.frd pos hd8 fr).frd pos hdG fr3,told,λG3 k3=>⟨_,rfl,jg ?_⟩⟩
       exact⟨_,n3,t3,rfl,λb u hb nb=>k3 b u (qE (fr b u hb nb) hD1) (fr3 b u (fr b u hb nb) nb),k3 d _ (qE hdG hD1) hd3⟩
     rintro σ' G5 ⟨w9,n5,t5,rfl,fr5,hd5⟩
     obtain⟨o5,kv5,hDl5',ek5,lk5,_⟩:=(lb8.fr hd8 fr5).tgs (K:=K) (λ_ _ h=>h)
     refine⟨_,rfl,by show 1<=sizeLine;decide,λp1 hp1=>⟨by show 0<=sizeLine;decide,λp2 hp2 de hde=>?_⟩⟩
     have sa:qr G5 (upd (upd (upd G5 p1 (.lst [.ref Dl])) p2 (.tup [])) de (.dK [])):=(qj hp1).trans ((qj hp2).trans (qj hde))
     have e1:upd (upd (upd G5 p1 (.lst [.ref Dl])) p2 (.tup [])) de (.dK []) p1=some (.lst [.ref Dl]):=ql (ql qe hp2) hde
     have e2:upd (upd (upd G5 p1 (.lst [.ref Dl])) p2 (.tup [])) de (.dK []) p2=some (.tup []):=ql qe hde
     have e3:upd (upd (upd G5 p1 (.lst [.ref Dl])) p2 (.tup [])) de (.dK []) de=some (.dK []):=qe
     generalize upd (upd (upd G5 p1 (.lst [.ref Dl])) p2 (.tup [])) de (.dK [])=Ga at sa e1 e2 e3
     refine⟨_,rfl,Dl,kv5,rs.map (·.1),rfl,.inr ⟨o5,sa _ _ hDl5'⟩,ek5,by rw[tj];omega,λls ys hls pm srt=>⟨by show 8<=sizeLine;decide,λlt hlt=>?_⟩⟩
     have sb:qr Ga (upd (upd Ga ls (.lst (ys.map V.str))) lt (.lst [V.non,.ref p1,.int 5,.str (Str.ofString "labels"),.ref p2,.ref de,.bl true,.ref ls])):=(qj hls).trans (qj hlt)
     have b4:upd (upd Ga ls (.lst (ys.map V.str))) lt (.lst [V.non,.ref p1,.int 5,.str (Str.ofString "labels"),.ref p2,.ref de,.bl true,.ref ls]) ls=some (.lst (ys.map V.str)):=ql qe hlt
     have b5:upd (upd Ga ls (.lst (ys.map V.str))) lt (.lst [V.non,.ref p1,.int 5,.str (Str.ofString "labels"),.ref p2,.ref de,.bl true,.ref ls]) lt=some (.lst [V.non,.ref p1,.int 5,.str (Str.ofString "labels"),.ref p2,.ref de,.bl true,.ref ls]):=qe
     generalize upd (upd Ga ls (.lst (ys.map V.str))) lt (.lst [V.non,.ref p1,.int 5,.str (Str.ofString "labels"),.ref p2,.ref de,.bl true,.ref ls])=Gb at sb b4 b5
     have b1:=sb _ _ e1
     have b2:=sb _ _ e2
     have b3:=sb _ _ e3
     have hdb:=sb _ _ (sa _ _ hd5)
     refine⟨_,rfl,d,8,n5,sd,t5,rfl,hdb,by decide,by decide,λr n6 t6 ra rb=>?_⟩
     have f6:Fr Gb d (upd Gb d (.dK (src n6 sd t6))):=Fr.at_d Fr.refl
     have nd':∀{q:Addr} {u:HO},Gb q=some u->u≠.dK (src n5 sd t5)->upd Gb d (.dK (src n6 sd t6)) q=some u:=λ{q u} h ne=>f6 _ _ h (λz=>by rw[z,hdb]at h;exact ne (tK.inj h).symm)
     have c1:=nd' b1 (λz=>nomatch z)
     have c2:=nd' b2 (λz=>nomatch z)
     have c3:=nd' b3 (λz=>by unfold src at z;cases z)
     have c4:=nd' b4 (λz=>nomatch z)
     have c5:=nd' b5 (λz=>nomatch z)
     have fr6:Fr H8 d (upd Gb d (.dK (src n6 sd t6))):=Fr.at_d (fr5.same (sa.trans sb))
     generalize upd Gb d (.dK (src n6 sd t6))=Gc at c1 c2 c3 c4 c5 fr6
     have pick:∃v,Uj [V.non,.ref p1,.int 5,.str (Str.ofString "labels"),.ref p2,.ref de,.bl true,.ref ls] r=some v/\Pl P w K Gc rs v false:=by
       have c8:r=0\/r=1\/r=2\/r=3\/r=4\/r=5\/r=6\/r=7:=by omega
       rcases c8 with rfl | rfl | rfl | rfl | rfl | rfl | rfl | rfl
       . exact⟨_,rfl,.dat .non⟩
       . exact⟨_,rfl,.lst (.of c1)⟩
       . exact⟨_,rfl,.dat (.int 5)⟩
       . exact⟨_,rfl,.dat (.str _)⟩
       . exact⟨_,rfl,.dat (.tup (.of c2) .nil)⟩
       . exact⟨_,rfl,Pl.to (.dk (.inl c3)) (by rw[decide_eq_false (by simp;omega)];rfl)⟩
       . exact⟨_,rfl,.dat (.bl true)⟩
       . exact⟨_,rfl,.lst (.of c4)⟩
     obtain⟨v,ev,pl⟩:=pick
     refine⟨lt,_,r,v,rfl,rfl,.of c5,ev,?_⟩
     refine⟨_,rfl,_,rfl,x,v,rs,rfl,gr8.frd pos hd8 fr6,good,le14,.inl ⟨pl,λH9 s9=>⟨false,false,rfl,rfl,_,rfl,qL (by decide) ?_⟩⟩⟩
     exact⟨_,_,_,_,_,_,_,_,rfl,s9.seq (ug hq8 hd8 fr6)⟩
   . rintro σ H' ⟨v2,v3,v4,v5,v6,v7,v8,v9,rfl,_⟩
     exact k H'
end
open PySem L2 PyProof.Rows MLab
theorem kss {K:PySem.W.Frag}:zao K (.type "str") (.type "str")=some true:=by kernel_rfl
theorem ktt {K:PySem.W.Frag}:zao K (.type "tuple") (.type "tuple")=some true:=by kernel_rfl
theorem kll {K:PySem.W.Frag}:zao K (.type "list") (.type "list")=some true:=by kernel_rfl
theorem kI {K:PySem.W.Frag}:∀t∈Yh,∀c∈["int","bool","tuple","dict"],zao K (.type t) (.type c)=some (Wp t c):=by
 intro t ht c hc
 simp only[Yh,tR,zaF,or_false]at ht hc
 rcases ht with rfl | rfl | rfl | rfl | rfl | rfl | rfl<;>rcases hc with rfl | rfl | rfl | rfl<;>kernel_rfl
section
variable {K:PySem.W.Frag}
def MF (K:PySem.W.Frag) (n q:Str) (s:Stmt) (f:Addr):Prop:=∃fd,Qn K n q s f fd
theorem MF.mk' {x qual:Str} {st:Stmt} {f:Addr} {oc:Value} {od an:Option Addr} {osl:Array (Option Value)} {kV doc pm cdv ct:Value} (l:K.lookup f=some ⟨oc,od,.func (zbd x qual (QJ st) (Qr st) (qo st) .none kV doc pm an cdv ct),osl⟩) (c:zbw K cdv qual=true) (k:zaQ K (.ref f)=true):MF K x qual st f:=⟨_,V8 l c k⟩
def HF (K:PySem.W.Frag) (n:Str) (s:Stmt) (f:Addr):Prop:=zae K mainGlobals n=some (some (.ref f))/\MF K n n s f
theorem HF.mk' {x:Str} {st:Stmt} {f:Addr} {oc:Value} {od an:Option Addr} {osl:Array (Option Value)} {kV doc pm cdv ct:Value} (a:zae K mainGlobals x=some (some (.ref f))) (l:K.lookup f=some ⟨oc,od,.func (zbd x x (QJ st) (Qr st) (qo st) .none kV doc pm an cdv ct),osl⟩) (c:zbw K cdv x=true) (k:zaQ K (.ref f)=true):HF K x st f:=⟨a,_,V8 l c k⟩
theorem HF.has {h:Heap} {mg:Str->Option Value} {n:Str} {s:Stmt} {f:Addr} {ps:List Str} (l:HF K n s f) (X:K.In h) (G:h.Ns mainGlobals mg) (b:∀{fd},Qn K n n s f fd->QY K fd ps []):∃fd,jr K mg n s ps f fd:=let ⟨a,fd,F⟩:=l;⟨fd,F,zbf X G a,b F⟩
end
theorem all_mk {l:PySem.W.OpenLaw} {w:World} {K:PySem.W.Frag} {h:Heap} {mg:Str->Option Value} {fa:Addr} (X:K.In h) (G:h.Ns mainGlobals mg) (hfa:mg "law"=some (.ref fa))
   {fO fL fT fN fD fR fA1 fA2 fA3 fA4 fA5 fA6 fA7 fA8 fB1 fB2 fB3 fC1 fC2 fC3 fC4 fC5 fC6 fC7 fC8 fC9 fD1 fD2 fD3 fD4 fD5 fE1 fE2 fE3 fE4 fE5 fE6 fE7 fE8 fE9 fF1 fF2 fF3 fF4 fF5 fF6 fCGi fCGM fCGF:Addr}
   {fLAW:Addr} {odLAW anLAW:Option Addr} {slLAW:Array (Option Value)} {ocLAW kVLAW dcLAW pmLAW cdLAW ctLAW:Value}
   {CG:Addr}
   {tm1:Tok}
   {tm2:Tok}
   {tm3:Tok}
   {tm4:Tok}
   {tm5:Tok}
   {tm6:Tok}
   (lO:HF K "_law_cell_at" UN fO)
   (lL:HF K "_law_source" z8 fL)
   (lT:HF K "_law_take" Zr fT)
   (lN:HF K "_law_names" Ys fN)
   (lD:HF K "_law_leads" Yt fD)
   (lR:HF K "_law_rows" UJ fR)
   (lA1:HF K "is_name" ZT fA1)
   (lA2:HF K "is_tuple_of_names" Xo fA2)
   (lA3:HF K "is_row" Yv fA3)
   (lA4:HF K "need_form" UL fA4)
   (lA5:HF K "need_own_names" uw fA5)
   (lA6:HF K "need_ends" UM fA6)
   (lA7:HF K "need_few_roads" ux fA7)
   (lA8:HF K "need_rows" WS fA8)
   (lB1:HF K "lacking" QR fB1)
   (lB2:HF K "set_of" Yp fB2)
   (lB3:HF K "numbers_in" Zz fB3)
   (lC1:HF K "is_whole" Zx fC1)
   (lC2:HF K "is_dict_of_places" yH fC2)
   (lC3:HF K "is_number" Yw fC3)
   (lC4:HF K "is_set" Yu fC4)
   (lC5:HF K "is_label" Yx fC5)
   (lC6:HF K "is_ahead" zy fC6)
   (lC7:HF K "road_fits" Yq fC7)
   (lC8:HF K "told_numbers_behind" vM fC8)
   (lC9:HF K "numbered_fits" WR fC9)
   (lD1:HF K "is_open_to" Zc fD1)
   (lD2:HF K "open_roads" Yr fD2)
   (lD3:HF K "endless_fits" WV fD3)
   (lD4:HF K "label_fits" WT fD4)
   (lD5:HF K "shows" Zy fD5)
   (lE1:HF K "_law_numbers" Ji fE1)
   (lE2:HF K "_law_comes" Zb fE2)
   (lE3:HF K "_law_back" ZA fE3)
   (lE4:HF K "_law_labels" ZY fE4)
   (lE5:HF K "_law_whole" Za fE5)
   (lE6:HF K "_law_is_label" ZZ fE6)
   (lE7:HF K "_law_road_right" zx fE7)
   (lE8:HF K "_law_place_right" ZV fE8)
   (lE9:HF K "_law_due" WU fE9)
   (lF1:HF K "_law_steps" z9 fF1)
   (lF2:HF K "_law_other" ZW fF2)
   (lF3:HF K "_law_spoilt" ZU fF3)
   (lF4:HF K "_law_forged" Z0 fF4)
   (lF5:HF K "_law_mended" ZX fF5)
   (lF6:HF K "_law_asked" Ya fF6)
   (aLAW:zae K mainGlobals "law"=some (some (.ref fLAW)))
   (lLAW:K.lookup fLAW=some ⟨ocLAW,odLAW,.func (zbd "law" "law" (QJ Wd) (Qr Wd) (qo Wd) .none kVLAW dcLAW pmLAW anLAW cdLAW ctLAW),slLAW⟩)
   (cLAW:zbw K cdLAW "law"=true)
   (kLAW:zaQ K (.ref fLAW)=true)
   (nCG:zae K mainGlobals "Ground"=some (some (.ref CG)))
   (pgCG:zbA K CG Str.empty=true)
   (hdCG:zbN K CG=true)
   (poCG:zcp K CG=true)
   (saCG:zan K (.ref CG) "__setattr__"=some (some (.builtin "object.__setattr__")))
   (mkCG:zcH K CG=true)
   (inCG:zan K (.ref CG) "__init__"=some (some (.ref fCGi)))
   (fiCG:zbB K (.ref fCGi)=true)
   (kcCG:zaQ K (.ref CG)=true)
   (noCG:zan K (.ref CG) "order"=some none)
   (nrCG:zan K (.ref CG) "roads"=some none)
   (lCGi:MF K "__init__" "Ground.__init__" VJ fCGi)
   (atCGM:zan K (.ref CG) "names"=some (some (.ref fCGM)))
   (fnCGM:zbB K (.ref fCGM)=true)
   (lCGM:MF K "names" "Ground.names" Z1 fCGM)
   (atCGF:zan K (.ref CG) "roads_from"=some (some (.ref fCGF)))
   (fnCGF:zbB K (.ref fCGF)=true)
   (lCGF:MF K "roads_from" "Ground.roads_from" Yy fCGF)
   (zlen:zae K mainGlobals "len"=some none)
   (zmax:zae K mainGlobals "max"=some none)
   (zmin:zae K mainGlobals "min"=some none)
   (zint:zae K mainGlobals "int"=some none)
   (zrange:zae K mainGlobals "range"=some none)
   (zisinstance:zae K mainGlobals "isinstance"=some none)
   (zstr:zae K mainGlobals "str"=some none)
   (zall:zae K mainGlobals "all"=some none)
   (zenumerate:zae K mainGlobals "enumerate"=some none)
   (zsum:zae K mainGlobals "sum"=some none)
   (zsorted:zae K mainGlobals "sorted"=some none)
   (zlist:zae K mainGlobals "list"=some none)
   (zreversed:zae K mainGlobals "reversed"=some none)
   (zset:zae K mainGlobals "set"=some none)
   (ztuple:zae K mainGlobals "tuple"=some none)
   (zdict:zae K mainGlobals "dict"=some none)
   (zbool:zae K mainGlobals "bool"=some none)
   (zany:zae K mainGlobals "any"=some none)
   (m1:zae K mainGlobals "LETTERS"=some (some (.str "abcdefghijklmnopqrstuvwxyz" tm1)))
   (m2:zae K mainGlobals "LONGEST_NAME"=some (some (.int 8 tm2)))
   (m3:zae K mainGlobals "MOST_PLACES"=some (some (.int 14 tm3)))
   (m4:zae K mainGlobals "MOST_ROADS"=some (some (.int 40 tm4)))
   (m5:zae K mainGlobals "MOST_NUMBER"=some (some (.int 15 tm5)))
   (m6:zae K mainGlobals "MOST_BITS"=some (some (.int 65535 tm6)))
   :
   ∃fd:FuncData,(∀(s:Shared) (v:Value),BindsTo s fd ⟨[v],[]⟩ [("_law_script",v)])/\∀base:Heap,K.In base->base.Ns mainGlobals mg->qB l.prog w K mg base q5 8 fa fd ["_law_script"] (UE K):=by
 have e:=hfa.symm.trans (zbf X G aLAW)
 cases e
 obtain⟨_,hO⟩:=lO.has (ps:=["_law_script","_law_k"]) X G λF=>F.binds λ_ _ _ _ _ _ us hl=>by obtain⟨_,_,rfl⟩:=Zm hl;rfl
 obtain⟨_,hL⟩:=lL.has (ps:=["_law_cell"]) X G λF=>F.binds λ_ _ _ _ _ _ us hl=>by obtain⟨_,rfl⟩:=QT hl;rfl
 obtain⟨_,hT⟩:=lT.has (ps:=["_law_source_here","_law_many"]) X G λF=>F.binds λ_ _ _ _ _ _ us hl=>by obtain⟨_,_,rfl⟩:=Zm hl;rfl
 obtain⟨_,hN⟩:=lN.has (ps:=["_law_source_here","_law_many"]) X G λF=>F.binds λ_ _ _ _ _ _ us hl=>by obtain⟨_,_,rfl⟩:=Zm hl;rfl
 obtain⟨_,hD⟩:=lD.has (ps:=["_law_source_here","_law_many","_law_shape","_law_low"]) X G λF=>F.binds λ_ _ _ _ _ _ us hl=>by obtain⟨_,_,_,_,rfl⟩:=xD hl;rfl
 obtain⟨_,hR⟩:=lR.has (ps:=["_law_source_here","_law_most"]) X G λF=>F.binds λ_ _ _ _ _ _ us hl=>by obtain⟨_,_,rfl⟩:=Zm hl;rfl
 obtain⟨_,hA1⟩:=lA1.has (ps:=["thing"]) X G λF=>F.binds λ_ _ _ _ _ _ us hl=>by obtain⟨_,rfl⟩:=QT hl;rfl
 obtain⟨_,hA2⟩:=lA2.has (ps:=["thing"]) X G λF=>F.binds λ_ _ _ _ _ _ us hl=>by obtain⟨_,rfl⟩:=QT hl;rfl
 obtain⟨_,hA3⟩:=lA3.has (ps:=["thing"]) X G λF=>F.binds λ_ _ _ _ _ _ us hl=>by obtain⟨_,rfl⟩:=QT hl;rfl
 obtain⟨_,hA4⟩:=lA4.has (ps:=["rows"]) X G λF=>F.binds λ_ _ _ _ _ _ us hl=>by obtain⟨_,rfl⟩:=QT hl;rfl
 obtain⟨_,hA5⟩:=lA5.has (ps:=["order"]) X G λF=>F.binds λ_ _ _ _ _ _ us hl=>by obtain⟨_,rfl⟩:=QT hl;rfl
 obtain⟨_,hA6⟩:=lA6.has (ps:=["ends","order"]) X G λF=>F.binds λ_ _ _ _ _ _ us hl=>by obtain⟨_,_,rfl⟩:=Zm hl;rfl
 obtain⟨_,hA7⟩:=lA7.has (ps:=["rows"]) X G λF=>F.binds λ_ _ _ _ _ _ us hl=>by obtain⟨_,rfl⟩:=QT hl;rfl
 obtain⟨_,hA8⟩:=lA8.has (ps:=["rows"]) X G λF=>F.binds λ_ _ _ _ _ _ us hl=>by obtain⟨_,rfl⟩:=QT hl;rfl
 obtain⟨_,hB1⟩:=lB1.has (ps:=["numbers"]) X G λF=>F.binds λ_ _ _ _ _ _ us hl=>by obtain⟨_,rfl⟩:=QT hl;rfl
 obtain⟨_,hB2⟩:=lB2.has (ps:=["numbers"]) X G λF=>F.binds λ_ _ _ _ _ _ us hl=>by obtain⟨_,rfl⟩:=QT hl;rfl
 obtain⟨_,hB3⟩:=lB3.has (ps:=["bits"]) X G λF=>F.binds λ_ _ _ _ _ _ us hl=>by obtain⟨_,rfl⟩:=QT hl;rfl
 obtain⟨_,hC1⟩:=lC1.has (ps:=["thing"]) X G λF=>F.binds λ_ _ _ _ _ _ us hl=>by obtain⟨_,rfl⟩:=QT hl;rfl
 obtain⟨_,hC2⟩:=lC2.has (ps:=["ground","thing"]) X G λF=>F.binds λ_ _ _ _ _ _ us hl=>by obtain⟨_,_,rfl⟩:=Zm hl;rfl
 obtain⟨_,hC3⟩:=lC3.has (ps:=["thing"]) X G λF=>F.binds λ_ _ _ _ _ _ us hl=>by obtain⟨_,rfl⟩:=QT hl;rfl
 obtain⟨_,hC4⟩:=lC4.has (ps:=["thing"]) X G λF=>F.binds λ_ _ _ _ _ _ us hl=>by obtain⟨_,rfl⟩:=QT hl;rfl
 obtain⟨_,hC5⟩:=lC5.has (ps:=["thing"]) X G λF=>F.binds λ_ _ _ _ _ _ us hl=>by obtain⟨_,rfl⟩:=QT hl;rfl
 obtain⟨_,hC6⟩:=lC6.has (ps:=["other","label"]) X G λF=>F.binds λ_ _ _ _ _ _ us hl=>by obtain⟨_,_,rfl⟩:=Zm hl;rfl
 obtain⟨_,hC7⟩:=lC7.has (ps:=["ground","told","label","end"]) X G λF=>F.binds λ_ _ _ _ _ _ us hl=>by obtain⟨_,_,_,_,rfl⟩:=xD hl;rfl
 obtain⟨_,hC8⟩:=lC8.has (ps:=["ground","told","name"]) X G λF=>F.binds λ_ _ _ _ _ _ us hl=>by obtain⟨_,_,_,rfl⟩:=Vb hl;rfl
 obtain⟨_,hC9⟩:=lC9.has (ps:=["ground","told","name"]) X G λF=>F.binds λ_ _ _ _ _ _ us hl=>by obtain⟨_,_,_,rfl⟩:=Vb hl;rfl
 obtain⟨_,hD1⟩:=lD1.has (ps:=["label","number"]) X G λF=>F.binds λ_ _ _ _ _ _ us hl=>by obtain⟨_,_,rfl⟩:=Zm hl;rfl
 obtain⟨_,hD2⟩:=lD2.has (ps:=["ground","labels","name"]) X G λF=>F.binds λ_ _ _ _ _ _ us hl=>by obtain⟨_,_,_,rfl⟩:=Vb hl;rfl
 obtain⟨_,hD3⟩:=lD3.has (ps:=["ground","told","name"]) X G λF=>F.binds λ_ _ _ _ _ _ us hl=>by obtain⟨_,_,_,rfl⟩:=Vb hl;rfl
 obtain⟨_,hD4⟩:=lD4.has (ps:=["ground","told","name"]) X G λF=>F.binds λ_ _ _ _ _ _ us hl=>by obtain⟨_,_,_,rfl⟩:=Vb hl;rfl
 obtain⟨_,hD5⟩:=lD5.has (ps:=["ground","told"]) X G λF=>F.binds λ_ _ _ _ _ _ us hl=>by obtain⟨_,_,rfl⟩:=Zm hl;rfl
 obtain⟨_,hE1⟩:=lE1.has (ps:=["_law_rows_here"]) X G λF=>F.binds λ_ _ _ _ _ _ us hl=>by obtain⟨_,rfl⟩:=QT hl;rfl
 obtain⟨_,hE2⟩:=lE2.has (ps:=["_law_roads","_law_found","_law_name","_law_number"]) X G λF=>F.binds λ_ _ _ _ _ _ us hl=>by obtain⟨_,_,_,_,rfl⟩:=xD hl;rfl
 obtain⟨_,hE3⟩:=lE3.has (ps:=["_law_roads","_law_found","_law_name","_law_number"]) X G λF=>F.binds λ_ _ _ _ _ _ us hl=>by obtain⟨_,_,_,_,rfl⟩:=xD hl;rfl
 obtain⟨_,hE4⟩:=lE4.has (ps:=["_law_rows_here"]) X G λF=>F.binds λ_ _ _ _ _ _ us hl=>by obtain⟨_,rfl⟩:=QT hl;rfl
 obtain⟨_,hE5⟩:=lE5.has (ps:=["_law_thing"]) X G λF=>F.binds λ_ _ _ _ _ _ us hl=>by obtain⟨_,rfl⟩:=QT hl;rfl
 obtain⟨_,hE6⟩:=lE6.has (ps:=["_law_thing"]) X G λF=>F.binds λ_ _ _ _ _ _ us hl=>by obtain⟨_,rfl⟩:=QT hl;rfl
 obtain⟨_,hE7⟩:=lE7.has (ps:=["_law_roads","_law_told","_law_name","_law_one"]) X G λF=>F.binds λ_ _ _ _ _ _ us hl=>by obtain⟨_,_,_,_,rfl⟩:=xD hl;rfl
 obtain⟨_,hE8⟩:=lE8.has (ps:=["_law_roads","_law_told","_law_name"]) X G λF=>F.binds λ_ _ _ _ _ _ us hl=>by obtain⟨_,_,_,rfl⟩:=Vb hl;rfl
 obtain⟨_,hE9⟩:=lE9.has (ps:=["_law_rows_here","_law_told"]) X G λF=>F.binds λ_ _ _ _ _ _ us hl=>by obtain⟨_,_,rfl⟩:=Zm hl;rfl
 obtain⟨_,hF1⟩:=lF1.has (ps:=["_law_source_here","_law_labels_here"]) X G λF=>F.binds λ_ _ _ _ _ _ us hl=>by obtain⟨_,_,rfl⟩:=Zm hl;rfl
 obtain⟨_,hF2⟩:=lF2.has (ps:=["_law_source_here","_law_label"]) X G λF=>F.binds λ_ _ _ _ _ _ us hl=>by obtain⟨_,_,rfl⟩:=Zm hl;rfl
 obtain⟨_,hF3⟩:=lF3.has (ps:=["_law_source_here","_law_labels_here"]) X G λF=>F.binds λ_ _ _ _ _ _ us hl=>by obtain⟨_,_,rfl⟩:=Zm hl;rfl
 obtain⟨_,hF4⟩:=lF4.has (ps:=["_law_names_here"]) X G λF=>F.binds λ_ _ _ _ _ _ us hl=>by obtain⟨_,rfl⟩:=QT hl;rfl
 obtain⟨_,hF5⟩:=lF5.has (ps:=["_law_names_here"]) X G λF=>F.binds λ_ _ _ _ _ _ us hl=>by obtain⟨_,rfl⟩:=QT hl;rfl
 obtain⟨_,hF6⟩:=lF6.has (ps:=["_law_rows_here","_law_ground","_law_told"]) X G λF=>F.binds λ_ _ _ _ _ _ us hl=>by obtain⟨_,_,_,rfl⟩:=Vb hl;rfl
 have FLAW:=V8 (st:=Wd) lLAW cLAW kLAW
 obtain⟨_,FiCG⟩:=lCGi
 have clCG:MS K mg CG fCGi _:=⟨⟨pgCG,hdCG,poCG,saCG⟩,⟨mkCG,inCG,fiCG,kcCG⟩,zbf X G nCG,noCG,nrCG,FiCG,FiCG.binds (ps:=["self","rows"]) λ_ _ _ _ _ _ us hl=>by obtain⟨_,_,rfl⟩:=Zm hl;rfl⟩
 obtain⟨_,FCGM⟩:=lCGM
 have mCGM:NB K CG "names" "Ground.names" Z1 ["self"] fCGM _:=⟨FCGM,⟨atCGM,fnCGM,FCGM.kp⟩,FCGM.binds (ps:=["self"]) λ_ _ _ _ _ _ us hl=>by obtain⟨_,rfl⟩:=QT hl;rfl⟩
 obtain⟨_,FCGF⟩:=lCGF
 have mCGF:NB K CG "roads_from" "Ground.roads_from" Yy ["self","name"] fCGF _:=⟨FCGF,⟨atCGF,fnCGF,FCGF.kp⟩,FCGF.binds (ps:=["self","name"]) λ_ _ _ _ _ _ us hl=>by obtain⟨_,_,rfl⟩:=Zm hl;rfl⟩
 have B:JH mg:=⟨zaa X G zlen,zaa X G zmax,zaa X G zmin,zaa X G zint,zaa X G zrange⟩
 have Gk:Je mg:=⟨zaa X G zsorted,zaa X G zlist,zaa X G zreversed,zaa X G zset,zaa X G ztuple⟩
 have T:J7 K mg:=⟨zaa X G zisinstance,zaa X G zstr,zaa X G zall,zaa X G zenumerate,zaa X G zsum,⟨_,zbf X G m1⟩,⟨_,zbf X G m2⟩,⟨_,zbf X G m3⟩,⟨_,zbf X G m4⟩,kss,ktt,kll⟩
 have Nn:KG K mg:=⟨⟨_,_,hA1⟩,⟨_,_,hA2⟩,⟨_,_,hA3⟩,⟨_,_,hA4⟩,⟨_,_,hA5⟩,⟨_,_,hA6⟩,⟨_,_,hA7⟩⟩
 have M:GM K mg CG:=⟨⟨_,_,clCG⟩,⟨_,_,mCGM⟩,⟨_,_,mCGF⟩,⟨_,_,hA1⟩⟩
 have TI:ZJ K mg:=⟨zaa X G zisinstance,zaa X G zbool,zaa X G ztuple,zaa X G zdict,kI⟩
 have mN:∃t,mg "MOST_NUMBER"=some (.int 15 t):=⟨_,zbf X G m5⟩
 have mB:∃t,mg "MOST_BITS"=some (.int 65535 t):=⟨_,zbf X G m6⟩
 have Z:Nm K mg:=⟨⟨_,_,hO⟩,⟨_,_,hL⟩,⟨_,_,hT⟩,⟨_,_,hN⟩,⟨_,_,hD⟩,⟨_,_,hR⟩,⟨_,_,hA8⟩,⟨_,_,hB1⟩,⟨_,_,hB2⟩,⟨_,_,hB3⟩,⟨_,_,hC1⟩,⟨_,_,hC2⟩,⟨_,_,hC3⟩,⟨_,_,hC4⟩,⟨_,_,hC5⟩,⟨_,_,hC6⟩,⟨_,_,hC7⟩,⟨_,_,hC8⟩,⟨_,_,hC9⟩,⟨_,_,hD1⟩,⟨_,_,hD2⟩,⟨_,_,hD3⟩,⟨_,_,hD4⟩,⟨_,_,hD5⟩,⟨_,_,hE1⟩,⟨_,_,hE2⟩,⟨_,_,hE3⟩,⟨_,_,hE4⟩,⟨_,_,hE5⟩,⟨_,_,hE6⟩,⟨_,_,hE7⟩,⟨_,_,hE8⟩,⟨_,_,hE9⟩,⟨_,_,hF1⟩,⟨_,_,hF2⟩,⟨_,_,hF3⟩,⟨_,_,hF4⟩,⟨_,_,hF5⟩,⟨_,_,hF6⟩⟩
 exact⟨zbd "law" "law" (QJ Wd) (Qr Wd) (qo Wd) .none kVLAW dcLAW pmLAW anLAW cdLAW ctLAW,λs v=>.of_eq rfl,λbase _ _=>Rx FLAW B Gk T TI (zaa X G zany) Nn M mN mB Z⟩
theorem walk {l:PySem.W.OpenLaw} {q:Program} {loose:List Str} {XP:(Str->Option Value)->Heap->Prop} {YP:World->Heap->Prop} {d:DefRec} {K:Params->PySem.W.Frag} (hn:l.most=some 63) (hdf:d.params.defaults=[])
   (hY:∀(w:World) (h:Heap),YP w h->(K w.params).In h)
   (F:∀(w:World) (mg:Str->Option Value) (fa:Addr) (h:Heap),(K w.params).In h->h.Ns mainGlobals mg->mg d.name=some (.ref fa)->
     ∃fd:FuncData,(∀(s:Shared) (u:Value),BindsTo s fd ⟨[u],[]⟩ [("_law_script",u)])/\∀base:Heap,(K w.params).In base->base.Ns mainGlobals mg->qB l.prog w (K w.params) mg base q5 8 fa fd ["_law_script"] (UE (K w.params))):
   PySem.W.WalkO q loose XP YP l.row.toRowW d [] (λf vs=>PySem.call f vs):=
 L2.walk_of (n:=63) (k:=8) (x:="_law_script") (CX:=λ_=>q5) (sp:=λw=>UE (K w.params)) hn (by decide) hdf ⟨rfl,by decide,by decide,rfl⟩ hY F (λ_ _ a ns hl _ hS=>⟨a,ns,rfl,hS,hl,λ_=>rfl⟩) λ_ _ _ _ _ z=>z
end Rh
open PySem PySem.W PyProof.Rows
def PySem.W.Fast.tw6389521340206720116 : Unit := ()
def PySem.W.Fast.tw861502493610598483 : Unit := ()
def PySem.W.Fast.tw8174326144747286996 : Unit := ()
def PySem.W.Fast.tw15132458516325018785 : Unit := ()
def PySem.W.Fast.tw7774113678449685934 : Unit := ()
def PySem.W.Fast.tw18307703996877497095 : Unit := ()
def PySem.W.Fast.tw8622699402854469366 : Unit := ()
def PySem.W.Fast.tw9385026881006844408 : Unit := ()
def PySem.W.Fast.tw1253127297229968123 : Unit := ()
def PySem.W.Fast.tw525408535562875650 : Unit := ()
def PySem.W.Fast.tw4603639169887128792 : Unit := ()
def PySem.W.Fast.tw14257035121206530791 : Unit := ()
def PySem.W.Fast.tw18073898193381586223 : Unit := ()
def PySem.W.Fast.tw8412485981470432064 : Unit := ()
def PySem.W.Fast.tw6056707288978253535 : Unit := ()
def PySem.W.Fast.tw15626226284100447636 : Unit := ()
def PySem.W.Fast.tw599730875272715187 : Unit := ()
def PySem.W.Fast.tw5002640475654186023 : Unit := ()
def PySem.W.Fast.tw9176024353136599441 : Unit := ()
def PySem.W.Fast.tw1158361714356455011 : Unit := ()
def PySem.W.Fast.tw11024694936033576346 : Unit := ()
def PySem.W.Fast.tw17512793052788017329 : Unit := ()
def PySem.W.Fast.tw13437419889732721216 : Unit := ()
def PySem.W.Fast.tw7327122111559308446 : Unit := ()
def PySem.W.Fast.tw4804111812005502284 : Unit := ()
def PySem.W.Fast.tw8758443347247461665 : Unit := ()
def PySem.W.Fast.tw13529061830779990047 : Unit := ()
def PySem.W.Fast.tw14903569129155370506 : Unit := ()
def PySem.W.Fast.tw9536688357841153863 : Unit := ()
def PySem.W.Fast.tw8171798328758944481 : Unit := ()
def PySem.W.Fast.tw2931988195819169919 : Unit := ()
def PySem.W.Fast.tw11502921971960690029 : Unit := ()
def PySem.W.Fast.tw2228412568605170491 : Unit := ()
def PySem.W.Fast.tw6575520176995025181 : Unit := ()
def PySem.W.Fast.tw9646623106273453227 : Unit := ()
def PySem.W.Fast.tw17613222154834848340 : Unit := ()
def PySem.W.Fast.tw15554417296805563061 : Unit := ()
def PySem.W.Fast.tw11408881796089955267 : Unit := ()
def PySem.W.Fast.tw1342123614928995077 : Unit := ()
def PySem.W.Fast.tw855453113358079251 : Unit := ()
def PySem.W.Fast.tw7374399212775623666 : Unit := ()
def PySem.W.Fast.tw15042883488752021643 : Unit := ()
def PySem.W.Fast.tw14261769069557060686 : Unit := ()
def PySem.W.Fast.tw17974506094581304612 : Unit := ()
def PySem.W.Fast.tw14727194681476072466 : Unit := ()
def PySem.W.Fast.tw3308634892276815127 : Unit := ()
def PySem.W.Fast.tw16636501806038632012 : Unit := ()
def PySem.W.Fast.tw4189273013823423559 : Unit := ()
def PySem.W.Fast.tw2259672571474061568 : Unit := ()
def PySem.W.Fast.tw1532491051758110099 : Unit := ()
def PySem.W.Fast.tw8331849164307833061 : Unit := ()
def PySem.W.Fast.tw10988312798546598065 : Unit := ()
def PySem.W.Fast.tw258204147387103276 : Unit := ()
def PySem.W.Fast.tw5725222548895626118 : Unit := ()
def PySem.W.Fast.tw3238445694619138142 : Unit := ()
def PySem.W.Fast.tw13855379610559885079 : Unit := ()
def PySem.W.Fast.tw5667099127317398114 : Unit := ()
def PySem.W.Fast.tw10910644110388302437 : Unit := ()
def PySem.W.Fast.tw14760874974797668852 : Unit := ()
def PySem.W.Fast.tw8997383693586321770 : Unit := ()
def PySem.W.Fast.tw10826640976665885199 : Unit := ()
def PySem.W.Fast.tw9331231397406362311 : Unit := ()
def PySem.W.Fast.tw13053770412826190925 : Unit := ()
def PySem.W.Fast.tw11266997524610791606 : Unit := ()
def PySem.W.Fast.tw1922157984580058403 : Unit := ()
def PySem.W.Fast.tw3049343062529576306 : Unit := ()
def PySem.W.Fast.tw4321966507151631593 : Unit := ()
def PySem.W.Fast.tw7046044490832178742 : Unit := ()
def PySem.W.Fast.tw8422229294311615681 : Unit := ()
def PySem.W.Fast.tw4971374062829452455 : Unit := ()
def PySem.W.Fast.tw12488014758255163090 : Unit := ()
def PySem.W.Fast.tw11481637867367846703 : Unit := ()
def PySem.W.Fast.tw1972164579936704799 : Unit := ()
def PySem.W.Fast.tw12887044766017154078 : Unit := ()
def PySem.W.Fast.tw16670775579421159206 : Unit := ()
def PySem.W.Fast.tw6162269159774324313 : Unit := ()
def PySem.W.Fast.tw2144661209622563809 : Unit := ()
def PySem.W.Fast.tw13421457143807847188 : Unit := ()
def PySem.W.Fast.tw15805137534098808535 : Unit := ()
def PySem.W.Fast.tw6229817132586351632 : Unit := ()
def PySem.W.Fast.tw8535803893964050539 : Unit := ()
def PySem.W.Fast.tw2261719852989239553 : Unit := ()
def PySem.W.Fast.tw9404705873571188630 : Unit := ()
def PySem.W.Fast.tw12917704675397863716 : Unit := ()
def PySem.W.Fast.tw7867829370405329436 : Unit := ()
def PySem.W.Fast.tw3641951560692057861 : Unit := ()
def PySem.W.Fast.tw2358075552688931204 : Unit := ()
def PySem.W.Fast.tw3778530596728393105 : Unit := ()
def PySem.W.Fast.tw1950803216711332702 : Unit := ()
def PySem.W.Fast.tw3215387988796971590 : Unit := ()
def PySem.W.Fast.tw6798380500665416597 : Unit := ()
def PySem.W.Fast.tw14664691819916384248 : Unit := ()
def PySem.W.Fast.tw28018229315631829 : Unit := ()
def PySem.W.Fast.tw1956775160557780875 : Unit := ()
def PySem.W.Fast.tw10295913840692754127 : Unit := ()
def PySem.W.Fast.tw2080317491765294665 : Unit := ()
def PySem.W.Fast.tw2455152089536381482 : Unit := ()
def PySem.W.Fast.tw16108870410212019532 : Unit := ()
def PySem.W.Fast.tw16615150188913437886 : Unit := ()
def PySem.W.Fast.tw3985964047577975286 : Unit := ()
def PySem.W.Fast.tw15539815450414544023 : Unit := ()
def PySem.W.Fast.tw16120054744476736488 : Unit := ()
def PySem.W.Fast.tw9402243437249704421 : Unit := ()
def PySem.W.Fast.tw16902440903046159558 : Unit := ()
def PySem.W.Fast.tw1840220198017710270 : Unit := ()
def PySem.W.Fast.tw9972681490609642005 : Unit := ()
def PySem.W.Fast.tw18101783494082082527 : Unit := ()
def PySem.W.Fast.tw15402603294489630176 : Unit := ()
def PySem.W.Fast.tw5832305185047221409 : Unit := ()
def PySem.W.Fast.tw14904681115217272601 : Unit := ()
def PySem.W.Fast.tw8431482922422412695 : Unit := ()
def PySem.W.Fast.tw14842496431369740429 : Unit := ()
def PySem.W.Fast.tw10519837036962490867 : Unit := ()
def PySem.W.Fast.tw12670982853097334264 : Unit := ()
def PySem.W.Fast.tw17678831435119133177 : Unit := ()
def PySem.W.Fast.tw16756451883985382160 : Unit := ()
def PySem.W.Fast.tw6170744672141170255 : Unit := ()
def PySem.W.Fast.tw9879335643197240621 : Unit := ()
def PySem.W.Fast.tw1000662321505670351 : Unit := ()
def PySem.W.Fast.tw9116068151291705539 : Unit := ()
def PySem.W.Fast.tw11662115353561507501 : Unit := ()
def PySem.W.Fast.tw12459912946257978736 : Unit := ()
def PySem.W.Fast.tw4483904966330829159 : Unit := ()
def PySem.W.Fast.tw2187251505897268136 : Unit := ()
def PySem.W.Fast.tw3721919958574915784 : Unit := ()
def PySem.W.Fast.tw561727478393794602 : Unit := ()
def PySem.W.Fast.tw523537741815420091 : Unit := ()
def PySem.W.Fast.tw1979317910248211280 : Unit := ()
def PySem.W.Fast.tw16654469307462801742 : Unit := ()
def PySem.W.Fast.tw6548459193220583526 : Unit := ()
def PySem.W.Fast.tw15438627641174518403 : Unit := ()
def PySem.W.Fast.tw14827714588952709054 : Unit := ()
def PySem.W.Fast.tw1708089923452030704 : Unit := ()
def PySem.W.Fast.tw5217270863462422736 : Unit := ()
def PySem.W.Fast.tw1864683662541468164 : Unit := ()
def PySem.W.Fast.tw14219159868682941630 : Unit := ()
def PySem.W.Fast.tw13769103115541136327 : Unit := ()
def PySem.W.Fast.tw14404928986312190071 : Unit := ()
def PySem.W.Fast.tw9615563845995560447 : Unit := ()
def PySem.W.Fast.tw5072417060200589145 : Unit := ()
set_option maxHeartbeats 0
open_top hd for PySem.Challenge.rw_ringheaps_k42_labels_that_show_themselve
set_option maxRecDepth 100000 in
set_option maxHeartbeats 0 in
theorem PySem.Challenge.cw_ringheaps_k42_labels_that_show_themselve_holds : PySem.Challenge.rw_ringheaps_k42_labels_that_show_themselve.Holds := by
 refine hd ?_
 k_fill
 refine Rh.walk (l:=PySem.Challenge.rw_ringheaps_k42_labels_that_show_themselve) rfl rfl (λw h Y=>PySem.W.kIn_of Y) ?F
 case F=>
   intro w mg fa h KX G hmg
   refine' Rh.all_mk KX G hmg ?_ ?_ ?_ ?_ ?_ ?_ ?_ ?_ ?_ ?_ ?_ ?_ ?_ ?_ ?_ ?_ ?_ ?_ ?_ ?_ ?_ ?_ ?_ ?_ ?_ ?_ ?_ ?_ ?_ ?_ ?_ ?_ ?_ ?_ ?_ ?_ ?_ ?_ ?_ ?_ ?_ ?_ ?_ ?_ ?_ ?_ ?_ ?_ ?_ ?_ ?_ ?_ ?_ ?_ ?_ ?_ ?_ ?_ ?_ ?_ ?_ ?_ ?_ ?_ ?_ ?_ ?_ ?_ ?_ ?_ ?_ ?_ ?_ ?_ ?_ ?_ ?_ ?_ ?_ ?_ ?_ ?_ ?_ ?_ ?_ ?_ ?_ ?_ ?_ ?_ ?_ ?_
   any_goals first | (apply Rh.HF.mk'<;>k_is) | (apply Rh.MF.mk'<;>k_is) | k_is | kernel_rfl | rfl | decide
