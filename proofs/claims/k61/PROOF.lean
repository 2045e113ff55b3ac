import PyProof.Rows.All
import Wide.All
import OpenK.AllK
import Wide.FinOn
import Lean
import PyProof.EqAt
import PyProof.EqKinds
import PyProof.TupleCall
import PySem.Challenge.RW_ringheaps_k61_winning_moves_and_counts
set_option Elab.async false
set_option linter.all false
set_option maxRecDepth 100000
open PySem renaming wpAny_bind → zdY, wpAny_pure → zdZ, FuncData → zea, sizeLine → zeb
open PySem.Str renaming ofString → zdX
open PySem.W renaming Frag → zdW
open Array renaming getElem?_eq_some_iff → zat, length_toList → zaD, toList_append → zcc, getElem?_eq_getElem → zcW
open Bool renaming false_ne_true → tN, and_eq_true → zar, false_eq_true → zba, eq_iff_iff → zbg, false_and → zcM, noConfusion → zdh, or_eq_true → zdo
open Int renaming toNat_natCast → zaT, emod_lt_of_pos → zbx, zero_add → zbJ, emod_nonneg → zbO, fdiv_eq_ediv_of_nonneg → zbV, natCast_nonneg → zcN
open List renaming length_map → tj, getElem?_eq_some_iff → tw, getElem?_eq_getElem → tE, take_of_length_le → tF, getElem?_map → tG, length_append → tH, map_append → tI, mem_append_right → tJ, mem_map → tL, take_add_one → tP, mem_cons → tS, map_cons → tU, length_take → tW, mem_append → tX, mem_cons_of_mem → tY, size_toArray → tZ, mem_singleton → t7, mem_cons_self → t8, mem_of_getElem? → t9, range → zab, getElem?_append_right → zac, mem_filter → zad, getElem?_append_left → zaf, mem_append_left → zaj, nodup_cons → zal, length_range → zam, append_nil → zan, filterMap_append → zap, length_filter_le → zaq, filterMap_cons → zas, length_singleton → zav, length → zax, length_cons → zay, lookup_cons → zaz, getD_eq_getElem?_getD → zaB, eq_nil_of_length_eq_zero → zaC, not_mem_nil → zaE, mem_filterMap → zaF, pairwise_iff_getElem → zaL, filter_append → zaN, map_map → zaO, all_eq_true → zaQ, length_filterMap_le → zaR, mem_range → zaU, sum_cons → zaV, toArray → zaW, lookup → zbb, getElem?_of_mem → zbc, filter_sublist → zbf, getElem?_eq_none → zbh, any_eq_true → zbj, nodup_nil → zbn, find?_cons → zbp, length_pos_of_mem → zbq, mem_nil_iff → zbs, filter_cons → zbt, getElem_mem → zbu, replicate → zbv, exists_cons_of_ne_nil → zbw, mem_of_mem_take → zbz, getElem?_take_of_lt → zbB, getElem?_range → zbC, map_congr_left → zbD, of_mem_zip → zbK, length_set → zbL, length_replicate → zbQ, filter_congr → zbT, mem_erase_of_ne → zbW, mem_of_find?_eq_some → zca, length_reverse → zcb, length_erase_of_mem → zce, sum_append → zcl, range_succ → zcn, pairwise_singleton → zcp, getElem?_set_self → zcq, map_nil → zct, foldl_append → zcw, append_assoc → zcy, cons_append → zcz, mem_reverse → zcA, nodup_range → zcC, any_cons → zcD, getElem?_set_ne → zcF, foldl_cons → zcH, all_map → zcK, drop_zero → zcR, contains_cons → zcS, append_of_mem → zcT, getElem?_take → zcU, getElem?_eq_none_iff → zcV, take_sublist → zcY, reverse_cons → zcZ, ext_getElem? → zda, nodup_append → zdb, all_cons → zdd, getElem?_replicate → zde, length_drop → zdf, length_nil → zdn, nil_append → zdp, all_append → zdq, filter_map → zdr, pairwise_reverse → zds, pairwise_append → zdy, take_zero → zdz, replicate_succ → zdA, findIdx_append → zdB, length_pos_iff → zdC, Pairwise → zdD, map_take → zdE, lookup_append → zdG, find?_eq_none → zdH, pairwise_cons → zdJ, pairwise_map → zdP, map → zdQ, range' → zdT
open Nat renaming le_refl → tz, lt_of_lt_of_le → tM, ne_of_lt → tQ, le_trans → zaa, le_of_lt → zai, lt_irrefl → zao, zero_le → zaw, lt_succ_self → zaI, lt_trichotomy → zaJ, lt_of_le_of_lt → zaM, xor_assoc → zbl, testBit_succ → zbG, ne_of_gt → zbH, testBit_xor → zbN, lt_succ_of_lt → zbS, lt_of_succ_lt → zbU, lt_or_ge → zbX, xor_self → zbY, sub_self → zbZ, min_eq_left → zck, not_lt_zero → zcm, zero_xor → zcx, strongRecOn → zcG, succ → zcP, min_eq_right → zdg, testBit_zero → zdi, le_of_eq → zdj, sub_zero → zdk, xor_zero → zdl, le_succ → zdu, eq_of_testBit_eq → zdx, pos_of_ne_zero → zdI, lt_trans → zdM, zero_add → zdN, xor_comm → zdO
open Option renaming some → tO, isSome_map → zbe, map_eq_some_iff → zbI, map_some → zcj, isSome_iff_exists → zdc, getD_none → zdS
open PySem.F renaming plainAttrs_list → zau, plain_min_loop → zaX, slot_list_append → zaY, type_list_append → zaZ, args_tuple_add_2 → zcd, slot_list_extend → zcf, type_list_extend → zcg, entry_tuple_add → zco, slot_tuple_add → zcs, entry_min_loop → zcv, excBase_ValueError → zcQ
open PySem.Heap renaming get?_push_of_some → tu, lt_size → tK, get?_push_size → tV, get?_update_other → zak, get?_update_self → zaG, size_push → zbm, get?_none_of_le → zcE, SameBut → zcL
open PySem.W renaming findIn → tR, nsIn → zae, kitOne → zag, mg_none_of → zah, keepIn → zaA, isFn → zaH, mg_of → zaK, kia_one → zaP, emptyDict → zaS, hasDictIn → zbd, callWith_K → zbi, fnOf → zbk, instObj → zbo, plainGet → zbr, specialIn → zby, mroIn → zbA, codeIn → zbE, tabObj → zbF, kla_obj → zbM, methodCall_KW → zbP, plainOver → zbR, makesIn → zch, takesIn → zci, cellsFrom_some → zcr, envX → zcu, codeHdIn → zcB, plainGet_of → zcI, callWith_K0 → zcJ, lookIn → zcO, methodObj → zcX, takerIn → zdm, looks_findIn → zdt, noTabs → zdv, kla_fn → zdw, codeRec_of → zdF, kitx_list → zdK, kitx_dict → zdL, handedIn → zdR, typeIn → zdU
namespace L2
open PySem PySem.Spec PyProof.Rows
abbrev qN:=Sum Int Str
def XJ:qN->Value->Bool
 | .inl k,v=>Value.isInt k v
 | .inr x,v=>Value.isStrOf x v
def qcE(w:World):qN->Int
 | .inl k=>hashInt k
 | .inr x=>hashStr w x
theorem js:∀{k:qN} {v:Value},XJ k v=true->(∃i t,k=Sum.inl i/\v=Value.int i t)\/(∃x t,k=Sum.inr x/\v=Value.str x t)
 | .inl i,v,h=>by
  obtain⟨t,e⟩:=Value.isInt_shape (k:=i) (v:=v) h
  exact .inl ⟨i,t,rfl,e⟩
 | .inr x,v,h=>by
  obtain⟨t,e⟩:=Value.isStrOf_shape (x:=x) (v:=v) h
  exact .inr ⟨x,t,rfl,e⟩
theorem xj(i:Int)(t:Tok):XJ (.inl i) (.int i t)=true:=by simp [XJ,Value.isInt]
theorem xi(x:Str)(t:Tok):XJ (.inr x) (.str x t)=true:=by simp [XJ,Value.isStrOf]
theorem MI(a b:Int):decide ((Sum.inl a:qN)=Sum.inl b)=(a==b):=by
 by_cases e:a=b
 ·subst e;simp
 ·have h:¬(Sum.inl a:qN)=Sum.inl b:=λq=>e (Sum.inl.inj q)
  rw[decide_eq_false h]
  exact(beq_eq_false_iff_ne.mpr e).symm
theorem ME(a b:Str):decide ((Sum.inr a:qN)=Sum.inr b)=decide (a=b):=by
 by_cases e:a=b
 ·subst e;simp
 ·have h:¬(Sum.inr a:qN)=Sum.inr b:=λq=>e (Sum.inr.inj q)
  rw[decide_eq_false h,decide_eq_false e]
theorem MH(a:Int)(b:Str):decide ((Sum.inl a:qN)=Sum.inr b)=false:=decide_eq_false (λq=>nomatch q)
theorem MG(a:Str)(b:Int):decide ((Sum.inr a:qN)=Sum.inl b)=false:=decide_eq_false (λq=>nomatch q)
def jm(prog:Program)(w:World):PySem.KeyKind prog w qN where
 is:=XJ
 hash:=qcE w
 inj:=λv a b ha hb=>by
  rcases js ha with ⟨i,t,rfl,rfl⟩ | ⟨x,t,rfl,rfl⟩
  ·rcases js hb with ⟨j,u,rfl,e⟩ | ⟨y,u,rfl,e⟩
   ·injection e with e1 _;rw[e1]
   ·exact nomatch e
  ·rcases js hb with ⟨j,u,rfl,e⟩ | ⟨y,u,rfl,e⟩
   ·exact nomatch e
   ·injection e with e1 _;rw[e1]
 byValue:=λk v h=>by
  rcases js h with ⟨i,t,rfl,rfl⟩ | ⟨x,t,rfl,rfl⟩<;>rfl
 pyHash:=λhv h=>by
  rcases js hv with ⟨i,t,rfl,rfl⟩ | ⟨x,t,rfl,rfl⟩
  ·exact wpAny_pyHash_int h
  ·exact wpAny_pyHash_str h
 eqBool:=λhu hv h=>by
  rcases js hu with ⟨i,t,rfl,rfl⟩ | ⟨x,t,rfl,rfl⟩
  ·rcases js hv with ⟨j,u,rfl,rfl⟩ | ⟨y,u,rfl,rfl⟩
   ·rw[MI]at h;exact wpAny_eqBool_int h
   ·rw[MH]at h;exact SeqAt.EqAt.int_str i t y u _ _ _ _ h
  ·rcases js hv with ⟨j,u,rfl,rfl⟩ | ⟨y,u,rfl,rfl⟩
   ·rw[MG]at h;exact SeqAt.EqAt.str_int x t j u _ _ _ _ h
   ·rw[ME]at h;exact wpAny_eqBool_str h
 «strs»:=λk x t v h=>by
  rcases js h with ⟨i,u,rfl,e⟩ | ⟨y,u,rfl,e⟩
  ·exact nomatch e
  ·injection e with e1 _
   subst e1
   cases v<;>rfl
theorem Uk(prog:Program)(w:World)(i:Int)(t:Tok):(jm prog w).is (.inl i) (.int i t)=true:=xj i t
theorem Uj(prog:Program)(w:World)(x:Str)(t:Tok):(jm prog w).is (.inr x) (.str x t)=true:=xi x t
inductive V where
 | non | bl (b:Bool) | int (i:Int) | str (x:Str) | byt (b:Array UInt8) | flt (b:UInt64) | ref (a:Addr) | ty (n:String)
 deriving DecidableEq
def qO:V->Value->Prop
 | .non,u=>u=Value.none
 | .bl b,u=>u=Value.bool b
 | .int i,u=>∃t,u=Value.int i t
 | .str x,u=>∃t,u=Value.str x t
 | .byt b,u=>∃t,u=Value.bytes b t
 | .flt b,u=>∃t,u=Value.float b t
 | .ref a,u=>u=Value.ref a
 | .ty n,u=>u=Value.type n
abbrev qG:List V->List Value->Prop:=Paired qO
theorem qG.length{xs:List V}{us:List Value}(r:qG xs us):xs.length=us.length:=Paired.length r
theorem qG.get:∀{xs:List V} {us:List Value} {i:Nat} {x:V},qG xs us->xs[i]?=some x->∃u,us[i]?=some u/\qO x u
 | _,_,_,_,.nil,e=>by simp at e
 | _,_,0,_,.cons r _,e=>by simp at e;subst e;exact⟨_,rfl,r⟩
 | _,_,i+1,x,.cons _ t,e=>by
  obtain⟨u,h1,h2⟩:=qG.get (i:=i) (x:=x) t (by simpa using e)
  exact⟨u,by simpa using h1,h2⟩
theorem qG.set{x:V}{u:Value}(r:qO x u):∀{xs:List V} {us:List Value} (i:Nat),qG xs us->qG (xs.set i x) (us.set i u)
 | _,_,_,.nil=>.nil
 | _,_,0,.cons _ t=>.cons r t
 | _,_,i+1,.cons q t=>.cons q (qG.set r i t)
theorem qG.append:∀{xs ys:List V} {us ws:List Value},qG xs us->qG ys ws->qG (xs++ys) (us++ws)
 | _,_,_,_,.nil,s=>s
 | _,_,_,_,.cons r t,s=>.cons r (qG.append t s)
theorem qG.take:∀{xs:List V} {us:List Value} (n:Nat),qG xs us->qG (xs.take n) (us.take n)
 | _,_,0,_=>.nil
 | _,_,_+1,.nil=>.nil
 | _,_,n+1,.cons r t=>.cons r (qG.take n t)
theorem qG.drop:∀{xs:List V} {us:List Value} (n:Nat),qG xs us->qG (xs.drop n) (us.drop n)
 | _,_,0,r=>r
 | _,_,_+1,.nil=>.nil
 | _,_,n+1,.cons _ t=>qG.drop n t
theorem qG.none_of:∀{xs:List V} {us:List Value} {i:Nat},qG xs us->xs[i]?=none->us[i]?=none:=λ{xs us i} r e=>by
 have h1:=r.length
 have h2:xs.length<=i:=zcV.mp e
 exact zcV.mpr (by omega)
def Ze:Option V->Option Value->Prop
 | some v,some u=>qO v u
 | none,none=>True
 | _,_=>False
def KV{κ:Type}:List (κ×V)->List (κ×Value)->Prop:=Paired λ(p:κ×V) (q:κ×Value)=>p.1=q.1/\qO p.2 q.2
def kV:qN->V
 | .inl i=>.int i
 | .inr x=>.str x
inductive HO where
 | lst (xs:List V)
 | tup (xs:List V)
 | dK (kvs:List (qN×V)) | dT (kvs:List (List qN×V))
 | set (S:Int->Bool) (n:Nat)
 | ins (C dx:Addr) (fs:List (Str×V))
 | own (x:Addr)
 | xd (fs:List (Str×V))
 | met (f x:Addr)
 | rng (lo hi:Int)
 | frz (o:Obj) (u:HO)
 | tbl (ps:Array Value)
 | ext (φ:Heap->Prop)
abbrev Hp:=Addr->Option HO
def upd(H:Hp)(a:Addr)(o:HO):Hp:=λb=>if b=a then some o else H b
theorem qe{H:Hp}{a:Addr}{o:HO}:upd H a o a=some o:=by unfold upd;rw[if_pos rfl]
theorem qi{H:Hp}{a b:Addr}{o:HO}(h:b≠a):upd H a o b=H b:=by unfold upd;rw[if_neg h]
theorem jI{H:Hp}{a:Addr}{o u:HO}:upd (upd H a o) a u=upd H a u:=by
 funext b;unfold upd;split<;>rfl
theorem qa2{H:Hp}{a b:Addr}{o u:HO}(h:H a=some o)(h':H b=some u)(d:o≠u):a≠b:=by
 intro e;subst e;rw[h]at h';exact d (tO.inj h')
theorem qr{H:Hp}{a b:Addr}{o:HO}(h:H a=some o)(h':H b=none):a≠b:=by
 intro e;subst e;rw[h]at h';cases h'
def qbL(ps:Array Value)(oc:Obj):Prop:=∃(q:Str) (t:Tok) (vs:Array Value) (t':Tok),ps[0]?=some (.str q t)/\oc.data=.fields vs/\vs[1]?=some (.str q t')
section
variable(P:Program)(w:World)
def qK(H:Hp)(h:Heap)(a:Addr):HO->Prop
 | .lst xs=>xs.length<=zeb/\∃(its:List Value) (n:Nat),qG xs its/\h.get? a=some {cls:=.type "list",data:=.seq its.toArray n}
 | .tup xs=>xs.length<=zeb/\∃its:List Value,qG xs its/\IsTup h a its.toArray
 | .dK kvs=>kvs.length<=zeb/\(a==sysModules)=false/\∃vs,KV kvs vs/\h.DictOf (jm P w) a vs
 | .dT kvs=>kvs.length<=zeb/\(a==sysModules)=false/\∃xs:List (List qN×Addr×Value),
  Paired (λ(p:List qN×V) (q:List qN×Addr×Value)=>p.1=q.1/\H q.2.1=some (.tup (p.1.map kV))/\qO p.2 q.2.2) kvs xs/\
  ∃o es ep,h.get? a=some o/\o.ExactDict/\o.data=.dict es ep/\es.toList=xs.map (entryOfKey (tupleKind (jm P w)))/\(xs.map (·.1)).Nodup
 | .set S n=>h.SetOf (intKind P w) a S n
 | .ins C dx fs=>H dx=some (.own a)/\fs.length<=1000/\dx≠a/\h.get? a=some (zbo C dx)/\
  ∃mA,h.Ns1 dx mA/\(∀f,Ze (fs.lookup f) (mA f))/\PySem.Within mA (fs.map (·.1))
 | .own _=>∃o,h.get? a=some o
 | .xd fs=>∃mA,h.Ns1 a mA/\∀f,Ze (fs.lookup f) (mA f)
 | .rng lo hi=>∃t u v,h.get? a=some {cls:=.type "range",data:=.fields #[.int lo t,.int hi u,.int 1 v]}
 | .frz o u=>h.get? a=some o/\qK H h a u
 | .tbl ps=>∃ts:Array Value,h.get? a=some {cls:=.none,data:=.fields ts}/\TriplesOk ts.toList/\∀pos cv,codeAmong pos ts.toList=some cv->∃c oc,cv=.ref c/\H c=some (.frz oc (.own a))/\qbL ps oc
 | .met f x=>h.get? a=some (zcX (.ref f) (.ref x))
 | .ext φ=>φ h/\(∃o,h.get? a=some o)/\∀h1 h2:Heap,φ h1->(∀o,h1.get? a=some o->h2.get? a=some o)->φ h2
def JN(H:Hp)(h:Heap):Prop:=∀a o,H a=some o->qK P w H h a o
end
section
variable{P:Program}{w:World}{H H':Hp}{h h':Heap}{a:Addr}{o:HO}
theorem qK.lt(x:qK P w H h a o):a < h.objs.size:=by
 cases o with
 | lst xs=>obtain⟨_,_,_,_,e⟩:=x;exact tK e
 | tup xs=>obtain⟨_,_,_,p⟩:=x;exact p.lt
 | dK kvs=>obtain⟨_,_,_,_,o,_,_,e,_⟩:=x;exact tK e
 | dT kvs=>obtain⟨_,_,_,_,o,_,_,e,_⟩:=x;exact tK e
 | set S n=>obtain⟨o,_,_,_,e,_⟩:=x;exact tK e
 | ins C dx fs=>obtain⟨_,_,_,e,_⟩:=x;exact tK e
 | own y=>obtain⟨_,e⟩:=x;exact tK e
 | xd fs=>obtain⟨_,⟨_,_,_,e,_⟩,_⟩:=x;exact tK e
 | rng lo hi=>obtain⟨_,_,_,e⟩:=x;exact tK e
 | frz ob u=>obtain⟨e,_⟩:=x;exact tK e
 | tbl ps=>obtain⟨_,e,_⟩:=x;exact tK e
 | met f y=>exact tK (show h.get? a=some _ from x)
 | ext φ=>obtain⟨_,⟨_,e⟩,_⟩:=x;exact tK e
theorem Paired.mapP{α β:Type}{F G:α->β->Prop}:∀{l₁:List α} {l₂:List β},Paired F l₁ l₂->(∀a b,F a b->G a b)->Paired G l₁ l₂
 | _,_,.nil,_=>.nil
 | _,_,.cons r t,f=>.cons (f _ _ r) (Paired.mapP t f)
theorem qK.stay(x:qK P w H h a o)(k:∀b u,(b=a\/H b=some (.own a))->h.get? b=some u->h'.get? b=some u)
  (ho:∀b,H b=some (.own a)->H' b=some (.own a)) (ht:∀b xs,H b=some (.tup xs)->H' b=some (.tup xs)) (hf:∀b o,H b=some (.frz o (.own a))->H' b=some (.frz o (.own a)):=by exact λ_ _ q=>q):qK P w H' h' a o:=by
 induction o with
 | lst xs=>obtain⟨z,its,n,r,e⟩:=x;exact⟨z,its,n,r,k _ _ (.inl rfl) e⟩
 | tup xs=>obtain⟨z,its,r,ob,e,c⟩:=x;exact⟨z,its,r,ob,k _ _ (.inl rfl) e,c⟩
 | dK kvs=>obtain⟨z,y,vs,r,ob,es,ep,e,c⟩:=x;exact⟨z,y,vs,r,ob,es,ep,k _ _ (.inl rfl) e,c⟩
 | dT kvs=>
  obtain⟨z,y,xs,r,ob,es,ep,e,c⟩:=x
  exact⟨z,y,xs,Paired.mapP r λp q z=>⟨z.1,ht _ _ z.2.1,z.2.2⟩,ob,es,ep,k _ _ (.inl rfl) e,c⟩
 | set S n=>obtain⟨ob,es,ep,t,e,c⟩:=x;exact⟨ob,es,ep,t,k _ _ (.inl rfl) e,c⟩
 | ins C dx fs=>
  obtain⟨d,z,ne,e,mA,⟨od,es,ep,e2,c⟩,r⟩:=x
  exact⟨ho _ d,z,ne,k _ _ (.inl rfl) e,mA,⟨od,es,ep,k _ _ (.inr d) e2,c⟩,r⟩
 | own y=>obtain⟨ob,e⟩:=x;exact⟨ob,k _ _ (.inl rfl) e⟩
 | xd fs=>obtain⟨mA,⟨od,es,ep,e,c⟩,r⟩:=x;exact⟨mA,⟨od,es,ep,k _ _ (.inl rfl) e,c⟩,r⟩
 | rng lo hi=>obtain⟨t,u,v,e⟩:=x;exact⟨t,u,v,k _ _ (.inl rfl) e⟩
 | frz ob u ih=>obtain⟨e,q⟩:=x;exact⟨k _ _ (.inl rfl) e,ih q⟩
 | tbl ps=>
  obtain⟨ts,e,tr,cs⟩:=x
  exact⟨ts,k a _ (.inl rfl) e,tr,λpos cv q=>let ⟨c,oc,e1,e2,e3⟩:=cs pos cv q;⟨c,oc,e1,hf c oc e2,e3⟩⟩
 | met f y=>
  have e:h.get? a=some (zcX (.ref f) (.ref y)):=x
  show h'.get? a=some (zcX (.ref f) (.ref y))
  exact k a _ (.inl rfl) e
 | ext φ=>obtain⟨p,⟨o,e⟩,st⟩:=x;exact⟨st _ _ p λo q=>k _ _ (.inl rfl) q,⟨o,k _ _ (.inl rfl) e⟩,st⟩
theorem JN.lt(x:JN P w H h)(e:H a=some o):a < h.objs.size:=(x a o e).lt
theorem JN.fresh(x:JN P w H h)(e:h.objs.size<=a):H a=none:=by
 cases q:H a with
 | none=>rfl
 | some u=>exact absurd (tM (x.lt q) e) (zao _)
theorem JN.kept(x:JN P w H h)(k:∀b u,h.get? b=some u->h'.get? b=some u):JN P w H h':=λa o e=>
 (x a o e).stay (λb u _ q=>k b u q) (λ_ q=>q) λ_ _ q=>q
theorem JN.laid(x:JN P w H h)(k:∀b u,h.get? b=some u->h'.get? b=some u)(hp:h.objs.size<=a)(new:qK P w (upd H a o) h' a o):JN P w (upd H a o) h':=λb u e=>by
 have hn:=x.fresh hp
 by_cases hb:b=a
 ·subst hb;rw[qe]at e;cases e;exact new
 ·rw[qi hb]at e
  exact(x b u e).stay (λc v _ q=>k c v q) (λc q=>by rw[qi (qr q hn)];exact q) (λc xs q=>by rw[qi (qr q hn)];exact q) (λc o q=>by rw[qi (qr q hn)];exact q)
end
def Rd(H:Hp)(a:Addr)(u:HO):Prop:=H a=some u\/∃o,H a=some (.frz o u)
theorem Rd.ok{P:Program}{w:World}{H:Hp}{h:Heap}{a:Addr}{u:HO}(r:Rd H a u)(x:JN P w H h):qK P w H h a u:=by
 rcases r with r | ⟨o,r⟩
 ·exact x a u r
 ·obtain⟨_,q⟩:=x a _ r
  exact q
def Mut:Option HO->Prop
 | some (.lst _)=>True
 | some (.dK _)=>True
 | some (.dT _)=>True
 | some (.set _ _)=>True
 | some (.ins _ _ _)=>True
 | some (.ext _)=>True
 | _=>False
section
variable{P:Program}{w:World}{H:Hp}{h h':Heap}{x e:Addr}{o':HO}
theorem JN.write(ok:JN P w H h)(mu:Mut (H x))(he:e=x\/H e=some (.own x))(k:∀b u,b≠e->h.get? b=some u->h'.get? b=some u)(heo:∃u,h'.get? e=some u)
  (new:qK P w (upd H x o') h' x o'):JN P w (upd H x o') h':=λb u q=>by
 have nown:∀c y,H c=some (.own y)->c≠x:=λc y r z=>by subst z;rw[r]at mu;exact mu
 have ntup:∀c xs,H c=some (.tup xs)->c≠x:=λc xs r z=>by subst z;rw[r]at mu;exact mu
 by_cases hb:b=x
 ·subst hb;rw[qe]at q;cases q;exact new
 ·rw[qi hb]at q
  by_cases hbe:b=e
  ·have q':H b=some (.own x):=by
    rcases he with z | z
    ·exact absurd (hbe.trans z) hb
    ·rw[hbe];exact z
   rw[q]at q';cases q'
   obtain⟨v,hv⟩:=heo
   exact⟨v,by rw[hbe];exact hv⟩
  ·refine(ok b u q).stay (λc v hc r=>k c v ?_ r) (λc r=>by rw[qi (nown c b r)];exact r) (λc xs r=>by rw[qi (ntup c xs r)];exact r) (λc o r=>by rw[qi (λz=>by subst z;rw[r]at mu;exact mu)];exact r)
   rcases hc with rfl | hc
   ·exact hbe
   ·rintro rfl
    rcases he with z | z
    ·exact nown c b hc z
    ·rw[hc]at z;cases z;exact hb rfl
end
structure Un(fs ex:List Addr)(H H':Hp)(h h':Heap):Prop where
 keep:∀b o,h.get? b=some o->H b=none->b∉fs->b∉ex->h'.get? b=some o
 slot:∀b o,h.get? b=some o->H b=none->b∈fs->b∉ex->∃sl,h'.get? b=some {o with slots:=sl}
 free:∀b o,h.get? b=some o->H b=none->b∉ex->H' b=none
 there:∀b o,h.get? b=some o->b∉ex->∃o',h'.get? b=some o'
 tups:∀b xs,H b=some (.tup xs)->H' b=some (.tup xs)
 frzs:∀b o u,H b=some (.frz o u)->H' b=some (.frz o u)
 tbls:∀b ps,H b=some (.tbl ps)->∃more,H' b=some (.tbl (ps++more))
section
variable{fs fs' ex ex':List Addr}{H H1 H2:Hp}{h h1 h2 h':Heap}{a x e:Addr}{o:HO}
theorem Un.any(u:Un fs ex H H1 h h1){b:Addr}{ob:Obj}(q:h.get? b=some ob)(n:H b=none)(hx:b∉ex):∃sl,h1.get? b=some {ob with slots:=sl}:=by
 by_cases hb:b∈fs
 ·exact u.slot b ob q n hb hx
 ·exact⟨ob.slots,u.keep b ob q n hb hx⟩
theorem Un.kept(k:∀b u,h.get? b=some u->h'.get? b=some u):Un fs ex H H h h':=
 ⟨λb ob q _ _ _=>k b ob q,λb ob q _ _ _=>⟨ob.slots,k b ob q⟩,λ_ _ _ n _=>n,λb ob q _=>⟨ob,k b ob q⟩,λ_ _ q=>q,λ_ _ _ q=>q,λ_ ps q=>⟨#[],by rw[q];simp⟩⟩
theorem Un.refl:Un fs ex H H h h:=Un.kept λ_ _ q=>q
theorem Un.laid(k:∀b u,h.get? b=some u->h'.get? b=some u)(hp:h.objs.size<=a)(hn:H a=none):Un fs ex H (upd H a o) h h' where
 keep:=λb u q _ _ _=>k b u q
 slot:=λb u q _ _ _=>⟨u.slots,k b u q⟩
 free:=λb u q n _=>by rw[qi (tQ (tM (tK q) hp))];exact n
 there:=λb u q _=>⟨u,k b u q⟩
 tups:=λb xs q=>by rw[qi (qr q hn)];exact q
 frzs:=λb u xs q=>by rw[qi (qr q hn)];exact q
 tbls:=λb ps q=>⟨#[],by rw[qi (qr q hn),q];simp⟩
theorem Un.write(mu:Mut (H x))(he:e=x\/H e=some (.own x))(k:∀b u,b≠e->h.get? b=some u->h'.get? b=some u)(heo:∃u,h'.get? e=some u):Un fs ex H (upd H x o) h h':=by
 have hx:∀b,H b=none->b≠x:=λb n z=>by subst z;rw[n]at mu;exact mu
 have hb:∀b,H b=none->b≠e:=λb n z=>by
  subst z
  rcases he with r | r
  ·exact hx b n r
  ·rw[n]at r;cases r
 have hm:∀b u,H b=some u->¬Mut (some u)->b≠x:=λb u q nm z=>by subst z;rw[q]at mu;exact nm mu
 refine⟨λb u q n _ _=>k b u (hb b n) q,λb u q n _ _=>⟨u.slots,k b u (hb b n) q⟩,λb u q n _=>by rw[qi (hx b n)];exact n,λb u q _=>?_,
  λb xs q=>by rw[qi (hm b _ q λz=>z)];exact q,λb u xs q=>by rw[qi (hm b _ q λz=>z)];exact q,λb ps q=>⟨#[],by rw[qi (hm b _ q λz=>z),q];simp⟩⟩
 by_cases hbe:b=e
 ·subst hbe;exact heo
 ·exact⟨u,k b u hbe q⟩
end
def trk(h:Heap)(H:Hp):List Addr:=(zab h.objs.size).filter λa=>(H a).isSome
def Wb(h:Heap)(H:Hp):Heap:=PySem.W.hideAll h (trk h H)
theorem xp(h:Heap)(H:Hp):(Wb h H).objs.size=h.objs.size:=PySem.W.hideAll_size _ _
theorem u4{h:Heap}{H:Hp}{b:Addr}{o:Obj}(e:h.get? b=some o)(n:H b=none):(Wb h H).get? b=some o:=
 PySem.W.hideAll_get _ e λhm=>by
  have q:(H b).isSome=true:=(zad.mp hm).2
  rw[n]at q;simp at q
theorem Rl{h:Heap}{H:Hp}{b:Addr}{o:Obj}(e:(Wb h H).get? b=some o):h.get? b=some o/\H b=none:=by
 have e':h.get? b=some o:=PySem.W.of_hideAll (trk h H) e
 refine⟨e',?_⟩
 cases q:H b with
 | none=>rfl
 | some x=>
  have hm:b∈trk h H:=zad.mpr ⟨zaU.mpr (tK e'),by simp [q]⟩
  have z:(Wb h H).get? b=none:=PySem.W.hideAll_none (trk h H) hm
  rw[z]at e;cases e
def R8(g h:Heap)(L:Addr):List (Addr×Obj):=(zab h.objs.size).filterMap λa=>if a=L\/(g.get? a).isSome=true then none else (h.get? a).map λo=>(a,o)
def rest(g h:Heap)(L d:Addr):List (Addr×Obj):=(R8 g h L).filter λp=>decide (p.1≠d)
structure Mod(K:zdW)(mg:Str->Option Value)(base:Heap):Prop where
 kin:K.In base
 glob:base.Ns mainGlobals mg
 blt:∃mb,base.Ns builtinsNs mb/\∀x:Str,x≠"__name__"->mb x=bootBuiltins x
 nolimit:base.NoLimit
structure Cx where
 prog:Program
 w:World
 K:zdW
 mg:Str->Option Value
 base:Heap
 A:Around
 N:List Str
 s₀:Shared
 H₀:Hp
 env:Env
 outer:List Env
 stack:List Env
 ex:List Addr
 fn:Str->Bool
 calm:Bool
 pn:List (Addr×Obj)
 xe:Value->Shared->Prop
def Yy(l:List Env):List Addr:=l.filterMap (·.frame)
abbrev Cx.fs(X:Cx):List Addr:=Yy X.outer
def Vis(sc:Scope)(x:Str):Prop:=sc.names.lookup x=some .local\/sc.names.lookup x=some .cell\/sc.names.lookup x=some .free
def Loc(sc:Scope)(x:Str):Prop:=sc.names.lookup x=some .local\/sc.names.lookup x=some .cell
def qcO(env:Env)(h:Heap)(m:Str->Option Value)(x:Str)(u:Value):Prop:=
 (env.kindOf x=some .local/\m x=some u)\/((env.kindOf x=some .cell\/env.kindOf x=some .free)/\∃c,env.cells.lookup x=some c/\h.IsCell c (some u))
structure Cx.Ok(X:Cx):Prop where
 mod:Mod X.K X.mg X.base
 kind:X.env.scope.kind=.function
 glob:X.env.globals=mainGlobals
 blt:X.env.builtins=builtinsNs
 above:X.s₀.heap.objs.size<=X.env.locals
 inj:∀x y c,X.env.cells.lookup x=some c->X.env.cells.lookup y=some c->x=y
 has:∀x,(X.env.kindOf x=some .cell\/X.env.kindOf x=some .free)->∃c,X.env.cells.lookup x=some c
 cab:∀x c,X.fn x=true->X.env.cells.lookup x=some c->X.s₀.heap.objs.size<=c
 hd:X.calm=true->X.A.handled=none
 frames:X.A.frames=some X.stack
 stk:X.stack=X.outer\/(X.stack=X.env::X.outer/\X.env.frame=some X.env.locals)
 exf:∀b∈X.ex,b≠X.env.locals/\∀x c,X.env.cells.lookup x=some c->c≠b
 bs:∀b o,X.base.get? b=some o->X.s₀.heap.get? b=some o/\X.H₀ b=none
 bsz:X.base.objs.size<=X.s₀.heap.objs.size
 noex:∀b o,X.base.get? b=some o->b∉X.ex
 exfs:∀b∈X.ex,b∉X.fs
 funs:X.s₀.heap.FunFrames X.base X.outer
 frf:∀b∈X.fs,X.H₀ b=none
structure qz(X:Cx)(pins:List (Addr×Obj))(σ:List (Option V))(H:Hp)(s:Shared):Prop where
 ok:X.Ok
 os:s.os=X.s₀.os
 bare:AllBare s.gens
 base:Un X.fs X.ex X.H₀ H X.s₀.heap s.heap
 loc:∃m,s.heap.Ns X.env.locals m/\∀(i:Nat) (x:Str) (v:V),X.N[i]?=some x->σ[i]?=some (some v)->Vis X.env.scope x->∃u,qO v u/\qcO X.env s.heap m x u
 cell:∀x c,X.env.cells.lookup x=some c->∃v,s.heap.IsCell c v
 free:H X.env.locals=none
 freeC:∀x c,X.env.cells.lookup x=some c->H c=none\/(X.fn x=false/\∃o,H c=some (.frz o (.frz o (.own 0))))
 pin:∀p∈X.pn++pins,s.heap.get? p.1=some p.2/\H p.1=none/\p.1≠X.env.locals/\p.1∉X.fs/\∀v,p.2.data≠.cell v
 hok:JN X.prog X.w H s.heap
 len:σ.length=X.N.length
section
variable{X:Cx}{pins:List (Addr×Obj)}{σ:List (Option V)}{H H':Hp}{s:Shared}{h':Heap}
theorem Cx.Ok.nofr(ok:X.Ok){b:Addr}{o:Obj}(e:X.base.get? b=some o):b∉X.fs:=λhb=>by
 have:=(ok.funs.mem hb).1
 rw[e]at this;cases this
theorem qz.bs(I:qz X pins σ H s):∀b o,X.base.get? b=some o->s.heap.get? b=some o/\H b=none:=λb o e=>
 ⟨I.base.keep b o (I.ok.bs b o e).1 (I.ok.bs b o e).2 (I.ok.nofr e) (I.ok.noex b o e),I.base.free b o (I.ok.bs b o e).1 (I.ok.bs b o e).2 (I.ok.noex b o e)⟩
theorem qz.bk(I:qz X pins σ H s):∀b o,X.base.get? b=some o->s.heap.get? b=some o:=λb o e=>(I.bs b o e).1
theorem qz.mod(I:qz X pins σ H s):Mod X.K X.mg X.base:=I.ok.mod
theorem qz.kIn(I:qz X pins σ H s):X.K.In s.heap:=I.ok.mod.kin.keeps I.bk
theorem qz.lt(I:qz X pins σ H s):X.env.locals < s.heap.objs.size:=let ⟨_,hn,_⟩:=I.loc;hn.lt
theorem qz.sz(I:qz X pins σ H s):X.s₀.heap.objs.size<=s.heap.objs.size:=zaa I.ok.above (zai I.lt)
theorem qz.nofs(I:qz X pins σ H s){a:Addr}(h:s.heap.objs.size<=a):a∉X.fs:=λhb=>by
 obtain⟨_,o,ho,_⟩:=I.ok.funs.mem hb
 exact absurd (tM (tK ho) (zaa I.sz h)) (zao _)
theorem qz.cne(I:qz X pins σ H s):∀x c,X.env.cells.lookup x=some c->c≠X.env.locals:=λx c e z=>by
 obtain⟨v,o,ho,hd⟩:=I.cell x c e
 obtain⟨m,⟨o',es,ep,ho',hd',_⟩,_⟩:=I.loc
 rw[z,ho']at ho;cases ho;rw[hd']at hd;cases hd
theorem qz.funs(I:qz X pins σ H s):s.heap.FunFrames X.base X.outer:=by
 have all:∀(l:List Env),(∀b∈Yy l,b∈X.fs)->X.s₀.heap.FunFrames X.base l->s.heap.FunFrames X.base l:=by
  intro l
  induction l with
  | nil=>intro _ _;trivial
  | cons env r ih=>
   intro hs hl
   obtain⟨hk,⟨L,o,hf,hn,ho,hd⟩,hr⟩:=hl
   have hL:L∈X.fs:=hs L (by unfold Yy;rw[zas,hf];exact t8)
   obtain⟨sl,e⟩:=I.base.slot L o ho (I.ok.frf L hL) hL λz=>I.ok.exfs L z hL
   exact⟨hk,⟨L,_,hf,hn,e,hd⟩,ih (λb hb=>hs b (by unfold Yy;rw[zas,hf];exact tY _ hb)) hr⟩
 exact all X.outer (λ_ hb=>hb) I.ok.funs
theorem qz.stack(I:qz X pins σ H s):s.heap.FunFrames X.base X.stack:=by
 rcases I.ok.stk with e | ⟨e,hf⟩
 ·rw[e];exact I.funs
 ·rw[e]
  obtain⟨m,hn,_⟩:=I.loc
  refine .cons (by rw[I.ok.kind];decide) hf hn ?_ I.funs
  exact zcE (zaa I.ok.bsz I.ok.above)
theorem qz.stkSub(I:qz X pins σ H s):∀b∈Yy X.stack,b∈X.env.locals::X.fs:=λb hb=>by
 rcases I.ok.stk with e | ⟨e,hf⟩
 ·rw[e]at hb;exact tY _ hb
 ·rw[e]at hb
  unfold Yy at hb
  rw[zas,hf]at hb
  exact hb
theorem qz.stkFree(I:qz X pins σ H s):∀b∈Yy X.stack,H b=none:=λb hb=>by
 rcases tS.mp (I.stkSub b hb) with e | hb
 ·rw[e];exact I.free
 ·obtain⟨_,o,ho,_⟩:=I.ok.funs.mem hb
  exact I.base.free b o ho (I.ok.frf b hb) λz=>I.ok.exfs b z hb
theorem qz.step{g':Array GenState}{t':Nat}{d':Drawn}{ch:List Addr}(I:qz X pins σ H s)
  (hch:∀b∈ch,(b∈X.ex\/X.s₀.heap.objs.size<=b)/\b≠X.env.locals/\(∀x c,X.env.cells.lookup x=some c->c≠b)/\∀p∈X.pn++pins,p.1≠b)
  (keep:∀b o,b≠X.env.locals->b∉X.fs->b∉ch->s.heap.get? b=some o->H b=none->h'.get? b=some o)
  (slot:∀b o,b≠X.env.locals->b∈X.fs->b∉ch->s.heap.get? b=some o->H b=none->∃sl,h'.get? b=some {o with slots:=sl}) (free:∀b o,b∉ch->s.heap.get? b=some o->H b=none->H' b=none)
  (there:∀b o,b∉ch->s.heap.get? b=some o->∃o',h'.get? b=some o')
  (tups:∀b xs,H b=some (.tup xs)->H' b=some (.tup xs)) (frzs:∀b o u,H b=some (.frz o u)->H' b=some (.frz o u)) (tbls:∀b ps,H b=some (.tbl ps)->∃more,H' b=some (.tbl (ps++more)))
  (ns:∀m,s.heap.Ns X.env.locals m->h'.Ns X.env.locals m) (hok:JN X.prog X.w H' h') (hg:AllBare g'):
  qz X pins σ H' {s with heap:=h',gens:=g',drawn:=d',toks:=t'}:=by
 have neL:∀b o,X.s₀.heap.get? b=some o->b≠X.env.locals:=λb o e=>tQ (tM (tK e) I.ok.above)
 have neC:∀b o,X.s₀.heap.get? b=some o->b∉X.ex->b∉ch:=λb o e hx hb=>by
  rcases(hch b hb).1 with z | z
  ·exact hx z
  ·exact absurd (tM (tK e) z) (zao _)
 have cellK:∀x c,X.env.cells.lookup x=some c->∀v,s.heap.IsCell c v->h'.IsCell c v:=λx c e v ⟨o,ho,hd⟩=>by
  have nch:c∉ch:=λz=>(hch c z).2.2.1 x c e rfl
  rcases I.freeC x c e with fc | ⟨_,oc,fc⟩
  ·by_cases hc:c∈X.fs
   ·obtain⟨sl,q⟩:=slot c o (I.cne x c e) hc nch ho fc
    exact⟨_,q,hd⟩
   ·exact⟨o,keep c o (I.cne x c e) hc nch ho fc,hd⟩
  ·obtain⟨e1,_⟩:=(show qK X.prog X.w H s.heap c (.frz oc (.frz oc (.own 0))) from I.hok c _ fc)
   obtain⟨e2,_⟩:=(show qK X.prog X.w H' h' c (.frz oc (.frz oc (.own 0))) from hok c _ (frzs c oc _ fc))
   rw[ho]at e1
   cases e1
   exact⟨o,e2,hd⟩
 refine⟨I.ok,I.os,hg,⟨λb o e n hb hx=>?_,λb o e n hb hx=>?_,λb o e n hx=>?_,λb o e hx=>?_,λb xs e=>tups b xs (I.base.tups b xs e),λb o xs e=>frzs b o xs (I.base.frzs b o xs e),λb ps e=>?_⟩,?_,λx c e=>?_,?_,λx c e=>?_,λp hp=>?_,hok,I.len⟩
 ·exact keep b o (neL b o e) hb (neC b o e hx) (I.base.keep b o e n hb hx) (I.base.free b o e n hx)
 ·obtain⟨sl,e1⟩:=I.base.slot b o e n hb hx
  obtain⟨sl',e2⟩:=slot b _ (neL b o e) hb (neC b o e hx) e1 (I.base.free b o e n hx)
  exact⟨sl',e2⟩
 ·obtain⟨o',e1⟩:=I.base.there b o e hx
  exact free b o' (neC b o e hx) e1 (I.base.free b o e n hx)
 ·obtain⟨o',e1⟩:=I.base.there b o e hx
  exact there b o' (neC b o e hx) e1
 ·obtain⟨m1,e1⟩:=I.base.tbls b ps e
  obtain⟨m2,e2⟩:=tbls b _ e1
  exact⟨m1++m2,by rw[e2,Array.append_assoc]⟩
 ·obtain⟨m,hn,hl⟩:=I.loc
  refine⟨m,ns m hn,λi x v e1 e2 e3=>?_⟩
  obtain⟨u,r,l⟩:=hl i x v e1 e2 e3
  refine⟨u,r,?_⟩
  rcases l with l | ⟨k,c,e,z⟩
  ·exact .inl l
  ·exact .inr ⟨k,c,e,cellK x c e _ z⟩
 ·obtain⟨v,z⟩:=I.cell x c e
  exact⟨v,cellK x c e v z⟩
 ·obtain⟨m,⟨o,_,_,ho,_⟩,_⟩:=I.loc
  exact free _ o (λz=>(hch _ z).2.1 rfl) ho I.free
 ·obtain⟨v,o,ho,hd⟩:=I.cell x c e
  rcases I.freeC x c e with fc | ⟨fx,oc,fc⟩
  ·exact .inl (free c o (λz=>(hch c z).2.2.1 x c e rfl) ho fc)
  ·exact .inr ⟨fx,oc,frzs c oc _ fc⟩
 ·obtain⟨e,n,ne,nf,d⟩:=I.pin p hp
  have nch:p.1∉ch:=λz=>(hch p.1 z).2.2.2 p hp rfl
  exact⟨keep p.1 p.2 ne nf nch e n,free p.1 p.2 nch e n,ne,nf,d⟩
theorem qz.un{t':Nat}(I:qz X pins σ H s)(u:Un X.fs [] H H' s.heap h')(hok:JN X.prog X.w H' h'):qz X pins σ H' {s with heap:=h',toks:=t'}:=by
 obtain⟨m,⟨o,es,ep,ho,r⟩,_⟩:=id I.loc
 obtain⟨sl,hL⟩:=u.any ho I.free (by simp)
 exact I.step (g':=s.gens) (d':=s.drawn) (ch:=[]) (λ_ z=>nomatch z) (λb o _ hb _ e n=>u.keep b o e n hb (by simp)) (λb o _ hb _ e n=>u.slot b o e n hb (by simp)) (λb o _ e n=>u.free b o e n (by simp)) (λb o _ e=>u.there b o e (by simp)) u.tups u.frzs u.tbls (λm' hm=>by
  obtain⟨o',es',ep',ho',r'⟩:=hm
  rw[ho]at ho';cases ho'
  exact⟨_,es',ep',hL,r'⟩) hok I.bare
theorem qz.call{g':Array GenState}{t':Nat}{d':Drawn}{ch:List Addr}(I:qz X pins σ H s)(u:Un (Yy X.stack) ch H H' s.heap h')(hok:JN X.prog X.w H' h')(hg:AllBare g')
  (hch:∀b∈ch,(b∈X.ex\/X.s₀.heap.objs.size<=b)/\b≠X.env.locals/\(∀x c,X.env.cells.lookup x=some c->c≠b)/\∀p∈X.pn++pins,p.1≠b):
  qz X pins σ H' {s with heap:=h',gens:=g',drawn:=d',toks:=t'}:=by
 obtain⟨m,⟨o,es,ep,ho,r⟩,_⟩:=id I.loc
 obtain⟨sl,hL⟩:=u.any ho I.free λz=>(hch _ z).2.1 rfl
 exact I.step (ch:=ch) hch (λb o hL hb hc e n=>u.keep b o e n (λz=>(tS.mp (I.stkSub b z)).elim hL hb) hc) (λb o _ _ hc e n=>u.any e n hc) (λb o hc e n=>u.free b o e n hc) (λb o hc e=>u.there b o e hc) u.tups u.frzs u.tbls (λm' hm=>by
  obtain⟨o',es',ep',ho',r'⟩:=hm
  rw[ho]at ho';cases ho'
  exact⟨_,es',ep',hL,r'⟩) hok hg
theorem qz.turned{t':Nat}{it:Addr}(I:qz X pins σ H s)(k:∀b o,b≠it->s.heap.get? b=some o->h'.get? b=some o)(hn:H it=none)(hL:it≠X.env.locals)
  (h1:it∈X.ex\/X.s₀.heap.objs.size<=it) (h2:∀x c,X.env.cells.lookup x=some c->c≠it) (h3:∀p∈X.pn++pins,p.1≠it):qz X pins σ H {s with heap:=h',toks:=t'}:=by
 have nit:∀b u,H b=some u->b≠it:=λb u e z=>by rw[z,hn]at e;cases e
 refine I.step (g':=s.gens) (d':=s.drawn) (ch:=[it]) (λb hb=>?_) (λb o _ _ hc e _=>k b o (λz=>hc (by simp [z])) e) (λb o _ _ hc e _=>⟨o.slots,k b o (λz=>hc (by simp [z])) e⟩) (λ_ _ _ _ n=>n)
  (λb o hc e=>⟨o,k b o (λz=>hc (by simp [z])) e⟩) (λ_ _ e=>e) (λ_ _ _ e=>e) (λb ps e=>⟨#[],by rw[e];simp⟩) (λm hm=>?_) (λb u e=>?_) I.bare
 ·have e:b=it:=by simpa using hb
  subst e
  exact⟨h1,hL,h2,h3⟩
 ·obtain⟨o,es,ep,ho,r⟩:=hm
  exact⟨o,es,ep,k _ o (Ne.symm hL) ho,r⟩
 ·refine(I.hok b u e).stay (λc v hc q=>k c v ?_ q) (λ_ q=>q) λ_ _ q=>q
  rcases hc with z | z
  ·rw[z];exact nit b u e
  ·exact nit c _ z
theorem qz.tok(I:qz X pins σ H s)(t:Nat):qz X pins σ H {s with toks:=t}:=I.un (h':=s.heap) (t':=t) Un.refl I.hok
theorem qz.kept{t':Nat}(I:qz X pins σ H s)(k:∀b u,s.heap.get? b=some u->h'.get? b=some u):qz X pins σ H {s with heap:=h',toks:=t'}:=I.un (Un.kept k) (I.hok.kept k)
theorem qz.laid{a:Addr}{o:HO}{t':Nat}(I:qz X pins σ H s)(k:∀b u,s.heap.get? b=some u->h'.get? b=some u)(hp:s.heap.objs.size<=a)(new:qK X.prog X.w (upd H a o) h' a o):
 qz X pins σ (upd H a o) {s with heap:=h',toks:=t'}:=I.un (Un.laid k hp (I.hok.fresh hp)) (I.hok.laid k hp new)
theorem qz.write{x e:Addr}{o:HO}{t':Nat}(I:qz X pins σ H s)(mu:Mut (H x))(he:e=x\/H e=some (.own x))(k:∀b u,b≠e->s.heap.get? b=some u->h'.get? b=some u)(heo:∃u,h'.get? e=some u)
 (new:qK X.prog X.w (upd H x o) h' x o):qz X pins σ (upd H x o) {s with heap:=h',toks:=t'}:=I.un (Un.write mu he k heo) (I.hok.write mu he k heo new)
theorem qz.pins_of{pins':List (Addr×Obj)}(I:qz X pins σ H s)(h:∀p∈pins',s.heap.get? p.1=some p.2/\H p.1=none/\p.1≠X.env.locals/\p.1∉X.fs/\∀v,p.2.data≠.cell v):qz X pins' σ H s:=
 ⟨I.ok,I.os,I.bare,I.base,I.loc,I.cell,I.free,I.freeC,λp hp=>(tX.mp hp).elim (λz=>I.pin p (zaj _ z)) (h p),I.hok,I.len⟩
theorem XF{N:List Str}(hN:N.Nodup){i j:Nat}{x:Str}(a:N[i]?=some x)(b:N[j]?=some x):i=j:=by
 obtain⟨h1,e1⟩:=tw.mp a
 obtain⟨h2,e2⟩:=tw.mp b
 exact(List.getElem_inj hN).mp (e1.trans e2.symm)
theorem Wm{M:Model}{A:Around}{E:Value->Shared->Prop}{i:Nat}{x:Str}{v:V}{u:Value}{Q:Unit->Shared->Prop}(I:qz X pins σ H s)(hN:X.N.Nodup)(hi:X.N[i]?=some x)(hx:Loc X.env.scope x)(r:qO v u)
  (h:∀s',qz X pins (σ.set i (some v)) H s'->(∃a,Heap.SameBut a s.heap s'.heap/\(a=X.env.locals\/X.env.cells.lookup x=some a))->Q () s') (hf:X.fn x=true\/X.env.scope.names.lookup x=some .local:=by first | exact .inl rfl | exact .inr rfl | assumption):wpAny M A (storeName X.env x u) Q E s:=by
 obtain⟨m,hn,hl⟩:=id I.loc
 have hcls:(X.env.scope.kind==.class || (X.env.scope.kind==.module&&X.env.locals != X.env.globals))=false:=by rw[I.ok.kind];rfl
 have hiσ:i < σ.length:=by rw[I.len];exact(tw.mp hi).1
 have cne:=I.cne
 have tracked:∀{a:Addr} {h':Heap},(∃o,s.heap.get? a=some o/\H a=none)->Heap.SameBut a s.heap h'->JN X.prog X.w H h':=λ{a h'} ha hs b ob e=>by
  obtain⟨_,_,hfree⟩:=ha
  refine(I.hok b ob e).stay (λc w' hc q=>(hs.2 c ?_).trans q) (λ_ q=>q) λ_ _ q=>q
  rintro rfl
  rcases hc with rfl | hc
  ·rw[hfree]at e;cases e
  ·rw[hfree]at hc;cases hc
 rcases hx with hk | hk
 ·refine wpAny_storeName_local hk hn (λh' hn' hs=>?_) hcls
  obtain⟨oL,_,_,hoL,_⟩:=id hn
  refine h _ ⟨I.ok,I.os,I.bare,⟨λb o e n hb hx=>?_,λb o e n hb hx=>?_,I.base.free,λb o e hx=>?_,I.base.tups,I.base.frzs,I.base.tbls⟩,⟨_,hn',λj y v' e1 e2 e3=>?_⟩,λy c e=>?_,I.free,I.freeC,λp hp=>?_,tracked ⟨oL,hoL,I.free⟩ hs,by simpa using I.len⟩ ⟨_,hs,.inl rfl⟩
  ·exact(hs.2 b (tQ (tM (tK e) I.ok.above))).trans (I.base.keep b o e n hb hx)
  ·obtain⟨sl,e1⟩:=I.base.slot b o e n hb hx
   exact⟨sl,(hs.2 b (tQ (tM (tK e) I.ok.above))).trans e1⟩
  ·obtain⟨o',e1⟩:=I.base.there b o e hx
   exact⟨o',(hs.2 b (tQ (tM (tK e) I.ok.above))).trans e1⟩
  ·by_cases hj:j=i
   ·subst hj
    rw[hi]at e1;cases e1
    rw[zcq hiσ]at e2
    cases e2
    exact⟨u,r,.inl ⟨hk,by simp⟩⟩
   ·rw[zcF (Ne.symm hj)]at e2
    obtain⟨u',r',q⟩:=hl j y v' e1 e2 e3
    refine⟨u',r',?_⟩
    rcases q with ⟨k,e⟩ | ⟨k,c,e,z⟩
    ·refine .inl ⟨k,?_⟩
     have:y≠x:=λe=>hj (XF hN e1 (e▸hi))
     simp [this,e]
    ·exact .inr ⟨k,c,e,z.sameBut hs (cne y c e)⟩
  ·obtain⟨w',z⟩:=I.cell y c e
   exact⟨w',z.sameBut hs (cne y c e)⟩
  ·obtain⟨e,n,ne,nf,d⟩:=I.pin p hp
   exact⟨(hs.2 p.1 ne).trans e,n,ne,nf,d⟩
 ·have hfn:X.fn x=true:=by
   rcases hf with z | z
   ·exact z
   ·rw[z]at hk;cases hk
  obtain⟨c,hc⟩:=I.ok.has x (.inl hk)
  obtain⟨w',z⟩:=I.cell x c hc
  refine wpAny_storeName_cell I.ok.kind hk hc z (λh' hc' hs=>?_)
  obtain⟨oc,hoc,hocd⟩:=id z
  have fcn:H c=none:=(I.freeC x c hc).elim id λz=>by rw[hfn]at z;cases z.1
  refine h {s with heap:=h'} ⟨I.ok,I.os,I.bare,⟨λb o e n hb hx=>?_,λb o e n hb hx=>?_,I.base.free,λb o e hx=>?_,I.base.tups,I.base.frzs,I.base.tbls⟩,⟨m,hn.sameBut hs (Ne.symm (cne x c hc)),λj y v' e1 e2 e3=>?_⟩,λy c' e=>?_,I.free,I.freeC,λp hp=>?_,tracked ⟨oc,hoc,fcn⟩ hs,by simpa using I.len⟩ ⟨c,hs,.inr hc⟩
  ·exact(hs.2 b (tQ (tM (tK e) (I.ok.cab x c hfn hc)))).trans (I.base.keep b o e n hb hx)
  ·obtain⟨sl,e1⟩:=I.base.slot b o e n hb hx
   exact⟨sl,(hs.2 b (tQ (tM (tK e) (I.ok.cab x c hfn hc)))).trans e1⟩
  ·obtain⟨o',e1⟩:=I.base.there b o e hx
   exact⟨o',(hs.2 b (tQ (tM (tK e) (I.ok.cab x c hfn hc)))).trans e1⟩
  ·by_cases hj:j=i
   ·subst hj
    rw[hi]at e1;cases e1
    rw[zcq hiσ]at e2
    cases e2
    exact⟨u,r,.inr ⟨.inl hk,c,hc,hc'⟩⟩
   ·rw[zcF (Ne.symm hj)]at e2
    obtain⟨u',r',q⟩:=hl j y v' e1 e2 e3
    refine⟨u',r',?_⟩
    rcases q with q | ⟨k,c',e,z'⟩
    ·exact .inl q
    ·refine .inr ⟨k,c',e,z'.sameBut hs ?_⟩
     rintro rfl
     exact hj (XF hN e1 (I.ok.inj _ _ _ e hc▸hi))
  ·by_cases hcc:c'=c
   ·subst hcc;exact⟨_,hc'⟩
   ·obtain⟨w2,z2⟩:=I.cell y c' e
    exact⟨w2,z2.sameBut hs hcc⟩
  ·obtain⟨e,n,ne,nf,d⟩:=I.pin p hp
   refine⟨(hs.2 p.1 ?_).trans e,n,ne,nf,d⟩
   intro q
   rw[q,hoc]at e
   have q':oc=p.2:=tO.inj e
   exact d w' (by rw[<-q'];exact hocd)
theorem zc{M:Model}{A:Around}{E:Value->Shared->Prop}{i:Nat}{x:Str}{v:V}{u:Value}{Q:Unit->Shared->Prop}(I:qz X pins σ H s)(hN:X.N.Nodup)(hi:X.N[i]?=some x)(hx:Loc X.env.scope x)(r:qO v u)
  (h:∀s',qz X pins (σ.set i (some v)) H s'->Q () s') (hf:X.fn x=true\/X.env.scope.names.lookup x=some .local:=by first | exact .inl rfl | exact .inr rfl | assumption):wpAny M A (storeName X.env x u) Q E s:=
 Wm I hN hi hx r (λs' I' _=>h s' I') hf
theorem qz.call'{s':Shared}{ch:List Addr}(I:qz X pins σ H s)(ho:s'.os=s.os)(u:Un (Yy X.stack) ch H H' s.heap s'.heap)(hok:JN X.prog X.w H' s'.heap)(hg:AllBare s'.gens)
  (hch:∀b∈ch,(b∈X.ex\/X.s₀.heap.objs.size<=b)/\b≠X.env.locals/\(∀x c,X.env.cells.lookup x=some c->c≠b)/\∀p∈X.pn++pins,p.1≠b):qz X pins σ H' s':=by
 obtain⟨h',g',d',t',o'⟩:=s'
 have e:o'=s.os:=ho
 subst e
 exact I.call (g':=g') (t':=t') (d':=d') u hok hg hch
end
abbrev XK:=Value->Option Addr->Hp->Prop
abbrev St:=List (Option V)
abbrev VK:=V->Hp->Prop
abbrev TE:=St->Hp->VK->Prop
abbrev TT:=St->Hp->(Bool->Hp->Prop)->Prop
abbrev TA:=St->Hp->(List V->Hp->Prop)->Prop
structure Ja where
 nx:St->Hp->Prop
 rt:VK
 bk:St->Hp->Prop:=λ_ _=>False
 ct:St->Hp->Prop:=λ_ _=>False
abbrev TS:=Ja->St->Hp->Prop
def EP(X:Cx)(pins:List (Addr×Obj))(σ:St)(Q:VK)(u:Value)(s':Shared):Prop:=∃v H',qz X pins σ H' s'/\qO v u/\Q v H'
def TP(X:Cx)(pins:List (Addr×Obj))(σ:St)(Q:Bool->Hp->Prop)(b:Bool)(s':Shared):Prop:=∃H',qz X pins σ H' s'/\Q b H'
def AP(X:Cx)(pins:List (Addr×Obj))(σ:St)(Q:List V->Hp->Prop)(us:List Value)(s':Shared):Prop:=∃vs H',qz X pins σ H' s'/\qG vs us/\Q vs H'
def SP(X:Cx)(pins:List (Addr×Obj))(D:Ja)(f:Flow)(s':Shared):Prop:=
 match f with
 | .next=>∃σ' H',qz X pins σ' H' s'/\D.nx σ' H'
 | .brk=>∃σ' H',qz X pins σ' H' s'/\D.bk σ' H'
 | .cont=>∃σ' H',qz X pins σ' H' s'/\D.ct σ' H'
 | .ret u=>∃v σ' H',qz X pins σ' H' s'/\qO v u/\D.rt v H'
def PE(X:Cx)(e:Expr)(t:TE):Prop:=
 ∀(pins:List (Addr×Obj)) (s:Shared) (σ:St) (H:Hp) (Q:VK),qz X pins σ H s->t σ H Q->wpAny (model X.prog X.w) X.A (eval e X.env) (EP X pins σ Q) X.xe s
@[irreducible] def JE (X:Cx) (e:Expr) (t:TE):Prop:=PE X e t
theorem JE.of{X:Cx}{e:Expr}{t:TE}(h:PE X e t):JE X e t:=by unfold JE;exact h
theorem JE.to{X:Cx}{e:Expr}{t:TE}(h:JE X e t):PE X e t:=by unfold JE at h;exact h
def PT(X:Cx)(e:Expr)(t:TT):Prop:=
 ∀(pins:List (Addr×Obj)) (s:Shared) (σ:St) (H:Hp) (Q:Bool->Hp->Prop),qz X pins σ H s->t σ H Q->wpAny (model X.prog X.w) X.A (isTrue e X.env (eval e X.env)) (TP X pins σ Q) X.xe s
@[irreducible] def JT (X:Cx) (e:Expr) (t:TT):Prop:=PT X e t
theorem JT.of{X:Cx}{e:Expr}{t:TT}(h:PT X e t):JT X e t:=by unfold JT;exact h
theorem JT.to{X:Cx}{e:Expr}{t:TT}(h:JT X e t):PT X e t:=by unfold JT at h;exact h
def PW(X:Cx)(e:Expr)(t:TT):Prop:=
 ∀(whole:Sem Value) (pins:List (Addr×Obj)) (s:Shared) (σ:St) (H:Hp) (Q:Bool->Hp->Prop),qz X pins σ H s->t σ H Q->wpAny (model X.prog X.w) X.A (isTrue e X.env whole) (TP X pins σ Q) X.xe s
theorem PW.pt{X:Cx}{e:Expr}{t:TT}(h:PW X e t):PT X e t:=h _
@[irreducible] def JW (X:Cx) (e:Expr) (t:TT):Prop:=PW X e t
theorem JW.of{X:Cx}{e:Expr}{t:TT}(h:PW X e t):JW X e t:=by unfold JW;exact h
theorem JW.to{X:Cx}{e:Expr}{t:TT}(h:JW X e t):PW X e t:=by unfold JW at h;exact h
theorem JW.pt{X:Cx}{e:Expr}{t:TT}(h:JW X e t):JT X e t:=.of h.to.pt
def PA(X:Cx)(es:List Expr)(t:TA):Prop:=
 ∀(pos:Pos) (pins:List (Addr×Obj)) (s:Shared) (σ:St) (H:Hp) (Q:List V->Hp->Prop),qz X pins σ H s->t σ H Q->wpAny (model X.prog X.w) X.A (spliced (backTo pos (starEach es X.env))) (AP X pins σ Q) X.xe s
@[irreducible] def JA (X:Cx) (es:List Expr) (t:TA):Prop:=PA X es t
theorem JA.of{X:Cx}{es:List Expr}{t:TA}(h:PA X es t):JA X es t:=by unfold JA;exact h
theorem JA.to{X:Cx}{es:List Expr}{t:TA}(h:JA X es t):PA X es t:=by unfold JA at h;exact h
def PS(X:Cx)(st:Stmt)(t:TS):Prop:=
 ∀(pins:List (Addr×Obj)) (s:Shared) (σ:St) (H:Hp) (D:Ja),qz X pins σ H s->t D σ H->wpAny (model X.prog X.w) X.A (exec st X.env) (SP X pins D) X.xe s
@[irreducible] def JS (X:Cx) (st:Stmt) (t:TS):Prop:=PS X st t
theorem JS.of{X:Cx}{st:Stmt}{t:TS}(h:PS X st t):JS X st t:=by unfold JS;exact h
theorem JS.to{X:Cx}{st:Stmt}{t:TS}(h:JS X st t):PS X st t:=by unfold JS at h;exact h
def KA(X:Cx)(st:List Stmt)(t:TS):Prop:=
 ∀(pins:List (Addr×Obj)) (s:Shared) (σ:St) (H:Hp) (D:Ja),qz X pins σ H s->t D σ H->wpAny (model X.prog X.w) X.A (execs st X.env) (SP X pins D) X.xe s
@[irreducible] def WR (X:Cx) (st:List Stmt) (t:TS):Prop:=KA X st t
theorem WR.of{X:Cx}{st:List Stmt}{t:TS}(h:KA X st t):WR X st t:=by unfold WR;exact h
theorem WR.to{X:Cx}{st:List Stmt}{t:TS}(h:WR X st t):KA X st t:=by unfold WR at h;exact h
theorem jf{α:Type}{t:Sem α}{Q Q':α->Shared->Prop}{M:Model}{A:Around}{E:Value->Shared->Prop}{s:Shared}(h:wpAny M A t Q E s)(hQ:∀a s,Q a s->Q' a s):wpAny M A t Q' E s:=wpAny_mono h hQ λ_ _ x=>x
section
variable{X:Cx}
def jd(i:Nat):TE:=λσ H Q=>∃v,σ[i]?=some (some v)/\Q v H
def tC(v:V):TE:=λ_ H Q=>Q v H
theorem Mc{i:Nat}{x:Str}{pos:Pos}(hN:X.N[i]?=some x)(hv:Vis X.env.scope x)(hd:(x==("__debug__":Str))=false:=by decide)(hcd:(x==("__classdict__":Str))=false:=by decide):PE X (.Name x pos) (jd i):=by
 intro pins s σ H Q I h
 obtain⟨v,e,h⟩:=h
 obtain⟨m,hn,hl⟩:=I.loc
 obtain⟨u,r,l⟩:=hl i x v hN e hv
 have fin:EP X pins σ Q u s:=⟨v,H,I,r,h⟩
 rcases l with ⟨hk,hm⟩ | ⟨hk,c,hc,hcell⟩
 ·exact wpAny_Name (wpAny_loadName_local I.ok.kind hk hn hm fin) hd
 ·rcases hk with hk | hk
  ·exact wpAny_Name (wpAny_loadName_cell I.ok.kind hk hc hcell fin) hd
  ·exact wpAny_Name (wpAny_loadName_free I.ok.kind hk hc hcell fin hcd) hd
theorem qk{i j pos}:JE X (.Constant (.int i) j pos) (tC (.int i)):=.of (by
 exact λ_ _ _ H _ I h=>wpAny_Constant_int ⟨.int i,H,I.tok _,⟨_,rfl⟩,h⟩)
theorem Qr{b j pos}:JE X (.Constant (.bool b) j pos) (tC (.bl b)):=.of (by
 exact λ_ _ _ H _ I h=>Constant_bool ⟨.bl b,H,I,rfl,h⟩)
theorem Vq{j pos}:JE X (.Constant .none j pos) (tC .non):=.of (by
 exact λ_ _ _ H _ I h=>Constant_none ⟨.non,H,I,rfl,h⟩)
theorem qE{x j pos}:JE X (.Constant (.str x) j pos) (tC (.str x)):=.of (by
 exact λ_ _ _ H _ I h=>Calls.Constant_str ⟨.str x,H,I.tok _,⟨_,rfl⟩,h⟩)
def Gl(X:Cx)(x:Str):Prop:=X.env.kindOf x=some .globalImplicit
theorem zt{E:Value->Shared->Prop}{pins:List (Addr×Obj)}{s:Shared}{σ:St}{H:Hp}{x:Str}{u:Value}{pos:Pos}{Q:Value->Shared->Prop}(I:qz X pins σ H s)(hg:Gl X x)(hm:X.mg x=some u)(h:Q u s)
  (hd:(x==("__debug__":Str))=false:=by decide):wpAny (model X.prog X.w) X.A (eval (.Name x pos) X.env) Q E s:=
 Calls.Name_function_global I.ok.kind hg (Calls.loadGlobal_global (by rw[I.ok.glob];exact I.mod.glob.keeps I.bk) hm h) hd
theorem Q5{E:Value->Shared->Prop}{pins:List (Addr×Obj)}{s:Shared}{σ:St}{H:Hp}{x:Str}{u:Value}{pos:Pos}{Q:Value->Shared->Prop}(I:qz X pins σ H s)(hg:Gl X x)(hm:X.mg x=none)(hv:bootBuiltins x=some u)(h:Q u s)
  (hn:x≠"__name__":=by decide) (hd:(x==("__debug__":Str))=false:=by decide):wpAny (model X.prog X.w) X.A (eval (.Name x pos) X.env) Q E s:=by
 obtain⟨mb,h1,h2⟩:=I.mod.blt
 exact Calls.Name_function_global I.ok.kind hg (Calls.loadGlobal_builtin (by rw[I.ok.glob];exact I.mod.glob.keeps I.bk) hm (by rw[I.ok.blt];exact h1.keeps I.bk) ((h2 x hn).trans hv) h) hd
theorem kJ{x:Str}{v:V}{u:Value}{pos:Pos}(hg:Gl X x)(hm:X.mg x=some u)(r:qO v u)(hd:(x==("__debug__":Str))=false:=by decide):PE X (.Name x pos) (tC v):=
 λ_ _ _ H _ I h=>zt I hg hm ⟨v,H,I,r,h⟩ hd
theorem Jj{x:Str}{v:V}{u:Value}{pos:Pos}(hg:Gl X x)(hm:X.mg x=some u)(r:qO v u)(hd:(x==("__debug__":Str))=false:=by decide):JE X (.Name x pos) (tC v):=.of (kJ hg hm r hd)
theorem jW{x:Str}{v:V}{u:Value}{pos:Pos}(hg:Gl X x)(hm:X.mg x=none)(hv:bootBuiltins x=some u)(r:qO v u)(hn:x≠"__name__":=by decide)(hd:(x==("__debug__":Str))=false:=by decide):JE X (.Name x pos) (tC v):=.of (by
 exact λ_ _ _ H _ I h=>Q5 I hg hm hv ⟨v,H,I,r,h⟩ hn hd)
variable{a b:Expr}{ta tb:TE}{pos:Pos}
def PC(X:Cx)(op:CmpOp)(a b:Expr)(t:TE):Prop:=
 ∀(pins:List (Addr×Obj)) (s:Shared) (σ:St) (H:Hp) (Q:VK),qz X pins σ H s->t σ H Q->
  wpAny (model X.prog X.w) X.A (eval a X.env) (λv s₁=>wpAny (model X.prog X.w) X.A (eval b X.env) (λu s₂=>wpAny (model X.prog X.w) X.A (compareOp op v u) (EP X pins σ Q) X.xe s₂) X.xe s₁) X.xe s
@[irreducible] def JC (X:Cx) (op:CmpOp) (a b:Expr) (t:TE):Prop:=PC X op a b t
theorem JC.of{X:Cx}{op:CmpOp}{a b:Expr}{t:TE}(h:PC X op a b t):JC X op a b t:=by unfold JC;exact h
theorem JC.to{X:Cx}{op:CmpOp}{a b:Expr}{t:TE}(h:JC X op a b t):PC X op a b t:=by unfold JC at h;exact h
def tB(t:TE):TT:=λσ H Q=>t σ H λx H1=>∃c,x=.bl c/\Q c H1
theorem Qo{op:CmpOp}{t:TE}(h:JC X op a b t)(h1:behindInMarks op b=false:=by first | exact nobehind _ (by decide) (by decide) | rfl):JT X (.Compare a [op] [b] pos) (tB t):=.of (by
 have h:=h.to
 intro pins s σ H Q I hw
 refine wpAny_isTrue_Compare1 (jf (h pins s σ H _ I hw) λv s1 h1=>jf h1 λu s2 h2=>jf h2 λc s3 ⟨x,H1,I1,r1,q1⟩=>?_) h1
 obtain⟨d,rfl,q⟩:=q1
 cases r1
 exact wpAny_truthy_bool ⟨H1,I1,q⟩)
theorem jl{e:Expr}{t:TE}(h:JE X e t)(he:∀whole,isTrue e X.env whole=(do let v <-whole;standAt e.pos;holding [v] (truthy v)):=by intro _;rfl):JT X e (tB t):=.of (by
 have h:=h.to
 intro pins s σ H Q I hw
 refine isTrue_plain (jf (h pins s σ H _ I hw) λv s1 ⟨x,H1,I1,r1,q1⟩=>?_) (he _)
 obtain⟨d,rfl,q⟩:=q1
 cases r1
 exact wpAny_truthy_bool ⟨H1,I1,q⟩)
variable{tA tB':TT}{rest:List Expr}
def NT(t u:TT):TT:=λσ H Q=>t σ H λc H1=>if c=true then u σ H1 Q else Q false H1
def tOr(t u:TT):TT:=λσ H Q=>t σ H λc H1=>if c=true then Q true H1 else u σ H1 Q
def qas(t:TT):TT:=λσ H Q=>t σ H λc H1=>Q (!c) H1
theorem jJ(ha:JT X a tA):JW X (.BoolOp .And [a] pos) tA:=.of (by
 have ha:=ha.to
 intro wh pins s σ H Q I h
 refine isTrue_and (jf (ha pins s σ H Q I h) λc s1 e=>?_)
 cases c with
 | true=>exact isTrue_and_nil e
 | false=>exact e)
theorem Qm(ha:JT X a tA):JW X (.BoolOp .Or [a] pos) tA:=.of (by
 have ha:=ha.to
 intro wh pins s σ H Q I h
 refine isTrue_or (jf (ha pins s σ H Q I h) λc s1 e=>?_)
 cases c with
 | false=>exact isTrue_or_nil e
 | true=>exact e)
theorem j1(ha:JT X a tA)(hb:JW X (.BoolOp .And (b::rest) pos) tB'):JW X (.BoolOp .And (a::b::rest) pos) (NT tA tB'):=.of (by
 have ha:=ha.to
 have hb:=hb.to
 intro wh pins s σ H Q I h
 refine isTrue_and (jf (ha pins s σ H _ I h) λc s1 ⟨H1,I1,q1⟩=>?_)
 cases c with
 | true=>exact hb wh pins s1 σ H1 Q I1 q1
 | false=>exact⟨H1,I1,q1⟩)
theorem Ji(ha:JT X a tA)(hb:JW X (.BoolOp .Or (b::rest) pos) tB'):JW X (.BoolOp .Or (a::b::rest) pos) (tOr tA tB'):=.of (by
 have ha:=ha.to
 have hb:=hb.to
 intro wh pins s σ H Q I h
 refine isTrue_or (jf (ha pins s σ H _ I h) λc s1 ⟨H1,I1,q1⟩=>?_)
 cases c with
 | true=>exact⟨H1,I1,q1⟩
 | false=>exact hb wh pins s1 σ H1 Q I1 q1)
theorem Qn(ha:JT X a tA):JT X (.UnaryOp .Not a pos) (qas tA):=.of (by
 have ha:=ha.to
 intro pins s σ H Q I h
 exact isTrue_not (ha pins s σ H (λc H1=>Q (!c) H1) I h))
def qaz(ta tb:TE):TE:=λσ H Q=>ta σ H λx H1=>∃c,x=.bl c/\if c=true then tb σ H1 Q else Q (.bl false) H1
def qar(ta:TE):TE:=λσ H Q=>ta σ H λx H1=>∃c,x=.bl c/\Q (.bl (!c)) H1
theorem XN{op}{t:TE}(h:JE X a t):JE X (.BoolOp op [a] pos) t:=.of (by
 have h:=h.to
 exact λpins s σ H Q I hw=>BoolOp_one (h pins s σ H Q I hw))
theorem Z5(ha:JE X a ta)(hb:JE X (.BoolOp .And (b::rest) pos) tb):JE X (.BoolOp .And (a::b::rest) pos) (qaz ta tb):=.of (by
 have ha:=ha.to
 have hb:=hb.to
 intro pins s σ H Q I h
 refine BoolOp_and (jf (ha pins s σ H _ I h) λv s1 ⟨x,H1,I1,r1,q1⟩=>?_)
 obtain⟨c,rfl,q1⟩:=q1
 cases r1
 refine wpAny_truthy_bool ?_
 cases c with
 | true=>exact hb pins s1 σ H1 Q I1 q1
 | false=>exact⟨.bl false,H1,I1,rfl,q1⟩)
theorem MQ(ha:JE X a ta):JE X (.UnaryOp .Not a pos) (qar ta):=.of (by
 have ha:=ha.to
 intro pins s σ H Q I h
 refine UnaryOp_ (jf (ha pins s σ H _ I h) λv s1 ⟨x,H1,I1,r1,q1⟩=>?_)
 obtain⟨c,rfl,q1⟩:=q1
 cases r1
 exact not_of (wpAny_truthy_bool ⟨.bl (!c),H1,I1,rfl,q1⟩))
end
def SqL(K:zdW)(H:Hp)(a:Addr)(xs:List V):Prop:=
 Rd H a (.lst xs)\/
  ∃(o:Obj) (its:Array Value) (n:Nat),K.lookup a=some o/\o.cls=.type "list"/\o.dict=none/\o.data=.seq its n/\its.size<=zeb/\qG xs its.toList
def Y5(K:zdW)(H:Hp)(a:Addr)(xs:List V):Prop:=
 Rd H a (.tup xs)\/
  ∃(o:Obj) (its:Array Value) (n:Nat),K.lookup a=some o/\o.cls=.type "tuple"/\o.data=.seq its n/\its.size<=zeb/\qG xs its.toList
def qcJ:Value->Option V
 | .none=>some .non
 | .bool b=>some (.bl b)
 | .int i _=>some (.int i)
 | .str x _=>some (.str x)
 | .bytes b _=>some (.byt b)
 | .float b _=>some (.flt b)
 | .ref a=>some (.ref a)
 | .type n=>some (.ty n)
 | _=>none
theorem qO.abs{x:V}{u:Value}(r:qO x u):qcJ u=some x:=by
 cases x with
 | non=>cases r;rfl
 | bl _=>cases r;rfl
 | int _=>obtain⟨t,rfl⟩:=r;rfl
 | str _=>obtain⟨t,rfl⟩:=r;rfl
 | byt _=>obtain⟨t,rfl⟩:=r;rfl
 | flt _=>obtain⟨t,rfl⟩:=r;rfl
 | ref _=>cases r;rfl
 | ty _=>cases r;rfl
theorem qO.inj{x y:V}{u:Value}(r:qO x u)(q:qO y u):x=y:=tO.inj (r.abs.symm.trans q.abs)
theorem qG.inj:∀{xs ys:List V} {us:List Value},qG xs us->qG ys us->xs=ys
 | _,_,_,.nil,.nil=>rfl
 | _,_,_,.cons r t,.cons r' t'=>by rw[r.inj r',qG.inj t t']
section
variable{X:Cx}{pins:List (Addr×Obj)}{σ:St}{H:Hp}{s:Shared}{a:Addr}{xs ys:List V}
theorem SqL.of{K:zdW}(h:H a=some (.lst xs)):SqL K H a xs:=.inl (.inl h)
theorem Y5.of{K:zdW}(h:H a=some (.tup xs)):Y5 K H a xs:=.inl (.inl h)
theorem qz.list(I:qz X pins σ H s)(h:SqL X.K H a xs):∃its:List Value,qG xs its/\PlainL s.heap a its.toArray/\xs.length<=zeb:=by
 rcases h with h | ⟨o,its,n,hk,hc,hd,hs,hz,r⟩
 ·obtain⟨z,its,n,r,e⟩:=h.ok I.hok
  exact⟨its,r,⟨_,n,e,rfl,rfl,rfl⟩,z⟩
 ·refine⟨its.toList,r,⟨o,n,I.kIn a o hk,hc,hd,by simpa using hs⟩,?_⟩
  have e:=r.length
  simp only[zaD]at e
  omega
theorem qz.tuple(I:qz X pins σ H s)(h:Y5 X.K H a xs):∃its:List Value,qG xs its/\IsTup s.heap a its.toArray/\xs.length<=zeb:=by
 rcases h with h | ⟨o,its,n,hk,hc,hs,hz,r⟩
 ·obtain⟨z,its,r,p⟩:=h.ok I.hok
  exact⟨its,r,p,z⟩
 ·refine⟨its.toList,r,⟨o,I.kIn a o hk,hc,n,by simpa using hs⟩,?_⟩
  have e:=r.length
  simp only[zaD]at e
  omega
theorem qz.list_inj(I:qz X pins σ H s)(h:SqL X.K H a xs)(h':SqL X.K H a ys):xs=ys:=by
 obtain⟨its,r,⟨o,n,e,_,_,d⟩,_⟩:=I.list h
 obtain⟨its',r',⟨o',n',e',_,_,d'⟩,_⟩:=I.list h'
 rw[e]at e';cases e'
 rw[d]at d'
 injection d' with d1 _
 have:its=its':=by simpa using congrArg Array.toList d1
 subst this
 exact r.inj r'
theorem qz.tuple_inj(I:qz X pins σ H s)(h:Y5 X.K H a xs)(h':Y5 X.K H a ys):xs=ys:=by
 obtain⟨its,r,⟨o,e,_,n,d⟩,_⟩:=I.tuple h
 obtain⟨its',r',⟨o',e',_,n',d'⟩,_⟩:=I.tuple h'
 rw[e]at e';cases e'
 rw[d]at d'
 injection d' with d1 _
 have:its=its':=by simpa using congrArg Array.toList d1
 subst this
 exact r.inj r'
end
abbrev Cx.wish(X:Cx)(E:Value->Shared->Prop):Cx:={X with xe:=E}
abbrev Cx.nox(X:Cx):Cx:=X.wish λ_ _=>False
theorem Cx.Ok.wish{X:Cx}(ok:X.Ok)(E:Value->Shared->Prop):(X.wish E).Ok:=
 ⟨ok.mod,ok.kind,ok.glob,ok.blt,ok.above,ok.inj,ok.has,ok.cab,ok.hd,ok.frames,ok.stk,ok.exf,ok.bs,ok.bsz,ok.noex,ok.exfs,ok.funs,ok.frf⟩
theorem Cx.Ok.unwish{X:Cx}{E:Value->Shared->Prop}(ok:(X.wish E).Ok):X.Ok:=
 ⟨ok.mod,ok.kind,ok.glob,ok.blt,ok.above,ok.inj,ok.has,ok.cab,ok.hd,ok.frames,ok.stk,ok.exf,ok.bs,ok.bsz,ok.noex,ok.exfs,ok.funs,ok.frf⟩
section
variable{X:Cx}{pins:List (Addr×Obj)}{σ:St}{H:Hp}{s:Shared}{E:Value->Shared->Prop}
theorem qz.wish(I:qz X pins σ H s)(E:Value->Shared->Prop):qz (X.wish E) pins σ H s:=⟨I.ok.wish E,I.os,I.bare,I.base,I.loc,I.cell,I.free,I.freeC,I.pin,I.hok,I.len⟩
theorem qz.unwish(I:qz (X.wish E) pins σ H s):qz X pins σ H s:=⟨I.ok.unwish,I.os,I.bare,I.base,I.loc,I.cell,I.free,I.freeC,I.pin,I.hok,I.len⟩
theorem SP.unwish{D:Ja}{f:Flow}{s':Shared}(h:SP (X.wish E) pins D f s'):SP X pins D f s':=by
 cases f with
 | next=>obtain⟨σ',H',I,q⟩:=h;exact⟨σ',H',I.unwish,q⟩
 | brk=>obtain⟨σ',H',I,q⟩:=h;exact⟨σ',H',I.unwish,q⟩
 | cont=>obtain⟨σ',H',I,q⟩:=h;exact⟨σ',H',I.unwish,q⟩
 | ret u=>obtain⟨v,σ',H',I,r,q⟩:=h;exact⟨v,σ',H',I.unwish,r,q⟩
theorem KA.nox{st:List Stmt}{t:TS}(h:KA X.nox st t):KA X st t:=λpins s σ H D I hw=>
 wpAny_mono (h pins s σ H D (I.wish _) hw) (λ_ _ q=>q.unwish) λ_ _ z=>False.elim z
end
section
variable{X:Cx}{st:Stmt}{rest:List Stmt}{t u:TS}{e:Expr}{te:TE}{pos:Pos}
def VN:TS:=λD σ H=>D.nx σ H
def NR(t u:TS):TS:=λD σ H=>t {D with nx:=u D} σ H
theorem qB:WR X [] VN:=.of (by
 exact λ_ _ σ H _ I h=>wpAny_execs_nil ⟨σ,H,I,h⟩)
theorem qg(h1:JS X st t)(h2:WR X rest u):WR X (st::rest) (NR t u):=.of (by
 have h1:=h1.to
 have h2:=h2.to
 intro pins s σ H D I h
 refine wpAny_execs_cons (jf (h1 pins s σ H {D with nx:=u D} I h) λf s1 q=>?_)
 cases f with
 | next=>
  obtain⟨σ',H',I',q⟩:=q
  exact h2 pins s1 σ' H' D I' q
 | ret v=>exact q
 | brk=>exact q
 | cont=>exact q)
theorem qh(h1:JS X st t):WR X [st] t:=.of (by
 have h1:=h1.to
 intro pins s σ H D I h
 refine wpAny_execs_cons (jf (h1 pins s σ H D I h) λf s1 q=>?_)
 cases f with
 | next=>exact wpAny_execs_nil q
 | ret v=>exact q
 | brk=>exact q
 | cont=>exact q)
theorem qz.quiet{pins:List (Addr×Obj)}{σ:St}{H:Hp}{s:Shared}(I:qz X pins σ H s):interactive X.env=false:=by simp [interactive,I.ok.kind]
def qaw(te:TE):TS:=λD σ H=>te σ H λ_ H1=>D.nx σ H1
theorem je(he:JE X e te)(hs:swapsWith e none pos.line X.env=pure false:=by rfl):JS X (.Expr e pos) (qaw te):=.of (by
 have he:=he.to
 intro pins s σ H D I h
 exact wpAny_Expr_any (jf (he pins s σ H _ I h) λv s1 ⟨x,H1,I1,r1,q1⟩=>⟨σ,H1,I1,q1⟩) I.quiet hs)
def qbX(te:TE):TS:=λD σ H=>te σ H D.rt
theorem qy(he:JE X e te):JS X (.Return (some e) pos) (qbX te):=.of (by
 have he:=he.to
 intro pins s σ H D I h
 exact wpAny_Return_some (jf (he pins s σ H _ I h) λv s1 ⟨x,H1,I1,r1,q1⟩=>⟨x,σ,H1,I1,r1,q1⟩))
def xQ(c:TT)(t u:TS):TS:=λD σ H=>c σ H λb H1=>if b=true then t D σ H1 else u D σ H1
theorem qM{c:Expr}{a b:List Stmt}{tc:TT}(hc:JT X c tc)(ha:WR X a t)(hb:WR X b u):JS X (.If c a b pos) (xQ tc t u):=.of (by
 have hc:=hc.to
 have ha:=ha.to
 have hb:=hb.to
 intro pins s σ H D I h
 refine wpAny_If (jf (hc pins s σ H _ I h) λd s1 ⟨H1,I1,q1⟩=>?_)
 cases d with
 | true=>exact ha pins s1 σ H1 D I1 q1
 | false=>exact hb pins s1 σ H1 D I1 q1)
def NS:TS:=λ_ _ _=>False
theorem qS{sts:List Stmt}:WR X sts NS:=.of (by
 exact λ_ _ _ _ _ _ h=>h.elim)
end
abbrev TG:=V->St->Hp->(St->Hp->Prop)->Prop
abbrev Kz:=List V->St->Hp->(St->Hp->Prop)->Prop
def PG(X:Cx)(target:Expr)(t:TG):Prop:=
 ∀(pins:List (Addr×Obj)) (s:Shared) (σ:St) (H:Hp) (v:V) (u:Value) (Q:St->Hp->Prop),qz X pins σ H s->qO v u->t v σ H Q->
  wpAny (model X.prog X.w) X.A (assign target X.env u) (λ_ s'=>∃σ' H',qz X pins σ' H' s'/\Q σ' H') X.xe s
@[irreducible] def JG (X:Cx) (target:Expr) (t:TG):Prop:=PG X target t
theorem JG.of{X:Cx}{target:Expr}{t:TG}(h:PG X target t):JG X target t:=by unfold JG;exact h
theorem JG.to{X:Cx}{target:Expr}{t:TG}(h:JG X target t):PG X target t:=by unfold JG at h;exact h
def PGs(X:Cx)(ts:List Expr)(t:Kz):Prop:=
 ∀(pins:List (Addr×Obj)) (s:Shared) (σ:St) (H:Hp) (vs:List V) (us:List Value) (Q:St->Hp->Prop),qz X pins σ H s->qG vs us->t vs σ H Q->
  wpAny (model X.prog X.w) X.A (assignInOrder ((assignEach ts X.env).map (·.2)) us) (λ_ s'=>∃σ' H',qz X pins σ' H' s'/\Q σ' H') X.xe s
@[irreducible] def KD (X:Cx) (ts:List Expr) (t:Kz):Prop:=PGs X ts t
theorem KD.of{X:Cx}{ts:List Expr}{t:Kz}(h:PGs X ts t):KD X ts t:=by unfold KD;exact h
theorem KD.to{X:Cx}{ts:List Expr}{t:Kz}(h:KD X ts t):PGs X ts t:=by unfold KD at h;exact h
abbrev R9:=V->V->V->Hp->(Hp->Prop)->Prop
def qaa(X:Cx)(t:R9):Prop:=
 ∀(pins:List (Addr×Obj)) (s:Shared) (σ:St) (H:Hp) (o i v:V) (ov iv u:Value) (Q:Hp->Prop),qz X pins σ H s->qO o ov->qO i iv->qO v u->t o i v H Q->
  wpAny (model X.prog X.w) X.A (setItem ov iv u) (λ_ s'=>∃H',qz X pins σ H' s'/\Q H') X.xe s
abbrev TIp:=V->V->Hp->VK->Prop
def PIp(X:Cx)(op:Operator)(t:TIp):Prop:=
 ∀(pins:List (Addr×Obj)) (s:Shared) (σ:St) (H:Hp) (x y:V) (v u:Value) (Q:VK),qz X pins σ H s->qO x v->qO y u->t x y H Q->
  wpAny (model X.prog X.w) X.A (inplaceOp op v u) (EP X pins σ Q) X.xe s
section
variable{X:Cx}{pos:Pos}
def Jk(i:Nat):TG:=λv σ H Q=>Q (σ.set i (some v)) H
theorem qw{i:Nat}{x:Str}(hN:X.N.Nodup)(hi:X.N[i]?=some x)(hx:Loc X.env.scope x)(hf:X.fn x=true\/X.env.scope.names.lookup x=some .local:=by first | exact .inl rfl | exact .inr rfl | assumption):JG X (.Name x pos) (Jk i):=.of (by
 intro pins s σ H v u Q I r h
 exact wpAny_assign_Name (zc I hN hi hx r (λs' I'=>⟨_,H,I',h⟩) hf))
def MX:Kz:=λvs σ H Q=>vs=[]/\Q σ H
def Uv(t:TG)(u:Kz):Kz:=λvs σ H Q=>∃v r,vs=v::r/\t v σ H λσ' H'=>u r σ' H' Q
theorem JY:KD X [] MX:=.of (by
 intro pins s σ H vs us Q I r h
 obtain⟨e,h⟩:=h
 subst e
 cases r
 exact assignInOrder_nil ⟨σ,H,I,h⟩)
theorem jC{e:Expr}{es:List Expr}{t:TG}{u:Kz}(h1:JG X e t)(h2:KD X es u)(hs:(assignEach (e::es) X.env).map (·.2)=assign e X.env::(assignEach es X.env).map (·.2):=by rfl):KD X (e::es) (Uv t u):=.of (by
 have h1:=h1.to
 have h2:=h2.to
 intro pins s σ H vs us Q I r h
 obtain⟨v,vr,e1,h⟩:=h
 subst e1
 cases r with
 | cons r rr=>
  rw[hs]
  refine assignInOrder_cons (jf (h1 pins s σ H _ _ _ I r h) λ_ s1 ⟨σ1,H1,I1,q1⟩=>?_)
  exact h2 pins s1 σ1 H1 _ _ Q I1 rr q1)
def MV(K:zdW)(n:Nat)(t:Kz):TG:=λv σ H Q=>∃a xs,v=.ref a/\Y5 K H a xs/\xs.length=n/\t xs σ H Q
theorem Z4{es:List Expr}{k:Nat}{t:Kz}{n:Nat}(hc:X.calm=true)(h:KD X es t)(hn:(assignEach es X.env).length=n:=by rfl)(hst:(assignEach es X.env).findIdx? (·.1)=none:=by rfl):JG X (.Tuple es k pos) (MV X.K n t):=.of (by
 have h:=h.to
 intro pins s σ H v u Q I r hw
 obtain⟨a,xs,e1,hq,hl,hw⟩:=hw
 subst e1
 cases r
 obtain⟨its,rv,ht,hz⟩:=I.tuple hq
 refine assign_Tuple_tuple (I.ok.hd hc) ht (by simp [hn,<-hl,rv.length]) hst λh' hx=>?_
 have I1:qz X pins σ H {s with heap:=h'}:=I.kept (t':=s.toks) λb o e=>hx b o (tQ (tK e)) e
 exact h pins _ σ H xs _ Q I1 (by simpa using rv) hw)
def qbr(to ti:TE)(t:R9):TG:=λv σ H Q=>to σ H λo H1=>ti σ H1 λi H2=>t o i v H2 λH3=>Q σ H3
theorem Mb{o i:Expr}{to ti:TE}{t:R9}(ho:PE X o to)(hi:PE X i ti)(hs:qaa X t)
  (ha:∀v,assign (.Subscript o i pos) X.env v=(do
   let ov <-holding [v] (eval o X.env)
   let iv <-holding [v,ov] (eval i X.env)
   standAt pos
   holding [v,ov,iv] (setItem ov iv v)
   release [v,ov,iv] []):=by intro _;rfl):PG X (.Subscript o i pos) (qbr to ti t):=by
 intro pins s σ H v u Q I r h
 rw[ha]
 refine zdY (wpAny_holding (jf (ho pins s σ H _ I h) λov s1 ⟨x,H1,I1,r1,q1⟩=>?_))
 refine zdY (wpAny_holding (jf (hi pins s1 σ H1 _ I1 q1) λiv s2 ⟨y,H2,I2,r2,q2⟩=>?_))
 refine zdY (wpAny_standAt (zdY (wpAny_holding (jf (hs pins s2 σ H2 x y v ov iv u _ I2 r1 r2 r q2) λ_ s3 ⟨H3,I3,q3⟩=>?_))))
 exact wpAny_release ⟨σ,H3,I3,q3⟩
theorem MP{o i:Expr}{to ti:TE}{t:R9}(ho:JE X o to)(hi:JE X i ti)(hs:qaa X t) (ha:∀v,assign (.Subscript o i pos) X.env v=(do
 let ov <-holding [v] (eval o X.env)
 let iv <-holding [v,ov] (eval i X.env)
 standAt pos
 holding [v,ov,iv] (setItem ov iv v)
 release [v,ov,iv] []):=by intro _;rfl):JG X (.Subscript o i pos) (qbr to ti t):=.of (Mb ho.to hi.to hs ha)
def xV(te:TE)(g:TG):TS:=λD σ H=>te σ H λx H1=>g x σ H1 D.nx
theorem ML{tg e:Expr}{te:TE}{g:TG}(he:JE X e te)(hg:JG X tg g)(hs:swapsWithSole [tg] e pos.line X.env=pure false:=by rfl)(hw:swappedStores [tg] e X.env=pure none:=by rfl)(h1:(assignEach [tg] X.env).map (·.2)=[assign tg X.env]:=by rfl):JS X (.Assign [tg] e pos) (xV te g):=.of (by
 have he:=he.to
 have hg:=hg.to
 intro pins s σ H D I h
 refine wpAny_Assign_stores (jf (he pins s σ H _ I h) λv s1 ⟨x,H1,I1,r1,q1⟩=>?_) hs hw
 rw[h1]
 exact jf (hg pins s1 σ H1 x v _ I1 r1 q1) λ_ s2 q=>q)
theorem qx{i:Nat}{x:Str}{e:Expr}{te:TE}{pos':Pos}(hN:X.N.Nodup)(hi:X.N[i]?=some x)(hx:Loc X.env.scope x)(he:JE X e te)(hs:swapsWith e (some (.Name x pos')) pos.line X.env=pure false:=by rfl)(hf:X.fn x=true\/X.env.scope.names.lookup x=some .local:=by first | exact .inl rfl | exact .inr rfl | assumption):JS X (.Assign [.Name x pos'] e pos) (xV te (Jk i)):=.of (by
 have he:=he.to
 intro pins s σ H D I h
 refine wpAny_Assign_Name (jf (he pins s σ H _ I h) λv s1 ⟨y,H1,I1,r1,q1⟩=>?_) hs
 exact zc I1 hN hi hx r1 (λs2 I2=>⟨_,H1,I2,q1⟩) hf)
def qb5(i:Nat)(te:TE)(ti:TIp):TS:=λD σ H=>∃x,σ[i]?=some (some x)/\te σ H λy H1=>ti x y H1 λz H2=>D.nx (σ.set i (some z)) H2
theorem uL{i:Nat}{x:Str}{e:Expr}{te:TE}{op:Operator}{ti:TIp}{pos':Pos}(hN:X.N.Nodup)(hi:X.N[i]?=some x)(hx:Loc X.env.scope x)(he:JE X e te)(ho:PIp X op ti)(hf:X.fn x=true\/X.env.scope.names.lookup x=some .local:=by first | exact .inl rfl | exact .inr rfl | assumption):JS X (.AugAssign (.Name x pos') op e pos) (qb5 i te ti):=.of (by
 have he:=he.to
 intro pins s σ H D I h
 obtain⟨v,e1,h⟩:=h
 obtain⟨m,hn,hl⟩:=I.loc
 have vis:Vis X.env.scope x:=by rcases hx with k | k;exact .inl k;exact .inr (.inl k)
 obtain⟨u,r,l⟩:=hl i x v hi e1 vis
 refine wpAny_AugAssign_Name ?_
 have go:wpAny (model X.prog X.w) X.A (eval e X.env) (λw s₂=>wpAny (model X.prog X.w) X.A (inplaceOp op u w) (λr s₃=>wpAny (model X.prog X.w) X.A (storeName X.env x r) (λ_=>SP X pins D .next) X.xe s₃) X.xe s₂) X.xe s:=by
  refine jf (he pins s σ H _ I h) λw s1 ⟨y,H1,I1,r1,q1⟩=>?_
  refine jf (ho pins s1 σ H1 v y u w _ I1 r r1 q1) λz s2 ⟨zv,H2,I2,r2,q2⟩=>?_
  exact zc I2 hN hi hx r2 (λs3 I3=>⟨_,H2,I3,q2⟩) hf
 rcases l with ⟨hk,hm⟩ | ⟨hk,c,hc,hcell⟩
 ·exact wpAny_loadName_local I.ok.kind hk hn hm go
 ·rcases hk with hk | hk
  ·exact wpAny_loadName_cell I.ok.kind hk hc hcell go
  ·rcases hx with k | k
   ·have:X.env.scope.names.lookup x=some .free:=hk
    rw[k]at this;cases this
   ·have:X.env.scope.names.lookup x=some .free:=hk
    rw[k]at this;cases this)
def ipI(f:Int->Int->Int):TIp:=λx y H Q=>∃i j,x=.int i/\y=.int j/\Q (.int (f i j)) H
theorem uX:PIp X .Add (ipI λi j=>i+j):=by
 intro pins s σ H x y v u Q I r1 r2 h
 obtain⟨i,j,e1,e2,q⟩:=h
 subst e1;subst e2
 obtain⟨t,rfl⟩:=r1
 obtain⟨t',rfl⟩:=r2
 exact iadd_int ⟨.int _,H,I.tok _,⟨_,rfl⟩,q⟩
def xO(c:TT)(tb:TS):TS:=λD σ H=>∃W:Nat->St->Hp->Prop,(∃m,W m σ H)/\∀m σ H,W m σ H->
 c σ H λb H1=>if b=true then ∃N:St->Hp->Prop,(∀σ' H',N σ' H'->∃m',m' < m/\W m' σ' H')/\tb {D with nx:=N,ct:=N,bk:=D.nx} σ H1 else D.nx σ H1
theorem zw{c:Expr}{body:List Stmt}{tc:TT}{tb:TS}(hp:PassesOwn (model X.prog X.w) X.A X.env X.xe)(hc:JT X c tc)(hb:WR X body tb):JS X (.While c body [] pos) (xO tc tb):=.of (by
 have hc:=hc.to
 have hb:=hb.to
 intro pins s σ H D I h
 obtain⟨W,⟨m0,w0⟩,turn⟩:=h
 refine wpAny_While (codeAny_whileLoop (λn s'=>∃σ' H',qz X pins σ' H' s'/\W n σ' H') ?_ m0 ⟨σ,H,I,w0⟩)
 rintro n s1 ⟨σ1,H1,I1,w1⟩
 refine wpAny_passesOwn hp (jf (hc pins s1 σ1 H1 _ I1 (turn n σ1 H1 w1)) λb s2 ⟨H2,I2,q2⟩=>?_)
 cases b with
 | true=>
  obtain⟨N,hN,q2⟩:=q2
  rw[if_pos rfl]
  refine wpAny_passesOwn hp (jf (hb pins s2 σ1 H2 _ I2 q2) λf s3 q3=>?_)
  cases f with
  | next=>
   obtain⟨σ3,H3,I3,n3⟩:=q3
   obtain⟨m',hm,w3⟩:=hN σ3 H3 n3
   exact⟨m',hm,σ3,H3,I3,w3⟩
  | cont=>
   obtain⟨σ3,H3,I3,n3⟩:=q3
   obtain⟨m',hm,w3⟩:=hN σ3 H3 n3
   exact⟨m',hm,σ3,H3,I3,w3⟩
  | brk=>exact q3
  | ret v=>exact q3
 | false=>
  rw[if_neg tN]
  exact wpAny_execs_nil ⟨σ1,H2,I2,q2⟩)
end
structure It where
 go:Nat->Hp->Prop
 yld:Nat->Hp->V->Hp->Prop
 stop:Nat->Hp->Prop
def JM(X:Cx)(pins:List (Addr×Obj))(H:Hp)(b:Addr):Prop:=
 H b=none/\b≠X.env.locals/\b∉X.fs/\(b∈X.ex\/X.s₀.heap.objs.size<=b)/\(∀x c,X.env.cells.lookup x=some c->c≠b)/\∀p∈X.pn++pins,p.1≠b
theorem qz.fpOk{X:Cx}{pins:List (Addr×Obj)}{σ:St}{H H':Hp}{s:Shared}{b:Addr}(I:qz X pins σ H s)(hb:s.heap.objs.size<=b)(hn:H' b=none):JM X pins H' b:=by
 refine⟨hn,zbH (tM I.lt hb),I.nofs hb,.inr (zaa I.sz hb),λx c e z=>?_,λp hp z=>?_⟩
 ·obtain⟨v,q⟩:=I.cell x c e
  exact absurd (tM q.lt (by rw[z];exact hb)) (zao _)
 ·exact absurd (tM (tK (I.pin p hp).1) (by rw[z];exact hb)) (zao _)
structure UI(P:Program)(w:World)(K:zdW)(tg:Expr)(J:It)(fp:List Addr)(it:Addr)(tn:Nat->Heap->Prop):Prop where
 mem:it∈fp
 obj:∀i h,tn i h->∀b∈fp,∃o,h.get? b=some o/\∀v,o.data≠.cell v
 keep:∀i h h',tn i h->(∀b∈fp,∀o,h.get? b=some o->h'.get? b=some o)->tn i h'
 item:∀(X:Cx),X.prog=P->X.w=w->X.K=K->X.calm=true->∀(i:Nat) (pins:List (Addr×Obj)) (s:Shared) (σ:St) (H:Hp) (E:Value->Shared->Prop),qz X pins σ H s->(∀b∈fp,JM X pins H b)->tn i s.heap->J.go i H->
  wpAny (model P w) X.A (pyNext (.ref it)) (λr s1=>∃u,r=some u/\
   wpAny (model P w) X.A (letOwnedTupleGo tg (.ref it) u) (λ_ s2=>∃x H',qz X pins σ H' s2/\qO x u/\J.yld i H x H'/\tn (i+1) s2.heap/\∀b∈fp,H' b=none) E s1) E s
 done:∀(X:Cx),X.prog=P->X.w=w->X.K=K->X.calm=true->∀(i:Nat) (pins:List (Addr×Obj)) (s:Shared) (σ:St) (H:Hp) (E:Value->Shared->Prop),qz X pins σ H s->(∀b∈fp,JM X pins H b)->tn i s.heap->J.stop i H->
  wpAny (model P w) X.A (pyNext (.ref it)) (λr s1=>r=none/\qz X pins σ H s1) E s
 self:∀(A:Around) (i:Nat) (s:Shared) (Q:Value->Shared->Prop) (E:Value->Shared->Prop),tn i s.heap->Q (.ref it) s->wpAny (model P w) A (pyIter (.ref it)) Q E s
abbrev TI:=St->Hp->(It->Hp->Prop)->Prop
def PIE(X:Cx)(pins:List (Addr×Obj))(σ:St)(tg:Expr)(R:It->Hp->Prop)(itv:Value)(s2:Shared):Prop:=
 ∃(it:Addr) (fp:List Addr) (tn:Nat->Heap->Prop) (J:It) (H':Hp),itv=.ref it/\qz X pins σ H' s2/\UI X.prog X.w X.K tg J fp it tn/\tn 0 s2.heap/\(∀b∈fp,JM X pins H' b)/\R J H'
def PI(X:Cx)(tg iter:Expr)(wi:TI):Prop:=
 ∀(pins:List (Addr×Obj)) (s:Shared) (σ:St) (H:Hp) (R:It->Hp->Prop),qz X pins σ H s->wi σ H R->
  wpAny (model X.prog X.w) X.A (eval iter X.env) (λv s1=>wpAny (model X.prog X.w) X.A (pyIter v) (PIE X pins σ tg R) X.xe s1) X.xe s
@[irreducible] def JI (X:Cx) (tg iter:Expr) (wi:TI):Prop:=PI X tg iter wi
theorem JI.of{X:Cx}{tg iter:Expr}{wi:TI}(h:PI X tg iter wi):JI X tg iter wi:=by unfold JI;exact h
theorem JI.to{X:Cx}{tg iter:Expr}{wi:TI}(h:JI X tg iter wi):PI X tg iter wi:=by unfold JI at h;exact h
theorem Us{M:Model}{A:Around}{E:Value->Shared->Prop}{s:Shared}{tg:Expr}{it:Addr}{u:Value}{o:Obj}{n:String}{vs:Array Value}{Q:Unit->Shared->Prop}(ho:s.heap.get? it=some o)(hc:o.cls=.type n)(hd:o.data=.fields vs)
   (hn:["enumerate","zip","dict_itemiterator","dict_reverseitemiterator","odict_iterator","itertools.zip_longest","itertools.pairwise"].contains n=false) (hQ:Q () s):wpAny M A (letOwnedTupleGo tg (.ref it) u) Q E s:=by
 unfold letOwnedTupleGo
 cases tg<;>first
   | exact zdZ hQ
   | (cases u<;>first
       | exact zdZ hQ
       | (refine zdY (wpAny_load ho ?_)
          rw[hc,hd]
          show wpAny M A (if (["enumerate","zip","dict_itemiterator","dict_reverseitemiterator","odict_iterator","itertools.zip_longest","itertools.pairwise"].contains n&&vs[0]?==some (rawInt _))=true then _ else _) Q E s
          rw[if_neg (by intro h;rw[hn,zcM]at h;cases h)]
          exact zdZ hQ))
def Itl(K:zdW)(a:Addr):It:=
 ⟨λi H=>∃xs x,SqL K H a xs/\xs[i]?=some x,λi H x H'=>H'=H/\∀xs,SqL K H a xs->xs[i]?=some x,λi H=>∃xs,SqL K H a xs/\xs.length<=i⟩
def Itt(K:zdW)(a:Addr):It:=
 ⟨λi H=>∃xs x,Y5 K H a xs/\xs[i]?=some x,λi H x H'=>H'=H/\∀xs,Y5 K H a xs->xs[i]?=some x,λi H=>∃xs,Y5 K H a xs/\xs.length<=i⟩
def NO(lo:Int)(n:Nat):It:=⟨λi _=>i < n,λi H x H'=>H'=H/\x=.int (lo+i),λi _=>n<=i⟩
theorem yr{P:Program}{w:World}{K:zdW}{tg:Expr}(a it:Addr):UI P w K tg (Itl K a) [it] it (λi h=>h.IsListIter it a i) where
 mem:=by simp
 obj:=λi h st b hb=>by
  have e:b=it:=by simpa using hb
  subst e
  obtain⟨o,e,c,d⟩:=st
  exact⟨o,e,λv z=>by rw[d]at z;cases z⟩
 keep:=λi h h' st k=>st.at λo e=>k it (by simp) o e
 item:=by
  intro X hP hw hK hc i pins s σ H E I hf st hg
  subst hP hw hK
  obtain⟨xs,x,hq,hx⟩:=hg
  obtain⟨its,rv,p,hz⟩:=I.list hq
  obtain⟨u,hu,ru⟩:=rv.get hx
  obtain⟨f0,f1,f2,f3,f4,f5⟩:=hf it (by simp)
  refine wpAny_pyNext_list_item st p.isList (x:=u) (by simpa using hu) λh' st' sb=>?_
  have I1:qz X pins σ H {s with heap:=h'}:=I.turned (t':=s.toks) (λb o hb e=>(sb.2 b hb).trans e) f0 f1 f3 f4 f5
  obtain⟨o,e,c,d⟩:=id st'
  exact⟨u,rfl,Us (s:={s with heap:=h'}) e c d (by decide) ⟨x,H,I1,ru,⟨rfl,λys hy=>by rw[I.list_inj hy hq];exact hx⟩,st',λb hb=>(hf b hb).1⟩⟩
 done:=by
  intro X hP hw hK hc i pins s σ H E I hf st hg
  subst hP hw hK
  obtain⟨xs,hq,hx⟩:=hg
  obtain⟨its,rv,p,hz⟩:=I.list hq
  obtain⟨f0,f1,f2,f3,f4,f5⟩:=hf it (by simp)
  have hl:=rv.length
  exact wpAny_pyNext_list_end (I.ok.hd hc) st p.isList (by simp;omega) λh' eb=>⟨rfl,I.turned (t':=s.toks) (λb o hb e=>eb b o hb e) f0 f1 f3 f4 f5⟩
 self:=λ_ _ _ _ _ st h=>wpAny_pyIter_listiter st h
theorem UU{P:Program}{w:World}{K:zdW}{tg:Expr}(a it:Addr):UI P w K tg (Itt K a) [it] it (λi h=>h.IsTupleIter it a i) where
 mem:=by simp
 obj:=λi h st b hb=>by
  have e:b=it:=by simpa using hb
  subst e
  obtain⟨o,e,c,d⟩:=st
  exact⟨o,e,λv z=>by rw[d]at z;cases z⟩
 keep:=λi h h' st k=>st.at λo e=>k it (by simp) o e
 item:=by
  intro X hP hw hK hc i pins s σ H E I hf st hg
  subst hP hw hK
  obtain⟨xs,x,hq,hx⟩:=hg
  obtain⟨its,rv,p,hz⟩:=I.tuple hq
  obtain⟨u,hu,ru⟩:=rv.get hx
  obtain⟨f0,f1,f2,f3,f4,f5⟩:=hf it (by simp)
  refine wpAny_pyNext_tuple_item st (show s.heap.IsTuple a its.toArray from p) (x:=u) (by simpa using hu) λh' st' sb=>?_
  have I1:qz X pins σ H {s with heap:=h'}:=I.turned (t':=s.toks) (λb o hb e=>(sb.2 b hb).trans e) f0 f1 f3 f4 f5
  obtain⟨o,e,c,d⟩:=id st'
  exact⟨u,rfl,Us (s:={s with heap:=h'}) e c d (by decide) ⟨x,H,I1,ru,⟨rfl,λys hy=>by rw[I.tuple_inj hy hq];exact hx⟩,st',λb hb=>(hf b hb).1⟩⟩
 done:=by
  intro X hP hw hK hc i pins s σ H E I hf st hg
  subst hP hw hK
  obtain⟨xs,hq,hx⟩:=hg
  obtain⟨its,rv,p,hz⟩:=I.tuple hq
  obtain⟨f0,f1,f2,f3,f4,f5⟩:=hf it (by simp)
  have hl:=rv.length
  exact wpAny_pyNext_tuple_end (I.ok.hd hc) st (show s.heap.IsTuple a its.toArray from p) (by simp;omega) λh' eb=>⟨rfl,I.turned (t':=s.toks) (λb o hb e=>eb b o hb e) f0 f1 f3 f4 f5⟩
 self:=λ_ _ _ _ _ st h=>wpAny_pyIter_tupleiter st h
theorem UV{P:Program}{w:World}{K:zdW}{tg:Expr}(it:Addr)(lo:Int)(n:Nat):UI P w K tg (NO lo n) [it] it (λi h=>IsRangeIter h it (lo+(i:Nat)*1) ((n:Int) - (i:Nat)) 1) where
 mem:=by simp
 obj:=λi h st b hb=>by
  have e:b=it:=by simpa using hb
  subst e
  exact⟨_,st,λv z=>by
   have z':Data.fields _=Data.cell v:=z
   cases z'⟩
 keep:=λi h h' st k=>k it (by simp) _ st
 item:=by
  intro X hP hw hK hc i pins s σ H E I hf st hg
  subst hP hw hK
  obtain⟨f0,f1,f2,f3,f4,f5⟩:=hf it (by simp)
  have W:=Walks.range (prog:=X.prog) (w:=X.w) (I.ok.hd hc) it lo 1 n
  refine W.item i s _ _ hg st λv h' tk hv st' kk=>?_
  obtain⟨t,rfl⟩:=hv
  have I1:qz X pins σ H {s with heap:=h',toks:=tk}:=I.turned (λb o hb e=>kk b o (by simpa using hb) e) f0 f1 f3 f4 f5
  refine⟨_,rfl,Us (s:={s with heap:=h',toks:=tk}) (n:="range_iterator") st' rfl rfl (by decide) ⟨.int (lo+i),H,I1,⟨t,?_⟩,⟨rfl,rfl⟩,st',λb hb=>(hf b hb).1⟩⟩
  rw[Int.mul_one]
 done:=by
  intro X hP hw hK hc i pins s σ H E I hf st hg
  subst hP hw hK
  obtain⟨f0,f1,f2,f3,f4,f5⟩:=hf it (by simp)
  exact wpAny_pyNext_range_end (I.ok.hd hc) st (by have:n<=i:=hg;omega) λh' eb=>⟨rfl,I.turned (t':=s.toks) (λb o hb e=>eb b o hb e) f0 f1 f3 f4 f5⟩
 self:=λ_ _ _ _ _ st h=>wpAny_pyIter_rangeiter st h
section
variable{X:Cx}{tg:Expr}
def qbp(K:zdW)(tl:TE):TI:=λσ H R=>tl σ H λx H1=>∃a,x=.ref a/\(∃xs,SqL K H1 a xs)/\R (Itl K a) H1
def qcF(K:zdW)(tl:TE):TI:=λσ H R=>tl σ H λx H1=>∃a,x=.ref a/\(∃xs,Y5 K H1 a xs)/\R (Itt K a) H1
theorem qJ{l:Expr}{tl:TE}(hl:JE X l tl):JI X tg l (qbp X.K tl):=.of (by
 have hl:=hl.to
 intro pins s σ H R I h
 refine jf (hl pins s σ H _ I h) λv s1 ⟨x,H1,I1,r1,q1⟩=>?_
 obtain⟨a,e,⟨xs,hq⟩,q⟩:=q1
 subst e
 cases r1
 obtain⟨its,rv,p,hz⟩:=I1.list hq
 refine wpAny_pyIter_list p.isList ?_
 refine⟨s1.heap.objs.size,[s1.heap.objs.size],_,_,H1,rfl,I1.kept (t':=s1.toks) λb o e=>tu _ e,yr a _,⟨_,tV _ rfl,rfl,rfl⟩,λb hb=>?_,q⟩
 have e:b=s1.heap.objs.size:=by simpa using hb
 subst e
 exact I1.fpOk (tz _) (I1.hok.fresh (tz _)))
theorem z9{l:Expr}{tl:TE}(hl:JE X l tl):JI X tg l (qcF X.K tl):=.of (by
 have hl:=hl.to
 intro pins s σ H R I h
 refine jf (hl pins s σ H _ I h) λv s1 ⟨x,H1,I1,r1,q1⟩=>?_
 obtain⟨a,e,⟨xs,hq⟩,q⟩:=q1
 subst e
 cases r1
 obtain⟨its,rv,p,hz⟩:=I1.tuple hq
 refine wpAny_pyIter_tuple (show s1.heap.IsTuple a its.toArray from p) ?_
 refine⟨s1.heap.objs.size,[s1.heap.objs.size],_,_,H1,rfl,I1.kept (t':=s1.toks) λb o e=>tu _ e,UU a _,⟨_,tV _ rfl,rfl,rfl⟩,λb hb=>?_,q⟩
 have e:b=s1.heap.objs.size:=by simpa using hb
 subst e
 exact I1.fpOk (tz _) (I1.hok.fresh (tz _)))
theorem wE{pins:List (Addr×Obj)}{σ:St}{H:Hp}{s:Shared}{R:It->Hp->Prop}{E:Value->Shared->Prop}{lo hi:Int}{t u v:Tok}{tk:Nat}(I:qz X pins σ H s)(h1:-(2^62)<=lo)(h2:lo < 2^62)(h3:-(2^62)<=hi)(h4:hi < 2^62)
  (q:R (NO lo (hi - lo).toNat) H):wpAny (model X.prog X.w) X.A (pyIter (.ref s.heap.objs.size)) (PIE X pins σ tg R) E {s with heap:=s.heap.push {cls:=.type "range",data:=.fields #[.int lo t,.int hi u,.int 1 v]},toks:=tk}:=by
 refine wpAny_pyIter_range (IsRange.new ..) (small_one h1 h2 h3 h4) ?_
 have I1:qz X pins σ H {s with heap:=s.heap.push {cls:=.type "range",data:=.fields #[.int lo t,.int hi u,.int 1 v]},toks:=tk}:=I.kept λb o e=>tu _ e
 refine⟨(s.heap.push {cls:=.type "range",data:=.fields #[.int lo t,.int hi u,.int 1 v]}).objs.size,[(s.heap.push {cls:=.type "range",data:=.fields #[.int lo t,.int hi u,.int 1 v]}).objs.size],_,_,H,rfl,
  I1.kept (t':=tk) λb o e=>tu _ e,UV _ lo (hi - lo).toNat,?_,λb hb=>?_,q⟩
 ·have e1:lo+((0:Nat):Int)*1=lo:=by simp
  have e2:(((hi - lo).toNat:Nat):Int) - ((0:Nat):Int)=Builtin.Range.rangeSize lo hi 1:=by rw[rangeSize_one];split<;>omega
  show IsRangeIter _ _ (lo+((0:Nat):Int)*1) ((((hi - lo).toNat:Nat):Int) - ((0:Nat):Int)) 1
  rw[e1,e2]
  exact tV _ rfl
 ·have e:b=(s.heap.push {cls:=.type "range",data:=.fields #[.int lo t,.int hi u,.int 1 v]}).objs.size:=by simpa using hb
  subst e
  exact I1.fpOk (tz _) (I1.hok.fresh (tz _))
def qbo(ta:TA):TI:=λσ H R=>ta σ H λvs H1=>∃j:Int,vs=[.int j]/\-(2^62)<=j/\j < 2^62/\R (NO 0 j.toNat) H1
theorem jA{a:Expr}{ta:TA}{p pos:Pos}(hg:Gl X "range")(hm:X.mg "range"=none)(ha:JA X [a] ta)(hs:starEach [a] X.env=[(false,eval a X.env)]:=by rfl):JI X tg (.Call (.Name "range" p) [a] [] pos) (qbo ta):=.of (by
 have ha:=ha.to
 intro pins s σ H R I h
 refine Call_ (Q5 I hg hm boot_range (PyProof.Rows.callWith_type1 (jf (ha pos pins s σ H _ I h) λus s1 ⟨vs,H1,I1,r1,q1⟩=>?_) hs rfl))
 obtain⟨j,e,q1,q2,q⟩:=q1
 subst e
 cases r1 with
 | cons r rr=>
  cases rr
  obtain⟨t,rfl⟩:=r
  exact call_range_1 (wE I1 (by omega) (by omega) q1 q2 (by simpa using q)))
def qb2(wi:TI)(g:TG)(tb:TS):TS:=λD σ H=>wi σ H λJ H1=>∃W:Nat->Nat->St->Hp->Prop,(∃m,W 0 m σ H1)/\∀i m σ H,W i m σ H->
 (J.stop i H/\D.nx σ H)\/(J.go i H/\∃N:St->Hp->Prop,(∀σ' H',N σ' H'->∃m',m' < m/\W (i+1) m' σ' H')/\∀x H',J.yld i H x H'->g x σ H' λσ2 H2=>tb {D with nx:=N,ct:=N,bk:=D.nx} σ2 H2)
def Xw(fp:List Addr)(h:Heap):List (Addr×Obj):=fp.filterMap λb=>(h.get? b).map λo=>(b,o)
theorem JV{fp:List Addr}{h:Heap}{b:Addr}{o:Obj}(hb:b∈fp)(e:h.get? b=some o):(b,o)∈Xw fp h:=zaF.mpr ⟨b,hb,by rw[e];rfl⟩
theorem y6{fp:List Addr}{h:Heap}{p:Addr×Obj}(hp:p∈Xw fp h):p.1∈fp/\h.get? p.1=some p.2:=by
 obtain⟨b,hb,e⟩:=zaF.mp hp
 cases q:h.get? b with
 | none=>rw[q]at e;cases e
 | some o=>
  rw[q]at e
  have e':(b,o)=p:=tO.inj e
  subst e'
  exact⟨hb,q⟩
theorem qz.pinned{pins:List (Addr×Obj)}{σ:St}{H:Hp}{s:Shared}{fp:List Addr}(I:qz X pins σ H s)(hf:∀b∈fp,JM X pins H b)(ho:∀b∈fp,∃o,s.heap.get? b=some o/\∀v,o.data≠.cell v):qz X (pins++Xw fp s.heap) σ H s:=
 I.pins_of λp hp=>(tX.mp hp).elim (λz=>I.pin p (tJ _ z)) λz=>by
  obtain⟨hb,e⟩:=y6 z
  obtain⟨f0,f1,f2,_⟩:=hf p.1 hb
  obtain⟨o,e',d⟩:=ho p.1 hb
  rw[e]at e';cases e'
  exact⟨e,f0,f1,f2,d⟩
theorem qz.unpinned{pins pl:List (Addr×Obj)}{σ:St}{H:Hp}{s:Shared}(I:qz X (pins++pl) σ H s):qz X pins σ H s:=I.pins_of λp hp=>I.pin p (tJ _ (zaj _ hp))
theorem ja{iter:Expr}{body:List Stmt}{wi:TI}{g:TG}{tb:TS}{pos:Pos}(hp:PassesOwn (model X.prog X.w) X.A X.env X.xe)(hc:X.calm=true)(hi:JI X tg iter wi)(hg:JG X tg g)(hb:WR X body tb)(hs:∀x,foldedSetIterable iter X.env x=pure x:=by intro _;rfl):JS X (.For tg iter body [] pos) (qb2 wi g tb):=.of (by
 have hi:=hi.to
 have hg:=hg.to
 have hb:=hb.to
 intro pins s σ H D I h
 refine wpAny_For (jf (hi pins s σ H _ I h) λv s1 h1=>jf h1 λitv s2 h2=>?_) hs
 obtain⟨it,fp,tn,J,H2,e,I2,T,st2,f2,W,⟨m0,w0⟩,turn⟩:=h2
 subst e
 have stat:∀{H':Hp},(∀b∈fp,H' b=none)->∀b∈fp,JM X pins H' b:=λhn b hb=>⟨hn b hb,(f2 b hb).2⟩
 refine codeAny_forLoop_any (λn s'=>∃i σ' H',qz X pins σ' H' s'/\tn i s'.heap/\(∀b∈fp,H' b=none)/\W i n σ' H') ?_ m0 ⟨0,σ,H2,I2,st2,λb hb=>(f2 b hb).1,w0⟩
 rintro n s3 ⟨i,σ3,H3,I3,st3,fr3,w3⟩
 rcases turn i n σ3 H3 w3 with ⟨stop,qn⟩ | ⟨go,N,hN,step⟩
 ·refine wpAny_passesOwn hp (jf (T.done X rfl rfl rfl hc i pins s3 σ3 H3 X.xe I3 (stat fr3) st3 stop) λr s4 ⟨hr,I4⟩=>?_)
  subst hr
  exact wpAny_execs_nil ⟨σ3,H3,I4,qn⟩
 ·refine wpAny_passesOwn hp (jf (T.item X rfl rfl rfl hc i pins s3 σ3 H3 X.xe I3 (stat fr3) st3 go) λr s4 ⟨u,hr,h4⟩=>?_)
  subst hr
  refine wpAny_passesOwn hp (jf h4 λ_ s5 ⟨x,H5,I5,r5,y5,st5,fr5⟩=>?_)
  have I5':=I5.pinned (stat fr5) (T.obj _ _ st5)
  refine wpAny_passesOwn hp (jf (hg _ s5 σ3 H5 x u _ I5' r5 (step x H5 y5)) λ_ s6 ⟨σ6,H6,I6,q6⟩=>?_)
  refine wpAny_passesOwn hp (jf (hb _ s6 σ6 H6 _ I6 q6) λf s7 q7=>?_)
  have again:∀{σ7:St} {H7:Hp},qz X (pins++Xw fp s5.heap) σ7 H7 s7->N σ7 H7->∃m,m < n/\∃i σ' H',qz X pins σ' H' s7/\tn i s7.heap/\(∀b∈fp,H' b=none)/\W i m σ' H':=λ{σ7 H7} I7 n7=>by
   obtain⟨m',hm,w7⟩:=hN σ7 H7 n7
   refine⟨m',hm,i+1,σ7,H7,I7.unpinned,T.keep _ _ _ st5 λb hb o e=>(I7.pin (b,o) (tJ _ (tJ _ (JV hb e)))).1,λb hb=>?_,w7⟩
   obtain⟨o,e,d⟩:=T.obj _ _ st5 b hb
   exact(I7.pin (b,o) (tJ _ (tJ _ (JV hb e)))).2.1
  cases f with
  | next=>obtain⟨σ7,H7,I7,n7⟩:=q7;exact again I7 n7
  | cont=>obtain⟨σ7,H7,I7,n7⟩:=q7;exact again I7 n7
  | brk=>obtain⟨σ7,H7,I7,q7⟩:=q7;exact⟨σ7,H7,I7.unpinned,q7⟩
  | ret v=>obtain⟨x7,σ7,H7,I7,r7,q7⟩:=q7;exact⟨x7,σ7,H7,I7.unpinned,r7,q7⟩)
end
theorem jx{K:zdW}{a:Addr}{xs:List V}{g:TG}{tb:TS}{D:Ja}{σ:St}{H:Hp}(Pv:Nat->St->Hp->Prop)(h0:Pv 0 σ H)(hl:∀i σ H,i<=xs.length->Pv i σ H->SqL K H a xs)
  (hs:∀i x σ H,xs[i]?=some x->Pv i σ H->g x σ H λσ2 H2=>tb {D with nx:=Pv (i+1),ct:=Pv (i+1),bk:=D.nx} σ2 H2) (hd:∀σ H,Pv xs.length σ H->D.nx σ H):
  ∃W:Nat->Nat->St->Hp->Prop,(∃m,W 0 m σ H)/\∀i m σ H,W i m σ H->
   ((Itl K a).stop i H/\D.nx σ H)\/((Itl K a).go i H/\∃N:St->Hp->Prop,(∀σ' H',N σ' H'->∃m',m' < m/\W (i+1) m' σ' H')/\∀x H',(Itl K a).yld i H x H'->g x σ H' λσ2 H2=>tb {D with nx:=N,ct:=N,bk:=D.nx} σ2 H2):=by
 refine⟨λi m σ H=>m=xs.length - i/\i<=xs.length/\Pv i σ H,⟨xs.length,by simp,zaw _,h0⟩,?_⟩
 rintro i m σ H ⟨rfl,hi,p⟩
 have q:=hl i σ H hi p
 by_cases hlt:i < xs.length
 ·refine .inr ⟨⟨xs,xs[i],q,by simp [hlt]⟩,Pv (i+1),λσ' H' p'=>⟨xs.length - (i+1),by omega,rfl,hlt,p'⟩,λx H' y=>?_⟩
  obtain⟨e,y⟩:=y
  subst e
  exact hs i x σ _ (y xs q) p
 ·have e:i=xs.length:=by omega
  subst e
  exact .inl ⟨⟨xs,q,tz _⟩,hd σ H p⟩
theorem Y0{K:zdW}{a:Addr}{xs:List V}{g:TG}{tb:TS}{D:Ja}{σ:St}{H:Hp}(Pv:Nat->St->Hp->Prop)(h0:Pv 0 σ H)(hl:∀i σ H,i<=xs.length->Pv i σ H->Y5 K H a xs)
  (hs:∀i x σ H,xs[i]?=some x->Pv i σ H->g x σ H λσ2 H2=>tb {D with nx:=Pv (i+1),ct:=Pv (i+1),bk:=D.nx} σ2 H2) (hd:∀σ H,Pv xs.length σ H->D.nx σ H):
  ∃W:Nat->Nat->St->Hp->Prop,(∃m,W 0 m σ H)/\∀i m σ H,W i m σ H->
   ((Itt K a).stop i H/\D.nx σ H)\/((Itt K a).go i H/\∃N:St->Hp->Prop,(∀σ' H',N σ' H'->∃m',m' < m/\W (i+1) m' σ' H')/\∀x H',(Itt K a).yld i H x H'->g x σ H' λσ2 H2=>tb {D with nx:=N,ct:=N,bk:=D.nx} σ2 H2):=by
 refine⟨λi m σ H=>m=xs.length - i/\i<=xs.length/\Pv i σ H,⟨xs.length,by simp,zaw _,h0⟩,?_⟩
 rintro i m σ H ⟨rfl,hi,p⟩
 have q:=hl i σ H hi p
 by_cases hlt:i < xs.length
 ·refine .inr ⟨⟨xs,xs[i],q,by simp [hlt]⟩,Pv (i+1),λσ' H' p'=>⟨xs.length - (i+1),by omega,rfl,hlt,p'⟩,λx H' y=>?_⟩
  obtain⟨e,y⟩:=y
  subst e
  exact hs i x σ _ (y xs q) p
 ·have e:i=xs.length:=by omega
  subst e
  exact .inl ⟨⟨xs,q,tz _⟩,hd σ H p⟩
theorem QC{lo:Int}{n:Nat}{g:TG}{tb:TS}{D:Ja}{σ:St}{H:Hp}(Pv:Nat->St->Hp->Prop)(h0:Pv 0 σ H)
  (hs:∀i σ H,i < n->Pv i σ H->g (.int (lo+i)) σ H λσ2 H2=>tb {D with nx:=Pv (i+1),ct:=Pv (i+1),bk:=D.nx} σ2 H2) (hd:∀σ H,Pv n σ H->D.nx σ H):
  ∃W:Nat->Nat->St->Hp->Prop,(∃m,W 0 m σ H)/\∀i m σ H,W i m σ H->
   ((NO lo n).stop i H/\D.nx σ H)\/((NO lo n).go i H/\∃N:St->Hp->Prop,(∀σ' H',N σ' H'->∃m',m' < m/\W (i+1) m' σ' H')/\∀x H',(NO lo n).yld i H x H'->g x σ H' λσ2 H2=>tb {D with nx:=N,ct:=N,bk:=D.nx} σ2 H2):=by
 refine⟨λi m σ H=>m=n - i/\i<=n/\Pv i σ H,⟨n,by simp,zaw _,h0⟩,?_⟩
 rintro i m σ H ⟨rfl,hi,p⟩
 by_cases hlt:i < n
 ·refine .inr ⟨hlt,Pv (i+1),λσ' H' p'=>⟨n - (i+1),by omega,rfl,hlt,p'⟩,λx H' y=>?_⟩
  obtain⟨e,y⟩:=y
  subst e y
  exact hs i σ _ hlt p
 ·have e:i=n:=by omega
  subst e
  exact .inl ⟨tz _,hd σ H p⟩
theorem Z9{c:TT}{tb:TS}{D:Ja}{σ:St}{H:Hp}(Pv:St->Hp->Prop)(μ:St->Hp->Nat)(h0:Pv σ H)
  (hs:∀σ H,Pv σ H->c σ H λb H1=>if b=true then tb {D with nx:=λσ' H'=>Pv σ' H'/\μ σ' H' < μ σ H,ct:=λσ' H'=>Pv σ' H'/\μ σ' H' < μ σ H,bk:=D.nx} σ H1 else D.nx σ H1)
  (mono:∀σ H Q Q',(∀b H1,Q b H1->Q' b H1)->c σ H Q->c σ H Q'):xO c tb D σ H:=by
 refine⟨λm σ H=>m=μ σ H/\Pv σ H,⟨_,rfl,h0⟩,?_⟩
 rintro m σ H ⟨rfl,p⟩
 refine mono σ H _ _ (λb H1 q=>?_) (hs σ H p)
 cases b with
 | true=>exact⟨_,λσ' H' ⟨p',l⟩=>⟨_,l,rfl,p'⟩,q⟩
 | false=>exact q
abbrev R2:=V->V->Hp->VK->Prop
def Zf(X:Cx)(f:Value->Value->Sem Value)(r:R2):Prop:=
 ∀(pins:List (Addr×Obj)) (s:Shared) (σ:St) (H:Hp) (x y:V) (v u:Value) (Q:VK),qz X pins σ H s->qO x v->qO y u->r x y H Q->
  wpAny (model X.prog X.w) X.A (f v u) (EP X pins σ Q) X.xe s
def QN(X:Cx)(f:Value)(r:List V->Hp->VK->Prop):Prop:=
 ∀(pins:List (Addr×Obj)) (s:Shared) (σ:St) (H:Hp) (xs:List V) (us:List Value) (Q:VK),qz X pins σ H s->qG xs us->r xs H Q->
  wpAny (model X.prog X.w) X.A (call f us) (EP X pins σ Q) X.xe s
def Yu(r:R2)(ta tb:TE):TE:=λσ H Q=>ta σ H λx H1=>tb σ H1 λy H2=>r x y H2 Q
def rI(C:Int->Int->Prop)(g:Int->Int->V):R2:=λx y H Q=>∃i j,x=.int i/\y=.int j/\C i j/\Q (g i j) H
def wH(g:Int->Int->V):R2:=λx y H Q=>∃i j,x=.int i/\y=.int j/\Q (g i j) H
section
variable{X:Cx}{a b c:Expr}{ta tb tc:TE}{pos:Pos}
theorem M5(ha:PE X a ta)(hb:PE X b tb){pins:List (Addr×Obj)}{s:Shared}{σ:St}{H:Hp}{R:V->V->Hp->Prop}(I:qz X pins σ H s)
  (h:ta σ H λx H1=>tb σ H1 λy H2=>R x y H2) {Q:Value->Shared->Prop} {f:Value->Value->Sem Value}
  (hf:∀v u s2 x y H2,qz X pins σ H2 s2->qO x v->qO y u->R x y H2->wpAny (model X.prog X.w) X.A (f v u) Q X.xe s2):
  wpAny (model X.prog X.w) X.A (eval a X.env) (λv s₁=>wpAny (model X.prog X.w) X.A (eval b X.env) (λu s₂=>wpAny (model X.prog X.w) X.A (f v u) Q X.xe s₂) X.xe s₁) X.xe s:=by
 refine jf (ha pins s σ H _ I h) λv s1 ⟨x,H1,I1,r1,q1⟩=>?_
 refine jf (hb pins s1 σ H1 _ I1 q1) λu s2 ⟨y,H2,I2,r2,q2⟩=>?_
 exact hf v u s2 x y H2 I2 r1 r2 q2
theorem qL{op:Operator}{r:R2}(ho:Zf X (binaryOp op) r)(ha:JE X a ta)(hb:JE X b tb):JE X (.BinOp a op b pos) (Yu r ta tb):=.of (by
 have ha:=ha.to
 have hb:=hb.to
 intro pins s σ H Q I h
 exact wpAny_BinOp (M5 ha hb I h λv u s2 x y H2 I2 rx ry q=>ho pins s2 σ H2 x y v u Q I2 rx ry q))
theorem Mh{f:Value->Value->Sem Value}{C:Int->Int->Prop}{g:Int->Int->Int}
  (rule:∀(i j:Int) (t u:Tok) (s:Shared) (Q:Value->Shared->Prop) (E:Value->Shared->Prop),C i j->Q (.int (g i j) s.toks) {s with toks:=s.toks+1}->wpAny (model X.prog X.w) X.A (f (.int i t) (.int j u)) Q E s):
  Zf X f (rI C λi j=>.int (g i j)):=by
 intro pins s σ H x y v u Q I rx ry h
 obtain⟨i,j,rfl,rfl,hc,q⟩:=h
 obtain⟨t,rfl⟩:=rx
 obtain⟨t',rfl⟩:=ry
 exact rule i j t t' s _ _ hc ⟨.int (g i j),H,I.tok _,⟨_,rfl⟩,q⟩
theorem w6{f:Value->Value->Sem Value}{g:Int->Int->Int}
  (rule:∀(i j:Int) (t u:Tok) (s:Shared) (Q:Value->Shared->Prop) (E:Value->Shared->Prop),Q (.int (g i j) s.toks) {s with toks:=s.toks+1}->wpAny (model X.prog X.w) X.A (f (.int i t) (.int j u)) Q E s):
  Zf X f (wH λi j=>.int (g i j)):=by
 intro pins s σ H x y v u Q I rx ry h
 obtain⟨i,j,rfl,rfl,q⟩:=h
 obtain⟨t,rfl⟩:=rx
 obtain⟨t',rfl⟩:=ry
 exact rule i j t t' s _ _ ⟨.int (g i j),H,I.tok _,⟨_,rfl⟩,q⟩
theorem GJ{f:Value->Value->Sem Value}{g:Int->Int->Bool}
  (rule:∀(i j:Int) (t u:Tok) (s:Shared) (Q:Value->Shared->Prop) (E:Value->Shared->Prop),Q (.bool (g i j)) s->wpAny (model X.prog X.w) X.A (f (.int i t) (.int j u)) Q E s):
  Zf X f (wH λi j=>.bl (g i j)):=by
 intro pins s σ H x y v u Q I rx ry h
 obtain⟨i,j,rfl,rfl,q⟩:=h
 obtain⟨t,rfl⟩:=rx
 obtain⟨t',rfl⟩:=ry
 exact rule i j t t' s _ _ ⟨.bl (g i j),H,I,rfl,q⟩
def qcT(i j:Int):Prop:=0 < j/\j < 1073741824
def qbM(i j:Int):Prop:=0<=j/\j<=1000000/\i.natAbs < 2^64
def qah(i j:Int):Prop:=(-(2^64) < i/\i < 2^64)\/(-(2^64) < j/\j < 2^64)
theorem qah.ok{i j:Int}(h:qah i j):IntMulOk i j:=by
 rcases h with ⟨h1,h2⟩ | ⟨h1,h2⟩
 ·exact .of_left (intBits_le_64 h1 h2)
 ·exact .of_right (intBits_le_64 h1 h2)
theorem UT(k:Nat):(0:Int)<=2^k:=by
 rw[two_pow_cast]
 exact zcN _
theorem Qk:Zf X (binaryOp .Add) (wH λi j=>.int (i+j)):=w6 λ_ _ _ _ _ _ _ q=>add_int q
theorem wS:Zf X (binaryOp .Sub) (wH λi j=>.int (i - j)):=w6 λ_ _ _ _ _ _ _ q=>sub_int q
theorem Qy:Zf X (binaryOp .Mult) (rI qah λi j=>.int (i*j)):=Mh λ_ _ _ _ _ _ _ hc q=>mul_int q hc.ok
theorem Gz:Zf X (binaryOp .FloorDiv) (rI qcT λi j=>.int (i / j)):=Mh λi j _ _ _ _ _ hc q=>by
 have h1:(0:Int) < j:=hc.1
 have h2:j < 1073741824:=hc.2
 exact floordiv_int (by omega) (by rw[zbV i (by omega)];exact q) (.inl (PyProof.noPylong_small (by omega)))
theorem JU:Zf X (binaryOp .Mod) (rI (λ_ j=>0 < j) λi j=>.int (i % j)):=Mh λi j _ _ _ _ _ hc q=>by
 have h1:(0:Int) < j:=hc
 exact mod_int' (by omega) (by rw[Int.fmod_eq_emod_of_nonneg i (by omega)];exact q)
theorem Md:Zf X (binaryOp .Pow) (rI qbM λi j=>.int (i^j.toNat)):=Mh λ_ _ _ _ _ _ _ hc q=>pow_int_small hc.1 hc.2.1 hc.2.2 q
theorem wV:Zf X (binaryOp .LShift) (rI qbM λi j=>.int (i*2^j.toNat)):=Mh λ_ _ _ _ _ _ _ hc q=>lshift_int_small hc.1 hc.2.1 hc.2.2 q
theorem wU:Zf X (binaryOp .RShift) (rI (λ_ j=>0<=j) λi j=>.int (i / 2^j.toNat)):=Mh λi j _ _ _ _ _ hc q=>
 rshift_int hc (by rw[zbV i (UT _)];exact q)
theorem w5:Zf X (binaryOp .BitAnd) (wH λi j=>.int (Builtin.bitAnd i j)):=w6 λ_ _ _ _ _ _ _ q=>and_int q
theorem NC:Zf X (binaryOp .BitOr) (wH λi j=>.int (Builtin.bitOr i j)):=w6 λ_ _ _ _ _ _ _ q=>or_int q
theorem vf:Zf X (binaryOp .BitXor) (wH λi j=>.int (Builtin.bitXor i j)):=w6 λ_ _ _ _ _ _ _ q=>xor_int q
end
def qaE:V->V->Bool
 | .non,.non=>true | .non,.int _=>true | .int _,.non=>true | .non,.bl _=>true | .bl _,.non=>true | .non,.str _=>true | .str _,.non=>true
 | .int _,.int _=>true | .bl _,.bl _=>true | .str _,.str _=>true | .byt _,.byt _=>true
 | .int _,.str _=>true | .str _,.int _=>true | .bl _,.str _=>true | .str _,.bl _=>true
 | _,_=>false
def rEq:R2:=λx y H Q=>qaE x y=true/\Q (.bl (decide (x=y))) H
def rNe:R2:=λx y H Q=>qaE x y=true/\Q (.bl (!decide (x=y))) H
theorem yb{i j:Int}:decide (V.int i=V.int j)=(i==j):=by
 rw[zbg]
 simp
theorem Kk{i j:Bool}:decide (V.bl i=V.bl j)=(i==j):=by
 rw[zbg]
 simp
theorem ya{i j:Str}:decide (V.str i=V.str j)=(i==j):=by
 rw[zbg]
 simp
theorem yc{i j:Array UInt8}:decide (V.byt i=V.byt j)=(i.toList==j.toList):=by
 rw[zbg]
 cases i
 cases j
 simp
section
variable{X:Cx}{a b c:Expr}{ta tb tc:TE}{pos:Pos}
theorem qX{pins:List (Addr×Obj)}{σ:St}{H:Hp}{s:Shared}{Q:VK}{k k':Bool}(I:qz X pins σ H s)(q:Q (.bl k) H)(e:k=k'):EP X pins σ Q (.bool k') s:=by
 subst e
 exact⟨.bl k,H,I,rfl,q⟩
theorem jL:Zf X (compareOp .Eq) rEq:=by
 intro pins s σ H x y v u Q I rx ry h
 obtain⟨hs,q⟩:=h
 cases x with
 | non=>
  cases rx
  cases y with
  | non=>cases ry;exact PySem.EqNone.eq_none_none (qX I q (by simp))
  | bl j=>cases ry;exact PySem.EqNone.eq_none_bool (qX I q (by simp))
  | int j=>obtain⟨t',rfl⟩:=ry;exact PySem.EqNone.eq_none_int (qX I q (by simp))
  | str j=>obtain⟨t',rfl⟩:=ry;exact PySem.EqNone.eq_none_str (qX I q (by simp))
  | _=>exact absurd (show false=true from hs) tN
 | bl i=>
  cases rx
  cases y with
  | non=>cases ry;exact PySem.EqNone.eq_bool_none (qX I q (by simp))
  | bl j=>cases ry;exact eq_bool (qX I q Kk)
  | str j=>obtain⟨t',rfl⟩:=ry;exact PySem.EqMixed.eq_bool_str (qX I q (by simp))
  | _=>exact absurd (show false=true from hs) tN
 | int i=>
  obtain⟨t,rfl⟩:=rx
  cases y with
  | non=>cases ry;exact PySem.EqNone.eq_int_none (qX I q (by simp))
  | int j=>obtain⟨t',rfl⟩:=ry;exact eq_int (qX I q yb)
  | str j=>obtain⟨t',rfl⟩:=ry;exact PySem.EqMixed.eq_int_str (qX I q (by simp))
  | _=>exact absurd (show false=true from hs) tN
 | str i=>
  obtain⟨t,rfl⟩:=rx
  cases y with
  | non=>cases ry;exact PySem.EqNone.eq_str_none (qX I q (by simp))
  | bl j=>cases ry;exact PySem.EqMixed.eq_str_bool (qX I q (by simp))
  | int j=>obtain⟨t',rfl⟩:=ry;exact PySem.EqMixed.eq_str_int (qX I q (by simp))
  | str j=>obtain⟨t',rfl⟩:=ry;exact eq_str (qX I q ya)
  | _=>exact absurd (show false=true from hs) tN
 | byt i=>
  obtain⟨t,rfl⟩:=rx
  cases y with
  | byt j=>obtain⟨t',rfl⟩:=ry;exact PySem.W.eq_bytes (qX I q yc)
  | _=>exact absurd (show false=true from hs) tN
 | _=>cases y<;>exact absurd (show false=true from hs) tN
theorem wY:Zf X (compareOp .NotEq) rNe:=by
 intro pins s σ H x y v u Q I rx ry h
 obtain⟨hs,q⟩:=h
 cases x with
 | non=>
  cases rx
  cases y with
  | non=>cases ry;exact PySem.EqNone.ne_none_none (qX I q (by simp))
  | bl j=>cases ry;exact PySem.EqNone.ne_none_bool (qX I q (by simp))
  | int j=>obtain⟨t',rfl⟩:=ry;exact PySem.EqNone.ne_none_int (qX I q (by simp))
  | str j=>obtain⟨t',rfl⟩:=ry;exact PySem.EqNone.ne_none_str (qX I q (by simp))
  | _=>exact absurd (show false=true from hs) tN
 | bl i=>
  cases rx
  cases y with
  | non=>cases ry;exact PySem.EqNone.ne_bool_none (qX I q (by simp))
  | bl j=>cases ry;exact ne_bool (qX I q (congrArg not Kk))
  | str j=>obtain⟨t',rfl⟩:=ry;exact PySem.EqMixed.ne_bool_str (qX I q (by simp))
  | _=>exact absurd (show false=true from hs) tN
 | int i=>
  obtain⟨t,rfl⟩:=rx
  cases y with
  | non=>cases ry;exact PySem.EqNone.ne_int_none (qX I q (by simp))
  | int j=>obtain⟨t',rfl⟩:=ry;exact ne_int (qX I q (congrArg not yb))
  | str j=>obtain⟨t',rfl⟩:=ry;exact PySem.EqMixed.ne_int_str (qX I q (by simp))
  | _=>exact absurd (show false=true from hs) tN
 | str i=>
  obtain⟨t,rfl⟩:=rx
  cases y with
  | non=>cases ry;exact PySem.EqNone.ne_str_none (qX I q (by simp))
  | bl j=>cases ry;exact PySem.EqMixed.ne_str_bool (qX I q (by simp))
  | int j=>obtain⟨t',rfl⟩:=ry;exact PySem.EqMixed.ne_str_int (qX I q (by simp))
  | str j=>obtain⟨t',rfl⟩:=ry;exact ne_str (qX I q (congrArg not ya))
  | _=>exact absurd (show false=true from hs) tN
 | byt i=>
  obtain⟨t,rfl⟩:=rx
  cases y with
  | byt j=>obtain⟨t',rfl⟩:=ry;exact PySem.W.ne_bytes (qX I q (congrArg not yc))
  | _=>exact absurd (show false=true from hs) tN
 | _=>cases y<;>exact absurd (show false=true from hs) tN
theorem QS:Zf X (compareOp .Lt) (wH λi j=>.bl (decide (i < j))):=GJ λ_ _ _ _ _ _ _ q=>lt_int q
theorem kL:Zf X (compareOp .LtE) (wH λi j=>.bl (decide (i<=j))):=GJ λ_ _ _ _ _ _ _ q=>le_int q
theorem XA:Zf X (compareOp .Gt) (wH λi j=>.bl (decide (j < i))):=GJ λ_ _ _ _ _ _ _ q=>gt_int q
theorem wZ:Zf X (compareOp .GtE) (wH λi j=>.bl (decide (j<=i))):=GJ λ_ _ _ _ _ _ _ q=>ge_int q
theorem yT:Zf X (compareOp .In) (λx y H Q=>∃i j,x=.str i/\y=.str j/\Q (.bl (!(Builtin.Str.occurrences j i 0 j.length 1).isEmpty)) H):=by
 intro pins s σ H x y v u Q I rx ry h
 obtain⟨i,j,rfl,rfl,q⟩:=h
 obtain⟨t,rfl⟩:=rx
 obtain⟨t',rfl⟩:=ry
 exact in_str (qX I q rfl)
theorem Me:Zf X (compareOp .Is) (λx y H Q=>y=.non/\Q (.bl (decide (x=.non))) H):=by
 intro pins s σ H x y v u Q I rx ry h
 obtain⟨rfl,q⟩:=h
 cases ry
 refine is_none_gen (qX I q ?_)
 cases x<;>first
  | (cases rx;rfl)
  | (obtain⟨t,rfl⟩:=rx;rfl)
theorem qA(b:Expr){op:CmpOp}(h:op≠.In:=by decide)(h2:op≠.NotIn:=by decide):behindInMarks op b=false:=by
 have e1:(op==CmpOp.In)=false:=by cases op<;>first | rfl | exact absurd rfl h
 have e2:(op==CmpOp.NotIn)=false:=by cases op<;>first | rfl | exact absurd rfl h2
 cases b<;>simp [behindInMarks,e1,e2]
theorem Qq{op:CmpOp}{r:R2}(ho:Zf X (compareOp op) r)(ha:JE X a ta)(hb:JE X b tb)(hm:behindInMarks op b=false):JE X (.Compare a [op] [b] pos) (Yu r ta tb):=.of (by
 have ha:=ha.to
 have hb:=hb.to
 intro pins s σ H Q I h
 exact wpAny_Compare1 (M5 ha hb I h λv u s2 x y H2 I2 rx ry q=>ho pins s2 σ H2 x y v u Q I2 rx ry q) hm)
def Y8(t:TE):TT:=λσ H Q=>t σ H λx H'=>∃k,x=.bl k/\Q k H'
theorem qv{op:CmpOp}{r:R2}(ho:Zf X (compareOp op) r)(ha:JE X a ta)(hb:JE X b tb)(hm:behindInMarks op b=false):JT X (.Compare a [op] [b] pos) (Y8 (Yu r ta tb)):=.of (by
 have ha:=ha.to
 have hb:=hb.to
 intro pins s σ H Q I h
 refine wpAny_isTrue_Compare1 (jf (ha pins s σ H _ I h) λv s1 ⟨x,H1,I1,r1,q1⟩=>jf (hb pins s1 σ H1 _ I1 q1) λu s2 ⟨y,H2,I2,r2,q2⟩=>
  jf (ho pins s2 σ H2 x y v u _ I2 r1 r2 q2) λc s3 ⟨z,H3,I3,r3,k,e,q3⟩=>?_) hm
 subst e
 cases r3
 exact wpAny_truthy_bool ⟨H3,I3,q3⟩)
theorem z6:(zeb:Nat) < 2^63:=by rw[sizeLine_eq];decide
theorem XB:Zf X (binaryOp .Add) (λx y H Q=>∃i j,x=.str i/\y=.str j/\i.length+j.length<=zeb/\Q (.str (i++j)) H):=by
 intro pins s σ H x y v u Q I rx ry h
 obtain⟨i,j,rfl,rfl,hz,q⟩:=h
 obtain⟨t,rfl⟩:=rx
 obtain⟨t',rfl⟩:=ry
 exact add_str (λt' tk=>⟨.str (i++j),H,I.tok _,⟨_,rfl⟩,q⟩) hz
theorem Js{x:V}{us:List Value}(r:qG [x] us):∃u,us=[u]/\qO x u:=by
 cases r with
 | cons r1 r2=>cases r2;exact⟨_,rfl,r1⟩
theorem vO{x y:V}{us:List Value}(r:qG [x,y] us):∃u w',us=[u,w']/\qO x u/\qO y w':=by
 cases r with
 | cons r1 r2=>
  cases r2 with
  | cons r3 r4=>cases r4;exact⟨_,_,rfl,r1,r3⟩
theorem WI(hc:X.calm=true):QN X (.builtin "max") (λxs H Q=>∃i j,xs=[.int i,.int j]/\Q (.int (if j > i then j else i)) H):=by
 intro pins s σ H xs us Q I r h
 obtain⟨i,j,rfl,q⟩:=h
 obtain⟨u,w',rfl,⟨t,rfl⟩,⟨t',rfl⟩⟩:=vO r
 refine max_two_ints (I.ok.hd hc) λh' tk k=>⟨_,H,I.kept k,?_,q⟩
 by_cases hj:j > i
 ·rw[if_pos hj,if_pos hj];exact⟨_,rfl⟩
 ·rw[if_neg hj,if_neg hj];exact⟨_,rfl⟩
theorem xD(hc:X.calm=true):QN X (.builtin "min") (λxs H Q=>∃i j,xs=[.int i,.int j]/\Q (.int (if j < i then j else i)) H):=by
 intro pins s σ H xs us Q I r h
 obtain⟨i,j,rfl,q⟩:=h
 obtain⟨u,w',rfl,⟨t,rfl⟩,⟨t',rfl⟩⟩:=vO r
 refine min_two_ints (I.ok.hd hc) λh' tk k=>⟨_,H,I.kept k,?_,q⟩
 by_cases hj:j < i
 ·rw[if_pos hj,if_pos hj];exact⟨_,rfl⟩
 ·rw[if_neg hj,if_neg hj];exact⟨_,rfl⟩
theorem Yd:QN X (.type "int") (λxs H Q=>(∃i,xs=[.int i]/\Q (.int i) H)\/∃k,xs=[.bl k]/\Q (.int (if k then 1 else 0)) H):=by
 intro pins s σ H xs us Q I r h
 rcases h with ⟨i,rfl,q⟩ | ⟨k,rfl,q⟩
 ·obtain⟨u,rfl,t,rfl⟩:=Js r
  exact call_int_int ⟨.int i,H,I,⟨_,rfl⟩,q⟩
 ·obtain⟨u,rfl,r1⟩:=Js r
  cases r1
  exact call_int_bool ⟨.int (if k then 1 else 0),H,I.tok _,⟨_,rfl⟩,q⟩
end
structure vK(h:Heap)(x dx C:Addr)(mA:Str->Option Value):Prop where
 obj:h.get? x=some (zbo C dx)
 ns:h.Ns1 dx mA
 ne:dx≠x
theorem z5{h:Heap}{dx:Addr}{mA:Str->Option Value}(n:h.Ns1 dx mA):∃od,h.get? dx=some od/\∀name,zcO name od=some (mA name):=by
 obtain⟨o,es,ep,ho,hd,hk,_,hm⟩:=n
 refine⟨o,ho,λname=>?_⟩
 have e:=hm name
 unfold nsFind findBy at e
 rw[<-Array.find?_toList]at e
 unfold zcO
 rw[hd]
 dsimp only
 split
 ·rename_i y q
  rw[q]at e
  exact congrArg some e
 ·rename_i q
  rw[q]at e
  have a:es.toList.any (·.refKey)=false:=by
   rw[List.any_eq_false]
   intro y hy
   obtain⟨z,t,hkey⟩:=hk y (Array.mem_toList_iff.mp hy)
   simp [DictEntry.refKey,hkey]
  have a':¬es.toList.any (·.refKey)=true:=by rw[a];exact tN
  rw[if_neg a']
  exact congrArg some e
theorem vK.look{h:Heap}{x dx C:Addr}{mA:Str->Option Value}(I:vK h x dx C mA):∃od,PySem.W.InstAt h x (zbo C dx) C (some od)/\∀name,zcO name od=some (mA name):=
 let ⟨od,ho,hl⟩:=z5 I.ns
 ⟨od,⟨I.obj,rfl,rfl,ho⟩,hl⟩
section
variable{prog:Program}{w:World}{A:Around}{E:Value->Shared->Prop}{s:Shared}{K:zdW}{x dx C f:Addr}{mA:Str->Option Value}{name:Str}{v:Value}
theorem RO{expr:Bool}{Q:Value->Shared->Prop}(X:K.In s.heap)(I:vK s.heap x dx C mA)(hg:zbr K C name=true)(hh:zbd K C=true)
  (ha:tR K (.ref C) name=some none) (hv:mA name=some v) (hv':zdR v=true) (h:Q v {s with toks:=s.toks+1}):
  wpAny (model prog w) A (getAttr (.ref x) name expr) Q E s:=by
 obtain⟨od,J,hl⟩:=I.look
 exact PySem.W.get_value X J (zcI hg).1 (PySem.W.findObj_own hh ha rfl (by rw[hl,hv])) hv' h
theorem u8{pl:Sem Bool}{Q:Value×List Value->Shared->Prop}(X:K.In s.heap)(I:vK s.heap x dx C mA)(hg:zbr K C name=true)
  (hf:tR K (.ref C) name=some (some (.ref f))) (ht:zaH K (.ref f)=true) (hv:mA name=none) (h:Q (.ref f,[.ref x]) s):
  wpAny (model prog w) A (getMethod (.ref x) name pl) Q E s:=by
 obtain⟨od,J,hl⟩:=I.look
 exact PySem.W.method_fn X J (zcI hg).1 (zcI hg).2 hf (beq_iff_eq.mp ht) (by show (zcO name od).map (·.isSome)=some false;rw[hl,hv];rfl) h
theorem KZ{ns:List Str}{Q:Unit->Shared->Prop}(X:K.In s.heap)(I:vK s.heap x dx C mA)
  (hs:tR K (.ref C) "__setattr__"=some (some (.builtin "object.__setattr__"))) (hp:zbR K C=true) (ht:zdm K C name=some none) (hh:zbd K C=true)
  (hw:PySem.Within mA ns) (hsz:ns.length<=zeb)
  (h:∀h',vK h' x dx C (λy=>if y=name then some v else mA y)->Heap.SameBut dx s.heap h'->Q () {s with heap:=h',toks:=s.toks+2}):
  wpAny (model prog w) A (setAttr (.ref x) name v) Q E s:=by
 obtain⟨od,J,hl⟩:=I.look
 refine PySem.W.set_plain X J hs (PySem.W.osa_open (s:={s with toks:=s.toks+1}) (r:=none) X J hp ht λb=>?_)
 obtain⟨cd,hc,hd'⟩:=PySem.W.any_some hh
 have hx:s.heap.get? x=some ⟨.ref C,some dx,.plain,#[]⟩:=I.obj
 refine zdY (zdZ (zdY (zdY (wpAny_loadPart hx (zdY (PySem.W.Looks.here (s:={s with toks:=s.toks+1}) (PySem.W.looks_clsIn X hc) ?_))))))
 rw[hd']
 refine zdZ (a:=some dx) (zdY (zdZ (zdY ?_)))
 refine wpAny_nsSet1 (s:={s with toks:=s.toks+1}) I.ns λh' hn2 hs2=>?_
 obtain⟨oD,esD,epD,hoD,hdD,hcD⟩:=hn2.count (PySem.Within.cons name v hw)
 refine zdY (wpAny_lookBehind hoD (by rw[hdD];exact pastItsLine_dict (zaa hcD (by rw[zay];omega))) ?_)
 exact zdZ (h _ ⟨(hs2.2 _ (Ne.symm I.ne)).trans I.obj,hn2,I.ne⟩ hs2)
theorem uD{R:Result->Shared->Prop}{vs:List Value}{kw:List (Str×Value)}(X:K.In s.heap)(hm:zch K C=true)
  (hi:tR K (.ref C) "__init__"=some (some (.ref f))) (hf:zdU K (.ref f)=some (.type "function"))
  (h:codeAny (model prog w) (A.under (.builtin "type.__call__" ⟨.ref C::vs,kw⟩)) (.call (.ref f) ⟨.ref (s.heap.objs.size+1)::vs,kw⟩) (PySem.W.InitBack (s.heap.objs.size+1) R)
   {s with heap:=(s.heap.push zaS).push (zbo C s.heap.objs.size)}):
  codeAny (model prog w) A (.call (.ref C) ⟨vs,kw⟩) R s:=by
 obtain⟨hh,g,d,t,os⟩:=s
 exact PySem.W.make_core (PySem.W.makes_of X hm) (zdt X hi) (λself=>PySem.W.bind_fn X self hf) (.inl rfl) h
end
def JQ(f:Str)(v:V):List (Str×V)->List (Str×V)
 | []=>[(f,v)]
 | (g,x)::r=>if g=f then (g,v)::r else (g,x)::JQ f v r
theorem Yo(f g:Str)(v:V):∀fs:List (Str×V),(JQ f v fs).lookup g=if g=f then some v else fs.lookup g
 | []=>by
  show zbb g [(f,v)]=_
  by_cases h:g=f
  ·have hb:(g==f)=true:=beq_iff_eq.mpr h
   simp only[zbb,hb,if_pos h]
  ·have hb:(g==f)=false:=beq_eq_false_iff_ne.mpr h
   simp only[zbb,hb,if_neg h]
 | (k,x)::r=>by
  have ih:=Yo f g v r
  rw[show JQ f v ((k,x)::r)=(if k=f then (k,v)::r else (k,x)::JQ f v r) from rfl]
  by_cases hk:k=f
  ·rw[if_pos hk]
   by_cases h:g=k
   ·have hb:(g==k)=true:=beq_iff_eq.mpr h
    simp only[zbb,hb,if_pos (h.trans hk)]
   ·have hb:(g==k)=false:=beq_eq_false_iff_ne.mpr h
    simp only[zbb,hb,if_neg (λe:g=f=>h (e.trans hk.symm))]
  ·rw[if_neg hk]
   by_cases h:g=k
   ·have hb:(g==k)=true:=beq_iff_eq.mpr h
    simp only[zbb,hb,if_neg (λe:g=f=>hk (h.symm.trans e))]
   ·have hb:(g==k)=false:=beq_eq_false_iff_ne.mpr h
    simp only[zbb,hb]
    exact ih
theorem z7(f:Str)(v:V):∀fs:List (Str×V),f∈(JQ f v fs).map (·.1)/\∀g,g∈fs.map (·.1)->g∈(JQ f v fs).map (·.1)
 | []=>⟨by simp [JQ],λg h=>by simp at h⟩
 | (k,x)::r=>by
  obtain⟨i1,i2⟩:=z7 f v r
  rw[show JQ f v ((k,x)::r)=(if k=f then (k,v)::r else (k,x)::JQ f v r) from rfl]
  by_cases hk:k=f
  ·rw[if_pos hk]
   subst hk
   exact⟨by simp,λg h=>by simpa using h⟩
  ·rw[if_neg hk]
   refine⟨?_,λg h=>?_⟩
   ·rw[tU]
    exact tY _ i1
   ·rw[tU]at h ⊢
    rcases tS.mp h with e | e
    ·exact tS.mpr (.inl e)
    ·exact tY _ (i2 g e)
theorem Yq(f:Str)(v:V):∀fs:List (Str×V),(JQ f v fs).length<=fs.length+1
 | []=>by simp [JQ]
 | (k,x)::r=>by
  have ih:=Yq f v r
  rw[show JQ f v ((k,x)::r)=(if k=f then (k,v)::r else (k,x)::JQ f v r) from rfl]
  by_cases hk:k=f
  ·rw[if_pos hk,zay,zay];omega
  ·rw[if_neg hk,zay,zay];omega
theorem Ze.some_of{v:V}{o:Option Value}(r:Ze (some v) o):∃u,o=some u/\qO v u:=by
 cases o with
 | none=>exact(show False from r).elim
 | some u=>exact⟨u,rfl,r⟩
theorem Ze.none_of{o:Option Value}(r:Ze none o):o=none:=by
 cases o with
 | none=>rfl
 | some u=>exact(show False from r).elim
theorem WE{v:V}{u:Value}(r:qO v u):zdR u=true:=by
 cases v with
 | non=>cases (show u=Value.none from r);rfl
 | bl b=>cases (show u=Value.bool b from r);rfl
 | int i=>obtain⟨t,e⟩:=(show ∃t,u=Value.int i t from r);cases e;rfl
 | str x=>obtain⟨t,e⟩:=(show ∃t,u=Value.str x t from r);cases e;rfl
 | byt b=>obtain⟨t,e⟩:=(show ∃t,u=Value.bytes b t from r);cases e;rfl
 | flt b=>obtain⟨t,e⟩:=(show ∃t,u=Value.float b t from r);cases e;rfl
 | ref a=>cases (show u=Value.ref a from r);rfl
 | ty n=>cases (show u=Value.type n from r);rfl
section
variable{P:Program}{w:World}{H H':Hp}{h h':Heap}{a C dx:Addr}{fs fs':List (Str×V)}
theorem YX(hok:JN P w H h)(e:H a=some (.ins C dx fs)):∃mA,vK h a dx C mA/\(∀f,Ze (fs.lookup f) (mA f))/\PySem.Within mA (fs.map (·.1))/\fs.length<=1000/\H dx=some (.own a):=by
 obtain⟨d,z,ne,ob,mA,n,r,q⟩:=(show qK P w H h a (.ins C dx fs) from hok a _ e)
 exact⟨mA,⟨ob,n,ne⟩,r,q,z,d⟩
end
structure X7(K:zdW)(C:Addr):Prop where
 pg:zbr K C Str.empty=true
 hd:zbd K C=true
 po:zbR K C=true
 sa:tR K (.ref C) "__setattr__"=some (some (.builtin "object.__setattr__"))
theorem X7.get{K:zdW}{C:Addr}(c:X7 K C)(f:Str):zbr K C f=true:=c.pg
def j5(K:zdW)(C:Addr)(f:Str):Prop:=tR K (.ref C) f=some none
theorem j5.taker{K:zdW}{C:Addr}{f:Str}(n:j5 K C f):zdm K C f=some none:=by
 unfold zdm
 rw[show tR K (.ref C) f=some none from n]
 rfl
structure Con(K:zdW)(C:Addr)(f:Str)(v:V)(u:Value):Prop where
 at_:tR K (.ref C) f=some (some u)
 rel:qO v u
 get:zby K u "__get__"=some none
 cp:PySem.W.copiedNames.contains f=false
structure We(K:zdW)(C:Addr)(m:Str)(f:Addr):Prop where
 at_:tR K (.ref C) m=some (some (.ref f))
 fn:zaH K (.ref f)=true
 kp:zaA K (.ref f)=true
section
variable{X:Cx}{pins:List (Addr×Obj)}{σ:St}{H:Hp}{s:Shared}{a C dx:Addr}{fs:List (Str×V)}{f:Str}{v:V}{A:Around}{E:Value->Shared->Prop}
theorem vA{b:Bool}{Q:Value->Shared->Prop}(I:qz X pins σ H s)(e:H a=some (.ins C dx fs))(c:X7 X.K C)(n:j5 X.K C f)(l:fs.lookup f=some v)
  (h:∀u s',qz X pins σ H s'->qO v u->Q u s'):wpAny (model X.prog X.w) A (getAttr (.ref a) f b) Q E s:=by
 obtain⟨mA,O,r,_,_,_⟩:=YX I.hok e
 obtain⟨u,hu,ru⟩:=Ze.some_of (v:=v) (o:=mA f) (by rw[<-l];exact r f)
 exact RO I.kIn O (c.get f) c.hd n hu (WE ru) (h u _ (I.tok _) ru)
theorem QB{m:Str}{g:Addr}{pl:Sem Bool}{Q:Value×List Value->Shared->Prop}(I:qz X pins σ H s)(e:H a=some (.ins C dx fs))(c:X7 X.K C)(k:We X.K C m g)(l:fs.lookup m=none)
  (h:Q (.ref g,[.ref a]) s):wpAny (model X.prog X.w) A (getMethod (.ref a) m pl) Q E s:=by
 obtain⟨mA,O,r,_,_,_⟩:=YX I.hok e
 have hn:mA m=none:=Ze.none_of (by rw[<-l];exact r m)
 exact u8 I.kIn O (c.get m) k.at_ k.fn hn h
theorem U4{y:V}{u:Value}{Q:Unit->Shared->Prop}(I:qz X pins σ H s)(e:H a=some (.ins C dx fs))(c:X7 X.K C)(n:j5 X.K C f)(hl:fs.length < 1000)(ry:qO y u)
  (h:∀s',qz X pins σ (upd H a (.ins C dx (JQ f y fs))) s'->Q () s'):wpAny (model X.prog X.w) A (setAttr (.ref a) f u) Q E s:=by
 obtain⟨mA,O,r,wi,_,ho⟩:=YX I.hok e
 have hz:(fs.map (·.1)).length<=zeb:=by rw[tj,sizeLine_eq];omega
 refine KZ I.kIn O c.sa c.po n.taker c.hd wi hz λh' O' sb=>h _ ?_
 have hd:∃o,h'.get? dx=some o:=let ⟨o,_,_,e',_⟩:=O'.ns;⟨o,e'⟩
 refine I.write (x:=a) (e:=dx) (by rw[e];exact True.intro) (.inr ho) (λb q hb z=>(sb.2 b hb).trans z) hd ?_
 refine⟨by rw[qi O.ne];exact ho,?_,O.ne,O'.obj,_,O'.ns,λg=>?_,λg hg=>?_⟩
 ·have:=Yq f y fs;omega
 ·show Ze ((JQ f y fs).lookup g) (if g=f then some u else mA g)
  rw[Yo]
  by_cases q:g=f
  ·rw[if_pos q,if_pos q];exact ry
  ·rw[if_neg q,if_neg q];exact r g
 ·by_cases q:g=f
  ·rw[q];exact(z7 f y fs).1
  ·refine(z7 f y fs).2 g (wi g λz=>hg ?_)
   show (if g=f then some u else mA g)=none
   rw[if_neg q];exact z
theorem qz.made(I:qz X pins σ H s):qz X pins σ (upd (upd H s.heap.objs.size (.own (s.heap.objs.size+1))) (s.heap.objs.size+1) (.ins C s.heap.objs.size []))
  {s with heap:=(s.heap.push zaS).push (zbo C s.heap.objs.size)}:=by
 have e1:(s.heap.push zaS).get? s.heap.objs.size=some zaS:=tV s.heap rfl
 have e2:((s.heap.push zaS).push (zbo C s.heap.objs.size)).get? (s.heap.objs.size+1)=some (zbo C s.heap.objs.size):=by
  have:=tV (s.heap.push zaS) (o:=zbo C s.heap.objs.size) rfl
  rwa [zbm]at this
 have e3:(s.heap.push zaS).Ns s.heap.objs.size (λ_=>none):=⟨zaS,#[],_,e1,rfl,(λe he=>absurd he (by simp)),λ_=>rfl⟩
 have I1:=I.laid (a:=s.heap.objs.size) (o:=.own (s.heap.objs.size+1)) (h':=s.heap.push zaS) (t':=s.toks) (λb u q=>tu _ q) (tz _) ⟨_,e1⟩
 refine I1.laid (a:=s.heap.objs.size+1) (o:=.ins C s.heap.objs.size []) (t':=s.toks) (λb u q=>tu _ q) (zdj (zbm _ _)) ?_
 have ne:s.heap.objs.size≠s.heap.objs.size+1:=tQ (zaI _)
 refine⟨by rw[qi ne,qe],zaw _,ne,e2,λ_=>none,(Heap.Ns1.of_empty e3).at λo q=>tu _ q,λ_=>True.intro,λy hy=>absurd rfl hy⟩
theorem yg{prog:Program}{w:World}{env:Env}{e:Expr}{f:Str}{pos:Pos}{s:Shared}{Q:Value->Shared->Prop}(hb:attributeBase e f env (eval e env)=eval e env)
  (h:wpAny (model prog w) A (eval e env) (λo s₁=>wpAny (model prog w) A (getAttr o f true) Q E s₁) E s):wpAny (model prog w) A (eval (.Attribute e f pos) env) Q E s:=
 Attribute_any_ h (by rw[arm_eval_Attribute,hb])
end
def qb3(K:zdW)(ta:TE)(f:Str):TE:=λσ H Q=>ta σ H λx H1=>∃a C dx fs v,x=.ref a/\H1 a=some (.ins C dx fs)/\X7 K C/\j5 K C f/\fs.lookup f=some v/\Q v H1
def qci(K:zdW)(ta tv:TE)(f:Str):TS:=λD σ H=>tv σ H λy H1=>ta σ H1 λx H2=>∃a C dx fs,x=.ref a/\H2 a=some (.ins C dx fs)/\X7 K C/\j5 K C f/\fs.length < 1000/\
 D.nx σ (upd H2 a (.ins C dx (JQ f y fs)))
section
variable{X:Cx}{o e value:Expr}{f:Str}{pos pos' tpos:Pos}{ta tv:TE}
theorem Q7(he:JE X e ta)(hb:attributeBase e f X.env (eval e X.env)=eval e X.env):JE X (.Attribute e f pos) (qb3 X.K ta f):=.of (by
 have he:=he.to
 intro pins s σ H Q I h
 refine yg hb (jf (he pins s σ H _ I h) λu s1 ⟨x,H1,I1,rx,a,C,dx,fs,v,ex,ea,c,n,l,q⟩=>?_)
 subst ex
 obtain rfl:u=Value.ref a:=rx
 exact vA I1 ea c n l λu' s2 I2 ru=>⟨v,H1,I2,ru,q⟩)
theorem Vp(ha:JE X o ta)(hv:JE X value tv)(hs:swapsWith value (some (.Attribute o f pos')) pos.line X.env=pure false):JS X (.Assign [.Attribute o f pos'] value pos) (qci X.K ta tv f):=.of (by
 have ha:=ha.to
 have hv:=hv.to
 intro pins s σ H D I h
 refine plainObj_wpAny_Assign_Attribute (jf (hv pins s σ H _ I h) λu s1 ⟨y,H1,I1,ry,q⟩=>jf (ha pins s1 σ H1 _ I1 q) λov s2 ⟨x,H2,I2,rx,a,C,dx,fs,ex,ea,c,n,l,q2⟩=>?_) hs
 subst ex
 obtain rfl:ov=Value.ref a:=rx
 exact U4 I2 ea c n l ry λs3 I3=>⟨σ,_,I3,q2⟩)
end
section
variable{X:Cx}{pins:List (Addr×Obj)}{σ:St}{H:Hp}{s:Shared}{A:Around}{E:Value->Shared->Prop}{Q:Value->Shared->Prop}{c:Value}{b:Bool}
inductive zE(K:zdW)(H:Hp):V->Value->Prop where
 | non:zE K H .non (.type "NoneType")
 | bl (x:Bool):zE K H (.bl x) (.type "bool")
 | int (i:Int):zE K H (.int i) (.type "int")
 | str (x:Str):zE K H (.str x) (.type "str")
 | flt (x:UInt64):zE K H (.flt x) (.type "float")
 | lst {a:Addr} {xs:List V} (e:H a=some (.lst xs)):zE K H (.ref a) (.type "list")
 | frz {a:Addr} {o:Obj} {xs:List V} (e:H a=some (.frz o (.lst xs))):zE K H (.ref a) (.type "list")
 | tup {a:Addr} {xs:List V} (e:H a=some (.tup xs)):zE K H (.ref a) (.type "tuple")
 | dK {a:Addr} {kvs:List (qN×V)} (e:H a=some (.dK kvs)):zE K H (.ref a) (.type "dict")
 | dT {a:Addr} {kvs:List (List qN×V)} (e:H a=some (.dT kvs)):zE K H (.ref a) (.type "dict")
 | ins {a C dx:Addr} {fs:List (Str×V)} (e:H a=some (.ins C dx fs)) (cl:X7 K C) (ha:tR K (.ref C) "__class__"=some (some (.builtin "object.__class__")))
  (hn:zby K (.builtin "object.__class__") "__get__"=some (some (.builtin "getset_descriptor.__get__"))) (htk:zci K (.builtin "object.__class__")=some true)
  (hm:zbA K C (.type "object")=some true):zE K H (.ref a) (.ref C)
theorem xl{x:V}{u t:Value}(I:qz X pins σ H s)(rx:qO x u)(ty:zE X.K H x t)(e:zag X.K t c=some b)(h:∀tk,Q (.bool b) {s with toks:=tk}):
  wpAny (model X.prog X.w) A (call (.builtin "isinstance") [u,c]) Q E s:=by
 cases ty with
 | non=>cases (show u=Value.none from rx);exact zaP PySem.W.kitx_none I.kIn True.intro e (λz=>nomatch z) h
 | bl y=>cases (show u=Value.bool y from rx);exact zaP PySem.W.kitx_bool I.kIn True.intro e (λz=>nomatch z) h
 | int i=>obtain⟨t,q⟩:=(show ∃t,u=Value.int i t from rx);cases q;exact zaP PySem.W.kitx_int I.kIn True.intro e (λz=>nomatch z) h
 | str y=>obtain⟨t,q⟩:=(show ∃t,u=Value.str y t from rx);cases q;exact zaP PySem.W.kitx_str I.kIn True.intro e (λz=>nomatch z) h
 | flt y=>obtain⟨t,q⟩:=(show ∃t,u=Value.float y t from rx);cases q;exact zaP PySem.W.kitx_float I.kIn True.intro e (λz=>nomatch z) h
 | @lst a xs ea=>
  cases (show u=Value.ref a from rx)
  obtain⟨_,_,n,_,h1⟩:=(show qK X.prog X.w H s.heap a (.lst xs) from I.hok a _ ea)
  exact zaP zdK I.kIn ⟨_,h1,rfl⟩ e (λz=>nomatch z) h
 | @frz a ob xs ea=>
  cases (show u=Value.ref a from rx)
  obtain⟨_,_,_,n,_,h1⟩:=(show qK X.prog X.w H s.heap a (.frz ob (.lst xs)) from I.hok a _ ea)
  exact zaP zdK I.kIn ⟨_,h1,rfl⟩ e (λz=>nomatch z) h
 | @tup a xs ea=>
  cases (show u=Value.ref a from rx)
  obtain⟨_,_,_,p⟩:=(show qK X.prog X.w H s.heap a (.tup xs) from I.hok a _ ea)
  obtain⟨o,h1,h2,_⟩:=p
  exact zaP PySem.W.kitx_tuple I.kIn ⟨o,h1,h2⟩ e (λz=>nomatch z) h
 | @dK a kvs ea=>
  cases (show u=Value.ref a from rx)
  obtain⟨_,_,vs,_,p⟩:=(show qK X.prog X.w H s.heap a (.dK kvs) from I.hok a _ ea)
  obtain⟨o,es,ep,h1,h2,_⟩:=p
  exact zaP zdL I.kIn ⟨o,h1,h2.1⟩ e (λz=>nomatch z) h
 | @dT a kvs ea=>
  cases (show u=Value.ref a from rx)
  obtain⟨_,_,xs,_,o,es,ep,h1,h2,_⟩:=(show qK X.prog X.w H s.heap a (.dT kvs) from I.hok a _ ea)
  exact zaP zdL I.kIn ⟨o,h1,h2.1⟩ e (λz=>nomatch z) h
 | @ins a C dx fs ea cl ha hn htk hm=>
  cases (show u=Value.ref a from rx)
  obtain⟨mA,O,_⟩:=YX I.hok ea
  obtain⟨od,J,_⟩:=O.look
  exact zaP (PySem.W.kitx_own (cl.get _) cl.hd ha hn htk hm) I.kIn J e (λz=>nomatch z) h
end
structure qU(k:Nat)(A:Around):Prop where
 hd:A.handled=none
 dp:A.depth+3*k+5 < recursionLimit
 un:A.units+16*k+200 < cLine
 gd:A.guards=some []
theorem qU.mono{j k:Nat}{A:Around}(r:qU k A)(h:j<=k):qU j A:=⟨r.hd,by have:=r.dp;omega,by have:=r.un;omega,r.gd⟩
theorem qU.deeper{k:Nat}{A:Around}(r:qU (k+1) A)(env:Env):qU k (A.deeper env):=
 ⟨r.hd,by have:=r.dp;show A.depth+1+3*k+5 < _;omega,by have:=r.un;show A.units+3+16*k+200 < _;omega,r.gd⟩
theorem qU.in1{k:Nat}{A:Around}(r:qU (k+1) A):qU k A.in1:=
 ⟨r.hd,by have:=r.dp;show A.depth+3*k+5 < _;omega,by have:=r.un;show A.units+1+16*k+200 < _;omega,r.gd⟩
theorem vq{A:Around}{C:Addr}{us:List Value}{kw:List (Str×Value)}:(A.under (.builtin "type.__call__" ⟨.ref C::us,kw⟩)).depth=A.depth+1:=by
 first | rfl | simp [Around.under,Code.weight,Code.isCreation,Code.isGuard,Code.isCaller,Code.frames,Code.isFrame,guardIds]
theorem vp{A:Around}{C:Addr}{us:List Value}{kw:List (Str×Value)}:(A.under (.builtin "type.__call__" ⟨.ref C::us,kw⟩)).units=A.units+1:=by
 first | rfl | simp [Around.under,Code.cUnits,Code.frames,Code.isFrame]
theorem qU.make{k:Nat}{A:Around}(r:qU (k+1) A)(C:Addr)(us:List Value)(kw:List (Str×Value)):qU k (A.under (.builtin "type.__call__" ⟨.ref C::us,kw⟩)):=
 ⟨r.hd,by have:=r.dp;rw[vq];omega,by have:=r.un;rw[vp];omega,(by have:=r.gd;first | exact this | simpa [Around.under,Code.isGuard,guardIds] using this)⟩
theorem qU.depth{k:Nat}{A:Around}(r:qU k A):A.depth < recursionLimit:=by have:=r.dp;omega
theorem qU.units{k:Nat}{A:Around}(r:qU k A):A.units+64 < cLine:=by have:=r.un;omega
def QT:TA:=λ_ H Q=>Q [] H
def jk(ta:TE)(tr:TA):TA:=λσ H Q=>ta σ H λx H1=>tr σ H1 λxs H2=>Q (x::xs) H2
section
variable{X:Cx}{e:Expr}{es:List Expr}{te:TE}{t:TA}{pos:Pos}
theorem qf:JA X [] QT:=.of (by
 exact λ_ _ _ _ H Q I h=>Calls.spliced_nil ⟨[],H,I,.nil,h⟩)
theorem qd(ha:JE X e te)(hr:JA X es t)(hs:starEach (e::es) X.env=(false,eval e X.env)::starEach es X.env:=by rfl):JA X (e::es) (jk te t):=.of (by
 have ha:=ha.to
 have hr:=hr.to
 intro pos pins s σ H Q I h
 rw[hs]
 show wpAny _ _ (spliced ((false,eval e X.env)::backTo pos (starEach es X.env))) _ _ s
 refine Calls.spliced_cons (jf (ha pins s σ H _ I h) λu s1 ⟨x,H1,I1,r1,q1⟩=>?_)
 exact jf (hr pos pins s1 σ H1 _ I1 q1) λus s2 ⟨xs,H2,I2,r2,q2⟩=>⟨x::xs,H2,I2,.cons r1 r2,q2⟩)
def yy(t:TA):TE:=λσ H Q=>t σ H λxs H1=>xs.length<=zeb/\∀p,H1 p=none->Q (.ref p) (upd H1 p (.tup xs))
def qbZ(t:TA):TE:=λσ H Q=>t σ H λxs H1=>xs.length<=zeb/\∀p,H1 p=none->Q (.ref p) (upd H1 p (.lst xs))
theorem jp{x1}(h:JA X es t):JE X (.Tuple es x1 pos) (yy t):=.of (by
 have h:=h.to
 intro pins s σ H Q I hq
 refine wpAny_Tuple_spliced (jf (h pos pins s σ H _ I hq) λus s1 ⟨xs,H1,I1,r,z,q⟩=>⟨by rw[<-r.length];exact z,?_⟩)
 have hf:H1 s1.heap.objs.size=none:=I1.hok.fresh (tz _)
 refine⟨.ref s1.heap.objs.size,upd H1 s1.heap.objs.size (.tup xs),I1.laid (t':=s1.toks) (λb u e=>tu _ e) (tz _) ?_,rfl,q _ hf⟩
 exact⟨z,us,r,⟨_,tV _ rfl,rfl,_,rfl⟩⟩)
theorem jz(h:JA X es t):JE X (.List es pos) (qbZ t):=.of (by
 have h:=h.to
 intro pins s σ H Q I hq
 refine wpAny_List_spliced (jf (h pos pins s σ H _ I hq) λus s1 ⟨xs,H1,I1,r,z,q⟩=>⟨by rw[<-r.length];exact z,?_⟩)
 have hf:H1 s1.heap.objs.size=none:=I1.hok.fresh (tz _)
 refine⟨.ref s1.heap.objs.size,upd H1 s1.heap.objs.size (.lst xs),I1.laid (t':=s1.toks) (λb u e=>tu _ e) (tz _) ?_,rfl,q _ hf⟩
 exact⟨z,us,0,r,tV _ rfl⟩)
end
abbrev Sp:=List V->Hp->VK->XK->Prop
abbrev Y6:=List Env->Hp->Shared->XK->Value->Shared->Prop
structure X4(P:Program)(w:World)(K:zdW)(mg:Str->Option Value)(base:Heap)(A:Around)(outer:List Env)(s:Shared)(H:Hp):Prop where
 frames:A.frames=some outer
 mod:Mod K mg base
 bs:∀b o,base.get? b=some o->s.heap.get? b=some o/\H b=none
 bsz:base.objs.size<=s.heap.objs.size
 funs:s.heap.FunFrames base outer
 frf:∀b∈Yy outer,H b=none
 hok:JN P w H s.heap
 bare:AllBare s.gens
def CE(outer:List Env)(P:Program)(w:World)(H:Hp)(s:Shared)(Q:VK)(u:Value)(s':Shared):Prop:=
 ∃v H',s'.os=s.os/\AllBare s'.gens/\Un (Yy outer) [] H H' s.heap s'.heap/\JN P w H' s'.heap/\qO v u/\Q v H'
def CR(CX:Y6)(outer:List Env)(P:Program)(w:World)(H:Hp)(s:Shared)(Q:VK)(E:XK)(r:Result)(s':Shared):Prop:=
 match r with
 | .ok (.ret u)=>CE outer P w H s Q u s'
 | .ok _=>False
 | .error e=>CX outer H s E e s'
structure qo(P:Program)(w:World)(K:zdW)(mg:Str->Option Value)(base:Heap)(CX:Y6)(k:Nat)(f:Addr)(fd:zea)(ps:List Str)(sp:Sp):Prop where
 len:∀vs H Q E,sp vs H Q E->vs.length=ps.length
 run:∀(A:Around) (outer:List Env) (s:Shared) (H:Hp) (args:Args) (us:List Value) (vs:List V) (Q:VK) (E:XK),qU k A->X4 P w K mg base A outer s H->BindsTo s fd args (ps.zip us)->qG vs us->sp vs H Q E->
  codeAny (model P w) A (.call (.ref f) args) (CR CX outer P w H s Q E) s
theorem qo.imp{P:Program}{w:World}{K:zdW}{mg:Str->Option Value}{base:Heap}{CX:Y6}{k:Nat}{f:Addr}{fd:zea}{ps:List Str}{sp sp':Sp}(F:qo P w K mg base CX k f fd ps sp)
  (h:∀vs H Q E,sp' vs H Q E->sp vs H Q E):qo P w K mg base CX k f fd ps sp':=
 ⟨λvs H Q E q=>F.len vs H Q E (h _ _ _ _ q),λA outer s H args us vs Q E hr he hb hv hs=>F.run A outer s H args us vs Q E hr he hb hv (h _ _ _ _ hs)⟩
theorem X4.make{P:Program}{w:World}{K:zdW}{mg:Str->Option Value}{base:Heap}{A:Around}{outer:List Env}{s:Shared}{H:Hp}(e:X4 P w K mg base A outer s H)(C:Addr)(us:List Value)(kw:List (Str×Value)):
 X4 P w K mg base (A.under (.builtin "type.__call__" ⟨.ref C::us,kw⟩)) outer s H:=⟨by first | exact e.frames | (simpa [Around.under,Code.envs,Code.isFrame,pushEnvs] using e.frames),e.mod,e.bs,e.bsz,e.funs,e.frf,e.hok,e.bare⟩
theorem X4.in1{P:Program}{w:World}{K:zdW}{mg:Str->Option Value}{base:Heap}{A:Around}{outer:List Env}{s:Shared}{H:Hp}(e:X4 P w K mg base A outer s H):
 X4 P w K mg base A.in1 outer s H:=⟨e.frames,e.mod,e.bs,e.bsz,e.funs,e.frf,e.hok,e.bare⟩
section
variable{X:Cx}{pins:List (Addr×Obj)}{σ:St}{H:Hp}{s s':Shared}
theorem qz.env0(I:qz X pins σ H s):X4 X.prog X.w X.K X.mg X.base X.A X.stack s H:=
 ⟨I.ok.frames,I.ok.mod,I.bs,zaa I.ok.bsz I.sz,I.stack,I.stkFree,I.hok,I.bare⟩
theorem qz.after{Q:VK}{u:Value}(I:qz X pins σ H s)(h:CE X.stack X.prog X.w H s Q u s'):EP X pins σ Q u s':=by
 obtain⟨v,H',os,bare,un,hok,r,q⟩:=h
 obtain⟨hh,g,d,t,os'⟩:=s'
 obtain rfl:os'=s.os:=os
 exact⟨v,H',I.call (h':=hh) (g':=g) (d':=d) (t':=t) (ch:=[]) un hok bare (λb z=>absurd z (by simp)),r,q⟩
end
def ZO(sp:Sp)(dvs:List V)(E:XK)(t:TA):TE:=λσ H Q=>t σ H λvs H1=>sp (vs++dvs) H1 Q E
def Wj(C:Addr)(m:Str)(sp:Sp)(dvs:List V)(E:XK)(ta:TE)(t:TA):TE:=λσ H Q=>ta σ H λx H1=>∃a dx fs,x=.ref a/\H1 a=some (.ins C dx fs)/\fs.lookup m=none/\
 t σ H1 λvs H2=>sp (x::(vs++dvs)) H2 Q E
def qau(C:Addr)(sp:Sp)(dvs:List V)(E:XK)(t:TA):TE:=λσ H Q=>t σ H λvs H1=>∀x dx,H1 x=none->H1 dx=none->dx≠x->
 sp (.ref x::(vs++dvs)) (upd (upd H1 dx (.own x)) x (.ins C dx [])) (λv H2=>v=.non/\Q (.ref x) H2) E
def jE(K:zdW)(fd:zea)(ps:List Str)(ds:List Value):Prop:=
 ∀(s:Shared) (us:List Value),K.In s.heap->(us++ds).length=ps.length->BindsTo s fd ⟨us,[]⟩ (ps.zip (us++ds))
theorem jE.all{K:zdW}{fd:zea}{ps:List Str}(h:∀us:List Value,us.length=ps.length->bindArgs fd ⟨us,[]⟩=pure (ps.zip us)):jE K fd ps []:=λs us _ hl=>by
 rw[zan]at hl ⊢
 exact .of_eq (h us hl)
def QD(CX:Y6)(X:Cx)(E:XK):Prop:=∀(pins:List (Addr×Obj)) (σ:St) (H:Hp) (s:Shared) (e:Value) (s':Shared),qz X pins σ H s->CX X.stack H s E e s'->X.xe e s'
section
variable{X:Cx}{CX:Y6}{k:Nat}{f C:Addr}{fd:zea}{ps:List Str}{sp:Sp}{dvs:List V}{ds:List Value}{E:XK}{x m:Str}{p pos apos:Pos}{e o:Expr}{es:List Expr}{ta:TE}{t:TA}
theorem Z0{pins:List (Addr×Obj)}{σ:St}{H:Hp}{s:Shared}{Q:VK}{us:List Value}{vs:List V}(F:qo X.prog X.w X.K X.mg X.base CX k f fd ps sp)(hr:qU k X.A)(hb:jE X.K fd ps ds)(hd:qG dvs ds)(hx:QD CX X E)
  (I:qz X pins σ H s) (r:qG vs us) (h:sp (vs++dvs) H Q E):wpAny (model X.prog X.w) X.A (call (.ref f) us) (EP X pins σ Q) X.xe s:=by
 have r2:qG (vs++dvs) (us++ds):=r.append hd
 have hl:(us++ds).length=ps.length:=by rw[<-r2.length];exact F.len _ _ _ _ h
 refine wpAny_call (codeAny_mono (F.run X.A X.stack s H ⟨us,[]⟩ (us++ds) (vs++dvs) Q E hr I.env0 (hb s us I.kIn hl) r2 h) λr s' hq=>?_)
 cases r with
 | error e=>exact hx pins σ H s e s' I hq
 | ok fl=>
  cases fl with
  | ret u=>exact I.after hq
  | next=>exact False.elim hq
  | brk=>exact False.elim hq
  | cont=>exact False.elim hq
theorem kK(F:qo X.prog X.w X.K X.mg X.base CX k f fd ps sp)(hr:qU k X.A)(hg:Gl X x)(hm:X.mg x=some (.ref f))(hk:zaA X.K (.ref f)=true)(hb:jE X.K fd ps ds)(hd:qG dvs ds)(hx:QD CX X E)
  (ha:PA X (e::es) t) (hdb:(x==("__debug__":Str))=false:=by decide) (he:starEach (e::es) X.env=(false,eval e X.env)::starEach es X.env:=by rfl) (hpl:(backTo pos (starEach es X.env)).any (·.1)=false:=by rfl):
  PE X (.Call (.Name x p) (e::es) [] pos) (ZO sp dvs E t):=by
 intro pins s σ H Q I h
 refine wpAny_Call_Name_kw (zt I hg hm ?_ hdb)
 refine zbi (h₀:=X.base) I.ok.mod.kin hk (jf (ha pos pins s σ H _ I h) λus s1 ⟨vs,H1,I1,r,q⟩=>⟨I1.kIn,?_⟩) he hpl
 exact Z0 F hr hb hd hx I1 r q
theorem Gr{pl:Sem Bool}(he:PE X o ta)(c:X7 X.K C)(hm:We X.K C m f)(F:qo X.prog X.w X.K X.mg X.base CX k f fd ps sp)(hr:qU k X.A)(hb:jE X.K fd ps ds)(hd:qG dvs ds)(hx:QD CX X E)(ha:PA X (e::es) t)
  (hst:starEach (e::es) X.env=(false,eval e X.env)::starEach es X.env:=by rfl) (hpl:(backTo pos (starEach es X.env)).any (·.1)=false:=by rfl)
  (ht:eval (.Call (.Attribute o m apos) (e::es) [] pos) X.env=(do
   let ov <-eval o X.env
   standAt apos.atName
   let (f,first) <-holding [ov] (getMethod ov m pl)
   callWith pos f first (backTo pos (starEach (e::es) X.env)) (backToKw pos (keywordEach [] X.env))):=by rfl):
  PE X (.Call (.Attribute o m apos) (e::es) [] pos) (Wj C m sp dvs E ta t):=by
 intro pins s σ H Q I h
 refine zbP (pl:=pl) (jf (he pins s σ H _ I h) λu s1 ⟨x,H1,I1,rx,a,dx,fs,ex,ea,l,q⟩=>?_) ht
 subst ex
 obtain rfl:u=Value.ref a:=rx
 refine QB I1 ea c hm l ?_
 refine zbi (first:=[.ref a]) (h₀:=X.base) I.ok.mod.kin hm.kp (jf (ha pos pins s1 σ H1 _ I1 q) λus s2 ⟨vs,H2,I2,r,q2⟩=>⟨I2.kIn,?_⟩) hst hpl
 exact Z0 (us:=.ref a::us) (vs:=.ref a::vs) F hr hb hd hx I2 (.cons rfl r) q2
theorem RD{pl:Sem Bool}(he:JE X o ta)(c:X7 X.K C)(hm:We X.K C m f)(F:qo X.prog X.w X.K X.mg X.base CX k f fd ps sp)(hr:qU k X.A)(hb:jE X.K fd ps ds)(hd:qG dvs ds)(hx:QD CX X E)(ha:JA X (e::es) t)(hst:starEach (e::es) X.env=(false,eval e X.env)::starEach es X.env:=by rfl)(hpl:(backTo pos (starEach es X.env)).any (·.1)=false:=by rfl) (ht:eval (.Call (.Attribute o m apos) (e::es) [] pos) X.env=(do
 let ov <-eval o X.env
 standAt apos.atName
 let (f,first) <-holding [ov] (getMethod ov m pl)
 callWith pos f first (backTo pos (starEach (e::es) X.env)) (backToKw pos (keywordEach [] X.env))):=by rfl):JE X (.Call (.Attribute o m apos) (e::es) [] pos) (Wj C m sp dvs E ta t):=.of (Gr he.to c hm F hr hb hd hx ha.to hst hpl ht)
theorem wM{pl:Sem Bool}(he:PE X o ta)(c:X7 X.K C)(hm:We X.K C m f)(F:qo X.prog X.w X.K X.mg X.base CX k f fd ps sp)(hr:qU k X.A)(hb:jE X.K fd ps ds)(hd:qG dvs ds)(hx:QD CX X E)
  (ht:eval (.Call (.Attribute o m apos) [] [] pos) X.env=(do
   let ov <-eval o X.env
   standAt apos.atName
   let (f,first) <-holding [ov] (getMethod ov m pl)
   callWith pos f first (backTo pos (starEach [] X.env)) (backToKw pos (keywordEach [] X.env))):=by rfl):
  PE X (.Call (.Attribute o m apos) [] [] pos) (Wj C m sp dvs E ta QT):=by
 intro pins s σ H Q I h
 refine zbP (pl:=pl) (jf (he pins s σ H _ I h) λu s1 ⟨x,H1,I1,rx,a,dx,fs,ex,ea,l,q⟩=>?_) ht
 subst ex
 obtain rfl:u=Value.ref a:=rx
 refine QB I1 ea c hm l ?_
 exact zcJ (first:=[.ref a]) I1.kIn hm.kp (Z0 (us:=[.ref a]) (vs:=[.ref a]) F hr hb hd hx I1 (.cons rfl .nil) q)
theorem uQ{pl:Sem Bool}(he:JE X o ta)(c:X7 X.K C)(hm:We X.K C m f)(F:qo X.prog X.w X.K X.mg X.base CX k f fd ps sp)(hr:qU k X.A)(hb:jE X.K fd ps ds)(hd:qG dvs ds)(hx:QD CX X E) (ht:eval (.Call (.Attribute o m apos) [] [] pos) X.env=(do
 let ov <-eval o X.env
 standAt apos.atName
 let (f,first) <-holding [ov] (getMethod ov m pl)
 callWith pos f first (backTo pos (starEach [] X.env)) (backToKw pos (keywordEach [] X.env))):=by rfl):JE X (.Call (.Attribute o m apos) [] [] pos) (Wj C m sp dvs E ta QT):=.of (wM he.to c hm F hr hb hd hx ht)
structure Mk(K:zdW)(C f:Addr):Prop where
 makes:zch K C=true
 init:tR K (.ref C) "__init__"=some (some (.ref f))
 fn:zaH K (.ref f)=true
 kp:zaA K (.ref C)=true
theorem wy{pins:List (Addr×Obj)}{σ:St}{H:Hp}{s:Shared}{Q:VK}{us:List Value}{vs:List V}(M:Mk X.K C f)(F:qo X.prog X.w X.K X.mg X.base CX k f fd ps sp)(hr:qU (k+1) X.A)(hb:jE X.K fd ps ds)(hd:qG dvs ds)
  (hx:QD CX X E) (I:qz X pins σ H s) (r:qG vs us)
  (h:∀x dx,H x=none->H dx=none->dx≠x->sp (.ref x::(vs++dvs)) (upd (upd H dx (.own x)) x (.ins C dx [])) (λv H2=>v=.non/\Q (.ref x) H2) E):
  wpAny (model X.prog X.w) X.A (call (.ref C) us) (EP X pins σ Q) X.xe s:=by
 have hq:=h (s.heap.objs.size+1) s.heap.objs.size (I.hok.fresh (zdu _)) (I.hok.fresh (tz _)) (tQ (zaI _))
 have I2:=qz.made (C:=C) I
 have r2:qG (V.ref (s.heap.objs.size+1)::(vs++dvs)) (Value.ref (s.heap.objs.size+1)::(us++ds)):=.cons rfl (r.append hd)
 have hl:(Value.ref (s.heap.objs.size+1)::us++ds).length=ps.length:=by
  have e:=r2.length
  rw[F.len _ _ _ _ hq]at e
  exact e.symm
 refine wpAny_call (uD (f:=f) I.kIn M.makes M.init (beq_iff_eq.mp M.fn) (codeAny_mono (F.run _ X.stack _ _ ⟨Value.ref (s.heap.objs.size+1)::us,[]⟩ (Value.ref (s.heap.objs.size+1)::(us++ds)) _ _ E (hr.make C us [])
  (I2.env0.make C us []) (hb _ (Value.ref (s.heap.objs.size+1)::us) I2.kIn hl) r2 hq) λr s' hq'=>?_))
 cases r with
 | error e=>exact hx pins σ _ _ e s' I2 hq'
 | ok fl=>
  cases fl with
  | ret u=>
   obtain⟨v,H',I3,rv,ev,q3⟩:=I2.after hq'
   subst ev
   exact⟨rv,⟨V.ref (s.heap.objs.size+1),H',I3,rfl,q3⟩⟩
  | next=>exact False.elim hq'
  | brk=>exact False.elim hq'
  | cont=>exact False.elim hq'
theorem JZ(M:Mk X.K C f)(F:qo X.prog X.w X.K X.mg X.base CX k f fd ps sp)(hr:qU (k+1) X.A)(hg:Gl X x)(hm:X.mg x=some (.ref C))(hb:jE X.K fd ps ds)(hd:qG dvs ds)(hx:QD CX X E)(ha:JA X (e::es) t)(hdb:(x==("__debug__":Str))=false:=by decide)(he:starEach (e::es) X.env=(false,eval e X.env)::starEach es X.env:=by rfl)(hpl:(backTo pos (starEach es X.env)).any (·.1)=false:=by rfl):JE X (.Call (.Name x p) (e::es) [] pos) (qau C sp dvs E t):=.of (by
 have ha:=ha.to
 intro pins s σ H Q I h
 refine wpAny_Call_Name_kw (zt I hg hm ?_ hdb)
 refine zbi (h₀:=X.base) I.ok.mod.kin M.kp (jf (ha pos pins s σ H _ I h) λus s1 ⟨vs,H1,I1,r,q⟩=>⟨I1.kIn,?_⟩) he hpl
 exact wy M F hr hb hd hx I1 r q)
end
section
variable{X:Cx}{CX:Y6}{k:Nat}{f C:Addr}{fd:zea}{ps ks:List Str}{sp:Sp}{E:XK}{x m:Str}{p pos apos kpos:Pos}{e o:Expr}{es:List Expr}{kws:List Keyword}{te ta:TE}{t tk:TA}{nm:Option Str}
structure qcP(K:zdW)(fd:zea)(ps ks:List Str)(g:List Value->List Value->List Value)(gV:List V->List V->List V):Prop where
 to:∀(s:Shared) (us ws:List Value),K.In s.heap->(g us ws).length=ps.length->BindsTo s fd ⟨us,ks.zip ws⟩ (ps.zip (g us ws))
 rel:∀{vs:List V} {us:List Value} {zs:List V} {ws:List Value},qG vs us->qG zs ws->qG (gV vs zs) (g us ws)
variable{g:List Value->List Value->List Value}{gV:List V->List V->List V}
end
structure qt(N P:List Str)(sc:Scope):Prop where
 kind:sc.kind=.function
 co:sc.isCoroutine=false
 gen:sc.isGenerator=false
 nd:N.Nodup
 pre:N.take P.length=P
 par:∀x∈P,sc.names.lookup x=some .local\/sc.names.lookup x=some .cell
 nofree:∀y∈sc.names,y.2≠.free
theorem zdV{N P:List Str}{sc:Scope}(kind:sc.kind=.function:=by rfl)(co:sc.isCoroutine=false:=by rfl)(gen:sc.isGenerator=false:=by rfl)(nd:N.Nodup:=by decide+kernel)(pre:N.take P.length=P:=by rfl)(par:∀x∈P,sc.names.lookup x=some .local\/sc.names.lookup x=some .cell:=by decide+kernel)(nofree:∀y∈sc.names,y.2≠.free:=by decide+kernel):qt N P sc:=⟨kind,co,gen,nd,pre,par,nofree⟩
theorem WL{kindOf:Str->Option NameKind}{x:Str}:∀{binds:List (Str×Value)} {m:Str->Option Value},(∀v,(x,v)∉binds)->bindL kindOf binds m x=m x
 | [],_,_=>rfl
 | (n,v)::r,m,h=>by
  unfold bindL
  rw[WL λw hw=>h w (tY _ hw)]
  split
  ·have:x≠n:=by rintro rfl;exact h v t8
   simp [this]
  ·rfl
theorem WN{kindOf:Str->Option NameKind}{x:Str}:∀{binds:List (Str×Value)} {m:Str->Option Value},(∀v,(x,v)∉binds)->bindC kindOf binds m x=m x
 | [],_,_=>rfl
 | (n,v)::r,m,h=>by
  unfold bindC
  rw[WN λw hw=>h w (tY _ hw)]
  split
  ·rfl
  ·have:x≠n:=by rintro rfl;exact h v t8
   simp [this]
theorem WM{kindOf:Str->Option NameKind}{x:Str}{v:Value}:∀{P:List Str} {vs:List Value} {i:Nat} {m:Str->Option Value},P.Nodup->P[i]?=some x->vs[i]?=some v->kindOf x=some .local->
  bindL kindOf (P.zip vs) m x=some v
 | [],_,_,_,_,h,_,_=>by simp at h
 | _::_,[],_,_,_,_,h,_=>by simp at h
 | p::P,w::vs,0,m,nd,h1,h2,hk=>by
  simp at h1 h2;subst h1;subst h2
  show bindL kindOf ((p,w)::P.zip vs) m p=_
  unfold bindL
  rw[WL λv hv=>(zal.mp nd).1 (zbK hv).1,if_pos hk]
  simp
 | p::P,w::vs,i+1,m,nd,h1,h2,hk=>by
  show bindL kindOf ((p,w)::P.zip vs) m x=_
  unfold bindL
  exact WM (i:=i) (zal.mp nd).2 (by simpa using h1) (by simpa using h2) hk
theorem WO{kindOf:Str->Option NameKind}{x:Str}{v:Value}:∀{P:List Str} {vs:List Value} {i:Nat} {m:Str->Option Value},P.Nodup->P[i]?=some x->vs[i]?=some v->kindOf x≠some .local->
  bindC kindOf (P.zip vs) m x=some v
 | [],_,_,_,_,h,_,_=>by simp at h
 | _::_,[],_,_,_,_,h,_=>by simp at h
 | p::P,w::vs,0,m,nd,h1,h2,hk=>by
  simp at h1 h2;subst h1;subst h2
  show bindC kindOf ((p,w)::P.zip vs) m p=_
  unfold bindC
  rw[WN λv hv=>(zal.mp nd).1 (zbK hv).1,if_neg hk]
  simp
 | p::P,w::vs,i+1,m,nd,h1,h2,hk=>by
  show bindC kindOf ((p,w)::P.zip vs) m x=_
  unfold bindC
  exact WO (i:=i) (zal.mp nd).2 (by simpa using h1) (by simpa using h2) hk
def Qd(N:List Str)(vs:List V):St:=vs.map some++zbv (N.length - vs.length) none
def Zd(CX:Y6)(P:Program)(w:World)(K:zdW)(mg:Str->Option Value)(base:Heap)(N:List Str)(qual:Str)(scope:Scope)(f:Addr)(cd:Value)(A:Around)(outer:List Env)(s:Shared)(H:Hp)(E:XK):Cx where
 prog:=P
 w:=w
 K:=K
 mg:=mg
 base:=base
 A:=A.deeper (envOfC qual scope s.heap.objs.size f cd)
 N:=N
 s₀:=s
 H₀:=H
 env:=envOfC qual scope s.heap.objs.size f cd
 outer:=outer
 stack:=envOfC qual scope s.heap.objs.size f cd::outer
 ex:=[]
 calm:=true
 fn:=λ_=>true
 pn:=[]
 xe:=λe s'=>wpAny (model P w) (A.deeper (envOfC qual scope s.heap.objs.size f cd)) (leaving (envOfC qual scope s.heap.objs.size f cd) e) (λ_ s''=>CX outer H s E e s'') (λe' s''=>CX outer H s E e' s'') s'
theorem UD{sc:Scope}{n:Nat}{x:Str}(h:sc.names.lookup x=some .cell):∃c,(cellsFrom n sc.names []).lookup x=some c:=by
 have q:=zcr sc.names n [] (.inl h)
 exact zdc.mp q
theorem WD{CX:Y6}{P:Program}{w:World}{K:zdW}{mg:Str->Option Value}{base:Heap}{N ps:List Str}{qual:Str}{scope:Scope}{f:Addr}{cd:Value}{A:Around}{outer:List Env}{s s1:Shared}{H:Hp}{E:XK}{us:List Value}{vs:List V}
  (S:qt N ps scope) (hd:A.handled=none) (e0:X4 P w K mg base A outer s H) (hl:vs.length=ps.length) (r:qG vs us)
  (x:InCallC s s.heap.objs.size (bindL (envOfC qual scope s.heap.objs.size f cd).kindOf (ps.zip us) λ_=>none) (cellsFrom (s.heap.objs.size+1) scope.names []) (bindC (envOfC qual scope s.heap.objs.size f cd).kindOf (ps.zip us) λ_=>none) s1):
  qz (Zd CX P w K mg base N qual scope f cd A outer s H E) [] (Qd N vs) H s1:=by
 have hpl:ps.length<=N.length:=by have:=congrArg zax S.pre;rw[tW]at this;omega
 obtain⟨h1,tk,rfl,hk⟩:=x.done
 have noA:∀b:Addr,b∉(Zd CX P w K mg base N qual scope f cd A outer s H E).ex:=λb z=>absurd (show b∈([]:List Addr) from z) (by simp)
 refine⟨⟨e0.mod,S.kind,rfl,rfl,tz _,λy z c h1 h2=>?_,λy hy=>?_,λy c _ h=>?_,λ_=>hd,Around.frames_deeper e0.frames,.inr ⟨rfl,rfl⟩,λb z=>absurd z (noA b),e0.bs,e0.bsz,λb _ _=>noA b,λb z=>absurd z (noA b),e0.funs,e0.frf⟩,
  rfl,e0.bare,Un.kept hk,⟨_,x.toInCall.ns,λi y v h1 h2 h3=>?_⟩,λy c h=>⟨_,x.cell y c h⟩,e0.hok.fresh (tz _),λy c h=>?_,λp hp=>absurd (show p∈([]:List (Addr×Obj)) from hp) (by simp),e0.hok.kept hk,?_⟩
 ·exact name_of_addr x.apart (PySem.mem_of_lookup h1) (PySem.mem_of_lookup h2)
 ·have hy:scope.names.lookup y=some .cell\/scope.names.lookup y=some .free:=hy
  rcases hy with hy | hy
  ·exact UD hy
  ·exact absurd rfl (S.nofree _ (PySem.mem_of_lookup hy))
 ·exact zai (x.above y c (PySem.mem_of_lookup h))
 ·have hi:i < vs.length:=by
   unfold Qd at h2
   by_cases hi:i < vs.length
   ·exact hi
   ·rw[zac (by simpa using hi)]at h2
    rw[zde]at h2
    split at h2<;>cases h2
  have ha:vs[i]?=some v:=by
   unfold Qd at h2
   rw[zaf (by simpa using hi),tG]at h2
   cases e:vs[i]? with
   | none=>rw[e]at h2;cases h2
   | some a=>rw[e]at h2;cases h2;rfl
  obtain⟨u,hu,rv⟩:=r.get ha
  have hp:ps[i]?=some y:=by
   rw[<-S.pre,zbB (by omega)];exact h1
  have ndP:ps.Nodup:=by rw[<-S.pre];exact S.nd.sublist (zcY _ _)
  refine⟨u,rv,?_⟩
  rcases S.par y (t9 hp) with k | k
  ·exact .inl ⟨k,WM ndP hp hu k⟩
  ·obtain⟨c,e⟩:=UD (n:=s.heap.objs.size+1) k
   refine .inr ⟨.inl k,c,e,?_⟩
   have q:=x.cell y c e
   rw[WO ndP hp hu (by show scope.names.lookup y≠_;rw[k];decide)]at q
   exact q
 ·exact .inl (e0.hok.fresh (zai (x.above y c (PySem.mem_of_lookup h))))
 ·unfold Qd
  show _=N.length
  rw[tH,tj,zbQ]
  omega
theorem NI{CX:Y6}{P:Program}{w:World}{K:zdW}{mg:Str->Option Value}{base:Heap}{k:Nat}{f:Addr}{name qual:Str}{params:Arguments}{body:List Stmt}{scope:Scope}{dV kV doc pm cdv ct oc:Value}{an od:Option Addr}
  {osl:Array (Option Value)} {N ps:List Str} {sp:Sp} (lk:K.lookup f=some ⟨oc,od,.func (zbk name qual params body scope dV kV doc pm an cdv ct),osl⟩) (hcd:zbE K cdv qual=true) (S:qt N ps scope)
  (len:∀vs H Q E,sp vs H Q E->vs.length=ps.length)
  (hbody:∀(A:Around) (outer:List Env) (s:Shared) (H:Hp) (vs:List V) (Q:VK) (E:XK),qU k (A.deeper (envOfC qual scope s.heap.objs.size f cdv))->sp vs H Q E->
   ∃t,KA (Zd CX P w K mg base N qual scope f cdv A outer s H E) body t/\t {nx:=λ_ H'=>Q .non H',rt:=Q} (Qd N vs) H):
  qo P w K mg base CX (k+1) f (zbk name qual params body scope dV kV doc pm an cdv ct) ps sp:=by
 refine⟨len,λA outer s H args us vs Q E hr e0 hb r hsp=>?_⟩
 have hl:=len _ _ _ _ hsp
 have KX:K.In s.heap:=e0.mod.kin.keeps λb o e=>(e0.bs b o e).1
 have lim:s.heap.NoLimit:=e0.mod.nolimit.keeps λb o e=>(e0.bs b o e).1
 have hkind:∀y∈ps.zip us,scope.names.lookup y.1=some .local\/(scope.names.lookup y.1=some .cell/\((cellsFrom (s.heap.objs.size+1) scope.names []).lookup y.1).isSome=true):=λ⟨n,v⟩ hy=>by
  rcases S.par n (zbK hy).1 with q | q
  ·exact .inl q
  ·exact .inr ⟨q,zcr _ _ _ (.inl q)⟩
 refine codeAny_call_function hr.depth (KX _ _ lk) rfl S.co S.gen rfl (zdF KX hcd) (hb _ _ _ _ ?_)
 refine wpAny_newFunctionEnv_cells S.kind hkind λenv he s1 x=>?_
 subst he
 refine⟨lim.keeps x.toInCall.keep,codeAny_func ?_⟩
 obtain⟨t,ht,hq⟩:=hbody A outer s H vs Q E (hr.deeper _) hsp
 have I:qz (Zd CX P w K mg base N qual scope f cdv A outer s H E) [] (Qd N vs) H s1:=WD S hr.hd e0 hl r x
 refine wpAny_mono (ht [] s1 (Qd N vs) H _ I hq) (λfl s' hs=>?_) λe s' hs=>hs
 have fin:∀{σ':St} {H':Hp} {v:V} {u:Value},qz (Zd CX P w K mg base N qual scope f cdv A outer s H E) [] σ' H' s'->qO v u->Q v H'->CE outer P w H s Q u s':=
  λ{σ' H' v u} J rv q=>⟨v,H',J.os,J.bare,J.base,J.hok,rv,q⟩
 cases fl with
 | ret u=>
  obtain⟨v,σ',H',J,rv,q⟩:=hs
  exact fin J rv q
 | next=>
  obtain⟨σ',H',J,q⟩:=hs
  exact fin (v:=V.non) (u:=Value.none) J rfl q
 | brk=>
  obtain⟨_,_,_,q⟩:=hs
  exact False.elim q
 | cont=>
  obtain⟨_,_,_,q⟩:=hs
  exact False.elim q
section
variable{X:Cx}{x:Str}{p pos:Pos}{e:Expr}{es:List Expr}{t:TA}{id T:String}{r:List V->Hp->VK->Prop}
def Nm(r:List V->Hp->VK->Prop)(t:TA):TE:=λσ H Q=>t σ H λvs H1=>r vs H1 Q
theorem qD(hc:QN X (.builtin id) r)(hg:Gl X x)(hm:X.mg x=none)(hv:bootBuiltins x=some (.builtin id))(ha:JA X (e::es) t)(hn:x≠"__name__":=by decide)(hdb:(x==("__debug__":Str))=false:=by decide)(he:starEach (e::es) X.env=(false,eval e X.env)::starEach es X.env:=by rfl)(hpl:(backTo pos (starEach es X.env)).any (·.1)=false:=by rfl):JE X (.Call (.Name x p) (e::es) [] pos) (Nm r t):=.of (by
 have ha:=ha.to
 intro pins s σ H Q I h
 refine wpAny_Call_Name_kw (Q5 I hg hm hv ?_ hn hdb)
 exact PyProof.Rows.callWith_builtin1 (jf (ha pos pins s σ H _ I h) λus s1 ⟨vs,H1,I1,r1,q1⟩=>hc pins s1 σ H1 vs us Q I1 r1 q1) he hpl)
theorem jB(hc:QN X (.type T) r)(hg:Gl X x)(hm:X.mg x=none)(hv:bootBuiltins x=some (.type T))(ha:JA X (e::es) t)(hn:x≠"__name__":=by decide)(hdb:(x==("__debug__":Str))=false:=by decide)(he:starEach (e::es) X.env=(false,eval e X.env)::starEach es X.env:=by rfl)(hpl:(backTo pos (starEach es X.env)).any (·.1)=false:=by rfl):JE X (.Call (.Name x p) (e::es) [] pos) (Nm r t):=.of (by
 have ha:=ha.to
 intro pins s σ H Q I h
 refine wpAny_Call_Name_kw (Q5 I hg hm hv ?_ hn hdb)
 exact PyProof.Rows.callWith_type1 (jf (ha pos pins s σ H _ I h) λus s1 ⟨vs,H1,I1,r1,q1⟩=>hc pins s1 σ H1 vs us Q I1 r1 q1) he hpl)
end
end L2
namespace HT
open PySem PyProof.Rows
section
open PySem.SeqAt
open PySem.AutoSeq1 (wpAny_loadPart')
open PySem.MeetsSeq PySem.MeetsSeq2 PySem.MeetsSeq3
end
section
variable{prog:Program}{w:World}{A:Around}{E:Value->Shared->Prop}{s:Shared}
theorem cat_tup{t b:Addr}{vs ws:List Value}{Q:Value->Shared->Prop}(ht:IsTup s.heap t vs.toArray)(hb:IsTup s.heap b ws.toArray)(hv:vs≠[])
  (h1:ws=[]->Q (.ref t) s) (h2:ws≠[]->Q (.ref s.heap.objs.size) {s with heap:=s.heap.push {cls:=.type "tuple",data:=.seq (vs++ws).toArray}})
  (hsz:vs.length+ws.length<=zeb):wpAny (model prog w) A (binaryOp .Add (.ref t) (.ref b)) Q E s:=by
 obtain⟨⟨cls,dd,data,sl⟩,ho,hc,n,hd⟩:=id ht
 obtain⟨⟨cls2,dd2,data2,sl2⟩,ho2,hc2,n2,hd2⟩:=id hb
 simp only at hc hd hc2 hd2
 subst hc hd hc2 hd2
 have e:vs.toArray++ws.toArray=(vs++ws).toArray:=by simp
 by_cases hw:ws=[]
 ·exact concat_meets ⟨_,ho,rfl⟩ ⟨_,ho2,rfl⟩ noFill_tuple_add seq_tuple_add zcs zco (zcd _ _)
   (tuple_addW1 t b vs.toArray ws.toArray n n2 dd dd2 sl sl2 (by simpa using hv) (by simp [hw])) ⟨ho,ho2,h1 hw⟩
 ·refine concat_meets ⟨_,ho,rfl⟩ ⟨_,ho2,rfl⟩ noFill_tuple_add seq_tuple_add zcs zco (zcd _ _)
   (tuple_addW2 t b vs.toArray ws.toArray n n2 dd dd2 sl sl2 (by simpa using hv) (by simpa using hw) (by rw[tZ,tZ];exact hsz)) ⟨ho,ho2,?_⟩
  rw[e]
  exact h2 hw
def sIx(n d:Nat):Option Int->Nat
 | none=>d
 | some v=>if v < 0 then (v+(n:Int)).toNat else min v.toNat n
theorem sIx_none(n d:Nat):sIx n d none=d:=rfl
theorem sIx_nat(n d k:Nat):sIx n d (some (k:Int))=min k n:=by
 show (if (k:Int) < 0 then ((k:Int)+(n:Int)).toNat else min (k:Int).toNat n)=min k n
 rw[if_neg (by omega),zaT]
end
end HT
namespace L2
open PySem PySem.Spec PyProof.Rows
abbrev TO:=St->Hp->(Option Int->Hp->Prop)->Prop
def PO(X:Cx)(e:Option Expr)(t:TO):Prop:=
 ∀(pins:List (Addr×Obj)) (s:Shared) (σ:St) (H:Hp) (Q:Option Int->Hp->Prop),qz X pins σ H s->t σ H Q->
  wpAny (model X.prog X.w) X.A (evalPart e X.env) (λu s'=>∃o H',qz X pins σ H' s'/\IsPart u o/\Q o H') X.xe s
@[irreducible] def JO (X:Cx) (e:Option Expr) (t:TO):Prop:=PO X e t
theorem JO.of{X:Cx}{e:Option Expr}{t:TO}(h:PO X e t):JO X e t:=by unfold JO;exact h
theorem JO.to{X:Cx}{e:Option Expr}{t:TO}(h:JO X e t):PO X e t:=by unfold JO at h;exact h
def KM:TO:=λ_ H Q=>Q none H
def qaq(t:TE):TO:=λσ H Q=>t σ H λx H1=>∃i,x=.int i/\Q (some i) H1
theorem vy{ns:List Int}:∀{us:List Value},qG (ns.map V.int) us->IntsAre us ns:=by
 induction ns with
 | nil=>intro us r;rw[zct]at r;cases r;exact .nil
 | cons n ns ih=>
  intro us r
  rw[tU]at r
  cases r with
  | cons r1 r2=>
   obtain⟨t,e⟩:=r1
   subst e
   exact .cons n t (ih r2)
section
variable{X:Cx}{e:Expr}{te:TE}{lo hi:Option Expr}{tl th:TO}{pos p2:Pos}
theorem ZD:JO X none KM:=.of (by
 intro pins s σ H Q I h
 rw[evalPart_none]
 exact zdZ ⟨none,H,I,.none,h⟩)
theorem ZC(h:JE X e te):JO X (some e) (qaq te):=.of (by
 have h:=h.to
 intro pins s σ H Q I hw
 rw[evalPart_some]
 refine jf (h pins s σ H _ I hw) λu s1 ⟨x,H1,I1,r1,q1⟩=>?_
 obtain⟨i,rfl,q⟩:=q1
 obtain⟨t,rfl⟩:=r1
 exact⟨some i,H1,I1,.int i t,q⟩)
def SlR(X:Cx)(r:V->Option Int->Option Int->Hp->VK->Prop):Prop:=
 ∀(pins:List (Addr×Obj)) (s:Shared) (σ:St) (H:Hp) (x:V) (v vl vu:Value) (lo hi:Option Int) (sl:Addr) (Q:VK),qz X pins σ H s->qO x v->s.heap.IsSliceOf sl vl vu .none->IsPart vl lo->IsPart vu hi->r x lo hi H Q->
  ∃T id,typeLookup (.type T) "__getitem__"=pure (some (.builtin id))/\s.TypeIs v T/\wpAny (model X.prog X.w) X.A (getItem v (.ref sl)) (EP X pins σ Q) X.xe s
def tSl(r:V->Option Int->Option Int->Hp->VK->Prop)(te:TE)(tl th:TO):TE:=λσ H Q=>te σ H λx H1=>tl σ H1 λl H2=>th σ H2 λu H3=>r x l u H3 Q
theorem JF{r:V->Option Int->Option Int->Hp->VK->Prop}(hr:SlR X r)(he:JE X e te)(hl:JO X lo tl)(hu:JO X hi th):JE X (.Subscript e (.Slice lo hi none p2) pos) (tSl r te tl th):=.of (by
 have he:=he.to
 have hl:=hl.to
 have hu:=hu.to
 intro pins s σ H Q I h
 refine Subscript_ (jf (he pins s σ H _ I h) λv s1 ⟨x,H1,I1,r1,q1⟩=>?_)
 refine wpAny_Slice (jf (hl pins s1 σ H1 _ I1 q1) λvl s2 ⟨l,H2,I2,pl,q2⟩=>jf (hu pins s2 σ H2 _ I2 q2) λvu s3 ⟨u,H3,I3,pu,q3⟩=>?_)
 rw[evalPart_none]
 refine zdZ ?_
 have I4:qz X pins σ H3 {s3 with heap:=s3.heap.push {cls:=.type "slice",data:=.fields #[vl,vu,.none]}}:=I3.kept (t':=s3.toks) λb ob q=>tu _ q
 obtain⟨T,id,hT,ht,hg⟩:=hr pins {s3 with heap:=s3.heap.push {cls:=.type "slice",data:=.fields #[vl,vu,.none]}} σ H3 x v vl vu l u s3.heap.objs.size Q I4 r1 (Heap.IsSliceOf.new ..) pl pu q3
 show wpAny (model X.prog X.w) X.A (subscriptTail e (.Slice lo hi none p2) v (.ref s3.heap.objs.size)) (EP X pins σ Q) X.xe {s3 with heap:=s3.heap.push {cls:=.type "slice",data:=.fields #[vl,vu,.none]}}
 exact tail_any (ops:=[.ref s3.heap.objs.size,v]) ht hT hg (by with_unfolding_all rfl))
def Yz(xs:List V)(lo hi:Option Int):List V:=(xs.drop (HT.sIx xs.length 0 lo)).take (HT.sIx xs.length xs.length hi - HT.sIx xs.length 0 lo)
theorem UB(xs:List V)(lo hi:Option Int):(Yz xs lo hi).length<=xs.length:=by
 unfold Yz
 rw[tW,zdf]
 omega
theorem qG.nil_iff{xs:List V}{us:List Value}(r:qG xs us):us=[]↔xs=[]:=by
 cases r with
 | nil=>simp
 | cons _ _=>simp
end
def RI(n:Nat)(i:Int):Option Nat:=if 0<=i then (if i < n then some i.toNat else none) else if -(n:Int)<=i then some (i+n).toNat else none
def vG{α:Type}(xs:List α)(i:Int):Option α:=(RI xs.length i).bind λj=>xs[j]?
theorem kX{n:Nat}{i:Int}{j:Nat}(h:RI n i=some j):seqIndex? i n=some j/\j < n/\-(n:Int)<=i/\i < n:=by
 unfold RI at h
 by_cases h0:0<=i
 ·rw[if_pos h0]at h
  by_cases h1:i < n
  ·rw[if_pos h1]at h
   have e:i.toNat=j:=tO.inj h
   exact⟨by rw[seqIndex_of h0 h1,e],by omega,by omega,h1⟩
  ·rw[if_neg h1]at h;cases h
 ·rw[if_neg h0]at h
  by_cases h1:-(n:Int)<=i
  ·rw[if_pos h1]at h
   have e:(i+n).toNat=j:=tO.inj h
   exact⟨by rw[seqIndex_neg (by omega) h1,e],by omega,h1,by omega⟩
  ·rw[if_neg h1]at h;cases h
theorem atI_get{α:Type}{xs:List α}{i:Int}{v:α}(h:vG xs i=some v):∃j,seqIndex? i xs.length=some j/\xs[j]?=some v/\j < xs.length/\-(xs.length:Int)<=i/\i < xs.length:=by
 unfold vG at h
 cases e:RI xs.length i with
 | none=>rw[e]at h;cases h
 | some j=>
  rw[e]at h
  obtain⟨h1,h2,h3,h4⟩:=kX e
  exact⟨j,h1,h,h2,h3,h4⟩
theorem Y4{α:Type}{xs:List α}{j:Nat}{v:α}(h:xs[j]?=some v):vG xs (j:Int)=some v:=by
 have hj:j < xs.length:=(tw.mp h).1
 have e:RI xs.length (j:Int)=some j:=by
  unfold RI
  rw[if_pos (by omega),if_pos (by omega)];simp
 unfold vG;rw[e];exact h
def Na(b:Expr):Prop:=∀o i,subscripted b false o i=operate [o,i] (getItem o i)
def IxR(X:Cx)(r:R2):Prop:=
 ∀(value slice:Expr) (pins:List (Addr×Obj)) (s:Shared) (σ:St) (H:Hp) (x y:V) (v u:Value) (Q:VK),qz X pins σ H s->qO x v->qO y u->r x y H Q->
  subscripted slice false v u=operate [v,u] (getItem v u)->wpAny (model X.prog X.w) X.A (subscriptTail value slice v u) (EP X pins σ Q) X.xe s
def MtR(X:Cx)(id:String)(r:V->List V->Hp->VK->Prop):Prop:=
 ∀(pins:List (Addr×Obj)) (s:Shared) (σ:St) (H:Hp) (x:V) (xs:List V) (v:Value) (us:List Value) (Q:VK),qz X pins σ H s->qO x v->qG xs us->r x xs H Q->
  wpAny (model X.prog X.w) X.A (call (.builtin id) (v::us)) (EP X pins σ Q) X.xe s
section
variable{X:Cx}{a b:Expr}{ta tb:TE}{pos:Pos}
theorem qT{r:R2}(hr:IxR X r)(ha:JE X a ta)(hb:JE X b tb)(hs:Na b):JE X (.Subscript a b pos) (Yu r ta tb):=.of (by
 have ha:=ha.to
 have hb:=hb.to
 intro pins s σ H Q I h
 exact Subscript_ (M5 ha hb I h λv u s2 x y H2 I2 rx ry q=>hr a b pins s2 σ H2 x y v u Q I2 rx ry q (hs _ _)))
def Ma(K:zdW):R2:=λx y H Q=>∃p xs i v,x=.ref p/\y=.int i/\SqL K H p xs/\vG xs i=some v/\Q v H
def zT(K:zdW):R2:=λx y H Q=>∃p xs i v,x=.ref p/\y=.int i/\Y5 K H p xs/\vG xs i=some v/\Q v H
def qcm:R2:=λx y H Q=>∃z i c,x=.str z/\y=.int i/\z.length<=zeb/\vG z.cps.toList i=some c/\Q (.str ⟨#[c]⟩) H
theorem QF:IxR X (Ma X.K):=by
 intro value slice pins s σ H x y v u Q I rx ry h hs
 obtain⟨p,xs,i,z,rfl,rfl,hq,he,q⟩:=h
 cases rx
 obtain⟨t,rfl⟩:=ry
 obtain⟨its,r,pl,hz⟩:=I.list hq
 obtain⟨j,h1,h2,h3,h4,h5⟩:=atI_get he
 obtain⟨w,ew,rw'⟩:=r.get h2
 have hl:=r.length
 have hn:=z6
 have fin:EP X pins σ Q w s:=⟨z,H,I,rw',q⟩
 by_cases h0:0<=i
 ·have hj:i.toNat=j:=by
   rw[seqIndex_of h0 h5]at h1
   exact tO.inj h1
  exact item_listR pl.isList h0 (by omega) (by rw[hj];simpa using ew) fin hs
 ·have hj:(i+(its.toArray.size:Int)).toNat=j:=by
   rw[seqIndex_neg (by omega) h4]at h1
   rw[tZ,<-hl]
   exact tO.inj h1
  exact subscriptTail_builtinR (x:=w) pl.isList.typeIs slot_list_getitem.lookup
   (wpAny_getItem_list_neg (Q:=λr s'=>r=w/\EP X pins σ Q r s') pl.isList (by omega) (by rw[tZ]<;>omega) (by omega) (by rw[hj];simpa using ew) ⟨rfl,fin⟩) hs
theorem qR:IxR X (zT X.K):=by
 intro value slice pins s σ H x y v u Q I rx ry h hs
 obtain⟨p,xs,i,z,rfl,rfl,hq,he,q⟩:=h
 cases rx
 obtain⟨t,rfl⟩:=ry
 obtain⟨its,r,pl,hz⟩:=I.tuple hq
 obtain⟨j,h1,h2,h3,h4,h5⟩:=atI_get he
 obtain⟨w,ew,rw'⟩:=r.get h2
 have hl:=r.length
 have hn:=z6
 have fin:EP X pins σ Q w s:=⟨z,H,I,rw',q⟩
 exact subscriptTail_builtinR (x:=w) pl.typeIs slot_tuple_getitem.lookup
  (getItem_tuple (j:=j) (Q:=λr s'=>r=w/\EP X pins σ Q r s') pl (by omega) (by omega) (by rw[tZ,<-hl];exact h1) (by simpa using ew) ⟨rfl,fin⟩) hs
theorem uV:IxR X qcm:=by
 intro value slice pins s σ H x y v u Q I rx ry h hs
 obtain⟨z,i,c,rfl,rfl,hz,he,q⟩:=h
 obtain⟨t,rfl⟩:=rx
 obtain⟨t',rfl⟩:=ry
 obtain⟨j,h1,h2,h3,h4,h5⟩:=atI_get he
 have hl:z.cps.toList.length=z.length:=by simp [Str.length]
 rw[hl]at h1 h4 h5
 have hn:=z6
 exact tail_any (typeIs_str s z t) slot_str_getitem.lookup (getItem_str (c:=c) (by
  have e1:decide (i < -(2^63:Int))=false:=decide_eq_false (by omega)
  have e2:decide (i ≥ 2^63)=false:=decide_eq_false (by omega)
  rw[e1,e2,Bool.or_false]) (by rw[h1];simpa using h2) ⟨.str ⟨#[c]⟩,H,I.tok _,⟨_,rfl⟩,q⟩) hs
theorem vo(its:List Value)(n j:Nat)(u:Value):Obj.mapSeq (·.setIfInBounds j u) {cls:=.type "list",data:=.seq its.toArray n}={cls:=.type "list",data:=.seq (its.set j u).toArray n}:=by
 simp [Obj.mapSeq]
theorem qz.lst{pins:List (Addr×Obj)}{σ:St}{H:Hp}{s:Shared}{p:Addr}{xs:List V}(I:qz X pins σ H s)(h:H p=some (.lst xs)):
  ∃(its:List Value) (n:Nat),qG xs its/\s.heap.get? p=some {cls:=.type "list",data:=.seq its.toArray n}/\xs.length<=zeb:=by
 obtain⟨z,its,n,r,e⟩:=I.hok p _ h
 exact⟨its,n,r,e,z⟩
theorem qz.lstUpd{pins:List (Addr×Obj)}{σ:St}{H:Hp}{s:Shared}{p:Addr}{xs ys:List V}{its its':List Value}{n n':Nat}{f:Obj->Obj}(I:qz X pins σ H s)(h:H p=some (.lst xs))
  (ho:s.heap.get? p=some {cls:=.type "list",data:=.seq its.toArray n}) (hf:f {cls:=.type "list",data:=.seq its.toArray n}={cls:=.type "list",data:=.seq its'.toArray n'}) (r:qG ys its') (hz:ys.length<=zeb) (t:Nat):
  qz X pins σ (upd H p (.lst ys)) {s with heap:=s.heap.update p f,toks:=t}:=by
 have e:(s.heap.update p f).get? p=some {cls:=.type "list",data:=.seq its'.toArray n'}:=by
  rw[zaG f ho (by rw[hf]<;>rfl),hf]
 refine I.write (x:=p) (e:=p) (by rw[h];trivial) (.inl rfl) (λb u hb q=>(zak _ _ (Ne.symm hb)).trans q) ⟨_,e⟩ ?_
 exact⟨hz,its',n',r,e⟩
def qaS:V->V->V->Hp->(Hp->Prop)->Prop:=λo i v H Q=>∃p xs k j,o=.ref p/\i=.int k/\H p=some (.lst xs)/\RI xs.length k=some j/\Q (upd H p (.lst (xs.set j v)))
theorem wj:qaa X qaS:=by
 intro pins s σ H o i v ov iv u Q I ro ri rv h
 obtain⟨p,xs,k,j,rfl,rfl,hp,hj,q⟩:=h
 cases ro
 obtain⟨t,rfl⟩:=ri
 obtain⟨its,n,r,ho,hz⟩:=I.lst hp
 obtain⟨h1,h2,h3,h4⟩:=kX hj
 have hl:=r.length
 have hn:=z6
 have I':qz X pins σ (upd H p (.lst (xs.set j v))) {s with heap:=s.heap.update p (Obj.mapSeq (·.setIfInBounds j u))}:=
  I.lstUpd hp ho (vo its n j u) (r.set rv j) (by rw[zbL];exact hz) s.toks
 by_cases h0:0<=k
 ·have hk:k.toNat=j:=by
   rw[seqIndex_of h0 h4]at h1
   exact tO.inj h1
  exact PySem.W.ki_setAt ho h0 (by omega) (by rw[tZ,<-hl];exact h4) (by rw[hk];exact⟨_,I',q⟩)
 ·have hk:(k+(its.toArray.size:Int)).toNat=j:=by
   rw[seqIndex_neg (by omega) h3]at h1
   rw[tZ,<-hl]
   exact tO.inj h1
  exact PySem.W.ki_setBack ho (by omega) (by rw[tZ,<-hl];exact h3) (by omega) (by rw[hk];exact⟨_,I',q⟩)
theorem WZ(lo hi:Option Int)(n:Nat):(sliceBounds lo hi none n).1=((HT.sIx n 0 lo:Nat):Int)/\(sliceBounds lo hi none n).2.1=((HT.sIx n n hi:Nat):Int)/\(sliceBounds lo hi none n).2.2=1:=by
 refine⟨?_,?_,rfl⟩
 ·cases lo with
  | none=>simp [sliceBounds,HT.sIx]
  | some i=>
   simp only[sliceBounds,HT.sIx,zdS,show (1:Int) > 0 by decide,if_true]
   by_cases h:i < 0
   ·simp only[h,if_true]<;>omega
   ·simp only[h,if_false]<;>omega
 ·cases hi with
  | none=>simp [sliceBounds,HT.sIx]
  | some i=>
   simp only[sliceBounds,HT.sIx,zdS,show (1:Int) > 0 by decide,if_true]
   by_cases h:i < 0
   ·simp only[h,if_true]<;>omega
   ·simp only[h,if_false]<;>omega
theorem Wa(its:List Value)(lo hi:Option Int):slicePick its.toArray lo hi none=((its.drop (HT.sIx its.length 0 lo)).take (HT.sIx its.length its.length hi - HT.sIx its.length 0 lo)).toArray:=by
 obtain⟨h1,h2,h3⟩:=WZ lo hi its.toArray.size
 unfold slicePick
 rw[h1,h2,h3]
 simp only[sliceRange_one,pick_run,tZ]<;>rfl
def qcl(K:zdW):V->Option Int->Option Int->Hp->VK->Prop:=λx lo hi H Q=>∃a xs,x=.ref a/\SqL K H a xs/\∀p,H p=none->Q (.ref p) (upd H p (.lst (Yz xs lo hi)))
theorem YM:SlR X (qcl X.K):=by
 intro pins s σ H x v vl vu lo hi sl Q I rx hs pl pu h
 obtain⟨a,xs,rfl,hx,q⟩:=h
 cases rx
 obtain⟨its,r,ht,hz⟩:=I.list hx
 have hlen:=r.length
 refine⟨"list",_,slot_list_getitem.lookup,ht.isList.typeIs,?_⟩
 refine wpAny_getItem_list_slice ht.isList hs pl pu .none (by simp) ?_ (by rw[tZ]<;>omega)
 rw[Wa,<-hlen]
 refine⟨.ref s.heap.objs.size,_,I.laid (t':=s.toks) (o:=.lst (Yz xs lo hi)) (λb ob q=>tu _ q) (tz _) ?_,rfl,q _ (I.hok.fresh (tz _))⟩
 exact⟨zaa (UB xs lo hi) hz,_,0,(r.drop (HT.sIx xs.length 0 lo)).take (HT.sIx xs.length xs.length hi - HT.sIx xs.length 0 lo),tV _ rfl⟩
def ZT:V->Bool
 | .non=>true
 | .bl _=>true
 | .int _=>true
 | .str _=>true
 | _=>false
def RV:V->V->Bool
 | .non,.non=>true
 | .bl a,.bl b=>a==b
 | .bl a,.int b=>(if a then 1 else 0)==b
 | .int a,.bl b=>a==(if b then 1 else 0)
 | .int a,.int b=>a==b
 | .str a,.str b=>a==b
 | _,_=>false
theorem M3{A:Around}{s:Shared}{y x:V}{u v:Value}(ry:qO y u)(rx:qO x v)(fy:ZT y=true)(fx:ZT x=true):SeqAt.EqAt A s u v (RV y x):=by
 cases y with
 | non=>
  cases ry
  cases x with
  | non=>cases rx;exact SeqAt.EqAt.same _
  | bl b=>cases rx;exact SeqAt.EqAt.none_bool b
  | int b=>obtain⟨t,rfl⟩:=rx;exact SeqAt.EqAt.none_int b t
  | str b=>obtain⟨t,rfl⟩:=rx;exact SeqAt.EqAt.none_str b t
  | _=>exact absurd (show false=true from fx) tN
 | bl a=>
  cases ry
  cases x with
  | non=>cases rx;exact SeqAt.EqAt.bool_none a
  | bl b=>cases rx;exact SeqAt.EqAt.bool_bool a b
  | int b=>obtain⟨t,rfl⟩:=rx;exact SeqAt.EqAt.bool_int a b t
  | str b=>obtain⟨t,rfl⟩:=rx;exact SeqAt.EqAt.bool_str a b t
  | _=>exact absurd (show false=true from fx) tN
 | int a=>
  obtain⟨t',rfl⟩:=ry
  cases x with
  | non=>cases rx;exact SeqAt.EqAt.int_none a t'
  | bl b=>cases rx;exact SeqAt.EqAt.int_bool a t' b
  | int b=>obtain⟨t,rfl⟩:=rx;exact SeqAt.EqAt.int_int a t' b t
  | str b=>obtain⟨t,rfl⟩:=rx;exact SeqAt.EqAt.int_str a t' b t
  | _=>exact absurd (show false=true from fx) tN
 | str a=>
  obtain⟨t',rfl⟩:=ry
  cases x with
  | non=>cases rx;exact SeqAt.EqAt.str_none a t'
  | bl b=>cases rx;exact SeqAt.EqAt.str_bool a t' b
  | int b=>obtain⟨t,rfl⟩:=rx;exact SeqAt.EqAt.str_int a t' b t
  | str b=>obtain⟨t,rfl⟩:=rx;exact SeqAt.EqAt.str_str a t' b t
  | _=>exact absurd (show false=true from fx) tN
 | _=>exact absurd (show false=true from fy) tN
def vC(x:V)(u:Value):Bool:=match u with
 | .none=>RV .non x
 | .bool b=>RV (.bl b) x
 | .int i _=>RV (.int i) x
 | .str z _=>RV (.str z) x
 | _=>false
theorem Kd{x y:V}{u:Value}(r:qO y u)(f:ZT y=true):vC x u=RV y x:=by
 cases y with
 | non=>cases r;rfl
 | bl b=>cases r;rfl
 | int i=>obtain⟨t,rfl⟩:=r;rfl
 | str z=>obtain⟨t,rfl⟩:=r;rfl
 | _=>exact absurd (show false=true from f) tN
theorem zD{x:V}:∀{xs:List V} {us:List Value},qG xs us->xs.all ZT=true->us.any (vC x)=xs.any λy=>RV y x
 | _,_,.nil,_=>rfl
 | y::xs,u::us,.cons r t,f=>by
  rw[zdd,zar]at f
  rw[zcD,zcD,Kd r f.1,zD t f.2]
theorem Zn{A:Around}{s:Shared}{x:V}{v:Value}(rx:qO x v)(fx:ZT x=true):∀{xs:List V} {us:List Value},qG xs us->xs.all ZT=true->∀u∈us,SeqAt.EqAt A s u v (vC x u)
 | _,_,.nil,_=>λu hu=>by cases hu
 | y::xs,u::us,.cons r t,f=>λu' hu=>by
  rw[zdd,zar]at f
  rcases tS.mp hu with rfl | hu
  ·rw[Kd r f.1];exact M3 r rx f.1 fx
  ·exact Zn rx fx t f.2 u' hu
def ZF(x:V)(xs:List V):Bool:=xs.any λy=>RV y x
def rIn(K:zdW)(neg:Bool):R2:=λx y H Q=>∃p xs,y=.ref p/\(SqL K H p xs\/Y5 K H p xs)/\ZT x=true/\xs.all ZT=true/\Q (.bl (if neg then !ZF x xs else ZF x xs)) H
theorem Jz:Zf X (compareOp .In) (rIn X.K false):=by
 intro pins s σ H x y v u Q I rx ry h
 obtain⟨p,xs,rfl,hq,fx,fs,q⟩:=h
 cases ry
 rcases hq with hq | hq
 ·obtain⟨its,r,pl,hz⟩:=I.list hq
  refine SeqAt.in_listAt (vC x) pl.isList (λw hw=>Zn rx fx r fs w (by simpa using hw)) ⟨.bl _,H,I,rfl,?_⟩
  rw[show its.toArray.any (vC x)=its.any (vC x) by simp,zD r fs]
  exact q
 ·obtain⟨its,r,pl,hz⟩:=I.tuple hq
  refine SeqAt.in_tupleAt (vC x) pl (λw hw=>Zn rx fx r fs w (by simpa using hw)) ⟨.bl _,H,I,rfl,?_⟩
  rw[show its.toArray.any (vC x)=its.any (vC x) by simp,zD r fs]
  exact q
theorem JR:Zf X (compareOp .NotIn) (rIn X.K true):=by
 intro pins s σ H x y v u Q I rx ry h
 obtain⟨p,xs,rfl,hq,fx,fs,q⟩:=h
 cases ry
 rcases hq with hq | hq
 ·obtain⟨its,r,pl,hz⟩:=I.list hq
  refine SeqAt.notIn_listAt (vC x) pl.isList (λw hw=>Zn rx fx r fs w (by simpa using hw)) ⟨.bl _,H,I,rfl,?_⟩
  rw[show its.toArray.any (vC x)=its.any (vC x) by simp,zD r fs]
  exact q
 ·obtain⟨its,r,pl,hz⟩:=I.tuple hq
  refine SeqAt.notIn_tupleAt (vC x) pl (λw hw=>Zn rx fx r fs w (by simpa using hw)) ⟨.bl _,H,I,rfl,?_⟩
  rw[show its.toArray.any (vC x)=its.any (vC x) by simp,zD r fs]
  exact q
theorem qZ:QN X (.builtin "len") (λxs H Q=>∃p ys,xs=[.ref p]/\(SqL X.K H p ys\/Y5 X.K H p ys)/\Q (.int ys.length) H):=by
 intro pins s σ H xs us Q I r h
 obtain⟨p,ys,rfl,hq,q⟩:=h
 obtain⟨u,rfl,rx⟩:=Js r
 cases rx
 have hn:=z6
 rcases hq with hq | hq
 ·obtain⟨its,r',pl,hz⟩:=I.list hq
  have hlen:=r'.length
  exact Calls.call_len_list pl.isList (by simp only[tZ]<;>omega) ⟨.int ys.length,H,I.tok _,⟨s.toks+1,by rw[tZ,hlen]⟩,q⟩
 ·obtain⟨its,r',pl,hz⟩:=I.tuple hq
  have hlen:=r'.length
  exact len_tuple pl (by simp only[tZ]<;>omega) ⟨.int ys.length,H,I.tok _,⟨s.toks+1,by rw[tZ,hlen]⟩,q⟩
theorem J8:QN X (.builtin "len") (λxs H Q=>∃z,xs=[.str z]/\z.length<=zeb/\Q (.int z.length) H):=by
 intro pins s σ H xs us Q I r h
 obtain⟨z,rfl,hz,q⟩:=h
 obtain⟨u,rfl,t,rfl⟩:=Js r
 have hn:=z6
 exact len_str (by omega) ⟨.int z.length,H,I.tok _,⟨_,rfl⟩,q⟩
theorem Qs:QN X (.type "list") (λxs H Q=>∃p ys,xs=[.ref p]/\(SqL X.K H p ys\/Y5 X.K H p ys)/\∀l,H l=none->Q (.ref l) (upd H l (.lst ys))):=by
 intro pins s σ H xs us Q I r h
 obtain⟨p,ys,rfl,hq,q⟩:=h
 obtain⟨u,rfl,rx⟩:=Js r
 cases rx
 have fin:∀(its:List Value),qG ys its->ys.length<=zeb->∀(h':Heap) (c':Nat),(∀b o',s.heap.get? b=some o'->h'.get? b=some o')->
   h'.get? s.heap.objs.size=some {cls:=.type "list",dict:=none,data:=.seq its.toArray c',slots:=#[]}->EP X pins σ Q (.ref s.heap.objs.size) {s with heap:=h'}:=λits r' hz h' c' kp e=>
  ⟨.ref s.heap.objs.size,_,I.laid (t':=s.toks) kp (tz _) (show qK X.prog X.w _ h' _ (.lst ys) from⟨hz,its,c',r',e⟩),rfl,q _ (I.hok.fresh (tz _))⟩
 rcases hq with hq | hq
 ·obtain⟨its,r',pl,hz⟩:=I.list hq
  have hlen:=r'.length
  obtain⟨o,ho,hc,n,hd⟩:=pl.isList
  exact call_list_seq p (.inl rfl) ho hc hd (λh' c' kp e=>fin its r' hz h' c' kp e) (by simp only[tZ]<;>omega)
 ·obtain⟨its,r',pl,hz⟩:=I.tuple hq
  have hlen:=r'.length
  obtain⟨o,ho,hc,n,hd⟩:=pl
  exact call_list_seq p (.inr rfl) ho hc hd (λh' c' kp e=>fin its r' hz h' c' kp e) (by simp only[tZ]<;>omega)
theorem Wc:QN X (.type "tuple") (λxs H Q=>∃p ys,xs=[.ref p]/\((SqL X.K H p ys/\∀l,H l=none->Q (.ref l) (upd H l (.tup ys)))\/(Y5 X.K H p ys/\Q (.ref p) H))):=by
 intro pins s σ H xs us Q I r h
 obtain⟨p,ys,rfl,h⟩:=h
 obtain⟨u,rfl,rx⟩:=Js r
 cases rx
 rcases h with ⟨hq,q⟩ | ⟨hq,q⟩
 ·obtain⟨its,r',pl,hz⟩:=I.list hq
  have hlen:=r'.length
  refine call_tuple_list pl.isList (λh' kp=>?_) (by simp only[tZ]<;>omega)
  have I1:qz X pins σ H {s with heap:=h'}:=I.kept (t':=s.toks) kp
  have I2:qz X pins σ (upd H h'.objs.size (.tup ys)) {s with heap:=h'.push {cls:=.type "tuple",data:=.seq its.toArray}}:=
   I1.laid (t':=s.toks) (λb o e=>tu _ e) (tz _) (show qK X.prog X.w _ _ _ (.tup ys) from⟨hz,its,r',IsTup.new _ _⟩)
  exact⟨.ref h'.objs.size,_,I2,rfl,q _ (I1.hok.fresh (tz _))⟩
 ·obtain⟨its,r',pl,hz⟩:=I.tuple hq
  exact call_tuple_same pl ⟨.ref p,H,I,rfl,q⟩
def tyV(K:zdW)(T:String)(x:V)(H:Hp):Prop:=match x with
 | .str _=>T="str"
 | .int _=>T="int"
 | .ref p=>(T="list"/\∃xs,SqL K H p xs)\/(T="tuple"/\∃o,K.lookup p=some o/\o.cls=.type "tuple"/\o.dict=none)\/
  (T="dict"/\((∃kvs,H p=some (.dK kvs))\/∃kvs,H p=some (.dT kvs)))\/(T="set"/\∃S n,H p=some (.set S n))
 | _=>False
theorem xI{pins:List (Addr×Obj)}{σ:St}{H:Hp}{s:Shared}{T:String}{x:V}{v:Value}(I:qz X pins σ H s)(r:qO x v)(ty:tyV X.K T x H):
  s.TypeIs v T/\∀a,v=.ref a->∃ob,s.heap.get? a=some ob/\ob.dict=none:=by
 cases x with
 | str z=>
  obtain⟨t,rfl⟩:=r
  cases (show T="str" from ty)
  exact⟨typeIs_str s z t,λ_ e=>nomatch e⟩
 | int i=>
  obtain⟨t,rfl⟩:=r
  cases (show T="int" from ty)
  exact⟨typeIs_int s i t,λ_ e=>nomatch e⟩
 | ref p=>
  cases r
  rcases ty with ⟨rfl,xs,hq⟩ | ⟨rfl,o,hk,hc,hd⟩ | ⟨rfl,hk⟩ | ⟨rfl,S,n,hk⟩
  ·obtain⟨its,_,pl,_⟩:=I.list hq
   refine⟨pl.isList.typeIs,λa e=>?_⟩
   cases e
   obtain⟨o,n,e,c,hd,_⟩:=pl
   exact⟨o,e,hd⟩
  ·refine⟨⟨o,I.kIn p o hk,hc⟩,λa e=>?_⟩
   cases e
   exact⟨o,I.kIn _ o hk,hd⟩
  ·have z:∃o,s.heap.get? p=some o/\o.ExactDict:=by
    rcases hk with ⟨kvs,hk⟩ | ⟨kvs,hk⟩
    ·obtain⟨_,_,_,_,o,_,_,e,ex,_⟩:=I.hok p _ hk
     exact⟨o,e,ex⟩
    ·obtain⟨_,_,_,_,o,_,_,e,ex,_⟩:=I.hok p _ hk
     exact⟨o,e,ex⟩
   obtain⟨o,e,ex⟩:=z
   refine⟨⟨o,e,ex.1⟩,λa e2=>?_⟩
   cases e2
   exact⟨o,e,ex.2.1⟩
  ·obtain⟨o,_,_,_,e,ex,_⟩:=I.hok p _ hk
   refine⟨⟨o,e,ex.1⟩,λa e2=>?_⟩
   cases e2
   exact⟨o,e,ex.2.1⟩
 | _=>exact False.elim ty
def qb4(K:zdW)(T:String)(r:V->List V->Hp->VK->Prop)(to:TE):TE:=λσ H Q=>to σ H λx H1=>tyV K T x H1/\r x [] H1 Q
def tBM(K:zdW)(T:String)(r:V->List V->Hp->VK->Prop)(to:TE)(t:TA):TE:=λσ H Q=>to σ H λx H1=>tyV K T x H1/\t σ H1 λxs H2=>r x xs H2 Q
variable{o e:Expr}{es:List Expr}{to:TE}{t:TA}{name:Str}{apos cpos:Pos}{T id:String}{r:V->List V->Hp->VK->Prop}
theorem uU(pa:PlainAttrs T)(slot:Slot T name id)(hty:typeOf (.builtin id)=pure (.type "method_descriptor"))(hm:MtR X id r)(ho:JE X o to)(hbase:attributeBase o name X.env (eval o X.env)=eval o X.env:=by rfl)(hline:(apos.endLine==cpos.line)=true:=by rfl):JE X (.Call (.Attribute o name apos) [] [] cpos) (qb4 X.K T r to):=.of (by
 have ho:=ho.to
 intro pins s σ H Q I h
 refine wpAny_Call_method0_late hbase hline (jf (ho pins s σ H _ I h) λv s1 ⟨x,H1,I1,r1,ty,q1⟩=>?_)
 obtain⟨h1,h2⟩:=xI I1 r1 ty
 exact⟨T,id,pa,slot,hty,h1,h2,Calls.callWith_builtin rfl (PySem.evalArgs_none (hm pins s1 σ H1 x [] v [] Q I1 r1 .nil q1))⟩)
theorem qa0(pa:PlainAttrs T)(slot:Slot T name id)(hty:typeOf (.builtin id)=pure (.type "method_descriptor"))(hm:MtR X id r)(ho:PE X o to)(ha:PA X (e::es) t)
  (hbase:attributeBase o name X.env (eval o X.env)=eval o X.env:=by rfl)
  (hfew:((backTo cpos (starEach (e::es) X.env)).all (λx=> !x.1)&&(backToKw cpos (keywordEach [] X.env)).all (λx=>x.1.isSome)
   &&decide ((e::es).length+([]:List Keyword).length+(if ([]:List Keyword).isEmpty then 0 else 1) < 30))=true:=by rfl)
  (hline:(apos.endLine==cpos.line)=true:=by rfl) (hs:starEach (e::es) X.env=(false,eval e X.env)::starEach es X.env:=by rfl) (hplain:(backTo cpos (starEach es X.env)).any (·.1)=false:=by rfl):
  PE X (.Call (.Attribute o name apos) (e::es) [] cpos) (tBM X.K T r to t):=by
 intro pins s σ H Q I h
 refine wpAny_Call_method_late hbase hfew hline rfl (jf (ho pins s σ H _ I h) λv s1 ⟨x,H1,I1,r1,ty,q1⟩=>?_)
 obtain⟨h1,h2⟩:=xI I1 r1 ty
 refine⟨T,id,pa,slot,hty,h1,h2,?_⟩
 have hA:=ha cpos pins s1 σ H1 _ I1 q1
 rw[hs]at hA ⊢
 refine Calls.callWith_builtin (by show (false || (backTo cpos (starEach es X.env)).any (·.1))=false;rw[hplain]<;>rfl) (Calls.evalArgs_plain ?_)
 exact jf hA λus s2 ⟨vs,H2,I2,r2,q2⟩=>hm pins s2 σ H2 x vs v us Q I2 r1 r2 q2
theorem ZS(pa:PlainAttrs T)(slot:Slot T name id)(hty:typeOf (.builtin id)=pure (.type "method_descriptor"))(hm:MtR X id r)(ho:JE X o to)(ha:JA X (e::es) t)(hbase:attributeBase o name X.env (eval o X.env)=eval o X.env:=by rfl) (hfew:((backTo cpos (starEach (e::es) X.env)).all (λx=> !x.1)&&(backToKw cpos (keywordEach [] X.env)).all (λx=>x.1.isSome)
 &&decide ((e::es).length+([]:List Keyword).length+(if ([]:List Keyword).isEmpty then 0 else 1) < 30))=true:=by rfl) (hline:(apos.endLine==cpos.line)=true:=by rfl) (hs:starEach (e::es) X.env=(false,eval e X.env)::starEach es X.env:=by rfl) (hplain:(backTo cpos (starEach es X.env)).any (·.1)=false:=by rfl):JE X (.Call (.Attribute o name apos) (e::es) [] cpos) (tBM X.K T r to t):=.of (qa0 pa slot hty hm ho.to ha.to hbase hfew hline hs hplain)
end
def MtM(X:Cx)(id:String)(r:V->List V->Hp->VK->Prop):Prop:=
 ∀(pins:List (Addr×Obj)) (s:Shared) (σ:St) (H:Hp) (x:V) (xs:List V) (v:Value) (us:List Value) (Q:VK),qz X pins σ H s->qO x v->qG xs us->r x xs H Q->
  wpAny (model X.prog X.w) X.A (call (.builtin id) (v::us)) (EP X pins σ Q) X.xe s
theorem qG.one:∀{x:V} {us:List Value},qG [x] us->∃u,us=[u]/\qO x u
 | _,_,.cons r .nil=>⟨_,rfl,r⟩
theorem qG.zero:∀{us:List Value},qG [] us->us=[]
 | _,.nil=>rfl
theorem qG.reverse{xs:List V}{us:List Value}(h:qG xs us):qG xs.reverse us.reverse:=by
 induction h with
 | nil=>exact .nil
 | cons r t ih=>rw[zcZ,zcZ];exact qG.append ih (.cons r .nil)
section
variable{X:Cx}{pins:List (Addr×Obj)}{σ:St}{H:Hp}{s:Shared}{l b:Addr}{xs ys zs:List V}
theorem qz.lset{its its':List Value}{n:Nat}{f:Array Value->Array Value}{t':Nat}(I:qz X pins σ H s)(hH:H l=some (.lst xs))
  (e:s.heap.get? l=some {cls:=.type "list",data:=.seq its.toArray n}) (hf:f its.toArray=its'.toArray) (hv:qG ys its') (hz:ys.length<=zeb):
  qz X pins σ (upd H l (.lst ys)) {s with heap:=s.heap.update l (Obj.mapSeq f),toks:=t'}:=by
 have q:=PySem.IsL.update e f
 rw[hf]at q
 refine I.write (x:=l) (e:=l) (by rw[hH];exact trivial) (.inl rfl) (λb' u hb hu=>(zak s.heap (Obj.mapSeq f) (Ne.symm hb)).trans hu) ⟨_,q⟩ ?_
 exact⟨hz,its',_,hv,q⟩
theorem qz.lstM(I:qz X pins σ H s)(hH:H l=some (.lst xs)):xs.length<=zeb/\∃(its:List Value) (n:Nat),qG xs its/\xs.length=its.length/\s.heap.get? l=some {cls:=.type "list",data:=.seq its.toArray n}:=by
 obtain⟨z,its,n,r,e⟩:=I.hok l _ hH
 exact⟨z,its,n,r,r.length,e⟩
theorem uz{n:Nat}(h:n<=zeb):Builtin.List.listTooLong n=false:=by
 unfold Builtin.List.listTooLong
 exact decide_eq_false (by omega)
end
section
variable{X:Cx}
def Gp:V->List V->Hp->VK->Prop:=λx vs H Q=>∃l xs y,x=.ref l/\vs=[y]/\H l=some (.lst xs)/\xs.length < zeb/\Q .non (upd H l (.lst (xs++[y])))
theorem QA:MtM X "list.append" Gp:=by
 intro pins s σ H x vs v us Q I rx rv h
 obtain⟨l,xs,y,rfl,rfl,hH,hz,q⟩:=h
 cases rx
 obtain⟨u,rfl,ru⟩:=rv.one
 obtain⟨z,its,n,r,hl,e⟩:=I.lstM hH
 refine call_meets F.slot_list_append ⟨_,e,rfl⟩ F.entry_list_append (F.args_list_append_2 _ _) (PySem.list_append l its.toArray n u (by rw[tZ];omega)) ⟨e,?_⟩
 refine⟨.non,_,I.lset (its':=its++[u]) hH e (by simp) (r.append (.cons ru .nil)) ?_,rfl,q⟩
 rw[tH,zav]
 omega
def Go:V->List V->Hp->VK->Prop:=λx vs H Q=>∃l b xs zs,x=.ref l/\vs=[.ref b]/\H l=some (.lst xs)/\H b=some (.lst zs)/\xs.length+zs.length<=zeb/\Q .non (upd H l (.lst (xs++zs)))
theorem zY:MtM X "list.extend" Go:=by
 intro pins s σ H x vs v us Q I rx rv h
 obtain⟨l,b,xs,zs,rfl,rfl,hH,hB,hz,q⟩:=h
 cases rx
 obtain⟨u,rfl,ru⟩:=rv.one
 cases ru
 obtain⟨z,its,n,r,hl,e⟩:=I.lstM hH
 obtain⟨z2,its2,n2,r2,hl2,e2⟩:=I.lstM hB
 have hsz:its.toArray.size+its2.toArray.size<=zeb:=by rw[tZ,tZ];omega
 have hlong:¬(!its.toArray.isEmpty&&Builtin.List.listTooLong (its.toArray.size+its2.toArray.size))=true:=by
  rw[uz hsz,Bool.and_false]
  exact tN
 refine call_meets F.slot_list_extend ⟨_,e,rfl⟩ F.entry_list_extend (F.args_list_extend_2 _ _)
  (AutoSeq1.list_extend_list_list_0 l its.toArray n b its2.toArray n2 hlong (by rw[tZ];omega) (by omega)) ⟨e,e2,?_⟩
 refine⟨.non,_,I.lset (its':=its++its2) hH e (by simp) (r.append r2) ?_,rfl,q⟩
 rw[tH]
 omega
def wF:V->List V->Hp->VK->Prop:=λx vs H Q=>∃l xs,x=.ref l/\vs=[]/\H l=some (.lst xs)/\Q .non (upd H l (.lst xs.reverse))
theorem vk:MtM X "list.reverse" wF:=by
 intro pins s σ H x vs v us Q I rx rv h
 obtain⟨l,xs,rfl,rfl,hH,q⟩:=h
 cases rx
 have hus:=rv.zero
 subst hus
 obtain⟨z,its,n,r,hl,e⟩:=I.lstM hH
 refine call_meets F.slot_list_reverse ⟨_,e,rfl⟩ F.entry_list_reverse (F.args_list_reverse_1 _) (AutoSeq1.list_reverse_list_0 l its.toArray n (by rw[tZ];omega)) ⟨e,?_⟩
 refine⟨.non,_,I.lset (its':=its.reverse) hH e (by simp) r.reverse ?_,rfl,q⟩
 rw[zcb]
 omega
end
section
variable{prog:Program}{w:World}{A:Around}{E:Value->Shared->Prop}{s:Shared}
set_option maxRecDepth 100000 in
end
section
variable{X:Cx}
end
section
variable{κ:Type}[DecidableEq κ]
def jg(kvs:List (κ×V))(k:κ):Option V:=(kvs.find? λkv=>decide (kv.1=k)).map (·.2)
def jQ(kvs:List (κ×V))(k:κ)(v:V):List (κ×V):=
 if (kvs.any λkv=>decide (kv.1=k))=true then kvs.map (λkv=>if kv.1=k then (kv.1,v) else kv) else kvs++[(k,v)]
theorem ju{p:κ×V}{r:List (κ×V)}{k:κ}(e:p.1=k):jg (p::r) k=some p.2:=by simp [jg,zbp,e]
theorem jw{p:κ×V}{r:List (κ×V)}{k:κ}(e:¬p.1=k):jg (p::r) k=jg r k:=by simp [jg,zbp,e]
theorem QH(k:κ):∀kvs:List (κ×V),(kvs.any λkv=>decide (kv.1=k))=(jg kvs k).isSome
 | []=>rfl
 | p::r=>by
  rw[zcD]
  by_cases e:p.1=k
  ·simp only[ju e,decide_eq_true e,Bool.true_or,Option.isSome_some]
  ·rw[jw e,decide_eq_false e,Bool.false_or];exact QH k r
theorem VJ(k j:κ)(y:V):∀kvs:List (κ×V),jg (kvs.map λkv=>if kv.1=k then (kv.1,y) else kv) j=(jg kvs j).map λx=>if j=k then y else x
 | []=>rfl
 | p::r=>by
  have ih:=VJ k j y r
  rw[tU]
  by_cases h:p.1=k
  ·rw[if_pos h]
   by_cases e:p.1=j
   ·rw[ju (p:=(p.1,y)) e,ju e,zcj,if_pos (e.symm.trans h)]
   ·rw[jw (p:=(p.1,y)) e,jw e,ih]
  ·rw[if_neg h]
   by_cases e:p.1=j
   ·rw[ju (p:=p) e,ju e,zcj,if_neg (λz=>h (e.trans z))]
   ·rw[jw (p:=p) e,jw e,ih]
theorem Wh(k j:κ)(y:V):∀kvs:List (κ×V),jg kvs k=none->jg (kvs++[(k,y)]) j=if j=k then some y else jg kvs j
 | [],_=>by
  by_cases e:k=j
  ·rw[if_pos e.symm];exact ju (p:=(k,y)) e
  ·rw[if_neg (λz=>e z.symm)];exact jw (p:=(k,y)) e
 | p::r,hn=>by
  rw[zcz]
  have hk:¬p.1=k:=λz=>by rw[ju z]at hn;cases hn
  rw[jw hk]at hn
  have ih:=Wh k j y r hn
  by_cases e:p.1=j
  ·rw[ju e,ju e,if_neg (λz=>hk (e.trans z))]
  ·rw[jw e,jw e,ih]
theorem j0(kvs:List (κ×V))(k j:κ)(y:V):jg (jQ kvs k y) j=if j=k then some y else jg kvs j:=by
 unfold jQ
 by_cases a:(kvs.any λkv=>decide (kv.1=k))=true
 ·rw[if_pos a,VJ]
  rw[QH]at a
  by_cases e:j=k
  ·obtain⟨x,hx⟩:=zdc.mp a
   rw[if_pos e,e,hx,zcj,if_pos rfl]
  ·rw[if_neg e]
   cases jg kvs j with
   | none=>rfl
   | some x=>rw[zcj,if_neg e]
 ·rw[if_neg a]
  refine Wh k j y kvs ?_
  rw[QH]at a
  cases q:jg kvs k with
  | none=>rfl
  | some x=>rw[q]at a;exact(a rfl).elim
theorem Jh(kvs:List (κ×V))(k:κ)(v:V):(jQ kvs k v).length<=kvs.length+1:=by
 unfold jQ
 split
 ·rw[tj];omega
 ·rw[tH,zay,zdn];omega
theorem QJ{kvs:List (κ×V)}{k:κ}(v:V)(h:jg kvs k=none):jQ kvs k v=kvs++[(k,v)]:=by
 unfold jQ
 rw[QH,h]
 exact if_neg (by decide)
theorem Ze.isSome_eq{o:Option V}{u:Option Value}(r:Ze o u):o.isSome=u.isSome:=by
 cases o with
 | none=>cases u with
  | none=>rfl
  | some _=>exact(show False from r).elim
 | some _=>cases u with
  | none=>exact(show False from r).elim
  | some _=>rfl
theorem KV.val{kvs:List (κ×V)}{vs:List (κ×Value)}(r:KV kvs vs)(k:κ):Ze (jg kvs k) (valueAt vs k):=by
 unfold KV at r
 induction r with
 | nil=>exact True.intro
 | @cons p q ps qs h t ih=>
  obtain⟨h1,h2⟩:=h
  by_cases e:p.1=k
  ·have e':q.1=k:=h1.symm.trans e
   have b:valueAt (q::qs) k=some q.2:=by simp [valueAt,zbp,e']
   rw[ju e,b];exact h2
  ·have e':¬q.1=k:=λz=>e (h1.trans z)
   have b:valueAt (q::qs) k=valueAt qs k:=by simp [valueAt,zbp,e']
   rw[jw e,b];exact ih
theorem KV.any{kvs:List (κ×V)}{vs:List (κ×Value)}(r:KV kvs vs)(k:κ):(kvs.any λkv=>decide (kv.1=k))=vs.any λkv=>decide (kv.1=k):=by
 unfold KV at r
 induction r with
 | nil=>rfl
 | cons h t ih=>rw[zcD,zcD,ih,h.1]
theorem KV.repl{kvs:List (κ×V)}{vs:List (κ×Value)}(r:KV kvs vs)(k:κ){y:V}{u:Value}(ry:qO y u):
  KV (kvs.map λkv=>if kv.1=k then (kv.1,y) else kv) (vs.map λkv=>if kv.1=k then (kv.1,u) else kv):=by
 unfold KV at r ⊢
 induction r with
 | nil=>exact .nil
 | @cons p q ps qs h t ih=>
  rw[tU,tU]
  refine .cons ?_ ih
  obtain⟨h1,h2⟩:=h
  by_cases e:p.1=k
  ·rw[if_pos e,if_pos (h1.symm.trans e)];exact⟨h1,ry⟩
  ·rw[if_neg e,if_neg (λz=>e (h1.trans z))];exact⟨h1,h2⟩
theorem KV.put{kvs:List (κ×V)}{vs:List (κ×Value)}(r:KV kvs vs)(k:κ){y:V}{u:Value}(ry:qO y u):KV (jQ kvs k y) (stored vs k u):=by
 unfold jQ stored
 rw[r.any k]
 by_cases e:(vs.any λkv=>decide (kv.1=k))=true
 ·rw[if_pos e,if_pos e];exact r.repl k ry
 ·rw[if_neg e,if_neg e];exact Paired.snoc r ⟨rfl,ry⟩
theorem KV.length{kvs:List (κ×V)}{vs:List (κ×Value)}(r:KV kvs vs):kvs.length=vs.length:=Paired.length r
end
theorem XL{P:Program}{w:World}{k:qN}{u:Value}(r:qO (kV k) u):(jm P w).is k u=true:=by
 cases k with
 | inl i=>obtain⟨t,e⟩:=(show ∃t,u=Value.int i t from r);subst e;exact Uk P w i t
 | inr x=>obtain⟨t,e⟩:=(show ∃t,u=Value.str x t from r);subst e;exact Uj P w x t
theorem WC{P:Program}{w:World}:∀{ks:List qN} {us:List Value},qG (ks.map kV) us->ItemsAre (jm P w) ks us
 | [],_,r=>by rw[zct]at r;cases r;exact .nil
 | k::ks,_,r=>by
  rw[tU]at r
  cases r with
  | cons h t=>exact .cons (XL h) (WC t)
abbrev KT(H:Hp):List (List qN×V)->List (List qN×Addr×Value)->Prop:=Paired λp q=>p.1=q.1/\H q.2.1=some (.tup (p.1.map kV))/\qO p.2 q.2.2
theorem KT.val{H:Hp}{kvs:List (List qN×V)}{xs:List (List qN×Addr×Value)}(r:KT H kvs xs)(k:List qN):Ze (jg kvs k) ((atKey xs k).map (·.2)):=by
 induction r with
 | nil=>exact True.intro
 | @cons p q ps qs h t ih=>
  obtain⟨h1,_,h2⟩:=h
  by_cases e:p.1=k
  ·have e':q.1=k:=h1.symm.trans e
   have b:atKey (q::qs) k=some q.2:=by simp [atKey,zbp,e']
   rw[ju e,b];exact h2
  ·have e':¬q.1=k:=λz=>e (h1.trans z)
   have b:atKey (q::qs) k=atKey qs k:=by simp [atKey,zbp,e']
   rw[jw e,b];exact ih
theorem KT.repl{H:Hp}{kvs:List (List qN×V)}{xs:List (List qN×Addr×Value)}(r:KT H kvs xs)(k:List qN){y:V}{u:Value}(ry:qO y u):
  KT H (kvs.map λkv=>if kv.1=k then (kv.1,y) else kv) (xs.map (putAt k u)):=by
 induction r with
 | nil=>exact .nil
 | @cons p q ps qs h t ih=>
  rw[tU,tU]
  refine .cons ?_ ih
  obtain⟨h1,h2,h3⟩:=h
  unfold putAt
  by_cases e:p.1=k
  ·rw[if_pos e,if_pos (h1.symm.trans e)];exact⟨h1,h2,ry⟩
  ·rw[if_neg e,if_neg (λz=>e (h1.trans z))];exact⟨h1,h2,h3⟩
theorem KT.put{H:Hp}{kvs:List (List qN×V)}{xs:List (List qN×Addr×Value)}(r:KT H kvs xs)(k:List qN){b:Addr}{y:V}{u:Value}(hb:H b=some (.tup (k.map kV)))(ry:qO y u):
  KT H (jQ kvs k y) (storedH xs k b u):=by
 have e:(kvs.any λkv=>decide (kv.1=k))=(atKey xs k).isSome:=by
  rw[QH,(r.val k).isSome_eq,zbe]
 unfold jQ storedH
 rw[e]
 by_cases q:(atKey xs k).isSome=true
 ·rw[if_pos q,if_pos q];exact r.repl k ry
 ·rw[if_neg q,if_neg q];exact Paired.snoc r ⟨rfl,hb,ry⟩
theorem KT.keeps{H H':Hp}{kvs:List (List qN×V)}{xs:List (List qN×Addr×Value)}(r:KT H kvs xs)(ht:∀b ys,H b=some (.tup ys)->H' b=some (.tup ys)):KT H' kvs xs:=
 Paired.mapP r λ_ _ z=>⟨z.1,ht _ _ z.2.1,z.2.2⟩
section
variable{P:Program}{w:World}{H:Hp}{h:Heap}{a:Addr}
theorem NA{u:HO}(ok:JN P w H h)(e:Rd H a u):qK P w H h a u:=e.ok ok
theorem Uy{kvs:List (qN×V)}(ok:JN P w H h)(e:Rd H a (.dK kvs)):kvs.length<=zeb/\(a==sysModules)=false/\∃vs,KV kvs vs/\h.DictOf (jm P w) a vs:=
 show qK P w H h a (.dK kvs) from NA ok e
theorem NJ{kvs:List (qN×V)}(ok:JN P w H h)(e:H a=some (.dK kvs)):kvs.length<=zeb/\(a==sysModules)=false/\∃vs,KV kvs vs/\h.DictOf (jm P w) a vs:=Uy ok (.inl e)
theorem XI{ks:List qN}(ok:JN P w H h)(e:H a=some (.tup (ks.map kV))):(tupleKind (jm P w)).is h ks a:=by
 obtain⟨_,its,r,o,h1,h2,n,h3⟩:=(show qK P w H h a (.tup (ks.map kV)) from ok a _ e)
 exact⟨o,its.toArray,n,h1,h2,h3,by simpa using WC r⟩
theorem Ux{kvs:List (List qN×V)}(ok:JN P w H h)(e:Rd H a (.dT kvs)):kvs.length<=zeb/\(a==sysModules)=false/\
  ∃xs,KT H kvs xs/\h.DictOfH (tupleKind (jm P w)) a xs:=by
 obtain⟨z,y,xs,r,o,es,ep,h1,h2,h3,h4,h5⟩:=(show qK P w H h a (.dT kvs) from NA ok e)
 refine⟨z,y,xs,r,o,es,ep,h1,h2,h3,h4,λx hx=>?_,h5⟩
 have all:∀{l:List (List qN×V)} {m:List (List qN×Addr×Value)},KT H l m->∀x∈m,(tupleKind (jm P w)).is h x.1 x.2.1:=by
  intro l m q
  induction q with
  | nil=>intro x hx;exact nomatch hx
  | @cons p q ps qs hq t ih=>
   intro x hx
   rcases tS.mp hx with e | hx
   ·subst e
    exact XI ok (by rw[<-hq.1];exact hq.2.1)
   ·exact ih x hx
 exact all r x hx
theorem qbs{kvs:List (List qN×V)}(ok:JN P w H h)(e:H a=some (.dT kvs)):kvs.length<=zeb/\(a==sysModules)=false/\
 ∃xs,KT H kvs xs/\h.DictOfH (tupleKind (jm P w)) a xs:=Ux ok (.inl e)
end
def jZ(H:Hp)(a:Addr)(y:V)(r:Option V):Prop:=
 (∃kvs k,Rd H a (.dK kvs)/\y=kV k/\r=jg kvs k)\/∃kvs k b,Rd H a (.dT kvs)/\y=.ref b/\H b=some (.tup (k.map kV))/\r=jg kvs k
def Jb(H:Hp)(a:Addr)(y v:V)(H':Hp):Prop:=
 (∃kvs k,H a=some (.dK kvs)/\y=kV k/\kvs.length < zeb/\H'=upd H a (.dK (jQ kvs k v)))\/
 ∃kvs k b,H a=some (.dT kvs)/\y=.ref b/\H b=some (.tup (k.map kV))/\kvs.length < zeb/\H'=upd H a (.dT (jQ kvs k v))
theorem jZ.k{H:Hp}{a:Addr}{kvs:List (qN×V)}{k:qN}(e:H a=some (.dK kvs)):jZ H a (kV k) (jg kvs k):=.inl ⟨kvs,k,.inl e,rfl,rfl⟩
theorem Jb.k{H:Hp}{a:Addr}{kvs:List (qN×V)}{k:qN}{v:V}(e:H a=some (.dK kvs))(hl:kvs.length < zeb):Jb H a (kV k) v (upd H a (.dK (jQ kvs k v))):=.inl ⟨kvs,k,e,rfl,hl,rfl⟩
theorem Jb.t{H:Hp}{a b:Addr}{kvs:List (List qN×V)}{k:List qN}{v:V}(e:H a=some (.dT kvs))(eb:H b=some (.tup (k.map kV)))(hl:kvs.length < zeb):
 Jb H a (.ref b) v (upd H a (.dT (jQ kvs k v))):=.inr ⟨kvs,k,b,e,rfl,eb,hl,rfl⟩
section
variable{X:Cx}{pins:List (Addr×Obj)}{σ:St}{H:Hp}{s:Shared}{a:Addr}{y v:V}{u r:Value}{o:Option V}{A:Around}{E:Value->Shared->Prop}
theorem qz.big(I:qz X pins σ H s):sysModules < s.heap.objs.size:=by
 have h:mainGlobals < s.heap.objs.size:=(I.mod.glob.keeps I.bk).lt
 exact zdM (by decide) h
theorem xA{Q:Value->Shared->Prop}(hu:A.units+1 < cLine)(I:qz X pins σ H s)(g:jZ H a y (some v))(ry:qO y u)(h:∀w' s',qz X pins σ H s'->qO v w'->Q w' s'):
  wpAny (model X.prog X.w) A (getItem (.ref a) u) Q E s:=by
 rcases g with ⟨kvs,k,e,ey,l⟩ | ⟨kvs,k,b,e,ey,eb,l⟩
 ·subst ey
  obtain⟨z,hd,vs,rel,dd⟩:=Uy I.hok e
  obtain⟨w',hw,rw'⟩:=Ze.some_of (v:=v) (o:=valueAt vs k) (by rw[l];exact rel.val k)
  exact wpAny_getItem_of (XL ry) dd.mapOf hw (h w' _ (I.tok _) rw')
 ·subst ey
  cases (show u=Value.ref b from ry)
  obtain⟨z,hd,xs,rel,dd⟩:=Ux I.hok e
  obtain⟨w',hw,rw'⟩:=Ze.some_of (v:=v) (o:=(atKey xs k).map (·.2)) (by rw[l];exact rel.val k)
  obtain⟨p,hp,hp2⟩:=zbI.mp hw
  refine wpAny_getItem_heap (tupleKind_room_in1 hu) (XI I.hok eb) dd hp ?_
  rw[hp2]
  exact h w' _ (I.tok _) rw'
theorem qcI{Q:Value->Shared->Prop}(hu:A.units+1 < cLine)(I:qz X pins σ H s)(g:jZ H a y o)(ry:qO y u)(h:∀s',qz X pins σ H s'->Q (.bool o.isSome) s'):
  wpAny (model X.prog X.w) A (compareOp .In u (.ref a)) Q E s:=by
 rcases g with ⟨kvs,k,e,ey,l⟩ | ⟨kvs,k,b,e,ey,eb,l⟩
 ·subst ey
  obtain⟨z,hd,vs,rel,dd⟩:=Uy I.hok e
  refine wpAny_in_of (XL ry) hd dd.mapOf ?_
  rw[<-(rel.val k).isSome_eq,<-l]
  exact h _ (I.tok _)
 ·subst ey
  cases (show u=Value.ref b from ry)
  obtain⟨z,hd,xs,rel,dd⟩:=Ux I.hok e
  refine wpAny_in_heap (tupleKind_room_in1 hu) (XI I.hok eb) hd dd ?_
  have q:=(rel.val k).isSome_eq
  rw[zbe]at q
  rw[<-q,<-l]
  exact h _ (I.tok _)
theorem RX{Q:Value->Shared->Prop}(hu:A.units+1 < cLine)(I:qz X pins σ H s)(g:jZ H a y o)(ry:qO y u)(h:∀s',qz X pins σ H s'->Q (.bool (!o.isSome)) s'):
  wpAny (model X.prog X.w) A (compareOp .NotIn u (.ref a)) Q E s:=by
 rcases g with ⟨kvs,k,e,ey,l⟩ | ⟨kvs,k,b,e,ey,eb,l⟩
 ·subst ey
  obtain⟨z,hd,vs,rel,dd⟩:=Uy I.hok e
  refine wpAny_notIn_of (XL ry) hd dd.mapOf ?_
  rw[<-(rel.val k).isSome_eq,<-l]
  exact h _ (I.tok _)
 ·subst ey
  cases (show u=Value.ref b from ry)
  obtain⟨z,hd,xs,rel,dd⟩:=Ux I.hok e
  refine wpAny_notIn_heap (tupleKind_room_in1 hu) (XI I.hok eb) hd dd ?_
  have q:=(rel.val k).isSome_eq
  rw[zbe]at q
  rw[<-q,<-l]
  exact h _ (I.tok _)
theorem Vx{h':Heap}{t':Nat}{ob:HO}(I:qz X pins σ H s)(mu:Mut (H a))(hs:Heap.SameBut a s.heap h')(he:∃q,h'.get? a=some q)(new:qK X.prog X.w (upd H a ob) h' a ob):
  qz X pins σ (upd H a ob) {s with heap:=h',toks:=t'}:=
 I.write (x:=a) (e:=a) mu (.inl rfl) (λb q hb z=>(hs.2 b hb).trans z) he new
theorem vD{P:Program}{w:World}{H':Hp}{h':Heap}{kvs:List (qN×V)}{vs:List (qN×Value)}(z:kvs.length<=zeb)(hd:(a==sysModules)=false)(rel:KV kvs vs)(dd:h'.DictOf (jm P w) a vs):
 qK P w H' h' a (.dK kvs):=⟨z,hd,vs,rel,dd⟩
theorem xz{H':Hp}{Q:Unit->Shared->Prop}(hu:A.units+1 < cLine)(I:qz X pins σ H s)(g:Jb H a y v H')(ry:qO y u)(rv:qO v r)(h:∀s',qz X pins σ H' s'->Q () s'):
  wpAny (model X.prog X.w) A (setItem (.ref a) u r) Q E s:=by
 rcases g with ⟨kvs,k,e,ey,l,eH⟩ | ⟨kvs,k,b,e,ey,eb,l,eH⟩
 ·subst ey eH
  obtain⟨z,hd,vs,rel,dd⟩:=NJ I.hok e
  have hz:vs.length<=zeb:=by rw[<-rel.length];exact z
  have hl:(jQ kvs k v).length<=zeb:=by have:=Jh kvs k v;omega
  refine wpAny_setItem_pairs (hsz:=hz) (XL ry) dd λh' dd' hs=>h _ ?_
  have he:∃q,h'.get? a=some q:=let ⟨q,_,_,hq,_⟩:=dd';⟨q,hq⟩
  exact Vx I (by rw[e];exact True.intro) hs he (vD hl hd (rel.put k rv) dd')
 ·subst ey eH
  cases (show u=Value.ref b from ry)
  obtain⟨z,hd,xs,rel,dd⟩:=qbs I.hok e
  have hz:xs.length<=zeb:=by rw[<-Paired.length rel];exact z
  have hl:(jQ kvs k v).length<=zeb:=by have:=Jh kvs k v;omega
  refine wpAny_setItem_heap (hsz:=hz) (tupleKind_room_in1 hu) (XI I.hok eb) dd λh' dd' hs=>h _ ?_
  obtain⟨q,es,ep,hq,h2,h3,h4,_,h5⟩:=dd'
  refine Vx I (by rw[e];exact True.intro) hs ⟨q,hq⟩ ⟨hl,hd,_,(rel.put k eb rv).keeps λc ys ec=>?_,q,es,ep,hq,h2,h3,h4,h5⟩
  rw[qi (qa2 ec e (λz=>nomatch z))]
  exact ec
end
section
variable{X:Cx}{pins:List (Addr×Obj)}{σ:St}{H:Hp}{s:Shared}{a:Addr}{kvs:List (qN×V)}{k:qN}{u:Value}{A:Around}{E:Value->Shared->Prop}
end
def qbB(i:Expr):Prop:=∀ov iv,subscripted i false ov iv=operate [ov,iv] (getItem ov iv)
theorem KQ{prog:Program}{w:World}{A:Around}{E:Value->Shared->Prop}{s:Shared}{env:Env}{value slice:Expr}{pos:Pos}{T id:String}{Q:Value->Shared->Prop}
  (hl:typeLookup (.type T) "__getitem__"=pure (some (.builtin id))) (hs:qbB slice)
  (h:wpAny (model prog w) A (eval value env) (λo s₁=>wpAny (model prog w) A (eval slice env) (λi s₂=>s₂.TypeIs o T/\wpAny (model prog w) A (getItem o i) Q E s₂) E s₁) E s):
  wpAny (model prog w) A (eval (.Subscript value slice pos) env) Q E s:=by
 refine Subscript_ (wpAny_mono h (λo s₁ h₁=>wpAny_mono h₁ (λi s₂ h₂=>?_) λ_ _ x=>x) λ_ _ x=>x)
 obtain⟨hT,h₂⟩:=h₂
 unfold subscriptTail
 refine zdY ?_
 rw[getitemInPython_of_ne hT.not_modules]
 refine zdY (wpAny_specialOf hT hl ?_)
 have fin:wpAny (model prog w) A (subscripted slice false o i) (λr s₃=>wpAny (model prog w) A (letTemporaryGo value o r >>= λ_=>pure r) Q E s₃) E s₂:=by
  rw[hs o i]
  exact wpAny_operating (wpAny_mono h₂ (λr s₃ h₃=>zdY (wpAny_letTemporaryGo (zdZ h₃))) λ_ _ x=>x)
 first
  | exact zdZ (zdY fin)
  | exact zdY (zdZ (zdY fin))
  | exact zdY fin
theorem UA{X:Cx}{pins:List (Addr×Obj)}{σ:St}{H:Hp}{s:Shared}{a:Addr}{y:V}{o:Option V}(I:qz X pins σ H s)(g:jZ H a y o):s.TypeIs (.ref a) "dict":=by
 rcases g with ⟨kvs,k,e,_,_⟩ | ⟨kvs,k,b,e,_,_,_⟩
 ·obtain⟨_,_,vs,_,dd⟩:=Uy I.hok e
  exact dd.typeIs
 ·obtain⟨_,_,xs,_,dd⟩:=Ux I.hok e
  exact dd.typeIs
def Y9(td ty:TE):TE:=λσ H Q=>td σ H λx H1=>ty σ H1 λy H2=>∃a v,x=.ref a/\jZ H2 a y (some v)/\Q v H2
def qay(ty td:TE):TE:=λσ H Q=>ty σ H λy H1=>td σ H1 λx H2=>∃a o,x=.ref a/\jZ H2 a y o/\Q (.bl o.isSome) H2
def KN(ty td:TE):TE:=λσ H Q=>ty σ H λy H1=>td σ H1 λx H2=>∃a o,x=.ref a/\jZ H2 a y o/\Q (.bl (!o.isSome)) H2
def Nz(td ty tv:TE):TS:=λD σ H=>tv σ H λv H1=>td σ H1 λx H2=>ty σ H2 λy H3=>∃a H4,x=.ref a/\Jb H3 a y v H4/\D.nx σ H4
section
variable{X:Cx}{o i e value:Expr}{pos pos' tpos:Pos}{td ty tv:TE}
theorem qW(hu:X.A.units+1 < cLine)(ho:JE X o td)(hi:JE X i ty)(hs:qbB i):JE X (.Subscript o i pos) (Y9 td ty):=.of (by
 have ho:=ho.to
 have hi:=hi.to
 intro pins s σ H Q I h
 refine KQ PySem.F.slot_dict_getitem.lookup hs (jf (ho pins s σ H _ I h) λu s1 ⟨x,H1,I1,rx,q1⟩=>jf (hi pins s1 σ H1 _ I1 q1) λiv s2 ⟨y,H2,I2,ry,a,v,ex,g,q2⟩=>?_)
 subst ex
 obtain rfl:u=Value.ref a:=rx
 exact⟨UA I2 g,xA hu I2 g ry λw' s3 I3 rw'=>⟨v,H2,I3,rw',q2⟩⟩)
theorem J0(hu:X.A.units+1 < cLine)(hi:JE X i ty)(ho:JE X o td):JC X .In i o (qay ty td):=.of (by
 have hi:=hi.to
 have ho:=ho.to
 intro pins s σ H Q I h
 refine jf (hi pins s σ H _ I h) λiv s1 ⟨y,H1,I1,ry,q1⟩=>jf (ho pins s1 σ H1 _ I1 q1) λu s2 ⟨x,H2,I2,rx,a,ov,ex,g,q2⟩=>?_
 subst ex
 obtain rfl:u=Value.ref a:=rx
 exact qcI hu I2 g ry λs3 I3=>⟨.bl ov.isSome,H2,I3,rfl,q2⟩)
theorem JJ(hu:X.A.units+1 < cLine)(hi:JE X i ty)(ho:JE X o td):JC X .NotIn i o (KN ty td):=.of (by
 have hi:=hi.to
 have ho:=ho.to
 intro pins s σ H Q I h
 refine jf (hi pins s σ H _ I h) λiv s1 ⟨y,H1,I1,ry,q1⟩=>jf (ho pins s1 σ H1 _ I1 q1) λu s2 ⟨x,H2,I2,rx,a,ov,ex,g,q2⟩=>?_
 subst ex
 obtain rfl:u=Value.ref a:=rx
 exact RX hu I2 g ry λs3 I3=>⟨.bl (!ov.isSome),H2,I3,rfl,q2⟩)
theorem jy(hu:X.A.units+1 < cLine)(ho:JE X o td)(hi:JE X i ty)(hv:JE X value tv)(hs:swapsWith value (some (.Subscript o i pos')) pos.line X.env=pure false):JS X (.Assign [.Subscript o i pos'] value pos) (Nz td ty tv):=.of (by
 have ho:=ho.to
 have hi:=hi.to
 have hv:=hv.to
 intro pins s σ H D I h
 refine wpAny_Assign_Subscript (jf (hv pins s σ H _ I h) λr s1 ⟨v,H1,I1,rv,q1⟩=>jf (ho pins s1 σ H1 _ I1 q1) λu s2 ⟨x,H2,I2,rx,q2⟩=>jf (hi pins s2 σ H2 _ I2 q2) λiv s3 ⟨y,H3,I3,ry,a,H4,ex,g,q3⟩=>?_) hs
 subst ex
 obtain rfl:u=Value.ref a:=rx
 exact xz hu I3 g ry rv λs4 I4=>⟨σ,H4,I4,q3⟩)
end
theorem Uz{P:Program}{w:World}{H:Hp}(h:Heap)(hb:sysModules < h.objs.size):qK P w H (h.push {cls:=.type "dict",data:=.dict #[]}) h.objs.size (.dK []):=
 ⟨zaw _,beq_eq_false_iff_ne.mpr (Ne.symm (tQ hb)),[],.nil,Heap.DictOf.new h⟩
theorem Kg{P:Program}{w:World}{H:Hp}(h:Heap)(hb:sysModules < h.objs.size):qK P w H (h.push {cls:=.type "dict",data:=.dict #[]}) h.objs.size (.dT []):=
 ⟨zaw _,beq_eq_false_iff_ne.mpr (Ne.symm (tQ hb)),[],.nil,_,#[],0,tV _ rfl,⟨rfl,rfl,rfl⟩,rfl,rfl,zbn⟩
def xT:TE:=λ_ H Q=>∀p,H p=none->Q (.ref p) (upd H p (.dK []))
def xR:TE:=λ_ H Q=>∀p,H p=none->Q (.ref p) (upd H p (.dT []))
section
variable{X:Cx}{pos:Pos}
theorem wO:PE X (.Dict [] [] pos) xT:=λpins s σ H Q I h=>
 wpAny_Dict_empty ⟨.ref s.heap.objs.size,_,I.laid (a:=s.heap.objs.size) (o:=.dK []) (t':=s.toks) (λ_ _ q=>tu _ q) (tz _) (Uz s.heap I.big),rfl,h _ (I.hok.fresh (tz _))⟩
theorem Qp:JE X (.Dict [] [] pos) xT:=.of (wO)
theorem wN:PE X (.Dict [] [] pos) xR:=λpins s σ H Q I h=>
 wpAny_Dict_empty ⟨.ref s.heap.objs.size,_,I.laid (a:=s.heap.objs.size) (o:=.dT []) (t':=s.toks) (λ_ _ q=>tu _ q) (tz _) (Kg s.heap I.big),rfl,h _ (I.hok.fresh (tz _))⟩
theorem uT:JE X (.Dict [] [] pos) xR:=.of (wN)
end
def UY:List (TE×TE)->St->Hp->(List (V×V)->Hp->Prop)->Prop
 | [],_,H,Q=>Q [] H
 | (tk,tv)::r,σ,H,Q=>tk σ H λx H1=>tv σ H1 λy H2=>UY r σ H2 λps H3=>Q ((x,y)::ps) H3
abbrev VV:List (V×V)->List (Value×Value)->Prop:=Paired λp q=>qO p.1 q.1/\qO p.2 q.2
def PPs(X:Cx)(pos:Pos)(keys:List (Option Expr))(values:List Expr)(trs:List (TE×TE)):Prop:=
 ∀(pins:List (Addr×Obj)) (s:Shared) (σ:St) (H:Hp) (Q:List (V×V)->Hp->Prop),qz X pins σ H s->UY trs σ H Q->
  wpAny (model X.prog X.w) X.A (evalPairs (pairTrees keys values X.env pos)) (λvs s'=>∃ps H',qz X pins σ H' s'/\VV ps vs/\Q ps H') X.xe s
@[irreducible] def KC (X:Cx) (pos:Pos) (keys:List (Option Expr)) (values:List Expr) (trs:List (TE×TE)):Prop:=PPs X pos keys values trs
theorem KC.of{X:Cx}{pos:Pos}{keys:List (Option Expr)}{values:List Expr}{trs:List (TE×TE)}(h:PPs X pos keys values trs):KC X pos keys values trs:=by unfold KC;exact h
theorem KC.to{X:Cx}{pos:Pos}{keys:List (Option Expr)}{values:List Expr}{trs:List (TE×TE)}(h:KC X pos keys values trs):PPs X pos keys values trs:=by unfold KC at h;exact h
theorem Ry{X:Cx}{pos:Pos}:KC X pos [] [] []:=.of (by
 exact λpins s σ H Q I h=>pairTrees_nil_walk ⟨[],H,I,.nil,h⟩)
theorem wK{X:Cx}{pos:Pos}{k v:Expr}{ks:List (Option Expr)}{vs:List Expr}{tk tv:TE}{trs:List (TE×TE)}(hk:PE X k tk)(hv:PE X v tv)(hr:PPs X pos ks vs trs):
  PPs X pos (some k::ks) (v::vs) ((tk,tv)::trs):=λpins s σ H Q I h=>
 pairTrees_cons_walk (jf (hk pins s σ H _ I h) λu s1 ⟨x,H1,I1,rx,q1⟩=>jf (hv pins s1 σ H1 _ I1 q1) λw2 s2 ⟨y,H2,I2,ry,q2⟩=>
  jf (hr pins s2 σ H2 _ I2 q2) λws s3 ⟨ps,H3,I3,rel,q3⟩=>⟨(x,y)::ps,H3,I3,.cons ⟨rx,ry⟩ rel,q3⟩)
theorem XM{X:Cx}{pos:Pos}{k v:Expr}{ks:List (Option Expr)}{vs:List Expr}{tk tv:TE}{trs:List (TE×TE)}(hk:JE X k tk)(hv:JE X v tv)(hr:KC X pos ks vs trs):KC X pos (some k::ks) (v::vs) ((tk,tv)::trs):=.of (wK hk.to hv.to hr.to)
def QQ(kvs more:List (qN×V)):List (qN×V):=more.foldl (λacc kv=>jQ acc kv.1 kv.2) kvs
theorem KV.merge:∀{more:List (qN×V)} {rs:List (qN×Value)} {kvs:List (qN×V)} {vs:List (qN×Value)},KV more rs->KV kvs vs->KV (QQ kvs more) (merged vs rs):=by
 intro more rs kvs vs r
 unfold KV at r
 induction r generalizing kvs vs with
 | nil=>intro q;exact q
 | @cons p q ps qs h t ih=>
  intro r0
  have e:KV (jQ kvs p.1 p.2) (stored vs q.1 q.2):=by
   have:=r0.put p.1 h.2
   rw[<-h.1];exact this
  exact ih e
theorem Jo:∀(more kvs:List (qN×V)),(QQ kvs more).length<=kvs.length+more.length
 | [],kvs=>by show kvs.length<=kvs.length+0;omega
 | p::r,kvs=>by
  have h1:=Jo r (jQ kvs p.1 p.2)
  have h2:=Jh kvs p.1 p.2
  show (QQ (jQ kvs p.1 p.2) r).length<=_
  rw[zay];omega
theorem XY{P:Program}{w:World}:∀{kvs:List (qN×V)} {ws:List (Value×Value)},VV (kvs.map λkv=>(kV kv.1,kv.2)) ws->∃rs,Carries (jm P w) ws rs/\KV kvs rs
 | [],_,r=>by rw[zct]at r;cases r;exact⟨[],True.intro,.nil⟩
 | p::kvs,_,r=>by
  rw[tU]at r
  cases r with
  | @cons a b as bs h t=>
   obtain⟨rs,c,q⟩:=XY (P:=P) (w:=w) t
   obtain⟨b1,b2⟩:=b
   exact⟨(p.1,b2)::rs,⟨XL h.1,rfl,c⟩,.cons ⟨rfl,h.2⟩ q⟩
def qax(trs:List (TE×TE)):TE:=λσ H Q=>∀p,H p=none->UY trs σ (upd H p (.dK [])) λps H2=>H2 p=some (.dK [])/\∃kvs:List (qN×V),ps=kvs.map (λkv=>(kV kv.1,kv.2))/\kvs.length<=15/\Q (.ref p) (upd H2 p (.dK (QQ [] kvs)))
theorem RG{X:Cx}{pos:Pos}{keys:List (Option Expr)}{values:List Expr}{trs:List (TE×TE)}(h:KC X pos keys values trs)(hall:keys.all (·.isSome)=true)(hl:keys.length=values.length)(h0:keys≠[])(h15:keys.length<=15):JE X (.Dict keys values pos) (qax trs):=.of (by
 have h:=h.to
 intro pins s σ H Q I q
 have hn:=I.hok.fresh (tz s.heap.objs.size)
 have I1:=I.laid (a:=s.heap.objs.size) (o:=.dK []) (h':=s.heap.push {cls:=.type "dict",data:=.dict #[]}) (t':=s.toks) (λ_ _ q=>tu _ q) (tz _) (Uz s.heap I.big)
 refine wpAny_Dict_walk (knd:=jm X.prog X.w) hall hl h0 h15 (jf (h pins _ σ _ _ I1 (q _ hn)) λws s2 ⟨ps,H2,I2,rel,e,kvs,ep,lk,q2⟩=>?_)
 subst ep
 obtain⟨rs,c,rk⟩:=XY (P:=X.prog) (w:=X.w) rel
 obtain⟨z,hd,vs0,r0,dd⟩:=NJ I2.hok e
 cases r0
 refine⟨rs,c,dd,λh' dd' hs=>⟨.ref s.heap.objs.size,_,?_,rfl,q2⟩⟩
 have hz:(QQ [] kvs).length<=zeb:=by
  have h1:=Jo kvs []
  rw[zdn]at h1
  rw[sizeLine_eq];omega
 have he:∃q,h'.get? s.heap.objs.size=some q:=let ⟨q,_,_,hq,_⟩:=dd';⟨q,hq⟩
 exact Vx I2 (by rw[e];exact True.intro) hs he (vD hz hd (rk.merge .nil) dd'))
structure M1(X:Cx)(o:Expr)(m:Str)(apos:Pos)(e:Expr)(cpos:Pos):Prop where
 base:attributeBase o m X.env (eval o X.env)=eval o X.env
 few:((backTo cpos (starEach [e] X.env)).all (λx=> !x.1)&&(backToKw cpos (keywordEach [] X.env)).all (λx=>x.1.isSome)
  &&decide (([e]:List Expr).length+([]:List Keyword).length+(if ([]:List Keyword).isEmpty then 0 else 1) < 30))=true
 line:(apos.endLine==cpos.line)=true
 trees:backTo cpos (starEach [e] X.env)=[(false,eval e X.env)]
structure M2(X:Cx)(o:Expr)(m:Str)(apos:Pos)(e f:Expr)(cpos:Pos):Prop where
 base:attributeBase o m X.env (eval o X.env)=eval o X.env
 few:((backTo cpos (starEach [e,f] X.env)).all (λx=> !x.1)&&(backToKw cpos (keywordEach [] X.env)).all (λx=>x.1.isSome)
  &&decide (([e,f]:List Expr).length+([]:List Keyword).length+(if ([]:List Keyword).isEmpty then 0 else 1) < 30))=true
 line:(apos.endLine==cpos.line)=true
 trees:backTo cpos (starEach [e,f] X.env)=[(false,eval e X.env),(false,eval f X.env)]
section
variable{X:Cx}{pins:List (Addr×Obj)}{σ:St}{H:Hp}{s:Shared}{a:Addr}{y d:V}{u r:Value}{o:Option V}{A:Around}{E:Value->Shared->Prop}
end
section
variable{X:Cx}{o e f:Expr}{apos cpos:Pos}{td ty tx:TE}
end
section
variable{X:Cx}{pins:List (Addr×Obj)}{σ:St}{H:Hp}{s:Shared}{a:Addr}{kvs:List (qN×V)}{A:Around}{E:Value->Shared->Prop}
end
section
variable{X:Cx}{pins:List (Addr×Obj)}{σ:St}{H:Hp}{s:Shared}{a:Addr}{y:V}{u:Value}{A:Around}{E:Value->Shared->Prop}
end
end L2
namespace Att
open PySem PySem.W PySem.Calls PyProof.Rows
theorem Yw{P:Params}{h:Heap}:∀(ns:List Int) (vs:List Value),WellAll P h vs (ns.map WData.int)->IntsAre vs ns:=by
 intro ns
 induction ns with
 | nil=>
  intro vs w
  rw[zct]at w
  cases w
  exact .nil
 | cons n ns ih=>
  intro vs w
  rw[tU]at w
  cases w with
  | cons a b=>
   cases a
   exact .cons _ _ (ih _ b)
theorem yG{l:OpenLaw}{n:Nat}(hn:l.most=some n){P:Params}{h:Heap}{args:List WData}{vals:List Value}
  (hpre:l.row.toRowW.claim.pre args=true) (hwl:WellAll P h vals args):
  ∃a vs ns,vals=[Value.ref a]/\args=[WData.list (ns.map WData.int)]/\h.get? a=some {cls:=.type "list",data:=.seq vs.toArray}/\IntsAre vs ns/\ns.length<=n:=by
 have hsh:WShape.hasAll [] args [.list .int]=true:=(pre_splitW hpre).1
 have hc:l.pre.holds [] {args:=args}=true:=(pre_splitW hpre).2
 obtain⟨d,r,rfl,h1,h2⟩:=hasAllW_cons hsh
 obtain rfl:=hasAllW_nil h2
 obtain⟨xs,rfl,h3⟩:=hasW_list h1
 obtain⟨ns,rfl⟩:=items_int h3
 have hlen:ns.length<=n:=by
  unfold OpenLaw.pre at hc
  have h4:(WTm.not (.lt (.lit (.int (n:Int))) (.len (.arg 0)))).holds [] {args:=[.list (ns.map .int)]}=true:=by
   have h4:=(holds_andW hc).1
   rw[hn]at h4
   exact h4
  have h5:=condW_of h4 (w_not (w_lt w_lit (w_len_list (w_arg rfl))))
  rw[tj]at h5
  refine Nat.le_of_not_lt λq=>?_
  have q':(n:Int) < ((ns.length:Nat):Int):=by omega
  first
   | (rw[decide_eq_true q']at h5;exact absurd h5 (by decide))
   | (simp at h5;omega)
 cases hwl with
 | cons w1 w2=>
  cases w2
  cases w1 with
  | list ho hall=>exact⟨_,_,ns,rfl,rfl,ho,Yw ns _ hall,hlen⟩
theorem yO(l:OpenLaw)(args:List WData):l.row.toRowW.claim.post args (.bool true) args=true:=
 postW_of (r:=l.row.toRowW) (X:=(true==true))
  (show WShape.has [] (.bool true) .bool=true by first | rfl | decide | simp [WShape.has,WShape.arms,WShape.armsAll])
  (show (WTm.eq .res (.lit (.bool true))).value [] {args:=args,res:=some (.bool true),after:=args}=some (.bool (true==true)) from w_eq_bool (w_res rfl) w_lit) rfl
theorem attach_call{l:OpenLaw}{n:Nat}{q:Program}{loose:List Str}{XP:(Str->Option Value)->Heap->Prop}{YP:World->Heap->Prop}{d:DefRec}
  (hn:l.most=some n) (hdf:d.params.defaults=[])
  (call:∀(w:World) (s₀ s₁:Shared) (mg mb:Str->Option Value) (fa:Addr) (o:Obj) (pm cd doc:Value) (a:Addr) (vs:List Value) (ns:List Int),
   Ground q loose [] XP w s₀ mg mb s₁.heap->YP w s₁.heap->
   s₁.heap.get? fa=some o->o.data=.func (docDef d.name d.params d.body d.scope pm cd doc)->s₁.heap.CodeRec cd d.name->mg d.name=some (.ref fa)->
   s₁.heap.get? a=some {cls:=.type "list",data:=.seq vs.toArray}->IntsAre vs ns->ns.length<=n->s₁.gens=#[]->
   codeAny (model l.prog w) callerA (.call (.ref fa) ⟨[.ref a],[]⟩) (λr s'=>r=.ok (.ret (.bool true))/\OldK s₁.heap s'.heap/\s'.os=s₁.os/\AllBare s'.gens) s₁):
  WalkO q loose XP YP l.row.toRowW d [] (λf vs=>PySem.call f vs):=by
 intro w s₀ s₁ mg mb G Y fa o pm cd doc dV kV ho hd hcd hD hmg hg args vals as hpre hlay hrd hwl hlo
 obtain rfl:dV=.none:=Dflts.none hD hdf
 obtain rfl:kV=.none:=Dflts.noKw hD
 obtain⟨a,vs,ns,rfl,rfl,hobj,hints,hlen⟩:=yG hn hpre hwl
 refine enter_call (codeAny_mono (call w s₀ s₁ mg mb fa o pm cd doc a vs ns G Y ho (fd_plain hd) hcd hmg hobj hints hlen hg) λr s' hq=>?_)
 obtain⟨rfl,h2,h3,h4⟩:=hq
 exact⟨.inl ⟨.bool true,.bool true,[],rfl,λ_=>rfl,.bool true,yO l _,λ_=>⟨zdD.nil,λ_ hm=>(nomatch hm)⟩⟩,h2,h3,h4⟩
section
variable{prog:Program}{w:World}{A:Around}{E:Value->Shared->Prop}{s:Shared}{K:Frag}
end
end Att
namespace L2
open PySem PySem.Spec PyProof.Rows
theorem Wg:∀{vs:List Value} {ns:List Int},IntsAre vs ns->qG (ns.map V.int) vs
 | _,_,.nil=>.nil
 | _,_,.cons n t h=>.cons ⟨t,rfl⟩ (Wg h)
def qcM(H:Hp):Prop:=∀b,H b=none\/∃o xs,H b=some (.frz o (.lst xs))
def Qa(s:Stmt)(j:Nat):Stmt:=match s with
 | .ClassDef _ _ _ body _ _ _ _ _ _ _=>body.getD j (.Pass ⟨0,0,0,0⟩)
 | _=>.Pass ⟨0,0,0,0⟩
def QG(s:Stmt):Arguments:=match s with
 | .FunctionDef _ a _ _ _ _ _ _ _ _=>a
 | _=>{posonlyargs:=[],args:=[],vararg:=none,kwonlyargs:=[],kw_defaults:=[],kwarg:=none,defaults:=[]}
def jO(s:Stmt):List Stmt:=match s with
 | .FunctionDef _ _ b _ _ _ _ _ _ _=>b
 | _=>[]
def qj(s:Stmt):Scope:=match s with
 | .FunctionDef _ _ _ _ _ _ sc _ _ _=>sc
 | _=>{kind:=.function,names:=[],isGenerator:=false,isCoroutine:=false}
abbrev qH:Y6:=λ_ _ _ _ _ _=>False
abbrev E0:XK:=λ_ _ _=>False
theorem QR{X:Cx}:QD qH X E0:=λ_ _ _ _ _ _ _ h=>h.elim
structure jK(K:zdW)(x qual:Str)(st:Stmt)(f:Addr)(fd:zea):Prop where
 ex:∃(oc:Value) (od:Option Addr) (kV doc pm:Value) (an:Option Addr) (cdv ct:Value) (osl:Array (Option Value)),
  fd=zbk x qual (QG st) (jO st) (qj st) .none kV doc pm an cdv ct/\K.lookup f=some ⟨oc,od,.func fd,osl⟩/\zbE K cdv qual=true
 kp:zaA K (.ref f)=true
section
variable{P:Program}{w:World}{K:zdW}{mg:Str->Option Value}{base:Heap}
theorem jK.ok{x qual:Str}{st:Stmt}{f:Addr}{fd:zea}{N ps:List Str}{k:Nat}{sp:Sp}(F:jK K x qual st f fd)(S:qt N ps (qj st))(len:∀vs H Q E,sp vs H Q E->vs.length=ps.length)
  (hbody:∀(cdv:Value) (A:Around) (outer:List Env) (s:Shared) (H:Hp) (vs:List V) (Q:VK) (E:XK),qU k (A.deeper (envOfC qual (qj st) s.heap.objs.size f cdv))->sp vs H Q E->
   ∃t,KA (Zd qH P w K mg base N qual (qj st) f cdv A outer s H E).nox (jO st) t/\t {nx:=λ_ H'=>Q .non H',rt:=Q} (Qd N vs) H):qo P w K mg base qH (k+1) f fd ps sp:=by
 obtain⟨oc,od,kV,doc,pm,an,cdv,ct,osl,rfl,lk,hcd⟩:=F.ex
 refine NI lk hcd S len λA outer s H vs Q E hr hsp=>?_
 obtain⟨t,h,q⟩:=hbody cdv A outer s H vs Q E hr hsp
 exact⟨t,h.nox,q⟩
theorem jK.okJ{x qual:Str}{st:Stmt}{f:Addr}{fd:zea}{N ps:List Str}{k:Nat}{sp:Sp}(F:jK K x qual st f fd)(S:qt N ps (qj st))(len:∀vs H Q E,sp vs H Q E->vs.length=ps.length)
  (hbody:∀(cdv:Value) (A:Around) (outer:List Env) (s:Shared) (H:Hp) (vs:List V) (Q:VK) (E:XK),qU k (A.deeper (envOfC qual (qj st) s.heap.objs.size f cdv))->sp vs H Q E->
   ∃t,WR (Zd qH P w K mg base N qual (qj st) f cdv A outer s H E).nox (jO st) t/\t {nx:=λ_ H'=>Q .non H',rt:=Q} (Qd N vs) H):qo P w K mg base qH (k+1) f fd ps sp:=
 F.ok S len λcdv A outer s H vs Q E hr h=>let ⟨t,a,b⟩:=hbody cdv A outer s H vs Q E hr h;⟨t,a.to,b⟩
theorem jK.binds{x qual:Str}{st:Stmt}{f:Addr}{fd:zea}{ps:List Str}(F:jK K x qual st f fd)
  (h:∀(kV doc pm:Value) (an:Option Addr) (cdv ct:Value) (us:List Value),us.length=ps.length->bindArgs (zbk x qual (QG st) (jO st) (qj st) .none kV doc pm an cdv ct) ⟨us,[]⟩=pure (ps.zip us)):jE K fd ps []:=by
 obtain⟨oc,od,kV,doc,pm,an,cdv,ct,osl,rfl,lk,hcd⟩:=F.ex
 exact .all (h kV doc pm an cdv ct)
theorem Vv{x qual:Str}{st:Stmt}{f:Addr}{oc:Value}{od an:Option Addr}{osl:Array (Option Value)}{kV doc pm cdv ct:Value}(l:K.lookup f=some ⟨oc,od,.func (zbk x qual (QG st) (jO st) (qj st) .none kV doc pm an cdv ct),osl⟩)
 (c:zbE K cdv qual=true) (k:zaA K (.ref f)=true):jK K x qual st f (zbk x qual (QG st) (jO st) (qj st) .none kV doc pm an cdv ct):=⟨⟨oc,od,kV,doc,pm,an,cdv,ct,osl,rfl,l,c⟩,k⟩
end
theorem jX{A:Around}{k:Nat}(hr:qU k A):A.units+1 < cLine:=zaM (Nat.add_le_add_left (by decide:1<=64) _) hr.units
theorem qp{n:Nat}(h:n<=1000):n < zeb:=zaM h (by decide)
section
variable{X:Cx}
theorem pv(i:Nat){x:Str}{pos:Pos}(hN:X.N[i]?=some x:=by rfl)(hv:Vis X.env.scope x:=by first | exact Or.inl rfl | exact Or.inr (Or.inl rfl) | exact Or.inr (Or.inr rfl))(hd:(x==("__debug__":Str))=false:=by decide)
 (hcd:(x==("__classdict__":Str))=false:=by decide):PE X (.Name x pos) (jd i):=Mc hN hv hd hcd
theorem jv(i:Nat){x:Str}{pos:Pos}(hN:X.N[i]?=some x:=by rfl)(hv:Vis X.env.scope x:=by first | exact Or.inl rfl | exact Or.inr (Or.inl rfl) | exact Or.inr (Or.inr rfl))(hd:(x==("__debug__":Str))=false:=by decide)(hcd:(x==("__classdict__":Str))=false:=by decide):JE X (.Name x pos) (jd i):=.of (pv i hN hv hd hcd)
end
theorem ji{A B:Prop}(h:B):if false=true then A else B:=by
 rw[if_neg tN]
 exact h
theorem j3{A B:Prop}(h:A):if true=true then A else B:=by
 rw[if_pos rfl]
 exact h
theorem xk{c A B:Prop}[Decidable c](h1:c->A)(h2:¬c->B):if c then A else B:=by
 by_cases h:c
 ·rw[if_pos h]
  exact h1 h
 ·rw[if_neg h]
  exact h2 h
def Same(H H':Hp):Prop:=∀b o,H b=some o->H' b=some o
theorem Same.refl(H:Hp):Same H H:=λ_ _ h=>h
theorem Same.trans{H H1 H2:Hp}(a:Same H H1)(b:Same H1 H2):Same H H2:=λc o h=>b c o (a c o h)
theorem Same.seq{K:zdW}{H H':Hp}{a:Addr}{xs:List V}(e:Same H H')(h:SqL K H a xs):SqL K H' a xs:=by
 rcases h with (h | ⟨o,h⟩) | h
 ·exact .inl (.inl (e _ _ h))
 ·exact .inl (.inr ⟨o,e _ _ h⟩)
 ·exact .inr h
section
variable{X:Cx}
end
section
variable{κ:Type}[DecidableEq κ]
theorem xH{kvs:List (κ×V)}{k:κ}(h:jg kvs k=none):¬k∈kvs.map (·.1):=by
 intro m
 obtain⟨p,hp,e⟩:=tL.mp m
 have q:(kvs.any λkv=>decide (kv.1=k))=true:=zbj.mpr ⟨p,hp,decide_eq_true e⟩
 rw[QH,h]at q
 exact absurd q (by simp)
theorem KI{kvs:List (κ×V)}{k:κ}{v:V}(h:jg kvs k=some v):k∈kvs.map (·.1):=by
 have q:(kvs.any λkv=>decide (kv.1=k))=true:=by
  rw[QH,h]
  all_goals rfl
 obtain⟨p,hp,e⟩:=zbj.mp q
 exact tL.mpr ⟨p,hp,of_decide_eq_true e⟩
theorem kR:∀{l:List κ} {k:κ},l.Nodup->¬k∈l->(l++[k]).Nodup
 | [],k,_,_=>by simp
 | a::r,k,h,hk=>by
  obtain⟨h1,h2⟩:=zal.mp h
  show (a::(r++[k])).Nodup
  refine zal.mpr ⟨λm=>?_,kR h2 λm=>hk (tS.mpr (Or.inr m))⟩
  rcases tX.mp m with q | q
  ·exact h1 q
  ·exact hk (tS.mpr (Or.inl (t7.mp q).symm))
theorem Rp{kvs:List (κ×V)}{k:κ}(v:V)(hn:(kvs.map (·.1)).Nodup)(h:jg kvs k=none):((jQ kvs k v).map (·.1)).Nodup:=by
 rw[QJ v h,tI]
 exact kR hn (xH h)
end
end L2
set_option maxHeartbeats 4000000
namespace L2
open PySem PySem.Spec PyProof.Rows
theorem k4:(NameKind.free==NameKind.free)=true:=rfl
def qY(env:Env):List (Str×NameKind)->List (Str×Addr)->List (Str×Addr)
 | [],cs=>cs
 | (n,k)::r,cs=>qY env r (if k==.free then (n,(env.cells.lookup n).getD 0)::cs else cs)
theorem Jq{scope:Scope}{env:Env}(h:∀x∈scope.names,x.2=.free->∃c,env.cells.lookup x.1=some c):closureFor scope env=pure (qY env scope.names []):=by
 simp only[closureFor]
 have key:∀(l:List (Str×NameKind)) (cs:List (Str×Addr)),(∀x∈l,x.2=.free->∃c,env.cells.lookup x.1=some c)->
   (forIn l cs λx (r:List (Str×Addr))=>if (x.snd==NameKind.free)=true then (do let a <-cellOf env x.fst;pure (ForInStep.yield ((x.fst,a)::r)):Sem (ForInStep (List (Str×Addr)))) else pure (ForInStep.yield r))=(pure (qY env l cs):Sem (List (Str×Addr))):=by
  intro l
  induction l with
  | nil=>intro cs _;rfl
  | cons x l ih=>
   intro cs hl
   obtain⟨n,k⟩:=x
   have ihl:=λcs'=>ih cs' λy hy=>hl y (tY _ hy)
   rw[List.forIn_cons]
   by_cases hk:k=.free
   ·subst hk
    obtain⟨c,hc⟩:=hl (n,.free) t8 rfl
    have e1:cellOf env n=pure c:=by
     unfold cellOf
     have hc':env.cells.lookup n=some c:=hc
     rw[hc']
    have e2:qY env ((n,NameKind.free)::l) cs=qY env l ((n,c)::cs):=by
     have hc':env.cells.lookup n=some c:=hc
     show qY env l (if (NameKind.free==NameKind.free)=true then (n,(env.cells.lookup n).getD 0)::cs else cs)=_
     rw[if_pos k4,hc']
     rfl
    rw[e2,<-ihl]
    dsimp only
    rw[if_pos k4,e1]
    rfl
   ·have hb:(k==NameKind.free)=false:=by simpa using hk
    have e2:qY env ((n,k)::l) cs=qY env l cs:=by
     show qY env l (if (k==NameKind.free)=true then (n,(env.cells.lookup n).getD 0)::cs else cs)=_
     rw[if_neg (by rw[hb];decide)]
    rw[e2,<-ihl]
    dsimp only
    rw[if_neg (by rw[hb];decide)]
    rfl
 rw[key scope.names [] h]
 rfl
theorem Jl{env:Env}{x:Str}{c:Addr}:∀{l:List (Str×NameKind)} {cs:List (Str×Addr)},(qY env l cs).lookup x=some c->cs.lookup x=some c\/((x,NameKind.free)∈l/\c=(env.cells.lookup x).getD 0)
 | [],cs,h=>.inl h
 | (n,k)::r,cs,h=>by
  rcases Jl (l:=r) h with h | ⟨h1,h2⟩
  ·by_cases hk:k=.free
   ·subst hk
    rw[if_pos k4,zaz]at h
    by_cases hx:x=n
    ·subst hx
     simp only[beq_self_eq_true]at h
     exact .inr ⟨t8,(tO.inj h).symm⟩
    ·have hb:(x==n)=false:=beq_eq_false_iff_ne.mpr hx
     simp only[hb]at h
     exact .inl h
   ·have hb:(k==NameKind.free)=false:=by simpa using hk
    rw[if_neg (by rw[hb];decide)]at h
    exact .inl h
  ·exact .inr ⟨tY _ h1,h2⟩
theorem J7{env:Env}{x:Str}:∀{l:List (Str×NameKind)} {cs:List (Str×Addr)},((x,NameKind.free)∈l\/∃c,cs.lookup x=some c)->∃c,(qY env l cs).lookup x=some c
 | [],cs,h=>by
  rcases h with h | h
  ·cases h
  ·exact h
 | (n,k)::r,cs,h=>by
  show ∃c,(qY env r (if (k==NameKind.free)=true then (n,(env.cells.lookup n).getD 0)::cs else cs)).lookup x=some c
  refine J7 (l:=r) ?_
  rcases h with h | ⟨c,h⟩
  ·rcases tS.mp h with h | h
   ·cases h
    refine .inr ⟨(env.cells.lookup x).getD 0,?_⟩
    rw[if_pos k4,zaz]
    simp only[beq_self_eq_true]
   ·exact .inl h
  ·refine .inr ?_
   by_cases hk:(k==NameKind.free)=true
   ·rw[if_pos hk,zaz]
    cases hx:x==n with
    | true=>exact⟨_,rfl⟩
    | false=>exact⟨c,h⟩
   ·rw[if_neg hk]
    exact⟨c,h⟩
theorem zo{scope:Scope}{env:Env}{x:Str}{k:NameKind}:∀{names:List (Str×NameKind)},names.lookup x=some k->
  ∃k',(names.map λ(n,k)=>if (k==NameKind.free&&env.scope.kind==.function&&env.kindOf n==some .cell) then (n,NameKind.cell) else (n,k)).lookup x=some k'/\(k'=k\/(k=.free/\k'=.cell))
 | [],h=>by simp at h
 | (n,j)::r,h=>by
  rw[tU]
  by_cases hx:x=n
  ·subst hx
   rw[zaz]at h
   simp only[beq_self_eq_true]at h
   cases h
   dsimp only
   by_cases hc:(k==NameKind.free&&env.scope.kind==.function&&env.kindOf x==some .cell)=true
   ·rw[if_pos hc,zaz]
    simp only[beq_self_eq_true]
    refine⟨_,rfl,.inr ⟨?_,rfl⟩⟩
    simp only[zar,beq_iff_eq]at hc
    exact hc.1.1
   ·rw[if_neg hc,zaz]
    simp only[beq_self_eq_true]
    exact⟨_,rfl,.inl rfl⟩
  ·have hb:(x==n)=false:=beq_eq_false_iff_ne.mpr hx
   rw[zaz]at h
   simp only[hb]at h
   obtain⟨k',h1,h2⟩:=zo (env:=env) (scope:=scope) h
   refine⟨k',?_,h2⟩
   dsimp only
   by_cases hc:(j==NameKind.free&&env.scope.kind==.function&&env.kindOf n==some .cell)=true
   ·rw[if_pos hc,zaz]
    simp only[hb]
    exact h1
   ·rw[if_neg hc,zaz]
    simp only[hb]
    exact h1
theorem mem_of_lookup{x:Str}{k:NameKind}:∀{l:List (Str×NameKind)},l.lookup x=some k->(x,k)∈l
 | [],h=>by simp at h
 | (n,j)::r,h=>by
  rw[zaz]at h
  by_cases hx:x=n
  ·subst hx
   simp only[beq_self_eq_true]at h
   cases h
   exact t8
  ·have hb:(x==n)=false:=beq_eq_false_iff_ne.mpr hx
   simp only[hb]at h
   exact tY _ (mem_of_lookup h)
theorem ZR{f:Str×NameKind->Str×NameKind}(hf:∀p,(f p).1=p.1){x:Str}{k:NameKind}:∀{l:List (Str×NameKind)},(l.map f).lookup x=some k->∃j,l.lookup x=some j/\(f (x,j)).2=k
 | [],h=>by simp at h
 | (n,j)::r,h=>by
  rw[tU]at h
  have e:f (n,j)=(n,(f (n,j)).2):=by
   have:=hf (n,j)
   exact Prod.ext this rfl
  rw[e,zaz]at h
  rw[zaz]
  by_cases hx:x=n
  ·subst hx
   simp only[beq_self_eq_true]at h ⊢
   exact⟨j,rfl,tO.inj h⟩
  ·have hb:(x==n)=false:=beq_eq_false_iff_ne.mpr hx
   simp only[hb]at h ⊢
   exact ZR hf h
def Ys(X:Cx)(N:List Str)(scope:Scope)(C:Addr)(s₂:Shared)(H₂:Hp)(fp:List Addr)(pins:List (Addr×Obj)):Cx where
 prog:=X.prog
 w:=X.w
 K:=X.K
 mg:=X.mg
 base:=X.base
 A:=X.A
 N:=N
 s₀:=s₂
 H₀:=H₂
 env:=compEnvC scope (qY X.env scope.names []) C X.env
 outer:=X.stack
 stack:=X.stack
 ex:=fp
 fn:=λ_=>false
 calm:=X.calm
 pn:=X.pn++pins
 xe:=λ_ _=>False
def NU(ix:List (Option Nat))(σ:St):St:=ix.map λo=>o.bind λj=>(σ[j]?).join
def RH(N' N:List Str)(sc esc:Scope)(ix:List (Option Nat)):Bool:=
 ix.length==N'.length&&(ix.zip N').all λp=>match p.1 with
  | none=>true
  | some j=>N[j]?==some p.2&&sc.names.lookup p.2==some .free&&(esc.names.lookup p.2==some .cell || esc.names.lookup p.2==some .free)
structure Qc(X:Cx)(N':List Str)(ix:List (Option Nat))(scope:Scope):Prop where
 kind:scope.kind=.function
 nocell:(scope.names.all λx=>x.2 != .cell)=true
 locs:(scope.names.all λx=>x.2 != .local || scope.names.lookup x.1==some .local)=true
 frees:(scope.names.all λx=>x.2 != .free || (X.env.scope.names.lookup x.1==some .cell || X.env.scope.names.lookup x.1==some .free))=true
 ixs:RH N' X.N scope X.env.scope ix=true
section
variable{X:Cx}{N':List Str}{ix:List (Option Nat)}{scope:Scope}{pins:List (Addr×Obj)}{σ:St}{H:Hp}{s:Shared}
theorem Qc.cellH(S:Qc X N' ix scope):∀y∈scope.names,y.2≠.cell:=λy hy e=>by
 have:=zaQ.mp S.nocell y hy
 rw[e]at this
 exact absurd this (by decide)
theorem Qc.locH(S:Qc X N' ix scope):∀y∈scope.names,y.2=.local->scope.names.lookup y.1=some .local:=λy hy e=>by
 have:=zaQ.mp S.locs y hy
 simp only[e,zdo,bne_self_eq_false,zba,false_or,beq_iff_eq]at this
 exact this
theorem Qc.freeH(S:Qc X N' ix scope)(ok:X.Ok):∀x∈scope.names,x.2=.free->∃c,X.env.cells.lookup x.1=some c:=λx hx e=>by
 have:=zaQ.mp S.frees x hx
 simp only[e,zdo,bne_self_eq_false,zba,false_or,beq_iff_eq]at this
 exact ok.has x.1 this
theorem Qc.clook(S:Qc X N' ix scope)(ok:X.Ok){x:Str}{c:Addr}(h:(qY X.env scope.names []).lookup x=some c):X.env.cells.lookup x=some c/\(x,NameKind.free)∈scope.names:=by
 rcases Jl h with h | ⟨h1,h2⟩
 ·simp at h
 ·obtain⟨c',hc'⟩:=S.freeH ok _ h1 rfl
  have hc2:X.env.cells.lookup x=some c':=hc'
  rw[hc2]at h2
  subst h2
  exact⟨hc2,h1⟩
theorem qbu{C:Addr}{fp:List Addr}(S:Qc X N' ix scope)(I:qz X pins σ H s)(hC:s.heap.objs.size<=C)(hf:∀b∈fp,JM X pins H b)(hfo:∀b∈fp,b < s.heap.objs.size):(Ys X N' scope C s H fp pins).Ok where
 mod:=I.ok.mod
 kind:=S.kind
 glob:=I.ok.glob
 blt:=I.ok.blt
 above:=hC
 inj:=λx y c h1 h2=>I.ok.inj x y c (S.clook I.ok h1).1 (S.clook I.ok h2).1
 has:=λx hx=>by
  have hx':(relabel scope X.env).names.lookup x=some .cell\/(relabel scope X.env).names.lookup x=some .free:=hx
  refine J7 (.inl ?_)
  have go:∀k,(k=NameKind.cell\/k=.free)->(relabel scope X.env).names.lookup x=some k->(x,NameKind.free)∈scope.names:=λk hk h=>by
   obtain⟨j,h1,h2⟩:=ZR (f:=λ(n,k)=>if (k==NameKind.free&&X.env.scope.kind==.function&&X.env.kindOf n==some .cell) then (n,NameKind.cell) else (n,k)) (λp=>by dsimp only;split<;>rfl) h
   have hm:=mem_of_lookup h1
   by_cases hj:j=.free
   ·subst hj;exact hm
   ·exfalso
    have hb:(j==NameKind.free)=false:=by simpa using hj
    dsimp only at h2
    rw[hb,zcM,zcM,if_neg (by decide)]at h2
    have h2':j=k:=h2
    rcases hk with e | e
    ·exact S.cellH _ hm (h2'.trans e)
    ·exact hj (h2'.trans e)
  rcases hx' with h | h
  ·exact go _ (.inl rfl) h
  ·exact go _ (.inr rfl) h
 cab:=λx c h _=>by cases h
 hd:=I.ok.hd
 frames:=I.ok.frames
 stk:=.inl rfl
 exf:=λb hb=>⟨tQ (tM (hfo b hb) hC),λx c h=>(hf b hb).2.2.2.2.1 x c (S.clook I.ok h).1⟩
 bs:=I.bs
 bsz:=zaa I.ok.bsz I.sz
 noex:=λb o e hb=>by
  rcases(hf b hb).2.2.2.1 with h | h
  ·exact I.ok.noex b o e h
  ·exact absurd (tM (tK e) (zaa I.ok.bsz h)) (zao _)
 exfs:=λb hb hm=>by
  rcases tS.mp (I.stkSub b hm) with e | e
  ·exact(hf b hb).2.1 e
  ·exact(hf b hb).2.2.1 e
 funs:=I.stack
 frf:=I.stkFree
theorem xo{C D:Addr}{fp:List Addr}{h₁:Heap}{m:Str->Option Value}{t':Nat}{n₀:Nat}(S:Qc X N' ix scope)(I:qz X pins σ H s)(hf:∀b∈fp,JM X pins H b)(hfo:∀b∈fp,b < s.heap.objs.size)
  (hD:s.heap.objs.size<=D) (hC:s.heap.objs.size<=C) (hDC:D≠C) (kp:∀b o,s.heap.get? b=some o->h₁.get? b=some o) (hn:h₁.Ns C m) (hl:h₁.get? D=some {cls:=.type "list",data:=.seq #[] n₀}):
  qz (Ys X N' scope C s H fp pins) [] (NU ix σ) (upd H D (.lst [])) {s with heap:=h₁,toks:=t'} where
 ok:=qbu S I hC hf hfo
 os:=rfl
 bare:=I.bare
 base:=Un.laid kp hD (I.hok.fresh hD)
 loc:=by
  refine⟨m,hn,λi x v e1 e2 e3=>?_⟩
  have hix:=S.ixs
  unfold RH at hix
  rw[zar]at hix
  obtain⟨hlen,hall⟩:=hix
  have hlen':ix.length=N'.length:=by simpa using hlen
  have e1':N'[i]?=some x:=e1
  unfold NU at e2
  rw[tG]at e2
  cases ho:ix[i]? with
  | none=>rw[ho]at e2;cases e2
  | some o=>
   rw[ho]at e2
   cases o with
   | none=>cases e2
   | some j=>
    have e2':(σ[j]?).join=some v:=tO.inj e2
    have hz:(ix.zip N')[i]?=some (some j,x):=by
     rw[List.getElem?_zip_eq_some]
     exact⟨ho,e1'⟩
    have hm:=zaQ.mp hall _ (t9 hz)
    dsimp only at hm
    simp only[zar,beq_iff_eq,zdo]at hm
    obtain⟨⟨hN,hfr⟩,hk⟩:=hm
    have e2'':σ[j]?=some (some v):=by
     cases q:σ[j]? with
     | none=>rw[q]at e2';cases e2'
     | some z=>
      rw[q]at e2'
      have:z=some v:=e2'
      rw[this]
    obtain⟨mX,hnX,hlX⟩:=I.loc
    have hvis:Vis X.env.scope x:=by
     rcases hk with h | h
     ·exact .inr (.inl h)
     ·exact .inr (.inr h)
    obtain⟨u,ru,lu⟩:=hlX j x v hN e2'' hvis
    refine⟨u,ru,?_⟩
    rcases lu with ⟨hk',_⟩ | ⟨_,c,hc,hcell⟩
    ·exfalso
     have hk'':X.env.scope.names.lookup x=some .local:=hk'
     rcases hk with h | h<;>rw[h]at hk''<;>cases hk''
    ·right
     obtain⟨k',r1,r2⟩:=zo (scope:=scope) (env:=X.env) hfr
     refine⟨?_,?_⟩
     ·rcases r2 with z | ⟨_,z⟩
      ·right;rw[z]at r1;exact r1
      ·left;rw[z]at r1;exact r1
     ·obtain⟨c',hc'⟩:=J7 (env:=X.env) (cs:=[]) (.inl (mem_of_lookup hfr))
      have:=(S.clook I.ok hc').1
      rw[hc]at this
      cases this
      obtain⟨o,ho',hd⟩:=hcell
      exact⟨c,hc',o,kp _ _ ho',hd⟩
 cell:=λx c h=>by
  obtain⟨v,o,ho,hd⟩:=I.cell x c (S.clook I.ok h).1
  exact⟨v,o,kp _ _ ho,hd⟩
 free:=by
  show (upd H D _) C=none
  rw[qi (Ne.symm hDC)]
  exact I.hok.fresh hC
 freeC:=λx c h=>by
  have h1:=(S.clook I.ok h).1
  obtain⟨v,o,ho,hd⟩:=I.cell x c h1
  rw[qi (tQ (tM (tK ho) hD))]
  exact(I.freeC x c h1).imp id λz=>⟨rfl,z.2⟩
 pin:=λp hp=>by
  have hp':p∈X.pn++pins:=by
   have:p∈(X.pn++pins)++[]:=hp
   simpa using this
  obtain⟨e,n,ne,nf,d⟩:=I.pin p hp'
  have hlt:=tK e
  refine⟨kp _ _ e,?_,tQ (tM hlt hC),λhm=>?_,d⟩
  ·rw[qi (tQ (tM hlt hD))];exact n
  ·rcases tS.mp (I.stkSub p.1 hm) with z | z
   ·exact ne z
   ·exact nf z
 hok:=I.hok.laid kp hD ⟨zaw _,[],n₀,.nil,hl⟩
 len:=by
  have hix:=S.ixs
  unfold RH at hix
  rw[zar]at hix
  have:ix.length=N'.length:=by simpa using hix.1
  show (NU ix σ).length=N'.length
  unfold NU
  rw[tj,this]
theorem uZ{C:Addr}{fp:List Addr}{σ':St}{H':Hp}{s':Shared}{pl:List (Addr×Obj)}(I:qz X pins σ H s)(hf:∀b∈fp,JM X pins H b)(J:qz (Ys X N' scope C s H fp pins) pl σ' H' s'):qz X pins σ H' s':=
 I.call' (ch:=fp) J.os J.base J.hok J.bare λb hb=>⟨(hf b hb).2.2.2.1,(hf b hb).2.1,(hf b hb).2.2.2.2.1,(hf b hb).2.2.2.2.2⟩
theorem uY{C:Addr}{H':Hp}{s₀ s':Shared}{h':Heap}(I₀:qz X pins σ H s₀)(I:qz X pins σ H' s')(hC:s₀.heap.objs.size<=C)(hn:H' C=none)(sb:Heap.SameBut C s'.heap h'):qz X pins σ H' {s' with heap:=h'}:=by
 refine I.turned (it:=C) (t':=s'.toks) (λb o hb e=>(sb.2 b hb).trans e) hn (zbH (tM I₀.lt hC)) (.inr (zaa I₀.sz hC)) (λx c e z=>?_) λp hp z=>?_
 ·obtain⟨v,q⟩:=I₀.cell x c e
  exact absurd (tM q.lt (by rw[z];exact hC)) (zao _)
 ·exact absurd (tM (tK (I₀.pin p hp).1) (by rw[z];exact hC)) (zao _)
end
def PTs(X:Cx)(ifs:List Expr)(t:TT):Prop:=
 ∀(pins:List (Addr×Obj)) (s:Shared) (σ:St) (H:Hp) (Q:Bool->Hp->Prop),qz X pins σ H s->t σ H Q->
  wpAny (model X.prog X.w) X.A (forIn ifs true λc r=>if r=true then do let ok <-isTrue c X.env (eval c X.env);pure (ForInStep.yield ok) else pure (ForInStep.yield r)) (TP X pins σ Q) X.xe s
@[irreducible] def KB (X:Cx) (ifs:List Expr) (t:TT):Prop:=PTs X ifs t
theorem KB.of{X:Cx}{ifs:List Expr}{t:TT}(h:PTs X ifs t):KB X ifs t:=by unfold KB;exact h
theorem KB.to{X:Cx}{ifs:List Expr}{t:TT}(h:KB X ifs t):PTs X ifs t:=by unfold KB at h;exact h
def qbW:TT:=λ_ H Q=>Q true H
theorem jN{X:Cx}:KB X [] qbW:=.of (by
 exact λ_ _ _ H _ I h=>wpAny_tests_nil ⟨H,I,h⟩)
theorem jV{X:Cx}{c:Expr}{t:TT}(h:JT X c t):KB X [c] t:=.of (by
 have h:=h.to
 exact λpins s σ H Q I hw=>wpAny_tests_one (h pins s σ H Q I hw))
section
variable{prog:Program}{w:World}{A:Around}{R:Result->Shared->Prop}{s:Shared}
theorem Vy{elt target iter:Expr}{ifs:List Expr}{scope:Scope}{pos:Pos}{it acc:Value}{env:Env}(I:Nat->Shared->Prop)
  (turn:∀n s,I n s->wpAny (model prog w) A (pyNext it) (λr s₁=>match r with
   | none=>R (.ok .next) s₁
   | some v=>wpAny (model prog w) A (letOwnedTupleGo target it v) (λ_ s₁'=>wpAny (model prog w) A (assign target env v) (λ_ s₂=>
    wpAny (model prog w) A (forIn ifs true λc r=>if r=true then do let ok <-isTrue c env (eval c env);pure (ForInStep.yield ok) else pure (ForInStep.yield r)) (λok s₃=>
     if ok=true then wpAny (model prog w) A (eval elt env) (λx s₄=>
      wpAny (model prog w) A (call (.builtin "list.append") [acc,x]) (λ_ s₅=>∃m,m < n/\I m s₅) (λ_ _=>False) s₄) (λ_ _=>False) s₃
     else ∃m,m < n/\I m s₃) (λ_ _=>False) s₂) (λ_ _=>False) s₁') (λ_ _=>False) s₁) (λ_ _=>False) s)
  (n:Nat) (h:I n s):
  codeAny (model prog w) A (.compLoop (.ListComp elt [⟨target,iter,ifs,0⟩] scope pos) 0 it acc env) R s:=by
 refine codeAny_loop rfl I (λn s hI=>?_) n h
 show wpAny _ A ((compTurn (.ListComp elt [⟨target,iter,ifs,0⟩] scope pos) 0 it acc env).onRaise (λx=>do noteFrame x env;theTreesLotGoes x)) _ _ s
 refine wpAny_noted ?_
 rw[compTurn_list]
 refine zdY (wpAny_standAt (zdY (wpAny_mono (turn n s hI) (λr s₁ h₁=>?_) λ_ _ h'=>h'.elim)))
 cases r with
 | none=>exact zdZ h₁
 | some v=>
  refine zdY (wpAny_mono h₁ (λ_ s₁' h₁'=>?_) λ_ _ h'=>h'.elim)
  refine zdY (wpAny_mono h₁' (λ_ s₂ h₂=>zdY (wpAny_mono h₂ (λok s₃ h₃=>?_) λ_ _ h'=>h'.elim)) λ_ _ h'=>h'.elim)
  cases ok with
  | false=>exact zdZ ⟨rfl,h₃⟩
  | true=>
   exact zdY (zdY (wpAny_mono h₃ (λx s₄ h₄=>zdY (wpAny_mono h₄ (λ_ s₅ h₅=>zdZ (zdZ ⟨rfl,h₅⟩)) λ_ _ h'=>h'.elim)) λ_ _ h'=>h'.elim))
end
def X8(J:It)(g:TG)(tt:TT)(te:TE)(D:Addr)(σ:St)(H:Hp)(Q:Hp->Prop):Prop:=
 ∃W:Nat->Nat->St->Hp->Prop,(∃m,W 0 m σ (upd H D (.lst [])))/\∀i m σ' H',W i m σ' H'->
  (J.stop i H'/\Q H')\/(J.go i H'/\∃N:St->Hp->Prop,(∀σ2 H2,N σ2 H2->∃m',m' < m/\W (i+1) m' σ2 H2)/\∀x H2,J.yld i H' x H2->g x σ' H2 λσ2 H3=>tt σ2 H3 λb H4=>
   if b=true then te σ2 H4 λv H5=>∃ys,H5 D=some (.lst ys)/\ys.length < zeb/\N σ2 (upd H5 D (.lst (ys++[v]))) else N σ2 H4)
def tLC(wi:TI)(ix:List (Option Nat))(g:TG)(tt:TT)(te:TE):TE:=λσ H Q=>wi σ H λJ H1=>∀D,H1 D=none->X8 J g tt te D (NU ix σ) H1 λH2=>Q (.ref D) H2
section
variable{X:Cx}{N':List Str}{ix:List (Option Nat)}{scope:Scope}
theorem WJ{elt iter target:Expr}{ifs:List Expr}{pos:Pos}{g:TG}{tt:TT}{te:TE}{pins:List (Addr×Obj)}{σ:St}{H:Hp}{s:Shared}{it:Addr}{fp:List Addr}{tn:Nat->Heap->Prop}{J:It}{E:Value->Shared->Prop}
  {RR:Value->Addr->Result->Shared->Prop} {Q:Addr->Hp->Prop}
  (hc:X.calm=true) (S:Qc X N' ix scope) (I:qz X pins σ H s) (T:UI X.prog X.w X.K target J fp it tn) (st:tn 0 s.heap) (hf:∀b∈fp,JM X pins H b)
  (hb:∀C s₂ H₂ fp pins,PG (Ys X N' scope C s₂ H₂ fp pins) target g/\PTs (Ys X N' scope C s₂ H₂ fp pins) ifs tt/\PE (Ys X N' scope C s₂ H₂ fp pins) elt te)
  (h:∀D,H D=none->X8 J g tt te D (NU ix σ) H (Q D))
  (fin:∀(D C:Addr) (H':Hp) (s':Shared) (m:Str->Option Value),s.heap.objs.size<=C->H' C=none->s'.heap.Ns C m->qz X pins σ H' s'->Q D H'->RR (.ref D) C (.ok .next) s'):
  wpAny (model X.prog X.w) X.A (newList []) (λacc s₃=>wpAny (model X.prog X.w) X.A (newFunctionEnv scope X.env.globals (qY X.env scope.names []) [] X.env.qual none .none (some X.env)) (λcenv s₄=>
   codeAny (model X.prog X.w) X.A (.compStart (.ListComp elt [⟨target,iter,ifs,0⟩] scope pos) 0 (.ref it) acc {cenv with scope:=relabel scope X.env}) (RR acc cenv.locals) s₄) E s₃) E s:=by
 have hfo:∀b∈fp,b < s.heap.objs.size:=λb hb=>by
  obtain⟨o,e,_⟩:=T.obj _ _ st b hb
  exact tK e
 refine wpAny_newObj_type (wpAny_newFunctionEnv S.cellH (by intro y hy;simp at hy) (λh₁ hns₁ hsb₁=>?_) S.kind)
 dsimp only at hns₁ hsb₁ ⊢
 generalize hH2:s.heap.push {cls:=.type "list",dict:=none,data:=.seq ([]:List Value).toArray}=H2 at hns₁ hsb₁ ⊢
 have hC:H2.objs.size=s.heap.objs.size+1:=by rw[<-hH2,zbm]
 have hDC:s.heap.objs.size≠H2.objs.size:=by rw[hC];exact tQ (zaI _)
 have hCle:s.heap.objs.size<=H2.objs.size:=by rw[hC];exact zdu _
 have below:∀b,b < s.heap.objs.size->b≠H2.objs.size:=λb hb=>by rw[hC];exact tQ (zbS hb)
 have old:∀b o,s.heap.get? b=some o->h₁.get? b=some o:=λb o e=>hsb₁.extBut b o (below b (tK e)) (tu _ (hH2▸tu _ e))
 have hacc:h₁.get? s.heap.objs.size=some {cls:=.type "list",data:=.seq #[] 0}:=hsb₁.extBut _ _ hDC (tu _ (hH2▸tV _ rfl))
 obtain⟨W,⟨m0,w0⟩,turn⟩:=h s.heap.objs.size (I.hok.fresh (tz _))
 have I1:qz (Ys X N' scope H2.objs.size s H fp pins) [] (NU ix σ) (upd H s.heap.objs.size (.lst [])) {s with heap:=h₁,toks:=s.toks+([]:List (Str×Value)).length}:=
  xo S I hf hfo (tz _) hCle hDC old hns₁ hacc
 have st₁:tn 0 h₁:=T.keep _ _ _ st λb hb o e=>old b o e
 have fpn:∀b∈fp,(upd H s.heap.objs.size (.lst [])) b=none:=λb hb=>by
  rw[qi (tQ (hfo b hb))]
  exact(hf b hb).1
 obtain⟨hg,htt,hte⟩:=hb H2.objs.size s H fp pins
 have okY:=I1.ok
 have stat:∀{H':Hp},(∀b∈fp,H' b=none)->∀b∈fp,JM (Ys X N' scope H2.objs.size s H fp pins) [] H' b:=λ{H'} hn b hb=>
  ⟨hn b hb,(okY.exf b hb).1,okY.exfs b hb,.inl hb,(okY.exf b hb).2,λp hp=>by
   have hp':p∈X.pn++pins:=by
    have:p∈(X.pn++pins)++[]:=hp
    simpa using this
   exact(hf b hb).2.2.2.2.2 p hp'⟩
 have loop:codeAny (model X.prog X.w) X.A (.compLoop (.ListComp elt [⟨target,iter,ifs,0⟩] scope pos) 0 (.ref it) (.ref s.heap.objs.size) (compEnvC scope (qY X.env scope.names []) H2.objs.size X.env))
   (RR (.ref s.heap.objs.size) H2.objs.size) {s with heap:=h₁,toks:=s.toks+([]:List (Str×Value)).length}:=by
  refine Vy (λn s'=>∃i σ' H',qz (Ys X N' scope H2.objs.size s H fp pins) [] σ' H' s'/\tn i s'.heap/\(∀b∈fp,H' b=none)/\W i n σ' H') ?_ m0 ⟨0,_,_,I1,st₁,fpn,w0⟩
  rintro n s3 ⟨i,σ3,H3,I3,st3,fr3,w3⟩
  rcases turn i n σ3 H3 w3 with ⟨stop,qn⟩ | ⟨go,NN,hNN,step⟩
  ·refine jf (T.done (Ys X N' scope H2.objs.size s H fp pins) rfl rfl rfl hc i [] s3 σ3 H3 _ I3 (stat fr3) st3 stop) λr s4 ⟨hr,I4⟩=>?_
   subst hr
   obtain⟨mm,hnm,_⟩:=I4.loc
   exact fin _ _ H3 s4 mm hCle I4.free hnm (uZ I hf I4) qn
  ·refine jf (T.item (Ys X N' scope H2.objs.size s H fp pins) rfl rfl rfl hc i [] s3 σ3 H3 _ I3 (stat fr3) st3 go) λr s4 ⟨u,hr,h4⟩=>?_
   subst hr
   refine jf h4 λ_ s5 ⟨x,H5,I5,r5,y5,st5,fr5⟩=>?_
   have I5':=I5.pinned (stat fr5) (T.obj _ _ st5)
   refine jf (hg _ s5 σ3 H5 x u _ I5' r5 (step x H5 y5)) λ_ s6 ⟨σ6,H6,I6,q6⟩=>?_
   refine jf (htt _ s6 σ6 H6 _ I6 q6) λok s7 ⟨H7,I7,q7⟩=>?_
   have again:∀{σ8:St} {H8:Hp} {s8:Shared},qz (Ys X N' scope H2.objs.size s H fp pins) ([]++Xw fp s5.heap) σ8 H8 s8->NN σ8 H8->
     ∃m,m < n/\∃i σ' H',qz (Ys X N' scope H2.objs.size s H fp pins) [] σ' H' s8/\tn i s8.heap/\(∀b∈fp,H' b=none)/\W i m σ' H':=λ{σ8 H8 s8} I8 n8=>by
    obtain⟨m',hm,w8⟩:=hNN σ8 H8 n8
    refine⟨m',hm,i+1,σ8,H8,I8.unpinned,T.keep _ _ _ st5 λb hb o e=>(I8.pin (b,o) (tJ _ (tJ _ (JV hb e)))).1,λb hb=>?_,w8⟩
    obtain⟨o,e,d⟩:=T.obj _ _ st5 b hb
    exact(I8.pin (b,o) (tJ _ (tJ _ (JV hb e)))).2.1
   cases ok with
   | false=>
    rw[if_neg tN]at q7 ⊢
    exact again I7 q7
   | true=>
    rw[if_pos rfl]at q7 ⊢
    refine jf (hte _ s7 σ6 H7 _ I7 q7) λv s8 ⟨y,H8,I8,r8,q8⟩=>?_
    obtain⟨ys,hy,hz,q8⟩:=q8
    refine jf (QA (X:=Ys X N' scope H2.objs.size s H fp pins) _ s8 σ6 H8 (.ref s.heap.objs.size) [y] (.ref s.heap.objs.size) [v] (λ_ H9=>NN σ6 H9) I8 rfl (.cons r8 .nil) ⟨_,ys,y,rfl,rfl,hy,hz,q8⟩) λ_ s9 ⟨_,H9,I9,_,q9⟩=>?_
    exact again I9 q9
 exact codeAny_compStart_list loop (T.self X.A 0 _ _ _ st₁ loop)
theorem qaZ{elt iter target:Expr}{ifs:List Expr}{pos:Pos}{wi:TI}{g:TG}{tt:TT}{te:TE}(hc:X.calm=true)(S:Qc X N' ix scope)(hi:PI X target iter wi)
  (hb:∀C s₂ H₂ fp pins,PG (Ys X N' scope C s₂ H₂ fp pins) target g/\PTs (Ys X N' scope C s₂ H₂ fp pins) ifs tt/\PE (Ys X N' scope C s₂ H₂ fp pins) elt te)
  (hs:∀x,foldedSetIterable iter X.env x=pure x:=by intro _;rfl):PE X (.ListComp elt [⟨target,iter,ifs,0⟩] scope pos) (tLC wi ix g tt te):=by
 intro pins s σ H Q I h
 rw[eval_ListComp]
 refine wpAny_comprehension_free (use:=none) rfl hs (Jq (S.freeH I.ok)) S.kind S.locH ?_
 refine jf (hi pins s σ H _ I h) λxv s1 h1=>jf h1 λitv s2 h2=>?_
 obtain⟨it,fp,tn,J,H2,e,I2,T,st2,f2,q2⟩:=h2
 subst e
 refine WJ (RR:=λacc C=>compPost (model X.prog X.w) X.A X.xe none (EP X pins σ Q) acc C) (Q:=λD H'=>Q (.ref D) H') hc S I2 T st2 f2 hb q2 ?_
 intro D C H' s' m hC hn hm I' q
 exact⟨m,hm,λh' sb=>⟨.ref D,H',uY I2 I' hC hn sb,rfl,q⟩⟩
theorem j4{elt iter target:Expr}{ifs:List Expr}{pos:Pos}{wi:TI}{g:TG}{tt:TT}{te:TE}(hc:X.calm=true)(S:Qc X N' ix scope)(hi:JI X target iter wi)(hb:∀C s₂ H₂ fp pins,JG (Ys X N' scope C s₂ H₂ fp pins) target g/\KB (Ys X N' scope C s₂ H₂ fp pins) ifs tt/\JE (Ys X N' scope C s₂ H₂ fp pins) elt te)(hs:∀x,foldedSetIterable iter X.env x=pure x:=by intro _;rfl):JE X (.ListComp elt [⟨target,iter,ifs,0⟩] scope pos) (tLC wi ix g tt te):=.of (qaZ hc S hi.to (λC s₂ H₂ fp pins=>⟨(hb C s₂ H₂ fp pins).1.to,(hb C s₂ H₂ fp pins).2.1.to,(hb C s₂ H₂ fp pins).2.2.to⟩) hs)
theorem wJ{i:Nat}{x:Str}{elt iter target:Expr}{ifs:List Expr}{pos spos px:Pos}{wi:TI}{g:TG}{tt:TT}{te:TE}(hN:X.N.Nodup)(hxi:X.N[i]?=some x)(hx:Loc X.env.scope x)(hc:X.calm=true)(S:Qc X N' ix scope)(hi:PI X target iter wi)
  (hb:∀C s₂ H₂ fp pins,PG (Ys X N' scope C s₂ H₂ fp pins) target g/\PTs (Ys X N' scope C s₂ H₂ fp pins) ifs tt/\PE (Ys X N' scope C s₂ H₂ fp pins) elt te)
  (hsw:swapsWith (.ListComp elt [⟨target,iter,ifs,0⟩] scope pos) (some (.Name x px)) spos.line X.env=pure true:=by rfl)
  (hs:∀x,foldedSetIterable iter X.env x=pure x:=by intro _;rfl) (hf:X.fn x=true\/X.env.scope.names.lookup x=some .local:=by first | exact .inl rfl | exact .inr rfl | assumption):
  PS X (.Assign [.Name x px] (.ListComp elt [⟨target,iter,ifs,0⟩] scope pos) spos) (xV (tLC wi ix g tt te) (Jk i)):=by
 intro pins s σ H D I h
 rw[exec_Assign_Name_used _ _ _ _ hsw]
 refine zdY (wpAny_standAt (zdY ?_))
 show wpAny _ X.A (do let _ <-comprehension (.ListComp elt [⟨target,iter,ifs,0⟩] scope pos) scope X.env _ (newList []) false (eval iter X.env) (some (assign (.Name x px) X.env))) _ _ s
 refine zdY (jf (wpAny_comprehension_free (use:=some (assign (.Name x px) X.env)) (Q:=λ_ s'=>SP X pins D .next s') rfl hs (Jq (S.freeH I.ok)) S.kind S.locH ?_) λ_ s' hq=>zdZ (zdZ hq))
 refine jf (hi pins s σ H _ I h) λxv s1 h1=>jf h1 λitv s2 h2=>?_
 obtain⟨it,fp,tn,J,H2,e,I2,T,st2,f2,q2⟩:=h2
 subst e
 refine WJ (RR:=λacc C=>compPost (model X.prog X.w) X.A X.xe (some (assign (.Name x px) X.env)) (λ_ s'=>SP X pins D .next s') acc C) (Q:=λD' H'=>Jk i (.ref D') σ H' D.nx) hc S I2 T st2 f2 hb q2 ?_
 intro D' C H' s' m hC hn hm I' q
 show wpAny _ X.A (assign (.Name x px) X.env (.ref D')) _ _ _
 refine wpAny_assign_Name (Wm I' hN hxi hx (v:=.ref D') rfl (λs'' I'' hch=>?_) hf)
 obtain⟨a,sb,ha⟩:=hch
 have hCa:C≠a:=by
  rcases ha with z | z
  ·rw[z];exact zbH (tM I2.lt hC)
  ·intro e
   obtain⟨v,qc⟩:=I2.cell x a z
   exact absurd (tM qc.lt (by rw[<-e];exact hC)) (zao _)
 refine⟨m,hm.sameBut sb hCa,λh' sb'=>?_⟩
 refine⟨_,H',?_,q⟩
 refine I''.turned (it:=C) (t':=s''.toks) (λb o hb e=>(sb'.2 b hb).trans e) hn (zbH (tM I2.lt hC)) (.inr (zaa I2.sz hC)) (λy c e z=>?_) λp hp z=>?_
 ·obtain⟨v,qc⟩:=I2.cell y c e
  exact absurd (tM qc.lt (by rw[z];exact hC)) (zao _)
 ·exact absurd (tM (tK (I2.pin p hp).1) (by rw[z];exact hC)) (zao _)
theorem Q6{i:Nat}{x:Str}{elt iter target:Expr}{ifs:List Expr}{pos spos px:Pos}{wi:TI}{g:TG}{tt:TT}{te:TE}(hN:X.N.Nodup)(hxi:X.N[i]?=some x)(hx:Loc X.env.scope x)(hc:X.calm=true)(S:Qc X N' ix scope)(hi:JI X target iter wi)(hb:∀C s₂ H₂ fp pins,JG (Ys X N' scope C s₂ H₂ fp pins) target g/\KB (Ys X N' scope C s₂ H₂ fp pins) ifs tt/\JE (Ys X N' scope C s₂ H₂ fp pins) elt te)(hsw:swapsWith (.ListComp elt [⟨target,iter,ifs,0⟩] scope pos) (some (.Name x px)) spos.line X.env=pure true:=by rfl)(hs:∀x,foldedSetIterable iter X.env x=pure x:=by intro _;rfl)(hf:X.fn x=true\/X.env.scope.names.lookup x=some .local:=by first | exact .inl rfl | exact .inr rfl | assumption):JS X (.Assign [.Name x px] (.ListComp elt [⟨target,iter,ifs,0⟩] scope pos) spos) (xV (tLC wi ix g tt te) (Jk i)):=.of (wJ hN hxi hx hc S hi.to (λC s₂ H₂ fp pins=>⟨(hb C s₂ H₂ fp pins).1.to,(hb C s₂ H₂ fp pins).2.1.to,(hb C s₂ H₂ fp pins).2.2.to⟩) hsw hs hf)
end
def Its(x:Str):It:=⟨λi _=>i < x.cps.size,λi H v H'=>H'=H/\∃c,x.cps[i]?=some c/\v=.str ⟨#[c]⟩,λi _=>i=x.cps.size⟩
theorem VL{P:Program}{w:World}{K:zdW}{tg:Expr}(it:Addr)(x:Str)(t:Tok)(ty:String)
  (hn:["enumerate","zip","dict_itemiterator","dict_reverseitemiterator","odict_iterator","itertools.zip_longest","itertools.pairwise"].contains ty=false)
  (hW:∀A:Around,A.handled=none->Walks P w A it [it] [it] x.cps.size (SignAt x) (λi h=>h.IsStrIter it ty x t i))
  (hself:∀(A:Around) (i:Nat) (s:Shared) (Q:Value->Shared->Prop) (E:Value->Shared->Prop),s.heap.IsStrIter it ty x t i->Q (.ref it) s->wpAny (model P w) A (pyIter (.ref it)) Q E s):
  UI P w K tg (Its x) [it] it (λi h=>h.IsStrIter it ty x t i) where
 mem:=by simp
 obj:=λi h st b hb=>by
  have e:b=it:=by simpa using hb
  subst e
  obtain⟨o,e,c,d⟩:=st
  exact⟨o,e,λv z=>by rw[d]at z;cases z⟩
 keep:=λi h h' st k=>let ⟨o,e,r⟩:=st;⟨o,k it (by simp) o e,r⟩
 item:=by
  intro X hP hw hK hc i pins s σ H E I hf st hg
  subst hP hw hK
  obtain⟨f0,f1,f2,f3,f4,f5⟩:=hf it (by simp)
  refine(hW X.A (I.ok.hd hc)).item i s _ _ hg st λv h' tk hv st' kk=>?_
  obtain⟨c,u,hcu,rfl⟩:=hv
  have I1:qz X pins σ H {s with heap:=h',toks:=tk}:=I.turned (λb o hb e=>kk b o (by simpa using hb) e) f0 f1 f3 f4 f5
  obtain⟨o,e,c1,d1⟩:=id st'
  exact⟨_,rfl,Us (s:={s with heap:=h',toks:=tk}) e c1 d1 hn ⟨.str ⟨#[c]⟩,H,I1,⟨u,rfl⟩,⟨rfl,c,hcu,rfl⟩,st',λb hb=>(hf b hb).1⟩⟩
 done:=by
  intro X hP hw hK hc i pins s σ H E I hf st hg
  subst hP hw hK
  obtain⟨f0,f1,f2,f3,f4,f5⟩:=hf it (by simp)
  have hi:i=x.cps.size:=hg
  subst hi
  exact(hW X.A (I.ok.hd hc)).done s _ _ st λh' tk kk=>⟨rfl,I.turned (λb o hb e=>kk b o (by simpa using hb) e) f0 f1 f3 f4 f5⟩
 self:=hself
def qcG(tl:TE):TI:=λσ H R=>tl σ H λx H1=>∃y,x=.str y/\R (Its y) H1
theorem MN{X:Cx}{tg l:Expr}{tl:TE}(hl:JE X l tl):JI X tg l (qcG tl):=.of (by
 have hl:=hl.to
 intro pins s σ H R I h
 refine jf (hl pins s σ H _ I h) λv s1 ⟨x,H1,I1,r1,q1⟩=>?_
 obtain⟨y,e,q⟩:=q1
 subst e
 obtain⟨t,rfl⟩:=r1
 have fp:∀b∈[s1.heap.objs.size],JM X pins H1 b:=λb hb=>by
  have e:b=s1.heap.objs.size:=by simpa using hb
  subst e
  exact I1.fpOk (tz _) (I1.hok.fresh (tz _))
 cases ha:y.cps.all (· < 128)
 ·refine wpAny_pyIter_wide ha ?_
  exact⟨s1.heap.objs.size,[s1.heap.objs.size],_,_,H1,rfl,I1.kept (t':=s1.toks) λb o e=>tu _ e,
   VL _ y t "str_iterator" (by decide) (λA hA=>Walks.strWide hA _ y t) (λA i s Q E st q=>wpAny_pyIter_striter_wide st q),⟨_,tV _ rfl,rfl,rfl⟩,fp,q⟩
 ·refine wpAny_pyIter_ascii ha ?_
  exact⟨s1.heap.objs.size,[s1.heap.objs.size],_,_,H1,rfl,I1.kept (t':=s1.toks) λb o e=>tu _ e,
   VL _ y t "str_ascii_iterator" (by decide) (λA hA=>Walks.strAscii hA _ y t) (λA i s Q E st q=>wpAny_pyIter_striter_ascii st q),⟨_,tV _ rfl,rfl,rfl⟩,fp,q⟩)
section
variable{K:zdW}{g:TG}{tt:TT}{te:TE}{D a:Addr}{σ:St}{H:Hp}{Q:Hp->Prop}
def UF(tt:TT)(te:TE)(D:Addr)(N:St->Hp->Prop):St->Hp->Prop:=λσ2 H3=>tt σ2 H3 λb H4=>
 if b=true then te σ2 H4 λv H5=>∃ys,H5 D=some (.lst ys)/\ys.length < zeb/\N σ2 (upd H5 D (.lst (ys++[v]))) else N σ2 H4
theorem VB{J:It}{n:Nat}(Pv:Nat->St->Hp->Prop)(h0:Pv 0 σ (upd H D (.lst [])))
  (go:∀i σ' H',i < n->Pv i σ' H'->J.go i H'/\∀x H2,J.yld i H' x H2->g x σ' H2 (UF tt te D (Pv (i+1)))) (stop:∀σ' H',Pv n σ' H'->J.stop n H'/\Q H'):X8 J g tt te D σ H Q:=by
 refine⟨λi m σ' H'=>m=n - i/\i<=n/\Pv i σ' H',⟨n,by simp,zaw _,h0⟩,?_⟩
 rintro i m σ' H' ⟨rfl,hi,p⟩
 by_cases hlt:i < n
 ·obtain⟨h1,h2⟩:=go i σ' H' hlt p
  exact .inr ⟨h1,Pv (i+1),λσ2 H2 p2=>⟨n - (i+1),by omega,rfl,hlt,p2⟩,h2⟩
 ·have e:i=n:=by omega
  subst e
  exact .inl (stop σ' H' p)
theorem JL{lo:Int}{n:Nat}(Pv:Nat->St->Hp->Prop)(h0:Pv 0 σ (upd H D (.lst [])))
  (hs:∀i σ' H',i < n->Pv i σ' H'->g (.int (lo+i)) σ' H' (UF tt te D (Pv (i+1)))) (hd:∀σ' H',Pv n σ' H'->Q H'):X8 (NO lo n) g tt te D σ H Q:=
 VB (n:=n) Pv h0 (λi σ' H' hi p=>⟨hi,λx H2 y=>by
  obtain⟨e,y⟩:=y
  subst e y
  exact hs i σ' H2 hi p⟩) λσ' H' p=>⟨tz _,hd σ' H' p⟩
theorem j2{xs:List V}(Pv:Nat->St->Hp->Prop)(h0:Pv 0 σ (upd H D (.lst [])))(hl:∀i σ' H',i<=xs.length->Pv i σ' H'->SqL K H' a xs)
  (hs:∀i x σ' H',xs[i]?=some x->Pv i σ' H'->g x σ' H' (UF tt te D (Pv (i+1)))) (hd:∀σ' H',Pv xs.length σ' H'->Q H'):X8 (Itl K a) g tt te D σ H Q:=
 VB (n:=xs.length) Pv h0 (λi σ' H' hi p=>⟨⟨xs,xs[i],hl i σ' H' (zai hi) p,by simp [hi]⟩,λx H2 y=>by
  obtain⟨e,y⟩:=y
  subst e
  exact hs i x σ' _ (y xs (hl i σ' _ (zai hi) p)) p⟩) λσ' H' p=>⟨⟨xs,hl _ σ' H' (tz _) p,tz _⟩,hd σ' H' p⟩
theorem yf{xs:List V}(Pv:Nat->St->Hp->Prop)(h0:Pv 0 σ (upd H D (.lst [])))(hl:∀i σ' H',i<=xs.length->Pv i σ' H'->Y5 K H' a xs)
  (hs:∀i x σ' H',xs[i]?=some x->Pv i σ' H'->g x σ' H' (UF tt te D (Pv (i+1)))) (hd:∀σ' H',Pv xs.length σ' H'->Q H'):X8 (Itt K a) g tt te D σ H Q:=
 VB (n:=xs.length) Pv h0 (λi σ' H' hi p=>⟨⟨xs,xs[i],hl i σ' H' (zai hi) p,by simp [hi]⟩,λx H2 y=>by
  obtain⟨e,y⟩:=y
  subst e
  exact hs i x σ' _ (y xs (hl i σ' _ (zai hi) p)) p⟩) λσ' H' p=>⟨⟨xs,hl _ σ' H' (tz _) p,tz _⟩,hd σ' H' p⟩
theorem R4{x:Str}(Pv:Nat->St->Hp->Prop)(h0:Pv 0 σ (upd H D (.lst [])))
  (hs:∀i c σ' H',x.cps[i]?=some c->Pv i σ' H'->g (.str ⟨#[c]⟩) σ' H' (UF tt te D (Pv (i+1)))) (hd:∀σ' H',Pv x.cps.size σ' H'->Q H'):X8 (Its x) g tt te D σ H Q:=
 VB (n:=x.cps.size) Pv h0 (λi σ' H' hi p=>⟨hi,λv H2 y=>by
  obtain⟨e,c,hc,rfl⟩:=y
  subst e
  exact hs i c σ' _ hc p⟩) λσ' H' p=>⟨rfl,hd σ' H' p⟩
end
section
variable{X:Cx}
theorem X1:∀(bs:List Bool),(zab bs.length).all (λi=>bs.getD i false)=bs.all id:=by
 intro bs
 induction bs with
 | nil=>rfl
 | cons b bs ih=>
  rw[zay,List.range_succ_eq_map,zdd,zcK,zdd]
  have:((λi=>(b::bs).getD i false) ∘ zcP)=λi=>bs.getD i false:=by
   funext i
   simp [Function.comp]
  rw[this,ih]
  simp
theorem Ye(hc:X.calm=true):QN X (.builtin "all") (λxs H Q=>∃(p:Addr) (bs:List Bool),xs=[.ref p]/\SqL X.K H p (bs.map V.bl)/\Q (.bl (bs.all id)) H):=by
 intro pins s σ H xs us Q I r h
 obtain⟨p,bs,rfl,hq,q⟩:=h
 obtain⟨u,rfl,rx⟩:=Js r
 cases rx
 obtain⟨its,rv,pl,hz⟩:=I.list hq
 have hlt:p < s.heap.objs.size:=by
  obtain⟨o,n,e,_⟩:=pl
  exact tK e
 have hn:its.toArray.size=bs.length:=by
  have:=rv.length
  rw[tj]at this
  simp only[tZ]
  omega
 have hh:X.A.in1.handled=none:=I.ok.hd hc
 refine call_all_walk (wpAny_pyIter_list pl.isList ?_)
 refine⟨s.heap.objs.size,[s.heap.objs.size,p],[s.heap.objs.size],its.toArray.size,λi v=>its.toArray[i]?=some v,_,λi=>bs.getD i false,rfl,Walks.list hh s.heap.objs.size p (tQ hlt) its.toArray,
  ⟨⟨_,tV _ rfl,rfl,rfl⟩,pl.isList.at λo e=>tu _ e⟩,?_,λh' tk hk=>?_⟩
 ·intro i v s' Q' E' hP hQ
  have hi:its[i]?=some v:=by simpa using hP
  have hb:∃b,bs[i]?=some b/\v=Value.bool b:=by
   cases e:bs[i]? with
   | none=>
    exfalso
    have h1:(bs.map V.bl)[i]?=none:=by rw[tG,e];rfl
    rw[qG.none_of rv h1]at hi
    cases hi
   | some b=>
    have h1:(bs.map V.bl)[i]?=some (V.bl b):=by rw[tG,e];rfl
    obtain⟨u,hu,ru⟩:=rv.get h1
    rw[hi]at hu
    cases hu
    exact⟨b,rfl,ru⟩
  obtain⟨b,e,rfl⟩:=hb
  refine wpAny_truthy_bool ?_
  have e2:bs.getD i false=b:=by rw[zaB,e];rfl
  have hQ':Q' (bs.getD i false) s':=hQ
  rw[e2]at hQ'
  exact hQ'
 ·rw[hn,X1]
  refine⟨.bl (bs.all id),H,?_,rfl,q⟩
  exact I.kept (h':=h') (t':=tk) λb o e=>hk b o (by
   intro z
   have z':b=s.heap.objs.size:=by simpa using z
   exact absurd (tK e) (by rw[z'];exact zao _)) (tu _ e)
theorem UZ{ys:List Str}:∀{us:List Value},qG (ys.map V.str) us->StrsAre us ys:=by
 induction ys with
 | nil=>
  intro us r
  rw[zct]at r
  cases r
  exact .nil
 | cons y ys ih=>
  intro us r
  rw[tU]at r
  cases r with
  | cons a b=>
   obtain⟨t,rfl⟩:=a
   exact .cons _ _ (ih b)
def qaV(K:zdW):V->List V->Hp->VK->Prop:=λx xs H Q=>∃(sep:Str) (p:Addr) (ys:List Str),x=.str sep/\xs=[.ref p]/\SqL K H p (ys.map V.str)/\(ys.map (·.length)).sum+ys.length*sep.length<=16777216/\Q (.str (Txt.join sep ys)) H
theorem Rq:MtR X "str.join" (qaV X.K):=by
 intro pins s σ H x xs v us Q I rx rv h
 obtain⟨sep,p,ys,rfl,rfl,hq,hz,q⟩:=h
 obtain⟨t,rfl⟩:=rx
 obtain⟨u,rfl,ru⟩:=Js rv
 cases ru
 obtain⟨its,r',pl,_⟩:=I.list hq
 exact join_list pl.isList (by simpa using UZ r') hz λt' k=>⟨.str _,H,I.tok k,⟨t',rfl⟩,q⟩
def RY:V->Value
 | .ty n=>.type n
 | .ref a=>.ref a
 | _=>.none
def NH:V->Bool
 | .ty _=>true
 | .ref _=>true
 | _=>false
def wG(K:zdW):List V->Hp->VK->Prop:=λxs H Q=>∃x c t b,xs=[x,c]/\NH c=true/\zE K H x t/\zag K t (RY c)=some b/\Q (.bl b) H
theorem jc:QN X (.builtin "isinstance") (wG X.K):=by
 intro pins s σ H xs us Q I r h
 obtain⟨x,c,t,b,rfl,hc,ty,e,q⟩:=h
 obtain⟨u,w',rfl,ru,rw'⟩:=vO r
 have ew:w'=RY c:=by
  cases c with
  | ty n=>exact rw'
  | ref a=>exact rw'
  | _=>cases hc
 subst ew
 exact xl I ru ty e λtk=>⟨.bl b,H,I.tok tk,rfl,q⟩
end
abbrev qao(rest:List Value):Obj:={cls:=.type "tuple",data:=.seq rest.toArray}
abbrev M0(C t:Addr):Obj:={cls:=.ref C,data:=.fields #[.ref t,.none,.none,.none,.bool false,.none]}
section
variable{prog:Program}{w:World}{A:Around}{E:Value->Shared->Prop}{h:Heap}{g:Array GenState}{d:Drawn}{t:Nat}{os:OsState}
variable{nm q:Str}{C N fI:Addr}{bs bm bmB bmN:List Value}{hdct:Bool}{sn:List Str}{sub:List Value}{ab:Bool}{col:Option Bool}{dd:Option Addr}{k0 k1 k2 k3 k5:Option Value}{B Bn newId nid initId inN:String}{rest:List Value}{oI:Obj}
theorem UX{Q:Fin->Shared->Prop}(Fn:ExcBaseFacts Bn newId inN bmN)(hBn:bmB.contains (.type Bn)=true)
  (F:ExcBaseFacts B nid initId bmB) (T:OwnTail h bmB bm)
  (hC:h.get? C=some (excClassObj nm q C N bs bm hdct sn sub ab col dd k0 k1 k2 k3 k5 newId))
  (hi:PySem.W.Looks (model prog w) h (typeLookup (.ref C) "__init__") (some (.ref fI))) (hfI:h.get? fI=some oI) (hfc:oI.cls=.type "function")
  (hq:∀h' e,h.objs.size<=e->Heap.MadeExcOf h h' e (.ref C) rest->
   wpAny (model prog w) A (call (.ref fI) (.ref e::rest)) (λr s'=>r=.none/\Q (.done (.ret (.ref e))) s') E ⟨h',g,d,t,os⟩)
  (hz:rest.length<=zeb):
  wpAny (model prog w) A (Builtin.«type.__call__» ⟨.ref C::rest,[]⟩) Q E ⟨h,g,d,t,os⟩:=by
 repeat (first
  | with_reducible refine wpAny_loadPart_at hC ?_
  | with_reducible refine wpAny_madeBy_exc hC ?_
  | wp_step)
 refine codeAny_call_builtin_code (Code.quiet_builtin _ Fn.quiet) (wpAny_check_new_subU Fn hBn T hC
  (codeAny_exc_new_subU Fn hBn F T hC ?_ hz))
 show wpAny _ _ _ _ _ _
 have k:∀b o,h.get? b=some o->((h.push (qao rest)).push (M0 C h.objs.size)).get? b=some o:=λb o e=>
  tu _ (tu _ e)
 have c1:=k _ _ hC
 have f1:=k _ _ hfI
 have i1:=hi.keeps k
 have e1:((h.push (qao rest)).push (M0 C h.objs.size)).get? (h.objs.size+1)=some (M0 C h.objs.size):=by heap_get
 have hcC:(Value.ref C::bm).contains (.ref C)=true:=by simp
 unfold isInstance
 repeat (first
  | with_reducible refine wpAny_loadPart_at e1 ?_
  | (with_reducible refine wpAny_isSubtype_exc c1 ?_;rw[hcC])
  | wp_step)
 show wpAny _ _ (typeLookup (.ref C) _) _ _ _
 refine i1.at ?_
 refine wpAny_holding (zdY ?_)
 unfold bindSpecial
 refine zdY (wpAny_typeOf (T:="function") ⟨_,f1,hfc⟩ ?_)
 rw[if_pos (by decide)]
 refine zdZ (zdY (jf (hq _ (h.objs.size+1) (zdu _) ⟨k,zcE (zdu _),h.objs.size,e1,zcE (tz _),?_⟩) λr s' hr=>?_))
 ·exact tu _ (Heap.get?_push_at rfl rfl)
 ·obtain⟨rfl,hQ⟩:=hr
  wp_walk
  exact hQ
theorem xE{Q:Value->Shared->Prop}(Fn:ExcBaseFacts Bn newId inN bmN)(hBn:bmB.contains (.type Bn)=true)
  (F:ExcBaseFacts B nid initId bmB) (T:OwnTail h bmB bm)
  (hC:h.get? C=some (excClassObj nm q C N bs bm hdct sn sub ab col dd k0 k1 k2 k3 k5 newId))
  (hi:PySem.W.Looks (model prog w) h (typeLookup (.ref C) "__init__") (some (.ref fI))) (hfI:h.get? fI=some oI) (hfc:oI.cls=.type "function")
  (hq:∀h' e,h.objs.size<=e->Heap.MadeExcOf h h' e (.ref C) rest->
   wpAny (model prog w) (A.under (.builtin "type.__call__" ⟨.ref C::rest,[]⟩)) (call (.ref fI) (.ref e::rest)) (λr s'=>r=.none/\Q (.ref e) s') E ⟨h',g,d,t,os⟩)
  (hz:rest.length<=zeb):
  wpAny (model prog w) A (call (.ref C) rest) Q E ⟨h,g,d,t,os⟩:=by
 have a1:=tc_lookup
 have a2:=tc_bind (.ref C)
 have a3:(⟨h,g,d,t,os⟩:Shared).TypeIs (.ref C) "type":=⟨_,hC,rfl⟩
 refine wpAny_call (codeAny_of_tree ?_)
 show wpAny _ _ (callAny (.ref C) _) _ _ _
 repeat (any_goals (first
  | assumption
  | with_reducible refine wpAny_loadPart_at hC ?_
  | wp_step))
 refine⟨rfl,codeAny_call_builtin_at (Code.quiet_builtin _ (by decide+kernel)) entry_typeCall
  (wpAny_check_type_call_sub hC (UX Fn hBn F T hC hi hfI hfc (λh' e he hm=>?_) hz))⟩
 exact hq h' e he hm
end
open PySem PySem.W PyProof.Rows Builtin Builtin.ObjectAttr
structure YF(K:Frag)(C:Addr)(bm:List Value):Prop where
 ga:findIn K (.ref C) "__getattribute__"=some (some (.builtin "BaseException.__getattribute__"))
 gt:findIn K (.ref C) "__getattr__"=some none
 sa:findIn K (.ref C) "__setattr__"=some (some (.builtin "object.__setattr__"))
 hd:hasDictIn K C=true
 mr:∃cd,clsIn K C=some cd/\cd.mro=.ref C::bm
 mb:mroIn K C (.type "BaseException")=some true
 mo:mroIn K C (.type "object")=some true
 cl:findIn K (.ref C) "__class__"=some (some (.builtin "object.__class__"))
def vc:List Value->Prop
 | .ref _::r=>vc r
 | l=>l=[.type "ValueError",.type "Exception",.type "BaseException",.type "object"]
theorem kI(self:Value):∀{l:List Value},vc l->refuseLoop self "__setattr__" l=pure ()
 | .ref c::r,e=>by rw[refuseLoop_ref];exact kI self (l:=r) e
 | [],e=>nomatch (show ([]:List Value)=[.type "ValueError",.type "Exception",.type "BaseException",.type "object"] from e)
 | .type n::r,e=>by
  have e':(Value.type n::r)=[.type "ValueError",.type "Exception",.type "BaseException",.type "object"]:=e
  rw[e'];kernel_rfl
 | .none::r,e=>by have e':(Value.none::r)=[.type "ValueError",.type "Exception",.type "BaseException",.type "object"]:=e;cases e'
 | .bool _::r,e=>by have e':_=[Value.type "ValueError",.type "Exception",.type "BaseException",.type "object"]:=e;cases e'
 | .int _ _::r,e=>by have e':_=[Value.type "ValueError",.type "Exception",.type "BaseException",.type "object"]:=e;cases e'
 | .float _ _::r,e=>by have e':_=[Value.type "ValueError",.type "Exception",.type "BaseException",.type "object"]:=e;cases e'
 | .str _ _::r,e=>by have e':_=[Value.type "ValueError",.type "Exception",.type "BaseException",.type "object"]:=e;cases e'
 | .bytes _ _::r,e=>by have e':_=[Value.type "ValueError",.type "Exception",.type "BaseException",.type "object"]:=e;cases e'
 | .builtin _::r,e=>by have e':_=[Value.type "ValueError",.type "Exception",.type "BaseException",.type "object"]:=e;cases e'
section
variable{prog:Program}{w:World}{A:Around}{E:Value->Shared->Prop}{s:Shared}{K:Frag}{x C:Addr}{ox:Obj}{od:Option Obj}{bm:List Value}{name:Str}{v:Value}
theorem Gx{tk:Tok}{R:Result->Shared->Prop}(X:K.In s.heap)(I:InstAt s.heap x ox C od)(c:YF K C bm)(hb:vc bm)(ht:findIn K (.ref C) name=some none)
  (h:∀b,wpAny (model prog w) A.in1 (storeInOwnDict (.ref x) (.ref C) (.str name tk) name v b)
   (λfin s'=>match fin with | .done f=>R (.ok f) s' | .again c'=>c'.quiet=true/\codeAny (model prog w) A c' R s') (λe s'=>R (.error e) s') s):
  codeAny (model prog w) A (.call (.builtin "object.__setattr__") ⟨[.ref x,.str name tk,v],[]⟩) R s:=by
 have SF:=PySem.F.store_object
 obtain⟨cd,hc,hm⟩:=c.mr
 have sub:Looks (model prog w) s.heap (isInstance (.ref x) (.type "object")) true:=I.type.andThen (looks_mroIn X c.mo)
 refine codeAny_call_builtin SF.slot.plain SF.entry
  (@check_slot (model prog w) _ _ s "object.__setattr__" "object" "__setattr__" (.ref x) [.str name tk,v] [] _ SF.kind SF.split sub (SF.args (.ref x) (.str name tk) v) ?_)
 have lm:Looks (model prog w) s.heap (mroOf (.ref C)) cd.mro:=(looks_clsIn X hc).andThen .now
 rw[osa_eq,refuse_eq]
 refine zdY (zdY (I.type.here (zdY (lm.here ?_))))
 rw[hm,refuseLoop_ref,kI _ hb]
 refine zdZ (zdY (I.type.here (zdY ((looks_findIn X ht).here ?_))))
 exact zdY (zdZ (h _))
theorem wk{Q:Unit->Shared->Prop}(X:K.In s.heap)(hx:s.heap.get? x=some ox)(hc:ox.cls=.ref C)(hdc:ox.dict=none)(hda:∃fl,ox.data=.fields fl)(c:YF K C bm)(hb:vc bm)(ht:findIn K (.ref C) name=some none)
  (h:∀h' tk,h'.get? x=some {ox with dict:=some s.heap.objs.size}->h'.Ns1 s.heap.objs.size (λy=>if y=name then some v else none)->
   (∀b o,b≠x->s.heap.get? b=some o->h'.get? b=some o)->Q () {s with heap:=h',toks:=tk}):
  wpAny (model prog w) A (setAttr (.ref x) name v) Q E s:=by
 obtain⟨fl,hfl⟩:=hda
 obtain⟨oc,odi,oda,osl⟩:=ox
 dsimp only at hc hdc hfl
 subst hc hdc hfl
 have I:InstAt s.heap x ⟨.ref C,none,.fields fl,osl⟩ C none:=⟨hx,rfl,rfl,trivial⟩
 refine set_plain X I c.sa (Gx (s:={s with toks:=s.toks+1}) X I c hb ht λb=>?_)
 obtain⟨cd,hcd,hdd⟩:=any_some c.hd
 refine zdY (zdZ (zdY (zdY (wpAny_loadPart hx (zdY (Looks.here (s:={s with toks:=s.toks+1}) (looks_clsIn X hcd) ?_))))))
 rw[hdd]
 have hne:x≠s.heap.objs.size:=tQ (tK hx)
 have h1:=tu zaS hx
 refine zdY (wpAny_alloc (zdY (wpAny_update h1 ?_)))
 generalize hh2:(s.heap.push emptyDict).update x (λo=>{o with dict:=some s.heap.objs.size})=h2
 have e2:h2.get? x=some ⟨.ref C,some s.heap.objs.size,.fields fl,osl⟩:=by rw[<-hh2];exact zaG _ h1 rfl
 have k2:∀b o,b≠x->(s.heap.push emptyDict).get? b=some o->h2.get? b=some o:=λb o hb e=>by rw[<-hh2,zak _ _ (Ne.symm hb)];exact e
 have n0:(s.heap.push emptyDict).Ns s.heap.objs.size (λ_=>none):=⟨emptyDict,#[],_,tV s.heap rfl,rfl,(λe he=>absurd he (by simp)),λ_=>rfl⟩
 have n2:h2.Ns1 s.heap.objs.size (λ_=>none):=(Heap.Ns1.of_empty n0).at λo q=>k2 _ o (Ne.symm hne) q
 refine zdZ (a:=some s.heap.objs.size) (zdY (zdZ (zdY ?_)))
 refine wpAny_nsSet1 (s:={s with heap:=h2,toks:=s.toks+1}) n2 λh' hn2 hs2=>?_
 obtain⟨oD,esD,epD,hoD,hdD,hcD⟩:=hn2.count (PySem.Within.cons name v PySem.Within.nil)
 refine zdY (wpAny_lookBehind hoD (by rw[hdD];exact pastItsLine_dict (zaa hcD (by show 1<=zeb+1;decide))) ?_)
 refine zdZ (h h' (s.toks+1+1) ((hs2.2 x hne).trans e2) hn2 λb o hb e=>?_)
 exact(hs2.2 b (tQ (tK e))).trans (k2 b o hb (tu _ e))
theorem kY{fill expr:Bool}{tk:Tok}{Q:Value->Shared->Prop}(X:K.In s.heap)(I:InstAt s.heap x ox C od)(c:YF K C bm)
  (h:wpAny (model prog w) A.in1 (Builtin.«object.__getattribute__» ⟨[.ref x,.str name tk],[]⟩) (λfin s'=>match fin with | .done (.ret u)=>handedIn u=true/\Q u s' | _=>False) (λ_ _=>False) s):
  wpAny (model prog w) A (getAttrBy (.ref x) (.str name tk) fill expr) Q E s:=by
 have ga:=PySem.F.attr_ValueError.ga
 have L1:=looks_findIn (M:=model prog w) X c.ga
 have L2:=looks_findIn (M:=model prog w) X c.gt
 have hk:builtinKind "BaseException.__getattribute__"=some .slot:=by decide+kernel
 have hs:splitId "BaseException.__getattribute__"=some ("BaseException","__getattribute__"):=by decide+kernel
 have sub:Looks (model prog w) s.heap (isInstance (.ref x) (.type "BaseException")) true:=I.type.andThen (looks_mroIn X c.mb)
 unfold getAttrBy
 refine wpAny_holding (zdY (I.type.here (zdY (L1.here ?_))))
 dsimp only
 have eb:(Value.builtin "BaseException.__getattribute__"==Value.builtin "object.__getattribute__")=false:=by decide+kernel
 rw[if_neg (by rw[eb,Bool.and_false];decide)]
 unfold getAttrByItsOwn
 refine zdY (show wpAny _ _ (hookBefore (.ref C)) _ _ _ from L2.here ?_)
 refine zdY (wpAny_attempt (wpAny_holding ?_))
 unfold callGetattribute
 have e0:(expr&&onTheHeap (Value.builtin "BaseException.__getattribute__"))=false:=by cases expr<;>rfl
 rw[if_neg (by rw[e0];decide)]
 unfold boundAndCalled
 rw[ga.bind]
 refine zdY (zdZ ?_)
 refine wpAny_call (codeAny_call_builtin ga.plain PySem.F.entry_bexc_ga
  (@check_slot (model prog w) _ _ s "BaseException.__getattribute__" "BaseException" "__getattribute__" (.ref x) [.str name tk] [] _ hk hs sub (PySem.F.args_bexc_ga _ _) ?_))
 refine wpAny_mono h (λfin s' z=>?_) λ_ _ z=>z.elim
 cases fin with
 | again c'=>exact z.elim
 | done f=>
  cases f with
  | next=>exact z.elim
  | brk=>exact z.elim
  | cont=>exact z.elim
  | ret u=>
   obtain⟨hh,q⟩:=z
   show wpAny _ _ (handedOut u) _ _ _
   rw[handedOut_of hh]
   exact zdZ q
theorem RP{expr:Bool}{Q:Value->Shared->Prop}{odd:Obj}(X:K.In s.heap)(I:InstAt s.heap x ox C (some odd))(c:YF K C bm)(ha:findIn K (.ref C) name=some none)(hl:lookIn name odd=some (some v))(hv:handedIn v=true)
  (h:Q v {s with toks:=s.toks+1}):wpAny (model prog w) A (getAttr (.ref x) name expr) Q E s:=by
 have hf:findObj K C (some odd) name=some (.value v):=findObj_own c.hd ha rfl hl
 have LF:=looks_find (M:=model prog w) X I hf
 unfold getAttr
 refine zdY (wpAny_mkText (kY (s:={s with toks:=s.toks+1}) X I c ?_))
 unfold Builtin.«object.__getattribute__»
 refine zdY (zdZ (zdY (zdZ (zdY (Looks.here (s:={s with toks:=s.toks+1}) I.type (zdY (Looks.here (s:={s with toks:=s.toks+1}) LF ?_)))))))
 exact zdZ ⟨hv,h⟩
end
open PySem PySem.W PyProof.Rows Builtin Builtin.ObjectAttr
section
variable{K:Frag}{x C:Addr}{ox odd:Obj}{bm:List Value}
theorem uJ(c:YF K C bm)(hn:specialIn K (.builtin "object.__class__") "__get__"=some (some (.builtin "getset_descriptor.__get__")))(htk:takesIn K (.builtin "object.__class__")=some true):
  KitX K (.ref x) (.ref C) (λh=>InstAt h x ox C (some odd)) where
 ty:=λ_ _ _ I=>I.type
 it:=λ_ _ X _=>by
  obtain⟨cd,hcd,_⟩:=any_some c.hd
  unfold clsIn at hcd
  split at hcd
  ·rename_i _ _ _ _ ho
   intro A' Q' E' s' k q
   unfold isType loadHead
   exact zdY (wpAny_loadPart (k _ _ (X _ _ ho)) (zdZ q))
  ·cases hcd
 ne:=λh tp dd its n sl X htp=>by
  obtain⟨cd,hcd,_⟩:=any_some c.hd
  refine Bool.eq_false_iff.mpr λq=>?_
  have e:C=tp:=Value.ref.inj (beq_iff_eq.mp q)
  subst e
  unfold clsIn at hcd
  split at hcd
  ·rename_i _ _ _ _ ho
   have z:=(X _ _ ho).symm.trans htp
   cases z
  ·cases hcd
 ca:=λ{prog w A E Q s} X I k=>by
  have hf:findObj K C (some odd) "__class__"=some (.bind (.builtin "getset_descriptor.__get__") (.builtin "object.__class__")):=
   findObj_data (by obtain⟨cd,hc,_⟩:=any_some c.hd;rw[hc];rfl) c.cl hn htk
  have LF:=looks_find (M:=model prog w) X I hf
  unfold getAttr? getAttrBy?
  refine zdY (wpAny_mkText (zdY (wpAny_attempt (kY (s:={s with toks:=s.toks+1}) X I c ?_))))
  unfold Builtin.«object.__getattribute__»
  refine zdY (zdZ (zdY (zdZ (zdY (Looks.here (s:={s with toks:=s.toks+1}) I.type (zdY (Looks.here (s:={s with toks:=s.toks+1}) LF ?_)))))))
  dsimp only
  unfold bindTo
  dsimp only
  refine zdY (wpAny_holding (wpAny_call (class_get (s:={s with toks:=s.toks+1}) X I c.mo ?_)))
  exact zdZ ⟨rfl,zdZ k⟩
end
def Yb(e C:Addr):HO:=.ext λh=>∃fl,h.get? e=some {cls:=.ref C,data:=.fields fl}/\fl[1]?=some Value.none
def Jp(e C dx:Addr)(hd:Value):HO:=.ext λh=>∃fl,h.get? e=some {cls:=.ref C,dict:=some dx,data:=.fields fl}/\fl[1]?=some hd
abbrev ZL(e C dx:Addr):HO:=Jp e C dx .none
def Qe:List Value:=[.type "ValueError",.type "Exception",.type "BaseException",.type "object"]
structure EMk(K:zdW)(C f:Addr)(bm:List Value):Prop where
 obj:∃nm q N bs hdct sn sub ab col dd k0 k1 k2 k3 k5,K.lookup C=some (excClassObj nm q C N bs bm hdct sn sub ab col dd k0 k1 k2 k3 k5 "ValueError.__new__")
 tail:∀h:Heap,K.In h->OwnTail h Qe bm
 init:tR K (.ref C) "__init__"=some (some (.ref f))
 fn:zaH K (.ref f)=true
 kp:zaA K (.ref C)=true
section
variable{P:Program}{w:World}{H:Hp}{h h':Heap}{e C dx:Addr}
theorem RT(he:∃fl,h.get? e=some {cls:=.ref C,data:=.fields fl}/\fl[1]?=some Value.none):qK P w H h e (Yb e C):=by
 obtain⟨fl,q,z⟩:=he
 exact⟨⟨fl,q,z⟩,⟨_,q⟩,λh1 h2 ⟨fl',q',z'⟩ k=>⟨fl',k _ q',z'⟩⟩
theorem Y3{hd:Value}(he:∃fl,h.get? e=some {cls:=.ref C,dict:=some dx,data:=.fields fl}/\fl[1]?=some hd):qK P w H h e (Jp e C dx hd):=by
 obtain⟨fl,q,z⟩:=he
 exact⟨⟨fl,q,z⟩,⟨_,q⟩,λh1 h2 ⟨fl',q',z'⟩ k=>⟨fl',k _ q',z'⟩⟩
end
section
variable{X:Cx}{pins:List (Addr×Obj)}{σ:St}{H:Hp}{s:Shared}{e C dx:Addr}{f:Str}{bm:List Value}{y v:V}{u:Value}{A:Around}{E:Value->Shared->Prop}
theorem qz.excSet{h':Heap}{t':Nat}{fs:List (Str×V)}(I:qz X pins σ H s)(hH:H e=some (Yb e C))(hd:s.heap.objs.size<=dx)
  (h1:∃fl,h'.get? e=some {cls:=.ref C,dict:=some dx,data:=.fields fl}/\fl[1]?=some Value.none) (h2:∃mA,h'.Ns1 dx mA/\∀f,Ze (fs.lookup f) (mA f))
  (k:∀b o,b≠e->s.heap.get? b=some o->h'.get? b=some o):qz X pins σ (upd (upd H e (ZL e C dx)) dx (.xd fs)) {s with heap:=h',toks:=t'}:=by
 have mu:Mut (H e):=by rw[hH];exact trivial
 have heo:∃u,h'.get? e=some u:=let ⟨_,q,_⟩:=h1;⟨_,q⟩
 have hn:H dx=none:=I.hok.fresh hd
 have ne:dx≠e:=λz=>by rw[z,hH]at hn;cases hn
 have U:Un X.fs [] H (upd H e (ZL e C dx)) s.heap h':=Un.write mu (.inl rfl) k heo
 have W:JN X.prog X.w (upd H e (ZL e C dx)) h':=I.hok.write mu (.inl rfl) k heo (Y3 h1)
 have hn2:(upd H e (ZL e C dx)) dx=none:=by rw[qi ne];exact hn
 have nb:∀b o,s.heap.get? b=some o->b≠dx:=λb o q=>tQ (tM (tK q) hd)
 refine I.un ⟨U.keep,U.slot,λb o q n hx=>?_,U.there,λb xs q=>?_,λb o z q=>?_,λb ps q=>?_⟩ λb o q=>?_
 ·rw[qi (nb b o q)];exact U.free b o q n hx
 ·have:=U.tups b xs q
  rw[qi (qr this hn2)];exact this
 ·have:=U.frzs b o z q
  rw[qi (qr this hn2)];exact this
 ·obtain⟨m,q'⟩:=U.tbls b ps q
  exact⟨m,by rw[qi (qr q' hn2)];exact q'⟩
 ·by_cases hb:b=dx
  ·subst hb
   rw[qe]at q
   cases q
   exact h2
  ·rw[qi hb]at q
   exact(W b o q).stay (λ_ _ _ z=>z) (λc z=>by rw[qi (qr z hn2)];exact z) (λc xs z=>by rw[qi (qr z hn2)];exact z) (λc o z=>by rw[qi (qr z hn2)];exact z)
theorem yE{Q:Unit->Shared->Prop}(I:qz X pins σ H s)(hH:H e=some (Yb e C))(c:YF X.K C bm)(hb:vc bm)(n:j5 X.K C f)(ry:qO y u)
  (h:∀dx s',H dx=none->qz X pins σ (upd (upd H e (ZL e C dx)) dx (.xd [(f,y)])) s'->Q () s'):wpAny (model X.prog X.w) A (setAttr (.ref e) f u) Q E s:=by
 obtain⟨⟨fl,he,hz⟩,_,_⟩:=(show qK X.prog X.w H s.heap e (Yb e C) from I.hok e _ hH)
 refine wk I.kIn he rfl rfl ⟨fl,rfl⟩ c hb n λh' tk e1 e2 e3=>?_
 refine h s.heap.objs.size _ (I.hok.fresh (tz _)) (I.excSet hH (tz _) ⟨fl,e1,hz⟩ ⟨_,e2,λg=>?_⟩ e3)
 by_cases hg:g=f
 ·subst hg
  rw[zaz]
  simp only[beq_self_eq_true,if_true]
  exact ry
 ·have hb':(g==f)=false:=beq_eq_false_iff_ne.mpr hg
  rw[zaz]
  simp only[hb',hg,if_false]
  exact trivial
theorem xv{b:Bool}{Q:Value->Shared->Prop}{fs:List (Str×V)}{hd:Value}(I:qz X pins σ H s)(hH:H e=some (Jp e C dx hd))(hx:H dx=some (.xd fs))(c:YF X.K C bm)(n:j5 X.K C f)(l:fs.lookup f=some v)
  (h:∀u s',qz X pins σ H s'->qO v u->Q u s'):wpAny (model X.prog X.w) A (getAttr (.ref e) f b) Q E s:=by
 obtain⟨⟨fl,he,_⟩,_,_⟩:=(show qK X.prog X.w H s.heap e (Jp e C dx hd) from I.hok e _ hH)
 obtain⟨mA,hn,hr⟩:=(show qK X.prog X.w H s.heap dx (.xd fs) from I.hok dx _ hx)
 obtain⟨od,ho,hl⟩:=z5 hn
 have r:=hr f
 rw[l]at r
 obtain⟨u,eu,ru⟩:=Ze.some_of r
 exact RP I.kIn ⟨he,rfl,rfl,ho⟩ c n (by rw[hl,eu]) (WE ru) (h u _ (I.tok _) ru)
theorem uW{cV:Value}{b:Bool}{Q:Value->Shared->Prop}{fs:List (Str×V)}{hd:Value}(I:qz X pins σ H s)(hH:H e=some (Jp e C dx hd))(hx:H dx=some (.xd fs))(c:YF X.K C bm)
  (hn:zby X.K (.builtin "object.__class__") "__get__"=some (some (.builtin "getset_descriptor.__get__"))) (htk:zci X.K (.builtin "object.__class__")=some true)
  (ek:zag X.K (.ref C) cV=some b) (h:∀tk,Q (.bool b) {s with toks:=tk}):wpAny (model X.prog X.w) A (call (.builtin "isinstance") [.ref e,cV]) Q E s:=by
 obtain⟨⟨fl,he,_⟩,_,_⟩:=(show qK X.prog X.w H s.heap e (Jp e C dx hd) from I.hok e _ hH)
 obtain⟨mA,hns,hr⟩:=(show qK X.prog X.w H s.heap dx (.xd fs) from I.hok dx _ hx)
 obtain⟨od,ho,hl⟩:=z5 hns
 exact zaP (uJ (ox:={cls:=.ref C,dict:=some dx,data:=.fields fl}) (odd:=od) c hn htk) I.kIn ⟨he,rfl,rfl,ho⟩ ek (λz=>nomatch z) h
end
def qcj(K:zdW)(bm:List Value)(ta tv:TE)(f:Str):TS:=λD σ H=>tv σ H λy H1=>ta σ H1 λx H2=>∃a C,x=.ref a/\H2 a=some (Yb a C)/\YF K C bm/\vc bm/\j5 K C f/\
 ∀dx,H2 dx=none->D.nx σ (upd (upd H2 a (ZL a C dx)) dx (.xd [(f,y)]))
section
variable{X:Cx}{CX:Y6}{k:Nat}{C fI:Addr}{fd:zea}{ps:List Str}{sp:Sp}{E:XK}{x f:Str}{o e value:Expr}{es:List Expr}{p pos pos':Pos}{ta tv:TE}{t:TA}{bm:List Value}
theorem MK(ha:JE X o ta)(hv:JE X value tv)(hs:swapsWith value (some (.Attribute o f pos')) pos.line X.env=pure false):JS X (.Assign [.Attribute o f pos'] value pos) (qcj X.K bm ta tv f):=.of (by
 have ha:=ha.to
 have hv:=hv.to
 intro pins s σ H D I h
 refine plainObj_wpAny_Assign_Attribute (jf (hv pins s σ H _ I h) λu s1 ⟨y,H1,I1,ry,q⟩=>
  jf (ha pins s1 σ H1 _ I1 q) λov s2 ⟨x,H2,I2,rx,a,C,ex,ea,c,hb,n,q2⟩=>?_) hs
 subst ex
 obtain rfl:ov=Value.ref a:=rx
 exact yE I2 ea c hb n ry λdx s3 hdx I3=>⟨σ,_,I3,q2 dx hdx⟩)
theorem yI{pins:List (Addr×Obj)}{σ:St}{H:Hp}{s:Shared}{Q:VK}{us:List Value}{vs:List V}(M:EMk X.K C fI bm)(F:qo X.prog X.w X.K X.mg X.base CX k fI fd ps sp)(hr:qU (k+1) X.A)(hb:jE X.K fd ps [])
  (hx:QD CX X E) (I:qz X pins σ H s) (r:qG vs us) (hz:us.length<=zeb)
  (h:∀x,H x=none->sp (.ref x::vs) (upd H x (Yb x C)) (λv H2=>v=.non/\Q (.ref x) H2) E):
  wpAny (model X.prog X.w) X.A (call (.ref C) us) (EP X pins σ Q) X.xe s:=by
 obtain⟨nm,q,N,bs,hdct,sn,sub,ab,col,dd,k0,k1,k2,k3,k5,hC⟩:=M.obj
 have hfn:zdU X.K (.ref fI)=some (.type "function"):=beq_iff_eq.mp M.fn
 obtain⟨oI,ho,hoc⟩:=zbI.mp hfn
 have KX:=I.kIn
 obtain⟨hp,g,d,tk,os⟩:=s
 refine xE zcQ (by decide+kernel) zcQ (M.tail _ KX) (KX _ _ hC) (zdt KX M.init) (KX _ _ ho) hoc (λh' ex hle hm=>?_) hz
 obtain⟨t0,ht,_,_⟩:=hm.there
 have I2:qz X pins σ (upd H ex (Yb ex C)) ⟨h',g,d,tk,os⟩:=I.laid (t':=tk) hm.keeps hle (RT ⟨_,ht,rfl⟩)
 have hq:=h ex (I.hok.fresh hle)
 have r2:qG (V.ref ex::vs) (Value.ref ex::us):=.cons rfl r
 have hl:(Value.ref ex::us++[]).length=ps.length:=by
  have e:=r2.length
  rw[F.len _ _ _ _ hq]at e
  rw[zan]
  exact e.symm
 have bb:=hb ⟨h',g,d,tk,os⟩ (Value.ref ex::us) I2.kIn hl
 rw[zan]at bb
 refine wpAny_call (codeAny_mono (F.run _ X.stack _ _ ⟨Value.ref ex::us,[]⟩ (Value.ref ex::us) _ _ E (hr.make C us []) (I2.env0.make C us []) bb r2 hq) λr s' hq'=>?_)
 cases r with
 | error z=>exact hx pins σ _ _ z s' I2 hq'
 | ok fl=>
  cases fl with
  | ret u=>
   obtain⟨v,H',I3,rv,ev,q3⟩:=I2.after hq'
   subst ev
   exact⟨rv,⟨V.ref ex,H',I3,rfl,q3⟩⟩
  | next=>exact False.elim hq'
  | brk=>exact False.elim hq'
  | cont=>exact False.elim hq'
theorem Uq(M:EMk X.K C fI bm)(F:qo X.prog X.w X.K X.mg X.base CX k fI fd ps sp)(hr:qU (k+1) X.A)(hg:Gl X x)(hm:X.mg x=some (.ref C))(hb:jE X.K fd ps [])(hx:QD CX X E)(ha:JA X (e::es) t)(hz:(e::es).length<=1000:=by decide)(hv:∀vs us,qG vs us->vs.length<=zeb->us.length<=zeb:=by intro vs us r h;rw[<-r.length];exact h)(hdb:(x==("__debug__":Str))=false:=by decide)(he:starEach (e::es) X.env=(false,eval e X.env)::starEach es X.env:=by rfl)(hpl:(backTo pos (starEach es X.env)).any (·.1)=false:=by rfl):JE X (.Call (.Name x p) (e::es) [] pos) (λσ H Q=>t σ H λvs H1=>vs.length<=zeb/\∀x,H1 x=none->sp (.ref x::vs) (upd H1 x (Yb x C)) (λv H2=>v=.non/\Q (.ref x) H2) E):=.of (by
 have ha:=ha.to
 intro pins s σ H Q I h
 refine wpAny_Call_Name_kw (zt I hg hm ?_ hdb)
 refine zbi (h₀:=X.base) I.ok.mod.kin M.kp (jf (ha pos pins s σ H _ I h) λus s1 ⟨vs,H1,I1,r,q⟩=>⟨I1.kIn,?_⟩) he hpl
 exact yI M F hr hb hx I1 r (hv vs us r q.1) q.2)
end
def neL(xs ys:List V):Bool:=if xs.length=ys.length then !((zab xs.length).all λj=>RV (xs.getD j .non) (ys.getD j .non)) else true
mutual
inductive DV(K:zdW)(H:Hp):V->PyData->Prop
 | non:DV K H .non .none
 | bl (b:Bool):DV K H (.bl b) (.bool b)
 | int (i:Int):DV K H (.int i) (.int i)
 | str (x:Str):DV K H (.str x) (.str x)
 | lst {a:Addr} {xs:List V} {ds:List PyData}:SqL K H a xs->DVs K H xs ds->DV K H (.ref a) (.list ds)
 | tup {a:Addr} {xs:List V} {ds:List PyData}:Y5 K H a xs->DVs K H xs ds->DV K H (.ref a) (.tuple ds)
inductive DVs(K:zdW)(H:Hp):List V->List PyData->Prop
 | nil:DVs K H [] []
 | cons {x:V} {xs:List V} {d:PyData} {ds:List PyData}:DV K H x d->DVs K H xs ds->DVs K H (x::xs) (d::ds)
end
section
variable{X:Cx}{pins:List (Addr×Obj)}{σ:St}{H:Hp}{s:Shared}
mutual
theorem DV.reads(I:qz X pins σ H s):∀{x:V} {d:PyData},DV X.K H x d->∀{u:Value},qO x u->∃as,Reads s.heap u d as
 | _,_,.non,u,r=>by cases (show u=Value.none from r);exact⟨_,.none⟩
 | _,_,.bl b,u,r=>by cases (show u=Value.bool b from r);exact⟨_,.bool b⟩
 | _,_,.int i,u,r=>by obtain⟨t,q⟩:=(show ∃t,u=Value.int i t from r);subst q;exact⟨_,.int i t⟩
 | _,_,.str x,u,r=>by obtain⟨t,q⟩:=(show ∃t,u=Value.str x t from r);subst q;exact⟨_,.str x t⟩
 | _,_,.lst (a:=a) hq hs,u,r=>by
  cases (show u=Value.ref a from r)
  obtain⟨its,rv,⟨o,n,e,hc,hd,hda⟩,hz⟩:=I.list hq
  obtain⟨as,ra⟩:=DVs.reads I hs rv
  exact⟨_,.list e hc hda (by simpa using ra)⟩
 | _,_,.tup (a:=a) hq hs,u,r=>by
  cases (show u=Value.ref a from r)
  obtain⟨its,rv,⟨o,e,hc,n,hda⟩,hz⟩:=I.tuple hq
  obtain⟨as,ra⟩:=DVs.reads I hs rv
  exact⟨_,.tuple e hc hda (by simpa using ra)⟩
theorem DVs.reads(I:qz X pins σ H s):∀{xs:List V} {ds:List PyData},DVs X.K H xs ds->∀{us:List Value},qG xs us->∃as,ReadsAll s.heap us ds as
 | _,_,.nil,_,.nil=>⟨_,.nil⟩
 | _,_,.cons h hs,_,.cons r rs=>by
  obtain⟨as,a⟩:=DV.reads I h r
  obtain⟨bs,b⟩:=DVs.reads I hs rs
  exact⟨_,.cons a b⟩
end
end
section
variable{X:Cx}
def qaW(K:zdW)(k:Bool):R2:=λx y H Q=>∃d,DV K H x d/\DV K H y d/\PySem.SeqAt.shaped d=true/\Q (.bl k) H
theorem XU{d:PyData}(h:PySem.SeqAt.shaped d=true):PyData.eqv d d=true:=PySem.SeqAt.eqv_refl d (PySem.SeqAt.canLay_of_shaped h)
theorem Mg(hu:X.A.units+64 < cLine):Zf X (compareOp .Eq) (qaW X.K true):=by
 intro pins s σ H x y v u Q I rx ry h
 obtain⟨d,h1,h2,hs,q⟩:=h
 obtain⟨as,ra⟩:=h1.reads I rx
 obtain⟨bs,rb⟩:=h2.reads I ry
 refine eq_dataH ra rb hs hs hu ?_
 rw[XU hs]
 exact⟨.bl true,H,I,rfl,q⟩
theorem wX(hu:X.A.units+64 < cLine):Zf X (compareOp .NotEq) (qaW X.K false):=by
 intro pins s σ H x y v u Q I rx ry h
 obtain⟨d,h1,h2,hs,q⟩:=h
 obtain⟨as,ra⟩:=h1.reads I rx
 obtain⟨bs,rb⟩:=h2.reads I ry
 refine ne_dataH ra rb hs hs hu ?_
 rw[XU hs]
 exact⟨.bl false,H,I,rfl,q⟩
def qbO(i j:Int):Prop:=0 < j/\j.natAbs < 2^200
theorem w4:Zf X (binaryOp .FloorDiv) (rI qbO λi j=>.int (i / j)):=Mh λi j _ _ _ _ _ hc q=>by
 have h1:(0:Int) < j:=hc.1
 have h3:j.natAbs.log2 < 200:=(Nat.log2_lt (by omega)).mpr hc.2
 exact floordiv_int (by omega) (by rw[zbV i (by omega)];exact q) (.inl (PyProof.noPylong_of_log2 (zdM h3 (by decide))))
theorem y9:MtR X "int.bit_length" (λx xs H Q=>∃i,x=.int i/\xs=[]/\Q (.int (Builtin.Int.intBits i)) H):=by
 intro pins s σ H x xs v us Q I rx rv h
 obtain⟨i,rfl,rfl,q⟩:=h
 obtain⟨t,rfl⟩:=rx
 cases rv
 exact call_int_bit_length ⟨.int _,H,I.tok _,⟨_,rfl⟩,q⟩
end
section
variable{X:Cx}{tg:Expr}
end
section
variable{X:Cx}{st:Stmt}{rest:List Stmt}{t u:TS}
end
end L2
namespace PySem
section
variable{prog:Program}{w:World}{A:Around}{E:Value->Shared->Prop}{s:Shared}
def Xu(x n c:Int):Obj:={cls:=.type "range_iterator",data:=.fields #[rawInt x,rawInt n,rawInt c]}
theorem kH(n:Nat):Builtin.Range.rangeSize 0 n 1=n:=by
 unfold Builtin.Range.rangeSize
 rw[if_pos (by decide)]
 split<;>omega
theorem XZ{r:Addr}{a b c:Int}{t u v:Tok}{Q:Value->Shared->Prop}(hr:IsRange s.heap r a b c t u v)
  (hs:(Builtin.Range.rangeFitsLong a&&Builtin.Range.rangeFitsLong b&&Builtin.Range.rangeFitsLong c&&Builtin.Range.rangeFitsLong (-c)&&Builtin.Range.rangeFitsLong (a - c)&&Builtin.Range.rangeFitsLong (Builtin.Range.rangeSize a b c))=true)
  (h:Q (.ref s.heap.objs.size) {s with heap:=s.heap.push (Xu (a+(Builtin.Range.rangeSize a b c - 1)*c) (Builtin.Range.rangeSize a b c) (-c))}):wpAny (model prog w) A (call (.builtin "range.__reversed__") [.ref r]) Q E s:=by
 have ty:s.TypeIs (.ref r) "range":=⟨_,hr,rfl⟩
 refine wpAny_call_entry F.slot_range_reversed ty F.entry_range_reversed ?_ (F.args_range_reversed_1 _)
 unfold Builtin.«range.__reversed__»
 refine zdY (wpAny_of_eq (a:=Value.ref r) rfl ?_)
 refine zdY ?_
 unfold Builtin.Range.rangeFields
 refine zdY (wpAny_field hr rfl (x:=.int a t) rfl ?_)
 refine zdY (m:=asInt? (.int a t)) (zdZ ?_)
 refine zdY (wpAny_field hr rfl (x:=.int b u) rfl ?_)
 refine zdY (m:=asInt? (.int b u)) (zdZ ?_)
 refine zdY (wpAny_field hr rfl (x:=.int c v) rfl ?_)
 refine zdY (m:=asInt? (.int c v)) (zdZ ?_)
 refine zdZ ?_
 dsimp only
 rw[hs]
 simp only[Bool.not_true,zba,if_false,if_true]
 first
 | refine zdY (wpAny_newObj_type (zdZ ⟨_,rfl,h⟩))
 | refine zdY (zdZ (zdY (wpAny_newObj_type (zdZ ⟨_,rfl,h⟩))))
theorem ZN{r:Addr}{n:Nat}{t u v:Tok}{Q:Value->Shared->Prop}(hr:IsRange s.heap r 0 n 1 t u v)(hn:n < 1048576)
  (h:Q (.ref s.heap.objs.size) {s with heap:=s.heap.push (Xu ((n:Int) - 1) n (-1))}):wpAny (model prog w) A (call (.builtin "range.__reversed__") [.ref r]) Q E s:=by
 have f:∀x:Int,-2000000<=x->x<=2000000->Builtin.Range.rangeFitsLong x=true:=λx p q=>by
  unfold Builtin.Range.rangeFitsLong
  simp
  omega
 have e:=kH n
 have hs:(Builtin.Range.rangeFitsLong 0&&Builtin.Range.rangeFitsLong (n:Int)&&Builtin.Range.rangeFitsLong 1&&Builtin.Range.rangeFitsLong (-1)&&Builtin.Range.rangeFitsLong (0 - 1)&&Builtin.Range.rangeFitsLong (Builtin.Range.rangeSize 0 n 1))=true:=by
  rw[e,f 0 (by omega) (by omega),f n (by omega) (by omega),f 1 (by omega) (by omega),f (-1) (by omega) (by omega),f (0 - 1) (by omega) (by omega)]
  rfl
 refine XZ hr hs ?_
 have e2:(0:Int)+(Builtin.Range.rangeSize 0 n 1 - 1)*1=(n:Int) - 1:=by rw[e];omega
 rw[e2,e]
 exact h
theorem Z6{r:Addr}{n:Nat}{t u v:Tok}{Q₁:Value->Shared->Prop}(hr:IsRange s.heap r 0 n 1 t u v)(hn:n < 1048576)
  (h:Q₁ (.ref s.heap.objs.size) {s with heap:=s.heap.push (Xu ((n:Int) - 1) n (-1))}):
  codeAny (model prog w) A (.call (.builtin "reversed.__new__") ⟨[.type "reversed",.ref r],[]⟩) (wants Q₁ E) s:=by
 have ty:s.TypeIs (.ref r) "range":=⟨_,hr,rfl⟩
 have nn:¬((Value.builtin "range.__reversed__"==Value.none)=true):=tN
 refine codeAny_of_tree (show wpAny _ A.in1 (checkBuiltinCall "reversed.__new__" ⟨[.type "reversed",.ref r],[]⟩ >>= λ_=>again (.builtin "reversed.__new__" ⟨[.type "reversed",.ref r],[]⟩)) _ _ s from
  zdY (wpAny_of_eq (F.newCall_reversed_1 (.ref r)) (zdZ ⟨plainId_quiet F.plain_reversed_new _,codeAny_builtin F.entry_reversed_new ?_⟩)))
 rw[Around.under_plainId F.plain_reversed_new _];unfold Builtin.«reversed.__new__»
 refine zdY (wpAny_of_eq (newClass_reversed (.ref r)) ?_);dsimp only
 refine zdY (wpAny_of_eq (a:=()) (by kernel_rfl) (zdY (wpAny_of_eq (a:=()) (by kernel_rfl) ?_)));try dsimp only
 refine zdY (wpAny_specialOf ty F.slot_range_reversed.lookup ?_);dsimp only
 refine zdY (wpAny_of_eq (F.slot_range_reversed.bind _) ?_);dsimp only
 rw[if_neg nn]
 refine zdY (wpAny_rule (zdY (m:=runValue (.call (.builtin "range.__reversed__") ⟨[.ref r],[]⟩)) (show wpAny _ _ (call (.builtin "range.__reversed__") [.ref r]) _ _ _ from ZN hr hn ?_)))
 first | exact zdZ h | exact zdY (zdZ (zdZ h))
theorem Yv:isSubtype (.type "range_iterator") (.type "reversed")=pure false:=by rw[isSubtype_type];kernel_rfl
theorem ZM{r:Addr}{n:Nat}{t u v:Tok}{Q:Value->Shared->Prop}(hr:IsRange s.heap r 0 n 1 t u v)(hn:n < 1048576)
  (h:Q (.ref s.heap.objs.size) {s with heap:=s.heap.push (Xu ((n:Int) - 1) n (-1))}):wpAny (model prog w) A (call (.type "reversed") [.ref r]) Q E s:=by
 refine callType_other (U:="range_iterator") (Q₁:=λobj s₁=>obj=.ref s.heap.objs.size/\s₁={s with heap:=s.heap.push (Xu ((n:Int) - 1) n (-1))}) (by decide+kernel) F.create_reversed ⟨_,_,F.mro_reversed⟩ F.made_reversed Yv (F.typeCall_reversed_1 _) (Z6 hr hn ⟨rfl,rfl⟩) ?_
 rintro obj s₁ ⟨rfl,rfl⟩
 exact⟨⟨_,tV _ rfl,rfl⟩,h⟩
theorem VA{I:Addr}{x left c:Int}{Q:Value->Shared->Prop}(hit:IsRangeIter s.heap I x left c)(h:Q (.int left s.toks) {s with toks:=s.toks+1}):
  wpAny (model prog w) A (call (.builtin "range_iterator.__length_hint__") [.ref I]) Q E s:=by
 have hT:s.TypeIs (.ref I) "range_iterator":=⟨_,hit,rfl⟩
 refine wpAny_call_entry F.slot_range_iterator_length_hint hT F.entry_range_iterator_length_hint ?_ (F.args_range_iterator_length_hint_1 _)
 unfold Builtin.«range_iterator.__length_hint__»
 refine zdY (wpAny_of_eq (a:=Value.ref I) rfl ?_)
 refine zdY (wpAny_field hit rfl (x:=rawInt left) rfl ?_)
 show wpAny _ _ (do ret (<-mkInt left)) _ _ _
 exact wpAny_ret_mkInt h
structure vI(P:Program)(w:World)(T:String)(I:Addr)(fp:List Addr)(n:Nat)(V:Nat->Value->Prop)(St:Nat->Heap->Prop):Prop where
 ty:∀z:Shared,St 0 z.heap->z.TypeIs (.ref I) T
 nl:(Value.type T==Value.type "list")=false
 nt:(Value.type T==Value.type "tuple")=false
 walk:∀B:Around,B.handled=none->Walks P w B I fp [I] n V St
 hint:∀(B:Around) (F:Value->Shared->Prop) (z:Shared) (R:Bool->Shared->Prop),St 0 z.heap->(∀k,R false {z with toks:=k})->wpAny (model P w) B (Builtin.List.listLengthHint (.ref I)) R F z
theorem vI.list{P:Program}{T:String}{I:Addr}{fp:List Addr}{n:Nat}{V:Nat->Value->Prop}{St:Nat->Heap->Prop}(J:vI P w T I fp n V St){B:Around}{F':Value->Shared->Prop}{z:Shared}{R:Value->Shared->Prop}
  (hB:B.handled=none) (st:St 0 z.heap) (mem:I∈fp) (old:∀b∈fp,b < z.heap.objs.size) (hn:n<=1048576)
  (k:∀g tk xs c,(∀b o,b≠I->z.heap.get? b=some o->g.get? b=some o)->g.get? z.heap.objs.size=some (⟨.type "list",none,.seq xs c,#[]⟩:Obj)->ItemsOf V xs n->R (.ref z.heap.objs.size) {z with heap:=g,toks:=tk}):
  wpAny (model P w) B (call (.type "list") [.ref I]) R F' z:=by
 have nI:∀b∈fp,z.heap.objs.size≠b:=λb hb=>zbH (old b hb)
 have sI:Builtin.List.listSameRef (.ref z.heap.objs.size) (.ref I)=false:=by unfold Builtin.List.listSameRef;simp [nI I mem]
 refine callType_codes (Q₁:=λob z1=>z1={z with heap:=z.heap.push {cls:=.type "list",data:=.seq #[]}}/\ob=.ref z.heap.objs.size) F.called_list (F.typeCall_list_1 _) F.entry_list_init (code_list_new _ ⟨rfl,rfl⟩) ?_
 rintro ob z1 ⟨rfl,rfl⟩
 have a0:=tV z.heap (o:=({cls:=.type "list",data:=.seq #[]}:Obj)) rfl
 refine⟨⟨_,a0,rfl⟩,F.args_list_init_2 _ _,?_⟩
 show wpAny _ _ (Builtin.List.listItems (.ref _) >>= λys=>Builtin.List.listUpdate (.ref _) (λ_=>#[]) >>= λ_=>letGo ys.toList.reverse >>= λ_=>Builtin.List.listExtendWith (.ref _) (.ref I) .none) _ _ _
 refine zdY (show wpAny _ _ (Builtin.List.listItems (.ref _)) _ _ _ from ?_)
 unfold Builtin.List.listItems
 refine zdY (wpAny_seqItems a0 rfl (zdZ (zdY ?_)))
 refine wpAny_updateSeq a0 rfl (zdY (wpAny_letGo ?_))
 have a1:=zaG (Obj.mapSeq (λ_=>(#[]:Array Value))) a0 rfl
 have keep1:∀b o,z.heap.get? b=some o->((z.heap.push {cls:=.type "list",data:=.seq #[]}).update z.heap.objs.size (Obj.mapSeq (λ_=>(#[]:Array Value)))).get? b=some o:=λb o e=>
  (zak _ _ (zbH (tK e))).trans (tu _ e)
 generalize hg1:(z.heap.push {cls:=.type "list",data:=.seq #[]}).update z.heap.objs.size (Obj.mapSeq (λ_=>(#[]:Array Value)))=g1 at a1 keep1
 have st1:St 0 g1:=(J.walk B hB).frame 0 _ _ st λb _ o e=>keep1 b o e
 unfold Builtin.List.listExtendWith
 refine zdY (wpAny_typeOf (J.ty {z with heap:=g1} st1) ?_)
 simp only[sI,J.nl,J.nt,Bool.or_false,zba,if_false]
 refine zdY ((J.walk B.in1.in1 hB).self 0 {z with heap:=g1} _ _ st1 ?_)
 refine zdY (wpAny_holding (J.hint B.in1.in1 _ {z with heap:=g1} _ st1 λtk=>?_))
 have run:∀(g:Heap) (c tk:Nat),St 0 g->(∀b o,z.heap.get? b=some o->g.get? b=some o)->g.get? z.heap.objs.size=some {cls:=.type "list",data:=.seq #[] c}->
   codeAny (model P w) B.in1 (.builtin "list.extend.loop" ⟨[.ref z.heap.objs.size,.ref I,.none],[]⟩) (wants (λr z2=>r=.none/\R (.ref z.heap.objs.size) z2) F') {z with heap:=g,toks:=tk}:=λg c tk sg kg ag=>
  codeAny_extend_loopS (J.walk B.in1.in1 hB).toS (by rw[sizeLine_eq];omega) _ (λq=>nI _ q rfl) .none n 0 _ #[] c rfl (zaw _) sg ag (ItemsOf.nil _) λz3 xs c3 mv a3 it=>by
   rw[Moved.eq_with mv]
   refine⟨rfl,k z3.heap z3.toks xs c3 (λb o hb e=>mv.heap b o (λq=>?_) (kg b o e)) a3 it⟩
   rcases tS.mp q with q | q
   ·exact absurd q (tQ (tK e))
   ·exact hb (t7.mp q)
 refine wpAny_ite_split (λ_=>?_) (λ_=>zdZ ⟨plainId_quiet F.plain_extend_loop _,run g1 _ tk st1 keep1 a1⟩)
 refine zdY (wpAny_rule (zdY (show wpAny _ _ (updateSeq z.heap.objs.size (·.push .none) >>= λ_=>updateSeq z.heap.objs.size (·.pop)) _ _ _ from zdY (wpAny_updateSeq a1 rfl ?_))))
 have a2:=zaG (Obj.mapSeq (·.push Value.none)) a1 rfl
 refine wpAny_updateSeq (hz:=by seq_fits) a2 rfl ?_
 have keep3:∀b o,b≠z.heap.objs.size->g1.get? b=some o->((g1.update z.heap.objs.size (Obj.mapSeq (·.push Value.none))).update z.heap.objs.size (Obj.mapSeq (·.pop))).get? b=some o:=λb o hb e=>
  (zak _ _ (Ne.symm hb)).trans ((zak _ _ (Ne.symm hb)).trans e)
 exact zdZ ⟨plainId_quiet F.plain_extend_loop _,run _ _ tk ((J.walk B hB).frame 0 _ _ st1 λb hb o e=>keep3 b o (λq=>nI b hb q.symm) e) (λb o e=>keep3 b o (tQ (tK e)) (keep1 b o e)) (zaG (Obj.mapSeq (·.pop)) a2 rfl)⟩
theorem yF{P:Program}{I:Addr}{x c:Int}{n:Nat}(hn:n<=1048576):vI P w "range_iterator" I [I] n (λi v=>∃t,v=.int (x+i*c) t) (λi h=>IsRangeIter h I (x+(i:Nat)*c) ((n:Int) - (i:Nat)) c) where
 ty:=λ_ st=>⟨_,st,rfl⟩
 nl:=by decide
 nt:=by decide
 walk:=λ_ hB=>Walks.range hB I x c n
 hint:=λB G z R st k=>by
  have st':IsRangeIter z.heap I x n c:=by
   have e1:x+((0:Nat):Int)*c=x:=by simp
   have e2:(n:Int) - ((0:Nat):Int)=n:=by simp
   rw[<-e1,<-e2]
   exact st
  have ty:z.TypeIs (.ref I) "range_iterator":=⟨_,st',rfl⟩
  have few:Builtin.List.listTooLong ((n:Int).toNat)=false:=by unfold Builtin.List.listTooLong;rw[zaT];exact decide_eq_false (by rw[sizeLine_eq];omega)
  unfold Builtin.List.listLengthHint
  refine zdY (wpAny_specialOf ty F.nolen_ra ?_)
  refine(show wpAny _ B (specialOf (.ref I) (zdX "__length_hint__") >>= _) _ _ _ from zdY (wpAny_specialOf ty F.hint_ra ?_))
  (generalize hq:("range_iterator.__length_hint__":String)=q0;(fail_if_success (clear hq q0));wp_delta;rw[show splitId q0=some ("range_iterator","__length_hint__") from by subst hq;decide+kernel];subst hq)
  refine zdY (wpAny_isInstance (b:=true) ty (by rw[isSubtype_type];kernel_rfl) ?_)
  refine(show wpAny _ B (call (.builtin "range_iterator.__length_hint__") [.ref I] >>= _) _ _ _ from zdY (VA st' (zdY (m:=asInt? (.int (n:Int) _)) (zdZ ?_))))
  dsimp only
  rw[if_neg (by rw[few];decide)]
  exact zdZ (k _)
end
end PySem
namespace L2
open PySem PySem.Spec PyProof.Rows
def zB(n:Nat):List Nat:=(zab n).reverse
theorem yq{n:Nat}{acc:Array Value}(h:ItemsOf (λi v=>∃t,v=.int ((n:Int) - 1+i*(-1)) t) acc n):qG ((zB n).map λi=>V.int (i:Nat)) acc.toList:=by
 obtain⟨hz,hv⟩:=h
 have key:∀(xs:List V) (us:List Value),xs.length=us.length->(∀(i:Nat) (x:V) (u:Value),xs[i]?=some x->us[i]?=some u->qO x u)->qG xs us:=by
  intro xs
  induction xs with
  | nil=>intro us hl _;cases us with | nil=>exact .nil | cons _ _=>cases hl
  | cons x xs ih=>
   intro us hl hp
   cases us with
   | nil=>cases hl
   | cons u us=>exact .cons (hp 0 x u rfl rfl) (ih us (by simpa using hl) λi y w h1 h2=>hp (i+1) y w (by simpa using h1) (by simpa using h2))
 refine key _ _ (by simp [zB,hz]) λi x u h1 h2=>?_
 have h2':acc[i]?=some u:=by simpa using h2
 obtain⟨t,rfl⟩:=hv i u h2'
 have hi:i < n:=by
  have:=(zat.mp h2').1
  omega
 rw[tG,zB,List.getElem?_reverse (by simpa using hi),zam,zbC (by omega)]at h1
 simp at h1
 subst h1
 refine⟨t,?_⟩
 congr 1
 omega
section
variable{X:Cx}{e:Expr}{te:TE}{p1 p2 p3 pos1 pos2 pos3:Pos}
theorem yA{M:Model}{A:Around}{E:Value->Shared->Prop}{s:Shared}{env:Env}{e:Expr}{pos:Pos}{R:List Value->Shared->Prop}(hs:starEach [e] env=[(false,eval e env)])(h:wpAny M A (eval e env) (λv s1=>R [v] s1) E s):
  wpAny M A (spliced (backTo pos (starEach [e] env))) R E s:=by
 rw[hs]
 show wpAny _ _ (spliced ((false,eval e env)::backTo pos [])) _ _ s
 exact Calls.spliced_cons (jf h λu s1 h1=>Calls.spliced_nil h1)
def qb0(te:TE):TE:=λσ H Q=>te σ H λx H1=>∃n:Nat,x=.int n/\n<=1000/\∀l,H1 l=none->Q (.ref l) (upd H1 l (.lst ((zB n).map λi=>V.int (i:Nat))))
theorem MR(hc:X.calm=true)(g1:Gl X "list")(m1:X.mg "list"=none)(g2:Gl X "reversed")(m2:X.mg "reversed"=none)(g3:Gl X "range")(m3:X.mg "range"=none)(ha:JE X e te)(hs:starEach [e] X.env=[(false,eval e X.env)]:=by rfl)(hs2:starEach [.Call (.Name "range" p3) [e] [] pos3] X.env=[(false,eval (.Call (.Name "range" p3) [e] [] pos3) X.env)]:=by rfl)(hs3:starEach [.Call (.Name "reversed" p2) [.Call (.Name "range" p3) [e] [] pos3] [] pos2] X.env=[(false,eval (.Call (.Name "reversed" p2) [.Call (.Name "range" p3) [e] [] pos3] [] pos2) X.env)]:=by rfl):JE X (.Call (.Name "list" p1) [.Call (.Name "reversed" p2) [.Call (.Name "range" p3) [e] [] pos3] [] pos2] [] pos1) (qb0 te):=.of (by
 have ha:=ha.to
 intro pins s σ H Q I h
 refine Call_ (Q5 I g1 m1 boot_list (PyProof.Rows.callWith_type1 (yA hs3 ?_) (by rw[hs3];rfl) rfl))
 refine Call_ (Q5 I g2 m2 boot_reversed (PyProof.Rows.callWith_type1 (yA hs2 ?_) (by rw[hs2];rfl) rfl))
 refine Call_ (Q5 I g3 m3 boot_range (PyProof.Rows.callWith_type1 (yA hs (jf (ha pins s σ H _ I h) λu s1 ⟨x,H1,I1,r1,q1⟩=>?_)) (by rw[hs];rfl) rfl))
 obtain⟨n,rfl,hn,q⟩:=q1
 obtain⟨t,rfl⟩:=r1
 refine call_range_1 ?_
 refine ZM (IsRange.new ..) (by omega) ?_
 refine(yF (x:=(n:Int) - 1) (c:=-1) (n:=n) (by omega)).list (I1.ok.hd hc) (by
  have e1:(n:Int) - 1+((0:Nat):Int)*(-1)=(n:Int) - 1:=by simp
  have e2:(n:Int) - ((0:Nat):Int)=n:=by simp
  rw[e1,e2]
  exact tV _ rfl) (by simp) (λb hb=>by rw[t7.mp hb,zbm (_:Heap) (Xu _ _ _)];exact zaI _) (by omega) λh' tk acc' c' kp e hi=>?_
 have kk:∀b o,s1.heap.get? b=some o->h'.get? b=some o:=λb o eb=>by
  refine kp b o (tQ ?_) (tu _ (tu _ eb))
  rw[zbm]
  exact zbS (tK eb)
 have s1z:s1.heap.objs.size<=((s1.heap.push ({cls:=.type "range",data:=.fields #[.int 0 s1.toks,.int n t,.int 1 (s1.toks+1)]}:Obj)).push (Xu ((n:Int) - 1) n (-1))).objs.size:=by
  rw[zbm,zbm]
  omega
 exact⟨.ref _,_,I1.laid (t':=tk) (o:=.lst ((zB n).map λi=>V.int (i:Nat))) kk s1z ⟨by simp only[tj,zB,zcb,zam];exact zai (qp hn),acc'.toList,c',yq hi,by simpa using e⟩,rfl,q _ (I1.hok.fresh s1z)⟩)
end
end L2
namespace PySem
namespace F
end F
end PySem
namespace L2
open PySem PySem.Spec PyProof.Rows
theorem yP:∀(xs:List V) (us:List Value),xs.length=us.length->(∀(i:Nat) (x:V) (u:Value),xs[i]?=some x->us[i]?=some u->qO x u)->qG xs us:=by
 intro xs
 induction xs with
 | nil=>intro us hl _;cases us with | nil=>exact .nil | cons _ _=>cases hl
 | cons x xs ih=>
  intro us hl hp
  cases us with
  | nil=>cases hl
  | cons u us=>exact .cons (hp 0 x u rfl rfl) (ih us (by simpa using hl) λi y w h1 h2=>hp (i+1) y w (by simpa using h1) (by simpa using h2))
section
variable{X:Cx}{e:Expr}{te:TE}{p1 p2 pos1 pos2:Pos}
end
section
variable{X:Cx}{pins:List (Addr×Obj)}{σ:St}{H:Hp}{s:Shared}{h':Heap}
theorem qz.turnLaid{L:List Addr}{T:Addr}{o:HO}{t':Nat}(I:qz X pins σ H s)(k:∀b u,b∉L->s.heap.get? b=some u->h'.get? b=some u)(hf:∀b∈L,JM X pins H b)(hp:s.heap.objs.size<=T)
  (new:qK X.prog X.w (upd H T o) h' T o):qz X pins σ (upd H T o) {s with heap:=h',toks:=t'}:=by
 have hn:H T=none:=I.hok.fresh hp
 have up:∀b u,H b=some u->upd H T o b=some u:=λb u e=>by rw[qi (qr e hn)];exact e
 have nL:∀b u,H b=some u->b∉L:=λb u e z=>by rw[(hf b z).1]at e;cases e
 refine I.step (g':=s.gens) (d':=s.drawn) (ch:=L) (λb hb=>?_) (λb o _ _ hc e _=>k b o hc e) (λb o _ _ hc e _=>⟨o.slots,k b o hc e⟩) (λb ob hc e n=>?_)
  (λb o hc e=>⟨o,k b o hc e⟩) (λb xs e=>up b _ e) (λb o u e=>up b _ e) (λb ps e=>⟨#[],by rw[up b _ e];simp⟩) (λm hm=>?_) (λb u e=>?_) I.bare
 ·obtain⟨f0,f1,f2,f3,f4,f5⟩:=hf b hb
  exact⟨f3,f1,f4,f5⟩
 ·have:b≠T:=tQ (tM (tK e) hp)
  rw[qi this]
  exact n
 ·obtain⟨o,es,ep,ho,r⟩:=hm
  exact⟨o,es,ep,k _ o (λz=>(hf _ z).2.1 rfl) ho,r⟩
 ·by_cases hb:b=T
  ·subst hb
   rw[qe]at e
   cases e
   exact new
  ·rw[qi hb]at e
   refine(I.hok b u e).stay (λc v hc q=>k c v ?_ q) (λc q=>up c _ q) (λc xs q=>up c _ q) (λc o q=>up c _ q)
   rcases hc with z | z
   ·rw[z];exact nL b u e
   ·exact nL c _ z
theorem qz.turnedL{L:List Addr}{t':Nat}(I:qz X pins σ H s)(k:∀b u,b∉L->s.heap.get? b=some u->h'.get? b=some u)(hf:∀b∈L,JM X pins H b):qz X pins σ H {s with heap:=h',toks:=t'}:=by
 have nL:∀b u,H b=some u->b∉L:=λb u e z=>by rw[(hf b z).1]at e;cases e
 refine I.step (g':=s.gens) (d':=s.drawn) (ch:=L) (λb hb=>?_) (λb o _ _ hc e _=>k b o hc e) (λb o _ _ hc e _=>⟨o.slots,k b o hc e⟩) (λ_ _ _ _ n=>n)
  (λb o hc e=>⟨o,k b o hc e⟩) (λ_ _ e=>e) (λ_ _ _ e=>e) (λb ps e=>⟨#[],by rw[e];simp⟩) (λm hm=>?_) (λb u e=>?_) I.bare
 ·obtain⟨f0,f1,f2,f3,f4,f5⟩:=hf b hb
  exact⟨f3,f1,f4,f5⟩
 ·obtain⟨o,es,ep,ho,r⟩:=hm
  exact⟨o,es,ep,k _ o (λz=>(hf _ z).2.1 rfl) ho,r⟩
 ·refine(I.hok b u e).stay (λc v hc q=>k c v ?_ q) (λ_ q=>q) λ_ _ q=>q
  rcases hc with z | z
  ·rw[z];exact nL b u e
  ·exact nL c _ z
end
section
variable{X:Cx}{elts:List Expr}{x1:Nat}{tpos:Pos}
end
section
variable{X:Cx}
theorem Wf:∀{cs:List Addr} {us:List Value},qG (cs.map V.ref) us->us=cs.map Value.ref
 | [],_,.nil=>rfl
 | c::cs,u::us,.cons r t=>by
  obtain rfl:u=Value.ref c:=r
  rw[tU,Wf t]
def qcn(K:zdW):R2:=λx y H Q=>∃d d',DV K H x d/\DV K H y d'/\PySem.SeqAt.shaped d=true/\PySem.SeqAt.shaped d'=true/\Q (.bl (PyData.eqv d d')) H
theorem Mf(hu:X.A.units+64 < cLine):Zf X (compareOp .Eq) (qcn X.K):=by
 intro pins s σ H x y v u Q I rx ry h
 obtain⟨d,d',h1,h2,hs,hs',q⟩:=h
 obtain⟨as,ra⟩:=h1.reads I rx
 obtain⟨bs,rb⟩:=h2.reads I ry
 exact eq_dataH ra rb hs hs' hu ⟨.bl _,H,I,rfl,q⟩
end
section
variable{X:Cx}{o e:Expr}{es:List Expr}{ta:TE}{t:TA}{m:Str}{C C' f f':Addr}{fd fd':zea}{ps ps':List Str}{k k':Nat}{sp sp':Sp}{apos pos:Pos}
def xP(C C':Addr)(m:Str)(sp sp':Sp)(ta:TE)(t:TA):TE:=λσ H Q=>ta σ H λx H1=>∃a dx fs,x=.ref a/\fs.lookup m=none/\
 ((H1 a=some (.ins C dx fs)/\t σ H1 λvs H2=>sp (x::vs) H2 Q E0)\/(H1 a=some (.ins C' dx fs)/\t σ H1 λvs H2=>sp' (x::vs) H2 Q E0))
theorem uP{pl:Sem Bool}(he:JE X o ta)(c:X7 X.K C)(hm:We X.K C m f)(F:qo X.prog X.w X.K X.mg X.base qH k f fd ps sp)(hr:qU k X.A)(hb:jE X.K fd ps [])(c':X7 X.K C')(hm':We X.K C' m f')(F':qo X.prog X.w X.K X.mg X.base qH k' f' fd' ps' sp')(hr':qU k' X.A)(hb':jE X.K fd' ps' [])(ha:JA X (e::es) t)(hst:starEach (e::es) X.env=(false,eval e X.env)::starEach es X.env:=by rfl)(hpl:(backTo pos (starEach es X.env)).any (·.1)=false:=by rfl)(ht:eval (.Call (.Attribute o m apos) (e::es) [] pos) X.env=(eval o X.env >>= λov=>standAt apos.atName >>= λ_=>holding [ov] (getMethod ov m pl) >>= λr=>callWith pos r.1 r.2 (backTo pos (starEach (e::es) X.env)) (backToKw pos (keywordEach [] X.env))):=by rfl):JE X (.Call (.Attribute o m apos) (e::es) [] pos) (xP C C' m sp sp' ta t):=.of (by
 have he:=he.to
 have ha:=ha.to
 intro pins s σ H Q I h
 refine zbP (pl:=pl) (jf (he pins s σ H _ I h) λu s1 ⟨x,H1,I1,rx,a,dx,fs,ex,l,q⟩=>?_) ht
 subst ex
 obtain rfl:u=Value.ref a:=rx
 rcases q with ⟨ea,q⟩ | ⟨ea,q⟩
 ·refine QB I1 ea c hm l (zbi (first:=[.ref a]) (h₀:=X.base) I.ok.mod.kin hm.kp (jf (ha pos pins s1 σ H1 _ I1 q) λus s2 ⟨vs,H2,I2,r,q2⟩=>⟨I2.kIn,?_⟩) hst hpl)
  exact Z0 (us:=.ref a::us) (vs:=.ref a::vs) F hr hb .nil QR I2 (.cons rfl r) (by simpa using q2)
 ·refine QB I1 ea c' hm' l (zbi (first:=[.ref a]) (h₀:=X.base) I.ok.mod.kin hm'.kp (jf (ha pos pins s1 σ H1 _ I1 q) λus s2 ⟨vs,H2,I2,r,q2⟩=>⟨I2.kIn,?_⟩) hst hpl)
  exact Z0 (us:=.ref a::us) (vs:=.ref a::vs) F' hr' hb' .nil QR I2 (.cons rfl r) (by simpa using q2))
theorem WB{pl:Sem Bool}(he:JE X o ta)(c:X7 X.K C)(hm:We X.K C m f)(F:qo X.prog X.w X.K X.mg X.base qH k f fd ps sp)(hr:qU k X.A)(hb:jE X.K fd ps [])(c':X7 X.K C')(hm':We X.K C' m f')(F':qo X.prog X.w X.K X.mg X.base qH k' f' fd' ps' sp')(hr':qU k' X.A)(hb':jE X.K fd' ps' [])(ht:eval (.Call (.Attribute o m apos) [] [] pos) X.env=(eval o X.env >>= λov=>standAt apos.atName >>= λ_=>holding [ov] (getMethod ov m pl) >>= λr=>callWith pos r.1 r.2 (backTo pos (starEach [] X.env)) (backToKw pos (keywordEach [] X.env))):=by rfl):JE X (.Call (.Attribute o m apos) [] [] pos) (xP C C' m sp sp' ta QT):=.of (by
 have he:=he.to
 intro pins s σ H Q I h
 refine zbP (pl:=pl) (jf (he pins s σ H _ I h) λu s1 ⟨x,H1,I1,rx,a,dx,fs,ex,l,q⟩=>?_) ht
 subst ex
 obtain rfl:u=Value.ref a:=rx
 rcases q with ⟨ea,q⟩ | ⟨ea,q⟩
 ·exact QB I1 ea c hm l (zcJ (first:=[.ref a]) I1.kIn hm.kp (Z0 (us:=[.ref a]) (vs:=[.ref a]) F hr hb .nil QR I1 (.cons rfl .nil) q))
 ·exact QB I1 ea c' hm' l (zcJ (first:=[.ref a]) I1.kIn hm'.kp (Z0 (us:=[.ref a]) (vs:=[.ref a]) F' hr' hb' .nil QR I1 (.cons rfl .nil) q)))
end
section
variable{X:Cx}{e:Expr}{es:List Expr}{te:TE}{t:TA}
theorem Vr{t':TE}(h:JE X e te)(k:∀σ H Q,t' σ H Q->te σ H Q):JE X e t':=.of (by
 have h:=h.to
 exact λpins s σ H Q I q=>h pins s σ H Q I (k σ H Q q))
def tWk(te:TE):TE:=λσ H Q=>∃G:VK,te σ H G/\∀x H1,G x H1->Q x H1
theorem uO(h:JE X e te):JE X e (tWk te):=.of (by
 have h:=h.to
 intro pins s σ H Q I ⟨G,g,k⟩
 exact jf (h pins s σ H G I g) λv s1 ⟨x,H1,I1,r1,q1⟩=>⟨x,H1,I1,r1,k x H1 q1⟩)
def aWk(t:TA):TA:=λσ H Q=>∃G:List V->Hp->Prop,t σ H G/\∀vs H1,G vs H1->Q vs H1
theorem qbn(h:JA X es t):JA X es (aWk t):=.of (by
 have h:=h.to
 intro pos pins s σ H Q I ⟨G,g,k⟩
 exact jf (h pos pins s σ H G I g) λus s1 ⟨vs,H1,I1,r1,q1⟩=>⟨vs,H1,I1,r1,k vs H1 q1⟩)
end
open PySem PySem.Spec PySem.W PyProof.Rows
theorem NE:∀(f n r:Nat),r<=1->minRun' f n r<=n+r
 | 0,n,r,_=>tz _
 | f+1,n,r,hr=>by
  rw[minRun'_succ]
  split
  ·exact tz _
  ·have h1:max r (n % 2)<=1:=Nat.max_le.mpr ⟨hr,by omega⟩
   have:=NE f (n / 2) (max r (n % 2)) h1
   omega
section
variable{P:Program}{w:World}{B:Around}{F:Value->Shared->Prop}{κ:SortKind}{it:Array Keyed}{z:Shared}
theorem V8{n:Nat}{R:Nat->Shared->Prop}(hc:∀i,1<=i->i < n->∀C:Bool->Shared->Prop,C false z->kas_cmp P w B κ it i (i - 1) C z)(hR:R n z):
  ∀(f a:Nat),1<=a->a+f=n->(kas_asc (zaW (zab n)) f a).kasWp (kas_cmp P w B κ it) R z
 | 0,a,_,e=>by
  have e':a=n:=by omega
  subst e'
  exact hR
 | f+1,a,h1,e=>by
  have g:∀i,i < n->(zaW (zab n)).getD i 0=i:=λi hi=>by simp [Array.getD,hi]
  show kas_cmp P w B κ it ((zaW (zab n)).getD a 0) ((zaW (zab n)).getD (a - 1) 0) _ z
  rw[g a (by omega),g (a - 1) (by omega)]
  refine hc a h1 (by omega) _ ?_
  show KasT.kasWp _ (if false=true then _ else _) R z
  rw[if_neg tN]
  exact V8 hc hR f (a+1) (by omega) (by omega)
theorem yL{n:Nat}{Q:Unit->SortSt->Shared->Prop}(h2:2<=n)(hc:∀i,1<=i->i < n->∀C:Bool->Shared->Prop,C false z->kas_cmp P w B κ it i (i - 1) C z)
  (hQ:∀st,arrOf st=(zaW (zab n)).map (kas_item it)->failedOf st=none->Q () st z):kasC (model P w) B F sortRuns' Q (kas_st κ it (zaW (zab n))) z:=by
 obtain⟨r,rfl⟩:∃r,n=r+2:=⟨n - 2,by omega⟩
 have sz:(zaW (zab (r+2))).size=r+2:=by simp
 have sa:(arrOf (kas_st κ it (zaW (zab (r+2))))).size=r+2:=(Array.size_map ..).trans sz
 have le:=NE (r+2) (r+2) 0 (by decide)
 rw[sortRuns'_eq]
 refine kasC_bind (kasC_get ?_)
 dsimp only
 rw[sa]
 generalize minRun' (r+2) (r+2) 0=M at le
 refine kasC_bind (kasC_range (show kasC _ _ _ (forIn (0::1::zdT 2 r) _ _) _ _ _ from kasC_cons ?_))
 dsimp only
 rw[if_neg (by omega)]
 simp only[zdk,zdN]
 refine kasC_bind (kas_count_ (G:=λq z'=>q=(r+2,zaW (zab (r+2)))/\z'=z) (by omega) (by rw[sz];exact tz _) (λm p' z' _ _ _ hg=>?_) ?_)
 ·obtain⟨e,rfl⟩:=hg
  cases e
  dsimp only
  rw[if_neg (by omega)]
  refine kasC_bind (kasC_get ?_)
  rw[show (pendingOf (kas_st κ it (zaW (zab (r+2))))).back?=none from rfl]
  dsimp only
  refine kasC_bind (kasC_modify (kasC_pure (show kasC _ _ _ (forIn (1::zdT 2 r) _ _) _ _ _ from kasC_cons ?_)))
  dsimp only
  rw[if_pos (tz _)]
  refine kasC_pure ?_
  dsimp only
  refine kasC_bind (kasC_range (show kasC _ _ _ (forIn (0::1::zdT 2 r) _ _) _ _ _ from kasC_cons (kasC_bind (kasC_get ?_))))
  rw[if_pos (show (pendingOf (setPending (kas_st κ it (zaW (zab (r+2)))) ((pendingOf (kas_st κ it (zaW (zab (r+2))))).push (0,r+2,0)))).size<=1 from tz 1)]
  refine kasC_pure ?_
  dsimp only
  exact kasC_pure (hQ _ rfl rfl)
 ·unfold kas_count
  rw[KasT.kasWp_bind]
  refine V8 hc ?_ _ 1 (tz 1) (by omega)
  rw[if_pos (beq_self_eq_true _)]
  exact⟨rfl,rfl⟩
end
def J9(h:Heap)(v:Value)(k:Int×Int):Prop:=∃p o n t u,v=.ref p/\h.get? p=some o/\o.cls=.type "tuple"/\o.data=.seq #[.int k.1 t,.int k.2 u] n
def XH(a b:Int×Int):Prop:=a.1 < b.1\/(a.1=b.1/\a.2 < b.2)
section
variable{P:Program}{w:World}{B:Around}{F:Value->Shared->Prop}{z:Shared}
theorem Ua{v u:Value}{a b:Int×Int}(hv:J9 z.heap v b)(hu:J9 z.heap u a)(hlt:XH a b){C:Bool->Shared->Prop}(hC:C false z):wpAny (model P w) B (keyLt' (tuples' true) v u) C (λ_ _=>False) z:=by
 obtain⟨p,o,n,t1,t2,rfl,h1,_,d1⟩:=hv
 obtain⟨p',o',n',t1',t2',rfl,h1',_,d1'⟩:=hu
 refine kat_lt h1 d1 h1' d1' ?_
 show KatLex P w B true _ C [(.int b.1 t1,.int a.1 t1'),(.int b.2 t2,.int a.2 t2')] 0 z
 refine kat_cons (SeqAt.EqAt.int_int b.1 t1 a.1 t1' P w _ _ ?_)
 rcases hlt with h | ⟨h,h'⟩
 ·have e:(b.1==a.1)=false:=by
   rw[beq_eq_false_iff_ne]
   omega
  rw[e]
  refine kat_no (show wpAny _ _ (oneLt' true _ _) _ _ _ from oneLt_int ?_)
  rw[decide_eq_false (by omega)]
  exact hC
 ·have e:(b.1==a.1)=true:=by rw[h];exact beq_self_eq_true _
  rw[e]
  refine kat_yes (kat_cons (SeqAt.EqAt.int_int b.2 t2 a.2 t2' P w _ _ ?_))
  have e2:(b.2==a.2)=false:=by
   rw[beq_eq_false_iff_ne]
   omega
  rw[e2]
  refine kat_no (show wpAny _ _ (oneLt' false _ _) _ _ _ from kat_one _ _ (lt_int ?_))
  show C (decide (b.2 < a.2)) z
  rw[decide_eq_false (by omega)]
  exact hC
theorem J9.keep{h h':Heap}{v:Value}{k:Int×Int}(x:J9 h v k)(kp:∀b o,h.get? b=some o->o.cls=.type "tuple"->h'.get? b=some o):J9 h' v k:=by
 obtain⟨p,o,n,t,u,e,h1,c,d⟩:=x
 exact⟨p,o,n,t,u,e,kp p o h1 c,c,d⟩
theorem Wt(vs:List Value):(pairsOf vs).map (·.2)=vs.toArray:=by
 apply Array.ext'
 rw[Array.toList_map,pairsOf_toList,List.map_snd_zip (tz _)]
theorem vR{h:Heap}:∀(vs:List Value) (ks:List (Int×Int)),vs.length=ks.length->(∀(i:Nat) (v:Value) (k:Int×Int),vs[i]?=some v->ks[i]?=some k->J9 h v k)->∃fs,KatTups h vs fs/\fs.length=vs.length/\∀v∈fs,∃i t,v=Value.int i t
 | [],_,_,_=>⟨[],.nil,rfl,λv hv=>(nomatch hv)⟩
 | v::vs,[],hl,_=>by cases hl
 | v::vs,k::ks,hl,hv=>by
  obtain⟨fs,tf,lf,hf⟩:=vR vs ks (zcP.inj hl) λi u q e1 e2=>hv (i+1) u q (by simpa using e1) (by simpa using e2)
  obtain⟨p,o,n,t,u,rfl,h1,c,d⟩:=hv 0 v k rfl rfl
  refine⟨.int k.1 t::fs,.cons h1 c d rfl tf,by simp [lf],λx hx=>?_⟩
  rcases tS.mp hx with e | hx
  ·exact⟨_,_,e⟩
  ·exact hf x hx
theorem yC{a:Addr}{vs:List Value}{ks:List (Int×Int)}{n:Nat}{R:PySem.Fin->Shared->Prop}(ho:z.heap.get? a=some (seqObj "list" vs.toArray n))(hl:vs.length=ks.length)(hv:∀(i:Nat) (v:Value) (k:Int×Int),vs[i]?=some v->ks[i]?=some k->J9 z.heap v k)
  (hr:∀(i:Nat) (k k':Int×Int),ks[i]?=some k->ks[i+1]?=some k'->XH k k') (hz:vs.length<=100000)
  (k:R (.done (.ret .none)) {z with heap:=sortedHeap z.heap a vs vs.toArray}):wpAny (model P w) B (Builtin.«list.sort» ⟨[.ref a],[]⟩) R F z:=by
 have na:∀b o,z.heap.get? b=some o->o.cls=.type "tuple"->b≠a:=λb o e c q=>by
  rw[q,ho]at e
  cases e
  exact absurd c (show ¬Value.type "list"=Value.type "tuple" by decide)
 rw[list_sort_plain]
 refine zdY (listItems_at ho rfl (zdY (listUpdate_at ho rfl ?_)))
 obtain⟨c1,o1⟩:∃c,(z.heap.update a (Obj.mapSeq λ_=>#[])).get? a=some (seqObj "list" #[] c):=⟨_,get?_update_seq ho (λ_=>#[])⟩
 refine zdY (seqEpoch_at o1 rfl (zdY (wpAny_newTuple (zdY (wpAny_newList (wpAny_holding ?_))))))
 have lt:=tK ho
 have o2:(((z.heap.update a (Obj.mapSeq λ_=>#[])).push (seqObj "tuple" vs.toArray 0)).push (seqObj "list" #[] 0)).get? a=some (seqObj "list" #[] c1):=tu _ (tu _ o1)
 have kp:∀b o,z.heap.get? b=some o->o.cls=.type "tuple"->(((z.heap.update a (Obj.mapSeq λ_=>#[])).push (seqObj "tuple" vs.toArray 0)).push (seqObj "list" #[] 0)).get? b=some o:=λb o e c=>
  tu _ (tu _ ((zak _ _ (Ne.symm (na b o e c))).trans e))
 show wpAny (model P w) B _ R F {z with heap:=((z.heap.update a (Obj.mapSeq λ_=>#[])).push (seqObj "tuple" vs.toArray 0)).push (seqObj "list" #[] 0)}
 dsimp only
 have sv:vs.toArray.size=vs.length:=by simp
 have ends:∀st:SortSt,(arrOf st).map (·.2)=vs.toArray->failedOf st=none->wpAny (model P w) B (do
   let touched:=(<-seqEpoch a) != c1
   Builtin.List.listUpdate (.ref a) λ_=>(arrOf st).map (·.2)
   if let some e:=failedOf st then rule "list.sort.comparison-raised";throw e
   if touched then rule "list.sort.modified";raiseError "ValueError" "list modified during sort"
   ret .none) R F {z with heap:=((z.heap.update a (Obj.mapSeq λ_=>#[])).push (seqObj "tuple" vs.toArray 0)).push (seqObj "list" #[] 0)}:=λst e f=>by
  refine zdY (seqEpoch_at o2 rfl ?_)
  rw[e,f]
  refine zdY (listUpdate_at o2 rfl ?_ (hsz2:=by rw[sv,sizeLine_eq];omega))
  simp only[bne_self_eq_false,zba,if_false]
  exact zdZ k
 by_cases h2:vs.toArray.size < 2
 ·rw[if_pos h2,if_pos h2]
  refine zdY (zdZ ?_)
  rw[StateT.run_pure]
  refine zdY (zdZ ?_)
  exact ends (SortSt.mk' general' (vs.toArray.zip vs.toArray) #[] 7 none) (Wt vs) rfl
 ·rw[if_neg h2,if_neg h2]
  have l2:2<=vs.length:=by omega
  have hv':∀(i:Nat) (v:Value) (q:Int×Int),vs[i]?=some v->ks[i]?=some q->J9 (((z.heap.update a (Obj.mapSeq λ_=>#[])).push (seqObj "tuple" vs.toArray 0)).push (seqObj "list" #[] 0)) v q:=λi v q e1 e2=>(hv i v q e1 e2).keep kp
  obtain⟨fs,tf,lf,hf⟩:=vR vs ks hl hv'
  refine zdY (kat_kind (T:=.type "int") tf (by omega) (λv q=>?_) rfl ?_)
  ·obtain⟨i,t,rfl⟩:=hf v q
   exact Looks.of_pure rfl
  ·have e:vs.toArray.zip vs.toArray=(zaW (zab vs.length)).map (kas_item (pairsOf vs)):=by
    have:=kas_range (pairsOf vs)
    rw[pairsOf_size]at this
    exact this.symm
   rw[e]
   have run:kasC (model P w) B F sortRuns' (λ_ st z'=>z'={z with heap:=((z.heap.update a (Obj.mapSeq λ_=>#[])).push (seqObj "tuple" vs.toArray 0)).push (seqObj "list" #[] 0)}/\(arrOf st).map (·.2)=vs.toArray/\failedOf st=none)
     (kas_st (tuples' true) (pairsOf vs) (zaW (zab vs.length))) {z with heap:=((z.heap.update a (Obj.mapSeq λ_=>#[])).push (seqObj "tuple" vs.toArray 0)).push (seqObj "list" #[] 0)}:=by
    refine yL l2 (λi i1 i2 C hC=>?_) λst e1 e2=>⟨rfl,by rw[e1,<-e];exact Wt vs,e2⟩
    unfold kas_cmp
    rw[kas_item_eq,kas_item_eq]
    have g:∀j,j < vs.length->vs[j]?=some (vs.getD j Value.none):=λj hj=>by simp [hj]
    have gk:∀j,j < vs.length->∃q,ks[j]?=some q:=λj hj=>⟨_,tE (by omega)⟩
    obtain⟨q1,eq1⟩:=gk i i2
    obtain⟨q0,eq0⟩:=gk (i - 1) (by omega)
    have eq1':ks[i - 1+1]?=some q1:=by rw[show i - 1+1=i by omega];exact eq1
    exact Ua (hv' i _ q1 (g i i2) eq1) (hv' (i - 1) _ q0 (g (i - 1) (by omega)) eq0) (hr (i - 1) q0 q1 eq0 eq1') hC
   refine zdY (wpAny_mono run (λr z' h3=>?_) λ_ _ x=>x)
   obtain⟨⟨⟩,st⟩:=r
   obtain⟨rfl,e1,e2⟩:=h3
   exact ends st e1 e2
end
end L2
namespace PySem
def RawD(h:Heap)(d:Addr)(es:Array DictEntry)(ep:Nat):Prop:=∃o,h.get? d=some o/\o.ExactDict/\o.data=.dict es ep
theorem RawD.keep{h h':Heap}{d:Addr}{es:Array DictEntry}{ep:Nat}(x:RawD h d es ep)(k:∀o,h.get? d=some o->h'.get? d=some o):RawD h' d es ep:=let ⟨o,e,r⟩:=x;⟨o,k o e,r⟩
section
variable{P:Program}{w:World}{B:Around}{F':Value->Shared->Prop}{z:Shared}{d I:Addr}{es:Array DictEntry}{ep i:Nat}
theorem RawD.ty(x:RawD z.heap d es ep):z.TypeIs (.ref d) "dict":=let ⟨o,e,c,_⟩:=x;⟨o,e,c.1⟩
theorem wC{R:Value->Shared->Prop}(hd:(d==sysModules)=false)(x:RawD z.heap d es ep)
  (k:R (.ref z.heap.objs.size) {z with heap:=z.heap.push {cls:=.type "dict_keyiterator",data:=.fields #[.ref d,.int 0 0,.int es.size 0,.int ep 0]}}):wpAny (model P w) B (pyIter (.ref d)) R F' z:=by
 have ty:=x.ty
 obtain⟨o,ho,_,dat⟩:=x
 refine wpAny_pyIter_slot ty F.slot_dict_iter (wpAny_call_entry F.slot_dict_iter ty F.entry_dict_iter ?_ (F.args_dict_iter_1 _))
 unfold Builtin.«dict.__iter__»
 refine zdY (show wpAny _ _ (Builtin.Dict.dictSlotNone _ _) _ _ _ from ?_)
 unfold Builtin.Dict.dictSlotNone
 refine zdY (wpAny_notOrdered_dict ty (show wpAny _ _ (pure (Value.ref d)) _ _ z from zdZ ?_))
 refine(show wpAny _ _ (Builtin.Dict.showsAll d >>= _) _ _ z from ?_)
 unfold Builtin.Dict.showsAll
 rw[if_neg (by rw[hd];exact tN)]
 refine zdY (zdZ (zdY (wpAny_dictEntries ho dat (zdY (wpAny_dictEpoch ho dat ?_)))))
 exact zdY (wpAny_newObj_type (zdZ ⟨_,rfl,"dict_keyiterator",_,⟨_,tV _ rfl,rfl⟩,F.slot_dict_keyiterator_next.lookup,by simpa [rawInt] using k⟩))
theorem wB{R:Option Value->Shared->Prop}(hit:z.heap.IsKeyIter I d i es.size ep)(x:RawD z.heap d es ep)(hi:i < es.size)
  (k:∀h',h'.IsKeyIter I d (i+1) es.size ep->Heap.SameBut I z.heap h'->R (some es[i].key) {z with heap:=h'}):wpAny (model P w) B (pyNext (.ref I)) R F' z:=by
 obtain⟨o,ho,hc,hd⟩:=id hit
 obtain⟨od,hod,_,dat⟩:=x
 have ty:=hit.typeIs
 unfold pyNext
 refine zdY (wpAny_attempt (wpAny_callSpecial?_slot (name:=zdX "__next__") ty F.slot_dict_keyiterator_next (wpAny_call_entry F.slot_dict_keyiterator_next ty F.entry_dict_keyiterator_next ?_ (F.args_dict_keyiterator_next_1 _))))
 refine zdY (zdZ (zdY (zdY (zdY ?_))))
 first | refine wpAny_typeNameOfWhole_keyiter ty (zdZ (zdY (wpAny_fieldsOf ho hd ?_))) | refine wpAny_typeNameOf_keyiter ty (zdZ (zdY (wpAny_fieldsOf ho hd ?_)))
 have own:Builtin.Dict_items.ownsTuple "dict_keyiterator"=false:=by decide
 simp only[own,zba,if_false]
 show wpAny _ _ (if (Value.ref d==Value.none)=true then _ else _) _ _ z
 rw[if_neg (show ¬((Value.ref d==Value.none)=true) from tN)]
 refine zdY (zdZ (zdY (wpAny_dictEntries hod dat ?_)))
 rw[if_neg (by simp)]
 refine zdY (zdZ (zdY (wpAny_dictEpoch hod dat ?_)))
 rw[if_neg (by simp)]
 refine zdZ ?_
 simp only[show ¬((i:Int) < 0) from by omega,if_false,zaT,zcW hi]
 refine zdY (zdY ?_)
 first | refine wpAny_typeNameOfWhole_keyiter ty (zdZ (zdY (wpAny_isOneOf_keyiter ty ?_))) | refine wpAny_typeNameOf_keyiter ty (zdZ (zdY (wpAny_isOneOf_keyiter ty ?_)))
 refine(show wpAny _ _ (setField (.ref I) 1 (rawInt ((i:Int)+1)) >>= _) _ _ z from zdY (wpAny_setField ho hd (by simp) ?_))
 have hit':(z.heap.update I (Obj.mapFields (·.setIfInBounds 1 (rawInt ((i:Int)+1))))).IsKeyIter I d (i+1) es.size ep:=
  ⟨_,zaG _ ho (Obj.isFreed_of_fields (Obj.data_mapFields hd _)),(Obj.cls_mapFields ..).trans hc,by rw[Obj.data_mapFields hd];simp [rawInt]⟩
 refine zdY (wpAny_holding (zdY (wpAny_isOneOf_keyiter (s:={z with heap:=z.heap.update I (Obj.mapFields (·.setIfInBounds 1 (rawInt ((i:Int)+1))))}) hit'.typeIs ?_)))
 refine(show wpAny _ _ (pure es[i].key) _ _ _ from zdZ (zdZ ⟨_,rfl,zdZ (k _ hit' (zcL.update ..))⟩))
theorem Gn{R:Option Value->Shared->Prop}(hB:B.handled=none)(hit:z.heap.IsKeyIter I d i es.size ep)(x:RawD z.heap d es ep)(hi:es.size<=i)
  (k:∀h',Heap.ExtBut I z.heap h'->R none {z with heap:=h'}):wpAny (model P w) B (pyNext (.ref I)) R F' z:=by
 obtain⟨o,ho,hc,hd⟩:=id hit
 obtain⟨od,hod,_,dat⟩:=x
 have ty:=hit.typeIs
 unfold pyNext
 refine zdY (wpAny_attempt (wpAny_callSpecial?_slot (name:=zdX "__next__") ty F.slot_dict_keyiterator_next (wpAny_call_entry F.slot_dict_keyiterator_next ty F.entry_dict_keyiterator_next ?_ (F.args_dict_keyiterator_next_1 _))))
 refine zdY (zdZ (zdY (zdY (zdY ?_))))
 first | refine wpAny_typeNameOfWhole_keyiter ty (zdZ (zdY (wpAny_fieldsOf ho hd ?_))) | refine wpAny_typeNameOf_keyiter ty (zdZ (zdY (wpAny_fieldsOf ho hd ?_)))
 have own:Builtin.Dict_items.ownsTuple "dict_keyiterator"=false:=by decide
 simp only[own,zba,if_false]
 show wpAny _ _ (if (Value.ref d==Value.none)=true then _ else _) _ _ z
 rw[if_neg (show ¬((Value.ref d==Value.none)=true) from tN)]
 refine zdY (zdZ (zdY (wpAny_dictEntries hod dat ?_)))
 rw[if_neg (by simp)]
 refine zdY (zdZ (zdY (wpAny_dictEpoch hod dat ?_)))
 rw[if_neg (by simp)]
 refine zdZ ?_
 simp only[show ¬((i:Int) < 0) from by omega,if_false,zaT,Array.getElem?_eq_none hi]
 refine zdY (zdY ?_)
 first | refine wpAny_typeNameOfWhole_keyiter ty (zdZ ?_) | refine wpAny_typeNameOf_keyiter ty (zdZ ?_)
 refine(show wpAny _ _ (setField (.ref I) 0 .none >>= _) _ _ z from zdY (wpAny_setField ho hd (by simp) ?_))
 refine(show wpAny _ _ (newExc (.type "StopIteration") [] >>= _) _ _ _ from zdY ?_)
 simp only[newExc,newTuple]
 refine zdY (wpAny_newObj_type (zdY (m:=firstArgMember _ _) (wpAny_of_eq (a:=Value.none) (by first | rfl | (simp only[firstArgMember];rfl)) (wpAny_newObj_type ?_ (by size_fits)))) (by size_fits))
 simp only[raiseNew]
 refine zdY (wpAny_handled ?_)
 rw[show B.in1.handled=none from hB]
 refine zdY (zdZ (wpAny_throw ?_))
 refine zdY (wpAny_isInstance (T:="StopIteration") (b:=true) ⟨_,tV _ rfl,rfl⟩ isSubtype_stop ?_)
 exact zdZ (k _ ((((zcL.update ..).extBut).push _).push _))
end
open PySem.W
section
variable{P:Program}{w:World}{d:Addr}{es:Array DictEntry}{ep:Nat}
theorem yM{B:Around}(hB:B.handled=none)(I:Addr)(hne:d≠I):Walks P w B I [I,d] [I] es.size (λi v=>∃h:i < es.size,v=es[i].key) (λi h=>h.IsKeyIter I d i es.size ep/\RawD h d es ep) where
 sub:=λb hb=>by simp at hb;simp [hb]
 frame:=λ_ _ _ st k=>⟨st.1.at λo e=>k I (by simp) o e,st.2.keep λo e=>k d (by simp) o e⟩
 item:=λi z R G hi st q=>wB st.1 st.2 hi λh' it' sb=>q _ h' z.toks ⟨hi,rfl⟩ ⟨it',st.2.keep λo e=>sb.extBut d o hne e⟩ λb o hb e=>sb.extBut b o (λx=>hb (by simp [x])) e
 done:=λz R G st q=>Gn hB st.1 st.2 (tz _) λh' eb=>q h' z.toks λb o hb e=>eb b o (λx=>hb (by simp [x])) e
 self:=λ_ _ _ _ st q=>wpAny_pyIter_keyiter st.1 q
theorem Gm(hd:(d==sysModules)=false):KdlSrc P w "dict" d d es.size (λi v=>∃h:i < es.size,v=es[i].key) (λh=>RawD h d es ep) where
 type:=λz x=>x.ty
 there:=λh x=>let ⟨o,e,_⟩:=x;⟨tK e,tK e⟩
 keep:=λh h' x k=>x.keep λo e=>k d (.inl rfl) o e
 notList:=by decide
 notTuple:=by decide
 hint:=λ_ _ _ _ x q=>kdl_hint_dict x.ty q
 iter:=λA z hh x=>⟨_,_,λE Q q=>wC hd x q,yM hh _ (let ⟨o,e,_⟩:=x;tQ (tK e)),⟨⟨_,tV _ rfl,rfl,rfl⟩,x.keep λo e=>tu _ e⟩⟩
end
end PySem
namespace L2
open PySem PySem.Spec PySem.W PyProof.Rows
theorem Z1{α β:Type}{G:α->β->Prop}:∀{l:List α} {m:List β},Paired G l m->∀{i:Nat} {a:α},l[i]?=some a->∃b,m[i]?=some b/\G a b
 | _,_,.nil,i,a,e=>by simp at e
 | _,_,.cons r t,0,a,e=>by cases e;exact⟨_,rfl,r⟩
 | _,_,.cons r t,i+1,a,e=>by
  obtain⟨b,eb,g⟩:=Z1 t (by simpa using e)
  exact⟨b,by simpa using eb,g⟩
section
variable{X:Cx}
def Yn(k:Int×Int):List qN:=[Sum.inl k.1,Sum.inl k.2]
def N9:List V->Hp->VK->Prop:=λxs H Q=>∃(a:Addr) (kvs:List (List qN×V)) (ks:List (Int×Int)),xs=[.ref a]/\H a=some (.dT kvs)/\kvs.map (·.1)=ks.map Yn/\(∀(i:Nat) (k k':Int×Int),ks[i]?=some k->ks[i+1]?=some k'->XH k k')/\kvs.length<=1000/\
 ∀(l:Addr) (ps:List Addr),H l=none->ps.length=ks.length->(∀(i:Nat) (p:Addr) (k:Int×Int),ps[i]?=some p->ks[i]?=some k->H p=some (.tup [.int k.1,.int k.2]))->Q (.ref l) (upd H l (.lst (ps.map V.ref)))
theorem VI:∀(ps:List Addr),qG (ps.map V.ref) (ps.map Value.ref)
 | []=>.nil
 | p::ps=>.cons rfl (VI ps)
theorem vF(hc:X.calm=true):QN X (.builtin "sorted") N9:=by
 intro pins s σ H xs us Q I r h
 obtain⟨a,kvs,ks,rfl,ea,eks,hr,hz,q⟩:=h
 obtain⟨u,rfl,ru⟩:=Js r
 cases ru
 obtain⟨_,hsys,ys,pr,o,es,ep,eo,ex,dat,ents,_⟩:=(show qK X.prog X.w H s.heap a (.dT kvs) from I.hok a _ ea)
 have ly:kvs.length=ys.length:=Paired.length pr
 have lk:kvs.length=ks.length:=by simpa using congrArg zax eks
 have se:es.size=ys.length:=by rw[<-zaD,ents,tj]
 have key:∀i (hi:i < es.size),es[i].key=.ref ((ys.map (·.2.1)).getD i 0):=λi hi=>by
  have e1:es.toList[i]?=some es[i]:=by simp [hi]
  have hy:i < ys.length:=by omega
  rw[ents,tG,tE hy]at e1
  have e2:=(tO.inj e1).symm
  rw[e2]
  show Value.ref ys[i].2.1=_
  simp [hy]
 have tup:∀(i:Nat) (p:Addr) (k:Int×Int),(ys.map (·.2.1))[i]?=some p->ks[i]?=some k->H p=some (.tup [.int k.1,.int k.2]):=λi p k e1 e2=>by
  rw[tG]at e1
  cases ey:ys[i]? with
  | none=>rw[ey]at e1;cases e1
  | some y=>
   rw[ey]at e1
   have ep':y.2.1=p:=tO.inj e1
   have hi:i < kvs.length:=by
    have:=(tw.mp ey).1
    omega
   obtain⟨y',ey',g1,g2,_⟩:=Z1 pr (tE hi)
   rw[ey]at ey'
   cases ey'
   have ek:kvs[i].1=Yn k:=by
    have h1:(kvs.map (·.1))[i]?=some kvs[i].1:=by rw[tG,tE hi];rfl
    rw[eks,tG,e2]at h1
    exact(tO.inj h1).symm
   rw[ek,ep']at g2
   exact g2
 have hh:X.A.in1.handled=none:=I.ok.hd hc
 refine Calls.call_function_entry kind_sorted plain_sorted entry_sorted (args_sorted1 _) ?_
 unfold Builtin.«sorted»
 refine zdY (m:=checkCount "sorted" 1 1 _) (zdZ ?_)
 refine zdY (kdu_collect (Gm (es:=es) (ep:=ep) hsys) hh ⟨o,eo,ex,dat⟩ (by rw[se,sizeLine_eq];omega) λh1 tk acc k1 it=>?_)
 have eacc:acc.toList=(ys.map (·.2.1)).map Value.ref:=by
  refine zda λi=>?_
  by_cases hi:i < es.size
  ·have ha:i < acc.size:=by rw[it.1];exact hi
   have e1:acc[i]?=some acc[i]:=zcW ha
   obtain⟨h',e2⟩:=it.2 i _ e1
   rw[Array.getElem?_toList,e1,e2,key i hi,tG]
   have hy:i < (ys.map (·.2.1)).length:=by rw[tj];omega
   rw[tE hy]
   simp [zaB,tE hy]
  ·rw[zbh (by rw[zaD,it.1];omega),zbh (by rw[tj,tj];omega)]
 rw[eacc]
 generalize hps:ys.map (·.2.1)=ps at eacc tup key
 have lp:ps.length=ks.length:=by rw[<-hps,tj];omega
 refine zdY (wpAny_newList ?_)
 have I1:qz X pins σ H {s with heap:=h1,toks:=tk}:=I.kept (t':=tk) k1
 show wpAny _ _ _ _ _ {s with heap:=h1.push (seqObj "list" (ps.map Value.ref).toArray 0),toks:=tk}
 have oL:(h1.push (seqObj "list" (ps.map Value.ref).toArray 0)).get? h1.objs.size=some (seqObj "list" (ps.map Value.ref).toArray 0):=tV _ rfl
 have pa:∀(i:Nat) (v:Value) (k:Int×Int),(ps.map Value.ref)[i]?=some v->ks[i]?=some k->J9 (h1.push (seqObj "list" (ps.map Value.ref).toArray 0)) v k:=λi v k e1 e2=>by
  rw[tG]at e1
  cases ep1:ps[i]? with
  | none=>rw[ep1]at e1;cases e1
  | some p=>
   rw[ep1]at e1
   obtain rfl:=(tO.inj e1).symm
   obtain⟨its,rv,⟨ob,eb,cb,nb,db⟩,_⟩:=I1.tuple (.of (tup i p k ep1 e2):Y5 X.K H p _)
   cases rv with
   | cons r1 rv=>
    cases rv with
    | cons r2 rv=>
     cases rv
     obtain⟨t1,rfl⟩:=r1
     obtain⟨t2,rfl⟩:=r2
     exact⟨p,ob,nb,t1,t2,rfl,tu _ eb,cb,db⟩
 refine zdY (wpAny_holding (wpAny_call_entry slot_list_sort ⟨_,oL,rfl⟩ entry_list_sort (yC oL (by rw[tj];exact lp) pa hr (by rw[tj];omega) ⟨_,rfl,?_⟩) (args_list_sort _)))
 refine zdZ ⟨_,rfl,?_⟩
 have lne:∀b o,h1.get? b=some o->b≠h1.objs.size:=λb o e=>tQ (tK e)
 have kf:∀b o,h1.get? b=some o->(sortedHeap (h1.push (seqObj "list" (ps.map Value.ref).toArray 0)) h1.objs.size (ps.map Value.ref) (ps.map Value.ref).toArray).get? b=some o:=λb o e=>by
  unfold sortedHeap
  rw[zak _ _ (Ne.symm (lne b o e))]
  exact tu _ (tu _ ((zak _ _ (Ne.symm (lne b o e))).trans (tu _ e)))
 obtain⟨c2,o2⟩:∃c,((h1.push (seqObj "list" (ps.map Value.ref).toArray 0)).update h1.objs.size (Obj.mapSeq λ_=>#[])).get? h1.objs.size=some (seqObj "list" #[] c):=⟨_,get?_update_seq oL (λ_=>#[])⟩
 obtain⟨c3,o3⟩:∃c,(sortedHeap (h1.push (seqObj "list" (ps.map Value.ref).toArray 0)) h1.objs.size (ps.map Value.ref) (ps.map Value.ref).toArray).get? h1.objs.size=some (seqObj "list" (ps.map Value.ref).toArray c):=
  ⟨_,get?_update_seq (tu _ (tu _ o2)) (λ_=>(ps.map Value.ref).toArray)⟩
 refine⟨.ref h1.objs.size,_,I1.laid (t':=tk) (o:=.lst (ps.map V.ref)) kf (tz _) ⟨by rw[tj,lp,<-lk];exact zai (qp hz),_,c3,VI ps,o3⟩,rfl,?_⟩
 exact q _ ps (I1.hok.fresh (tz _)) lp tup
def qck:V->Option Int->Option Int->Hp->VK->Prop:=λx lo hi H Q=>∃(z:Str) (j:Int),x=.str z/\lo=none/\hi=some j/\z.length<=1000/\Q (.str (Txt.slice z none (some j))) H
theorem we:SlR X qck:=by
 intro pins s σ H x v vl vu lo hi sl Q I rx hs pl pu h
 obtain⟨z,j,rfl,rfl,rfl,hz,q⟩:=h
 obtain⟨t,rfl⟩:=rx
 refine⟨"str",_,PySem.F.slot_str_getitem.lookup,typeIs_str _ _ _,?_⟩
 cases pl
 cases pu
 exact wpAny_getItem_str_slice (l:=none) (u:=some (j,_)) (st:=none) hs rfl (post_val_or_str ⟨zaa (Txt.slice_le z none (some j)) (zai (qp hz)),λt' k=>⟨.str _,H,I.tok k,⟨t',rfl⟩,q⟩⟩)
theorem Xe(z:Str)(j:Nat):(Txt.slice z none (some (j:Int))).cps.toList=z.cps.toList.take j:=by
 have hl:z.cps.toList.length=z.length:=zaD
 have idx:Builtin.Str.strSliceIndices none (some (j:Int)) 1 z.length=(zab (min j z.length)).map (0+·):=by
  have e:Builtin.Str.strSliceIndices none (some (j:Int)) 1 z.length=sliceRange ((0:Nat):Int) ((min j z.length:Nat):Int) 1:=by
   unfold Builtin.Str.strSliceIndices
   simp only[show (1:Int) > 0 by decide,if_true,show ¬((j:Int) < 0) by omega,if_false]
   congr 1
   omega
  rw[e,sliceRange_one]
  rfl
 unfold Txt.slice
 rw[idx]
 split
 ·rename_i h
  have hm:min j z.length=z.length:=by simpa using h
  rw[tF]
  omega
 ·rw[pick_run]
  show (z.cps.toList.drop 0).take (min j z.length)=_
  rw[zcR]
  by_cases hj:j<=z.length
  ·rw[zck hj]
  ·rw[zdg (by omega),tF (by omega),tF (by omega)]
def Nk(n:Nat):List V:=(zab n).map λi=>V.int (i:Nat)
def tLr(te:TE):TE:=λσ H Q=>te σ H λx H1=>∃n:Nat,x=.int n/\n<=1000/\∀l,H1 l=none->Q (.ref l) (upd H1 l (.lst (Nk n)))
theorem KG{n:Nat}{acc:Array Value}(h:ItemsOf (λi v=>∃t,v=.int (0+i*1) t) acc n):qG (Nk n) acc.toList:=by
 obtain⟨hz,hv⟩:=h
 refine yP _ _ (by simp [Nk,hz]) λi x u h1 h2=>?_
 have h2':acc[i]?=some u:=by simpa using h2
 obtain⟨t,rfl⟩:=hv i u h2'
 have hi:i < n:=by
  have:=(zat.mp h2').1
  omega
 unfold Nk at h1
 rw[tG,zbC hi]at h1
 obtain rfl:=(tO.inj h1).symm
 refine⟨t,?_⟩
 congr 1
 omega
variable{e:Expr}{te:TE}{p1 p3 pos1 pos3:Pos}
theorem qbk(hc:X.calm=true)(g1:Gl X "list")(m1:X.mg "list"=none)(g3:Gl X "range")(m3:X.mg "range"=none)(ha:JE X e te)(hs:starEach [e] X.env=[(false,eval e X.env)]:=by rfl)(hs2:starEach [.Call (.Name "range" p3) [e] [] pos3] X.env=[(false,eval (.Call (.Name "range" p3) [e] [] pos3) X.env)]:=by rfl):JE X (.Call (.Name "list" p1) [.Call (.Name "range" p3) [e] [] pos3] [] pos1) (tLr te):=.of (by
 have ha:=ha.to
 intro pins s σ H Q I h
 refine Call_ (Q5 I g1 m1 boot_list (PyProof.Rows.callWith_type1 (yA hs2 ?_) (by rw[hs2];rfl) rfl))
 refine Call_ (Q5 I g3 m3 boot_range (PyProof.Rows.callWith_type1 (yA hs (jf (ha pins s σ H _ I h) λu s1 ⟨x,H1,I1,r1,q1⟩=>?_)) (by rw[hs];rfl) rfl))
 obtain⟨n,rfl,hn,q⟩:=q1
 obtain⟨t,rfl⟩:=r1
 refine call_range_1 ?_
 refine call_list_range (n:=n) (I1.ok.hd hc) (IsRange.new ..) (small_one (by omega) (by omega) (by omega) (by omega)) (kH n) (by omega) λh' tk acc' c' kp e hi=>?_
 have s1z:s1.heap.objs.size<=(s1.heap.push ({cls:=.type "range",data:=.fields #[.int 0 s1.toks,.int n t,.int 1 (s1.toks+1)]}:Obj)).objs.size:=by
  rw[zbm]
  omega
 exact⟨.ref _,_,I1.laid (t':=tk) (o:=.lst (Nk n)) (λb o eb=>kp b o (tu _ eb)) s1z ⟨by simp only[Nk,tj,zam];exact zai (qp hn),acc'.toList,c',KG hi,by simpa using e⟩,rfl,q _ (I1.hok.fresh s1z)⟩)
theorem xB(hc:X.calm=true):QN X (.type "set") (λxs H Q=>∃(p:Addr) (ns:List Int),xs=[.ref p]/\SqL X.K H p (ns.map V.int)/\ns.length<=1000/\∀l S,H l=none->Q (.ref l) (upd H l (.set S (firstMet (λi=>ns.getD i 0) ns.length).length))):=by
 intro pins s σ H xs us Q I r h
 obtain⟨p,ns,rfl,hq,hz,q⟩:=h
 obtain⟨u,rfl,ru⟩:=Js r
 cases ru
 obtain⟨its,rv,pl,_⟩:=I.list hq
 have hl:=rv.length
 rw[tj]at hl
 have hsz:its.toArray.size=ns.length:=by rw[tZ,<-hl]
 refine call_set_list (ns:=ns) (I.ok.hd hc) pl.isList (by simpa using vy rv) (by rw[hsz];show ns.length+1 < 4096;omega) λh' tk so kp=>?_
 rw[hsz]at so
 exact⟨.ref s.heap.objs.size,_,I.laid (t':=tk) (o:=.set _ _) (λb o e=>kp b o (tK e) e) (tz _) so,rfl,q _ _ (I.hok.fresh (tz _))⟩
theorem UE:QN X (.builtin "len") (λxs H Q=>∃a S n,xs=[V.ref a]/\H a=some (.set S n)/\Q (.int (n:Nat)) H):=by
 intro pins s σ H xs us Q I r h
 obtain⟨a,S,n,rfl,ea,q⟩:=h
 obtain⟨u,rfl,ru⟩:=Js r
 cases ru
 obtain⟨o,es,ep,t,e1,e2,e3,_,_,b,f,rfl⟩:=(show qK X.prog X.w H s.heap a (.set S n) from I.hok a _ ea)
 refine call_len_set e1 e2 e3 f (by have:es.size < 4096:=b;omega) ⟨.int _,H,I.tok _,⟨_,rfl⟩,q⟩
end
open PySem PySem.Spec PyProof.Rows
def Ite(K:zdW)(a:Addr):It:=⟨λi H=>∃xs x,SqL K H a xs/\xs[i]?=some x,
 λi H v H'=>∃p,H p=none/\v=.ref p/\∀xs x,SqL K H a xs->xs[i]?=some x->H'=upd H p (.tup [.int (i:Nat),x]),
 λi H=>∃xs,SqL K H a xs/\xs.length<=i⟩
theorem yt{P:Program}{w:World}{K:zdW}{elts:List Expr}{x1:Nat}{tpos:Pos}(a e it:Addr)(hne:e≠it):
  UI P w K (.Tuple elts x1 tpos) (Ite K a) [e,it] e (λi h=>(∃old,IsEnum h e it i old)/\h.IsListIter it a i) where
 mem:=by simp
 obj:=λi h st c hc=>by
  obtain⟨⟨old,he⟩,⟨o1,e1,c1,d1⟩⟩:=st
  simp only[tS,zbs,or_false]at hc
  rcases hc with rfl | rfl
  ·exact⟨_,he,λv z=>by cases z⟩
  ·exact⟨o1,e1,λv z=>by rw[d1]at z;cases z⟩
 keep:=λi h h' st k=>by
  obtain⟨⟨old,he⟩,h1⟩:=st
  exact⟨⟨old,k e (by simp) _ he⟩,h1.at λo e=>k it (by simp) o e⟩
 item:=by
  intro X hP hw hK hc i pins s σ H E I hf st hg
  subst hP hw hK
  obtain⟨⟨old,he⟩,h1⟩:=st
  obtain⟨xs,x,qa,hx⟩:=hg
  obtain⟨its,rv,p,_⟩:=I.list qa
  obtain⟨u,hu,ru⟩:=rv.get hx
  refine wpAny_pyNext_enum_item he h1 p.isList (x:=u) (by simpa using hu) hne λh' z1 z2 z3 z4 kk=>⟨_,rfl,?_⟩
  refine wpAny_letOwnedTupleGo_enum z1 λh'' z1' sb=>?_
  have nT:∀c o,s.heap.get? c=some o->s.heap.objs.size≠c:=λc o e=>zbH (tK e)
  have kT:∀c o,c≠e->h'.get? c=some o->h''.get? c=some o:=λc o hc e=>(sb.2 c hc).trans e
  have I1:qz X pins σ (upd H s.heap.objs.size (.tup [.int (i:Nat),x])) {s with heap:=h'',toks:=s.toks+1}:=I.turnLaid (L:=[e,it]) (t':=s.toks+1)
   (λc o hc e=>kT c o (λz=>hc (by simp [z])) (kk c o (λz=>hc (by simp [z])) (λz=>hc (by simp [z])) e)) hf (tz _)
   ⟨by show 2<=zeb;decide,[.int i s.toks,u],.cons ⟨_,rfl⟩ (.cons ru .nil),⟨_,kT _ _ (nT _ _ he) z3,rfl,_,rfl⟩⟩
  refine⟨.ref s.heap.objs.size,_,I1,rfl,⟨s.heap.objs.size,I.hok.fresh (tz _),rfl,λxs' x' qa' hx'=>?_⟩,⟨⟨_,z1'⟩,z2.at λo e=>kT _ o (Ne.symm hne) e⟩,λc hc=>?_⟩
  ·rw[I.list_inj qa' qa,hx]at hx'
   cases hx'
   rfl
  ·have h0:=(hf c hc).1
   by_cases ec:c=s.heap.objs.size
   ·subst ec
    obtain⟨o1,e1,_⟩:=h1
    simp only[tS,zbs,or_false]at hc
    rcases hc with e | e
    ·exact absurd e (nT _ _ he)
    ·exact absurd e (nT _ _ e1)
   ·rw[qi ec];exact h0
 done:=by
  intro X hP hw hK hc i pins s σ H E I hf st hg
  subst hP hw hK
  obtain⟨⟨old,he⟩,h1⟩:=st
  obtain⟨xs,qa,hl⟩:=hg
  obtain⟨its,rv,p,_⟩:=I.list qa
  have l1:=rv.length
  exact wpAny_pyNext_enum_end (I.ok.hd hc) he h1 p.isList (by simp;omega) λh' kk=>⟨rfl,I.turnedL (L:=[e,it]) (t':=s.toks) (λc o hc e=>kk c o (λz=>hc (by simp [z])) e) hf⟩
 self:=λ_ _ _ _ _ st h=>let ⟨⟨_,he⟩,_⟩:=st;wpAny_pyIter_enum he h
section
variable{X:Cx}{elts:List Expr}{x1:Nat}{tpos:Pos}
def qbq(K:zdW)(ta:TA):TI:=λσ H R=>ta σ H λvs H1=>∃a,vs=[.ref a]/\(∃xs,SqL K H1 a xs)/\R (Ite K a) H1
theorem YW{a:Expr}{ta:TA}{p pos:Pos}(hg:Gl X "enumerate")(hm:X.mg "enumerate"=none)(ha:JA X [a] ta)(hs:starEach [a] X.env=[(false,eval a X.env)]:=by rfl):JI X (.Tuple elts x1 tpos) (.Call (.Name "enumerate" p) [a] [] pos) (qbq X.K ta):=.of (by
 have ha:=ha.to
 intro pins s σ H R I h
 refine Call_ (Q5 I hg hm boot_enumerate (PyProof.Rows.callWith_type1 (jf (ha pos pins s σ H _ I h) λus s1 ⟨vs,H1,I1,r1,q1⟩=>?_) (by rw[hs];rfl) rfl))
 obtain⟨l,e,⟨xs,qa⟩,q⟩:=q1
 subst e
 cases r1 with
 | cons r rr=>
  cases rr
  cases r
  obtain⟨its,rv,p,_⟩:=I1.list qa
  refine call_enumerate_list p.isList λh' z1 z2 z3 kk=>?_
  refine wpAny_pyIter_enum z1 ?_
  have I2:qz X pins σ H1 {s1 with heap:=h'}:=I1.kept (t':=s1.toks) kk
  have fr:∀c,s1.heap.objs.size<=c->JM X pins H1 c:=λc hc=>I1.fpOk hc (I1.hok.fresh hc)
  refine⟨s1.heap.objs.size+1,[s1.heap.objs.size+1,s1.heap.objs.size],_,_,H1,rfl,I2,yt l (s1.heap.objs.size+1) s1.heap.objs.size (Nat.succ_ne_self _),⟨⟨_,z1⟩,z2⟩,λc hc=>?_,q⟩
  simp only[tS,zbs,or_false]at hc
  rcases hc with e | e<;>rw[e]<;>first | exact fr _ (Nat.le_add_right _ _) | exact fr _ (tz _))
end
theorem zA{K:zdW}{a:Addr}{xs:List V}{g:TG}{tb:TS}{D:Ja}{σ:St}{H:Hp}(Pv:Nat->St->Hp->Prop)(h0:Pv 0 σ H)(hl:∀i σ H,i<=xs.length->Pv i σ H->SqL K H a xs)
  (hs:∀i x σ H p,xs[i]?=some x->H p=none->Pv i σ H->g (.ref p) σ (upd H p (.tup [.int (i:Nat),x])) λσ2 H2=>tb {D with nx:=Pv (i+1),ct:=Pv (i+1),bk:=D.nx} σ2 H2) (hd:∀σ H,Pv xs.length σ H->D.nx σ H):
  ∃W:Nat->Nat->St->Hp->Prop,(∃m,W 0 m σ H)/\∀i m σ H,W i m σ H->
   ((Ite K a).stop i H/\D.nx σ H)\/((Ite K a).go i H/\∃N:St->Hp->Prop,(∀σ' H',N σ' H'->∃m',m' < m/\W (i+1) m' σ' H')/\∀x H',(Ite K a).yld i H x H'->g x σ H' λσ2 H2=>tb {D with nx:=N,ct:=N,bk:=D.nx} σ2 H2):=by
 refine⟨λi m σ H=>m=xs.length - i/\i<=xs.length/\Pv i σ H,⟨xs.length,by simp,zaw _,h0⟩,?_⟩
 rintro i m σ H ⟨rfl,hi,p⟩
 have qa:=hl i σ H hi p
 by_cases hlt:i < xs.length
 ·have ex:xs[i]?=some xs[i]:=tE hlt
  refine .inr ⟨⟨xs,_,qa,ex⟩,Pv (i+1),λσ' H' p'=>⟨xs.length - (i+1),by omega,rfl,hlt,p'⟩,λx H' yl=>?_⟩
  obtain⟨pp,hp,rfl,e⟩:=yl
  rw[e xs _ qa ex]
  exact hs i _ σ H pp ex hp p
 ·have e:i=xs.length:=by omega
  subst e
  exact .inl ⟨⟨xs,qa,tz _⟩,hd σ H p⟩
theorem Zm(ns:List Nat):∀i,i<=ns.length->preSum (λj=>((ns.getD j 0:Nat):Int)) i=(((ns.take i).sum:Nat):Int)
 | 0,_=>by simp [preSum]
 | i+1,h=>by
  have hi:i < ns.length:=h
  show preSum _ i+_=_
  rw[Zm ns i (zai hi),tP,tE hi,zcl]
  simp [zaB,tE hi]
theorem Yi(ns:List Nat)(i:Nat):(ns.take i).sum<=ns.sum:=by
 have h:(ns.take i++ns.drop i).sum=ns.sum:=by rw[List.take_append_drop]
 rw[zcl]at h
 omega
theorem Uu(ns:List Nat)(i:Nat):ns.getD i 0<=ns.sum:=by
 have h:=Yi ns (i+1)
 rw[tP,zcl]at h
 rw[zaB]
 cases e:ns[i]? with
 | none=>exact zaw _
 | some x=>
  rw[e]at h
  simp at h ⊢
  omega
section
variable{X:Cx}
theorem Yc(hc:X.calm=true):QN X (.builtin "sum") (λxs H Q=>∃(p:Addr) (ns:List Nat),xs=[.ref p]/\SqL X.K H p (ns.map λn=>V.int ((n:Nat):Int))/\ns.sum < 2^62/\Q (.int (ns.sum:Nat)) H):=by
 intro pins s σ H xs us Q I r h
 obtain⟨p,ns,rfl,hq,hs,q⟩:=h
 obtain⟨u,rfl,rx⟩:=Js r
 cases rx
 obtain⟨its,rv,pl,hz⟩:=I.list hq
 have hlt:p < s.heap.objs.size:=by
  obtain⟨o,n,e,_⟩:=pl
  exact tK e
 have hn:its.toArray.size=ns.length:=by
  have:=rv.length
  rw[tj]at this
  simp only[tZ]
  omega
 have hh:X.A.in1.handled=none:=I.ok.hd hc
 refine call_sum_walk (wpAny_pyIter_list pl.isList ?_)
 refine⟨s.heap.objs.size,[s.heap.objs.size,p],[s.heap.objs.size],its.toArray.size,λi v=>its.toArray[i]?=some v,_,λj=>((ns.getD j 0:Nat):Int),rfl,Walks.list hh s.heap.objs.size p (tQ hlt) its.toArray,
  ⟨⟨_,tV _ rfl,rfl,rfl⟩,pl.isList.at λo e=>tu _ e⟩,?_,?_,?_,λh' tk t' hk=>?_⟩
 ·intro b hb
  show b < (s.heap.push _).objs.size
  rw[zbm]
  simp only[tS,zbs,or_false]at hb
  rcases hb with e | e
  ·rw[e];exact zaI _
  ·rw[e];exact zbS hlt
 ·intro i v hP
  have hi:its[i]?=some v:=by simpa using hP
  cases e:ns[i]? with
  | none=>
   exfalso
   have h1:(ns.map λn=>V.int ((n:Nat):Int))[i]?=none:=by rw[tG,e];rfl
   rw[qG.none_of rv h1]at hi
   cases hi
  | some b=>
   have h1:(ns.map λn=>V.int ((n:Nat):Int))[i]?=some (V.int b):=by rw[tG,e];rfl
   obtain⟨u,hu,ru⟩:=rv.get h1
   rw[hi]at hu
   cases hu
   obtain⟨t,rfl⟩:=ru
   refine⟨t,?_⟩
   show Value.int b t=.int ((ns.getD i 0:Nat):Int) t
   rw[zaB,e]
   rfl
 ·intro j hj
  rw[hn]at hj
  have h1:=Uu ns j
  have h2:=Yi ns (j+1)
  have h3:=Zm ns (j+1) hj
  refine⟨⟨?_,?_⟩,⟨?_,?_⟩⟩
  ·show -(2^63)<=((ns.getD j 0:Nat):Int)
   omega
  ·show ((ns.getD j 0:Nat):Int) < 2^63
   omega
  ·rw[h3];omega
  ·rw[h3];omega
 ·rw[hn,Zm ns _ (tz _),tF (tz _)]
  refine⟨.int (ns.sum:Nat),H,?_,⟨_,rfl⟩,q⟩
  exact I.kept (h':=h') (t':=tk) λb o e=>hk b o (by
   intro z
   have z':b=s.heap.objs.size:=by simpa using z
   exact absurd (tK e) (by rw[z'];exact zao _)) (tu _ e)
end
open PySem PySem.Spec PyProof.Rows
structure ym(fs:List Addr)(ex:List Addr)(h h':Heap):Prop where
 keep:∀b o,b∉fs->b∉ex->h.get? b=some o->h'.get? b=some o
 slot:∀b o,b∈fs->b∉ex->h.get? b=some o->∃sl,h'.get? b=some {o with slots:=sl}
def NL(T:Addr)(fl:Value)(h:Heap):Prop:=∃ts,h.get? T=some {cls:=.type "traceback",data:=.fields ts}/\ts[3]?=some fl
section
variable{M:Model}{A:Around}{E:Value->Shared->Prop}{s:Shared}{base:Heap}{env:Env}{outer:List Env}{L e:Addr}{cl head:Value}{d:Option Addr}{vs:Array Value}{had:Bool}{Q:Unit->Shared->Prop}
theorem xN(fr:A.frames=some (env::outer))(ff:s.heap.FunFrames base (env::outer))(fm:env.frame=some L)
  (he:s.heap.get? e=some {cls:=cl,dict:=d,data:=.fields vs}) (sz:1 < vs.size)
  (k:∀h' T,s.heap.objs.size<=T->ym (Yy (env::outer)) [e] s.heap h'->h'.get? e=some {cls:=cl,dict:=d,data:=.fields (vs.setIfInBounds 1 (.ref T))}->NL T (rawInt L) h'->Q () {s with heap:=h'}):
  wpAny M A (frameOf env >>= λa=>entryPlaceOf L had >>= λpl=>EntryCells.newEntry head a .none (rawInt L) .none pl >>= λb=>setField (.ref e) 1 b) Q E s:=by
 have out:e∉Yy (env::outer):=λz=>by
  obtain⟨_,o,ho,nf⟩:=ff.mem z
  rw[he]at ho
  cases ho
  exact nf vs rfl
 refine zdY (wpAny_frameOf_fun fr ff fm λh1 so=>?_)
 refine zdY (wpAny_entryPlaceOf λpl ip=>?_)
 have e1:h1.get? e=some {cls:=cl,dict:=d,data:=.fields vs}:=(so.2.1 e out).trans he
 unfold EntryCells.newEntry newFields
 refine zdY (wpAny_newObj_type ?_ (ip.sizeOk5 _ _ _ _ _))
 have ne:e≠h1.objs.size:=tQ (tK e1)
 refine wpAny_setField (tu _ e1) rfl sz (k _ h1.objs.size (zdj so.1.symm) ⟨λb o n1 n2 q=>?_,λb o n1 n2 q=>?_⟩ ?_ ⟨_,(zak _ _ ne).trans (tV _ rfl),?_⟩)
 ·have n3:b≠e:=λz=>n2 (by simp [z])
  rw[zak _ _ (Ne.symm n3)]
  exact tu _ ((so.2.1 b n1).trans q)
 ·have n3:b≠e:=λz=>n2 (by simp [z])
  obtain⟨sl,r⟩:=so.2.2 b o q
  exact⟨sl,by rw[zak _ _ (Ne.symm n3)];exact tu _ r⟩
 ·exact zaG _ (tu _ e1) rfl
 ·rcases ip with rfl | ⟨_,_,_,_,_,_,_,rfl⟩<;>simp
theorem uy(fr:A.frames=some (env::outer))(ff:s.heap.FunFrames base (env::outer))(fm:env.frame=some L)
  (he:s.heap.get? e=some {cls:=cl,dict:=d,data:=.fields vs}) (h1:vs[1]?=some .none)
  (k:∀h' T,s.heap.objs.size<=T->ym (Yy (env::outer)) [e] s.heap h'->h'.get? e=some {cls:=cl,dict:=d,data:=.fields (vs.setIfInBounds 1 (.ref T))}->NL T (rawInt L) h'->Q () {s with heap:=h'}):
  wpAny M A (noteFrame (.ref e) env) Q E s:=by
 unfold noteFrame
 simp only[fm]
 refine zdY (wpAny_field he rfl h1 ?_)
 rw[if_neg (show ¬((Value.none != Value.none)=true) by decide)]
 exact xN fr ff fm he (zat.mp h1).1 k
theorem kQ{T:Addr}(fr:A.frames=some (env::outer))(ff:s.heap.FunFrames base (env::outer))(fm:env.frame=some L)
  (he:s.heap.get? e=some {cls:=cl,dict:=d,data:=.fields vs}) (h1:vs[1]?=some (.ref T)) (st:NL T .none s.heap) (ne:T≠e)
  (k:∀h' T',s.heap.objs.size<=T'->ym (Yy (env::outer)) [e,T] s.heap h'->(∃o,h'.get? T=some o)->h'.get? e=some {cls:=cl,dict:=d,data:=.fields (vs.setIfInBounds 1 (.ref T'))}->NL T' (rawInt L) h'->Q () {s with heap:=h'}):
  wpAny M A (noteFrame (.ref e) env) Q E s:=by
 obtain⟨ts,ht,h3⟩:=st
 unfold noteFrame
 simp only[fm]
 refine zdY (wpAny_field he rfl h1 ?_)
 rw[if_pos (show (Value.ref T != Value.none)=true by simp)]
 refine zdY (wpAny_field ht rfl h3 ?_)
 rw[if_neg (show ¬((Value.none==rawInt L)=true) by simp [rawInt])]
 refine zdY (wpAny_setField ht rfl (zat.mp h3).1 ?_)
 have oth:∀b,b≠T->(s.heap.update T (Obj.mapFields (·.setIfInBounds 3 Value.none))).get? b=s.heap.get? b:=λb n=>zak _ _ (Ne.symm n)
 have tno:T∉Yy (env::outer):=λz=>by
  obtain⟨_,o,ho,nf⟩:=ff.mem z
  rw[ht]at ho
  cases ho
  exact nf ts rfl
 refine xN fr (ff.of_keeps λb o hb nf=>⟨o,(oth b λz=>?_).trans hb,rfl⟩) fm ((oth e (Ne.symm ne)).trans he) (zat.mp h1).1 λh' T' hT F q1 q2=>?_
 ·rw[z,ht]at hb
  cases hb
  exact nf ts rfl
 ·have upT:=zaG (Obj.mapFields (·.setIfInBounds 3 Value.none)) ht rfl
  refine k h' T' (zaa (zdj (by simp)) hT) ⟨λb o n1 n2 q=>?_,λb o n1 n2 q=>?_⟩ ⟨_,F.keep T _ tno (by simp [ne]) upT⟩ q1 q2
  ·simp only[tS,zaE,or_false,not_or]at n2
   exact F.keep b o n1 (by simp [n2.1]) ((oth b n2.2).trans q)
  ·simp only[tS,zaE,or_false,not_or]at n2
   exact F.slot b o n1 (by simp [n2.1]) ((oth b n2.2).trans q)
theorem J6{T:Addr}{fl:Value}{fs:List Addr}(he:s.heap.get? e=some {cls:=cl,dict:=d,data:=.fields vs})(h1:vs[1]?=some (.ref T))(st:NL T fl s.heap)
  (k:∀h',ym fs [T] s.heap h'->NL T .none h'->Q () {s with heap:=h'}):wpAny M A (setFlight (.ref e) none) Q E s:=by
 obtain⟨ts,ht,h3⟩:=st
 have lt:=(zat.mp h3).1
 refine wpAny_setFlight_none he rfl h1 ht rfl lt (k _ ⟨λb o _ n q=>?_,λb o _ n q=>⟨o.slots,?_⟩⟩ ⟨_,zaG _ ht rfl,by simp [lt]⟩)
 all_goals
  rw[zak _ _ λz=>n (by simp [z])]
  exact q
end
structure X2(ex:List Addr)(n:Nat)(H H':Hp):Prop where
 ext:∀b∈ex,∃φ,H b=some (.ext φ)
 same:∀b o,b∉ex->H b=some o->H' b=some o
 no:∀b,b < n->H b=none->H' b=none
section
variable{P:Program}{w:World}{fs ex:List Addr}{H H':Hp}{h h':Heap}
theorem X2.out{n:Nat}(t:X2 ex n H H'){b:Addr}{o:HO}(q:H b=some o)(hn:∀φ,o≠.ext φ):b∉ex:=λz=>by
 obtain⟨φ,e⟩:=t.ext b z
 rw[q]at e
 cases e
 exact hn φ rfl
theorem X2.out0{n:Nat}(t:X2 ex n H H'){b:Addr}(q:H b=none):b∉ex:=λz=>by
 obtain⟨φ,e⟩:=t.ext b z
 rw[q]at e
 cases e
theorem Un.fly(F:ym fs ex h h')(t:X2 ex h.objs.size H H')(th:∀b∈ex,∃o,h'.get? b=some o):Un fs [] H H' h h' where
 keep b o q n hf _:=F.keep b o hf (t.out0 n) q
 slot b o q n hf _:=F.slot b o hf (t.out0 n) q
 free b o q n _:=t.no b (tK q) n
 there b o q _:=by
  by_cases hb:b∈ex
  ·exact th b hb
  ·by_cases hf:b∈fs
   ·obtain⟨sl,r⟩:=F.slot b o hf hb q
    exact⟨_,r⟩
   ·exact⟨o,F.keep b o hf hb q⟩
 tups b xs q:=t.same b _ (t.out q (by intro φ z;cases z)) q
 frzs b o u q:=t.same b _ (t.out q (by intro φ z;cases z)) q
 tbls b ps q:=⟨#[],by simpa using t.same b _ (t.out q (by intro φ z;cases z)) q⟩
theorem JN.fly(ok:JN P w H h)(F:ym fs ex h h')(t:X2 ex h.objs.size H H')(fr:∀b∈fs,H b=none)(new:∀b o,H' b=some o->(H b=none\/b∈ex)->qK P w H' h' b o):JN P w H' h':=λb o q=>by
 by_cases hb:b∈ex
 ·exact new b o q (.inr hb)
 cases e:H b with
 | none=>exact new b o q (.inl e)
 | some u=>
  have r:=t.same b u hb e
  rw[q]at r
  cases r
  refine(ok b o e).stay (λc v hc g=>F.keep c v ?_ ?_ g) (λc z=>t.same c _ (t.out z (by intro φ z;cases z)) z) (λc xs z=>t.same c _ (t.out z (by intro φ z;cases z)) z) (λc o z=>t.same c _ (t.out z (by intro φ z;cases z)) z)
  ·intro z
   have n:=fr c z
   rcases hc with rfl | hc
   ·rw[e]at n;cases n
   ·rw[hc]at n;cases n
  ·rcases hc with rfl | hc
   ·exact hb
   ·exact t.out hc (by intro φ z;cases z)
end
open PySem PySem.Spec PyProof.Rows
def Kw(T:Addr)(fl:Value):HO:=.ext (NL T fl)
theorem WT{P:Program}{w:World}{H:Hp}{h:Heap}{T:Addr}{fl:Value}(x:NL T fl h):qK P w H h T (Kw T fl):=by
 obtain⟨ts,q,z⟩:=x
 exact⟨⟨ts,q,z⟩,⟨_,q⟩,λh1 h2 ⟨ts',q',z'⟩ k=>⟨ts',k _ q',z'⟩⟩
def Z7(P:Program)(w:World):Y6:=λouter H s E e s'=>∃a C dx T Hx H',e=.ref a/\s'.os=s.os/\AllBare s'.gens/\Un (Yy outer) [] H H' s.heap s'.heap/\JN P w H' s'.heap/\
 H' a=some (Jp a C dx (.ref T))/\H' T=some (Kw T .none)/\Hx T=none/\Hx a=some (ZL a C dx)/\(∀b o,b≠a->Hx b=some o->H' b=some o)/\E (.ref C) (some dx) Hx
def Ks(X:Cx)(E:XK):Prop:=∀(pins:List (Addr×Obj)) (σ:St) (H:Hp) (s:Shared) (a C dx:Addr),qz X pins σ H s->H a=some (ZL a C dx)->E (.ref C) (some dx) H->X.xe (.ref a) s
section
variable{X:Cx}{pins:List (Addr×Obj)}{σ:St}{H H':Hp}{s:Shared}{h':Heap}{ex:List Addr}
theorem qz.flown(I:qz X pins σ H s)(F:ym (Yy X.stack) ex s.heap h')(t:X2 ex s.heap.objs.size H H')(th:∀b∈ex,∃o,h'.get? b=some o)
  (new:∀b o,H' b=some o->(H b=none\/b∈ex)->qK X.prog X.w H' h' b o):qz X pins σ H' {s with heap:=h'}:=
 I.call (g':=s.gens) (t':=s.toks) (d':=s.drawn) (ch:=[]) (Un.fly F t th) (JN.fly I.hok F t I.stkFree new) I.bare λb z=>absurd z (by simp)
theorem ym.then{fs ex:List Addr}{h h1 h2:Heap}{T:Addr}(F:ym fs ex h h1)(G:ym fs [T] h1 h2)(hT:h.objs.size<=T):ym fs ex h h2 where
 keep b o n1 n2 q:=G.keep b o n1 (by simp;exact tQ (tM (tK q) hT)) (F.keep b o n1 n2 q)
 slot b o n1 n2 q:=by
  obtain⟨sl,r⟩:=F.slot b o n1 n2 q
  obtain⟨sl',r'⟩:=G.slot b _ n1 (by simp;exact tQ (tM (tK q) hT)) r
  exact⟨sl',r'⟩
end
section
variable{P:Program}{w:World}{K:zdW}{mg:Str->Option Value}{base:Heap}{N:List Str}{qual:Str}{scope:Scope}{f:Addr}{cd:Value}{A:Around}{outer:List Env}{s₀:Shared}{H₀:Hp}{E:XK}
theorem Ws:Ks (Zd (Z7 P w) P w K mg base N qual scope f cd A outer s₀ H₀ E) E:=by
 intro pins σ H s a C dx I ha hE
 obtain⟨⟨fl,he,hz⟩,_,_⟩:=(show qK P w H s.heap a (Jp a C dx .none) from I.hok a _ ha)
 have fr:=I.ok.frames
 have ff:=I.stack
 show wpAny _ _ (leaving _ _) _ _ s
 unfold leaving
 refine zdY (uy fr ff rfl he hz λh1 T hT F q1 q2=>?_)
 have lt:=(zat.mp hz).1
 have g1:(fl.setIfInBounds 1 (Value.ref T))[1]?=some (.ref T):=by simp [lt]
 have nT:T≠a:=λz=>by
  obtain⟨ts,q,_⟩:=q2
  rw[z,q1]at q
  cases q
 refine J6 (fs:=Yy (Zd (Z7 P w) P w K mg base N qual scope f cd A outer s₀ H₀ E).stack) q1 g1 q2 λh2 F2 st=>?_
 have anf:a∉Yy (Zd (Z7 P w) P w K mg base N qual scope f cd A outer s₀ H₀ E).stack:=λz=>by
  have:=I.stkFree a z
  rw[ha]at this
  cases this
 have hTn:H T=none:=I.hok.fresh hT
 have q3:=F2.keep a _ anf (by simp [Ne.symm nT]) q1
 have I2:=I.flown (H':=upd (upd H a (Jp a C dx (.ref T))) T (Kw T .none)) (ym.then F F2 hT) ⟨λb hb=>by cases t7.mp hb;exact⟨_,ha⟩,λb o hb q=>by
   rw[qi (qr q hTn),qi λz=>hb (by simp [z])];exact q,λb hb q=>by
   rw[qi (tQ (tM hb hT)),qi λz=>by rw[z,ha]at q;cases q];exact q⟩ (λb hb=>by cases t7.mp hb;exact⟨_,q3⟩) λb o q hb=>by
  by_cases e1:b=T
  ·subst e1
   rw[qe]at q
   cases q
   exact WT st
  ·rw[qi e1]at q
   by_cases e2:b=a
   ·subst e2
    rw[qe]at q
    cases q
    exact Y3 ⟨_,q3,g1⟩
   ·rw[qi e2]at q
    rcases hb with hb | hb
    ·rw[q]at hb;cases hb
    ·exact absurd (t7.mp hb) e2
 exact⟨a,C,dx,T,H,_,rfl,I2.os,I2.bare,I2.base,I2.hok,by rw[qi (Ne.symm nT),qe],qe ..,hTn,ha,λb o nb q=>by rw[qi (qr q hTn),qi nb];exact q,hE⟩
theorem Jy:QD (Z7 P w) (Zd (Z7 P w) P w K mg base N qual scope f cd A outer s₀ H₀ E) E:=by
 intro pins σ H s e s' I0 hc
 obtain⟨a,C,dx,T,Hx,H1,rfl,os,bare,un,hok,ha,ht,hxT,hxa,hx,hE⟩:=hc
 have I:qz (Zd (Z7 P w) P w K mg base N qual scope f cd A outer s₀ H₀ E) pins σ H1 s':=I0.call' os un hok bare λb z=>absurd z (by simp)
 obtain⟨⟨fl,he,hz⟩,_,_⟩:=(show qK P w H1 s'.heap a (Jp a C dx (.ref T)) from I.hok a _ ha)
 obtain⟨st0,_,_⟩:=(show qK P w H1 s'.heap T (Kw T .none) from I.hok T _ ht)
 have fr:=I.ok.frames
 have ff:=I.stack
 have nT0:T≠a:=λz=>by
  obtain⟨ts,q,_⟩:=st0
  rw[z,he]at q
  cases q
 show wpAny _ _ (leaving _ _) _ _ s'
 unfold leaving
 refine zdY (kQ fr ff rfl he hz st0 nT0 λh1 T' hT F tT q1 q2=>?_)
 have lt:=(zat.mp hz).1
 have g1:(fl.setIfInBounds 1 (Value.ref T'))[1]?=some (.ref T'):=by simp [lt]
 have nT:T'≠a:=λz=>by
  obtain⟨ts,q,_⟩:=q2
  rw[z,q1]at q
  cases q
 refine J6 (fs:=Yy (Zd (Z7 P w) P w K mg base N qual scope f cd A outer s₀ H₀ E).stack) q1 g1 q2 λh2 F2 st=>?_
 have anf:∀b o,H1 b=some o->b∉Yy (Zd (Z7 P w) P w K mg base N qual scope f cd A outer s₀ H₀ E).stack:=λb o q z=>by
  have:=I.stkFree b z
  rw[q]at this
  cases this
 have hTn:H1 T'=none:=I.hok.fresh hT
 have nTT:T'≠T:=(qr ht hTn).symm
 have q3:=F2.keep a _ (anf a _ ha) (by simp [Ne.symm nT]) q1
 obtain⟨oT,hoT⟩:=tT
 have q4:=F2.keep T _ (anf T _ ht) (by simp [Ne.symm nTT]) hoT
 have I2:=I.flown (H':=upd (upd (upd H1 a (Jp a C dx (.ref T'))) T (.ext λh=>∃o,h.get? T=some o)) T' (Kw T' .none)) (ym.then F F2 hT) ⟨λb hb=>by
   simp only[tS,zaE,or_false]at hb
   rcases hb with rfl | rfl
   ·exact⟨_,ha⟩
   ·exact⟨_,ht⟩,λb o hb q=>by
   simp only[tS,zaE,or_false,not_or]at hb
   rw[qi (qr q hTn),qi hb.2,qi hb.1];exact q,λb hb q=>by
   rw[qi (tQ (tM hb hT)),qi (λz=>by rw[z,ht]at q;cases q),qi (λz=>by rw[z,ha]at q;cases q)];exact q⟩ (λb hb=>by
   simp only[tS,zaE,or_false]at hb
   rcases hb with rfl | rfl
   ·exact⟨_,q3⟩
   ·exact⟨_,q4⟩) λb o q hb=>by
  by_cases e1:b=T'
  ·subst e1
   rw[qe]at q
   cases q
   exact WT st
  ·rw[qi e1]at q
   by_cases e2:b=T
   ·subst e2
    rw[qe]at q
    cases q
    exact⟨⟨_,q4⟩,⟨_,q4⟩,λh1 h2 ⟨u,z⟩ k=>⟨u,k u z⟩⟩
   ·rw[qi e2]at q
    by_cases e3:b=a
    ·subst e3
     rw[qe]at q
     cases q
     exact Y3 ⟨_,q3,g1⟩
    ·rw[qi e3]at q
     rcases hb with hb | hb
     ·rw[q]at hb;cases hb
     ·simp only[tS,zaE,or_false]at hb
      exact(hb.elim e3 e2).elim
 refine⟨a,C,dx,T',Hx,_,rfl,I2.os,I2.bare,I2.base,I2.hok,by rw[qi (Ne.symm nT),qi (Ne.symm nT0),qe],qe ..,?_,hxa,λb o nb q=>?_,hE⟩
 ·cases e:Hx T' with
  | none=>rfl
  | some o=>
   have:=hx T' o nT e
   rw[hTn]at this
   cases this
 ·have n1:b≠T:=λz=>by rw[z,hxT]at q;cases q
  have q':=hx b o nb q
  rw[qi (qr q' hTn),qi n1,qi nb]
  exact q'
end
open PySem PySem.Spec PyProof.Rows
section
variable{M:Model}{A:Around}{E:Value->Shared->Prop}{s:Shared}{env:Env}{C:Addr}
theorem yN{oC:Obj}{x:Sem Value}{Q:Flow->Shared->Prop}(hh:A.handled=none)(hcl:oC.cls=.type "type")
  (hs:∀(h:Heap) (g d t os) (Q:Bool->Shared->Prop),h.get? C=some oC->Q true ⟨h,g,d,t,os⟩->wpAny M A (isSubtype (.ref C) (.type "BaseException")) Q E ⟨h,g,d,t,os⟩)
  (h:wpAny M A x (λv s₁=>∃e dx fl,v=.ref e/\s₁.heap.get? C=some oC/\s₁.heap.get? e=some {cls:=.ref C,dict:=some dx,data:=.fields fl}/\fl[1]?=some Value.none/\E (.ref e) s₁) E s):
  wpAny M A (raiseStmt env (some x) none) Q E s:=by
 unfold raiseStmt
 refine zdY (jf h λv s₁ h₁=>?_)
 obtain⟨e,dx,fl,rfl,hC,he,hz,hE⟩:=h₁
 obtain⟨hp,g,d,tk,os⟩:=s₁
 repeat (first | with_reducible refine wpAny_loadPart_at he ?_ | with_reducible refine wpAny_loadPart_at hC ?_ | with_reducible refine hs _ _ _ _ _ _ hC ?_ | wp_step)
 rw[hz]
 refine zdZ ?_
 rw[if_neg (show ¬((Value.none != Value.none)=true) by decide)]
 exact zdZ (wpAny_raiseNew_none hh hE)
end
def M8(K:zdW)(C:Addr):Prop:=∃f bm,EMk K C f bm/\bm.contains (.type "BaseException")=true
def N8(K:zdW)(E:XK)(te:TE):TS:=λD σ H=>te σ H λv H1=>∃a C dx,v=.ref a/\H1 a=some (ZL a C dx)/\M8 K C/\E (.ref C) (some dx) H1
section
variable{X:Cx}{E:XK}{e:Expr}{te:TE}{pos:Pos}
theorem Up(hc:X.calm=true)(hx:Ks X E)(he:JE X e te):JS X (.Raise (some e) none pos) (N8 X.K E te):=.of (by
 have he:=he.to
 intro pins s σ H D I h
 have key:∀x:Sem Value,wpAny (model X.prog X.w) X.A x (λu s1=>∃v H1,qz X pins σ H1 s1/\qO v u/\∃a C dx,v=.ref a/\H1 a=some (ZL a C dx)/\M8 X.K C/\E (.ref C) (some dx) H1) X.xe s->
   wpAny (model X.prog X.w) X.A (raiseStmt X.env (some x) none) (SP X pins D) X.xe s:=λx hw=>by
  unfold raiseStmt
  refine zdY (jf hw λu s1 ⟨v,H1,I1,rv,a,C,dx,ev,ha,⟨f,bm,em,hb⟩,hE⟩=>?_)
  subst ev
  obtain rfl:u=Value.ref a:=rv
  obtain⟨nm,q,N,bs,hdct,sn,sub,ab,col,dd,k0,k1,k2,k3,k5,hC⟩:=em.obj
  obtain⟨⟨fl,ho,hz⟩,_,_⟩:=(show qK X.prog X.w H1 s1.heap a (Jp a C dx .none) from I1.hok a _ ha)
  have hC':=I1.kIn _ _ hC
  have r:=yN (M:=model X.prog X.w) (A:=X.A) (E:=X.xe) (s:=s1) (env:=X.env) (C:=C) (x:=pure (.ref a)) (Q:=SP X pins D) (I1.ok.hd hc) rfl (λh g d t os Q z k=>wpAny_isSubtype_exc z (by
   rw[show (Value.ref C::bm).contains (.type "BaseException")=true by rw[zcS,hb,Bool.or_true]];exact k)) (zdZ ⟨a,dx,fl,rfl,hC',ho,hz,hx pins σ H1 s1 a C dx I1 ha hE⟩)
  exact r
 rw[arm_exec_Raise]
 exact zdY (wpAny_standAt (key _ (zdY (jf (he pins s σ H _ I h) λu s1 q=>zdY (wpAny_standAt (zdZ q)))))))
end
open PySem PySem.Spec PyProof.Rows
section
variable{M:Model}{A:Around}{E:Value->Shared->Prop}
theorem xy{h:Heap}{g:Array GenState}{d:Drawn}{t:Nat}{os:OsState}{e C D:Addr}{oe oC:Obj}{ddc:Option Addr}{sld:Array (Option Value)}{cdd}{bC bD:List Value}{Q:Bool->Shared->Prop}
  (he:h.get? e=some oe) (hcls:oe.cls=.ref C) (hC:h.get? C=some oC) (hD:h.get? D=some ⟨.type "type",ddc,.cls cdd,sld⟩)
  (sC:∀(T:Value) (Q:Bool->Shared->Prop),Q (bC.contains T) ⟨h,g,d,t,os⟩->wpAny M A (isSubtype (.ref C) T) Q E ⟨h,g,d,t,os⟩)
  (sD:∀(T:Value) (Q:Bool->Shared->Prop),Q (bD.contains T) ⟨h,g,d,t,os⟩->wpAny M A (isSubtype (.ref D) T) Q E ⟨h,g,d,t,os⟩)
  (hB:bD.contains (.type "BaseException")=true)
  (hq:Q (bC.contains (.ref D)) ⟨h,g,d,t,os⟩):wpAny M A (excMatches (.ref e) (.ref D)) Q E ⟨h,g,d,t,os⟩:=by
 have f:=tc_notTuple
 unfold excMatches
 repeat (first | (with_reducible refine wpAny_loadPart_at he ?_;rw[hcls]) | with_reducible refine wpAny_loadPart_at hD ?_ | (with_reducible refine sC _ _ ?_) | (with_reducible refine sD _ _ ?_;rw[hB]) | wp_step)
 cases hb:bC.contains (.ref D)<;>(rw[hb]at hq;wp_walk;exact hq)
end
open PySem PySem.Spec PyProof.Rows
def zF(CX:Y6)(X:Cx)(E:St->XK):Prop:=∀(pins:List (Addr×Obj)) (σ:St) (H:Hp) (s:Shared) (e:Value) (s':Shared),qz X pins σ H s->CX X.stack H s (E σ) e s'->X.xe e s'
def xU(sp:Sp)(dvs:List V)(E:St->XK)(t:TA):TE:=λσ H Q=>t σ H λvs H1=>sp (vs++dvs) H1 Q (E σ)
section
variable{X:Cx}{CX:Y6}{k:Nat}{f C:Addr}{fd:zea}{ps:List Str}{sp:Sp}{dvs:List V}{ds:List Value}{E:St->XK}{x m:Str}{p pos apos:Pos}{e o:Expr}{es:List Expr}{ta:TE}{t:TA}
theorem Gg{pins:List (Addr×Obj)}{σ:St}{H:Hp}{s:Shared}{Q:VK}{us:List Value}{vs:List V}(F:qo X.prog X.w X.K X.mg X.base CX k f fd ps sp)(hr:qU k X.A)(hb:jE X.K fd ps ds)(hd:qG dvs ds)(hx:zF CX X E)
  (I:qz X pins σ H s) (r:qG vs us) (h:sp (vs++dvs) H Q (E σ)):wpAny (model X.prog X.w) X.A (call (.ref f) us) (EP X pins σ Q) X.xe s:=by
 have rr:qG (vs++dvs) (us++ds):=r.append hd
 have ll:(us++ds).length=ps.length:=rr.length.symm.trans (F.len _ _ _ _ h)
 have run:=F.run X.A X.stack s H ⟨us,[]⟩ (us++ds) (vs++dvs) Q (E σ) hr I.env0 (hb s us I.kIn ll) rr h
 refine wpAny_call (codeAny_mono run λz s' q=>?_)
 match z,q with
 | .error y,q=>exact hx pins σ H s y s' I q
 | .ok (.ret u),q=>exact I.after q
theorem wP(F:qo X.prog X.w X.K X.mg X.base CX k f fd ps sp)(hr:qU k X.A)(hg:Gl X x)(hm:X.mg x=some (.ref f))(hk:zaA X.K (.ref f)=true)(hb:jE X.K fd ps ds)(hd:qG dvs ds)(hx:zF CX X E)
  (ha:PA X (e::es) t) (hdb:(x==("__debug__":Str))=false:=by decide) (he:starEach (e::es) X.env=(false,eval e X.env)::starEach es X.env:=by rfl) (hpl:(backTo pos (starEach es X.env)).any (·.1)=false:=by rfl):
  PE X (.Call (.Name x p) (e::es) [] pos) (xU sp dvs E t):=by
 intro pins s σ H Q I h
 refine wpAny_Call_Name_kw (zt I hg hm (zbi (h₀:=X.base) I.ok.mod.kin hk (jf (ha pos pins s σ H _ I h) λus s1 ⟨vs,H1,I1,r,q⟩=>⟨I1.kIn,Gg F hr hb hd hx I1 r q⟩) he hpl) hdb)
end
open PySem PySem.Spec PyProof.Rows
section
variable{X:Cx}{pins:List (Addr×Obj)}{σ:St}{H:Hp}{s:Shared}{a b:Addr}{kvs more:List (qN×V)}{A:Around}{E:Value->Shared->Prop}
end
section
variable{X:Cx}{o e:Expr}{apos cpos:Pos}{td ty:TE}
end
theorem qcC{us:List Value}(h:us.length=0):us=[]:=zaC h
theorem Rt{us:List Value}{n:Nat}(h:us.length=n+1):∃a r,us=a::r/\r.length=n:=by
 cases us with
 | nil=>cases h
 | cons a r=>exact⟨a,r,rfl,zcP.inj h⟩
theorem QL{us:List Value}(h:us.length=1):∃a,us=[a]:=by
 obtain⟨a,r,rfl,h'⟩:=Rt h
 exact⟨a,by rw[qcC h']⟩
theorem Qg{us:List Value}(h:us.length=2):∃a b,us=[a,b]:=by
 obtain⟨a,r,rfl,h'⟩:=Rt h
 obtain⟨b,rfl⟩:=QL h'
 exact⟨a,b,rfl⟩
theorem zr{us:List Value}(h:us.length=3):∃a b c,us=[a,b,c]:=by
 obtain⟨a,r,rfl,h'⟩:=Rt h
 obtain⟨b,c,rfl⟩:=Qg h'
 exact⟨a,b,c,rfl⟩
theorem Ru{us:List Value}(h:us.length=4):∃a b c d,us=[a,b,c,d]:=by
 obtain⟨a,r,rfl,h'⟩:=Rt h
 obtain⟨b,c,d,rfl⟩:=zr h'
 exact⟨a,b,c,d,rfl⟩
open PySem PySem.Spec PyProof.Rows
abbrev Cx.suite(X:Cx)(a:Value)(E:Value->Shared->Prop):Cx:={X with A:=X.A.mark (some a),calm:=false,xe:=E}
abbrev Cx.tried(X:Cx)(pn:List (Addr×Obj))(E:Value->Shared->Prop):Cx:={X with xe:=E,pn:=pn}
section
variable{X:Cx}{pins:List (Addr×Obj)}{σ:St}{H:Hp}{s:Shared}{E:Value->Shared->Prop}{a:Value}
theorem Cx.Ok.suite(o:X.Ok)(a:Value)(E:Value->Shared->Prop):(X.suite a E).Ok:=⟨o.mod,o.kind,o.glob,o.blt,o.above,o.inj,o.has,o.cab,λz=>zdh z,o.frames,o.stk,o.exf,o.bs,o.bsz,o.noex,o.exfs,o.funs,o.frf⟩
theorem Cx.Ok.tried(o:X.Ok)(pn:List (Addr×Obj))(E:Value->Shared->Prop):(X.tried pn E).Ok:=⟨o.mod,o.kind,o.glob,o.blt,o.above,o.inj,o.has,o.cab,o.hd,o.frames,o.stk,o.exf,o.bs,o.bsz,o.noex,o.exfs,o.funs,o.frf⟩
theorem qz.suite(I:qz X pins σ H s)(a:Value)(E:Value->Shared->Prop):qz (X.suite a E) pins σ H s:=⟨I.ok.suite a E,I.os,I.bare,I.base,I.loc,I.cell,I.free,I.freeC,I.pin,I.hok,I.len⟩
theorem qz.unsuite{σ0:St}{H0:Hp}{s0:Shared}(I0:qz X pins σ0 H0 s0)(I:qz (X.suite a E) pins σ H s):qz X pins σ H s:=⟨I0.ok,I.os,I.bare,I.base,I.loc,I.cell,I.free,I.freeC,I.pin,I.hok,I.len⟩
theorem qz.tried(I:qz X pins σ H s)(E:Value->Shared->Prop):qz (X.tried (X.pn++pins) E) [] σ H s:=⟨I.ok.tried _ E,I.os,I.bare,I.base,I.loc,I.cell,I.free,I.freeC,λp hp=>I.pin p (by simpa using hp),I.hok,I.len⟩
theorem qz.untried{pins':List (Addr×Obj)}{σ0:St}{H0:Hp}{s0:Shared}(I0:qz X pins σ0 H0 s0)(I:qz (X.tried (X.pn++pins) E) pins' σ H s):qz X pins σ H s:=⟨I0.ok,I.os,I.bare,I.base,I.loc,I.cell,I.free,I.freeC,λp hp=>I.pin p (zaj _ hp),I.hok,I.len⟩
theorem YZ{M:Model}{A:Around}{F:Value->Shared->Prop}{i:Nat}{x:Str}{pos:Pos}{Q:Unit->Shared->Prop}(I:qz X pins σ H s)(hN:X.N.Nodup)(hi:X.N[i]?=some x)(hk:X.env.scope.names.lookup x=some .local)
  (h:∀s',qz X pins (σ.set i none) H s'->Q () s'):wpAny M A (do bindName X.env x .none;unbindBehindTheSuite X.env x pos) Q F s:=by
 obtain⟨m,hn,hl⟩:=id I.loc
 have hcls:(X.env.scope.kind==.class || (X.env.scope.kind==.module&&X.env.locals != X.env.globals))=false:=by rw[I.ok.kind];rfl
 have hiσ:i < σ.length:=by rw[I.len];exact(tw.mp hi).1
 have cne:=I.cne
 have tracked:∀{a:Addr} {h':Heap},(∃o,s.heap.get? a=some o/\H a=none)->Heap.SameBut a s.heap h'->JN X.prog X.w H h':=λ{a h'} ha hs b ob e=>by
  obtain⟨_,_,hfree⟩:=ha
  refine(I.hok b ob e).stay (λc w' hc q=>(hs.2 c ?_).trans q) (λ_ q=>q) λ_ _ q=>q
  rintro rfl
  rcases hc with rfl | hc
  ·rw[hfree]at e;cases e
  ·rw[hfree]at hc;cases hc
 refine wpAny_nameGoes_keeps hk hn hcls λh' v0 hn' hs=>?_
 obtain⟨oL,_,_,hoL,_⟩:=id hn
 refine h _ ⟨I.ok,I.os,I.bare,⟨λb o e n hb hx=>?_,λb o e n hb hx=>?_,I.base.free,λb o e hx=>?_,I.base.tups,I.base.frzs,I.base.tbls⟩,⟨_,hn',λj y v' e1 e2 e3=>?_⟩,λy c e=>?_,I.free,I.freeC,λp hp=>?_,tracked ⟨oL,hoL,I.free⟩ hs,by simpa using I.len⟩
 ·exact(hs.2 b (tQ (tM (tK e) I.ok.above))).trans (I.base.keep b o e n hb hx)
 ·obtain⟨sl,e1⟩:=I.base.slot b o e n hb hx
  exact⟨sl,(hs.2 b (tQ (tM (tK e) I.ok.above))).trans e1⟩
 ·obtain⟨o',e1⟩:=I.base.there b o e hx
  exact⟨o',(hs.2 b (tQ (tM (tK e) I.ok.above))).trans e1⟩
 ·by_cases hj:j=i
  ·subst hj
   rw[zcq hiσ]at e2
   cases e2
  ·rw[zcF (Ne.symm hj)]at e2
   obtain⟨u',r',q⟩:=hl j y v' e1 e2 e3
   refine⟨u',r',?_⟩
   rcases q with ⟨k,e⟩ | ⟨k,c,e,z⟩
   ·refine .inl ⟨k,?_⟩
    have:y≠x:=λe=>hj (XF hN e1 (e▸hi))
    simp [this,e]
   ·exact .inr ⟨k,c,e,z.sameBut hs (cne y c e)⟩
 ·obtain⟨w',z⟩:=I.cell y c e
  exact⟨w',z.sameBut hs (cne y c e)⟩
 ·obtain⟨e,n,ne,nf,d⟩:=I.pin p hp
  exact⟨(hs.2 p.1 ne).trans e,n,ne,nf,d⟩
end
abbrev TH:=Addr->Addr->Addr->TS
def PH(X:Cx)(hs:List ExceptHandler)(t:TH):Prop:=
 ∀(pins:List (Addr×Obj)) (s:Shared) (σ:St) (H:Hp) (D:Ja) (a C dx T:Addr),qz X pins σ H s->H a=some (Jp a C dx (.ref T))->H T=some (Kw T .none)->t C a dx D σ H->
  wpAny (model X.prog X.w) X.A (handleBy (.ref a) X.env hs) (SP X pins D) X.xe s
def u5:TH:=λ_ _ _ _ _ _=>False
theorem y8{X:Cx}{hs:List ExceptHandler}:PH X hs u5:=λ_ _ _ _ _ _ _ _ _ _ _ _ h=>h.elim
def Ja.gone(D:Ja)(j:Nat):Ja:={nx:=λσ H=>D.nx (σ.set j none) H,rt:=D.rt,bk:=λσ H=>D.bk (σ.set j none) H,ct:=λσ H=>D.ct (σ.set j none) H}
def vU(K:zdW)(Cl:Addr)(j:Nat)(ts:TS)(tr:TH):TH:=λC a dx D σ H=>∃f bm,EMk K C f bm/\
 if (Value.ref C::bm).contains (.ref Cl)=true then ts (D.gone j) (σ.set j (some (.ref a))) H else tr C a dx D σ H
def Nf(K:zdW)(C:Addr):Prop:=∃bm,(∃nm q N bs hdct sn sub ab col dd k0 k1 k2 k3 k5,K.lookup C=some (excClassObj nm q C N bs bm hdct sn sub ab col dd k0 k1 k2 k3 k5 "ValueError.__new__"))/\bm.contains (.type "BaseException")=true
theorem vE{X:Cx}{x n:Str}{p pos:Pos}{j:Nat}{b₀:Stmt}{suite:List Stmt}{rest:List ExceptHandler}{ts:TS}{tr:TH}{Cl:Addr}(hg:Gl X x)(hm:X.mg x=some (.ref Cl))(hD:Nf X.K Cl)(hN:X.N.Nodup)(hj:X.N[j]?=some n)
  (hl:X.env.scope.names.lookup n=some .local) (hs:∀v E,KA (X.suite v E) (b₀::suite) ts) (hr:PH X rest tr) (hdb:(x==("__debug__":Str))=false:=by decide):PH X (.ExceptHandler (some (.Name x p)) (some n) (b₀::suite) pos::rest) (vU X.K Cl j ts tr):=by
 intro pins s σ H D a C dx T I ha hT h
 obtain⟨f,bm,em,h⟩:=h
 obtain⟨bm',em',hB⟩:=hD
 refine wpAny_handleBy_cons (codeAny_handlers_test ?_) (by intro q;cases q)
 refine wpAny_mono (kJ (X:=X.suite (.ref a) _) (v:=.ref Cl) hg hm rfl hdb pins s σ H (λv H'=>v=.ref Cl/\H'=H) (I.suite _ _) ⟨rfl,rfl⟩) (λc s₁ q=>?_) (λ_ _ z=>z)
 obtain⟨v,H',I1,rv,rfl,rfl⟩:=q
 obtain rfl:c=Value.ref Cl:=rv
 have I2:qz X pins σ H' s₁:=I.unsuite I1
 obtain⟨nm,q,N,bs,hdct,sn,sub,ab,col,dd,k0,k1,k2,k3,k5,hC⟩:=em.obj
 obtain⟨nm',q',N',bs',hdct',sn',sub',ab',col',dd',k0',k1',k2',k3',k5',hC'⟩:=em'
 obtain⟨⟨fl,he,hz⟩,_,_⟩:=(show qK X.prog X.w H' s₁.heap a (Jp a C dx (.ref T)) from I2.hok a _ ha)
 obtain⟨st,_,_⟩:=(show qK X.prog X.w H' s₁.heap T (Kw T .none) from I2.hok T _ hT)
 have gC:=I2.kIn _ _ hC
 have gD:=I2.kIn _ _ hC'
 obtain⟨hp,g,d,tk,os⟩:=s₁
 refine xy (bC:=Value.ref C::bm) (bD:=Value.ref Cl::bm') he rfl gC gD (λT Q k=>wpAny_isSubtype_exc gC k) (λT Q k=>wpAny_isSubtype_exc gD k) (by rw[zcS,hB,Bool.or_true]) ?_
 cases hb:(Value.ref C::bm).contains (.ref Cl) with
 | false=>
  rw[hb,if_neg tN]at h
  exact hr pins _ σ H' D a C dx T I2 ha hT h
 | true=>
  rw[hb,if_pos rfl]at h
  refine(show codeAny _ _ _ _ _ from codeAny_handlers_suite_as ?_)
  refine J6 (fs:=Yy X.stack) he hz st λh' F st'=>?_
  have I3:qz X pins σ H' {heap:=h',gens:=g,drawn:=d,toks:=tk,os:=os}:=I2.flown (H':=H') F ⟨λb hb'=>by cases t7.mp hb';exact⟨_,hT⟩,λb o _ z=>z,λb _ z=>z⟩ (λb hb'=>by cases t7.mp hb';obtain⟨ts',z,_⟩:=st';exact⟨_,z⟩) λb o z hb'=>by
   rcases hb' with hb' | hb'
   ·rw[z]at hb';cases hb'
   ·cases t7.mp hb'
    rw[hT]at z
    cases z
    exact WT st'
  refine zc I3 hN hj (.inl hl) (v:=.ref a) rfl (λs' I4=>?_) (.inr hl)
  refine wpAny_mono (hs (.ref a) _ pins s' _ H' (D.gone j) (I4.suite _ _) h) (λfl s3 q=>?_) (λ_ _ z=>z)
  cases fl with
  | next=>
   obtain⟨σ3,H3,I5,q⟩:=q
   exact YZ (I.unsuite I5) hN hj hl λs4 I6=>⟨_,_,I6,q⟩
  | brk=>
   obtain⟨σ3,H3,I5,q⟩:=q
   exact YZ (I.unsuite I5) hN hj hl λs4 I6=>⟨_,_,I6,q⟩
  | cont=>
   obtain⟨σ3,H3,I5,q⟩:=q
   exact YZ (I.unsuite I5) hN hj hl λs4 I6=>⟨_,_,I6,q⟩
  | ret u=>
   obtain⟨v,σ3,H3,I5,r,q⟩:=q
   exact YZ (I.unsuite I5) hN hj hl λs4 I6=>⟨v,_,_,I6,r,q⟩
def qaQ(tb:(St->XK)->TS)(th:TH):TS:=λD σ H=>∃R:Addr->Addr->Hp->Prop,tb (λσ' c d Hx=>σ'=σ/\∃C dx,c=.ref C/\d=some dx/\R C dx Hx) D σ H/\
 ∀(a C dx T:Addr) (Hx H':Hp),R C dx Hx->Hx a=some (ZL a C dx)->(∀b o,b≠a->Hx b=some o->H' b=some o)->H' a=some (Jp a C dx (.ref T))->th C a dx D σ H'
theorem KJ{X:Cx}{body:List Stmt}{h0:ExceptHandler}{hs:List ExceptHandler}{tb:(St->XK)->TS}{th:TH}{pos:Pos}(hst:X.stack=X.env::X.outer)(hfm:X.env.frame=some X.env.locals)
  (hb:∀(pn:List (Addr×Obj)) (W:Value->Shared->Prop) (E:St->XK),zF (Z7 X.prog X.w) (X.tried pn W) E->KA (X.tried pn W) body (tb E)) (hh:PH X (h0::hs) th):PS X (.Try body (h0::hs) [] [] pos) (qaQ tb th):=by
 intro pins s σ H D I h
 obtain⟨R,hbd,hx⟩:=h
 refine wpAny_Try_except ?_
 refine wpAny_mono (hb (X.pn++pins) (λe s₁=>wpAny (model X.prog X.w) X.A (noteFrame e X.env) (λ_ s₂=>wpAny (model X.prog X.w) X.A (setFlight e none) (λ_ s₃=>wpAny (model X.prog X.w) X.A (handleBy e X.env (h0::hs)) (SP X pins D) X.xe s₃) X.xe s₂) X.xe s₁) _ ?_ [] s σ H D (I.tried _) hbd) (λf s1 q=>?_) (λ_ _ z=>z)
 ·intro pins' σ' H1 s1 e s' I1 hc
  obtain⟨a,C,dx,T,Hx,H2,rfl,os,bare,un,hok,ha,ht,hxT,hxa,hxs,rfl,C',dx',eC,eD,hR⟩:=hc
  cases eC
  cases eD
  have I2:qz X pins σ' H2 s':=I.untried (I1.call' os un hok bare λb z=>absurd z (by simp))
  obtain⟨⟨fl,he,hz⟩,_,_⟩:=(show qK X.prog X.w H2 s'.heap a (Jp a C dx (.ref T)) from I2.hok a _ ha)
  obtain⟨st0,_,_⟩:=(show qK X.prog X.w H2 s'.heap T (Kw T .none) from I2.hok T _ ht)
  have nT0:T≠a:=λz=>by
   obtain⟨ts,q,_⟩:=st0
   rw[z,he]at q
   cases q
  have fr:=I2.ok.frames
  have ff:=I2.stack
  rw[hst]at fr ff
  refine kQ fr ff hfm he hz st0 nT0 λh1 T' hT F tT q1 q2=>?_
  have lt:=(zat.mp hz).1
  have g1:(fl.setIfInBounds 1 (Value.ref T'))[1]?=some (.ref T'):=by simp [lt]
  have nT:T'≠a:=λz=>by
   obtain⟨ts,q,_⟩:=q2
   rw[z,q1]at q
   cases q
  refine J6 (fs:=Yy X.stack) q1 g1 q2 λh2 F2 stt=>?_
  have anf:∀b o,H2 b=some o->b∉Yy X.stack:=λb o q z=>by
   have:=I2.stkFree b z
   rw[q]at this
   cases this
  have hTn:H2 T'=none:=I2.hok.fresh hT
  have nTT:T'≠T:=(qr ht hTn).symm
  have q3:=F2.keep a _ (anf a _ ha) (by simp [Ne.symm nT]) q1
  obtain⟨oT,hoT⟩:=tT
  have q4:=F2.keep T _ (anf T _ ht) (by simp [Ne.symm nTT]) hoT
  rw[<-hst]at F
  have I3:=I2.flown (H':=upd (upd (upd H2 a (Jp a C dx (.ref T'))) T (.ext λh=>∃o,h.get? T=some o)) T' (Kw T' .none)) (ym.then F F2 hT) ⟨λb hb=>by
    simp only[tS,zaE,or_false]at hb
    rcases hb with rfl | rfl
    ·exact⟨_,ha⟩
    ·exact⟨_,ht⟩,λb o hb q=>by
    simp only[tS,zaE,or_false,not_or]at hb
    rw[qi (qr q hTn),qi hb.2,qi hb.1];exact q,λb hb q=>by
    rw[qi (tQ (tM hb hT)),qi (λz=>by rw[z,ht]at q;cases q),qi (λz=>by rw[z,ha]at q;cases q)];exact q⟩ (λb hb=>by
    simp only[tS,zaE,or_false]at hb
    rcases hb with rfl | rfl
    ·exact⟨_,q3⟩
    ·exact⟨_,q4⟩) λb o q hb=>by
   by_cases e1:b=T'
   ·subst e1
    rw[qe]at q
    cases q
    exact WT stt
   ·rw[qi e1]at q
    by_cases e2:b=T
    ·subst e2
     rw[qe]at q
     cases q
     exact⟨⟨_,q4⟩,⟨_,q4⟩,λh1 h2 ⟨u,z⟩ k=>⟨u,k u z⟩⟩
    ·rw[qi e2]at q
     by_cases e3:b=a
     ·subst e3
      rw[qe]at q
      cases q
      exact Y3 ⟨_,q3,g1⟩
     ·rw[qi e3]at q
      rcases hb with hb | hb
      ·rw[q]at hb;cases hb
      ·simp only[tS,zaE,or_false]at hb
       exact(hb.elim e3 e2).elim
  have ea:upd (upd (upd H2 a (Jp a C dx (.ref T'))) T (.ext λh=>∃o,h.get? T=some o)) T' (Kw T' .none) a=some (Jp a C dx (.ref T')):=by rw[qi (Ne.symm nT),qi (Ne.symm nT0),qe]
  refine hh pins _ σ' _ D a C dx T' I3 ea qe (hx a C dx T' Hx _ hR hxa (λb o nb q=>?_) ea)
  have n1:b≠T:=λz=>by rw[z,hxT]at q;cases q
  have q':=hxs b o nb q
  rw[qi (qr q' hTn),qi n1,qi nb]
  exact q'
 ·cases f with
  | next=>
   obtain⟨σ',H',I',q⟩:=q
   exact wpAny_execs_nil ⟨σ',H',I.untried I',q⟩
  | brk=>
   obtain⟨σ',H',I',q⟩:=q
   exact⟨σ',H',I.untried I',q⟩
  | cont=>
   obtain⟨σ',H',I',q⟩:=q
   exact⟨σ',H',I.untried I',q⟩
  | ret u=>
   obtain⟨v,σ',H',I',r,q⟩:=q
   exact⟨v,σ',H',I.untried I',r,q⟩
@[irreducible] def JH (X:Cx) (hs:List ExceptHandler) (t:TH):Prop:=PH X hs t
theorem JH.of{X:Cx}{hs:List ExceptHandler}{t:TH}(h:PH X hs t):JH X hs t:=by unfold JH;exact h
theorem JH.to{X:Cx}{hs:List ExceptHandler}{t:TH}(h:JH X hs t):PH X hs t:=by unfold JH at h;exact h
theorem uM{X:Cx}{hs:List ExceptHandler}:JH X hs u5:=.of y8
theorem uN{X:Cx}{x n:Str}{p pos:Pos}{j:Nat}{b₀:Stmt}{suite:List Stmt}{rest:List ExceptHandler}{ts:TS}{tr:TH}{Cl:Addr}(hg:Gl X x)(hm:X.mg x=some (.ref Cl))(hD:Nf X.K Cl)(hN:X.N.Nodup)(hj:X.N[j]?=some n)
  (hl:X.env.scope.names.lookup n=some .local) (hs:∀v E,WR (X.suite v E) (b₀::suite) ts) (hr:JH X rest tr) (hdb:(x==("__debug__":Str))=false:=by decide):JH X (.ExceptHandler (some (.Name x p)) (some n) (b₀::suite) pos::rest) (vU X.K Cl j ts tr):=
 .of (vE hg hm hD hN hj hl (λv E=>(hs v E).to) hr.to hdb)
theorem MJ{X:Cx}{body:List Stmt}{h0:ExceptHandler}{hs:List ExceptHandler}{tb:(St->XK)->TS}{th:TH}{pos:Pos}(hst:X.stack=X.env::X.outer)(hfm:X.env.frame=some X.env.locals)
  (hb:∀(pn:List (Addr×Obj)) (W:Value->Shared->Prop) (E:St->XK),zF (Z7 X.prog X.w) (X.tried pn W) E->WR (X.tried pn W) body (tb E)) (hh:JH X (h0::hs) th):JS X (.Try body (h0::hs) [] [] pos) (qaQ tb th):=
 .of (KJ hst hfm (λpn W E h=>(hb pn W E h).to) hh.to)
def Nl(K:zdW)(bm:List Value)(ta:TE)(f:Str):TE:=λσ H Q=>ta σ H λx H1=>∃a C dx hd fs v,x=.ref a/\H1 a=some (Jp a C dx hd)/\H1 dx=some (.xd fs)/\YF K C bm/\j5 K C f/\fs.lookup f=some v/\Q v H1
def va(K:zdW)(bm:List Value):List V->Hp->VK->Prop:=λxs H Q=>∃a C dx hd fs c b,xs=[.ref a,c]/\NH c=true/\H a=some (Jp a C dx hd)/\H dx=some (.xd fs)/\YF K C bm/\zag K (.ref C) (RY c)=some b/\Q (.bl b) H
section
variable{X:Cx}{f:Str}{e:Expr}{pos:Pos}{ta:TE}{bm:List Value}
theorem RF(he:JE X e ta)(hb:attributeBase e f X.env (eval e X.env)=eval e X.env):JE X (.Attribute e f pos) (Nl X.K bm ta f):=.of (by
 have he:=he.to
 intro pins s σ H Q I h
 refine yg hb (jf (he pins s σ H _ I h) λu s1 z=>?_)
 obtain⟨x,H1,I1,rx,a,C,dx,hd,fs,v,ex,ea,ed,c,n,l,q⟩:=z
 subst ex
 obtain rfl:u=Value.ref a:=rx
 exact xv I1 ea ed c n l λu' s2 I2 ru=>⟨v,H1,I2,ru,q⟩)
theorem Yt(hn:zby X.K (.builtin "object.__class__") "__get__"=some (some (.builtin "getset_descriptor.__get__")))(htk:zci X.K (.builtin "object.__class__")=some true):QN X (.builtin "isinstance") (va X.K bm):=by
 intro pins s σ H xs us Q I r h
 obtain⟨a,C,dx,hd,fs,c,b,rfl,hc,ha,hdx,ec,ek,q⟩:=h
 obtain⟨u,w',rfl,ru,rw'⟩:=vO r
 have ew:w'=RY c:=by
  cases c with
  | ty n=>exact rw'
  | ref z=>exact rw'
  | _=>cases hc
 subst ew
 cases ru
 exact uW I ha hdx ec hn htk ek λtk=>⟨.bl b,H,I.tok tk,rfl,q⟩
end
end L2
namespace PySem
open PySem.Spec
namespace F
theorem plain_dupd_loop:plainId "dict.update.loop"=true:=by decide+kernel
theorem entry_dupd_loop:entryFor table "dict.update.loop"=some Builtin.«dict.update.loop»:=entryFor_of_fast (by kernel_rfl)
end F
theorem Heap.DictOf.keepsAt{prog:Program}{w:World}{κ:Type}[DecidableEq κ]{knd:KeyKind prog w κ}{h h':Heap}{a:Addr}{kvs:List (κ×Value)}(hm:h.DictOf knd a kvs)(k:∀o,h.get? a=some o->h'.get? a=some o):h'.DictOf knd a kvs:=
 let ⟨o,es,ep,ho,r⟩:=hm;⟨o,es,ep,k o ho,r⟩
section
variable{prog:Program}{w:World}{A:Around}{R:Result->Shared->Prop}{I:Addr}{fp wr:List Addr}{n:Nat}{P:Nat->Value->Prop}{St:Nat->Heap->Prop}{κ:Type}[DecidableEq κ]{knd:KeyKind prog w κ}
def M9(knd:KeyKind prog w κ)(h:Heap)(wr:List Addr)(d:Addr)(v:Value)(kv:κ×Value):Prop:=∃p o c k,v=.ref p/\h.get? p=some o/\o.cls=.type "tuple"/\o.data=.seq #[k,kv.2] c/\knd.is kv.1 k=true/\p∉wr/\p≠d
theorem zC(W:Walks prog w A.in1 I fp wr n P St)(kv:Nat->κ×Value)(d:Addr)(hdf:d∉fp)(hn:n<=1000):
  ∀(k i:Nat) (s:Shared) (t:Tok) (kvs:List (κ×Value)),n - i=k->i<=n->St i s.heap->s.heap.DictOf knd d kvs->kvs.length<=i->(∀j v,P j v->M9 knd s.heap wr d v (kv j))->
  (∀h' tk,h'.DictOf knd d (merged kvs (((zab n).drop i).map kv))->(∀b o,b∉wr->b≠d->s.heap.get? b=some o->h'.get? b=some o)->R (.ok (.ret .none)) {s with heap:=h',toks:=tk})->
  codeAny (model prog w) A (.builtin "dict.update.loop" ⟨[.ref d,.ref I,.int i t,.none],[]⟩) R s:=by
 have hdw:d∉wr:=λh=>hdf (W.sub _ h)
 intro k
 induction k with
 | zero=>
  intro i s t kvs hk hi hst hd hl hp hR
  have hin:i=n:=by omega
  subst hin
  refine codeAny_builtin F.entry_dupd_loop ?_
  rw[Around.under_plainId F.plain_dupd_loop _]
  show wpAny _ A.in1 (pyNext (.ref I) >>= _) _ _ s
  refine zdY (W.done s _ _ hst λh' tk hk'=>?_)
  show wpAny _ A.in1 (Builtin.Dict.addKeywords d [] >>= _) _ _ _
  refine zdY (zdZ (zdZ (hR h' tk ?_ λb o hb _ e=>hk' b o hb e)))
  rw[List.drop_of_length_le (by simp)]
  exact hd.keepsAt λo e=>hk' d o hdw e
 | succ k ih=>
  intro i s t kvs hk hi hst hd hl hp hR
  have hlt:i < n:=by omega
  refine codeAny_builtin F.entry_dupd_loop ?_
  rw[Around.under_plainId F.plain_dupd_loop _]
  show wpAny _ A.in1 (pyNext (.ref I) >>= _) _ _ s
  refine zdY (W.item i s _ _ hlt hst λv h' tk hP hst' hk'=>?_)
  obtain⟨p,o,c,key,rfl,ho,hc,hdat,hkey,hpw,hpd⟩:=hp i v hP
  have ho':=hk' p o hpw ho
  have hd':h'.DictOf knd d kvs:=hd.keepsAt λo e=>hk' d o hdw e
  have ty:(⟨h',s.gens,s.drawn,tk,s.os⟩:Shared).TypeIs (.ref p) "tuple":=⟨o,ho',hc⟩
  refine zdY (wpAny_holding (zdY (wpAny_tryCatch ?_)))
  unfold Builtin.Dict.pairItems
  refine zdY (wpAny_typeOf ty ?_)
  rw[if_pos (by decide)]
  refine zdY (wpAny_seqItems ho' hdat (zdZ ?_))
  refine(show wpAny _ _ (holding [key,(kv i).2] (dictSet d key (kv i).2)) _ _ _ from wpAny_holding (wpAny_dictSet_pairs hkey hd' (λh'' dd hs=>?_) (by rw[sizeLine_eq];omega)))
  refine zdZ ⟨plainId_quiet F.plain_dupd_loop _,?_⟩
  have keep:∀b o,b∉wr->b≠d->s.heap.get? b=some o->h''.get? b=some o:=λb o hb hbd e=>(hs.2 b hbd).trans (hk' b o hb e)
  have len:(stored kvs (kv i).1 (kv i).2).length<=i+1:=by
   have:=stored_length_le kvs (kv i).1 (kv i).2
   omega
  refine ih (i+1) _ _ (stored kvs (kv i).1 (kv i).2) (by omega) hlt (W.frame _ _ _ hst' λb hb o e=>(hs.2 b (λz=>hdf (z▸hb))).trans e) dd len (λj v hj=>?_) λh3 tk3 d3 k3=>?_
  ·obtain⟨p,o,c,k,e1,e2,r⟩:=hp j v hj
   exact⟨p,o,c,k,e1,keep p o r.2.2.2.1 r.2.2.2.2 e2,r⟩
  ·refine hR h3 tk3 ?_ λb o hb hbd e=>k3 b o hb hbd (keep b o hb hbd e)
   have e:(zab n).drop i=i::(zab n).drop (i+1):=by
    rw[List.drop_eq_getElem_cons (by simpa using hlt)]
    simp
   rw[e]
   exact d3
end
section
variable{prog:Program}{w:World}{A:Around}{E:Value->Shared->Prop}{s:Shared}{κ:Type}[DecidableEq κ]{knd:KeyKind prog w κ}
theorem Vl:typeLookup (.type "list") "keys"=pure none:=by rw[typeLookup_type,builtinLookup_eq_fast];kernel_rfl
theorem Vo{a:Addr}{o:Obj}{xs:Array Value}{k:Nat}{Q:Option Value->Shared->Prop}(hx:s.heap.get? a=some o)(hc:o.cls=.type "list")(hdat:o.data=.seq xs k)(hd:o.dict=none)(hA:A.handled=none)
  (h:∀h' tk,(∀b o,s.heap.get? b=some o->h'.get? b=some o)->Q none {s with heap:=h',toks:=tk}):wpAny (model prog w) A (getAttr? (.ref a) "keys") Q E s:=by
 obtain⟨c,dct,dat,sl⟩:=o
 simp only at hc hdat hd
 subst hc hdat hd
 obtain⟨hp,g,d,tk,os⟩:=s
 have hT:∀tk',(⟨hp,g,d,tk',os⟩:Shared).TypeIs (.ref a) "list":=λ_=>⟨_,hx,rfl⟩
 have f1:=sub_AttributeError
 have f3:=F.slot_list_getattribute.lookup
 have f4:=F.slot_list_getattribute.bind (.ref a)
 have f5:=am_list_getattr_none
 unfold getAttr? getAttrBy? getAttrBy
 repeat (any_goals (first | assumption | exact hT _ | ((with_reducible show wpAny _ _ (call (Value.builtin "list.__getattribute__") _ _) _ _ _);refine call_meets F.slot_list_getattribute (hT _) am_entry_list_getattribute (F.args_list_getattribute_2 _ _) (meets_getattribute_miss_list a xs k sl "keys" _ Vl (by decide+kernel)) ⟨hx,hA,λh' tk' e hx'=>?_⟩) | wp_step))
 obtain⟨t',u',he⟩:=hx'.there
 show wpAny _ _ (getattributeRaised _ _ _ _ _ _ _) _ _ _
 unfold getattributeRaised
 repeat (any_goals (first | assumption | wp_step))
 exact h _ _ hx'.of.keeps
theorem YA{src:Addr}{items:Array Value}{kv:Nat->κ×Value}{Q:Value->Shared->Prop}(pl:PlainL s.heap src items)(hp:∀j v,items[j]?=some v->∃p o c key,v=.ref p/\s.heap.get? p=some o/\o.cls=.type "tuple"/\o.data=.seq #[key,(kv j).2] c/\knd.is (kv j).1 key=true)
  (hn:items.size<=1000) (hA:A.handled=none)
  (h:∀h' tk,h'.DictOf knd s.heap.objs.size (merged [] ((zab items.size).map kv))->(∀b o,s.heap.get? b=some o->h'.get? b=some o)->Q (.ref s.heap.objs.size) {s with heap:=h',toks:=tk}):
  wpAny (model prog w) A (call (.type "dict") [.ref src]) Q E s:=by
 refine callType_codes (Q₁:=λobj s₁=>obj=.ref s.heap.objs.size/\s₁={s with heap:=s.heap.push {cls:=.type "dict",data:=.dict #[]}}) F.kt_called_dict (F.kt_typeCall_dict_1 _) F.entry_dict_init (kt_code_dict_new _ ⟨rfl,rfl⟩) ?_
 rintro obj s₁ ⟨rfl,rfl⟩
 have hnew:(s.heap.push {cls:=.type "dict",data:=.dict #[]}).DictOf knd s.heap.objs.size []:=Heap.DictOf.new s.heap
 have hp0:∀b o,s.heap.get? b=some o->(s.heap.push {cls:=.type "dict",data:=.dict #[]}).get? b=some o:=λb o e=>tu _ e
 obtain⟨ol,nl,ho,hc,hd,hdat⟩:=id pl
 have ty:(⟨s.heap.push {cls:=.type "dict",data:=.dict #[]},s.gens,s.drawn,s.toks,s.os⟩:Shared).TypeIs (.ref src) "list":=⟨ol,hp0 _ _ ho,hc⟩
 refine⟨hnew.typeIs,F.args_dict_init_2 _ _,?_⟩
 unfold Builtin.«dict.__init__»
 refine zdY ?_
 unfold Builtin.Dict.selfAndRest
 refine zdY (wpAny_notOrdered_dict hnew.typeIs ?_)
 show wpAny _ _ (pure (s.heap.objs.size,[Value.ref src])) _ _ _
 refine zdZ ?_
 show wpAny _ _ (Builtin.Dict.updateFrom "dict.__init__" s.heap.objs.size (.ref src) [] .none) _ _ _
 unfold Builtin.Dict.updateFrom
 refine zdY (wpAny_typeOf ty ?_)
 rw[if_pos (by decide)]
 refine zdY (Vo (hp0 _ _ ho) hc hdat hd hA λh1 tk1 k1=>?_)
 rw[if_pos (show (none:Option Value).isNone=true from rfl)]
 refine zdY (wpAny_rule ?_)
 have pl1:PlainL h1 src items:=⟨ol,nl,k1 _ _ (hp0 _ _ ho),hc,hd,hdat⟩
 have hlt:src < h1.objs.size:=tK (k1 _ _ (hp0 _ _ ho))
 have hnew1:h1.DictOf knd s.heap.objs.size []:=hnew.keepsAt λo e=>k1 _ o e
 have hld:s.heap.objs.size < h1.objs.size:=by
  obtain⟨o,_,_,e,_⟩:=hnew1
  exact tK e
 refine zdY (wpAny_pyIter_list pl1.isList ?_)
 refine zdZ ⟨plainId_quiet F.plain_dupd_loop _,?_⟩
 have W:=Walks.list (prog:=prog) (w:=w) (A:=A.in1.in1) hA h1.objs.size src (tQ hlt) items
 have nsrc:s.heap.objs.size≠src:=Ne.symm (tQ (tK ho))
 refine zC (A:=A.in1) W kv s.heap.objs.size (by simp only[tS,zbs,or_false,not_or];exact⟨tQ hld,nsrc⟩) hn items.size 0 _ _ [] (by omega) (zaw _)
  ⟨⟨_,tV _ rfl,rfl,rfl⟩,pl1.isList.at λo e=>tu _ e⟩ (hnew1.push _) (zaw _) (λj v hj=>?_) λh2 tk2 d2 k2=>⟨rfl,h h2 tk2 d2 λb o e=>?_⟩
 ·obtain⟨p,o,c,key,e1,e2,e3,e4,e5⟩:=hp j v hj
  have e2':=k1 _ _ (hp0 _ _ e2)
  refine⟨p,o,c,key,e1,tu _ e2',e3,e4,e5,?_,tQ (tK e2)⟩
  simp only[tS,zbs,or_false]
  exact tQ (tK e2')
 ·have e':=k1 _ _ (hp0 _ _ e)
  refine k2 b o ?_ (tQ (tK e)) (tu _ e')
  simp only[tS,zbs,or_false]
  exact tQ (tK e')
end
end PySem
namespace L2
open PySem PySem.Spec PyProof.Rows
section
variable{X:Cx}{pins:List (Addr×Obj)}{σ:St}{H:Hp}{s:Shared}
def wI(K:zdW):List V->Hp->VK->Prop:=λxs H Q=>∃(p:Addr) (ps:List Addr) (kvs:List (qN×V)),xs=[.ref p]/\SqL K H p (ps.map V.ref)/\ps.length=kvs.length/\(∀(i:Nat) (a:Addr) (kv:qN×V),ps[i]?=some a->kvs[i]?=some kv->Y5 K H a [kV kv.1,kv.2])/\kvs.length<=1000/\
 ∀d,H d=none->Q (.ref d) (upd H d (.dK (QQ [] kvs)))
theorem Xx(I:qz X pins σ H s):∀(ps:List Addr) (kvs:List (qN×V)),ps.length=kvs.length->(∀(i:Nat) (a:Addr) (kv:qN×V),ps[i]?=some a->kvs[i]?=some kv->Y5 X.K H a [kV kv.1,kv.2])->
  ∃rs:List (qN×Value),KV kvs rs/\rs.length=ps.length/\∀(i:Nat) (a:Addr),ps[i]?=some a->∃kv o c key,rs[i]?=some kv/\s.heap.get? a=some o/\o.cls=.type "tuple"/\o.data=.seq #[key,kv.2] c/\(jm X.prog X.w).is kv.1 key=true
 | [],[],_,_=>⟨[],.nil,rfl,λi a e=>by simp at e⟩
 | [],_::_,h,_=>by cases h
 | _::_,[],h,_=>by cases h
 | a::ps,kv::kvs,h,k=>by
  obtain⟨rs,r1,r2,r3⟩:=Xx I ps kvs (zcP.inj h) λi a' kv' e1 e2=>k (i+1) a' kv' (by simpa using e1) (by simpa using e2)
  obtain⟨its,rv,⟨o,e,c1,n1,d1⟩,_⟩:=I.tuple (k 0 a kv rfl rfl)
  cases rv with
  | cons ra rt=>
   cases rt with
   | cons rb rn=>
    cases rn
    rename_i u1 u2
    refine⟨(kv.1,u2)::rs,.cons ⟨rfl,rb⟩ r1,by simp [r2],λi a' e'=>?_⟩
    cases i with
    | zero=>
     cases e'
     exact⟨_,o,n1,u1,rfl,e,c1,d1,XL ra⟩
    | succ i=>exact r3 i a' (by simpa using e')
theorem X0(hc:X.calm=true):QN X (.type "dict") (wI X.K):=by
 intro pins s σ H xs us Q I r h
 obtain⟨p,ps,kvs,rfl,hl,le,hps,hz,q⟩:=h
 obtain⟨u,rfl,ru⟩:=Js r
 cases ru
 obtain⟨its,rv,pl,_⟩:=I.list hl
 obtain rfl:=Wf rv
 obtain⟨rs,r1,r2,r3⟩:=Xx I ps kvs le hps
 have hsz:(ps.map Value.ref).toArray.size=rs.length:=by simp [r2]
 have hR:(zab (ps.map Value.ref).toArray.size).map (λj=>(rs[j]?).getD (Sum.inl 0,Value.none))=rs:=by
  rw[hsz]
  refine zda λi=>?_
  rw[tG]
  by_cases hi:i < rs.length
  ·rw[zbC hi,tE hi]
   simp [hi]
  ·rw[zbh (by rw[zam];omega),zbh (by omega)]
   rfl
 refine YA (knd:=jm X.prog X.w) (kv:=λj=>(rs[j]?).getD (Sum.inl 0,Value.none)) pl (λj v hj=>?_) (by rw[hsz,r2,le];exact hz) (I.ok.hd hc) λh' tk dd kp=>?_
 ·have hj':(ps.map Value.ref)[j]?=some v:=by simpa using hj
  rw[tG]at hj'
  cases e:ps[j]? with
  | none=>rw[e]at hj';cases hj'
  | some a=>
   rw[e]at hj'
   obtain⟨kv,o,c,key,f1,f2,f3,f4,f5⟩:=r3 j a e
   refine⟨a,o,c,key,(tO.inj hj').symm,f2,f3,?_,?_⟩
   ·show o.data=.seq #[key,((rs[j]?).getD (Sum.inl 0,Value.none)).2] c
    rw[f1]
    exact f4
   ·show (jm X.prog X.w).is ((rs[j]?).getD (Sum.inl 0,Value.none)).1 key=true
    rw[f1]
    exact f5
 ·rw[hR]at dd
  have hn:=I.hok.fresh (tz s.heap.objs.size)
  have big:(s.heap.objs.size==sysModules)=false:=beq_eq_false_iff_ne.mpr (Ne.symm (tQ I.big))
  have hlen:(QQ [] kvs).length<=zeb:=by
   have:=Jo kvs []
   rw[zdn]at this
   rw[sizeLine_eq]
   omega
  exact⟨.ref s.heap.objs.size,_,I.laid (a:=s.heap.objs.size) (o:=.dK (QQ [] kvs)) (h':=h') (t':=tk) kp (tz _) (vD hlen big (r1.merge .nil) dd),rfl,q _ hn⟩
end
open PySem PySem.Spec PySem.W PyProof.Rows
theorem uA{α:Type}{l:List α}(nd:l.Nodup){i j:Nat}{hi:i < l.length}{hj:j < l.length}(e:l[i]=l[j]):i=j:=by
 have h:=zaL.mp nd
 rcases zaJ i j with c | c | c
 ·exact absurd e (h i j hi hj c)
 ·exact c
 ·exact absurd e.symm (h j i hj hi c)
section
variable{α β:Type}{lt:Nat->Nat->Bool}{n:Nat}
def evT(lt:Nat->Nat->Bool):KasT α->α
 | .ret a=>a
 | .ask i j k=>evT lt (k (lt i j))
end
def ltS(zs:List Str)(i j:Nat):Bool:=decide ((zs.getD i "").cps.toList < (zs.getD j "").cps.toList)
def srt(zs:List Str):List Nat:=if zs.length < 2 then zab zs.length else (evT (ltS zs) (kas_sort zs.length)).toList
section
variable{P:Program}{w:World}{B:Around}{F:Value->Shared->Prop}{z:Shared}
end
section
variable{X:Cx}{o:Expr}{td:TE}{p1 p2 pos1 pos2 ap cp:Pos}
end
section
variable{X:Cx}
def qaY(K:zdW):R2:=λx y H Q=>∃a b xs ys,x=.ref a/\y=.ref b/\SqL K H a xs/\SqL K H b ys/\xs.length+ys.length<=zeb/\∀l,H l=none->Q (.ref l) (upd H l (.lst (xs++ys)))
theorem Paired.app{α β:Type}{G:α->β->Prop}:∀{l m:List α} {l' m':List β},Paired G l l'->Paired G m m'->Paired G (l++m) (l'++m')
 | _,_,_,_,.nil,h=>h
 | _,_,_,_,.cons a r,h=>.cons a (Paired.app r h)
theorem Vd:Zf X (binaryOp .Add) (qaY X.K):=by
 intro pins s σ H x y v u Q I rx ry h
 obtain⟨a,b,xs,ys,rfl,rfl,ha,hb,hz,q⟩:=h
 cases rx
 cases ry
 obtain⟨its,rv,pl,_⟩:=I.list ha
 obtain⟨its2,rv2,pl2,_⟩:=I.list hb
 have l1:=rv.length
 have l2:=rv2.length
 obtain⟨⟨cls,dd,data,sl⟩,ho,hc,n,hd⟩:=id pl.isList
 obtain⟨⟨cls2,dd2,data2,sl2⟩,ho2,hc2,n2,hd2⟩:=id pl2.isList
 simp only at hc hd hc2 hd2
 subst hc hd hc2 hd2
 have e:its.toArray++its2.toArray=(its++its2).toArray:=by simp
 refine concat_meets ⟨_,ho,rfl⟩ ⟨_,ho2,rfl⟩ noFill_list_add seq_list_add PySem.F.slot_list_add PySem.F.entry_list_add (PySem.F.args_list_add_2 _ _) (list_addW a b its.toArray its2.toArray n n2 dd dd2 sl sl2 (by simp only[tZ];omega)) ⟨ho,ho2,?_⟩
 rw[e]
 exact⟨.ref s.heap.objs.size,_,I.laid (t':=s.toks) (o:=.lst (xs++ys)) (λb u h=>tu _ h) (tz _) ⟨by rw[tH];exact hz,its++its2,_,Paired.app rv rv2,tV _ rfl⟩,rfl,q _ (I.hok.fresh (tz _))⟩
end
open PySem PySem.Spec PySem.W PyProof.Rows
section
variable{X:Cx}
def qaT(K:zdW):R2:=λx y H Q=>∃(a b:Addr) (xs:List V),x=.ref a/\y=.ref b/\SqL K H a xs/\SqL K H b []/\Q (.bl (!xs.isEmpty)) H
theorem YT(hu:X.A.units < cLine):Zf X (compareOp .NotEq) (qaT X.K):=by
 intro pins s σ H x y v u Q I rx ry h
 obtain⟨a,b,xs,rfl,rfl,ha,hb,q⟩:=h
 cases rx
 cases ry
 obtain⟨its,rv,pl,_⟩:=I.list ha
 obtain⟨its2,rv2,pl2,_⟩:=I.list hb
 have l2:its2=[]:=zaC rv2.length.symm
 subst l2
 cases xs with
 | nil=>
  have l1:its=[]:=zaC rv.length.symm
  subst l1
  exact EqBoolInt.of_rcne (SeqAt.RcNeAt.lists (e:=λ_=>true) pl.isList pl2.isList rfl hu λj h1 h2=>absurd h1 (zcm j)) ⟨.bl _,H,I,rfl,q⟩
 | cons x xs=>
  cases its with
  | nil=>cases rv
  | cons u' us'=>exact EqBoolInt.of_rcne (SeqAt.RcNeAt.lists_lengths pl.isList pl2.isList (by simp) hu) ⟨.bl true,H,I,rfl,q⟩
end
open PySem PySem.Spec PySem.W PyProof.Rows
section
variable{P:Program}{w:World}{B:Around}{F:Value->Shared->Prop}{z:Shared}
end
section
variable{X:Cx}
end
open PySem PySem.Spec PySem.W PyProof.Rows
section
variable{prog:Program}{w:World}{A:Around}{R:Result->Shared->Prop}{I:Addr}{fp wr:List Addr}{G:Array GenState->Array GenState->Prop}{n:Nat}{P:Nat->Value->Prop}{St:Nat->Shared->Prop}
end
section
variable{prog:Program}{w:World}{A:Around}{E:Value->Shared->Prop}{s:Shared}
end
section
variable{X:Cx}{e:Expr}{te:TE}{p1 p2 pos1 pos2:Pos}
end
open PySem PyProof.Rows
theorem Q8{α:Type}{K:zdW}{a D:Addr}{xs:List α}{enc:α->V}{out:α->Option V}{rest:St}{H:Hp}{tt:TT}{te:TE}{Q:Hp->Prop}(hD:H D=none)(ha:H a=some (.lst (xs.map enc)))(len:xs.length < zeb)
  (ht:∀x∈xs,∀G,Same H G->∀R:Bool->Hp->Prop,(∀G',Same G G'->R (out x).isSome G')->tt (some (enc x)::rest) G R)
  (he:∀x∈xs,∀v,out x=some v->∀G,Same H G->∀R:V->Hp->Prop,(∀G',Same G G'->R v G')->te (some (enc x)::rest) G R)
  (k:∀G,Same H G->G D=some (.lst (xs.filterMap out))->Q G):X8 (Itl K a) (Jk 0) tt te D (none::rest) H Q:=by
 have sD:Same H (upd H D (.lst [])):=λb o h=>by
  rw[qi (λe=>by rw[e,hD]at h;cases h)]
  exact h
 refine j2 (K:=K) (a:=a) (xs:=xs.map enc) (λi σ' G=>(∃v0,σ'=v0::rest)/\Same H G/\G D=some (.lst ((xs.take i).filterMap out))) ⟨⟨none,rfl⟩,sD,qe⟩ (λi σ' G _ ⟨_,s,_⟩=>.of (s _ _ ha)) ?_ ?_
 ·rintro i y σ' G hy ⟨⟨v0,rfl⟩,s,hG⟩
  rw[tG]at hy
  cases ex:xs[i]? with
  | none=>rw[ex]at hy;cases hy
  | some x=>
   rw[ex]at hy
   obtain rfl:=(tO.inj hy).symm
   have hx:x∈xs:=t9 ex
   have et:(xs.take (i+1)).filterMap out=(xs.take i).filterMap out++(out x).toList:=by
    rw[tP,ex,zap]
    cases c:out x<;>simp [c]
   show tt (some (enc x)::rest) G _
   refine ht x hx G s _ λG1 s1=>?_
   cases c:out x with
   | none=>
    show if false=true then _ else _
    rw[if_neg tN]
    refine⟨⟨_,rfl⟩,λb o h=>s1 _ _ (s _ _ h),?_⟩
    rw[et,c]
    simpa using s1 _ _ hG
   | some v=>
    show if true=true then _ else _
    rw[if_pos rfl]
    refine he x hx v c G1 (λb o h=>s1 _ _ (s _ _ h)) _ λG2 s2=>?_
    refine⟨_,s2 _ _ (s1 _ _ hG),?_,⟨_,rfl⟩,?_,?_⟩
    ·refine zaM (zaR _ _) ?_
     rw[tW]
     omega
    ·intro b o h
     rw[qi (λe=>by rw[e,hD]at h;cases h)]
     exact s2 _ _ (s1 _ _ (s _ _ h))
    ·rw[et,c]
     exact qe
 ·rintro σ' G ⟨_,s,hG⟩
  rw[tj,tF (tz _)]at hG
  exact k G s hG
theorem R5{α:Type}{K:zdW}{a D:Addr}{xs:List α}{enc:α->V}{out:α->Option V}{rest:St}{H:Hp}{tt:TT}{te:TE}{Q:Hp->Prop}(hD:H D=none)(ha:H a=some (.tup (xs.map enc)))(len:xs.length < zeb)
  (ht:∀x∈xs,∀G,Same H G->∀R:Bool->Hp->Prop,(∀G',Same G G'->R (out x).isSome G')->tt (some (enc x)::rest) G R)
  (he:∀x∈xs,∀v,out x=some v->∀G,Same H G->∀R:V->Hp->Prop,(∀G',Same G G'->R v G')->te (some (enc x)::rest) G R)
  (k:∀G,Same H G->G D=some (.lst (xs.filterMap out))->Q G):X8 (Itt K a) (Jk 0) tt te D (none::rest) H Q:=by
 have sD:Same H (upd H D (.lst [])):=λb o h=>by
  rw[qi (λe=>by rw[e,hD]at h;cases h)]
  exact h
 refine yf (K:=K) (a:=a) (xs:=xs.map enc) (λi σ' G=>(∃v0,σ'=v0::rest)/\Same H G/\G D=some (.lst ((xs.take i).filterMap out))) ⟨⟨none,rfl⟩,sD,qe⟩ (λi σ' G _ ⟨_,s,_⟩=>.of (s _ _ ha)) ?_ ?_
 ·rintro i y σ' G hy ⟨⟨v0,rfl⟩,s,hG⟩
  rw[tG]at hy
  cases ex:xs[i]? with
  | none=>rw[ex]at hy;cases hy
  | some x=>
   rw[ex]at hy
   obtain rfl:=(tO.inj hy).symm
   have hx:x∈xs:=t9 ex
   have et:(xs.take (i+1)).filterMap out=(xs.take i).filterMap out++(out x).toList:=by
    rw[tP,ex,zap]
    cases c:out x<;>simp [c]
   show tt (some (enc x)::rest) G _
   refine ht x hx G s _ λG1 s1=>?_
   cases c:out x with
   | none=>
    show if false=true then _ else _
    rw[if_neg tN]
    refine⟨⟨_,rfl⟩,λb o h=>s1 _ _ (s _ _ h),?_⟩
    rw[et,c]
    simpa using s1 _ _ hG
   | some v=>
    show if true=true then _ else _
    rw[if_pos rfl]
    refine he x hx v c G1 (λb o h=>s1 _ _ (s _ _ h)) _ λG2 s2=>?_
    refine⟨_,s2 _ _ (s1 _ _ hG),?_,⟨_,rfl⟩,?_,?_⟩
    ·refine zaM (zaR _ _) ?_
     rw[tW]
     omega
    ·intro b o h
     rw[qi (λe=>by rw[e,hD]at h;cases h)]
     exact s2 _ _ (s1 _ _ (s _ _ h))
    ·rw[et,c]
     exact qe
 ·rintro σ' G ⟨_,s,hG⟩
  rw[tj,tF (tz _)]at hG
  exact k G s hG
theorem R6{n:Nat}{D:Addr}{out:Nat->Option V}{rest:St}{H:Hp}{tt:TT}{te:TE}{Q:Hp->Prop}(hD:H D=none)(len:n < zeb)
  (ht:∀x,x < n->∀G,Same H G->∀R:Bool->Hp->Prop,(∀G',Same G G'->R (out x).isSome G')->tt (some (.int (x:Int))::rest) G R)
  (he:∀x,x < n->∀v,out x=some v->∀G,Same H G->∀R:V->Hp->Prop,(∀G',Same G G'->R v G')->te (some (.int (x:Int))::rest) G R)
  (k:∀G,Same H G->G D=some (.lst ((zab n).filterMap out))->Q G):X8 (NO 0 n) (Jk 0) tt te D (none::rest) H Q:=by
 have sD:Same H (upd H D (.lst [])):=λb o h=>by
  rw[qi (λe=>by rw[e,hD]at h;cases h)]
  exact h
 refine JL (λi σ' G=>(∃v0,σ'=v0::rest)/\Same H G/\G D=some (.lst ((zab i).filterMap out))) ⟨⟨none,rfl⟩,sD,qe⟩ ?_ ?_
 ·rintro i σ' G hi ⟨⟨v0,rfl⟩,s,hG⟩
  rw[zbJ]
  have et:(zab (i+1)).filterMap out=(zab i).filterMap out++(out i).toList:=by
   rw[zcn,zap]
   cases c:out i<;>simp [c]
  show tt (some (.int (i:Int))::rest) G _
  refine ht i hi G s _ λG1 s1=>?_
  cases c:out i with
  | none=>
   show if false=true then _ else _
   rw[if_neg tN]
   refine⟨⟨_,rfl⟩,λb o h=>s1 _ _ (s _ _ h),?_⟩
   rw[et,c]
   simpa using s1 _ _ hG
  | some v=>
   show if true=true then _ else _
   rw[if_pos rfl]
   refine he i hi v c G1 (λb o h=>s1 _ _ (s _ _ h)) _ λG2 s2=>?_
   refine⟨_,s2 _ _ (s1 _ _ hG),?_,⟨_,rfl⟩,?_,?_⟩
   ·refine zaM (zaR _ _) ?_
    rw[zam]
    omega
   ·intro b o h
    rw[qi (λe=>by rw[e,hD]at h;cases h)]
    exact s2 _ _ (s1 _ _ (s _ _ h))
   ·rw[et,c]
    exact qe
 ·rintro σ' G ⟨_,s,hG⟩
  exact k G s hG
open PySem PyProof.Rows
section
variable{prog:Program}{w:World}{KK:Type}[DecidableEq KK]{kd:HeapKind prog w KK}{A:Around}{E:Value->Shared->Prop}{s:Shared}
end
section
variable{X:Cx}{pins:List (Addr×Obj)}{σ:St}{H:Hp}{s:Shared}{a b:Addr}{v:V}{r:Value}{A:Around}{E:Value->Shared->Prop}
end
section
variable{X:Cx}{o e f:Expr}{apos cpos:Pos}{td ty tx:TE}
end
open PySem PyProof.Rows
section
variable{X:Cx}
def qaX:R2:=λx y H Q=>∃a b xs ys,x=.ref a/\y=.ref b/\H a=some (.tup xs)/\H b=some (.tup ys)/\xs.length+ys.length<=zeb/\∀r H',Same H H'->H' r=some (.tup (xs++ys))->Q (.ref r) H'
theorem GD:Zf X (binaryOp .Add) qaX:=by
 intro pins s σ H x y v u Q I rx ry h
 obtain⟨a,b,xs,ys,rfl,rfl,ha,hb,hz,q⟩:=h
 cases rx
 cases ry
 have sq:∀{c:Addr} {zs:List V},H c=some (.tup zs)->Y5 X.K H c zs:=λh=>.of h
 obtain⟨its,r1,p1,_⟩:=I.tuple (sq ha)
 obtain⟨its2,r2,p2,_⟩:=I.tuple (sq hb)
 have sm:Same H H:=λ_ _ h=>h
 by_cases hx:xs=[]
 ·subst hx
  cases r1
  obtain⟨⟨c1,d1,e1,f1⟩,o1,k1,n1,g1⟩:=id p1
  obtain⟨⟨c2,d2,e2,f2⟩,o2,k2,n2,g2⟩:=id p2
  simp only at k1 g1 k2 g2
  subst k1 g1 k2 g2
  exact concat_meets ⟨_,o1,rfl⟩ ⟨_,o2,rfl⟩ noFill_tuple_add seq_tuple_add zcs zco (zcd _ _) (tuple_addW0 a b _ _ n1 n2 d1 d2 f1 f2 rfl) ⟨o1,o2,.ref b,H,I,rfl,q b H sm hb⟩
 ·refine HT.cat_tup p1 p2 (λz=>hx (r1.nil_iff.mp z)) (λz=>⟨.ref a,H,I,rfl,q a H sm ?_⟩) (λz=>?_) (by rw[<-r1.length,<-r2.length];exact hz)
  ·rw[r2.nil_iff.mp z,zan]
   exact ha
  ·have fr:=I.hok.fresh (tz s.heap.objs.size)
   refine⟨.ref s.heap.objs.size,_,I.laid (t':=s.toks) (o:=.tup (xs++ys)) (λc ob e=>tu _ e) (tz _) ⟨by rw[tH];exact hz,_,r1.append r2,IsTup.new _ _⟩,rfl,q _ _ (λc o e=>?_) qe⟩
   rw[qi (λw=>by rw[w,fr]at e;cases e)]
   exact e
end
section
variable{X:Cx}{pins:List (Addr×Obj)}{σ:St}{H:Hp}{s:Shared}{tg:Expr}
def Kf(o:Obj):Nat:=match o.data with
 | .dict _ ep=>ep
 | _=>0
theorem qz.freeze{a:Addr}{kvs:List (qN×V)}(I:qz X pins σ H s)(e:H a=some (.dK kvs)):∃o,qz X pins σ (upd H a (.frz o (.dK kvs))) s:=by
 obtain⟨z,hd,vs,rel,o,es,ep,ho,r⟩:=(show qK X.prog X.w H s.heap a (.dK kvs) from I.hok a _ e)
 have mu:Mut (H a):=by rw[e];exact True.intro
 have un:Un X.fs [] H (upd H a (.frz o (.dK kvs))) s.heap s.heap:=Un.write mu (.inl rfl) (λb u _ q=>q) ⟨o,ho⟩
 have ok:JN X.prog X.w (upd H a (.frz o (.dK kvs))) s.heap:=I.hok.write mu (.inl rfl) (λb u _ q=>q) ⟨o,ho⟩ ⟨ho,z,hd,vs,rel,o,es,ep,ho,r⟩
 exact⟨o,I.un (t':=s.toks) un ok⟩
def qb1(te:TE):TE:=λσ H Q=>te σ H λx H1=>∃a kvs,x=.ref a/\H1 a=some (.dK kvs)/\∀o,Q x (upd H1 a (.frz o (.dK kvs)))
theorem MS{e:Expr}{te:TE}(h:JE X e te):JE X e (qb1 te):=.of (by
 have h:=h.to
 intro pins s σ H Q I hw
 refine jf (h pins s σ H _ I hw) λv s1 ⟨x,H1,I1,r1,a,kvs,ex,ea,q⟩=>?_
 obtain⟨o,I2⟩:=I1.freeze ea
 exact⟨x,_,I2,r1,q o⟩)
def Itk(a:Addr)(o:Obj)(kvs:List (qN×V))(zs:List Str):It:=
 ⟨λi H=>H a=some (.frz o (.dK kvs))/\i < zs.length,λi H x H'=>H'=H/\∃z,zs[i]?=some z/\x=.str z,λi H=>H a=some (.frz o (.dK kvs))/\i=zs.length⟩
theorem vB{P:Program}{w:World}{h:Heap}{a:Addr}{o:Obj}{kvs:List (qN×V)}(ok:JN P w H h)(e:H a=some (.frz o (.dK kvs))):(a==sysModules)=false/\∃vs,KV kvs vs/\h.DictAt (jm P w) a vs (Kf o):=by
 obtain⟨ho,z,hd,vs,rel,o',es,ep,ho',ex,dat,r⟩:=(show qK P w H h a (.frz o (.dK kvs)) from ok a _ e)
 rw[ho]at ho'
 cases ho'
 refine⟨hd,vs,rel,o,es,ho,ex,?_,r⟩
 unfold Kf
 rw[dat]
theorem Rx{P:Program}{w:World}{kvs:List (qN×V)}{vs:List (qN×Value)}{zs:List Str}(rel:KV kvs vs)(ek:kvs.map (·.1)=zs.map Sum.inr){i:Nat}{z:Str}{k:qN}{y v:Value}(ez:zs[i]?=some z)(f1:vs[i]?=some (k,y))(f2:(jm P w).is k v=true):qO (.str z) v:=by
 have hi:i < kvs.length:=by
  have h1:=(tw.mp ez).1
  have h2:kvs.length=zs.length:=by simpa using congrArg zax ek
  omega
 obtain⟨q',g1,g2,_⟩:=Z1 rel (tE hi)
 rw[f1]at g1
 cases g1
 have h1:(kvs.map (·.1))[i]?=some kvs[i].1:=by rw[tG,tE hi];rfl
 rw[ek,tG,ez]at h1
 have e3:k=Sum.inr z:=g2.symm.trans (tO.inj h1).symm
 subst e3
 rcases js (show XJ (Sum.inr z) v=true from f2) with ⟨_,_,c,_⟩ | ⟨w',t,c,rfl⟩
 ·cases c
 ·cases c
  exact⟨t,rfl⟩
theorem yu{P:Program}{w:World}{K:zdW}(a it:Addr)(o:Obj)(kvs:List (qN×V))(zs:List Str)(ek:kvs.map (·.1)=zs.map Sum.inr):UI P w K tg (Itk a o kvs zs) [it] it (λi h=>h.IsKeyIter it a i zs.length (Kf o)) where
 mem:=by simp
 obj:=λi h st b hb=>by
  have e:b=it:=by simpa using hb
  subst e
  obtain⟨o,e,c,d⟩:=st
  exact⟨o,e,λv z=>by rw[d]at z;cases z⟩
 keep:=λi h h' st k=>let ⟨o,e,r⟩:=st;⟨o,k it (by simp) o e,r⟩
 item:=by
  intro X hP hw hK hc i pins s σ H E I hf st hg
  subst hP hw hK
  obtain⟨f0,f1,f2,f3,f4,f5⟩:=hf it (by simp)
  obtain⟨ea,hi⟩:=hg
  obtain⟨_,vs,rel,dat⟩:=vB I.hok ea
  have lv:vs.length=zs.length:=by
   have h1:kvs.length=zs.length:=by simpa using congrArg zax ek
   rw[<-Paired.length rel,h1]
  have ne:a≠it:=λe=>by rw[e,f0]at ea;cases ea
  rw[<-lv]at st
  refine(Walks.dictKeys (I.ok.hd hc) it a ne vs (Kf o)).item i s _ _ (by omega) ⟨st,dat⟩ λv h' tk hv st' kk=>?_
  have I1:qz X pins σ H {s with heap:=h',toks:=tk}:=I.turned (λb o hb e=>kk b o (by simpa using hb) e) f0 f1 f3 f4 f5
  obtain⟨k,y,g1,g2⟩:=hv
  obtain⟨o2,e2,c2,d2⟩:=id st'.1
  refine⟨_,rfl,Us (s:={s with heap:=h',toks:=tk}) e2 c2 d2 (by decide) ⟨.str zs[i],H,I1,Rx rel ek (tE hi) g1 g2,⟨rfl,_,tE hi,rfl⟩,?_,λb hb=>(hf b hb).1⟩⟩
  rw[<-lv]
  exact st'.1
 done:=by
  intro X hP hw hK hc i pins s σ H E I hf st hg
  subst hP hw hK
  obtain⟨f0,f1,f2,f3,f4,f5⟩:=hf it (by simp)
  obtain⟨ea,hi⟩:=hg
  obtain⟨_,vs,rel,dat⟩:=vB I.hok ea
  have lv:vs.length=zs.length:=by
   have h1:kvs.length=zs.length:=by simpa using congrArg zax ek
   rw[<-Paired.length rel,h1]
  have ne:a≠it:=λe=>by rw[e,f0]at ea;cases ea
  subst hi
  rw[<-lv]at st
  exact(Walks.dictKeys (I.ok.hd hc) it a ne vs (Kf o)).done s _ _ ⟨st,dat⟩ λh' tk kk=>⟨rfl,I.turned (λb o hb e=>kk b o (by simpa using hb) e) f0 f1 f3 f4 f5⟩
 self:=λ_ _ _ _ _ st h=>wpAny_pyIter_keyiter st h
def qcH(tl:TE):TI:=λσ H R=>tl σ H λx H1=>∃a o kvs zs,x=.ref a/\H1 a=some (.frz o (.dK kvs))/\kvs.map (·.1)=zs.map Sum.inr/\R (Itk a o kvs zs) H1
theorem MO{l:Expr}{tl:TE}(hl:JE X l tl):JI X tg l (qcH tl):=.of (by
 have hl:=hl.to
 intro pins s σ H R I h
 refine jf (hl pins s σ H _ I h) λv s1 ⟨x,H1,I1,r1,q1⟩=>?_
 obtain⟨a,o,kvs,zs,e,ea,ek,q⟩:=q1
 subst e
 cases r1
 obtain⟨hd,vs,rel,dat⟩:=vB I1.hok ea
 have lv:vs.length=zs.length:=by
  have h1:kvs.length=zs.length:=by simpa using congrArg zax ek
  rw[<-Paired.length rel,h1]
 refine wpAny_pyIter_dict hd dat ?_
 refine⟨s1.heap.objs.size,[s1.heap.objs.size],_,_,H1,rfl,I1.kept (t':=s1.toks) λb o e=>tu _ e,yu a _ o kvs zs ek,?_,λb hb=>?_,q⟩
 ·rw[<-lv]
  exact⟨_,tV _ rfl,rfl,rfl⟩
 ·have e:b=s1.heap.objs.size:=by simpa using hb
  subst e
  exact I1.fpOk (tz _) (I1.hok.fresh (tz _)))
end
section
variable{a:Addr}{o:Obj}{kvs:List (qN×V)}{zs:List Str}{g:TG}{σ:St}{H:Hp}
theorem RQ{tb:TS}{D:Ja}(Pv:Nat->St->Hp->Prop)(h0:Pv 0 σ H)(hl:∀i σ H,i<=zs.length->Pv i σ H->H a=some (.frz o (.dK kvs)))
  (hs:∀i z σ H,zs[i]?=some z->Pv i σ H->g (.str z) σ H λσ2 H2=>tb {D with nx:=Pv (i+1),ct:=Pv (i+1),bk:=D.nx} σ2 H2) (hd:∀σ H,Pv zs.length σ H->D.nx σ H):
  ∃W:Nat->Nat->St->Hp->Prop,(∃m,W 0 m σ H)/\∀i m σ H,W i m σ H->
   ((Itk a o kvs zs).stop i H/\D.nx σ H)\/((Itk a o kvs zs).go i H/\∃N:St->Hp->Prop,(∀σ' H',N σ' H'->∃m',m' < m/\W (i+1) m' σ' H')/\∀x H',(Itk a o kvs zs).yld i H x H'->g x σ H' λσ2 H2=>tb {D with nx:=N,ct:=N,bk:=D.nx} σ2 H2):=by
 refine⟨λi m σ H=>m=zs.length - i/\i<=zs.length/\Pv i σ H,⟨zs.length,by simp,zaw _,h0⟩,?_⟩
 rintro i m σ H ⟨rfl,hi,p⟩
 have q:=hl i σ H hi p
 by_cases hlt:i < zs.length
 ·refine .inr ⟨⟨q,hlt⟩,Pv (i+1),λσ' H' p'=>⟨zs.length - (i+1),by omega,rfl,hlt,p'⟩,λx H' y=>?_⟩
  obtain⟨e,z,ez,rfl⟩:=y
  subst e
  exact hs i z σ _ ez p
 ·have e:i=zs.length:=by omega
  subst e
  exact .inl ⟨⟨q,rfl⟩,hd σ H p⟩
end
section
variable{P:Program}{w:World}{K:zdW}{mg:Str->Option Value}{base:Heap}
theorem jK.okX{CX:Y6}{x qual:Str}{st:Stmt}{f:Addr}{fd:zea}{N ps:List Str}{k:Nat}{sp:Sp}(F:jK K x qual st f fd)(S:qt N ps (qj st))(len:∀vs H Q E,sp vs H Q E->vs.length=ps.length)
  (hbody:∀(cdv:Value) (A:Around) (outer:List Env) (s:Shared) (H:Hp) (vs:List V) (Q:VK) (E:XK),qU k (A.deeper (envOfC qual (qj st) s.heap.objs.size f cdv))->sp vs H Q E->
   ∃t,WR (Zd CX P w K mg base N qual (qj st) f cdv A outer s H E) (jO st) t/\t {nx:=λ_ H'=>Q .non H',rt:=Q} (Qd N vs) H):qo P w K mg base CX (k+1) f fd ps sp:=by
 obtain⟨oc,od,kV,doc,pm,an,cdv,ct,osl,rfl,lk,hcd⟩:=F.ex
 refine NI lk hcd S len λA outer s H vs Q E hr hsp=>?_
 obtain⟨t,h,q⟩:=hbody cdv A outer s H vs Q E hr hsp
 exact⟨t,h.to,q⟩
end
section
variable{X:Cx}{es:List Expr}{t:TA}{pos:Pos}
end
section
variable{X:Cx}
end
section
variable{X:Cx}{pins pins0:List (Addr×Obj)}{σ σ0:St}{H H0:Hp}{s s0:Shared}
end
section
variable{X:Cx}
end
open PySem PyProof.Rows
end L2
namespace HT
open PySem PySem.Spec PyProof.Rows
section
variable{prog:Program}{w:World}{A:Around}{E:Value->Shared->Prop}{s:Shared}
end
end HT
namespace L2
open PySem PySem.Spec PyProof.Rows
section
variable{X:Cx}
end
open PySem PyProof.Rows
section
variable{X:Cx}{CX:Y6}{C:Addr->Sp->Prop}{E:St->XK}{x:Str}{p pos:Pos}{e:Expr}{es:List Expr}{t:TA}{i:Nat}
end
section
variable{M:Model}{A:Around}{F:Value->Shared->Prop}{s:Shared}{e:Addr}{cl:Value}{d:Option Addr}{vs:Array Value}{Q:Unit->Shared->Prop}
end
section
variable{X:Cx}{pins:List (Addr×Obj)}{σ:St}{H:Hp}{s:Shared}{M:Model}{F:Value->Shared->Prop}{Q:Unit->Shared->Prop}{a C dx:Addr}
end
section
variable{P:Program}{w:World}{K:zdW}{mg:Str->Option Value}{base:Heap}{N:List Str}{qual:Str}{scope:Scope}{f:Addr}{cd:Value}{A:Around}{outer:List Env}{s₀:Shared}{H₀:Hp}{E:XK}
end
section
variable{X:Cx}
end
def qbw:Obj:={cls:=.type "cell",data:=.cell none}
structure OwnC(n:Nat)(l:List (Str×NameKind))(cs cs':List (Str×Addr))(h h':Heap):Prop where
 kp:∀b o,h.get? b=some o->h'.get? b=some o
 same:∀x,(x,NameKind.cell)∉l->cs'.lookup x=cs.lookup x
 own:∀x,(x,NameKind.cell)∈l->∃c,cs'.lookup x=some c/\n<=c/\h'.get? c=some qbw
 inj:∀x y c,(x,NameKind.cell)∈l->(y,NameKind.cell)∈l->cs'.lookup x=some c->cs'.lookup y=some c->x=y
structure qcS(X:Cx)(N':List Str)(ix:List (Option Nat))(scope:Scope):Prop where
 kind:scope.kind=.function
 nd:(scope.names.map (·.1)).Nodup
 frees:(scope.names.all λx=>x.2 != .free || (X.env.scope.names.lookup x.1==some .cell || X.env.scope.names.lookup x.1==some .free))=true
 ixs:RH N' X.N scope X.env.scope ix=true
section
variable{X:Cx}{N':List Str}{ix:List (Option Nat)}{scope:Scope}{pins:List (Addr×Obj)}{σ:St}{H:Hp}{s:Shared}
end
section
variable{X:Cx}{N':List Str}{ix:List (Option Nat)}{scope:Scope}
end
section
variable{X:Cx}{CX:Y6}{k:Nat}{f C:Addr}{fd:zea}{ps:List Str}{sp:Sp}{dvs:List V}{ds:List Value}{E:St->XK}{m:Str}{pos apos:Pos}{e o:Expr}{es:List Expr}{ta:TE}{t:TA}
end
section
variable{X:Cx}
end
open PySem PySem.Spec PyProof.Rows PySem.W
section
variable{X:Cx}
end
section
variable{P:Program}{w:World}{K:zdW}{mg:Str->Option Value}{base:Heap}{CX:Y6}{k:Nat}{f:Addr}{fd:zea}{ps:List Str}{sp sp':Sp}
end
open PySem PySem.Spec PyProof.Rows PySem.W
section
variable{X:Cx}
end
def RawD(h:Heap)(d:Addr)(es:Array DictEntry)(ep:Nat):Prop:=∃o,h.get? d=some o/\o.ExactDict/\o.data=.dict es ep
section
variable{prog:Program}{w:World}{A:Around}{E:Value->Shared->Prop}{s:Shared}{it d:Addr}{es:Array DictEntry}{i ep:Nat}
end
section
variable{X:Cx}{pins:List (Addr×Obj)}{σ:St}{H:Hp}{s:Shared}{tg:Expr}
end
section
variable{a:Addr}{o:Obj}{u:HO}{g:TG}{σ:St}{H:Hp}
end
open PySem PySem.Spec PyProof.Rows PySem.W
section
variable{X:Cx}
end
section
variable{prog:Program}{w:World}{KK:Type}[DecidableEq KK]{kd:HeapKind prog w KK}{A:Around}{E:Value->Shared->Prop}{s:Shared}
end
section
variable{X:Cx}
end
structure FnLd(P:Program)(w:World)(K:zdW)(mg:Str->Option Value)(base:Heap)(k:Nat)(f:Addr)(fd:zea)(ps:List Str)(sp:Sp):Prop where
 len:∀vs H Q E,sp vs H Q E->vs.length=ps.length
 run:∀(A:Around) (a:Value) (outer:List Env) (s:Shared) (H:Hp) (args:Args) (us:List Value) (vs:List V) (Q:VK) (E:XK),qU k A->X4 P w K mg base (A.mark (some a)) outer s H->BindsTo s fd args (ps.zip us)->qG vs us->sp vs H Q E->
  codeAny (model P w) (A.mark (some a)) (.call (.ref f) args) (CR qH outer P w H s Q E) s
section
variable{P:Program}{w:World}{K:zdW}{mg:Str->Option Value}{base:Heap}
end
section
variable{X:Cx}{k:Nat}{f:Addr}{fd:zea}{ps:List Str}{sp:Sp}{x:Str}{p pos:Pos}{e:Expr}{es:List Expr}{t:TA}{a:Value}{E:Value->Shared->Prop}
end
section
variable{X:Cx}
end
section
variable{X:Cx}{CX:Y6}{k:Nat}{f C:Addr}{fd:zea}{ps:List Str}{sp:Sp}{dvs:List V}{ds:List Value}{E:St->XK}{x m:Str}{p pos apos:Pos}{e o:Expr}{es:List Expr}{ta:TE}{t:TA}
end
section
variable{X:Cx}
end
section
variable{X:Cx}{pins:List (Addr×Obj)}{σ:St}{H:Hp}{s:Shared}
end
section
variable{prog:Program}{w:World}{A:Around}{E:Value->Shared->Prop}{s:Shared}
end
section
variable{X:Cx}{pos:Pos}
end
section
variable{X:Cx}
theorem VH{v:V}{a:Value}(r:qO v a):∀n:Nat,qG (zbv n v) (zbv n [a]).flatten
 | 0=>.nil
 | n+1=>by
  rw[zdA,zdA]
  exact .cons r (VH r n)
def qaU(K:zdW):R2:=λx y H Q=>∃(a:Addr) (v:V) (n:Nat),x=.ref a/\y=.int (n:Int)/\SqL K H a [v]/\n<=200/\∀l,H l=none->Q (.ref l) (upd H l (.lst (zbv n v)))
theorem Gy:Zf X (binaryOp .Mult) (qaU X.K):=by
 intro pins s σ H x y v u Q I rx ry h
 obtain⟨a,z,n,rfl,rfl,ha,hn,q⟩:=h
 cases rx
 obtain⟨t,rfl⟩:=(show ∃t,u=Value.int (n:Int) t from ry)
 obtain⟨its,rv,pl,_⟩:=I.list ha
 cases rv with
 | cons r1 rv=>
  cases rv
  obtain⟨⟨cls,d,data,sl⟩,ho,hcl,k,hd⟩:=id pl.isList
  simp only at hcl hd
  subst hcl hd
  rename_i b
  have hlo:-(2^63:Int)<=(n:Int):=by omega
  have hhi:(n:Int) < 2^63:=by omega
  have hsz':[b].toArray.size*(n:Int).toNat<=256:=by simp;omega
  have en:(n:Int).toNat=n:=by omega
  generalize (n:Int)=x at hlo hhi hsz' en
  refine wpAny_binaryOp_repeat_ref (T:="list") (U:="int") (by decide) ⟨_,ho,rfl⟩ (λs'=>typeIs_int s' x t) noFill_list_mul F.fills_int_mul F.slot_int_rmul repeat_list F.slot_int_index.lookup
   (call_meets F.slot_int_rmul (typeIs_int s x t) F.entry_int_rmul (F.args_int_rmul_2 _ _) (PySem.lm_int_rmul_list_any x t a [b].toArray k d sl)
    ⟨ho,rfl,⟨_,ho,rfl⟩,call_meets F.slot_list_mul ⟨_,ho,rfl⟩ F.entry_list_mul (F.args_list_mul_2 _ _)
     (PySem.lm_list_mul_any a [b].toArray k d sl x t (by simp [Builtin.List.listFitsIndex];omega) (by omega) (by simp [Builtin.List.listTooLong,zeb];omega))
     ⟨ho,?_⟩⟩)
  rw[listMul_foldl_if,en]
  exact⟨.ref s.heap.objs.size,_,I.laid (t':=s.toks) (o:=.lst (zbv n z)) (λb u h=>tu _ h) (tz _) ⟨by rw[zbQ];exact zaa hn (by decide),_,_,VH r1 n,tV _ rfl⟩,rfl,q _ (I.hok.fresh (tz _))⟩
end
section
variable{X:Cx}{N':List Str}{ix:List (Option Nat)}{scope:Scope}
end
abbrev Vn(o:Obj):HO:=.frz o (.frz o (.own 0))
def Kv(q:Str)(oc:Obj):Prop:=∃(vs:Array Value) (t:Tok),oc.data=.fields vs/\vs[1]?=some (.str q t)
structure UJ(mg:Str->Option Value)(base:Heap)(c P:Addr):Prop where
 code:PySem.W.CodeHd base c P
 blt:base.BuiltinsAt mg P
abbrev Cx.shut(X:Cx):Cx:={X with fn:=λ_=>false}
theorem Vz{pos:Pos}{a b:Int}{c cv:Value}(l:List Value)(h:TriplesOk l)(e:codeAmong pos (l++[rawInt a,rawInt b,c])=some cv):codeAmong pos l=some cv\/cv=c:=by
 fun_induction TriplesOk l with
 | case1=>
  simp only[zdp,codeAmong,rawInt]at e
  split at e
  ·exact .inr (tO.inj e).symm
  ·cases e
 | case2 a t b u x rest ih=>
  simp only[zcz,codeAmong]at e ⊢
  split at e
  ·rename_i hc;rw[if_pos hc];exact .inl e
  ·rename_i hc;rw[if_neg hc];exact ih h e
 | case3 l h1 h2=>exact h.elim
section
variable{X:Cx}{pins:List (Addr×Obj)}{σ:St}{H:Hp}{s:Shared}
theorem Cx.Ok.shut(o:X.Ok):X.shut.Ok:=⟨o.mod,o.kind,o.glob,o.blt,o.above,o.inj,o.has,λ_ _ z=>zdh z,o.hd,o.frames,o.stk,o.exf,o.bs,o.bsz,o.noex,o.exfs,o.funs,o.frf⟩
def Jr(cs:Addr->Option Obj)(H:Hp):Hp:=λb=>match cs b with
 | some o=>some (Vn o)
 | none=>H b
theorem XW{cs:Addr->Option Obj}(hn:∀b o,cs b=some o->H b=none){b:Addr}{u:HO}(e:H b=some u):Jr cs H b=some u:=by
 unfold Jr
 cases q:cs b with
 | none=>exact e
 | some o=>rw[hn b o q]at e;cases e
theorem Zr{cs:Addr->Option Obj}{b:Addr}(n:∀o,cs b≠some o):Jr cs H b=H b:=by
 unfold Jr
 cases q:cs b with
 | none=>rfl
 | some o=>exact absurd q (n o)
theorem XX{cs:Addr->Option Obj}{b:Addr}{o:Obj}(e:cs b=some o):Jr cs H b=some (Vn o):=by unfold Jr;rw[e]
theorem qz.catchN(I:qz X pins σ H s){cs:Addr->Option Obj}(hc:∀b o,cs b=some o->∃x v,X.env.cells.lookup x=some b/\X.fn x=true/\s.heap.get? b=some o/\o.data=.cell v):∀b o,cs b=some o->H b=none:=λb o e=>by
 obtain⟨x,v,h1,h2,_⟩:=hc b o e
 rcases I.freeC x b h1 with q | ⟨q,_⟩
 ·exact q
 ·rw[h2]at q;cases q
theorem qz.catch(I:qz X pins σ H s)(cs:Addr->Option Obj)(hc:∀b o,cs b=some o->∃x v,X.env.cells.lookup x=some b/\X.fn x=true/\s.heap.get? b=some o/\o.data=.cell v):qz X.shut pins σ (Jr cs H) s:=by
 have hn:=I.catchN hc
 have same:∀{b:Addr} {u:HO},H b=some u->Jr cs H b=some u:=λe=>XW hn e
 refine⟨I.ok.shut,I.os,I.bare,⟨I.base.keep,I.base.slot,λb o e n hx=>?_,I.base.there,λb xs e=>same (I.base.tups b xs e),λb o u e=>same (I.base.frzs b o u e),λb ps e=>?_⟩,I.loc,I.cell,?_,λx c e=>?_,λp hp=>?_,λb u e=>?_,I.len⟩
 ·rw[Zr λo' q=>?_]
  ·exact I.base.free b o e n hx
  ·obtain⟨x,v,h1,h2,_⟩:=hc b o' q
   exact absurd (tM (tK e) (I.ok.cab x b h2 h1)) (zao _)
 ·obtain⟨m,q⟩:=I.base.tbls b ps e
  exact⟨m,same q⟩
 ·show Jr cs H X.env.locals=none
  rw[Zr λo' q=>?_]
  ·exact I.free
  ·obtain⟨x,v,h1,_⟩:=hc _ o' q
   exact I.cne x _ h1 rfl
 ·cases q:cs c with
  | some o=>exact .inr ⟨rfl,o,XX q⟩
  | none=>
   have e2:Jr cs H c=H c:=Zr λo z=>by rw[q]at z;cases z
   rw[e2]
   exact(I.freeC x c e).imp id λz=>⟨rfl,z.2⟩
 ·obtain⟨e,n,ne,nf,d⟩:=I.pin p hp
  refine⟨e,?_,ne,nf,d⟩
  rw[Zr λo' q=>?_]
  ·exact n
  ·obtain⟨x,v,h1,h2,h3,h4⟩:=hc _ o' q
   rw[e]at h3
   cases h3
   exact d v h4
 ·cases q:cs b with
  | some o=>
   rw[XX q]at e
   cases e
   obtain⟨x,v,h1,h2,h3,h4⟩:=hc b o q
   exact⟨h3,h3,o,h3⟩
  | none=>
   rw[Zr λo z=>by rw[q]at z;cases z]at e
   exact(I.hok b u e).stay (λ_ _ _ z=>z) (λ_ z=>same z) (λ_ _ z=>same z) (λ_ _ z=>same z)
structure Made(X:Cx)(σ:St)(H H':Hp)(P:Addr)(name qual:Str)(params:Arguments)(body:List Stmt)(scope:Scope)(f c':Addr)(doc pm ctv:Value)(oc:Obj):Prop where
 same:Same H H'
 new:H f=none
 fn:H' f=some (Vn (PySem.W.fnMade name qual params body scope (qY X.env scope.names []) doc pm c' ctv))
 cd:H' c'=some (.frz oc (.own P))
 cq:Kv qual oc
 cells:∀x,(x,NameKind.free)∈scope.names->∃ca co v,(qY X.env scope.names []).lookup x=some ca/\H' ca=some (Vn co)/\co.data=.cell v/\∀(i:Nat) (y:V),X.N[i]?=some x->σ[i]?=some (some y)->∃u,v=some u/\qO y u
 inj:∀x y c,(qY X.env scope.names []).lookup x=some c->(qY X.env scope.names []).lookup y=some c->x=y
def PB(X:Cx)(st:List Stmt)(t:TS):Prop:=
 ∀(pins:List (Addr×Obj)) (s:Shared) (σ:St) (H:Hp) (D:Ja),qz X pins σ H s->t D σ H->wpAny (model X.prog X.w) X.A (execs st X.env) (λfl s'=>∃g,SP {X with fn:=g} pins D fl s') X.xe s
theorem qz.made_def{h':Heap}{P c':Addr}{ts:Array Value}{tk tq:Nat}{qual:Str}{pos:Pos}{oc fo:Obj}(I:qz X pins σ H s)(hP:H P=some (.tbl #[.str qual tq]))(eP:s.heap.get? P=some (zbF ts))(tr:TriplesOk ts.toList)
  (cs:∀pos cv,codeAmong pos ts.toList=some cv->∃c oc,cv=.ref c/\H c=some (.frz oc (.own P))/\qbL #[.str qual tq] oc) (hx:Heap.ExtBut P s.heap h') (hge:s.heap.objs.size<=c') (hlt:c' < h'.objs.size) (hoc:h'.get? c'=some oc) (hq:Kv qual oc)
  (htb:h'.get? P=some (zbF (ts++#[rawInt pos.line,rawInt pos.col,.ref c']))) (hfo:fo.isFreed=false):qz X pins σ (upd (upd H c' (.frz oc (.own P))) h'.objs.size (Vn fo)) {s with heap:=h'.push fo,toks:=tk}:=by
 have hc0:H c'=none:=I.hok.fresh hge
 have hf0:H h'.objs.size=none:=I.hok.fresh (zai (zaM hge hlt))
 have up:∀{b:Addr} {u:HO},H b=some u->upd (upd H c' (.frz oc (.own P))) h'.objs.size (Vn fo) b=some u:=λ{b u} e=>by
  rw[qi (qr e hf0),qi (qr e hc0)]
  exact e
 have nP:∀{b:Addr},H b=none->b≠P:=λn z=>by rw[z,hP]at n;cases n
 have old:∀b o,b≠P->s.heap.get? b=some o->(h'.push fo).get? b=some o:=λb o n e=>tu _ (hx b o n e)
 have lt:∀{b:Addr} {o:Obj},s.heap.get? b=some o->b≠h'.objs.size/\b≠c':=λe=>⟨tQ (zdM (tM (tK e) hge) hlt),tQ (tM (tK e) hge)⟩
 refine I.step (g':=s.gens) (d':=s.drawn) (ch:=[]) (λ_ z=>nomatch z) (λb o _ _ _ e n=>old b o (nP n) e) (λb o _ _ _ e n=>⟨o.slots,old b o (nP n) e⟩) (λb o _ e n=>?_) (λb o _ e=>?_) (λb xs e=>up e) (λb o u e=>up e) (λb ps e=>⟨#[],by rw[up e];simp⟩) (λm hm=>(hm.extBut hx (nP I.free)).push _) (λb u e=>?_) I.bare
 ·rw[qi (lt e).1,qi (lt e).2]
  exact n
 ·rcases Decidable.em (b=P) with z | z
  ·rw[z];exact⟨_,tu _ htb⟩
  ·exact⟨o,old b o z e⟩
 ·rcases Decidable.em (b=h'.objs.size) with z | z
  ·subst z
   rw[qe]at e
   cases e
   have:=tV h' hfo
   exact⟨this,this,_,this⟩
  rw[qi z]at e
  rcases Decidable.em (b=c') with z2 | z2
  ·subst z2
   rw[qe]at e
   cases e
   have:=tu fo hoc
   exact⟨this,_,this⟩
  rw[qi z2]at e
  rcases Decidable.em (b=P) with z3 | z3
  ·subst z3
   rw[hP]at e
   cases e
   refine⟨_,tu _ htb,?_,λpos' cv q=>?_⟩
   ·rw[zcc]
    exact TriplesOk_snoc _ _ _ _ tr
   ·rw[zcc]at q
    rcases Vz _ tr q with q | q
    ·obtain⟨c,oc',e1,e2,e3⟩:=cs pos' cv q
     exact⟨c,oc',e1,up e2,e3⟩
    ·obtain⟨vs,t,h1,h2⟩:=hq
     exact⟨c',oc,q,by rw[qi (tQ hlt),qe],qual,tq,vs,t,rfl,h1,h2⟩
  ·refine(I.hok b u e).stay (λc v hc g=>old c v ?_ g) (λ_ z=>up z) (λ_ _ z=>up z) (λ_ _ z=>up z)
   rcases hc with z | z
   ·rw[z];exact z3
   ·intro z'
    rw[z',hP]at z
    cases z
open Classical in
end
section
variable{P:Program}{w:World}{K:zdW}{mg:Str->Option Value}{base:Heap}{N:List Str}{qual:Str}{scope:Scope}{f:Addr}{cd:Value}{A:Around}{outer:List Env}{s₀:Shared}{H₀:Hp}{E:XK}
end
section
variable{P:Program}{w:World}{K:zdW}{mg:Str->Option Value}{base:Heap}
theorem jK.okB{CX:Y6}{x qual:Str}{st:Stmt}{f c:Addr}{fd:zea}{N ps:List Str}{k:Nat}{sp:Sp}(F:jK K x qual st f fd)(hc:fd.code=.ref c)(S:qt N ps (qj st))(len:∀vs H Q E,sp vs H Q E->vs.length=ps.length)
  (hbody:∀(A:Around) (outer:List Env) (s:Shared) (H:Hp) (vs:List V) (Q:VK) (E:XK),qU k (A.deeper (envOfC qual (qj st) s.heap.objs.size f (.ref c)))->sp vs H Q E->
   ∃t,PB (Zd CX P w K mg base N qual (qj st) f (.ref c) A outer s H E) (jO st) t/\t {nx:=λ_ H'=>Q .non H',rt:=Q} (Qd N vs) H):qo P w K mg base CX (k+1) f fd ps sp:=by
 obtain⟨oc,od,kV,doc,pm,an,cdv,ct,osl,rfl,lk,hcd⟩:=F.ex
 have hc':cdv=.ref c:=hc
 subst hc'
 refine⟨len,λA outer s H args us vs Q E hr e0 hb r hsp=>?_⟩
 have hl:=len _ _ _ _ hsp
 have KX:K.In s.heap:=e0.mod.kin.keeps λb o e=>(e0.bs b o e).1
 have lim:s.heap.NoLimit:=e0.mod.nolimit.keeps λb o e=>(e0.bs b o e).1
 have hkind:∀y∈ps.zip us,(qj st).names.lookup y.1=some .local\/((qj st).names.lookup y.1=some .cell/\((cellsFrom (s.heap.objs.size+1) (qj st).names []).lookup y.1).isSome=true):=λ⟨n,v⟩ hy=>by
  rcases S.par n (zbK hy).1 with q | q
  ·exact .inl q
  ·exact .inr ⟨q,zcr _ _ _ (.inl q)⟩
 refine codeAny_call_function hr.depth (KX _ _ lk) rfl S.co S.gen rfl (zdF KX hcd) (hb _ _ _ _ ?_)
 refine wpAny_newFunctionEnv_cells S.kind hkind λenv he s1 x=>?_
 subst he
 refine⟨lim.keeps x.toInCall.keep,codeAny_func ?_⟩
 obtain⟨t,ht,hq⟩:=hbody A outer s H vs Q E (hr.deeper _) hsp
 have I:qz (Zd CX P w K mg base N qual (qj st) f (.ref c) A outer s H E) [] (Qd N vs) H s1:=WD S hr.hd e0 hl r x
 refine wpAny_mono (ht [] s1 (Qd N vs) H _ I hq) (λfl s' hs=>?_) λe s' hs=>hs
 obtain⟨g,hs⟩:=hs
 have fin:∀{σ':St} {H':Hp} {v:V} {u:Value},qz {Zd CX P w K mg base N qual (qj st) f (.ref c) A outer s H E with fn:=g} [] σ' H' s'->qO v u->Q v H'->CE outer P w H s Q u s':=
  λ{σ' H' v u} J rv q=>⟨v,H',J.os,J.bare,J.base,J.hok,rv,q⟩
 cases fl with
 | ret u=>
  obtain⟨v,σ',H',J,rv,q⟩:=hs
  exact fin J rv q
 | next=>
  obtain⟨σ',H',J,q⟩:=hs
  exact fin (v:=V.non) (u:=Value.none) J rfl q
 | brk=>
  obtain⟨_,_,_,q⟩:=hs
  exact False.elim q
 | cont=>
  obtain⟨_,_,_,q⟩:=hs
  exact False.elim q
end
structure UP(N ps fr:List Str)(sc:Scope):Prop where
 kind:sc.kind=.function
 co:sc.isCoroutine=false
 gen:sc.isGenerator=false
 nd:N.Nodup
 pre:N.take (ps++fr).length=ps++fr
 par:∀x∈ps,sc.names.lookup x=some .local
 free:∀x∈fr,sc.names.lookup x=some .free
 frees:∀y∈sc.names,y.2=.free->y.1∈fr
 nocell:∀y∈sc.names,y.2≠.cell
structure Clo(H:Hp)(P f:Addr)(name qual:Str)(st:Stmt)(fd:zea)(ws:List (Str×V)):Prop where
 ex:∃(doc pm ctv:Value) (c':Addr) (cl:List (Str×Addr)) (oc:Obj),fd=PySem.W.fnX name qual (QG st) (jO st) (qj st) cl .none .none doc pm none (.ref c') ctv/\H f=some (Vn {cls:=.type "function",data:=.func fd})/\H c'=some (.frz oc (.own P))/\Kv qual oc/\
  (∀x y c,cl.lookup x=some c->cl.lookup y=some c->x=y)/\(∀x c,cl.lookup x=some c->x∈ws.map (·.1))/\
  ∀x v,(x,v)∈ws->∃c o u,cl.lookup x=some c/\H c=some (Vn o)/\o.data=.cell (some u)/\qO v u
def Kl(CX:Y6)(P:Program)(w:World)(K:zdW)(mg:Str->Option Value)(base:Heap)(N:List Str)(qual:Str)(scope:Scope)(f:Addr)(cd:Value)(cl:List (Str×Addr))(A:Around)(outer:List Env)(s:Shared)(H:Hp)(E:XK):Cx where
 prog:=P
 w:=w
 K:=K
 mg:=mg
 base:=base
 A:=A.deeper (zcu qual scope s.heap.objs.size f cd cl)
 N:=N
 s₀:=s
 H₀:=H
 env:=zcu qual scope s.heap.objs.size f cd cl
 outer:=outer
 stack:=zcu qual scope s.heap.objs.size f cd cl::outer
 ex:=[]
 calm:=true
 fn:=λ_=>false
 pn:=[]
 xe:=λe s'=>wpAny (model P w) (A.deeper (zcu qual scope s.heap.objs.size f cd cl)) (leaving (zcu qual scope s.heap.objs.size f cd cl) e) (λ_ s''=>CX outer H s E e s'') (λe' s''=>CX outer H s E e' s'') s'
theorem vt{x:Str}{u:Value}:∀{ps:List Str} {us:List Value} {i:Nat},ps.Nodup->ps[i]?=some x->us[i]?=some u->(ps.zip us).reverse.lookup x=some u:=by
 intro ps
 induction ps with
 | nil=>intro us i _ h;cases h
 | cons p ps ih=>
  intro us i nd h1 h2
  cases us with
  | nil=>cases h2
  | cons v us=>
   rw[List.zip_cons_cons,zcZ]
   obtain⟨np,nd⟩:=zal.mp nd
   cases i with
   | zero=>
    obtain rfl:p=x:=by simpa using h1
    obtain rfl:v=u:=by simpa using h2
    have:(ps.zip us).reverse.lookup p=none:=by
     rw[List.lookup_eq_none_iff]
     intro q hq
     have:=(zbK (zcA.mp hq)).1
     simp only[beq_eq_false_iff_ne,ne_eq,Bool.not_eq_true,bne_iff_ne]
     intro z
     rw[z]at np
     exact np this
    rw[zdG,this]
    simp
   | succ i=>
    have:=ih nd (by simpa using h1) (by simpa using h2)
    rw[zdG,this]
    rfl
section
variable{P:Program}{w:World}{K:zdW}{mg:Str->Option Value}{base:Heap}
end
section
variable{X:Cx}{CX:Y6}{C:Addr->zea->Sp->Prop}{E:St->XK}{x:Str}{p pos:Pos}{e:Expr}{es:List Expr}{t:TA}{i:Nat}
end
structure UK where
 x:Str
 c:Addr
 P:Addr
 q:Str
def QZ(tabs:List UK)(H:Hp):Hp:=λb=>match tabs.find? λq=>q.P==b with
 | some q=>some (.tbl #[.str q.q 0])
 | none=>H b
theorem za{tabs:List UK}{H:Hp}{b:Addr}(h:∀q∈tabs,q.P≠b):QZ tabs H b=H b:=by
 unfold QZ
 cases e:tabs.find? λq=>q.P==b with
 | none=>rfl
 | some q=>exact absurd (beq_iff_eq.mp (List.find?_some (p:=λq:UK=>q.P==b) e)) (h q (zca e))
theorem zK{tabs:List UK}{H:Hp}{b:Addr}{q:UK}(h:q∈tabs)(e:q.P=b):∃q'∈tabs,q'.P=b/\QZ tabs H b=some (.tbl #[.str q'.q 0]):=by
 unfold QZ
 cases e2:tabs.find? λq=>q.P==b with
 | none=>exact absurd (beq_iff_eq.mpr e) (by simpa using zdH.mp e2 q h)
 | some q'=>exact⟨q',zca e2,beq_iff_eq.mp (List.find?_some (p:=λq:UK=>q.P==b) e2),rfl⟩
theorem KL{tabs:List UK}{H:Hp}(nd:(tabs.map (·.P)).Nodup){q:UK}(h:q∈tabs):QZ tabs H q.P=some (.tbl #[.str q.q 0]):=by
 obtain⟨q',h',e,r⟩:=zK (H:=H) h rfl
 have:q'=q:=by
  have inj:∀{l:List UK},(l.map (·.P)).Nodup->∀{a b:UK},a∈l->b∈l->a.P=b.P->a=b:=by
   intro l
   induction l with
   | nil=>intro _ a b h;cases h
   | cons z l ih=>
    intro n a b ha hb e
    rw[tU,zal]at n
    rcases tS.mp ha with ea | ha
    ·rcases tS.mp hb with eb | hb
     ·rw[ea,eb]
     ·exact absurd (tL.mpr ⟨b,hb,by rw[<-e,ea]⟩) n.1
    ·rcases tS.mp hb with eb | hb
     ·exact absurd (tL.mpr ⟨a,ha,by rw[e,eb]⟩) n.1
     ·exact ih n.2 ha hb e
  exact inj nd h' h e
 rw[r,this]
theorem xh{P:Program}{w:World}{K:zdW}{mg mb:Str->Option Value}{CX:Y6}{k:Nat}{fa a:Addr}{fd:zea}{x:Str}{sp:Sp}{s₁:Shared}{vs:List Value}{ns:List Int}{tabs:List UK}
  (KX:K.In s₁.heap) (hns:s₁.heap.Ns mainGlobals mg) (hb:s₁.heap.Ns builtinsNs mb) (hbb:∀x:Str,x≠"__name__"->mb x=bootBuiltins x) (hlim:s₁.heap.NoLimit) (hg:s₁.gens=#[])
  (ha:s₁.heap.get? a=some {cls:=.type "list",data:=.seq vs.toArray}) (hi:IntsAre vs ns) (hl:ns.length<=zeb) (hr:qU k callerA)
  (hT:∀q∈tabs,PySem.W.CodeHd s₁.heap q.c q.P/\s₁.heap.get? q.P=some (zbF #[])) (nd:(tabs.map (·.P)).Nodup) (hbl:∃bm o,mg "__builtins__"=some (.ref bm)/\bm≠builtinsNs/\bm≠mainGlobals/\s₁.heap.get? bm=some o/\o.cls=.type "module"/\o.dict=some builtinsNs/\o.data=.plain) (hnt:zdv K=true)
  (F:∀base:Heap,K.In base->base.Ns mainGlobals mg->(∀q∈tabs,UJ mg base q.c q.P)->qo P w K mg base CX k fa fd [x] sp) (hbind:∀(s:Shared) (u:Value),BindsTo s fd ⟨[u],[]⟩ [(x,u)])
  (hsp:∀H:Hp,SqL K H a (ns.map V.int)->(∀q∈tabs,H q.P=some (.tbl #[.str q.q 0]))->sp [.ref a] H (λv _=>v=.bl true) λ_ _ _=>False)
  (hCX:∀H e s',CX [] H s₁ (λ_ _ _=>False) e s'->False):
  codeAny (model P w) callerA (.call (.ref fa) ⟨[.ref a],[]⟩) (λr s'=>r=.ok (.ret (.bool true))/\OldK s₁.heap s'.heap/\s'.os=s₁.os/\AllBare s'.gens) s₁:=by
 have rv:=Wg hi
 have lenV:=hi.length
 have naP:∀q∈tabs,q.P≠a:=λq hq z=>by
  have:=(hT q hq).2
  rw[z,ha]at this
  cases this
 have core:∀H0:Hp,qcM H0->SqL K H0 a (ns.map V.int)->JN P w H0 s₁.heap->(∀b,H0 b≠none->b=a)->(H0 a≠none->K.lookup a=none)->
   codeAny (model P w) callerA (.call (.ref fa) ⟨[.ref a],[]⟩) (λr s'=>r=.ok (.ret (.bool true))/\OldK s₁.heap s'.heap/\s'.os=s₁.os/\AllBare s'.gens) s₁:=by
  intro H0 hO hS0 hok0 hA hK
  have hS:SqL K (QZ tabs H0) a (ns.map V.int):=by
   have e:QZ tabs H0 a=H0 a:=za naP
   rcases hS0 with (h | ⟨o,h⟩) | h
   ·exact .inl (.inl (e.trans h))
   ·exact .inl (.inr ⟨o,e.trans h⟩)
   ·exact .inr h
  have cases_:∀b,QZ tabs H0 b≠none->b=a\/∃q∈tabs,q.P=b:=λb z=>by
   rcases Classical.em (∃q∈tabs,q.P=b) with h | h
   ·exact .inr h
   ·rw[za λq hq e=>h ⟨q,hq,e⟩]at z
    exact .inl (hA b z)
  have hok:JN P w (QZ tabs H0) s₁.heap:=λb u e=>by
   rcases Classical.em (∃q∈tabs,q.P=b) with ⟨q,hq,eq⟩ | h
   ·obtain⟨q',hq',e',r⟩:=zK (H:=H0) hq eq
    rw[r]at e
    cases e
    exact⟨#[],by rw[<-e'];exact(hT q' hq').2,True.intro,λpos cv z=>nomatch z⟩
   ·rw[za λq hq e=>h ⟨q,hq,e⟩]at e
    have hb':b=a:=hA b (by rw[e];exact λz=>nomatch z)
    rcases hO b with z | ⟨o,xs,z⟩
    ·rw[z]at e;cases e
    ·rw[z]at e
     cases e
     obtain⟨h1,h2,its,n,h3,h4⟩:=(show qK P w H0 s₁.heap b (.frz o (.lst xs)) from hok0 b _ z)
     exact⟨h1,h2,its,n,h3,h4⟩
  have noT:∀{b:Addr} {o:Obj},s₁.heap.get? b=some o->o≠zbF #[]->o≠{cls:=.type "list",data:=.seq vs.toArray}->QZ tabs H0 b=none:=λ{b o} e n1 n2=>by
   cases q:QZ tabs H0 b with
   | none=>rfl
   | some u=>
    rcases cases_ b (by rw[q];exact λz=>nomatch z) with z | ⟨t,ht,z⟩
    ·rw[z,ha]at e
     exact absurd (tO.inj e).symm n2
    ·have:=(hT t ht).2
     rw[z,e]at this
     exact absurd (tO.inj this) n1
  have base_of:∀{b:Addr} {o:Obj},s₁.heap.get? b=some o->QZ tabs H0 b=none->(Wb s₁.heap (QZ tabs H0)).get? b=some o:=λe n=>u4 e n
  have nsK:∀{b:Addr} {m:Str->Option Value},s₁.heap.Ns b m->(Wb s₁.heap (QZ tabs H0)).Ns b m:=λ{b m} ⟨o,es,ep,e,d,r⟩=>⟨o,es,ep,base_of e (noT e (λz=>by rw[z]at d;cases d) (λz=>by rw[z]at d;cases d)),d,r⟩
  have hKb:K.In (Wb s₁.heap (QZ tabs H0)):=λb o e=>base_of (KX b o e) (by
   cases q:QZ tabs H0 b with
   | none=>rfl
   | some u=>
    rcases cases_ b (by rw[q];exact λz=>nomatch z) with z | ⟨t,ht,z⟩
    ·have e1:QZ tabs H0 a=H0 a:=za naP
     rw[z,e1]at q
     rw[z,hK (by rw[q];exact λz=>nomatch z)]at e
     cases e
    ·have:=(hT t ht).2
     rw[z,KX b o e]at this
     have h2:=zaQ.mp hnt (b,o) (PySem.W.mem_of_lookupK e)
     rw[tO.inj this]at h2
     exact absurd (show false=true from h2) tN)
  have hM:Mod K mg (Wb s₁.heap (QZ tabs H0)):=⟨hKb,nsK hns,⟨mb,nsK hb,hbb⟩,let ⟨mc,h1,h2⟩:=hlim;⟨mc,nsK h1,h2⟩⟩
  have hTM:∀q∈tabs,UJ mg (Wb s₁.heap (QZ tabs H0)) q.c q.P:=λq hq=>by
   refine⟨?_,?_⟩
   ·obtain⟨o,vs',file,tf,flags,tg,inF,text,tt,e1,e2,r⟩:=(hT q hq).1
    exact⟨o,vs',file,tf,flags,tg,inF,text,tt,base_of e1 (noT e1 (λz=>by rw[z]at e2;cases e2) (λz=>by rw[z]at e2;exact absurd (show Value.type "list"=Value.type "code" from e2) (by decide))),e2,r⟩
   ·obtain⟨bm,o,b1,b2,b3,b4,b5,b6,b7⟩:=hbl
    refine⟨bm,o,b1,b2,b3,λz=>?_,base_of b4 (noT b4 (λz=>by rw[z]at b5;cases b5) (λz=>by rw[z]at b5;exact absurd (show Value.type "list"=Value.type "module" from b5) (by decide))),b5,b6,b7⟩
    have:=(hT q hq).2
    rw[<-z,b4]at this
    cases this
    cases b5
  have e0:X4 P w K mg (Wb s₁.heap (QZ tabs H0)) callerA [] s₁ (QZ tabs H0):=⟨rfl,hM,λb o e=>Rl e,zdj (xp _ _),trivial,λb hb=>absurd (show b∈([]:List Addr) from hb) (by simp),hok,.of_eq hg⟩
  refine codeAny_mono ((F _ hKb (nsK hns) hTM).run callerA [] s₁ (QZ tabs H0) ⟨[.ref a],[]⟩ [.ref a] [.ref a] _ _ hr e0 (hbind s₁ (.ref a)) (.cons rfl .nil) (hsp _ hS λq hq=>KL nd hq)) λr s' h=>?_
  cases r with
  | error e=>exact(hCX _ e s' h).elim
  | ok fl=>
   cases fl with
   | next=>exact False.elim h
   | brk=>exact False.elim h
   | cont=>exact False.elim h
   | ret u=>
    obtain⟨v,H',os,bare,un,hok',r',q⟩:=h
    have q':v=.bl true:=q
    subst q'
    obtain rfl:u=Value.bool true:=r'
    have all:∀b o,s₁.heap.get? b=some o->s'.heap.get? b=some o\/∃t∈tabs,t.P=b/\∃ts,s'.heap.get? b=some (zbF ts):=λb o e=>by
     rcases Classical.em (∃q∈tabs,q.P=b) with ⟨t,ht,et⟩ | h
     ·obtain⟨t',ht',e',r⟩:=zK (H:=H0) ht et
      obtain⟨m,z⟩:=un.tbls b _ r
      obtain⟨ts,z2,_⟩:=(show qK P w H' s'.heap b (.tbl _) from hok' b _ z)
      exact .inr ⟨t,ht,et,ts,z2⟩
     ·have e1:QZ tabs H0 b=H0 b:=za λq hq e=>h ⟨q,hq,e⟩
      cases q:H0 b with
      | none=>exact .inl (un.keep b o e (e1.trans q) (by intro z;exact absurd (show b∈([]:List Addr) from z) (by simp)) (by simp))
      | some u=>
       rcases hO b with z | ⟨ob,xs,z⟩
       ·rw[q]at z;cases z
       ·have z2:=un.frzs b ob _ (e1.trans z)
        obtain⟨h1,_⟩:=hok0 b _ z
        obtain⟨h2,_⟩:=hok' b _ z2
        rw[e]at h1;cases h1
        exact .inl h2
    refine⟨rfl,⟨λb o e=>?_,λb o e=>?_⟩,os,bare⟩
    ·rcases all b o e with z | ⟨t,ht,et,ts,z⟩
     ·exact .inl z
     ·have e2:=(hT t ht).2
      rw[et,e]at e2
      cases e2
      subst et
      exact .inr (.inl ⟨((hT t ht).1.tab (hT t ht).2).isCodeTable,rfl,#[],ts,rfl,by rw[Array.empty_append];exact z⟩)
    ·rcases all b o e with z | ⟨t,ht,et,ts,z⟩
     ·exact⟨_,z⟩
     ·exact⟨_,z⟩
 cases hk:K.lookup a with
 | some o=>
  have e:=KX a o hk
  rw[ha]at e
  cases e
  refine core (λ_=>none) (λ_=>.inl rfl) (.inr ⟨_,vs.toArray,_,hk,rfl,rfl,rfl,by rw[tZ,lenV];exact hl,by simpa using rv⟩) (λb u z=>by have z':(none:Option HO)=some u:=z;cases z') (λb z=>absurd rfl z) λz=>absurd rfl z
 | none=>
  refine core (λb=>if b=a then some (.frz {cls:=.type "list",data:=.seq vs.toArray} (.lst (ns.map V.int))) else none) (λb=>?_) (.inl (.inr ⟨{cls:=.type "list",data:=.seq vs.toArray},if_pos rfl⟩)) (λb u z=>?_) (λb z=>?_) λ_=>hk
  ·by_cases hb:b=a
   ·exact .inr ⟨_,_,if_pos hb⟩
   ·exact .inl (if_neg hb)
  ·by_cases hb:b=a
   ·have z':=(if_pos hb).symm.trans z
    cases z'
    subst hb
    exact⟨ha,by rw[tj];exact hl,vs,_,rv,ha⟩
   ·have z':=(if_neg hb).symm.trans z
    cases z'
  ·by_cases hb:b=a
   ·exact hb
   ·exact absurd (if_neg hb) z
theorem walk_ofT{l:PySem.W.OpenLaw}{n k:Nat}{q:Program}{loose:List Str}{XP:(Str->Option Value)->Heap->Prop}{YP:World->Heap->Prop}{d:DefRec}{K:Params->zdW}{sp:zdW->List UK->Sp}{x:Str}{ts:List Addr}
  (hn:l.most=some n) (hn2:n<=zeb) (hdf:d.params.defaults=[]) (hr:qU k callerA)
  (hY:∀(w:World) (h:Heap),YP w h->(K w.params).In h) (hTs:∀(w:World) (h:Heap),YP w h->∀P∈ts,h.get? P=some (zbF #[])) (hnt:∀w:World,zdv (K w.params)=true)
  (F:∀(w:World) (mg:Str->Option Value) (fa:Addr) (h:Heap),(K w.params).In h->h.Ns mainGlobals mg->mg d.name=some (.ref fa)->
   ∃(tabs:List UK) (fd:zea),(tabs.map (·.P)).Nodup/\(∀t∈tabs,t.P∈ts/\zcB (K w.params) t.c t.P=true)/\(∀(s:Shared) (u:Value),BindsTo s fd ⟨[u],[]⟩ [(x,u)])/\
    ∀base:Heap,(K w.params).In base->base.Ns mainGlobals mg->(∀t∈tabs,UJ mg base t.c t.P)->qo l.prog w (K w.params) mg base qH k fa fd [x] (sp (K w.params) tabs))
  (hsp:∀(K:zdW) (tabs:List UK) (H:Hp) (a:Addr) (ns:List Int),ns.length<=n->SqL K H a (ns.map V.int)->(∀q∈tabs,H q.P=some (.tbl #[.str q.q 0]))->sp K tabs [.ref a] H (λv _=>v=.bl true) λ_ _ _=>False):
  PySem.W.WalkO q loose XP YP l.row.toRowW d [] (λf vs=>PySem.call f vs):=by
 refine Att.attach_call hn hdf λw s₀ s₁ mg mb fa o pm cd doc a vs ns G Y ho hd hcd hmg hobj hints hlen hg=>?_
 have KX:=hY w _ Y
 obtain⟨tabs,fd,nd,ht,hb,hF⟩:=F w mg fa _ KX G.T.g hmg
 refine xh KX G.T.g G.T.b G.T.builtins G.T.nolimit hg hobj hints (zaa hlen hn2) hr (tabs:=tabs) (λt hm=>⟨PySem.W.codeHd_of_K KX (ht t hm).2,hTs w _ Y _ (ht t hm).1⟩) nd ?_ (hnt w) hF hb (λH hS hP=>hsp _ _ H a ns hlen hS hP) λH e s' z=>z
 obtain⟨bm,ob,a1,a2,a3,a4,a5,a6⟩:=G.T.bmain
 refine⟨bm,ob,a1,a2,λz=>?_,a3,a4,a5,a6⟩
 obtain⟨o',es,ep,e,hd',_⟩:=G.T.g
 rw[z,e]at a3
 cases a3
 rw[hd']at a6
 cases a6
mutual
inductive DG(H:Hp):V->PyData->Prop
 | non:DG H .non .none
 | bl (b:Bool):DG H (.bl b) (.bool b)
 | int (i:Int):DG H (.int i) (.int i)
 | str (x:Str):DG H (.str x) (.str x)
 | lst {a:Addr} {xs:List V} {ds:List PyData}:H a=some (.lst xs)->a≠sysModules->DGs H xs ds->DG H (.ref a) (.list ds)
 | tup {a:Addr} {xs:List V} {ds:List PyData}:H a=some (.tup xs)->DGs H xs ds->DG H (.ref a) (.tuple ds)
 | dct0 {a:Addr}:H a=some (.dK [])->DG H (.ref a) (.dict [])
 | dct1 {a:Addr} {z:Str} {i:Int}:H a=some (.dK [(Sum.inr z,.int i)])->DG H (.ref a) (.dict [(.str z,.int i)])
inductive DGs(H:Hp):List V->List PyData->Prop
 | nil:DGs H [] []
 | cons {x:V} {xs:List V} {d:PyData} {ds:List PyData}:DG H x d->DGs H xs ds->DGs H (x::xs) (d::ds)
end
section
variable{X:Cx}{pins:List (Addr×Obj)}{σ:St}{H:Hp}{s:Shared}
end
section
variable{X:Cx}
end
structure vL(H:Hp)(P f:Addr)(qual:Str)(ag:Arguments)(be:Expr)(sc:Scope)(fd:zea)(ws:List (Str×V)):Prop where
 ex:∃(pm ctv:Value) (c':Addr) (cl:List (Str×Addr)) (oc:Obj),fd=zdw "<lambda>" qual ag be sc cl pm (.ref c') ctv/\H f=some (Vn {cls:=.type "function",data:=.func fd})/\H c'=some (.frz oc (.own P))/\Kv qual oc/\
  (∀x y c,cl.lookup x=some c->cl.lookup y=some c->x=y)/\(∀x c,cl.lookup x=some c->x∈ws.map (·.1))/\
  ∀x v,(x,v)∈ws->∃c o u,cl.lookup x=some c/\H c=some (Vn o)/\o.data=.cell (some u)/\qO v u
theorem vL.mono{H H':Hp}{P f:Addr}{qual:Str}{ag:Arguments}{be:Expr}{sc:Scope}{fd:zea}{ws:List (Str×V)}(h:vL H P f qual ag be sc fd ws)(k:∀b o u,H b=some (.frz o u)->H' b=some (.frz o u)):vL H' P f qual ag be sc fd ws:=by
 obtain⟨pm,ctv,c',cl,oc,h1,h2,h3,h4,h5,h6,h7⟩:=h.ex
 exact⟨pm,ctv,c',cl,oc,h1,k _ _ _ h2,k _ _ _ h3,h4,h5,h6,λx v hx=>let ⟨c,o,u,a,b,d,e⟩:=h7 x v hx;⟨c,o,u,a,k _ _ _ b,d,e⟩⟩
section
variable{P:Program}{w:World}{K:zdW}{mg:Str->Option Value}{base:Heap}
theorem RZ{CX:Y6}{PT f:Addr}{qual:Str}{ag:Arguments}{be:Expr}{sc:Scope}{fd:zea}{N ps fr:List Str}{k:Nat}{sp:List (Str×V)->Sp}(S:UP N ps fr sc)(len:∀ws vs H Q E,sp ws vs H Q E->vs.length=ps.length/\ws.map (·.1)=fr)
  (hbody:∀(c':Addr) (cl:List (Str×Addr)) (A:Around) (outer:List Env) (s:Shared) (H:Hp) (ws:List (Str×V)) (vs:List V) (Q:VK) (E:XK),qU k (A.deeper (zcu qual sc s.heap.objs.size f (.ref c') cl))->sp ws vs H Q E->
   ∃t,JE (Kl CX P w K mg base N qual sc f (.ref c') cl A outer s H E) be t/\t (Qd N (vs++ws.map (·.2))) H Q):
  qo P w K mg base CX (k+1) f fd ps (λvs H Q E=>∃ws,vL H PT f qual ag be sc fd ws/\sp ws vs H Q E):=by
 refine⟨λvs H Q E ⟨ws,_,h⟩=>(len _ _ _ _ _ h).1,λA outer s H args us vs Q E hr e0 hb r ⟨ws,C,hsp⟩=>?_⟩
 obtain⟨hl,hw⟩:=len _ _ _ _ _ hsp
 obtain⟨pm,ctv,c',cl,oc,rfl,hf,hcd,⟨vs',t',hd',hv'⟩,inj,clw,cells⟩:=C.ex
 have ef:=(show qK P w H s.heap f (Vn _) from e0.hok f _ hf).1
 have ec:=(show qK P w H s.heap c' (.frz oc (.own PT)) from e0.hok c' _ hcd).1
 have lim:s.heap.NoLimit:=e0.mod.nolimit.keeps λb o e=>(e0.bs b o e).1
 refine PySem.W.kla_callFunE hr.depth ef rfl S.co S.gen rfl ⟨c',oc,vs',t',rfl,ec,hd',hv'⟩ (hb _ _ _ _ ?_)
 refine wpAny_newFunctionEnv S.nocell (λy hy=>S.par y.1 (zbK hy).1) (λh1 hns hsb=>?_) S.kind
 have hk:∀b o,s.heap.get? b=some o->h1.get? b=some o:=λb o e=>hsb.extBut b o (tQ (tK e)) (tu _ e)
 refine⟨lim.keeps hk,PySem.W.kla_codeExpr ?_⟩
 obtain⟨t,ht,hq⟩:=hbody c' cl A outer s H ws vs Q E (hr.deeper _) hsp
 have noA:∀b:Addr,b∉(Kl CX P w K mg base N qual sc f (.ref c') cl A outer s H E).ex:=λb z=>absurd (show b∈([]:List Addr) from z) (by simp)
 have lw:ws.length=fr.length:=by have:=congrArg zax hw;simpa using this
 have hN:ps.length+fr.length<=N.length:=by
  have:=congrArg zax S.pre
  rw[tW,tH]at this
  omega
 have kn:∀x c,cl.lookup x=some c->∃o u,H c=some (Vn o)/\o.data=.cell (some u):=λx c e=>by
  obtain⟨⟨y,v⟩,hy,rfl⟩:=tL.mp (clw x c e)
  obtain⟨c2,o,u,a,b,d,_⟩:=cells y v hy
  rw[e]at a
  cases a
  exact⟨o,u,b,d⟩
 have I:qz (Kl CX P w K mg base N qual sc f (.ref c') cl A outer s H E) [] (Qd N (vs++ws.map (·.2))) H {s with heap:=h1,toks:=s.toks+(ps.zip us).length}:=by
  refine⟨⟨e0.mod,S.kind,rfl,rfl,tz _,inj,λy hy=>?_,λ_ _ z=>zdh z,λ_=>hr.hd,Around.frames_deeper e0.frames,.inr ⟨rfl,rfl⟩,λb z=>absurd z (noA b),e0.bs,e0.bsz,λb _ _=>noA b,λb z=>absurd z (noA b),e0.funs,e0.frf⟩,
   rfl,e0.bare,Un.kept hk,⟨_,hns,λi y v q1 q2 q3=>?_⟩,λy c h=>?_,e0.hok.fresh (tz _),λy c h=>?_,λp hp=>absurd (show p∈([]:List (Addr×Obj)) from hp) (by simp),e0.hok.kept hk,?_⟩
  ·have hy:sc.names.lookup y=some .cell\/sc.names.lookup y=some .free:=hy
   rcases hy with hy | hy
   ·exact absurd rfl (S.nocell _ (PySem.mem_of_lookup hy))
   ·have:=S.frees _ (PySem.mem_of_lookup hy) rfl
    rw[<-hw]at this
    obtain⟨⟨z,v⟩,hz,ez⟩:=tL.mp this
    obtain⟨c2,o,u,a,_⟩:=cells z v hz
    exact⟨c2,by rw[<-show z=y from ez];exact a⟩
  ·have hi:i < (vs++ws.map (·.2)).length:=by
    rcases zbX i (vs++ws.map (·.2)).length with z | z
    ·exact z
    ·unfold Qd at q2
     rw[zac (by simpa using z),zde]at q2
     split at q2<;>cases q2
   have q2':(vs++ws.map (·.2))[i]?=some v:=by
    unfold Qd at q2
    rw[zaf (by simpa using hi),tG]at q2
    cases e:(vs++ws.map (·.2))[i]? with
    | none=>rw[e]at q2;cases q2
    | some z=>rw[e]at q2;cases q2;rfl
   rw[tH,tj]at hi
   have q1':(ps++fr)[i]?=some y:=by
    rw[<-S.pre,zbB (by rw[tH];omega)]
    exact q1
   rcases zbX i vs.length with z | z
   ·rw[zaf z]at q2'
    rw[zaf (by omega)]at q1'
    obtain⟨u,hu,rv⟩:=r.get q2'
    have ndP:ps.Nodup:=by
     have:=S.nd.sublist (zcY (ps++fr).length N)
     rw[S.pre]at this
     exact(zdb.mp this).1
    exact⟨u,rv,.inl ⟨S.par y (t9 q1'),vt ndP q1' hu⟩⟩
   ·rw[zac z,tG]at q2'
    rw[zac (by omega),<-hl]at q1'
    rw[<-hw,tG]at q1'
    cases e:ws[i - vs.length]? with
    | none=>rw[e]at q2';cases q2'
    | some yv=>
     rw[e]at q2' q1'
     obtain rfl:yv.1=y:=tO.inj q1'
     obtain rfl:yv.2=v:=tO.inj q2'
     have hm:yv∈ws:=t9 e
     obtain⟨c2,o,u,a,b,d,rv⟩:=cells yv.1 yv.2 hm
     have fy:sc.names.lookup yv.1=some .free:=S.free _ (by rw[<-hw];exact tL.mpr ⟨yv,hm,rfl⟩)
     exact⟨u,rv,.inr ⟨.inr fy,c2,a,o,hk _ _ (show qK P w H s.heap c2 (Vn o) from e0.hok c2 _ b).1,d⟩⟩
  ·obtain⟨o,u,b,d⟩:=kn y c h
   exact⟨some u,o,hk _ _ (show qK P w H s.heap c (Vn o) from e0.hok c _ b).1,d⟩
  ·obtain⟨o,u,b,d⟩:=kn y c h
   exact .inr ⟨rfl,o,b⟩
  ·show (Qd N (vs++ws.map (·.2))).length=N.length
   unfold Qd
   rw[tH,tj,zbQ,tH,tj]
   omega
 refine wpAny_mono (ht.to [] _ (Qd N (vs++ws.map (·.2))) H _ I hq) (λu s' hs=>?_) λe s' hs=>hs
 obtain⟨v,H',J,rv,q⟩:=hs
 exact⟨v,H',J.os,J.bare,J.base,J.hok,rv,q⟩
end
section
variable{X:Cx}{c P:Addr}{qual:Str}{ag:Arguments}{be:Expr}{sc:Scope}{pos:Pos}
end
section
variable{P:Program}{w:World}{K:zdW}{mg:Str->Option Value}{base:Heap}{N:List Str}{qual:Str}{scope:Scope}{f:Addr}{cd:Value}{cl:List (Str×Addr)}{A:Around}{outer:List Env}{s₀:Shared}{H₀:Hp}{E:XK}
end
section
variable{P:Program}{w:World}{K:zdW}{mg:Str->Option Value}{base:Heap}
end
open PySem PySem.Spec PySem.Builtin PySem.Builtin.Str PyProof.Rows
section
variable{X:Cx}
end
section
variable{X:Cx}{k:Nat}{f:Addr}{fd:zea}{ps:List Str}{sp:Sp}
theorem Gh{pins:List (Addr×Obj)}{σ:St}{H:Hp}{s:Shared}{Q:VK}{us:List Value}{vs:List V}(F:qo X.prog X.w X.K X.mg X.base qH k f fd ps sp)(hr:qU (k+1) X.A)(hb:jE X.K fd ps [])(I:qz X pins σ H s)(r:qG vs us)(h:sp vs H Q E0):
  wpAny (model X.prog X.w) X.A.in1 (call (.ref f) us) (EP X pins σ Q) (λ_ _=>False) s:=by
 have hl:(us++[]).length=ps.length:=by rw[zan];exact r.length.symm.trans (F.len _ _ _ _ h)
 have hb':=hb s us I.kIn hl
 rw[zan]at hb'
 refine wpAny_call (codeAny_mono (F.run X.A.in1 X.stack s H ⟨us,[]⟩ us vs Q E0 hr.in1 I.env0.in1 hb' r h) λz s' q=>?_)
 match z,q with
 | .error y,q=>exact q.elim
 | .ok (.ret u),q=>exact I.after q
end
section
variable{X:Cx}{pins:List (Addr×Obj)}{σ:St}{xs:List V}{l q a S:Addr}{R:Hp->Prop}{Z:Result->Shared->Prop}
theorem qz.shift{H:Hp}{s:Shared}{h':Heap}{t':Nat}{P:List (Addr×Obj)}{b:Addr}{o':Obj}(I:qz X P σ H s){P':List (Addr×Obj)}(hP:∀p∈P',p.1=b/\p.2=o'\/p∈P/\p.1≠b)(fb:JM X pins H b)(hPb:∀p∈P,p.1≠b->p∈pins\/p.1≠b)
  (kk:∀c o,c≠b->s.heap.get? c=some o->h'.get? c=some o) (hb:h'.get? b=some o') (hd:∀v,o'.data≠.cell v):qz X P' σ H {s with heap:=h',toks:=t'}:=by
 obtain⟨f0,f1,f2,f3,f4,f5⟩:=fb
 have I1:qz X (P.filter λp=>p.1 != b) σ H s:=I.pins_of λp hp=>I.pin p (tJ _ (zad.mp hp).1)
 have I2:qz X (P.filter λp=>p.1 != b) σ H {s with heap:=h',toks:=t'}:=I1.turned kk f0 f1 f3 f4 λp hp=>by
  rcases tX.mp hp with z | z
  ·exact f5 p (zaj _ z)
  ·simpa using (zad.mp z).2
 refine I2.pins_of λp hp=>?_
 rcases hP p hp with ⟨e1,e2⟩ | ⟨e1,e2⟩
 ·rw[e1,e2]
  exact⟨hb,f0,f1,f2,hd⟩
 ·exact I2.pin p (tJ _ (zad.mpr ⟨e1,by simpa using e2⟩))
abbrev ZK(vs:Array Value)(c:Nat):Obj:=seqObj "list" vs c
theorem uC(hc:X.calm=true)(kf:Nat->Int)(hlR:∀H,R H->SqL X.K H l xs)(hla:l≠a)(hSa:S≠a)(fa:∀H,H a=none->JM X pins H a)(fS:∀H,H S=none->JM X pins H S)
  (turn:∀(i:Nat) (x:V) (v:Value) (P:List (Addr×Obj)) (H1:Hp) (s1:Shared),xs[i]?=some x->qO x v->qz X P σ H1 s1->R H1->wpAny (model X.prog X.w) X.A.in1 (call (.ref q) [v]) (EP X P σ λy H2=>y=.int (kf i)/\R H2) (λ_ _=>False) s1)
  (done:∀(i:Nat) (x:V) (v:Value) (H1:Hp) (s1:Shared),xs[i]?=some x->qO x v->(∀j,j < xs.length->kf i<=kf j/\(j < i->kf i < kf j))->qz X pins σ H1 s1->R H1->Z (.ok (.ret v)) s1):
  ∀(r j i:Nat) (s1:Shared) (H1:Hp) (xb:V) (vb:Value) (tb:Tok) (c:Nat) (oI:Obj),xs.length - (j+1)=r->j+1<=xs.length->qz X (pins++[(S,ZK #[vb,.int (kf i) tb] c),(a,oI)]) σ H1 s1->R H1->s1.heap.IsListIter a l (j+1)->xs[i]?=some xb->qO xb vb->i<=j->
   (∀j',j'<=j->kf i<=kf j'/\(j' < i->kf i < kf j'))->codeAny (model X.prog X.w) X.A (.builtin "min.loop" ⟨[.ref a,.ref q,.ref S],[]⟩) Z s1:=by
 have hname:(toString "min"++toString ".loop":String)="min.loop":=by decide
 have pinS:∀{H1:Hp} {s1:Shared} {oS oI:Obj},qz X (pins++[(S,oS),(a,oI)]) σ H1 s1->s1.heap.get? S=some oS/\H1 S=none:=λI=>let z:=I.pin (S,_) (tJ _ (tJ _ (.head _)));⟨z.1,z.2.1⟩
 have pinA:∀{H1:Hp} {s1:Shared} {oS oI:Obj},qz X (pins++[(S,oS),(a,oI)]) σ H1 s1->s1.heap.get? a=some oI/\H1 a=none:=λI=>let z:=I.pin (a,_) (tJ _ (tJ _ (.tail _ (.head _))));⟨z.1,z.2.1⟩
 have nS:∀{oS oI:Obj} {p:Addr×Obj} {H:Hp},H S=none->p∈pins++[(S,oS),(a,oI)]->p∈pins->p.1≠S:=λh _ hp=>(fS _ h).2.2.2.2.2 _ (tJ _ hp)
 intro r
 induction r with
 | zero=>
  intro j i s1 H1 xb vb tb c oI hr hj I hR hit hxb rb hij hbest
  have hin:j+1=xs.length:=by omega
  obtain⟨gS,hS0⟩:=pinS I
  obtain⟨ga,ha0⟩:=pinA I
  obtain⟨its,rv,pl,hz⟩:=I.list (hlR _ hR)
  have hsz:its.toArray.size=xs.length:=by rw[tZ];exact rv.length.symm
  have W:=Walks.list (prog:=X.prog) (w:=X.w) (A:=X.A.in1) (I.ok.hd hc) a l hla its.toArray
  refine codeAny_builtin zcv ?_
  rw[Around.under_plainId zaX _]
  show wpAny _ X.A.in1 (seqItems? (.ref S) >>= _) _ _ _
  refine zdY (wpAny_seqItems gS rfl ?_)
  show wpAny _ X.A.in1 (tryCatch (pyNext (.ref a)) _ >>= _) _ _ _
  refine zdY (wpAny_tryCatch (W.done _ _ _ ⟨by rw[hsz,<-hin];exact hit,pl.isList⟩ λh' tk' hk'=>?_))
  have I1:qz X (pins++[(S,ZK #[vb,.int (kf i) tb] c)]) σ H1 s1:=I.pins_of λp hp=>I.pin p (tJ _ (by
    rcases tX.mp hp with z | z
    ·exact zaj _ z
    ·exact tJ _ (by rw[t7.mp z];exact .head _)))
  obtain⟨f0,f1,f2,f3,f4,f5⟩:=fa H1 ha0
  have I2:qz X (pins++[(S,ZK #[vb,.int (kf i) tb] c)]) σ H1 {s1 with heap:=h',toks:=tk'}:=I1.turned (λb o hb e=>hk' b o (by simpa using hb) e) f0 f1 f3 f4 λp hp=>by
    rcases tX.mp hp with z | z
    ·exact f5 p (zaj _ z)
    rcases tX.mp z with z | z
    ·exact f5 p (tJ _ z)
    ·rw[t7.mp z];exact hSa
  have gS2:h'.get? S=some (ZK #[vb,.int (kf i) tb] c):=(I2.pin (S,_) (tJ _ (tJ _ (.head _)))).1
  have s2:=zcL.update h' S (Obj.mapSeq λ_=>(#[]:Array Value))
  show wpAny _ X.A.in1 (updateSeq S (λ_=>#[]) >>= _) _ _ _
  refine zdY ?_
  refine wpAny_updateSeq gS2 rfl (zdY (wpAny_letGo (zdZ ?_)))
  obtain⟨g0,g1,g2,g3,g4,g5⟩:=fS H1 hS0
  have I3:qz X pins σ H1 {s1 with heap:=h',toks:=tk'}:=I2.pins_of λp hp=>I2.pin p (tJ _ (zaj _ hp))
  exact done i xb vb H1 _ hxb rb (λj' hj'=>hbest j' (by omega)) (I3.turned (t':=tk') (λb o hb e=>(s2.2 b hb).trans e) g0 g1 g3 g4 g5) hR
 | succ r ih=>
  intro j i s1 H1 xb vb tb c oI hr hj I hR hit hxb rb hij hbest
  have hlt:j+1 < xs.length:=by omega
  obtain⟨gS,hS0⟩:=pinS I
  obtain⟨ga,ha0⟩:=pinA I
  obtain⟨its,rv,pl,hz⟩:=I.list (hlR _ hR)
  have hsz:its.toArray.size=xs.length:=by rw[tZ];exact rv.length.symm
  have W:=Walks.list (prog:=X.prog) (w:=X.w) (A:=X.A.in1) (I.ok.hd hc) a l hla its.toArray
  refine codeAny_builtin zcv ?_
  rw[Around.under_plainId zaX _]
  show wpAny _ X.A.in1 (seqItems? (.ref S) >>= _) _ _ _
  refine zdY (wpAny_seqItems gS rfl ?_)
  show wpAny _ X.A.in1 (tryCatch (pyNext (.ref a)) _ >>= _) _ _ _
  refine zdY (wpAny_tryCatch (W.item (j+1) _ _ _ (by rw[hsz];exact hlt) ⟨hit,pl.isList⟩ λv h' tk' hP hst' hk'=>?_))
  have hv:its[j+1]?=some v:=by simpa using hP
  obtain⟨x,hx⟩:∃x,xs[j+1]?=some x:=⟨_,tE hlt⟩
  obtain⟨v',hv',rx⟩:=rv.get hx
  rw[hv]at hv'
  cases hv'
  obtain⟨oI',hoI',hoc,hod⟩:=id hst'.1
  have ndI:∀v,oI'.data≠.cell v:=λv z=>by rw[hod]at z;cases z
  have I1:qz X (pins++[(S,ZK #[vb,.int (kf i) tb] c),(a,oI')]) σ H1 {s1 with heap:=h',toks:=tk'}:=by
    refine I.shift (pins:=pins) (b:=a) (o':=oI') (λp hp=>?_) (fa H1 ha0) (λp hp n=>.inr n) (λb o hb e=>hk' b o (by simpa using hb) e) hoI' ndI
    rcases tX.mp hp with z | z
    ·exact .inr ⟨zaj _ z,(fa H1 ha0).2.2.2.2.2 p (tJ _ z)⟩
    ·rcases tS.mp z with rfl | z
     ·exact .inr ⟨tJ _ (.head _),hSa⟩
     ·rw[t7.mp z];exact .inl ⟨rfl,rfl⟩
  show wpAny _ X.A.in1 (tryCatch (holding [v] (call (.ref q) [v])) _ >>= _) _ _ _
  refine zdY (wpAny_tryCatch (wpAny_holding (wpAny_mono (turn (j+1) x v _ H1 _ hx rx I1 hR) (λu s2 he=>?_) λ_ _ hF=>hF.elim)))
  obtain⟨y,H2,I2,ry,rfl,hR2⟩:=he
  obtain⟨t2,rfl⟩:=ry
  obtain⟨gS2,hS2⟩:=pinS I2
  obtain⟨ga2,ha2⟩:=pinA I2
  have hit2:s2.heap.IsListIter a l (j+1+1):=⟨oI',ga2,hoc,hod⟩
  show wpAny _ X.A.in1 (tryCatch (holding [v,.int (kf (j+1)) t2] (richCompare .Lt (.int (kf (j+1)) t2) (.int (kf i) tb) >>= _)) _ >>= _) _ _ _
  refine zdY (wpAny_tryCatch (wpAny_holding (zdY (CmpOf.ints_lt (prog:=X.prog) (w:=X.w) (A:=X.A.in1) (P:=λi v=>∃t,v=.int (kf i) t) kf (λi v h=>h) (j+1) i _ _ _ _ _ ⟨t2,rfl⟩ ⟨tb,rfl⟩ ?_))))
  refine zdY (wpAny_holding (wpAny_truthy_bool ?_))
  refine zdY (wpAny_letGo (zdZ ?_))
  by_cases hb':kf (j+1) < kf i
  . have s3:=zcL.update s2.heap S (Obj.mapSeq λ_=>#[v,.int (kf (j+1)) t2])
    obtain⟨c2,hc2⟩:∃c2,(s2.heap.update S (Obj.mapSeq λ_=>#[v,.int (kf (j+1)) t2])).get? S=some (seqObj "list" #[v,.int (kf (j+1)) t2] c2):=⟨_,get?_update_seq gS2 λ_=>#[v,.int (kf (j+1)) t2]⟩
    simp only[hb',decide_true,if_true]
    refine zdY ?_
    refine wpAny_updateSeq gS2 rfl (zdY (wpAny_letGo ?_))
    rw[hname]
    have I3:qz X (pins++[(S,ZK #[v,.int (kf (j+1)) t2] c2),(a,oI')]) σ H2 {s2 with heap:=s2.heap.update S (Obj.mapSeq λ_=>#[v,.int (kf (j+1)) t2]),toks:=s2.toks}:=by
     refine I2.shift (pins:=pins) (b:=S) (o':=ZK #[v,.int (kf (j+1)) t2] c2) (λp hp=>?_) (fS H2 hS2) (λp hp n=>.inr n) (λb o hb e=>(s3.2 b hb).trans e) hc2 (λv z=>by cases z)
     rcases tX.mp hp with z | z
     ·exact .inr ⟨zaj _ z,(fS H2 hS2).2.2.2.2.2 p (tJ _ z)⟩
     ·rcases tS.mp z with rfl | z
      ·exact .inl ⟨rfl,rfl⟩
      ·rw[t7.mp z];exact .inr ⟨tJ _ (.tail _ (.head _)),λq=>hSa q.symm⟩
    refine zdZ ⟨plainId_quiet zaX _,ih (j+1) (j+1) _ H2 x v t2 c2 oI' (by omega) hlt I3 hR2 ⟨oI',(s3.2 a λq=>hSa q.symm).trans ga2,hoc,hod⟩ hx rx (tz _) λj' hj'=>?_⟩
    by_cases e:j'=j+1
    ·subst e
     exact⟨by omega,λ_=>by omega⟩
    ·have hb1:=hbest j' (by omega)
     have hb2:=hb1.1
     exact⟨by omega,λ_=>by omega⟩
  . simp only[hb',decide_false,zba,if_false]
    refine zdY (wpAny_letGo ?_)
    rw[hname]
    refine zdZ ⟨plainId_quiet zaX _,ih (j+1) i _ H2 xb vb tb c oI' (by omega) hlt I2 hR2 hit2 hxb rb (by omega) λj' hj'=>?_⟩
    by_cases e:j'=j+1
    ·subst e
     exact⟨by omega,λ_=>by omega⟩
    ·exact hbest j' (by omega)
theorem xC{H:Hp}{s:Shared}{Q E:Value->Shared->Prop}(hc:X.calm=true)(kf:Nat->Int)(I:qz X pins σ H s)(hR:R H)(hlR:∀H,R H->SqL X.K H l xs)(hne:0 < xs.length)
  (turn:∀(i:Nat) (x:V) (v:Value) (P:List (Addr×Obj)) (H1:Hp) (s1:Shared),xs[i]?=some x->qO x v->qz X P σ H1 s1->R H1->wpAny (model X.prog X.w) X.A.in1 (call (.ref q) [v]) (EP X P σ λy H2=>y=.int (kf i)/\R H2) (λ_ _=>False) s1)
  (done:∀(i:Nat) (x:V) (v:Value) (H1:Hp) (s1:Shared),xs[i]?=some x->qO x v->(∀j,j < xs.length->kf i<=kf j/\(j < i->kf i < kf j))->qz X pins σ H1 s1->R H1->Q v s1):
  wpAny (model X.prog X.w) X.A (call (.builtin "min") [.ref l] [(zdX "key",.ref q)]) Q E s:=by
 have hname:(toString "min"++toString ".loop":String)="min.loop":=by decide
 obtain⟨its0,rv0,pl0,_⟩:=I.list (hlR _ hR)
 have hll:l < s.heap.objs.size:=by
  obtain⟨o,n,e,_⟩:=pl0
  exact tK e
 refine kmk_tree PySem.F.kind_min PySem.F.plain_min PySem.F.entry_min (kmk_min_key _ _) ?_
 show wpAny _ X.A.in1 (Builtin.Builtins.bindParams "min" ["key","default"] 0 ⟨[],[(zdX "key",.ref q)]⟩ >>= _) _ _ s
 refine zdY (wpAny_of_eq (show Builtin.Builtins.bindParams "min" ["key","default"] 0 ⟨[],[(zdX "key",.ref q)]⟩=pure [some (.ref q),none] from rfl) ?_)
 refine zdY (zdZ ?_)
 refine zdY (wpAny_pyIter_list pl0.isList ?_)
 refine zdY (wpAny_newList ?_ (zaw _))
 rw[hname]
 have hS:(s.heap.push {cls:=.type "list_iterator",data:=.fields #[.ref l,.int 0 0]}).objs.size=s.heap.objs.size+1:=size_push' ..
 generalize hSe:(s.heap.push {cls:=.type "list_iterator",data:=.fields #[.ref l,.int 0 0]}).objs.size=S at hS
 generalize hae:s.heap.objs.size=a at hS hll
 have hla:l≠a:=tQ hll
 have hSa:S≠a:=by rw[hS];exact zbH (zaI _)
 have fa:∀H,H a=none->JM X pins H a:=λH' h=>I.fpOk (by omega) h
 have fS:∀H,H S=none->JM X pins H S:=λH' h=>I.fpOk (by omega) h
 have ha0:H a=none:=I.hok.fresh (by omega)
 have hS0:H S=none:=I.hok.fresh (by omega)
 have gI:((s.heap.push {cls:=.type "list_iterator",data:=.fields #[.ref l,.int 0 0]}).push (ZK #[] 0)).get? a=some {cls:=.type "list_iterator",data:=.fields #[.ref l,.int 0 0]}:=by
  rw[<-hae];exact tu _ (tV _ rfl)
 have gS:((s.heap.push {cls:=.type "list_iterator",data:=.fields #[.ref l,.int 0 0]}).push (ZK #[] 0)).get? S=some (ZK #[] 0):=by
  rw[<-hSe];exact tV _ rfl
 have I0:qz X pins σ H {s with heap:=(s.heap.push {cls:=.type "list_iterator",data:=.fields #[.ref l,.int 0 0]}).push (ZK #[] 0)}:=I.kept (t':=s.toks) λb o e=>tu _ (tu _ e)
 have I1:qz X (pins++[(S,ZK #[] 0),(a,{cls:=.type "list_iterator",data:=.fields #[.ref l,.int 0 0]})]) σ H {s with heap:=(s.heap.push {cls:=.type "list_iterator",data:=.fields #[.ref l,.int 0 0]}).push (ZK #[] 0)}:=I0.pins_of λp hp=>by
  rcases tX.mp hp with z | z
  ·exact I0.pin p (tJ _ z)
  ·rcases tS.mp z with rfl | z
   ·exact⟨gS,hS0,(fS H hS0).2.1,(fS H hS0).2.2.1,λv z=>by cases z⟩
   ·rw[t7.mp z]
    exact⟨gI,ha0,(fa H ha0).2.1,(fa H ha0).2.2.1,λv z=>by cases z⟩
 refine zdZ ⟨plainId_quiet zaX _,?_⟩
 obtain⟨its,rv,pl,hz⟩:=I1.list (hlR _ hR)
 have hsz:its.toArray.size=xs.length:=by rw[tZ];exact rv.length.symm
 have W:=Walks.list (prog:=X.prog) (w:=X.w) (A:=X.A.in1) (I.ok.hd hc) a l hla its.toArray
 refine codeAny_builtin zcv ?_
 rw[Around.under_plainId zaX _]
 show wpAny _ X.A.in1 (seqItems? (.ref _) >>= _) _ _ _
 refine zdY (wpAny_seqItems gS rfl ?_)
 show wpAny _ X.A.in1 (tryCatch (pyNext (.ref a)) _ >>= _) _ _ _
 refine zdY (wpAny_tryCatch (W.item 0 _ _ _ (by rw[hsz];exact hne) ⟨⟨_,gI,rfl,rfl⟩,pl.isList⟩ λv h' tk' hP hst' hk'=>?_))
 have hv:its[0]?=some v:=by simpa using hP
 obtain⟨x,hx⟩:∃x,xs[0]?=some x:=⟨_,tE hne⟩
 obtain⟨v',hv',rx⟩:=rv.get hx
 rw[hv]at hv'
 cases hv'
 obtain⟨oI',hoI',hoc,hod⟩:=id hst'.1
 have ndI:∀v,oI'.data≠.cell v:=λv z=>by rw[hod]at z;cases z
 have I2:qz X (pins++[(S,ZK #[] 0),(a,oI')]) σ H {s with heap:=h',toks:=tk'}:=by
  refine I1.shift (pins:=pins) (b:=a) (o':=oI') (λp hp=>?_) (fa H ha0) (λp hp n=>.inr n) (λb o hb e=>hk' b o (by simpa using hb) e) hoI' ndI
  rcases tX.mp hp with z | z
  ·exact .inr ⟨zaj _ z,(fa H ha0).2.2.2.2.2 p (tJ _ z)⟩
  ·rcases tS.mp z with rfl | z
   ·exact .inr ⟨tJ _ (.head _),hSa⟩
   ·rw[t7.mp z];exact .inl ⟨rfl,rfl⟩
 show wpAny _ X.A.in1 (tryCatch (holding [v] (call (.ref q) [v])) _ >>= _) _ _ _
 refine zdY (wpAny_tryCatch (wpAny_holding (wpAny_mono (turn 0 x v _ H _ hx rx I2 hR) (λu s2 he=>?_) λ_ _ hF=>hF.elim)))
 obtain⟨y,H2,I3,ry,rfl,hR2⟩:=he
 obtain⟨t2,rfl⟩:=ry
 obtain⟨gS2,hS2,_⟩:=I3.pin (S,_) (tJ _ (tJ _ (.head _)))
 obtain⟨ga2,ha2,_⟩:=I3.pin (a,_) (tJ _ (tJ _ (.tail _ (.head _))))
 have s3:=zcL.update s2.heap S (Obj.mapSeq λ_=>#[v,.int (kf 0) t2])
 obtain⟨c2,hc2⟩:∃c2,(s2.heap.update S (Obj.mapSeq λ_=>#[v,.int (kf 0) t2])).get? S=some (seqObj "list" #[v,.int (kf 0) t2] c2):=⟨_,get?_update_seq gS2 λ_=>#[v,.int (kf 0) t2]⟩
 show wpAny _ X.A.in1 (updateSeq S (λ_=>#[v,.int (kf 0) t2]) >>= _) _ _ _
 refine zdY ?_
 refine wpAny_updateSeq gS2 rfl ?_
 rw[hname]
 have I4:qz X (pins++[(S,ZK #[v,.int (kf 0) t2] c2),(a,oI')]) σ H2 {s2 with heap:=s2.heap.update S (Obj.mapSeq λ_=>#[v,.int (kf 0) t2]),toks:=s2.toks}:=by
  refine I3.shift (pins:=pins) (b:=S) (o':=ZK #[v,.int (kf 0) t2] c2) (λp hp=>?_) (fS H2 hS2) (λp hp n=>.inr n) (λb o hb e=>(s3.2 b hb).trans e) hc2 (λv z=>by cases z)
  rcases tX.mp hp with z | z
  ·exact .inr ⟨zaj _ z,(fS H2 hS2).2.2.2.2.2 p (tJ _ z)⟩
  ·rcases tS.mp z with rfl | z
   ·exact .inl ⟨rfl,rfl⟩
   ·rw[t7.mp z];exact .inr ⟨tJ _ (.tail _ (.head _)),λq=>hSa q.symm⟩
 refine zdZ ⟨plainId_quiet zaX _,uC (R:=R) (Z:=λr s'=>match r with | .ok (.ret v)=>Q v s' | .ok _=>False | .error e=>E e s') hc kf hlR hla hSa fa fS turn (λi x v H1 s1 h1 h2 h3 h4 h5=>done i x v H1 s1 h1 h2 h3 h4 h5) _ 0 0 _ H2 x v t2 c2 oI' rfl hne I4 hR2 ⟨oI',(s3.2 a λq=>hSa q.symm).trans ga2,hoc,hod⟩ hx rx (tz _) λj' hj'=>?_⟩
 have e:j'=0:=by omega
 subst e
 exact⟨by omega,λh=>absurd h (zao _)⟩
end
def X5(X:Cx)(H:Hp)(ws:List (Str×V)):Prop:=∀x v,(x,v)∈ws->∃ca co u,X.env.cells.lookup x=some ca/\H ca=some (Vn co)/\co.data=.cell (some u)/\qO v u
theorem X5.mono{X:Cx}{H H':Hp}{ws:List (Str×V)}(h:X5 X H ws)(s:Same H H'):X5 X H' ws:=λx v hx=>let ⟨ca,co,u,a,b,c,d⟩:=h x v hx;⟨ca,co,u,a,s _ _ b,c,d⟩
def qap(X:Cx)(fr:List (Str×Nat))(u:TS):TS:=λD σ H=>∀H',Same H H'->(∀ws:List (Str×V),(∀p∈ws,∃i,(p.1,i)∈fr/\σ[i]?=some (some p.2))->X5 X H' ws)->u D σ H'
section
variable{X:Cx}{st:List Stmt}{u:TS}
open Classical in
theorem Gs{fr:List (Str×Nat)}(hfr:∀p∈fr,X.env.scope.names.lookup p.1=some .cell/\X.N[p.2]?=some p.1)(hfn:∀x,X.fn x=true)(h2:WR X.shut st u):PB X st (qap X fr u):=by
 intro pins s σ H D I h
 have frc':∀p∈fr,∃c,X.env.cells.lookup p.1=some c:=λp hp=>I.ok.has p.1 (.inl (hfr p hp).1)
 let cc:Addr->Option Obj:=λb=>if ∃p∈fr,X.env.cells.lookup p.1=some b then s.heap.get? b else none
 have hc:∀b o,cc b=some o->∃x v,X.env.cells.lookup x=some b/\X.fn x=true/\s.heap.get? b=some o/\o.data=.cell v:=λb o e=>by
  rcases Classical.em (∃p∈fr,X.env.cells.lookup p.1=some b) with z | z
  ·have e':s.heap.get? b=some o:=(if_pos z).symm.trans e
   obtain⟨p,hp,hxb⟩:=z
   obtain⟨v,o',ho,hd⟩:=I.cell p.1 b hxb
   rw[e']at ho
   cases ho
   exact⟨p.1,v,hxb,hfn p.1,e',hd⟩
  ·have:cc b=none:=if_neg z
   rw[this]at e
   cases e
 have hn:=I.catchN hc
 refine jf (h2.to pins s σ _ D (I.catch cc hc) (h _ (λb o e=>XW hn e) λws hws x v hx=>?_)) λfl s' z=>⟨λ_=>false,z⟩
 obtain⟨i,hi,eσ⟩:=hws (x,v) hx
 obtain⟨ca,hca⟩:=frc' _ hi
 obtain⟨v',o,ho,hd⟩:=I.cell x ca hca
 have ecc:cc ca=some o:=(if_pos ⟨_,hi,hca⟩).trans ho
 obtain⟨m,_,hl⟩:=I.loc
 obtain⟨w',rw',lk⟩:=hl i x v (hfr _ hi).2 eσ (.inr (.inl (hfr _ hi).1))
 rcases lk with ⟨k,_⟩ | ⟨_,c2,ec2,o2,ho2,hd2⟩
 ·have k':X.env.scope.names.lookup x=some .local:=k
  rw[(hfr _ hi).1]at k'
  cases k'
 ·rw[hca]at ec2
  cases ec2
  rw[ho]at ho2
  cases ho2
  exact⟨ca,o,w',hca,XX ecc,hd2,rw'⟩
end
def qav(X:Cx)(P:Addr)(qual:Str)(ag:Arguments)(be:Expr)(sc:Scope)(fr:List Str):TE:=λσ H Q=>(∃tq,H P=some (.tbl #[.str qual tq]))/\∃ws,ws.map (·.1)=fr/\X5 X H ws/\∀f fd H',Same H H'->H f=none->vL H' P f qual ag be sc fd ws->Q (.ref f) H'
section
variable{X:Cx}{c P:Addr}{qual:Str}{ag:Arguments}{be:Expr}{sc:Scope}{pos:Pos}{fr:List Str}
theorem RE(TM:UJ X.mg X.base c P)(hcode:X.env.code=.ref c)(hq:X.env.qual++"<lambda>"=qual)(hfr:(sc.names.all λx=>x.2 != .free || (X.env.scope.names.lookup x.1==some .cell&&fr.contains x.1))=true)(hin:∀x∈fr,(x,NameKind.free)∈sc.names)(hdf:defaultsOf ag X.env=([],[]):=by rfl):JE X (.Lambda ag be sc pos) (qav X P qual ag be sc fr):=.of (by
 intro pins s σ H Q I h
 obtain⟨⟨tq,hP⟩,ws,hws,hca,h⟩:=h
 obtain⟨ts,eP,tr,cs⟩:=(show qK X.prog X.w H s.heap P (.tbl #[.str qual tq]) from I.hok P _ hP)
 refine PySem.W.kla_eval hdf ?_
 rw[hq]
 have hg:s.heap.Ns mainGlobals X.mg:=I.ok.mod.glob.keeps I.bk
 have CH:=TM.code.keeps I.bk
 have hb:s.heap.BuiltinsAt X.mg P:=by
  obtain⟨bm,o,b1,b2,b3,b4,b5,b6⟩:=TM.blt
  exact⟨bm,o,b1,b2,b3,b4,I.bk _ _ b5,b6⟩
 have hgP:mainGlobals≠P:=λz=>by
  obtain⟨o,es,ep,e,_⟩:=I.ok.mod.glob
  have:=(I.bs _ _ e).2
  rw[z,hP]at this
  cases this
 have frc:∀x,(x,NameKind.free)∈sc.names->X.env.scope.names.lookup x=some .cell/\x∈fr:=λx hx=>by
  have:=zaQ.mp hfr _ hx
  simp only[bne_self_eq_false,Bool.false_or,zar,beq_iff_eq,List.contains_iff_mem]at this
  exact this
 have frc':∀x,(x,NameKind.free)∈sc.names->∃c,X.env.cells.lookup x=some c:=λx hx=>I.ok.has x (.inl (frc x hx).1)
 have hcl:closureFor sc X.env=pure (qY X.env sc.names []):=Jq λx hx e=>frc' x.1 (by rw[<-e];exact hx)
 have clo1:∀x,(x,NameKind.free)∈sc.names->∀ca,X.env.cells.lookup x=some ca->(qY X.env sc.names []).lookup x=some ca:=λx hx ca e=>by
  obtain⟨c2,hc2⟩:=J7 (env:=X.env) (cs:=[]) (.inl hx)
  rcases Jl hc2 with z | ⟨_,z⟩
  ·simp at z
  ·rw[e]at z
   rw[hc2,z]
   rfl
 have look:∀x c,(qY X.env sc.names []).lookup x=some c->(x,NameKind.free)∈sc.names/\X.env.cells.lookup x=some c:=λx c e=>by
  rcases Jl e with z | ⟨z1,z2⟩
  ·simp at z
  ·obtain⟨c2,h2⟩:=frc' x z1
   rw[h2]at z2
   exact⟨z1,by rw[h2,z2];rfl⟩
 have inj:∀x y c,(qY X.env sc.names []).lookup x=some c->(qY X.env sc.names []).lookup y=some c->x=y:=λx y c h1 h2=>I.ok.inj x y c (look x c h1).2 (look y c h2).2
 have clo:∀{f c':Addr} {pm ctv:Value} {oc:Obj} {H1:Hp},Same H H1->H1 f=some (Vn (zbM "<lambda>" qual ag be sc (qY X.env sc.names []) pm c' ctv))->H1 c'=some (.frz oc (.own P))->Kv qual oc->vL H1 P f qual ag be sc (zdw "<lambda>" qual ag be sc (qY X.env sc.names []) pm (.ref c') ctv) ws:=
  λ{f c' pm ctv oc H1} sm e1 e2 e3=>⟨pm,ctv,c',_,oc,rfl,e1,e2,e3,inj,λx c z=>by rw[hws];exact(frc x (look x c z).1).2,λx v hx=>by
   obtain⟨ca,co,u,a,b,d,e⟩:=hca x v hx
   have:x∈fr:=by rw[<-hws];exact tL.mpr ⟨(x,v),hx,rfl⟩
   exact⟨ca,co,u,clo1 x (hin x this) ca a,sm _ _ b,d,e⟩⟩
 cases hh:codeAmong pos ts.toList with
 | none=>
  refine PySem.W.kla_makeFunction (mg:=X.mg) hcl I.ok.glob hg hcode CH eP tr hh hgP hb λc' ctv h' tk hx hge hlt hrec htb=>?_
  obtain⟨c2,oc,vs,t,e2,hoc,hd,hv⟩:=hrec
  cases e2
  have hc0:H c'=none:=I.hok.fresh hge
  have hf0:H h'.objs.size=none:=I.hok.fresh (zai (zaM hge hlt))
  have sm:Same H (upd (upd H c' (.frz oc (.own P))) h'.objs.size (Vn (zbM "<lambda>" qual ag be sc (qY X.env sc.names []) ((X.mg "__name__").getD .none) c' ctv))):=λb u e=>by
   rw[qi (qr e hf0),qi (qr e hc0)]
   exact e
  exact⟨.ref _,_,I.made_def hP eP tr cs hx hge hlt hoc ⟨vs,t,hd,hv⟩ htb rfl,rfl,h _ _ _ sm hf0 (clo sm qe (by rw[qi (tQ hlt),qe]) ⟨vs,t,hd,hv⟩)⟩
 | some cv=>
  obtain⟨c',oc,rfl,ec,q,t,vs,t',hq1,hd,hv⟩:=cs pos cv hh
  cases hq1
  refine PySem.W.kla_makeFunctionHit (mg:=X.mg) hcl I.ok.glob hg hcode CH eP tr hh hb λctv h' tk hk hsz=>?_
  have hf0:H h'.objs.size=none:=I.hok.fresh hsz
  have e1:(h'.push (zbM "<lambda>" qual ag be sc (qY X.env sc.names []) ((X.mg "__name__").getD .none) c' ctv)).get? h'.objs.size=some (zbM "<lambda>" qual ag be sc (qY X.env sc.names []) ((X.mg "__name__").getD .none) c' ctv):=tV h' rfl
  have sm:Same H (upd H h'.objs.size (Vn (zbM "<lambda>" qual ag be sc (qY X.env sc.names []) ((X.mg "__name__").getD .none) c' ctv))):=λb u e=>by
   rw[qi (qr e hf0)]
   exact e
  exact⟨.ref _,_,I.laid (t':=tk) (o:=Vn (zbM "<lambda>" qual ag be sc (qY X.env sc.names []) ((X.mg "__name__").getD .none) c' ctv)) (λb o e=>tu _ (hk b o e)) hsz ⟨e1,e1,_,e1⟩,rfl,h _ _ _ sm hf0 (clo sm qe (by rw[qi (qr ec hf0)];exact ec) ⟨vs,t',hd,hv⟩)⟩)
end
def qat(K:zdW)(C:Addr->zea->Sp->Prop)(te tl:TE):TE:=λσ H Q=>te σ H λx H1=>tl σ H1 λy H2=>∃(l q:Addr) (xs:List V) (fd:zea) (sp:Sp) (kf:Nat->Int) (R:Hp->Prop),x=.ref l/\y=.ref q/\C q fd sp/\R H2/\(∀G,R G->SqL K G l xs)/\0 < xs.length/\
 (∀i x G,xs[i]?=some x->R G->sp [x] G (λy G'=>y=.int (kf i)/\R G') E0)/\∀i x G,xs[i]?=some x->(∀j,j < xs.length->kf i<=kf j/\(j < i->kf i < kf j))->R G->Q x G
section
variable{X:Cx}{C:Addr->zea->Sp->Prop}{p pos kp:Pos}{e g:Expr}{te tl:TE}
theorem RC(hc:X.calm=true)(hg:Gl X "min")(hm:X.mg "min"=none)(hC:∀f fd sp,C f fd sp->∃(k:Nat) (x:Str),qo X.prog X.w X.K X.mg X.base qH k f fd [x] sp/\qU (k+1) X.A/\jE X.K fd [x] [])(ha:JE X e te)(hl:JE X g tl)(hs:starEach [e] X.env=[(false,eval e X.env)]:=by rfl)(he:backTo pos (starEach [e] X.env)=(false,eval e X.env)::backTo pos (starEach [] X.env):=by rfl)(hplain:(backTo pos (starEach [e] X.env)).any (·.1)=false:=by rfl):JE X (.Call (.Name "min" p) [e] [⟨some "key",g,kp⟩] pos) (qat X.K C te tl):=.of (by
 have ha:=ha.to
 have hl:=hl.to
 intro pins s σ H Q I h
 refine wpAny_Call_Name_kw (Q5 I hg hm boot_min (PyProof.Rows.callWith_kw (yA hs (jf (ha pins s σ H _ I h) λu s1 ⟨x,H1,I1,r1,q1⟩=>?_)) he hplain))
 show wpAny _ _ (evalAll [do let v <-eval g X.env;standAt pos;pure v]) _ _ _
 refine PyProof.Rows.evalAll_cons (zdY (jf (hl pins s1 σ H1 _ I1 q1) λv s2 ⟨y,H2,I2,r2,q2⟩=>zdY (wpAny_standAt (zdZ (PyProof.Rows.evalAll_nil ?_)))))
 obtain⟨l,q,xs,fd,sp,kf,R,rfl,rfl,c,hR,hlR,hne,turn,done⟩:=q2
 cases r1
 cases r2
 obtain⟨k,x,F,hr,hb⟩:=hC _ _ _ c
 show wpAny _ _ (call (.builtin "min") [.ref l] [(zdX "key",.ref q)]) _ _ _
 exact xC (R:=R) hc kf I2 hR hlR hne (λi x v P G s3 hx rx I3 hG=>Gh F hr hb I3 (.cons rx .nil) (turn i x G hx hG)) λi x v G s3 hx rx hbest I3 hG=>⟨x,G,I3,rx,done i x G hx hbest hG⟩)
end
end L2
namespace Rb
def jS(ns:List Nat):Nat:=ns.foldl (·^^^ ·) 0
def setN(ns:List Nat):Nat:=ns.foldl (λb n=>b ||| 2^n) 0
def memN(b n:Nat):List Nat:=(zab n).filter λi=>b.testBit i
def Lacks(r:Nat)(ns:List Nat):Prop:=r∉ns/\∀x,x < r->x∈ns
theorem My(x:Nat):x % 2=(x.testBit 0).toNat:=by
 rw[zdi]
 rcases Nat.mod_two_eq_zero_or_one x with h | h<;>simp [h]
theorem or_and_xor(a:Nat):∀b,(a ||| b)=(a&&& b)+(a^^^b):=by
 induction a using zcG with
 | ind a ih=>
  intro b
  by_cases ha:a=0
  ·subst ha;simp
  ·have i:=ih (a / 2) (by omega) (b / 2)
   have o1:(a ||| b) / 2=(a / 2) ||| (b / 2):=Nat.or_div_two
   have n1:(a&&& b) / 2=(a / 2)&&& (b / 2):=Nat.and_div_two
   have x1:(a^^^b) / 2=(a / 2)^^^ (b / 2):=Nat.xor_div_two
   have m:(a ||| b) % 2=(a&&& b) % 2+(a^^^b) % 2:=by
    rw[My (a ||| b),My (a&&& b),My (a^^^b),Nat.testBit_or,Nat.testBit_and,zbN]
    cases a.testBit 0<;>cases b.testBit 0<;>rfl
   omega
theorem Ka(ns:List Nat):∀b k,(ns.foldl (λb n=>b ||| 2^n) b).testBit k=(b.testBit k || decide (k∈ns)):=by
 induction ns with
 | nil=>intro b k;simp
 | cons n ns ih=>
  intro b k
  rw[zcH,ih,Nat.testBit_or,Nat.testBit_two_pow]
  by_cases h:n=k
  ·subst h;simp
  ·have h':¬k=n:=λe=>h e.symm
   simp [h,h']
theorem testBit_setN(ns:List Nat)(k:Nat):(setN ns).testBit k=decide (k∈ns):=by
 unfold setN
 rw[Ka]
 simp
theorem mem_memN{b n i:Nat}:i∈memN b n↔i < n/\b.testBit i=true:=by
 unfold memN
 simp
theorem VM{b k m:Nat}(h:b < 2^m)(hk:m<=k):b.testBit k=false:=Nat.testBit_lt_two_pow (tM h (Nat.pow_le_pow_right (by decide) hk))
theorem Wz{b m:Nat}(h:b < 2^m):∀n,m<=n->memN b n=memN b m:=by
 intro n hn
 obtain⟨k,rfl⟩:=Nat.le.dest hn
 unfold memN
 rw[List.range_add,zaN]
 have e:((zab k).map (m+·)).filter (λi=>b.testBit i)=[]:=by
  rw[List.filter_eq_nil_iff]
  intro i hi
  obtain⟨j,_,rfl⟩:=tL.mp hi
  rw[VM h (Nat.le_add_right _ _)]
  simp
 rw[e,zan]
theorem memN_same{b m n:Nat}(hm:b < 2^m)(hn:b < 2^n):memN b n=memN b m:=by
 by_cases h:m<=n
 ·exact Wz hm n h
 ·exact(Wz hn m (by omega)).symm
theorem kr{ns:List Nat}{m:Nat}(h:∀x∈ns,x < m):setN ns < 2^m:=by
 refine Nat.lt_pow_two_of_testBit _ λi hi=>?_
 rw[testBit_setN]
 refine decide_eq_false λz=>?_
 have:=h i z
 omega
def turnN(b n m:Nat):Nat:=setN ((memN b m).map (·^^^n))
theorem xor_lt{a b m:Nat}(h1:a < 2^m)(h2:b < 2^m):a^^^b < 2^m:=Nat.xor_lt_two_pow h1 h2
theorem vN(a b:Nat):(a^^^b)^^^b=a:=by rw[zbl,zbY,zdl]
theorem vQ{b n m k:Nat}(hm:m<=2^k)(hn:n < 2^k):turnN b n m < 2^ (2^k):=by
 refine kr λx hx=>?_
 obtain⟨y,hy,rfl⟩:=tL.mp hx
 exact xor_lt (tM (mem_memN.mp hy).1 hm) hn
theorem pigeon:∀(n:Nat) (ns:List Nat),(∀x,x < n->x∈ns)->n<=ns.length:=by
 intro n
 induction n with
 | zero=>intro ns _;exact zaw _
 | succ n ih=>
  intro ns h
  have hn:n∈ns:=h n (zaI n)
  have:=ih (ns.erase n) λx hx=>(zbW (by omega)).mpr (h x (zbS hx))
  rw[zce hn]at this
  have hp:0 < ns.length:=zbq hn
  omega
theorem Lacks.uniq{r s:Nat}{ns:List Nat}(h:Lacks r ns)(g:Lacks s ns):r=s:=by
 rcases zaJ r s with z | z | z
 ·exact absurd (g.2 r z) h.1
 ·exact z
 ·exact absurd (h.2 s z) g.1
def Za(ns:List Nat):Nat->Nat
 | 0=>0
 | i+1=>if Za ns i∈ns then Za ns i+1 else Za ns i
theorem vv(ns:List Nat):∀i,(∀x,x < Za ns i->x∈ns)/\Za ns i<=i/\(Za ns i < i->Za ns i∉ns):=by
 intro i
 induction i with
 | zero=>exact⟨λx hx=>absurd hx (zcm _),tz _,λh=>absurd h (zao _)⟩
 | succ i ih=>
  obtain⟨h1,h2,h3⟩:=ih
  unfold Za
  by_cases h:Za ns i∈ns
  ·rw[if_pos h]
   refine⟨λx hx=>?_,by omega,λhlt=>absurd h (h3 (by omega))⟩
   by_cases e:x=Za ns i
   ·rw[e];exact h
   ·exact h1 x (by omega)
  ·rw[if_neg h]
   exact⟨h1,by omega,λ_=>h⟩
theorem lackI_lacks(ns:List Nat):Lacks (Za ns (ns.length+1)) ns:=by
 obtain⟨h1,h2,h3⟩:=vv ns (ns.length+1)
 refine⟨h3 ?_,h1⟩
 have:=pigeon _ _ h1
 omega
def lackN(ns:List Nat):Nat:=Za ns (ns.length+1)
theorem lackN_eq{r:Nat}{ns:List Nat}(h:Lacks r ns):r=lackN ns:=h.uniq (lackI_lacks ns)
theorem memN_succ(b i:Nat):memN b (i+1)=memN b i++(if b.testBit i then [i] else []):=by
 unfold memN
 rw[zcn,zaN]
 congr 1
 by_cases h:b.testBit i=true
 ·simp [h]
 ·simp [h]
theorem testBit_div(b i:Nat):b.testBit i=decide (b / 2^i % 2=1):=by
 rw[Nat.testBit_eq_decide_div_mod_eq]
theorem Yg(ns:List Nat)(n:Nat):jS (ns++[n])=jS ns^^^n:=by unfold jS;rw[zcw];rfl
theorem setN_snoc(ns:List Nat)(n:Nat):setN (ns++[n])=setN ns ||| 2^n:=by unfold setN;rw[zcw];rfl
end Rb
namespace MLab
theorem vS:∀(g m:Nat),m < g->∃k,m.testBit k=false/\g.testBit k=true/\∀j,k < j->m.testBit j=g.testBit j:=by
 intro g
 induction g using zcG with
 | _ g ih=>
  intro m h
  by_cases c:m / 2 < g / 2
  ·obtain⟨k,h1,h2,h3⟩:=ih (g / 2) (by omega) (m / 2) c
   refine⟨k+1,by rw[zbG];exact h1,by rw[zbG];exact h2,λj hj=>?_⟩
   cases j with
   | zero=>omega
   | succ j=>rw[zbG,zbG];exact h3 j (by omega)
  ·have e:m / 2=g / 2:=by omega
   refine⟨0,?_,?_,λj hj=>?_⟩
   ·rw[zdi];simp;omega
   ·rw[zdi];simp;omega
   ·cases j with
    | zero=>omega
    | succ j=>rw[zbG,zbG,e]
theorem MA{x y:Nat}(k:Nat)(hx:x.testBit k=false)(hy:y.testBit k=true)(h:∀j,k < j->x.testBit j=y.testBit j):x < y:=by
 rcases zaJ x y with c | rfl | c
 ·exact c
 ·rw[hx]at hy;cases hy
 ·obtain⟨i,h1,h2,h3⟩:=vS _ _ c
  rcases zaJ i k with d | rfl | d
  ·have:=h3 k d;rw[hx,hy]at this;cases this
  ·rw[hy]at h1;cases h1
  ·have:=h i d;rw[h1,h2]at this;cases this
def jY(ns:List Nat):Nat:=ns.foldr (λa b=>a^^^b) 0
theorem Zv(a:Nat)(ns:List Nat):jY (a::ns)=a^^^jY ns:=rfl
theorem VF{k:Nat}:∀{ns:List Nat},(jY ns).testBit k=true->∃n∈ns,n.testBit k=true
 | [],h=>by simp [jY]at h
 | a::ns,h=>by
  rw[Zv,zbN]at h
  cases e:a.testBit k with
  | true=>exact⟨a,t8,e⟩
  | false=>
   rw[e,Bool.false_xor]at h
   obtain⟨n,hn,h'⟩:=VF h
   exact⟨n,tY _ hn,h'⟩
theorem yp{ns:List Nat}{m:Nat}(h:m < jY ns):∃n∈ns,n^^^jY ns^^^m < n:=by
 obtain⟨k,h1,h2,h3⟩:=vS _ _ h
 obtain⟨n,hn,hk⟩:=VF h2
 refine⟨n,hn,MA k ?_ hk λj hj=>?_⟩
 ·rw[zbN,zbN,hk,h1,h2];rfl
 ·rw[zbN,zbN,h3 j hj]
  cases n.testBit j<;>cases (jY ns).testBit j<;>rfl
section
variable{α:Type}(G:α->List α)
structure VD(ok:α->Prop)(num:α->Option Nat)(stp:α->Nat):Prop where
 cl:∀{x y},ok x->y∈G x->ok y
 n1:∀{x n m},ok x->num x=some n->m < n->∃y∈G x,num y=some m/\stp y < stp x
 n2:∀{x y n},ok x->num x=some n->y∈G x->num y≠some n
 n3:∀{x y n},ok x->num x=some n->y∈G x->(∀m,num y=some m->n < m)->∃z∈G y,num z=some n/\stp z < stp x
 n4:∀{x y n m},ok x->num x=some n->y∈G x->num y=some m->m < n->stp y < stp x
 e:∀{x m},ok x->num x=none->(∀j,j < m->∃y∈G x,num y=some j)->(∀y∈G x,num y≠some m)->∃y∈G x,num y=none/\∀z∈G y,num z≠some m
section
variable{β:Type}(M:β->List β)
mutual
inductive X3:β->Prop
 | mk {a:β} (h:∀b∈M a,Won b):X3 a
inductive Won:β->Prop
 | mk {a b:β} (m:b∈M a) (h:X3 b):Won a
end
end
def mv:List α->List (List α)
 | []=>[]
 | x::h=>(G x).map (λy=>y::h)++(mv h).map (λb=>x::b)
theorem jT:∀{a b:List α},b∈mv G a↔∃p x y q,a=p++x::q/\y∈G x/\b=p++y::q
 | [],b=>by
  constructor
  ·intro h;simp [mv]at h
  ·rintro⟨p,x,y,q,e,_⟩;simp at e
 | x::h,b=>by
  unfold mv
  rw[tX,tL,tL]
  constructor
  ·rintro(⟨y,hy,rfl⟩ | ⟨b',hb,rfl⟩)
   ·exact⟨[],x,y,h,rfl,hy,rfl⟩
   ·obtain⟨p,u,y,q,rfl,hy,rfl⟩:=jT.mp hb
    exact⟨x::p,u,y,q,rfl,hy,rfl⟩
  ·rintro⟨p,u,y,q,e,hy,rfl⟩
   cases p with
   | nil=>
    cases e
    exact .inl ⟨y,hy,rfl⟩
   | cons v p=>
    cases e
    exact .inr ⟨p++y::q,jT.mpr ⟨p,u,y,q,rfl,hy,rfl⟩,rfl⟩
variable{G}{ok:α->Prop}{num:α->Option Nat}{stp:α->Nat}
def nums(num:α->Option Nat)(h:List α):List Nat:=h.filterMap num
def ends(num:α->Option Nat)(h:List α):Nat:=(h.filter λx=>(num x).isNone).length
theorem VG(a b:List Nat):jY (a++b)=jY a^^^jY b:=by
 induction a with
 | nil=>show jY b=0^^^jY b;rw[zcx]
 | cons x a ih=>rw[zcz,Zv,ih,Zv,zbl]
theorem j7{p q:List α}{x:α}{n:Nat}(h:num x=some n):jY (nums num (p++x::q))=n^^^jY (nums num (p++q)):=by
 unfold nums
 rw[zap,zas,h,zap,VG,VG]
 show _^^^ (n^^^jY _)=_
 rw[<-zbl,zdO _ n,zbl]
theorem XD{p q:List α}{x:α}(h:num x=none):nums num (p++x::q)=nums num (p++q):=by
 unfold nums
 rw[zap,zas,h,zap]
theorem jD{p q:List α}{x:α}{n:Nat}(h:num x=some n):ends num (p++x::q)=ends num (p++q):=by
 unfold ends
 rw[zaN,zbt,h,zaN]
 rfl
theorem jR{p q:List α}{x:α}(h:num x=none):ends num (p++x::q)=ends num (p++q)+1:=by
 unfold ends
 rw[zaN,zbt,h,zaN,tH,tH]
 show _+(_+1)=_
 omega
def UC(stp:α->Nat)(h:List α):Nat:=(h.map stp).sum
theorem Zq{p q:List α}{x:α}:UC stp (p++x::q)=stp x+UC stp (p++q):=by
 unfold UC
 rw[tI,tU,zcl,zaV,tI,zcl]
 omega
theorem Y7{a b c:Nat}(h:a^^^c=b^^^c):a=b:=by
 have:a^^^c^^^c=b^^^c^^^c:=by rw[h]
 rwa [zbl,zbl,zbY,zdl,zdl]at this
theorem WS(L:VD G ok num stp){h:List α}(hk:∀x∈h,ok x){m:Nat}(lt:m < jY (nums num h)):∃p x y q,h=p++x::q/\y∈G x/\(∃n k,num x=some n/\num y=some k)/\jY (nums num (p++y::q))=m/\stp y < stp x:=by
 obtain⟨n,hn,hl⟩:=yp lt
 obtain⟨x,hx,ex⟩:=zaF.mp hn
 obtain⟨p,q,rfl⟩:=zcT hx
 obtain⟨y,hy,ey,ly⟩:=L.n1 (hk x hx) ex hl
 refine⟨p,x,y,q,rfl,hy,⟨n,_,ex,ey⟩,?_,ly⟩
 rw[j7 ey,j7 ex]
 generalize jY (nums num (p++q))=r
 rw[<-zbl n n r,zbY,zcx,zdO r m,zbl,zbY,zdl]
theorem Z2{h p q:List α}{x y:α}(L:VD G ok num stp)(hk:∀x∈h,ok x)(e:h=p++x::q)(hy:y∈G x):∀z∈p++y::q,ok z:=λz hz=>by
 subst e
 rcases tX.mp hz with hz | hz
 ·exact hk z (zaj _ hz)
 ·rcases tS.mp hz with rfl | hz
  ·exact L.cl (hk x (by simp)) hy
  ·exact hk z (tJ _ (tY _ hz))
theorem xf(L:VD G ok num stp):∀(c:Nat) {h:List α},UC stp h<=c->(∀x∈h,ok x)->ends num h=0->jY (nums num h)=0->X3 (mv G) h:=by
 intro c
 induction c using zcG with
 | _ c ih=>
  intro h hc hk he hx
  refine .mk λb hb=>?_
  obtain⟨p,x,y,q,rfl,hy,rfl⟩:=(jT G).mp hb
  have okx:=hk x (by simp)
  have hk':=Z2 L hk rfl hy
  cases ex:num x with
  | none=>rw[jR ex]at he;omega
  | some n=>
   rw[jD ex]at he
   rw[j7 ex]at hx
   rw[Zq]at hc
   have back:(∀m,num y=some m->n < m)->Won (mv G) (p++y::q):=λgt=>by
    obtain⟨z,hz,ez,lz⟩:=L.n3 okx ex hy gt
    refine .mk (b:=p++z::q) ((jT G).mpr ⟨p,y,z,q,rfl,hz,rfl⟩) (ih (UC stp (p++z::q)) (by rw[Zq];omega) (tz _) (Z2 L hk' rfl hz) (by rw[jD ez];exact he) (by rw[j7 ez];exact hx))
   cases ey:num y with
   | none=>exact back λm h=>by rw[ey]at h;cases h
   | some k=>
    rcases zaJ k n with lt | rfl | gt
    ·have ly:=L.n4 okx ex hy ey lt
     have pos:0 < jY (nums num (p++y::q)):=by
      rw[j7 ey]
      refine zdI λz=>?_
      have:=Y7 (z.trans hx.symm)
      omega
     obtain⟨p',x',y',q',e',hy',⟨n',k',en,ek⟩,x0,l'⟩:=WS L hk' pos
     have ce:UC stp (p++y::q)=stp y+UC stp (p++q):=Zq
     rw[e',Zq]at ce
     have ee:ends num (p++y::q)=0:=by rw[jD ey];exact he
     refine .mk (b:=p'++y'::q') ((jT G).mpr ⟨p',x',y',q',e',hy',rfl⟩) (ih (UC stp (p'++y'::q')) (by rw[Zq];omega) (tz _) (Z2 L hk' e' hy') ?_ x0)
     rw[e',jD en]at ee
     rw[jD ek]
     exact ee
    ·exact absurd ey (L.n2 okx ex hy)
    ·exact back λm h=>by rw[ey]at h;cases h;exact gt
def Drawn(G:α->List α)(num:α->Option Nat)(h:List α):Prop:=(∃p x q,h=p++x::q/\num x=none/\ends num (p++q)=0/\∀y∈G x,num y≠some (jY (nums num (p++q))))\/2<=ends num h
theorem Zp{h:List α}:0 < ends num h↔∃p x q,h=p++x::q/\num x=none:=by
 unfold ends
 constructor
 ·intro c
  obtain⟨x,hx⟩:=List.exists_mem_of_length_pos c
  obtain⟨h1,h2⟩:=zad.mp hx
  obtain⟨p,q,e⟩:=zcT h1
  exact⟨p,x,q,e,by simpa using h2⟩
 ·rintro⟨p,x,q,rfl,ex⟩
  exact zbq (a:=x) (zad.mpr ⟨by simp,by rw[ex];rfl⟩)
theorem lack(L:VD G ok num stp){x:α}(okx:ok x)(ex:num x=none):∃m,(∀j,j < m->∃y∈G x,num y=some j)/\(∀y∈G x,num y≠some m)/\∃y∈G x,num y=none/\∀z∈G y,num z≠some m:=by
 have ⟨b,hb⟩:∃b,∀y∈G x,num y≠some b:=by
  refine⟨(nums num (G x)).sum+1,λy hy e=>?_⟩
  have:∀(l:List Nat) (n:Nat),n∈l->n<=l.sum:=by
   intro l
   induction l with
   | nil=>intro n h;cases h
   | cons a l ih=>
    intro n h
    rw[zaV]
    rcases tS.mp h with rfl | h
    ·omega
    ·have:=ih n h;omega
  have q:(nums num (G x)).sum+1∈nums num (G x):=zaF.mpr ⟨y,hy,e⟩
  have:=this _ _ q
  omega
 have ⟨m,hm,least⟩:∃m,(∀y∈G x,num y≠some m)/\∀j,j < m->¬∀y∈G x,num y≠some j:=by
  induction b using zcG with
  | _ b ih=>
   by_cases c:∃j,j < b/\∀y∈G x,num y≠some j
   ·obtain⟨j,hj,h⟩:=c
    exact ih j hj h
   ·exact⟨b,hb,λj hj h=>c ⟨j,hj,h⟩⟩
 have lo:∀j,j < m->∃y∈G x,num y=some j:=λj hj=>Classical.byContradiction λn=>least j hj λy hy e=>n ⟨y,hy,e⟩
 exact⟨m,lo,hm,L.e okx ex lo hm⟩
theorem Kh(L:VD G ok num stp){h:List α}(hk:∀x∈h,ok x)(d:Drawn G num h):∃b∈mv G h,Drawn G num b:=by
 rcases d with ⟨p,x,q,rfl,ex,he,no⟩ | two
 ·have okx:=hk x (by simp)
  obtain⟨m,lo,hm,y,hy,ey,ly⟩:=lack L okx ex
  rcases zaJ m (jY (nums num (p++q))) with lt | e | gt
  ·have hk':∀z∈p++q,ok z:=λz hz=>hk z (by
    rcases tX.mp hz with hz | hz
    ·exact zaj _ hz
    ·exact tJ _ (tY _ hz))
   obtain⟨p',x',y',q',e',hy',⟨n',k',en,ek⟩,x0,_⟩:=WS L hk' lt
   have key:∃p2 q2,p++x::q∈[p++x::q]/\(p2++x::q2)∈mv G (p++x::q)/\p2++q2=p'++y'::q':=by
    rcases List.append_eq_append_iff.mp e' with ⟨r,e1,e2⟩ | ⟨r,e1,e2⟩
    ·
     refine⟨p,r++y'::q',by simp,(jT G).mpr ⟨p++x::r,x',y',q',?_,hy',?_⟩,?_⟩
     ·rw[e2];simp
     ·simp
     ·rw[e1];simp
    ·
     cases r with
     | nil=>
      simp at e1 e2
      refine⟨p,y'::q',by simp,(jT G).mpr ⟨p++[x],x',y',q',?_,hy',?_⟩,?_⟩
      ·rw[<-e2];simp
      ·simp
      ·rw[e1]
     | cons u r=>
      rw[zcz]at e2
      obtain⟨rfl,e3⟩:=List.cons.inj e2
      refine⟨p'++y'::r,q,by simp,(jT G).mpr ⟨p',x',y',r++x::q,?_,hy',?_⟩,?_⟩
      ·rw[e1];simp
      ·simp
      ·rw[e3];simp
   obtain⟨p2,q2,_,hm2,e2⟩:=key
   refine⟨_,hm2,.inl ⟨p2,x,q2,rfl,ex,?_,?_⟩⟩
   ·rw[e2,jD ek]
    rw[e',jD en]at he
    exact he
   ·rw[e2,x0]
    exact hm
  ·exact⟨p++y::q,(jT G).mpr ⟨p,x,y,q,rfl,hy,rfl⟩,.inl ⟨p,y,q,rfl,ey,he,by rw[<-e];exact ly⟩⟩
  ·obtain⟨y',hy',e'⟩:=lo _ gt
   exact absurd e' (no y' hy')
 ·obtain⟨p,x,q,rfl,ex⟩:=Zp.mp (by omega:0 < ends num h)
  obtain⟨m,lo,hm,y,hy,ey,ly⟩:=lack L (hk x (by simp)) ex
  refine⟨p++y::q,(jT G).mpr ⟨p,x,y,q,rfl,hy,rfl⟩,.inr ?_⟩
  rw[jR ex]at two
  rw[jR ey]
  exact two
def YB(num:α->Option Nat)(h:List α):Prop:=ends num h=0/\jY (nums num h)=0
theorem yo(L:VD G ok num stp){h b:List α}(hk:∀x∈h,ok x)(z:YB num h)(m:b∈mv G h):¬YB num b:=λw=>by
 obtain⟨p,x,y,q,rfl,hy,rfl⟩:=(jT G).mp m
 cases ex:num x with
 | none=>have:=z.1;rw[jR ex]at this;omega
 | some n=>
  cases ey:num y with
  | none=>have:=w.1;rw[jR ey]at this;omega
  | some k=>
   have h1:=z.2
   have h2:=w.2
   rw[j7 ex]at h1
   rw[j7 ey]at h2
   have:=Y7 (h1.trans h2.symm)
   subst this
   exact L.n2 (hk x (by simp)) ex hy ey
theorem XV{h b:List α}(d:Drawn G num h)(m:b∈mv G h):¬YB num b:=λw=>by
 obtain⟨p',u,y,q',rfl,hy,rfl⟩:=(jT G).mp m
 cases eu:num u with
 | some n=>
  have pos:0 < ends num (p'++u::q'):=by
   rcases d with ⟨p,x,q,e,ex,_⟩ | two
   ·exact Zp.mpr ⟨p,x,q,e,ex⟩
   ·omega
  rw[jD eu]at pos
  have w1:=w.1
  cases ey:num y with
  | none=>rw[jR ey]at w1;omega
  | some k=>rw[jD ey]at w1;omega
 | none=>
  have w1:=w.1
  cases ey:num y with
  | none=>rw[jR ey]at w1;omega
  | some k=>
   rw[jD ey]at w1
   rcases d with ⟨p,x,q,e,ex,he,no⟩ | two
   ·have hu:u∈p++x::q:=by rw[<-e];simp
    have ux:u=x:=Classical.byContradiction λne=>by
     have:u∈p++q:=by
      rcases tX.mp hu with h | h
      ·exact zaj _ h
      ·rcases tS.mp h with h | h
       ·exact absurd h ne
       ·exact tJ _ h
     obtain⟨a,b,e2⟩:=zcT this
     have:=Zp.mpr ⟨a,u,b,e2,eu⟩
     omega
    subst ux
    have en:nums num (p'++q')=nums num (p++q):=by rw[<-XD (p:=p') (q:=q') eu,e,XD eu]
    have w2:=w.2
    rw[j7 ey,en]at w2
    have:k=jY (nums num (p++q)):=Y7 (c:=jY (nums num (p++q))) (by rw[w2,zbY])
    exact no y hy (by rw[ey,this])
   ·rw[jR eu]at two
    omega
theorem kind(L:VD G ok num stp){h:List α}(hk:∀x∈h,ok x):YB num h\/Drawn G num h\/∃b∈mv G h,YB num b/\∀x∈b,ok x:=by
 rcases zaJ (ends num h) 1 with c | c | c
 ·have he:ends num h=0:=by omega
  by_cases hx:jY (nums num h)=0
  ·exact .inl ⟨he,hx⟩
  ·obtain⟨p,x,y,q,e,hy,⟨n,k,en,ek⟩,x0,_⟩:=WS L hk (zdI hx)
   refine .inr (.inr ⟨p++y::q,(jT G).mpr ⟨p,x,y,q,e,hy,rfl⟩,⟨?_,x0⟩,Z2 L hk e hy⟩)
   rw[e,jD en]at he
   rw[jD ek]
   exact he
 ·obtain⟨p,x,q,rfl,ex⟩:=Zp.mp (by omega:0 < ends num h)
  rw[jR ex]at c
  have he:ends num (p++q)=0:=by omega
  by_cases d:∃y∈G x,num y=some (jY (nums num (p++q)))
  ·obtain⟨y,hy,ey⟩:=d
   exact .inr (.inr ⟨p++y::q,(jT G).mpr ⟨p,x,y,q,rfl,hy,rfl⟩,⟨by rw[jD ey];exact he,by rw[j7 ey,zbY]⟩,Z2 L hk rfl hy⟩)
  ·exact .inr (.inl (.inl ⟨p,x,q,rfl,ex,he,λy hy e=>d ⟨y,hy,e⟩⟩))
 ·exact .inr (.inl (.inr (by omega)))
mutual
theorem kU(L:VD G ok num stp){h:List α}(hk:∀x∈h,ok x):X3 (mv G) h->YB num h
 | .mk w=>by
  rcases kind L hk with z | d | ⟨b,hb,z,kb⟩
  ·exact z
  ·obtain⟨b,hb,d'⟩:=Kh L hk d
   have kb:∀x∈b,ok x:=by
    obtain⟨p,x,y,q,e,hy,rfl⟩:=(jT G).mp hb
    exact Z2 L hk e hy
   exact absurd d' (won_is L kb (w b hb)).1
  ·exact absurd z (won_is L kb (w b hb)).2
theorem won_is(L:VD G ok num stp){h:List α}(hk:∀x∈h,ok x):Won (mv G) h->¬Drawn G num h/\¬YB num h
 | .mk (b:=b) m l=>by
  have kb:∀x∈b,ok x:=by
   obtain⟨p,x,y,q,e,hy,rfl⟩:=(jT G).mp m
   exact Z2 L hk e hy
  have z:=kU L kb l
  exact⟨λd=>XV d m z,λz'=>yo L hk z' m z⟩
end
theorem Um(L:VD G ok num stp){h:List α}(hk:∀x∈h,ok x):X3 (mv G) h↔YB num h:=⟨kU L hk,λz=>xf L _ (tz _) hk z.1 z.2⟩
theorem KE(L:VD G ok num stp){h:List α}(hk:∀x∈h,ok x):Won (mv G) h↔¬Drawn G num h/\¬YB num h:=⟨won_is L hk,λ⟨d,z⟩=>by
 rcases kind L hk with z' | d' | ⟨b,hb,z',kb⟩
 ·exact absurd z' z
 ·exact absurd d' d
 ·exact .mk hb ((Um L kb).mpr z')⟩
end
section
variable{α:Type}[DecidableEq α](G:α->List α)(N:List α)
abbrev Rs(α:Type):=List (Nat×List α)
def qI(rs:Rs α)(z:α):Option Nat:=(rs.find? λr=>decide (z∈r.2)).map (·.1)
def Jc(rs:Rs α)(z:α):Nat:=rs.findIdx λr=>decide (z∈r.2)
def YE(f:α->Option Nat)(x:α)(n:Nat):Prop:=(∀j,j < n->∃y∈G x,f y=some j)/\(∀y∈G x,f y≠some n)/\∀y∈G x,f y=none->∃z∈G y,f z=some n
structure UL(rs:Rs α)(n:Nat)(ns:List α):Prop where
 iff:∀x,x∈ns↔x∈N/\qI rs x=none/\YE G (qI rs) x n
 sub:ns.Sublist N
inductive Qv(n:Nat):Rs α->Rs α->Prop
 | stop {rs:Rs α} (h:UL G N rs n []):Qv n rs rs
 | more {rs rs':Rs α} {ns:List α} (h:UL G N rs n ns) (ne:ns≠[]) (k:Qv n (rs++[(n,ns)]) rs'):Qv n rs rs'
inductive All:Nat->Rs α->Rs α->Prop
 | stop {n:Nat} {rs:Rs α} (h:UL G N rs n []):All n rs rs
 | more {n:Nat} {rs rs' rs'':Rs α} (h:Qv G N n rs rs') (ne:rs'≠rs) (k:All (n+1) rs' rs''):All n rs rs''
variable{G N}
theorem JK{rs:Rs α}{n:Nat}{ns:List α}{z:α}:qI (rs++[(n,ns)]) z=match qI rs z with | some m=>some m | none=>if z∈ns then some n else none:=by
 unfold qI
 rw[List.find?_append]
 cases e:rs.find? (λr=>decide (z∈r.2)) with
 | some r=>rfl
 | none=>
  by_cases c:z∈ns
  ·simp [c]
  ·simp [c]
theorem Y1{rs:Rs α}{z:α}:qI rs z=none↔∀r∈rs,z∉r.2:=by
 unfold qI
 rw[Option.map_eq_none_iff,zdH]
 simp
theorem Je{rs:Rs α}{n m:Nat}{ns:List α}{z:α}(h:qI rs z=some m):Jc (rs++[(n,ns)]) z=Jc rs z/\Jc rs z < rs.length:=by
 have ex:∃r∈rs,z∈r.2:=Classical.byContradiction λno=>by
  have:=Y1.mpr λr hr hz=>no ⟨r,hr,hz⟩
  rw[h]at this
  cases this
 obtain⟨r,hr,hz⟩:=ex
 have lt:Jc rs z < rs.length:=List.findIdx_lt_length_of_exists ⟨r,hr,decide_eq_true hz⟩
 refine⟨?_,lt⟩
 unfold Jc at lt ⊢
 rw[zdB,if_pos lt]
theorem kA{rs:Rs α}{n:Nat}{ns:List α}{z:α}(h:qI rs z=none)(hz:z∈ns):Jc (rs++[(n,ns)]) z=rs.length:=by
 have e:Jc rs z=rs.length:=by
  unfold Jc
  rw[List.findIdx_eq_length]
  intro r hr
  exact decide_eq_false (Y1.mp h r hr)
 unfold Jc at e ⊢
 rw[zdB,if_neg (by rw[e];exact zao _)]
 simp [hz,List.findIdx_cons]
variable(G N) in
structure NK(rs:Rs α)(n:Nat):Prop where
 inN:∀{x m},qI rs x=some m->x∈N
 le:∀{x m},qI rs x=some m->m<=n
 n1:∀{x k m},qI rs x=some k->m < k->∃y∈G x,qI rs y=some m/\Jc rs y < Jc rs x
 n2:∀{x y k},qI rs x=some k->y∈G x->qI rs y≠some k
 n3:∀{x y k},qI rs x=some k->y∈G x->(∀m,qI rs y=some m->k < m)->∃z∈G y,qI rs z=some k/\Jc rs z < Jc rs x
 n4:∀{x y k m},qI rs x=some k->y∈G x->qI rs y=some m->m < k->Jc rs y < Jc rs x
theorem ZU{rs:Rs α}{n m:Nat}{ns:List α}{z:α}(h:qI rs z=some m):qI (rs++[(n,ns)]) z=some m:=by rw[JK,h]
theorem k8{rs:Rs α}{n:Nat}{ns:List α}{z:α}(h:qI rs z=none)(hz:z∈ns):qI (rs++[(n,ns)]) z=some n:=by
 rw[JK,h]
 exact if_pos hz
theorem Qb{rs:Rs α}{n m:Nat}{ns:List α}{z:α}(h:qI (rs++[(n,ns)]) z=some m):(qI rs z=some m/\Jc (rs++[(n,ns)]) z=Jc rs z/\Jc rs z < rs.length)\/(qI rs z=none/\z∈ns/\m=n/\Jc (rs++[(n,ns)]) z=rs.length):=by
 cases e:qI rs z with
 | some k=>
  rw[ZU e]at h
  cases h
  exact .inl ⟨rfl,Je e⟩
 | none=>
  rw[JK,e]at h
  by_cases c:z∈ns
  ·have h:(if z∈ns then some n else none)=some m:=h
   rw[if_pos c]at h
   cases h
   exact .inr ⟨rfl,c,rfl,kA e c⟩
  ·have h:(if z∈ns then some n else none)=some m:=h
   rw[if_neg c]at h
   cases h
theorem Kc{rs:Rs α}{n:Nat}{ns:List α}{z:α}(h:qI (rs++[(n,ns)]) z=none):qI rs z=none:=by
 cases e:qI rs z with
 | none=>rfl
 | some k=>rw[ZU e]at h;cases h
theorem NK.more{rs:Rs α}{n:Nat}{ns:List α}(v:NK G N rs n)(r:UL G N rs n ns):NK G N (rs++[(n,ns)]) n:=by
 refine⟨λ{x m} h=>?_,λ{x m} h=>?_,λ{x k m} h lt=>?_,λ{x y k} h hy e=>?_,λ{x y k} h hy gt=>?_,λ{x y k m} h hy ey lt=>?_⟩
 ·rcases Qb h with ⟨h,_⟩ | ⟨_,h,_⟩
  ·exact v.inN h
  ·exact((r.iff x).mp h).1
 ·rcases Qb h with ⟨h,_⟩ | ⟨_,_,rfl,_⟩
  ·exact v.le h
  ·exact tz _
 ·rcases Qb h with ⟨h,es,_⟩ | ⟨h,hx,rfl,es⟩
  ·obtain⟨y,hy,ey,ly⟩:=v.n1 h lt
   exact⟨y,hy,ZU ey,by rw[es,(Je ey).1];exact ly⟩
  ·obtain⟨y,hy,ey⟩:=((r.iff x).mp hx).2.2.1 m lt
   exact⟨y,hy,ZU ey,by rw[es,(Je (n:=k) (ns:=ns) ey).1];exact(Je (n:=k) (ns:=ns) ey).2⟩
 ·rcases Qb h with ⟨h,_⟩ | ⟨h,hx,rfl,_⟩
  ·rcases Qb e with ⟨e,_⟩ | ⟨e1,hy',e2,_⟩
   ·exact v.n2 h hy e
   ·obtain⟨z,hz,ez,_⟩:=v.n3 h hy (λm q=>by rw[e1]at q;cases q)
    rw[e2]at ez
    exact((r.iff y).mp hy').2.2.2.1 z hz ez
  ·have g:=((r.iff x).mp hx).2.2
   rcases Qb e with ⟨e,_⟩ | ⟨e,hy',_,_⟩
   ·exact g.2.1 y hy e
   ·obtain⟨z,hz,ez⟩:=g.2.2 y hy e
    exact((r.iff y).mp hy').2.2.2.1 z hz ez
 ·rcases Qb h with ⟨h,es,_⟩ | ⟨h,hx,rfl,es⟩
  ·obtain⟨z,hz,ez,lz⟩:=v.n3 h hy (λm q=>gt m (ZU q))
   exact⟨z,hz,ZU ez,by rw[es,(Je ez).1];exact lz⟩
  ·have bare:qI rs y=none:=by
    cases e:qI rs y with
    | none=>rfl
    | some m=>
     have:=gt m (ZU e)
     have:=v.le e
     omega
   obtain⟨z,hz,ez⟩:=((r.iff x).mp hx).2.2.2.2 y hy bare
   exact⟨z,hz,ZU ez,by rw[es,(Je (n:=k) (ns:=ns) ez).1];exact(Je (n:=k) (ns:=ns) ez).2⟩
 ·rcases Qb h with ⟨h,es,_⟩ | ⟨h,hx,rfl,es⟩
  ·rcases Qb ey with ⟨ey,es',_⟩ | ⟨_,_,em,_⟩
   ·rw[es,es']
    exact v.n4 h hy ey lt
   ·have:=v.le h
    omega
  ·rcases Qb ey with ⟨ey,es',l'⟩ | ⟨_,_,rfl,_⟩
   ·rw[es,es']
    exact l'
   ·omega
variable(G N) in
def EP(rs:Rs α)(m:Nat):Prop:=∀x∈N,qI rs x=none->(∀j,j < m->∃y∈G x,qI rs y=some j)->(∀y∈G x,qI rs y≠some m)->∃y∈G x,qI rs y=none/\∀z∈G y,qI rs z≠some m
theorem Ke{rs:Rs α}{n:Nat}(r:UL G N rs n []):EP G N rs n:=λx hx e lo hi=>Classical.byContradiction λno=>by
 refine absurd ((r.iff x).mpr ⟨hx,e,lo,hi,λy hy ey=>Classical.byContradiction λq=>no ⟨y,hy,ey,λz hz ez=>q ⟨z,hz,ez⟩⟩⟩) (by simp)
theorem RW{rs:Rs α}{n m:Nat}{ns:List α}(v:NK G N rs n)(r:UL G N rs n ns)(lt:m < n)(h:EP G N rs m):EP G N (rs++[(n,ns)]) m:=λx hx e lo hi=>by
 have old:∀{z j},j<=m->qI (rs++[(n,ns)]) z=some j->qI rs z=some j:=λ{z j} hj ez=>by
  rcases Qb ez with ⟨ez,_⟩ | ⟨_,_,rfl,_⟩
  ·exact ez
  ·omega
 obtain⟨y,hy,ey,ly⟩:=h x hx (Kc e) (λj hj=>let ⟨y,hy,ey⟩:=lo j hj;⟨y,hy,old (by omega) ey⟩) (λy hy ey=>hi y hy (ZU ey))
 refine⟨y,hy,?_,λz hz ez=>ly z hz (old (tz _) ez)⟩
 cases q:qI (rs++[(n,ns)]) y with
 | none=>rfl
 | some k=>
  rcases Qb q with ⟨q,_⟩ | ⟨_,hy',rfl,_⟩
  ·rw[ey]at q;cases q
  ·obtain⟨z,hz,ez⟩:=((r.iff y).mp hy').2.2.1 m lt
   exact absurd ez (ly z hz)
theorem RL{n:Nat}{rs rs':Rs α}(g:Qv G N n rs rs'):NK G N rs n->(∀m,m < n->EP G N rs m)->NK G N rs' n/\∀m,m<=n->EP G N rs' m:=by
 induction g with
 | stop r=>exact λv h=>⟨v,λm hm=>by
  rcases zbX m n with c | c
  ·exact h m c
  ·have:m=n:=by omega
   subst this
   exact Ke r⟩
 | more r ne k ih=>exact λv h=>ih (v.more r) λm hm=>RW v r hm (h m hm)
theorem M6(cl:∀x∈N,∀y∈G x,y∈N){n:Nat}{rs rs':Rs α}(a:All G N n rs rs'):NK G N rs n->(∀x m,qI rs x=some m->m < n)->(∀m,m < n->EP G N rs m)->VD G (·∈N) (qI rs') (Jc rs'):=by
 induction a with
 | @stop n rs r=>
  intro v lt h
  refine⟨λ{x y} hx hy=>cl x hx y hy,λ{x n m} _=>v.n1,λ{x y n} _=>v.n2,λ{x y n} _=>v.n3,λ{x y n m} _=>v.n4,λ{x m} hx e lo hi=>?_⟩
  rcases zaJ m n with c | rfl | c
  ·exact h m c x hx e lo hi
  ·exact Ke r x hx e lo hi
  ·obtain⟨y,_,ey⟩:=lo n c
   have:=lt y n ey
   omega
 | @more n rs rs1 rs2 g ne k ih=>
  intro v lt h
  obtain⟨v',h'⟩:=RL g v h
  exact ih ⟨v'.inN,λ{x m} e=>Nat.le_succ_of_le (v'.le e),v'.n1,v'.n2,v'.n3,v'.n4⟩ (λx m e=>Nat.lt_succ_of_le (v'.le e)) λm hm=>h' m (by omega)
theorem KH(n:Nat):NK G N ([]:Rs α) n:=⟨λh=>(nomatch h),λh=>(nomatch h),λh=>(nomatch h),λh=>(nomatch h),λh=>(nomatch h),λh=>(nomatch h)⟩
theorem uH(cl:∀x∈N,∀y∈G x,y∈N){rs:Rs α}(a:All G N 0 [] rs):VD G (·∈N) (qI rs) (Jc rs):=M6 cl a (KH 0) (λx m h=>(nomatch h)) λm h=>absurd h (zcm m)
end
end MLab
namespace Rb
theorem Qj{b n k:Nat}(hn:n < 16):(turnN b n 16).testBit k=(decide (k < 16)&&b.testBit (k^^^n)):=by
 unfold turnN
 rw[testBit_setN,zbg,decide_eq_true_iff,zar,decide_eq_true_iff,tL]
 constructor
 ·rintro⟨y,hy,rfl⟩
  obtain⟨h1,h2⟩:=mem_memN.mp hy
  exact⟨xor_lt (m:=4) h1 hn,by rw[vN];exact h2⟩
 ·rintro⟨h1,h2⟩
  exact⟨k^^^n,mem_memN.mpr ⟨xor_lt (m:=4) h1 hn,h2⟩,vN k n⟩
theorem yw{b x y:Nat}(hx:x < 16)(hy:y < 16):turnN (turnN b x 16) y 16=turnN b (x^^^y) 16:=by
 refine zdx λk=>?_
 have hxy:x^^^y < 16:=xor_lt (m:=4) hx hy
 rw[Qj hy,Qj hx,Qj hxy,zbl,zdO y x]
 by_cases hk:k < 16
 ·rw[decide_eq_true hk,decide_eq_true (xor_lt (m:=4) hk hy)]
  simp
 ·rw[decide_eq_false hk]
  simp
theorem xJ(n:Nat):turnN 0 n 16=0:=by
 unfold turnN
 have e:memN 0 16=[]:=by decide
 rw[e]
 rfl
inductive W where
 | num (n:Nat)
 | edl (b:Nat)
deriving DecidableEq
def zp:W->W->W
 | .num a,.num b=>.num (a^^^b)
 | .num a,.edl b=>.edl (turnN b a 16)
 | .edl b,.num a=>.edl (turnN b a 16)
 | .edl _,.edl _=>.edl 0
def zW:W->Prop
 | .num n=>n < 16
 | .edl b=>b < 65536
def Q4(ws:List W):List Nat:=ws.filterMap λ| .num n=>some n | .edl _=>none
def j6(ws:List W):List Nat:=ws.filterMap λ| .num _=>none | .edl b=>some b
def Qi(ws:List W):W:=match j6 ws with
 | []=>.num (jS (Q4 ws))
 | [b]=>.edl (turnN b (jS (Q4 ws)) 16)
 | _=>.edl 0
theorem xw(ns:List Nat):∀a,ns.foldl (·^^^ ·) a=a^^^jS ns:=by
 induction ns with
 | nil=>intro a;simp [jS]
 | cons n ns ih=>
  intro a
  unfold jS
  rw[zcH,zcH,ih (a^^^n),ih (0^^^n),zcx,zbl]
theorem Yh(n:Nat)(ns:List Nat):jS (n::ns)=n^^^jS ns:=by
 show ns.foldl (·^^^ ·) (0^^^n)=_
 rw[xw,zcx]
theorem zH{ns:List Nat}(h:∀x∈ns,x < 16):jS ns < 16:=by
 induction ns with
 | nil=>decide
 | cons n ns ih=>
  rw[Yh]
  exact xor_lt (m:=4) (h n (t8 ..)) (ih λx hx=>h x (tY _ hx))
theorem Vh{ws:List W}(h:∀w∈ws,zW w):∀x∈Q4 ws,x < 16:=by
 intro x hx
 obtain⟨w,hw,e⟩:=zaF.mp hx
 cases w with
 | num n=>cases e;exact h _ hw
 | edl b=>cases e
theorem zX(ws:List W)(w:W):Q4 (ws++[w])=Q4 ws++(match w with | .num n=>[n] | .edl _=>[]):=by
 unfold Q4
 rw[zap]
 cases w<;>rfl
theorem zO(ws:List W)(w:W):j6 (ws++[w])=j6 ws++(match w with | .num _=>[] | .edl b=>[b]):=by
 unfold j6
 rw[zap]
 cases w<;>rfl
theorem xK{ws:List W}{w:W}(h:∀w∈ws,zW w)(hw:zW w):Qi (ws++[w])=zp (Qi ws) w:=by
 have hl:=zH (Vh h)
 unfold Qi
 rw[zO,zX]
 cases w with
 | num n=>
  simp only[zan]
  have e:jS (Q4 ws++[n])=jS (Q4 ws)^^^n:=Yg _ _
  cases hs:j6 ws with
  | nil=>simp only[e];rfl
  | cons b r=>
   cases r with
   | nil=>
    simp only[e]
    show W.edl _=W.edl _
    rw[yw hl hw]
   | cons c r=>
    show W.edl 0=W.edl _
    rw[xJ]
 | edl b=>
  simp only[zan]
  cases hs:j6 ws with
  | nil=>rfl
  | cons c r=>
   cases r with
   | nil=>rfl
   | cons c2 r=>rfl
theorem xL{ws:List W}(h:∀w∈ws,zW w):zW (Qi ws):=by
 have hl:=zH (Vh h)
 unfold Qi
 split
 ·exact hl
 ·exact vQ (k:=4) (tz _) hl
 ·show 0 < 65536;decide
theorem Kb{ws:List W}(h:∀w∈ws,zW w):∀i,i<=ws.length->(ws.take i).foldl zp (.num 0)=Qi (ws.take i):=by
 intro i
 induction i with
 | zero=>intro _;rfl
 | succ i ih=>
  intro hi
  have hlt:i < ws.length:=hi
  have e:ws.take (i+1)=ws.take i++[ws[i]]:=by rw[tP,tE hlt];rfl
  rw[e,zcw,ih (zai hlt),xK (λw hw=>h w (zbz hw)) (h _ (zbu hlt))]
  rfl
theorem Uw{ws:List W}(h:∀w∈ws,zW w):ws.foldl zp (.num 0)=Qi ws:=by
 have:=Kb h ws.length (tz _)
 rw[tF (tz _)]at this
 exact this
end Rb
namespace MLab
section
variable{α:Type}(G:α->List α)
def mvs(b:α×Nat):List (α×Nat):=(G b.1).map (λy=>(y,b.2))++(zab b.2).map λk=>(b.1,k)
def gS:α ⊕ Nat->List (α ⊕ Nat)
 | .inl z=>(G z).map .inl
 | .inr h=>(zab h).map .inr
def vi(num:α->Option Nat):α ⊕ Nat->Option Nat
 | .inl z=>num z
 | .inr h=>some h
variable{G}{ok:α->Prop}{num:α->Option Nat}{stp:α->Nat}
def two(b:α×Nat):List (α ⊕ Nat):=[.inl b.1,.inr b.2]
end
section
variable{β:Type}{M:β->List β}
end
section
variable{α:Type}[DecidableEq α]{G:α->List α}{N:List α}
theorem YG:∀{l m:List α},l.Sublist m->m.Nodup->l=m.filter λx=>decide (x∈l)
 | _,_,.slnil,_=>rfl
 | l,a::m,.cons _ h,nd=>by
  rw[zal]at nd
  have na:a∉l:=λz=>nd.1 (h.subset z)
  rw[zbt,if_neg (by simpa using na)]
  exact YG h nd.2
 | a::l,_::m,.cons₂ _ h,nd=>by
  rw[zal]at nd
  rw[zbt,if_pos (by simp)]
  congr 1
  have e:=YG h nd.2
  refine e.trans (zbT λx hx=>?_)
  have ne:x≠a:=λz=>nd.1 (z▸hx)
  simp [ne]
theorem UL.uniq(nd:N.Nodup){rs:Rs α}{n:Nat}{ns ms:List α}(a:UL G N rs n ns)(b:UL G N rs n ms):ns=ms:=by
 rw[YG a.sub nd,YG b.sub nd]
 exact zbT λx _=>decide_eq_decide.mpr ((a.iff x).trans (b.iff x).symm)
theorem Qv.uniq(nd:N.Nodup){n:Nat}{rs a b:Rs α}(h:Qv G N n rs a):Qv G N n rs b->a=b:=by
 induction h with
 | stop r=>
  intro k
  cases k with
  | stop _=>rfl
  | more r' ne _=>exact absurd (r'.uniq nd r) ne
 | more r ne k ih=>
  intro k'
  cases k' with
  | stop r'=>exact absurd (r.uniq nd r') ne
  | more r' _ k2=>
   have:=r.uniq nd r'
   subst this
   exact ih k2
theorem Qv.same{n:Nat}{rs:Rs α}(h:Qv G N n rs rs):UL G N rs n []:=by
 have len:∀{rs a:Rs α},Qv G N n rs a->rs.length<=a.length:=λ{rs a} h=>by
  induction h with
  | stop _=>exact tz _
  | more r ne k ih=>
   rw[tH]at ih
   omega
 generalize e:rs=a at h
 have e':rs=a:=e
 cases h with
 | stop r=>exact r
 | more r ne k=>
  have:=len k
  rw[tH,zav]at this
  omega
theorem All.uniq(nd:N.Nodup){n:Nat}{rs a b:Rs α}(h:All G N n rs a):All G N n rs b->a=b:=by
 induction h with
 | stop r=>
  intro k
  cases k with
  | stop _=>rfl
  | more g ne _=>
   have:=g.uniq nd (Qv.stop r)
   exact absurd this ne
 | more g ne k ih=>
  intro k'
  cases k' with
  | stop r'=>exact absurd (g.uniq nd (Qv.stop r')) ne
  | more g' _ k2=>
   have:=g.uniq nd g'
   subst this
   exact ih k2
variable(G N) in
inductive Wd:Nat->Rs α->Prop
 | nil:Wd 0 []
 | more {n:Nat} {rs rs':Rs α} (h:Wd n rs) (g:Qv G N n rs rs'):Wd (n+1) rs'
theorem RM{n m:Nat}{rs rs':Rs α}(g:Qv G N n rs rs')(h:∀r∈rs,r.1 < m)(lt:n < m):∀r∈rs',r.1 < m:=by
 induction g with
 | stop _=>exact h
 | more r ne k ih=>
  exact ih λx hx=>by
   rcases tX.mp hx with hx | hx
   ·exact h x hx
   ·rw[t7.mp hx];exact lt
theorem Wd.lt{n:Nat}{rs:Rs α}(u:Wd G N n rs):∀r∈rs,r.1 < n:=by
 induction u with
 | nil=>intro r h;cases h
 | more h g ih=>exact RM g (λr hr=>zbS (ih r hr)) (zaI _)
theorem MY{n m:Nat}{rs:Rs α}(h:∀r∈rs,r.1 < n){x:α}(e:qI rs x=some m):m < n:=by
 unfold qI at e
 obtain⟨r,hr,e2⟩:=zbI.mp e
 rw[<-e2]
 exact h r (zca hr)
theorem y7{n m:Nat}{rs rs':Rs α}(h:∀r∈rs,r.1 < n)(lt:n < m)(g:Qv G N m rs rs'):rs'=rs:=by
 cases g with
 | stop _=>rfl
 | more r ne k=>
  exfalso
  rename_i ns
  obtain⟨x,t,e⟩:=zbw ne
  have hx:=((r.iff x).mp (by rw[e];exact t8)).2.2
  obtain⟨y,_,ey⟩:=hx.1 n lt
  exact absurd (MY h ey) (zao _)
theorem WG{n:Nat}{rs rs':Rs α}(g:Qv G N n rs rs'){x:α}{m:Nat}(e:qI rs x=some m):qI rs' x=some m:=by
 induction g with
 | stop _=>exact e
 | more _ _ _ ih=>exact ih (ZU e)
theorem u6{n:Nat}{rs rs':Rs α}(g:Qv G N n rs rs')(ne:rs'≠rs):∃x∈N,qI rs' x=some n:=by
 cases g with
 | stop _=>exact absurd rfl ne
 | more r ne' k=>
  rename_i ns
  obtain⟨x,t,e⟩:=zbw ne'
  have hx:x∈ns:=by rw[e];exact t8
  have h:=(r.iff x).mp hx
  exact⟨x,h.1,WG k (k8 h.2.1 hx)⟩
theorem Wd.run{n:Nat}{rs:Rs α}(u:Wd G N n rs):(All G N 0 [] rs/\∃m,m < n/\∀r∈rs,r.1 < m)\/((∀j,j < n->∃x∈N,qI rs x=some j)/\∀R',All G N n rs R'->All G N 0 [] R'):=by
 induction u with
 | nil=>exact .inr ⟨λj h=>absurd h (zcm j),λR' h=>h⟩
 | @more n rs rs' h g ih=>
  rcases ih with ⟨a,m,hm,lt⟩ | ⟨al,k⟩
  ·have e:=y7 lt hm g
   subst e
   exact .inl ⟨a,m,by omega,lt⟩
  ·by_cases e:rs'=rs
   ·subst e
    exact .inl ⟨k _ (.stop (Qv.same g)),n,zaI _,h.lt⟩
   ·refine .inr ⟨λj hj=>?_,λR' a=>k R' (.more g e a)⟩
    rcases zbX j n with c | c
    ·obtain⟨x,hx,ex⟩:=al j c
     exact⟨x,hx,WG g ex⟩
    ·have:j=n:=by omega
     subst this
     exact u6 g e
theorem MB{l m:List α}:l.Nodup->(∀z∈l,z∈m)->l.length<=m.length:=by
 induction l generalizing m with
 | nil=>exact λ_ _=>zaw _
 | cons a l ih=>
  intro hn h
  rw[zal]at hn
  have ha:=h a t8
  have:=ih (m:=m.erase a) hn.2 λz hz=>(zbW (λ(e:z=a)=>hn.1 (e▸hz))).mpr (h z (tY _ hz))
  rw[zce ha]at this
  have:=zbq ha
  rw[zay]
  omega
theorem Wd.whole{M:Nat}{R:Rs α}(u:Wd G N M R)(len:N.length < M):All G N 0 [] R:=by
 rcases u.run with ⟨a,_⟩ | ⟨al,_⟩
 ·exact a
 ·exfalso
  have:=MB (l:=zab M) (m:=N.filterMap (qI R)) zcC λj hj=>by
   obtain⟨x,hx,ex⟩:=al j (zaU.mp hj)
   exact zaF.mpr ⟨x,hx,ex⟩
  rw[zam]at this
  have:=zaR (qI R) N
  omega
end
section
variable{β:Type}[DecidableEq β]{M:β->List β}
mutual
theorem Ul{a:β}:X3 M a->¬Won M a
 | .mk w=>λ⟨m,l⟩=>won_not (w _ m) l
theorem won_not{a:β}:Won M a->¬X3 M a
 | .mk m l=>λ⟨w⟩=>Ul l (w _ m)
end
def pr(M:β->List β)(Bs:List β)(h:β):List β:=Bs.filter λc=>decide (h∈M c)
def opn(P l:List β):Nat:=(l.filter λc=>decide (c∉P)).length
structure Gnd(M:β->List β)(Bs:List β):Prop where
 nd:Bs.Nodup
 cl:∀{a b},a∈Bs->b∈M a->b∈Bs
 mnd:∀{a},a∈Bs->(M a).Nodup
structure Bi(M:β->List β)(Bs:List β)(F:β->Option Bool)(P ln:List β)(lf:β->Nat)(h:β)(j:Nat):Prop where
 dom:∀b,(F b).isSome=true↔b∈P\/b=h\/b∈ln
 nd:(P++h::ln).Nodup
 sub:∀b∈P++h::ln,b∈Bs
 lost:∀{b},F b=some false->X3 M b
 won:∀{b},F b=some true->Won M b
 cnt:∀{b},b∈Bs->F b=none->lf b+(if b∈(pr M Bs h).take j then 1 else 0)=opn P (M b)/\0 < lf b/\(∀c∈M b,c∈P->F c=some true)/\(b∈(pr M Bs h).take j->F h=some true)
structure Bk(M:β->List β)(Bs:List β)(F:β->Option Bool)(P ln:List β)(lf:β->Nat):Prop where
 dom:∀b,(F b).isSome=true↔b∈P\/b∈ln
 nd:(P++ln).Nodup
 sub:∀b∈P++ln,b∈Bs
 lost:∀{b},F b=some false->X3 M b
 won:∀{b},F b=some true->Won M b
 cnt:∀{b},b∈Bs->F b=none->lf b=opn P (M b)/\0 < lf b/\∀c∈M b,c∈P->F c=some true
variable{Bs:List β}{F:β->Option Bool}{P ln:List β}{lf:β->Nat}{h:β}
end
end MLab
namespace Rh
open PySem L2
def top(i:Nat):Stmt:=PySem.Challenge.pw_ringheaps_k61_winning_moves_and_counts.main.body.getD i (.Pass ⟨0,0,0,0⟩)
abbrev zj:Stmt:=top 14
abbrev kF:Stmt:=top 68
abbrev YR:Stmt:=top 69
abbrev Yl:Stmt:=top 70
abbrev Xi:Stmt:=top 71
abbrev Xk:Stmt:=top 72
abbrev ky:Stmt:=top 73
abbrev W4:Stmt:=top 88
open PySem L2 PyProof.Rows
structure qQ(K:zdW)(mg:Str->Option Value)(x:Str)(st:Stmt)(ps:List Str)(f:Addr)(fd:zea):Prop where
 fn:jK K x x st f fd
 ns:mg x=some (.ref f)
 bi:jE K fd ps []
theorem qF{X:Cx}{x:Str}{st:Stmt}{ps:List Str}{f:Addr}{fd:zea}{k:Nat}{sp:Sp}{e:Expr}{es:List Expr}{t:TA}{p pos:Pos}(h:qQ X.K X.mg x st ps f fd)(G:qo X.prog X.w X.K X.mg X.base qH k f fd ps sp)(hr:qU k X.A)
 (hg:Gl X x) (ha:JA X (e::es) t) (hdb:(x==("__debug__":Str))=false:=by decide) (he:starEach (e::es) X.env=(false,eval e X.env)::starEach es X.env:=by rfl) (hpl:(backTo pos (starEach es X.env)).any (·.1)=false:=by rfl):
 JE X (.Call (.Name x p) (e::es) [] pos) (ZO sp [] E0 t):=.of (kK G hr hg h.ns h.fn.kp h.bi .nil QR ha.to hdb he hpl)
theorem qu{H:Hp}{b p:Addr}{o o':HO}(h:H b=some o)(hp:H p=none):upd H p o' b=some o:=by
 rw[qi (qr h hp)]
 exact h
theorem ql{H:Hp}{p:Addr}{o:HO}(hp:H p=none):Same H (upd H p o):=λb u h=>qu h hp
theorem Same.upd{H H':Hp}{p:Addr}{o:HO}(s:Same H H')(hp:H p=none):Same H (upd H' p o):=λb u h=>by
 rw[qi (qr h hp)]
 exact s b u h
def src(n s t:Int):List (qN×V):=[(Sum.inr "number",.int n),(Sum.inr "seed",.int s),(Sum.inr "turn",.int t)]
theorem nns:¬(zdX "number")=zdX "seed":=by decide+kernel
theorem nnt:¬(zdX "number")=zdX "turn":=by decide+kernel
theorem nst:¬(zdX "seed")=zdX "turn":=by decide+kernel
theorem nsn:¬(zdX "seed")=zdX "number":=by decide+kernel
theorem ntn:¬(zdX "turn")=zdX "number":=by decide+kernel
theorem nts:¬(zdX "turn")=zdX "seed":=by decide+kernel
theorem u0{a b:Str}(h:¬a=b):¬(Sum.inr a:qN)=Sum.inr b:=λe=>h (Sum.inr.inj e)
section
variable{H:Hp}{d:Addr}{n s t:Int}
theorem gN(h:H d=some (.dK (src n s t))):jZ H d (.str "number") (some (.int n)):=by
 have e:jg (src n s t) (Sum.inr "number":qN)=some (.int n):=ju rfl
 have q:=jZ.k (k:=(Sum.inr "number":qN)) h
 rw[e]at q
 exact q
theorem gS(h:H d=some (.dK (src n s t))):jZ H d (.str "seed") (some (.int s)):=by
 have e:jg (src n s t) (Sum.inr "seed":qN)=some (.int s):=(jw (u0 nns)).trans (ju rfl)
 have q:=jZ.k (k:=(Sum.inr "seed":qN)) h
 rw[e]at q
 exact q
theorem gT(h:H d=some (.dK (src n s t))):jZ H d (.str "turn") (some (.int t)):=by
 have e:jg (src n s t) (Sum.inr "turn":qN)=some (.int t):=(jw (u0 nnt)).trans ((jw (u0 nst)).trans (ju rfl))
 have q:=jZ.k (k:=(Sum.inr "turn":qN)) h
 rw[e]at q
 exact q
theorem qaC:(src n s t).length < zeb:=qp (by show 3<=1000;decide)
theorem pN(h:H d=some (.dK (src n s t)))(v:Int):Jb H d (.str "number") (.int v) (upd H d (.dK (src v s t))):=by
 have e:jQ (src n s t) (Sum.inr "number":qN) (.int v)=src v s t:=by
  unfold jQ src
  simp [nsn,ntn]
 have q:=Jb.k (k:=(Sum.inr "number":qN)) (v:=.int v) h qaC
 rw[e]at q
 exact q
theorem pT(h:H d=some (.dK (src n s t)))(v:Int):Jb H d (.str "turn") (.int v) (upd H d (.dK (src n s v))):=by
 have e:jQ (src n s t) (Sum.inr "turn":qN) (.int v)=src n s v:=by
  unfold jQ src
  simp [nnt,nst]
 have q:=Jb.k (k:=(Sum.inr "turn":qN)) (v:=.int v) h qaC
 rw[e]at q
 exact q
end
def ZW:Sp:=λvs H Q _=>∃(d:Addr) (m n s t:Int),vs=[.ref d,.int m]/\H d=some (.dK (src n s t))/\0 < m/\m.natAbs < 2^200/\∀r n' t',0<=r->r < m->Q (.int r) (upd H d (.dK (src n' s t')))
def VT:Sp:=λvs H Q _=>∃c:Int,vs=[.int c]/\∀d n s,H d=none->Q (.ref d) (upd H d (.dK (src n s 0)))
def wa(K:zdW):Sp:=λvs H Q _=>∃(a:Addr) (ns:List Int) (k:Int),vs=[.ref a,.int k]/\SqL K H a (ns.map V.int)/\0<=k/\∀v,Q (.int v) H
section
variable{P:Program}{w:World}{K:zdW}{mg:Str->Option Value}{base:Heap}
theorem W0:qt ["_law_source_here","_law_many","_law_digit","_law_number"] ["_law_source_here","_law_many"] (qj Yl):=zdV
theorem zq{f:Addr}{fd:zea}(F:jK K "_law_take" "_law_take" Yl f fd):qo P w K mg base qH 1 f fd ["_law_source_here","_law_many"] ZW:=by
 refine F.okJ W0 (λvs H Q E h=>?_) (λcdv A outer s H vs Q E hr h=>?_)
 ·obtain⟨d,m,n,sd,t,rfl,_⟩:=h
  rfl
 ·obtain⟨d,m,n,sd,t,rfl,hd,m0,m1,k⟩:=h
  have hu:=jX hr
  refine⟨_,qg (qM (qv XA (qW hu (jv 0) qE (λ_ _=>rfl)) qk (qA _))
    (qg (qx (i:=2) W0.nd rfl (Or.inl rfl) (qL JU (qW hu (jv 0) qE (λ_ _=>rfl)) (jv 1)))
    (qg (jy hu (jv 0) qE (qL w4 (qW hu (jv 0) qE (λ_ _=>rfl)) (jv 1)) rfl)
    (qh (qy (jv 2))))) qB)
   (qg (jy hu (jv 0) qE (qL Qk (qW hu (jv 0) qE (λ_ _=>rfl)) qk) rfl)
   (qg (qx (i:=3) W0.nd rfl (Or.inl rfl) (qL JU (qL Qy (qL Qk (qW hu (jv 0) qE (λ_ _=>rfl)) (qL Qy qk (qW hu (jv 0) qE (λ_ _=>rfl)))) qk) qk))
   (qg (qx (i:=3) W0.nd rfl (Or.inl rfl) (qL JU (qL Qy (jv 3) (jv 3)) qk))
   (qh (qy (qL JU (qL Gz (qL JU (qL Qy (qL Qk (jv 3) (qW hu (jv 0) qE (λ_ _=>rfl))) (qL Qk (jv 3) qk)) qk) qk) (jv 1))))))),?_⟩
  refine⟨_,rfl,d,_,rfl,gN hd,_,_,rfl,rfl,_,rfl,?_⟩
  refine xk (λ_=>?_) (λ_=>?_)
  ·refine⟨_,rfl,d,_,rfl,gN hd,_,rfl,_,_,rfl,rfl,m0,?_⟩
   refine⟨_,rfl,d,_,rfl,gN hd,_,rfl,_,_,rfl,rfl,⟨m0,m1⟩,_,rfl,d,_,rfl,pN hd _,?_⟩
   exact⟨_,rfl,k _ _ _ (zbO _ (by omega)) (zbx _ m0)⟩
  ·refine⟨_,rfl,d,_,rfl,gT hd,_,_,rfl,rfl,_,rfl,d,_,rfl,pT hd _,?_⟩
   have h1:upd H d (.dK (src n sd (t+1))) d=some (.dK (src n sd (t+1))):=qe
   refine⟨_,rfl,d,_,rfl,gS h1,_,rfl,d,_,rfl,gT h1,_,_,rfl,rfl,.inl ⟨by decide,by decide⟩,_,_,rfl,rfl,_,_,rfl,rfl,.inr ⟨by decide,by decide⟩,_,_,rfl,rfl,(by show (0:Int) < 2147483647;decide),?_⟩
   generalize ha:((sd+7919*(t+1))*48271) % 2147483647=x
   have x0:0<=x:=by rw[<-ha];exact zbO _ (by decide)
   have x1:x < 2147483647:=by rw[<-ha];exact zbx _ (by decide)
   refine⟨_,rfl,_,rfl,_,_,rfl,rfl,.inl ⟨by omega,by omega⟩,_,_,rfl,rfl,(by show (0:Int) < 2147483629;decide),?_⟩
   generalize hb:(x*x) % 2147483629=y
   have y0:0<=y:=by rw[<-hb];exact zbO _ (by decide)
   have y1:y < 2147483629:=by rw[<-hb];exact zbx _ (by decide)
   refine⟨_,rfl,_,rfl,d,_,rfl,gT h1,_,_,rfl,rfl,_,rfl,_,_,rfl,rfl,_,_,rfl,rfl,.inr ⟨by omega,by omega⟩,_,_,rfl,rfl,(by show (0:Int) < 2147483587;decide),_,_,rfl,rfl,⟨by decide,by decide⟩,_,rfl,_,_,rfl,rfl,m0,?_⟩
   exact k _ _ _ (zbO _ (by omega)) (zbx _ m0)
end
open PySem L2 PyProof.Rows
structure QO(mg:Str->Option Value):Prop where
 len:mg "len"=none
 max:mg "max"=none
 min:mg "min"=none
 int:mg "int"=none
 rng:mg "range"=none
theorem xc(n s t:Int):QQ [] (src n s t)=src n s t:=by
 unfold QQ src
 simp only[zcH,List.foldl_nil]
 unfold jQ
 simp [nns,nnt,nst,nsn,ntn,nts]
section
variable{P:Program}{w:World}{K:zdW}{mg:Str->Option Value}{base:Heap}
theorem wp:qt ["_law_cell"] ["_law_cell"] (qj YR):=zdV
theorem yX{f:Addr}{fd:zea}(F:jK K "_law_source" "_law_source" YR f fd)(B:QO mg):qo P w K mg base qH 1 f fd ["_law_cell"] VT:=by
 refine F.okJ wp (λvs H Q E h=>?_) (λcdv A outer s H vs Q E hr h=>?_)
 ·obtain⟨c,rfl,_⟩:=h
  rfl
 ·obtain⟨c,rfl,k⟩:=h
  refine⟨_,qh (qy (RG
   (XM qE (qL Qy (qD (WI rfl) (by rfl) B.max boot_max (qd qk (qd (jv 0) qf)))
    (jB Yd (by rfl) B.int boot_int (qd (Qq wZ (jv 0) (qL Md qk qk) (qA _)) qf)))
   (XM qE (qL JU (jv 0) qk) (XM qE qk Ry))) rfl rfl (by simp) (by decide))),?_⟩
  intro p hp
  refine⟨_,rfl,_,_,rfl,_,rfl,_,_,rfl,rfl,⟨by decide,by decide,by decide⟩,_,_,rfl,rfl,.inr ⟨_,rfl,_,_,rfl,rfl,.inr ?_,_,rfl,_,_,rfl,rfl,(by show (0:Int) < 2147483629;decide),?_⟩⟩
  ·split<;>exact⟨by decide,by decide⟩
  ·refine⟨qe,src _ _ 0,rfl,(by show 3<=15;decide),?_⟩
   rw[xc,jI]
   exact k p _ _ hp
theorem N7:qt ["_law_script","_law_k"] ["_law_script","_law_k"] (qj kF):=zdV
theorem Rk{f:Addr}{fd:zea}(F:jK K "_law_cell_at" "_law_cell_at" kF f fd)(B:QO mg):qo P w K mg base qH 1 f fd ["_law_script","_law_k"] (wa K):=by
 refine F.okJ N7 (λvs H Q E h=>?_) (λcdv A outer s H vs Q E hr h=>?_)
 ·obtain⟨a,ns,k,rfl,_⟩:=h
  rfl
 ·obtain⟨a,ns,k,rfl,hS,k0,q⟩:=h
  refine⟨_,qg (qM (qv QS (jv 1) (qD qZ (by rfl) B.len boot_len (qd (jv 0) qf)) (qA _))
    (qh (qy (qT QF (jv 0) (jv 1) (λ_ _=>rfl)))) qB)
   (qh (qy (qL Qk (qL Qy qk (jv 1)) qk))),?_⟩
  refine⟨_,rfl,_,rfl,a,_,rfl,.inl hS,_,_,rfl,rfl,_,rfl,?_⟩
  refine xk (λh=>?_) (λ_=>?_)
  ·have h1:k < ((ns.map V.int).length:Int):=of_decide_eq_true h
   rw[tj]at h1
   have h2:k.toNat < ns.length:=by omega
   have h3:(ns.map V.int)[k.toNat]?=some (V.int ns[k.toNat]):=by rw[tG,tE h2];rfl
   have h4:k=((k.toNat:Nat):Int):=by omega
   refine⟨_,rfl,_,rfl,a,_,k,V.int ns[k.toNat],rfl,rfl,hS,?_,q _⟩
   have h5:=Y4 h3
   rw[<-h4]at h5
   exact h5
  ·exact⟨_,rfl,_,_,rfl,rfl,.inl ⟨by decide,by decide⟩,_,_,rfl,rfl,q _⟩
end
open PySem L2 PyProof.Rows
def Fr(H:Hp)(d:Addr)(H':Hp):Prop:=∀b o,H b=some o->b≠d->H' b=some o
theorem Fr.refl{H:Hp}{d:Addr}:Fr H d H:=λ_ _ h _=>h
theorem Fr.at_d{H H':Hp}{d:Addr}{o:HO}(h:Fr H d H'):Fr H d (upd H' d o):=λb u hb hn=>by
 rw[qi hn]
 exact h b u hb hn
theorem Fr.new{H H':Hp}{d p:Addr}{o:HO}(h:Fr H d H')(hp:H' p=none):Fr H d (upd H' p o):=λb u hb hn=>qu (h b u hb hn) hp
theorem Fr.own{H H':Hp}{d p:Addr}{o:HO}(h:Fr H d H')(hp:H p=none):Fr H d (upd H' p o):=λb u hb hn=>by
 rw[qi (qr hb hp)]
 exact h b u hb hn
theorem Fr.trans{H H' H'':Hp}{d:Addr}(h:Fr H d H')(k:Fr H' d H''):Fr H d H'':=λb u hb hn=>k b u (h b u hb hn) hn
theorem Fr.fresh{H H':Hp}{d p:Addr}{o:HO}(h:Fr H d H')(hd:H' d=some o)(hp:H' p=none):H p=none:=by
 cases e:H p with
 | none=>rfl
 | some u=>
  by_cases n:p=d
  ·subst n
   rw[hd]at hp
   cases hp
  ·rw[h p u e n]at hp
   cases hp
def jU(c:Nat):Bool:=decide (97<=c)&&decide (c<=122)
def jq(z:Str):Bool:=(decide (1<=z.length)&&decide (z.length<=8))&&z.cps.toList.all jU
def yk:Str:="abcdefghijklmnopqrstuvwxyz"
theorem WQ:yk.cps.toList=[97,98,99,100,101,102,103,104,105,106,107,108,109,110,111,112,113,114,115,116,117,118,119,120,121,122]:=by decide+kernel
theorem Kp:yk.cps.toList=(zab 26).map (97+·):=by rw[WQ];rfl
theorem yj:yk.length<=zeb:=by
 show yk.cps.size<=zeb
 rw[<-zaD,WQ]
 decide
theorem Kq{r:Int}(h0:0<=r)(h1:r < 26):vG yk.cps.toList r=some (97+r.toNat):=by
 have h2:yk.cps.toList[r.toNat]?=some (97+r.toNat):=by
  rw[Kp,tG,zbC (by omega)]
  rfl
 have h4:=Y4 h2
 have h5:r=((r.toNat:Nat):Int):=by omega
 rw[<-h5]at h4
 exact h4
theorem WA{r:Int}(h0:0<=r)(h1:r < 26):jU (97+r.toNat)=true:=by
 unfold jU
 rw[decide_eq_true (by omega:97<=97+r.toNat),decide_eq_true (by omega:97+r.toNat<=122)]
 rfl
theorem MM(ws:List Nat):(Txt.join (zdX "") (ws.map λk=>(⟨#[k]⟩:Str))).cps.toList=ws:=by
 show (Builtin.Str.glued (zdX "") _).cps.toList=_
 rw[StrLaws.glued_eq_join]
 have e:(zdX "")=⟨#[]⟩:=by decide+kernel
 rw[e,PyProof.Rows.join_ones]
theorem xm{z:Str}{A B:List Nat}{c:Nat}(e:z.cps.toList=A++[c]++B)(hA:A.all jU=true)(hc:jU c=true)(hB:B.all jU=true)(hl:A.length+B.length<=7):jq z=true:=by
 have l:z.length=A.length+1+B.length:=by
  show z.cps.size=_
  rw[<-zaD,e]
  simp
  omega
 unfold jq
 rw[decide_eq_true (by omega:1<=z.length),decide_eq_true (by omega:z.length<=8),e,zdq,zdq,hA,hB]
 simp [hc]
def kP(f s:Int)(k:Nat):Nat:=97+((f+s*(k:Int)) % 26).toNat
theorem Ro:∀s∈[(1:Int),3,5,7,9,11],∀k,k < 14->∀j,j < 14->(s*((k:Nat):Int) - s*((j:Nat):Int)) % 26=0->k=j:=by decide+kernel
theorem Rn{f s:Int}{k j:Nat}(hs:s=1\/s=3\/s=5\/s=7\/s=9\/s=11)(hk:k < 14)(hj:j < 14)(h:kP f s k=kP f s j):k=j:=by
 unfold kP at h
 refine Ro s (by simpa using hs) k hk j hj ?_
 generalize s*(k:Int)=x at h ⊢
 generalize s*(j:Int)=y at h ⊢
 omega
def Jm(A:List Nat)(f s:Int)(zs:List Str):Prop:=∀j z,zs[j]?=some z->∃B,z.cps.toList=A++[kP f s j]++B/\B.all jU=true/\A.length+B.length<=7
theorem Jm.snoc{A:List Nat}{f s:Int}{zs:List Str}(h:Jm A f s zs){z:Str}{B:List Nat}(e:z.cps.toList=A++[kP f s zs.length]++B)(hB:B.all jU=true)(hl:A.length+B.length<=7):Jm A f s (zs++[z]):=by
 intro j y hy
 by_cases hj:j < zs.length
 ·rw[zaf hj]at hy
  exact h j y hy
 ·have hj':j=zs.length:=by
   have:=(tw.mp hy).1
   rw[tH,zav]at this
   omega
  subst hj'
  rw[zac (tz _),zbZ]at hy
  obtain rfl:=(tO.inj hy).symm
  exact⟨B,e,hB,hl⟩
theorem Jm.names{A:List Nat}{f s:Int}{zs:List Str}(h:Jm A f s zs)(hA:A.all jU=true):∀z∈zs,jq z=true:=λz hz=>by
 obtain⟨j,hj⟩:=zbc hz
 obtain⟨B,e,hB,hl⟩:=h j z hj
 refine xm e hA ?_ hB hl
 unfold kP
 exact WA (zbO _ (by decide)) (zbx _ (by decide))
theorem Jm.nodup{A:List Nat}{f s:Int}{zs:List Str}(h:Jm A f s zs)(hs:s=1\/s=3\/s=5\/s=7\/s=9\/s=11)(hz:zs.length<=14):zs.Nodup:=by
 refine zaL.mpr λi j hi hj hij e=>?_
 obtain⟨B,b1,_⟩:=h j _ (tE hj)
 obtain⟨C,c1,_⟩:=h i _ (tE hi)
 rw[e]at c1
 have e2:(A++[kP f s j]++B)[A.length]?=(A++[kP f s i]++C)[A.length]?:=by rw[<-b1,<-c1]
 rw[zcy,zcy,zac (tz _),zac (tz _),zbZ]at e2
 have e3:kP f s j=kP f s i:=tO.inj e2
 exact absurd (Rn hs (by omega) (by omega) e3) (by omega)
theorem UH{A:List Nat}(h:A.all jU=true)(n:Nat):(A.take n).all jU=true:=by
 rw[zaQ]at h ⊢
 exact λx hx=>h x (zbz hx)
theorem NX{r:Int}(h0:0<=r)(h1:r < 6):∃m:Int,(m=1\/m=3\/m=5\/m=7\/m=9\/m=11)/\vG [V.int 1,V.int 3,V.int 5,V.int 7,V.int 9,V.int 11] r=some (.int m):=by
 have:r=0\/r=1\/r=2\/r=3\/r=4\/r=5:=by omega
 rcases this with rfl | rfl | rfl | rfl | rfl | rfl
 ·exact⟨1,by decide,rfl⟩
 ·exact⟨3,by decide,rfl⟩
 ·exact⟨5,by decide,rfl⟩
 ·exact⟨7,by decide,rfl⟩
 ·exact⟨9,by decide,rfl⟩
 ·exact⟨11,by decide,rfl⟩
def kc:Sp:=λvs H Q _=>∃(d:Addr) (m:Nat) (n s t:Int),vs=[.ref d,.int m]/\H d=some (.dK (src n s t))/\m<=14/\
 ∀(l:Addr) (zs:List Str) (n' t':Int) (H':Hp),H l=none->H' l=some (.lst (zs.map V.str))->zs.length=m->(∀z∈zs,jq z=true)->zs.Nodup->H' d=some (.dK (src n' s t'))->Fr H d H'->Q (.ref l) H'
theorem VO:∀zs:List Str,(zs.map λ_=>1).sum=zs.length
 | []=>rfl
 | z::zs=>by rw[tU,zaV,VO zs,zay];omega
section
variable{P:Program}{w:World}{K:zdW}{mg:Str->Option Value}{base:Heap}
abbrev Mu:List Str:=["_law_source_here","_law_many","_law_letters","_law_word","_law_ahead","_law_first","_law_step","_law_names_here","_law_k","_law_behind"]
theorem QW:qt Mu ["_law_source_here","_law_many"] (qj Xi):=zdV
theorem uh{f fT:Addr}{fd fdT:zea}(F:jK K "_law_names" "_law_names" Xi f fd)(B:QO mg)(hT:qQ K mg "_law_take" Yl ["_law_source_here","_law_many"] fT fdT):qo P w K mg base qH 2 f fd ["_law_source_here","_law_many"] kc:=by
 have GT:qo P w K mg base qH 1 fT fdT ["_law_source_here","_law_many"] ZW:=zq hT.fn
 refine F.okJ QW (λvs H Q E h=>?_) (λcdv A outer s H vs Q E hr h=>?_)
 ·obtain⟨d,m,n,sd,t,rfl,_⟩:=h
  rfl
 ·obtain⟨d,m,n,sd,t,rfl,hd,hm,q⟩:=h
  refine⟨_,qg (qx (i:=2) QW.nd rfl (Or.inr rfl) qE)
   (qg (qx (i:=3) QW.nd rfl (Or.inl rfl) (ZS PySem.F.plainAttrs_str PySem.F.slot_str_join PySem.F.type_str_join Rq qE (qd
    (j4 (N':=["_law_k","_law_letters","_law_source_here"]) (ix:=[none,some 2,some 0]) rfl ⟨rfl,rfl,rfl,rfl,rfl⟩
     (jA (by rfl) B.rng (qd qk qf))
     (λC s2 H2 fp pins=>⟨qw (i:=0) (show (["_law_k","_law_letters","_law_source_here"]:List Str).Nodup by decide+kernel) rfl (Or.inl rfl),jN,
      qT uV (jv 1) (qF hT GT hr (by rfl) (qd (jv 2) (qd qk qf))) (λ_ _=>rfl)⟩)) qf)))
   (qg (qx (i:=4) QW.nd rfl (Or.inl rfl) (JF we (jv 3) ZD (ZC (qL Qy (qF hT GT hr (by rfl) (qd (jv 0) (qd qk qf))) (qF hT GT hr (by rfl) (qd (jv 0) (qd qk qf)))))))
   (qg (qx (i:=5) QW.nd rfl (Or.inl rfl) (qF hT GT hr (by rfl) (qd (jv 0) (qd qk qf))))
   (qg (qx (i:=6) QW.nd rfl (Or.inl rfl) (qT QF (jz (qd qk (qd qk (qd qk (qd qk (qd qk (qd qk qf))))))) (qF hT GT hr (by rfl) (qd (jv 0) (qd qk qf))) (λ_ _=>rfl)))
   (qg (qx (i:=7) QW.nd rfl (Or.inl rfl) (jz qf))
   (qg (ja PassesOwn.never rfl (jA (by rfl) B.rng (qd (jv 1) qf)) (qw (i:=8) QW.nd rfl (Or.inl rfl))
    (qg (qx (i:=9) QW.nd rfl (Or.inl rfl) (JF we (jv 3) ZD (ZC (qF hT GT hr (by rfl) (qd (jv 0) (qd (qL wS qk (qD J8 (by rfl) B.len boot_len (qd (jv 4) qf))) qf))))))
    (qh (je (ZS zau zaY zaZ QA (jv 7) (qd
     (qL XB (qL XB (jv 4) (qT uV (jv 2) (qL JU (qL Qk (jv 5) (qL Qy (jv 6) (jv 8))) qk) (λ_ _=>rfl))) (jv 9)) qf))))))
   (qh (qy (jv 7))))))))),?_⟩
  refine⟨rfl,7,rfl,by decide,by decide,λD hD=>?_⟩
  have nDd:D≠d:=λe=>by rw[e,hd]at hD;cases hD
  refine JL (λi σ' H'=>∃(v:Option V) (n' t':Int) (ws:List Nat),σ'=[v,some (.str yk),some (.ref d)]/\H' d=some (.dK (src n' sd t'))/\H' D=some (.lst ((ws.map λk=>(⟨#[k]⟩:Str)).map V.str))/\ws.length=i/\ws.all jU=true/\Fr H d H')
   ⟨none,n,t,[],rfl,qu hd hD,qe,rfl,rfl,Fr.refl.new hD⟩ ?_ ?_
  ·rintro i σ' H' hi ⟨v,n',t',ws,rfl,hd',hD',hl,ha,fr⟩
   refine⟨_,rfl,_,rfl,d,26,n',sd,t',rfl,hd',by decide,by decide,λr n3 t3 r0 r1=>?_⟩
   refine⟨yk,r,_,rfl,rfl,yj,Kq r0 r1,_,(by rw[qi nDd];exact hD'),?_,?_⟩
   ·rw[tj,tj,hl]
    exact qp (by omega)
   ·refine⟨_,n3,t3,ws++[97+r.toNat],rfl,?_,?_,?_,?_,?_⟩
    ·rw[qi (Ne.symm nDd)];exact qe
    ·rw[tI,tI];exact qe
    ·rw[tH,hl];rfl
    ·rw[zdq,ha]
     simp [WA r0 r1]
    ·exact(fr.at_d).own hD
  rintro σ' H1 ⟨v,n1,t1,ws,rfl,hd1,hD1,hl1,ha1,fr1⟩
  have hl1:ws.length=7:=hl1
  refine⟨zdX "",D,_,rfl,rfl,.of hD1,?_,?_⟩
  ·have e1:((ws.map λk=>(⟨#[k]⟩:Str)).map (·.length))=(ws.map λk=>(⟨#[k]⟩:Str)).map λ_=>1:=by
    refine zbD λz hz=>?_
    obtain⟨c,_,rfl⟩:=tL.mp hz
    rfl
   have e2:(zdX "").length=0:=by decide+kernel
   rw[e1,e2,VO,tj,hl1]
   decide
  generalize hw:Txt.join (zdX "") (ws.map λk=>(⟨#[k]⟩:Str))=wd
  have hW:wd.cps.toList=ws:=by rw[<-hw];exact MM ws
  have hWl:wd.length=7:=by
   show wd.cps.size=7
   rw[<-zaD,hW,hl1]
  refine⟨_,rfl,_,rfl,d,2,n1,sd,t1,rfl,hd1,by decide,by decide,λr2 n2 t2 r20 r21=>?_⟩
  refine⟨_,rfl,d,5,n2,sd,t2,rfl,qe,by decide,by decide,λr3 n3 t3 r30 r31=>?_⟩
  rw[jI]
  have e4:∃j:Nat,r2*r3=(j:Int)/\j<=4:=by
   have h2:r2=0\/r2=1:=by omega
   rcases h2 with rfl | rfl
   ·exact⟨0,by omega,by omega⟩
   ·exact⟨r3.toNat,by omega,by omega⟩
  obtain⟨j,ej,hj⟩:=e4
  refine⟨_,_,rfl,rfl,.inl ⟨by omega,by omega⟩,_,rfl,wd,r2*r3,rfl,rfl,rfl,by omega,?_⟩
  rw[ej]
  generalize ha:Txt.slice wd none (some (j:Int))=ah
  have hA:ah.cps.toList=ws.take j:=by rw[<-ha,Xe,hW]
  have hAl:ah.length=j:=by
   show ah.cps.size=j
   rw[<-zaD,hA,tW,hl1]
   omega
  refine⟨_,rfl,d,26,n3,sd,t3,rfl,qe,by decide,by decide,λf n4 t4 f0 f1=>?_⟩
  rw[jI]
  refine⟨by show 6<=zeb;decide,λp hp=>?_⟩
  have npd:p≠d:=λe=>by rw[e,qe]at hp;cases hp
  refine⟨_,rfl,d,6,n4,sd,t4,rfl,(by rw[qi (Ne.symm npd)];exact qe),by decide,by decide,λr5 n5 t5 r50 r51=>?_⟩
  obtain⟨st,hst,hsa⟩:=NX r50 r51
  refine⟨p,_,r5,.int st,rfl,rfl,.of (by rw[qi npd];exact qe),hsa,?_⟩
  have fr5:Fr H d (upd (upd (upd H1 d (.dK (src n4 sd t4))) p (.lst [V.int 1,V.int 3,V.int 5,V.int 7,V.int 9,V.int 11])) d (.dK (src n5 sd t5))):=(fr1.at_d.new hp).at_d
  generalize hH5:upd (upd (upd H1 d (.dK (src n4 sd t4))) p (.lst [V.int 1,V.int 3,V.int 5,V.int 7,V.int 9,V.int 11])) d (.dK (src n5 sd t5))=H5 at fr5
  have hd5:H5 d=some (.dK (src n5 sd t5)):=by rw[<-hH5];exact qe
  refine⟨by show 0<=zeb;decide,λl hl=>⟨_,rfl,m,rfl,by omega,by omega,?_⟩⟩
  have hHl:H l=none:=fr5.fresh hd5 hl
  have nld:l≠d:=λe=>by rw[e,hd5]at hl;cases hl
  refine QC (lo:=0) (n:=m) (λi σ' H'=>∃(v1 v2:Option V) (n' t':Int) (zs:List Str),σ'=[some (.ref d),some (.int m),some (.str yk),some (.str wd),some (.str ah),some (.int f),some (.int st),some (.ref l),v1,v2]/\
   H' d=some (.dK (src n' sd t'))/\H' l=some (.lst (zs.map V.str))/\zs.length=i/\Jm (ws.take j) f st zs/\Fr H d H')
   ⟨none,none,n5,t5,[],rfl,qu hd5 hl,qe,rfl,λj z hz=>(nomatch hz),fr5.new hl⟩ ?_ ?_
  ·rintro i σ' H' hi ⟨v1,v2,n',t',zs,rfl,hd',hl',hz,hN,fr⟩
   rw[zbJ]
   refine⟨_,rfl,_,rfl,_,rfl,ah,rfl,(by rw[hAl];exact zai (qp (by omega))),_,_,rfl,rfl,d,8 - (ah.length:Int),n',sd,t',rfl,hd',by omega,by omega,λr n6 t6 r0 r1=>?_⟩
   have er:r=((r.toNat:Nat):Int):=by omega
   refine⟨_,rfl,wd,r,rfl,rfl,rfl,by omega,?_⟩
   generalize hb:Txt.slice wd none (some r)=bh
   have hB:bh.cps.toList=ws.take r.toNat:=by rw[<-hb,er,Xe,hW];rfl
   have hBl:bh.length<=r.toNat:=by
    show bh.cps.size<=r.toNat
    rw[<-zaD,hB,tW]
    omega
   refine⟨_,rfl,.inl ⟨rfl,_,.of (by rw[qi nld];exact hl')⟩,_,rfl,_,rfl,_,rfl,_,rfl,_,rfl,_,_,rfl,rfl,.inl ⟨by omega,by omega⟩,_,_,rfl,rfl,_,_,rfl,rfl,(by show (0:Int) < 26;decide),?_⟩
   refine⟨yk,_,_,rfl,rfl,yj,Kq (zbO _ (by decide)) (zbx _ (by decide)),?_⟩
   have e26:97+((f+st*(i:Int)) % 26).toNat=kP f st i:=rfl
   rw[e26]
   have l1:(ah++(⟨#[kP f st i]⟩:Str)).length=j+1:=by
    show (ah++(⟨#[kP f st i]⟩:Str)).cps.size=_
    rw[Str.cps_append,Array.size_append]
    show ah.length+1=_
    rw[hAl]
   refine⟨_,_,rfl,rfl,zai (qp (by show ah.length+1<=1000;omega)),_,rfl,_,_,rfl,rfl,zai (qp (by rw[l1];omega)),?_⟩
   refine⟨l,_,_,rfl,rfl,(by rw[qi nld];exact hl'),(by rw[tj,hz];exact qp (by omega)),?_⟩
   refine⟨_,_,n6,t6,zs++[ah++(⟨#[kP f st i]⟩:Str)++bh],rfl,?_,?_,?_,?_,?_⟩
   ·rw[qi (Ne.symm nld)];exact qe
   ·rw[tI];exact qe
   ·rw[tH,hz];rfl
   ·refine hN.snoc (B:=ws.take r.toNat) ?_ (UH ha1 _) ?_
    ·rw[Str.cps_append,Str.cps_append,zcc,zcc,hA,hB,hz]
    ·rw[tW,tW]
     omega
   ·exact fr.at_d.own hHl
  ·rintro σ' H' ⟨v1,v2,n',t',zs,rfl,hd',hl',hz,hN,fr⟩
   exact⟨_,rfl,q l zs n' t' H' hHl hl' hz (hN.names (UH ha1 _)) (hN.nodup hst (by omega)) hd' fr⟩
end
open PySem L2 PyProof.Rows
def vH(t:TT)(σ:L2.St)(H:Hp):Prop:=∀Q:Bool->Hp->Prop,(∀b,Q b H)->t σ H Q
theorem vH.and{t u:TT}{σ:L2.St}{H:Hp}(h:vH t σ H)(k:vH u σ H):vH (NT t u) σ H:=λQ q=>h _ λb=>by
 cases b
 ·exact ji (q false)
 ·exact j3 (k _ q)
theorem vH.or{t u:TT}{σ:L2.St}{H:Hp}(h:vH t σ H)(k:vH u σ H):vH (tOr t u) σ H:=λQ q=>h _ λb=>by
 cases b
 ·exact ji (k _ q)
 ·exact j3 (q true)
theorem u3{tc:TT}{tp:TS}{D:Ja}{σ:L2.St}{H0:Hp}(G:Hp->Prop)(h:G H0)(ht:vH tc σ H0)(hp:∀D:Ja,(∀H',G H'->D.nx σ H')->tp D σ H0)(k:∀H',G H'->D.nx σ H'):xQ tc tp VN D σ H0:=
 ht _ λb=>by
  cases b
  ·exact ji (k _ h)
  ·exact j3 (hp D k)
theorem YY{tc:TT}{tp u:TS}{D:Ja}{σ:L2.St}{H0:Hp}(G:Hp->Prop)(h:G H0)(ht:vH tc σ H0)(hp:∀D:Ja,(∀H',G H'->D.nx σ H')->tp D σ H0)(k:∀H',G H'->u D σ H'):NR (xQ tc tp VN) u D σ H0:=u3 G h ht hp k
theorem XR{i:Nat}{v:V}{σ:L2.St}{H:Hp}{Q:L2.St->Hp->Prop}(h:Q (σ.set i (some v)) H):Jk i v σ H Q:=h
abbrev up(k:Nat×Nat):Int×Int:=((k.1:Int),(k.2:Int))
def NF(a b:Nat×Nat):Prop:=a.1 < b.1\/(a.1=b.1/\a.2 < b.2)
abbrev z8(ks:List (Nat×Nat)):List (List qN):=ks.map λk=>Yn (up k)
theorem yQ{a b:Nat×Nat}(h:Yn (up a)=Yn (up b)):a=b:=by
 unfold Yn at h
 simp only[List.cons.injEq,Sum.inl.injEq,and_true]at h
 exact Prod.ext (by have:=h.1;omega) (by have:=h.2;omega)
structure Zc(m i j:Nat)(ks:List (Nat×Nat)):Prop where
 ord:ks.Pairwise NF
 lt:∀x∈ks,x.2 < m/\(x.1 < i\/(x.1=i/\x.2 < j))
 len:ks.length<=i*m+j
theorem Zc.more{m i j:Nat}{ks:List (Nat×Nat)}(h:Zc m i j ks):Zc m i (j+1) ks:=⟨h.ord,λx hx=>by have:=h.lt x hx;omega,by have:=h.len;omega⟩
theorem Zc.snoc{m i j:Nat}{ks:List (Nat×Nat)}(h:Zc m i j ks)(hj:j < m):Zc m i (j+1) (ks++[(i,j)]):=by
 refine⟨zdy.mpr ⟨h.ord,zcp _ _,λa ha b hb=>?_⟩,λx hx=>?_,?_⟩
 ·rw[t7.mp hb]
  have:=h.lt a ha
  unfold NF
  omega
 ·rcases tX.mp hx with hx | hx
  ·have:=h.lt x hx
   omega
  ·rw[t7.mp hx]
   exact⟨hj,.inr ⟨rfl,zaI _⟩⟩
 ·rw[tH]
  have:=h.len
  show ks.length+1<=_
  omega
theorem Zc.row{m i:Nat}{ks:List (Nat×Nat)}(h:Zc m i m ks):Zc m (i+1) 0 ks:=⟨h.ord,λx hx=>by have:=h.lt x hx;omega,by have:=h.len;rw[Nat.succ_mul];omega⟩
def Mid(m i j:Nat)(kvs:List (List qN×V)):Prop:=∃ks,Zc m i j ks/\(kvs.map (·.1)=z8 ks\/kvs.map (·.1)=z8 (ks++[(i,j)]))
theorem yh(kvs:List (List qN×V))(k:List qN):((kvs.any λkv=>decide (kv.1=k))=true)↔k∈kvs.map (·.1):=by
 rw[zbj,tL]
 simp
theorem Rw{kvs:List (List qN×V)}{k:List qN}(v:V)(h:k∈kvs.map (·.1)):(jQ kvs k v).map (·.1)=kvs.map (·.1):=by
 unfold jQ
 rw[if_pos ((yh kvs k).mpr h),zaO]
 refine zbD λx _=>?_
 show (if x.1=k then (x.1,v) else x).1=x.1
 split<;>rfl
theorem uK{kvs:List (List qN×V)}{k:List qN}(v:V)(h:¬k∈kvs.map (·.1)):(jQ kvs k v).map (·.1)=kvs.map (·.1)++[k]:=by
 unfold jQ
 rw[if_neg (λz=>h ((yh kvs k).mp z)),tI]
 rfl
theorem Mid.put{m i j:Nat}{kvs:List (List qN×V)}(h:Mid m i j kvs)(v:V):Mid m i j (jQ kvs (Yn (up (i,j))) v):=by
 obtain⟨ks,ha,h⟩:=h
 refine⟨ks,ha,.inr ?_⟩
 rcases h with h | h
 ·rw[uK,h,z8,z8,tI]
  ·rfl
  ·rw[h]
   intro z
   obtain⟨x,hx,e⟩:=tL.mp z
   have e':=yQ e
   have:=ha.lt x hx
   rw[e']at this
   omega
 ·rw[Rw,h]
  rw[h]
  exact tL.mpr ⟨(i,j),by simp,rfl⟩
theorem Mid.len{m i j:Nat}{kvs:List (List qN×V)}(h:Mid m i j kvs):kvs.length<=i*m+j+1:=by
 obtain⟨ks,ha,h⟩:=h
 have hl:=ha.len
 rcases h with h | h
 ·have:=congrArg zax h
  simp only[tj]at this
  omega
 ·have:=congrArg zax h
  simp only[tj,tH,zav]at this
  omega
theorem No{i m:Nat}(hi:i<=m)(hm:m<=14):i*m<=196:=zaa (Nat.mul_le_mul (zaa hi hm) hm) (by decide)
theorem qbv(xs:List V):Yz xs none (some 40)=xs.take 40:=by
 unfold Yz
 have e1:HT.sIx xs.length 0 none=0:=rfl
 have e2:HT.sIx xs.length xs.length (some 40)=min 40 xs.length:=by
  simp [HT.sIx]
 rw[e1,e2,zcR,zdk]
 by_cases h:40<=xs.length
 ·rw[zck h]
 ·rw[zdg (by omega),tF (tz _),tF (by omega)]
def ZI(H:Hp)(ps:List Addr)(ks:List (Nat×Nat)):Prop:=ps.length=ks.length/\∀(i:Nat) (p:Addr) (k:Nat×Nat),ps[i]?=some p->ks[i]?=some k->H p=some (.tup [.int (k.1:Nat),.int (k.2:Nat)])
def ki:Sp:=λvs H Q _=>∃(d:Addr) (m:Nat) (n s t sh lo:Int),vs=[.ref d,.int m,.int sh,.int lo]/\H d=some (.dK (src n s t))/\m<=14/\
 ∀(l:Addr) (ps:List Addr) (ks:List (Nat×Nat)) (n' t':Int) (H':Hp),H l=none->H' l=some (.lst (ps.map V.ref))->ZI H' ps ks->ks.Pairwise NF->(∀x∈ks,x.1 < m/\x.2 < m)->ks.length<=40->H' d=some (.dK (src n' s t'))->Fr H d H'->Q (.ref l) H'
section
variable{P:Program}{w:World}{K:zdW}{mg:Str->Option Value}{base:Heap}
abbrev Mv:List Str:=["_law_source_here","_law_many","_law_shape","_law_low","_law_pairs","_law_k","_law_j","_law_way"]
abbrev Xy:List Str:=["_law_source_here","_law_many","_law_shape","_law_low"]
theorem zf:qt Mv Xy (qj Xk):=zdV
theorem ul{f fT:Addr}{fd fdT:zea}(F:jK K "_law_leads" "_law_leads" Xk f fd)(B:QO mg)(hso:mg "sorted"=none)(hT:qQ K mg "_law_take" Yl ["_law_source_here","_law_many"] fT fdT):qo P w K mg base qH 2 f fd Xy ki:=by
 have GT:qo P w K mg base qH 1 fT fdT ["_law_source_here","_law_many"] ZW:=zq hT.fn
 refine F.okJ zf (λvs H Q E h=>?_) (λcdv A outer s H vs Q E hr h=>?_)
 ·obtain⟨d,m,n,sd,t,sh,lo,rfl,_⟩:=h
  rfl
 ·obtain⟨d,m,n,sd,t,sh,lo,rfl,hd,hm,q⟩:=h
  have hu:=jX hr
  refine⟨_,qg (qx (i:=4) zf.nd rfl (Or.inl rfl) uT)
   (qg (ja PassesOwn.never rfl (jA (by rfl) B.rng (qd (jv 1) qf)) (qw (i:=5) zf.nd rfl (Or.inl rfl))
    (qh (ja PassesOwn.never rfl (jA (by rfl) B.rng (qd (jv 1) qf)) (qw (i:=6) zf.nd rfl (Or.inl rfl))
     (qg (qx (i:=7) zf.nd rfl (Or.inl rfl) (qF hT GT hr (by rfl) (qd (jv 0) (qd qk qf))))
     (qg (qM (j1 (qv jL (jv 2) qk (qA _)) (jJ (Ji (j1 (qv QS (jv 6) (jv 5) (qA _)) (jJ (qv QS (jv 7) qk (qA _)))).pt (Qm (j1 (qv wZ (jv 6) (jv 5) (qA _)) (jJ (qv QS (jv 7) qk (qA _)))).pt)).pt)).pt
      (qh (jy hu (jv 4) (jp (qd (jv 5) (qd (jv 6) qf))) Qr rfl)) qB)
     (qg (qM (j1 (qv jL (jv 2) qk (qA _)) (jJ (qv QS (jv 7) qk (qA _)))).pt
      (qh (jy hu (jv 4) (jp (qd (jv 5) (qd (jv 6) qf))) Qr rfl)) qB)
     (qg (qM (j1 (qv jL (jv 2) qk (qA _)) (jJ (Ji (j1 (qv jL (jv 6) (qL JU (qL Qk (jv 5) qk) (jv 1)) (qA _)) (jJ (qv QS (jv 7) qk (qA _)))).pt (Qm (qv QS (jv 7) qk (qA _)))).pt)).pt
      (qh (jy hu (jv 4) (jp (qd (jv 5) (qd (jv 6) qf))) Qr rfl)) qB)
     (qg (qM (j1 (qv jL (jv 2) qk (qA _)) (j1 (qv QS (jv 6) (jv 5) (qA _)) (jJ (Ji (qv QS (jv 6) (jv 3) (qA _)) (Qm (qv QS (jv 7) qk (qA _)))).pt))).pt
      (qh (jy hu (jv 4) (jp (qd (jv 5) (qd (jv 6) qf))) Qr rfl)) qB)
     (qh (qM (j1 (qv jL (jv 2) qk (qA _)) (jJ (Ji (j1 (qv QS (jv 6) (jv 3) (qA _)) (jJ (qv QS (jv 6) (jv 5) (qA _)))).pt (Qm (j1 (qv wZ (jv 5) (jv 3) (qA _)) (jJ (qv QS (jv 7) qk (qA _)))).pt)).pt)).pt
      (qh (jy hu (jv 4) (jp (qd (jv 5) (qd (jv 6) qf))) Qr rfl)) qB)))))))))
    )
   (qh (qy (JF YM (qD (vF rfl) (by rfl) hso boot_sorted (qd (jv 4) qf)) ZD (ZC qk))))),?_⟩
  intro D hD
  have nDd:D≠d:=λe=>by rw[e,hd]at hD;cases hD
  refine⟨_,rfl,m,rfl,by omega,by omega,?_⟩
  refine QC (lo:=0) (n:=m) (λi σ' H'=>∃(v1 v2 v3:Option V) (n' t':Int) (kvs:List (List qN×V)) (ks:List (Nat×Nat)),σ'=[some (.ref d),some (.int m),some (.int sh),some (.int lo),some (.ref D),v1,v2,v3]/\
   H' d=some (.dK (src n' sd t'))/\H' D=some (.dT kvs)/\kvs.map (·.1)=z8 ks/\Zc m i 0 ks/\Fr H d H')
   ⟨none,none,none,n,t,[],[],rfl,qu hd hD,qe,rfl,⟨.nil,λx hx=>(nomatch hx),zaw _⟩,Fr.refl.new hD⟩ ?_ ?_
  ·rintro i σ' H' hi ⟨v1,v2,v3,n',t',kvs,ks,rfl,hd',hD',ek,ha,fr⟩
   rw[zbJ]
   refine⟨_,rfl,m,rfl,by omega,by omega,?_⟩
   refine QC (lo:=0) (n:=m) (λj σ' H'=>∃(v2 v3:Option V) (n' t':Int) (kvs:List (List qN×V)) (ks:List (Nat×Nat)),σ'=[some (.ref d),some (.int m),some (.int sh),some (.int lo),some (.ref D),some (.int i),v2,v3]/\
    H' d=some (.dK (src n' sd t'))/\H' D=some (.dT kvs)/\kvs.map (·.1)=z8 ks/\Zc m i j ks/\Fr H d H')
    ⟨_,_,n',t',kvs,ks,rfl,hd',hD',ek,ha,fr⟩ ?_ ?_
   ·rintro j σ' H2 hj ⟨v2,v3,n2,t2,kvs,ks,rfl,hd2,hD2,ek,ha,fr⟩
    rw[zbJ]
    refine⟨_,rfl,d,12,n2,sd,t2,rfl,hd2,by decide,by decide,λr n3 t3 r0 r1=>?_⟩
    have hsq:=No (zai hi) hm
    let G:Hp->Prop:=λH'=>∃(kvs:List (List qN×V)),H' d=some (.dK (src n3 sd t3))/\H' D=some (.dT kvs)/\Mid m i j kvs/\Fr H d H'
    have g0:G (upd H2 d (.dK (src n3 sd t3))):=⟨kvs,qe,(by rw[qi nDd];exact hD2),⟨ks,ha,.inl ek⟩,fr.at_d⟩
    have put:∀H',G H'->∀E:Ja,(∀H',G H'->E.nx [some (.ref d),some (.int m),some (.int sh),some (.int lo),some (.ref D),some (.int i),some (.int j),some (.int r)] H')->
      Nz (jd 4) (yy (jk (jd 5) (jk (jd 6) QT))) (tC (.bl true)) E [some (.ref d),some (.int m),some (.int sh),some (.int lo),some (.ref D),some (.int i),some (.int j),some (.int r)] H':=by
     rintro H' ⟨kvs,h1,h2,h3,h4⟩ E k
     refine⟨_,rfl,_,rfl,_,rfl,by show 2<=zeb;decide,λp hp=>?_⟩
     have npd:p≠d:=λe=>by rw[e,h1]at hp;cases hp
     have npD:p≠D:=λe=>by rw[e,h2]at hp;cases hp
     refine⟨D,_,rfl,Jb.t (k:=Yn (up (i,j))) (kvs:=kvs) (by rw[qi (Ne.symm npD)];exact h2) qe (qp (by have:=h3.len;omega)),?_⟩
     refine k _ ⟨_,?_,qe,h3.put _,?_⟩
     ·rw[qi (Ne.symm nDd),qi (Ne.symm npd)]
      exact h1
     ·exact(h4.new hp).own hD
    refine XR ?_
    dsimp only[List.set]
    refine YY G g0 ?_ (put _ g0) λH3 g3=>?_
    ·exact vH.and (λQ q=>⟨_,rfl,rfl,_,rfl,q _⟩) (.or (.and (λQ q=>⟨_,rfl,_,rfl,_,_,rfl,rfl,_,rfl,q _⟩) (λQ q=>⟨_,rfl,_,_,rfl,rfl,_,rfl,q _⟩)) (.and (λQ q=>⟨_,rfl,_,rfl,_,_,rfl,rfl,_,rfl,q _⟩) (λQ q=>⟨_,rfl,_,_,rfl,rfl,_,rfl,q _⟩)))
    refine YY G g3 ?_ (put _ g3) λH4 g4=>?_
    ·exact vH.and (λQ q=>⟨_,rfl,rfl,_,rfl,q _⟩) (λQ q=>⟨_,rfl,_,_,rfl,rfl,_,rfl,q _⟩)
    refine YY G g4 ?_ (put _ g4) λH5 g5=>?_
    ·exact vH.and (λQ q=>⟨_,rfl,rfl,_,rfl,q _⟩) (.or (.and (λQ q=>⟨_,rfl,_,rfl,_,_,rfl,rfl,_,rfl,_,_,rfl,rfl,(by show (0:Int) < m;omega),rfl,_,rfl,q _⟩) (λQ q=>⟨_,rfl,_,_,rfl,rfl,_,rfl,q _⟩)) (λQ q=>⟨_,rfl,_,_,rfl,rfl,_,rfl,q _⟩))
    refine YY G g5 ?_ (put _ g5) λH6 g6=>?_
    ·exact vH.and (λQ q=>⟨_,rfl,rfl,_,rfl,q _⟩) (.and (λQ q=>⟨_,rfl,_,rfl,_,_,rfl,rfl,_,rfl,q _⟩) (.or (λQ q=>⟨_,rfl,_,rfl,_,_,rfl,rfl,_,rfl,q _⟩) (λQ q=>⟨_,rfl,_,_,rfl,rfl,_,rfl,q _⟩)))
    refine u3 G g6 ?_ (put _ g6) λH7 g7=>?_
    ·exact vH.and (λQ q=>⟨_,rfl,rfl,_,rfl,q _⟩) (.or (.and (λQ q=>⟨_,rfl,_,rfl,_,_,rfl,rfl,_,rfl,q _⟩) (λQ q=>⟨_,rfl,_,rfl,_,_,rfl,rfl,_,rfl,q _⟩)) (.and (λQ q=>⟨_,rfl,_,rfl,_,_,rfl,rfl,_,rfl,q _⟩) (λQ q=>⟨_,rfl,_,_,rfl,rfl,_,rfl,q _⟩)))
    obtain⟨kvs,h1,h2,⟨ks,ha,h3⟩,h4⟩:=g7
    rcases h3 with h3 | h3
    ·exact⟨_,_,n3,t3,kvs,ks,rfl,h1,h2,h3,ha.more,h4⟩
    ·exact⟨_,_,n3,t3,kvs,_,rfl,h1,h2,h3,ha.snoc hj,h4⟩
   ·rintro σ' H2 ⟨v2,v3,n2,t2,kvs,ks,rfl,hd2,hD2,ek,ha,fr⟩
    exact⟨_,_,_,n2,t2,kvs,ks,rfl,hd2,hD2,ek,ha.row,fr⟩
  ·rintro σ' H1 ⟨v1,v2,v3,n1,t1,kvs,ks,rfl,hd1,hD1,ek,ha,fr⟩
   have hl:kvs.length=ks.length:=by simpa using congrArg zax ek
   have hsq:=No (tz m) hm
   have hal:=ha.len
   refine⟨_,rfl,D,kvs,ks.map up,rfl,hD1,?_,?_,by omega,λl ps hfl lps tup=>?_⟩
   ·rw[ek,zaO]
    rfl
   ·intro i k k' e1 e2
    rw[tG]at e1 e2
    cases e3:ks[i]? with
    | none=>rw[e3]at e1;cases e1
    | some a=>
     cases e4:ks[i+1]? with
     | none=>rw[e4]at e2;cases e2
     | some b=>
      rw[e3]at e1
      rw[e4]at e2
      obtain rfl:=(tO.inj e1).symm
      obtain rfl:=(tO.inj e2).symm
      have h5:=zaL.mp ha.ord i (i+1) (tw.mp e3).1 (tw.mp e4).1 (zaI _)
      rw[(tw.mp e3).2,(tw.mp e4).2]at h5
      unfold NF at h5
      show XH _ _
      unfold XH
      show (a.1:Int) < b.1\/((a.1:Int)=b.1/\(a.2:Int) < b.2)
      omega
   ·refine⟨40,rfl,l,_,rfl,.of qe,λl2 hl2=>?_⟩
    rw[qbv,<-zdE]
    have n2d:l2≠d:=λe=>by
     rw[e,qu hd1 hfl]at hl2
     cases hl2
    have hl1:H1 l2=none:=by
     by_cases e:l2=l
     ·rw[e];exact hfl
     ·rw[qi e]at hl2;exact hl2
    have fr2:=(fr.new (o:=.lst (ps.map V.ref)) hfl).new (o:=.lst ((ps.take 40).map V.ref)) hl2
    refine q l2 (ps.take 40) (ks.take 40) n1 t1 _ (fr.fresh hd1 hl1) qe ⟨?_,λi p k e1 e2=>?_⟩ ?_ ?_ ?_ ?_ fr2
    ·rw[tW,tW,lps,tj]
    ·have i40:i < 40:=by
      have:=(tw.mp e1).1
      rw[tW]at this
      omega
     rw[zbB i40]at e1 e2
     have h1:=tup i p (up k) e1 (by rw[tG,e2];rfl)
     exact qu (qu h1 hfl) hl2
    ·exact ha.ord.sublist (zcY _ _)
    ·intro x hx
     have:=ha.lt x (zbz hx)
     omega
    ·rw[tW]
     omega
    ·exact qu (qu hd1 hfl) hl2
end
open PySem L2 PyProof.Rows
structure qC(rs:List (Str×List Str)):Prop where
 nm:∀r∈rs,jq r.1=true
 nd:(rs.map (·.1)).Nodup
 to:∀r∈rs,∀z∈r.2,z∈rs.map (·.1)
 rd:∀r∈rs,r.2.Nodup
 few:(rs.map λr=>r.2.length).sum<=40
def zG(zs:List Str)(j:Nat):Str:=zs.getD j ⟨#[]⟩
theorem Z8{zs:List Str}{j:Nat}(h:j < zs.length):zG zs j∈zs:=by
 unfold zG
 rw[zaB,tE h]
 exact zbu h
theorem Zu{zs:List Str}{j:Nat}(h:j < zs.length):zs[j]?=some (zG zs j):=by
 unfold zG
 rw[zaB,tE h]
 rfl
theorem vM{zs:List Str}(hn:zs.Nodup){i j:Nat}(hi:i < zs.length)(hj:j < zs.length)(h:zG zs i=zG zs j):i=j:=by
 have h1:=Zu hi
 have h2:=Zu hj
 rw[h,<-h2,tE hi,tE hj]at h1
 have e:zs[i]=zs[j]:=tO.inj h1
 rcases zaJ i j with l | l | l
 ·exact absurd e (zaL.mp hn i j hi hj l)
 ·exact l
 ·exact absurd e.symm (zaL.mp hn j i hj hi l)
theorem JB{α β:Type}{f:α->β}:∀{l:List α},l.Nodup->(∀a∈l,∀b∈l,f a=f b->a=b)->(l.map f).Nodup
 | [],_,_=>zbn
 | a::l,h,k=>by
  rw[tU,zal]
  rw[zal]at h
  refine⟨λz=>?_,JB h.2 λx hx y hy=>k x (tY _ hx) y (tY _ hy)⟩
  obtain⟨b,hb,e⟩:=tL.mp z
  have:=k b (tY _ hb) a (t8) e
  subst this
  exact h.1 hb
def Wi(ks:List (Nat×Nat))(k:Nat):List Nat:=(ks.filter λx=>decide (x.1=k)).map (·.2)
theorem yx{ks:List (Nat×Nat)}(h:ks.Pairwise NF)(k:Nat):(Wi ks k).Nodup:=by
 have h1:(ks.filter λx=>decide (x.1=k)).Pairwise NF:=h.sublist (zbf)
 refine zdP.mpr (zdD.imp_of_mem (λ{a b} ha hb r=>?_) h1)
 have e1:a.1=k:=of_decide_eq_true (zad.mp ha).2
 have e2:b.1=k:=of_decide_eq_true (zad.mp hb).2
 unfold NF at r
 omega
theorem UW{ks:List (Nat×Nat)}{m:Nat}(h:∀x∈ks,x.1 < m/\x.2 < m)(k:Nat):∀j∈Wi ks k,j < m:=λj hj=>by
 obtain⟨x,hx,e⟩:=tL.mp hj
 have:=(h x (zad.mp hx).1).2
 omega
theorem KP(os:List Nat)(f g:Nat->Nat):(os.map λk=>f k+g k).sum=(os.map f).sum+(os.map g).sum:=by
 induction os with
 | nil=>rfl
 | cons a os ih=>
  simp only[tU,zaV,ih]
  omega
theorem KO{os:List Nat}(h:os.Nodup)(a:Nat):(os.map λk=>if a=k then 1 else 0).sum<=1:=by
 induction os with
 | nil=>exact zaw _
 | cons b os ih=>
  rw[zal]at h
  rw[tU,zaV]
  by_cases e:a=b
  ·subst e
   have z:(os.map λk=>if a=k then 1 else 0)=os.map λ_=>0:=zbD λk hk=>by
    rw[if_neg]
    intro e
    subst e
    exact h.1 hk
   rw[z,if_pos rfl]
   have:(os.map λ_=>0).sum=0:=by
    clear z ih h
    induction os with
    | nil=>rfl
    | cons c os ih=>rw[tU,zaV,ih]
   omega
  ·rw[if_neg e]
   have:=ih h.2
   omega
theorem vT{os:List Nat}(h:os.Nodup):∀ks:List (Nat×Nat),(os.map λk=>(Wi ks k).length).sum<=ks.length
 | []=>by
  have:(os.map λk=>(Wi [] k).length).sum=0:=by
   clear h
   induction os with
   | nil=>rfl
   | cons c os ih=>rw[tU,zaV,ih];rfl
  omega
 | x::ks=>by
  have e:(os.map λk=>(Wi (x::ks) k).length)=os.map λk=>(if x.1=k then 1 else 0)+(Wi ks k).length:=zbD λk _=>by
   unfold Wi
   rw[zbt]
   by_cases z:x.1=k
   ·rw[if_pos (decide_eq_true z),if_pos z]
    simp only[tU,zay]
    omega
   ·rw[if_neg (by simpa using z),if_neg z,zdN]
  rw[e,KP,zay]
  have:=KO h x.1
  have:=vT h ks
  omega
def Jx(zs:List Str)(ks:List (Nat×Nat))(ab:Bool)(k:Nat):Str×List Str:=
 (zG zs k,if ab=true then ((Wi ks k).map (zG zs)).reverse else (Wi ks k).map (zG zs))
theorem yJ{zs:List Str}{ks:List (Nat×Nat)}{ab:Bool}{k:Nat}{z:Str}:z∈(Jx zs ks ab k).2↔z∈(Wi ks k).map (zG zs):=by
 unfold Jx
 cases ab
 ·rw[if_neg tN]
 ·rw[if_pos rfl,zcA]
theorem yK{zs:List Str}{ks:List (Nat×Nat)}{ab:Bool}{k:Nat}:(Jx zs ks ab k).2.length=(Wi ks k).length:=by
 unfold Jx
 cases ab
 ·rw[if_neg tN,tj]
 ·rw[if_pos rfl,zcb,tj]
structure UM(m:Nat)(os:List Nat):Prop where
 len:os.length=m
 nd:os.Nodup
 lt:∀k∈os,k < m
 all:∀j,j < m->j∈os
theorem xq{zs:List Str}{ks:List (Nat×Nat)}{os:List Nat}{m:Nat}(ab:Bool)(hz:zs.length=m)(hN:∀z∈zs,jq z=true)(hd:zs.Nodup)(hk:ks.Pairwise NF)(hl:∀x∈ks,x.1 < m/\x.2 < m)(h40:ks.length<=40)(ho:UM m os):
  qC (os.map (Jx zs ks ab)):=by
 have e1:(os.map (Jx zs ks ab)).map (·.1)=os.map (zG zs):=by rw[zaO];rfl
 have inj:∀a∈os,∀b∈os,zG zs a=zG zs b->a=b:=λa ha b hb e=>vM hd (by rw[hz];exact ho.lt a ha) (by rw[hz];exact ho.lt b hb) e
 refine⟨λr hr=>?_,?_,λr hr z hz'=>?_,λr hr=>?_,?_⟩
 ·obtain⟨k,hk',rfl⟩:=tL.mp hr
  exact hN _ (Z8 (by rw[hz];exact ho.lt k hk'))
 ·rw[e1]
  exact JB ho.nd inj
 ·obtain⟨k,hk',rfl⟩:=tL.mp hr
  rw[yJ]at hz'
  obtain⟨j,hj,rfl⟩:=tL.mp hz'
  rw[e1]
  exact tL.mpr ⟨j,ho.all j (UW hl k j hj),rfl⟩
 ·obtain⟨k,hk',rfl⟩:=tL.mp hr
  have h1:((Wi ks k).map (zG zs)).Nodup:=JB (yx hk k) λa ha b hb e=>vM hd (by rw[hz];exact UW hl k a ha) (by rw[hz];exact UW hl k b hb) e
  show (if ab=true then _ else _:List Str).Nodup
  cases ab
  ·rw[if_neg tN]
   exact h1
  ·rw[if_pos rfl]
   exact zds.mpr (h1.imp λh=>Ne.symm h)
 ·have e2:((os.map (Jx zs ks ab)).map λr=>r.2.length)=os.map λk=>(Wi ks k).length:=by
   rw[zaO]
   exact zbD λk _=>yK
  rw[e2]
  exact zaa (vT ho.nd ks) h40
theorem wR(m:Nat):UM m (zab m):=⟨zam,zcC,λk h=>zaU.mp h,λj h=>zaU.mpr h⟩
theorem vd(m:Nat):UM m (zB m):=⟨by rw[zB,zcb,zam],zds.mpr (zcC.imp λh=>Ne.symm h),λk h=>zaU.mp (zcA.mp h),λj h=>zcA.mpr (zaU.mpr h)⟩
def Yr(m:Nat):List Nat:=(zab m).map λk=>k*5 % m
theorem xx:∀m,m < 15->(Yr m).Nodup->∀j,j < m->j∈Yr m:=by decide+kernel
theorem Ub{m:Nat}(hm:m<=14)(h0:0 < m)(h:(Yr m).Nodup):UM m (Yr m):=
 ⟨by rw[Yr,tj,zam],h,λk hk=>by obtain⟨x,_,rfl⟩:=tL.mp hk;exact Nat.mod_lt _ h0,xx m (by omega) h⟩
theorem Wy(val:Nat->Int):∀i,(firstMet val i).length=i->((zab i).map val).Nodup
 | 0,_=>zbn
 | i+1,h=>by
  have h1:=firstMet_any val i (val i)
  have h2:=firstMet_length_le val i
  rw[firstMet_succ]at h
  unfold step_dedup at h
  split at h
  ·omega
  ·rename_i z
   rw[tH,zav]at h
   rw[zcn,tI,zdb]
   refine⟨Wy val i (by omega),by simp,λa ha b hb e=>?_⟩
   have eb:b=val i:=by simpa using hb
   subst eb
   subst e
   refine z ?_
   rw[h1,zbj]
   exact⟨_,ha,by simp⟩
theorem Mz{os:List Nat}(h:¬(firstMet (λi=>(os.map λk=>((k:Nat):Int)).getD i 0) (os.map λk=>((k:Nat):Int)).length).length < os.length):os.Nodup:=by
 have h1:=firstMet_length_le (λi=>(os.map λk=>((k:Nat):Int)).getD i 0) (os.map λk=>((k:Nat):Int)).length
 have h2:=Wy (λi=>(os.map λk=>((k:Nat):Int)).getD i 0) (os.map λk=>((k:Nat):Int)).length (by rw[tj]at h1 h ⊢;omega)
 have e:(zab (os.map λk=>((k:Nat):Int)).length).map (λi=>(os.map λk=>((k:Nat):Int)).getD i 0)=os.map λk=>((k:Nat):Int):=by
  refine zda λi=>?_
  rw[tG]
  by_cases hi:i < (os.map λk=>((k:Nat):Int)).length
  ·rw[zbC hi,tE hi]
   simp only[zcj,zaB,tE hi,Option.getD_some]
  ·rw[zbh (by rw[zam];omega),zbh (by omega)]
   rfl
 rw[e]at h2
 refine(zdP.mp h2).imp λh e=>h (by rw[e])
open PySem L2 PyProof.Rows
def jF(H:Hp)(ps:List Addr)(rs:List (Str×List Str)):Prop:=ps.length=rs.length/\∀(i:Nat) (p:Addr) (r:Str×List Str),ps[i]?=some p->rs[i]?=some r->∃q,H p=some (.tup [.str r.1,.ref q])/\H q=some (.tup (r.2.map V.str))
def xY:Sp:=λvs H Q _=>∃(d:Addr) (mo:Nat) (n s t:Int),vs=[.ref d,.int mo]/\H d=some (.dK (src n s t))/\0 < mo/\mo<=14/\
 ∀(l:Addr) (ps:List Addr) (rs:List (Str×List Str)) (n' t':Int) (H':Hp),H l=none->H' l=some (.lst (ps.map V.ref))->jF H' ps rs->qC rs->0 < rs.length->rs.length<=mo->H' d=some (.dK (src n' s t'))->Fr H d H'->Q (.ref l) H'
structure QM(mg:Str->Option Value):Prop where
 srt:mg "sorted"=none
 lst:mg "list"=none
 rev:mg "reversed"=none
 set:mg "set"=none
 tup:mg "tuple"=none
theorem jF.mono{H H':Hp}{ps:List Addr}{rs:List (Str×List Str)}(h:jF H ps rs)(s:Same H H'):jF H' ps rs:=⟨h.1,λi p r e1 e2=>let ⟨q,a,b⟩:=h.2 i p r e1 e2;⟨q,s _ _ a,s _ _ b⟩⟩
theorem ZI.mono{H H':Hp}{ps:List Addr}{ks:List (Nat×Nat)}(h:ZI H ps ks)(s:Same H H'):ZI H' ps ks:=⟨h.1,λi p k e1 e2=>s _ _ (h.2 i p k e1 e2)⟩
theorem Fr.same{H H' H'':Hp}{d:Addr}(h:Fr H d H')(s:Same H' H''):Fr H d H'':=λb u hb hn=>s _ _ (h b u hb hn)
theorem jF.snoc{H:Hp}{ps:List Addr}{rs:List (Str×List Str)}(h:jF H ps rs){p q:Addr}{r:Str×List Str}(hp:H p=some (.tup [.str r.1,.ref q]))(hq:H q=some (.tup (r.2.map V.str))):jF H (ps++[p]) (rs++[r]):=by
 refine⟨by rw[tH,tH,h.1];rfl,λi p' r' e1 e2=>?_⟩
 by_cases hi:i < ps.length
 ·rw[zaf hi]at e1
  rw[zaf (by rw[<-h.1];exact hi)]at e2
  exact h.2 i p' r' e1 e2
 ·have hi':i=ps.length:=by
   have:=(tw.mp e1).1
   rw[tH,zav]at this
   omega
  subst hi'
  rw[zac (tz _),zbZ]at e1
  rw[h.1,zac (tz _),zbZ]at e2
  obtain rfl:=(tO.inj e1).symm
  obtain rfl:=(tO.inj e2).symm
  exact⟨q,hp,hq⟩
theorem jF.upd_lst{H:Hp}{ps:List Addr}{rs:List (Str×List Str)}{l:Addr}{xs:List V}{o:HO}(h:jF H ps rs)(hl:H l=some (.lst xs)):jF (upd H l o) ps rs:=by
 refine⟨h.1,λi p r e1 e2=>?_⟩
 obtain⟨q,a,b⟩:=h.2 i p r e1 e2
 refine⟨q,?_,?_⟩
 ·rw[qi (λe=>by rw[e,hl]at a;cases a)]
  exact a
 ·rw[qi (λe=>by rw[e,hl]at b;cases b)]
  exact b
theorem vz{tc:TT}{tp u:TS}{D:Ja}{σ:L2.St}{H0:Hp}(R:Bool->Hp->Prop)(G:L2.St->Hp->Prop)(ht:∀Q:Bool->Hp->Prop,(∀b H1,R b H1->Q b H1)->tc σ H0 Q)
  (hT:∀H1,R true H1->∀D':Ja,(∀σ' H',G σ' H'->D'.nx σ' H')->tp D' σ H1) (hF:∀H1,R false H1->G σ H1) (k:∀σ' H',G σ' H'->u D σ' H'):NR (xQ tc tp VN) u D σ H0:=
 ht _ λb H1 r=>by
  cases b
  ·exact ji (k _ _ (hF _ r))
  ·exact j3 (hT _ r _ k)
theorem Ng{zs:List Str}{j:Nat}(h:j < zs.length):vG (zs.map V.str) ((j:Nat):Int)=some (V.str (zG zs j)):=Y4 (by rw[tG,Zu h];rfl)
theorem xM{ks:List (Nat×Nat)}{j:Nat}{x:Nat×Nat}(k:Nat)(h:ks[j]?=some x):Wi (ks.take (j+1)) k=Wi (ks.take j) k++if x.1=k then [x.2] else []:=by
 unfold Wi
 rw[tP,h,zaN,tI]
 congr 1
 by_cases e:x.1=k
 ·rw[if_pos e]
  simp [e]
 ·rw[if_neg e]
  simp [e]
abbrev oL(os:List Nat):List V:=os.map λk=>V.int ((k:Nat):Int)
theorem Rm(os:List Nat):oL os=(os.map λk=>((k:Nat):Int)).map V.int:=by rw[zaO];rfl
section
variable{P:Program}{w:World}{K:zdW}{mg:Str->Option Value}{base:Heap}
abbrev qa3:List Str:=["_law_source_here","_law_most","_law_many","_law_names_here","_law_shape","_law_pairs","_law_about","_law_order","_law_rows_here","_law_k","_law_leads_here"]
theorem QP:qt qa3 ["_law_source_here","_law_most"] (qj ky):=zdV
abbrev qby:List Str:=["_law_one","_law_j","_law_k","_law_names_here"]
theorem ye:qby.Nodup:=by decide+kernel
theorem GQ{f fT fN fL:Addr}{fd fdT fdN fdL:zea}(F:jK K "_law_rows" "_law_rows" ky f fd)(B:QO mg)(G:QM mg)(hT:qQ K mg "_law_take" Yl ["_law_source_here","_law_many"] fT fdT)
  (hN:qQ K mg "_law_names" Xi ["_law_source_here","_law_many"] fN fdN) (hL:qQ K mg "_law_leads" Xk Xy fL fdL):qo P w K mg base qH 3 f fd ["_law_source_here","_law_most"] xY:=by
 have GT:qo P w K mg base qH 1 fT fdT ["_law_source_here","_law_many"] ZW:=zq hT.fn
 have GN:qo P w K mg base qH 2 fN fdN ["_law_source_here","_law_many"] kc:=uh hN.fn B hT
 have GL:qo P w K mg base qH 2 fL fdL Xy ki:=ul hL.fn B G.srt hT
 refine F.okJ QP (λvs H Q E h=>?_) (λcdv A outer s H vs Q E hr h=>?_)
 ·obtain⟨d,m,n,sd,t,rfl,_⟩:=h
  rfl
 ·obtain⟨d,mo,n,sd,t,rfl,hd,hmo,hm14,q⟩:=h
  have r1:qU 1 _:=hr.mono (by decide)
  refine⟨_,qg (qx (i:=2) QP.nd rfl (Or.inr rfl) (qL Qk qk (qF hT GT r1 (by rfl) (qd (jv 0) (qd (jv 1) qf)))))
   (qg (qx (i:=3) QP.nd rfl (Or.inr rfl) (qF hN GN hr (by rfl) (qd (jv 0) (qd (jv 2) qf))))
   (qg (qx (i:=4) QP.nd rfl (Or.inl rfl) (qF hT GT r1 (by rfl) (qd (jv 0) (qd qk qf))))
   (qg (qx (i:=5) QP.nd rfl (Or.inl rfl) (qF hL GL hr (by rfl) (qd (jv 0) (qd (jv 2) (qd (jv 4) (qd (qL Qk qk (qF hT GT r1 (by rfl) (qd (jv 0) (qd qk qf)))) qf))))))
   (qg (qx (i:=6) QP.nd rfl (Or.inl rfl) (Qq jL (qF hT GT r1 (by rfl) (qd (jv 0) (qd qk qf))) qk (qA _)))
   (qg (qx (i:=7) QP.nd rfl (Or.inl rfl) (qbk rfl (by rfl) G.lst (by rfl) B.rng (jv 2)))
   (qg (qM (jl (jv 6)) (qh (Q6 (i:=7) (N':=["_law_k","_law_many"]) (ix:=[none,some 2]) QP.nd rfl (Or.inl rfl) rfl ⟨rfl,rfl,rfl,rfl,rfl⟩ (jA (by rfl) B.rng (qd (jv 2) qf))
     (λC s2 H2 fp pins=>⟨qw (i:=0) (show (["_law_k","_law_many"]:List Str).Nodup by decide+kernel) rfl (Or.inl rfl),jN,qL JU (qL Qy (jv 0) qk) (jv 1)⟩))) qB)
   (qg (qM (qv QS (qD UE (by rfl) B.len boot_len (qd (jB (xB rfl) (by rfl) G.set boot_set (qd (jv 7) qf)) qf)) (jv 2) (qA _))
     (qh (qx (i:=7) QP.nd rfl (Or.inl rfl) (MR rfl (by rfl) G.lst (by rfl) G.rev (by rfl) B.rng (jv 2)))) qB)
   (qg (qx (i:=8) QP.nd rfl (Or.inl rfl) (jz qf))
   (qg (ja PassesOwn.never rfl (qJ (jv 7)) (qw (i:=9) QP.nd rfl (Or.inr rfl))
    (qg (Q6 (i:=10) (N':=qby) (ix:=[none,none,some 9,some 3]) (g:=MV K 2 (Uv (Jk 0) (Uv (Jk 1) MX))) (te:=Yu (Ma K) (jd 3) (jd 1)) QP.nd rfl (Or.inl rfl) rfl ⟨rfl,rfl,rfl,rfl,rfl⟩ (qJ (jv 5))
      (λC s2 H2 fp pins=>⟨Z4 rfl (jC (qw (i:=0) ye rfl (Or.inl rfl)) (jC (qw (i:=1) ye rfl (Or.inl rfl)) JY)),
       jV (qv jL (jv 0) (jv 2) (qA _)),qT QF (jv 3) (jv 1) (λ_ _=>rfl)⟩))
    (qg (qM (jl (jv 6)) (qh (je (uU zau PySem.F.slot_list_reverse PySem.F.type_list_reverse vk (jv 10)))) qB)
    (qh (je (ZS zau zaY zaZ QA (jv 8) (qd
     (jp (qd (qT QF (jv 3) (jv 9) (λ_ _=>rfl)) (qd (jB Wc (by rfl) G.tup boot_tuple (qd (jv 10) qf)) qf))) qf)))))))
   (qh (qy (jv 8)))))))))))),?_⟩
  refine⟨_,rfl,_,rfl,d,mo,n,sd,t,rfl,hd,by omega,by omega,λr n1 t1 r0 r1=>⟨_,_,rfl,rfl,?_⟩⟩
  obtain⟨m,em,m0,m1⟩:∃m:Nat,1+r=(m:Int)/\0 < m/\m<=mo:=⟨(1+r).toNat,by omega,by omega,by omega⟩
  have em':(λi j:Int=>V.int (i+j)) 1 r=V.int (m:Int):=congrArg V.int em
  rw[em']
  refine⟨_,rfl,_,rfl,d,m,n1,sd,t1,rfl,qe,by omega,λlz zs n2 t2 H2 hlz hlz' zl zn znd hd2 fr2=>?_⟩
  have fr2:Fr H d H2:=Fr.refl.at_d.trans fr2
  refine⟨_,rfl,d,5,n2,sd,t2,rfl,hd2,by decide,by decide,λsh n3 t3 _ _=>?_⟩
  refine⟨_,rfl,_,rfl,_,rfl,_,rfl,d,5,n3,sd,t3,rfl,qe,by decide,by decide,λlw n4 t4 _ _=>⟨_,_,rfl,rfl,d,m,n4,sd,t4,sh,1+lw,rfl,qe,by omega,λlp ps ks n5 t5 H5 hlp hlp' pat kord klt k40 hd5 fr5=>?_⟩⟩
  have nzd:lz≠d:=λe=>by rw[e,qe]at hlz;cases hlz
  have hz5:H5 lz=some (.lst (zs.map V.str)):=fr5 _ _ (by rw[qi nzd,qi nzd];exact hlz') nzd
  have fr5:Fr H d H5:=fr2.at_d.at_d.trans fr5
  refine⟨_,rfl,d,2,n5,sd,t5,rfl,hd5,by decide,by decide,λab n6 t6 _ _=>⟨rfl,?_⟩⟩
  generalize decide (V.int ab=V.int 1)=b
  have npd:lp≠d:=λe=>by rw[e,qe]at hlp;cases hlp
  have fr6:Fr H d (upd H5 d (.dK (src n6 sd t6))):=fr5.at_d
  have hd6:upd H5 d (.dK (src n6 sd t6)) d=some (.dK (src n6 sd t6)):=qe
  have hz6:upd H5 d (.dK (src n6 sd t6)) lz=some (.lst (zs.map V.str)):=by rw[qi nzd];exact hz5
  have hp6:upd H5 d (.dK (src n6 sd t6)) lp=some (.lst (ps.map V.ref)):=by rw[qi npd];exact hlp'
  have pat6:ZI (upd H5 d (.dK (src n6 sd t6))) ps ks:=⟨pat.1,λi p k e1 e2=>by
   have h1:=pat.2 i p k e1 e2
   have:p≠d:=λe=>by rw[e,hd5]at h1;cases h1
   rw[qi this]
   exact h1⟩
  generalize upd H5 d (.dK (src n6 sd t6))=H6 at fr6 hd6 hz6 hp6 pat6
  refine⟨_,rfl,m,rfl,by omega,λlo hlo=>?_⟩
  refine XR ?_
  dsimp only[List.set]
  refine vz (λc H'=>c=b/\H'=upd H6 lo (.lst (Nk m))) (λσ' H'=>∃lo os,σ'=[some (.ref d),some (.int mo),some (.int m),some (.ref lz),some (.int sh),some (.ref lp),some (.bl b),some (.ref lo),none,none,none]/\Same H6 H'/\H6 lo=none/\H' lo=some (.lst (oL os))/\(os=zab m\/os=Yr m))
   (λQ k=>⟨_,rfl,b,rfl,k _ _ ⟨rfl,rfl⟩⟩) ?_ ?_ ?_
  ·rintro H1 ⟨rfl,rfl⟩ D' k
   refine⟨_,rfl,m,rfl,by omega,by omega,λD hD=>?_⟩
   refine JL (λi σ' H'=>∃v:Option V,σ'=[v,some (.int m)]/\H'=upd (upd H6 lo (.lst (Nk m))) D (.lst (oL ((zab i).map λk=>k*5 % m)))) ⟨none,rfl,rfl⟩ ?_ ?_
   ·rintro i σ' H' hi ⟨v,rfl,rfl⟩
    rw[zbJ]
    have hi:i < m:=by simpa using hi
    refine⟨_,rfl,_,_,rfl,rfl,.inl ⟨by omega,by omega⟩,_,rfl,_,_,rfl,rfl,(by show (0:Int) < m;omega),_,qe,?_,_,rfl,?_⟩
    ·rw[tj,tj,zam]
     exact qp (by omega)
    ·rw[jI,zcn,tI,oL,oL,tI]
     rfl
   ·rintro σ' H' ⟨v,rfl,rfl⟩
    have hD6:H6 D=none:=by
     by_cases e:D=lo
     ·rw[e];exact hlo
     ·rw[qi e]at hD;exact hD
    exact k _ _ ⟨D,Yr m,rfl,λa u h=>qu (qu h hlo) hD,hD6,qe,.inr rfl⟩
  ·rintro H1 ⟨rfl,rfl⟩
   exact⟨lo,zab m,rfl,ql hlo,hlo,qe,.inl rfl⟩
  rintro σ' H7 ⟨lo,os,rfl,s7,hlo6,hlo7,hos⟩
  have los:os.length=m:=by
   rcases hos with rfl | rfl
   ·exact zam
   ·rw[Yr,tj,zam]
  refine vz (λc H'=>Same H7 H'/\(c=true\/os.Nodup)) (λσ' H'=>∃lo os,σ'=[some (.ref d),some (.int mo),some (.int m),some (.ref lz),some (.int sh),some (.ref lp),some (.bl b),some (.ref lo),none,none,none]/\Same H6 H'/\H' lo=some (.lst (oL os))/\UM m os)
   ?_ ?_ ?_ ?_
  ·intro Q k
   refine⟨_,rfl,lo,os.map (λk=>((k:Nat):Int)),rfl,.of (by rw[<-Rm];exact hlo7),by rw[tj,los];omega,λl S hl=>?_⟩
   refine⟨l,S,_,rfl,qe,_,rfl,_,_,rfl,rfl,_,rfl,k _ _ ⟨ql hl,?_⟩⟩
   by_cases h:(((firstMet (λi=>(os.map λk=>((k:Nat):Int)).getD i 0) (os.map λk=>((k:Nat):Int)).length).length:Nat):Int) < (m:Int)
   ·exact .inl (decide_eq_true h)
   ·exact .inr (Mz (by rw[los];omega))
  ·rintro H1 ⟨s1,_⟩ D' k
   refine⟨_,rfl,m,rfl,by omega,λl hl=>?_⟩
   exact k _ _ ⟨l,zB m,rfl,λa u h=>qu (s1 _ _ (s7 _ _ h)) hl,qe,vd m⟩
  ·rintro H1 ⟨s1,h⟩
   have h:os.Nodup:=h.resolve_left (by decide)
   refine⟨lo,os,rfl,λa u h=>s1 _ _ (s7 _ _ h),s1 _ _ hlo7,?_⟩
   rcases hos with rfl | rfl
   ·exact wR m
   ·exact Ub (by omega) m0 h
  rintro σ' H8 ⟨lo,os,rfl,s8,hlo8,ho⟩
  refine⟨by show 0<=zeb;decide,λlr hlr=>⟨_,rfl,lo,rfl,⟨_,.of (qu hlo8 hlr)⟩,?_⟩⟩
  refine jx (K:=K) (a:=lo) (xs:=oL os) (λi σ' H'=>∃(v9 v10:Option V) (qs:List Addr),σ'=[some (.ref d),some (.int mo),some (.int m),some (.ref lz),some (.int sh),some (.ref lp),some (.bl b),some (.ref lo),some (.ref lr),v9,v10]/\
   Same H8 H'/\H' lr=some (.lst (qs.map V.ref))/\jF H' qs ((os.take i).map (Jx zs ks b)))
   ⟨none,none,[],rfl,ql hlr,qe,rfl,λi p r e=>(nomatch e)⟩ (λi σ' H' _ ⟨_,_,_,_,s,_⟩=>.of (s _ _ hlo8)) ?_ ?_
  ·rintro i x σ' H' hx ⟨v9,v10,qs,rfl,s9,hlr9,rat⟩
   have hix:i < os.length:=by
    have:=(tw.mp hx).1
    rwa [tj]at this
   obtain⟨k,hk⟩:∃k,os[i]?=some k:=⟨_,tE hix⟩
   have ex:x=V.int ((k:Nat):Int):=by
    rw[tG,hk]at hx
    exact(tO.inj hx).symm
   subst ex
   have hkm:k < m:=ho.lt k (t9 hk)
   refine⟨_,rfl,lp,rfl,⟨_,.of (s9 _ _ (s8 _ _ hp6))⟩,λD hD=>?_⟩
   have nDr:D≠lr:=λe=>by rw[e,hlr9]at hD;cases hD
   have hz9:H' lz=some (.lst (zs.map V.str)):=s9 _ _ (s8 _ _ hz6)
   have pat9:ZI H' ps ks:=pat6.mono λa u h=>s9 _ _ (s8 _ _ h)
   refine j2 (K:=K) (a:=lp) (xs:=ps.map V.ref) (λj σ'' H''=>∃v0 v1:Option V,σ''=[v0,v1,some (.int k),some (.ref lz)]/\H''=upd H' D (.lst (((Wi (ks.take j) k).map (zG zs)).map V.str))) ⟨none,none,rfl,rfl⟩
    (λj σ'' G _ ⟨_,_,_,e⟩=>e▸.of (qu (s9 _ _ (s8 _ _ hp6)) hD)) ?_ ?_
   ·rintro j y σ'' G hy ⟨v0,v1,rfl,rfl⟩
    have hj:j < ps.length:=by
     have:=(tw.mp hy).1
     rwa [tj]at this
    obtain⟨p,hp⟩:∃p,ps[j]?=some p:=⟨_,tE hj⟩
    obtain⟨kk,hkk⟩:∃p,ks[j]?=some p:=⟨_,tE (by rw[<-pat9.1];exact hj)⟩
    have ey:y=V.ref p:=by
     rw[tG,hp]at hy
     exact(tO.inj hy).symm
    subst ey
    have hpt:=pat9.2 j p kk hp hkk
    have hk2:kk.2 < zs.length:=by rw[zl];exact(klt kk (t9 hkk)).2
    refine⟨p,_,rfl,.of (qu hpt hD),rfl,_,_,rfl,_,_,rfl,rfl,_,rfl,_,rfl,rfl,_,rfl,?_⟩
    rw[xM k hkk]
    by_cases e:kk.1=k
    ·have e1:decide (V.int ((kk.1:Nat):Int)=V.int ((k:Nat):Int))=true:=decide_eq_true (by rw[e])
     rw[e1,if_pos e]
     refine j3 ⟨_,rfl,_,rfl,lz,_,_,_,rfl,rfl,.of (qu hz9 hD),Ng hk2,_,qe,?_,_,_,rfl,?_⟩
     ·rw[tj,tj]
      refine qp ?_
      have h1:(Wi (ks.take j) k).length<=(ks.take j).length:=by
       unfold Wi
       rw[tj]
       exact zaq _ _
      rw[tW]at h1
      omega
     ·rw[jI,tI,tI]
      rfl
    ·have e1:decide (V.int ((kk.1:Nat):Int)=V.int ((k:Nat):Int))=false:=decide_eq_false (by
      intro z
      have:=V.int.inj z
      omega)
     rw[e1,if_neg e,zan]
     exact ji ⟨_,_,rfl,rfl⟩
   ·rintro σ'' G ⟨v0,v1,rfl,rfl⟩
    rw[tj,pat9.1,tF (tz _)]
    refine XR ?_
    dsimp only[List.set]
    refine vz (λc G=>c=b/\G=upd H' D (.lst (((Wi ks k).map (zG zs)).map V.str)))
     (λσ' G=>σ'=[some (.ref d),some (.int mo),some (.int m),some (.ref lz),some (.int sh),some (.ref lp),some (.bl b),some (.ref lo),some (.ref lr),some (.int k),some (.ref D)]/\G=upd H' D (.lst ((Jx zs ks b k).2.map V.str)))
     (λQ k=>⟨_,rfl,b,rfl,k _ _ ⟨rfl,rfl⟩⟩) ?_ ?_ ?_
    ·rintro H1 ⟨rfl,rfl⟩ D' kk
     refine⟨_,rfl,.inl ⟨rfl,_,.of qe⟩,D,_,rfl,rfl,qe,?_⟩
     refine kk _ _ ⟨rfl,?_⟩
     rw[jI,Jx,if_pos rfl,List.map_reverse]
    ·rintro H1 ⟨rfl,rfl⟩
     exact⟨rfl,rfl⟩
    rintro σ' G ⟨rfl,rfl⟩
    have hlrG:upd H' D (.lst ((Jx zs ks b k).2.map V.str)) lr=some (.lst (qs.map V.ref)):=by rw[qi (Ne.symm nDr)];exact hlr9
    have sG:Same H' (upd H' D (.lst ((Jx zs ks b k).2.map V.str))):=ql hD
    refine⟨_,rfl,.inl ⟨rfl,_,.of hlrG⟩,_,rfl,_,rfl,lz,_,_,_,rfl,rfl,.of (sG _ _ hz9),Ng (by rw[zl];exact hkm),_,rfl,D,_,rfl,.inl ⟨.of qe,λlq hq=>⟨by show 2<=zeb;decide,λlt hlt=>?_⟩⟩⟩
    have hqlr:=qu (o':=HO.tup ((Jx zs ks b k).2.map V.str)) hlrG hq
    have htlr:=qu (o':=HO.tup [V.str (zG zs k),V.ref lq]) hqlr hlt
    refine⟨lr,_,_,rfl,rfl,htlr,?_,_,_,qs++[lt],rfl,?_,?_,?_⟩
    ·rw[tj,rat.1,tj,tW]
     refine qp ?_
     have:=ho.len
     omega
    ·exact Same.upd (λa u h=>qu (qu (sG _ _ (s9 _ _ h)) hq) hlt) hlr
    ·rw[tI]
     exact qe
    ·have e:os.take (i+1)=os.take i++[k]:=by rw[tP,hk];rfl
     rw[e,tI]
     refine jF.upd_lst ?_ htlr
     exact jF.snoc (q:=lq) (rat.mono λa u h=>qu (qu (sG _ _ h) hq) hlt) qe (qu qe hlt)
  ·rintro σ' H' ⟨v9,v10,qs,rfl,s9,hlr9,rat⟩
   have e:(oL os).length=os.length:=tj ..
   rw[e,tF (tz _)]at rat
   have h8:H6 lr=none:=by
    cases z:H6 lr with
    | none=>rfl
    | some u=>rw[s8 _ _ z]at hlr;cases hlr
   refine⟨_,rfl,q lr qs _ n6 t6 H' (fr6.fresh hd6 h8) hlr9 rat (xq b zl zn znd kord klt k40 ho) ?_ ?_ (s9 _ _ (s8 _ _ hd6)) (fr6.same λa u h=>s9 _ _ (s8 _ _ h))⟩
   ·rw[tj,ho.len];exact m0
   ·rw[tj,ho.len];exact m1
end
open PySem L2 PyProof.Rows
abbrev Wp:Stmt:=top 18
abbrev Xp:Stmt:=top 19
abbrev kC:Stmt:=top 20
abbrev Ge:Stmt:=top 21
abbrev kD:Stmt:=top 22
abbrev Gf:Stmt:=top 23
abbrev V0:Stmt:=top 24
theorem Mr(x:Str):[x].Nodup:=by simp
structure Qt(K:zdW)(mg:Str->Option Value):Prop where
 isi:mg "isinstance"=none
 str:mg "str"=none
 all:mg "all"=none
 enu:mg "enumerate"=none
 sum:mg "sum"=none
 lets:∃t,mg "LETTERS"=some (.str yk t)
 lgst:∃t,mg "LONGEST_NAME"=some (.int 8 t)
 mp:∃t,mg "MOST_PLACES"=some (.int 14 t)
 mr:∃t,mg "MOST_ROADS"=some (.int 40 t)
 kss:zag K (.type "str") (.type "str")=some true
 ktt:zag K (.type "tuple") (.type "tuple")=some true
 kll:zag K (.type "list") (.type "list")=some true
theorem MT(c:Nat):(!(Builtin.Str.occurrences yk ⟨#[c]⟩ 0 yk.length 1).isEmpty)=jU c:=by
 rw[StrLaws.found_one,Kp]
 unfold jU
 rw[zbg]
 simp only[decide_eq_true_eq,zar,tL,zaU]
 constructor
 ·rintro⟨k,hk,rfl⟩
  omega
 ·intro h
  exact⟨c - 97,by omega,by omega⟩
theorem Ko(f:Nat->Bool)(l:List Nat)(i c:Nat)(h:l[i]?=some c):(l.take i).map f++[f c]=(l.take (i+1)).map f:=by
 rw[tP,h]
 simp
def KS:Sp:=λvs H Q _=>∃z,vs=[.str z]/\jq z=true/\∀H',Same H H'->Q (.bl true) H'
def qaD:Sp:=λvs H Q _=>∃(q:Addr) (zs:List Str),vs=[.ref q]/\H q=some (.tup (zs.map V.str))/\(∀z∈zs,jq z=true)/\zs.length<=1000/\∀H',Same H H'->Q (.bl true) H'
def Nq:Sp:=λvs H Q _=>∃(p q:Addr) (r:Str×List Str),vs=[.ref p]/\H p=some (.tup [.str r.1,.ref q])/\H q=some (.tup (r.2.map V.str))/\jq r.1=true/\(∀z∈r.2,jq z=true)/\r.2.length<=1000/\∀H',Same H H'->Q (.bl true) H'
structure jP(H:Hp)(l:Addr)(ps:List Addr)(rs:List (Str×List Str)):Prop where
 at_:H l=some (.lst (ps.map V.ref))
 rows:jF H ps rs
 good:qC rs
 pos:0 < rs.length
 le:rs.length<=14
theorem jP.mono{H H':Hp}{l:Addr}{ps:List Addr}{rs:List (Str×List Str)}(h:jP H l ps rs)(s:Same H H'):jP H' l ps rs:=⟨s _ _ h.at_,h.rows.mono s,h.good,h.pos,h.le⟩
theorem qC.names{rs:List (Str×List Str)}(h:qC rs):∀r∈rs,∀z∈r.2,jq z=true:=λr hr z hz=>by
 obtain⟨r',hr',rfl⟩:=tL.mp (h.to r hr z hz)
 exact h.nm r' hr'
theorem qC.len{rs:List (Str×List Str)}(h:qC rs):∀r∈rs,r.2.length<=40:=λr hr=>by
 refine zaa ?_ h.few
 have:∀(rs:List (Str×List Str)),r∈rs->r.2.length<=(rs.map λr=>r.2.length).sum:=by
  intro rs
  induction rs with
  | nil=>intro h;cases h
  | cons a rs ih=>
   intro h
   rw[tU,zaV]
   rcases tS.mp h with rfl | h
   ·omega
   ·have:=ih h
    omega
 exact this rs hr
theorem jF.item{H:Hp}{ps:List Addr}{rs:List (Str×List Str)}(h:jF H ps rs){i:Nat}{x:V}(hx:(ps.map V.ref)[i]?=some x):∃p q r,x=.ref p/\rs[i]?=some r/\r∈rs/\H p=some (.tup [.str r.1,.ref q])/\H q=some (.tup (r.2.map V.str)):=by
 rw[tG]at hx
 cases e:ps[i]? with
 | none=>rw[e]at hx;cases hx
 | some p=>
  rw[e]at hx
  have hi:i < rs.length:=by
   have:=(tw.mp e).1
   rw[h.1]at this
   exact this
  obtain⟨q,a,b⟩:=h.2 i p _ e (tE hi)
  exact⟨p,q,_,(tO.inj hx).symm,tE hi,zbu hi,a,b⟩
def zN:Sp:=λvs H Q _=>∃(l:Addr) (ps:List Addr) (rs:List (Str×List Str)),vs=[.ref l]/\jP H l ps rs/\∀H',Same H H'->Q .non H'
def Nr:Sp:=λvs H Q _=>∃(l:Addr) (zs:List Str),vs=[.ref l]/\H l=some (.lst (zs.map V.str))/\zs.Nodup/\zs.length<=1000/\∀H',Same H H'->Q .non H'
def x9:Sp:=λvs H Q _=>∃(q l:Addr) (es zs:List Str),vs=[.ref q,.ref l]/\H q=some (.tup (es.map V.str))/\H l=some (.lst (zs.map V.str))/\es.Nodup/\(∀z∈es,z∈zs)/\es.length<=900/\∀H',Same H H'->Q .non H'
theorem Jt{kvs:List (qN×V)}{k:qN}(h:¬k∈kvs.map (·.1)):jg kvs k=none:=by
 cases e:jg kvs k with
 | none=>rfl
 | some v=>exact absurd (KI e) h
theorem ZH(zs:List Str):(zs.map V.str).all ZT=true:=by
 rw[zcK,zaQ]
 intro z _
 rfl
theorem Vs{z:Str}{zs:List Str}(h:z∈zs):ZF (.str z) (zs.map V.str)=true:=by
 unfold ZF
 rw[zbj]
 exact⟨.str z,tL.mpr ⟨z,h,rfl⟩,by show (z==z)=true;simp⟩
section
variable{P:Program}{w:World}{K:zdW}{mg:Str->Option Value}{base:Heap}
theorem N1:qt ["thing"] ["thing"] (qj zj):=zdV
theorem Ve{f:Addr}{fd:zea}(F:jK K "is_name" "is_name" zj f fd)(B:QO mg)(T:Qt K mg):qo P w K mg base qH 1 f fd ["thing"] KS:=by
 refine F.okJ N1 (λvs H Q E h=>?_) (λcdv A outer s H vs Q E hr h=>?_)
 ·obtain⟨x,rfl,_⟩:=h
  rfl
 ·obtain⟨z,rfl,hz,q⟩:=h
  obtain⟨tl,hlets⟩:=T.lets
  obtain⟨tg,hlg⟩:=T.lgst
  refine⟨_,qg (qM (Qn (jl (qD jc (by rfl) T.isi boot_isinstance (qd (jv 0) (qd (jW (v:=.ty "str") (by rfl) T.str boot_str rfl) qf))))) (qh (qy Qr)) qB)
   (qg (qM (Ji (qv QS (qD J8 (by rfl) B.len boot_len (qd (jv 0) qf)) qk (qA _))
     (Qm (qv XA (qD J8 (by rfl) B.len boot_len (qd (jv 0) qf)) (Jj (v:=.int 8) (by rfl) hlg ⟨_,rfl⟩) (qA _)))).pt (qh (qy Qr)) qB)
   (qh (qy (qD (Ye rfl) (by rfl) T.all boot_all (qd (j4 (N':=["sign"]) (ix:=[none]) rfl ⟨rfl,rfl,rfl,rfl,rfl⟩ (MN (jv 0)) (λC s2 H2 fp pins=>
    ⟨qw (i:=0) (Mr _) rfl (Or.inl rfl),jN,Qq yT (jv 0) (Jj (v:=.str yk) (by rfl) hlets ⟨_,rfl⟩) (by with_unfolding_all rfl)⟩)) qf))))),?_⟩
  have hn:=hz
  unfold jq at hn
  simp only[zar,decide_eq_true_eq]at hn
  obtain⟨⟨n1,n8⟩,na⟩:=hn
  have hz':z.length<=zeb:=zai (qp (by omega))
  refine⟨_,rfl,_,_,_,_,rfl,rfl,.str z,T.kss,_,rfl,ji ?_⟩
  refine⟨_,rfl,z,rfl,hz',_,_,rfl,rfl,_,rfl,?_⟩
  refine xk (λh=>?_) (λh=>?_)
  ·exact absurd (of_decide_eq_true h) (by omega)
  ·refine⟨_,rfl,z,rfl,hz',_,_,rfl,rfl,_,rfl,?_⟩
   refine xk (λh2=>?_) (λh2=>?_)
   ·exact absurd (of_decide_eq_true h2) (by show ¬(8:Int) < (z.length:Int);omega)
   ·refine⟨_,rfl,z,rfl,λD hD=>?_⟩
    refine R4 (λi σ' H'=>∃v,σ'=[v]/\H'=upd H D (.lst (((z.cps.toList.take i).map jU).map V.bl))) ⟨none,rfl,rfl⟩ ?_ ?_
    ·rintro i c σ' H' hc ⟨v,rfl,rfl⟩
     refine⟨_,rfl,_,_,rfl,rfl,_,qe,?_,?_⟩
     ·rw[tj,tj,tW]
      exact zaM (Nat.min_le_right _ _) (qp (show z.cps.toList.length<=1000 by rw[zaD];exact zaa n8 (by decide)))
     ·refine⟨_,rfl,?_⟩
      rw[jI,MT]
      have hc':z.cps.toList[i]?=some c:=by simpa using hc
      rw[<-Ko jU z.cps.toList i c hc',tI]
      rfl
    ·rintro σ' H' ⟨v,rfl,rfl⟩
     refine⟨D,_,rfl,.of qe,?_⟩
     have e0:z.cps.toList.take z.cps.size=z.cps.toList:=tF (by simp)
     have e1:(z.cps.toList.map jU).all id=true:=by rw[zcK];exact na
     rw[e0,e1]
     exact q _ (ql hD)
theorem NZ:qt ["thing"] ["thing"] (qj Wp):=zdV
theorem GK{f fN:Addr}{fd fdN:zea}(F:jK K "is_tuple_of_names" "is_tuple_of_names" Wp f fd)(B:QO mg)(G:QM mg)(T:Qt K mg)(hN:qQ K mg "is_name" zj ["thing"] fN fdN):qo P w K mg base qH 2 f fd ["thing"] qaD:=by
 have GN:qo P w K mg base qH 1 fN fdN ["thing"] KS:=Ve hN.fn B T
 refine F.okJ NZ (λvs H Q E h=>?_) (λcdv A outer s H vs Q E hr h=>?_)
 ·obtain⟨x,zs,rfl,_⟩:=h
  rfl
 ·obtain⟨x,zs,rfl,hx,hz,hl,q⟩:=h
  refine⟨_,qh (qy (Z5 (qD jc (by rfl) T.isi boot_isinstance (qd (jv 0) (qd (jW (v:=.ty "tuple") (by rfl) G.tup boot_tuple rfl) qf)))
   (XN (qD (Ye rfl) (by rfl) T.all boot_all (qd (j4 (N':=["part"]) (ix:=[none]) rfl ⟨rfl,rfl,rfl,rfl,rfl⟩ (z9 (jv 0)) (λC s2 H2 fp pins=>
    ⟨qw (i:=0) (Mr _) rfl (Or.inl rfl),jN,qF hN GN hr (by rfl) (qd (jv 0) qf)⟩)) qf))))),?_⟩
  refine⟨_,rfl,_,_,_,_,rfl,rfl,.tup hx,T.ktt,_,rfl,j3 ⟨_,rfl,x,rfl,⟨_,.of hx⟩,λD hD=>?_⟩⟩
  refine yf (K:=K) (a:=x) (xs:=zs.map V.str) (λi σ' H'=>∃v,σ'=[v]/\Same H H'/\H' D=some (.lst ((zbv i true).map V.bl))) ⟨none,rfl,ql hD,qe⟩ (λi σ' H' _ ⟨_,_,s,_⟩=>.of (s _ _ hx)) ?_ ?_
  ·rintro i y σ' H' hy ⟨v,rfl,s1,hD1⟩
   rw[tG]at hy
   cases e:zs[i]? with
   | none=>rw[e]at hy;cases hy
   | some z=>
    rw[e]at hy
    obtain rfl:=(tO.inj hy).symm
    have hi:=(tw.mp e).1
    refine⟨_,rfl,z,rfl,hz z (t9 e),λH2 s2=>⟨_,s2 _ _ hD1,?_,_,rfl,?_,?_⟩⟩
    ·rw[tj,zbQ]
     exact qp (by omega)
    ·exact Same.upd (s1.trans s2) hD
    ·rw[qe,List.replicate_succ',tI]
     rfl
  ·rintro σ' H' ⟨v,rfl,s1,hD1⟩
   refine⟨D,_,rfl,.of hD1,?_⟩
   have e:(zbv (zs.map V.str).length true).all id=true:=by simp
   rw[e]
   exact q _ s1
theorem K9:qt ["thing"] ["thing"] (qj Xp):=zdV
theorem ur{f fN fP:Addr}{fd fdN fdP:zea}(F:jK K "is_row" "is_row" Xp f fd)(B:QO mg)(G:QM mg)(T:Qt K mg)(hN:qQ K mg "is_name" zj ["thing"] fN fdN)(hP:qQ K mg "is_tuple_of_names" Wp ["thing"] fP fdP):qo P w K mg base qH 3 f fd ["thing"] Nq:=by
 have GN:qo P w K mg base qH 1 fN fdN ["thing"] KS:=Ve hN.fn B T
 have GP:qo P w K mg base qH 2 fP fdP ["thing"] qaD:=GK hP.fn B G T hN
 refine F.okJ K9 (λvs H Q E h=>?_) (λcdv A outer s H vs Q E hr h=>?_)
 ·obtain⟨p,x,r,rfl,_⟩:=h
  rfl
 ·obtain⟨p,x,r,rfl,hp,hx,hn,hz,hl,q⟩:=h
  refine⟨_,qg (qM (Ji (Qn (jl (qD jc (by rfl) T.isi boot_isinstance (qd (jv 0) (qd (jW (v:=.ty "tuple") (by rfl) G.tup boot_tuple rfl) qf)))))
    (Qm (qv wY (qD qZ (by rfl) B.len boot_len (qd (jv 0) qf)) qk (qA _)))).pt qS qB)
   (qh (qy (Z5 (qF hN GN (hr.mono (by decide)) (by rfl) (qd (qT qR (jv 0) qk (λ_ _=>rfl)) qf)) (XN (qF hP GP hr (by rfl) (qd (qT qR (jv 0) qk (λ_ _=>rfl)) qf)))))),?_⟩
  refine⟨_,rfl,_,_,_,_,rfl,rfl,.tup hp,T.ktt,_,rfl,ji ⟨_,rfl,p,_,rfl,.inr (.of hp),rfl,_,rfl,ji ?_⟩⟩
  refine⟨_,rfl,p,_,0,_,rfl,rfl,.of hp,rfl,r.1,rfl,hn,λH1 s1=>⟨_,rfl,j3 ?_⟩⟩
  exact⟨_,rfl,p,_,1,_,rfl,rfl,.of (s1 _ _ hp),rfl,x,r.2,rfl,s1 _ _ hx,hz,hl,λH2 s2=>q H2 (s1.trans s2)⟩
end
open PySem L2 PyProof.Rows
section
variable{P:Program}{w:World}{K:zdW}{mg:Str->Option Value}{base:Heap}
abbrev qa8:List Str:=["rows","number","row"]
theorem U6:qt qa8 ["rows"] (qj kC):=zdV
theorem Rg{f fN fP fR:Addr}{fd fdN fdP fdR:zea}(F:jK K "need_form" "need_form" kC f fd)(B:QO mg)(G:QM mg)(T:Qt K mg)(hN:qQ K mg "is_name" zj ["thing"] fN fdN)(hP:qQ K mg "is_tuple_of_names" Wp ["thing"] fP fdP)
  (hR:qQ K mg "is_row" Xp ["thing"] fR fdR):qo P w K mg base qH 4 f fd ["rows"] zN:=by
 have GR:qo P w K mg base qH 3 fR fdR ["thing"] Nq:=ur hR.fn B G T hN hP
 obtain⟨tm,hmp⟩:=T.mp
 refine F.okJ U6 (λvs H Q E h=>?_) (λcdv A outer s H vs Q E hr h=>?_)
 ·obtain⟨l,ps,rs,rfl,_⟩:=h
  rfl
 ·obtain⟨l,ps,rs,rfl,g,q⟩:=h
  refine⟨_,qg (qM (Ji (Qn (jl (qD jc (by rfl) T.isi boot_isinstance (qd (jv 0) (qd (jW (v:=.ty "list") (by rfl) G.lst boot_list rfl) qf)))))
    (Qm (qv jL (qD qZ (by rfl) B.len boot_len (qd (jv 0) qf)) qk (qA _)))).pt qS qB)
   (qg (qM (qv XA (qD qZ (by rfl) B.len boot_len (qd (jv 0) qf)) (Jj (v:=.int 14) (by rfl) hmp ⟨_,rfl⟩) (qA _)) qS qB)
   (qh (ja PassesOwn.never rfl (YW (by rfl) T.enu (qd (jv 0) qf)) (Z4 rfl (jC (qw (i:=1) U6.nd rfl (Or.inl rfl)) (jC (qw (i:=2) U6.nd rfl (Or.inl rfl)) JY)))
    (qh (qM (Qn (jl (qF hR GR hr (by rfl) (qd (jv 2) qf)))) qS qB))))),?_⟩
  have lp:(ps.map V.ref).length=rs.length:=by rw[tj,g.rows.1]
  refine⟨_,rfl,_,_,_,_,rfl,rfl,.lst g.at_,T.kll,_,rfl,ji ⟨_,rfl,l,_,rfl,.inl (.of g.at_),rfl,_,rfl,?_⟩⟩
  have e0:decide (V.int (((ps.map V.ref).length:Nat):Int)=V.int 0)=false:=decide_eq_false (by
   intro z
   have:=V.int.inj z
   have:=g.pos
   omega)
  rw[e0]
  refine ji ⟨_,rfl,l,_,rfl,.inl (.of g.at_),_,_,rfl,rfl,_,rfl,?_⟩
  have e1:decide ((14:Int) < (((ps.map V.ref).length:Nat):Int))=false:=decide_eq_false (by
   have:=g.le
   omega)
  refine xk (λz=>absurd z (by rw[e1];decide)) (λ_=>?_)
  refine⟨_,rfl,l,rfl,⟨_,.of g.at_⟩,?_⟩
  refine zA (K:=K) (a:=l) (xs:=ps.map V.ref) (λi σ' H'=>∃v1 v2,σ'=[some (.ref l),v1,v2]/\Same H H') ⟨none,none,rfl,Same.refl H⟩ (λi σ' H' _ ⟨_,_,_,s⟩=>.of (s _ _ g.at_)) ?_ ?_
  ·rintro i x σ' H' p hx hp ⟨v1,v2,rfl,s1⟩
   have g1:=g.mono (s1.trans (ql (o:=.tup [.int (i:Nat),x]) hp))
   obtain⟨p',q',r,rfl,_,hr',a,b⟩:=g1.rows.item hx
   refine⟨p,_,rfl,.of qe,rfl,_,_,rfl,_,_,rfl,rfl,_,rfl,p',q',r,rfl,a,b,g.good.nm r hr',g.good.names r hr',zaa (g.good.len r hr') (by decide),λH2 s2=>⟨_,rfl,ji ⟨_,_,rfl,?_⟩⟩⟩
   exact(s1.trans (ql hp)).trans s2
  ·rintro σ' H' ⟨v1,v2,rfl,s1⟩
   exact q H' s1
abbrev qct:List Str:=["order","ahead","name"]
theorem wq:qt qct ["order"] (qj Ge):=zdV
theorem Qz{zs:List Str}(hn:zs.Nodup){i:Nat}{z:Str}(e:zs[i]?=some z):¬(Sum.inr z:qN)∈(zs.take i).map Sum.inr:=λh=>by
 obtain⟨y,hy,ey⟩:=tL.mp h
 have ey':y=z:=Sum.inr.inj ey
 subst ey'
 obtain⟨j,hj⟩:=zbc hy
 have hj1:=(tw.mp hj).1
 rw[tW]at hj1
 have hji:j < i:=by omega
 rw[zbB hji]at hj
 have h1:=(tw.mp hj)
 have h2:=(tw.mp e)
 exact absurd (h1.2.trans h2.2.symm) (zaL.mp hn j i h1.1 h2.1 hji)
theorem W9{kvs:List (qN×V)}{k:qN}(v:V)(h:jg kvs k=none):(jQ kvs k v).map (·.1)=kvs.map (·.1)++[k]:=by
 rw[QJ v h,tI]
 rfl
theorem Mj{f:Addr}{fd:zea}(F:jK K "need_own_names" "need_own_names" Ge f fd):qo P w K mg base qH 1 f fd ["order"] Nr:=by
 refine F.okJ wq (λvs H Q E h=>?_) (λcdv A outer s H vs Q E hr h=>?_)
 ·obtain⟨l,zs,rfl,_⟩:=h
  rfl
 ·obtain⟨l,zs,rfl,hl,hn,hz,q⟩:=h
  have hu:=jX hr
  refine⟨_,qg (qx (i:=1) wq.nd rfl (Or.inl rfl) Qp)
   (qh (ja PassesOwn.never rfl (qJ (jv 0)) (qw (i:=2) wq.nd rfl (Or.inl rfl))
    (qg (qM (Qo (J0 hu (jv 2) (jv 1))) qS qB) (qh (jy hu (jv 1) (jv 2) Qr rfl))))),?_⟩
  intro D hD
  refine⟨_,rfl,l,rfl,⟨_,.of (qu hl hD)⟩,?_⟩
  refine jx (K:=K) (a:=l) (xs:=zs.map V.str) (λi σ' H'=>∃v kvs,σ'=[some (.ref l),some (.ref D),v]/\Same H H'/\H' D=some (.dK kvs)/\kvs.map (·.1)=(zs.take i).map Sum.inr) ⟨none,[],rfl,ql hD,qe,rfl⟩ (λi σ' H' _ ⟨_,_,_,s,_⟩=>.of (s _ _ hl)) ?_ ?_
  ·rintro i x σ' H' hx ⟨v,kvs,rfl,s1,hD1,ek⟩
   rw[tG]at hx
   cases e:zs[i]? with
   | none=>rw[e]at hx;cases hx
   | some z=>
    rw[e]at hx
    obtain rfl:=(tO.inj hx).symm
    have hi:=(tw.mp e).1
    have ez:jg kvs (Sum.inr z:qN)=none:=Jt (by rw[ek];exact Qz hn e)
    have gz:jZ H' D (.str z) none:=by
     have:=jZ.k (k:=(Sum.inr z:qN)) hD1
     rw[ez]at this
     exact this
    have lk:kvs.length < zeb:=by
     have:=congrArg zax ek
     rw[tj,tj,tW]at this
     exact qp (by omega)
    refine⟨_,rfl,_,rfl,D,none,rfl,gz,_,rfl,ji ?_⟩
    refine⟨_,rfl,_,rfl,D,_,rfl,Jb.k (k:=(Sum.inr z:qN)) hD1 lk,_,_,rfl,Same.upd s1 hD,qe,?_⟩
    rw[W9 _ ez,ek,tP,e,tI]
    rfl
  ·rintro σ' H' ⟨v,kvs,rfl,s1,_⟩
   exact q H' s1
abbrev qa9:List Str:=["ends","order","ahead","name"]
theorem U7:qt qa9 ["ends","order"] (qj kD):=zdV
theorem Ri{f:Addr}{fd:zea}(F:jK K "need_ends" "need_ends" kD f fd):qo P w K mg base qH 1 f fd ["ends","order"] x9:=by
 refine F.okJ U7 (λvs H Q E h=>?_) (λcdv A outer s H vs Q E hr h=>?_)
 ·obtain⟨x,l,es,zs,rfl,_⟩:=h
  rfl
 ·obtain⟨x,l,es,zs,rfl,hx,hl,hn,hin,hz,q⟩:=h
  have hu:=jX hr
  refine⟨_,qg (qx (i:=2) U7.nd rfl (Or.inl rfl) Qp)
   (qh (ja PassesOwn.never rfl (z9 (jv 0)) (qw (i:=3) U7.nd rfl (Or.inl rfl))
    (qg (qM (qv JR (jv 3) (jv 1) (by with_unfolding_all rfl)) qS qB)
    (qg (qM (Qo (J0 hu (jv 3) (jv 2))) qS qB) (qh (jy hu (jv 2) (jv 3) Qr rfl)))))),?_⟩
  intro D hD
  refine⟨_,rfl,x,rfl,⟨_,.of (qu hx hD)⟩,?_⟩
  refine Y0 (K:=K) (a:=x) (xs:=es.map V.str) (λi σ' H'=>∃v kvs,σ'=[some (.ref x),some (.ref l),some (.ref D),v]/\Same H H'/\H' D=some (.dK kvs)/\kvs.map (·.1)=(es.take i).map Sum.inr) ⟨none,[],rfl,ql hD,qe,rfl⟩ (λi σ' H' _ ⟨_,_,_,s,_⟩=>.of (s _ _ hx)) ?_ ?_
  ·rintro i y σ' H' hy ⟨v,kvs,rfl,s1,hD1,ek⟩
   rw[tG]at hy
   cases e:es[i]? with
   | none=>rw[e]at hy;cases hy
   | some z=>
    rw[e]at hy
    obtain rfl:=(tO.inj hy).symm
    have hi:=(tw.mp e).1
    have ez:jg kvs (Sum.inr z:qN)=none:=Jt (by rw[ek];exact Qz hn e)
    have gz:jZ H' D (.str z) none:=by
     have:=jZ.k (k:=(Sum.inr z:qN)) hD1
     rw[ez]at this
     exact this
    have lk:kvs.length < zeb:=by
     have:=congrArg zax ek
     rw[tj,tj,tW]at this
     exact qp (by omega)
    refine⟨_,rfl,_,rfl,l,_,rfl,.inl (.of (s1 _ _ hl)),rfl,ZH zs,_,rfl,?_⟩
    rw[Vs (hin z (t9 e))]
    refine ji ⟨_,rfl,_,rfl,D,none,rfl,gz,_,rfl,ji ?_⟩
    refine⟨_,rfl,_,rfl,D,_,rfl,Jb.k (k:=(Sum.inr z:qN)) hD1 lk,_,_,rfl,Same.upd s1 hD,qe,?_⟩
    rw[W9 _ ez,ek,tP,e,tI]
    rfl
  ·rintro σ' H' ⟨v,kvs,rfl,s1,_⟩
   exact q H' s1
abbrev qcA:List Str:=["rows","many"]
theorem Nx:qt qcA ["rows"] (qj Gf):=zdV
theorem Mn{f:Addr}{fd:zea}(F:jK K "need_few_roads" "need_few_roads" Gf f fd)(B:QO mg)(T:Qt K mg):qo P w K mg base qH 1 f fd ["rows"] zN:=by
 obtain⟨tm,hmr⟩:=T.mr
 refine F.okJ Nx (λvs H Q E h=>?_) (λcdv A outer s H vs Q E hr h=>?_)
 ·obtain⟨l,ps,rs,rfl,_⟩:=h
  rfl
 ·obtain⟨l,ps,rs,rfl,g,q⟩:=h
  refine⟨_,qg (qx (i:=1) Nx.nd rfl (Or.inl rfl) (qD (Yc rfl) (by rfl) T.sum boot_sum (qd (j4 (N':=["row"]) (ix:=[none]) (te:=Nm (λxs H Q=>∃p ys,xs=[.ref p]/\(SqL K H p ys\/Y5 K H p ys)/\Q (.int ys.length) H) (jk (Yu (zT K) (jd 0) (tC (.int 1))) QT)) rfl ⟨rfl,rfl,rfl,rfl,rfl⟩ (qJ (jv 0)) (λC s2 H2 fp pins=>
    ⟨qw (i:=0) (Mr _) rfl (Or.inl rfl),jN,qD qZ (by rfl) B.len boot_len (qd (qT qR (jv 0) qk (λ_ _=>rfl)) qf)⟩)) qf)))
   (qh (qM (qv XA (jv 1) (Jj (v:=.int 40) (by rfl) hmr ⟨_,rfl⟩) (qA _)) qS qB)),?_⟩
  refine⟨_,rfl,l,rfl,⟨_,.of g.at_⟩,λD hD=>?_⟩
  refine j2 (K:=K) (a:=l) (xs:=ps.map V.ref) (λi σ' H'=>∃v,σ'=[v]/\H'=upd H D (.lst (((rs.take i).map λr=>r.2.length).map λn=>V.int ((n:Nat):Int)))) ⟨none,rfl,rfl⟩ (λi σ' H' _ ⟨_,_,e⟩=>e▸.of (qu g.at_ hD)) ?_ ?_
  ·rintro i x σ' H' hx ⟨v,rfl,rfl⟩
   obtain⟨p',q',r,rfl,er,hr',a,b⟩:=g.rows.item hx
   have hi:=(tw.mp er).1
   refine⟨_,rfl,p',_,1,_,rfl,rfl,.of (qu a hD),rfl,q',_,rfl,.inr (.of (qu b hD)),_,qe,?_,_,rfl,?_⟩
   ·rw[tj,tj,tW]
    have:=g.le
    exact qp (by omega)
   ·rw[jI,tP,er,tI,tI,tj]
    rfl
  ·rintro σ' H' ⟨v,rfl,rfl⟩
   have e:rs.take (ps.map V.ref).length=rs:=tF (by rw[tj,g.rows.1];exact tz _)
   rw[e]
   refine⟨D,_,rfl,.of qe,zaM g.good.few (by decide),?_⟩
   refine⟨_,rfl,_,_,rfl,rfl,_,rfl,?_⟩
   have:=g.good.few
   refine xk (λz=>absurd (of_decide_eq_true z) ?_) (λ_=>q _ (ql hD))
   show ¬(40:Int) < _
   omega
abbrev qa4:List Str:=["rows","order","row"]
theorem U5:qt qa4 ["rows"] (qj V0):=zdV
structure Nc(K:zdW)(mg:Str->Option Value):Prop where
 nm:∃f fd,qQ K mg "is_name" zj ["thing"] f fd
 tn:∃f fd,qQ K mg "is_tuple_of_names" Wp ["thing"] f fd
 rw:∃f fd,qQ K mg "is_row" Xp ["thing"] f fd
 fo:∃f fd,qQ K mg "need_form" kC ["rows"] f fd
 ow:∃f fd,qQ K mg "need_own_names" Ge ["order"] f fd
 en:∃f fd,qQ K mg "need_ends" kD ["ends","order"] f fd
 fw:∃f fd,qQ K mg "need_few_roads" Gf ["rows"] f fd
theorem GY{f:Addr}{fd:zea}(F:jK K "need_rows" "need_rows" V0 f fd)(B:QO mg)(G:QM mg)(T:Qt K mg)(N:Nc K mg):qo P w K mg base qH 5 f fd ["rows"] zN:=by
 obtain⟨fN,fdN,hN⟩:=N.nm
 obtain⟨fP,fdP,hP⟩:=N.tn
 obtain⟨fR,fdR,hR⟩:=N.rw
 obtain⟨fF,fdF,hF⟩:=N.fo
 obtain⟨fO,fdO,hO⟩:=N.ow
 obtain⟨fE,fdE,hE⟩:=N.en
 obtain⟨fW,fdW,hW⟩:=N.fw
 have GF:qo P w K mg base qH 4 fF fdF ["rows"] zN:=Rg hF.fn B G T hN hP hR
 have GO:qo P w K mg base qH 1 fO fdO ["order"] Nr:=Mj hO.fn
 have GE:qo P w K mg base qH 1 fE fdE ["ends","order"] x9:=Ri hE.fn
 have GW:qo P w K mg base qH 1 fW fdW ["rows"] zN:=Mn hW.fn B T
 refine F.okJ U5 (λvs H Q E h=>?_) (λcdv A outer s H vs Q E hr h=>?_)
 ·obtain⟨l,ps,rs,rfl,_⟩:=h
  rfl
 ·obtain⟨l,ps,rs,rfl,g,q⟩:=h
  refine⟨_,qg (je (qF hF GF hr (by rfl) (qd (jv 0) qf)))
   (qg (Q6 (i:=1) (N':=["row"]) (ix:=[none]) (te:=Yu (zT K) (jd 0) (tC (.int 0))) U5.nd rfl (Or.inl rfl) rfl ⟨rfl,rfl,rfl,rfl,rfl⟩ (qJ (jv 0)) (λC s2 H2 fp pins=>
    ⟨qw (i:=0) (Mr _) rfl (Or.inl rfl),jN,qT qR (jv 0) qk (λ_ _=>rfl)⟩))
   (qg (je (qF hO GO (hr.mono (by decide)) (by rfl) (qd (jv 1) qf)))
   (qg (ja PassesOwn.never rfl (qJ (jv 0)) (qw (i:=2) U5.nd rfl (Or.inl rfl))
    (qh (je (qF hE GE (hr.mono (by decide)) (by rfl) (qd (qT qR (jv 2) qk (λ_ _=>rfl)) (qd (jv 1) qf))))))
   (qh (je (qF hW GW (hr.mono (by decide)) (by rfl) (qd (jv 0) qf))))))),?_⟩
  refine⟨_,rfl,l,ps,rs,rfl,g,λH1 s1=>?_⟩
  have g1:=g.mono s1
  refine⟨_,rfl,l,rfl,⟨_,.of g1.at_⟩,λD hD=>?_⟩
  refine j2 (K:=K) (a:=l) (xs:=ps.map V.ref) (λi σ' H'=>∃v,σ'=[v]/\H'=upd H1 D (.lst (((rs.take i).map (·.1)).map V.str))) ⟨none,rfl,rfl⟩ (λi σ' H' _ ⟨_,_,e⟩=>e▸.of (qu g1.at_ hD)) ?_ ?_
  ·rintro i x σ' H' hx ⟨v,rfl,rfl⟩
   obtain⟨p',q',r,rfl,er,hr',a,b⟩:=g1.rows.item hx
   have hi:=(tw.mp er).1
   refine⟨_,rfl,p',_,0,_,rfl,rfl,.of (qu a hD),rfl,_,qe,?_,_,rfl,?_⟩
   ·rw[tj,tj,tW]
    have:=g.le
    exact qp (by omega)
   ·rw[jI,tP,er,tI,tI]
    rfl
  ·rintro σ' H' ⟨v,rfl,rfl⟩
   have e:rs.take (ps.map V.ref).length=rs:=tF (by rw[tj,g.rows.1];exact tz _)
   rw[e]
   refine⟨_,rfl,D,rs.map (·.1),rfl,qe,g.good.nd,by rw[tj];have:=g.le;omega,λH2 s2=>?_⟩
   have sD:Same H1 H2:=(ql hD).trans s2
   have hD2:H2 D=some (.lst ((rs.map (·.1)).map V.str)):=s2 _ _ qe
   have g2:=g1.mono sD
   refine⟨_,rfl,l,rfl,⟨_,.of g2.at_⟩,?_⟩
   refine jx (K:=K) (a:=l) (xs:=ps.map V.ref) (λi σ' H'=>∃v,σ'=[some (.ref l),some (.ref D),v]/\Same H2 H') ⟨none,rfl,Same.refl H2⟩ (λi σ' H' _ ⟨_,_,s⟩=>.of (s _ _ g2.at_)) ?_ ?_
   ·rintro i x σ' H' hx ⟨v,rfl,s3⟩
    obtain⟨p',q',r,rfl,er,hr',a,b⟩:=(g2.mono s3).rows.item hx
    refine⟨_,rfl,p',_,1,_,rfl,rfl,.of a,rfl,_,rfl,q',D,r.2,rs.map (·.1),rfl,b,s3 _ _ hD2,g.good.rd r hr',g.good.to r hr',zaa (g.good.len r hr') (by decide),λH4 s4=>⟨_,rfl,s3.trans s4⟩⟩
   ·rintro σ' H' ⟨v,rfl,s3⟩
    exact⟨_,rfl,l,ps,rs,rfl,g2.mono s3,λH4 s4=>q H4 (((s1.trans sD).trans s3).trans s4)⟩
end
open PySem L2 PyProof.Rows
abbrev U9:Stmt:=Qa (top 25) 0
abbrev zm:Stmt:=Qa (top 25) 1
abbrev Xr:Stmt:=Qa (top 25) 2
def Qx(rs:List (Str×List Str))(r:Str×List Str):List Str:=(rs.map (·.1)).filter λz=>ZF (.str z) (r.2.map V.str)
def Qu(CG:Addr)(H:Hp)(a:Addr)(rs:List (Str×List Str)):Prop:=∃(dx lo rd:Addr) (kvs:List (qN×V)),H a=some (.ins CG dx [("order",.ref lo),("roads",.ref rd)])/\H lo=some (.lst ((rs.map (·.1)).map V.str))/\H rd=some (.dK kvs)/\
 ∀r∈rs,∃q,jg kvs (Sum.inr r.1)=some (.ref q)/\H q=some (.lst ((Qx rs r).map V.str))
theorem Qu.mono{CG:Addr}{H H':Hp}{a:Addr}{rs:List (Str×List Str)}(h:Qu CG H a rs)(s:Same H H'):Qu CG H' a rs:=by
 obtain⟨dx,lo,rd,kvs,h1,h2,h3,h4⟩:=h
 exact⟨dx,lo,rd,kvs,s _ _ h1,s _ _ h2,s _ _ h3,λr hr=>let ⟨q,a,b⟩:=h4 r hr;⟨q,a,s _ _ b⟩⟩
theorem jP.fr{H H':Hp}{l x C dx:Addr}{fs:List (Str×V)}{ps:List Addr}{rs:List (Str×List Str)}(h:jP H l ps rs)(hx:H x=some (.ins C dx fs))(s:Fr H x H'):jP H' l ps rs:=by
 refine⟨s _ _ h.at_ (λe=>?_),⟨h.rows.1,λi p r e1 e2=>?_⟩,h.good,h.pos,h.le⟩
 ·have:=h.at_
  rw[e,hx]at this
  cases this
 ·obtain⟨q,a,b⟩:=h.rows.2 i p r e1 e2
  exact⟨q,s _ _ a (λe=>by rw[e,hx]at a;cases a),s _ _ b (λe=>by rw[e,hx]at b;cases b)⟩
structure ClG(K:zdW)(mg:Str->Option Value)(CG f:Addr)(fd:zea):Prop where
 cl:X7 K CG
 mkr:Mk K CG f
 ns:mg "Ground"=some (.ref CG)
 no:j5 K CG "order"
 nr:j5 K CG "roads"
 fn:jK K "__init__" "Ground.__init__" U9 f fd
 bi:jE K fd ["self","rows"] []
theorem nor:¬(zdX "order")=zdX "roads":=by decide+kernel
theorem qcp(v:V):JQ (zdX "order") v []=[(zdX "order",v)]:=rfl
theorem qco(v u:V):JQ (zdX "roads") u [(zdX "order",v)]=[(zdX "order",v),(zdX "roads",u)]:=by
 unfold JQ
 rw[if_neg nor]
 rfl
theorem lkO(v u:V):([(zdX "order",v),(zdX "roads",u)]:List (Str×V)).lookup (zdX "order")=some v:=by simp [zbb]
theorem lkR(v u:V):([(zdX "order",v),(zdX "roads",u)]:List (Str×V)).lookup (zdX "roads")=some u:=by
 have e:((zdX "roads")==(zdX "order"))=false:=by decide+kernel
 simp [zbb,e]
def YK(CG:Addr):Sp:=λvs H Q _=>∃(x dx l:Addr) (ps:List Addr) (rs:List (Str×List Str)),vs=[.ref x,.ref l]/\jP H l ps rs/\H x=some (.ins CG dx [])/\∀H',Qu CG H' x rs->Fr H x H'->Q .non H'
def ze(CG:Addr):Sp:=λvs H Q _=>∃(a:Addr) (rs:List (Str×List Str)),vs=[.ref a]/\Qu CG H a rs/\∀l,H l=none->Q (.ref l) (upd H l (.lst ((rs.map (·.1)).map V.str)))
def YL(CG:Addr):Sp:=λvs H Q _=>∃(a:Addr) (rs:List (Str×List Str)) (r:Str×List Str),vs=[.ref a,.str r.1]/\Qu CG H a rs/\r∈rs/\jq r.1=true/\∀H1 l,Same H H1->H1 l=none->Q (.ref l) (upd H1 l (.lst ((Qx rs r).map V.str)))
section
variable{P:Program}{w:World}{K:zdW}{mg:Str->Option Value}{base:Heap}
abbrev nGI:List Str:=["self","rows","row"]
theorem qaO:qt nGI ["self","rows"] (qj U9):=zdV
theorem uu{f fW CG:Addr}{fd fdW:zea}(C:ClG K mg CG f fd)(B:QO mg)(G:QM mg)(T:Qt K mg)(N:Nc K mg)(hW:qQ K mg "need_rows" V0 ["rows"] fW fdW):qo P w K mg base qH 6 f fd ["self","rows"] (YK CG):=by
 have GW:qo P w K mg base qH 5 fW fdW ["rows"] zN:=GY hW.fn B G T N
 refine C.fn.okJ qaO (λvs H Q E h=>?_) (λcdv A outer s H vs Q E hr h=>?_)
 ·obtain⟨x,dx,l,ps,rs,rfl,_⟩:=h
  rfl
 ·obtain⟨x,dx,l,ps,rs,rfl,g,hx,q⟩:=h
  have hu:=jX hr
  refine⟨_,qg (je (qF hW GW hr (by rfl) (qd (jv 1) qf)))
   (qg (Vp (jv 0) (j4 (N':=["row"]) (ix:=[none]) (te:=Yu (zT K) (jd 0) (tC (.int 0))) rfl ⟨rfl,rfl,rfl,rfl,rfl⟩ (qJ (jv 1)) (λC s2 H2 fp pins=>
    ⟨qw (i:=0) (Mr _) rfl (Or.inl rfl),jN,qT qR (jv 0) qk (λ_ _=>rfl)⟩)) rfl)
   (qg (Vp (jv 0) Qp rfl)
   (qh (ja PassesOwn.never rfl (qJ (jv 1)) (qw (i:=2) qaO.nd rfl (Or.inr rfl))
    (qh (jy hu (Q7 (jv 0) rfl) (qT qR (jv 2) qk (λ_ _=>rfl))
     (j4 (N':=["name","row"]) (ix:=[none,some 2]) (tt:=Y8 (Yu (rIn K false) (jd 0) (Yu (zT K) (jd 1) (tC (.int 1))))) rfl ⟨rfl,rfl,rfl,rfl,rfl⟩ (qJ (Q7 (jv 0) rfl)) (λC s2 H2 fp pins=>
      ⟨qw (i:=0) (show (["name","row"]:List Str).Nodup by decide+kernel) rfl (Or.inl rfl),jV (qv Jz (jv 0) (qT qR (jv 1) qk (λ_ _=>rfl)) (by with_unfolding_all rfl)),jv 0⟩)) rfl)))))),?_⟩
  refine⟨_,rfl,l,ps,rs,rfl,g,λH1 s1=>?_⟩
  have g1:=g.mono s1
  have fr1:Fr H x H1:=λb u h _=>s1 _ _ h
  have hx1:=s1 _ _ hx
  refine⟨_,rfl,l,rfl,⟨_,.of g1.at_⟩,λlo hlo=>?_⟩
  have nlx:lo≠x:=λe=>by rw[e,hx1]at hlo;cases hlo
  refine j2 (K:=K) (a:=l) (xs:=ps.map V.ref) (λi σ' H'=>∃v,σ'=[v]/\H'=upd H1 lo (.lst (((rs.take i).map (·.1)).map V.str))) ⟨none,rfl,rfl⟩ (λi σ' H' _ ⟨_,_,e⟩=>e▸.of (qu g1.at_ hlo)) ?_ ?_
  ·rintro i y σ' H' hy ⟨v,rfl,rfl⟩
   obtain⟨p',q',r,rfl,er,hr',a,b⟩:=g1.rows.item hy
   have hi:=(tw.mp er).1
   refine⟨_,rfl,p',_,0,_,rfl,rfl,.of (qu a hlo),rfl,_,qe,?_,_,rfl,?_⟩
   ·rw[tj,tj,tW]
    have:=g.le
    exact qp (by omega)
   ·rw[jI,tP,er,tI,tI]
    rfl
  rintro σ' H' ⟨v,rfl,rfl⟩
  have e:rs.take (ps.map V.ref).length=rs:=tF (by rw[tj,g.rows.1];exact tz _)
  rw[e]
  have fr2:Fr H x (upd H1 lo (.lst ((rs.map (·.1)).map V.str))):=fr1.new hlo
  have hlo2:upd H1 lo (.lst ((rs.map (·.1)).map V.str)) lo=some (.lst ((rs.map (·.1)).map V.str)):=qe
  have hx2:upd H1 lo (.lst ((rs.map (·.1)).map V.str)) x=some (.ins CG dx []):=qu hx1 hlo
  generalize upd H1 lo (.lst ((rs.map (·.1)).map V.str))=H2 at fr2 hlo2 hx2
  refine⟨_,rfl,x,CG,dx,[],rfl,hx2,C.cl,C.no,by decide,?_⟩
  rw[qcp]
  intro rd hrd
  have nrx:rd≠x:=λe=>by rw[e,qe]at hrd;cases hrd
  have hrd2:H2 rd=none:=by rw[qi nrx]at hrd;exact hrd
  have nrl:rd≠lo:=λe=>by rw[e,hlo2]at hrd2;cases hrd2
  have hHr:H rd=none:=fr2.fresh hx2 hrd2
  refine⟨_,rfl,x,CG,dx,_,rfl,qu qe hrd,C.cl,C.nr,by show 1 < 1000;decide,?_⟩
  rw[qco]
  have fr5:Fr H x (upd (upd (upd H2 x (.ins CG dx [("order",.ref lo)])) rd (.dK [])) x (.ins CG dx [("order",.ref lo),("roads",.ref rd)])):=((fr2.at_d).own hHr).at_d
  have g5:=g.fr hx fr5
  refine⟨_,rfl,l,rfl,⟨_,.of g5.at_⟩,?_⟩
  refine jx (K:=K) (a:=l) (xs:=ps.map V.ref) (λi σ' H'=>∃v kvs,σ'=[some (.ref x),some (.ref l),v]/\H' x=some (.ins CG dx [("order",.ref lo),("roads",.ref rd)])/\H' lo=some (.lst ((rs.map (·.1)).map V.str))/\H' rd=some (.dK kvs)/\
   kvs.map (·.1)=((rs.map (·.1)).take i).map Sum.inr/\(∀r∈rs.take i,∃q,jg kvs (Sum.inr r.1)=some (.ref q)/\H' q=some (.lst ((Qx rs r).map V.str)))/\Fr H x H')
   ⟨none,[],rfl,qe,?_,?_,rfl,λr h=>(nomatch h),fr5⟩ (λi σ' H' _ ⟨_,_,_,_,_,_,_,_,fr⟩=>.of (g.fr hx fr).at_) ?_ ?_
  ·rw[qi nlx,qi (Ne.symm nrl),qi nlx]
   exact hlo2
  ·rw[qi nrx]
   exact qe
  ·rintro i y σ' H' hy ⟨v,kvs,rfl,hx',hlo',hrd',ek,hv,fr⟩
   have g':=g.fr hx fr
   obtain⟨p,qq,r,rfl,er,hr',a,b⟩:=g'.rows.item hy
   have hi:=(tw.mp er).1
   have hle:=g.le
   refine⟨_,rfl,x,CG,dx,_,_,rfl,hx',C.cl,C.no,lkO _ _,lo,rfl,⟨_,.of hlo'⟩,λD hD=>?_⟩
   refine j2 (K:=K) (a:=lo) (xs:=(rs.map (·.1)).map V.str) (λj σ'' H''=>∃v0,σ''=[v0,some (.ref p)]/\H''=upd H' D (.lst ((((rs.map (·.1)).take j).filter λz=>ZF (.str z) (r.2.map V.str)).map V.str))) ⟨none,rfl,rfl⟩
    (λj σ'' H'' _ ⟨_,_,e⟩=>e▸.of (qu hlo' hD)) ?_ ?_
   ·rintro j y σ'' H'' hy ⟨v0,rfl,rfl⟩
    rw[tG]at hy
    cases e:(rs.map (·.1))[j]? with
    | none=>rw[e]at hy;cases hy
    | some z=>
     rw[e]at hy
     obtain rfl:=(tO.inj hy).symm
     refine⟨_,rfl,_,rfl,p,_,1,_,rfl,rfl,.of (qu a hD),rfl,qq,_,rfl,.inr (.of (qu b hD)),rfl,ZH _,_,rfl,?_⟩
     have et:((rs.map (·.1)).take (j+1)).filter (λz=>ZF (.str z) (r.2.map V.str))=((rs.map (·.1)).take j).filter (λz=>ZF (.str z) (r.2.map V.str))++if ZF (.str z) (r.2.map V.str)=true then [z] else []:=by
      rw[tP,e,zaN]
      congr 1
      cases ei:ZF (.str z) (r.2.map V.str)
      ·simp [ei]
      ·simp [ei]
     rw[et]
     show if ZF (.str z) (r.2.map V.str)=true then _ else _
     cases ei:ZF (.str z) (r.2.map V.str) with
     | true=>
      refine j3 ⟨_,rfl,_,qe,?_,_,rfl,?_⟩
      ·rw[tj]
       refine qp (zaa (zaq _ _) ?_)
       rw[tW,tj]
       omega
      ·rw[jI,if_pos rfl,tI]
       rfl
     | false=>
      refine ji ⟨_,rfl,?_⟩
      rw[if_neg tN,zan]
   ·rintro σ'' H'' ⟨v0,rfl,rfl⟩
    have ed:((rs.map (·.1)).take ((rs.map (·.1)).map V.str).length).filter (λz=>ZF (.str z) (r.2.map V.str))=Qx rs r:=by
     rw[tj,tF (tz _)]
     rfl
    rw[ed]
    have nD:∀{c:Addr} {o:HO},H' c=some o->c≠D:=λh e=>by rw[e,hD]at h;cases h
    have en:(rs.map (·.1))[i]?=some r.1:=by rw[tG,er];rfl
    have ez:jg kvs (Sum.inr r.1:qN)=none:=Jt (by rw[ek];exact Qz g.good.nd en)
    have lk:kvs.length < zeb:=by
     have:=congrArg zax ek
     rw[tj,tj,tW,tj]at this
     exact qp (by omega)
    refine⟨_,rfl,x,CG,dx,_,_,rfl,qu hx' hD,C.cl,C.nr,lkR _ _,_,rfl,p,_,0,_,rfl,rfl,.of (qu a hD),rfl,rd,_,rfl,Jb.k (k:=(Sum.inr r.1:qN)) (qu hrd' hD) lk,?_⟩
    refine⟨_,jQ kvs (Sum.inr r.1) (.ref D),rfl,?_,?_,qe,?_,λr' hr2=>?_,?_⟩
    ·rw[qi (Ne.symm nrx)];exact qu hx' hD
    ·rw[qi (Ne.symm nrl)];exact qu hlo' hD
    ·rw[W9 _ ez,ek,tP,en,tI]
     rfl
    ·rw[tP,er]at hr2
     rcases tX.mp hr2 with h | h
     ·obtain⟨q1,a1,b1⟩:=hv r' h
      refine⟨q1,?_,?_⟩
      ·rw[j0,if_neg]
       ·exact a1
       ·intro z
        rw[z,ez]at a1
        cases a1
      ·have n1:q1≠rd:=λe=>by rw[e,hrd']at b1;cases b1
       rw[qi n1]
       exact qu b1 hD
     ·have er':r'=r:=by simpa using h
      subst er'
      refine⟨D,?_,?_⟩
      ·rw[j0,if_pos rfl]
      ·rw[qi (Ne.symm (nD hrd'))]
       exact qe
    ·exact(fr.new hD).own hHr
  ·rintro σ' H' ⟨v,kvs,rfl,hx',hlo',hrd',ek,hv,fr⟩
   have e:rs.take (ps.map V.ref).length=rs:=tF (by rw[tj,g.rows.1];exact tz _)
   rw[e]at hv
   exact q H' ⟨dx,lo,rd,kvs,hx',hlo',hrd',hv⟩ fr
theorem qcf:qt ["self"] ["self"] (qj zm):=zdV
theorem zV{f fI CG:Addr}{fd fdI:zea}(F:jK K "names" "Ground.names" zm f fd)(C:ClG K mg CG fI fdI)(G:QM mg):qo P w K mg base qH 1 f fd ["self"] (ze CG):=by
 refine F.okJ qcf (λvs H Q E h=>?_) (λcdv A outer s H vs Q E hr h=>?_)
 ·obtain⟨a,rs,rfl,_⟩:=h
  rfl
 ·obtain⟨a,rs,rfl,⟨dx,lo,rd,kvs,h1,h2,h3,h4⟩,q⟩:=h
  refine⟨_,qh (qy (jB Qs (by rfl) G.lst boot_list (qd (Q7 (jv 0) rfl) qf))),?_⟩
  exact⟨_,rfl,a,CG,dx,_,_,rfl,h1,C.cl,C.no,lkO _ _,lo,_,rfl,.inl (.of h2),q⟩
abbrev nGF:List Str:=["self","name"]
theorem qcg:qt nGF nGF (qj Xr):=zdV
theorem XC{f fI fN CG:Addr}{fd fdI fdN:zea}(F:jK K "roads_from" "Ground.roads_from" Xr f fd)(C:ClG K mg CG fI fdI)(B:QO mg)(G:QM mg)(T:Qt K mg)(hN:qQ K mg "is_name" zj ["thing"] fN fdN):qo P w K mg base qH 2 f fd nGF (YL CG):=by
 have GN:qo P w K mg base qH 1 fN fdN ["thing"] KS:=Ve hN.fn B T
 refine F.okJ qcg (λvs H Q E h=>?_) (λcdv A outer s H vs Q E hr h=>?_)
 ·obtain⟨a,rs,r,rfl,_⟩:=h
  rfl
 ·obtain⟨a,rs,r,rfl,gr,hr',hn,q⟩:=h
  have hu:=jX hr
  refine⟨_,qg (qM (Ji (Qn (jl (qF hN GN hr (by rfl) (qd (jv 1) qf)))) (Qm (Qo (JJ hu (jv 1) (Q7 (jv 0) rfl))))).pt qS qB)
   (qh (qy (jB Qs (by rfl) G.lst boot_list (qd (qW hu (Q7 (jv 0) rfl) (jv 1) (λ_ _=>rfl)) qf)))),?_⟩
  refine⟨_,rfl,r.1,rfl,hn,λH1 s1=>⟨_,rfl,ji ?_⟩⟩
  obtain⟨dx,lo,rd,kvs,h1,h2,h3,h4⟩:=gr.mono s1
  obtain⟨qq,hv,hq⟩:=h4 r hr'
  have gz:jZ H1 rd (.str r.1) (some (.ref qq)):=by
   have:=jZ.k (k:=(Sum.inr r.1:qN)) h3
   rw[hv]at this
   exact this
  refine⟨_,rfl,_,rfl,a,CG,dx,_,_,rfl,h1,C.cl,C.nr,lkR _ _,rd,_,rfl,gz,_,rfl,ji ?_⟩
  exact⟨_,rfl,a,CG,dx,_,_,rfl,h1,C.cl,C.nr,lkR _ _,_,rfl,rd,_,rfl,gz,qq,_,rfl,.inl (.of hq),λl hl=>q H1 l s1 hl⟩
end
open PySem L2 PyProof.Rows
abbrev QI:Stmt:=top 33
abbrev zQ:Stmt:=top 34
abbrev qV:=List (Str×List Str)
def Jd(rs:qV)(z:Str):List Str:=match rs.find? (λr=>decide (r.1=z)) with
 | some r=>Qx rs r
 | none=>[]
theorem XS:∀{rs:qV} {r:Str×List Str},(rs.map (·.1)).Nodup->r∈rs->rs.find? (λq=>decide (q.1=r.1))=some r
 | a::rs,r,hn,h=>by
  rw[tU,zal]at hn
  rcases tS.mp h with rfl | h
  ·simp [zbp]
  ·have:¬a.1=r.1:=λe=>hn.1 (e▸tL.mpr ⟨r,h,rfl⟩)
   simp only[zbp,decide_eq_false this]
   exact XS hn.2 h
theorem J4{rs:qV}{r:Str×List Str}(hn:(rs.map (·.1)).Nodup)(h:r∈rs):Jd rs r.1=Qx rs r:=by
 unfold Jd
 rw[XS hn h]
theorem V9{rs:qV}{r:Str×List Str}{y:Str}(h:y∈Qx rs r):∃r'∈rs,r'.1=y:=by
 obtain⟨r',h1,h2⟩:=tL.mp (zad.mp h).1
 exact⟨r',h1,h2⟩
theorem RJ{z:Str}{zs:List Str}:ZF (.str z) (zs.map V.str)=true↔z∈zs:=by
 refine⟨λh=>?_,Vs⟩
 unfold ZF at h
 obtain⟨y,hy,e⟩:=zbj.mp h
 obtain⟨x,hx,rfl⟩:=tL.mp hy
 have e':(x==z)=true:=e
 rw[beq_iff_eq]at e'
 exact e'▸hx
theorem wA{rs:qV}(g:qC rs){r:Str×List Str}(h:r∈rs){y:Str}:y∈Qx rs r↔y∈r.2:=by
 unfold Qx
 rw[zad,RJ]
 exact⟨λz=>z.2,λz=>⟨g.to r h y z,z⟩⟩
theorem J5{rs:qV}(hn:(rs.map (·.1)).Nodup):∀z∈rs.map (·.1),∀y∈Jd rs z,y∈rs.map (·.1):=λz hz y hy=>by
 obtain⟨r,hr,rfl⟩:=tL.mp hz
 rw[J4 hn hr]at hy
 obtain⟨r',h1,rfl⟩:=V9 hy
 exact tL.mpr ⟨r',h1,rfl⟩
theorem JX{α:Type}:∀{l m:List α},l.Nodup->(∀z∈l,z∈m)->l.length<=m.length
 | [],m,_,_=>zaw _
 | a::l,m,hn,h=>by
  classical
  rw[zal]at hn
  have ha:=h a t8
  have:=JX (m:=m.erase a) hn.2 λz hz=>(zbW (λ(e:z=a)=>hn.1 (e▸hz))).mpr (h z (tY _ hz))
  rw[zce ha]at this
  have:=zbq ha
  rw[zay]
  omega
theorem zZ:∀{more kvs:List (qN×V)},(more.map (·.1)).Nodup->(∀k∈more.map (·.1),¬k∈kvs.map (·.1))->QQ kvs more=kvs++more
 | [],kvs,_,_=>(zan _).symm
 | p::more,kvs,hn,h=>by
  rw[tU,zal]at hn
  have e:jg kvs p.1=none:=Jt (h p.1 (by simp))
  show QQ (jQ kvs p.1 p.2) more=_
  rw[QJ p.2 e,zZ hn.2]
  ·rw[zcy]
   rfl
  ·intro k hk m
   rw[tI]at m
   rcases tX.mp m with m | m
   ·exact h k (by rw[tU];exact tY _ hk) m
   ·have:k=p.1:=by simpa using m
    subst this
    exact hn.1 hk
structure VE(K:zdW)(C:Addr)(m qual:Str)(st:Stmt)(ps:List Str)(f:Addr)(fd:zea):Prop where
 fn:jK K m qual st f fd
 me:We K C m f
 bi:jE K fd ps []
theorem uR{X:Cx}{C f:Addr}{fd:zea}{m qual:Str}{st:Stmt}{ps:List Str}{k:Nat}{sp:Sp}{o:Expr}{ta:TE}{apos pos:Pos}{pl:Sem Bool}(h:VE X.K C m qual st ps f fd)(c:X7 X.K C)(G:qo X.prog X.w X.K X.mg X.base qH k f fd ps sp)(hr:qU k X.A)(he:JE X o ta)
 (ht:eval (.Call (.Attribute o m apos) [] [] pos) X.env=(do
  let ov <-eval o X.env
  standAt apos.atName
  let (f,first) <-holding [ov] (getMethod ov m pl)
  callWith pos f first (backTo pos (starEach [] X.env)) (backToKw pos (keywordEach [] X.env))):=by rfl):
 JE X (.Call (.Attribute o m apos) [] [] pos) (Wj C m sp [] E0 ta QT):=uQ he c h.me G hr h.bi .nil QR ht
theorem kW{X:Cx}{C f:Addr}{fd:zea}{m qual:Str}{st:Stmt}{ps:List Str}{k:Nat}{sp:Sp}{o e:Expr}{es:List Expr}{ta:TE}{t:TA}{apos pos:Pos}{pl:Sem Bool}(h:VE X.K C m qual st ps f fd)(c:X7 X.K C)(G:qo X.prog X.w X.K X.mg X.base qH k f fd ps sp)(hr:qU k X.A)(he:JE X o ta)(ha:JA X (e::es) t)
 (hst:starEach (e::es) X.env=(false,eval e X.env)::starEach es X.env:=by rfl) (hpl:(backTo pos (starEach es X.env)).any (·.1)=false:=by rfl)
 (ht:eval (.Call (.Attribute o m apos) (e::es) [] pos) X.env=(do
  let ov <-eval o X.env
  standAt apos.atName
  let (f,first) <-holding [ov] (getMethod ov m pl)
  callWith pos f first (backTo pos (starEach (e::es) X.env)) (backToKw pos (keywordEach [] X.env))):=by rfl):
 JE X (.Call (.Attribute o m apos) (e::es) [] pos) (Wj C m sp [] E0 ta t):=RD he c h.me G hr h.bi .nil QR ha hst hpl ht
structure GM(K:zdW)(mg:Str->Option Value)(CG:Addr):Prop where
 cls:∃f fd,ClG K mg CG f fd
 nm:∃f fd,VE K CG "names" "Ground.names" zm ["self"] f fd
 fr:∃f fd,VE K CG "roads_from" "Ground.roads_from" Xr ["self","name"] f fd
 isn:∃f fd,qQ K mg "is_name" zj ["thing"] f fd
theorem Qu.ins{CG:Addr}{H:Hp}{a:Addr}{rs:qV}(h:Qu CG H a rs):∃dx fs,H a=some (.ins CG dx fs)/\fs.lookup (zdX "names")=none/\fs.lookup (zdX "roads_from")=none:=by
 obtain⟨dx,lo,rd,kvs,h1,_⟩:=h
 refine⟨dx,_,h1,?_,?_⟩
 ·have e1:((zdX "names")==(zdX "order"))=false:=by decide+kernel
  have e2:((zdX "names")==(zdX "roads"))=false:=by decide+kernel
  simp only[zbb]
  rw[e1,e2]
 ·have e1:((zdX "roads_from")==(zdX "order"))=false:=by decide+kernel
  have e2:((zdX "roads_from")==(zdX "roads"))=false:=by decide+kernel
  simp only[zbb]
  rw[e1,e2]
theorem uB{rs:qV}{i:Nat}{y:V}(h:((rs.map (·.1)).map V.str)[i]?=some y):∃r,rs[i]?=some r/\r∈rs/\y=.str r.1:=by
 rw[tG,tG]at h
 cases e:rs[i]? with
 | none=>rw[e]at h;cases h
 | some r=>rw[e]at h;exact⟨r,rfl,t9 e,(tO.inj h).symm⟩
theorem j9{zs:List Str}{i:Nat}{y:V}(h:(zs.map V.str)[i]?=some y):∃z,zs[i]?=some z/\z∈zs/\y=.str z:=by
 rw[tG]at h
 cases e:zs[i]? with
 | none=>rw[e]at h;cases h
 | some z=>rw[e]at h;exact⟨z,rfl,t9 e,(tO.inj h).symm⟩
theorem Xv{rs:qV}(r:Str×List Str):(Qx rs r).length<=rs.length:=by
 have:=zaq (λz=>ZF (.str z) (r.2.map V.str)) (rs.map (·.1))
 rwa [tj]at this
theorem jh{c:Bool}{A B:Prop}(hc:c=false)(h:B):if c=true then A else B:=by
 rw[hc]
 exact ji h
theorem jn{c:Bool}{A B:Prop}(hc:c=true)(h:A):if c=true then A else B:=by
 rw[if_pos hc]
 exact h
theorem vP{kvs:List (qN×V)}:∀{i:Nat} {k:qN} {v:V},(kvs.map (·.1)).Nodup->kvs[i]?=some (k,v)->jg kvs k=some v:=by
 induction kvs with
 | nil=>intro i k v _ e;simp at e
 | cons p r ih=>
  intro i k v hn e
  rw[tU,zal]at hn
  cases i with
  | zero=>
   rw[List.getElem?_cons_zero]at e
   obtain rfl:=tO.inj e
   exact ju rfl
  | succ i=>
   rw[List.getElem?_cons_succ]at e
   have:¬p.1=k:=λz=>hn.1 (z▸tL.mpr ⟨_,t9 e,rfl⟩)
   rw[jw this]
   exact ih hn.2 e
theorem W8{H:Hp}:∀(ps:List Addr) (rs:qV),jF H ps rs->∃qs:List Addr,qs.length=rs.length/\∀(i:Nat) (p q:Addr) (r:Str×List Str),ps[i]?=some p->rs[i]?=some r->qs[i]?=some q->H p=some (.tup [.str r.1,.ref q])/\H q=some (.tup (r.2.map V.str))
 | [],[],_=>⟨[],rfl,λi p q r e=>by simp at e⟩
 | [],_::_,h=>by cases h.1
 | _::_,[],h=>by cases h.1
 | p::ps,r::rs,h=>by
  obtain⟨qs,l,k⟩:=W8 ps rs ⟨zcP.inj h.1,λi a b e1 e2=>h.2 (i+1) a b (by simpa using e1) (by simpa using e2)⟩
  obtain⟨q,a,b⟩:=h.2 0 p r rfl rfl
  refine⟨q::qs,by simp [l],λi p' q' r' e1 e2 e3=>?_⟩
  cases i with
  | zero=>cases e1;cases e2;cases e3;exact⟨a,b⟩
  | succ i=>exact k i p' q' r' (by simpa using e1) (by simpa using e2) (by simpa using e3)
def Z3(rs:qV)(qs:List Addr):List (qN×V):=List.zipWith (λr q=>((Sum.inr r.1:qN),V.ref q)) rs qs
theorem JD:∀{rs:qV} {qs:List Addr},qs.length=rs.length->(Z3 rs qs).map (·.1)=(rs.map (·.1)).map Sum.inr
 | [],[],_=>rfl
 | [],_::_,h=>by cases h
 | _::_,[],h=>by cases h
 | r::rs,q::qs,h=>by
  show Sum.inr r.1::(Z3 rs qs).map (·.1)=_
  rw[JD (zcP.inj h)]
  rfl
theorem Zo{rs:qV}{qs:List Addr}(h:qs.length=rs.length):(Z3 rs qs).length=rs.length:=by
 have:=congrArg zax (JD h)
 simpa using this
theorem Vm{rs:qV}{qs:List Addr}(h:qs.length=rs.length){i:Nat}{r:Str×List Str}(e:rs[i]?=some r):∃q,qs[i]?=some q/\(Z3 rs qs)[i]?=some (Sum.inr r.1,.ref q):=by
 have hi:i < qs.length:=by rw[h];exact(tw.mp e).1
 refine⟨qs[i],tE hi,?_⟩
 unfold Z3
 rw[List.getElem?_zipWith,e,tE hi]
theorem Uo{rs:qV}{qs:List Addr}(h:qs.length=rs.length){i:Nat}{kv:qN×V}(e:(Z3 rs qs)[i]?=some kv):∃r q,rs[i]?=some r/\qs[i]?=some q/\kv=(Sum.inr r.1,.ref q):=by
 have hi:i < rs.length:=by rw[<-Zo h];exact(tw.mp e).1
 obtain⟨q,e1,e2⟩:=Vm h (tE hi)
 rw[e2]at e
 exact⟨_,q,tE hi,e1,(tO.inj e).symm⟩
theorem kZ{rs:qV}(g:qC rs){r:Str×List Str}(h:r∈rs){y:Str}:y∈Jd rs r.1↔y∈r.2:=by
 rw[J4 g.nd h]
 exact wA g h
theorem uF:∀{l:List Nat} {x:Nat},x∈l->x<=l.sum
 | a::l,x,h=>by
  rw[zaV]
  rcases tS.mp h with e | h
  ·omega
  ·have:=uF h
   omega
theorem qC.two{rs:qV}(g:qC rs){r:Str×List Str}(h:r∈rs):r.2.length<=40:=by
 refine zaa ?_ g.few
 exact uF (tL.mpr ⟨r,h,rfl⟩)
theorem Mq{σ:L2.St}{H:Hp}{Q:List V->Hp->Prop}(h:Q [] H):QT σ H Q:=h
theorem jt{H H':Hp}{a:Addr}(s:Same H H')(h:H' a=none):H a=none:=by
 cases z:H a with
 | none=>rfl
 | some u=>rw[s _ _ z]at h;cases h
theorem vj{z:Str}(h:jq z=true):(∀c∈z.cps.toList,c<=122)/\z.length<=8/\1<=z.length:=by
 unfold jq at h
 simp only[zar,decide_eq_true_eq]at h
 refine⟨λc hc=>?_,h.1.2,h.1.1⟩
 have:=zaQ.mp h.2 c hc
 unfold jU at this
 simp only[zar,decide_eq_true_eq]at this
 exact this.2
theorem Vk{z:Str}(h:jq z=true):PyData.strOk z=true:=by
 unfold PyData.strOk
 rw[Array.all_eq_true_iff_forall_mem]
 intro c hc
 have:=(vj h).1 c (by simpa using hc)
 exact decide_eq_true (by omega)
def dL(zs:List Str):PyData:=.list (zs.map PyData.str)
theorem UO{K:zdW}{H:Hp}:∀zs:List Str,DVs K H (zs.map V.str) (zs.map PyData.str)
 | []=>.nil
 | z::zs=>.cons (.str z) (UO zs)
theorem qbK{K:zdW}{H:Hp}{p:Addr}{zs:List Str}(h:H p=some (.lst (zs.map V.str))):DV K H (.ref p) (dL zs):=.lst (.of h) (UO zs)
theorem qbx:∀{zs:List Str},(∀z∈zs,jq z=true)->PyData.canLayAll0 (zs.map PyData.str)=true
 | [],_=>rfl
 | z::zs,h=>by
  rw[tU,PyData.canLayAll0,qbx λy hy=>h y (tY _ hy),Bool.and_true]
  exact Vk (h z t8)
theorem qbt:∀zs:List Str,PyData.depthAll (zs.map PyData.str)=0
 | []=>rfl
 | z::zs=>by
  rw[tU]
  simp only[PyData.depthAll,PyData.depth,qbt zs]
  rfl
theorem shL{zs:List Str}(h:∀z∈zs,jq z=true):PySem.SeqAt.shaped (dL zs)=true:=by
 unfold PySem.SeqAt.shaped
 rw[zar]
 refine⟨qbx h,decide_eq_true ?_⟩
 unfold dL
 simp only[PyData.depth,qbt zs]
 decide
theorem Ki{K:zdW}{H:Hp}{l:Addr}{ps:List Addr}{rs:qV}(g:jP H l ps rs){Q:VK}
  (q:∀dd kvs,H dd=none->kvs.map (·.1)=(rs.map (·.1)).map Sum.inr->(∀r∈rs,∃t,jg kvs (Sum.inr r.1:qN)=some (.ref t)/\H t=some (.tup (r.2.map V.str)))->Q (.ref dd) (upd H dd (.dK kvs))):wI K [.ref l] H Q:=by
 obtain⟨qs,lq,hqs⟩:=W8 ps rs g.rows
 have le:=g.le
 refine⟨l,ps,Z3 rs qs,rfl,.of g.at_,by rw[Zo lq,g.rows.1],λi a kv e1 e2=>?_,by rw[Zo lq];omega,λdd hdd=>?_⟩
 ·obtain⟨r',q',f1,f2,rfl⟩:=Uo lq e2
  exact .of (hqs i a q' r' e1 f1 f2).1
 have nk:((Z3 rs qs).map (·.1)).Nodup:=by
  rw[JD lq]
  exact JB g.good.nd λa _ b _ e=>Sum.inr.inj e
 rw[zZ nk (λk _ m=>by simp at m),zdp]
 refine q dd _ hdd (JD lq) λr hr=>?_
 obtain⟨i0,hi0⟩:=zbc hr
 obtain⟨q0,eq0,ekv⟩:=Vm lq hi0
 have hi0':=(tw.mp hi0).1
 exact⟨q0,vP nk ekv,(hqs i0 _ q0 r (tE (by rw[g.rows.1];exact hi0')) hi0 eq0).2⟩
section
variable{P:Program}{w:World}{K:zdW}{mg:Str->Option Value}{base:Heap}
theorem Kn(x:Int):Builtin.bitNot (Builtin.bitNot x)=x:=by unfold Builtin.bitNot;omega
theorem bo(a b:Nat):Builtin.bitOr a b=((a ||| b:Nat):Int):=by
 have na:¬(0:Int)<=Builtin.bitNot a:=by unfold Builtin.bitNot;omega
 have nb:¬(0:Int)<=Builtin.bitNot b:=by unfold Builtin.bitNot;omega
 have e:Builtin.bitAnd (Builtin.bitNot a) (Builtin.bitNot b)=Builtin.bitNot (((Builtin.bitNot (Builtin.bitNot a)).toNat ||| (Builtin.bitNot (Builtin.bitNot b)).toNat:Nat):Int):=by
  unfold Builtin.bitAnd
  rw[decide_eq_false na,decide_eq_false nb]
 unfold Builtin.bitOr
 rw[e,Kn,Kn,Kn,zaT,zaT]
theorem ba(a b:Nat):Builtin.bitAnd a b=((a&&& b:Nat):Int):=by
 unfold Builtin.bitAnd
 rw[decide_eq_true (zcN a),decide_eq_true (zcN b)]
 rfl
def ZG(ns:List Nat):List V:=ns.map λn=>V.int (n:Nat)
theorem J3(ns:List Nat):(ZG ns).length=ns.length:=tj ..
theorem Vt{ns:List Nat}{i:Nat}{x:V}(h:(ZG ns)[i]?=some x):∃n:Nat,ns[i]?=some n/\x=.int n:=by
 unfold ZG at h
 rw[tG]at h
 cases e:ns[i]? with
 | none=>rw[e]at h;cases h
 | some n=>rw[e]at h;exact⟨n,rfl,(tO.inj h).symm⟩
theorem zJ{ns:List Nat}{i n:Nat}(h:ns[i]?=some n):ns.take (i+1)=ns.take i++[n]:=by
 rw[tP,h]
 rfl
theorem XO(ns:List Nat)(n:Nat):ZG ns++[V.int (n:Nat)]=ZG (ns++[n]):=by unfold ZG;rw[tI];rfl
theorem zx(ns:List Nat):(ZG ns).all ZT=true:=by
 unfold ZG
 rw[zcK]
 exact zaQ.mpr λ_ _=>rfl
theorem XQ(ns:List Nat)(n:Nat):ZF (.int (n:Nat)) (ZG ns)=decide (n∈ns):=by
 unfold ZF ZG
 rw[List.any_map,zbg,zbj,decide_eq_true_iff]
 constructor
 ·rintro⟨y,hy,e⟩
  have e':((y:Int)==(n:Int))=true:=e
  have:y=n:=by
   have:=eq_of_beq e'
   omega
  exact this▸hy
 ·intro h
  refine⟨n,h,?_⟩
  show ((n:Int)==(n:Int))=true
  simp
def Wo(K:zdW):Sp:=λvs H Q _=>∃(a:Addr) (ns:List Nat),vs=[.ref a]/\SqL K H a (ZG ns)/\ns.length<=1000/\∀H',Same H H'->Q (.int (Rb.lackN ns:Nat)) H'
def WU(K:zdW):Sp:=λvs H Q _=>∃(a:Addr) (ns:List Nat),vs=[.ref a]/\SqL K H a (ZG ns)/\(∀x∈ns,x < 1000)/\Q (.int (Rb.setN ns:Nat)) H
theorem YO:qt ["numbers","bits","number"] ["numbers"] (qj zQ):=zdV
theorem Ud{f:Addr}{fd:zea}(F:jK K "set_of" "set_of" zQ f fd):qo P w K mg base qH 1 f fd ["numbers"] (WU K):=by
 refine F.okJ YO (λvs H Q E h=>?_) (λcdv A outer s H vs Q E hr h=>?_)
 ·obtain⟨a,ns,rfl,_⟩:=h
  rfl
 ·obtain⟨a,ns,rfl,hS,hb,q⟩:=h
  refine⟨_,qg (qx (i:=1) YO.nd rfl (Or.inl rfl) qk)
   (qg (ja PassesOwn.never rfl (qJ (jv 0)) (qw (i:=2) YO.nd rfl (Or.inl rfl)) (qh (qx (i:=1) YO.nd rfl (Or.inl rfl) (qL NC (jv 1) (qL wV qk (jv 2))))))
   (qh (qy (jv 1)))),?_⟩
  refine⟨_,rfl,a,rfl,⟨_,hS⟩,?_⟩
  refine jx (K:=K) (a:=a) (xs:=ZG ns) (λi σ H'=>∃v,σ=[some (.ref a),some (.int ((Rb.setN (ns.take i):Nat):Int)),v]/\H'=H) ⟨none,rfl,rfl⟩ (λi σ H' _ ⟨_,_,e⟩=>e▸hS) ?_ ?_
  ·rintro i x σ H' hx ⟨v,rfl,rfl⟩
   obtain⟨n,hn,rfl⟩:=Vt hx
   have n1:=hb n (t9 hn)
   have e1:(1:Int)*2^ ((n:Nat):Int).toNat=((2^n:Nat):Int):=by rw[zaT,Int.one_mul];push_cast;rfl
   have e:((Rb.setN (ns.take (i+1)):Nat):Int)=Builtin.bitOr (Rb.setN (ns.take i):Nat) ((1:Int)*2^ ((n:Nat):Int).toNat):=by rw[e1,bo,zJ hn,Rb.setN_snoc]
   refine⟨_,rfl,_,rfl,_,_,rfl,rfl,⟨by omega,by omega,by decide⟩,_,_,rfl,rfl,some (.int n),?_,rfl⟩
   rw[e]
   rfl
  ·rintro σ H' ⟨v,rfl,rfl⟩
   refine⟨_,rfl,?_⟩
   rw[J3,tF (tz _)]
   exact q
theorem Jv:qt ["numbers","there","number","least"] ["numbers"] (qj QI):=zdV
theorem vh{f:Addr}{fd:zea}(F:jK K "lacking" "lacking" QI f fd):qo P w K mg base qH 1 f fd ["numbers"] (Wo K):=by
 refine F.okJ Jv (λvs H Q E h=>?_) (λcdv A outer s H vs Q E hr h=>?_)
 ·obtain⟨a,ns,rfl,_⟩:=h
  rfl
 ·obtain⟨a,ns,rfl,hS,hl,q⟩:=h
  have hu:=jX hr
  refine⟨_,qg (qx (i:=1) Jv.nd rfl (Or.inl rfl) Qp)
   (qg (ja PassesOwn.never rfl (qJ (jv 0)) (qw (i:=2) Jv.nd rfl (Or.inl rfl)) (qh (jy hu (jv 1) (jv 2) Qr rfl)))
   (qg (qx (i:=3) Jv.nd rfl (Or.inl rfl) qk)
   (qg (zw PassesOwn.never (Qo (J0 hu (jv 3) (jv 1)) (by with_unfolding_all rfl)) (qh (uL (i:=3) Jv.nd rfl (Or.inl rfl) qk uX)))
   (qh (qy (jv 3)))))),?_⟩
  intro D hD
  refine⟨_,rfl,a,rfl,⟨_,(ql hD).seq hS⟩,?_⟩
  refine jx (K:=K) (a:=a) (xs:=ZG ns) (λi σ H'=>∃v kvs,σ=[some (.ref a),some (.ref D),v,none]/\H'=upd H D (.dK kvs)/\kvs.length<=i/\∀x:Nat,(jg kvs (Sum.inl (x:Int):qN)).isSome=decide (x∈ns.take i)) ⟨none,[],rfl,rfl,tz _,λx=>by simp [jg]⟩
   (λi σ H' _ ⟨_,_,_,e,_⟩=>e▸(ql hD).seq hS) ?_ ?_
  ·rintro i x σ H' hx ⟨v,kvs,rfl,rfl,hk,hv⟩
   obtain⟨n,hn,rfl⟩:=Vt hx
   have hi:i < ns.length:=(tw.mp hn).1
   refine⟨_,rfl,_,rfl,D,_,rfl,Jb.k (k:=(Sum.inl (n:Int):qN)) qe (qp (by omega)),?_⟩
   refine⟨some (.int n),jQ kvs (Sum.inl (n:Int)) (.bl true),rfl,jI,?_,λx=>?_⟩
   ·have:=Jh kvs (Sum.inl (n:Int):qN) (.bl true)
    omega
   ·rw[j0,zJ hn]
    by_cases e:x=n
    ·subst e;simp
    ·have e':¬(Sum.inl (x:Int):qN)=Sum.inl (n:Int):=λz=>e (by have:=Sum.inl.inj z;omega)
     rw[if_neg e',hv x,zbg]
     simp [e]
  ·rintro σ H' ⟨v,kvs,rfl,rfl,hk,hv⟩
   rw[J3,tF (tz _)]at hv
   refine Z9 (λσ H'=>∃r:Nat,σ=[some (.ref a),some (.ref D),v,some (.int r)]/\H'=upd H D (.dK kvs)/\∀x,x < r->x∈ns) (λσ _=>match σ with | [_,_,_,some (.int r)]=>ns.length - r.toNat | _=>0) ⟨0,rfl,rfl,λx hx=>absurd hx (zcm _)⟩ ?_ ?_
   ·rintro σ H' ⟨r,rfl,rfl,hr'⟩
    refine⟨_,rfl,_,rfl,D,_,rfl,jZ.k (k:=(Sum.inl (r:Int):qN)) qe,_,rfl,?_⟩
    rw[hv r]
    by_cases hm:r∈ns
    ·rw[decide_eq_true hm]
     have hp:=Rb.pigeon (r+1) ns λx hx=>by
      by_cases e:x=r
      ·rw[e];exact hm
      ·exact hr' x (by omega)
     refine j3 ⟨_,rfl,_,_,rfl,rfl,⟨r+1,rfl,rfl,λx hx=>?_⟩,?_⟩
     ·by_cases e:x=r
      ·rw[e];exact hm
      ·exact hr' x (by omega)
     ·show ns.length - ((r:Int)+1).toNat < ns.length - (r:Int).toNat
      omega
    ·rw[decide_eq_false hm]
     refine ji ⟨_,rfl,?_⟩
     have e:=Rb.lackN_eq (r:=r) (ns:=ns) ⟨hm,hr'⟩
     have:=q _ (ql (o:=.dK kvs) hD)
     rw[<-e]at this
     exact this
   ·rintro σ H Q Q' h1 ⟨v,e,w,e2,a,o,e3,g,k,e4,q⟩
    exact⟨v,e,w,e2,a,o,e3,g,k,e4,h1 _ _ q⟩
end
open PySem L2 PyProof.Rows MLab
abbrev Ny:Stmt:=top 47
abbrev Xq:Stmt:=top 48
abbrev zR:Stmt:=top 49
abbrev V6:Stmt:=top 50
abbrev W6:Stmt:=top 51
abbrev Jf:Stmt:=top 52
structure jo(N:List Str)(H:Hp)(d:Addr)(f:Str->Option Nat):Prop where
 at_:∃kvs:List (qN×V),H d=some (.dK kvs)/\(∀z:Str,jg kvs (Sum.inr z:qN)=(f z).map λn=>V.int (n:Nat))/\(kvs.map (·.1)).Nodup/\∀k∈kvs.map (·.1),k∈N.map (Sum.inr:Str->qN)
theorem jo.mono{N:List Str}{H H':Hp}{d:Addr}{f:Str->Option Nat}(h:jo N H d f)(s:Same H H'):jo N H' d f:=⟨let ⟨kvs,a,b⟩:=h.at_;⟨kvs,s _ _ a,b⟩⟩
theorem jo.get{N:List Str}{H:Hp}{d:Addr}{f:Str->Option Nat}(h:jo N H d f)(z:Str):jZ H d (.str z) ((f z).map λn=>V.int (n:Nat)):=by
 obtain⟨kvs,a,b,_⟩:=h.at_
 rw[<-b z]
 exact jZ.k (k:=(Sum.inr z:qN)) a
theorem jo.isd{N:List Str}{H:Hp}{d:Addr}{f:Str->Option Nat}(h:jo N H d f):∃kvs:List (qN×V),H d=some (.dK kvs):=let ⟨kvs,a,_⟩:=h.at_;⟨kvs,a⟩
theorem jo.put{N:List Str}{H:Hp}{d:Addr}{f:Str->Option Nat}(h:jo N H d f){z:Str}{n:Nat}(hz:z∈N)(hf:f z=none)(le:N.length<=14):∃H',Jb H d (.str z) (.int (n:Nat)) H'/\jo N H' d (λy=>if y=z then some n else f y)/\∃o,H'=upd H d o:=by
 obtain⟨kvs,a,b,nd,sub⟩:=h.at_
 have ln:kvs.length<=14:=by
  have:=JX nd sub
  rw[tj,tj]at this
  omega
 refine⟨_,Jb.k (k:=(Sum.inr z:qN)) a (qp (by omega)),⟨jQ kvs (Sum.inr z) (.int (n:Nat)),qe,λy=>?_,?_,?_⟩,_,rfl⟩
 ·rw[j0]
  by_cases e:y=z
  ·subst e;rw[if_pos rfl,if_pos rfl];rfl
  ·rw[if_neg e,if_neg (λq=>e (Sum.inr.inj q))];exact b y
 ·rw[QJ _ (by rw[b z,hf];rfl),tI]
  refine zdb.mpr ⟨nd,zcp _ _,λx hx y hy e=>?_⟩
  have ey:y=Sum.inr z:=by simpa using hy
  subst ey
  subst e
  have:(jg kvs (Sum.inr z:qN)).isSome=true:=by
   obtain⟨p,hp,ep⟩:=tL.mp hx
   have an:(kvs.any λkv=>decide (kv.1=(Sum.inr z:qN)))=true:=zbj.mpr ⟨p,hp,decide_eq_true ep⟩
   rw[QH]at an
   exact an
  rw[b z,hf]at this
  cases this
 ·rw[QJ _ (by rw[b z,hf];rfl),tI]
  intro k hk
  rcases tX.mp hk with hk | hk
  ·exact sub k hk
  ·have:k=Sum.inr z:=by simpa using hk
   rw[this]
   exact tL.mpr ⟨z,hz,rfl⟩
def ZQ(rs:qV)(f:Str->Option Nat)(z:Str):List Nat:=(Jd rs z).filterMap f
theorem Ql{rs:qV}{f:Str->Option Nat}{z:Str}{n:Nat}:n∈ZQ rs f z↔∃y∈Jd rs z,f y=some n:=zaF
theorem Vu{rs:qV}(z:Str):(Jd rs z).length<=rs.length:=by
 unfold Jd
 split
 ·exact Xv _
 ·exact zaw _
def WP(rs:qV)(f:Str->Option Nat)(z:Str):List Str:=(Jd rs z).filter λy=>(f y).isNone
def zz(rs:qV)(f:Str->Option Nat)(z:Str)(n:Nat):Bool:=decide (Rb.lackN (ZQ rs f z)=n)&&(WP rs f z).all λy=>decide (n∈ZQ rs f y)
theorem xu{rs:qV}{f:Str->Option Nat}{z:Str}{n:Nat}:zz rs f z n=true↔YE (Jd rs) f z n:=by
 unfold zz YE WP
 rw[zar,decide_eq_true_iff,zaQ]
 have lk:Rb.Lacks (Rb.lackN (ZQ rs f z)) (ZQ rs f z):=Rb.lackI_lacks _
 constructor
 ·rintro⟨rfl,h⟩
  refine⟨λj hj=>Ql.mp (lk.2 j hj),λy hy e=>lk.1 (Ql.mpr ⟨y,hy,e⟩),λy hy e=>?_⟩
  exact Ql.mp (of_decide_eq_true (h y (zad.mpr ⟨hy,by rw[e];rfl⟩)))
 ·rintro⟨h1,h2,h3⟩
  refine⟨(Rb.lackN_eq ⟨λm=>?_,λx hx=>Ql.mpr (h1 x hx)⟩).symm,λy hy=>decide_eq_true ?_⟩
  ·obtain⟨y,hy,e⟩:=Ql.mp m
   exact h2 y hy e
  ·obtain⟨hy1,hy2⟩:=zad.mp hy
   exact Ql.mpr (h3 y hy1 (by simpa using hy2))
def wz(rs:qV)(f:Str->Option Nat)(n:Nat):List Str:=((rs.map (·.1)).filter λz=>(f z).isNone).filter λz=>zz rs f z n
theorem Gj(rs:qV)(R:Rs Str)(n:Nat):UL (Jd rs) (rs.map (·.1)) R n (wz rs (qI R) n):=⟨λx=>by
 unfold wz
 rw[zad,zad,xu]
 constructor
 ·rintro⟨⟨a,b⟩,c⟩
  exact⟨a,by simpa using b,c⟩
 ·rintro⟨a,b,c⟩
  exact⟨⟨a,by rw[b];rfl⟩,c⟩,zbf.trans zbf⟩
def KU(CG:Addr):Sp:=λvs H Q _=>∃(g d:Addr) (rs:qV) (z:Str) (f:Str->Option Nat),vs=[.ref g,.ref d,.str z]/\Qu CG H g rs/\qC rs/\rs.length<=14/\z∈rs.map (·.1)/\jo (rs.map (·.1)) H d f/\
 ∀H' l,Same H H'->H l=none->H' l=some (.lst (ZG (ZQ rs f z)))->Q (.ref l) H'
def x8(CG:Addr):Sp:=λvs H Q _=>∃(g d:Addr) (rs:qV) (z:Str) (f:Str->Option Nat) (n:Nat),vs=[.ref g,.ref d,.str z,.int (n:Nat)]/\Qu CG H g rs/\qC rs/\rs.length<=14/\z∈rs.map (·.1)/\jo (rs.map (·.1)) H d f/\
 ∀H',Same H H'->Q (.bl (zz rs f z n)) H'
def vX(CG:Addr):Sp:=λvs H Q _=>∃(g d:Addr) (rs:qV) (f:Str->Option Nat) (n:Nat),vs=[.ref g,.ref d,.int (n:Nat)]/\Qu CG H g rs/\qC rs/\rs.length<=14/\jo (rs.map (·.1)) H d f/\
 ∀H' l,Same H H'->H l=none->H' l=some (.lst ((wz rs f n).map V.str))->Q (.ref l) H'
theorem vn{α β:Type}(g:α->Option β)(h:β->V):∀l:List α,(l.filterMap g).map h=l.filterMap λx=>(g x).map h
 | []=>rfl
 | a::l=>by
  rw[zas,zas]
  cases g a with
  | none=>exact vn g h l
  | some b=>rw[tU,vn g h l];rfl
theorem XT(p:Str->Bool):∀l:List Str,(l.filter p).map V.str=l.filterMap λx=>if p x=true then some (V.str x) else none
 | []=>rfl
 | a::l=>by
  rw[zbt,zas]
  cases p a with
  | false=>exact XT p l
  | true=>
   rw[if_pos rfl,if_pos rfl,tU,XT p l]
theorem kS{α:Type}(f:α->V):∀l:List α,l.map f=l.filterMap λx=>some (f x)
 | []=>rfl
 | a::l=>by rw[tU,zas,kS f l]
section
variable{P:Program}{w:World}{K:zdW}{mg:Str->Option Value}{base:Heap}
abbrev Kx:List Str:=["ground","numbered","name"]
theorem qcb:qt Kx Kx (qj Ny):=zdV
theorem ND{f CG:Addr}{fd:zea}(F:jK K "numbers_behind" "numbers_behind" Ny f fd)(B:QO mg)(G:QM mg)(T:Qt K mg)(M:GM K mg CG):qo P w K mg base qH 3 f fd Kx (KU CG):=by
 obtain⟨fC,fdC,C⟩:=M.cls
 obtain⟨fR,fdR,hR⟩:=M.fr
 obtain⟨fN,fdN,hN⟩:=M.isn
 have GR:qo P w K mg base qH 2 fR fdR ["self","name"] (YL CG):=XC hR.fn C B G T hN
 refine F.okJ qcb (λvs H Q E h=>?_) (λcdv A outer s H vs Q E hr h=>?_)
 ·obtain⟨g,d,rs,z,nf,rfl,_⟩:=h
  rfl
 ·obtain⟨g,d,rs,z,nf,rfl,gr,good,le14,hz,hd,q⟩:=h
  have hu:=jX hr
  refine⟨_,qh (qy (j4 (N':=["end","numbered"]) (ix:=[none,some 1]) rfl ⟨rfl,rfl,rfl,rfl,rfl⟩ (qJ (kW hR C.cl GR hr (jv 0) (qd (jv 2) qf))) (λC s2 H2 fp pins=>
   ⟨qw (i:=0) (show (["end","numbered"]:List Str).Nodup by decide+kernel) rfl (Or.inl rfl),jV (Qo (J0 hu (jv 0) (jv 1))),qW hu (jv 1) (jv 0) (λ_ _=>rfl)⟩))),?_⟩
  obtain⟨dx,fs,hg,l1,l2⟩:=gr.ins
  obtain⟨r,hr',rfl⟩:=tL.mp hz
  refine⟨_,rfl,g,dx,fs,rfl,hg,l2,_,rfl,g,rs,r,rfl,gr,hr',good.nm r hr',λH1 le s1 hle=>?_⟩
  have s2:Same H (upd H1 le (.lst ((Qx rs r).map V.str))):=s1.trans (ql hle)
  have hl2:upd H1 le (.lst ((Qx rs r).map V.str)) le=some (.lst ((Qx rs r).map V.str)):=qe
  generalize upd H1 le (.lst ((Qx rs r).map V.str))=H2 at s2 hl2
  have hd2:=hd.mono s2
  refine⟨le,rfl,⟨_,.of hl2⟩,λW hW=>?_⟩
  refine Q8 (K:=K) (a:=le) (xs:=Qx rs r) (enc:=V.str) (out:=λy=>(nf y).map λn=>V.int (n:Nat)) (rest:=[some (.ref d)]) hW hl2 (qp (zaa (Xv r) (by omega))) ?_ ?_ ?_
  ·intro x hx G' s3 R k
   refine⟨_,rfl,_,rfl,d,_,rfl,(hd2.mono s3).get x,_,rfl,k G' λ_ _ h=>h⟩
  ·intro x hx v ev G' s3 R k
   have gx:=(hd2.mono s3).get x
   rw[ev]at gx
   exact⟨_,rfl,_,rfl,d,_,rfl,gx,k G' λ_ _ h=>h⟩
  ·intro G' s3 hG
   refine q _ W (s2.trans s3) (jt s2 hW) ?_
   rw[hG]
   congr 2
   unfold ZG ZQ
   rw[J4 good.nd hr',vn]
abbrev qa7:List Str:=["ground","numbered","name","number","bare"]
abbrev Xz:List Str:=["ground","numbered","name","number"]
theorem wx:qt qa7 Xz (qj Xq):=zdV
theorem Rf{f fB fL CG:Addr}{fd fdB fdL:zea}(F:jK K "gets_number" "gets_number" Xq f fd)(B:QO mg)(G:QM mg)(T:Qt K mg)(M:GM K mg CG)(hB:qQ K mg "numbers_behind" Ny Kx fB fdB)(hL:qQ K mg "lacking" QI ["numbers"] fL fdL):qo P w K mg base qH 4 f fd Xz (x8 CG):=by
 have GB:qo P w K mg base qH 3 fB fdB Kx (KU CG):=ND hB.fn B G T M
 have GL:qo P w K mg base qH 1 fL fdL ["numbers"] (Wo K):=vh hL.fn
 obtain⟨fC,fdC,C⟩:=M.cls
 obtain⟨fR,fdR,hR⟩:=M.fr
 obtain⟨fN,fdN,hN⟩:=M.isn
 have GR:qo P w K mg base qH 2 fR fdR ["self","name"] (YL CG):=XC hR.fn C B G T hN
 refine F.okJ wx (λvs H Q E h=>?_) (λcdv A outer s H vs Q E hr h=>?_)
 ·obtain⟨g,d,rs,z,nf,n,rfl,_⟩:=h
  rfl
 ·obtain⟨g,d,rs,z,nf,n,rfl,gr,good,le14,hz,hd,q⟩:=h
  have hu:=jX hr
  have r1:qU 1 _:=hr.mono (by decide)
  have r2:qU 2 _:=hr.mono (by decide)
  refine⟨_,qg (qM (qv wY (qF hL GL r1 (by rfl) (qd (qF hB GB hr (by rfl) (qd (jv 0) (qd (jv 1) (qd (jv 2) qf)))) qf)) (jv 3) (qA _)) (qh (qy Qr)) qB)
   (qg (Q6 (i:=4) (N':=["end","numbered"]) (ix:=[none,some 1]) wx.nd rfl (Or.inl rfl) rfl ⟨rfl,rfl,rfl,rfl,rfl⟩ (qJ (kW hR C.cl GR r2 (jv 0) (qd (jv 2) qf))) (λC s2 H2 fp pins=>
    ⟨qw (i:=0) (show (["end","numbered"]:List Str).Nodup by decide+kernel) rfl (Or.inl rfl),jV (Qo (JJ hu (jv 0) (jv 1))),jv 0⟩))
   (qh (qy (qD (Ye rfl) (by rfl) T.all boot_all (qd (j4 (N':=["end","number","ground","numbered"]) (ix:=[none,some 3,some 0,some 1]) (te:=Yu (rIn K false) (jd 1) (ZO (KU CG) [] E0 (jk (jd 2) (jk (jd 3) (jk (jd 0) QT))))) rfl ⟨rfl,rfl,rfl,rfl,rfl⟩ (qJ (jv 4)) (λC s2 H2 fp pins=>
    ⟨qw (i:=0) (show (["end","number","ground","numbered"]:List Str).Nodup by decide+kernel) rfl (Or.inl rfl),jN,Qq Jz (jv 1) (qF hB GB hr (by rfl) (qd (jv 2) (qd (jv 3) (qd (jv 0) qf)))) (by with_unfolding_all rfl)⟩)) qf))))),?_⟩
  refine⟨_,rfl,_,rfl,_,rfl,g,d,rs,z,nf,rfl,gr,good,le14,hz,hd,λH1 l1 s1 hl1 hl1'=>?_⟩
  have ln:∀y,(ZQ rs nf y).length<=14:=λy=>zaa (zaR _ _) (zaa (Vu y) le14)
  refine⟨l1,_,rfl,.of hl1',by have:=ln z;omega,λH2 s2=>⟨_,rfl,rfl,_,rfl,?_⟩⟩
  have s12:=s1.trans s2
  by_cases c:Rb.lackN (ZQ rs nf z)=n
  ·refine jh (by rw[c];simp) ?_
   obtain⟨dx,fs,hg,e1,e2⟩:=(gr.mono s12).ins
   obtain⟨r,hr',rfl⟩:=tL.mp hz
   refine⟨_,rfl,g,dx,fs,rfl,hg,e2,_,rfl,g,rs,r,rfl,gr.mono s12,hr',good.nm r hr',λH3 le s3 hle=>?_⟩
   have s4:Same H (upd H3 le (.lst ((Qx rs r).map V.str))):=s12.trans (s3.trans (ql hle))
   have hl4:upd H3 le (.lst ((Qx rs r).map V.str)) le=some (.lst ((Qx rs r).map V.str)):=qe
   generalize upd H3 le (.lst ((Qx rs r).map V.str))=H4 at s4 hl4
   refine⟨le,rfl,⟨_,.of hl4⟩,λW hW=>?_⟩
   refine Q8 (K:=K) (a:=le) (xs:=Qx rs r) (enc:=V.str) (out:=λy=>if (nf y).isNone=true then some (V.str y) else none) (rest:=[some (.ref d)]) hW hl4 (qp (zaa (Xv r) (by omega))) ?_ ?_ ?_
   ·intro x hx G' s5 R k
    refine⟨_,rfl,_,rfl,d,_,rfl,((hd.mono s4).mono s5).get x,_,rfl,?_⟩
    have:=k G' λ_ _ h=>h
    cases e:nf x with
    | none=>rw[e]at this;exact this
    | some m=>rw[e]at this;exact this
   ·intro x hx v ev G' s5 R k
    have:v=V.str x:=by
     split at ev
     ·exact(tO.inj ev).symm
     ·cases ev
    subst this
    exact⟨_,rfl,k G' λ_ _ h=>h⟩
   ·intro G5 s5 hG
    rw[<-XT (λy=>(nf y).isNone),<-J4 good.nd hr']at hG
    have hb:G5 W=some (.lst ((WP rs nf r.1).map V.str)):=hG
    have s45:=s4.trans s5
    refine⟨_,rfl,W,rfl,⟨_,.of hb⟩,λU hU=>?_⟩
    have bl:(WP rs nf r.1).length<=14:=zaa (zaq _ _) (zaa (Vu r.1) le14)
    refine Q8 (K:=K) (a:=W) (xs:=WP rs nf r.1) (enc:=V.str) (out:=λy=>some (V.bl (decide (n∈ZQ rs nf y)))) (rest:=[some (.int (n:Nat)),some (.ref g),some (.ref d)]) hU hb (qp (by omega)) ?_ ?_ ?_
    ·intro x hx G' s6 R k
     exact k G' λ_ _ h=>h
    ·intro x hx v ev G' s6 R k
     obtain rfl:=tO.inj ev
     have hxN:x∈rs.map (·.1):=J5 good.nd _ hz x (zad.mp hx).1
     have sA:=s45.trans s6
     refine⟨_,rfl,_,rfl,_,rfl,_,rfl,g,d,rs,x,nf,rfl,gr.mono sA,good,le14,hxN,hd.mono sA,λH7 l7 s7 hl7 hl7'=>?_⟩
     refine⟨l7,_,rfl,.inl (.of hl7'),rfl,zx _,?_⟩
     rw[XQ]
     exact k H7 s7
    ·intro G6 s6 hG6
     rw[<-kS]at hG6
     refine⟨U,(WP rs nf r.1).map λy=>decide (n∈ZQ rs nf y),rfl,.of (by rw[hG6,zaO];rfl),?_⟩
     have:=q G6 (s45.trans s6)
     unfold zz at this
     rw[decide_eq_true c,Bool.true_and]at this
     rw[zcK]
     exact this
  ·refine jn (by
    have:¬V.int ((Rb.lackN (ZQ rs nf z):Nat):Int)=V.int ((n:Nat):Int):=λe=>c (by have:=V.int.inj e;omega)
    rw[decide_eq_false this];rfl) ?_
   have:=q H2 s12
   unfold zz at this
   rw[decide_eq_false c,zcM]at this
   exact this
end
open PySem L2 PyProof.Rows MLab
def jr(H:Hp)(ps:List Addr)(ls:List (List Str)):Prop:=ps.length=ls.length/\∀(i:Nat) (p:Addr) (l:List Str),ps[i]?=some p->ls[i]?=some l->H p=some (.lst (l.map V.str))
theorem jr.mono{H H':Hp}{ps:List Addr}{ls:List (List Str)}(h:jr H ps ls)(s:Same H H'):jr H' ps ls:=⟨h.1,λi p l e1 e2=>s _ _ (h.2 i p l e1 e2)⟩
theorem jr.nil{H:Hp}:jr H [] []:=⟨rfl,λi p l e=>(nomatch e)⟩
theorem QV{α:Type}{xs:List α}{x y:α}{i:Nat}(h:(xs++[x])[i]?=some y):(i < xs.length/\xs[i]?=some y)\/(i=xs.length/\y=x):=by
 by_cases hi:i < xs.length
 ·rw[zaf hi]at h
  exact .inl ⟨hi,h⟩
 ·have hi':i=xs.length:=by
   have:=(tw.mp h).1
   rw[tH,zav]at this
   omega
  subst hi'
  rw[zac (tz _),zbZ]at h
  exact .inr ⟨rfl,(tO.inj h).symm⟩
theorem jr.snoc{H:Hp}{ps:List Addr}{ls:List (List Str)}{p:Addr}{l:List Str}(h:jr H ps ls)(hp:H p=some (.lst (l.map V.str))):jr H (ps++[p]) (ls++[l]):=by
 refine⟨by rw[tH,tH,h.1];rfl,λi p' l' e1 e2=>?_⟩
 rcases QV e1 with ⟨i1,e1⟩ | ⟨i1,rfl⟩
 ·rcases QV e2 with ⟨_,e2⟩ | ⟨i2,_⟩
  ·exact h.2 i p' l' e1 e2
  ·have:=h.1;omega
 ·rcases QV e2 with ⟨i2,_⟩ | ⟨_,rfl⟩
  ·have:=h.1;omega
  ·exact hp
theorem jr.app{H:Hp}{ps qs:List Addr}{ls ms:List (List Str)}(h:jr H ps ls)(k:jr H qs ms):jr H (ps++qs) (ls++ms):=by
 refine⟨by rw[tH,tH,h.1,k.1],λi p l e1 e2=>?_⟩
 by_cases c:i < ps.length
 ·rw[zaf c]at e1
  rw[zaf (by rw[<-h.1];exact c)]at e2
  exact h.2 i p l e1 e2
 ·rw[zac (by omega)]at e1
  rw[zac (by rw[<-h.1];omega)]at e2
  rw[<-h.1]at e2
  exact k.2 _ p l e1 e2
theorem jr.fr{H H':Hp}{ps:List Addr}{ls:List (List Str)}{d:Addr}{kvs:List (qN×V)}(h:jr H ps ls)(hd:H d=some (.dK kvs))(f:Fr H d H'):jr H' ps ls:=⟨h.1,λi p l e1 e2=>f _ _ (h.2 i p l e1 e2) (λe=>by have:=h.2 i p l e1 e2;rw[e,hd]at this;cases this)⟩
theorem jo.fr{N:List Str}{H H':Hp}{d e:Addr}{f:Str->Option Nat}(h:jo N H d f)(s:Fr H e H')(ne:d≠e):jo N H' d f:=⟨let ⟨kvs,a,b⟩:=h.at_;⟨kvs,s _ _ a ne,b⟩⟩
theorem jo.congr{N:List Str}{H:Hp}{d:Addr}{f g:Str->Option Nat}(h:jo N H d f)(e:∀z,f z=g z):jo N H d g:=⟨let ⟨kvs,a,b,c⟩:=h.at_;⟨kvs,a,λz=>by rw[b z,e z],c⟩⟩
def UQ(CG:Addr)(H:Hp)(g d:Addr):Prop:=∀dx lo rd,H g=some (.ins CG dx [("order",.ref lo),("roads",.ref rd)])->rd≠d
theorem Qu.fr{CG:Addr}{H H':Hp}{a d:Addr}{rs:qV}(h:Qu CG H a rs)(hd:∃kvs:List (qN×V),H d=some (.dK kvs))(ap:UQ CG H a d)(s:Fr H d H'):Qu CG H' a rs:=by
 obtain⟨dx,lo,rd,kv,h1,h2,h3,h4⟩:=h
 obtain⟨kvs,hd⟩:=hd
 have ne:∀{b:Addr} {o:HO},H b=some o->(∀kv:List (qN×V),o≠.dK kv)->b≠d:=λhb no e=>by rw[e,hd]at hb;exact no kvs (tO.inj hb).symm
 refine⟨dx,lo,rd,kv,s _ _ h1 (ne h1 (λ_=>by simp)),s _ _ h2 (ne h2 (λ_=>by simp)),s _ _ h3 (ap dx lo rd h1),λr hr=>let ⟨q,a,b⟩:=h4 r hr;⟨q,a,s _ _ b (ne b (λ_=>by simp))⟩⟩
def Yx(f:Str->Option Nat)(n:Nat)(ns:List Str):Str->Option Nat:=λz=>if z∈ns then some n else f z
theorem u9{R:Rs Str}{n:Nat}{ns:List Str}(h:∀z∈ns,qI R z=none)(z:Str):Yx (qI R) n ns z=qI (R++[(n,ns)]) z:=by
 unfold Yx
 rw[JK]
 by_cases c:z∈ns
 ·rw[if_pos c,h z c]
  show _=if z∈ns then some n else none
  rw[if_pos c]
 ·rw[if_neg c]
  cases qI R z with
  | some m=>rfl
  | none=>
   show none=if z∈ns then some n else none
   rw[if_neg c]
theorem Gi{R:Rs Str}{n:Nat}{ls:List (List Str)}{l:List Str}:R++(ls++[l]).map (λx=>(n,x))=(R++ls.map λx=>(n,x))++[(n,l)]:=by
 rw[tI,zcy]
 rfl
def x6(CG:Addr):Sp:=λvs H Q _=>∃(g d:Addr) (rs:qV) (R:Rs Str) (n:Nat),vs=[.ref g,.ref d,.int (n:Nat)]/\Qu CG H g rs/\qC rs/\rs.length<=14/\jo (rs.map (·.1)) H d (qI R)/\UQ CG H g d/\
 ∀H' l ps ls,H l=none->H' l=some (.lst (ps.map V.ref))->jr H' ps ls->(∀p∈ps,H p=none)->jo (rs.map (·.1)) H' d (qI (R++ls.map λx=>(n,x)))->Qv (Jd rs) (rs.map (·.1)) n R (R++ls.map λx=>(n,x))->Fr H d H'->Q (.ref l) H'
def Qf(rs:qV)(f:Str->Option Nat):Nat:=((rs.map (·.1)).filter λz=>(f z).isNone).length
theorem VC{rs:qV}{R:Rs Str}{n:Nat}{ns:List Str}(h:∀z∈ns,z∈rs.map (·.1)/\qI R z=none)(ne:ns≠[]):Qf rs (qI (R++[(n,ns)])) < Qf rs (qI R):=by
 unfold Qf
 generalize rs.map (·.1)=N at*
 have sub:(N.filter λz=>(qI (R++[(n,ns)]) z).isNone).Sublist (N.filter λz=>(qI R z).isNone):=by
  have e:(N.filter λz=>(qI (R++[(n,ns)]) z).isNone)=(N.filter λz=>(qI R z).isNone).filter λz=>(qI (R++[(n,ns)]) z).isNone:=by
   rw[List.filter_filter]
   refine zbT λz _=>?_
   cases c:(qI (R++[(n,ns)]) z).isNone with
   | false=>simp
   | true=>
    have:=Kc (by simpa using c)
    rw[this]
    rfl
  rw[e]
  exact zbf
 obtain⟨z0,r,e0⟩:=zbw ne
 have m0:z0∈ns:=by rw[e0];exact t8
 obtain⟨hz,ez⟩:=h z0 m0
 rcases zbX (N.filter λz=>(qI (R++[(n,ns)]) z).isNone).length (N.filter λz=>(qI R z).isNone).length with c | c
 ·exact c
 ·have e:=sub.eq_of_length_le c
  have m:z0∈N.filter λz=>(qI R z).isNone:=zad.mpr ⟨hz,by rw[ez];rfl⟩
  rw[<-e]at m
  have:=(zad.mp m).2
  rw[k8 ez m0]at this
  cases this
def Q9(N:List Str)(H:Hp)(d:Addr):Nat:=match H d with
 | some (.dK kvs)=>(N.filter λz=>(jg kvs (Sum.inr z:qN)).isNone).length
 | _=>0
theorem jo.bare{rs:qV}{H:Hp}{d:Addr}{f:Str->Option Nat}(h:jo (rs.map (·.1)) H d f):Q9 (rs.map (·.1)) H d=Qf rs f:=by
 obtain⟨kvs,a,b,_⟩:=h.at_
 unfold Q9 Qf
 rw[a]
 show ((rs.map (·.1)).filter λz=>(jg kvs (Sum.inr z:qN)).isNone).length=_
 congr 1
 refine zbT λz _=>?_
 rw[b z]
 cases f z<;>rfl
section
variable{P:Program}{w:World}{K:zdW}{mg:Str->Option Value}{base:Heap}
abbrev Ms:List Str:=["ground","numbered","number","bare"]
abbrev Q3:List Str:=["ground","numbered","number"]
theorem ku:qt Ms Q3 (qj zR):=zdV
theorem uc{f fB fL fG CG:Addr}{fd fdB fdL fdG:zea}(F:jK K "round_of" "round_of" zR f fd)(B:QO mg)(G:QM mg)(T:Qt K mg)(M:GM K mg CG)(hB:qQ K mg "numbers_behind" Ny Kx fB fdB)(hL:qQ K mg "lacking" QI ["numbers"] fL fdL)(hG:qQ K mg "gets_number" Xq Xz fG fdG):qo P w K mg base qH 5 f fd Q3 (vX CG):=by
 have GG:qo P w K mg base qH 4 fG fdG Xz (x8 CG):=Rf hG.fn B G T M hB hL
 obtain⟨fC,fdC,C⟩:=M.cls
 obtain⟨fM,fdM,hM⟩:=M.nm
 have GM:qo P w K mg base qH 1 fM fdM ["self"] (ze CG):=zV hM.fn C G
 refine F.okJ ku (λvs H Q E h=>?_) (λcdv A outer s H vs Q E hr h=>?_)
 ·obtain⟨g,d,rs,nf,n,rfl,_⟩:=h
  rfl
 ·obtain⟨g,d,rs,nf,n,rfl,gr,good,le14,hd,q⟩:=h
  have hu:=jX hr
  have r1:qU 1 _:=hr.mono (by decide)
  refine⟨_,qg (Q6 (i:=3) (N':=["name","numbered"]) (ix:=[none,some 1]) ku.nd rfl (Or.inl rfl) rfl ⟨rfl,rfl,rfl,rfl,rfl⟩ (qJ (uR hM C.cl GM r1 (jv 0))) (λC s2 H2 fp pins=>
    ⟨qw (i:=0) (show (["name","numbered"]:List Str).Nodup by decide+kernel) rfl (Or.inl rfl),jV (Qo (JJ hu (jv 0) (jv 1))),jv 0⟩))
   (qh (qy (j4 (N':=["name","ground","numbered","number"]) (ix:=[none,some 0,some 1,some 2]) rfl ⟨rfl,rfl,rfl,rfl,rfl⟩ (qJ (jv 3)) (λC s2 H2 fp pins=>
    ⟨qw (i:=0) (show (["name","ground","numbered","number"]:List Str).Nodup by decide+kernel) rfl (Or.inl rfl),jV (jl (qF hG GG hr (by rfl) (qd (jv 1) (qd (jv 2) (qd (jv 0) (qd (jv 3) qf)))))),jv 0⟩)))),?_⟩
  obtain⟨dx,fs,hg,l1,l2⟩:=gr.ins
  refine⟨_,rfl,g,dx,fs,rfl,hg,l1,g,rs,rfl,gr,λln hln=>⟨ln,rfl,⟨_,.of qe⟩,λW hW=>?_⟩⟩
  have s2:Same H (upd H ln (.lst ((rs.map (·.1)).map V.str))):=ql hln
  have hl2:upd H ln (.lst ((rs.map (·.1)).map V.str)) ln=some (.lst ((rs.map (·.1)).map V.str)):=qe
  generalize upd H ln (.lst ((rs.map (·.1)).map V.str))=H2 at s2 hl2 hW
  refine Q8 (K:=K) (a:=ln) (xs:=rs.map (·.1)) (enc:=V.str) (out:=λy=>if (nf y).isNone=true then some (V.str y) else none) (rest:=[some (.ref d)]) hW hl2 (qp (by rw[tj];omega)) ?_ ?_ ?_
  ·intro x hx G' s5 R k
   refine⟨_,rfl,_,rfl,d,_,rfl,((hd.mono s2).mono s5).get x,_,rfl,?_⟩
   have:=k G' λ_ _ h=>h
   cases e:nf x with
   | none=>rw[e]at this;exact this
   | some m=>rw[e]at this;exact this
  ·intro x hx v ev G' s5 R k
   have:v=V.str x:=by
    split at ev
    ·exact(tO.inj ev).symm
    ·cases ev
   subst this
   exact⟨_,rfl,k G' λ_ _ h=>h⟩
  ·intro G5 s5 hG5
   rw[<-XT (λy=>(nf y).isNone)]at hG5
   have s25:=s2.trans s5
   refine⟨_,rfl,W,rfl,⟨_,.of hG5⟩,λU hU=>?_⟩
   have bl:((rs.map (·.1)).filter λy=>(nf y).isNone).length<=14:=zaa (zaq _ _) (by rw[tj];exact le14)
   refine Q8 (K:=K) (a:=W) (xs:=(rs.map (·.1)).filter λy=>(nf y).isNone) (enc:=V.str) (out:=λy=>if zz rs nf y n=true then some (V.str y) else none) (rest:=[some (.ref g),some (.ref d),some (.int (n:Nat))]) hU hG5 (qp (by omega)) ?_ ?_ ?_
   ·intro x hx G' s6 R k
    have sA:=s25.trans s6
    refine⟨_,rfl,_,rfl,_,rfl,_,rfl,g,d,rs,x,nf,n,rfl,gr.mono sA,good,le14,(zad.mp hx).1,hd.mono sA,λH7 s7=>⟨_,rfl,?_⟩⟩
    have:=k H7 s7
    cases e:zz rs nf x n with
    | true=>rw[e]at this;exact this
    | false=>rw[e]at this;exact this
   ·intro x hx v ev G' s6 R k
    have:v=V.str x:=by
     split at ev
     ·exact(tO.inj ev).symm
     ·cases ev
    subst this
    exact⟨_,rfl,k G' λ_ _ h=>h⟩
   ·intro G6 s6 hG6
    rw[<-XT (λy=>zz rs nf y n)]at hG6
    exact q G6 U (s25.trans s6) (jt s25 hU) hG6
abbrev qa6:List Str:=["ground","numbered","number","rounds","names","name"]
theorem Xf:qt qa6 Q3 (qj V6):=zdV
theorem Re{f fB fL fG fR CG:Addr}{fd fdB fdL fdG fdR:zea}(F:jK K "give_number" "give_number" V6 f fd)(B:QO mg)(G:QM mg)(T:Qt K mg)(M:GM K mg CG)(hB:qQ K mg "numbers_behind" Ny Kx fB fdB)(hL:qQ K mg "lacking" QI ["numbers"] fL fdL)(hG:qQ K mg "gets_number" Xq Xz fG fdG)
  (hR:qQ K mg "round_of" zR Q3 fR fdR):qo P w K mg base qH 6 f fd Q3 (x6 CG):=by
 have GR:qo P w K mg base qH 5 fR fdR Q3 (vX CG):=uc hR.fn B G T M hB hL hG
 refine F.okJ Xf (λvs H Q E h=>?_) (λcdv A outer s H vs Q E hr h=>?_)
 ·obtain⟨g,d,rs,R,n,rfl,_⟩:=h
  rfl
 ·obtain⟨g,d,rs,R,n,rfl,gr,good,le14,hd,ap,q⟩:=h
  have hu:=jX hr
  refine⟨_,qg (qx (i:=3) Xf.nd rfl (Or.inl rfl) (jz qf))
   (qg (qx (i:=4) Xf.nd rfl (Or.inl rfl) (qF hR GR hr (by rfl) (qd (jv 0) (qd (jv 1) (qd (jv 2) qf)))))
   (qg (zw PassesOwn.never (qv XA (qD qZ (by rfl) B.len boot_len (qd (jv 4) qf)) qk (qA _))
    (qg (ja PassesOwn.never rfl (qJ (jv 4)) (qw (i:=5) Xf.nd rfl (Or.inl rfl)) (qh (jy hu (jv 1) (jv 5) (jv 2) rfl)))
    (qg (je (ZS zau zaY zaZ QA (jv 3) (qd (jv 4) qf)))
    (qh (qx (i:=4) Xf.nd rfl (Or.inl rfl) (qF hR GR hr (by rfl) (qd (jv 0) (qd (jv 1) (qd (jv 2) qf)))))))))
   (qh (qy (jv 3))))),?_⟩
  refine⟨by show 0<=zeb;decide,λlr hlr=>?_⟩
  have sr:Same H (upd H lr (.lst [])):=ql hlr
  refine⟨_,rfl,_,rfl,_,rfl,g,d,rs,qI R,n,rfl,gr.mono sr,good,le14,hd.mono sr,λH1 l1 s1 hl1 hl1'=>?_⟩
  obtain⟨kv0,hd0⟩:=hd.isd
  have nrd:lr≠d:=λe=>by rw[e,hd0]at hlr;cases hlr
  refine Z9 (λσ H'=>∃(v5:Option V) (l:Addr) (ps:List Addr) (ls:List (List Str)),σ=[some (.ref g),some (.ref d),some (.int (n:Nat)),some (.ref lr),some (.ref l),v5]/\Fr H d H'/\H' lr=some (.lst (ps.map V.ref))/\jr H' ps ls/\
    jo (rs.map (·.1)) H' d (qI (R++ls.map λx=>(n,x)))/\H' l=some (.lst ((wz rs (qI (R++ls.map λx=>(n,x))) n).map V.str))/\(∀R',Qv (Jd rs) (rs.map (·.1)) n (R++ls.map λx=>(n,x)) R'->Qv (Jd rs) (rs.map (·.1)) n R R')/\l≠lr/\(∀p∈ps,p≠lr)/\H l=none/\(∀p∈ps,H p=none)/\ls.length+Qf rs (qI (R++ls.map λx=>(n,x)))<=14)
   (λ_ H'=>Q9 (rs.map (·.1)) H' d)
   ⟨none,l1,[],[],rfl,λb u hb _=>s1 _ _ (sr _ _ hb),s1 _ _ qe,.nil,?_,?_,?_,(λe=>by rw[e,qe]at hl1;cases hl1),λp h=>(nomatch h),jt sr hl1,λp h=>(nomatch h),?_⟩ ?_ ?_
  ·have:=(hd.mono sr).mono s1
   simpa using this
  ·simpa using hl1'
  ·intro R' h
   simpa using h
  ·show 0+_<=14
   rw[zdN]
   refine zaa (zaq _ _) ?_
   rw[tj]
   exact le14
  ·rintro σ H' ⟨v5,l,ps,ls,rfl,fr,hlr',rnds,num,hl,gv,nl,np,l0,p0,bd⟩
   have grH:Qu CG H' g rs:=gr.fr ⟨kv0,hd0⟩ ap fr
   obtain⟨kv1,hd1⟩:=num.isd
   generalize hR1:R++ls.map (λx=>(n,x))=R1 at*
   refine⟨_,rfl,l,_,rfl,.inl (.of hl),_,_,rfl,rfl,_,rfl,?_⟩
   rw[tj]
   generalize hns:wz rs (qI R1) n=ns at*
   have rnd:UL (Jd rs) (rs.map (·.1)) R1 n ns:=hns▸Gj rs R1 n
   have nsN:∀z∈ns,z∈rs.map (·.1)/\qI R1 z=none:=λz hz=>let ⟨a,b,_⟩:=(rnd.iff z).mp hz;⟨a,b⟩
   have nsnd:ns.Nodup:=by
    rw[<-hns]
    exact good.nd.sublist (zbf.trans zbf)
   have nslen:ns.length<=14:=by
    have:=JX nsnd λz hz=>(nsN z hz).1
    rw[tj]at this
    omega
   cases c:ns with
   | nil=>
    subst c
    refine jh (by decide) ?_
    refine⟨_,rfl,?_⟩
    have:=gv R1 (.stop rnd)
    rw[<-hR1]at this num
    exact q H' lr ps ls hlr hlr' rnds p0 num this fr
   | cons z0 rest=>
    have ne:ns≠[]:=by rw[c];simp
    rw[<-c]
    clear c
    refine jn (decide_eq_true (by have:=zdC.mpr ne;show (0:Int) < (ns.length:Int);omega)) ?_
    have nld:l≠d:=λe=>by rw[e,hd1]at hl;cases hl
    refine⟨_,rfl,l,rfl,⟨_,.of hl⟩,?_⟩
    refine jx (K:=K) (a:=l) (xs:=ns.map V.str) (λi σ' G'=>∃v5,σ'=[some (.ref g),some (.ref d),some (.int (n:Nat)),some (.ref lr),some (.ref l),v5]/\jo (rs.map (·.1)) G' d (Yx (qI R1) n (ns.take i))/\Fr H' d G')
     ⟨v5,rfl,num.congr λz=>by unfold Yx;rw[zdz,if_neg (by simp)],Fr.refl⟩ (λi σ' G' _ ⟨_,_,_,f⟩=>.of (f _ _ hl nld)) ?_ ?_
    ·rintro i y σ' G' hy ⟨v5',rfl,numG,frG⟩
     obtain⟨z,ez,hz,rfl⟩:=j9 hy
     have il:=(tw.mp ez).1
     have nt:z∉ns.take i:=λm=>by
      obtain⟨j,hj⟩:=zbc m
      rw[zcU]at hj
      split at hj
      ·have h1:=(tw.mp hj)
       have h2:=(tw.mp ez)
       have:=uA nsnd (h1.2.trans h2.2.symm)
       omega
      ·cases hj
     obtain⟨H2,put,num2,o2,e2⟩:=numG.put (n:=n) (nsN z hz).1 (by unfold Yx;rw[if_neg nt];exact(nsN z hz).2) (by rw[tj];exact le14)
     refine⟨_,rfl,_,rfl,_,rfl,d,H2,rfl,put,_,rfl,num2.congr λy=>?_,?_⟩
     ·unfold Yx
      rw[tP,ez]
      by_cases e:y=z
      ·subst e;rw[if_pos rfl,if_pos (by simp)]
      ·rw[if_neg e]
       by_cases m:y∈ns.take i
       ·rw[if_pos m,if_pos (zaj _ m)]
       ·rw[if_neg m,if_neg (by simp [m,e])]
     ·rw[e2]
      exact frG.at_d
    ·rintro σ' G' ⟨v5',rfl,numG,frG⟩
     rw[tj,tF (tz _)]at numG
     have numG:=numG.congr (u9 λz hz=>(nsN z hz).2)
     have lrG:=frG _ _ hlr' nrd
     have lG:=frG _ _ hl nld
     have rG:=rnds.fr hd1 frG
     have fr2:=fr.trans frG
     have blt:=VC (n:=n) nsN ne
     refine⟨_,rfl,.inl ⟨rfl,_,.of lrG⟩,_,rfl,lr,_,_,rfl,rfl,lrG,by rw[tj,rnds.1];exact qp (by omega),?_⟩
     have e5:ps.map V.ref++[V.ref l]=(ps++[l]).map V.ref:=by rw[tI];rfl
     rw[e5]
     have fr3:Fr H d (upd G' lr (.lst ((ps++[l]).map V.ref))):=fr2.own hlr
     have r3:jr (upd G' lr (.lst ((ps++[l]).map V.ref))) (ps++[l]) (ls++[ns]):=by
      refine jr.snoc ⟨rG.1,λi p x e1 e2=>?_⟩ (by rw[qi nl];exact lG)
      rw[qi (np p (t9 e1))]
      exact rG.2 i p x e1 e2
     have lr3:upd G' lr (.lst ((ps++[l]).map V.ref)) lr=some (.lst ((ps++[l]).map V.ref)):=qe
     have num3:jo (rs.map (·.1)) (upd G' lr (.lst ((ps++[l]).map V.ref))) d (qI (R1++[(n,ns)])):=⟨let ⟨kvs,a,b⟩:=numG.at_;⟨kvs,by rw[qi (Ne.symm nrd)];exact a,b⟩⟩
     generalize upd G' lr (.lst ((ps++[l]).map V.ref))=G3 at fr3 r3 lr3 num3 ⊢
     refine⟨_,rfl,_,rfl,_,rfl,g,d,rs,qI (R1++[(n,ns)]),n,rfl,gr.fr ⟨kv0,hd0⟩ ap fr3,good,le14,num3,λH4 l4 s4 hl4 hl4'=>?_⟩
     have eR:R++(ls++[ns]).map (λx=>(n,x))=R1++[(n,ns)]:=by rw[Gi,hR1]
     refine⟨⟨v5',l4,ps++[l],ls++[ns],rfl,fr3.same s4,s4 _ _ lr3,r3.mono s4,?_,?_,?_,(λe=>by rw[e,lr3]at hl4;cases hl4),?_,?_,?_,?_⟩,?_⟩
     ·rw[eR];exact num3.mono s4
     ·rw[eR];exact hl4'
     ·rw[eR];exact λR' h=>gv R' (.more rnd ne h)
     ·intro p hp
      rcases tX.mp hp with hp | hp
      ·exact np p hp
      ·rw[t7.mp hp];exact nl
     ·obtain⟨kv3,hd3⟩:=num3.isd
      exact fr3.fresh hd3 hl4
     ·intro p hp
      rcases tX.mp hp with hp | hp
      ·exact p0 p hp
      ·rw[t7.mp hp];exact l0
     ·rw[eR,tH,zav]
      omega
     ·rw[(num3.mono s4).bare,num.bare]
      exact blt
  ·rintro σ H' Q Q' h ⟨v,e,p,ys,e2,h1,i,j,e3,e4,b,e5,h2⟩
   exact⟨v,e,p,ys,e2,h1,i,j,e3,e4,b,e5,h _ _ h2⟩
end
open PySem L2 PyProof.Rows MLab
theorem u7{G:Str->List Str}{N:List Str}{n:Nat}{R R':Rs Str}(h:Qv G N n R R'):(R'=R/\UL G N R n [])\/R.length < R'.length:=by
 induction h with
 | stop r=>exact .inl ⟨rfl,r⟩
 | more r ne k ih=>
  right
  rcases ih with ⟨e,_⟩ | lt
  ·rw[e,tH];exact zaI _
  ·rw[tH]at lt
   exact zbU lt
theorem xr{G:Str->List Str}{N:List Str}{n:Nat}{R:Rs Str}(h:Qv G N n R R):UL G N R n []:=by
 rcases u7 h with ⟨_,r⟩ | lt
 ·exact r
 ·exact absurd lt (zao _)
structure vJ(N:List Str)(R:Rs Str):Prop where
 sub:∀r∈R,∀z∈r.2,z∈N
 dis:R.Pairwise λr r'=>∀z∈r.2,z∉r'.2
 ne:∀r∈R,r.2≠[]
 srt:∀r∈R,r.2.Sublist N
theorem vJ.nil{N:List Str}:vJ N []:=⟨λ_ h=>(nomatch h),zdD.nil,λ_ h=>(nomatch h),λ_ h=>(nomatch h)⟩
theorem vJ.more{G:Str->List Str}{N:List Str}{R:Rs Str}{n:Nat}{ns:List Str}(o:vJ N R)(r:UL G N R n ns)(ne:ns≠[]):vJ N (R++[(n,ns)]):=by
 refine⟨λx hx z hz=>?_,zdy.mpr ⟨o.dis,zcp _ _,λa ha b hb z hz hb'=>?_⟩,λx hx=>?_,λx hx=>?_⟩
 ·rcases tX.mp hx with hx | hx
  ·exact o.sub x hx z hz
  ·rw[t7.mp hx]at hz
   exact((r.iff z).mp hz).1
 ·rw[t7.mp hb]at hb'
  exact Y1.mp ((r.iff z).mp hb').2.1 a ha hz
 ·rcases tX.mp hx with hx | hx
  ·exact o.ne x hx
  ·rw[t7.mp hx];exact ne
 ·rcases tX.mp hx with hx | hx
  ·exact o.srt x hx
  ·rw[t7.mp hx];exact r.sub
theorem Ut{G:Str->List Str}{N:List Str}{n:Nat}{R R':Rs Str}(h:Qv G N n R R'):vJ N R->vJ N R':=by
 induction h with
 | stop r=>exact id
 | more r ne k ih=>exact λo=>ih (o.more r ne)
theorem yi{G:Str->List Str}{N:List Str}{n:Nat}{R R':Rs Str}(h:All G N n R R'):vJ N R->vJ N R':=by
 induction h with
 | stop r=>exact id
 | more g ne k ih=>exact λo=>ih (Ut g o)
theorem xt{rs:qV}{n:Nat}{R R':Rs Str}(h:Qv (Jd rs) (rs.map (·.1)) n R R'):Qf rs (qI R')<=Qf rs (qI R)/\(R'≠R->Qf rs (qI R') < Qf rs (qI R)):=by
 induction h with
 | stop r=>exact⟨tz _,λe=>absurd rfl e⟩
 | more r ne k ih=>
  have:=VC (λz hz=>let ⟨a,b,_⟩:=(r.iff z).mp hz;⟨a,b⟩) ne (n:=n) (rs:=rs)
  exact⟨by omega,λ_=>by omega⟩
theorem Vc{N:List Str}:∀{R:Rs Str},vJ N R->R.length<=N.length:=λ{R} o=>by
 have key:∀R:Rs Str,(R.Pairwise λr r'=>∀z∈r.2,z∉r'.2)->(∀r∈R,r.2≠[])->∃zs:List Str,zs.length=R.length/\zs.Nodup/\∀z∈zs,∃r∈R,z∈r.2:=by
  intro R
  induction R with
  | nil=>exact λ_ _=>⟨[],rfl,zbn,λz h=>(nomatch h)⟩
  | cons r R ih=>
   intro p ne
   obtain⟨zs,l,nd,sub⟩:=ih (zdJ.mp p).2 (λx hx=>ne x (tY _ hx))
   obtain⟨z,t,e⟩:=zbw (ne r t8)
   have hz:z∈r.2:=by rw[e];exact t8
   refine⟨z::zs,by simp [l],zal.mpr ⟨λm=>?_,nd⟩,λy hy=>?_⟩
   ·obtain⟨r',hr',hz'⟩:=sub z m
    exact(zdJ.mp p).1 r' hr' z hz hz'
   ·rcases tS.mp hy with rfl | hy
    ·exact⟨r,t8,hz⟩
    ·obtain⟨r',hr',h⟩:=sub y hy
     exact⟨r',tY _ hr',h⟩
 obtain⟨zs,l,nd,sub⟩:=key R o.dis o.ne
 rw[<-l]
 exact JX nd λz hz=>let ⟨r,hr,h⟩:=sub z hz;o.sub r hr z h
def ko(CG:Addr):Sp:=λvs H Q _=>∃(g d:Addr) (rs:qV),vs=[.ref g,.ref d]/\Qu CG H g rs/\qC rs/\rs.length<=14/\jo (rs.map (·.1)) H d (qI [])/\UQ CG H g d/\
 ∀H' l ps R,H l=none->H' l=some (.lst (ps.map V.ref))->jr H' ps (R.map (·.2))->(∀p∈ps,H p=none)->jo (rs.map (·.1)) H' d (qI R)->All (Jd rs) (rs.map (·.1)) 0 [] R->Fr H d H'->Q (.ref l) H'
section
variable{P:Program}{w:World}{K:zdW}{mg:Str->Option Value}{base:Heap}
abbrev Mx:List Str:=["ground","numbered","rounds","number","more"]
abbrev Va:List Str:=["ground","numbered"]
theorem Zx:qt Mx Va (qj W6):=zdV
theorem ut{f fB fL fG fR fV CG:Addr}{fd fdB fdL fdG fdR fdV:zea}(F:jK K "give_numbers" "give_numbers" W6 f fd)(B:QO mg)(G:QM mg)(T:Qt K mg)(M:GM K mg CG)(hB:qQ K mg "numbers_behind" Ny Kx fB fdB)(hL:qQ K mg "lacking" QI ["numbers"] fL fdL)(hG:qQ K mg "gets_number" Xq Xz fG fdG)
  (hR:qQ K mg "round_of" zR Q3 fR fdR) (hV:qQ K mg "give_number" V6 Q3 fV fdV):qo P w K mg base qH 7 f fd Va (ko CG):=by
 have GV:qo P w K mg base qH 6 fV fdV Q3 (x6 CG):=Re hV.fn B G T M hB hL hG hR
 refine F.okJ Zx (λvs H Q E h=>?_) (λcdv A outer s H vs Q E hr h=>?_)
 ·obtain⟨g,d,rs,rfl,_⟩:=h
  rfl
 ·obtain⟨g,d,rs,rfl,gr,good,le14,hd,ap,q⟩:=h
  have hu:=jX hr
  refine⟨_,qg (qx (i:=2) Zx.nd rfl (Or.inl rfl) (jz qf))
   (qg (qx (i:=3) Zx.nd rfl (Or.inl rfl) qk)
   (qg (qx (i:=4) Zx.nd rfl (Or.inl rfl) (qF hV GV hr (by rfl) (qd (jv 0) (qd (jv 1) (qd (jv 3) qf)))))
   (qg (zw PassesOwn.never (qv XA (qD qZ (by rfl) B.len boot_len (qd (jv 4) qf)) qk (qA _))
    (qg (je (ZS zau zcf zcg zY (jv 2) (qd (jv 4) qf)))
    (qg (uL (i:=3) Zx.nd rfl (Or.inl rfl) qk uX)
    (qh (qx (i:=4) Zx.nd rfl (Or.inl rfl) (qF hV GV hr (by rfl) (qd (jv 0) (qd (jv 1) (qd (jv 3) qf)))))))))
   (qh (qy (jv 2)))))),?_⟩
  refine⟨by show 0<=zeb;decide,λlr hlr=>?_⟩
  have sr:Same H (upd H lr (.lst [])):=ql hlr
  obtain⟨kv0,hd0⟩:=hd.isd
  have nrd:lr≠d:=λe=>by rw[e,hd0]at hlr;cases hlr
  have apm:∀{H':Hp},Fr H d H'->UQ CG H' g d:=λfr dx lo rd h=>by
   obtain⟨dx',lo',rd',kvs',h1,_⟩:=gr
   have:=fr _ _ h1 (λe=>by rw[e,hd0]at h1;cases h1)
   rw[h]at this
   cases this
   exact ap _ _ _ h1
  have fr0:Fr H d (upd H lr (.lst [])):=Fr.refl.own hlr
  refine⟨_,rfl,_,rfl,_,rfl,g,d,rs,[],0,rfl,gr.mono sr,good,le14,hd.mono sr,apm fr0,λH1 l1 ps1 ls1 hl1 hl1' rn1 pn1 num1 gv1 fr1=>?_⟩
  refine Z9 (λσ H'=>∃(l:Addr) (n:Nat) (ps ps1:List Addr) (R:Rs Str) (ls:List (List Str)),σ=[some (.ref g),some (.ref d),some (.ref lr),some (.int (n:Nat)),some (.ref l)]/\Fr H d H'/\H' lr=some (.lst (ps.map V.ref))/\jr H' ps (R.map (·.2))/\H' l=some (.lst (ps1.map V.ref))/\jr H' ps1 ls/\
    jo (rs.map (·.1)) H' d (qI (R++ls.map λx=>(n,x)))/\Qv (Jd rs) (rs.map (·.1)) n R (R++ls.map λx=>(n,x))/\(∀R',All (Jd rs) (rs.map (·.1)) n R R'->All (Jd rs) (rs.map (·.1)) 0 [] R')/\l≠lr/\(∀p∈ps,p≠lr/\H p=none)/\(∀p∈ps1,p≠lr/\H p=none)/\vJ (rs.map (·.1)) R)
   (λσ H'=>Q9 (rs.map (·.1)) H' d*2+(match σ with | [_,_,_,_,some (.ref l)]=>(match H' l with | some (.lst (_::_))=>1 | _=>0) | _=>0))
   ⟨l1,0,[],ps1,[],ls1,rfl,fr0.trans fr1,fr1 _ _ qe nrd,.nil,hl1',rn1,num1,gv1,λR' h=>h,(λe=>by rw[e,qe]at hl1;cases hl1),λp h=>(nomatch h),?_,.nil⟩ ?_ ?_
  ·intro p hp
   have h1:=pn1 p hp
   have h2:p≠lr:=λe=>by rw[e,qe]at h1;cases h1
   exact⟨h2,by rw[qi h2]at h1;exact h1⟩
  ·rintro σ H' ⟨l,n,ps,ps1,R,ls,rfl,fr,hlr',rnds,hl,rn,num,gv,al,nl,np,np1,od⟩
   obtain⟨kv1,hd1⟩:=num.isd
   have od':=Ut gv od
   have ol:=Vc od'
   rw[tH,tj,tj]at ol
   refine⟨_,rfl,l,_,rfl,.inl (.of hl),_,_,rfl,rfl,_,rfl,?_⟩
   rw[tj]
   cases c:ls with
   | nil=>
    subst c
    have e0:ps1=[]:=zaC rn.1
    subst e0
    rw[zct,zan]at gv num
    refine jh (by decide) ⟨_,rfl,?_⟩
    exact q H' lr ps R hlr hlr' rnds (λp hp=>(np p hp).2) num (al R (.stop (xr gv))) fr
   | cons x0 rest=>
    have ne:ls≠[]:=by rw[c];simp
    clear c
    have lp:ps1.length=ls.length:=rn.1
    have pos:=zdC.mpr ne
    refine jn (decide_eq_true (by show (0:Int) < (ps1.length:Int);omega)) ?_
    refine⟨_,rfl,.inl ⟨rfl,_,.of hlr'⟩,_,rfl,lr,l,_,_,rfl,rfl,hlr',hl,?_,?_⟩
    ·rw[tj,tj,rnds.1,tj,lp]
     exact zai (qp (by omega))
    ·have e5:ps.map V.ref++ps1.map V.ref=(ps++ps1).map V.ref:=by rw[tI]
     rw[e5]
     have fr3:Fr H d (upd H' lr (.lst ((ps++ps1).map V.ref))):=fr.own hlr
     have lr3:upd H' lr (.lst ((ps++ps1).map V.ref)) lr=some (.lst ((ps++ps1).map V.ref)):=qe
     have r3:jr (upd H' lr (.lst ((ps++ps1).map V.ref))) (ps++ps1) ((R++ls.map λx=>(n,x)).map (·.2)):=by
      have ee:(R++ls.map λx=>(n,x)).map (·.2)=R.map (·.2)++ls:=by
       rw[tI,zaO]
       congr 1
       exact List.map_id ls
      rw[ee]
      refine jr.app ⟨rnds.1,λi p x e1 e2=>?_⟩ ⟨rn.1,λi p x e1 e2=>?_⟩
      ·rw[qi (np p (t9 e1)).1]
       exact rnds.2 i p x e1 e2
      ·rw[qi (np1 p (t9 e1)).1]
       exact rn.2 i p x e1 e2
     have num3:jo (rs.map (·.1)) (upd H' lr (.lst ((ps++ps1).map V.ref))) d (qI (R++ls.map λx=>(n,x))):=⟨let ⟨kvs,a,b⟩:=num.at_;⟨kvs,by rw[qi (Ne.symm nrd)];exact a,b⟩⟩
     have neR:R++ls.map (λx=>(n,x))≠R:=λe=>by
      have:=congrArg zax e
      rw[tH,tj]at this
      omega
     generalize R++ls.map (λx=>(n,x))=R1 at*
     generalize upd H' lr (.lst ((ps++ps1).map V.ref))=G3 at fr3 r3 lr3 num3 ⊢
     obtain⟨kv3,hd3⟩:=num3.isd
     refine⟨_,rfl,_,_,rfl,rfl,?_⟩
     refine⟨_,rfl,_,rfl,_,rfl,g,d,rs,R1,n+1,rfl,gr.fr ⟨kv0,hd0⟩ ap fr3,good,le14,num3,apm fr3,λH4 l4 ps4 ls4 hl4 hl4' rn4 pn4 num4 gv4 fr4=>?_⟩
     refine⟨⟨l4,n+1,ps++ps1,ps4,R1,ls4,rfl,fr3.trans fr4,fr4 _ _ lr3 nrd,r3.fr hd3 fr4,hl4',rn4,num4,gv4,λR' h=>al R' (.more gv neR h),(λe=>by rw[e,lr3]at hl4;cases hl4),?_,?_,od'⟩,?_⟩
     ·intro p hp
      rcases tX.mp hp with hp | hp
      ·exact np p hp
      ·exact np1 p hp
     ·intro p hp
      have h1:=pn4 p hp
      refine⟨(λe=>by rw[e,lr3]at h1;cases h1),?_⟩
      cases h2:H p with
      | none=>rfl
      | some u=>
       by_cases c:p=d
       ·rw[c,hd3]at h1;cases h1
       ·rw[fr3 _ _ h2 c]at h1;cases h1
     ·show Q9 (rs.map (·.1)) H4 d*2+(match H4 l4 with | some (.lst (_::_))=>1 | _=>0) < Q9 (rs.map (·.1)) H' d*2+(match H' l with | some (.lst (_::_))=>1 | _=>0)
      have gb:=xt gv4
      rw[num4.bare,num.bare,hl4',hl]
      obtain⟨p1,t1,e1⟩:=List.exists_cons_of_length_pos (by omega:0 < ps1.length)
      rw[e1]
      show _ < Qf rs (qI R1)*2+1
      cases ls4 with
      | nil=>
       have e0:ps4=[]:=zaC rn4.1
       rw[e0]
       show _+0 < _
       have:=gb.1
       omega
      | cons x4 t4=>
       have:=gb.2 λe=>by
        have:=congrArg zax e
        rw[tH,tj]at this
        simp at this
       have le1:(match (some (HO.lst (ps4.map V.ref)):Option HO) with | some (.lst (_::_))=>1 | _=>0)<=1:=by split<;>omega
       omega
  ·rintro σ H' Q Q' h ⟨v,e,p,ys,e2,h1,i,j,e3,e4,b,e5,h2⟩
   exact⟨v,e,p,ys,e2,h1,i,j,e3,e4,b,e5,h _ _ h2⟩
end
open PySem L2 PyProof.Rows MLab
def X9(R:Rs Str)(i:Nat):Str->Option Nat:=λz=>(qI (R.take i) z).map λ_=>Jc R z
theorem U8{N:List Str}{R:Rs Str}(o:vJ N R){i:Nat}{r:Nat×List Str}{z:Str}(hr:R[i]?=some r)(hz:z∈r.2):Jc R z=i:=by
 obtain⟨hi,er⟩:=tw.mp hr
 unfold Jc
 rw[List.findIdx_eq hi]
 refine⟨by rw[er];exact decide_eq_true hz,λj hj=>decide_eq_false λm=>?_⟩
 have:=zaL.mp o.dis j i (by omega) hi hj z m
 rw[er]at this
 exact this hz
theorem VR{N:List Str}{R:Rs Str}(o:vJ N R){i:Nat}{r:Nat×List Str}{z:Str}(hr:R[i]?=some r)(hz:z∈r.2):X9 R i z=none:=by
 unfold X9
 have:qI (R.take i) z=none:=Y1.mpr λx hx m=>by
  obtain⟨j,hj⟩:=zbc hx
  rw[zcU]at hj
  split at hj
  ·have h1:=U8 o hj m
   have h2:=U8 o hr hz
   omega
  ·cases hj
 rw[this]
 rfl
theorem yz{N:List Str}{R:Rs Str}(o:vJ N R){i:Nat}{r:Nat×List Str}(hr:R[i]?=some r)(z:Str):Yx (X9 R i) i r.2 z=X9 R (i+1) z:=by
 unfold Yx
 by_cases c:z∈r.2
 ·rw[if_pos c]
  have n:=VR o hr c
  unfold X9 at n ⊢
  have n':qI (R.take i) z=none:=by
   cases e:qI (R.take i) z with
   | none=>rfl
   | some m=>rw[e]at n;cases n
  rw[tP,hr]
  show _=(qI (R.take i++[(r.1,r.2)]) z).map _
  rw[k8 n' c,U8 o hr c]
  rfl
 ·rw[if_neg c]
  unfold X9
  rw[tP,hr]
  show _=(qI (R.take i++[(r.1,r.2)]) z).map _
  rw[JK]
  cases qI (R.take i) z with
  | some m=>rfl
  | none=>
   show _=Option.map _ (if z∈r.2 then some r.1 else none)
   rw[if_neg c]
theorem xX(R:Rs Str)(z:Str):X9 R R.length z=(qI R z).map λ_=>Jc R z:=by
 unfold X9
 rw[tF (tz _)]
def QX(rs:qV)(R:Rs Str)(z:Str):List V:=match qI R z with
 | some n=>[.str "number",.int (n:Nat),.int (Jc R z:Nat)]
 | none=>[.str "endless",.int (Rb.setN (ZQ rs (qI R) z):Nat)]
structure jG(H:Hp)(D:Addr)(rs:qV)(R:Rs Str):Prop where
 at_:∃kvs:List (qN×V),H D=some (.dK kvs)/\kvs.map (·.1)=(rs.map (·.1)).map Sum.inr/\∀r∈rs,∃t,jg kvs (Sum.inr r.1:qN)=some (.ref t)/\H t=some (.tup (QX rs R r.1))
theorem jG.mono{H H':Hp}{D:Addr}{rs:qV}{R:Rs Str}(h:jG H D rs R)(s:Same H H'):jG H' D rs R:=⟨let ⟨kvs,a,b,c⟩:=h.at_;⟨kvs,s _ _ a,b,λr hr=>let ⟨t,u,v⟩:=c r hr;⟨t,u,s _ _ v⟩⟩⟩
theorem vV:∀(n:Nat) (L:List Nat),(∀m,m<=n->m∈L)->n*(n+1)<=2*L.sum
 | 0,_,_=>by simp
 | n+1,L,h=>by
  have hm:=h (n+1) (tz _)
  have ih:=vV n (L.erase (n+1)) λm hm'=>(zbW (by omega)).mpr (h m (by omega))
  have es:L.sum=(n+1)+(L.erase (n+1)).sum:=by
   have:=(List.perm_cons_erase hm).sum_nat
   rw[this,zaV]
  rw[es]
  have:(n+1)*(n+1+1)=n*(n+1)+2*(n+1):=by
   rw[Nat.mul_comm,<-Nat.add_mul]
  omega
theorem VP{α:Type}{f g:α->Nat}:∀{l:List α},(∀x∈l,f x<=g x)->(l.map f).sum<=(l.map g).sum
 | [],_=>tz _
 | a::l,h=>by
  rw[tU,tU,zaV,zaV]
  have:=h a t8
  have:=VP (l:=l) λx hx=>h x (tY _ hx)
  omega
theorem MW{rs:qV}(hn:(rs.map (·.1)).Nodup)(z:Str):(Jd rs z).Nodup:=by
 unfold Jd
 split
 ·exact hn.sublist zbf
 ·exact zbn
theorem XE{rs:qV}(good:qC rs){num:Str->Option Nat}{stp:Str->Nat}(L:VD (Jd rs) (·∈rs.map (·.1)) num stp){x:Str}{n:Nat}(hx:x∈rs.map (·.1))(e:num x=some n):n<=8:=by
 have h1:∀m,m<=n->m∈rs.map λr=>(num r.1).getD 0:=λm hm=>by
  rcases zbX m n with c | c
  ·obtain⟨y,hy,ey,_⟩:=L.n1 hx e c
   obtain⟨r,hr,rfl⟩:=tL.mp (L.cl hx hy)
   exact tL.mpr ⟨r,hr,by rw[ey];rfl⟩
  ·have:m=n:=by omega
   subst this
   obtain⟨r,hr,rfl⟩:=tL.mp hx
   exact tL.mpr ⟨r,hr,by rw[e];rfl⟩
 have h2:=vV n _ h1
 have h3:(rs.map λr=>(num r.1).getD 0).sum<=(rs.map λr=>r.2.length).sum:=VP λr hr=>by
  cases c:num r.1 with
  | none=>exact zaw _
  | some m=>
   show m<=_
   have hr':r.1∈rs.map (·.1):=tL.mpr ⟨r,hr,rfl⟩
   have:(zab m).length<=((Jd rs r.1).filterMap num).length:=JX zcC λj hj=>by
    obtain⟨y,hy,ey,_⟩:=L.n1 hr' c (zaU.mp hj)
    exact zaF.mpr ⟨y,hy,ey⟩
   rw[zam]at this
   have h4:=zaR num (Jd rs r.1)
   have h5:(Jd rs r.1).length<=r.2.length:=JX (MW good.nd _) λy hy=>(kZ good hr).mp hy
   omega
 have h4:=good.few
 rcases zbX 8 n with c | c
 ·have:9*10<=n*(n+1):=Nat.mul_le_mul c (by omega)
  omega
 ·exact c
def Ju(CG:Addr):Sp:=λvs H Q _=>∃(g:Addr) (rs:qV),vs=[.ref g]/\Qu CG H g rs/\qC rs/\rs.length<=14/\
 ∀H' D R,Same H H'->H D=none->jG H' D rs R->All (Jd rs) (rs.map (·.1)) 0 [] R->Q (.ref D) H'
section
variable{P:Program}{w:World}{K:zdW}{mg:Str->Option Value}{base:Heap}
abbrev nLb:List Str:=["ground","numbered","steps","step","names","name","labels"]
theorem VY:qt nLb ["ground"] (qj Jf):=zdV
structure qag(K:zdW)(mg:Str->Option Value):Prop where
 lack:∃f fd,qQ K mg "lacking" QI ["numbers"] f fd
 seto:∃f fd,qQ K mg "set_of" zQ ["numbers"] f fd
 nb:∃f fd,qQ K mg "numbers_behind" Ny Kx f fd
 gets:∃f fd,qQ K mg "gets_number" Xq Xz f fd
 round:∃f fd,qQ K mg "round_of" zR Q3 f fd
 give:∃f fd,qQ K mg "give_number" V6 Q3 f fd
 gives:∃f fd,qQ K mg "give_numbers" W6 Va f fd
 labels:∃f fd,qQ K mg "labels_of" Jf ["ground"] f fd
theorem y4{f CG:Addr}{fd:zea}(F:jK K "labels_of" "labels_of" Jf f fd)(B:QO mg)(G:QM mg)(T:Qt K mg)(M:GM K mg CG)(Y:qag K mg):qo P w K mg base qH 8 f fd ["ground"] (Ju CG):=by
 obtain⟨fL,fdL,hL⟩:=Y.lack
 obtain⟨fS,fdS,hS⟩:=Y.seto
 obtain⟨fB,fdB,hB⟩:=Y.nb
 obtain⟨fG,fdG,hG⟩:=Y.gets
 obtain⟨fR,fdR,hR⟩:=Y.round
 obtain⟨fV,fdV,hV⟩:=Y.give
 obtain⟨fW,fdW,hW⟩:=Y.gives
 have GW:qo P w K mg base qH 7 fW fdW Va (ko CG):=ut hW.fn B G T M hB hL hG hR hV
 have GB:qo P w K mg base qH 3 fB fdB Kx (KU CG):=ND hB.fn B G T M
 have GS:qo P w K mg base qH 1 fS fdS ["numbers"] (WU K):=Ud hS.fn
 obtain⟨fC,fdC,C⟩:=M.cls
 obtain⟨fM,fdM,hM⟩:=M.nm
 have GM:qo P w K mg base qH 1 fM fdM ["self"] (ze CG):=zV hM.fn C G
 refine F.okJ VY (λvs H Q E h=>?_) (λcdv A outer s H vs Q E hr h=>?_)
 ·obtain⟨g,rs,rfl,_⟩:=h
  rfl
 ·obtain⟨g,rs,rfl,gr,good,le14,q⟩:=h
  have hu:=jX hr
  have r1:qU 1 _:=hr.mono (by decide)
  have r3:qU 3 _:=hr.mono (by decide)
  refine⟨_,qg (qx (i:=1) VY.nd rfl (Or.inl rfl) Qp)
   (qg (qx (i:=2) VY.nd rfl (Or.inl rfl) Qp)
   (qg (ja PassesOwn.never rfl (YW (by rfl) T.enu (qd (qF hW GW hr (by rfl) (qd (jv 0) (qd (jv 1) qf))) qf)) (Z4 rfl (jC (qw (i:=3) VY.nd rfl (Or.inl rfl)) (jC (qw (i:=4) VY.nd rfl (Or.inl rfl)) JY)))
    (qh (ja PassesOwn.never rfl (qJ (jv 4)) (qw (i:=5) VY.nd rfl (Or.inl rfl)) (qh (jy hu (jv 2) (jv 5) (jv 3) rfl)))))
   (qg (qx (i:=6) VY.nd rfl (Or.inl rfl) Qp)
   (qg (ja PassesOwn.never rfl (qJ (uR hM C.cl GM r1 (jv 0))) (qw (i:=5) VY.nd rfl (Or.inl rfl))
    (qh (qM (Qo (J0 hu (jv 5) (jv 1)))
     (qh (jy hu (jv 6) (jv 5) (jp (qd qE (qd (qW hu (jv 1) (jv 5) (λ_ _=>rfl)) (qd (qW hu (jv 2) (jv 5) (λ_ _=>rfl)) qf)))) rfl))
     (qh (jy hu (jv 6) (jv 5) (jp (qd qE (qd (qF hS GS r1 (by rfl) (qd (qF hB GB r3 (by rfl) (qd (jv 0) (qd (jv 1) (qd (jv 5) qf)))) qf)) qf))) rfl)))))
   (qh (qy (jv 6))))))),?_⟩
  intro d hd st hst
  have s1:Same H (upd H d (.dK [])):=ql hd
  have s2:Same H (upd (upd H d (.dK [])) st (.dK [])):=s1.trans (ql hst)
  have hd2:upd (upd H d (.dK [])) st (.dK []) d=some (.dK []):=qu qe hst
  have hst2:upd (upd H d (.dK [])) st (.dK []) st=some (.dK []):=qe
  have nds:d≠st:=λe=>by rw[<-e,qe]at hst;cases hst
  have hs0:H st=none:=jt s1 hst
  generalize upd (upd H d (.dK [])) st (.dK [])=H2 at s2 hd2 hst2
  have num0:∀{a:Addr},H2 a=some (.dK [])->jo (rs.map (·.1)) H2 a (qI []):=λh=>⟨[],h,λz=>rfl,zbn,λk h=>(nomatch h)⟩
  have ap:∀{H':Hp} {a:Addr},Same H H'->H a=none->UQ CG H' g a:=λsH ha dx lo rd h=>by
   obtain⟨dx',lo',rd',kvs',h1,_,h3,_⟩:=gr
   have:=sH _ _ h1
   rw[h]at this
   cases this
   exact λe=>by rw[e,ha]at h3;cases h3
  refine⟨_,rfl,_,rfl,g,d,rs,rfl,gr.mono s2,good,le14,num0 hd2,ap s2 hd,λH3 l3 ps R hl3 hl3' rnds _ num all fr3=>?_⟩
  have od:=yi all .nil
  have oL:=Vc od
  rw[tj]at oL
  have s3:Same H H3:=λb u h=>fr3 b u (s2 _ _ h) (qr h hd)
  have st3:H3 st=some (.dK []):=fr3 _ _ hst2 (Ne.symm nds)
  obtain⟨kvd,hd3⟩:=num.isd
  have nl3:l3≠st:=λe=>by rw[e,hst2]at hl3;cases hl3
  have L:=uH (J5 good.nd) all
  refine⟨l3,rfl,⟨_,.of hl3'⟩,?_⟩
  refine zA (K:=K) (a:=l3) (xs:=ps.map V.ref) (λi σ' G'=>∃v3 v4 v5,σ'=[some (.ref g),some (.ref d),some (.ref st),v3,v4,v5,none]/\jo (rs.map (·.1)) G' st (X9 R i)/\Fr H3 st G')
   ⟨none,none,none,rfl,⟨[],st3,λz=>rfl,zbn,λk h=>(nomatch h)⟩,Fr.refl⟩ (λi σ' G' _ ⟨_,_,_,_,_,f⟩=>.of (f _ _ hl3' nl3)) ?_ ?_
  ·rintro i x σ' G' p hx hp ⟨v3,v4,v5,rfl,vi,frS⟩
   rw[tG]at hx
   cases ep:ps[i]? with
   | none=>rw[ep]at hx;cases hx
   | some pi=>
    rw[ep]at hx
    obtain rfl:=(tO.inj hx).symm
    have li:i < R.length:=by
     have:=(tw.mp ep).1
     have:=rnds.1
     rw[tj]at this
     omega
    obtain⟨r,er⟩:∃r,R[i]?=some r:=⟨_,tE li⟩
    have hpi:=rnds.2 i pi r.2 ep (by rw[tG,er];rfl)
    have npi:pi≠st:=λe=>by rw[e,st3]at hpi;cases hpi
    have sp:Same G' (upd G' p (.tup [.int (i:Nat),V.ref pi])):=ql hp
    have frp:Fr H3 st (upd G' p (.tup [.int (i:Nat),V.ref pi])):=frS.same sp
    have rN:∀z∈r.2,z∈rs.map (·.1):=od.sub r (t9 er)
    refine⟨p,_,rfl,.of qe,rfl,_,_,rfl,_,_,rfl,rfl,?_⟩
    have hpp:∀{G2:Hp},Fr H3 st G2->G2 pi=some (.lst (r.2.map V.str)):=λf=>f _ _ hpi npi
    have num1:=vi.mono sp
    generalize upd G' p (.tup [.int (i:Nat),V.ref pi])=G1 at sp frp num1
    refine⟨_,rfl,pi,rfl,⟨_,.of (hpp frp)⟩,?_⟩
    have rnd:r.2.Nodup:=good.nd.sublist (od.srt r (t9 er))
    refine jx (K:=K) (a:=pi) (xs:=r.2.map V.str) (λj σ'' G2=>∃v5,σ''=[some (.ref g),some (.ref d),some (.ref st),some (.int (i:Nat)),some (.ref pi),v5,none]/\jo (rs.map (·.1)) G2 st (Yx (X9 R i) i (r.2.take j))/\Fr H3 st G2)
     ⟨v5,rfl,num1.congr λz=>by unfold Yx;rw[zdz,if_neg (by simp)],frp⟩ (λj σ'' G2 _ ⟨_,_,_,f⟩=>.of (hpp f)) ?_ ?_
    ·rintro j y σ'' G2 hy ⟨v5',rfl,numG,frG⟩
     obtain⟨z,ez,hz,rfl⟩:=j9 hy
     by_cases nt:z∈r.2.take j
     ·exfalso
      obtain⟨j',hj⟩:=zbc nt
      rw[zcU]at hj
      split at hj
      . have h1:=(tw.mp hj)
        have h2:=(tw.mp ez)
        have:=uA rnd (h1.2.trans h2.2.symm)
        omega
      . cases hj
     ·obtain⟨H4,put,num4,o4,e4⟩:=numG.put (n:=i) (rN z hz) (by unfold Yx;rw[if_neg nt];exact VR od er hz) (by rw[tj];exact le14)
      refine⟨_,rfl,_,rfl,_,rfl,st,H4,rfl,put,_,rfl,num4.congr λy=>?_,?_⟩
      . unfold Yx
        rw[tP,ez]
        by_cases e:y=z
        ·subst e;rw[if_pos rfl,if_pos (by simp)]
        ·rw[if_neg e]
         by_cases m:y∈r.2.take j
         ·rw[if_pos m,if_pos (zaj _ m)]
         ·rw[if_neg m,if_neg (by simp [m,e])]
      . rw[e4]
        exact frG.at_d
    ·rintro σ'' G2 ⟨v5',rfl,numG,frG⟩
     rw[tj,tF (tz _)]at numG
     exact⟨_,_,_,rfl,numG.congr (yz od er),frG⟩
  ·rintro σ' G' ⟨v3,v4,v5,rfl,vi,frS⟩
   rw[tj,rnds.1,tj]at vi
   have vi:=vi.congr (xX R)
   have sG:Same H G':=λb u h=>frS _ _ (s3 _ _ h) (qr h hs0)
   have numD:jo (rs.map (·.1)) G' d (qI R):=num.fr frS nds
   intro D hD
   have sD:Same G' (upd G' D (.dK [])):=ql hD
   have hD0:H D=none:=jt sG hD
   have hDD:upd G' D (.dK []) D=some (.dK []):=qe
   generalize upd G' D (.dK [])=G1 at sD hDD
   obtain⟨dx,fs,hg,l1,l2⟩:=((gr.mono sG).mono sD).ins
   refine⟨_,rfl,g,dx,fs,rfl,hg,l1,g,rs,rfl,(gr.mono sG).mono sD,λln hln=>⟨ln,rfl,⟨_,.of qe⟩,?_⟩⟩
   have sL:Same G1 (upd G1 ln (.lst ((rs.map (·.1)).map V.str))):=ql hln
   have hL2:upd G1 ln (.lst ((rs.map (·.1)).map V.str)) ln=some (.lst ((rs.map (·.1)).map V.str)):=qe
   have nDl:ln≠D:=λe=>by rw[e,hDD]at hln;cases hln
   generalize upd G1 ln (.lst ((rs.map (·.1)).map V.str))=G2 at sL hL2
   have sG2:Same G' G2:=sD.trans sL
   refine jx (K:=K) (a:=ln) (xs:=(rs.map (·.1)).map V.str) (λi σ' G3=>∃v5 kvs,σ'=[some (.ref g),some (.ref d),some (.ref st),v3,v4,v5,some (.ref D)]/\Fr G2 D G3/\G3 D=some (.dK kvs)/\kvs.map (·.1)=((rs.map (·.1)).take i).map Sum.inr/\
     ∀r∈rs.take i,∃t,jg kvs (Sum.inr r.1:qN)=some (.ref t)/\G3 t=some (.tup (QX rs R r.1)))
    ⟨v5,[],rfl,Fr.refl,sL _ _ hDD,rfl,λr h=>(nomatch h)⟩ (λi σ' G3 _ ⟨_,_,_,f,_⟩=>.of (f _ _ hL2 nDl)) ?_ ?_
   ·rintro i y σ' G3 hy ⟨v5',kvs,rfl,fr,hDk,ek,hv⟩
    obtain⟨r,er,hr',rfl⟩:=uB hy
    have hi:=(tw.mp er).1
    have s23:Same G' G3:=λb u h=>fr _ _ (sG2 _ _ h) (qr h hD)
    have sA:=sG.trans s23
    have nm:=numD.mono s23
    have ns:=vi.mono s23
    have lk:kvs.length=i:=by
     have:=congrArg zax ek
     rw[tj,tj,tW,tj]at this
     omega
    have eN:(rs.map (·.1))[i]?=some r.1:=by rw[tG,er];rfl
    have new:jg kvs (Sum.inr r.1:qN)=none:=Jt (by rw[ek];exact Qz good.nd eN)
    have fin:∀(G4:Hp) (t:Addr),Fr G2 D G4->G4 D=some (.dK kvs)->Same G3 G4->G4 t=some (.tup (QX rs R r.1))->∃H5,Jb G4 D (.str r.1) (.ref t) H5/\
      ∃v5 kvs,[some (V.ref g),some (.ref d),some (.ref st),v3,v4,some (.str r.1),some (.ref D)]=[some (.ref g),some (.ref d),some (.ref st),v3,v4,v5,some (.ref D)]/\Fr G2 D H5/\H5 D=some (.dK kvs)/\kvs.map (·.1)=((rs.map (·.1)).take (i+1)).map Sum.inr/\
       ∀r∈rs.take (i+1),∃t,jg kvs (Sum.inr r.1:qN)=some (.ref t)/\H5 t=some (.tup (QX rs R r.1)):=λG4 t f4 h4 s4 ht=>by
     refine⟨_,Jb.k (k:=(Sum.inr r.1:qN)) h4 (qp (by omega)),some (.str r.1),jQ kvs (Sum.inr r.1) (.ref t),rfl,f4.at_d,qe,?_,λr2 hr2=>?_⟩
     ·rw[QJ _ new,tI,ek,tP,eN,tI]
      rfl
     ·have tD:∀{b:Addr} {xs:List V},G4 b=some (.tup xs)->b≠D:=λhb e=>by rw[e,h4]at hb;cases hb
      rw[tP,er]at hr2
      rcases tX.mp hr2 with h | h
      . obtain⟨t2,a,b⟩:=hv r2 h
        have ne:r2.1≠r.1:=λe=>by rw[e,new]at a;cases a
        refine⟨t2,?_,?_⟩
        ·rw[j0,if_neg (λq=>ne (Sum.inr.inj q))];exact a
        ·rw[qi (tD (s4 _ _ b))];exact s4 _ _ b
      . have:r2=r:=by simpa using h
        subst this
        refine⟨t,?_,?_⟩
        ·rw[j0,if_pos rfl]
        ·rw[qi (tD ht)];exact ht
    refine⟨_,rfl,_,rfl,d,_,rfl,nm.get r.1,_,rfl,?_⟩
    cases c:qI R r.1 with
    | some n=>
     have g1:=nm.get r.1
     have g2:=ns.get r.1
     rw[c]at g1 g2
     refine j3 ⟨_,rfl,_,rfl,d,_,rfl,g1,_,rfl,_,rfl,st,_,rfl,g2,by show 3<=zeb;decide,λt ht=>?_⟩
     have el:QX rs R r.1=[.str "number",.int (n:Nat),.int (Jc R r.1:Nat)]:=by unfold QX;rw[c]
     obtain⟨H5,put,k⟩:=fin (upd G3 t (.tup [.str "number",.int (n:Nat),.int (Jc R r.1:Nat)])) t (fr.same (ql ht)) (qu hDk ht) (ql ht) (by rw[el];exact qe)
     exact⟨_,rfl,_,rfl,D,H5,rfl,put,k⟩
    | none=>
     have gN:=L
     refine ji ⟨_,rfl,_,rfl,_,rfl,g,d,rs,r.1,qI R,rfl,gr.mono sA,good,le14,tL.mpr ⟨r,hr',rfl⟩,nm,λH4 l4 s4 hl4 hl4'=>?_⟩
     refine⟨l4,_,rfl,.of hl4',λx hx=>?_,by show 2<=zeb;decide,λt ht=>?_⟩
     ·obtain⟨y,hy,ey⟩:=Ql.mp hx
      have:=XE good L (J5 good.nd _ (tL.mpr ⟨r,hr',rfl⟩) y hy) ey
      omega
     ·have el:QX rs R r.1=[.str "endless",.int (Rb.setN (ZQ rs (qI R) r.1):Nat)]:=by unfold QX;rw[c]
      obtain⟨H5,put,k⟩:=fin (upd H4 t (.tup [.str "endless",.int (Rb.setN (ZQ rs (qI R) r.1):Nat)])) t ((fr.same s4).same (ql ht)) (qu (s4 _ _ hDk) ht) (s4.trans (ql ht)) (by rw[el];exact qe)
      exact⟨_,rfl,_,rfl,D,H5,rfl,put,k⟩
   ·rintro σ' G3 ⟨v5',kvs,rfl,fr,hDk,ek,hv⟩
    rw[tj,tF (tz _)]at ek
    rw[tj,tj,tF (tz _)]at hv
    exact⟨_,rfl,q G3 D R (λb u h=>fr _ _ (sG2 _ _ (sG _ _ h)) (qr h hD0)) hD0 ⟨kvs,hDk,ek,hv⟩ all⟩
end
open PySem L2 PyProof.Rows Rb
abbrev Xh:Stmt:=top 35
abbrev YQ:Stmt:=top 36
abbrev Zh:Stmt:=top 13
abbrev zi:Stmt:=top 40
abbrev Xo:Stmt:=top 41
abbrev Xg:Stmt:=top 45
abbrev Xj:Stmt:=Qa (top 43) 0
abbrev W3:Stmt:=Qa (top 43) 3
abbrev kB:Stmt:=Qa (top 43) 4
abbrev V2:Stmt:=Qa (top 43) 5
abbrev Xs:Stmt:=Qa (top 44) 0
abbrev W7:Stmt:=Qa (top 44) 3
abbrev kE:Stmt:=Qa (top 44) 4
abbrev V7:Stmt:=Qa (top 44) 5
section
variable{P:Program}{w:World}{K:zdW}{mg:Str->Option Value}{base:Heap}
theorem bx(a b:Nat):Builtin.bitXor a b=((a^^^b:Nat):Int):=by
 unfold Builtin.bitXor
 rw[bo,ba]
 have:=Rb.or_and_xor a b
 omega
def WV:Sp:=λvs H Q _=>∃b:Nat,vs=[.int b]/\b < 65536/\∀l,H l=none->Q (.ref l) (upd H l (.lst (ZG (Rb.memN b 16))))
def VS:Sp:=λvs H Q _=>∃b n:Nat,vs=[.int b,.int n]/\b < 65536/\n < 16/\∀H',Same H H'->Q (.int (Rb.turnN b n 16:Nat)) H'
theorem R7(b:Nat):b < 2^ (Builtin.Int.intBits (b:Nat)):=by
 unfold Builtin.Int.intBits
 by_cases h:b=0
 ·subst h;simp
 ·rw[if_neg (by simpa using h)]
  exact Nat.lt_log2_self
theorem WK{b:Nat}(h:b < 65536):Builtin.Int.intBits (b:Nat)<=16:=by
 unfold Builtin.Int.intBits
 by_cases h0:b=0
 ·subst h0;simp
 ·rw[if_neg (by simpa using h0)]
  have:b.log2 < 16:=(Nat.log2_lt h0).mpr h
  exact this
theorem kq(b i:Nat):Builtin.bitAnd ((b:Int) / 2^ ((i:Nat):Int).toNat) 1=(((b.testBit i).toNat:Nat):Int):=by
 have e1:(b:Int) / 2^ ((i:Nat):Int).toNat=((b / 2^i:Nat):Int):=by rw[zaT];push_cast;rfl
 have e2:Builtin.bitAnd ((b / 2^i:Nat):Int) 1=(((b / 2^i)&&& 1:Nat):Int):=ba (b / 2^i) 1
 rw[e1,e2,Nat.and_one_is_mod,Rb.testBit_div]
 by_cases h:b / 2^i % 2=1
 ·rw[h];rfl
 ·have h':b / 2^i % 2=0:=by omega
  rw[h'];rfl
theorem K3:qt ["bits"] ["bits"] (qj Xh):=zdV
theorem Ue{f:Addr}{fd:zea}(F:jK K "numbers_in" "numbers_in" Xh f fd)(B:QO mg):qo P w K mg base qH 1 f fd ["bits"] WV:=by
 refine F.okJ K3 (λvs H Q E h=>?_) (λcdv A outer s H vs Q E hr h=>?_)
 ·obtain⟨b,rfl,_⟩:=h
  rfl
 ·obtain⟨b,rfl,hb,q⟩:=h
  refine⟨_,qh (qy (j4 (N':=["number","bits"]) (ix:=[none,some 0]) rfl ⟨rfl,rfl,rfl,rfl,rfl⟩
   (jA (by rfl) B.rng (qd (uU PySem.F.plainAttrs_int PySem.F.slot_int_bit_length PySem.F.type_int_bit_length y9 (jv 0)) qf))
   (λC s2 H2 fp pins=>⟨qw (i:=0) (show (["number","bits"]:List Str).Nodup by decide+kernel) rfl (Or.inl rfl),jV (qv jL (qL w5 (qL wU (jv 1) (jv 0)) qk) qk (qA _)),jv 0⟩))),?_⟩
  refine⟨_,rfl,rfl,_,rfl,rfl,_,rfl,by omega,?_,λD hD=>?_⟩
  ·have:=WK hb
   omega
  ·rw[zaT]
   refine JL (λi σ' H'=>∃v,σ'=[v,some (.int b)]/\H'=upd H D (.lst (ZG (Rb.memN b i)))) ⟨none,rfl,rfl⟩ ?_ ?_
   ·rintro i σ' H' hi ⟨v,rfl,rfl⟩
    rw[zbJ]
    refine⟨_,rfl,_,rfl,_,_,rfl,rfl,by omega,_,_,rfl,rfl,rfl,_,rfl,?_⟩
    have e:decide (V.int (Builtin.bitAnd ((b:Int) / 2^ ((i:Nat):Int).toNat) 1)=V.int 1)=b.testBit i:=by
     rw[kq]
     cases b.testBit i<;>decide
    rw[e]
    have l:(ZG (Rb.memN b i)).length < zeb:=by
     rw[J3]
     refine qp ?_
     have:=WK hb
     have h1:(Rb.memN b i).length<=(zab i).length:=zaq _ _
     rw[zam]at h1
     omega
    cases hb':b.testBit i with
    | true=>
     refine j3 ⟨_,rfl,_,qe,l,some (.int i),rfl,?_⟩
     rw[jI,XO,Rb.memN_succ,hb']
     rfl
    | false=>
     refine ji ⟨some (.int i),rfl,?_⟩
     rw[Rb.memN_succ,hb']
     simp
   ·rintro σ' H' ⟨v,rfl,rfl⟩
    rw[Rb.memN_same (m:=16) hb (R7 b)]
    exact q D hD
theorem wn:qt ["bits","number"] ["bits","number"] (qj YQ):=zdV
theorem yW{f fN fS:Addr}{fd fdN fdS:zea}(F:jK K "set_turned" "set_turned" YQ f fd)(B:QO mg)(hN:qQ K mg "numbers_in" Xh ["bits"] fN fdN)(hS:qQ K mg "set_of" zQ ["numbers"] fS fdS):
  qo P w K mg base qH 2 f fd ["bits","number"] VS:=by
 have GN:qo P w K mg base qH 1 fN fdN ["bits"] WV:=Ue hN.fn B
 have GS:qo P w K mg base qH 1 fS fdS ["numbers"] (WU K):=Ud hS.fn
 refine F.okJ wn (λvs H Q E h=>?_) (λcdv A outer s H vs Q E hr h=>?_)
 ·obtain⟨b,n,rfl,_⟩:=h
  rfl
 ·obtain⟨b,n,rfl,hb,hn,q⟩:=h
  refine⟨_,qh (qy (qF hS GS hr (by rfl) (qd (j4 (N':=["other","number"]) (ix:=[none,some 1]) rfl ⟨rfl,rfl,rfl,rfl,rfl⟩
   (qJ (qF hN GN hr (by rfl) (qd (jv 0) qf)))
   (λC s2 H2 fp pins=>⟨qw (i:=0) (show (["other","number"]:List Str).Nodup by decide+kernel) rfl (Or.inl rfl),jN,qL vf (jv 0) (jv 1)⟩)) qf))),?_⟩
  refine⟨_,rfl,b,rfl,hb,λl hl=>⟨l,rfl,⟨_,.of qe⟩,λD hD=>?_⟩⟩
  have nlD:l≠D:=λe=>by rw[e,qe]at hD;cases hD
  have HD:H D=none:=by rw[<-hD,qi (Ne.symm nlD)]
  refine j2 (K:=K) (a:=l) (xs:=ZG (Rb.memN b 16)) (λi σ' H'=>∃v,σ'=[v,some (.int n)]/\H'=upd (upd H l (.lst (ZG (Rb.memN b 16)))) D (.lst (ZG (((Rb.memN b 16).take i).map (·^^^n))))) ⟨none,rfl,rfl⟩
   (λi σ' H' _ ⟨_,_,e⟩=>.of (by rw[e,qi nlD];exact qe)) ?_ ?_
  ·rintro i x σ' H' hx ⟨v,rfl,rfl⟩
   obtain⟨m,hm,rfl⟩:=Vt hx
   refine⟨_,rfl,_,rfl,_,_,rfl,rfl,_,qe,?_,some (.int m),rfl,?_⟩
   ·rw[J3,tj,tW]
    refine qp (zaa (Nat.min_le_right _ _) ?_)
    have h1:(Rb.memN b 16).length<=(zab 16).length:=zaq _ _
    rw[zam]at h1
    omega
   ·rw[jI]
    dsimp only
    rw[bx,XO,zJ hm,tI]
    rfl
  ·rintro σ' H' ⟨v,rfl,rfl⟩
   rw[J3,tF (tz _)]
   refine⟨D,(Rb.memN b 16).map (·^^^n),rfl,.of qe,λx hx=>?_,?_⟩
   ·obtain⟨y,hy,rfl⟩:=tL.mp hx
    have:=Rb.xor_lt (m:=4) (Rb.mem_memN.mp hy).1 hn
    omega
   ·exact q _ (Same.upd (ql hl) HD)
end
structure Cl(K:zdW)(mg:Str->Option Value)(x qual fld:Str)(st:Stmt)(C f:Addr)(fd:zea):Prop where
 cl:X7 K C
 mkr:Mk K C f
 ns:mg x=some (.ref C)
 na:j5 K C fld
 fn:jK K "__init__" qual st f fd
 bi:jE K fd ["self",fld] []
 ca:tR K (.ref C) "__class__"=some (some (.builtin "object.__class__"))
 ob:zbA K C (.type "object")=some true
structure Wk(K:zdW)(mg:Str->Option Value):Prop where
 isi:mg "isinstance"=none
 bool:mg "bool"=none
 kii:zag K (.type "int") (.type "int")=some true
 kib:zag K (.type "int") (.type "bool")=some false
 most:∃t,mg "MOST_NUMBER"=some (.int 15 t)
 mset:∃t,mg "MOST_BITS"=some (.int 65535 t)
theorem lk1{f:Str}{v:V}:[(f,v)].lookup f=some v:=by simp [zbb]
def ZV(CN CE:Addr)(H:Hp)(a:Addr):W->Prop
 | .num n=>∃dx,H a=some (.ins CN dx [("number",.int (n:Nat))])
 | .edl b=>∃dx,H a=some (.ins CE dx [("bits",.int (b:Nat))])
theorem ZV.same{CN CE:Addr}{H H':Hp}{a:Addr}{w:W}(h:ZV CN CE H a w)(s:Same H H'):ZV CN CE H' a w:=by
 cases w with
 | num n=>obtain⟨dx,e⟩:=h;exact⟨dx,s _ _ e⟩
 | edl b=>obtain⟨dx,e⟩:=h;exact⟨dx,s _ _ e⟩
section
variable{P:Program}{w:World}{K:zdW}{mg:Str->Option Value}{base:Heap}
def Xb:Sp:=λvs H Q _=>∃i:Int,vs=[.int i]/\Q (.bl true) H
def VU:Sp:=λvs H Q _=>∃i:Int,vs=[.int i]/\0<=i/\i<=15/\Q (.bl true) H
def km:Sp:=λvs H Q _=>∃i:Int,vs=[.int i]/\0<=i/\i<=65535/\Q (.bl true) H
theorem K2:qt ["thing"] ["thing"] (qj Zh):=zdV
theorem Uc{f:Addr}{fd:zea}(F:jK K "is_whole" "is_whole" Zh f fd)(B:QO mg)(T:Wk K mg):qo P w K mg base qH 1 f fd ["thing"] Xb:=by
 refine F.okJ K2 (λvs H Q E h=>?_) (λcdv A outer s H vs Q E hr h=>?_)
 ·obtain⟨i,rfl,_⟩:=h
  rfl
 ·obtain⟨i,rfl,q⟩:=h
  refine⟨_,qh (qy (Z5 (qD jc (by rfl) T.isi boot_isinstance (qd (jv 0) (qd (jW (v:=.ty "int") (by rfl) B.int boot_int rfl) qf)))
   (XN (MQ (qD jc (by rfl) T.isi boot_isinstance (qd (jv 0) (qd (jW (v:=.ty "bool") (by rfl) T.bool boot_bool rfl) qf))))))),?_⟩
  exact⟨_,rfl,_,_,_,_,rfl,rfl,.int i,T.kii,_,rfl,j3 ⟨_,rfl,_,_,_,_,rfl,rfl,.int i,T.kib,_,rfl,q⟩⟩
theorem wt:qt ["thing"] ["thing"] (qj zi):=zdV
theorem yY{f fW:Addr}{fd fdW:zea}(F:jK K "is_number" "is_number" zi f fd)(B:QO mg)(T:Wk K mg)(hW:qQ K mg "is_whole" Zh ["thing"] fW fdW):qo P w K mg base qH 2 f fd ["thing"] VU:=by
 have GW:qo P w K mg base qH 1 fW fdW ["thing"] Xb:=Uc hW.fn B T
 obtain⟨t,hm⟩:=T.most
 refine F.okJ wt (λvs H Q E h=>?_) (λcdv A outer s H vs Q E hr h=>?_)
 ·obtain⟨i,rfl,_⟩:=h
  rfl
 ·obtain⟨i,rfl,h0,h1,q⟩:=h
  refine⟨_,qh (qy (Z5 (qF hW GW hr (by rfl) (qd (jv 0) qf)) (Z5 (Qq kL qk (jv 0) (qA _)) (XN (Qq kL (jv 0) (Jj (v:=.int 15) (by rfl) hm ⟨_,rfl⟩) (qA _)))))),?_⟩
  refine⟨_,rfl,i,rfl,_,rfl,j3 ⟨_,rfl,_,_,rfl,rfl,_,rfl,?_⟩⟩
  rw[decide_eq_true h0]
  refine j3 ⟨_,rfl,_,_,rfl,rfl,?_⟩
  have e:decide (i<=15)=true:=decide_eq_true h1
  show Q (.bl (decide (i<=15))) H
  rw[e]
  exact q
theorem K8:qt ["thing"] ["thing"] (qj Xo):=zdV
theorem uq{f fW:Addr}{fd fdW:zea}(F:jK K "is_set" "is_set" Xo f fd)(B:QO mg)(T:Wk K mg)(hW:qQ K mg "is_whole" Zh ["thing"] fW fdW):qo P w K mg base qH 2 f fd ["thing"] km:=by
 have GW:qo P w K mg base qH 1 fW fdW ["thing"] Xb:=Uc hW.fn B T
 obtain⟨t,hm⟩:=T.mset
 refine F.okJ K8 (λvs H Q E h=>?_) (λcdv A outer s H vs Q E hr h=>?_)
 ·obtain⟨i,rfl,_⟩:=h
  rfl
 ·obtain⟨i,rfl,h0,h1,q⟩:=h
  refine⟨_,qh (qy (Z5 (qF hW GW hr (by rfl) (qd (jv 0) qf)) (Z5 (Qq kL qk (jv 0) (qA _)) (XN (Qq kL (jv 0) (Jj (v:=.int 65535) (by rfl) hm ⟨_,rfl⟩) (qA _)))))),?_⟩
  refine⟨_,rfl,i,rfl,_,rfl,j3 ⟨_,rfl,_,_,rfl,rfl,_,rfl,?_⟩⟩
  rw[decide_eq_true h0]
  refine j3 ⟨_,rfl,_,_,rfl,rfl,?_⟩
  have e:decide (i<=65535)=true:=decide_eq_true h1
  show Q (.bl (decide (i<=65535))) H
  rw[e]
  exact q
def WX(C:Addr)(fld:Str)(hi:Int):Sp:=λvs H Q _=>∃(x dx:Addr) (n:Int),vs=[.ref x,.int n]/\0<=n/\n<=hi/\H x=some (.ins C dx [])/\Q .non (upd H x (.ins C dx [(fld,.int n)]))
theorem K6:qt ["self","number"] ["self","number"] (qj Xj):=zdV
theorem uf{f fB fW CN:Addr}{fd fdB fdW:zea}(F:jK K "__init__" "Numbered.__init__" Xj f fd)(B:QO mg)(T:Wk K mg)(hW:qQ K mg "is_whole" Zh ["thing"] fW fdW)(hB:qQ K mg "is_number" zi ["thing"] fB fdB)(cl:X7 K CN)(na:j5 K CN "number"):
  qo P w K mg base qH 3 f fd ["self","number"] (WX CN "number" 15):=by
 have GB:qo P w K mg base qH 2 fB fdB ["thing"] VU:=yY hB.fn B T hW
 refine F.okJ K6 (λvs H Q E h=>?_) (λcdv A outer s H vs Q E hr h=>?_)
 ·obtain⟨x,dx,n,rfl,_⟩:=h
  rfl
 ·obtain⟨x,dx,n,rfl,h0,h1,hx,q⟩:=h
  refine⟨_,qg (qM (Qn (jl (qF hB GB hr (by rfl) (qd (jv 1) qf)))) qS qB) (qh (Vp (jv 0) (jv 1) rfl)),?_⟩
  exact⟨_,rfl,n,rfl,h0,h1,_,rfl,ji ⟨_,rfl,_,rfl,x,CN,dx,[],rfl,hx,cl,na,by decide,q⟩⟩
theorem Gb:qt ["self","bits"] ["self","bits"] (qj Xs):=zdV
theorem uv{f fB fW CE:Addr}{fd fdB fdW:zea}(F:jK K "__init__" "Endless.__init__" Xs f fd)(B:QO mg)(T:Wk K mg)(hW:qQ K mg "is_whole" Zh ["thing"] fW fdW)(hB:qQ K mg "is_set" Xo ["thing"] fB fdB)(cl:X7 K CE)(na:j5 K CE "bits"):
  qo P w K mg base qH 3 f fd ["self","bits"] (WX CE "bits" 65535):=by
 have GB:qo P w K mg base qH 2 fB fdB ["thing"] km:=uq hB.fn B T hW
 refine F.okJ Gb (λvs H Q E h=>?_) (λcdv A outer s H vs Q E hr h=>?_)
 ·obtain⟨x,dx,n,rfl,_⟩:=h
  rfl
 ·obtain⟨x,dx,n,rfl,h0,h1,hx,q⟩:=h
  refine⟨_,qg (qM (Qn (jl (qF hB GB hr (by rfl) (qd (jv 1) qf)))) qS qB) (qh (Vp (jv 0) (jv 1) rfl)),?_⟩
  exact⟨_,rfl,n,rfl,h0,h1,_,rfl,ji ⟨_,rfl,_,rfl,x,CE,dx,[],rfl,hx,cl,na,by decide,q⟩⟩
def yB(b:Bool):Sp:=λvs H Q _=>∃a,vs=[.ref a]/\Q (.bl b) H
theorem N3:qt ["self"] ["self"] (qj V2):=zdV
theorem GX{f:Addr}{fd:zea}(F:jK K "is_endless" "Numbered.is_endless" V2 f fd):qo P w K mg base qH 1 f fd ["self"] (yB false):=by
 refine F.okJ N3 (λvs H Q E h=>?_) (λcdv A outer s H vs Q E hr h=>?_)
 ·obtain⟨a,rfl,_⟩:=h
  rfl
 ·obtain⟨a,rfl,q⟩:=h
  exact⟨_,qh (qy Qr),q⟩
theorem N6:qt ["self"] ["self"] (qj V7):=zdV
theorem Rj{f:Addr}{fd:zea}(F:jK K "is_endless" "Endless.is_endless" V7 f fd):qo P w K mg base qH 1 f fd ["self"] (yB true):=by
 refine F.okJ N6 (λvs H Q E h=>?_) (λcdv A outer s H vs Q E hr h=>?_)
 ·obtain⟨a,rfl,_⟩:=h
  rfl
 ·obtain⟨a,rfl,q⟩:=h
  exact⟨_,qh (qy Qr),q⟩
end
structure WF(K:zdW)(mg:Str->Option Value) where
 (CN CE fNI fEI fNO fEO fNP fEP fNE fEE fW fB fS fT fN fO:Addr)
 (dNI dEI dNO dEO dNP dEP dNE dEE dW dB dS dT dN dO:zea)
 ne:CN≠CE
 cN:Cl K mg "Numbered" "Numbered.__init__" "number" Xj CN fNI dNI
 cE:Cl K mg "Endless" "Endless.__init__" "bits" Xs CE fEI dEI
 nO:VE K CN "outcome" "Numbered.outcome" kB ["self"] fNO dNO
 eO:VE K CE "outcome" "Endless.outcome" kE ["self"] fEO dEO
 nP:VE K CN "plus" "Numbered.plus" W3 ["self","other"] fNP dNP
 eP:VE K CE "plus" "Endless.plus" W7 ["self","other"] fEP dEP
 nE:VE K CN "is_endless" "Numbered.is_endless" V2 ["self"] fNE dNE
 eE:VE K CE "is_endless" "Endless.is_endless" V7 ["self"] fEE dEE
 hW:qQ K mg "is_whole" Zh ["thing"] fW dW
 hB:qQ K mg "is_number" zi ["thing"] fB dB
 hS:qQ K mg "is_set" Xo ["thing"] fS dS
 hT:qQ K mg "set_turned" YQ ["bits","number"] fT dT
 hN:qQ K mg "numbers_in" Xh ["bits"] fN dN
 hO:qQ K mg "set_of" zQ ["numbers"] fO dO
section
variable{P:Program}{w:World}{K:zdW}{mg:Str->Option Value}{base:Heap}
def isE:W->Bool
 | .num _=>false
 | .edl _=>true
theorem WF.gNI(h:WF K mg)(B:QO mg)(T:Wk K mg):qo P w K mg base qH 3 h.fNI h.dNI ["self","number"] (WX h.CN "number" 15):=uf h.cN.fn B T h.hW h.hB h.cN.cl h.cN.na
theorem WF.gEI(h:WF K mg)(B:QO mg)(T:Wk K mg):qo P w K mg base qH 3 h.fEI h.dEI ["self","bits"] (WX h.CE "bits" 65535):=uv h.cE.fn B T h.hW h.hS h.cE.cl h.cE.na
theorem WF.gNE(h:WF K mg):qo P w K mg base qH 1 h.fNE h.dNE ["self"] (yB false):=GX h.nE.fn
theorem WF.gEE(h:WF K mg):qo P w K mg base qH 1 h.fEE h.dEE ["self"] (yB true):=Rj h.eE.fn
theorem WF.gT(h:WF K mg)(B:QO mg):qo P w K mg base qH 2 h.fT h.dT ["bits","number"] VS:=yW h.hT.fn B h.hN h.hO
theorem Mp{f g:Str}{v:V}(h:(g==f)=false):[(f,v)].lookup g=none:=by simp [zbb,h]
theorem n1:((zdX "is_endless")==(zdX "number"))=false:=by decide+kernel
theorem n2:((zdX "is_endless")==(zdX "bits"))=false:=by decide+kernel
theorem n5:((zdX "plus")==(zdX "number"))=false:=by decide+kernel
theorem n6:((zdX "plus")==(zdX "bits"))=false:=by decide+kernel
theorem M4{CN CE a:Addr}{H:Hp}{w:W}{Q:VK}(h:ZV CN CE H a w)(q:Q (.bl (isE w)) H):∃a' dx fs,V.ref a=.ref a'/\fs.lookup (zdX "is_endless")=none/\((H a'=some (.ins CN dx fs)/\yB false [V.ref a] H Q E0)\/(H a'=some (.ins CE dx fs)/\yB true [V.ref a] H Q E0)):=by
 cases w with
 | num n=>obtain⟨dx,e⟩:=h;exact⟨a,dx,_,rfl,Mp n1,.inl ⟨e,a,rfl,q⟩⟩
 | edl b=>obtain⟨dx,e⟩:=h;exact⟨a,dx,_,rfl,Mp n2,.inr ⟨e,a,rfl,q⟩⟩
theorem uS{X:Cx}(h:WF X.K X.mg)(hr:qU 1 X.A){o:Expr}{ta:TE}{apos pos:Pos}{pl:Sem Bool}(he:JE X o ta)
  (ht:eval (.Call (.Attribute o "is_endless" apos) [] [] pos) X.env=(eval o X.env >>= λov=>standAt apos.atName >>= λ_=>holding [ov] (getMethod ov "is_endless" pl) >>= λr=>callWith pos r.1 r.2 (backTo pos (starEach [] X.env)) (backToKw pos (keywordEach [] X.env))):=by rfl):
  JE X (.Call (.Attribute o "is_endless" apos) [] [] pos) (λσ H Q=>ta σ H λx H1=>∃a u,x=.ref a/\ZV h.CN h.CE H1 a u/\Q (.bl (isE u)) H1):=
 Vr (WB (uO he) h.cN.cl h.nE.me h.gNE hr h.nE.bi h.cE.cl h.eE.me h.gEE hr h.eE.bi ht) λσ H Q q=>⟨_,q,λx H1 ⟨a,u,e,i,q1⟩=>by subst e;exact M4 i q1⟩
def vY(CN CE:Addr):Sp:=λvs H Q _=>∃a o n v,vs=[.ref a,.ref o]/\ZV CN CE H a (.num n)/\ZV CN CE H o v/\n < 16/\zW v/\∀H' r,Same H H'->ZV CN CE H' r (zp (.num n) v)->Q (.ref r) H'
def vZ(CN CE:Addr):Sp:=λvs H Q _=>∃a o b v,vs=[.ref a,.ref o]/\ZV CN CE H a (.edl b)/\ZV CN CE H o v/\b < 65536/\zW v/\∀H' r,Same H H'->ZV CN CE H' r (zp (.edl b) v)->Q (.ref r) H'
theorem Vi{CN CE:Addr}{H:Hp}{x dx:Addr}{n:Nat}(hx:H x=none)(hd:H dx=none)(hne:dx≠x):Same H (upd (upd (upd H dx (.own x)) x (.ins CN dx [])) x (.ins CN dx [("number",.int (n:Nat))]))/\ZV CN CE (upd (upd (upd H dx (.own x)) x (.ins CN dx [])) x (.ins CN dx [("number",.int (n:Nat))])) x (.num n):=
 ⟨λb o hb=>by rw[qi (qr hb hx),qi (qr hb hx),qi (qr hb hd)];exact hb,dx,qe⟩
theorem Vj{CN CE:Addr}{H:Hp}{x dx:Addr}{b:Nat}(hx:H x=none)(hd:H dx=none)(hne:dx≠x):Same H (upd (upd (upd H dx (.own x)) x (.ins CE dx [])) x (.ins CE dx [("bits",.int (b:Nat))]))/\ZV CN CE (upd (upd (upd H dx (.own x)) x (.ins CE dx [])) x (.ins CE dx [("bits",.int (b:Nat))])) x (.edl b):=
 ⟨λb o hb=>by rw[qi (qr hb hx),qi (qr hb hx),qi (qr hb hd)];exact hb,dx,qe⟩
theorem Ga:qt ["self","other"] ["self","other"] (qj W7):=zdV
theorem WF.gEP(h:WF K mg)(B:QO mg)(T:Wk K mg):qo P w K mg base qH 5 h.fEP h.dEP ["self","other"] (vZ h.CN h.CE):=by
 refine h.eP.fn.okJ Ga (λvs H Q E z=>?_) (λcdv A outer s H vs Q E hr z=>?_)
 ·obtain⟨a,o,b,v,rfl,_⟩:=z
  rfl
 ·obtain⟨a,o,b,v,rfl,ha,ho,hb,hv,q⟩:=z
  refine⟨_,qg (qM (jl (uS h (hr.mono (by decide)) (jv 1))) (qh (qy (JZ h.cE.mkr (h.gEI B T) hr (by rfl) h.cE.ns h.cE.bi .nil QR (qd qk qf)))) qB)
   (qh (qy (JZ h.cE.mkr (h.gEI B T) hr (by rfl) h.cE.ns h.cE.bi .nil QR (qd (qF h.hT (h.gT B) (hr.mono (by decide)) (by rfl) (qd (Q7 (jv 0) rfl) (qd (Q7 (jv 1) rfl) qf))) qf)))),?_⟩
  refine⟨_,rfl,o,v,rfl,ho,_,rfl,?_⟩
  cases v with
  | edl c=>
   refine j3 (λx dx hx hd hne=>⟨x,dx,0,rfl,by decide,by decide,qe,rfl,?_⟩)
   obtain⟨s1,i1⟩:=Vj (CN:=h.CN) (CE:=h.CE) (b:=0) hx hd hne
   exact q _ _ s1 i1
  | num n=>
   obtain⟨dx0,e0⟩:=id ha
   obtain⟨dx1,e1⟩:=id ho
   refine ji ⟨_,rfl,a,h.CE,dx0,_,_,rfl,e0,h.cE.cl,h.cE.na,lk1,_,rfl,o,h.CN,dx1,_,_,rfl,e1,h.cN.cl,h.cN.na,lk1,b,n,rfl,hb,hv,λH1 s1 x dx hx hd hne=>?_⟩
   have lt:=vQ (k:=4) (b:=b) (tz _) hv
   refine⟨x,dx,_,rfl,by omega,?_,qe,rfl,?_⟩
   ·have:turnN b n 16 < 65536:=lt
    omega
   ·obtain⟨s2,i2⟩:=Vj (CN:=h.CN) (CE:=h.CE) (b:=turnN b n 16) hx hd hne
    exact q _ _ (s1.trans s2) i2
theorem K5:qt ["self","other"] ["self","other"] (qj W3):=zdV
theorem WF.gNP(h:WF K mg)(B:QO mg)(T:Wk K mg):qo P w K mg base qH 6 h.fNP h.dNP ["self","other"] (vY h.CN h.CE):=by
 refine h.nP.fn.okJ K5 (λvs H Q E z=>?_) (λcdv A outer s H vs Q E hr z=>?_)
 ·obtain⟨a,o,b,v,rfl,_⟩:=z
  rfl
 ·obtain⟨a,o,n,v,rfl,ha,ho,hn,hv,q⟩:=z
  refine⟨_,qg (qM (jl (uS h (hr.mono (by decide)) (jv 1))) (qh (qy (kW h.eP h.cE.cl (h.gEP B T) hr (jv 1) (qd (jv 0) qf)))) qB)
   (qh (qy (JZ h.cN.mkr (h.gNI B T) (hr.mono (by decide)) (by rfl) h.cN.ns h.cN.bi .nil QR (qd (qL vf (Q7 (jv 0) rfl) (Q7 (jv 1) rfl)) qf)))),?_⟩
  refine⟨_,rfl,o,v,rfl,ho,_,rfl,?_⟩
  cases v with
  | edl c=>
   obtain⟨dx1,e1⟩:=id ho
   exact j3 ⟨_,rfl,o,dx1,_,rfl,e1,Mp n6,_,rfl,o,a,c,.num n,rfl,ho,ha,hv,hn,λH' r s i=>q H' r s i⟩
  | num m=>
   obtain⟨dx0,e0⟩:=id ha
   obtain⟨dx1,e1⟩:=id ho
   refine ji ⟨_,rfl,a,h.CN,dx0,_,_,rfl,e0,h.cN.cl,h.cN.na,lk1,_,rfl,o,h.CN,dx1,_,_,rfl,e1,h.cN.cl,h.cN.na,lk1,_,_,rfl,rfl,λx dx hx hd hne=>?_⟩
   have lt:n^^^m < 16:=xor_lt (m:=4) hn hv
   refine⟨x,dx,((n^^^m:Nat):Int),by rw[<-bx];rfl,by omega,by omega,qe,rfl,?_⟩
   obtain⟨s2,i2⟩:=Vi (CN:=h.CN) (CE:=h.CE) (n:=n^^^m) hx hd hne
   exact q _ _ s2 i2
theorem Gq{CN CE a:Addr}{H:Hp}{u:W}{Q:VK}{t:TA}{σ:L2.St}(h:ZV CN CE H a u)(hu:zW u)(ht:t σ H λvs H2=>∃o v,vs=[.ref o]/\ZV CN CE H2 a u/\ZV CN CE H2 o v/\zW v/\∀H' r,Same H2 H'->ZV CN CE H' r (zp u v)->Q (.ref r) H')
  (mono:∀R R':List V->Hp->Prop,(∀vs H,R vs H->R' vs H)->t σ H R->t σ H R'):
  ∃a' dx fs,V.ref a=.ref a'/\fs.lookup (zdX "plus")=none/\((H a'=some (.ins CN dx fs)/\t σ H λvs H2=>vY CN CE (V.ref a::vs) H2 Q E0)\/(H a'=some (.ins CE dx fs)/\t σ H λvs H2=>vZ CN CE (V.ref a::vs) H2 Q E0)):=by
 cases u with
 | num n=>
  obtain⟨dx,e⟩:=id h
  exact⟨a,dx,_,rfl,Mp n5,.inl ⟨e,mono _ _ (λvs H2 ⟨o,v,e1,h1,h2,h3,h4⟩=>⟨a,o,n,v,by rw[e1],h1,h2,hu,h3,h4⟩) ht⟩⟩
 | edl b=>
  obtain⟨dx,e⟩:=id h
  exact⟨a,dx,_,rfl,Mp n6,.inr ⟨e,mono _ _ (λvs H2 ⟨o,v,e1,h1,h2,h3,h4⟩=>⟨a,o,b,v,by rw[e1],h1,h2,hu,h3,h4⟩) ht⟩⟩
theorem RA{X:Cx}(h:WF X.K X.mg)(B:QO X.mg)(T:Wk X.K X.mg)(hr:qU 6 X.A){o e:Expr}{ta:TE}{t:TA}{apos pos:Pos}{pl:Sem Bool}(he:JE X o ta)(ha:JA X [e] t)(hst:starEach [e] X.env=(false,eval e X.env)::starEach [] X.env:=by rfl)
  (ht:eval (.Call (.Attribute o "plus" apos) [e] [] pos) X.env=(eval o X.env >>= λov=>standAt apos.atName >>= λ_=>holding [ov] (getMethod ov "plus" pl) >>= λr=>callWith pos r.1 r.2 (backTo pos (starEach [e] X.env)) (backToKw pos (keywordEach [] X.env))):=by rfl):
  JE X (.Call (.Attribute o "plus" apos) [e] [] pos) (λσ H Q=>ta σ H λx H1=>∃a u,x=.ref a/\ZV h.CN h.CE H1 a u/\zW u/\t σ H1 λvs H2=>∃o v,vs=[.ref o]/\ZV h.CN h.CE H2 a u/\ZV h.CN h.CE H2 o v/\zW v/\∀H' r,Same H2 H'->ZV h.CN h.CE H' r (zp u v)->Q (.ref r) H'):=
 Vr (uP (uO he) h.cN.cl h.nP.me (h.gNP B T) hr h.nP.bi h.cE.cl h.eP.me (h.gEP B T) (hr.mono (by decide)) h.eP.bi (qbn ha) hst rfl ht) λσ H Q q=>⟨_,q,λx H1 ⟨a,u,e,i,hu,q1⟩=>by
  subst e
  exact Gq (t:=aWk t) i hu ⟨_,q1,λvs H2 z=>z⟩ λR R' k ⟨G,g,z⟩=>⟨G,g,λvs H2 y=>k vs H2 (z vs H2 y)⟩⟩
def Wl(CN CE:Addr)(H:Hp)(as:List Addr)(ws:List W):Prop:=as.length=ws.length/\∀(i:Nat) (a:Addr) (u:W),as[i]?=some a->ws[i]?=some u->ZV CN CE H a u
def vW(K:zdW)(CN CE:Addr):Sp:=λvs H Q _=>∃(l:Addr) (as:List Addr) (ws:List W),vs=[.ref l]/\SqL K H l (as.map V.ref)/\Wl CN CE H as ws/\(∀u∈ws,zW u)/\∀H' r,Same H H'->ZV CN CE H' r (Qi ws)->Q (.ref r) H'
theorem YN:qt ["worths","total","worth"] ["worths"] (qj Xg):=zdV
theorem Vw{ws:List W}(h:∀u∈ws,zW u)(i:Nat):zW ((ws.take i).foldl zp (.num 0)):=by
 have h':∀u∈ws.take i,zW u:=λu hu=>h u (zbz hu)
 rw[Uw h']
 exact xL h'
theorem ub{f:Addr}{fd:zea}(F:jK K "sum_of" "sum_of" Xg f fd)(h:WF K mg)(B:QO mg)(T:Wk K mg):qo P w K mg base qH 7 f fd ["worths"] (vW K h.CN h.CE):=by
 refine F.okJ YN (λvs H Q E z=>?_) (λcdv A outer s H vs Q E hr z=>?_)
 ·obtain⟨l,as,ws,rfl,_⟩:=z
  rfl
 ·obtain⟨l,as,ws,rfl,hS,hW,hok,q⟩:=z
  refine⟨_,qg (qx (i:=1) YN.nd rfl (Or.inl rfl) (JZ h.cN.mkr (h.gNI B T) (hr.mono (by decide)) (by rfl) h.cN.ns h.cN.bi .nil QR (qd qk qf)))
   (qg (ja PassesOwn.never rfl (qJ (jv 0)) (qw (i:=2) YN.nd rfl (Or.inl rfl)) (qh (qx (i:=1) YN.nd rfl (Or.inl rfl) (RA h B T hr (jv 1) (qd (jv 2) qf)))))
   (qh (qy (jv 1)))),?_⟩
  intro x dx hx hd hne
  refine⟨x,dx,0,rfl,by decide,by decide,qe,rfl,?_⟩
  obtain⟨s1,i1⟩:=Vi (CN:=h.CN) (CE:=h.CE) (n:=0) hx hd hne
  refine⟨_,rfl,l,rfl,⟨_,s1.seq hS⟩,?_⟩
  refine jx (K:=K) (a:=l) (xs:=as.map V.ref) (λi σ H'=>∃r v,σ=[some (.ref l),some (.ref r),v]/\Same H H'/\ZV h.CN h.CE H' r ((ws.take i).foldl zp (.num 0))) ⟨x,none,rfl,s1,i1⟩ (λi σ H' _ ⟨_,_,_,e,_⟩=>e.seq hS) ?_ ?_
  ·rintro i y σ H' hy ⟨r,v,rfl,s2,i2⟩
   rw[tG]at hy
   cases ea:as[i]? with
   | none=>rw[ea]at hy;cases hy
   | some o=>
    rw[ea]at hy
    obtain rfl:=(tO.inj hy).symm
    have hi:i < ws.length:=by
     have:=(tw.mp ea).1
     rw[hW.1]at this
     exact this
    have ew:ws[i]?=some ws[i]:=tE hi
    have io:=(hW.2 i o _ ea ew).same s2
    have et:ws.take (i+1)=ws.take i++[ws[i]]:=by rw[tP,ew];rfl
    refine⟨_,rfl,r,_,rfl,i2,Vw hok i,_,rfl,o,_,rfl,i2,io,hok _ (zbu hi),λH3 r3 s3 i3=>?_⟩
    refine⟨r3,_,rfl,s2.trans s3,?_⟩
    rw[et,zcw]
    exact i3
  ·rintro σ H' ⟨r,v,rfl,s2,i2⟩
   refine⟨_,rfl,q _ _ s2 ?_⟩
   rw[tj,hW.1,tF (tz _),Uw hok]at i2
   exact i2
def ZJ:W->Str
 | .num n=>if n=0 then "lost" else "won"
 | .edl b=>if b.testBit 0=true then "won" else "drawn"
def xZ(CN CE:Addr):Sp:=λvs H Q _=>∃a n,vs=[.ref a]/\ZV CN CE H a (.num n)/\Q (.str (ZJ (.num n))) H
def x3(CN CE:Addr):Sp:=λvs H Q _=>∃a b,vs=[.ref a]/\ZV CN CE H a (.edl b)/\b < 65536/\∀H',Same H H'->Q (.str (ZJ (.edl b))) H'
theorem N2:qt ["self"] ["self"] (qj kB):=zdV
theorem N5:qt ["self"] ["self"] (qj kE):=zdV
theorem WF.gNO(h:WF K mg):qo P w K mg base qH 1 h.fNO h.dNO ["self"] (xZ h.CN h.CE):=by
 refine h.nO.fn.okJ N2 (λvs H Q E z=>?_) (λcdv A outer s H vs Q E hr z=>?_)
 ·obtain⟨a,n,rfl,_⟩:=z
  rfl
 ·obtain⟨a,n,rfl,⟨dx,e⟩,q⟩:=z
  refine⟨_,qg (qM (qv jL (Q7 (jv 0) rfl) qk (qA _)) (qh (qy qE)) qB) (qh (qy qE)),?_⟩
  refine⟨_,rfl,a,h.CN,dx,_,_,rfl,e,h.cN.cl,h.cN.na,lk1,rfl,_,rfl,?_⟩
  have q:Q (.str (if n=0 then "lost" else "won")) H:=q
  by_cases c:n=0
  ·subst c
   rw[if_pos rfl]at q
   exact jn (by decide) q
  ·rw[if_neg c]at q
   exact jh (decide_eq_false λz=>c (by have:=V.int.inj z;omega)) q
theorem WF.gEO(h:WF K mg)(B:QO mg):qo P w K mg base qH 2 h.fEO h.dEO ["self"] (x3 h.CN h.CE):=by
 have GN:qo P w K mg base qH 1 h.fN h.dN ["bits"] WV:=Ue h.hN.fn B
 refine h.eO.fn.okJ N5 (λvs H Q E z=>?_) (λcdv A outer s H vs Q E hr z=>?_)
 ·obtain⟨a,b,rfl,_⟩:=z
  rfl
 ·obtain⟨a,b,rfl,⟨dx,e⟩,hb,q⟩:=z
  refine⟨_,qg (qM (qv Jz qk (qF h.hN GN hr (by rfl) (qd (Q7 (jv 0) rfl) qf)) (by with_unfolding_all rfl)) (qh (qy qE)) qB) (qh (qy qE)),?_⟩
  refine⟨_,rfl,a,h.CE,dx,_,_,rfl,e,h.cE.cl,h.cE.na,lk1,b,rfl,hb,λl hl=>?_⟩
  refine⟨l,_,rfl,.inl (.of qe),rfl,zx _,_,rfl,?_⟩
  have e0:ZF (.int ((0:Nat):Int)) (ZG (memN b 16))=b.testBit 0:=by
   rw[XQ]
   unfold memN
   rw[zbg,decide_eq_true_iff,zad]
   exact⟨λh=>h.2,λh=>⟨by decide,h⟩⟩
  have q:=q _ (ql (o:=HO.lst (ZG (memN b 16))) hl)
  have q:Q (.str (if b.testBit 0=true then "won" else "drawn")) (upd H l (HO.lst (ZG (memN b 16)))):=q
  show if ZF (.int ((0:Nat):Int)) (ZG (memN b 16))=true then _ else _
  rw[e0]
  cases c:b.testBit 0 with
  | true=>rw[if_pos c]at q;exact j3 q
  | false=>rw[if_neg (by rw[c];exact tN)]at q;exact ji q
theorem n7:((zdX "outcome")==(zdX "number"))=false:=by decide+kernel
theorem n8:((zdX "outcome")==(zdX "bits"))=false:=by decide+kernel
theorem Gv{CN CE a:Addr}{H:Hp}{w:W}{Q:VK}(h:ZV CN CE H a w)(ok:zW w)(q:∀H',Same H H'->Q (.str (ZJ w)) H'):
  ∃a' dx fs,V.ref a=.ref a'/\fs.lookup (zdX "outcome")=none/\((H a'=some (.ins CN dx fs)/\xZ CN CE [V.ref a] H Q E0)\/(H a'=some (.ins CE dx fs)/\x3 CN CE [V.ref a] H Q E0)):=by
 cases w with
 | num n=>obtain⟨dx,e⟩:=id h;exact⟨a,dx,_,rfl,Mp n7,.inl ⟨e,a,n,rfl,h,q H λ_ _ z=>z⟩⟩
 | edl b=>obtain⟨dx,e⟩:=id h;exact⟨a,dx,_,rfl,Mp n8,.inr ⟨e,a,b,rfl,h,ok,q⟩⟩
theorem RB{X:Cx}(h:WF X.K X.mg)(B:QO X.mg)(hr:qU 2 X.A){o:Expr}{ta:TE}{apos pos:Pos}{pl:Sem Bool}(he:JE X o ta)
  (ht:eval (.Call (.Attribute o "outcome" apos) [] [] pos) X.env=(eval o X.env >>= λov=>standAt apos.atName >>= λ_=>holding [ov] (getMethod ov "outcome" pl) >>= λr=>callWith pos r.1 r.2 (backTo pos (starEach [] X.env)) (backToKw pos (keywordEach [] X.env))):=by rfl):
  JE X (.Call (.Attribute o "outcome" apos) [] [] pos) (λσ H Q=>ta σ H λx H1=>∃a u,x=.ref a/\ZV h.CN h.CE H1 a u/\zW u/\∀H',Same H1 H'->Q (.str (ZJ u)) H'):=
 Vr (WB (uO he) h.cN.cl h.nO.me h.gNO (hr.mono (by decide)) h.nO.bi h.cE.cl h.eO.me (h.gEO B) hr h.eO.bi ht) λσ H Q q=>⟨_,q,λx H1 ⟨a,u,e,i,k,q1⟩=>by subst e;exact Gv i k q1⟩
end
open PySem L2 PyProof.Rows MLab Rb
abbrev zS:Stmt:=top 26
abbrev Zj:Stmt:=top 29
abbrev sLW:Stmt:=top 53
abbrev Gd:Stmt:=top 55
structure jH(H:Hp)(h:Addr)(rs:qV)(hs:List Str):Prop where
 at_:H h=some (.lst (hs.map V.str))
 le:hs.length<=8
 in_:∀z∈hs,∃r∈rs,r.1=z
theorem jH.mono{H H':Hp}{h:Addr}{rs:qV}{hs:List Str}(x:jH H h rs hs)(s:Same H H'):jH H' h rs hs:=⟨s _ _ x.at_,x.le,x.in_⟩
def ka(CG:Addr):Sp:=λvs H Q _=>∃(g:Addr) (rs:qV) (z:Str),vs=[.ref g,.str z]/\Qu CG H g rs/\(∃r∈rs,r.1=z)/\∀H',Same H H'->Q .non H'
def Zw(CG:Addr):Sp:=λvs H Q _=>∃(g h:Addr) (rs:qV) (hs:List Str),vs=[.ref g,.ref h]/\Qu CG H g rs/\jH H h rs hs/\∀H',Same H H'->Q .non H'
def TK(H H':Hp):Prop:=∀a xs,H a=some (.tup xs)->H' a=some (.tup xs)
theorem TK.of{H H':Hp}(s:Same H H'):TK H H':=λa xs h=>s _ _ h
theorem TK.upd{H:Hp}{d:Addr}{o u:HO}(hd:H d=some o)(no:∀xs,o≠.tup xs):TK H (upd H d u):=λa xs h=>by
 rw[qi (λe=>by rw[e,hd]at h;exact no xs (tO.inj h))]
 exact h
def j8(rs:qV)(z:Str):List Str:=match rs.find? (λr=>decide (r.1=z)) with
 | some r=>r.2
 | none=>[]
theorem zu{rs:qV}{r:Str×List Str}(hn:(rs.map (·.1)).Nodup)(h:r∈rs):j8 rs r.1=r.2:=by
 unfold j8
 rw[XS hn h]
theorem qP{rs:qV}(g:qC rs){z y:Str}(hz:z∈rs.map (·.1)):y∈j8 rs z↔y∈Jd rs z:=by
 obtain⟨r,hr,rfl⟩:=tL.mp hz
 rw[zu g.nd hr,kZ g hr]
theorem qcD{rs:qV}(g:qC rs){num:Str->Option Nat}{stp:Str->Nat}(L:VD (Jd rs) (·∈rs.map (·.1)) num stp):VD (j8 rs) (·∈rs.map (·.1)) num stp where
 cl:=λ{x y} hx hy=>L.cl hx ((qP g hx).mp hy)
 n1:=λ{x n m} hx e lt=>let ⟨y,hy,k⟩:=L.n1 hx e lt;⟨y,(qP g hx).mpr hy,k⟩
 n2:=λ{x y n} hx e hy=>L.n2 hx e ((qP g hx).mp hy)
 n3:=λ{x y n} hx e hy gt=>let ⟨z,hz,k⟩:=L.n3 hx e ((qP g hx).mp hy) gt;⟨z,(qP g (L.cl hx ((qP g hx).mp hy))).mpr hz,k⟩
 n4:=λ{x y n m} hx e hy=>L.n4 hx e ((qP g hx).mp hy)
 e:=λ{x m} hx e lo hi=>by
  obtain⟨y,hy,ey,ly⟩:=L.e hx e (λj hj=>let ⟨y,hy,k⟩:=lo j hj;⟨y,(qP g hx).mp hy,k⟩) (λy hy=>hi y ((qP g hx).mpr hy))
  exact⟨y,(qP g hx).mpr hy,ey,λz hz=>ly z ((qP g (L.cl hx hy)).mp hz)⟩
section
variable{P:Program}{w:World}{K:zdW}{mg:Str->Option Value}{base:Heap}
abbrev Mt:List Str:=["ground","thing"]
theorem qca:qt Mt Mt (qj zS):=zdV
theorem ud{f CG:Addr}{fd:zea}(F:jK K "need_place" "need_place" zS f fd)(G:QM mg)(M:GM K mg CG):qo P w K mg base qH 2 f fd Mt (ka CG):=by
 obtain⟨fC,fdC,C⟩:=M.cls
 obtain⟨fN,fdN,hN⟩:=M.nm
 have GN:qo P w K mg base qH 1 fN fdN ["self"] (ze CG):=zV hN.fn C G
 refine F.okJ qca (λvs H Q E h=>?_) (λcdv A outer s H vs Q E hr h=>?_)
 ·obtain⟨g,rs,z,rfl,_⟩:=h
  rfl
 ·obtain⟨g,rs,z,rfl,gr,hz,q⟩:=h
  refine⟨_,qh (qM (qv JR (jv 1) (uR hN C.cl GN hr (jv 0)) (by with_unfolding_all rfl)) qS qB),?_⟩
  obtain⟨dx,fs,hg,l1,l2⟩:=gr.ins
  refine⟨_,rfl,_,rfl,g,dx,fs,rfl,hg,l1,g,rs,rfl,gr,λl hl=>⟨l,_,rfl,.inl (.of qe),rfl,ZH _,_,rfl,?_⟩⟩
  have e:ZF (.str z) ((rs.map (·.1)).map V.str)=true:=Vs (by obtain⟨r,hr',rfl⟩:=hz;exact tL.mpr ⟨r,hr',rfl⟩)
  show if (!ZF (.str z) ((rs.map (·.1)).map V.str))=true then _ else _
  rw[e]
  exact ji (q _ (ql hl))
abbrev nNH:List Str:=["ground","heap","thing"]
theorem qaJ:qt nNH ["ground","heap"] (qj Zj):=zdV
theorem Uf{f fP CG:Addr}{fd fdP:zea}(F:jK K "need_heap" "need_heap" Zj f fd)(B:QO mg)(G:QM mg)(T:Qt K mg)(M:GM K mg CG)(hP:qQ K mg "need_place" zS Mt fP fdP)(mt:∃t,mg "MOST_TOKENS"=some (.int 8 t)):qo P w K mg base qH 3 f fd ["ground","heap"] (Zw CG):=by
 have GP:qo P w K mg base qH 2 fP fdP Mt (ka CG):=ud hP.fn G M
 obtain⟨tk,hmt⟩:=mt
 refine F.okJ qaJ (λvs H Q E h=>?_) (λcdv A outer s H vs Q E hr h=>?_)
 ·obtain⟨g,h',rs,hs,rfl,_⟩:=h
  rfl
 ·obtain⟨g,h',rs,hs,rfl,gr,hh,q⟩:=h
  refine⟨_,qg (qM (Qn (jl (qD jc (by rfl) T.isi boot_isinstance (qd (jv 1) (qd (jW (v:=.ty "list") (by rfl) G.lst boot_list rfl) qf))))) qS qB)
   (qg (qM (qv XA (qD qZ (by rfl) B.len boot_len (qd (jv 1) qf)) (Jj (v:=.int 8) (by rfl) hmt ⟨_,rfl⟩) (qA _)) qS qB)
   (qh (ja PassesOwn.never rfl (qJ (jv 1)) (qw (i:=2) qaJ.nd rfl (Or.inl rfl)) (qh (je (qF hP GP hr (by rfl) (qd (jv 0) (qd (jv 2) qf)))))))),?_⟩
  refine⟨_,rfl,_,_,_,_,rfl,rfl,.lst hh.at_,T.kll,_,rfl,ji ?_⟩
  refine⟨_,rfl,h',_,rfl,.inl (.of hh.at_),_,_,rfl,rfl,_,rfl,jh (decide_eq_false ?_) ?_⟩
  ·have:=hh.le
   rw[tj]
   omega
  refine⟨_,rfl,h',rfl,⟨_,.of hh.at_⟩,?_⟩
  refine jx (K:=K) (a:=h') (xs:=hs.map V.str) (λi σ' G=>∃v,σ'=[some (.ref g),some (.ref h'),v]/\Same H G) ⟨_,rfl,Same.refl H⟩ (λi σ' G _ ⟨_,_,s⟩=>.of (s _ _ hh.at_)) ?_ ?_
  ·rintro i y σ' G hy ⟨v,rfl,sG⟩
   obtain⟨z,ez,hz,rfl⟩:=j9 hy
   exact⟨_,rfl,_,rfl,g,rs,z,rfl,gr.mono sG,hh.in_ z hz,λH' s'=>⟨_,rfl,sG.trans s'⟩⟩
  ·rintro σ' G ⟨v,rfl,sG⟩
   exact q G sG
end
def wT(rs:qV)(R:Rs Str)(z:Str):W:=match qI R z with
 | some n=>.num n
 | none=>.edl (setN (ZQ rs (qI R) z))
theorem zI{rs:qV}{R:Rs Str}{z:Str}{n:Nat}(e:qI R z=some n):wT rs R z=.num n:=by unfold wT;rw[e]
theorem Zg{rs:qV}{R:Rs Str}{z:Str}(e:qI R z=none):wT rs R z=.edl (setN (ZQ rs (qI R) z)):=by unfold wT;rw[e]
theorem Ni{rs:qV}(good:qC rs){R:Rs Str}(L:VD (Jd rs) (·∈rs.map (·.1)) (qI R) (Jc R)){z:Str}(hz:z∈rs.map (·.1)):zW (wT rs R z):=by
 cases e:qI R z with
 | some n=>
  rw[zI e]
  have:=XE good L hz e
  show n < 16
  omega
 | none=>
  rw[Zg e]
  show setN _ < 65536
  refine kr (m:=16) λx hx=>?_
  obtain⟨y,hy,ey⟩:=Ql.mp hx
  have:=XE good L (L.cl hz hy) ey
  omega
theorem Yf(ns:List Nat):jS ns=jY ns:=by
 induction ns with
 | nil=>rfl
 | cons n ns ih=>rw[Yh,ih,Zv]
theorem Wx{rs:qV}{R:Rs Str}:∀hs:List Str,Q4 (hs.map (wT rs R))=nums (qI R) hs
 | []=>rfl
 | z::hs=>by
  unfold Q4 nums
  rw[tU,zas,zas]
  have ih:=Wx (rs:=rs) (R:=R) hs
  unfold Q4 nums at ih
  cases e:qI R z with
  | some n=>rw[zI e,ih]
  | none=>rw[Zg e,ih]
theorem zP{rs:qV}{R:Rs Str}:∀hs:List Str,(j6 (hs.map (wT rs R))).length=ends (qI R) hs
 | []=>rfl
 | z::hs=>by
  unfold j6 ends
  rw[tU,zas,zbt]
  have ih:=zP (rs:=rs) (R:=R) hs
  unfold j6 ends at ih
  cases e:qI R z with
  | some n=>rw[zI e];exact ih
  | none=>rw[Zg e];show _+1=_+1;rw[ih]
theorem yD{rs:qV}{R:Rs Str}{p q:List Str}{x:Str}(ex:qI R x=none)(he:ends (qI R) (p++q)=0):j6 ((p++x::q).map (wT rs R))=[setN (ZQ rs (qI R) x)]:=by
 have h1:j6 ((p++q).map (wT rs R))=[]:=zaC (by rw[zP];exact he)
 unfold j6 at h1 ⊢
 rw[tI,zap,List.append_eq_nil_iff]at h1
 rw[tI,tU,zap,zas,Zg ex,h1.1,h1.2]
 rfl
theorem wQ{rs:qV}(good:qC rs){R:Rs Str}(L:VD (Jd rs) (·∈rs.map (·.1)) (qI R) (Jc R)){hs:List Str}(hk:∀z∈hs,z∈rs.map (·.1)):
  (X3 (mv (j8 rs)) hs/\ZJ (Qi (hs.map (wT rs R)))="lost")\/(Won (mv (j8 rs)) hs/\ZJ (Qi (hs.map (wT rs R)))="won")\/(¬X3 (mv (j8 rs)) hs/\¬Won (mv (j8 rs)) hs/\ZJ (Qi (hs.map (wT rs R)))="drawn"):=by
 have LL:=qcD good L
 have hl:=zP (rs:=rs) (R:=R) hs
 have en:jS (Q4 (hs.map (wT rs R)))=jY (nums (qI R) hs):=by rw[Wx,Yf]
 rw[Um LL hk,KE LL hk]
 rcases zaJ (ends (qI R) hs) 1 with c | c | c
 ·have he:ends (qI R) hs=0:=by omega
  rw[he]at hl
  have e0:j6 (hs.map (wT rs R))=[]:=zaC hl
  have et:Qi (hs.map (wT rs R))=.num (jY (nums (qI R) hs)):=by unfold Qi;rw[e0,<-en]
  have nd:¬Drawn (j8 rs) (qI R) hs:=by
   rintro(⟨p,x,q,rfl,ex,_⟩ | h)
   ·rw[jR ex]at he;omega
   ·omega
  rw[et]
  by_cases x0:jY (nums (qI R) hs)=0
  ·exact .inl ⟨⟨he,x0⟩,if_pos x0⟩
  ·exact .inr (.inl ⟨⟨nd,λz=>x0 z.2⟩,if_neg x0⟩)
 ·obtain⟨p,x,q,rfl,ex⟩:=Zp.mp (by omega:0 < ends (qI R) hs)
  rw[jR ex]at c
  have he:ends (qI R) (p++q)=0:=by omega
  have hx:x∈rs.map (·.1):=hk x (by simp)
  have lt:jY (nums (qI R) (p++x::q)) < 16:=by
   rw[<-Yf]
   refine zH λn hn=>?_
   obtain⟨z,hz,ez⟩:=zaF.mp hn
   have:=XE good L (hk z hz) ez
   omega
  have et:Qi ((p++x::q).map (wT rs R))=.edl (turnN (setN (ZQ rs (qI R) x)) (jY (nums (qI R) (p++x::q))) 16):=by
   unfold Qi
   rw[yD ex he,<-en]
  have nz:¬YB (qI R) (p++x::q):=λz=>by have:=z.1;rw[jR ex]at this;omega
  have eb:(turnN (setN (ZQ rs (qI R) x)) (jY (nums (qI R) (p++x::q))) 16).testBit 0=decide (jY (nums (qI R) (p++q))∈ZQ rs (qI R) x):=by
   rw[Qj lt,zcx,testBit_setN,XD ex]
   simp
  rw[et]
  by_cases m:jY (nums (qI R) (p++q))∈ZQ rs (qI R) x
  ·refine .inr (.inl ⟨⟨?_,nz⟩,?_⟩)
   ·obtain⟨y,hy,ey⟩:=Ql.mp m
    have ly:y∈j8 rs x:=(qP good hx).mpr hy
    intro d
    have zb:YB (qI R) (p++y::q):=⟨by rw[jD ey];exact he,by rw[j7 ey,zbY]⟩
    exact XV d ((jT _).mpr ⟨p,x,y,q,rfl,ly,rfl⟩) zb
   ·show (if _ then _ else _)=_
    rw[eb,if_pos (decide_eq_true m)]
  ·have d:Drawn (j8 rs) (qI R) (p++x::q):=.inl ⟨p,x,q,rfl,ex,he,λy hy ey=>m (Ql.mpr ⟨y,(qP good hx).mp hy,ey⟩)⟩
   refine .inr (.inr ⟨nz,λh=>h.1 d,?_⟩)
   show (if _ then _ else _)=_
   rw[eb,decide_eq_false m]
   rfl
 ·have d:Drawn (j8 rs) (qI R) hs:=.inr (by omega)
  have nz:¬YB (qI R) hs:=λz=>by have:=z.1;omega
  have et:Qi (hs.map (wT rs R))=.edl 0:=by
   unfold Qi
   cases e:j6 (hs.map (wT rs R)) with
   | nil=>rw[e]at hl;simp at hl;omega
   | cons a t=>
    cases t with
    | nil=>rw[e]at hl;simp at hl;omega
    | cons b t=>rfl
  rw[et]
  exact .inr (.inr ⟨nz,λh=>h.1 d,rfl⟩)
def NW(CN CE:Addr):Sp:=λvs H Q _=>∃(t:Addr) (rs:qV) (R:Rs Str) (z:Str),vs=[.ref t]/\H t=some (.tup (QX rs R z))/\zW (wT rs R z)/\∀a H',Same H H'->ZV CN CE H' a (wT rs R z)->Q (.ref a) H'
def Np(CN CE:Addr):Sp:=λvs H Q _=>∃(D h:Addr) (rs:qV) (R:Rs Str) (hs:List Str),vs=[.ref D,.ref h]/\jG H D rs R/\jH H h rs hs/\(∀z∈hs,zW (wT rs R z))/\∀a H',Same H H'->ZV CN CE H' a (Qi (hs.map (wT rs R)))->Q (.ref a) H'
section
variable{P:Program}{w:World}{K:zdW}{mg:Str->Option Value}{base:Heap}
theorem qcc:qt ["label"] ["label"] (qj sLW):=zdV
theorem qa1{f:Addr}{fd:zea}(F:jK K "label_worth" "label_worth" sLW f fd)(h:WF K mg)(B:QO mg)(T:Wk K mg):qo P w K mg base qH 5 f fd ["label"] (NW h.CN h.CE):=by
 refine F.okJ qcc (λvs H Q E z=>?_) (λcdv A outer s H vs Q E hr z=>?_)
 ·obtain⟨t,rs,R,z,rfl,_⟩:=z
  rfl
 ·obtain⟨t,rs,R,z,rfl,ht,ok,q⟩:=z
  refine⟨_,qg (qM (qv jL (qT qR (jv 0) qk (λ_ _=>rfl)) qE (qA _)) (qh (qy (JZ h.cN.mkr (h.gNI B T) hr (by rfl) h.cN.ns h.cN.bi .nil QR (qd (qT qR (jv 0) qk (λ_ _=>rfl)) qf)))) qB)
   (qh (qy (JZ h.cE.mkr (h.gEI B T) hr (by rfl) h.cE.ns h.cE.bi .nil QR (qd (qT qR (jv 0) qk (λ_ _=>rfl)) qf)))),?_⟩
  cases e:qI R z with
  | some n=>
   rw[zI e]at ok q
   have el:QX rs R z=[.str "number",.int (n:Nat),.int (Jc R z:Nat)]:=by unfold QX;rw[e]
   rw[el]at ht
   refine⟨_,rfl,t,_,0,_,rfl,rfl,.of ht,rfl,rfl,_,rfl,jn (by decide+kernel) ?_⟩
   refine⟨_,rfl,t,_,1,_,rfl,rfl,.of ht,rfl,λx dx hx hd hne=>⟨x,dx,_,rfl,by omega,?_,qe,rfl,?_⟩⟩
   ·have:n < 16:=ok
    omega
   ·obtain⟨s1,i1⟩:=Vi (CN:=h.CN) (CE:=h.CE) (n:=n) hx hd hne
    exact q _ _ s1 i1
  | none=>
   rw[Zg e]at ok q
   have el:QX rs R z=[.str "endless",.int (setN (ZQ rs (qI R) z):Nat)]:=by unfold QX;rw[e]
   rw[el]at ht
   refine⟨_,rfl,t,_,0,_,rfl,rfl,.of ht,rfl,rfl,_,rfl,jh (by decide+kernel) ?_⟩
   refine⟨_,rfl,t,_,1,_,rfl,rfl,.of ht,rfl,λx dx hx hd hne=>⟨x,dx,_,rfl,by omega,?_,qe,rfl,?_⟩⟩
   ·have:setN (ZQ rs (qI R) z) < 65536:=ok
    omega
   ·obtain⟨s1,i1⟩:=Vj (CN:=h.CN) (CE:=h.CE) (b:=setN (ZQ rs (qI R) z)) hx hd hne
    exact q _ _ s1 i1
theorem qaG:qt ["labels","heap"] ["labels","heap"] (qj Gd):=zdV
theorem Mi{f fL fS:Addr}{fd fdL fdS:zea}(F:jK K "worth_by" "worth_by" Gd f fd)(h:WF K mg)(B:QO mg)(T:Wk K mg)(hL:qQ K mg "label_worth" sLW ["label"] fL fdL)(hS:qQ K mg "sum_of" Xg ["worths"] fS fdS):qo P w K mg base qH 8 f fd ["labels","heap"] (Np h.CN h.CE):=by
 have GL:qo P w K mg base qH 5 fL fdL ["label"] (NW h.CN h.CE):=qa1 hL.fn h B T
 have GS:qo P w K mg base qH 7 fS fdS ["worths"] (vW K h.CN h.CE):=ub hS.fn h B T
 refine F.okJ qaG (λvs H Q E z=>?_) (λcdv A outer s H vs Q E hr z=>?_)
 ·obtain⟨D,h',rs,R,hs,rfl,_⟩:=z
  rfl
 ·obtain⟨D,h',rs,R,hs,rfl,lb,hh,ok,q⟩:=z
  have hu:=jX hr
  have r4:qU 5 _:=hr.mono (by decide)
  refine⟨_,qh (qy (qF hS GS hr (by rfl) (qd (j4 (N':=["place","labels"]) (ix:=[none,some 0]) (te:=ZO (NW h.CN h.CE) [] E0 (jk (Y9 (jd 1) (jd 0)) QT)) rfl ⟨rfl,rfl,rfl,rfl,rfl⟩ (qJ (jv 1)) (λC s2 H2 fp pins=>
    ⟨qw (i:=0) (show (["place","labels"]:List Str).Nodup by decide+kernel) rfl (Or.inl rfl),jN,qF hL GL r4 (by rfl) (qd (qW hu (jv 1) (jv 0) (λ_ _=>rfl)) qf)⟩)) qf))),?_⟩
  refine⟨_,rfl,h',rfl,⟨_,.of hh.at_⟩,λW hW=>?_⟩
  refine j2 (K:=K) (a:=h') (xs:=hs.map V.str) (λj σ'' G=>∃(v0:Option V) (as:List Addr),σ''=[v0,some (.ref D)]/\Same H G/\G W=some (.lst (as.map V.ref))/\Wl h.CN h.CE G as ((hs.take j).map (wT rs R)))
   ⟨none,[],rfl,ql hW,qe,rfl,λi a u e=>(nomatch e)⟩ (λj σ'' G _ ⟨_,_,_,s,_⟩=>.of (s _ _ hh.at_)) ?_ ?_
  ·rintro j y σ'' G hy ⟨v0,as,rfl,sG,hG,wl⟩
   obtain⟨z,ez,hz,rfl⟩:=j9 hy
   obtain⟨kvs,hD,_,hv⟩:=(lb.mono sG).at_
   obtain⟨r,hr',er⟩:=hh.in_ z hz
   obtain⟨t,et,ht⟩:=hv r hr'
   rw[er]at et ht
   refine⟨_,rfl,_,rfl,D,_,rfl,by rw[<-et];exact jZ.k (k:=(Sum.inr z:qN)) hD,t,rs,R,z,rfl,ht,ok z hz,λa G1 s1 ia=>?_⟩
   have l8:=hh.le
   have lw:=wl.1
   rw[tj,tW]at lw
   have nW:H W=none:=hW
   refine⟨_,s1 _ _ hG,by rw[tj];exact qp (by omega),_,as++[a],rfl,Same.upd (sG.trans s1) hW,by rw[tI];exact qe,?_⟩
   have up:∀{b:Addr} {u:Rb.W},ZV h.CN h.CE G1 b u->ZV h.CN h.CE (upd G1 W (.lst (as.map V.ref++[V.ref a]))) b u:=λ{b u} hb=>by
    have hW1:=s1 _ _ hG
    cases u with
    | num n=>obtain⟨dx,e⟩:=hb;exact⟨dx,by rw[qi (λq=>by rw[q,hW1]at e;cases e)];exact e⟩
    | edl n=>obtain⟨dx,e⟩:=hb;exact⟨dx,by rw[qi (λq=>by rw[q,hW1]at e;cases e)];exact e⟩
   rw[tP,ez,tI]
   refine⟨by rw[tH,tH,wl.1];rfl,λi b u e1 e2=>?_⟩
   rcases QV e1 with ⟨i1,e1⟩ | ⟨i1,rfl⟩
   ·rcases QV (show (zdQ (wT rs R) (hs.take j)++[wT rs R z])[i]?=some u from e2) with ⟨_,e2⟩ | ⟨i2,_⟩
    ·exact up ((wl.2 i b u e1 e2).same s1)
    ·have:=wl.1;omega
   ·rcases QV (show (zdQ (wT rs R) (hs.take j)++[wT rs R z])[i]?=some u from e2) with ⟨i2,_⟩ | ⟨_,rfl⟩
    ·have:=wl.1;omega
    ·exact up ia
  ·rintro σ'' G ⟨v0,as,rfl,sG,hG,wl⟩
   rw[tj,tF (tz _)]at wl
   refine⟨W,as,_,rfl,.of hG,wl,λu hu=>?_,λH' r s' i'=>q r H' (sG.trans s') i'⟩
   obtain⟨z,hz,rfl⟩:=tL.mp hu
   exact ok z hz
structure Kt(K:zdW)(mg:Str->Option Value):Prop where
 place:∃f fd,qQ K mg "need_place" zS Mt f fd
 heap:∃f fd,qQ K mg "need_heap" Zj ["ground","heap"] f fd
 lw:∃f fd,qQ K mg "label_worth" sLW ["label"] f fd
 sum:∃f fd,qQ K mg "sum_of" Xg ["worths"] f fd
 wby:∃f fd,qQ K mg "worth_by" Gd ["labels","heap"] f fd
 most:∃t,mg "MOST_TOKENS"=some (.int 8 t)
end
open PySem L2 PyProof.Rows MLab Rb
abbrev Zl:Stmt:=top 30
abbrev Ym:Stmt:=top 31
abbrev yH:Stmt:=top 56
abbrev kz:Stmt:=top 57
abbrev W5:Stmt:=top 74
def mvT(rs:qV)(j:Nat)(z:Str):List (Nat×Str):=(Jd rs z).map λe=>(j,e)
def mvs(rs:qV)(hs:List Str)(n:Nat):List (Nat×Str):=(zab n).flatMap λj=>mvT rs j (zG hs j)
theorem XG(rs:qV)(hs:List Str)(n:Nat):mvs rs hs (n+1)=mvs rs hs n++mvT rs n (zG hs n):=by
 unfold mvs
 rw[zcn,List.flatMap_append]
 simp
def X6(m:Nat×Str):List V:=[.int (m.1:Int),.str m.2]
def jM(H:Hp)(ps:List Addr)(ms:List (Nat×Str)):Prop:=ps.length=ms.length/\∀(i:Nat) (p:Addr) (m:Nat×Str),ps[i]?=some p->ms[i]?=some m->H p=some (.tup (X6 m))
theorem jM.mono{H H':Hp}{ps:List Addr}{ms:List (Nat×Str)}(h:jM H ps ms)(s:Same H H'):jM H' ps ms:=⟨h.1,λi p m e1 e2=>s _ _ (h.2 i p m e1 e2)⟩
theorem jM.nil(H:Hp):jM H [] []:=⟨rfl,λi p m e=>by simp at e⟩
theorem jM.app{H:Hp}{ps qs:List Addr}{ms ns:List (Nat×Str)}(h:jM H ps ms)(k:jM H qs ns):jM H (ps++qs) (ms++ns):=by
 refine⟨by rw[tH,tH,h.1,k.1],λi p m e1 e2=>?_⟩
 by_cases hi:i < ps.length
 ·rw[zaf hi]at e1
  rw[zaf (by rw[<-h.1];exact hi)]at e2
  exact h.2 i p m e1 e2
 ·have hi':ps.length<=i:=Nat.le_of_not_lt hi
  rw[zac hi']at e1
  rw[zac (by rw[<-h.1];exact hi'),<-h.1]at e2
  exact k.2 _ p m e1 e2
theorem jM.one{H:Hp}{p:Addr}{m:Nat×Str}(h:H p=some (.tup (X6 m))):jM H [p] [m]:=by
 refine⟨rfl,λi p' m' e1 e2=>?_⟩
 cases i with
 | zero=>cases e1;cases e2;exact h
 | succ i=>simp at e1
theorem ZB{rs:qV}{hs:List Str}(g:qC rs)(le:rs.length<=14)(hi:∀z∈hs,∃r∈rs,r.1=z):∀n,n<=hs.length->(mvs rs hs n).length<=n*14
 | 0,_=>tz _
 | n+1,h=>by
  rw[XG,tH]
  have h1:=ZB g le hi n (zai h)
  obtain⟨r,hr,e⟩:=hi _ (Z8 h)
  have h2:=Vu (rs:=rs) (zG hs n)
  unfold mvT
  rw[tj]
  omega
theorem xn{rs:qV}(g:qC rs){z:Str}(h:∃r∈rs,r.1=z):jq z=true:=by
 obtain⟨r,hr,rfl⟩:=h
 exact g.nm r hr
def kh(CG:Addr):Sp:=λvs H Q _=>∃(g h:Addr) (rs:qV) (hs:List Str),vs=[.ref g,.ref h]/\Qu CG H g rs/\qC rs/\rs.length<=14/\jH H h rs hs/\
 ∀H' l ps,Same H H'->H l=none->H' l=some (.lst (ps.map V.ref))->jM H' ps (mvs rs hs hs.length)->Q (.ref l) H'
def mD(m:Nat×Str):PyData:=.tuple [.int (m.1:Int),.str m.2]
theorem jM.tail{H:Hp}{p:Addr}{ps:List Addr}{m:Nat×Str}{ms:List (Nat×Str)}(h:jM H (p::ps) (m::ms)):jM H ps ms:=⟨zcP.inj h.1,λi a b e1 e2=>h.2 (i+1) a b (by simpa using e1) (by simpa using e2)⟩
theorem NQ{K:zdW}{H:Hp}{p:Addr}{m:Nat×Str}(h:H p=some (.tup (X6 m))):DV K H (.ref p) (mD m):=.tup (.of h) (.cons (.int _) (.cons (.str _) .nil))
theorem Ku{K:zdW}{H:Hp}:∀{ps:List Addr} {ms:List (Nat×Str)},jM H ps ms->DVs K H (ps.map V.ref) (ms.map mD)
 | [],[],_=>.nil
 | [],_::_,h=>by cases h.1
 | _::_,[],h=>by cases h.1
 | p::ps,m::ms,h=>.cons (NQ (h.2 0 p m rfl rfl)) (Ku h.tail)
theorem Km:∀{ms:List (Nat×Str)},(∀m∈ms,jq m.2=true)->PyData.canLayAll0 (ms.map mD)=true
 | [],_=>rfl
 | m::ms,h=>by
  rw[tU,PyData.canLayAll0,Km λy hy=>h y (tY _ hy),Bool.and_true]
  show (true&&(PyData.strOk m.2&&true))=true
  rw[Vk (h m t8)]
  rfl
theorem Jg{rs:qV}{hs:List Str}{n:Nat}{m:Nat×Str}(h:m∈mvs rs hs n):m.1 < n/\m.2∈Jd rs (zG hs m.1):=by
 unfold mvs at h
 obtain⟨j,hj,h2⟩:=List.mem_flatMap.mp h
 obtain⟨e,he,rfl⟩:=tL.mp h2
 exact⟨zaU.mp hj,he⟩
theorem Ui{rs:qV}{hs:List Str}(g:qC rs)(hi:∀z∈hs,∃r∈rs,r.1=z):∀m∈mvs rs hs hs.length,jq m.2=true:=λm hm=>by
 obtain⟨h1,h2⟩:=Jg hm
 obtain⟨r,hr,e⟩:=hi _ (Z8 h1)
 rw[<-e,J4 g.nd hr]at h2
 exact xn g (V9 h2)
def zL:Sp:=λvs H Q _=>∃(h p:Addr) (hs:List Str) (m:Nat×Str),vs=[.ref h,.ref p]/\H h=some (.lst (hs.map V.str))/\H p=some (.tup (X6 m))/\m.1 < hs.length/\∀l,H l=none->Q (.ref l) (upd H l (.lst ((hs.set m.1 m.2).map V.str)))
theorem atI_get{xs:List V}{r:Int}(h0:0<=r)(h1:r < (xs.length:Int)):∃v,vG xs r=some v/\xs[r.toNat]?=some v:=by
 have:r.toNat < xs.length:=by omega
 refine⟨xs[r.toNat],?_,tE this⟩
 unfold vG RI
 rw[if_pos h0,if_pos h1]
 exact tE this
def kj:Sp:=λvs H Q _=>∃(d l:Addr) (mo:Nat) (n s t:Int) (ps:List Addr) (rs:qV),vs=[.ref d,.ref l,.int (mo:Int)]/\H d=some (.dK (src n s t))/\jP H l ps rs/\mo<=8/\
 ∀(D:Addr) (hs:List Str) (n' t':Int) (H':Hp),H D=none->H' D=some (.lst (hs.map V.str))->hs.length<=mo->(∀z∈hs,∃r∈rs,r.1=z)->H' d=some (.dK (src n' s t'))->Fr H d H'->Q (.ref D) H'
theorem jP.fr'{H H':Hp}{l d:Addr}{ps:List Addr}{rs:qV}{kv:List (qN×V)}(h:jP H l ps rs)(hd:H d=some (.dK kv))(s:Fr H d H'):jP H' l ps rs:=by
 refine⟨s _ _ h.at_ (λe=>?_),⟨h.rows.1,λi p r e1 e2=>?_⟩,h.good,h.pos,h.le⟩
 ·have:=h.at_
  rw[e,hd]at this
  cases this
 ·obtain⟨q,a,b⟩:=h.rows.2 i p r e1 e2
  exact⟨q,s _ _ a (λe=>by rw[e,hd]at a;cases a),s _ _ b (λe=>by rw[e,hd]at b;cases b)⟩
section
variable{P:Program}{w:World}{K:zdW}{mg:Str->Option Value}{base:Heap}
abbrev nMo:List Str:=["ground","heap","moves","token","place"]
theorem K7:qt nMo ["ground","heap"] (qj Zl):=zdV
theorem ui{f fH fP CG:Addr}{fd fdH fdP:zea}(F:jK K "moves_of" "moves_of" Zl f fd)(B:QO mg)(G:QM mg)(T:Qt K mg)(M:GM K mg CG)(hP:qQ K mg "need_place" zS Mt fP fdP)(mt:∃t,mg "MOST_TOKENS"=some (.int 8 t))
  (hH:qQ K mg "need_heap" Zj ["ground","heap"] fH fdH):qo P w K mg base qH 4 f fd ["ground","heap"] (kh CG):=by
 obtain⟨fC,fdC,C⟩:=M.cls
 obtain⟨fR,fdR,hR⟩:=M.fr
 obtain⟨fN,fdN,hN⟩:=M.isn
 have GH:qo P w K mg base qH 3 fH fdH ["ground","heap"] (Zw CG):=Uf hH.fn B G T M hP mt
 have GR:qo P w K mg base qH 2 fR fdR ["self","name"] (YL CG):=XC hR.fn C B G T hN
 refine F.okJ K7 (λvs H Q E h=>?_) (λcdv A outer s H vs Q E hr h=>?_)
 ·obtain⟨g,h',rs,hs,rfl,_⟩:=h
  rfl
 ·obtain⟨g,h',rs,hs,rfl,gr,gd,le,hh,q⟩:=h
  have r2:qU 2 (A.deeper (envOfC "moves_of" (qj Zl) s.heap.objs.size f cdv)):=hr.mono (by decide)
  refine⟨_,qg (je (qF hH GH hr (by rfl) (qd (jv 0) (qd (jv 1) qf))))
   (qg (qx (i:=2) K7.nd rfl (Or.inl rfl) (jz qf))
   (qg (ja PassesOwn.never rfl (YW (by rfl) T.enu (qd (jv 1) qf)) (Z4 rfl (jC (qw (i:=3) K7.nd rfl (Or.inr rfl)) (jC (qw (i:=4) K7.nd rfl (Or.inl rfl)) JY)))
    (qh (je (ZS zau zcf zcg zY (jv 2) (qd
     (j4 (N':=["end","token"]) (ix:=[none,some 3]) (te:=yy (jk (jd 1) (jk (jd 0) QT))) rfl ⟨rfl,rfl,rfl,rfl,rfl⟩ (qJ (kW hR C.cl GR r2 (jv 0) (qd (jv 4) qf))) (λC s2 H2 fp pins=>
      ⟨qw (i:=0) (show (["end","token"]:List Str).Nodup by decide+kernel) rfl (Or.inl rfl),jN,jp (qd (jv 1) (qd (jv 0) qf))⟩)) qf)))))
   (qh (qy (jv 2))))),?_⟩
  refine⟨_,rfl,_,rfl,g,h',rs,hs,rfl,gr,hh,λH1 s1=>?_⟩
  refine⟨by show 0<=zeb;decide,λl hl=>?_⟩
  have hl0:H l=none:=by
   cases z:H l with
   | none=>rfl
   | some u=>rw[s1 _ _ z]at hl;cases hl
  have s2:Same H (upd H1 l (.lst [])):=s1.trans (ql hl)
  have hl2:upd H1 l (.lst []) l=some (.lst []):=qe
  generalize upd H1 l (.lst [])=H2 at s2 hl2
  refine⟨_,rfl,h',rfl,⟨_,.of (s2 _ _ hh.at_)⟩,?_⟩
  refine zA (K:=K) (a:=h') (xs:=hs.map V.str) (λi σ' G=>∃v3 v4 ps,σ'=[some (.ref g),some (.ref h'),some (.ref l),v3,v4]/\Same H G/\G l=some (.lst (ps.map V.ref))/\jM G ps (mvs rs hs i))
   ⟨_,_,[],rfl,s2,hl2,jM.nil _⟩ (λi σ' G _ ⟨_,_,_,_,s,_⟩=>.of (s _ _ hh.at_)) ?_ ?_
  ·rintro i y σ' G p hy hp ⟨v3,v4,ps,rfl,sG,hlG,mv⟩
   obtain⟨z,ez,hz,rfl⟩:=j9 hy
   have hi:=(tw.mp ez).1
   have ezz:zG hs i=z:=by
    have:=Zu hi
    rw[ez]at this
    exact(tO.inj this).symm
   refine⟨p,_,rfl,.of qe,rfl,_,_,rfl,_,_,rfl,rfl,?_⟩
   have sP:Same G (upd G p (.tup [.int (i:Nat),.str z])):=ql hp
   have sGP:=sG.trans sP
   have hlP:=sP _ _ hlG
   have mvP:=mv.mono sP
   generalize upd G p (.tup [.int (i:Nat),.str z])=G1 at sP sGP hlP mvP
   obtain⟨r,hr',er⟩:=hh.in_ z hz
   obtain⟨dx,fs,hg,l1,l2⟩:=(gr.mono sGP).ins
   refine⟨_,rfl,.inl ⟨rfl,_,.of hlP⟩,_,rfl,g,dx,fs,rfl,hg,l2,_,rfl,g,rs,r,by rw[er];rfl,gr.mono sGP,hr',gd.nm r hr',λG2 e s2' he=>?_⟩
   have sE:Same G1 (upd G2 e (.lst ((Qx rs r).map V.str))):=s2'.trans (ql he)
   have hE:upd G2 e (.lst ((Qx rs r).map V.str)) e=some (.lst ((Qx rs r).map V.str)):=qe
   generalize upd G2 e (.lst ((Qx rs r).map V.str))=G3 at sE hE
   refine⟨e,rfl,⟨_,.of hE⟩,λD hD=>?_⟩
   refine j2 (K:=K) (a:=e) (xs:=(Qx rs r).map V.str) (λj σ'' G4=>∃v0 qs,σ''=[v0,some (.int (i:Nat))]/\Same G3 G4/\G4 D=some (.lst (qs.map V.ref))/\jM G4 qs (((Qx rs r).take j).map λy=>(i,y)))
    ⟨none,[],rfl,ql hD,qe,jM.nil _⟩ (λj σ'' G4 _ ⟨_,_,_,s,_⟩=>.of (s _ _ hE)) ?_ ?_
   ·rintro j y σ'' G4 hy ⟨v0,qs,rfl,s4,hD4,mq⟩
    obtain⟨x,ex,hx,rfl⟩:=j9 hy
    have hj:=(tw.mp ex).1
    refine⟨_,rfl,_,rfl,by show 2<=zeb;decide,λt ht=>⟨_,qu hD4 ht,?_,_,qs++[t],rfl,?_,?_,?_⟩⟩
    ·rw[tj,mq.1,tj,tW]
     have:=Xv (rs:=rs) r
     exact qp (by omega)
    ·exact Same.upd (s4.trans (ql ht)) hD
    ·rw[qe,tI]
     rfl
    ·have nt:t≠D:=λz=>by rw[z,hD4]at ht;cases ht
     have e1:jM (upd (upd G4 t (.tup [.int (i:Nat),.str x])) D (.lst (qs.map V.ref++[.ref t]))) qs (((Qx rs r).take j).map λy=>(i,y)):=⟨mq.1,λk p' m a b=>by
      have z:=mq.2 k p' m a b
      have n1:p'≠D:=λe=>by rw[e,hD4]at z;cases z
      rw[qi n1]
      exact qu z ht⟩
     rw[tP,ex,tI]
     exact e1.app (jM.one (by rw[qi nt];exact qe))
   ·rintro σ'' G4 ⟨v0,qs,rfl,s4,hD4,mq⟩
    rw[tj,tF (tz _)]at mq
    have sHG:Same H G4:=(sGP.trans sE).trans s4
    have hl4:=s4 _ _ (sE _ _ hlP)
    have mv4:=(mvP.mono sE).mono s4
    have ml:=ZB gd le hh.in_ i (zai hi)
    have l8:=hh.le
    have rl:=Xv (rs:=rs) r
    refine⟨l,D,_,_,rfl,rfl,hl4,hD4,?_,?_⟩
    ·rw[tj,tj,mv4.1,mq.1,tj]
     exact zai (qp (by omega))
    ·refine⟨_,_,ps++qs,rfl,Same.upd sHG hl0,by rw[qe,tI],?_⟩
     rw[XG,ezz,mvT,<-er,J4 gd.nd hr']
     have ne:∀{p':Addr} {m:Nat×Str},G4 p'=some (.tup (X6 m))->p'≠l:=λh e=>by rw[e,hl4]at h;cases h
     have up:∀{ps:List Addr} {ms:List (Nat×Str)},jM G4 ps ms->jM (upd G4 l (.lst (zdQ V.ref ps++zdQ V.ref qs))) ps ms:=λh=>⟨h.1,λk p' m a b=>by
      have z:=h.2 k p' m a b
      rw[qi (ne z)]
      exact z⟩
     refine jM.app ?_ ?_
     ·exact⟨mv4.1,λk p' m a b=>by
       have z:=mv4.2 k p' m a b
       rw[qi (ne z)]
       exact z⟩
     ·exact⟨mq.1,λk p' m a b=>by
       have z:=mq.2 k p' m a b
       rw[qi (ne z)]
       exact z⟩
  ·rintro σ' G ⟨v3,v4,ps,rfl,sG,hlG,mv⟩
   rw[tj]at mv
   exact⟨_,rfl,q G l ps sG hl0 hlG mv⟩
abbrev nLy:List Str:=["heap","move","left"]
theorem qaK:qt nLy ["heap","move"] (qj Ym):=zdV
theorem Vf{f:Addr}{fd:zea}(F:jK K "left_by" "left_by" Ym f fd)(G:QM mg):qo P w K mg base qH 1 f fd ["heap","move"] zL:=by
 refine F.okJ qaK (λvs H Q E h=>?_) (λcdv A outer s H vs Q E hr h=>?_)
 ·obtain⟨h',p,hs,m,rfl,_⟩:=h
  rfl
 ·obtain⟨h',p,hs,m,rfl,hh,hp,hm,q⟩:=h
  refine⟨_,qg (qx (i:=2) qaK.nd rfl (Or.inl rfl) (jB Qs (by rfl) G.lst boot_list (qd (jv 0) qf)))
   (qg (ML (qT qR (jv 1) qk (λ_ _=>rfl)) (MP (jv 2) (qT qR (jv 1) qk (λ_ _=>rfl)) wj))
   (qh (qy (jv 2)))),?_⟩
  refine⟨_,rfl,h',_,rfl,.inl (.of hh),λl hl=>?_⟩
  refine⟨_,rfl,p,_,1,_,rfl,rfl,.of (qu hp hl),rfl,_,rfl,_,rfl,p,_,0,_,rfl,rfl,.of (qu hp hl),rfl,l,_,(m.1:Int),m.1,rfl,rfl,qe,?_,_,rfl,?_⟩
  ·unfold RI
   rw[if_pos (by omega),if_pos (by rw[tj];omega)]
   rfl
  ·have e:(hs.map V.str).set m.1 (.str m.2)=(hs.set m.1 m.2).map V.str:=by rw[List.map_set]
   rw[jI,e]
   exact q l hl
abbrev nLH:List Str:=["_law_source_here","_law_rows_here","_law_most"]
theorem qcd:qt nLH nLH (qj W5):=zdV
theorem uk{f fT:Addr}{fd fdT:zea}(F:jK K "_law_heap" "_law_heap" W5 f fd)(B:QO mg)(hT:qQ K mg "_law_take" Yl ["_law_source_here","_law_many"] fT fdT):qo P w K mg base qH 2 f fd nLH kj:=by
 have GT:qo P w K mg base qH 1 fT fdT ["_law_source_here","_law_many"] ZW:=zq hT.fn
 refine F.okJ qcd (λvs H Q E h=>?_) (λcdv A outer s H vs Q E hr h=>?_)
 ·obtain⟨d,l,mo,n,sd,t,ps,rs,rfl,_⟩:=h
  rfl
 ·obtain⟨d,l,mo,n,sd,t,ps,rs,rfl,hd,g,mo8,q⟩:=h
  refine⟨_,qh (qy (j4 (N':=["_law_k","_law_rows_here","_law_source_here"]) (ix:=[none,some 1,some 0])
   (te:=Yu (zT K) (Yu (Ma K) (jd 1) (ZO ZW [] E0 (jk (jd 2) (jk (Nm (λxs H Q=>∃p ys,xs=[.ref p]/\(SqL K H p ys\/Y5 K H p ys)/\Q (.int ys.length) H) (jk (jd 1) QT)) QT)))) (tC (.int 0))) rfl ⟨rfl,rfl,rfl,rfl,rfl⟩
   (jA (by rfl) B.rng (qd (qF hT GT hr (by rfl) (qd (jv 0) (qd (qL Qk (jv 2) qk) qf))) qf))
   (λC s2 H2 fp pins=>⟨qw (i:=0) (show (["_law_k","_law_rows_here","_law_source_here"]:List Str).Nodup by decide+kernel) rfl (Or.inl rfl),jN,
    qT qR (qT QF (jv 1) (qF hT GT hr (by rfl) (qd (jv 2) (qd (qD qZ (by rfl) B.len boot_len (qd (jv 1) qf)) qf))) (λ_ _=>rfl)) qk (λ_ _=>rfl)⟩))),?_⟩
  refine⟨_,rfl,_,rfl,_,_,rfl,rfl,d,(mo:Int)+1,n,sd,t,rfl,hd,by omega,by omega,λr n1 t1 r0 r1=>⟨r,rfl,by omega,by omega,λD hD=>?_⟩⟩
  have nDd:D≠d:=λe=>by rw[e,qe]at hD;cases hD
  have hD0:H D=none:=by rw[qi nDd]at hD;exact hD
  refine JL (λi σ' H'=>∃(v:Option V) (n' t':Int) (hs:List Str),σ'=[v,some (.ref l),some (.ref d)]/\H' d=some (.dK (src n' sd t'))/\H' D=some (.lst (hs.map V.str))/\hs.length=i/\(∀z∈hs,∃r∈rs,r.1=z)/\Fr H d H')
   ⟨none,n1,t1,[],rfl,?_,qe,rfl,λ_ h=>(nomatch h),(Fr.refl.at_d).new hD⟩ ?_ ?_
  ·rw[qi (Ne.symm nDd)]
   exact qe
  ·rintro i σ' H' hi ⟨v,n',t',hs,rfl,hd',hD',hl,ha,fr⟩
   have g':=g.fr' hd fr
   have pl:(ps.map V.ref).length=rs.length:=by rw[tj,g.rows.1]
   have le:=g.le
   have ps0:=g.pos
   refine⟨_,rfl,_,rfl,_,rfl,l,_,rfl,.inl (.of g'.at_),d,((ps.map V.ref).length:Nat),n',sd,t',rfl,hd',by rw[pl];omega,?_,λr n3 t3 r0 r1=>?_⟩
   ·rw[pl]
    have:rs.length < 2^200:=zaM le (by decide)
    omega
   obtain⟨x,ex,gx⟩:=atI_get r0 r1
   obtain⟨p,qq,r',rfl,er,hr',ea,eb⟩:=g'.rows.item gx
   have ndl:l≠d:=λe=>by
    have:=g'.at_
    rw[e,hd']at this
    cases this
   have ndp:p≠d:=λe=>by rw[e,hd']at ea;cases ea
   refine⟨l,_,r,_,rfl,rfl,.of (by rw[qi ndl];exact g'.at_),ex,p,_,0,_,rfl,rfl,.of (by rw[qi ndp];exact ea),rfl,_,by rw[qi nDd];exact hD',?_,_,n3,t3,hs++[r'.1],rfl,?_,?_,?_,?_,?_⟩
   ·rw[tj,hl]
    exact qp (by omega)
   ·rw[qi (Ne.symm nDd)];exact qe
   ·rw[qe,tI];rfl
   ·rw[tH,hl];rfl
   ·intro z hz
    rcases tX.mp hz with h | h
    ·exact ha z h
    ·obtain rfl:=t7.mp h
     exact⟨r',hr',rfl⟩
   ·exact(fr.at_d).own hD0
  ·rintro σ' H' ⟨v,n',t',hs,rfl,hd',hD',hl,ha,fr⟩
   exact q D hs n' t' H' hD0 hD' (by omega) ha hd' fr
end
def lf(hs:List Str)(m:Nat×Str):List Str:=hs.set m.1 m.2
def YD(H:Hp)(ts:List Addr)(os:List ((Nat×Str)×Str)):Prop:=ts.length=os.length/\∀(i:Nat) (t:Addr) (o:(Nat×Str)×Str),ts[i]?=some t->os[i]?=some o->∃p,H t=some (.tup [.ref p,.str o.2])/\H p=some (.tup (X6 o.1))
theorem YD.tk{H H':Hp}{ts:List Addr}{os:List ((Nat×Str)×Str)}(h:YD H ts os)(k:TK H H'):YD H' ts os:=⟨h.1,λi t o e1 e2=>let ⟨p,a,b⟩:=h.2 i t o e1 e2;⟨p,k _ _ a,k _ _ b⟩⟩
theorem YD.nil{H:Hp}:YD H [] []:=⟨rfl,λi t o e=>(nomatch e)⟩
theorem YD.snoc{H:Hp}{ts:List Addr}{os:List ((Nat×Str)×Str)}{t p:Addr}{o:(Nat×Str)×Str}(h:YD H ts os)(ht:H t=some (.tup [.ref p,.str o.2]))(hp:H p=some (.tup (X6 o.1))):YD H (ts++[t]) (os++[o]):=by
 refine⟨by rw[tH,tH,h.1];rfl,λi t' o' e1 e2=>?_⟩
 rcases QV e1 with ⟨i1,e1⟩ | ⟨i1,rfl⟩
 ·rcases QV e2 with ⟨_,e2⟩ | ⟨i2,_⟩
  ·exact h.2 i t' o' e1 e2
  ·have:=h.1;omega
 ·rcases QV e2 with ⟨i2,_⟩ | ⟨_,rfl⟩
  ·have:=h.1;omega
  ·exact⟨p,ht,hp⟩
theorem Yp{rs:qV}(g:qC rs){hs:List Str}(hi:∀z∈hs,∃r∈rs,r.1=z){m:Nat×Str}(hm:m∈mvs rs hs hs.length):∀z∈lf hs m,∃r∈rs,r.1=z:=λz hz=>by
 obtain⟨h1,h2⟩:=Jg hm
 obtain⟨r,hr,e⟩:=hi _ (Z8 h1)
 unfold lf at hz
 rcases List.mem_or_eq_of_mem_set hz with h | h
 ·exact hi z h
 ·rw[h]
  exact tL.mp (J5 g.nd _ (tL.mpr ⟨r,hr,e⟩) _ h2)
def Vb(rs:qV)(R:Rs Str)(hs:List Str):List ((Nat×Str)×Str):=(mvs rs hs hs.length).map λm=>(m,ZJ (Qi ((lf hs m).map (wT rs R))))
def Wn:Sp:=λvs H Q _=>∃(D h:Addr) (rs:qV) (R:Rs Str) (hs:List Str),vs=[.ref D,.ref h]/\jG H D rs R/\jH H h rs hs/\(∀z∈hs,zW (wT rs R z))/\∀H',Same H H'->Q (.str (ZJ (Qi (hs.map (wT rs R))))) H'
def x5(CG:Addr):Sp:=λvs H Q _=>∃(g D h:Addr) (rs:qV) (R:Rs Str) (hs:List Str),vs=[.ref g,.ref D,.ref h]/\Qu CG H g rs/\qC rs/\rs.length<=14/\jG H D rs R/\VD (Jd rs) (·∈rs.map (·.1)) (qI R) (Jc R)/\jH H h rs hs/\
 ∀H' L ts,Same H H'->H L=none->H' L=some (.lst (ts.map V.ref))->YD H' ts (Vb rs R hs)->Q (.ref L) H'
section
variable{P:Program}{w:World}{K:zdW}{mg:Str->Option Value}{base:Heap}
structure Nb(K:zdW)(mg:Str->Option Value):Prop where
 mo:∃f fd,qQ K mg "moves_of" Zl ["ground","heap"] f fd
 lb:∃f fd,qQ K mg "left_by" Ym ["heap","move"] f fd
 oby:∃f fd,qQ K mg "outcome_by" yH ["labels","heap"] f fd
 osby:∃f fd,qQ K mg "outcomes_by" kz ["ground","labels","heap"] f fd
theorem qaH:qt ["labels","heap"] ["labels","heap"] (qj yH):=zdV
theorem ue{f:Addr}{fd:zea}(F:jK K "outcome_by" "outcome_by" yH f fd)(h:WF K mg)(B:QO mg)(Z:Wk K mg)(O:Kt K mg):qo P w K mg base qH 9 f fd ["labels","heap"] Wn:=by
 obtain⟨fL,fdL,hL⟩:=O.lw
 obtain⟨fS,fdS,hS⟩:=O.sum
 obtain⟨fW,fdW,hW⟩:=O.wby
 have GW:qo P w K mg base qH 8 fW fdW ["labels","heap"] (Np h.CN h.CE):=Mi hW.fn h B Z hL hS
 refine F.okJ qaH (λvs H Q E z=>?_) (λcdv A outer s H vs Q E hr z=>?_)
 ·obtain⟨D,h',rs,R,hs,rfl,_⟩:=z
  rfl
 ·obtain⟨D,h',rs,R,hs,rfl,lb,hh,ok,q⟩:=z
  refine⟨_,qh (qy (RB h B (hr.mono (by decide)) (qF hW GW hr (by rfl) (qd (jv 0) (qd (jv 1) qf))))),?_⟩
  refine⟨_,rfl,_,rfl,D,h',rs,R,hs,rfl,lb,hh,ok,λa H1 s1 i1=>⟨a,_,rfl,i1,?_,λH2 s2=>q H2 (s1.trans s2)⟩⟩
  refine xL λu hu=>?_
  obtain⟨z,hz,rfl⟩:=tL.mp hu
  exact ok z hz
theorem N0:qt ["ground","labels","heap"] ["ground","labels","heap"] (qj kz):=zdV
theorem GU{f CG:Addr}{fd:zea}(F:jK K "outcomes_by" "outcomes_by" kz f fd)(h:WF K mg)(B:QO mg)(Z:Wk K mg)(G:QM mg)(T:Qt K mg)(M:GM K mg CG)(O:Kt K mg)(V1:Nb K mg):qo P w K mg base qH 10 f fd ["ground","labels","heap"] (x5 CG):=by
 obtain⟨fP,fdP,hP⟩:=O.place
 obtain⟨fH,fdH,hH⟩:=O.heap
 obtain⟨fM,fdM,hM⟩:=V1.mo
 obtain⟨fL,fdL,hL⟩:=V1.lb
 obtain⟨fB,fdB,hB⟩:=V1.oby
 have GM:qo P w K mg base qH 4 fM fdM ["ground","heap"] (kh CG):=ui hM.fn B G T M hP O.most hH
 have GL:qo P w K mg base qH 1 fL fdL ["heap","move"] zL:=Vf hL.fn G
 have GB:qo P w K mg base qH 9 fB fdB ["labels","heap"] Wn:=ue hB.fn h B Z O
 refine F.okJ N0 (λvs H Q E z=>?_) (λcdv A outer s H vs Q E hr z=>?_)
 ·obtain⟨g,D,h',rs,R,hs,rfl,_⟩:=z
  rfl
 ·obtain⟨g,D,h',rs,R,hs,rfl,gr,good,le,lb,L,hh,q⟩:=z
  have r1:qU 1 _:=hr.mono (by decide)
  have r4:qU 4 _:=hr.mono (by decide)
  refine⟨_,qh (qy (j4 (N':=["move","labels","heap"]) (ix:=[none,some 1,some 2])
    (te:=yy (jk (jd 0) (jk (ZO Wn [] E0 (jk (jd 1) (jk (ZO zL [] E0 (jk (jd 2) (jk (jd 0) QT))) QT))) QT)))
    rfl ⟨rfl,rfl,rfl,rfl,rfl⟩ (qJ (qF hM GM r4 (by rfl) (qd (jv 0) (qd (jv 2) qf)))) (λC s2 H2 fp pins=>
    ⟨qw (i:=0) (show (["move","labels","heap"]:List Str).Nodup by decide+kernel) rfl (Or.inl rfl),jN,
     jp (qd (jv 0) (qd (qF hB GB hr (by rfl) (qd (jv 1) (qd (qF hL GL r1 (by rfl) (qd (jv 2) (qd (jv 0) qf))) qf))) qf))⟩))),?_⟩
  refine⟨_,rfl,_,rfl,g,h',rs,hs,rfl,gr,good,le,hh,λH1 lm ps s1 hlm hlm1 mv=>⟨lm,rfl,⟨_,.of hlm1⟩,λW hW=>?_⟩⟩
  have l8:=hh.le
  have lmv:(mvs rs hs hs.length).length<=112:=by
   have:=ZB good le hh.in_ hs.length (tz _)
   omega
  have lps:=mv.1
  refine j2 (K:=K) (a:=lm) (xs:=ps.map V.ref) (λj σ'' G1=>∃(v0:Option V) (ts:List Addr),σ''=[v0,some (.ref D),some (.ref h')]/\Same H1 G1/\G1 W=some (.lst (ts.map V.ref))/\YD G1 ts ((Vb rs R hs).take j))
   ⟨none,[],rfl,ql hW,qe,.nil⟩ (λj σ'' G1 _ ⟨_,_,_,s,_⟩=>.of (s _ _ hlm1)) ?_ ?_
  ·rintro j y σ'' G1 hy ⟨v0,ts,rfl,sG,hWG,os⟩
   rw[tG]at hy
   cases ep:ps[j]? with
   | none=>rw[ep]at hy;cases hy
   | some p=>
    rw[ep]at hy
    obtain rfl:=(tO.inj hy).symm
    have hj:=(tw.mp ep).1
    have hj':j < (mvs rs hs hs.length).length:=by omega
    have em:(mvs rs hs hs.length)[j]?=some (mvs rs hs hs.length)[j]:=tE hj'
    have hmm:=zbu hj'
    generalize (mvs rs hs hs.length)[j]=m at em hmm
    have hp:=sG _ _ (mv.2 j p m ep em)
    have sA:=s1.trans sG
    refine⟨_,rfl,_,rfl,_,rfl,_,rfl,h',p,hs,m,rfl,sA _ _ hh.at_,hp,(Jg hmm).1,λll hll=>?_⟩
    have sB:Same G1 (upd G1 ll (.lst ((hs.set m.1 m.2).map V.str))):=ql hll
    have hB1:upd G1 ll (.lst ((hs.set m.1 m.2).map V.str)) ll=some (.lst ((lf hs m).map V.str)):=qe
    generalize upd G1 ll (.lst ((hs.set m.1 m.2).map V.str))=G2 at sB hB1
    have lin:=Yp good hh.in_ hmm
    refine⟨D,ll,rs,R,lf hs m,rfl,(lb.mono sA).mono sB,⟨hB1,by unfold lf;rw[zbL];exact l8,lin⟩,λz hz=>?_,λG3 s3=>?_⟩
    ·obtain⟨r,hr',e⟩:=lin z hz
     exact Ni good L (tL.mpr ⟨r,hr',e⟩)
    ·refine⟨by show 2<=zeb;decide,λt ht=>?_⟩
     have s13:Same G1 G3:=sB.trans s3
     have eo:(Vb rs R hs)[j]?=some (m,ZJ (Qi ((lf hs m).map (wT rs R)))):=by unfold Vb;rw[tG,em];rfl
     have lts:=os.1
     rw[tW]at lts
     have hWt:upd G3 t (.tup [V.ref p,.str (ZJ (Qi ((lf hs m).map (wT rs R))))]) W=some (.lst (ts.map V.ref)):=qu (s13 _ _ hWG) ht
     refine⟨_,hWt,by rw[tj];exact qp (by omega),_,ts++[t],rfl,Same.upd (sG.trans (s13.trans (ql ht))) hW,by rw[tI];exact qe,?_⟩
     rw[tP,eo]
     refine((os.tk (.of (s13.trans (ql ht)))).snoc (t:=t) (p:=p) (o:=(m,ZJ (Qi ((lf hs m).map (wT rs R))))) qe (qu (s13 _ _ hp) ht)).tk ?_
     exact TK.upd hWt λxs=>by simp
  ·rintro σ'' G1 ⟨v0,ts,rfl,sG,hWG,os⟩
   have el:(ps.map V.ref).length=(Vb rs R hs).length:=by unfold Vb;rw[tj,tj,lps]
   rw[el,tF (tz _)]at os
   exact q G1 W ts (s1.trans sG) (jt s1 hW) hWG os
end
open PySem L2 PyProof.Rows MLab
abbrev Jw:Stmt:=top 75
abbrev ZA:Stmt:=top 76
abbrev ZZ:Stmt:=top 77
abbrev zk:Stmt:=top 78
abbrev Zz:Stmt:=top 80
structure NM(H:Hp)(d:Addr)(rs:qV):Prop where
 at_:∃(o:Obj) (kvs:List (qN×V)),H d=some (.frz o (.dK kvs))/\kvs.map (·.1)=(rs.map (·.1)).map Sum.inr/\∀r∈rs,∃q,jg kvs (Sum.inr r.1:qN)=some (.ref q)/\H q=some (.tup (r.2.map V.str))
theorem NM.mono{H H':Hp}{d:Addr}{rs:qV}(h:NM H d rs)(s:Same H H'):NM H' d rs:=⟨let ⟨o,kvs,a,b,c⟩:=h.at_;⟨o,kvs,s _ _ a,b,λr hr=>let ⟨q,u,v⟩:=c r hr;⟨q,u,s _ _ v⟩⟩⟩
theorem NM.get{H:Hp}{d:Addr}{rs:qV}(h:NM H d rs)(g:qC rs){z:Str}(hz:z∈rs.map (·.1)):∃q,jZ H d (.str z) (some (.ref q))/\H q=some (.tup ((j8 rs z).map V.str)):=by
 obtain⟨o,kvs,a,b,c⟩:=h.at_
 obtain⟨r,hr,rfl⟩:=tL.mp hz
 obtain⟨q,u,v⟩:=c r hr
 refine⟨q,?_,by rw[zu g.nd hr];exact v⟩
 rw[<-u]
 exact .inl ⟨kvs,Sum.inr r.1,.inr ⟨o,a⟩,rfl,rfl⟩
theorem YV{rs:qV}(g:qC rs){z y:Str}(hz:z∈rs.map (·.1))(hy:y∈j8 rs z):y∈rs.map (·.1):=J5 g.nd _ hz _ ((qP g hz).mp hy)
theorem uG{rs:qV}(g:qC rs){z:Str}(hz:z∈rs.map (·.1)):(j8 rs z).length<=40:=by
 obtain⟨r,hr,rfl⟩:=tL.mp hz
 rw[zu g.nd hr]
 exact g.two hr
def kn(rs:qV)(f:Str->Option Nat)(z:Str):List Nat:=(j8 rs z).filterMap f
theorem vw{rs:qV}{f:Str->Option Nat}{z:Str}{n:Nat}:n∈kn rs f z↔∃y∈j8 rs z,f y=some n:=zaF
theorem zy{rs:qV}{f:Str->Option Nat}{z:Str}{n:Nat}:YE (j8 rs) f z n↔(∀j,j < n->j∈kn rs f z)/\n∉kn rs f z/\∀y∈j8 rs z,f y=none->n∈kn rs f y:=by
 unfold YE
 simp only[vw]
 constructor
 ·rintro⟨a,b,c⟩
  exact⟨a,λ⟨y,hy,e⟩=>b y hy e,c⟩
 ·rintro⟨a,b,c⟩
  exact⟨a,λy hy e=>b ⟨y,hy,e⟩,c⟩
structure QY(N:List Str)(H:Hp)(d:Addr)(f:Str->Option (Nat×Nat)):Prop where
 at_:∃kvs:List (qN×V),H d=some (.dK kvs)/\(∀z,f z=none->jg kvs (Sum.inr z:qN)=none)/\(∀z n s,f z=some (n,s)->∃t,jg kvs (Sum.inr z:qN)=some (.ref t)/\H t=some (.tup [.int (n:Nat),.int (s:Nat)]))/\(kvs.map (·.1)).Nodup/\∀k∈kvs.map (·.1),k∈N.map Sum.inr
theorem QY.mono{N:List Str}{H H':Hp}{d:Addr}{f:Str->Option (Nat×Nat)}(h:QY N H d f)(s:Same H H'):QY N H' d f:=⟨let ⟨kvs,a,b,c,e⟩:=h.at_;⟨kvs,s _ _ a,b,λz n m q=>let ⟨t,u,v⟩:=c z n m q;⟨t,u,s _ _ v⟩,e⟩⟩
theorem QY.isd{N:List Str}{H:Hp}{d:Addr}{f:Str->Option (Nat×Nat)}(h:QY N H d f):∃kvs:List (qN×V),H d=some (.dK kvs):=let ⟨kvs,a,_⟩:=h.at_;⟨kvs,a⟩
theorem QY.get{N:List Str}{H:Hp}{d:Addr}{f:Str->Option (Nat×Nat)}(h:QY N H d f)(z:Str):∃o:Option V,jZ H d (.str z) o/\o.isSome=(f z).isSome/\∀n s,f z=some (n,s)->∃t,o=some (.ref t)/\H t=some (.tup [.int (n:Nat),.int (s:Nat)]):=by
 obtain⟨kvs,a,b,c,_⟩:=h.at_
 refine⟨_,jZ.k (k:=(Sum.inr z:qN)) a,?_,λn s e=>c z n s e⟩
 cases e:f z with
 | none=>rw[b z e];rfl
 | some p=>
  obtain⟨t,u,_⟩:=c z p.1 p.2 e
  rw[u];rfl
def f1(f:Str->Option (Nat×Nat))(z:Str):Option Nat:=(f z).map (·.1)
def kl:Sp:=λvs H Q _=>∃(d e:Addr) (rs:qV) (f:Str->Option (Nat×Nat)) (z:Str) (n:Nat),vs=[.ref d,.ref e,.str z,.int (n:Nat)]/\NM H d rs/\qC rs/\z∈rs.map (·.1)/\QY (rs.map (·.1)) H e f/\Q (.bl (decide (n∈kn rs (f1 f) z))) H
def VX:Sp:=λvs H Q _=>∃(d e:Addr) (rs:qV) (f:Str->Option (Nat×Nat)) (z:Str) (n:Nat),vs=[.ref d,.ref e,.str z,.int (n:Nat)]/\NM H d rs/\qC rs/\z∈rs.map (·.1)/\QY (rs.map (·.1)) H e f/\n<=15/\
 ∀H' b,Same H H'->(b=true↔YE (j8 rs) (f1 f) z n)->Q (.bl b) H'
theorem kn1{rs:qV}{f:Str->Option (Nat×Nat)}{z:Str}{n:Nat}:n∈kn rs (f1 f) z↔∃y∈j8 rs z,∃s,f y=some (n,s):=by
 rw[vw]
 constructor
 ·rintro⟨y,hy,e⟩
  obtain⟨p,e1,e2⟩:=zbI.mp e
  exact⟨y,hy,p.2,by rw[e1,<-e2]⟩
 ·rintro⟨y,hy,s,e⟩
  exact⟨y,hy,by unfold f1;rw[e];rfl⟩
section
variable{P:Program}{w:World}{K:zdW}{mg:Str->Option Value}{base:Heap}
abbrev nLB:List Str:=["_law_roads","_law_found","_law_name","_law_number","_law_one"]
abbrev yR:List Str:=["_law_roads","_law_found","_law_name","_law_number"]
theorem qaN:qt nLB yR (qj ZZ):=zdV
theorem uo{f:Addr}{fd:zea}(F:jK K "_law_back" "_law_back" ZZ f fd):qo P w K mg base qH 1 f fd yR kl:=by
 refine F.okJ qaN (λvs H Q E h=>?_) (λcdv A outer s H vs Q E hr h=>?_)
 ·obtain⟨d,e,rs,ff,z,n,rfl,_⟩:=h
  rfl
 ·obtain⟨d,e,rs,ff,z,n,rfl,ld,good,hz,fd,q⟩:=h
  have hu:=jX hr
  refine⟨_,qg (ja PassesOwn.never rfl (z9 (qW hu (jv 0) (jv 2) (λ_ _=>rfl))) (qw (i:=4) qaN.nd rfl (Or.inl rfl))
    (qh (qM (JW.pt (j1 (Qo (J0 hu (jv 4) (jv 1))) (jJ (qv jL (qT qR (qW hu (jv 1) (jv 4) (λ_ _=>rfl)) qk (λ_ _=>rfl)) (jv 3) (qA _))))) (qh (qy Qr)) qB)))
   (qh (qy Qr)),?_⟩
  obtain⟨q0,g0,hq0⟩:=ld.get good hz
  refine⟨_,rfl,_,rfl,d,_,rfl,g0,q0,rfl,⟨_,.of hq0⟩,?_⟩
  refine Y0 (K:=K) (a:=q0) (xs:=(j8 rs z).map V.str) (λi σ' G=>∃v4,σ'=[some (.ref d),some (.ref e),some (.str z),some (.int (n:Nat)),v4]/\G=H/\∀y∈(j8 rs z).take i,∀s,ff y≠some (n,s))
   ⟨_,rfl,rfl,λy h=>(nomatch h)⟩ (λi σ' G _ ⟨_,_,e,_⟩=>e▸.of hq0) ?_ ?_
  ·rintro i x σ' G hx ⟨v4,rfl,rfl,hall⟩
   obtain⟨y,ey,hy,rfl⟩:=j9 hx
   obtain⟨o,go,eo,ho⟩:=fd.get y
   have step:(∀s,ff y≠some (n,s))->∃v4,[some (V.ref d),some (.ref e),some (.str z),some (.int (n:Nat)),some (.str y)]=[some (.ref d),some (.ref e),some (.str z),some (.int (n:Nat)),v4]/\G=G/\∀y∈(j8 rs z).take (i+1),∀s,ff y≠some (n,s):=λno=>by
    refine⟨_,rfl,rfl,λu hu'=>?_⟩
    rw[tP,ey]at hu'
    rcases tX.mp hu' with h | h
    ·exact hall u h
    ·have:u=y:=by simpa using h
     rw[this];exact no
   refine⟨_,rfl,_,rfl,e,_,rfl,go,_,rfl,?_⟩
   rw[eo]
   cases cy:ff y with
   | none=>exact ji (ji (step λs h=>by rw[cy]at h;cases h))
   | some p=>
    obtain⟨t,et,ht⟩:=ho p.1 p.2 cy
    rw[et]at go
    refine j3 ⟨_,rfl,_,rfl,e,_,rfl,go,t,_,0,_,rfl,rfl,.of ht,rfl,_,rfl,rfl,_,rfl,?_⟩
    by_cases c:p.1=n
    ·refine jn (decide_eq_true (by rw[c])) ?_
     rw[decide_eq_true (kn1.mpr ⟨y,hy,p.2,by rw[cy,<-c]⟩)]at q
     exact q
    ·refine jh (decide_eq_false λh=>c (by have:=V.int.inj h;omega)) (step λs h=>?_)
     rw[cy]at h
     cases h
     exact c rfl
  ·rintro σ' G ⟨v4,rfl,rfl,hall⟩
   rw[tj,tF (tz _)]at hall
   rw[decide_eq_false (λh=>by obtain⟨y,hy,s,e⟩:=kn1.mp h;exact hall y hy s e)]at q
   exact q
abbrev nLC:List Str:=["_law_roads","_law_found","_law_name","_law_number","_law_beside","_law_one"]
theorem N4:qt nLC yR (qj ZA):=zdV
theorem y3{f fB:Addr}{fd fdB:zea}(F:jK K "_law_comes" "_law_comes" ZA f fd)(B:QO mg)(hB:qQ K mg "_law_back" ZZ yR fB fdB):qo P w K mg base qH 2 f fd yR VX:=by
 have GB:qo P w K mg base qH 1 fB fdB yR kl:=uo hB.fn
 refine F.okJ N4 (λvs H Q E h=>?_) (λcdv A outer s H vs Q E hr h=>?_)
 ·obtain⟨d,e,rs,ff,z,n,rfl,_⟩:=h
  rfl
 ·obtain⟨d,e,rs,ff,z,n,rfl,ld,good,hz,fd,n15,q⟩:=h
  have hu:=jX hr
  refine⟨_,qg (qx (i:=4) N4.nd rfl (Or.inr rfl) (j4 (N':=["_law_one","_law_found"]) (ix:=[none,some 1]) (tt:=tB (qay (jd 0) (jd 1))) (te:=Yu (zT K) (Y9 (jd 1) (jd 0)) (tC (.int 0))) rfl ⟨rfl,rfl,rfl,rfl,rfl⟩ (z9 (qW hu (jv 0) (jv 2) (λ_ _=>rfl))) (λC s2 H2 fp pins=>
     ⟨qw (i:=0) (show (["_law_one","_law_found"]:List Str).Nodup by decide+kernel) rfl (Or.inl rfl),jV (Qo (J0 hu (jv 0) (jv 1))),qT qR (qW hu (jv 1) (jv 0) (λ_ _=>rfl)) qk (λ_ _=>rfl)⟩)))
   (qg (qM (JW.pt (Ji (qv Jz (jv 3) (jv 4) (by with_unfolding_all rfl)) (Qm (qv (YT (zbU hu)) (j4 (N':=["_law_k","_law_beside"]) (ix:=[none,some 4]) (tt:=Y8 (Yu (rIn K true) (jd 0) (jd 1))) (te:=jd 0) rfl ⟨rfl,rfl,rfl,rfl,rfl⟩ (jA (by rfl) B.rng (qd (jv 3) qf)) (λC s2 H2 fp pins=>
     ⟨qw (i:=0) (show (["_law_k","_law_beside"]:List Str).Nodup by decide+kernel) rfl (Or.inl rfl),jV (qv JR (jv 0) (jv 1) (by with_unfolding_all rfl)),jv 0⟩)) (jz qf) (qA _))))) (qh (qy Qr)) qB)
   (qg (ja PassesOwn.never rfl (z9 (qW hu (jv 0) (jv 2) (λ_ _=>rfl))) (qw (i:=5) N4.nd rfl (Or.inl rfl))
    (qh (qM (JW.pt (j1 (Qo (JJ hu (jv 5) (jv 1))) (jJ (Qn (jl (qF hB GB hr (by rfl) (qd (jv 0) (qd (jv 1) (qd (jv 5) (qd (jv 3) qf)))))))))) (qh (qy Qr)) qB)))
   (qh (qy Qr)))),?_⟩
  obtain⟨q0,g0,hq0⟩:=ld.get good hz
  refine⟨_,rfl,_,rfl,d,_,rfl,g0,q0,rfl,⟨_,.of hq0⟩,λW hW=>?_⟩
  refine R5 (K:=K) (a:=q0) (xs:=j8 rs z) (enc:=V.str) (out:=λy=>(f1 ff y).map λn=>V.int (n:Nat)) (rest:=[some (.ref e)]) hW hq0 (qp (by have:=uG good hz;omega)) ?_ ?_ ?_
  ·intro x hx G' s5 R kk
   obtain⟨o,go,eo,_⟩:=(fd.mono s5).get x
   refine⟨_,rfl,_,rfl,e,_,rfl,go,_,rfl,?_⟩
   have:=kk G' λ_ _ h=>h
   rw[eo]
   unfold f1 at this
   rw[zbe,zbe]at this
   exact this
  ·intro x hx v ev G' s5 R kk
   obtain⟨o,go,eo,ho⟩:=(fd.mono s5).get x
   cases cx:ff x with
   | none=>unfold f1 at ev;rw[cx]at ev;cases ev
   | some p=>
    obtain⟨t,et,ht⟩:=ho p.1 p.2 cx
    rw[et]at go
    have:v=V.int (p.1:Nat):=by unfold f1 at ev;rw[cx]at ev;exact(tO.inj ev).symm
    subst this
    exact⟨_,rfl,_,rfl,e,_,rfl,go,t,_,0,_,rfl,rfl,.of ht,rfl,kk G' λ_ _ h=>h⟩
  ·intro G1 s1 hW1
   have eK:(j8 rs z).filterMap (λy=>(f1 ff y).map λn=>V.int (n:Nat))=ZG (kn rs (f1 ff) z):=by
    unfold ZG kn
    rw[List.map_filterMap]
   rw[eK]at hW1
   refine⟨_,rfl,_,rfl,W,_,rfl,.inl (.of hW1),rfl,zx _,_,rfl,?_⟩
   by_cases c:n∈kn rs (f1 ff) z
   ·exact jn (show ZF (.int (n:Nat)) (ZG (kn rs (f1 ff) z))=true by rw[XQ];exact decide_eq_true c) (j3 (q G1 false s1 ⟨λh=>(nomatch h),λh=>absurd c (zy.mp h).2.1⟩))
   refine jh (show ZF (.int (n:Nat)) (ZG (kn rs (f1 ff) z))=false by rw[XQ];exact decide_eq_false c) ?_
   refine⟨_,rfl,(n:Int),rfl,by omega,by omega,λU hU=>?_⟩
   refine R6 (n:=n) (out:=λj=>if j∈kn rs (f1 ff) z then none else some (V.int (j:Nat))) (rest:=[some (.ref W)]) hU (qp (by omega)) ?_ ?_ ?_
   ·intro x hx G' s5 R kk
    refine⟨_,rfl,_,rfl,W,_,rfl,.inl (.of (s5 _ _ hW1)),rfl,zx _,_,rfl,?_⟩
    have:=kk G' λ_ _ h=>h
    show R (!ZF (.int (x:Nat)) (ZG (kn rs (f1 ff) z))) G'
    rw[XQ]
    by_cases c:x∈kn rs (f1 ff) z
    ·rw[if_pos c]at this
     rw[decide_eq_true c]
     exact this
    ·rw[if_neg c]at this
     rw[decide_eq_false c]
     exact this
   ·intro x hx v ev G' s5 R kk
    have:v=V.int (x:Nat):=by
     split at ev
     ·cases ev
     ·exact(tO.inj ev).symm
    subst this
    exact⟨_,rfl,kk G' λ_ _ h=>h⟩
   ·intro G2 s2 hU2
    have s12:=s1.trans s2
    generalize hls:(zab n).filterMap (λj=>if j∈kn rs (f1 ff) z then none else some (V.int (j:Nat)))=ls at hU2
    refine⟨by show 0<=zeb;decide,λl0 hl0=>?_⟩
    have s0:Same G2 (upd G2 l0 (.lst [])):=ql hl0
    refine⟨U,l0,_,rfl,rfl,.of (s0 _ _ hU2),.of qe,_,rfl,?_⟩
    have s3:Same H (upd G2 l0 (.lst [])):=s12.trans s0
    generalize upd G2 l0 (.lst [])=G3 at s0 s3
    have lsE:ls=[]↔∀j,j < n->j∈kn rs (f1 ff) z:=by
     rw[<-hls,List.filterMap_eq_nil_iff]
     constructor
     ·intro h j hj
      have:=h j (zaU.mpr hj)
      by_cases c:j∈kn rs (f1 ff) z
      ·exact c
      ·rw[if_neg c]at this;cases this
     ·intro h j hj
      rw[if_pos (h j (zaU.mp hj))]
    cases ls with
    | cons a ls=>
     refine j3 (q G3 false s3 ⟨λh=>(nomatch h),λh=>?_⟩)
     have:=lsE.mpr (zy.mp h).1
     cases this
    | nil=>
     refine ji ?_
     have lo:=lsE.mp rfl
     obtain⟨q1,g1,hq1⟩:=(ld.mono s3).get good hz
     refine⟨_,rfl,_,rfl,d,_,rfl,g1,q1,rfl,⟨_,.of hq1⟩,?_⟩
     refine Y0 (K:=K) (a:=q1) (xs:=(j8 rs z).map V.str) (λi σ' G=>∃v5,σ'=[some (.ref d),some (.ref e),some (.str z),some (.int (n:Nat)),some (.ref W),v5]/\G=G3/\∀y∈(j8 rs z).take i,f1 ff y=none->n∈kn rs (f1 ff) y)
      ⟨_,rfl,rfl,λy h=>(nomatch h)⟩ (λi σ' G _ ⟨_,_,e,_⟩=>e▸.of hq1) ?_ ?_
     ·rintro i x σ' G hx ⟨v5,rfl,rfl,hall⟩
      obtain⟨y,ey,hy,rfl⟩:=j9 hx
      have hyN:=YV good hz hy
      obtain⟨o,go,eo,_⟩:=(fd.mono s3).get y
      have step:(f1 ff y=none->n∈kn rs (f1 ff) y)->∃v5,[some (V.ref d),some (.ref e),some (.str z),some (.int (n:Nat)),some (.ref W),some (.str y)]=[some (.ref d),some (.ref e),some (.str z),some (.int (n:Nat)),some (.ref W),v5]/\G=G/\∀y∈(j8 rs z).take (i+1),f1 ff y=none->n∈kn rs (f1 ff) y:=λhy'=>by
       refine⟨_,rfl,rfl,λu hu'=>?_⟩
       rw[tP,ey]at hu'
       rcases tX.mp hu' with h | h
       ·exact hall u h
       ·have:u=y:=by simpa using h
        rw[this];exact hy'
      refine⟨_,rfl,_,rfl,e,_,rfl,go,_,rfl,?_⟩
      rw[eo]
      cases cy:ff y with
      | some p=>exact ji (ji (step λh=>by unfold f1 at h;rw[cy]at h;cases h))
      | none=>
       refine j3 ⟨_,rfl,_,rfl,_,rfl,_,rfl,d,e,rs,ff,y,n,rfl,ld.mono s3,good,hyN,fd.mono s3,_,rfl,?_⟩
       by_cases c2:n∈kn rs (f1 ff) y
       ·rw[decide_eq_true c2]
        exact ji (step λ_=>c2)
       ·rw[decide_eq_false c2]
        exact j3 (q G false s3 ⟨λh=>(nomatch h),λh=>absurd ((zy.mp h).2.2 y hy (by unfold f1;rw[cy];rfl)) c2⟩)
     ·rintro σ' G ⟨v5,rfl,rfl,hall⟩
      rw[tj,tF (tz _)]at hall
      exact q G true s3 ⟨λ_=>zy.mpr ⟨lo,c,hall⟩,λ_=>rfl⟩
end
def fR(R:Rs Str)(z:Str):Option (Nat×Nat):=(qI R z).map λn=>(n,Jc R z)
theorem RS(R:Rs Str)(z:Str):f1 (fR R) z=qI R z:=by
 unfold f1 fR
 cases qI R z<;>rfl
theorem RN{rs:qV}(g:qC rs){f:Str->Option Nat}{z:Str}{n:Nat}(hz:z∈rs.map (·.1)):YE (j8 rs) f z n↔YE (Jd rs) f z n:=by
 unfold YE
 constructor
 ·rintro⟨a,b,c⟩
  refine⟨λj hj=>let ⟨y,hy,e⟩:=a j hj;⟨y,(qP g hz).mp hy,e⟩,λy hy=>b y ((qP g hz).mpr hy),λy hy e=>?_⟩
  have hy':=(qP g hz).mpr hy
  obtain⟨u,hu,eu⟩:=c y hy' e
  exact⟨u,(qP g (YV g hz hy')).mp hu,eu⟩
 ·rintro⟨a,b,c⟩
  refine⟨λj hj=>let ⟨y,hy,e⟩:=a j hj;⟨y,(qP g hz).mpr hy,e⟩,λy hy=>b y ((qP g hz).mp hy),λy hy e=>?_⟩
  obtain⟨u,hu,eu⟩:=c y ((qP g hz).mp hy) e
  exact⟨u,(qP g (YV g hz hy)).mpr hu,eu⟩
theorem QY.put{N:List Str}{H:Hp}{d t:Addr}{f:Str->Option (Nat×Nat)}(h:QY N H d f){z:Str}{n s:Nat}(hz:z∈N)(hf:f z=none)(le:N.length<=14)(ht:H t=some (.tup [.int (n:Nat),.int (s:Nat)])):∃o,Jb H d (.str z) (.ref t) (upd H d o)/\QY N (upd H d o) d (λy=>if y=z then some (n,s) else f y):=by
 obtain⟨kvs,a,b,c,nd,sub⟩:=h.at_
 have ln:kvs.length<=14:=by
  have:=JX nd sub
  rw[tj,tj]at this
  omega
 have new:=b z hf
 have tD:∀{b:Addr} {xs:List V},H b=some (.tup xs)->b≠d:=λhb e=>by rw[e,a]at hb;cases hb
 refine⟨_,Jb.k (k:=(Sum.inr z:qN)) a (qp (by omega)),⟨_,qe,λy hy=>?_,λy m u hy=>?_,Rp _ nd new,λk hk=>?_⟩⟩
 ·by_cases e:y=z
  ·rw[if_pos e]at hy;cases hy
  ·rw[if_neg e]at hy
   rw[j0,if_neg (λq=>e (Sum.inr.inj q))]
   exact b y hy
 ·by_cases e:y=z
  ·rw[if_pos e]at hy
   cases hy
   subst e
   exact⟨t,by rw[j0,if_pos rfl],by rw[qi (tD ht)];exact ht⟩
  ·rw[if_neg e]at hy
   obtain⟨t',u',v'⟩:=c y m u hy
   exact⟨t',by rw[j0,if_neg (λq=>e (Sum.inr.inj q))];exact u',by rw[qi (tD v')];exact v'⟩
 ·rw[QJ _ new,tI]at hk
  rcases tX.mp hk with hk | hk
  ·exact sub k hk
  ·have:k=Sum.inr z:=by simpa using hk
   rw[this]
   exact tL.mpr ⟨z,hz,rfl⟩
theorem QY.congr{N:List Str}{H:Hp}{d:Addr}{f g:Str->Option (Nat×Nat)}(h:QY N H d f)(e:∀z,f z=g z):QY N H d g:=⟨let ⟨kvs,a,b,c,x⟩:=h.at_;⟨kvs,a,λz hz=>b z (by rw[e z];exact hz),λz n s hz=>c z n s (by rw[e z];exact hz),x⟩⟩
theorem QY.bare{rs:qV}{H:Hp}{d:Addr}{f:Str->Option (Nat×Nat)}(h:QY (rs.map (·.1)) H d f):Q9 (rs.map (·.1)) H d=Qf rs (f1 f):=by
 obtain⟨kvs,a,b,c,_⟩:=h.at_
 unfold Q9 Qf
 rw[a]
 show ((rs.map (·.1)).filter λz=>(jg kvs (Sum.inr z:qN)).isNone).length=_
 congr 1
 refine zbT λz _=>?_
 unfold f1
 cases e:f z with
 | none=>rw[b z e];rfl
 | some p=>
  obtain⟨t,u,_⟩:=c z p.1 p.2 e
  rw[u];rfl
def MU(R:Rs Str)(n s:Nat)(ns:List Str)(z:Str):Option (Nat×Nat):=if z∈ns then some (n,s) else fR R z
theorem RK{R:Rs Str}{n:Nat}{ns:List Str}(h:∀z∈ns,qI R z=none)(z:Str):MU R n R.length ns z=fR (R++[(n,ns)]) z:=by
 unfold MU fR
 by_cases c:z∈ns
 ·rw[if_pos c,k8 (h z c) c,kA (h z c) c]
  rfl
 ·rw[if_neg c,JK]
  cases e:qI R z with
  | some m=>
   show some (m,Jc R z)=some (m,Jc (R++[(n,ns)]) z)
   rw[(Je e).1]
  | none=>
   show none=Option.map _ (if z∈ns then some n else none)
   rw[if_neg c]
   rfl
def Nu:Sp:=λvs H Q _=>∃(l:Addr) (ps:List Addr) (rs:qV),vs=[.ref l]/\jP H l ps rs/\
 ∀H' D R,Same H H'->H D=none->QY (rs.map (·.1)) H' D (fR R)->All (Jd rs) (rs.map (·.1)) 0 [] R->Q (.ref D) H'
section
variable{P:Program}{w:World}{K:zdW}{mg:Str->Option Value}{base:Heap}
abbrev qcv:List Str:=["_law_rows_here","_law_roads","_law_found","_law_step","_law_number","_law_coming","_law_name"]
theorem ZP:qt qcv ["_law_rows_here"] (qj Jw):=zdV
theorem Ug{f fC fB:Addr}{fd fdC fdB:zea}(F:jK K "_law_numbers" "_law_numbers" Jw f fd)(B:QO mg)(hdi:mg "dict"=none)(hB:qQ K mg "_law_back" ZZ yR fB fdB)(hC:qQ K mg "_law_comes" ZA yR fC fdC):qo P w K mg base qH 3 f fd ["_law_rows_here"] Nu:=by
 have GC:qo P w K mg base qH 2 fC fdC yR VX:=y3 hC.fn B hB
 refine F.okJ ZP (λvs H Q E h=>?_) (λcdv A outer s H vs Q E hr h=>?_)
 ·obtain⟨l,ps,rs,rfl,_⟩:=h
  rfl
 ·obtain⟨l,ps,rs,rfl,g,q⟩:=h
  have hu:=jX hr
  refine⟨_,qg (qx (i:=1) ZP.nd rfl (Or.inl rfl) (MS (jB (X0 rfl) (by rfl) hdi boot_dict (qd (jv 0) qf))))
   (qg (qx (i:=2) ZP.nd rfl (Or.inl rfl) Qp)
   (qg (qx (i:=3) ZP.nd rfl (Or.inl rfl) qk)
   (qg (ja PassesOwn.never rfl (jA (by rfl) B.rng (qd qk qf)) (qw (i:=4) ZP.nd rfl (Or.inl rfl))
    (qg (qx (i:=5) ZP.nd rfl (Or.inl rfl) (jz (qd qE qf)))
    (qh (zw PassesOwn.never (qv (YT (zbU hu)) (jv 5) (jz qf) (qA _))
     (qg (qx (i:=5) ZP.nd rfl (Or.inl rfl) (jz qf))
     (qg (ja PassesOwn.never rfl (MO (jv 1)) (qw (i:=6) ZP.nd rfl (Or.inl rfl))
      (qh (qM (JW.pt (j1 (Qo (JJ hu (jv 6) (jv 2))) (jJ (jl (qF hC GC hr (by rfl) (qd (jv 1) (qd (jv 2) (qd (jv 6) (qd (jv 4) qf))))))))) (qh (je (ZS zau zaY zaZ QA (jv 5) (qd (jv 6) qf)))) qB)))
     (qg (ja PassesOwn.never rfl (qJ (jv 5)) (qw (i:=6) ZP.nd rfl (Or.inl rfl)) (qh (jy hu (jv 2) (jv 6) (jp (qd (jv 4) (qd (jv 3) qf))) rfl)))
     (qh (qx (i:=3) ZP.nd rfl (Or.inl rfl) (qL Qk (jv 3) (jB Yd (by rfl) B.int boot_int (qd (Qq (YT (zbU hu)) (jv 5) (jz qf) (qA _)) qf))))))))))))
   (qh (qy (jv 2)))))),?_⟩
  have good:=g.good
  have le14:=g.le
  have nd:=good.nd
  have lN:(rs.map (·.1)).length=rs.length:=tj ..
  refine⟨_,rfl,Mq (Ki g λd kvs hd ek hv=>⟨d,kvs,rfl,qe,λo=>?_⟩)⟩
  rw[jI]
  have s1:Same H (upd H d (.frz o (.dK kvs))):=ql hd
  have hd1:upd H d (.frz o (.dK kvs)) d=some (.frz o (.dK kvs)):=qe
  generalize upd H d (.frz o (.dK kvs))=H1 at s1 hd1
  intro e he
  have s2:Same H1 (upd H1 e (.dK [])):=ql he
  have he2:upd H1 e (.dK []) e=some (.dK []):=qe
  have he0:H e=none:=jt s1 he
  have nde:d≠e:=λz=>by rw[<-z,hd1]at he;cases he
  generalize upd H1 e (.dK [])=H2 at s2 he2
  have ldG:∀{G:Hp},Fr H2 e G->NM G d rs:=λfr=>by
   refine⟨o,kvs,fr _ _ (s2 _ _ hd1) nde,ek,λr hr=>?_⟩
   obtain⟨t,a,b⟩:=hv r hr
   have b2:=s2 _ _ (s1 _ _ b)
   exact⟨t,a,fr _ _ b2 (λz=>by rw[z,he2]at b2;cases b2)⟩
  have hdG:∀{G:Hp},Fr H2 e G->G d=some (.frz o (.dK kvs)):=λfr=>fr _ _ (s2 _ _ hd1) nde
  refine⟨15,rfl,by decide,by decide,?_⟩
  refine QC (λi σ G=>∃(v4 v5 v6:Option V) (R:Rs Str),σ=[some (.ref l),some (.ref d),some (.ref e),some (.int (R.length:Nat)),v4,v5,v6]/\Fr H2 e G/\QY (rs.map (·.1)) G e (fR R)/\Wd (Jd rs) (rs.map (·.1)) i R)
   ⟨none,none,none,[],rfl,Fr.refl,⟨[],he2,λz _=>rfl,λz n s h=>(nomatch h),zbn,λk h=>(nomatch h)⟩,.nil⟩ ?_ ?_
  ·rintro i σ G hi ⟨v4,v5,v6,R0,rfl,fr0,fd0,up0⟩
   rw[zbJ]
   have hi:i < 15:=by simpa using hi
   refine⟨by show 1<=zeb;decide,λc0 hc0=>?_⟩
   have sc:Same G (upd G c0 (.lst [V.str ""])):=ql hc0
   refine Z9 (λσ G=>∃(v6:Option V) (c:Addr) (cs:List Str) (R:Rs Str),σ=[some (.ref l),some (.ref d),some (.ref e),some (.int (R.length:Nat)),some (.int (i:Nat)),some (.ref c),v6]/\Fr H2 e G/\QY (rs.map (·.1)) G e (fR R)/\G c=some (.lst (cs.map V.str))/\
     (∀R',Qv (Jd rs) (rs.map (·.1)) i R R'->Qv (Jd rs) (rs.map (·.1)) i R0 R')/\(cs=[]->UL (Jd rs) (rs.map (·.1)) R i []))
    (λσ G=>2*Q9 (rs.map (·.1)) G e+(match σ with | [_,_,_,_,_,some (.ref c),_]=>(match G c with | some (.lst (_::_))=>1 | _=>0) | _=>0))
    ⟨v6,c0,[""],R0,rfl,fr0.same sc,fd0.mono sc,qe,λR' h=>h,λh=>(nomatch h)⟩ ?_ ?_
   ·rintro σ G ⟨v6,c,cs,R,rfl,fr,fd,hc,giv,fin⟩
    refine⟨_,rfl,by show 0<=zeb;decide,λl0 hl0=>?_⟩
    have s0:Same G (upd G l0 (.lst [])):=ql hl0
    refine⟨c,l0,_,rfl,rfl,.of (s0 _ _ hc),.of qe,_,rfl,?_⟩
    cases cs with
    | nil=>
     have r0:=fin rfl
     exact ji ⟨_,_,_,R,rfl,fr.same s0,fd.mono s0,.more up0 (giv R (.stop r0))⟩
    | cons c1 cs=>
     refine j3 ⟨by show 0<=zeb;decide,λc2 hc2=>?_⟩
     have mu0:(2*Q9 (rs.map (·.1)) G e+(match G c with | some (.lst (_::_))=>1 | _=>0))=2*Qf rs (qI R)+1:=by
      rw[hc]
      show 2*Q9 (rs.map (·.1)) G e+1=_
      rw[fd.bare]
      unfold Qf
      simp only[RS]
     have sA:Same G (upd (upd G l0 (.lst [])) c2 (.lst [])):=s0.trans (ql hc2)
     have hcA:upd (upd G l0 (.lst [])) c2 (.lst []) c2=some (.lst []):=qe
     have hc2G:G c2=none:=jt s0 hc2
     generalize upd (upd G l0 (.lst [])) c2 (.lst [])=GA at sA hcA
     refine⟨_,rfl,d,o,kvs,rs.map (·.1),rfl,hdG (fr.same sA),ek,?_⟩
     refine RQ (zs:=rs.map (·.1)) (λj σ' G'=>∃(v6:Option V) (ns:List Str),σ'=[some (.ref l),some (.ref d),some (.ref e),some (.int (R.length:Nat)),some (.int (i:Nat)),some (.ref c2),v6]/\Same G G'/\G' c2=some (.lst (ns.map V.str))/\ns.Sublist ((rs.map (·.1)).take j)/\∀x,x∈ns↔x∈(rs.map (·.1)).take j/\qI R x=none/\YE (Jd rs) (qI R) x i)
      ⟨v6,[],rfl,sA,hcA,List.nil_sublist _,λx=>by simp⟩ (λj σ' G' _ ⟨_,_,_,s,_⟩=>s _ _ (hdG fr)) ?_ ?_
     ·rintro j z σ' G1 ez ⟨v6',ns,rfl,sG,hcG,sub,iff⟩
      have hz:z∈rs.map (·.1):=t9 ez
      have hj:=(tw.mp ez).1
      have etk:(rs.map (·.1)).take (j+1)=(rs.map (·.1)).take j++[z]:=by rw[tP,ez];rfl
      have nz:z∉(rs.map (·.1)).take j:=λm=>Qz nd ez (tL.mpr ⟨z,m,rfl⟩)
      have skip:∀{G2:Hp},Same G1 G2->¬(qI R z=none/\YE (Jd rs) (qI R) z i)->∃(v6:Option V) (ns:List Str),[some (V.ref l),some (.ref d),some (.ref e),some (.int (R.length:Nat)),some (.int (i:Nat)),some (.ref c2),some (.str z)]=[some (.ref l),some (.ref d),some (.ref e),some (.int (R.length:Nat)),some (.int (i:Nat)),some (.ref c2),v6]/\Same G G2/\G2 c2=some (.lst (ns.map V.str))/\ns.Sublist ((rs.map (·.1)).take (j+1))/\∀x,x∈ns↔x∈(rs.map (·.1)).take (j+1)/\qI R x=none/\YE (Jd rs) (qI R) x i:=λ{G2} s' no=>by
       refine⟨_,ns,rfl,sG.trans s',s' _ _ hcG,by rw[etk];exact sub.trans (List.sublist_append_left _ _),λx=>?_⟩
       rw[iff x,etk,tX]
       constructor
       ·rintro⟨a,b⟩;exact⟨.inl a,b⟩
       ·rintro⟨a | a,b⟩
        ·exact⟨a,b⟩
        ·have:x=z:=by simpa using a
         subst this
         exact absurd b no
      have ls:ns.length<=14:=by
       have:=sub.length_le
       rw[tW,lN]at this
       omega
      obtain⟨ov,go,eo,_⟩:=(fd.mono sG).get z
      refine⟨_,rfl,_,rfl,e,_,rfl,go,_,rfl,?_⟩
      rw[eo]
      have e1:(fR R z).isSome=(qI R z).isSome:=by unfold fR;rw[zbe]
      rw[e1]
      cases cz:qI R z with
      | some m=>exact ji (ji (skip (λ_ _ h=>h) λh=>by rw[cz]at h;cases h.1))
      | none=>
       refine j3 ⟨_,rfl,_,rfl,_,rfl,_,rfl,d,e,rs,fR R,z,i,rfl,(ldG fr).mono sG,good,hz,fd.mono sG,by omega,λG2 b s' hb=>⟨b,rfl,?_⟩⟩
       have eg:(f1 (fR R))=qI R:=funext (RS R)
       rw[eg,RN good hz]at hb
       cases b with
       | false=>exact ji (skip s' λh=>absurd (hb.mpr h.2) (by simp))
       | true=>
        have hc3:=s' _ _ hcG
        refine j3 ⟨_,rfl,.inl ⟨rfl,_,.of hc3⟩,_,rfl,c2,_,_,rfl,rfl,hc3,by rw[tj];exact qp (by omega),_,ns++[z],rfl,Same.upd (sG.trans s') hc2G,by rw[tI];exact qe,by rw[etk];exact List.Sublist.append sub (List.Sublist.refl _),λx=>?_⟩
        rw[tX,iff x,etk,tX]
        constructor
        ·rintro(⟨a,b⟩ | a)
         ·exact⟨.inl a,b⟩
         ·have:x=z:=by simpa using a
          subst this
          exact⟨.inr a,cz,hb.mp rfl⟩
        ·rintro⟨a | a,b⟩
         ·exact .inl ⟨a,b⟩
         ·exact .inr a
     ·rintro σ' G1 ⟨v6',ns,rfl,sG,hcG,sub,iff⟩
      rw[tF (tz _)]at sub iff
      have rnd:UL (Jd rs) (rs.map (·.1)) R i ns:=⟨iff,sub⟩
      have nns:ns.Nodup:=nd.sublist sub
      have fr1:Fr H2 e G1:=fr.same sG
      have fd1:=fd.mono sG
      obtain⟨ke,hke⟩:=fd1.isd
      have nce:c2≠e:=λz=>by rw[z,hke]at hcG;cases hcG
      refine⟨_,rfl,c2,rfl,⟨_,.of hcG⟩,?_⟩
      refine jx (K:=K) (a:=c2) (xs:=ns.map V.str) (λm σ' G2=>∃v6,σ'=[some (.ref l),some (.ref d),some (.ref e),some (.int (R.length:Nat)),some (.int (i:Nat)),some (.ref c2),v6]/\Fr H2 e G2/\G2 c2=some (.lst (ns.map V.str))/\QY (rs.map (·.1)) G2 e (MU R i R.length (ns.take m)))
       ⟨v6',rfl,fr1,hcG,fd1.congr λz=>by unfold MU;rw[zdz,if_neg (by simp)]⟩ (λm σ' G2 _ ⟨_,_,_,h,_⟩=>.of h) ?_ ?_
      ·rintro m x σ' G2 hx ⟨v6'',rfl,fr2,hc2',fd2⟩
       obtain⟨z,ez,hz,rfl⟩:=j9 hx
       have hzN:=((iff z).mp hz).1
       have hzn:=((iff z).mp hz).2.1
       have nt:z∉ns.take m:=λq=>Qz nns ez (tL.mpr ⟨z,q,rfl⟩)
       refine⟨_,rfl,_,rfl,by show 2<=zeb;decide,λt ht=>?_⟩
       have st:Same G2 (upd G2 t (.tup [.int (i:Nat),.int (R.length:Nat)])):=ql ht
       have htt:upd G2 t (.tup [.int (i:Nat),.int (R.length:Nat)]) t=some (.tup [.int (i:Nat),.int (R.length:Nat)]):=qe
       generalize upd G2 t (.tup [.int (i:Nat),.int (R.length:Nat)])=G3 at st htt
       obtain⟨o4,put,fd4⟩:=(fd2.mono st).put (z:=z) hzN (by unfold MU fR;rw[if_neg nt,hzn];rfl) (by rw[lN];exact le14) htt
       refine⟨_,rfl,_,rfl,e,_,rfl,put,_,rfl,(fr2.same st).at_d,by rw[qi nce];exact st _ _ hc2',fd4.congr λy=>?_⟩
       unfold MU
       by_cases q:y=z
       ·subst q
        rw[if_pos rfl,if_pos (by rw[tP,ez];simp)]
       ·rw[if_neg q]
        have im:(y∈ns.take (m+1))↔y∈ns.take m:=by
         rw[tP,ez,tX]
         exact⟨λh=>h.resolve_right (by simpa using q),.inl⟩
        by_cases h:y∈ns.take m
        ·rw[if_pos h,if_pos (im.mpr h)]
        ·rw[if_neg h,if_neg (λw=>h (im.mp w))]
      ·rintro σ' G2 ⟨v6'',rfl,fr2,hc2',fd2⟩
       rw[tj,tF (tz _)]at fd2
       refine⟨_,rfl,_,rfl,by show 0<=zeb;decide,λl1 hl1=>?_⟩
       have s9:Same G2 (upd G2 l1 (.lst [])):=ql hl1
       refine⟨c2,l1,_,rfl,rfl,.of (s9 _ _ hc2'),.of qe,.inr ⟨_,rfl,_,_,rfl,rfl,?_⟩⟩
       have fr9:=fr2.same s9
       have fd9:=fd2.mono s9
       have hc9:=s9 _ _ hc2'
       generalize upd G2 l1 (.lst [])=G9 at fr9 fd9 hc9
       cases ns with
       | nil=>
        have eR:QY (rs.map (·.1)) G9 e (fR R):=fd9.congr λz=>by unfold MU;rw[if_neg (by simp)]
        refine⟨⟨v6'',c2,[],R,?_,fr9,eR,hc9,giv,λ_=>rnd⟩,?_⟩
        ·show [_,_,_,some (V.int ((R.length:Int)+0)),_,_,_]=_
         rw[Int.add_zero]
        ·have:=eR.bare
         show 2*Q9 (rs.map (·.1)) G9 e+(match G9 c2 with | some (.lst (_::_))=>1 | _=>0) < 2*Q9 (rs.map (·.1)) G e+(match G c with | some (.lst (_::_))=>1 | _=>0)
         rw[mu0,hc9,this]
         unfold Qf
         simp only[RS]
         show 2*_+0 < _
         omega
       | cons n1 ns=>
        have nw:∀z∈n1::ns,qI R z=none:=λz hz=>((iff z).mp hz).2.1
        have eR:QY (rs.map (·.1)) G9 e (fR (R++[(i,n1::ns)])):=fd9.congr (RK nw)
        refine⟨⟨v6'',c2,n1::ns,R++[(i,n1::ns)],?_,fr9,eR,hc9,λR' h=>giv R' (.more rnd (by simp) h),λh=>(nomatch h)⟩,?_⟩
        ·show [_,_,_,some (V.int ((R.length:Int)+1)),_,_,_]=_
         rw[tH,zav]
         rfl
        ·have:=eR.bare
         have lt:=VC (rs:=rs) (R:=R) (n:=i) (ns:=n1::ns) (λz hz=>⟨((iff z).mp hz).1,nw z hz⟩) (by simp)
         show 2*Q9 (rs.map (·.1)) G9 e+(match G9 c2 with | some (.lst (_::_))=>1 | _=>0) < 2*Q9 (rs.map (·.1)) G e+(match G c with | some (.lst (_::_))=>1 | _=>0)
         rw[mu0,hc9,this]
         show 2*Qf rs (f1 (fR (R++[(i,n1::ns)])))+1 < _
         have e2:Qf rs (f1 (fR (R++[(i,n1::ns)])))=Qf rs (qI (R++[(i,n1::ns)])):=by
          unfold Qf
          simp only[RS]
         rw[e2]
         omega
   ·rintro σ G Q1 Q2 kk ⟨x,ex,h1,h2⟩
    exact⟨x,ex,h1,λl0 hl0=>let ⟨a,b,xs,e1,e2,e3,e4,kb,e5,q1⟩:=h2 l0 hl0;⟨a,b,xs,e1,e2,e3,e4,kb,e5,kk _ _ q1⟩⟩
  ·rintro σ G ⟨v4,v5,v6,R,rfl,fr,fd,up⟩
   exact⟨_,rfl,q G e R (λb u hb=>fr _ _ (s2 _ _ (s1 _ _ hb)) (qr hb he0)) he0 fd (up.whole (by rw[lN];show rs.length < 15;omega))⟩
end
theorem wg{ns ms:List Nat}(h:∀x,x∈ns↔x∈ms):Rb.setN ns=Rb.setN ms:=zdx λk=>by rw[Rb.testBit_setN,Rb.testBit_setN,decide_eq_decide.mpr (h k)]
theorem NY{rs:qV}(g:qC rs){f:Str->Option Nat}{z:Str}(hz:z∈rs.map (·.1)):Rb.setN (kn rs f z)=Rb.setN (ZQ rs f z):=wg λx=>by
 rw[vw,Ql]
 constructor
 ·rintro⟨y,hy,e⟩;exact⟨y,(qP g hz).mp hy,e⟩
 ·rintro⟨y,hy,e⟩;exact⟨y,(qP g hz).mpr hy,e⟩
def Nv:Sp:=λvs H Q _=>∃(l:Addr) (ps:List Addr) (rs:qV),vs=[.ref l]/\jP H l ps rs/\
 ∀H' D R,Same H H'->H D=none->jG H' D rs R->All (Jd rs) (rs.map (·.1)) 0 [] R->Q (.ref D) H'
section
variable{P:Program}{w:World}{K:zdW}{mg:Str->Option Value}{base:Heap}
abbrev qcw:List Str:=["_law_rows_here","_law_found","_law_labels_here","_law_name","_law_leads_here","_law_bits","_law_one"]
theorem Yk:qt qcw ["_law_rows_here"] (qj zk):=zdV
theorem vg{f fN fC fB:Addr}{fd fdN fdC fdB:zea}(F:jK K "_law_labels" "_law_labels" zk f fd)(B:QO mg)(hdi:mg "dict"=none)(hB:qQ K mg "_law_back" ZZ yR fB fdB)(hC:qQ K mg "_law_comes" ZA yR fC fdC)(hN:qQ K mg "_law_numbers" Jw ["_law_rows_here"] fN fdN):qo P w K mg base qH 4 f fd ["_law_rows_here"] Nv:=by
 have GN:qo P w K mg base qH 3 fN fdN ["_law_rows_here"] Nu:=Ug hN.fn B hdi hB hC
 refine F.okJ Yk (λvs H Q E h=>?_) (λcdv A outer s H vs Q E hr h=>?_)
 ·obtain⟨l,ps,rs,rfl,_⟩:=h
  rfl
 ·obtain⟨l,ps,rs,rfl,g,q⟩:=h
  have hu:=jX hr
  refine⟨_,qg (qx (i:=1) Yk.nd rfl (Or.inl rfl) (qF hN GN hr (by rfl) (qd (jv 0) qf)))
   (qg (qx (i:=2) Yk.nd rfl (Or.inl rfl) Qp)
   (qg (ja PassesOwn.never rfl (qJ (jv 0)) (Z4 rfl (jC (qw (i:=3) Yk.nd rfl (Or.inl rfl)) (jC (qw (i:=4) Yk.nd rfl (Or.inl rfl)) JY)))
    (qh (qM (Qo (J0 hu (jv 3) (jv 1)))
     (qh (jy hu (jv 2) (jv 3) (qL GD (jp (qd qE qf)) (qW hu (jv 1) (jv 3) (λ_ _=>rfl))) rfl))
     (qg (qx (i:=5) Yk.nd rfl (Or.inl rfl) qk)
     (qg (ja PassesOwn.never rfl (z9 (jv 4)) (qw (i:=6) Yk.nd rfl (Or.inl rfl))
      (qh (qM (Qo (J0 hu (jv 6) (jv 1))) (qh (qx (i:=5) Yk.nd rfl (Or.inl rfl) (qL NC (jv 5) (qL wV qk (qT qR (qW hu (jv 1) (jv 6) (λ_ _=>rfl)) qk (λ_ _=>rfl)))))) qB)))
     (qh (jy hu (jv 2) (jv 3) (jp (qd qE (qd (jv 5) qf))) rfl)))))))
   (qh (qy (jv 2))))),?_⟩
  have good:=g.good
  have le14:=g.le
  have nd:=good.nd
  refine⟨_,rfl,l,ps,rs,rfl,g,λH1 e R s1 he fd all=>?_⟩
  have L:=uH (J5 nd) all
  intro D hD
  have hD0:H D=none:=jt s1 hD
  have sD:Same H1 (upd H1 D (.dK [])):=ql hD
  have hDD:upd H1 D (.dK []) D=some (.dK []):=qe
  generalize upd H1 D (.dK [])=H2 at sD hDD
  have s12:=s1.trans sD
  have fd2:=fd.mono sD
  have nDe:e≠D:=λz=>by
   obtain⟨k0,h0⟩:=fd.isd
   rw[z,hD]at h0;cases h0
  have fdG:∀{G:Hp},Fr H2 D G->QY (rs.map (·.1)) G e (fR R):=λfr=>by
   obtain⟨kvs,a,b,c,x⟩:=fd2.at_
   refine⟨kvs,fr _ _ a nDe,b,λz n s hz=>?_,x⟩
   obtain⟨t,u,v⟩:=c z n s hz
   exact⟨t,u,fr _ _ v (λq=>by rw[q,hDD]at v;cases v)⟩
  have nlD:l≠D:=λz=>by have:=s12 _ _ g.at_;rw[z,hDD]at this;cases this
  have gG:∀{G:Hp},Fr H2 D G->jP G l ps rs:=λfr=>(g.mono s12).fr' hDD fr
  refine⟨_,rfl,l,rfl,⟨_,.of (s12 _ _ g.at_)⟩,?_⟩
  refine jx (K:=K) (a:=l) (xs:=ps.map V.ref) (λi σ' G=>∃(v3 v4 v5 v6:Option V) (kvs:List (qN×V)),σ'=[some (.ref l),some (.ref e),some (.ref D),v3,v4,v5,v6]/\Fr H2 D G/\G D=some (.dK kvs)/\kvs.map (·.1)=((rs.map (·.1)).take i).map Sum.inr/\∀r∈rs.take i,∃t,jg kvs (Sum.inr r.1:qN)=some (.ref t)/\G t=some (.tup (QX rs R r.1)))
   ⟨none,none,none,none,[],rfl,Fr.refl,hDD,rfl,λr h=>(nomatch h)⟩ (λi σ' G _ ⟨_,_,_,_,_,_,f,_⟩=>.of (gG f).at_) ?_ ?_
  ·rintro i y σ' G3 hy ⟨v3,v4,v5,v6,kvs,rfl,fr,hDk,ek,hv⟩
   obtain⟨p,qq,r,rfl,er,hr',ha,hb⟩:=(gG fr).rows.item hy
   have hi:=(tw.mp er).1
   have eN:(rs.map (·.1))[i]?=some r.1:=by rw[tG,er];rfl
   have hrN:r.1∈rs.map (·.1):=tL.mpr ⟨r,hr',rfl⟩
   have lk:kvs.length=i:=by
    have:=congrArg zax ek
    rw[tj,tj,tW,tj]at this
    omega
   have new:jg kvs (Sum.inr r.1:qN)=none:=Jt (by rw[ek];exact Qz nd eN)
   have fin:∀(G4:Hp) (t:Addr) (v3 v4 v5 v6:Option V),Same G3 G4->G4 t=some (.tup (QX rs R r.1))->∃H5,Jb G4 D (.str r.1) (.ref t) H5/\
     ∃(v3' v4' v5' v6':Option V) (kvs:List (qN×V)),[some (V.ref l),some (.ref e),some (.ref D),v3,v4,v5,v6]=[some (.ref l),some (.ref e),some (.ref D),v3',v4',v5',v6']/\Fr H2 D H5/\H5 D=some (.dK kvs)/\kvs.map (·.1)=((rs.map (·.1)).take (i+1)).map Sum.inr/\∀r∈rs.take (i+1),∃t,jg kvs (Sum.inr r.1:qN)=some (.ref t)/\H5 t=some (.tup (QX rs R r.1)):=λG4 t v3 v4 v5 v6 s4 ht=>by
    have h4:=s4 _ _ hDk
    refine⟨_,Jb.k (k:=(Sum.inr r.1:qN)) h4 (qp (by omega)),v3,v4,v5,v6,jQ kvs (Sum.inr r.1) (.ref t),rfl,(fr.same s4).at_d,qe,?_,λr2 hr2=>?_⟩
    ·rw[QJ _ new,tI,ek,tP,eN,tI]
     rfl
    ·have tD:∀{b:Addr} {xs:List V},G4 b=some (.tup xs)->b≠D:=λhb e=>by rw[e,h4]at hb;cases hb
     rw[tP,er]at hr2
     rcases tX.mp hr2 with h | h
     ·obtain⟨t2,a,b⟩:=hv r2 h
      have ne:r2.1≠r.1:=λe=>by rw[e,new]at a;cases a
      refine⟨t2,?_,?_⟩
      ·rw[j0,if_neg (λq=>ne (Sum.inr.inj q))];exact a
      ·rw[qi (tD (s4 _ _ b))];exact s4 _ _ b
     ·have:r2=r:=by simpa using h
      subst this
      exact⟨t,by rw[j0,if_pos rfl],by rw[qi (tD ht)];exact ht⟩
   refine⟨p,_,rfl,.of ha,rfl,_,_,rfl,_,_,rfl,rfl,?_⟩
   obtain⟨ov,go,eo,ho⟩:=(fdG fr).get r.1
   refine⟨_,rfl,_,rfl,e,_,rfl,go,_,rfl,?_⟩
   rw[eo]
   have e1:(fR R r.1).isSome=(qI R r.1).isSome:=by unfold fR;rw[zbe]
   rw[e1]
   cases cz:qI R r.1 with
   | some n=>
    have ef:fR R r.1=some (n,Jc R r.1):=by unfold fR;rw[cz];rfl
    obtain⟨t0,et,ht0⟩:=ho _ _ ef
    rw[et]at go
    have el:QX rs R r.1=[.str "number",.int (n:Nat),.int (Jc R r.1:Nat)]:=by unfold QX;rw[cz]
    refine j3 ⟨by show 1<=zeb;decide,λt1 ht1=>?_⟩
    have s5:Same G3 (upd G3 t1 (.tup [.str "number"])):=ql ht1
    have go5:=(((fdG fr).mono s5).get r.1)
    obtain⟨ov5,go5,_,ho5⟩:=go5
    obtain⟨t5,et5,ht5⟩:=ho5 _ _ ef
    rw[et5]at go5
    refine⟨_,rfl,_,rfl,e,_,rfl,go5,t1,t5,_,_,rfl,rfl,qe,ht5,by show 1+2<=zeb;decide,λt6 G6 s6 ht6=>?_⟩
    obtain⟨H7,put,kk⟩:=fin G6 t6 (some (.str r.1)) (some (.ref qq)) v5 v6 (s5.trans s6) (by rw[el];exact ht6)
    exact⟨_,rfl,_,rfl,D,H7,rfl,put,kk⟩
   | none=>
    have el:QX rs R r.1=[.str "endless",.int (Rb.setN (ZQ rs (qI R) r.1):Nat)]:=by unfold QX;rw[cz]
    refine ji ⟨_,rfl,qq,rfl,⟨_,.of hb⟩,?_⟩
    have eld:j8 rs r.1=r.2:=zu nd hr'
    refine Y0 (K:=K) (a:=qq) (xs:=r.2.map V.str) (λm σ'' G4=>∃v6,σ''=[some (.ref l),some (.ref e),some (.ref D),some (.str r.1),some (.ref qq),some (.int (Rb.setN ((r.2.take m).filterMap (qI R)):Nat)),v6]/\G4=G3)
     ⟨v6,rfl,rfl⟩ (λm σ'' G4 _ ⟨_,_,e⟩=>e▸.of hb) ?_ ?_
    ·rintro m x σ'' G4 hx ⟨v6',rfl,rfl⟩
     obtain⟨y,ey,hy,rfl⟩:=j9 hx
     obtain⟨oy,gy,eoy,hoy⟩:=(fdG fr).get y
     refine⟨_,rfl,_,rfl,e,_,rfl,gy,_,rfl,?_⟩
     rw[eoy]
     have e2:(fR R y).isSome=(qI R y).isSome:=by unfold fR;rw[zbe]
     rw[e2]
     have etk:(r.2.take (m+1)).filterMap (qI R)=(r.2.take m).filterMap (qI R)++[y].filterMap (qI R):=by
      rw[tP,ey,zap]
      rfl
     rw[etk]
     cases cy:qI R y with
     | none=>
      have e3:[y].filterMap (qI R)=[]:=by simp [cy]
      rw[e3,zan]
      exact ji ⟨_,rfl,rfl⟩
     | some n=>
      have e3:[y].filterMap (qI R)=[n]:=by simp [cy]
      have efy:fR R y=some (n,Jc R y):=by unfold fR;rw[cy];rfl
      obtain⟨ty,ety,hty⟩:=hoy _ _ efy
      rw[ety]at gy
      have hyN:y∈rs.map (·.1):=YV good hrN (by rw[eld];exact hy)
      have n8:=XE good L hyN cy
      rw[e3,Rb.setN_snoc]
      refine j3 ⟨_,rfl,_,rfl,_,rfl,e,_,rfl,gy,ty,_,0,_,rfl,rfl,.of hty,rfl,1,(n:Int),rfl,rfl,⟨by omega,by omega,by decide⟩,_,_,rfl,rfl,some (.str y),?_,rfl⟩
      have e9:(1:Int)*2^ ((n:Int).toNat)=((2^n:Nat):Int):=by
       rw[Int.one_mul,zaT]
       exact(Int.natCast_pow 2 n).symm
      show [_,_,_,_,_,some (V.int (Builtin.bitOr (Rb.setN ((r.2.take m).filterMap (qI R)):Nat) ((1:Int)*2^ ((n:Int).toNat)))),_]=_
      rw[e9,bo]
    ·rintro σ'' G4 ⟨v6',rfl,rfl⟩
     rw[tj,tF (tz _)]
     have ek2:Rb.setN (r.2.filterMap (qI R))=Rb.setN (ZQ rs (qI R) r.1):=by
      have:=NY good (f:=qI R) hrN
      unfold kn at this
      rw[eld]at this
      exact this
     rw[ek2]
     refine⟨_,rfl,by show 2<=zeb;decide,λt ht=>?_⟩
     obtain⟨H7,put,kk⟩:=fin (upd G4 t (.tup [.str "endless",.int (Rb.setN (ZQ rs (qI R) r.1):Nat)])) t (some (.str r.1)) (some (.ref qq)) (some (.int (Rb.setN (ZQ rs (qI R) r.1):Nat))) v6' (ql ht) (by rw[el];exact qe)
     exact⟨_,rfl,_,rfl,D,H7,rfl,put,kk⟩
  ·rintro σ' G3 ⟨v3,v4,v5,v6,kvs,rfl,fr,hDk,ek,hv⟩
   have lp:=(g.rows.1)
   rw[tj,lp]at ek hv
   rw[<-tj (f:=(·.1)) (as:=rs),tF (tz _)]at ek
   rw[tF (tz _)]at hv
   exact⟨_,rfl,q G3 D R (λb u h=>fr _ _ (s12 _ _ h) (qr h hD0)) hD0 ⟨kvs,hDk,ek,hv⟩ all⟩
end
open PySem L2 PyProof.Rows MLab Rb
abbrev ZX:Stmt:=top 60
abbrev Jn:Stmt:=top 61
abbrev Q0:Stmt:=top 62
theorem uE{hs:List Str}{j:Nat}(h:j < hs.length)(y:Str):hs.take j++[y]++hs.drop (j+1)=lf hs (j,y):=by
 unfold lf
 rw[List.set_eq_take_append_cons_drop,if_pos h]
 simp
theorem qbd{rs:qV}(g:qC rs){hs:List Str}(hi:∀z∈hs,∃r∈rs,r.1=z){b:List Str}:b∈mv (j8 rs) hs↔∃m∈mvs rs hs hs.length,b=lf hs m:=by
 rw[jT]
 constructor
 ·rintro⟨p,x,y,q,rfl,hy,rfl⟩
  have hx:x∈rs.map (·.1):=by
   obtain⟨r,hr,e⟩:=hi x (by simp)
   exact tL.mpr ⟨r,hr,e⟩
  have ez:zG (p++x::q) p.length=x:=by unfold zG;simp
  refine⟨(p.length,y),List.mem_flatMap.mpr ⟨p.length,zaU.mpr (by simp),tL.mpr ⟨y,by rw[ez];exact(qP g hx).mp hy,rfl⟩⟩,?_⟩
  unfold lf
  simp
 ·rintro⟨m,hm,rfl⟩
  obtain⟨h1,h2⟩:=Jg hm
  have hz:zG hs m.1∈rs.map (·.1):=by
   obtain⟨r,hr,e⟩:=hi _ (Z8 h1)
   exact tL.mpr ⟨r,hr,e⟩
  refine⟨hs.take m.1,zG hs m.1,m.2,hs.drop (m.1+1),?_,(qP g hz).mpr h2,?_⟩
  ·have:=Zu h1
   obtain⟨h3,h4⟩:=tw.mp this
   rw[<-h4]
   simp
  ·rw[<-uE h1]
   simp
abbrev Zt(rs:qV)(R:Rs Str):Prop:=All (Jd rs) (rs.map (·.1)) 0 [] R
def oW(rs:qV)(R:Rs Str)(hs:List Str):Str:=ZJ (Qi (hs.map (wT rs R)))
def cnt(R:Rs Str)(hs:List Str):Nat:=(hs.map (Jc R)).sum
def Qh(rs:qV)(R:Rs Str)(hs:List Str):List (Nat×Str):=(mvs rs hs hs.length).filter λm=>decide (oW rs R (lf hs m)=zdX "lost")
def Zs(rs:qV)(R:Rs Str)(hs:List Str)(m:Nat×Str):Prop:=∃i:Nat,(Qh rs R hs)[i]?=some m/\∀(j:Nat) (mj:Nat×Str),(Qh rs R hs)[j]?=some mj->cnt R (lf hs m)<=cnt R (lf hs mj)/\(j < i->cnt R (lf hs m) < cnt R (lf hs mj))
theorem Zs.uniq{rs:qV}{R:Rs Str}{hs:List Str}{m m':Nat×Str}(h:Zs rs R hs m)(k:Zs rs R hs m'):m=m':=by
 obtain⟨i,e,b⟩:=h
 obtain⟨j,e',b'⟩:=k
 rcases zaJ i j with c | c | c
 ·have h1:=(b' i m e).2 c
  have h2:=(b j m' e').1
  omega
 ·rw[c,e']at e
  exact(tO.inj e).symm
 ·have h1:=(b j m' e').2 c
  have h2:=(b' i m e).1
  omega
theorem Zs.mem{rs:qV}{R:Rs Str}{hs:List Str}{m:Nat×Str}(h:Zs rs R hs m):m∈mvs rs hs hs.length/\oW rs R (lf hs m)=zdX "lost":=by
 obtain⟨i,e,_⟩:=h
 have:=zad.mp (t9 e)
 exact⟨this.1,of_decide_eq_true this.2⟩
theorem k9(b:Nat):ZJ (.edl b)≠zdX "lost":=by
 show (if b.testBit 0=true then (zdX "won") else zdX "drawn")≠_
 split<;>decide+kernel
theorem QK{rs:qV}{R:Rs Str}{hs:List Str}(h:oW rs R hs=zdX "lost"):∀z∈hs,∃n,qI R z=some n:=λz hz=>by
 cases e:qI R z with
 | some n=>exact⟨n,rfl⟩
 | none=>
  exfalso
  have hm:setN (ZQ rs (qI R) z)∈j6 (hs.map (wT rs R)):=by
   unfold j6
   exact zaF.mpr ⟨.edl _,tL.mpr ⟨z,hz,Zg e⟩,rfl⟩
  unfold oW Qi at h
  cases c:j6 (hs.map (wT rs R)) with
  | nil=>rw[c]at hm;cases hm
  | cons b l=>
   rw[c]at h
   cases l with
   | nil=>exact k9 _ h
   | cons b' l=>exact k9 _ h
theorem US{rs:qV}(good:qC rs){R:Rs Str}(all:Zt rs R){hs:List Str}(hi:∀z∈hs,∃r∈rs,r.1=z)(h:oW rs R hs=zdX "won"):0 < (Qh rs R hs).length:=by
 have L:=uH (J5 good.nd) all
 have nm:∀{b:List Str},(∀z∈b,∃r∈rs,r.1=z)->∀z∈b,z∈rs.map (·.1):=λh z hz=>let ⟨r,hr,e⟩:=h z hz;tL.mpr ⟨r,hr,e⟩
 have d1:¬(zdX "won"=zdX "lost"):=by decide+kernel
 have d2:¬(zdX "won"=zdX "drawn"):=by decide+kernel
 rcases wQ good L (nm hi) with ⟨_,e⟩ | ⟨w,_⟩ | ⟨_,_,e⟩
 ·exact absurd (h.symm.trans e) d1
 ·obtain⟨mb,l⟩:=w
  obtain⟨m,hm,rfl⟩:=(qbd good hi).mp mb
  have:m∈Qh rs R hs:=zad.mpr ⟨hm,decide_eq_true (by
   rcases wQ good L (nm (Yp good hi hm)) with ⟨_,e⟩ | ⟨w,_⟩ | ⟨n,_,_⟩
   ·exact e
   ·exact absurd w (Ul l)
   ·exact absurd l n)⟩
  exact zbq this
 ·exact absurd (h.symm.trans e) d2
theorem xW{rs:qV}{R:Rs Str}(all:Zt rs R)(le:rs.length<=14)(z:Str):Jc R z<=14:=by
 have h1:=Vc (yi all vJ.nil)
 rw[tj]at h1
 have h2:Jc R z<=R.length:=List.findIdx_le_length
 omega
theorem VQ{R:Rs Str}:∀{hs:List Str},(∀z∈hs,Jc R z<=14)->cnt R hs<=14*hs.length:=by
 intro hs
 induction hs with
 | nil=>intro _;exact zaw _
 | cons z hs ih=>
  intro h
  have h1:=h z t8
  have h2:=ih λy hy=>h y (tY _ hy)
  unfold cnt at h2 ⊢
  simp only[tU,zaV,zay]
  omega
theorem k6{α β:Type}(f:α->β)(l:List α):l.filterMap (λx=>some (f x))=l.map f:=by induction l<;>simp [*]
theorem Ya{α β:Type}(p:α->Bool)(f:α->β)(l:List α):(l.filterMap λx=>if p x=true then some (f x) else none)=(l.filter p).map f:=by
 induction l with
 | nil=>rfl
 | cons x l ih=>cases c:p x<;>simp [c,ih]
theorem UN{α:Type}{H:Hp}{f:α->Addr}{g:α->Nat×Str}:∀{l:List α},(∀x∈l,H (f x)=some (.tup (X6 (g x))))->jM H (l.map f) (l.map g):=λ{l} h=>by
 refine⟨by rw[tj,tj],λi p m e1 e2=>?_⟩
 rw[tG]at e1 e2
 cases e:l[i]? with
 | none=>rw[e]at e1;cases e1
 | some x=>
  rw[e]at e1 e2
  cases e1
  cases e2
  exact h x (t9 e)
theorem YD.pts{H:Hp}:∀{ts:List Addr} {os:List ((Nat×Str)×Str)},YD H ts os->∃xs:List (Addr×Addr×((Nat×Str)×Str)),xs.map (·.1)=ts/\xs.map (·.2.2)=os/\∀x∈xs,H x.1=some (.tup [.ref x.2.1,.str x.2.2.2])/\H x.2.1=some (.tup (X6 x.2.2.1)):=by
 intro ts
 induction ts with
 | nil=>
  intro os h
  cases os with
  | nil=>exact⟨[],rfl,rfl,λ_ z=>by cases z⟩
  | cons o os=>cases h.1
 | cons t ts ih=>
  intro os h
  cases os with
  | nil=>cases h.1
  | cons o os=>
   obtain⟨p,h1,h2⟩:=h.2 0 t o rfl rfl
   obtain⟨xs,e1,e2,hx⟩:=ih (os:=os) ⟨zcP.inj h.1,λi a b e1 e2=>h.2 (i+1) a b (by simpa using e1) (by simpa using e2)⟩
   refine⟨(t,p,o)::xs,by rw[tU,e1],by rw[tU,e2],λx hx'=>?_⟩
   rcases tS.mp hx' with rfl | hx'
   ·exact⟨h1,h2⟩
   ·exact hx x hx'
theorem KF(rs:qV)(R:Rs Str)(hs:List Str):((Vb rs R hs).filter λo=>decide (o.2=zdX "lost")).map (·.1)=Qh rs R hs:=by
 unfold Vb Qh
 rw[zdr,zaO]
 show zdQ id _=_
 rw[List.map_id]
 rfl
def YI(CG:Addr):Sp:=λvs H Q _=>∃(g D h:Addr) (rs:qV) (R:Rs Str) (hs:List Str),vs=[.ref g,.ref D,.ref h]/\Qu CG H g rs/\qC rs/\rs.length<=14/\jG H D rs R/\Zt rs R/\jH H h rs hs/\
 ∀H' L ps,Same H H'->H L=none->H' L=some (.lst (ps.map V.ref))->jM H' ps (Qh rs R hs)->Q (.ref L) H'
def QU:Sp:=λvs H Q _=>∃(D h:Addr) (rs:qV) (R:Rs Str) (hs:List Str),vs=[.ref D,.ref h]/\rs.length<=14/\jG H D rs R/\Zt rs R/\jH H h rs hs/\(∀z∈hs,∃n,qI R z=some n)/\∀H',Same H H'->Q (.int (cnt R hs:Nat)) H'
def zU:Str:=(zdX "winner_by"++zdX ".<locals>.")++zdX "<lambda>"
def YH(CG PT:Addr):Sp:=λvs H Q _=>∃(g D h:Addr) (rs:qV) (R:Rs Str) (hs:List Str),vs=[.ref g,.ref D,.ref h]/\Qu CG H g rs/\qC rs/\rs.length<=14/\jG H D rs R/\Zt rs R/\jH H h rs hs/\0 < (Qh rs R hs).length/\(∃tq,H PT=some (.tbl #[.str zU tq]))/\
 ∀H' p m,Same H H'->H' p=some (.tup (X6 m))->Zs rs R hs m->Q (.ref p) H'
section
variable{P:Program}{w:World}{K:zdW}{mg:Str->Option Value}{base:Heap}
abbrev p3:List Str:=["ground","labels","heap"]
theorem K1:qt p3 p3 (qj ZX):=zdV
theorem ua{f CG:Addr}{fd:zea}(F:jK K "winning_by" "winning_by" ZX f fd)(h:WF K mg)(B:QO mg)(Z:Wk K mg)(G:QM mg)(T:Qt K mg)(M:GM K mg CG)(O:Kt K mg)(V1:Nb K mg):qo P w K mg base qH 11 f fd p3 (YI CG):=by
 obtain⟨fO,fdO,hO⟩:=V1.osby
 have GO:qo P w K mg base qH 10 fO fdO p3 (x5 CG):=GU hO.fn h B Z G T M O V1
 refine F.okJ K1 (λvs H Q E z=>?_) (λcdv A outer s H vs Q E hr z=>?_)
 ·obtain⟨g,D,h',rs,R,hs,rfl,_⟩:=z
  rfl
 ·obtain⟨g,D,h',rs,R,hs,rfl,gr,good,le,lb,all,hh,q⟩:=z
  refine⟨_,qh (qy (j4 (N':=["pair"]) (ix:=[none]) (tt:=Y8 (Yu rEq (Yu (zT K) (jd 0) (tC (.int 1))) (tC (.str (zdX "lost"))))) (te:=Yu (zT K) (jd 0) (tC (.int 0))) rfl ⟨rfl,rfl,rfl,rfl,rfl⟩ (qJ (qF hO GO hr (by rfl) (qd (jv 0) (qd (jv 1) (qd (jv 2) qf))))) (λC s2 H2 fp pins=>
    ⟨qw (i:=0) (Mr _) rfl (Or.inl rfl),jV (qv jL (qT qR (jv 0) qk (λ_ _=>rfl)) qE (qA _)),qT qR (jv 0) qk (λ_ _=>rfl)⟩))),?_⟩
  refine⟨_,rfl,_,rfl,_,rfl,g,D,h',rs,R,hs,rfl,gr,good,le,lb,uH (J5 good.nd) all,hh,λH1 L ts s1 hL hL1 os=>⟨L,rfl,⟨_,.of hL1⟩,λW hW=>?_⟩⟩
  obtain⟨xs,e1,e2,hx⟩:=os.pts
  have lmv:(mvs rs hs hs.length).length<=112:=by
   have:=ZB good le hh.in_ hs.length (tz _)
   have:=hh.le
   omega
  have lxs:xs.length<=112:=by
   have:=congrArg zax e2
   unfold Vb at this
   rw[tj,tj]at this
   omega
  have hL1':H1 L=some (.lst (xs.map λx=>V.ref x.1)):=by
   rw[<-e1,zaO]at hL1
   exact hL1
  refine Q8 (K:=K) (a:=L) (xs:=xs) (enc:=λx=>V.ref x.1) (out:=λx=>if decide (x.2.2.2=zdX "lost")=true then some (V.ref x.2.1) else none) (rest:=[]) hW hL1' (qp (by omega)) (λx hx' Y sY R' hR=>?_) (λx hx' v ev Y sY R' hR=>?_) (λH5 s5 hD5=>?_)
  ·refine⟨_,rfl,x.1,_,1,.str x.2.2.2,rfl,rfl,.of (sY _ _ (hx x hx').1),rfl,rfl,_,rfl,?_⟩
   have r:=hR Y (Same.refl Y)
   have e:(if decide (x.2.2.2=zdX "lost")=true then some (V.ref x.2.1) else none).isSome=decide (V.str x.2.2.2=V.str (zdX "lost")):=by
    by_cases c:x.2.2.2=zdX "lost"
    ·rw[decide_eq_true c,decide_eq_true (by rw[c])];rfl
    ·rw[decide_eq_false c,decide_eq_false λz=>c (V.str.inj z)];rfl
   rw[e]at r
   exact r
  ·have ev':v=.ref x.2.1:=by
    by_cases c:x.2.2.2=zdX "lost"
    ·rw[decide_eq_true c]at ev;exact(tO.inj ev).symm
    ·rw[decide_eq_false c]at ev;cases ev
   subst ev'
   exact⟨_,rfl,x.1,_,0,_,rfl,rfl,.of (sY _ _ (hx x hx').1),rfl,hR Y (Same.refl Y)⟩
  ·rw[Ya]at hD5
   refine q H5 W ((xs.filter λx=>decide (x.2.2.2=zdX "lost")).map (·.2.1)) (s1.trans s5) (jt s1 hW) (by rw[zaO];exact hD5) ?_
   have e3:(xs.filter λx=>decide (x.2.2.2=zdX "lost")).map (·.2.2.1)=Qh rs R hs:=by
    rw[<-KF,<-e2,zdr,zaO]
    rfl
   rw[<-e3]
   exact UN λx hx'=>s5 _ _ (hx x (zad.mp hx').1).2
theorem Gc:qt ["labels","heap"] ["labels","heap"] (qj Jn):=zdV
theorem Uh{f:Addr}{fd:zea}(F:jK K "count_by" "count_by" Jn f fd)(T:Qt K mg):qo P w K mg base qH 1 f fd ["labels","heap"] QU:=by
 refine F.okJ Gc (λvs H Q E z=>?_) (λcdv A outer s H vs Q E hr z=>?_)
 ·obtain⟨D,h',rs,R,hs,rfl,_⟩:=z
  rfl
 ·obtain⟨D,h',rs,R,hs,rfl,le,lb,all,hh,nm,q⟩:=z
  have hu:=jX hr
  refine⟨_,qh (qy (qD (Yc rfl) (by rfl) T.sum boot_sum (qd (j4 (N':=["place","labels"]) (ix:=[none,some 0]) (te:=Yu (zT K) (Y9 (jd 1) (jd 0)) (tC (.int 2))) rfl ⟨rfl,rfl,rfl,rfl,rfl⟩ (qJ (jv 1)) (λC s2 H2 fp pins=>
    ⟨qw (i:=0) (show (["place","labels"]:List Str).Nodup by decide+kernel) rfl (Or.inl rfl),jN,qT qR (qW hu (jv 1) (jv 0) (λ_ _=>rfl)) qk (λ_ _=>rfl)⟩)) qf))),?_⟩
  refine⟨_,rfl,h',rfl,⟨_,.of hh.at_⟩,λW hW=>?_⟩
  refine Q8 (K:=K) (a:=h') (xs:=hs) (enc:=V.str) (out:=λz=>some (V.int (Jc R z:Nat))) (rest:=[some (.ref D)]) hW hh.at_ (qp (zaa hh.le (by decide))) (λx hx Y sY R' hR=>hR Y (Same.refl Y)) (λx hx v ev Y sY R' hR=>?_) (λH5 s5 hD5=>?_)
  ·cases ev
   obtain⟨kvs,hD,_,hv⟩:=(lb.mono sY).at_
   obtain⟨r,hr',er⟩:=hh.in_ x hx
   obtain⟨t,et,ht⟩:=hv r hr'
   rw[er]at et ht
   obtain⟨n,en⟩:=nm x hx
   unfold QX at ht
   rw[en]at ht
   exact⟨_,rfl,_,rfl,D,_,rfl,by rw[<-et];exact jZ.k (k:=(Sum.inr x:qN)) hD,t,_,2,_,rfl,rfl,.of ht,rfl,hR Y (Same.refl Y)⟩
  ·rw[k6]at hD5
   have hc:=VQ (R:=R) (hs:=hs) λz _=>xW all le z
   have h8:=hh.le
   refine⟨W,hs.map (Jc R),rfl,.of (by rw[zaO];exact hD5),?_,q H5 s5⟩
   show cnt R hs < 2^62
   omega
end
open PySem L2 PyProof.Rows MLab Rb
def qaB:Stmt->Expr
 | .Return (some e) _=>e
 | _=>.Constant .none 0 ⟨0,0,0,0⟩
def qbe:Expr->Expr
 | .Call _ _ (k::_) _=>k.value
 | e=>e
def MD:Expr->Arguments
 | .Lambda a _ _ _=>a
 | _=>{posonlyargs:=[],args:=[],vararg:=none,kwonlyargs:=[],kw_defaults:=[],kwarg:=none,defaults:=[]}
def MC:Expr->Expr
 | .Lambda _ b _ _=>b
 | e=>e
def Rv:Expr->Scope
 | .Lambda _ _ s _=>s
 | _=>{kind:=.function,names:=[],isGenerator:=false,isCoroutine:=false}
abbrev Ky:Expr:=qbe (qaB ((jO Q0).getD 0 (.Pass ⟨0,0,0,0⟩)))
def Nw(ws:List (Str×V)):Sp:=λvs H Q _=>∃(D h p:Addr) (rs:qV) (R:Rs Str) (hs:List Str) (m:Nat×Str),ws=[(zdX "labels",.ref D),(zdX "heap",.ref h)]/\vs=[.ref p]/\qC rs/\rs.length<=14/\jG H D rs R/\Zt rs R/\jH H h rs hs/\H p=some (.tup (X6 m))/\m∈Qh rs R hs/\∀H',Same H H'->Q (.int (cnt R (lf hs m):Nat)) H'
abbrev Nt(PT f:Addr)(fd:zea):Sp:=λvs H Q E=>∃ws,vL H PT f zU (MD Ky) (MC Ky) (Rv Ky) fd ws/\Nw ws vs H Q E
def qbN(PT f:Addr)(fd:zea)(sp:Sp):Prop:=(∃(pm ctv:Value) (c':Addr) (cl:List (Str×Addr)),fd=zdw "<lambda>" zU (MD Ky) (MC Ky) (Rv Ky) cl pm (.ref c') ctv)/\sp=Nt PT f fd
section
variable{P:Program}{w:World}{K:zdW}{mg:Str->Option Value}{base:Heap}
theorem qaL:UP ["move","labels","heap"] ["move"] ["labels","heap"] (Rv Ky):=⟨rfl,rfl,rfl,by decide+kernel,rfl,by decide+kernel,by decide+kernel,by decide+kernel,by decide+kernel⟩
theorem Ml{PT f fC fL:Addr}{fd fdC fdL:zea}(G:QM mg)(T:Qt K mg)(hC:qQ K mg "count_by" Jn ["labels","heap"] fC fdC)(hL:qQ K mg "left_by" Ym ["heap","move"] fL fdL):qo P w K mg base qH 2 f fd ["move"] (Nt PT f fd):=by
 have GC:qo P w K mg base qH 1 fC fdC ["labels","heap"] QU:=Uh hC.fn T
 have GL:qo P w K mg base qH 1 fL fdL ["heap","move"] zL:=Vf hL.fn G
 refine RZ (PT:=PT) (qual:=zU) (ag:=MD Ky) (be:=MC Ky) (sc:=Rv Ky) (fr:=["labels","heap"]) (sp:=Nw) qaL (λws vs H Q E z=>?_) (λc' cl A outer s H ws vs Q E hr z=>?_)
 ·obtain⟨D,h,p,rs,R,hs,m,rfl,rfl,_⟩:=z
  exact⟨rfl,rfl⟩
 ·obtain⟨D,h,p,rs,R,hs,m,rfl,rfl,good,le,lb,all,hh,hp,hm,q⟩:=z
  have hmm:=zad.mp hm
  refine⟨_,qF hC GC hr (by rfl) (qd (jv 1) (qd (qF hL GL hr (by rfl) (qd (jv 2) (qd (jv 0) qf))) qf)),?_⟩
  refine⟨_,rfl,_,rfl,_,rfl,h,p,hs,m,rfl,hh.at_,hp,(Jg hmm.1).1,λl hl=>?_⟩
  have s1:=ql (o:=HO.lst ((hs.set m.1 m.2).map V.str)) hl
  refine⟨D,l,rs,R,lf hs m,rfl,le,lb.mono s1,all,⟨qe,by unfold lf;rw[zbL];exact hh.le,Yp good hh.in_ hmm.1⟩,QK (of_decide_eq_true hmm.2),λH' s2=>q H' (s1.trans s2)⟩
theorem R3{PT fC fL:Addr}{fdC fdL:zea}(G:QM mg)(T:Qt K mg)(hC:qQ K mg "count_by" Jn ["labels","heap"] fC fdC)(hL:qQ K mg "left_by" Ym ["heap","move"] fL fdL):∀f fd sp,qbN PT f fd sp->qo P w K mg base qH 2 f fd ["move"] sp/\jE K fd ["move"] []:=by
 rintro f fd sp ⟨⟨pm,ctv,c',cl,rfl⟩,rfl⟩
 exact⟨Ml G T hC hL,.all λus hl=>by obtain⟨_,rfl⟩:=QL hl;rfl⟩
theorem K0:qt p3 p3 (qj Q0):=zdV
theorem w9{f c PT CG fW fC fL:Addr}{fd fdW fdC fdL:zea}(F:jK K "winner_by" "winner_by" Q0 f fd)(hc:fd.code=.ref c)(TM:UJ mg base c PT)(B:QO mg)(G:QM mg)(T:Qt K mg)(hC:qQ K mg "count_by" Jn ["labels","heap"] fC fdC)(hL:qQ K mg "left_by" Ym ["heap","move"] fL fdL)
  (hW:qQ K mg "winning_by" ZX p3 fW fdW) (GW:qo P w K mg base qH 11 fW fdW p3 (YI CG)):qo P w K mg base qH 12 f fd p3 (YH CG PT):=by
 have GM:=R3 (P:=P) (w:=w) (base:=base) (PT:=PT) G T hC hL
 refine F.okB hc K0 (λvs H Q E z=>?_) (λA outer s H vs Q E hr z=>?_)
 ·obtain⟨g,D,h',rs,R,hs,rfl,_⟩:=z
  rfl
 ·obtain⟨g,D,h',rs,R,hs,rfl,gr,good,le,lb,all,hh,ne,⟨tq,hP⟩,q⟩:=z
  refine⟨_,Gs (fr:=[(zdX "labels",1),(zdX "heap",2)]) (λp hp=>?_) (λ_=>rfl) (qh (qy (RC (C:=qbN PT) rfl (by rfl) B.min (λf fd sp c=>⟨2,_,(GM f fd sp c).1,hr.mono (by decide),(GM f fd sp c).2⟩)
   (qF hW GW hr (by rfl) (qd (jv 0) (qd (jv 1) (qd (jv 2) qf)))) (RE (fr:=["labels","heap"]) (qual:=zU) TM rfl rfl rfl (by decide+kernel))))),?_⟩
  ·simp only[tS,zaE,or_false]at hp
   rcases hp with rfl | rfl
   ·exact⟨rfl,rfl⟩
   ·exact⟨rfl,rfl⟩
  intro H0 s0 hca
  refine⟨_,rfl,_,rfl,_,rfl,g,D,h',rs,R,hs,rfl,gr.mono s0,good,le,lb.mono s0,all,hh.mono s0,λH1 L ps s1 hL hL1 mv=>?_⟩
  have hca1:=(hca [(zdX "labels",.ref D),(zdX "heap",.ref h')] (λp hp=>by
   simp only[tS,zaE,or_false]at hp
   rcases hp with rfl | rfl
   ·exact⟨1,t8,rfl⟩
   ·exact⟨2,tY _ t8,rfl⟩)).mono s1
  refine⟨⟨tq,s1 _ _ (s0 _ _ hP)⟩,_,rfl,hca1,λfk fdk H2 s2 nf clo=>?_⟩
  have s02:=(s0.trans s1).trans s2
  obtain⟨pm,ctv,c',cl,oc,efd,_⟩:=clo.ex
  refine⟨L,fk,ps.map V.ref,fdk,_,λi=>(((Qh rs R hs)[i]?.map λm=>((cnt R (lf hs m):Nat):Int)).getD 0),λY=>Same H2 Y,rfl,rfl,⟨⟨pm,ctv,c',cl,efd⟩,rfl⟩,Same.refl _,λY sY=>.of (sY _ _ (s2 _ _ hL1)),by rw[tj,mv.1];exact ne,λi x Y hx sY=>?_,λi x Y hx hb sY=>?_⟩
  ·rw[tG]at hx
   cases ep:ps[i]? with
   | none=>rw[ep]at hx;cases hx
   | some p=>
    rw[ep]at hx
    obtain rfl:=(tO.inj hx).symm
    have hi:i < (Qh rs R hs).length:=by rw[<-mv.1];exact(tw.mp ep).1
    have em:(Qh rs R hs)[i]?=some (Qh rs R hs)[i]:=tE hi
    have hp:=mv.2 i p _ ep em
    refine⟨_,clo.mono (λb o u e=>sY _ _ e),D,h',p,rs,R,hs,(Qh rs R hs)[i],rfl,rfl,good,le,lb.mono (s02.trans sY),all,hh.mono (s02.trans sY),(s2.trans sY) _ _ hp,zbu hi,λY' sY'=>⟨?_,sY.trans sY'⟩⟩
    dsimp only
    rw[em]
    rfl
  ·rw[tG]at hx
   cases ep:ps[i]? with
   | none=>rw[ep]at hx;cases hx
   | some p=>
    rw[ep]at hx
    obtain rfl:=(tO.inj hx).symm
    have hi:i < (Qh rs R hs).length:=by rw[<-mv.1];exact(tw.mp ep).1
    have em:(Qh rs R hs)[i]?=some (Qh rs R hs)[i]:=tE hi
    have hp:=mv.2 i p _ ep em
    refine q Y p _ (s02.trans sY) ((s2.trans sY) _ _ hp) ⟨i,em,λj mj ej=>?_⟩
    have hj:j < (ps.map V.ref).length:=by rw[tj,mv.1];exact(tw.mp ej).1
    have:=hb j hj
    dsimp only at this
    rw[em,ej]at this
    have this:((cnt R (lf hs (Qh rs R hs)[i]):Nat):Int)<=((cnt R (lf hs mj):Nat):Int)/\(j < i->((cnt R (lf hs (Qh rs R hs)[i]):Nat):Int) < ((cnt R (lf hs mj):Nat):Int)):=this
    exact⟨by omega,λc=>by have:=this.2 c;omega⟩
end
open PySem L2 PyProof.Rows MLab Rb
abbrev ZY:Stmt:=top 58
abbrev zh:Stmt:=top 63
abbrev Xt:Stmt:=top 64
abbrev zg:Stmt:=top 65
abbrev V3:Stmt:=top 66
abbrev Zi:Stmt:=Qa (top 8) 0
structure Nd(K:zdW)(mg:Str->Option Value)(D:Addr)(x qual:Str)(st:Stmt)(fld:Str)(C f:Addr)(fd:zea):Prop where
 cls:YF K C (.ref D::Qe)
 mkr:EMk K C f (.ref D::Qe)
 ns:mg x=some (.ref C)
 na:j5 K C fld
 fn:jK K "__init__" qual st f fd
 bi:jE K fd ["self",fld] []
theorem qcq(D:Addr):vc (.ref D::Qe):=rfl
theorem xg(D:Addr):(Value.ref D::Qe).contains (.type "BaseException")=true:=rfl
theorem Nd.rcls{K:zdW}{mg:Str->Option Value}{D C f:Addr}{x qual fld:Str}{st:Stmt}{fd:zea}(h:Nd K mg D x qual st fld C f fd):M8 K C:=⟨f,_,h.mkr,xg D⟩
def spE(C:Addr)(fld:Str):Sp:=λvs H Q _=>∃e y,vs=[.ref e,y]/\H e=some (Yb e C)/\∀dx,H dx=none->Q .non (upd (upd H e (ZL e C dx)) dx (.xd [(fld,y)]))
theorem YU{H:Hp}{e dx C:Addr}{fs:List (Str×V)}(h1:H e=none)(h2:upd H e (Yb e C) dx=none):
  Same H (upd (upd (upd H e (Yb e C)) e (ZL e C dx)) dx (.xd fs))/\upd (upd (upd H e (Yb e C)) e (ZL e C dx)) dx (.xd fs) e=some (ZL e C dx)/\upd (upd (upd H e (Yb e C)) e (ZL e C dx)) dx (.xd fs) dx=some (.xd fs):=by
 have ne:e≠dx:=λz=>by rw[<-z,qe]at h2;cases h2
 refine⟨λb o hb=>?_,?_,qe⟩
 ·have b1:b≠e:=qr hb h1
  have b2:b≠dx:=λz=>by rw[<-z,qi b1,hb]at h2;cases h2
  rw[qi b2,qi b1,qi b1];exact hb
 ·rw[qi ne];exact qe
theorem Ur{X:Cx}{x:Str}{st:Stmt}{ps:List Str}{f:Addr}{fd:zea}{k:Nat}{sp:Sp}{E:XK}{e:Expr}{es:List Expr}{t:TA}{p pos:Pos}(h:qQ X.K X.mg x st ps f fd)(G:qo X.prog X.w X.K X.mg X.base (Z7 X.prog X.w) k f fd ps sp)(hr:qU k X.A)(hx:QD (Z7 X.prog X.w) X E)
 (hg:Gl X x) (ha:JA X (e::es) t) (hdb:(x==("__debug__":Str))=false:=by decide) (he:starEach (e::es) X.env=(false,eval e X.env)::starEach es X.env:=by rfl) (hpl:(backTo pos (starEach es X.env)).any (·.1)=false:=by rfl):
 JE X (.Call (.Name x p) (e::es) [] pos) (ZO sp [] E t):=.of (kK G hr hg h.ns h.fn.kp h.bi .nil hx ha.to hdb he hpl)
def NP(CS:Addr)(z:Str)(H:Hp)(E:XK):Prop:=∀H1 dx,Same H H1->H1 dx=some (.xd [(zdX "found",.str z)])->E (.ref CS) (some dx) H1
theorem NP.same{CS:Addr}{z:Str}{H H':Hp}{E:XK}(h:NP CS z H E)(s:Same H H'):NP CS z H' E:=λH1 dx s1 e=>h H1 dx (s.trans s1) e
def YJ(CS:Addr):Sp:=λvs H Q E=>∃(D h:Addr) (rs:qV) (R:Rs Str) (hs:List Str) (wd:Str),vs=[.ref D,.ref h,.str wd]/\jG H D rs R/\jH H h rs hs/\(∀z∈hs,zW (wT rs R z))/\(oW rs R hs=wd->∀H',Same H H'->Q .non H')/\(oW rs R hs≠wd->NP CS (oW rs R hs) H E)
def GH(CG:Addr)(H:Hp)(g h:Addr)(rs:qV)(hs:List Str):Prop:=Qu CG H g rs/\qC rs/\rs.length<=14/\jH H h rs hs
theorem Ww{rs:qV}(good:qC rs){R:Rs Str}(all:Zt rs R){hs:List Str}(hi:∀z∈hs,∃r∈rs,r.1=z):∀z∈hs,zW (wT rs R z):=λz hz=>by
 obtain⟨r,hr',e⟩:=hi z hz
 exact Ni good (uH (J5 good.nd) all) (tL.mpr ⟨r,hr',e⟩)
def wL:Str:=zdX "lost"
def wW:Str:=zdX "won"
def wD:Str:=zdX "drawn"
theorem Vg{rs:qV}{R:Rs Str}{hs:List Str}:oW rs R hs=wL\/oW rs R hs=wW\/oW rs R hs=wD:=by
 unfold oW
 cases Qi (hs.map (wT rs R)) with
 | num n=>
  show (if n=0 then (zdX "lost") else zdX "won")=_\/(if n=0 then (zdX "lost") else zdX "won")=_\/_
  split
  ·exact .inl rfl
  ·exact .inr (.inl rfl)
 | edl b=>
  show _\/(if b.testBit 0=true then (zdX "won") else zdX "drawn")=_\/(if b.testBit 0=true then (zdX "won") else zdX "drawn")=_
  split
  ·exact .inr (.inl rfl)
  ·exact .inr (.inr rfl)
theorem xG:wL≠wW:=by decide+kernel
theorem Nj:wL≠wD:=by decide+kernel
theorem Nh:wW≠wD:=by decide+kernel
def Xc(CG:Addr):Sp:=λvs H Q _=>∃(g h:Addr) (rs:qV) (hs:List Str),vs=[.ref g,.ref h]/\GH CG H g h rs hs/\∀H' L ps R,Zt rs R->Same H H'->H L=none->H' L=some (.lst (ps.map V.ref))->jM H' ps (Qh rs R hs)->Q (.ref L) H'
def WY(CG CS:Addr):Sp:=λvs H Q E=>∃(g h:Addr) (rs:qV) (hs:List Str),vs=[.ref g,.ref h]/\GH CG H g h rs hs/\∀R,Zt rs R->(oW rs R hs=wL->∀H',Same H H'->Q (.int (cnt R hs:Nat)) H')/\(oW rs R hs≠wL->NP CS (oW rs R hs) H E)
def Xa(CG CS PT:Addr):Sp:=λvs H Q E=>∃(g h:Addr) (rs:qV) (hs:List Str),vs=[.ref g,.ref h]/\GH CG H g h rs hs/\(∃tq,H PT=some (.tbl #[.str zU tq]))/\∀R,Zt rs R->(oW rs R hs=wW->∀H' p m,Same H H'->H' p=some (.tup (X6 m))->Zs rs R hs m->Q (.ref p) H')/\(oW rs R hs≠wW->NP CS (oW rs R hs) H E)
def U1(CG CS PT:Addr):Sp:=λvs H Q E=>∃(g h:Addr) (rs:qV) (hs:List Str),vs=[.ref g,.ref h]/\GH CG H g h rs hs/\(∃tq,H PT=some (.tbl #[.str zU tq]))/\∀R,Zt rs R->(oW rs R hs=wL->∀H',Same H H'->Q (.int (2*cnt R hs:Nat)) H')/\(oW rs R hs=wW->∀H' m,Same H H'->Zs rs R hs m->Q (.int (1+2*cnt R (lf hs m):Nat)) H')/\(oW rs R hs=wD->NP CS wD H E)
structure HasW(K:zdW)(mg:Str->Option Value):Prop where
 no:∃f fd,qQ K mg "need_outcome_by" ZY ["labels","heap","wanted"] f fd
 wb:∃f fd,qQ K mg "winning_by" ZX p3 f fd
 cb:∃f fd,qQ K mg "count_by" Jn ["labels","heap"] f fd
section
variable{P:Program}{w:World}{K:zdW}{mg:Str->Option Value}{base:Heap}
theorem K4:qt ["self","found"] ["self","found"] (qj Zi):=zdV
theorem kO{D C f:Addr}{fd:zea}(x:Nd K mg D "NotSo" "NotSo.__init__" Zi "found" C f fd):qo P w K mg base qH 1 f fd ["self","found"] (spE C "found"):=by
 refine x.fn.okJ K4 (λvs H Q E h=>?_) (λcdv A outer s H vs Q E hr h=>?_)
 ·obtain⟨e,y,rfl,_⟩:=h
  rfl
 ·obtain⟨e,y,rfl,hH,k⟩:=h
  exact⟨_,qh (MK (bm:=.ref D::Qe) (jv 0) (jv 1) rfl),_,rfl,_,rfl,e,C,rfl,hH,x.cls,qcq D,x.na,λdx hdx=>k dx hdx⟩
abbrev nNO:List Str:=["labels","heap","wanted","found"]
theorem qaI:qt nNO ["labels","heap","wanted"] (qj ZY):=zdV
theorem ug{f fO fX D CS:Addr}{fd fdO fdX:zea}(F:jK K "need_outcome_by" "need_outcome_by" ZY f fd)(hO:qQ K mg "outcome_by" yH ["labels","heap"] fO fdO)(GO:qo P w K mg base qH 9 fO fdO ["labels","heap"] Wn)(xS:Nd K mg D "NotSo" "NotSo.__init__" Zi "found" CS fX fdX):qo P w K mg base (Z7 P w) 10 f fd ["labels","heap","wanted"] (YJ CS):=by
 have GP:qo P w K mg base qH 1 fX fdX ["self","found"] (spE CS "found"):=kO xS
 refine F.okX qaI (λvs H Q E z=>?_) (λcdv A outer s H vs Q E hr z=>?_)
 ·obtain⟨D,h,rs,R,hs,wd,rfl,_⟩:=z
  rfl
 ·obtain⟨D',h,rs,R,hs,wd,rfl,lb,hh,ok,qa,qb⟩:=z
  refine⟨_,qg (qx (i:=3) qaI.nd rfl (Or.inl rfl) (qF hO GO hr (by rfl) (qd (jv 0) (qd (jv 1) qf))))
   (qh (qM (qv wY (jv 3) (jv 2) (qA _)) (qh (Up rfl Ws (Uq xS.mkr GP (hr.mono (by decide)) (by rfl) xS.ns xS.bi QR (qd (jv 3) qf)))) qB)),?_⟩
  refine⟨_,rfl,_,rfl,D',h,rs,R,hs,rfl,lb,hh,ok,λH1 s1=>⟨_,rfl,_,rfl,rfl,_,rfl,?_⟩⟩
  have e0:ZJ (Qi (hs.map (wT rs R)))=oW rs R hs:=rfl
  rw[e0]
  by_cases c:oW rs R hs=wd
  ·exact jh (by rw[c];simp) (qa c H1 s1)
  ·refine jn (by have:¬V.str (oW rs R hs)=V.str wd:=λz=>c (V.str.inj z);simpa using this) ⟨_,rfl,by show 1<=zeb;decide,λe he=>⟨e,.str (oW rs R hs),rfl,qe,λdx hdx=>⟨rfl,e,CS,dx,rfl,(YU he hdx).2.1,xS.rcls,?_⟩⟩⟩
   obtain⟨m1,m2,m3⟩:=YU (C:=CS) (fs:=[(zdX "found",V.str (oW rs R hs))]) he hdx
   exact qb c _ dx (s1.trans m1) m3
theorem qb9:qt ["ground","heap"] ["ground","heap"] (qj zh):=zdV
theorem yU{f CG fB fW:Addr}{fd fdB fdW:zea}(F:jK K "winning_moves" "winning_moves" zh f fd)(hB:qQ K mg "labels_of" Jf ["ground"] fB fdB)(GB:qo P w K mg base qH 8 fB fdB ["ground"] (Ju CG))(hW:qQ K mg "winning_by" ZX p3 fW fdW)(GW:qo P w K mg base qH 11 fW fdW p3 (YI CG)):qo P w K mg base qH 12 f fd ["ground","heap"] (Xc CG):=by
 refine F.okJ qb9 (λvs H Q E z=>?_) (λcdv A outer s H vs Q E hr z=>?_)
 ·obtain⟨g,h,rs,hs,rfl,_⟩:=z
  rfl
 ·obtain⟨g,h,rs,hs,rfl,⟨gr,good,le,hh⟩,q⟩:=z
  refine⟨_,qh (qy (qF hW GW hr (by rfl) (qd (jv 0) (qd (qF hB GB (hr.mono (by decide)) (by rfl) (qd (jv 0) qf)) (qd (jv 1) qf))))),?_⟩
  refine⟨_,rfl,_,rfl,g,rs,rfl,gr,good,le,λH1 D R s1 hD lb all=>?_⟩
  exact⟨_,rfl,g,D,h,rs,R,hs,rfl,gr.mono s1,good,le,lb,all,hh.mono s1,λH2 L ps s2 hL hL2 mv=>q H2 L ps R all (s1.trans s2) (jt s1 hL) hL2 mv⟩
abbrev nGL:List Str:=["ground","heap","labels"]
theorem qaP:qt nGL ["ground","heap"] (qj Xt):=zdV
theorem uw{f CG CS fB fH fN fC:Addr}{fd fdB fdH fdN fdC:zea}(F:jK K "count_of" "count_of" Xt f fd)(hB:qQ K mg "labels_of" Jf ["ground"] fB fdB)(GB:qo P w K mg base qH 8 fB fdB ["ground"] (Ju CG))(hH:qQ K mg "need_heap" Zj ["ground","heap"] fH fdH)(GH':qo P w K mg base qH 3 fH fdH ["ground","heap"] (Zw CG))
  (hN:qQ K mg "need_outcome_by" ZY ["labels","heap","wanted"] fN fdN) (GN:qo P w K mg base (Z7 P w) 10 fN fdN ["labels","heap","wanted"] (YJ CS)) (hC:qQ K mg "count_by" Jn ["labels","heap"] fC fdC) (GC:qo P w K mg base qH 1 fC fdC ["labels","heap"] QU):qo P w K mg base (Z7 P w) 11 f fd ["ground","heap"] (WY CG CS):=by
 refine F.okX qaP (λvs H Q E z=>?_) (λcdv A outer s H vs Q E hr z=>?_)
 ·obtain⟨g,h,rs,hs,rfl,_⟩:=z
  rfl
 ·obtain⟨g,h,rs,hs,rfl,⟨gr,good,le,hh⟩,q⟩:=z
  refine⟨_,qg (je (qF hH GH' (hr.mono (by decide)) (by rfl) (qd (jv 0) (qd (jv 1) qf))))
   (qg (qx (i:=2) qaP.nd rfl (Or.inl rfl) (qF hB GB (hr.mono (by decide)) (by rfl) (qd (jv 0) qf)))
   (qg (je (Ur hN GN hr Jy (by rfl) (qd (jv 2) (qd (jv 1) (qd qE qf)))))
   (qh (qy (qF hC GC (hr.mono (by decide)) (by rfl) (qd (jv 2) (qd (jv 1) qf))))))),?_⟩
  refine⟨_,rfl,_,rfl,g,h,rs,hs,rfl,gr,hh,λH1 s1=>⟨_,rfl,g,rs,rfl,gr.mono s1,good,le,λH2 D R s2 hD lb all=>?_⟩⟩
  have s12:=s1.trans s2
  obtain⟨qa,qb⟩:=q R all
  refine⟨_,rfl,_,rfl,D,h,rs,R,hs,wL,rfl,lb,hh.mono s12,Ww good all hh.in_,λc H3 s3=>?_,λc=>(qb c).same s12⟩
  exact⟨_,rfl,_,rfl,D,h,rs,R,hs,rfl,le,lb.mono s3,all,hh.mono (s12.trans s3),QK c,λH4 s4=>qa c H4 ((s12.trans s3).trans s4)⟩
theorem qaF:qt ["ground","heap","labels"] ["ground","heap"] (qj zg):=zdV
theorem yV{f CG CS PT fB fH fN fW:Addr}{fd fdB fdH fdN fdW:zea}(F:jK K "winner" "winner" zg f fd)(hB:qQ K mg "labels_of" Jf ["ground"] fB fdB)(GB:qo P w K mg base qH 8 fB fdB ["ground"] (Ju CG))(hH:qQ K mg "need_heap" Zj ["ground","heap"] fH fdH)(GH':qo P w K mg base qH 3 fH fdH ["ground","heap"] (Zw CG))
  (hN:qQ K mg "need_outcome_by" ZY ["labels","heap","wanted"] fN fdN) (GN:qo P w K mg base (Z7 P w) 10 fN fdN ["labels","heap","wanted"] (YJ CS)) (hW:qQ K mg "winner_by" Q0 p3 fW fdW) (GW:qo P w K mg base qH 12 fW fdW p3 (YH CG PT)):qo P w K mg base (Z7 P w) 13 f fd ["ground","heap"] (Xa CG CS PT):=by
 refine F.okX qaF (λvs H Q E z=>?_) (λcdv A outer s H vs Q E hr z=>?_)
 ·obtain⟨g,h,rs,hs,rfl,_⟩:=z
  rfl
 ·obtain⟨g,h,rs,hs,rfl,⟨gr,good,le,hh⟩,⟨tq,hP⟩,q⟩:=z
  refine⟨_,qg (je (qF hH GH' (hr.mono (by decide)) (by rfl) (qd (jv 0) (qd (jv 1) qf))))
   (qg (qx (i:=2) qaF.nd rfl (Or.inl rfl) (qF hB GB (hr.mono (by decide)) (by rfl) (qd (jv 0) qf)))
   (qg (je (Ur hN GN (hr.mono (by decide)) Jy (by rfl) (qd (jv 2) (qd (jv 1) (qd qE qf)))))
   (qh (qy (qF hW GW hr (by rfl) (qd (jv 0) (qd (jv 2) (qd (jv 1) qf)))))))),?_⟩
  refine⟨_,rfl,_,rfl,g,h,rs,hs,rfl,gr,hh,λH1 s1=>⟨_,rfl,g,rs,rfl,gr.mono s1,good,le,λH2 D R s2 hD lb all=>?_⟩⟩
  have s12:=s1.trans s2
  obtain⟨qa,qb⟩:=q R all
  refine⟨_,rfl,_,rfl,D,h,rs,R,hs,wW,rfl,lb,hh.mono s12,Ww good all hh.in_,λc H3 s3=>?_,λc=>(qb c).same s12⟩
  have s13:=s12.trans s3
  exact⟨_,rfl,_,rfl,_,rfl,g,D,h,rs,R,hs,rfl,gr.mono s13,good,le,lb.mono s3,all,hh.mono s13,US good all hh.in_ c,⟨tq,s13 _ _ hP⟩,λH4 p m s4 hp b=>qa c H4 p m (s13.trans s4) hp b⟩
theorem wu:qt ["ground","heap","labels","found"] ["ground","heap"] (qj V3):=zdV
theorem GZ{f CG CS PT D fX fB fH fO fW fC fL:Addr}{fd fdX fdB fdH fdO fdW fdC fdL:zea}(F:jK K "most_moves" "most_moves" V3 f fd)(hB:qQ K mg "labels_of" Jf ["ground"] fB fdB)(GB:qo P w K mg base qH 8 fB fdB ["ground"] (Ju CG))(hH:qQ K mg "need_heap" Zj ["ground","heap"] fH fdH)(GH':qo P w K mg base qH 3 fH fdH ["ground","heap"] (Zw CG))
  (hO:qQ K mg "outcome_by" yH ["labels","heap"] fO fdO) (GO:qo P w K mg base qH 9 fO fdO ["labels","heap"] Wn) (hW:qQ K mg "winner_by" Q0 p3 fW fdW) (GW:qo P w K mg base qH 12 fW fdW p3 (YH CG PT)) (hC:qQ K mg "count_by" Jn ["labels","heap"] fC fdC) (GC:qo P w K mg base qH 1 fC fdC ["labels","heap"] QU)
  (hL:qQ K mg "left_by" Ym ["heap","move"] fL fdL) (GL:qo P w K mg base qH 1 fL fdL ["heap","move"] zL) (xS:Nd K mg D "NotSo" "NotSo.__init__" Zi "found" CS fX fdX):qo P w K mg base (Z7 P w) 13 f fd ["ground","heap"] (U1 CG CS PT):=by
 have GP:qo P w K mg base qH 1 fX fdX ["self","found"] (spE CS "found"):=kO xS
 refine F.okX wu (λvs H Q E z=>?_) (λcdv A outer s H vs Q E hr z=>?_)
 ·obtain⟨g,h,rs,hs,rfl,_⟩:=z
  rfl
 ·obtain⟨g,h,rs,hs,rfl,⟨gr,good,le,hh⟩,⟨tq,hP⟩,q⟩:=z
  have r1:qU 1 _:=hr.mono (by decide)
  refine⟨_,qg (je (qF hH GH' (hr.mono (by decide)) (by rfl) (qd (jv 0) (qd (jv 1) qf))))
   (qg (qx (i:=2) wu.nd rfl (Or.inl rfl) (qF hB GB (hr.mono (by decide)) (by rfl) (qd (jv 0) qf)))
   (qg (qx (i:=3) wu.nd rfl (Or.inl rfl) (qF hO GO (hr.mono (by decide)) (by rfl) (qd (jv 2) (qd (jv 1) qf))))
   (qg (qM (qv jL (jv 3) qE (qA _)) (qh (qy (qL Qy qk (qF hC GC r1 (by rfl) (qd (jv 2) (qd (jv 1) qf)))))) qB)
   (qg (qM (qv jL (jv 3) qE (qA _)) (qh (qy (qL Qk qk (qL Qy qk (qF hC GC r1 (by rfl) (qd (jv 2) (qd (qF hL GL r1 (by rfl) (qd (jv 1) (qd (qF hW GW hr (by rfl) (qd (jv 0) (qd (jv 2) (qd (jv 1) qf)))) qf))) qf))))))) qB)
   (qh (Up rfl Ws (Uq xS.mkr GP (hr.mono (by decide)) (by rfl) xS.ns xS.bi QR (qd (jv 3) qf)))))))),?_⟩
  refine⟨_,rfl,_,rfl,g,h,rs,hs,rfl,gr,hh,λH1 s1=>⟨_,rfl,g,rs,rfl,gr.mono s1,good,le,λH2 D' R s2 hD lb all=>?_⟩⟩
  have s12:=s1.trans s2
  obtain⟨qa,qb,qc⟩:=q R all
  refine⟨_,rfl,_,rfl,D',h,rs,R,hs,rfl,lb,hh.mono s12,Ww good all hh.in_,λH3 s3=>⟨_,rfl,rfl,_,rfl,?_⟩⟩
  have s13:=s12.trans s3
  have e0:ZJ (Qi (hs.map (wT rs R)))=oW rs R hs:=rfl
  rw[e0]
  by_cases c:oW rs R hs=wL
  ·refine jn (by rw[c];decide+kernel) ⟨_,rfl,_,rfl,D',h,rs,R,hs,rfl,le,lb.mono s3,all,hh.mono s13,QK c,λH4 s4=>⟨_,_,rfl,rfl,.inl ⟨by decide,by decide⟩,?_⟩⟩
   have:=qa c H4 (s13.trans s4)
   rw[Int.natCast_mul]at this
   exact this
  ·refine jh (decide_eq_false λz=>c (V.str.inj z)) ⟨_,rfl,rfl,_,rfl,?_⟩
   by_cases c2:oW rs R hs=wW
   ·refine jn (by rw[c2];decide+kernel) ⟨_,rfl,_,rfl,_,rfl,_,rfl,_,rfl,g,D',h,rs,R,hs,rfl,gr.mono s13,good,le,lb.mono s3,all,hh.mono s13,US good all hh.in_ c2,⟨tq,s13 _ _ hP⟩,λH4 p m s4 hp b=>?_⟩
    have s14:=s13.trans s4
    refine⟨h,p,hs,m,rfl,s14 _ _ hh.at_,hp,(Jg b.mem.1).1,λl hl=>?_⟩
    have s5:=ql (o:=HO.lst ((hs.set m.1 m.2).map V.str)) hl
    refine⟨D',l,rs,R,lf hs m,rfl,le,(lb.mono (s3.trans s4)).mono s5,all,⟨qe,by unfold lf;rw[zbL];exact hh.le,Yp good hh.in_ b.mem.1⟩,QK b.mem.2,λH6 s6=>⟨_,_,rfl,rfl,.inl ⟨by decide,by decide⟩,_,_,rfl,rfl,?_⟩⟩
    have:=qb c2 H6 m ((s14.trans s5).trans s6) b
    rw[Int.natCast_add,Int.natCast_mul]at this
    exact this
   ·have c3:oW rs R hs=wD:=by rcases Vg (rs:=rs) (R:=R) (hs:=hs) with z | z | z<;>first | exact z | exact absurd z c | exact absurd z c2
    refine jh (decide_eq_false λz=>c2 (V.str.inj z)) ⟨_,rfl,by show 1<=zeb;decide,λe he=>⟨e,.str (oW rs R hs),rfl,qe,λdx hdx=>⟨rfl,e,CS,dx,rfl,(YU he hdx).2.1,xS.rcls,?_⟩⟩⟩
    obtain⟨m1,m2,m3⟩:=YU (C:=CS) (fs:=[(zdX "found",V.str (oW rs R hs))]) he hdx
    rw[c3]at m3
    have:=qc c3 _ dx (s13.trans m1)
    rw[c3]
    rw[c3]at this
    exact this m3
end
open PySem L2 PyProof.Rows MLab Rb
abbrev Xm:Stmt:=top 79
abbrev Wr:Stmt:=top 81
theorem yn{K:zdW}{H:Hp}:∀ns:List Nat,DVs K H (ZG ns) (ns.map λn=>PyData.int (n:Nat))
 | []=>.nil
 | n::ns=>.cons (.int _) (yn ns)
theorem yd:∀ns:List Nat,PyData.canLayAll0 (ns.map λn=>PyData.int (n:Nat))=true
 | []=>rfl
 | n::ns=>by
  rw[tU,PyData.canLayAll0,yd ns]
  rfl
theorem WH:∀ns:List Nat,PyData.depthAll (ns.map λn=>PyData.int (n:Nat))<=1
 | []=>by decide
 | n::ns=>by
  rw[tU]
  have:=WH ns
  simp only[PyData.depthAll,PyData.depth]
  omega
theorem KW(ns:List Nat):PySem.SeqAt.shaped (.list (ns.map λn=>PyData.int (n:Nat)))=true:=by
 unfold PySem.SeqAt.shaped
 rw[zar]
 refine⟨yd ns,decide_eq_true ?_⟩
 have:=WH ns
 simp only[PyData.depth]
 omega
theorem RU(ns:List Nat):PyData.eqv (.list (ns.map λn=>PyData.int (n:Nat))) (.list [])=decide (ns=[]):=by
 cases ns with
 | nil=>decide
 | cons n ns=>
  rw[tU,decide_eq_false (by simp)]
  simp [PyData.eqv,PyData.eqvAll]
def zd:Sp:=λvs H Q _=>∃(l h:Addr) (ps:List Addr) (rs:qV) (hs:List Str),vs=[.ref l,.ref h]/\jP H l ps rs/\jH H h rs hs/\
 ∀H' lf qs,Same H H'->H lf=none->H' lf=some (.lst (qs.map V.ref))->jM H' qs (mvs rs hs hs.length)->Q (.ref lf) H'
def zM:Sp:=λvs H Q _=>∃(D h:Addr) (rs:qV) (R:Rs Str) (hs:List Str),vs=[.ref D,.ref h]/\jG H D rs R/\jH H h rs hs/\(∀z∈hs,zW (wT rs R z))/\∀H',Same H H'->Q (.str (oW rs R hs)) H'
def Xd:Sp:=λvs H Q _=>∃(h p:Addr) (hs:List Str) (m:Nat×Str),vs=[.ref h,.ref p]/\H h=some (.lst (hs.map V.str))/\hs.length<=8/\H p=some (.tup (X6 m))/\m.1 < hs.length/\∀H' l,Same H H'->H l=none->H' l=some (.lst ((lf hs m).map V.str))->Q (.ref l) H'
def Qw(rs:qV)(R:Rs Str)(hs:List Str):List Nat:=j6 (hs.map (wT rs R))
theorem KY(ws:List Rb.W):(j6 ws).length<=ws.length:=by unfold j6;exact zaR _ _
def JP(rs:qV)(R:Rs Str)(hs:List Str):Nat:=jS (Q4 (hs.map (wT rs R)))
theorem Gw{rs:qV}{R:Rs Str}{hs:List Str}(ok:∀z∈hs,zW (wT rs R z)):oW rs R hs=(match Qw rs R hs with
  | []=>if JP rs R hs=0 then wL else wW
  | [b]=>if b.testBit (JP rs R hs)=true then wW else wD
  | _=>wD):=by
 unfold oW Qi Qw JP
 have lt:jS (Q4 (hs.map (wT rs R))) < 16:=by
  have h1:=Vh (ws:=hs.map (wT rs R)) λu hu=>by
   obtain⟨z,hz,rfl⟩:=tL.mp hu
   exact ok z hz
  have:∀(ns:List Nat) (b:Nat),b < 16->(∀x∈ns,x < 16)->ns.foldl (·^^^ ·) b < 16:=by
   intro ns
   induction ns with
   | nil=>intro b hb _;exact hb
   | cons a l ih=>
    intro b hb h
    exact ih _ (xor_lt (m:=4) hb (h a t8)) λx hx=>h x (tY _ hx)
  exact this _ 0 (by decide) h1
 cases j6 (hs.map (wT rs R)) with
 | nil=>rfl
 | cons b l=>
  cases l with
  | nil=>
   show (if (turnN b (jS (Q4 (hs.map (wT rs R)))) 16).testBit 0=true then (zdX "won") else zdX "drawn")=_
   rw[Qj lt,zcx]
   rfl
  | cons c l=>
   show (if Nat.testBit 0 0=true then (zdX "won") else zdX "drawn")=wD
   exact if_neg (by decide)
section
variable{P:Program}{w:World}{K:zdW}{mg:Str->Option Value}{base:Heap}
abbrev nLM:List Str:=["_law_rows_here","_law_heap_here","_law_roads","_law_moves_here","_law_token","_law_name"]
abbrev NB:List Str:=["_law_rows_here","_law_heap_here"]
theorem ww:qt nLM NB (qj Zz):=zdV
abbrev Mw:List Str:=["_law_place","_law_leads_here","_law_token","_law_roads","_law_name"]
theorem Wv{f:Addr}{fd:zea}(F:jK K "_law_moves" "_law_moves" Zz f fd)(T:Qt K mg)(hdi:mg "dict"=none):qo P w K mg base qH 1 f fd NB zd:=by
 refine F.okJ ww (λvs H Q E h=>?_) (λcdv A outer s H vs Q E hr h=>?_)
 ·obtain⟨l,h',ps,rs,hs,rfl,_⟩:=h
  rfl
 ·obtain⟨l,h',ps,rs,hs,rfl,g,hh,q⟩:=h
  have hu:=jX hr
  refine⟨_,qg (qx (i:=2) ww.nd rfl (Or.inr rfl) (jB (X0 rfl) (by rfl) hdi boot_dict (qd (jv 0) qf)))
   (qg (qx (i:=3) ww.nd rfl (Or.inl rfl) (jz qf))
   (qg (ja PassesOwn.never rfl (YW (by rfl) T.enu (qd (jv 1) qf)) (Z4 rfl (jC (qw (i:=4) ww.nd rfl (Or.inr rfl)) (jC (qw (i:=5) ww.nd rfl (Or.inr rfl)) JY)))
    (qh (je (ZS zau zcf zcg zY (jv 3) (qd
     (j4 (N':=Mw) (ix:=[none,none,some 4,some 2,some 5]) (g:=MV K 2 (Uv (Jk 0) (Uv (Jk 1) MX))) (tt:=Y8 (Yu (rIn K false) (jd 0) (Y9 (jd 3) (jd 4)))) (te:=yy (jk (jd 2) (jk (jd 0) QT))) rfl ⟨rfl,rfl,rfl,rfl,rfl⟩ (qJ (jv 0)) (λC s2 H2 fp pins=>
      ⟨Z4 rfl (jC (qw (i:=0) (show Mw.Nodup by decide+kernel) rfl (Or.inl rfl)) (jC (qw (i:=1) (show Mw.Nodup by decide+kernel) rfl (Or.inl rfl)) JY)),jV (qv Jz (jv 0) (qW hu (jv 3) (jv 4) (λ_ _=>rfl)) (by with_unfolding_all rfl)),jp (qd (jv 2) (qd (jv 0) qf))⟩)) qf)))))
   (qh (qy (jv 3))))),?_⟩
  obtain⟨qs,lq,hqs⟩:=W8 ps rs g.rows
  have le:=g.le
  refine⟨_,rfl,l,ps,Z3 rs qs,rfl,.of g.at_,by rw[Zo lq,g.rows.1],λi a kv e1 e2=>?_,by rw[Zo lq];omega,λdd hdd=>?_⟩
  ·obtain⟨r',q',f1,f2,rfl⟩:=Uo lq e2
   exact .of (hqs i a q' r' e1 f1 f2).1
  have nk:((Z3 rs qs).map (·.1)).Nodup:=by
   rw[JD lq]
   exact JB g.good.nd λa _ b _ e=>Sum.inr.inj e
  rw[zZ nk (λk _ m=>by simp at m),zdp]
  have s1:Same H (upd H dd (.dK (Z3 rs qs))):=ql hdd
  have hd1:upd H dd (.dK (Z3 rs qs)) dd=some (.dK (Z3 rs qs)):=qe
  generalize upd H dd (.dK (Z3 rs qs))=H1 at s1 hd1
  refine⟨by show 0<=zeb;decide,λlf hlf=>?_⟩
  have hlf0:H lf=none:=jt s1 hlf
  have s2:Same H (upd H1 lf (.lst [])):=s1.trans (ql hlf)
  have hd2:=qu (o':=HO.lst []) hd1 hlf
  have hf2:upd H1 lf (.lst []) lf=some (.lst []):=qe
  generalize upd H1 lf (.lst [])=H2 at s2 hf2 hd2
  have nfd:lf≠dd:=λe=>by rw[e,hd2]at hf2;cases hf2
  refine⟨_,rfl,h',rfl,⟨_,.of (s2 _ _ hh.at_)⟩,?_⟩
  refine zA (K:=K) (a:=h') (xs:=hs.map V.str) (λi σ' G=>∃v4 v5 ms,σ'=[some (.ref l),some (.ref h'),some (.ref dd),some (.ref lf),v4,v5]/\Same H G/\G dd=some (.dK (Z3 rs qs))/\G lf=some (.lst (ms.map V.ref))/\jM G ms (mvs rs hs i))
   ⟨_,_,[],rfl,s2,hd2,hf2,jM.nil _⟩ (λi σ' G _ ⟨_,_,_,_,s,_⟩=>.of (s _ _ hh.at_)) ?_ ?_
  ·rintro i y σ' G p hy hp ⟨v4,v5,ms,rfl,sG,hdG,hfG,mv⟩
   obtain⟨z,ez,hz,rfl⟩:=j9 hy
   have hi:=(tw.mp ez).1
   have ezz:zG hs i=z:=by
    have:=Zu hi
    rw[ez]at this
    exact(tO.inj this).symm
   obtain⟨r,hr',er⟩:=hh.in_ z hz
   obtain⟨i0,hi0⟩:=zbc hr'
   obtain⟨q0,eq0,ekv⟩:=Vm lq hi0
   have hi0':=(tw.mp hi0).1
   have hq0:=(hqs i0 _ q0 r (tE (by rw[g.rows.1];exact hi0')) hi0 eq0).2
   refine⟨p,_,rfl,.of qe,rfl,_,_,rfl,_,_,rfl,rfl,?_⟩
   have sP:Same G (upd G p (.tup [.int (i:Nat),.str z])):=ql hp
   have sGP:=sG.trans sP
   have hdP:=sP _ _ hdG
   have hfP:=sP _ _ hfG
   have mvP:=mv.mono sP
   generalize upd G p (.tup [.int (i:Nat),.str z])=G1 at sP sGP hdP hfP mvP
   refine⟨_,rfl,.inl ⟨rfl,_,.of hfP⟩,_,rfl,l,rfl,⟨_,.of (sGP _ _ g.at_)⟩,λW hW=>?_⟩
   have sW:Same G1 (upd G1 W (.lst [])):=ql hW
   refine j2 (K:=K) (a:=l) (xs:=ps.map V.ref) (λj σ'' G'=>∃v0 v1 ns,σ''=[v0,v1,some (.int (i:Nat)),some (.ref dd),some (.str z)]/\Same G1 G'/\G' W=some (.lst (ns.map V.ref))/\
     jM G' ns ((((rs.map (·.1)).take j).filter λy=>ZF (.str y) (r.2.map V.str)).map λy=>(i,y)))
    ⟨none,none,[],rfl,sW,qe,jM.nil _⟩ (λj σ'' G' _ ⟨_,_,_,_,s,_⟩=>.of ((sGP.trans s) _ _ g.at_)) ?_ ?_
   ·rintro j y σ'' G' hy ⟨v0,v1,ns,rfl,sG',hW',mv'⟩
    obtain⟨p',qq,r',rfl,er',hrr,ea,eb⟩:=(g.rows.mono (sGP.trans sG')).item hy
    have en:(rs.map (·.1))[j]?=some r'.1:=by rw[tG,er'];rfl
    have gd:=jZ.k (k:=(Sum.inr r.1:qN)) (sG' _ _ hdP)
    rw[vP nk ekv]at gd
    have gd:jZ G' dd (.str z) (some (.ref q0)):=er▸gd
    have lenM:(ns.map V.ref).length < zeb:=by
     rw[tj,mv'.1,tj]
     have h1:=zaq (λy=>ZF (.str y) (r.2.map V.str)) ((rs.map (·.1)).take j)
     rw[tW,tj]at h1
     exact qp (by omega)
    refine⟨p',_,rfl,.of ea,rfl,_,_,rfl,_,_,rfl,rfl,?_⟩
    refine⟨_,rfl,_,rfl,_,rfl,dd,_,rfl,gd,q0,_,rfl,.inr (.of ((sGP.trans sG') _ _ hq0)),rfl,ZH _,_,rfl,?_⟩
    have et:((rs.map (·.1)).take (j+1)).filter (λy=>ZF (.str y) (r.2.map V.str))=((rs.map (·.1)).take j).filter (λy=>ZF (.str y) (r.2.map V.str))++if ZF (.str r'.1) (r.2.map V.str)=true then [r'.1] else []:=by
     rw[tP,en,zaN]
     congr 1
     cases c:ZF (.str r'.1) (r.2.map V.str)
     ·simp [c]
     ·simp [c]
    rw[et]
    show if ZF (.str r'.1) (r.2.map V.str)=true then _ else _
    cases ci:ZF (.str r'.1) (r.2.map V.str) with
    | false=>
     refine ji ⟨_,_,ns,rfl,sG',hW',?_⟩
     rw[if_neg tN,zan]
     exact mv'
    | true=>
     refine j3 ⟨_,rfl,_,rfl,by show 2<=zeb;decide,λt ht=>?_⟩
     refine⟨_,qu hW' ht,lenM,_,_,ns++[t],rfl,Same.upd (sG'.trans (ql ht)) hW,by rw[qe,tI];rfl,?_⟩
     rw[if_pos rfl,tI]
     have nt:t≠W:=λz=>by rw[z,hW']at ht;cases ht
     refine jM.app ⟨mv'.1,λk p' m a b=>?_⟩ (jM.one (by rw[qi nt];exact qe))
     have z:=mv'.2 k p' m a b
     have n1:p'≠W:=λe=>by rw[e,hW']at z;cases z
     rw[qi n1]
     exact qu z ht
   ·rintro σ'' G' ⟨v0,v1,ns,rfl,sG',hW',mv'⟩
    have e0:(rs.map (·.1)).take (ps.map V.ref).length=rs.map (·.1):=tF (by rw[tj,tj,g.rows.1];exact tz _)
    rw[e0]at mv'
    have mlen:=ZB g.good le hh.in_ i (zai hi)
    have l8:=hh.le
    have hf':=sG' _ _ hfP
    refine⟨lf,W,_,_,rfl,rfl,hf',hW',?_,_,_,ms++ns,rfl,Same.upd (sGP.trans sG') hlf0,by rw[qi (Ne.symm nfd)];exact sG' _ _ hdP,by rw[qe,tI],?_⟩
    ·rw[tj,tj,mv.1,mv'.1,tj]
     have h1:=zaq (λy=>ZF (.str y) (r.2.map V.str)) (rs.map (·.1))
     rw[tj]at h1
     exact zai (qp (by omega))
    ·rw[XG,ezz,mvT,<-er,J4 g.good.nd hr']
     have up:∀{k:Addr} {m:Nat×Str},G' k=some (.tup (X6 m))->upd G' lf (.lst (ms.map V.ref++ns.map V.ref)) k=some (.tup (X6 m)):=λ{k m} e=>by
      rw[qi (λz=>by rw[z,hf']at e;cases e)];exact e
     exact jM.app ⟨mvP.1,λk p' m a b=>up (sG' _ _ (mvP.2 k p' m a b))⟩ ⟨mv'.1,λk p' m a b=>up (mv'.2 k p' m a b)⟩
  ·rintro σ' G ⟨v4,v5,ms,rfl,sG,hdG,hfG,mv⟩
   rw[tj]at mv
   exact⟨_,rfl,q G lf ms sG hlf0 hfG mv⟩
abbrev nLO:List Str:=["_law_labels_here","_law_heap_here","_law_total","_law_sets","_law_name"]
theorem wv:qt nLO ["_law_labels_here","_law_heap_here"] (qj Xm):=zdV
theorem kM{f:Addr}{fd:zea}(F:jK K "_law_outcome" "_law_outcome" Xm f fd)(B:QO mg):qo P w K mg base qH 1 f fd ["_law_labels_here","_law_heap_here"] zM:=by
 refine F.okJ wv (λvs H Q E z=>?_) (λcdv A outer s H vs Q E hr z=>?_)
 ·obtain⟨D,h,rs,R,hs,rfl,_⟩:=z
  rfl
 ·obtain⟨D,h,rs,R,hs,rfl,lb,hh,ok,q⟩:=z
  have hu:=jX hr
  refine⟨_,qg (qx (i:=2) wv.nd rfl (Or.inl rfl) qk)
   (qg (qx (i:=3) wv.nd rfl (Or.inl rfl) (jz qf))
   (qg (ja PassesOwn.never rfl (qJ (jv 1)) (qw (i:=4) wv.nd rfl (Or.inl rfl))
    (qh (qM (qv jL (qT qR (qW hu (jv 0) (jv 4) (λ_ _=>rfl)) qk (λ_ _=>rfl)) qE (qA _))
     (qh (qx (i:=2) wv.nd rfl (Or.inl rfl) (qL vf (jv 2) (qT qR (qW hu (jv 0) (jv 4) (λ_ _=>rfl)) qk (λ_ _=>rfl)))))
     (qh (je (ZS zau zaY zaZ QA (jv 3) (qd (qT qR (qW hu (jv 0) (jv 4) (λ_ _=>rfl)) qk (λ_ _=>rfl)) qf)))))))
   (qg (qM (qv (Mf hr.units) (jv 3) (jz qf) (qA _)) (qh (qy (qT QF (jz (qd qE (qd qE qf))) (jB Yd (by rfl) B.int boot_int (qd (Qq jL (jv 2) qk (qA _)) qf)) (λ_ _=>rfl)))) qB)
   (qg (qM (JW.pt (j1 (qv jL (qD qZ (by rfl) B.len boot_len (qd (jv 3) qf)) qk (qA _)) (jJ (qv jL (qL w5 (qL wU (qT QF (jv 3) qk (λ_ _=>rfl)) (jv 2)) qk) qk (qA _))))) (qh (qy qE)) qB)
   (qh (qy qE)))))),?_⟩
  refine⟨by show 0<=zeb;decide,λls hls=>?_⟩
  refine⟨_,rfl,h,rfl,⟨_,.of ((ql hls) _ _ hh.at_)⟩,?_⟩
  refine jx (K:=K) (a:=h) (xs:=hs.map V.str) (λi σ G=>∃v,σ=[some (.ref D),some (.ref h),some (.int (JP rs R (hs.take i):Nat)),some (.ref ls),v]/\Same H G/\G ls=some (.lst (ZG (Qw rs R (hs.take i))))) ⟨none,rfl,ql hls,qe⟩ (λi σ G _ ⟨_,_,s,_⟩=>.of (s _ _ hh.at_)) ?_ ?_
  ·rintro i y σ G hy ⟨v,rfl,sG,hG⟩
   obtain⟨z,ez,hz,rfl⟩:=j9 hy
   obtain⟨kvs,hD,_,hv⟩:=(lb.mono sG).at_
   obtain⟨r,hr',er⟩:=hh.in_ z hz
   obtain⟨t,et,ht⟩:=hv r hr'
   rw[er]at et ht
   have gd:jZ G D (.str z) (some (.ref t)):=by rw[<-et];exact jZ.k (k:=(Sum.inr z:qN)) hD
   have etk:(hs.take (i+1)).map (wT rs R)=(hs.take i).map (wT rs R)++[wT rs R z]:=by rw[tP,ez,tI];rfl
   unfold QX at ht
   cases en:qI R z with
   | some n=>
    rw[en]at ht
    have e1:JP rs R (hs.take (i+1))=JP rs R (hs.take i)^^^n:=by unfold JP;rw[etk,zX,zI en,Yg]
    have e2:Qw rs R (hs.take (i+1))=Qw rs R (hs.take i):=by unfold Qw;rw[etk,zO,zI en,zan]
    refine⟨_,rfl,_,rfl,D,_,rfl,gd,t,_,0,_,rfl,rfl,.of ht,rfl,rfl,_,rfl,jn (decide_eq_true rfl) ⟨_,rfl,_,rfl,_,rfl,D,_,rfl,gd,t,_,1,_,rfl,rfl,.of ht,rfl,_,_,rfl,rfl,some (.str z),?_,sG,by rw[e2];exact hG⟩⟩
    rw[e1,<-bx]
    rfl
   | none=>
    rw[en]at ht
    have e1:JP rs R (hs.take (i+1))=JP rs R (hs.take i):=by unfold JP;rw[etk,zX,Zg en,zan]
    have e2:Qw rs R (hs.take (i+1))=Qw rs R (hs.take i)++[setN (ZQ rs (qI R) z)]:=by unfold Qw;rw[etk,zO,Zg en]
    have lS:(ZG (Qw rs R (hs.take i))).length < zeb:=by
     rw[J3]
     have h1:=KY ((hs.take i).map (wT rs R))
     rw[tj,tW]at h1
     unfold Qw
     have:=hh.le
     exact qp (by omega)
    refine⟨_,rfl,_,rfl,D,_,rfl,gd,t,_,0,_,rfl,rfl,.of ht,rfl,rfl,_,rfl,jh (by decide+kernel) ⟨_,rfl,.inl ⟨rfl,_,.of hG⟩,_,rfl,_,rfl,D,_,rfl,gd,t,_,1,_,rfl,rfl,.of ht,rfl,ls,_,_,rfl,rfl,hG,lS,some (.str z),?_,Same.upd sG hls,?_⟩⟩
    ·rw[e1]
     rfl
    ·rw[qe,e2,XO]
  ·rintro σ G ⟨v,rfl,sG,hG⟩
   rw[tj,tF (tz _)]at hG ⊢
   have eo:=Gw ok
   refine⟨_,rfl,by show 0<=zeb;decide,λl0 f0=>?_⟩
   have s0:=ql (o:=HO.lst []) f0
   refine⟨.list ((Qw rs R hs).map λn=>PyData.int (n:Nat)),.list [],.lst (.of (s0 _ _ hG)) (yn _),.lst (.of qe) .nil,KW _,by decide+kernel,_,rfl,?_⟩
   have s01:=sG.trans s0
   have hG0:=s0 _ _ hG
   generalize upd G l0 (.lst [])=G0 at s0 s01 hG0
   rw[RU]
   cases c:Qw rs R hs with
   | nil=>
    rw[c]at eo
    refine jn (decide_eq_true rfl) ⟨by show 2<=zeb;decide,λl1 f1=>?_⟩
    refine⟨_,rfl,rfl,.inr ⟨_,rfl,l1,_,_,.str (oW rs R hs),rfl,rfl,.of qe,?_,q _ (s01.trans (ql f1))⟩⟩
    rw[eo]
    by_cases c2:JP rs R hs=0
    ·rw[c2]
     rfl
    ·have:decide (V.int ((JP rs R hs:Nat):Int)=V.int 0)=false:=decide_eq_false λz=>c2 (by have:=V.int.inj z;omega)
     rw[this]
     show _=some (V.str (if JP rs R hs=0 then wL else wW))
     rw[if_neg c2]
     rfl
   | cons b l=>
    rw[c]at eo hG0
    refine jh (decide_eq_false (by simp)) ⟨_,rfl,ls,_,rfl,.inl (.of hG0),rfl,_,rfl,?_⟩
    cases l with
    | nil=>
     refine jn (decide_eq_true rfl) ⟨_,rfl,ls,_,0,.int (b:Nat),rfl,rfl,.of hG0,Y4 (j:=0) rfl,_,rfl,_,_,rfl,rfl,by omega,_,_,rfl,rfl,rfl,_,rfl,?_⟩
     have e:decide (V.int (Builtin.bitAnd ((b:Int) / 2^ ((JP rs R hs:Nat):Int).toNat) 1)=V.int 1)=b.testBit (JP rs R hs):=by
      rw[kq]
      cases b.testBit (JP rs R hs)<;>decide
     rw[e]
     cases c3:b.testBit (JP rs R hs) with
     | true=>
      have q:=q _ s01
      rw[eo]at q
      have q:Q (.str (if b.testBit (JP rs R hs)=true then wW else wD)) G0:=q
      rw[if_pos c3]at q
      exact j3 q
     | false=>
      have q:=q _ s01
      rw[eo]at q
      have q:Q (.str (if b.testBit (JP rs R hs)=true then wW else wD)) G0:=q
      rw[if_neg (by rw[c3];exact tN)]at q
      exact ji q
    | cons b' l=>
     have q:=q _ s01
     rw[eo]at q
     exact jh (decide_eq_false λz=>by have:=V.int.inj z;rw[J3]at this;simp at this;omega) q
abbrev Gu:List Str:=["_law_heap_here","_law_move"]
theorem qce:qt Gu Gu (qj Wr):=zdV
theorem kN{f:Addr}{fd:zea}(F:jK K "_law_after" "_law_after" Wr f fd):qo P w K mg base qH 1 f fd Gu Xd:=by
 refine F.okJ qce (λvs H Q E z=>?_) (λcdv A outer s H vs Q E hr z=>?_)
 ·obtain⟨h,p,hs,m,rfl,_⟩:=z
  rfl
 ·obtain⟨h,p,hs,m,rfl,hh,l8,hp,hm,q⟩:=z
  refine⟨_,qh (qy (qL Vd (qL Vd (JF YM (jv 0) ZD (ZC (qT qR (jv 1) qk (λ_ _=>rfl)))) (jz (qd (qT qR (jv 1) qk (λ_ _=>rfl)) qf))) (JF YM (jv 0) (ZC (qL Qk (qT qR (jv 1) qk (λ_ _=>rfl)) qk)) ZD))),?_⟩
  refine⟨_,rfl,_,rfl,p,_,0,.int (m.1:Nat),rfl,rfl,.of hp,rfl,_,rfl,h,_,rfl,.of hh,λp1 f1=>?_⟩
  have c1:Yz (hs.map V.str) none (some ((m.1:Nat):Int))=(hs.take m.1).map V.str:=by
   unfold Yz
   rw[HT.sIx_none,HT.sIx_nat,tj,zck (by omega),zcR,zdk,zdE]
  have c2:Yz (hs.map V.str) (some ((m.1:Nat)+1:Int)) none=(hs.drop (m.1+1)).map V.str:=by
   unfold Yz
   rw[HT.sIx_none,show ((m.1:Nat)+1:Int)=((m.1+1:Nat):Int) by omega,HT.sIx_nat,tj,zck (by omega),List.map_drop,tF (by rw[zdf,tj];omega)]
  rw[c1]
  have s1:=ql (o:=HO.lst ((hs.take m.1).map V.str)) f1
  have h1:upd H p1 (HO.lst ((hs.take m.1).map V.str)) p1=some (.lst ((hs.take m.1).map V.str)):=qe
  generalize upd H p1 (HO.lst ((hs.take m.1).map V.str))=H1 at s1 h1
  refine⟨_,rfl,p,_,1,.str m.2,rfl,rfl,.of (s1 _ _ hp),rfl,by show 1<=zeb;decide,λp2 f2=>?_⟩
  have s2:=ql (o:=HO.lst [V.str m.2]) f2
  have h2:upd H1 p2 (HO.lst [V.str m.2]) p2=some (.lst [V.str m.2]):=qe
  generalize upd H1 p2 (HO.lst [V.str m.2])=H2 at s2 h2
  refine⟨p1,p2,_,_,rfl,rfl,.of (s2 _ _ h1),.of h2,zai (qp (by rw[tj,tW];show _+1<=_;omega)),λp3 f3=>?_⟩
  have s3:=ql (o:=HO.lst ((hs.take m.1).map V.str++[V.str m.2])) f3
  have h3:upd H2 p3 (HO.lst ((hs.take m.1).map V.str++[V.str m.2])) p3=some (.lst ((hs.take m.1).map V.str++[V.str m.2])):=qe
  generalize upd H2 p3 (HO.lst ((hs.take m.1).map V.str++[V.str m.2]))=H3 at s3 h3
  have s13:=(s1.trans s2).trans s3
  refine⟨_,rfl,_,rfl,p,_,0,.int (m.1:Nat),rfl,rfl,.of (s13 _ _ hp),rfl,_,_,rfl,rfl,_,rfl,h,_,rfl,.of (s13 _ _ hh),λp4 f4=>?_⟩
  dsimp only
  rw[c2]
  have s4:=ql (o:=HO.lst ((hs.drop (m.1+1)).map V.str)) f4
  have h4:upd H3 p4 (HO.lst ((hs.drop (m.1+1)).map V.str)) p4=some (.lst ((hs.drop (m.1+1)).map V.str)):=qe
  generalize upd H3 p4 (HO.lst ((hs.drop (m.1+1)).map V.str))=H4 at s4 h4
  refine⟨p3,p4,_,_,rfl,rfl,.of (s4 _ _ h3),.of h4,zai (qp (by rw[tH,tj,tj,tW,zdf];show _+1+_<=_;omega)),λp5 f5=>?_⟩
  refine q _ p5 ((s13.trans s4).trans (ql f5)) (jt (s13.trans s4) f5) ?_
  rw[qe]
  have:=uE hm m.2
  rw[show lf hs (m.1,m.2)=lf hs m from rfl]at this
  rw[<-this,tI,tI]
  rfl
end
open PySem L2 PyProof.Rows MLab Rb
abbrev V5:Stmt:=top 82
abbrev Xl:Stmt:=top 83
abbrev Zy:Stmt:=top 84
abbrev Xn:Stmt:=top 85
abbrev V4:Stmt:=top 86
abbrev YS:Stmt:=top 87
def QE(H H':Hp):Prop:=∀b o,H b=some o->(∀φ,o≠.ext φ)->H' b=some o
theorem _root_.L2.Same.keep{H H':Hp}(s:Same H H'):QE H H':=λb o h _=>s b o h
theorem QE.trans{H H' H'':Hp}(a:QE H H')(b:QE H' H''):QE H H'':=λc o h n=>b c o (a c o h n) n
theorem QE.refl(H:Hp):QE H H:=λ_ _ h _=>h
theorem _root_.L2.SqL.keep{K:zdW}{H H':Hp}{p:Addr}{xs:List V}(h:SqL K H p xs)(s:QE H H'):SqL K H' p xs:=by
 rcases h with (h | ⟨o,h⟩) | h
 ·exact .inl (.inl (s _ _ h (λ_ z=>nomatch z)))
 ·exact .inl (.inr ⟨o,s _ _ h (λ_ z=>nomatch z)⟩)
 ·exact .inr h
theorem Qu.keep{CG:Addr}{H H':Hp}{a:Addr}{rs:qV}(h:Qu CG H a rs)(s:QE H H'):Qu CG H' a rs:=by
 obtain⟨dx,lo,rd,kvs,h1,h2,h3,h4⟩:=h
 exact⟨dx,lo,rd,kvs,s _ _ h1 (λ_ z=>nomatch z),s _ _ h2 (λ_ z=>nomatch z),s _ _ h3 (λ_ z=>nomatch z),λr hr=>let ⟨q,a,b⟩:=h4 r hr;⟨q,a,s _ _ b (λ_ z=>nomatch z)⟩⟩
theorem jF.keep{H H':Hp}{ps:List Addr}{rs:qV}(h:jF H ps rs)(s:QE H H'):jF H' ps rs:=⟨h.1,λi p r e1 e2=>let ⟨q,a,b⟩:=h.2 i p r e1 e2;⟨q,s _ _ a (λ_ z=>nomatch z),s _ _ b (λ_ z=>nomatch z)⟩⟩
theorem qbl{X:Cx}{x:Str}{st:Stmt}{ps:List Str}{f:Addr}{fd:zea}{k:Nat}{sp:Sp}{E:L2.St->XK}{e:Expr}{es:List Expr}{t:TA}{p pos:Pos}(h:qQ X.K X.mg x st ps f fd)(G:qo X.prog X.w X.K X.mg X.base (Z7 X.prog X.w) k f fd ps sp)(hr:qU k X.A)(hx:zF (Z7 X.prog X.w) X E)
 (hg:Gl X x) (ha:JA X (e::es) t) (hdb:(x==("__debug__":Str))=false:=by decide) (he:starEach (e::es) X.env=(false,eval e X.env)::starEach es X.env:=by rfl) (hpl:(backTo pos (starEach es X.env)).any (·.1)=false:=by rfl):
 JE X (.Call (.Name x p) (e::es) [] pos) (xU sp [] E t):=.of (wP G hr hg h.ns h.fn.kp h.bi .nil hx ha.to hdb he hpl)
structure qad(K:zdW)(mg:Str->Option Value)(D CP:Addr):Prop where
 nD:mg "HeapError"=some (.ref D)
 cD:Nf K D
 kp:zag K (.ref CP) (.ref CP)=some true
 spc:zby K (.builtin "object.__class__") "__get__"=some (some (.builtin "getset_descriptor.__get__"))
 tks:zci K (.builtin "object.__class__")=some true
inductive Rz where
 | mv (m:Nat×Str) | num (n:Nat) | no (z:Str)
def YC(rs:qV)(R:Rs Str)(hs:List Str)(w:Nat)(r:Rz):Prop:=
 (w=0/\((oW rs R hs=wW/\∃m,Zs rs R hs m/\r=.mv m)\/(oW rs R hs≠wW/\r=.no (oW rs R hs))))\/
 (w=1/\((oW rs R hs=wL/\r=.num (cnt R hs))\/(oW rs R hs≠wL/\r=.no (oW rs R hs))))\/
 (w=2/\((oW rs R hs=wL/\r=.num (2*cnt R hs))\/(oW rs R hs=wW/\∃m,Zs rs R hs m/\r=.num (1+2*cnt R (lf hs m)))\/(oW rs R hs=wD/\r=.no wD)))
theorem YC.uniq{rs:qV}{R:Rs Str}{hs:List Str}{w:Nat}{r r':Rz}(h:YC rs R hs w r)(k:YC rs R hs w r'):r=r':=by
 rcases h with ⟨rfl,h⟩ | ⟨rfl,h⟩ | ⟨rfl,h⟩
 ·rcases k with ⟨_,k⟩ | ⟨e,_⟩ | ⟨e,_⟩
  ·rcases h with ⟨a,m,b,rfl⟩ | ⟨a,rfl⟩<;>rcases k with ⟨a',m',b',rfl⟩ | ⟨a',rfl⟩
   ·rw[b.uniq b']
   ·exact absurd a a'
   ·exact absurd a' a
   ·rfl
  ·cases e
  ·cases e
 ·rcases k with ⟨e,_⟩ | ⟨_,k⟩ | ⟨e,_⟩
  ·cases e
  ·rcases h with ⟨a,rfl⟩ | ⟨a,rfl⟩<;>rcases k with ⟨a',rfl⟩ | ⟨a',rfl⟩
   ·rfl
   ·exact absurd a a'
   ·exact absurd a' a
   ·rfl
  ·cases e
 ·rcases k with ⟨e,_⟩ | ⟨e,_⟩ | ⟨_,k⟩
  ·cases e
  ·cases e
  ·rcases h with ⟨a,rfl⟩ | ⟨a,m,b,rfl⟩ | ⟨a,rfl⟩<;>rcases k with ⟨a',rfl⟩ | ⟨a',m',b',rfl⟩ | ⟨a',rfl⟩
   ·rfl
   ·exact absurd (a.symm.trans a') xG
   ·exact absurd (a.symm.trans a') Nj
   ·exact absurd (a'.symm.trans a) xG
   ·rw[b.uniq b']
   ·exact absurd (a.symm.trans a') Nh
   ·exact absurd (a'.symm.trans a) Nj
   ·exact absurd (a'.symm.trans a) Nh
   ·rfl
def qcQ(CS:Addr)(r:Rz)(H:Hp)(Q:VK)(E:XK):Prop:=match r with
 | .mv m=>∀H' p,Same H H'->H' p=some (.tup (X6 m))->Q (.ref p) H'
 | .num n=>∀H',Same H H'->Q (.int (n:Nat)) H'
 | .no z=>NP CS z H E
def wc(CG CS PT:Addr):Sp:=λvs H Q E=>∃(w:Nat) (g h:Addr) (rs:qV) (hs:List Str),vs=[.int (w:Nat),.ref g,.ref h]/\w<=2/\GH CG H g h rs hs/\(∃tq,H PT=some (.tbl #[.str zU tq]))/\∀R,Zt rs R->∀r,YC rs R hs w r->qcQ CS r H Q E
def Kr(H:Hp)(p:Addr):Rz->Prop
 | .mv m=>∃q,H p=some (.tup [.str (zdX "told"),.ref q])/\H q=some (.tup (X6 m))
 | .num n=>H p=some (.tup [.str (zdX "told"),.int (n:Nat)])
 | .no z=>H p=some (.tup [.str (zdX "not"),.str z])
def U0(CG PT:Addr):Sp:=λvs H Q _=>∃(w:Nat) (g h:Addr) (rs:qV) (hs:List Str),vs=[.int (w:Nat),.ref g,.ref h]/\w<=2/\GH CG H g h rs hs/\(∃tq,H PT=some (.tbl #[.str zU tq]))/\∀R,Zt rs R->∀r,YC rs R hs w r->∀H' p,QE H H'->Kr H' p r->Q (.ref p) H'
def Zb(R:Rs Str)(hs:List Str)(l:List (Nat×Str))(m:Nat×Str):Prop:=∃i:Nat,l[i]?=some m/\∀(j:Nat) (mj:Nat×Str),l[j]?=some mj->cnt R (lf hs m)<=cnt R (lf hs mj)/\(j < i->cnt R (lf hs m) < cnt R (lf hs mj))
theorem Zb.new{R:Rs Str}{hs:List Str}{l:List (Nat×Str)}{b m:Nat×Str}(h:Zb R hs l b)(c:cnt R (lf hs m) < cnt R (lf hs b)):Zb R hs (l++[m]) m:=by
 obtain⟨i,e,hb⟩:=h
 refine⟨l.length,by simp,λj mj ej=>?_⟩
 by_cases hj:j < l.length
 ·rw[zaf hj]at ej
  have:=(hb j mj ej).1
  exact⟨by omega,λ_=>by omega⟩
 ·have hj':j=l.length:=by
   have:=(tw.mp ej).1
   rw[tH,zav]at this
   omega
  subst hj'
  rw[zac (tz _),zbZ]at ej
  obtain rfl:m=mj:=by simpa using ej
  exact⟨tz _,λz=>absurd z (zao _)⟩
theorem Zb.old{R:Rs Str}{hs:List Str}{l:List (Nat×Str)}{b m:Nat×Str}(h:Zb R hs l b)(c:¬cnt R (lf hs m) < cnt R (lf hs b)):Zb R hs (l++[m]) b:=by
 obtain⟨i,e,hb⟩:=h
 have hi:=(tw.mp e).1
 refine⟨i,by rw[zaf hi];exact e,λj mj ej=>?_⟩
 by_cases hj:j < l.length
 ·rw[zaf hj]at ej
  exact hb j mj ej
 ·have hj':j=l.length:=by
   have:=(tw.mp ej).1
   rw[tH,zav]at this
   omega
  subst hj'
  rw[zac (tz _),zbZ]at ej
  obtain rfl:m=mj:=by simpa using ej
  exact⟨by omega,λz=>by omega⟩
theorem Zb.one(R:Rs Str)(hs:List Str)(m:Nat×Str):Zb R hs [m] m:=⟨0,rfl,λj mj ej=>by
 cases j with
 | zero=>obtain rfl:m=mj:=by simpa using ej
         exact⟨tz _,λz=>absurd z (zao _)⟩
 | succ j=>simp at ej⟩
section
variable{P:Program}{w:World}{K:zdW}{mg:Str->Option Value}{base:Heap}
abbrev yS:List Str:=["_law_way","_law_ground","_law_heap_here"]
theorem qch:qt yS yS (qj V5):=zdV
theorem Rc{f CG CS PT fW fC fM:Addr}{fd fdW fdC fdM:zea}(F:jK K "_law_ask" "_law_ask" V5 f fd)(hW:qQ K mg "winner" zg ["ground","heap"] fW fdW)(GW:qo P w K mg base (Z7 P w) 13 fW fdW ["ground","heap"] (Xa CG CS PT))(hC:qQ K mg "count_of" Xt ["ground","heap"] fC fdC)(GC:qo P w K mg base (Z7 P w) 11 fC fdC ["ground","heap"] (WY CG CS))
  (hM:qQ K mg "most_moves" V3 ["ground","heap"] fM fdM) (GM:qo P w K mg base (Z7 P w) 13 fM fdM ["ground","heap"] (U1 CG CS PT)):qo P w K mg base (Z7 P w) 14 f fd yS (wc CG CS PT):=by
 refine F.okX qch (λvs H Q E z=>?_) (λcdv A outer s H vs Q E hr z=>?_)
 ·obtain⟨w,g,h,rs,hs,rfl,_⟩:=z
  rfl
 ·obtain⟨w,g,h,rs,hs,rfl,hw,gh,tb,q⟩:=z
  refine⟨_,qg (qM (qv jL (jv 0) qk (qA _)) (qh (qy (Ur hW GW hr Jy (by rfl) (qd (jv 1) (qd (jv 2) qf))))) qB)
   (qg (qM (qv jL (jv 0) qk (qA _)) (qh (qy (Ur hC GC (hr.mono (by decide)) Jy (by rfl) (qd (jv 1) (qd (jv 2) qf))))) qB)
   (qh (qy (Ur hM GM hr Jy (by rfl) (qd (jv 1) (qd (jv 2) qf)))))),?_⟩
  refine⟨_,rfl,rfl,_,rfl,?_⟩
  by_cases c0:w=0
  ·subst c0
   refine jn (decide_eq_true rfl) ⟨_,rfl,_,rfl,g,h,rs,hs,rfl,gh,tb,λR all=>⟨λc H' p m s' hp b=>?_,λc=>?_⟩⟩
   ·exact q R all (.mv m) (.inl ⟨rfl,.inl ⟨c,m,b,rfl⟩⟩) H' p s' hp
   ·exact q R all (.no _) (.inl ⟨rfl,.inr ⟨c,rfl⟩⟩)
  ·refine jh (decide_eq_false λz=>c0 (by have:=V.int.inj z;omega)) ⟨_,rfl,rfl,_,rfl,?_⟩
   by_cases c1:w=1
   ·subst c1
    refine jn (decide_eq_true rfl) ⟨_,rfl,_,rfl,g,h,rs,hs,rfl,gh,λR all=>⟨λc H' s'=>?_,λc=>?_⟩⟩
    ·exact q R all (.num _) (.inr (.inl ⟨rfl,.inl ⟨c,rfl⟩⟩)) H' s'
    ·exact q R all (.no _) (.inr (.inl ⟨rfl,.inr ⟨c,rfl⟩⟩))
   ·have c2:w=2:=by omega
    subst c2
    refine jh (by decide) ⟨_,rfl,_,rfl,g,h,rs,hs,rfl,gh,tb,λR all=>⟨λc H' s'=>?_,λc H' m s' b=>?_,λc=>?_⟩⟩
    ·exact q R all (.num _) (.inr (.inr ⟨rfl,.inl ⟨c,rfl⟩⟩)) H' s'
    ·exact q R all (.num _) (.inr (.inr ⟨rfl,.inr (.inl ⟨c,m,b,rfl⟩)⟩)) H' s'
    ·exact q R all (.no _) (.inr (.inr ⟨rfl,.inr (.inr ⟨c,rfl⟩)⟩))
abbrev nTo:List Str:=["_law_way","_law_ground","_law_heap_here","_law_told_here","e"]
theorem wo:qt nTo yS (qj Xl):=zdV
theorem uj{f CG CS PT D fX fA:Addr}{fd fdX fdA:zea}(F:jK K "_law_told" "_law_told" Xl f fd)(T:Qt K mg)(hA:qQ K mg "_law_ask" V5 yS fA fdA)(GA:qo P w K mg base (Z7 P w) 14 fA fdA yS (wc CG CS PT))(xS:Nd K mg D "NotSo" "NotSo.__init__" Zi "found" CS fX fdX)(Z:qad K mg D CS)(ve:mg "ValueError"=none)(kv:zag K (.ref CS) (.type "ValueError")=some true):qo P w K mg base qH 15 f fd yS (U0 CG PT):=by
 refine F.okJ wo (λvs H Q E z=>?_) (λcdv A outer s H vs Q E hr z=>?_)
 ·obtain⟨w,g,h,rs,hs,rfl,_⟩:=z
  rfl
 ·obtain⟨w,g,h,rs,hs,rfl,hw,gh,tb,q⟩:=z
  refine⟨_,qg (qx (i:=3) wo.nd rfl (Or.inl rfl) Vq)
   (qg (MJ rfl rfl (λpn W E hE=>qh (qx (i:=3) wo.nd rfl (Or.inl rfl) (jp (qd qE (qd (qbl hA GA hr hE (by rfl) (qd (jv 0) (qd (jv 1) (qd (jv 2) qf)))) qf)))))
    (uN (j:=4) (ts:=xQ (NT (tB (Nm (va K (.ref D::Qe)) (jk (jd 4) (jk (tC (.ref CS)) QT)))) (tB (Nm (va K (.ref D::Qe)) (jk (jd 4) (jk (tC (.ty "ValueError")) QT))))) (xV (yy (jk (tC (.str (zdX "not"))) (jk (Nl K (.ref D::Qe) (jd 4) "found") QT))) (Jk 3)) VN) (by rfl) Z.nD Z.cD wo.nd rfl rfl
     (λv E=>qh (qM (JW.pt (j1 (jl (qD (Yt (bm:=.ref D::Qe) Z.spc Z.tks) (by rfl) T.isi boot_isinstance (qd (jv 4) (qd (Jj (v:=.ref CS) (by rfl) xS.ns rfl) qf)))) (jJ (jl (qD (Yt (bm:=.ref D::Qe) Z.spc Z.tks) (by rfl) T.isi boot_isinstance (qd (jv 4) (qd (jW (v:=.ty "ValueError") (by rfl) ve PyProof.Rows.Boot.«ValueError» rfl) qf))))))) (qh (qx (i:=3) wo.nd rfl (Or.inl rfl) (jp (qd qE (qd (RF (bm:=.ref D::Qe) (jv 4) rfl) qf))))) qB)) uM))
   (qh (qy (jv 3)))),?_⟩
  refine⟨λC dx Hx=>C=CS/\Same H Hx/\∃z R,Hx dx=some (.xd [(zdX "found",.str z)])/\Zt rs R/\YC rs R hs w (.no z),⟨_,rfl,_,rfl,_,rfl,w,g,h,rs,hs,rfl,hw,gh,tb,λR all r hr'=>?_⟩,?_⟩
  ·cases r with
   | mv m=>exact λH' p s' hp=>⟨by show 2<=zeb;decide,λt ht=>⟨_,rfl,q R all _ hr' _ t (s'.trans (ql ht)).keep ⟨p,qe,(ql ht) _ _ hp⟩⟩⟩
   | num n=>exact λH' s'=>⟨by show 2<=zeb;decide,λt ht=>⟨_,rfl,q R all _ hr' _ t (s'.trans (ql ht)).keep qe⟩⟩
   | no z=>exact λH1 dx s1 h1=>⟨rfl,CS,dx,rfl,rfl,rfl,s1,z,R,h1,all,hr'⟩
  rintro a C dx T' Hx H' ⟨rfl,sx,z,R,hdx,all,hz⟩ ha kp ha'
  have nda:dx≠a:=λz=>by
   rw[z,ha]at hdx
   cases hdx
  have hdx':=kp dx _ nda hdx
  have k1:QE H H':=λb o hb nx=>kp b o (λz=>by
   rw[z]at hb
   have:=sx _ _ hb
   rw[ha]at this
   exact nx _ (tO.inj this).symm) (sx _ _ hb)
  have lk:([(zdX "found",V.str z)]:List (Str×V)).lookup (zdX "found")=some (.str z):=by simp [zbb]
  refine⟨fX,_,xS.mkr,?_⟩
  rw[if_pos (by simp [zcS])]
  refine⟨_,rfl,a,C,dx,_,_,.ref C,true,rfl,rfl,ha',hdx',xS.cls,Z.kp,_,rfl,j3 ⟨_,rfl,a,C,dx,_,_,.ty "ValueError",true,rfl,rfl,ha',hdx',xS.cls,kv,_,rfl,j3 ⟨_,rfl,a,C,dx,_,_,.str z,rfl,ha',hdx',xS.cls,xS.na,lk,by show 2<=zeb;decide,λt ht=>?_⟩⟩⟩
  exact⟨_,rfl,q R all _ hz _ t (k1.trans (ql ht).keep) qe⟩
theorem qaM:qt ["_law_labels_here","_law_heap_here"] ["_law_labels_here","_law_heap_here"] (qj Zy):=zdV
theorem Wu{f:Addr}{fd:zea}(F:jK K "_law_steps" "_law_steps" Zy f fd)(T:Qt K mg):qo P w K mg base qH 1 f fd ["_law_labels_here","_law_heap_here"] QU:=by
 refine F.okJ qaM (λvs H Q E z=>?_) (λcdv A outer s H vs Q E hr z=>?_)
 ·obtain⟨D,h',rs,R,hs,rfl,_⟩:=z
  rfl
 ·obtain⟨D,h',rs,R,hs,rfl,le,lb,all,hh,nm,q⟩:=z
  have hu:=jX hr
  refine⟨_,qh (qy (qD (Yc rfl) (by rfl) T.sum boot_sum (qd (j4 (N':=["_law_name","_law_labels_here"]) (ix:=[none,some 0]) (te:=Yu (zT K) (Y9 (jd 1) (jd 0)) (tC (.int 2))) rfl ⟨rfl,rfl,rfl,rfl,rfl⟩ (qJ (jv 1)) (λC s2 H2 fp pins=>
    ⟨qw (i:=0) (show (["_law_name","_law_labels_here"]:List Str).Nodup by decide+kernel) rfl (Or.inl rfl),jN,qT qR (qW hu (jv 1) (jv 0) (λ_ _=>rfl)) qk (λ_ _=>rfl)⟩)) qf))),?_⟩
  refine⟨_,rfl,h',rfl,⟨_,.of hh.at_⟩,λW hW=>?_⟩
  refine Q8 (K:=K) (a:=h') (xs:=hs) (enc:=V.str) (out:=λz=>some (V.int (Jc R z:Nat))) (rest:=[some (.ref D)]) hW hh.at_ (qp (zaa hh.le (by decide))) (λx hx Y sY R' hR=>hR Y (Same.refl Y)) (λx hx v ev Y sY R' hR=>?_) (λH5 s5 hD5=>?_)
  ·cases ev
   obtain⟨kvs,hD,_,hv⟩:=(lb.mono sY).at_
   obtain⟨r,hr',er⟩:=hh.in_ x hx
   obtain⟨t,et,ht⟩:=hv r hr'
   rw[er]at et ht
   obtain⟨n,en⟩:=nm x hx
   unfold QX at ht
   rw[en]at ht
   exact⟨_,rfl,_,rfl,D,_,rfl,by rw[<-et];exact jZ.k (k:=(Sum.inr x:qN)) hD,t,_,2,_,rfl,rfl,.of ht,rfl,hR Y (Same.refl Y)⟩
  ·rw[k6]at hD5
   have hc:=VQ (R:=R) (hs:=hs) λz _=>xW all le z
   have h8:=hh.le
   refine⟨W,hs.map (Jc R),rfl,.of (by rw[zaO];exact hD5),?_,q H5 s5⟩
   show cnt R hs < 2^62
   omega
def LH(H:Hp)(l D h:Addr)(ps:List Addr)(rs:qV)(R:Rs Str)(hs:List Str):Prop:=jP H l ps rs/\jG H D rs R/\Zt rs R/\jH H h rs hs
theorem LH.mono{H H':Hp}{l D h:Addr}{ps:List Addr}{rs:qV}{R:Rs Str}{hs:List Str}(x:LH H l D h ps rs R hs)(s:Same H H'):LH H' l D h ps rs R hs:=⟨⟨s _ _ x.1.at_,x.1.rows.mono s,x.1.good,x.1.pos,x.1.le⟩,x.2.1.mono s,x.2.2.1,x.2.2.2.mono s⟩
def WW:Sp:=λvs H Q _=>∃(l D h:Addr) (ps:List Addr) (rs:qV) (R:Rs Str) (hs:List Str),vs=[.ref l,.ref D,.ref h]/\LH H l D h ps rs R hs/\0 < (Qh rs R hs).length/\∀H' t p m,Same H H'->H' t=some (.tup [.ref p,.int (cnt R (lf hs m):Nat)])->H' p=some (.tup (X6 m))->Zs rs R hs m->Q (.ref t) H'
abbrev UR:List Str:=["_law_rows_here","_law_labels_here","_law_heap_here"]
abbrev qcy:List Str:=["_law_rows_here","_law_labels_here","_law_heap_here","_law_best_here","_law_move","_law_left"]
theorem VZ:qt qcy UR (qj Xn):=zdV
theorem um{f fM fA fO fS:Addr}{fd fdM fdA fdO fdS:zea}(F:jK K "_law_best" "_law_best" Xn f fd)(B:QO mg)(T:Qt K mg)(hdi:mg "dict"=none)(hM:qQ K mg "_law_moves" Zz NB fM fdM)(hA:qQ K mg "_law_after" Wr Gu fA fdA)(hO:qQ K mg "_law_outcome" Xm ["_law_labels_here","_law_heap_here"] fO fdO)(hS:qQ K mg "_law_steps" Zy ["_law_labels_here","_law_heap_here"] fS fdS):qo P w K mg base qH 2 f fd UR WW:=by
 have GM:qo P w K mg base qH 1 fM fdM NB zd:=Wv hM.fn T hdi
 have GA:qo P w K mg base qH 1 fA fdA Gu Xd:=kN hA.fn
 have GO:qo P w K mg base qH 1 fO fdO ["_law_labels_here","_law_heap_here"] zM:=kM hO.fn B
 have GS:qo P w K mg base qH 1 fS fdS ["_law_labels_here","_law_heap_here"] QU:=Wu hS.fn T
 refine F.okJ VZ (λvs H Q E z=>?_) (λcdv A outer s H vs Q E hr z=>?_)
 ·obtain⟨l,D,h,ps,rs,R,hs,rfl,_⟩:=z
  rfl
 ·obtain⟨l,D,h,ps,rs,R,hs,rfl,⟨ga,lb,all,hh⟩,ne,q⟩:=z
  have good:=ga.good
  have le:=ga.le
  refine⟨_,qg (qx (i:=3) VZ.nd rfl (Or.inl rfl) Vq)
   (qg (ja PassesOwn.never rfl (qJ (qF hM GM hr (by rfl) (qd (jv 0) (qd (jv 2) qf)))) (qw (i:=4) VZ.nd rfl (Or.inl rfl))
    (qg (qx (i:=5) VZ.nd rfl (Or.inl rfl) (qF hA GA hr (by rfl) (qd (jv 2) (qd (jv 4) qf))))
    (qh (qM (qv jL (qF hO GO hr (by rfl) (qd (jv 1) (qd (jv 5) qf))) qE (qA _))
     (qh (qM (JW.pt (Ji (qv Me (jv 3) Vq (qA _)) (Qm (qv QS (qF hS GS hr (by rfl) (qd (jv 1) (qd (jv 5) qf))) (qT qR (jv 3) qk (λ_ _=>rfl)) (qA _)))))
      (qh (qx (i:=3) VZ.nd rfl (Or.inl rfl) (jp (qd (jv 4) (qd (qF hS GS hr (by rfl) (qd (jv 1) (qd (jv 5) qf))) qf))))) qB)) qB))))
   (qh (qy (jv 3)))),?_⟩
  refine⟨_,rfl,_,rfl,l,h,ps,rs,hs,rfl,ga,hh,λH1 L qs s1 hL hL1 mv=>⟨L,rfl,⟨_,.of hL1⟩,?_⟩⟩
  have l8:=hh.le
  have ok8:∀m∈mvs rs hs hs.length,∀{G:Hp} {ll:Addr},G ll=some (.lst ((lf hs m).map V.str))->jH G ll rs (lf hs m):=λm hm G ll e=>⟨e,by unfold lf;rw[zbL];exact l8,Yp good hh.in_ hm⟩
  refine jx (K:=K) (a:=L) (xs:=qs.map V.ref) (λi σ G=>∃bv vm vl,σ=[some (.ref l),some (.ref D),some (.ref h),some bv,vm,vl]/\Same H1 G/\
    ((((mvs rs hs hs.length).take i).filter (λm=>decide (oW rs R (lf hs m)=zdX "lost"))=[]/\bv=.non)\/∃t p m,bv=.ref t/\G t=some (.tup [.ref p,.int (cnt R (lf hs m):Nat)])/\G p=some (.tup (X6 m))/\Zb R hs (((mvs rs hs hs.length).take i).filter λm=>decide (oW rs R (lf hs m)=zdX "lost")) m))
   ⟨_,_,_,rfl,Same.refl _,.inl ⟨rfl,rfl⟩⟩ (λi σ G _ ⟨_,_,_,_,sG,_⟩=>.of (sG _ _ hL1)) ?_ ?_
  ·rintro i y σ G hy ⟨bv,vm,vl,rfl,sG,hB⟩
   rw[tG]at hy
   cases ep:qs[i]? with
   | none=>rw[ep]at hy;cases hy
   | some p0=>
    rw[ep]at hy
    obtain rfl:=(tO.inj hy).symm
    have hi:i < (mvs rs hs hs.length).length:=by rw[<-mv.1];exact(tw.mp ep).1
    have em:(mvs rs hs hs.length)[i]?=some (mvs rs hs hs.length)[i]:=tE hi
    have hmm:=zbu hi
    have hp1:=mv.2 i p0 _ ep em
    generalize (mvs rs hs hs.length)[i]=m at em hmm hp1
    have s0G:=s1.trans sG
    refine⟨_,rfl,_,rfl,h,p0,hs,m,rfl,s0G _ _ hh.at_,l8,sG _ _ hp1,(Jg hmm).1,λG1 ll s2 nll hll=>?_⟩
    have s02:=s0G.trans s2
    refine⟨_,rfl,_,rfl,D,ll,rs,R,lf hs m,rfl,lb.mono s02,ok8 m hmm hll,Ww good all (Yp good hh.in_ hmm),λG2 s3=>⟨rfl,_,rfl,?_⟩⟩
    have s03:=s02.trans s3
    have s13:=sG.trans (s2.trans s3)
    have hll2:=s3 _ _ hll
    have et:((mvs rs hs hs.length).take (i+1)).filter (λm=>decide (oW rs R (lf hs m)=zdX "lost"))=((mvs rs hs hs.length).take i).filter (λm=>decide (oW rs R (lf hs m)=zdX "lost"))++(if oW rs R (lf hs m)=zdX "lost" then [m] else []):=by
     rw[tP,em,zaN]
     congr 1
     by_cases c:oW rs R (lf hs m)=zdX "lost"<;>simp [c]
    by_cases c:oW rs R (lf hs m)=zdX "lost"
    ·rw[if_pos c]at et
     refine jn (decide_eq_true (by rw[c])) ⟨_,rfl,rfl,_,rfl,?_⟩
     have put:∀{Y:Hp},Same G2 Y->∀t,Y t=none->Zb R hs (((mvs rs hs hs.length).take (i+1)).filter λm=>decide (oW rs R (lf hs m)=zdX "lost")) m->∃bv vm vl,[some (V.ref l),some (.ref D),some (.ref h),some (.ref t),some (.ref p0),some (.ref ll)]=[some (V.ref l),some (.ref D),some (.ref h),some bv,vm,vl]/\Same H1 (upd Y t (.tup [.ref p0,.int (cnt R (lf hs m):Nat)]))/\
       ((((mvs rs hs hs.length).take (i+1)).filter (λm=>decide (oW rs R (lf hs m)=zdX "lost"))=[]/\bv=.non)\/∃t' p m',bv=.ref t'/\upd Y t (.tup [.ref p0,.int (cnt R (lf hs m):Nat)]) t'=some (.tup [.ref p,.int (cnt R (lf hs m'):Nat)])/\upd Y t (.tup [.ref p0,.int (cnt R (lf hs m):Nat)]) p=some (.tup (X6 m'))/\Zb R hs (((mvs rs hs hs.length).take (i+1)).filter λm=>decide (oW rs R (lf hs m)=zdX "lost")) m'):=λ{Y} sY t ht b=>
      ⟨_,_,_,rfl,(s13.trans sY).trans (ql ht),.inr ⟨t,p0,m,rfl,qe,(ql ht) _ _ ((s13.trans sY) _ _ hp1),b⟩⟩
     rcases hB with ⟨e0,rfl⟩ | ⟨t,p,mb,rfl,ht,hp,hb⟩
     ·refine jn (decide_eq_true rfl) ⟨_,rfl,_,rfl,_,rfl,D,ll,rs,R,lf hs m,rfl,le,lb.mono s03,all,ok8 m hmm hll2,QK c,λG3 s4=>⟨by show 2<=zeb;decide,λt ht=>put s4 t ht (by rw[et,e0];exact Zb.one R hs m)⟩⟩
     ·refine jh (decide_eq_false λz=>nomatch z) ⟨_,rfl,_,rfl,D,ll,rs,R,lf hs m,rfl,le,lb.mono s03,all,ok8 m hmm hll2,QK c,λG3 s4=>?_⟩
      have s24:=(s2.trans s3).trans s4
      refine⟨_,rfl,t,_,1,.int (cnt R (lf hs mb):Nat),rfl,rfl,.of (s24 _ _ ht),rfl,_,_,rfl,rfl,_,rfl,?_⟩
      by_cases c2:cnt R (lf hs m) < cnt R (lf hs mb)
      ·refine jn (decide_eq_true (by omega)) ⟨_,rfl,_,rfl,_,rfl,D,ll,rs,R,lf hs m,rfl,le,lb.mono (s03.trans s4),all,ok8 m hmm (s4 _ _ hll2),QK c,λG4 s5=>⟨by show 2<=zeb;decide,λt ht=>put (s4.trans s5) t ht (by rw[et];exact hb.new c2)⟩⟩
      ·refine jh (decide_eq_false (by omega)) ⟨_,_,_,rfl,s13.trans s4,.inr ⟨t,p,mb,rfl,s24 _ _ ht,s24 _ _ hp,by rw[et];exact hb.old c2⟩⟩
    ·rw[if_neg c,zan]at et
     refine jh (decide_eq_false λz=>c (V.str.inj z)) ⟨_,_,_,rfl,s13,?_⟩
     rw[et]
     rcases hB with h0 | ⟨t,p,mb,rfl,ht,hp,hb⟩
     ·exact .inl h0
     ·exact .inr ⟨t,p,mb,rfl,(s2.trans s3) _ _ ht,(s2.trans s3) _ _ hp,hb⟩
  ·rintro σ G ⟨bv,vm,vl,rfl,sG,hB⟩
   rw[tj,mv.1,tF (tz _)]at hB
   rcases hB with ⟨e0,_⟩ | ⟨t,p,mb,rfl,ht,hp,hb⟩
   ·exact absurd (show Qh rs R hs=[] from e0) (List.ne_nil_of_length_pos ne)
   ·exact⟨_,rfl,q G t p mb (s1.trans sG) ht hp hb⟩
end
open PySem L2 PyProof.Rows MLab Rb
def dM(ms:List (Nat×Str)):PyData:=.list (ms.map mD)
theorem qbJ{K:zdW}{H:Hp}{p:Addr}{ps:List Addr}{ms:List (Nat×Str)}(h:H p=some (.lst (ps.map V.ref)))(mv:jM H ps ms):DV K H (.ref p) (dM ms):=.lst (.of h) (Ku mv)
theorem xa{H2:Hp}{l:Addr}{ps:List Addr}{rs:qV}{CG:Addr}{R:Hp->Prop}(hl2:H2 l=some (.lst (ps.map V.ref)))(rat:jF H2 ps rs)(good:qC rs)(pos:0 < rs.length)(le14:rs.length<=14)
  {l2:Addr} (hl2':H2 l2=none) {x dx:Addr} (hx:upd H2 l2 (.lst (ps.map V.ref)) x=none) (hdx:upd H2 l2 (.lst (ps.map V.ref)) dx=none) (ndx:dx≠x) {E:XK} (k:∀H4,Same H2 H4->Qu CG H4 x rs->R H4):
  YK CG [.ref x,.ref l2] (upd (upd (upd H2 l2 (.lst (ps.map V.ref))) dx (.own x)) x (.ins CG dx [])) (λv H'=>v=.non/\R H') E:=by
 have hx2:H2 x=none:=by
  by_cases e:x=l2
  ·rw[e,qe]at hx;cases hx
  ·rw[qi e]at hx;exact hx
 have hdx2:H2 dx=none:=by
  by_cases e:dx=l2
  ·rw[e,qe]at hdx;cases hdx
  ·rw[qi e]at hdx;exact hdx
 have s3:Same H2 (upd (upd (upd H2 l2 (.lst (ps.map V.ref))) dx (.own x)) x (.ins CG dx [])):=λb u hb=>by
  rw[qi (qr hb hx2),qi (qr hb hdx2),qi (qr hb hl2')]
  exact hb
 have hl3:upd (upd (upd H2 l2 (.lst (ps.map V.ref))) dx (.own x)) x (.ins CG dx []) l2=some (.lst (ps.map V.ref)):=by
  have n1:l2≠x:=λe=>by rw[<-e,qe]at hx;cases hx
  have n2:l2≠dx:=λe=>by rw[<-e,qe]at hdx;cases hdx
  rw[qi n1,qi n2]
  exact qe
 refine⟨x,dx,l2,ps,rs,rfl,⟨hl3,rat.mono s3,good,pos,le14⟩,qe,λH4 gr fr4=>⟨rfl,k H4 (λb u hb=>fr4 b u (s3 _ _ hb) (qr hb hx2)) gr⟩⟩
def dR:Rz->PyData
 | .mv m=>.tuple [.str (zdX "told"),mD m]
 | .num n=>.tuple [.str (zdX "told"),.int (n:Nat)]
 | .no z=>.tuple [.str (zdX "not"),.str z]
def qbz:Rz->Prop
 | .mv m=>jq m.2=true
 | .num _=>True
 | .no z=>PyData.strOk z=true
theorem qbI{K:zdW}{H:Hp}{p:Addr}{r:Rz}(h:Kr H p r):DV K H (.ref p) (dR r):=by
 cases r with
 | mv m=>obtain⟨q,a,b⟩:=h;exact .tup (.of a) (.cons (.str _) (.cons (NQ b) .nil))
 | num n=>exact .tup (.of h) (.cons (.str _) (.cons (.int _) .nil))
 | no z=>exact .tup (.of h) (.cons (.str _) (.cons (.str _) .nil))
theorem Kr.keep{H H':Hp}{p:Addr}{r:Rz}(h:Kr H p r)(s:QE H H'):Kr H' p r:=by
 cases r with
 | mv m=>obtain⟨q,a,b⟩:=h;exact⟨q,s _ _ a (λ_ z=>nomatch z),s _ _ b (λ_ z=>nomatch z)⟩
 | num n=>exact s _ _ h (λ_ z=>nomatch z)
 | no z=>exact s _ _ h (λ_ z=>nomatch z)
theorem Mo:PyData.strOk (zdX "told")=true/\PyData.strOk (zdX "not")=true:=by decide+kernel
theorem qb7{r:Rz}(h:qbz r):PySem.SeqAt.shaped (dR r)=true:=by
 unfold PySem.SeqAt.shaped
 cases r with
 | mv m=>
  have e:(dR (.mv m)).canLay0=true:=by
   show (PyData.strOk (zdX "told")&&((true&&(PyData.strOk m.2&&true))&&true))=true
   rw[Mo.1,Vk h]
   rfl
  rw[e]
  exact decide_eq_true (by show 2<=64;decide)
 | num n=>
  have e:(dR (.num n)).canLay0=true:=by
   show (PyData.strOk (zdX "told")&&(true&&true))=true
   rw[Mo.1]
   rfl
  rw[e]
  exact decide_eq_true (by show 1<=64;decide)
 | no z=>
  have e:(dR (.no z)).canLay0=true:=by
   show (PyData.strOk (zdX "not")&&(PyData.strOk z&&true))=true
   rw[Mo.2,show PyData.strOk z=true from h]
   rfl
  rw[e]
  exact decide_eq_true (by show 1<=64;decide)
theorem xF{z:Str}(h:z=wL\/z=wW\/z=wD):PyData.strOk z=true:=by
 rcases h with rfl | rfl | rfl<;>decide+kernel
theorem YC.ok{rs:qV}(good:qC rs){R:Rs Str}{hs:List Str}(hi:∀z∈hs,∃r∈rs,r.1=z){w:Nat}{r:Rz}(h:YC rs R hs w r):qbz r:=by
 have o:=Vg (rs:=rs) (R:=R) (hs:=hs)
 rcases h with ⟨_,⟨_,m,b,rfl⟩ | ⟨_,rfl⟩⟩ | ⟨_,⟨_,rfl⟩ | ⟨_,rfl⟩⟩ | ⟨_,⟨_,rfl⟩ | ⟨_,m,b,rfl⟩ | ⟨_,rfl⟩⟩
 ·exact Ui good hi _ b.mem.1
 ·exact xF o
 ·exact trivial
 ·exact xF o
 ·exact trivial
 ·exact trivial
 ·exact xF (.inr (.inr rfl))
theorem Kj:∀(ms:List (Nat×Str)),PyData.depthAll (ms.map mD)<=1
 | []=>by decide
 | m::ms=>by
  rw[tU]
  have:=Kj ms
  have h1:PyData.depth (mD m)=1:=rfl
  simp only[PyData.depthAll,h1]
  omega
theorem qb8{ms:List (Nat×Str)}(h:∀m∈ms,jq m.2=true):PySem.SeqAt.shaped (dM ms)=true:=by
 unfold PySem.SeqAt.shaped
 rw[zar]
 refine⟨Km h,decide_eq_true ?_⟩
 have:=Kj ms
 show PyData.depth (.list (ms.map mD))<=64
 simp only[PyData.depth]
 omega
theorem jG.keep{H H':Hp}{D:Addr}{rs:qV}{R:Rs Str}(h:jG H D rs R)(s:QE H H'):jG H' D rs R:=⟨let ⟨kvs,a,b,c⟩:=h.at_;⟨kvs,s _ _ a (λ_ z=>nomatch z),b,λr hr=>let ⟨t,u,v⟩:=c r hr;⟨t,u,s _ _ v (λ_ z=>nomatch z)⟩⟩⟩
theorem jH.keep{H H':Hp}{h:Addr}{rs:qV}{hs:List Str}(x:jH H h rs hs)(s:QE H H'):jH H' h rs hs:=⟨s _ _ x.at_ (λ_ z=>nomatch z),x.le,x.in_⟩
theorem LH.keep{H H':Hp}{l D h:Addr}{ps:List Addr}{rs:qV}{R:Rs Str}{hs:List Str}(x:LH H l D h ps rs R hs)(s:QE H H'):LH H' l D h ps rs R hs:=⟨⟨s _ _ x.1.at_ (λ_ z=>nomatch z),x.1.rows.keep s,x.1.good,x.1.pos,x.1.le⟩,x.2.1.keep s,x.2.2.1,x.2.2.2.keep s⟩
def U3:Sp:=λvs H Q _=>∃(l D h:Addr) (ps:List Addr) (rs:qV) (R:Rs Str) (hs:List Str),vs=[.ref l,.ref D,.ref h]/\LH H l D h ps rs R hs/\
 ∀H' L p0 p1 p2 r0 r1 r2,Same H H'->H' L=some (.lst [.ref p0,.ref p1,.ref p2])->YC rs R hs 0 r0->YC rs R hs 1 r1->YC rs R hs 2 r2->Kr H' p0 r0->Kr H' p1 r1->Kr H' p2 r2->Q (.ref L) H'
section
variable{P:Program}{w:World}{K:zdW}{mg:Str->Option Value}{base:Heap}
abbrev qcx:List Str:=["_law_rows_here","_law_labels_here","_law_heap_here","_law_found","_law_best_here","_law_steps_here"]
theorem kx:qt qcx UR (qj V4):=zdV
theorem Ra{f fB fO fS:Addr}{fd fdB fdO fdS:zea}(F:jK K "_law_due" "_law_due" V4 f fd)(hB:qQ K mg "_law_best" Xn UR fB fdB)(GB:qo P w K mg base qH 2 fB fdB UR WW)(hO:qQ K mg "_law_outcome" Xm ["_law_labels_here","_law_heap_here"] fO fdO)(GO:qo P w K mg base qH 1 fO fdO ["_law_labels_here","_law_heap_here"] zM)
  (hS:qQ K mg "_law_steps" Zy ["_law_labels_here","_law_heap_here"] fS fdS) (GS:qo P w K mg base qH 1 fS fdS ["_law_labels_here","_law_heap_here"] QU):qo P w K mg base qH 3 f fd UR U3:=by
 refine F.okJ kx (λvs H Q E z=>?_) (λcdv A outer s H vs Q E hr z=>?_)
 ·obtain⟨l,D,h,ps,rs,R,hs,rfl,_⟩:=z
  rfl
 ·obtain⟨l,D,h,ps,rs,R,hs,rfl,lh,q⟩:=z
  have ⟨ga,lb,all,hh⟩:=lh
  have good:=ga.good
  have r1:qU 1 _:=hr.mono (by decide)
  refine⟨_,qg (qx (i:=3) kx.nd rfl (Or.inl rfl) (qF hO GO r1 (by rfl) (qd (jv 1) (qd (jv 2) qf))))
   (qg (qM (qv jL (jv 3) qE (qA _))
    (qg (qx (i:=4) kx.nd rfl (Or.inl rfl) (qF hB GB hr (by rfl) (qd (jv 0) (qd (jv 1) (qd (jv 2) qf)))))
    (qh (qy (jz (qd (jp (qd qE (qd (qT qR (jv 4) qk (λ_ _=>rfl)) qf))) (qd (jp (qd qE (qd qE qf))) (qd (jp (qd qE (qd (qL Qk qk (qL Qy qk (qT qR (jv 4) qk (λ_ _=>rfl)))) qf))) qf))))))) qB)
   (qg (qM (qv jL (jv 3) qE (qA _))
    (qg (qx (i:=5) kx.nd rfl (Or.inl rfl) (qF hS GS r1 (by rfl) (qd (jv 1) (qd (jv 2) qf))))
    (qh (qy (jz (qd (jp (qd qE (qd qE qf))) (qd (jp (qd qE (qd (jv 5) qf))) (qd (jp (qd qE (qd (qL Qy qk (jv 5)) qf))) qf))))))) qB)
   (qh (qy (qL Gy (jz (qd (jp (qd qE (qd qE qf))) qf)) qk))))),?_⟩
  refine⟨_,rfl,_,rfl,D,h,rs,R,hs,rfl,lb,hh,Ww good all hh.in_,λH1 s1=>⟨_,rfl,rfl,_,rfl,?_⟩⟩
  have dec:∀a b:Str,a=b->decide (V.str a=V.str b)=true:=λa b e=>decide_eq_true (by rw[e])
  have ndec:∀a b:Str,a≠b->decide (V.str a=V.str b)=false:=λa b e=>decide_eq_false λz=>e (V.str.inj z)
  by_cases c:oW rs R hs=wW
  ·refine jn (dec _ _ c) ⟨_,rfl,_,rfl,_,rfl,l,D,h,ps,rs,R,hs,rfl,lh.mono s1,US good all hh.in_ c,λH2 t p m s2 ht hp b=>?_⟩
   refine⟨_,rfl,t,_,0,.ref p,rfl,rfl,.of ht,rfl,by show 2<=zeb;decide,λa f1=>⟨by show 2<=zeb;decide,λb' f2=>?_⟩⟩
   have s3:=ql (o:=HO.tup [V.str (zdX "told"),.ref p]) f1
   have s4:=ql (o:=HO.tup [V.str (zdX "not"),.str (zdX "won")]) f2
   have e1:=s4 _ _ (qe (a:=a) (o:=HO.tup [V.str (zdX "told"),.ref p]) (H:=H2))
   have e2:=qe (a:=b') (o:=HO.tup [V.str (zdX "not"),.str (zdX "won")]) (H:=upd H2 a (HO.tup [V.str (zdX "told"),.ref p]))
   generalize upd (upd H2 a (HO.tup [V.str (zdX "told"),.ref p])) b' (HO.tup [V.str (zdX "not"),.str (zdX "won")])=H4 at s4 e1 e2
   have s24:=s3.trans s4
   refine⟨_,rfl,t,_,1,.int (cnt R (lf hs m):Nat),rfl,rfl,.of (s24 _ _ ht),rfl,_,_,rfl,rfl,.inl ⟨by decide,by decide⟩,_,_,rfl,rfl,by show 2<=zeb;decide,λd f5=>⟨by show 3<=zeb;decide,λL f6=>?_⟩⟩
   dsimp only at f6 ⊢
   have en:(1:Int)+2*((cnt R (lf hs m):Nat):Int)=((1+2*cnt R (lf hs m):Nat):Int):=by omega
   rw[en]at f6 ⊢
   have s5:=ql (o:=HO.tup [V.str (zdX "told"),.int ((1+2*cnt R (lf hs m):Nat):Int)]) f5
   have s6:=ql (o:=HO.lst [V.ref a,.ref b',.ref d]) f6
   exact q _ L a b' d (.mv m) (.no wW) (.num (1+2*cnt R (lf hs m))) ((s1.trans s2).trans (s24.trans (s5.trans s6))) qe (.inl ⟨rfl,.inl ⟨c,m,b,rfl⟩⟩) (.inr (.inl ⟨rfl,.inr ⟨λz=>xG (z.symm.trans c),by rw[c]⟩⟩)) (.inr (.inr ⟨rfl,.inr (.inl ⟨c,m,b,rfl⟩)⟩)) ⟨p,s6 _ _ (s5 _ _ e1),s6 _ _ (s5 _ _ (s24 _ _ hp))⟩ (s6 _ _ (s5 _ _ e2)) (s6 _ _ qe)
  ·refine jh (ndec _ _ c) ⟨_,rfl,rfl,_,rfl,?_⟩
   by_cases c2:oW rs R hs=wL
   ·refine jn (dec _ _ c2) ⟨_,rfl,_,rfl,D,h,rs,R,hs,rfl,ga.le,lb.mono s1,all,hh.mono s1,QK c2,λH2 s2=>⟨by show 2<=zeb;decide,λa f1=>⟨_,rfl,by show 2<=zeb;decide,λb' f2=>⟨_,rfl,_,_,rfl,rfl,.inl ⟨by decide,by decide⟩,by show 2<=zeb;decide,λd f3=>⟨by show 3<=zeb;decide,λL f6=>?_⟩⟩⟩⟩⟩
    dsimp only at f6 ⊢
    have en:(2:Int)*((cnt R hs:Nat):Int)=((2*cnt R hs:Nat):Int):=by omega
    rw[en]at f6 ⊢
    have s3:=ql (o:=HO.tup [V.str (zdX "not"),.str (zdX "lost")]) f1
    have s4:=ql (o:=HO.tup [V.str (zdX "told"),.int ((cnt R hs:Nat):Int)]) f2
    have s5:=ql (o:=HO.tup [V.str (zdX "told"),.int ((2*cnt R hs:Nat):Int)]) f3
    have s6:=ql (o:=HO.lst [V.ref a,.ref b',.ref d]) f6
    exact q _ L a b' d (.no wL) (.num (cnt R hs)) (.num (2*cnt R hs)) ((s1.trans s2).trans (((s3.trans s4).trans s5).trans s6)) qe (.inl ⟨rfl,.inr ⟨c,by rw[c2]⟩⟩) (.inr (.inl ⟨rfl,.inl ⟨c2,rfl⟩⟩)) (.inr (.inr ⟨rfl,.inl ⟨c2,rfl⟩⟩)) (s6 _ _ (s5 _ _ (s4 _ _ qe))) (s6 _ _ (s5 _ _ qe)) (s6 _ _ qe)
   ·have c3:oW rs R hs=wD:=by rcases Vg (rs:=rs) (R:=R) (hs:=hs) with z | z | z<;>first | exact z | exact absurd z c | exact absurd z c2
    refine jh (ndec _ _ c2) ⟨by show 2<=zeb;decide,λa f1=>⟨by show 1<=zeb;decide,λb' f2=>⟨b',.ref a,3,rfl,rfl,.of qe,by decide,λL f6=>?_⟩⟩⟩
    have s3:=ql (o:=HO.tup [V.str (zdX "not"),.str (zdX "drawn")]) f1
    have s4:=ql (o:=HO.lst [V.ref a]) f2
    have s6:=ql (o:=HO.lst (zbv 3 (V.ref a))) f6
    have ta:=s6 _ _ (s4 _ _ (qe (a:=a) (o:=HO.tup [V.str (zdX "not"),.str (zdX "drawn")]) (H:=H1)))
    exact q _ L a a a (.no wD) (.no wD) (.no wD) (s1.trans ((s3.trans s4).trans s6)) qe (.inl ⟨rfl,.inr ⟨c,by rw[c3]⟩⟩) (.inr (.inl ⟨rfl,.inr ⟨c2,by rw[c3]⟩⟩)) (.inr (.inr ⟨rfl,.inr (.inr ⟨c3,rfl⟩)⟩)) ta ta ta
end
theorem GH.keep{CG:Addr}{H H':Hp}{g h:Addr}{rs:qV}{hs:List Str}(x:GH CG H g h rs hs)(s:QE H H'):GH CG H' g h rs hs:=⟨x.1.keep s,x.2.1,x.2.2.1,x.2.2.2.keep s⟩
section
variable(K:zdW)
theorem qbh:zag K (.type "str") (.type "bool")=some false:=by kernel_rfl
theorem qbf:zag K (.type "tuple") (.type "bool")=some false:=by kernel_rfl
theorem uI:zag K (.type "int") (.type "bool")=some false:=by kernel_rfl
theorem qbg:zag K (.type "str") (.type "tuple")=some false:=by kernel_rfl
theorem qbj:zag K (.type "int") (.type "tuple")=some false:=by kernel_rfl
theorem NG:zag K (.type "tuple") (.type "tuple")=some true:=by kernel_rfl
theorem qbi:zag K (.type "list") (.type "list")=some true:=by kernel_rfl
end
theorem Kr.snd{K:zdW}{G:Hp}{p:Addr}{r:Rz}(h:Kr G p r):∃wd y,G p=some (.tup [wd,y])/\((∃t,zE K G y t/\zag K t (.type "bool")=some false/\zag K t (.type "tuple")=some false)\/∃q m,y=.ref q/\G q=some (.tup (X6 m))):=by
 cases r with
 | mv m=>obtain⟨q,a,b⟩:=h;exact⟨_,_,a,.inr ⟨q,m,rfl,b⟩⟩
 | num n=>exact⟨_,_,h,.inl ⟨_,.int _,uI K,qbj K⟩⟩
 | no z=>exact⟨_,_,h,.inl ⟨_,.str _,qbh K,qbg K⟩⟩
theorem UG{rs:qV}(good:qC rs){R R':Rs Str}(h:Zt rs R)(k:Zt rs R'):R=R':=All.uniq good.nd h k
theorem QE.upd2{H G1 G:Hp}{p:Addr}{o:HO}(k1:QE H G1)(n:G1 p=none)(k:QE H G):QE H (L2.upd G p o):=λb u h ne=>by
 have e:=k1 b u h ne
 rw[qi (λz=>by rw[z,n]at e;cases e)]
 exact k b u h ne
theorem jM.pts{H:Hp}:∀{qs:List Addr} {ms:List (Nat×Str)},jM H qs ms->∃xs:List (Addr×(Nat×Str)),xs.map (·.1)=qs/\xs.map (·.2)=ms/\∀x∈xs,H x.1=some (.tup (X6 x.2)):=by
 intro qs
 induction qs with
 | nil=>
  intro ms h
  cases ms with
  | nil=>exact⟨[],rfl,rfl,λ_ z=>by cases z⟩
  | cons o os=>cases h.1
 | cons t ts ih=>
  intro ms h
  cases ms with
  | nil=>cases h.1
  | cons o os=>
   obtain⟨xs,e1,e2,hx⟩:=ih (ms:=os) h.tail
   refine⟨(t,o)::xs,by rw[tU,e1],by rw[tU,e2],λx hx'=>?_⟩
   rcases tS.mp hx' with rfl | hx'
   ·exact h.2 0 t o rfl rfl
   ·exact hx x hx'
def VW(PT:Addr):Sp:=λvs H Q _=>∃(l D h:Addr) (ps:List Addr) (rs:qV) (R:Rs Str) (hs:List Str),vs=[.ref l,.ref D,.ref h]/\LH H l D h ps rs R hs/\(∃tq,H PT=some (.tbl #[.str zU tq]))/\∀H',QE H H'->Q (.bl true) H'
section
variable{P:Program}{w:World}{K:zdW}{mg:Str->Option Value}{base:Heap}
abbrev nRi:List Str:=["_law_rows_here","_law_labels_here","_law_heap_here","_law_ground","_law_handed","_law_due_here","_law_again","_law_way","_law_told_here","_law_moves_here","_law_some"]
theorem W1:qt nRi UR (qj YS):=zdV
theorem yZ{f CG PT fI fT fDu fWM fM fO fA:Addr}{fd fdI fdT fdDu fdWM fdM fdO fdA:zea}(F:jK K "_law_right" "_law_right" YS f fd)(B:QO mg)(G:QM mg)(T:Qt K mg)(Zk:Wk K mg)(C:ClG K mg CG fI fdI)(GI:qo P w K mg base qH 6 fI fdI ["self","rows"] (YK CG))
  (hT:qQ K mg "_law_told" Xl yS fT fdT) (GT:qo P w K mg base qH 15 fT fdT yS (U0 CG PT)) (hDu:qQ K mg "_law_due" V4 UR fDu fdDu) (GDu:qo P w K mg base qH 3 fDu fdDu UR U3) (hWM:qQ K mg "winning_moves" zh ["ground","heap"] fWM fdWM) (GWM:qo P w K mg base qH 12 fWM fdWM ["ground","heap"] (Xc CG))
  (hM:qQ K mg "_law_moves" Zz NB fM fdM) (GM:qo P w K mg base qH 1 fM fdM NB zd) (hO:qQ K mg "_law_outcome" Xm ["_law_labels_here","_law_heap_here"] fO fdO) (GO:qo P w K mg base qH 1 fO fdO ["_law_labels_here","_law_heap_here"] zM) (hA:qQ K mg "_law_after" Wr Gu fA fdA) (GA:qo P w K mg base qH 1 fA fdA Gu Xd):qo P w K mg base qH 16 f fd UR (VW PT):=by
 refine F.okJ W1 (λvs H Q E z=>?_) (λcdv A outer s H vs Q E hr z=>?_)
 ·obtain⟨l,D,h,ps,rs,R,hs,rfl,_⟩:=z
  rfl
 ·obtain⟨l,D,h,ps,rs,R,hs,rfl,lh,⟨tq,hP⟩,q⟩:=z
  have ⟨ga,lb,all,hh⟩:=lh
  have good:=ga.good
  have r1:qU 1 _:=hr.mono (by decide)
  refine⟨_,qg (qx (i:=3) W1.nd rfl (Or.inl rfl) (JZ C.mkr GI (hr.mono (by decide)) (by rfl) C.ns C.bi .nil QR (qd (jB Qs (by rfl) G.lst boot_list (qd (jv 0) qf)) qf)))
   (qg (qx (i:=4) W1.nd rfl (Or.inl rfl) (jB Qs (by rfl) G.lst boot_list (qd (jv 2) qf)))
   (qg (qx (i:=5) W1.nd rfl (Or.inl rfl) (qF hDu GDu (hr.mono (by decide)) (by rfl) (qd (jv 0) (qd (jv 1) (qd (jv 2) qf)))))
   (qg (ja PassesOwn.never rfl (jA (by rfl) B.rng (qd qk qf)) (qw (i:=6) W1.nd rfl (Or.inl rfl))
    (qg (ja PassesOwn.never rfl (jA (by rfl) B.rng (qd qk qf)) (qw (i:=7) W1.nd rfl (Or.inl rfl))
    (qg (qx (i:=8) W1.nd rfl (Or.inl rfl) (qF hT GT hr (by rfl) (qd (jv 7) (qd (jv 3) (qd (jv 4) qf)))))
   (qg (qM (JW.pt (Ji (qv (wX hr.units) (jv 8) (qT QF (jv 5) (jv 7) (λ_ _=>rfl)) (qA _)) (Qm (jl (qD jc (by rfl) T.isi boot_isinstance (qd (qT qR (jv 8) qk (λ_ _=>rfl)) (qd (jW (v:=.ty "bool") (by rfl) Zk.bool boot_bool rfl) qf))))))) qS qB)
   (qh (qM (JW.pt (j1 (jl (qD jc (by rfl) T.isi boot_isinstance (qd (qT qR (jv 8) qk (λ_ _=>rfl)) (qd (jW (v:=.ty "tuple") (by rfl) G.tup boot_tuple rfl) qf)))) (jJ (jl (qD jc (by rfl) T.isi boot_isinstance (qd (qT qR (qT qR (jv 8) qk (λ_ _=>rfl)) qk (λ_ _=>rfl)) (qd (jW (v:=.ty "bool") (by rfl) Zk.bool boot_bool rfl) qf))))))) qS qB)))))
   (qg (qx (i:=9) W1.nd rfl (Or.inl rfl) (qF hWM GWM (hr.mono (by decide)) (by rfl) (qd (jv 3) (qd (jv 4) qf))))
   (qg (Q6 (i:=10) (N':=["_law_one","_law_labels_here","_law_heap_here"]) (ix:=[none,some 1,some 2]) (tt:=Y8 (Yu rEq (ZO zM [] E0 (jk (jd 1) (jk (ZO Xd [] E0 (jk (jd 2) (jk (jd 0) QT))) QT))) (tC (.str (zdX "lost"))))) (te:=jd 0) W1.nd rfl (Or.inl rfl) rfl ⟨rfl,rfl,rfl,rfl,rfl⟩ (qJ (qF hM GM r1 (by rfl) (qd (jv 0) (qd (jv 2) qf)))) (λC s2 H2 fp pins=>
      ⟨qw (i:=0) (show (["_law_one","_law_labels_here","_law_heap_here"]:List Str).Nodup by decide+kernel) rfl (Or.inl rfl),jV (qv jL (qF hO GO r1 (by rfl) (qd (jv 1) (qd (qF hA GA r1 (by rfl) (qd (jv 2) (qd (jv 0) qf))) qf))) qE (qA _)),jv 0⟩))
   (qg (qM (JW.pt (Ji (Qn (jl (qD jc (by rfl) T.isi boot_isinstance (qd (jv 9) (qd (jW (v:=.ty "list") (by rfl) G.lst boot_list rfl) qf))))) (Qm (qv (wX hr.units) (jv 9) (jv 10) (qA _))))) qS qB)
   (qg (qM (qv (YT (zbU (jX hr))) (j4 (N':=["_law_move"]) (ix:=[none]) (tt:=tOr (qas (tB (Nm (wG K) (jk (jd 0) (jk (tC (.ty "tuple")) QT))))) (tB (Nm (wG K) (jk (Yu (zT K) (jd 0) (tC (.int 0))) (jk (tC (.ty "bool")) QT))))) (te:=jd 0) rfl ⟨rfl,rfl,rfl,rfl,rfl⟩ (qJ (jv 9)) (λC s2 H2 fp pins=>
      ⟨qw (i:=0) (Mr _) rfl (Or.inl rfl),jV (JW.pt (Ji (Qn (jl (qD jc (by rfl) T.isi boot_isinstance (qd (jv 0) (qd (jW (v:=.ty "tuple") (by rfl) G.tup boot_tuple rfl) qf))))) (Qm (jl (qD jc (by rfl) T.isi boot_isinstance (qd (qT qR (jv 0) qk (λ_ _=>rfl)) (qd (jW (v:=.ty "bool") (by rfl) Zk.bool boot_bool rfl) qf))))))),jv 0⟩)) (jz qf) (qA _)) qS qB)
   (qh (je (ZS zau zaY zaZ QA (jv 9) (qd Vq qf))))))))))
   (qh (qy (Qq (Mg hr.units) (jv 4) (jv 2) (qA _))))))),?_⟩
  refine⟨_,rfl,l,_,rfl,.inl (.of ga.at_),λl2 f2 x dx hx hdx ndx=>?_⟩
  refine xa ga.at_ ga.rows good ga.pos ga.le f2 hx hdx ndx λH4 s4 gr=>?_
  refine⟨_,rfl,h,_,rfl,.inl (.of (s4 _ _ hh.at_)),λhd fhd=>?_⟩
  have s5:=ql (o:=HO.lst (hs.map V.str)) fhd
  have h5:upd H4 hd (HO.lst (hs.map V.str)) hd=some (.lst (hs.map V.str)):=qe
  generalize upd H4 hd (HO.lst (hs.map V.str))=H5 at s5 h5
  have s05:=s4.trans s5
  refine⟨_,rfl,_,rfl,_,rfl,l,D,h,ps,rs,R,hs,rfl,lh.mono s05,λH6 L p0 p1 p2 r0 r1' r2 s6 hL e0 e1 e2 t0 t1 t2=>?_⟩
  have s06:=s05.trans s6
  have gh6:GH CG H6 x hd rs hs:=⟨gr.mono (s5.trans s6),good,ga.le,⟨s6 _ _ h5,hh.le,hh.in_⟩⟩
  have lh6:=lh.mono s06
  have hP6:=s06 _ _ hP
  have due:∀w,w < 3->∃p r,vG [V.ref p0,.ref p1,.ref p2] (w:Nat)=some (.ref p)/\YC rs R hs w r/\Kr H6 p r:=λw hw=>by
   match w,hw with
   | 0,_=>exact⟨p0,r0,rfl,e0,t0⟩
   | 1,_=>exact⟨p1,r1',rfl,e1,t1⟩
   | 2,_=>exact⟨p2,r2,rfl,e2,t2⟩
  refine⟨2,rfl,by decide,by decide,?_⟩
  refine QC (n:=2) (λi σ G=>∃v6 v7 v8 v9 v10,σ=[some (.ref l),some (.ref D),some (.ref h),some (.ref x),some (.ref hd),some (.ref L),v6,v7,v8,v9,v10]/\QE H6 G) ⟨_,_,_,_,_,rfl,QE.refl _⟩ ?_ ?_
  ·rintro i σ G hi ⟨v6,v7,v8,v9,v10,rfl,kG⟩
   refine⟨3,rfl,by decide,by decide,?_⟩
   refine QC (n:=3) (λj σ G=>∃v7 v8,σ=[some (.ref l),some (.ref D),some (.ref h),some (.ref x),some (.ref hd),some (.ref L),some (.int (0+(i:Nat))),v7,v8,v9,v10]/\QE H6 G) ⟨_,_,rfl,kG⟩ ?_ ?_
   ·rintro j σ G1 hj ⟨v7,v8,rfl,k1⟩
    rw[zbJ]
    obtain⟨pd,rd,ea,er,et⟩:=due j hj
    refine⟨_,rfl,_,rfl,_,rfl,j,x,hd,rs,hs,rfl,by omega,gh6.keep k1,⟨tq,k1 _ _ hP6 (λ_ z=>nomatch z)⟩,λR' all' r hr' G2 p k2 ta=>?_⟩
    obtain rfl:=UG good all all'
    obtain rfl:=er.uniq hr'
    have k02:=k1.trans k2
    have okr:=er.ok good hh.in_
    refine⟨_,rfl,_,rfl,_,rfl,L,_,_,.ref pd,rfl,rfl,.of (k02 _ _ hL (λ_ z=>nomatch z)),ea,dR rd,qbI ta,qbI (et.keep k02),qb7 okr,_,rfl,ji ?_⟩
    obtain⟨wd,y,hy,hk⟩:=ta.snd (K:=K)
    rcases hk with ⟨ty,hty,kb,kt⟩ | ⟨qm,mm,rfl,hqm⟩
    ·refine⟨_,rfl,p,_,1,y,rfl,rfl,.of hy,rfl,_,_,_,_,rfl,rfl,hty,kb,_,rfl,ji ?_⟩
     exact⟨_,rfl,p,_,1,y,rfl,rfl,.of hy,rfl,_,_,_,_,rfl,rfl,hty,kt,_,rfl,ji ⟨_,_,rfl,k02⟩⟩
    ·refine⟨_,rfl,p,_,1,_,rfl,rfl,.of hy,rfl,_,_,_,_,rfl,rfl,.tup hqm,qbf K,_,rfl,ji ?_⟩
     exact⟨_,rfl,p,_,1,_,rfl,rfl,.of hy,rfl,_,_,_,_,rfl,rfl,.tup hqm,NG K,_,rfl,j3 ⟨_,rfl,p,_,1,_,rfl,rfl,.of hy,rfl,qm,_,0,_,rfl,rfl,.of hqm,rfl,_,_,_,_,rfl,rfl,.int _,uI K,_,rfl,ji ⟨_,_,rfl,k02⟩⟩⟩
   ·rintro σ G1 ⟨v7,v8,rfl,k1⟩
    refine⟨_,rfl,_,rfl,x,hd,rs,hs,rfl,gh6.keep k1,λG2 LW pw R' all' s2 nLW hLW mvw=>?_⟩
    obtain rfl:=UG good all all'
    have k2:=k1.trans s2.keep
    have lh2:=lh6.keep k2
    refine⟨_,rfl,_,rfl,l,h,ps,rs,hs,rfl,lh2.1,lh2.2.2.2,λG3 LM qs s3 nLM hLM mvm=>⟨LM,rfl,⟨_,.of hLM⟩,λW hW=>?_⟩⟩
    have k3:=k2.trans s3.keep
    have lh3:=lh6.keep k3
    have l8:=hh.le
    have lmv:(mvs rs hs hs.length).length<=112:=by
     have:=ZB good ga.le hh.in_ hs.length (tz _)
     omega
    have nmw:∀m∈Qh rs R hs,jq m.2=true:=λm hm=>Ui good hh.in_ m (zad.mp hm).1
    have lw:(Qh rs R hs).length<=112:=zaa (zaq _ _) lmv
    obtain⟨xs,x1,x2,hx⟩:=mvm.pts
    have lxs:xs.length<=112:=by
     have:=congrArg zax x2
     rw[tj]at this
     omega
    have hmx:∀z∈xs,z.2∈mvs rs hs hs.length:=λz hz=>by rw[<-x2];exact tL.mpr ⟨z,hz,rfl⟩
    have hLM':G3 LM=some (.lst (xs.map λz=>V.ref z.1)):=by
     rw[<-x1,zaO]at hLM
     exact hLM
    refine Q8 (K:=K) (a:=LM) (xs:=xs) (enc:=λz=>V.ref z.1) (out:=λz=>if decide (oW rs R (lf hs z.2)=zdX "lost")=true then some (V.ref z.1) else none) (rest:=[some (.ref D),some (.ref h)]) hW hLM' (qp (by omega)) (λz hz Y sY Rr hR=>?_) (λz hz v ev Y sY Rr hR=>?_) (λG5 s5 hW5=>?_)
    ·have lhY:=lh3.mono sY
     refine⟨_,rfl,_,rfl,_,rfl,h,z.1,hs,z.2,rfl,lhY.2.2.2.at_,l8,sY _ _ (hx z hz),(Jg (hmx z hz)).1,λY1 ll s1 nll hll=>?_⟩
     refine⟨D,ll,rs,R,lf hs z.2,rfl,lhY.2.1.mono s1,⟨hll,by unfold lf;rw[zbL];exact l8,Yp good hh.in_ (hmx z hz)⟩,Ww good all (Yp good hh.in_ (hmx z hz)),λY2 s2=>⟨rfl,_,rfl,?_⟩⟩
     have r:=hR Y2 (s1.trans s2)
     have e:(if decide (oW rs R (lf hs z.2)=zdX "lost")=true then some (V.ref z.1) else none).isSome=decide (V.str (oW rs R (lf hs z.2))=V.str (zdX "lost")):=by
      by_cases c:oW rs R (lf hs z.2)=zdX "lost"
      ·rw[decide_eq_true c,decide_eq_true (by rw[c])];rfl
      ·rw[decide_eq_false c,decide_eq_false λz=>c (V.str.inj z)];rfl
     rw[e]at r
     exact r
    ·have ev':v=.ref z.1:=by
      by_cases c:oW rs R (lf hs z.2)=zdX "lost"
      ·rw[decide_eq_true c]at ev;exact(tO.inj ev).symm
      ·rw[decide_eq_false c]at ev;cases ev
     subst ev'
     exact⟨_,rfl,hR Y (Same.refl Y)⟩
    ·rw[Ya]at hW5
     have ew:(xs.filter λz=>decide (oW rs R (lf hs z.2)=zdX "lost")).map (·.2)=Qh rs R hs:=by
      unfold Qh
      rw[<-x2,zdr]
      rfl
     have mvW:jM G5 ((xs.filter λz=>decide (oW rs R (lf hs z.2)=zdX "lost")).map (·.1)) (Qh rs R hs):=by
      rw[<-ew]
      exact UN λz hz=>s5 _ _ (hx z (zad.mp hz).1)
     have hW5':G5 W=some (.lst (((xs.filter λz=>decide (oW rs R (lf hs z.2)=zdX "lost")).map (·.1)).map V.ref)):=by rw[zaO];exact hW5
     have s35:=s3.trans s5
     have hLW5:=s35 _ _ hLW
     have mvw5:=mvw.mono s35
     have k5:=k3.trans s5.keep
     refine⟨_,rfl,_,_,_,_,rfl,rfl,.lst hLW5,qbi K,_,rfl,ji ⟨_,rfl,_,rfl,dM (Qh rs R hs),qbJ hLW5 mvw5,qbJ hW5' mvW,qb8 nmw,_,rfl,ji ?_⟩⟩
     refine⟨_,rfl,LW,rfl,⟨_,.of hLW5⟩,λW2 hW2=>?_⟩
     obtain⟨ys,y1,y2,hy⟩:=mvw5.pts
     have lys:ys.length<=112:=by
      have:=congrArg zax y2
      rw[tj]at this
      omega
     have hLW5':G5 LW=some (.lst (ys.map λz=>V.ref z.1)):=by
      have:=hLW5
      rw[<-y1,zaO]at this
      exact this
     refine Q8 (K:=K) (a:=LW) (xs:=ys) (enc:=λz=>V.ref z.1) (out:=λ_=>none) (rest:=[]) hW2 hLW5' (qp (by omega)) (λz hz Y sY Rr hR=>?_) (λz hz v ev Y sY Rr hR=>by cases ev) (λG6 s6' hW6=>?_)
     ·have hp:=sY _ _ (hy z hz)
      exact⟨_,rfl,_,_,_,_,rfl,rfl,.tup hp,NG K,_,rfl,ji ⟨_,rfl,z.1,_,0,_,rfl,rfl,.of hp,rfl,_,_,_,_,rfl,rfl,.int _,uI K,_,rfl,hR Y (Same.refl Y)⟩⟩
     ·have e0:ys.filterMap (λ_=>(none:Option V))=[]:=by induction ys<;>simp [*]
      rw[e0]at hW6
      refine⟨by show 0<=zeb;decide,λl0 f0=>⟨W2,l0,[],rfl,rfl,.of ((ql f0) _ _ hW6),.of qe,_,rfl,ji ?_⟩⟩
      have s56:=s6'.trans (ql (o:=HO.lst []) f0)
      have hLW6:=s56 _ _ hLW5
      refine⟨_,rfl,.inl ⟨rfl,_,.of hLW6⟩,LW,_,_,rfl,rfl,hLW6,by rw[tj,mvw.1];exact qp (by omega),_,_,_,_,_,rfl,QE.upd2 k1 nLW (k5.trans s56.keep)⟩
  ·rintro σ G ⟨v6,v7,v8,v9,v10,rfl,kG⟩
   have lhG:=lh6.keep kG
   have gh:=gh6.keep kG
   exact⟨_,rfl,_,rfl,dL hs,qbK gh.2.2.2.at_,qbK lhG.2.2.2.at_,shL (λz hz=>let ⟨r,hr',e⟩:=hh.in_ z hz;e▸good.nm r hr'),q G (s06.keep.trans kG)⟩
end
open PySem L2 PyProof.Rows MLab Rb
theorem qbb{r:Int}(h0:0<=r)(h1:r < 4):∃mo:Nat,vG [V.int 5,.int 7,.int 9,.int 14] r=some (.int (mo:Int))/\0 < mo/\mo<=14:=by
 have:r=0\/r=1\/r=2\/r=3:=by omega
 rcases this with rfl | rfl | rfl | rfl
 ·exact⟨5,rfl,by decide,by decide⟩
 ·exact⟨7,rfl,by decide,by decide⟩
 ·exact⟨9,rfl,by decide,by decide⟩
 ·exact⟨14,rfl,by decide,by decide⟩
theorem vx{H H':Hp}{d b:Addr}{o:HO}{kv:List (qN×V)}(fr:Fr H d H')(hd:H d=some (.dK kv))(hb:H b=some o)(no:∀kv,o≠.dK kv):H' b=some o:=fr _ _ hb λe=>by
 rw[e,hd]at hb
 exact no _ (tO.inj hb).symm
theorem M7{K:zdW}{H H':Hp}{p d:Addr}{ns:List Int}{kvs:List (qN×V)}(h:SqL K H p (ns.map V.int))(hd:H d=some (.dK kvs))(f:Fr H d H'):SqL K H' p (ns.map V.int):=by
 rcases h with (h | ⟨o,h⟩) | h
 ·exact .inl (.inl (f _ _ h (λe=>by rw[e,hd]at h;cases h)))
 ·exact .inl (.inr ⟨o,f _ _ h (λe=>by rw[e,hd]at h;cases h)⟩)
 ·exact .inr h
theorem qbc{r:Int}(h0:0<=r)(h1:r < 3):∃mo:Nat,vG [V.int 3,.int 5,.int 8] r=some (.int (mo:Int))/\mo<=8:=by
 have:r=0\/r=1\/r=2:=by omega
 rcases this with rfl | rfl | rfl
 ·exact⟨3,rfl,by decide⟩
 ·exact⟨5,rfl,by decide⟩
 ·exact⟨8,rfl,by decide⟩
theorem qbm{n jj:Int}(h0:0<=n)(h:(if (if (4:Int) < n then (4:Int) else n) > 2 then (if (4:Int) < n then (4:Int) else n) else 2)=jj):-(2^62)<=jj/\jj < 2^62:=by
 subst h
 split<;>split<;>omega
def NV(K:zdW)(PT:Addr):Sp:=λvs H Q _=>∃(a:Addr) (ns:List Int),vs=[.ref a]/\SqL K H a (ns.map V.int)/\ns.length<=63/\H PT=some (.tbl #[.str zU 0])/\∀H',Q (.bl true) H'
theorem jG.fr{H H':Hp}{D d:Addr}{rs:qV}{R:Rs Str}{kv:List (qN×V)}(h:jG H D rs R)(hd:H d=some (.dK kv))(n:D≠d)(s:Fr H d H'):jG H' D rs R:=⟨let ⟨kvs,a,b,c⟩:=h.at_;⟨kvs,s _ _ a n,b,λr hr=>let ⟨t,u,v⟩:=c r hr;⟨t,u,vx s hd v (λ_ z=>nomatch z)⟩⟩⟩
section
variable{P:Program}{w:World}{K:zdW}{mg:Str->Option Value}{base:Heap}
abbrev qcu:List Str:=["_law_script","_law_k","_law_source_here","_law_rows_here","_law_labels_here","_law_heap_here","_law_numbered","_law_twice"]
theorem Yj:qt qcu ["_law_script"] (qj W4):=zdV
structure qbG(K:zdW)(mg:Str->Option Value):Prop where
 cell:∃f fd,qQ K mg "_law_cell_at" kF ["_law_script","_law_k"] f fd
 source:∃f fd,qQ K mg "_law_source" YR ["_law_cell"] f fd
 take:∃f fd,qQ K mg "_law_take" Yl ["_law_source_here","_law_many"] f fd
 names:∃f fd,qQ K mg "_law_names" Xi ["_law_source_here","_law_many"] f fd
 leads:∃f fd,qQ K mg "_law_leads" Xk Xy f fd
 rows:∃f fd,qQ K mg "_law_rows" ky ["_law_source_here","_law_most"] f fd
 need:∃f fd,qQ K mg "need_rows" V0 ["rows"] f fd
 heap:∃f fd,qQ K mg "_law_heap" W5 nLH f fd
 nums:∃f fd,qQ K mg "_law_numbers" Jw ["_law_rows_here"] f fd
 comes:∃f fd,qQ K mg "_law_comes" ZA yR f fd
 back:∃f fd,qQ K mg "_law_back" ZZ yR f fd
 labels:∃f fd,qQ K mg "_law_labels" zk ["_law_rows_here"] f fd
 out:∃f fd,qQ K mg "_law_outcome" Xm ["_law_labels_here","_law_heap_here"] f fd
 moves:∃f fd,qQ K mg "_law_moves" Zz NB f fd
 aft:∃f fd,qQ K mg "_law_after" Wr Gu f fd
 ask:∃f fd,qQ K mg "_law_ask" V5 yS f fd
 told:∃f fd,qQ K mg "_law_told" Xl yS f fd
 steps:∃f fd,qQ K mg "_law_steps" Zy ["_law_labels_here","_law_heap_here"] f fd
 best:∃f fd,qQ K mg "_law_best" Xn UR f fd
 due:∃f fd,qQ K mg "_law_due" V4 UR f fd
 right:∃f fd,qQ K mg "_law_right" YS UR f fd
structure qbF(K:zdW)(mg:Str->Option Value):Prop where
 wb:∃f fd,qQ K mg "winning_by" ZX p3 f fd
 cb:∃f fd,qQ K mg "count_by" Jn ["labels","heap"] f fd
 no:∃f fd,qQ K mg "need_outcome_by" ZY ["labels","heap","wanted"] f fd
 wm:∃f fd,qQ K mg "winning_moves" zh ["ground","heap"] f fd
 co:∃f fd,qQ K mg "count_of" Xt ["ground","heap"] f fd
 wr:∃f fd,qQ K mg "winner" zg ["ground","heap"] f fd
 mm:∃f fd,qQ K mg "most_moves" V3 ["ground","heap"] f fd
theorem Mm{f fA c PT CG D CS fX:Addr}{fd fdA fdX:zea}(F:jK K "law" "law" W4 f fd)(hA:qQ K mg "winner_by" Q0 p3 fA fdA)(hc:fdA.code=.ref c)(TM:UJ mg base c PT)(h:WF K mg)(B:QO mg)(Zk:Wk K mg)(G:QM mg)(T:Qt K mg)(N:Nc K mg)(M:GM K mg CG)(Y:qag K mg)(O:Kt K mg)(V1:Nb K mg)(Q1:qbF K mg)(L:qbG K mg)(hdi:mg "dict"=none)(xS:Nd K mg D "NotSo" "NotSo.__init__" Zi "found" CS fX fdX)(Z:qad K mg D CS)(ve:mg "ValueError"=none)(kv:zag K (.ref CS) (.type "ValueError")=some true):qo P w K mg base qH 17 f fd ["_law_script"] (NV K PT):=by
 obtain⟨fO,fdO,hO⟩:=L.cell
 obtain⟨fL,fdL,hL⟩:=L.source
 obtain⟨fT,fdT,hT⟩:=L.take
 obtain⟨fN,fdN,hN⟩:=L.names
 obtain⟨fD,fdD,hD⟩:=L.leads
 obtain⟨fR,fdR,hR⟩:=L.rows
 obtain⟨fW,fdW,hW⟩:=L.need
 obtain⟨fH,fdH,hH⟩:=L.heap
 obtain⟨f1,fd1,h1⟩:=L.nums
 obtain⟨f2,fd2,h2⟩:=L.comes
 obtain⟨f3,fd3,h3⟩:=L.back
 obtain⟨fLa,fdLa,hLa⟩:=L.labels
 obtain⟨f4,fd4,h4⟩:=L.out
 obtain⟨f5,fd5,h5⟩:=L.moves
 obtain⟨f6,fd6,h6⟩:=L.aft
 obtain⟨f7,fd7,h7⟩:=L.ask
 obtain⟨f8,fd8,h8⟩:=L.told
 obtain⟨f9,fd9,h9⟩:=L.steps
 obtain⟨g1,gd1,k1⟩:=L.best
 obtain⟨g2,gd2,k2⟩:=L.due
 obtain⟨fRi,fdRi,hRi⟩:=L.right
 obtain⟨q1,qd1,e1⟩:=Q1.wb
 obtain⟨q2,qd2,e2⟩:=Q1.cb
 obtain⟨q3,qd3,e3⟩:=Q1.no
 obtain⟨q4,qd4,e4⟩:=Q1.wm
 obtain⟨q5,qd5,e5⟩:=Q1.co
 obtain⟨q6,qd6,e6⟩:=Q1.wr
 obtain⟨q7,qd7,e7⟩:=Q1.mm
 obtain⟨q8,qd8,e8⟩:=O.place
 obtain⟨q9,qd9,e9⟩:=O.heap
 obtain⟨r8,rd8,d8⟩:=V1.lb
 obtain⟨r9,rd9,d9⟩:=V1.oby
 obtain⟨fB,fdB,hB⟩:=Y.labels
 obtain⟨fI,fdI,C⟩:=M.cls
 have GO:qo P w K mg base qH 1 fO fdO ["_law_script","_law_k"] (wa K):=Rk hO.fn B
 have GL:qo P w K mg base qH 1 fL fdL ["_law_cell"] VT:=yX hL.fn B
 have GT:qo P w K mg base qH 1 fT fdT ["_law_source_here","_law_many"] ZW:=zq hT.fn
 have GR:qo P w K mg base qH 3 fR fdR ["_law_source_here","_law_most"] xY:=GQ hR.fn B G hT hN hD
 have GI:qo P w K mg base qH 6 fI fdI ["self","rows"] (YK CG):=uu C B G T N hW
 have GH':qo P w K mg base qH 2 fH fdH nLH kj:=uk hH.fn B hT
 have GLa:qo P w K mg base qH 4 fLa fdLa ["_law_rows_here"] Nv:=vg hLa.fn B hdi h3 h2 h1
 have G4:qo P w K mg base qH 1 f4 fd4 ["_law_labels_here","_law_heap_here"] zM:=kM h4.fn B
 have G5:qo P w K mg base qH 1 f5 fd5 NB zd:=Wv h5.fn T hdi
 have G6:qo P w K mg base qH 1 f6 fd6 Gu Xd:=kN h6.fn
 have G9:qo P w K mg base qH 1 f9 fd9 ["_law_labels_here","_law_heap_here"] QU:=Wu h9.fn T
 have J1:qo P w K mg base qH 2 g1 gd1 UR WW:=um k1.fn B T hdi h5 h6 h4 h9
 have J2:qo P w K mg base qH 3 g2 gd2 UR U3:=Ra k2.fn k1 J1 h4 G4 h9 G9
 have GB:qo P w K mg base qH 8 fB fdB ["ground"] (Ju CG):=y4 hB.fn B G T M Y
 have E1:qo P w K mg base qH 11 q1 qd1 p3 (YI CG):=ua e1.fn h B Zk G T M O V1
 have E2:qo P w K mg base qH 1 q2 qd2 ["labels","heap"] QU:=Uh e2.fn T
 have D8:qo P w K mg base qH 1 r8 rd8 ["heap","move"] zL:=Vf d8.fn G
 have D9:qo P w K mg base qH 9 r9 rd9 ["labels","heap"] Wn:=ue d9.fn h B Zk O
 have E9:qo P w K mg base qH 3 q9 qd9 ["ground","heap"] (Zw CG):=Uf e9.fn B G T M e8 O.most
 have E3:qo P w K mg base (Z7 P w) 10 q3 qd3 ["labels","heap","wanted"] (YJ CS):=ug e3.fn d9 D9 xS
 have E4:qo P w K mg base qH 12 q4 qd4 ["ground","heap"] (Xc CG):=yU e4.fn hB GB e1 E1
 have E5:qo P w K mg base (Z7 P w) 11 q5 qd5 ["ground","heap"] (WY CG CS):=uw e5.fn hB GB e9 E9 e3 E3 e2 E2
 have EA:qo P w K mg base qH 12 fA fdA p3 (YH CG PT):=w9 hA.fn hc TM B G T e2 d8 e1 E1
 have E6:qo P w K mg base (Z7 P w) 13 q6 qd6 ["ground","heap"] (Xa CG CS PT):=yV e6.fn hB GB e9 E9 e3 E3 hA EA
 have E7:qo P w K mg base (Z7 P w) 13 q7 qd7 ["ground","heap"] (U1 CG CS PT):=GZ e7.fn hB GB e9 E9 d9 D9 hA EA e2 E2 d8 D8 xS
 have G7:qo P w K mg base (Z7 P w) 14 f7 fd7 yS (wc CG CS PT):=Rc h7.fn e6 E6 e5 E5 e7 E7
 have G8:qo P w K mg base qH 15 f8 fd8 yS (U0 CG PT):=uj h8.fn T h7 G7 xS Z ve kv
 have GRi:qo P w K mg base qH 16 fRi fdRi UR (VW PT):=yZ hRi.fn B G T Zk C GI h8 G8 k2 J2 e4 E4 h5 G5 h4 G4 h6 G6
 refine F.okJ Yj (λvs H Q E z=>?_) (λcdv A outer s H vs Q E hr z=>?_)
 ·obtain⟨a,ns,rfl,_⟩:=z
  rfl
 ·obtain⟨a,ns,rfl,hq,hlen,htb,k⟩:=z
  have hu:=jX hr
  have r1:qU 1 _:=hr.mono (by decide)
  have r2:qU 2 _:=hr.mono (by decide)
  have r3:qU 3 _:=hr.mono (by decide)
  have r4:qU 4 _:=hr.mono (by decide)
  have r16:qU 16 _:=hr
  refine⟨_,qg (ja PassesOwn.never rfl (jA (by rfl) B.rng (qd (qD (WI rfl) (by rfl) B.max boot_max (qd qk (qd (qD (xD rfl) (by rfl) B.min boot_min (qd (qD qZ (by rfl) B.len boot_len (qd (jv 0) qf)) (qd qk qf))) qf))) qf)) (qw (i:=1) Yj.nd rfl (Or.inl rfl))
    (qg (qx (i:=2) Yj.nd rfl (Or.inl rfl) (qF hL GL r1 (by rfl) (qd (qF hO GO r1 (by rfl) (qd (jv 0) (qd (jv 1) qf))) qf)))
   (qg (qx (i:=3) Yj.nd rfl (Or.inl rfl) (qF hR GR r3 (by rfl) (qd (jv 2) (qd (qT QF (jz (qd qk (qd qk (qd qk (qd qk qf))))) (qF hT GT r1 (by rfl) (qd (jv 2) (qd qk qf))) (λ_ _=>rfl)) qf))))
   (qg (qx (i:=4) Yj.nd rfl (Or.inr rfl) (qF hLa GLa r4 (by rfl) (qd (jv 3) qf)))
   (qg (qx (i:=5) Yj.nd rfl (Or.inl rfl) (qF hH GH' r2 (by rfl) (qd (jv 2) (qd (jv 3) (qd (qT QF (jz (qd qk (qd qk (qd qk qf)))) (qF hT GT r1 (by rfl) (qd (jv 2) (qd qk qf))) (λ_ _=>rfl)) qf)))))
   (qg (qM (Qn (jl (qF hRi GRi r16 (by rfl) (qd (jv 3) (qd (jv 4) (qd (jv 5) qf)))))) qS qB)
   (qg (Q6 (i:=6) (N':=["_law_name","_law_labels_here"]) (ix:=[none,some 4]) (tt:=Y8 (Yu rEq (Yu (zT K) (Y9 (jd 1) (jd 0)) (tC (.int 0))) (tC (.str (zdX "number"))))) (te:=jd 0) Yj.nd rfl (Or.inl rfl) rfl ⟨rfl,rfl,rfl,rfl,rfl⟩ (qJ (jv 5)) (λC s2 H2 fp pins=>
      ⟨qw (i:=0) (show (["_law_name","_law_labels_here"]:List Str).Nodup by decide+kernel) rfl (Or.inl rfl),jV (qv jL (qT qR (qW hu (jv 1) (jv 0) (λ_ _=>rfl)) qk (λ_ _=>rfl)) qE (qA _)),jv 0⟩))
   (qg (qx (i:=7) Yj.nd rfl (Or.inl rfl) (qL Vd (jv 6) (JF YM (jv 6) ZD (ZC (qL wS qk (qD qZ (by rfl) B.len boot_len (qd (jv 6) qf)))))))
   (qh (qM (JW.pt (Ji (Qn (jl (qF hRi GRi r16 (by rfl) (qd (jv 3) (qd (jv 4) (qd (jv 6) qf)))))) (Qm (Qn (jl (qF hRi GRi r16 (by rfl) (qd (jv 3) (qd (jv 4) (qd (jv 7) qf))))))))) qS qB))))))))))
   (qh (qy Qr)),?_⟩
  refine⟨_,rfl,a,_,rfl,.inl hq,_,_,rfl,_,_,rfl,?_⟩
  generalize hj:(if (if (4:Int) < ((ns.map V.int).length:Int) then (4:Int) else ((ns.map V.int).length:Int)) > 2 then (if (4:Int) < ((ns.map V.int).length:Int) then (4:Int) else ((ns.map V.int).length:Int)) else 2)=jj
  have jb:=qbm (by omega) hj
  refine⟨jj,rfl,jb.1,jb.2,?_⟩
  refine QC (λi σ H'=>∃v1 v2 v3 v4 v5 v6 v7,σ=[some (.ref a),v1,v2,v3,v4,v5,v6,v7]/\SqL K H' a (ns.map V.int)/\H' PT=some (.tbl #[.str zU 0])) ⟨_,_,_,_,_,_,_,rfl,hq,htb⟩ ?_ ?_
  ·rintro i σ H' hi ⟨v1,v2,v3,v4,v5,v6,v7,rfl,hq2,htb2⟩
   refine⟨_,rfl,_,rfl,a,ns,_,rfl,hq2,by omega,λc=>⟨c,rfl,λd n sd hd=>?_⟩⟩
   refine⟨_,rfl,by show 4<=zeb;decide,λlp hlp=>?_⟩
   have ndp:lp≠d:=λe=>by rw[e,qe]at hlp;cases hlp
   refine⟨_,rfl,d,4,n,sd,0,rfl,qu qe hlp,by decide,by decide,λr n1 t1 r0 r1'=>?_⟩
   obtain⟨mo,em,m0,m14⟩:=qbb r0 r1'
   refine⟨lp,_,r,_,rfl,rfl,.of (by rw[qi ndp];exact qe),em,d,mo,n1,sd,t1,rfl,qe,m0,m14,λl ps rs n2 t2 H2 hl hl2 rat good pos le hd2 fr2=>?_⟩
   have hlp':H' lp=none:=by rw[qi ndp]at hlp;exact hlp
   have sm:Same H' H2:=λb u hb=>by
    have nb:b≠d:=qr hb hd
    refine fr2 b u ?_ nb
    rw[qi nb,qi (qr hb hlp'),qi nb]
    exact hb
   have g2:jP H2 l ps rs:=⟨hl2,rat,good,pos,zaa le m14⟩
   refine⟨_,rfl,l,ps,rs,rfl,g2,λH3 D' R s3 nD lb all=>?_⟩
   have D'd:D'≠d:=λe=>by rw[e,hd2]at nD;cases nD
   have hd3:=s3 _ _ hd2
   have sm3:=sm.trans s3
   have g3:=g2.mono s3
   refine⟨_,rfl,_,rfl,by show 3<=zeb;decide,λlq hlq=>?_⟩
   have s4:=ql (o:=HO.lst [V.int 3,.int 5,.int 8]) hlq
   have q4:upd H3 lq (HO.lst [V.int 3,.int 5,.int 8]) lq=some (.lst [V.int 3,.int 5,.int 8]):=qe
   generalize upd H3 lq (HO.lst [V.int 3,.int 5,.int 8])=H4 at s4 q4
   have hd4:=s4 _ _ hd3
   refine⟨_,rfl,d,3,n2,sd,t2,rfl,hd4,by decide,by decide,λr' n3 t3 r0' r1''=>?_⟩
   obtain⟨mh,eh,m8⟩:=qbc r0' r1''
   have fr4:Fr H4 d (upd H4 d (.dK (src n3 sd t3))):=Fr.refl.at_d
   have hd5:upd H4 d (.dK (src n3 sd t3)) d=some (.dK (src n3 sd t3)):=qe
   generalize upd H4 d (.dK (src n3 sd t3))=H5 at fr4 hd5
   refine⟨lq,_,r',_,rfl,rfl,.of (vx fr4 hd4 q4 (λ_ z=>nomatch z)),eh,d,l,mh,n3,sd,t3,ps,rs,rfl,hd5,(g3.mono s4).fr' hd4 fr4,m8,λhp hs n4 t4 H6 hh0 hh6 l8 hin hd6 fr6=>?_⟩
   have fr46:Fr H4 d H6:=fr4.trans fr6
   have lh:LH H6 l D' hp ps rs R hs:=⟨(g3.mono s4).fr' hd4 fr46,(lb.mono s4).fr hd4 D'd fr46,all,⟨hh6,zaa l8 m8,hin⟩⟩
   have hq6:=M7 ((hq2.keep sm3.keep).keep s4.keep) hd4 fr46
   have tb6:=vx fr46 hd4 (s4 _ _ (sm3 _ _ htb2)) (λ_ z=>nomatch z)
   refine⟨_,rfl,_,rfl,_,rfl,l,D',hp,ps,rs,R,hs,rfl,lh,⟨_,tb6⟩,λH7 k7=>⟨_,rfl,ji ?_⟩⟩
   have lh7:=lh.keep k7
   have hh7:=lh7.2.2.2.at_
   refine⟨_,rfl,hp,rfl,⟨_,.of hh7⟩,λW hW=>?_⟩
   have l8':=lh.2.2.2.le
   refine Q8 (K:=K) (a:=hp) (xs:=hs) (enc:=V.str) (out:=λz=>if (qI R z).isSome=true then some (V.str z) else none) (rest:=[some (.ref D')]) hW hh7 (qp (by omega)) (λz hz X sX Rr hR=>?_) (λz hz v ev X sX Rr hR=>?_) (λH8 s8 hW8=>?_)
   ·obtain⟨kvs,hDk,_,hv⟩:=(lh7.2.1.mono sX).at_
    obtain⟨rw',hr',er⟩:=hin z hz
    obtain⟨t,et,ht⟩:=hv rw' hr'
    rw[er]at et ht
    have gd:jZ X D' (.str z) (some (.ref t)):=by rw[<-et];exact jZ.k (k:=(Sum.inr z:qN)) hDk
    have r:=hR X (Same.refl X)
    unfold QX at ht
    cases en:qI R z with
    | some m=>
     rw[en]at ht r
     exact⟨_,rfl,_,rfl,D',_,rfl,gd,t,_,0,_,rfl,rfl,.of ht,rfl,rfl,_,rfl,r⟩
    | none=>
     rw[en]at ht r
     refine⟨_,rfl,_,rfl,D',_,rfl,gd,t,_,0,_,rfl,rfl,.of ht,rfl,rfl,_,rfl,?_⟩
     have e:decide (V.str (zdX "endless")=V.str (zdX "number"))=false:=by decide+kernel
     exact e▸r
   ·have ev':v=.str z:=by
     cases en:qI R z with
     | some m=>rw[en]at ev;exact(tO.inj ev).symm
     | none=>rw[en]at ev;cases ev
    subst ev'
    exact⟨_,rfl,hR X (Same.refl X)⟩
   ·rw[Ya]at hW8
    have nin:∀z∈hs.filter (λz=>(qI R z).isSome),∃r∈rs,r.1=z:=λz hz=>hin z (zad.mp hz).1
    have nle:(hs.filter (λz=>(qI R z).isSome)).length<=8:=zaa (zaq _ _) l8'
    generalize hs.filter (λz=>(qI R z).isSome)=nb at hW8 nin nle
    refine⟨_,rfl,_,rfl,_,rfl,W,_,rfl,.inl (.of hW8),_,_,rfl,rfl,_,rfl,W,_,rfl,.of hW8,λp1 f1=>?_⟩
    have ec:Yz (nb.map V.str) none (some ((8:Int) - ((nb.map V.str).length:Int)))=(nb.take (8 - nb.length)).map V.str:=by
     unfold Yz
     rw[HT.sIx_none,tj,show (8:Int) - (nb.length:Int)=((8 - nb.length:Nat):Int) by omega,HT.sIx_nat,zcR,zdk,zdE]
     by_cases c:8 - nb.length<=nb.length
     ·rw[zck c]
     ·rw[zdg (by omega),tF (by rw[tj];omega),tF (by rw[tj];omega)]
    dsimp only at f1 ⊢
    rw[ec]
    have s9:=ql (o:=HO.lst ((nb.take (8 - nb.length)).map V.str)) f1
    have h9':upd H8 p1 (HO.lst ((nb.take (8 - nb.length)).map V.str)) p1=some (.lst ((nb.take (8 - nb.length)).map V.str)):=qe
    generalize upd H8 p1 (HO.lst ((nb.take (8 - nb.length)).map V.str))=H9 at s9 h9'
    have l2:(nb++nb.take (8 - nb.length)).length<=8:=by
     rw[tH,tW]
     omega
    refine⟨W,p1,_,_,rfl,rfl,.of (s9 _ _ hW8),.of h9',zai (qp (by rw[tj,tj];rw[tH]at l2;omega)),λp2 f2=>?_⟩
    rw[<-tI]
    have s10:=ql (o:=HO.lst ((nb++nb.take (8 - nb.length)).map V.str)) f2
    have h10:upd H9 p2 (HO.lst ((nb++nb.take (8 - nb.length)).map V.str)) p2=some (.lst ((nb++nb.take (8 - nb.length)).map V.str)):=qe
    generalize upd H9 p2 (HO.lst ((nb++nb.take (8 - nb.length)).map V.str))=H10 at s10 h10
    have s810:=s9.trans s10
    have lh10:=lh7.mono (s8.trans s810)
    have k610:QE H6 H10:=k7.trans (s8.trans s810).keep
    have lhN:LH H10 l D' W ps rs R nb:=⟨lh10.1,lh10.2.1,all,⟨s810 _ _ hW8,nle,nin⟩⟩
    have lhT:LH H10 l D' p2 ps rs R (nb++nb.take (8 - nb.length)):=⟨lh10.1,lh10.2.1,all,⟨h10,l2,λz hz=>nin z ((tX.mp hz).elim id λy=>zbz y)⟩⟩
    refine⟨_,rfl,_,rfl,_,rfl,l,D',W,ps,rs,R,nb,rfl,lhN,⟨_,k610 _ _ tb6 (λ_ z=>nomatch z)⟩,λH11 k11=>⟨_,rfl,ji ?_⟩⟩
    have k611:=k610.trans k11
    refine⟨_,rfl,_,rfl,_,rfl,l,D',p2,ps,rs,R,_,rfl,lhT.keep k11,⟨_,k611 _ _ tb6 (λ_ z=>nomatch z)⟩,λH12 k12=>⟨_,rfl,ji ?_⟩⟩
    have k612:=k611.trans k12
    exact⟨_,_,_,_,_,_,_,rfl,hq6.keep k612,k612 _ _ tb6 (λ_ z=>nomatch z)⟩
  ·rintro σ H' ⟨v1,v2,v3,v4,v5,v6,v7,rfl,hq2,htb2⟩
   exact k _
end
open PySem L2 PyProof.Rows MLab
theorem kss{K:zdW}:zag K (.type "str") (.type "str")=some true:=by kernel_rfl
theorem ktt{K:zdW}:zag K (.type "tuple") (.type "tuple")=some true:=by kernel_rfl
theorem kll{K:zdW}:zag K (.type "list") (.type "list")=some true:=by kernel_rfl
theorem kii{K:zdW}:zag K (.type "int") (.type "int")=some true:=by kernel_rfl
theorem kib{K:zdW}:zag K (.type "int") (.type "bool")=some false:=by kernel_rfl
section
variable{K:zdW}
def MF(K:zdW)(n q:Str)(s:Stmt)(f:Addr):Prop:=∃fd,jK K n q s f fd
theorem MF.mk'{x qual:Str}{st:Stmt}{f:Addr}{oc:Value}{od an:Option Addr}{osl:Array (Option Value)}{kV doc pm cdv ct:Value}(l:K.lookup f=some ⟨oc,od,.func (zbk x qual (QG st) (jO st) (qj st) .none kV doc pm an cdv ct),osl⟩)(c:zbE K cdv qual=true)(k:zaA K (.ref f)=true):MF K x qual st f:=⟨_,Vv l c k⟩
def HF(K:zdW)(n:Str)(s:Stmt)(f:Addr):Prop:=zae K mainGlobals n=some (some (.ref f))/\MF K n n s f
theorem HF.mk'{x:Str}{st:Stmt}{f:Addr}{oc:Value}{od an:Option Addr}{osl:Array (Option Value)}{kV doc pm cdv ct:Value}(a:zae K mainGlobals x=some (some (.ref f)))(l:K.lookup f=some ⟨oc,od,.func (zbk x x (QG st) (jO st) (qj st) .none kV doc pm an cdv ct),osl⟩)(c:zbE K cdv x=true)(k:zaA K (.ref f)=true):HF K x st f:=⟨a,_,Vv l c k⟩
theorem HF.has{h:Heap}{mg:Str->Option Value}{n:Str}{s:Stmt}{f:Addr}{ps:List Str}(l:HF K n s f)(X:K.In h)(G:h.Ns mainGlobals mg)(b:∀{fd},jK K n n s f fd->jE K fd ps []):∃fd,qQ K mg n s ps f fd:=let ⟨a,fd,F⟩:=l;⟨fd,F,zaK X G a,b F⟩
end
def qaA(es:Array DictEntry):Bool:=es.all λe=>match e.key with | .str _ _=>true | _=>false
theorem KR{es:Array DictEntry}(h:qaA es=true):StrKeys es:=by
 intro e he
 have q:=Array.all_eq_true'.mp h e he
 revert q
 cases hk:e.key<;>intro q<;>first | exact⟨_,_,rfl⟩ | (dsimp only at q;cases q)
section
variable{K:zdW}{mg:Str->Option Value}{D C f:Addr}{x qual fld:Str}{st:Stmt}
theorem MZ{h:Heap}{fd:zea}{nm q:Str}{N:Addr}{bs:List Value}{hdct:Bool}{sn:List Str}{sub:List Value}{ab:Bool}{col:Option Bool}{dd:Option Addr}{k0 k1 k2 k3 k5:Option Value}
  (X:K.In h) (G:h.Ns mainGlobals mg) (tl:∀h:Heap,K.In h->OwnTail h Qe (.ref D::Qe)) (F:jK K "__init__" qual st f fd) (b:jE K fd ["self",fld] [])
  (a1:zae K mainGlobals x=some (some (.ref C)))
  (a2:K.lookup C=some (excClassObj nm q C N bs (.ref D::Qe) hdct sn sub ab col dd k0 k1 k2 k3 k5 "ValueError.__new__"))
  (a3:tR K (.ref C) "__init__"=some (some (.ref f))) (a4:zaH K (.ref f)=true) (a5:zaA K (.ref C)=true)
  (a6:tR K (.ref C) "__getattribute__"=some (some (.builtin "BaseException.__getattribute__"))) (a7:tR K (.ref C) "__getattr__"=some none)
  (a8:tR K (.ref C) "__setattr__"=some (some (.builtin "object.__setattr__"))) (a9:zbd K C=true)
  (a10:zbA K C (.type "BaseException")=some true) (a11:zbA K C (.type "object")=some true)
  (a12:tR K (.ref C) "__class__"=some (some (.builtin "object.__class__"))) (a13:tR K (.ref C) fld=some none):Nd K mg D x qual st fld C f fd:=
 ⟨⟨a6,a7,a8,a9,⟨_,by unfold PySem.W.clsIn;rw[a2],rfl⟩,a10,a11,a12⟩,⟨⟨nm,q,N,bs,hdct,sn,sub,ab,col,dd,k0,k1,k2,k3,k5,a2⟩,tl,a3,a4,a5⟩,zaK X G a1,a13,F,b⟩
end
theorem at0{a:Addr}{l:List Addr}:(a::l)[0]?=some a:=rfl
def U2(K:zdW)(tabs:List UK):Sp:=λvs H Q _=>∃(a:Addr) (ns:List Int),vs=[.ref a]/\SqL K H a (ns.map V.int)/\ns.length<=63/\(∀t∈tabs,H t.P=some (.tbl #[.str t.q 0]))/\∀H',Q (.bl true) H'
theorem all_mk{l:PySem.W.OpenLaw}{w:World}{K:zdW}{h:Heap}{mg:Str->Option Value}{fa:Addr}(X:K.In h)(G:h.Ns mainGlobals mg)(hfa:mg "law"=some (.ref fa))
  {fO fL fT fN fD fR fA1 fA2 fA3 fA4 fA5 fA6 fA7 fA8 fB1 fB2 fB3 fB4 fB5 fB6 fB7 fB8 fW1 fW2 fW3 fW4 fW5 fW6 fP1 fP2 fP3 fP4 fP5 fP6 fP7 fP8 fQ1 fQ2 fQ3 fQ4 fQ5 fQ6 fQ7 fE1 fE2 fE3 fE4 fE5 fE6 fE7 fE8 fE9 fEA fEB fEC fED fEE fCGi fCGM fCGF fCNi fCNO fCNP fCNE fCEi fCEO fCEP fCEE CNotSo fNotSo:Addr}
  {fLAW:Addr} {odLAW anLAW:Option Addr} {slLAW:Array (Option Value)} {ocLAW kVLAW dcLAW pmLAW cdLAW ctLAW:Value}
  {CG:Addr}
  {CN:Addr}
  {CE:Addr}
  {tm1:Tok}
  {tm2:Tok}
  {tm3:Tok}
  {tm4:Tok}
  {tm5:Tok}
  {tm6:Tok}
  {tm7:Tok}
  {D:Addr} {nmHE qHE:Str} {NHE:Addr} {bsHE subHE:List Value} {hdctHE abHE:Bool} {snHE:List Str} {colHE:Option Bool} {ddHE:Option Addr} {kaHE kbHE kcHE kdHE keHE:Option Value} {oHN:Value} {dHN:Option Addr} {es:Array DictEntry} {ep:Nat} {slHN:Array (Option Value)}
  {nmNotSo qNotSo:Str} {NNotSo:Addr} {bsNotSo subNotSo:List Value} {hdctNotSo abNotSo:Bool} {snNotSo:List Str} {colNotSo:Option Bool} {ddNotSo:Option Addr} {kaNotSo kbNotSo kcNotSo kdNotSo keNotSo:Option Value}
  {ts:List Addr} {fMK cMK PMK:Addr} {ocMK kVMK dcMK pmMK ctMK oc2MK:Value} {odMK anMK od2MK:Option Addr} {slMK sl2MK:Array (Option Value)} {vsMK:Array Value}
  (lO:HF K "_law_cell_at" kF fO)
  (lL:HF K "_law_source" YR fL)
  (lT:HF K "_law_take" Yl fT)
  (lN:HF K "_law_names" Xi fN)
  (lD:HF K "_law_leads" Xk fD)
  (lR:HF K "_law_rows" ky fR)
  (lA1:HF K "is_name" zj fA1)
  (lA2:HF K "is_tuple_of_names" Wp fA2)
  (lA3:HF K "is_row" Xp fA3)
  (lA4:HF K "need_form" kC fA4)
  (lA5:HF K "need_own_names" Ge fA5)
  (lA6:HF K "need_ends" kD fA6)
  (lA7:HF K "need_few_roads" Gf fA7)
  (lA8:HF K "need_rows" V0 fA8)
  (lB1:HF K "lacking" QI fB1)
  (lB2:HF K "set_of" zQ fB2)
  (lB3:HF K "numbers_behind" Ny fB3)
  (lB4:HF K "gets_number" Xq fB4)
  (lB5:HF K "round_of" zR fB5)
  (lB6:HF K "give_number" V6 fB6)
  (lB7:HF K "give_numbers" W6 fB7)
  (lB8:HF K "labels_of" Jf fB8)
  (lW1:HF K "is_whole" Zh fW1)
  (lW2:HF K "is_number" zi fW2)
  (lW3:HF K "is_set" Xo fW3)
  (lW4:HF K "set_turned" YQ fW4)
  (lW5:HF K "numbers_in" Xh fW5)
  (lW6:HF K "sum_of" Xg fW6)
  (lP1:HF K "need_place" zS fP1)
  (lP2:HF K "need_heap" Zj fP2)
  (lP3:HF K "label_worth" sLW fP3)
  (lP4:HF K "worth_by" Gd fP4)
  (lP5:HF K "moves_of" Zl fP5)
  (lP6:HF K "left_by" Ym fP6)
  (lP7:HF K "outcome_by" yH fP7)
  (lP8:HF K "outcomes_by" kz fP8)
  (lQ1:HF K "winning_by" ZX fQ1)
  (lQ2:HF K "count_by" Jn fQ2)
  (lQ3:HF K "need_outcome_by" ZY fQ3)
  (lQ4:HF K "winning_moves" zh fQ4)
  (lQ5:HF K "count_of" Xt fQ5)
  (lQ6:HF K "winner" zg fQ6)
  (lQ7:HF K "most_moves" V3 fQ7)
  (lE1:HF K "_law_heap" W5 fE1)
  (lE2:HF K "_law_numbers" Jw fE2)
  (lE3:HF K "_law_comes" ZA fE3)
  (lE4:HF K "_law_back" ZZ fE4)
  (lE5:HF K "_law_labels" zk fE5)
  (lE6:HF K "_law_outcome" Xm fE6)
  (lE7:HF K "_law_moves" Zz fE7)
  (lE8:HF K "_law_after" Wr fE8)
  (lE9:HF K "_law_ask" V5 fE9)
  (lEA:HF K "_law_told" Xl fEA)
  (lEB:HF K "_law_steps" Zy fEB)
  (lEC:HF K "_law_best" Xn fEC)
  (lED:HF K "_law_due" V4 fED)
  (lEE:HF K "_law_right" YS fEE)
  (aLAW:zae K mainGlobals "law"=some (some (.ref fLAW)))
  (lLAW:K.lookup fLAW=some ⟨ocLAW,odLAW,.func (zbk "law" "law" (QG W4) (jO W4) (qj W4) .none kVLAW dcLAW pmLAW anLAW cdLAW ctLAW),slLAW⟩)
  (cLAW:zbE K cdLAW "law"=true)
  (kLAW:zaA K (.ref fLAW)=true)
  (nCG:zae K mainGlobals "Ground"=some (some (.ref CG)))
  (pgCG:zbr K CG Str.empty=true)
  (hdCG:zbd K CG=true)
  (poCG:zbR K CG=true)
  (saCG:tR K (.ref CG) "__setattr__"=some (some (.builtin "object.__setattr__")))
  (mkCG:zch K CG=true)
  (inCG:tR K (.ref CG) "__init__"=some (some (.ref fCGi)))
  (fiCG:zaH K (.ref fCGi)=true)
  (kcCG:zaA K (.ref CG)=true)
  (noCG:tR K (.ref CG) "order"=some none)
  (nrCG:tR K (.ref CG) "roads"=some none)
  (lCGi:MF K "__init__" "Ground.__init__" U9 fCGi)
  (atCGM:tR K (.ref CG) "names"=some (some (.ref fCGM)))
  (fnCGM:zaH K (.ref fCGM)=true)
  (lCGM:MF K "names" "Ground.names" zm fCGM)
  (atCGF:tR K (.ref CG) "roads_from"=some (some (.ref fCGF)))
  (fnCGF:zaH K (.ref fCGF)=true)
  (lCGF:MF K "roads_from" "Ground.roads_from" Xr fCGF)
  (nCN:zae K mainGlobals "Numbered"=some (some (.ref CN)))
  (pgCN:zbr K CN Str.empty=true)
  (hdCN:zbd K CN=true)
  (poCN:zbR K CN=true)
  (saCN:tR K (.ref CN) "__setattr__"=some (some (.builtin "object.__setattr__")))
  (mkCN:zch K CN=true)
  (inCN:tR K (.ref CN) "__init__"=some (some (.ref fCNi)))
  (fiCN:zaH K (.ref fCNi)=true)
  (kcCN:zaA K (.ref CN)=true)
  (naCN:tR K (.ref CN) "number"=some none)
  (lCNi:MF K "__init__" "Numbered.__init__" Xj fCNi)
  (caCN:tR K (.ref CN) "__class__"=some (some (.builtin "object.__class__")))
  (obCN:zbA K CN (.type "object")=some true)
  (atCNO:tR K (.ref CN) "outcome"=some (some (.ref fCNO)))
  (fnCNO:zaH K (.ref fCNO)=true)
  (lCNO:MF K "outcome" "Numbered.outcome" kB fCNO)
  (atCNP:tR K (.ref CN) "plus"=some (some (.ref fCNP)))
  (fnCNP:zaH K (.ref fCNP)=true)
  (lCNP:MF K "plus" "Numbered.plus" W3 fCNP)
  (atCNE:tR K (.ref CN) "is_endless"=some (some (.ref fCNE)))
  (fnCNE:zaH K (.ref fCNE)=true)
  (lCNE:MF K "is_endless" "Numbered.is_endless" V2 fCNE)
  (nCE:zae K mainGlobals "Endless"=some (some (.ref CE)))
  (pgCE:zbr K CE Str.empty=true)
  (hdCE:zbd K CE=true)
  (poCE:zbR K CE=true)
  (saCE:tR K (.ref CE) "__setattr__"=some (some (.builtin "object.__setattr__")))
  (mkCE:zch K CE=true)
  (inCE:tR K (.ref CE) "__init__"=some (some (.ref fCEi)))
  (fiCE:zaH K (.ref fCEi)=true)
  (kcCE:zaA K (.ref CE)=true)
  (naCE:tR K (.ref CE) "bits"=some none)
  (lCEi:MF K "__init__" "Endless.__init__" Xs fCEi)
  (caCE:tR K (.ref CE) "__class__"=some (some (.builtin "object.__class__")))
  (obCE:zbA K CE (.type "object")=some true)
  (atCEO:tR K (.ref CE) "outcome"=some (some (.ref fCEO)))
  (fnCEO:zaH K (.ref fCEO)=true)
  (lCEO:MF K "outcome" "Endless.outcome" kE fCEO)
  (atCEP:tR K (.ref CE) "plus"=some (some (.ref fCEP)))
  (fnCEP:zaH K (.ref fCEP)=true)
  (lCEP:MF K "plus" "Endless.plus" W7 fCEP)
  (atCEE:tR K (.ref CE) "is_endless"=some (some (.ref fCEE)))
  (fnCEE:zaH K (.ref fCEE)=true)
  (lCEE:MF K "is_endless" "Endless.is_endless" V7 fCEE)
  (zlen:zae K mainGlobals "len"=some none)
  (zmax:zae K mainGlobals "max"=some none)
  (zmin:zae K mainGlobals "min"=some none)
  (zint:zae K mainGlobals "int"=some none)
  (zrange:zae K mainGlobals "range"=some none)
  (zisinstance:zae K mainGlobals "isinstance"=some none)
  (zstr:zae K mainGlobals "str"=some none)
  (zall:zae K mainGlobals "all"=some none)
  (zenumerate:zae K mainGlobals "enumerate"=some none)
  (zsum:zae K mainGlobals "sum"=some none)
  (zsorted:zae K mainGlobals "sorted"=some none)
  (zlist:zae K mainGlobals "list"=some none)
  (zreversed:zae K mainGlobals "reversed"=some none)
  (zset:zae K mainGlobals "set"=some none)
  (ztuple:zae K mainGlobals "tuple"=some none)
  (zdict:zae K mainGlobals "dict"=some none)
  (zbool:zae K mainGlobals "bool"=some none)
  (zValueError:zae K mainGlobals "ValueError"=some none)
  (m1:zae K mainGlobals "LETTERS"=some (some (.str "abcdefghijklmnopqrstuvwxyz" tm1)))
  (m2:zae K mainGlobals "LONGEST_NAME"=some (some (.int 8 tm2)))
  (m3:zae K mainGlobals "MOST_PLACES"=some (some (.int 14 tm3)))
  (m4:zae K mainGlobals "MOST_ROADS"=some (some (.int 40 tm4)))
  (m5:zae K mainGlobals "MOST_NUMBER"=some (some (.int 15 tm5)))
  (m6:zae K mainGlobals "MOST_BITS"=some (some (.int 65535 tm6)))
  (m7:zae K mainGlobals "MOST_TOKENS"=some (some (.int 8 tm7)))
  (aHE:zae K mainGlobals "HeapError"=some (some (.ref D)))
  (oHE:K.lookup D=some (excClassObj nmHE qHE D NHE bsHE Qe hdctHE snHE subHE abHE colHE ddHE kaHE kbHE kcHE kdHE keHE "ValueError.__new__"))
  (nHE:K.lookup NHE=some ⟨oHN,dHN,.dict es ep,slHN⟩)
  (skHE:qaA es=true)
  (niHE:nsFind es (zdX "__init__")=none)
  (a1NotSo:zae K mainGlobals "NotSo"=some (some (.ref CNotSo)))
  (a2NotSo:K.lookup CNotSo=some (excClassObj nmNotSo qNotSo CNotSo NNotSo bsNotSo (.ref D::Qe) hdctNotSo snNotSo subNotSo abNotSo colNotSo ddNotSo kaNotSo kbNotSo kcNotSo kdNotSo keNotSo "ValueError.__new__"))
  (a3NotSo:tR K (.ref CNotSo) "__init__"=some (some (.ref fNotSo)))
  (a4NotSo:zaH K (.ref fNotSo)=true)
  (lNotSo:MF K "__init__" "NotSo.__init__" Zi fNotSo)
  (a5NotSo:zaA K (.ref CNotSo)=true)
  (a6NotSo:tR K (.ref CNotSo) "__getattribute__"=some (some (.builtin "BaseException.__getattribute__")))
  (a7NotSo:tR K (.ref CNotSo) "__getattr__"=some none)
  (a8NotSo:tR K (.ref CNotSo) "__setattr__"=some (some (.builtin "object.__setattr__")))
  (a9NotSo:zbd K CNotSo=true)
  (a10NotSo:zbA K CNotSo (.type "BaseException")=some true)
  (a11NotSo:zbA K CNotSo (.type "object")=some true)
  (a12NotSo:tR K (.ref CNotSo) "__class__"=some (some (.builtin "object.__class__")))
  (a13NotSo:tR K (.ref CNotSo) "found"=some none)
  (spc:zby K (.builtin "object.__class__") "__get__"=some (some (.builtin "getset_descriptor.__get__")))
  (tks:zci K (.builtin "object.__class__")=some true)
  (iMK:ts[0]?=some PMK)
  (aMK:zae K mainGlobals "winner_by"=some (some (.ref fMK)))
  (lMK:K.lookup fMK=some ⟨ocMK,odMK,.func (zbk "winner_by" "winner_by" (QG Q0) (jO Q0) (qj Q0) .none kVMK dcMK pmMK anMK (.ref cMK) ctMK),slMK⟩)
  (cdMK:zbE K (.ref cMK) "winner_by"=true)
  (kMK:zaA K (.ref fMK)=true)
  (tMK:K.lookup cMK=some ⟨oc2MK,od2MK,.fields vsMK,sl2MK⟩)
  (pMK:vsMK[11]?=some (.ref PMK))
  (hMKc:zcB K cMK PMK=true)
  (ne:CN≠CE)
  (kt1:zag K (.ref CNotSo) (.ref CNotSo)=some true)
  (kt2:zag K (.ref CNotSo) (.type "ValueError")=some true)
  :
  ∃(tabs:List UK) (fd:zea),(tabs.map (·.P)).Nodup/\(∀t∈tabs,t.P∈ts/\zcB K t.c t.P=true)/\(∀(s:Shared) (v:Value),BindsTo s fd ⟨[v],[]⟩ [("_law_script",v)])/\∀base:Heap,K.In base->base.Ns mainGlobals mg->(∀t∈tabs,UJ mg base t.c t.P)->qo l.prog w K mg base qH 17 fa fd ["_law_script"] (U2 K tabs):=by
 have e:=hfa.symm.trans (zaK X G aLAW)
 cases e
 obtain⟨_,hO⟩:=lO.has (ps:=["_law_script","_law_k"]) X G λF=>F.binds λ_ _ _ _ _ _ us hl=>by obtain⟨_,_,rfl⟩:=Qg hl;rfl
 obtain⟨_,hL⟩:=lL.has (ps:=["_law_cell"]) X G λF=>F.binds λ_ _ _ _ _ _ us hl=>by obtain⟨_,rfl⟩:=QL hl;rfl
 obtain⟨_,hT⟩:=lT.has (ps:=["_law_source_here","_law_many"]) X G λF=>F.binds λ_ _ _ _ _ _ us hl=>by obtain⟨_,_,rfl⟩:=Qg hl;rfl
 obtain⟨_,hN⟩:=lN.has (ps:=["_law_source_here","_law_many"]) X G λF=>F.binds λ_ _ _ _ _ _ us hl=>by obtain⟨_,_,rfl⟩:=Qg hl;rfl
 obtain⟨_,hD⟩:=lD.has (ps:=["_law_source_here","_law_many","_law_shape","_law_low"]) X G λF=>F.binds λ_ _ _ _ _ _ us hl=>by obtain⟨_,_,_,_,rfl⟩:=Ru hl;rfl
 obtain⟨_,hR⟩:=lR.has (ps:=["_law_source_here","_law_most"]) X G λF=>F.binds λ_ _ _ _ _ _ us hl=>by obtain⟨_,_,rfl⟩:=Qg hl;rfl
 obtain⟨_,hA1⟩:=lA1.has (ps:=["thing"]) X G λF=>F.binds λ_ _ _ _ _ _ us hl=>by obtain⟨_,rfl⟩:=QL hl;rfl
 obtain⟨_,hA2⟩:=lA2.has (ps:=["thing"]) X G λF=>F.binds λ_ _ _ _ _ _ us hl=>by obtain⟨_,rfl⟩:=QL hl;rfl
 obtain⟨_,hA3⟩:=lA3.has (ps:=["thing"]) X G λF=>F.binds λ_ _ _ _ _ _ us hl=>by obtain⟨_,rfl⟩:=QL hl;rfl
 obtain⟨_,hA4⟩:=lA4.has (ps:=["rows"]) X G λF=>F.binds λ_ _ _ _ _ _ us hl=>by obtain⟨_,rfl⟩:=QL hl;rfl
 obtain⟨_,hA5⟩:=lA5.has (ps:=["order"]) X G λF=>F.binds λ_ _ _ _ _ _ us hl=>by obtain⟨_,rfl⟩:=QL hl;rfl
 obtain⟨_,hA6⟩:=lA6.has (ps:=["ends","order"]) X G λF=>F.binds λ_ _ _ _ _ _ us hl=>by obtain⟨_,_,rfl⟩:=Qg hl;rfl
 obtain⟨_,hA7⟩:=lA7.has (ps:=["rows"]) X G λF=>F.binds λ_ _ _ _ _ _ us hl=>by obtain⟨_,rfl⟩:=QL hl;rfl
 obtain⟨_,hA8⟩:=lA8.has (ps:=["rows"]) X G λF=>F.binds λ_ _ _ _ _ _ us hl=>by obtain⟨_,rfl⟩:=QL hl;rfl
 obtain⟨_,hB1⟩:=lB1.has (ps:=["numbers"]) X G λF=>F.binds λ_ _ _ _ _ _ us hl=>by obtain⟨_,rfl⟩:=QL hl;rfl
 obtain⟨_,hB2⟩:=lB2.has (ps:=["numbers"]) X G λF=>F.binds λ_ _ _ _ _ _ us hl=>by obtain⟨_,rfl⟩:=QL hl;rfl
 obtain⟨_,hB3⟩:=lB3.has (ps:=["ground","numbered","name"]) X G λF=>F.binds λ_ _ _ _ _ _ us hl=>by obtain⟨_,_,_,rfl⟩:=zr hl;rfl
 obtain⟨_,hB4⟩:=lB4.has (ps:=["ground","numbered","name","number"]) X G λF=>F.binds λ_ _ _ _ _ _ us hl=>by obtain⟨_,_,_,_,rfl⟩:=Ru hl;rfl
 obtain⟨_,hB5⟩:=lB5.has (ps:=["ground","numbered","number"]) X G λF=>F.binds λ_ _ _ _ _ _ us hl=>by obtain⟨_,_,_,rfl⟩:=zr hl;rfl
 obtain⟨_,hB6⟩:=lB6.has (ps:=["ground","numbered","number"]) X G λF=>F.binds λ_ _ _ _ _ _ us hl=>by obtain⟨_,_,_,rfl⟩:=zr hl;rfl
 obtain⟨_,hB7⟩:=lB7.has (ps:=["ground","numbered"]) X G λF=>F.binds λ_ _ _ _ _ _ us hl=>by obtain⟨_,_,rfl⟩:=Qg hl;rfl
 obtain⟨_,hB8⟩:=lB8.has (ps:=["ground"]) X G λF=>F.binds λ_ _ _ _ _ _ us hl=>by obtain⟨_,rfl⟩:=QL hl;rfl
 obtain⟨_,hW1⟩:=lW1.has (ps:=["thing"]) X G λF=>F.binds λ_ _ _ _ _ _ us hl=>by obtain⟨_,rfl⟩:=QL hl;rfl
 obtain⟨_,hW2⟩:=lW2.has (ps:=["thing"]) X G λF=>F.binds λ_ _ _ _ _ _ us hl=>by obtain⟨_,rfl⟩:=QL hl;rfl
 obtain⟨_,hW3⟩:=lW3.has (ps:=["thing"]) X G λF=>F.binds λ_ _ _ _ _ _ us hl=>by obtain⟨_,rfl⟩:=QL hl;rfl
 obtain⟨_,hW4⟩:=lW4.has (ps:=["bits","number"]) X G λF=>F.binds λ_ _ _ _ _ _ us hl=>by obtain⟨_,_,rfl⟩:=Qg hl;rfl
 obtain⟨_,hW5⟩:=lW5.has (ps:=["bits"]) X G λF=>F.binds λ_ _ _ _ _ _ us hl=>by obtain⟨_,rfl⟩:=QL hl;rfl
 obtain⟨_,hW6⟩:=lW6.has (ps:=["worths"]) X G λF=>F.binds λ_ _ _ _ _ _ us hl=>by obtain⟨_,rfl⟩:=QL hl;rfl
 obtain⟨_,hP1⟩:=lP1.has (ps:=["ground","thing"]) X G λF=>F.binds λ_ _ _ _ _ _ us hl=>by obtain⟨_,_,rfl⟩:=Qg hl;rfl
 obtain⟨_,hP2⟩:=lP2.has (ps:=["ground","heap"]) X G λF=>F.binds λ_ _ _ _ _ _ us hl=>by obtain⟨_,_,rfl⟩:=Qg hl;rfl
 obtain⟨_,hP3⟩:=lP3.has (ps:=["label"]) X G λF=>F.binds λ_ _ _ _ _ _ us hl=>by obtain⟨_,rfl⟩:=QL hl;rfl
 obtain⟨_,hP4⟩:=lP4.has (ps:=["labels","heap"]) X G λF=>F.binds λ_ _ _ _ _ _ us hl=>by obtain⟨_,_,rfl⟩:=Qg hl;rfl
 obtain⟨_,hP5⟩:=lP5.has (ps:=["ground","heap"]) X G λF=>F.binds λ_ _ _ _ _ _ us hl=>by obtain⟨_,_,rfl⟩:=Qg hl;rfl
 obtain⟨_,hP6⟩:=lP6.has (ps:=["heap","move"]) X G λF=>F.binds λ_ _ _ _ _ _ us hl=>by obtain⟨_,_,rfl⟩:=Qg hl;rfl
 obtain⟨_,hP7⟩:=lP7.has (ps:=["labels","heap"]) X G λF=>F.binds λ_ _ _ _ _ _ us hl=>by obtain⟨_,_,rfl⟩:=Qg hl;rfl
 obtain⟨_,hP8⟩:=lP8.has (ps:=["ground","labels","heap"]) X G λF=>F.binds λ_ _ _ _ _ _ us hl=>by obtain⟨_,_,_,rfl⟩:=zr hl;rfl
 obtain⟨_,hQ1⟩:=lQ1.has (ps:=["ground","labels","heap"]) X G λF=>F.binds λ_ _ _ _ _ _ us hl=>by obtain⟨_,_,_,rfl⟩:=zr hl;rfl
 obtain⟨_,hQ2⟩:=lQ2.has (ps:=["labels","heap"]) X G λF=>F.binds λ_ _ _ _ _ _ us hl=>by obtain⟨_,_,rfl⟩:=Qg hl;rfl
 obtain⟨_,hQ3⟩:=lQ3.has (ps:=["labels","heap","wanted"]) X G λF=>F.binds λ_ _ _ _ _ _ us hl=>by obtain⟨_,_,_,rfl⟩:=zr hl;rfl
 obtain⟨_,hQ4⟩:=lQ4.has (ps:=["ground","heap"]) X G λF=>F.binds λ_ _ _ _ _ _ us hl=>by obtain⟨_,_,rfl⟩:=Qg hl;rfl
 obtain⟨_,hQ5⟩:=lQ5.has (ps:=["ground","heap"]) X G λF=>F.binds λ_ _ _ _ _ _ us hl=>by obtain⟨_,_,rfl⟩:=Qg hl;rfl
 obtain⟨_,hQ6⟩:=lQ6.has (ps:=["ground","heap"]) X G λF=>F.binds λ_ _ _ _ _ _ us hl=>by obtain⟨_,_,rfl⟩:=Qg hl;rfl
 obtain⟨_,hQ7⟩:=lQ7.has (ps:=["ground","heap"]) X G λF=>F.binds λ_ _ _ _ _ _ us hl=>by obtain⟨_,_,rfl⟩:=Qg hl;rfl
 obtain⟨_,hE1⟩:=lE1.has (ps:=["_law_source_here","_law_rows_here","_law_most"]) X G λF=>F.binds λ_ _ _ _ _ _ us hl=>by obtain⟨_,_,_,rfl⟩:=zr hl;rfl
 obtain⟨_,hE2⟩:=lE2.has (ps:=["_law_rows_here"]) X G λF=>F.binds λ_ _ _ _ _ _ us hl=>by obtain⟨_,rfl⟩:=QL hl;rfl
 obtain⟨_,hE3⟩:=lE3.has (ps:=["_law_roads","_law_found","_law_name","_law_number"]) X G λF=>F.binds λ_ _ _ _ _ _ us hl=>by obtain⟨_,_,_,_,rfl⟩:=Ru hl;rfl
 obtain⟨_,hE4⟩:=lE4.has (ps:=["_law_roads","_law_found","_law_name","_law_number"]) X G λF=>F.binds λ_ _ _ _ _ _ us hl=>by obtain⟨_,_,_,_,rfl⟩:=Ru hl;rfl
 obtain⟨_,hE5⟩:=lE5.has (ps:=["_law_rows_here"]) X G λF=>F.binds λ_ _ _ _ _ _ us hl=>by obtain⟨_,rfl⟩:=QL hl;rfl
 obtain⟨_,hE6⟩:=lE6.has (ps:=["_law_labels_here","_law_heap_here"]) X G λF=>F.binds λ_ _ _ _ _ _ us hl=>by obtain⟨_,_,rfl⟩:=Qg hl;rfl
 obtain⟨_,hE7⟩:=lE7.has (ps:=["_law_rows_here","_law_heap_here"]) X G λF=>F.binds λ_ _ _ _ _ _ us hl=>by obtain⟨_,_,rfl⟩:=Qg hl;rfl
 obtain⟨_,hE8⟩:=lE8.has (ps:=["_law_heap_here","_law_move"]) X G λF=>F.binds λ_ _ _ _ _ _ us hl=>by obtain⟨_,_,rfl⟩:=Qg hl;rfl
 obtain⟨_,hE9⟩:=lE9.has (ps:=["_law_way","_law_ground","_law_heap_here"]) X G λF=>F.binds λ_ _ _ _ _ _ us hl=>by obtain⟨_,_,_,rfl⟩:=zr hl;rfl
 obtain⟨_,hEA⟩:=lEA.has (ps:=["_law_way","_law_ground","_law_heap_here"]) X G λF=>F.binds λ_ _ _ _ _ _ us hl=>by obtain⟨_,_,_,rfl⟩:=zr hl;rfl
 obtain⟨_,hEB⟩:=lEB.has (ps:=["_law_labels_here","_law_heap_here"]) X G λF=>F.binds λ_ _ _ _ _ _ us hl=>by obtain⟨_,_,rfl⟩:=Qg hl;rfl
 obtain⟨_,hEC⟩:=lEC.has (ps:=["_law_rows_here","_law_labels_here","_law_heap_here"]) X G λF=>F.binds λ_ _ _ _ _ _ us hl=>by obtain⟨_,_,_,rfl⟩:=zr hl;rfl
 obtain⟨_,hED⟩:=lED.has (ps:=["_law_rows_here","_law_labels_here","_law_heap_here"]) X G λF=>F.binds λ_ _ _ _ _ _ us hl=>by obtain⟨_,_,_,rfl⟩:=zr hl;rfl
 obtain⟨_,hEE⟩:=lEE.has (ps:=["_law_rows_here","_law_labels_here","_law_heap_here"]) X G λF=>F.binds λ_ _ _ _ _ _ us hl=>by obtain⟨_,_,_,rfl⟩:=zr hl;rfl
 have FLAW:=Vv (st:=W4) lLAW cLAW kLAW
 obtain⟨_,FiCG⟩:=lCGi
 have clCG:ClG K mg CG fCGi _:=⟨⟨pgCG,hdCG,poCG,saCG⟩,⟨mkCG,inCG,fiCG,kcCG⟩,zaK X G nCG,noCG,nrCG,FiCG,FiCG.binds (ps:=["self","rows"]) λ_ _ _ _ _ _ us hl=>by obtain⟨_,_,rfl⟩:=Qg hl;rfl⟩
 obtain⟨_,FCGM⟩:=lCGM
 have mCGM:VE K CG "names" "Ground.names" zm ["self"] fCGM _:=⟨FCGM,⟨atCGM,fnCGM,FCGM.kp⟩,FCGM.binds (ps:=["self"]) λ_ _ _ _ _ _ us hl=>by obtain⟨_,rfl⟩:=QL hl;rfl⟩
 obtain⟨_,FCGF⟩:=lCGF
 have mCGF:VE K CG "roads_from" "Ground.roads_from" Xr ["self","name"] fCGF _:=⟨FCGF,⟨atCGF,fnCGF,FCGF.kp⟩,FCGF.binds (ps:=["self","name"]) λ_ _ _ _ _ _ us hl=>by obtain⟨_,_,rfl⟩:=Qg hl;rfl⟩
 obtain⟨_,FiCN⟩:=lCNi
 have clCN:Cl K mg "Numbered" "Numbered.__init__" "number" Xj CN fCNi _:=⟨⟨pgCN,hdCN,poCN,saCN⟩,⟨mkCN,inCN,fiCN,kcCN⟩,zaK X G nCN,naCN,FiCN,FiCN.binds (ps:=["self","number"]) λ_ _ _ _ _ _ us hl=>by obtain⟨_,_,rfl⟩:=Qg hl;rfl,caCN,obCN⟩
 obtain⟨_,FCNO⟩:=lCNO
 have mCNO:VE K CN "outcome" "Numbered.outcome" kB ["self"] fCNO _:=⟨FCNO,⟨atCNO,fnCNO,FCNO.kp⟩,FCNO.binds (ps:=["self"]) λ_ _ _ _ _ _ us hl=>by obtain⟨_,rfl⟩:=QL hl;rfl⟩
 obtain⟨_,FCNP⟩:=lCNP
 have mCNP:VE K CN "plus" "Numbered.plus" W3 ["self","other"] fCNP _:=⟨FCNP,⟨atCNP,fnCNP,FCNP.kp⟩,FCNP.binds (ps:=["self","other"]) λ_ _ _ _ _ _ us hl=>by obtain⟨_,_,rfl⟩:=Qg hl;rfl⟩
 obtain⟨_,FCNE⟩:=lCNE
 have mCNE:VE K CN "is_endless" "Numbered.is_endless" V2 ["self"] fCNE _:=⟨FCNE,⟨atCNE,fnCNE,FCNE.kp⟩,FCNE.binds (ps:=["self"]) λ_ _ _ _ _ _ us hl=>by obtain⟨_,rfl⟩:=QL hl;rfl⟩
 obtain⟨_,FiCE⟩:=lCEi
 have clCE:Cl K mg "Endless" "Endless.__init__" "bits" Xs CE fCEi _:=⟨⟨pgCE,hdCE,poCE,saCE⟩,⟨mkCE,inCE,fiCE,kcCE⟩,zaK X G nCE,naCE,FiCE,FiCE.binds (ps:=["self","bits"]) λ_ _ _ _ _ _ us hl=>by obtain⟨_,_,rfl⟩:=Qg hl;rfl,caCE,obCE⟩
 obtain⟨_,FCEO⟩:=lCEO
 have mCEO:VE K CE "outcome" "Endless.outcome" kE ["self"] fCEO _:=⟨FCEO,⟨atCEO,fnCEO,FCEO.kp⟩,FCEO.binds (ps:=["self"]) λ_ _ _ _ _ _ us hl=>by obtain⟨_,rfl⟩:=QL hl;rfl⟩
 obtain⟨_,FCEP⟩:=lCEP
 have mCEP:VE K CE "plus" "Endless.plus" W7 ["self","other"] fCEP _:=⟨FCEP,⟨atCEP,fnCEP,FCEP.kp⟩,FCEP.binds (ps:=["self","other"]) λ_ _ _ _ _ _ us hl=>by obtain⟨_,_,rfl⟩:=Qg hl;rfl⟩
 obtain⟨_,FCEE⟩:=lCEE
 have mCEE:VE K CE "is_endless" "Endless.is_endless" V7 ["self"] fCEE _:=⟨FCEE,⟨atCEE,fnCEE,FCEE.kp⟩,FCEE.binds (ps:=["self"]) λ_ _ _ _ _ _ us hl=>by obtain⟨_,rfl⟩:=QL hl;rfl⟩
 have tl:∀h:Heap,K.In h->OwnTail h Qe (.ref D::Qe):=λh X=>.own (X _ _ oHE) ⟨_,es,ep,X _ _ nHE,rfl,KR skHE,λ_=>rfl⟩ niHE .base
 have ccD:Nf K D:=⟨Qe,⟨_,_,_,_,_,_,_,_,_,_,_,_,_,_,_,oHE⟩,rfl⟩
 obtain⟨_,FNotSo⟩:=lNotSo
 have xNotSo:Nd K mg D "NotSo" "NotSo.__init__" Zi "found" CNotSo fNotSo _:=MZ X G tl FNotSo (FNotSo.binds (ps:=["self","found"]) λ_ _ _ _ _ _ us hl=>by obtain⟨_,_,rfl⟩:=Qg hl;rfl) a1NotSo a2NotSo a3NotSo a4NotSo a5NotSo a6NotSo a7NotSo a8NotSo a9NotSo a10NotSo a11NotSo a12NotSo a13NotSo
 have B:QO mg:=⟨zah X G zlen,zah X G zmax,zah X G zmin,zah X G zint,zah X G zrange⟩
 have Gk:QM mg:=⟨zah X G zsorted,zah X G zlist,zah X G zreversed,zah X G zset,zah X G ztuple⟩
 have T:Qt K mg:=⟨zah X G zisinstance,zah X G zstr,zah X G zall,zah X G zenumerate,zah X G zsum,⟨_,zaK X G m1⟩,⟨_,zaK X G m2⟩,⟨_,zaK X G m3⟩,⟨_,zaK X G m4⟩,kss,ktt,kll⟩
 have Nn:Nc K mg:=⟨⟨_,_,hA1⟩,⟨_,_,hA2⟩,⟨_,_,hA3⟩,⟨_,_,hA4⟩,⟨_,_,hA5⟩,⟨_,_,hA6⟩,⟨_,_,hA7⟩⟩
 have M:GM K mg CG:=⟨⟨_,_,clCG⟩,⟨_,_,mCGM⟩,⟨_,_,mCGF⟩,⟨_,_,hA1⟩⟩
 have FMK:=Vv (st:=Q0) lMK cdMK kMK
 have hMK:qQ K mg "winner_by" Q0 p3 fMK _:=⟨FMK,zaK X G aMK,FMK.binds (ps:=p3) λ_ _ _ _ _ _ us hl=>by obtain⟨_,_,_,rfl⟩:=zr hl;rfl⟩
 have Y:qag K mg:=⟨⟨_,_,hB1⟩,⟨_,_,hB2⟩,⟨_,_,hB3⟩,⟨_,_,hB4⟩,⟨_,_,hB5⟩,⟨_,_,hB6⟩,⟨_,_,hB7⟩,⟨_,_,hB8⟩⟩
 have Wq:Wk K mg:=⟨zah X G zisinstance,zah X G zbool,kii,kib,⟨_,zaK X G m5⟩,⟨_,zaK X G m6⟩⟩
 let wf:WF K mg:=⟨CN,CE,fCNi,fCEi,fCNO,fCEO,fCNP,fCEP,fCNE,fCEE,fW1,fW2,fW3,fW4,fW5,fB2,_,_,_,_,_,_,_,_,_,_,_,_,_,_,ne,clCN,clCE,mCNO,mCEO,mCNP,mCEP,mCNE,mCEE,hW1,hW2,hW3,hW4,hW5,hB2⟩
 have O:Kt K mg:=⟨⟨_,_,hP1⟩,⟨_,_,hP2⟩,⟨_,_,hP3⟩,⟨_,_,hW6⟩,⟨_,_,hP4⟩,⟨_,zaK X G m7⟩⟩
 have V1:Nb K mg:=⟨⟨_,_,hP5⟩,⟨_,_,hP6⟩,⟨_,_,hP7⟩,⟨_,_,hP8⟩⟩
 have Q1:qbF K mg:=⟨⟨_,_,hQ1⟩,⟨_,_,hQ2⟩,⟨_,_,hQ3⟩,⟨_,_,hQ4⟩,⟨_,_,hQ5⟩,⟨_,_,hQ6⟩,⟨_,_,hQ7⟩⟩
 have L:qbG K mg:=⟨⟨_,_,hO⟩,⟨_,_,hL⟩,⟨_,_,hT⟩,⟨_,_,hN⟩,⟨_,_,hD⟩,⟨_,_,hR⟩,⟨_,_,hA8⟩,⟨_,_,hE1⟩,⟨_,_,hE2⟩,⟨_,_,hE3⟩,⟨_,_,hE4⟩,⟨_,_,hE5⟩,⟨_,_,hE6⟩,⟨_,_,hE7⟩,⟨_,_,hE8⟩,⟨_,_,hE9⟩,⟨_,_,hEA⟩,⟨_,_,hEB⟩,⟨_,_,hEC⟩,⟨_,_,hED⟩,⟨_,_,hEE⟩⟩
 have ZE:qad K mg D CNotSo:=⟨zaK X G aHE,ccD,kt1,spc,tks⟩
 refine⟨[⟨"winner_by",cMK,PMK,zU⟩],zbk "law" "law" (QG W4) (jO W4) (qj W4) .none kVLAW dcLAW pmLAW anLAW cdLAW ctLAW,zal.mpr ⟨zaE,zbn⟩,λt ht=>?_,λs v=>.of_eq rfl,λbase _ _ hTM=>?_⟩
 ·rw[t7.mp ht];exact⟨t9 iMK,hMKc⟩
 ·exact(Mm (PT:=PMK) FLAW hMK rfl (hTM _ t8) wf B Wq Gk T Nn M Y O V1 Q1 L (zah X G zdict) xNotSo ZE (zah X G zValueError) kt2).imp λvs H Q E z=>let ⟨a,ns,e,h1,h2,h3,h4⟩:=z;⟨a,ns,e,h1,h2,h3 _ t8,h4⟩
theorem walk{l:PySem.W.OpenLaw}{q:Program}{loose:List Str}{XP:(Str->Option Value)->Heap->Prop}{YP:World->Heap->Prop}{d:DefRec}{K:Params->zdW}{ts:List Addr}(hn:l.most=some 63)(hdf:d.params.defaults=[])
  (hY:∀(w:World) (h:Heap),YP w h->(K w.params).In h) (hTs:∀(w:World) (h:Heap),YP w h->∀P∈ts,h.get? P=some (zbF #[])) (hnt:∀w:World,zdv (K w.params)=true)
  (F:∀(w:World) (mg:Str->Option Value) (fa:Addr) (h:Heap),(K w.params).In h->h.Ns mainGlobals mg->mg d.name=some (.ref fa)->
   ∃(tabs:List UK) (fd:zea),(tabs.map (·.P)).Nodup/\(∀t∈tabs,t.P∈ts/\zcB (K w.params) t.c t.P=true)/\(∀(s:Shared) (v:Value),BindsTo s fd ⟨[v],[]⟩ [("_law_script",v)])/\∀base:Heap,(K w.params).In base->base.Ns mainGlobals mg->(∀t∈tabs,UJ mg base t.c t.P)->qo l.prog w (K w.params) mg base qH 17 fa fd ["_law_script"] (U2 (K w.params) tabs)):
  PySem.W.WalkO q loose XP YP l.row.toRowW d [] (λf vs=>PySem.call f vs):=
 L2.walk_ofT (n:=63) (k:=17) (x:="_law_script") (sp:=λK tabs=>U2 K tabs) hn (by decide) hdf ⟨rfl,by decide,by decide,rfl⟩ hY hTs hnt F (λ_ _ _ a ns hl hS hP=>⟨a,ns,rfl,hS,hl,hP,λ_=>rfl⟩)
end Rh
open PySem PySem.W PyProof.Rows
def PySem.W.Fast.tw5065665681275209615 : Unit := ()
def PySem.W.Fast.tw11841355829894869021 : Unit := ()
def PySem.W.Fast.tw11334784238850759136 : Unit := ()
def PySem.W.Fast.tw861502493610598483 : Unit := ()
def PySem.W.Fast.tw15291024708798401721 : Unit := ()
def PySem.W.Fast.tw9008160628827913882 : Unit := ()
def PySem.W.Fast.tw14019881755177166336 : Unit := ()
def PySem.W.Fast.tw3105709079145064233 : Unit := ()
def PySem.W.Fast.tw7774113678449685934 : Unit := ()
def PySem.W.Fast.tw854247580281644437 : Unit := ()
def PySem.W.Fast.tw2805076105184715749 : Unit := ()
def PySem.W.Fast.tw15629952510504497247 : Unit := ()
def PySem.W.Fast.tw164352185463013549 : Unit := ()
def PySem.W.Fast.tw2479909634843643777 : Unit := ()
def PySem.W.Fast.tw11903097693493003620 : Unit := ()
def PySem.W.Fast.tw5651157763983816626 : Unit := ()
def PySem.W.Fast.tw14221096863170989933 : Unit := ()
def PySem.W.Fast.tw14801369171006070438 : Unit := ()
def PySem.W.Fast.tw8356303796347215682 : Unit := ()
def PySem.W.Fast.tw6649495121980407215 : Unit := ()
def PySem.W.Fast.tw17941610651245897021 : Unit := ()
def PySem.W.Fast.tw15142666989864626641 : Unit := ()
def PySem.W.Fast.tw17426491299859156930 : Unit := ()
def PySem.W.Fast.tw4984954101795155761 : Unit := ()
def PySem.W.Fast.tw14575388751658381831 : Unit := ()
def PySem.W.Fast.tw890339118813698166 : Unit := ()
def PySem.W.Fast.tw12176265147828701554 : Unit := ()
def PySem.W.Fast.tw1293241653719404408 : Unit := ()
def PySem.W.Fast.tw11853640710764476214 : Unit := ()
def PySem.W.Fast.tw13437419889732721216 : Unit := ()
def PySem.W.Fast.tw7867829370405329436 : Unit := ()
def PySem.W.Fast.tw17577329170770402720 : Unit := ()
def PySem.W.Fast.tw11180800956215176064 : Unit := ()
def PySem.W.Fast.tw16203366879757453535 : Unit := ()
def PySem.W.Fast.tw9557541446872002656 : Unit := ()
def PySem.W.Fast.tw8966131664815694762 : Unit := ()
def PySem.W.Fast.tw3726453103677007866 : Unit := ()
def PySem.W.Fast.tw2580195520493374949 : Unit := ()
def PySem.W.Fast.tw16945776922395636228 : Unit := ()
def PySem.W.Fast.tw6828597562223498359 : Unit := ()
def PySem.W.Fast.tw4480162626587320490 : Unit := ()
def PySem.W.Fast.tw4341293187932698999 : Unit := ()
def PySem.W.Fast.tw622995879521568732 : Unit := ()
def PySem.W.Fast.tw13946496683202179788 : Unit := ()
def PySem.W.Fast.tw7050804516273991350 : Unit := ()
def PySem.W.Fast.tw7091221385724896812 : Unit := ()
def PySem.W.Fast.tw17155049476370652306 : Unit := ()
def PySem.W.Fast.tw10199421320940215857 : Unit := ()
def PySem.W.Fast.tw3328118118096588273 : Unit := ()
def PySem.W.Fast.tw5162821528426345003 : Unit := ()
def PySem.W.Fast.tw14760874974797668852 : Unit := ()
def PySem.W.Fast.tw12747814925858328940 : Unit := ()
def PySem.W.Fast.tw15499940227032437249 : Unit := ()
def PySem.W.Fast.tw15559114068648415018 : Unit := ()
def PySem.W.Fast.tw1205604411410820431 : Unit := ()
def PySem.W.Fast.tw8185220541750880888 : Unit := ()
def PySem.W.Fast.tw13631397514672939371 : Unit := ()
def PySem.W.Fast.tw8392358500681263680 : Unit := ()
def PySem.W.Fast.tw14196522196718054806 : Unit := ()
def PySem.W.Fast.tw13813548295540068894 : Unit := ()
def PySem.W.Fast.tw9969077435446430640 : Unit := ()
def PySem.W.Fast.tw7001957589650049515 : Unit := ()
def PySem.W.Fast.tw17986951261819808105 : Unit := ()
def PySem.W.Fast.tw172746767574481773 : Unit := ()
def PySem.W.Fast.tw5522115075389312692 : Unit := ()
def PySem.W.Fast.tw8212203176049278890 : Unit := ()
def PySem.W.Fast.tw10539347186207431242 : Unit := ()
def PySem.W.Fast.tw13557862171009465336 : Unit := ()
def PySem.W.Fast.tw1630143524128594353 : Unit := ()
def PySem.W.Fast.tw17590876675597686902 : Unit := ()
def PySem.W.Fast.tw5233118043267047457 : Unit := ()
def PySem.W.Fast.tw12768989823518198380 : Unit := ()
def PySem.W.Fast.tw11205608169257636508 : Unit := ()
def PySem.W.Fast.tw14607143338591219252 : Unit := ()
def PySem.W.Fast.tw14387916025512776202 : Unit := ()
def PySem.W.Fast.tw3475869608268796686 : Unit := ()
def PySem.W.Fast.tw13348088958985639553 : Unit := ()
def PySem.W.Fast.tw1950803216711332702 : Unit := ()
def PySem.W.Fast.tw2629151800749243262 : Unit := ()
def PySem.W.Fast.tw628631919661052299 : Unit := ()
def PySem.W.Fast.tw87601786513091389 : Unit := ()
def PySem.W.Fast.tw13421457143807847188 : Unit := ()
def PySem.W.Fast.tw3713540243193553862 : Unit := ()
def PySem.W.Fast.tw12314708539913122752 : Unit := ()
def PySem.W.Fast.tw18328257000508772394 : Unit := ()
def PySem.W.Fast.tw12188032599808994241 : Unit := ()
def PySem.W.Fast.tw4971374062829452455 : Unit := ()
def PySem.W.Fast.tw10510056951384868246 : Unit := ()
def PySem.W.Fast.tw247591363613054380 : Unit := ()
def PySem.W.Fast.tw10958628066121416707 : Unit := ()
def PySem.W.Fast.tw1070438729232803039 : Unit := ()
def PySem.W.Fast.tw18031968618487185184 : Unit := ()
def PySem.W.Fast.tw15227483606004533461 : Unit := ()
def PySem.W.Fast.tw16378183091871739711 : Unit := ()
def PySem.W.Fast.tw1998347030407657756 : Unit := ()
def PySem.W.Fast.tw15565715512253457277 : Unit := ()
def PySem.W.Fast.tw16955839230299176341 : Unit := ()
def PySem.W.Fast.tw7478123994339007903 : Unit := ()
def PySem.W.Fast.tw8752102160057688731 : Unit := ()
def PySem.W.Fast.tw6822071536725586909 : Unit := ()
def PySem.W.Fast.tw9510108024173832781 : Unit := ()
def PySem.W.Fast.tw6851275008772768644 : Unit := ()
def PySem.W.Fast.tw11317637306720784765 : Unit := ()
def PySem.W.Fast.tw3308634892276815127 : Unit := ()
def PySem.W.Fast.tw5459702643516471331 : Unit := ()
def PySem.W.Fast.tw1717767836212652739 : Unit := ()
def PySem.W.Fast.tw10510019762269167821 : Unit := ()
def PySem.W.Fast.tw13055953723892786844 : Unit := ()
def PySem.W.Fast.tw1708089923452030704 : Unit := ()
def PySem.W.Fast.tw17187875760726034783 : Unit := ()
def PySem.W.Fast.tw14833712730911297017 : Unit := ()
def PySem.W.Fast.tw2314633323536394700 : Unit := ()
def PySem.W.Fast.tw211337195705725219 : Unit := ()
def PySem.W.Fast.tw15433366417846715934 : Unit := ()
def PySem.W.Fast.tw4096438862311573950 : Unit := ()
def PySem.W.Fast.tw4884199854448574 : Unit := ()
def PySem.W.Fast.tw8924819469995637033 : Unit := ()
def PySem.W.Fast.tw12887044766017154078 : Unit := ()
def PySem.W.Fast.tw14538725608371270373 : Unit := ()
def PySem.W.Fast.tw17338325484393633139 : Unit := ()
def PySem.W.Fast.tw16101134707931498060 : Unit := ()
def PySem.W.Fast.tw16226643914720891334 : Unit := ()
def PySem.W.Fast.tw16721508838639397229 : Unit := ()
def PySem.W.Fast.tw3992765435912101610 : Unit := ()
def PySem.W.Fast.tw17267597263503486738 : Unit := ()
def PySem.W.Fast.tw14664691819916384248 : Unit := ()
def PySem.W.Fast.tw13855379610559885079 : Unit := ()
def PySem.W.Fast.tw10295913840692754127 : Unit := ()
def PySem.W.Fast.tw16682895059504647277 : Unit := ()
def PySem.W.Fast.tw9592521066531166775 : Unit := ()
def PySem.W.Fast.tw8432719020341155521 : Unit := ()
def PySem.W.Fast.tw1891733041441978011 : Unit := ()
def PySem.W.Fast.tw16864618592142003386 : Unit := ()
def PySem.W.Fast.tw15805137534098808535 : Unit := ()
def PySem.W.Fast.tw17658959251048325594 : Unit := ()
def PySem.W.Fast.tw11692469974320434101 : Unit := ()
def PySem.W.Fast.tw7485256538410118956 : Unit := ()
def PySem.W.Fast.tw15214748959534726111 : Unit := ()
def PySem.W.Fast.tw542563422162235373 : Unit := ()
def PySem.W.Fast.tw9461873434466728008 : Unit := ()
def PySem.W.Fast.tw7007286002206832825 : Unit := ()
def PySem.W.Fast.tw11076892268299887525 : Unit := ()
def PySem.W.Fast.tw14827714588952709054 : Unit := ()
def PySem.W.Fast.tw15593559885672580101 : Unit := ()
def PySem.W.Fast.tw3676754643040562684 : Unit := ()
def PySem.W.Fast.tw6124413428159637790 : Unit := ()
def PySem.W.Fast.tw18367749455379333440 : Unit := ()
def PySem.W.Fast.tw11824586356888161845 : Unit := ()
def PySem.W.Fast.tw14341141199694864594 : Unit := ()
def PySem.W.Fast.tw9201617497623189827 : Unit := ()
def PySem.W.Fast.tw6575520176995025181 : Unit := ()
def PySem.W.Fast.tw15752536640612570366 : Unit := ()
def PySem.W.Fast.tw7181997581385953548 : Unit := ()
def PySem.W.Fast.tw1142673529048489019 : Unit := ()
def PySem.W.Fast.tw3365755272349913518 : Unit := ()
def PySem.W.Fast.tw6327569006664949090 : Unit := ()
def PySem.W.Fast.tw13567515925198824819 : Unit := ()
def PySem.W.Fast.tw2466311954974566718 : Unit := ()
def PySem.W.Fast.tw514280064592716601 : Unit := ()
def PySem.W.Fast.tw10988312798546598065 : Unit := ()
def PySem.W.Fast.tw1937721966566455358 : Unit := ()
def PySem.W.Fast.tw1825952489489211193 : Unit := ()
def PySem.W.Fast.tw11738243743197964597 : Unit := ()
def PySem.W.Fast.tw7933485763601977624 : Unit := ()
def PySem.W.Fast.tw4015202173357781934 : Unit := ()
def PySem.W.Fast.tw5890639436620234070 : Unit := ()
def PySem.W.Fast.tw819570635367399668 : Unit := ()
def PySem.W.Fast.tw17339309145561079191 : Unit := ()
def PySem.W.Fast.tw2741014181512449073 : Unit := ()
def PySem.W.Fast.tw16773468814595293053 : Unit := ()
def PySem.W.Fast.tw7322748291113730364 : Unit := ()
def PySem.W.Fast.tw977512076041815475 : Unit := ()
def PySem.W.Fast.tw11489344026974618541 : Unit := ()
def PySem.W.Fast.tw8737599933303070863 : Unit := ()
def PySem.W.Fast.tw4561898282857576226 : Unit := ()
def PySem.W.Fast.tw9879335643197240621 : Unit := ()
def PySem.W.Fast.tw15925456577456769635 : Unit := ()
def PySem.W.Fast.tw14391293386007564604 : Unit := ()
def PySem.W.Fast.tw4290864757253303354 : Unit := ()
def PySem.W.Fast.tw726351398001015727 : Unit := ()
def PySem.W.Fast.tw12528533614272120300 : Unit := ()
def PySem.W.Fast.tw17592209452093105858 : Unit := ()
def PySem.W.Fast.tw13956191218907399338 : Unit := ()
def PySem.W.Fast.tw18383651708701053236 : Unit := ()
def PySem.W.Fast.tw2399617604181995578 : Unit := ()
def PySem.W.Fast.tw15438627641174518403 : Unit := ()
def PySem.W.Fast.tw6056707288978253535 : Unit := ()
def PySem.W.Fast.tw18073898193381586223 : Unit := ()
def PySem.W.Fast.tw6702445572142316249 : Unit := ()
def PySem.W.Fast.tw18101783494082082527 : Unit := ()
def PySem.W.Fast.tw9387514328989991554 : Unit := ()
def PySem.W.Fast.tw561727478393794602 : Unit := ()
def PySem.W.Fast.tw6046103115902281144 : Unit := ()
def PySem.W.Fast.tw12550775161083096063 : Unit := ()
def PySem.W.Fast.tw16822532161544500889 : Unit := ()
def PySem.W.Fast.tw12459912946257978736 : Unit := ()
def PySem.W.Fast.tw17334828202450815106 : Unit := ()
set_option maxHeartbeats 0
open_top hd for PySem.Challenge.rw_ringheaps_k61_winning_moves_and_counts
set_option maxRecDepth 100000 in
set_option maxHeartbeats 0 in
theorem PySem.Challenge.cw_ringheaps_k61_winning_moves_and_counts_holds : PySem.Challenge.rw_ringheaps_k61_winning_moves_and_counts.Holds := by
 refine hd ?_
 k_fill
 refine Rh.walk (l:=PySem.Challenge.rw_ringheaps_k61_winning_moves_and_counts) rfl rfl (λw h Y=>PySem.W.km_in_of Y) (λw h Y=>PySem.W.km_tabs_of Y) ?hnt ?F
 case hnt=>exact λw=>by kernel_rfl
 case F=>
   intro w mg fa h KX G hmg
   refine' Rh.all_mk KX G hmg ?_ ?_ ?_ ?_ ?_ ?_ ?_ ?_ ?_ ?_ ?_ ?_ ?_ ?_ ?_ ?_ ?_ ?_ ?_ ?_ ?_ ?_ ?_ ?_ ?_ ?_ ?_ ?_ ?_ ?_ ?_ ?_ ?_ ?_ ?_ ?_ ?_ ?_ ?_ ?_ ?_ ?_ ?_ ?_ ?_ ?_ ?_ ?_ ?_ ?_ ?_ ?_ ?_ ?_ ?_ ?_ ?_ ?_ ?_ ?_ ?_ ?_ ?_ ?_ ?_ ?_ ?_ ?_ ?_ ?_ ?_ ?_ ?_ ?_ ?_ ?_ ?_ ?_ ?_ ?_ ?_ ?_ ?_ ?_ ?_ ?_ ?_ ?_ ?_ ?_ ?_ ?_ ?_ ?_ ?_ ?_ ?_ ?_ ?_ ?_ ?_ ?_ ?_ ?_ ?_ ?_ ?_ ?_ ?_ ?_ ?_ ?_ ?_ ?_ ?_ ?_ ?_ ?_ ?_ ?_ ?_ ?_ ?_ ?_ ?_ ?_ ?_ ?_ ?_ ?_ ?_ ?_ ?_ ?_ ?_ ?_ ?_ ?_ ?_ ?_ ?_ ?_ ?_ ?_ ?_ ?_ ?_ ?_ ?_ ?_ ?_ ?_ ?_ ?_ ?_ ?_ ?_ ?_ ?_ ?_ ?_ ?_ ?_ ?_ ?_ ?_ ?_ ?_ ?_ ?_ ?_ ?_ ?_ ?_ ?_ ?_ ?_ ?_ ?_ ?_
   any_goals first | exact Rh.at0 | (apply Rh.HF.mk'<;>k_is) | (apply Rh.MF.mk'<;>k_is) | k_is | kernel_rfl | rfl | decide
