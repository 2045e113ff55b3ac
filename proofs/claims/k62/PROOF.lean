import PyProof.Rows.All
import Wide.All
import OpenK.AllK
import Wide.FinOn
import Lean
import PyProof.EqAt
import PyProof.EqKinds
import PyProof.TupleCall
import PySem.Challenge.RW_ringheaps_k62_whole_winner_against_any_a
set_option Elab.async false
set_option linter.all false
set_option maxRecDepth 100000
open Array renaming getElem?_eq_some_iff → zay, length_toList → zaB, toList_append → zbY, getElem?_eq_getElem → zcV
open Bool renaming false_ne_true → tO, and_eq_true → zaq, false_eq_true → zaY, eq_iff_iff → zbf, false_and → zcL, or_eq_true → zdp
open Int renaming toNat_natCast → zaP, emod_lt_of_pos → zby, emod_nonneg → zbM, fdiv_eq_ediv_of_nonneg → zbR, zero_add → zbT, natCast_nonneg → zcM
open List renaming length_map → tj, getElem?_eq_some_iff → tw, getElem?_eq_getElem → tF, take_of_length_le → tG, getElem?_map → tH, map_append → tI, mem_append_right → tJ, length_append → tK, mem_map → tL, take_add_one → tQ, length_take → tS, map_cons → tW, mem_append → tX, mem_cons → tY, mem_cons_of_mem → tZ, size_toArray → t7, mem_of_getElem? → t8, mem_cons_self → t9, range → zaa, mem_singleton → zab, mem_filter → zad, getElem?_append_right → zaf, getElem?_append_left → zaj, mem_append_left → zak, nodup_cons → zal, length_range → zam, filterMap_append → zan, filterMap_cons → zao, append_nil → zap, length_filter_le → zas, length_cons → zau, lookup_cons → zav, getD_eq_getElem?_getD → zax, eq_nil_of_length_eq_zero → zaz, length → zaD, mem_filterMap → zaF, length_singleton → zaH, pairwise_iff_getElem → zaK, all_eq_true → zaL, length_filterMap_le → zaM, mem_range → zaQ, filter_append → zaS, sum_cons → zaU, toArray → zaV, map_map → zaX, any_eq_true → zaZ, not_mem_nil → zba, getElem?_of_mem → zbb, filter_sublist → zbe, lookup → zbg, getElem?_eq_none → zbh, getElem_mem → zbi, nodup_nil → zbo, mem_of_mem_take → zbp, find?_cons → zbr, length_pos_of_mem → zbs, mem_nil_iff → zbu, filter_cons → zbv, exists_cons_of_ne_nil → zbx, getElem?_take_of_lt → zbA, getElem?_range → zbB, map_congr_left → zbC, of_mem_zip → zbI, length_set → zbJ, filter_congr → zbQ, mem_erase_of_ne → zbS, mem_of_find?_eq_some → zbW, length_reverse → zbX, length_erase_of_mem → zcb, sum_append → zch, range_succ → zcj, pairwise_singleton → zcl, map_nil → zco, foldl_append → zcr, append_assoc → zct, length_replicate → zcv, cons_append → zcw, mem_reverse → zcx, nodup_range → zcz, any_cons → zcA, exists_mem_of_length_pos → zcC, foldl_cons → zcE, length_pos_iff → zcH, all_map → zcI, drop_zero → zcQ, append_of_mem → zcR, getElem?_take → zcT, getElem?_eq_none_iff → zcU, filterMap_eq_nil_iff → zcW, take_sublist → zcZ, reverse_cons → zda, ext_getElem? → zdb, nodup_append → zdc, all_cons → zdd, getElem?_replicate → zde, length_drop → zdf, getElem?_set_self → zdj, length_nil → zdo, nil_append → zdq, all_append → zdr, pairwise_reverse → zds, getElem?_set_ne → zdt, replicate → zdw, pairwise_append → zdA, take_zero → zdB, findIdx_append → zdC, Pairwise → zdD, map_take → zdE, lookup_append → zdG, find?_eq_none → zdH, pairwise_cons → zdI, pairwise_map → zdO, map → zdP, range' → zdS
open Nat renaming le_refl → tE, lt_of_lt_of_le → tP, ne_of_lt → tV, le_trans → zac, le_of_lt → zag, lt_irrefl → zar, zero_le → zat, lt_of_le_of_lt → zaw, lt_trichotomy → zaE, lt_succ_self → zaJ, xor_assoc → zbk, testBit_succ → zbF, ne_of_gt → zbG, testBit_xor → zbL, lt_succ_of_lt → zbP, lt_or_ge → zbU, xor_self → zbV, min_eq_left → zcg, not_lt_zero → zci, zero_xor → zcs, lt_of_succ_lt → zcu, strongRecOn → zcD, sub_self → zcK, succ → zcO, pos_of_ne_zero → zcS, min_eq_right → zdg, min_le_right → zdh, testBit_zero → zdi, le_of_eq → zdk, sub_zero → zdl, xor_zero → zdm, le_succ → zdv, eq_of_testBit_eq → zdz, lt_trans → zdL, zero_add → zdM, xor_comm → zdN
open Option renaming some → tN, isSome_map → zbd, map_eq_some_iff → zbH, isSome_iff_exists → zbZ, map_some → zcf, getD_none → zdR
open PySem.F renaming plainAttrs_list → zaA, plain_min_loop → zaW, slot_list_append → zbl, type_list_append → zbm, args_tuple_add_2 → zca, slot_list_extend → zcc, type_list_extend → zcd, entry_tuple_add → zck, slot_tuple_add → zcn, entry_min_loop → zcq, excBase_ValueError → zcP
open PySem.Heap renaming get?_push_of_some → tu, lt_size → tM, get?_push_size → tU, get?_update_other → zai, get?_update_self → zaG, size_push → zbn, get?_none_of_le → zcB, SameBut → zcJ
open PySem.W renaming findIn → tR, nsIn → zae, mg_none_of → zah, keepIn → zaC, isFn → zaI, mg_of → zaN, emptyDict → zaO, kitOne → zaR, kia_one → zaT, hasDictIn → zbc, fnOf → zbj, instObj → zbq, plainGet → zbt, callWith_K → zbw, mroIn → zbz, codeIn → zbD, tabObj → zbE, kla_obj → zbK, methodCall_KW → zbN, plainOver → zbO, makesIn → zce, cellsFrom_some → zcm, envX → zcp, codeHdIn → zcy, plainGet_of → zcF, callWith_K0 → zcG, lookIn → zcN, methodObj → zcX, specialIn → zcY, takerIn → zdn, looks_findIn → zdu, noTabs → zdx, kla_fn → zdy, codeRec_of → zdF, kitx_list → zdJ, kitx_dict → zdK, handedIn → zdQ, takesIn → zdT, typeIn → zdU
namespace L2
open PySem PySem.Spec PyProof.Rows
abbrev qL:=Sum Int Str
def Xl:qL->Value->Bool
 | .inl k,v=>Value.isInt k v
 | .inr x,v=>Value.isStrOf x v
def qbt (w:World):qL->Int
 | .inl k=>hashInt k
 | .inr x=>hashStr w x
theorem jq:∀{k:qL} {v:Value},Xl k v=true->(∃i t,k=Sum.inl i/\v=Value.int i t)\/(∃x t,k=Sum.inr x/\v=Value.str x t)
 | .inl i,v,h=>by
   obtain⟨t,e⟩:=Value.isInt_shape (k:=i) (v:=v) h
   exact .inl ⟨i,t,rfl,e⟩
 | .inr x,v,h=>by
   obtain⟨t,e⟩:=Value.isStrOf_shape (x:=x) (v:=v) h
   exact .inr ⟨x,t,rfl,e⟩
theorem yp (i:Int) (t:Tok):Xl (.inl i) (.int i t)=true:=by simp [Xl,Value.isInt]
theorem yo (x:Str) (t:Tok):Xl (.inr x) (.str x t)=true:=by simp [Xl,Value.isStrOf]
theorem NH (a b:Int):decide ((Sum.inl a:qL)=Sum.inl b)=(a==b):=by
 by_cases e:a=b
 . subst e;simp
 . have h:¬(Sum.inl a:qL)=Sum.inl b:=λq=>e (Sum.inl.inj q)
   rw[decide_eq_false h]
   exact(beq_eq_false_iff_ne.mpr e).symm
theorem NE (a b:Str):decide ((Sum.inr a:qL)=Sum.inr b)=decide (a=b):=by
 by_cases e:a=b
 . subst e;simp
 . have h:¬(Sum.inr a:qL)=Sum.inr b:=λq=>e (Sum.inr.inj q)
   rw[decide_eq_false h,decide_eq_false e]
theorem NG (a:Int) (b:Str):decide ((Sum.inl a:qL)=Sum.inr b)=false:=decide_eq_false (λq=>nomatch q)
theorem NF (a:Str) (b:Int):decide ((Sum.inr a:qL)=Sum.inl b)=false:=decide_eq_false (λq=>nomatch q)
def jm (prog:Program) (w:World):PySem.KeyKind prog w qL where
 is:=Xl
 hash:=qbt w
 inj:=λv a b ha hb=>by
   rcases jq ha with ⟨i,t,rfl,rfl⟩ | ⟨x,t,rfl,rfl⟩
   . rcases jq hb with ⟨j,u,rfl,e⟩ | ⟨y,u,rfl,e⟩
     . injection e with e1 _;rw[e1]
     . exact nomatch e
   . rcases jq hb with ⟨j,u,rfl,e⟩ | ⟨y,u,rfl,e⟩
     . exact nomatch e
     . injection e with e1 _;rw[e1]
 byValue:=λk v h=>by
   rcases jq h with ⟨i,t,rfl,rfl⟩ | ⟨x,t,rfl,rfl⟩<;>rfl
 pyHash:=λhv h=>by
   rcases jq hv with ⟨i,t,rfl,rfl⟩ | ⟨x,t,rfl,rfl⟩
   . exact wpAny_pyHash_int h
   . exact wpAny_pyHash_str h
 eqBool:=λhu hv h=>by
   rcases jq hu with ⟨i,t,rfl,rfl⟩ | ⟨x,t,rfl,rfl⟩
   . rcases jq hv with ⟨j,u,rfl,rfl⟩ | ⟨y,u,rfl,rfl⟩
     . rw[NH]at h;exact wpAny_eqBool_int h
     . rw[NG]at h;exact SeqAt.EqAt.int_str i t y u _ _ _ _ h
   . rcases jq hv with ⟨j,u,rfl,rfl⟩ | ⟨y,u,rfl,rfl⟩
     . rw[NF]at h;exact SeqAt.EqAt.str_int x t j u _ _ _ _ h
     . rw[NE]at h;exact wpAny_eqBool_str h
 «strs»:=λk x t v h=>by
   rcases jq h with ⟨i,u,rfl,e⟩ | ⟨y,u,rfl,e⟩
   . exact nomatch e
   . injection e with e1 _
     subst e1
     cases v<;>rfl
theorem VP (prog:Program) (w:World) (i:Int) (t:Tok):(jm prog w).is (.inl i) (.int i t)=true:=yp i t
theorem VO (prog:Program) (w:World) (x:Str) (t:Tok):(jm prog w).is (.inr x) (.str x t)=true:=yo x t
inductive V where
 | non | bl (b:Bool) | int (i:Int) | str (x:Str) | byt (b:Array UInt8) | flt (b:UInt64) | ref (a:Addr) | ty (n:String)
 deriving DecidableEq
def qP:V->Value->Prop
 | .non,u=>u=Value.none
 | .bl b,u=>u=Value.bool b
 | .int i,u=>∃t,u=Value.int i t
 | .str x,u=>∃t,u=Value.str x t
 | .byt b,u=>∃t,u=Value.bytes b t
 | .flt b,u=>∃t,u=Value.float b t
 | .ref a,u=>u=Value.ref a
 | .ty n,u=>u=Value.type n
abbrev qI:List V->List Value->Prop:=Paired qP
theorem qI.length {xs:List V} {us:List Value} (r:qI xs us):xs.length=us.length:=Paired.length r
theorem qI.get:∀{xs:List V} {us:List Value} {i:Nat} {x:V},qI xs us->xs[i]?=some x->∃u,us[i]?=some u/\qP x u
 | _,_,_,_,.nil,e=>by simp at e
 | _,_,0,_,.cons r _,e=>by simp at e;subst e;exact⟨_,rfl,r⟩
 | _,_,i+1,x,.cons _ t,e=>by
   obtain⟨u,h1,h2⟩:=qI.get (i:=i) (x:=x) t (by simpa using e)
   exact⟨u,by simpa using h1,h2⟩
theorem qI.set {x:V} {u:Value} (r:qP x u):∀{xs:List V} {us:List Value} (i:Nat),qI xs us->qI (xs.set i x) (us.set i u)
 | _,_,_,.nil=>.nil
 | _,_,0,.cons _ t=>.cons r t
 | _,_,i+1,.cons q t=>.cons q (qI.set r i t)
theorem qI.append:∀{xs ys:List V} {us ws:List Value},qI xs us->qI ys ws->qI (xs++ys) (us++ws)
 | _,_,_,_,.nil,s=>s
 | _,_,_,_,.cons r t,s=>.cons r (qI.append t s)
theorem qI.take:∀{xs:List V} {us:List Value} (n:Nat),qI xs us->qI (xs.take n) (us.take n)
 | _,_,0,_=>.nil
 | _,_,_+1,.nil=>.nil
 | _,_,n+1,.cons r t=>.cons r (qI.take n t)
theorem qI.drop:∀{xs:List V} {us:List Value} (n:Nat),qI xs us->qI (xs.drop n) (us.drop n)
 | _,_,0,r=>r
 | _,_,_+1,.nil=>.nil
 | _,_,n+1,.cons _ t=>qI.drop n t
theorem qI.none_of:∀{xs:List V} {us:List Value} {i:Nat},qI xs us->xs[i]?=none->us[i]?=none:=λ{xs us i} r e=>by
 have h1:=r.length
 have h2:xs.length<=i:=zcU.mp e
 exact zcU.mpr (by omega)
def Zo:Option V->Option Value->Prop
 | some v,some u=>qP v u
 | none,none=>True
 | _,_=>False
def KV {κ:Type}:List (κ×V)->List (κ×Value)->Prop:=Paired λ(p:κ×V) (q:κ×Value)=>p.1=q.1/\qP p.2 q.2
def kV:qL->V
 | .inl i=>.int i
 | .inr x=>.str x
inductive HO where
 | lst (xs:List V)
 | tup (xs:List V)
 | dK (kvs:List (qL×V)) | dT (kvs:List (List qL×V))
 | set (S:Int->Bool) (n:Nat)
 | ins (C dx:Addr) (fs:List (Str×V))
 | own (x:Addr)
 | xd (fs:List (Str×V))
 | met (f x:Addr)
 | rng (lo hi:Int)
 | frz (o:Obj) (u:HO)
 | tbl (ps:Array Value)
 | ext (φ:Heap->Prop)
abbrev Hp:=Addr->Option HO
def upd (H:Hp) (a:Addr) (o:HO):Hp:=λb=>if b=a then some o else H b
theorem qe {H:Hp} {a:Addr} {o:HO}:upd H a o a=some o:=by unfold upd;rw[if_pos rfl]
theorem qi {H:Hp} {a b:Addr} {o:HO} (h:b≠a):upd H a o b=H b:=by unfold upd;rw[if_neg h]
theorem jB {H:Hp} {a:Addr} {o u:HO}:upd (upd H a o) a u=upd H a u:=by
 funext b;unfold upd;split<;>rfl
theorem M7 {H:Hp} {a b:Addr} {o u:HO} (h:H a=some o) (h':H b=some u) (d:o≠u):a≠b:=by
 intro e;subst e;rw[h]at h';exact d (tN.inj h')
theorem qr {H:Hp} {a b:Addr} {o:HO} (h:H a=some o) (h':H b=none):a≠b:=by
 intro e;subst e;rw[h]at h';cases h'
def qaD (ps:Array Value) (oc:Obj):Prop:=∃(q:Str) (t:Tok) (vs:Array Value) (t':Tok),ps[0]?=some (.str q t)/\oc.data=.fields vs/\vs[1]?=some (.str q t')
section
variable (P:Program) (w:World)
def qS (H:Hp) (h:Heap) (a:Addr):HO->Prop
 | .lst xs=>xs.length<=sizeLine/\∃(its:List Value) (n:Nat),qI xs its/\h.get? a=some {cls:=.type "list",data:=.seq its.toArray n}
 | .tup xs=>xs.length<=sizeLine/\∃its:List Value,qI xs its/\IsTup h a its.toArray
 | .dK kvs=>kvs.length<=sizeLine/\(a==sysModules)=false/\∃vs,KV kvs vs/\h.DictOf (jm P w) a vs
 | .dT kvs=>kvs.length<=sizeLine/\(a==sysModules)=false/\∃xs:List (List qL×Addr×Value),
     Paired (λ(p:List qL×V) (q:List qL×Addr×Value)=>p.1=q.1/\H q.2.1=some (.tup (p.1.map kV))/\qP p.2 q.2.2) kvs xs/\
     ∃o es ep,h.get? a=some o/\o.ExactDict/\o.data=.dict es ep/\es.toList=xs.map (entryOfKey (tupleKind (jm P w)))/\(xs.map (·.1)).Nodup
 | .set S n=>h.SetOf (intKind P w) a S n
 | .ins C dx fs=>H dx=some (.own a)/\fs.length<=1000/\dx≠a/\h.get? a=some (zbq C dx)/\
     ∃mA,h.Ns1 dx mA/\(∀f,Zo (fs.lookup f) (mA f))/\PySem.Within mA (fs.map (·.1))
 | .own _=>∃o,h.get? a=some o
 | .xd fs=>∃mA,h.Ns1 a mA/\∀f,Zo (fs.lookup f) (mA f)
 | .rng lo hi=>∃t u v,h.get? a=some {cls:=.type "range",data:=.fields #[.int lo t,.int hi u,.int 1 v]}
 | .frz o u=>h.get? a=some o/\qS H h a u
 | .tbl ps=>∃ts:Array Value,h.get? a=some {cls:=.none,data:=.fields ts}/\TriplesOk ts.toList/\∀pos cv,codeAmong pos ts.toList=some cv->∃c oc,cv=.ref c/\H c=some (.frz oc (.own a))/\qaD ps oc
 | .met f x=>h.get? a=some (zcX (.ref f) (.ref x))
 | .ext φ=>φ h/\(∃o,h.get? a=some o)/\∀h1 h2:Heap,φ h1->(∀o,h1.get? a=some o->h2.get? a=some o)->φ h2
def J5 (H:Hp) (h:Heap):Prop:=∀a o,H a=some o->qS P w H h a o
end
section
variable {P:Program} {w:World} {H H':Hp} {h h':Heap} {a:Addr} {o:HO}
theorem qS.lt (x:qS P w H h a o):a < h.objs.size:=by
 cases o with
 | lst xs=>obtain⟨_,_,_,_,e⟩:=x;exact tM e
 | tup xs=>obtain⟨_,_,_,p⟩:=x;exact p.lt
 | dK kvs=>obtain⟨_,_,_,_,o,_,_,e,_⟩:=x;exact tM e
 | dT kvs=>obtain⟨_,_,_,_,o,_,_,e,_⟩:=x;exact tM e
 | set S n=>obtain⟨o,_,_,_,e,_⟩:=x;exact tM e
 | ins C dx fs=>obtain⟨_,_,_,e,_⟩:=x;exact tM e
 | own y=>obtain⟨_,e⟩:=x;exact tM e
 | xd fs=>obtain⟨_,⟨_,_,_,e,_⟩,_⟩:=x;exact tM e
 | rng lo hi=>obtain⟨_,_,_,e⟩:=x;exact tM e
 | frz ob u=>obtain⟨e,_⟩:=x;exact tM e
 | tbl ps=>obtain⟨_,e,_⟩:=x;exact tM e
 | met f y=>exact tM (show h.get? a=some _ from x)
 | ext φ=>obtain⟨_,⟨_,e⟩,_⟩:=x;exact tM e
theorem Paired.mapP {α β:Type} {F G:α->β->Prop}:∀{l₁:List α} {l₂:List β},Paired F l₁ l₂->(∀a b,F a b->G a b)->Paired G l₁ l₂
 | _,_,.nil,_=>.nil
 | _,_,.cons r t,f=>.cons (f _ _ r) (Paired.mapP t f)
theorem qS.stay (x:qS P w H h a o) (k:∀b u,(b=a\/H b=some (.own a))->h.get? b=some u->h'.get? b=some u)
   (ho:∀b,H b=some (.own a)->H' b=some (.own a)) (ht:∀b xs,H b=some (.tup xs)->H' b=some (.tup xs)) (hf:∀b o,H b=some (.frz o (.own a))->H' b=some (.frz o (.own a)):=by exact λ_ _ q=>q):qS P w H' h' a o:=by
 induction o with
 | lst xs=>obtain⟨z,its,n,r,e⟩:=x;exact⟨z,its,n,r,k _ _ (.inl rfl) e⟩
 | tup xs=>obtain⟨z,its,r,ob,e,c⟩:=x;exact⟨z,its,r,ob,k _ _ (.inl rfl) e,c⟩
 | dK kvs=>obtain⟨z,y,vs,r,ob,es,ep,e,c⟩:=x;exact⟨z,y,vs,r,ob,es,ep,k _ _ (.inl rfl) e,c⟩
 | dT kvs=>
   obtain⟨z,y,xs,r,ob,es,ep,e,c⟩:=x
   exact⟨z,y,xs,Paired.mapP r λp q z=>⟨z.1,ht _ _ z.2.1,z.2.2⟩,ob,es,ep,k _ _ (.inl rfl) e,c⟩
 | set S n=>obtain⟨ob,es,ep,t,e,c⟩:=x;exact⟨ob,es,ep,t,k _ _ (.inl rfl) e,c⟩
 | ins C dx fs=>
   obtain⟨d,z,ne,e,mA,⟨od,es,ep,e2,c⟩,r⟩:=x
   exact⟨ho _ d,z,ne,k _ _ (.inl rfl) e,mA,⟨od,es,ep,k _ _ (.inr d) e2,c⟩,r⟩
 | own y=>obtain⟨ob,e⟩:=x;exact⟨ob,k _ _ (.inl rfl) e⟩
 | xd fs=>obtain⟨mA,⟨od,es,ep,e,c⟩,r⟩:=x;exact⟨mA,⟨od,es,ep,k _ _ (.inl rfl) e,c⟩,r⟩
 | rng lo hi=>obtain⟨t,u,v,e⟩:=x;exact⟨t,u,v,k _ _ (.inl rfl) e⟩
 | frz ob u ih=>obtain⟨e,q⟩:=x;exact⟨k _ _ (.inl rfl) e,ih q⟩
 | tbl ps=>
   obtain⟨ts,e,tr,cs⟩:=x
   exact⟨ts,k a _ (.inl rfl) e,tr,λpos cv q=>let ⟨c,oc,e1,e2,e3⟩:=cs pos cv q;⟨c,oc,e1,hf c oc e2,e3⟩⟩
 | met f y=>
   have e:h.get? a=some (zcX (.ref f) (.ref y)):=x
   show h'.get? a=some (zcX (.ref f) (.ref y))
   exact k a _ (.inl rfl) e
 | ext φ=>obtain⟨p,⟨o,e⟩,st⟩:=x;exact⟨st _ _ p λo q=>k _ _ (.inl rfl) q,⟨o,k _ _ (.inl rfl) e⟩,st⟩
theorem J5.lt (x:J5 P w H h) (e:H a=some o):a < h.objs.size:=(x a o e).lt
theorem J5.fresh (x:J5 P w H h) (e:h.objs.size<=a):H a=none:=by
 cases q:H a with
 | none=>rfl
 | some u=>exact absurd (tP (x.lt q) e) (zar _)
theorem J5.kept (x:J5 P w H h) (k:∀b u,h.get? b=some u->h'.get? b=some u):J5 P w H h':=λa o e=>
 (x a o e).stay (λb u _ q=>k b u q) (λ_ q=>q) λ_ _ q=>q
theorem J5.laid (x:J5 P w H h) (k:∀b u,h.get? b=some u->h'.get? b=some u) (hp:h.objs.size<=a) (new:qS P w (upd H a o) h' a o):J5 P w (upd H a o) h':=λb u e=>by
 have hn:=x.fresh hp
 by_cases hb:b=a
 . subst hb;rw[qe]at e;cases e;exact new
 . rw[qi hb]at e
   exact(x b u e).stay (λc v _ q=>k c v q) (λc q=>by rw[qi (qr q hn)];exact q) (λc xs q=>by rw[qi (qr q hn)];exact q) (λc o q=>by rw[qi (qr q hn)];exact q)
end
def Rd (H:Hp) (a:Addr) (u:HO):Prop:=H a=some u\/∃o,H a=some (.frz o u)
theorem Rd.ok {P:Program} {w:World} {H:Hp} {h:Heap} {a:Addr} {u:HO} (r:Rd H a u) (x:J5 P w H h):qS P w H h a u:=by
 rcases r with r | ⟨o,r⟩
 . exact x a u r
 . obtain⟨_,q⟩:=x a _ r
   exact q
def N8:Option HO->Prop
 | some (.lst _)=>True
 | some (.dK _)=>True
 | some (.dT _)=>True
 | some (.set _ _)=>True
 | some (.ins _ _ _)=>True
 | some (.ext _)=>True
 | _=>False
section
variable {P:Program} {w:World} {H:Hp} {h h':Heap} {x e:Addr} {o':HO}
theorem J5.write (ok:J5 P w H h) (mu:N8 (H x)) (he:e=x\/H e=some (.own x)) (k:∀b u,b≠e->h.get? b=some u->h'.get? b=some u) (heo:∃u,h'.get? e=some u)
   (new:qS P w (upd H x o') h' x o'):J5 P w (upd H x o') h':=λb u q=>by
 have nown:∀c y,H c=some (.own y)->c≠x:=λc y r z=>by subst z;rw[r]at mu;exact mu
 have ntup:∀c xs,H c=some (.tup xs)->c≠x:=λc xs r z=>by subst z;rw[r]at mu;exact mu
 by_cases hb:b=x
 . subst hb;rw[qe]at q;cases q;exact new
 . rw[qi hb]at q
   by_cases hbe:b=e
   . have q':H b=some (.own x):=by
       rcases he with z | z
       . exact absurd (hbe.trans z) hb
       . rw[hbe];exact z
     rw[q]at q';cases q'
     obtain⟨v,hv⟩:=heo
     exact⟨v,by rw[hbe];exact hv⟩
   . refine(ok b u q).stay (λc v hc r=>k c v ?_ r) (λc r=>by rw[qi (nown c b r)];exact r) (λc xs r=>by rw[qi (ntup c xs r)];exact r) (λc o r=>by rw[qi (λz=>by subst z;rw[r]at mu;exact mu)];exact r)
     rcases hc with rfl | hc
     . exact hbe
     . rintro rfl
       rcases he with z | z
       . exact nown c b hc z
       . rw[hc]at z;cases z;exact hb rfl
end
structure Un (fs ex:List Addr) (H H':Hp) (h h':Heap):Prop where
 keep:∀b o,h.get? b=some o->H b=none->b∉fs->b∉ex->h'.get? b=some o
 slot:∀b o,h.get? b=some o->H b=none->b∈fs->b∉ex->∃sl,h'.get? b=some {o with slots:=sl}
 free:∀b o,h.get? b=some o->H b=none->b∉ex->H' b=none
 there:∀b o,h.get? b=some o->b∉ex->∃o',h'.get? b=some o'
 tups:∀b xs,H b=some (.tup xs)->H' b=some (.tup xs)
 frzs:∀b o u,H b=some (.frz o u)->H' b=some (.frz o u)
 tbls:∀b ps,H b=some (.tbl ps)->∃more,H' b=some (.tbl (ps++more))
section
variable {fs fs' ex ex':List Addr} {H H1 H2:Hp} {h h1 h2 h':Heap} {a x e:Addr} {o:HO}
theorem Un.any (u:Un fs ex H H1 h h1) {b:Addr} {ob:Obj} (q:h.get? b=some ob) (n:H b=none) (hx:b∉ex):∃sl,h1.get? b=some {ob with slots:=sl}:=by
 by_cases hb:b∈fs
 . exact u.slot b ob q n hb hx
 . exact⟨ob.slots,u.keep b ob q n hb hx⟩
theorem Un.kept (k:∀b u,h.get? b=some u->h'.get? b=some u):Un fs ex H H h h':=
 ⟨λb ob q _ _ _=>k b ob q,λb ob q _ _ _=>⟨ob.slots,k b ob q⟩,λ_ _ _ n _=>n,λb ob q _=>⟨ob,k b ob q⟩,λ_ _ q=>q,λ_ _ _ q=>q,λ_ ps q=>⟨#[],by rw[q];simp⟩⟩
theorem Un.refl:Un fs ex H H h h:=Un.kept λ_ _ q=>q
theorem Un.laid (k:∀b u,h.get? b=some u->h'.get? b=some u) (hp:h.objs.size<=a) (hn:H a=none):Un fs ex H (upd H a o) h h' where
 keep:=λb u q _ _ _=>k b u q
 slot:=λb u q _ _ _=>⟨u.slots,k b u q⟩
 free:=λb u q n _=>by rw[qi (tV (tP (tM q) hp))];exact n
 there:=λb u q _=>⟨u,k b u q⟩
 tups:=λb xs q=>by rw[qi (qr q hn)];exact q
 frzs:=λb u xs q=>by rw[qi (qr q hn)];exact q
 tbls:=λb ps q=>⟨#[],by rw[qi (qr q hn),q];simp⟩
theorem Un.write (mu:N8 (H x)) (he:e=x\/H e=some (.own x)) (k:∀b u,b≠e->h.get? b=some u->h'.get? b=some u) (heo:∃u,h'.get? e=some u):Un fs ex H (upd H x o) h h':=by
 have hx:∀b,H b=none->b≠x:=λb n z=>by subst z;rw[n]at mu;exact mu
 have hb:∀b,H b=none->b≠e:=λb n z=>by
   subst z
   rcases he with r | r
   . exact hx b n r
   . rw[n]at r;cases r
 have hm:∀b u,H b=some u->¬N8 (some u)->b≠x:=λb u q nm z=>by subst z;rw[q]at mu;exact nm mu
 refine⟨λb u q n _ _=>k b u (hb b n) q,λb u q n _ _=>⟨u.slots,k b u (hb b n) q⟩,λb u q n _=>by rw[qi (hx b n)];exact n,λb u q _=>?_,
   λb xs q=>by rw[qi (hm b _ q λz=>z)];exact q,λb u xs q=>by rw[qi (hm b _ q λz=>z)];exact q,λb ps q=>⟨#[],by rw[qi (hm b _ q λz=>z),q];simp⟩⟩
 by_cases hbe:b=e
 . subst hbe;exact heo
 . exact⟨u,k b u hbe q⟩
end
def trk (h:Heap) (H:Hp):List Addr:=(zaa h.objs.size).filter λa=>(H a).isSome
def XM (h:Heap) (H:Hp):Heap:=PySem.W.hideAll h (trk h H)
theorem yx (h:Heap) (H:Hp):(XM h H).objs.size=h.objs.size:=PySem.W.hideAll_size _ _
theorem w4 {h:Heap} {H:Hp} {b:Addr} {o:Obj} (e:h.get? b=some o) (n:H b=none):(XM h H).get? b=some o:=
 PySem.W.hideAll_get _ e λhm=>by
   have q:(H b).isSome=true:=(zad.mp hm).2
   rw[n]at q;simp at q
theorem KS {h:Heap} {H:Hp} {b:Addr} {o:Obj} (e:(XM h H).get? b=some o):h.get? b=some o/\H b=none:=by
 have e':h.get? b=some o:=PySem.W.of_hideAll (trk h H) e
 refine⟨e',?_⟩
 cases q:H b with
 | none=>rfl
 | some x=>
   have hm:b∈trk h H:=zad.mpr ⟨zaQ.mpr (tM e'),by simp [q]⟩
   have z:(XM h H).get? b=none:=PySem.W.hideAll_none (trk h H) hm
   rw[z]at e;cases e
def GZ (g h:Heap) (L:Addr):List (Addr×Obj):=(zaa h.objs.size).filterMap λa=>if a=L\/(g.get? a).isSome=true then none else (h.get? a).map λo=>(a,o)
def rest (g h:Heap) (L d:Addr):List (Addr×Obj):=(GZ g h L).filter λp=>decide (p.1≠d)
structure Mod (K:PySem.W.Frag) (mg:Str->Option Value) (base:Heap):Prop where
 kin:K.In base
 glob:base.Ns mainGlobals mg
 blt:∃mb,base.Ns builtinsNs mb/\∀x:Str,x≠"__name__"->mb x=bootBuiltins x
 nolimit:base.NoLimit
structure Cx where
 prog:Program
 w:World
 K:PySem.W.Frag
 mg:Str->Option Value
 base:Heap
 A:Around
 N:List Str
 s₀:Shared
 H₀:Hp
 env:Env
 outer:List Env
 stack:List Env
 ex:List Addr
 fn:Str->Bool
 calm:Bool
 pn:List (Addr×Obj)
 xe:Value->Shared->Prop
def XG (l:List Env):List Addr:=l.filterMap (·.frame)
abbrev Cx.fs (X:Cx):List Addr:=XG X.outer
def Mi (sc:Scope) (x:Str):Prop:=sc.names.lookup x=some .local\/sc.names.lookup x=some .cell\/sc.names.lookup x=some .free
def N9 (sc:Scope) (x:Str):Prop:=sc.names.lookup x=some .local\/sc.names.lookup x=some .cell
def qbD (env:Env) (h:Heap) (m:Str->Option Value) (x:Str) (u:Value):Prop:=
 (env.kindOf x=some .local/\m x=some u)\/((env.kindOf x=some .cell\/env.kindOf x=some .free)/\∃c,env.cells.lookup x=some c/\h.IsCell c (some u))
structure Cx.Ok (X:Cx):Prop where
 mod:Mod X.K X.mg X.base
 kind:X.env.scope.kind=.function
 glob:X.env.globals=mainGlobals
 blt:X.env.builtins=builtinsNs
 above:X.s₀.heap.objs.size<=X.env.locals
 inj:∀x y c,X.env.cells.lookup x=some c->X.env.cells.lookup y=some c->x=y
 has:∀x,(X.env.kindOf x=some .cell\/X.env.kindOf x=some .free)->∃c,X.env.cells.lookup x=some c
 cab:∀x c,X.fn x=true->X.env.cells.lookup x=some c->X.s₀.heap.objs.size<=c
 hd:X.calm=true->X.A.handled=none
 frames:X.A.frames=some X.stack
 stk:X.stack=X.outer\/(X.stack=X.env::X.outer/\X.env.frame=some X.env.locals)
 exf:∀b∈X.ex,b≠X.env.locals/\∀x c,X.env.cells.lookup x=some c->c≠b
 bs:∀b o,X.base.get? b=some o->X.s₀.heap.get? b=some o/\X.H₀ b=none
 bsz:X.base.objs.size<=X.s₀.heap.objs.size
 noex:∀b o,X.base.get? b=some o->b∉X.ex
 exfs:∀b∈X.ex,b∉X.fs
 funs:X.s₀.heap.FunFrames X.base X.outer
 frf:∀b∈X.fs,X.H₀ b=none
structure qF (X:Cx) (pins:List (Addr×Obj)) (σ:List (Option V)) (H:Hp) (s:Shared):Prop where
 ok:X.Ok
 os:s.os=X.s₀.os
 bare:AllBare s.gens
 base:Un X.fs X.ex X.H₀ H X.s₀.heap s.heap
 loc:∃m,s.heap.Ns X.env.locals m/\∀(i:Nat) (x:Str) (v:V),X.N[i]?=some x->σ[i]?=some (some v)->Mi X.env.scope x->∃u,qP v u/\qbD X.env s.heap m x u
 cell:∀x c,X.env.cells.lookup x=some c->∃v,s.heap.IsCell c v
 free:H X.env.locals=none
 freeC:∀x c,X.env.cells.lookup x=some c->H c=none\/(X.fn x=false/\∃o,H c=some (.frz o (.frz o (.own 0))))
 pin:∀p∈X.pn++pins,s.heap.get? p.1=some p.2/\H p.1=none/\p.1≠X.env.locals/\p.1∉X.fs/\∀v,p.2.data≠.cell v
 hok:J5 X.prog X.w H s.heap
 len:σ.length=X.N.length
section
variable {X:Cx} {pins:List (Addr×Obj)} {σ:List (Option V)} {H H':Hp} {s:Shared} {h':Heap}
theorem Cx.Ok.nofr (ok:X.Ok) {b:Addr} {o:Obj} (e:X.base.get? b=some o):b∉X.fs:=λhb=>by
 have:=(ok.funs.mem hb).1
 rw[e]at this;cases this
theorem qF.bs (I:qF X pins σ H s):∀b o,X.base.get? b=some o->s.heap.get? b=some o/\H b=none:=λb o e=>
 ⟨I.base.keep b o (I.ok.bs b o e).1 (I.ok.bs b o e).2 (I.ok.nofr e) (I.ok.noex b o e),I.base.free b o (I.ok.bs b o e).1 (I.ok.bs b o e).2 (I.ok.noex b o e)⟩
theorem qF.bk (I:qF X pins σ H s):∀b o,X.base.get? b=some o->s.heap.get? b=some o:=λb o e=>(I.bs b o e).1
theorem qF.mod (I:qF X pins σ H s):Mod X.K X.mg X.base:=I.ok.mod
theorem qF.kIn (I:qF X pins σ H s):X.K.In s.heap:=I.ok.mod.kin.keeps I.bk
theorem qF.lt (I:qF X pins σ H s):X.env.locals < s.heap.objs.size:=let ⟨_,hn,_⟩:=I.loc;hn.lt
theorem qF.sz (I:qF X pins σ H s):X.s₀.heap.objs.size<=s.heap.objs.size:=zac I.ok.above (zag I.lt)
theorem qF.nofs (I:qF X pins σ H s) {a:Addr} (h:s.heap.objs.size<=a):a∉X.fs:=λhb=>by
 obtain⟨_,o,ho,_⟩:=I.ok.funs.mem hb
 exact absurd (tP (tM ho) (zac I.sz h)) (zar _)
theorem qF.cne (I:qF X pins σ H s):∀x c,X.env.cells.lookup x=some c->c≠X.env.locals:=λx c e z=>by
 obtain⟨v,o,ho,hd⟩:=I.cell x c e
 obtain⟨m,⟨o',es,ep,ho',hd',_⟩,_⟩:=I.loc
 rw[z,ho']at ho;cases ho;rw[hd']at hd;cases hd
theorem qF.funs (I:qF X pins σ H s):s.heap.FunFrames X.base X.outer:=by
 have all:∀(l:List Env),(∀b∈XG l,b∈X.fs)->X.s₀.heap.FunFrames X.base l->s.heap.FunFrames X.base l:=by
   intro l
   induction l with
   | nil=>intro _ _;trivial
   | cons env r ih=>
     intro hs hl
     obtain⟨hk,⟨L,o,hf,hn,ho,hd⟩,hr⟩:=hl
     have hL:L∈X.fs:=hs L (by unfold XG;rw[zao,hf];exact t9)
     obtain⟨sl,e⟩:=I.base.slot L o ho (I.ok.frf L hL) hL λz=>I.ok.exfs L z hL
     exact⟨hk,⟨L,_,hf,hn,e,hd⟩,ih (λb hb=>hs b (by unfold XG;rw[zao,hf];exact tZ _ hb)) hr⟩
 exact all X.outer (λ_ hb=>hb) I.ok.funs
theorem qF.stack (I:qF X pins σ H s):s.heap.FunFrames X.base X.stack:=by
 rcases I.ok.stk with e | ⟨e,hf⟩
 . rw[e];exact I.funs
 . rw[e]
   obtain⟨m,hn,_⟩:=I.loc
   refine .cons (by rw[I.ok.kind];decide) hf hn ?_ I.funs
   exact zcB (zac I.ok.bsz I.ok.above)
theorem qF.stkSub (I:qF X pins σ H s):∀b∈XG X.stack,b∈X.env.locals::X.fs:=λb hb=>by
 rcases I.ok.stk with e | ⟨e,hf⟩
 . rw[e]at hb;exact tZ _ hb
 . rw[e]at hb
   unfold XG at hb
   rw[zao,hf]at hb
   exact hb
theorem qF.stkFree (I:qF X pins σ H s):∀b∈XG X.stack,H b=none:=λb hb=>by
 rcases tY.mp (I.stkSub b hb) with e | hb
 . rw[e];exact I.free
 . obtain⟨_,o,ho,_⟩:=I.ok.funs.mem hb
   exact I.base.free b o ho (I.ok.frf b hb) λz=>I.ok.exfs b z hb
theorem qF.step {g':Array GenState} {t':Nat} {d':Drawn} {ch:List Addr} (I:qF X pins σ H s)
   (hch:∀b∈ch,(b∈X.ex\/X.s₀.heap.objs.size<=b)/\b≠X.env.locals/\(∀x c,X.env.cells.lookup x=some c->c≠b)/\∀p∈X.pn++pins,p.1≠b)
   (keep:∀b o,b≠X.env.locals->b∉X.fs->b∉ch->s.heap.get? b=some o->H b=none->h'.get? b=some o)
   (slot:∀b o,b≠X.env.locals->b∈X.fs->b∉ch->s.heap.get? b=some o->H b=none->∃sl,h'.get? b=some {o with slots:=sl}) (free:∀b o,b∉ch->s.heap.get? b=some o->H b=none->H' b=none)
   (there:∀b o,b∉ch->s.heap.get? b=some o->∃o',h'.get? b=some o')
   (tups:∀b xs,H b=some (.tup xs)->H' b=some (.tup xs)) (frzs:∀b o u,H b=some (.frz o u)->H' b=some (.frz o u)) (tbls:∀b ps,H b=some (.tbl ps)->∃more,H' b=some (.tbl (ps++more)))
   (ns:∀m,s.heap.Ns X.env.locals m->h'.Ns X.env.locals m) (hok:J5 X.prog X.w H' h') (hg:AllBare g'):
   qF X pins σ H' {s with heap:=h',gens:=g',drawn:=d',toks:=t'}:=by
 have neL:∀b o,X.s₀.heap.get? b=some o->b≠X.env.locals:=λb o e=>tV (tP (tM e) I.ok.above)
 have neC:∀b o,X.s₀.heap.get? b=some o->b∉X.ex->b∉ch:=λb o e hx hb=>by
   rcases(hch b hb).1 with z | z
   . exact hx z
   . exact absurd (tP (tM e) z) (zar _)
 have cellK:∀x c,X.env.cells.lookup x=some c->∀v,s.heap.IsCell c v->h'.IsCell c v:=λx c e v ⟨o,ho,hd⟩=>by
   have nch:c∉ch:=λz=>(hch c z).2.2.1 x c e rfl
   rcases I.freeC x c e with fc | ⟨_,oc,fc⟩
   . by_cases hc:c∈X.fs
     . obtain⟨sl,q⟩:=slot c o (I.cne x c e) hc nch ho fc
       exact⟨_,q,hd⟩
     . exact⟨o,keep c o (I.cne x c e) hc nch ho fc,hd⟩
   . obtain⟨e1,_⟩:=(show qS X.prog X.w H s.heap c (.frz oc (.frz oc (.own 0))) from I.hok c _ fc)
     obtain⟨e2,_⟩:=(show qS X.prog X.w H' h' c (.frz oc (.frz oc (.own 0))) from hok c _ (frzs c oc _ fc))
     rw[ho]at e1
     cases e1
     exact⟨o,e2,hd⟩
 refine⟨I.ok,I.os,hg,⟨λb o e n hb hx=>?_,λb o e n hb hx=>?_,λb o e n hx=>?_,λb o e hx=>?_,λb xs e=>tups b xs (I.base.tups b xs e),λb o xs e=>frzs b o xs (I.base.frzs b o xs e),λb ps e=>?_⟩,?_,λx c e=>?_,?_,λx c e=>?_,λp hp=>?_,hok,I.len⟩
 . exact keep b o (neL b o e) hb (neC b o e hx) (I.base.keep b o e n hb hx) (I.base.free b o e n hx)
 . obtain⟨sl,e1⟩:=I.base.slot b o e n hb hx
   obtain⟨sl',e2⟩:=slot b _ (neL b o e) hb (neC b o e hx) e1 (I.base.free b o e n hx)
   exact⟨sl',e2⟩
 . obtain⟨o',e1⟩:=I.base.there b o e hx
   exact free b o' (neC b o e hx) e1 (I.base.free b o e n hx)
 . obtain⟨o',e1⟩:=I.base.there b o e hx
   exact there b o' (neC b o e hx) e1
 . obtain⟨m1,e1⟩:=I.base.tbls b ps e
   obtain⟨m2,e2⟩:=tbls b _ e1
   exact⟨m1++m2,by rw[e2,Array.append_assoc]⟩
 . obtain⟨m,hn,hl⟩:=I.loc
   refine⟨m,ns m hn,λi x v e1 e2 e3=>?_⟩
   obtain⟨u,r,l⟩:=hl i x v e1 e2 e3
   refine⟨u,r,?_⟩
   rcases l with l | ⟨k,c,e,z⟩
   . exact .inl l
   . exact .inr ⟨k,c,e,cellK x c e _ z⟩
 . obtain⟨v,z⟩:=I.cell x c e
   exact⟨v,cellK x c e v z⟩
 . obtain⟨m,⟨o,_,_,ho,_⟩,_⟩:=I.loc
   exact free _ o (λz=>(hch _ z).2.1 rfl) ho I.free
 . obtain⟨v,o,ho,hd⟩:=I.cell x c e
   rcases I.freeC x c e with fc | ⟨fx,oc,fc⟩
   . exact .inl (free c o (λz=>(hch c z).2.2.1 x c e rfl) ho fc)
   . exact .inr ⟨fx,oc,frzs c oc _ fc⟩
 . obtain⟨e,n,ne,nf,d⟩:=I.pin p hp
   have nch:p.1∉ch:=λz=>(hch p.1 z).2.2.2 p hp rfl
   exact⟨keep p.1 p.2 ne nf nch e n,free p.1 p.2 nch e n,ne,nf,d⟩
theorem qF.un {t':Nat} (I:qF X pins σ H s) (u:Un X.fs [] H H' s.heap h') (hok:J5 X.prog X.w H' h'):qF X pins σ H' {s with heap:=h',toks:=t'}:=by
 obtain⟨m,⟨o,es,ep,ho,r⟩,_⟩:=id I.loc
 obtain⟨sl,hL⟩:=u.any ho I.free (by simp)
 exact I.step (g':=s.gens) (d':=s.drawn) (ch:=[]) (λ_ z=>nomatch z) (λb o _ hb _ e n=>u.keep b o e n hb (by simp)) (λb o _ hb _ e n=>u.slot b o e n hb (by simp)) (λb o _ e n=>u.free b o e n (by simp)) (λb o _ e=>u.there b o e (by simp)) u.tups u.frzs u.tbls (λm' hm=>by
   obtain⟨o',es',ep',ho',r'⟩:=hm
   rw[ho]at ho';cases ho'
   exact⟨_,es',ep',hL,r'⟩) hok I.bare
theorem qF.call {g':Array GenState} {t':Nat} {d':Drawn} {ch:List Addr} (I:qF X pins σ H s) (u:Un (XG X.stack) ch H H' s.heap h') (hok:J5 X.prog X.w H' h') (hg:AllBare g')
   (hch:∀b∈ch,(b∈X.ex\/X.s₀.heap.objs.size<=b)/\b≠X.env.locals/\(∀x c,X.env.cells.lookup x=some c->c≠b)/\∀p∈X.pn++pins,p.1≠b):
   qF X pins σ H' {s with heap:=h',gens:=g',drawn:=d',toks:=t'}:=by
 obtain⟨m,⟨o,es,ep,ho,r⟩,_⟩:=id I.loc
 obtain⟨sl,hL⟩:=u.any ho I.free λz=>(hch _ z).2.1 rfl
 exact I.step (ch:=ch) hch (λb o hL hb hc e n=>u.keep b o e n (λz=>(tY.mp (I.stkSub b z)).elim hL hb) hc) (λb o _ _ hc e n=>u.any e n hc) (λb o hc e n=>u.free b o e n hc) (λb o hc e=>u.there b o e hc) u.tups u.frzs u.tbls (λm' hm=>by
   obtain⟨o',es',ep',ho',r'⟩:=hm
   rw[ho]at ho';cases ho'
   exact⟨_,es',ep',hL,r'⟩) hok hg
theorem qF.turned {t':Nat} {it:Addr} (I:qF X pins σ H s) (k:∀b o,b≠it->s.heap.get? b=some o->h'.get? b=some o) (hn:H it=none) (hL:it≠X.env.locals)
   (h1:it∈X.ex\/X.s₀.heap.objs.size<=it) (h2:∀x c,X.env.cells.lookup x=some c->c≠it) (h3:∀p∈X.pn++pins,p.1≠it):qF X pins σ H {s with heap:=h',toks:=t'}:=by
 have nit:∀b u,H b=some u->b≠it:=λb u e z=>by rw[z,hn]at e;cases e
 refine I.step (g':=s.gens) (d':=s.drawn) (ch:=[it]) (λb hb=>?_) (λb o _ _ hc e _=>k b o (λz=>hc (by simp [z])) e) (λb o _ _ hc e _=>⟨o.slots,k b o (λz=>hc (by simp [z])) e⟩) (λ_ _ _ _ n=>n)
   (λb o hc e=>⟨o,k b o (λz=>hc (by simp [z])) e⟩) (λ_ _ e=>e) (λ_ _ _ e=>e) (λb ps e=>⟨#[],by rw[e];simp⟩) (λm hm=>?_) (λb u e=>?_) I.bare
 . have e:b=it:=by simpa using hb
   subst e
   exact⟨h1,hL,h2,h3⟩
 . obtain⟨o,es,ep,ho,r⟩:=hm
   exact⟨o,es,ep,k _ o (Ne.symm hL) ho,r⟩
 . refine(I.hok b u e).stay (λc v hc q=>k c v ?_ q) (λ_ q=>q) λ_ _ q=>q
   rcases hc with z | z
   . rw[z];exact nit b u e
   . exact nit c _ z
theorem qF.tok (I:qF X pins σ H s) (t:Nat):qF X pins σ H {s with toks:=t}:=I.un (h':=s.heap) (t':=t) Un.refl I.hok
theorem qF.kept {t':Nat} (I:qF X pins σ H s) (k:∀b u,s.heap.get? b=some u->h'.get? b=some u):qF X pins σ H {s with heap:=h',toks:=t'}:=I.un (Un.kept k) (I.hok.kept k)
theorem qF.laid {a:Addr} {o:HO} {t':Nat} (I:qF X pins σ H s) (k:∀b u,s.heap.get? b=some u->h'.get? b=some u) (hp:s.heap.objs.size<=a) (new:qS X.prog X.w (upd H a o) h' a o):
   qF X pins σ (upd H a o) {s with heap:=h',toks:=t'}:=I.un (Un.laid k hp (I.hok.fresh hp)) (I.hok.laid k hp new)
theorem qF.write {x e:Addr} {o:HO} {t':Nat} (I:qF X pins σ H s) (mu:N8 (H x)) (he:e=x\/H e=some (.own x)) (k:∀b u,b≠e->s.heap.get? b=some u->h'.get? b=some u) (heo:∃u,h'.get? e=some u)
   (new:qS X.prog X.w (upd H x o) h' x o):qF X pins σ (upd H x o) {s with heap:=h',toks:=t'}:=I.un (Un.write mu he k heo) (I.hok.write mu he k heo new)
theorem qF.pins_of {pins':List (Addr×Obj)} (I:qF X pins σ H s) (h:∀p∈pins',s.heap.get? p.1=some p.2/\H p.1=none/\p.1≠X.env.locals/\p.1∉X.fs/\∀v,p.2.data≠.cell v):qF X pins' σ H s:=
 ⟨I.ok,I.os,I.bare,I.base,I.loc,I.cell,I.free,I.freeC,λp hp=>(tX.mp hp).elim (λz=>I.pin p (zak _ z)) (h p),I.hok,I.len⟩
theorem VM {N:List Str} (hN:N.Nodup) {i j:Nat} {x:Str} (a:N[i]?=some x) (b:N[j]?=some x):i=j:=by
 obtain⟨h1,e1⟩:=tw.mp a
 obtain⟨h2,e2⟩:=tw.mp b
 exact(List.getElem_inj hN).mp (e1.trans e2.symm)
theorem XX {M:Model} {A:Around} {E:Value->Shared->Prop} {i:Nat} {x:Str} {v:V} {u:Value} {Q:Unit->Shared->Prop} (I:qF X pins σ H s) (hN:X.N.Nodup) (hi:X.N[i]?=some x) (hx:N9 X.env.scope x) (r:qP v u)
   (h:∀s',qF X pins (σ.set i (some v)) H s'->(∃a,Heap.SameBut a s.heap s'.heap/\(a=X.env.locals\/X.env.cells.lookup x=some a))->Q () s') (hf:X.fn x=true\/X.env.scope.names.lookup x=some .local:=by first | exact .inl rfl | exact .inr rfl | assumption):wpAny M A (storeName X.env x u) Q E s:=by
 obtain⟨m,hn,hl⟩:=id I.loc
 have hcls:(X.env.scope.kind==.class || (X.env.scope.kind==.module&&X.env.locals != X.env.globals))=false:=by rw[I.ok.kind];rfl
 have hiσ:i < σ.length:=by rw[I.len];exact(tw.mp hi).1
 have cne:=I.cne
 have tracked:∀{a:Addr} {h':Heap},(∃o,s.heap.get? a=some o/\H a=none)->Heap.SameBut a s.heap h'->J5 X.prog X.w H h':=λ{a h'} ha hs b ob e=>by
   obtain⟨_,_,hfree⟩:=ha
   refine(I.hok b ob e).stay (λc w' hc q=>(hs.2 c ?_).trans q) (λ_ q=>q) λ_ _ q=>q
   rintro rfl
   rcases hc with rfl | hc
   . rw[hfree]at e;cases e
   . rw[hfree]at hc;cases hc
 rcases hx with hk | hk
 . refine wpAny_storeName_local hk hn (λh' hn' hs=>?_) hcls
   obtain⟨oL,_,_,hoL,_⟩:=id hn
   refine h _ ⟨I.ok,I.os,I.bare,⟨λb o e n hb hx=>?_,λb o e n hb hx=>?_,I.base.free,λb o e hx=>?_,I.base.tups,I.base.frzs,I.base.tbls⟩,⟨_,hn',λj y v' e1 e2 e3=>?_⟩,λy c e=>?_,I.free,I.freeC,λp hp=>?_,tracked ⟨oL,hoL,I.free⟩ hs,by simpa using I.len⟩ ⟨_,hs,.inl rfl⟩
   . exact(hs.2 b (tV (tP (tM e) I.ok.above))).trans (I.base.keep b o e n hb hx)
   . obtain⟨sl,e1⟩:=I.base.slot b o e n hb hx
     exact⟨sl,(hs.2 b (tV (tP (tM e) I.ok.above))).trans e1⟩
   . obtain⟨o',e1⟩:=I.base.there b o e hx
     exact⟨o',(hs.2 b (tV (tP (tM e) I.ok.above))).trans e1⟩
   . by_cases hj:j=i
     . subst hj
       rw[hi]at e1;cases e1
       rw[zdj hiσ]at e2
       cases e2
       exact⟨u,r,.inl ⟨hk,by simp⟩⟩
     . rw[zdt (Ne.symm hj)]at e2
       obtain⟨u',r',q⟩:=hl j y v' e1 e2 e3
       refine⟨u',r',?_⟩
       rcases q with ⟨k,e⟩ | ⟨k,c,e,z⟩
       . refine .inl ⟨k,?_⟩
         have:y≠x:=λe=>hj (VM hN e1 (e▸hi))
         simp [this,e]
       . exact .inr ⟨k,c,e,z.sameBut hs (cne y c e)⟩
   . obtain⟨w',z⟩:=I.cell y c e
     exact⟨w',z.sameBut hs (cne y c e)⟩
   . obtain⟨e,n,ne,nf,d⟩:=I.pin p hp
     exact⟨(hs.2 p.1 ne).trans e,n,ne,nf,d⟩
 . have hfn:X.fn x=true:=by
     rcases hf with z | z
     . exact z
     . rw[z]at hk;cases hk
   obtain⟨c,hc⟩:=I.ok.has x (.inl hk)
   obtain⟨w',z⟩:=I.cell x c hc
   refine wpAny_storeName_cell I.ok.kind hk hc z (λh' hc' hs=>?_)
   obtain⟨oc,hoc,hocd⟩:=id z
   have fcn:H c=none:=(I.freeC x c hc).elim id λz=>by rw[hfn]at z;cases z.1
   refine h {s with heap:=h'} ⟨I.ok,I.os,I.bare,⟨λb o e n hb hx=>?_,λb o e n hb hx=>?_,I.base.free,λb o e hx=>?_,I.base.tups,I.base.frzs,I.base.tbls⟩,⟨m,hn.sameBut hs (Ne.symm (cne x c hc)),λj y v' e1 e2 e3=>?_⟩,λy c' e=>?_,I.free,I.freeC,λp hp=>?_,tracked ⟨oc,hoc,fcn⟩ hs,by simpa using I.len⟩ ⟨c,hs,.inr hc⟩
   . exact(hs.2 b (tV (tP (tM e) (I.ok.cab x c hfn hc)))).trans (I.base.keep b o e n hb hx)
   . obtain⟨sl,e1⟩:=I.base.slot b o e n hb hx
     exact⟨sl,(hs.2 b (tV (tP (tM e) (I.ok.cab x c hfn hc)))).trans e1⟩
   . obtain⟨o',e1⟩:=I.base.there b o e hx
     exact⟨o',(hs.2 b (tV (tP (tM e) (I.ok.cab x c hfn hc)))).trans e1⟩
   . by_cases hj:j=i
     . subst hj
       rw[hi]at e1;cases e1
       rw[zdj hiσ]at e2
       cases e2
       exact⟨u,r,.inr ⟨.inl hk,c,hc,hc'⟩⟩
     . rw[zdt (Ne.symm hj)]at e2
       obtain⟨u',r',q⟩:=hl j y v' e1 e2 e3
       refine⟨u',r',?_⟩
       rcases q with q | ⟨k,c',e,z'⟩
       . exact .inl q
       . refine .inr ⟨k,c',e,z'.sameBut hs ?_⟩
         rintro rfl
         exact hj (VM hN e1 (I.ok.inj _ _ _ e hc▸hi))
   . by_cases hcc:c'=c
     . subst hcc;exact⟨_,hc'⟩
     . obtain⟨w2,z2⟩:=I.cell y c' e
       exact⟨w2,z2.sameBut hs hcc⟩
   . obtain⟨e,n,ne,nf,d⟩:=I.pin p hp
     refine⟨(hs.2 p.1 ?_).trans e,n,ne,nf,d⟩
     intro q
     rw[q,hoc]at e
     have q':oc=p.2:=tN.inj e
     exact d w' (by rw[<-q'];exact hocd)
theorem YR {M:Model} {A:Around} {E:Value->Shared->Prop} {i:Nat} {x:Str} {v:V} {u:Value} {Q:Unit->Shared->Prop} (I:qF X pins σ H s) (hN:X.N.Nodup) (hi:X.N[i]?=some x) (hx:N9 X.env.scope x) (r:qP v u)
   (h:∀s',qF X pins (σ.set i (some v)) H s'->Q () s') (hf:X.fn x=true\/X.env.scope.names.lookup x=some .local:=by first | exact .inl rfl | exact .inr rfl | assumption):wpAny M A (storeName X.env x u) Q E s:=
 XX I hN hi hx r (λs' I' _=>h s' I') hf
theorem qF.call' {s':Shared} {ch:List Addr} (I:qF X pins σ H s) (ho:s'.os=s.os) (u:Un (XG X.stack) ch H H' s.heap s'.heap) (hok:J5 X.prog X.w H' s'.heap) (hg:AllBare s'.gens)
   (hch:∀b∈ch,(b∈X.ex\/X.s₀.heap.objs.size<=b)/\b≠X.env.locals/\(∀x c,X.env.cells.lookup x=some c->c≠b)/\∀p∈X.pn++pins,p.1≠b):qF X pins σ H' s':=by
 obtain⟨h',g',d',t',o'⟩:=s'
 have e:o'=s.os:=ho
 subst e
 exact I.call (g':=g') (t':=t') (d':=d') u hok hg hch
end
abbrev XK:=Value->Option Addr->Hp->Prop
abbrev St:=List (Option V)
abbrev VK:=V->Hp->Prop
abbrev TE:=St->Hp->VK->Prop
abbrev TT:=St->Hp->(Bool->Hp->Prop)->Prop
abbrev TA:=St->Hp->(List V->Hp->Prop)->Prop
structure J6 where
 nx:St->Hp->Prop
 rt:VK
 bk:St->Hp->Prop:=λ_ _=>False
 ct:St->Hp->Prop:=λ_ _=>False
abbrev TS:=J6->St->Hp->Prop
def EP (X:Cx) (pins:List (Addr×Obj)) (σ:St) (Q:VK) (u:Value) (s':Shared):Prop:=∃v H',qF X pins σ H' s'/\qP v u/\Q v H'
def TP (X:Cx) (pins:List (Addr×Obj)) (σ:St) (Q:Bool->Hp->Prop) (b:Bool) (s':Shared):Prop:=∃H',qF X pins σ H' s'/\Q b H'
def AP (X:Cx) (pins:List (Addr×Obj)) (σ:St) (Q:List V->Hp->Prop) (us:List Value) (s':Shared):Prop:=∃vs H',qF X pins σ H' s'/\qI vs us/\Q vs H'
def SP (X:Cx) (pins:List (Addr×Obj)) (D:J6) (f:Flow) (s':Shared):Prop:=
 match f with
 | .next=>∃σ' H',qF X pins σ' H' s'/\D.nx σ' H'
 | .brk=>∃σ' H',qF X pins σ' H' s'/\D.bk σ' H'
 | .cont=>∃σ' H',qF X pins σ' H' s'/\D.ct σ' H'
 | .ret u=>∃v σ' H',qF X pins σ' H' s'/\qP v u/\D.rt v H'
def PE (X:Cx) (e:Expr) (t:TE):Prop:=
 ∀(pins:List (Addr×Obj)) (s:Shared) (σ:St) (H:Hp) (Q:VK),qF X pins σ H s->t σ H Q->wpAny (model X.prog X.w) X.A (eval e X.env) (EP X pins σ Q) X.xe s
@[irreducible] def JE (X:Cx) (e:Expr) (t:TE):Prop:=PE X e t
theorem JE.of {X:Cx} {e:Expr} {t:TE} (h:PE X e t):JE X e t:=by unfold JE;exact h
theorem JE.to {X:Cx} {e:Expr} {t:TE} (h:JE X e t):PE X e t:=by unfold JE at h;exact h
def PT (X:Cx) (e:Expr) (t:TT):Prop:=
 ∀(pins:List (Addr×Obj)) (s:Shared) (σ:St) (H:Hp) (Q:Bool->Hp->Prop),qF X pins σ H s->t σ H Q->wpAny (model X.prog X.w) X.A (isTrue e X.env (eval e X.env)) (TP X pins σ Q) X.xe s
@[irreducible] def JT (X:Cx) (e:Expr) (t:TT):Prop:=PT X e t
theorem JT.of {X:Cx} {e:Expr} {t:TT} (h:PT X e t):JT X e t:=by unfold JT;exact h
theorem JT.to {X:Cx} {e:Expr} {t:TT} (h:JT X e t):PT X e t:=by unfold JT at h;exact h
def PW (X:Cx) (e:Expr) (t:TT):Prop:=
 ∀(whole:Sem Value) (pins:List (Addr×Obj)) (s:Shared) (σ:St) (H:Hp) (Q:Bool->Hp->Prop),qF X pins σ H s->t σ H Q->wpAny (model X.prog X.w) X.A (isTrue e X.env whole) (TP X pins σ Q) X.xe s
theorem PW.pt {X:Cx} {e:Expr} {t:TT} (h:PW X e t):PT X e t:=h _
@[irreducible] def JW (X:Cx) (e:Expr) (t:TT):Prop:=PW X e t
theorem JW.of {X:Cx} {e:Expr} {t:TT} (h:PW X e t):JW X e t:=by unfold JW;exact h
theorem JW.to {X:Cx} {e:Expr} {t:TT} (h:JW X e t):PW X e t:=by unfold JW at h;exact h
theorem JW.pt {X:Cx} {e:Expr} {t:TT} (h:JW X e t):JT X e t:=.of h.to.pt
def PA (X:Cx) (es:List Expr) (t:TA):Prop:=
 ∀(pos:Pos) (pins:List (Addr×Obj)) (s:Shared) (σ:St) (H:Hp) (Q:List V->Hp->Prop),qF X pins σ H s->t σ H Q->wpAny (model X.prog X.w) X.A (spliced (backTo pos (starEach es X.env))) (AP X pins σ Q) X.xe s
@[irreducible] def JA (X:Cx) (es:List Expr) (t:TA):Prop:=PA X es t
theorem JA.of {X:Cx} {es:List Expr} {t:TA} (h:PA X es t):JA X es t:=by unfold JA;exact h
theorem JA.to {X:Cx} {es:List Expr} {t:TA} (h:JA X es t):PA X es t:=by unfold JA at h;exact h
def PS (X:Cx) (st:Stmt) (t:TS):Prop:=
 ∀(pins:List (Addr×Obj)) (s:Shared) (σ:St) (H:Hp) (D:J6),qF X pins σ H s->t D σ H->wpAny (model X.prog X.w) X.A (exec st X.env) (SP X pins D) X.xe s
@[irreducible] def JS (X:Cx) (st:Stmt) (t:TS):Prop:=PS X st t
theorem JS.of {X:Cx} {st:Stmt} {t:TS} (h:PS X st t):JS X st t:=by unfold JS;exact h
theorem JS.to {X:Cx} {st:Stmt} {t:TS} (h:JS X st t):PS X st t:=by unfold JS at h;exact h
def RH (X:Cx) (st:List Stmt) (t:TS):Prop:=
 ∀(pins:List (Addr×Obj)) (s:Shared) (σ:St) (H:Hp) (D:J6),qF X pins σ H s->t D σ H->wpAny (model X.prog X.w) X.A (execs st X.env) (SP X pins D) X.xe s
@[irreducible] def Vc (X:Cx) (st:List Stmt) (t:TS):Prop:=RH X st t
theorem Vc.of {X:Cx} {st:List Stmt} {t:TS} (h:RH X st t):Vc X st t:=by unfold Vc;exact h
theorem Vc.to {X:Cx} {st:List Stmt} {t:TS} (h:Vc X st t):RH X st t:=by unfold Vc at h;exact h
theorem jk {α:Type} {t:Sem α} {Q Q':α->Shared->Prop} {M:Model} {A:Around} {E:Value->Shared->Prop} {s:Shared} (h:wpAny M A t Q E s) (hQ:∀a s,Q a s->Q' a s):wpAny M A t Q' E s:=wpAny_mono h hQ λ_ _ x=>x
section
variable {X:Cx}
def jo (i:Nat):TE:=λσ H Q=>∃v,σ[i]?=some (some v)/\Q v H
def tC (v:V):TE:=λ_ H Q=>Q v H
theorem Nb {i:Nat} {x:Str} {pos:Pos} (hN:X.N[i]?=some x) (hv:Mi X.env.scope x) (hd:(x==("__debug__":Str))=false:=by decide) (hcd:(x==("__classdict__":Str))=false:=by decide):PE X (.Name x pos) (jo i):=by
 intro pins s σ H Q I h
 obtain⟨v,e,h⟩:=h
 obtain⟨m,hn,hl⟩:=I.loc
 obtain⟨u,r,l⟩:=hl i x v hN e hv
 have fin:EP X pins σ Q u s:=⟨v,H,I,r,h⟩
 rcases l with ⟨hk,hm⟩ | ⟨hk,c,hc,hcell⟩
 . exact wpAny_Name (wpAny_loadName_local I.ok.kind hk hn hm fin) hd
 . rcases hk with hk | hk
   . exact wpAny_Name (wpAny_loadName_cell I.ok.kind hk hc hcell fin) hd
   . exact wpAny_Name (wpAny_loadName_free I.ok.kind hk hc hcell fin hcd) hd
theorem qk {i j pos}:JE X (.Constant (.int i) j pos) (tC (.int i)):=.of (by
 exact λ_ _ _ H _ I h=>wpAny_Constant_int ⟨.int i,H,I.tok _,⟨_,rfl⟩,h⟩)
theorem Qe {b j pos}:JE X (.Constant (.bool b) j pos) (tC (.bl b)):=.of (by
 exact λ_ _ _ H _ I h=>Constant_bool ⟨.bl b,H,I,rfl,h⟩)
theorem UR {j pos}:JE X (.Constant .none j pos) (tC .non):=.of (by
 exact λ_ _ _ H _ I h=>Constant_none ⟨.non,H,I,rfl,h⟩)
theorem qR {x j pos}:JE X (.Constant (.str x) j pos) (tC (.str x)):=.of (by
 exact λ_ _ _ H _ I h=>Calls.Constant_str ⟨.str x,H,I.tok _,⟨_,rfl⟩,h⟩)
def Gl (X:Cx) (x:Str):Prop:=X.env.kindOf x=some .globalImplicit
theorem YE {E:Value->Shared->Prop} {pins:List (Addr×Obj)} {s:Shared} {σ:St} {H:Hp} {x:Str} {u:Value} {pos:Pos} {Q:Value->Shared->Prop} (I:qF X pins σ H s) (hg:Gl X x) (hm:X.mg x=some u) (h:Q u s)
   (hd:(x==("__debug__":Str))=false:=by decide):wpAny (model X.prog X.w) X.A (eval (.Name x pos) X.env) Q E s:=
 Calls.Name_function_global I.ok.kind hg (Calls.loadGlobal_global (by rw[I.ok.glob];exact I.mod.glob.keeps I.bk) hm h) hd
theorem QW {E:Value->Shared->Prop} {pins:List (Addr×Obj)} {s:Shared} {σ:St} {H:Hp} {x:Str} {u:Value} {pos:Pos} {Q:Value->Shared->Prop} (I:qF X pins σ H s) (hg:Gl X x) (hm:X.mg x=none) (hv:bootBuiltins x=some u) (h:Q u s)
   (hn:x≠"__name__":=by decide) (hd:(x==("__debug__":Str))=false:=by decide):wpAny (model X.prog X.w) X.A (eval (.Name x pos) X.env) Q E s:=by
 obtain⟨mb,h1,h2⟩:=I.mod.blt
 exact Calls.Name_function_global I.ok.kind hg (Calls.loadGlobal_builtin (by rw[I.ok.glob];exact I.mod.glob.keeps I.bk) hm (by rw[I.ok.blt];exact h1.keeps I.bk) ((h2 x hn).trans hv) h) hd
theorem JU {x:Str} {v:V} {u:Value} {pos:Pos} (hg:Gl X x) (hm:X.mg x=some u) (r:qP v u) (hd:(x==("__debug__":Str))=false:=by decide):JE X (.Name x pos) (tC v):=.of (by
 exact λ_ _ _ H _ I h=>YE I hg hm ⟨v,H,I,r,h⟩ hd)
theorem JV {x:Str} {v:V} {u:Value} {pos:Pos} (hg:Gl X x) (hm:X.mg x=none) (hv:bootBuiltins x=some u) (r:qP v u) (hn:x≠"__name__":=by decide) (hd:(x==("__debug__":Str))=false:=by decide):JE X (.Name x pos) (tC v):=.of (by
 exact λ_ _ _ H _ I h=>QW I hg hm hv ⟨v,H,I,r,h⟩ hn hd)
variable {a b:Expr} {ta tb:TE} {pos:Pos}
def PC (X:Cx) (op:CmpOp) (a b:Expr) (t:TE):Prop:=
 ∀(pins:List (Addr×Obj)) (s:Shared) (σ:St) (H:Hp) (Q:VK),qF X pins σ H s->t σ H Q->
   wpAny (model X.prog X.w) X.A (eval a X.env) (λv s₁=>wpAny (model X.prog X.w) X.A (eval b X.env) (λu s₂=>wpAny (model X.prog X.w) X.A (compareOp op v u) (EP X pins σ Q) X.xe s₂) X.xe s₁) X.xe s
@[irreducible] def JC (X:Cx) (op:CmpOp) (a b:Expr) (t:TE):Prop:=PC X op a b t
theorem JC.of {X:Cx} {op:CmpOp} {a b:Expr} {t:TE} (h:PC X op a b t):JC X op a b t:=by unfold JC;exact h
theorem JC.to {X:Cx} {op:CmpOp} {a b:Expr} {t:TE} (h:JC X op a b t):PC X op a b t:=by unfold JC at h;exact h
def tB (t:TE):TT:=λσ H Q=>t σ H λx H1=>∃c,x=.bl c/\Q c H1
theorem Ql {op:CmpOp} {t:TE} (h:JC X op a b t) (h1:behindInMarks op b=false:=by first | exact nobehind _ (by decide) (by decide) | rfl):JT X (.Compare a [op] [b] pos) (tB t):=.of (by
 have h:=h.to
 intro pins s σ H Q I hw
 refine wpAny_isTrue_Compare1 (jk (h pins s σ H _ I hw) λv s1 h1=>jk h1 λu s2 h2=>jk h2 λc s3 ⟨x,H1,I1,r1,q1⟩=>?_) h1
 obtain⟨d,rfl,q⟩:=q1
 cases r1
 exact wpAny_truthy_bool ⟨H1,I1,q⟩)
theorem j2 {e:Expr} {t:TE} (h:JE X e t) (he:∀whole,isTrue e X.env whole=(do let v <-whole;standAt e.pos;holding [v] (truthy v)):=by intro _;rfl):JT X e (tB t):=.of (by
 have h:=h.to
 intro pins s σ H Q I hw
 refine isTrue_plain (jk (h pins s σ H _ I hw) λv s1 ⟨x,H1,I1,r1,q1⟩=>?_) (he _)
 obtain⟨d,rfl,q⟩:=q1
 cases r1
 exact wpAny_truthy_bool ⟨H1,I1,q⟩)
variable {tA tB':TT} {rest:List Expr}
def Mz (t u:TT):TT:=λσ H Q=>t σ H λc H1=>if c=true then u σ H1 Q else Q false H1
def tOr (t u:TT):TT:=λσ H Q=>t σ H λc H1=>if c=true then Q true H1 else u σ H1 Q
def qaS (t:TT):TT:=λσ H Q=>t σ H λc H1=>Q (!c) H1
theorem jK (ha:JT X a tA):JW X (.BoolOp .And [a] pos) tA:=.of (by
 have ha:=ha.to
 intro wh pins s σ H Q I h
 refine isTrue_and (jk (ha pins s σ H Q I h) λc s1 e=>?_)
 cases c with
 | true=>exact isTrue_and_nil e
 | false=>exact e)
theorem JM (ha:JT X a tA):JW X (.BoolOp .Or [a] pos) tA:=.of (by
 have ha:=ha.to
 intro wh pins s σ H Q I h
 refine isTrue_or (jk (ha pins s σ H Q I h) λc s1 e=>?_)
 cases c with
 | false=>exact isTrue_or_nil e
 | true=>exact e)
theorem j1 (ha:JT X a tA) (hb:JW X (.BoolOp .And (b::rest) pos) tB'):JW X (.BoolOp .And (a::b::rest) pos) (Mz tA tB'):=.of (by
 have ha:=ha.to
 have hb:=hb.to
 intro wh pins s σ H Q I h
 refine isTrue_and (jk (ha pins s σ H _ I h) λc s1 ⟨H1,I1,q1⟩=>?_)
 cases c with
 | true=>exact hb wh pins s1 σ H1 Q I1 q1
 | false=>exact⟨H1,I1,q1⟩)
theorem zk (ha:JT X a tA) (hb:JW X (.BoolOp .Or (b::rest) pos) tB'):JW X (.BoolOp .Or (a::b::rest) pos) (tOr tA tB'):=.of (by
 have ha:=ha.to
 have hb:=hb.to
 intro wh pins s σ H Q I h
 refine isTrue_or (jk (ha pins s σ H _ I h) λc s1 ⟨H1,I1,q1⟩=>?_)
 cases c with
 | true=>exact⟨H1,I1,q1⟩
 | false=>exact hb wh pins s1 σ H1 Q I1 q1)
theorem Ji (ha:JT X a tA):JT X (.UnaryOp .Not a pos) (qaS tA):=.of (by
 have ha:=ha.to
 intro pins s σ H Q I h
 exact isTrue_not (ha pins s σ H (λc H1=>Q (!c) H1) I h))
def My (ta tb:TE):TE:=λσ H Q=>ta σ H λx H1=>∃c,x=.bl c/\if c=true then tb σ H1 Q else Q (.bl false) H1
def Mr (ta:TE):TE:=λσ H Q=>ta σ H λx H1=>∃c,x=.bl c/\Q (.bl (!c)) H1
theorem Xo {op} {t:TE} (h:JE X a t):JE X (.BoolOp op [a] pos) t:=.of (by
 have h:=h.to
 exact λpins s σ H Q I hw=>BoolOp_one (h pins s σ H Q I hw))
theorem ZV (ha:JE X a ta) (hb:JE X (.BoolOp .And (b::rest) pos) tb):JE X (.BoolOp .And (a::b::rest) pos) (My ta tb):=.of (by
 have ha:=ha.to
 have hb:=hb.to
 intro pins s σ H Q I h
 refine BoolOp_and (jk (ha pins s σ H _ I h) λv s1 ⟨x,H1,I1,r1,q1⟩=>?_)
 obtain⟨c,rfl,q1⟩:=q1
 cases r1
 refine wpAny_truthy_bool ?_
 cases c with
 | true=>exact hb pins s1 σ H1 Q I1 q1
 | false=>exact⟨.bl false,H1,I1,rfl,q1⟩)
theorem NP (ha:JE X a ta):JE X (.UnaryOp .Not a pos) (Mr ta):=.of (by
 have ha:=ha.to
 intro pins s σ H Q I h
 refine UnaryOp_ (jk (ha pins s σ H _ I h) λv s1 ⟨x,H1,I1,r1,q1⟩=>?_)
 obtain⟨c,rfl,q1⟩:=q1
 cases r1
 exact not_of (wpAny_truthy_bool ⟨.bl (!c),H1,I1,rfl,q1⟩))
end
def SqL (K:PySem.W.Frag) (H:Hp) (a:Addr) (xs:List V):Prop:=
 Rd H a (.lst xs)\/
   ∃(o:Obj) (its:Array Value) (n:Nat),K.lookup a=some o/\o.cls=.type "list"/\o.dict=none/\o.data=.seq its n/\its.size<=sizeLine/\qI xs its.toList
def YM (K:PySem.W.Frag) (H:Hp) (a:Addr) (xs:List V):Prop:=
 Rd H a (.tup xs)\/
   ∃(o:Obj) (its:Array Value) (n:Nat),K.lookup a=some o/\o.cls=.type "tuple"/\o.data=.seq its n/\its.size<=sizeLine/\qI xs its.toList
def qby:Value->Option V
 | .none=>some .non
 | .bool b=>some (.bl b)
 | .int i _=>some (.int i)
 | .str x _=>some (.str x)
 | .bytes b _=>some (.byt b)
 | .float b _=>some (.flt b)
 | .ref a=>some (.ref a)
 | .type n=>some (.ty n)
 | _=>none
theorem qP.abs {x:V} {u:Value} (r:qP x u):qby u=some x:=by
 cases x with
 | non=>cases r;rfl
 | bl _=>cases r;rfl
 | int _=>obtain⟨t,rfl⟩:=r;rfl
 | str _=>obtain⟨t,rfl⟩:=r;rfl
 | byt _=>obtain⟨t,rfl⟩:=r;rfl
 | flt _=>obtain⟨t,rfl⟩:=r;rfl
 | ref _=>cases r;rfl
 | ty _=>cases r;rfl
theorem qP.inj {x y:V} {u:Value} (r:qP x u) (q:qP y u):x=y:=tN.inj (r.abs.symm.trans q.abs)
theorem qI.inj:∀{xs ys:List V} {us:List Value},qI xs us->qI ys us->xs=ys
 | _,_,_,.nil,.nil=>rfl
 | _,_,_,.cons r t,.cons r' t'=>by rw[r.inj r',qI.inj t t']
section
variable {X:Cx} {pins:List (Addr×Obj)} {σ:St} {H:Hp} {s:Shared} {a:Addr} {xs ys:List V}
theorem SqL.of {K:PySem.W.Frag} (h:H a=some (.lst xs)):SqL K H a xs:=.inl (.inl h)
theorem YM.of {K:PySem.W.Frag} (h:H a=some (.tup xs)):YM K H a xs:=.inl (.inl h)
theorem qF.list (I:qF X pins σ H s) (h:SqL X.K H a xs):∃its:List Value,qI xs its/\PlainL s.heap a its.toArray/\xs.length<=sizeLine:=by
 rcases h with h | ⟨o,its,n,hk,hc,hd,hs,hz,r⟩
 . obtain⟨z,its,n,r,e⟩:=h.ok I.hok
   exact⟨its,r,⟨_,n,e,rfl,rfl,rfl⟩,z⟩
 . refine⟨its.toList,r,⟨o,n,I.kIn a o hk,hc,hd,by simpa using hs⟩,?_⟩
   have e:=r.length
   simp only[zaB]at e
   omega
theorem qF.tuple (I:qF X pins σ H s) (h:YM X.K H a xs):∃its:List Value,qI xs its/\IsTup s.heap a its.toArray/\xs.length<=sizeLine:=by
 rcases h with h | ⟨o,its,n,hk,hc,hs,hz,r⟩
 . obtain⟨z,its,r,p⟩:=h.ok I.hok
   exact⟨its,r,p,z⟩
 . refine⟨its.toList,r,⟨o,I.kIn a o hk,hc,n,by simpa using hs⟩,?_⟩
   have e:=r.length
   simp only[zaB]at e
   omega
theorem qF.list_inj (I:qF X pins σ H s) (h:SqL X.K H a xs) (h':SqL X.K H a ys):xs=ys:=by
 obtain⟨its,r,⟨o,n,e,_,_,d⟩,_⟩:=I.list h
 obtain⟨its',r',⟨o',n',e',_,_,d'⟩,_⟩:=I.list h'
 rw[e]at e';cases e'
 rw[d]at d'
 injection d' with d1 _
 have:its=its':=by simpa using congrArg Array.toList d1
 subst this
 exact r.inj r'
theorem qF.tuple_inj (I:qF X pins σ H s) (h:YM X.K H a xs) (h':YM X.K H a ys):xs=ys:=by
 obtain⟨its,r,⟨o,e,_,n,d⟩,_⟩:=I.tuple h
 obtain⟨its',r',⟨o',e',_,n',d'⟩,_⟩:=I.tuple h'
 rw[e]at e';cases e'
 rw[d]at d'
 injection d' with d1 _
 have:its=its':=by simpa using congrArg Array.toList d1
 subst this
 exact r.inj r'
end
abbrev Cx.wish (X:Cx) (E:Value->Shared->Prop):Cx:={X with xe:=E}
abbrev Cx.nox (X:Cx):Cx:=X.wish λ_ _=>False
theorem Cx.Ok.wish {X:Cx} (ok:X.Ok) (E:Value->Shared->Prop):(X.wish E).Ok:=
 ⟨ok.mod,ok.kind,ok.glob,ok.blt,ok.above,ok.inj,ok.has,ok.cab,ok.hd,ok.frames,ok.stk,ok.exf,ok.bs,ok.bsz,ok.noex,ok.exfs,ok.funs,ok.frf⟩
theorem Cx.Ok.unwish {X:Cx} {E:Value->Shared->Prop} (ok:(X.wish E).Ok):X.Ok:=
 ⟨ok.mod,ok.kind,ok.glob,ok.blt,ok.above,ok.inj,ok.has,ok.cab,ok.hd,ok.frames,ok.stk,ok.exf,ok.bs,ok.bsz,ok.noex,ok.exfs,ok.funs,ok.frf⟩
section
variable {X:Cx} {pins:List (Addr×Obj)} {σ:St} {H:Hp} {s:Shared} {E:Value->Shared->Prop}
theorem qF.wish (I:qF X pins σ H s) (E:Value->Shared->Prop):qF (X.wish E) pins σ H s:=⟨I.ok.wish E,I.os,I.bare,I.base,I.loc,I.cell,I.free,I.freeC,I.pin,I.hok,I.len⟩
theorem qF.unwish (I:qF (X.wish E) pins σ H s):qF X pins σ H s:=⟨I.ok.unwish,I.os,I.bare,I.base,I.loc,I.cell,I.free,I.freeC,I.pin,I.hok,I.len⟩
theorem SP.unwish {D:J6} {f:Flow} {s':Shared} (h:SP (X.wish E) pins D f s'):SP X pins D f s':=by
 cases f with
 | next=>obtain⟨σ',H',I,q⟩:=h;exact⟨σ',H',I.unwish,q⟩
 | brk=>obtain⟨σ',H',I,q⟩:=h;exact⟨σ',H',I.unwish,q⟩
 | cont=>obtain⟨σ',H',I,q⟩:=h;exact⟨σ',H',I.unwish,q⟩
 | ret u=>obtain⟨v,σ',H',I,r,q⟩:=h;exact⟨v,σ',H',I.unwish,r,q⟩
theorem RH.nox {st:List Stmt} {t:TS} (h:RH X.nox st t):RH X st t:=λpins s σ H D I hw=>
 wpAny_mono (h pins s σ H D (I.wish _) hw) (λ_ _ q=>q.unwish) λ_ _ z=>False.elim z
end
section
variable {X:Cx} {st:Stmt} {rest:List Stmt} {t u:TS} {e:Expr} {te:TE} {pos:Pos}
def ve:TS:=λD σ H=>D.nx σ H
def RN (t u:TS):TS:=λD σ H=>t {D with nx:=u D} σ H
theorem qE:Vc X [] ve:=.of (by
 exact λ_ _ σ H _ I h=>wpAny_execs_nil ⟨σ,H,I,h⟩)
theorem qf (h1:JS X st t) (h2:Vc X rest u):Vc X (st::rest) (RN t u):=.of (by
 have h1:=h1.to
 have h2:=h2.to
 intro pins s σ H D I h
 refine wpAny_execs_cons (jk (h1 pins s σ H {D with nx:=u D} I h) λf s1 q=>?_)
 cases f with
 | next=>
   obtain⟨σ',H',I',q⟩:=q
   exact h2 pins s1 σ' H' D I' q
 | ret v=>exact q
 | brk=>exact q
 | cont=>exact q)
theorem qh (h1:JS X st t):Vc X [st] t:=.of (by
 have h1:=h1.to
 intro pins s σ H D I h
 refine wpAny_execs_cons (jk (h1 pins s σ H D I h) λf s1 q=>?_)
 cases f with
 | next=>exact wpAny_execs_nil q
 | ret v=>exact q
 | brk=>exact q
 | cont=>exact q)
theorem qF.quiet {pins:List (Addr×Obj)} {σ:St} {H:Hp} {s:Shared} (I:qF X pins σ H s):interactive X.env=false:=by simp [interactive,I.ok.kind]
def Mv (te:TE):TS:=λD σ H=>te σ H λ_ H1=>D.nx σ H1
theorem jl (he:JE X e te) (hs:swapsWith e none pos.line X.env=pure false:=by rfl):JS X (.Expr e pos) (Mv te):=.of (by
 have he:=he.to
 intro pins s σ H D I h
 exact wpAny_Expr_any (jk (he pins s σ H _ I h) λv s1 ⟨x,H1,I1,r1,q1⟩=>⟨σ,H1,I1,q1⟩) I.quiet hs)
def qaR (te:TE):TS:=λD σ H=>te σ H D.rt
theorem qB (he:JE X e te):JS X (.Return (some e) pos) (qaR te):=.of (by
 have he:=he.to
 intro pins s σ H D I h
 exact wpAny_Return_some (jk (he pins s σ H _ I h) λv s1 ⟨x,H1,I1,r1,q1⟩=>⟨x,σ,H1,I1,r1,q1⟩))
def uQ (c:TT) (t u:TS):TS:=λD σ H=>c σ H λb H1=>if b=true then t D σ H1 else u D σ H1
theorem qM {c:Expr} {a b:List Stmt} {tc:TT} (hc:JT X c tc) (ha:Vc X a t) (hb:Vc X b u):JS X (.If c a b pos) (uQ tc t u):=.of (by
 have hc:=hc.to
 have ha:=ha.to
 have hb:=hb.to
 intro pins s σ H D I h
 refine wpAny_If (jk (hc pins s σ H _ I h) λd s1 ⟨H1,I1,q1⟩=>?_)
 cases d with
 | true=>exact ha pins s1 σ H1 D I1 q1
 | false=>exact hb pins s1 σ H1 D I1 q1)
def RO:TS:=λ_ _ _=>False
theorem qW {sts:List Stmt}:Vc X sts RO:=.of (by
 exact λ_ _ _ _ _ _ h=>h.elim)
end
abbrev TG:=V->St->Hp->(St->Hp->Prop)->Prop
abbrev uF:=List V->St->Hp->(St->Hp->Prop)->Prop
def PG (X:Cx) (target:Expr) (t:TG):Prop:=
 ∀(pins:List (Addr×Obj)) (s:Shared) (σ:St) (H:Hp) (v:V) (u:Value) (Q:St->Hp->Prop),qF X pins σ H s->qP v u->t v σ H Q->
   wpAny (model X.prog X.w) X.A (assign target X.env u) (λ_ s'=>∃σ' H',qF X pins σ' H' s'/\Q σ' H') X.xe s
@[irreducible] def JG (X:Cx) (target:Expr) (t:TG):Prop:=PG X target t
theorem JG.of {X:Cx} {target:Expr} {t:TG} (h:PG X target t):JG X target t:=by unfold JG;exact h
theorem JG.to {X:Cx} {target:Expr} {t:TG} (h:JG X target t):PG X target t:=by unfold JG at h;exact h
def PGs (X:Cx) (ts:List Expr) (t:uF):Prop:=
 ∀(pins:List (Addr×Obj)) (s:Shared) (σ:St) (H:Hp) (vs:List V) (us:List Value) (Q:St->Hp->Prop),qF X pins σ H s->qI vs us->t vs σ H Q->
   wpAny (model X.prog X.w) X.A (assignInOrder ((assignEach ts X.env).map (·.2)) us) (λ_ s'=>∃σ' H',qF X pins σ' H' s'/\Q σ' H') X.xe s
@[irreducible] def uI (X:Cx) (ts:List Expr) (t:uF):Prop:=PGs X ts t
theorem uI.of {X:Cx} {ts:List Expr} {t:uF} (h:PGs X ts t):uI X ts t:=by unfold uI;exact h
theorem uI.to {X:Cx} {ts:List Expr} {t:uF} (h:uI X ts t):PGs X ts t:=by unfold uI at h;exact h
abbrev G7:=V->V->V->Hp->(Hp->Prop)->Prop
def N7 (X:Cx) (t:G7):Prop:=
 ∀(pins:List (Addr×Obj)) (s:Shared) (σ:St) (H:Hp) (o i v:V) (ov iv u:Value) (Q:Hp->Prop),qF X pins σ H s->qP o ov->qP i iv->qP v u->t o i v H Q->
   wpAny (model X.prog X.w) X.A (setItem ov iv u) (λ_ s'=>∃H',qF X pins σ H' s'/\Q H') X.xe s
abbrev TIp:=V->V->Hp->VK->Prop
def PIp (X:Cx) (op:Operator) (t:TIp):Prop:=
 ∀(pins:List (Addr×Obj)) (s:Shared) (σ:St) (H:Hp) (x y:V) (v u:Value) (Q:VK),qF X pins σ H s->qP x v->qP y u->t x y H Q->
   wpAny (model X.prog X.w) X.A (inplaceOp op v u) (EP X pins σ Q) X.xe s
section
variable {X:Cx} {pos:Pos}
def Jv (i:Nat):TG:=λv σ H Q=>Q (σ.set i (some v)) H
theorem qA {i:Nat} {x:Str} (hN:X.N.Nodup) (hi:X.N[i]?=some x) (hx:N9 X.env.scope x) (hf:X.fn x=true\/X.env.scope.names.lookup x=some .local:=by first | exact .inl rfl | exact .inr rfl | assumption):JG X (.Name x pos) (Jv i):=.of (by
 intro pins s σ H v u Q I r h
 exact wpAny_assign_Name (YR I hN hi hx r (λs' I'=>⟨_,H,I',h⟩) hf))
def NW:uF:=λvs σ H Q=>vs=[]/\Q σ H
def VZ (t:TG) (u:uF):uF:=λvs σ H Q=>∃v r,vs=v::r/\t v σ H λσ' H'=>u r σ' H' Q
theorem JQ:uI X [] NW:=.of (by
 intro pins s σ H vs us Q I r h
 obtain⟨e,h⟩:=h
 subst e
 cases r
 exact assignInOrder_nil ⟨σ,H,I,h⟩)
theorem jx {e:Expr} {es:List Expr} {t:TG} {u:uF} (h1:JG X e t) (h2:uI X es u) (hs:(assignEach (e::es) X.env).map (·.2)=assign e X.env::(assignEach es X.env).map (·.2):=by rfl):uI X (e::es) (VZ t u):=.of (by
 have h1:=h1.to
 have h2:=h2.to
 intro pins s σ H vs us Q I r h
 obtain⟨v,vr,e1,h⟩:=h
 subst e1
 cases r with
 | cons r rr=>
   rw[hs]
   refine assignInOrder_cons (jk (h1 pins s σ H _ _ _ I r h) λ_ s1 ⟨σ1,H1,I1,q1⟩=>?_)
   exact h2 pins s1 σ1 H1 _ _ Q I1 rr q1)
def NU (K:PySem.W.Frag) (n:Nat) (t:uF):TG:=λv σ H Q=>∃a xs,v=.ref a/\YM K H a xs/\xs.length=n/\t xs σ H Q
theorem ZU {es:List Expr} {k:Nat} {t:uF} {n:Nat} (hc:X.calm=true) (h:uI X es t) (hn:(assignEach es X.env).length=n:=by rfl) (hst:(assignEach es X.env).findIdx? (·.1)=none:=by rfl):JG X (.Tuple es k pos) (NU X.K n t):=.of (by
 have h:=h.to
 intro pins s σ H v u Q I r hw
 obtain⟨a,xs,e1,hq,hl,hw⟩:=hw
 subst e1
 cases r
 obtain⟨its,rv,ht,hz⟩:=I.tuple hq
 refine assign_Tuple_tuple (I.ok.hd hc) ht (by simp [hn,<-hl,rv.length]) hst λh' hx=>?_
 have I1:qF X pins σ H {s with heap:=h'}:=I.kept (t':=s.toks) λb o e=>hx b o (tV (tM e)) e
 exact h pins _ σ H xs _ Q I1 (by simpa using rv) hw)
def qap (to ti:TE) (t:G7):TG:=λv σ H Q=>to σ H λo H1=>ti σ H1 λi H2=>t o i v H2 λH3=>Q σ H3
theorem Na {o i:Expr} {to ti:TE} {t:G7} (ho:PE X o to) (hi:PE X i ti) (hs:N7 X t)
   (ha:∀v,assign (.Subscript o i pos) X.env v=(do
     let ov <-holding [v] (eval o X.env)
     let iv <-holding [v,ov] (eval i X.env)
     standAt pos
     holding [v,ov,iv] (setItem ov iv v)
     release [v,ov,iv] []):=by intro _;rfl):PG X (.Subscript o i pos) (qap to ti t):=by
 intro pins s σ H v u Q I r h
 rw[ha]
 refine wpAny_bind (wpAny_holding (jk (ho pins s σ H _ I h) λov s1 ⟨x,H1,I1,r1,q1⟩=>?_))
 refine wpAny_bind (wpAny_holding (jk (hi pins s1 σ H1 _ I1 q1) λiv s2 ⟨y,H2,I2,r2,q2⟩=>?_))
 refine wpAny_bind (wpAny_standAt (wpAny_bind (wpAny_holding (jk (hs pins s2 σ H2 x y v ov iv u _ I2 r1 r2 r q2) λ_ s3 ⟨H3,I3,q3⟩=>?_))))
 exact wpAny_release ⟨σ,H3,I3,q3⟩
theorem NO {o i:Expr} {to ti:TE} {t:G7} (ho:JE X o to) (hi:JE X i ti) (hs:N7 X t) (ha:∀v,assign (.Subscript o i pos) X.env v=(do
     let ov <-holding [v] (eval o X.env)
     let iv <-holding [v,ov] (eval i X.env)
     standAt pos
     holding [v,ov,iv] (setItem ov iv v)
     release [v,ov,iv] []):=by intro _;rfl):JG X (.Subscript o i pos) (qap to ti t):=.of (Na ho.to hi.to hs ha)
def uS (te:TE) (g:TG):TS:=λD σ H=>te σ H λx H1=>g x σ H1 D.nx
theorem NJ {tg e:Expr} {te:TE} {g:TG} (he:JE X e te) (hg:JG X tg g) (hs:swapsWithSole [tg] e pos.line X.env=pure false:=by rfl) (hw:swappedStores [tg] e X.env=pure none:=by rfl) (h1:(assignEach [tg] X.env).map (·.2)=[assign tg X.env]:=by rfl):JS X (.Assign [tg] e pos) (uS te g):=.of (by
 have he:=he.to
 have hg:=hg.to
 intro pins s σ H D I h
 refine wpAny_Assign_stores (jk (he pins s σ H _ I h) λv s1 ⟨x,H1,I1,r1,q1⟩=>?_) hs hw
 rw[h1]
 exact jk (hg pins s1 σ H1 x v _ I1 r1 q1) λ_ s2 q=>q)
theorem qw {i:Nat} {x:Str} {e:Expr} {te:TE} {pos':Pos} (hN:X.N.Nodup) (hi:X.N[i]?=some x) (hx:N9 X.env.scope x) (he:JE X e te) (hs:swapsWith e (some (.Name x pos')) pos.line X.env=pure false:=by rfl) (hf:X.fn x=true\/X.env.scope.names.lookup x=some .local:=by first | exact .inl rfl | exact .inr rfl | assumption):JS X (.Assign [.Name x pos'] e pos) (uS te (Jv i)):=.of (by
 have he:=he.to
 intro pins s σ H D I h
 refine wpAny_Assign_Name (jk (he pins s σ H _ I h) λv s1 ⟨y,H1,I1,r1,q1⟩=>?_) hs
 exact YR I1 hN hi hx r1 (λs2 I2=>⟨_,H1,I2,q1⟩) hf)
def qaZ (i:Nat) (te:TE) (ti:TIp):TS:=λD σ H=>∃x,σ[i]?=some (some x)/\te σ H λy H1=>ti x y H1 λz H2=>D.nx (σ.set i (some z)) H2
theorem wJ {i:Nat} {x:Str} {e:Expr} {te:TE} {op:Operator} {ti:TIp} {pos':Pos} (hN:X.N.Nodup) (hi:X.N[i]?=some x) (hx:N9 X.env.scope x) (he:JE X e te) (ho:PIp X op ti) (hf:X.fn x=true\/X.env.scope.names.lookup x=some .local:=by first | exact .inl rfl | exact .inr rfl | assumption):JS X (.AugAssign (.Name x pos') op e pos) (qaZ i te ti):=.of (by
 have he:=he.to
 intro pins s σ H D I h
 obtain⟨v,e1,h⟩:=h
 obtain⟨m,hn,hl⟩:=I.loc
 have vis:Mi X.env.scope x:=by rcases hx with k | k;exact .inl k;exact .inr (.inl k)
 obtain⟨u,r,l⟩:=hl i x v hi e1 vis
 refine wpAny_AugAssign_Name ?_
 have go:wpAny (model X.prog X.w) X.A (eval e X.env) (λw s₂=>wpAny (model X.prog X.w) X.A (inplaceOp op u w) (λr s₃=>wpAny (model X.prog X.w) X.A (storeName X.env x r) (λ_=>SP X pins D .next) X.xe s₃) X.xe s₂) X.xe s:=by
   refine jk (he pins s σ H _ I h) λw s1 ⟨y,H1,I1,r1,q1⟩=>?_
   refine jk (ho pins s1 σ H1 v y u w _ I1 r r1 q1) λz s2 ⟨zv,H2,I2,r2,q2⟩=>?_
   exact YR I2 hN hi hx r2 (λs3 I3=>⟨_,H2,I3,q2⟩) hf
 rcases l with ⟨hk,hm⟩ | ⟨hk,c,hc,hcell⟩
 . exact wpAny_loadName_local I.ok.kind hk hn hm go
 . rcases hk with hk | hk
   . exact wpAny_loadName_cell I.ok.kind hk hc hcell go
   . rcases hx with k | k
     . have:X.env.scope.names.lookup x=some .free:=hk
       rw[k]at this;cases this
     . have:X.env.scope.names.lookup x=some .free:=hk
       rw[k]at this;cases this)
def ipI (f:Int->Int->Int):TIp:=λx y H Q=>∃i j,x=.int i/\y=.int j/\Q (.int (f i j)) H
theorem wU:PIp X .Add (ipI λi j=>i+j):=by
 intro pins s σ H x y v u Q I r1 r2 h
 obtain⟨i,j,e1,e2,q⟩:=h
 subst e1;subst e2
 obtain⟨t,rfl⟩:=r1
 obtain⟨t',rfl⟩:=r2
 exact iadd_int ⟨.int _,H,I.tok _,⟨_,rfl⟩,q⟩
end
section
variable {X:Cx} {pos:Pos}
def yU (c:TT) (tb:TS):TS:=λD σ H=>∃W:Nat->St->Hp->Prop,(∃m,W m σ H)/\∀m σ H,W m σ H->
 c σ H λb H1=>if b=true then ∃N:St->Hp->Prop,(∀σ' H',N σ' H'->∃m',m' < m/\W m' σ' H')/\tb {D with nx:=N,ct:=N,bk:=D.nx} σ H1 else D.nx σ H1
theorem Zl {c:Expr} {body:List Stmt} {tc:TT} {tb:TS} (hp:PassesOwn (model X.prog X.w) X.A X.env X.xe) (hc:JT X c tc) (hb:Vc X body tb):JS X (.While c body [] pos) (yU tc tb):=.of (by
 have hc:=hc.to
 have hb:=hb.to
 intro pins s σ H D I h
 obtain⟨W,⟨m0,w0⟩,turn⟩:=h
 refine wpAny_While (codeAny_whileLoop (λn s'=>∃σ' H',qF X pins σ' H' s'/\W n σ' H') ?_ m0 ⟨σ,H,I,w0⟩)
 rintro n s1 ⟨σ1,H1,I1,w1⟩
 refine wpAny_passesOwn hp (jk (hc pins s1 σ1 H1 _ I1 (turn n σ1 H1 w1)) λb s2 ⟨H2,I2,q2⟩=>?_)
 cases b with
 | true=>
   obtain⟨N,hN,q2⟩:=q2
   rw[if_pos rfl]
   refine wpAny_passesOwn hp (jk (hb pins s2 σ1 H2 _ I2 q2) λf s3 q3=>?_)
   cases f with
   | next=>
     obtain⟨σ3,H3,I3,n3⟩:=q3
     obtain⟨m',hm,w3⟩:=hN σ3 H3 n3
     exact⟨m',hm,σ3,H3,I3,w3⟩
   | cont=>
     obtain⟨σ3,H3,I3,n3⟩:=q3
     obtain⟨m',hm,w3⟩:=hN σ3 H3 n3
     exact⟨m',hm,σ3,H3,I3,w3⟩
   | brk=>exact q3
   | ret v=>exact q3
 | false=>
   rw[if_neg tO]
   exact wpAny_execs_nil ⟨σ1,H2,I2,q2⟩)
end
structure It where
 go:Nat->Hp->Prop
 yld:Nat->Hp->V->Hp->Prop
 stop:Nat->Hp->Prop
def Jz (X:Cx) (pins:List (Addr×Obj)) (H:Hp) (b:Addr):Prop:=
 H b=none/\b≠X.env.locals/\b∉X.fs/\(b∈X.ex\/X.s₀.heap.objs.size<=b)/\(∀x c,X.env.cells.lookup x=some c->c≠b)/\∀p∈X.pn++pins,p.1≠b
theorem qF.fpOk {X:Cx} {pins:List (Addr×Obj)} {σ:St} {H H':Hp} {s:Shared} {b:Addr} (I:qF X pins σ H s) (hb:s.heap.objs.size<=b) (hn:H' b=none):Jz X pins H' b:=by
 refine⟨hn,zbG (tP I.lt hb),I.nofs hb,.inr (zac I.sz hb),λx c e z=>?_,λp hp z=>?_⟩
 . obtain⟨v,q⟩:=I.cell x c e
   exact absurd (tP q.lt (by rw[z];exact hb)) (zar _)
 . exact absurd (tP (tM (I.pin p hp).1) (by rw[z];exact hb)) (zar _)
structure Uc (P:Program) (w:World) (K:PySem.W.Frag) (tg:Expr) (J:It) (fp:List Addr) (it:Addr) (tn:Nat->Heap->Prop):Prop where
 mem:it∈fp
 obj:∀i h,tn i h->∀b∈fp,∃o,h.get? b=some o/\∀v,o.data≠.cell v
 keep:∀i h h',tn i h->(∀b∈fp,∀o,h.get? b=some o->h'.get? b=some o)->tn i h'
 item:∀(X:Cx),X.prog=P->X.w=w->X.K=K->X.calm=true->∀(i:Nat) (pins:List (Addr×Obj)) (s:Shared) (σ:St) (H:Hp) (E:Value->Shared->Prop),qF X pins σ H s->(∀b∈fp,Jz X pins H b)->tn i s.heap->J.go i H->
   wpAny (model P w) X.A (pyNext (.ref it)) (λr s1=>∃u,r=some u/\
     wpAny (model P w) X.A (letOwnedTupleGo tg (.ref it) u) (λ_ s2=>∃x H',qF X pins σ H' s2/\qP x u/\J.yld i H x H'/\tn (i+1) s2.heap/\∀b∈fp,H' b=none) E s1) E s
 done:∀(X:Cx),X.prog=P->X.w=w->X.K=K->X.calm=true->∀(i:Nat) (pins:List (Addr×Obj)) (s:Shared) (σ:St) (H:Hp) (E:Value->Shared->Prop),qF X pins σ H s->(∀b∈fp,Jz X pins H b)->tn i s.heap->J.stop i H->
   wpAny (model P w) X.A (pyNext (.ref it)) (λr s1=>r=none/\qF X pins σ H s1) E s
 self:∀(A:Around) (i:Nat) (s:Shared) (Q:Value->Shared->Prop) (E:Value->Shared->Prop),tn i s.heap->Q (.ref it) s->wpAny (model P w) A (pyIter (.ref it)) Q E s
abbrev TI:=St->Hp->(It->Hp->Prop)->Prop
def PIE (X:Cx) (pins:List (Addr×Obj)) (σ:St) (tg:Expr) (R:It->Hp->Prop) (itv:Value) (s2:Shared):Prop:=
 ∃(it:Addr) (fp:List Addr) (tn:Nat->Heap->Prop) (J:It) (H':Hp),itv=.ref it/\qF X pins σ H' s2/\Uc X.prog X.w X.K tg J fp it tn/\tn 0 s2.heap/\(∀b∈fp,Jz X pins H' b)/\R J H'
def PI (X:Cx) (tg iter:Expr) (wi:TI):Prop:=
 ∀(pins:List (Addr×Obj)) (s:Shared) (σ:St) (H:Hp) (R:It->Hp->Prop),qF X pins σ H s->wi σ H R->
   wpAny (model X.prog X.w) X.A (eval iter X.env) (λv s1=>wpAny (model X.prog X.w) X.A (pyIter v) (PIE X pins σ tg R) X.xe s1) X.xe s
@[irreducible] def JI (X:Cx) (tg iter:Expr) (wi:TI):Prop:=PI X tg iter wi
theorem JI.of {X:Cx} {tg iter:Expr} {wi:TI} (h:PI X tg iter wi):JI X tg iter wi:=by unfold JI;exact h
theorem JI.to {X:Cx} {tg iter:Expr} {wi:TI} (h:JI X tg iter wi):PI X tg iter wi:=by unfold JI at h;exact h
theorem VW {M:Model} {A:Around} {E:Value->Shared->Prop} {s:Shared} {tg:Expr} {it:Addr} {u:Value} {o:Obj} {n:String} {vs:Array Value} {Q:Unit->Shared->Prop} (ho:s.heap.get? it=some o) (hc:o.cls=.type n) (hd:o.data=.fields vs)
   (hn:["enumerate","zip","dict_itemiterator","dict_reverseitemiterator","odict_iterator","itertools.zip_longest","itertools.pairwise"].contains n=false) (hQ:Q () s):wpAny M A (letOwnedTupleGo tg (.ref it) u) Q E s:=by
 unfold letOwnedTupleGo
 cases tg<;>first
   | exact wpAny_pure hQ
   | (cases u<;>first
       | exact wpAny_pure hQ
       | (refine wpAny_bind (wpAny_load ho ?_)
          rw[hc,hd]
          show wpAny M A (if (["enumerate","zip","dict_itemiterator","dict_reverseitemiterator","odict_iterator","itertools.zip_longest","itertools.pairwise"].contains n&&vs[0]?==some (rawInt _))=true then _ else _) Q E s
          rw[if_neg (by intro h;rw[hn,zcL]at h;cases h)]
          exact wpAny_pure hQ))
def Mb (K:PySem.W.Frag) (a:Addr):It:=
 ⟨λi H=>∃xs x,SqL K H a xs/\xs[i]?=some x,λi H x H'=>H'=H/\∀xs,SqL K H a xs->xs[i]?=some x,λi H=>∃xs,SqL K H a xs/\xs.length<=i⟩
def Ma (K:PySem.W.Frag) (a:Addr):It:=
 ⟨λi H=>∃xs x,YM K H a xs/\xs[i]?=some x,λi H x H'=>H'=H/\∀xs,YM K H a xs->xs[i]?=some x,λi H=>∃xs,YM K H a xs/\xs.length<=i⟩
def RJ (lo:Int) (n:Nat):It:=⟨λi _=>i < n,λi H x H'=>H'=H/\x=.int (lo+i),λi _=>n<=i⟩
theorem kA {P:Program} {w:World} {K:PySem.W.Frag} {tg:Expr} (a it:Addr):Uc P w K tg (Mb K a) [it] it (λi h=>h.IsListIter it a i) where
 mem:=by simp
 obj:=λi h st b hb=>by
   have e:b=it:=by simpa using hb
   subst e
   obtain⟨o,e,c,d⟩:=st
   exact⟨o,e,λv z=>by rw[d]at z;cases z⟩
 keep:=λi h h' st k=>st.at λo e=>k it (by simp) o e
 item:=by
   intro X hP hw hK hc i pins s σ H E I hf st hg
   subst hP hw hK
   obtain⟨xs,x,hq,hx⟩:=hg
   obtain⟨its,rv,p,hz⟩:=I.list hq
   obtain⟨u,hu,ru⟩:=rv.get hx
   obtain⟨f0,f1,f2,f3,f4,f5⟩:=hf it (by simp)
   refine wpAny_pyNext_list_item st p.isList (x:=u) (by simpa using hu) λh' st' sb=>?_
   have I1:qF X pins σ H {s with heap:=h'}:=I.turned (t':=s.toks) (λb o hb e=>(sb.2 b hb).trans e) f0 f1 f3 f4 f5
   obtain⟨o,e,c,d⟩:=id st'
   exact⟨u,rfl,VW (s:={s with heap:=h'}) e c d (by decide) ⟨x,H,I1,ru,⟨rfl,λys hy=>by rw[I.list_inj hy hq];exact hx⟩,st',λb hb=>(hf b hb).1⟩⟩
 done:=by
   intro X hP hw hK hc i pins s σ H E I hf st hg
   subst hP hw hK
   obtain⟨xs,hq,hx⟩:=hg
   obtain⟨its,rv,p,hz⟩:=I.list hq
   obtain⟨f0,f1,f2,f3,f4,f5⟩:=hf it (by simp)
   have hl:=rv.length
   exact wpAny_pyNext_list_end (I.ok.hd hc) st p.isList (by simp;omega) λh' eb=>⟨rfl,I.turned (t':=s.toks) (λb o hb e=>eb b o hb e) f0 f1 f3 f4 f5⟩
 self:=λ_ _ _ _ _ st h=>wpAny_pyIter_listiter st h
theorem Ul {P:Program} {w:World} {K:PySem.W.Frag} {tg:Expr} (a it:Addr):Uc P w K tg (Ma K a) [it] it (λi h=>h.IsTupleIter it a i) where
 mem:=by simp
 obj:=λi h st b hb=>by
   have e:b=it:=by simpa using hb
   subst e
   obtain⟨o,e,c,d⟩:=st
   exact⟨o,e,λv z=>by rw[d]at z;cases z⟩
 keep:=λi h h' st k=>st.at λo e=>k it (by simp) o e
 item:=by
   intro X hP hw hK hc i pins s σ H E I hf st hg
   subst hP hw hK
   obtain⟨xs,x,hq,hx⟩:=hg
   obtain⟨its,rv,p,hz⟩:=I.tuple hq
   obtain⟨u,hu,ru⟩:=rv.get hx
   obtain⟨f0,f1,f2,f3,f4,f5⟩:=hf it (by simp)
   refine wpAny_pyNext_tuple_item st (show s.heap.IsTuple a its.toArray from p) (x:=u) (by simpa using hu) λh' st' sb=>?_
   have I1:qF X pins σ H {s with heap:=h'}:=I.turned (t':=s.toks) (λb o hb e=>(sb.2 b hb).trans e) f0 f1 f3 f4 f5
   obtain⟨o,e,c,d⟩:=id st'
   exact⟨u,rfl,VW (s:={s with heap:=h'}) e c d (by decide) ⟨x,H,I1,ru,⟨rfl,λys hy=>by rw[I.tuple_inj hy hq];exact hx⟩,st',λb hb=>(hf b hb).1⟩⟩
 done:=by
   intro X hP hw hK hc i pins s σ H E I hf st hg
   subst hP hw hK
   obtain⟨xs,hq,hx⟩:=hg
   obtain⟨its,rv,p,hz⟩:=I.tuple hq
   obtain⟨f0,f1,f2,f3,f4,f5⟩:=hf it (by simp)
   have hl:=rv.length
   exact wpAny_pyNext_tuple_end (I.ok.hd hc) st (show s.heap.IsTuple a its.toArray from p) (by simp;omega) λh' eb=>⟨rfl,I.turned (t':=s.toks) (λb o hb e=>eb b o hb e) f0 f1 f3 f4 f5⟩
 self:=λ_ _ _ _ _ st h=>wpAny_pyIter_tupleiter st h
theorem Um {P:Program} {w:World} {K:PySem.W.Frag} {tg:Expr} (it:Addr) (lo:Int) (n:Nat):Uc P w K tg (RJ lo n) [it] it (λi h=>IsRangeIter h it (lo+(i:Nat)*1) ((n:Int) - (i:Nat)) 1) where
 mem:=by simp
 obj:=λi h st b hb=>by
   have e:b=it:=by simpa using hb
   subst e
   exact⟨_,st,λv z=>by
     have z':Data.fields _=Data.cell v:=z
     cases z'⟩
 keep:=λi h h' st k=>k it (by simp) _ st
 item:=by
   intro X hP hw hK hc i pins s σ H E I hf st hg
   subst hP hw hK
   obtain⟨f0,f1,f2,f3,f4,f5⟩:=hf it (by simp)
   have W:=Walks.range (prog:=X.prog) (w:=X.w) (I.ok.hd hc) it lo 1 n
   refine W.item i s _ _ hg st λv h' tk hv st' kk=>?_
   obtain⟨t,rfl⟩:=hv
   have I1:qF X pins σ H {s with heap:=h',toks:=tk}:=I.turned (λb o hb e=>kk b o (by simpa using hb) e) f0 f1 f3 f4 f5
   refine⟨_,rfl,VW (s:={s with heap:=h',toks:=tk}) (n:="range_iterator") st' rfl rfl (by decide) ⟨.int (lo+i),H,I1,⟨t,?_⟩,⟨rfl,rfl⟩,st',λb hb=>(hf b hb).1⟩⟩
   rw[Int.mul_one]
 done:=by
   intro X hP hw hK hc i pins s σ H E I hf st hg
   subst hP hw hK
   obtain⟨f0,f1,f2,f3,f4,f5⟩:=hf it (by simp)
   exact wpAny_pyNext_range_end (I.ok.hd hc) st (by have:n<=i:=hg;omega) λh' eb=>⟨rfl,I.turned (t':=s.toks) (λb o hb e=>eb b o hb e) f0 f1 f3 f4 f5⟩
 self:=λ_ _ _ _ _ st h=>wpAny_pyIter_rangeiter st h
section
variable {X:Cx} {tg:Expr}
def qan (K:PySem.W.Frag) (tl:TE):TI:=λσ H R=>tl σ H λx H1=>∃a,x=.ref a/\(∃xs,SqL K H1 a xs)/\R (Mb K a) H1
def qbu (K:PySem.W.Frag) (tl:TE):TI:=λσ H R=>tl σ H λx H1=>∃a,x=.ref a/\(∃xs,YM K H1 a xs)/\R (Ma K a) H1
theorem qN {l:Expr} {tl:TE} (hl:JE X l tl):JI X tg l (qan X.K tl):=.of (by
 have hl:=hl.to
 intro pins s σ H R I h
 refine jk (hl pins s σ H _ I h) λv s1 ⟨x,H1,I1,r1,q1⟩=>?_
 obtain⟨a,e,⟨xs,hq⟩,q⟩:=q1
 subst e
 cases r1
 obtain⟨its,rv,p,hz⟩:=I1.list hq
 refine wpAny_pyIter_list p.isList ?_
 refine⟨s1.heap.objs.size,[s1.heap.objs.size],_,_,H1,rfl,I1.kept (t':=s1.toks) λb o e=>tu _ e,kA a _,⟨_,tU _ rfl,rfl,rfl⟩,λb hb=>?_,q⟩
 have e:b=s1.heap.objs.size:=by simpa using hb
 subst e
 exact I1.fpOk (tE _) (I1.hok.fresh (tE _)))
theorem zV {l:Expr} {tl:TE} (hl:JE X l tl):JI X tg l (qbu X.K tl):=.of (by
 have hl:=hl.to
 intro pins s σ H R I h
 refine jk (hl pins s σ H _ I h) λv s1 ⟨x,H1,I1,r1,q1⟩=>?_
 obtain⟨a,e,⟨xs,hq⟩,q⟩:=q1
 subst e
 cases r1
 obtain⟨its,rv,p,hz⟩:=I1.tuple hq
 refine wpAny_pyIter_tuple (show s1.heap.IsTuple a its.toArray from p) ?_
 refine⟨s1.heap.objs.size,[s1.heap.objs.size],_,_,H1,rfl,I1.kept (t':=s1.toks) λb o e=>tu _ e,Ul a _,⟨_,tU _ rfl,rfl,rfl⟩,λb hb=>?_,q⟩
 have e:b=s1.heap.objs.size:=by simpa using hb
 subst e
 exact I1.fpOk (tE _) (I1.hok.fresh (tE _)))
theorem xG {pins:List (Addr×Obj)} {σ:St} {H:Hp} {s:Shared} {R:It->Hp->Prop} {E:Value->Shared->Prop} {lo hi:Int} {t u v:Tok} {tk:Nat} (I:qF X pins σ H s) (h1:-(2^62)<=lo) (h2:lo < 2^62) (h3:-(2^62)<=hi) (h4:hi < 2^62)
   (q:R (RJ lo (hi - lo).toNat) H):wpAny (model X.prog X.w) X.A (pyIter (.ref s.heap.objs.size)) (PIE X pins σ tg R) E {s with heap:=s.heap.push {cls:=.type "range",data:=.fields #[.int lo t,.int hi u,.int 1 v]},toks:=tk}:=by
 refine wpAny_pyIter_range (IsRange.new ..) (small_one h1 h2 h3 h4) ?_
 have I1:qF X pins σ H {s with heap:=s.heap.push {cls:=.type "range",data:=.fields #[.int lo t,.int hi u,.int 1 v]},toks:=tk}:=I.kept λb o e=>tu _ e
 refine⟨(s.heap.push {cls:=.type "range",data:=.fields #[.int lo t,.int hi u,.int 1 v]}).objs.size,[(s.heap.push {cls:=.type "range",data:=.fields #[.int lo t,.int hi u,.int 1 v]}).objs.size],_,_,H,rfl,
   I1.kept (t':=tk) λb o e=>tu _ e,Um _ lo (hi - lo).toNat,?_,λb hb=>?_,q⟩
 . have e1:lo+((0:Nat):Int)*1=lo:=by simp
   have e2:(((hi - lo).toNat:Nat):Int) - ((0:Nat):Int)=Builtin.Range.rangeSize lo hi 1:=by rw[rangeSize_one];split<;>omega
   show IsRangeIter _ _ (lo+((0:Nat):Int)*1) ((((hi - lo).toNat:Nat):Int) - ((0:Nat):Int)) 1
   rw[e1,e2]
   exact tU _ rfl
 . have e:b=(s.heap.push {cls:=.type "range",data:=.fields #[.int lo t,.int hi u,.int 1 v]}).objs.size:=by simpa using hb
   subst e
   exact I1.fpOk (tE _) (I1.hok.fresh (tE _))
def qam (ta:TA):TI:=λσ H R=>ta σ H λvs H1=>∃j:Int,vs=[.int j]/\-(2^62)<=j/\j < 2^62/\R (RJ 0 j.toNat) H1
theorem jP {a:Expr} {ta:TA} {p pos:Pos} (hg:Gl X "range") (hm:X.mg "range"=none) (ha:JA X [a] ta) (hs:starEach [a] X.env=[(false,eval a X.env)]:=by rfl):JI X tg (.Call (.Name "range" p) [a] [] pos) (qam ta):=.of (by
 have ha:=ha.to
 intro pins s σ H R I h
 refine Call_ (QW I hg hm boot_range (PyProof.Rows.callWith_type1 (jk (ha pos pins s σ H _ I h) λus s1 ⟨vs,H1,I1,r1,q1⟩=>?_) hs rfl))
 obtain⟨j,e,q1,q2,q⟩:=q1
 subst e
 cases r1 with
 | cons r rr=>
   cases rr
   obtain⟨t,rfl⟩:=r
   exact call_range_1 (xG I1 (by omega) (by omega) q1 q2 (by simpa using q)))
def qaW (wi:TI) (g:TG) (tb:TS):TS:=λD σ H=>wi σ H λJ H1=>∃W:Nat->Nat->St->Hp->Prop,(∃m,W 0 m σ H1)/\∀i m σ H,W i m σ H->
 (J.stop i H/\D.nx σ H)\/(J.go i H/\∃N:St->Hp->Prop,(∀σ' H',N σ' H'->∃m',m' < m/\W (i+1) m' σ' H')/\∀x H',J.yld i H x H'->g x σ H' λσ2 H2=>tb {D with nx:=N,ct:=N,bk:=D.nx} σ2 H2)
def Y9 (fp:List Addr) (h:Heap):List (Addr×Obj):=fp.filterMap λb=>(h.get? b).map λo=>(b,o)
theorem JK {fp:List Addr} {h:Heap} {b:Addr} {o:Obj} (hb:b∈fp) (e:h.get? b=some o):(b,o)∈Y9 fp h:=zaF.mpr ⟨b,hb,by rw[e];rfl⟩
theorem ye {fp:List Addr} {h:Heap} {p:Addr×Obj} (hp:p∈Y9 fp h):p.1∈fp/\h.get? p.1=some p.2:=by
 obtain⟨b,hb,e⟩:=zaF.mp hp
 cases q:h.get? b with
 | none=>rw[q]at e;cases e
 | some o=>
   rw[q]at e
   have e':(b,o)=p:=tN.inj e
   subst e'
   exact⟨hb,q⟩
theorem qF.pinned {pins:List (Addr×Obj)} {σ:St} {H:Hp} {s:Shared} {fp:List Addr} (I:qF X pins σ H s) (hf:∀b∈fp,Jz X pins H b) (ho:∀b∈fp,∃o,s.heap.get? b=some o/\∀v,o.data≠.cell v):qF X (pins++Y9 fp s.heap) σ H s:=
 I.pins_of λp hp=>(tX.mp hp).elim (λz=>I.pin p (tJ _ z)) λz=>by
   obtain⟨hb,e⟩:=ye z
   obtain⟨f0,f1,f2,_⟩:=hf p.1 hb
   obtain⟨o,e',d⟩:=ho p.1 hb
   rw[e]at e';cases e'
   exact⟨e,f0,f1,f2,d⟩
theorem qF.unpinned {pins pl:List (Addr×Obj)} {σ:St} {H:Hp} {s:Shared} (I:qF X (pins++pl) σ H s):qF X pins σ H s:=I.pins_of λp hp=>I.pin p (tJ _ (zak _ hp))
theorem jd {iter:Expr} {body:List Stmt} {wi:TI} {g:TG} {tb:TS} {pos:Pos} (hp:PassesOwn (model X.prog X.w) X.A X.env X.xe) (hc:X.calm=true) (hi:JI X tg iter wi) (hg:JG X tg g) (hb:Vc X body tb) (hs:∀x,foldedSetIterable iter X.env x=pure x:=by intro _;rfl):JS X (.For tg iter body [] pos) (qaW wi g tb):=.of (by
 have hi:=hi.to
 have hg:=hg.to
 have hb:=hb.to
 intro pins s σ H D I h
 refine wpAny_For (jk (hi pins s σ H _ I h) λv s1 h1=>jk h1 λitv s2 h2=>?_) hs
 obtain⟨it,fp,tn,J,H2,e,I2,T,st2,f2,W,⟨m0,w0⟩,turn⟩:=h2
 subst e
 have stat:∀{H':Hp},(∀b∈fp,H' b=none)->∀b∈fp,Jz X pins H' b:=λhn b hb=>⟨hn b hb,(f2 b hb).2⟩
 refine codeAny_forLoop_any (λn s'=>∃i σ' H',qF X pins σ' H' s'/\tn i s'.heap/\(∀b∈fp,H' b=none)/\W i n σ' H') ?_ m0 ⟨0,σ,H2,I2,st2,λb hb=>(f2 b hb).1,w0⟩
 rintro n s3 ⟨i,σ3,H3,I3,st3,fr3,w3⟩
 rcases turn i n σ3 H3 w3 with ⟨stop,qn⟩ | ⟨go,N,hN,step⟩
 . refine wpAny_passesOwn hp (jk (T.done X rfl rfl rfl hc i pins s3 σ3 H3 X.xe I3 (stat fr3) st3 stop) λr s4 ⟨hr,I4⟩=>?_)
   subst hr
   exact wpAny_execs_nil ⟨σ3,H3,I4,qn⟩
 . refine wpAny_passesOwn hp (jk (T.item X rfl rfl rfl hc i pins s3 σ3 H3 X.xe I3 (stat fr3) st3 go) λr s4 ⟨u,hr,h4⟩=>?_)
   subst hr
   refine wpAny_passesOwn hp (jk h4 λ_ s5 ⟨x,H5,I5,r5,y5,st5,fr5⟩=>?_)
   have I5':=I5.pinned (stat fr5) (T.obj _ _ st5)
   refine wpAny_passesOwn hp (jk (hg _ s5 σ3 H5 x u _ I5' r5 (step x H5 y5)) λ_ s6 ⟨σ6,H6,I6,q6⟩=>?_)
   refine wpAny_passesOwn hp (jk (hb _ s6 σ6 H6 _ I6 q6) λf s7 q7=>?_)
   have again:∀{σ7:St} {H7:Hp},qF X (pins++Y9 fp s5.heap) σ7 H7 s7->N σ7 H7->∃m,m < n/\∃i σ' H',qF X pins σ' H' s7/\tn i s7.heap/\(∀b∈fp,H' b=none)/\W i m σ' H':=λ{σ7 H7} I7 n7=>by
     obtain⟨m',hm,w7⟩:=hN σ7 H7 n7
     refine⟨m',hm,i+1,σ7,H7,I7.unpinned,T.keep _ _ _ st5 λb hb o e=>(I7.pin (b,o) (tJ _ (tJ _ (JK hb e)))).1,λb hb=>?_,w7⟩
     obtain⟨o,e,d⟩:=T.obj _ _ st5 b hb
     exact(I7.pin (b,o) (tJ _ (tJ _ (JK hb e)))).2.1
   cases f with
   | next=>obtain⟨σ7,H7,I7,n7⟩:=q7;exact again I7 n7
   | cont=>obtain⟨σ7,H7,I7,n7⟩:=q7;exact again I7 n7
   | brk=>obtain⟨σ7,H7,I7,q7⟩:=q7;exact⟨σ7,H7,I7.unpinned,q7⟩
   | ret v=>obtain⟨x7,σ7,H7,I7,r7,q7⟩:=q7;exact⟨x7,σ7,H7,I7.unpinned,r7,q7⟩)
end
theorem jr {K:PySem.W.Frag} {a:Addr} {xs:List V} {g:TG} {tb:TS} {D:J6} {σ:St} {H:Hp} (Pv:Nat->St->Hp->Prop) (h0:Pv 0 σ H) (hl:∀i σ H,i<=xs.length->Pv i σ H->SqL K H a xs)
   (hs:∀i x σ H,xs[i]?=some x->Pv i σ H->g x σ H λσ2 H2=>tb {D with nx:=Pv (i+1),ct:=Pv (i+1),bk:=D.nx} σ2 H2) (hd:∀σ H,Pv xs.length σ H->D.nx σ H):
   ∃W:Nat->Nat->St->Hp->Prop,(∃m,W 0 m σ H)/\∀i m σ H,W i m σ H->
    ((Mb K a).stop i H/\D.nx σ H)\/((Mb K a).go i H/\∃N:St->Hp->Prop,(∀σ' H',N σ' H'->∃m',m' < m/\W (i+1) m' σ' H')/\∀x H',(Mb K a).yld i H x H'->g x σ H' λσ2 H2=>tb {D with nx:=N,ct:=N,bk:=D.nx} σ2 H2):=by
 refine⟨λi m σ H=>m=xs.length - i/\i<=xs.length/\Pv i σ H,⟨xs.length,by simp,zat _,h0⟩,?_⟩
 rintro i m σ H ⟨rfl,hi,p⟩
 have q:=hl i σ H hi p
 by_cases hlt:i < xs.length
 . refine .inr ⟨⟨xs,xs[i],q,by simp [hlt]⟩,Pv (i+1),λσ' H' p'=>⟨xs.length - (i+1),by omega,rfl,hlt,p'⟩,λx H' y=>?_⟩
   obtain⟨e,y⟩:=y
   subst e
   exact hs i x σ _ (y xs q) p
 . have e:i=xs.length:=by omega
   subst e
   exact .inl ⟨⟨xs,q,tE _⟩,hd σ H p⟩
theorem YJ {K:PySem.W.Frag} {a:Addr} {xs:List V} {g:TG} {tb:TS} {D:J6} {σ:St} {H:Hp} (Pv:Nat->St->Hp->Prop) (h0:Pv 0 σ H) (hl:∀i σ H,i<=xs.length->Pv i σ H->YM K H a xs)
   (hs:∀i x σ H,xs[i]?=some x->Pv i σ H->g x σ H λσ2 H2=>tb {D with nx:=Pv (i+1),ct:=Pv (i+1),bk:=D.nx} σ2 H2) (hd:∀σ H,Pv xs.length σ H->D.nx σ H):
   ∃W:Nat->Nat->St->Hp->Prop,(∃m,W 0 m σ H)/\∀i m σ H,W i m σ H->
    ((Ma K a).stop i H/\D.nx σ H)\/((Ma K a).go i H/\∃N:St->Hp->Prop,(∀σ' H',N σ' H'->∃m',m' < m/\W (i+1) m' σ' H')/\∀x H',(Ma K a).yld i H x H'->g x σ H' λσ2 H2=>tb {D with nx:=N,ct:=N,bk:=D.nx} σ2 H2):=by
 refine⟨λi m σ H=>m=xs.length - i/\i<=xs.length/\Pv i σ H,⟨xs.length,by simp,zat _,h0⟩,?_⟩
 rintro i m σ H ⟨rfl,hi,p⟩
 have q:=hl i σ H hi p
 by_cases hlt:i < xs.length
 . refine .inr ⟨⟨xs,xs[i],q,by simp [hlt]⟩,Pv (i+1),λσ' H' p'=>⟨xs.length - (i+1),by omega,rfl,hlt,p'⟩,λx H' y=>?_⟩
   obtain⟨e,y⟩:=y
   subst e
   exact hs i x σ _ (y xs q) p
 . have e:i=xs.length:=by omega
   subst e
   exact .inl ⟨⟨xs,q,tE _⟩,hd σ H p⟩
theorem Jw {lo:Int} {n:Nat} {g:TG} {tb:TS} {D:J6} {σ:St} {H:Hp} (Pv:Nat->St->Hp->Prop) (h0:Pv 0 σ H)
   (hs:∀i σ H,i < n->Pv i σ H->g (.int (lo+i)) σ H λσ2 H2=>tb {D with nx:=Pv (i+1),ct:=Pv (i+1),bk:=D.nx} σ2 H2) (hd:∀σ H,Pv n σ H->D.nx σ H):
   ∃W:Nat->Nat->St->Hp->Prop,(∃m,W 0 m σ H)/\∀i m σ H,W i m σ H->
    ((RJ lo n).stop i H/\D.nx σ H)\/((RJ lo n).go i H/\∃N:St->Hp->Prop,(∀σ' H',N σ' H'->∃m',m' < m/\W (i+1) m' σ' H')/\∀x H',(RJ lo n).yld i H x H'->g x σ H' λσ2 H2=>tb {D with nx:=N,ct:=N,bk:=D.nx} σ2 H2):=by
 refine⟨λi m σ H=>m=n - i/\i<=n/\Pv i σ H,⟨n,by simp,zat _,h0⟩,?_⟩
 rintro i m σ H ⟨rfl,hi,p⟩
 by_cases hlt:i < n
 . refine .inr ⟨hlt,Pv (i+1),λσ' H' p'=>⟨n - (i+1),by omega,rfl,hlt,p'⟩,λx H' y=>?_⟩
   obtain⟨e,y⟩:=y
   subst e y
   exact hs i σ _ hlt p
 . have e:i=n:=by omega
   subst e
   exact .inl ⟨tE _,hd σ H p⟩
theorem Za {c:TT} {tb:TS} {D:J6} {σ:St} {H:Hp} (Pv:St->Hp->Prop) (μ:St->Hp->Nat) (h0:Pv σ H)
   (hs:∀σ H,Pv σ H->c σ H λb H1=>if b=true then tb {D with nx:=λσ' H'=>Pv σ' H'/\μ σ' H' < μ σ H,ct:=λσ' H'=>Pv σ' H'/\μ σ' H' < μ σ H,bk:=D.nx} σ H1 else D.nx σ H1)
   (mono:∀σ H Q Q',(∀b H1,Q b H1->Q' b H1)->c σ H Q->c σ H Q'):yU c tb D σ H:=by
 refine⟨λm σ H=>m=μ σ H/\Pv σ H,⟨_,rfl,h0⟩,?_⟩
 rintro m σ H ⟨rfl,p⟩
 refine mono σ H _ _ (λb H1 q=>?_) (hs σ H p)
 cases b with
 | true=>exact⟨_,λσ' H' ⟨p',l⟩=>⟨_,l,rfl,p'⟩,q⟩
 | false=>exact q
abbrev R2:=V->V->Hp->VK->Prop
def ZB (X:Cx) (f:Value->Value->Sem Value) (r:R2):Prop:=
 ∀(pins:List (Addr×Obj)) (s:Shared) (σ:St) (H:Hp) (x y:V) (v u:Value) (Q:VK),qF X pins σ H s->qP x v->qP y u->r x y H Q->
   wpAny (model X.prog X.w) X.A (f v u) (EP X pins σ Q) X.xe s
def Q5 (X:Cx) (f:Value) (r:List V->Hp->VK->Prop):Prop:=
 ∀(pins:List (Addr×Obj)) (s:Shared) (σ:St) (H:Hp) (xs:List V) (us:List Value) (Q:VK),qF X pins σ H s->qI xs us->r xs H Q->
   wpAny (model X.prog X.w) X.A (call f us) (EP X pins σ Q) X.xe s
def YO (r:R2) (ta tb:TE):TE:=λσ H Q=>ta σ H λx H1=>tb σ H1 λy H2=>r x y H2 Q
def rI (C:Int->Int->Prop) (g:Int->Int->V):R2:=λx y H Q=>∃i j,x=.int i/\y=.int j/\C i j/\Q (g i j) H
def xI (g:Int->Int->V):R2:=λx y H Q=>∃i j,x=.int i/\y=.int j/\Q (g i j) H
section
variable {X:Cx} {a b c:Expr} {ta tb tc:TE} {pos:Pos}
theorem N2 (ha:PE X a ta) (hb:PE X b tb) {pins:List (Addr×Obj)} {s:Shared} {σ:St} {H:Hp} {R:V->V->Hp->Prop} (I:qF X pins σ H s)
   (h:ta σ H λx H1=>tb σ H1 λy H2=>R x y H2) {Q:Value->Shared->Prop} {f:Value->Value->Sem Value}
   (hf:∀v u s2 x y H2,qF X pins σ H2 s2->qP x v->qP y u->R x y H2->wpAny (model X.prog X.w) X.A (f v u) Q X.xe s2):
   wpAny (model X.prog X.w) X.A (eval a X.env) (λv s₁=>wpAny (model X.prog X.w) X.A (eval b X.env) (λu s₂=>wpAny (model X.prog X.w) X.A (f v u) Q X.xe s₂) X.xe s₁) X.xe s:=by
 refine jk (ha pins s σ H _ I h) λv s1 ⟨x,H1,I1,r1,q1⟩=>?_
 refine jk (hb pins s1 σ H1 _ I1 q1) λu s2 ⟨y,H2,I2,r2,q2⟩=>?_
 exact hf v u s2 x y H2 I2 r1 r2 q2
theorem qO {op:Operator} {r:R2} (ho:ZB X (binaryOp op) r) (ha:JE X a ta) (hb:JE X b tb):JE X (.BinOp a op b pos) (YO r ta tb):=.of (by
 have ha:=ha.to
 have hb:=hb.to
 intro pins s σ H Q I h
 exact wpAny_BinOp (N2 ha hb I h λv u s2 x y H2 I2 rx ry q=>ho pins s2 σ H2 x y v u Q I2 rx ry q))
theorem Ng {f:Value->Value->Sem Value} {C:Int->Int->Prop} {g:Int->Int->Int}
   (rule:∀(i j:Int) (t u:Tok) (s:Shared) (Q:Value->Shared->Prop) (E:Value->Shared->Prop),C i j->Q (.int (g i j) s.toks) {s with toks:=s.toks+1}->wpAny (model X.prog X.w) X.A (f (.int i t) (.int j u)) Q E s):
   ZB X f (rI C λi j=>.int (g i j)):=by
 intro pins s σ H x y v u Q I rx ry h
 obtain⟨i,j,rfl,rfl,hc,q⟩:=h
 obtain⟨t,rfl⟩:=rx
 obtain⟨t',rfl⟩:=ry
 exact rule i j t t' s _ _ hc ⟨.int (g i j),H,I.tok _,⟨_,rfl⟩,q⟩
theorem xX {f:Value->Value->Sem Value} {g:Int->Int->Int}
   (rule:∀(i j:Int) (t u:Tok) (s:Shared) (Q:Value->Shared->Prop) (E:Value->Shared->Prop),Q (.int (g i j) s.toks) {s with toks:=s.toks+1}->wpAny (model X.prog X.w) X.A (f (.int i t) (.int j u)) Q E s):
   ZB X f (xI λi j=>.int (g i j)):=by
 intro pins s σ H x y v u Q I rx ry h
 obtain⟨i,j,rfl,rfl,q⟩:=h
 obtain⟨t,rfl⟩:=rx
 obtain⟨t',rfl⟩:=ry
 exact rule i j t t' s _ _ ⟨.int (g i j),H,I.tok _,⟨_,rfl⟩,q⟩
theorem KA {f:Value->Value->Sem Value} {g:Int->Int->Bool}
   (rule:∀(i j:Int) (t u:Tok) (s:Shared) (Q:Value->Shared->Prop) (E:Value->Shared->Prop),Q (.bool (g i j)) s->wpAny (model X.prog X.w) X.A (f (.int i t) (.int j u)) Q E s):
   ZB X f (xI λi j=>.bl (g i j)):=by
 intro pins s σ H x y v u Q I rx ry h
 obtain⟨i,j,rfl,rfl,q⟩:=h
 obtain⟨t,rfl⟩:=rx
 obtain⟨t',rfl⟩:=ry
 exact rule i j t t' s _ _ ⟨.bl (g i j),H,I,rfl,q⟩
def qbI (i j:Int):Prop:=0 < j/\j < 1073741824
def qaE (i j:Int):Prop:=0<=j/\j<=1000000/\i.natAbs < 2^64
def Me (i j:Int):Prop:=(-(2^64) < i/\i < 2^64)\/(-(2^64) < j/\j < 2^64)
theorem Me.ok {i j:Int} (h:Me i j):IntMulOk i j:=by
 rcases h with ⟨h1,h2⟩ | ⟨h1,h2⟩
 . exact .of_left (intBits_le_64 h1 h2)
 . exact .of_right (intBits_le_64 h1 h2)
theorem Uk (k:Nat):(0:Int)<=2^k:=by
 rw[two_pow_cast]
 exact zcM _
theorem Qa:ZB X (binaryOp .Add) (xI λi j=>.int (i+j)):=xX λ_ _ _ _ _ _ _ q=>add_int q
theorem Nd:ZB X (binaryOp .Sub) (xI λi j=>.int (i - j)):=xX λ_ _ _ _ _ _ _ q=>sub_int q
theorem QU:ZB X (binaryOp .Mult) (rI Me λi j=>.int (i*j)):=Ng λ_ _ _ _ _ _ _ hc q=>mul_int q hc.ok
theorem Ky:ZB X (binaryOp .FloorDiv) (rI qbI λi j=>.int (i / j)):=Ng λi j _ _ _ _ _ hc q=>by
 have h1:(0:Int) < j:=hc.1
 have h2:j < 1073741824:=hc.2
 exact floordiv_int (by omega) (by rw[zbR i (by omega)];exact q) (.inl (PyProof.noPylong_small (by omega)))
theorem JJ:ZB X (binaryOp .Mod) (rI (λ_ j=>0 < j) λi j=>.int (i % j)):=Ng λi j _ _ _ _ _ hc q=>by
 have h1:(0:Int) < j:=hc
 exact mod_int' (by omega) (by rw[Int.fmod_eq_emod_of_nonneg i (by omega)];exact q)
theorem Nf:ZB X (binaryOp .Pow) (rI qaE λi j=>.int (i^j.toNat)):=Ng λ_ _ _ _ _ _ _ hc q=>pow_int_small hc.1 hc.2.1 hc.2.2 q
theorem xT:ZB X (binaryOp .LShift) (rI qaE λi j=>.int (i*2^j.toNat)):=Ng λ_ _ _ _ _ _ _ hc q=>lshift_int_small hc.1 hc.2.1 hc.2.2 q
theorem xR:ZB X (binaryOp .RShift) (rI (λ_ j=>0<=j) λi j=>.int (i / 2^j.toNat)):=Ng λi j _ _ _ _ _ hc q=>
 rshift_int hc (by rw[zbR i (Uk _)];exact q)
theorem xW:ZB X (binaryOp .BitAnd) (xI λi j=>.int (Builtin.bitAnd i j)):=xX λ_ _ _ _ _ _ _ q=>and_int q
theorem Rz:ZB X (binaryOp .BitOr) (xI λi j=>.int (Builtin.bitOr i j)):=xX λ_ _ _ _ _ _ _ q=>or_int q
theorem UE:ZB X (binaryOp .BitXor) (xI λi j=>.int (Builtin.bitXor i j)):=xX λ_ _ _ _ _ _ _ q=>xor_int q
end
def MH:V->V->Bool
 | .non,.non=>true | .non,.int _=>true | .int _,.non=>true | .non,.bl _=>true | .bl _,.non=>true | .non,.str _=>true | .str _,.non=>true
 | .int _,.int _=>true | .bl _,.bl _=>true | .str _,.str _=>true | .byt _,.byt _=>true
 | .int _,.str _=>true | .str _,.int _=>true | .bl _,.str _=>true | .str _,.bl _=>true
 | _,_=>false
def rEq:R2:=λx y H Q=>MH x y=true/\Q (.bl (decide (x=y))) H
def rNe:R2:=λx y H Q=>MH x y=true/\Q (.bl (!decide (x=y))) H
theorem kc {i j:Int}:decide (V.int i=V.int j)=(i==j):=by
 rw[zbf]
 simp
theorem uo {i j:Bool}:decide (V.bl i=V.bl j)=(i==j):=by
 rw[zbf]
 simp
theorem ka {i j:Str}:decide (V.str i=V.str j)=(i==j):=by
 rw[zbf]
 simp
theorem kh {i j:Array UInt8}:decide (V.byt i=V.byt j)=(i.toList==j.toList):=by
 rw[zbf]
 cases i
 cases j
 simp
section
variable {X:Cx} {a b c:Expr} {ta tb tc:TE} {pos:Pos}
theorem qZ {pins:List (Addr×Obj)} {σ:St} {H:Hp} {s:Shared} {Q:VK} {k k':Bool} (I:qF X pins σ H s) (q:Q (.bl k) H) (e:k=k'):EP X pins σ Q (.bool k') s:=by
 subst e
 exact⟨.bl k,H,I,rfl,q⟩
theorem jH:ZB X (compareOp .Eq) rEq:=by
 intro pins s σ H x y v u Q I rx ry h
 obtain⟨hs,q⟩:=h
 cases x with
 | non=>
   cases rx
   cases y with
   | non=>cases ry;exact PySem.EqNone.eq_none_none (qZ I q (by simp))
   | bl j=>cases ry;exact PySem.EqNone.eq_none_bool (qZ I q (by simp))
   | int j=>obtain⟨t',rfl⟩:=ry;exact PySem.EqNone.eq_none_int (qZ I q (by simp))
   | str j=>obtain⟨t',rfl⟩:=ry;exact PySem.EqNone.eq_none_str (qZ I q (by simp))
   | _=>exact absurd (show false=true from hs) tO
 | bl i=>
   cases rx
   cases y with
   | non=>cases ry;exact PySem.EqNone.eq_bool_none (qZ I q (by simp))
   | bl j=>cases ry;exact eq_bool (qZ I q uo)
   | str j=>obtain⟨t',rfl⟩:=ry;exact PySem.EqMixed.eq_bool_str (qZ I q (by simp))
   | _=>exact absurd (show false=true from hs) tO
 | int i=>
   obtain⟨t,rfl⟩:=rx
   cases y with
   | non=>cases ry;exact PySem.EqNone.eq_int_none (qZ I q (by simp))
   | int j=>obtain⟨t',rfl⟩:=ry;exact eq_int (qZ I q kc)
   | str j=>obtain⟨t',rfl⟩:=ry;exact PySem.EqMixed.eq_int_str (qZ I q (by simp))
   | _=>exact absurd (show false=true from hs) tO
 | str i=>
   obtain⟨t,rfl⟩:=rx
   cases y with
   | non=>cases ry;exact PySem.EqNone.eq_str_none (qZ I q (by simp))
   | bl j=>cases ry;exact PySem.EqMixed.eq_str_bool (qZ I q (by simp))
   | int j=>obtain⟨t',rfl⟩:=ry;exact PySem.EqMixed.eq_str_int (qZ I q (by simp))
   | str j=>obtain⟨t',rfl⟩:=ry;exact eq_str (qZ I q ka)
   | _=>exact absurd (show false=true from hs) tO
 | byt i=>
   obtain⟨t,rfl⟩:=rx
   cases y with
   | byt j=>obtain⟨t',rfl⟩:=ry;exact PySem.W.eq_bytes (qZ I q kh)
   | _=>exact absurd (show false=true from hs) tO
 | _=>cases y<;>exact absurd (show false=true from hs) tO
theorem VE:ZB X (compareOp .NotEq) rNe:=by
 intro pins s σ H x y v u Q I rx ry h
 obtain⟨hs,q⟩:=h
 cases x with
 | non=>
   cases rx
   cases y with
   | non=>cases ry;exact PySem.EqNone.ne_none_none (qZ I q (by simp))
   | bl j=>cases ry;exact PySem.EqNone.ne_none_bool (qZ I q (by simp))
   | int j=>obtain⟨t',rfl⟩:=ry;exact PySem.EqNone.ne_none_int (qZ I q (by simp))
   | str j=>obtain⟨t',rfl⟩:=ry;exact PySem.EqNone.ne_none_str (qZ I q (by simp))
   | _=>exact absurd (show false=true from hs) tO
 | bl i=>
   cases rx
   cases y with
   | non=>cases ry;exact PySem.EqNone.ne_bool_none (qZ I q (by simp))
   | bl j=>cases ry;exact ne_bool (qZ I q (congrArg not uo))
   | str j=>obtain⟨t',rfl⟩:=ry;exact PySem.EqMixed.ne_bool_str (qZ I q (by simp))
   | _=>exact absurd (show false=true from hs) tO
 | int i=>
   obtain⟨t,rfl⟩:=rx
   cases y with
   | non=>cases ry;exact PySem.EqNone.ne_int_none (qZ I q (by simp))
   | int j=>obtain⟨t',rfl⟩:=ry;exact ne_int (qZ I q (congrArg not kc))
   | str j=>obtain⟨t',rfl⟩:=ry;exact PySem.EqMixed.ne_int_str (qZ I q (by simp))
   | _=>exact absurd (show false=true from hs) tO
 | str i=>
   obtain⟨t,rfl⟩:=rx
   cases y with
   | non=>cases ry;exact PySem.EqNone.ne_str_none (qZ I q (by simp))
   | bl j=>cases ry;exact PySem.EqMixed.ne_str_bool (qZ I q (by simp))
   | int j=>obtain⟨t',rfl⟩:=ry;exact PySem.EqMixed.ne_str_int (qZ I q (by simp))
   | str j=>obtain⟨t',rfl⟩:=ry;exact ne_str (qZ I q (congrArg not ka))
   | _=>exact absurd (show false=true from hs) tO
 | byt i=>
   obtain⟨t,rfl⟩:=rx
   cases y with
   | byt j=>obtain⟨t',rfl⟩:=ry;exact PySem.W.ne_bytes (qZ I q (congrArg not kh))
   | _=>exact absurd (show false=true from hs) tO
 | _=>cases y<;>exact absurd (show false=true from hs) tO
theorem QV:ZB X (compareOp .Lt) (xI λi j=>.bl (decide (i < j))):=KA λ_ _ _ _ _ _ _ q=>lt_int q
theorem X4:ZB X (compareOp .LtE) (xI λi j=>.bl (decide (i<=j))):=KA λ_ _ _ _ _ _ _ q=>le_int q
theorem Yf:ZB X (compareOp .Gt) (xI λi j=>.bl (decide (j < i))):=KA λ_ _ _ _ _ _ _ q=>gt_int q
theorem vL:ZB X (compareOp .GtE) (xI λi j=>.bl (decide (j<=i))):=KA λ_ _ _ _ _ _ _ q=>ge_int q
theorem k6:ZB X (compareOp .In) (λx y H Q=>∃i j,x=.str i/\y=.str j/\Q (.bl (!(Builtin.Str.occurrences j i 0 j.length 1).isEmpty)) H):=by
 intro pins s σ H x y v u Q I rx ry h
 obtain⟨i,j,rfl,rfl,q⟩:=h
 obtain⟨t,rfl⟩:=rx
 obtain⟨t',rfl⟩:=ry
 exact in_str (qZ I q rfl)
theorem vK:ZB X (compareOp .IsNot) (λx y H Q=>y=.non/\Q (.bl (!decide (x=.non))) H):=by
 intro pins s σ H x y v u Q I rx ry h
 obtain⟨rfl,q⟩:=h
 cases ry
 refine isnot_none_gen (qZ I q ?_)
 cases x<;>first
   | (cases rx;rfl)
   | (obtain⟨t,rfl⟩:=rx;rfl)
theorem qC (b:Expr) {op:CmpOp} (h:op≠.In:=by decide) (h2:op≠.NotIn:=by decide):behindInMarks op b=false:=by
 have e1:(op==CmpOp.In)=false:=by cases op<;>first | rfl | exact absurd rfl h
 have e2:(op==CmpOp.NotIn)=false:=by cases op<;>first | rfl | exact absurd rfl h2
 cases b<;>simp [behindInMarks,e1,e2]
theorem Qo {op:CmpOp} {r:R2} (ho:ZB X (compareOp op) r) (ha:JE X a ta) (hb:JE X b tb) (hm:behindInMarks op b=false):JE X (.Compare a [op] [b] pos) (YO r ta tb):=.of (by
 have ha:=ha.to
 have hb:=hb.to
 intro pins s σ H Q I h
 exact wpAny_Compare1 (N2 ha hb I h λv u s2 x y H2 I2 rx ry q=>ho pins s2 σ H2 x y v u Q I2 rx ry q) hm)
def XV (t:TE):TT:=λσ H Q=>t σ H λx H'=>∃k,x=.bl k/\Q k H'
theorem qu {op:CmpOp} {r:R2} (ho:ZB X (compareOp op) r) (ha:JE X a ta) (hb:JE X b tb) (hm:behindInMarks op b=false):JT X (.Compare a [op] [b] pos) (XV (YO r ta tb)):=.of (by
 have ha:=ha.to
 have hb:=hb.to
 intro pins s σ H Q I h
 refine wpAny_isTrue_Compare1 (jk (ha pins s σ H _ I h) λv s1 ⟨x,H1,I1,r1,q1⟩=>jk (hb pins s1 σ H1 _ I1 q1) λu s2 ⟨y,H2,I2,r2,q2⟩=>
   jk (ho pins s2 σ H2 x y v u _ I2 r1 r2 q2) λc s3 ⟨z,H3,I3,r3,k,e,q3⟩=>?_) hm
 subst e
 cases r3
 exact wpAny_truthy_bool ⟨H3,I3,q3⟩)
theorem zS:(sizeLine:Nat) < 2^63:=by rw[sizeLine_eq];decide
theorem Xd:ZB X (binaryOp .Add) (λx y H Q=>∃i j,x=.str i/\y=.str j/\i.length+j.length<=sizeLine/\Q (.str (i++j)) H):=by
 intro pins s σ H x y v u Q I rx ry h
 obtain⟨i,j,rfl,rfl,hz,q⟩:=h
 obtain⟨t,rfl⟩:=rx
 obtain⟨t',rfl⟩:=ry
 exact add_str (λt' tk=>⟨.str (i++j),H,I.tok _,⟨_,rfl⟩,q⟩) hz
theorem Jl {x:V} {us:List Value} (r:qI [x] us):∃u,us=[u]/\qP x u:=by
 cases r with
 | cons r1 r2=>cases r2;exact⟨_,rfl,r1⟩
theorem Ri {x y:V} {us:List Value} (r:qI [x,y] us):∃u w',us=[u,w']/\qP x u/\qP y w':=by
 cases r with
 | cons r1 r2=>
   cases r2 with
   | cons r3 r4=>cases r4;exact⟨_,_,rfl,r1,r3⟩
theorem yJ (hc:X.calm=true):Q5 X (.builtin "max") (λxs H Q=>∃i j,xs=[.int i,.int j]/\Q (.int (if j > i then j else i)) H):=by
 intro pins s σ H xs us Q I r h
 obtain⟨i,j,rfl,q⟩:=h
 obtain⟨u,w',rfl,⟨t,rfl⟩,⟨t',rfl⟩⟩:=Ri r
 refine max_two_ints (I.ok.hd hc) λh' tk k=>⟨_,H,I.kept k,?_,q⟩
 by_cases hj:j > i
 . rw[if_pos hj,if_pos hj];exact⟨_,rfl⟩
 . rw[if_neg hj,if_neg hj];exact⟨_,rfl⟩
theorem zY:Q5 X (.type "int") (λxs H Q=>(∃i,xs=[.int i]/\Q (.int i) H)\/∃k,xs=[.bl k]/\Q (.int (if k then 1 else 0)) H):=by
 intro pins s σ H xs us Q I r h
 rcases h with ⟨i,rfl,q⟩ | ⟨k,rfl,q⟩
 . obtain⟨u,rfl,t,rfl⟩:=Jl r
   exact call_int_int ⟨.int i,H,I,⟨_,rfl⟩,q⟩
 . obtain⟨u,rfl,r1⟩:=Jl r
   cases r1
   exact call_int_bool ⟨.int (if k then 1 else 0),H,I.tok _,⟨_,rfl⟩,q⟩
end
structure U3 (h:Heap) (x dx C:Addr) (mA:Str->Option Value):Prop where
 obj:h.get? x=some (zbq C dx)
 ns:h.Ns1 dx mA
 ne:dx≠x
theorem yk {h:Heap} {dx:Addr} {mA:Str->Option Value} (n:h.Ns1 dx mA):∃od,h.get? dx=some od/\∀name,zcN name od=some (mA name):=by
 obtain⟨o,es,ep,ho,hd,hk,_,hm⟩:=n
 refine⟨o,ho,λname=>?_⟩
 have e:=hm name
 unfold nsFind findBy at e
 rw[<-Array.find?_toList]at e
 unfold zcN
 rw[hd]
 dsimp only
 split
 . rename_i y q
   rw[q]at e
   exact congrArg some e
 . rename_i q
   rw[q]at e
   have a:es.toList.any (·.refKey)=false:=by
     rw[List.any_eq_false]
     intro y hy
     obtain⟨z,t,hkey⟩:=hk y (Array.mem_toList_iff.mp hy)
     simp [DictEntry.refKey,hkey]
   have a':¬es.toList.any (·.refKey)=true:=by rw[a];exact tO
   rw[if_neg a']
   exact congrArg some e
theorem U3.look {h:Heap} {x dx C:Addr} {mA:Str->Option Value} (I:U3 h x dx C mA):∃od,PySem.W.InstAt h x (zbq C dx) C (some od)/\∀name,zcN name od=some (mA name):=
 let ⟨od,ho,hl⟩:=yk I.ns
 ⟨od,⟨I.obj,rfl,rfl,ho⟩,hl⟩
section
variable {prog:Program} {w:World} {A:Around} {E:Value->Shared->Prop} {s:Shared} {K:PySem.W.Frag} {x dx C f:Addr} {mA:Str->Option Value} {name:Str} {v:Value}
theorem Gp {expr:Bool} {Q:Value->Shared->Prop} (X:K.In s.heap) (I:U3 s.heap x dx C mA) (hg:zbt K C name=true) (hh:zbc K C=true)
   (ha:tR K (.ref C) name=some none) (hv:mA name=some v) (hv':zdQ v=true) (h:Q v {s with toks:=s.toks+1}):
   wpAny (model prog w) A (getAttr (.ref x) name expr) Q E s:=by
 obtain⟨od,J,hl⟩:=I.look
 exact PySem.W.get_value X J (zcF hg).1 (PySem.W.findObj_own hh ha rfl (by rw[hl,hv])) hv' h
theorem w9 {pl:Sem Bool} {Q:Value×List Value->Shared->Prop} (X:K.In s.heap) (I:U3 s.heap x dx C mA) (hg:zbt K C name=true)
   (hf:tR K (.ref C) name=some (some (.ref f))) (ht:zaI K (.ref f)=true) (hv:mA name=none) (h:Q (.ref f,[.ref x]) s):
   wpAny (model prog w) A (getMethod (.ref x) name pl) Q E s:=by
 obtain⟨od,J,hl⟩:=I.look
 exact PySem.W.method_fn X J (zcF hg).1 (zcF hg).2 hf (beq_iff_eq.mp ht) (by show (zcN name od).map (·.isSome)=some false;rw[hl,hv];rfl) h
theorem u4 {ns:List Str} {Q:Unit->Shared->Prop} (X:K.In s.heap) (I:U3 s.heap x dx C mA)
   (hs:tR K (.ref C) "__setattr__"=some (some (.builtin "object.__setattr__"))) (hp:zbO K C=true) (ht:zdn K C name=some none) (hh:zbc K C=true)
   (hw:PySem.Within mA ns) (hsz:ns.length<=sizeLine)
   (h:∀h',U3 h' x dx C (λy=>if y=name then some v else mA y)->Heap.SameBut dx s.heap h'->Q () {s with heap:=h',toks:=s.toks+2}):
   wpAny (model prog w) A (setAttr (.ref x) name v) Q E s:=by
 obtain⟨od,J,hl⟩:=I.look
 refine PySem.W.set_plain X J hs (PySem.W.osa_open (s:={s with toks:=s.toks+1}) (r:=none) X J hp ht λb=>?_)
 obtain⟨cd,hc,hd'⟩:=PySem.W.any_some hh
 have hx:s.heap.get? x=some ⟨.ref C,some dx,.plain,#[]⟩:=I.obj
 refine wpAny_bind (wpAny_pure (wpAny_bind (wpAny_bind (wpAny_loadPart hx (wpAny_bind (PySem.W.Looks.here (s:={s with toks:=s.toks+1}) (PySem.W.looks_clsIn X hc) ?_))))))
 rw[hd']
 refine wpAny_pure (a:=some dx) (wpAny_bind (wpAny_pure (wpAny_bind ?_)))
 refine wpAny_nsSet1 (s:={s with toks:=s.toks+1}) I.ns λh' hn2 hs2=>?_
 obtain⟨oD,esD,epD,hoD,hdD,hcD⟩:=hn2.count (PySem.Within.cons name v hw)
 refine wpAny_bind (wpAny_lookBehind hoD (by rw[hdD];exact pastItsLine_dict (zac hcD (by rw[zau];omega))) ?_)
 exact wpAny_pure (h _ ⟨(hs2.2 _ (Ne.symm I.ne)).trans I.obj,hn2,I.ne⟩ hs2)
theorem wA {R:Result->Shared->Prop} {vs:List Value} {kw:List (Str×Value)} (X:K.In s.heap) (hm:zce K C=true)
   (hi:tR K (.ref C) "__init__"=some (some (.ref f))) (hf:zdU K (.ref f)=some (.type "function"))
   (h:codeAny (model prog w) (A.under (.builtin "type.__call__" ⟨.ref C::vs,kw⟩)) (.call (.ref f) ⟨.ref (s.heap.objs.size+1)::vs,kw⟩) (PySem.W.InitBack (s.heap.objs.size+1) R)
     {s with heap:=(s.heap.push zaO).push (zbq C s.heap.objs.size)}):
   codeAny (model prog w) A (.call (.ref C) ⟨vs,kw⟩) R s:=by
 obtain⟨hh,g,d,t,os⟩:=s
 exact PySem.W.make_core (PySem.W.makes_of X hm) (zdu X hi) (λself=>PySem.W.bind_fn X self hf) (.inl rfl) h
end
def JF (f:Str) (v:V):List (Str×V)->List (Str×V)
 | []=>[(f,v)]
 | (g,x)::r=>if g=f then (g,v)::r else (g,x)::JF f v r
theorem Yg (f g:Str) (v:V):∀fs:List (Str×V),(JF f v fs).lookup g=if g=f then some v else fs.lookup g
 | []=>by
   show zbg g [(f,v)]=_
   by_cases h:g=f
   . have hb:(g==f)=true:=beq_iff_eq.mpr h
     simp only[zbg,hb,if_pos h]
   . have hb:(g==f)=false:=beq_eq_false_iff_ne.mpr h
     simp only[zbg,hb,if_neg h]
 | (k,x)::r=>by
   have ih:=Yg f g v r
   rw[show JF f v ((k,x)::r)=(if k=f then (k,v)::r else (k,x)::JF f v r) from rfl]
   by_cases hk:k=f
   . rw[if_pos hk]
     by_cases h:g=k
     . have hb:(g==k)=true:=beq_iff_eq.mpr h
       simp only[zbg,hb,if_pos (h.trans hk)]
     . have hb:(g==k)=false:=beq_eq_false_iff_ne.mpr h
       simp only[zbg,hb,if_neg (λe:g=f=>h (e.trans hk.symm))]
   . rw[if_neg hk]
     by_cases h:g=k
     . have hb:(g==k)=true:=beq_iff_eq.mpr h
       simp only[zbg,hb,if_neg (λe:g=f=>hk (h.symm.trans e))]
     . have hb:(g==k)=false:=beq_eq_false_iff_ne.mpr h
       simp only[zbg,hb]
       exact ih
theorem zT (f:Str) (v:V):∀fs:List (Str×V),f∈(JF f v fs).map (·.1)/\∀g,g∈fs.map (·.1)->g∈(JF f v fs).map (·.1)
 | []=>⟨by simp [JF],λg h=>by simp at h⟩
 | (k,x)::r=>by
   obtain⟨i1,i2⟩:=zT f v r
   rw[show JF f v ((k,x)::r)=(if k=f then (k,v)::r else (k,x)::JF f v r) from rfl]
   by_cases hk:k=f
   . rw[if_pos hk]
     subst hk
     exact⟨by simp,λg h=>by simpa using h⟩
   . rw[if_neg hk]
     refine⟨?_,λg h=>?_⟩
     . rw[tW]
       exact tZ _ i1
     . rw[tW]at h ⊢
       rcases tY.mp h with e | e
       . exact tY.mpr (.inl e)
       . exact tZ _ (i2 g e)
theorem Yh (f:Str) (v:V):∀fs:List (Str×V),(JF f v fs).length<=fs.length+1
 | []=>by simp [JF]
 | (k,x)::r=>by
   have ih:=Yh f v r
   rw[show JF f v ((k,x)::r)=(if k=f then (k,v)::r else (k,x)::JF f v r) from rfl]
   by_cases hk:k=f
   . rw[if_pos hk,zau,zau];omega
   . rw[if_neg hk,zau,zau];omega
theorem Zo.some_of {v:V} {o:Option Value} (r:Zo (some v) o):∃u,o=some u/\qP v u:=by
 cases o with
 | none=>exact(show False from r).elim
 | some u=>exact⟨u,rfl,r⟩
theorem Zo.none_of {o:Option Value} (r:Zo none o):o=none:=by
 cases o with
 | none=>rfl
 | some u=>exact(show False from r).elim
theorem yy {v:V} {u:Value} (r:qP v u):zdQ u=true:=by
 cases v with
 | non=>cases (show u=Value.none from r);rfl
 | bl b=>cases (show u=Value.bool b from r);rfl
 | int i=>obtain⟨t,e⟩:=(show ∃t,u=Value.int i t from r);cases e;rfl
 | str x=>obtain⟨t,e⟩:=(show ∃t,u=Value.str x t from r);cases e;rfl
 | byt b=>obtain⟨t,e⟩:=(show ∃t,u=Value.bytes b t from r);cases e;rfl
 | flt b=>obtain⟨t,e⟩:=(show ∃t,u=Value.float b t from r);cases e;rfl
 | ref a=>cases (show u=Value.ref a from r);rfl
 | ty n=>cases (show u=Value.type n from r);rfl
section
variable {P:Program} {w:World} {H H':Hp} {h h':Heap} {a C dx:Addr} {fs fs':List (Str×V)}
theorem YH (hok:J5 P w H h) (e:H a=some (.ins C dx fs)):∃mA,U3 h a dx C mA/\(∀f,Zo (fs.lookup f) (mA f))/\PySem.Within mA (fs.map (·.1))/\fs.length<=1000/\H dx=some (.own a):=by
 obtain⟨d,z,ne,ob,mA,n,r,q⟩:=(show qS P w H h a (.ins C dx fs) from hok a _ e)
 exact⟨mA,⟨ob,n,ne⟩,r,q,z,d⟩
end
structure XH (K:PySem.W.Frag) (C:Addr):Prop where
 pg:zbt K C Str.empty=true
 hd:zbc K C=true
 po:zbO K C=true
 sa:tR K (.ref C) "__setattr__"=some (some (.builtin "object.__setattr__"))
theorem XH.get {K:PySem.W.Frag} {C:Addr} (c:XH K C) (f:Str):zbt K C f=true:=c.pg
def Qr (K:PySem.W.Frag) (C:Addr) (f:Str):Prop:=tR K (.ref C) f=some none
theorem Qr.taker {K:PySem.W.Frag} {C:Addr} {f:Str} (n:Qr K C f):zdn K C f=some none:=by
 unfold zdn
 rw[show tR K (.ref C) f=some none from n]
 rfl
structure Con (K:PySem.W.Frag) (C:Addr) (f:Str) (v:V) (u:Value):Prop where
 at_:tR K (.ref C) f=some (some u)
 rel:qP v u
 get:zcY K u "__get__"=some none
 cp:PySem.W.copiedNames.contains f=false
structure XQ (K:PySem.W.Frag) (C:Addr) (m:Str) (f:Addr):Prop where
 at_:tR K (.ref C) m=some (some (.ref f))
 fn:zaI K (.ref f)=true
 kp:zaC K (.ref f)=true
section
variable {X:Cx} {pins:List (Addr×Obj)} {σ:St} {H:Hp} {s:Shared} {a C dx:Addr} {fs:List (Str×V)} {f:Str} {v:V} {A:Around} {E:Value->Shared->Prop}
theorem UU {b:Bool} {Q:Value->Shared->Prop} (I:qF X pins σ H s) (e:H a=some (.ins C dx fs)) (c:XH X.K C) (n:Qr X.K C f) (l:fs.lookup f=some v)
   (h:∀u s',qF X pins σ H s'->qP v u->Q u s'):wpAny (model X.prog X.w) A (getAttr (.ref a) f b) Q E s:=by
 obtain⟨mA,O,r,_,_,_⟩:=YH I.hok e
 obtain⟨u,hu,ru⟩:=Zo.some_of (v:=v) (o:=mA f) (by rw[<-l];exact r f)
 exact Gp I.kIn O (c.get f) c.hd n hu (yy ru) (h u _ (I.tok _) ru)
theorem Qw {m:Str} {g:Addr} {pl:Sem Bool} {Q:Value×List Value->Shared->Prop} (I:qF X pins σ H s) (e:H a=some (.ins C dx fs)) (c:XH X.K C) (k:XQ X.K C m g) (l:fs.lookup m=none)
   (h:Q (.ref g,[.ref a]) s):wpAny (model X.prog X.w) A (getMethod (.ref a) m pl) Q E s:=by
 obtain⟨mA,O,r,_,_,_⟩:=YH I.hok e
 have hn:mA m=none:=Zo.none_of (by rw[<-l];exact r m)
 exact w9 I.kIn O (c.get m) k.at_ k.fn hn h
theorem Uw {y:V} {u:Value} {Q:Unit->Shared->Prop} (I:qF X pins σ H s) (e:H a=some (.ins C dx fs)) (c:XH X.K C) (n:Qr X.K C f) (hl:fs.length < 1000) (ry:qP y u)
   (h:∀s',qF X pins σ (upd H a (.ins C dx (JF f y fs))) s'->Q () s'):wpAny (model X.prog X.w) A (setAttr (.ref a) f u) Q E s:=by
 obtain⟨mA,O,r,wi,_,ho⟩:=YH I.hok e
 have hz:(fs.map (·.1)).length<=sizeLine:=by rw[tj,sizeLine_eq];omega
 refine u4 I.kIn O c.sa c.po n.taker c.hd wi hz λh' O' sb=>h _ ?_
 have hd:∃o,h'.get? dx=some o:=let ⟨o,_,_,e',_⟩:=O'.ns;⟨o,e'⟩
 refine I.write (x:=a) (e:=dx) (by rw[e];exact True.intro) (.inr ho) (λb q hb z=>(sb.2 b hb).trans z) hd ?_
 refine⟨by rw[qi O.ne];exact ho,?_,O.ne,O'.obj,_,O'.ns,λg=>?_,λg hg=>?_⟩
 . have:=Yh f y fs;omega
 . show Zo ((JF f y fs).lookup g) (if g=f then some u else mA g)
   rw[Yg]
   by_cases q:g=f
   . rw[if_pos q,if_pos q];exact ry
   . rw[if_neg q,if_neg q];exact r g
 . by_cases q:g=f
   . rw[q];exact(zT f y fs).1
   . refine(zT f y fs).2 g (wi g λz=>hg ?_)
     show (if g=f then some u else mA g)=none
     rw[if_neg q];exact z
theorem qF.made (I:qF X pins σ H s):qF X pins σ (upd (upd H s.heap.objs.size (.own (s.heap.objs.size+1))) (s.heap.objs.size+1) (.ins C s.heap.objs.size []))
   {s with heap:=(s.heap.push zaO).push (zbq C s.heap.objs.size)}:=by
 have e1:(s.heap.push zaO).get? s.heap.objs.size=some zaO:=tU s.heap rfl
 have e2:((s.heap.push zaO).push (zbq C s.heap.objs.size)).get? (s.heap.objs.size+1)=some (zbq C s.heap.objs.size):=by
   have:=tU (s.heap.push zaO) (o:=zbq C s.heap.objs.size) rfl
   rwa [zbn]at this
 have e3:(s.heap.push zaO).Ns s.heap.objs.size (λ_=>none):=⟨zaO,#[],_,e1,rfl,(λe he=>absurd he (by simp)),λ_=>rfl⟩
 have I1:=I.laid (a:=s.heap.objs.size) (o:=.own (s.heap.objs.size+1)) (h':=s.heap.push zaO) (t':=s.toks) (λb u q=>tu _ q) (tE _) ⟨_,e1⟩
 refine I1.laid (a:=s.heap.objs.size+1) (o:=.ins C s.heap.objs.size []) (t':=s.toks) (λb u q=>tu _ q) (zdk (zbn _ _)) ?_
 have ne:s.heap.objs.size≠s.heap.objs.size+1:=tV (zaJ _)
 refine⟨by rw[qi ne,qe],zat _,ne,e2,λ_=>none,(Heap.Ns1.of_empty e3).at λo q=>tu _ q,λ_=>True.intro,λy hy=>absurd rfl hy⟩
theorem GY {prog:Program} {w:World} {env:Env} {e:Expr} {f:Str} {pos:Pos} {s:Shared} {Q:Value->Shared->Prop} (hb:attributeBase e f env (eval e env)=eval e env)
   (h:wpAny (model prog w) A (eval e env) (λo s₁=>wpAny (model prog w) A (getAttr o f true) Q E s₁) E s):wpAny (model prog w) A (eval (.Attribute e f pos) env) Q E s:=
 Attribute_any_ h (by rw[arm_eval_Attribute,hb])
end
def qaX (K:PySem.W.Frag) (ta:TE) (f:Str):TE:=λσ H Q=>ta σ H λx H1=>∃a C dx fs v,x=.ref a/\H1 a=some (.ins C dx fs)/\XH K C/\Qr K C f/\fs.lookup f=some v/\Q v H1
def qa8 (K:PySem.W.Frag) (ta tv:TE) (f:Str):TS:=λD σ H=>tv σ H λy H1=>ta σ H1 λx H2=>∃a C dx fs,x=.ref a/\H2 a=some (.ins C dx fs)/\XH K C/\Qr K C f/\fs.length < 1000/\
 D.nx σ (upd H2 a (.ins C dx (JF f y fs)))
section
variable {X:Cx} {o e value:Expr} {f:Str} {pos pos' tpos:Pos} {ta tv:TE}
theorem Q0 (he:JE X e ta) (hb:attributeBase e f X.env (eval e X.env)=eval e X.env):JE X (.Attribute e f pos) (qaX X.K ta f):=.of (by
 have he:=he.to
 intro pins s σ H Q I h
 refine GY hb (jk (he pins s σ H _ I h) λu s1 ⟨x,H1,I1,rx,a,C,dx,fs,v,ex,ea,c,n,l,q⟩=>?_)
 subst ex
 obtain rfl:u=Value.ref a:=rx
 exact UU I1 ea c n l λu' s2 I2 ru=>⟨v,H1,I2,ru,q⟩)
theorem WX (ha:JE X o ta) (hv:JE X value tv) (hs:swapsWith value (some (.Attribute o f pos')) pos.line X.env=pure false):JS X (.Assign [.Attribute o f pos'] value pos) (qa8 X.K ta tv f):=.of (by
 have ha:=ha.to
 have hv:=hv.to
 intro pins s σ H D I h
 refine plainObj_wpAny_Assign_Attribute (jk (hv pins s σ H _ I h) λu s1 ⟨y,H1,I1,ry,q⟩=>jk (ha pins s1 σ H1 _ I1 q) λov s2 ⟨x,H2,I2,rx,a,C,dx,fs,ex,ea,c,n,l,q2⟩=>?_) hs
 subst ex
 obtain rfl:ov=Value.ref a:=rx
 exact Uw I2 ea c n l ry λs3 I3=>⟨σ,_,I3,q2⟩)
end
section
variable {X:Cx} {pins:List (Addr×Obj)} {σ:St} {H:Hp} {s:Shared} {A:Around} {E:Value->Shared->Prop} {Q:Value->Shared->Prop} {c:Value} {b:Bool}
inductive z5 (K:PySem.W.Frag) (H:Hp):V->Value->Prop where
 | non:z5 K H .non (.type "NoneType")
 | bl (x:Bool):z5 K H (.bl x) (.type "bool")
 | int (i:Int):z5 K H (.int i) (.type "int")
 | str (x:Str):z5 K H (.str x) (.type "str")
 | flt (x:UInt64):z5 K H (.flt x) (.type "float")
 | lst {a:Addr} {xs:List V} (e:H a=some (.lst xs)):z5 K H (.ref a) (.type "list")
 | frz {a:Addr} {o:Obj} {xs:List V} (e:H a=some (.frz o (.lst xs))):z5 K H (.ref a) (.type "list")
 | tup {a:Addr} {xs:List V} (e:H a=some (.tup xs)):z5 K H (.ref a) (.type "tuple")
 | dK {a:Addr} {kvs:List (qL×V)} (e:H a=some (.dK kvs)):z5 K H (.ref a) (.type "dict")
 | dT {a:Addr} {kvs:List (List qL×V)} (e:H a=some (.dT kvs)):z5 K H (.ref a) (.type "dict")
 | ins {a C dx:Addr} {fs:List (Str×V)} (e:H a=some (.ins C dx fs)) (cl:XH K C) (ha:tR K (.ref C) "__class__"=some (some (.builtin "object.__class__")))
     (hn:zcY K (.builtin "object.__class__") "__get__"=some (some (.builtin "getset_descriptor.__get__"))) (htk:zdT K (.builtin "object.__class__")=some true)
     (hm:zbz K C (.type "object")=some true):z5 K H (.ref a) (.ref C)
theorem yr {x:V} {u t:Value} (I:qF X pins σ H s) (rx:qP x u) (ty:z5 X.K H x t) (e:zaR X.K t c=some b) (h:∀tk,Q (.bool b) {s with toks:=tk}):
   wpAny (model X.prog X.w) A (call (.builtin "isinstance") [u,c]) Q E s:=by
 cases ty with
 | non=>cases (show u=Value.none from rx);exact zaT PySem.W.kitx_none I.kIn True.intro e (λz=>nomatch z) h
 | bl y=>cases (show u=Value.bool y from rx);exact zaT PySem.W.kitx_bool I.kIn True.intro e (λz=>nomatch z) h
 | int i=>obtain⟨t,q⟩:=(show ∃t,u=Value.int i t from rx);cases q;exact zaT PySem.W.kitx_int I.kIn True.intro e (λz=>nomatch z) h
 | str y=>obtain⟨t,q⟩:=(show ∃t,u=Value.str y t from rx);cases q;exact zaT PySem.W.kitx_str I.kIn True.intro e (λz=>nomatch z) h
 | flt y=>obtain⟨t,q⟩:=(show ∃t,u=Value.float y t from rx);cases q;exact zaT PySem.W.kitx_float I.kIn True.intro e (λz=>nomatch z) h
 | @lst a xs ea=>
   cases (show u=Value.ref a from rx)
   obtain⟨_,_,n,_,h1⟩:=(show qS X.prog X.w H s.heap a (.lst xs) from I.hok a _ ea)
   exact zaT zdJ I.kIn ⟨_,h1,rfl⟩ e (λz=>nomatch z) h
 | @frz a ob xs ea=>
   cases (show u=Value.ref a from rx)
   obtain⟨_,_,_,n,_,h1⟩:=(show qS X.prog X.w H s.heap a (.frz ob (.lst xs)) from I.hok a _ ea)
   exact zaT zdJ I.kIn ⟨_,h1,rfl⟩ e (λz=>nomatch z) h
 | @tup a xs ea=>
   cases (show u=Value.ref a from rx)
   obtain⟨_,_,_,p⟩:=(show qS X.prog X.w H s.heap a (.tup xs) from I.hok a _ ea)
   obtain⟨o,h1,h2,_⟩:=p
   exact zaT PySem.W.kitx_tuple I.kIn ⟨o,h1,h2⟩ e (λz=>nomatch z) h
 | @dK a kvs ea=>
   cases (show u=Value.ref a from rx)
   obtain⟨_,_,vs,_,p⟩:=(show qS X.prog X.w H s.heap a (.dK kvs) from I.hok a _ ea)
   obtain⟨o,es,ep,h1,h2,_⟩:=p
   exact zaT zdK I.kIn ⟨o,h1,h2.1⟩ e (λz=>nomatch z) h
 | @dT a kvs ea=>
   cases (show u=Value.ref a from rx)
   obtain⟨_,_,xs,_,o,es,ep,h1,h2,_⟩:=(show qS X.prog X.w H s.heap a (.dT kvs) from I.hok a _ ea)
   exact zaT zdK I.kIn ⟨o,h1,h2.1⟩ e (λz=>nomatch z) h
 | @ins a C dx fs ea cl ha hn htk hm=>
   cases (show u=Value.ref a from rx)
   obtain⟨mA,O,_⟩:=YH I.hok ea
   obtain⟨od,J,_⟩:=O.look
   exact zaT (PySem.W.kitx_own (cl.get _) cl.hd ha hn htk hm) I.kIn J e (λz=>nomatch z) h
end
structure qV (k:Nat) (A:Around):Prop where
 hd:A.handled=none
 dp:A.depth+3*k+5 < recursionLimit
 un:A.units+16*k+200 < cLine
 gd:A.guards=some []
theorem qV.mono {j k:Nat} {A:Around} (r:qV k A) (h:j<=k):qV j A:=⟨r.hd,by have:=r.dp;omega,by have:=r.un;omega,r.gd⟩
theorem qV.deeper {k:Nat} {A:Around} (r:qV (k+1) A) (env:Env):qV k (A.deeper env):=
 ⟨r.hd,by have:=r.dp;show A.depth+1+3*k+5 < _;omega,by have:=r.un;show A.units+3+16*k+200 < _;omega,r.gd⟩
theorem qV.in1 {k:Nat} {A:Around} (r:qV (k+1) A):qV k A.in1:=
 ⟨r.hd,by have:=r.dp;show A.depth+3*k+5 < _;omega,by have:=r.un;show A.units+1+16*k+200 < _;omega,r.gd⟩
theorem UN {A:Around} {C:Addr} {us:List Value} {kw:List (Str×Value)}:(A.under (.builtin "type.__call__" ⟨.ref C::us,kw⟩)).depth=A.depth+1:=by
 first | rfl | simp [Around.under,Code.weight,Code.isCreation,Code.isGuard,Code.isCaller,Code.frames,Code.isFrame,guardIds]
theorem UM {A:Around} {C:Addr} {us:List Value} {kw:List (Str×Value)}:(A.under (.builtin "type.__call__" ⟨.ref C::us,kw⟩)).units=A.units+1:=by
 first | rfl | simp [Around.under,Code.cUnits,Code.frames,Code.isFrame]
theorem qV.make {k:Nat} {A:Around} (r:qV (k+1) A) (C:Addr) (us:List Value) (kw:List (Str×Value)):qV k (A.under (.builtin "type.__call__" ⟨.ref C::us,kw⟩)):=
 ⟨r.hd,by have:=r.dp;rw[UN];omega,by have:=r.un;rw[UM];omega,(by have:=r.gd;first | exact this | simpa [Around.under,Code.isGuard,guardIds] using this)⟩
theorem qV.depth {k:Nat} {A:Around} (r:qV k A):A.depth < recursionLimit:=by have:=r.dp;omega
theorem qV.units {k:Nat} {A:Around} (r:qV k A):A.units+64 < cLine:=by have:=r.un;omega
def Zc:TA:=λ_ H Q=>Q [] H
def j3 (ta:TE) (tr:TA):TA:=λσ H Q=>ta σ H λx H1=>tr σ H1 λxs H2=>Q (x::xs) H2
section
variable {X:Cx} {e:Expr} {es:List Expr} {te:TE} {t:TA} {pos:Pos}
theorem qg:JA X [] Zc:=.of (by
 exact λ_ _ _ _ H Q I h=>Calls.spliced_nil ⟨[],H,I,.nil,h⟩)
theorem qd (ha:JE X e te) (hr:JA X es t) (hs:starEach (e::es) X.env=(false,eval e X.env)::starEach es X.env:=by rfl):JA X (e::es) (j3 te t):=.of (by
 have ha:=ha.to
 have hr:=hr.to
 intro pos pins s σ H Q I h
 rw[hs]
 show wpAny _ _ (spliced ((false,eval e X.env)::backTo pos (starEach es X.env))) _ _ s
 refine Calls.spliced_cons (jk (ha pins s σ H _ I h) λu s1 ⟨x,H1,I1,r1,q1⟩=>?_)
 exact jk (hr pos pins s1 σ H1 _ I1 q1) λus s2 ⟨xs,H2,I2,r2,q2⟩=>⟨x::xs,H2,I2,.cons r1 r2,q2⟩)
def yV (t:TA):TE:=λσ H Q=>t σ H λxs H1=>xs.length<=sizeLine/\∀p,H1 p=none->Q (.ref p) (upd H1 p (.tup xs))
def qaT (t:TA):TE:=λσ H Q=>t σ H λxs H1=>xs.length<=sizeLine/\∀p,H1 p=none->Q (.ref p) (upd H1 p (.lst xs))
theorem Qm {x1} (h:JA X es t):JE X (.Tuple es x1 pos) (yV t):=.of (by
 have h:=h.to
 intro pins s σ H Q I hq
 refine wpAny_Tuple_spliced (jk (h pos pins s σ H _ I hq) λus s1 ⟨xs,H1,I1,r,z,q⟩=>⟨by rw[<-r.length];exact z,?_⟩)
 have hf:H1 s1.heap.objs.size=none:=I1.hok.fresh (tE _)
 refine⟨.ref s1.heap.objs.size,upd H1 s1.heap.objs.size (.tup xs),I1.laid (t':=s1.toks) (λb u e=>tu _ e) (tE _) ?_,rfl,q _ hf⟩
 exact⟨z,us,r,⟨_,tU _ rfl,rfl,_,rfl⟩⟩)
theorem jS (h:JA X es t):JE X (.List es pos) (qaT t):=.of (by
 have h:=h.to
 intro pins s σ H Q I hq
 refine wpAny_List_spliced (jk (h pos pins s σ H _ I hq) λus s1 ⟨xs,H1,I1,r,z,q⟩=>⟨by rw[<-r.length];exact z,?_⟩)
 have hf:H1 s1.heap.objs.size=none:=I1.hok.fresh (tE _)
 refine⟨.ref s1.heap.objs.size,upd H1 s1.heap.objs.size (.lst xs),I1.laid (t':=s1.toks) (λb u e=>tu _ e) (tE _) ?_,rfl,q _ hf⟩
 exact⟨z,us,0,r,tU _ rfl⟩)
end
abbrev Sp:=List V->Hp->VK->XK->Prop
abbrev XF:=List Env->Hp->Shared->XK->Value->Shared->Prop
structure XD (P:Program) (w:World) (K:PySem.W.Frag) (mg:Str->Option Value) (base:Heap) (A:Around) (outer:List Env) (s:Shared) (H:Hp):Prop where
 frames:A.frames=some outer
 mod:Mod K mg base
 bs:∀b o,base.get? b=some o->s.heap.get? b=some o/\H b=none
 bsz:base.objs.size<=s.heap.objs.size
 funs:s.heap.FunFrames base outer
 frf:∀b∈XG outer,H b=none
 hok:J5 P w H s.heap
 bare:AllBare s.gens
def CE (outer:List Env) (P:Program) (w:World) (H:Hp) (s:Shared) (Q:VK) (u:Value) (s':Shared):Prop:=
 ∃v H',s'.os=s.os/\AllBare s'.gens/\Un (XG outer) [] H H' s.heap s'.heap/\J5 P w H' s'.heap/\qP v u/\Q v H'
def CR (CX:XF) (outer:List Env) (P:Program) (w:World) (H:Hp) (s:Shared) (Q:VK) (E:XK) (r:Result) (s':Shared):Prop:=
 match r with
 | .ok (.ret u)=>CE outer P w H s Q u s'
 | .ok _=>False
 | .error e=>CX outer H s E e s'
structure qm (P:Program) (w:World) (K:PySem.W.Frag) (mg:Str->Option Value) (base:Heap) (CX:XF) (k:Nat) (f:Addr) (fd:FuncData) (ps:List Str) (sp:Sp):Prop where
 len:∀vs H Q E,sp vs H Q E->vs.length=ps.length
 run:∀(A:Around) (outer:List Env) (s:Shared) (H:Hp) (args:Args) (us:List Value) (vs:List V) (Q:VK) (E:XK),qV k A->XD P w K mg base A outer s H->BindsTo s fd args (ps.zip us)->qI vs us->sp vs H Q E->
   codeAny (model P w) A (.call (.ref f) args) (CR CX outer P w H s Q E) s
theorem qm.imp {P:Program} {w:World} {K:PySem.W.Frag} {mg:Str->Option Value} {base:Heap} {CX:XF} {k:Nat} {f:Addr} {fd:FuncData} {ps:List Str} {sp sp':Sp} (F:qm P w K mg base CX k f fd ps sp)
   (h:∀vs H Q E,sp' vs H Q E->sp vs H Q E):qm P w K mg base CX k f fd ps sp':=
 ⟨λvs H Q E q=>F.len vs H Q E (h _ _ _ _ q),λA outer s H args us vs Q E hr he hb hv hs=>F.run A outer s H args us vs Q E hr he hb hv (h _ _ _ _ hs)⟩
theorem XD.make {P:Program} {w:World} {K:PySem.W.Frag} {mg:Str->Option Value} {base:Heap} {A:Around} {outer:List Env} {s:Shared} {H:Hp} (e:XD P w K mg base A outer s H) (C:Addr) (us:List Value) (kw:List (Str×Value)):
   XD P w K mg base (A.under (.builtin "type.__call__" ⟨.ref C::us,kw⟩)) outer s H:=⟨by first | exact e.frames | (simpa [Around.under,Code.envs,Code.isFrame,pushEnvs] using e.frames),e.mod,e.bs,e.bsz,e.funs,e.frf,e.hok,e.bare⟩
theorem XD.in1 {P:Program} {w:World} {K:PySem.W.Frag} {mg:Str->Option Value} {base:Heap} {A:Around} {outer:List Env} {s:Shared} {H:Hp} (e:XD P w K mg base A outer s H):
   XD P w K mg base A.in1 outer s H:=⟨e.frames,e.mod,e.bs,e.bsz,e.funs,e.frf,e.hok,e.bare⟩
section
variable {X:Cx} {pins:List (Addr×Obj)} {σ:St} {H:Hp} {s s':Shared}
theorem qF.env0 (I:qF X pins σ H s):XD X.prog X.w X.K X.mg X.base X.A X.stack s H:=
 ⟨I.ok.frames,I.ok.mod,I.bs,zac I.ok.bsz I.sz,I.stack,I.stkFree,I.hok,I.bare⟩
theorem qF.after {Q:VK} {u:Value} (I:qF X pins σ H s) (h:CE X.stack X.prog X.w H s Q u s'):EP X pins σ Q u s':=by
 obtain⟨v,H',os,bare,un,hok,r,q⟩:=h
 obtain⟨hh,g,d,t,os'⟩:=s'
 obtain rfl:os'=s.os:=os
 exact⟨v,H',I.call (h':=hh) (g':=g) (d':=d) (t':=t) (ch:=[]) un hok bare (λb z=>absurd z (by simp)),r,q⟩
end
def z9 (sp:Sp) (dvs:List V) (E:XK) (t:TA):TE:=λσ H Q=>t σ H λvs H1=>sp (vs++dvs) H1 Q E
def XW (C:Addr) (m:Str) (sp:Sp) (dvs:List V) (E:XK) (ta:TE) (t:TA):TE:=λσ H Q=>ta σ H λx H1=>∃a dx fs,x=.ref a/\H1 a=some (.ins C dx fs)/\fs.lookup m=none/\
 t σ H1 λvs H2=>sp (x::(vs++dvs)) H2 Q E
def Mt (C:Addr) (sp:Sp) (dvs:List V) (E:XK) (t:TA):TE:=λσ H Q=>t σ H λvs H1=>∀x dx,H1 x=none->H1 dx=none->dx≠x->
 sp (.ref x::(vs++dvs)) (upd (upd H1 dx (.own x)) x (.ins C dx [])) (λv H2=>v=.non/\Q (.ref x) H2) E
def jG (K:PySem.W.Frag) (fd:FuncData) (ps:List Str) (ds:List Value):Prop:=
 ∀(s:Shared) (us:List Value),K.In s.heap->(us++ds).length=ps.length->BindsTo s fd ⟨us,[]⟩ (ps.zip (us++ds))
theorem jG.all {K:PySem.W.Frag} {fd:FuncData} {ps:List Str} (h:∀us:List Value,us.length=ps.length->bindArgs fd ⟨us,[]⟩=pure (ps.zip us)):jG K fd ps []:=λs us _ hl=>by
 rw[zap]at hl ⊢
 exact .of_eq (h us hl)
def Qq (CX:XF) (X:Cx) (E:XK):Prop:=∀(pins:List (Addr×Obj)) (σ:St) (H:Hp) (s:Shared) (e:Value) (s':Shared),qF X pins σ H s->CX X.stack H s E e s'->X.xe e s'
section
variable {X:Cx} {CX:XF} {k:Nat} {f C:Addr} {fd:FuncData} {ps:List Str} {sp:Sp} {dvs:List V} {ds:List Value} {E:XK} {x m:Str} {p pos apos:Pos} {e o:Expr} {es:List Expr} {ta:TE} {t:TA}
theorem ZR {pins:List (Addr×Obj)} {σ:St} {H:Hp} {s:Shared} {Q:VK} {us:List Value} {vs:List V} (F:qm X.prog X.w X.K X.mg X.base CX k f fd ps sp) (hr:qV k X.A) (hb:jG X.K fd ps ds) (hd:qI dvs ds) (hx:Qq CX X E)
   (I:qF X pins σ H s) (r:qI vs us) (h:sp (vs++dvs) H Q E):wpAny (model X.prog X.w) X.A (call (.ref f) us) (EP X pins σ Q) X.xe s:=by
 have r2:qI (vs++dvs) (us++ds):=r.append hd
 have hl:(us++ds).length=ps.length:=by rw[<-r2.length];exact F.len _ _ _ _ h
 refine wpAny_call (codeAny_mono (F.run X.A X.stack s H ⟨us,[]⟩ (us++ds) (vs++dvs) Q E hr I.env0 (hb s us I.kIn hl) r2 h) λr s' hq=>?_)
 cases r with
 | error e=>exact hx pins σ H s e s' I hq
 | ok fl=>
   cases fl with
   | ret u=>exact I.after hq
   | next=>exact False.elim hq
   | brk=>exact False.elim hq
   | cont=>exact False.elim hq
theorem vJ (F:qm X.prog X.w X.K X.mg X.base CX k f fd ps sp) (hr:qV k X.A) (hg:Gl X x) (hm:X.mg x=some (.ref f)) (hk:zaC X.K (.ref f)=true) (hb:jG X.K fd ps ds) (hd:qI dvs ds) (hx:Qq CX X E)
   (ha:PA X (e::es) t) (hdb:(x==("__debug__":Str))=false:=by decide) (he:starEach (e::es) X.env=(false,eval e X.env)::starEach es X.env:=by rfl) (hpl:(backTo pos (starEach es X.env)).any (·.1)=false:=by rfl):
   PE X (.Call (.Name x p) (e::es) [] pos) (z9 sp dvs E t):=by
 intro pins s σ H Q I h
 refine wpAny_Call_Name_kw (YE I hg hm ?_ hdb)
 refine zbw (h₀:=X.base) I.ok.mod.kin hk (jk (ha pos pins s σ H _ I h) λus s1 ⟨vs,H1,I1,r,q⟩=>⟨I1.kIn,?_⟩) he hpl
 exact ZR F hr hb hd hx I1 r q
theorem Kt {pl:Sem Bool} (he:PE X o ta) (c:XH X.K C) (hm:XQ X.K C m f) (F:qm X.prog X.w X.K X.mg X.base CX k f fd ps sp) (hr:qV k X.A) (hb:jG X.K fd ps ds) (hd:qI dvs ds) (hx:Qq CX X E) (ha:PA X (e::es) t)
   (hst:starEach (e::es) X.env=(false,eval e X.env)::starEach es X.env:=by rfl) (hpl:(backTo pos (starEach es X.env)).any (·.1)=false:=by rfl)
   (ht:eval (.Call (.Attribute o m apos) (e::es) [] pos) X.env=(do
     let ov <-eval o X.env
     standAt apos.atName
     let (f,first) <-holding [ov] (getMethod ov m pl)
     callWith pos f first (backTo pos (starEach (e::es) X.env)) (backToKw pos (keywordEach [] X.env))):=by rfl):
   PE X (.Call (.Attribute o m apos) (e::es) [] pos) (XW C m sp dvs E ta t):=by
 intro pins s σ H Q I h
 refine zbN (pl:=pl) (jk (he pins s σ H _ I h) λu s1 ⟨x,H1,I1,rx,a,dx,fs,ex,ea,l,q⟩=>?_) ht
 subst ex
 obtain rfl:u=Value.ref a:=rx
 refine Qw I1 ea c hm l ?_
 refine zbw (first:=[.ref a]) (h₀:=X.base) I.ok.mod.kin hm.kp (jk (ha pos pins s1 σ H1 _ I1 q) λus s2 ⟨vs,H2,I2,r,q2⟩=>⟨I2.kIn,?_⟩) hst hpl
 exact ZR (us:=.ref a::us) (vs:=.ref a::vs) F hr hb hd hx I2 (.cons rfl r) q2
theorem Gd {pl:Sem Bool} (he:JE X o ta) (c:XH X.K C) (hm:XQ X.K C m f) (F:qm X.prog X.w X.K X.mg X.base CX k f fd ps sp) (hr:qV k X.A) (hb:jG X.K fd ps ds) (hd:qI dvs ds) (hx:Qq CX X E) (ha:JA X (e::es) t) (hst:starEach (e::es) X.env=(false,eval e X.env)::starEach es X.env:=by rfl) (hpl:(backTo pos (starEach es X.env)).any (·.1)=false:=by rfl) (ht:eval (.Call (.Attribute o m apos) (e::es) [] pos) X.env=(do
     let ov <-eval o X.env
     standAt apos.atName
     let (f,first) <-holding [ov] (getMethod ov m pl)
     callWith pos f first (backTo pos (starEach (e::es) X.env)) (backToKw pos (keywordEach [] X.env))):=by rfl):JE X (.Call (.Attribute o m apos) (e::es) [] pos) (XW C m sp dvs E ta t):=.of (Kt he.to c hm F hr hb hd hx ha.to hst hpl ht)
theorem xM {pl:Sem Bool} (he:PE X o ta) (c:XH X.K C) (hm:XQ X.K C m f) (F:qm X.prog X.w X.K X.mg X.base CX k f fd ps sp) (hr:qV k X.A) (hb:jG X.K fd ps ds) (hd:qI dvs ds) (hx:Qq CX X E)
   (ht:eval (.Call (.Attribute o m apos) [] [] pos) X.env=(do
     let ov <-eval o X.env
     standAt apos.atName
     let (f,first) <-holding [ov] (getMethod ov m pl)
     callWith pos f first (backTo pos (starEach [] X.env)) (backToKw pos (keywordEach [] X.env))):=by rfl):
   PE X (.Call (.Attribute o m apos) [] [] pos) (XW C m sp dvs E ta Zc):=by
 intro pins s σ H Q I h
 refine zbN (pl:=pl) (jk (he pins s σ H _ I h) λu s1 ⟨x,H1,I1,rx,a,dx,fs,ex,ea,l,q⟩=>?_) ht
 subst ex
 obtain rfl:u=Value.ref a:=rx
 refine Qw I1 ea c hm l ?_
 exact zcG (first:=[.ref a]) I1.kIn hm.kp (ZR (us:=[.ref a]) (vs:=[.ref a]) F hr hb hd hx I1 (.cons rfl .nil) q)
theorem wN {pl:Sem Bool} (he:JE X o ta) (c:XH X.K C) (hm:XQ X.K C m f) (F:qm X.prog X.w X.K X.mg X.base CX k f fd ps sp) (hr:qV k X.A) (hb:jG X.K fd ps ds) (hd:qI dvs ds) (hx:Qq CX X E) (ht:eval (.Call (.Attribute o m apos) [] [] pos) X.env=(do
     let ov <-eval o X.env
     standAt apos.atName
     let (f,first) <-holding [ov] (getMethod ov m pl)
     callWith pos f first (backTo pos (starEach [] X.env)) (backToKw pos (keywordEach [] X.env))):=by rfl):JE X (.Call (.Attribute o m apos) [] [] pos) (XW C m sp dvs E ta Zc):=.of (xM he.to c hm F hr hb hd hx ht)
structure Mk (K:PySem.W.Frag) (C f:Addr):Prop where
 makes:zce K C=true
 init:tR K (.ref C) "__init__"=some (some (.ref f))
 fn:zaI K (.ref f)=true
 kp:zaC K (.ref C)=true
theorem xB {pins:List (Addr×Obj)} {σ:St} {H:Hp} {s:Shared} {Q:VK} {us:List Value} {vs:List V} (M:Mk X.K C f) (F:qm X.prog X.w X.K X.mg X.base CX k f fd ps sp) (hr:qV (k+1) X.A) (hb:jG X.K fd ps ds) (hd:qI dvs ds)
   (hx:Qq CX X E) (I:qF X pins σ H s) (r:qI vs us)
   (h:∀x dx,H x=none->H dx=none->dx≠x->sp (.ref x::(vs++dvs)) (upd (upd H dx (.own x)) x (.ins C dx [])) (λv H2=>v=.non/\Q (.ref x) H2) E):
   wpAny (model X.prog X.w) X.A (call (.ref C) us) (EP X pins σ Q) X.xe s:=by
 have hq:=h (s.heap.objs.size+1) s.heap.objs.size (I.hok.fresh (zdv _)) (I.hok.fresh (tE _)) (tV (zaJ _))
 have I2:=qF.made (C:=C) I
 have r2:qI (V.ref (s.heap.objs.size+1)::(vs++dvs)) (Value.ref (s.heap.objs.size+1)::(us++ds)):=.cons rfl (r.append hd)
 have hl:(Value.ref (s.heap.objs.size+1)::us++ds).length=ps.length:=by
   have e:=r2.length
   rw[F.len _ _ _ _ hq]at e
   exact e.symm
 refine wpAny_call (wA (f:=f) I.kIn M.makes M.init (beq_iff_eq.mp M.fn) (codeAny_mono (F.run _ X.stack _ _ ⟨Value.ref (s.heap.objs.size+1)::us,[]⟩ (Value.ref (s.heap.objs.size+1)::(us++ds)) _ _ E (hr.make C us [])
   (I2.env0.make C us []) (hb _ (Value.ref (s.heap.objs.size+1)::us) I2.kIn hl) r2 hq) λr s' hq'=>?_))
 cases r with
 | error e=>exact hx pins σ _ _ e s' I2 hq'
 | ok fl=>
   cases fl with
   | ret u=>
     obtain⟨v,H',I3,rv,ev,q3⟩:=I2.after hq'
     subst ev
     exact⟨rv,⟨V.ref (s.heap.objs.size+1),H',I3,rfl,q3⟩⟩
   | next=>exact False.elim hq'
   | brk=>exact False.elim hq'
   | cont=>exact False.elim hq'
theorem JR (M:Mk X.K C f) (F:qm X.prog X.w X.K X.mg X.base CX k f fd ps sp) (hr:qV (k+1) X.A) (hg:Gl X x) (hm:X.mg x=some (.ref C)) (hb:jG X.K fd ps ds) (hd:qI dvs ds) (hx:Qq CX X E) (ha:JA X (e::es) t) (hdb:(x==("__debug__":Str))=false:=by decide) (he:starEach (e::es) X.env=(false,eval e X.env)::starEach es X.env:=by rfl) (hpl:(backTo pos (starEach es X.env)).any (·.1)=false:=by rfl):JE X (.Call (.Name x p) (e::es) [] pos) (Mt C sp dvs E t):=.of (by
 have ha:=ha.to
 intro pins s σ H Q I h
 refine wpAny_Call_Name_kw (YE I hg hm ?_ hdb)
 refine zbw (h₀:=X.base) I.ok.mod.kin M.kp (jk (ha pos pins s σ H _ I h) λus s1 ⟨vs,H1,I1,r,q⟩=>⟨I1.kIn,?_⟩) he hpl
 exact xB M F hr hb hd hx I1 r q)
end
section
variable {X:Cx} {CX:XF} {k:Nat} {f C:Addr} {fd:FuncData} {ps ks:List Str} {sp:Sp} {E:XK} {x m:Str} {p pos apos kpos:Pos} {e o:Expr} {es:List Expr} {kws:List Keyword} {te ta:TE} {t tk:TA} {nm:Option Str}
structure qbE (K:PySem.W.Frag) (fd:FuncData) (ps ks:List Str) (g:List Value->List Value->List Value) (gV:List V->List V->List V):Prop where
 to:∀(s:Shared) (us ws:List Value),K.In s.heap->(g us ws).length=ps.length->BindsTo s fd ⟨us,ks.zip ws⟩ (ps.zip (g us ws))
 rel:∀{vs:List V} {us:List Value} {zs:List V} {ws:List Value},qI vs us->qI zs ws->qI (gV vs zs) (g us ws)
variable {g:List Value->List Value->List Value} {gV:List V->List V->List V}
end
structure qt (N P:List Str) (sc:Scope):Prop where
 kind:sc.kind=.function
 co:sc.isCoroutine=false
 gen:sc.isGenerator=false
 nd:N.Nodup
 pre:N.take P.length=P
 par:∀x∈P,sc.names.lookup x=some .local\/sc.names.lookup x=some .cell
 nofree:∀y∈sc.names,y.2≠.free
theorem Wj {kindOf:Str->Option NameKind} {x:Str}:∀{binds:List (Str×Value)} {m:Str->Option Value},(∀v,(x,v)∉binds)->bindL kindOf binds m x=m x
 | [],_,_=>rfl
 | (n,v)::r,m,h=>by
   unfold bindL
   rw[Wj λw hw=>h w (tZ _ hw)]
   split
   . have:x≠n:=by rintro rfl;exact h v t9
     simp [this]
   . rfl
theorem Wn {kindOf:Str->Option NameKind} {x:Str}:∀{binds:List (Str×Value)} {m:Str->Option Value},(∀v,(x,v)∉binds)->bindC kindOf binds m x=m x
 | [],_,_=>rfl
 | (n,v)::r,m,h=>by
   unfold bindC
   rw[Wn λw hw=>h w (tZ _ hw)]
   split
   . rfl
   . have:x≠n:=by rintro rfl;exact h v t9
     simp [this]
theorem Wm {kindOf:Str->Option NameKind} {x:Str} {v:Value}:∀{P:List Str} {vs:List Value} {i:Nat} {m:Str->Option Value},P.Nodup->P[i]?=some x->vs[i]?=some v->kindOf x=some .local->
   bindL kindOf (P.zip vs) m x=some v
 | [],_,_,_,_,h,_,_=>by simp at h
 | _::_,[],_,_,_,_,h,_=>by simp at h
 | p::P,w::vs,0,m,nd,h1,h2,hk=>by
   simp at h1 h2;subst h1;subst h2
   show bindL kindOf ((p,w)::P.zip vs) m p=_
   unfold bindL
   rw[Wj λv hv=>(zal.mp nd).1 (zbI hv).1,if_pos hk]
   simp
 | p::P,w::vs,i+1,m,nd,h1,h2,hk=>by
   show bindL kindOf ((p,w)::P.zip vs) m x=_
   unfold bindL
   exact Wm (i:=i) (zal.mp nd).2 (by simpa using h1) (by simpa using h2) hk
theorem Wo {kindOf:Str->Option NameKind} {x:Str} {v:Value}:∀{P:List Str} {vs:List Value} {i:Nat} {m:Str->Option Value},P.Nodup->P[i]?=some x->vs[i]?=some v->kindOf x≠some .local->
   bindC kindOf (P.zip vs) m x=some v
 | [],_,_,_,_,h,_,_=>by simp at h
 | _::_,[],_,_,_,_,h,_=>by simp at h
 | p::P,w::vs,0,m,nd,h1,h2,hk=>by
   simp at h1 h2;subst h1;subst h2
   show bindC kindOf ((p,w)::P.zip vs) m p=_
   unfold bindC
   rw[Wn λv hv=>(zal.mp nd).1 (zbI hv).1,if_neg hk]
   simp
 | p::P,w::vs,i+1,m,nd,h1,h2,hk=>by
   show bindC kindOf ((p,w)::P.zip vs) m x=_
   unfold bindC
   exact Wo (i:=i) (zal.mp nd).2 (by simpa using h1) (by simpa using h2) hk
def Qc (N:List Str) (vs:List V):St:=vs.map some++zdw (N.length - vs.length) none
def J9 (CX:XF) (P:Program) (w:World) (K:PySem.W.Frag) (mg:Str->Option Value) (base:Heap) (N:List Str) (qual:Str) (scope:Scope) (f:Addr) (cd:Value) (A:Around) (outer:List Env) (s:Shared) (H:Hp) (E:XK):Cx where
 prog:=P
 w:=w
 K:=K
 mg:=mg
 base:=base
 A:=A.deeper (envOfC qual scope s.heap.objs.size f cd)
 N:=N
 s₀:=s
 H₀:=H
 env:=envOfC qual scope s.heap.objs.size f cd
 outer:=outer
 stack:=envOfC qual scope s.heap.objs.size f cd::outer
 ex:=[]
 calm:=true
 fn:=λ_=>true
 pn:=[]
 xe:=λe s'=>wpAny (model P w) (A.deeper (envOfC qual scope s.heap.objs.size f cd)) (leaving (envOfC qual scope s.heap.objs.size f cd) e) (λ_ s''=>CX outer H s E e s'') (λe' s''=>CX outer H s E e' s'') s'
theorem V8 {sc:Scope} {n:Nat} {x:Str} (h:sc.names.lookup x=some .cell):∃c,(cellsFrom n sc.names []).lookup x=some c:=by
 have q:=zcm sc.names n [] (.inl h)
 exact zbZ.mp q
theorem Wd {CX:XF} {P:Program} {w:World} {K:PySem.W.Frag} {mg:Str->Option Value} {base:Heap} {N ps:List Str} {qual:Str} {scope:Scope} {f:Addr} {cd:Value} {A:Around} {outer:List Env} {s s1:Shared} {H:Hp} {E:XK} {us:List Value} {vs:List V}
   (S:qt N ps scope) (hd:A.handled=none) (e0:XD P w K mg base A outer s H) (hl:vs.length=ps.length) (r:qI vs us)
   (x:InCallC s s.heap.objs.size (bindL (envOfC qual scope s.heap.objs.size f cd).kindOf (ps.zip us) λ_=>none) (cellsFrom (s.heap.objs.size+1) scope.names []) (bindC (envOfC qual scope s.heap.objs.size f cd).kindOf (ps.zip us) λ_=>none) s1):
   qF (J9 CX P w K mg base N qual scope f cd A outer s H E) [] (Qc N vs) H s1:=by
 have hpl:ps.length<=N.length:=by have:=congrArg zaD S.pre;rw[tS]at this;omega
 obtain⟨h1,tk,rfl,hk⟩:=x.done
 have noA:∀b:Addr,b∉(J9 CX P w K mg base N qual scope f cd A outer s H E).ex:=λb z=>absurd (show b∈([]:List Addr) from z) (by simp)
 refine⟨⟨e0.mod,S.kind,rfl,rfl,tE _,λy z c h1 h2=>?_,λy hy=>?_,λy c _ h=>?_,λ_=>hd,Around.frames_deeper e0.frames,.inr ⟨rfl,rfl⟩,λb z=>absurd z (noA b),e0.bs,e0.bsz,λb _ _=>noA b,λb z=>absurd z (noA b),e0.funs,e0.frf⟩,
   rfl,e0.bare,Un.kept hk,⟨_,x.toInCall.ns,λi y v h1 h2 h3=>?_⟩,λy c h=>⟨_,x.cell y c h⟩,e0.hok.fresh (tE _),λy c h=>?_,λp hp=>absurd (show p∈([]:List (Addr×Obj)) from hp) (by simp),e0.hok.kept hk,?_⟩
 . exact name_of_addr x.apart (PySem.mem_of_lookup h1) (PySem.mem_of_lookup h2)
 . have hy:scope.names.lookup y=some .cell\/scope.names.lookup y=some .free:=hy
   rcases hy with hy | hy
   . exact V8 hy
   . exact absurd rfl (S.nofree _ (PySem.mem_of_lookup hy))
 . exact zag (x.above y c (PySem.mem_of_lookup h))
 . have hi:i < vs.length:=by
     unfold Qc at h2
     by_cases hi:i < vs.length
     . exact hi
     . rw[zaf (by simpa using hi)]at h2
       rw[zde]at h2
       split at h2<;>cases h2
   have ha:vs[i]?=some v:=by
     unfold Qc at h2
     rw[zaj (by simpa using hi),tH]at h2
     cases e:vs[i]? with
     | none=>rw[e]at h2;cases h2
     | some a=>rw[e]at h2;cases h2;rfl
   obtain⟨u,hu,rv⟩:=r.get ha
   have hp:ps[i]?=some y:=by
     rw[<-S.pre,zbA (by omega)];exact h1
   have ndP:ps.Nodup:=by rw[<-S.pre];exact S.nd.sublist (zcZ _ _)
   refine⟨u,rv,?_⟩
   rcases S.par y (t8 hp) with k | k
   . exact .inl ⟨k,Wm ndP hp hu k⟩
   . obtain⟨c,e⟩:=V8 (n:=s.heap.objs.size+1) k
     refine .inr ⟨.inl k,c,e,?_⟩
     have q:=x.cell y c e
     rw[Wo ndP hp hu (by show scope.names.lookup y≠_;rw[k];decide)]at q
     exact q
 . exact .inl (e0.hok.fresh (zag (x.above y c (PySem.mem_of_lookup h))))
 . unfold Qc
   show _=N.length
   rw[tK,tj,zcv]
   omega
theorem RD {CX:XF} {P:Program} {w:World} {K:PySem.W.Frag} {mg:Str->Option Value} {base:Heap} {k:Nat} {f:Addr} {name qual:Str} {params:Arguments} {body:List Stmt} {scope:Scope} {dV kV doc pm cdv ct oc:Value} {an od:Option Addr}
   {osl:Array (Option Value)} {N ps:List Str} {sp:Sp} (lk:K.lookup f=some ⟨oc,od,.func (zbj name qual params body scope dV kV doc pm an cdv ct),osl⟩) (hcd:zbD K cdv qual=true) (S:qt N ps scope)
   (len:∀vs H Q E,sp vs H Q E->vs.length=ps.length)
   (hbody:∀(A:Around) (outer:List Env) (s:Shared) (H:Hp) (vs:List V) (Q:VK) (E:XK),qV k (A.deeper (envOfC qual scope s.heap.objs.size f cdv))->sp vs H Q E->
     ∃t,RH (J9 CX P w K mg base N qual scope f cdv A outer s H E) body t/\t {nx:=λ_ H'=>Q .non H',rt:=Q} (Qc N vs) H):
   qm P w K mg base CX (k+1) f (zbj name qual params body scope dV kV doc pm an cdv ct) ps sp:=by
 refine⟨len,λA outer s H args us vs Q E hr e0 hb r hsp=>?_⟩
 have hl:=len _ _ _ _ hsp
 have KX:K.In s.heap:=e0.mod.kin.keeps λb o e=>(e0.bs b o e).1
 have lim:s.heap.NoLimit:=e0.mod.nolimit.keeps λb o e=>(e0.bs b o e).1
 have hkind:∀y∈ps.zip us,scope.names.lookup y.1=some .local\/(scope.names.lookup y.1=some .cell/\((cellsFrom (s.heap.objs.size+1) scope.names []).lookup y.1).isSome=true):=λ⟨n,v⟩ hy=>by
   rcases S.par n (zbI hy).1 with q | q
   . exact .inl q
   . exact .inr ⟨q,zcm _ _ _ (.inl q)⟩
 refine codeAny_call_function hr.depth (KX _ _ lk) rfl S.co S.gen rfl (zdF KX hcd) (hb _ _ _ _ ?_)
 refine wpAny_newFunctionEnv_cells S.kind hkind λenv he s1 x=>?_
 subst he
 refine⟨lim.keeps x.toInCall.keep,codeAny_func ?_⟩
 obtain⟨t,ht,hq⟩:=hbody A outer s H vs Q E (hr.deeper _) hsp
 have I:qF (J9 CX P w K mg base N qual scope f cdv A outer s H E) [] (Qc N vs) H s1:=Wd S hr.hd e0 hl r x
 refine wpAny_mono (ht [] s1 (Qc N vs) H _ I hq) (λfl s' hs=>?_) λe s' hs=>hs
 have fin:∀{σ':St} {H':Hp} {v:V} {u:Value},qF (J9 CX P w K mg base N qual scope f cdv A outer s H E) [] σ' H' s'->qP v u->Q v H'->CE outer P w H s Q u s':=
   λ{σ' H' v u} J rv q=>⟨v,H',J.os,J.bare,J.base,J.hok,rv,q⟩
 cases fl with
 | ret u=>
   obtain⟨v,σ',H',J,rv,q⟩:=hs
   exact fin J rv q
 | next=>
   obtain⟨σ',H',J,q⟩:=hs
   exact fin (v:=V.non) (u:=Value.none) J rfl q
 | brk=>
   obtain⟨_,_,_,q⟩:=hs
   exact False.elim q
 | cont=>
   obtain⟨_,_,_,q⟩:=hs
   exact False.elim q
section
variable {X:Cx} {x:Str} {p pos:Pos} {e:Expr} {es:List Expr} {t:TA} {id T:String} {r:List V->Hp->VK->Prop}
def tCB (r:List V->Hp->VK->Prop) (t:TA):TE:=λσ H Q=>t σ H λvs H1=>r vs H1 Q
theorem qJ (hc:Q5 X (.builtin id) r) (hg:Gl X x) (hm:X.mg x=none) (hv:bootBuiltins x=some (.builtin id)) (ha:JA X (e::es) t) (hn:x≠"__name__":=by decide) (hdb:(x==("__debug__":Str))=false:=by decide) (he:starEach (e::es) X.env=(false,eval e X.env)::starEach es X.env:=by rfl) (hpl:(backTo pos (starEach es X.env)).any (·.1)=false:=by rfl):JE X (.Call (.Name x p) (e::es) [] pos) (tCB r t):=.of (by
 have ha:=ha.to
 intro pins s σ H Q I h
 refine wpAny_Call_Name_kw (QW I hg hm hv ?_ hn hdb)
 exact PyProof.Rows.callWith_builtin1 (jk (ha pos pins s σ H _ I h) λus s1 ⟨vs,H1,I1,r1,q1⟩=>hc pins s1 σ H1 vs us Q I1 r1 q1) he hpl)
theorem jw (hc:Q5 X (.type T) r) (hg:Gl X x) (hm:X.mg x=none) (hv:bootBuiltins x=some (.type T)) (ha:JA X (e::es) t) (hn:x≠"__name__":=by decide) (hdb:(x==("__debug__":Str))=false:=by decide) (he:starEach (e::es) X.env=(false,eval e X.env)::starEach es X.env:=by rfl) (hpl:(backTo pos (starEach es X.env)).any (·.1)=false:=by rfl):JE X (.Call (.Name x p) (e::es) [] pos) (tCB r t):=.of (by
 have ha:=ha.to
 intro pins s σ H Q I h
 refine wpAny_Call_Name_kw (QW I hg hm hv ?_ hn hdb)
 exact PyProof.Rows.callWith_type1 (jk (ha pos pins s σ H _ I h) λus s1 ⟨vs,H1,I1,r1,q1⟩=>hc pins s1 σ H1 vs us Q I1 r1 q1) he hpl)
end
end L2
namespace HT
open PySem PyProof.Rows
section
open PySem.SeqAt
open PySem.AutoSeq1 (wpAny_loadPart')
open PySem.MeetsSeq PySem.MeetsSeq2 PySem.MeetsSeq3
end
section
variable {prog:Program} {w:World} {A:Around} {E:Value->Shared->Prop} {s:Shared}
theorem cat_tup {t b:Addr} {vs ws:List Value} {Q:Value->Shared->Prop} (ht:IsTup s.heap t vs.toArray) (hb:IsTup s.heap b ws.toArray) (hv:vs≠[])
   (h1:ws=[]->Q (.ref t) s) (h2:ws≠[]->Q (.ref s.heap.objs.size) {s with heap:=s.heap.push {cls:=.type "tuple",data:=.seq (vs++ws).toArray}})
   (hsz:vs.length+ws.length<=sizeLine):wpAny (model prog w) A (binaryOp .Add (.ref t) (.ref b)) Q E s:=by
 obtain⟨⟨cls,dd,data,sl⟩,ho,hc,n,hd⟩:=id ht
 obtain⟨⟨cls2,dd2,data2,sl2⟩,ho2,hc2,n2,hd2⟩:=id hb
 simp only at hc hd hc2 hd2
 subst hc hd hc2 hd2
 have e:vs.toArray++ws.toArray=(vs++ws).toArray:=by simp
 by_cases hw:ws=[]
 . exact concat_meets ⟨_,ho,rfl⟩ ⟨_,ho2,rfl⟩ noFill_tuple_add seq_tuple_add zcn zck (zca _ _)
     (tuple_addW1 t b vs.toArray ws.toArray n n2 dd dd2 sl sl2 (by simpa using hv) (by simp [hw])) ⟨ho,ho2,h1 hw⟩
 . refine concat_meets ⟨_,ho,rfl⟩ ⟨_,ho2,rfl⟩ noFill_tuple_add seq_tuple_add zcn zck (zca _ _)
     (tuple_addW2 t b vs.toArray ws.toArray n n2 dd dd2 sl sl2 (by simpa using hv) (by simpa using hw) (by rw[t7,t7];exact hsz)) ⟨ho,ho2,?_⟩
   rw[e]
   exact h2 hw
def sIx (n d:Nat):Option Int->Nat
 | none=>d
 | some v=>if v < 0 then (v+(n:Int)).toNat else min v.toNat n
theorem sIx_none (n d:Nat):sIx n d none=d:=rfl
theorem sIx_nat (n d k:Nat):sIx n d (some (k:Int))=min k n:=by
 show (if (k:Int) < 0 then ((k:Int)+(n:Int)).toNat else min (k:Int).toNat n)=min k n
 rw[if_neg (by omega),zaP]
end
end HT
namespace L2
open PySem PySem.Spec PyProof.Rows
abbrev TO:=St->Hp->(Option Int->Hp->Prop)->Prop
def PO (X:Cx) (e:Option Expr) (t:TO):Prop:=
 ∀(pins:List (Addr×Obj)) (s:Shared) (σ:St) (H:Hp) (Q:Option Int->Hp->Prop),qF X pins σ H s->t σ H Q->
   wpAny (model X.prog X.w) X.A (evalPart e X.env) (λu s'=>∃o H',qF X pins σ H' s'/\IsPart u o/\Q o H') X.xe s
@[irreducible] def JO (X:Cx) (e:Option Expr) (t:TO):Prop:=PO X e t
theorem JO.of {X:Cx} {e:Option Expr} {t:TO} (h:PO X e t):JO X e t:=by unfold JO;exact h
theorem JO.to {X:Cx} {e:Option Expr} {t:TO} (h:JO X e t):PO X e t:=by unfold JO at h;exact h
def uP:TO:=λ_ H Q=>Q none H
def Mq (t:TE):TO:=λσ H Q=>t σ H λx H1=>∃i,x=.int i/\Q (some i) H1
theorem US {ns:List Int}:∀{us:List Value},qI (ns.map V.int) us->IntsAre us ns:=by
 induction ns with
 | nil=>intro us r;rw[zco]at r;cases r;exact .nil
 | cons n ns ih=>
   intro us r
   rw[tW]at r
   cases r with
   | cons r1 r2=>
     obtain⟨t,e⟩:=r1
     subst e
     exact .cons n t (ih r2)
section
variable {X:Cx} {e:Expr} {te:TE} {lo hi:Option Expr} {tl th:TO} {pos p2:Pos}
theorem JP:JO X none uP:=.of (by
 intro pins s σ H Q I h
 rw[evalPart_none]
 exact wpAny_pure ⟨none,H,I,.none,h⟩)
theorem JN (h:JE X e te):JO X (some e) (Mq te):=.of (by
 have h:=h.to
 intro pins s σ H Q I hw
 rw[evalPart_some]
 refine jk (h pins s σ H _ I hw) λu s1 ⟨x,H1,I1,r1,q1⟩=>?_
 obtain⟨i,rfl,q⟩:=q1
 obtain⟨t,rfl⟩:=r1
 exact⟨some i,H1,I1,.int i t,q⟩)
def SlR (X:Cx) (r:V->Option Int->Option Int->Hp->VK->Prop):Prop:=
 ∀(pins:List (Addr×Obj)) (s:Shared) (σ:St) (H:Hp) (x:V) (v vl vu:Value) (lo hi:Option Int) (sl:Addr) (Q:VK),qF X pins σ H s->qP x v->s.heap.IsSliceOf sl vl vu .none->IsPart vl lo->IsPart vu hi->r x lo hi H Q->
   ∃T id,typeLookup (.type T) "__getitem__"=pure (some (.builtin id))/\s.TypeIs v T/\wpAny (model X.prog X.w) X.A (getItem v (.ref sl)) (EP X pins σ Q) X.xe s
def tSl (r:V->Option Int->Option Int->Hp->VK->Prop) (te:TE) (tl th:TO):TE:=λσ H Q=>te σ H λx H1=>tl σ H1 λl H2=>th σ H2 λu H3=>r x l u H3 Q
theorem QZ {r:V->Option Int->Option Int->Hp->VK->Prop} (hr:SlR X r) (he:JE X e te) (hl:JO X lo tl) (hu:JO X hi th):JE X (.Subscript e (.Slice lo hi none p2) pos) (tSl r te tl th):=.of (by
 have he:=he.to
 have hl:=hl.to
 have hu:=hu.to
 intro pins s σ H Q I h
 refine Subscript_ (jk (he pins s σ H _ I h) λv s1 ⟨x,H1,I1,r1,q1⟩=>?_)
 refine wpAny_Slice (jk (hl pins s1 σ H1 _ I1 q1) λvl s2 ⟨l,H2,I2,pl,q2⟩=>jk (hu pins s2 σ H2 _ I2 q2) λvu s3 ⟨u,H3,I3,pu,q3⟩=>?_)
 rw[evalPart_none]
 refine wpAny_pure ?_
 have I4:qF X pins σ H3 {s3 with heap:=s3.heap.push {cls:=.type "slice",data:=.fields #[vl,vu,.none]}}:=I3.kept (t':=s3.toks) λb ob q=>tu _ q
 obtain⟨T,id,hT,ht,hg⟩:=hr pins {s3 with heap:=s3.heap.push {cls:=.type "slice",data:=.fields #[vl,vu,.none]}} σ H3 x v vl vu l u s3.heap.objs.size Q I4 r1 (Heap.IsSliceOf.new ..) pl pu q3
 show wpAny (model X.prog X.w) X.A (subscriptTail e (.Slice lo hi none p2) v (.ref s3.heap.objs.size)) (EP X pins σ Q) X.xe {s3 with heap:=s3.heap.push {cls:=.type "slice",data:=.fields #[vl,vu,.none]}}
 exact tail_any (ops:=[.ref s3.heap.objs.size,v]) ht hT hg (by with_unfolding_all rfl))
def Yo (xs:List V) (lo hi:Option Int):List V:=(xs.drop (HT.sIx xs.length 0 lo)).take (HT.sIx xs.length xs.length hi - HT.sIx xs.length 0 lo)
theorem V7 (xs:List V) (lo hi:Option Int):(Yo xs lo hi).length<=xs.length:=by
 unfold Yo
 rw[tS,zdf]
 omega
theorem qI.nil_iff {xs:List V} {us:List Value} (r:qI xs us):us=[]↔xs=[]:=by
 cases r with
 | nil=>simp
 | cons _ _=>simp
end
def Gh (n:Nat) (i:Int):Option Nat:=if 0<=i then (if i < n then some i.toNat else none) else if -(n:Int)<=i then some (i+n).toNat else none
def km {α:Type} (xs:List α) (i:Int):Option α:=(Gh xs.length i).bind λj=>xs[j]?
theorem vV {n:Nat} {i:Int} {j:Nat} (h:Gh n i=some j):seqIndex? i n=some j/\j < n/\-(n:Int)<=i/\i < n:=by
 unfold Gh at h
 by_cases h0:0<=i
 . rw[if_pos h0]at h
   by_cases h1:i < n
   . rw[if_pos h1]at h
     have e:i.toNat=j:=tN.inj h
     exact⟨by rw[seqIndex_of h0 h1,e],by omega,by omega,h1⟩
   . rw[if_neg h1]at h;cases h
 . rw[if_neg h0]at h
   by_cases h1:-(n:Int)<=i
   . rw[if_pos h1]at h
     have e:(i+n).toNat=j:=tN.inj h
     exact⟨by rw[seqIndex_neg (by omega) h1,e],by omega,h1,by omega⟩
   . rw[if_neg h1]at h;cases h
theorem atI_get {α:Type} {xs:List α} {i:Int} {v:α} (h:km xs i=some v):∃j,seqIndex? i xs.length=some j/\xs[j]?=some v/\j < xs.length/\-(xs.length:Int)<=i/\i < xs.length:=by
 unfold km at h
 cases e:Gh xs.length i with
 | none=>rw[e]at h;cases h
 | some j=>
   rw[e]at h
   obtain⟨h1,h2,h3,h4⟩:=vV e
   exact⟨j,h1,h,h2,h3,h4⟩
theorem YL {α:Type} {xs:List α} {j:Nat} {v:α} (h:xs[j]?=some v):km xs (j:Int)=some v:=by
 have hj:j < xs.length:=(tw.mp h).1
 have e:Gh xs.length (j:Int)=some j:=by
   unfold Gh
   rw[if_pos (by omega),if_pos (by omega)];simp
 unfold km;rw[e];exact h
def G8 (b:Expr):Prop:=∀o i,subscripted b false o i=operate [o,i] (getItem o i)
def IxR (X:Cx) (r:R2):Prop:=
 ∀(value slice:Expr) (pins:List (Addr×Obj)) (s:Shared) (σ:St) (H:Hp) (x y:V) (v u:Value) (Q:VK),qF X pins σ H s->qP x v->qP y u->r x y H Q->
   subscripted slice false v u=operate [v,u] (getItem v u)->wpAny (model X.prog X.w) X.A (subscriptTail value slice v u) (EP X pins σ Q) X.xe s
def MtR (X:Cx) (id:String) (r:V->List V->Hp->VK->Prop):Prop:=
 ∀(pins:List (Addr×Obj)) (s:Shared) (σ:St) (H:Hp) (x:V) (xs:List V) (v:Value) (us:List Value) (Q:VK),qF X pins σ H s->qP x v->qI xs us->r x xs H Q->
   wpAny (model X.prog X.w) X.A (call (.builtin id) (v::us)) (EP X pins σ Q) X.xe s
section
variable {X:Cx} {a b:Expr} {ta tb:TE} {pos:Pos}
theorem qY {r:R2} (hr:IxR X r) (ha:JE X a ta) (hb:JE X b tb) (hs:G8 b):JE X (.Subscript a b pos) (YO r ta tb):=.of (by
 have ha:=ha.to
 have hb:=hb.to
 intro pins s σ H Q I h
 exact Subscript_ (N2 ha hb I h λv u s2 x y H2 I2 rx ry q=>hr a b pins s2 σ H2 x y v u Q I2 rx ry q (hs _ _)))
def R9 (K:PySem.W.Frag):R2:=λx y H Q=>∃p xs i v,x=.ref p/\y=.int i/\SqL K H p xs/\km xs i=some v/\Q v H
def Yl (K:PySem.W.Frag):R2:=λx y H Q=>∃p xs i v,x=.ref p/\y=.int i/\YM K H p xs/\km xs i=some v/\Q v H
def qbc:R2:=λx y H Q=>∃z i c,x=.str z/\y=.int i/\z.length<=sizeLine/\km z.cps.toList i=some c/\Q (.str ⟨#[c]⟩) H
theorem Qy:IxR X (R9 X.K):=by
 intro value slice pins s σ H x y v u Q I rx ry h hs
 obtain⟨p,xs,i,z,rfl,rfl,hq,he,q⟩:=h
 cases rx
 obtain⟨t,rfl⟩:=ry
 obtain⟨its,r,pl,hz⟩:=I.list hq
 obtain⟨j,h1,h2,h3,h4,h5⟩:=atI_get he
 obtain⟨w,ew,rw'⟩:=r.get h2
 have hl:=r.length
 have hn:=zS
 have fin:EP X pins σ Q w s:=⟨z,H,I,rw',q⟩
 by_cases h0:0<=i
 . have hj:i.toNat=j:=by
     rw[seqIndex_of h0 h5]at h1
     exact tN.inj h1
   exact item_listR pl.isList h0 (by omega) (by rw[hj];simpa using ew) fin hs
 . have hj:(i+(its.toArray.size:Int)).toNat=j:=by
     rw[seqIndex_neg (by omega) h4]at h1
     rw[t7,<-hl]
     exact tN.inj h1
   exact subscriptTail_builtinR (x:=w) pl.isList.typeIs slot_list_getitem.lookup
     (wpAny_getItem_list_neg (Q:=λr s'=>r=w/\EP X pins σ Q r s') pl.isList (by omega) (by rw[t7]<;>omega) (by omega) (by rw[hj];simpa using ew) ⟨rfl,fin⟩) hs
theorem jc:IxR X (Yl X.K):=by
 intro value slice pins s σ H x y v u Q I rx ry h hs
 obtain⟨p,xs,i,z,rfl,rfl,hq,he,q⟩:=h
 cases rx
 obtain⟨t,rfl⟩:=ry
 obtain⟨its,r,pl,hz⟩:=I.tuple hq
 obtain⟨j,h1,h2,h3,h4,h5⟩:=atI_get he
 obtain⟨w,ew,rw'⟩:=r.get h2
 have hl:=r.length
 have hn:=zS
 have fin:EP X pins σ Q w s:=⟨z,H,I,rw',q⟩
 exact subscriptTail_builtinR (x:=w) pl.typeIs slot_tuple_getitem.lookup
   (getItem_tuple (j:=j) (Q:=λr s'=>r=w/\EP X pins σ Q r s') pl (by omega) (by omega) (by rw[t7,<-hl];exact h1) (by simpa using ew) ⟨rfl,fin⟩) hs
theorem wS:IxR X qbc:=by
 intro value slice pins s σ H x y v u Q I rx ry h hs
 obtain⟨z,i,c,rfl,rfl,hz,he,q⟩:=h
 obtain⟨t,rfl⟩:=rx
 obtain⟨t',rfl⟩:=ry
 obtain⟨j,h1,h2,h3,h4,h5⟩:=atI_get he
 have hl:z.cps.toList.length=z.length:=by simp [Str.length]
 rw[hl]at h1 h4 h5
 have hn:=zS
 exact tail_any (typeIs_str s z t) slot_str_getitem.lookup (getItem_str (c:=c) (by
   have e1:decide (i < -(2^63:Int))=false:=decide_eq_false (by omega)
   have e2:decide (i ≥ 2^63)=false:=decide_eq_false (by omega)
   rw[e1,e2,Bool.or_false]) (by rw[h1];simpa using h2) ⟨.str ⟨#[c]⟩,H,I.tok _,⟨_,rfl⟩,q⟩) hs
theorem UL (its:List Value) (n j:Nat) (u:Value):Obj.mapSeq (·.setIfInBounds j u) {cls:=.type "list",data:=.seq its.toArray n}={cls:=.type "list",data:=.seq (its.set j u).toArray n}:=by
 simp [Obj.mapSeq]
theorem qF.lst {pins:List (Addr×Obj)} {σ:St} {H:Hp} {s:Shared} {p:Addr} {xs:List V} (I:qF X pins σ H s) (h:H p=some (.lst xs)):
   ∃(its:List Value) (n:Nat),qI xs its/\s.heap.get? p=some {cls:=.type "list",data:=.seq its.toArray n}/\xs.length<=sizeLine:=by
 obtain⟨z,its,n,r,e⟩:=I.hok p _ h
 exact⟨its,n,r,e,z⟩
theorem qF.lstUpd {pins:List (Addr×Obj)} {σ:St} {H:Hp} {s:Shared} {p:Addr} {xs ys:List V} {its its':List Value} {n n':Nat} {f:Obj->Obj} (I:qF X pins σ H s) (h:H p=some (.lst xs))
   (ho:s.heap.get? p=some {cls:=.type "list",data:=.seq its.toArray n}) (hf:f {cls:=.type "list",data:=.seq its.toArray n}={cls:=.type "list",data:=.seq its'.toArray n'}) (r:qI ys its') (hz:ys.length<=sizeLine) (t:Nat):
   qF X pins σ (upd H p (.lst ys)) {s with heap:=s.heap.update p f,toks:=t}:=by
 have e:(s.heap.update p f).get? p=some {cls:=.type "list",data:=.seq its'.toArray n'}:=by
   rw[zaG f ho (by rw[hf]<;>rfl),hf]
 refine I.write (x:=p) (e:=p) (by rw[h];trivial) (.inl rfl) (λb u hb q=>(zai _ _ (Ne.symm hb)).trans q) ⟨_,e⟩ ?_
 exact⟨hz,its',n',r,e⟩
def MV:V->V->V->Hp->(Hp->Prop)->Prop:=λo i v H Q=>∃p xs k j,o=.ref p/\i=.int k/\H p=some (.lst xs)/\Gh xs.length k=some j/\Q (upd H p (.lst (xs.set j v)))
theorem xo:N7 X MV:=by
 intro pins s σ H o i v ov iv u Q I ro ri rv h
 obtain⟨p,xs,k,j,rfl,rfl,hp,hj,q⟩:=h
 cases ro
 obtain⟨t,rfl⟩:=ri
 obtain⟨its,n,r,ho,hz⟩:=I.lst hp
 obtain⟨h1,h2,h3,h4⟩:=vV hj
 have hl:=r.length
 have hn:=zS
 have I':qF X pins σ (upd H p (.lst (xs.set j v))) {s with heap:=s.heap.update p (Obj.mapSeq (·.setIfInBounds j u))}:=
   I.lstUpd hp ho (UL its n j u) (r.set rv j) (by rw[zbJ];exact hz) s.toks
 by_cases h0:0<=k
 . have hk:k.toNat=j:=by
     rw[seqIndex_of h0 h4]at h1
     exact tN.inj h1
   exact PySem.W.ki_setAt ho h0 (by omega) (by rw[t7,<-hl];exact h4) (by rw[hk];exact⟨_,I',q⟩)
 . have hk:(k+(its.toArray.size:Int)).toNat=j:=by
     rw[seqIndex_neg (by omega) h3]at h1
     rw[t7,<-hl]
     exact tN.inj h1
   exact PySem.W.ki_setBack ho (by omega) (by rw[t7,<-hl];exact h3) (by omega) (by rw[hk];exact⟨_,I',q⟩)
theorem Wy (lo hi:Option Int) (n:Nat):(sliceBounds lo hi none n).1=((HT.sIx n 0 lo:Nat):Int)/\(sliceBounds lo hi none n).2.1=((HT.sIx n n hi:Nat):Int)/\(sliceBounds lo hi none n).2.2=1:=by
 refine⟨?_,?_,rfl⟩
 . cases lo with
   | none=>simp [sliceBounds,HT.sIx]
   | some i=>
     simp only[sliceBounds,HT.sIx,zdR,show (1:Int) > 0 by decide,if_true]
     by_cases h:i < 0
     . simp only[h,if_true]<;>omega
     . simp only[h,if_false]<;>omega
 . cases hi with
   | none=>simp [sliceBounds,HT.sIx]
   | some i=>
     simp only[sliceBounds,HT.sIx,zdR,show (1:Int) > 0 by decide,if_true]
     by_cases h:i < 0
     . simp only[h,if_true]<;>omega
     . simp only[h,if_false]<;>omega
theorem XL (its:List Value) (lo hi:Option Int):slicePick its.toArray lo hi none=((its.drop (HT.sIx its.length 0 lo)).take (HT.sIx its.length its.length hi - HT.sIx its.length 0 lo)).toArray:=by
 obtain⟨h1,h2,h3⟩:=Wy lo hi its.toArray.size
 unfold slicePick
 rw[h1,h2,h3]
 simp only[sliceRange_one,pick_run,t7]<;>rfl
def qbb (K:PySem.W.Frag):V->Option Int->Option Int->Hp->VK->Prop:=λx lo hi H Q=>∃a xs,x=.ref a/\SqL K H a xs/\∀p,H p=none->Q (.ref p) (upd H p (.lst (Yo xs lo hi)))
theorem Z3:SlR X (qbb X.K):=by
 intro pins s σ H x v vl vu lo hi sl Q I rx hs pl pu h
 obtain⟨a,xs,rfl,hx,q⟩:=h
 cases rx
 obtain⟨its,r,ht,hz⟩:=I.list hx
 have hlen:=r.length
 refine⟨"list",_,slot_list_getitem.lookup,ht.isList.typeIs,?_⟩
 refine wpAny_getItem_list_slice ht.isList hs pl pu .none (by simp) ?_ (by rw[t7]<;>omega)
 rw[XL,<-hlen]
 refine⟨.ref s.heap.objs.size,_,I.laid (t':=s.toks) (o:=.lst (Yo xs lo hi)) (λb ob q=>tu _ q) (tE _) ?_,rfl,q _ (I.hok.fresh (tE _))⟩
 exact⟨zac (V7 xs lo hi) hz,_,0,(r.drop (HT.sIx xs.length 0 lo)).take (HT.sIx xs.length xs.length hi - HT.sIx xs.length 0 lo),tU _ rfl⟩
def ZJ:V->Bool
 | .non=>true
 | .bl _=>true
 | .int _=>true
 | .str _=>true
 | _=>false
def Gv:V->V->Bool
 | .non,.non=>true
 | .bl a,.bl b=>a==b
 | .bl a,.int b=>(if a then 1 else 0)==b
 | .int a,.bl b=>a==(if b then 1 else 0)
 | .int a,.int b=>a==b
 | .str a,.str b=>a==b
 | _,_=>false
theorem N0 {A:Around} {s:Shared} {y x:V} {u v:Value} (ry:qP y u) (rx:qP x v) (fy:ZJ y=true) (fx:ZJ x=true):SeqAt.EqAt A s u v (Gv y x):=by
 cases y with
 | non=>
   cases ry
   cases x with
   | non=>cases rx;exact SeqAt.EqAt.same _
   | bl b=>cases rx;exact SeqAt.EqAt.none_bool b
   | int b=>obtain⟨t,rfl⟩:=rx;exact SeqAt.EqAt.none_int b t
   | str b=>obtain⟨t,rfl⟩:=rx;exact SeqAt.EqAt.none_str b t
   | _=>exact absurd (show false=true from fx) tO
 | bl a=>
   cases ry
   cases x with
   | non=>cases rx;exact SeqAt.EqAt.bool_none a
   | bl b=>cases rx;exact SeqAt.EqAt.bool_bool a b
   | int b=>obtain⟨t,rfl⟩:=rx;exact SeqAt.EqAt.bool_int a b t
   | str b=>obtain⟨t,rfl⟩:=rx;exact SeqAt.EqAt.bool_str a b t
   | _=>exact absurd (show false=true from fx) tO
 | int a=>
   obtain⟨t',rfl⟩:=ry
   cases x with
   | non=>cases rx;exact SeqAt.EqAt.int_none a t'
   | bl b=>cases rx;exact SeqAt.EqAt.int_bool a t' b
   | int b=>obtain⟨t,rfl⟩:=rx;exact SeqAt.EqAt.int_int a t' b t
   | str b=>obtain⟨t,rfl⟩:=rx;exact SeqAt.EqAt.int_str a t' b t
   | _=>exact absurd (show false=true from fx) tO
 | str a=>
   obtain⟨t',rfl⟩:=ry
   cases x with
   | non=>cases rx;exact SeqAt.EqAt.str_none a t'
   | bl b=>cases rx;exact SeqAt.EqAt.str_bool a t' b
   | int b=>obtain⟨t,rfl⟩:=rx;exact SeqAt.EqAt.str_int a t' b t
   | str b=>obtain⟨t,rfl⟩:=rx;exact SeqAt.EqAt.str_str a t' b t
   | _=>exact absurd (show false=true from fx) tO
 | _=>exact absurd (show false=true from fy) tO
def UW (x:V) (u:Value):Bool:=match u with
 | .none=>Gv .non x
 | .bool b=>Gv (.bl b) x
 | .int i _=>Gv (.int i) x
 | .str z _=>Gv (.str z) x
 | _=>false
theorem ug {x y:V} {u:Value} (r:qP y u) (f:ZJ y=true):UW x u=Gv y x:=by
 cases y with
 | non=>cases r;rfl
 | bl b=>cases r;rfl
 | int i=>obtain⟨t,rfl⟩:=r;rfl
 | str z=>obtain⟨t,rfl⟩:=r;rfl
 | _=>exact absurd (show false=true from f) tO
theorem zx {x:V}:∀{xs:List V} {us:List Value},qI xs us->xs.all ZJ=true->us.any (UW x)=xs.any λy=>Gv y x
 | _,_,.nil,_=>rfl
 | y::xs,u::us,.cons r t,f=>by
   rw[zdd,zaq]at f
   rw[zcA,zcA,ug r f.1,zx t f.2]
theorem Zi {A:Around} {s:Shared} {x:V} {v:Value} (rx:qP x v) (fx:ZJ x=true):∀{xs:List V} {us:List Value},qI xs us->xs.all ZJ=true->∀u∈us,SeqAt.EqAt A s u v (UW x u)
 | _,_,.nil,_=>λu hu=>by cases hu
 | y::xs,u::us,.cons r t,f=>λu' hu=>by
   rw[zdd,zaq]at f
   rcases tY.mp hu with rfl | hu
   . rw[ug r f.1];exact N0 r rx f.1 fx
   . exact Zi rx fx t f.2 u' hu
def Zx (x:V) (xs:List V):Bool:=xs.any λy=>Gv y x
def Mf (K:PySem.W.Frag) (neg:Bool):R2:=λx y H Q=>∃p xs,y=.ref p/\(SqL K H p xs\/YM K H p xs)/\ZJ x=true/\xs.all ZJ=true/\Q (.bl (if neg then !Zx x xs else Zx x xs)) H
theorem Jq:ZB X (compareOp .In) (Mf X.K false):=by
 intro pins s σ H x y v u Q I rx ry h
 obtain⟨p,xs,rfl,hq,fx,fs,q⟩:=h
 cases ry
 rcases hq with hq | hq
 . obtain⟨its,r,pl,hz⟩:=I.list hq
   refine SeqAt.in_listAt (UW x) pl.isList (λw hw=>Zi rx fx r fs w (by simpa using hw)) ⟨.bl _,H,I,rfl,?_⟩
   rw[show its.toArray.any (UW x)=its.any (UW x) by simp,zx r fs]
   exact q
 . obtain⟨its,r,pl,hz⟩:=I.tuple hq
   refine SeqAt.in_tupleAt (UW x) pl (λw hw=>Zi rx fx r fs w (by simpa using hw)) ⟨.bl _,H,I,rfl,?_⟩
   rw[show its.toArray.any (UW x)=its.any (UW x) by simp,zx r fs]
   exact q
theorem JH:ZB X (compareOp .NotIn) (Mf X.K true):=by
 intro pins s σ H x y v u Q I rx ry h
 obtain⟨p,xs,rfl,hq,fx,fs,q⟩:=h
 cases ry
 rcases hq with hq | hq
 . obtain⟨its,r,pl,hz⟩:=I.list hq
   refine SeqAt.notIn_listAt (UW x) pl.isList (λw hw=>Zi rx fx r fs w (by simpa using hw)) ⟨.bl _,H,I,rfl,?_⟩
   rw[show its.toArray.any (UW x)=its.any (UW x) by simp,zx r fs]
   exact q
 . obtain⟨its,r,pl,hz⟩:=I.tuple hq
   refine SeqAt.notIn_tupleAt (UW x) pl (λw hw=>Zi rx fx r fs w (by simpa using hw)) ⟨.bl _,H,I,rfl,?_⟩
   rw[show its.toArray.any (UW x)=its.any (UW x) by simp,zx r fs]
   exact q
theorem jf:Q5 X (.builtin "len") (λxs H Q=>∃p ys,xs=[.ref p]/\(SqL X.K H p ys\/YM X.K H p ys)/\Q (.int ys.length) H):=by
 intro pins s σ H xs us Q I r h
 obtain⟨p,ys,rfl,hq,q⟩:=h
 obtain⟨u,rfl,rx⟩:=Jl r
 cases rx
 have hn:=zS
 rcases hq with hq | hq
 . obtain⟨its,r',pl,hz⟩:=I.list hq
   have hlen:=r'.length
   exact Calls.call_len_list pl.isList (by simp only[t7]<;>omega) ⟨.int ys.length,H,I.tok _,⟨s.toks+1,by rw[t7,hlen]⟩,q⟩
 . obtain⟨its,r',pl,hz⟩:=I.tuple hq
   have hlen:=r'.length
   exact len_tuple pl (by simp only[t7]<;>omega) ⟨.int ys.length,H,I.tok _,⟨s.toks+1,by rw[t7,hlen]⟩,q⟩
theorem J1:Q5 X (.builtin "len") (λxs H Q=>∃z,xs=[.str z]/\z.length<=sizeLine/\Q (.int z.length) H):=by
 intro pins s σ H xs us Q I r h
 obtain⟨z,rfl,hz,q⟩:=h
 obtain⟨u,rfl,t,rfl⟩:=Jl r
 have hn:=zS
 exact len_str (by omega) ⟨.int z.length,H,I.tok _,⟨_,rfl⟩,q⟩
theorem Qp:Q5 X (.type "list") (λxs H Q=>∃p ys,xs=[.ref p]/\(SqL X.K H p ys\/YM X.K H p ys)/\∀l,H l=none->Q (.ref l) (upd H l (.lst ys))):=by
 intro pins s σ H xs us Q I r h
 obtain⟨p,ys,rfl,hq,q⟩:=h
 obtain⟨u,rfl,rx⟩:=Jl r
 cases rx
 have fin:∀(its:List Value),qI ys its->ys.length<=sizeLine->∀(h':Heap) (c':Nat),(∀b o',s.heap.get? b=some o'->h'.get? b=some o')->
     h'.get? s.heap.objs.size=some {cls:=.type "list",dict:=none,data:=.seq its.toArray c',slots:=#[]}->EP X pins σ Q (.ref s.heap.objs.size) {s with heap:=h'}:=λits r' hz h' c' kp e=>
   ⟨.ref s.heap.objs.size,_,I.laid (t':=s.toks) kp (tE _) (show qS X.prog X.w _ h' _ (.lst ys) from⟨hz,its,c',r',e⟩),rfl,q _ (I.hok.fresh (tE _))⟩
 rcases hq with hq | hq
 . obtain⟨its,r',pl,hz⟩:=I.list hq
   have hlen:=r'.length
   obtain⟨o,ho,hc,n,hd⟩:=pl.isList
   exact call_list_seq p (.inl rfl) ho hc hd (λh' c' kp e=>fin its r' hz h' c' kp e) (by simp only[t7]<;>omega)
 . obtain⟨its,r',pl,hz⟩:=I.tuple hq
   have hlen:=r'.length
   obtain⟨o,ho,hc,n,hd⟩:=pl
   exact call_list_seq p (.inr rfl) ho hc hd (λh' c' kp e=>fin its r' hz h' c' kp e) (by simp only[t7]<;>omega)
theorem XN:Q5 X (.type "tuple") (λxs H Q=>∃p ys,xs=[.ref p]/\((SqL X.K H p ys/\∀l,H l=none->Q (.ref l) (upd H l (.tup ys)))\/(YM X.K H p ys/\Q (.ref p) H))):=by
 intro pins s σ H xs us Q I r h
 obtain⟨p,ys,rfl,h⟩:=h
 obtain⟨u,rfl,rx⟩:=Jl r
 cases rx
 rcases h with ⟨hq,q⟩ | ⟨hq,q⟩
 . obtain⟨its,r',pl,hz⟩:=I.list hq
   have hlen:=r'.length
   refine call_tuple_list pl.isList (λh' kp=>?_) (by simp only[t7]<;>omega)
   have I1:qF X pins σ H {s with heap:=h'}:=I.kept (t':=s.toks) kp
   have I2:qF X pins σ (upd H h'.objs.size (.tup ys)) {s with heap:=h'.push {cls:=.type "tuple",data:=.seq its.toArray}}:=
     I1.laid (t':=s.toks) (λb o e=>tu _ e) (tE _) (show qS X.prog X.w _ _ _ (.tup ys) from⟨hz,its,r',IsTup.new _ _⟩)
   exact⟨.ref h'.objs.size,_,I2,rfl,q _ (I1.hok.fresh (tE _))⟩
 . obtain⟨its,r',pl,hz⟩:=I.tuple hq
   exact call_tuple_same pl ⟨.ref p,H,I,rfl,q⟩
def tyV (K:PySem.W.Frag) (T:String) (x:V) (H:Hp):Prop:=match x with
 | .str _=>T="str"
 | .int _=>T="int"
 | .ref p=>(T="list"/\∃xs,SqL K H p xs)\/(T="tuple"/\∃o,K.lookup p=some o/\o.cls=.type "tuple"/\o.dict=none)\/
     (T="dict"/\((∃kvs,H p=some (.dK kvs))\/∃kvs,H p=some (.dT kvs)))\/(T="set"/\∃S n,H p=some (.set S n))
 | _=>False
theorem yO {pins:List (Addr×Obj)} {σ:St} {H:Hp} {s:Shared} {T:String} {x:V} {v:Value} (I:qF X pins σ H s) (r:qP x v) (ty:tyV X.K T x H):
   s.TypeIs v T/\∀a,v=.ref a->∃ob,s.heap.get? a=some ob/\ob.dict=none:=by
 cases x with
 | str z=>
   obtain⟨t,rfl⟩:=r
   cases (show T="str" from ty)
   exact⟨typeIs_str s z t,λ_ e=>nomatch e⟩
 | int i=>
   obtain⟨t,rfl⟩:=r
   cases (show T="int" from ty)
   exact⟨typeIs_int s i t,λ_ e=>nomatch e⟩
 | ref p=>
   cases r
   rcases ty with ⟨rfl,xs,hq⟩ | ⟨rfl,o,hk,hc,hd⟩ | ⟨rfl,hk⟩ | ⟨rfl,S,n,hk⟩
   . obtain⟨its,_,pl,_⟩:=I.list hq
     refine⟨pl.isList.typeIs,λa e=>?_⟩
     cases e
     obtain⟨o,n,e,c,hd,_⟩:=pl
     exact⟨o,e,hd⟩
   . refine⟨⟨o,I.kIn p o hk,hc⟩,λa e=>?_⟩
     cases e
     exact⟨o,I.kIn _ o hk,hd⟩
   . have z:∃o,s.heap.get? p=some o/\o.ExactDict:=by
       rcases hk with ⟨kvs,hk⟩ | ⟨kvs,hk⟩
       . obtain⟨_,_,_,_,o,_,_,e,ex,_⟩:=I.hok p _ hk
         exact⟨o,e,ex⟩
       . obtain⟨_,_,_,_,o,_,_,e,ex,_⟩:=I.hok p _ hk
         exact⟨o,e,ex⟩
     obtain⟨o,e,ex⟩:=z
     refine⟨⟨o,e,ex.1⟩,λa e2=>?_⟩
     cases e2
     exact⟨o,e,ex.2.1⟩
   . obtain⟨o,_,_,_,e,ex,_⟩:=I.hok p _ hk
     refine⟨⟨o,e,ex.1⟩,λa e2=>?_⟩
     cases e2
     exact⟨o,e,ex.2.1⟩
 | _=>exact False.elim ty
def qaY (K:PySem.W.Frag) (T:String) (r:V->List V->Hp->VK->Prop) (to:TE):TE:=λσ H Q=>to σ H λx H1=>tyV K T x H1/\r x [] H1 Q
def tBM (K:PySem.W.Frag) (T:String) (r:V->List V->Hp->VK->Prop) (to:TE) (t:TA):TE:=λσ H Q=>to σ H λx H1=>tyV K T x H1/\t σ H1 λxs H2=>r x xs H2 Q
variable {o e:Expr} {es:List Expr} {to:TE} {t:TA} {name:Str} {apos cpos:Pos} {T id:String} {r:V->List V->Hp->VK->Prop}
theorem wR (pa:PlainAttrs T) (slot:Slot T name id) (hty:typeOf (.builtin id)=pure (.type "method_descriptor")) (hm:MtR X id r) (ho:JE X o to) (hbase:attributeBase o name X.env (eval o X.env)=eval o X.env:=by rfl) (hline:(apos.endLine==cpos.line)=true:=by rfl):JE X (.Call (.Attribute o name apos) [] [] cpos) (qaY X.K T r to):=.of (by
 have ho:=ho.to
 intro pins s σ H Q I h
 refine wpAny_Call_method0_late hbase hline (jk (ho pins s σ H _ I h) λv s1 ⟨x,H1,I1,r1,ty,q1⟩=>?_)
 obtain⟨h1,h2⟩:=yO I1 r1 ty
 exact⟨T,id,pa,slot,hty,h1,h2,Calls.callWith_builtin rfl (PySem.evalArgs_none (hm pins s1 σ H1 x [] v [] Q I1 r1 .nil q1))⟩)
theorem M4 (pa:PlainAttrs T) (slot:Slot T name id) (hty:typeOf (.builtin id)=pure (.type "method_descriptor")) (hm:MtR X id r) (ho:PE X o to) (ha:PA X (e::es) t)
   (hbase:attributeBase o name X.env (eval o X.env)=eval o X.env:=by rfl)
   (hfew:((backTo cpos (starEach (e::es) X.env)).all (λx=> !x.1)&&(backToKw cpos (keywordEach [] X.env)).all (λx=>x.1.isSome)
     &&decide ((e::es).length+([]:List Keyword).length+(if ([]:List Keyword).isEmpty then 0 else 1) < 30))=true:=by rfl)
   (hline:(apos.endLine==cpos.line)=true:=by rfl) (hs:starEach (e::es) X.env=(false,eval e X.env)::starEach es X.env:=by rfl) (hplain:(backTo cpos (starEach es X.env)).any (·.1)=false:=by rfl):
   PE X (.Call (.Attribute o name apos) (e::es) [] cpos) (tBM X.K T r to t):=by
 intro pins s σ H Q I h
 refine wpAny_Call_method_late hbase hfew hline rfl (jk (ho pins s σ H _ I h) λv s1 ⟨x,H1,I1,r1,ty,q1⟩=>?_)
 obtain⟨h1,h2⟩:=yO I1 r1 ty
 refine⟨T,id,pa,slot,hty,h1,h2,?_⟩
 have hA:=ha cpos pins s1 σ H1 _ I1 q1
 rw[hs]at hA ⊢
 refine Calls.callWith_builtin (by show (false || (backTo cpos (starEach es X.env)).any (·.1))=false;rw[hplain]<;>rfl) (Calls.evalArgs_plain ?_)
 exact jk hA λus s2 ⟨vs,H2,I2,r2,q2⟩=>hm pins s2 σ H2 x vs v us Q I2 r1 r2 q2
theorem zm (pa:PlainAttrs T) (slot:Slot T name id) (hty:typeOf (.builtin id)=pure (.type "method_descriptor")) (hm:MtR X id r) (ho:JE X o to) (ha:JA X (e::es) t) (hbase:attributeBase o name X.env (eval o X.env)=eval o X.env:=by rfl) (hfew:((backTo cpos (starEach (e::es) X.env)).all (λx=> !x.1)&&(backToKw cpos (keywordEach [] X.env)).all (λx=>x.1.isSome)
     &&decide ((e::es).length+([]:List Keyword).length+(if ([]:List Keyword).isEmpty then 0 else 1) < 30))=true:=by rfl) (hline:(apos.endLine==cpos.line)=true:=by rfl) (hs:starEach (e::es) X.env=(false,eval e X.env)::starEach es X.env:=by rfl) (hplain:(backTo cpos (starEach es X.env)).any (·.1)=false:=by rfl):JE X (.Call (.Attribute o name apos) (e::es) [] cpos) (tBM X.K T r to t):=.of (M4 pa slot hty hm ho.to ha.to hbase hfew hline hs hplain)
end
def MtM (X:Cx) (id:String) (r:V->List V->Hp->VK->Prop):Prop:=
 ∀(pins:List (Addr×Obj)) (s:Shared) (σ:St) (H:Hp) (x:V) (xs:List V) (v:Value) (us:List Value) (Q:VK),qF X pins σ H s->qP x v->qI xs us->r x xs H Q->
   wpAny (model X.prog X.w) X.A (call (.builtin id) (v::us)) (EP X pins σ Q) X.xe s
theorem qI.one:∀{x:V} {us:List Value},qI [x] us->∃u,us=[u]/\qP x u
 | _,_,.cons r .nil=>⟨_,rfl,r⟩
theorem qI.zero:∀{us:List Value},qI [] us->us=[]
 | _,.nil=>rfl
theorem qI.reverse {xs:List V} {us:List Value} (h:qI xs us):qI xs.reverse us.reverse:=by
 induction h with
 | nil=>exact .nil
 | cons r t ih=>rw[zda,zda];exact qI.append ih (.cons r .nil)
section
variable {X:Cx} {pins:List (Addr×Obj)} {σ:St} {H:Hp} {s:Shared} {l b:Addr} {xs ys zs:List V}
theorem qF.lset {its its':List Value} {n:Nat} {f:Array Value->Array Value} {t':Nat} (I:qF X pins σ H s) (hH:H l=some (.lst xs))
   (e:s.heap.get? l=some {cls:=.type "list",data:=.seq its.toArray n}) (hf:f its.toArray=its'.toArray) (hv:qI ys its') (hz:ys.length<=sizeLine):
   qF X pins σ (upd H l (.lst ys)) {s with heap:=s.heap.update l (Obj.mapSeq f),toks:=t'}:=by
 have q:=PySem.IsL.update e f
 rw[hf]at q
 refine I.write (x:=l) (e:=l) (by rw[hH];exact trivial) (.inl rfl) (λb' u hb hu=>(zai s.heap (Obj.mapSeq f) (Ne.symm hb)).trans hu) ⟨_,q⟩ ?_
 exact⟨hz,its',_,hv,q⟩
theorem qF.lstM (I:qF X pins σ H s) (hH:H l=some (.lst xs)):xs.length<=sizeLine/\∃(its:List Value) (n:Nat),qI xs its/\xs.length=its.length/\s.heap.get? l=some {cls:=.type "list",data:=.seq its.toArray n}:=by
 obtain⟨z,its,n,r,e⟩:=I.hok l _ hH
 exact⟨z,its,n,r,r.length,e⟩
theorem wt {n:Nat} (h:n<=sizeLine):Builtin.List.listTooLong n=false:=by
 unfold Builtin.List.listTooLong
 exact decide_eq_false (by omega)
end
section
variable {X:Cx}
def Kr:V->List V->Hp->VK->Prop:=λx vs H Q=>∃l xs y,x=.ref l/\vs=[y]/\H l=some (.lst xs)/\xs.length < sizeLine/\Q .non (upd H l (.lst (xs++[y])))
theorem QQ:MtM X "list.append" Kr:=by
 intro pins s σ H x vs v us Q I rx rv h
 obtain⟨l,xs,y,rfl,rfl,hH,hz,q⟩:=h
 cases rx
 obtain⟨u,rfl,ru⟩:=rv.one
 obtain⟨z,its,n,r,hl,e⟩:=I.lstM hH
 refine call_meets F.slot_list_append ⟨_,e,rfl⟩ F.entry_list_append (F.args_list_append_2 _ _) (PySem.list_append l its.toArray n u (by rw[t7];omega)) ⟨e,?_⟩
 refine⟨.non,_,I.lset (its':=its++[u]) hH e (by simp) (r.append (.cons ru .nil)) ?_,rfl,q⟩
 rw[tK,zaH]
 omega
def Kq:V->List V->Hp->VK->Prop:=λx vs H Q=>∃l b xs zs,x=.ref l/\vs=[.ref b]/\H l=some (.lst xs)/\H b=some (.lst zs)/\xs.length+zs.length<=sizeLine/\Q .non (upd H l (.lst (xs++zs)))
theorem zQ:MtM X "list.extend" Kq:=by
 intro pins s σ H x vs v us Q I rx rv h
 obtain⟨l,b,xs,zs,rfl,rfl,hH,hB,hz,q⟩:=h
 cases rx
 obtain⟨u,rfl,ru⟩:=rv.one
 cases ru
 obtain⟨z,its,n,r,hl,e⟩:=I.lstM hH
 obtain⟨z2,its2,n2,r2,hl2,e2⟩:=I.lstM hB
 have hsz:its.toArray.size+its2.toArray.size<=sizeLine:=by rw[t7,t7];omega
 have hlong:¬(!its.toArray.isEmpty&&Builtin.List.listTooLong (its.toArray.size+its2.toArray.size))=true:=by
   rw[wt hsz,Bool.and_false]
   exact tO
 refine call_meets F.slot_list_extend ⟨_,e,rfl⟩ F.entry_list_extend (F.args_list_extend_2 _ _)
   (AutoSeq1.list_extend_list_list_0 l its.toArray n b its2.toArray n2 hlong (by rw[t7];omega) (by omega)) ⟨e,e2,?_⟩
 refine⟨.non,_,I.lset (its':=its++its2) hH e (by simp) (r.append r2) ?_,rfl,q⟩
 rw[tK]
 omega
def xH:V->List V->Hp->VK->Prop:=λx vs H Q=>∃l xs,x=.ref l/\vs=[]/\H l=some (.lst xs)/\Q .non (upd H l (.lst xs.reverse))
theorem UJ:MtM X "list.reverse" xH:=by
 intro pins s σ H x vs v us Q I rx rv h
 obtain⟨l,xs,rfl,rfl,hH,q⟩:=h
 cases rx
 have hus:=rv.zero
 subst hus
 obtain⟨z,its,n,r,hl,e⟩:=I.lstM hH
 refine call_meets F.slot_list_reverse ⟨_,e,rfl⟩ F.entry_list_reverse (F.args_list_reverse_1 _) (AutoSeq1.list_reverse_list_0 l its.toArray n (by rw[t7];omega)) ⟨e,?_⟩
 refine⟨.non,_,I.lset (its':=its.reverse) hH e (by simp) r.reverse ?_,rfl,q⟩
 rw[zbX]
 omega
end
section
variable {prog:Program} {w:World} {A:Around} {E:Value->Shared->Prop} {s:Shared}
set_option maxRecDepth 100000 in
end
section
variable {X:Cx}
end
section
variable {κ:Type} [DecidableEq κ]
def jj (kvs:List (κ×V)) (k:κ):Option V:=(kvs.find? λkv=>decide (kv.1=k)).map (·.2)
def jN (kvs:List (κ×V)) (k:κ) (v:V):List (κ×V):=
 if (kvs.any λkv=>decide (kv.1=k))=true then kvs.map (λkv=>if kv.1=k then (kv.1,v) else kv) else kvs++[(k,v)]
theorem jh {p:κ×V} {r:List (κ×V)} {k:κ} (e:p.1=k):jj (p::r) k=some p.2:=by simp [jj,zbr,e]
theorem ji {p:κ×V} {r:List (κ×V)} {k:κ} (e:¬p.1=k):jj (p::r) k=jj r k:=by simp [jj,zbr,e]
theorem QA (k:κ):∀kvs:List (κ×V),(kvs.any λkv=>decide (kv.1=k))=(jj kvs k).isSome
 | []=>rfl
 | p::r=>by
   rw[zcA]
   by_cases e:p.1=k
   . simp only[jh e,decide_eq_true e,Bool.true_or,Option.isSome_some]
   . rw[ji e,decide_eq_false e,Bool.false_or];exact QA k r
theorem Vg (k j:κ) (y:V):∀kvs:List (κ×V),jj (kvs.map λkv=>if kv.1=k then (kv.1,y) else kv) j=(jj kvs j).map λx=>if j=k then y else x
 | []=>rfl
 | p::r=>by
   have ih:=Vg k j y r
   rw[tW]
   by_cases h:p.1=k
   . rw[if_pos h]
     by_cases e:p.1=j
     . rw[jh (p:=(p.1,y)) e,jh e,zcf,if_pos (e.symm.trans h)]
     . rw[ji (p:=(p.1,y)) e,ji e,ih]
   . rw[if_neg h]
     by_cases e:p.1=j
     . rw[jh (p:=p) e,jh e,zcf,if_neg (λz=>h (e.trans z))]
     . rw[ji (p:=p) e,ji e,ih]
theorem XT (k j:κ) (y:V):∀kvs:List (κ×V),jj kvs k=none->jj (kvs++[(k,y)]) j=if j=k then some y else jj kvs j
 | [],_=>by
   by_cases e:k=j
   . rw[if_pos e.symm];exact jh (p:=(k,y)) e
   . rw[if_neg (λz=>e z.symm)];exact ji (p:=(k,y)) e
 | p::r,hn=>by
   rw[zcw]
   have hk:¬p.1=k:=λz=>by rw[jh z]at hn;cases hn
   rw[ji hk]at hn
   have ih:=XT k j y r hn
   by_cases e:p.1=j
   . rw[jh e,jh e,if_neg (λz=>hk (e.trans z))]
   . rw[ji e,ji e,ih]
theorem jW (kvs:List (κ×V)) (k j:κ) (y:V):jj (jN kvs k y) j=if j=k then some y else jj kvs j:=by
 unfold jN
 by_cases a:(kvs.any λkv=>decide (kv.1=k))=true
 . rw[if_pos a,Vg]
   rw[QA]at a
   by_cases e:j=k
   . obtain⟨x,hx⟩:=zbZ.mp a
     rw[if_pos e,e,hx,zcf,if_pos rfl]
   . rw[if_neg e]
     cases jj kvs j with
     | none=>rfl
     | some x=>rw[zcf,if_neg e]
 . rw[if_neg a]
   refine XT k j y kvs ?_
   rw[QA]at a
   cases q:jj kvs k with
   | none=>rfl
   | some x=>rw[q]at a;exact(a rfl).elim
theorem Jb (kvs:List (κ×V)) (k:κ) (v:V):(jN kvs k v).length<=kvs.length+1:=by
 unfold jN
 split
 . rw[tj];omega
 . rw[tK,zau,zdo];omega
theorem QC {kvs:List (κ×V)} {k:κ} (v:V) (h:jj kvs k=none):jN kvs k v=kvs++[(k,v)]:=by
 unfold jN
 rw[QA,h]
 exact if_neg (by decide)
theorem Zo.isSome_eq {o:Option V} {u:Option Value} (r:Zo o u):o.isSome=u.isSome:=by
 cases o with
 | none=>cases u with
   | none=>rfl
   | some _=>exact(show False from r).elim
 | some _=>cases u with
   | none=>exact(show False from r).elim
   | some _=>rfl
theorem KV.val {kvs:List (κ×V)} {vs:List (κ×Value)} (r:KV kvs vs) (k:κ):Zo (jj kvs k) (valueAt vs k):=by
 unfold KV at r
 induction r with
 | nil=>exact True.intro
 | @cons p q ps qs h t ih=>
   obtain⟨h1,h2⟩:=h
   by_cases e:p.1=k
   . have e':q.1=k:=h1.symm.trans e
     have b:valueAt (q::qs) k=some q.2:=by simp [valueAt,zbr,e']
     rw[jh e,b];exact h2
   . have e':¬q.1=k:=λz=>e (h1.trans z)
     have b:valueAt (q::qs) k=valueAt qs k:=by simp [valueAt,zbr,e']
     rw[ji e,b];exact ih
theorem KV.any {kvs:List (κ×V)} {vs:List (κ×Value)} (r:KV kvs vs) (k:κ):(kvs.any λkv=>decide (kv.1=k))=vs.any λkv=>decide (kv.1=k):=by
 unfold KV at r
 induction r with
 | nil=>rfl
 | cons h t ih=>rw[zcA,zcA,ih,h.1]
theorem KV.repl {kvs:List (κ×V)} {vs:List (κ×Value)} (r:KV kvs vs) (k:κ) {y:V} {u:Value} (ry:qP y u):
   KV (kvs.map λkv=>if kv.1=k then (kv.1,y) else kv) (vs.map λkv=>if kv.1=k then (kv.1,u) else kv):=by
 unfold KV at r ⊢
 induction r with
 | nil=>exact .nil
 | @cons p q ps qs h t ih=>
   rw[tW,tW]
   refine .cons ?_ ih
   obtain⟨h1,h2⟩:=h
   by_cases e:p.1=k
   . rw[if_pos e,if_pos (h1.symm.trans e)];exact⟨h1,ry⟩
   . rw[if_neg e,if_neg (λz=>e (h1.trans z))];exact⟨h1,h2⟩
theorem KV.put {kvs:List (κ×V)} {vs:List (κ×Value)} (r:KV kvs vs) (k:κ) {y:V} {u:Value} (ry:qP y u):KV (jN kvs k y) (stored vs k u):=by
 unfold jN stored
 rw[r.any k]
 by_cases e:(vs.any λkv=>decide (kv.1=k))=true
 . rw[if_pos e,if_pos e];exact r.repl k ry
 . rw[if_neg e,if_neg e];exact Paired.snoc r ⟨rfl,ry⟩
theorem KV.length {kvs:List (κ×V)} {vs:List (κ×Value)} (r:KV kvs vs):kvs.length=vs.length:=Paired.length r
end
theorem Xm {P:Program} {w:World} {k:qL} {u:Value} (r:qP (kV k) u):(jm P w).is k u=true:=by
 cases k with
 | inl i=>obtain⟨t,e⟩:=(show ∃t,u=Value.int i t from r);subst e;exact VP P w i t
 | inr x=>obtain⟨t,e⟩:=(show ∃t,u=Value.str x t from r);subst e;exact VO P w x t
theorem Wc {P:Program} {w:World}:∀{ks:List qL} {us:List Value},qI (ks.map kV) us->ItemsAre (jm P w) ks us
 | [],_,r=>by rw[zco]at r;cases r;exact .nil
 | k::ks,_,r=>by
   rw[tW]at r
   cases r with
   | cons h t=>exact .cons (Xm h) (Wc t)
abbrev KT (H:Hp):List (List qL×V)->List (List qL×Addr×Value)->Prop:=Paired λp q=>p.1=q.1/\H q.2.1=some (.tup (p.1.map kV))/\qP p.2 q.2.2
theorem KT.val {H:Hp} {kvs:List (List qL×V)} {xs:List (List qL×Addr×Value)} (r:KT H kvs xs) (k:List qL):Zo (jj kvs k) ((atKey xs k).map (·.2)):=by
 induction r with
 | nil=>exact True.intro
 | @cons p q ps qs h t ih=>
   obtain⟨h1,_,h2⟩:=h
   by_cases e:p.1=k
   . have e':q.1=k:=h1.symm.trans e
     have b:atKey (q::qs) k=some q.2:=by simp [atKey,zbr,e']
     rw[jh e,b];exact h2
   . have e':¬q.1=k:=λz=>e (h1.trans z)
     have b:atKey (q::qs) k=atKey qs k:=by simp [atKey,zbr,e']
     rw[ji e,b];exact ih
theorem KT.repl {H:Hp} {kvs:List (List qL×V)} {xs:List (List qL×Addr×Value)} (r:KT H kvs xs) (k:List qL) {y:V} {u:Value} (ry:qP y u):
   KT H (kvs.map λkv=>if kv.1=k then (kv.1,y) else kv) (xs.map (putAt k u)):=by
 induction r with
 | nil=>exact .nil
 | @cons p q ps qs h t ih=>
   rw[tW,tW]
   refine .cons ?_ ih
   obtain⟨h1,h2,h3⟩:=h
   unfold putAt
   by_cases e:p.1=k
   . rw[if_pos e,if_pos (h1.symm.trans e)];exact⟨h1,h2,ry⟩
   . rw[if_neg e,if_neg (λz=>e (h1.trans z))];exact⟨h1,h2,h3⟩
theorem KT.put {H:Hp} {kvs:List (List qL×V)} {xs:List (List qL×Addr×Value)} (r:KT H kvs xs) (k:List qL) {b:Addr} {y:V} {u:Value} (hb:H b=some (.tup (k.map kV))) (ry:qP y u):
   KT H (jN kvs k y) (storedH xs k b u):=by
 have e:(kvs.any λkv=>decide (kv.1=k))=(atKey xs k).isSome:=by
   rw[QA,(r.val k).isSome_eq,zbd]
 unfold jN storedH
 rw[e]
 by_cases q:(atKey xs k).isSome=true
 . rw[if_pos q,if_pos q];exact r.repl k ry
 . rw[if_neg q,if_neg q];exact Paired.snoc r ⟨rfl,hb,ry⟩
theorem KT.keeps {H H':Hp} {kvs:List (List qL×V)} {xs:List (List qL×Addr×Value)} (r:KT H kvs xs) (ht:∀b ys,H b=some (.tup ys)->H' b=some (.tup ys)):KT H' kvs xs:=
 Paired.mapP r λ_ _ z=>⟨z.1,ht _ _ z.2.1,z.2.2⟩
section
variable {P:Program} {w:World} {H:Hp} {h:Heap} {a:Addr}
theorem Rx {u:HO} (ok:J5 P w H h) (e:Rd H a u):qS P w H h a u:=e.ok ok
theorem V4 {kvs:List (qL×V)} (ok:J5 P w H h) (e:Rd H a (.dK kvs)):kvs.length<=sizeLine/\(a==sysModules)=false/\∃vs,KV kvs vs/\h.DictOf (jm P w) a vs:=
 show qS P w H h a (.dK kvs) from Rx ok e
theorem RE {kvs:List (qL×V)} (ok:J5 P w H h) (e:H a=some (.dK kvs)):kvs.length<=sizeLine/\(a==sysModules)=false/\∃vs,KV kvs vs/\h.DictOf (jm P w) a vs:=V4 ok (.inl e)
theorem Xk {ks:List qL} (ok:J5 P w H h) (e:H a=some (.tup (ks.map kV))):(tupleKind (jm P w)).is h ks a:=by
 obtain⟨_,its,r,o,h1,h2,n,h3⟩:=(show qS P w H h a (.tup (ks.map kV)) from ok a _ e)
 exact⟨o,its.toArray,n,h1,h2,h3,by simpa using Wc r⟩
theorem V3 {kvs:List (List qL×V)} (ok:J5 P w H h) (e:Rd H a (.dT kvs)):kvs.length<=sizeLine/\(a==sysModules)=false/\
   ∃xs,KT H kvs xs/\h.DictOfH (tupleKind (jm P w)) a xs:=by
 obtain⟨z,y,xs,r,o,es,ep,h1,h2,h3,h4,h5⟩:=(show qS P w H h a (.dT kvs) from Rx ok e)
 refine⟨z,y,xs,r,o,es,ep,h1,h2,h3,h4,λx hx=>?_,h5⟩
 have all:∀{l:List (List qL×V)} {m:List (List qL×Addr×Value)},KT H l m->∀x∈m,(tupleKind (jm P w)).is h x.1 x.2.1:=by
   intro l m q
   induction q with
   | nil=>intro x hx;exact nomatch hx
   | @cons p q ps qs hq t ih=>
     intro x hx
     rcases tY.mp hx with e | hx
     . subst e
       exact Xk ok (by rw[<-hq.1];exact hq.2.1)
     . exact ih x hx
 exact all r x hx
theorem qaq {kvs:List (List qL×V)} (ok:J5 P w H h) (e:H a=some (.dT kvs)):kvs.length<=sizeLine/\(a==sysModules)=false/\
   ∃xs,KT H kvs xs/\h.DictOfH (tupleKind (jm P w)) a xs:=V3 ok (.inl e)
end
def jO (H:Hp) (a:Addr) (y:V) (r:Option V):Prop:=
 (∃kvs k,Rd H a (.dK kvs)/\y=kV k/\r=jj kvs k)\/∃kvs k b,Rd H a (.dT kvs)/\y=.ref b/\H b=some (.tup (k.map kV))/\r=jj kvs k
def Q4 (H:Hp) (a:Addr) (y v:V) (H':Hp):Prop:=
 (∃kvs k,H a=some (.dK kvs)/\y=kV k/\kvs.length < sizeLine/\H'=upd H a (.dK (jN kvs k v)))\/
 ∃kvs k b,H a=some (.dT kvs)/\y=.ref b/\H b=some (.tup (k.map kV))/\kvs.length < sizeLine/\H'=upd H a (.dT (jN kvs k v))
theorem jO.k {H:Hp} {a:Addr} {kvs:List (qL×V)} {k:qL} (e:H a=some (.dK kvs)):jO H a (kV k) (jj kvs k):=.inl ⟨kvs,k,.inl e,rfl,rfl⟩
theorem Q4.k {H:Hp} {a:Addr} {kvs:List (qL×V)} {k:qL} {v:V} (e:H a=some (.dK kvs)) (hl:kvs.length < sizeLine):Q4 H a (kV k) v (upd H a (.dK (jN kvs k v))):=.inl ⟨kvs,k,e,rfl,hl,rfl⟩
theorem Q4.t {H:Hp} {a b:Addr} {kvs:List (List qL×V)} {k:List qL} {v:V} (e:H a=some (.dT kvs)) (eb:H b=some (.tup (k.map kV))) (hl:kvs.length < sizeLine):
   Q4 H a (.ref b) v (upd H a (.dT (jN kvs k v))):=.inr ⟨kvs,k,b,e,rfl,eb,hl,rfl⟩
section
variable {X:Cx} {pins:List (Addr×Obj)} {σ:St} {H:Hp} {s:Shared} {a:Addr} {y v:V} {u r:Value} {o:Option V} {A:Around} {E:Value->Shared->Prop}
theorem qF.big (I:qF X pins σ H s):sysModules < s.heap.objs.size:=by
 have h:mainGlobals < s.heap.objs.size:=(I.mod.glob.keeps I.bk).lt
 exact zdL (by decide) h
theorem yG {Q:Value->Shared->Prop} (hu:A.units+1 < cLine) (I:qF X pins σ H s) (g:jO H a y (some v)) (ry:qP y u) (h:∀w' s',qF X pins σ H s'->qP v w'->Q w' s'):
   wpAny (model X.prog X.w) A (getItem (.ref a) u) Q E s:=by
 rcases g with ⟨kvs,k,e,ey,l⟩ | ⟨kvs,k,b,e,ey,eb,l⟩
 . subst ey
   obtain⟨z,hd,vs,rel,dd⟩:=V4 I.hok e
   obtain⟨w',hw,rw'⟩:=Zo.some_of (v:=v) (o:=valueAt vs k) (by rw[l];exact rel.val k)
   exact wpAny_getItem_of (Xm ry) dd.mapOf hw (h w' _ (I.tok _) rw')
 . subst ey
   cases (show u=Value.ref b from ry)
   obtain⟨z,hd,xs,rel,dd⟩:=V3 I.hok e
   obtain⟨w',hw,rw'⟩:=Zo.some_of (v:=v) (o:=(atKey xs k).map (·.2)) (by rw[l];exact rel.val k)
   obtain⟨p,hp,hp2⟩:=zbH.mp hw
   refine wpAny_getItem_heap (tupleKind_room_in1 hu) (Xk I.hok eb) dd hp ?_
   rw[hp2]
   exact h w' _ (I.tok _) rw'
theorem qbx {Q:Value->Shared->Prop} (hu:A.units+1 < cLine) (I:qF X pins σ H s) (g:jO H a y o) (ry:qP y u) (h:∀s',qF X pins σ H s'->Q (.bool o.isSome) s'):
   wpAny (model X.prog X.w) A (compareOp .In u (.ref a)) Q E s:=by
 rcases g with ⟨kvs,k,e,ey,l⟩ | ⟨kvs,k,b,e,ey,eb,l⟩
 . subst ey
   obtain⟨z,hd,vs,rel,dd⟩:=V4 I.hok e
   refine wpAny_in_of (Xm ry) hd dd.mapOf ?_
   rw[<-(rel.val k).isSome_eq,<-l]
   exact h _ (I.tok _)
 . subst ey
   cases (show u=Value.ref b from ry)
   obtain⟨z,hd,xs,rel,dd⟩:=V3 I.hok e
   refine wpAny_in_heap (tupleKind_room_in1 hu) (Xk I.hok eb) hd dd ?_
   have q:=(rel.val k).isSome_eq
   rw[zbd]at q
   rw[<-q,<-l]
   exact h _ (I.tok _)
theorem Gz {Q:Value->Shared->Prop} (hu:A.units+1 < cLine) (I:qF X pins σ H s) (g:jO H a y o) (ry:qP y u) (h:∀s',qF X pins σ H s'->Q (.bool (!o.isSome)) s'):
   wpAny (model X.prog X.w) A (compareOp .NotIn u (.ref a)) Q E s:=by
 rcases g with ⟨kvs,k,e,ey,l⟩ | ⟨kvs,k,b,e,ey,eb,l⟩
 . subst ey
   obtain⟨z,hd,vs,rel,dd⟩:=V4 I.hok e
   refine wpAny_notIn_of (Xm ry) hd dd.mapOf ?_
   rw[<-(rel.val k).isSome_eq,<-l]
   exact h _ (I.tok _)
 . subst ey
   cases (show u=Value.ref b from ry)
   obtain⟨z,hd,xs,rel,dd⟩:=V3 I.hok e
   refine wpAny_notIn_heap (tupleKind_room_in1 hu) (Xk I.hok eb) hd dd ?_
   have q:=(rel.val k).isSome_eq
   rw[zbd]at q
   rw[<-q,<-l]
   exact h _ (I.tok _)
theorem W5 {h':Heap} {t':Nat} {ob:HO} (I:qF X pins σ H s) (mu:N8 (H a)) (hs:Heap.SameBut a s.heap h') (he:∃q,h'.get? a=some q) (new:qS X.prog X.w (upd H a ob) h' a ob):
   qF X pins σ (upd H a ob) {s with heap:=h',toks:=t'}:=
 I.write (x:=a) (e:=a) mu (.inl rfl) (λb q hb z=>(hs.2 b hb).trans z) he new
theorem UX {P:Program} {w:World} {H':Hp} {h':Heap} {kvs:List (qL×V)} {vs:List (qL×Value)} (z:kvs.length<=sizeLine) (hd:(a==sysModules)=false) (rel:KV kvs vs) (dd:h'.DictOf (jm P w) a vs):
   qS P w H' h' a (.dK kvs):=⟨z,hd,vs,rel,dd⟩
theorem yF {H':Hp} {Q:Unit->Shared->Prop} (hu:A.units+1 < cLine) (I:qF X pins σ H s) (g:Q4 H a y v H') (ry:qP y u) (rv:qP v r) (h:∀s',qF X pins σ H' s'->Q () s'):
   wpAny (model X.prog X.w) A (setItem (.ref a) u r) Q E s:=by
 rcases g with ⟨kvs,k,e,ey,l,eH⟩ | ⟨kvs,k,b,e,ey,eb,l,eH⟩
 . subst ey eH
   obtain⟨z,hd,vs,rel,dd⟩:=RE I.hok e
   have hz:vs.length<=sizeLine:=by rw[<-rel.length];exact z
   have hl:(jN kvs k v).length<=sizeLine:=by have:=Jb kvs k v;omega
   refine wpAny_setItem_pairs (hsz:=hz) (Xm ry) dd λh' dd' hs=>h _ ?_
   have he:∃q,h'.get? a=some q:=let ⟨q,_,_,hq,_⟩:=dd';⟨q,hq⟩
   exact W5 I (by rw[e];exact True.intro) hs he (UX hl hd (rel.put k rv) dd')
 . subst ey eH
   cases (show u=Value.ref b from ry)
   obtain⟨z,hd,xs,rel,dd⟩:=qaq I.hok e
   have hz:xs.length<=sizeLine:=by rw[<-Paired.length rel];exact z
   have hl:(jN kvs k v).length<=sizeLine:=by have:=Jb kvs k v;omega
   refine wpAny_setItem_heap (hsz:=hz) (tupleKind_room_in1 hu) (Xk I.hok eb) dd λh' dd' hs=>h _ ?_
   obtain⟨q,es,ep,hq,h2,h3,h4,_,h5⟩:=dd'
   refine W5 I (by rw[e];exact True.intro) hs ⟨q,hq⟩ ⟨hl,hd,_,(rel.put k eb rv).keeps λc ys ec=>?_,q,es,ep,hq,h2,h3,h4,h5⟩
   rw[qi (M7 ec e (λz=>nomatch z))]
   exact ec
end
section
variable {X:Cx} {pins:List (Addr×Obj)} {σ:St} {H:Hp} {s:Shared} {a:Addr} {kvs:List (qL×V)} {k:qL} {u:Value} {A:Around} {E:Value->Shared->Prop}
end
def qax (i:Expr):Prop:=∀ov iv,subscripted i false ov iv=operate [ov,iv] (getItem ov iv)
theorem uV {prog:Program} {w:World} {A:Around} {E:Value->Shared->Prop} {s:Shared} {env:Env} {value slice:Expr} {pos:Pos} {T id:String} {Q:Value->Shared->Prop}
   (hl:typeLookup (.type T) "__getitem__"=pure (some (.builtin id))) (hs:qax slice)
   (h:wpAny (model prog w) A (eval value env) (λo s₁=>wpAny (model prog w) A (eval slice env) (λi s₂=>s₂.TypeIs o T/\wpAny (model prog w) A (getItem o i) Q E s₂) E s₁) E s):
   wpAny (model prog w) A (eval (.Subscript value slice pos) env) Q E s:=by
 refine Subscript_ (wpAny_mono h (λo s₁ h₁=>wpAny_mono h₁ (λi s₂ h₂=>?_) λ_ _ x=>x) λ_ _ x=>x)
 obtain⟨hT,h₂⟩:=h₂
 unfold subscriptTail
 refine wpAny_bind ?_
 rw[getitemInPython_of_ne hT.not_modules]
 refine wpAny_bind (wpAny_specialOf hT hl ?_)
 have fin:wpAny (model prog w) A (subscripted slice false o i) (λr s₃=>wpAny (model prog w) A (letTemporaryGo value o r >>= λ_=>pure r) Q E s₃) E s₂:=by
   rw[hs o i]
   exact wpAny_operating (wpAny_mono h₂ (λr s₃ h₃=>wpAny_bind (wpAny_letTemporaryGo (wpAny_pure h₃))) λ_ _ x=>x)
 first
   | exact wpAny_pure (wpAny_bind fin)
   | exact wpAny_bind (wpAny_pure (wpAny_bind fin))
   | exact wpAny_bind fin
theorem V6 {X:Cx} {pins:List (Addr×Obj)} {σ:St} {H:Hp} {s:Shared} {a:Addr} {y:V} {o:Option V} (I:qF X pins σ H s) (g:jO H a y o):s.TypeIs (.ref a) "dict":=by
 rcases g with ⟨kvs,k,e,_,_⟩ | ⟨kvs,k,b,e,_,_,_⟩
 . obtain⟨_,_,vs,_,dd⟩:=V4 I.hok e
   exact dd.typeIs
 . obtain⟨_,_,xs,_,dd⟩:=V3 I.hok e
   exact dd.typeIs
def YQ (td ty:TE):TE:=λσ H Q=>td σ H λx H1=>ty σ H1 λy H2=>∃a v,x=.ref a/\jO H2 a y (some v)/\Q v H2
def Mx (ty td:TE):TE:=λσ H Q=>ty σ H λy H1=>td σ H1 λx H2=>∃a o,x=.ref a/\jO H2 a y o/\Q (.bl o.isSome) H2
def uR (ty td:TE):TE:=λσ H Q=>ty σ H λy H1=>td σ H1 λx H2=>∃a o,x=.ref a/\jO H2 a y o/\Q (.bl (!o.isSome)) H2
def Rw (td ty tv:TE):TS:=λD σ H=>tv σ H λv H1=>td σ H1 λx H2=>ty σ H2 λy H3=>∃a H4,x=.ref a/\Q4 H3 a y v H4/\D.nx σ H4
section
variable {X:Cx} {o i e value:Expr} {pos pos' tpos:Pos} {td ty tv:TE}
theorem qX (hu:X.A.units+1 < cLine) (ho:JE X o td) (hi:JE X i ty) (hs:qax i):JE X (.Subscript o i pos) (YQ td ty):=.of (by
 have ho:=ho.to
 have hi:=hi.to
 intro pins s σ H Q I h
 refine uV PySem.F.slot_dict_getitem.lookup hs (jk (ho pins s σ H _ I h) λu s1 ⟨x,H1,I1,rx,q1⟩=>jk (hi pins s1 σ H1 _ I1 q1) λiv s2 ⟨y,H2,I2,ry,a,v,ex,g,q2⟩=>?_)
 subst ex
 obtain rfl:u=Value.ref a:=rx
 exact⟨V6 I2 g,yG hu I2 g ry λw' s3 I3 rw'=>⟨v,H2,I3,rw',q2⟩⟩)
theorem JX (hu:X.A.units+1 < cLine) (hi:JE X i ty) (ho:JE X o td):JC X .In i o (Mx ty td):=.of (by
 have hi:=hi.to
 have ho:=ho.to
 intro pins s σ H Q I h
 refine jk (hi pins s σ H _ I h) λiv s1 ⟨y,H1,I1,ry,q1⟩=>jk (ho pins s1 σ H1 _ I1 q1) λu s2 ⟨x,H2,I2,rx,a,ov,ex,g,q2⟩=>?_
 subst ex
 obtain rfl:u=Value.ref a:=rx
 exact qbx hu I2 g ry λs3 I3=>⟨.bl ov.isSome,H2,I3,rfl,q2⟩)
theorem Ju (hu:X.A.units+1 < cLine) (hi:JE X i ty) (ho:JE X o td):JC X .NotIn i o (uR ty td):=.of (by
 have hi:=hi.to
 have ho:=ho.to
 intro pins s σ H Q I h
 refine jk (hi pins s σ H _ I h) λiv s1 ⟨y,H1,I1,ry,q1⟩=>jk (ho pins s1 σ H1 _ I1 q1) λu s2 ⟨x,H2,I2,rx,a,ov,ex,g,q2⟩=>?_
 subst ex
 obtain rfl:u=Value.ref a:=rx
 exact Gz hu I2 g ry λs3 I3=>⟨.bl (!ov.isSome),H2,I3,rfl,q2⟩)
theorem jt (hu:X.A.units+1 < cLine) (ho:JE X o td) (hi:JE X i ty) (hv:JE X value tv) (hs:swapsWith value (some (.Subscript o i pos')) pos.line X.env=pure false):JS X (.Assign [.Subscript o i pos'] value pos) (Rw td ty tv):=.of (by
 have ho:=ho.to
 have hi:=hi.to
 have hv:=hv.to
 intro pins s σ H D I h
 refine wpAny_Assign_Subscript (jk (hv pins s σ H _ I h) λr s1 ⟨v,H1,I1,rv,q1⟩=>jk (ho pins s1 σ H1 _ I1 q1) λu s2 ⟨x,H2,I2,rx,q2⟩=>jk (hi pins s2 σ H2 _ I2 q2) λiv s3 ⟨y,H3,I3,ry,a,H4,ex,g,q3⟩=>?_) hs
 subst ex
 obtain rfl:u=Value.ref a:=rx
 exact yF hu I3 g ry rv λs4 I4=>⟨σ,H4,I4,q3⟩)
end
theorem V5 {P:Program} {w:World} {H:Hp} (h:Heap) (hb:sysModules < h.objs.size):qS P w H (h.push {cls:=.type "dict",data:=.dict #[]}) h.objs.size (.dK []):=
 ⟨zat _,beq_eq_false_iff_ne.mpr (Ne.symm (tV hb)),[],.nil,Heap.DictOf.new h⟩
theorem uj {P:Program} {w:World} {H:Hp} (h:Heap) (hb:sysModules < h.objs.size):qS P w H (h.push {cls:=.type "dict",data:=.dict #[]}) h.objs.size (.dT []):=
 ⟨zat _,beq_eq_false_iff_ne.mpr (Ne.symm (tV hb)),[],.nil,_,#[],0,tU _ rfl,⟨rfl,rfl,rfl⟩,rfl,rfl,zbo⟩
def yY:TE:=λ_ H Q=>∀p,H p=none->Q (.ref p) (upd H p (.dK []))
def yX:TE:=λ_ H Q=>∀p,H p=none->Q (.ref p) (upd H p (.dT []))
section
variable {X:Cx} {pos:Pos}
theorem xO:PE X (.Dict [] [] pos) yY:=λpins s σ H Q I h=>
 wpAny_Dict_empty ⟨.ref s.heap.objs.size,_,I.laid (a:=s.heap.objs.size) (o:=.dK []) (t':=s.toks) (λ_ _ q=>tu _ q) (tE _) (V5 s.heap I.big),rfl,h _ (I.hok.fresh (tE _))⟩
theorem Qn:JE X (.Dict [] [] pos) yY:=.of (xO)
theorem xN:PE X (.Dict [] [] pos) yX:=λpins s σ H Q I h=>
 wpAny_Dict_empty ⟨.ref s.heap.objs.size,_,I.laid (a:=s.heap.objs.size) (o:=.dT []) (t':=s.toks) (λ_ _ q=>tu _ q) (tE _) (uj s.heap I.big),rfl,h _ (I.hok.fresh (tE _))⟩
theorem wQ:JE X (.Dict [] [] pos) yX:=.of (xN)
end
def Uq:List (TE×TE)->St->Hp->(List (V×V)->Hp->Prop)->Prop
 | [],_,H,Q=>Q [] H
 | (tk,tv)::r,σ,H,Q=>tk σ H λx H1=>tv σ H1 λy H2=>Uq r σ H2 λps H3=>Q ((x,y)::ps) H3
abbrev VV:List (V×V)->List (Value×Value)->Prop:=Paired λp q=>qP p.1 q.1/\qP p.2 q.2
def PPs (X:Cx) (pos:Pos) (keys:List (Option Expr)) (values:List Expr) (trs:List (TE×TE)):Prop:=
 ∀(pins:List (Addr×Obj)) (s:Shared) (σ:St) (H:Hp) (Q:List (V×V)->Hp->Prop),qF X pins σ H s->Uq trs σ H Q->
   wpAny (model X.prog X.w) X.A (evalPairs (pairTrees keys values X.env pos)) (λvs s'=>∃ps H',qF X pins σ H' s'/\VV ps vs/\Q ps H') X.xe s
@[irreducible] def uH (X:Cx) (pos:Pos) (keys:List (Option Expr)) (values:List Expr) (trs:List (TE×TE)):Prop:=PPs X pos keys values trs
theorem uH.of {X:Cx} {pos:Pos} {keys:List (Option Expr)} {values:List Expr} {trs:List (TE×TE)} (h:PPs X pos keys values trs):uH X pos keys values trs:=by unfold uH;exact h
theorem uH.to {X:Cx} {pos:Pos} {keys:List (Option Expr)} {values:List Expr} {trs:List (TE×TE)} (h:uH X pos keys values trs):PPs X pos keys values trs:=by unfold uH at h;exact h
theorem K7 {X:Cx} {pos:Pos}:uH X pos [] [] []:=.of (by
 exact λpins s σ H Q I h=>pairTrees_nil_walk ⟨[],H,I,.nil,h⟩)
theorem xL {X:Cx} {pos:Pos} {k v:Expr} {ks:List (Option Expr)} {vs:List Expr} {tk tv:TE} {trs:List (TE×TE)} (hk:PE X k tk) (hv:PE X v tv) (hr:PPs X pos ks vs trs):
   PPs X pos (some k::ks) (v::vs) ((tk,tv)::trs):=λpins s σ H Q I h=>
 pairTrees_cons_walk (jk (hk pins s σ H _ I h) λu s1 ⟨x,H1,I1,rx,q1⟩=>jk (hv pins s1 σ H1 _ I1 q1) λw2 s2 ⟨y,H2,I2,ry,q2⟩=>
   jk (hr pins s2 σ H2 _ I2 q2) λws s3 ⟨ps,H3,I3,rel,q3⟩=>⟨(x,y)::ps,H3,I3,.cons ⟨rx,ry⟩ rel,q3⟩)
theorem Xn {X:Cx} {pos:Pos} {k v:Expr} {ks:List (Option Expr)} {vs:List Expr} {tk tv:TE} {trs:List (TE×TE)} (hk:JE X k tk) (hv:JE X v tv) (hr:uH X pos ks vs trs):uH X pos (some k::ks) (v::vs) ((tk,tv)::trs):=.of (xL hk.to hv.to hr.to)
def QG (kvs more:List (qL×V)):List (qL×V):=more.foldl (λacc kv=>jN acc kv.1 kv.2) kvs
theorem KV.merge:∀{more:List (qL×V)} {rs:List (qL×Value)} {kvs:List (qL×V)} {vs:List (qL×Value)},KV more rs->KV kvs vs->KV (QG kvs more) (merged vs rs):=by
 intro more rs kvs vs r
 unfold KV at r
 induction r generalizing kvs vs with
 | nil=>intro q;exact q
 | @cons p q ps qs h t ih=>
   intro r0
   have e:KV (jN kvs p.1 p.2) (stored vs q.1 q.2):=by
     have:=r0.put p.1 h.2
     rw[<-h.1];exact this
   exact ih e
theorem Jh:∀(more kvs:List (qL×V)),(QG kvs more).length<=kvs.length+more.length
 | [],kvs=>by show kvs.length<=kvs.length+0;omega
 | p::r,kvs=>by
   have h1:=Jh r (jN kvs p.1 p.2)
   have h2:=Jb kvs p.1 p.2
   show (QG (jN kvs p.1 p.2) r).length<=_
   rw[zau];omega
theorem Xy {P:Program} {w:World}:∀{kvs:List (qL×V)} {ws:List (Value×Value)},VV (kvs.map λkv=>(kV kv.1,kv.2)) ws->∃rs,Carries (jm P w) ws rs/\KV kvs rs
 | [],_,r=>by rw[zco]at r;cases r;exact⟨[],True.intro,.nil⟩
 | p::kvs,_,r=>by
   rw[tW]at r
   cases r with
   | @cons a b as bs h t=>
     obtain⟨rs,c,q⟩:=Xy (P:=P) (w:=w) t
     obtain⟨b1,b2⟩:=b
     exact⟨(p.1,b2)::rs,⟨Xm h.1,rfl,c⟩,.cons ⟨rfl,h.2⟩ q⟩
def Mw (trs:List (TE×TE)):TE:=λσ H Q=>∀p,H p=none->Uq trs σ (upd H p (.dK [])) λps H2=>H2 p=some (.dK [])/\∃kvs:List (qL×V),ps=kvs.map (λkv=>(kV kv.1,kv.2))/\kvs.length<=15/\Q (.ref p) (upd H2 p (.dK (QG [] kvs)))
theorem Gf {X:Cx} {pos:Pos} {keys:List (Option Expr)} {values:List Expr} {trs:List (TE×TE)} (h:uH X pos keys values trs) (hall:keys.all (·.isSome)=true) (hl:keys.length=values.length) (h0:keys≠[]) (h15:keys.length<=15):JE X (.Dict keys values pos) (Mw trs):=.of (by
 have h:=h.to
 intro pins s σ H Q I q
 have hn:=I.hok.fresh (tE s.heap.objs.size)
 have I1:=I.laid (a:=s.heap.objs.size) (o:=.dK []) (h':=s.heap.push {cls:=.type "dict",data:=.dict #[]}) (t':=s.toks) (λ_ _ q=>tu _ q) (tE _) (V5 s.heap I.big)
 refine wpAny_Dict_walk (knd:=jm X.prog X.w) hall hl h0 h15 (jk (h pins _ σ _ _ I1 (q _ hn)) λws s2 ⟨ps,H2,I2,rel,e,kvs,ep,lk,q2⟩=>?_)
 subst ep
 obtain⟨rs,c,rk⟩:=Xy (P:=X.prog) (w:=X.w) rel
 obtain⟨z,hd,vs0,r0,dd⟩:=RE I2.hok e
 cases r0
 refine⟨rs,c,dd,λh' dd' hs=>⟨.ref s.heap.objs.size,_,?_,rfl,q2⟩⟩
 have hz:(QG [] kvs).length<=sizeLine:=by
   have h1:=Jh kvs []
   rw[zdo]at h1
   rw[sizeLine_eq];omega
 have he:∃q,h'.get? s.heap.objs.size=some q:=let ⟨q,_,_,hq,_⟩:=dd';⟨q,hq⟩
 exact W5 I2 (by rw[e];exact True.intro) hs he (UX hz hd (rk.merge .nil) dd'))
structure M1 (X:Cx) (o:Expr) (m:Str) (apos:Pos) (e:Expr) (cpos:Pos):Prop where
 base:attributeBase o m X.env (eval o X.env)=eval o X.env
 few:((backTo cpos (starEach [e] X.env)).all (λx=> !x.1)&&(backToKw cpos (keywordEach [] X.env)).all (λx=>x.1.isSome)
   &&decide (([e]:List Expr).length+([]:List Keyword).length+(if ([]:List Keyword).isEmpty then 0 else 1) < 30))=true
 line:(apos.endLine==cpos.line)=true
 trees:backTo cpos (starEach [e] X.env)=[(false,eval e X.env)]
structure M2 (X:Cx) (o:Expr) (m:Str) (apos:Pos) (e f:Expr) (cpos:Pos):Prop where
 base:attributeBase o m X.env (eval o X.env)=eval o X.env
 few:((backTo cpos (starEach [e,f] X.env)).all (λx=> !x.1)&&(backToKw cpos (keywordEach [] X.env)).all (λx=>x.1.isSome)
   &&decide (([e,f]:List Expr).length+([]:List Keyword).length+(if ([]:List Keyword).isEmpty then 0 else 1) < 30))=true
 line:(apos.endLine==cpos.line)=true
 trees:backTo cpos (starEach [e,f] X.env)=[(false,eval e X.env),(false,eval f X.env)]
section
variable {X:Cx} {pins:List (Addr×Obj)} {σ:St} {H:Hp} {s:Shared} {a:Addr} {y d:V} {u r:Value} {o:Option V} {A:Around} {E:Value->Shared->Prop}
end
section
variable {X:Cx} {o e f:Expr} {apos cpos:Pos} {td ty tx:TE}
end
section
variable {X:Cx} {pins:List (Addr×Obj)} {σ:St} {H:Hp} {s:Shared} {a:Addr} {kvs:List (qL×V)} {A:Around} {E:Value->Shared->Prop}
end
section
variable {X:Cx} {pins:List (Addr×Obj)} {σ:St} {H:Hp} {s:Shared} {a:Addr} {y:V} {u:Value} {A:Around} {E:Value->Shared->Prop}
end
end L2
namespace Att
open PySem PySem.W PySem.Calls PyProof.Rows
theorem Ym {P:Params} {h:Heap}:∀(ns:List Int) (vs:List Value),WellAll P h vs (ns.map WData.int)->IntsAre vs ns:=by
 intro ns
 induction ns with
 | nil=>
   intro vs w
   rw[zco]at w
   cases w
   exact .nil
 | cons n ns ih=>
   intro vs w
   rw[tW]at w
   cases w with
   | cons a b=>
     cases a
     exact .cons _ _ (ih _ b)
theorem kM {l:OpenLaw} {n:Nat} (hn:l.most=some n) {P:Params} {h:Heap} {args:List WData} {vals:List Value}
   (hpre:l.row.toRowW.claim.pre args=true) (hwl:WellAll P h vals args):
   ∃a vs ns,vals=[Value.ref a]/\args=[WData.list (ns.map WData.int)]/\h.get? a=some {cls:=.type "list",data:=.seq vs.toArray}/\IntsAre vs ns/\ns.length<=n:=by
 have hsh:WShape.hasAll [] args [.list .int]=true:=(pre_splitW hpre).1
 have hc:l.pre.holds [] {args:=args}=true:=(pre_splitW hpre).2
 obtain⟨d,r,rfl,h1,h2⟩:=hasAllW_cons hsh
 obtain rfl:=hasAllW_nil h2
 obtain⟨xs,rfl,h3⟩:=hasW_list h1
 obtain⟨ns,rfl⟩:=items_int h3
 have hlen:ns.length<=n:=by
   unfold OpenLaw.pre at hc
   have h4:(WTm.not (.lt (.lit (.int (n:Int))) (.len (.arg 0)))).holds [] {args:=[.list (ns.map .int)]}=true:=by
     have h4:=(holds_andW hc).1
     rw[hn]at h4
     exact h4
   have h5:=condW_of h4 (w_not (w_lt w_lit (w_len_list (w_arg rfl))))
   rw[tj]at h5
   refine Nat.le_of_not_lt λq=>?_
   have q':(n:Int) < ((ns.length:Nat):Int):=by omega
   first
     | (rw[decide_eq_true q']at h5;exact absurd h5 (by decide))
     | (simp at h5;omega)
 cases hwl with
 | cons w1 w2=>
   cases w2
   cases w1 with
   | list ho hall=>exact⟨_,_,ns,rfl,rfl,ho,Ym ns _ hall,hlen⟩
theorem kW (l:OpenLaw) (args:List WData):l.row.toRowW.claim.post args (.bool true) args=true:=
 postW_of (r:=l.row.toRowW) (X:=(true==true))
   (show WShape.has [] (.bool true) .bool=true by first | rfl | decide | simp [WShape.has,WShape.arms,WShape.armsAll])
   (show (WTm.eq .res (.lit (.bool true))).value [] {args:=args,res:=some (.bool true),after:=args}=some (.bool (true==true)) from w_eq_bool (w_res rfl) w_lit) rfl
theorem attach_call {l:OpenLaw} {n:Nat} {q:Program} {loose:List Str} {XP:(Str->Option Value)->Heap->Prop} {YP:World->Heap->Prop} {d:DefRec}
   (hn:l.most=some n) (hdf:d.params.defaults=[])
   (call:∀(w:World) (s₀ s₁:Shared) (mg mb:Str->Option Value) (fa:Addr) (o:Obj) (pm cd doc:Value) (a:Addr) (vs:List Value) (ns:List Int),
     Ground q loose [] XP w s₀ mg mb s₁.heap->YP w s₁.heap->
     s₁.heap.get? fa=some o->o.data=.func (docDef d.name d.params d.body d.scope pm cd doc)->s₁.heap.CodeRec cd d.name->mg d.name=some (.ref fa)->
     s₁.heap.get? a=some {cls:=.type "list",data:=.seq vs.toArray}->IntsAre vs ns->ns.length<=n->s₁.gens=#[]->
     codeAny (model l.prog w) callerA (.call (.ref fa) ⟨[.ref a],[]⟩) (λr s'=>r=.ok (.ret (.bool true))/\OldK s₁.heap s'.heap/\s'.os=s₁.os/\AllBare s'.gens) s₁):
   WalkO q loose XP YP l.row.toRowW d [] (λf vs=>PySem.call f vs):=by
 intro w s₀ s₁ mg mb G Y fa o pm cd doc dV kV ho hd hcd hD hmg hg args vals as hpre hlay hrd hwl hlo
 obtain rfl:dV=.none:=Dflts.none hD hdf
 obtain rfl:kV=.none:=Dflts.noKw hD
 obtain⟨a,vs,ns,rfl,rfl,hobj,hints,hlen⟩:=kM hn hpre hwl
 refine enter_call (codeAny_mono (call w s₀ s₁ mg mb fa o pm cd doc a vs ns G Y ho (fd_plain hd) hcd hmg hobj hints hlen hg) λr s' hq=>?_)
 obtain⟨rfl,h2,h3,h4⟩:=hq
 exact⟨.inl ⟨.bool true,.bool true,[],rfl,λ_=>rfl,.bool true,kW l _,λ_=>⟨zdD.nil,λ_ hm=>(nomatch hm)⟩⟩,h2,h3,h4⟩
section
variable {prog:Program} {w:World} {A:Around} {E:Value->Shared->Prop} {s:Shared} {K:Frag}
end
end Att
namespace L2
open PySem PySem.Spec PyProof.Rows
theorem XS:∀{vs:List Value} {ns:List Int},IntsAre vs ns->qI (ns.map V.int) vs
 | _,_,.nil=>.nil
 | _,_,.cons n t h=>.cons ⟨t,rfl⟩ (XS h)
def qbB (H:Hp):Prop:=∀b,H b=none\/∃o xs,H b=some (.frz o (.lst xs))
def j8 (s:Stmt) (j:Nat):Stmt:=match s with
 | .ClassDef _ _ _ body _ _ _ _ _ _ _=>body.getD j (.Pass ⟨0,0,0,0⟩)
 | _=>.Pass ⟨0,0,0,0⟩
def Qz (s:Stmt):Arguments:=match s with
 | .FunctionDef _ a _ _ _ _ _ _ _ _=>a
 | _=>{posonlyargs:=[],args:=[],vararg:=none,kwonlyargs:=[],kw_defaults:=[],kwarg:=none,defaults:=[]}
def jM (s:Stmt):List Stmt:=match s with
 | .FunctionDef _ _ b _ _ _ _ _ _ _=>b
 | _=>[]
def qj (s:Stmt):Scope:=match s with
 | .FunctionDef _ _ _ _ _ _ sc _ _ _=>sc
 | _=>{kind:=.function,names:=[],isGenerator:=false,isCoroutine:=false}
abbrev qK:XF:=λ_ _ _ _ _ _=>False
abbrev E0:XK:=λ_ _ _=>False
theorem QJ {X:Cx}:Qq qK X E0:=λ_ _ _ _ _ _ _ h=>h.elim
structure jI (K:PySem.W.Frag) (x qual:Str) (st:Stmt) (f:Addr) (fd:FuncData):Prop where
 ex:∃(oc:Value) (od:Option Addr) (kV doc pm:Value) (an:Option Addr) (cdv ct:Value) (osl:Array (Option Value)),
   fd=zbj x qual (Qz st) (jM st) (qj st) .none kV doc pm an cdv ct/\K.lookup f=some ⟨oc,od,.func fd,osl⟩/\zbD K cdv qual=true
 kp:zaC K (.ref f)=true
section
variable {P:Program} {w:World} {K:PySem.W.Frag} {mg:Str->Option Value} {base:Heap}
theorem jI.ok {x qual:Str} {st:Stmt} {f:Addr} {fd:FuncData} {N ps:List Str} {k:Nat} {sp:Sp} (F:jI K x qual st f fd) (S:qt N ps (qj st)) (len:∀vs H Q E,sp vs H Q E->vs.length=ps.length)
   (hbody:∀(cdv:Value) (A:Around) (outer:List Env) (s:Shared) (H:Hp) (vs:List V) (Q:VK) (E:XK),qV k (A.deeper (envOfC qual (qj st) s.heap.objs.size f cdv))->sp vs H Q E->
     ∃t,RH (J9 qK P w K mg base N qual (qj st) f cdv A outer s H E).nox (jM st) t/\t {nx:=λ_ H'=>Q .non H',rt:=Q} (Qc N vs) H):qm P w K mg base qK (k+1) f fd ps sp:=by
 obtain⟨oc,od,kV,doc,pm,an,cdv,ct,osl,rfl,lk,hcd⟩:=F.ex
 refine RD lk hcd S len λA outer s H vs Q E hr hsp=>?_
 obtain⟨t,h,q⟩:=hbody cdv A outer s H vs Q E hr hsp
 exact⟨t,h.nox,q⟩
theorem jI.okJ {x qual:Str} {st:Stmt} {f:Addr} {fd:FuncData} {N ps:List Str} {k:Nat} {sp:Sp} (F:jI K x qual st f fd) (S:qt N ps (qj st)) (len:∀vs H Q E,sp vs H Q E->vs.length=ps.length)
   (hbody:∀(cdv:Value) (A:Around) (outer:List Env) (s:Shared) (H:Hp) (vs:List V) (Q:VK) (E:XK),qV k (A.deeper (envOfC qual (qj st) s.heap.objs.size f cdv))->sp vs H Q E->
     ∃t,Vc (J9 qK P w K mg base N qual (qj st) f cdv A outer s H E).nox (jM st) t/\t {nx:=λ_ H'=>Q .non H',rt:=Q} (Qc N vs) H):qm P w K mg base qK (k+1) f fd ps sp:=
 F.ok S len λcdv A outer s H vs Q E hr h=>let ⟨t,a,b⟩:=hbody cdv A outer s H vs Q E hr h;⟨t,a.to,b⟩
theorem jI.binds {x qual:Str} {st:Stmt} {f:Addr} {fd:FuncData} {ps:List Str} (F:jI K x qual st f fd)
   (h:∀(kV doc pm:Value) (an:Option Addr) (cdv ct:Value) (us:List Value),us.length=ps.length->bindArgs (zbj x qual (Qz st) (jM st) (qj st) .none kV doc pm an cdv ct) ⟨us,[]⟩=pure (ps.zip us)):jG K fd ps []:=by
 obtain⟨oc,od,kV,doc,pm,an,cdv,ct,osl,rfl,lk,hcd⟩:=F.ex
 exact .all (h kV doc pm an cdv ct)
theorem W2 {x qual:Str} {st:Stmt} {f:Addr} {oc:Value} {od an:Option Addr} {osl:Array (Option Value)} {kV doc pm cdv ct:Value} (l:K.lookup f=some ⟨oc,od,.func (zbj x qual (Qz st) (jM st) (qj st) .none kV doc pm an cdv ct),osl⟩)
   (c:zbD K cdv qual=true) (k:zaC K (.ref f)=true):jI K x qual st f (zbj x qual (Qz st) (jM st) (qj st) .none kV doc pm an cdv ct):=⟨⟨oc,od,kV,doc,pm,an,cdv,ct,osl,rfl,l,c⟩,k⟩
end
theorem jU {A:Around} {k:Nat} (hr:qV k A):A.units+1 < cLine:=zaw (Nat.add_le_add_left (by decide:1<=64) _) hr.units
theorem qp {n:Nat} (h:n<=1000):n < sizeLine:=zaw h (by decide)
section
variable {X:Cx}
theorem pv (i:Nat) {x:Str} {pos:Pos} (hN:X.N[i]?=some x:=by rfl) (hv:Mi X.env.scope x:=by first | exact Or.inl rfl | exact Or.inr (Or.inl rfl) | exact Or.inr (Or.inr rfl)) (hd:(x==("__debug__":Str))=false:=by decide)
   (hcd:(x==("__classdict__":Str))=false:=by decide):PE X (.Name x pos) (jo i):=Nb hN hv hd hcd
theorem jv (i:Nat) {x:Str} {pos:Pos} (hN:X.N[i]?=some x:=by rfl) (hv:Mi X.env.scope x:=by first | exact Or.inl rfl | exact Or.inr (Or.inl rfl) | exact Or.inr (Or.inr rfl)) (hd:(x==("__debug__":Str))=false:=by decide) (hcd:(x==("__classdict__":Str))=false:=by decide):JE X (.Name x pos) (jo i):=.of (pv i hN hv hd hcd)
end
theorem jz {A B:Prop} (h:B):if false=true then A else B:=by
 rw[if_neg tO]
 exact h
theorem j4 {A B:Prop} (h:A):if true=true then A else B:=by
 rw[if_pos rfl]
 exact h
theorem yq {c A B:Prop} [Decidable c] (h1:c->A) (h2:¬c->B):if c then A else B:=by
 by_cases h:c
 . rw[if_pos h]
   exact h1 h
 . rw[if_neg h]
   exact h2 h
def qo (H H':Hp):Prop:=∀b o,H b=some o->H' b=some o
theorem qo.refl (H:Hp):qo H H:=λ_ _ h=>h
theorem qo.trans {H H1 H2:Hp} (a:qo H H1) (b:qo H1 H2):qo H H2:=λc o h=>b c o (a c o h)
theorem qo.seq {K:PySem.W.Frag} {H H':Hp} {a:Addr} {xs:List V} (e:qo H H') (h:SqL K H a xs):SqL K H' a xs:=by
 rcases h with (h | ⟨o,h⟩) | h
 . exact .inl (.inl (e _ _ h))
 . exact .inl (.inr ⟨o,e _ _ h⟩)
 . exact .inr h
section
variable {X:Cx}
end
section
variable {κ:Type} [DecidableEq κ]
theorem yN {kvs:List (κ×V)} {k:κ} (h:jj kvs k=none):¬k∈kvs.map (·.1):=by
 intro m
 obtain⟨p,hp,e⟩:=tL.mp m
 have q:(kvs.any λkv=>decide (kv.1=k))=true:=zaZ.mpr ⟨p,hp,decide_eq_true e⟩
 rw[QA,h]at q
 exact absurd q (by simp)
theorem uN {kvs:List (κ×V)} {k:κ} {v:V} (h:jj kvs k=some v):k∈kvs.map (·.1):=by
 have q:(kvs.any λkv=>decide (kv.1=k))=true:=by
   rw[QA,h]
   all_goals rfl
 obtain⟨p,hp,e⟩:=zaZ.mp q
 exact tL.mpr ⟨p,hp,of_decide_eq_true e⟩
theorem vP:∀{l:List κ} {k:κ},l.Nodup->¬k∈l->(l++[k]).Nodup
 | [],k,_,_=>by simp
 | a::r,k,h,hk=>by
   obtain⟨h1,h2⟩:=zal.mp h
   show (a::(r++[k])).Nodup
   refine zal.mpr ⟨λm=>?_,vP h2 λm=>hk (tY.mpr (Or.inr m))⟩
   rcases tX.mp m with q | q
   . exact h1 q
   . exact hk (tY.mpr (Or.inl (zab.mp q).symm))
theorem K1 {kvs:List (κ×V)} {k:κ} (v:V) (hn:(kvs.map (·.1)).Nodup) (h:jj kvs k=none):((jN kvs k v).map (·.1)).Nodup:=by
 rw[QC v h,tI]
 exact vP hn (yN h)
end
end L2
set_option maxHeartbeats 4000000
namespace L2
open PySem PySem.Spec PyProof.Rows
theorem vX:(NameKind.free==NameKind.free)=true:=rfl
def ja (env:Env):List (Str×NameKind)->List (Str×Addr)->List (Str×Addr)
 | [],cs=>cs
 | (n,k)::r,cs=>ja env r (if k==.free then (n,(env.cells.lookup n).getD 0)::cs else cs)
theorem Jj {scope:Scope} {env:Env} (h:∀x∈scope.names,x.2=.free->∃c,env.cells.lookup x.1=some c):closureFor scope env=pure (ja env scope.names []):=by
 simp only[closureFor]
 have key:∀(l:List (Str×NameKind)) (cs:List (Str×Addr)),(∀x∈l,x.2=.free->∃c,env.cells.lookup x.1=some c)->
     (forIn l cs λx (r:List (Str×Addr))=>if (x.snd==NameKind.free)=true then (do let a <-cellOf env x.fst;pure (ForInStep.yield ((x.fst,a)::r)):Sem (ForInStep (List (Str×Addr)))) else pure (ForInStep.yield r))=(pure (ja env l cs):Sem (List (Str×Addr))):=by
   intro l
   induction l with
   | nil=>intro cs _;rfl
   | cons x l ih=>
     intro cs hl
     obtain⟨n,k⟩:=x
     have ihl:=λcs'=>ih cs' λy hy=>hl y (tZ _ hy)
     rw[List.forIn_cons]
     by_cases hk:k=.free
     . subst hk
       obtain⟨c,hc⟩:=hl (n,.free) t9 rfl
       have e1:cellOf env n=pure c:=by
         unfold cellOf
         have hc':env.cells.lookup n=some c:=hc
         rw[hc']
       have e2:ja env ((n,NameKind.free)::l) cs=ja env l ((n,c)::cs):=by
         have hc':env.cells.lookup n=some c:=hc
         show ja env l (if (NameKind.free==NameKind.free)=true then (n,(env.cells.lookup n).getD 0)::cs else cs)=_
         rw[if_pos vX,hc']
         rfl
       rw[e2,<-ihl]
       dsimp only
       rw[if_pos vX,e1]
       rfl
     . have hb:(k==NameKind.free)=false:=by simpa using hk
       have e2:ja env ((n,k)::l) cs=ja env l cs:=by
         show ja env l (if (k==NameKind.free)=true then (n,(env.cells.lookup n).getD 0)::cs else cs)=_
         rw[if_neg (by rw[hb];decide)]
       rw[e2,<-ihl]
       dsimp only
       rw[if_neg (by rw[hb];decide)]
       rfl
 rw[key scope.names [] h]
 rfl
theorem Jc {env:Env} {x:Str} {c:Addr}:∀{l:List (Str×NameKind)} {cs:List (Str×Addr)},(ja env l cs).lookup x=some c->cs.lookup x=some c\/((x,NameKind.free)∈l/\c=(env.cells.lookup x).getD 0)
 | [],cs,h=>.inl h
 | (n,k)::r,cs,h=>by
   rcases Jc (l:=r) h with h | ⟨h1,h2⟩
   . by_cases hk:k=.free
     . subst hk
       rw[if_pos vX,zav]at h
       by_cases hx:x=n
       . subst hx
         simp only[beq_self_eq_true]at h
         exact .inr ⟨t9,(tN.inj h).symm⟩
       . have hb:(x==n)=false:=beq_eq_false_iff_ne.mpr hx
         simp only[hb]at h
         exact .inl h
     . have hb:(k==NameKind.free)=false:=by simpa using hk
       rw[if_neg (by rw[hb];decide)]at h
       exact .inl h
   . exact .inr ⟨tZ _ h1,h2⟩
theorem J0 {env:Env} {x:Str}:∀{l:List (Str×NameKind)} {cs:List (Str×Addr)},((x,NameKind.free)∈l\/∃c,cs.lookup x=some c)->∃c,(ja env l cs).lookup x=some c
 | [],cs,h=>by
   rcases h with h | h
   . cases h
   . exact h
 | (n,k)::r,cs,h=>by
   show ∃c,(ja env r (if (k==NameKind.free)=true then (n,(env.cells.lookup n).getD 0)::cs else cs)).lookup x=some c
   refine J0 (l:=r) ?_
   rcases h with h | ⟨c,h⟩
   . rcases tY.mp h with h | h
     . cases h
       refine .inr ⟨(env.cells.lookup x).getD 0,?_⟩
       rw[if_pos vX,zav]
       simp only[beq_self_eq_true]
     . exact .inl h
   . refine .inr ?_
     by_cases hk:(k==NameKind.free)=true
     . rw[if_pos hk,zav]
       cases hx:x==n with
       | true=>exact⟨_,rfl⟩
       | false=>exact⟨c,h⟩
     . rw[if_neg hk]
       exact⟨c,h⟩
theorem zd {scope:Scope} {env:Env} {x:Str} {k:NameKind}:∀{names:List (Str×NameKind)},names.lookup x=some k->
   ∃k',(names.map λ(n,k)=>if (k==NameKind.free&&env.scope.kind==.function&&env.kindOf n==some .cell) then (n,NameKind.cell) else (n,k)).lookup x=some k'/\(k'=k\/(k=.free/\k'=.cell))
 | [],h=>by simp at h
 | (n,j)::r,h=>by
   rw[tW]
   by_cases hx:x=n
   . subst hx
     rw[zav]at h
     simp only[beq_self_eq_true]at h
     cases h
     dsimp only
     by_cases hc:(k==NameKind.free&&env.scope.kind==.function&&env.kindOf x==some .cell)=true
     . rw[if_pos hc,zav]
       simp only[beq_self_eq_true]
       refine⟨_,rfl,.inr ⟨?_,rfl⟩⟩
       simp only[zaq,beq_iff_eq]at hc
       exact hc.1.1
     . rw[if_neg hc,zav]
       simp only[beq_self_eq_true]
       exact⟨_,rfl,.inl rfl⟩
   . have hb:(x==n)=false:=beq_eq_false_iff_ne.mpr hx
     rw[zav]at h
     simp only[hb]at h
     obtain⟨k',h1,h2⟩:=zd (env:=env) (scope:=scope) h
     refine⟨k',?_,h2⟩
     dsimp only
     by_cases hc:(j==NameKind.free&&env.scope.kind==.function&&env.kindOf n==some .cell)=true
     . rw[if_pos hc,zav]
       simp only[hb]
       exact h1
     . rw[if_neg hc,zav]
       simp only[hb]
       exact h1
theorem mem_of_lookup {x:Str} {k:NameKind}:∀{l:List (Str×NameKind)},l.lookup x=some k->(x,k)∈l
 | [],h=>by simp at h
 | (n,j)::r,h=>by
   rw[zav]at h
   by_cases hx:x=n
   . subst hx
     simp only[beq_self_eq_true]at h
     cases h
     exact t9
   . have hb:(x==n)=false:=beq_eq_false_iff_ne.mpr hx
     simp only[hb]at h
     exact tZ _ (mem_of_lookup h)
theorem ZI {f:Str×NameKind->Str×NameKind} (hf:∀p,(f p).1=p.1) {x:Str} {k:NameKind}:∀{l:List (Str×NameKind)},(l.map f).lookup x=some k->∃j,l.lookup x=some j/\(f (x,j)).2=k
 | [],h=>by simp at h
 | (n,j)::r,h=>by
   rw[tW]at h
   have e:f (n,j)=(n,(f (n,j)).2):=by
     have:=hf (n,j)
     exact Prod.ext this rfl
   rw[e,zav]at h
   rw[zav]
   by_cases hx:x=n
   . subst hx
     simp only[beq_self_eq_true]at h ⊢
     exact⟨j,rfl,tN.inj h⟩
   . have hb:(x==n)=false:=beq_eq_false_iff_ne.mpr hx
     simp only[hb]at h ⊢
     exact ZI hf h
def Yj (X:Cx) (N:List Str) (scope:Scope) (C:Addr) (s₂:Shared) (H₂:Hp) (fp:List Addr) (pins:List (Addr×Obj)):Cx where
 prog:=X.prog
 w:=X.w
 K:=X.K
 mg:=X.mg
 base:=X.base
 A:=X.A
 N:=N
 s₀:=s₂
 H₀:=H₂
 env:=compEnvC scope (ja X.env scope.names []) C X.env
 outer:=X.stack
 stack:=X.stack
 ex:=fp
 fn:=λ_=>false
 calm:=X.calm
 pn:=X.pn++pins
 xe:=λ_ _=>False
def RP (ix:List (Option Nat)) (σ:St):St:=ix.map λo=>o.bind λj=>(σ[j]?).join
def Gg (N' N:List Str) (sc esc:Scope) (ix:List (Option Nat)):Bool:=
 ix.length==N'.length&&(ix.zip N').all λp=>match p.1 with
   | none=>true
   | some j=>N[j]?==some p.2&&sc.names.lookup p.2==some .free&&(esc.names.lookup p.2==some .cell || esc.names.lookup p.2==some .free)
structure Qb (X:Cx) (N':List Str) (ix:List (Option Nat)) (scope:Scope):Prop where
 kind:scope.kind=.function
 nocell:(scope.names.all λx=>x.2 != .cell)=true
 locs:(scope.names.all λx=>x.2 != .local || scope.names.lookup x.1==some .local)=true
 frees:(scope.names.all λx=>x.2 != .free || (X.env.scope.names.lookup x.1==some .cell || X.env.scope.names.lookup x.1==some .free))=true
 ixs:Gg N' X.N scope X.env.scope ix=true
section
variable {X:Cx} {N':List Str} {ix:List (Option Nat)} {scope:Scope} {pins:List (Addr×Obj)} {σ:St} {H:Hp} {s:Shared}
theorem Qb.cellH (S:Qb X N' ix scope):∀y∈scope.names,y.2≠.cell:=λy hy e=>by
 have:=zaL.mp S.nocell y hy
 rw[e]at this
 exact absurd this (by decide)
theorem Qb.locH (S:Qb X N' ix scope):∀y∈scope.names,y.2=.local->scope.names.lookup y.1=some .local:=λy hy e=>by
 have:=zaL.mp S.locs y hy
 simp only[e,zdp,bne_self_eq_false,zaY,false_or,beq_iff_eq]at this
 exact this
theorem Qb.freeH (S:Qb X N' ix scope) (ok:X.Ok):∀x∈scope.names,x.2=.free->∃c,X.env.cells.lookup x.1=some c:=λx hx e=>by
 have:=zaL.mp S.frees x hx
 simp only[e,zdp,bne_self_eq_false,zaY,false_or,beq_iff_eq]at this
 exact ok.has x.1 this
theorem Qb.clook (S:Qb X N' ix scope) (ok:X.Ok) {x:Str} {c:Addr} (h:(ja X.env scope.names []).lookup x=some c):X.env.cells.lookup x=some c/\(x,NameKind.free)∈scope.names:=by
 rcases Jc h with h | ⟨h1,h2⟩
 . simp at h
 . obtain⟨c',hc'⟩:=S.freeH ok _ h1 rfl
   have hc2:X.env.cells.lookup x=some c':=hc'
   rw[hc2]at h2
   subst h2
   exact⟨hc2,h1⟩
theorem qar {C:Addr} {fp:List Addr} (S:Qb X N' ix scope) (I:qF X pins σ H s) (hC:s.heap.objs.size<=C) (hf:∀b∈fp,Jz X pins H b) (hfo:∀b∈fp,b < s.heap.objs.size):(Yj X N' scope C s H fp pins).Ok where
 mod:=I.ok.mod
 kind:=S.kind
 glob:=I.ok.glob
 blt:=I.ok.blt
 above:=hC
 inj:=λx y c h1 h2=>I.ok.inj x y c (S.clook I.ok h1).1 (S.clook I.ok h2).1
 has:=λx hx=>by
   have hx':(relabel scope X.env).names.lookup x=some .cell\/(relabel scope X.env).names.lookup x=some .free:=hx
   refine J0 (.inl ?_)
   have go:∀k,(k=NameKind.cell\/k=.free)->(relabel scope X.env).names.lookup x=some k->(x,NameKind.free)∈scope.names:=λk hk h=>by
     obtain⟨j,h1,h2⟩:=ZI (f:=λ(n,k)=>if (k==NameKind.free&&X.env.scope.kind==.function&&X.env.kindOf n==some .cell) then (n,NameKind.cell) else (n,k)) (λp=>by dsimp only;split<;>rfl) h
     have hm:=mem_of_lookup h1
     by_cases hj:j=.free
     . subst hj;exact hm
     . exfalso
       have hb:(j==NameKind.free)=false:=by simpa using hj
       dsimp only at h2
       rw[hb,zcL,zcL,if_neg (by decide)]at h2
       have h2':j=k:=h2
       rcases hk with e | e
       . exact S.cellH _ hm (h2'.trans e)
       . exact hj (h2'.trans e)
   rcases hx' with h | h
   . exact go _ (.inl rfl) h
   . exact go _ (.inr rfl) h
 cab:=λx c h _=>by cases h
 hd:=I.ok.hd
 frames:=I.ok.frames
 stk:=.inl rfl
 exf:=λb hb=>⟨tV (tP (hfo b hb) hC),λx c h=>(hf b hb).2.2.2.2.1 x c (S.clook I.ok h).1⟩
 bs:=I.bs
 bsz:=zac I.ok.bsz I.sz
 noex:=λb o e hb=>by
   rcases(hf b hb).2.2.2.1 with h | h
   . exact I.ok.noex b o e h
   . exact absurd (tP (tM e) (zac I.ok.bsz h)) (zar _)
 exfs:=λb hb hm=>by
   rcases tY.mp (I.stkSub b hm) with e | e
   . exact(hf b hb).2.1 e
   . exact(hf b hb).2.2.1 e
 funs:=I.stack
 frf:=I.stkFree
theorem yw {C D:Addr} {fp:List Addr} {h₁:Heap} {m:Str->Option Value} {t':Nat} {n₀:Nat} (S:Qb X N' ix scope) (I:qF X pins σ H s) (hf:∀b∈fp,Jz X pins H b) (hfo:∀b∈fp,b < s.heap.objs.size)
   (hD:s.heap.objs.size<=D) (hC:s.heap.objs.size<=C) (hDC:D≠C) (kp:∀b o,s.heap.get? b=some o->h₁.get? b=some o) (hn:h₁.Ns C m) (hl:h₁.get? D=some {cls:=.type "list",data:=.seq #[] n₀}):
   qF (Yj X N' scope C s H fp pins) [] (RP ix σ) (upd H D (.lst [])) {s with heap:=h₁,toks:=t'} where
 ok:=qar S I hC hf hfo
 os:=rfl
 bare:=I.bare
 base:=Un.laid kp hD (I.hok.fresh hD)
 loc:=by
   refine⟨m,hn,λi x v e1 e2 e3=>?_⟩
   have hix:=S.ixs
   unfold Gg at hix
   rw[zaq]at hix
   obtain⟨hlen,hall⟩:=hix
   have hlen':ix.length=N'.length:=by simpa using hlen
   have e1':N'[i]?=some x:=e1
   unfold RP at e2
   rw[tH]at e2
   cases ho:ix[i]? with
   | none=>rw[ho]at e2;cases e2
   | some o=>
     rw[ho]at e2
     cases o with
     | none=>cases e2
     | some j=>
       have e2':(σ[j]?).join=some v:=tN.inj e2
       have hz:(ix.zip N')[i]?=some (some j,x):=by
         rw[List.getElem?_zip_eq_some]
         exact⟨ho,e1'⟩
       have hm:=zaL.mp hall _ (t8 hz)
       dsimp only at hm
       simp only[zaq,beq_iff_eq,zdp]at hm
       obtain⟨⟨hN,hfr⟩,hk⟩:=hm
       have e2'':σ[j]?=some (some v):=by
         cases q:σ[j]? with
         | none=>rw[q]at e2';cases e2'
         | some z=>
           rw[q]at e2'
           have:z=some v:=e2'
           rw[this]
       obtain⟨mX,hnX,hlX⟩:=I.loc
       have hvis:Mi X.env.scope x:=by
         rcases hk with h | h
         . exact .inr (.inl h)
         . exact .inr (.inr h)
       obtain⟨u,ru,lu⟩:=hlX j x v hN e2'' hvis
       refine⟨u,ru,?_⟩
       rcases lu with ⟨hk',_⟩ | ⟨_,c,hc,hcell⟩
       . exfalso
         have hk'':X.env.scope.names.lookup x=some .local:=hk'
         rcases hk with h | h<;>rw[h]at hk''<;>cases hk''
       . right
         obtain⟨k',r1,r2⟩:=zd (scope:=scope) (env:=X.env) hfr
         refine⟨?_,?_⟩
         . rcases r2 with z | ⟨_,z⟩
           . right;rw[z]at r1;exact r1
           . left;rw[z]at r1;exact r1
         . obtain⟨c',hc'⟩:=J0 (env:=X.env) (cs:=[]) (.inl (mem_of_lookup hfr))
           have:=(S.clook I.ok hc').1
           rw[hc]at this
           cases this
           obtain⟨o,ho',hd⟩:=hcell
           exact⟨c,hc',o,kp _ _ ho',hd⟩
 cell:=λx c h=>by
   obtain⟨v,o,ho,hd⟩:=I.cell x c (S.clook I.ok h).1
   exact⟨v,o,kp _ _ ho,hd⟩
 free:=by
   show (upd H D _) C=none
   rw[qi (Ne.symm hDC)]
   exact I.hok.fresh hC
 freeC:=λx c h=>by
   have h1:=(S.clook I.ok h).1
   obtain⟨v,o,ho,hd⟩:=I.cell x c h1
   rw[qi (tV (tP (tM ho) hD))]
   exact(I.freeC x c h1).imp id λz=>⟨rfl,z.2⟩
 pin:=λp hp=>by
   have hp':p∈X.pn++pins:=by
     have:p∈(X.pn++pins)++[]:=hp
     simpa using this
   obtain⟨e,n,ne,nf,d⟩:=I.pin p hp'
   have hlt:=tM e
   refine⟨kp _ _ e,?_,tV (tP hlt hC),λhm=>?_,d⟩
   . rw[qi (tV (tP hlt hD))];exact n
   . rcases tY.mp (I.stkSub p.1 hm) with z | z
     . exact ne z
     . exact nf z
 hok:=I.hok.laid kp hD ⟨zat _,[],n₀,.nil,hl⟩
 len:=by
   have hix:=S.ixs
   unfold Gg at hix
   rw[zaq]at hix
   have:ix.length=N'.length:=by simpa using hix.1
   show (RP ix σ).length=N'.length
   unfold RP
   rw[tj,this]
theorem wX {C:Addr} {fp:List Addr} {σ':St} {H':Hp} {s':Shared} {pl:List (Addr×Obj)} (I:qF X pins σ H s) (hf:∀b∈fp,Jz X pins H b) (J:qF (Yj X N' scope C s H fp pins) pl σ' H' s'):qF X pins σ H' s':=
 I.call' (ch:=fp) J.os J.base J.hok J.bare λb hb=>⟨(hf b hb).2.2.2.1,(hf b hb).2.1,(hf b hb).2.2.2.2.1,(hf b hb).2.2.2.2.2⟩
theorem wV {C:Addr} {H':Hp} {s₀ s':Shared} {h':Heap} (I₀:qF X pins σ H s₀) (I:qF X pins σ H' s') (hC:s₀.heap.objs.size<=C) (hn:H' C=none) (sb:Heap.SameBut C s'.heap h'):qF X pins σ H' {s' with heap:=h'}:=by
 refine I.turned (it:=C) (t':=s'.toks) (λb o hb e=>(sb.2 b hb).trans e) hn (zbG (tP I₀.lt hC)) (.inr (zac I₀.sz hC)) (λx c e z=>?_) λp hp z=>?_
 . obtain⟨v,q⟩:=I₀.cell x c e
   exact absurd (tP q.lt (by rw[z];exact hC)) (zar _)
 . exact absurd (tP (tM (I₀.pin p hp).1) (by rw[z];exact hC)) (zar _)
end
def Mj (X:Cx) (ifs:List Expr) (t:TT):Prop:=
 ∀(pins:List (Addr×Obj)) (s:Shared) (σ:St) (H:Hp) (Q:Bool->Hp->Prop),qF X pins σ H s->t σ H Q->
   wpAny (model X.prog X.w) X.A (forIn ifs true λc r=>if r=true then do let ok <-isTrue c X.env (eval c X.env);pure (ForInStep.yield ok) else pure (ForInStep.yield r)) (TP X pins σ Q) X.xe s
@[irreducible] def uG (X:Cx) (ifs:List Expr) (t:TT):Prop:=Mj X ifs t
theorem uG.of {X:Cx} {ifs:List Expr} {t:TT} (h:Mj X ifs t):uG X ifs t:=by unfold uG;exact h
theorem uG.to {X:Cx} {ifs:List Expr} {t:TT} (h:uG X ifs t):Mj X ifs t:=by unfold uG at h;exact h
def qaQ:TT:=λ_ H Q=>Q true H
theorem jL {X:Cx}:uG X [] qaQ:=.of (by
 exact λ_ _ _ H _ I h=>wpAny_tests_nil ⟨H,I,h⟩)
theorem j7 {X:Cx} {c:Expr} {t:TT} (h:JT X c t):uG X [c] t:=.of (by
 have h:=h.to
 exact λpins s σ H Q I hw=>wpAny_tests_one (h pins s σ H Q I hw))
section
variable {prog:Program} {w:World} {A:Around} {R:Result->Shared->Prop} {s:Shared}
theorem W6 {elt target iter:Expr} {ifs:List Expr} {scope:Scope} {pos:Pos} {it acc:Value} {env:Env} (I:Nat->Shared->Prop)
   (turn:∀n s,I n s->wpAny (model prog w) A (pyNext it) (λr s₁=>match r with
     | none=>R (.ok .next) s₁
     | some v=>wpAny (model prog w) A (letOwnedTupleGo target it v) (λ_ s₁'=>wpAny (model prog w) A (assign target env v) (λ_ s₂=>
         wpAny (model prog w) A (forIn ifs true λc r=>if r=true then do let ok <-isTrue c env (eval c env);pure (ForInStep.yield ok) else pure (ForInStep.yield r)) (λok s₃=>
           if ok=true then wpAny (model prog w) A (eval elt env) (λx s₄=>
             wpAny (model prog w) A (call (.builtin "list.append") [acc,x]) (λ_ s₅=>∃m,m < n/\I m s₅) (λ_ _=>False) s₄) (λ_ _=>False) s₃
           else ∃m,m < n/\I m s₃) (λ_ _=>False) s₂) (λ_ _=>False) s₁') (λ_ _=>False) s₁) (λ_ _=>False) s)
   (n:Nat) (h:I n s):
   codeAny (model prog w) A (.compLoop (.ListComp elt [⟨target,iter,ifs,0⟩] scope pos) 0 it acc env) R s:=by
 refine codeAny_loop rfl I (λn s hI=>?_) n h
 show wpAny _ A ((compTurn (.ListComp elt [⟨target,iter,ifs,0⟩] scope pos) 0 it acc env).onRaise (λx=>do noteFrame x env;theTreesLotGoes x)) _ _ s
 refine wpAny_noted ?_
 rw[compTurn_list]
 refine wpAny_bind (wpAny_standAt (wpAny_bind (wpAny_mono (turn n s hI) (λr s₁ h₁=>?_) λ_ _ h'=>h'.elim)))
 cases r with
 | none=>exact wpAny_pure h₁
 | some v=>
   refine wpAny_bind (wpAny_mono h₁ (λ_ s₁' h₁'=>?_) λ_ _ h'=>h'.elim)
   refine wpAny_bind (wpAny_mono h₁' (λ_ s₂ h₂=>wpAny_bind (wpAny_mono h₂ (λok s₃ h₃=>?_) λ_ _ h'=>h'.elim)) λ_ _ h'=>h'.elim)
   cases ok with
   | false=>exact wpAny_pure ⟨rfl,h₃⟩
   | true=>
     exact wpAny_bind (wpAny_bind (wpAny_mono h₃ (λx s₄ h₄=>wpAny_bind (wpAny_mono h₄ (λ_ s₅ h₅=>wpAny_pure (wpAny_pure ⟨rfl,h₅⟩)) λ_ _ h'=>h'.elim)) λ_ _ h'=>h'.elim))
end
def XI (J:It) (g:TG) (tt:TT) (te:TE) (D:Addr) (σ:St) (H:Hp) (Q:Hp->Prop):Prop:=
 ∃W:Nat->Nat->St->Hp->Prop,(∃m,W 0 m σ (upd H D (.lst [])))/\∀i m σ' H',W i m σ' H'->
   (J.stop i H'/\Q H')\/(J.go i H'/\∃N:St->Hp->Prop,(∀σ2 H2,N σ2 H2->∃m',m' < m/\W (i+1) m' σ2 H2)/\∀x H2,J.yld i H' x H2->g x σ' H2 λσ2 H3=>tt σ2 H3 λb H4=>
     if b=true then te σ2 H4 λv H5=>∃ys,H5 D=some (.lst ys)/\ys.length < sizeLine/\N σ2 (upd H5 D (.lst (ys++[v]))) else N σ2 H4)
def tLC (wi:TI) (ix:List (Option Nat)) (g:TG) (tt:TT) (te:TE):TE:=λσ H Q=>wi σ H λJ H1=>∀D,H1 D=none->XI J g tt te D (RP ix σ) H1 λH2=>Q (.ref D) H2
section
variable {X:Cx} {N':List Str} {ix:List (Option Nat)} {scope:Scope}
theorem Wh {elt iter target:Expr} {ifs:List Expr} {pos:Pos} {g:TG} {tt:TT} {te:TE} {pins:List (Addr×Obj)} {σ:St} {H:Hp} {s:Shared} {it:Addr} {fp:List Addr} {tn:Nat->Heap->Prop} {J:It} {E:Value->Shared->Prop}
   {RR:Value->Addr->Result->Shared->Prop} {Q:Addr->Hp->Prop}
   (hc:X.calm=true) (S:Qb X N' ix scope) (I:qF X pins σ H s) (T:Uc X.prog X.w X.K target J fp it tn) (st:tn 0 s.heap) (hf:∀b∈fp,Jz X pins H b)
   (hb:∀C s₂ H₂ fp pins,PG (Yj X N' scope C s₂ H₂ fp pins) target g/\Mj (Yj X N' scope C s₂ H₂ fp pins) ifs tt/\PE (Yj X N' scope C s₂ H₂ fp pins) elt te)
   (h:∀D,H D=none->XI J g tt te D (RP ix σ) H (Q D))
   (fin:∀(D C:Addr) (H':Hp) (s':Shared) (m:Str->Option Value),s.heap.objs.size<=C->H' C=none->s'.heap.Ns C m->qF X pins σ H' s'->Q D H'->RR (.ref D) C (.ok .next) s'):
   wpAny (model X.prog X.w) X.A (newList []) (λacc s₃=>wpAny (model X.prog X.w) X.A (newFunctionEnv scope X.env.globals (ja X.env scope.names []) [] X.env.qual none .none (some X.env)) (λcenv s₄=>
     codeAny (model X.prog X.w) X.A (.compStart (.ListComp elt [⟨target,iter,ifs,0⟩] scope pos) 0 (.ref it) acc {cenv with scope:=relabel scope X.env}) (RR acc cenv.locals) s₄) E s₃) E s:=by
 have hfo:∀b∈fp,b < s.heap.objs.size:=λb hb=>by
   obtain⟨o,e,_⟩:=T.obj _ _ st b hb
   exact tM e
 refine wpAny_newObj_type (wpAny_newFunctionEnv S.cellH (by intro y hy;simp at hy) (λh₁ hns₁ hsb₁=>?_) S.kind)
 dsimp only at hns₁ hsb₁ ⊢
 generalize hH2:s.heap.push {cls:=.type "list",dict:=none,data:=.seq ([]:List Value).toArray}=H2 at hns₁ hsb₁ ⊢
 have hC:H2.objs.size=s.heap.objs.size+1:=by rw[<-hH2,zbn]
 have hDC:s.heap.objs.size≠H2.objs.size:=by rw[hC];exact tV (zaJ _)
 have hCle:s.heap.objs.size<=H2.objs.size:=by rw[hC];exact zdv _
 have below:∀b,b < s.heap.objs.size->b≠H2.objs.size:=λb hb=>by rw[hC];exact tV (zbP hb)
 have old:∀b o,s.heap.get? b=some o->h₁.get? b=some o:=λb o e=>hsb₁.extBut b o (below b (tM e)) (tu _ (hH2▸tu _ e))
 have hacc:h₁.get? s.heap.objs.size=some {cls:=.type "list",data:=.seq #[] 0}:=hsb₁.extBut _ _ hDC (tu _ (hH2▸tU _ rfl))
 obtain⟨W,⟨m0,w0⟩,turn⟩:=h s.heap.objs.size (I.hok.fresh (tE _))
 have I1:qF (Yj X N' scope H2.objs.size s H fp pins) [] (RP ix σ) (upd H s.heap.objs.size (.lst [])) {s with heap:=h₁,toks:=s.toks+([]:List (Str×Value)).length}:=
   yw S I hf hfo (tE _) hCle hDC old hns₁ hacc
 have st₁:tn 0 h₁:=T.keep _ _ _ st λb hb o e=>old b o e
 have fpn:∀b∈fp,(upd H s.heap.objs.size (.lst [])) b=none:=λb hb=>by
   rw[qi (tV (hfo b hb))]
   exact(hf b hb).1
 obtain⟨hg,htt,hte⟩:=hb H2.objs.size s H fp pins
 have okY:=I1.ok
 have stat:∀{H':Hp},(∀b∈fp,H' b=none)->∀b∈fp,Jz (Yj X N' scope H2.objs.size s H fp pins) [] H' b:=λ{H'} hn b hb=>
   ⟨hn b hb,(okY.exf b hb).1,okY.exfs b hb,.inl hb,(okY.exf b hb).2,λp hp=>by
     have hp':p∈X.pn++pins:=by
       have:p∈(X.pn++pins)++[]:=hp
       simpa using this
     exact(hf b hb).2.2.2.2.2 p hp'⟩
 have loop:codeAny (model X.prog X.w) X.A (.compLoop (.ListComp elt [⟨target,iter,ifs,0⟩] scope pos) 0 (.ref it) (.ref s.heap.objs.size) (compEnvC scope (ja X.env scope.names []) H2.objs.size X.env))
     (RR (.ref s.heap.objs.size) H2.objs.size) {s with heap:=h₁,toks:=s.toks+([]:List (Str×Value)).length}:=by
   refine W6 (λn s'=>∃i σ' H',qF (Yj X N' scope H2.objs.size s H fp pins) [] σ' H' s'/\tn i s'.heap/\(∀b∈fp,H' b=none)/\W i n σ' H') ?_ m0 ⟨0,_,_,I1,st₁,fpn,w0⟩
   rintro n s3 ⟨i,σ3,H3,I3,st3,fr3,w3⟩
   rcases turn i n σ3 H3 w3 with ⟨stop,qn⟩ | ⟨go,NN,hNN,step⟩
   . refine jk (T.done (Yj X N' scope H2.objs.size s H fp pins) rfl rfl rfl hc i [] s3 σ3 H3 _ I3 (stat fr3) st3 stop) λr s4 ⟨hr,I4⟩=>?_
     subst hr
     obtain⟨mm,hnm,_⟩:=I4.loc
     exact fin _ _ H3 s4 mm hCle I4.free hnm (wX I hf I4) qn
   . refine jk (T.item (Yj X N' scope H2.objs.size s H fp pins) rfl rfl rfl hc i [] s3 σ3 H3 _ I3 (stat fr3) st3 go) λr s4 ⟨u,hr,h4⟩=>?_
     subst hr
     refine jk h4 λ_ s5 ⟨x,H5,I5,r5,y5,st5,fr5⟩=>?_
     have I5':=I5.pinned (stat fr5) (T.obj _ _ st5)
     refine jk (hg _ s5 σ3 H5 x u _ I5' r5 (step x H5 y5)) λ_ s6 ⟨σ6,H6,I6,q6⟩=>?_
     refine jk (htt _ s6 σ6 H6 _ I6 q6) λok s7 ⟨H7,I7,q7⟩=>?_
     have again:∀{σ8:St} {H8:Hp} {s8:Shared},qF (Yj X N' scope H2.objs.size s H fp pins) ([]++Y9 fp s5.heap) σ8 H8 s8->NN σ8 H8->
         ∃m,m < n/\∃i σ' H',qF (Yj X N' scope H2.objs.size s H fp pins) [] σ' H' s8/\tn i s8.heap/\(∀b∈fp,H' b=none)/\W i m σ' H':=λ{σ8 H8 s8} I8 n8=>by
       obtain⟨m',hm,w8⟩:=hNN σ8 H8 n8
       refine⟨m',hm,i+1,σ8,H8,I8.unpinned,T.keep _ _ _ st5 λb hb o e=>(I8.pin (b,o) (tJ _ (tJ _ (JK hb e)))).1,λb hb=>?_,w8⟩
       obtain⟨o,e,d⟩:=T.obj _ _ st5 b hb
       exact(I8.pin (b,o) (tJ _ (tJ _ (JK hb e)))).2.1
     cases ok with
     | false=>
       rw[if_neg tO]at q7 ⊢
       exact again I7 q7
     | true=>
       rw[if_pos rfl]at q7 ⊢
       refine jk (hte _ s7 σ6 H7 _ I7 q7) λv s8 ⟨y,H8,I8,r8,q8⟩=>?_
       obtain⟨ys,hy,hz,q8⟩:=q8
       refine jk (QQ (X:=Yj X N' scope H2.objs.size s H fp pins) _ s8 σ6 H8 (.ref s.heap.objs.size) [y] (.ref s.heap.objs.size) [v] (λ_ H9=>NN σ6 H9) I8 rfl (.cons r8 .nil) ⟨_,ys,y,rfl,rfl,hy,hz,q8⟩) λ_ s9 ⟨_,H9,I9,_,q9⟩=>?_
       exact again I9 q9
 exact codeAny_compStart_list loop (T.self X.A 0 _ _ _ st₁ loop)
theorem M3 {elt iter target:Expr} {ifs:List Expr} {pos:Pos} {wi:TI} {g:TG} {tt:TT} {te:TE} (hc:X.calm=true) (S:Qb X N' ix scope) (hi:PI X target iter wi)
   (hb:∀C s₂ H₂ fp pins,PG (Yj X N' scope C s₂ H₂ fp pins) target g/\Mj (Yj X N' scope C s₂ H₂ fp pins) ifs tt/\PE (Yj X N' scope C s₂ H₂ fp pins) elt te)
   (hs:∀x,foldedSetIterable iter X.env x=pure x:=by intro _;rfl):PE X (.ListComp elt [⟨target,iter,ifs,0⟩] scope pos) (tLC wi ix g tt te):=by
 intro pins s σ H Q I h
 rw[eval_ListComp]
 refine wpAny_comprehension_free (use:=none) rfl hs (Jj (S.freeH I.ok)) S.kind S.locH ?_
 refine jk (hi pins s σ H _ I h) λxv s1 h1=>jk h1 λitv s2 h2=>?_
 obtain⟨it,fp,tn,J,H2,e,I2,T,st2,f2,q2⟩:=h2
 subst e
 refine Wh (RR:=λacc C=>compPost (model X.prog X.w) X.A X.xe none (EP X pins σ Q) acc C) (Q:=λD H'=>Q (.ref D) H') hc S I2 T st2 f2 hb q2 ?_
 intro D C H' s' m hC hn hm I' q
 exact⟨m,hm,λh' sb=>⟨.ref D,H',wV I2 I' hC hn sb,rfl,q⟩⟩
theorem Qd {elt iter target:Expr} {ifs:List Expr} {pos:Pos} {wi:TI} {g:TG} {tt:TT} {te:TE} (hc:X.calm=true) (S:Qb X N' ix scope) (hi:JI X target iter wi) (hb:∀C s₂ H₂ fp pins,JG (Yj X N' scope C s₂ H₂ fp pins) target g/\uG (Yj X N' scope C s₂ H₂ fp pins) ifs tt/\JE (Yj X N' scope C s₂ H₂ fp pins) elt te) (hs:∀x,foldedSetIterable iter X.env x=pure x:=by intro _;rfl):JE X (.ListComp elt [⟨target,iter,ifs,0⟩] scope pos) (tLC wi ix g tt te):=.of (M3 hc S hi.to (λC s₂ H₂ fp pins=>⟨(hb C s₂ H₂ fp pins).1.to,(hb C s₂ H₂ fp pins).2.1.to,(hb C s₂ H₂ fp pins).2.2.to⟩) hs)
theorem xK {i:Nat} {x:Str} {elt iter target:Expr} {ifs:List Expr} {pos spos px:Pos} {wi:TI} {g:TG} {tt:TT} {te:TE} (hN:X.N.Nodup) (hxi:X.N[i]?=some x) (hx:N9 X.env.scope x) (hc:X.calm=true) (S:Qb X N' ix scope) (hi:PI X target iter wi)
   (hb:∀C s₂ H₂ fp pins,PG (Yj X N' scope C s₂ H₂ fp pins) target g/\Mj (Yj X N' scope C s₂ H₂ fp pins) ifs tt/\PE (Yj X N' scope C s₂ H₂ fp pins) elt te)
   (hsw:swapsWith (.ListComp elt [⟨target,iter,ifs,0⟩] scope pos) (some (.Name x px)) spos.line X.env=pure true:=by rfl)
   (hs:∀x,foldedSetIterable iter X.env x=pure x:=by intro _;rfl) (hf:X.fn x=true\/X.env.scope.names.lookup x=some .local:=by first | exact .inl rfl | exact .inr rfl | assumption):
   PS X (.Assign [.Name x px] (.ListComp elt [⟨target,iter,ifs,0⟩] scope pos) spos) (uS (tLC wi ix g tt te) (Jv i)):=by
 intro pins s σ H D I h
 rw[exec_Assign_Name_used _ _ _ _ hsw]
 refine wpAny_bind (wpAny_standAt (wpAny_bind ?_))
 show wpAny _ X.A (do let _ <-comprehension (.ListComp elt [⟨target,iter,ifs,0⟩] scope pos) scope X.env _ (newList []) false (eval iter X.env) (some (assign (.Name x px) X.env))) _ _ s
 refine wpAny_bind (jk (wpAny_comprehension_free (use:=some (assign (.Name x px) X.env)) (Q:=λ_ s'=>SP X pins D .next s') rfl hs (Jj (S.freeH I.ok)) S.kind S.locH ?_) λ_ s' hq=>wpAny_pure (wpAny_pure hq))
 refine jk (hi pins s σ H _ I h) λxv s1 h1=>jk h1 λitv s2 h2=>?_
 obtain⟨it,fp,tn,J,H2,e,I2,T,st2,f2,q2⟩:=h2
 subst e
 refine Wh (RR:=λacc C=>compPost (model X.prog X.w) X.A X.xe (some (assign (.Name x px) X.env)) (λ_ s'=>SP X pins D .next s') acc C) (Q:=λD' H'=>Jv i (.ref D') σ H' D.nx) hc S I2 T st2 f2 hb q2 ?_
 intro D' C H' s' m hC hn hm I' q
 show wpAny _ X.A (assign (.Name x px) X.env (.ref D')) _ _ _
 refine wpAny_assign_Name (XX I' hN hxi hx (v:=.ref D') rfl (λs'' I'' hch=>?_) hf)
 obtain⟨a,sb,ha⟩:=hch
 have hCa:C≠a:=by
   rcases ha with z | z
   . rw[z];exact zbG (tP I2.lt hC)
   . intro e
     obtain⟨v,qc⟩:=I2.cell x a z
     exact absurd (tP qc.lt (by rw[<-e];exact hC)) (zar _)
 refine⟨m,hm.sameBut sb hCa,λh' sb'=>?_⟩
 refine⟨_,H',?_,q⟩
 refine I''.turned (it:=C) (t':=s''.toks) (λb o hb e=>(sb'.2 b hb).trans e) hn (zbG (tP I2.lt hC)) (.inr (zac I2.sz hC)) (λy c e z=>?_) λp hp z=>?_
 . obtain⟨v,qc⟩:=I2.cell y c e
   exact absurd (tP qc.lt (by rw[z];exact hC)) (zar _)
 . exact absurd (tP (tM (I2.pin p hp).1) (by rw[z];exact hC)) (zar _)
theorem QY {i:Nat} {x:Str} {elt iter target:Expr} {ifs:List Expr} {pos spos px:Pos} {wi:TI} {g:TG} {tt:TT} {te:TE} (hN:X.N.Nodup) (hxi:X.N[i]?=some x) (hx:N9 X.env.scope x) (hc:X.calm=true) (S:Qb X N' ix scope) (hi:JI X target iter wi) (hb:∀C s₂ H₂ fp pins,JG (Yj X N' scope C s₂ H₂ fp pins) target g/\uG (Yj X N' scope C s₂ H₂ fp pins) ifs tt/\JE (Yj X N' scope C s₂ H₂ fp pins) elt te) (hsw:swapsWith (.ListComp elt [⟨target,iter,ifs,0⟩] scope pos) (some (.Name x px)) spos.line X.env=pure true:=by rfl) (hs:∀x,foldedSetIterable iter X.env x=pure x:=by intro _;rfl) (hf:X.fn x=true\/X.env.scope.names.lookup x=some .local:=by first | exact .inl rfl | exact .inr rfl | assumption):JS X (.Assign [.Name x px] (.ListComp elt [⟨target,iter,ifs,0⟩] scope pos) spos) (uS (tLC wi ix g tt te) (Jv i)):=.of (xK hN hxi hx hc S hi.to (λC s₂ H₂ fp pins=>⟨(hb C s₂ H₂ fp pins).1.to,(hb C s₂ H₂ fp pins).2.1.to,(hb C s₂ H₂ fp pins).2.2.to⟩) hsw hs hf)
end
def Its (x:Str):It:=⟨λi _=>i < x.cps.size,λi H v H'=>H'=H/\∃c,x.cps[i]?=some c/\v=.str ⟨#[c]⟩,λi _=>i=x.cps.size⟩
theorem Vh {P:Program} {w:World} {K:PySem.W.Frag} {tg:Expr} (it:Addr) (x:Str) (t:Tok) (ty:String)
   (hn:["enumerate","zip","dict_itemiterator","dict_reverseitemiterator","odict_iterator","itertools.zip_longest","itertools.pairwise"].contains ty=false)
   (hW:∀A:Around,A.handled=none->Walks P w A it [it] [it] x.cps.size (SignAt x) (λi h=>h.IsStrIter it ty x t i))
   (hself:∀(A:Around) (i:Nat) (s:Shared) (Q:Value->Shared->Prop) (E:Value->Shared->Prop),s.heap.IsStrIter it ty x t i->Q (.ref it) s->wpAny (model P w) A (pyIter (.ref it)) Q E s):
   Uc P w K tg (Its x) [it] it (λi h=>h.IsStrIter it ty x t i) where
 mem:=by simp
 obj:=λi h st b hb=>by
   have e:b=it:=by simpa using hb
   subst e
   obtain⟨o,e,c,d⟩:=st
   exact⟨o,e,λv z=>by rw[d]at z;cases z⟩
 keep:=λi h h' st k=>let ⟨o,e,r⟩:=st;⟨o,k it (by simp) o e,r⟩
 item:=by
   intro X hP hw hK hc i pins s σ H E I hf st hg
   subst hP hw hK
   obtain⟨f0,f1,f2,f3,f4,f5⟩:=hf it (by simp)
   refine(hW X.A (I.ok.hd hc)).item i s _ _ hg st λv h' tk hv st' kk=>?_
   obtain⟨c,u,hcu,rfl⟩:=hv
   have I1:qF X pins σ H {s with heap:=h',toks:=tk}:=I.turned (λb o hb e=>kk b o (by simpa using hb) e) f0 f1 f3 f4 f5
   obtain⟨o,e,c1,d1⟩:=id st'
   exact⟨_,rfl,VW (s:={s with heap:=h',toks:=tk}) e c1 d1 hn ⟨.str ⟨#[c]⟩,H,I1,⟨u,rfl⟩,⟨rfl,c,hcu,rfl⟩,st',λb hb=>(hf b hb).1⟩⟩
 done:=by
   intro X hP hw hK hc i pins s σ H E I hf st hg
   subst hP hw hK
   obtain⟨f0,f1,f2,f3,f4,f5⟩:=hf it (by simp)
   have hi:i=x.cps.size:=hg
   subst hi
   exact(hW X.A (I.ok.hd hc)).done s _ _ st λh' tk kk=>⟨rfl,I.turned (λb o hb e=>kk b o (by simpa using hb) e) f0 f1 f3 f4 f5⟩
 self:=hself
def qbv (tl:TE):TI:=λσ H R=>tl σ H λx H1=>∃y,x=.str y/\R (Its y) H1
theorem NL {X:Cx} {tg l:Expr} {tl:TE} (hl:JE X l tl):JI X tg l (qbv tl):=.of (by
 have hl:=hl.to
 intro pins s σ H R I h
 refine jk (hl pins s σ H _ I h) λv s1 ⟨x,H1,I1,r1,q1⟩=>?_
 obtain⟨y,e,q⟩:=q1
 subst e
 obtain⟨t,rfl⟩:=r1
 have fp:∀b∈[s1.heap.objs.size],Jz X pins H1 b:=λb hb=>by
   have e:b=s1.heap.objs.size:=by simpa using hb
   subst e
   exact I1.fpOk (tE _) (I1.hok.fresh (tE _))
 cases ha:y.cps.all (· < 128)
 . refine wpAny_pyIter_wide ha ?_
   exact⟨s1.heap.objs.size,[s1.heap.objs.size],_,_,H1,rfl,I1.kept (t':=s1.toks) λb o e=>tu _ e,
     Vh _ y t "str_iterator" (by decide) (λA hA=>Walks.strWide hA _ y t) (λA i s Q E st q=>wpAny_pyIter_striter_wide st q),⟨_,tU _ rfl,rfl,rfl⟩,fp,q⟩
 . refine wpAny_pyIter_ascii ha ?_
   exact⟨s1.heap.objs.size,[s1.heap.objs.size],_,_,H1,rfl,I1.kept (t':=s1.toks) λb o e=>tu _ e,
     Vh _ y t "str_ascii_iterator" (by decide) (λA hA=>Walks.strAscii hA _ y t) (λA i s Q E st q=>wpAny_pyIter_striter_ascii st q),⟨_,tU _ rfl,rfl,rfl⟩,fp,q⟩)
section
variable {K:PySem.W.Frag} {g:TG} {tt:TT} {te:TE} {D a:Addr} {σ:St} {H:Hp} {Q:Hp->Prop}
def Ua (tt:TT) (te:TE) (D:Addr) (N:St->Hp->Prop):St->Hp->Prop:=λσ2 H3=>tt σ2 H3 λb H4=>
 if b=true then te σ2 H4 λv H5=>∃ys,H5 D=some (.lst ys)/\ys.length < sizeLine/\N σ2 (upd H5 D (.lst (ys++[v]))) else N σ2 H4
theorem W9 {J:It} {n:Nat} (Pv:Nat->St->Hp->Prop) (h0:Pv 0 σ (upd H D (.lst [])))
   (go:∀i σ' H',i < n->Pv i σ' H'->J.go i H'/\∀x H2,J.yld i H' x H2->g x σ' H2 (Ua tt te D (Pv (i+1)))) (stop:∀σ' H',Pv n σ' H'->J.stop n H'/\Q H'):XI J g tt te D σ H Q:=by
 refine⟨λi m σ' H'=>m=n - i/\i<=n/\Pv i σ' H',⟨n,by simp,zat _,h0⟩,?_⟩
 rintro i m σ' H' ⟨rfl,hi,p⟩
 by_cases hlt:i < n
 . obtain⟨h1,h2⟩:=go i σ' H' hlt p
   exact .inr ⟨h1,Pv (i+1),λσ2 H2 p2=>⟨n - (i+1),by omega,rfl,hlt,p2⟩,h2⟩
 . have e:i=n:=by omega
   subst e
   exact .inl (stop σ' H' p)
theorem Jy {lo:Int} {n:Nat} (Pv:Nat->St->Hp->Prop) (h0:Pv 0 σ (upd H D (.lst [])))
   (hs:∀i σ' H',i < n->Pv i σ' H'->g (.int (lo+i)) σ' H' (Ua tt te D (Pv (i+1)))) (hd:∀σ' H',Pv n σ' H'->Q H'):XI (RJ lo n) g tt te D σ H Q:=
 W9 (n:=n) Pv h0 (λi σ' H' hi p=>⟨hi,λx H2 y=>by
   obtain⟨e,y⟩:=y
   subst e y
   exact hs i σ' H2 hi p⟩) λσ' H' p=>⟨tE _,hd σ' H' p⟩
theorem jZ {xs:List V} (Pv:Nat->St->Hp->Prop) (h0:Pv 0 σ (upd H D (.lst []))) (hl:∀i σ' H',i<=xs.length->Pv i σ' H'->SqL K H' a xs)
   (hs:∀i x σ' H',xs[i]?=some x->Pv i σ' H'->g x σ' H' (Ua tt te D (Pv (i+1)))) (hd:∀σ' H',Pv xs.length σ' H'->Q H'):XI (Mb K a) g tt te D σ H Q:=
 W9 (n:=xs.length) Pv h0 (λi σ' H' hi p=>⟨⟨xs,xs[i],hl i σ' H' (zag hi) p,by simp [hi]⟩,λx H2 y=>by
   obtain⟨e,y⟩:=y
   subst e
   exact hs i x σ' _ (y xs (hl i σ' _ (zag hi) p)) p⟩) λσ' H' p=>⟨⟨xs,hl _ σ' H' (tE _) p,tE _⟩,hd σ' H' p⟩
theorem kl {xs:List V} (Pv:Nat->St->Hp->Prop) (h0:Pv 0 σ (upd H D (.lst []))) (hl:∀i σ' H',i<=xs.length->Pv i σ' H'->YM K H' a xs)
   (hs:∀i x σ' H',xs[i]?=some x->Pv i σ' H'->g x σ' H' (Ua tt te D (Pv (i+1)))) (hd:∀σ' H',Pv xs.length σ' H'->Q H'):XI (Ma K a) g tt te D σ H Q:=
 W9 (n:=xs.length) Pv h0 (λi σ' H' hi p=>⟨⟨xs,xs[i],hl i σ' H' (zag hi) p,by simp [hi]⟩,λx H2 y=>by
   obtain⟨e,y⟩:=y
   subst e
   exact hs i x σ' _ (y xs (hl i σ' _ (zag hi) p)) p⟩) λσ' H' p=>⟨⟨xs,hl _ σ' H' (tE _) p,tE _⟩,hd σ' H' p⟩
theorem GK {x:Str} (Pv:Nat->St->Hp->Prop) (h0:Pv 0 σ (upd H D (.lst [])))
   (hs:∀i c σ' H',x.cps[i]?=some c->Pv i σ' H'->g (.str ⟨#[c]⟩) σ' H' (Ua tt te D (Pv (i+1)))) (hd:∀σ' H',Pv x.cps.size σ' H'->Q H'):XI (Its x) g tt te D σ H Q:=
 W9 (n:=x.cps.size) Pv h0 (λi σ' H' hi p=>⟨hi,λv H2 y=>by
   obtain⟨e,c,hc,rfl⟩:=y
   subst e
   exact hs i c σ' _ hc p⟩) λσ' H' p=>⟨rfl,hd σ' H' p⟩
end
section
variable {X:Cx}
theorem XB:∀(bs:List Bool),(zaa bs.length).all (λi=>bs.getD i false)=bs.all id:=by
 intro bs
 induction bs with
 | nil=>rfl
 | cons b bs ih=>
   rw[zau,List.range_succ_eq_map,zdd,zcI,zdd]
   have:((λi=>(b::bs).getD i false) ∘ zcO)=λi=>bs.getD i false:=by
     funext i
     simp [Function.comp]
   rw[this,ih]
   simp
theorem zZ (hc:X.calm=true):Q5 X (.builtin "all") (λxs H Q=>∃(p:Addr) (bs:List Bool),xs=[.ref p]/\SqL X.K H p (bs.map V.bl)/\Q (.bl (bs.all id)) H):=by
 intro pins s σ H xs us Q I r h
 obtain⟨p,bs,rfl,hq,q⟩:=h
 obtain⟨u,rfl,rx⟩:=Jl r
 cases rx
 obtain⟨its,rv,pl,hz⟩:=I.list hq
 have hlt:p < s.heap.objs.size:=by
   obtain⟨o,n,e,_⟩:=pl
   exact tM e
 have hn:its.toArray.size=bs.length:=by
   have:=rv.length
   rw[tj]at this
   simp only[t7]
   omega
 have hh:X.A.in1.handled=none:=I.ok.hd hc
 refine call_all_walk (wpAny_pyIter_list pl.isList ?_)
 refine⟨s.heap.objs.size,[s.heap.objs.size,p],[s.heap.objs.size],its.toArray.size,λi v=>its.toArray[i]?=some v,_,λi=>bs.getD i false,rfl,Walks.list hh s.heap.objs.size p (tV hlt) its.toArray,
   ⟨⟨_,tU _ rfl,rfl,rfl⟩,pl.isList.at λo e=>tu _ e⟩,?_,λh' tk hk=>?_⟩
 . intro i v s' Q' E' hP hQ
   have hi:its[i]?=some v:=by simpa using hP
   have hb:∃b,bs[i]?=some b/\v=Value.bool b:=by
     cases e:bs[i]? with
     | none=>
       exfalso
       have h1:(bs.map V.bl)[i]?=none:=by rw[tH,e];rfl
       rw[qI.none_of rv h1]at hi
       cases hi
     | some b=>
       have h1:(bs.map V.bl)[i]?=some (V.bl b):=by rw[tH,e];rfl
       obtain⟨u,hu,ru⟩:=rv.get h1
       rw[hi]at hu
       cases hu
       exact⟨b,rfl,ru⟩
   obtain⟨b,e,rfl⟩:=hb
   refine wpAny_truthy_bool ?_
   have e2:bs.getD i false=b:=by rw[zax,e];rfl
   have hQ':Q' (bs.getD i false) s':=hQ
   rw[e2]at hQ'
   exact hQ'
 . rw[hn,XB]
   refine⟨.bl (bs.all id),H,?_,rfl,q⟩
   exact I.kept (h':=h') (t':=tk) λb o e=>hk b o (by
     intro z
     have z':b=s.heap.objs.size:=by simpa using z
     exact absurd (tM e) (by rw[z'];exact zar _)) (tu _ e)
theorem Ur {ys:List Str}:∀{us:List Value},qI (ys.map V.str) us->StrsAre us ys:=by
 induction ys with
 | nil=>
   intro us r
   rw[zco]at r
   cases r
   exact .nil
 | cons y ys ih=>
   intro us r
   rw[tW]at r
   cases r with
   | cons a b=>
     obtain⟨t,rfl⟩:=a
     exact .cons _ _ (ih b)
def MX (K:PySem.W.Frag):V->List V->Hp->VK->Prop:=λx xs H Q=>∃(sep:Str) (p:Addr) (ys:List Str),x=.str sep/\xs=[.ref p]/\SqL K H p (ys.map V.str)/\(ys.map (·.length)).sum+ys.length*sep.length<=16777216/\Q (.str (Txt.join sep ys)) H
theorem K2:MtR X "str.join" (MX X.K):=by
 intro pins s σ H x xs v us Q I rx rv h
 obtain⟨sep,p,ys,rfl,rfl,hq,hz,q⟩:=h
 obtain⟨t,rfl⟩:=rx
 obtain⟨u,rfl,ru⟩:=Jl rv
 cases ru
 obtain⟨its,r',pl,_⟩:=I.list hq
 exact join_list pl.isList (by simpa using Ur r') hz λt' k=>⟨.str _,H,I.tok k,⟨t',rfl⟩,q⟩
def qat:V->Value
 | .ty n=>.type n
 | .ref a=>.ref a
 | _=>.none
def qal:V->Bool
 | .ty _=>true
 | .ref _=>true
 | _=>false
def MY (K:PySem.W.Frag):List V->Hp->VK->Prop:=λxs H Q=>∃x c t b,xs=[x,c]/\qal c=true/\z5 K H x t/\zaR K t (qat c)=some b/\Q (.bl b) H
theorem jY:Q5 X (.builtin "isinstance") (MY X.K):=by
 intro pins s σ H xs us Q I r h
 obtain⟨x,c,t,b,rfl,hc,ty,e,q⟩:=h
 obtain⟨u,w',rfl,ru,rw'⟩:=Ri r
 have ew:w'=qat c:=by
   cases c with
   | ty n=>exact rw'
   | ref a=>exact rw'
   | _=>cases hc
 subst ew
 exact yr I ru ty e λtk=>⟨.bl b,H,I.tok tk,rfl,q⟩
end
abbrev Mo (rest:List Value):Obj:={cls:=.type "tuple",data:=.seq rest.toArray}
abbrev NZ (C t:Addr):Obj:={cls:=.ref C,data:=.fields #[.ref t,.none,.none,.none,.bool false,.none]}
section
variable {prog:Program} {w:World} {A:Around} {E:Value->Shared->Prop} {h:Heap} {g:Array GenState} {d:Drawn} {t:Nat} {os:OsState}
variable {nm q:Str} {C N fI:Addr} {bs bm bmB bmN:List Value} {hdct:Bool} {sn:List Str} {sub:List Value} {ab:Bool} {col:Option Bool} {dd:Option Addr} {k0 k1 k2 k3 k5:Option Value} {B Bn newId nid initId inN:String} {rest:List Value} {oI:Obj}
theorem Up {Q:Fin->Shared->Prop} (Fn:ExcBaseFacts Bn newId inN bmN) (hBn:bmB.contains (.type Bn)=true)
   (F:ExcBaseFacts B nid initId bmB) (T:OwnTail h bmB bm)
   (hC:h.get? C=some (excClassObj nm q C N bs bm hdct sn sub ab col dd k0 k1 k2 k3 k5 newId))
   (hi:PySem.W.Looks (model prog w) h (typeLookup (.ref C) "__init__") (some (.ref fI))) (hfI:h.get? fI=some oI) (hfc:oI.cls=.type "function")
   (hq:∀h' e,h.objs.size<=e->Heap.MadeExcOf h h' e (.ref C) rest->
     wpAny (model prog w) A (call (.ref fI) (.ref e::rest)) (λr s'=>r=.none/\Q (.done (.ret (.ref e))) s') E ⟨h',g,d,t,os⟩)
   (hz:rest.length<=sizeLine):
   wpAny (model prog w) A (Builtin.«type.__call__» ⟨.ref C::rest,[]⟩) Q E ⟨h,g,d,t,os⟩:=by
 repeat (first
   | with_reducible refine wpAny_loadPart_at hC ?_
   | with_reducible refine wpAny_madeBy_exc hC ?_
   | wp_step)
 refine codeAny_call_builtin_code (Code.quiet_builtin _ Fn.quiet) (wpAny_check_new_subU Fn hBn T hC
   (codeAny_exc_new_subU Fn hBn F T hC ?_ hz))
 show wpAny _ _ _ _ _ _
 have k:∀b o,h.get? b=some o->((h.push (Mo rest)).push (NZ C h.objs.size)).get? b=some o:=λb o e=>
   tu _ (tu _ e)
 have c1:=k _ _ hC
 have f1:=k _ _ hfI
 have i1:=hi.keeps k
 have e1:((h.push (Mo rest)).push (NZ C h.objs.size)).get? (h.objs.size+1)=some (NZ C h.objs.size):=by heap_get
 have hcC:(Value.ref C::bm).contains (.ref C)=true:=by simp
 unfold isInstance
 repeat (first
   | with_reducible refine wpAny_loadPart_at e1 ?_
   | (with_reducible refine wpAny_isSubtype_exc c1 ?_;rw[hcC])
   | wp_step)
 show wpAny _ _ (typeLookup (.ref C) _) _ _ _
 refine i1.at ?_
 refine wpAny_holding (wpAny_bind ?_)
 unfold bindSpecial
 refine wpAny_bind (wpAny_typeOf (T:="function") ⟨_,f1,hfc⟩ ?_)
 rw[if_pos (by decide)]
 refine wpAny_pure (wpAny_bind (jk (hq _ (h.objs.size+1) (zdv _) ⟨k,zcB (zdv _),h.objs.size,e1,zcB (tE _),?_⟩) λr s' hr=>?_))
 . exact tu _ (Heap.get?_push_at rfl rfl)
 . obtain⟨rfl,hQ⟩:=hr
   wp_walk
   exact hQ
theorem yK {Q:Value->Shared->Prop} (Fn:ExcBaseFacts Bn newId inN bmN) (hBn:bmB.contains (.type Bn)=true)
   (F:ExcBaseFacts B nid initId bmB) (T:OwnTail h bmB bm)
   (hC:h.get? C=some (excClassObj nm q C N bs bm hdct sn sub ab col dd k0 k1 k2 k3 k5 newId))
   (hi:PySem.W.Looks (model prog w) h (typeLookup (.ref C) "__init__") (some (.ref fI))) (hfI:h.get? fI=some oI) (hfc:oI.cls=.type "function")
   (hq:∀h' e,h.objs.size<=e->Heap.MadeExcOf h h' e (.ref C) rest->
     wpAny (model prog w) (A.under (.builtin "type.__call__" ⟨.ref C::rest,[]⟩)) (call (.ref fI) (.ref e::rest)) (λr s'=>r=.none/\Q (.ref e) s') E ⟨h',g,d,t,os⟩)
   (hz:rest.length<=sizeLine):
   wpAny (model prog w) A (call (.ref C) rest) Q E ⟨h,g,d,t,os⟩:=by
 have a1:=tc_lookup
 have a2:=tc_bind (.ref C)
 have a3:(⟨h,g,d,t,os⟩:Shared).TypeIs (.ref C) "type":=⟨_,hC,rfl⟩
 refine wpAny_call (codeAny_of_tree ?_)
 show wpAny _ _ (callAny (.ref C) _) _ _ _
 repeat (any_goals (first
   | assumption
   | with_reducible refine wpAny_loadPart_at hC ?_
   | wp_step))
 refine⟨rfl,codeAny_call_builtin_at (Code.quiet_builtin _ (by decide+kernel)) entry_typeCall
   (wpAny_check_type_call_sub hC (Up Fn hBn F T hC hi hfI hfc (λh' e he hm=>?_) hz))⟩
 exact hq h' e he hm
end
open PySem PySem.W PyProof.Rows Builtin Builtin.ObjectAttr
structure uA (K:Frag) (C:Addr) (bm:List Value):Prop where
 ga:findIn K (.ref C) "__getattribute__"=some (some (.builtin "BaseException.__getattribute__"))
 gt:findIn K (.ref C) "__getattr__"=some none
 sa:findIn K (.ref C) "__setattr__"=some (some (.builtin "object.__setattr__"))
 hd:hasDictIn K C=true
 mr:∃cd,clsIn K C=some cd/\cd.mro=.ref C::bm
 mb:mroIn K C (.type "BaseException")=some true
 mo:mroIn K C (.type "object")=some true
 cl:findIn K (.ref C) "__class__"=some (some (.builtin "object.__class__"))
def UC:List Value->Prop
 | .ref _::r=>UC r
 | l=>l=[.type "ValueError",.type "Exception",.type "BaseException",.type "object"]
theorem vI (self:Value):∀{l:List Value},UC l->refuseLoop self "__setattr__" l=pure ()
 | .ref c::r,e=>by rw[refuseLoop_ref];exact vI self (l:=r) e
 | [],e=>nomatch (show ([]:List Value)=[.type "ValueError",.type "Exception",.type "BaseException",.type "object"] from e)
 | .type n::r,e=>by
   have e':(Value.type n::r)=[.type "ValueError",.type "Exception",.type "BaseException",.type "object"]:=e
   rw[e'];kernel_rfl
 | .none::r,e=>by have e':(Value.none::r)=[.type "ValueError",.type "Exception",.type "BaseException",.type "object"]:=e;cases e'
 | .bool _::r,e=>by have e':_=[Value.type "ValueError",.type "Exception",.type "BaseException",.type "object"]:=e;cases e'
 | .int _ _::r,e=>by have e':_=[Value.type "ValueError",.type "Exception",.type "BaseException",.type "object"]:=e;cases e'
 | .float _ _::r,e=>by have e':_=[Value.type "ValueError",.type "Exception",.type "BaseException",.type "object"]:=e;cases e'
 | .str _ _::r,e=>by have e':_=[Value.type "ValueError",.type "Exception",.type "BaseException",.type "object"]:=e;cases e'
 | .bytes _ _::r,e=>by have e':_=[Value.type "ValueError",.type "Exception",.type "BaseException",.type "object"]:=e;cases e'
 | .builtin _::r,e=>by have e':_=[Value.type "ValueError",.type "Exception",.type "BaseException",.type "object"]:=e;cases e'
section
variable {prog:Program} {w:World} {A:Around} {E:Value->Shared->Prop} {s:Shared} {K:Frag} {x C:Addr} {ox:Obj} {od:Option Obj} {bm:List Value} {name:Str} {v:Value}
theorem Kx {tk:Tok} {R:Result->Shared->Prop} (X:K.In s.heap) (I:InstAt s.heap x ox C od) (c:uA K C bm) (hb:UC bm) (ht:findIn K (.ref C) name=some none)
   (h:∀b,wpAny (model prog w) A.in1 (storeInOwnDict (.ref x) (.ref C) (.str name tk) name v b)
     (λfin s'=>match fin with | .done f=>R (.ok f) s' | .again c'=>c'.quiet=true/\codeAny (model prog w) A c' R s') (λe s'=>R (.error e) s') s):
   codeAny (model prog w) A (.call (.builtin "object.__setattr__") ⟨[.ref x,.str name tk,v],[]⟩) R s:=by
 have SF:=PySem.F.store_object
 obtain⟨cd,hc,hm⟩:=c.mr
 have sub:Looks (model prog w) s.heap (isInstance (.ref x) (.type "object")) true:=I.type.andThen (looks_mroIn X c.mo)
 refine codeAny_call_builtin SF.slot.plain SF.entry
   (@check_slot (model prog w) _ _ s "object.__setattr__" "object" "__setattr__" (.ref x) [.str name tk,v] [] _ SF.kind SF.split sub (SF.args (.ref x) (.str name tk) v) ?_)
 have lm:Looks (model prog w) s.heap (mroOf (.ref C)) cd.mro:=(looks_clsIn X hc).andThen .now
 rw[osa_eq,refuse_eq]
 refine wpAny_bind (wpAny_bind (I.type.here (wpAny_bind (lm.here ?_))))
 rw[hm,refuseLoop_ref,vI _ hb]
 refine wpAny_pure (wpAny_bind (I.type.here (wpAny_bind ((looks_findIn X ht).here ?_))))
 exact wpAny_bind (wpAny_pure (h _))
theorem xp {Q:Unit->Shared->Prop} (X:K.In s.heap) (hx:s.heap.get? x=some ox) (hc:ox.cls=.ref C) (hdc:ox.dict=none) (hda:∃fl,ox.data=.fields fl) (c:uA K C bm) (hb:UC bm) (ht:findIn K (.ref C) name=some none)
   (h:∀h' tk,h'.get? x=some {ox with dict:=some s.heap.objs.size}->h'.Ns1 s.heap.objs.size (λy=>if y=name then some v else none)->
     (∀b o,b≠x->s.heap.get? b=some o->h'.get? b=some o)->Q () {s with heap:=h',toks:=tk}):
   wpAny (model prog w) A (setAttr (.ref x) name v) Q E s:=by
 obtain⟨fl,hfl⟩:=hda
 obtain⟨oc,odi,oda,osl⟩:=ox
 dsimp only at hc hdc hfl
 subst hc hdc hfl
 have I:InstAt s.heap x ⟨.ref C,none,.fields fl,osl⟩ C none:=⟨hx,rfl,rfl,trivial⟩
 refine set_plain X I c.sa (Kx (s:={s with toks:=s.toks+1}) X I c hb ht λb=>?_)
 obtain⟨cd,hcd,hdd⟩:=any_some c.hd
 refine wpAny_bind (wpAny_pure (wpAny_bind (wpAny_bind (wpAny_loadPart hx (wpAny_bind (Looks.here (s:={s with toks:=s.toks+1}) (looks_clsIn X hcd) ?_))))))
 rw[hdd]
 have hne:x≠s.heap.objs.size:=tV (tM hx)
 have h1:=tu zaO hx
 refine wpAny_bind (wpAny_alloc (wpAny_bind (wpAny_update h1 ?_)))
 generalize hh2:(s.heap.push emptyDict).update x (λo=>{o with dict:=some s.heap.objs.size})=h2
 have e2:h2.get? x=some ⟨.ref C,some s.heap.objs.size,.fields fl,osl⟩:=by rw[<-hh2];exact zaG _ h1 rfl
 have k2:∀b o,b≠x->(s.heap.push emptyDict).get? b=some o->h2.get? b=some o:=λb o hb e=>by rw[<-hh2,zai _ _ (Ne.symm hb)];exact e
 have n0:(s.heap.push emptyDict).Ns s.heap.objs.size (λ_=>none):=⟨emptyDict,#[],_,tU s.heap rfl,rfl,(λe he=>absurd he (by simp)),λ_=>rfl⟩
 have n2:h2.Ns1 s.heap.objs.size (λ_=>none):=(Heap.Ns1.of_empty n0).at λo q=>k2 _ o (Ne.symm hne) q
 refine wpAny_pure (a:=some s.heap.objs.size) (wpAny_bind (wpAny_pure (wpAny_bind ?_)))
 refine wpAny_nsSet1 (s:={s with heap:=h2,toks:=s.toks+1}) n2 λh' hn2 hs2=>?_
 obtain⟨oD,esD,epD,hoD,hdD,hcD⟩:=hn2.count (PySem.Within.cons name v PySem.Within.nil)
 refine wpAny_bind (wpAny_lookBehind hoD (by rw[hdD];exact pastItsLine_dict (zac hcD (by show 1<=sizeLine+1;decide))) ?_)
 refine wpAny_pure (h h' (s.toks+1+1) ((hs2.2 x hne).trans e2) hn2 λb o hb e=>?_)
 exact(hs2.2 b (tV (tM e))).trans (k2 b o hb (tu _ e))
end
open PySem PySem.W PyProof.Rows Builtin Builtin.ObjectAttr
section
variable {K:Frag} {x C:Addr} {ox odd:Obj} {bm:List Value}
end
def zW (e C:Addr):HO:=.ext λh=>∃fl,h.get? e=some {cls:=.ref C,data:=.fields fl}/\fl[1]?=some Value.none
def V2 (e C dx:Addr) (hd:Value):HO:=.ext λh=>∃fl,h.get? e=some {cls:=.ref C,dict:=some dx,data:=.fields fl}/\fl[1]?=some hd
abbrev ZW (e C dx:Addr):HO:=V2 e C dx .none
def Ja:List Value:=[.type "ValueError",.type "Exception",.type "BaseException",.type "object"]
structure EMk (K:PySem.W.Frag) (C f:Addr) (bm:List Value):Prop where
 obj:∃nm q N bs hdct sn sub ab col dd k0 k1 k2 k3 k5,K.lookup C=some (excClassObj nm q C N bs bm hdct sn sub ab col dd k0 k1 k2 k3 k5 "ValueError.__new__")
 tail:∀h:Heap,K.In h->OwnTail h Ja bm
 init:tR K (.ref C) "__init__"=some (some (.ref f))
 fn:zaI K (.ref f)=true
 kp:zaC K (.ref C)=true
section
variable {P:Program} {w:World} {H:Hp} {h h':Heap} {e C dx:Addr}
theorem Gs (he:∃fl,h.get? e=some {cls:=.ref C,data:=.fields fl}/\fl[1]?=some Value.none):qS P w H h e (zW e C):=by
 obtain⟨fl,q,z⟩:=he
 exact⟨⟨fl,q,z⟩,⟨_,q⟩,λh1 h2 ⟨fl',q',z'⟩ k=>⟨fl',k _ q',z'⟩⟩
theorem W4 {hd:Value} (he:∃fl,h.get? e=some {cls:=.ref C,dict:=some dx,data:=.fields fl}/\fl[1]?=some hd):qS P w H h e (V2 e C dx hd):=by
 obtain⟨fl,q,z⟩:=he
 exact⟨⟨fl,q,z⟩,⟨_,q⟩,λh1 h2 ⟨fl',q',z'⟩ k=>⟨fl',k _ q',z'⟩⟩
end
section
variable {X:Cx} {pins:List (Addr×Obj)} {σ:St} {H:Hp} {s:Shared} {e C dx:Addr} {f:Str} {bm:List Value} {y v:V} {u:Value} {A:Around} {E:Value->Shared->Prop}
theorem qF.excSet {h':Heap} {t':Nat} {fs:List (Str×V)} (I:qF X pins σ H s) (hH:H e=some (zW e C)) (hd:s.heap.objs.size<=dx)
   (h1:∃fl,h'.get? e=some {cls:=.ref C,dict:=some dx,data:=.fields fl}/\fl[1]?=some Value.none) (h2:∃mA,h'.Ns1 dx mA/\∀f,Zo (fs.lookup f) (mA f))
   (k:∀b o,b≠e->s.heap.get? b=some o->h'.get? b=some o):qF X pins σ (upd (upd H e (ZW e C dx)) dx (.xd fs)) {s with heap:=h',toks:=t'}:=by
 have mu:N8 (H e):=by rw[hH];exact trivial
 have heo:∃u,h'.get? e=some u:=let ⟨_,q,_⟩:=h1;⟨_,q⟩
 have hn:H dx=none:=I.hok.fresh hd
 have ne:dx≠e:=λz=>by rw[z,hH]at hn;cases hn
 have U:Un X.fs [] H (upd H e (ZW e C dx)) s.heap h':=Un.write mu (.inl rfl) k heo
 have W:J5 X.prog X.w (upd H e (ZW e C dx)) h':=I.hok.write mu (.inl rfl) k heo (W4 h1)
 have hn2:(upd H e (ZW e C dx)) dx=none:=by rw[qi ne];exact hn
 have nb:∀b o,s.heap.get? b=some o->b≠dx:=λb o q=>tV (tP (tM q) hd)
 refine I.un ⟨U.keep,U.slot,λb o q n hx=>?_,U.there,λb xs q=>?_,λb o z q=>?_,λb ps q=>?_⟩ λb o q=>?_
 . rw[qi (nb b o q)];exact U.free b o q n hx
 . have:=U.tups b xs q
   rw[qi (qr this hn2)];exact this
 . have:=U.frzs b o z q
   rw[qi (qr this hn2)];exact this
 . obtain⟨m,q'⟩:=U.tbls b ps q
   exact⟨m,by rw[qi (qr q' hn2)];exact q'⟩
 . by_cases hb:b=dx
   . subst hb
     rw[qe]at q
     cases q
     exact h2
   . rw[qi hb]at q
     exact(W b o q).stay (λ_ _ _ z=>z) (λc z=>by rw[qi (qr z hn2)];exact z) (λc xs z=>by rw[qi (qr z hn2)];exact z) (λc o z=>by rw[qi (qr z hn2)];exact z)
theorem kK {Q:Unit->Shared->Prop} (I:qF X pins σ H s) (hH:H e=some (zW e C)) (c:uA X.K C bm) (hb:UC bm) (n:Qr X.K C f) (ry:qP y u)
   (h:∀dx s',H dx=none->qF X pins σ (upd (upd H e (ZW e C dx)) dx (.xd [(f,y)])) s'->Q () s'):wpAny (model X.prog X.w) A (setAttr (.ref e) f u) Q E s:=by
 obtain⟨⟨fl,he,hz⟩,_,_⟩:=(show qS X.prog X.w H s.heap e (zW e C) from I.hok e _ hH)
 refine xp I.kIn he rfl rfl ⟨fl,rfl⟩ c hb n λh' tk e1 e2 e3=>?_
 refine h s.heap.objs.size _ (I.hok.fresh (tE _)) (I.excSet hH (tE _) ⟨fl,e1,hz⟩ ⟨_,e2,λg=>?_⟩ e3)
 by_cases hg:g=f
 . subst hg
   rw[zav]
   simp only[beq_self_eq_true,if_true]
   exact ry
 . have hb':(g==f)=false:=beq_eq_false_iff_ne.mpr hg
   rw[zav]
   simp only[hb',hg,if_false]
   exact trivial
end
def qa9 (K:PySem.W.Frag) (bm:List Value) (ta tv:TE) (f:Str):TS:=λD σ H=>tv σ H λy H1=>ta σ H1 λx H2=>∃a C,x=.ref a/\H2 a=some (zW a C)/\uA K C bm/\UC bm/\Qr K C f/\
 ∀dx,H2 dx=none->D.nx σ (upd (upd H2 a (ZW a C dx)) dx (.xd [(f,y)]))
section
variable {X:Cx} {CX:XF} {k:Nat} {C fI:Addr} {fd:FuncData} {ps:List Str} {sp:Sp} {E:XK} {x f:Str} {o e value:Expr} {es:List Expr} {p pos pos':Pos} {ta tv:TE} {t:TA} {bm:List Value}
theorem NI (ha:JE X o ta) (hv:JE X value tv) (hs:swapsWith value (some (.Attribute o f pos')) pos.line X.env=pure false):JS X (.Assign [.Attribute o f pos'] value pos) (qa9 X.K bm ta tv f):=.of (by
 have ha:=ha.to
 have hv:=hv.to
 intro pins s σ H D I h
 refine plainObj_wpAny_Assign_Attribute (jk (hv pins s σ H _ I h) λu s1 ⟨y,H1,I1,ry,q⟩=>
   jk (ha pins s1 σ H1 _ I1 q) λov s2 ⟨x,H2,I2,rx,a,C,ex,ea,c,hb,n,q2⟩=>?_) hs
 subst ex
 obtain rfl:ov=Value.ref a:=rx
 exact kK I2 ea c hb n ry λdx s3 hdx I3=>⟨σ,_,I3,q2 dx hdx⟩)
theorem kO {pins:List (Addr×Obj)} {σ:St} {H:Hp} {s:Shared} {Q:VK} {us:List Value} {vs:List V} (M:EMk X.K C fI bm) (F:qm X.prog X.w X.K X.mg X.base CX k fI fd ps sp) (hr:qV (k+1) X.A) (hb:jG X.K fd ps [])
   (hx:Qq CX X E) (I:qF X pins σ H s) (r:qI vs us) (hz:us.length<=sizeLine)
   (h:∀x,H x=none->sp (.ref x::vs) (upd H x (zW x C)) (λv H2=>v=.non/\Q (.ref x) H2) E):
   wpAny (model X.prog X.w) X.A (call (.ref C) us) (EP X pins σ Q) X.xe s:=by
 obtain⟨nm,q,N,bs,hdct,sn,sub,ab,col,dd,k0,k1,k2,k3,k5,hC⟩:=M.obj
 have hfn:zdU X.K (.ref fI)=some (.type "function"):=beq_iff_eq.mp M.fn
 obtain⟨oI,ho,hoc⟩:=zbH.mp hfn
 have KX:=I.kIn
 obtain⟨hp,g,d,tk,os⟩:=s
 refine yK zcP (by decide+kernel) zcP (M.tail _ KX) (KX _ _ hC) (zdu KX M.init) (KX _ _ ho) hoc (λh' ex hle hm=>?_) hz
 obtain⟨t0,ht,_,_⟩:=hm.there
 have I2:qF X pins σ (upd H ex (zW ex C)) ⟨h',g,d,tk,os⟩:=I.laid (t':=tk) hm.keeps hle (Gs ⟨_,ht,rfl⟩)
 have hq:=h ex (I.hok.fresh hle)
 have r2:qI (V.ref ex::vs) (Value.ref ex::us):=.cons rfl r
 have hl:(Value.ref ex::us++[]).length=ps.length:=by
   have e:=r2.length
   rw[F.len _ _ _ _ hq]at e
   rw[zap]
   exact e.symm
 have bb:=hb ⟨h',g,d,tk,os⟩ (Value.ref ex::us) I2.kIn hl
 rw[zap]at bb
 refine wpAny_call (codeAny_mono (F.run _ X.stack _ _ ⟨Value.ref ex::us,[]⟩ (Value.ref ex::us) _ _ E (hr.make C us []) (I2.env0.make C us []) bb r2 hq) λr s' hq'=>?_)
 cases r with
 | error z=>exact hx pins σ _ _ z s' I2 hq'
 | ok fl=>
   cases fl with
   | ret u=>
     obtain⟨v,H',I3,rv,ev,q3⟩:=I2.after hq'
     subst ev
     exact⟨rv,⟨V.ref ex,H',I3,rfl,q3⟩⟩
   | next=>exact False.elim hq'
   | brk=>exact False.elim hq'
   | cont=>exact False.elim hq'
theorem VT (M:EMk X.K C fI bm) (F:qm X.prog X.w X.K X.mg X.base CX k fI fd ps sp) (hr:qV (k+1) X.A) (hg:Gl X x) (hm:X.mg x=some (.ref C)) (hb:jG X.K fd ps []) (hx:Qq CX X E) (ha:JA X (e::es) t) (hz:(e::es).length<=1000:=by decide) (hv:∀vs us,qI vs us->vs.length<=sizeLine->us.length<=sizeLine:=by intro vs us r h;rw[<-r.length];exact h) (hdb:(x==("__debug__":Str))=false:=by decide) (he:starEach (e::es) X.env=(false,eval e X.env)::starEach es X.env:=by rfl) (hpl:(backTo pos (starEach es X.env)).any (·.1)=false:=by rfl):JE X (.Call (.Name x p) (e::es) [] pos) (λσ H Q=>t σ H λvs H1=>vs.length<=sizeLine/\∀x,H1 x=none->sp (.ref x::vs) (upd H1 x (zW x C)) (λv H2=>v=.non/\Q (.ref x) H2) E):=.of (by
 have ha:=ha.to
 intro pins s σ H Q I h
 refine wpAny_Call_Name_kw (YE I hg hm ?_ hdb)
 refine zbw (h₀:=X.base) I.ok.mod.kin M.kp (jk (ha pos pins s σ H _ I h) λus s1 ⟨vs,H1,I1,r,q⟩=>⟨I1.kIn,?_⟩) he hpl
 exact kO M F hr hb hx I1 r (hv vs us r q.1) q.2)
end
def neL (xs ys:List V):Bool:=if xs.length=ys.length then !((zaa xs.length).all λj=>Gv (xs.getD j .non) (ys.getD j .non)) else true
mutual
inductive DV (K:PySem.W.Frag) (H:Hp):V->PyData->Prop
 | non:DV K H .non .none
 | bl (b:Bool):DV K H (.bl b) (.bool b)
 | int (i:Int):DV K H (.int i) (.int i)
 | str (x:Str):DV K H (.str x) (.str x)
 | lst {a:Addr} {xs:List V} {ds:List PyData}:SqL K H a xs->DVs K H xs ds->DV K H (.ref a) (.list ds)
 | tup {a:Addr} {xs:List V} {ds:List PyData}:YM K H a xs->DVs K H xs ds->DV K H (.ref a) (.tuple ds)
inductive DVs (K:PySem.W.Frag) (H:Hp):List V->List PyData->Prop
 | nil:DVs K H [] []
 | cons {x:V} {xs:List V} {d:PyData} {ds:List PyData}:DV K H x d->DVs K H xs ds->DVs K H (x::xs) (d::ds)
end
section
variable {X:Cx} {pins:List (Addr×Obj)} {σ:St} {H:Hp} {s:Shared}
mutual
theorem DV.reads (I:qF X pins σ H s):∀{x:V} {d:PyData},DV X.K H x d->∀{u:Value},qP x u->∃as,Reads s.heap u d as
 | _,_,.non,u,r=>by cases (show u=Value.none from r);exact⟨_,.none⟩
 | _,_,.bl b,u,r=>by cases (show u=Value.bool b from r);exact⟨_,.bool b⟩
 | _,_,.int i,u,r=>by obtain⟨t,q⟩:=(show ∃t,u=Value.int i t from r);subst q;exact⟨_,.int i t⟩
 | _,_,.str x,u,r=>by obtain⟨t,q⟩:=(show ∃t,u=Value.str x t from r);subst q;exact⟨_,.str x t⟩
 | _,_,.lst (a:=a) hq hs,u,r=>by
   cases (show u=Value.ref a from r)
   obtain⟨its,rv,⟨o,n,e,hc,hd,hda⟩,hz⟩:=I.list hq
   obtain⟨as,ra⟩:=DVs.reads I hs rv
   exact⟨_,.list e hc hda (by simpa using ra)⟩
 | _,_,.tup (a:=a) hq hs,u,r=>by
   cases (show u=Value.ref a from r)
   obtain⟨its,rv,⟨o,e,hc,n,hda⟩,hz⟩:=I.tuple hq
   obtain⟨as,ra⟩:=DVs.reads I hs rv
   exact⟨_,.tuple e hc hda (by simpa using ra)⟩
theorem DVs.reads (I:qF X pins σ H s):∀{xs:List V} {ds:List PyData},DVs X.K H xs ds->∀{us:List Value},qI xs us->∃as,ReadsAll s.heap us ds as
 | _,_,.nil,_,.nil=>⟨_,.nil⟩
 | _,_,.cons h hs,_,.cons r rs=>by
   obtain⟨as,a⟩:=DV.reads I h r
   obtain⟨bs,b⟩:=DVs.reads I hs rs
   exact⟨_,.cons a b⟩
end
end
section
variable {X:Cx}
def qaG (i j:Int):Prop:=0 < j/\j.natAbs < 2^200
theorem xU:ZB X (binaryOp .FloorDiv) (rI qaG λi j=>.int (i / j)):=Ng λi j _ _ _ _ _ hc q=>by
 have h1:(0:Int) < j:=hc.1
 have h3:j.natAbs.log2 < 200:=(Nat.log2_lt (by omega)).mpr hc.2
 exact floordiv_int (by omega) (by rw[zbR i (by omega)];exact q) (.inl (PyProof.noPylong_of_log2 (zdL h3 (by decide))))
theorem yg:MtR X "int.bit_length" (λx xs H Q=>∃i,x=.int i/\xs=[]/\Q (.int (Builtin.Int.intBits i)) H):=by
 intro pins s σ H x xs v us Q I rx rv h
 obtain⟨i,rfl,rfl,q⟩:=h
 obtain⟨t,rfl⟩:=rx
 cases rv
 exact call_int_bit_length ⟨.int _,H,I.tok _,⟨_,rfl⟩,q⟩
end
section
variable {X:Cx} {tg:Expr}
end
section
variable {X:Cx} {st:Stmt} {rest:List Stmt} {t u:TS}
end
end L2
namespace PySem
section
variable {prog:Program} {w:World} {A:Around} {E:Value->Shared->Prop} {s:Shared}
def Y7 (x n c:Int):Obj:={cls:=.type "range_iterator",data:=.fields #[rawInt x,rawInt n,rawInt c]}
theorem vH (n:Nat):Builtin.Range.rangeSize 0 n 1=n:=by
 unfold Builtin.Range.rangeSize
 rw[if_pos (by decide)]
 split<;>omega
theorem Xz {r:Addr} {a b c:Int} {t u v:Tok} {Q:Value->Shared->Prop} (hr:IsRange s.heap r a b c t u v)
   (hs:(Builtin.Range.rangeFitsLong a&&Builtin.Range.rangeFitsLong b&&Builtin.Range.rangeFitsLong c&&Builtin.Range.rangeFitsLong (-c)&&Builtin.Range.rangeFitsLong (a - c)&&Builtin.Range.rangeFitsLong (Builtin.Range.rangeSize a b c))=true)
   (h:Q (.ref s.heap.objs.size) {s with heap:=s.heap.push (Y7 (a+(Builtin.Range.rangeSize a b c - 1)*c) (Builtin.Range.rangeSize a b c) (-c))}):wpAny (model prog w) A (call (.builtin "range.__reversed__") [.ref r]) Q E s:=by
 have ty:s.TypeIs (.ref r) "range":=⟨_,hr,rfl⟩
 refine wpAny_call_entry F.slot_range_reversed ty F.entry_range_reversed ?_ (F.args_range_reversed_1 _)
 unfold Builtin.«range.__reversed__»
 refine wpAny_bind (wpAny_of_eq (a:=Value.ref r) rfl ?_)
 refine wpAny_bind ?_
 unfold Builtin.Range.rangeFields
 refine wpAny_bind (wpAny_field hr rfl (x:=.int a t) rfl ?_)
 refine wpAny_bind (m:=asInt? (.int a t)) (wpAny_pure ?_)
 refine wpAny_bind (wpAny_field hr rfl (x:=.int b u) rfl ?_)
 refine wpAny_bind (m:=asInt? (.int b u)) (wpAny_pure ?_)
 refine wpAny_bind (wpAny_field hr rfl (x:=.int c v) rfl ?_)
 refine wpAny_bind (m:=asInt? (.int c v)) (wpAny_pure ?_)
 refine wpAny_pure ?_
 dsimp only
 rw[hs]
 simp only[Bool.not_true,zaY,if_false,if_true]
 first
 | refine wpAny_bind (wpAny_newObj_type (wpAny_pure ⟨_,rfl,h⟩))
 | refine wpAny_bind (wpAny_pure (wpAny_bind (wpAny_newObj_type (wpAny_pure ⟨_,rfl,h⟩))))
theorem ZF {r:Addr} {n:Nat} {t u v:Tok} {Q:Value->Shared->Prop} (hr:IsRange s.heap r 0 n 1 t u v) (hn:n < 1048576)
   (h:Q (.ref s.heap.objs.size) {s with heap:=s.heap.push (Y7 ((n:Int) - 1) n (-1))}):wpAny (model prog w) A (call (.builtin "range.__reversed__") [.ref r]) Q E s:=by
 have f:∀x:Int,-2000000<=x->x<=2000000->Builtin.Range.rangeFitsLong x=true:=λx p q=>by
   unfold Builtin.Range.rangeFitsLong
   simp
   omega
 have e:=vH n
 have hs:(Builtin.Range.rangeFitsLong 0&&Builtin.Range.rangeFitsLong (n:Int)&&Builtin.Range.rangeFitsLong 1&&Builtin.Range.rangeFitsLong (-1)&&Builtin.Range.rangeFitsLong (0 - 1)&&Builtin.Range.rangeFitsLong (Builtin.Range.rangeSize 0 n 1))=true:=by
   rw[e,f 0 (by omega) (by omega),f n (by omega) (by omega),f 1 (by omega) (by omega),f (-1) (by omega) (by omega),f (0 - 1) (by omega) (by omega)]
   rfl
 refine Xz hr hs ?_
 have e2:(0:Int)+(Builtin.Range.rangeSize 0 n 1 - 1)*1=(n:Int) - 1:=by rw[e];omega
 rw[e2,e]
 exact h
end
section
variable {prog:Program} {w:World} {A:Around} {E:Value->Shared->Prop} {s:Shared}
theorem ZX {r:Addr} {n:Nat} {t u v:Tok} {Q₁:Value->Shared->Prop} (hr:IsRange s.heap r 0 n 1 t u v) (hn:n < 1048576)
   (h:Q₁ (.ref s.heap.objs.size) {s with heap:=s.heap.push (Y7 ((n:Int) - 1) n (-1))}):
   codeAny (model prog w) A (.call (.builtin "reversed.__new__") ⟨[.type "reversed",.ref r],[]⟩) (wants Q₁ E) s:=by
 have ty:s.TypeIs (.ref r) "range":=⟨_,hr,rfl⟩
 have nn:¬((Value.builtin "range.__reversed__"==Value.none)=true):=tO
 refine codeAny_of_tree (show wpAny _ A.in1 (checkBuiltinCall "reversed.__new__" ⟨[.type "reversed",.ref r],[]⟩ >>= λ_=>again (.builtin "reversed.__new__" ⟨[.type "reversed",.ref r],[]⟩)) _ _ s from
   wpAny_bind (wpAny_of_eq (F.newCall_reversed_1 (.ref r)) (wpAny_pure ⟨plainId_quiet F.plain_reversed_new _,codeAny_builtin F.entry_reversed_new ?_⟩)))
 rw[Around.under_plainId F.plain_reversed_new _];unfold Builtin.«reversed.__new__»
 refine wpAny_bind (wpAny_of_eq (newClass_reversed (.ref r)) ?_);dsimp only
 refine wpAny_bind (wpAny_of_eq (a:=()) (by kernel_rfl) (wpAny_bind (wpAny_of_eq (a:=()) (by kernel_rfl) ?_)));try dsimp only
 refine wpAny_bind (wpAny_specialOf ty F.slot_range_reversed.lookup ?_);dsimp only
 refine wpAny_bind (wpAny_of_eq (F.slot_range_reversed.bind _) ?_);dsimp only
 rw[if_neg nn]
 refine wpAny_bind (wpAny_rule (wpAny_bind (m:=runValue (.call (.builtin "range.__reversed__") ⟨[.ref r],[]⟩)) (show wpAny _ _ (call (.builtin "range.__reversed__") [.ref r]) _ _ _ from ZF hr hn ?_)))
 first | exact wpAny_pure h | exact wpAny_bind (wpAny_pure (wpAny_pure h))
theorem Yk:isSubtype (.type "range_iterator") (.type "reversed")=pure false:=by rw[isSubtype_type];kernel_rfl
theorem ZE {r:Addr} {n:Nat} {t u v:Tok} {Q:Value->Shared->Prop} (hr:IsRange s.heap r 0 n 1 t u v) (hn:n < 1048576)
   (h:Q (.ref s.heap.objs.size) {s with heap:=s.heap.push (Y7 ((n:Int) - 1) n (-1))}):wpAny (model prog w) A (call (.type "reversed") [.ref r]) Q E s:=by
 refine callType_other (U:="range_iterator") (Q₁:=λobj s₁=>obj=.ref s.heap.objs.size/\s₁={s with heap:=s.heap.push (Y7 ((n:Int) - 1) n (-1))}) (by decide+kernel) F.create_reversed ⟨_,_,F.mro_reversed⟩ F.made_reversed Yk (F.typeCall_reversed_1 _) (ZX hr hn ⟨rfl,rfl⟩) ?_
 rintro obj s₁ ⟨rfl,rfl⟩
 exact⟨⟨_,tU _ rfl,rfl⟩,h⟩
theorem W8 {I:Addr} {x left c:Int} {Q:Value->Shared->Prop} (hit:IsRangeIter s.heap I x left c) (h:Q (.int left s.toks) {s with toks:=s.toks+1}):
   wpAny (model prog w) A (call (.builtin "range_iterator.__length_hint__") [.ref I]) Q E s:=by
 have hT:s.TypeIs (.ref I) "range_iterator":=⟨_,hit,rfl⟩
 refine wpAny_call_entry F.slot_range_iterator_length_hint hT F.entry_range_iterator_length_hint ?_ (F.args_range_iterator_length_hint_1 _)
 unfold Builtin.«range_iterator.__length_hint__»
 refine wpAny_bind (wpAny_of_eq (a:=Value.ref I) rfl ?_)
 refine wpAny_bind (wpAny_field hit rfl (x:=rawInt left) rfl ?_)
 show wpAny _ _ (do ret (<-mkInt left)) _ _ _
 exact wpAny_ret_mkInt h
structure U1 (P:Program) (w:World) (T:String) (I:Addr) (fp:List Addr) (n:Nat) (V:Nat->Value->Prop) (St:Nat->Heap->Prop):Prop where
 ty:∀z:Shared,St 0 z.heap->z.TypeIs (.ref I) T
 nl:(Value.type T==Value.type "list")=false
 nt:(Value.type T==Value.type "tuple")=false
 walk:∀B:Around,B.handled=none->Walks P w B I fp [I] n V St
 hint:∀(B:Around) (F:Value->Shared->Prop) (z:Shared) (R:Bool->Shared->Prop),St 0 z.heap->(∀k,R false {z with toks:=k})->wpAny (model P w) B (Builtin.List.listLengthHint (.ref I)) R F z
theorem U1.list {P:Program} {T:String} {I:Addr} {fp:List Addr} {n:Nat} {V:Nat->Value->Prop} {St:Nat->Heap->Prop} (J:U1 P w T I fp n V St) {B:Around} {F':Value->Shared->Prop} {z:Shared} {R:Value->Shared->Prop}
   (hB:B.handled=none) (st:St 0 z.heap) (mem:I∈fp) (old:∀b∈fp,b < z.heap.objs.size) (hn:n<=1048576)
   (k:∀g tk xs c,(∀b o,b≠I->z.heap.get? b=some o->g.get? b=some o)->g.get? z.heap.objs.size=some (⟨.type "list",none,.seq xs c,#[]⟩:Obj)->ItemsOf V xs n->R (.ref z.heap.objs.size) {z with heap:=g,toks:=tk}):
   wpAny (model P w) B (call (.type "list") [.ref I]) R F' z:=by
 have nI:∀b∈fp,z.heap.objs.size≠b:=λb hb=>zbG (old b hb)
 have sI:Builtin.List.listSameRef (.ref z.heap.objs.size) (.ref I)=false:=by unfold Builtin.List.listSameRef;simp [nI I mem]
 refine callType_codes (Q₁:=λob z1=>z1={z with heap:=z.heap.push {cls:=.type "list",data:=.seq #[]}}/\ob=.ref z.heap.objs.size) F.called_list (F.typeCall_list_1 _) F.entry_list_init (code_list_new _ ⟨rfl,rfl⟩) ?_
 rintro ob z1 ⟨rfl,rfl⟩
 have a0:=tU z.heap (o:=({cls:=.type "list",data:=.seq #[]}:Obj)) rfl
 refine⟨⟨_,a0,rfl⟩,F.args_list_init_2 _ _,?_⟩
 show wpAny _ _ (Builtin.List.listItems (.ref _) >>= λys=>Builtin.List.listUpdate (.ref _) (λ_=>#[]) >>= λ_=>letGo ys.toList.reverse >>= λ_=>Builtin.List.listExtendWith (.ref _) (.ref I) .none) _ _ _
 refine wpAny_bind (show wpAny _ _ (Builtin.List.listItems (.ref _)) _ _ _ from ?_)
 unfold Builtin.List.listItems
 refine wpAny_bind (wpAny_seqItems a0 rfl (wpAny_pure (wpAny_bind ?_)))
 refine wpAny_updateSeq a0 rfl (wpAny_bind (wpAny_letGo ?_))
 have a1:=zaG (Obj.mapSeq (λ_=>(#[]:Array Value))) a0 rfl
 have keep1:∀b o,z.heap.get? b=some o->((z.heap.push {cls:=.type "list",data:=.seq #[]}).update z.heap.objs.size (Obj.mapSeq (λ_=>(#[]:Array Value)))).get? b=some o:=λb o e=>
   (zai _ _ (zbG (tM e))).trans (tu _ e)
 generalize hg1:(z.heap.push {cls:=.type "list",data:=.seq #[]}).update z.heap.objs.size (Obj.mapSeq (λ_=>(#[]:Array Value)))=g1 at a1 keep1
 have st1:St 0 g1:=(J.walk B hB).frame 0 _ _ st λb _ o e=>keep1 b o e
 unfold Builtin.List.listExtendWith
 refine wpAny_bind (wpAny_typeOf (J.ty {z with heap:=g1} st1) ?_)
 simp only[sI,J.nl,J.nt,Bool.or_false,zaY,if_false]
 refine wpAny_bind ((J.walk B.in1.in1 hB).self 0 {z with heap:=g1} _ _ st1 ?_)
 refine wpAny_bind (wpAny_holding (J.hint B.in1.in1 _ {z with heap:=g1} _ st1 λtk=>?_))
 have run:∀(g:Heap) (c tk:Nat),St 0 g->(∀b o,z.heap.get? b=some o->g.get? b=some o)->g.get? z.heap.objs.size=some {cls:=.type "list",data:=.seq #[] c}->
     codeAny (model P w) B.in1 (.builtin "list.extend.loop" ⟨[.ref z.heap.objs.size,.ref I,.none],[]⟩) (wants (λr z2=>r=.none/\R (.ref z.heap.objs.size) z2) F') {z with heap:=g,toks:=tk}:=λg c tk sg kg ag=>
   codeAny_extend_loopS (J.walk B.in1.in1 hB).toS (by rw[sizeLine_eq];omega) _ (λq=>nI _ q rfl) .none n 0 _ #[] c rfl (zat _) sg ag (ItemsOf.nil _) λz3 xs c3 mv a3 it=>by
     rw[Moved.eq_with mv]
     refine⟨rfl,k z3.heap z3.toks xs c3 (λb o hb e=>mv.heap b o (λq=>?_) (kg b o e)) a3 it⟩
     rcases tY.mp q with q | q
     . exact absurd q (tV (tM e))
     . exact hb (zab.mp q)
 refine wpAny_ite_split (λ_=>?_) (λ_=>wpAny_pure ⟨plainId_quiet F.plain_extend_loop _,run g1 _ tk st1 keep1 a1⟩)
 refine wpAny_bind (wpAny_rule (wpAny_bind (show wpAny _ _ (updateSeq z.heap.objs.size (·.push .none) >>= λ_=>updateSeq z.heap.objs.size (·.pop)) _ _ _ from wpAny_bind (wpAny_updateSeq a1 rfl ?_))))
 have a2:=zaG (Obj.mapSeq (·.push Value.none)) a1 rfl
 refine wpAny_updateSeq (hz:=by seq_fits) a2 rfl ?_
 have keep3:∀b o,b≠z.heap.objs.size->g1.get? b=some o->((g1.update z.heap.objs.size (Obj.mapSeq (·.push Value.none))).update z.heap.objs.size (Obj.mapSeq (·.pop))).get? b=some o:=λb o hb e=>
   (zai _ _ (Ne.symm hb)).trans ((zai _ _ (Ne.symm hb)).trans e)
 exact wpAny_pure ⟨plainId_quiet F.plain_extend_loop _,run _ _ tk ((J.walk B hB).frame 0 _ _ st1 λb hb o e=>keep3 b o (λq=>nI b hb q.symm) e) (λb o e=>keep3 b o (tV (tM e)) (keep1 b o e)) (zaG (Obj.mapSeq (·.pop)) a2 rfl)⟩
theorem kL {P:Program} {I:Addr} {x c:Int} {n:Nat} (hn:n<=1048576):U1 P w "range_iterator" I [I] n (λi v=>∃t,v=.int (x+i*c) t) (λi h=>IsRangeIter h I (x+(i:Nat)*c) ((n:Int) - (i:Nat)) c) where
 ty:=λ_ st=>⟨_,st,rfl⟩
 nl:=by decide
 nt:=by decide
 walk:=λ_ hB=>Walks.range hB I x c n
 hint:=λB G z R st k=>by
   have st':IsRangeIter z.heap I x n c:=by
     have e1:x+((0:Nat):Int)*c=x:=by simp
     have e2:(n:Int) - ((0:Nat):Int)=n:=by simp
     rw[<-e1,<-e2]
     exact st
   have ty:z.TypeIs (.ref I) "range_iterator":=⟨_,st',rfl⟩
   have few:Builtin.List.listTooLong ((n:Int).toNat)=false:=by unfold Builtin.List.listTooLong;rw[zaP];exact decide_eq_false (by rw[sizeLine_eq];omega)
   unfold Builtin.List.listLengthHint
   refine wpAny_bind (wpAny_specialOf ty F.nolen_ra ?_)
   refine(show wpAny _ B (specialOf (.ref I) (Str.ofString "__length_hint__") >>= _) _ _ _ from wpAny_bind (wpAny_specialOf ty F.hint_ra ?_))
   (generalize hq:("range_iterator.__length_hint__":String)=q0;(fail_if_success (clear hq q0));wp_delta;rw[show splitId q0=some ("range_iterator","__length_hint__") from by subst hq;decide+kernel];subst hq)
   refine wpAny_bind (wpAny_isInstance (b:=true) ty (by rw[isSubtype_type];kernel_rfl) ?_)
   refine(show wpAny _ B (call (.builtin "range_iterator.__length_hint__") [.ref I] >>= _) _ _ _ from wpAny_bind (W8 st' (wpAny_bind (m:=asInt? (.int (n:Int) _)) (wpAny_pure ?_))))
   dsimp only
   rw[if_neg (by rw[few];decide)]
   exact wpAny_pure (k _)
end
end PySem
namespace L2
open PySem PySem.Spec PyProof.Rows
def zt (n:Nat):List Nat:=(zaa n).reverse
theorem kz {n:Nat} {acc:Array Value} (h:ItemsOf (λi v=>∃t,v=.int ((n:Int) - 1+i*(-1)) t) acc n):qI ((zt n).map λi=>V.int (i:Nat)) acc.toList:=by
 obtain⟨hz,hv⟩:=h
 have key:∀(xs:List V) (us:List Value),xs.length=us.length->(∀(i:Nat) (x:V) (u:Value),xs[i]?=some x->us[i]?=some u->qP x u)->qI xs us:=by
   intro xs
   induction xs with
   | nil=>intro us hl _;cases us with | nil=>exact .nil | cons _ _=>cases hl
   | cons x xs ih=>
     intro us hl hp
     cases us with
     | nil=>cases hl
     | cons u us=>exact .cons (hp 0 x u rfl rfl) (ih us (by simpa using hl) λi y w h1 h2=>hp (i+1) y w (by simpa using h1) (by simpa using h2))
 refine key _ _ (by simp [zt,hz]) λi x u h1 h2=>?_
 have h2':acc[i]?=some u:=by simpa using h2
 obtain⟨t,rfl⟩:=hv i u h2'
 have hi:i < n:=by
   have:=(zay.mp h2').1
   omega
 rw[tH,zt,List.getElem?_reverse (by simpa using hi),zam,zbB (by omega)]at h1
 simp at h1
 subst h1
 refine⟨t,?_⟩
 congr 1
 omega
section
variable {X:Cx} {e:Expr} {te:TE} {p1 p2 p3 pos1 pos2 pos3:Pos}
theorem kG {M:Model} {A:Around} {E:Value->Shared->Prop} {s:Shared} {env:Env} {e:Expr} {pos:Pos} {R:List Value->Shared->Prop} (hs:starEach [e] env=[(false,eval e env)]) (h:wpAny M A (eval e env) (λv s1=>R [v] s1) E s):
   wpAny M A (spliced (backTo pos (starEach [e] env))) R E s:=by
 rw[hs]
 show wpAny _ _ (spliced ((false,eval e env)::backTo pos [])) _ _ s
 exact Calls.spliced_cons (jk h λu s1 h1=>Calls.spliced_nil h1)
def qaU (te:TE):TE:=λσ H Q=>te σ H λx H1=>∃n:Nat,x=.int n/\n<=1000/\∀l,H1 l=none->Q (.ref l) (upd H1 l (.lst ((zt n).map λi=>V.int (i:Nat))))
theorem NQ (hc:X.calm=true) (g1:Gl X "list") (m1:X.mg "list"=none) (g2:Gl X "reversed") (m2:X.mg "reversed"=none) (g3:Gl X "range") (m3:X.mg "range"=none) (ha:JE X e te) (hs:starEach [e] X.env=[(false,eval e X.env)]:=by rfl) (hs2:starEach [.Call (.Name "range" p3) [e] [] pos3] X.env=[(false,eval (.Call (.Name "range" p3) [e] [] pos3) X.env)]:=by rfl) (hs3:starEach [.Call (.Name "reversed" p2) [.Call (.Name "range" p3) [e] [] pos3] [] pos2] X.env=[(false,eval (.Call (.Name "reversed" p2) [.Call (.Name "range" p3) [e] [] pos3] [] pos2) X.env)]:=by rfl):JE X (.Call (.Name "list" p1) [.Call (.Name "reversed" p2) [.Call (.Name "range" p3) [e] [] pos3] [] pos2] [] pos1) (qaU te):=.of (by
 have ha:=ha.to
 intro pins s σ H Q I h
 refine Call_ (QW I g1 m1 boot_list (PyProof.Rows.callWith_type1 (kG hs3 ?_) (by rw[hs3];rfl) rfl))
 refine Call_ (QW I g2 m2 boot_reversed (PyProof.Rows.callWith_type1 (kG hs2 ?_) (by rw[hs2];rfl) rfl))
 refine Call_ (QW I g3 m3 boot_range (PyProof.Rows.callWith_type1 (kG hs (jk (ha pins s σ H _ I h) λu s1 ⟨x,H1,I1,r1,q1⟩=>?_)) (by rw[hs];rfl) rfl))
 obtain⟨n,rfl,hn,q⟩:=q1
 obtain⟨t,rfl⟩:=r1
 refine call_range_1 ?_
 refine ZE (IsRange.new ..) (by omega) ?_
 refine(kL (x:=(n:Int) - 1) (c:=-1) (n:=n) (by omega)).list (I1.ok.hd hc) (by
   have e1:(n:Int) - 1+((0:Nat):Int)*(-1)=(n:Int) - 1:=by simp
   have e2:(n:Int) - ((0:Nat):Int)=n:=by simp
   rw[e1,e2]
   exact tU _ rfl) (by simp) (λb hb=>by rw[zab.mp hb,zbn (_:Heap) (Y7 _ _ _)];exact zaJ _) (by omega) λh' tk acc' c' kp e hi=>?_
 have kk:∀b o,s1.heap.get? b=some o->h'.get? b=some o:=λb o eb=>by
   refine kp b o (tV ?_) (tu _ (tu _ eb))
   rw[zbn]
   exact zbP (tM eb)
 have s1z:s1.heap.objs.size<=((s1.heap.push ({cls:=.type "range",data:=.fields #[.int 0 s1.toks,.int n t,.int 1 (s1.toks+1)]}:Obj)).push (Y7 ((n:Int) - 1) n (-1))).objs.size:=by
   rw[zbn,zbn]
   omega
 exact⟨.ref _,_,I1.laid (t':=tk) (o:=.lst ((zt n).map λi=>V.int (i:Nat))) kk s1z ⟨by simp only[tj,zt,zbX,zam];exact zag (qp hn),acc'.toList,c',kz hi,by simpa using e⟩,rfl,q _ (I1.hok.fresh s1z)⟩)
end
end L2
namespace PySem
namespace F
end F
end PySem
namespace L2
open PySem PySem.Spec PyProof.Rows
theorem kX:∀(xs:List V) (us:List Value),xs.length=us.length->(∀(i:Nat) (x:V) (u:Value),xs[i]?=some x->us[i]?=some u->qP x u)->qI xs us:=by
 intro xs
 induction xs with
 | nil=>intro us hl _;cases us with | nil=>exact .nil | cons _ _=>cases hl
 | cons x xs ih=>
   intro us hl hp
   cases us with
   | nil=>cases hl
   | cons u us=>exact .cons (hp 0 x u rfl rfl) (ih us (by simpa using hl) λi y w h1 h2=>hp (i+1) y w (by simpa using h1) (by simpa using h2))
section
variable {X:Cx} {e:Expr} {te:TE} {p1 p2 pos1 pos2:Pos}
end
section
variable {X:Cx} {pins:List (Addr×Obj)} {σ:St} {H:Hp} {s:Shared} {h':Heap}
theorem qF.turnLaid {L:List Addr} {T:Addr} {o:HO} {t':Nat} (I:qF X pins σ H s) (k:∀b u,b∉L->s.heap.get? b=some u->h'.get? b=some u) (hf:∀b∈L,Jz X pins H b) (hp:s.heap.objs.size<=T)
   (new:qS X.prog X.w (upd H T o) h' T o):qF X pins σ (upd H T o) {s with heap:=h',toks:=t'}:=by
 have hn:H T=none:=I.hok.fresh hp
 have up:∀b u,H b=some u->upd H T o b=some u:=λb u e=>by rw[qi (qr e hn)];exact e
 have nL:∀b u,H b=some u->b∉L:=λb u e z=>by rw[(hf b z).1]at e;cases e
 refine I.step (g':=s.gens) (d':=s.drawn) (ch:=L) (λb hb=>?_) (λb o _ _ hc e _=>k b o hc e) (λb o _ _ hc e _=>⟨o.slots,k b o hc e⟩) (λb ob hc e n=>?_)
   (λb o hc e=>⟨o,k b o hc e⟩) (λb xs e=>up b _ e) (λb o u e=>up b _ e) (λb ps e=>⟨#[],by rw[up b _ e];simp⟩) (λm hm=>?_) (λb u e=>?_) I.bare
 . obtain⟨f0,f1,f2,f3,f4,f5⟩:=hf b hb
   exact⟨f3,f1,f4,f5⟩
 . have:b≠T:=tV (tP (tM e) hp)
   rw[qi this]
   exact n
 . obtain⟨o,es,ep,ho,r⟩:=hm
   exact⟨o,es,ep,k _ o (λz=>(hf _ z).2.1 rfl) ho,r⟩
 . by_cases hb:b=T
   . subst hb
     rw[qe]at e
     cases e
     exact new
   . rw[qi hb]at e
     refine(I.hok b u e).stay (λc v hc q=>k c v ?_ q) (λc q=>up c _ q) (λc xs q=>up c _ q) (λc o q=>up c _ q)
     rcases hc with z | z
     . rw[z];exact nL b u e
     . exact nL c _ z
theorem qF.turnedL {L:List Addr} {t':Nat} (I:qF X pins σ H s) (k:∀b u,b∉L->s.heap.get? b=some u->h'.get? b=some u) (hf:∀b∈L,Jz X pins H b):qF X pins σ H {s with heap:=h',toks:=t'}:=by
 have nL:∀b u,H b=some u->b∉L:=λb u e z=>by rw[(hf b z).1]at e;cases e
 refine I.step (g':=s.gens) (d':=s.drawn) (ch:=L) (λb hb=>?_) (λb o _ _ hc e _=>k b o hc e) (λb o _ _ hc e _=>⟨o.slots,k b o hc e⟩) (λ_ _ _ _ n=>n)
   (λb o hc e=>⟨o,k b o hc e⟩) (λ_ _ e=>e) (λ_ _ _ e=>e) (λb ps e=>⟨#[],by rw[e];simp⟩) (λm hm=>?_) (λb u e=>?_) I.bare
 . obtain⟨f0,f1,f2,f3,f4,f5⟩:=hf b hb
   exact⟨f3,f1,f4,f5⟩
 . obtain⟨o,es,ep,ho,r⟩:=hm
   exact⟨o,es,ep,k _ o (λz=>(hf _ z).2.1 rfl) ho,r⟩
 . refine(I.hok b u e).stay (λc v hc q=>k c v ?_ q) (λ_ q=>q) λ_ _ q=>q
   rcases hc with z | z
   . rw[z];exact nL b u e
   . exact nL c _ z
end
section
variable {X:Cx} {elts:List Expr} {x1:Nat} {tpos:Pos}
end
section
variable {X:Cx}
theorem XR:∀{cs:List Addr} {us:List Value},qI (cs.map V.ref) us->us=cs.map Value.ref
 | [],_,.nil=>rfl
 | c::cs,u::us,.cons r t=>by
   obtain rfl:u=Value.ref c:=r
   rw[tW,XR t]
def qbe (K:PySem.W.Frag):R2:=λx y H Q=>∃d d',DV K H x d/\DV K H y d'/\PySem.SeqAt.shaped d=true/\PySem.SeqAt.shaped d'=true/\Q (.bl (PyData.eqv d d')) H
theorem xV (hu:X.A.units+64 < cLine):ZB X (compareOp .Eq) (qbe X.K):=by
 intro pins s σ H x y v u Q I rx ry h
 obtain⟨d,d',h1,h2,hs,hs',q⟩:=h
 obtain⟨as,ra⟩:=h1.reads I rx
 obtain⟨bs,rb⟩:=h2.reads I ry
 exact eq_dataH ra rb hs hs' hu ⟨.bl _,H,I,rfl,q⟩
end
section
variable {X:Cx} {o e:Expr} {es:List Expr} {ta:TE} {t:TA} {m:Str} {C C' f f':Addr} {fd fd':FuncData} {ps ps':List Str} {k k':Nat} {sp sp':Sp} {apos pos:Pos}
def yW (C C':Addr) (m:Str) (sp sp':Sp) (ta:TE) (t:TA):TE:=λσ H Q=>ta σ H λx H1=>∃a dx fs,x=.ref a/\fs.lookup m=none/\
 ((H1 a=some (.ins C dx fs)/\t σ H1 λvs H2=>sp (x::vs) H2 Q E0)\/(H1 a=some (.ins C' dx fs)/\t σ H1 λvs H2=>sp' (x::vs) H2 Q E0))
theorem wM {pl:Sem Bool} (he:JE X o ta) (c:XH X.K C) (hm:XQ X.K C m f) (F:qm X.prog X.w X.K X.mg X.base qK k f fd ps sp) (hr:qV k X.A) (hb:jG X.K fd ps []) (c':XH X.K C') (hm':XQ X.K C' m f') (F':qm X.prog X.w X.K X.mg X.base qK k' f' fd' ps' sp') (hr':qV k' X.A) (hb':jG X.K fd' ps' []) (ha:JA X (e::es) t) (hst:starEach (e::es) X.env=(false,eval e X.env)::starEach es X.env:=by rfl) (hpl:(backTo pos (starEach es X.env)).any (·.1)=false:=by rfl) (ht:eval (.Call (.Attribute o m apos) (e::es) [] pos) X.env=(eval o X.env >>= λov=>standAt apos.atName >>= λ_=>holding [ov] (getMethod ov m pl) >>= λr=>callWith pos r.1 r.2 (backTo pos (starEach (e::es) X.env)) (backToKw pos (keywordEach [] X.env))):=by rfl):JE X (.Call (.Attribute o m apos) (e::es) [] pos) (yW C C' m sp sp' ta t):=.of (by
 have he:=he.to
 have ha:=ha.to
 intro pins s σ H Q I h
 refine zbN (pl:=pl) (jk (he pins s σ H _ I h) λu s1 ⟨x,H1,I1,rx,a,dx,fs,ex,l,q⟩=>?_) ht
 subst ex
 obtain rfl:u=Value.ref a:=rx
 rcases q with ⟨ea,q⟩ | ⟨ea,q⟩
 . refine Qw I1 ea c hm l (zbw (first:=[.ref a]) (h₀:=X.base) I.ok.mod.kin hm.kp (jk (ha pos pins s1 σ H1 _ I1 q) λus s2 ⟨vs,H2,I2,r,q2⟩=>⟨I2.kIn,?_⟩) hst hpl)
   exact ZR (us:=.ref a::us) (vs:=.ref a::vs) F hr hb .nil QJ I2 (.cons rfl r) (by simpa using q2)
 . refine Qw I1 ea c' hm' l (zbw (first:=[.ref a]) (h₀:=X.base) I.ok.mod.kin hm'.kp (jk (ha pos pins s1 σ H1 _ I1 q) λus s2 ⟨vs,H2,I2,r,q2⟩=>⟨I2.kIn,?_⟩) hst hpl)
   exact ZR (us:=.ref a::us) (vs:=.ref a::vs) F' hr' hb' .nil QJ I2 (.cons rfl r) (by simpa using q2))
theorem Wb {pl:Sem Bool} (he:JE X o ta) (c:XH X.K C) (hm:XQ X.K C m f) (F:qm X.prog X.w X.K X.mg X.base qK k f fd ps sp) (hr:qV k X.A) (hb:jG X.K fd ps []) (c':XH X.K C') (hm':XQ X.K C' m f') (F':qm X.prog X.w X.K X.mg X.base qK k' f' fd' ps' sp') (hr':qV k' X.A) (hb':jG X.K fd' ps' []) (ht:eval (.Call (.Attribute o m apos) [] [] pos) X.env=(eval o X.env >>= λov=>standAt apos.atName >>= λ_=>holding [ov] (getMethod ov m pl) >>= λr=>callWith pos r.1 r.2 (backTo pos (starEach [] X.env)) (backToKw pos (keywordEach [] X.env))):=by rfl):JE X (.Call (.Attribute o m apos) [] [] pos) (yW C C' m sp sp' ta Zc):=.of (by
 have he:=he.to
 intro pins s σ H Q I h
 refine zbN (pl:=pl) (jk (he pins s σ H _ I h) λu s1 ⟨x,H1,I1,rx,a,dx,fs,ex,l,q⟩=>?_) ht
 subst ex
 obtain rfl:u=Value.ref a:=rx
 rcases q with ⟨ea,q⟩ | ⟨ea,q⟩
 . exact Qw I1 ea c hm l (zcG (first:=[.ref a]) I1.kIn hm.kp (ZR (us:=[.ref a]) (vs:=[.ref a]) F hr hb .nil QJ I1 (.cons rfl .nil) q))
 . exact Qw I1 ea c' hm' l (zcG (first:=[.ref a]) I1.kIn hm'.kp (ZR (us:=[.ref a]) (vs:=[.ref a]) F' hr' hb' .nil QJ I1 (.cons rfl .nil) q)))
end
section
variable {X:Cx} {e:Expr} {es:List Expr} {te:TE} {t:TA}
theorem WY {t':TE} (h:JE X e te) (k:∀σ H Q,t' σ H Q->te σ H Q):JE X e t':=.of (by
 have h:=h.to
 exact λpins s σ H Q I q=>h pins s σ H Q I (k σ H Q q))
def tWk (te:TE):TE:=λσ H Q=>∃G:VK,te σ H G/\∀x H1,G x H1->Q x H1
theorem wK (h:JE X e te):JE X e (tWk te):=.of (by
 have h:=h.to
 intro pins s σ H Q I ⟨G,g,k⟩
 exact jk (h pins s σ H G I g) λv s1 ⟨x,H1,I1,r1,q1⟩=>⟨x,H1,I1,r1,k x H1 q1⟩)
def aWk (t:TA):TA:=λσ H Q=>∃G:List V->Hp->Prop,t σ H G/\∀vs H1,G vs H1->Q vs H1
theorem qak (h:JA X es t):JA X es (aWk t):=.of (by
 have h:=h.to
 intro pos pins s σ H Q I ⟨G,g,k⟩
 exact jk (h pos pins s σ H G I g) λus s1 ⟨vs,H1,I1,r1,q1⟩=>⟨vs,H1,I1,r1,k vs H1 q1⟩)
end
open PySem PySem.Spec PySem.W PyProof.Rows
theorem RB:∀(f n r:Nat),r<=1->minRun' f n r<=n+r
 | 0,n,r,_=>tE _
 | f+1,n,r,hr=>by
   rw[minRun'_succ]
   split
   . exact tE _
   . have h1:max r (n % 2)<=1:=Nat.max_le.mpr ⟨hr,by omega⟩
     have:=RB f (n / 2) (max r (n % 2)) h1
     omega
section
variable {P:Program} {w:World} {B:Around} {F:Value->Shared->Prop} {κ:SortKind} {it:Array Keyed} {z:Shared}
theorem VA {n:Nat} {R:Nat->Shared->Prop} (hc:∀i,1<=i->i < n->∀C:Bool->Shared->Prop,C false z->kas_cmp P w B κ it i (i - 1) C z) (hR:R n z):
   ∀(f a:Nat),1<=a->a+f=n->(kas_asc (zaV (zaa n)) f a).kasWp (kas_cmp P w B κ it) R z
 | 0,a,_,e=>by
   have e':a=n:=by omega
   subst e'
   exact hR
 | f+1,a,h1,e=>by
   have g:∀i,i < n->(zaV (zaa n)).getD i 0=i:=λi hi=>by simp [Array.getD,hi]
   show kas_cmp P w B κ it ((zaV (zaa n)).getD a 0) ((zaV (zaa n)).getD (a - 1) 0) _ z
   rw[g a (by omega),g (a - 1) (by omega)]
   refine hc a h1 (by omega) _ ?_
   show KasT.kasWp _ (if false=true then _ else _) R z
   rw[if_neg tO]
   exact VA hc hR f (a+1) (by omega) (by omega)
theorem kR {n:Nat} {Q:Unit->SortSt->Shared->Prop} (h2:2<=n) (hc:∀i,1<=i->i < n->∀C:Bool->Shared->Prop,C false z->kas_cmp P w B κ it i (i - 1) C z)
   (hQ:∀st,arrOf st=(zaV (zaa n)).map (kas_item it)->failedOf st=none->Q () st z):kasC (model P w) B F sortRuns' Q (kas_st κ it (zaV (zaa n))) z:=by
 obtain⟨r,rfl⟩:∃r,n=r+2:=⟨n - 2,by omega⟩
 have sz:(zaV (zaa (r+2))).size=r+2:=by simp
 have sa:(arrOf (kas_st κ it (zaV (zaa (r+2))))).size=r+2:=(Array.size_map ..).trans sz
 have le:=RB (r+2) (r+2) 0 (by decide)
 rw[sortRuns'_eq]
 refine kasC_bind (kasC_get ?_)
 dsimp only
 rw[sa]
 generalize minRun' (r+2) (r+2) 0=M at le
 refine kasC_bind (kasC_range (show kasC _ _ _ (forIn (0::1::zdS 2 r) _ _) _ _ _ from kasC_cons ?_))
 dsimp only
 rw[if_neg (by omega)]
 simp only[zdl,zdM]
 refine kasC_bind (kas_count_ (G:=λq z'=>q=(r+2,zaV (zaa (r+2)))/\z'=z) (by omega) (by rw[sz];exact tE _) (λm p' z' _ _ _ hg=>?_) ?_)
 . obtain⟨e,rfl⟩:=hg
   cases e
   dsimp only
   rw[if_neg (by omega)]
   refine kasC_bind (kasC_get ?_)
   rw[show (pendingOf (kas_st κ it (zaV (zaa (r+2))))).back?=none from rfl]
   dsimp only
   refine kasC_bind (kasC_modify (kasC_pure (show kasC _ _ _ (forIn (1::zdS 2 r) _ _) _ _ _ from kasC_cons ?_)))
   dsimp only
   rw[if_pos (tE _)]
   refine kasC_pure ?_
   dsimp only
   refine kasC_bind (kasC_range (show kasC _ _ _ (forIn (0::1::zdS 2 r) _ _) _ _ _ from kasC_cons (kasC_bind (kasC_get ?_))))
   rw[if_pos (show (pendingOf (setPending (kas_st κ it (zaV (zaa (r+2)))) ((pendingOf (kas_st κ it (zaV (zaa (r+2))))).push (0,r+2,0)))).size<=1 from tE 1)]
   refine kasC_pure ?_
   dsimp only
   exact kasC_pure (hQ _ rfl rfl)
 . unfold kas_count
   rw[KasT.kasWp_bind]
   refine VA hc ?_ _ 1 (tE 1) (by omega)
   rw[if_pos (beq_self_eq_true _)]
   exact⟨rfl,rfl⟩
end
def J4 (h:Heap) (v:Value) (k:Int×Int):Prop:=∃p o n t u,v=.ref p/\h.get? p=some o/\o.cls=.type "tuple"/\o.data=.seq #[.int k.1 t,.int k.2 u] n
def Xj (a b:Int×Int):Prop:=a.1 < b.1\/(a.1=b.1/\a.2 < b.2)
section
variable {P:Program} {w:World} {B:Around} {F:Value->Shared->Prop} {z:Shared}
theorem VC {v u:Value} {a b:Int×Int} (hv:J4 z.heap v b) (hu:J4 z.heap u a) (hlt:Xj a b) {C:Bool->Shared->Prop} (hC:C false z):wpAny (model P w) B (keyLt' (tuples' true) v u) C (λ_ _=>False) z:=by
 obtain⟨p,o,n,t1,t2,rfl,h1,_,d1⟩:=hv
 obtain⟨p',o',n',t1',t2',rfl,h1',_,d1'⟩:=hu
 refine kat_lt h1 d1 h1' d1' ?_
 show KatLex P w B true _ C [(.int b.1 t1,.int a.1 t1'),(.int b.2 t2,.int a.2 t2')] 0 z
 refine kat_cons (SeqAt.EqAt.int_int b.1 t1 a.1 t1' P w _ _ ?_)
 rcases hlt with h | ⟨h,h'⟩
 . have e:(b.1==a.1)=false:=by
     rw[beq_eq_false_iff_ne]
     omega
   rw[e]
   refine kat_no (show wpAny _ _ (oneLt' true _ _) _ _ _ from oneLt_int ?_)
   rw[decide_eq_false (by omega)]
   exact hC
 . have e:(b.1==a.1)=true:=by rw[h];exact beq_self_eq_true _
   rw[e]
   refine kat_yes (kat_cons (SeqAt.EqAt.int_int b.2 t2 a.2 t2' P w _ _ ?_))
   have e2:(b.2==a.2)=false:=by
     rw[beq_eq_false_iff_ne]
     omega
   rw[e2]
   refine kat_no (show wpAny _ _ (oneLt' false _ _) _ _ _ from kat_one _ _ (lt_int ?_))
   show C (decide (b.2 < a.2)) z
   rw[decide_eq_false (by omega)]
   exact hC
theorem J4.keep {h h':Heap} {v:Value} {k:Int×Int} (x:J4 h v k) (kp:∀b o,h.get? b=some o->o.cls=.type "tuple"->h'.get? b=some o):J4 h' v k:=by
 obtain⟨p,o,n,t,u,e,h1,c,d⟩:=x
 exact⟨p,o,n,t,u,e,kp p o h1 c,c,d⟩
theorem X3 (vs:List Value):(pairsOf vs).map (·.2)=vs.toArray:=by
 apply Array.ext'
 rw[Array.toList_map,pairsOf_toList,List.map_snd_zip (tE _)]
theorem va {h:Heap}:∀(vs:List Value) (ks:List (Int×Int)),vs.length=ks.length->(∀(i:Nat) (v:Value) (k:Int×Int),vs[i]?=some v->ks[i]?=some k->J4 h v k)->∃fs,KatTups h vs fs/\fs.length=vs.length/\∀v∈fs,∃i t,v=Value.int i t
 | [],_,_,_=>⟨[],.nil,rfl,λv hv=>(nomatch hv)⟩
 | v::vs,[],hl,_=>by cases hl
 | v::vs,k::ks,hl,hv=>by
   obtain⟨fs,tf,lf,hf⟩:=va vs ks (zcO.inj hl) λi u q e1 e2=>hv (i+1) u q (by simpa using e1) (by simpa using e2)
   obtain⟨p,o,n,t,u,rfl,h1,c,d⟩:=hv 0 v k rfl rfl
   refine⟨.int k.1 t::fs,.cons h1 c d rfl tf,by simp [lf],λx hx=>?_⟩
   rcases tY.mp hx with e | hx
   . exact⟨_,_,e⟩
   . exact hf x hx
theorem kI {a:Addr} {vs:List Value} {ks:List (Int×Int)} {n:Nat} {R:PySem.Fin->Shared->Prop} (ho:z.heap.get? a=some (seqObj "list" vs.toArray n)) (hl:vs.length=ks.length) (hv:∀(i:Nat) (v:Value) (k:Int×Int),vs[i]?=some v->ks[i]?=some k->J4 z.heap v k)
   (hr:∀(i:Nat) (k k':Int×Int),ks[i]?=some k->ks[i+1]?=some k'->Xj k k') (hz:vs.length<=100000)
   (k:R (.done (.ret .none)) {z with heap:=sortedHeap z.heap a vs vs.toArray}):wpAny (model P w) B (Builtin.«list.sort» ⟨[.ref a],[]⟩) R F z:=by
 have na:∀b o,z.heap.get? b=some o->o.cls=.type "tuple"->b≠a:=λb o e c q=>by
   rw[q,ho]at e
   cases e
   exact absurd c (show ¬Value.type "list"=Value.type "tuple" by decide)
 rw[list_sort_plain]
 refine wpAny_bind (listItems_at ho rfl (wpAny_bind (listUpdate_at ho rfl ?_)))
 obtain⟨c1,o1⟩:∃c,(z.heap.update a (Obj.mapSeq λ_=>#[])).get? a=some (seqObj "list" #[] c):=⟨_,get?_update_seq ho (λ_=>#[])⟩
 refine wpAny_bind (seqEpoch_at o1 rfl (wpAny_bind (wpAny_newTuple (wpAny_bind (wpAny_newList (wpAny_holding ?_))))))
 have lt:=tM ho
 have o2:(((z.heap.update a (Obj.mapSeq λ_=>#[])).push (seqObj "tuple" vs.toArray 0)).push (seqObj "list" #[] 0)).get? a=some (seqObj "list" #[] c1):=tu _ (tu _ o1)
 have kp:∀b o,z.heap.get? b=some o->o.cls=.type "tuple"->(((z.heap.update a (Obj.mapSeq λ_=>#[])).push (seqObj "tuple" vs.toArray 0)).push (seqObj "list" #[] 0)).get? b=some o:=λb o e c=>
   tu _ (tu _ ((zai _ _ (Ne.symm (na b o e c))).trans e))
 show wpAny (model P w) B _ R F {z with heap:=((z.heap.update a (Obj.mapSeq λ_=>#[])).push (seqObj "tuple" vs.toArray 0)).push (seqObj "list" #[] 0)}
 dsimp only
 have sv:vs.toArray.size=vs.length:=by simp
 have ends:∀st:SortSt,(arrOf st).map (·.2)=vs.toArray->failedOf st=none->wpAny (model P w) B (do
     let touched:=(<-seqEpoch a) != c1
     Builtin.List.listUpdate (.ref a) λ_=>(arrOf st).map (·.2)
     if let some e:=failedOf st then rule "list.sort.comparison-raised";throw e
     if touched then rule "list.sort.modified";raiseError "ValueError" "list modified during sort"
     ret .none) R F {z with heap:=((z.heap.update a (Obj.mapSeq λ_=>#[])).push (seqObj "tuple" vs.toArray 0)).push (seqObj "list" #[] 0)}:=λst e f=>by
   refine wpAny_bind (seqEpoch_at o2 rfl ?_)
   rw[e,f]
   refine wpAny_bind (listUpdate_at o2 rfl ?_ (hsz2:=by rw[sv,sizeLine_eq];omega))
   simp only[bne_self_eq_false,zaY,if_false]
   exact wpAny_pure k
 by_cases h2:vs.toArray.size < 2
 . rw[if_pos h2,if_pos h2]
   refine wpAny_bind (wpAny_pure ?_)
   rw[StateT.run_pure]
   refine wpAny_bind (wpAny_pure ?_)
   exact ends (SortSt.mk' general' (vs.toArray.zip vs.toArray) #[] 7 none) (X3 vs) rfl
 . rw[if_neg h2,if_neg h2]
   have l2:2<=vs.length:=by omega
   have hv':∀(i:Nat) (v:Value) (q:Int×Int),vs[i]?=some v->ks[i]?=some q->J4 (((z.heap.update a (Obj.mapSeq λ_=>#[])).push (seqObj "tuple" vs.toArray 0)).push (seqObj "list" #[] 0)) v q:=λi v q e1 e2=>(hv i v q e1 e2).keep kp
   obtain⟨fs,tf,lf,hf⟩:=va vs ks hl hv'
   refine wpAny_bind (kat_kind (T:=.type "int") tf (by omega) (λv q=>?_) rfl ?_)
   . obtain⟨i,t,rfl⟩:=hf v q
     exact Looks.of_pure rfl
   . have e:vs.toArray.zip vs.toArray=(zaV (zaa vs.length)).map (kas_item (pairsOf vs)):=by
       have:=kas_range (pairsOf vs)
       rw[pairsOf_size]at this
       exact this.symm
     rw[e]
     have run:kasC (model P w) B F sortRuns' (λ_ st z'=>z'={z with heap:=((z.heap.update a (Obj.mapSeq λ_=>#[])).push (seqObj "tuple" vs.toArray 0)).push (seqObj "list" #[] 0)}/\(arrOf st).map (·.2)=vs.toArray/\failedOf st=none)
         (kas_st (tuples' true) (pairsOf vs) (zaV (zaa vs.length))) {z with heap:=((z.heap.update a (Obj.mapSeq λ_=>#[])).push (seqObj "tuple" vs.toArray 0)).push (seqObj "list" #[] 0)}:=by
       refine kR l2 (λi i1 i2 C hC=>?_) λst e1 e2=>⟨rfl,by rw[e1,<-e];exact X3 vs,e2⟩
       unfold kas_cmp
       rw[kas_item_eq,kas_item_eq]
       have g:∀j,j < vs.length->vs[j]?=some (vs.getD j Value.none):=λj hj=>by simp [hj]
       have gk:∀j,j < vs.length->∃q,ks[j]?=some q:=λj hj=>⟨_,tF (by omega)⟩
       obtain⟨q1,eq1⟩:=gk i i2
       obtain⟨q0,eq0⟩:=gk (i - 1) (by omega)
       have eq1':ks[i - 1+1]?=some q1:=by rw[show i - 1+1=i by omega];exact eq1
       exact VC (hv' i _ q1 (g i i2) eq1) (hv' (i - 1) _ q0 (g (i - 1) (by omega)) eq0) (hr (i - 1) q0 q1 eq0 eq1') hC
     refine wpAny_bind (wpAny_mono run (λr z' h3=>?_) λ_ _ x=>x)
     obtain⟨⟨⟩,st⟩:=r
     obtain⟨rfl,e1,e2⟩:=h3
     exact ends st e1 e2
end
end L2
namespace PySem
def RawD (h:Heap) (d:Addr) (es:Array DictEntry) (ep:Nat):Prop:=∃o,h.get? d=some o/\o.ExactDict/\o.data=.dict es ep
theorem RawD.keep {h h':Heap} {d:Addr} {es:Array DictEntry} {ep:Nat} (x:RawD h d es ep) (k:∀o,h.get? d=some o->h'.get? d=some o):RawD h' d es ep:=let ⟨o,e,r⟩:=x;⟨o,k o e,r⟩
section
variable {P:Program} {w:World} {B:Around} {F':Value->Shared->Prop} {z:Shared} {d I:Addr} {es:Array DictEntry} {ep i:Nat}
theorem RawD.ty (x:RawD z.heap d es ep):z.TypeIs (.ref d) "dict":=let ⟨o,e,c,_⟩:=x;⟨o,e,c.1⟩
theorem xF {R:Value->Shared->Prop} (hd:(d==sysModules)=false) (x:RawD z.heap d es ep)
   (k:R (.ref z.heap.objs.size) {z with heap:=z.heap.push {cls:=.type "dict_keyiterator",data:=.fields #[.ref d,.int 0 0,.int es.size 0,.int ep 0]}}):wpAny (model P w) B (pyIter (.ref d)) R F' z:=by
 have ty:=x.ty
 obtain⟨o,ho,_,dat⟩:=x
 refine wpAny_pyIter_slot ty F.slot_dict_iter (wpAny_call_entry F.slot_dict_iter ty F.entry_dict_iter ?_ (F.args_dict_iter_1 _))
 unfold Builtin.«dict.__iter__»
 refine wpAny_bind (show wpAny _ _ (Builtin.Dict.dictSlotNone _ _) _ _ _ from ?_)
 unfold Builtin.Dict.dictSlotNone
 refine wpAny_bind (wpAny_notOrdered_dict ty (show wpAny _ _ (pure (Value.ref d)) _ _ z from wpAny_pure ?_))
 refine(show wpAny _ _ (Builtin.Dict.showsAll d >>= _) _ _ z from ?_)
 unfold Builtin.Dict.showsAll
 rw[if_neg (by rw[hd];exact tO)]
 refine wpAny_bind (wpAny_pure (wpAny_bind (wpAny_dictEntries ho dat (wpAny_bind (wpAny_dictEpoch ho dat ?_)))))
 exact wpAny_bind (wpAny_newObj_type (wpAny_pure ⟨_,rfl,"dict_keyiterator",_,⟨_,tU _ rfl,rfl⟩,F.slot_dict_keyiterator_next.lookup,by simpa [rawInt] using k⟩))
theorem xE {R:Option Value->Shared->Prop} (hit:z.heap.IsKeyIter I d i es.size ep) (x:RawD z.heap d es ep) (hi:i < es.size)
   (k:∀h',h'.IsKeyIter I d (i+1) es.size ep->Heap.SameBut I z.heap h'->R (some es[i].key) {z with heap:=h'}):wpAny (model P w) B (pyNext (.ref I)) R F' z:=by
 obtain⟨o,ho,hc,hd⟩:=id hit
 obtain⟨od,hod,_,dat⟩:=x
 have ty:=hit.typeIs
 unfold pyNext
 refine wpAny_bind (wpAny_attempt (wpAny_callSpecial?_slot (name:=Str.ofString "__next__") ty F.slot_dict_keyiterator_next (wpAny_call_entry F.slot_dict_keyiterator_next ty F.entry_dict_keyiterator_next ?_ (F.args_dict_keyiterator_next_1 _))))
 refine wpAny_bind (wpAny_pure (wpAny_bind (wpAny_bind (wpAny_bind ?_))))
 first | refine wpAny_typeNameOfWhole_keyiter ty (wpAny_pure (wpAny_bind (wpAny_fieldsOf ho hd ?_))) | refine wpAny_typeNameOf_keyiter ty (wpAny_pure (wpAny_bind (wpAny_fieldsOf ho hd ?_)))
 have own:Builtin.Dict_items.ownsTuple "dict_keyiterator"=false:=by decide
 simp only[own,zaY,if_false]
 show wpAny _ _ (if (Value.ref d==Value.none)=true then _ else _) _ _ z
 rw[if_neg (show ¬((Value.ref d==Value.none)=true) from tO)]
 refine wpAny_bind (wpAny_pure (wpAny_bind (wpAny_dictEntries hod dat ?_)))
 rw[if_neg (by simp)]
 refine wpAny_bind (wpAny_pure (wpAny_bind (wpAny_dictEpoch hod dat ?_)))
 rw[if_neg (by simp)]
 refine wpAny_pure ?_
 simp only[show ¬((i:Int) < 0) from by omega,if_false,zaP,zcV hi]
 refine wpAny_bind (wpAny_bind ?_)
 first | refine wpAny_typeNameOfWhole_keyiter ty (wpAny_pure (wpAny_bind (wpAny_isOneOf_keyiter ty ?_))) | refine wpAny_typeNameOf_keyiter ty (wpAny_pure (wpAny_bind (wpAny_isOneOf_keyiter ty ?_)))
 refine(show wpAny _ _ (setField (.ref I) 1 (rawInt ((i:Int)+1)) >>= _) _ _ z from wpAny_bind (wpAny_setField ho hd (by simp) ?_))
 have hit':(z.heap.update I (Obj.mapFields (·.setIfInBounds 1 (rawInt ((i:Int)+1))))).IsKeyIter I d (i+1) es.size ep:=
   ⟨_,zaG _ ho (Obj.isFreed_of_fields (Obj.data_mapFields hd _)),(Obj.cls_mapFields ..).trans hc,by rw[Obj.data_mapFields hd];simp [rawInt]⟩
 refine wpAny_bind (wpAny_holding (wpAny_bind (wpAny_isOneOf_keyiter (s:={z with heap:=z.heap.update I (Obj.mapFields (·.setIfInBounds 1 (rawInt ((i:Int)+1))))}) hit'.typeIs ?_)))
 refine(show wpAny _ _ (pure es[i].key) _ _ _ from wpAny_pure (wpAny_pure ⟨_,rfl,wpAny_pure (k _ hit' (zcJ.update ..))⟩))
theorem Kp {R:Option Value->Shared->Prop} (hB:B.handled=none) (hit:z.heap.IsKeyIter I d i es.size ep) (x:RawD z.heap d es ep) (hi:es.size<=i)
   (k:∀h',Heap.ExtBut I z.heap h'->R none {z with heap:=h'}):wpAny (model P w) B (pyNext (.ref I)) R F' z:=by
 obtain⟨o,ho,hc,hd⟩:=id hit
 obtain⟨od,hod,_,dat⟩:=x
 have ty:=hit.typeIs
 unfold pyNext
 refine wpAny_bind (wpAny_attempt (wpAny_callSpecial?_slot (name:=Str.ofString "__next__") ty F.slot_dict_keyiterator_next (wpAny_call_entry F.slot_dict_keyiterator_next ty F.entry_dict_keyiterator_next ?_ (F.args_dict_keyiterator_next_1 _))))
 refine wpAny_bind (wpAny_pure (wpAny_bind (wpAny_bind (wpAny_bind ?_))))
 first | refine wpAny_typeNameOfWhole_keyiter ty (wpAny_pure (wpAny_bind (wpAny_fieldsOf ho hd ?_))) | refine wpAny_typeNameOf_keyiter ty (wpAny_pure (wpAny_bind (wpAny_fieldsOf ho hd ?_)))
 have own:Builtin.Dict_items.ownsTuple "dict_keyiterator"=false:=by decide
 simp only[own,zaY,if_false]
 show wpAny _ _ (if (Value.ref d==Value.none)=true then _ else _) _ _ z
 rw[if_neg (show ¬((Value.ref d==Value.none)=true) from tO)]
 refine wpAny_bind (wpAny_pure (wpAny_bind (wpAny_dictEntries hod dat ?_)))
 rw[if_neg (by simp)]
 refine wpAny_bind (wpAny_pure (wpAny_bind (wpAny_dictEpoch hod dat ?_)))
 rw[if_neg (by simp)]
 refine wpAny_pure ?_
 simp only[show ¬((i:Int) < 0) from by omega,if_false,zaP,Array.getElem?_eq_none hi]
 refine wpAny_bind (wpAny_bind ?_)
 first | refine wpAny_typeNameOfWhole_keyiter ty (wpAny_pure ?_) | refine wpAny_typeNameOf_keyiter ty (wpAny_pure ?_)
 refine(show wpAny _ _ (setField (.ref I) 0 .none >>= _) _ _ z from wpAny_bind (wpAny_setField ho hd (by simp) ?_))
 refine(show wpAny _ _ (newExc (.type "StopIteration") [] >>= _) _ _ _ from wpAny_bind ?_)
 simp only[newExc,newTuple]
 refine wpAny_bind (wpAny_newObj_type (wpAny_bind (m:=firstArgMember _ _) (wpAny_of_eq (a:=Value.none) (by first | rfl | (simp only[firstArgMember];rfl)) (wpAny_newObj_type ?_ (by size_fits)))) (by size_fits))
 simp only[raiseNew]
 refine wpAny_bind (wpAny_handled ?_)
 rw[show B.in1.handled=none from hB]
 refine wpAny_bind (wpAny_pure (wpAny_throw ?_))
 refine wpAny_bind (wpAny_isInstance (T:="StopIteration") (b:=true) ⟨_,tU _ rfl,rfl⟩ isSubtype_stop ?_)
 exact wpAny_pure (k _ ((((zcJ.update ..).extBut).push _).push _))
end
open PySem.W
section
variable {P:Program} {w:World} {d:Addr} {es:Array DictEntry} {ep:Nat}
theorem kS {B:Around} (hB:B.handled=none) (I:Addr) (hne:d≠I):Walks P w B I [I,d] [I] es.size (λi v=>∃h:i < es.size,v=es[i].key) (λi h=>h.IsKeyIter I d i es.size ep/\RawD h d es ep) where
 sub:=λb hb=>by simp at hb;simp [hb]
 frame:=λ_ _ _ st k=>⟨st.1.at λo e=>k I (by simp) o e,st.2.keep λo e=>k d (by simp) o e⟩
 item:=λi z R G hi st q=>xE st.1 st.2 hi λh' it' sb=>q _ h' z.toks ⟨hi,rfl⟩ ⟨it',st.2.keep λo e=>sb.extBut d o hne e⟩ λb o hb e=>sb.extBut b o (λx=>hb (by simp [x])) e
 done:=λz R G st q=>Kp hB st.1 st.2 (tE _) λh' eb=>q h' z.toks λb o hb e=>eb b o (λx=>hb (by simp [x])) e
 self:=λ_ _ _ _ st q=>wpAny_pyIter_keyiter st.1 q
theorem Ko (hd:(d==sysModules)=false):KdlSrc P w "dict" d d es.size (λi v=>∃h:i < es.size,v=es[i].key) (λh=>RawD h d es ep) where
 type:=λz x=>x.ty
 there:=λh x=>let ⟨o,e,_⟩:=x;⟨tM e,tM e⟩
 keep:=λh h' x k=>x.keep λo e=>k d (.inl rfl) o e
 notList:=by decide
 notTuple:=by decide
 hint:=λ_ _ _ _ x q=>kdl_hint_dict x.ty q
 iter:=λA z hh x=>⟨_,_,λE Q q=>xF hd x q,kS hh _ (let ⟨o,e,_⟩:=x;tV (tM e)),⟨⟨_,tU _ rfl,rfl,rfl⟩,x.keep λo e=>tu _ e⟩⟩
end
end PySem
namespace L2
open PySem PySem.Spec PySem.W PyProof.Rows
theorem ZS {α β:Type} {G:α->β->Prop}:∀{l:List α} {m:List β},Paired G l m->∀{i:Nat} {a:α},l[i]?=some a->∃b,m[i]?=some b/\G a b
 | _,_,.nil,i,a,e=>by simp at e
 | _,_,.cons r t,0,a,e=>by cases e;exact⟨_,rfl,r⟩
 | _,_,.cons r t,i+1,a,e=>by
   obtain⟨b,eb,g⟩:=ZS t (by simpa using e)
   exact⟨b,by simpa using eb,g⟩
section
variable {X:Cx}
def Ye (k:Int×Int):List qL:=[Sum.inl k.1,Sum.inl k.2]
def R8:List V->Hp->VK->Prop:=λxs H Q=>∃(a:Addr) (kvs:List (List qL×V)) (ks:List (Int×Int)),xs=[.ref a]/\H a=some (.dT kvs)/\kvs.map (·.1)=ks.map Ye/\(∀(i:Nat) (k k':Int×Int),ks[i]?=some k->ks[i+1]?=some k'->Xj k k')/\kvs.length<=1000/\
 ∀(l:Addr) (ps:List Addr),H l=none->ps.length=ks.length->(∀(i:Nat) (p:Addr) (k:Int×Int),ps[i]?=some p->ks[i]?=some k->H p=some (.tup [.int k.1,.int k.2]))->Q (.ref l) (upd H l (.lst (ps.map V.ref)))
theorem Vf:∀(ps:List Addr),qI (ps.map V.ref) (ps.map Value.ref)
 | []=>.nil
 | p::ps=>.cons rfl (Vf ps)
theorem UZ (hc:X.calm=true):Q5 X (.builtin "sorted") R8:=by
 intro pins s σ H xs us Q I r h
 obtain⟨a,kvs,ks,rfl,ea,eks,hr,hz,q⟩:=h
 obtain⟨u,rfl,ru⟩:=Jl r
 cases ru
 obtain⟨_,hsys,ys,pr,o,es,ep,eo,ex,dat,ents,_⟩:=(show qS X.prog X.w H s.heap a (.dT kvs) from I.hok a _ ea)
 have ly:kvs.length=ys.length:=Paired.length pr
 have lk:kvs.length=ks.length:=by simpa using congrArg zaD eks
 have se:es.size=ys.length:=by rw[<-zaB,ents,tj]
 have key:∀i (hi:i < es.size),es[i].key=.ref ((ys.map (·.2.1)).getD i 0):=λi hi=>by
   have e1:es.toList[i]?=some es[i]:=by simp [hi]
   have hy:i < ys.length:=by omega
   rw[ents,tH,tF hy]at e1
   have e2:=(tN.inj e1).symm
   rw[e2]
   show Value.ref ys[i].2.1=_
   simp [hy]
 have tup:∀(i:Nat) (p:Addr) (k:Int×Int),(ys.map (·.2.1))[i]?=some p->ks[i]?=some k->H p=some (.tup [.int k.1,.int k.2]):=λi p k e1 e2=>by
   rw[tH]at e1
   cases ey:ys[i]? with
   | none=>rw[ey]at e1;cases e1
   | some y=>
     rw[ey]at e1
     have ep':y.2.1=p:=tN.inj e1
     have hi:i < kvs.length:=by
       have:=(tw.mp ey).1
       omega
     obtain⟨y',ey',g1,g2,_⟩:=ZS pr (tF hi)
     rw[ey]at ey'
     cases ey'
     have ek:kvs[i].1=Ye k:=by
       have h1:(kvs.map (·.1))[i]?=some kvs[i].1:=by rw[tH,tF hi];rfl
       rw[eks,tH,e2]at h1
       exact(tN.inj h1).symm
     rw[ek,ep']at g2
     exact g2
 have hh:X.A.in1.handled=none:=I.ok.hd hc
 refine Calls.call_function_entry kind_sorted plain_sorted entry_sorted (args_sorted1 _) ?_
 unfold Builtin.«sorted»
 refine wpAny_bind (m:=checkCount "sorted" 1 1 _) (wpAny_pure ?_)
 refine wpAny_bind (kdu_collect (Ko (es:=es) (ep:=ep) hsys) hh ⟨o,eo,ex,dat⟩ (by rw[se,sizeLine_eq];omega) λh1 tk acc k1 it=>?_)
 have eacc:acc.toList=(ys.map (·.2.1)).map Value.ref:=by
   refine zdb λi=>?_
   by_cases hi:i < es.size
   . have ha:i < acc.size:=by rw[it.1];exact hi
     have e1:acc[i]?=some acc[i]:=zcV ha
     obtain⟨h',e2⟩:=it.2 i _ e1
     rw[Array.getElem?_toList,e1,e2,key i hi,tH]
     have hy:i < (ys.map (·.2.1)).length:=by rw[tj];omega
     rw[tF hy]
     simp [zax,tF hy]
   . rw[zbh (by rw[zaB,it.1];omega),zbh (by rw[tj,tj];omega)]
 rw[eacc]
 generalize hps:ys.map (·.2.1)=ps at eacc tup key
 have lp:ps.length=ks.length:=by rw[<-hps,tj];omega
 refine wpAny_bind (wpAny_newList ?_)
 have I1:qF X pins σ H {s with heap:=h1,toks:=tk}:=I.kept (t':=tk) k1
 show wpAny _ _ _ _ _ {s with heap:=h1.push (seqObj "list" (ps.map Value.ref).toArray 0),toks:=tk}
 have oL:(h1.push (seqObj "list" (ps.map Value.ref).toArray 0)).get? h1.objs.size=some (seqObj "list" (ps.map Value.ref).toArray 0):=tU _ rfl
 have pa:∀(i:Nat) (v:Value) (k:Int×Int),(ps.map Value.ref)[i]?=some v->ks[i]?=some k->J4 (h1.push (seqObj "list" (ps.map Value.ref).toArray 0)) v k:=λi v k e1 e2=>by
   rw[tH]at e1
   cases ep1:ps[i]? with
   | none=>rw[ep1]at e1;cases e1
   | some p=>
     rw[ep1]at e1
     obtain rfl:=(tN.inj e1).symm
     obtain⟨its,rv,⟨ob,eb,cb,nb,db⟩,_⟩:=I1.tuple (.of (tup i p k ep1 e2):YM X.K H p _)
     cases rv with
     | cons r1 rv=>
       cases rv with
       | cons r2 rv=>
         cases rv
         obtain⟨t1,rfl⟩:=r1
         obtain⟨t2,rfl⟩:=r2
         exact⟨p,ob,nb,t1,t2,rfl,tu _ eb,cb,db⟩
 refine wpAny_bind (wpAny_holding (wpAny_call_entry slot_list_sort ⟨_,oL,rfl⟩ entry_list_sort (kI oL (by rw[tj];exact lp) pa hr (by rw[tj];omega) ⟨_,rfl,?_⟩) (args_list_sort _)))
 refine wpAny_pure ⟨_,rfl,?_⟩
 have lne:∀b o,h1.get? b=some o->b≠h1.objs.size:=λb o e=>tV (tM e)
 have kf:∀b o,h1.get? b=some o->(sortedHeap (h1.push (seqObj "list" (ps.map Value.ref).toArray 0)) h1.objs.size (ps.map Value.ref) (ps.map Value.ref).toArray).get? b=some o:=λb o e=>by
   unfold sortedHeap
   rw[zai _ _ (Ne.symm (lne b o e))]
   exact tu _ (tu _ ((zai _ _ (Ne.symm (lne b o e))).trans (tu _ e)))
 obtain⟨c2,o2⟩:∃c,((h1.push (seqObj "list" (ps.map Value.ref).toArray 0)).update h1.objs.size (Obj.mapSeq λ_=>#[])).get? h1.objs.size=some (seqObj "list" #[] c):=⟨_,get?_update_seq oL (λ_=>#[])⟩
 obtain⟨c3,o3⟩:∃c,(sortedHeap (h1.push (seqObj "list" (ps.map Value.ref).toArray 0)) h1.objs.size (ps.map Value.ref) (ps.map Value.ref).toArray).get? h1.objs.size=some (seqObj "list" (ps.map Value.ref).toArray c):=
   ⟨_,get?_update_seq (tu _ (tu _ o2)) (λ_=>(ps.map Value.ref).toArray)⟩
 refine⟨.ref h1.objs.size,_,I1.laid (t':=tk) (o:=.lst (ps.map V.ref)) kf (tE _) ⟨by rw[tj,lp,<-lk];exact zag (qp hz),_,c3,Vf ps,o3⟩,rfl,?_⟩
 exact q _ ps (I1.hok.fresh (tE _)) lp tup
end
section
variable {X:Cx}
def qba:V->Option Int->Option Int->Hp->VK->Prop:=λx lo hi H Q=>∃(z:Str) (j:Int),x=.str z/\lo=none/\hi=some j/\z.length<=1000/\Q (.str (Txt.slice z none (some j))) H
theorem xm:SlR X qba:=by
 intro pins s σ H x v vl vu lo hi sl Q I rx hs pl pu h
 obtain⟨z,j,rfl,rfl,rfl,hz,q⟩:=h
 obtain⟨t,rfl⟩:=rx
 refine⟨"str",_,PySem.F.slot_str_getitem.lookup,typeIs_str _ _ _,?_⟩
 cases pl
 cases pu
 exact wpAny_getItem_str_slice (l:=none) (u:=some (j,_)) (st:=none) hs rfl (post_val_or_str ⟨zac (Txt.slice_le z none (some j)) (zag (qp hz)),λt' k=>⟨.str _,H,I.tok k,⟨t',rfl⟩,q⟩⟩)
theorem YU (z:Str) (j:Nat):(Txt.slice z none (some (j:Int))).cps.toList=z.cps.toList.take j:=by
 have hl:z.cps.toList.length=z.length:=zaB
 have idx:Builtin.Str.strSliceIndices none (some (j:Int)) 1 z.length=(zaa (min j z.length)).map (0+·):=by
   have e:Builtin.Str.strSliceIndices none (some (j:Int)) 1 z.length=sliceRange ((0:Nat):Int) ((min j z.length:Nat):Int) 1:=by
     unfold Builtin.Str.strSliceIndices
     simp only[show (1:Int) > 0 by decide,if_true,show ¬((j:Int) < 0) by omega,if_false]
     congr 1
     omega
   rw[e,sliceRange_one]
   rfl
 unfold Txt.slice
 rw[idx]
 split
 . rename_i h
   have hm:min j z.length=z.length:=by simpa using h
   rw[tG]
   omega
 . rw[pick_run]
   show (z.cps.toList.drop 0).take (min j z.length)=_
   rw[zcQ]
   by_cases hj:j<=z.length
   . rw[zcg hj]
   . rw[zdg (by omega),tG (by omega),tG (by omega)]
def Rj (n:Nat):List V:=(zaa n).map λi=>V.int (i:Nat)
def tLr (te:TE):TE:=λσ H Q=>te σ H λx H1=>∃n:Nat,x=.int n/\n<=1000/\∀l,H1 l=none->Q (.ref l) (upd H1 l (.lst (Rj n)))
theorem uL {n:Nat} {acc:Array Value} (h:ItemsOf (λi v=>∃t,v=.int (0+i*1) t) acc n):qI (Rj n) acc.toList:=by
 obtain⟨hz,hv⟩:=h
 refine kX _ _ (by simp [Rj,hz]) λi x u h1 h2=>?_
 have h2':acc[i]?=some u:=by simpa using h2
 obtain⟨t,rfl⟩:=hv i u h2'
 have hi:i < n:=by
   have:=(zay.mp h2').1
   omega
 unfold Rj at h1
 rw[tH,zbB hi]at h1
 obtain rfl:=(tN.inj h1).symm
 refine⟨t,?_⟩
 congr 1
 omega
variable {e:Expr} {te:TE} {p1 p3 pos1 pos3:Pos}
theorem qaj (hc:X.calm=true) (g1:Gl X "list") (m1:X.mg "list"=none) (g3:Gl X "range") (m3:X.mg "range"=none) (ha:JE X e te) (hs:starEach [e] X.env=[(false,eval e X.env)]:=by rfl) (hs2:starEach [.Call (.Name "range" p3) [e] [] pos3] X.env=[(false,eval (.Call (.Name "range" p3) [e] [] pos3) X.env)]:=by rfl):JE X (.Call (.Name "list" p1) [.Call (.Name "range" p3) [e] [] pos3] [] pos1) (tLr te):=.of (by
 have ha:=ha.to
 intro pins s σ H Q I h
 refine Call_ (QW I g1 m1 boot_list (PyProof.Rows.callWith_type1 (kG hs2 ?_) (by rw[hs2];rfl) rfl))
 refine Call_ (QW I g3 m3 boot_range (PyProof.Rows.callWith_type1 (kG hs (jk (ha pins s σ H _ I h) λu s1 ⟨x,H1,I1,r1,q1⟩=>?_)) (by rw[hs];rfl) rfl))
 obtain⟨n,rfl,hn,q⟩:=q1
 obtain⟨t,rfl⟩:=r1
 refine call_range_1 ?_
 refine call_list_range (n:=n) (I1.ok.hd hc) (IsRange.new ..) (small_one (by omega) (by omega) (by omega) (by omega)) (vH n) (by omega) λh' tk acc' c' kp e hi=>?_
 have s1z:s1.heap.objs.size<=(s1.heap.push ({cls:=.type "range",data:=.fields #[.int 0 s1.toks,.int n t,.int 1 (s1.toks+1)]}:Obj)).objs.size:=by
   rw[zbn]
   omega
 exact⟨.ref _,_,I1.laid (t':=tk) (o:=.lst (Rj n)) (λb o eb=>kp b o (tu _ eb)) s1z ⟨by simp only[Rj,tj,zam];exact zag (qp hn),acc'.toList,c',uL hi,by simpa using e⟩,rfl,q _ (I1.hok.fresh s1z)⟩)
theorem yH (hc:X.calm=true):Q5 X (.type "set") (λxs H Q=>∃(p:Addr) (ns:List Int),xs=[.ref p]/\SqL X.K H p (ns.map V.int)/\ns.length<=1000/\∀l S,H l=none->Q (.ref l) (upd H l (.set S (firstMet (λi=>ns.getD i 0) ns.length).length))):=by
 intro pins s σ H xs us Q I r h
 obtain⟨p,ns,rfl,hq,hz,q⟩:=h
 obtain⟨u,rfl,ru⟩:=Jl r
 cases ru
 obtain⟨its,rv,pl,_⟩:=I.list hq
 have hl:=rv.length
 rw[tj]at hl
 have hsz:its.toArray.size=ns.length:=by rw[t7,<-hl]
 refine call_set_list (ns:=ns) (I.ok.hd hc) pl.isList (by simpa using US rv) (by rw[hsz];show ns.length+1 < 4096;omega) λh' tk so kp=>?_
 rw[hsz]at so
 exact⟨.ref s.heap.objs.size,_,I.laid (t':=tk) (o:=.set _ _) (λb o e=>kp b o (tM e) e) (tE _) so,rfl,q _ _ (I.hok.fresh (tE _))⟩
theorem V9:Q5 X (.builtin "len") (λxs H Q=>∃a S n,xs=[V.ref a]/\H a=some (.set S n)/\Q (.int (n:Nat)) H):=by
 intro pins s σ H xs us Q I r h
 obtain⟨a,S,n,rfl,ea,q⟩:=h
 obtain⟨u,rfl,ru⟩:=Jl r
 cases ru
 obtain⟨o,es,ep,t,e1,e2,e3,_,_,b,f,rfl⟩:=(show qS X.prog X.w H s.heap a (.set S n) from I.hok a _ ea)
 refine call_len_set e1 e2 e3 f (by have:es.size < 4096:=b;omega) ⟨.int _,H,I.tok _,⟨_,rfl⟩,q⟩
end
open PySem PySem.Spec PyProof.Rows
def Ite (K:PySem.W.Frag) (a:Addr):It:=⟨λi H=>∃xs x,SqL K H a xs/\xs[i]?=some x,
 λi H v H'=>∃p,H p=none/\v=.ref p/\∀xs x,SqL K H a xs->xs[i]?=some x->H'=upd H p (.tup [.int (i:Nat),x]),
 λi H=>∃xs,SqL K H a xs/\xs.length<=i⟩
theorem kB {P:Program} {w:World} {K:PySem.W.Frag} {elts:List Expr} {x1:Nat} {tpos:Pos} (a e it:Addr) (hne:e≠it):
   Uc P w K (.Tuple elts x1 tpos) (Ite K a) [e,it] e (λi h=>(∃old,IsEnum h e it i old)/\h.IsListIter it a i) where
 mem:=by simp
 obj:=λi h st c hc=>by
   obtain⟨⟨old,he⟩,⟨o1,e1,c1,d1⟩⟩:=st
   simp only[tY,zbu,or_false]at hc
   rcases hc with rfl | rfl
   . exact⟨_,he,λv z=>by cases z⟩
   . exact⟨o1,e1,λv z=>by rw[d1]at z;cases z⟩
 keep:=λi h h' st k=>by
   obtain⟨⟨old,he⟩,h1⟩:=st
   exact⟨⟨old,k e (by simp) _ he⟩,h1.at λo e=>k it (by simp) o e⟩
 item:=by
   intro X hP hw hK hc i pins s σ H E I hf st hg
   subst hP hw hK
   obtain⟨⟨old,he⟩,h1⟩:=st
   obtain⟨xs,x,qa,hx⟩:=hg
   obtain⟨its,rv,p,_⟩:=I.list qa
   obtain⟨u,hu,ru⟩:=rv.get hx
   refine wpAny_pyNext_enum_item he h1 p.isList (x:=u) (by simpa using hu) hne λh' z1 z2 z3 z4 kk=>⟨_,rfl,?_⟩
   refine wpAny_letOwnedTupleGo_enum z1 λh'' z1' sb=>?_
   have nT:∀c o,s.heap.get? c=some o->s.heap.objs.size≠c:=λc o e=>zbG (tM e)
   have kT:∀c o,c≠e->h'.get? c=some o->h''.get? c=some o:=λc o hc e=>(sb.2 c hc).trans e
   have I1:qF X pins σ (upd H s.heap.objs.size (.tup [.int (i:Nat),x])) {s with heap:=h'',toks:=s.toks+1}:=I.turnLaid (L:=[e,it]) (t':=s.toks+1)
     (λc o hc e=>kT c o (λz=>hc (by simp [z])) (kk c o (λz=>hc (by simp [z])) (λz=>hc (by simp [z])) e)) hf (tE _)
     ⟨by show 2<=sizeLine;decide,[.int i s.toks,u],.cons ⟨_,rfl⟩ (.cons ru .nil),⟨_,kT _ _ (nT _ _ he) z3,rfl,_,rfl⟩⟩
   refine⟨.ref s.heap.objs.size,_,I1,rfl,⟨s.heap.objs.size,I.hok.fresh (tE _),rfl,λxs' x' qa' hx'=>?_⟩,⟨⟨_,z1'⟩,z2.at λo e=>kT _ o (Ne.symm hne) e⟩,λc hc=>?_⟩
   . rw[I.list_inj qa' qa,hx]at hx'
     cases hx'
     rfl
   . have h0:=(hf c hc).1
     by_cases ec:c=s.heap.objs.size
     . subst ec
       obtain⟨o1,e1,_⟩:=h1
       simp only[tY,zbu,or_false]at hc
       rcases hc with e | e
       . exact absurd e (nT _ _ he)
       . exact absurd e (nT _ _ e1)
     . rw[qi ec];exact h0
 done:=by
   intro X hP hw hK hc i pins s σ H E I hf st hg
   subst hP hw hK
   obtain⟨⟨old,he⟩,h1⟩:=st
   obtain⟨xs,qa,hl⟩:=hg
   obtain⟨its,rv,p,_⟩:=I.list qa
   have l1:=rv.length
   exact wpAny_pyNext_enum_end (I.ok.hd hc) he h1 p.isList (by simp;omega) λh' kk=>⟨rfl,I.turnedL (L:=[e,it]) (t':=s.toks) (λc o hc e=>kk c o (λz=>hc (by simp [z])) e) hf⟩
 self:=λ_ _ _ _ _ st h=>let ⟨⟨_,he⟩,_⟩:=st;wpAny_pyIter_enum he h
section
variable {X:Cx} {elts:List Expr} {x1:Nat} {tpos:Pos}
def qao (K:PySem.W.Frag) (ta:TA):TI:=λσ H R=>ta σ H λvs H1=>∃a,vs=[.ref a]/\(∃xs,SqL K H1 a xs)/\R (Ite K a) H1
theorem YG {a:Expr} {ta:TA} {p pos:Pos} (hg:Gl X "enumerate") (hm:X.mg "enumerate"=none) (ha:JA X [a] ta) (hs:starEach [a] X.env=[(false,eval a X.env)]:=by rfl):JI X (.Tuple elts x1 tpos) (.Call (.Name "enumerate" p) [a] [] pos) (qao X.K ta):=.of (by
 have ha:=ha.to
 intro pins s σ H R I h
 refine Call_ (QW I hg hm boot_enumerate (PyProof.Rows.callWith_type1 (jk (ha pos pins s σ H _ I h) λus s1 ⟨vs,H1,I1,r1,q1⟩=>?_) (by rw[hs];rfl) rfl))
 obtain⟨l,e,⟨xs,qa⟩,q⟩:=q1
 subst e
 cases r1 with
 | cons r rr=>
   cases rr
   cases r
   obtain⟨its,rv,p,_⟩:=I1.list qa
   refine call_enumerate_list p.isList λh' z1 z2 z3 kk=>?_
   refine wpAny_pyIter_enum z1 ?_
   have I2:qF X pins σ H1 {s1 with heap:=h'}:=I1.kept (t':=s1.toks) kk
   have fr:∀c,s1.heap.objs.size<=c->Jz X pins H1 c:=λc hc=>I1.fpOk hc (I1.hok.fresh hc)
   refine⟨s1.heap.objs.size+1,[s1.heap.objs.size+1,s1.heap.objs.size],_,_,H1,rfl,I2,kB l (s1.heap.objs.size+1) s1.heap.objs.size (Nat.succ_ne_self _),⟨⟨_,z1⟩,z2⟩,λc hc=>?_,q⟩
   simp only[tY,zbu,or_false]at hc
   rcases hc with e | e<;>rw[e]<;>first | exact fr _ (Nat.le_add_right _ _) | exact fr _ (tE _))
end
theorem zr {K:PySem.W.Frag} {a:Addr} {xs:List V} {g:TG} {tb:TS} {D:J6} {σ:St} {H:Hp} (Pv:Nat->St->Hp->Prop) (h0:Pv 0 σ H) (hl:∀i σ H,i<=xs.length->Pv i σ H->SqL K H a xs)
   (hs:∀i x σ H p,xs[i]?=some x->H p=none->Pv i σ H->g (.ref p) σ (upd H p (.tup [.int (i:Nat),x])) λσ2 H2=>tb {D with nx:=Pv (i+1),ct:=Pv (i+1),bk:=D.nx} σ2 H2) (hd:∀σ H,Pv xs.length σ H->D.nx σ H):
   ∃W:Nat->Nat->St->Hp->Prop,(∃m,W 0 m σ H)/\∀i m σ H,W i m σ H->
    ((Ite K a).stop i H/\D.nx σ H)\/((Ite K a).go i H/\∃N:St->Hp->Prop,(∀σ' H',N σ' H'->∃m',m' < m/\W (i+1) m' σ' H')/\∀x H',(Ite K a).yld i H x H'->g x σ H' λσ2 H2=>tb {D with nx:=N,ct:=N,bk:=D.nx} σ2 H2):=by
 refine⟨λi m σ H=>m=xs.length - i/\i<=xs.length/\Pv i σ H,⟨xs.length,by simp,zat _,h0⟩,?_⟩
 rintro i m σ H ⟨rfl,hi,p⟩
 have qa:=hl i σ H hi p
 by_cases hlt:i < xs.length
 . have ex:xs[i]?=some xs[i]:=tF hlt
   refine .inr ⟨⟨xs,_,qa,ex⟩,Pv (i+1),λσ' H' p'=>⟨xs.length - (i+1),by omega,rfl,hlt,p'⟩,λx H' yl=>?_⟩
   obtain⟨pp,hp,rfl,e⟩:=yl
   rw[e xs _ qa ex]
   exact hs i _ σ H pp ex hp p
 . have e:i=xs.length:=by omega
   subst e
   exact .inl ⟨⟨xs,qa,tE _⟩,hd σ H p⟩
theorem Zh (ns:List Nat):∀i,i<=ns.length->preSum (λj=>((ns.getD j 0:Nat):Int)) i=(((ns.take i).sum:Nat):Int)
 | 0,_=>by simp [preSum]
 | i+1,h=>by
   have hi:i < ns.length:=h
   show preSum _ i+_=_
   rw[Zh ns i (zag hi),tQ,tF hi,zch]
   simp [zax,tF hi]
theorem Ya (ns:List Nat) (i:Nat):(ns.take i).sum<=ns.sum:=by
 have h:(ns.take i++ns.drop i).sum=ns.sum:=by rw[List.take_append_drop]
 rw[zch]at h
 omega
theorem VY (ns:List Nat) (i:Nat):ns.getD i 0<=ns.sum:=by
 have h:=Ya ns (i+1)
 rw[tQ,zch]at h
 rw[zax]
 cases e:ns[i]? with
 | none=>exact zat _
 | some x=>
   rw[e]at h
   simp at h ⊢
   omega
section
variable {X:Cx}
theorem zX (hc:X.calm=true):Q5 X (.builtin "sum") (λxs H Q=>∃(p:Addr) (ns:List Nat),xs=[.ref p]/\SqL X.K H p (ns.map λn=>V.int ((n:Nat):Int))/\ns.sum < 2^62/\Q (.int (ns.sum:Nat)) H):=by
 intro pins s σ H xs us Q I r h
 obtain⟨p,ns,rfl,hq,hs,q⟩:=h
 obtain⟨u,rfl,rx⟩:=Jl r
 cases rx
 obtain⟨its,rv,pl,hz⟩:=I.list hq
 have hlt:p < s.heap.objs.size:=by
   obtain⟨o,n,e,_⟩:=pl
   exact tM e
 have hn:its.toArray.size=ns.length:=by
   have:=rv.length
   rw[tj]at this
   simp only[t7]
   omega
 have hh:X.A.in1.handled=none:=I.ok.hd hc
 refine call_sum_walk (wpAny_pyIter_list pl.isList ?_)
 refine⟨s.heap.objs.size,[s.heap.objs.size,p],[s.heap.objs.size],its.toArray.size,λi v=>its.toArray[i]?=some v,_,λj=>((ns.getD j 0:Nat):Int),rfl,Walks.list hh s.heap.objs.size p (tV hlt) its.toArray,
   ⟨⟨_,tU _ rfl,rfl,rfl⟩,pl.isList.at λo e=>tu _ e⟩,?_,?_,?_,λh' tk t' hk=>?_⟩
 . intro b hb
   show b < (s.heap.push _).objs.size
   rw[zbn]
   simp only[tY,zbu,or_false]at hb
   rcases hb with e | e
   . rw[e];exact zaJ _
   . rw[e];exact zbP hlt
 . intro i v hP
   have hi:its[i]?=some v:=by simpa using hP
   cases e:ns[i]? with
   | none=>
     exfalso
     have h1:(ns.map λn=>V.int ((n:Nat):Int))[i]?=none:=by rw[tH,e];rfl
     rw[qI.none_of rv h1]at hi
     cases hi
   | some b=>
     have h1:(ns.map λn=>V.int ((n:Nat):Int))[i]?=some (V.int b):=by rw[tH,e];rfl
     obtain⟨u,hu,ru⟩:=rv.get h1
     rw[hi]at hu
     cases hu
     obtain⟨t,rfl⟩:=ru
     refine⟨t,?_⟩
     show Value.int b t=.int ((ns.getD i 0:Nat):Int) t
     rw[zax,e]
     rfl
 . intro j hj
   rw[hn]at hj
   have h1:=VY ns j
   have h2:=Ya ns (j+1)
   have h3:=Zh ns (j+1) hj
   refine⟨⟨?_,?_⟩,⟨?_,?_⟩⟩
   . show -(2^63)<=((ns.getD j 0:Nat):Int)
     omega
   . show ((ns.getD j 0:Nat):Int) < 2^63
     omega
   . rw[h3];omega
   . rw[h3];omega
 . rw[hn,Zh ns _ (tE _),tG (tE _)]
   refine⟨.int (ns.sum:Nat),H,?_,⟨_,rfl⟩,q⟩
   exact I.kept (h':=h') (t':=tk) λb o e=>hk b o (by
     intro z
     have z':b=s.heap.objs.size:=by simpa using z
     exact absurd (tM e) (by rw[z'];exact zar _)) (tu _ e)
end
open PySem PySem.Spec PyProof.Rows
structure yL (fs:List Addr) (ex:List Addr) (h h':Heap):Prop where
 keep:∀b o,b∉fs->b∉ex->h.get? b=some o->h'.get? b=some o
 slot:∀b o,b∈fs->b∉ex->h.get? b=some o->∃sl,h'.get? b=some {o with slots:=sl}
def RG (T:Addr) (fl:Value) (h:Heap):Prop:=∃ts,h.get? T=some {cls:=.type "traceback",data:=.fields ts}/\ts[3]?=some fl
section
variable {M:Model} {A:Around} {E:Value->Shared->Prop} {s:Shared} {base:Heap} {env:Env} {outer:List Env} {L e:Addr} {cl head:Value} {d:Option Addr} {vs:Array Value} {had:Bool} {Q:Unit->Shared->Prop}
theorem yT (fr:A.frames=some (env::outer)) (ff:s.heap.FunFrames base (env::outer)) (fm:env.frame=some L)
   (he:s.heap.get? e=some {cls:=cl,dict:=d,data:=.fields vs}) (sz:1 < vs.size)
   (k:∀h' T,s.heap.objs.size<=T->yL (XG (env::outer)) [e] s.heap h'->h'.get? e=some {cls:=cl,dict:=d,data:=.fields (vs.setIfInBounds 1 (.ref T))}->RG T (rawInt L) h'->Q () {s with heap:=h'}):
   wpAny M A (frameOf env >>= λa=>entryPlaceOf L had >>= λpl=>EntryCells.newEntry head a .none (rawInt L) .none pl >>= λb=>setField (.ref e) 1 b) Q E s:=by
 have out:e∉XG (env::outer):=λz=>by
   obtain⟨_,o,ho,nf⟩:=ff.mem z
   rw[he]at ho
   cases ho
   exact nf vs rfl
 refine wpAny_bind (wpAny_frameOf_fun fr ff fm λh1 so=>?_)
 refine wpAny_bind (wpAny_entryPlaceOf λpl ip=>?_)
 have e1:h1.get? e=some {cls:=cl,dict:=d,data:=.fields vs}:=(so.2.1 e out).trans he
 unfold EntryCells.newEntry newFields
 refine wpAny_bind (wpAny_newObj_type ?_ (ip.sizeOk5 _ _ _ _ _))
 have ne:e≠h1.objs.size:=tV (tM e1)
 refine wpAny_setField (tu _ e1) rfl sz (k _ h1.objs.size (zdk so.1.symm) ⟨λb o n1 n2 q=>?_,λb o n1 n2 q=>?_⟩ ?_ ⟨_,(zai _ _ ne).trans (tU _ rfl),?_⟩)
 . have n3:b≠e:=λz=>n2 (by simp [z])
   rw[zai _ _ (Ne.symm n3)]
   exact tu _ ((so.2.1 b n1).trans q)
 . have n3:b≠e:=λz=>n2 (by simp [z])
   obtain⟨sl,r⟩:=so.2.2 b o q
   exact⟨sl,by rw[zai _ _ (Ne.symm n3)];exact tu _ r⟩
 . exact zaG _ (tu _ e1) rfl
 . rcases ip with rfl | ⟨_,_,_,_,_,_,_,rfl⟩<;>simp
theorem wq (fr:A.frames=some (env::outer)) (ff:s.heap.FunFrames base (env::outer)) (fm:env.frame=some L)
   (he:s.heap.get? e=some {cls:=cl,dict:=d,data:=.fields vs}) (h1:vs[1]?=some .none)
   (k:∀h' T,s.heap.objs.size<=T->yL (XG (env::outer)) [e] s.heap h'->h'.get? e=some {cls:=cl,dict:=d,data:=.fields (vs.setIfInBounds 1 (.ref T))}->RG T (rawInt L) h'->Q () {s with heap:=h'}):
   wpAny M A (noteFrame (.ref e) env) Q E s:=by
 unfold noteFrame
 simp only[fm]
 refine wpAny_bind (wpAny_field he rfl h1 ?_)
 rw[if_neg (show ¬((Value.none != Value.none)=true) by decide)]
 exact yT fr ff fm he (zay.mp h1).1 k
theorem K0 {T:Addr} (fr:A.frames=some (env::outer)) (ff:s.heap.FunFrames base (env::outer)) (fm:env.frame=some L)
   (he:s.heap.get? e=some {cls:=cl,dict:=d,data:=.fields vs}) (h1:vs[1]?=some (.ref T)) (st:RG T .none s.heap) (ne:T≠e)
   (k:∀h' T',s.heap.objs.size<=T'->yL (XG (env::outer)) [e,T] s.heap h'->(∃o,h'.get? T=some o)->h'.get? e=some {cls:=cl,dict:=d,data:=.fields (vs.setIfInBounds 1 (.ref T'))}->RG T' (rawInt L) h'->Q () {s with heap:=h'}):
   wpAny M A (noteFrame (.ref e) env) Q E s:=by
 obtain⟨ts,ht,h3⟩:=st
 unfold noteFrame
 simp only[fm]
 refine wpAny_bind (wpAny_field he rfl h1 ?_)
 rw[if_pos (show (Value.ref T != Value.none)=true by simp)]
 refine wpAny_bind (wpAny_field ht rfl h3 ?_)
 rw[if_neg (show ¬((Value.none==rawInt L)=true) by simp [rawInt])]
 refine wpAny_bind (wpAny_setField ht rfl (zay.mp h3).1 ?_)
 have oth:∀b,b≠T->(s.heap.update T (Obj.mapFields (·.setIfInBounds 3 Value.none))).get? b=s.heap.get? b:=λb n=>zai _ _ (Ne.symm n)
 have tno:T∉XG (env::outer):=λz=>by
   obtain⟨_,o,ho,nf⟩:=ff.mem z
   rw[ht]at ho
   cases ho
   exact nf ts rfl
 refine yT fr (ff.of_keeps λb o hb nf=>⟨o,(oth b λz=>?_).trans hb,rfl⟩) fm ((oth e (Ne.symm ne)).trans he) (zay.mp h1).1 λh' T' hT F q1 q2=>?_
 . rw[z,ht]at hb
   cases hb
   exact nf ts rfl
 . have upT:=zaG (Obj.mapFields (·.setIfInBounds 3 Value.none)) ht rfl
   refine k h' T' (zac (zdk (by simp)) hT) ⟨λb o n1 n2 q=>?_,λb o n1 n2 q=>?_⟩ ⟨_,F.keep T _ tno (by simp [ne]) upT⟩ q1 q2
   . simp only[tY,zba,or_false,not_or]at n2
     exact F.keep b o n1 (by simp [n2.1]) ((oth b n2.2).trans q)
   . simp only[tY,zba,or_false,not_or]at n2
     exact F.slot b o n1 (by simp [n2.1]) ((oth b n2.2).trans q)
theorem Xs {T:Addr} {fl:Value} {fs:List Addr} (he:s.heap.get? e=some {cls:=cl,dict:=d,data:=.fields vs}) (h1:vs[1]?=some (.ref T)) (st:RG T fl s.heap)
   (k:∀h',yL fs [T] s.heap h'->RG T .none h'->Q () {s with heap:=h'}):wpAny M A (setFlight (.ref e) none) Q E s:=by
 obtain⟨ts,ht,h3⟩:=st
 have lt:=(zay.mp h3).1
 refine wpAny_setFlight_none he rfl h1 ht rfl lt (k _ ⟨λb o _ n q=>?_,λb o _ n q=>⟨o.slots,?_⟩⟩ ⟨_,zaG _ ht rfl,by simp [lt]⟩)
 all_goals
   rw[zai _ _ λz=>n (by simp [z])]
   exact q
end
structure XC (ex:List Addr) (n:Nat) (H H':Hp):Prop where
 ext:∀b∈ex,∃φ,H b=some (.ext φ)
 same:∀b o,b∉ex->H b=some o->H' b=some o
 no:∀b,b < n->H b=none->H' b=none
section
variable {P:Program} {w:World} {fs ex:List Addr} {H H':Hp} {h h':Heap}
theorem XC.out {n:Nat} (t:XC ex n H H') {b:Addr} {o:HO} (q:H b=some o) (hn:∀φ,o≠.ext φ):b∉ex:=λz=>by
 obtain⟨φ,e⟩:=t.ext b z
 rw[q]at e
 cases e
 exact hn φ rfl
theorem XC.out0 {n:Nat} (t:XC ex n H H') {b:Addr} (q:H b=none):b∉ex:=λz=>by
 obtain⟨φ,e⟩:=t.ext b z
 rw[q]at e
 cases e
theorem Un.fly (F:yL fs ex h h') (t:XC ex h.objs.size H H') (th:∀b∈ex,∃o,h'.get? b=some o):Un fs [] H H' h h' where
 keep b o q n hf _:=F.keep b o hf (t.out0 n) q
 slot b o q n hf _:=F.slot b o hf (t.out0 n) q
 free b o q n _:=t.no b (tM q) n
 there b o q _:=by
   by_cases hb:b∈ex
   . exact th b hb
   . by_cases hf:b∈fs
     . obtain⟨sl,r⟩:=F.slot b o hf hb q
       exact⟨_,r⟩
     . exact⟨o,F.keep b o hf hb q⟩
 tups b xs q:=t.same b _ (t.out q (by intro φ z;cases z)) q
 frzs b o u q:=t.same b _ (t.out q (by intro φ z;cases z)) q
 tbls b ps q:=⟨#[],by simpa using t.same b _ (t.out q (by intro φ z;cases z)) q⟩
theorem J5.fly (ok:J5 P w H h) (F:yL fs ex h h') (t:XC ex h.objs.size H H') (fr:∀b∈fs,H b=none) (new:∀b o,H' b=some o->(H b=none\/b∈ex)->qS P w H' h' b o):J5 P w H' h':=λb o q=>by
 by_cases hb:b∈ex
 . exact new b o q (.inr hb)
 cases e:H b with
 | none=>exact new b o q (.inl e)
 | some u=>
   have r:=t.same b u hb e
   rw[q]at r
   cases r
   refine(ok b o e).stay (λc v hc g=>F.keep c v ?_ ?_ g) (λc z=>t.same c _ (t.out z (by intro φ z;cases z)) z) (λc xs z=>t.same c _ (t.out z (by intro φ z;cases z)) z) (λc o z=>t.same c _ (t.out z (by intro φ z;cases z)) z)
   . intro z
     have n:=fr c z
     rcases hc with rfl | hc
     . rw[e]at n;cases n
     . rw[hc]at n;cases n
   . rcases hc with rfl | hc
     . exact hb
     . exact t.out hc (by intro φ z;cases z)
end
open PySem PySem.Spec PyProof.Rows
def MB (T:Addr) (fl:Value):HO:=.ext (RG T fl)
theorem y3 {P:Program} {w:World} {H:Hp} {h:Heap} {T:Addr} {fl:Value} (x:RG T fl h):qS P w H h T (MB T fl):=by
 obtain⟨ts,q,z⟩:=x
 exact⟨⟨ts,q,z⟩,⟨_,q⟩,λh1 h2 ⟨ts',q',z'⟩ k=>⟨ts',k _ q',z'⟩⟩
def YN (P:Program) (w:World):XF:=λouter H s E e s'=>∃a C dx T Hx H',e=.ref a/\s'.os=s.os/\AllBare s'.gens/\Un (XG outer) [] H H' s.heap s'.heap/\J5 P w H' s'.heap/\
 H' a=some (V2 a C dx (.ref T))/\H' T=some (MB T .none)/\Hx T=none/\Hx a=some (ZW a C dx)/\(∀b o,b≠a->Hx b=some o->H' b=some o)/\E (.ref C) (some dx) Hx
def uw (X:Cx) (E:XK):Prop:=∀(pins:List (Addr×Obj)) (σ:St) (H:Hp) (s:Shared) (a C dx:Addr),qF X pins σ H s->H a=some (ZW a C dx)->E (.ref C) (some dx) H->X.xe (.ref a) s
section
variable {X:Cx} {pins:List (Addr×Obj)} {σ:St} {H H':Hp} {s:Shared} {h':Heap} {ex:List Addr}
theorem qF.flown (I:qF X pins σ H s) (F:yL (XG X.stack) ex s.heap h') (t:XC ex s.heap.objs.size H H') (th:∀b∈ex,∃o,h'.get? b=some o)
   (new:∀b o,H' b=some o->(H b=none\/b∈ex)->qS X.prog X.w H' h' b o):qF X pins σ H' {s with heap:=h'}:=
 I.call (g':=s.gens) (t':=s.toks) (d':=s.drawn) (ch:=[]) (Un.fly F t th) (J5.fly I.hok F t I.stkFree new) I.bare λb z=>absurd z (by simp)
theorem yL.then {fs ex:List Addr} {h h1 h2:Heap} {T:Addr} (F:yL fs ex h h1) (G:yL fs [T] h1 h2) (hT:h.objs.size<=T):yL fs ex h h2 where
 keep b o n1 n2 q:=G.keep b o n1 (by simp;exact tV (tP (tM q) hT)) (F.keep b o n1 n2 q)
 slot b o n1 n2 q:=by
   obtain⟨sl,r⟩:=F.slot b o n1 n2 q
   obtain⟨sl',r'⟩:=G.slot b _ n1 (by simp;exact tV (tP (tM q) hT)) r
   exact⟨sl',r'⟩
end
section
variable {P:Program} {w:World} {K:PySem.W.Frag} {mg:Str->Option Value} {base:Heap} {N:List Str} {qual:Str} {scope:Scope} {f:Addr} {cd:Value} {A:Around} {outer:List Env} {s₀:Shared} {H₀:Hp} {E:XK}
theorem X1:uw (J9 (YN P w) P w K mg base N qual scope f cd A outer s₀ H₀ E) E:=by
 intro pins σ H s a C dx I ha hE
 obtain⟨⟨fl,he,hz⟩,_,_⟩:=(show qS P w H s.heap a (V2 a C dx .none) from I.hok a _ ha)
 have fr:=I.ok.frames
 have ff:=I.stack
 show wpAny _ _ (leaving _ _) _ _ s
 unfold leaving
 refine wpAny_bind (wq fr ff rfl he hz λh1 T hT F q1 q2=>?_)
 have lt:=(zay.mp hz).1
 have g1:(fl.setIfInBounds 1 (Value.ref T))[1]?=some (.ref T):=by simp [lt]
 have nT:T≠a:=λz=>by
   obtain⟨ts,q,_⟩:=q2
   rw[z,q1]at q
   cases q
 refine Xs (fs:=XG (J9 (YN P w) P w K mg base N qual scope f cd A outer s₀ H₀ E).stack) q1 g1 q2 λh2 F2 st=>?_
 have anf:a∉XG (J9 (YN P w) P w K mg base N qual scope f cd A outer s₀ H₀ E).stack:=λz=>by
   have:=I.stkFree a z
   rw[ha]at this
   cases this
 have hTn:H T=none:=I.hok.fresh hT
 have q3:=F2.keep a _ anf (by simp [Ne.symm nT]) q1
 have I2:=I.flown (H':=upd (upd H a (V2 a C dx (.ref T))) T (MB T .none)) (yL.then F F2 hT) ⟨λb hb=>by cases zab.mp hb;exact⟨_,ha⟩,λb o hb q=>by
     rw[qi (qr q hTn),qi λz=>hb (by simp [z])];exact q,λb hb q=>by
     rw[qi (tV (tP hb hT)),qi λz=>by rw[z,ha]at q;cases q];exact q⟩ (λb hb=>by cases zab.mp hb;exact⟨_,q3⟩) λb o q hb=>by
   by_cases e1:b=T
   . subst e1
     rw[qe]at q
     cases q
     exact y3 st
   . rw[qi e1]at q
     by_cases e2:b=a
     . subst e2
       rw[qe]at q
       cases q
       exact W4 ⟨_,q3,g1⟩
     . rw[qi e2]at q
       rcases hb with hb | hb
       . rw[q]at hb;cases hb
       . exact absurd (zab.mp hb) e2
 exact⟨a,C,dx,T,H,_,rfl,I2.os,I2.bare,I2.base,I2.hok,by rw[qi (Ne.symm nT),qe],qe ..,hTn,ha,λb o nb q=>by rw[qi (qr q hTn),qi nb];exact q,hE⟩
theorem X2:Qq (YN P w) (J9 (YN P w) P w K mg base N qual scope f cd A outer s₀ H₀ E) E:=by
 intro pins σ H s e s' I0 hc
 obtain⟨a,C,dx,T,Hx,H1,rfl,os,bare,un,hok,ha,ht,hxT,hxa,hx,hE⟩:=hc
 have I:qF (J9 (YN P w) P w K mg base N qual scope f cd A outer s₀ H₀ E) pins σ H1 s':=I0.call' os un hok bare λb z=>absurd z (by simp)
 obtain⟨⟨fl,he,hz⟩,_,_⟩:=(show qS P w H1 s'.heap a (V2 a C dx (.ref T)) from I.hok a _ ha)
 obtain⟨st0,_,_⟩:=(show qS P w H1 s'.heap T (MB T .none) from I.hok T _ ht)
 have fr:=I.ok.frames
 have ff:=I.stack
 have nT0:T≠a:=λz=>by
   obtain⟨ts,q,_⟩:=st0
   rw[z,he]at q
   cases q
 show wpAny _ _ (leaving _ _) _ _ s'
 unfold leaving
 refine wpAny_bind (K0 fr ff rfl he hz st0 nT0 λh1 T' hT F tT q1 q2=>?_)
 have lt:=(zay.mp hz).1
 have g1:(fl.setIfInBounds 1 (Value.ref T'))[1]?=some (.ref T'):=by simp [lt]
 have nT:T'≠a:=λz=>by
   obtain⟨ts,q,_⟩:=q2
   rw[z,q1]at q
   cases q
 refine Xs (fs:=XG (J9 (YN P w) P w K mg base N qual scope f cd A outer s₀ H₀ E).stack) q1 g1 q2 λh2 F2 st=>?_
 have anf:∀b o,H1 b=some o->b∉XG (J9 (YN P w) P w K mg base N qual scope f cd A outer s₀ H₀ E).stack:=λb o q z=>by
   have:=I.stkFree b z
   rw[q]at this
   cases this
 have hTn:H1 T'=none:=I.hok.fresh hT
 have nTT:T'≠T:=(qr ht hTn).symm
 have q3:=F2.keep a _ (anf a _ ha) (by simp [Ne.symm nT]) q1
 obtain⟨oT,hoT⟩:=tT
 have q4:=F2.keep T _ (anf T _ ht) (by simp [Ne.symm nTT]) hoT
 have I2:=I.flown (H':=upd (upd (upd H1 a (V2 a C dx (.ref T'))) T (.ext λh=>∃o,h.get? T=some o)) T' (MB T' .none)) (yL.then F F2 hT) ⟨λb hb=>by
     simp only[tY,zba,or_false]at hb
     rcases hb with rfl | rfl
     . exact⟨_,ha⟩
     . exact⟨_,ht⟩,λb o hb q=>by
     simp only[tY,zba,or_false,not_or]at hb
     rw[qi (qr q hTn),qi hb.2,qi hb.1];exact q,λb hb q=>by
     rw[qi (tV (tP hb hT)),qi (λz=>by rw[z,ht]at q;cases q),qi (λz=>by rw[z,ha]at q;cases q)];exact q⟩ (λb hb=>by
     simp only[tY,zba,or_false]at hb
     rcases hb with rfl | rfl
     . exact⟨_,q3⟩
     . exact⟨_,q4⟩) λb o q hb=>by
   by_cases e1:b=T'
   . subst e1
     rw[qe]at q
     cases q
     exact y3 st
   . rw[qi e1]at q
     by_cases e2:b=T
     . subst e2
       rw[qe]at q
       cases q
       exact⟨⟨_,q4⟩,⟨_,q4⟩,λh1 h2 ⟨u,z⟩ k=>⟨u,k u z⟩⟩
     . rw[qi e2]at q
       by_cases e3:b=a
       . subst e3
         rw[qe]at q
         cases q
         exact W4 ⟨_,q3,g1⟩
       . rw[qi e3]at q
         rcases hb with hb | hb
         . rw[q]at hb;cases hb
         . simp only[tY,zba,or_false]at hb
           exact(hb.elim e3 e2).elim
 refine⟨a,C,dx,T',Hx,_,rfl,I2.os,I2.bare,I2.base,I2.hok,by rw[qi (Ne.symm nT),qi (Ne.symm nT0),qe],qe ..,?_,hxa,λb o nb q=>?_,hE⟩
 . cases e:Hx T' with
   | none=>rfl
   | some o=>
     have:=hx T' o nT e
     rw[hTn]at this
     cases this
 . have n1:b≠T:=λz=>by rw[z,hxT]at q;cases q
   have q':=hx b o nb q
   rw[qi (qr q' hTn),qi n1,qi nb]
   exact q'
end
open PySem PySem.Spec PyProof.Rows
section
variable {M:Model} {A:Around} {E:Value->Shared->Prop} {s:Shared} {env:Env} {C:Addr}
theorem kU {oC:Obj} {x:Sem Value} {Q:Flow->Shared->Prop} (hh:A.handled=none) (hcl:oC.cls=.type "type")
   (hs:∀(h:Heap) (g d t os) (Q:Bool->Shared->Prop),h.get? C=some oC->Q true ⟨h,g,d,t,os⟩->wpAny M A (isSubtype (.ref C) (.type "BaseException")) Q E ⟨h,g,d,t,os⟩)
   (h:wpAny M A x (λv s₁=>∃e dx fl,v=.ref e/\s₁.heap.get? C=some oC/\s₁.heap.get? e=some {cls:=.ref C,dict:=some dx,data:=.fields fl}/\fl[1]?=some Value.none/\E (.ref e) s₁) E s):
   wpAny M A (raiseStmt env (some x) none) Q E s:=by
 unfold raiseStmt
 refine wpAny_bind (jk h λv s₁ h₁=>?_)
 obtain⟨e,dx,fl,rfl,hC,he,hz,hE⟩:=h₁
 obtain⟨hp,g,d,tk,os⟩:=s₁
 repeat (first | with_reducible refine wpAny_loadPart_at he ?_ | with_reducible refine wpAny_loadPart_at hC ?_ | with_reducible refine hs _ _ _ _ _ _ hC ?_ | wp_step)
 rw[hz]
 refine wpAny_pure ?_
 rw[if_neg (show ¬((Value.none != Value.none)=true) by decide)]
 exact wpAny_pure (wpAny_raiseNew_none hh hE)
end
def N5 (K:PySem.W.Frag) (C:Addr):Prop:=∃f bm,EMk K C f bm/\bm.contains (.type "BaseException")=true
def R7 (K:PySem.W.Frag) (E:XK) (te:TE):TS:=λD σ H=>te σ H λv H1=>∃a C dx,v=.ref a/\H1 a=some (ZW a C dx)/\N5 K C/\E (.ref C) (some dx) H1
section
variable {X:Cx} {E:XK} {e:Expr} {te:TE} {pos:Pos}
theorem VS (hc:X.calm=true) (hx:uw X E) (he:JE X e te):JS X (.Raise (some e) none pos) (R7 X.K E te):=.of (by
 have he:=he.to
 intro pins s σ H D I h
 have key:∀x:Sem Value,wpAny (model X.prog X.w) X.A x (λu s1=>∃v H1,qF X pins σ H1 s1/\qP v u/\∃a C dx,v=.ref a/\H1 a=some (ZW a C dx)/\N5 X.K C/\E (.ref C) (some dx) H1) X.xe s->
     wpAny (model X.prog X.w) X.A (raiseStmt X.env (some x) none) (SP X pins D) X.xe s:=λx hw=>by
   unfold raiseStmt
   refine wpAny_bind (jk hw λu s1 ⟨v,H1,I1,rv,a,C,dx,ev,ha,⟨f,bm,em,hb⟩,hE⟩=>?_)
   subst ev
   obtain rfl:u=Value.ref a:=rv
   obtain⟨nm,q,N,bs,hdct,sn,sub,ab,col,dd,k0,k1,k2,k3,k5,hC⟩:=em.obj
   obtain⟨⟨fl,ho,hz⟩,_,_⟩:=(show qS X.prog X.w H1 s1.heap a (V2 a C dx .none) from I1.hok a _ ha)
   have hC':=I1.kIn _ _ hC
   have r:=kU (M:=model X.prog X.w) (A:=X.A) (E:=X.xe) (s:=s1) (env:=X.env) (C:=C) (x:=pure (.ref a)) (Q:=SP X pins D) (I1.ok.hd hc) rfl (λh g d t os Q z k=>wpAny_isSubtype_exc z (by
     rw[show (Value.ref C::bm).contains (.type "BaseException")=true by rw[List.contains_cons,hb,Bool.or_true]];exact k)) (wpAny_pure ⟨a,dx,fl,rfl,hC',ho,hz,hx pins σ H1 s1 a C dx I1 ha hE⟩)
   exact r
 rw[arm_exec_Raise]
 exact wpAny_bind (wpAny_standAt (key _ (wpAny_bind (jk (he pins s σ H _ I h) λu s1 q=>wpAny_bind (wpAny_standAt (wpAny_pure q)))))))
end
open PySem PySem.Spec PyProof.Rows
section
variable {M:Model} {A:Around} {E:Value->Shared->Prop}
end
open PySem PySem.Spec PyProof.Rows
section
variable {X:Cx} {CX:XF} {k:Nat} {f C:Addr} {fd:FuncData} {ps:List Str} {sp:Sp} {dvs:List V} {ds:List Value} {E:St->XK} {x m:Str} {p pos apos:Pos} {e o:Expr} {es:List Expr} {ta:TE} {t:TA}
end
open PySem PySem.Spec PyProof.Rows
section
variable {X:Cx} {pins:List (Addr×Obj)} {σ:St} {H:Hp} {s:Shared} {a b:Addr} {kvs more:List (qL×V)} {A:Around} {E:Value->Shared->Prop}
end
section
variable {X:Cx} {o e:Expr} {apos cpos:Pos} {td ty:TE}
end
theorem qbs {us:List Value} (h:us.length=0):us=[]:=zaz h
theorem wE {us:List Value} {n:Nat} (h:us.length=n+1):∃a r,us=a::r/\r.length=n:=by
 cases us with
 | nil=>cases h
 | cons a r=>exact⟨a,r,rfl,zcO.inj h⟩
theorem QD {us:List Value} (h:us.length=1):∃a,us=[a]:=by
 obtain⟨a,r,rfl,h'⟩:=wE h
 exact⟨a,by rw[qbs h']⟩
theorem Qk {us:List Value} (h:us.length=2):∃a b,us=[a,b]:=by
 obtain⟨a,r,rfl,h'⟩:=wE h
 obtain⟨b,rfl⟩:=QD h'
 exact⟨a,b,rfl⟩
theorem WT {us:List Value} (h:us.length=3):∃a b c,us=[a,b,c]:=by
 obtain⟨a,r,rfl,h'⟩:=wE h
 obtain⟨b,c,rfl⟩:=Qk h'
 exact⟨a,b,c,rfl⟩
theorem wF {us:List Value} (h:us.length=4):∃a b c d,us=[a,b,c,d]:=by
 obtain⟨a,r,rfl,h'⟩:=wE h
 obtain⟨b,c,d,rfl⟩:=WT h'
 exact⟨a,b,c,d,rfl⟩
theorem qag {us:List Value} (h:us.length=5):∃a b c d e,us=[a,b,c,d,e]:=by
 obtain⟨a,r,rfl,h'⟩:=wE h
 obtain⟨b,c,d,e,rfl⟩:=wF h'
 exact⟨a,b,c,d,e,rfl⟩
open PySem PySem.Spec PyProof.Rows
section
variable {X:Cx} {pins:List (Addr×Obj)} {σ:St} {H:Hp} {s:Shared} {E:Value->Shared->Prop} {a:Value}
end
def qbJ (K:PySem.W.Frag) (C:Addr):Prop:=∃bm,(∃nm q N bs hdct sn sub ab col dd k0 k1 k2 k3 k5,K.lookup C=some (excClassObj nm q C N bs bm hdct sn sub ab col dd k0 k1 k2 k3 k5 "ValueError.__new__"))/\bm.contains (.type "BaseException")=true
section
variable {X:Cx} {f:Str} {e:Expr} {pos:Pos} {ta:TE} {bm:List Value}
end
end L2
namespace PySem
open PySem.Spec
namespace F
theorem plain_dupd_loop:plainId "dict.update.loop"=true:=by decide+kernel
theorem entry_dupd_loop:entryFor table "dict.update.loop"=some Builtin.«dict.update.loop»:=entryFor_of_fast (by kernel_rfl)
end F
theorem Heap.DictOf.keepsAt {prog:Program} {w:World} {κ:Type} [DecidableEq κ] {knd:KeyKind prog w κ} {h h':Heap} {a:Addr} {kvs:List (κ×Value)} (hm:h.DictOf knd a kvs) (k:∀o,h.get? a=some o->h'.get? a=some o):h'.DictOf knd a kvs:=
 let ⟨o,es,ep,ho,r⟩:=hm;⟨o,es,ep,k o ho,r⟩
section
variable {prog:Program} {w:World} {A:Around} {R:Result->Shared->Prop} {I:Addr} {fp wr:List Addr} {n:Nat} {P:Nat->Value->Prop} {St:Nat->Heap->Prop} {κ:Type} [DecidableEq κ] {knd:KeyKind prog w κ}
def N6 (knd:KeyKind prog w κ) (h:Heap) (wr:List Addr) (d:Addr) (v:Value) (kv:κ×Value):Prop:=∃p o c k,v=.ref p/\h.get? p=some o/\o.cls=.type "tuple"/\o.data=.seq #[k,kv.2] c/\knd.is kv.1 k=true/\p∉wr/\p≠d
theorem zw (W:Walks prog w A.in1 I fp wr n P St) (kv:Nat->κ×Value) (d:Addr) (hdf:d∉fp) (hn:n<=1000):
   ∀(k i:Nat) (s:Shared) (t:Tok) (kvs:List (κ×Value)),n - i=k->i<=n->St i s.heap->s.heap.DictOf knd d kvs->kvs.length<=i->(∀j v,P j v->N6 knd s.heap wr d v (kv j))->
   (∀h' tk,h'.DictOf knd d (merged kvs (((zaa n).drop i).map kv))->(∀b o,b∉wr->b≠d->s.heap.get? b=some o->h'.get? b=some o)->R (.ok (.ret .none)) {s with heap:=h',toks:=tk})->
   codeAny (model prog w) A (.builtin "dict.update.loop" ⟨[.ref d,.ref I,.int i t,.none],[]⟩) R s:=by
 have hdw:d∉wr:=λh=>hdf (W.sub _ h)
 intro k
 induction k with
 | zero=>
   intro i s t kvs hk hi hst hd hl hp hR
   have hin:i=n:=by omega
   subst hin
   refine codeAny_builtin F.entry_dupd_loop ?_
   rw[Around.under_plainId F.plain_dupd_loop _]
   show wpAny _ A.in1 (pyNext (.ref I) >>= _) _ _ s
   refine wpAny_bind (W.done s _ _ hst λh' tk hk'=>?_)
   show wpAny _ A.in1 (Builtin.Dict.addKeywords d [] >>= _) _ _ _
   refine wpAny_bind (wpAny_pure (wpAny_pure (hR h' tk ?_ λb o hb _ e=>hk' b o hb e)))
   rw[List.drop_of_length_le (by simp)]
   exact hd.keepsAt λo e=>hk' d o hdw e
 | succ k ih=>
   intro i s t kvs hk hi hst hd hl hp hR
   have hlt:i < n:=by omega
   refine codeAny_builtin F.entry_dupd_loop ?_
   rw[Around.under_plainId F.plain_dupd_loop _]
   show wpAny _ A.in1 (pyNext (.ref I) >>= _) _ _ s
   refine wpAny_bind (W.item i s _ _ hlt hst λv h' tk hP hst' hk'=>?_)
   obtain⟨p,o,c,key,rfl,ho,hc,hdat,hkey,hpw,hpd⟩:=hp i v hP
   have ho':=hk' p o hpw ho
   have hd':h'.DictOf knd d kvs:=hd.keepsAt λo e=>hk' d o hdw e
   have ty:(⟨h',s.gens,s.drawn,tk,s.os⟩:Shared).TypeIs (.ref p) "tuple":=⟨o,ho',hc⟩
   refine wpAny_bind (wpAny_holding (wpAny_bind (wpAny_tryCatch ?_)))
   unfold Builtin.Dict.pairItems
   refine wpAny_bind (wpAny_typeOf ty ?_)
   rw[if_pos (by decide)]
   refine wpAny_bind (wpAny_seqItems ho' hdat (wpAny_pure ?_))
   refine(show wpAny _ _ (holding [key,(kv i).2] (dictSet d key (kv i).2)) _ _ _ from wpAny_holding (wpAny_dictSet_pairs hkey hd' (λh'' dd hs=>?_) (by rw[sizeLine_eq];omega)))
   refine wpAny_pure ⟨plainId_quiet F.plain_dupd_loop _,?_⟩
   have keep:∀b o,b∉wr->b≠d->s.heap.get? b=some o->h''.get? b=some o:=λb o hb hbd e=>(hs.2 b hbd).trans (hk' b o hb e)
   have len:(stored kvs (kv i).1 (kv i).2).length<=i+1:=by
     have:=stored_length_le kvs (kv i).1 (kv i).2
     omega
   refine ih (i+1) _ _ (stored kvs (kv i).1 (kv i).2) (by omega) hlt (W.frame _ _ _ hst' λb hb o e=>(hs.2 b (λz=>hdf (z▸hb))).trans e) dd len (λj v hj=>?_) λh3 tk3 d3 k3=>?_
   . obtain⟨p,o,c,k,e1,e2,r⟩:=hp j v hj
     exact⟨p,o,c,k,e1,keep p o r.2.2.2.1 r.2.2.2.2 e2,r⟩
   . refine hR h3 tk3 ?_ λb o hb hbd e=>k3 b o hb hbd (keep b o hb hbd e)
     have e:(zaa n).drop i=i::(zaa n).drop (i+1):=by
       rw[List.drop_eq_getElem_cons (by simpa using hlt)]
       simp
     rw[e]
     exact d3
end
section
variable {prog:Program} {w:World} {A:Around} {E:Value->Shared->Prop} {s:Shared} {κ:Type} [DecidableEq κ] {knd:KeyKind prog w κ}
theorem WS:typeLookup (.type "list") "keys"=pure none:=by rw[typeLookup_type,builtinLookup_eq_fast];kernel_rfl
theorem WW {a:Addr} {o:Obj} {xs:Array Value} {k:Nat} {Q:Option Value->Shared->Prop} (hx:s.heap.get? a=some o) (hc:o.cls=.type "list") (hdat:o.data=.seq xs k) (hd:o.dict=none) (hA:A.handled=none)
   (h:∀h' tk,(∀b o,s.heap.get? b=some o->h'.get? b=some o)->Q none {s with heap:=h',toks:=tk}):wpAny (model prog w) A (getAttr? (.ref a) "keys") Q E s:=by
 obtain⟨c,dct,dat,sl⟩:=o
 simp only at hc hdat hd
 subst hc hdat hd
 obtain⟨hp,g,d,tk,os⟩:=s
 have hT:∀tk',(⟨hp,g,d,tk',os⟩:Shared).TypeIs (.ref a) "list":=λ_=>⟨_,hx,rfl⟩
 have f1:=sub_AttributeError
 have f3:=F.slot_list_getattribute.lookup
 have f4:=F.slot_list_getattribute.bind (.ref a)
 have f5:=am_list_getattr_none
 unfold getAttr? getAttrBy? getAttrBy
 repeat (any_goals (first | assumption | exact hT _ | ((with_reducible show wpAny _ _ (call (Value.builtin "list.__getattribute__") _ _) _ _ _);refine call_meets F.slot_list_getattribute (hT _) am_entry_list_getattribute (F.args_list_getattribute_2 _ _) (meets_getattribute_miss_list a xs k sl "keys" _ WS (by decide+kernel)) ⟨hx,hA,λh' tk' e hx'=>?_⟩) | wp_step))
 obtain⟨t',u',he⟩:=hx'.there
 show wpAny _ _ (getattributeRaised _ _ _ _ _ _ _) _ _ _
 unfold getattributeRaised
 repeat (any_goals (first | assumption | wp_step))
 exact h _ _ hx'.of.keeps
theorem Yp {src:Addr} {items:Array Value} {kv:Nat->κ×Value} {Q:Value->Shared->Prop} (pl:PlainL s.heap src items) (hp:∀j v,items[j]?=some v->∃p o c key,v=.ref p/\s.heap.get? p=some o/\o.cls=.type "tuple"/\o.data=.seq #[key,(kv j).2] c/\knd.is (kv j).1 key=true)
   (hn:items.size<=1000) (hA:A.handled=none)
   (h:∀h' tk,h'.DictOf knd s.heap.objs.size (merged [] ((zaa items.size).map kv))->(∀b o,s.heap.get? b=some o->h'.get? b=some o)->Q (.ref s.heap.objs.size) {s with heap:=h',toks:=tk}):
   wpAny (model prog w) A (call (.type "dict") [.ref src]) Q E s:=by
 refine callType_codes (Q₁:=λobj s₁=>obj=.ref s.heap.objs.size/\s₁={s with heap:=s.heap.push {cls:=.type "dict",data:=.dict #[]}}) F.kt_called_dict (F.kt_typeCall_dict_1 _) F.entry_dict_init (kt_code_dict_new _ ⟨rfl,rfl⟩) ?_
 rintro obj s₁ ⟨rfl,rfl⟩
 have hnew:(s.heap.push {cls:=.type "dict",data:=.dict #[]}).DictOf knd s.heap.objs.size []:=Heap.DictOf.new s.heap
 have hp0:∀b o,s.heap.get? b=some o->(s.heap.push {cls:=.type "dict",data:=.dict #[]}).get? b=some o:=λb o e=>tu _ e
 obtain⟨ol,nl,ho,hc,hd,hdat⟩:=id pl
 have ty:(⟨s.heap.push {cls:=.type "dict",data:=.dict #[]},s.gens,s.drawn,s.toks,s.os⟩:Shared).TypeIs (.ref src) "list":=⟨ol,hp0 _ _ ho,hc⟩
 refine⟨hnew.typeIs,F.args_dict_init_2 _ _,?_⟩
 unfold Builtin.«dict.__init__»
 refine wpAny_bind ?_
 unfold Builtin.Dict.selfAndRest
 refine wpAny_bind (wpAny_notOrdered_dict hnew.typeIs ?_)
 show wpAny _ _ (pure (s.heap.objs.size,[Value.ref src])) _ _ _
 refine wpAny_pure ?_
 show wpAny _ _ (Builtin.Dict.updateFrom "dict.__init__" s.heap.objs.size (.ref src) [] .none) _ _ _
 unfold Builtin.Dict.updateFrom
 refine wpAny_bind (wpAny_typeOf ty ?_)
 rw[if_pos (by decide)]
 refine wpAny_bind (WW (hp0 _ _ ho) hc hdat hd hA λh1 tk1 k1=>?_)
 rw[if_pos (show (none:Option Value).isNone=true from rfl)]
 refine wpAny_bind (wpAny_rule ?_)
 have pl1:PlainL h1 src items:=⟨ol,nl,k1 _ _ (hp0 _ _ ho),hc,hd,hdat⟩
 have hlt:src < h1.objs.size:=tM (k1 _ _ (hp0 _ _ ho))
 have hnew1:h1.DictOf knd s.heap.objs.size []:=hnew.keepsAt λo e=>k1 _ o e
 have hld:s.heap.objs.size < h1.objs.size:=by
   obtain⟨o,_,_,e,_⟩:=hnew1
   exact tM e
 refine wpAny_bind (wpAny_pyIter_list pl1.isList ?_)
 refine wpAny_pure ⟨plainId_quiet F.plain_dupd_loop _,?_⟩
 have W:=Walks.list (prog:=prog) (w:=w) (A:=A.in1.in1) hA h1.objs.size src (tV hlt) items
 have nsrc:s.heap.objs.size≠src:=Ne.symm (tV (tM ho))
 refine zw (A:=A.in1) W kv s.heap.objs.size (by simp only[tY,zbu,or_false,not_or];exact⟨tV hld,nsrc⟩) hn items.size 0 _ _ [] (by omega) (zat _)
   ⟨⟨_,tU _ rfl,rfl,rfl⟩,pl1.isList.at λo e=>tu _ e⟩ (hnew1.push _) (zat _) (λj v hj=>?_) λh2 tk2 d2 k2=>⟨rfl,h h2 tk2 d2 λb o e=>?_⟩
 . obtain⟨p,o,c,key,e1,e2,e3,e4,e5⟩:=hp j v hj
   have e2':=k1 _ _ (hp0 _ _ e2)
   refine⟨p,o,c,key,e1,tu _ e2',e3,e4,e5,?_,tV (tM e2)⟩
   simp only[tY,zbu,or_false]
   exact tV (tM e2')
 . have e':=k1 _ _ (hp0 _ _ e)
   refine k2 b o ?_ (tV (tM e)) (tu _ e')
   simp only[tY,zbu,or_false]
   exact tV (tM e')
end
end PySem
namespace L2
open PySem PySem.Spec PyProof.Rows
section
variable {X:Cx} {pins:List (Addr×Obj)} {σ:St} {H:Hp} {s:Shared}
def xJ (K:PySem.W.Frag):List V->Hp->VK->Prop:=λxs H Q=>∃(p:Addr) (ps:List Addr) (kvs:List (qL×V)),xs=[.ref p]/\SqL K H p (ps.map V.ref)/\ps.length=kvs.length/\(∀(i:Nat) (a:Addr) (kv:qL×V),ps[i]?=some a->kvs[i]?=some kv->YM K H a [kV kv.1,kv.2])/\kvs.length<=1000/\
 ∀d,H d=none->Q (.ref d) (upd H d (.dK (QG [] kvs)))
theorem Xa (I:qF X pins σ H s):∀(ps:List Addr) (kvs:List (qL×V)),ps.length=kvs.length->(∀(i:Nat) (a:Addr) (kv:qL×V),ps[i]?=some a->kvs[i]?=some kv->YM X.K H a [kV kv.1,kv.2])->
   ∃rs:List (qL×Value),KV kvs rs/\rs.length=ps.length/\∀(i:Nat) (a:Addr),ps[i]?=some a->∃kv o c key,rs[i]?=some kv/\s.heap.get? a=some o/\o.cls=.type "tuple"/\o.data=.seq #[key,kv.2] c/\(jm X.prog X.w).is kv.1 key=true
 | [],[],_,_=>⟨[],.nil,rfl,λi a e=>by simp at e⟩
 | [],_::_,h,_=>by cases h
 | _::_,[],h,_=>by cases h
 | a::ps,kv::kvs,h,k=>by
   obtain⟨rs,r1,r2,r3⟩:=Xa I ps kvs (zcO.inj h) λi a' kv' e1 e2=>k (i+1) a' kv' (by simpa using e1) (by simpa using e2)
   obtain⟨its,rv,⟨o,e,c1,n1,d1⟩,_⟩:=I.tuple (k 0 a kv rfl rfl)
   cases rv with
   | cons ra rt=>
     cases rt with
     | cons rb rn=>
       cases rn
       rename_i u1 u2
       refine⟨(kv.1,u2)::rs,.cons ⟨rfl,rb⟩ r1,by simp [r2],λi a' e'=>?_⟩
       cases i with
       | zero=>
         cases e'
         exact⟨_,o,n1,u1,rfl,e,c1,d1,Xm ra⟩
       | succ i=>exact r3 i a' (by simpa using e')
theorem XA (hc:X.calm=true):Q5 X (.type "dict") (xJ X.K):=by
 intro pins s σ H xs us Q I r h
 obtain⟨p,ps,kvs,rfl,hl,le,hps,hz,q⟩:=h
 obtain⟨u,rfl,ru⟩:=Jl r
 cases ru
 obtain⟨its,rv,pl,_⟩:=I.list hl
 obtain rfl:=XR rv
 obtain⟨rs,r1,r2,r3⟩:=Xa I ps kvs le hps
 have hsz:(ps.map Value.ref).toArray.size=rs.length:=by simp [r2]
 have hR:(zaa (ps.map Value.ref).toArray.size).map (λj=>(rs[j]?).getD (Sum.inl 0,Value.none))=rs:=by
   rw[hsz]
   refine zdb λi=>?_
   rw[tH]
   by_cases hi:i < rs.length
   . rw[zbB hi,tF hi]
     simp [hi]
   . rw[zbh (by rw[zam];omega),zbh (by omega)]
     rfl
 refine Yp (knd:=jm X.prog X.w) (kv:=λj=>(rs[j]?).getD (Sum.inl 0,Value.none)) pl (λj v hj=>?_) (by rw[hsz,r2,le];exact hz) (I.ok.hd hc) λh' tk dd kp=>?_
 . have hj':(ps.map Value.ref)[j]?=some v:=by simpa using hj
   rw[tH]at hj'
   cases e:ps[j]? with
   | none=>rw[e]at hj';cases hj'
   | some a=>
     rw[e]at hj'
     obtain⟨kv,o,c,key,f1,f2,f3,f4,f5⟩:=r3 j a e
     refine⟨a,o,c,key,(tN.inj hj').symm,f2,f3,?_,?_⟩
     . show o.data=.seq #[key,((rs[j]?).getD (Sum.inl 0,Value.none)).2] c
       rw[f1]
       exact f4
     . show (jm X.prog X.w).is ((rs[j]?).getD (Sum.inl 0,Value.none)).1 key=true
       rw[f1]
       exact f5
 . rw[hR]at dd
   have hn:=I.hok.fresh (tE s.heap.objs.size)
   have big:(s.heap.objs.size==sysModules)=false:=beq_eq_false_iff_ne.mpr (Ne.symm (tV I.big))
   have hlen:(QG [] kvs).length<=sizeLine:=by
     have:=Jh kvs []
     rw[zdo]at this
     rw[sizeLine_eq]
     omega
   exact⟨.ref s.heap.objs.size,_,I.laid (a:=s.heap.objs.size) (o:=.dK (QG [] kvs)) (h':=h') (t':=tk) kp (tE _) (UX hlen big (r1.merge .nil) dd),rfl,q _ hn⟩
end
open PySem PySem.Spec PySem.W PyProof.Rows
theorem wu {α:Type} {l:List α} (nd:l.Nodup) {i j:Nat} {hi:i < l.length} {hj:j < l.length} (e:l[i]=l[j]):i=j:=by
 have h:=zaK.mp nd
 rcases zaE i j with c | c | c
 . exact absurd e (h i j hi hj c)
 . exact c
 . exact absurd e.symm (h j i hj hi c)
section
variable {α β:Type} {lt:Nat->Nat->Bool} {n:Nat}
def evT (lt:Nat->Nat->Bool):KasT α->α
 | .ret a=>a
 | .ask i j k=>evT lt (k (lt i j))
end
def ltS (zs:List Str) (i j:Nat):Bool:=decide ((zs.getD i "").cps.toList < (zs.getD j "").cps.toList)
def srt (zs:List Str):List Nat:=if zs.length < 2 then zaa zs.length else (evT (ltS zs) (kas_sort zs.length)).toList
section
variable {P:Program} {w:World} {B:Around} {F:Value->Shared->Prop} {z:Shared}
end
section
variable {X:Cx} {o:Expr} {td:TE} {p1 p2 pos1 pos2 ap cp:Pos}
end
section
variable {X:Cx}
def M0 (K:PySem.W.Frag):R2:=λx y H Q=>∃a b xs ys,x=.ref a/\y=.ref b/\SqL K H a xs/\SqL K H b ys/\xs.length+ys.length<=sizeLine/\∀l,H l=none->Q (.ref l) (upd H l (.lst (xs++ys)))
theorem Paired.app {α β:Type} {G:α->β->Prop}:∀{l m:List α} {l' m':List β},Paired G l l'->Paired G m m'->Paired G (l++m) (l'++m')
 | _,_,_,_,.nil,h=>h
 | _,_,_,_,.cons a r,h=>.cons a (Paired.app r h)
theorem WM:ZB X (binaryOp .Add) (M0 X.K):=by
 intro pins s σ H x y v u Q I rx ry h
 obtain⟨a,b,xs,ys,rfl,rfl,ha,hb,hz,q⟩:=h
 cases rx
 cases ry
 obtain⟨its,rv,pl,_⟩:=I.list ha
 obtain⟨its2,rv2,pl2,_⟩:=I.list hb
 have l1:=rv.length
 have l2:=rv2.length
 obtain⟨⟨cls,dd,data,sl⟩,ho,hc,n,hd⟩:=id pl.isList
 obtain⟨⟨cls2,dd2,data2,sl2⟩,ho2,hc2,n2,hd2⟩:=id pl2.isList
 simp only at hc hd hc2 hd2
 subst hc hd hc2 hd2
 have e:its.toArray++its2.toArray=(its++its2).toArray:=by simp
 refine concat_meets ⟨_,ho,rfl⟩ ⟨_,ho2,rfl⟩ noFill_list_add seq_list_add PySem.F.slot_list_add PySem.F.entry_list_add (PySem.F.args_list_add_2 _ _) (list_addW a b its.toArray its2.toArray n n2 dd dd2 sl sl2 (by simp only[t7];omega)) ⟨ho,ho2,?_⟩
 rw[e]
 exact⟨.ref s.heap.objs.size,_,I.laid (t':=s.toks) (o:=.lst (xs++ys)) (λb u h=>tu _ h) (tE _) ⟨by rw[tK];exact hz,its++its2,_,Paired.app rv rv2,tU _ rfl⟩,rfl,q _ (I.hok.fresh (tE _))⟩
end
open PySem PySem.Spec PySem.W PyProof.Rows
section
variable {X:Cx}
def MW (K:PySem.W.Frag):R2:=λx y H Q=>∃(a b:Addr) (xs:List V),x=.ref a/\y=.ref b/\SqL K H a xs/\SqL K H b []/\Q (.bl (!xs.isEmpty)) H
theorem WL (hu:X.A.units < cLine):ZB X (compareOp .NotEq) (MW X.K):=by
 intro pins s σ H x y v u Q I rx ry h
 obtain⟨a,b,xs,rfl,rfl,ha,hb,q⟩:=h
 cases rx
 cases ry
 obtain⟨its,rv,pl,_⟩:=I.list ha
 obtain⟨its2,rv2,pl2,_⟩:=I.list hb
 have l2:its2=[]:=zaz rv2.length.symm
 subst l2
 cases xs with
 | nil=>
   have l1:its=[]:=zaz rv.length.symm
   subst l1
   exact EqBoolInt.of_rcne (SeqAt.RcNeAt.lists (e:=λ_=>true) pl.isList pl2.isList rfl hu λj h1 h2=>absurd h1 (zci j)) ⟨.bl _,H,I,rfl,q⟩
 | cons x xs=>
   cases its with
   | nil=>cases rv
   | cons u' us'=>exact EqBoolInt.of_rcne (SeqAt.RcNeAt.lists_lengths pl.isList pl2.isList (by simp) hu) ⟨.bl true,H,I,rfl,q⟩
end
open PySem PySem.Spec PySem.W PyProof.Rows
section
variable {P:Program} {w:World} {B:Around} {F:Value->Shared->Prop} {z:Shared}
end
section
variable {X:Cx}
end
open PySem PySem.Spec PySem.W PyProof.Rows
section
variable {prog:Program} {w:World} {A:Around} {R:Result->Shared->Prop} {I:Addr} {fp wr:List Addr} {G:Array GenState->Array GenState->Prop} {n:Nat} {P:Nat->Value->Prop} {St:Nat->Shared->Prop}
end
section
variable {prog:Program} {w:World} {A:Around} {E:Value->Shared->Prop} {s:Shared}
end
section
variable {X:Cx} {e:Expr} {te:TE} {p1 p2 pos1 pos2:Pos}
end
open PySem PyProof.Rows
theorem J3 {α:Type} {K:PySem.W.Frag} {a D:Addr} {xs:List α} {enc:α->V} {out:α->Option V} {rest:St} {H:Hp} {tt:TT} {te:TE} {Q:Hp->Prop} (hD:H D=none) (ha:H a=some (.lst (xs.map enc))) (len:xs.length < sizeLine)
   (ht:∀x∈xs,∀G,qo H G->∀R:Bool->Hp->Prop,(∀G',qo G G'->R (out x).isSome G')->tt (some (enc x)::rest) G R)
   (he:∀x∈xs,∀v,out x=some v->∀G,qo H G->∀R:V->Hp->Prop,(∀G',qo G G'->R v G')->te (some (enc x)::rest) G R)
   (k:∀G,qo H G->G D=some (.lst (xs.filterMap out))->Q G):XI (Mb K a) (Jv 0) tt te D (none::rest) H Q:=by
 have sD:qo H (upd H D (.lst [])):=λb o h=>by
   rw[qi (λe=>by rw[e,hD]at h;cases h)]
   exact h
 refine jZ (K:=K) (a:=a) (xs:=xs.map enc) (λi σ' G=>(∃v0,σ'=v0::rest)/\qo H G/\G D=some (.lst ((xs.take i).filterMap out))) ⟨⟨none,rfl⟩,sD,qe⟩ (λi σ' G _ ⟨_,s,_⟩=>.of (s _ _ ha)) ?_ ?_
 . rintro i y σ' G hy ⟨⟨v0,rfl⟩,s,hG⟩
   rw[tH]at hy
   cases ex:xs[i]? with
   | none=>rw[ex]at hy;cases hy
   | some x=>
     rw[ex]at hy
     obtain rfl:=(tN.inj hy).symm
     have hx:x∈xs:=t8 ex
     have et:(xs.take (i+1)).filterMap out=(xs.take i).filterMap out++(out x).toList:=by
       rw[tQ,ex,zan]
       cases c:out x<;>simp [c]
     show tt (some (enc x)::rest) G _
     refine ht x hx G s _ λG1 s1=>?_
     cases c:out x with
     | none=>
       show if false=true then _ else _
       rw[if_neg tO]
       refine⟨⟨_,rfl⟩,λb o h=>s1 _ _ (s _ _ h),?_⟩
       rw[et,c]
       simpa using s1 _ _ hG
     | some v=>
       show if true=true then _ else _
       rw[if_pos rfl]
       refine he x hx v c G1 (λb o h=>s1 _ _ (s _ _ h)) _ λG2 s2=>?_
       refine⟨_,s2 _ _ (s1 _ _ hG),?_,⟨_,rfl⟩,?_,?_⟩
       . refine zaw (zaM _ _) ?_
         rw[tS]
         omega
       . intro b o h
         rw[qi (λe=>by rw[e,hD]at h;cases h)]
         exact s2 _ _ (s1 _ _ (s _ _ h))
       . rw[et,c]
         exact qe
 . rintro σ' G ⟨_,s,hG⟩
   rw[tj,tG (tE _)]at hG
   exact k G s hG
theorem GQ {α:Type} {K:PySem.W.Frag} {a D:Addr} {xs:List α} {enc:α->V} {out:α->Option V} {rest:St} {H:Hp} {tt:TT} {te:TE} {Q:Hp->Prop} (hD:H D=none) (ha:H a=some (.tup (xs.map enc))) (len:xs.length < sizeLine)
   (ht:∀x∈xs,∀G,qo H G->∀R:Bool->Hp->Prop,(∀G',qo G G'->R (out x).isSome G')->tt (some (enc x)::rest) G R)
   (he:∀x∈xs,∀v,out x=some v->∀G,qo H G->∀R:V->Hp->Prop,(∀G',qo G G'->R v G')->te (some (enc x)::rest) G R)
   (k:∀G,qo H G->G D=some (.lst (xs.filterMap out))->Q G):XI (Ma K a) (Jv 0) tt te D (none::rest) H Q:=by
 have sD:qo H (upd H D (.lst [])):=λb o h=>by
   rw[qi (λe=>by rw[e,hD]at h;cases h)]
   exact h
 refine kl (K:=K) (a:=a) (xs:=xs.map enc) (λi σ' G=>(∃v0,σ'=v0::rest)/\qo H G/\G D=some (.lst ((xs.take i).filterMap out))) ⟨⟨none,rfl⟩,sD,qe⟩ (λi σ' G _ ⟨_,s,_⟩=>.of (s _ _ ha)) ?_ ?_
 . rintro i y σ' G hy ⟨⟨v0,rfl⟩,s,hG⟩
   rw[tH]at hy
   cases ex:xs[i]? with
   | none=>rw[ex]at hy;cases hy
   | some x=>
     rw[ex]at hy
     obtain rfl:=(tN.inj hy).symm
     have hx:x∈xs:=t8 ex
     have et:(xs.take (i+1)).filterMap out=(xs.take i).filterMap out++(out x).toList:=by
       rw[tQ,ex,zan]
       cases c:out x<;>simp [c]
     show tt (some (enc x)::rest) G _
     refine ht x hx G s _ λG1 s1=>?_
     cases c:out x with
     | none=>
       show if false=true then _ else _
       rw[if_neg tO]
       refine⟨⟨_,rfl⟩,λb o h=>s1 _ _ (s _ _ h),?_⟩
       rw[et,c]
       simpa using s1 _ _ hG
     | some v=>
       show if true=true then _ else _
       rw[if_pos rfl]
       refine he x hx v c G1 (λb o h=>s1 _ _ (s _ _ h)) _ λG2 s2=>?_
       refine⟨_,s2 _ _ (s1 _ _ hG),?_,⟨_,rfl⟩,?_,?_⟩
       . refine zaw (zaM _ _) ?_
         rw[tS]
         omega
       . intro b o h
         rw[qi (λe=>by rw[e,hD]at h;cases h)]
         exact s2 _ _ (s1 _ _ (s _ _ h))
       . rw[et,c]
         exact qe
 . rintro σ' G ⟨_,s,hG⟩
   rw[tj,tG (tE _)]at hG
   exact k G s hG
theorem GU {n:Nat} {D:Addr} {out:Nat->Option V} {rest:St} {H:Hp} {tt:TT} {te:TE} {Q:Hp->Prop} (hD:H D=none) (len:n < sizeLine)
   (ht:∀x,x < n->∀G,qo H G->∀R:Bool->Hp->Prop,(∀G',qo G G'->R (out x).isSome G')->tt (some (.int (x:Int))::rest) G R)
   (he:∀x,x < n->∀v,out x=some v->∀G,qo H G->∀R:V->Hp->Prop,(∀G',qo G G'->R v G')->te (some (.int (x:Int))::rest) G R)
   (k:∀G,qo H G->G D=some (.lst ((zaa n).filterMap out))->Q G):XI (RJ 0 n) (Jv 0) tt te D (none::rest) H Q:=by
 have sD:qo H (upd H D (.lst [])):=λb o h=>by
   rw[qi (λe=>by rw[e,hD]at h;cases h)]
   exact h
 refine Jy (λi σ' G=>(∃v0,σ'=v0::rest)/\qo H G/\G D=some (.lst ((zaa i).filterMap out))) ⟨⟨none,rfl⟩,sD,qe⟩ ?_ ?_
 . rintro i σ' G hi ⟨⟨v0,rfl⟩,s,hG⟩
   rw[zbT]
   have et:(zaa (i+1)).filterMap out=(zaa i).filterMap out++(out i).toList:=by
     rw[zcj,zan]
     cases c:out i<;>simp [c]
   show tt (some (.int (i:Int))::rest) G _
   refine ht i hi G s _ λG1 s1=>?_
   cases c:out i with
   | none=>
     show if false=true then _ else _
     rw[if_neg tO]
     refine⟨⟨_,rfl⟩,λb o h=>s1 _ _ (s _ _ h),?_⟩
     rw[et,c]
     simpa using s1 _ _ hG
   | some v=>
     show if true=true then _ else _
     rw[if_pos rfl]
     refine he i hi v c G1 (λb o h=>s1 _ _ (s _ _ h)) _ λG2 s2=>?_
     refine⟨_,s2 _ _ (s1 _ _ hG),?_,⟨_,rfl⟩,?_,?_⟩
     . refine zaw (zaM _ _) ?_
       rw[zam]
       omega
     . intro b o h
       rw[qi (λe=>by rw[e,hD]at h;cases h)]
       exact s2 _ _ (s1 _ _ (s _ _ h))
     . rw[et,c]
       exact qe
 . rintro σ' G ⟨_,s,hG⟩
   exact k G s hG
open PySem PyProof.Rows
section
variable {prog:Program} {w:World} {KK:Type} [DecidableEq KK] {kd:HeapKind prog w KK} {A:Around} {E:Value->Shared->Prop} {s:Shared}
end
section
variable {X:Cx} {pins:List (Addr×Obj)} {σ:St} {H:Hp} {s:Shared} {a b:Addr} {v:V} {r:Value} {A:Around} {E:Value->Shared->Prop}
end
section
variable {X:Cx} {o e f:Expr} {apos cpos:Pos} {td ty tx:TE}
end
open PySem PyProof.Rows
section
variable {X:Cx}
def MZ:R2:=λx y H Q=>∃a b xs ys,x=.ref a/\y=.ref b/\H a=some (.tup xs)/\H b=some (.tup ys)/\xs.length+ys.length<=sizeLine/\∀r H',qo H H'->H' r=some (.tup (xs++ys))->Q (.ref r) H'
theorem Kz:ZB X (binaryOp .Add) MZ:=by
 intro pins s σ H x y v u Q I rx ry h
 obtain⟨a,b,xs,ys,rfl,rfl,ha,hb,hz,q⟩:=h
 cases rx
 cases ry
 have sq:∀{c:Addr} {zs:List V},H c=some (.tup zs)->YM X.K H c zs:=λh=>.of h
 obtain⟨its,r1,p1,_⟩:=I.tuple (sq ha)
 obtain⟨its2,r2,p2,_⟩:=I.tuple (sq hb)
 have sm:qo H H:=λ_ _ h=>h
 by_cases hx:xs=[]
 . subst hx
   cases r1
   obtain⟨⟨c1,d1,e1,f1⟩,o1,k1,n1,g1⟩:=id p1
   obtain⟨⟨c2,d2,e2,f2⟩,o2,k2,n2,g2⟩:=id p2
   simp only at k1 g1 k2 g2
   subst k1 g1 k2 g2
   exact concat_meets ⟨_,o1,rfl⟩ ⟨_,o2,rfl⟩ noFill_tuple_add seq_tuple_add zcn zck (zca _ _) (tuple_addW0 a b _ _ n1 n2 d1 d2 f1 f2 rfl) ⟨o1,o2,.ref b,H,I,rfl,q b H sm hb⟩
 . refine HT.cat_tup p1 p2 (λz=>hx (r1.nil_iff.mp z)) (λz=>⟨.ref a,H,I,rfl,q a H sm ?_⟩) (λz=>?_) (by rw[<-r1.length,<-r2.length];exact hz)
   . rw[r2.nil_iff.mp z,zap]
     exact ha
   . have fr:=I.hok.fresh (tE s.heap.objs.size)
     refine⟨.ref s.heap.objs.size,_,I.laid (t':=s.toks) (o:=.tup (xs++ys)) (λc ob e=>tu _ e) (tE _) ⟨by rw[tK];exact hz,_,r1.append r2,IsTup.new _ _⟩,rfl,q _ _ (λc o e=>?_) qe⟩
     rw[qi (λw=>by rw[w,fr]at e;cases e)]
     exact e
end
section
variable {X:Cx} {pins:List (Addr×Obj)} {σ:St} {H:Hp} {s:Shared} {tg:Expr}
def ui (o:Obj):Nat:=match o.data with
 | .dict _ ep=>ep
 | _=>0
theorem qF.freeze {a:Addr} {kvs:List (qL×V)} (I:qF X pins σ H s) (e:H a=some (.dK kvs)):∃o,qF X pins σ (upd H a (.frz o (.dK kvs))) s:=by
 obtain⟨z,hd,vs,rel,o,es,ep,ho,r⟩:=(show qS X.prog X.w H s.heap a (.dK kvs) from I.hok a _ e)
 have mu:N8 (H a):=by rw[e];exact True.intro
 have un:Un X.fs [] H (upd H a (.frz o (.dK kvs))) s.heap s.heap:=Un.write mu (.inl rfl) (λb u _ q=>q) ⟨o,ho⟩
 have ok:J5 X.prog X.w (upd H a (.frz o (.dK kvs))) s.heap:=I.hok.write mu (.inl rfl) (λb u _ q=>q) ⟨o,ho⟩ ⟨ho,z,hd,vs,rel,o,es,ep,ho,r⟩
 exact⟨o,I.un (t':=s.toks) un ok⟩
def qaV (te:TE):TE:=λσ H Q=>te σ H λx H1=>∃a kvs,x=.ref a/\H1 a=some (.dK kvs)/\∀o,Q x (upd H1 a (.frz o (.dK kvs)))
theorem NR {e:Expr} {te:TE} (h:JE X e te):JE X e (qaV te):=.of (by
 have h:=h.to
 intro pins s σ H Q I hw
 refine jk (h pins s σ H _ I hw) λv s1 ⟨x,H1,I1,r1,a,kvs,ex,ea,q⟩=>?_
 obtain⟨o,I2⟩:=I1.freeze ea
 exact⟨x,_,I2,r1,q o⟩)
def Itk (a:Addr) (o:Obj) (kvs:List (qL×V)) (zs:List Str):It:=
 ⟨λi H=>H a=some (.frz o (.dK kvs))/\i < zs.length,λi H x H'=>H'=H/\∃z,zs[i]?=some z/\x=.str z,λi H=>H a=some (.frz o (.dK kvs))/\i=zs.length⟩
theorem UV {P:Program} {w:World} {h:Heap} {a:Addr} {o:Obj} {kvs:List (qL×V)} (ok:J5 P w H h) (e:H a=some (.frz o (.dK kvs))):(a==sysModules)=false/\∃vs,KV kvs vs/\h.DictAt (jm P w) a vs (ui o):=by
 obtain⟨ho,z,hd,vs,rel,o',es,ep,ho',ex,dat,r⟩:=(show qS P w H h a (.frz o (.dK kvs)) from ok a _ e)
 rw[ho]at ho'
 cases ho'
 refine⟨hd,vs,rel,o,es,ho,ex,?_,r⟩
 unfold ui
 rw[dat]
theorem K6 {P:Program} {w:World} {kvs:List (qL×V)} {vs:List (qL×Value)} {zs:List Str} (rel:KV kvs vs) (ek:kvs.map (·.1)=zs.map Sum.inr) {i:Nat} {z:Str} {k:qL} {y v:Value} (ez:zs[i]?=some z) (f1:vs[i]?=some (k,y)) (f2:(jm P w).is k v=true):qP (.str z) v:=by
 have hi:i < kvs.length:=by
   have h1:=(tw.mp ez).1
   have h2:kvs.length=zs.length:=by simpa using congrArg zaD ek
   omega
 obtain⟨q',g1,g2,_⟩:=ZS rel (tF hi)
 rw[f1]at g1
 cases g1
 have h1:(kvs.map (·.1))[i]?=some kvs[i].1:=by rw[tH,tF hi];rfl
 rw[ek,tH,ez]at h1
 have e3:k=Sum.inr z:=g2.symm.trans (tN.inj h1).symm
 subst e3
 rcases jq (show Xl (Sum.inr z) v=true from f2) with ⟨_,_,c,_⟩ | ⟨w',t,c,rfl⟩
 . cases c
 . cases c
   exact⟨t,rfl⟩
theorem kC {P:Program} {w:World} {K:PySem.W.Frag} (a it:Addr) (o:Obj) (kvs:List (qL×V)) (zs:List Str) (ek:kvs.map (·.1)=zs.map Sum.inr):Uc P w K tg (Itk a o kvs zs) [it] it (λi h=>h.IsKeyIter it a i zs.length (ui o)) where
 mem:=by simp
 obj:=λi h st b hb=>by
   have e:b=it:=by simpa using hb
   subst e
   obtain⟨o,e,c,d⟩:=st
   exact⟨o,e,λv z=>by rw[d]at z;cases z⟩
 keep:=λi h h' st k=>let ⟨o,e,r⟩:=st;⟨o,k it (by simp) o e,r⟩
 item:=by
   intro X hP hw hK hc i pins s σ H E I hf st hg
   subst hP hw hK
   obtain⟨f0,f1,f2,f3,f4,f5⟩:=hf it (by simp)
   obtain⟨ea,hi⟩:=hg
   obtain⟨_,vs,rel,dat⟩:=UV I.hok ea
   have lv:vs.length=zs.length:=by
     have h1:kvs.length=zs.length:=by simpa using congrArg zaD ek
     rw[<-Paired.length rel,h1]
   have ne:a≠it:=λe=>by rw[e,f0]at ea;cases ea
   rw[<-lv]at st
   refine(Walks.dictKeys (I.ok.hd hc) it a ne vs (ui o)).item i s _ _ (by omega) ⟨st,dat⟩ λv h' tk hv st' kk=>?_
   have I1:qF X pins σ H {s with heap:=h',toks:=tk}:=I.turned (λb o hb e=>kk b o (by simpa using hb) e) f0 f1 f3 f4 f5
   obtain⟨k,y,g1,g2⟩:=hv
   obtain⟨o2,e2,c2,d2⟩:=id st'.1
   refine⟨_,rfl,VW (s:={s with heap:=h',toks:=tk}) e2 c2 d2 (by decide) ⟨.str zs[i],H,I1,K6 rel ek (tF hi) g1 g2,⟨rfl,_,tF hi,rfl⟩,?_,λb hb=>(hf b hb).1⟩⟩
   rw[<-lv]
   exact st'.1
 done:=by
   intro X hP hw hK hc i pins s σ H E I hf st hg
   subst hP hw hK
   obtain⟨f0,f1,f2,f3,f4,f5⟩:=hf it (by simp)
   obtain⟨ea,hi⟩:=hg
   obtain⟨_,vs,rel,dat⟩:=UV I.hok ea
   have lv:vs.length=zs.length:=by
     have h1:kvs.length=zs.length:=by simpa using congrArg zaD ek
     rw[<-Paired.length rel,h1]
   have ne:a≠it:=λe=>by rw[e,f0]at ea;cases ea
   subst hi
   rw[<-lv]at st
   exact(Walks.dictKeys (I.ok.hd hc) it a ne vs (ui o)).done s _ _ ⟨st,dat⟩ λh' tk kk=>⟨rfl,I.turned (λb o hb e=>kk b o (by simpa using hb) e) f0 f1 f3 f4 f5⟩
 self:=λ_ _ _ _ _ st h=>wpAny_pyIter_keyiter st h
def qbw (tl:TE):TI:=λσ H R=>tl σ H λx H1=>∃a o kvs zs,x=.ref a/\H1 a=some (.frz o (.dK kvs))/\kvs.map (·.1)=zs.map Sum.inr/\R (Itk a o kvs zs) H1
theorem NM {l:Expr} {tl:TE} (hl:JE X l tl):JI X tg l (qbw tl):=.of (by
 have hl:=hl.to
 intro pins s σ H R I h
 refine jk (hl pins s σ H _ I h) λv s1 ⟨x,H1,I1,r1,q1⟩=>?_
 obtain⟨a,o,kvs,zs,e,ea,ek,q⟩:=q1
 subst e
 cases r1
 obtain⟨hd,vs,rel,dat⟩:=UV I1.hok ea
 have lv:vs.length=zs.length:=by
   have h1:kvs.length=zs.length:=by simpa using congrArg zaD ek
   rw[<-Paired.length rel,h1]
 refine wpAny_pyIter_dict hd dat ?_
 refine⟨s1.heap.objs.size,[s1.heap.objs.size],_,_,H1,rfl,I1.kept (t':=s1.toks) λb o e=>tu _ e,kC a _ o kvs zs ek,?_,λb hb=>?_,q⟩
 . rw[<-lv]
   exact⟨_,tU _ rfl,rfl,rfl⟩
 . have e:b=s1.heap.objs.size:=by simpa using hb
   subst e
   exact I1.fpOk (tE _) (I1.hok.fresh (tE _)))
end
section
variable {a:Addr} {o:Obj} {kvs:List (qL×V)} {zs:List Str} {g:TG} {σ:St} {H:Hp}
theorem Gq {tb:TS} {D:J6} (Pv:Nat->St->Hp->Prop) (h0:Pv 0 σ H) (hl:∀i σ H,i<=zs.length->Pv i σ H->H a=some (.frz o (.dK kvs)))
   (hs:∀i z σ H,zs[i]?=some z->Pv i σ H->g (.str z) σ H λσ2 H2=>tb {D with nx:=Pv (i+1),ct:=Pv (i+1),bk:=D.nx} σ2 H2) (hd:∀σ H,Pv zs.length σ H->D.nx σ H):
   ∃W:Nat->Nat->St->Hp->Prop,(∃m,W 0 m σ H)/\∀i m σ H,W i m σ H->
    ((Itk a o kvs zs).stop i H/\D.nx σ H)\/((Itk a o kvs zs).go i H/\∃N:St->Hp->Prop,(∀σ' H',N σ' H'->∃m',m' < m/\W (i+1) m' σ' H')/\∀x H',(Itk a o kvs zs).yld i H x H'->g x σ H' λσ2 H2=>tb {D with nx:=N,ct:=N,bk:=D.nx} σ2 H2):=by
 refine⟨λi m σ H=>m=zs.length - i/\i<=zs.length/\Pv i σ H,⟨zs.length,by simp,zat _,h0⟩,?_⟩
 rintro i m σ H ⟨rfl,hi,p⟩
 have q:=hl i σ H hi p
 by_cases hlt:i < zs.length
 . refine .inr ⟨⟨q,hlt⟩,Pv (i+1),λσ' H' p'=>⟨zs.length - (i+1),by omega,rfl,hlt,p'⟩,λx H' y=>?_⟩
   obtain⟨e,z,ez,rfl⟩:=y
   subst e
   exact hs i z σ _ ez p
 . have e:i=zs.length:=by omega
   subst e
   exact .inl ⟨⟨q,rfl⟩,hd σ H p⟩
end
section
variable {P:Program} {w:World} {K:PySem.W.Frag} {mg:Str->Option Value} {base:Heap}
theorem jI.okX {CX:XF} {x qual:Str} {st:Stmt} {f:Addr} {fd:FuncData} {N ps:List Str} {k:Nat} {sp:Sp} (F:jI K x qual st f fd) (S:qt N ps (qj st)) (len:∀vs H Q E,sp vs H Q E->vs.length=ps.length)
   (hbody:∀(cdv:Value) (A:Around) (outer:List Env) (s:Shared) (H:Hp) (vs:List V) (Q:VK) (E:XK),qV k (A.deeper (envOfC qual (qj st) s.heap.objs.size f cdv))->sp vs H Q E->
     ∃t,Vc (J9 CX P w K mg base N qual (qj st) f cdv A outer s H E) (jM st) t/\t {nx:=λ_ H'=>Q .non H',rt:=Q} (Qc N vs) H):qm P w K mg base CX (k+1) f fd ps sp:=by
 obtain⟨oc,od,kV,doc,pm,an,cdv,ct,osl,rfl,lk,hcd⟩:=F.ex
 refine RD lk hcd S len λA outer s H vs Q E hr hsp=>?_
 obtain⟨t,h,q⟩:=hbody cdv A outer s H vs Q E hr hsp
 exact⟨t,h.to,q⟩
end
section
variable {X:Cx} {es:List Expr} {t:TA} {pos:Pos}
end
section
variable {X:Cx}
def qbd (K:PySem.W.Frag) (neg:Bool):R2:=λx y H Q=>∃d ds,DV K H x d/\DV K H y (.list ds)/\d.canLay0=true/\PyData.canLayAll0 ds=true/\d.depth<=40/\Q (.bl (if neg then !(ds.any λz=>PyData.eqv z d) else ds.any λz=>PyData.eqv z d)) H
theorem k4 (hu:X.A.units+64 < cLine):ZB X (compareOp .NotIn) (qbd X.K true):=by
 intro pins s σ H x y v u Q I rx ry h
 obtain⟨d,ds,h1,h2,c1,c2,dp,q⟩:=h
 obtain⟨as,ra⟩:=h1.reads I rx
 obtain⟨bs,rb⟩:=h2.reads I ry
 refine SeqAt.notIn_list_reads rb ra c2 c1 ?_ ⟨.bl _,H,I,rfl,q⟩
 have:=zdh (PyData.depthAll ds) d.depth
 omega
end
section
variable {X:Cx} {pins pins0:List (Addr×Obj)} {σ σ0:St} {H H0:Hp} {s s0:Shared}
end
section
variable {X:Cx}
end
open PySem PyProof.Rows
end L2
namespace HT
open PySem PySem.Spec PyProof.Rows
section
variable {prog:Program} {w:World} {A:Around} {E:Value->Shared->Prop} {s:Shared}
end
end HT
namespace L2
open PySem PySem.Spec PyProof.Rows
section
variable {X:Cx}
end
open PySem PyProof.Rows
section
variable {X:Cx} {CX:XF} {C:Addr->Sp->Prop} {E:St->XK} {x:Str} {p pos:Pos} {e:Expr} {es:List Expr} {t:TA} {i:Nat}
end
section
variable {M:Model} {A:Around} {F:Value->Shared->Prop} {s:Shared} {e:Addr} {cl:Value} {d:Option Addr} {vs:Array Value} {Q:Unit->Shared->Prop}
end
section
variable {X:Cx} {pins:List (Addr×Obj)} {σ:St} {H:Hp} {s:Shared} {M:Model} {F:Value->Shared->Prop} {Q:Unit->Shared->Prop} {a C dx:Addr}
end
section
variable {P:Program} {w:World} {K:PySem.W.Frag} {mg:Str->Option Value} {base:Heap} {N:List Str} {qual:Str} {scope:Scope} {f:Addr} {cd:Value} {A:Around} {outer:List Env} {s₀:Shared} {H₀:Hp} {E:XK}
end
section
variable {X:Cx}
end
def qau:Obj:={cls:=.type "cell",data:=.cell none}
structure OwnC (n:Nat) (l:List (Str×NameKind)) (cs cs':List (Str×Addr)) (h h':Heap):Prop where
 kp:∀b o,h.get? b=some o->h'.get? b=some o
 same:∀x,(x,NameKind.cell)∉l->cs'.lookup x=cs.lookup x
 own:∀x,(x,NameKind.cell)∈l->∃c,cs'.lookup x=some c/\n<=c/\h'.get? c=some qau
 inj:∀x y c,(x,NameKind.cell)∈l->(y,NameKind.cell)∈l->cs'.lookup x=some c->cs'.lookup y=some c->x=y
structure qbH (X:Cx) (N':List Str) (ix:List (Option Nat)) (scope:Scope):Prop where
 kind:scope.kind=.function
 nd:(scope.names.map (·.1)).Nodup
 frees:(scope.names.all λx=>x.2 != .free || (X.env.scope.names.lookup x.1==some .cell || X.env.scope.names.lookup x.1==some .free))=true
 ixs:Gg N' X.N scope X.env.scope ix=true
section
variable {X:Cx} {N':List Str} {ix:List (Option Nat)} {scope:Scope} {pins:List (Addr×Obj)} {σ:St} {H:Hp} {s:Shared}
end
section
variable {X:Cx} {N':List Str} {ix:List (Option Nat)} {scope:Scope}
end
section
variable {X:Cx} {CX:XF} {k:Nat} {f C:Addr} {fd:FuncData} {ps:List Str} {sp:Sp} {dvs:List V} {ds:List Value} {E:St->XK} {m:Str} {pos apos:Pos} {e o:Expr} {es:List Expr} {ta:TE} {t:TA}
end
section
variable {X:Cx}
end
open PySem PySem.Spec PyProof.Rows PySem.W
section
variable {X:Cx}
end
section
variable {P:Program} {w:World} {K:PySem.W.Frag} {mg:Str->Option Value} {base:Heap} {CX:XF} {k:Nat} {f:Addr} {fd:FuncData} {ps:List Str} {sp sp':Sp}
end
open PySem PySem.Spec PyProof.Rows PySem.W
section
variable {X:Cx}
end
def RawD (h:Heap) (d:Addr) (es:Array DictEntry) (ep:Nat):Prop:=∃o,h.get? d=some o/\o.ExactDict/\o.data=.dict es ep
section
variable {prog:Program} {w:World} {A:Around} {E:Value->Shared->Prop} {s:Shared} {it d:Addr} {es:Array DictEntry} {i ep:Nat}
end
section
variable {X:Cx} {pins:List (Addr×Obj)} {σ:St} {H:Hp} {s:Shared} {tg:Expr}
end
section
variable {a:Addr} {o:Obj} {u:HO} {g:TG} {σ:St} {H:Hp}
end
open PySem PySem.Spec PyProof.Rows PySem.W
section
variable {X:Cx}
end
section
variable {prog:Program} {w:World} {KK:Type} [DecidableEq KK] {kd:HeapKind prog w KK} {A:Around} {E:Value->Shared->Prop} {s:Shared}
end
section
variable {X:Cx}
end
structure FnLd (P:Program) (w:World) (K:PySem.W.Frag) (mg:Str->Option Value) (base:Heap) (k:Nat) (f:Addr) (fd:FuncData) (ps:List Str) (sp:Sp):Prop where
 len:∀vs H Q E,sp vs H Q E->vs.length=ps.length
 run:∀(A:Around) (a:Value) (outer:List Env) (s:Shared) (H:Hp) (args:Args) (us:List Value) (vs:List V) (Q:VK) (E:XK),qV k A->XD P w K mg base (A.mark (some a)) outer s H->BindsTo s fd args (ps.zip us)->qI vs us->sp vs H Q E->
   codeAny (model P w) (A.mark (some a)) (.call (.ref f) args) (CR qK outer P w H s Q E) s
section
variable {P:Program} {w:World} {K:PySem.W.Frag} {mg:Str->Option Value} {base:Heap}
end
section
variable {X:Cx} {k:Nat} {f:Addr} {fd:FuncData} {ps:List Str} {sp:Sp} {x:Str} {p pos:Pos} {e:Expr} {es:List Expr} {t:TA} {a:Value} {E:Value->Shared->Prop}
end
section
variable {X:Cx}
theorem xP {P:Program} {w:World}:Qq (YN P w) X E0:=λ_ _ _ _ _ _ _ h=>by
 obtain⟨a,C,dx,T,Hx,H',_,_,_,_,_,_,_,_,_,_,z⟩:=h
 exact z.elim
end
section
variable {X:Cx} {CX:XF} {k:Nat} {f C:Addr} {fd:FuncData} {ps:List Str} {sp:Sp} {dvs:List V} {ds:List Value} {E:St->XK} {x m:Str} {p pos apos:Pos} {e o:Expr} {es:List Expr} {ta:TE} {t:TA}
end
section
variable {X:Cx}
end
section
variable {X:Cx} {pins:List (Addr×Obj)} {σ:St} {H:Hp} {s:Shared}
end
section
variable {prog:Program} {w:World} {A:Around} {E:Value->Shared->Prop} {s:Shared}
end
section
variable {X:Cx} {pos:Pos}
end
section
variable {X:Cx}
end
section
variable {X:Cx} {N':List Str} {ix:List (Option Nat)} {scope:Scope}
end
abbrev WV (o:Obj):HO:=.frz o (.frz o (.own 0))
def uB (q:Str) (oc:Obj):Prop:=∃(vs:Array Value) (t:Tok),oc.data=.fields vs/\vs[1]?=some (.str q t)
structure Ud (mg:Str->Option Value) (base:Heap) (c P:Addr):Prop where
 code:PySem.W.CodeHd base c P
 blt:base.BuiltinsAt mg P
abbrev Cx.shut (X:Cx):Cx:={X with fn:=λ_=>false}
theorem W7 {pos:Pos} {a b:Int} {c cv:Value} (l:List Value) (h:TriplesOk l) (e:codeAmong pos (l++[rawInt a,rawInt b,c])=some cv):codeAmong pos l=some cv\/cv=c:=by
 fun_induction TriplesOk l with
 | case1=>
   simp only[zdq,codeAmong,rawInt]at e
   split at e
   . exact .inr (tN.inj e).symm
   . cases e
 | case2 a t b u x rest ih=>
   simp only[zcw,codeAmong]at e ⊢
   split at e
   . rename_i hc;rw[if_pos hc];exact .inl e
   . rename_i hc;rw[if_neg hc];exact ih h e
 | case3 l h1 h2=>exact h.elim
section
variable {X:Cx} {pins:List (Addr×Obj)} {σ:St} {H:Hp} {s:Shared}
theorem Cx.Ok.shut (o:X.Ok):X.shut.Ok:=⟨o.mod,o.kind,o.glob,o.blt,o.above,o.inj,o.has,λ_ _ z=>Bool.noConfusion z,o.hd,o.frames,o.stk,o.exf,o.bs,o.bsz,o.noex,o.exfs,o.funs,o.frf⟩
def Jk (cs:Addr->Option Obj) (H:Hp):Hp:=λb=>match cs b with
 | some o=>some (WV o)
 | none=>H b
theorem Xw {cs:Addr->Option Obj} (hn:∀b o,cs b=some o->H b=none) {b:Addr} {u:HO} (e:H b=some u):Jk cs H b=some u:=by
 unfold Jk
 cases q:cs b with
 | none=>exact e
 | some o=>rw[hn b o q]at e;cases e
theorem Zn {cs:Addr->Option Obj} {b:Addr} (n:∀o,cs b≠some o):Jk cs H b=H b:=by
 unfold Jk
 cases q:cs b with
 | none=>rfl
 | some o=>exact absurd q (n o)
theorem Xx {cs:Addr->Option Obj} {b:Addr} {o:Obj} (e:cs b=some o):Jk cs H b=some (WV o):=by unfold Jk;rw[e]
theorem qF.catchN (I:qF X pins σ H s) {cs:Addr->Option Obj} (hc:∀b o,cs b=some o->∃x v,X.env.cells.lookup x=some b/\X.fn x=true/\s.heap.get? b=some o/\o.data=.cell v):∀b o,cs b=some o->H b=none:=λb o e=>by
 obtain⟨x,v,h1,h2,_⟩:=hc b o e
 rcases I.freeC x b h1 with q | ⟨q,_⟩
 . exact q
 . rw[h2]at q;cases q
theorem qF.catch (I:qF X pins σ H s) (cs:Addr->Option Obj) (hc:∀b o,cs b=some o->∃x v,X.env.cells.lookup x=some b/\X.fn x=true/\s.heap.get? b=some o/\o.data=.cell v):qF X.shut pins σ (Jk cs H) s:=by
 have hn:=I.catchN hc
 have same:∀{b:Addr} {u:HO},H b=some u->Jk cs H b=some u:=λe=>Xw hn e
 refine⟨I.ok.shut,I.os,I.bare,⟨I.base.keep,I.base.slot,λb o e n hx=>?_,I.base.there,λb xs e=>same (I.base.tups b xs e),λb o u e=>same (I.base.frzs b o u e),λb ps e=>?_⟩,I.loc,I.cell,?_,λx c e=>?_,λp hp=>?_,λb u e=>?_,I.len⟩
 . rw[Zn λo' q=>?_]
   . exact I.base.free b o e n hx
   . obtain⟨x,v,h1,h2,_⟩:=hc b o' q
     exact absurd (tP (tM e) (I.ok.cab x b h2 h1)) (zar _)
 . obtain⟨m,q⟩:=I.base.tbls b ps e
   exact⟨m,same q⟩
 . show Jk cs H X.env.locals=none
   rw[Zn λo' q=>?_]
   . exact I.free
   . obtain⟨x,v,h1,_⟩:=hc _ o' q
     exact I.cne x _ h1 rfl
 . cases q:cs c with
   | some o=>exact .inr ⟨rfl,o,Xx q⟩
   | none=>
     have e2:Jk cs H c=H c:=Zn λo z=>by rw[q]at z;cases z
     rw[e2]
     exact(I.freeC x c e).imp id λz=>⟨rfl,z.2⟩
 . obtain⟨e,n,ne,nf,d⟩:=I.pin p hp
   refine⟨e,?_,ne,nf,d⟩
   rw[Zn λo' q=>?_]
   . exact n
   . obtain⟨x,v,h1,h2,h3,h4⟩:=hc _ o' q
     rw[e]at h3
     cases h3
     exact d v h4
 . cases q:cs b with
   | some o=>
     rw[Xx q]at e
     cases e
     obtain⟨x,v,h1,h2,h3,h4⟩:=hc b o q
     exact⟨h3,h3,o,h3⟩
   | none=>
     rw[Zn λo z=>by rw[q]at z;cases z]at e
     exact(I.hok b u e).stay (λ_ _ _ z=>z) (λ_ z=>same z) (λ_ _ z=>same z) (λ_ _ z=>same z)
structure Made (X:Cx) (σ:St) (H H':Hp) (P:Addr) (name qual:Str) (params:Arguments) (body:List Stmt) (scope:Scope) (f c':Addr) (doc pm ctv:Value) (oc:Obj):Prop where
 same:qo H H'
 new:H f=none
 fn:H' f=some (WV (PySem.W.fnMade name qual params body scope (ja X.env scope.names []) doc pm c' ctv))
 cd:H' c'=some (.frz oc (.own P))
 cq:uB qual oc
 cells:∀x,(x,NameKind.free)∈scope.names->∃ca co v,(ja X.env scope.names []).lookup x=some ca/\H' ca=some (WV co)/\co.data=.cell v/\∀(i:Nat) (y:V),X.N[i]?=some x->σ[i]?=some (some y)->∃u,v=some u/\qP y u
 inj:∀x y c,(ja X.env scope.names []).lookup x=some c->(ja X.env scope.names []).lookup y=some c->x=y
def PB (X:Cx) (st:List Stmt) (t:TS):Prop:=
 ∀(pins:List (Addr×Obj)) (s:Shared) (σ:St) (H:Hp) (D:J6),qF X pins σ H s->t D σ H->wpAny (model X.prog X.w) X.A (execs st X.env) (λfl s'=>∃g,SP {X with fn:=g} pins D fl s') X.xe s
theorem qF.made_def {h':Heap} {P c':Addr} {ts:Array Value} {tk tq:Nat} {qual:Str} {pos:Pos} {oc fo:Obj} (I:qF X pins σ H s) (hP:H P=some (.tbl #[.str qual tq])) (eP:s.heap.get? P=some (zbE ts)) (tr:TriplesOk ts.toList)
   (cs:∀pos cv,codeAmong pos ts.toList=some cv->∃c oc,cv=.ref c/\H c=some (.frz oc (.own P))/\qaD #[.str qual tq] oc) (hx:Heap.ExtBut P s.heap h') (hge:s.heap.objs.size<=c') (hlt:c' < h'.objs.size) (hoc:h'.get? c'=some oc) (hq:uB qual oc)
   (htb:h'.get? P=some (zbE (ts++#[rawInt pos.line,rawInt pos.col,.ref c']))) (hfo:fo.isFreed=false):qF X pins σ (upd (upd H c' (.frz oc (.own P))) h'.objs.size (WV fo)) {s with heap:=h'.push fo,toks:=tk}:=by
 have hc0:H c'=none:=I.hok.fresh hge
 have hf0:H h'.objs.size=none:=I.hok.fresh (zag (zaw hge hlt))
 have up:∀{b:Addr} {u:HO},H b=some u->upd (upd H c' (.frz oc (.own P))) h'.objs.size (WV fo) b=some u:=λ{b u} e=>by
   rw[qi (qr e hf0),qi (qr e hc0)]
   exact e
 have nP:∀{b:Addr},H b=none->b≠P:=λn z=>by rw[z,hP]at n;cases n
 have old:∀b o,b≠P->s.heap.get? b=some o->(h'.push fo).get? b=some o:=λb o n e=>tu _ (hx b o n e)
 have lt:∀{b:Addr} {o:Obj},s.heap.get? b=some o->b≠h'.objs.size/\b≠c':=λe=>⟨tV (zdL (tP (tM e) hge) hlt),tV (tP (tM e) hge)⟩
 refine I.step (g':=s.gens) (d':=s.drawn) (ch:=[]) (λ_ z=>nomatch z) (λb o _ _ _ e n=>old b o (nP n) e) (λb o _ _ _ e n=>⟨o.slots,old b o (nP n) e⟩) (λb o _ e n=>?_) (λb o _ e=>?_) (λb xs e=>up e) (λb o u e=>up e) (λb ps e=>⟨#[],by rw[up e];simp⟩) (λm hm=>(hm.extBut hx (nP I.free)).push _) (λb u e=>?_) I.bare
 . rw[qi (lt e).1,qi (lt e).2]
   exact n
 . rcases Decidable.em (b=P) with z | z
   . rw[z];exact⟨_,tu _ htb⟩
   . exact⟨o,old b o z e⟩
 . rcases Decidable.em (b=h'.objs.size) with z | z
   . subst z
     rw[qe]at e
     cases e
     have:=tU h' hfo
     exact⟨this,this,_,this⟩
   rw[qi z]at e
   rcases Decidable.em (b=c') with z2 | z2
   . subst z2
     rw[qe]at e
     cases e
     have:=tu fo hoc
     exact⟨this,_,this⟩
   rw[qi z2]at e
   rcases Decidable.em (b=P) with z3 | z3
   . subst z3
     rw[hP]at e
     cases e
     refine⟨_,tu _ htb,?_,λpos' cv q=>?_⟩
     . rw[zbY]
       exact TriplesOk_snoc _ _ _ _ tr
     . rw[zbY]at q
       rcases W7 _ tr q with q | q
       . obtain⟨c,oc',e1,e2,e3⟩:=cs pos' cv q
         exact⟨c,oc',e1,up e2,e3⟩
       . obtain⟨vs,t,h1,h2⟩:=hq
         exact⟨c',oc,q,by rw[qi (tV hlt),qe],qual,tq,vs,t,rfl,h1,h2⟩
   . refine(I.hok b u e).stay (λc v hc g=>old c v ?_ g) (λ_ z=>up z) (λ_ _ z=>up z) (λ_ _ z=>up z)
     rcases hc with z | z
     . rw[z];exact z3
     . intro z'
       rw[z',hP]at z
       cases z
open Classical in
end
section
variable {P:Program} {w:World} {K:PySem.W.Frag} {mg:Str->Option Value} {base:Heap} {N:List Str} {qual:Str} {scope:Scope} {f:Addr} {cd:Value} {A:Around} {outer:List Env} {s₀:Shared} {H₀:Hp} {E:XK}
end
section
variable {P:Program} {w:World} {K:PySem.W.Frag} {mg:Str->Option Value} {base:Heap}
theorem jI.okB {CX:XF} {x qual:Str} {st:Stmt} {f c:Addr} {fd:FuncData} {N ps:List Str} {k:Nat} {sp:Sp} (F:jI K x qual st f fd) (hc:fd.code=.ref c) (S:qt N ps (qj st)) (len:∀vs H Q E,sp vs H Q E->vs.length=ps.length)
   (hbody:∀(A:Around) (outer:List Env) (s:Shared) (H:Hp) (vs:List V) (Q:VK) (E:XK),qV k (A.deeper (envOfC qual (qj st) s.heap.objs.size f (.ref c)))->sp vs H Q E->
     ∃t,PB (J9 CX P w K mg base N qual (qj st) f (.ref c) A outer s H E) (jM st) t/\t {nx:=λ_ H'=>Q .non H',rt:=Q} (Qc N vs) H):qm P w K mg base CX (k+1) f fd ps sp:=by
 obtain⟨oc,od,kV,doc,pm,an,cdv,ct,osl,rfl,lk,hcd⟩:=F.ex
 have hc':cdv=.ref c:=hc
 subst hc'
 refine⟨len,λA outer s H args us vs Q E hr e0 hb r hsp=>?_⟩
 have hl:=len _ _ _ _ hsp
 have KX:K.In s.heap:=e0.mod.kin.keeps λb o e=>(e0.bs b o e).1
 have lim:s.heap.NoLimit:=e0.mod.nolimit.keeps λb o e=>(e0.bs b o e).1
 have hkind:∀y∈ps.zip us,(qj st).names.lookup y.1=some .local\/((qj st).names.lookup y.1=some .cell/\((cellsFrom (s.heap.objs.size+1) (qj st).names []).lookup y.1).isSome=true):=λ⟨n,v⟩ hy=>by
   rcases S.par n (zbI hy).1 with q | q
   . exact .inl q
   . exact .inr ⟨q,zcm _ _ _ (.inl q)⟩
 refine codeAny_call_function hr.depth (KX _ _ lk) rfl S.co S.gen rfl (zdF KX hcd) (hb _ _ _ _ ?_)
 refine wpAny_newFunctionEnv_cells S.kind hkind λenv he s1 x=>?_
 subst he
 refine⟨lim.keeps x.toInCall.keep,codeAny_func ?_⟩
 obtain⟨t,ht,hq⟩:=hbody A outer s H vs Q E (hr.deeper _) hsp
 have I:qF (J9 CX P w K mg base N qual (qj st) f (.ref c) A outer s H E) [] (Qc N vs) H s1:=Wd S hr.hd e0 hl r x
 refine wpAny_mono (ht [] s1 (Qc N vs) H _ I hq) (λfl s' hs=>?_) λe s' hs=>hs
 obtain⟨g,hs⟩:=hs
 have fin:∀{σ':St} {H':Hp} {v:V} {u:Value},qF {J9 CX P w K mg base N qual (qj st) f (.ref c) A outer s H E with fn:=g} [] σ' H' s'->qP v u->Q v H'->CE outer P w H s Q u s':=
   λ{σ' H' v u} J rv q=>⟨v,H',J.os,J.bare,J.base,J.hok,rv,q⟩
 cases fl with
 | ret u=>
   obtain⟨v,σ',H',J,rv,q⟩:=hs
   exact fin J rv q
 | next=>
   obtain⟨σ',H',J,q⟩:=hs
   exact fin (v:=V.non) (u:=Value.none) J rfl q
 | brk=>
   obtain⟨_,_,_,q⟩:=hs
   exact False.elim q
 | cont=>
   obtain⟨_,_,_,q⟩:=hs
   exact False.elim q
end
structure Uh (N ps fr:List Str) (sc:Scope):Prop where
 kind:sc.kind=.function
 co:sc.isCoroutine=false
 gen:sc.isGenerator=false
 nd:N.Nodup
 pre:N.take (ps++fr).length=ps++fr
 par:∀x∈ps,sc.names.lookup x=some .local
 free:∀x∈fr,sc.names.lookup x=some .free
 frees:∀y∈sc.names,y.2=.free->y.1∈fr
 nocell:∀y∈sc.names,y.2≠.cell
structure Clo (H:Hp) (P f:Addr) (name qual:Str) (st:Stmt) (fd:FuncData) (ws:List (Str×V)):Prop where
 ex:∃(doc pm ctv:Value) (c':Addr) (cl:List (Str×Addr)) (oc:Obj),fd=PySem.W.fnX name qual (Qz st) (jM st) (qj st) cl .none .none doc pm none (.ref c') ctv/\H f=some (WV {cls:=.type "function",data:=.func fd})/\H c'=some (.frz oc (.own P))/\uB qual oc/\
   (∀x y c,cl.lookup x=some c->cl.lookup y=some c->x=y)/\(∀x c,cl.lookup x=some c->x∈ws.map (·.1))/\
   ∀x v,(x,v)∈ws->∃c o u,cl.lookup x=some c/\H c=some (WV o)/\o.data=.cell (some u)/\qP v u
def uq (CX:XF) (P:Program) (w:World) (K:PySem.W.Frag) (mg:Str->Option Value) (base:Heap) (N:List Str) (qual:Str) (scope:Scope) (f:Addr) (cd:Value) (cl:List (Str×Addr)) (A:Around) (outer:List Env) (s:Shared) (H:Hp) (E:XK):Cx where
 prog:=P
 w:=w
 K:=K
 mg:=mg
 base:=base
 A:=A.deeper (zcp qual scope s.heap.objs.size f cd cl)
 N:=N
 s₀:=s
 H₀:=H
 env:=zcp qual scope s.heap.objs.size f cd cl
 outer:=outer
 stack:=zcp qual scope s.heap.objs.size f cd cl::outer
 ex:=[]
 calm:=true
 fn:=λ_=>false
 pn:=[]
 xe:=λe s'=>wpAny (model P w) (A.deeper (zcp qual scope s.heap.objs.size f cd cl)) (leaving (zcp qual scope s.heap.objs.size f cd cl) e) (λ_ s''=>CX outer H s E e s'') (λe' s''=>CX outer H s E e' s'') s'
theorem UO {x:Str} {u:Value}:∀{ps:List Str} {us:List Value} {i:Nat},ps.Nodup->ps[i]?=some x->us[i]?=some u->(ps.zip us).reverse.lookup x=some u:=by
 intro ps
 induction ps with
 | nil=>intro us i _ h;cases h
 | cons p ps ih=>
   intro us i nd h1 h2
   cases us with
   | nil=>cases h2
   | cons v us=>
     rw[List.zip_cons_cons,zda]
     obtain⟨np,nd⟩:=zal.mp nd
     cases i with
     | zero=>
       obtain rfl:p=x:=by simpa using h1
       obtain rfl:v=u:=by simpa using h2
       have:(ps.zip us).reverse.lookup p=none:=by
         rw[List.lookup_eq_none_iff]
         intro q hq
         have:=(zbI (zcx.mp hq)).1
         simp only[beq_eq_false_iff_ne,ne_eq,Bool.not_eq_true,bne_iff_ne]
         intro z
         rw[z]at np
         exact np this
       rw[zdG,this]
       simp
     | succ i=>
       have:=ih nd (by simpa using h1) (by simpa using h2)
       rw[zdG,this]
       rfl
section
variable {P:Program} {w:World} {K:PySem.W.Frag} {mg:Str->Option Value} {base:Heap}
end
section
variable {X:Cx} {CX:XF} {C:Addr->FuncData->Sp->Prop} {E:St->XK} {x:Str} {p pos:Pos} {e:Expr} {es:List Expr} {t:TA} {i:Nat}
end
structure Ue where
 x:Str
 c:Addr
 P:Addr
 q:Str
def QR (tabs:List Ue) (H:Hp):Hp:=λb=>match tabs.find? λq=>q.P==b with
 | some q=>some (.tbl #[.str q.q 0])
 | none=>H b
theorem Z0 {tabs:List Ue} {H:Hp} {b:Addr} (h:∀q∈tabs,q.P≠b):QR tabs H b=H b:=by
 unfold QR
 cases e:tabs.find? λq=>q.P==b with
 | none=>rfl
 | some q=>exact absurd (beq_iff_eq.mp (List.find?_some (p:=λq:Ue=>q.P==b) e)) (h q (zbW e))
theorem zC {tabs:List Ue} {H:Hp} {b:Addr} {q:Ue} (h:q∈tabs) (e:q.P=b):∃q'∈tabs,q'.P=b/\QR tabs H b=some (.tbl #[.str q'.q 0]):=by
 unfold QR
 cases e2:tabs.find? λq=>q.P==b with
 | none=>exact absurd (beq_iff_eq.mpr e) (by simpa using zdH.mp e2 q h)
 | some q'=>exact⟨q',zbW e2,beq_iff_eq.mp (List.find?_some (p:=λq:Ue=>q.P==b) e2),rfl⟩
theorem uO {tabs:List Ue} {H:Hp} (nd:(tabs.map (·.P)).Nodup) {q:Ue} (h:q∈tabs):QR tabs H q.P=some (.tbl #[.str q.q 0]):=by
 obtain⟨q',h',e,r⟩:=zC (H:=H) h rfl
 have:q'=q:=by
   have inj:∀{l:List Ue},(l.map (·.P)).Nodup->∀{a b:Ue},a∈l->b∈l->a.P=b.P->a=b:=by
     intro l
     induction l with
     | nil=>intro _ a b h;cases h
     | cons z l ih=>
       intro n a b ha hb e
       rw[tW,zal]at n
       rcases tY.mp ha with ea | ha
       . rcases tY.mp hb with eb | hb
         . rw[ea,eb]
         . exact absurd (tL.mpr ⟨b,hb,by rw[<-e,ea]⟩) n.1
       . rcases tY.mp hb with eb | hb
         . exact absurd (tL.mpr ⟨a,ha,by rw[e,eb]⟩) n.1
         . exact ih n.2 ha hb e
   exact inj nd h' h e
 rw[r,this]
theorem yn {P:Program} {w:World} {K:PySem.W.Frag} {mg mb:Str->Option Value} {CX:XF} {k:Nat} {fa a:Addr} {fd:FuncData} {x:Str} {sp:Sp} {s₁:Shared} {vs:List Value} {ns:List Int} {tabs:List Ue}
   (KX:K.In s₁.heap) (hns:s₁.heap.Ns mainGlobals mg) (hb:s₁.heap.Ns builtinsNs mb) (hbb:∀x:Str,x≠"__name__"->mb x=bootBuiltins x) (hlim:s₁.heap.NoLimit) (hg:s₁.gens=#[])
   (ha:s₁.heap.get? a=some {cls:=.type "list",data:=.seq vs.toArray}) (hi:IntsAre vs ns) (hl:ns.length<=sizeLine) (hr:qV k callerA)
   (hT:∀q∈tabs,PySem.W.CodeHd s₁.heap q.c q.P/\s₁.heap.get? q.P=some (zbE #[])) (nd:(tabs.map (·.P)).Nodup) (hbl:∃bm o,mg "__builtins__"=some (.ref bm)/\bm≠builtinsNs/\bm≠mainGlobals/\s₁.heap.get? bm=some o/\o.cls=.type "module"/\o.dict=some builtinsNs/\o.data=.plain) (hnt:zdx K=true)
   (F:∀base:Heap,K.In base->base.Ns mainGlobals mg->(∀q∈tabs,Ud mg base q.c q.P)->qm P w K mg base CX k fa fd [x] sp) (hbind:∀(s:Shared) (u:Value),BindsTo s fd ⟨[u],[]⟩ [(x,u)])
   (hsp:∀H:Hp,SqL K H a (ns.map V.int)->(∀q∈tabs,H q.P=some (.tbl #[.str q.q 0]))->sp [.ref a] H (λv _=>v=.bl true) λ_ _ _=>False)
   (hCX:∀H e s',CX [] H s₁ (λ_ _ _=>False) e s'->False):
   codeAny (model P w) callerA (.call (.ref fa) ⟨[.ref a],[]⟩) (λr s'=>r=.ok (.ret (.bool true))/\OldK s₁.heap s'.heap/\s'.os=s₁.os/\AllBare s'.gens) s₁:=by
 have rv:=XS hi
 have lenV:=hi.length
 have naP:∀q∈tabs,q.P≠a:=λq hq z=>by
   have:=(hT q hq).2
   rw[z,ha]at this
   cases this
 have core:∀H0:Hp,qbB H0->SqL K H0 a (ns.map V.int)->J5 P w H0 s₁.heap->(∀b,H0 b≠none->b=a)->(H0 a≠none->K.lookup a=none)->
     codeAny (model P w) callerA (.call (.ref fa) ⟨[.ref a],[]⟩) (λr s'=>r=.ok (.ret (.bool true))/\OldK s₁.heap s'.heap/\s'.os=s₁.os/\AllBare s'.gens) s₁:=by
   intro H0 hO hS0 hok0 hA hK
   have hS:SqL K (QR tabs H0) a (ns.map V.int):=by
     have e:QR tabs H0 a=H0 a:=Z0 naP
     rcases hS0 with (h | ⟨o,h⟩) | h
     . exact .inl (.inl (e.trans h))
     . exact .inl (.inr ⟨o,e.trans h⟩)
     . exact .inr h
   have cases_:∀b,QR tabs H0 b≠none->b=a\/∃q∈tabs,q.P=b:=λb z=>by
     rcases Classical.em (∃q∈tabs,q.P=b) with h | h
     . exact .inr h
     . rw[Z0 λq hq e=>h ⟨q,hq,e⟩]at z
       exact .inl (hA b z)
   have hok:J5 P w (QR tabs H0) s₁.heap:=λb u e=>by
     rcases Classical.em (∃q∈tabs,q.P=b) with ⟨q,hq,eq⟩ | h
     . obtain⟨q',hq',e',r⟩:=zC (H:=H0) hq eq
       rw[r]at e
       cases e
       exact⟨#[],by rw[<-e'];exact(hT q' hq').2,True.intro,λpos cv z=>nomatch z⟩
     . rw[Z0 λq hq e=>h ⟨q,hq,e⟩]at e
       have hb':b=a:=hA b (by rw[e];exact λz=>nomatch z)
       rcases hO b with z | ⟨o,xs,z⟩
       . rw[z]at e;cases e
       . rw[z]at e
         cases e
         obtain⟨h1,h2,its,n,h3,h4⟩:=(show qS P w H0 s₁.heap b (.frz o (.lst xs)) from hok0 b _ z)
         exact⟨h1,h2,its,n,h3,h4⟩
   have noT:∀{b:Addr} {o:Obj},s₁.heap.get? b=some o->o≠zbE #[]->o≠{cls:=.type "list",data:=.seq vs.toArray}->QR tabs H0 b=none:=λ{b o} e n1 n2=>by
     cases q:QR tabs H0 b with
     | none=>rfl
     | some u=>
       rcases cases_ b (by rw[q];exact λz=>nomatch z) with z | ⟨t,ht,z⟩
       . rw[z,ha]at e
         exact absurd (tN.inj e).symm n2
       . have:=(hT t ht).2
         rw[z,e]at this
         exact absurd (tN.inj this) n1
   have base_of:∀{b:Addr} {o:Obj},s₁.heap.get? b=some o->QR tabs H0 b=none->(XM s₁.heap (QR tabs H0)).get? b=some o:=λe n=>w4 e n
   have nsK:∀{b:Addr} {m:Str->Option Value},s₁.heap.Ns b m->(XM s₁.heap (QR tabs H0)).Ns b m:=λ{b m} ⟨o,es,ep,e,d,r⟩=>⟨o,es,ep,base_of e (noT e (λz=>by rw[z]at d;cases d) (λz=>by rw[z]at d;cases d)),d,r⟩
   have hKb:K.In (XM s₁.heap (QR tabs H0)):=λb o e=>base_of (KX b o e) (by
     cases q:QR tabs H0 b with
     | none=>rfl
     | some u=>
       rcases cases_ b (by rw[q];exact λz=>nomatch z) with z | ⟨t,ht,z⟩
       . have e1:QR tabs H0 a=H0 a:=Z0 naP
         rw[z,e1]at q
         rw[z,hK (by rw[q];exact λz=>nomatch z)]at e
         cases e
       . have:=(hT t ht).2
         rw[z,KX b o e]at this
         have h2:=zaL.mp hnt (b,o) (PySem.W.mem_of_lookupK e)
         rw[tN.inj this]at h2
         exact absurd (show false=true from h2) tO)
   have hM:Mod K mg (XM s₁.heap (QR tabs H0)):=⟨hKb,nsK hns,⟨mb,nsK hb,hbb⟩,let ⟨mc,h1,h2⟩:=hlim;⟨mc,nsK h1,h2⟩⟩
   have hTM:∀q∈tabs,Ud mg (XM s₁.heap (QR tabs H0)) q.c q.P:=λq hq=>by
     refine⟨?_,?_⟩
     . obtain⟨o,vs',file,tf,flags,tg,inF,text,tt,e1,e2,r⟩:=(hT q hq).1
       exact⟨o,vs',file,tf,flags,tg,inF,text,tt,base_of e1 (noT e1 (λz=>by rw[z]at e2;cases e2) (λz=>by rw[z]at e2;exact absurd (show Value.type "list"=Value.type "code" from e2) (by decide))),e2,r⟩
     . obtain⟨bm,o,b1,b2,b3,b4,b5,b6,b7⟩:=hbl
       refine⟨bm,o,b1,b2,b3,λz=>?_,base_of b4 (noT b4 (λz=>by rw[z]at b5;cases b5) (λz=>by rw[z]at b5;exact absurd (show Value.type "list"=Value.type "module" from b5) (by decide))),b5,b6,b7⟩
       have:=(hT q hq).2
       rw[<-z,b4]at this
       cases this
       cases b5
   have e0:XD P w K mg (XM s₁.heap (QR tabs H0)) callerA [] s₁ (QR tabs H0):=⟨rfl,hM,λb o e=>KS e,zdk (yx _ _),trivial,λb hb=>absurd (show b∈([]:List Addr) from hb) (by simp),hok,.of_eq hg⟩
   refine codeAny_mono ((F _ hKb (nsK hns) hTM).run callerA [] s₁ (QR tabs H0) ⟨[.ref a],[]⟩ [.ref a] [.ref a] _ _ hr e0 (hbind s₁ (.ref a)) (.cons rfl .nil) (hsp _ hS λq hq=>uO nd hq)) λr s' h=>?_
   cases r with
   | error e=>exact(hCX _ e s' h).elim
   | ok fl=>
     cases fl with
     | next=>exact False.elim h
     | brk=>exact False.elim h
     | cont=>exact False.elim h
     | ret u=>
       obtain⟨v,H',os,bare,un,hok',r',q⟩:=h
       have q':v=.bl true:=q
       subst q'
       obtain rfl:u=Value.bool true:=r'
       have all:∀b o,s₁.heap.get? b=some o->s'.heap.get? b=some o\/∃t∈tabs,t.P=b/\∃ts,s'.heap.get? b=some (zbE ts):=λb o e=>by
         rcases Classical.em (∃q∈tabs,q.P=b) with ⟨t,ht,et⟩ | h
         . obtain⟨t',ht',e',r⟩:=zC (H:=H0) ht et
           obtain⟨m,z⟩:=un.tbls b _ r
           obtain⟨ts,z2,_⟩:=(show qS P w H' s'.heap b (.tbl _) from hok' b _ z)
           exact .inr ⟨t,ht,et,ts,z2⟩
         . have e1:QR tabs H0 b=H0 b:=Z0 λq hq e=>h ⟨q,hq,e⟩
           cases q:H0 b with
           | none=>exact .inl (un.keep b o e (e1.trans q) (by intro z;exact absurd (show b∈([]:List Addr) from z) (by simp)) (by simp))
           | some u=>
             rcases hO b with z | ⟨ob,xs,z⟩
             . rw[q]at z;cases z
             . have z2:=un.frzs b ob _ (e1.trans z)
               obtain⟨h1,_⟩:=hok0 b _ z
               obtain⟨h2,_⟩:=hok' b _ z2
               rw[e]at h1;cases h1
               exact .inl h2
       refine⟨rfl,⟨λb o e=>?_,λb o e=>?_⟩,os,bare⟩
       . rcases all b o e with z | ⟨t,ht,et,ts,z⟩
         . exact .inl z
         . have e2:=(hT t ht).2
           rw[et,e]at e2
           cases e2
           subst et
           exact .inr (.inl ⟨((hT t ht).1.tab (hT t ht).2).isCodeTable,rfl,#[],ts,rfl,by rw[Array.empty_append];exact z⟩)
       . rcases all b o e with z | ⟨t,ht,et,ts,z⟩
         . exact⟨_,z⟩
         . exact⟨_,z⟩
 cases hk:K.lookup a with
 | some o=>
   have e:=KX a o hk
   rw[ha]at e
   cases e
   refine core (λ_=>none) (λ_=>.inl rfl) (.inr ⟨_,vs.toArray,_,hk,rfl,rfl,rfl,by rw[t7,lenV];exact hl,by simpa using rv⟩) (λb u z=>by have z':(none:Option HO)=some u:=z;cases z') (λb z=>absurd rfl z) λz=>absurd rfl z
 | none=>
   refine core (λb=>if b=a then some (.frz {cls:=.type "list",data:=.seq vs.toArray} (.lst (ns.map V.int))) else none) (λb=>?_) (.inl (.inr ⟨{cls:=.type "list",data:=.seq vs.toArray},if_pos rfl⟩)) (λb u z=>?_) (λb z=>?_) λ_=>hk
   . by_cases hb:b=a
     . exact .inr ⟨_,_,if_pos hb⟩
     . exact .inl (if_neg hb)
   . by_cases hb:b=a
     . have z':=(if_pos hb).symm.trans z
       cases z'
       subst hb
       exact⟨ha,by rw[tj];exact hl,vs,_,rv,ha⟩
     . have z':=(if_neg hb).symm.trans z
       cases z'
   . by_cases hb:b=a
     . exact hb
     . exact absurd (if_neg hb) z
theorem walk_ofT {l:PySem.W.OpenLaw} {n k:Nat} {q:Program} {loose:List Str} {XP:(Str->Option Value)->Heap->Prop} {YP:World->Heap->Prop} {d:DefRec} {K:Params->PySem.W.Frag} {sp:PySem.W.Frag->List Ue->Sp} {x:Str} {ts:List Addr}
   (hn:l.most=some n) (hn2:n<=sizeLine) (hdf:d.params.defaults=[]) (hr:qV k callerA)
   (hY:∀(w:World) (h:Heap),YP w h->(K w.params).In h) (hTs:∀(w:World) (h:Heap),YP w h->∀P∈ts,h.get? P=some (zbE #[])) (hnt:∀w:World,zdx (K w.params)=true)
   (F:∀(w:World) (mg:Str->Option Value) (fa:Addr) (h:Heap),(K w.params).In h->h.Ns mainGlobals mg->mg d.name=some (.ref fa)->
     ∃(tabs:List Ue) (fd:FuncData),(tabs.map (·.P)).Nodup/\(∀t∈tabs,t.P∈ts/\zcy (K w.params) t.c t.P=true)/\(∀(s:Shared) (u:Value),BindsTo s fd ⟨[u],[]⟩ [(x,u)])/\
      ∀base:Heap,(K w.params).In base->base.Ns mainGlobals mg->(∀t∈tabs,Ud mg base t.c t.P)->qm l.prog w (K w.params) mg base qK k fa fd [x] (sp (K w.params) tabs))
   (hsp:∀(K:PySem.W.Frag) (tabs:List Ue) (H:Hp) (a:Addr) (ns:List Int),ns.length<=n->SqL K H a (ns.map V.int)->(∀q∈tabs,H q.P=some (.tbl #[.str q.q 0]))->sp K tabs [.ref a] H (λv _=>v=.bl true) λ_ _ _=>False):
   PySem.W.WalkO q loose XP YP l.row.toRowW d [] (λf vs=>PySem.call f vs):=by
 refine Att.attach_call hn hdf λw s₀ s₁ mg mb fa o pm cd doc a vs ns G Y ho hd hcd hmg hobj hints hlen hg=>?_
 have KX:=hY w _ Y
 obtain⟨tabs,fd,nd,ht,hb,hF⟩:=F w mg fa _ KX G.T.g hmg
 refine yn KX G.T.g G.T.b G.T.builtins G.T.nolimit hg hobj hints (zac hlen hn2) hr (tabs:=tabs) (λt hm=>⟨PySem.W.codeHd_of_K KX (ht t hm).2,hTs w _ Y _ (ht t hm).1⟩) nd ?_ (hnt w) hF hb (λH hS hP=>hsp _ _ H a ns hlen hS hP) λH e s' z=>z
 obtain⟨bm,ob,a1,a2,a3,a4,a5,a6⟩:=G.T.bmain
 refine⟨bm,ob,a1,a2,λz=>?_,a3,a4,a5,a6⟩
 obtain⟨o',es,ep,e,hd',_⟩:=G.T.g
 rw[z,e]at a3
 cases a3
 rw[hd']at a6
 cases a6
mutual
inductive DG (H:Hp):V->PyData->Prop
 | non:DG H .non .none
 | bl (b:Bool):DG H (.bl b) (.bool b)
 | int (i:Int):DG H (.int i) (.int i)
 | str (x:Str):DG H (.str x) (.str x)
 | lst {a:Addr} {xs:List V} {ds:List PyData}:H a=some (.lst xs)->a≠sysModules->DGs H xs ds->DG H (.ref a) (.list ds)
 | tup {a:Addr} {xs:List V} {ds:List PyData}:H a=some (.tup xs)->DGs H xs ds->DG H (.ref a) (.tuple ds)
 | dct0 {a:Addr}:H a=some (.dK [])->DG H (.ref a) (.dict [])
 | dct1 {a:Addr} {z:Str} {i:Int}:H a=some (.dK [(Sum.inr z,.int i)])->DG H (.ref a) (.dict [(.str z,.int i)])
inductive DGs (H:Hp):List V->List PyData->Prop
 | nil:DGs H [] []
 | cons {x:V} {xs:List V} {d:PyData} {ds:List PyData}:DG H x d->DGs H xs ds->DGs H (x::xs) (d::ds)
end
section
variable {X:Cx} {pins:List (Addr×Obj)} {σ:St} {H:Hp} {s:Shared}
end
section
variable {X:Cx}
end
structure U5 (H:Hp) (P f:Addr) (qual:Str) (ag:Arguments) (be:Expr) (sc:Scope) (fd:FuncData) (ws:List (Str×V)):Prop where
 ex:∃(pm ctv:Value) (c':Addr) (cl:List (Str×Addr)) (oc:Obj),fd=zdy "<lambda>" qual ag be sc cl pm (.ref c') ctv/\H f=some (WV {cls:=.type "function",data:=.func fd})/\H c'=some (.frz oc (.own P))/\uB qual oc/\
   (∀x y c,cl.lookup x=some c->cl.lookup y=some c->x=y)/\(∀x c,cl.lookup x=some c->x∈ws.map (·.1))/\
   ∀x v,(x,v)∈ws->∃c o u,cl.lookup x=some c/\H c=some (WV o)/\o.data=.cell (some u)/\qP v u
theorem U5.mono {H H':Hp} {P f:Addr} {qual:Str} {ag:Arguments} {be:Expr} {sc:Scope} {fd:FuncData} {ws:List (Str×V)} (h:U5 H P f qual ag be sc fd ws) (k:∀b o u,H b=some (.frz o u)->H' b=some (.frz o u)):U5 H' P f qual ag be sc fd ws:=by
 obtain⟨pm,ctv,c',cl,oc,h1,h2,h3,h4,h5,h6,h7⟩:=h.ex
 exact⟨pm,ctv,c',cl,oc,h1,k _ _ _ h2,k _ _ _ h3,h4,h5,h6,λx v hx=>let ⟨c,o,u,a,b,d,e⟩:=h7 x v hx;⟨c,o,u,a,k _ _ _ b,d,e⟩⟩
section
variable {P:Program} {w:World} {K:PySem.W.Frag} {mg:Str->Option Value} {base:Heap}
theorem GD {CX:XF} {PT f:Addr} {qual:Str} {ag:Arguments} {be:Expr} {sc:Scope} {fd:FuncData} {N ps fr:List Str} {k:Nat} {sp:List (Str×V)->Sp} (S:Uh N ps fr sc) (len:∀ws vs H Q E,sp ws vs H Q E->vs.length=ps.length/\ws.map (·.1)=fr)
   (hbody:∀(c':Addr) (cl:List (Str×Addr)) (A:Around) (outer:List Env) (s:Shared) (H:Hp) (ws:List (Str×V)) (vs:List V) (Q:VK) (E:XK),qV k (A.deeper (zcp qual sc s.heap.objs.size f (.ref c') cl))->sp ws vs H Q E->
     ∃t,JE (uq CX P w K mg base N qual sc f (.ref c') cl A outer s H E) be t/\t (Qc N (vs++ws.map (·.2))) H Q):
   qm P w K mg base CX (k+1) f fd ps (λvs H Q E=>∃ws,U5 H PT f qual ag be sc fd ws/\sp ws vs H Q E):=by
 refine⟨λvs H Q E ⟨ws,_,h⟩=>(len _ _ _ _ _ h).1,λA outer s H args us vs Q E hr e0 hb r ⟨ws,C,hsp⟩=>?_⟩
 obtain⟨hl,hw⟩:=len _ _ _ _ _ hsp
 obtain⟨pm,ctv,c',cl,oc,rfl,hf,hcd,⟨vs',t',hd',hv'⟩,inj,clw,cells⟩:=C.ex
 have ef:=(show qS P w H s.heap f (WV _) from e0.hok f _ hf).1
 have ec:=(show qS P w H s.heap c' (.frz oc (.own PT)) from e0.hok c' _ hcd).1
 have lim:s.heap.NoLimit:=e0.mod.nolimit.keeps λb o e=>(e0.bs b o e).1
 refine PySem.W.kla_callFunE hr.depth ef rfl S.co S.gen rfl ⟨c',oc,vs',t',rfl,ec,hd',hv'⟩ (hb _ _ _ _ ?_)
 refine wpAny_newFunctionEnv S.nocell (λy hy=>S.par y.1 (zbI hy).1) (λh1 hns hsb=>?_) S.kind
 have hk:∀b o,s.heap.get? b=some o->h1.get? b=some o:=λb o e=>hsb.extBut b o (tV (tM e)) (tu _ e)
 refine⟨lim.keeps hk,PySem.W.kla_codeExpr ?_⟩
 obtain⟨t,ht,hq⟩:=hbody c' cl A outer s H ws vs Q E (hr.deeper _) hsp
 have noA:∀b:Addr,b∉(uq CX P w K mg base N qual sc f (.ref c') cl A outer s H E).ex:=λb z=>absurd (show b∈([]:List Addr) from z) (by simp)
 have lw:ws.length=fr.length:=by have:=congrArg zaD hw;simpa using this
 have hN:ps.length+fr.length<=N.length:=by
   have:=congrArg zaD S.pre
   rw[tS,tK]at this
   omega
 have kn:∀x c,cl.lookup x=some c->∃o u,H c=some (WV o)/\o.data=.cell (some u):=λx c e=>by
   obtain⟨⟨y,v⟩,hy,rfl⟩:=tL.mp (clw x c e)
   obtain⟨c2,o,u,a,b,d,_⟩:=cells y v hy
   rw[e]at a
   cases a
   exact⟨o,u,b,d⟩
 have I:qF (uq CX P w K mg base N qual sc f (.ref c') cl A outer s H E) [] (Qc N (vs++ws.map (·.2))) H {s with heap:=h1,toks:=s.toks+(ps.zip us).length}:=by
   refine⟨⟨e0.mod,S.kind,rfl,rfl,tE _,inj,λy hy=>?_,λ_ _ z=>Bool.noConfusion z,λ_=>hr.hd,Around.frames_deeper e0.frames,.inr ⟨rfl,rfl⟩,λb z=>absurd z (noA b),e0.bs,e0.bsz,λb _ _=>noA b,λb z=>absurd z (noA b),e0.funs,e0.frf⟩,
     rfl,e0.bare,Un.kept hk,⟨_,hns,λi y v q1 q2 q3=>?_⟩,λy c h=>?_,e0.hok.fresh (tE _),λy c h=>?_,λp hp=>absurd (show p∈([]:List (Addr×Obj)) from hp) (by simp),e0.hok.kept hk,?_⟩
   . have hy:sc.names.lookup y=some .cell\/sc.names.lookup y=some .free:=hy
     rcases hy with hy | hy
     . exact absurd rfl (S.nocell _ (PySem.mem_of_lookup hy))
     . have:=S.frees _ (PySem.mem_of_lookup hy) rfl
       rw[<-hw]at this
       obtain⟨⟨z,v⟩,hz,ez⟩:=tL.mp this
       obtain⟨c2,o,u,a,_⟩:=cells z v hz
       exact⟨c2,by rw[<-show z=y from ez];exact a⟩
   . have hi:i < (vs++ws.map (·.2)).length:=by
       rcases zbU i (vs++ws.map (·.2)).length with z | z
       . exact z
       . unfold Qc at q2
         rw[zaf (by simpa using z),zde]at q2
         split at q2<;>cases q2
     have q2':(vs++ws.map (·.2))[i]?=some v:=by
       unfold Qc at q2
       rw[zaj (by simpa using hi),tH]at q2
       cases e:(vs++ws.map (·.2))[i]? with
       | none=>rw[e]at q2;cases q2
       | some z=>rw[e]at q2;cases q2;rfl
     rw[tK,tj]at hi
     have q1':(ps++fr)[i]?=some y:=by
       rw[<-S.pre,zbA (by rw[tK];omega)]
       exact q1
     rcases zbU i vs.length with z | z
     . rw[zaj z]at q2'
       rw[zaj (by omega)]at q1'
       obtain⟨u,hu,rv⟩:=r.get q2'
       have ndP:ps.Nodup:=by
         have:=S.nd.sublist (zcZ (ps++fr).length N)
         rw[S.pre]at this
         exact(zdc.mp this).1
       exact⟨u,rv,.inl ⟨S.par y (t8 q1'),UO ndP q1' hu⟩⟩
     . rw[zaf z,tH]at q2'
       rw[zaf (by omega),<-hl]at q1'
       rw[<-hw,tH]at q1'
       cases e:ws[i - vs.length]? with
       | none=>rw[e]at q2';cases q2'
       | some yv=>
         rw[e]at q2' q1'
         obtain rfl:yv.1=y:=tN.inj q1'
         obtain rfl:yv.2=v:=tN.inj q2'
         have hm:yv∈ws:=t8 e
         obtain⟨c2,o,u,a,b,d,rv⟩:=cells yv.1 yv.2 hm
         have fy:sc.names.lookup yv.1=some .free:=S.free _ (by rw[<-hw];exact tL.mpr ⟨yv,hm,rfl⟩)
         exact⟨u,rv,.inr ⟨.inr fy,c2,a,o,hk _ _ (show qS P w H s.heap c2 (WV o) from e0.hok c2 _ b).1,d⟩⟩
   . obtain⟨o,u,b,d⟩:=kn y c h
     exact⟨some u,o,hk _ _ (show qS P w H s.heap c (WV o) from e0.hok c _ b).1,d⟩
   . obtain⟨o,u,b,d⟩:=kn y c h
     exact .inr ⟨rfl,o,b⟩
   . show (Qc N (vs++ws.map (·.2))).length=N.length
     unfold Qc
     rw[tK,tj,zcv,tK,tj]
     omega
 refine wpAny_mono (ht.to [] _ (Qc N (vs++ws.map (·.2))) H _ I hq) (λu s' hs=>?_) λe s' hs=>hs
 obtain⟨v,H',J,rv,q⟩:=hs
 exact⟨v,H',J.os,J.bare,J.base,J.hok,rv,q⟩
end
section
variable {X:Cx} {c P:Addr} {qual:Str} {ag:Arguments} {be:Expr} {sc:Scope} {pos:Pos}
end
section
variable {P:Program} {w:World} {K:PySem.W.Frag} {mg:Str->Option Value} {base:Heap} {N:List Str} {qual:Str} {scope:Scope} {f:Addr} {cd:Value} {cl:List (Str×Addr)} {A:Around} {outer:List Env} {s₀:Shared} {H₀:Hp} {E:XK}
end
section
variable {P:Program} {w:World} {K:PySem.W.Frag} {mg:Str->Option Value} {base:Heap}
end
open PySem PySem.Spec PySem.Builtin PySem.Builtin.Str PyProof.Rows
section
variable {X:Cx}
end
section
variable {X:Cx} {k:Nat} {f:Addr} {fd:FuncData} {ps:List Str} {sp:Sp}
theorem Kl {pins:List (Addr×Obj)} {σ:St} {H:Hp} {s:Shared} {Q:VK} {us:List Value} {vs:List V} (F:qm X.prog X.w X.K X.mg X.base qK k f fd ps sp) (hr:qV (k+1) X.A) (hb:jG X.K fd ps []) (I:qF X pins σ H s) (r:qI vs us) (h:sp vs H Q E0):
   wpAny (model X.prog X.w) X.A.in1 (call (.ref f) us) (EP X pins σ Q) (λ_ _=>False) s:=by
 have hl:(us++[]).length=ps.length:=by rw[zap];exact r.length.symm.trans (F.len _ _ _ _ h)
 have hb':=hb s us I.kIn hl
 rw[zap]at hb'
 refine wpAny_call (codeAny_mono (F.run X.A.in1 X.stack s H ⟨us,[]⟩ us vs Q E0 hr.in1 I.env0.in1 hb' r h) λz s' q=>?_)
 match z,q with
 | .error y,q=>exact q.elim
 | .ok (.ret u),q=>exact I.after q
end
section
variable {X:Cx} {pins:List (Addr×Obj)} {σ:St} {xs:List V} {l q a S:Addr} {R:Hp->Prop} {Z:Result->Shared->Prop}
theorem qF.shift {H:Hp} {s:Shared} {h':Heap} {t':Nat} {P:List (Addr×Obj)} {b:Addr} {o':Obj} (I:qF X P σ H s) {P':List (Addr×Obj)} (hP:∀p∈P',p.1=b/\p.2=o'\/p∈P/\p.1≠b) (fb:Jz X pins H b) (hPb:∀p∈P,p.1≠b->p∈pins\/p.1≠b)
   (kk:∀c o,c≠b->s.heap.get? c=some o->h'.get? c=some o) (hb:h'.get? b=some o') (hd:∀v,o'.data≠.cell v):qF X P' σ H {s with heap:=h',toks:=t'}:=by
 obtain⟨f0,f1,f2,f3,f4,f5⟩:=fb
 have I1:qF X (P.filter λp=>p.1 != b) σ H s:=I.pins_of λp hp=>I.pin p (tJ _ (zad.mp hp).1)
 have I2:qF X (P.filter λp=>p.1 != b) σ H {s with heap:=h',toks:=t'}:=I1.turned kk f0 f1 f3 f4 λp hp=>by
   rcases tX.mp hp with z | z
   . exact f5 p (zak _ z)
   . simpa using (zad.mp z).2
 refine I2.pins_of λp hp=>?_
 rcases hP p hp with ⟨e1,e2⟩ | ⟨e1,e2⟩
 . rw[e1,e2]
   exact⟨hb,f0,f1,f2,hd⟩
 . exact I2.pin p (tJ _ (zad.mpr ⟨e1,by simpa using e2⟩))
abbrev ZD (vs:Array Value) (c:Nat):Obj:=seqObj "list" vs c
theorem wz (hc:X.calm=true) (kf:Nat->Int) (hlR:∀H,R H->SqL X.K H l xs) (hla:l≠a) (hSa:S≠a) (fa:∀H,H a=none->Jz X pins H a) (fS:∀H,H S=none->Jz X pins H S)
   (turn:∀(i:Nat) (x:V) (v:Value) (P:List (Addr×Obj)) (H1:Hp) (s1:Shared),xs[i]?=some x->qP x v->qF X P σ H1 s1->R H1->wpAny (model X.prog X.w) X.A.in1 (call (.ref q) [v]) (EP X P σ λy H2=>y=.int (kf i)/\R H2) (λ_ _=>False) s1)
   (done:∀(i:Nat) (x:V) (v:Value) (H1:Hp) (s1:Shared),xs[i]?=some x->qP x v->(∀j,j < xs.length->kf i<=kf j/\(j < i->kf i < kf j))->qF X pins σ H1 s1->R H1->Z (.ok (.ret v)) s1):
   ∀(r j i:Nat) (s1:Shared) (H1:Hp) (xb:V) (vb:Value) (tb:Tok) (c:Nat) (oI:Obj),xs.length - (j+1)=r->j+1<=xs.length->qF X (pins++[(S,ZD #[vb,.int (kf i) tb] c),(a,oI)]) σ H1 s1->R H1->s1.heap.IsListIter a l (j+1)->xs[i]?=some xb->qP xb vb->i<=j->
    (∀j',j'<=j->kf i<=kf j'/\(j' < i->kf i < kf j'))->codeAny (model X.prog X.w) X.A (.builtin "min.loop" ⟨[.ref a,.ref q,.ref S],[]⟩) Z s1:=by
 have hname:(toString "min"++toString ".loop":String)="min.loop":=by decide
 have pinS:∀{H1:Hp} {s1:Shared} {oS oI:Obj},qF X (pins++[(S,oS),(a,oI)]) σ H1 s1->s1.heap.get? S=some oS/\H1 S=none:=λI=>let z:=I.pin (S,_) (tJ _ (tJ _ (.head _)));⟨z.1,z.2.1⟩
 have pinA:∀{H1:Hp} {s1:Shared} {oS oI:Obj},qF X (pins++[(S,oS),(a,oI)]) σ H1 s1->s1.heap.get? a=some oI/\H1 a=none:=λI=>let z:=I.pin (a,_) (tJ _ (tJ _ (.tail _ (.head _))));⟨z.1,z.2.1⟩
 have nS:∀{oS oI:Obj} {p:Addr×Obj} {H:Hp},H S=none->p∈pins++[(S,oS),(a,oI)]->p∈pins->p.1≠S:=λh _ hp=>(fS _ h).2.2.2.2.2 _ (tJ _ hp)
 intro r
 induction r with
 | zero=>
   intro j i s1 H1 xb vb tb c oI hr hj I hR hit hxb rb hij hbest
   have hin:j+1=xs.length:=by omega
   obtain⟨gS,hS0⟩:=pinS I
   obtain⟨ga,ha0⟩:=pinA I
   obtain⟨its,rv,pl,hz⟩:=I.list (hlR _ hR)
   have hsz:its.toArray.size=xs.length:=by rw[t7];exact rv.length.symm
   have W:=Walks.list (prog:=X.prog) (w:=X.w) (A:=X.A.in1) (I.ok.hd hc) a l hla its.toArray
   refine codeAny_builtin zcq ?_
   rw[Around.under_plainId zaW _]
   show wpAny _ X.A.in1 (seqItems? (.ref S) >>= _) _ _ _
   refine wpAny_bind (wpAny_seqItems gS rfl ?_)
   show wpAny _ X.A.in1 (tryCatch (pyNext (.ref a)) _ >>= _) _ _ _
   refine wpAny_bind (wpAny_tryCatch (W.done _ _ _ ⟨by rw[hsz,<-hin];exact hit,pl.isList⟩ λh' tk' hk'=>?_))
   have I1:qF X (pins++[(S,ZD #[vb,.int (kf i) tb] c)]) σ H1 s1:=I.pins_of λp hp=>I.pin p (tJ _ (by
     rcases tX.mp hp with z | z
     . exact zak _ z
     . exact tJ _ (by rw[zab.mp z];exact .head _)))
   obtain⟨f0,f1,f2,f3,f4,f5⟩:=fa H1 ha0
   have I2:qF X (pins++[(S,ZD #[vb,.int (kf i) tb] c)]) σ H1 {s1 with heap:=h',toks:=tk'}:=I1.turned (λb o hb e=>hk' b o (by simpa using hb) e) f0 f1 f3 f4 λp hp=>by
     rcases tX.mp hp with z | z
     . exact f5 p (zak _ z)
     rcases tX.mp z with z | z
     . exact f5 p (tJ _ z)
     . rw[zab.mp z];exact hSa
   have gS2:h'.get? S=some (ZD #[vb,.int (kf i) tb] c):=(I2.pin (S,_) (tJ _ (tJ _ (.head _)))).1
   have s2:=zcJ.update h' S (Obj.mapSeq λ_=>(#[]:Array Value))
   show wpAny _ X.A.in1 (updateSeq S (λ_=>#[]) >>= _) _ _ _
   refine wpAny_bind ?_
   refine wpAny_updateSeq gS2 rfl (wpAny_bind (wpAny_letGo (wpAny_pure ?_)))
   obtain⟨g0,g1,g2,g3,g4,g5⟩:=fS H1 hS0
   have I3:qF X pins σ H1 {s1 with heap:=h',toks:=tk'}:=I2.pins_of λp hp=>I2.pin p (tJ _ (zak _ hp))
   exact done i xb vb H1 _ hxb rb (λj' hj'=>hbest j' (by omega)) (I3.turned (t':=tk') (λb o hb e=>(s2.2 b hb).trans e) g0 g1 g3 g4 g5) hR
 | succ r ih=>
   intro j i s1 H1 xb vb tb c oI hr hj I hR hit hxb rb hij hbest
   have hlt:j+1 < xs.length:=by omega
   obtain⟨gS,hS0⟩:=pinS I
   obtain⟨ga,ha0⟩:=pinA I
   obtain⟨its,rv,pl,hz⟩:=I.list (hlR _ hR)
   have hsz:its.toArray.size=xs.length:=by rw[t7];exact rv.length.symm
   have W:=Walks.list (prog:=X.prog) (w:=X.w) (A:=X.A.in1) (I.ok.hd hc) a l hla its.toArray
   refine codeAny_builtin zcq ?_
   rw[Around.under_plainId zaW _]
   show wpAny _ X.A.in1 (seqItems? (.ref S) >>= _) _ _ _
   refine wpAny_bind (wpAny_seqItems gS rfl ?_)
   show wpAny _ X.A.in1 (tryCatch (pyNext (.ref a)) _ >>= _) _ _ _
   refine wpAny_bind (wpAny_tryCatch (W.item (j+1) _ _ _ (by rw[hsz];exact hlt) ⟨hit,pl.isList⟩ λv h' tk' hP hst' hk'=>?_))
   have hv:its[j+1]?=some v:=by simpa using hP
   obtain⟨x,hx⟩:∃x,xs[j+1]?=some x:=⟨_,tF hlt⟩
   obtain⟨v',hv',rx⟩:=rv.get hx
   rw[hv]at hv'
   cases hv'
   obtain⟨oI',hoI',hoc,hod⟩:=id hst'.1
   have ndI:∀v,oI'.data≠.cell v:=λv z=>by rw[hod]at z;cases z
   have I1:qF X (pins++[(S,ZD #[vb,.int (kf i) tb] c),(a,oI')]) σ H1 {s1 with heap:=h',toks:=tk'}:=by
     refine I.shift (pins:=pins) (b:=a) (o':=oI') (λp hp=>?_) (fa H1 ha0) (λp hp n=>.inr n) (λb o hb e=>hk' b o (by simpa using hb) e) hoI' ndI
     rcases tX.mp hp with z | z
     . exact .inr ⟨zak _ z,(fa H1 ha0).2.2.2.2.2 p (tJ _ z)⟩
     . rcases tY.mp z with rfl | z
       . exact .inr ⟨tJ _ (.head _),hSa⟩
       . rw[zab.mp z];exact .inl ⟨rfl,rfl⟩
   show wpAny _ X.A.in1 (tryCatch (holding [v] (call (.ref q) [v])) _ >>= _) _ _ _
   refine wpAny_bind (wpAny_tryCatch (wpAny_holding (wpAny_mono (turn (j+1) x v _ H1 _ hx rx I1 hR) (λu s2 he=>?_) λ_ _ hF=>hF.elim)))
   obtain⟨y,H2,I2,ry,rfl,hR2⟩:=he
   obtain⟨t2,rfl⟩:=ry
   obtain⟨gS2,hS2⟩:=pinS I2
   obtain⟨ga2,ha2⟩:=pinA I2
   have hit2:s2.heap.IsListIter a l (j+1+1):=⟨oI',ga2,hoc,hod⟩
   show wpAny _ X.A.in1 (tryCatch (holding [v,.int (kf (j+1)) t2] (richCompare .Lt (.int (kf (j+1)) t2) (.int (kf i) tb) >>= _)) _ >>= _) _ _ _
   refine wpAny_bind (wpAny_tryCatch (wpAny_holding (wpAny_bind (CmpOf.ints_lt (prog:=X.prog) (w:=X.w) (A:=X.A.in1) (P:=λi v=>∃t,v=.int (kf i) t) kf (λi v h=>h) (j+1) i _ _ _ _ _ ⟨t2,rfl⟩ ⟨tb,rfl⟩ ?_))))
   refine wpAny_bind (wpAny_holding (wpAny_truthy_bool ?_))
   refine wpAny_bind (wpAny_letGo (wpAny_pure ?_))
   by_cases hb':kf (j+1) < kf i
   . have s3:=zcJ.update s2.heap S (Obj.mapSeq λ_=>#[v,.int (kf (j+1)) t2])
     obtain⟨c2,hc2⟩:∃c2,(s2.heap.update S (Obj.mapSeq λ_=>#[v,.int (kf (j+1)) t2])).get? S=some (seqObj "list" #[v,.int (kf (j+1)) t2] c2):=⟨_,get?_update_seq gS2 λ_=>#[v,.int (kf (j+1)) t2]⟩
     simp only[hb',decide_true,if_true]
     refine wpAny_bind ?_
     refine wpAny_updateSeq gS2 rfl (wpAny_bind (wpAny_letGo ?_))
     rw[hname]
     have I3:qF X (pins++[(S,ZD #[v,.int (kf (j+1)) t2] c2),(a,oI')]) σ H2 {s2 with heap:=s2.heap.update S (Obj.mapSeq λ_=>#[v,.int (kf (j+1)) t2]),toks:=s2.toks}:=by
       refine I2.shift (pins:=pins) (b:=S) (o':=ZD #[v,.int (kf (j+1)) t2] c2) (λp hp=>?_) (fS H2 hS2) (λp hp n=>.inr n) (λb o hb e=>(s3.2 b hb).trans e) hc2 (λv z=>by cases z)
       rcases tX.mp hp with z | z
       . exact .inr ⟨zak _ z,(fS H2 hS2).2.2.2.2.2 p (tJ _ z)⟩
       . rcases tY.mp z with rfl | z
         . exact .inl ⟨rfl,rfl⟩
         . rw[zab.mp z];exact .inr ⟨tJ _ (.tail _ (.head _)),λq=>hSa q.symm⟩
     refine wpAny_pure ⟨plainId_quiet zaW _,ih (j+1) (j+1) _ H2 x v t2 c2 oI' (by omega) hlt I3 hR2 ⟨oI',(s3.2 a λq=>hSa q.symm).trans ga2,hoc,hod⟩ hx rx (tE _) λj' hj'=>?_⟩
     by_cases e:j'=j+1
     . subst e
       exact⟨by omega,λ_=>by omega⟩
     . have hb1:=hbest j' (by omega)
       have hb2:=hb1.1
       exact⟨by omega,λ_=>by omega⟩
   . simp only[hb',decide_false,zaY,if_false]
     refine wpAny_bind (wpAny_letGo ?_)
     rw[hname]
     refine wpAny_pure ⟨plainId_quiet zaW _,ih (j+1) i _ H2 xb vb tb c oI' (by omega) hlt I2 hR2 hit2 hxb rb (by omega) λj' hj'=>?_⟩
     by_cases e:j'=j+1
     . subst e
       exact⟨by omega,λ_=>by omega⟩
     . exact hbest j' (by omega)
theorem yI {H:Hp} {s:Shared} {Q E:Value->Shared->Prop} (hc:X.calm=true) (kf:Nat->Int) (I:qF X pins σ H s) (hR:R H) (hlR:∀H,R H->SqL X.K H l xs) (hne:0 < xs.length)
   (turn:∀(i:Nat) (x:V) (v:Value) (P:List (Addr×Obj)) (H1:Hp) (s1:Shared),xs[i]?=some x->qP x v->qF X P σ H1 s1->R H1->wpAny (model X.prog X.w) X.A.in1 (call (.ref q) [v]) (EP X P σ λy H2=>y=.int (kf i)/\R H2) (λ_ _=>False) s1)
   (done:∀(i:Nat) (x:V) (v:Value) (H1:Hp) (s1:Shared),xs[i]?=some x->qP x v->(∀j,j < xs.length->kf i<=kf j/\(j < i->kf i < kf j))->qF X pins σ H1 s1->R H1->Q v s1):
   wpAny (model X.prog X.w) X.A (call (.builtin "min") [.ref l] [(Str.ofString "key",.ref q)]) Q E s:=by
 have hname:(toString "min"++toString ".loop":String)="min.loop":=by decide
 obtain⟨its0,rv0,pl0,_⟩:=I.list (hlR _ hR)
 have hll:l < s.heap.objs.size:=by
   obtain⟨o,n,e,_⟩:=pl0
   exact tM e
 refine kmk_tree PySem.F.kind_min PySem.F.plain_min PySem.F.entry_min (kmk_min_key _ _) ?_
 show wpAny _ X.A.in1 (Builtin.Builtins.bindParams "min" ["key","default"] 0 ⟨[],[(Str.ofString "key",.ref q)]⟩ >>= _) _ _ s
 refine wpAny_bind (wpAny_of_eq (show Builtin.Builtins.bindParams "min" ["key","default"] 0 ⟨[],[(Str.ofString "key",.ref q)]⟩=pure [some (.ref q),none] from rfl) ?_)
 refine wpAny_bind (wpAny_pure ?_)
 refine wpAny_bind (wpAny_pyIter_list pl0.isList ?_)
 refine wpAny_bind (wpAny_newList ?_ (zat _))
 rw[hname]
 have hS:(s.heap.push {cls:=.type "list_iterator",data:=.fields #[.ref l,.int 0 0]}).objs.size=s.heap.objs.size+1:=size_push' ..
 generalize hSe:(s.heap.push {cls:=.type "list_iterator",data:=.fields #[.ref l,.int 0 0]}).objs.size=S at hS
 generalize hae:s.heap.objs.size=a at hS hll
 have hla:l≠a:=tV hll
 have hSa:S≠a:=by rw[hS];exact zbG (zaJ _)
 have fa:∀H,H a=none->Jz X pins H a:=λH' h=>I.fpOk (by omega) h
 have fS:∀H,H S=none->Jz X pins H S:=λH' h=>I.fpOk (by omega) h
 have ha0:H a=none:=I.hok.fresh (by omega)
 have hS0:H S=none:=I.hok.fresh (by omega)
 have gI:((s.heap.push {cls:=.type "list_iterator",data:=.fields #[.ref l,.int 0 0]}).push (ZD #[] 0)).get? a=some {cls:=.type "list_iterator",data:=.fields #[.ref l,.int 0 0]}:=by
   rw[<-hae];exact tu _ (tU _ rfl)
 have gS:((s.heap.push {cls:=.type "list_iterator",data:=.fields #[.ref l,.int 0 0]}).push (ZD #[] 0)).get? S=some (ZD #[] 0):=by
   rw[<-hSe];exact tU _ rfl
 have I0:qF X pins σ H {s with heap:=(s.heap.push {cls:=.type "list_iterator",data:=.fields #[.ref l,.int 0 0]}).push (ZD #[] 0)}:=I.kept (t':=s.toks) λb o e=>tu _ (tu _ e)
 have I1:qF X (pins++[(S,ZD #[] 0),(a,{cls:=.type "list_iterator",data:=.fields #[.ref l,.int 0 0]})]) σ H {s with heap:=(s.heap.push {cls:=.type "list_iterator",data:=.fields #[.ref l,.int 0 0]}).push (ZD #[] 0)}:=I0.pins_of λp hp=>by
   rcases tX.mp hp with z | z
   . exact I0.pin p (tJ _ z)
   . rcases tY.mp z with rfl | z
     . exact⟨gS,hS0,(fS H hS0).2.1,(fS H hS0).2.2.1,λv z=>by cases z⟩
     . rw[zab.mp z]
       exact⟨gI,ha0,(fa H ha0).2.1,(fa H ha0).2.2.1,λv z=>by cases z⟩
 refine wpAny_pure ⟨plainId_quiet zaW _,?_⟩
 obtain⟨its,rv,pl,hz⟩:=I1.list (hlR _ hR)
 have hsz:its.toArray.size=xs.length:=by rw[t7];exact rv.length.symm
 have W:=Walks.list (prog:=X.prog) (w:=X.w) (A:=X.A.in1) (I.ok.hd hc) a l hla its.toArray
 refine codeAny_builtin zcq ?_
 rw[Around.under_plainId zaW _]
 show wpAny _ X.A.in1 (seqItems? (.ref _) >>= _) _ _ _
 refine wpAny_bind (wpAny_seqItems gS rfl ?_)
 show wpAny _ X.A.in1 (tryCatch (pyNext (.ref a)) _ >>= _) _ _ _
 refine wpAny_bind (wpAny_tryCatch (W.item 0 _ _ _ (by rw[hsz];exact hne) ⟨⟨_,gI,rfl,rfl⟩,pl.isList⟩ λv h' tk' hP hst' hk'=>?_))
 have hv:its[0]?=some v:=by simpa using hP
 obtain⟨x,hx⟩:∃x,xs[0]?=some x:=⟨_,tF hne⟩
 obtain⟨v',hv',rx⟩:=rv.get hx
 rw[hv]at hv'
 cases hv'
 obtain⟨oI',hoI',hoc,hod⟩:=id hst'.1
 have ndI:∀v,oI'.data≠.cell v:=λv z=>by rw[hod]at z;cases z
 have I2:qF X (pins++[(S,ZD #[] 0),(a,oI')]) σ H {s with heap:=h',toks:=tk'}:=by
   refine I1.shift (pins:=pins) (b:=a) (o':=oI') (λp hp=>?_) (fa H ha0) (λp hp n=>.inr n) (λb o hb e=>hk' b o (by simpa using hb) e) hoI' ndI
   rcases tX.mp hp with z | z
   . exact .inr ⟨zak _ z,(fa H ha0).2.2.2.2.2 p (tJ _ z)⟩
   . rcases tY.mp z with rfl | z
     . exact .inr ⟨tJ _ (.head _),hSa⟩
     . rw[zab.mp z];exact .inl ⟨rfl,rfl⟩
 show wpAny _ X.A.in1 (tryCatch (holding [v] (call (.ref q) [v])) _ >>= _) _ _ _
 refine wpAny_bind (wpAny_tryCatch (wpAny_holding (wpAny_mono (turn 0 x v _ H _ hx rx I2 hR) (λu s2 he=>?_) λ_ _ hF=>hF.elim)))
 obtain⟨y,H2,I3,ry,rfl,hR2⟩:=he
 obtain⟨t2,rfl⟩:=ry
 obtain⟨gS2,hS2,_⟩:=I3.pin (S,_) (tJ _ (tJ _ (.head _)))
 obtain⟨ga2,ha2,_⟩:=I3.pin (a,_) (tJ _ (tJ _ (.tail _ (.head _))))
 have s3:=zcJ.update s2.heap S (Obj.mapSeq λ_=>#[v,.int (kf 0) t2])
 obtain⟨c2,hc2⟩:∃c2,(s2.heap.update S (Obj.mapSeq λ_=>#[v,.int (kf 0) t2])).get? S=some (seqObj "list" #[v,.int (kf 0) t2] c2):=⟨_,get?_update_seq gS2 λ_=>#[v,.int (kf 0) t2]⟩
 show wpAny _ X.A.in1 (updateSeq S (λ_=>#[v,.int (kf 0) t2]) >>= _) _ _ _
 refine wpAny_bind ?_
 refine wpAny_updateSeq gS2 rfl ?_
 rw[hname]
 have I4:qF X (pins++[(S,ZD #[v,.int (kf 0) t2] c2),(a,oI')]) σ H2 {s2 with heap:=s2.heap.update S (Obj.mapSeq λ_=>#[v,.int (kf 0) t2]),toks:=s2.toks}:=by
   refine I3.shift (pins:=pins) (b:=S) (o':=ZD #[v,.int (kf 0) t2] c2) (λp hp=>?_) (fS H2 hS2) (λp hp n=>.inr n) (λb o hb e=>(s3.2 b hb).trans e) hc2 (λv z=>by cases z)
   rcases tX.mp hp with z | z
   . exact .inr ⟨zak _ z,(fS H2 hS2).2.2.2.2.2 p (tJ _ z)⟩
   . rcases tY.mp z with rfl | z
     . exact .inl ⟨rfl,rfl⟩
     . rw[zab.mp z];exact .inr ⟨tJ _ (.tail _ (.head _)),λq=>hSa q.symm⟩
 refine wpAny_pure ⟨plainId_quiet zaW _,wz (R:=R) (Z:=λr s'=>match r with | .ok (.ret v)=>Q v s' | .ok _=>False | .error e=>E e s') hc kf hlR hla hSa fa fS turn (λi x v H1 s1 h1 h2 h3 h4 h5=>done i x v H1 s1 h1 h2 h3 h4 h5) _ 0 0 _ H2 x v t2 c2 oI' rfl hne I4 hR2 ⟨oI',(s3.2 a λq=>hSa q.symm).trans ga2,hoc,hod⟩ hx rx (tE _) λj' hj'=>?_⟩
 have e:j'=0:=by omega
 subst e
 exact⟨by omega,λh=>absurd h (zar _)⟩
end
def XE (X:Cx) (H:Hp) (ws:List (Str×V)):Prop:=∀x v,(x,v)∈ws->∃ca co u,X.env.cells.lookup x=some ca/\H ca=some (WV co)/\co.data=.cell (some u)/\qP v u
theorem XE.mono {X:Cx} {H H':Hp} {ws:List (Str×V)} (h:XE X H ws) (s:qo H H'):XE X H' ws:=λx v hx=>let ⟨ca,co,u,a,b,c,d⟩:=h x v hx;⟨ca,co,u,a,s _ _ b,c,d⟩
def Mp (X:Cx) (fr:List (Str×Nat)) (u:TS):TS:=λD σ H=>∀H',qo H H'->(∀ws:List (Str×V),(∀p∈ws,∃i,(p.1,i)∈fr/\σ[i]?=some (some p.2))->XE X H' ws)->u D σ H'
section
variable {X:Cx} {st:List Stmt} {u:TS}
open Classical in
theorem Ku {fr:List (Str×Nat)} (hfr:∀p∈fr,X.env.scope.names.lookup p.1=some .cell/\X.N[p.2]?=some p.1) (hfn:∀x,X.fn x=true) (h2:Vc X.shut st u):PB X st (Mp X fr u):=by
 intro pins s σ H D I h
 have frc':∀p∈fr,∃c,X.env.cells.lookup p.1=some c:=λp hp=>I.ok.has p.1 (.inl (hfr p hp).1)
 let cc:Addr->Option Obj:=λb=>if ∃p∈fr,X.env.cells.lookup p.1=some b then s.heap.get? b else none
 have hc:∀b o,cc b=some o->∃x v,X.env.cells.lookup x=some b/\X.fn x=true/\s.heap.get? b=some o/\o.data=.cell v:=λb o e=>by
   rcases Classical.em (∃p∈fr,X.env.cells.lookup p.1=some b) with z | z
   . have e':s.heap.get? b=some o:=(if_pos z).symm.trans e
     obtain⟨p,hp,hxb⟩:=z
     obtain⟨v,o',ho,hd⟩:=I.cell p.1 b hxb
     rw[e']at ho
     cases ho
     exact⟨p.1,v,hxb,hfn p.1,e',hd⟩
   . have:cc b=none:=if_neg z
     rw[this]at e
     cases e
 have hn:=I.catchN hc
 refine jk (h2.to pins s σ _ D (I.catch cc hc) (h _ (λb o e=>Xw hn e) λws hws x v hx=>?_)) λfl s' z=>⟨λ_=>false,z⟩
 obtain⟨i,hi,eσ⟩:=hws (x,v) hx
 obtain⟨ca,hca⟩:=frc' _ hi
 obtain⟨v',o,ho,hd⟩:=I.cell x ca hca
 have ecc:cc ca=some o:=(if_pos ⟨_,hi,hca⟩).trans ho
 obtain⟨m,_,hl⟩:=I.loc
 obtain⟨w',rw',lk⟩:=hl i x v (hfr _ hi).2 eσ (.inr (.inl (hfr _ hi).1))
 rcases lk with ⟨k,_⟩ | ⟨_,c2,ec2,o2,ho2,hd2⟩
 . have k':X.env.scope.names.lookup x=some .local:=k
   rw[(hfr _ hi).1]at k'
   cases k'
 . rw[hca]at ec2
   cases ec2
   rw[ho]at ho2
   cases ho2
   exact⟨ca,o,w',hca,Xx ecc,hd2,rw'⟩
end
def Mu (X:Cx) (P:Addr) (qual:Str) (ag:Arguments) (be:Expr) (sc:Scope) (fr:List Str):TE:=λσ H Q=>(∃tq,H P=some (.tbl #[.str qual tq]))/\∃ws,ws.map (·.1)=fr/\XE X H ws/\∀f fd H',qo H H'->H f=none->U5 H' P f qual ag be sc fd ws->Q (.ref f) H'
section
variable {X:Cx} {c P:Addr} {qual:Str} {ag:Arguments} {be:Expr} {sc:Scope} {pos:Pos} {fr:List Str}
theorem Ge (TM:Ud X.mg X.base c P) (hcode:X.env.code=.ref c) (hq:X.env.qual++"<lambda>"=qual) (hfr:(sc.names.all λx=>x.2 != .free || (X.env.scope.names.lookup x.1==some .cell&&fr.contains x.1))=true) (hin:∀x∈fr,(x,NameKind.free)∈sc.names) (hdf:defaultsOf ag X.env=([],[]):=by rfl):JE X (.Lambda ag be sc pos) (Mu X P qual ag be sc fr):=.of (by
 intro pins s σ H Q I h
 obtain⟨⟨tq,hP⟩,ws,hws,hca,h⟩:=h
 obtain⟨ts,eP,tr,cs⟩:=(show qS X.prog X.w H s.heap P (.tbl #[.str qual tq]) from I.hok P _ hP)
 refine PySem.W.kla_eval hdf ?_
 rw[hq]
 have hg:s.heap.Ns mainGlobals X.mg:=I.ok.mod.glob.keeps I.bk
 have CH:=TM.code.keeps I.bk
 have hb:s.heap.BuiltinsAt X.mg P:=by
   obtain⟨bm,o,b1,b2,b3,b4,b5,b6⟩:=TM.blt
   exact⟨bm,o,b1,b2,b3,b4,I.bk _ _ b5,b6⟩
 have hgP:mainGlobals≠P:=λz=>by
   obtain⟨o,es,ep,e,_⟩:=I.ok.mod.glob
   have:=(I.bs _ _ e).2
   rw[z,hP]at this
   cases this
 have frc:∀x,(x,NameKind.free)∈sc.names->X.env.scope.names.lookup x=some .cell/\x∈fr:=λx hx=>by
   have:=zaL.mp hfr _ hx
   simp only[bne_self_eq_false,Bool.false_or,zaq,beq_iff_eq,List.contains_iff_mem]at this
   exact this
 have frc':∀x,(x,NameKind.free)∈sc.names->∃c,X.env.cells.lookup x=some c:=λx hx=>I.ok.has x (.inl (frc x hx).1)
 have hcl:closureFor sc X.env=pure (ja X.env sc.names []):=Jj λx hx e=>frc' x.1 (by rw[<-e];exact hx)
 have clo1:∀x,(x,NameKind.free)∈sc.names->∀ca,X.env.cells.lookup x=some ca->(ja X.env sc.names []).lookup x=some ca:=λx hx ca e=>by
   obtain⟨c2,hc2⟩:=J0 (env:=X.env) (cs:=[]) (.inl hx)
   rcases Jc hc2 with z | ⟨_,z⟩
   . simp at z
   . rw[e]at z
     rw[hc2,z]
     rfl
 have look:∀x c,(ja X.env sc.names []).lookup x=some c->(x,NameKind.free)∈sc.names/\X.env.cells.lookup x=some c:=λx c e=>by
   rcases Jc e with z | ⟨z1,z2⟩
   . simp at z
   . obtain⟨c2,h2⟩:=frc' x z1
     rw[h2]at z2
     exact⟨z1,by rw[h2,z2];rfl⟩
 have inj:∀x y c,(ja X.env sc.names []).lookup x=some c->(ja X.env sc.names []).lookup y=some c->x=y:=λx y c h1 h2=>I.ok.inj x y c (look x c h1).2 (look y c h2).2
 have clo:∀{f c':Addr} {pm ctv:Value} {oc:Obj} {H1:Hp},qo H H1->H1 f=some (WV (zbK "<lambda>" qual ag be sc (ja X.env sc.names []) pm c' ctv))->H1 c'=some (.frz oc (.own P))->uB qual oc->U5 H1 P f qual ag be sc (zdy "<lambda>" qual ag be sc (ja X.env sc.names []) pm (.ref c') ctv) ws:=
   λ{f c' pm ctv oc H1} sm e1 e2 e3=>⟨pm,ctv,c',_,oc,rfl,e1,e2,e3,inj,λx c z=>by rw[hws];exact(frc x (look x c z).1).2,λx v hx=>by
     obtain⟨ca,co,u,a,b,d,e⟩:=hca x v hx
     have:x∈fr:=by rw[<-hws];exact tL.mpr ⟨(x,v),hx,rfl⟩
     exact⟨ca,co,u,clo1 x (hin x this) ca a,sm _ _ b,d,e⟩⟩
 cases hh:codeAmong pos ts.toList with
 | none=>
   refine PySem.W.kla_makeFunction (mg:=X.mg) hcl I.ok.glob hg hcode CH eP tr hh hgP hb λc' ctv h' tk hx hge hlt hrec htb=>?_
   obtain⟨c2,oc,vs,t,e2,hoc,hd,hv⟩:=hrec
   cases e2
   have hc0:H c'=none:=I.hok.fresh hge
   have hf0:H h'.objs.size=none:=I.hok.fresh (zag (zaw hge hlt))
   have sm:qo H (upd (upd H c' (.frz oc (.own P))) h'.objs.size (WV (zbK "<lambda>" qual ag be sc (ja X.env sc.names []) ((X.mg "__name__").getD .none) c' ctv))):=λb u e=>by
     rw[qi (qr e hf0),qi (qr e hc0)]
     exact e
   exact⟨.ref _,_,I.made_def hP eP tr cs hx hge hlt hoc ⟨vs,t,hd,hv⟩ htb rfl,rfl,h _ _ _ sm hf0 (clo sm qe (by rw[qi (tV hlt),qe]) ⟨vs,t,hd,hv⟩)⟩
 | some cv=>
   obtain⟨c',oc,rfl,ec,q,t,vs,t',hq1,hd,hv⟩:=cs pos cv hh
   cases hq1
   refine PySem.W.kla_makeFunctionHit (mg:=X.mg) hcl I.ok.glob hg hcode CH eP tr hh hb λctv h' tk hk hsz=>?_
   have hf0:H h'.objs.size=none:=I.hok.fresh hsz
   have e1:(h'.push (zbK "<lambda>" qual ag be sc (ja X.env sc.names []) ((X.mg "__name__").getD .none) c' ctv)).get? h'.objs.size=some (zbK "<lambda>" qual ag be sc (ja X.env sc.names []) ((X.mg "__name__").getD .none) c' ctv):=tU h' rfl
   have sm:qo H (upd H h'.objs.size (WV (zbK "<lambda>" qual ag be sc (ja X.env sc.names []) ((X.mg "__name__").getD .none) c' ctv))):=λb u e=>by
     rw[qi (qr e hf0)]
     exact e
   exact⟨.ref _,_,I.laid (t':=tk) (o:=WV (zbK "<lambda>" qual ag be sc (ja X.env sc.names []) ((X.mg "__name__").getD .none) c' ctv)) (λb o e=>tu _ (hk b o e)) hsz ⟨e1,e1,_,e1⟩,rfl,h _ _ _ sm hf0 (clo sm qe (by rw[qi (qr ec hf0)];exact ec) ⟨vs,t',hd,hv⟩)⟩)
end
def Ms (K:PySem.W.Frag) (C:Addr->FuncData->Sp->Prop) (te tl:TE):TE:=λσ H Q=>te σ H λx H1=>tl σ H1 λy H2=>∃(l q:Addr) (xs:List V) (fd:FuncData) (sp:Sp) (kf:Nat->Int) (R:Hp->Prop),x=.ref l/\y=.ref q/\C q fd sp/\R H2/\(∀G,R G->SqL K G l xs)/\0 < xs.length/\
 (∀i x G,xs[i]?=some x->R G->sp [x] G (λy G'=>y=.int (kf i)/\R G') E0)/\∀i x G,xs[i]?=some x->(∀j,j < xs.length->kf i<=kf j/\(j < i->kf i < kf j))->R G->Q x G
section
variable {X:Cx} {C:Addr->FuncData->Sp->Prop} {p pos kp:Pos} {e g:Expr} {te tl:TE}
theorem Gc (hc:X.calm=true) (hg:Gl X "min") (hm:X.mg "min"=none) (hC:∀f fd sp,C f fd sp->∃(k:Nat) (x:Str),qm X.prog X.w X.K X.mg X.base qK k f fd [x] sp/\qV (k+1) X.A/\jG X.K fd [x] []) (ha:JE X e te) (hl:JE X g tl) (hs:starEach [e] X.env=[(false,eval e X.env)]:=by rfl) (he:backTo pos (starEach [e] X.env)=(false,eval e X.env)::backTo pos (starEach [] X.env):=by rfl) (hplain:(backTo pos (starEach [e] X.env)).any (·.1)=false:=by rfl):JE X (.Call (.Name "min" p) [e] [⟨some "key",g,kp⟩] pos) (Ms X.K C te tl):=.of (by
 have ha:=ha.to
 have hl:=hl.to
 intro pins s σ H Q I h
 refine wpAny_Call_Name_kw (QW I hg hm boot_min (PyProof.Rows.callWith_kw (kG hs (jk (ha pins s σ H _ I h) λu s1 ⟨x,H1,I1,r1,q1⟩=>?_)) he hplain))
 show wpAny _ _ (evalAll [do let v <-eval g X.env;standAt pos;pure v]) _ _ _
 refine PyProof.Rows.evalAll_cons (wpAny_bind (jk (hl pins s1 σ H1 _ I1 q1) λv s2 ⟨y,H2,I2,r2,q2⟩=>wpAny_bind (wpAny_standAt (wpAny_pure (PyProof.Rows.evalAll_nil ?_)))))
 obtain⟨l,q,xs,fd,sp,kf,R,rfl,rfl,c,hR,hlR,hne,turn,done⟩:=q2
 cases r1
 cases r2
 obtain⟨k,x,F,hr,hb⟩:=hC _ _ _ c
 show wpAny _ _ (call (.builtin "min") [.ref l] [(Str.ofString "key",.ref q)]) _ _ _
 exact yI (R:=R) hc kf I2 hR hlR hne (λi x v P G s3 hx rx I3 hG=>Kl F hr hb I3 (.cons rx .nil) (turn i x G hx hG)) λi x v G s3 hx rx hbest I3 hG=>⟨x,G,I3,rx,done i x G hx hbest hG⟩)
end
end L2
namespace Rb
def jJ (ns:List Nat):Nat:=ns.foldl (·^^^ ·) 0
def setN (ns:List Nat):Nat:=ns.foldl (λb n=>b ||| 2^n) 0
def memN (b n:Nat):List Nat:=(zaa n).filter λi=>b.testBit i
def Lacks (r:Nat) (ns:List Nat):Prop:=r∉ns/\∀x,x < r->x∈ns
theorem Ny (x:Nat):x % 2=(x.testBit 0).toNat:=by
 rw[zdi]
 rcases Nat.mod_two_eq_zero_or_one x with h | h<;>simp [h]
theorem or_and_xor (a:Nat):∀b,(a ||| b)=(a&&& b)+(a^^^b):=by
 induction a using zcD with
 | ind a ih=>
   intro b
   by_cases ha:a=0
   . subst ha;simp
   . have i:=ih (a / 2) (by omega) (b / 2)
     have o1:(a ||| b) / 2=(a / 2) ||| (b / 2):=Nat.or_div_two
     have n1:(a&&& b) / 2=(a / 2)&&& (b / 2):=Nat.and_div_two
     have x1:(a^^^b) / 2=(a / 2)^^^ (b / 2):=Nat.xor_div_two
     have m:(a ||| b) % 2=(a&&& b) % 2+(a^^^b) % 2:=by
       rw[Ny (a ||| b),Ny (a&&& b),Ny (a^^^b),Nat.testBit_or,Nat.testBit_and,zbL]
       cases a.testBit 0<;>cases b.testBit 0<;>rfl
     omega
theorem ub (ns:List Nat):∀b k,(ns.foldl (λb n=>b ||| 2^n) b).testBit k=(b.testBit k || decide (k∈ns)):=by
 induction ns with
 | nil=>intro b k;simp
 | cons n ns ih=>
   intro b k
   rw[zcE,ih,Nat.testBit_or,Nat.testBit_two_pow]
   by_cases h:n=k
   . subst h;simp
   . have h':¬k=n:=λe=>h e.symm
     simp [h,h']
theorem testBit_setN (ns:List Nat) (k:Nat):(setN ns).testBit k=decide (k∈ns):=by
 unfold setN
 rw[ub]
 simp
theorem mem_memN {b n i:Nat}:i∈memN b n↔i < n/\b.testBit i=true:=by
 unfold memN
 simp
theorem Vi {b k m:Nat} (h:b < 2^m) (hk:m<=k):b.testBit k=false:=Nat.testBit_lt_two_pow (tP h (Nat.pow_le_pow_right (by decide) hk))
theorem X9 {b m:Nat} (h:b < 2^m):∀n,m<=n->memN b n=memN b m:=by
 intro n hn
 obtain⟨k,rfl⟩:=Nat.le.dest hn
 unfold memN
 rw[List.range_add,zaS]
 have e:((zaa k).map (m+·)).filter (λi=>b.testBit i)=[]:=by
   rw[List.filter_eq_nil_iff]
   intro i hi
   obtain⟨j,_,rfl⟩:=tL.mp hi
   rw[Vi h (Nat.le_add_right _ _)]
   simp
 rw[e,zap]
theorem memN_same {b m n:Nat} (hm:b < 2^m) (hn:b < 2^n):memN b n=memN b m:=by
 by_cases h:m<=n
 . exact X9 hm n h
 . exact(X9 hn m (by omega)).symm
theorem vw {ns:List Nat} {m:Nat} (h:∀x∈ns,x < m):setN ns < 2^m:=by
 refine Nat.lt_pow_two_of_testBit _ λi hi=>?_
 rw[testBit_setN]
 refine decide_eq_false λz=>?_
 have:=h i z
 omega
def turnN (b n m:Nat):Nat:=setN ((memN b m).map (·^^^n))
theorem xor_lt {a b m:Nat} (h1:a < 2^m) (h2:b < 2^m):a^^^b < 2^m:=Nat.xor_lt_two_pow h1 h2
theorem U7 (a b:Nat):(a^^^b)^^^b=a:=by rw[zbk,zbV,zdm]
theorem U9 {b n m k:Nat} (hm:m<=2^k) (hn:n < 2^k):turnN b n m < 2^ (2^k):=by
 refine vw λx hx=>?_
 obtain⟨y,hy,rfl⟩:=tL.mp hx
 exact xor_lt (tP (mem_memN.mp hy).1 hm) hn
theorem pigeon:∀(n:Nat) (ns:List Nat),(∀x,x < n->x∈ns)->n<=ns.length:=by
 intro n
 induction n with
 | zero=>intro ns _;exact zat _
 | succ n ih=>
   intro ns h
   have hn:n∈ns:=h n (zaJ n)
   have:=ih (ns.erase n) λx hx=>(zbS (by omega)).mpr (h x (zbP hx))
   rw[zcb hn]at this
   have hp:0 < ns.length:=zbs hn
   omega
theorem Lacks.uniq {r s:Nat} {ns:List Nat} (h:Lacks r ns) (g:Lacks s ns):r=s:=by
 rcases zaE r s with z | z | z
 . exact absurd (g.2 r z) h.1
 . exact z
 . exact absurd (h.2 s z) g.1
def J7 (ns:List Nat):Nat->Nat
 | 0=>0
 | i+1=>if J7 ns i∈ns then J7 ns i+1 else J7 ns i
theorem UP (ns:List Nat):∀i,(∀x,x < J7 ns i->x∈ns)/\J7 ns i<=i/\(J7 ns i < i->J7 ns i∉ns):=by
 intro i
 induction i with
 | zero=>exact⟨λx hx=>absurd hx (zci _),tE _,λh=>absurd h (zar _)⟩
 | succ i ih=>
   obtain⟨h1,h2,h3⟩:=ih
   unfold J7
   by_cases h:J7 ns i∈ns
   . rw[if_pos h]
     refine⟨λx hx=>?_,by omega,λhlt=>absurd h (h3 (by omega))⟩
     by_cases e:x=J7 ns i
     . rw[e];exact h
     . exact h1 x (by omega)
   . rw[if_neg h]
     exact⟨h1,by omega,λ_=>h⟩
theorem lackI_lacks (ns:List Nat):Lacks (J7 ns (ns.length+1)) ns:=by
 obtain⟨h1,h2,h3⟩:=UP ns (ns.length+1)
 refine⟨h3 ?_,h1⟩
 have:=pigeon _ _ h1
 omega
def lackN (ns:List Nat):Nat:=J7 ns (ns.length+1)
theorem lackN_eq {r:Nat} {ns:List Nat} (h:Lacks r ns):r=lackN ns:=h.uniq (lackI_lacks ns)
theorem memN_succ (b i:Nat):memN b (i+1)=memN b i++(if b.testBit i then [i] else []):=by
 unfold memN
 rw[zcj,zaS]
 congr 1
 by_cases h:b.testBit i=true
 . simp [h]
 . simp [h]
theorem testBit_div (b i:Nat):b.testBit i=decide (b / 2^i % 2=1):=by
 rw[Nat.testBit_eq_decide_div_mod_eq]
theorem z7 (ns:List Nat) (n:Nat):jJ (ns++[n])=jJ ns^^^n:=by unfold jJ;rw[zcr];rfl
theorem setN_snoc (ns:List Nat) (n:Nat):setN (ns++[n])=setN ns ||| 2^n:=by unfold setN;rw[zcr];rfl
end Rb
namespace MLab
theorem vc:∀(g m:Nat),m < g->∃k,m.testBit k=false/\g.testBit k=true/\∀j,k < j->m.testBit j=g.testBit j:=by
 intro g
 induction g using zcD with
 | _ g ih=>
   intro m h
   by_cases c:m / 2 < g / 2
   . obtain⟨k,h1,h2,h3⟩:=ih (g / 2) (by omega) (m / 2) c
     refine⟨k+1,by rw[zbF];exact h1,by rw[zbF];exact h2,λj hj=>?_⟩
     cases j with
     | zero=>omega
     | succ j=>rw[zbF,zbF];exact h3 j (by omega)
   . have e:m / 2=g / 2:=by omega
     refine⟨0,?_,?_,λj hj=>?_⟩
     . rw[zdi];simp;omega
     . rw[zdi];simp;omega
     . cases j with
       | zero=>omega
       | succ j=>rw[zbF,zbF,e]
theorem NA {x y:Nat} (k:Nat) (hx:x.testBit k=false) (hy:y.testBit k=true) (h:∀j,k < j->x.testBit j=y.testBit j):x < y:=by
 rcases zaE x y with c | rfl | c
 . exact c
 . rw[hx]at hy;cases hy
 . obtain⟨i,h1,h2,h3⟩:=vc _ _ c
   rcases zaE i k with d | rfl | d
   . have:=h3 k d;rw[hx,hy]at this;cases this
   . rw[hy]at h1;cases h1
   . have:=h i d;rw[h1,h2]at this;cases this
def jQ (ns:List Nat):Nat:=ns.foldr (λa b=>a^^^b) 0
theorem Zr (a:Nat) (ns:List Nat):jQ (a::ns)=a^^^jQ ns:=rfl
theorem Vd {k:Nat}:∀{ns:List Nat},(jQ ns).testBit k=true->∃n∈ns,n.testBit k=true
 | [],h=>by simp [jQ]at h
 | a::ns,h=>by
   rw[Zr,zbL]at h
   cases e:a.testBit k with
   | true=>exact⟨a,t9,e⟩
   | false=>
     rw[e,Bool.false_xor]at h
     obtain⟨n,hn,h'⟩:=Vd h
     exact⟨n,tZ _ hn,h'⟩
theorem ky {ns:List Nat} {m:Nat} (h:m < jQ ns):∃n∈ns,n^^^jQ ns^^^m < n:=by
 obtain⟨k,h1,h2,h3⟩:=vc _ _ h
 obtain⟨n,hn,hk⟩:=Vd h2
 refine⟨n,hn,NA k ?_ hk λj hj=>?_⟩
 . rw[zbL,zbL,hk,h1,h2];rfl
 . rw[zbL,zbL,h3 j hj]
   cases n.testBit j<;>cases (jQ ns).testBit j<;>rfl
section
variable {α:Type} (G:α->List α)
structure Ws (ok:α->Prop) (num:α->Option Nat) (stp:α->Nat):Prop where
 cl:∀{x y},ok x->y∈G x->ok y
 n1:∀{x n m},ok x->num x=some n->m < n->∃y∈G x,num y=some m/\stp y < stp x
 n2:∀{x y n},ok x->num x=some n->y∈G x->num y≠some n
 n3:∀{x y n},ok x->num x=some n->y∈G x->(∀m,num y=some m->n < m)->∃z∈G y,num z=some n/\stp z < stp x
 n4:∀{x y n m},ok x->num x=some n->y∈G x->num y=some m->m < n->stp y < stp x
 e:∀{x m},ok x->num x=none->(∀j,j < m->∃y∈G x,num y=some j)->(∀y∈G x,num y≠some m)->∃y∈G x,num y=none/\∀z∈G y,num z≠some m
section
variable {β:Type} (M:β->List β)
mutual
inductive Yr:β->Prop
 | mk {a:β} (h:∀b∈M a,Won b):Yr a
inductive Won:β->Prop
 | mk {a b:β} (m:b∈M a) (h:Yr b):Won a
end
end
def mv:List α->List (List α)
 | []=>[]
 | x::h=>(G x).map (λy=>y::h)++(mv h).map (λb=>x::b)
theorem jy:∀{a b:List α},b∈mv G a↔∃p x y q,a=p++x::q/\y∈G x/\b=p++y::q
 | [],b=>by
   constructor
   . intro h;simp [mv]at h
   . rintro⟨p,x,y,q,e,_⟩;simp at e
 | x::h,b=>by
   unfold mv
   rw[tX,tL,tL]
   constructor
   . rintro(⟨y,hy,rfl⟩ | ⟨b',hb,rfl⟩)
     . exact⟨[],x,y,h,rfl,hy,rfl⟩
     . obtain⟨p,u,y,q,rfl,hy,rfl⟩:=jy.mp hb
       exact⟨x::p,u,y,q,rfl,hy,rfl⟩
   . rintro⟨p,u,y,q,e,hy,rfl⟩
     cases p with
     | nil=>
       cases e
       exact .inl ⟨y,hy,rfl⟩
     | cons v p=>
       cases e
       exact .inr ⟨p++y::q,jy.mpr ⟨p,u,y,q,rfl,hy,rfl⟩,rfl⟩
variable {G} {ok:α->Prop} {num:α->Option Nat} {stp:α->Nat}
def nums (num:α->Option Nat) (h:List α):List Nat:=h.filterMap num
def ends (num:α->Option Nat) (h:List α):Nat:=(h.filter λx=>(num x).isNone).length
theorem Ve (a b:List Nat):jQ (a++b)=jQ a^^^jQ b:=by
 induction a with
 | nil=>show jQ b=0^^^jQ b;rw[zcs]
 | cons x a ih=>rw[zcw,Zr,ih,Zr,zbk]
theorem jC {p q:List α} {x:α} {n:Nat} (h:num x=some n):jQ (nums num (p++x::q))=n^^^jQ (nums num (p++q)):=by
 unfold nums
 rw[zan,zao,h,zan,Ve,Ve]
 show _^^^ (n^^^jQ _)=_
 rw[<-zbk,zdN _ n,zbk]
theorem Xg {p q:List α} {x:α} (h:num x=none):nums num (p++x::q)=nums num (p++q):=by
 unfold nums
 rw[zan,zao,h,zan]
theorem je {p q:List α} {x:α} {n:Nat} (h:num x=some n):ends num (p++x::q)=ends num (p++q):=by
 unfold ends
 rw[zaS,zbv,h,zaS]
 rfl
theorem jE {p q:List α} {x:α} (h:num x=none):ends num (p++x::q)=ends num (p++q)+1:=by
 unfold ends
 rw[zaS,zbv,h,zaS,tK,tK]
 show _+(_+1)=_
 omega
def zu (stp:α->Nat) (h:List α):Nat:=(h.map stp).sum
theorem j5 {p q:List α} {x:α}:zu stp (p++x::q)=stp x+zu stp (p++q):=by
 unfold zu
 rw[tI,tW,zch,zaU,tI,zch]
 omega
theorem ZZ {a b c:Nat} (h:a^^^c=b^^^c):a=b:=by
 have:a^^^c^^^c=b^^^c^^^c:=by rw[h]
 rwa [zbk,zbk,zbV,zdm,zdm]at this
theorem Yt (L:Ws G ok num stp) {h:List α} (hk:∀x∈h,ok x) {m:Nat} (lt:m < jQ (nums num h)):∃p x y q,h=p++x::q/\y∈G x/\(∃n k,num x=some n/\num y=some k)/\jQ (nums num (p++y::q))=m/\stp y < stp x:=by
 obtain⟨n,hn,hl⟩:=ky lt
 obtain⟨x,hx,ex⟩:=zaF.mp hn
 obtain⟨p,q,rfl⟩:=zcR hx
 obtain⟨y,hy,ey,ly⟩:=L.n1 (hk x hx) ex hl
 refine⟨p,x,y,q,rfl,hy,⟨n,_,ex,ey⟩,?_,ly⟩
 rw[jC ey,jC ex]
 generalize jQ (nums num (p++q))=r
 rw[<-zbk n n r,zbV,zcs,zdN r m,zbk,zbV,zdm]
theorem Jg {h p q:List α} {x y:α} (L:Ws G ok num stp) (hk:∀x∈h,ok x) (e:h=p++x::q) (hy:y∈G x):∀z∈p++y::q,ok z:=λz hz=>by
 subst e
 rcases tX.mp hz with hz | hz
 . exact hk z (zak _ hz)
 . rcases tY.mp hz with rfl | hz
   . exact L.cl (hk x (by simp)) hy
   . exact hk z (tJ _ (tZ _ hz))
theorem yj (L:Ws G ok num stp):∀(c:Nat) {h:List α},zu stp h<=c->(∀x∈h,ok x)->ends num h=0->jQ (nums num h)=0->Yr (mv G) h:=by
 intro c
 induction c using zcD with
 | _ c ih=>
   intro h hc hk he hx
   refine .mk λb hb=>?_
   obtain⟨p,x,y,q,rfl,hy,rfl⟩:=(jy G).mp hb
   have okx:=hk x (by simp)
   have hk':=Jg L hk rfl hy
   cases ex:num x with
   | none=>rw[jE ex]at he;omega
   | some n=>
     rw[je ex]at he
     rw[jC ex]at hx
     rw[j5]at hc
     have back:(∀m,num y=some m->n < m)->Won (mv G) (p++y::q):=λgt=>by
       obtain⟨z,hz,ez,lz⟩:=L.n3 okx ex hy gt
       refine .mk (b:=p++z::q) ((jy G).mpr ⟨p,y,z,q,rfl,hz,rfl⟩) (ih (zu stp (p++z::q)) (by rw[j5];omega) (tE _) (Jg L hk' rfl hz) (by rw[je ez];exact he) (by rw[jC ez];exact hx))
     cases ey:num y with
     | none=>exact back λm h=>by rw[ey]at h;cases h
     | some k=>
       rcases zaE k n with lt | rfl | gt
       . have ly:=L.n4 okx ex hy ey lt
         have pos:0 < jQ (nums num (p++y::q)):=by
           rw[jC ey]
           refine zcS λz=>?_
           have:=ZZ (z.trans hx.symm)
           omega
         obtain⟨p',x',y',q',e',hy',⟨n',k',en,ek⟩,x0,l'⟩:=Yt L hk' pos
         have ce:zu stp (p++y::q)=stp y+zu stp (p++q):=j5
         rw[e',j5]at ce
         have ee:ends num (p++y::q)=0:=by rw[je ey];exact he
         refine .mk (b:=p'++y'::q') ((jy G).mpr ⟨p',x',y',q',e',hy',rfl⟩) (ih (zu stp (p'++y'::q')) (by rw[j5];omega) (tE _) (Jg L hk' e' hy') ?_ x0)
         rw[e',je en]at ee
         rw[je ek]
         exact ee
       . exact absurd ey (L.n2 okx ex hy)
       . exact back λm h=>by rw[ey]at h;cases h;exact gt
def Drawn (G:α->List α) (num:α->Option Nat) (h:List α):Prop:=(∃p x q,h=p++x::q/\num x=none/\ends num (p++q)=0/\∀y∈G x,num y≠some (jQ (nums num (p++q))))\/2<=ends num h
theorem Zm {h:List α}:0 < ends num h↔∃p x q,h=p++x::q/\num x=none:=by
 unfold ends
 constructor
 . intro c
   obtain⟨x,hx⟩:=zcC c
   obtain⟨h1,h2⟩:=zad.mp hx
   obtain⟨p,q,e⟩:=zcR h1
   exact⟨p,x,q,e,by simpa using h2⟩
 . rintro⟨p,x,q,rfl,ex⟩
   exact zbs (a:=x) (zad.mpr ⟨by simp,by rw[ex];rfl⟩)
theorem lack (L:Ws G ok num stp) {x:α} (okx:ok x) (ex:num x=none):∃m,(∀j,j < m->∃y∈G x,num y=some j)/\(∀y∈G x,num y≠some m)/\∃y∈G x,num y=none/\∀z∈G y,num z≠some m:=by
 have ⟨b,hb⟩:∃b,∀y∈G x,num y≠some b:=by
   refine⟨(nums num (G x)).sum+1,λy hy e=>?_⟩
   have:∀(l:List Nat) (n:Nat),n∈l->n<=l.sum:=by
     intro l
     induction l with
     | nil=>intro n h;cases h
     | cons a l ih=>
       intro n h
       rw[zaU]
       rcases tY.mp h with rfl | h
       . omega
       . have:=ih n h;omega
   have q:(nums num (G x)).sum+1∈nums num (G x):=zaF.mpr ⟨y,hy,e⟩
   have:=this _ _ q
   omega
 have ⟨m,hm,least⟩:∃m,(∀y∈G x,num y≠some m)/\∀j,j < m->¬∀y∈G x,num y≠some j:=by
   induction b using zcD with
   | _ b ih=>
     by_cases c:∃j,j < b/\∀y∈G x,num y≠some j
     . obtain⟨j,hj,h⟩:=c
       exact ih j hj h
     . exact⟨b,hb,λj hj h=>c ⟨j,hj,h⟩⟩
 have lo:∀j,j < m->∃y∈G x,num y=some j:=λj hj=>Classical.byContradiction λn=>least j hj λy hy e=>n ⟨y,hy,e⟩
 exact⟨m,lo,hm,L.e okx ex lo hm⟩
theorem uk (L:Ws G ok num stp) {h:List α} (hk:∀x∈h,ok x) (d:Drawn G num h):∃b∈mv G h,Drawn G num b:=by
 rcases d with ⟨p,x,q,rfl,ex,he,no⟩ | two
 . have okx:=hk x (by simp)
   obtain⟨m,lo,hm,y,hy,ey,ly⟩:=lack L okx ex
   rcases zaE m (jQ (nums num (p++q))) with lt | e | gt
   . have hk':∀z∈p++q,ok z:=λz hz=>hk z (by
       rcases tX.mp hz with hz | hz
       . exact zak _ hz
       . exact tJ _ (tZ _ hz))
     obtain⟨p',x',y',q',e',hy',⟨n',k',en,ek⟩,x0,_⟩:=Yt L hk' lt
     have key:∃p2 q2,p++x::q∈[p++x::q]/\(p2++x::q2)∈mv G (p++x::q)/\p2++q2=p'++y'::q':=by
       rcases List.append_eq_append_iff.mp e' with ⟨r,e1,e2⟩ | ⟨r,e1,e2⟩
       ·
         refine⟨p,r++y'::q',by simp,(jy G).mpr ⟨p++x::r,x',y',q',?_,hy',?_⟩,?_⟩
         . rw[e2];simp
         . simp
         . rw[e1];simp
       ·
         cases r with
         | nil=>
           simp at e1 e2
           refine⟨p,y'::q',by simp,(jy G).mpr ⟨p++[x],x',y',q',?_,hy',?_⟩,?_⟩
           . rw[<-e2];simp
           . simp
           . rw[e1]
         | cons u r=>
           rw[zcw]at e2
           obtain⟨rfl,e3⟩:=List.cons.inj e2
           refine⟨p'++y'::r,q,by simp,(jy G).mpr ⟨p',x',y',r++x::q,?_,hy',?_⟩,?_⟩
           . rw[e1];simp
           . simp
           . rw[e3];simp
     obtain⟨p2,q2,_,hm2,e2⟩:=key
     refine⟨_,hm2,.inl ⟨p2,x,q2,rfl,ex,?_,?_⟩⟩
     . rw[e2,je ek]
       rw[e',je en]at he
       exact he
     . rw[e2,x0]
       exact hm
   . exact⟨p++y::q,(jy G).mpr ⟨p,x,y,q,rfl,hy,rfl⟩,.inl ⟨p,y,q,rfl,ey,he,by rw[<-e];exact ly⟩⟩
   . obtain⟨y',hy',e'⟩:=lo _ gt
     exact absurd e' (no y' hy')
 . obtain⟨p,x,q,rfl,ex⟩:=Zm.mp (by omega:0 < ends num h)
   obtain⟨m,lo,hm,y,hy,ey,ly⟩:=lack L (hk x (by simp)) ex
   refine⟨p++y::q,(jy G).mpr ⟨p,x,y,q,rfl,hy,rfl⟩,.inr ?_⟩
   rw[jE ex]at two
   rw[jE ey]
   exact two
def Zero (num:α->Option Nat) (h:List α):Prop:=ends num h=0/\jQ (nums num h)=0
theorem kx (L:Ws G ok num stp) {h b:List α} (hk:∀x∈h,ok x) (z:Zero num h) (m:b∈mv G h):¬Zero num b:=λw=>by
 obtain⟨p,x,y,q,rfl,hy,rfl⟩:=(jy G).mp m
 cases ex:num x with
 | none=>have:=z.1;rw[jE ex]at this;omega
 | some n=>
   cases ey:num y with
   | none=>have:=w.1;rw[jE ey]at this;omega
   | some k=>
     have h1:=z.2
     have h2:=w.2
     rw[jC ex]at h1
     rw[jC ey]at h2
     have:=ZZ (h1.trans h2.symm)
     subst this
     exact L.n2 (hk x (by simp)) ex hy ey
theorem Xv {h b:List α} (d:Drawn G num h) (m:b∈mv G h):¬Zero num b:=λw=>by
 obtain⟨p',u,y,q',rfl,hy,rfl⟩:=(jy G).mp m
 cases eu:num u with
 | some n=>
   have pos:0 < ends num (p'++u::q'):=by
     rcases d with ⟨p,x,q,e,ex,_⟩ | two
     . exact Zm.mpr ⟨p,x,q,e,ex⟩
     . omega
   rw[je eu]at pos
   have w1:=w.1
   cases ey:num y with
   | none=>rw[jE ey]at w1;omega
   | some k=>rw[je ey]at w1;omega
 | none=>
   have w1:=w.1
   cases ey:num y with
   | none=>rw[jE ey]at w1;omega
   | some k=>
     rw[je ey]at w1
     rcases d with ⟨p,x,q,e,ex,he,no⟩ | two
     . have hu:u∈p++x::q:=by rw[<-e];simp
       have ux:u=x:=Classical.byContradiction λne=>by
         have:u∈p++q:=by
           rcases tX.mp hu with h | h
           . exact zak _ h
           . rcases tY.mp h with h | h
             . exact absurd h ne
             . exact tJ _ h
         obtain⟨a,b,e2⟩:=zcR this
         have:=Zm.mpr ⟨a,u,b,e2,eu⟩
         omega
       subst ux
       have en:nums num (p'++q')=nums num (p++q):=by rw[<-Xg (p:=p') (q:=q') eu,e,Xg eu]
       have w2:=w.2
       rw[jC ey,en]at w2
       have:k=jQ (nums num (p++q)):=ZZ (c:=jQ (nums num (p++q))) (by rw[w2,zbV])
       exact no y hy (by rw[ey,this])
     . rw[jE eu]at two
       omega
theorem kind (L:Ws G ok num stp) {h:List α} (hk:∀x∈h,ok x):Zero num h\/Drawn G num h\/∃b∈mv G h,Zero num b/\∀x∈b,ok x:=by
 rcases zaE (ends num h) 1 with c | c | c
 . have he:ends num h=0:=by omega
   by_cases hx:jQ (nums num h)=0
   . exact .inl ⟨he,hx⟩
   . obtain⟨p,x,y,q,e,hy,⟨n,k,en,ek⟩,x0,_⟩:=Yt L hk (zcS hx)
     refine .inr (.inr ⟨p++y::q,(jy G).mpr ⟨p,x,y,q,e,hy,rfl⟩,⟨?_,x0⟩,Jg L hk e hy⟩)
     rw[e,je en]at he
     rw[je ek]
     exact he
 . obtain⟨p,x,q,rfl,ex⟩:=Zm.mp (by omega:0 < ends num h)
   rw[jE ex]at c
   have he:ends num (p++q)=0:=by omega
   by_cases d:∃y∈G x,num y=some (jQ (nums num (p++q)))
   . obtain⟨y,hy,ey⟩:=d
     exact .inr (.inr ⟨p++y::q,(jy G).mpr ⟨p,x,y,q,rfl,hy,rfl⟩,⟨by rw[je ey];exact he,by rw[jC ey,zbV]⟩,Jg L hk rfl hy⟩)
   . exact .inr (.inl (.inl ⟨p,x,q,rfl,ex,he,λy hy e=>d ⟨y,hy,e⟩⟩))
 . exact .inr (.inl (.inr (by omega)))
mutual
theorem vT (L:Ws G ok num stp) {h:List α} (hk:∀x∈h,ok x):Yr (mv G) h->Zero num h
 | .mk w=>by
   rcases kind L hk with z | d | ⟨b,hb,z,kb⟩
   . exact z
   . obtain⟨b,hb,d'⟩:=uk L hk d
     have kb:∀x∈b,ok x:=by
       obtain⟨p,x,y,q,e,hy,rfl⟩:=(jy G).mp hb
       exact Jg L hk e hy
     exact absurd d' (won_is L kb (w b hb)).1
   . exact absurd z (won_is L kb (w b hb)).2
theorem won_is (L:Ws G ok num stp) {h:List α} (hk:∀x∈h,ok x):Won (mv G) h->¬Drawn G num h/\¬Zero num h
 | .mk (b:=b) m l=>by
   have kb:∀x∈b,ok x:=by
     obtain⟨p,x,y,q,e,hy,rfl⟩:=(jy G).mp m
     exact Jg L hk e hy
   have z:=vT L kb l
   exact⟨λd=>Xv d m z,λz'=>kx L hk z' m z⟩
end
theorem zh (L:Ws G ok num stp) {h:List α} (hk:∀x∈h,ok x):Yr (mv G) h↔Zero num h:=⟨vT L hk,λz=>yj L _ (tE _) hk z.1 z.2⟩
theorem uJ (L:Ws G ok num stp) {h:List α} (hk:∀x∈h,ok x):Won (mv G) h↔¬Drawn G num h/\¬Zero num h:=⟨won_is L hk,λ⟨d,z⟩=>by
 rcases kind L hk with z' | d' | ⟨b,hb,z',kb⟩
 . exact absurd z' z
 . exact absurd d' d
 . exact .mk hb ((zh L kb).mpr z')⟩
end
section
variable {α:Type} [DecidableEq α] (G:α->List α) (N:List α)
abbrev Rs (α:Type):=List (Nat×List α)
def qG (rs:Rs α) (z:α):Option Nat:=(rs.find? λr=>decide (z∈r.2)).map (·.1)
def Q6 (rs:Rs α) (z:α):Nat:=rs.findIdx λr=>decide (z∈r.2)
def Ys (f:α->Option Nat) (x:α) (n:Nat):Prop:=(∀j,j < n->∃y∈G x,f y=some j)/\(∀y∈G x,f y≠some n)/\∀y∈G x,f y=none->∃z∈G y,f z=some n
structure Uf (rs:Rs α) (n:Nat) (ns:List α):Prop where
 iff:∀x,x∈ns↔x∈N/\qG rs x=none/\Ys G (qG rs) x n
 sub:ns.Sublist N
inductive Qs (n:Nat):Rs α->Rs α->Prop
 | stop {rs:Rs α} (h:Uf G N rs n []):Qs n rs rs
 | more {rs rs':Rs α} {ns:List α} (h:Uf G N rs n ns) (ne:ns≠[]) (k:Qs n (rs++[(n,ns)]) rs'):Qs n rs rs'
inductive All:Nat->Rs α->Rs α->Prop
 | stop {n:Nat} {rs:Rs α} (h:Uf G N rs n []):All n rs rs
 | more {n:Nat} {rs rs' rs'':Rs α} (h:Qs G N n rs rs') (ne:rs'≠rs) (k:All (n+1) rs' rs''):All n rs rs''
variable {G N}
theorem Jx {rs:Rs α} {n:Nat} {ns:List α} {z:α}:qG (rs++[(n,ns)]) z=match qG rs z with | some m=>some m | none=>if z∈ns then some n else none:=by
 unfold qG
 rw[List.find?_append]
 cases e:rs.find? (λr=>decide (z∈r.2)) with
 | some r=>rfl
 | none=>
   by_cases c:z∈ns
   . simp [c]
   . simp [c]
theorem YK {rs:Rs α} {z:α}:qG rs z=none↔∀r∈rs,z∉r.2:=by
 unfold qG
 rw[Option.map_eq_none_iff,zdH]
 simp
theorem Q9 {rs:Rs α} {n m:Nat} {ns:List α} {z:α} (h:qG rs z=some m):Q6 (rs++[(n,ns)]) z=Q6 rs z/\Q6 rs z < rs.length:=by
 have ex:∃r∈rs,z∈r.2:=Classical.byContradiction λno=>by
   have:=YK.mpr λr hr hz=>no ⟨r,hr,hz⟩
   rw[h]at this
   cases this
 obtain⟨r,hr,hz⟩:=ex
 have lt:Q6 rs z < rs.length:=List.findIdx_lt_length_of_exists ⟨r,hr,decide_eq_true hz⟩
 refine⟨?_,lt⟩
 unfold Q6 at lt ⊢
 rw[zdC,if_pos lt]
theorem vB {rs:Rs α} {n:Nat} {ns:List α} {z:α} (h:qG rs z=none) (hz:z∈ns):Q6 (rs++[(n,ns)]) z=rs.length:=by
 have e:Q6 rs z=rs.length:=by
   unfold Q6
   rw[List.findIdx_eq_length]
   intro r hr
   exact decide_eq_false (YK.mp h r hr)
 unfold Q6 at e ⊢
 rw[zdC,if_neg (by rw[e];exact zar _)]
 simp [hz,List.findIdx_cons]
variable (G N) in
structure RF (rs:Rs α) (n:Nat):Prop where
 inN:∀{x m},qG rs x=some m->x∈N
 le:∀{x m},qG rs x=some m->m<=n
 n1:∀{x k m},qG rs x=some k->m < k->∃y∈G x,qG rs y=some m/\Q6 rs y < Q6 rs x
 n2:∀{x y k},qG rs x=some k->y∈G x->qG rs y≠some k
 n3:∀{x y k},qG rs x=some k->y∈G x->(∀m,qG rs y=some m->k < m)->∃z∈G y,qG rs z=some k/\Q6 rs z < Q6 rs x
 n4:∀{x y k m},qG rs x=some k->y∈G x->qG rs y=some m->m < k->Q6 rs y < Q6 rs x
theorem ZK {rs:Rs α} {n m:Nat} {ns:List α} {z:α} (h:qG rs z=some m):qG (rs++[(n,ns)]) z=some m:=by rw[Jx,h]
theorem vZ {rs:Rs α} {n:Nat} {ns:List α} {z:α} (h:qG rs z=none) (hz:z∈ns):qG (rs++[(n,ns)]) z=some n:=by
 rw[Jx,h]
 exact if_pos hz
theorem j9 {rs:Rs α} {n m:Nat} {ns:List α} {z:α} (h:qG (rs++[(n,ns)]) z=some m):(qG rs z=some m/\Q6 (rs++[(n,ns)]) z=Q6 rs z/\Q6 rs z < rs.length)\/(qG rs z=none/\z∈ns/\m=n/\Q6 (rs++[(n,ns)]) z=rs.length):=by
 cases e:qG rs z with
 | some k=>
   rw[ZK e]at h
   cases h
   exact .inl ⟨rfl,Q9 e⟩
 | none=>
   rw[Jx,e]at h
   by_cases c:z∈ns
   . have h:(if z∈ns then some n else none)=some m:=h
     rw[if_pos c]at h
     cases h
     exact .inr ⟨rfl,c,rfl,vB e c⟩
   . have h:(if z∈ns then some n else none)=some m:=h
     rw[if_neg c]at h
     cases h
theorem ud {rs:Rs α} {n:Nat} {ns:List α} {z:α} (h:qG (rs++[(n,ns)]) z=none):qG rs z=none:=by
 cases e:qG rs z with
 | none=>rfl
 | some k=>rw[ZK e]at h;cases h
theorem RF.more {rs:Rs α} {n:Nat} {ns:List α} (v:RF G N rs n) (r:Uf G N rs n ns):RF G N (rs++[(n,ns)]) n:=by
 refine⟨λ{x m} h=>?_,λ{x m} h=>?_,λ{x k m} h lt=>?_,λ{x y k} h hy e=>?_,λ{x y k} h hy gt=>?_,λ{x y k m} h hy ey lt=>?_⟩
 . rcases j9 h with ⟨h,_⟩ | ⟨_,h,_⟩
   . exact v.inN h
   . exact((r.iff x).mp h).1
 . rcases j9 h with ⟨h,_⟩ | ⟨_,_,rfl,_⟩
   . exact v.le h
   . exact tE _
 . rcases j9 h with ⟨h,es,_⟩ | ⟨h,hx,rfl,es⟩
   . obtain⟨y,hy,ey,ly⟩:=v.n1 h lt
     exact⟨y,hy,ZK ey,by rw[es,(Q9 ey).1];exact ly⟩
   . obtain⟨y,hy,ey⟩:=((r.iff x).mp hx).2.2.1 m lt
     exact⟨y,hy,ZK ey,by rw[es,(Q9 (n:=k) (ns:=ns) ey).1];exact(Q9 (n:=k) (ns:=ns) ey).2⟩
 . rcases j9 h with ⟨h,_⟩ | ⟨h,hx,rfl,_⟩
   . rcases j9 e with ⟨e,_⟩ | ⟨e1,hy',e2,_⟩
     . exact v.n2 h hy e
     . obtain⟨z,hz,ez,_⟩:=v.n3 h hy (λm q=>by rw[e1]at q;cases q)
       rw[e2]at ez
       exact((r.iff y).mp hy').2.2.2.1 z hz ez
   . have g:=((r.iff x).mp hx).2.2
     rcases j9 e with ⟨e,_⟩ | ⟨e,hy',_,_⟩
     . exact g.2.1 y hy e
     . obtain⟨z,hz,ez⟩:=g.2.2 y hy e
       exact((r.iff y).mp hy').2.2.2.1 z hz ez
 . rcases j9 h with ⟨h,es,_⟩ | ⟨h,hx,rfl,es⟩
   . obtain⟨z,hz,ez,lz⟩:=v.n3 h hy (λm q=>gt m (ZK q))
     exact⟨z,hz,ZK ez,by rw[es,(Q9 ez).1];exact lz⟩
   . have bare:qG rs y=none:=by
       cases e:qG rs y with
       | none=>rfl
       | some m=>
         have:=gt m (ZK e)
         have:=v.le e
         omega
     obtain⟨z,hz,ez⟩:=((r.iff x).mp hx).2.2.2.2 y hy bare
     exact⟨z,hz,ZK ez,by rw[es,(Q9 (n:=k) (ns:=ns) ez).1];exact(Q9 (n:=k) (ns:=ns) ez).2⟩
 . rcases j9 h with ⟨h,es,_⟩ | ⟨h,hx,rfl,es⟩
   . rcases j9 ey with ⟨ey,es',_⟩ | ⟨_,_,em,_⟩
     . rw[es,es']
       exact v.n4 h hy ey lt
     . have:=v.le h
       omega
   . rcases j9 ey with ⟨ey,es',l'⟩ | ⟨_,_,rfl,_⟩
     . rw[es,es']
       exact l'
     . omega
variable (G N) in
def EP (rs:Rs α) (m:Nat):Prop:=∀x∈N,qG rs x=none->(∀j,j < m->∃y∈G x,qG rs y=some j)->(∀y∈G x,qG rs y≠some m)->∃y∈G x,qG rs y=none/\∀z∈G y,qG rs z≠some m
theorem uh {rs:Rs α} {n:Nat} (r:Uf G N rs n []):EP G N rs n:=λx hx e lo hi=>Classical.byContradiction λno=>by
 refine absurd ((r.iff x).mpr ⟨hx,e,lo,hi,λy hy ey=>Classical.byContradiction λq=>no ⟨y,hy,ey,λz hz ez=>q ⟨z,hz,ez⟩⟩⟩) (by simp)
theorem Gw {rs:Rs α} {n m:Nat} {ns:List α} (v:RF G N rs n) (r:Uf G N rs n ns) (lt:m < n) (h:EP G N rs m):EP G N (rs++[(n,ns)]) m:=λx hx e lo hi=>by
 have old:∀{z j},j<=m->qG (rs++[(n,ns)]) z=some j->qG rs z=some j:=λ{z j} hj ez=>by
   rcases j9 ez with ⟨ez,_⟩ | ⟨_,_,rfl,_⟩
   . exact ez
   . omega
 obtain⟨y,hy,ey,ly⟩:=h x hx (ud e) (λj hj=>let ⟨y,hy,ey⟩:=lo j hj;⟨y,hy,old (by omega) ey⟩) (λy hy ey=>hi y hy (ZK ey))
 refine⟨y,hy,?_,λz hz ez=>ly z hz (old (tE _) ez)⟩
 cases q:qG (rs++[(n,ns)]) y with
 | none=>rfl
 | some k=>
   rcases j9 q with ⟨q,_⟩ | ⟨_,hy',rfl,_⟩
   . rw[ey]at q;cases q
   . obtain⟨z,hz,ez⟩:=((r.iff y).mp hy').2.2.1 m lt
     exact absurd ez (ly z hz)
theorem Gm {n:Nat} {rs rs':Rs α} (g:Qs G N n rs rs'):RF G N rs n->(∀m,m < n->EP G N rs m)->RF G N rs' n/\∀m,m<=n->EP G N rs' m:=by
 induction g with
 | stop r=>exact λv h=>⟨v,λm hm=>by
     rcases zbU m n with c | c
     . exact h m c
     . have:m=n:=by omega
       subst this
       exact uh r⟩
 | more r ne k ih=>exact λv h=>ih (v.more r) λm hm=>Gw v r hm (h m hm)
theorem N3 (cl:∀x∈N,∀y∈G x,y∈N) {n:Nat} {rs rs':Rs α} (a:All G N n rs rs'):RF G N rs n->(∀x m,qG rs x=some m->m < n)->(∀m,m < n->EP G N rs m)->Ws G (·∈N) (qG rs') (Q6 rs'):=by
 induction a with
 | @stop n rs r=>
   intro v lt h
   refine⟨λ{x y} hx hy=>cl x hx y hy,λ{x n m} _=>v.n1,λ{x y n} _=>v.n2,λ{x y n} _=>v.n3,λ{x y n m} _=>v.n4,λ{x m} hx e lo hi=>?_⟩
   rcases zaE m n with c | rfl | c
   . exact h m c x hx e lo hi
   . exact uh r x hx e lo hi
   . obtain⟨y,_,ey⟩:=lo n c
     have:=lt y n ey
     omega
 | @more n rs rs1 rs2 g ne k ih=>
   intro v lt h
   obtain⟨v',h'⟩:=Gm g v h
   exact ih ⟨v'.inN,λ{x m} e=>Nat.le_succ_of_le (v'.le e),v'.n1,v'.n2,v'.n3,v'.n4⟩ (λx m e=>Nat.lt_succ_of_le (v'.le e)) λm hm=>h' m (by omega)
theorem uM (n:Nat):RF G N ([]:Rs α) n:=⟨λh=>(nomatch h),λh=>(nomatch h),λh=>(nomatch h),λh=>(nomatch h),λh=>(nomatch h),λh=>(nomatch h)⟩
theorem VQ (cl:∀x∈N,∀y∈G x,y∈N) {rs:Rs α} (a:All G N 0 [] rs):Ws G (·∈N) (qG rs) (Q6 rs):=N3 cl a (uM 0) (λx m h=>(nomatch h)) λm h=>absurd h (zci m)
end
end MLab
namespace Rb
theorem Qi {b n k:Nat} (hn:n < 16):(turnN b n 16).testBit k=(decide (k < 16)&&b.testBit (k^^^n)):=by
 unfold turnN
 rw[testBit_setN,zbf,decide_eq_true_iff,zaq,decide_eq_true_iff,tL]
 constructor
 . rintro⟨y,hy,rfl⟩
   obtain⟨h1,h2⟩:=mem_memN.mp hy
   exact⟨xor_lt (m:=4) h1 hn,by rw[U7];exact h2⟩
 . rintro⟨h1,h2⟩
   exact⟨k^^^n,mem_memN.mpr ⟨xor_lt (m:=4) h1 hn,h2⟩,U7 k n⟩
theorem kD {b x y:Nat} (hx:x < 16) (hy:y < 16):turnN (turnN b x 16) y 16=turnN b (x^^^y) 16:=by
 refine zdz λk=>?_
 have hxy:x^^^y < 16:=xor_lt (m:=4) hx hy
 rw[Qi hy,Qi hx,Qi hxy,zbk,zdN y x]
 by_cases hk:k < 16
 . rw[decide_eq_true hk,decide_eq_true (xor_lt (m:=4) hk hy)]
   simp
 . rw[decide_eq_false hk]
   simp
theorem yP (n:Nat):turnN 0 n 16=0:=by
 unfold turnN
 have e:memN 0 16=[]:=by decide
 rw[e]
 rfl
inductive W where
 | num (n:Nat)
 | edl (b:Nat)
deriving DecidableEq
def ze:W->W->W
 | .num a,.num b=>.num (a^^^b)
 | .num a,.edl b=>.edl (turnN b a 16)
 | .edl b,.num a=>.edl (turnN b a 16)
 | .edl _,.edl _=>.edl 0
def zO:W->Prop
 | .num n=>n < 16
 | .edl b=>b < 65536
def QK (ws:List W):List Nat:=ws.filterMap λ| .num n=>some n | .edl _=>none
def jX (ws:List W):List Nat:=ws.filterMap λ| .num _=>none | .edl b=>some b
def Qg (ws:List W):W:=match jX ws with
 | []=>.num (jJ (QK ws))
 | [b]=>.edl (turnN b (jJ (QK ws)) 16)
 | _=>.edl 0
theorem yD (ns:List Nat):∀a,ns.foldl (·^^^ ·) a=a^^^jJ ns:=by
 induction ns with
 | nil=>intro a;simp [jJ]
 | cons n ns ih=>
   intro a
   unfold jJ
   rw[zcE,zcE,ih (a^^^n),ih (0^^^n),zcs,zbk]
theorem z8 (n:Nat) (ns:List Nat):jJ (n::ns)=n^^^jJ ns:=by
 show ns.foldl (·^^^ ·) (0^^^n)=_
 rw[yD,zcs]
theorem zA {ns:List Nat} (h:∀x∈ns,x < 16):jJ ns < 16:=by
 induction ns with
 | nil=>decide
 | cons n ns ih=>
   rw[z8]
   exact xor_lt (m:=4) (h n (t9 ..)) (ih λx hx=>h x (tZ _ hx))
theorem WP {ws:List W} (h:∀w∈ws,zO w):∀x∈QK ws,x < 16:=by
 intro x hx
 obtain⟨w,hw,e⟩:=zaF.mp hx
 cases w with
 | num n=>cases e;exact h _ hw
 | edl b=>cases e
theorem zP (ws:List W) (w:W):QK (ws++[w])=QK ws++(match w with | .num n=>[n] | .edl _=>[]):=by
 unfold QK
 rw[zan]
 cases w<;>rfl
theorem zF (ws:List W) (w:W):jX (ws++[w])=jX ws++(match w with | .num _=>[] | .edl b=>[b]):=by
 unfold jX
 rw[zan]
 cases w<;>rfl
theorem yQ {ws:List W} {w:W} (h:∀w∈ws,zO w) (hw:zO w):Qg (ws++[w])=ze (Qg ws) w:=by
 have hl:=zA (WP h)
 unfold Qg
 rw[zF,zP]
 cases w with
 | num n=>
   simp only[zap]
   have e:jJ (QK ws++[n])=jJ (QK ws)^^^n:=z7 _ _
   cases hs:jX ws with
   | nil=>simp only[e];rfl
   | cons b r=>
     cases r with
     | nil=>
       simp only[e]
       show W.edl _=W.edl _
       rw[kD hl hw]
     | cons c r=>
       show W.edl 0=W.edl _
       rw[yP]
 | edl b=>
   simp only[zap]
   cases hs:jX ws with
   | nil=>rfl
   | cons c r=>
     cases r with
     | nil=>rfl
     | cons c2 r=>rfl
theorem yR {ws:List W} (h:∀w∈ws,zO w):zO (Qg ws):=by
 have hl:=zA (WP h)
 unfold Qg
 split
 . exact hl
 . exact U9 (k:=4) (tE _) hl
 . show 0 < 65536;decide
theorem uc {ws:List W} (h:∀w∈ws,zO w):∀i,i<=ws.length->(ws.take i).foldl ze (.num 0)=Qg (ws.take i):=by
 intro i
 induction i with
 | zero=>intro _;rfl
 | succ i ih=>
   intro hi
   have hlt:i < ws.length:=hi
   have e:ws.take (i+1)=ws.take i++[ws[i]]:=by rw[tQ,tF hlt];rfl
   rw[e,zcr,ih (zag hlt),yQ (λw hw=>h w (zbp hw)) (h _ (zbi hlt))]
   rfl
theorem V0 {ws:List W} (h:∀w∈ws,zO w):ws.foldl ze (.num 0)=Qg ws:=by
 have:=uc h ws.length (tE _)
 rw[tG (tE _)]at this
 exact this
end Rb
namespace MLab
section
variable {α:Type} (G:α->List α)
def mvs (b:α×Nat):List (α×Nat):=(G b.1).map (λy=>(y,b.2))++(zaa b.2).map λk=>(b.1,k)
def gS:α ⊕ Nat->List (α ⊕ Nat)
 | .inl z=>(G z).map .inl
 | .inr h=>(zaa h).map .inr
def UH (num:α->Option Nat):α ⊕ Nat->Option Nat
 | .inl z=>num z
 | .inr h=>some h
variable {G} {ok:α->Prop} {num:α->Option Nat} {stp:α->Nat}
def two (b:α×Nat):List (α ⊕ Nat):=[.inl b.1,.inr b.2]
end
section
variable {β:Type} {M:β->List β}
end
section
variable {α:Type} [DecidableEq α] {G:α->List α} {N:List α}
theorem Yu:∀{l m:List α},l.Sublist m->m.Nodup->l=m.filter λx=>decide (x∈l)
 | _,_,.slnil,_=>rfl
 | l,a::m,.cons _ h,nd=>by
   rw[zal]at nd
   have na:a∉l:=λz=>nd.1 (h.subset z)
   rw[zbv,if_neg (by simpa using na)]
   exact Yu h nd.2
 | a::l,_::m,.cons₂ _ h,nd=>by
   rw[zal]at nd
   rw[zbv,if_pos (by simp)]
   congr 1
   have e:=Yu h nd.2
   refine e.trans (zbQ λx hx=>?_)
   have ne:x≠a:=λz=>nd.1 (z▸hx)
   simp [ne]
theorem Uf.uniq (nd:N.Nodup) {rs:Rs α} {n:Nat} {ns ms:List α} (a:Uf G N rs n ns) (b:Uf G N rs n ms):ns=ms:=by
 rw[Yu a.sub nd,Yu b.sub nd]
 exact zbQ λx _=>decide_eq_decide.mpr ((a.iff x).trans (b.iff x).symm)
theorem Qs.uniq (nd:N.Nodup) {n:Nat} {rs a b:Rs α} (h:Qs G N n rs a):Qs G N n rs b->a=b:=by
 induction h with
 | stop r=>
   intro k
   cases k with
   | stop _=>rfl
   | more r' ne _=>exact absurd (r'.uniq nd r) ne
 | more r ne k ih=>
   intro k'
   cases k' with
   | stop r'=>exact absurd (r.uniq nd r') ne
   | more r' _ k2=>
     have:=r.uniq nd r'
     subst this
     exact ih k2
theorem Qs.same {n:Nat} {rs:Rs α} (h:Qs G N n rs rs):Uf G N rs n []:=by
 have len:∀{rs a:Rs α},Qs G N n rs a->rs.length<=a.length:=λ{rs a} h=>by
   induction h with
   | stop _=>exact tE _
   | more r ne k ih=>
     rw[tK]at ih
     omega
 generalize e:rs=a at h
 have e':rs=a:=e
 cases h with
 | stop r=>exact r
 | more r ne k=>
   have:=len k
   rw[tK,zaH]at this
   omega
theorem All.uniq (nd:N.Nodup) {n:Nat} {rs a b:Rs α} (h:All G N n rs a):All G N n rs b->a=b:=by
 induction h with
 | stop r=>
   intro k
   cases k with
   | stop _=>rfl
   | more g ne _=>
     have:=g.uniq nd (Qs.stop r)
     exact absurd this ne
 | more g ne k ih=>
   intro k'
   cases k' with
   | stop r'=>exact absurd (g.uniq nd (Qs.stop r')) ne
   | more g' _ k2=>
     have:=g.uniq nd g'
     subst this
     exact ih k2
variable (G N) in
inductive XO:Nat->Rs α->Prop
 | nil:XO 0 []
 | more {n:Nat} {rs rs':Rs α} (h:XO n rs) (g:Qs G N n rs rs'):XO (n+1) rs'
theorem Gn {n m:Nat} {rs rs':Rs α} (g:Qs G N n rs rs') (h:∀r∈rs,r.1 < m) (lt:n < m):∀r∈rs',r.1 < m:=by
 induction g with
 | stop _=>exact h
 | more r ne k ih=>
   exact ih λx hx=>by
     rcases tX.mp hx with hx | hx
     . exact h x hx
     . rw[zab.mp hx];exact lt
theorem XO.lt {n:Nat} {rs:Rs α} (u:XO G N n rs):∀r∈rs,r.1 < n:=by
 induction u with
 | nil=>intro r h;cases h
 | more h g ih=>exact Gn g (λr hr=>zbP (ih r hr)) (zaJ _)
theorem NX {n m:Nat} {rs:Rs α} (h:∀r∈rs,r.1 < n) {x:α} (e:qG rs x=some m):m < n:=by
 unfold qG at e
 obtain⟨r,hr,e2⟩:=zbH.mp e
 rw[<-e2]
 exact h r (zbW hr)
theorem yf {n m:Nat} {rs rs':Rs α} (h:∀r∈rs,r.1 < n) (lt:n < m) (g:Qs G N m rs rs'):rs'=rs:=by
 cases g with
 | stop _=>rfl
 | more r ne k=>
   exfalso
   rename_i ns
   obtain⟨x,t,e⟩:=zbx ne
   have hx:=((r.iff x).mp (by rw[e];exact t9)).2.2
   obtain⟨y,_,ey⟩:=hx.1 n lt
   exact absurd (NX h ey) (zar _)
theorem We {n:Nat} {rs rs':Rs α} (g:Qs G N n rs rs') {x:α} {m:Nat} (e:qG rs x=some m):qG rs' x=some m:=by
 induction g with
 | stop _=>exact e
 | more _ _ _ ih=>exact ih (ZK e)
theorem w5 {n:Nat} {rs rs':Rs α} (g:Qs G N n rs rs') (ne:rs'≠rs):∃x∈N,qG rs' x=some n:=by
 cases g with
 | stop _=>exact absurd rfl ne
 | more r ne' k=>
   rename_i ns
   obtain⟨x,t,e⟩:=zbx ne'
   have hx:x∈ns:=by rw[e];exact t9
   have h:=(r.iff x).mp hx
   exact⟨x,h.1,We k (vZ h.2.1 hx)⟩
theorem XO.run {n:Nat} {rs:Rs α} (u:XO G N n rs):(All G N 0 [] rs/\∃m,m < n/\∀r∈rs,r.1 < m)\/((∀j,j < n->∃x∈N,qG rs x=some j)/\∀R',All G N n rs R'->All G N 0 [] R'):=by
 induction u with
 | nil=>exact .inr ⟨λj h=>absurd h (zci j),λR' h=>h⟩
 | @more n rs rs' h g ih=>
   rcases ih with ⟨a,m,hm,lt⟩ | ⟨al,k⟩
   . have e:=yf lt hm g
     subst e
     exact .inl ⟨a,m,by omega,lt⟩
   . by_cases e:rs'=rs
     . subst e
       exact .inl ⟨k _ (.stop (Qs.same g)),n,zaJ _,h.lt⟩
     . refine .inr ⟨λj hj=>?_,λR' a=>k R' (.more g e a)⟩
       rcases zbU j n with c | c
       . obtain⟨x,hx,ex⟩:=al j c
         exact⟨x,hx,We g ex⟩
       . have:j=n:=by omega
         subst this
         exact w5 g e
theorem NB {l m:List α}:l.Nodup->(∀z∈l,z∈m)->l.length<=m.length:=by
 induction l generalizing m with
 | nil=>exact λ_ _=>zat _
 | cons a l ih=>
   intro hn h
   rw[zal]at hn
   have ha:=h a t9
   have:=ih (m:=m.erase a) hn.2 λz hz=>(zbS (λ(e:z=a)=>hn.1 (e▸hz))).mpr (h z (tZ _ hz))
   rw[zcb ha]at this
   have:=zbs ha
   rw[zau]
   omega
theorem XO.whole {M:Nat} {R:Rs α} (u:XO G N M R) (len:N.length < M):All G N 0 [] R:=by
 rcases u.run with ⟨a,_⟩ | ⟨al,_⟩
 . exact a
 . exfalso
   have:=NB (l:=zaa M) (m:=N.filterMap (qG R)) zcz λj hj=>by
     obtain⟨x,hx,ex⟩:=al j (zaQ.mp hj)
     exact zaF.mpr ⟨x,hx,ex⟩
   rw[zam]at this
   have:=zaM (qG R) N
   omega
end
section
variable {β:Type} [DecidableEq β] {M:β->List β}
mutual
theorem zg {a:β}:Yr M a->¬Won M a
 | .mk w=>λ⟨m,l⟩=>won_not (w _ m) l
theorem won_not {a:β}:Won M a->¬Yr M a
 | .mk m l=>λ⟨w⟩=>zg l (w _ m)
end
def pr (M:β->List β) (Bs:List β) (h:β):List β:=Bs.filter λc=>decide (h∈M c)
def opn (P l:List β):Nat:=(l.filter λc=>decide (c∉P)).length
structure Gnd (M:β->List β) (Bs:List β):Prop where
 nd:Bs.Nodup
 cl:∀{a b},a∈Bs->b∈M a->b∈Bs
 mnd:∀{a},a∈Bs->(M a).Nodup
structure Bi (M:β->List β) (Bs:List β) (F:β->Option Bool) (P ln:List β) (lf:β->Nat) (h:β) (j:Nat):Prop where
 dom:∀b,(F b).isSome=true↔b∈P\/b=h\/b∈ln
 nd:(P++h::ln).Nodup
 sub:∀b∈P++h::ln,b∈Bs
 lost:∀{b},F b=some false->Yr M b
 won:∀{b},F b=some true->Won M b
 cnt:∀{b},b∈Bs->F b=none->lf b+(if b∈(pr M Bs h).take j then 1 else 0)=opn P (M b)/\0 < lf b/\(∀c∈M b,c∈P->F c=some true)/\(b∈(pr M Bs h).take j->F h=some true)
structure Bk (M:β->List β) (Bs:List β) (F:β->Option Bool) (P ln:List β) (lf:β->Nat):Prop where
 dom:∀b,(F b).isSome=true↔b∈P\/b∈ln
 nd:(P++ln).Nodup
 sub:∀b∈P++ln,b∈Bs
 lost:∀{b},F b=some false->Yr M b
 won:∀{b},F b=some true->Won M b
 cnt:∀{b},b∈Bs->F b=none->lf b=opn P (M b)/\0 < lf b/\∀c∈M b,c∈P->F c=some true
variable {Bs:List β} {F:β->Option Bool} {P ln:List β} {lf:β->Nat} {h:β}
end
end MLab
namespace Rh
open PySem L2
def top (i:Nat):Stmt:=PySem.Challenge.pw_ringheaps_k62_whole_winner_against_any_a.main.body.getD i (.Pass ⟨0,0,0,0⟩)
abbrev Z8:Stmt:=top 14
abbrev vG:Stmt:=top 67
abbrev YC:Stmt:=top 68
abbrev Yc:Stmt:=top 69
abbrev YY:Stmt:=top 70
abbrev Y0:Stmt:=top 71
abbrev vy:Stmt:=top 72
abbrev WB:Stmt:=top 85
open PySem L2 PyProof.Rows
structure qU (K:PySem.W.Frag) (mg:Str->Option Value) (x:Str) (st:Stmt) (ps:List Str) (f:Addr) (fd:FuncData):Prop where
 fn:jI K x x st f fd
 ns:mg x=some (.ref f)
 bi:jG K fd ps []
theorem qH {X:Cx} {x:Str} {st:Stmt} {ps:List Str} {f:Addr} {fd:FuncData} {k:Nat} {sp:Sp} {e:Expr} {es:List Expr} {t:TA} {p pos:Pos} (h:qU X.K X.mg x st ps f fd) (G:qm X.prog X.w X.K X.mg X.base qK k f fd ps sp) (hr:qV k X.A)
   (hg:Gl X x) (ha:JA X (e::es) t) (hdb:(x==("__debug__":Str))=false:=by decide) (he:starEach (e::es) X.env=(false,eval e X.env)::starEach es X.env:=by rfl) (hpl:(backTo pos (starEach es X.env)).any (·.1)=false:=by rfl):
   JE X (.Call (.Name x p) (e::es) [] pos) (z9 sp [] E0 t):=.of (vJ G hr hg h.ns h.fn.kp h.bi .nil QJ ha.to hdb he hpl)
theorem qv {H:Hp} {b p:Addr} {o o':HO} (h:H b=some o) (hp:H p=none):upd H p o' b=some o:=by
 rw[qi (qr h hp)]
 exact h
theorem ql {H:Hp} {p:Addr} {o:HO} (hp:H p=none):qo H (upd H p o):=λb u h=>qv h hp
theorem qo.upd {H H':Hp} {p:Addr} {o:HO} (s:qo H H') (hp:H p=none):qo H (upd H' p o):=λb u h=>by
 rw[qi (qr h hp)]
 exact s b u h
def src (n s t:Int):List (qL×V):=[(Sum.inr "number",.int n),(Sum.inr "seed",.int s),(Sum.inr "turn",.int t)]
theorem nns:¬(Str.ofString "number")=Str.ofString "seed":=by decide+kernel
theorem nnt:¬(Str.ofString "number")=Str.ofString "turn":=by decide+kernel
theorem nst:¬(Str.ofString "seed")=Str.ofString "turn":=by decide+kernel
theorem nsn:¬(Str.ofString "seed")=Str.ofString "number":=by decide+kernel
theorem ntn:¬(Str.ofString "turn")=Str.ofString "number":=by decide+kernel
theorem nts:¬(Str.ofString "turn")=Str.ofString "seed":=by decide+kernel
theorem wY {a b:Str} (h:¬a=b):¬(Sum.inr a:qL)=Sum.inr b:=λe=>h (Sum.inr.inj e)
section
variable {H:Hp} {d:Addr} {n s t:Int}
theorem gN (h:H d=some (.dK (src n s t))):jO H d (.str "number") (some (.int n)):=by
 have e:jj (src n s t) (Sum.inr "number":qL)=some (.int n):=jh rfl
 have q:=jO.k (k:=(Sum.inr "number":qL)) h
 rw[e]at q
 exact q
theorem gS (h:H d=some (.dK (src n s t))):jO H d (.str "seed") (some (.int s)):=by
 have e:jj (src n s t) (Sum.inr "seed":qL)=some (.int s):=(ji (wY nns)).trans (jh rfl)
 have q:=jO.k (k:=(Sum.inr "seed":qL)) h
 rw[e]at q
 exact q
theorem gT (h:H d=some (.dK (src n s t))):jO H d (.str "turn") (some (.int t)):=by
 have e:jj (src n s t) (Sum.inr "turn":qL)=some (.int t):=(ji (wY nnt)).trans ((ji (wY nst)).trans (jh rfl))
 have q:=jO.k (k:=(Sum.inr "turn":qL)) h
 rw[e]at q
 exact q
theorem MD:(src n s t).length < sizeLine:=qp (by show 3<=1000;decide)
theorem pN (h:H d=some (.dK (src n s t))) (v:Int):Q4 H d (.str "number") (.int v) (upd H d (.dK (src v s t))):=by
 have e:jN (src n s t) (Sum.inr "number":qL) (.int v)=src v s t:=by
   unfold jN src
   simp [nsn,ntn]
 have q:=Q4.k (k:=(Sum.inr "number":qL)) (v:=.int v) h MD
 rw[e]at q
 exact q
theorem pT (h:H d=some (.dK (src n s t))) (v:Int):Q4 H d (.str "turn") (.int v) (upd H d (.dK (src n s v))):=by
 have e:jN (src n s t) (Sum.inr "turn":qL) (.int v)=src n s v:=by
   unfold jN src
   simp [nnt,nst]
 have q:=Q4.k (k:=(Sum.inr "turn":qL)) (v:=.int v) h MD
 rw[e]at q
 exact q
end
def ZN:Sp:=λvs H Q _=>∃(d:Addr) (m n s t:Int),vs=[.ref d,.int m]/\H d=some (.dK (src n s t))/\0 < m/\m.natAbs < 2^200/\∀r n' t',0<=r->r < m->Q (.int r) (upd H d (.dK (src n' s t')))
def Vo:Sp:=λvs H Q _=>∃c:Int,vs=[.int c]/\∀d n s,H d=none->Q (.ref d) (upd H d (.dK (src n s 0)))
def xk (K:PySem.W.Frag):Sp:=λvs H Q _=>∃(a:Addr) (ns:List Int) (k:Int),vs=[.ref a,.int k]/\SqL K H a (ns.map V.int)/\0<=k/\∀v,Q (.int v) H
section
variable {P:Program} {w:World} {K:PySem.W.Frag} {mg:Str->Option Value} {base:Heap}
theorem Wz:qt ["_law_source_here","_law_many","_law_digit","_law_number"] ["_law_source_here","_law_many"] (qj Yc):=⟨rfl,rfl,rfl,by decide+kernel,rfl,by decide+kernel,by decide+kernel⟩
theorem zf {f:Addr} {fd:FuncData} (F:jI K "_law_take" "_law_take" Yc f fd):qm P w K mg base qK 1 f fd ["_law_source_here","_law_many"] ZN:=by
 refine F.okJ Wz (λvs H Q E h=>?_) (λcdv A outer s H vs Q E hr h=>?_)
 . obtain⟨d,m,n,sd,t,rfl,_⟩:=h
   rfl
 . obtain⟨d,m,n,sd,t,rfl,hd,m0,m1,k⟩:=h
   have hu:=jU hr
   refine⟨_,qf (qM (qu Yf (qX hu (jv 0) qR (λ_ _=>rfl)) qk (qC _))
       (qf (qw (i:=2) Wz.nd rfl (Or.inl rfl) (qO JJ (qX hu (jv 0) qR (λ_ _=>rfl)) (jv 1)))
       (qf (jt hu (jv 0) qR (qO xU (qX hu (jv 0) qR (λ_ _=>rfl)) (jv 1)) rfl)
       (qh (qB (jv 2))))) qE)
     (qf (jt hu (jv 0) qR (qO Qa (qX hu (jv 0) qR (λ_ _=>rfl)) qk) rfl)
     (qf (qw (i:=3) Wz.nd rfl (Or.inl rfl) (qO JJ (qO QU (qO Qa (qX hu (jv 0) qR (λ_ _=>rfl)) (qO QU qk (qX hu (jv 0) qR (λ_ _=>rfl)))) qk) qk))
     (qf (qw (i:=3) Wz.nd rfl (Or.inl rfl) (qO JJ (qO QU (jv 3) (jv 3)) qk))
     (qh (qB (qO JJ (qO Ky (qO JJ (qO QU (qO Qa (jv 3) (qX hu (jv 0) qR (λ_ _=>rfl))) (qO Qa (jv 3) qk)) qk) qk) (jv 1))))))),?_⟩
   refine⟨_,rfl,d,_,rfl,gN hd,_,_,rfl,rfl,_,rfl,?_⟩
   refine yq (λ_=>?_) (λ_=>?_)
   . refine⟨_,rfl,d,_,rfl,gN hd,_,rfl,_,_,rfl,rfl,m0,?_⟩
     refine⟨_,rfl,d,_,rfl,gN hd,_,rfl,_,_,rfl,rfl,⟨m0,m1⟩,_,rfl,d,_,rfl,pN hd _,?_⟩
     exact⟨_,rfl,k _ _ _ (zbM _ (by omega)) (zby _ m0)⟩
   . refine⟨_,rfl,d,_,rfl,gT hd,_,_,rfl,rfl,_,rfl,d,_,rfl,pT hd _,?_⟩
     have h1:upd H d (.dK (src n sd (t+1))) d=some (.dK (src n sd (t+1))):=qe
     refine⟨_,rfl,d,_,rfl,gS h1,_,rfl,d,_,rfl,gT h1,_,_,rfl,rfl,.inl ⟨by decide,by decide⟩,_,_,rfl,rfl,_,_,rfl,rfl,.inr ⟨by decide,by decide⟩,_,_,rfl,rfl,(by show (0:Int) < 2147483647;decide),?_⟩
     generalize ha:((sd+7919*(t+1))*48271) % 2147483647=x
     have x0:0<=x:=by rw[<-ha];exact zbM _ (by decide)
     have x1:x < 2147483647:=by rw[<-ha];exact zby _ (by decide)
     refine⟨_,rfl,_,rfl,_,_,rfl,rfl,.inl ⟨by omega,by omega⟩,_,_,rfl,rfl,(by show (0:Int) < 2147483629;decide),?_⟩
     generalize hb:(x*x) % 2147483629=y
     have y0:0<=y:=by rw[<-hb];exact zbM _ (by decide)
     have y1:y < 2147483629:=by rw[<-hb];exact zby _ (by decide)
     refine⟨_,rfl,_,rfl,d,_,rfl,gT h1,_,_,rfl,rfl,_,rfl,_,_,rfl,rfl,_,_,rfl,rfl,.inr ⟨by omega,by omega⟩,_,_,rfl,rfl,(by show (0:Int) < 2147483587;decide),_,_,rfl,rfl,⟨by decide,by decide⟩,_,rfl,_,_,rfl,rfl,m0,?_⟩
     exact k _ _ _ (zbM _ (by omega)) (zby _ m0)
end
open PySem L2 PyProof.Rows
structure QL (mg:Str->Option Value):Prop where
 len:mg "len"=none
 max:mg "max"=none
 min:mg "min"=none
 int:mg "int"=none
 rng:mg "range"=none
theorem yi (n s t:Int):QG [] (src n s t)=src n s t:=by
 unfold QG src
 simp only[zcE,List.foldl_nil]
 unfold jN
 simp [nns,nnt,nst,nsn,ntn,nts]
section
variable {P:Program} {w:World} {K:PySem.W.Frag} {mg:Str->Option Value} {base:Heap}
theorem xr:qt ["_law_cell"] ["_law_cell"] (qj YC):=⟨rfl,rfl,rfl,by decide+kernel,rfl,by decide+kernel,by decide+kernel⟩
theorem k9 {f:Addr} {fd:FuncData} (F:jI K "_law_source" "_law_source" YC f fd) (B:QL mg):qm P w K mg base qK 1 f fd ["_law_cell"] Vo:=by
 refine F.okJ xr (λvs H Q E h=>?_) (λcdv A outer s H vs Q E hr h=>?_)
 . obtain⟨c,rfl,_⟩:=h
   rfl
 . obtain⟨c,rfl,k⟩:=h
   refine⟨_,qh (qB (Gf
     (Xn qR (qO QU (qJ (yJ rfl) (by rfl) B.max boot_max (qd qk (qd (jv 0) qg)))
       (jw zY (by rfl) B.int boot_int (qd (Qo vL (jv 0) (qO Nf qk qk) (qC _)) qg)))
     (Xn qR (qO JJ (jv 0) qk) (Xn qR qk K7))) rfl rfl (by simp) (by decide))),?_⟩
   intro p hp
   refine⟨_,rfl,_,_,rfl,_,rfl,_,_,rfl,rfl,⟨by decide,by decide,by decide⟩,_,_,rfl,rfl,.inr ⟨_,rfl,_,_,rfl,rfl,.inr ?_,_,rfl,_,_,rfl,rfl,(by show (0:Int) < 2147483629;decide),?_⟩⟩
   . split<;>exact⟨by decide,by decide⟩
   . refine⟨qe,src _ _ 0,rfl,(by show 3<=15;decide),?_⟩
     rw[yi,jB]
     exact k p _ _ hp
theorem R6:qt ["_law_script","_law_k"] ["_law_script","_law_k"] (qj vG):=⟨rfl,rfl,rfl,by decide+kernel,rfl,by decide+kernel,by decide+kernel⟩
theorem KR {f:Addr} {fd:FuncData} (F:jI K "_law_cell_at" "_law_cell_at" vG f fd) (B:QL mg):qm P w K mg base qK 1 f fd ["_law_script","_law_k"] (xk K):=by
 refine F.okJ R6 (λvs H Q E h=>?_) (λcdv A outer s H vs Q E hr h=>?_)
 . obtain⟨a,ns,k,rfl,_⟩:=h
   rfl
 . obtain⟨a,ns,k,rfl,hS,k0,q⟩:=h
   refine⟨_,qf (qM (qu QV (jv 1) (qJ jf (by rfl) B.len boot_len (qd (jv 0) qg)) (qC _))
       (qh (qB (qY Qy (jv 0) (jv 1) (λ_ _=>rfl)))) qE)
     (qh (qB (qO Qa (qO QU qk (jv 1)) qk))),?_⟩
   refine⟨_,rfl,_,rfl,a,_,rfl,.inl hS,_,_,rfl,rfl,_,rfl,?_⟩
   refine yq (λh=>?_) (λ_=>?_)
   . have h1:k < ((ns.map V.int).length:Int):=of_decide_eq_true h
     rw[tj]at h1
     have h2:k.toNat < ns.length:=by omega
     have h3:(ns.map V.int)[k.toNat]?=some (V.int ns[k.toNat]):=by rw[tH,tF h2];rfl
     have h4:k=((k.toNat:Nat):Int):=by omega
     refine⟨_,rfl,_,rfl,a,_,k,V.int ns[k.toNat],rfl,rfl,hS,?_,q _⟩
     have h5:=YL h3
     rw[<-h4]at h5
     exact h5
   . exact⟨_,rfl,_,_,rfl,rfl,.inl ⟨by decide,by decide⟩,_,_,rfl,rfl,q _⟩
end
open PySem L2 PyProof.Rows
def Fr (H:Hp) (d:Addr) (H':Hp):Prop:=∀b o,H b=some o->b≠d->H' b=some o
theorem Fr.refl {H:Hp} {d:Addr}:Fr H d H:=λ_ _ h _=>h
theorem Fr.at_d {H H':Hp} {d:Addr} {o:HO} (h:Fr H d H'):Fr H d (upd H' d o):=λb u hb hn=>by
 rw[qi hn]
 exact h b u hb hn
theorem Fr.new {H H':Hp} {d p:Addr} {o:HO} (h:Fr H d H') (hp:H' p=none):Fr H d (upd H' p o):=λb u hb hn=>qv (h b u hb hn) hp
theorem Fr.own {H H':Hp} {d p:Addr} {o:HO} (h:Fr H d H') (hp:H p=none):Fr H d (upd H' p o):=λb u hb hn=>by
 rw[qi (qr hb hp)]
 exact h b u hb hn
theorem Fr.trans {H H' H'':Hp} {d:Addr} (h:Fr H d H') (k:Fr H' d H''):Fr H d H'':=λb u hb hn=>k b u (h b u hb hn) hn
theorem Fr.fresh {H H':Hp} {d p:Addr} {o:HO} (h:Fr H d H') (hd:H' d=some o) (hp:H' p=none):H p=none:=by
 cases e:H p with
 | none=>rfl
 | some u=>
   by_cases n:p=d
   . subst n
     rw[hd]at hp
     cases hp
   . rw[h p u e n]at hp
     cases hp
def jR (c:Nat):Bool:=decide (97<=c)&&decide (c<=122)
def jD (z:Str):Bool:=(decide (1<=z.length)&&decide (z.length<=8))&&z.cps.toList.all jR
def kt:Str:="abcdefghijklmnopqrstuvwxyz"
theorem Wr:kt.cps.toList=[97,98,99,100,101,102,103,104,105,106,107,108,109,110,111,112,113,114,115,116,117,118,119,120,121,122]:=by decide+kernel
theorem uu:kt.cps.toList=(zaa 26).map (97+·):=by rw[Wr];rfl
theorem kr:kt.length<=sizeLine:=by
 show kt.cps.size<=sizeLine
 rw[<-zaB,Wr]
 decide
theorem uv {r:Int} (h0:0<=r) (h1:r < 26):km kt.cps.toList r=some (97+r.toNat):=by
 have h2:kt.cps.toList[r.toNat]?=some (97+r.toNat):=by
   rw[uu,tH,zbB (by omega)]
   rfl
 have h4:=YL h2
 have h5:r=((r.toNat:Nat):Int):=by omega
 rw[<-h5]at h4
 exact h4
theorem Wa {r:Int} (h0:0<=r) (h1:r < 26):jR (97+r.toNat)=true:=by
 unfold jR
 rw[decide_eq_true (by omega:97<=97+r.toNat),decide_eq_true (by omega:97+r.toNat<=122)]
 rfl
theorem NK (ws:List Nat):(Txt.join (Str.ofString "") (ws.map λk=>(⟨#[k]⟩:Str))).cps.toList=ws:=by
 show (Builtin.Str.glued (Str.ofString "") _).cps.toList=_
 rw[StrLaws.glued_eq_join]
 have e:(Str.ofString "")=⟨#[]⟩:=by decide+kernel
 rw[e,PyProof.Rows.join_ones]
theorem yt {z:Str} {A B:List Nat} {c:Nat} (e:z.cps.toList=A++[c]++B) (hA:A.all jR=true) (hc:jR c=true) (hB:B.all jR=true) (hl:A.length+B.length<=7):jD z=true:=by
 have l:z.length=A.length+1+B.length:=by
   show z.cps.size=_
   rw[<-zaB,e]
   simp
   omega
 unfold jD
 rw[decide_eq_true (by omega:1<=z.length),decide_eq_true (by omega:z.length<=8),e,zdr,zdr,hA,hB]
 simp [hc]
def vN (f s:Int) (k:Nat):Nat:=97+((f+s*(k:Int)) % 26).toNat
theorem KZ:∀s∈[(1:Int),3,5,7,9,11],∀k,k < 14->∀j,j < 14->(s*((k:Nat):Int) - s*((j:Nat):Int)) % 26=0->k=j:=by decide+kernel
theorem KY {f s:Int} {k j:Nat} (hs:s=1\/s=3\/s=5\/s=7\/s=9\/s=11) (hk:k < 14) (hj:j < 14) (h:vN f s k=vN f s j):k=j:=by
 unfold vN at h
 refine KZ s (by simpa using hs) k hk j hj ?_
 generalize s*(k:Int)=x at h ⊢
 generalize s*(j:Int)=y at h ⊢
 omega
def Jd (A:List Nat) (f s:Int) (zs:List Str):Prop:=∀j z,zs[j]?=some z->∃B,z.cps.toList=A++[vN f s j]++B/\B.all jR=true/\A.length+B.length<=7
theorem Jd.snoc {A:List Nat} {f s:Int} {zs:List Str} (h:Jd A f s zs) {z:Str} {B:List Nat} (e:z.cps.toList=A++[vN f s zs.length]++B) (hB:B.all jR=true) (hl:A.length+B.length<=7):Jd A f s (zs++[z]):=by
 intro j y hy
 by_cases hj:j < zs.length
 . rw[zaj hj]at hy
   exact h j y hy
 . have hj':j=zs.length:=by
     have:=(tw.mp hy).1
     rw[tK,zaH]at this
     omega
   subst hj'
   rw[zaf (tE _),zcK]at hy
   obtain rfl:=(tN.inj hy).symm
   exact⟨B,e,hB,hl⟩
theorem Jd.names {A:List Nat} {f s:Int} {zs:List Str} (h:Jd A f s zs) (hA:A.all jR=true):∀z∈zs,jD z=true:=λz hz=>by
 obtain⟨j,hj⟩:=zbb hz
 obtain⟨B,e,hB,hl⟩:=h j z hj
 refine yt e hA ?_ hB hl
 unfold vN
 exact Wa (zbM _ (by decide)) (zby _ (by decide))
theorem Jd.nodup {A:List Nat} {f s:Int} {zs:List Str} (h:Jd A f s zs) (hs:s=1\/s=3\/s=5\/s=7\/s=9\/s=11) (hz:zs.length<=14):zs.Nodup:=by
 refine zaK.mpr λi j hi hj hij e=>?_
 obtain⟨B,b1,_⟩:=h j _ (tF hj)
 obtain⟨C,c1,_⟩:=h i _ (tF hi)
 rw[e]at c1
 have e2:(A++[vN f s j]++B)[A.length]?=(A++[vN f s i]++C)[A.length]?:=by rw[<-b1,<-c1]
 rw[zct,zct,zaf (tE _),zaf (tE _),zcK]at e2
 have e3:vN f s j=vN f s i:=tN.inj e2
 exact absurd (KY hs (by omega) (by omega) e3) (by omega)
theorem Ub {A:List Nat} (h:A.all jR=true) (n:Nat):(A.take n).all jR=true:=by
 rw[zaL]at h ⊢
 exact λx hx=>h x (zbp hx)
theorem RT {r:Int} (h0:0<=r) (h1:r < 6):∃m:Int,(m=1\/m=3\/m=5\/m=7\/m=9\/m=11)/\km [V.int 1,V.int 3,V.int 5,V.int 7,V.int 9,V.int 11] r=some (.int m):=by
 have:r=0\/r=1\/r=2\/r=3\/r=4\/r=5:=by omega
 rcases this with rfl | rfl | rfl | rfl | rfl | rfl
 . exact⟨1,by decide,rfl⟩
 . exact⟨3,by decide,rfl⟩
 . exact⟨5,by decide,rfl⟩
 . exact⟨7,by decide,rfl⟩
 . exact⟨9,by decide,rfl⟩
 . exact⟨11,by decide,rfl⟩
def vm:Sp:=λvs H Q _=>∃(d:Addr) (m:Nat) (n s t:Int),vs=[.ref d,.int m]/\H d=some (.dK (src n s t))/\m<=14/\
 ∀(l:Addr) (zs:List Str) (n' t':Int) (H':Hp),H l=none->H' l=some (.lst (zs.map V.str))->zs.length=m->(∀z∈zs,jD z=true)->zs.Nodup->H' d=some (.dK (src n' s t'))->Fr H d H'->Q (.ref l) H'
theorem Vj:∀zs:List Str,(zs.map λ_=>1).sum=zs.length
 | []=>rfl
 | z::zs=>by rw[tW,zaU,Vj zs,zau];omega
section
variable {P:Program} {w:World} {K:PySem.W.Frag} {mg:Str->Option Value} {base:Heap}
abbrev Nu:List Str:=["_law_source_here","_law_many","_law_letters","_law_word","_law_ahead","_law_first","_law_step","_law_names_here","_law_k","_law_behind"]
theorem QN:qt Nu ["_law_source_here","_law_many"] (qj YY):=⟨rfl,rfl,rfl,by decide+kernel,rfl,by decide+kernel,by decide+kernel⟩
theorem wa {f fT:Addr} {fd fdT:FuncData} (F:jI K "_law_names" "_law_names" YY f fd) (B:QL mg) (hT:qU K mg "_law_take" Yc ["_law_source_here","_law_many"] fT fdT):qm P w K mg base qK 2 f fd ["_law_source_here","_law_many"] vm:=by
 have GT:qm P w K mg base qK 1 fT fdT ["_law_source_here","_law_many"] ZN:=zf hT.fn
 refine F.okJ QN (λvs H Q E h=>?_) (λcdv A outer s H vs Q E hr h=>?_)
 . obtain⟨d,m,n,sd,t,rfl,_⟩:=h
   rfl
 . obtain⟨d,m,n,sd,t,rfl,hd,hm,q⟩:=h
   refine⟨_,qf (qw (i:=2) QN.nd rfl (Or.inr rfl) qR)
     (qf (qw (i:=3) QN.nd rfl (Or.inl rfl) (zm PySem.F.plainAttrs_str PySem.F.slot_str_join PySem.F.type_str_join K2 qR (qd
       (Qd (N':=["_law_k","_law_letters","_law_source_here"]) (ix:=[none,some 2,some 0]) rfl ⟨rfl,rfl,rfl,rfl,rfl⟩
         (jP (by rfl) B.rng (qd qk qg))
         (λC s2 H2 fp pins=>⟨qA (i:=0) (show (["_law_k","_law_letters","_law_source_here"]:List Str).Nodup by decide+kernel) rfl (Or.inl rfl),jL,
           qY wS (jv 1) (qH hT GT hr (by rfl) (qd (jv 2) (qd qk qg))) (λ_ _=>rfl)⟩)) qg)))
     (qf (qw (i:=4) QN.nd rfl (Or.inl rfl) (QZ xm (jv 3) JP (JN (qO QU (qH hT GT hr (by rfl) (qd (jv 0) (qd qk qg))) (qH hT GT hr (by rfl) (qd (jv 0) (qd qk qg)))))))
     (qf (qw (i:=5) QN.nd rfl (Or.inl rfl) (qH hT GT hr (by rfl) (qd (jv 0) (qd qk qg))))
     (qf (qw (i:=6) QN.nd rfl (Or.inl rfl) (qY Qy (jS (qd qk (qd qk (qd qk (qd qk (qd qk (qd qk qg))))))) (qH hT GT hr (by rfl) (qd (jv 0) (qd qk qg))) (λ_ _=>rfl)))
     (qf (qw (i:=7) QN.nd rfl (Or.inl rfl) (jS qg))
     (qf (jd PassesOwn.never rfl (jP (by rfl) B.rng (qd (jv 1) qg)) (qA (i:=8) QN.nd rfl (Or.inl rfl))
       (qf (qw (i:=9) QN.nd rfl (Or.inl rfl) (QZ xm (jv 3) JP (JN (qH hT GT hr (by rfl) (qd (jv 0) (qd (qO Nd qk (qJ J1 (by rfl) B.len boot_len (qd (jv 4) qg))) qg))))))
       (qh (jl (zm zaA zbl zbm QQ (jv 7) (qd
         (qO Xd (qO Xd (jv 4) (qY wS (jv 2) (qO JJ (qO Qa (jv 5) (qO QU (jv 6) (jv 8))) qk) (λ_ _=>rfl))) (jv 9)) qg))))))
     (qh (qB (jv 7))))))))),?_⟩
   refine⟨rfl,7,rfl,by decide,by decide,λD hD=>?_⟩
   have nDd:D≠d:=λe=>by rw[e,hd]at hD;cases hD
   refine Jy (λi σ' H'=>∃(v:Option V) (n' t':Int) (ws:List Nat),σ'=[v,some (.str kt),some (.ref d)]/\H' d=some (.dK (src n' sd t'))/\H' D=some (.lst ((ws.map λk=>(⟨#[k]⟩:Str)).map V.str))/\ws.length=i/\ws.all jR=true/\Fr H d H')
     ⟨none,n,t,[],rfl,qv hd hD,qe,rfl,rfl,Fr.refl.new hD⟩ ?_ ?_
   . rintro i σ' H' hi ⟨v,n',t',ws,rfl,hd',hD',hl,ha,fr⟩
     refine⟨_,rfl,_,rfl,d,26,n',sd,t',rfl,hd',by decide,by decide,λr n3 t3 r0 r1=>?_⟩
     refine⟨kt,r,_,rfl,rfl,kr,uv r0 r1,_,(by rw[qi nDd];exact hD'),?_,?_⟩
     . rw[tj,tj,hl]
       exact qp (by omega)
     . refine⟨_,n3,t3,ws++[97+r.toNat],rfl,?_,?_,?_,?_,?_⟩
       . rw[qi (Ne.symm nDd)];exact qe
       . rw[tI,tI];exact qe
       . rw[tK,hl];rfl
       . rw[zdr,ha]
         simp [Wa r0 r1]
       . exact(fr.at_d).own hD
   rintro σ' H1 ⟨v,n1,t1,ws,rfl,hd1,hD1,hl1,ha1,fr1⟩
   have hl1:ws.length=7:=hl1
   refine⟨Str.ofString "",D,_,rfl,rfl,.of hD1,?_,?_⟩
   . have e1:((ws.map λk=>(⟨#[k]⟩:Str)).map (·.length))=(ws.map λk=>(⟨#[k]⟩:Str)).map λ_=>1:=by
       refine zbC λz hz=>?_
       obtain⟨c,_,rfl⟩:=tL.mp hz
       rfl
     have e2:(Str.ofString "").length=0:=by decide+kernel
     rw[e1,e2,Vj,tj,hl1]
     decide
   generalize hw:Txt.join (Str.ofString "") (ws.map λk=>(⟨#[k]⟩:Str))=wd
   have hW:wd.cps.toList=ws:=by rw[<-hw];exact NK ws
   have hWl:wd.length=7:=by
     show wd.cps.size=7
     rw[<-zaB,hW,hl1]
   refine⟨_,rfl,_,rfl,d,2,n1,sd,t1,rfl,hd1,by decide,by decide,λr2 n2 t2 r20 r21=>?_⟩
   refine⟨_,rfl,d,5,n2,sd,t2,rfl,qe,by decide,by decide,λr3 n3 t3 r30 r31=>?_⟩
   rw[jB]
   have e4:∃j:Nat,r2*r3=(j:Int)/\j<=4:=by
     have h2:r2=0\/r2=1:=by omega
     rcases h2 with rfl | rfl
     . exact⟨0,by omega,by omega⟩
     . exact⟨r3.toNat,by omega,by omega⟩
   obtain⟨j,ej,hj⟩:=e4
   refine⟨_,_,rfl,rfl,.inl ⟨by omega,by omega⟩,_,rfl,wd,r2*r3,rfl,rfl,rfl,by omega,?_⟩
   rw[ej]
   generalize ha:Txt.slice wd none (some (j:Int))=ah
   have hA:ah.cps.toList=ws.take j:=by rw[<-ha,YU,hW]
   have hAl:ah.length=j:=by
     show ah.cps.size=j
     rw[<-zaB,hA,tS,hl1]
     omega
   refine⟨_,rfl,d,26,n3,sd,t3,rfl,qe,by decide,by decide,λf n4 t4 f0 f1=>?_⟩
   rw[jB]
   refine⟨by show 6<=sizeLine;decide,λp hp=>?_⟩
   have npd:p≠d:=λe=>by rw[e,qe]at hp;cases hp
   refine⟨_,rfl,d,6,n4,sd,t4,rfl,(by rw[qi (Ne.symm npd)];exact qe),by decide,by decide,λr5 n5 t5 r50 r51=>?_⟩
   obtain⟨st,hst,hsa⟩:=RT r50 r51
   refine⟨p,_,r5,.int st,rfl,rfl,.of (by rw[qi npd];exact qe),hsa,?_⟩
   have fr5:Fr H d (upd (upd (upd H1 d (.dK (src n4 sd t4))) p (.lst [V.int 1,V.int 3,V.int 5,V.int 7,V.int 9,V.int 11])) d (.dK (src n5 sd t5))):=(fr1.at_d.new hp).at_d
   generalize hH5:upd (upd (upd H1 d (.dK (src n4 sd t4))) p (.lst [V.int 1,V.int 3,V.int 5,V.int 7,V.int 9,V.int 11])) d (.dK (src n5 sd t5))=H5 at fr5
   have hd5:H5 d=some (.dK (src n5 sd t5)):=by rw[<-hH5];exact qe
   refine⟨by show 0<=sizeLine;decide,λl hl=>⟨_,rfl,m,rfl,by omega,by omega,?_⟩⟩
   have hHl:H l=none:=fr5.fresh hd5 hl
   have nld:l≠d:=λe=>by rw[e,hd5]at hl;cases hl
   refine Jw (lo:=0) (n:=m) (λi σ' H'=>∃(v1 v2:Option V) (n' t':Int) (zs:List Str),σ'=[some (.ref d),some (.int m),some (.str kt),some (.str wd),some (.str ah),some (.int f),some (.int st),some (.ref l),v1,v2]/\
     H' d=some (.dK (src n' sd t'))/\H' l=some (.lst (zs.map V.str))/\zs.length=i/\Jd (ws.take j) f st zs/\Fr H d H')
     ⟨none,none,n5,t5,[],rfl,qv hd5 hl,qe,rfl,λj z hz=>(nomatch hz),fr5.new hl⟩ ?_ ?_
   . rintro i σ' H' hi ⟨v1,v2,n',t',zs,rfl,hd',hl',hz,hN,fr⟩
     rw[zbT]
     refine⟨_,rfl,_,rfl,_,rfl,ah,rfl,(by rw[hAl];exact zag (qp (by omega))),_,_,rfl,rfl,d,8 - (ah.length:Int),n',sd,t',rfl,hd',by omega,by omega,λr n6 t6 r0 r1=>?_⟩
     have er:r=((r.toNat:Nat):Int):=by omega
     refine⟨_,rfl,wd,r,rfl,rfl,rfl,by omega,?_⟩
     generalize hb:Txt.slice wd none (some r)=bh
     have hB:bh.cps.toList=ws.take r.toNat:=by rw[<-hb,er,YU,hW];rfl
     have hBl:bh.length<=r.toNat:=by
       show bh.cps.size<=r.toNat
       rw[<-zaB,hB,tS]
       omega
     refine⟨_,rfl,.inl ⟨rfl,_,.of (by rw[qi nld];exact hl')⟩,_,rfl,_,rfl,_,rfl,_,rfl,_,rfl,_,_,rfl,rfl,.inl ⟨by omega,by omega⟩,_,_,rfl,rfl,_,_,rfl,rfl,(by show (0:Int) < 26;decide),?_⟩
     refine⟨kt,_,_,rfl,rfl,kr,uv (zbM _ (by decide)) (zby _ (by decide)),?_⟩
     have e26:97+((f+st*(i:Int)) % 26).toNat=vN f st i:=rfl
     rw[e26]
     have l1:(ah++(⟨#[vN f st i]⟩:Str)).length=j+1:=by
       show (ah++(⟨#[vN f st i]⟩:Str)).cps.size=_
       rw[Str.cps_append,Array.size_append]
       show ah.length+1=_
       rw[hAl]
     refine⟨_,_,rfl,rfl,zag (qp (by show ah.length+1<=1000;omega)),_,rfl,_,_,rfl,rfl,zag (qp (by rw[l1];omega)),?_⟩
     refine⟨l,_,_,rfl,rfl,(by rw[qi nld];exact hl'),(by rw[tj,hz];exact qp (by omega)),?_⟩
     refine⟨_,_,n6,t6,zs++[ah++(⟨#[vN f st i]⟩:Str)++bh],rfl,?_,?_,?_,?_,?_⟩
     . rw[qi (Ne.symm nld)];exact qe
     . rw[tI];exact qe
     . rw[tK,hz];rfl
     . refine hN.snoc (B:=ws.take r.toNat) ?_ (Ub ha1 _) ?_
       . rw[Str.cps_append,Str.cps_append,zbY,zbY,hA,hB,hz]
       . rw[tS,tS]
         omega
     . exact fr.at_d.own hHl
   . rintro σ' H' ⟨v1,v2,n',t',zs,rfl,hd',hl',hz,hN,fr⟩
     exact⟨_,rfl,q l zs n' t' H' hHl hl' hz (hN.names (Ub ha1 _)) (hN.nodup hst (by omega)) hd' fr⟩
end
open PySem L2 PyProof.Rows
def U0 (t:TT) (σ:L2.St) (H:Hp):Prop:=∀Q:Bool->Hp->Prop,(∀b,Q b H)->t σ H Q
theorem U0.and {t u:TT} {σ:L2.St} {H:Hp} (h:U0 t σ H) (k:U0 u σ H):U0 (Mz t u) σ H:=λQ q=>h _ λb=>by
 cases b
 . exact jz (q false)
 . exact j4 (k _ q)
theorem U0.or {t u:TT} {σ:L2.St} {H:Hp} (h:U0 t σ H) (k:U0 u σ H):U0 (tOr t u) σ H:=λQ q=>h _ λb=>by
 cases b
 . exact jz (k _ q)
 . exact j4 (q true)
theorem wZ {tc:TT} {tp:TS} {D:J6} {σ:L2.St} {H0:Hp} (G:Hp->Prop) (h:G H0) (ht:U0 tc σ H0) (hp:∀D:J6,(∀H',G H'->D.nx σ H')->tp D σ H0) (k:∀H',G H'->D.nx σ H'):uQ tc tp ve D σ H0:=
 ht _ λb=>by
   cases b
   . exact jz (k _ h)
   . exact j4 (hp D k)
theorem YI {tc:TT} {tp u:TS} {D:J6} {σ:L2.St} {H0:Hp} (G:Hp->Prop) (h:G H0) (ht:U0 tc σ H0) (hp:∀D:J6,(∀H',G H'->D.nx σ H')->tp D σ H0) (k:∀H',G H'->u D σ H'):RN (uQ tc tp ve) u D σ H0:=wZ G h ht hp k
theorem Xr {i:Nat} {v:V} {σ:L2.St} {H:Hp} {Q:L2.St->Hp->Prop} (h:Q (σ.set i (some v)) H):Jv i v σ H Q:=h
abbrev up (k:Nat×Nat):Int×Int:=((k.1:Int),(k.2:Int))
def RC (a b:Nat×Nat):Prop:=a.1 < b.1\/(a.1=b.1/\a.2 < b.2)
abbrev zU (ks:List (Nat×Nat)):List (List qL):=ks.map λk=>Ye (up k)
theorem kY {a b:Nat×Nat} (h:Ye (up a)=Ye (up b)):a=b:=by
 unfold Ye at h
 simp only[List.cons.injEq,Sum.inl.injEq,and_true]at h
 exact Prod.ext (by have:=h.1;omega) (by have:=h.2;omega)
structure J8 (m i j:Nat) (ks:List (Nat×Nat)):Prop where
 ord:ks.Pairwise RC
 lt:∀x∈ks,x.2 < m/\(x.1 < i\/(x.1=i/\x.2 < j))
 len:ks.length<=i*m+j
theorem J8.more {m i j:Nat} {ks:List (Nat×Nat)} (h:J8 m i j ks):J8 m i (j+1) ks:=⟨h.ord,λx hx=>by have:=h.lt x hx;omega,by have:=h.len;omega⟩
theorem J8.snoc {m i j:Nat} {ks:List (Nat×Nat)} (h:J8 m i j ks) (hj:j < m):J8 m i (j+1) (ks++[(i,j)]):=by
 refine⟨zdA.mpr ⟨h.ord,zcl _ _,λa ha b hb=>?_⟩,λx hx=>?_,?_⟩
 . rw[zab.mp hb]
   have:=h.lt a ha
   unfold RC
   omega
 . rcases tX.mp hx with hx | hx
   . have:=h.lt x hx
     omega
   . rw[zab.mp hx]
     exact⟨hj,.inr ⟨rfl,zaJ _⟩⟩
 . rw[tK]
   have:=h.len
   show ks.length+1<=_
   omega
theorem J8.row {m i:Nat} {ks:List (Nat×Nat)} (h:J8 m i m ks):J8 m (i+1) 0 ks:=⟨h.ord,λx hx=>by have:=h.lt x hx;omega,by have:=h.len;rw[Nat.succ_mul];omega⟩
def Ml (m i j:Nat) (kvs:List (List qL×V)):Prop:=∃ks,J8 m i j ks/\(kvs.map (·.1)=zU ks\/kvs.map (·.1)=zU (ks++[(i,j)]))
theorem ko (kvs:List (List qL×V)) (k:List qL):((kvs.any λkv=>decide (kv.1=k))=true)↔k∈kvs.map (·.1):=by
 rw[zaZ,tL]
 simp
theorem K5 {kvs:List (List qL×V)} {k:List qL} (v:V) (h:k∈kvs.map (·.1)):(jN kvs k v).map (·.1)=kvs.map (·.1):=by
 unfold jN
 rw[if_pos ((ko kvs k).mpr h),zaX]
 refine zbC λx _=>?_
 show (if x.1=k then (x.1,v) else x).1=x.1
 split<;>rfl
theorem wI {kvs:List (List qL×V)} {k:List qL} (v:V) (h:¬k∈kvs.map (·.1)):(jN kvs k v).map (·.1)=kvs.map (·.1)++[k]:=by
 unfold jN
 rw[if_neg (λz=>h ((ko kvs k).mp z)),tI]
 rfl
theorem Ml.put {m i j:Nat} {kvs:List (List qL×V)} (h:Ml m i j kvs) (v:V):Ml m i j (jN kvs (Ye (up (i,j))) v):=by
 obtain⟨ks,ha,h⟩:=h
 refine⟨ks,ha,.inr ?_⟩
 rcases h with h | h
 . rw[wI,h,zU,zU,tI]
   . rfl
   . rw[h]
     intro z
     obtain⟨x,hx,e⟩:=tL.mp z
     have e':=kY e
     have:=ha.lt x hx
     rw[e']at this
     omega
 . rw[K5,h]
   rw[h]
   exact tL.mpr ⟨(i,j),by simp,rfl⟩
theorem Ml.len {m i j:Nat} {kvs:List (List qL×V)} (h:Ml m i j kvs):kvs.length<=i*m+j+1:=by
 obtain⟨ks,ha,h⟩:=h
 have hl:=ha.len
 rcases h with h | h
 . have:=congrArg zaD h
   simp only[tj]at this
   omega
 . have:=congrArg zaD h
   simp only[tj,tK,zaH]at this
   omega
theorem Rk {i m:Nat} (hi:i<=m) (hm:m<=14):i*m<=196:=zac (Nat.mul_le_mul (zac hi hm) hm) (by decide)
theorem qas (xs:List V):Yo xs none (some 40)=xs.take 40:=by
 unfold Yo
 have e1:HT.sIx xs.length 0 none=0:=rfl
 have e2:HT.sIx xs.length xs.length (some 40)=min 40 xs.length:=by
   simp [HT.sIx]
 rw[e1,e2,zcQ,zdl]
 by_cases h:40<=xs.length
 . rw[zcg h]
 . rw[zdg (by omega),tG (tE _),tG (by omega)]
def ZA (H:Hp) (ps:List Addr) (ks:List (Nat×Nat)):Prop:=ps.length=ks.length/\∀(i:Nat) (p:Addr) (k:Nat×Nat),ps[i]?=some p->ks[i]?=some k->H p=some (.tup [.int (k.1:Nat),.int (k.2:Nat)])
def vo:Sp:=λvs H Q _=>∃(d:Addr) (m:Nat) (n s t sh lo:Int),vs=[.ref d,.int m,.int sh,.int lo]/\H d=some (.dK (src n s t))/\m<=14/\
 ∀(l:Addr) (ps:List Addr) (ks:List (Nat×Nat)) (n' t':Int) (H':Hp),H l=none->H' l=some (.lst (ps.map V.ref))->ZA H' ps ks->ks.Pairwise RC->(∀x∈ks,x.1 < m/\x.2 < m)->ks.length<=40->H' d=some (.dK (src n' s t'))->Fr H d H'->Q (.ref l) H'
section
variable {P:Program} {w:World} {K:PySem.W.Frag} {mg:Str->Option Value} {base:Heap}
abbrev Nv:List Str:=["_law_source_here","_law_many","_law_shape","_law_low","_law_pairs","_law_k","_law_j","_law_way"]
abbrev Xb:List Str:=["_law_source_here","_law_many","_law_shape","_law_low"]
theorem Z4:qt Nv Xb (qj Y0):=⟨rfl,rfl,rfl,by decide+kernel,rfl,by decide+kernel,by decide+kernel⟩
theorem we {f fT:Addr} {fd fdT:FuncData} (F:jI K "_law_leads" "_law_leads" Y0 f fd) (B:QL mg) (hso:mg "sorted"=none) (hT:qU K mg "_law_take" Yc ["_law_source_here","_law_many"] fT fdT):qm P w K mg base qK 2 f fd Xb vo:=by
 have GT:qm P w K mg base qK 1 fT fdT ["_law_source_here","_law_many"] ZN:=zf hT.fn
 refine F.okJ Z4 (λvs H Q E h=>?_) (λcdv A outer s H vs Q E hr h=>?_)
 . obtain⟨d,m,n,sd,t,sh,lo,rfl,_⟩:=h
   rfl
 . obtain⟨d,m,n,sd,t,sh,lo,rfl,hd,hm,q⟩:=h
   have hu:=jU hr
   refine⟨_,qf (qw (i:=4) Z4.nd rfl (Or.inl rfl) wQ)
     (qf (jd PassesOwn.never rfl (jP (by rfl) B.rng (qd (jv 1) qg)) (qA (i:=5) Z4.nd rfl (Or.inl rfl))
       (qh (jd PassesOwn.never rfl (jP (by rfl) B.rng (qd (jv 1) qg)) (qA (i:=6) Z4.nd rfl (Or.inl rfl))
         (qf (qw (i:=7) Z4.nd rfl (Or.inl rfl) (qH hT GT hr (by rfl) (qd (jv 0) (qd qk qg))))
         (qf (qM (j1 (qu jH (jv 2) qk (qC _)) (jK (zk (j1 (qu QV (jv 6) (jv 5) (qC _)) (jK (qu QV (jv 7) qk (qC _)))).pt (JM (j1 (qu vL (jv 6) (jv 5) (qC _)) (jK (qu QV (jv 7) qk (qC _)))).pt)).pt)).pt
           (qh (jt hu (jv 4) (Qm (qd (jv 5) (qd (jv 6) qg))) Qe rfl)) qE)
         (qf (qM (j1 (qu jH (jv 2) qk (qC _)) (jK (qu QV (jv 7) qk (qC _)))).pt
           (qh (jt hu (jv 4) (Qm (qd (jv 5) (qd (jv 6) qg))) Qe rfl)) qE)
         (qf (qM (j1 (qu jH (jv 2) qk (qC _)) (jK (zk (j1 (qu jH (jv 6) (qO JJ (qO Qa (jv 5) qk) (jv 1)) (qC _)) (jK (qu QV (jv 7) qk (qC _)))).pt (JM (qu QV (jv 7) qk (qC _)))).pt)).pt
           (qh (jt hu (jv 4) (Qm (qd (jv 5) (qd (jv 6) qg))) Qe rfl)) qE)
         (qf (qM (j1 (qu jH (jv 2) qk (qC _)) (j1 (qu QV (jv 6) (jv 5) (qC _)) (jK (zk (qu QV (jv 6) (jv 3) (qC _)) (JM (qu QV (jv 7) qk (qC _)))).pt))).pt
           (qh (jt hu (jv 4) (Qm (qd (jv 5) (qd (jv 6) qg))) Qe rfl)) qE)
         (qh (qM (j1 (qu jH (jv 2) qk (qC _)) (jK (zk (j1 (qu QV (jv 6) (jv 3) (qC _)) (jK (qu QV (jv 6) (jv 5) (qC _)))).pt (JM (j1 (qu vL (jv 5) (jv 3) (qC _)) (jK (qu QV (jv 7) qk (qC _)))).pt)).pt)).pt
           (qh (jt hu (jv 4) (Qm (qd (jv 5) (qd (jv 6) qg))) Qe rfl)) qE)))))))))
       )
     (qh (qB (QZ Z3 (qJ (UZ rfl) (by rfl) hso boot_sorted (qd (jv 4) qg)) JP (JN qk))))),?_⟩
   intro D hD
   have nDd:D≠d:=λe=>by rw[e,hd]at hD;cases hD
   refine⟨_,rfl,m,rfl,by omega,by omega,?_⟩
   refine Jw (lo:=0) (n:=m) (λi σ' H'=>∃(v1 v2 v3:Option V) (n' t':Int) (kvs:List (List qL×V)) (ks:List (Nat×Nat)),σ'=[some (.ref d),some (.int m),some (.int sh),some (.int lo),some (.ref D),v1,v2,v3]/\
     H' d=some (.dK (src n' sd t'))/\H' D=some (.dT kvs)/\kvs.map (·.1)=zU ks/\J8 m i 0 ks/\Fr H d H')
     ⟨none,none,none,n,t,[],[],rfl,qv hd hD,qe,rfl,⟨.nil,λx hx=>(nomatch hx),zat _⟩,Fr.refl.new hD⟩ ?_ ?_
   . rintro i σ' H' hi ⟨v1,v2,v3,n',t',kvs,ks,rfl,hd',hD',ek,ha,fr⟩
     rw[zbT]
     refine⟨_,rfl,m,rfl,by omega,by omega,?_⟩
     refine Jw (lo:=0) (n:=m) (λj σ' H'=>∃(v2 v3:Option V) (n' t':Int) (kvs:List (List qL×V)) (ks:List (Nat×Nat)),σ'=[some (.ref d),some (.int m),some (.int sh),some (.int lo),some (.ref D),some (.int i),v2,v3]/\
       H' d=some (.dK (src n' sd t'))/\H' D=some (.dT kvs)/\kvs.map (·.1)=zU ks/\J8 m i j ks/\Fr H d H')
       ⟨_,_,n',t',kvs,ks,rfl,hd',hD',ek,ha,fr⟩ ?_ ?_
     . rintro j σ' H2 hj ⟨v2,v3,n2,t2,kvs,ks,rfl,hd2,hD2,ek,ha,fr⟩
       rw[zbT]
       refine⟨_,rfl,d,12,n2,sd,t2,rfl,hd2,by decide,by decide,λr n3 t3 r0 r1=>?_⟩
       have hsq:=Rk (zag hi) hm
       let G:Hp->Prop:=λH'=>∃(kvs:List (List qL×V)),H' d=some (.dK (src n3 sd t3))/\H' D=some (.dT kvs)/\Ml m i j kvs/\Fr H d H'
       have g0:G (upd H2 d (.dK (src n3 sd t3))):=⟨kvs,qe,(by rw[qi nDd];exact hD2),⟨ks,ha,.inl ek⟩,fr.at_d⟩
       have put:∀H',G H'->∀E:J6,(∀H',G H'->E.nx [some (.ref d),some (.int m),some (.int sh),some (.int lo),some (.ref D),some (.int i),some (.int j),some (.int r)] H')->
           Rw (jo 4) (yV (j3 (jo 5) (j3 (jo 6) Zc))) (tC (.bl true)) E [some (.ref d),some (.int m),some (.int sh),some (.int lo),some (.ref D),some (.int i),some (.int j),some (.int r)] H':=by
         rintro H' ⟨kvs,h1,h2,h3,h4⟩ E k
         refine⟨_,rfl,_,rfl,_,rfl,by show 2<=sizeLine;decide,λp hp=>?_⟩
         have npd:p≠d:=λe=>by rw[e,h1]at hp;cases hp
         have npD:p≠D:=λe=>by rw[e,h2]at hp;cases hp
         refine⟨D,_,rfl,Q4.t (k:=Ye (up (i,j))) (kvs:=kvs) (by rw[qi (Ne.symm npD)];exact h2) qe (qp (by have:=h3.len;omega)),?_⟩
         refine k _ ⟨_,?_,qe,h3.put _,?_⟩
         . rw[qi (Ne.symm nDd),qi (Ne.symm npd)]
           exact h1
         . exact(h4.new hp).own hD
       refine Xr ?_
       dsimp only[List.set]
       refine YI G g0 ?_ (put _ g0) λH3 g3=>?_
       . exact U0.and (λQ q=>⟨_,rfl,rfl,_,rfl,q _⟩) (.or (.and (λQ q=>⟨_,rfl,_,rfl,_,_,rfl,rfl,_,rfl,q _⟩) (λQ q=>⟨_,rfl,_,_,rfl,rfl,_,rfl,q _⟩)) (.and (λQ q=>⟨_,rfl,_,rfl,_,_,rfl,rfl,_,rfl,q _⟩) (λQ q=>⟨_,rfl,_,_,rfl,rfl,_,rfl,q _⟩)))
       refine YI G g3 ?_ (put _ g3) λH4 g4=>?_
       . exact U0.and (λQ q=>⟨_,rfl,rfl,_,rfl,q _⟩) (λQ q=>⟨_,rfl,_,_,rfl,rfl,_,rfl,q _⟩)
       refine YI G g4 ?_ (put _ g4) λH5 g5=>?_
       . exact U0.and (λQ q=>⟨_,rfl,rfl,_,rfl,q _⟩) (.or (.and (λQ q=>⟨_,rfl,_,rfl,_,_,rfl,rfl,_,rfl,_,_,rfl,rfl,(by show (0:Int) < m;omega),rfl,_,rfl,q _⟩) (λQ q=>⟨_,rfl,_,_,rfl,rfl,_,rfl,q _⟩)) (λQ q=>⟨_,rfl,_,_,rfl,rfl,_,rfl,q _⟩))
       refine YI G g5 ?_ (put _ g5) λH6 g6=>?_
       . exact U0.and (λQ q=>⟨_,rfl,rfl,_,rfl,q _⟩) (.and (λQ q=>⟨_,rfl,_,rfl,_,_,rfl,rfl,_,rfl,q _⟩) (.or (λQ q=>⟨_,rfl,_,rfl,_,_,rfl,rfl,_,rfl,q _⟩) (λQ q=>⟨_,rfl,_,_,rfl,rfl,_,rfl,q _⟩)))
       refine wZ G g6 ?_ (put _ g6) λH7 g7=>?_
       . exact U0.and (λQ q=>⟨_,rfl,rfl,_,rfl,q _⟩) (.or (.and (λQ q=>⟨_,rfl,_,rfl,_,_,rfl,rfl,_,rfl,q _⟩) (λQ q=>⟨_,rfl,_,rfl,_,_,rfl,rfl,_,rfl,q _⟩)) (.and (λQ q=>⟨_,rfl,_,rfl,_,_,rfl,rfl,_,rfl,q _⟩) (λQ q=>⟨_,rfl,_,_,rfl,rfl,_,rfl,q _⟩)))
       obtain⟨kvs,h1,h2,⟨ks,ha,h3⟩,h4⟩:=g7
       rcases h3 with h3 | h3
       . exact⟨_,_,n3,t3,kvs,ks,rfl,h1,h2,h3,ha.more,h4⟩
       . exact⟨_,_,n3,t3,kvs,_,rfl,h1,h2,h3,ha.snoc hj,h4⟩
     . rintro σ' H2 ⟨v2,v3,n2,t2,kvs,ks,rfl,hd2,hD2,ek,ha,fr⟩
       exact⟨_,_,_,n2,t2,kvs,ks,rfl,hd2,hD2,ek,ha.row,fr⟩
   . rintro σ' H1 ⟨v1,v2,v3,n1,t1,kvs,ks,rfl,hd1,hD1,ek,ha,fr⟩
     have hl:kvs.length=ks.length:=by simpa using congrArg zaD ek
     have hsq:=Rk (tE m) hm
     have hal:=ha.len
     refine⟨_,rfl,D,kvs,ks.map up,rfl,hD1,?_,?_,by omega,λl ps hfl lps tup=>?_⟩
     . rw[ek,zaX]
       rfl
     . intro i k k' e1 e2
       rw[tH]at e1 e2
       cases e3:ks[i]? with
       | none=>rw[e3]at e1;cases e1
       | some a=>
         cases e4:ks[i+1]? with
         | none=>rw[e4]at e2;cases e2
         | some b=>
           rw[e3]at e1
           rw[e4]at e2
           obtain rfl:=(tN.inj e1).symm
           obtain rfl:=(tN.inj e2).symm
           have h5:=zaK.mp ha.ord i (i+1) (tw.mp e3).1 (tw.mp e4).1 (zaJ _)
           rw[(tw.mp e3).2,(tw.mp e4).2]at h5
           unfold RC at h5
           show Xj _ _
           unfold Xj
           show (a.1:Int) < b.1\/((a.1:Int)=b.1/\(a.2:Int) < b.2)
           omega
     . refine⟨40,rfl,l,_,rfl,.of qe,λl2 hl2=>?_⟩
       rw[qas,<-zdE]
       have n2d:l2≠d:=λe=>by
         rw[e,qv hd1 hfl]at hl2
         cases hl2
       have hl1:H1 l2=none:=by
         by_cases e:l2=l
         . rw[e];exact hfl
         . rw[qi e]at hl2;exact hl2
       have fr2:=(fr.new (o:=.lst (ps.map V.ref)) hfl).new (o:=.lst ((ps.take 40).map V.ref)) hl2
       refine q l2 (ps.take 40) (ks.take 40) n1 t1 _ (fr.fresh hd1 hl1) qe ⟨?_,λi p k e1 e2=>?_⟩ ?_ ?_ ?_ ?_ fr2
       . rw[tS,tS,lps,tj]
       . have i40:i < 40:=by
           have:=(tw.mp e1).1
           rw[tS]at this
           omega
         rw[zbA i40]at e1 e2
         have h1:=tup i p (up k) e1 (by rw[tH,e2];rfl)
         exact qv (qv h1 hfl) hl2
       . exact ha.ord.sublist (zcZ _ _)
       . intro x hx
         have:=ha.lt x (zbp hx)
         omega
       . rw[tS]
         omega
       . exact qv (qv hd1 hfl) hl2
end
open PySem L2 PyProof.Rows
structure qD (rs:List (Str×List Str)):Prop where
 nm:∀r∈rs,jD r.1=true
 nd:(rs.map (·.1)).Nodup
 to:∀r∈rs,∀z∈r.2,z∈rs.map (·.1)
 rd:∀r∈rs,r.2.Nodup
 few:(rs.map λr=>r.2.length).sum<=40
def zz (zs:List Str) (j:Nat):Str:=zs.getD j ⟨#[]⟩
theorem ZY {zs:List Str} {j:Nat} (h:j < zs.length):zz zs j∈zs:=by
 unfold zz
 rw[zax,tF h]
 exact zbi h
theorem Zq {zs:List Str} {j:Nat} (h:j < zs.length):zs[j]?=some (zz zs j):=by
 unfold zz
 rw[zax,tF h]
 rfl
theorem U6 {zs:List Str} (hn:zs.Nodup) {i j:Nat} (hi:i < zs.length) (hj:j < zs.length) (h:zz zs i=zz zs j):i=j:=by
 have h1:=Zq hi
 have h2:=Zq hj
 rw[h,<-h2,tF hi,tF hj]at h1
 have e:zs[i]=zs[j]:=tN.inj h1
 rcases zaE i j with l | l | l
 . exact absurd e (zaK.mp hn i j hi hj l)
 . exact l
 . exact absurd e.symm (zaK.mp hn j i hj hi l)
theorem Js {α β:Type} {f:α->β}:∀{l:List α},l.Nodup->(∀a∈l,∀b∈l,f a=f b->a=b)->(l.map f).Nodup
 | [],_,_=>zbo
 | a::l,h,k=>by
   rw[tW,zal]
   rw[zal]at h
   refine⟨λz=>?_,Js h.2 λx hx y hy=>k x (tZ _ hx) y (tZ _ hy)⟩
   obtain⟨b,hb,e⟩:=tL.mp z
   have:=k b (tZ _ hb) a (t9) e
   subst this
   exact h.1 hb
def XU (ks:List (Nat×Nat)) (k:Nat):List Nat:=(ks.filter λx=>decide (x.1=k)).map (·.2)
theorem kE {ks:List (Nat×Nat)} (h:ks.Pairwise RC) (k:Nat):(XU ks k).Nodup:=by
 have h1:(ks.filter λx=>decide (x.1=k)).Pairwise RC:=h.sublist (zbe)
 refine zdO.mpr (zdD.imp_of_mem (λ{a b} ha hb r=>?_) h1)
 have e1:a.1=k:=of_decide_eq_true (zad.mp ha).2
 have e2:b.1=k:=of_decide_eq_true (zad.mp hb).2
 unfold RC at r
 omega
theorem Uo {ks:List (Nat×Nat)} {m:Nat} (h:∀x∈ks,x.1 < m/\x.2 < m) (k:Nat):∀j∈XU ks k,j < m:=λj hj=>by
 obtain⟨x,hx,e⟩:=tL.mp hj
 have:=(h x (zad.mp hx).1).2
 omega
theorem uU (os:List Nat) (f g:Nat->Nat):(os.map λk=>f k+g k).sum=(os.map f).sum+(os.map g).sum:=by
 induction os with
 | nil=>rfl
 | cons a os ih=>
   simp only[tW,zaU,ih]
   omega
theorem uT {os:List Nat} (h:os.Nodup) (a:Nat):(os.map λk=>if a=k then 1 else 0).sum<=1:=by
 induction os with
 | nil=>exact zat _
 | cons b os ih=>
   rw[zal]at h
   rw[tW,zaU]
   by_cases e:a=b
   . subst e
     have z:(os.map λk=>if a=k then 1 else 0)=os.map λ_=>0:=zbC λk hk=>by
       rw[if_neg]
       intro e
       subst e
       exact h.1 hk
     rw[z,if_pos rfl]
     have:(os.map λ_=>0).sum=0:=by
       clear z ih h
       induction os with
       | nil=>rfl
       | cons c os ih=>rw[tW,zaU,ih]
     omega
   . rw[if_neg e]
     have:=ih h.2
     omega
theorem vd {os:List Nat} (h:os.Nodup):∀ks:List (Nat×Nat),(os.map λk=>(XU ks k).length).sum<=ks.length
 | []=>by
   have:(os.map λk=>(XU [] k).length).sum=0:=by
     clear h
     induction os with
     | nil=>rfl
     | cons c os ih=>rw[tW,zaU,ih];rfl
   omega
 | x::ks=>by
   have e:(os.map λk=>(XU (x::ks) k).length)=os.map λk=>(if x.1=k then 1 else 0)+(XU ks k).length:=zbC λk _=>by
     unfold XU
     rw[zbv]
     by_cases z:x.1=k
     . rw[if_pos (decide_eq_true z),if_pos z]
       simp only[tW,zau]
       omega
     . rw[if_neg (by simpa using z),if_neg z,zdM]
   rw[e,uU,zau]
   have:=uT h x.1
   have:=vd h ks
   omega
def Jp (zs:List Str) (ks:List (Nat×Nat)) (ab:Bool) (k:Nat):Str×List Str:=
 (zz zs k,if ab=true then ((XU ks k).map (zz zs)).reverse else (XU ks k).map (zz zs))
theorem kP {zs:List Str} {ks:List (Nat×Nat)} {ab:Bool} {k:Nat} {z:Str}:z∈(Jp zs ks ab k).2↔z∈(XU ks k).map (zz zs):=by
 unfold Jp
 cases ab
 . rw[if_neg tO]
 . rw[if_pos rfl,zcx]
theorem kQ {zs:List Str} {ks:List (Nat×Nat)} {ab:Bool} {k:Nat}:(Jp zs ks ab k).2.length=(XU ks k).length:=by
 unfold Jp
 cases ab
 . rw[if_neg tO,tj]
 . rw[if_pos rfl,zbX,tj]
structure Ug (m:Nat) (os:List Nat):Prop where
 len:os.length=m
 nd:os.Nodup
 lt:∀k∈os,k < m
 all:∀j,j < m->j∈os
theorem yz {zs:List Str} {ks:List (Nat×Nat)} {os:List Nat} {m:Nat} (ab:Bool) (hz:zs.length=m) (hN:∀z∈zs,jD z=true) (hd:zs.Nodup) (hk:ks.Pairwise RC) (hl:∀x∈ks,x.1 < m/\x.2 < m) (h40:ks.length<=40) (ho:Ug m os):
   qD (os.map (Jp zs ks ab)):=by
 have e1:(os.map (Jp zs ks ab)).map (·.1)=os.map (zz zs):=by rw[zaX];rfl
 have inj:∀a∈os,∀b∈os,zz zs a=zz zs b->a=b:=λa ha b hb e=>U6 hd (by rw[hz];exact ho.lt a ha) (by rw[hz];exact ho.lt b hb) e
 refine⟨λr hr=>?_,?_,λr hr z hz'=>?_,λr hr=>?_,?_⟩
 . obtain⟨k,hk',rfl⟩:=tL.mp hr
   exact hN _ (ZY (by rw[hz];exact ho.lt k hk'))
 . rw[e1]
   exact Js ho.nd inj
 . obtain⟨k,hk',rfl⟩:=tL.mp hr
   rw[kP]at hz'
   obtain⟨j,hj,rfl⟩:=tL.mp hz'
   rw[e1]
   exact tL.mpr ⟨j,ho.all j (Uo hl k j hj),rfl⟩
 . obtain⟨k,hk',rfl⟩:=tL.mp hr
   have h1:((XU ks k).map (zz zs)).Nodup:=Js (kE hk k) λa ha b hb e=>U6 hd (by rw[hz];exact Uo hl k a ha) (by rw[hz];exact Uo hl k b hb) e
   show (if ab=true then _ else _:List Str).Nodup
   cases ab
   . rw[if_neg tO]
     exact h1
   . rw[if_pos rfl]
     exact zds.mpr (h1.imp λh=>Ne.symm h)
 . have e2:((os.map (Jp zs ks ab)).map λr=>r.2.length)=os.map λk=>(XU ks k).length:=by
     rw[zaX]
     exact zbC λk _=>kQ
   rw[e2]
   exact zac (vd ho.nd ks) h40
theorem xQ (m:Nat):Ug m (zaa m):=⟨zam,zcz,λk h=>zaQ.mp h,λj h=>zaQ.mpr h⟩
theorem UD (m:Nat):Ug m (zt m):=⟨by rw[zt,zbX,zam],zds.mpr (zcz.imp λh=>Ne.symm h),λk h=>zaQ.mp (zcx.mp h),λj h=>zcx.mpr (zaQ.mpr h)⟩
def Yi (m:Nat):List Nat:=(zaa m).map λk=>k*5 % m
theorem yE:∀m,m < 15->(Yi m).Nodup->∀j,j < m->j∈Yi m:=by decide+kernel
theorem VD {m:Nat} (hm:m<=14) (h0:0 < m) (h:(Yi m).Nodup):Ug m (Yi m):=
 ⟨by rw[Yi,tj,zam],h,λk hk=>by obtain⟨x,_,rfl⟩:=tL.mp hk;exact Nat.mod_lt _ h0,yE m (by omega) h⟩
theorem X8 (val:Nat->Int):∀i,(firstMet val i).length=i->((zaa i).map val).Nodup
 | 0,_=>zbo
 | i+1,h=>by
   have h1:=firstMet_any val i (val i)
   have h2:=firstMet_length_le val i
   rw[firstMet_succ]at h
   unfold step_dedup at h
   split at h
   . omega
   . rename_i z
     rw[tK,zaH]at h
     rw[zcj,tI,zdc]
     refine⟨X8 val i (by omega),by simp,λa ha b hb e=>?_⟩
     have eb:b=val i:=by simpa using hb
     subst eb
     subst e
     refine z ?_
     rw[h1,zaZ]
     exact⟨_,ha,by simp⟩
theorem Nz {os:List Nat} (h:¬(firstMet (λi=>(os.map λk=>((k:Nat):Int)).getD i 0) (os.map λk=>((k:Nat):Int)).length).length < os.length):os.Nodup:=by
 have h1:=firstMet_length_le (λi=>(os.map λk=>((k:Nat):Int)).getD i 0) (os.map λk=>((k:Nat):Int)).length
 have h2:=X8 (λi=>(os.map λk=>((k:Nat):Int)).getD i 0) (os.map λk=>((k:Nat):Int)).length (by rw[tj]at h1 h ⊢;omega)
 have e:(zaa (os.map λk=>((k:Nat):Int)).length).map (λi=>(os.map λk=>((k:Nat):Int)).getD i 0)=os.map λk=>((k:Nat):Int):=by
   refine zdb λi=>?_
   rw[tH]
   by_cases hi:i < (os.map λk=>((k:Nat):Int)).length
   . rw[zbB hi,tF hi]
     simp only[zcf,zax,tF hi,Option.getD_some]
   . rw[zbh (by rw[zam];omega),zbh (by omega)]
     rfl
 rw[e]at h2
 refine(zdO.mp h2).imp λh e=>h (by rw[e])
open PySem L2 PyProof.Rows
def jT (H:Hp) (ps:List Addr) (rs:List (Str×List Str)):Prop:=ps.length=rs.length/\∀(i:Nat) (p:Addr) (r:Str×List Str),ps[i]?=some p->rs[i]?=some r->∃q,H p=some (.tup [.str r.1,.ref q])/\H q=some (.tup (r.2.map V.str))
def y4:Sp:=λvs H Q _=>∃(d:Addr) (mo:Nat) (n s t:Int),vs=[.ref d,.int mo]/\H d=some (.dK (src n s t))/\0 < mo/\mo<=14/\
 ∀(l:Addr) (ps:List Addr) (rs:List (Str×List Str)) (n' t':Int) (H':Hp),H l=none->H' l=some (.lst (ps.map V.ref))->jT H' ps rs->qD rs->0 < rs.length->rs.length<=mo->H' d=some (.dK (src n' s t'))->Fr H d H'->Q (.ref l) H'
structure QE (mg:Str->Option Value):Prop where
 srt:mg "sorted"=none
 lst:mg "list"=none
 rev:mg "reversed"=none
 set:mg "set"=none
 tup:mg "tuple"=none
theorem jT.mono {H H':Hp} {ps:List Addr} {rs:List (Str×List Str)} (h:jT H ps rs) (s:qo H H'):jT H' ps rs:=⟨h.1,λi p r e1 e2=>let ⟨q,a,b⟩:=h.2 i p r e1 e2;⟨q,s _ _ a,s _ _ b⟩⟩
theorem ZA.mono {H H':Hp} {ps:List Addr} {ks:List (Nat×Nat)} (h:ZA H ps ks) (s:qo H H'):ZA H' ps ks:=⟨h.1,λi p k e1 e2=>s _ _ (h.2 i p k e1 e2)⟩
theorem Fr.same {H H' H'':Hp} {d:Addr} (h:Fr H d H') (s:qo H' H''):Fr H d H'':=λb u hb hn=>s _ _ (h b u hb hn)
theorem jT.snoc {H:Hp} {ps:List Addr} {rs:List (Str×List Str)} (h:jT H ps rs) {p q:Addr} {r:Str×List Str} (hp:H p=some (.tup [.str r.1,.ref q])) (hq:H q=some (.tup (r.2.map V.str))):jT H (ps++[p]) (rs++[r]):=by
 refine⟨by rw[tK,tK,h.1];rfl,λi p' r' e1 e2=>?_⟩
 by_cases hi:i < ps.length
 . rw[zaj hi]at e1
   rw[zaj (by rw[<-h.1];exact hi)]at e2
   exact h.2 i p' r' e1 e2
 . have hi':i=ps.length:=by
     have:=(tw.mp e1).1
     rw[tK,zaH]at this
     omega
   subst hi'
   rw[zaf (tE _),zcK]at e1
   rw[h.1,zaf (tE _),zcK]at e2
   obtain rfl:=(tN.inj e1).symm
   obtain rfl:=(tN.inj e2).symm
   exact⟨q,hp,hq⟩
theorem jT.upd_lst {H:Hp} {ps:List Addr} {rs:List (Str×List Str)} {l:Addr} {xs:List V} {o:HO} (h:jT H ps rs) (hl:H l=some (.lst xs)):jT (upd H l o) ps rs:=by
 refine⟨h.1,λi p r e1 e2=>?_⟩
 obtain⟨q,a,b⟩:=h.2 i p r e1 e2
 refine⟨q,?_,?_⟩
 . rw[qi (λe=>by rw[e,hl]at a;cases a)]
   exact a
 . rw[qi (λe=>by rw[e,hl]at b;cases b)]
   exact b
theorem UT {tc:TT} {tp u:TS} {D:J6} {σ:L2.St} {H0:Hp} (R:Bool->Hp->Prop) (G:L2.St->Hp->Prop) (ht:∀Q:Bool->Hp->Prop,(∀b H1,R b H1->Q b H1)->tc σ H0 Q)
   (hT:∀H1,R true H1->∀D':J6,(∀σ' H',G σ' H'->D'.nx σ' H')->tp D' σ H1) (hF:∀H1,R false H1->G σ H1) (k:∀σ' H',G σ' H'->u D σ' H'):RN (uQ tc tp ve) u D σ H0:=
 ht _ λb H1 r=>by
   cases b
   . exact jz (k _ _ (hF _ r))
   . exact j4 (hT _ r _ k)
theorem Re {zs:List Str} {j:Nat} (h:j < zs.length):km (zs.map V.str) ((j:Nat):Int)=some (V.str (zz zs j)):=YL (by rw[tH,Zq h];rfl)
theorem yS {ks:List (Nat×Nat)} {j:Nat} {x:Nat×Nat} (k:Nat) (h:ks[j]?=some x):XU (ks.take (j+1)) k=XU (ks.take j) k++if x.1=k then [x.2] else []:=by
 unfold XU
 rw[tQ,h,zaS,tI]
 congr 1
 by_cases e:x.1=k
 . rw[if_pos e]
   simp [e]
 . rw[if_neg e]
   simp [e]
abbrev oL (os:List Nat):List V:=os.map λk=>V.int ((k:Nat):Int)
theorem KW (os:List Nat):oL os=(os.map λk=>((k:Nat):Int)).map V.int:=by rw[zaX];rfl
section
variable {P:Program} {w:World} {K:PySem.W.Frag} {mg:Str->Option Value} {base:Heap}
abbrev M8:List Str:=["_law_source_here","_law_most","_law_many","_law_names_here","_law_shape","_law_pairs","_law_about","_law_order","_law_rows_here","_law_k","_law_leads_here"]
theorem QF:qt M8 ["_law_source_here","_law_most"] (qj vy):=⟨rfl,rfl,rfl,by decide+kernel,rfl,by decide+kernel,by decide+kernel⟩
abbrev qav:List Str:=["_law_one","_law_j","_law_k","_law_names_here"]
theorem kj:qav.Nodup:=by decide+kernel
theorem KC {f fT fN fL:Addr} {fd fdT fdN fdL:FuncData} (F:jI K "_law_rows" "_law_rows" vy f fd) (B:QL mg) (G:QE mg) (hT:qU K mg "_law_take" Yc ["_law_source_here","_law_many"] fT fdT)
   (hN:qU K mg "_law_names" YY ["_law_source_here","_law_many"] fN fdN) (hL:qU K mg "_law_leads" Y0 Xb fL fdL):qm P w K mg base qK 3 f fd ["_law_source_here","_law_most"] y4:=by
 have GT:qm P w K mg base qK 1 fT fdT ["_law_source_here","_law_many"] ZN:=zf hT.fn
 have GN:qm P w K mg base qK 2 fN fdN ["_law_source_here","_law_many"] vm:=wa hN.fn B hT
 have GL:qm P w K mg base qK 2 fL fdL Xb vo:=we hL.fn B G.srt hT
 refine F.okJ QF (λvs H Q E h=>?_) (λcdv A outer s H vs Q E hr h=>?_)
 . obtain⟨d,m,n,sd,t,rfl,_⟩:=h
   rfl
 . obtain⟨d,mo,n,sd,t,rfl,hd,hmo,hm14,q⟩:=h
   have r1:qV 1 _:=hr.mono (by decide)
   refine⟨_,qf (qw (i:=2) QF.nd rfl (Or.inr rfl) (qO Qa qk (qH hT GT r1 (by rfl) (qd (jv 0) (qd (jv 1) qg)))))
     (qf (qw (i:=3) QF.nd rfl (Or.inr rfl) (qH hN GN hr (by rfl) (qd (jv 0) (qd (jv 2) qg))))
     (qf (qw (i:=4) QF.nd rfl (Or.inl rfl) (qH hT GT r1 (by rfl) (qd (jv 0) (qd qk qg))))
     (qf (qw (i:=5) QF.nd rfl (Or.inl rfl) (qH hL GL hr (by rfl) (qd (jv 0) (qd (jv 2) (qd (jv 4) (qd (qO Qa qk (qH hT GT r1 (by rfl) (qd (jv 0) (qd qk qg)))) qg))))))
     (qf (qw (i:=6) QF.nd rfl (Or.inl rfl) (Qo jH (qH hT GT r1 (by rfl) (qd (jv 0) (qd qk qg))) qk (qC _)))
     (qf (qw (i:=7) QF.nd rfl (Or.inl rfl) (qaj rfl (by rfl) G.lst (by rfl) B.rng (jv 2)))
     (qf (qM (j2 (jv 6)) (qh (QY (i:=7) (N':=["_law_k","_law_many"]) (ix:=[none,some 2]) QF.nd rfl (Or.inl rfl) rfl ⟨rfl,rfl,rfl,rfl,rfl⟩ (jP (by rfl) B.rng (qd (jv 2) qg))
         (λC s2 H2 fp pins=>⟨qA (i:=0) (show (["_law_k","_law_many"]:List Str).Nodup by decide+kernel) rfl (Or.inl rfl),jL,qO JJ (qO QU (jv 0) qk) (jv 1)⟩))) qE)
     (qf (qM (qu QV (qJ V9 (by rfl) B.len boot_len (qd (jw (yH rfl) (by rfl) G.set boot_set (qd (jv 7) qg)) qg)) (jv 2) (qC _))
         (qh (qw (i:=7) QF.nd rfl (Or.inl rfl) (NQ rfl (by rfl) G.lst (by rfl) G.rev (by rfl) B.rng (jv 2)))) qE)
     (qf (qw (i:=8) QF.nd rfl (Or.inl rfl) (jS qg))
     (qf (jd PassesOwn.never rfl (qN (jv 7)) (qA (i:=9) QF.nd rfl (Or.inr rfl))
       (qf (QY (i:=10) (N':=qav) (ix:=[none,none,some 9,some 3]) (g:=NU K 2 (VZ (Jv 0) (VZ (Jv 1) NW))) (te:=YO (R9 K) (jo 3) (jo 1)) QF.nd rfl (Or.inl rfl) rfl ⟨rfl,rfl,rfl,rfl,rfl⟩ (qN (jv 5))
           (λC s2 H2 fp pins=>⟨ZU rfl (jx (qA (i:=0) kj rfl (Or.inl rfl)) (jx (qA (i:=1) kj rfl (Or.inl rfl)) JQ)),
             j7 (qu jH (jv 0) (jv 2) (qC _)),qY Qy (jv 3) (jv 1) (λ_ _=>rfl)⟩))
       (qf (qM (j2 (jv 6)) (qh (jl (wR zaA PySem.F.slot_list_reverse PySem.F.type_list_reverse UJ (jv 10)))) qE)
       (qh (jl (zm zaA zbl zbm QQ (jv 8) (qd
         (Qm (qd (qY Qy (jv 3) (jv 9) (λ_ _=>rfl)) (qd (jw XN (by rfl) G.tup boot_tuple (qd (jv 10) qg)) qg))) qg)))))))
     (qh (qB (jv 8)))))))))))),?_⟩
   refine⟨_,rfl,_,rfl,d,mo,n,sd,t,rfl,hd,by omega,by omega,λr n1 t1 r0 r1=>⟨_,_,rfl,rfl,?_⟩⟩
   obtain⟨m,em,m0,m1⟩:∃m:Nat,1+r=(m:Int)/\0 < m/\m<=mo:=⟨(1+r).toNat,by omega,by omega,by omega⟩
   have em':(λi j:Int=>V.int (i+j)) 1 r=V.int (m:Int):=congrArg V.int em
   rw[em']
   refine⟨_,rfl,_,rfl,d,m,n1,sd,t1,rfl,qe,by omega,λlz zs n2 t2 H2 hlz hlz' zl zn znd hd2 fr2=>?_⟩
   have fr2:Fr H d H2:=Fr.refl.at_d.trans fr2
   refine⟨_,rfl,d,5,n2,sd,t2,rfl,hd2,by decide,by decide,λsh n3 t3 _ _=>?_⟩
   refine⟨_,rfl,_,rfl,_,rfl,_,rfl,d,5,n3,sd,t3,rfl,qe,by decide,by decide,λlw n4 t4 _ _=>⟨_,_,rfl,rfl,d,m,n4,sd,t4,sh,1+lw,rfl,qe,by omega,λlp ps ks n5 t5 H5 hlp hlp' pat kord klt k40 hd5 fr5=>?_⟩⟩
   have nzd:lz≠d:=λe=>by rw[e,qe]at hlz;cases hlz
   have hz5:H5 lz=some (.lst (zs.map V.str)):=fr5 _ _ (by rw[qi nzd,qi nzd];exact hlz') nzd
   have fr5:Fr H d H5:=fr2.at_d.at_d.trans fr5
   refine⟨_,rfl,d,2,n5,sd,t5,rfl,hd5,by decide,by decide,λab n6 t6 _ _=>⟨rfl,?_⟩⟩
   generalize decide (V.int ab=V.int 1)=b
   have npd:lp≠d:=λe=>by rw[e,qe]at hlp;cases hlp
   have fr6:Fr H d (upd H5 d (.dK (src n6 sd t6))):=fr5.at_d
   have hd6:upd H5 d (.dK (src n6 sd t6)) d=some (.dK (src n6 sd t6)):=qe
   have hz6:upd H5 d (.dK (src n6 sd t6)) lz=some (.lst (zs.map V.str)):=by rw[qi nzd];exact hz5
   have hp6:upd H5 d (.dK (src n6 sd t6)) lp=some (.lst (ps.map V.ref)):=by rw[qi npd];exact hlp'
   have pat6:ZA (upd H5 d (.dK (src n6 sd t6))) ps ks:=⟨pat.1,λi p k e1 e2=>by
     have h1:=pat.2 i p k e1 e2
     have:p≠d:=λe=>by rw[e,hd5]at h1;cases h1
     rw[qi this]
     exact h1⟩
   generalize upd H5 d (.dK (src n6 sd t6))=H6 at fr6 hd6 hz6 hp6 pat6
   refine⟨_,rfl,m,rfl,by omega,λlo hlo=>?_⟩
   refine Xr ?_
   dsimp only[List.set]
   refine UT (λc H'=>c=b/\H'=upd H6 lo (.lst (Rj m))) (λσ' H'=>∃lo os,σ'=[some (.ref d),some (.int mo),some (.int m),some (.ref lz),some (.int sh),some (.ref lp),some (.bl b),some (.ref lo),none,none,none]/\qo H6 H'/\H6 lo=none/\H' lo=some (.lst (oL os))/\(os=zaa m\/os=Yi m))
     (λQ k=>⟨_,rfl,b,rfl,k _ _ ⟨rfl,rfl⟩⟩) ?_ ?_ ?_
   . rintro H1 ⟨rfl,rfl⟩ D' k
     refine⟨_,rfl,m,rfl,by omega,by omega,λD hD=>?_⟩
     refine Jy (λi σ' H'=>∃v:Option V,σ'=[v,some (.int m)]/\H'=upd (upd H6 lo (.lst (Rj m))) D (.lst (oL ((zaa i).map λk=>k*5 % m)))) ⟨none,rfl,rfl⟩ ?_ ?_
     . rintro i σ' H' hi ⟨v,rfl,rfl⟩
       rw[zbT]
       have hi:i < m:=by simpa using hi
       refine⟨_,rfl,_,_,rfl,rfl,.inl ⟨by omega,by omega⟩,_,rfl,_,_,rfl,rfl,(by show (0:Int) < m;omega),_,qe,?_,_,rfl,?_⟩
       . rw[tj,tj,zam]
         exact qp (by omega)
       . rw[jB,zcj,tI,oL,oL,tI]
         rfl
     . rintro σ' H' ⟨v,rfl,rfl⟩
       have hD6:H6 D=none:=by
         by_cases e:D=lo
         . rw[e];exact hlo
         . rw[qi e]at hD;exact hD
       exact k _ _ ⟨D,Yi m,rfl,λa u h=>qv (qv h hlo) hD,hD6,qe,.inr rfl⟩
   . rintro H1 ⟨rfl,rfl⟩
     exact⟨lo,zaa m,rfl,ql hlo,hlo,qe,.inl rfl⟩
   rintro σ' H7 ⟨lo,os,rfl,s7,hlo6,hlo7,hos⟩
   have los:os.length=m:=by
     rcases hos with rfl | rfl
     . exact zam
     . rw[Yi,tj,zam]
   refine UT (λc H'=>qo H7 H'/\(c=true\/os.Nodup)) (λσ' H'=>∃lo os,σ'=[some (.ref d),some (.int mo),some (.int m),some (.ref lz),some (.int sh),some (.ref lp),some (.bl b),some (.ref lo),none,none,none]/\qo H6 H'/\H' lo=some (.lst (oL os))/\Ug m os)
     ?_ ?_ ?_ ?_
   . intro Q k
     refine⟨_,rfl,lo,os.map (λk=>((k:Nat):Int)),rfl,.of (by rw[<-KW];exact hlo7),by rw[tj,los];omega,λl S hl=>?_⟩
     refine⟨l,S,_,rfl,qe,_,rfl,_,_,rfl,rfl,_,rfl,k _ _ ⟨ql hl,?_⟩⟩
     by_cases h:(((firstMet (λi=>(os.map λk=>((k:Nat):Int)).getD i 0) (os.map λk=>((k:Nat):Int)).length).length:Nat):Int) < (m:Int)
     . exact .inl (decide_eq_true h)
     . exact .inr (Nz (by rw[los];omega))
   . rintro H1 ⟨s1,_⟩ D' k
     refine⟨_,rfl,m,rfl,by omega,λl hl=>?_⟩
     exact k _ _ ⟨l,zt m,rfl,λa u h=>qv (s1 _ _ (s7 _ _ h)) hl,qe,UD m⟩
   . rintro H1 ⟨s1,h⟩
     have h:os.Nodup:=h.resolve_left (by decide)
     refine⟨lo,os,rfl,λa u h=>s1 _ _ (s7 _ _ h),s1 _ _ hlo7,?_⟩
     rcases hos with rfl | rfl
     . exact xQ m
     . exact VD (by omega) m0 h
   rintro σ' H8 ⟨lo,os,rfl,s8,hlo8,ho⟩
   refine⟨by show 0<=sizeLine;decide,λlr hlr=>⟨_,rfl,lo,rfl,⟨_,.of (qv hlo8 hlr)⟩,?_⟩⟩
   refine jr (K:=K) (a:=lo) (xs:=oL os) (λi σ' H'=>∃(v9 v10:Option V) (qs:List Addr),σ'=[some (.ref d),some (.int mo),some (.int m),some (.ref lz),some (.int sh),some (.ref lp),some (.bl b),some (.ref lo),some (.ref lr),v9,v10]/\
     qo H8 H'/\H' lr=some (.lst (qs.map V.ref))/\jT H' qs ((os.take i).map (Jp zs ks b)))
     ⟨none,none,[],rfl,ql hlr,qe,rfl,λi p r e=>(nomatch e)⟩ (λi σ' H' _ ⟨_,_,_,_,s,_⟩=>.of (s _ _ hlo8)) ?_ ?_
   . rintro i x σ' H' hx ⟨v9,v10,qs,rfl,s9,hlr9,rat⟩
     have hix:i < os.length:=by
       have:=(tw.mp hx).1
       rwa [tj]at this
     obtain⟨k,hk⟩:∃k,os[i]?=some k:=⟨_,tF hix⟩
     have ex:x=V.int ((k:Nat):Int):=by
       rw[tH,hk]at hx
       exact(tN.inj hx).symm
     subst ex
     have hkm:k < m:=ho.lt k (t8 hk)
     refine⟨_,rfl,lp,rfl,⟨_,.of (s9 _ _ (s8 _ _ hp6))⟩,λD hD=>?_⟩
     have nDr:D≠lr:=λe=>by rw[e,hlr9]at hD;cases hD
     have hz9:H' lz=some (.lst (zs.map V.str)):=s9 _ _ (s8 _ _ hz6)
     have pat9:ZA H' ps ks:=pat6.mono λa u h=>s9 _ _ (s8 _ _ h)
     refine jZ (K:=K) (a:=lp) (xs:=ps.map V.ref) (λj σ'' H''=>∃v0 v1:Option V,σ''=[v0,v1,some (.int k),some (.ref lz)]/\H''=upd H' D (.lst (((XU (ks.take j) k).map (zz zs)).map V.str))) ⟨none,none,rfl,rfl⟩
       (λj σ'' G _ ⟨_,_,_,e⟩=>e▸.of (qv (s9 _ _ (s8 _ _ hp6)) hD)) ?_ ?_
     . rintro j y σ'' G hy ⟨v0,v1,rfl,rfl⟩
       have hj:j < ps.length:=by
         have:=(tw.mp hy).1
         rwa [tj]at this
       obtain⟨p,hp⟩:∃p,ps[j]?=some p:=⟨_,tF hj⟩
       obtain⟨kk,hkk⟩:∃p,ks[j]?=some p:=⟨_,tF (by rw[<-pat9.1];exact hj)⟩
       have ey:y=V.ref p:=by
         rw[tH,hp]at hy
         exact(tN.inj hy).symm
       subst ey
       have hpt:=pat9.2 j p kk hp hkk
       have hk2:kk.2 < zs.length:=by rw[zl];exact(klt kk (t8 hkk)).2
       refine⟨p,_,rfl,.of (qv hpt hD),rfl,_,_,rfl,_,_,rfl,rfl,_,rfl,_,rfl,rfl,_,rfl,?_⟩
       rw[yS k hkk]
       by_cases e:kk.1=k
       . have e1:decide (V.int ((kk.1:Nat):Int)=V.int ((k:Nat):Int))=true:=decide_eq_true (by rw[e])
         rw[e1,if_pos e]
         refine j4 ⟨_,rfl,_,rfl,lz,_,_,_,rfl,rfl,.of (qv hz9 hD),Re hk2,_,qe,?_,_,_,rfl,?_⟩
         . rw[tj,tj]
           refine qp ?_
           have h1:(XU (ks.take j) k).length<=(ks.take j).length:=by
             unfold XU
             rw[tj]
             exact zas _ _
           rw[tS]at h1
           omega
         . rw[jB,tI,tI]
           rfl
       . have e1:decide (V.int ((kk.1:Nat):Int)=V.int ((k:Nat):Int))=false:=decide_eq_false (by
           intro z
           have:=V.int.inj z
           omega)
         rw[e1,if_neg e,zap]
         exact jz ⟨_,_,rfl,rfl⟩
     . rintro σ'' G ⟨v0,v1,rfl,rfl⟩
       rw[tj,pat9.1,tG (tE _)]
       refine Xr ?_
       dsimp only[List.set]
       refine UT (λc G=>c=b/\G=upd H' D (.lst (((XU ks k).map (zz zs)).map V.str)))
         (λσ' G=>σ'=[some (.ref d),some (.int mo),some (.int m),some (.ref lz),some (.int sh),some (.ref lp),some (.bl b),some (.ref lo),some (.ref lr),some (.int k),some (.ref D)]/\G=upd H' D (.lst ((Jp zs ks b k).2.map V.str)))
         (λQ k=>⟨_,rfl,b,rfl,k _ _ ⟨rfl,rfl⟩⟩) ?_ ?_ ?_
       . rintro H1 ⟨rfl,rfl⟩ D' kk
         refine⟨_,rfl,.inl ⟨rfl,_,.of qe⟩,D,_,rfl,rfl,qe,?_⟩
         refine kk _ _ ⟨rfl,?_⟩
         rw[jB,Jp,if_pos rfl,List.map_reverse]
       . rintro H1 ⟨rfl,rfl⟩
         exact⟨rfl,rfl⟩
       rintro σ' G ⟨rfl,rfl⟩
       have hlrG:upd H' D (.lst ((Jp zs ks b k).2.map V.str)) lr=some (.lst (qs.map V.ref)):=by rw[qi (Ne.symm nDr)];exact hlr9
       have sG:qo H' (upd H' D (.lst ((Jp zs ks b k).2.map V.str))):=ql hD
       refine⟨_,rfl,.inl ⟨rfl,_,.of hlrG⟩,_,rfl,_,rfl,lz,_,_,_,rfl,rfl,.of (sG _ _ hz9),Re (by rw[zl];exact hkm),_,rfl,D,_,rfl,.inl ⟨.of qe,λlq hq=>⟨by show 2<=sizeLine;decide,λlt hlt=>?_⟩⟩⟩
       have hqlr:=qv (o':=HO.tup ((Jp zs ks b k).2.map V.str)) hlrG hq
       have htlr:=qv (o':=HO.tup [V.str (zz zs k),V.ref lq]) hqlr hlt
       refine⟨lr,_,_,rfl,rfl,htlr,?_,_,_,qs++[lt],rfl,?_,?_,?_⟩
       . rw[tj,rat.1,tj,tS]
         refine qp ?_
         have:=ho.len
         omega
       . exact qo.upd (λa u h=>qv (qv (sG _ _ (s9 _ _ h)) hq) hlt) hlr
       . rw[tI]
         exact qe
       . have e:os.take (i+1)=os.take i++[k]:=by rw[tQ,hk];rfl
         rw[e,tI]
         refine jT.upd_lst ?_ htlr
         exact jT.snoc (q:=lq) (rat.mono λa u h=>qv (qv (sG _ _ h) hq) hlt) qe (qv qe hlt)
   . rintro σ' H' ⟨v9,v10,qs,rfl,s9,hlr9,rat⟩
     have e:(oL os).length=os.length:=tj ..
     rw[e,tG (tE _)]at rat
     have h8:H6 lr=none:=by
       cases z:H6 lr with
       | none=>rfl
       | some u=>rw[s8 _ _ z]at hlr;cases hlr
     refine⟨_,rfl,q lr qs _ n6 t6 H' (fr6.fresh hd6 h8) hlr9 rat (yz b zl zn znd kord klt k40 ho) ?_ ?_ (s9 _ _ (s8 _ _ hd6)) (fr6.same λa u h=>s9 _ _ (s8 _ _ h))⟩
     . rw[tj,ho.len];exact m0
     . rw[tj,ho.len];exact m1
end
open PySem L2 PyProof.Rows
abbrev X0:Stmt:=top 18
abbrev Y2:Stmt:=top 19
abbrev vD:Stmt:=top 20
abbrev Kj:Stmt:=top 21
abbrev vE:Stmt:=top 22
abbrev Kk:Stmt:=top 23
abbrev Vs:Stmt:=top 24
theorem Mg (x:Str):[x].Nodup:=by simp
structure Qx (K:PySem.W.Frag) (mg:Str->Option Value):Prop where
 isi:mg "isinstance"=none
 str:mg "str"=none
 all:mg "all"=none
 enu:mg "enumerate"=none
 sum:mg "sum"=none
 lets:∃t,mg "LETTERS"=some (.str kt t)
 lgst:∃t,mg "LONGEST_NAME"=some (.int 8 t)
 mp:∃t,mg "MOST_PLACES"=some (.int 14 t)
 mr:∃t,mg "MOST_ROADS"=some (.int 40 t)
 kss:zaR K (.type "str") (.type "str")=some true
 ktt:zaR K (.type "tuple") (.type "tuple")=some true
 kll:zaR K (.type "list") (.type "list")=some true
theorem NS (c:Nat):(!(Builtin.Str.occurrences kt ⟨#[c]⟩ 0 kt.length 1).isEmpty)=jR c:=by
 rw[StrLaws.found_one,uu]
 unfold jR
 rw[zbf]
 simp only[decide_eq_true_eq,zaq,tL,zaQ]
 constructor
 . rintro⟨k,hk,rfl⟩
   omega
 . intro h
   exact⟨c - 97,by omega,by omega⟩
theorem ut (f:Nat->Bool) (l:List Nat) (i c:Nat) (h:l[i]?=some c):(l.take i).map f++[f c]=(l.take (i+1)).map f:=by
 rw[tQ,h]
 simp
def uY:Sp:=λvs H Q _=>∃z,vs=[.str z]/\jD z=true/\∀H',qo H H'->Q (.bl true) H'
def ME:Sp:=λvs H Q _=>∃(q:Addr) (zs:List Str),vs=[.ref q]/\H q=some (.tup (zs.map V.str))/\(∀z∈zs,jD z=true)/\zs.length<=1000/\∀H',qo H H'->Q (.bl true) H'
def Rm:Sp:=λvs H Q _=>∃(p q:Addr) (r:Str×List Str),vs=[.ref p]/\H p=some (.tup [.str r.1,.ref q])/\H q=some (.tup (r.2.map V.str))/\jD r.1=true/\(∀z∈r.2,jD z=true)/\r.2.length<=1000/\∀H',qo H H'->Q (.bl true) H'
structure jF (H:Hp) (l:Addr) (ps:List Addr) (rs:List (Str×List Str)):Prop where
 at_:H l=some (.lst (ps.map V.ref))
 rows:jT H ps rs
 good:qD rs
 pos:0 < rs.length
 le:rs.length<=14
theorem jF.mono {H H':Hp} {l:Addr} {ps:List Addr} {rs:List (Str×List Str)} (h:jF H l ps rs) (s:qo H H'):jF H' l ps rs:=⟨s _ _ h.at_,h.rows.mono s,h.good,h.pos,h.le⟩
theorem qD.names {rs:List (Str×List Str)} (h:qD rs):∀r∈rs,∀z∈r.2,jD z=true:=λr hr z hz=>by
 obtain⟨r',hr',rfl⟩:=tL.mp (h.to r hr z hz)
 exact h.nm r' hr'
theorem qD.len {rs:List (Str×List Str)} (h:qD rs):∀r∈rs,r.2.length<=40:=λr hr=>by
 refine zac ?_ h.few
 have:∀(rs:List (Str×List Str)),r∈rs->r.2.length<=(rs.map λr=>r.2.length).sum:=by
   intro rs
   induction rs with
   | nil=>intro h;cases h
   | cons a rs ih=>
     intro h
     rw[tW,zaU]
     rcases tY.mp h with rfl | h
     . omega
     . have:=ih h
       omega
 exact this rs hr
theorem jT.item {H:Hp} {ps:List Addr} {rs:List (Str×List Str)} (h:jT H ps rs) {i:Nat} {x:V} (hx:(ps.map V.ref)[i]?=some x):∃p q r,x=.ref p/\rs[i]?=some r/\r∈rs/\H p=some (.tup [.str r.1,.ref q])/\H q=some (.tup (r.2.map V.str)):=by
 rw[tH]at hx
 cases e:ps[i]? with
 | none=>rw[e]at hx;cases hx
 | some p=>
   rw[e]at hx
   have hi:i < rs.length:=by
     have:=(tw.mp e).1
     rw[h.1]at this
     exact this
   obtain⟨q,a,b⟩:=h.2 i p _ e (tF hi)
   exact⟨p,q,_,(tN.inj hx).symm,tF hi,zbi hi,a,b⟩
def zE:Sp:=λvs H Q _=>∃(l:Addr) (ps:List Addr) (rs:List (Str×List Str)),vs=[.ref l]/\jF H l ps rs/\∀H',qo H H'->Q .non H'
def Rn:Sp:=λvs H Q _=>∃(l:Addr) (zs:List Str),vs=[.ref l]/\H l=some (.lst (zs.map V.str))/\zs.Nodup/\zs.length<=1000/\∀H',qo H H'->Q .non H'
def xj:Sp:=λvs H Q _=>∃(q l:Addr) (es zs:List Str),vs=[.ref q,.ref l]/\H q=some (.tup (es.map V.str))/\H l=some (.lst (zs.map V.str))/\es.Nodup/\(∀z∈es,z∈zs)/\es.length<=900/\∀H',qo H H'->Q .non H'
theorem Jm {kvs:List (qL×V)} {k:qL} (h:¬k∈kvs.map (·.1)):jj kvs k=none:=by
 cases e:jj kvs k with
 | none=>rfl
 | some v=>exact absurd (uN e) h
theorem Zz (zs:List Str):(zs.map V.str).all ZJ=true:=by
 rw[zcI,zaL]
 intro z _
 rfl
theorem WZ {z:Str} {zs:List Str} (h:z∈zs):Zx (.str z) (zs.map V.str)=true:=by
 unfold Zx
 rw[zaZ]
 exact⟨.str z,tL.mpr ⟨z,h,rfl⟩,by show (z==z)=true;simp⟩
section
variable {P:Program} {w:World} {K:PySem.W.Frag} {mg:Str->Option Value} {base:Heap}
theorem RX:qt ["thing"] ["thing"] (qj Z8):=⟨rfl,rfl,rfl,by decide+kernel,rfl,by decide+kernel,by decide+kernel⟩
theorem WN {f:Addr} {fd:FuncData} (F:jI K "is_name" "is_name" Z8 f fd) (B:QL mg) (T:Qx K mg):qm P w K mg base qK 1 f fd ["thing"] uY:=by
 refine F.okJ RX (λvs H Q E h=>?_) (λcdv A outer s H vs Q E hr h=>?_)
 . obtain⟨x,rfl,_⟩:=h
   rfl
 . obtain⟨z,rfl,hz,q⟩:=h
   obtain⟨tl,hlets⟩:=T.lets
   obtain⟨tg,hlg⟩:=T.lgst
   refine⟨_,qf (qM (Ji (j2 (qJ jY (by rfl) T.isi boot_isinstance (qd (jv 0) (qd (JV (v:=.ty "str") (by rfl) T.str boot_str rfl) qg))))) (qh (qB Qe)) qE)
     (qf (qM (zk (qu QV (qJ J1 (by rfl) B.len boot_len (qd (jv 0) qg)) qk (qC _))
         (JM (qu Yf (qJ J1 (by rfl) B.len boot_len (qd (jv 0) qg)) (JU (v:=.int 8) (by rfl) hlg ⟨_,rfl⟩) (qC _)))).pt (qh (qB Qe)) qE)
     (qh (qB (qJ (zZ rfl) (by rfl) T.all boot_all (qd (Qd (N':=["sign"]) (ix:=[none]) rfl ⟨rfl,rfl,rfl,rfl,rfl⟩ (NL (jv 0)) (λC s2 H2 fp pins=>
       ⟨qA (i:=0) (Mg _) rfl (Or.inl rfl),jL,Qo k6 (jv 0) (JU (v:=.str kt) (by rfl) hlets ⟨_,rfl⟩) (by with_unfolding_all rfl)⟩)) qg))))),?_⟩
   have hn:=hz
   unfold jD at hn
   simp only[zaq,decide_eq_true_eq]at hn
   obtain⟨⟨n1,n8⟩,na⟩:=hn
   have hz':z.length<=sizeLine:=zag (qp (by omega))
   refine⟨_,rfl,_,_,_,_,rfl,rfl,.str z,T.kss,_,rfl,jz ?_⟩
   refine⟨_,rfl,z,rfl,hz',_,_,rfl,rfl,_,rfl,?_⟩
   refine yq (λh=>?_) (λh=>?_)
   . exact absurd (of_decide_eq_true h) (by omega)
   . refine⟨_,rfl,z,rfl,hz',_,_,rfl,rfl,_,rfl,?_⟩
     refine yq (λh2=>?_) (λh2=>?_)
     . exact absurd (of_decide_eq_true h2) (by show ¬(8:Int) < (z.length:Int);omega)
     . refine⟨_,rfl,z,rfl,λD hD=>?_⟩
       refine GK (λi σ' H'=>∃v,σ'=[v]/\H'=upd H D (.lst (((z.cps.toList.take i).map jR).map V.bl))) ⟨none,rfl,rfl⟩ ?_ ?_
       . rintro i c σ' H' hc ⟨v,rfl,rfl⟩
         refine⟨_,rfl,_,_,rfl,rfl,_,qe,?_,?_⟩
         . rw[tj,tj,tS]
           exact zaw (zdh _ _) (qp (show z.cps.toList.length<=1000 by rw[zaB];exact zac n8 (by decide)))
         . refine⟨_,rfl,?_⟩
           rw[jB,NS]
           have hc':z.cps.toList[i]?=some c:=by simpa using hc
           rw[<-ut jR z.cps.toList i c hc',tI]
           rfl
       . rintro σ' H' ⟨v,rfl,rfl⟩
         refine⟨D,_,rfl,.of qe,?_⟩
         have e0:z.cps.toList.take z.cps.size=z.cps.toList:=tG (by simp)
         have e1:(z.cps.toList.map jR).all id=true:=by rw[zcI];exact na
         rw[e0,e1]
         exact q _ (ql hD)
theorem RV:qt ["thing"] ["thing"] (qj X0):=⟨rfl,rfl,rfl,by decide+kernel,rfl,by decide+kernel,by decide+kernel⟩
theorem KB {f fN:Addr} {fd fdN:FuncData} (F:jI K "is_tuple_of_names" "is_tuple_of_names" X0 f fd) (B:QL mg) (G:QE mg) (T:Qx K mg) (hN:qU K mg "is_name" Z8 ["thing"] fN fdN):qm P w K mg base qK 2 f fd ["thing"] ME:=by
 have GN:qm P w K mg base qK 1 fN fdN ["thing"] uY:=WN hN.fn B T
 refine F.okJ RV (λvs H Q E h=>?_) (λcdv A outer s H vs Q E hr h=>?_)
 . obtain⟨x,zs,rfl,_⟩:=h
   rfl
 . obtain⟨x,zs,rfl,hx,hz,hl,q⟩:=h
   refine⟨_,qh (qB (ZV (qJ jY (by rfl) T.isi boot_isinstance (qd (jv 0) (qd (JV (v:=.ty "tuple") (by rfl) G.tup boot_tuple rfl) qg)))
     (Xo (qJ (zZ rfl) (by rfl) T.all boot_all (qd (Qd (N':=["part"]) (ix:=[none]) rfl ⟨rfl,rfl,rfl,rfl,rfl⟩ (zV (jv 0)) (λC s2 H2 fp pins=>
       ⟨qA (i:=0) (Mg _) rfl (Or.inl rfl),jL,qH hN GN hr (by rfl) (qd (jv 0) qg)⟩)) qg))))),?_⟩
   refine⟨_,rfl,_,_,_,_,rfl,rfl,.tup hx,T.ktt,_,rfl,j4 ⟨_,rfl,x,rfl,⟨_,.of hx⟩,λD hD=>?_⟩⟩
   refine kl (K:=K) (a:=x) (xs:=zs.map V.str) (λi σ' H'=>∃v,σ'=[v]/\qo H H'/\H' D=some (.lst ((zdw i true).map V.bl))) ⟨none,rfl,ql hD,qe⟩ (λi σ' H' _ ⟨_,_,s,_⟩=>.of (s _ _ hx)) ?_ ?_
   . rintro i y σ' H' hy ⟨v,rfl,s1,hD1⟩
     rw[tH]at hy
     cases e:zs[i]? with
     | none=>rw[e]at hy;cases hy
     | some z=>
       rw[e]at hy
       obtain rfl:=(tN.inj hy).symm
       have hi:=(tw.mp e).1
       refine⟨_,rfl,z,rfl,hz z (t8 e),λH2 s2=>⟨_,s2 _ _ hD1,?_,_,rfl,?_,?_⟩⟩
       . rw[tj,zcv]
         exact qp (by omega)
       . exact qo.upd (s1.trans s2) hD
       . rw[qe,List.replicate_succ',tI]
         rfl
   . rintro σ' H' ⟨v,rfl,s1,hD1⟩
     refine⟨D,_,rfl,.of hD1,?_⟩
     have e:(zdw (zs.map V.str).length true).all id=true:=by simp
     rw[e]
     exact q _ s1
theorem Ke:qt ["thing"] ["thing"] (qj Y2):=⟨rfl,rfl,rfl,by decide+kernel,rfl,by decide+kernel,by decide+kernel⟩
theorem wk {f fN fP:Addr} {fd fdN fdP:FuncData} (F:jI K "is_row" "is_row" Y2 f fd) (B:QL mg) (G:QE mg) (T:Qx K mg) (hN:qU K mg "is_name" Z8 ["thing"] fN fdN) (hP:qU K mg "is_tuple_of_names" X0 ["thing"] fP fdP):qm P w K mg base qK 3 f fd ["thing"] Rm:=by
 have GN:qm P w K mg base qK 1 fN fdN ["thing"] uY:=WN hN.fn B T
 have GP:qm P w K mg base qK 2 fP fdP ["thing"] ME:=KB hP.fn B G T hN
 refine F.okJ Ke (λvs H Q E h=>?_) (λcdv A outer s H vs Q E hr h=>?_)
 . obtain⟨p,x,r,rfl,_⟩:=h
   rfl
 . obtain⟨p,x,r,rfl,hp,hx,hn,hz,hl,q⟩:=h
   refine⟨_,qf (qM (zk (Ji (j2 (qJ jY (by rfl) T.isi boot_isinstance (qd (jv 0) (qd (JV (v:=.ty "tuple") (by rfl) G.tup boot_tuple rfl) qg)))))
       (JM (qu VE (qJ jf (by rfl) B.len boot_len (qd (jv 0) qg)) qk (qC _)))).pt qW qE)
     (qh (qB (ZV (qH hN GN (hr.mono (by decide)) (by rfl) (qd (qY jc (jv 0) qk (λ_ _=>rfl)) qg)) (Xo (qH hP GP hr (by rfl) (qd (qY jc (jv 0) qk (λ_ _=>rfl)) qg)))))),?_⟩
   refine⟨_,rfl,_,_,_,_,rfl,rfl,.tup hp,T.ktt,_,rfl,jz ⟨_,rfl,p,_,rfl,.inr (.of hp),rfl,_,rfl,jz ?_⟩⟩
   refine⟨_,rfl,p,_,0,_,rfl,rfl,.of hp,rfl,r.1,rfl,hn,λH1 s1=>⟨_,rfl,j4 ?_⟩⟩
   exact⟨_,rfl,p,_,1,_,rfl,rfl,.of (s1 _ _ hp),rfl,x,r.2,rfl,s1 _ _ hx,hz,hl,λH2 s2=>q H2 (s1.trans s2)⟩
end
open PySem L2 PyProof.Rows
section
variable {P:Program} {w:World} {K:PySem.W.Frag} {mg:Str->Option Value} {base:Heap}
abbrev qac:List Str:=["rows","number","row"]
theorem Uy:qt qac ["rows"] (qj vD):=⟨rfl,rfl,rfl,by decide+kernel,rfl,by decide+kernel,by decide+kernel⟩
theorem KO {f fN fP fR:Addr} {fd fdN fdP fdR:FuncData} (F:jI K "need_form" "need_form" vD f fd) (B:QL mg) (G:QE mg) (T:Qx K mg) (hN:qU K mg "is_name" Z8 ["thing"] fN fdN) (hP:qU K mg "is_tuple_of_names" X0 ["thing"] fP fdP)
   (hR:qU K mg "is_row" Y2 ["thing"] fR fdR):qm P w K mg base qK 4 f fd ["rows"] zE:=by
 have GR:qm P w K mg base qK 3 fR fdR ["thing"] Rm:=wk hR.fn B G T hN hP
 obtain⟨tm,hmp⟩:=T.mp
 refine F.okJ Uy (λvs H Q E h=>?_) (λcdv A outer s H vs Q E hr h=>?_)
 . obtain⟨l,ps,rs,rfl,_⟩:=h
   rfl
 . obtain⟨l,ps,rs,rfl,g,q⟩:=h
   refine⟨_,qf (qM (zk (Ji (j2 (qJ jY (by rfl) T.isi boot_isinstance (qd (jv 0) (qd (JV (v:=.ty "list") (by rfl) G.lst boot_list rfl) qg)))))
       (JM (qu jH (qJ jf (by rfl) B.len boot_len (qd (jv 0) qg)) qk (qC _)))).pt qW qE)
     (qf (qM (qu Yf (qJ jf (by rfl) B.len boot_len (qd (jv 0) qg)) (JU (v:=.int 14) (by rfl) hmp ⟨_,rfl⟩) (qC _)) qW qE)
     (qh (jd PassesOwn.never rfl (YG (by rfl) T.enu (qd (jv 0) qg)) (ZU rfl (jx (qA (i:=1) Uy.nd rfl (Or.inl rfl)) (jx (qA (i:=2) Uy.nd rfl (Or.inl rfl)) JQ)))
       (qh (qM (Ji (j2 (qH hR GR hr (by rfl) (qd (jv 2) qg)))) qW qE))))),?_⟩
   have lp:(ps.map V.ref).length=rs.length:=by rw[tj,g.rows.1]
   refine⟨_,rfl,_,_,_,_,rfl,rfl,.lst g.at_,T.kll,_,rfl,jz ⟨_,rfl,l,_,rfl,.inl (.of g.at_),rfl,_,rfl,?_⟩⟩
   have e0:decide (V.int (((ps.map V.ref).length:Nat):Int)=V.int 0)=false:=decide_eq_false (by
     intro z
     have:=V.int.inj z
     have:=g.pos
     omega)
   rw[e0]
   refine jz ⟨_,rfl,l,_,rfl,.inl (.of g.at_),_,_,rfl,rfl,_,rfl,?_⟩
   have e1:decide ((14:Int) < (((ps.map V.ref).length:Nat):Int))=false:=decide_eq_false (by
     have:=g.le
     omega)
   refine yq (λz=>absurd z (by rw[e1];decide)) (λ_=>?_)
   refine⟨_,rfl,l,rfl,⟨_,.of g.at_⟩,?_⟩
   refine zr (K:=K) (a:=l) (xs:=ps.map V.ref) (λi σ' H'=>∃v1 v2,σ'=[some (.ref l),v1,v2]/\qo H H') ⟨none,none,rfl,qo.refl H⟩ (λi σ' H' _ ⟨_,_,_,s⟩=>.of (s _ _ g.at_)) ?_ ?_
   . rintro i x σ' H' p hx hp ⟨v1,v2,rfl,s1⟩
     have g1:=g.mono (s1.trans (ql (o:=.tup [.int (i:Nat),x]) hp))
     obtain⟨p',q',r,rfl,_,hr',a,b⟩:=g1.rows.item hx
     refine⟨p,_,rfl,.of qe,rfl,_,_,rfl,_,_,rfl,rfl,_,rfl,p',q',r,rfl,a,b,g.good.nm r hr',g.good.names r hr',zac (g.good.len r hr') (by decide),λH2 s2=>⟨_,rfl,jz ⟨_,_,rfl,?_⟩⟩⟩
     exact(s1.trans (ql hp)).trans s2
   . rintro σ' H' ⟨v1,v2,rfl,s1⟩
     exact q H' s1
abbrev qbl:List Str:=["order","ahead","name"]
theorem xt:qt qbl ["order"] (qj Kj):=⟨rfl,rfl,rfl,by decide+kernel,rfl,by decide+kernel,by decide+kernel⟩
theorem Qv {zs:List Str} (hn:zs.Nodup) {i:Nat} {z:Str} (e:zs[i]?=some z):¬(Sum.inr z:qL)∈(zs.take i).map Sum.inr:=λh=>by
 obtain⟨y,hy,ey⟩:=tL.mp h
 have ey':y=z:=Sum.inr.inj ey
 subst ey'
 obtain⟨j,hj⟩:=zbb hy
 have hj1:=(tw.mp hj).1
 rw[tS]at hj1
 have hji:j < i:=by omega
 rw[zbA hji]at hj
 have h1:=(tw.mp hj)
 have h2:=(tw.mp e)
 exact absurd (h1.2.trans h2.2.symm) (zaK.mp hn j i h1.1 h2.1 hji)
theorem WG {kvs:List (qL×V)} {k:qL} (v:V) (h:jj kvs k=none):(jN kvs k v).map (·.1)=kvs.map (·.1)++[k]:=by
 rw[QC v h,tI]
 rfl
theorem Ni {f:Addr} {fd:FuncData} (F:jI K "need_own_names" "need_own_names" Kj f fd):qm P w K mg base qK 1 f fd ["order"] Rn:=by
 refine F.okJ xt (λvs H Q E h=>?_) (λcdv A outer s H vs Q E hr h=>?_)
 . obtain⟨l,zs,rfl,_⟩:=h
   rfl
 . obtain⟨l,zs,rfl,hl,hn,hz,q⟩:=h
   have hu:=jU hr
   refine⟨_,qf (qw (i:=1) xt.nd rfl (Or.inl rfl) Qn)
     (qh (jd PassesOwn.never rfl (qN (jv 0)) (qA (i:=2) xt.nd rfl (Or.inl rfl))
       (qf (qM (Ql (JX hu (jv 2) (jv 1))) qW qE) (qh (jt hu (jv 1) (jv 2) Qe rfl))))),?_⟩
   intro D hD
   refine⟨_,rfl,l,rfl,⟨_,.of (qv hl hD)⟩,?_⟩
   refine jr (K:=K) (a:=l) (xs:=zs.map V.str) (λi σ' H'=>∃v kvs,σ'=[some (.ref l),some (.ref D),v]/\qo H H'/\H' D=some (.dK kvs)/\kvs.map (·.1)=(zs.take i).map Sum.inr) ⟨none,[],rfl,ql hD,qe,rfl⟩ (λi σ' H' _ ⟨_,_,_,s,_⟩=>.of (s _ _ hl)) ?_ ?_
   . rintro i x σ' H' hx ⟨v,kvs,rfl,s1,hD1,ek⟩
     rw[tH]at hx
     cases e:zs[i]? with
     | none=>rw[e]at hx;cases hx
     | some z=>
       rw[e]at hx
       obtain rfl:=(tN.inj hx).symm
       have hi:=(tw.mp e).1
       have ez:jj kvs (Sum.inr z:qL)=none:=Jm (by rw[ek];exact Qv hn e)
       have gz:jO H' D (.str z) none:=by
         have:=jO.k (k:=(Sum.inr z:qL)) hD1
         rw[ez]at this
         exact this
       have lk:kvs.length < sizeLine:=by
         have:=congrArg zaD ek
         rw[tj,tj,tS]at this
         exact qp (by omega)
       refine⟨_,rfl,_,rfl,D,none,rfl,gz,_,rfl,jz ?_⟩
       refine⟨_,rfl,_,rfl,D,_,rfl,Q4.k (k:=(Sum.inr z:qL)) hD1 lk,_,_,rfl,qo.upd s1 hD,qe,?_⟩
       rw[WG _ ez,ek,tQ,e,tI]
       rfl
   . rintro σ' H' ⟨v,kvs,rfl,s1,_⟩
     exact q H' s1
abbrev qad:List Str:=["ends","order","ahead","name"]
theorem Uz:qt qad ["ends","order"] (qj vE):=⟨rfl,rfl,rfl,by decide+kernel,rfl,by decide+kernel,by decide+kernel⟩
theorem KP {f:Addr} {fd:FuncData} (F:jI K "need_ends" "need_ends" vE f fd):qm P w K mg base qK 1 f fd ["ends","order"] xj:=by
 refine F.okJ Uz (λvs H Q E h=>?_) (λcdv A outer s H vs Q E hr h=>?_)
 . obtain⟨x,l,es,zs,rfl,_⟩:=h
   rfl
 . obtain⟨x,l,es,zs,rfl,hx,hl,hn,hin,hz,q⟩:=h
   have hu:=jU hr
   refine⟨_,qf (qw (i:=2) Uz.nd rfl (Or.inl rfl) Qn)
     (qh (jd PassesOwn.never rfl (zV (jv 0)) (qA (i:=3) Uz.nd rfl (Or.inl rfl))
       (qf (qM (qu JH (jv 3) (jv 1) (by with_unfolding_all rfl)) qW qE)
       (qf (qM (Ql (JX hu (jv 3) (jv 2))) qW qE) (qh (jt hu (jv 2) (jv 3) Qe rfl)))))),?_⟩
   intro D hD
   refine⟨_,rfl,x,rfl,⟨_,.of (qv hx hD)⟩,?_⟩
   refine YJ (K:=K) (a:=x) (xs:=es.map V.str) (λi σ' H'=>∃v kvs,σ'=[some (.ref x),some (.ref l),some (.ref D),v]/\qo H H'/\H' D=some (.dK kvs)/\kvs.map (·.1)=(es.take i).map Sum.inr) ⟨none,[],rfl,ql hD,qe,rfl⟩ (λi σ' H' _ ⟨_,_,_,s,_⟩=>.of (s _ _ hx)) ?_ ?_
   . rintro i y σ' H' hy ⟨v,kvs,rfl,s1,hD1,ek⟩
     rw[tH]at hy
     cases e:es[i]? with
     | none=>rw[e]at hy;cases hy
     | some z=>
       rw[e]at hy
       obtain rfl:=(tN.inj hy).symm
       have hi:=(tw.mp e).1
       have ez:jj kvs (Sum.inr z:qL)=none:=Jm (by rw[ek];exact Qv hn e)
       have gz:jO H' D (.str z) none:=by
         have:=jO.k (k:=(Sum.inr z:qL)) hD1
         rw[ez]at this
         exact this
       have lk:kvs.length < sizeLine:=by
         have:=congrArg zaD ek
         rw[tj,tj,tS]at this
         exact qp (by omega)
       refine⟨_,rfl,_,rfl,l,_,rfl,.inl (.of (s1 _ _ hl)),rfl,Zz zs,_,rfl,?_⟩
       rw[WZ (hin z (t8 e))]
       refine jz ⟨_,rfl,_,rfl,D,none,rfl,gz,_,rfl,jz ?_⟩
       refine⟨_,rfl,_,rfl,D,_,rfl,Q4.k (k:=(Sum.inr z:qL)) hD1 lk,_,_,rfl,qo.upd s1 hD,qe,?_⟩
       rw[WG _ ez,ek,tQ,e,tI]
       rfl
   . rintro σ' H' ⟨v,kvs,rfl,s1,_⟩
     exact q H' s1
abbrev qbq:List Str:=["rows","many"]
theorem Ru:qt qbq ["rows"] (qj Kk):=⟨rfl,rfl,rfl,by decide+kernel,rfl,by decide+kernel,by decide+kernel⟩
theorem Nl {f:Addr} {fd:FuncData} (F:jI K "need_few_roads" "need_few_roads" Kk f fd) (B:QL mg) (T:Qx K mg):qm P w K mg base qK 1 f fd ["rows"] zE:=by
 obtain⟨tm,hmr⟩:=T.mr
 refine F.okJ Ru (λvs H Q E h=>?_) (λcdv A outer s H vs Q E hr h=>?_)
 . obtain⟨l,ps,rs,rfl,_⟩:=h
   rfl
 . obtain⟨l,ps,rs,rfl,g,q⟩:=h
   refine⟨_,qf (qw (i:=1) Ru.nd rfl (Or.inl rfl) (qJ (zX rfl) (by rfl) T.sum boot_sum (qd (Qd (N':=["row"]) (ix:=[none]) (te:=tCB (λxs H Q=>∃p ys,xs=[.ref p]/\(SqL K H p ys\/YM K H p ys)/\Q (.int ys.length) H) (j3 (YO (Yl K) (jo 0) (tC (.int 1))) Zc)) rfl ⟨rfl,rfl,rfl,rfl,rfl⟩ (qN (jv 0)) (λC s2 H2 fp pins=>
       ⟨qA (i:=0) (Mg _) rfl (Or.inl rfl),jL,qJ jf (by rfl) B.len boot_len (qd (qY jc (jv 0) qk (λ_ _=>rfl)) qg)⟩)) qg)))
     (qh (qM (qu Yf (jv 1) (JU (v:=.int 40) (by rfl) hmr ⟨_,rfl⟩) (qC _)) qW qE)),?_⟩
   refine⟨_,rfl,l,rfl,⟨_,.of g.at_⟩,λD hD=>?_⟩
   refine jZ (K:=K) (a:=l) (xs:=ps.map V.ref) (λi σ' H'=>∃v,σ'=[v]/\H'=upd H D (.lst (((rs.take i).map λr=>r.2.length).map λn=>V.int ((n:Nat):Int)))) ⟨none,rfl,rfl⟩ (λi σ' H' _ ⟨_,_,e⟩=>e▸.of (qv g.at_ hD)) ?_ ?_
   . rintro i x σ' H' hx ⟨v,rfl,rfl⟩
     obtain⟨p',q',r,rfl,er,hr',a,b⟩:=g.rows.item hx
     have hi:=(tw.mp er).1
     refine⟨_,rfl,p',_,1,_,rfl,rfl,.of (qv a hD),rfl,q',_,rfl,.inr (.of (qv b hD)),_,qe,?_,_,rfl,?_⟩
     . rw[tj,tj,tS]
       have:=g.le
       exact qp (by omega)
     . rw[jB,tQ,er,tI,tI,tj]
       rfl
   . rintro σ' H' ⟨v,rfl,rfl⟩
     have e:rs.take (ps.map V.ref).length=rs:=tG (by rw[tj,g.rows.1];exact tE _)
     rw[e]
     refine⟨D,_,rfl,.of qe,zaw g.good.few (by decide),?_⟩
     refine⟨_,rfl,_,_,rfl,rfl,_,rfl,?_⟩
     have:=g.good.few
     refine yq (λz=>absurd (of_decide_eq_true z) ?_) (λ_=>q _ (ql hD))
     show ¬(40:Int) < _
     omega
abbrev M9:List Str:=["rows","order","row"]
theorem Ux:qt M9 ["rows"] (qj Vs):=⟨rfl,rfl,rfl,by decide+kernel,rfl,by decide+kernel,by decide+kernel⟩
structure Rc (K:PySem.W.Frag) (mg:Str->Option Value):Prop where
 nm:∃f fd,qU K mg "is_name" Z8 ["thing"] f fd
 tn:∃f fd,qU K mg "is_tuple_of_names" X0 ["thing"] f fd
 rw:∃f fd,qU K mg "is_row" Y2 ["thing"] f fd
 fo:∃f fd,qU K mg "need_form" vD ["rows"] f fd
 ow:∃f fd,qU K mg "need_own_names" Kj ["order"] f fd
 en:∃f fd,qU K mg "need_ends" vE ["ends","order"] f fd
 fw:∃f fd,qU K mg "need_few_roads" Kk ["rows"] f fd
theorem KG {f:Addr} {fd:FuncData} (F:jI K "need_rows" "need_rows" Vs f fd) (B:QL mg) (G:QE mg) (T:Qx K mg) (N:Rc K mg):qm P w K mg base qK 5 f fd ["rows"] zE:=by
 obtain⟨fN,fdN,hN⟩:=N.nm
 obtain⟨fP,fdP,hP⟩:=N.tn
 obtain⟨fR,fdR,hR⟩:=N.rw
 obtain⟨fF,fdF,hF⟩:=N.fo
 obtain⟨fO,fdO,hO⟩:=N.ow
 obtain⟨fE,fdE,hE⟩:=N.en
 obtain⟨fW,fdW,hW⟩:=N.fw
 have GF:qm P w K mg base qK 4 fF fdF ["rows"] zE:=KO hF.fn B G T hN hP hR
 have GO:qm P w K mg base qK 1 fO fdO ["order"] Rn:=Ni hO.fn
 have GE:qm P w K mg base qK 1 fE fdE ["ends","order"] xj:=KP hE.fn
 have GW:qm P w K mg base qK 1 fW fdW ["rows"] zE:=Nl hW.fn B T
 refine F.okJ Ux (λvs H Q E h=>?_) (λcdv A outer s H vs Q E hr h=>?_)
 . obtain⟨l,ps,rs,rfl,_⟩:=h
   rfl
 . obtain⟨l,ps,rs,rfl,g,q⟩:=h
   refine⟨_,qf (jl (qH hF GF hr (by rfl) (qd (jv 0) qg)))
     (qf (QY (i:=1) (N':=["row"]) (ix:=[none]) (te:=YO (Yl K) (jo 0) (tC (.int 0))) Ux.nd rfl (Or.inl rfl) rfl ⟨rfl,rfl,rfl,rfl,rfl⟩ (qN (jv 0)) (λC s2 H2 fp pins=>
       ⟨qA (i:=0) (Mg _) rfl (Or.inl rfl),jL,qY jc (jv 0) qk (λ_ _=>rfl)⟩))
     (qf (jl (qH hO GO (hr.mono (by decide)) (by rfl) (qd (jv 1) qg)))
     (qf (jd PassesOwn.never rfl (qN (jv 0)) (qA (i:=2) Ux.nd rfl (Or.inl rfl))
       (qh (jl (qH hE GE (hr.mono (by decide)) (by rfl) (qd (qY jc (jv 2) qk (λ_ _=>rfl)) (qd (jv 1) qg))))))
     (qh (jl (qH hW GW (hr.mono (by decide)) (by rfl) (qd (jv 0) qg))))))),?_⟩
   refine⟨_,rfl,l,ps,rs,rfl,g,λH1 s1=>?_⟩
   have g1:=g.mono s1
   refine⟨_,rfl,l,rfl,⟨_,.of g1.at_⟩,λD hD=>?_⟩
   refine jZ (K:=K) (a:=l) (xs:=ps.map V.ref) (λi σ' H'=>∃v,σ'=[v]/\H'=upd H1 D (.lst (((rs.take i).map (·.1)).map V.str))) ⟨none,rfl,rfl⟩ (λi σ' H' _ ⟨_,_,e⟩=>e▸.of (qv g1.at_ hD)) ?_ ?_
   . rintro i x σ' H' hx ⟨v,rfl,rfl⟩
     obtain⟨p',q',r,rfl,er,hr',a,b⟩:=g1.rows.item hx
     have hi:=(tw.mp er).1
     refine⟨_,rfl,p',_,0,_,rfl,rfl,.of (qv a hD),rfl,_,qe,?_,_,rfl,?_⟩
     . rw[tj,tj,tS]
       have:=g.le
       exact qp (by omega)
     . rw[jB,tQ,er,tI,tI]
       rfl
   . rintro σ' H' ⟨v,rfl,rfl⟩
     have e:rs.take (ps.map V.ref).length=rs:=tG (by rw[tj,g.rows.1];exact tE _)
     rw[e]
     refine⟨_,rfl,D,rs.map (·.1),rfl,qe,g.good.nd,by rw[tj];have:=g.le;omega,λH2 s2=>?_⟩
     have sD:qo H1 H2:=(ql hD).trans s2
     have hD2:H2 D=some (.lst ((rs.map (·.1)).map V.str)):=s2 _ _ qe
     have g2:=g1.mono sD
     refine⟨_,rfl,l,rfl,⟨_,.of g2.at_⟩,?_⟩
     refine jr (K:=K) (a:=l) (xs:=ps.map V.ref) (λi σ' H'=>∃v,σ'=[some (.ref l),some (.ref D),v]/\qo H2 H') ⟨none,rfl,qo.refl H2⟩ (λi σ' H' _ ⟨_,_,s⟩=>.of (s _ _ g2.at_)) ?_ ?_
     . rintro i x σ' H' hx ⟨v,rfl,s3⟩
       obtain⟨p',q',r,rfl,er,hr',a,b⟩:=(g2.mono s3).rows.item hx
       refine⟨_,rfl,p',_,1,_,rfl,rfl,.of a,rfl,_,rfl,q',D,r.2,rs.map (·.1),rfl,b,s3 _ _ hD2,g.good.rd r hr',g.good.to r hr',zac (g.good.len r hr') (by decide),λH4 s4=>⟨_,rfl,s3.trans s4⟩⟩
     . rintro σ' H' ⟨v,rfl,s3⟩
       exact⟨_,rfl,l,ps,rs,rfl,g2.mono s3,λH4 s4=>q H4 (((s1.trans sD).trans s3).trans s4)⟩
end
open PySem L2 PyProof.Rows
abbrev UB:Stmt:=j8 (top 25) 0
abbrev zc:Stmt:=j8 (top 25) 1
abbrev Y4:Stmt:=j8 (top 25) 2
def Qu (rs:List (Str×List Str)) (r:Str×List Str):List Str:=(rs.map (·.1)).filter λz=>Zx (.str z) (r.2.map V.str)
def Qh (CG:Addr) (H:Hp) (a:Addr) (rs:List (Str×List Str)):Prop:=∃(dx lo rd:Addr) (kvs:List (qL×V)),H a=some (.ins CG dx [("order",.ref lo),("roads",.ref rd)])/\H lo=some (.lst ((rs.map (·.1)).map V.str))/\H rd=some (.dK kvs)/\
 ∀r∈rs,∃q,jj kvs (Sum.inr r.1)=some (.ref q)/\H q=some (.lst ((Qu rs r).map V.str))
theorem Qh.mono {CG:Addr} {H H':Hp} {a:Addr} {rs:List (Str×List Str)} (h:Qh CG H a rs) (s:qo H H'):Qh CG H' a rs:=by
 obtain⟨dx,lo,rd,kvs,h1,h2,h3,h4⟩:=h
 exact⟨dx,lo,rd,kvs,s _ _ h1,s _ _ h2,s _ _ h3,λr hr=>let ⟨q,a,b⟩:=h4 r hr;⟨q,a,s _ _ b⟩⟩
theorem jF.fr {H H':Hp} {l x C dx:Addr} {fs:List (Str×V)} {ps:List Addr} {rs:List (Str×List Str)} (h:jF H l ps rs) (hx:H x=some (.ins C dx fs)) (s:Fr H x H'):jF H' l ps rs:=by
 refine⟨s _ _ h.at_ (λe=>?_),⟨h.rows.1,λi p r e1 e2=>?_⟩,h.good,h.pos,h.le⟩
 . have:=h.at_
   rw[e,hx]at this
   cases this
 . obtain⟨q,a,b⟩:=h.rows.2 i p r e1 e2
   exact⟨q,s _ _ a (λe=>by rw[e,hx]at a;cases a),s _ _ b (λe=>by rw[e,hx]at b;cases b)⟩
structure Mm (K:PySem.W.Frag) (mg:Str->Option Value) (CG f:Addr) (fd:FuncData):Prop where
 cl:XH K CG
 mkr:Mk K CG f
 ns:mg "Ground"=some (.ref CG)
 no:Qr K CG "order"
 nr:Qr K CG "roads"
 fn:jI K "__init__" "Ground.__init__" UB f fd
 bi:jG K fd ["self","rows"] []
theorem nor:¬(Str.ofString "order")=Str.ofString "roads":=by decide+kernel
theorem qbh (v:V):JF (Str.ofString "order") v []=[(Str.ofString "order",v)]:=rfl
theorem qbg (v u:V):JF (Str.ofString "roads") u [(Str.ofString "order",v)]=[(Str.ofString "order",v),(Str.ofString "roads",u)]:=by
 unfold JF
 rw[if_neg nor]
 rfl
theorem lkO (v u:V):([(Str.ofString "order",v),(Str.ofString "roads",u)]:List (Str×V)).lookup (Str.ofString "order")=some v:=by simp [zbg]
theorem lkR (v u:V):([(Str.ofString "order",v),(Str.ofString "roads",u)]:List (Str×V)).lookup (Str.ofString "roads")=some u:=by
 have e:((Str.ofString "roads")==(Str.ofString "order"))=false:=by decide+kernel
 simp [zbg,e]
def Yx (CG:Addr):Sp:=λvs H Q _=>∃(x dx l:Addr) (ps:List Addr) (rs:List (Str×List Str)),vs=[.ref x,.ref l]/\jF H l ps rs/\H x=some (.ins CG dx [])/\∀H',Qh CG H' x rs->Fr H x H'->Q .non H'
def Z2 (CG:Addr):Sp:=λvs H Q _=>∃(a:Addr) (rs:List (Str×List Str)),vs=[.ref a]/\Qh CG H a rs/\∀l,H l=none->Q (.ref l) (upd H l (.lst ((rs.map (·.1)).map V.str)))
def Yy (CG:Addr):Sp:=λvs H Q _=>∃(a:Addr) (rs:List (Str×List Str)) (r:Str×List Str),vs=[.ref a,.str r.1]/\Qh CG H a rs/\r∈rs/\jD r.1=true/\∀H1 l,qo H H1->H1 l=none->Q (.ref l) (upd H1 l (.lst ((Qu rs r).map V.str)))
section
variable {P:Program} {w:World} {K:PySem.W.Frag} {mg:Str->Option Value} {base:Heap}
abbrev nGI:List Str:=["self","rows","row"]
theorem MS:qt nGI ["self","rows"] (qj UB):=⟨rfl,rfl,rfl,by decide+kernel,rfl,by decide+kernel,by decide+kernel⟩
theorem wn {f fW CG:Addr} {fd fdW:FuncData} (C:Mm K mg CG f fd) (B:QL mg) (G:QE mg) (T:Qx K mg) (N:Rc K mg) (hW:qU K mg "need_rows" Vs ["rows"] fW fdW):qm P w K mg base qK 6 f fd ["self","rows"] (Yx CG):=by
 have GW:qm P w K mg base qK 5 fW fdW ["rows"] zE:=KG hW.fn B G T N
 refine C.fn.okJ MS (λvs H Q E h=>?_) (λcdv A outer s H vs Q E hr h=>?_)
 . obtain⟨x,dx,l,ps,rs,rfl,_⟩:=h
   rfl
 . obtain⟨x,dx,l,ps,rs,rfl,g,hx,q⟩:=h
   have hu:=jU hr
   refine⟨_,qf (jl (qH hW GW hr (by rfl) (qd (jv 1) qg)))
     (qf (WX (jv 0) (Qd (N':=["row"]) (ix:=[none]) (te:=YO (Yl K) (jo 0) (tC (.int 0))) rfl ⟨rfl,rfl,rfl,rfl,rfl⟩ (qN (jv 1)) (λC s2 H2 fp pins=>
       ⟨qA (i:=0) (Mg _) rfl (Or.inl rfl),jL,qY jc (jv 0) qk (λ_ _=>rfl)⟩)) rfl)
     (qf (WX (jv 0) Qn rfl)
     (qh (jd PassesOwn.never rfl (qN (jv 1)) (qA (i:=2) MS.nd rfl (Or.inr rfl))
       (qh (jt hu (Q0 (jv 0) rfl) (qY jc (jv 2) qk (λ_ _=>rfl))
         (Qd (N':=["name","row"]) (ix:=[none,some 2]) (tt:=XV (YO (Mf K false) (jo 0) (YO (Yl K) (jo 1) (tC (.int 1))))) rfl ⟨rfl,rfl,rfl,rfl,rfl⟩ (qN (Q0 (jv 0) rfl)) (λC s2 H2 fp pins=>
           ⟨qA (i:=0) (show (["name","row"]:List Str).Nodup by decide+kernel) rfl (Or.inl rfl),j7 (qu Jq (jv 0) (qY jc (jv 1) qk (λ_ _=>rfl)) (by with_unfolding_all rfl)),jv 0⟩)) rfl)))))),?_⟩
   refine⟨_,rfl,l,ps,rs,rfl,g,λH1 s1=>?_⟩
   have g1:=g.mono s1
   have fr1:Fr H x H1:=λb u h _=>s1 _ _ h
   have hx1:=s1 _ _ hx
   refine⟨_,rfl,l,rfl,⟨_,.of g1.at_⟩,λlo hlo=>?_⟩
   have nlx:lo≠x:=λe=>by rw[e,hx1]at hlo;cases hlo
   refine jZ (K:=K) (a:=l) (xs:=ps.map V.ref) (λi σ' H'=>∃v,σ'=[v]/\H'=upd H1 lo (.lst (((rs.take i).map (·.1)).map V.str))) ⟨none,rfl,rfl⟩ (λi σ' H' _ ⟨_,_,e⟩=>e▸.of (qv g1.at_ hlo)) ?_ ?_
   . rintro i y σ' H' hy ⟨v,rfl,rfl⟩
     obtain⟨p',q',r,rfl,er,hr',a,b⟩:=g1.rows.item hy
     have hi:=(tw.mp er).1
     refine⟨_,rfl,p',_,0,_,rfl,rfl,.of (qv a hlo),rfl,_,qe,?_,_,rfl,?_⟩
     . rw[tj,tj,tS]
       have:=g.le
       exact qp (by omega)
     . rw[jB,tQ,er,tI,tI]
       rfl
   rintro σ' H' ⟨v,rfl,rfl⟩
   have e:rs.take (ps.map V.ref).length=rs:=tG (by rw[tj,g.rows.1];exact tE _)
   rw[e]
   have fr2:Fr H x (upd H1 lo (.lst ((rs.map (·.1)).map V.str))):=fr1.new hlo
   have hlo2:upd H1 lo (.lst ((rs.map (·.1)).map V.str)) lo=some (.lst ((rs.map (·.1)).map V.str)):=qe
   have hx2:upd H1 lo (.lst ((rs.map (·.1)).map V.str)) x=some (.ins CG dx []):=qv hx1 hlo
   generalize upd H1 lo (.lst ((rs.map (·.1)).map V.str))=H2 at fr2 hlo2 hx2
   refine⟨_,rfl,x,CG,dx,[],rfl,hx2,C.cl,C.no,by decide,?_⟩
   rw[qbh]
   intro rd hrd
   have nrx:rd≠x:=λe=>by rw[e,qe]at hrd;cases hrd
   have hrd2:H2 rd=none:=by rw[qi nrx]at hrd;exact hrd
   have nrl:rd≠lo:=λe=>by rw[e,hlo2]at hrd2;cases hrd2
   have hHr:H rd=none:=fr2.fresh hx2 hrd2
   refine⟨_,rfl,x,CG,dx,_,rfl,qv qe hrd,C.cl,C.nr,by show 1 < 1000;decide,?_⟩
   rw[qbg]
   have fr5:Fr H x (upd (upd (upd H2 x (.ins CG dx [("order",.ref lo)])) rd (.dK [])) x (.ins CG dx [("order",.ref lo),("roads",.ref rd)])):=((fr2.at_d).own hHr).at_d
   have g5:=g.fr hx fr5
   refine⟨_,rfl,l,rfl,⟨_,.of g5.at_⟩,?_⟩
   refine jr (K:=K) (a:=l) (xs:=ps.map V.ref) (λi σ' H'=>∃v kvs,σ'=[some (.ref x),some (.ref l),v]/\H' x=some (.ins CG dx [("order",.ref lo),("roads",.ref rd)])/\H' lo=some (.lst ((rs.map (·.1)).map V.str))/\H' rd=some (.dK kvs)/\
     kvs.map (·.1)=((rs.map (·.1)).take i).map Sum.inr/\(∀r∈rs.take i,∃q,jj kvs (Sum.inr r.1)=some (.ref q)/\H' q=some (.lst ((Qu rs r).map V.str)))/\Fr H x H')
     ⟨none,[],rfl,qe,?_,?_,rfl,λr h=>(nomatch h),fr5⟩ (λi σ' H' _ ⟨_,_,_,_,_,_,_,_,fr⟩=>.of (g.fr hx fr).at_) ?_ ?_
   . rw[qi nlx,qi (Ne.symm nrl),qi nlx]
     exact hlo2
   . rw[qi nrx]
     exact qe
   . rintro i y σ' H' hy ⟨v,kvs,rfl,hx',hlo',hrd',ek,hv,fr⟩
     have g':=g.fr hx fr
     obtain⟨p,qq,r,rfl,er,hr',a,b⟩:=g'.rows.item hy
     have hi:=(tw.mp er).1
     have hle:=g.le
     refine⟨_,rfl,x,CG,dx,_,_,rfl,hx',C.cl,C.no,lkO _ _,lo,rfl,⟨_,.of hlo'⟩,λD hD=>?_⟩
     refine jZ (K:=K) (a:=lo) (xs:=(rs.map (·.1)).map V.str) (λj σ'' H''=>∃v0,σ''=[v0,some (.ref p)]/\H''=upd H' D (.lst ((((rs.map (·.1)).take j).filter λz=>Zx (.str z) (r.2.map V.str)).map V.str))) ⟨none,rfl,rfl⟩
       (λj σ'' H'' _ ⟨_,_,e⟩=>e▸.of (qv hlo' hD)) ?_ ?_
     . rintro j y σ'' H'' hy ⟨v0,rfl,rfl⟩
       rw[tH]at hy
       cases e:(rs.map (·.1))[j]? with
       | none=>rw[e]at hy;cases hy
       | some z=>
         rw[e]at hy
         obtain rfl:=(tN.inj hy).symm
         refine⟨_,rfl,_,rfl,p,_,1,_,rfl,rfl,.of (qv a hD),rfl,qq,_,rfl,.inr (.of (qv b hD)),rfl,Zz _,_,rfl,?_⟩
         have et:((rs.map (·.1)).take (j+1)).filter (λz=>Zx (.str z) (r.2.map V.str))=((rs.map (·.1)).take j).filter (λz=>Zx (.str z) (r.2.map V.str))++if Zx (.str z) (r.2.map V.str)=true then [z] else []:=by
           rw[tQ,e,zaS]
           congr 1
           cases ei:Zx (.str z) (r.2.map V.str)
           . simp [ei]
           . simp [ei]
         rw[et]
         show if Zx (.str z) (r.2.map V.str)=true then _ else _
         cases ei:Zx (.str z) (r.2.map V.str) with
         | true=>
           refine j4 ⟨_,rfl,_,qe,?_,_,rfl,?_⟩
           . rw[tj]
             refine qp (zac (zas _ _) ?_)
             rw[tS,tj]
             omega
           . rw[jB,if_pos rfl,tI]
             rfl
         | false=>
           refine jz ⟨_,rfl,?_⟩
           rw[if_neg tO,zap]
     . rintro σ'' H'' ⟨v0,rfl,rfl⟩
       have ed:((rs.map (·.1)).take ((rs.map (·.1)).map V.str).length).filter (λz=>Zx (.str z) (r.2.map V.str))=Qu rs r:=by
         rw[tj,tG (tE _)]
         rfl
       rw[ed]
       have nD:∀{c:Addr} {o:HO},H' c=some o->c≠D:=λh e=>by rw[e,hD]at h;cases h
       have en:(rs.map (·.1))[i]?=some r.1:=by rw[tH,er];rfl
       have ez:jj kvs (Sum.inr r.1:qL)=none:=Jm (by rw[ek];exact Qv g.good.nd en)
       have lk:kvs.length < sizeLine:=by
         have:=congrArg zaD ek
         rw[tj,tj,tS,tj]at this
         exact qp (by omega)
       refine⟨_,rfl,x,CG,dx,_,_,rfl,qv hx' hD,C.cl,C.nr,lkR _ _,_,rfl,p,_,0,_,rfl,rfl,.of (qv a hD),rfl,rd,_,rfl,Q4.k (k:=(Sum.inr r.1:qL)) (qv hrd' hD) lk,?_⟩
       refine⟨_,jN kvs (Sum.inr r.1) (.ref D),rfl,?_,?_,qe,?_,λr' hr2=>?_,?_⟩
       . rw[qi (Ne.symm nrx)];exact qv hx' hD
       . rw[qi (Ne.symm nrl)];exact qv hlo' hD
       . rw[WG _ ez,ek,tQ,en,tI]
         rfl
       . rw[tQ,er]at hr2
         rcases tX.mp hr2 with h | h
         . obtain⟨q1,a1,b1⟩:=hv r' h
           refine⟨q1,?_,?_⟩
           . rw[jW,if_neg]
             . exact a1
             . intro z
               rw[z,ez]at a1
               cases a1
           . have n1:q1≠rd:=λe=>by rw[e,hrd']at b1;cases b1
             rw[qi n1]
             exact qv b1 hD
         . have er':r'=r:=by simpa using h
           subst er'
           refine⟨D,?_,?_⟩
           . rw[jW,if_pos rfl]
           . rw[qi (Ne.symm (nD hrd'))]
             exact qe
       . exact(fr.new hD).own hHr
   . rintro σ' H' ⟨v,kvs,rfl,hx',hlo',hrd',ek,hv,fr⟩
     have e:rs.take (ps.map V.ref).length=rs:=tG (by rw[tj,g.rows.1];exact tE _)
     rw[e]at hv
     exact q H' ⟨dx,lo,rd,kvs,hx',hlo',hrd',hv⟩ fr
theorem qa6:qt ["self"] ["self"] (qj zc):=⟨rfl,rfl,rfl,by decide+kernel,rfl,by decide+kernel,by decide+kernel⟩
theorem zN {f fI CG:Addr} {fd fdI:FuncData} (F:jI K "names" "Ground.names" zc f fd) (C:Mm K mg CG fI fdI) (G:QE mg):qm P w K mg base qK 1 f fd ["self"] (Z2 CG):=by
 refine F.okJ qa6 (λvs H Q E h=>?_) (λcdv A outer s H vs Q E hr h=>?_)
 . obtain⟨a,rs,rfl,_⟩:=h
   rfl
 . obtain⟨a,rs,rfl,⟨dx,lo,rd,kvs,h1,h2,h3,h4⟩,q⟩:=h
   refine⟨_,qh (qB (jw Qp (by rfl) G.lst boot_list (qd (Q0 (jv 0) rfl) qg))),?_⟩
   exact⟨_,rfl,a,CG,dx,_,_,rfl,h1,C.cl,C.no,lkO _ _,lo,_,rfl,.inl (.of h2),q⟩
abbrev nGF:List Str:=["self","name"]
theorem qa7:qt nGF nGF (qj Y4):=⟨rfl,rfl,rfl,by decide+kernel,rfl,by decide+kernel,by decide+kernel⟩
theorem Xf {f fI fN CG:Addr} {fd fdI fdN:FuncData} (F:jI K "roads_from" "Ground.roads_from" Y4 f fd) (C:Mm K mg CG fI fdI) (B:QL mg) (G:QE mg) (T:Qx K mg) (hN:qU K mg "is_name" Z8 ["thing"] fN fdN):qm P w K mg base qK 2 f fd nGF (Yy CG):=by
 have GN:qm P w K mg base qK 1 fN fdN ["thing"] uY:=WN hN.fn B T
 refine F.okJ qa7 (λvs H Q E h=>?_) (λcdv A outer s H vs Q E hr h=>?_)
 . obtain⟨a,rs,r,rfl,_⟩:=h
   rfl
 . obtain⟨a,rs,r,rfl,gr,hr',hn,q⟩:=h
   have hu:=jU hr
   refine⟨_,qf (qM (zk (Ji (j2 (qH hN GN hr (by rfl) (qd (jv 1) qg)))) (JM (Ql (Ju hu (jv 1) (Q0 (jv 0) rfl))))).pt qW qE)
     (qh (qB (jw Qp (by rfl) G.lst boot_list (qd (qX hu (Q0 (jv 0) rfl) (jv 1) (λ_ _=>rfl)) qg)))),?_⟩
   refine⟨_,rfl,r.1,rfl,hn,λH1 s1=>⟨_,rfl,jz ?_⟩⟩
   obtain⟨dx,lo,rd,kvs,h1,h2,h3,h4⟩:=gr.mono s1
   obtain⟨qq,hv,hq⟩:=h4 r hr'
   have gz:jO H1 rd (.str r.1) (some (.ref qq)):=by
     have:=jO.k (k:=(Sum.inr r.1:qL)) h3
     rw[hv]at this
     exact this
   refine⟨_,rfl,_,rfl,a,CG,dx,_,_,rfl,h1,C.cl,C.nr,lkR _ _,rd,_,rfl,gz,_,rfl,jz ?_⟩
   exact⟨_,rfl,a,CG,dx,_,_,rfl,h1,C.cl,C.nr,lkR _ _,_,rfl,rd,_,rfl,gz,qq,_,rfl,.inl (.of hq),λl hl=>q H1 l s1 hl⟩
end
open PySem L2 PyProof.Rows
abbrev QB:Stmt:=top 33
abbrev zJ:Stmt:=top 34
abbrev jb:=List (Str×List Str)
def Q7 (rs:jb) (z:Str):List Str:=match rs.find? (λr=>decide (r.1=z)) with
 | some r=>Qu rs r
 | none=>[]
theorem Xt:∀{rs:jb} {r:Str×List Str},(rs.map (·.1)).Nodup->r∈rs->rs.find? (λq=>decide (q.1=r.1))=some r
 | a::rs,r,hn,h=>by
   rw[tW,zal]at hn
   rcases tY.mp h with rfl | h
   . simp [zbr]
   . have:¬a.1=r.1:=λe=>hn.1 (e▸tL.mpr ⟨r,h,rfl⟩)
     simp only[zbr,decide_eq_false this]
     exact Xt hn.2 h
theorem JZ {rs:jb} {r:Str×List Str} (hn:(rs.map (·.1)).Nodup) (h:r∈rs):Q7 rs r.1=Qu rs r:=by
 unfold Q7
 rw[Xt hn h]
theorem VB {rs:jb} {r:Str×List Str} {y:Str} (h:y∈Qu rs r):∃r'∈rs,r'.1=y:=by
 obtain⟨r',h1,h2⟩:=tL.mp (zad.mp h).1
 exact⟨r',h1,h2⟩
theorem Gi {z:Str} {zs:List Str}:Zx (.str z) (zs.map V.str)=true↔z∈zs:=by
 refine⟨λh=>?_,WZ⟩
 unfold Zx at h
 obtain⟨y,hy,e⟩:=zaZ.mp h
 obtain⟨x,hx,rfl⟩:=tL.mp hy
 have e':(x==z)=true:=e
 rw[beq_iff_eq]at e'
 exact e'▸hx
theorem xD {rs:jb} (g:qD rs) {r:Str×List Str} (h:r∈rs) {y:Str}:y∈Qu rs r↔y∈r.2:=by
 unfold Qu
 rw[zad,Gi]
 exact⟨λz=>z.2,λz=>⟨g.to r h y z,z⟩⟩
theorem QI {rs:jb} (hn:(rs.map (·.1)).Nodup):∀z∈rs.map (·.1),∀y∈Q7 rs z,y∈rs.map (·.1):=λz hz y hy=>by
 obtain⟨r,hr,rfl⟩:=tL.mp hz
 rw[JZ hn hr]at hy
 obtain⟨r',h1,rfl⟩:=VB hy
 exact tL.mpr ⟨r',h1,rfl⟩
theorem JL {α:Type}:∀{l m:List α},l.Nodup->(∀z∈l,z∈m)->l.length<=m.length
 | [],m,_,_=>zat _
 | a::l,m,hn,h=>by
   classical
   rw[zal]at hn
   have ha:=h a t9
   have:=JL (m:=m.erase a) hn.2 λz hz=>(zbS (λ(e:z=a)=>hn.1 (e▸hz))).mpr (h z (tZ _ hz))
   rw[zcb ha]at this
   have:=zbs ha
   rw[zau]
   omega
theorem zR:∀{more kvs:List (qL×V)},(more.map (·.1)).Nodup->(∀k∈more.map (·.1),¬k∈kvs.map (·.1))->QG kvs more=kvs++more
 | [],kvs,_,_=>(zap _).symm
 | p::more,kvs,hn,h=>by
   rw[tW,zal]at hn
   have e:jj kvs p.1=none:=Jm (h p.1 (by simp))
   show QG (jN kvs p.1 p.2) more=_
   rw[QC p.2 e,zR hn.2]
   . rw[zct]
     rfl
   . intro k hk m
     rw[tI]at m
     rcases tX.mp m with m | m
     . exact h k (by rw[tW];exact tZ _ hk) m
     . have:k=p.1:=by simpa using m
       subst this
       exact hn.1 hk
structure Vb (K:PySem.W.Frag) (C:Addr) (m qual:Str) (st:Stmt) (ps:List Str) (f:Addr) (fd:FuncData):Prop where
 fn:jI K m qual st f fd
 me:XQ K C m f
 bi:jG K fd ps []
theorem wO {X:Cx} {C f:Addr} {fd:FuncData} {m qual:Str} {st:Stmt} {ps:List Str} {k:Nat} {sp:Sp} {o:Expr} {ta:TE} {apos pos:Pos} {pl:Sem Bool} (h:Vb X.K C m qual st ps f fd) (c:XH X.K C) (G:qm X.prog X.w X.K X.mg X.base qK k f fd ps sp) (hr:qV k X.A) (he:JE X o ta)
   (ht:eval (.Call (.Attribute o m apos) [] [] pos) X.env=(do
     let ov <-eval o X.env
     standAt apos.atName
     let (f,first) <-holding [ov] (getMethod ov m pl)
     callWith pos f first (backTo pos (starEach [] X.env)) (backToKw pos (keywordEach [] X.env))):=by rfl):
   JE X (.Call (.Attribute o m apos) [] [] pos) (XW C m sp [] E0 ta Zc):=wN he c h.me G hr h.bi .nil QJ ht
theorem vU {X:Cx} {C f:Addr} {fd:FuncData} {m qual:Str} {st:Stmt} {ps:List Str} {k:Nat} {sp:Sp} {o e:Expr} {es:List Expr} {ta:TE} {t:TA} {apos pos:Pos} {pl:Sem Bool} (h:Vb X.K C m qual st ps f fd) (c:XH X.K C) (G:qm X.prog X.w X.K X.mg X.base qK k f fd ps sp) (hr:qV k X.A) (he:JE X o ta) (ha:JA X (e::es) t)
   (hst:starEach (e::es) X.env=(false,eval e X.env)::starEach es X.env:=by rfl) (hpl:(backTo pos (starEach es X.env)).any (·.1)=false:=by rfl)
   (ht:eval (.Call (.Attribute o m apos) (e::es) [] pos) X.env=(do
     let ov <-eval o X.env
     standAt apos.atName
     let (f,first) <-holding [ov] (getMethod ov m pl)
     callWith pos f first (backTo pos (starEach (e::es) X.env)) (backToKw pos (keywordEach [] X.env))):=by rfl):
   JE X (.Call (.Attribute o m apos) (e::es) [] pos) (XW C m sp [] E0 ta t):=Gd he c h.me G hr h.bi .nil QJ ha hst hpl ht
structure GM (K:PySem.W.Frag) (mg:Str->Option Value) (CG:Addr):Prop where
 cls:∃f fd,Mm K mg CG f fd
 nm:∃f fd,Vb K CG "names" "Ground.names" zc ["self"] f fd
 fr:∃f fd,Vb K CG "roads_from" "Ground.roads_from" Y4 ["self","name"] f fd
 isn:∃f fd,qU K mg "is_name" Z8 ["thing"] f fd
theorem Qh.ins {CG:Addr} {H:Hp} {a:Addr} {rs:jb} (h:Qh CG H a rs):∃dx fs,H a=some (.ins CG dx fs)/\fs.lookup (Str.ofString "names")=none/\fs.lookup (Str.ofString "roads_from")=none:=by
 obtain⟨dx,lo,rd,kvs,h1,_⟩:=h
 refine⟨dx,_,h1,?_,?_⟩
 . have e1:((Str.ofString "names")==(Str.ofString "order"))=false:=by decide+kernel
   have e2:((Str.ofString "names")==(Str.ofString "roads"))=false:=by decide+kernel
   simp only[zbg]
   rw[e1,e2]
 . have e1:((Str.ofString "roads_from")==(Str.ofString "order"))=false:=by decide+kernel
   have e2:((Str.ofString "roads_from")==(Str.ofString "roads"))=false:=by decide+kernel
   simp only[zbg]
   rw[e1,e2]
theorem ww {rs:jb} {i:Nat} {y:V} (h:((rs.map (·.1)).map V.str)[i]?=some y):∃r,rs[i]?=some r/\r∈rs/\y=.str r.1:=by
 rw[tH,tH]at h
 cases e:rs[i]? with
 | none=>rw[e]at h;cases h
 | some r=>rw[e]at h;exact⟨r,rfl,t8 e,(tN.inj h).symm⟩
theorem j6 {zs:List Str} {i:Nat} {y:V} (h:(zs.map V.str)[i]?=some y):∃z,zs[i]?=some z/\z∈zs/\y=.str z:=by
 rw[tH]at h
 cases e:zs[i]? with
 | none=>rw[e]at h;cases h
 | some z=>rw[e]at h;exact⟨z,rfl,t8 e,(tN.inj h).symm⟩
theorem Y8 {rs:jb} (r:Str×List Str):(Qu rs r).length<=rs.length:=by
 have:=zas (λz=>Zx (.str z) (r.2.map V.str)) (rs.map (·.1))
 rwa [tj]at this
theorem qT {c:Bool} {A B:Prop} (hc:c=false) (h:B):if c=true then A else B:=by
 rw[hc]
 exact jz h
theorem jg {c:Bool} {A B:Prop} (hc:c=true) (h:A):if c=true then A else B:=by
 rw[if_pos hc]
 exact h
theorem U8 {kvs:List (qL×V)}:∀{i:Nat} {k:qL} {v:V},(kvs.map (·.1)).Nodup->kvs[i]?=some (k,v)->jj kvs k=some v:=by
 induction kvs with
 | nil=>intro i k v _ e;simp at e
 | cons p r ih=>
   intro i k v hn e
   rw[tW,zal]at hn
   cases i with
   | zero=>
     rw[List.getElem?_cons_zero]at e
     obtain rfl:=tN.inj e
     exact jh rfl
   | succ i=>
     rw[List.getElem?_cons_succ]at e
     have:¬p.1=k:=λz=>hn.1 (z▸tL.mpr ⟨_,t8 e,rfl⟩)
     rw[ji this]
     exact ih hn.2 e
theorem WE {H:Hp}:∀(ps:List Addr) (rs:jb),jT H ps rs->∃qs:List Addr,qs.length=rs.length/\∀(i:Nat) (p q:Addr) (r:Str×List Str),ps[i]?=some p->rs[i]?=some r->qs[i]?=some q->H p=some (.tup [.str r.1,.ref q])/\H q=some (.tup (r.2.map V.str))
 | [],[],_=>⟨[],rfl,λi p q r e=>by simp at e⟩
 | [],_::_,h=>by cases h.1
 | _::_,[],h=>by cases h.1
 | p::ps,r::rs,h=>by
   obtain⟨qs,l,k⟩:=WE ps rs ⟨zcO.inj h.1,λi a b e1 e2=>h.2 (i+1) a b (by simpa using e1) (by simpa using e2)⟩
   obtain⟨q,a,b⟩:=h.2 0 p r rfl rfl
   refine⟨q::qs,by simp [l],λi p' q' r' e1 e2 e3=>?_⟩
   cases i with
   | zero=>cases e1;cases e2;cases e3;exact⟨a,b⟩
   | succ i=>exact k i p' q' r' (by simpa using e1) (by simpa using e2) (by simpa using e3)
def ZT (rs:jb) (qs:List Addr):List (qL×V):=List.zipWith (λr q=>((Sum.inr r.1:qL),V.ref q)) rs qs
theorem Jt:∀{rs:jb} {qs:List Addr},qs.length=rs.length->(ZT rs qs).map (·.1)=(rs.map (·.1)).map Sum.inr
 | [],[],_=>rfl
 | [],_::_,h=>by cases h
 | _::_,[],h=>by cases h
 | r::rs,q::qs,h=>by
   show Sum.inr r.1::(ZT rs qs).map (·.1)=_
   rw[Jt (zcO.inj h)]
   rfl
theorem Zj {rs:jb} {qs:List Addr} (h:qs.length=rs.length):(ZT rs qs).length=rs.length:=by
 have:=congrArg zaD (Jt h)
 simpa using this
theorem WU {rs:jb} {qs:List Addr} (h:qs.length=rs.length) {i:Nat} {r:Str×List Str} (e:rs[i]?=some r):∃q,qs[i]?=some q/\(ZT rs qs)[i]?=some (Sum.inr r.1,.ref q):=by
 have hi:i < qs.length:=by rw[h];exact(tw.mp e).1
 refine⟨qs[i],tF hi,?_⟩
 unfold ZT
 rw[List.getElem?_zipWith,e,tF hi]
theorem VR {rs:jb} {qs:List Addr} (h:qs.length=rs.length) {i:Nat} {kv:qL×V} (e:(ZT rs qs)[i]?=some kv):∃r q,rs[i]?=some r/\qs[i]?=some q/\kv=(Sum.inr r.1,.ref q):=by
 have hi:i < rs.length:=by rw[<-Zj h];exact(tw.mp e).1
 obtain⟨q,e1,e2⟩:=WU h (tF hi)
 rw[e2]at e
 exact⟨_,q,tF hi,e1,(tN.inj e).symm⟩
theorem vW {rs:jb} (g:qD rs) {r:Str×List Str} (h:r∈rs) {y:Str}:y∈Q7 rs r.1↔y∈r.2:=by
 rw[JZ g.nd h]
 exact xD g h
theorem wG:∀{l:List Nat} {x:Nat},x∈l->x<=l.sum
 | a::l,x,h=>by
   rw[zaU]
   rcases tY.mp h with e | h
   . omega
   . have:=wG h
     omega
theorem qD.two {rs:jb} (g:qD rs) {r:Str×List Str} (h:r∈rs):r.2.length<=40:=by
 refine zac ?_ g.few
 exact wG (tL.mpr ⟨r,h,rfl⟩)
theorem Nq {σ:L2.St} {H:Hp} {Q:List V->Hp->Prop} (h:Q [] H):Zc σ H Q:=h
theorem ju {H H':Hp} {a:Addr} (s:qo H H') (h:H' a=none):H a=none:=by
 cases z:H a with
 | none=>rfl
 | some u=>rw[s _ _ z]at h;cases h
theorem UI {z:Str} (h:jD z=true):(∀c∈z.cps.toList,c<=122)/\z.length<=8/\1<=z.length:=by
 unfold jD at h
 simp only[zaq,decide_eq_true_eq]at h
 refine⟨λc hc=>?_,h.1.2,h.1.1⟩
 have:=zaL.mp h.2 c hc
 unfold jR at this
 simp only[zaq,decide_eq_true_eq]at this
 exact this.2
theorem vQ {z:Str} (h:jD z=true):PyData.strOk z=true:=by
 unfold PyData.strOk
 rw[Array.all_eq_true_iff_forall_mem]
 intro c hc
 have:=(UI h).1 c (by simpa using hc)
 exact decide_eq_true (by omega)
theorem ul {K:PySem.W.Frag} {H:Hp} {l:Addr} {ps:List Addr} {rs:jb} (g:jF H l ps rs) {Q:VK}
   (q:∀dd kvs,H dd=none->kvs.map (·.1)=(rs.map (·.1)).map Sum.inr->(∀r∈rs,∃t,jj kvs (Sum.inr r.1:qL)=some (.ref t)/\H t=some (.tup (r.2.map V.str)))->Q (.ref dd) (upd H dd (.dK kvs))):xJ K [.ref l] H Q:=by
 obtain⟨qs,lq,hqs⟩:=WE ps rs g.rows
 have le:=g.le
 refine⟨l,ps,ZT rs qs,rfl,.of g.at_,by rw[Zj lq,g.rows.1],λi a kv e1 e2=>?_,by rw[Zj lq];omega,λdd hdd=>?_⟩
 . obtain⟨r',q',f1,f2,rfl⟩:=VR lq e2
   exact .of (hqs i a q' r' e1 f1 f2).1
 have nk:((ZT rs qs).map (·.1)).Nodup:=by
   rw[Jt lq]
   exact Js g.good.nd λa _ b _ e=>Sum.inr.inj e
 rw[zR nk (λk _ m=>by simp at m),zdq]
 refine q dd _ hdd (Jt lq) λr hr=>?_
 obtain⟨i0,hi0⟩:=zbb hr
 obtain⟨q0,eq0,ekv⟩:=WU lq hi0
 have hi0':=(tw.mp hi0).1
 exact⟨q0,U8 nk ekv,(hqs i0 _ q0 r (tF (by rw[g.rows.1];exact hi0')) hi0 eq0).2⟩
section
variable {P:Program} {w:World} {K:PySem.W.Frag} {mg:Str->Option Value} {base:Heap}
theorem ur (x:Int):Builtin.bitNot (Builtin.bitNot x)=x:=by unfold Builtin.bitNot;omega
theorem bo (a b:Nat):Builtin.bitOr a b=((a ||| b:Nat):Int):=by
 have na:¬(0:Int)<=Builtin.bitNot a:=by unfold Builtin.bitNot;omega
 have nb:¬(0:Int)<=Builtin.bitNot b:=by unfold Builtin.bitNot;omega
 have e:Builtin.bitAnd (Builtin.bitNot a) (Builtin.bitNot b)=Builtin.bitNot (((Builtin.bitNot (Builtin.bitNot a)).toNat ||| (Builtin.bitNot (Builtin.bitNot b)).toNat:Nat):Int):=by
   unfold Builtin.bitAnd
   rw[decide_eq_false na,decide_eq_false nb]
 unfold Builtin.bitOr
 rw[e,ur,ur,ur,zaP,zaP]
theorem ba (a b:Nat):Builtin.bitAnd a b=((a&&& b:Nat):Int):=by
 unfold Builtin.bitAnd
 rw[decide_eq_true (zcM a),decide_eq_true (zcM b)]
 rfl
def Zy (ns:List Nat):List V:=ns.map λn=>V.int (n:Nat)
theorem JY (ns:List Nat):(Zy ns).length=ns.length:=tj ..
theorem W0 {ns:List Nat} {i:Nat} {x:V} (h:(Zy ns)[i]?=some x):∃n:Nat,ns[i]?=some n/\x=.int n:=by
 unfold Zy at h
 rw[tH]at h
 cases e:ns[i]? with
 | none=>rw[e]at h;cases h
 | some n=>rw[e]at h;exact⟨n,rfl,(tN.inj h).symm⟩
theorem zB {ns:List Nat} {i n:Nat} (h:ns[i]?=some n):ns.take (i+1)=ns.take i++[n]:=by
 rw[tQ,h]
 rfl
theorem Xp (ns:List Nat) (n:Nat):Zy ns++[V.int (n:Nat)]=Zy (ns++[n]):=by unfold Zy;rw[tI];rfl
theorem zo (ns:List Nat):(Zy ns).all ZJ=true:=by
 unfold Zy
 rw[zcI]
 exact zaL.mpr λ_ _=>rfl
theorem Xq (ns:List Nat) (n:Nat):Zx (.int (n:Nat)) (Zy ns)=decide (n∈ns):=by
 unfold Zx Zy
 rw[List.any_map,zbf,zaZ,decide_eq_true_iff]
 constructor
 . rintro⟨y,hy,e⟩
   have e':((y:Int)==(n:Int))=true:=e
   have:y=n:=by
     have:=eq_of_beq e'
     omega
   exact this▸hy
 . intro h
   refine⟨n,h,?_⟩
   show ((n:Int)==(n:Int))=true
   simp
def XZ (K:PySem.W.Frag):Sp:=λvs H Q _=>∃(a:Addr) (ns:List Nat),vs=[.ref a]/\SqL K H a (Zy ns)/\ns.length<=1000/\∀H',qo H H'->Q (.int (Rb.lackN ns:Nat)) H'
def Wu (K:PySem.W.Frag):Sp:=λvs H Q _=>∃(a:Addr) (ns:List Nat),vs=[.ref a]/\SqL K H a (Zy ns)/\(∀x∈ns,x < 1000)/\Q (.int (Rb.setN ns:Nat)) H
theorem YA:qt ["numbers","bits","number"] ["numbers"] (qj zJ):=⟨rfl,rfl,rfl,by decide+kernel,rfl,by decide+kernel,by decide+kernel⟩
theorem VG {f:Addr} {fd:FuncData} (F:jI K "set_of" "set_of" zJ f fd):qm P w K mg base qK 1 f fd ["numbers"] (Wu K):=by
 refine F.okJ YA (λvs H Q E h=>?_) (λcdv A outer s H vs Q E hr h=>?_)
 . obtain⟨a,ns,rfl,_⟩:=h
   rfl
 . obtain⟨a,ns,rfl,hS,hb,q⟩:=h
   refine⟨_,qf (qw (i:=1) YA.nd rfl (Or.inl rfl) qk)
     (qf (jd PassesOwn.never rfl (qN (jv 0)) (qA (i:=2) YA.nd rfl (Or.inl rfl)) (qh (qw (i:=1) YA.nd rfl (Or.inl rfl) (qO Rz (jv 1) (qO xT qk (jv 2))))))
     (qh (qB (jv 1)))),?_⟩
   refine⟨_,rfl,a,rfl,⟨_,hS⟩,?_⟩
   refine jr (K:=K) (a:=a) (xs:=Zy ns) (λi σ H'=>∃v,σ=[some (.ref a),some (.int ((Rb.setN (ns.take i):Nat):Int)),v]/\H'=H) ⟨none,rfl,rfl⟩ (λi σ H' _ ⟨_,_,e⟩=>e▸hS) ?_ ?_
   . rintro i x σ H' hx ⟨v,rfl,rfl⟩
     obtain⟨n,hn,rfl⟩:=W0 hx
     have n1:=hb n (t8 hn)
     have e1:(1:Int)*2^ ((n:Nat):Int).toNat=((2^n:Nat):Int):=by rw[zaP,Int.one_mul];push_cast;rfl
     have e:((Rb.setN (ns.take (i+1)):Nat):Int)=Builtin.bitOr (Rb.setN (ns.take i):Nat) ((1:Int)*2^ ((n:Nat):Int).toNat):=by rw[e1,bo,zB hn,Rb.setN_snoc]
     refine⟨_,rfl,_,rfl,_,_,rfl,rfl,⟨by omega,by omega,by decide⟩,_,_,rfl,rfl,some (.int n),?_,rfl⟩
     rw[e]
     rfl
   . rintro σ H' ⟨v,rfl,rfl⟩
     refine⟨_,rfl,?_⟩
     rw[JY,tG (tE _)]
     exact q
theorem Jn:qt ["numbers","there","number","least"] ["numbers"] (qj QB):=⟨rfl,rfl,rfl,by decide+kernel,rfl,by decide+kernel,by decide+kernel⟩
theorem UG {f:Addr} {fd:FuncData} (F:jI K "lacking" "lacking" QB f fd):qm P w K mg base qK 1 f fd ["numbers"] (XZ K):=by
 refine F.okJ Jn (λvs H Q E h=>?_) (λcdv A outer s H vs Q E hr h=>?_)
 . obtain⟨a,ns,rfl,_⟩:=h
   rfl
 . obtain⟨a,ns,rfl,hS,hl,q⟩:=h
   have hu:=jU hr
   refine⟨_,qf (qw (i:=1) Jn.nd rfl (Or.inl rfl) Qn)
     (qf (jd PassesOwn.never rfl (qN (jv 0)) (qA (i:=2) Jn.nd rfl (Or.inl rfl)) (qh (jt hu (jv 1) (jv 2) Qe rfl)))
     (qf (qw (i:=3) Jn.nd rfl (Or.inl rfl) qk)
     (qf (Zl PassesOwn.never (Ql (JX hu (jv 3) (jv 1)) (by with_unfolding_all rfl)) (qh (wJ (i:=3) Jn.nd rfl (Or.inl rfl) qk wU)))
     (qh (qB (jv 3)))))),?_⟩
   intro D hD
   refine⟨_,rfl,a,rfl,⟨_,(ql hD).seq hS⟩,?_⟩
   refine jr (K:=K) (a:=a) (xs:=Zy ns) (λi σ H'=>∃v kvs,σ=[some (.ref a),some (.ref D),v,none]/\H'=upd H D (.dK kvs)/\kvs.length<=i/\∀x:Nat,(jj kvs (Sum.inl (x:Int):qL)).isSome=decide (x∈ns.take i)) ⟨none,[],rfl,rfl,tE _,λx=>by simp [jj]⟩
     (λi σ H' _ ⟨_,_,_,e,_⟩=>e▸(ql hD).seq hS) ?_ ?_
   . rintro i x σ H' hx ⟨v,kvs,rfl,rfl,hk,hv⟩
     obtain⟨n,hn,rfl⟩:=W0 hx
     have hi:i < ns.length:=(tw.mp hn).1
     refine⟨_,rfl,_,rfl,D,_,rfl,Q4.k (k:=(Sum.inl (n:Int):qL)) qe (qp (by omega)),?_⟩
     refine⟨some (.int n),jN kvs (Sum.inl (n:Int)) (.bl true),rfl,jB,?_,λx=>?_⟩
     . have:=Jb kvs (Sum.inl (n:Int):qL) (.bl true)
       omega
     . rw[jW,zB hn]
       by_cases e:x=n
       . subst e;simp
       . have e':¬(Sum.inl (x:Int):qL)=Sum.inl (n:Int):=λz=>e (by have:=Sum.inl.inj z;omega)
         rw[if_neg e',hv x,zbf]
         simp [e]
   . rintro σ H' ⟨v,kvs,rfl,rfl,hk,hv⟩
     rw[JY,tG (tE _)]at hv
     refine Za (λσ H'=>∃r:Nat,σ=[some (.ref a),some (.ref D),v,some (.int r)]/\H'=upd H D (.dK kvs)/\∀x,x < r->x∈ns) (λσ _=>match σ with | [_,_,_,some (.int r)]=>ns.length - r.toNat | _=>0) ⟨0,rfl,rfl,λx hx=>absurd hx (zci _)⟩ ?_ ?_
     . rintro σ H' ⟨r,rfl,rfl,hr'⟩
       refine⟨_,rfl,_,rfl,D,_,rfl,jO.k (k:=(Sum.inl (r:Int):qL)) qe,_,rfl,?_⟩
       rw[hv r]
       by_cases hm:r∈ns
       . rw[decide_eq_true hm]
         have hp:=Rb.pigeon (r+1) ns λx hx=>by
           by_cases e:x=r
           . rw[e];exact hm
           . exact hr' x (by omega)
         refine j4 ⟨_,rfl,_,_,rfl,rfl,⟨r+1,rfl,rfl,λx hx=>?_⟩,?_⟩
         . by_cases e:x=r
           . rw[e];exact hm
           . exact hr' x (by omega)
         . show ns.length - ((r:Int)+1).toNat < ns.length - (r:Int).toNat
           omega
       . rw[decide_eq_false hm]
         refine jz ⟨_,rfl,?_⟩
         have e:=Rb.lackN_eq (r:=r) (ns:=ns) ⟨hm,hr'⟩
         have:=q _ (ql (o:=.dK kvs) hD)
         rw[<-e]at this
         exact this
     . rintro σ H Q Q' h1 ⟨v,e,w,e2,a,o,e3,g,k,e4,q⟩
       exact⟨v,e,w,e2,a,o,e3,g,k,e4,h1 _ _ q⟩
end
open PySem L2 PyProof.Rows MLab
abbrev Rv:Stmt:=top 47
abbrev Y3:Stmt:=top 48
abbrev zK:Stmt:=top 49
abbrev Vy:Stmt:=top 50
abbrev WC:Stmt:=top 51
abbrev JD:Stmt:=top 52
structure jn (N:List Str) (H:Hp) (d:Addr) (f:Str->Option Nat):Prop where
 at_:∃kvs:List (qL×V),H d=some (.dK kvs)/\(∀z:Str,jj kvs (Sum.inr z:qL)=(f z).map λn=>V.int (n:Nat))/\(kvs.map (·.1)).Nodup/\∀k∈kvs.map (·.1),k∈N.map (Sum.inr:Str->qL)
theorem jn.mono {N:List Str} {H H':Hp} {d:Addr} {f:Str->Option Nat} (h:jn N H d f) (s:qo H H'):jn N H' d f:=⟨let ⟨kvs,a,b⟩:=h.at_;⟨kvs,s _ _ a,b⟩⟩
theorem jn.get {N:List Str} {H:Hp} {d:Addr} {f:Str->Option Nat} (h:jn N H d f) (z:Str):jO H d (.str z) ((f z).map λn=>V.int (n:Nat)):=by
 obtain⟨kvs,a,b,_⟩:=h.at_
 rw[<-b z]
 exact jO.k (k:=(Sum.inr z:qL)) a
theorem jn.isd {N:List Str} {H:Hp} {d:Addr} {f:Str->Option Nat} (h:jn N H d f):∃kvs:List (qL×V),H d=some (.dK kvs):=let ⟨kvs,a,_⟩:=h.at_;⟨kvs,a⟩
theorem jn.put {N:List Str} {H:Hp} {d:Addr} {f:Str->Option Nat} (h:jn N H d f) {z:Str} {n:Nat} (hz:z∈N) (hf:f z=none) (le:N.length<=14):∃H',Q4 H d (.str z) (.int (n:Nat)) H'/\jn N H' d (λy=>if y=z then some n else f y)/\∃o,H'=upd H d o:=by
 obtain⟨kvs,a,b,nd,sub⟩:=h.at_
 have ln:kvs.length<=14:=by
   have:=JL nd sub
   rw[tj,tj]at this
   omega
 refine⟨_,Q4.k (k:=(Sum.inr z:qL)) a (qp (by omega)),⟨jN kvs (Sum.inr z) (.int (n:Nat)),qe,λy=>?_,?_,?_⟩,_,rfl⟩
 . rw[jW]
   by_cases e:y=z
   . subst e;rw[if_pos rfl,if_pos rfl];rfl
   . rw[if_neg e,if_neg (λq=>e (Sum.inr.inj q))];exact b y
 . rw[QC _ (by rw[b z,hf];rfl),tI]
   refine zdc.mpr ⟨nd,zcl _ _,λx hx y hy e=>?_⟩
   have ey:y=Sum.inr z:=by simpa using hy
   subst ey
   subst e
   have:(jj kvs (Sum.inr z:qL)).isSome=true:=by
     obtain⟨p,hp,ep⟩:=tL.mp hx
     have an:(kvs.any λkv=>decide (kv.1=(Sum.inr z:qL)))=true:=zaZ.mpr ⟨p,hp,decide_eq_true ep⟩
     rw[QA]at an
     exact an
   rw[b z,hf]at this
   cases this
 . rw[QC _ (by rw[b z,hf];rfl),tI]
   intro k hk
   rcases tX.mp hk with hk | hk
   . exact sub k hk
   . have:k=Sum.inr z:=by simpa using hk
     rw[this]
     exact tL.mpr ⟨z,hz,rfl⟩
def ZH (rs:jb) (f:Str->Option Nat) (z:Str):List Nat:=(Q7 rs z).filterMap f
theorem Qj {rs:jb} {f:Str->Option Nat} {z:Str} {n:Nat}:n∈ZH rs f z↔∃y∈Q7 rs z,f y=some n:=zaF
theorem W1 {rs:jb} (z:Str):(Q7 rs z).length<=rs.length:=by
 unfold Q7
 split
 . exact Y8 _
 . exact zat _
def Wp (rs:jb) (f:Str->Option Nat) (z:Str):List Str:=(Q7 rs z).filter λy=>(f y).isNone
def zq (rs:jb) (f:Str->Option Nat) (z:Str) (n:Nat):Bool:=decide (Rb.lackN (ZH rs f z)=n)&&(Wp rs f z).all λy=>decide (n∈ZH rs f y)
theorem yC {rs:jb} {f:Str->Option Nat} {z:Str} {n:Nat}:zq rs f z n=true↔Ys (Q7 rs) f z n:=by
 unfold zq Ys Wp
 rw[zaq,decide_eq_true_iff,zaL]
 have lk:Rb.Lacks (Rb.lackN (ZH rs f z)) (ZH rs f z):=Rb.lackI_lacks _
 constructor
 . rintro⟨rfl,h⟩
   refine⟨λj hj=>Qj.mp (lk.2 j hj),λy hy e=>lk.1 (Qj.mpr ⟨y,hy,e⟩),λy hy e=>?_⟩
   exact Qj.mp (of_decide_eq_true (h y (zad.mpr ⟨hy,by rw[e];rfl⟩)))
 . rintro⟨h1,h2,h3⟩
   refine⟨(Rb.lackN_eq ⟨λm=>?_,λx hx=>Qj.mpr (h1 x hx)⟩).symm,λy hy=>decide_eq_true ?_⟩
   . obtain⟨y,hy,e⟩:=Qj.mp m
     exact h2 y hy e
   . obtain⟨hy1,hy2⟩:=zad.mp hy
     exact Qj.mpr (h3 y hy1 (by simpa using hy2))
def xC (rs:jb) (f:Str->Option Nat) (n:Nat):List Str:=((rs.map (·.1)).filter λz=>(f z).isNone).filter λz=>zq rs f z n
theorem Kn (rs:jb) (R:Rs Str) (n:Nat):Uf (Q7 rs) (rs.map (·.1)) R n (xC rs (qG R) n):=⟨λx=>by
 unfold xC
 rw[zad,zad,yC]
 constructor
 . rintro⟨⟨a,b⟩,c⟩
   exact⟨a,by simpa using b,c⟩
 . rintro⟨a,b,c⟩
   exact⟨⟨a,by rw[b];rfl⟩,c⟩,zbe.trans zbe⟩
def uZ (CG:Addr):Sp:=λvs H Q _=>∃(g d:Addr) (rs:jb) (z:Str) (f:Str->Option Nat),vs=[.ref g,.ref d,.str z]/\Qh CG H g rs/\qD rs/\rs.length<=14/\z∈rs.map (·.1)/\jn (rs.map (·.1)) H d f/\
 ∀H' l,qo H H'->H l=none->H' l=some (.lst (Zy (ZH rs f z)))->Q (.ref l) H'
def xi (CG:Addr):Sp:=λvs H Q _=>∃(g d:Addr) (rs:jb) (z:Str) (f:Str->Option Nat) (n:Nat),vs=[.ref g,.ref d,.str z,.int (n:Nat)]/\Qh CG H g rs/\qD rs/\rs.length<=14/\z∈rs.map (·.1)/\jn (rs.map (·.1)) H d f/\
 ∀H',qo H H'->Q (.bl (zq rs f z n)) H'
def vh (CG:Addr):Sp:=λvs H Q _=>∃(g d:Addr) (rs:jb) (f:Str->Option Nat) (n:Nat),vs=[.ref g,.ref d,.int (n:Nat)]/\Qh CG H g rs/\qD rs/\rs.length<=14/\jn (rs.map (·.1)) H d f/\
 ∀H' l,qo H H'->H l=none->H' l=some (.lst ((xC rs f n).map V.str))->Q (.ref l) H'
theorem UK {α β:Type} (g:α->Option β) (h:β->V):∀l:List α,(l.filterMap g).map h=l.filterMap λx=>(g x).map h
 | []=>rfl
 | a::l=>by
   rw[zao,zao]
   cases g a with
   | none=>exact UK g h l
   | some b=>rw[tW,UK g h l];rfl
theorem Xu (p:Str->Bool):∀l:List Str,(l.filter p).map V.str=l.filterMap λx=>if p x=true then some (V.str x) else none
 | []=>rfl
 | a::l=>by
   rw[zbv,zao]
   cases p a with
   | false=>exact Xu p l
   | true=>
     rw[if_pos rfl,if_pos rfl,tW,Xu p l]
theorem vR {α:Type} (f:α->V):∀l:List α,l.map f=l.filterMap λx=>some (f x)
 | []=>rfl
 | a::l=>by rw[tW,zao,vR f l]
section
variable {P:Program} {w:World} {K:PySem.W.Frag} {mg:Str->Option Value} {base:Heap}
abbrev uC:List Str:=["ground","numbered","name"]
theorem qa3:qt uC uC (qj Rv):=⟨rfl,rfl,rfl,by decide+kernel,rfl,by decide+kernel,by decide+kernel⟩
theorem RA {f CG:Addr} {fd:FuncData} (F:jI K "numbers_behind" "numbers_behind" Rv f fd) (B:QL mg) (G:QE mg) (T:Qx K mg) (M:GM K mg CG):qm P w K mg base qK 3 f fd uC (uZ CG):=by
 obtain⟨fC,fdC,C⟩:=M.cls
 obtain⟨fR,fdR,hR⟩:=M.fr
 obtain⟨fN,fdN,hN⟩:=M.isn
 have GR:qm P w K mg base qK 2 fR fdR ["self","name"] (Yy CG):=Xf hR.fn C B G T hN
 refine F.okJ qa3 (λvs H Q E h=>?_) (λcdv A outer s H vs Q E hr h=>?_)
 . obtain⟨g,d,rs,z,nf,rfl,_⟩:=h
   rfl
 . obtain⟨g,d,rs,z,nf,rfl,gr,good,le14,hz,hd,q⟩:=h
   have hu:=jU hr
   refine⟨_,qh (qB (Qd (N':=["end","numbered"]) (ix:=[none,some 1]) rfl ⟨rfl,rfl,rfl,rfl,rfl⟩ (qN (vU hR C.cl GR hr (jv 0) (qd (jv 2) qg))) (λC s2 H2 fp pins=>
     ⟨qA (i:=0) (show (["end","numbered"]:List Str).Nodup by decide+kernel) rfl (Or.inl rfl),j7 (Ql (JX hu (jv 0) (jv 1))),qX hu (jv 1) (jv 0) (λ_ _=>rfl)⟩))),?_⟩
   obtain⟨dx,fs,hg,l1,l2⟩:=gr.ins
   obtain⟨r,hr',rfl⟩:=tL.mp hz
   refine⟨_,rfl,g,dx,fs,rfl,hg,l2,_,rfl,g,rs,r,rfl,gr,hr',good.nm r hr',λH1 le s1 hle=>?_⟩
   have s2:qo H (upd H1 le (.lst ((Qu rs r).map V.str))):=s1.trans (ql hle)
   have hl2:upd H1 le (.lst ((Qu rs r).map V.str)) le=some (.lst ((Qu rs r).map V.str)):=qe
   generalize upd H1 le (.lst ((Qu rs r).map V.str))=H2 at s2 hl2
   have hd2:=hd.mono s2
   refine⟨le,rfl,⟨_,.of hl2⟩,λW hW=>?_⟩
   refine J3 (K:=K) (a:=le) (xs:=Qu rs r) (enc:=V.str) (out:=λy=>(nf y).map λn=>V.int (n:Nat)) (rest:=[some (.ref d)]) hW hl2 (qp (zac (Y8 r) (by omega))) ?_ ?_ ?_
   . intro x hx G' s3 R k
     refine⟨_,rfl,_,rfl,d,_,rfl,(hd2.mono s3).get x,_,rfl,k G' λ_ _ h=>h⟩
   . intro x hx v ev G' s3 R k
     have gx:=(hd2.mono s3).get x
     rw[ev]at gx
     exact⟨_,rfl,_,rfl,d,_,rfl,gx,k G' λ_ _ h=>h⟩
   . intro G' s3 hG
     refine q _ W (s2.trans s3) (ju s2 hW) ?_
     rw[hG]
     congr 2
     unfold Zy ZH
     rw[JZ good.nd hr',UK]
abbrev qab:List Str:=["ground","numbered","name","number","bare"]
abbrev Xc:List Str:=["ground","numbered","name","number"]
theorem xy:qt qab Xc (qj Y3):=⟨rfl,rfl,rfl,by decide+kernel,rfl,by decide+kernel,by decide+kernel⟩
theorem KN {f fB fL CG:Addr} {fd fdB fdL:FuncData} (F:jI K "gets_number" "gets_number" Y3 f fd) (B:QL mg) (G:QE mg) (T:Qx K mg) (M:GM K mg CG) (hB:qU K mg "numbers_behind" Rv uC fB fdB) (hL:qU K mg "lacking" QB ["numbers"] fL fdL):qm P w K mg base qK 4 f fd Xc (xi CG):=by
 have GB:qm P w K mg base qK 3 fB fdB uC (uZ CG):=RA hB.fn B G T M
 have GL:qm P w K mg base qK 1 fL fdL ["numbers"] (XZ K):=UG hL.fn
 obtain⟨fC,fdC,C⟩:=M.cls
 obtain⟨fR,fdR,hR⟩:=M.fr
 obtain⟨fN,fdN,hN⟩:=M.isn
 have GR:qm P w K mg base qK 2 fR fdR ["self","name"] (Yy CG):=Xf hR.fn C B G T hN
 refine F.okJ xy (λvs H Q E h=>?_) (λcdv A outer s H vs Q E hr h=>?_)
 . obtain⟨g,d,rs,z,nf,n,rfl,_⟩:=h
   rfl
 . obtain⟨g,d,rs,z,nf,n,rfl,gr,good,le14,hz,hd,q⟩:=h
   have hu:=jU hr
   have r1:qV 1 _:=hr.mono (by decide)
   have r2:qV 2 _:=hr.mono (by decide)
   refine⟨_,qf (qM (qu VE (qH hL GL r1 (by rfl) (qd (qH hB GB hr (by rfl) (qd (jv 0) (qd (jv 1) (qd (jv 2) qg)))) qg)) (jv 3) (qC _)) (qh (qB Qe)) qE)
     (qf (QY (i:=4) (N':=["end","numbered"]) (ix:=[none,some 1]) xy.nd rfl (Or.inl rfl) rfl ⟨rfl,rfl,rfl,rfl,rfl⟩ (qN (vU hR C.cl GR r2 (jv 0) (qd (jv 2) qg))) (λC s2 H2 fp pins=>
       ⟨qA (i:=0) (show (["end","numbered"]:List Str).Nodup by decide+kernel) rfl (Or.inl rfl),j7 (Ql (Ju hu (jv 0) (jv 1))),jv 0⟩))
     (qh (qB (qJ (zZ rfl) (by rfl) T.all boot_all (qd (Qd (N':=["end","number","ground","numbered"]) (ix:=[none,some 3,some 0,some 1]) (te:=YO (Mf K false) (jo 1) (z9 (uZ CG) [] E0 (j3 (jo 2) (j3 (jo 3) (j3 (jo 0) Zc))))) rfl ⟨rfl,rfl,rfl,rfl,rfl⟩ (qN (jv 4)) (λC s2 H2 fp pins=>
       ⟨qA (i:=0) (show (["end","number","ground","numbered"]:List Str).Nodup by decide+kernel) rfl (Or.inl rfl),jL,Qo Jq (jv 1) (qH hB GB hr (by rfl) (qd (jv 2) (qd (jv 3) (qd (jv 0) qg)))) (by with_unfolding_all rfl)⟩)) qg))))),?_⟩
   refine⟨_,rfl,_,rfl,_,rfl,g,d,rs,z,nf,rfl,gr,good,le14,hz,hd,λH1 l1 s1 hl1 hl1'=>?_⟩
   have ln:∀y,(ZH rs nf y).length<=14:=λy=>zac (zaM _ _) (zac (W1 y) le14)
   refine⟨l1,_,rfl,.of hl1',by have:=ln z;omega,λH2 s2=>⟨_,rfl,rfl,_,rfl,?_⟩⟩
   have s12:=s1.trans s2
   by_cases c:Rb.lackN (ZH rs nf z)=n
   . refine qT (by rw[c];simp) ?_
     obtain⟨dx,fs,hg,e1,e2⟩:=(gr.mono s12).ins
     obtain⟨r,hr',rfl⟩:=tL.mp hz
     refine⟨_,rfl,g,dx,fs,rfl,hg,e2,_,rfl,g,rs,r,rfl,gr.mono s12,hr',good.nm r hr',λH3 le s3 hle=>?_⟩
     have s4:qo H (upd H3 le (.lst ((Qu rs r).map V.str))):=s12.trans (s3.trans (ql hle))
     have hl4:upd H3 le (.lst ((Qu rs r).map V.str)) le=some (.lst ((Qu rs r).map V.str)):=qe
     generalize upd H3 le (.lst ((Qu rs r).map V.str))=H4 at s4 hl4
     refine⟨le,rfl,⟨_,.of hl4⟩,λW hW=>?_⟩
     refine J3 (K:=K) (a:=le) (xs:=Qu rs r) (enc:=V.str) (out:=λy=>if (nf y).isNone=true then some (V.str y) else none) (rest:=[some (.ref d)]) hW hl4 (qp (zac (Y8 r) (by omega))) ?_ ?_ ?_
     . intro x hx G' s5 R k
       refine⟨_,rfl,_,rfl,d,_,rfl,((hd.mono s4).mono s5).get x,_,rfl,?_⟩
       have:=k G' λ_ _ h=>h
       cases e:nf x with
       | none=>rw[e]at this;exact this
       | some m=>rw[e]at this;exact this
     . intro x hx v ev G' s5 R k
       have:v=V.str x:=by
         split at ev
         . exact(tN.inj ev).symm
         . cases ev
       subst this
       exact⟨_,rfl,k G' λ_ _ h=>h⟩
     . intro G5 s5 hG
       rw[<-Xu (λy=>(nf y).isNone),<-JZ good.nd hr']at hG
       have hb:G5 W=some (.lst ((Wp rs nf r.1).map V.str)):=hG
       have s45:=s4.trans s5
       refine⟨_,rfl,W,rfl,⟨_,.of hb⟩,λU hU=>?_⟩
       have bl:(Wp rs nf r.1).length<=14:=zac (zas _ _) (zac (W1 r.1) le14)
       refine J3 (K:=K) (a:=W) (xs:=Wp rs nf r.1) (enc:=V.str) (out:=λy=>some (V.bl (decide (n∈ZH rs nf y)))) (rest:=[some (.int (n:Nat)),some (.ref g),some (.ref d)]) hU hb (qp (by omega)) ?_ ?_ ?_
       . intro x hx G' s6 R k
         exact k G' λ_ _ h=>h
       . intro x hx v ev G' s6 R k
         obtain rfl:=tN.inj ev
         have hxN:x∈rs.map (·.1):=QI good.nd _ hz x (zad.mp hx).1
         have sA:=s45.trans s6
         refine⟨_,rfl,_,rfl,_,rfl,_,rfl,g,d,rs,x,nf,rfl,gr.mono sA,good,le14,hxN,hd.mono sA,λH7 l7 s7 hl7 hl7'=>?_⟩
         refine⟨l7,_,rfl,.inl (.of hl7'),rfl,zo _,?_⟩
         rw[Xq]
         exact k H7 s7
       . intro G6 s6 hG6
         rw[<-vR]at hG6
         refine⟨U,(Wp rs nf r.1).map λy=>decide (n∈ZH rs nf y),rfl,.of (by rw[hG6,zaX];rfl),?_⟩
         have:=q G6 (s45.trans s6)
         unfold zq at this
         rw[decide_eq_true c,Bool.true_and]at this
         rw[zcI]
         exact this
   . refine jg (by
       have:¬V.int ((Rb.lackN (ZH rs nf z):Nat):Int)=V.int ((n:Nat):Int):=λe=>c (by have:=V.int.inj e;omega)
       rw[decide_eq_false this];rfl) ?_
     have:=q H2 s12
     unfold zq at this
     rw[decide_eq_false c,zcL]at this
     exact this
end
open PySem L2 PyProof.Rows MLab
def jp (H:Hp) (ps:List Addr) (ls:List (List Str)):Prop:=ps.length=ls.length/\∀(i:Nat) (p:Addr) (l:List Str),ps[i]?=some p->ls[i]?=some l->H p=some (.lst (l.map V.str))
theorem jp.mono {H H':Hp} {ps:List Addr} {ls:List (List Str)} (h:jp H ps ls) (s:qo H H'):jp H' ps ls:=⟨h.1,λi p l e1 e2=>s _ _ (h.2 i p l e1 e2)⟩
theorem jp.nil {H:Hp}:jp H [] []:=⟨rfl,λi p l e=>(nomatch e)⟩
theorem QM {α:Type} {xs:List α} {x y:α} {i:Nat} (h:(xs++[x])[i]?=some y):(i < xs.length/\xs[i]?=some y)\/(i=xs.length/\y=x):=by
 by_cases hi:i < xs.length
 . rw[zaj hi]at h
   exact .inl ⟨hi,h⟩
 . have hi':i=xs.length:=by
     have:=(tw.mp h).1
     rw[tK,zaH]at this
     omega
   subst hi'
   rw[zaf (tE _),zcK]at h
   exact .inr ⟨rfl,(tN.inj h).symm⟩
theorem jp.snoc {H:Hp} {ps:List Addr} {ls:List (List Str)} {p:Addr} {l:List Str} (h:jp H ps ls) (hp:H p=some (.lst (l.map V.str))):jp H (ps++[p]) (ls++[l]):=by
 refine⟨by rw[tK,tK,h.1];rfl,λi p' l' e1 e2=>?_⟩
 rcases QM e1 with ⟨i1,e1⟩ | ⟨i1,rfl⟩
 . rcases QM e2 with ⟨_,e2⟩ | ⟨i2,_⟩
   . exact h.2 i p' l' e1 e2
   . have:=h.1;omega
 . rcases QM e2 with ⟨i2,_⟩ | ⟨_,rfl⟩
   . have:=h.1;omega
   . exact hp
theorem jp.app {H:Hp} {ps qs:List Addr} {ls ms:List (List Str)} (h:jp H ps ls) (k:jp H qs ms):jp H (ps++qs) (ls++ms):=by
 refine⟨by rw[tK,tK,h.1,k.1],λi p l e1 e2=>?_⟩
 by_cases c:i < ps.length
 . rw[zaj c]at e1
   rw[zaj (by rw[<-h.1];exact c)]at e2
   exact h.2 i p l e1 e2
 . rw[zaf (by omega)]at e1
   rw[zaf (by rw[<-h.1];omega)]at e2
   rw[<-h.1]at e2
   exact k.2 _ p l e1 e2
theorem jp.fr {H H':Hp} {ps:List Addr} {ls:List (List Str)} {d:Addr} {kvs:List (qL×V)} (h:jp H ps ls) (hd:H d=some (.dK kvs)) (f:Fr H d H'):jp H' ps ls:=⟨h.1,λi p l e1 e2=>f _ _ (h.2 i p l e1 e2) (λe=>by have:=h.2 i p l e1 e2;rw[e,hd]at this;cases this)⟩
theorem jn.fr {N:List Str} {H H':Hp} {d e:Addr} {f:Str->Option Nat} (h:jn N H d f) (s:Fr H e H') (ne:d≠e):jn N H' d f:=⟨let ⟨kvs,a,b⟩:=h.at_;⟨kvs,s _ _ a ne,b⟩⟩
theorem jn.congr {N:List Str} {H:Hp} {d:Addr} {f g:Str->Option Nat} (h:jn N H d f) (e:∀z,f z=g z):jn N H d g:=⟨let ⟨kvs,a,b,c⟩:=h.at_;⟨kvs,a,λz=>by rw[b z,e z],c⟩⟩
def Ui (CG:Addr) (H:Hp) (g d:Addr):Prop:=∀dx lo rd,H g=some (.ins CG dx [("order",.ref lo),("roads",.ref rd)])->rd≠d
theorem Qh.fr {CG:Addr} {H H':Hp} {a d:Addr} {rs:jb} (h:Qh CG H a rs) (hd:∃kvs:List (qL×V),H d=some (.dK kvs)) (ap:Ui CG H a d) (s:Fr H d H'):Qh CG H' a rs:=by
 obtain⟨dx,lo,rd,kv,h1,h2,h3,h4⟩:=h
 obtain⟨kvs,hd⟩:=hd
 have ne:∀{b:Addr} {o:HO},H b=some o->(∀kv:List (qL×V),o≠.dK kv)->b≠d:=λhb no e=>by rw[e,hd]at hb;exact no kvs (tN.inj hb).symm
 refine⟨dx,lo,rd,kv,s _ _ h1 (ne h1 (λ_=>by simp)),s _ _ h2 (ne h2 (λ_=>by simp)),s _ _ h3 (ap dx lo rd h1),λr hr=>let ⟨q,a,b⟩:=h4 r hr;⟨q,a,s _ _ b (ne b (λ_=>by simp))⟩⟩
def Yn (f:Str->Option Nat) (n:Nat) (ns:List Str):Str->Option Nat:=λz=>if z∈ns then some n else f z
theorem ua {R:Rs Str} {n:Nat} {ns:List Str} (h:∀z∈ns,qG R z=none) (z:Str):Yn (qG R) n ns z=qG (R++[(n,ns)]) z:=by
 unfold Yn
 rw[Jx]
 by_cases c:z∈ns
 . rw[if_pos c,h z c]
   show _=if z∈ns then some n else none
   rw[if_pos c]
 . rw[if_neg c]
   cases qG R z with
   | some m=>rfl
   | none=>
     show none=if z∈ns then some n else none
     rw[if_neg c]
theorem Km {R:Rs Str} {n:Nat} {ls:List (List Str)} {l:List Str}:R++(ls++[l]).map (λx=>(n,x))=(R++ls.map λx=>(n,x))++[(n,l)]:=by
 rw[tI,zct]
 rfl
def xh (CG:Addr):Sp:=λvs H Q _=>∃(g d:Addr) (rs:jb) (R:Rs Str) (n:Nat),vs=[.ref g,.ref d,.int (n:Nat)]/\Qh CG H g rs/\qD rs/\rs.length<=14/\jn (rs.map (·.1)) H d (qG R)/\Ui CG H g d/\
 ∀H' l ps ls,H l=none->H' l=some (.lst (ps.map V.ref))->jp H' ps ls->(∀p∈ps,H p=none)->jn (rs.map (·.1)) H' d (qG (R++ls.map λx=>(n,x)))->Qs (Q7 rs) (rs.map (·.1)) n R (R++ls.map λx=>(n,x))->Fr H d H'->Q (.ref l) H'
def Qf (rs:jb) (f:Str->Option Nat):Nat:=((rs.map (·.1)).filter λz=>(f z).isNone).length
theorem Va {rs:jb} {R:Rs Str} {n:Nat} {ns:List Str} (h:∀z∈ns,z∈rs.map (·.1)/\qG R z=none) (ne:ns≠[]):Qf rs (qG (R++[(n,ns)])) < Qf rs (qG R):=by
 unfold Qf
 generalize rs.map (·.1)=N at*
 have sub:(N.filter λz=>(qG (R++[(n,ns)]) z).isNone).Sublist (N.filter λz=>(qG R z).isNone):=by
   have e:(N.filter λz=>(qG (R++[(n,ns)]) z).isNone)=(N.filter λz=>(qG R z).isNone).filter λz=>(qG (R++[(n,ns)]) z).isNone:=by
     rw[List.filter_filter]
     refine zbQ λz _=>?_
     cases c:(qG (R++[(n,ns)]) z).isNone with
     | false=>simp
     | true=>
       have:=ud (by simpa using c)
       rw[this]
       rfl
   rw[e]
   exact zbe
 obtain⟨z0,r,e0⟩:=zbx ne
 have m0:z0∈ns:=by rw[e0];exact t9
 obtain⟨hz,ez⟩:=h z0 m0
 rcases zbU (N.filter λz=>(qG (R++[(n,ns)]) z).isNone).length (N.filter λz=>(qG R z).isNone).length with c | c
 . exact c
 . have e:=sub.eq_of_length_le c
   have m:z0∈N.filter λz=>(qG R z).isNone:=zad.mpr ⟨hz,by rw[ez];rfl⟩
   rw[<-e]at m
   have:=(zad.mp m).2
   rw[vZ ez m0]at this
   cases this
def Q3 (N:List Str) (H:Hp) (d:Addr):Nat:=match H d with
 | some (.dK kvs)=>(N.filter λz=>(jj kvs (Sum.inr z:qL)).isNone).length
 | _=>0
theorem jn.bare {rs:jb} {H:Hp} {d:Addr} {f:Str->Option Nat} (h:jn (rs.map (·.1)) H d f):Q3 (rs.map (·.1)) H d=Qf rs f:=by
 obtain⟨kvs,a,b,_⟩:=h.at_
 unfold Q3 Qf
 rw[a]
 show ((rs.map (·.1)).filter λz=>(jj kvs (Sum.inr z:qL)).isNone).length=_
 congr 1
 refine zbQ λz _=>?_
 rw[b z]
 cases f z<;>rfl
section
variable {P:Program} {w:World} {K:PySem.W.Frag} {mg:Str->Option Value} {base:Heap}
abbrev Nr:List Str:=["ground","numbered","number","bare"]
abbrev QT:List Str:=["ground","numbered","number"]
theorem vx:qt Nr QT (qj zK):=⟨rfl,rfl,rfl,by decide+kernel,rfl,by decide+kernel,by decide+kernel⟩
theorem x3 {f fB fL fG CG:Addr} {fd fdB fdL fdG:FuncData} (F:jI K "round_of" "round_of" zK f fd) (B:QL mg) (G:QE mg) (T:Qx K mg) (M:GM K mg CG) (hB:qU K mg "numbers_behind" Rv uC fB fdB) (hL:qU K mg "lacking" QB ["numbers"] fL fdL) (hG:qU K mg "gets_number" Y3 Xc fG fdG):qm P w K mg base qK 5 f fd QT (vh CG):=by
 have GG:qm P w K mg base qK 4 fG fdG Xc (xi CG):=KN hG.fn B G T M hB hL
 obtain⟨fC,fdC,C⟩:=M.cls
 obtain⟨fM,fdM,hM⟩:=M.nm
 have GM:qm P w K mg base qK 1 fM fdM ["self"] (Z2 CG):=zN hM.fn C G
 refine F.okJ vx (λvs H Q E h=>?_) (λcdv A outer s H vs Q E hr h=>?_)
 . obtain⟨g,d,rs,nf,n,rfl,_⟩:=h
   rfl
 . obtain⟨g,d,rs,nf,n,rfl,gr,good,le14,hd,q⟩:=h
   have hu:=jU hr
   have r1:qV 1 _:=hr.mono (by decide)
   refine⟨_,qf (QY (i:=3) (N':=["name","numbered"]) (ix:=[none,some 1]) vx.nd rfl (Or.inl rfl) rfl ⟨rfl,rfl,rfl,rfl,rfl⟩ (qN (wO hM C.cl GM r1 (jv 0))) (λC s2 H2 fp pins=>
       ⟨qA (i:=0) (show (["name","numbered"]:List Str).Nodup by decide+kernel) rfl (Or.inl rfl),j7 (Ql (Ju hu (jv 0) (jv 1))),jv 0⟩))
     (qh (qB (Qd (N':=["name","ground","numbered","number"]) (ix:=[none,some 0,some 1,some 2]) rfl ⟨rfl,rfl,rfl,rfl,rfl⟩ (qN (jv 3)) (λC s2 H2 fp pins=>
       ⟨qA (i:=0) (show (["name","ground","numbered","number"]:List Str).Nodup by decide+kernel) rfl (Or.inl rfl),j7 (j2 (qH hG GG hr (by rfl) (qd (jv 1) (qd (jv 2) (qd (jv 0) (qd (jv 3) qg)))))),jv 0⟩)))),?_⟩
   obtain⟨dx,fs,hg,l1,l2⟩:=gr.ins
   refine⟨_,rfl,g,dx,fs,rfl,hg,l1,g,rs,rfl,gr,λln hln=>⟨ln,rfl,⟨_,.of qe⟩,λW hW=>?_⟩⟩
   have s2:qo H (upd H ln (.lst ((rs.map (·.1)).map V.str))):=ql hln
   have hl2:upd H ln (.lst ((rs.map (·.1)).map V.str)) ln=some (.lst ((rs.map (·.1)).map V.str)):=qe
   generalize upd H ln (.lst ((rs.map (·.1)).map V.str))=H2 at s2 hl2 hW
   refine J3 (K:=K) (a:=ln) (xs:=rs.map (·.1)) (enc:=V.str) (out:=λy=>if (nf y).isNone=true then some (V.str y) else none) (rest:=[some (.ref d)]) hW hl2 (qp (by rw[tj];omega)) ?_ ?_ ?_
   . intro x hx G' s5 R k
     refine⟨_,rfl,_,rfl,d,_,rfl,((hd.mono s2).mono s5).get x,_,rfl,?_⟩
     have:=k G' λ_ _ h=>h
     cases e:nf x with
     | none=>rw[e]at this;exact this
     | some m=>rw[e]at this;exact this
   . intro x hx v ev G' s5 R k
     have:v=V.str x:=by
       split at ev
       . exact(tN.inj ev).symm
       . cases ev
     subst this
     exact⟨_,rfl,k G' λ_ _ h=>h⟩
   . intro G5 s5 hG5
     rw[<-Xu (λy=>(nf y).isNone)]at hG5
     have s25:=s2.trans s5
     refine⟨_,rfl,W,rfl,⟨_,.of hG5⟩,λU hU=>?_⟩
     have bl:((rs.map (·.1)).filter λy=>(nf y).isNone).length<=14:=zac (zas _ _) (by rw[tj];exact le14)
     refine J3 (K:=K) (a:=W) (xs:=(rs.map (·.1)).filter λy=>(nf y).isNone) (enc:=V.str) (out:=λy=>if zq rs nf y n=true then some (V.str y) else none) (rest:=[some (.ref g),some (.ref d),some (.int (n:Nat))]) hU hG5 (qp (by omega)) ?_ ?_ ?_
     . intro x hx G' s6 R k
       have sA:=s25.trans s6
       refine⟨_,rfl,_,rfl,_,rfl,_,rfl,g,d,rs,x,nf,n,rfl,gr.mono sA,good,le14,(zad.mp hx).1,hd.mono sA,λH7 s7=>⟨_,rfl,?_⟩⟩
       have:=k H7 s7
       cases e:zq rs nf x n with
       | true=>rw[e]at this;exact this
       | false=>rw[e]at this;exact this
     . intro x hx v ev G' s6 R k
       have:v=V.str x:=by
         split at ev
         . exact(tN.inj ev).symm
         . cases ev
       subst this
       exact⟨_,rfl,k G' λ_ _ h=>h⟩
     . intro G6 s6 hG6
       rw[<-Xu (λy=>zq rs nf y n)]at hG6
       exact q G6 U (s25.trans s6) (ju s25 hU) hG6
abbrev qaa:List Str:=["ground","numbered","number","rounds","names","name"]
theorem YV:qt qaa QT (qj Vy):=⟨rfl,rfl,rfl,by decide+kernel,rfl,by decide+kernel,by decide+kernel⟩
theorem KM {f fB fL fG fR CG:Addr} {fd fdB fdL fdG fdR:FuncData} (F:jI K "give_number" "give_number" Vy f fd) (B:QL mg) (G:QE mg) (T:Qx K mg) (M:GM K mg CG) (hB:qU K mg "numbers_behind" Rv uC fB fdB) (hL:qU K mg "lacking" QB ["numbers"] fL fdL) (hG:qU K mg "gets_number" Y3 Xc fG fdG)
   (hR:qU K mg "round_of" zK QT fR fdR):qm P w K mg base qK 6 f fd QT (xh CG):=by
 have GR:qm P w K mg base qK 5 fR fdR QT (vh CG):=x3 hR.fn B G T M hB hL hG
 refine F.okJ YV (λvs H Q E h=>?_) (λcdv A outer s H vs Q E hr h=>?_)
 . obtain⟨g,d,rs,R,n,rfl,_⟩:=h
   rfl
 . obtain⟨g,d,rs,R,n,rfl,gr,good,le14,hd,ap,q⟩:=h
   have hu:=jU hr
   refine⟨_,qf (qw (i:=3) YV.nd rfl (Or.inl rfl) (jS qg))
     (qf (qw (i:=4) YV.nd rfl (Or.inl rfl) (qH hR GR hr (by rfl) (qd (jv 0) (qd (jv 1) (qd (jv 2) qg)))))
     (qf (Zl PassesOwn.never (qu Yf (qJ jf (by rfl) B.len boot_len (qd (jv 4) qg)) qk (qC _))
       (qf (jd PassesOwn.never rfl (qN (jv 4)) (qA (i:=5) YV.nd rfl (Or.inl rfl)) (qh (jt hu (jv 1) (jv 5) (jv 2) rfl)))
       (qf (jl (zm zaA zbl zbm QQ (jv 3) (qd (jv 4) qg)))
       (qh (qw (i:=4) YV.nd rfl (Or.inl rfl) (qH hR GR hr (by rfl) (qd (jv 0) (qd (jv 1) (qd (jv 2) qg)))))))))
     (qh (qB (jv 3))))),?_⟩
   refine⟨by show 0<=sizeLine;decide,λlr hlr=>?_⟩
   have sr:qo H (upd H lr (.lst [])):=ql hlr
   refine⟨_,rfl,_,rfl,_,rfl,g,d,rs,qG R,n,rfl,gr.mono sr,good,le14,hd.mono sr,λH1 l1 s1 hl1 hl1'=>?_⟩
   obtain⟨kv0,hd0⟩:=hd.isd
   have nrd:lr≠d:=λe=>by rw[e,hd0]at hlr;cases hlr
   refine Za (λσ H'=>∃(v5:Option V) (l:Addr) (ps:List Addr) (ls:List (List Str)),σ=[some (.ref g),some (.ref d),some (.int (n:Nat)),some (.ref lr),some (.ref l),v5]/\Fr H d H'/\H' lr=some (.lst (ps.map V.ref))/\jp H' ps ls/\
       jn (rs.map (·.1)) H' d (qG (R++ls.map λx=>(n,x)))/\H' l=some (.lst ((xC rs (qG (R++ls.map λx=>(n,x))) n).map V.str))/\(∀R',Qs (Q7 rs) (rs.map (·.1)) n (R++ls.map λx=>(n,x)) R'->Qs (Q7 rs) (rs.map (·.1)) n R R')/\l≠lr/\(∀p∈ps,p≠lr)/\H l=none/\(∀p∈ps,H p=none)/\ls.length+Qf rs (qG (R++ls.map λx=>(n,x)))<=14)
     (λ_ H'=>Q3 (rs.map (·.1)) H' d)
     ⟨none,l1,[],[],rfl,λb u hb _=>s1 _ _ (sr _ _ hb),s1 _ _ qe,.nil,?_,?_,?_,(λe=>by rw[e,qe]at hl1;cases hl1),λp h=>(nomatch h),ju sr hl1,λp h=>(nomatch h),?_⟩ ?_ ?_
   . have:=(hd.mono sr).mono s1
     simpa using this
   . simpa using hl1'
   . intro R' h
     simpa using h
   . show 0+_<=14
     rw[zdM]
     refine zac (zas _ _) ?_
     rw[tj]
     exact le14
   . rintro σ H' ⟨v5,l,ps,ls,rfl,fr,hlr',rnds,num,hl,gv,nl,np,l0,p0,bd⟩
     have grH:Qh CG H' g rs:=gr.fr ⟨kv0,hd0⟩ ap fr
     obtain⟨kv1,hd1⟩:=num.isd
     generalize hR1:R++ls.map (λx=>(n,x))=R1 at*
     refine⟨_,rfl,l,_,rfl,.inl (.of hl),_,_,rfl,rfl,_,rfl,?_⟩
     rw[tj]
     generalize hns:xC rs (qG R1) n=ns at*
     have rnd:Uf (Q7 rs) (rs.map (·.1)) R1 n ns:=hns▸Kn rs R1 n
     have nsN:∀z∈ns,z∈rs.map (·.1)/\qG R1 z=none:=λz hz=>let ⟨a,b,_⟩:=(rnd.iff z).mp hz;⟨a,b⟩
     have nsnd:ns.Nodup:=by
       rw[<-hns]
       exact good.nd.sublist (zbe.trans zbe)
     have nslen:ns.length<=14:=by
       have:=JL nsnd λz hz=>(nsN z hz).1
       rw[tj]at this
       omega
     cases c:ns with
     | nil=>
       subst c
       refine qT (by decide) ?_
       refine⟨_,rfl,?_⟩
       have:=gv R1 (.stop rnd)
       rw[<-hR1]at this num
       exact q H' lr ps ls hlr hlr' rnds p0 num this fr
     | cons z0 rest=>
       have ne:ns≠[]:=by rw[c];simp
       rw[<-c]
       clear c
       refine jg (decide_eq_true (by have:=zcH.mpr ne;show (0:Int) < (ns.length:Int);omega)) ?_
       have nld:l≠d:=λe=>by rw[e,hd1]at hl;cases hl
       refine⟨_,rfl,l,rfl,⟨_,.of hl⟩,?_⟩
       refine jr (K:=K) (a:=l) (xs:=ns.map V.str) (λi σ' G'=>∃v5,σ'=[some (.ref g),some (.ref d),some (.int (n:Nat)),some (.ref lr),some (.ref l),v5]/\jn (rs.map (·.1)) G' d (Yn (qG R1) n (ns.take i))/\Fr H' d G')
         ⟨v5,rfl,num.congr λz=>by unfold Yn;rw[zdB,if_neg (by simp)],Fr.refl⟩ (λi σ' G' _ ⟨_,_,_,f⟩=>.of (f _ _ hl nld)) ?_ ?_
       . rintro i y σ' G' hy ⟨v5',rfl,numG,frG⟩
         obtain⟨z,ez,hz,rfl⟩:=j6 hy
         have il:=(tw.mp ez).1
         have nt:z∉ns.take i:=λm=>by
           obtain⟨j,hj⟩:=zbb m
           rw[zcT]at hj
           split at hj
           . have h1:=(tw.mp hj)
             have h2:=(tw.mp ez)
             have:=wu nsnd (h1.2.trans h2.2.symm)
             omega
           . cases hj
         obtain⟨H2,put,num2,o2,e2⟩:=numG.put (n:=n) (nsN z hz).1 (by unfold Yn;rw[if_neg nt];exact(nsN z hz).2) (by rw[tj];exact le14)
         refine⟨_,rfl,_,rfl,_,rfl,d,H2,rfl,put,_,rfl,num2.congr λy=>?_,?_⟩
         . unfold Yn
           rw[tQ,ez]
           by_cases e:y=z
           . subst e;rw[if_pos rfl,if_pos (by simp)]
           . rw[if_neg e]
             by_cases m:y∈ns.take i
             . rw[if_pos m,if_pos (zak _ m)]
             . rw[if_neg m,if_neg (by simp [m,e])]
         . rw[e2]
           exact frG.at_d
       . rintro σ' G' ⟨v5',rfl,numG,frG⟩
         rw[tj,tG (tE _)]at numG
         have numG:=numG.congr (ua λz hz=>(nsN z hz).2)
         have lrG:=frG _ _ hlr' nrd
         have lG:=frG _ _ hl nld
         have rG:=rnds.fr hd1 frG
         have fr2:=fr.trans frG
         have blt:=Va (n:=n) nsN ne
         refine⟨_,rfl,.inl ⟨rfl,_,.of lrG⟩,_,rfl,lr,_,_,rfl,rfl,lrG,by rw[tj,rnds.1];exact qp (by omega),?_⟩
         have e5:ps.map V.ref++[V.ref l]=(ps++[l]).map V.ref:=by rw[tI];rfl
         rw[e5]
         have fr3:Fr H d (upd G' lr (.lst ((ps++[l]).map V.ref))):=fr2.own hlr
         have r3:jp (upd G' lr (.lst ((ps++[l]).map V.ref))) (ps++[l]) (ls++[ns]):=by
           refine jp.snoc ⟨rG.1,λi p x e1 e2=>?_⟩ (by rw[qi nl];exact lG)
           rw[qi (np p (t8 e1))]
           exact rG.2 i p x e1 e2
         have lr3:upd G' lr (.lst ((ps++[l]).map V.ref)) lr=some (.lst ((ps++[l]).map V.ref)):=qe
         have num3:jn (rs.map (·.1)) (upd G' lr (.lst ((ps++[l]).map V.ref))) d (qG (R1++[(n,ns)])):=⟨let ⟨kvs,a,b⟩:=numG.at_;⟨kvs,by rw[qi (Ne.symm nrd)];exact a,b⟩⟩
         generalize upd G' lr (.lst ((ps++[l]).map V.ref))=G3 at fr3 r3 lr3 num3 ⊢
         refine⟨_,rfl,_,rfl,_,rfl,g,d,rs,qG (R1++[(n,ns)]),n,rfl,gr.fr ⟨kv0,hd0⟩ ap fr3,good,le14,num3,λH4 l4 s4 hl4 hl4'=>?_⟩
         have eR:R++(ls++[ns]).map (λx=>(n,x))=R1++[(n,ns)]:=by rw[Km,hR1]
         refine⟨⟨v5',l4,ps++[l],ls++[ns],rfl,fr3.same s4,s4 _ _ lr3,r3.mono s4,?_,?_,?_,(λe=>by rw[e,lr3]at hl4;cases hl4),?_,?_,?_,?_⟩,?_⟩
         . rw[eR];exact num3.mono s4
         . rw[eR];exact hl4'
         . rw[eR];exact λR' h=>gv R' (.more rnd ne h)
         . intro p hp
           rcases tX.mp hp with hp | hp
           . exact np p hp
           . rw[zab.mp hp];exact nl
         . obtain⟨kv3,hd3⟩:=num3.isd
           exact fr3.fresh hd3 hl4
         . intro p hp
           rcases tX.mp hp with hp | hp
           . exact p0 p hp
           . rw[zab.mp hp];exact l0
         . rw[eR,tK,zaH]
           omega
         . rw[(num3.mono s4).bare,num.bare]
           exact blt
   . rintro σ H' Q Q' h ⟨v,e,p,ys,e2,h1,i,j,e3,e4,b,e5,h2⟩
     exact⟨v,e,p,ys,e2,h1,i,j,e3,e4,b,e5,h _ _ h2⟩
end
open PySem L2 PyProof.Rows MLab
theorem w6 {G:Str->List Str} {N:List Str} {n:Nat} {R R':Rs Str} (h:Qs G N n R R'):(R'=R/\Uf G N R n [])\/R.length < R'.length:=by
 induction h with
 | stop r=>exact .inl ⟨rfl,r⟩
 | more r ne k ih=>
   right
   rcases ih with ⟨e,_⟩ | lt
   . rw[e,tK];exact zaJ _
   . rw[tK]at lt
     exact zcu lt
theorem yA {G:Str->List Str} {N:List Str} {n:Nat} {R:Rs Str} (h:Qs G N n R R):Uf G N R n []:=by
 rcases w6 h with ⟨_,r⟩ | lt
 . exact r
 . exact absurd lt (zar _)
structure U2 (N:List Str) (R:Rs Str):Prop where
 sub:∀r∈R,∀z∈r.2,z∈N
 dis:R.Pairwise λr r'=>∀z∈r.2,z∉r'.2
 ne:∀r∈R,r.2≠[]
 srt:∀r∈R,r.2.Sublist N
theorem U2.nil {N:List Str}:U2 N []:=⟨λ_ h=>(nomatch h),zdD.nil,λ_ h=>(nomatch h),λ_ h=>(nomatch h)⟩
theorem U2.more {G:Str->List Str} {N:List Str} {R:Rs Str} {n:Nat} {ns:List Str} (o:U2 N R) (r:Uf G N R n ns) (ne:ns≠[]):U2 N (R++[(n,ns)]):=by
 refine⟨λx hx z hz=>?_,zdA.mpr ⟨o.dis,zcl _ _,λa ha b hb z hz hb'=>?_⟩,λx hx=>?_,λx hx=>?_⟩
 . rcases tX.mp hx with hx | hx
   . exact o.sub x hx z hz
   . rw[zab.mp hx]at hz
     exact((r.iff z).mp hz).1
 . rw[zab.mp hb]at hb'
   exact YK.mp ((r.iff z).mp hb').2.1 a ha hz
 . rcases tX.mp hx with hx | hx
   . exact o.ne x hx
   . rw[zab.mp hx];exact ne
 . rcases tX.mp hx with hx | hx
   . exact o.srt x hx
   . rw[zab.mp hx];exact r.sub
theorem VX {G:Str->List Str} {N:List Str} {n:Nat} {R R':Rs Str} (h:Qs G N n R R'):U2 N R->U2 N R':=by
 induction h with
 | stop r=>exact id
 | more r ne k ih=>exact λo=>ih (o.more r ne)
theorem kq {G:Str->List Str} {N:List Str} {n:Nat} {R R':Rs Str} (h:All G N n R R'):U2 N R->U2 N R':=by
 induction h with
 | stop r=>exact id
 | more g ne k ih=>exact λo=>ih (VX g o)
theorem yB {rs:jb} {n:Nat} {R R':Rs Str} (h:Qs (Q7 rs) (rs.map (·.1)) n R R'):Qf rs (qG R')<=Qf rs (qG R)/\(R'≠R->Qf rs (qG R') < Qf rs (qG R)):=by
 induction h with
 | stop r=>exact⟨tE _,λe=>absurd rfl e⟩
 | more r ne k ih=>
   have:=Va (λz hz=>let ⟨a,b,_⟩:=(r.iff z).mp hz;⟨a,b⟩) ne (n:=n) (rs:=rs)
   exact⟨by omega,λ_=>by omega⟩
theorem WK {N:List Str}:∀{R:Rs Str},U2 N R->R.length<=N.length:=λ{R} o=>by
 have key:∀R:Rs Str,(R.Pairwise λr r'=>∀z∈r.2,z∉r'.2)->(∀r∈R,r.2≠[])->∃zs:List Str,zs.length=R.length/\zs.Nodup/\∀z∈zs,∃r∈R,z∈r.2:=by
   intro R
   induction R with
   | nil=>exact λ_ _=>⟨[],rfl,zbo,λz h=>(nomatch h)⟩
   | cons r R ih=>
     intro p ne
     obtain⟨zs,l,nd,sub⟩:=ih (zdI.mp p).2 (λx hx=>ne x (tZ _ hx))
     obtain⟨z,t,e⟩:=zbx (ne r t9)
     have hz:z∈r.2:=by rw[e];exact t9
     refine⟨z::zs,by simp [l],zal.mpr ⟨λm=>?_,nd⟩,λy hy=>?_⟩
     . obtain⟨r',hr',hz'⟩:=sub z m
       exact(zdI.mp p).1 r' hr' z hz hz'
     . rcases tY.mp hy with rfl | hy
       . exact⟨r,t9,hz⟩
       . obtain⟨r',hr',h⟩:=sub y hy
         exact⟨r',tZ _ hr',h⟩
 obtain⟨zs,l,nd,sub⟩:=key R o.dis o.ne
 rw[<-l]
 exact JL nd λz hz=>let ⟨r,hr,h⟩:=sub z hz;o.sub r hr z h
def vt (CG:Addr):Sp:=λvs H Q _=>∃(g d:Addr) (rs:jb),vs=[.ref g,.ref d]/\Qh CG H g rs/\qD rs/\rs.length<=14/\jn (rs.map (·.1)) H d (qG [])/\Ui CG H g d/\
 ∀H' l ps R,H l=none->H' l=some (.lst (ps.map V.ref))->jp H' ps (R.map (·.2))->(∀p∈ps,H p=none)->jn (rs.map (·.1)) H' d (qG R)->All (Q7 rs) (rs.map (·.1)) 0 [] R->Fr H d H'->Q (.ref l) H'
section
variable {P:Program} {w:World} {K:PySem.W.Frag} {mg:Str->Option Value} {base:Heap}
abbrev Nx:List Str:=["ground","numbered","rounds","number","more"]
abbrev WH:List Str:=["ground","numbered"]
theorem Zt:qt Nx WH (qj WC):=⟨rfl,rfl,rfl,by decide+kernel,rfl,by decide+kernel,by decide+kernel⟩
theorem wm {f fB fL fG fR fV CG:Addr} {fd fdB fdL fdG fdR fdV:FuncData} (F:jI K "give_numbers" "give_numbers" WC f fd) (B:QL mg) (G:QE mg) (T:Qx K mg) (M:GM K mg CG) (hB:qU K mg "numbers_behind" Rv uC fB fdB) (hL:qU K mg "lacking" QB ["numbers"] fL fdL) (hG:qU K mg "gets_number" Y3 Xc fG fdG)
   (hR:qU K mg "round_of" zK QT fR fdR) (hV:qU K mg "give_number" Vy QT fV fdV):qm P w K mg base qK 7 f fd WH (vt CG):=by
 have GV:qm P w K mg base qK 6 fV fdV QT (xh CG):=KM hV.fn B G T M hB hL hG hR
 refine F.okJ Zt (λvs H Q E h=>?_) (λcdv A outer s H vs Q E hr h=>?_)
 . obtain⟨g,d,rs,rfl,_⟩:=h
   rfl
 . obtain⟨g,d,rs,rfl,gr,good,le14,hd,ap,q⟩:=h
   have hu:=jU hr
   refine⟨_,qf (qw (i:=2) Zt.nd rfl (Or.inl rfl) (jS qg))
     (qf (qw (i:=3) Zt.nd rfl (Or.inl rfl) qk)
     (qf (qw (i:=4) Zt.nd rfl (Or.inl rfl) (qH hV GV hr (by rfl) (qd (jv 0) (qd (jv 1) (qd (jv 3) qg)))))
     (qf (Zl PassesOwn.never (qu Yf (qJ jf (by rfl) B.len boot_len (qd (jv 4) qg)) qk (qC _))
       (qf (jl (zm zaA zcc zcd zQ (jv 2) (qd (jv 4) qg)))
       (qf (wJ (i:=3) Zt.nd rfl (Or.inl rfl) qk wU)
       (qh (qw (i:=4) Zt.nd rfl (Or.inl rfl) (qH hV GV hr (by rfl) (qd (jv 0) (qd (jv 1) (qd (jv 3) qg)))))))))
     (qh (qB (jv 2)))))),?_⟩
   refine⟨by show 0<=sizeLine;decide,λlr hlr=>?_⟩
   have sr:qo H (upd H lr (.lst [])):=ql hlr
   obtain⟨kv0,hd0⟩:=hd.isd
   have nrd:lr≠d:=λe=>by rw[e,hd0]at hlr;cases hlr
   have apm:∀{H':Hp},Fr H d H'->Ui CG H' g d:=λfr dx lo rd h=>by
     obtain⟨dx',lo',rd',kvs',h1,_⟩:=gr
     have:=fr _ _ h1 (λe=>by rw[e,hd0]at h1;cases h1)
     rw[h]at this
     cases this
     exact ap _ _ _ h1
   have fr0:Fr H d (upd H lr (.lst [])):=Fr.refl.own hlr
   refine⟨_,rfl,_,rfl,_,rfl,g,d,rs,[],0,rfl,gr.mono sr,good,le14,hd.mono sr,apm fr0,λH1 l1 ps1 ls1 hl1 hl1' rn1 pn1 num1 gv1 fr1=>?_⟩
   refine Za (λσ H'=>∃(l:Addr) (n:Nat) (ps ps1:List Addr) (R:Rs Str) (ls:List (List Str)),σ=[some (.ref g),some (.ref d),some (.ref lr),some (.int (n:Nat)),some (.ref l)]/\Fr H d H'/\H' lr=some (.lst (ps.map V.ref))/\jp H' ps (R.map (·.2))/\H' l=some (.lst (ps1.map V.ref))/\jp H' ps1 ls/\
       jn (rs.map (·.1)) H' d (qG (R++ls.map λx=>(n,x)))/\Qs (Q7 rs) (rs.map (·.1)) n R (R++ls.map λx=>(n,x))/\(∀R',All (Q7 rs) (rs.map (·.1)) n R R'->All (Q7 rs) (rs.map (·.1)) 0 [] R')/\l≠lr/\(∀p∈ps,p≠lr/\H p=none)/\(∀p∈ps1,p≠lr/\H p=none)/\U2 (rs.map (·.1)) R)
     (λσ H'=>Q3 (rs.map (·.1)) H' d*2+(match σ with | [_,_,_,_,some (.ref l)]=>(match H' l with | some (.lst (_::_))=>1 | _=>0) | _=>0))
     ⟨l1,0,[],ps1,[],ls1,rfl,fr0.trans fr1,fr1 _ _ qe nrd,.nil,hl1',rn1,num1,gv1,λR' h=>h,(λe=>by rw[e,qe]at hl1;cases hl1),λp h=>(nomatch h),?_,.nil⟩ ?_ ?_
   . intro p hp
     have h1:=pn1 p hp
     have h2:p≠lr:=λe=>by rw[e,qe]at h1;cases h1
     exact⟨h2,by rw[qi h2]at h1;exact h1⟩
   . rintro σ H' ⟨l,n,ps,ps1,R,ls,rfl,fr,hlr',rnds,hl,rn,num,gv,al,nl,np,np1,od⟩
     obtain⟨kv1,hd1⟩:=num.isd
     have od':=VX gv od
     have ol:=WK od'
     rw[tK,tj,tj]at ol
     refine⟨_,rfl,l,_,rfl,.inl (.of hl),_,_,rfl,rfl,_,rfl,?_⟩
     rw[tj]
     cases c:ls with
     | nil=>
       subst c
       have e0:ps1=[]:=zaz rn.1
       subst e0
       rw[zco,zap]at gv num
       refine qT (by decide) ⟨_,rfl,?_⟩
       exact q H' lr ps R hlr hlr' rnds (λp hp=>(np p hp).2) num (al R (.stop (yA gv))) fr
     | cons x0 rest=>
       have ne:ls≠[]:=by rw[c];simp
       clear c
       have lp:ps1.length=ls.length:=rn.1
       have pos:=zcH.mpr ne
       refine jg (decide_eq_true (by show (0:Int) < (ps1.length:Int);omega)) ?_
       refine⟨_,rfl,.inl ⟨rfl,_,.of hlr'⟩,_,rfl,lr,l,_,_,rfl,rfl,hlr',hl,?_,?_⟩
       . rw[tj,tj,rnds.1,tj,lp]
         exact zag (qp (by omega))
       . have e5:ps.map V.ref++ps1.map V.ref=(ps++ps1).map V.ref:=by rw[tI]
         rw[e5]
         have fr3:Fr H d (upd H' lr (.lst ((ps++ps1).map V.ref))):=fr.own hlr
         have lr3:upd H' lr (.lst ((ps++ps1).map V.ref)) lr=some (.lst ((ps++ps1).map V.ref)):=qe
         have r3:jp (upd H' lr (.lst ((ps++ps1).map V.ref))) (ps++ps1) ((R++ls.map λx=>(n,x)).map (·.2)):=by
           have ee:(R++ls.map λx=>(n,x)).map (·.2)=R.map (·.2)++ls:=by
             rw[tI,zaX]
             congr 1
             exact List.map_id ls
           rw[ee]
           refine jp.app ⟨rnds.1,λi p x e1 e2=>?_⟩ ⟨rn.1,λi p x e1 e2=>?_⟩
           . rw[qi (np p (t8 e1)).1]
             exact rnds.2 i p x e1 e2
           . rw[qi (np1 p (t8 e1)).1]
             exact rn.2 i p x e1 e2
         have num3:jn (rs.map (·.1)) (upd H' lr (.lst ((ps++ps1).map V.ref))) d (qG (R++ls.map λx=>(n,x))):=⟨let ⟨kvs,a,b⟩:=num.at_;⟨kvs,by rw[qi (Ne.symm nrd)];exact a,b⟩⟩
         have neR:R++ls.map (λx=>(n,x))≠R:=λe=>by
           have:=congrArg zaD e
           rw[tK,tj]at this
           omega
         generalize R++ls.map (λx=>(n,x))=R1 at*
         generalize upd H' lr (.lst ((ps++ps1).map V.ref))=G3 at fr3 r3 lr3 num3 ⊢
         obtain⟨kv3,hd3⟩:=num3.isd
         refine⟨_,rfl,_,_,rfl,rfl,?_⟩
         refine⟨_,rfl,_,rfl,_,rfl,g,d,rs,R1,n+1,rfl,gr.fr ⟨kv0,hd0⟩ ap fr3,good,le14,num3,apm fr3,λH4 l4 ps4 ls4 hl4 hl4' rn4 pn4 num4 gv4 fr4=>?_⟩
         refine⟨⟨l4,n+1,ps++ps1,ps4,R1,ls4,rfl,fr3.trans fr4,fr4 _ _ lr3 nrd,r3.fr hd3 fr4,hl4',rn4,num4,gv4,λR' h=>al R' (.more gv neR h),(λe=>by rw[e,lr3]at hl4;cases hl4),?_,?_,od'⟩,?_⟩
         . intro p hp
           rcases tX.mp hp with hp | hp
           . exact np p hp
           . exact np1 p hp
         . intro p hp
           have h1:=pn4 p hp
           refine⟨(λe=>by rw[e,lr3]at h1;cases h1),?_⟩
           cases h2:H p with
           | none=>rfl
           | some u=>
             by_cases c:p=d
             . rw[c,hd3]at h1;cases h1
             . rw[fr3 _ _ h2 c]at h1;cases h1
         . show Q3 (rs.map (·.1)) H4 d*2+(match H4 l4 with | some (.lst (_::_))=>1 | _=>0) < Q3 (rs.map (·.1)) H' d*2+(match H' l with | some (.lst (_::_))=>1 | _=>0)
           have gb:=yB gv4
           rw[num4.bare,num.bare,hl4',hl]
           obtain⟨p1,t1,e1⟩:=List.exists_cons_of_length_pos (by omega:0 < ps1.length)
           rw[e1]
           show _ < Qf rs (qG R1)*2+1
           cases ls4 with
           | nil=>
             have e0:ps4=[]:=zaz rn4.1
             rw[e0]
             show _+0 < _
             have:=gb.1
             omega
           | cons x4 t4=>
             have:=gb.2 λe=>by
               have:=congrArg zaD e
               rw[tK,tj]at this
               simp at this
             have le1:(match (some (HO.lst (ps4.map V.ref)):Option HO) with | some (.lst (_::_))=>1 | _=>0)<=1:=by split<;>omega
             omega
   . rintro σ H' Q Q' h ⟨v,e,p,ys,e2,h1,i,j,e3,e4,b,e5,h2⟩
     exact⟨v,e,p,ys,e2,h1,i,j,e3,e4,b,e5,h _ _ h2⟩
end
open PySem L2 PyProof.Rows MLab
def XJ (R:Rs Str) (i:Nat):Str->Option Nat:=λz=>(qG (R.take i) z).map λ_=>Q6 R z
theorem UA {N:List Str} {R:Rs Str} (o:U2 N R) {i:Nat} {r:Nat×List Str} {z:Str} (hr:R[i]?=some r) (hz:z∈r.2):Q6 R z=i:=by
 obtain⟨hi,er⟩:=tw.mp hr
 unfold Q6
 rw[List.findIdx_eq hi]
 refine⟨by rw[er];exact decide_eq_true hz,λj hj=>decide_eq_false λm=>?_⟩
 have:=zaK.mp o.dis j i (by omega) hi hj z m
 rw[er]at this
 exact this hz
theorem Vm {N:List Str} {R:Rs Str} (o:U2 N R) {i:Nat} {r:Nat×List Str} {z:Str} (hr:R[i]?=some r) (hz:z∈r.2):XJ R i z=none:=by
 unfold XJ
 have:qG (R.take i) z=none:=YK.mpr λx hx m=>by
   obtain⟨j,hj⟩:=zbb hx
   rw[zcT]at hj
   split at hj
   . have h1:=UA o hj m
     have h2:=UA o hr hz
     omega
   . cases hj
 rw[this]
 rfl
theorem kF {N:List Str} {R:Rs Str} (o:U2 N R) {i:Nat} {r:Nat×List Str} (hr:R[i]?=some r) (z:Str):Yn (XJ R i) i r.2 z=XJ R (i+1) z:=by
 unfold Yn
 by_cases c:z∈r.2
 . rw[if_pos c]
   have n:=Vm o hr c
   unfold XJ at n ⊢
   have n':qG (R.take i) z=none:=by
     cases e:qG (R.take i) z with
     | none=>rfl
     | some m=>rw[e]at n;cases n
   rw[tQ,hr]
   show _=(qG (R.take i++[(r.1,r.2)]) z).map _
   rw[vZ n' c,UA o hr c]
   rfl
 . rw[if_neg c]
   unfold XJ
   rw[tQ,hr]
   show _=(qG (R.take i++[(r.1,r.2)]) z).map _
   rw[Jx]
   cases qG (R.take i) z with
   | some m=>rfl
   | none=>
     show _=Option.map _ (if z∈r.2 then some r.1 else none)
     rw[if_neg c]
theorem y2 (R:Rs Str) (z:Str):XJ R R.length z=(qG R z).map λ_=>Q6 R z:=by
 unfold XJ
 rw[tG (tE _)]
def QH (rs:jb) (R:Rs Str) (z:Str):List V:=match qG R z with
 | some n=>[.str "number",.int (n:Nat),.int (Q6 R z:Nat)]
 | none=>[.str "endless",.int (Rb.setN (ZH rs (qG R) z):Nat)]
structure jA (H:Hp) (D:Addr) (rs:jb) (R:Rs Str):Prop where
 at_:∃kvs:List (qL×V),H D=some (.dK kvs)/\kvs.map (·.1)=(rs.map (·.1)).map Sum.inr/\∀r∈rs,∃t,jj kvs (Sum.inr r.1:qL)=some (.ref t)/\H t=some (.tup (QH rs R r.1))
theorem jA.mono {H H':Hp} {D:Addr} {rs:jb} {R:Rs Str} (h:jA H D rs R) (s:qo H H'):jA H' D rs R:=⟨let ⟨kvs,a,b,c⟩:=h.at_;⟨kvs,s _ _ a,b,λr hr=>let ⟨t,u,v⟩:=c r hr;⟨t,u,s _ _ v⟩⟩⟩
theorem vf:∀(n:Nat) (L:List Nat),(∀m,m<=n->m∈L)->n*(n+1)<=2*L.sum
 | 0,_,_=>by simp
 | n+1,L,h=>by
   have hm:=h (n+1) (tE _)
   have ih:=vf n (L.erase (n+1)) λm hm'=>(zbS (by omega)).mpr (h m (by omega))
   have es:L.sum=(n+1)+(L.erase (n+1)).sum:=by
     have:=(List.perm_cons_erase hm).sum_nat
     rw[this,zaU]
   rw[es]
   have:(n+1)*(n+1+1)=n*(n+1)+2*(n+1):=by
     rw[Nat.mul_comm,<-Nat.add_mul]
   omega
theorem Vk {α:Type} {f g:α->Nat}:∀{l:List α},(∀x∈l,f x<=g x)->(l.map f).sum<=(l.map g).sum
 | [],_=>tE _
 | a::l,h=>by
   rw[tW,tW,zaU,zaU]
   have:=h a t9
   have:=Vk (l:=l) λx hx=>h x (tZ _ hx)
   omega
theorem NV {rs:jb} (hn:(rs.map (·.1)).Nodup) (z:Str):(Q7 rs z).Nodup:=by
 unfold Q7
 split
 . exact hn.sublist zbe
 . exact zbo
theorem Xh {rs:jb} (good:qD rs) {num:Str->Option Nat} {stp:Str->Nat} (L:Ws (Q7 rs) (·∈rs.map (·.1)) num stp) {x:Str} {n:Nat} (hx:x∈rs.map (·.1)) (e:num x=some n):n<=8:=by
 have h1:∀m,m<=n->m∈rs.map λr=>(num r.1).getD 0:=λm hm=>by
   rcases zbU m n with c | c
   . obtain⟨y,hy,ey,_⟩:=L.n1 hx e c
     obtain⟨r,hr,rfl⟩:=tL.mp (L.cl hx hy)
     exact tL.mpr ⟨r,hr,by rw[ey];rfl⟩
   . have:m=n:=by omega
     subst this
     obtain⟨r,hr,rfl⟩:=tL.mp hx
     exact tL.mpr ⟨r,hr,by rw[e];rfl⟩
 have h2:=vf n _ h1
 have h3:(rs.map λr=>(num r.1).getD 0).sum<=(rs.map λr=>r.2.length).sum:=Vk λr hr=>by
   cases c:num r.1 with
   | none=>exact zat _
   | some m=>
     show m<=_
     have hr':r.1∈rs.map (·.1):=tL.mpr ⟨r,hr,rfl⟩
     have:(zaa m).length<=((Q7 rs r.1).filterMap num).length:=JL zcz λj hj=>by
       obtain⟨y,hy,ey,_⟩:=L.n1 hr' c (zaQ.mp hj)
       exact zaF.mpr ⟨y,hy,ey⟩
     rw[zam]at this
     have h4:=zaM num (Q7 rs r.1)
     have h5:(Q7 rs r.1).length<=r.2.length:=JL (NV good.nd _) λy hy=>(vW good hr).mp hy
     omega
 have h4:=good.few
 rcases zbU 8 n with c | c
 . have:9*10<=n*(n+1):=Nat.mul_le_mul c (by omega)
   omega
 . exact c
def Zd (CG:Addr):Sp:=λvs H Q _=>∃(g:Addr) (rs:jb),vs=[.ref g]/\Qh CG H g rs/\qD rs/\rs.length<=14/\
 ∀H' D R,qo H H'->H D=none->jA H' D rs R->All (Q7 rs) (rs.map (·.1)) 0 [] R->Q (.ref D) H'
section
variable {P:Program} {w:World} {K:PySem.W.Frag} {mg:Str->Option Value} {base:Heap}
abbrev nLb:List Str:=["ground","numbered","steps","step","names","name","labels"]
theorem Vr:qt nLb ["ground"] (qj JD):=⟨rfl,rfl,rfl,by decide+kernel,rfl,by decide+kernel,by decide+kernel⟩
structure Mc (K:PySem.W.Frag) (mg:Str->Option Value):Prop where
 lack:∃f fd,qU K mg "lacking" QB ["numbers"] f fd
 seto:∃f fd,qU K mg "set_of" zJ ["numbers"] f fd
 nb:∃f fd,qU K mg "numbers_behind" Rv uC f fd
 gets:∃f fd,qU K mg "gets_number" Y3 Xc f fd
 round:∃f fd,qU K mg "round_of" zK QT f fd
 give:∃f fd,qU K mg "give_number" Vy QT f fd
 gives:∃f fd,qU K mg "give_numbers" WC WH f fd
 labels:∃f fd,qU K mg "labels_of" JD ["ground"] f fd
theorem yd {f CG:Addr} {fd:FuncData} (F:jI K "labels_of" "labels_of" JD f fd) (B:QL mg) (G:QE mg) (T:Qx K mg) (M:GM K mg CG) (Y:Mc K mg):qm P w K mg base qK 8 f fd ["ground"] (Zd CG):=by
 obtain⟨fL,fdL,hL⟩:=Y.lack
 obtain⟨fS,fdS,hS⟩:=Y.seto
 obtain⟨fB,fdB,hB⟩:=Y.nb
 obtain⟨fG,fdG,hG⟩:=Y.gets
 obtain⟨fR,fdR,hR⟩:=Y.round
 obtain⟨fV,fdV,hV⟩:=Y.give
 obtain⟨fW,fdW,hW⟩:=Y.gives
 have GW:qm P w K mg base qK 7 fW fdW WH (vt CG):=wm hW.fn B G T M hB hL hG hR hV
 have GB:qm P w K mg base qK 3 fB fdB uC (uZ CG):=RA hB.fn B G T M
 have GS:qm P w K mg base qK 1 fS fdS ["numbers"] (Wu K):=VG hS.fn
 obtain⟨fC,fdC,C⟩:=M.cls
 obtain⟨fM,fdM,hM⟩:=M.nm
 have GM:qm P w K mg base qK 1 fM fdM ["self"] (Z2 CG):=zN hM.fn C G
 refine F.okJ Vr (λvs H Q E h=>?_) (λcdv A outer s H vs Q E hr h=>?_)
 . obtain⟨g,rs,rfl,_⟩:=h
   rfl
 . obtain⟨g,rs,rfl,gr,good,le14,q⟩:=h
   have hu:=jU hr
   have r1:qV 1 _:=hr.mono (by decide)
   have r3:qV 3 _:=hr.mono (by decide)
   refine⟨_,qf (qw (i:=1) Vr.nd rfl (Or.inl rfl) Qn)
     (qf (qw (i:=2) Vr.nd rfl (Or.inl rfl) Qn)
     (qf (jd PassesOwn.never rfl (YG (by rfl) T.enu (qd (qH hW GW hr (by rfl) (qd (jv 0) (qd (jv 1) qg))) qg)) (ZU rfl (jx (qA (i:=3) Vr.nd rfl (Or.inl rfl)) (jx (qA (i:=4) Vr.nd rfl (Or.inl rfl)) JQ)))
       (qh (jd PassesOwn.never rfl (qN (jv 4)) (qA (i:=5) Vr.nd rfl (Or.inl rfl)) (qh (jt hu (jv 2) (jv 5) (jv 3) rfl)))))
     (qf (qw (i:=6) Vr.nd rfl (Or.inl rfl) Qn)
     (qf (jd PassesOwn.never rfl (qN (wO hM C.cl GM r1 (jv 0))) (qA (i:=5) Vr.nd rfl (Or.inl rfl))
       (qh (qM (Ql (JX hu (jv 5) (jv 1)))
         (qh (jt hu (jv 6) (jv 5) (Qm (qd qR (qd (qX hu (jv 1) (jv 5) (λ_ _=>rfl)) (qd (qX hu (jv 2) (jv 5) (λ_ _=>rfl)) qg)))) rfl))
         (qh (jt hu (jv 6) (jv 5) (Qm (qd qR (qd (qH hS GS r1 (by rfl) (qd (qH hB GB r3 (by rfl) (qd (jv 0) (qd (jv 1) (qd (jv 5) qg)))) qg)) qg))) rfl)))))
     (qh (qB (jv 6))))))),?_⟩
   intro d hd st hst
   have s1:qo H (upd H d (.dK [])):=ql hd
   have s2:qo H (upd (upd H d (.dK [])) st (.dK [])):=s1.trans (ql hst)
   have hd2:upd (upd H d (.dK [])) st (.dK []) d=some (.dK []):=qv qe hst
   have hst2:upd (upd H d (.dK [])) st (.dK []) st=some (.dK []):=qe
   have nds:d≠st:=λe=>by rw[<-e,qe]at hst;cases hst
   have hs0:H st=none:=ju s1 hst
   generalize upd (upd H d (.dK [])) st (.dK [])=H2 at s2 hd2 hst2
   have num0:∀{a:Addr},H2 a=some (.dK [])->jn (rs.map (·.1)) H2 a (qG []):=λh=>⟨[],h,λz=>rfl,zbo,λk h=>(nomatch h)⟩
   have ap:∀{H':Hp} {a:Addr},qo H H'->H a=none->Ui CG H' g a:=λsH ha dx lo rd h=>by
     obtain⟨dx',lo',rd',kvs',h1,_,h3,_⟩:=gr
     have:=sH _ _ h1
     rw[h]at this
     cases this
     exact λe=>by rw[e,ha]at h3;cases h3
   refine⟨_,rfl,_,rfl,g,d,rs,rfl,gr.mono s2,good,le14,num0 hd2,ap s2 hd,λH3 l3 ps R hl3 hl3' rnds _ num all fr3=>?_⟩
   have od:=kq all .nil
   have oL:=WK od
   rw[tj]at oL
   have s3:qo H H3:=λb u h=>fr3 b u (s2 _ _ h) (qr h hd)
   have st3:H3 st=some (.dK []):=fr3 _ _ hst2 (Ne.symm nds)
   obtain⟨kvd,hd3⟩:=num.isd
   have nl3:l3≠st:=λe=>by rw[e,hst2]at hl3;cases hl3
   have L:=VQ (QI good.nd) all
   refine⟨l3,rfl,⟨_,.of hl3'⟩,?_⟩
   refine zr (K:=K) (a:=l3) (xs:=ps.map V.ref) (λi σ' G'=>∃v3 v4 v5,σ'=[some (.ref g),some (.ref d),some (.ref st),v3,v4,v5,none]/\jn (rs.map (·.1)) G' st (XJ R i)/\Fr H3 st G')
     ⟨none,none,none,rfl,⟨[],st3,λz=>rfl,zbo,λk h=>(nomatch h)⟩,Fr.refl⟩ (λi σ' G' _ ⟨_,_,_,_,_,f⟩=>.of (f _ _ hl3' nl3)) ?_ ?_
   . rintro i x σ' G' p hx hp ⟨v3,v4,v5,rfl,UH,frS⟩
     rw[tH]at hx
     cases ep:ps[i]? with
     | none=>rw[ep]at hx;cases hx
     | some pi=>
       rw[ep]at hx
       obtain rfl:=(tN.inj hx).symm
       have li:i < R.length:=by
         have:=(tw.mp ep).1
         have:=rnds.1
         rw[tj]at this
         omega
       obtain⟨r,er⟩:∃r,R[i]?=some r:=⟨_,tF li⟩
       have hpi:=rnds.2 i pi r.2 ep (by rw[tH,er];rfl)
       have npi:pi≠st:=λe=>by rw[e,st3]at hpi;cases hpi
       have sp:qo G' (upd G' p (.tup [.int (i:Nat),V.ref pi])):=ql hp
       have frp:Fr H3 st (upd G' p (.tup [.int (i:Nat),V.ref pi])):=frS.same sp
       have rN:∀z∈r.2,z∈rs.map (·.1):=od.sub r (t8 er)
       refine⟨p,_,rfl,.of qe,rfl,_,_,rfl,_,_,rfl,rfl,?_⟩
       have hpp:∀{G2:Hp},Fr H3 st G2->G2 pi=some (.lst (r.2.map V.str)):=λf=>f _ _ hpi npi
       have num1:=UH.mono sp
       generalize upd G' p (.tup [.int (i:Nat),V.ref pi])=G1 at sp frp num1
       refine⟨_,rfl,pi,rfl,⟨_,.of (hpp frp)⟩,?_⟩
       have rnd:r.2.Nodup:=good.nd.sublist (od.srt r (t8 er))
       refine jr (K:=K) (a:=pi) (xs:=r.2.map V.str) (λj σ'' G2=>∃v5,σ''=[some (.ref g),some (.ref d),some (.ref st),some (.int (i:Nat)),some (.ref pi),v5,none]/\jn (rs.map (·.1)) G2 st (Yn (XJ R i) i (r.2.take j))/\Fr H3 st G2)
         ⟨v5,rfl,num1.congr λz=>by unfold Yn;rw[zdB,if_neg (by simp)],frp⟩ (λj σ'' G2 _ ⟨_,_,_,f⟩=>.of (hpp f)) ?_ ?_
       . rintro j y σ'' G2 hy ⟨v5',rfl,numG,frG⟩
         obtain⟨z,ez,hz,rfl⟩:=j6 hy
         by_cases nt:z∈r.2.take j
         . exfalso
           obtain⟨j',hj⟩:=zbb nt
           rw[zcT]at hj
           split at hj
           . have h1:=(tw.mp hj)
             have h2:=(tw.mp ez)
             have:=wu rnd (h1.2.trans h2.2.symm)
             omega
           . cases hj
         . obtain⟨H4,put,num4,o4,e4⟩:=numG.put (n:=i) (rN z hz) (by unfold Yn;rw[if_neg nt];exact Vm od er hz) (by rw[tj];exact le14)
           refine⟨_,rfl,_,rfl,_,rfl,st,H4,rfl,put,_,rfl,num4.congr λy=>?_,?_⟩
           . unfold Yn
             rw[tQ,ez]
             by_cases e:y=z
             . subst e;rw[if_pos rfl,if_pos (by simp)]
             . rw[if_neg e]
               by_cases m:y∈r.2.take j
               . rw[if_pos m,if_pos (zak _ m)]
               . rw[if_neg m,if_neg (by simp [m,e])]
           . rw[e4]
             exact frG.at_d
       . rintro σ'' G2 ⟨v5',rfl,numG,frG⟩
         rw[tj,tG (tE _)]at numG
         exact⟨_,_,_,rfl,numG.congr (kF od er),frG⟩
   . rintro σ' G' ⟨v3,v4,v5,rfl,UH,frS⟩
     rw[tj,rnds.1,tj]at UH
     have UH:=UH.congr (y2 R)
     have sG:qo H G':=λb u h=>frS _ _ (s3 _ _ h) (qr h hs0)
     have numD:jn (rs.map (·.1)) G' d (qG R):=num.fr frS nds
     intro D hD
     have sD:qo G' (upd G' D (.dK [])):=ql hD
     have hD0:H D=none:=ju sG hD
     have hDD:upd G' D (.dK []) D=some (.dK []):=qe
     generalize upd G' D (.dK [])=G1 at sD hDD
     obtain⟨dx,fs,hg,l1,l2⟩:=((gr.mono sG).mono sD).ins
     refine⟨_,rfl,g,dx,fs,rfl,hg,l1,g,rs,rfl,(gr.mono sG).mono sD,λln hln=>⟨ln,rfl,⟨_,.of qe⟩,?_⟩⟩
     have sL:qo G1 (upd G1 ln (.lst ((rs.map (·.1)).map V.str))):=ql hln
     have hL2:upd G1 ln (.lst ((rs.map (·.1)).map V.str)) ln=some (.lst ((rs.map (·.1)).map V.str)):=qe
     have nDl:ln≠D:=λe=>by rw[e,hDD]at hln;cases hln
     generalize upd G1 ln (.lst ((rs.map (·.1)).map V.str))=G2 at sL hL2
     have sG2:qo G' G2:=sD.trans sL
     refine jr (K:=K) (a:=ln) (xs:=(rs.map (·.1)).map V.str) (λi σ' G3=>∃v5 kvs,σ'=[some (.ref g),some (.ref d),some (.ref st),v3,v4,v5,some (.ref D)]/\Fr G2 D G3/\G3 D=some (.dK kvs)/\kvs.map (·.1)=((rs.map (·.1)).take i).map Sum.inr/\
         ∀r∈rs.take i,∃t,jj kvs (Sum.inr r.1:qL)=some (.ref t)/\G3 t=some (.tup (QH rs R r.1)))
       ⟨v5,[],rfl,Fr.refl,sL _ _ hDD,rfl,λr h=>(nomatch h)⟩ (λi σ' G3 _ ⟨_,_,_,f,_⟩=>.of (f _ _ hL2 nDl)) ?_ ?_
     . rintro i y σ' G3 hy ⟨v5',kvs,rfl,fr,hDk,ek,hv⟩
       obtain⟨r,er,hr',rfl⟩:=ww hy
       have hi:=(tw.mp er).1
       have s23:qo G' G3:=λb u h=>fr _ _ (sG2 _ _ h) (qr h hD)
       have sA:=sG.trans s23
       have nm:=numD.mono s23
       have ns:=UH.mono s23
       have lk:kvs.length=i:=by
         have:=congrArg zaD ek
         rw[tj,tj,tS,tj]at this
         omega
       have eN:(rs.map (·.1))[i]?=some r.1:=by rw[tH,er];rfl
       have new:jj kvs (Sum.inr r.1:qL)=none:=Jm (by rw[ek];exact Qv good.nd eN)
       have fin:∀(G4:Hp) (t:Addr),Fr G2 D G4->G4 D=some (.dK kvs)->qo G3 G4->G4 t=some (.tup (QH rs R r.1))->∃H5,Q4 G4 D (.str r.1) (.ref t) H5/\
           ∃v5 kvs,[some (V.ref g),some (.ref d),some (.ref st),v3,v4,some (.str r.1),some (.ref D)]=[some (.ref g),some (.ref d),some (.ref st),v3,v4,v5,some (.ref D)]/\Fr G2 D H5/\H5 D=some (.dK kvs)/\kvs.map (·.1)=((rs.map (·.1)).take (i+1)).map Sum.inr/\
            ∀r∈rs.take (i+1),∃t,jj kvs (Sum.inr r.1:qL)=some (.ref t)/\H5 t=some (.tup (QH rs R r.1)):=λG4 t f4 h4 s4 ht=>by
         refine⟨_,Q4.k (k:=(Sum.inr r.1:qL)) h4 (qp (by omega)),some (.str r.1),jN kvs (Sum.inr r.1) (.ref t),rfl,f4.at_d,qe,?_,λr2 hr2=>?_⟩
         . rw[QC _ new,tI,ek,tQ,eN,tI]
           rfl
         . have tD:∀{b:Addr} {xs:List V},G4 b=some (.tup xs)->b≠D:=λhb e=>by rw[e,h4]at hb;cases hb
           rw[tQ,er]at hr2
           rcases tX.mp hr2 with h | h
           . obtain⟨t2,a,b⟩:=hv r2 h
             have ne:r2.1≠r.1:=λe=>by rw[e,new]at a;cases a
             refine⟨t2,?_,?_⟩
             . rw[jW,if_neg (λq=>ne (Sum.inr.inj q))];exact a
             . rw[qi (tD (s4 _ _ b))];exact s4 _ _ b
           . have:r2=r:=by simpa using h
             subst this
             refine⟨t,?_,?_⟩
             . rw[jW,if_pos rfl]
             . rw[qi (tD ht)];exact ht
       refine⟨_,rfl,_,rfl,d,_,rfl,nm.get r.1,_,rfl,?_⟩
       cases c:qG R r.1 with
       | some n=>
         have g1:=nm.get r.1
         have g2:=ns.get r.1
         rw[c]at g1 g2
         refine j4 ⟨_,rfl,_,rfl,d,_,rfl,g1,_,rfl,_,rfl,st,_,rfl,g2,by show 3<=sizeLine;decide,λt ht=>?_⟩
         have el:QH rs R r.1=[.str "number",.int (n:Nat),.int (Q6 R r.1:Nat)]:=by unfold QH;rw[c]
         obtain⟨H5,put,k⟩:=fin (upd G3 t (.tup [.str "number",.int (n:Nat),.int (Q6 R r.1:Nat)])) t (fr.same (ql ht)) (qv hDk ht) (ql ht) (by rw[el];exact qe)
         exact⟨_,rfl,_,rfl,D,H5,rfl,put,k⟩
       | none=>
         have gN:=L
         refine jz ⟨_,rfl,_,rfl,_,rfl,g,d,rs,r.1,qG R,rfl,gr.mono sA,good,le14,tL.mpr ⟨r,hr',rfl⟩,nm,λH4 l4 s4 hl4 hl4'=>?_⟩
         refine⟨l4,_,rfl,.of hl4',λx hx=>?_,by show 2<=sizeLine;decide,λt ht=>?_⟩
         . obtain⟨y,hy,ey⟩:=Qj.mp hx
           have:=Xh good L (QI good.nd _ (tL.mpr ⟨r,hr',rfl⟩) y hy) ey
           omega
         . have el:QH rs R r.1=[.str "endless",.int (Rb.setN (ZH rs (qG R) r.1):Nat)]:=by unfold QH;rw[c]
           obtain⟨H5,put,k⟩:=fin (upd H4 t (.tup [.str "endless",.int (Rb.setN (ZH rs (qG R) r.1):Nat)])) t ((fr.same s4).same (ql ht)) (qv (s4 _ _ hDk) ht) (s4.trans (ql ht)) (by rw[el];exact qe)
           exact⟨_,rfl,_,rfl,D,H5,rfl,put,k⟩
     . rintro σ' G3 ⟨v5',kvs,rfl,fr,hDk,ek,hv⟩
       rw[tj,tG (tE _)]at ek
       rw[tj,tj,tG (tE _)]at hv
       exact⟨_,rfl,q G3 D R (λb u h=>fr _ _ (sG2 _ _ (sG _ _ h)) (qr h hD0)) hD0 ⟨kvs,hDk,ek,hv⟩ all⟩
end
open PySem L2 PyProof.Rows Rb
abbrev YX:Stmt:=top 35
abbrev YB:Stmt:=top 36
abbrev Ze:Stmt:=top 13
abbrev Z7:Stmt:=top 40
abbrev Y1:Stmt:=top 41
abbrev YW:Stmt:=top 45
abbrev YZ:Stmt:=j8 (top 43) 0
abbrev WA:Stmt:=j8 (top 43) 3
abbrev vC:Stmt:=j8 (top 43) 4
abbrev Vt:Stmt:=j8 (top 43) 5
abbrev Y5:Stmt:=j8 (top 44) 0
abbrev WD:Stmt:=j8 (top 44) 3
abbrev vF:Stmt:=j8 (top 44) 4
abbrev Vz:Stmt:=j8 (top 44) 5
section
variable {P:Program} {w:World} {K:PySem.W.Frag} {mg:Str->Option Value} {base:Heap}
theorem bx (a b:Nat):Builtin.bitXor a b=((a^^^b:Nat):Int):=by
 unfold Builtin.bitXor
 rw[bo,ba]
 have:=Rb.or_and_xor a b
 omega
def Wv:Sp:=λvs H Q _=>∃b:Nat,vs=[.int b]/\b < 65536/\∀l,H l=none->Q (.ref l) (upd H l (.lst (Zy (Rb.memN b 16))))
def Vn:Sp:=λvs H Q _=>∃b n:Nat,vs=[.int b,.int n]/\b < 65536/\n < 16/\∀H',qo H H'->Q (.int (Rb.turnN b n 16:Nat)) H'
theorem GX (b:Nat):b < 2^ (Builtin.Int.intBits (b:Nat)):=by
 unfold Builtin.Int.intBits
 by_cases h:b=0
 . subst h;simp
 . rw[if_neg (by simpa using h)]
   exact Nat.lt_log2_self
theorem Wi {b:Nat} (h:b < 65536):Builtin.Int.intBits (b:Nat)<=16:=by
 unfold Builtin.Int.intBits
 by_cases h0:b=0
 . subst h0;simp
 . rw[if_neg (by simpa using h0)]
   have:b.log2 < 16:=(Nat.log2_lt h0).mpr h
   exact this
theorem vv (b i:Nat):Builtin.bitAnd ((b:Int) / 2^ ((i:Nat):Int).toNat) 1=(((b.testBit i).toNat:Nat):Int):=by
 have e1:(b:Int) / 2^ ((i:Nat):Int).toNat=((b / 2^i:Nat):Int):=by rw[zaP];push_cast;rfl
 have e2:Builtin.bitAnd ((b / 2^i:Nat):Int) 1=(((b / 2^i)&&& 1:Nat):Int):=ba (b / 2^i) 1
 rw[e1,e2,Nat.and_one_is_mod,Rb.testBit_div]
 by_cases h:b / 2^i % 2=1
 . rw[h];rfl
 . have h':b / 2^i % 2=0:=by omega
   rw[h'];rfl
theorem u8:qt ["bits"] ["bits"] (qj YX):=⟨rfl,rfl,rfl,by decide+kernel,rfl,by decide+kernel,by decide+kernel⟩
theorem VH {f:Addr} {fd:FuncData} (F:jI K "numbers_in" "numbers_in" YX f fd) (B:QL mg):qm P w K mg base qK 1 f fd ["bits"] Wv:=by
 refine F.okJ u8 (λvs H Q E h=>?_) (λcdv A outer s H vs Q E hr h=>?_)
 . obtain⟨b,rfl,_⟩:=h
   rfl
 . obtain⟨b,rfl,hb,q⟩:=h
   refine⟨_,qh (qB (Qd (N':=["number","bits"]) (ix:=[none,some 0]) rfl ⟨rfl,rfl,rfl,rfl,rfl⟩
     (jP (by rfl) B.rng (qd (wR PySem.F.plainAttrs_int PySem.F.slot_int_bit_length PySem.F.type_int_bit_length yg (jv 0)) qg))
     (λC s2 H2 fp pins=>⟨qA (i:=0) (show (["number","bits"]:List Str).Nodup by decide+kernel) rfl (Or.inl rfl),j7 (qu jH (qO xW (qO xR (jv 1) (jv 0)) qk) qk (qC _)),jv 0⟩))),?_⟩
   refine⟨_,rfl,rfl,_,rfl,rfl,_,rfl,by omega,?_,λD hD=>?_⟩
   . have:=Wi hb
     omega
   . rw[zaP]
     refine Jy (λi σ' H'=>∃v,σ'=[v,some (.int b)]/\H'=upd H D (.lst (Zy (Rb.memN b i)))) ⟨none,rfl,rfl⟩ ?_ ?_
     . rintro i σ' H' hi ⟨v,rfl,rfl⟩
       rw[zbT]
       refine⟨_,rfl,_,rfl,_,_,rfl,rfl,by omega,_,_,rfl,rfl,rfl,_,rfl,?_⟩
       have e:decide (V.int (Builtin.bitAnd ((b:Int) / 2^ ((i:Nat):Int).toNat) 1)=V.int 1)=b.testBit i:=by
         rw[vv]
         cases b.testBit i<;>decide
       rw[e]
       have l:(Zy (Rb.memN b i)).length < sizeLine:=by
         rw[JY]
         refine qp ?_
         have:=Wi hb
         have h1:(Rb.memN b i).length<=(zaa i).length:=zas _ _
         rw[zam]at h1
         omega
       cases hb':b.testBit i with
       | true=>
         refine j4 ⟨_,rfl,_,qe,l,some (.int i),rfl,?_⟩
         rw[jB,Xp,Rb.memN_succ,hb']
         rfl
       | false=>
         refine jz ⟨some (.int i),rfl,?_⟩
         rw[Rb.memN_succ,hb']
         simp
     . rintro σ' H' ⟨v,rfl,rfl⟩
       rw[Rb.memN_same (m:=16) hb (GX b)]
       exact q D hD
theorem xq:qt ["bits","number"] ["bits","number"] (qj YB):=⟨rfl,rfl,rfl,by decide+kernel,rfl,by decide+kernel,by decide+kernel⟩
theorem k8 {f fN fS:Addr} {fd fdN fdS:FuncData} (F:jI K "set_turned" "set_turned" YB f fd) (B:QL mg) (hN:qU K mg "numbers_in" YX ["bits"] fN fdN) (hS:qU K mg "set_of" zJ ["numbers"] fS fdS):
   qm P w K mg base qK 2 f fd ["bits","number"] Vn:=by
 have GN:qm P w K mg base qK 1 fN fdN ["bits"] Wv:=VH hN.fn B
 have GS:qm P w K mg base qK 1 fS fdS ["numbers"] (Wu K):=VG hS.fn
 refine F.okJ xq (λvs H Q E h=>?_) (λcdv A outer s H vs Q E hr h=>?_)
 . obtain⟨b,n,rfl,_⟩:=h
   rfl
 . obtain⟨b,n,rfl,hb,hn,q⟩:=h
   refine⟨_,qh (qB (qH hS GS hr (by rfl) (qd (Qd (N':=["other","number"]) (ix:=[none,some 1]) rfl ⟨rfl,rfl,rfl,rfl,rfl⟩
     (qN (qH hN GN hr (by rfl) (qd (jv 0) qg)))
     (λC s2 H2 fp pins=>⟨qA (i:=0) (show (["other","number"]:List Str).Nodup by decide+kernel) rfl (Or.inl rfl),jL,qO UE (jv 0) (jv 1)⟩)) qg))),?_⟩
   refine⟨_,rfl,b,rfl,hb,λl hl=>⟨l,rfl,⟨_,.of qe⟩,λD hD=>?_⟩⟩
   have nlD:l≠D:=λe=>by rw[e,qe]at hD;cases hD
   have HD:H D=none:=by rw[<-hD,qi (Ne.symm nlD)]
   refine jZ (K:=K) (a:=l) (xs:=Zy (Rb.memN b 16)) (λi σ' H'=>∃v,σ'=[v,some (.int n)]/\H'=upd (upd H l (.lst (Zy (Rb.memN b 16)))) D (.lst (Zy (((Rb.memN b 16).take i).map (·^^^n))))) ⟨none,rfl,rfl⟩
     (λi σ' H' _ ⟨_,_,e⟩=>.of (by rw[e,qi nlD];exact qe)) ?_ ?_
   . rintro i x σ' H' hx ⟨v,rfl,rfl⟩
     obtain⟨m,hm,rfl⟩:=W0 hx
     refine⟨_,rfl,_,rfl,_,_,rfl,rfl,_,qe,?_,some (.int m),rfl,?_⟩
     . rw[JY,tj,tS]
       refine qp (zac (zdh _ _) ?_)
       have h1:(Rb.memN b 16).length<=(zaa 16).length:=zas _ _
       rw[zam]at h1
       omega
     . rw[jB]
       dsimp only
       rw[bx,Xp,zB hm,tI]
       rfl
   . rintro σ' H' ⟨v,rfl,rfl⟩
     rw[JY,tG (tE _)]
     refine⟨D,(Rb.memN b 16).map (·^^^n),rfl,.of qe,λx hx=>?_,?_⟩
     . obtain⟨y,hy,rfl⟩:=tL.mp hx
       have:=Rb.xor_lt (m:=4) (Rb.mem_memN.mp hy).1 hn
       omega
     . exact q _ (qo.upd (ql hl) HD)
end
structure Cl (K:PySem.W.Frag) (mg:Str->Option Value) (x qual fld:Str) (st:Stmt) (C f:Addr) (fd:FuncData):Prop where
 cl:XH K C
 mkr:Mk K C f
 ns:mg x=some (.ref C)
 na:Qr K C fld
 fn:jI K "__init__" qual st f fd
 bi:jG K fd ["self",fld] []
 ca:tR K (.ref C) "__class__"=some (some (.builtin "object.__class__"))
 ob:zbz K C (.type "object")=some true
structure Wk (K:PySem.W.Frag) (mg:Str->Option Value):Prop where
 isi:mg "isinstance"=none
 bool:mg "bool"=none
 kii:zaR K (.type "int") (.type "int")=some true
 kib:zaR K (.type "int") (.type "bool")=some false
 most:∃t,mg "MOST_NUMBER"=some (.int 15 t)
 mset:∃t,mg "MOST_BITS"=some (.int 65535 t)
theorem Mh {f:Str} {v:V}:[(f,v)].lookup f=some v:=by simp [zbg]
def ZL (CN CE:Addr) (H:Hp) (a:Addr):W->Prop
 | .num n=>∃dx,H a=some (.ins CN dx [("number",.int (n:Nat))])
 | .edl b=>∃dx,H a=some (.ins CE dx [("bits",.int (b:Nat))])
theorem ZL.same {CN CE:Addr} {H H':Hp} {a:Addr} {w:W} (h:ZL CN CE H a w) (s:qo H H'):ZL CN CE H' a w:=by
 cases w with
 | num n=>obtain⟨dx,e⟩:=h;exact⟨dx,s _ _ e⟩
 | edl b=>obtain⟨dx,e⟩:=h;exact⟨dx,s _ _ e⟩
section
variable {P:Program} {w:World} {K:PySem.W.Frag} {mg:Str->Option Value} {base:Heap}
def YT:Sp:=λvs H Q _=>∃i:Int,vs=[.int i]/\Q (.bl true) H
def Vp:Sp:=λvs H Q _=>∃i:Int,vs=[.int i]/\0<=i/\i<=15/\Q (.bl true) H
def vq:Sp:=λvs H Q _=>∃i:Int,vs=[.int i]/\0<=i/\i<=65535/\Q (.bl true) H
theorem u7:qt ["thing"] ["thing"] (qj Ze):=⟨rfl,rfl,rfl,by decide+kernel,rfl,by decide+kernel,by decide+kernel⟩
theorem VF {f:Addr} {fd:FuncData} (F:jI K "is_whole" "is_whole" Ze f fd) (B:QL mg) (T:Wk K mg):qm P w K mg base qK 1 f fd ["thing"] YT:=by
 refine F.okJ u7 (λvs H Q E h=>?_) (λcdv A outer s H vs Q E hr h=>?_)
 . obtain⟨i,rfl,_⟩:=h
   rfl
 . obtain⟨i,rfl,q⟩:=h
   refine⟨_,qh (qB (ZV (qJ jY (by rfl) T.isi boot_isinstance (qd (jv 0) (qd (JV (v:=.ty "int") (by rfl) B.int boot_int rfl) qg)))
     (Xo (NP (qJ jY (by rfl) T.isi boot_isinstance (qd (jv 0) (qd (JV (v:=.ty "bool") (by rfl) T.bool boot_bool rfl) qg))))))),?_⟩
   exact⟨_,rfl,_,_,_,_,rfl,rfl,.int i,T.kii,_,rfl,j4 ⟨_,rfl,_,_,_,_,rfl,rfl,.int i,T.kib,_,rfl,q⟩⟩
theorem xu:qt ["thing"] ["thing"] (qj Z7):=⟨rfl,rfl,rfl,by decide+kernel,rfl,by decide+kernel,by decide+kernel⟩
theorem ya {f fW:Addr} {fd fdW:FuncData} (F:jI K "is_number" "is_number" Z7 f fd) (B:QL mg) (T:Wk K mg) (hW:qU K mg "is_whole" Ze ["thing"] fW fdW):qm P w K mg base qK 2 f fd ["thing"] Vp:=by
 have GW:qm P w K mg base qK 1 fW fdW ["thing"] YT:=VF hW.fn B T
 obtain⟨t,hm⟩:=T.most
 refine F.okJ xu (λvs H Q E h=>?_) (λcdv A outer s H vs Q E hr h=>?_)
 . obtain⟨i,rfl,_⟩:=h
   rfl
 . obtain⟨i,rfl,h0,h1,q⟩:=h
   refine⟨_,qh (qB (ZV (qH hW GW hr (by rfl) (qd (jv 0) qg)) (ZV (Qo X4 qk (jv 0) (qC _)) (Xo (Qo X4 (jv 0) (JU (v:=.int 15) (by rfl) hm ⟨_,rfl⟩) (qC _)))))),?_⟩
   refine⟨_,rfl,i,rfl,_,rfl,j4 ⟨_,rfl,_,_,rfl,rfl,_,rfl,?_⟩⟩
   rw[decide_eq_true h0]
   refine j4 ⟨_,rfl,_,_,rfl,rfl,?_⟩
   have e:decide (i<=15)=true:=decide_eq_true h1
   show Q (.bl (decide (i<=15))) H
   rw[e]
   exact q
theorem Kd:qt ["thing"] ["thing"] (qj Y1):=⟨rfl,rfl,rfl,by decide+kernel,rfl,by decide+kernel,by decide+kernel⟩
theorem wj {f fW:Addr} {fd fdW:FuncData} (F:jI K "is_set" "is_set" Y1 f fd) (B:QL mg) (T:Wk K mg) (hW:qU K mg "is_whole" Ze ["thing"] fW fdW):qm P w K mg base qK 2 f fd ["thing"] vq:=by
 have GW:qm P w K mg base qK 1 fW fdW ["thing"] YT:=VF hW.fn B T
 obtain⟨t,hm⟩:=T.mset
 refine F.okJ Kd (λvs H Q E h=>?_) (λcdv A outer s H vs Q E hr h=>?_)
 . obtain⟨i,rfl,_⟩:=h
   rfl
 . obtain⟨i,rfl,h0,h1,q⟩:=h
   refine⟨_,qh (qB (ZV (qH hW GW hr (by rfl) (qd (jv 0) qg)) (ZV (Qo X4 qk (jv 0) (qC _)) (Xo (Qo X4 (jv 0) (JU (v:=.int 65535) (by rfl) hm ⟨_,rfl⟩) (qC _)))))),?_⟩
   refine⟨_,rfl,i,rfl,_,rfl,j4 ⟨_,rfl,_,_,rfl,rfl,_,rfl,?_⟩⟩
   rw[decide_eq_true h0]
   refine j4 ⟨_,rfl,_,_,rfl,rfl,?_⟩
   have e:decide (i<=65535)=true:=decide_eq_true h1
   show Q (.bl (decide (i<=65535))) H
   rw[e]
   exact q
def Ww (C:Addr) (fld:Str) (hi:Int):Sp:=λvs H Q _=>∃(x dx:Addr) (n:Int),vs=[.ref x,.int n]/\0<=n/\n<=hi/\H x=some (.ins C dx [])/\Q .non (upd H x (.ins C dx [(fld,.int n)]))
theorem Kb:qt ["self","number"] ["self","number"] (qj YZ):=⟨rfl,rfl,rfl,by decide+kernel,rfl,by decide+kernel,by decide+kernel⟩
theorem x8 {f fB fW CN:Addr} {fd fdB fdW:FuncData} (F:jI K "__init__" "Numbered.__init__" YZ f fd) (B:QL mg) (T:Wk K mg) (hW:qU K mg "is_whole" Ze ["thing"] fW fdW) (hB:qU K mg "is_number" Z7 ["thing"] fB fdB) (cl:XH K CN) (na:Qr K CN "number"):
   qm P w K mg base qK 3 f fd ["self","number"] (Ww CN "number" 15):=by
 have GB:qm P w K mg base qK 2 fB fdB ["thing"] Vp:=ya hB.fn B T hW
 refine F.okJ Kb (λvs H Q E h=>?_) (λcdv A outer s H vs Q E hr h=>?_)
 . obtain⟨x,dx,n,rfl,_⟩:=h
   rfl
 . obtain⟨x,dx,n,rfl,h0,h1,hx,q⟩:=h
   refine⟨_,qf (qM (Ji (j2 (qH hB GB hr (by rfl) (qd (jv 1) qg)))) qW qE) (qh (WX (jv 0) (jv 1) rfl)),?_⟩
   exact⟨_,rfl,n,rfl,h0,h1,_,rfl,jz ⟨_,rfl,_,rfl,x,CN,dx,[],rfl,hx,cl,na,by decide,q⟩⟩
theorem Kg:qt ["self","bits"] ["self","bits"] (qj Y5):=⟨rfl,rfl,rfl,by decide+kernel,rfl,by decide+kernel,by decide+kernel⟩
theorem wo {f fB fW CE:Addr} {fd fdB fdW:FuncData} (F:jI K "__init__" "Endless.__init__" Y5 f fd) (B:QL mg) (T:Wk K mg) (hW:qU K mg "is_whole" Ze ["thing"] fW fdW) (hB:qU K mg "is_set" Y1 ["thing"] fB fdB) (cl:XH K CE) (na:Qr K CE "bits"):
   qm P w K mg base qK 3 f fd ["self","bits"] (Ww CE "bits" 65535):=by
 have GB:qm P w K mg base qK 2 fB fdB ["thing"] vq:=wj hB.fn B T hW
 refine F.okJ Kg (λvs H Q E h=>?_) (λcdv A outer s H vs Q E hr h=>?_)
 . obtain⟨x,dx,n,rfl,_⟩:=h
   rfl
 . obtain⟨x,dx,n,rfl,h0,h1,hx,q⟩:=h
   refine⟨_,qf (qM (Ji (j2 (qH hB GB hr (by rfl) (qd (jv 1) qg)))) qW qE) (qh (WX (jv 0) (jv 1) rfl)),?_⟩
   exact⟨_,rfl,n,rfl,h0,h1,_,rfl,jz ⟨_,rfl,_,rfl,x,CE,dx,[],rfl,hx,cl,na,by decide,q⟩⟩
def kH (b:Bool):Sp:=λvs H Q _=>∃a,vs=[.ref a]/\Q (.bl b) H
theorem RZ:qt ["self"] ["self"] (qj Vt):=⟨rfl,rfl,rfl,by decide+kernel,rfl,by decide+kernel,by decide+kernel⟩
theorem KF {f:Addr} {fd:FuncData} (F:jI K "is_endless" "Numbered.is_endless" Vt f fd):qm P w K mg base qK 1 f fd ["self"] (kH false):=by
 refine F.okJ RZ (λvs H Q E h=>?_) (λcdv A outer s H vs Q E hr h=>?_)
 . obtain⟨a,rfl,_⟩:=h
   rfl
 . obtain⟨a,rfl,q⟩:=h
   exact⟨_,qh (qB Qe),q⟩
theorem R5:qt ["self"] ["self"] (qj Vz):=⟨rfl,rfl,rfl,by decide+kernel,rfl,by decide+kernel,by decide+kernel⟩
theorem KQ {f:Addr} {fd:FuncData} (F:jI K "is_endless" "Endless.is_endless" Vz f fd):qm P w K mg base qK 1 f fd ["self"] (kH true):=by
 refine F.okJ R5 (λvs H Q E h=>?_) (λcdv A outer s H vs Q E hr h=>?_)
 . obtain⟨a,rfl,_⟩:=h
   rfl
 . obtain⟨a,rfl,q⟩:=h
   exact⟨_,qh (qB Qe),q⟩
end
structure WF (K:PySem.W.Frag) (mg:Str->Option Value) where
 (CN CE fNI fEI fNO fEO fNP fEP fNE fEE fW fB fS fT fN fO:Addr)
 (dNI dEI dNO dEO dNP dEP dNE dEE dW dB dS dT dN dO:FuncData)
 ne:CN≠CE
 cN:Cl K mg "Numbered" "Numbered.__init__" "number" YZ CN fNI dNI
 cE:Cl K mg "Endless" "Endless.__init__" "bits" Y5 CE fEI dEI
 nO:Vb K CN "outcome" "Numbered.outcome" vC ["self"] fNO dNO
 eO:Vb K CE "outcome" "Endless.outcome" vF ["self"] fEO dEO
 nP:Vb K CN "plus" "Numbered.plus" WA ["self","other"] fNP dNP
 eP:Vb K CE "plus" "Endless.plus" WD ["self","other"] fEP dEP
 nE:Vb K CN "is_endless" "Numbered.is_endless" Vt ["self"] fNE dNE
 eE:Vb K CE "is_endless" "Endless.is_endless" Vz ["self"] fEE dEE
 hW:qU K mg "is_whole" Ze ["thing"] fW dW
 hB:qU K mg "is_number" Z7 ["thing"] fB dB
 hS:qU K mg "is_set" Y1 ["thing"] fS dS
 hT:qU K mg "set_turned" YB ["bits","number"] fT dT
 hN:qU K mg "numbers_in" YX ["bits"] fN dN
 hO:qU K mg "set_of" zJ ["numbers"] fO dO
section
variable {P:Program} {w:World} {K:PySem.W.Frag} {mg:Str->Option Value} {base:Heap}
def isE:W->Bool
 | .num _=>false
 | .edl _=>true
theorem WF.gNI (h:WF K mg) (B:QL mg) (T:Wk K mg):qm P w K mg base qK 3 h.fNI h.dNI ["self","number"] (Ww h.CN "number" 15):=x8 h.cN.fn B T h.hW h.hB h.cN.cl h.cN.na
theorem WF.gEI (h:WF K mg) (B:QL mg) (T:Wk K mg):qm P w K mg base qK 3 h.fEI h.dEI ["self","bits"] (Ww h.CE "bits" 65535):=wo h.cE.fn B T h.hW h.hS h.cE.cl h.cE.na
theorem WF.gNE (h:WF K mg):qm P w K mg base qK 1 h.fNE h.dNE ["self"] (kH false):=KF h.nE.fn
theorem WF.gEE (h:WF K mg):qm P w K mg base qK 1 h.fEE h.dEE ["self"] (kH true):=KQ h.eE.fn
theorem WF.gT (h:WF K mg) (B:QL mg):qm P w K mg base qK 2 h.fT h.dT ["bits","number"] Vn:=k8 h.hT.fn B h.hN h.hO
theorem Np {f g:Str} {v:V} (h:(g==f)=false):[(f,v)].lookup g=none:=by simp [zbg,h]
theorem n1:((Str.ofString "is_endless")==(Str.ofString "number"))=false:=by decide+kernel
theorem n2:((Str.ofString "is_endless")==(Str.ofString "bits"))=false:=by decide+kernel
theorem n5:((Str.ofString "plus")==(Str.ofString "number"))=false:=by decide+kernel
theorem n6:((Str.ofString "plus")==(Str.ofString "bits"))=false:=by decide+kernel
theorem N1 {CN CE a:Addr} {H:Hp} {w:W} {Q:VK} (h:ZL CN CE H a w) (q:Q (.bl (isE w)) H):∃a' dx fs,V.ref a=.ref a'/\fs.lookup (Str.ofString "is_endless")=none/\((H a'=some (.ins CN dx fs)/\kH false [V.ref a] H Q E0)\/(H a'=some (.ins CE dx fs)/\kH true [V.ref a] H Q E0)):=by
 cases w with
 | num n=>obtain⟨dx,e⟩:=h;exact⟨a,dx,_,rfl,Np n1,.inl ⟨e,a,rfl,q⟩⟩
 | edl b=>obtain⟨dx,e⟩:=h;exact⟨a,dx,_,rfl,Np n2,.inr ⟨e,a,rfl,q⟩⟩
theorem wP {X:Cx} (h:WF X.K X.mg) (hr:qV 1 X.A) {o:Expr} {ta:TE} {apos pos:Pos} {pl:Sem Bool} (he:JE X o ta)
   (ht:eval (.Call (.Attribute o "is_endless" apos) [] [] pos) X.env=(eval o X.env >>= λov=>standAt apos.atName >>= λ_=>holding [ov] (getMethod ov "is_endless" pl) >>= λr=>callWith pos r.1 r.2 (backTo pos (starEach [] X.env)) (backToKw pos (keywordEach [] X.env))):=by rfl):
   JE X (.Call (.Attribute o "is_endless" apos) [] [] pos) (λσ H Q=>ta σ H λx H1=>∃a u,x=.ref a/\ZL h.CN h.CE H1 a u/\Q (.bl (isE u)) H1):=
 WY (Wb (wK he) h.cN.cl h.nE.me h.gNE hr h.nE.bi h.cE.cl h.eE.me h.gEE hr h.eE.bi ht) λσ H Q q=>⟨_,q,λx H1 ⟨a,u,e,i,q1⟩=>by subst e;exact N1 i q1⟩
def vi (CN CE:Addr):Sp:=λvs H Q _=>∃a o n v,vs=[.ref a,.ref o]/\ZL CN CE H a (.num n)/\ZL CN CE H o v/\n < 16/\zO v/\∀H' r,qo H H'->ZL CN CE H' r (ze (.num n) v)->Q (.ref r) H'
def vj (CN CE:Addr):Sp:=λvs H Q _=>∃a o b v,vs=[.ref a,.ref o]/\ZL CN CE H a (.edl b)/\ZL CN CE H o v/\b < 65536/\zO v/\∀H' r,qo H H'->ZL CN CE H' r (ze (.edl b) v)->Q (.ref r) H'
theorem WQ {CN CE:Addr} {H:Hp} {x dx:Addr} {n:Nat} (hx:H x=none) (hd:H dx=none) (hne:dx≠x):qo H (upd (upd (upd H dx (.own x)) x (.ins CN dx [])) x (.ins CN dx [("number",.int (n:Nat))]))/\ZL CN CE (upd (upd (upd H dx (.own x)) x (.ins CN dx [])) x (.ins CN dx [("number",.int (n:Nat))])) x (.num n):=
 ⟨λb o hb=>by rw[qi (qr hb hx),qi (qr hb hx),qi (qr hb hd)];exact hb,dx,qe⟩
theorem WR {CN CE:Addr} {H:Hp} {x dx:Addr} {b:Nat} (hx:H x=none) (hd:H dx=none) (hne:dx≠x):qo H (upd (upd (upd H dx (.own x)) x (.ins CE dx [])) x (.ins CE dx [("bits",.int (b:Nat))]))/\ZL CN CE (upd (upd (upd H dx (.own x)) x (.ins CE dx [])) x (.ins CE dx [("bits",.int (b:Nat))])) x (.edl b):=
 ⟨λb o hb=>by rw[qi (qr hb hx),qi (qr hb hx),qi (qr hb hd)];exact hb,dx,qe⟩
theorem Kf:qt ["self","other"] ["self","other"] (qj WD):=⟨rfl,rfl,rfl,by decide+kernel,rfl,by decide+kernel,by decide+kernel⟩
theorem WF.gEP (h:WF K mg) (B:QL mg) (T:Wk K mg):qm P w K mg base qK 5 h.fEP h.dEP ["self","other"] (vj h.CN h.CE):=by
 refine h.eP.fn.okJ Kf (λvs H Q E z=>?_) (λcdv A outer s H vs Q E hr z=>?_)
 . obtain⟨a,o,b,v,rfl,_⟩:=z
   rfl
 . obtain⟨a,o,b,v,rfl,ha,ho,hb,hv,q⟩:=z
   refine⟨_,qf (qM (j2 (wP h (hr.mono (by decide)) (jv 1))) (qh (qB (JR h.cE.mkr (h.gEI B T) hr (by rfl) h.cE.ns h.cE.bi .nil QJ (qd qk qg)))) qE)
     (qh (qB (JR h.cE.mkr (h.gEI B T) hr (by rfl) h.cE.ns h.cE.bi .nil QJ (qd (qH h.hT (h.gT B) (hr.mono (by decide)) (by rfl) (qd (Q0 (jv 0) rfl) (qd (Q0 (jv 1) rfl) qg))) qg)))),?_⟩
   refine⟨_,rfl,o,v,rfl,ho,_,rfl,?_⟩
   cases v with
   | edl c=>
     refine j4 (λx dx hx hd hne=>⟨x,dx,0,rfl,by decide,by decide,qe,rfl,?_⟩)
     obtain⟨s1,i1⟩:=WR (CN:=h.CN) (CE:=h.CE) (b:=0) hx hd hne
     exact q _ _ s1 i1
   | num n=>
     obtain⟨dx0,e0⟩:=id ha
     obtain⟨dx1,e1⟩:=id ho
     refine jz ⟨_,rfl,a,h.CE,dx0,_,_,rfl,e0,h.cE.cl,h.cE.na,Mh,_,rfl,o,h.CN,dx1,_,_,rfl,e1,h.cN.cl,h.cN.na,Mh,b,n,rfl,hb,hv,λH1 s1 x dx hx hd hne=>?_⟩
     have lt:=U9 (k:=4) (b:=b) (tE _) hv
     refine⟨x,dx,_,rfl,by omega,?_,qe,rfl,?_⟩
     . have:turnN b n 16 < 65536:=lt
       omega
     . obtain⟨s2,i2⟩:=WR (CN:=h.CN) (CE:=h.CE) (b:=turnN b n 16) hx hd hne
       exact q _ _ (s1.trans s2) i2
theorem Ka:qt ["self","other"] ["self","other"] (qj WA):=⟨rfl,rfl,rfl,by decide+kernel,rfl,by decide+kernel,by decide+kernel⟩
theorem WF.gNP (h:WF K mg) (B:QL mg) (T:Wk K mg):qm P w K mg base qK 6 h.fNP h.dNP ["self","other"] (vi h.CN h.CE):=by
 refine h.nP.fn.okJ Ka (λvs H Q E z=>?_) (λcdv A outer s H vs Q E hr z=>?_)
 . obtain⟨a,o,b,v,rfl,_⟩:=z
   rfl
 . obtain⟨a,o,n,v,rfl,ha,ho,hn,hv,q⟩:=z
   refine⟨_,qf (qM (j2 (wP h (hr.mono (by decide)) (jv 1))) (qh (qB (vU h.eP h.cE.cl (h.gEP B T) hr (jv 1) (qd (jv 0) qg)))) qE)
     (qh (qB (JR h.cN.mkr (h.gNI B T) (hr.mono (by decide)) (by rfl) h.cN.ns h.cN.bi .nil QJ (qd (qO UE (Q0 (jv 0) rfl) (Q0 (jv 1) rfl)) qg)))),?_⟩
   refine⟨_,rfl,o,v,rfl,ho,_,rfl,?_⟩
   cases v with
   | edl c=>
     obtain⟨dx1,e1⟩:=id ho
     exact j4 ⟨_,rfl,o,dx1,_,rfl,e1,Np n6,_,rfl,o,a,c,.num n,rfl,ho,ha,hv,hn,λH' r s i=>q H' r s i⟩
   | num m=>
     obtain⟨dx0,e0⟩:=id ha
     obtain⟨dx1,e1⟩:=id ho
     refine jz ⟨_,rfl,a,h.CN,dx0,_,_,rfl,e0,h.cN.cl,h.cN.na,Mh,_,rfl,o,h.CN,dx1,_,_,rfl,e1,h.cN.cl,h.cN.na,Mh,_,_,rfl,rfl,λx dx hx hd hne=>?_⟩
     have lt:n^^^m < 16:=xor_lt (m:=4) hn hv
     refine⟨x,dx,((n^^^m:Nat):Int),by rw[<-bx];rfl,by omega,by omega,qe,rfl,?_⟩
     obtain⟨s2,i2⟩:=WQ (CN:=h.CN) (CE:=h.CE) (n:=n^^^m) hx hd hne
     exact q _ _ s2 i2
theorem Ks {CN CE a:Addr} {H:Hp} {u:W} {Q:VK} {t:TA} {σ:L2.St} (h:ZL CN CE H a u) (hu:zO u) (ht:t σ H λvs H2=>∃o v,vs=[.ref o]/\ZL CN CE H2 a u/\ZL CN CE H2 o v/\zO v/\∀H' r,qo H2 H'->ZL CN CE H' r (ze u v)->Q (.ref r) H')
   (mono:∀R R':List V->Hp->Prop,(∀vs H,R vs H->R' vs H)->t σ H R->t σ H R'):
   ∃a' dx fs,V.ref a=.ref a'/\fs.lookup (Str.ofString "plus")=none/\((H a'=some (.ins CN dx fs)/\t σ H λvs H2=>vi CN CE (V.ref a::vs) H2 Q E0)\/(H a'=some (.ins CE dx fs)/\t σ H λvs H2=>vj CN CE (V.ref a::vs) H2 Q E0)):=by
 cases u with
 | num n=>
   obtain⟨dx,e⟩:=id h
   exact⟨a,dx,_,rfl,Np n5,.inl ⟨e,mono _ _ (λvs H2 ⟨o,v,e1,h1,h2,h3,h4⟩=>⟨a,o,n,v,by rw[e1],h1,h2,hu,h3,h4⟩) ht⟩⟩
 | edl b=>
   obtain⟨dx,e⟩:=id h
   exact⟨a,dx,_,rfl,Np n6,.inr ⟨e,mono _ _ (λvs H2 ⟨o,v,e1,h1,h2,h3,h4⟩=>⟨a,o,b,v,by rw[e1],h1,h2,hu,h3,h4⟩) ht⟩⟩
theorem K8 {X:Cx} (h:WF X.K X.mg) (B:QL X.mg) (T:Wk X.K X.mg) (hr:qV 6 X.A) {o e:Expr} {ta:TE} {t:TA} {apos pos:Pos} {pl:Sem Bool} (he:JE X o ta) (ha:JA X [e] t) (hst:starEach [e] X.env=(false,eval e X.env)::starEach [] X.env:=by rfl)
   (ht:eval (.Call (.Attribute o "plus" apos) [e] [] pos) X.env=(eval o X.env >>= λov=>standAt apos.atName >>= λ_=>holding [ov] (getMethod ov "plus" pl) >>= λr=>callWith pos r.1 r.2 (backTo pos (starEach [e] X.env)) (backToKw pos (keywordEach [] X.env))):=by rfl):
   JE X (.Call (.Attribute o "plus" apos) [e] [] pos) (λσ H Q=>ta σ H λx H1=>∃a u,x=.ref a/\ZL h.CN h.CE H1 a u/\zO u/\t σ H1 λvs H2=>∃o v,vs=[.ref o]/\ZL h.CN h.CE H2 a u/\ZL h.CN h.CE H2 o v/\zO v/\∀H' r,qo H2 H'->ZL h.CN h.CE H' r (ze u v)->Q (.ref r) H'):=
 WY (wM (wK he) h.cN.cl h.nP.me (h.gNP B T) hr h.nP.bi h.cE.cl h.eP.me (h.gEP B T) (hr.mono (by decide)) h.eP.bi (qak ha) hst rfl ht) λσ H Q q=>⟨_,q,λx H1 ⟨a,u,e,i,hu,q1⟩=>by
   subst e
   exact Ks (t:=aWk t) i hu ⟨_,q1,λvs H2 z=>z⟩ λR R' k ⟨G,g,z⟩=>⟨G,g,λvs H2 y=>k vs H2 (z vs H2 y)⟩⟩
def Wl (CN CE:Addr) (H:Hp) (as:List Addr) (ws:List W):Prop:=as.length=ws.length/\∀(i:Nat) (a:Addr) (u:W),as[i]?=some a->ws[i]?=some u->ZL CN CE H a u
def vg (K:PySem.W.Frag) (CN CE:Addr):Sp:=λvs H Q _=>∃(l:Addr) (as:List Addr) (ws:List W),vs=[.ref l]/\SqL K H l (as.map V.ref)/\Wl CN CE H as ws/\(∀u∈ws,zO u)/\∀H' r,qo H H'->ZL CN CE H' r (Qg ws)->Q (.ref r) H'
theorem Yz:qt ["worths","total","worth"] ["worths"] (qj YW):=⟨rfl,rfl,rfl,by decide+kernel,rfl,by decide+kernel,by decide+kernel⟩
theorem W3 {ws:List W} (h:∀u∈ws,zO u) (i:Nat):zO ((ws.take i).foldl ze (.num 0)):=by
 have h':∀u∈ws.take i,zO u:=λu hu=>h u (zbp hu)
 rw[V0 h']
 exact yR h'
theorem x2 {f:Addr} {fd:FuncData} (F:jI K "sum_of" "sum_of" YW f fd) (h:WF K mg) (B:QL mg) (T:Wk K mg):qm P w K mg base qK 7 f fd ["worths"] (vg K h.CN h.CE):=by
 refine F.okJ Yz (λvs H Q E z=>?_) (λcdv A outer s H vs Q E hr z=>?_)
 . obtain⟨l,as,ws,rfl,_⟩:=z
   rfl
 . obtain⟨l,as,ws,rfl,hS,hW,hok,q⟩:=z
   refine⟨_,qf (qw (i:=1) Yz.nd rfl (Or.inl rfl) (JR h.cN.mkr (h.gNI B T) (hr.mono (by decide)) (by rfl) h.cN.ns h.cN.bi .nil QJ (qd qk qg)))
     (qf (jd PassesOwn.never rfl (qN (jv 0)) (qA (i:=2) Yz.nd rfl (Or.inl rfl)) (qh (qw (i:=1) Yz.nd rfl (Or.inl rfl) (K8 h B T hr (jv 1) (qd (jv 2) qg)))))
     (qh (qB (jv 1)))),?_⟩
   intro x dx hx hd hne
   refine⟨x,dx,0,rfl,by decide,by decide,qe,rfl,?_⟩
   obtain⟨s1,i1⟩:=WQ (CN:=h.CN) (CE:=h.CE) (n:=0) hx hd hne
   refine⟨_,rfl,l,rfl,⟨_,s1.seq hS⟩,?_⟩
   refine jr (K:=K) (a:=l) (xs:=as.map V.ref) (λi σ H'=>∃r v,σ=[some (.ref l),some (.ref r),v]/\qo H H'/\ZL h.CN h.CE H' r ((ws.take i).foldl ze (.num 0))) ⟨x,none,rfl,s1,i1⟩ (λi σ H' _ ⟨_,_,_,e,_⟩=>e.seq hS) ?_ ?_
   . rintro i y σ H' hy ⟨r,v,rfl,s2,i2⟩
     rw[tH]at hy
     cases ea:as[i]? with
     | none=>rw[ea]at hy;cases hy
     | some o=>
       rw[ea]at hy
       obtain rfl:=(tN.inj hy).symm
       have hi:i < ws.length:=by
         have:=(tw.mp ea).1
         rw[hW.1]at this
         exact this
       have ew:ws[i]?=some ws[i]:=tF hi
       have io:=(hW.2 i o _ ea ew).same s2
       have et:ws.take (i+1)=ws.take i++[ws[i]]:=by rw[tQ,ew];rfl
       refine⟨_,rfl,r,_,rfl,i2,W3 hok i,_,rfl,o,_,rfl,i2,io,hok _ (zbi hi),λH3 r3 s3 i3=>?_⟩
       refine⟨r3,_,rfl,s2.trans s3,?_⟩
       rw[et,zcr]
       exact i3
   . rintro σ H' ⟨r,v,rfl,s2,i2⟩
     refine⟨_,rfl,q _ _ s2 ?_⟩
     rw[tj,hW.1,tG (tE _),V0 hok]at i2
     exact i2
def ZC:W->Str
 | .num n=>if n=0 then "lost" else "won"
 | .edl b=>if b.testBit 0=true then "won" else "drawn"
def xa (CN CE:Addr):Sp:=λvs H Q _=>∃a n,vs=[.ref a]/\ZL CN CE H a (.num n)/\Q (.str (ZC (.num n))) H
def xc (CN CE:Addr):Sp:=λvs H Q _=>∃a b,vs=[.ref a]/\ZL CN CE H a (.edl b)/\b < 65536/\∀H',qo H H'->Q (.str (ZC (.edl b))) H'
theorem RY:qt ["self"] ["self"] (qj vC):=⟨rfl,rfl,rfl,by decide+kernel,rfl,by decide+kernel,by decide+kernel⟩
theorem R4:qt ["self"] ["self"] (qj vF):=⟨rfl,rfl,rfl,by decide+kernel,rfl,by decide+kernel,by decide+kernel⟩
theorem WF.gNO (h:WF K mg):qm P w K mg base qK 1 h.fNO h.dNO ["self"] (xa h.CN h.CE):=by
 refine h.nO.fn.okJ RY (λvs H Q E z=>?_) (λcdv A outer s H vs Q E hr z=>?_)
 . obtain⟨a,n,rfl,_⟩:=z
   rfl
 . obtain⟨a,n,rfl,⟨dx,e⟩,q⟩:=z
   refine⟨_,qf (qM (qu jH (Q0 (jv 0) rfl) qk (qC _)) (qh (qB qR)) qE) (qh (qB qR)),?_⟩
   refine⟨_,rfl,a,h.CN,dx,_,_,rfl,e,h.cN.cl,h.cN.na,Mh,rfl,_,rfl,?_⟩
   have q:Q (.str (if n=0 then "lost" else "won")) H:=q
   by_cases c:n=0
   . subst c
     rw[if_pos rfl]at q
     exact jg (by decide) q
   . rw[if_neg c]at q
     exact qT (decide_eq_false λz=>c (by have:=V.int.inj z;omega)) q
theorem WF.gEO (h:WF K mg) (B:QL mg):qm P w K mg base qK 2 h.fEO h.dEO ["self"] (xc h.CN h.CE):=by
 have GN:qm P w K mg base qK 1 h.fN h.dN ["bits"] Wv:=VH h.hN.fn B
 refine h.eO.fn.okJ R4 (λvs H Q E z=>?_) (λcdv A outer s H vs Q E hr z=>?_)
 . obtain⟨a,b,rfl,_⟩:=z
   rfl
 . obtain⟨a,b,rfl,⟨dx,e⟩,hb,q⟩:=z
   refine⟨_,qf (qM (qu Jq qk (qH h.hN GN hr (by rfl) (qd (Q0 (jv 0) rfl) qg)) (by with_unfolding_all rfl)) (qh (qB qR)) qE) (qh (qB qR)),?_⟩
   refine⟨_,rfl,a,h.CE,dx,_,_,rfl,e,h.cE.cl,h.cE.na,Mh,b,rfl,hb,λl hl=>?_⟩
   refine⟨l,_,rfl,.inl (.of qe),rfl,zo _,_,rfl,?_⟩
   have e0:Zx (.int ((0:Nat):Int)) (Zy (memN b 16))=b.testBit 0:=by
     rw[Xq]
     unfold memN
     rw[zbf,decide_eq_true_iff,zad]
     exact⟨λh=>h.2,λh=>⟨by decide,h⟩⟩
   have q:=q _ (ql (o:=HO.lst (Zy (memN b 16))) hl)
   have q:Q (.str (if b.testBit 0=true then "won" else "drawn")) (upd H l (HO.lst (Zy (memN b 16)))):=q
   show if Zx (.int ((0:Nat):Int)) (Zy (memN b 16))=true then _ else _
   rw[e0]
   cases c:b.testBit 0 with
   | true=>rw[if_pos c]at q;exact j4 q
   | false=>rw[if_neg (by rw[c];exact tO)]at q;exact jz q
theorem n7:((Str.ofString "outcome")==(Str.ofString "number"))=false:=by decide+kernel
theorem n8:((Str.ofString "outcome")==(Str.ofString "bits"))=false:=by decide+kernel
theorem Kv {CN CE a:Addr} {H:Hp} {w:W} {Q:VK} (h:ZL CN CE H a w) (ok:zO w) (q:∀H',qo H H'->Q (.str (ZC w)) H'):
   ∃a' dx fs,V.ref a=.ref a'/\fs.lookup (Str.ofString "outcome")=none/\((H a'=some (.ins CN dx fs)/\xa CN CE [V.ref a] H Q E0)\/(H a'=some (.ins CE dx fs)/\xc CN CE [V.ref a] H Q E0)):=by
 cases w with
 | num n=>obtain⟨dx,e⟩:=id h;exact⟨a,dx,_,rfl,Np n7,.inl ⟨e,a,n,rfl,h,q H λ_ _ z=>z⟩⟩
 | edl b=>obtain⟨dx,e⟩:=id h;exact⟨a,dx,_,rfl,Np n8,.inr ⟨e,a,b,rfl,h,ok,q⟩⟩
theorem K9 {X:Cx} (h:WF X.K X.mg) (B:QL X.mg) (hr:qV 2 X.A) {o:Expr} {ta:TE} {apos pos:Pos} {pl:Sem Bool} (he:JE X o ta)
   (ht:eval (.Call (.Attribute o "outcome" apos) [] [] pos) X.env=(eval o X.env >>= λov=>standAt apos.atName >>= λ_=>holding [ov] (getMethod ov "outcome" pl) >>= λr=>callWith pos r.1 r.2 (backTo pos (starEach [] X.env)) (backToKw pos (keywordEach [] X.env))):=by rfl):
   JE X (.Call (.Attribute o "outcome" apos) [] [] pos) (λσ H Q=>ta σ H λx H1=>∃a u,x=.ref a/\ZL h.CN h.CE H1 a u/\zO u/\∀H',qo H1 H'->Q (.str (ZC u)) H'):=
 WY (Wb (wK he) h.cN.cl h.nO.me h.gNO (hr.mono (by decide)) h.nO.bi h.cE.cl h.eO.me (h.gEO B) hr h.eO.bi ht) λσ H Q q=>⟨_,q,λx H1 ⟨a,u,e,i,k,q1⟩=>by subst e;exact Kv i k q1⟩
end
open PySem L2 PyProof.Rows MLab Rb
abbrev zL:Stmt:=top 26
abbrev Zf:Stmt:=top 29
abbrev MU:Stmt:=top 53
abbrev Ki:Stmt:=top 55
structure js (H:Hp) (h:Addr) (rs:jb) (hs:List Str):Prop where
 at_:H h=some (.lst (hs.map V.str))
 le:hs.length<=8
 in_:∀z∈hs,∃r∈rs,r.1=z
theorem js.mono {H H':Hp} {h:Addr} {rs:jb} {hs:List Str} (x:js H h rs hs) (s:qo H H'):js H' h rs hs:=⟨s _ _ x.at_,x.le,x.in_⟩
def vk (CG:Addr):Sp:=λvs H Q _=>∃(g:Addr) (rs:jb) (z:Str),vs=[.ref g,.str z]/\Qh CG H g rs/\(∃r∈rs,r.1=z)/\∀H',qo H H'->Q .non H'
def Zs (CG:Addr):Sp:=λvs H Q _=>∃(g h:Addr) (rs:jb) (hs:List Str),vs=[.ref g,.ref h]/\Qh CG H g rs/\js H h rs hs/\∀H',qo H H'->Q .non H'
def TK (H H':Hp):Prop:=∀a xs,H a=some (.tup xs)->H' a=some (.tup xs)
theorem TK.of {H H':Hp} (s:qo H H'):TK H H':=λa xs h=>s _ _ h
theorem TK.upd {H:Hp} {d:Addr} {o u:HO} (hd:H d=some o) (no:∀xs,o≠.tup xs):TK H (upd H d u):=λa xs h=>by
 rw[qi (λe=>by rw[e,hd]at h;exact no xs (tN.inj h))]
 exact h
def j0 (rs:jb) (z:Str):List Str:=match rs.find? (λr=>decide (r.1=z)) with
 | some r=>r.2
 | none=>[]
theorem zj {rs:jb} {r:Str×List Str} (hn:(rs.map (·.1)).Nodup) (h:r∈rs):j0 rs r.1=r.2:=by
 unfold j0
 rw[Xt hn h]
theorem qQ {rs:jb} (g:qD rs) {z y:Str} (hz:z∈rs.map (·.1)):y∈j0 rs z↔y∈Q7 rs z:=by
 obtain⟨r,hr,rfl⟩:=tL.mp hz
 rw[zj g.nd hr,vW g hr]
theorem qah {rs:jb} (g:qD rs) {num:Str->Option Nat} {stp:Str->Nat} (L:Ws (Q7 rs) (·∈rs.map (·.1)) num stp):Ws (j0 rs) (·∈rs.map (·.1)) num stp where
 cl:=λ{x y} hx hy=>L.cl hx ((qQ g hx).mp hy)
 n1:=λ{x n m} hx e lt=>let ⟨y,hy,k⟩:=L.n1 hx e lt;⟨y,(qQ g hx).mpr hy,k⟩
 n2:=λ{x y n} hx e hy=>L.n2 hx e ((qQ g hx).mp hy)
 n3:=λ{x y n} hx e hy gt=>let ⟨z,hz,k⟩:=L.n3 hx e ((qQ g hx).mp hy) gt;⟨z,(qQ g (L.cl hx ((qQ g hx).mp hy))).mpr hz,k⟩
 n4:=λ{x y n m} hx e hy=>L.n4 hx e ((qQ g hx).mp hy)
 e:=λ{x m} hx e lo hi=>by
   obtain⟨y,hy,ey,ly⟩:=L.e hx e (λj hj=>let ⟨y,hy,k⟩:=lo j hj;⟨y,(qQ g hx).mp hy,k⟩) (λy hy=>hi y ((qQ g hx).mpr hy))
   exact⟨y,(qQ g hx).mpr hy,ey,λz hz=>ly z ((qQ g (L.cl hx hy)).mp hz)⟩
section
variable {P:Program} {w:World} {K:PySem.W.Frag} {mg:Str->Option Value} {base:Heap}
abbrev Nt:List Str:=["ground","thing"]
theorem qa2:qt Nt Nt (qj zL):=⟨rfl,rfl,rfl,by decide+kernel,rfl,by decide+kernel,by decide+kernel⟩
theorem x5 {f CG:Addr} {fd:FuncData} (F:jI K "need_place" "need_place" zL f fd) (G:QE mg) (M:GM K mg CG):qm P w K mg base qK 2 f fd Nt (vk CG):=by
 obtain⟨fC,fdC,C⟩:=M.cls
 obtain⟨fN,fdN,hN⟩:=M.nm
 have GN:qm P w K mg base qK 1 fN fdN ["self"] (Z2 CG):=zN hN.fn C G
 refine F.okJ qa2 (λvs H Q E h=>?_) (λcdv A outer s H vs Q E hr h=>?_)
 . obtain⟨g,rs,z,rfl,_⟩:=h
   rfl
 . obtain⟨g,rs,z,rfl,gr,hz,q⟩:=h
   refine⟨_,qh (qM (qu JH (jv 1) (wO hN C.cl GN hr (jv 0)) (by with_unfolding_all rfl)) qW qE),?_⟩
   obtain⟨dx,fs,hg,l1,l2⟩:=gr.ins
   refine⟨_,rfl,_,rfl,g,dx,fs,rfl,hg,l1,g,rs,rfl,gr,λl hl=>⟨l,_,rfl,.inl (.of qe),rfl,Zz _,_,rfl,?_⟩⟩
   have e:Zx (.str z) ((rs.map (·.1)).map V.str)=true:=WZ (by obtain⟨r,hr',rfl⟩:=hz;exact tL.mpr ⟨r,hr',rfl⟩)
   show if (!Zx (.str z) ((rs.map (·.1)).map V.str))=true then _ else _
   rw[e]
   exact jz (q _ (ql hl))
abbrev nNH:List Str:=["ground","heap","thing"]
theorem MM:qt nNH ["ground","heap"] (qj Zf):=⟨rfl,rfl,rfl,by decide+kernel,rfl,by decide+kernel,by decide+kernel⟩
theorem VI {f fP CG:Addr} {fd fdP:FuncData} (F:jI K "need_heap" "need_heap" Zf f fd) (B:QL mg) (G:QE mg) (T:Qx K mg) (M:GM K mg CG) (hP:qU K mg "need_place" zL Nt fP fdP) (mt:∃t,mg "MOST_TOKENS"=some (.int 8 t)):qm P w K mg base qK 3 f fd ["ground","heap"] (Zs CG):=by
 have GP:qm P w K mg base qK 2 fP fdP Nt (vk CG):=x5 hP.fn G M
 obtain⟨tk,hmt⟩:=mt
 refine F.okJ MM (λvs H Q E h=>?_) (λcdv A outer s H vs Q E hr h=>?_)
 . obtain⟨g,h',rs,hs,rfl,_⟩:=h
   rfl
 . obtain⟨g,h',rs,hs,rfl,gr,hh,q⟩:=h
   refine⟨_,qf (qM (Ji (j2 (qJ jY (by rfl) T.isi boot_isinstance (qd (jv 1) (qd (JV (v:=.ty "list") (by rfl) G.lst boot_list rfl) qg))))) qW qE)
     (qf (qM (qu Yf (qJ jf (by rfl) B.len boot_len (qd (jv 1) qg)) (JU (v:=.int 8) (by rfl) hmt ⟨_,rfl⟩) (qC _)) qW qE)
     (qh (jd PassesOwn.never rfl (qN (jv 1)) (qA (i:=2) MM.nd rfl (Or.inl rfl)) (qh (jl (qH hP GP hr (by rfl) (qd (jv 0) (qd (jv 2) qg)))))))),?_⟩
   refine⟨_,rfl,_,_,_,_,rfl,rfl,.lst hh.at_,T.kll,_,rfl,jz ?_⟩
   refine⟨_,rfl,h',_,rfl,.inl (.of hh.at_),_,_,rfl,rfl,_,rfl,qT (decide_eq_false ?_) ?_⟩
   . have:=hh.le
     rw[tj]
     omega
   refine⟨_,rfl,h',rfl,⟨_,.of hh.at_⟩,?_⟩
   refine jr (K:=K) (a:=h') (xs:=hs.map V.str) (λi σ' G=>∃v,σ'=[some (.ref g),some (.ref h'),v]/\qo H G) ⟨_,rfl,qo.refl H⟩ (λi σ' G _ ⟨_,_,s⟩=>.of (s _ _ hh.at_)) ?_ ?_
   . rintro i y σ' G hy ⟨v,rfl,sG⟩
     obtain⟨z,ez,hz,rfl⟩:=j6 hy
     exact⟨_,rfl,_,rfl,g,rs,z,rfl,gr.mono sG,hh.in_ z hz,λH' s'=>⟨_,rfl,sG.trans s'⟩⟩
   . rintro σ' G ⟨v,rfl,sG⟩
     exact q G sG
end
def wT (rs:jb) (R:Rs Str) (z:Str):W:=match qG R z with
 | some n=>.num n
 | none=>.edl (setN (ZH rs (qG R) z))
theorem ZM {rs:jb} {R:Rs Str} {z:Str} {n:Nat} (e:qG R z=some n):wT rs R z=.num n:=by unfold wT;rw[e]
theorem Zb {rs:jb} {R:Rs Str} {z:Str} (e:qG R z=none):wT rs R z=.edl (setN (ZH rs (qG R) z)):=by unfold wT;rw[e]
theorem Rf {rs:jb} (good:qD rs) {R:Rs Str} (L:Ws (Q7 rs) (·∈rs.map (·.1)) (qG R) (Q6 R)) {z:Str} (hz:z∈rs.map (·.1)):zO (wT rs R z):=by
 cases e:qG R z with
 | some n=>
   rw[ZM e]
   have:=Xh good L hz e
   show n < 16
   omega
 | none=>
   rw[Zb e]
   show setN _ < 65536
   refine vw (m:=16) λx hx=>?_
   obtain⟨y,hy,ey⟩:=Qj.mp hx
   have:=Xh good L (L.cl hz hy) ey
   omega
theorem z6 (ns:List Nat):jJ ns=jQ ns:=by
 induction ns with
 | nil=>rfl
 | cons n ns ih=>rw[z8,ih,Zr]
theorem X6 {rs:jb} {R:Rs Str}:∀hs:List Str,QK (hs.map (wT rs R))=nums (qG R) hs
 | []=>rfl
 | z::hs=>by
   unfold QK nums
   rw[tW,zao,zao]
   have ih:=X6 (rs:=rs) (R:=R) hs
   unfold QK nums at ih
   cases e:qG R z with
   | some n=>rw[ZM e,ih]
   | none=>rw[Zb e,ih]
theorem zG {rs:jb} {R:Rs Str}:∀hs:List Str,(jX (hs.map (wT rs R))).length=ends (qG R) hs
 | []=>rfl
 | z::hs=>by
   unfold jX ends
   rw[tW,zao,zbv]
   have ih:=zG (rs:=rs) (R:=R) hs
   unfold jX ends at ih
   cases e:qG R z with
   | some n=>rw[ZM e];exact ih
   | none=>rw[Zb e];show _+1=_+1;rw[ih]
theorem kJ {rs:jb} {R:Rs Str} {p q:List Str} {x:Str} (ex:qG R x=none) (he:ends (qG R) (p++q)=0):jX ((p++x::q).map (wT rs R))=[setN (ZH rs (qG R) x)]:=by
 have h1:jX ((p++q).map (wT rs R))=[]:=zaz (by rw[zG];exact he)
 unfold jX at h1 ⊢
 rw[tI,zan,List.append_eq_nil_iff]at h1
 rw[tI,tW,zan,zao,Zb ex,h1.1,h1.2]
 rfl
theorem WI {rs:jb} (good:qD rs) {R:Rs Str} (L:Ws (Q7 rs) (·∈rs.map (·.1)) (qG R) (Q6 R)) {hs:List Str} (hk:∀z∈hs,z∈rs.map (·.1)):
   (Yr (mv (j0 rs)) hs/\ZC (Qg (hs.map (wT rs R)))="lost")\/(Won (mv (j0 rs)) hs/\ZC (Qg (hs.map (wT rs R)))="won")\/(¬Yr (mv (j0 rs)) hs/\¬Won (mv (j0 rs)) hs/\ZC (Qg (hs.map (wT rs R)))="drawn"):=by
 have LL:=qah good L
 have hl:=zG (rs:=rs) (R:=R) hs
 have en:jJ (QK (hs.map (wT rs R)))=jQ (nums (qG R) hs):=by rw[X6,z6]
 rw[zh LL hk,uJ LL hk]
 rcases zaE (ends (qG R) hs) 1 with c | c | c
 . have he:ends (qG R) hs=0:=by omega
   rw[he]at hl
   have e0:jX (hs.map (wT rs R))=[]:=zaz hl
   have et:Qg (hs.map (wT rs R))=.num (jQ (nums (qG R) hs)):=by unfold Qg;rw[e0,<-en]
   have nd:¬Drawn (j0 rs) (qG R) hs:=by
     rintro(⟨p,x,q,rfl,ex,_⟩ | h)
     . rw[jE ex]at he;omega
     . omega
   rw[et]
   by_cases x0:jQ (nums (qG R) hs)=0
   . exact .inl ⟨⟨he,x0⟩,if_pos x0⟩
   . exact .inr (.inl ⟨⟨nd,λz=>x0 z.2⟩,if_neg x0⟩)
 . obtain⟨p,x,q,rfl,ex⟩:=Zm.mp (by omega:0 < ends (qG R) hs)
   rw[jE ex]at c
   have he:ends (qG R) (p++q)=0:=by omega
   have hx:x∈rs.map (·.1):=hk x (by simp)
   have lt:jQ (nums (qG R) (p++x::q)) < 16:=by
     rw[<-z6]
     refine zA λn hn=>?_
     obtain⟨z,hz,ez⟩:=zaF.mp hn
     have:=Xh good L (hk z hz) ez
     omega
   have et:Qg ((p++x::q).map (wT rs R))=.edl (turnN (setN (ZH rs (qG R) x)) (jQ (nums (qG R) (p++x::q))) 16):=by
     unfold Qg
     rw[kJ ex he,<-en]
   have nz:¬Zero (qG R) (p++x::q):=λz=>by have:=z.1;rw[jE ex]at this;omega
   have eb:(turnN (setN (ZH rs (qG R) x)) (jQ (nums (qG R) (p++x::q))) 16).testBit 0=decide (jQ (nums (qG R) (p++q))∈ZH rs (qG R) x):=by
     rw[Qi lt,zcs,testBit_setN,Xg ex]
     simp
   rw[et]
   by_cases m:jQ (nums (qG R) (p++q))∈ZH rs (qG R) x
   . refine .inr (.inl ⟨⟨?_,nz⟩,?_⟩)
     . obtain⟨y,hy,ey⟩:=Qj.mp m
       have ly:y∈j0 rs x:=(qQ good hx).mpr hy
       intro d
       have zb:Zero (qG R) (p++y::q):=⟨by rw[je ey];exact he,by rw[jC ey,zbV]⟩
       exact Xv d ((jy _).mpr ⟨p,x,y,q,rfl,ly,rfl⟩) zb
     . show (if _ then _ else _)=_
       rw[eb,if_pos (decide_eq_true m)]
   . have d:Drawn (j0 rs) (qG R) (p++x::q):=.inl ⟨p,x,q,rfl,ex,he,λy hy ey=>m (Qj.mpr ⟨y,(qQ good hx).mp hy,ey⟩)⟩
     refine .inr (.inr ⟨nz,λh=>h.1 d,?_⟩)
     show (if _ then _ else _)=_
     rw[eb,decide_eq_false m]
     rfl
 . have d:Drawn (j0 rs) (qG R) hs:=.inr (by omega)
   have nz:¬Zero (qG R) hs:=λz=>by have:=z.1;omega
   have et:Qg (hs.map (wT rs R))=.edl 0:=by
     unfold Qg
     cases e:jX (hs.map (wT rs R)) with
     | nil=>rw[e]at hl;simp at hl;omega
     | cons a t=>
       cases t with
       | nil=>rw[e]at hl;simp at hl;omega
       | cons b t=>rfl
   rw[et]
   exact .inr (.inr ⟨nz,λh=>h.1 d,rfl⟩)
def RS (CN CE:Addr):Sp:=λvs H Q _=>∃(t:Addr) (rs:jb) (R:Rs Str) (z:Str),vs=[.ref t]/\H t=some (.tup (QH rs R z))/\zO (wT rs R z)/\∀a H',qo H H'->ZL CN CE H' a (wT rs R z)->Q (.ref a) H'
def Rl (CN CE:Addr):Sp:=λvs H Q _=>∃(D h:Addr) (rs:jb) (R:Rs Str) (hs:List Str),vs=[.ref D,.ref h]/\jA H D rs R/\js H h rs hs/\(∀z∈hs,zO (wT rs R z))/\∀a H',qo H H'->ZL CN CE H' a (Qg (hs.map (wT rs R)))->Q (.ref a) H'
section
variable {P:Program} {w:World} {K:PySem.W.Frag} {mg:Str->Option Value} {base:Heap}
theorem qa4:qt ["label"] ["label"] (qj MU):=⟨rfl,rfl,rfl,by decide+kernel,rfl,by decide+kernel,by decide+kernel⟩
theorem M6 {f:Addr} {fd:FuncData} (F:jI K "label_worth" "label_worth" MU f fd) (h:WF K mg) (B:QL mg) (T:Wk K mg):qm P w K mg base qK 5 f fd ["label"] (RS h.CN h.CE):=by
 refine F.okJ qa4 (λvs H Q E z=>?_) (λcdv A outer s H vs Q E hr z=>?_)
 . obtain⟨t,rs,R,z,rfl,_⟩:=z
   rfl
 . obtain⟨t,rs,R,z,rfl,ht,ok,q⟩:=z
   refine⟨_,qf (qM (qu jH (qY jc (jv 0) qk (λ_ _=>rfl)) qR (qC _)) (qh (qB (JR h.cN.mkr (h.gNI B T) hr (by rfl) h.cN.ns h.cN.bi .nil QJ (qd (qY jc (jv 0) qk (λ_ _=>rfl)) qg)))) qE)
     (qh (qB (JR h.cE.mkr (h.gEI B T) hr (by rfl) h.cE.ns h.cE.bi .nil QJ (qd (qY jc (jv 0) qk (λ_ _=>rfl)) qg)))),?_⟩
   cases e:qG R z with
   | some n=>
     rw[ZM e]at ok q
     have el:QH rs R z=[.str "number",.int (n:Nat),.int (Q6 R z:Nat)]:=by unfold QH;rw[e]
     rw[el]at ht
     refine⟨_,rfl,t,_,0,_,rfl,rfl,.of ht,rfl,rfl,_,rfl,jg (by decide+kernel) ?_⟩
     refine⟨_,rfl,t,_,1,_,rfl,rfl,.of ht,rfl,λx dx hx hd hne=>⟨x,dx,_,rfl,by omega,?_,qe,rfl,?_⟩⟩
     . have:n < 16:=ok
       omega
     . obtain⟨s1,i1⟩:=WQ (CN:=h.CN) (CE:=h.CE) (n:=n) hx hd hne
       exact q _ _ s1 i1
   | none=>
     rw[Zb e]at ok q
     have el:QH rs R z=[.str "endless",.int (setN (ZH rs (qG R) z):Nat)]:=by unfold QH;rw[e]
     rw[el]at ht
     refine⟨_,rfl,t,_,0,_,rfl,rfl,.of ht,rfl,rfl,_,rfl,qT (by decide+kernel) ?_⟩
     refine⟨_,rfl,t,_,1,_,rfl,rfl,.of ht,rfl,λx dx hx hd hne=>⟨x,dx,_,rfl,by omega,?_,qe,rfl,?_⟩⟩
     . have:setN (ZH rs (qG R) z) < 65536:=ok
       omega
     . obtain⟨s1,i1⟩:=WR (CN:=h.CN) (CE:=h.CE) (b:=setN (ZH rs (qG R) z)) hx hd hne
       exact q _ _ s1 i1
theorem MJ:qt ["labels","heap"] ["labels","heap"] (qj Ki):=⟨rfl,rfl,rfl,by decide+kernel,rfl,by decide+kernel,by decide+kernel⟩
theorem Nh {f fL fS:Addr} {fd fdL fdS:FuncData} (F:jI K "worth_by" "worth_by" Ki f fd) (h:WF K mg) (B:QL mg) (T:Wk K mg) (hL:qU K mg "label_worth" MU ["label"] fL fdL) (hS:qU K mg "sum_of" YW ["worths"] fS fdS):qm P w K mg base qK 8 f fd ["labels","heap"] (Rl h.CN h.CE):=by
 have GL:qm P w K mg base qK 5 fL fdL ["label"] (RS h.CN h.CE):=M6 hL.fn h B T
 have GS:qm P w K mg base qK 7 fS fdS ["worths"] (vg K h.CN h.CE):=x2 hS.fn h B T
 refine F.okJ MJ (λvs H Q E z=>?_) (λcdv A outer s H vs Q E hr z=>?_)
 . obtain⟨D,h',rs,R,hs,rfl,_⟩:=z
   rfl
 . obtain⟨D,h',rs,R,hs,rfl,lb,hh,ok,q⟩:=z
   have hu:=jU hr
   have r4:qV 5 _:=hr.mono (by decide)
   refine⟨_,qh (qB (qH hS GS hr (by rfl) (qd (Qd (N':=["place","labels"]) (ix:=[none,some 0]) (te:=z9 (RS h.CN h.CE) [] E0 (j3 (YQ (jo 1) (jo 0)) Zc)) rfl ⟨rfl,rfl,rfl,rfl,rfl⟩ (qN (jv 1)) (λC s2 H2 fp pins=>
       ⟨qA (i:=0) (show (["place","labels"]:List Str).Nodup by decide+kernel) rfl (Or.inl rfl),jL,qH hL GL r4 (by rfl) (qd (qX hu (jv 1) (jv 0) (λ_ _=>rfl)) qg)⟩)) qg))),?_⟩
   refine⟨_,rfl,h',rfl,⟨_,.of hh.at_⟩,λW hW=>?_⟩
   refine jZ (K:=K) (a:=h') (xs:=hs.map V.str) (λj σ'' G=>∃(v0:Option V) (as:List Addr),σ''=[v0,some (.ref D)]/\qo H G/\G W=some (.lst (as.map V.ref))/\Wl h.CN h.CE G as ((hs.take j).map (wT rs R)))
     ⟨none,[],rfl,ql hW,qe,rfl,λi a u e=>(nomatch e)⟩ (λj σ'' G _ ⟨_,_,_,s,_⟩=>.of (s _ _ hh.at_)) ?_ ?_
   . rintro j y σ'' G hy ⟨v0,as,rfl,sG,hG,wl⟩
     obtain⟨z,ez,hz,rfl⟩:=j6 hy
     obtain⟨kvs,hD,_,hv⟩:=(lb.mono sG).at_
     obtain⟨r,hr',er⟩:=hh.in_ z hz
     obtain⟨t,et,ht⟩:=hv r hr'
     rw[er]at et ht
     refine⟨_,rfl,_,rfl,D,_,rfl,by rw[<-et];exact jO.k (k:=(Sum.inr z:qL)) hD,t,rs,R,z,rfl,ht,ok z hz,λa G1 s1 ia=>?_⟩
     have l8:=hh.le
     have lw:=wl.1
     rw[tj,tS]at lw
     have nW:H W=none:=hW
     refine⟨_,s1 _ _ hG,by rw[tj];exact qp (by omega),_,as++[a],rfl,qo.upd (sG.trans s1) hW,by rw[tI];exact qe,?_⟩
     have up:∀{b:Addr} {u:Rb.W},ZL h.CN h.CE G1 b u->ZL h.CN h.CE (upd G1 W (.lst (as.map V.ref++[V.ref a]))) b u:=λ{b u} hb=>by
       have hW1:=s1 _ _ hG
       cases u with
       | num n=>obtain⟨dx,e⟩:=hb;exact⟨dx,by rw[qi (λq=>by rw[q,hW1]at e;cases e)];exact e⟩
       | edl n=>obtain⟨dx,e⟩:=hb;exact⟨dx,by rw[qi (λq=>by rw[q,hW1]at e;cases e)];exact e⟩
     rw[tQ,ez,tI]
     refine⟨by rw[tK,tK,wl.1];rfl,λi b u e1 e2=>?_⟩
     rcases QM e1 with ⟨i1,e1⟩ | ⟨i1,rfl⟩
     . rcases QM (show (zdP (wT rs R) (hs.take j)++[wT rs R z])[i]?=some u from e2) with ⟨_,e2⟩ | ⟨i2,_⟩
       . exact up ((wl.2 i b u e1 e2).same s1)
       . have:=wl.1;omega
     . rcases QM (show (zdP (wT rs R) (hs.take j)++[wT rs R z])[i]?=some u from e2) with ⟨i2,_⟩ | ⟨_,rfl⟩
       . have:=wl.1;omega
       . exact up ia
   . rintro σ'' G ⟨v0,as,rfl,sG,hG,wl⟩
     rw[tj,tG (tE _)]at wl
     refine⟨W,as,_,rfl,.of hG,wl,λu hu=>?_,λH' r s' i'=>q r H' (sG.trans s') i'⟩
     obtain⟨z,hz,rfl⟩:=tL.mp hu
     exact ok z hz
structure uz (K:PySem.W.Frag) (mg:Str->Option Value):Prop where
 place:∃f fd,qU K mg "need_place" zL Nt f fd
 heap:∃f fd,qU K mg "need_heap" Zf ["ground","heap"] f fd
 lw:∃f fd,qU K mg "label_worth" MU ["label"] f fd
 sum:∃f fd,qU K mg "sum_of" YW ["worths"] f fd
 wby:∃f fd,qU K mg "worth_by" Ki ["labels","heap"] f fd
 most:∃t,mg "MOST_TOKENS"=some (.int 8 t)
end
open PySem L2 PyProof.Rows MLab Rb
abbrev Zg:Stmt:=top 30
abbrev Yd:Stmt:=top 31
abbrev kN:Stmt:=top 56
abbrev vA:Stmt:=top 57
def mvT (rs:jb) (j:Nat) (z:Str):List (Nat×Str):=(Q7 rs z).map λe=>(j,e)
def mvs (rs:jb) (hs:List Str) (n:Nat):List (Nat×Str):=(zaa n).flatMap λj=>mvT rs j (zz hs j)
theorem Xi (rs:jb) (hs:List Str) (n:Nat):mvs rs hs (n+1)=mvs rs hs n++mvT rs n (zz hs n):=by
 unfold mvs
 rw[zcj,List.flatMap_append]
 simp
def X7 (m:Nat×Str):List V:=[.int (m.1:Int),.str m.2]
def jV (H:Hp) (ps:List Addr) (ms:List (Nat×Str)):Prop:=ps.length=ms.length/\∀(i:Nat) (p:Addr) (m:Nat×Str),ps[i]?=some p->ms[i]?=some m->H p=some (.tup (X7 m))
theorem jV.mono {H H':Hp} {ps:List Addr} {ms:List (Nat×Str)} (h:jV H ps ms) (s:qo H H'):jV H' ps ms:=⟨h.1,λi p m e1 e2=>s _ _ (h.2 i p m e1 e2)⟩
theorem jV.nil (H:Hp):jV H [] []:=⟨rfl,λi p m e=>by simp at e⟩
theorem jV.app {H:Hp} {ps qs:List Addr} {ms ns:List (Nat×Str)} (h:jV H ps ms) (k:jV H qs ns):jV H (ps++qs) (ms++ns):=by
 refine⟨by rw[tK,tK,h.1,k.1],λi p m e1 e2=>?_⟩
 by_cases hi:i < ps.length
 . rw[zaj hi]at e1
   rw[zaj (by rw[<-h.1];exact hi)]at e2
   exact h.2 i p m e1 e2
 . have hi':ps.length<=i:=Nat.le_of_not_lt hi
   rw[zaf hi']at e1
   rw[zaf (by rw[<-h.1];exact hi'),<-h.1]at e2
   exact k.2 _ p m e1 e2
theorem jV.one {H:Hp} {p:Addr} {m:Nat×Str} (h:H p=some (.tup (X7 m))):jV H [p] [m]:=by
 refine⟨rfl,λi p' m' e1 e2=>?_⟩
 cases i with
 | zero=>cases e1;cases e2;exact h
 | succ i=>simp at e1
theorem Zw {rs:jb} {hs:List Str} (g:qD rs) (le:rs.length<=14) (hi:∀z∈hs,∃r∈rs,r.1=z):∀n,n<=hs.length->(mvs rs hs n).length<=n*14
 | 0,_=>tE _
 | n+1,h=>by
   rw[Xi,tK]
   have h1:=Zw g le hi n (zag h)
   obtain⟨r,hr,e⟩:=hi _ (ZY h)
   have h2:=W1 (rs:=rs) (zz hs n)
   unfold mvT
   rw[tj]
   omega
theorem yu {rs:jb} (g:qD rs) {z:Str} (h:∃r∈rs,r.1=z):jD z=true:=by
 obtain⟨r,hr,rfl⟩:=h
 exact g.nm r hr
def vn (CG:Addr):Sp:=λvs H Q _=>∃(g h:Addr) (rs:jb) (hs:List Str),vs=[.ref g,.ref h]/\Qh CG H g rs/\qD rs/\rs.length<=14/\js H h rs hs/\
 ∀H' l ps,qo H H'->H l=none->H' l=some (.lst (ps.map V.ref))->jV H' ps (mvs rs hs hs.length)->Q (.ref l) H'
def mD (m:Nat×Str):PyData:=.tuple [.int (m.1:Int),.str m.2]
theorem jV.tail {H:Hp} {p:Addr} {ps:List Addr} {m:Nat×Str} {ms:List (Nat×Str)} (h:jV H (p::ps) (m::ms)):jV H ps ms:=⟨zcO.inj h.1,λi a b e1 e2=>h.2 (i+1) a b (by simpa using e1) (by simpa using e2)⟩
theorem RL {K:PySem.W.Frag} {H:Hp} {p:Addr} {m:Nat×Str} (h:H p=some (.tup (X7 m))):DV K H (.ref p) (mD m):=.tup (.of h) (.cons (.int _) (.cons (.str _) .nil))
theorem U4 {K:PySem.W.Frag} {H:Hp}:∀{ps:List Addr} {ms:List (Nat×Str)},jV H ps ms->DVs K H (ps.map V.ref) (ms.map mD)
 | [],[],_=>.nil
 | [],_::_,h=>by cases h.1
 | _::_,[],h=>by cases h.1
 | p::ps,m::ms,h=>.cons (RL (h.2 0 p m rfl rfl)) (U4 h.tail)
theorem UY:∀{ms:List (Nat×Str)},(∀m∈ms,jD m.2=true)->PyData.canLayAll0 (ms.map mD)=true
 | [],_=>rfl
 | m::ms,h=>by
   rw[tW,PyData.canLayAll0,UY λy hy=>h y (tZ _ hy),Bool.and_true]
   show (true&&(PyData.strOk m.2&&true))=true
   rw[vQ (h m t9)]
   rfl
theorem QO {rs:jb} {hs:List Str} {n:Nat} {m:Nat×Str} (h:m∈mvs rs hs n):m.1 < n/\m.2∈Q7 rs (zz hs m.1):=by
 unfold mvs at h
 obtain⟨j,hj,h2⟩:=List.mem_flatMap.mp h
 obtain⟨e,he,rfl⟩:=tL.mp h2
 exact⟨zaQ.mp hj,he⟩
theorem VN {rs:jb} {hs:List Str} (g:qD rs) (hi:∀z∈hs,∃r∈rs,r.1=z):∀m∈mvs rs hs hs.length,jD m.2=true:=λm hm=>by
 obtain⟨h1,h2⟩:=QO hm
 obtain⟨r,hr,e⟩:=hi _ (ZY h1)
 rw[<-e,JZ g.nd hr]at h2
 exact yu g (VB h2)
def zD:Sp:=λvs H Q _=>∃(h p:Addr) (hs:List Str) (m:Nat×Str),vs=[.ref h,.ref p]/\H h=some (.lst (hs.map V.str))/\H p=some (.tup (X7 m))/\m.1 < hs.length/\∀l,H l=none->Q (.ref l) (upd H l (.lst ((hs.set m.1 m.2).map V.str)))
theorem atI_get {xs:List V} {r:Int} (h0:0<=r) (h1:r < (xs.length:Int)):∃v,km xs r=some v/\xs[r.toNat]?=some v:=by
 have:r.toNat < xs.length:=by omega
 refine⟨xs[r.toNat],?_,tF this⟩
 unfold km Gh
 rw[if_pos h0,if_pos h1]
 exact tF this
theorem jF.fr' {H H':Hp} {l d:Addr} {ps:List Addr} {rs:jb} {kv:List (qL×V)} (h:jF H l ps rs) (hd:H d=some (.dK kv)) (s:Fr H d H'):jF H' l ps rs:=by
 refine⟨s _ _ h.at_ (λe=>?_),⟨h.rows.1,λi p r e1 e2=>?_⟩,h.good,h.pos,h.le⟩
 . have:=h.at_
   rw[e,hd]at this
   cases this
 . obtain⟨q,a,b⟩:=h.rows.2 i p r e1 e2
   exact⟨q,s _ _ a (λe=>by rw[e,hd]at a;cases a),s _ _ b (λe=>by rw[e,hd]at b;cases b)⟩
section
variable {P:Program} {w:World} {K:PySem.W.Frag} {mg:Str->Option Value} {base:Heap}
abbrev nMo:List Str:=["ground","heap","moves","token","place"]
theorem Kc:qt nMo ["ground","heap"] (qj Zg):=⟨rfl,rfl,rfl,by decide+kernel,rfl,by decide+kernel,by decide+kernel⟩
theorem wc {f fH fP CG:Addr} {fd fdH fdP:FuncData} (F:jI K "moves_of" "moves_of" Zg f fd) (B:QL mg) (G:QE mg) (T:Qx K mg) (M:GM K mg CG) (hP:qU K mg "need_place" zL Nt fP fdP) (mt:∃t,mg "MOST_TOKENS"=some (.int 8 t))
   (hH:qU K mg "need_heap" Zf ["ground","heap"] fH fdH):qm P w K mg base qK 4 f fd ["ground","heap"] (vn CG):=by
 obtain⟨fC,fdC,C⟩:=M.cls
 obtain⟨fR,fdR,hR⟩:=M.fr
 obtain⟨fN,fdN,hN⟩:=M.isn
 have GH:qm P w K mg base qK 3 fH fdH ["ground","heap"] (Zs CG):=VI hH.fn B G T M hP mt
 have GR:qm P w K mg base qK 2 fR fdR ["self","name"] (Yy CG):=Xf hR.fn C B G T hN
 refine F.okJ Kc (λvs H Q E h=>?_) (λcdv A outer s H vs Q E hr h=>?_)
 . obtain⟨g,h',rs,hs,rfl,_⟩:=h
   rfl
 . obtain⟨g,h',rs,hs,rfl,gr,gd,le,hh,q⟩:=h
   have r2:qV 2 (A.deeper (envOfC "moves_of" (qj Zg) s.heap.objs.size f cdv)):=hr.mono (by decide)
   refine⟨_,qf (jl (qH hH GH hr (by rfl) (qd (jv 0) (qd (jv 1) qg))))
     (qf (qw (i:=2) Kc.nd rfl (Or.inl rfl) (jS qg))
     (qf (jd PassesOwn.never rfl (YG (by rfl) T.enu (qd (jv 1) qg)) (ZU rfl (jx (qA (i:=3) Kc.nd rfl (Or.inr rfl)) (jx (qA (i:=4) Kc.nd rfl (Or.inl rfl)) JQ)))
       (qh (jl (zm zaA zcc zcd zQ (jv 2) (qd
         (Qd (N':=["end","token"]) (ix:=[none,some 3]) (te:=yV (j3 (jo 1) (j3 (jo 0) Zc))) rfl ⟨rfl,rfl,rfl,rfl,rfl⟩ (qN (vU hR C.cl GR r2 (jv 0) (qd (jv 4) qg))) (λC s2 H2 fp pins=>
           ⟨qA (i:=0) (show (["end","token"]:List Str).Nodup by decide+kernel) rfl (Or.inl rfl),jL,Qm (qd (jv 1) (qd (jv 0) qg))⟩)) qg)))))
     (qh (qB (jv 2))))),?_⟩
   refine⟨_,rfl,_,rfl,g,h',rs,hs,rfl,gr,hh,λH1 s1=>?_⟩
   refine⟨by show 0<=sizeLine;decide,λl hl=>?_⟩
   have hl0:H l=none:=by
     cases z:H l with
     | none=>rfl
     | some u=>rw[s1 _ _ z]at hl;cases hl
   have s2:qo H (upd H1 l (.lst [])):=s1.trans (ql hl)
   have hl2:upd H1 l (.lst []) l=some (.lst []):=qe
   generalize upd H1 l (.lst [])=H2 at s2 hl2
   refine⟨_,rfl,h',rfl,⟨_,.of (s2 _ _ hh.at_)⟩,?_⟩
   refine zr (K:=K) (a:=h') (xs:=hs.map V.str) (λi σ' G=>∃v3 v4 ps,σ'=[some (.ref g),some (.ref h'),some (.ref l),v3,v4]/\qo H G/\G l=some (.lst (ps.map V.ref))/\jV G ps (mvs rs hs i))
     ⟨_,_,[],rfl,s2,hl2,jV.nil _⟩ (λi σ' G _ ⟨_,_,_,_,s,_⟩=>.of (s _ _ hh.at_)) ?_ ?_
   . rintro i y σ' G p hy hp ⟨v3,v4,ps,rfl,sG,hlG,mv⟩
     obtain⟨z,ez,hz,rfl⟩:=j6 hy
     have hi:=(tw.mp ez).1
     have ezz:zz hs i=z:=by
       have:=Zq hi
       rw[ez]at this
       exact(tN.inj this).symm
     refine⟨p,_,rfl,.of qe,rfl,_,_,rfl,_,_,rfl,rfl,?_⟩
     have sP:qo G (upd G p (.tup [.int (i:Nat),.str z])):=ql hp
     have sGP:=sG.trans sP
     have hlP:=sP _ _ hlG
     have mvP:=mv.mono sP
     generalize upd G p (.tup [.int (i:Nat),.str z])=G1 at sP sGP hlP mvP
     obtain⟨r,hr',er⟩:=hh.in_ z hz
     obtain⟨dx,fs,hg,l1,l2⟩:=(gr.mono sGP).ins
     refine⟨_,rfl,.inl ⟨rfl,_,.of hlP⟩,_,rfl,g,dx,fs,rfl,hg,l2,_,rfl,g,rs,r,by rw[er];rfl,gr.mono sGP,hr',gd.nm r hr',λG2 e s2' he=>?_⟩
     have sE:qo G1 (upd G2 e (.lst ((Qu rs r).map V.str))):=s2'.trans (ql he)
     have hE:upd G2 e (.lst ((Qu rs r).map V.str)) e=some (.lst ((Qu rs r).map V.str)):=qe
     generalize upd G2 e (.lst ((Qu rs r).map V.str))=G3 at sE hE
     refine⟨e,rfl,⟨_,.of hE⟩,λD hD=>?_⟩
     refine jZ (K:=K) (a:=e) (xs:=(Qu rs r).map V.str) (λj σ'' G4=>∃v0 qs,σ''=[v0,some (.int (i:Nat))]/\qo G3 G4/\G4 D=some (.lst (qs.map V.ref))/\jV G4 qs (((Qu rs r).take j).map λy=>(i,y)))
       ⟨none,[],rfl,ql hD,qe,jV.nil _⟩ (λj σ'' G4 _ ⟨_,_,_,s,_⟩=>.of (s _ _ hE)) ?_ ?_
     . rintro j y σ'' G4 hy ⟨v0,qs,rfl,s4,hD4,mq⟩
       obtain⟨x,ex,hx,rfl⟩:=j6 hy
       have hj:=(tw.mp ex).1
       refine⟨_,rfl,_,rfl,by show 2<=sizeLine;decide,λt ht=>⟨_,qv hD4 ht,?_,_,qs++[t],rfl,?_,?_,?_⟩⟩
       . rw[tj,mq.1,tj,tS]
         have:=Y8 (rs:=rs) r
         exact qp (by omega)
       . exact qo.upd (s4.trans (ql ht)) hD
       . rw[qe,tI]
         rfl
       . have nt:t≠D:=λz=>by rw[z,hD4]at ht;cases ht
         have e1:jV (upd (upd G4 t (.tup [.int (i:Nat),.str x])) D (.lst (qs.map V.ref++[.ref t]))) qs (((Qu rs r).take j).map λy=>(i,y)):=⟨mq.1,λk p' m a b=>by
           have z:=mq.2 k p' m a b
           have n1:p'≠D:=λe=>by rw[e,hD4]at z;cases z
           rw[qi n1]
           exact qv z ht⟩
         rw[tQ,ex,tI]
         exact e1.app (jV.one (by rw[qi nt];exact qe))
     . rintro σ'' G4 ⟨v0,qs,rfl,s4,hD4,mq⟩
       rw[tj,tG (tE _)]at mq
       have sHG:qo H G4:=(sGP.trans sE).trans s4
       have hl4:=s4 _ _ (sE _ _ hlP)
       have mv4:=(mvP.mono sE).mono s4
       have ml:=Zw gd le hh.in_ i (zag hi)
       have l8:=hh.le
       have rl:=Y8 (rs:=rs) r
       refine⟨l,D,_,_,rfl,rfl,hl4,hD4,?_,?_⟩
       . rw[tj,tj,mv4.1,mq.1,tj]
         exact zag (qp (by omega))
       . refine⟨_,_,ps++qs,rfl,qo.upd sHG hl0,by rw[qe,tI],?_⟩
         rw[Xi,ezz,mvT,<-er,JZ gd.nd hr']
         have ne:∀{p':Addr} {m:Nat×Str},G4 p'=some (.tup (X7 m))->p'≠l:=λh e=>by rw[e,hl4]at h;cases h
         have up:∀{ps:List Addr} {ms:List (Nat×Str)},jV G4 ps ms->jV (upd G4 l (.lst (zdP V.ref ps++zdP V.ref qs))) ps ms:=λh=>⟨h.1,λk p' m a b=>by
           have z:=h.2 k p' m a b
           rw[qi (ne z)]
           exact z⟩
         refine jV.app ?_ ?_
         . exact⟨mv4.1,λk p' m a b=>by
             have z:=mv4.2 k p' m a b
             rw[qi (ne z)]
             exact z⟩
         . exact⟨mq.1,λk p' m a b=>by
             have z:=mq.2 k p' m a b
             rw[qi (ne z)]
             exact z⟩
   . rintro σ' G ⟨v3,v4,ps,rfl,sG,hlG,mv⟩
     rw[tj]at mv
     exact⟨_,rfl,q G l ps sG hl0 hlG mv⟩
abbrev nLy:List Str:=["heap","move","left"]
theorem MN:qt nLy ["heap","move"] (qj Yd):=⟨rfl,rfl,rfl,by decide+kernel,rfl,by decide+kernel,by decide+kernel⟩
theorem WO {f:Addr} {fd:FuncData} (F:jI K "left_by" "left_by" Yd f fd) (G:QE mg):qm P w K mg base qK 1 f fd ["heap","move"] zD:=by
 refine F.okJ MN (λvs H Q E h=>?_) (λcdv A outer s H vs Q E hr h=>?_)
 . obtain⟨h',p,hs,m,rfl,_⟩:=h
   rfl
 . obtain⟨h',p,hs,m,rfl,hh,hp,hm,q⟩:=h
   refine⟨_,qf (qw (i:=2) MN.nd rfl (Or.inl rfl) (jw Qp (by rfl) G.lst boot_list (qd (jv 0) qg)))
     (qf (NJ (qY jc (jv 1) qk (λ_ _=>rfl)) (NO (jv 2) (qY jc (jv 1) qk (λ_ _=>rfl)) xo))
     (qh (qB (jv 2)))),?_⟩
   refine⟨_,rfl,h',_,rfl,.inl (.of hh),λl hl=>?_⟩
   refine⟨_,rfl,p,_,1,_,rfl,rfl,.of (qv hp hl),rfl,_,rfl,_,rfl,p,_,0,_,rfl,rfl,.of (qv hp hl),rfl,l,_,(m.1:Int),m.1,rfl,rfl,qe,?_,_,rfl,?_⟩
   . unfold Gh
     rw[if_pos (by omega),if_pos (by rw[tj];omega)]
     rfl
   . have e:(hs.map V.str).set m.1 (.str m.2)=(hs.set m.1 m.2).map V.str:=by rw[List.map_set]
     rw[jB,e]
     exact q l hl
end
def lf (hs:List Str) (m:Nat×Str):List Str:=hs.set m.1 m.2
def Yq (H:Hp) (ts:List Addr) (os:List ((Nat×Str)×Str)):Prop:=ts.length=os.length/\∀(i:Nat) (t:Addr) (o:(Nat×Str)×Str),ts[i]?=some t->os[i]?=some o->∃p,H t=some (.tup [.ref p,.str o.2])/\H p=some (.tup (X7 o.1))
theorem Yq.tk {H H':Hp} {ts:List Addr} {os:List ((Nat×Str)×Str)} (h:Yq H ts os) (k:TK H H'):Yq H' ts os:=⟨h.1,λi t o e1 e2=>let ⟨p,a,b⟩:=h.2 i t o e1 e2;⟨p,k _ _ a,k _ _ b⟩⟩
theorem Yq.nil {H:Hp}:Yq H [] []:=⟨rfl,λi t o e=>(nomatch e)⟩
theorem Yq.snoc {H:Hp} {ts:List Addr} {os:List ((Nat×Str)×Str)} {t p:Addr} {o:(Nat×Str)×Str} (h:Yq H ts os) (ht:H t=some (.tup [.ref p,.str o.2])) (hp:H p=some (.tup (X7 o.1))):Yq H (ts++[t]) (os++[o]):=by
 refine⟨by rw[tK,tK,h.1];rfl,λi t' o' e1 e2=>?_⟩
 rcases QM e1 with ⟨i1,e1⟩ | ⟨i1,rfl⟩
 . rcases QM e2 with ⟨_,e2⟩ | ⟨i2,_⟩
   . exact h.2 i t' o' e1 e2
   . have:=h.1;omega
 . rcases QM e2 with ⟨i2,_⟩ | ⟨_,rfl⟩
   . have:=h.1;omega
   . exact⟨p,ht,hp⟩
theorem zi {rs:jb} (g:qD rs) {hs:List Str} (hi:∀z∈hs,∃r∈rs,r.1=z) {m:Nat×Str} (hm:m∈mvs rs hs hs.length):∀z∈lf hs m,∃r∈rs,r.1=z:=λz hz=>by
 obtain⟨h1,h2⟩:=QO hm
 obtain⟨r,hr,e⟩:=hi _ (ZY h1)
 unfold lf at hz
 rcases List.mem_or_eq_of_mem_set hz with h | h
 . exact hi z h
 . rw[h]
   exact tL.mp (QI g.nd _ (tL.mpr ⟨r,hr,e⟩) _ h2)
def WJ (rs:jb) (R:Rs Str) (hs:List Str):List ((Nat×Str)×Str):=(mvs rs hs hs.length).map λm=>(m,ZC (Qg ((lf hs m).map (wT rs R))))
def XY:Sp:=λvs H Q _=>∃(D h:Addr) (rs:jb) (R:Rs Str) (hs:List Str),vs=[.ref D,.ref h]/\jA H D rs R/\js H h rs hs/\(∀z∈hs,zO (wT rs R z))/\∀H',qo H H'->Q (.str (ZC (Qg (hs.map (wT rs R))))) H'
def xf (CG:Addr):Sp:=λvs H Q _=>∃(g D h:Addr) (rs:jb) (R:Rs Str) (hs:List Str),vs=[.ref g,.ref D,.ref h]/\Qh CG H g rs/\qD rs/\rs.length<=14/\jA H D rs R/\Ws (Q7 rs) (·∈rs.map (·.1)) (qG R) (Q6 R)/\js H h rs hs/\
 ∀H' L ts,qo H H'->H L=none->H' L=some (.lst (ts.map V.ref))->Yq H' ts (WJ rs R hs)->Q (.ref L) H'
section
variable {P:Program} {w:World} {K:PySem.W.Frag} {mg:Str->Option Value} {base:Heap}
structure Ra (K:PySem.W.Frag) (mg:Str->Option Value):Prop where
 mo:∃f fd,qU K mg "moves_of" Zg ["ground","heap"] f fd
 lb:∃f fd,qU K mg "left_by" Yd ["heap","move"] f fd
 oby:∃f fd,qU K mg "outcome_by" kN ["labels","heap"] f fd
 osby:∃f fd,qU K mg "outcomes_by" vA ["ground","labels","heap"] f fd
theorem MK:qt ["labels","heap"] ["labels","heap"] (qj kN):=⟨rfl,rfl,rfl,by decide+kernel,rfl,by decide+kernel,by decide+kernel⟩
theorem x6 {f:Addr} {fd:FuncData} (F:jI K "outcome_by" "outcome_by" kN f fd) (h:WF K mg) (B:QL mg) (Z:Wk K mg) (O:uz K mg):qm P w K mg base qK 9 f fd ["labels","heap"] XY:=by
 obtain⟨fL,fdL,hL⟩:=O.lw
 obtain⟨fS,fdS,hS⟩:=O.sum
 obtain⟨fW,fdW,hW⟩:=O.wby
 have GW:qm P w K mg base qK 8 fW fdW ["labels","heap"] (Rl h.CN h.CE):=Nh hW.fn h B Z hL hS
 refine F.okJ MK (λvs H Q E z=>?_) (λcdv A outer s H vs Q E hr z=>?_)
 . obtain⟨D,h',rs,R,hs,rfl,_⟩:=z
   rfl
 . obtain⟨D,h',rs,R,hs,rfl,lb,hh,ok,q⟩:=z
   refine⟨_,qh (qB (K9 h B (hr.mono (by decide)) (qH hW GW hr (by rfl) (qd (jv 0) (qd (jv 1) qg))))),?_⟩
   refine⟨_,rfl,_,rfl,D,h',rs,R,hs,rfl,lb,hh,ok,λa H1 s1 i1=>⟨a,_,rfl,i1,?_,λH2 s2=>q H2 (s1.trans s2)⟩⟩
   refine yR λu hu=>?_
   obtain⟨z,hz,rfl⟩:=tL.mp hu
   exact ok z hz
theorem RW:qt ["ground","labels","heap"] ["ground","labels","heap"] (qj vA):=⟨rfl,rfl,rfl,by decide+kernel,rfl,by decide+kernel,by decide+kernel⟩
theorem KE {f CG:Addr} {fd:FuncData} (F:jI K "outcomes_by" "outcomes_by" vA f fd) (h:WF K mg) (B:QL mg) (Z:Wk K mg) (G:QE mg) (T:Qx K mg) (M:GM K mg CG) (O:uz K mg) (V1:Ra K mg):qm P w K mg base qK 10 f fd ["ground","labels","heap"] (xf CG):=by
 obtain⟨fP,fdP,hP⟩:=O.place
 obtain⟨fH,fdH,hH⟩:=O.heap
 obtain⟨fM,fdM,hM⟩:=V1.mo
 obtain⟨fL,fdL,hL⟩:=V1.lb
 obtain⟨fB,fdB,hB⟩:=V1.oby
 have GM:qm P w K mg base qK 4 fM fdM ["ground","heap"] (vn CG):=wc hM.fn B G T M hP O.most hH
 have GL:qm P w K mg base qK 1 fL fdL ["heap","move"] zD:=WO hL.fn G
 have GB:qm P w K mg base qK 9 fB fdB ["labels","heap"] XY:=x6 hB.fn h B Z O
 refine F.okJ RW (λvs H Q E z=>?_) (λcdv A outer s H vs Q E hr z=>?_)
 . obtain⟨g,D,h',rs,R,hs,rfl,_⟩:=z
   rfl
 . obtain⟨g,D,h',rs,R,hs,rfl,gr,good,le,lb,L,hh,q⟩:=z
   have r1:qV 1 _:=hr.mono (by decide)
   have r4:qV 4 _:=hr.mono (by decide)
   refine⟨_,qh (qB (Qd (N':=["move","labels","heap"]) (ix:=[none,some 1,some 2])
       (te:=yV (j3 (jo 0) (j3 (z9 XY [] E0 (j3 (jo 1) (j3 (z9 zD [] E0 (j3 (jo 2) (j3 (jo 0) Zc))) Zc))) Zc)))
       rfl ⟨rfl,rfl,rfl,rfl,rfl⟩ (qN (qH hM GM r4 (by rfl) (qd (jv 0) (qd (jv 2) qg)))) (λC s2 H2 fp pins=>
       ⟨qA (i:=0) (show (["move","labels","heap"]:List Str).Nodup by decide+kernel) rfl (Or.inl rfl),jL,
         Qm (qd (jv 0) (qd (qH hB GB hr (by rfl) (qd (jv 1) (qd (qH hL GL r1 (by rfl) (qd (jv 2) (qd (jv 0) qg))) qg))) qg))⟩))),?_⟩
   refine⟨_,rfl,_,rfl,g,h',rs,hs,rfl,gr,good,le,hh,λH1 lm ps s1 hlm hlm1 mv=>⟨lm,rfl,⟨_,.of hlm1⟩,λW hW=>?_⟩⟩
   have l8:=hh.le
   have lmv:(mvs rs hs hs.length).length<=112:=by
     have:=Zw good le hh.in_ hs.length (tE _)
     omega
   have lps:=mv.1
   refine jZ (K:=K) (a:=lm) (xs:=ps.map V.ref) (λj σ'' G1=>∃(v0:Option V) (ts:List Addr),σ''=[v0,some (.ref D),some (.ref h')]/\qo H1 G1/\G1 W=some (.lst (ts.map V.ref))/\Yq G1 ts ((WJ rs R hs).take j))
     ⟨none,[],rfl,ql hW,qe,.nil⟩ (λj σ'' G1 _ ⟨_,_,_,s,_⟩=>.of (s _ _ hlm1)) ?_ ?_
   . rintro j y σ'' G1 hy ⟨v0,ts,rfl,sG,hWG,os⟩
     rw[tH]at hy
     cases ep:ps[j]? with
     | none=>rw[ep]at hy;cases hy
     | some p=>
       rw[ep]at hy
       obtain rfl:=(tN.inj hy).symm
       have hj:=(tw.mp ep).1
       have hj':j < (mvs rs hs hs.length).length:=by omega
       have em:(mvs rs hs hs.length)[j]?=some (mvs rs hs hs.length)[j]:=tF hj'
       have hmm:=zbi hj'
       generalize (mvs rs hs hs.length)[j]=m at em hmm
       have hp:=sG _ _ (mv.2 j p m ep em)
       have sA:=s1.trans sG
       refine⟨_,rfl,_,rfl,_,rfl,_,rfl,h',p,hs,m,rfl,sA _ _ hh.at_,hp,(QO hmm).1,λll hll=>?_⟩
       have sB:qo G1 (upd G1 ll (.lst ((hs.set m.1 m.2).map V.str))):=ql hll
       have hB1:upd G1 ll (.lst ((hs.set m.1 m.2).map V.str)) ll=some (.lst ((lf hs m).map V.str)):=qe
       generalize upd G1 ll (.lst ((hs.set m.1 m.2).map V.str))=G2 at sB hB1
       have lin:=zi good hh.in_ hmm
       refine⟨D,ll,rs,R,lf hs m,rfl,(lb.mono sA).mono sB,⟨hB1,by unfold lf;rw[zbJ];exact l8,lin⟩,λz hz=>?_,λG3 s3=>?_⟩
       . obtain⟨r,hr',e⟩:=lin z hz
         exact Rf good L (tL.mpr ⟨r,hr',e⟩)
       . refine⟨by show 2<=sizeLine;decide,λt ht=>?_⟩
         have s13:qo G1 G3:=sB.trans s3
         have eo:(WJ rs R hs)[j]?=some (m,ZC (Qg ((lf hs m).map (wT rs R)))):=by unfold WJ;rw[tH,em];rfl
         have lts:=os.1
         rw[tS]at lts
         have hWt:upd G3 t (.tup [V.ref p,.str (ZC (Qg ((lf hs m).map (wT rs R))))]) W=some (.lst (ts.map V.ref)):=qv (s13 _ _ hWG) ht
         refine⟨_,hWt,by rw[tj];exact qp (by omega),_,ts++[t],rfl,qo.upd (sG.trans (s13.trans (ql ht))) hW,by rw[tI];exact qe,?_⟩
         rw[tQ,eo]
         refine((os.tk (.of (s13.trans (ql ht)))).snoc (t:=t) (p:=p) (o:=(m,ZC (Qg ((lf hs m).map (wT rs R))))) qe (qv (s13 _ _ hp) ht)).tk ?_
         exact TK.upd hWt λxs=>by simp
   . rintro σ'' G1 ⟨v0,ts,rfl,sG,hWG,os⟩
     have el:(ps.map V.ref).length=(WJ rs R hs).length:=by unfold WJ;rw[tj,tj,lps]
     rw[el,tG (tE _)]at os
     exact q G1 W ts (s1.trans sG) (ju s1 hW) hWG os
end
open PySem L2 PyProof.Rows MLab
abbrev Jo:Stmt:=top 74
abbrev Zv:Stmt:=top 75
abbrev ZQ:Stmt:=top 76
abbrev za:Stmt:=top 77
abbrev Zu:Stmt:=top 79
structure RI (H:Hp) (d:Addr) (rs:jb):Prop where
 at_:∃(o:Obj) (kvs:List (qL×V)),H d=some (.frz o (.dK kvs))/\kvs.map (·.1)=(rs.map (·.1)).map Sum.inr/\∀r∈rs,∃q,jj kvs (Sum.inr r.1:qL)=some (.ref q)/\H q=some (.tup (r.2.map V.str))
theorem RI.mono {H H':Hp} {d:Addr} {rs:jb} (h:RI H d rs) (s:qo H H'):RI H' d rs:=⟨let ⟨o,kvs,a,b,c⟩:=h.at_;⟨o,kvs,s _ _ a,b,λr hr=>let ⟨q,u,v⟩:=c r hr;⟨q,u,s _ _ v⟩⟩⟩
theorem RI.get {H:Hp} {d:Addr} {rs:jb} (h:RI H d rs) (g:qD rs) {z:Str} (hz:z∈rs.map (·.1)):∃q,jO H d (.str z) (some (.ref q))/\H q=some (.tup ((j0 rs z).map V.str)):=by
 obtain⟨o,kvs,a,b,c⟩:=h.at_
 obtain⟨r,hr,rfl⟩:=tL.mp hz
 obtain⟨q,u,v⟩:=c r hr
 refine⟨q,?_,by rw[zj g.nd hr];exact v⟩
 rw[<-u]
 exact .inl ⟨kvs,Sum.inr r.1,.inr ⟨o,a⟩,rfl,rfl⟩
theorem YF {rs:jb} (g:qD rs) {z y:Str} (hz:z∈rs.map (·.1)) (hy:y∈j0 rs z):y∈rs.map (·.1):=QI g.nd _ hz _ ((qQ g hz).mp hy)
theorem wH {rs:jb} (g:qD rs) {z:Str} (hz:z∈rs.map (·.1)):(j0 rs z).length<=40:=by
 obtain⟨r,hr,rfl⟩:=tL.mp hz
 rw[zj g.nd hr]
 exact g.two hr
def kn (rs:jb) (f:Str->Option Nat) (z:Str):List Nat:=(j0 rs z).filterMap f
theorem UQ {rs:jb} {f:Str->Option Nat} {z:Str} {n:Nat}:n∈kn rs f z↔∃y∈j0 rs z,f y=some n:=zaF
theorem zp {rs:jb} {f:Str->Option Nat} {z:Str} {n:Nat}:Ys (j0 rs) f z n↔(∀j,j < n->j∈kn rs f z)/\n∉kn rs f z/\∀y∈j0 rs z,f y=none->n∈kn rs f y:=by
 unfold Ys
 simp only[UQ]
 constructor
 . rintro⟨a,b,c⟩
   exact⟨a,λ⟨y,hy,e⟩=>b y hy e,c⟩
 . rintro⟨a,b,c⟩
   exact⟨a,λy hy e=>b ⟨y,hy,e⟩,c⟩
structure QP (N:List Str) (H:Hp) (d:Addr) (f:Str->Option (Nat×Nat)):Prop where
 at_:∃kvs:List (qL×V),H d=some (.dK kvs)/\(∀z,f z=none->jj kvs (Sum.inr z:qL)=none)/\(∀z n s,f z=some (n,s)->∃t,jj kvs (Sum.inr z:qL)=some (.ref t)/\H t=some (.tup [.int (n:Nat),.int (s:Nat)]))/\(kvs.map (·.1)).Nodup/\∀k∈kvs.map (·.1),k∈N.map Sum.inr
theorem QP.mono {N:List Str} {H H':Hp} {d:Addr} {f:Str->Option (Nat×Nat)} (h:QP N H d f) (s:qo H H'):QP N H' d f:=⟨let ⟨kvs,a,b,c,e⟩:=h.at_;⟨kvs,s _ _ a,b,λz n m q=>let ⟨t,u,v⟩:=c z n m q;⟨t,u,s _ _ v⟩,e⟩⟩
theorem QP.isd {N:List Str} {H:Hp} {d:Addr} {f:Str->Option (Nat×Nat)} (h:QP N H d f):∃kvs:List (qL×V),H d=some (.dK kvs):=let ⟨kvs,a,_⟩:=h.at_;⟨kvs,a⟩
theorem QP.get {N:List Str} {H:Hp} {d:Addr} {f:Str->Option (Nat×Nat)} (h:QP N H d f) (z:Str):∃o:Option V,jO H d (.str z) o/\o.isSome=(f z).isSome/\∀n s,f z=some (n,s)->∃t,o=some (.ref t)/\H t=some (.tup [.int (n:Nat),.int (s:Nat)]):=by
 obtain⟨kvs,a,b,c,_⟩:=h.at_
 refine⟨_,jO.k (k:=(Sum.inr z:qL)) a,?_,λn s e=>c z n s e⟩
 cases e:f z with
 | none=>rw[b z e];rfl
 | some p=>
   obtain⟨t,u,_⟩:=c z p.1 p.2 e
   rw[u];rfl
def f1 (f:Str->Option (Nat×Nat)) (z:Str):Option Nat:=(f z).map (·.1)
def vp:Sp:=λvs H Q _=>∃(d e:Addr) (rs:jb) (f:Str->Option (Nat×Nat)) (z:Str) (n:Nat),vs=[.ref d,.ref e,.str z,.int (n:Nat)]/\RI H d rs/\qD rs/\z∈rs.map (·.1)/\QP (rs.map (·.1)) H e f/\Q (.bl (decide (n∈kn rs (f1 f) z))) H
def Vq:Sp:=λvs H Q _=>∃(d e:Addr) (rs:jb) (f:Str->Option (Nat×Nat)) (z:Str) (n:Nat),vs=[.ref d,.ref e,.str z,.int (n:Nat)]/\RI H d rs/\qD rs/\z∈rs.map (·.1)/\QP (rs.map (·.1)) H e f/\n<=15/\
 ∀H' b,qo H H'->(b=true↔Ys (j0 rs) (f1 f) z n)->Q (.bl b) H'
theorem kn1 {rs:jb} {f:Str->Option (Nat×Nat)} {z:Str} {n:Nat}:n∈kn rs (f1 f) z↔∃y∈j0 rs z,∃s,f y=some (n,s):=by
 rw[UQ]
 constructor
 . rintro⟨y,hy,e⟩
   obtain⟨p,e1,e2⟩:=zbH.mp e
   exact⟨y,hy,p.2,by rw[e1,<-e2]⟩
 . rintro⟨y,hy,s,e⟩
   exact⟨y,hy,by unfold f1;rw[e];rfl⟩
section
variable {P:Program} {w:World} {K:PySem.W.Frag} {mg:Str->Option Value} {base:Heap}
abbrev nLB:List Str:=["_law_roads","_law_found","_law_name","_law_number","_law_one"]
abbrev kZ:List Str:=["_law_roads","_law_found","_law_name","_law_number"]
theorem MQ:qt nLB kZ (qj ZQ):=⟨rfl,rfl,rfl,by decide+kernel,rfl,by decide+kernel,by decide+kernel⟩
theorem wg {f:Addr} {fd:FuncData} (F:jI K "_law_back" "_law_back" ZQ f fd):qm P w K mg base qK 1 f fd kZ vp:=by
 refine F.okJ MQ (λvs H Q E h=>?_) (λcdv A outer s H vs Q E hr h=>?_)
 . obtain⟨d,e,rs,ff,z,n,rfl,_⟩:=h
   rfl
 . obtain⟨d,e,rs,ff,z,n,rfl,ld,good,hz,fd,q⟩:=h
   have hu:=jU hr
   refine⟨_,qf (jd PassesOwn.never rfl (zV (qX hu (jv 0) (jv 2) (λ_ _=>rfl))) (qA (i:=4) MQ.nd rfl (Or.inl rfl))
       (qh (qM (JW.pt (j1 (Ql (JX hu (jv 4) (jv 1))) (jK (qu jH (qY jc (qX hu (jv 1) (jv 4) (λ_ _=>rfl)) qk (λ_ _=>rfl)) (jv 3) (qC _))))) (qh (qB Qe)) qE)))
     (qh (qB Qe)),?_⟩
   obtain⟨q0,g0,hq0⟩:=ld.get good hz
   refine⟨_,rfl,_,rfl,d,_,rfl,g0,q0,rfl,⟨_,.of hq0⟩,?_⟩
   refine YJ (K:=K) (a:=q0) (xs:=(j0 rs z).map V.str) (λi σ' G=>∃v4,σ'=[some (.ref d),some (.ref e),some (.str z),some (.int (n:Nat)),v4]/\G=H/\∀y∈(j0 rs z).take i,∀s,ff y≠some (n,s))
     ⟨_,rfl,rfl,λy h=>(nomatch h)⟩ (λi σ' G _ ⟨_,_,e,_⟩=>e▸.of hq0) ?_ ?_
   . rintro i x σ' G hx ⟨v4,rfl,rfl,hall⟩
     obtain⟨y,ey,hy,rfl⟩:=j6 hx
     obtain⟨o,go,eo,ho⟩:=fd.get y
     have step:(∀s,ff y≠some (n,s))->∃v4,[some (V.ref d),some (.ref e),some (.str z),some (.int (n:Nat)),some (.str y)]=[some (.ref d),some (.ref e),some (.str z),some (.int (n:Nat)),v4]/\G=G/\∀y∈(j0 rs z).take (i+1),∀s,ff y≠some (n,s):=λno=>by
       refine⟨_,rfl,rfl,λu hu'=>?_⟩
       rw[tQ,ey]at hu'
       rcases tX.mp hu' with h | h
       . exact hall u h
       . have:u=y:=by simpa using h
         rw[this];exact no
     refine⟨_,rfl,_,rfl,e,_,rfl,go,_,rfl,?_⟩
     rw[eo]
     cases cy:ff y with
     | none=>exact jz (jz (step λs h=>by rw[cy]at h;cases h))
     | some p=>
       obtain⟨t,et,ht⟩:=ho p.1 p.2 cy
       rw[et]at go
       refine j4 ⟨_,rfl,_,rfl,e,_,rfl,go,t,_,0,_,rfl,rfl,.of ht,rfl,_,rfl,rfl,_,rfl,?_⟩
       by_cases c:p.1=n
       . refine jg (decide_eq_true (by rw[c])) ?_
         rw[decide_eq_true (kn1.mpr ⟨y,hy,p.2,by rw[cy,<-c]⟩)]at q
         exact q
       . refine qT (decide_eq_false λh=>c (by have:=V.int.inj h;omega)) (step λs h=>?_)
         rw[cy]at h
         cases h
         exact c rfl
   . rintro σ' G ⟨v4,rfl,rfl,hall⟩
     rw[tj,tG (tE _)]at hall
     rw[decide_eq_false (λh=>by obtain⟨y,hy,s,e⟩:=kn1.mp h;exact hall y hy s e)]at q
     exact q
abbrev nLC:List Str:=["_law_roads","_law_found","_law_name","_law_number","_law_beside","_law_one"]
theorem R3:qt nLC kZ (qj Zv):=⟨rfl,rfl,rfl,by decide+kernel,rfl,by decide+kernel,by decide+kernel⟩
theorem yc {f fB:Addr} {fd fdB:FuncData} (F:jI K "_law_comes" "_law_comes" Zv f fd) (B:QL mg) (hB:qU K mg "_law_back" ZQ kZ fB fdB):qm P w K mg base qK 2 f fd kZ Vq:=by
 have GB:qm P w K mg base qK 1 fB fdB kZ vp:=wg hB.fn
 refine F.okJ R3 (λvs H Q E h=>?_) (λcdv A outer s H vs Q E hr h=>?_)
 . obtain⟨d,e,rs,ff,z,n,rfl,_⟩:=h
   rfl
 . obtain⟨d,e,rs,ff,z,n,rfl,ld,good,hz,fd,n15,q⟩:=h
   have hu:=jU hr
   refine⟨_,qf (qw (i:=4) R3.nd rfl (Or.inr rfl) (Qd (N':=["_law_one","_law_found"]) (ix:=[none,some 1]) (tt:=tB (Mx (jo 0) (jo 1))) (te:=YO (Yl K) (YQ (jo 1) (jo 0)) (tC (.int 0))) rfl ⟨rfl,rfl,rfl,rfl,rfl⟩ (zV (qX hu (jv 0) (jv 2) (λ_ _=>rfl))) (λC s2 H2 fp pins=>
         ⟨qA (i:=0) (show (["_law_one","_law_found"]:List Str).Nodup by decide+kernel) rfl (Or.inl rfl),j7 (Ql (JX hu (jv 0) (jv 1))),qY jc (qX hu (jv 1) (jv 0) (λ_ _=>rfl)) qk (λ_ _=>rfl)⟩)))
     (qf (qM (JW.pt (zk (qu Jq (jv 3) (jv 4) (by with_unfolding_all rfl)) (JM (qu (WL (zcu hu)) (Qd (N':=["_law_k","_law_beside"]) (ix:=[none,some 4]) (tt:=XV (YO (Mf K true) (jo 0) (jo 1))) (te:=jo 0) rfl ⟨rfl,rfl,rfl,rfl,rfl⟩ (jP (by rfl) B.rng (qd (jv 3) qg)) (λC s2 H2 fp pins=>
         ⟨qA (i:=0) (show (["_law_k","_law_beside"]:List Str).Nodup by decide+kernel) rfl (Or.inl rfl),j7 (qu JH (jv 0) (jv 1) (by with_unfolding_all rfl)),jv 0⟩)) (jS qg) (qC _))))) (qh (qB Qe)) qE)
     (qf (jd PassesOwn.never rfl (zV (qX hu (jv 0) (jv 2) (λ_ _=>rfl))) (qA (i:=5) R3.nd rfl (Or.inl rfl))
       (qh (qM (JW.pt (j1 (Ql (Ju hu (jv 5) (jv 1))) (jK (Ji (j2 (qH hB GB hr (by rfl) (qd (jv 0) (qd (jv 1) (qd (jv 5) (qd (jv 3) qg)))))))))) (qh (qB Qe)) qE)))
     (qh (qB Qe)))),?_⟩
   obtain⟨q0,g0,hq0⟩:=ld.get good hz
   refine⟨_,rfl,_,rfl,d,_,rfl,g0,q0,rfl,⟨_,.of hq0⟩,λW hW=>?_⟩
   refine GQ (K:=K) (a:=q0) (xs:=j0 rs z) (enc:=V.str) (out:=λy=>(f1 ff y).map λn=>V.int (n:Nat)) (rest:=[some (.ref e)]) hW hq0 (qp (by have:=wH good hz;omega)) ?_ ?_ ?_
   . intro x hx G' s5 R kk
     obtain⟨o,go,eo,_⟩:=(fd.mono s5).get x
     refine⟨_,rfl,_,rfl,e,_,rfl,go,_,rfl,?_⟩
     have:=kk G' λ_ _ h=>h
     rw[eo]
     unfold f1 at this
     rw[zbd,zbd]at this
     exact this
   . intro x hx v ev G' s5 R kk
     obtain⟨o,go,eo,ho⟩:=(fd.mono s5).get x
     cases cx:ff x with
     | none=>unfold f1 at ev;rw[cx]at ev;cases ev
     | some p=>
       obtain⟨t,et,ht⟩:=ho p.1 p.2 cx
       rw[et]at go
       have:v=V.int (p.1:Nat):=by unfold f1 at ev;rw[cx]at ev;exact(tN.inj ev).symm
       subst this
       exact⟨_,rfl,_,rfl,e,_,rfl,go,t,_,0,_,rfl,rfl,.of ht,rfl,kk G' λ_ _ h=>h⟩
   . intro G1 s1 hW1
     have eK:(j0 rs z).filterMap (λy=>(f1 ff y).map λn=>V.int (n:Nat))=Zy (kn rs (f1 ff) z):=by
       unfold Zy kn
       rw[List.map_filterMap]
     rw[eK]at hW1
     refine⟨_,rfl,_,rfl,W,_,rfl,.inl (.of hW1),rfl,zo _,_,rfl,?_⟩
     by_cases c:n∈kn rs (f1 ff) z
     . exact jg (show Zx (.int (n:Nat)) (Zy (kn rs (f1 ff) z))=true by rw[Xq];exact decide_eq_true c) (j4 (q G1 false s1 ⟨λh=>(nomatch h),λh=>absurd c (zp.mp h).2.1⟩))
     refine qT (show Zx (.int (n:Nat)) (Zy (kn rs (f1 ff) z))=false by rw[Xq];exact decide_eq_false c) ?_
     refine⟨_,rfl,(n:Int),rfl,by omega,by omega,λU hU=>?_⟩
     refine GU (n:=n) (out:=λj=>if j∈kn rs (f1 ff) z then none else some (V.int (j:Nat))) (rest:=[some (.ref W)]) hU (qp (by omega)) ?_ ?_ ?_
     . intro x hx G' s5 R kk
       refine⟨_,rfl,_,rfl,W,_,rfl,.inl (.of (s5 _ _ hW1)),rfl,zo _,_,rfl,?_⟩
       have:=kk G' λ_ _ h=>h
       show R (!Zx (.int (x:Nat)) (Zy (kn rs (f1 ff) z))) G'
       rw[Xq]
       by_cases c:x∈kn rs (f1 ff) z
       . rw[if_pos c]at this
         rw[decide_eq_true c]
         exact this
       . rw[if_neg c]at this
         rw[decide_eq_false c]
         exact this
     . intro x hx v ev G' s5 R kk
       have:v=V.int (x:Nat):=by
         split at ev
         . cases ev
         . exact(tN.inj ev).symm
       subst this
       exact⟨_,rfl,kk G' λ_ _ h=>h⟩
     . intro G2 s2 hU2
       have s12:=s1.trans s2
       generalize hls:(zaa n).filterMap (λj=>if j∈kn rs (f1 ff) z then none else some (V.int (j:Nat)))=ls at hU2
       refine⟨by show 0<=sizeLine;decide,λl0 hl0=>?_⟩
       have s0:qo G2 (upd G2 l0 (.lst [])):=ql hl0
       refine⟨U,l0,_,rfl,rfl,.of (s0 _ _ hU2),.of qe,_,rfl,?_⟩
       have s3:qo H (upd G2 l0 (.lst [])):=s12.trans s0
       generalize upd G2 l0 (.lst [])=G3 at s0 s3
       have lsE:ls=[]↔∀j,j < n->j∈kn rs (f1 ff) z:=by
         rw[<-hls,zcW]
         constructor
         . intro h j hj
           have:=h j (zaQ.mpr hj)
           by_cases c:j∈kn rs (f1 ff) z
           . exact c
           . rw[if_neg c]at this;cases this
         . intro h j hj
           rw[if_pos (h j (zaQ.mp hj))]
       cases ls with
       | cons a ls=>
         refine j4 (q G3 false s3 ⟨λh=>(nomatch h),λh=>?_⟩)
         have:=lsE.mpr (zp.mp h).1
         cases this
       | nil=>
         refine jz ?_
         have lo:=lsE.mp rfl
         obtain⟨q1,g1,hq1⟩:=(ld.mono s3).get good hz
         refine⟨_,rfl,_,rfl,d,_,rfl,g1,q1,rfl,⟨_,.of hq1⟩,?_⟩
         refine YJ (K:=K) (a:=q1) (xs:=(j0 rs z).map V.str) (λi σ' G=>∃v5,σ'=[some (.ref d),some (.ref e),some (.str z),some (.int (n:Nat)),some (.ref W),v5]/\G=G3/\∀y∈(j0 rs z).take i,f1 ff y=none->n∈kn rs (f1 ff) y)
           ⟨_,rfl,rfl,λy h=>(nomatch h)⟩ (λi σ' G _ ⟨_,_,e,_⟩=>e▸.of hq1) ?_ ?_
         . rintro i x σ' G hx ⟨v5,rfl,rfl,hall⟩
           obtain⟨y,ey,hy,rfl⟩:=j6 hx
           have hyN:=YF good hz hy
           obtain⟨o,go,eo,_⟩:=(fd.mono s3).get y
           have step:(f1 ff y=none->n∈kn rs (f1 ff) y)->∃v5,[some (V.ref d),some (.ref e),some (.str z),some (.int (n:Nat)),some (.ref W),some (.str y)]=[some (.ref d),some (.ref e),some (.str z),some (.int (n:Nat)),some (.ref W),v5]/\G=G/\∀y∈(j0 rs z).take (i+1),f1 ff y=none->n∈kn rs (f1 ff) y:=λhy'=>by
             refine⟨_,rfl,rfl,λu hu'=>?_⟩
             rw[tQ,ey]at hu'
             rcases tX.mp hu' with h | h
             . exact hall u h
             . have:u=y:=by simpa using h
               rw[this];exact hy'
           refine⟨_,rfl,_,rfl,e,_,rfl,go,_,rfl,?_⟩
           rw[eo]
           cases cy:ff y with
           | some p=>exact jz (jz (step λh=>by unfold f1 at h;rw[cy]at h;cases h))
           | none=>
             refine j4 ⟨_,rfl,_,rfl,_,rfl,_,rfl,d,e,rs,ff,y,n,rfl,ld.mono s3,good,hyN,fd.mono s3,_,rfl,?_⟩
             by_cases c2:n∈kn rs (f1 ff) y
             . rw[decide_eq_true c2]
               exact jz (step λ_=>c2)
             . rw[decide_eq_false c2]
               exact j4 (q G false s3 ⟨λh=>(nomatch h),λh=>absurd ((zp.mp h).2.2 y hy (by unfold f1;rw[cy];rfl)) c2⟩)
         . rintro σ' G ⟨v5,rfl,rfl,hall⟩
           rw[tj,tG (tE _)]at hall
           exact q G true s3 ⟨λ_=>zp.mpr ⟨lo,c,hall⟩,λ_=>rfl⟩
end
def fR (R:Rs Str) (z:Str):Option (Nat×Nat):=(qG R z).map λn=>(n,Q6 R z)
theorem Gr (R:Rs Str) (z:Str):f1 (fR R) z=qG R z:=by
 unfold f1 fR
 cases qG R z<;>rfl
theorem Go {rs:jb} (g:qD rs) {f:Str->Option Nat} {z:Str} {n:Nat} (hz:z∈rs.map (·.1)):Ys (j0 rs) f z n↔Ys (Q7 rs) f z n:=by
 unfold Ys
 constructor
 . rintro⟨a,b,c⟩
   refine⟨λj hj=>let ⟨y,hy,e⟩:=a j hj;⟨y,(qQ g hz).mp hy,e⟩,λy hy=>b y ((qQ g hz).mpr hy),λy hy e=>?_⟩
   have hy':=(qQ g hz).mpr hy
   obtain⟨u,hu,eu⟩:=c y hy' e
   exact⟨u,(qQ g (YF g hz hy')).mp hu,eu⟩
 . rintro⟨a,b,c⟩
   refine⟨λj hj=>let ⟨y,hy,e⟩:=a j hj;⟨y,(qQ g hz).mpr hy,e⟩,λy hy=>b y ((qQ g hz).mp hy),λy hy e=>?_⟩
   obtain⟨u,hu,eu⟩:=c y ((qQ g hz).mp hy) e
   exact⟨u,(qQ g (YF g hz hy)).mpr hu,eu⟩
theorem QP.put {N:List Str} {H:Hp} {d t:Addr} {f:Str->Option (Nat×Nat)} (h:QP N H d f) {z:Str} {n s:Nat} (hz:z∈N) (hf:f z=none) (le:N.length<=14) (ht:H t=some (.tup [.int (n:Nat),.int (s:Nat)])):∃o,Q4 H d (.str z) (.ref t) (upd H d o)/\QP N (upd H d o) d (λy=>if y=z then some (n,s) else f y):=by
 obtain⟨kvs,a,b,c,nd,sub⟩:=h.at_
 have ln:kvs.length<=14:=by
   have:=JL nd sub
   rw[tj,tj]at this
   omega
 have new:=b z hf
 have tD:∀{b:Addr} {xs:List V},H b=some (.tup xs)->b≠d:=λhb e=>by rw[e,a]at hb;cases hb
 refine⟨_,Q4.k (k:=(Sum.inr z:qL)) a (qp (by omega)),⟨_,qe,λy hy=>?_,λy m u hy=>?_,K1 _ nd new,λk hk=>?_⟩⟩
 . by_cases e:y=z
   . rw[if_pos e]at hy;cases hy
   . rw[if_neg e]at hy
     rw[jW,if_neg (λq=>e (Sum.inr.inj q))]
     exact b y hy
 . by_cases e:y=z
   . rw[if_pos e]at hy
     cases hy
     subst e
     exact⟨t,by rw[jW,if_pos rfl],by rw[qi (tD ht)];exact ht⟩
   . rw[if_neg e]at hy
     obtain⟨t',u',v'⟩:=c y m u hy
     exact⟨t',by rw[jW,if_neg (λq=>e (Sum.inr.inj q))];exact u',by rw[qi (tD v')];exact v'⟩
 . rw[QC _ new,tI]at hk
   rcases tX.mp hk with hk | hk
   . exact sub k hk
   . have:k=Sum.inr z:=by simpa using hk
     rw[this]
     exact tL.mpr ⟨z,hz,rfl⟩
theorem QP.congr {N:List Str} {H:Hp} {d:Addr} {f g:Str->Option (Nat×Nat)} (h:QP N H d f) (e:∀z,f z=g z):QP N H d g:=⟨let ⟨kvs,a,b,c,x⟩:=h.at_;⟨kvs,a,λz hz=>b z (by rw[e z];exact hz),λz n s hz=>c z n s (by rw[e z];exact hz),x⟩⟩
theorem QP.bare {rs:jb} {H:Hp} {d:Addr} {f:Str->Option (Nat×Nat)} (h:QP (rs.map (·.1)) H d f):Q3 (rs.map (·.1)) H d=Qf rs (f1 f):=by
 obtain⟨kvs,a,b,c,_⟩:=h.at_
 unfold Q3 Qf
 rw[a]
 show ((rs.map (·.1)).filter λz=>(jj kvs (Sum.inr z:qL)).isNone).length=_
 congr 1
 refine zbQ λz _=>?_
 unfold f1
 cases e:f z with
 | none=>rw[b z e];rfl
 | some p=>
   obtain⟨t,u,_⟩:=c z p.1 p.2 e
   rw[u];rfl
def NT (R:Rs Str) (n s:Nat) (ns:List Str) (z:Str):Option (Nat×Nat):=if z∈ns then some (n,s) else fR R z
theorem Gj {R:Rs Str} {n:Nat} {ns:List Str} (h:∀z∈ns,qG R z=none) (z:Str):NT R n R.length ns z=fR (R++[(n,ns)]) z:=by
 unfold NT fR
 by_cases c:z∈ns
 . rw[if_pos c,vZ (h z c) c,vB (h z c) c]
   rfl
 . rw[if_neg c,Jx]
   cases e:qG R z with
   | some m=>
     show some (m,Q6 R z)=some (m,Q6 (R++[(n,ns)]) z)
     rw[(Q9 e).1]
   | none=>
     show none=Option.map _ (if z∈ns then some n else none)
     rw[if_neg c]
     rfl
def Rp:Sp:=λvs H Q _=>∃(l:Addr) (ps:List Addr) (rs:jb),vs=[.ref l]/\jF H l ps rs/\
 ∀H' D R,qo H H'->H D=none->QP (rs.map (·.1)) H' D (fR R)->All (Q7 rs) (rs.map (·.1)) 0 [] R->Q (.ref D) H'
section
variable {P:Program} {w:World} {K:PySem.W.Frag} {mg:Str->Option Value} {base:Heap}
abbrev qbn:List Str:=["_law_rows_here","_law_roads","_law_found","_law_step","_law_number","_law_coming","_law_name"]
theorem ZG:qt qbn ["_law_rows_here"] (qj Jo):=⟨rfl,rfl,rfl,by decide+kernel,rfl,by decide+kernel,by decide+kernel⟩
theorem VJ {f fC fB:Addr} {fd fdC fdB:FuncData} (F:jI K "_law_numbers" "_law_numbers" Jo f fd) (B:QL mg) (hdi:mg "dict"=none) (hB:qU K mg "_law_back" ZQ kZ fB fdB) (hC:qU K mg "_law_comes" Zv kZ fC fdC):qm P w K mg base qK 3 f fd ["_law_rows_here"] Rp:=by
 have GC:qm P w K mg base qK 2 fC fdC kZ Vq:=yc hC.fn B hB
 refine F.okJ ZG (λvs H Q E h=>?_) (λcdv A outer s H vs Q E hr h=>?_)
 . obtain⟨l,ps,rs,rfl,_⟩:=h
   rfl
 . obtain⟨l,ps,rs,rfl,g,q⟩:=h
   have hu:=jU hr
   refine⟨_,qf (qw (i:=1) ZG.nd rfl (Or.inl rfl) (NR (jw (XA rfl) (by rfl) hdi boot_dict (qd (jv 0) qg))))
     (qf (qw (i:=2) ZG.nd rfl (Or.inl rfl) Qn)
     (qf (qw (i:=3) ZG.nd rfl (Or.inl rfl) qk)
     (qf (jd PassesOwn.never rfl (jP (by rfl) B.rng (qd qk qg)) (qA (i:=4) ZG.nd rfl (Or.inl rfl))
       (qf (qw (i:=5) ZG.nd rfl (Or.inl rfl) (jS (qd qR qg)))
       (qh (Zl PassesOwn.never (qu (WL (zcu hu)) (jv 5) (jS qg) (qC _))
         (qf (qw (i:=5) ZG.nd rfl (Or.inl rfl) (jS qg))
         (qf (jd PassesOwn.never rfl (NM (jv 1)) (qA (i:=6) ZG.nd rfl (Or.inl rfl))
           (qh (qM (JW.pt (j1 (Ql (Ju hu (jv 6) (jv 2))) (jK (j2 (qH hC GC hr (by rfl) (qd (jv 1) (qd (jv 2) (qd (jv 6) (qd (jv 4) qg))))))))) (qh (jl (zm zaA zbl zbm QQ (jv 5) (qd (jv 6) qg)))) qE)))
         (qf (jd PassesOwn.never rfl (qN (jv 5)) (qA (i:=6) ZG.nd rfl (Or.inl rfl)) (qh (jt hu (jv 2) (jv 6) (Qm (qd (jv 4) (qd (jv 3) qg))) rfl)))
         (qh (qw (i:=3) ZG.nd rfl (Or.inl rfl) (qO Qa (jv 3) (jw zY (by rfl) B.int boot_int (qd (Qo (WL (zcu hu)) (jv 5) (jS qg) (qC _)) qg))))))))))))
     (qh (qB (jv 2)))))),?_⟩
   have good:=g.good
   have le14:=g.le
   have nd:=good.nd
   have lN:(rs.map (·.1)).length=rs.length:=tj ..
   refine⟨_,rfl,Nq (ul g λd kvs hd ek hv=>⟨d,kvs,rfl,qe,λo=>?_⟩)⟩
   rw[jB]
   have s1:qo H (upd H d (.frz o (.dK kvs))):=ql hd
   have hd1:upd H d (.frz o (.dK kvs)) d=some (.frz o (.dK kvs)):=qe
   generalize upd H d (.frz o (.dK kvs))=H1 at s1 hd1
   intro e he
   have s2:qo H1 (upd H1 e (.dK [])):=ql he
   have he2:upd H1 e (.dK []) e=some (.dK []):=qe
   have he0:H e=none:=ju s1 he
   have nde:d≠e:=λz=>by rw[<-z,hd1]at he;cases he
   generalize upd H1 e (.dK [])=H2 at s2 he2
   have ldG:∀{G:Hp},Fr H2 e G->RI G d rs:=λfr=>by
     refine⟨o,kvs,fr _ _ (s2 _ _ hd1) nde,ek,λr hr=>?_⟩
     obtain⟨t,a,b⟩:=hv r hr
     have b2:=s2 _ _ (s1 _ _ b)
     exact⟨t,a,fr _ _ b2 (λz=>by rw[z,he2]at b2;cases b2)⟩
   have hdG:∀{G:Hp},Fr H2 e G->G d=some (.frz o (.dK kvs)):=λfr=>fr _ _ (s2 _ _ hd1) nde
   refine⟨15,rfl,by decide,by decide,?_⟩
   refine Jw (λi σ G=>∃(v4 v5 v6:Option V) (R:Rs Str),σ=[some (.ref l),some (.ref d),some (.ref e),some (.int (R.length:Nat)),v4,v5,v6]/\Fr H2 e G/\QP (rs.map (·.1)) G e (fR R)/\XO (Q7 rs) (rs.map (·.1)) i R)
     ⟨none,none,none,[],rfl,Fr.refl,⟨[],he2,λz _=>rfl,λz n s h=>(nomatch h),zbo,λk h=>(nomatch h)⟩,.nil⟩ ?_ ?_
   . rintro i σ G hi ⟨v4,v5,v6,R0,rfl,fr0,fd0,up0⟩
     rw[zbT]
     have hi:i < 15:=by simpa using hi
     refine⟨by show 1<=sizeLine;decide,λc0 hc0=>?_⟩
     have sc:qo G (upd G c0 (.lst [V.str ""])):=ql hc0
     refine Za (λσ G=>∃(v6:Option V) (c:Addr) (cs:List Str) (R:Rs Str),σ=[some (.ref l),some (.ref d),some (.ref e),some (.int (R.length:Nat)),some (.int (i:Nat)),some (.ref c),v6]/\Fr H2 e G/\QP (rs.map (·.1)) G e (fR R)/\G c=some (.lst (cs.map V.str))/\
         (∀R',Qs (Q7 rs) (rs.map (·.1)) i R R'->Qs (Q7 rs) (rs.map (·.1)) i R0 R')/\(cs=[]->Uf (Q7 rs) (rs.map (·.1)) R i []))
       (λσ G=>2*Q3 (rs.map (·.1)) G e+(match σ with | [_,_,_,_,_,some (.ref c),_]=>(match G c with | some (.lst (_::_))=>1 | _=>0) | _=>0))
       ⟨v6,c0,[""],R0,rfl,fr0.same sc,fd0.mono sc,qe,λR' h=>h,λh=>(nomatch h)⟩ ?_ ?_
     . rintro σ G ⟨v6,c,cs,R,rfl,fr,fd,hc,giv,fin⟩
       refine⟨_,rfl,by show 0<=sizeLine;decide,λl0 hl0=>?_⟩
       have s0:qo G (upd G l0 (.lst [])):=ql hl0
       refine⟨c,l0,_,rfl,rfl,.of (s0 _ _ hc),.of qe,_,rfl,?_⟩
       cases cs with
       | nil=>
         have r0:=fin rfl
         exact jz ⟨_,_,_,R,rfl,fr.same s0,fd.mono s0,.more up0 (giv R (.stop r0))⟩
       | cons c1 cs=>
         refine j4 ⟨by show 0<=sizeLine;decide,λc2 hc2=>?_⟩
         have mu0:(2*Q3 (rs.map (·.1)) G e+(match G c with | some (.lst (_::_))=>1 | _=>0))=2*Qf rs (qG R)+1:=by
           rw[hc]
           show 2*Q3 (rs.map (·.1)) G e+1=_
           rw[fd.bare]
           unfold Qf
           simp only[Gr]
         have sA:qo G (upd (upd G l0 (.lst [])) c2 (.lst [])):=s0.trans (ql hc2)
         have hcA:upd (upd G l0 (.lst [])) c2 (.lst []) c2=some (.lst []):=qe
         have hc2G:G c2=none:=ju s0 hc2
         generalize upd (upd G l0 (.lst [])) c2 (.lst [])=GA at sA hcA
         refine⟨_,rfl,d,o,kvs,rs.map (·.1),rfl,hdG (fr.same sA),ek,?_⟩
         refine Gq (zs:=rs.map (·.1)) (λj σ' G'=>∃(v6:Option V) (ns:List Str),σ'=[some (.ref l),some (.ref d),some (.ref e),some (.int (R.length:Nat)),some (.int (i:Nat)),some (.ref c2),v6]/\qo G G'/\G' c2=some (.lst (ns.map V.str))/\ns.Sublist ((rs.map (·.1)).take j)/\∀x,x∈ns↔x∈(rs.map (·.1)).take j/\qG R x=none/\Ys (Q7 rs) (qG R) x i)
           ⟨v6,[],rfl,sA,hcA,List.nil_sublist _,λx=>by simp⟩ (λj σ' G' _ ⟨_,_,_,s,_⟩=>s _ _ (hdG fr)) ?_ ?_
         . rintro j z σ' G1 ez ⟨v6',ns,rfl,sG,hcG,sub,iff⟩
           have hz:z∈rs.map (·.1):=t8 ez
           have hj:=(tw.mp ez).1
           have etk:(rs.map (·.1)).take (j+1)=(rs.map (·.1)).take j++[z]:=by rw[tQ,ez];rfl
           have nz:z∉(rs.map (·.1)).take j:=λm=>Qv nd ez (tL.mpr ⟨z,m,rfl⟩)
           have skip:∀{G2:Hp},qo G1 G2->¬(qG R z=none/\Ys (Q7 rs) (qG R) z i)->∃(v6:Option V) (ns:List Str),[some (V.ref l),some (.ref d),some (.ref e),some (.int (R.length:Nat)),some (.int (i:Nat)),some (.ref c2),some (.str z)]=[some (.ref l),some (.ref d),some (.ref e),some (.int (R.length:Nat)),some (.int (i:Nat)),some (.ref c2),v6]/\qo G G2/\G2 c2=some (.lst (ns.map V.str))/\ns.Sublist ((rs.map (·.1)).take (j+1))/\∀x,x∈ns↔x∈(rs.map (·.1)).take (j+1)/\qG R x=none/\Ys (Q7 rs) (qG R) x i:=λ{G2} s' no=>by
             refine⟨_,ns,rfl,sG.trans s',s' _ _ hcG,by rw[etk];exact sub.trans (List.sublist_append_left _ _),λx=>?_⟩
             rw[iff x,etk,tX]
             constructor
             . rintro⟨a,b⟩;exact⟨.inl a,b⟩
             . rintro⟨a | a,b⟩
               . exact⟨a,b⟩
               . have:x=z:=by simpa using a
                 subst this
                 exact absurd b no
           have ls:ns.length<=14:=by
             have:=sub.length_le
             rw[tS,lN]at this
             omega
           obtain⟨ov,go,eo,_⟩:=(fd.mono sG).get z
           refine⟨_,rfl,_,rfl,e,_,rfl,go,_,rfl,?_⟩
           rw[eo]
           have e1:(fR R z).isSome=(qG R z).isSome:=by unfold fR;rw[zbd]
           rw[e1]
           cases cz:qG R z with
           | some m=>exact jz (jz (skip (λ_ _ h=>h) λh=>by rw[cz]at h;cases h.1))
           | none=>
             refine j4 ⟨_,rfl,_,rfl,_,rfl,_,rfl,d,e,rs,fR R,z,i,rfl,(ldG fr).mono sG,good,hz,fd.mono sG,by omega,λG2 b s' hb=>⟨b,rfl,?_⟩⟩
             have eg:(f1 (fR R))=qG R:=funext (Gr R)
             rw[eg,Go good hz]at hb
             cases b with
             | false=>exact jz (skip s' λh=>absurd (hb.mpr h.2) (by simp))
             | true=>
               have hc3:=s' _ _ hcG
               refine j4 ⟨_,rfl,.inl ⟨rfl,_,.of hc3⟩,_,rfl,c2,_,_,rfl,rfl,hc3,by rw[tj];exact qp (by omega),_,ns++[z],rfl,qo.upd (sG.trans s') hc2G,by rw[tI];exact qe,by rw[etk];exact List.Sublist.append sub (List.Sublist.refl _),λx=>?_⟩
               rw[tX,iff x,etk,tX]
               constructor
               . rintro(⟨a,b⟩ | a)
                 . exact⟨.inl a,b⟩
                 . have:x=z:=by simpa using a
                   subst this
                   exact⟨.inr a,cz,hb.mp rfl⟩
               . rintro⟨a | a,b⟩
                 . exact .inl ⟨a,b⟩
                 . exact .inr a
         . rintro σ' G1 ⟨v6',ns,rfl,sG,hcG,sub,iff⟩
           rw[tG (tE _)]at sub iff
           have rnd:Uf (Q7 rs) (rs.map (·.1)) R i ns:=⟨iff,sub⟩
           have nns:ns.Nodup:=nd.sublist sub
           have fr1:Fr H2 e G1:=fr.same sG
           have fd1:=fd.mono sG
           obtain⟨ke,hke⟩:=fd1.isd
           have nce:c2≠e:=λz=>by rw[z,hke]at hcG;cases hcG
           refine⟨_,rfl,c2,rfl,⟨_,.of hcG⟩,?_⟩
           refine jr (K:=K) (a:=c2) (xs:=ns.map V.str) (λm σ' G2=>∃v6,σ'=[some (.ref l),some (.ref d),some (.ref e),some (.int (R.length:Nat)),some (.int (i:Nat)),some (.ref c2),v6]/\Fr H2 e G2/\G2 c2=some (.lst (ns.map V.str))/\QP (rs.map (·.1)) G2 e (NT R i R.length (ns.take m)))
             ⟨v6',rfl,fr1,hcG,fd1.congr λz=>by unfold NT;rw[zdB,if_neg (by simp)]⟩ (λm σ' G2 _ ⟨_,_,_,h,_⟩=>.of h) ?_ ?_
           . rintro m x σ' G2 hx ⟨v6'',rfl,fr2,hc2',fd2⟩
             obtain⟨z,ez,hz,rfl⟩:=j6 hx
             have hzN:=((iff z).mp hz).1
             have hzn:=((iff z).mp hz).2.1
             have nt:z∉ns.take m:=λq=>Qv nns ez (tL.mpr ⟨z,q,rfl⟩)
             refine⟨_,rfl,_,rfl,by show 2<=sizeLine;decide,λt ht=>?_⟩
             have st:qo G2 (upd G2 t (.tup [.int (i:Nat),.int (R.length:Nat)])):=ql ht
             have htt:upd G2 t (.tup [.int (i:Nat),.int (R.length:Nat)]) t=some (.tup [.int (i:Nat),.int (R.length:Nat)]):=qe
             generalize upd G2 t (.tup [.int (i:Nat),.int (R.length:Nat)])=G3 at st htt
             obtain⟨o4,put,fd4⟩:=(fd2.mono st).put (z:=z) hzN (by unfold NT fR;rw[if_neg nt,hzn];rfl) (by rw[lN];exact le14) htt
             refine⟨_,rfl,_,rfl,e,_,rfl,put,_,rfl,(fr2.same st).at_d,by rw[qi nce];exact st _ _ hc2',fd4.congr λy=>?_⟩
             unfold NT
             by_cases q:y=z
             . subst q
               rw[if_pos rfl,if_pos (by rw[tQ,ez];simp)]
             . rw[if_neg q]
               have im:(y∈ns.take (m+1))↔y∈ns.take m:=by
                 rw[tQ,ez,tX]
                 exact⟨λh=>h.resolve_right (by simpa using q),.inl⟩
               by_cases h:y∈ns.take m
               . rw[if_pos h,if_pos (im.mpr h)]
               . rw[if_neg h,if_neg (λw=>h (im.mp w))]
           . rintro σ' G2 ⟨v6'',rfl,fr2,hc2',fd2⟩
             rw[tj,tG (tE _)]at fd2
             refine⟨_,rfl,_,rfl,by show 0<=sizeLine;decide,λl1 hl1=>?_⟩
             have s9:qo G2 (upd G2 l1 (.lst [])):=ql hl1
             refine⟨c2,l1,_,rfl,rfl,.of (s9 _ _ hc2'),.of qe,.inr ⟨_,rfl,_,_,rfl,rfl,?_⟩⟩
             have fr9:=fr2.same s9
             have fd9:=fd2.mono s9
             have hc9:=s9 _ _ hc2'
             generalize upd G2 l1 (.lst [])=G9 at fr9 fd9 hc9
             cases ns with
             | nil=>
               have eR:QP (rs.map (·.1)) G9 e (fR R):=fd9.congr λz=>by unfold NT;rw[if_neg (by simp)]
               refine⟨⟨v6'',c2,[],R,?_,fr9,eR,hc9,giv,λ_=>rnd⟩,?_⟩
               . show [_,_,_,some (V.int ((R.length:Int)+0)),_,_,_]=_
                 rw[Int.add_zero]
               . have:=eR.bare
                 show 2*Q3 (rs.map (·.1)) G9 e+(match G9 c2 with | some (.lst (_::_))=>1 | _=>0) < 2*Q3 (rs.map (·.1)) G e+(match G c with | some (.lst (_::_))=>1 | _=>0)
                 rw[mu0,hc9,this]
                 unfold Qf
                 simp only[Gr]
                 show 2*_+0 < _
                 omega
             | cons n1 ns=>
               have nw:∀z∈n1::ns,qG R z=none:=λz hz=>((iff z).mp hz).2.1
               have eR:QP (rs.map (·.1)) G9 e (fR (R++[(i,n1::ns)])):=fd9.congr (Gj nw)
               refine⟨⟨v6'',c2,n1::ns,R++[(i,n1::ns)],?_,fr9,eR,hc9,λR' h=>giv R' (.more rnd (by simp) h),λh=>(nomatch h)⟩,?_⟩
               . show [_,_,_,some (V.int ((R.length:Int)+1)),_,_,_]=_
                 rw[tK,zaH]
                 rfl
               . have:=eR.bare
                 have lt:=Va (rs:=rs) (R:=R) (n:=i) (ns:=n1::ns) (λz hz=>⟨((iff z).mp hz).1,nw z hz⟩) (by simp)
                 show 2*Q3 (rs.map (·.1)) G9 e+(match G9 c2 with | some (.lst (_::_))=>1 | _=>0) < 2*Q3 (rs.map (·.1)) G e+(match G c with | some (.lst (_::_))=>1 | _=>0)
                 rw[mu0,hc9,this]
                 show 2*Qf rs (f1 (fR (R++[(i,n1::ns)])))+1 < _
                 have e2:Qf rs (f1 (fR (R++[(i,n1::ns)])))=Qf rs (qG (R++[(i,n1::ns)])):=by
                   unfold Qf
                   simp only[Gr]
                 rw[e2]
                 omega
     . rintro σ G Q1 Q2 kk ⟨x,ex,h1,h2⟩
       exact⟨x,ex,h1,λl0 hl0=>let ⟨a,b,xs,e1,e2,e3,e4,kb,e5,q1⟩:=h2 l0 hl0;⟨a,b,xs,e1,e2,e3,e4,kb,e5,kk _ _ q1⟩⟩
   . rintro σ G ⟨v4,v5,v6,R,rfl,fr,fd,up⟩
     exact⟨_,rfl,q G e R (λb u hb=>fr _ _ (s2 _ _ (s1 _ _ hb)) (qr hb he0)) he0 fd (up.whole (by rw[lN];show rs.length < 15;omega))⟩
end
theorem xn {ns ms:List Nat} (h:∀x,x∈ns↔x∈ms):Rb.setN ns=Rb.setN ms:=zdz λk=>by rw[Rb.testBit_setN,Rb.testBit_setN,decide_eq_decide.mpr (h k)]
theorem RU {rs:jb} (g:qD rs) {f:Str->Option Nat} {z:Str} (hz:z∈rs.map (·.1)):Rb.setN (kn rs f z)=Rb.setN (ZH rs f z):=xn λx=>by
 rw[UQ,Qj]
 constructor
 . rintro⟨y,hy,e⟩;exact⟨y,(qQ g hz).mp hy,e⟩
 . rintro⟨y,hy,e⟩;exact⟨y,(qQ g hz).mpr hy,e⟩
def Rq:Sp:=λvs H Q _=>∃(l:Addr) (ps:List Addr) (rs:jb),vs=[.ref l]/\jF H l ps rs/\
 ∀H' D R,qo H H'->H D=none->jA H' D rs R->All (Q7 rs) (rs.map (·.1)) 0 [] R->Q (.ref D) H'
section
variable {P:Program} {w:World} {K:PySem.W.Frag} {mg:Str->Option Value} {base:Heap}
abbrev qbo:List Str:=["_law_rows_here","_law_found","_law_labels_here","_law_name","_law_leads_here","_law_bits","_law_one"]
theorem Yb:qt qbo ["_law_rows_here"] (qj za):=⟨rfl,rfl,rfl,by decide+kernel,rfl,by decide+kernel,by decide+kernel⟩
theorem UF {f fN fC fB:Addr} {fd fdN fdC fdB:FuncData} (F:jI K "_law_labels" "_law_labels" za f fd) (B:QL mg) (hdi:mg "dict"=none) (hB:qU K mg "_law_back" ZQ kZ fB fdB) (hC:qU K mg "_law_comes" Zv kZ fC fdC) (hN:qU K mg "_law_numbers" Jo ["_law_rows_here"] fN fdN):qm P w K mg base qK 4 f fd ["_law_rows_here"] Rq:=by
 have GN:qm P w K mg base qK 3 fN fdN ["_law_rows_here"] Rp:=VJ hN.fn B hdi hB hC
 refine F.okJ Yb (λvs H Q E h=>?_) (λcdv A outer s H vs Q E hr h=>?_)
 . obtain⟨l,ps,rs,rfl,_⟩:=h
   rfl
 . obtain⟨l,ps,rs,rfl,g,q⟩:=h
   have hu:=jU hr
   refine⟨_,qf (qw (i:=1) Yb.nd rfl (Or.inl rfl) (qH hN GN hr (by rfl) (qd (jv 0) qg)))
     (qf (qw (i:=2) Yb.nd rfl (Or.inl rfl) Qn)
     (qf (jd PassesOwn.never rfl (qN (jv 0)) (ZU rfl (jx (qA (i:=3) Yb.nd rfl (Or.inl rfl)) (jx (qA (i:=4) Yb.nd rfl (Or.inl rfl)) JQ)))
       (qh (qM (Ql (JX hu (jv 3) (jv 1)))
         (qh (jt hu (jv 2) (jv 3) (qO Kz (Qm (qd qR qg)) (qX hu (jv 1) (jv 3) (λ_ _=>rfl))) rfl))
         (qf (qw (i:=5) Yb.nd rfl (Or.inl rfl) qk)
         (qf (jd PassesOwn.never rfl (zV (jv 4)) (qA (i:=6) Yb.nd rfl (Or.inl rfl))
           (qh (qM (Ql (JX hu (jv 6) (jv 1))) (qh (qw (i:=5) Yb.nd rfl (Or.inl rfl) (qO Rz (jv 5) (qO xT qk (qY jc (qX hu (jv 1) (jv 6) (λ_ _=>rfl)) qk (λ_ _=>rfl)))))) qE)))
         (qh (jt hu (jv 2) (jv 3) (Qm (qd qR (qd (jv 5) qg))) rfl)))))))
     (qh (qB (jv 2))))),?_⟩
   have good:=g.good
   have le14:=g.le
   have nd:=good.nd
   refine⟨_,rfl,l,ps,rs,rfl,g,λH1 e R s1 he fd all=>?_⟩
   have L:=VQ (QI nd) all
   intro D hD
   have hD0:H D=none:=ju s1 hD
   have sD:qo H1 (upd H1 D (.dK [])):=ql hD
   have hDD:upd H1 D (.dK []) D=some (.dK []):=qe
   generalize upd H1 D (.dK [])=H2 at sD hDD
   have s12:=s1.trans sD
   have fd2:=fd.mono sD
   have nDe:e≠D:=λz=>by
     obtain⟨k0,h0⟩:=fd.isd
     rw[z,hD]at h0;cases h0
   have fdG:∀{G:Hp},Fr H2 D G->QP (rs.map (·.1)) G e (fR R):=λfr=>by
     obtain⟨kvs,a,b,c,x⟩:=fd2.at_
     refine⟨kvs,fr _ _ a nDe,b,λz n s hz=>?_,x⟩
     obtain⟨t,u,v⟩:=c z n s hz
     exact⟨t,u,fr _ _ v (λq=>by rw[q,hDD]at v;cases v)⟩
   have nlD:l≠D:=λz=>by have:=s12 _ _ g.at_;rw[z,hDD]at this;cases this
   have gG:∀{G:Hp},Fr H2 D G->jF G l ps rs:=λfr=>(g.mono s12).fr' hDD fr
   refine⟨_,rfl,l,rfl,⟨_,.of (s12 _ _ g.at_)⟩,?_⟩
   refine jr (K:=K) (a:=l) (xs:=ps.map V.ref) (λi σ' G=>∃(v3 v4 v5 v6:Option V) (kvs:List (qL×V)),σ'=[some (.ref l),some (.ref e),some (.ref D),v3,v4,v5,v6]/\Fr H2 D G/\G D=some (.dK kvs)/\kvs.map (·.1)=((rs.map (·.1)).take i).map Sum.inr/\∀r∈rs.take i,∃t,jj kvs (Sum.inr r.1:qL)=some (.ref t)/\G t=some (.tup (QH rs R r.1)))
     ⟨none,none,none,none,[],rfl,Fr.refl,hDD,rfl,λr h=>(nomatch h)⟩ (λi σ' G _ ⟨_,_,_,_,_,_,f,_⟩=>.of (gG f).at_) ?_ ?_
   . rintro i y σ' G3 hy ⟨v3,v4,v5,v6,kvs,rfl,fr,hDk,ek,hv⟩
     obtain⟨p,qq,r,rfl,er,hr',ha,hb⟩:=(gG fr).rows.item hy
     have hi:=(tw.mp er).1
     have eN:(rs.map (·.1))[i]?=some r.1:=by rw[tH,er];rfl
     have hrN:r.1∈rs.map (·.1):=tL.mpr ⟨r,hr',rfl⟩
     have lk:kvs.length=i:=by
       have:=congrArg zaD ek
       rw[tj,tj,tS,tj]at this
       omega
     have new:jj kvs (Sum.inr r.1:qL)=none:=Jm (by rw[ek];exact Qv nd eN)
     have fin:∀(G4:Hp) (t:Addr) (v3 v4 v5 v6:Option V),qo G3 G4->G4 t=some (.tup (QH rs R r.1))->∃H5,Q4 G4 D (.str r.1) (.ref t) H5/\
         ∃(v3' v4' v5' v6':Option V) (kvs:List (qL×V)),[some (V.ref l),some (.ref e),some (.ref D),v3,v4,v5,v6]=[some (.ref l),some (.ref e),some (.ref D),v3',v4',v5',v6']/\Fr H2 D H5/\H5 D=some (.dK kvs)/\kvs.map (·.1)=((rs.map (·.1)).take (i+1)).map Sum.inr/\∀r∈rs.take (i+1),∃t,jj kvs (Sum.inr r.1:qL)=some (.ref t)/\H5 t=some (.tup (QH rs R r.1)):=λG4 t v3 v4 v5 v6 s4 ht=>by
       have h4:=s4 _ _ hDk
       refine⟨_,Q4.k (k:=(Sum.inr r.1:qL)) h4 (qp (by omega)),v3,v4,v5,v6,jN kvs (Sum.inr r.1) (.ref t),rfl,(fr.same s4).at_d,qe,?_,λr2 hr2=>?_⟩
       . rw[QC _ new,tI,ek,tQ,eN,tI]
         rfl
       . have tD:∀{b:Addr} {xs:List V},G4 b=some (.tup xs)->b≠D:=λhb e=>by rw[e,h4]at hb;cases hb
         rw[tQ,er]at hr2
         rcases tX.mp hr2 with h | h
         . obtain⟨t2,a,b⟩:=hv r2 h
           have ne:r2.1≠r.1:=λe=>by rw[e,new]at a;cases a
           refine⟨t2,?_,?_⟩
           . rw[jW,if_neg (λq=>ne (Sum.inr.inj q))];exact a
           . rw[qi (tD (s4 _ _ b))];exact s4 _ _ b
         . have:r2=r:=by simpa using h
           subst this
           exact⟨t,by rw[jW,if_pos rfl],by rw[qi (tD ht)];exact ht⟩
     refine⟨p,_,rfl,.of ha,rfl,_,_,rfl,_,_,rfl,rfl,?_⟩
     obtain⟨ov,go,eo,ho⟩:=(fdG fr).get r.1
     refine⟨_,rfl,_,rfl,e,_,rfl,go,_,rfl,?_⟩
     rw[eo]
     have e1:(fR R r.1).isSome=(qG R r.1).isSome:=by unfold fR;rw[zbd]
     rw[e1]
     cases cz:qG R r.1 with
     | some n=>
       have ef:fR R r.1=some (n,Q6 R r.1):=by unfold fR;rw[cz];rfl
       obtain⟨t0,et,ht0⟩:=ho _ _ ef
       rw[et]at go
       have el:QH rs R r.1=[.str "number",.int (n:Nat),.int (Q6 R r.1:Nat)]:=by unfold QH;rw[cz]
       refine j4 ⟨by show 1<=sizeLine;decide,λt1 ht1=>?_⟩
       have s5:qo G3 (upd G3 t1 (.tup [.str "number"])):=ql ht1
       have go5:=(((fdG fr).mono s5).get r.1)
       obtain⟨ov5,go5,_,ho5⟩:=go5
       obtain⟨t5,et5,ht5⟩:=ho5 _ _ ef
       rw[et5]at go5
       refine⟨_,rfl,_,rfl,e,_,rfl,go5,t1,t5,_,_,rfl,rfl,qe,ht5,by show 1+2<=sizeLine;decide,λt6 G6 s6 ht6=>?_⟩
       obtain⟨H7,put,kk⟩:=fin G6 t6 (some (.str r.1)) (some (.ref qq)) v5 v6 (s5.trans s6) (by rw[el];exact ht6)
       exact⟨_,rfl,_,rfl,D,H7,rfl,put,kk⟩
     | none=>
       have el:QH rs R r.1=[.str "endless",.int (Rb.setN (ZH rs (qG R) r.1):Nat)]:=by unfold QH;rw[cz]
       refine jz ⟨_,rfl,qq,rfl,⟨_,.of hb⟩,?_⟩
       have eld:j0 rs r.1=r.2:=zj nd hr'
       refine YJ (K:=K) (a:=qq) (xs:=r.2.map V.str) (λm σ'' G4=>∃v6,σ''=[some (.ref l),some (.ref e),some (.ref D),some (.str r.1),some (.ref qq),some (.int (Rb.setN ((r.2.take m).filterMap (qG R)):Nat)),v6]/\G4=G3)
         ⟨v6,rfl,rfl⟩ (λm σ'' G4 _ ⟨_,_,e⟩=>e▸.of hb) ?_ ?_
       . rintro m x σ'' G4 hx ⟨v6',rfl,rfl⟩
         obtain⟨y,ey,hy,rfl⟩:=j6 hx
         obtain⟨oy,gy,eoy,hoy⟩:=(fdG fr).get y
         refine⟨_,rfl,_,rfl,e,_,rfl,gy,_,rfl,?_⟩
         rw[eoy]
         have e2:(fR R y).isSome=(qG R y).isSome:=by unfold fR;rw[zbd]
         rw[e2]
         have etk:(r.2.take (m+1)).filterMap (qG R)=(r.2.take m).filterMap (qG R)++[y].filterMap (qG R):=by
           rw[tQ,ey,zan]
           rfl
         rw[etk]
         cases cy:qG R y with
         | none=>
           have e3:[y].filterMap (qG R)=[]:=by simp [cy]
           rw[e3,zap]
           exact jz ⟨_,rfl,rfl⟩
         | some n=>
           have e3:[y].filterMap (qG R)=[n]:=by simp [cy]
           have efy:fR R y=some (n,Q6 R y):=by unfold fR;rw[cy];rfl
           obtain⟨ty,ety,hty⟩:=hoy _ _ efy
           rw[ety]at gy
           have hyN:y∈rs.map (·.1):=YF good hrN (by rw[eld];exact hy)
           have n8:=Xh good L hyN cy
           rw[e3,Rb.setN_snoc]
           refine j4 ⟨_,rfl,_,rfl,_,rfl,e,_,rfl,gy,ty,_,0,_,rfl,rfl,.of hty,rfl,1,(n:Int),rfl,rfl,⟨by omega,by omega,by decide⟩,_,_,rfl,rfl,some (.str y),?_,rfl⟩
           have e9:(1:Int)*2^ ((n:Int).toNat)=((2^n:Nat):Int):=by
             rw[Int.one_mul,zaP]
             exact(Int.natCast_pow 2 n).symm
           show [_,_,_,_,_,some (V.int (Builtin.bitOr (Rb.setN ((r.2.take m).filterMap (qG R)):Nat) ((1:Int)*2^ ((n:Int).toNat)))),_]=_
           rw[e9,bo]
       . rintro σ'' G4 ⟨v6',rfl,rfl⟩
         rw[tj,tG (tE _)]
         have ek2:Rb.setN (r.2.filterMap (qG R))=Rb.setN (ZH rs (qG R) r.1):=by
           have:=RU good (f:=qG R) hrN
           unfold kn at this
           rw[eld]at this
           exact this
         rw[ek2]
         refine⟨_,rfl,by show 2<=sizeLine;decide,λt ht=>?_⟩
         obtain⟨H7,put,kk⟩:=fin (upd G4 t (.tup [.str "endless",.int (Rb.setN (ZH rs (qG R) r.1):Nat)])) t (some (.str r.1)) (some (.ref qq)) (some (.int (Rb.setN (ZH rs (qG R) r.1):Nat))) v6' (ql ht) (by rw[el];exact qe)
         exact⟨_,rfl,_,rfl,D,H7,rfl,put,kk⟩
   . rintro σ' G3 ⟨v3,v4,v5,v6,kvs,rfl,fr,hDk,ek,hv⟩
     have lp:=(g.rows.1)
     rw[tj,lp]at ek hv
     rw[<-tj (f:=(·.1)) (as:=rs),tG (tE _)]at ek
     rw[tG (tE _)]at hv
     exact⟨_,rfl,q G3 D R (λb u h=>fr _ _ (s12 _ _ h) (qr h hD0)) hD0 ⟨kvs,hDk,ek,hv⟩ all⟩
end
open PySem L2 PyProof.Rows MLab Rb
abbrev zI:Stmt:=top 60
abbrev Jf:Stmt:=top 61
abbrev QS:Stmt:=top 62
theorem wC {hs:List Str} {j:Nat} (h:j < hs.length) (y:Str):hs.take j++[y]++hs.drop (j+1)=lf hs (j,y):=by
 unfold lf
 rw[List.set_eq_take_append_cons_drop,if_pos h]
 simp
theorem wB {rs:jb} (g:qD rs) {hs:List Str} (hi:∀z∈hs,∃r∈rs,r.1=z) {b:List Str}:b∈mv (j0 rs) hs↔∃m∈mvs rs hs hs.length,b=lf hs m:=by
 rw[jy]
 constructor
 . rintro⟨p,x,y,q,rfl,hy,rfl⟩
   have hx:x∈rs.map (·.1):=by
     obtain⟨r,hr,e⟩:=hi x (by simp)
     exact tL.mpr ⟨r,hr,e⟩
   have ez:zz (p++x::q) p.length=x:=by unfold zz;simp
   refine⟨(p.length,y),List.mem_flatMap.mpr ⟨p.length,zaQ.mpr (by simp),tL.mpr ⟨y,by rw[ez];exact(qQ g hx).mp hy,rfl⟩⟩,?_⟩
   unfold lf
   simp
 . rintro⟨m,hm,rfl⟩
   obtain⟨h1,h2⟩:=QO hm
   have hz:zz hs m.1∈rs.map (·.1):=by
     obtain⟨r,hr,e⟩:=hi _ (ZY h1)
     exact tL.mpr ⟨r,hr,e⟩
   refine⟨hs.take m.1,zz hs m.1,m.2,hs.drop (m.1+1),?_,(qQ g hz).mpr h2,?_⟩
   . have:=Zq h1
     obtain⟨h3,h4⟩:=tw.mp this
     rw[<-h4]
     simp
   . rw[<-wC h1]
     simp
abbrev zy (rs:jb) (R:Rs Str):Prop:=All (Q7 rs) (rs.map (·.1)) 0 [] R
def oW (rs:jb) (R:Rs Str) (hs:List Str):Str:=ZC (Qg (hs.map (wT rs R)))
def cnt (R:Rs Str) (hs:List Str):Nat:=(hs.map (Q6 R)).sum
def Je (rs:jb) (R:Rs Str) (hs:List Str):List (Nat×Str):=(mvs rs hs hs.length).filter λm=>decide (oW rs R (lf hs m)=Str.ofString "lost")
def Zp (rs:jb) (R:Rs Str) (hs:List Str) (m:Nat×Str):Prop:=∃i:Nat,(Je rs R hs)[i]?=some m/\∀(j:Nat) (mj:Nat×Str),(Je rs R hs)[j]?=some mj->cnt R (lf hs m)<=cnt R (lf hs mj)/\(j < i->cnt R (lf hs m) < cnt R (lf hs mj))
theorem Zp.uniq {rs:jb} {R:Rs Str} {hs:List Str} {m m':Nat×Str} (h:Zp rs R hs m) (k:Zp rs R hs m'):m=m':=by
 obtain⟨i,e,b⟩:=h
 obtain⟨j,e',b'⟩:=k
 rcases zaE i j with c | c | c
 . have h1:=(b' i m e).2 c
   have h2:=(b j m' e').1
   omega
 . rw[c,e']at e
   exact(tN.inj e).symm
 . have h1:=(b j m' e').2 c
   have h2:=(b' i m e).1
   omega
theorem Zp.mem {rs:jb} {R:Rs Str} {hs:List Str} {m:Nat×Str} (h:Zp rs R hs m):m∈mvs rs hs hs.length/\oW rs R (lf hs m)=Str.ofString "lost":=by
 obtain⟨i,e,_⟩:=h
 have:=zad.mp (t8 e)
 exact⟨this.1,of_decide_eq_true this.2⟩
theorem v8 (b:Nat):ZC (.edl b)≠Str.ofString "lost":=by
 show (if b.testBit 0=true then (Str.ofString "won") else Str.ofString "drawn")≠_
 split<;>decide+kernel
theorem Jr {rs:jb} {R:Rs Str} {hs:List Str} (h:oW rs R hs=Str.ofString "lost"):∀z∈hs,∃n,qG R z=some n:=λz hz=>by
 cases e:qG R z with
 | some n=>exact⟨n,rfl⟩
 | none=>
   exfalso
   have hm:setN (ZH rs (qG R) z)∈jX (hs.map (wT rs R)):=by
     unfold jX
     exact zaF.mpr ⟨.edl _,tL.mpr ⟨z,hz,Zb e⟩,rfl⟩
   unfold oW Qg at h
   cases c:jX (hs.map (wT rs R)) with
   | nil=>rw[c]at hm;cases hm
   | cons b l=>
     rw[c]at h
     cases l with
     | nil=>exact v8 _ h
     | cons b' l=>exact v8 _ h
theorem yM {rs:jb} (good:qD rs) {R:Rs Str} (all:zy rs R) {hs:List Str} (hi:∀z∈hs,∃r∈rs,r.1=z) (h:oW rs R hs=Str.ofString "won"):0 < (Je rs R hs).length:=by
 have L:=VQ (QI good.nd) all
 have nm:∀{b:List Str},(∀z∈b,∃r∈rs,r.1=z)->∀z∈b,z∈rs.map (·.1):=λh z hz=>let ⟨r,hr,e⟩:=h z hz;tL.mpr ⟨r,hr,e⟩
 have d1:¬(Str.ofString "won"=Str.ofString "lost"):=by decide+kernel
 have d2:¬(Str.ofString "won"=Str.ofString "drawn"):=by decide+kernel
 rcases WI good L (nm hi) with ⟨_,e⟩ | ⟨w,_⟩ | ⟨_,_,e⟩
 . exact absurd (h.symm.trans e) d1
 . obtain⟨mb,l⟩:=w
   obtain⟨m,hm,rfl⟩:=(wB good hi).mp mb
   have:m∈Je rs R hs:=zad.mpr ⟨hm,decide_eq_true (by
     rcases WI good L (nm (zi good hi hm)) with ⟨_,e⟩ | ⟨w,_⟩ | ⟨n,_,_⟩
     . exact e
     . exact absurd w (zg l)
     . exact absurd l n)⟩
   exact zbs this
 . exact absurd (h.symm.trans e) d2
theorem yZ {rs:jb} {R:Rs Str} (all:zy rs R) (le:rs.length<=14) (z:Str):Q6 R z<=14:=by
 have h1:=WK (kq all U2.nil)
 rw[tj]at h1
 have h2:Q6 R z<=R.length:=List.findIdx_le_length
 omega
theorem Vl {R:Rs Str}:∀{hs:List Str},(∀z∈hs,Q6 R z<=14)->cnt R hs<=14*hs.length:=by
 intro hs
 induction hs with
 | nil=>intro _;exact zat _
 | cons z hs ih=>
   intro h
   have h1:=h z t9
   have h2:=ih λy hy=>h y (tZ _ hy)
   unfold cnt at h2 ⊢
   simp only[tW,zaU,zau]
   omega
theorem vY {α β:Type} (f:α->β) (l:List α):l.filterMap (λx=>some (f x))=l.map f:=by induction l<;>simp [*]
theorem Wf {α β:Type} (p:α->Bool) (f:α->β) (l:List α):(l.filterMap λx=>if p x=true then some (f x) else none)=(l.filter p).map f:=by
 induction l with
 | nil=>rfl
 | cons x l ih=>cases c:p x<;>simp [c,ih]
theorem uy {α:Type} {H:Hp} {f:α->Addr} {g:α->Nat×Str}:∀{l:List α},(∀x∈l,H (f x)=some (.tup (X7 (g x))))->jV H (l.map f) (l.map g):=λ{l} h=>by
 refine⟨by rw[tj,tj],λi p m e1 e2=>?_⟩
 rw[tH]at e1 e2
 cases e:l[i]? with
 | none=>rw[e]at e1;cases e1
 | some x=>
   rw[e]at e1 e2
   cases e1
   cases e2
   exact h x (t8 e)
theorem Yq.pts {H:Hp}:∀{ts:List Addr} {os:List ((Nat×Str)×Str)},Yq H ts os->∃xs:List (Addr×Addr×((Nat×Str)×Str)),xs.map (·.1)=ts/\xs.map (·.2.2)=os/\∀x∈xs,H x.1=some (.tup [.ref x.2.1,.str x.2.2.2])/\H x.2.1=some (.tup (X7 x.2.2.1)):=by
 intro ts
 induction ts with
 | nil=>
   intro os h
   cases os with
   | nil=>exact⟨[],rfl,rfl,λ_ z=>by cases z⟩
   | cons o os=>cases h.1
 | cons t ts ih=>
   intro os h
   cases os with
   | nil=>cases h.1
   | cons o os=>
     obtain⟨p,h1,h2⟩:=h.2 0 t o rfl rfl
     obtain⟨xs,e1,e2,hx⟩:=ih (os:=os) ⟨zcO.inj h.1,λi a b e1 e2=>h.2 (i+1) a b (by simpa using e1) (by simpa using e2)⟩
     refine⟨(t,p,o)::xs,by rw[tW,e1],by rw[tW,e2],λx hx'=>?_⟩
     rcases tY.mp hx' with rfl | hx'
     . exact⟨h1,h2⟩
     . exact hx x hx'
theorem uK (rs:jb) (R:Rs Str) (hs:List Str):((WJ rs R hs).filter λo=>decide (o.2=Str.ofString "lost")).map (·.1)=Je rs R hs:=by
 unfold WJ Je
 rw[List.filter_map,zaX]
 show zdP id _=_
 rw[List.map_id]
 rfl
def Wt (CG:Addr):Sp:=λvs H Q _=>∃(g D h:Addr) (rs:jb) (R:Rs Str) (hs:List Str),vs=[.ref g,.ref D,.ref h]/\Qh CG H g rs/\qD rs/\rs.length<=14/\jA H D rs R/\zy rs R/\js H h rs hs/\
 ∀H' L ps,qo H H'->H L=none->H' L=some (.lst (ps.map V.ref))->jV H' ps (Je rs R hs)->Q (.ref L) H'
def Q8:Sp:=λvs H Q _=>∃(D h:Addr) (rs:jb) (R:Rs Str) (hs:List Str),vs=[.ref D,.ref h]/\rs.length<=14/\jA H D rs R/\zy rs R/\js H h rs hs/\(∀z∈hs,∃n,qG R z=some n)/\∀H',qo H H'->Q (.int (cnt R hs:Nat)) H'
def zM:Str:=(Str.ofString "winner_by"++Str.ofString ".<locals>.")++Str.ofString "<lambda>"
def Yv (CG PT:Addr):Sp:=λvs H Q _=>∃(g D h:Addr) (rs:jb) (R:Rs Str) (hs:List Str),vs=[.ref g,.ref D,.ref h]/\Qh CG H g rs/\qD rs/\rs.length<=14/\jA H D rs R/\zy rs R/\js H h rs hs/\0 < (Je rs R hs).length/\(∃tq,H PT=some (.tbl #[.str zM tq]))/\
 ∀H' p m,qo H H'->H' p=some (.tup (X7 m))->Zp rs R hs m->Q (.ref p) H'
section
variable {P:Program} {w:World} {K:PySem.W.Frag} {mg:Str->Option Value} {base:Heap}
abbrev p3:List Str:=["ground","labels","heap"]
theorem u6:qt p3 p3 (qj zI):=⟨rfl,rfl,rfl,by decide+kernel,rfl,by decide+kernel,by decide+kernel⟩
theorem xZ {f CG:Addr} {fd:FuncData} (F:jI K "winning_by" "winning_by" zI f fd) (h:WF K mg) (B:QL mg) (Z:Wk K mg) (G:QE mg) (T:Qx K mg) (M:GM K mg CG) (O:uz K mg) (V1:Ra K mg):qm P w K mg base qK 11 f fd p3 (Wt CG):=by
 obtain⟨fO,fdO,hO⟩:=V1.osby
 have GO:qm P w K mg base qK 10 fO fdO p3 (xf CG):=KE hO.fn h B Z G T M O V1
 refine F.okJ u6 (λvs H Q E z=>?_) (λcdv A outer s H vs Q E hr z=>?_)
 . obtain⟨g,D,h',rs,R,hs,rfl,_⟩:=z
   rfl
 . obtain⟨g,D,h',rs,R,hs,rfl,gr,good,le,lb,all,hh,q⟩:=z
   refine⟨_,qh (qB (Qd (N':=["pair"]) (ix:=[none]) (tt:=XV (YO rEq (YO (Yl K) (jo 0) (tC (.int 1))) (tC (.str (Str.ofString "lost"))))) (te:=YO (Yl K) (jo 0) (tC (.int 0))) rfl ⟨rfl,rfl,rfl,rfl,rfl⟩ (qN (qH hO GO hr (by rfl) (qd (jv 0) (qd (jv 1) (qd (jv 2) qg))))) (λC s2 H2 fp pins=>
       ⟨qA (i:=0) (Mg _) rfl (Or.inl rfl),j7 (qu jH (qY jc (jv 0) qk (λ_ _=>rfl)) qR (qC _)),qY jc (jv 0) qk (λ_ _=>rfl)⟩))),?_⟩
   refine⟨_,rfl,_,rfl,_,rfl,g,D,h',rs,R,hs,rfl,gr,good,le,lb,VQ (QI good.nd) all,hh,λH1 L ts s1 hL hL1 os=>⟨L,rfl,⟨_,.of hL1⟩,λW hW=>?_⟩⟩
   obtain⟨xs,e1,e2,hx⟩:=os.pts
   have lmv:(mvs rs hs hs.length).length<=112:=by
     have:=Zw good le hh.in_ hs.length (tE _)
     have:=hh.le
     omega
   have lxs:xs.length<=112:=by
     have:=congrArg zaD e2
     unfold WJ at this
     rw[tj,tj]at this
     omega
   have hL1':H1 L=some (.lst (xs.map λx=>V.ref x.1)):=by
     rw[<-e1,zaX]at hL1
     exact hL1
   refine J3 (K:=K) (a:=L) (xs:=xs) (enc:=λx=>V.ref x.1) (out:=λx=>if decide (x.2.2.2=Str.ofString "lost")=true then some (V.ref x.2.1) else none) (rest:=[]) hW hL1' (qp (by omega)) (λx hx' Y sY R' hR=>?_) (λx hx' v ev Y sY R' hR=>?_) (λH5 s5 hD5=>?_)
   . refine⟨_,rfl,x.1,_,1,.str x.2.2.2,rfl,rfl,.of (sY _ _ (hx x hx').1),rfl,rfl,_,rfl,?_⟩
     have r:=hR Y (qo.refl Y)
     have e:(if decide (x.2.2.2=Str.ofString "lost")=true then some (V.ref x.2.1) else none).isSome=decide (V.str x.2.2.2=V.str (Str.ofString "lost")):=by
       by_cases c:x.2.2.2=Str.ofString "lost"
       . rw[decide_eq_true c,decide_eq_true (by rw[c])];rfl
       . rw[decide_eq_false c,decide_eq_false λz=>c (V.str.inj z)];rfl
     rw[e]at r
     exact r
   . have ev':v=.ref x.2.1:=by
       by_cases c:x.2.2.2=Str.ofString "lost"
       . rw[decide_eq_true c]at ev;exact(tN.inj ev).symm
       . rw[decide_eq_false c]at ev;cases ev
     subst ev'
     exact⟨_,rfl,x.1,_,0,_,rfl,rfl,.of (sY _ _ (hx x hx').1),rfl,hR Y (qo.refl Y)⟩
   . rw[Wf]at hD5
     refine q H5 W ((xs.filter λx=>decide (x.2.2.2=Str.ofString "lost")).map (·.2.1)) (s1.trans s5) (ju s1 hW) (by rw[zaX];exact hD5) ?_
     have e3:(xs.filter λx=>decide (x.2.2.2=Str.ofString "lost")).map (·.2.2.1)=Je rs R hs:=by
       rw[<-uK,<-e2,List.filter_map,zaX]
       rfl
     rw[<-e3]
     exact uy λx hx'=>s5 _ _ (hx x (zad.mp hx').1).2
theorem Kh:qt ["labels","heap"] ["labels","heap"] (qj Jf):=⟨rfl,rfl,rfl,by decide+kernel,rfl,by decide+kernel,by decide+kernel⟩
theorem VL {f:Addr} {fd:FuncData} (F:jI K "count_by" "count_by" Jf f fd) (T:Qx K mg):qm P w K mg base qK 1 f fd ["labels","heap"] Q8:=by
 refine F.okJ Kh (λvs H Q E z=>?_) (λcdv A outer s H vs Q E hr z=>?_)
 . obtain⟨D,h',rs,R,hs,rfl,_⟩:=z
   rfl
 . obtain⟨D,h',rs,R,hs,rfl,le,lb,all,hh,nm,q⟩:=z
   have hu:=jU hr
   refine⟨_,qh (qB (qJ (zX rfl) (by rfl) T.sum boot_sum (qd (Qd (N':=["place","labels"]) (ix:=[none,some 0]) (te:=YO (Yl K) (YQ (jo 1) (jo 0)) (tC (.int 2))) rfl ⟨rfl,rfl,rfl,rfl,rfl⟩ (qN (jv 1)) (λC s2 H2 fp pins=>
       ⟨qA (i:=0) (show (["place","labels"]:List Str).Nodup by decide+kernel) rfl (Or.inl rfl),jL,qY jc (qX hu (jv 1) (jv 0) (λ_ _=>rfl)) qk (λ_ _=>rfl)⟩)) qg))),?_⟩
   refine⟨_,rfl,h',rfl,⟨_,.of hh.at_⟩,λW hW=>?_⟩
   refine J3 (K:=K) (a:=h') (xs:=hs) (enc:=V.str) (out:=λz=>some (V.int (Q6 R z:Nat))) (rest:=[some (.ref D)]) hW hh.at_ (qp (zac hh.le (by decide))) (λx hx Y sY R' hR=>hR Y (qo.refl Y)) (λx hx v ev Y sY R' hR=>?_) (λH5 s5 hD5=>?_)
   . cases ev
     obtain⟨kvs,hD,_,hv⟩:=(lb.mono sY).at_
     obtain⟨r,hr',er⟩:=hh.in_ x hx
     obtain⟨t,et,ht⟩:=hv r hr'
     rw[er]at et ht
     obtain⟨n,en⟩:=nm x hx
     unfold QH at ht
     rw[en]at ht
     exact⟨_,rfl,_,rfl,D,_,rfl,by rw[<-et];exact jO.k (k:=(Sum.inr x:qL)) hD,t,_,2,_,rfl,rfl,.of ht,rfl,hR Y (qo.refl Y)⟩
   . rw[vY]at hD5
     have hc:=Vl (R:=R) (hs:=hs) λz _=>yZ all le z
     have h8:=hh.le
     refine⟨W,hs.map (Q6 R),rfl,.of (by rw[zaX];exact hD5),?_,q H5 s5⟩
     show cnt R hs < 2^62
     omega
end
open PySem L2 PyProof.Rows MLab Rb
def MC:Stmt->Expr
 | .Return (some e) _=>e
 | _=>.Constant .none 0 ⟨0,0,0,0⟩
def qai:Expr->Expr
 | .Call _ _ (k::_) _=>k.value
 | e=>e
def ND:Expr->Arguments
 | .Lambda a _ _ _=>a
 | _=>{posonlyargs:=[],args:=[],vararg:=none,kwonlyargs:=[],kw_defaults:=[],kwarg:=none,defaults:=[]}
def NC:Expr->Expr
 | .Lambda _ b _ _=>b
 | e=>e
def K4:Expr->Scope
 | .Lambda _ _ s _=>s
 | _=>{kind:=.function,names:=[],isGenerator:=false,isCoroutine:=false}
abbrev uE:Expr:=qai (MC ((jM QS).getD 0 (.Pass ⟨0,0,0,0⟩)))
def Rt (ws:List (Str×V)):Sp:=λvs H Q _=>∃(D h p:Addr) (rs:jb) (R:Rs Str) (hs:List Str) (m:Nat×Str),ws=[(Str.ofString "labels",.ref D),(Str.ofString "heap",.ref h)]/\vs=[.ref p]/\qD rs/\rs.length<=14/\jA H D rs R/\zy rs R/\js H h rs hs/\H p=some (.tup (X7 m))/\m∈Je rs R hs/\∀H',qo H H'->Q (.int (cnt R (lf hs m):Nat)) H'
abbrev Ro (PT f:Addr) (fd:FuncData):Sp:=λvs H Q E=>∃ws,U5 H PT f zM (ND uE) (NC uE) (K4 uE) fd ws/\Rt ws vs H Q E
def qaF (PT f:Addr) (fd:FuncData) (sp:Sp):Prop:=(∃(pm ctv:Value) (c':Addr) (cl:List (Str×Addr)),fd=zdy "<lambda>" zM (ND uE) (NC uE) (K4 uE) cl pm (.ref c') ctv)/\sp=Ro PT f fd
section
variable {P:Program} {w:World} {K:PySem.W.Frag} {mg:Str->Option Value} {base:Heap}
theorem MO:Uh ["move","labels","heap"] ["move"] ["labels","heap"] (K4 uE):=⟨rfl,rfl,rfl,by decide+kernel,rfl,by decide+kernel,by decide+kernel,by decide+kernel,by decide+kernel⟩
theorem Nj {PT f fC fL:Addr} {fd fdC fdL:FuncData} (G:QE mg) (T:Qx K mg) (hC:qU K mg "count_by" Jf ["labels","heap"] fC fdC) (hL:qU K mg "left_by" Yd ["heap","move"] fL fdL):qm P w K mg base qK 2 f fd ["move"] (Ro PT f fd):=by
 have GC:qm P w K mg base qK 1 fC fdC ["labels","heap"] Q8:=VL hC.fn T
 have GL:qm P w K mg base qK 1 fL fdL ["heap","move"] zD:=WO hL.fn G
 refine GD (PT:=PT) (qual:=zM) (ag:=ND uE) (be:=NC uE) (sc:=K4 uE) (fr:=["labels","heap"]) (sp:=Rt) MO (λws vs H Q E z=>?_) (λc' cl A outer s H ws vs Q E hr z=>?_)
 . obtain⟨D,h,p,rs,R,hs,m,rfl,rfl,_⟩:=z
   exact⟨rfl,rfl⟩
 . obtain⟨D,h,p,rs,R,hs,m,rfl,rfl,good,le,lb,all,hh,hp,hm,q⟩:=z
   have hmm:=zad.mp hm
   refine⟨_,qH hC GC hr (by rfl) (qd (jv 1) (qd (qH hL GL hr (by rfl) (qd (jv 2) (qd (jv 0) qg))) qg)),?_⟩
   refine⟨_,rfl,_,rfl,_,rfl,h,p,hs,m,rfl,hh.at_,hp,(QO hmm.1).1,λl hl=>?_⟩
   have s1:=ql (o:=HO.lst ((hs.set m.1 m.2).map V.str)) hl
   refine⟨D,l,rs,R,lf hs m,rfl,le,lb.mono s1,all,⟨qe,by unfold lf;rw[zbJ];exact hh.le,zi good hh.in_ hmm.1⟩,Jr (of_decide_eq_true hmm.2),λH' s2=>q H' (s1.trans s2)⟩
theorem GJ {PT fC fL:Addr} {fdC fdL:FuncData} (G:QE mg) (T:Qx K mg) (hC:qU K mg "count_by" Jf ["labels","heap"] fC fdC) (hL:qU K mg "left_by" Yd ["heap","move"] fL fdL):∀f fd sp,qaF PT f fd sp->qm P w K mg base qK 2 f fd ["move"] sp/\jG K fd ["move"] []:=by
 rintro f fd sp ⟨⟨pm,ctv,c',cl,rfl⟩,rfl⟩
 exact⟨Nj G T hC hL,.all λus hl=>by obtain⟨_,rfl⟩:=QD hl;rfl⟩
theorem u5:qt p3 p3 (qj QS):=⟨rfl,rfl,rfl,by decide+kernel,rfl,by decide+kernel,by decide+kernel⟩
theorem xY {f c PT CG fW fC fL:Addr} {fd fdW fdC fdL:FuncData} (F:jI K "winner_by" "winner_by" QS f fd) (hc:fd.code=.ref c) (TM:Ud mg base c PT) (B:QL mg) (G:QE mg) (T:Qx K mg) (hC:qU K mg "count_by" Jf ["labels","heap"] fC fdC) (hL:qU K mg "left_by" Yd ["heap","move"] fL fdL)
   (hW:qU K mg "winning_by" zI p3 fW fdW) (GW:qm P w K mg base qK 11 fW fdW p3 (Wt CG)):qm P w K mg base qK 12 f fd p3 (Yv CG PT):=by
 have GM:=GJ (P:=P) (w:=w) (base:=base) (PT:=PT) G T hC hL
 refine F.okB hc u5 (λvs H Q E z=>?_) (λA outer s H vs Q E hr z=>?_)
 . obtain⟨g,D,h',rs,R,hs,rfl,_⟩:=z
   rfl
 . obtain⟨g,D,h',rs,R,hs,rfl,gr,good,le,lb,all,hh,ne,⟨tq,hP⟩,q⟩:=z
   refine⟨_,Ku (fr:=[(Str.ofString "labels",1),(Str.ofString "heap",2)]) (λp hp=>?_) (λ_=>rfl) (qh (qB (Gc (C:=qaF PT) rfl (by rfl) B.min (λf fd sp c=>⟨2,_,(GM f fd sp c).1,hr.mono (by decide),(GM f fd sp c).2⟩)
     (qH hW GW hr (by rfl) (qd (jv 0) (qd (jv 1) (qd (jv 2) qg)))) (Ge (fr:=["labels","heap"]) (qual:=zM) TM rfl rfl rfl (by decide+kernel))))),?_⟩
   . simp only[tY,zba,or_false]at hp
     rcases hp with rfl | rfl
     . exact⟨rfl,rfl⟩
     . exact⟨rfl,rfl⟩
   intro H0 s0 hca
   refine⟨_,rfl,_,rfl,_,rfl,g,D,h',rs,R,hs,rfl,gr.mono s0,good,le,lb.mono s0,all,hh.mono s0,λH1 L ps s1 hL hL1 mv=>?_⟩
   have hca1:=(hca [(Str.ofString "labels",.ref D),(Str.ofString "heap",.ref h')] (λp hp=>by
     simp only[tY,zba,or_false]at hp
     rcases hp with rfl | rfl
     . exact⟨1,t9,rfl⟩
     . exact⟨2,tZ _ t9,rfl⟩)).mono s1
   refine⟨⟨tq,s1 _ _ (s0 _ _ hP)⟩,_,rfl,hca1,λfk fdk H2 s2 nf clo=>?_⟩
   have s02:=(s0.trans s1).trans s2
   obtain⟨pm,ctv,c',cl,oc,efd,_⟩:=clo.ex
   refine⟨L,fk,ps.map V.ref,fdk,_,λi=>(((Je rs R hs)[i]?.map λm=>((cnt R (lf hs m):Nat):Int)).getD 0),λY=>qo H2 Y,rfl,rfl,⟨⟨pm,ctv,c',cl,efd⟩,rfl⟩,qo.refl _,λY sY=>.of (sY _ _ (s2 _ _ hL1)),by rw[tj,mv.1];exact ne,λi x Y hx sY=>?_,λi x Y hx hb sY=>?_⟩
   . rw[tH]at hx
     cases ep:ps[i]? with
     | none=>rw[ep]at hx;cases hx
     | some p=>
       rw[ep]at hx
       obtain rfl:=(tN.inj hx).symm
       have hi:i < (Je rs R hs).length:=by rw[<-mv.1];exact(tw.mp ep).1
       have em:(Je rs R hs)[i]?=some (Je rs R hs)[i]:=tF hi
       have hp:=mv.2 i p _ ep em
       refine⟨_,clo.mono (λb o u e=>sY _ _ e),D,h',p,rs,R,hs,(Je rs R hs)[i],rfl,rfl,good,le,lb.mono (s02.trans sY),all,hh.mono (s02.trans sY),(s2.trans sY) _ _ hp,zbi hi,λY' sY'=>⟨?_,sY.trans sY'⟩⟩
       dsimp only
       rw[em]
       rfl
   . rw[tH]at hx
     cases ep:ps[i]? with
     | none=>rw[ep]at hx;cases hx
     | some p=>
       rw[ep]at hx
       obtain rfl:=(tN.inj hx).symm
       have hi:i < (Je rs R hs).length:=by rw[<-mv.1];exact(tw.mp ep).1
       have em:(Je rs R hs)[i]?=some (Je rs R hs)[i]:=tF hi
       have hp:=mv.2 i p _ ep em
       refine q Y p _ (s02.trans sY) ((s2.trans sY) _ _ hp) ⟨i,em,λj mj ej=>?_⟩
       have hj:j < (ps.map V.ref).length:=by rw[tj,mv.1];exact(tw.mp ej).1
       have:=hb j hj
       dsimp only at this
       rw[em,ej]at this
       have this:((cnt R (lf hs (Je rs R hs)[i]):Nat):Int)<=((cnt R (lf hs mj):Nat):Int)/\(j < i->((cnt R (lf hs (Je rs R hs)[i]):Nat):Int) < ((cnt R (lf hs mj):Nat):Int)):=this
       exact⟨by omega,λc=>by have:=this.2 c;omega⟩
end
open PySem L2 PyProof.Rows MLab Rb
abbrev ZP:Stmt:=top 58
abbrev Y6:Stmt:=top 63
abbrev Z6:Stmt:=top 64
abbrev Vu:Stmt:=top 65
abbrev ZO:Stmt:=j8 (top 8) 0
structure RK (K:PySem.W.Frag) (mg:Str->Option Value) (D:Addr) (x qual:Str) (st:Stmt) (fld:Str) (C f:Addr) (fd:FuncData):Prop where
 cls:uA K C (.ref D::Ja)
 mkr:EMk K C f (.ref D::Ja)
 ns:mg x=some (.ref C)
 na:Qr K C fld
 fn:jI K "__init__" qual st f fd
 bi:jG K fd ["self",fld] []
theorem qbi (D:Addr):UC (.ref D::Ja):=rfl
theorem ym (D:Addr):(Value.ref D::Ja).contains (.type "BaseException")=true:=rfl
theorem RK.rcls {K:PySem.W.Frag} {mg:Str->Option Value} {D C f:Addr} {x qual fld:Str} {st:Stmt} {fd:FuncData} (h:RK K mg D x qual st fld C f fd):N5 K C:=⟨f,_,h.mkr,ym D⟩
def spE (C:Addr) (fld:Str):Sp:=λvs H Q _=>∃e y,vs=[.ref e,y]/\H e=some (zW e C)/\∀dx,H dx=none->Q .non (upd (upd H e (ZW e C dx)) dx (.xd [(fld,y)]))
theorem YD {H:Hp} {e dx C:Addr} {fs:List (Str×V)} (h1:H e=none) (h2:upd H e (zW e C) dx=none):
   qo H (upd (upd (upd H e (zW e C)) e (ZW e C dx)) dx (.xd fs))/\upd (upd (upd H e (zW e C)) e (ZW e C dx)) dx (.xd fs) e=some (ZW e C dx)/\upd (upd (upd H e (zW e C)) e (ZW e C dx)) dx (.xd fs) dx=some (.xd fs):=by
 have ne:e≠dx:=λz=>by rw[<-z,qe]at h2;cases h2
 refine⟨λb o hb=>?_,?_,qe⟩
 . have b1:b≠e:=qr hb h1
   have b2:b≠dx:=λz=>by rw[<-z,qi b1,hb]at h2;cases h2
   rw[qi b2,qi b1,qi b1];exact hb
 . rw[qi ne];exact qe
theorem VU {X:Cx} {x:Str} {st:Stmt} {ps:List Str} {f:Addr} {fd:FuncData} {k:Nat} {sp:Sp} {E:XK} {e:Expr} {es:List Expr} {t:TA} {p pos:Pos} (h:qU X.K X.mg x st ps f fd) (G:qm X.prog X.w X.K X.mg X.base (YN X.prog X.w) k f fd ps sp) (hr:qV k X.A) (hx:Qq (YN X.prog X.w) X E)
   (hg:Gl X x) (ha:JA X (e::es) t) (hdb:(x==("__debug__":Str))=false:=by decide) (he:starEach (e::es) X.env=(false,eval e X.env)::starEach es X.env:=by rfl) (hpl:(backTo pos (starEach es X.env)).any (·.1)=false:=by rfl):
   JE X (.Call (.Name x p) (e::es) [] pos) (z9 sp [] E t):=.of (vJ G hr hg h.ns h.fn.kp h.bi .nil hx ha.to hdb he hpl)
def Md (CS:Addr) (z:Str) (H:Hp) (E:XK):Prop:=∀H1 dx,qo H H1->H1 dx=some (.xd [(Str.ofString "found",.str z)])->E (.ref CS) (some dx) H1
theorem Md.same {CS:Addr} {z:Str} {H H':Hp} {E:XK} (h:Md CS z H E) (s:qo H H'):Md CS z H' E:=λH1 dx s1 e=>h H1 dx (s.trans s1) e
def Yw (CS:Addr):Sp:=λvs H Q E=>∃(D h:Addr) (rs:jb) (R:Rs Str) (hs:List Str) (wd:Str),vs=[.ref D,.ref h,.str wd]/\jA H D rs R/\js H h rs hs/\(∀z∈hs,zO (wT rs R z))/\(oW rs R hs=wd->∀H',qo H H'->Q .non H')/\(oW rs R hs≠wd->Md CS (oW rs R hs) H E)
def GH (CG:Addr) (H:Hp) (g h:Addr) (rs:jb) (hs:List Str):Prop:=Qh CG H g rs/\qD rs/\rs.length<=14/\js H h rs hs
theorem Xe {rs:jb} (good:qD rs) {R:Rs Str} (all:zy rs R) {hs:List Str} (hi:∀z∈hs,∃r∈rs,r.1=z):∀z∈hs,zO (wT rs R z):=λz hz=>by
 obtain⟨r,hr',e⟩:=hi z hz
 exact Rf good (VQ (QI good.nd) all) (tL.mpr ⟨r,hr',e⟩)
def wL:Str:=Str.ofString "lost"
def wW:Str:=Str.ofString "won"
def wD:Str:=Str.ofString "drawn"
theorem KU {rs:jb} {R:Rs Str} {hs:List Str}:oW rs R hs=wL\/oW rs R hs=wW\/oW rs R hs=wD:=by
 unfold oW
 cases Qg (hs.map (wT rs R)) with
 | num n=>
   show (if n=0 then (Str.ofString "lost") else Str.ofString "won")=_\/(if n=0 then (Str.ofString "lost") else Str.ofString "won")=_\/_
   split
   . exact .inl rfl
   . exact .inr (.inl rfl)
 | edl b=>
   show _\/(if b.testBit 0=true then (Str.ofString "won") else Str.ofString "drawn")=_\/(if b.testBit 0=true then (Str.ofString "won") else Str.ofString "drawn")=_
   split
   . exact .inr (.inl rfl)
   . exact .inr (.inr rfl)
theorem Rg:wL≠wW:=by decide+kernel
theorem Mn:wL≠wD:=by decide+kernel
def Wx (CG CS:Addr):Sp:=λvs H Q E=>∃(g h:Addr) (rs:jb) (hs:List Str),vs=[.ref g,.ref h]/\GH CG H g h rs hs/\∀R,zy rs R->(oW rs R hs=wL->∀H',qo H H'->Q (.int (cnt R hs:Nat)) H')/\(oW rs R hs≠wL->Md CS (oW rs R hs) H E)
def YS (CG CS PT:Addr):Sp:=λvs H Q E=>∃(g h:Addr) (rs:jb) (hs:List Str),vs=[.ref g,.ref h]/\GH CG H g h rs hs/\(∃tq,H PT=some (.tbl #[.str zM tq]))/\∀R,zy rs R->(oW rs R hs=wW->∀H' p m,qo H H'->H' p=some (.tup (X7 m))->Zp rs R hs m->Q (.ref p) H')/\(oW rs R hs≠wW->Md CS (oW rs R hs) H E)
def Us (CG CS PT:Addr):Sp:=λvs H Q E=>∃(g h:Addr) (rs:jb) (hs:List Str),vs=[.ref g,.ref h]/\GH CG H g h rs hs/\(∃tq,H PT=some (.tbl #[.str zM tq]))/\∀R,zy rs R->(oW rs R hs=wL->∀H',qo H H'->Q (.int (2*cnt R hs:Nat)) H')/\(oW rs R hs=wW->∀H' m,qo H H'->Zp rs R hs m->Q (.int (1+2*cnt R (lf hs m):Nat)) H')/\(oW rs R hs=wD->Md CS wD H E)
structure HasW (K:PySem.W.Frag) (mg:Str->Option Value):Prop where
 no:∃f fd,qU K mg "need_outcome_by" ZP ["labels","heap","wanted"] f fd
 wb:∃f fd,qU K mg "winning_by" zI p3 f fd
 cb:∃f fd,qU K mg "count_by" Jf ["labels","heap"] f fd
section
variable {P:Program} {w:World} {K:PySem.W.Frag} {mg:Str->Option Value} {base:Heap}
theorem u9:qt ["self","found"] ["self","found"] (qj ZO):=⟨rfl,rfl,rfl,by decide+kernel,rfl,by decide+kernel,by decide+kernel⟩
theorem vM {D C f:Addr} {fd:FuncData} (x:RK K mg D "NotSo" "NotSo.__init__" ZO "found" C f fd):qm P w K mg base qK 1 f fd ["self","found"] (spE C "found"):=by
 refine x.fn.okJ u9 (λvs H Q E h=>?_) (λcdv A outer s H vs Q E hr h=>?_)
 . obtain⟨e,y,rfl,_⟩:=h
   rfl
 . obtain⟨e,y,rfl,hH,k⟩:=h
   exact⟨_,qh (NI (bm:=.ref D::Ja) (jv 0) (jv 1) rfl),_,rfl,_,rfl,e,C,rfl,hH,x.cls,qbi D,x.na,λdx hdx=>k dx hdx⟩
abbrev nNO:List Str:=["labels","heap","wanted","found"]
theorem ML:qt nNO ["labels","heap","wanted"] (qj ZP):=⟨rfl,rfl,rfl,by decide+kernel,rfl,by decide+kernel,by decide+kernel⟩
theorem x9 {f fO fX D CS:Addr} {fd fdO fdX:FuncData} (F:jI K "need_outcome_by" "need_outcome_by" ZP f fd) (hO:qU K mg "outcome_by" kN ["labels","heap"] fO fdO) (GO:qm P w K mg base qK 9 fO fdO ["labels","heap"] XY) (xS:RK K mg D "NotSo" "NotSo.__init__" ZO "found" CS fX fdX):qm P w K mg base (YN P w) 10 f fd ["labels","heap","wanted"] (Yw CS):=by
 have GP:qm P w K mg base qK 1 fX fdX ["self","found"] (spE CS "found"):=vM xS
 refine F.okX ML (λvs H Q E z=>?_) (λcdv A outer s H vs Q E hr z=>?_)
 . obtain⟨D,h,rs,R,hs,wd,rfl,_⟩:=z
   rfl
 . obtain⟨D',h,rs,R,hs,wd,rfl,lb,hh,ok,qa,qb⟩:=z
   refine⟨_,qf (qw (i:=3) ML.nd rfl (Or.inl rfl) (qH hO GO hr (by rfl) (qd (jv 0) (qd (jv 1) qg))))
     (qh (qM (qu VE (jv 3) (jv 2) (qC _)) (qh (VS rfl X1 (VT xS.mkr GP (hr.mono (by decide)) (by rfl) xS.ns xS.bi QJ (qd (jv 3) qg)))) qE)),?_⟩
   refine⟨_,rfl,_,rfl,D',h,rs,R,hs,rfl,lb,hh,ok,λH1 s1=>⟨_,rfl,_,rfl,rfl,_,rfl,?_⟩⟩
   have e0:ZC (Qg (hs.map (wT rs R)))=oW rs R hs:=rfl
   rw[e0]
   by_cases c:oW rs R hs=wd
   . exact qT (by rw[c];simp) (qa c H1 s1)
   . refine jg (by have:¬V.str (oW rs R hs)=V.str wd:=λz=>c (V.str.inj z);simpa using this) ⟨_,rfl,by show 1<=sizeLine;decide,λe he=>⟨e,.str (oW rs R hs),rfl,qe,λdx hdx=>⟨rfl,e,CS,dx,rfl,(YD he hdx).2.1,xS.rcls,?_⟩⟩⟩
     obtain⟨m1,m2,m3⟩:=YD (C:=CS) (fs:=[(Str.ofString "found",V.str (oW rs R hs))]) he hdx
     exact qb c _ dx (s1.trans m1) m3
abbrev nGL:List Str:=["ground","heap","labels"]
theorem MT:qt nGL ["ground","heap"] (qj Y6):=⟨rfl,rfl,rfl,by decide+kernel,rfl,by decide+kernel,by decide+kernel⟩
theorem wp {f CG CS fB fH fN fC:Addr} {fd fdB fdH fdN fdC:FuncData} (F:jI K "count_of" "count_of" Y6 f fd) (hB:qU K mg "labels_of" JD ["ground"] fB fdB) (GB:qm P w K mg base qK 8 fB fdB ["ground"] (Zd CG)) (hH:qU K mg "need_heap" Zf ["ground","heap"] fH fdH) (GH':qm P w K mg base qK 3 fH fdH ["ground","heap"] (Zs CG))
   (hN:qU K mg "need_outcome_by" ZP ["labels","heap","wanted"] fN fdN) (GN:qm P w K mg base (YN P w) 10 fN fdN ["labels","heap","wanted"] (Yw CS)) (hC:qU K mg "count_by" Jf ["labels","heap"] fC fdC) (GC:qm P w K mg base qK 1 fC fdC ["labels","heap"] Q8):qm P w K mg base (YN P w) 11 f fd ["ground","heap"] (Wx CG CS):=by
 refine F.okX MT (λvs H Q E z=>?_) (λcdv A outer s H vs Q E hr z=>?_)
 . obtain⟨g,h,rs,hs,rfl,_⟩:=z
   rfl
 . obtain⟨g,h,rs,hs,rfl,⟨gr,good,le,hh⟩,q⟩:=z
   refine⟨_,qf (jl (qH hH GH' (hr.mono (by decide)) (by rfl) (qd (jv 0) (qd (jv 1) qg))))
     (qf (qw (i:=2) MT.nd rfl (Or.inl rfl) (qH hB GB (hr.mono (by decide)) (by rfl) (qd (jv 0) qg)))
     (qf (jl (VU hN GN hr X2 (by rfl) (qd (jv 2) (qd (jv 1) (qd qR qg)))))
     (qh (qB (qH hC GC (hr.mono (by decide)) (by rfl) (qd (jv 2) (qd (jv 1) qg))))))),?_⟩
   refine⟨_,rfl,_,rfl,g,h,rs,hs,rfl,gr,hh,λH1 s1=>⟨_,rfl,g,rs,rfl,gr.mono s1,good,le,λH2 D R s2 hD lb all=>?_⟩⟩
   have s12:=s1.trans s2
   obtain⟨qa,qb⟩:=q R all
   refine⟨_,rfl,_,rfl,D,h,rs,R,hs,wL,rfl,lb,hh.mono s12,Xe good all hh.in_,λc H3 s3=>?_,λc=>(qb c).same s12⟩
   exact⟨_,rfl,_,rfl,D,h,rs,R,hs,rfl,le,lb.mono s3,all,hh.mono (s12.trans s3),Jr c,λH4 s4=>qa c H4 ((s12.trans s3).trans s4)⟩
theorem MI:qt ["ground","heap","labels"] ["ground","heap"] (qj Z6):=⟨rfl,rfl,rfl,by decide+kernel,rfl,by decide+kernel,by decide+kernel⟩
theorem k7 {f CG CS PT fB fH fN fW:Addr} {fd fdB fdH fdN fdW:FuncData} (F:jI K "winner" "winner" Z6 f fd) (hB:qU K mg "labels_of" JD ["ground"] fB fdB) (GB:qm P w K mg base qK 8 fB fdB ["ground"] (Zd CG)) (hH:qU K mg "need_heap" Zf ["ground","heap"] fH fdH) (GH':qm P w K mg base qK 3 fH fdH ["ground","heap"] (Zs CG))
   (hN:qU K mg "need_outcome_by" ZP ["labels","heap","wanted"] fN fdN) (GN:qm P w K mg base (YN P w) 10 fN fdN ["labels","heap","wanted"] (Yw CS)) (hW:qU K mg "winner_by" QS p3 fW fdW) (GW:qm P w K mg base qK 12 fW fdW p3 (Yv CG PT)):qm P w K mg base (YN P w) 13 f fd ["ground","heap"] (YS CG CS PT):=by
 refine F.okX MI (λvs H Q E z=>?_) (λcdv A outer s H vs Q E hr z=>?_)
 . obtain⟨g,h,rs,hs,rfl,_⟩:=z
   rfl
 . obtain⟨g,h,rs,hs,rfl,⟨gr,good,le,hh⟩,⟨tq,hP⟩,q⟩:=z
   refine⟨_,qf (jl (qH hH GH' (hr.mono (by decide)) (by rfl) (qd (jv 0) (qd (jv 1) qg))))
     (qf (qw (i:=2) MI.nd rfl (Or.inl rfl) (qH hB GB (hr.mono (by decide)) (by rfl) (qd (jv 0) qg)))
     (qf (jl (VU hN GN (hr.mono (by decide)) X2 (by rfl) (qd (jv 2) (qd (jv 1) (qd qR qg)))))
     (qh (qB (qH hW GW hr (by rfl) (qd (jv 0) (qd (jv 2) (qd (jv 1) qg)))))))),?_⟩
   refine⟨_,rfl,_,rfl,g,h,rs,hs,rfl,gr,hh,λH1 s1=>⟨_,rfl,g,rs,rfl,gr.mono s1,good,le,λH2 D R s2 hD lb all=>?_⟩⟩
   have s12:=s1.trans s2
   obtain⟨qa,qb⟩:=q R all
   refine⟨_,rfl,_,rfl,D,h,rs,R,hs,wW,rfl,lb,hh.mono s12,Xe good all hh.in_,λc H3 s3=>?_,λc=>(qb c).same s12⟩
   have s13:=s12.trans s3
   exact⟨_,rfl,_,rfl,_,rfl,g,D,h,rs,R,hs,rfl,gr.mono s13,good,le,lb.mono s3,all,hh.mono s13,yM good all hh.in_ c,⟨tq,s13 _ _ hP⟩,λH4 p m s4 hp b=>qa c H4 p m (s13.trans s4) hp b⟩
theorem xv:qt ["ground","heap","labels","found"] ["ground","heap"] (qj Vu):=⟨rfl,rfl,rfl,by decide+kernel,rfl,by decide+kernel,by decide+kernel⟩
theorem KH {f CG CS PT D fX fB fH fO fW fC fL:Addr} {fd fdX fdB fdH fdO fdW fdC fdL:FuncData} (F:jI K "most_moves" "most_moves" Vu f fd) (hB:qU K mg "labels_of" JD ["ground"] fB fdB) (GB:qm P w K mg base qK 8 fB fdB ["ground"] (Zd CG)) (hH:qU K mg "need_heap" Zf ["ground","heap"] fH fdH) (GH':qm P w K mg base qK 3 fH fdH ["ground","heap"] (Zs CG))
   (hO:qU K mg "outcome_by" kN ["labels","heap"] fO fdO) (GO:qm P w K mg base qK 9 fO fdO ["labels","heap"] XY) (hW:qU K mg "winner_by" QS p3 fW fdW) (GW:qm P w K mg base qK 12 fW fdW p3 (Yv CG PT)) (hC:qU K mg "count_by" Jf ["labels","heap"] fC fdC) (GC:qm P w K mg base qK 1 fC fdC ["labels","heap"] Q8)
   (hL:qU K mg "left_by" Yd ["heap","move"] fL fdL) (GL:qm P w K mg base qK 1 fL fdL ["heap","move"] zD) (xS:RK K mg D "NotSo" "NotSo.__init__" ZO "found" CS fX fdX):qm P w K mg base (YN P w) 13 f fd ["ground","heap"] (Us CG CS PT):=by
 have GP:qm P w K mg base qK 1 fX fdX ["self","found"] (spE CS "found"):=vM xS
 refine F.okX xv (λvs H Q E z=>?_) (λcdv A outer s H vs Q E hr z=>?_)
 . obtain⟨g,h,rs,hs,rfl,_⟩:=z
   rfl
 . obtain⟨g,h,rs,hs,rfl,⟨gr,good,le,hh⟩,⟨tq,hP⟩,q⟩:=z
   have r1:qV 1 _:=hr.mono (by decide)
   refine⟨_,qf (jl (qH hH GH' (hr.mono (by decide)) (by rfl) (qd (jv 0) (qd (jv 1) qg))))
     (qf (qw (i:=2) xv.nd rfl (Or.inl rfl) (qH hB GB (hr.mono (by decide)) (by rfl) (qd (jv 0) qg)))
     (qf (qw (i:=3) xv.nd rfl (Or.inl rfl) (qH hO GO (hr.mono (by decide)) (by rfl) (qd (jv 2) (qd (jv 1) qg))))
     (qf (qM (qu jH (jv 3) qR (qC _)) (qh (qB (qO QU qk (qH hC GC r1 (by rfl) (qd (jv 2) (qd (jv 1) qg)))))) qE)
     (qf (qM (qu jH (jv 3) qR (qC _)) (qh (qB (qO Qa qk (qO QU qk (qH hC GC r1 (by rfl) (qd (jv 2) (qd (qH hL GL r1 (by rfl) (qd (jv 1) (qd (qH hW GW hr (by rfl) (qd (jv 0) (qd (jv 2) (qd (jv 1) qg)))) qg))) qg))))))) qE)
     (qh (VS rfl X1 (VT xS.mkr GP (hr.mono (by decide)) (by rfl) xS.ns xS.bi QJ (qd (jv 3) qg)))))))),?_⟩
   refine⟨_,rfl,_,rfl,g,h,rs,hs,rfl,gr,hh,λH1 s1=>⟨_,rfl,g,rs,rfl,gr.mono s1,good,le,λH2 D' R s2 hD lb all=>?_⟩⟩
   have s12:=s1.trans s2
   obtain⟨qa,qb,qc⟩:=q R all
   refine⟨_,rfl,_,rfl,D',h,rs,R,hs,rfl,lb,hh.mono s12,Xe good all hh.in_,λH3 s3=>⟨_,rfl,rfl,_,rfl,?_⟩⟩
   have s13:=s12.trans s3
   have e0:ZC (Qg (hs.map (wT rs R)))=oW rs R hs:=rfl
   rw[e0]
   by_cases c:oW rs R hs=wL
   . refine jg (by rw[c];decide+kernel) ⟨_,rfl,_,rfl,D',h,rs,R,hs,rfl,le,lb.mono s3,all,hh.mono s13,Jr c,λH4 s4=>⟨_,_,rfl,rfl,.inl ⟨by decide,by decide⟩,?_⟩⟩
     have:=qa c H4 (s13.trans s4)
     rw[Int.natCast_mul]at this
     exact this
   . refine qT (decide_eq_false λz=>c (V.str.inj z)) ⟨_,rfl,rfl,_,rfl,?_⟩
     by_cases c2:oW rs R hs=wW
     . refine jg (by rw[c2];decide+kernel) ⟨_,rfl,_,rfl,_,rfl,_,rfl,_,rfl,g,D',h,rs,R,hs,rfl,gr.mono s13,good,le,lb.mono s3,all,hh.mono s13,yM good all hh.in_ c2,⟨tq,s13 _ _ hP⟩,λH4 p m s4 hp b=>?_⟩
       have s14:=s13.trans s4
       refine⟨h,p,hs,m,rfl,s14 _ _ hh.at_,hp,(QO b.mem.1).1,λl hl=>?_⟩
       have s5:=ql (o:=HO.lst ((hs.set m.1 m.2).map V.str)) hl
       refine⟨D',l,rs,R,lf hs m,rfl,le,(lb.mono (s3.trans s4)).mono s5,all,⟨qe,by unfold lf;rw[zbJ];exact hh.le,zi good hh.in_ b.mem.1⟩,Jr b.mem.2,λH6 s6=>⟨_,_,rfl,rfl,.inl ⟨by decide,by decide⟩,_,_,rfl,rfl,?_⟩⟩
       have:=qb c2 H6 m ((s14.trans s5).trans s6) b
       rw[Int.natCast_add,Int.natCast_mul]at this
       exact this
     . have c3:oW rs R hs=wD:=by rcases KU (rs:=rs) (R:=R) (hs:=hs) with z | z | z<;>first | exact z | exact absurd z c | exact absurd z c2
       refine qT (decide_eq_false λz=>c2 (V.str.inj z)) ⟨_,rfl,by show 1<=sizeLine;decide,λe he=>⟨e,.str (oW rs R hs),rfl,qe,λdx hdx=>⟨rfl,e,CS,dx,rfl,(YD he hdx).2.1,xS.rcls,?_⟩⟩⟩
       obtain⟨m1,m2,m3⟩:=YD (C:=CS) (fs:=[(Str.ofString "found",V.str (oW rs R hs))]) he hdx
       rw[c3]at m3
       have:=qc c3 _ dx (s13.trans m1)
       rw[c3]
       rw[c3]at this
       exact this m3
end
open PySem L2 PyProof.Rows MLab Rb
abbrev Vv:Stmt:=top 78
abbrev Vw:Stmt:=top 80
theorem ku {K:PySem.W.Frag} {H:Hp}:∀ns:List Nat,DVs K H (Zy ns) (ns.map λn=>PyData.int (n:Nat))
 | []=>.nil
 | n::ns=>.cons (.int _) (ku ns)
theorem ki:∀ns:List Nat,PyData.canLayAll0 (ns.map λn=>PyData.int (n:Nat))=true
 | []=>rfl
 | n::ns=>by
   rw[tW,PyData.canLayAll0,ki ns]
   rfl
theorem Wg:∀ns:List Nat,PyData.depthAll (ns.map λn=>PyData.int (n:Nat))<=1
 | []=>by decide
 | n::ns=>by
   rw[tW]
   have:=Wg ns
   simp only[PyData.depthAll,PyData.depth]
   omega
theorem u0 (ns:List Nat):PySem.SeqAt.shaped (.list (ns.map λn=>PyData.int (n:Nat)))=true:=by
 unfold PySem.SeqAt.shaped
 rw[zaq]
 refine⟨ki ns,decide_eq_true ?_⟩
 have:=Wg ns
 simp only[PyData.depth]
 omega
theorem Gu (ns:List Nat):PyData.eqv (.list (ns.map λn=>PyData.int (n:Nat))) (.list [])=decide (ns=[]):=by
 cases ns with
 | nil=>decide
 | cons n ns=>
   rw[tW,decide_eq_false (by simp)]
   simp [PyData.eqv,PyData.eqvAll]
def Z1:Sp:=λvs H Q _=>∃(l h:Addr) (ps:List Addr) (rs:jb) (hs:List Str),vs=[.ref l,.ref h]/\jF H l ps rs/\js H h rs hs/\
 ∀H' lf qs,qo H H'->H lf=none->H' lf=some (.lst (qs.map V.ref))->jV H' qs (mvs rs hs hs.length)->Q (.ref lf) H'
def Uu:Sp:=λvs H Q _=>∃(D h:Addr) (rs:jb) (R:Rs Str) (hs:List Str),vs=[.ref D,.ref h]/\jA H D rs R/\js H h rs hs/\(∀z∈hs,zO (wT rs R z))/\∀H',qo H H'->Q (.str (oW rs R hs)) H'
def Uv:Sp:=λvs H Q _=>∃(h p:Addr) (hs:List Str) (m:Nat×Str),vs=[.ref h,.ref p]/\H h=some (.lst (hs.map V.str))/\hs.length<=8/\H p=some (.tup (X7 m))/\m.1 < hs.length/\∀H' l,qo H H'->H l=none->H' l=some (.lst ((lf hs m).map V.str))->Q (.ref l) H'
def Qt (rs:jb) (R:Rs Str) (hs:List Str):List Nat:=jX (hs.map (wT rs R))
theorem u3 (ws:List Rb.W):(jX ws).length<=ws.length:=by unfold jX;exact zaM _ _
def JB (rs:jb) (R:Rs Str) (hs:List Str):Nat:=jJ (QK (hs.map (wT rs R)))
theorem Kw {rs:jb} {R:Rs Str} {hs:List Str} (ok:∀z∈hs,zO (wT rs R z)):oW rs R hs=(match Qt rs R hs with
   | []=>if JB rs R hs=0 then wL else wW
   | [b]=>if b.testBit (JB rs R hs)=true then wW else wD
   | _=>wD):=by
 unfold oW Qg Qt JB
 have lt:jJ (QK (hs.map (wT rs R))) < 16:=by
   have h1:=WP (ws:=hs.map (wT rs R)) λu hu=>by
     obtain⟨z,hz,rfl⟩:=tL.mp hu
     exact ok z hz
   have:∀(ns:List Nat) (b:Nat),b < 16->(∀x∈ns,x < 16)->ns.foldl (·^^^ ·) b < 16:=by
     intro ns
     induction ns with
     | nil=>intro b hb _;exact hb
     | cons a l ih=>
       intro b hb h
       exact ih _ (xor_lt (m:=4) hb (h a t9)) λx hx=>h x (tZ _ hx)
   exact this _ 0 (by decide) h1
 cases jX (hs.map (wT rs R)) with
 | nil=>rfl
 | cons b l=>
   cases l with
   | nil=>
     show (if (turnN b (jJ (QK (hs.map (wT rs R)))) 16).testBit 0=true then (Str.ofString "won") else Str.ofString "drawn")=_
     rw[Qi lt,zcs]
     rfl
   | cons c l=>
     show (if Nat.testBit 0 0=true then (Str.ofString "won") else Str.ofString "drawn")=wD
     exact if_neg (by decide)
section
variable {P:Program} {w:World} {K:PySem.W.Frag} {mg:Str->Option Value} {base:Heap}
abbrev nLM:List Str:=["_law_rows_here","_law_heap_here","_law_roads","_law_moves_here","_law_token","_law_name"]
abbrev Ry:List Str:=["_law_rows_here","_law_heap_here"]
theorem xx:qt nLM Ry (qj Zu):=⟨rfl,rfl,rfl,by decide+kernel,rfl,by decide+kernel,by decide+kernel⟩
abbrev Nw:List Str:=["_law_place","_law_leads_here","_law_token","_law_roads","_law_name"]
theorem X5 {f:Addr} {fd:FuncData} (F:jI K "_law_moves" "_law_moves" Zu f fd) (T:Qx K mg) (hdi:mg "dict"=none):qm P w K mg base qK 1 f fd Ry Z1:=by
 refine F.okJ xx (λvs H Q E h=>?_) (λcdv A outer s H vs Q E hr h=>?_)
 . obtain⟨l,h',ps,rs,hs,rfl,_⟩:=h
   rfl
 . obtain⟨l,h',ps,rs,hs,rfl,g,hh,q⟩:=h
   have hu:=jU hr
   refine⟨_,qf (qw (i:=2) xx.nd rfl (Or.inr rfl) (jw (XA rfl) (by rfl) hdi boot_dict (qd (jv 0) qg)))
     (qf (qw (i:=3) xx.nd rfl (Or.inl rfl) (jS qg))
     (qf (jd PassesOwn.never rfl (YG (by rfl) T.enu (qd (jv 1) qg)) (ZU rfl (jx (qA (i:=4) xx.nd rfl (Or.inr rfl)) (jx (qA (i:=5) xx.nd rfl (Or.inr rfl)) JQ)))
       (qh (jl (zm zaA zcc zcd zQ (jv 3) (qd
         (Qd (N':=Nw) (ix:=[none,none,some 4,some 2,some 5]) (g:=NU K 2 (VZ (Jv 0) (VZ (Jv 1) NW))) (tt:=XV (YO (Mf K false) (jo 0) (YQ (jo 3) (jo 4)))) (te:=yV (j3 (jo 2) (j3 (jo 0) Zc))) rfl ⟨rfl,rfl,rfl,rfl,rfl⟩ (qN (jv 0)) (λC s2 H2 fp pins=>
           ⟨ZU rfl (jx (qA (i:=0) (show Nw.Nodup by decide+kernel) rfl (Or.inl rfl)) (jx (qA (i:=1) (show Nw.Nodup by decide+kernel) rfl (Or.inl rfl)) JQ)),j7 (qu Jq (jv 0) (qX hu (jv 3) (jv 4) (λ_ _=>rfl)) (by with_unfolding_all rfl)),Qm (qd (jv 2) (qd (jv 0) qg))⟩)) qg)))))
     (qh (qB (jv 3))))),?_⟩
   obtain⟨qs,lq,hqs⟩:=WE ps rs g.rows
   have le:=g.le
   refine⟨_,rfl,l,ps,ZT rs qs,rfl,.of g.at_,by rw[Zj lq,g.rows.1],λi a kv e1 e2=>?_,by rw[Zj lq];omega,λdd hdd=>?_⟩
   . obtain⟨r',q',f1,f2,rfl⟩:=VR lq e2
     exact .of (hqs i a q' r' e1 f1 f2).1
   have nk:((ZT rs qs).map (·.1)).Nodup:=by
     rw[Jt lq]
     exact Js g.good.nd λa _ b _ e=>Sum.inr.inj e
   rw[zR nk (λk _ m=>by simp at m),zdq]
   have s1:qo H (upd H dd (.dK (ZT rs qs))):=ql hdd
   have hd1:upd H dd (.dK (ZT rs qs)) dd=some (.dK (ZT rs qs)):=qe
   generalize upd H dd (.dK (ZT rs qs))=H1 at s1 hd1
   refine⟨by show 0<=sizeLine;decide,λlf hlf=>?_⟩
   have hlf0:H lf=none:=ju s1 hlf
   have s2:qo H (upd H1 lf (.lst [])):=s1.trans (ql hlf)
   have hd2:=qv (o':=HO.lst []) hd1 hlf
   have hf2:upd H1 lf (.lst []) lf=some (.lst []):=qe
   generalize upd H1 lf (.lst [])=H2 at s2 hf2 hd2
   have nfd:lf≠dd:=λe=>by rw[e,hd2]at hf2;cases hf2
   refine⟨_,rfl,h',rfl,⟨_,.of (s2 _ _ hh.at_)⟩,?_⟩
   refine zr (K:=K) (a:=h') (xs:=hs.map V.str) (λi σ' G=>∃v4 v5 ms,σ'=[some (.ref l),some (.ref h'),some (.ref dd),some (.ref lf),v4,v5]/\qo H G/\G dd=some (.dK (ZT rs qs))/\G lf=some (.lst (ms.map V.ref))/\jV G ms (mvs rs hs i))
     ⟨_,_,[],rfl,s2,hd2,hf2,jV.nil _⟩ (λi σ' G _ ⟨_,_,_,_,s,_⟩=>.of (s _ _ hh.at_)) ?_ ?_
   . rintro i y σ' G p hy hp ⟨v4,v5,ms,rfl,sG,hdG,hfG,mv⟩
     obtain⟨z,ez,hz,rfl⟩:=j6 hy
     have hi:=(tw.mp ez).1
     have ezz:zz hs i=z:=by
       have:=Zq hi
       rw[ez]at this
       exact(tN.inj this).symm
     obtain⟨r,hr',er⟩:=hh.in_ z hz
     obtain⟨i0,hi0⟩:=zbb hr'
     obtain⟨q0,eq0,ekv⟩:=WU lq hi0
     have hi0':=(tw.mp hi0).1
     have hq0:=(hqs i0 _ q0 r (tF (by rw[g.rows.1];exact hi0')) hi0 eq0).2
     refine⟨p,_,rfl,.of qe,rfl,_,_,rfl,_,_,rfl,rfl,?_⟩
     have sP:qo G (upd G p (.tup [.int (i:Nat),.str z])):=ql hp
     have sGP:=sG.trans sP
     have hdP:=sP _ _ hdG
     have hfP:=sP _ _ hfG
     have mvP:=mv.mono sP
     generalize upd G p (.tup [.int (i:Nat),.str z])=G1 at sP sGP hdP hfP mvP
     refine⟨_,rfl,.inl ⟨rfl,_,.of hfP⟩,_,rfl,l,rfl,⟨_,.of (sGP _ _ g.at_)⟩,λW hW=>?_⟩
     have sW:qo G1 (upd G1 W (.lst [])):=ql hW
     refine jZ (K:=K) (a:=l) (xs:=ps.map V.ref) (λj σ'' G'=>∃v0 v1 ns,σ''=[v0,v1,some (.int (i:Nat)),some (.ref dd),some (.str z)]/\qo G1 G'/\G' W=some (.lst (ns.map V.ref))/\
         jV G' ns ((((rs.map (·.1)).take j).filter λy=>Zx (.str y) (r.2.map V.str)).map λy=>(i,y)))
       ⟨none,none,[],rfl,sW,qe,jV.nil _⟩ (λj σ'' G' _ ⟨_,_,_,_,s,_⟩=>.of ((sGP.trans s) _ _ g.at_)) ?_ ?_
     . rintro j y σ'' G' hy ⟨v0,v1,ns,rfl,sG',hW',mv'⟩
       obtain⟨p',qq,r',rfl,er',hrr,ea,eb⟩:=(g.rows.mono (sGP.trans sG')).item hy
       have en:(rs.map (·.1))[j]?=some r'.1:=by rw[tH,er'];rfl
       have gd:=jO.k (k:=(Sum.inr r.1:qL)) (sG' _ _ hdP)
       rw[U8 nk ekv]at gd
       have gd:jO G' dd (.str z) (some (.ref q0)):=er▸gd
       have lenM:(ns.map V.ref).length < sizeLine:=by
         rw[tj,mv'.1,tj]
         have h1:=zas (λy=>Zx (.str y) (r.2.map V.str)) ((rs.map (·.1)).take j)
         rw[tS,tj]at h1
         exact qp (by omega)
       refine⟨p',_,rfl,.of ea,rfl,_,_,rfl,_,_,rfl,rfl,?_⟩
       refine⟨_,rfl,_,rfl,_,rfl,dd,_,rfl,gd,q0,_,rfl,.inr (.of ((sGP.trans sG') _ _ hq0)),rfl,Zz _,_,rfl,?_⟩
       have et:((rs.map (·.1)).take (j+1)).filter (λy=>Zx (.str y) (r.2.map V.str))=((rs.map (·.1)).take j).filter (λy=>Zx (.str y) (r.2.map V.str))++if Zx (.str r'.1) (r.2.map V.str)=true then [r'.1] else []:=by
         rw[tQ,en,zaS]
         congr 1
         cases c:Zx (.str r'.1) (r.2.map V.str)
         . simp [c]
         . simp [c]
       rw[et]
       show if Zx (.str r'.1) (r.2.map V.str)=true then _ else _
       cases ci:Zx (.str r'.1) (r.2.map V.str) with
       | false=>
         refine jz ⟨_,_,ns,rfl,sG',hW',?_⟩
         rw[if_neg tO,zap]
         exact mv'
       | true=>
         refine j4 ⟨_,rfl,_,rfl,by show 2<=sizeLine;decide,λt ht=>?_⟩
         refine⟨_,qv hW' ht,lenM,_,_,ns++[t],rfl,qo.upd (sG'.trans (ql ht)) hW,by rw[qe,tI];rfl,?_⟩
         rw[if_pos rfl,tI]
         have nt:t≠W:=λz=>by rw[z,hW']at ht;cases ht
         refine jV.app ⟨mv'.1,λk p' m a b=>?_⟩ (jV.one (by rw[qi nt];exact qe))
         have z:=mv'.2 k p' m a b
         have n1:p'≠W:=λe=>by rw[e,hW']at z;cases z
         rw[qi n1]
         exact qv z ht
     . rintro σ'' G' ⟨v0,v1,ns,rfl,sG',hW',mv'⟩
       have e0:(rs.map (·.1)).take (ps.map V.ref).length=rs.map (·.1):=tG (by rw[tj,tj,g.rows.1];exact tE _)
       rw[e0]at mv'
       have mlen:=Zw g.good le hh.in_ i (zag hi)
       have l8:=hh.le
       have hf':=sG' _ _ hfP
       refine⟨lf,W,_,_,rfl,rfl,hf',hW',?_,_,_,ms++ns,rfl,qo.upd (sGP.trans sG') hlf0,by rw[qi (Ne.symm nfd)];exact sG' _ _ hdP,by rw[qe,tI],?_⟩
       . rw[tj,tj,mv.1,mv'.1,tj]
         have h1:=zas (λy=>Zx (.str y) (r.2.map V.str)) (rs.map (·.1))
         rw[tj]at h1
         exact zag (qp (by omega))
       . rw[Xi,ezz,mvT,<-er,JZ g.good.nd hr']
         have up:∀{k:Addr} {m:Nat×Str},G' k=some (.tup (X7 m))->upd G' lf (.lst (ms.map V.ref++ns.map V.ref)) k=some (.tup (X7 m)):=λ{k m} e=>by
           rw[qi (λz=>by rw[z,hf']at e;cases e)];exact e
         exact jV.app ⟨mvP.1,λk p' m a b=>up (sG' _ _ (mvP.2 k p' m a b))⟩ ⟨mv'.1,λk p' m a b=>up (mv'.2 k p' m a b)⟩
   . rintro σ' G ⟨v4,v5,ms,rfl,sG,hdG,hfG,mv⟩
     rw[tj]at mv
     exact⟨_,rfl,q G lf ms sG hlf0 hfG mv⟩
abbrev nLO:List Str:=["_law_labels_here","_law_heap_here","_law_total","_law_sets","_law_name"]
theorem xw:qt nLO ["_law_labels_here","_law_heap_here"] (qj Vv):=⟨rfl,rfl,rfl,by decide+kernel,rfl,by decide+kernel,by decide+kernel⟩
theorem KI {f:Addr} {fd:FuncData} (F:jI K "_law_outcome" "_law_outcome" Vv f fd) (B:QL mg):qm P w K mg base qK 1 f fd ["_law_labels_here","_law_heap_here"] Uu:=by
 refine F.okJ xw (λvs H Q E z=>?_) (λcdv A outer s H vs Q E hr z=>?_)
 . obtain⟨D,h,rs,R,hs,rfl,_⟩:=z
   rfl
 . obtain⟨D,h,rs,R,hs,rfl,lb,hh,ok,q⟩:=z
   have hu:=jU hr
   refine⟨_,qf (qw (i:=2) xw.nd rfl (Or.inl rfl) qk)
     (qf (qw (i:=3) xw.nd rfl (Or.inl rfl) (jS qg))
     (qf (jd PassesOwn.never rfl (qN (jv 1)) (qA (i:=4) xw.nd rfl (Or.inl rfl))
       (qh (qM (qu jH (qY jc (qX hu (jv 0) (jv 4) (λ_ _=>rfl)) qk (λ_ _=>rfl)) qR (qC _))
         (qh (qw (i:=2) xw.nd rfl (Or.inl rfl) (qO UE (jv 2) (qY jc (qX hu (jv 0) (jv 4) (λ_ _=>rfl)) qk (λ_ _=>rfl)))))
         (qh (jl (zm zaA zbl zbm QQ (jv 3) (qd (qY jc (qX hu (jv 0) (jv 4) (λ_ _=>rfl)) qk (λ_ _=>rfl)) qg)))))))
     (qf (qM (qu (xV hr.units) (jv 3) (jS qg) (qC _)) (qh (qB (qY Qy (jS (qd qR (qd qR qg))) (jw zY (by rfl) B.int boot_int (qd (Qo jH (jv 2) qk (qC _)) qg)) (λ_ _=>rfl)))) qE)
     (qf (qM (JW.pt (j1 (qu jH (qJ jf (by rfl) B.len boot_len (qd (jv 3) qg)) qk (qC _)) (jK (qu jH (qO xW (qO xR (qY Qy (jv 3) qk (λ_ _=>rfl)) (jv 2)) qk) qk (qC _))))) (qh (qB qR)) qE)
     (qh (qB qR)))))),?_⟩
   refine⟨by show 0<=sizeLine;decide,λls hls=>?_⟩
   refine⟨_,rfl,h,rfl,⟨_,.of ((ql hls) _ _ hh.at_)⟩,?_⟩
   refine jr (K:=K) (a:=h) (xs:=hs.map V.str) (λi σ G=>∃v,σ=[some (.ref D),some (.ref h),some (.int (JB rs R (hs.take i):Nat)),some (.ref ls),v]/\qo H G/\G ls=some (.lst (Zy (Qt rs R (hs.take i))))) ⟨none,rfl,ql hls,qe⟩ (λi σ G _ ⟨_,_,s,_⟩=>.of (s _ _ hh.at_)) ?_ ?_
   . rintro i y σ G hy ⟨v,rfl,sG,hG⟩
     obtain⟨z,ez,hz,rfl⟩:=j6 hy
     obtain⟨kvs,hD,_,hv⟩:=(lb.mono sG).at_
     obtain⟨r,hr',er⟩:=hh.in_ z hz
     obtain⟨t,et,ht⟩:=hv r hr'
     rw[er]at et ht
     have gd:jO G D (.str z) (some (.ref t)):=by rw[<-et];exact jO.k (k:=(Sum.inr z:qL)) hD
     have etk:(hs.take (i+1)).map (wT rs R)=(hs.take i).map (wT rs R)++[wT rs R z]:=by rw[tQ,ez,tI];rfl
     unfold QH at ht
     cases en:qG R z with
     | some n=>
       rw[en]at ht
       have e1:JB rs R (hs.take (i+1))=JB rs R (hs.take i)^^^n:=by unfold JB;rw[etk,zP,ZM en,z7]
       have e2:Qt rs R (hs.take (i+1))=Qt rs R (hs.take i):=by unfold Qt;rw[etk,zF,ZM en,zap]
       refine⟨_,rfl,_,rfl,D,_,rfl,gd,t,_,0,_,rfl,rfl,.of ht,rfl,rfl,_,rfl,jg (decide_eq_true rfl) ⟨_,rfl,_,rfl,_,rfl,D,_,rfl,gd,t,_,1,_,rfl,rfl,.of ht,rfl,_,_,rfl,rfl,some (.str z),?_,sG,by rw[e2];exact hG⟩⟩
       rw[e1,<-bx]
       rfl
     | none=>
       rw[en]at ht
       have e1:JB rs R (hs.take (i+1))=JB rs R (hs.take i):=by unfold JB;rw[etk,zP,Zb en,zap]
       have e2:Qt rs R (hs.take (i+1))=Qt rs R (hs.take i)++[setN (ZH rs (qG R) z)]:=by unfold Qt;rw[etk,zF,Zb en]
       have lS:(Zy (Qt rs R (hs.take i))).length < sizeLine:=by
         rw[JY]
         have h1:=u3 ((hs.take i).map (wT rs R))
         rw[tj,tS]at h1
         unfold Qt
         have:=hh.le
         exact qp (by omega)
       refine⟨_,rfl,_,rfl,D,_,rfl,gd,t,_,0,_,rfl,rfl,.of ht,rfl,rfl,_,rfl,qT (by decide+kernel) ⟨_,rfl,.inl ⟨rfl,_,.of hG⟩,_,rfl,_,rfl,D,_,rfl,gd,t,_,1,_,rfl,rfl,.of ht,rfl,ls,_,_,rfl,rfl,hG,lS,some (.str z),?_,qo.upd sG hls,?_⟩⟩
       . rw[e1]
         rfl
       . rw[qe,e2,Xp]
   . rintro σ G ⟨v,rfl,sG,hG⟩
     rw[tj,tG (tE _)]at hG ⊢
     have eo:=Kw ok
     refine⟨_,rfl,by show 0<=sizeLine;decide,λl0 f0=>?_⟩
     have s0:=ql (o:=HO.lst []) f0
     refine⟨.list ((Qt rs R hs).map λn=>PyData.int (n:Nat)),.list [],.lst (.of (s0 _ _ hG)) (ku _),.lst (.of qe) .nil,u0 _,by decide+kernel,_,rfl,?_⟩
     have s01:=sG.trans s0
     have hG0:=s0 _ _ hG
     generalize upd G l0 (.lst [])=G0 at s0 s01 hG0
     rw[Gu]
     cases c:Qt rs R hs with
     | nil=>
       rw[c]at eo
       refine jg (decide_eq_true rfl) ⟨by show 2<=sizeLine;decide,λl1 f1=>?_⟩
       refine⟨_,rfl,rfl,.inr ⟨_,rfl,l1,_,_,.str (oW rs R hs),rfl,rfl,.of qe,?_,q _ (s01.trans (ql f1))⟩⟩
       rw[eo]
       by_cases c2:JB rs R hs=0
       . rw[c2]
         rfl
       . have:decide (V.int ((JB rs R hs:Nat):Int)=V.int 0)=false:=decide_eq_false λz=>c2 (by have:=V.int.inj z;omega)
         rw[this]
         show _=some (V.str (if JB rs R hs=0 then wL else wW))
         rw[if_neg c2]
         rfl
     | cons b l=>
       rw[c]at eo hG0
       refine qT (decide_eq_false (by simp)) ⟨_,rfl,ls,_,rfl,.inl (.of hG0),rfl,_,rfl,?_⟩
       cases l with
       | nil=>
         refine jg (decide_eq_true rfl) ⟨_,rfl,ls,_,0,.int (b:Nat),rfl,rfl,.of hG0,YL (j:=0) rfl,_,rfl,_,_,rfl,rfl,by omega,_,_,rfl,rfl,rfl,_,rfl,?_⟩
         have e:decide (V.int (Builtin.bitAnd ((b:Int) / 2^ ((JB rs R hs:Nat):Int).toNat) 1)=V.int 1)=b.testBit (JB rs R hs):=by
           rw[vv]
           cases b.testBit (JB rs R hs)<;>decide
         rw[e]
         cases c3:b.testBit (JB rs R hs) with
         | true=>
           have q:=q _ s01
           rw[eo]at q
           have q:Q (.str (if b.testBit (JB rs R hs)=true then wW else wD)) G0:=q
           rw[if_pos c3]at q
           exact j4 q
         | false=>
           have q:=q _ s01
           rw[eo]at q
           have q:Q (.str (if b.testBit (JB rs R hs)=true then wW else wD)) G0:=q
           rw[if_neg (by rw[c3];exact tO)]at q
           exact jz q
       | cons b' l=>
         have q:=q _ s01
         rw[eo]at q
         exact qT (decide_eq_false λz=>by have:=V.int.inj z;rw[JY]at this;simp at this;omega) q
abbrev Nc:List Str:=["_law_heap_here","_law_move"]
theorem qa5:qt Nc Nc (qj Vw):=⟨rfl,rfl,rfl,by decide+kernel,rfl,by decide+kernel,by decide+kernel⟩
theorem KJ {f:Addr} {fd:FuncData} (F:jI K "_law_after" "_law_after" Vw f fd):qm P w K mg base qK 1 f fd Nc Uv:=by
 refine F.okJ qa5 (λvs H Q E z=>?_) (λcdv A outer s H vs Q E hr z=>?_)
 . obtain⟨h,p,hs,m,rfl,_⟩:=z
   rfl
 . obtain⟨h,p,hs,m,rfl,hh,l8,hp,hm,q⟩:=z
   refine⟨_,qh (qB (qO WM (qO WM (QZ Z3 (jv 0) JP (JN (qY jc (jv 1) qk (λ_ _=>rfl)))) (jS (qd (qY jc (jv 1) qk (λ_ _=>rfl)) qg))) (QZ Z3 (jv 0) (JN (qO Qa (qY jc (jv 1) qk (λ_ _=>rfl)) qk)) JP))),?_⟩
   refine⟨_,rfl,_,rfl,p,_,0,.int (m.1:Nat),rfl,rfl,.of hp,rfl,_,rfl,h,_,rfl,.of hh,λp1 f1=>?_⟩
   have c1:Yo (hs.map V.str) none (some ((m.1:Nat):Int))=(hs.take m.1).map V.str:=by
     unfold Yo
     rw[HT.sIx_none,HT.sIx_nat,tj,zcg (by omega),zcQ,zdl,zdE]
   have c2:Yo (hs.map V.str) (some ((m.1:Nat)+1:Int)) none=(hs.drop (m.1+1)).map V.str:=by
     unfold Yo
     rw[HT.sIx_none,show ((m.1:Nat)+1:Int)=((m.1+1:Nat):Int) by omega,HT.sIx_nat,tj,zcg (by omega),List.map_drop,tG (by rw[zdf,tj];omega)]
   rw[c1]
   have s1:=ql (o:=HO.lst ((hs.take m.1).map V.str)) f1
   have h1:upd H p1 (HO.lst ((hs.take m.1).map V.str)) p1=some (.lst ((hs.take m.1).map V.str)):=qe
   generalize upd H p1 (HO.lst ((hs.take m.1).map V.str))=H1 at s1 h1
   refine⟨_,rfl,p,_,1,.str m.2,rfl,rfl,.of (s1 _ _ hp),rfl,by show 1<=sizeLine;decide,λp2 f2=>?_⟩
   have s2:=ql (o:=HO.lst [V.str m.2]) f2
   have h2:upd H1 p2 (HO.lst [V.str m.2]) p2=some (.lst [V.str m.2]):=qe
   generalize upd H1 p2 (HO.lst [V.str m.2])=H2 at s2 h2
   refine⟨p1,p2,_,_,rfl,rfl,.of (s2 _ _ h1),.of h2,zag (qp (by rw[tj,tS];show _+1<=_;omega)),λp3 f3=>?_⟩
   have s3:=ql (o:=HO.lst ((hs.take m.1).map V.str++[V.str m.2])) f3
   have h3:upd H2 p3 (HO.lst ((hs.take m.1).map V.str++[V.str m.2])) p3=some (.lst ((hs.take m.1).map V.str++[V.str m.2])):=qe
   generalize upd H2 p3 (HO.lst ((hs.take m.1).map V.str++[V.str m.2]))=H3 at s3 h3
   have s13:=(s1.trans s2).trans s3
   refine⟨_,rfl,_,rfl,p,_,0,.int (m.1:Nat),rfl,rfl,.of (s13 _ _ hp),rfl,_,_,rfl,rfl,_,rfl,h,_,rfl,.of (s13 _ _ hh),λp4 f4=>?_⟩
   dsimp only
   rw[c2]
   have s4:=ql (o:=HO.lst ((hs.drop (m.1+1)).map V.str)) f4
   have h4:upd H3 p4 (HO.lst ((hs.drop (m.1+1)).map V.str)) p4=some (.lst ((hs.drop (m.1+1)).map V.str)):=qe
   generalize upd H3 p4 (HO.lst ((hs.drop (m.1+1)).map V.str))=H4 at s4 h4
   refine⟨p3,p4,_,_,rfl,rfl,.of (s4 _ _ h3),.of h4,zag (qp (by rw[tK,tj,tj,tS,zdf];show _+1+_<=_;omega)),λp5 f5=>?_⟩
   refine q _ p5 ((s13.trans s4).trans (ql f5)) (ju (s13.trans s4) f5) ?_
   rw[qe]
   have:=wC hm m.2
   rw[show lf hs (m.1,m.2)=lf hs m from rfl]at this
   rw[<-this,tI,tI]
   rfl
end
open PySem L2 PyProof.Rows MLab Rb
abbrev Z9:Stmt:=top 81
abbrev Vx:Stmt:=top 82
abbrev xA:Stmt:=top 83
abbrev vz:Stmt:=top 84
def dM (ms:List (Nat×Str)):PyData:=.list (ms.map mD)
theorem qbG {K:PySem.W.Frag} {H:Hp} {p:Addr} {ps:List Addr} {ms:List (Nat×Str)} (h:H p=some (.lst (ps.map V.ref))) (mv:jV H ps ms):DV K H (.ref p) (dM ms):=.lst (.of h) (U4 mv)
theorem uf (ms:List (Nat×Str)):PyData.eqv (dM ms) (.list [])=ms.isEmpty:=by
 cases ms<;>rfl
theorem MG:PySem.SeqAt.shaped (.list [])=true:=by decide+kernel
theorem yh {H2:Hp} {l:Addr} {ps:List Addr} {rs:jb} {CG:Addr} {R:Hp->Prop} (hl2:H2 l=some (.lst (ps.map V.ref))) (rat:jT H2 ps rs) (good:qD rs) (pos:0 < rs.length) (le14:rs.length<=14)
   {l2:Addr} (hl2':H2 l2=none) {x dx:Addr} (hx:upd H2 l2 (.lst (ps.map V.ref)) x=none) (hdx:upd H2 l2 (.lst (ps.map V.ref)) dx=none) (ndx:dx≠x) {E:XK} (k:∀H4,qo H2 H4->Qh CG H4 x rs->R H4):
   Yx CG [.ref x,.ref l2] (upd (upd (upd H2 l2 (.lst (ps.map V.ref))) dx (.own x)) x (.ins CG dx [])) (λv H'=>v=.non/\R H') E:=by
 have hx2:H2 x=none:=by
   by_cases e:x=l2
   . rw[e,qe]at hx;cases hx
   . rw[qi e]at hx;exact hx
 have hdx2:H2 dx=none:=by
   by_cases e:dx=l2
   . rw[e,qe]at hdx;cases hdx
   . rw[qi e]at hdx;exact hdx
 have s3:qo H2 (upd (upd (upd H2 l2 (.lst (ps.map V.ref))) dx (.own x)) x (.ins CG dx [])):=λb u hb=>by
   rw[qi (qr hb hx2),qi (qr hb hdx2),qi (qr hb hl2')]
   exact hb
 have hl3:upd (upd (upd H2 l2 (.lst (ps.map V.ref))) dx (.own x)) x (.ins CG dx []) l2=some (.lst (ps.map V.ref)):=by
   have n1:l2≠x:=λe=>by rw[<-e,qe]at hx;cases hx
   have n2:l2≠dx:=λe=>by rw[<-e,qe]at hdx;cases hdx
   rw[qi n1,qi n2]
   exact qe
 refine⟨x,dx,l2,ps,rs,rfl,⟨hl3,rat.mono s3,good,pos,le14⟩,qe,λH4 gr fr4=>⟨rfl,k H4 (λb u hb=>fr4 b u (s3 _ _ hb) (qr hb hx2)) gr⟩⟩
theorem QX {H H':Hp} {d b:Addr} {o:HO} {kv:List (qL×V)} (fr:Fr H d H') (hd:H d=some (.dK kv)) (hb:H b=some o) (no:∀kv,o≠.dK kv):H' b=some o:=fr _ _ hb λe=>by
 rw[e,hd]at hb
 exact no _ (tN.inj hb).symm
theorem uX {n s t:Int} {k:qL} {q:Addr}:¬jj (src n s t) k=some (.ref q):=λh=>by
 unfold src at h
 by_cases e1:(Sum.inr (Str.ofString "number"):qL)=k
 . rw[jh e1]at h;cases h
 . rw[ji e1]at h
   by_cases e2:(Sum.inr (Str.ofString "seed"):qL)=k
   . rw[jh e2]at h;cases h
   . rw[ji e2]at h
     by_cases e3:(Sum.inr (Str.ofString "turn"):qL)=k
     . rw[jh e3]at h;cases h
     . rw[ji e3]at h;cases h
theorem Qh.frd {CG:Addr} {H H':Hp} {x d:Addr} {rs:jb} {n s t:Int} (h:Qh CG H x rs) (pos:0 < rs.length) (hd:H d=some (.dK (src n s t))) (fr:Fr H d H'):Qh CG H' x rs:=by
 obtain⟨dx',lo,rd,kvs,a1,a2,a3,a4⟩:=h
 have nrd:rd≠d:=λe=>by
   rw[e,hd]at a3
   obtain⟨r,hr'⟩:=zcC pos
   obtain⟨q,a5,_⟩:=a4 r hr'
   rw[<-(HO.dK.inj (tN.inj a3))]at a5
   exact uX a5
 exact⟨dx',lo,rd,kvs,QX fr hd a1 (λ_ e=>nomatch e),QX fr hd a2 (λ_ e=>nomatch e),fr _ _ a3 nrd,λr hr'=>let ⟨q,b1,b2⟩:=a4 r hr';⟨q,b1,QX fr hd b2 (λ_ e=>nomatch e)⟩⟩
theorem um:∀(ms:List (Nat×Str)),PyData.depthAll (ms.map mD)<=1
 | []=>by decide
 | m::ms=>by
   rw[tW]
   have:=um ms
   have h1:PyData.depth (mD m)=1:=rfl
   simp only[PyData.depthAll,h1]
   omega
theorem qa1 {ms:List (Nat×Str)} (h:∀m∈ms,jD m.2=true):PySem.SeqAt.shaped (dM ms)=true:=by
 unfold PySem.SeqAt.shaped
 rw[zaq]
 refine⟨UY h,decide_eq_true ?_⟩
 have:=um ms
 show PyData.depth (.list (ms.map mD))<=64
 simp only[PyData.depth]
 omega
theorem jA.fr {H H':Hp} {D d:Addr} {rs:jb} {R:Rs Str} {kv:List (qL×V)} (h:jA H D rs R) (hd:H d=some (.dK kv)) (n:D≠d) (s:Fr H d H'):jA H' D rs R:=⟨let ⟨kvs,a,b,c⟩:=h.at_;⟨kvs,s _ _ a n,b,λr hr=>let ⟨t,u,v⟩:=c r hr;⟨t,u,QX s hd v (λ_ z=>nomatch z)⟩⟩⟩
theorem Uj {α:Type} {G:α->List α} {ok:α->Prop} {num:α->Option Nat} {stp:α->Nat} (L:Ws G ok num stp) {h b:List α} (hk:∀x∈h,ok x) (hz:MLab.Zero num h) (hb:b∈mv G h):∃c∈mv G b,(∀x∈c,ok x)/\MLab.Zero num c/\zu stp c < zu stp h:=by
 obtain⟨he,hx⟩:=hz
 obtain⟨p,x,y,q,rfl,hy,rfl⟩:=(jy G).mp hb
 have okx:=hk x (by simp)
 have hk':=Jg L hk rfl hy
 cases ex:num x with
 | none=>rw[jE ex]at he;omega
 | some n=>
   rw[je ex]at he
   rw[jC ex]at hx
   rw[j5]
   have back:(∀m,num y=some m->n < m)->∃c∈mv G (p++y::q),(∀x∈c,ok x)/\MLab.Zero num c/\zu stp c < stp x+zu stp (p++q):=λgt=>by
     obtain⟨z,hz,ez,lz⟩:=L.n3 okx ex hy gt
     exact⟨p++z::q,(jy G).mpr ⟨p,y,z,q,rfl,hz,rfl⟩,Jg L hk' rfl hz,⟨by rw[je ez];exact he,by rw[jC ez];exact hx⟩,by rw[j5];omega⟩
   cases ey:num y with
   | none=>exact back λm h=>by rw[ey]at h;cases h
   | some k=>
     rcases zaE k n with lt | rfl | gt
     . have ly:=L.n4 okx ex hy ey lt
       have pos:0 < jQ (nums num (p++y::q)):=by
         rw[jC ey]
         refine zcS λz=>?_
         have:=ZZ (z.trans hx.symm)
         omega
       obtain⟨p',x',y',q',e',hy',⟨n',k',en,ek⟩,x0,l'⟩:=Yt L hk' pos
       have ce:zu stp (p++y::q)=stp y+zu stp (p++q):=j5
       have ee:ends num (p++y::q)=0:=by rw[je ey];exact he
       refine⟨p'++y'::q',(jy G).mpr ⟨p',x',y',q',e',hy',rfl⟩,Jg L hk' e' hy',⟨?_,x0⟩,?_⟩
       . rw[e',je en]at ee
         rw[je ek]
         exact ee
       . rw[e',j5]at ce
         rw[j5]
         omega
     . exact absurd ey (L.n2 okx ex hy)
     . exact back λm h=>by rw[ey]at h;cases h;exact gt
theorem vO {rs:jb} {b:List Str} (h:∀z∈b,∃r∈rs,r.1=z):∀z∈b,z∈rs.map (·.1):=λz hz=>let ⟨r,hr,e⟩:=h z hz;tL.mpr ⟨r,hr,e⟩
theorem vS {rs:jb} (good:qD rs) {R:Rs Str} (all:zy rs R) {hs:List Str} (hi:∀z∈hs,∃r∈rs,r.1=z):oW rs R hs=wL↔Yr (mv (j0 rs)) hs:=by
 have L:=VQ (QI good.nd) all
 rcases WI good L (vO hi) with ⟨l,e⟩ | ⟨w,e⟩ | ⟨n,_,e⟩
 . exact⟨λ_=>l,λ_=>e⟩
 . exact⟨λz=>absurd (e.symm.trans z).symm Rg,λl=>absurd w (zg l)⟩
 . exact⟨λz=>absurd (e.symm.trans z).symm Mn,λl=>absurd l n⟩
theorem RM {rs:jb} (good:qD rs) {R:Rs Str} (all:zy rs R) {hs:List Str} (hi:∀z∈hs,∃r∈rs,r.1=z) (w:Won (mv (j0 rs)) hs):oW rs R hs=wW:=by
 have L:=VQ (QI good.nd) all
 rcases WI good L (vO hi) with ⟨l,e⟩ | ⟨_,e⟩ | ⟨_,n,e⟩
 . exact absurd w (zg l)
 . exact e
 . exact absurd w n
theorem K3 {rs:jb} (good:qD rs) {R:Rs Str} (all:zy rs R) {hs:List Str} (hi:∀z∈hs,∃r∈rs,r.1=z) (l:oW rs R hs=wL) {m:Nat×Str} (hm:m∈mvs rs hs hs.length):oW rs R (lf hs m)=wW/\∀b,Zp rs R (lf hs m) b->cnt R (lf (lf hs m) b) < cnt R hs:=by
 have LL:=qah good (VQ (QI good.nd) all)
 have hi':=zi good hi hm
 have mb:=(wB good hi).mpr ⟨m,hm,rfl⟩
 have z:=(zh LL (vO hi)).mp ((vS good all hi).mp l)
 obtain⟨c,hc,ck,cz,lt⟩:=Uj LL (vO hi) z mb
 have lc:=(zh LL ck).mpr cz
 refine⟨RM good all hi' (.mk hc lc),λb hb=>?_⟩
 obtain⟨m',hm',rfl⟩:=(wB good hi').mp hc
 have hw:m'∈Je rs R (lf hs m):=zad.mpr ⟨hm',decide_eq_true ((vS good all (zi good hi' hm')).mpr lc)⟩
 obtain⟨j,hj⟩:=List.mem_iff_getElem?.mp hw
 obtain⟨i,_,b'⟩:=hb
 exact zaw (b' j m' hj).1 lt
section
variable {P:Program} {w:World} {K:PySem.W.Frag} {mg:Str->Option Value} {base:Heap}
theorem MP:qt ["_law_labels_here","_law_heap_here"] ["_law_labels_here","_law_heap_here"] (qj Z9):=⟨rfl,rfl,rfl,by decide+kernel,rfl,by decide+kernel,by decide+kernel⟩
theorem yb {f:Addr} {fd:FuncData} (F:jI K "_law_steps" "_law_steps" Z9 f fd) (T:Qx K mg):qm P w K mg base qK 1 f fd ["_law_labels_here","_law_heap_here"] Q8:=by
 refine F.okJ MP (λvs H Q E z=>?_) (λcdv A outer s H vs Q E hr z=>?_)
 . obtain⟨D,h',rs,R,hs,rfl,_⟩:=z
   rfl
 . obtain⟨D,h',rs,R,hs,rfl,le,lb,all,hh,nm,q⟩:=z
   have hu:=jU hr
   refine⟨_,qh (qB (qJ (zX rfl) (by rfl) T.sum boot_sum (qd (Qd (N':=["_law_name","_law_labels_here"]) (ix:=[none,some 0]) (te:=YO (Yl K) (YQ (jo 1) (jo 0)) (tC (.int 2))) rfl ⟨rfl,rfl,rfl,rfl,rfl⟩ (qN (jv 1)) (λC s2 H2 fp pins=>
       ⟨qA (i:=0) (show (["_law_name","_law_labels_here"]:List Str).Nodup by decide+kernel) rfl (Or.inl rfl),jL,qY jc (qX hu (jv 1) (jv 0) (λ_ _=>rfl)) qk (λ_ _=>rfl)⟩)) qg))),?_⟩
   refine⟨_,rfl,h',rfl,⟨_,.of hh.at_⟩,λW hW=>?_⟩
   refine J3 (K:=K) (a:=h') (xs:=hs) (enc:=V.str) (out:=λz=>some (V.int (Q6 R z:Nat))) (rest:=[some (.ref D)]) hW hh.at_ (qp (zac hh.le (by decide))) (λx hx Y sY R' hR=>hR Y (qo.refl Y)) (λx hx v ev Y sY R' hR=>?_) (λH5 s5 hD5=>?_)
   . cases ev
     obtain⟨kvs,hD,_,hv⟩:=(lb.mono sY).at_
     obtain⟨r,hr',er⟩:=hh.in_ x hx
     obtain⟨t,et,ht⟩:=hv r hr'
     rw[er]at et ht
     obtain⟨n,en⟩:=nm x hx
     unfold QH at ht
     rw[en]at ht
     exact⟨_,rfl,_,rfl,D,_,rfl,by rw[<-et];exact jO.k (k:=(Sum.inr x:qL)) hD,t,_,2,_,rfl,rfl,.of ht,rfl,hR Y (qo.refl Y)⟩
   . rw[vY]at hD5
     have hc:=Vl (R:=R) (hs:=hs) λz _=>yZ all le z
     have h8:=hh.le
     refine⟨W,hs.map (Q6 R),rfl,.of (by rw[zaX];exact hD5),?_,q H5 s5⟩
     show cnt R hs < 2^62
     omega
def LH (H:Hp) (l D h:Addr) (ps:List Addr) (rs:jb) (R:Rs Str) (hs:List Str):Prop:=jF H l ps rs/\jA H D rs R/\zy rs R/\js H h rs hs
theorem LH.mono {H H':Hp} {l D h:Addr} {ps:List Addr} {rs:jb} {R:Rs Str} {hs:List Str} (x:LH H l D h ps rs R hs) (s:qo H H'):LH H' l D h ps rs R hs:=⟨⟨s _ _ x.1.at_,x.1.rows.mono s,x.1.good,x.1.pos,x.1.le⟩,x.2.1.mono s,x.2.2.1,x.2.2.2.mono s⟩
end
def xg:Sp:=λvs H Q _=>∃(D p:Addr) (x:V) (rs:jb) (R:Rs Str) (m:Nat×Str),vs=[.ref D,x,.ref p]/\jA H D rs R/\H p=some (.tup (X7 m))/\(∃r∈rs,r.1=m.2)/\∀i:Int,Q (.int i) H
def xl:Sp:=λvs H Q _=>∃(d l D h:Addr) (wv n s t:Int) (ps:List Addr) (rs:jb) (R:Rs Str) (hs:List Str),vs=[.ref d,.ref l,.ref D,.ref h,.int wv]/\H d=some (.dK (src n s t))/\LH H l D h ps rs R hs/\0 < (mvs rs hs hs.length).length/\
 ∀H' p m n' t',m∈mvs rs hs hs.length->H' p=some (.tup (X7 m))->H' d=some (.dK (src n' s t'))->Fr H d H'->Q (.ref p) H'
def y6 (PT:Addr):Sp:=λvs H Q _=>∃(d l D h:Addr) (wv n s t:Int) (ps:List Addr) (rs:jb) (R:Rs Str) (hs:List Str),vs=[.ref d,.ref l,.ref D,.ref h,.int wv]/\H d=some (.dK (src n s t))/\D≠d/\LH H l D h ps rs R hs/\oW rs R hs≠wD/\(∃tq,H PT=some (.tbl #[.str zM tq]))/\
 ∀H' n' t',H' d=some (.dK (src n' s t'))->Fr H d H'->Q (.bl true) H'
def PyX (rs:jb) (R:Rs Str) (hs:List Str) (m0 made mo:Nat):Prop:=oW rs R hs=wW/\(∀b,Zp rs R hs b->made+1+2*cnt R (lf hs b)<=mo)/\m0<=made
def PyI (rs:jb) (R:Rs Str) (hs:List Str) (made mo:Nat) (bv:V):Prop:=(bv=.non/\oW rs R hs=wW/\∀b,Zp rs R hs b->made+1+2*cnt R (lf hs b)<=mo)\/(bv=.int (cnt R hs:Nat)/\oW rs R hs=wL/\made+2*cnt R hs<=mo)
theorem ue (m:Nat×Str):PyData.eqv (mD m) (mD m)=true:=by
 show (((m.1:Int)==(m.1:Int))&&((m.2==m.2)&&true))=true
 simp
section
variable {P:Program} {w:World} {K:PySem.W.Frag} {mg:Str->Option Value} {base:Heap}
abbrev M5:List Str:=["_law_labels_here","_law_heap_here","_law_move"]
abbrev nHa:List Str:=["_law_labels_here","_law_heap_here","_law_move","_law_label"]
theorem MR:qt nHa M5 (qj Vx):=⟨rfl,rfl,rfl,by decide+kernel,rfl,by decide+kernel,by decide+kernel⟩
theorem KL {f:Addr} {fd:FuncData} (F:jI K "_law_harm" "_law_harm" Vx f fd):qm P w K mg base qK 1 f fd M5 xg:=by
 refine F.okJ MR (λvs H Q E z=>?_) (λcdv A outer s H vs Q E hr z=>?_)
 . obtain⟨D,p,x,rs,R,m,rfl,_⟩:=z
   rfl
 . obtain⟨D,p,x,rs,R,m,rfl,lb,hp,⟨rw',hr',er⟩,q⟩:=z
   have hu:=jU hr
   refine⟨_,qf (qw (i:=3) MR.nd rfl (Or.inl rfl) (qX hu (jv 0) (qY jc (jv 2) (qk) (λ_ _=>rfl)) (λ_ _=>rfl)))
     (qf (qM (qu jH (qY jc (jv 3) (qk) (λ_ _=>rfl)) (qR) (qC _)) (qh (qB qk)) qE)
     (qh (qB (qY jc (jv 3) (qk) (λ_ _=>rfl))))),?_⟩
   obtain⟨kvs,hDk,_,hv⟩:=lb.at_
   obtain⟨t,et,ht⟩:=hv rw' hr'
   rw[er]at et ht
   have gd:jO H D (.str m.2) (some (.ref t)):=by rw[<-et];exact jO.k (k:=(Sum.inr m.2:qL)) hDk
   unfold QH at ht
   cases en:qG R m.2 with
   | some k=>
     rw[en]at ht
     exact⟨_,rfl,_,rfl,p,_,1,.str m.2,rfl,rfl,.of hp,rfl,D,_,rfl,gd,_,rfl,t,_,0,_,rfl,rfl,.of ht,rfl,rfl,_,rfl,qT (by decide+kernel) ⟨_,rfl,t,_,2,_,rfl,rfl,.of ht,rfl,q _⟩⟩
   | none=>
     rw[en]at ht
     exact⟨_,rfl,_,rfl,p,_,1,.str m.2,rfl,rfl,.of hp,rfl,D,_,rfl,gd,_,rfl,t,_,0,_,rfl,rfl,.of ht,rfl,rfl,_,rfl,jg (by decide+kernel) (q _)⟩
abbrev uD:List Str:=["_law_source_here","_law_rows_here","_law_labels_here","_law_heap_here","_law_way"]
abbrev nAn:List Str:=["_law_source_here","_law_rows_here","_law_labels_here","_law_heap_here","_law_way","_law_moves_here","_law_worst","_law_move"]
theorem xz:qt nAn uD (qj xA):=⟨rfl,rfl,rfl,by decide+kernel,rfl,by decide+kernel,by decide+kernel⟩
theorem Nm {f fT fM fH:Addr} {fd fdT fdM fdH:FuncData} (F:jI K "_law_answer" "_law_answer" xA f fd) (B:QL mg) (T:Qx K mg) (hdi:mg "dict"=none) (hT:qU K mg "_law_take" Yc ["_law_source_here","_law_many"] fT fdT) (hM:qU K mg "_law_moves" Zu Ry fM fdM) (hH:qU K mg "_law_harm" Vx M5 fH fdH):qm P w K mg base qK 2 f fd uD xl:=by
 have GT:qm P w K mg base qK 1 fT fdT ["_law_source_here","_law_many"] ZN:=zf hT.fn
 have GMv:qm P w K mg base qK 1 fM fdM Ry Z1:=X5 hM.fn T hdi
 have GHa:qm P w K mg base qK 1 fH fdH M5 xg:=KL hH.fn
 refine F.okJ xz (λvs H Q E z=>?_) (λcdv A outer s H vs Q E hr z=>?_)
 . obtain⟨d,l,D,h,wv,n,s,t,ps,rs,R,hs,rfl,_⟩:=z
   rfl
 . obtain⟨d,l,D,h,wv,n,sd,t,ps,rs,R,hs,rfl,hd,lh,ne,q⟩:=z
   have r1:qV 1 _:=hr.mono (by decide)
   have good:=lh.1.good
   refine⟨_,qf (qw (i:=5) xz.nd rfl (Or.inl rfl) (qH hM GMv r1 (by rfl) (qd (jv 1) (qd (jv 3) qg))))
     (qf (qM (qu jH (jv 4) (qk) (qC _)) (qh (qB (qY Qy (jv 5) (qH hT GT r1 (by rfl) (qd (jv 0) (qd (qJ jf (by rfl) B.len boot_len (qd (jv 5) qg)) qg))) (λ_ _=>rfl)))) qE)
     (qf (qw (i:=6) xz.nd rfl (Or.inl rfl) (qY Qy (jv 5) (qk) (λ_ _=>rfl)))
     (qf (jd PassesOwn.never rfl (qN (jv 5)) (qA (i:=7) xz.nd rfl (Or.inl rfl)) (qh (qM (qu Yf (qH hH GHa r1 (by rfl) (qd (jv 2) (qd (jv 3) (qd (jv 7) qg)))) (qH hH GHa r1 (by rfl) (qd (jv 2) (qd (jv 3) (qd (jv 6) qg)))) (qC _)) (qh (qw (i:=6) xz.nd rfl (Or.inl rfl) (jv 7))) qE)))
     (qh (qB (jv 6)))))),?_⟩
   refine⟨_,rfl,_,rfl,l,h,ps,rs,hs,rfl,lh.1,lh.2.2.2,λH1 L qs s1 nL hL mv=>?_⟩
   have hd1:=s1 _ _ hd
   have fr1:Fr H d H1:=λb o hb _=>s1 b o hb
   have lq:(qs.map V.ref).length=(mvs rs hs hs.length).length:=by rw[tj,mv.1]
   have lmv:(mvs rs hs hs.length).length<=112:=by
     have h1:=Zw good lh.1.le lh.2.2.2.in_ hs.length (tE _)
     have h2:=lh.2.2.2.le
     omega
   have item:∀{i:Int},0<=i->i < ((qs.map V.ref).length:Nat)->∃p m,km (qs.map V.ref) i=some (.ref p)/\m∈mvs rs hs hs.length/\H1 p=some (.tup (X7 m)):=λ{i} h0 h1=>by
     obtain⟨x,ex,gx⟩:=atI_get h0 h1
     rw[tH]at gx
     cases ep:qs[i.toNat]? with
     | none=>rw[ep]at gx;cases gx
     | some p0=>
       rw[ep]at gx
       obtain rfl:=(tN.inj gx).symm
       have hi:i.toNat < (mvs rs hs hs.length).length:=by rw[<-mv.1];exact(tw.mp ep).1
       have em:(mvs rs hs hs.length)[i.toNat]?=some (mvs rs hs hs.length)[i.toNat]:=tF hi
       exact⟨p0,_,ex,zbi hi,mv.2 _ p0 _ ep em⟩
   refine⟨_,rfl,rfl,_,rfl,?_⟩
   by_cases c:wv=0
   . refine jg (decide_eq_true (by rw[c])) ⟨_,rfl,_,rfl,_,rfl,L,_,rfl,.inl (.of hL),d,_,n,sd,t,rfl,hd1,by omega,by rw[lq];exact zaw (show _<=112 by omega) (by decide),λr n1 t1 r0 r1'=>?_⟩
     obtain⟨p,m,ea,hm,hp⟩:=item r0 r1'
     have fr2:Fr H1 d (upd H1 d (.dK (src n1 sd t1))):=Fr.refl.at_d
     refine⟨L,_,r,_,rfl,rfl,.of (QX fr2 hd1 hL (λ_ z=>nomatch z)),ea,q _ p m n1 t1 hm (QX fr2 hd1 hp (λ_ z=>nomatch z)) qe (fr1.trans fr2)⟩
   . refine qT (decide_eq_false λz=>c (V.int.inj z)) ?_
     obtain⟨p0,m0,ea,hm0,hp0⟩:=item (i:=0) (by omega) (by omega)
     refine⟨_,rfl,L,_,0,_,rfl,rfl,.of hL,ea,_,rfl,L,rfl,⟨_,.of hL⟩,?_⟩
     refine jr (K:=K) (a:=L) (xs:=qs.map V.ref) (λi σ G=>∃p m v7,σ=[some (.ref d),some (.ref l),some (.ref D),some (.ref h),some (.int wv),some (.ref L),some (.ref p),v7]/\G=H1/\m∈mvs rs hs hs.length/\H1 p=some (.tup (X7 m))) ⟨p0,m0,_,rfl,rfl,hm0,hp0⟩ (λi σ G _ ⟨_,_,_,_,e,_⟩=>.of (by rw[e];exact hL)) ?_ ?_
     . rintro i y σ G hy ⟨p,m,v7,rfl,rfl,hm,hp⟩
       have hy':∃p1 m1,y=.ref p1/\m1∈mvs rs hs hs.length/\G p1=some (.tup (X7 m1)):=by
         rw[tH]at hy
         cases ep:qs[i]? with
         | none=>rw[ep]at hy;cases hy
         | some p1=>
           rw[ep]at hy
           have hi:i < (mvs rs hs hs.length).length:=by rw[<-mv.1];exact(tw.mp ep).1
           exact⟨p1,_,(tN.inj hy).symm,zbi hi,mv.2 _ p1 _ ep (tF hi)⟩
       obtain⟨p1,m1,rfl,hm1,hp1⟩:=hy'
       have inR:∀{m},m∈mvs rs hs hs.length->∃r∈rs,r.1=m.2:=λ{m} hm=>zi good lh.2.2.2.in_ hm m.2 (by unfold lf;exact List.mem_set (QO hm).1 _)
       refine⟨_,rfl,_,rfl,_,rfl,D,p1,_,rs,R,m1,rfl,lh.2.1.mono s1,hp1,inR hm1,λi1=>⟨_,rfl,_,rfl,_,rfl,D,p,_,rs,R,m,rfl,lh.2.1.mono s1,hp,inR hm,λi2=>⟨_,_,rfl,rfl,_,rfl,?_⟩⟩⟩
       by_cases c2:i2 < i1
       . exact jg (decide_eq_true c2) ⟨_,rfl,p1,m1,_,rfl,rfl,hm1,hp1⟩
       . exact qT (decide_eq_false c2) ⟨p,m,_,rfl,rfl,hm,hp⟩
     . rintro σ G ⟨p,m,v7,rfl,rfl,hm,hp⟩
       exact⟨_,rfl,q _ p m n t hm hp hd1 fr1⟩
abbrev nPy:List Str:=["_law_source_here","_law_rows_here","_law_labels_here","_law_heap_here","_law_way","_law_ground","_law_most","_law_made","_law_before","_law_move","_law_count"]
theorem zH:qt nPy uD (qj vz):=⟨rfl,rfl,rfl,by decide+kernel,rfl,by decide+kernel,by decide+kernel⟩
theorem KD {f CG CS PT fI fMo fM fO fS fA fN fW fC:Addr} {fd fdI fdMo fdM fdO fdS fdA fdN fdW fdC:FuncData} (F:jI K "_law_play" "_law_play" vz f fd) (G:QE mg) (C:Mm K mg CG fI fdI) (GI:qm P w K mg base qK 6 fI fdI ["self","rows"] (Yx CG))
   (hMo:qU K mg "most_moves" Vu ["ground","heap"] fMo fdMo) (GMo:qm P w K mg base (YN P w) 13 fMo fdMo ["ground","heap"] (Us CG CS PT)) (hW:qU K mg "winner" Z6 ["ground","heap"] fW fdW) (GW:qm P w K mg base (YN P w) 13 fW fdW ["ground","heap"] (YS CG CS PT)) (hC:qU K mg "count_of" Y6 ["ground","heap"] fC fdC) (GC:qm P w K mg base (YN P w) 11 fC fdC ["ground","heap"] (Wx CG CS))
   (hM:qU K mg "_law_moves" Zu Ry fM fdM) (GMv:qm P w K mg base qK 1 fM fdM Ry Z1) (hO:qU K mg "_law_outcome" Vv ["_law_labels_here","_law_heap_here"] fO fdO) (GO:qm P w K mg base qK 1 fO fdO ["_law_labels_here","_law_heap_here"] Uu) (hS:qU K mg "_law_steps" Z9 ["_law_labels_here","_law_heap_here"] fS fdS) (GS:qm P w K mg base qK 1 fS fdS ["_law_labels_here","_law_heap_here"] Q8)
   (hA:qU K mg "_law_after" Vw Nc fA fdA) (GA:qm P w K mg base qK 1 fA fdA Nc Uv) (hN:qU K mg "_law_answer" xA uD fN fdN) (GN:qm P w K mg base qK 2 fN fdN uD xl):qm P w K mg base qK 14 f fd uD (y6 PT):=by
 refine F.okJ zH (λvs H Q E z=>?_) (λcdv A outer s H vs Q E hr z=>?_)
 . obtain⟨d,l,D,h,wv,n,s,t,ps,rs,R,hs,rfl,_⟩:=z
   rfl
 . obtain⟨d,l,D,h,wv,n,sd,t,ps,rs,R,hs,rfl,hd,nD,lh,nd,⟨tq,hP⟩,q⟩:=z
   have r1:qV 1 _:=hr.mono (by decide)
   have r2:qV 2 _:=hr.mono (by decide)
   have r11:qV 11 _:=hr.mono (by decide)
   have r13:qV 13 _:=hr
   refine⟨_,qf (qw (i:=5) zH.nd rfl (Or.inl rfl) (JR C.mkr GI (hr.mono (by decide)) (by rfl) C.ns C.bi .nil QJ (qd (jw Qp (by rfl) G.lst boot_list (qd (jv 1) qg)) qg)))
     (qf (qw (i:=6) zH.nd rfl (Or.inl rfl) (VU hMo GMo r13 xP (by rfl) (qd (jv 5) (qd (jv 3) qg))))
     (qf (qw (i:=7) zH.nd rfl (Or.inl rfl) (qk))
     (qf (qw (i:=8) zH.nd rfl (Or.inl rfl) (UR))
     (qf (qM (qu jH (qH hO GO r1 (by rfl) (qd (jv 2) (qd (jv 3) qg))) (qR) (qC _)) (qh (qw (i:=8) zH.nd rfl (Or.inl rfl) (qH hS GS r1 (by rfl) (qd (jv 2) (qd (jv 3) qg))))) qE)
     (qf (Zl PassesOwn.never (qu X4 (jv 7) (qk) (qC _)) (qf (qM (qu vK (jv 8) (UR) (qC _)) (qf (qM (qu (xV hr.units) (qH hM GMv r1 (by rfl) (qd (jv 1) (qd (jv 3) qg))) (jS qg) (qC _)) (qh (qB (Qo X4 (jv 7) (jv 6) (qC _)))) qE)
     (qf (qw (i:=3) zH.nd rfl (Or.inl rfl) (qH hA GA r1 (by rfl) (qd (jv 3) (qd (qH hN GN r2 (by rfl) (qd (jv 0) (qd (jv 1) (qd (jv 2) (qd (jv 3) (qd (jv 4) qg)))))) qg))))
     (qh (qw (i:=7) zH.nd rfl (Or.inl rfl) (qO Qa (jv 7) qk))))) qE)
     (qf (qw (i:=9) zH.nd rfl (Or.inl rfl) (VU hW GW r13 xP (by rfl) (qd (jv 5) (qd (jw Qp (by rfl) G.lst boot_list (qd (jv 3) qg)) qg))))
     (qf (qM (qu (k4 hr.units) (jv 9) (qH hM GMv r1 (by rfl) (qd (jv 1) (qd (jv 3) qg))) (by with_unfolding_all rfl)) (qW) qE)
     (qf (qw (i:=3) zH.nd rfl (Or.inl rfl) (qH hA GA r1 (by rfl) (qd (jv 3) (qd (jv 9) qg))))
     (qf (qw (i:=7) zH.nd rfl (Or.inl rfl) (qO Qa (jv 7) qk))
     (qf (qM (qu VE (qH hO GO r1 (by rfl) (qd (jv 2) (qd (jv 3) qg))) (qR) (qC _)) (qW) qE)
     (qf (qw (i:=10) zH.nd rfl (Or.inl rfl) (qH hS GS r1 (by rfl) (qd (jv 2) (qd (jv 3) qg))))
     (qf (qM (qu VE (VU hC GC r11 xP (by rfl) (qd (jv 5) (qd (jv 3) qg))) (jv 10) (qC _)) (qW) qE)
     (qf (qM (JW.pt (j1 (qu vK (jv 8) (UR) (qC _)) (jK (qu vL (jv 10) (jv 8) (qC _))))) (qW) qE)
     (qh (qw (i:=8) zH.nd rfl (Or.inl rfl) (jv 10)))))))))))))
     (qh (qB Qe))))))),?_⟩
   have ga:=lh.1
   have good:=ga.good
   have all:=lh.2.2.1
   have hh:=lh.2.2.2
   refine⟨_,rfl,l,_,rfl,.inl (.of ga.at_),λl2 f2 x dx hx hdx ndx=>?_⟩
   refine yh ga.at_ ga.rows good ga.pos ga.le f2 hx hdx ndx λH4 s4 gr=>?_
   refine⟨_,rfl,_,rfl,x,h,rs,hs,rfl,⟨gr,good,ga.le,hh.mono s4⟩,⟨tq,s4 _ _ hP⟩,λR' all'=>?_⟩
   obtain rfl:=All.uniq good.nd all all'
   have hd4:=s4 _ _ hd
   have lh4:=lh.mono s4
   have atG:∀{G':Hp},Fr H4 d G'->jF G' l ps rs/\jA G' D rs R/\Qh CG G' x rs/\G' PT=some (.tbl #[.str zM tq]):=λfr=>⟨lh4.1.fr' hd4 fr,lh4.2.1.fr hd4 nD fr,gr.frd ga.pos hd4 fr,QX fr hd4 (s4 _ _ hP) (λ_ z=>nomatch z)⟩
   have dec:∀a b:Str,a=b->decide (V.str a=V.str b)=true:=λa b e=>decide_eq_true (by rw[e])
   have ndec:∀a b:Str,a≠b->decide (V.str a=V.str b)=false:=λa b e=>decide_eq_false λz=>e (V.str.inj z)
   refine⟨λel H5 s5=> ?A,λew H5 m s5 bm=> ?B,λed=>absurd ed nd⟩
   case' A=>
     refine⟨_,rfl,_,rfl,D,h,rs,R,hs,rfl,lh4.2.1.mono s5,lh4.2.2.2.mono s5,Xe good all hh.in_,λH6 s6=>⟨rfl,_,rfl,jg (dec _ _ el) ⟨_,rfl,_,rfl,D,h,rs,R,hs,rfl,ga.le,(lh4.2.1.mono s5).mono s6,all,(lh4.2.2.2.mono s5).mono s6,Jr el,λH7 s7=>?_⟩⟩⟩
     have s47:qo H4 H7:=(s5.trans s6).trans s7
     have pi:PyI rs R hs 0 (2*cnt R hs) (V.int (cnt R hs:Nat)):=.inr ⟨rfl,el,by omega⟩
     generalize 2*cnt R hs=mo at pi ⊢
   case' B=>
     refine⟨_,rfl,_,rfl,D,h,rs,R,hs,rfl,lh4.2.1.mono s5,lh4.2.2.2.mono s5,Xe good all hh.in_,λH7 s7=>⟨rfl,_,rfl,qT (ndec _ _ λz=>Rg (z.symm.trans ew)) ?_⟩⟩
     have s47:qo H4 H7:=s5.trans s7
     have pi:PyI rs R hs 0 (1+2*cnt R (lf hs m)) V.non:=.inl ⟨rfl,ew,λb hb=>by rw[bm.uniq hb];omega⟩
     generalize 1+2*cnt R (lf hs m)=mo at pi ⊢
   all_goals
     refine Za (λσ G'=>∃(hh':Addr) (hs':List Str) (made:Nat) (bv:V) (v9 v10:Option V) (n' t':Int),σ=[some (.ref d),some (.ref l),some (.ref D),some (.ref hh'),some (.int wv),some (.ref x),some (.int (mo:Nat)),some (.int (made:Nat)),some bv,v9,v10]/\Fr H4 d G'/\G' d=some (.dK (src n' sd t'))/\js G' hh' rs hs'/\PyI rs R hs' made mo bv)
       (λσ _=>match σ with | [_,_,_,_,_,_,_,some (.int r),_,_,_]=>(81 - r).toNat | _=>0) ⟨h,hs,0,_,_,_,n,t,rfl,λb o hb _=>s47 b o hb,s47 _ _ hd4,lh4.2.2.2.mono s47,pi⟩ ?_ ?_
     . rintro σ G1 ⟨hh',hs',made,bv',v9,v10,n',t',rfl,fr1,hd1,hp1,pi1⟩
       obtain⟨ga1,lb1,gr1,tb1⟩:=atG fr1
       refine⟨_,rfl,_,_,rfl,rfl,_,rfl,?_⟩
       by_cases c80:made<=80
       . refine jg (decide_eq_true (by omega)) ?_
         rcases pi1 with ⟨rfl,ew1,hb⟩ | ⟨rfl,el1,hm⟩
         case' inl=>
           refine⟨_,rfl,rfl,_,rfl,qT rfl ?_⟩
           have cx:PyX rs R hs' made made mo:=⟨ew1,hb,tE _⟩
           have fr2':=fr1
           have hd2':=hd1
           have h2':=hp1
           generalize G1=Gx at h2' fr2' hd2' ⊢
           generalize hm1:made=m1 at cx ⊢
           rw[hm1]at c80
           generalize hs'=hsx at cx h2'
         case' inr=>
           refine⟨_,rfl,rfl,_,rfl,jg rfl ⟨_,rfl,_,rfl,l,hh',ps,rs,hs',rfl,ga1,hp1,λGa L qs sa nL hL mv=>⟨by show 0<=sizeLine;decide,λle fle=>?_⟩⟩⟩
           have sb:=ql (o:=HO.lst []) fle
           have hle:upd Ga le (HO.lst []) le=some (.lst []):=qe
           generalize upd Ga le (HO.lst [])=Gb at sb hle
           have sab:=sa.trans sb
           refine⟨dM (mvs rs hs' hs'.length),.list [],qbG (sb _ _ hL) (mv.mono sb),.lst (.of hle) .nil,qa1 (VN good hp1.in_),MG,_,rfl,?_⟩
           rw[uf]
           by_cases e0:mvs rs hs' hs'.length=[]
           case pos=>
             rw[e0]
             refine j4 ⟨_,rfl,_,rfl,_,_,rfl,rfl,?_⟩
             have e:decide (((made:Nat):Int)<=((mo:Nat):Int))=true:=decide_eq_true (by omega)
             show Q (V.bl (decide (((made:Nat):Int)<=((mo:Nat):Int)))) _
             rw[e]
             exact q _ n' t' (sab _ _ hd1) λb o hb nb=>sab _ _ (fr1 b o (s4 _ _ hb) nb)
           case' neg=>
             have ne:0 < (mvs rs hs' hs'.length).length:=zcH.mpr e0
             refine qT (by cases c:mvs rs hs' hs'.length<;>first | exact absurd c e0 | rfl) ?_
             have frb:Fr H4 d Gb:=fr1.same sab
             obtain⟨gab,lbb,grb,tbb⟩:=atG frb
             refine⟨_,rfl,_,rfl,_,rfl,_,rfl,_,rfl,_,rfl,d,l,D,hh',wv,n',sd,t',ps,rs,R,hs',rfl,sab _ _ hd1,⟨gab,lbb,all,hp1.mono sab⟩,ne,λGc p m nc tc hmm hp hdc frc=>?_⟩
             refine⟨hh',p,hs',m,rfl,QX frc (sab _ _ hd1) (sab _ _ hp1.at_) (λ_ z=>nomatch z),hp1.le,hp,(QO hmm).1,λGx h2 s2 n2 hh2=>⟨_,rfl,_,_,rfl,rfl,?_⟩⟩
             have fr2':Fr H4 d Gx:=(frb.trans frc).same s2
             obtain⟨gw,ltc⟩:=K3 good all hp1.in_ el1 hmm
             have cx:PyX rs R (lf hs' m) made (made+1) mo:=⟨gw,λb hb=>by have:=ltc b hb;omega,by omega⟩
             have h2':js Gx h2 rs (lf hs' m):=⟨hh2,by unfold lf;rw[zbJ];exact hp1.le,zi good hp1.in_ hmm⟩
             have hd2':=s2 _ _ hdc
             have e1:((made:Nat):Int)+1=((made+1:Nat):Int):=rfl
             dsimp only
             rw[e1]
             generalize hm1:made+1=m1 at cx ⊢
             generalize lf hs' m=hsx at cx h2' ltc
         all_goals
           obtain⟨wx,bx,lm⟩:=cx
           refine⟨_,rfl,_,rfl,_,_,rfl,.inl (.of h2'.at_),λkp fkp=>?_⟩
           have s3:=ql (o:=HO.lst (hsx.map V.str)) fkp
           have k3:upd Gx kp (HO.lst (hsx.map V.str)) kp=some (.lst (hsx.map V.str)):=qe
           generalize upd Gx kp (HO.lst (hsx.map V.str))=G3 at s3 k3
           have fr3:=fr2'.same s3
           obtain⟨ga3,lb3,gr3,tb3⟩:=atG fr3
           refine⟨x,kp,rs,hsx,rfl,⟨gr3,good,ga.le,⟨k3,h2'.le,h2'.in_⟩⟩,⟨tq,tb3⟩,λR' all'=>?_⟩
           obtain rfl:=All.uniq good.nd all all'
           refine⟨λ_ G4 p m s4' hp bm=>?_,λne=>absurd wx ne⟩
           have mm:=bm.mem
           have s24:=s3.trans s4'
           have fr4:=fr2'.same s24
           obtain⟨ga4,lb4,gr4,tb4⟩:=atG fr4
           have h4:=h2'.mono s24
           have nmv:=VN good h2'.in_
           refine⟨_,rfl,_,rfl,_,rfl,l,_,ps,rs,hsx,rfl,ga4,h4,λG5 L5 qs5 s5' nL5 hL5 mv5=>?_⟩
           have c1:(mD m).canLay0=true:=by
             show (true&&(PyData.strOk m.2&&true))=true
             rw[vQ (nmv m mm.1)]
             rfl
           have c3:(!((mvs rs hsx hsx.length).map mD).any λz=>PyData.eqv z (mD m))=false:=by
             have e:(((mvs rs hsx hsx.length).map mD).any λz=>PyData.eqv z (mD m))=true:=zaZ.mpr ⟨mD m,tL.mpr ⟨m,mm.1,rfl⟩,ue m⟩
             rw[e]
             rfl
           refine⟨mD m,(mvs rs hsx hsx.length).map mD,RL (s5' _ _ hp),.lst (.of hL5) (U4 mv5),c1,UY nmv,by show 1<=40;decide,_,rfl,qT c3 ?_⟩
           refine⟨_,rfl,_,rfl,_,p,hsx,m,rfl,s5' _ _ h4.at_,h2'.le,s5' _ _ hp,(QO mm.1).1,λG6 hy s6 ny hhy=>⟨_,rfl,_,_,rfl,rfl,?_⟩⟩
           have fr6:=fr4.same (s5'.trans s6)
           obtain⟨ga6,lb6,gr6,tb6⟩:=atG fr6
           have h6:js G6 hy rs (lf hsx m):=⟨hhy,by unfold lf;rw[zbJ];exact h2'.le,zi good h2'.in_ mm.1⟩
           refine⟨_,rfl,_,rfl,D,hy,rs,R,lf hsx m,rfl,lb6,h6,Xe good all h6.in_,λG7 s7=>⟨rfl,_,rfl,qT (by rw[dec _ _ mm.2];rfl) ?_⟩⟩
           refine⟨_,rfl,_,rfl,D,hy,rs,R,lf hsx m,rfl,ga.le,lb6.mono s7,all,h6.mono s7,Jr mm.2,λG8 s8=>?_⟩
           have s68:=s7.trans s8
           have fr8:=fr6.same s68
           obtain⟨ga8,lb8,gr8,tb8⟩:=atG fr8
           refine⟨_,rfl,_,rfl,x,hy,rs,lf hsx m,rfl,⟨gr8,good,ga.le,h6.mono s68⟩,λR' all'=>?_⟩
           obtain rfl:=All.uniq good.nd all all'
           refine⟨λ_ G9 s9=>⟨_,rfl,rfl,_,rfl,qT (by rw[decide_eq_true rfl];rfl) ?_⟩,λne=>absurd mm.2 ne⟩
           have s29:=(s24.trans (s5'.trans s6)).trans (s68.trans s9)
           have bxm:=bx m bm
           have pf:PyI rs R (lf hsx m) (m1+1) mo (V.int (cnt R (lf hsx m):Nat)):=.inr ⟨rfl,mm.2,by omega⟩
           have ml:(81 - (((m1:Nat):Int)+1)).toNat < (81 - ((made:Nat):Int)).toNat:=by omega
           first
           | exact⟨_,rfl,rfl,_,rfl,qT rfl ⟨_,rfl,⟨hy,lf hsx m,m1+1,_,_,_,_,_,rfl,fr2'.same s29,s29 _ _ hd2',h6.mono (s68.trans s9),pf⟩,by show (81 - (((m1:Nat):Int)+1)).toNat < (81 - ((m1:Nat):Int)).toNat;omega⟩⟩
           | exact⟨_,rfl,rfl,_,rfl,jg rfl ⟨_,rfl,_,rfl,_,_,rfl,rfl,_,rfl,qT (decide_eq_false (by have:=ltc m bm;omega)) ⟨_,rfl,⟨hy,lf hsx m,m1+1,_,_,_,_,_,rfl,fr2'.same s29,s29 _ _ hd2',h6.mono (s68.trans s9),pf⟩,ml⟩⟩⟩
       . refine qT (decide_eq_false (by omega)) ?_
         exact q _ n' t' hd1 λb o hb nb=>fr1 b o (s4 _ _ hb) nb
     . rintro σ H' Q1 Q2 hq ⟨v,e,i,j,e3,e4,b,e5,h2⟩
       exact⟨v,e,i,j,e3,e4,b,e5,hq _ _ h2⟩
end
open PySem L2 PyProof.Rows MLab Rb
theorem N4 {K:PySem.W.Frag} {H H':Hp} {p d:Addr} {ns:List Int} {kvs:List (qL×V)} (h:SqL K H p (ns.map V.int)) (hd:H d=some (.dK kvs)) (f:Fr H d H'):SqL K H' p (ns.map V.int):=by
 rcases h with (h | ⟨o,h⟩) | h
 . exact .inl (.inl (f _ _ h (λe=>by rw[e,hd]at h;cases h)))
 . exact .inl (.inr ⟨o,f _ _ h (λe=>by rw[e,hd]at h;cases h)⟩)
 . exact .inr h
theorem _root_.L2.SqL.mono {K:PySem.W.Frag} {H H':Hp} {p:Addr} {xs:List V} (h:SqL K H p xs) (s:qo H H'):SqL K H' p xs:=by
 rcases h with (h | ⟨o,h⟩) | h
 . exact .inl (.inl (s _ _ h))
 . exact .inl (.inr ⟨o,s _ _ h⟩)
 . exact .inr h
theorem qaf {r:Int} (h0:0<=r) (h1:r < 5):∃mo:Nat,km [V.int 5,.int 7,.int 9,.int 9,.int 14] r=some (.int (mo:Int))/\0 < mo/\mo<=14:=by
 have:r=0\/r=1\/r=2\/r=3\/r=4:=by omega
 rcases this with rfl | rfl | rfl | rfl | rfl
 . exact⟨5,rfl,by decide,by decide⟩
 . exact⟨7,rfl,by decide,by decide⟩
 . exact⟨9,rfl,by decide,by decide⟩
 . exact⟨9,rfl,by decide,by decide⟩
 . exact⟨14,rfl,by decide,by decide⟩
theorem No {rs:jb} {R:Rs Str} {hs:List Str} (h:∀z∈hs,(qG R z).isSome=true):oW rs R hs≠wD:=by
 have e:jX (hs.map (wT rs R))=[]:=by
   unfold jX
   rw[zcW]
   intro a ha
   obtain⟨z,hz,rfl⟩:=tL.mp ha
   obtain⟨n,en⟩:=zbZ.mp (h z hz)
   rw[ZM en]
 unfold oW Qg
 rw[e]
 show (if jJ (QK (hs.map (wT rs R)))=0 then (Str.ofString "lost") else Str.ofString "won")≠wD
 split<;>decide+kernel
def RQ (K:PySem.W.Frag) (PT:Addr):Sp:=λvs H Q _=>∃(a:Addr) (ns:List Int),vs=[.ref a]/\SqL K H a (ns.map V.int)/\ns.length<=63/\H PT=some (.tbl #[.str zM 0])/\∀H',Q (.bl true) H'
section
variable {P:Program} {w:World} {K:PySem.W.Frag} {mg:Str->Option Value} {base:Heap}
abbrev qbm:List Str:=["_law_script","_law_k","_law_source_here","_law_rows_here","_law_labels_here","_law_heap_here","_law_way"]
theorem Z5:qt qbm ["_law_script"] (qj WB):=⟨rfl,rfl,rfl,by decide+kernel,rfl,by decide+kernel,by decide+kernel⟩
structure qaC (K:PySem.W.Frag) (mg:Str->Option Value):Prop where
 cell:∃f fd,qU K mg "_law_cell_at" vG ["_law_script","_law_k"] f fd
 source:∃f fd,qU K mg "_law_source" YC ["_law_cell"] f fd
 take:∃f fd,qU K mg "_law_take" Yc ["_law_source_here","_law_many"] f fd
 names:∃f fd,qU K mg "_law_names" YY ["_law_source_here","_law_many"] f fd
 leads:∃f fd,qU K mg "_law_leads" Y0 Xb f fd
 rows:∃f fd,qU K mg "_law_rows" vy ["_law_source_here","_law_most"] f fd
 need:∃f fd,qU K mg "need_rows" Vs ["rows"] f fd
 nums:∃f fd,qU K mg "_law_numbers" Jo ["_law_rows_here"] f fd
 comes:∃f fd,qU K mg "_law_comes" Zv kZ f fd
 back:∃f fd,qU K mg "_law_back" ZQ kZ f fd
 labels:∃f fd,qU K mg "_law_labels" za ["_law_rows_here"] f fd
 out:∃f fd,qU K mg "_law_outcome" Vv ["_law_labels_here","_law_heap_here"] f fd
 moves:∃f fd,qU K mg "_law_moves" Zu Ry f fd
 aft:∃f fd,qU K mg "_law_after" Vw Nc f fd
 steps:∃f fd,qU K mg "_law_steps" Z9 ["_law_labels_here","_law_heap_here"] f fd
 harm:∃f fd,qU K mg "_law_harm" Vx M5 f fd
 ans:∃f fd,qU K mg "_law_answer" xA uD f fd
 play:∃f fd,qU K mg "_law_play" vz uD f fd
structure qaB (K:PySem.W.Frag) (mg:Str->Option Value):Prop where
 wb:∃f fd,qU K mg "winning_by" zI p3 f fd
 cb:∃f fd,qU K mg "count_by" Jf ["labels","heap"] f fd
 no:∃f fd,qU K mg "need_outcome_by" ZP ["labels","heap","wanted"] f fd
 co:∃f fd,qU K mg "count_of" Y6 ["ground","heap"] f fd
 wr:∃f fd,qU K mg "winner" Z6 ["ground","heap"] f fd
 mm:∃f fd,qU K mg "most_moves" Vu ["ground","heap"] f fd
theorem Nk {f fA c PT CG D CS fX:Addr} {fd fdA fdX:FuncData} (F:jI K "law" "law" WB f fd) (hA:qU K mg "winner_by" QS p3 fA fdA) (hc:fdA.code=.ref c) (TM:Ud mg base c PT) (h:WF K mg) (B:QL mg) (Zk:Wk K mg) (G:QE mg) (T:Qx K mg) (N:Rc K mg) (M:GM K mg CG) (Y:Mc K mg) (O:uz K mg) (V1:Ra K mg) (Q1:qaB K mg) (L:qaC K mg) (hdi:mg "dict"=none) (xS:RK K mg D "NotSo" "NotSo.__init__" ZO "found" CS fX fdX):qm P w K mg base qK 15 f fd ["_law_script"] (RQ K PT):=by
 obtain⟨fO,fdO,hO⟩:=L.cell
 obtain⟨fL,fdL,hL⟩:=L.source
 obtain⟨fT,fdT,hT⟩:=L.take
 obtain⟨fN,fdN,hN⟩:=L.names
 obtain⟨fD,fdD,hD⟩:=L.leads
 obtain⟨fR,fdR,hR⟩:=L.rows
 obtain⟨fW,fdW,hW⟩:=L.need
 obtain⟨f1,fd1,h1⟩:=L.nums
 obtain⟨f2,fd2,h2⟩:=L.comes
 obtain⟨f3,fd3,h3⟩:=L.back
 obtain⟨fLa,fdLa,hLa⟩:=L.labels
 obtain⟨f4,fd4,h4⟩:=L.out
 obtain⟨f5,fd5,h5⟩:=L.moves
 obtain⟨f6,fd6,h6⟩:=L.aft
 obtain⟨f9,fd9,h9⟩:=L.steps
 obtain⟨g1,gd1,k1⟩:=L.harm
 obtain⟨g2,gd2,k2⟩:=L.ans
 obtain⟨fPy,fdPy,hPy⟩:=L.play
 obtain⟨q1,qd1,e1⟩:=Q1.wb
 obtain⟨q2,qd2,e2⟩:=Q1.cb
 obtain⟨q3,qd3,e3⟩:=Q1.no
 obtain⟨q5,qd5,e5⟩:=Q1.co
 obtain⟨q6,qd6,e6⟩:=Q1.wr
 obtain⟨q7,qd7,e7⟩:=Q1.mm
 obtain⟨q8,qd8,e8⟩:=O.place
 obtain⟨q9,qd9,e9⟩:=O.heap
 obtain⟨r8,rd8,d8⟩:=V1.lb
 obtain⟨r9,rd9,d9⟩:=V1.oby
 obtain⟨fB,fdB,hB⟩:=Y.labels
 obtain⟨fI,fdI,C⟩:=M.cls
 have GO:qm P w K mg base qK 1 fO fdO ["_law_script","_law_k"] (xk K):=KR hO.fn B
 have GL:qm P w K mg base qK 1 fL fdL ["_law_cell"] Vo:=k9 hL.fn B
 have GT:qm P w K mg base qK 1 fT fdT ["_law_source_here","_law_many"] ZN:=zf hT.fn
 have GR:qm P w K mg base qK 3 fR fdR ["_law_source_here","_law_most"] y4:=KC hR.fn B G hT hN hD
 have GI:qm P w K mg base qK 6 fI fdI ["self","rows"] (Yx CG):=wn C B G T N hW
 have GLa:qm P w K mg base qK 4 fLa fdLa ["_law_rows_here"] Rq:=UF hLa.fn B hdi h3 h2 h1
 have G4:qm P w K mg base qK 1 f4 fd4 ["_law_labels_here","_law_heap_here"] Uu:=KI h4.fn B
 have G5:qm P w K mg base qK 1 f5 fd5 Ry Z1:=X5 h5.fn T hdi
 have G6:qm P w K mg base qK 1 f6 fd6 Nc Uv:=KJ h6.fn
 have G9:qm P w K mg base qK 1 f9 fd9 ["_law_labels_here","_law_heap_here"] Q8:=yb h9.fn T
 have J2:qm P w K mg base qK 2 g2 gd2 uD xl:=Nm k2.fn B T hdi hT h5 k1
 have GB:qm P w K mg base qK 8 fB fdB ["ground"] (Zd CG):=yd hB.fn B G T M Y
 have E1:qm P w K mg base qK 11 q1 qd1 p3 (Wt CG):=xZ e1.fn h B Zk G T M O V1
 have E2:qm P w K mg base qK 1 q2 qd2 ["labels","heap"] Q8:=VL e2.fn T
 have D8:qm P w K mg base qK 1 r8 rd8 ["heap","move"] zD:=WO d8.fn G
 have D9:qm P w K mg base qK 9 r9 rd9 ["labels","heap"] XY:=x6 d9.fn h B Zk O
 have E9:qm P w K mg base qK 3 q9 qd9 ["ground","heap"] (Zs CG):=VI e9.fn B G T M e8 O.most
 have E3:qm P w K mg base (YN P w) 10 q3 qd3 ["labels","heap","wanted"] (Yw CS):=x9 e3.fn d9 D9 xS
 have E5:qm P w K mg base (YN P w) 11 q5 qd5 ["ground","heap"] (Wx CG CS):=wp e5.fn hB GB e9 E9 e3 E3 e2 E2
 have EA:qm P w K mg base qK 12 fA fdA p3 (Yv CG PT):=xY hA.fn hc TM B G T e2 d8 e1 E1
 have E6:qm P w K mg base (YN P w) 13 q6 qd6 ["ground","heap"] (YS CG CS PT):=k7 e6.fn hB GB e9 E9 e3 E3 hA EA
 have E7:qm P w K mg base (YN P w) 13 q7 qd7 ["ground","heap"] (Us CG CS PT):=KH e7.fn hB GB e9 E9 d9 D9 hA EA e2 E2 d8 D8 xS
 have GPy:qm P w K mg base qK 14 fPy fdPy uD (y6 PT):=KD hPy.fn G C GI e7 E7 e6 E6 e5 E5 h5 G5 h4 G4 h9 G9 h6 G6 k2 J2
 refine F.okJ Z5 (λvs H Q E z=>?_) (λcdv A outer s H vs Q E hr z=>?_)
 . obtain⟨a,ns,rfl,_⟩:=z
   rfl
 . obtain⟨a,ns,rfl,hq,hlen,htb,k⟩:=z
   have hu:=jU hr
   have r1:qV 1 _:=hr.mono (by decide)
   have r3:qV 3 _:=hr.mono (by decide)
   have r4:qV 4 _:=hr.mono (by decide)
   have r14:qV 14 _:=hr
   refine⟨_,qf (jd PassesOwn.never rfl (jP (by rfl) B.rng (qd qk qg)) (qA (i:=1) Z5.nd rfl (Or.inl rfl))
       (qf (qw (i:=2) Z5.nd rfl (Or.inr rfl) (qH hL GL r1 (by rfl) (qd (qH hO GO r1 (by rfl) (qd (jv 0) (qd (jv 1) qg))) qg)))
     (qf (qw (i:=3) Z5.nd rfl (Or.inr rfl) (qH hR GR r3 (by rfl) (qd (jv 2) (qd (qY Qy (jS (qd qk (qd qk (qd qk (qd qk (qd qk qg)))))) (qH hT GT r1 (by rfl) (qd (jv 2) (qd qk qg))) (λ_ _=>rfl)) qg))))
     (qf (qw (i:=4) Z5.nd rfl (Or.inr rfl) (qH hLa GLa r4 (by rfl) (qd (jv 3) qg)))
     (qf (QY (i:=5) (N':=["_law_j","_law_rows_here","_law_source_here"]) (ix:=[none,some 3,some 2])
     (te:=YO (Yl K) (YO (R9 K) (jo 1) (z9 ZN [] E0 (j3 (jo 2) (j3 (tCB (λxs H Q=>∃p ys,xs=[.ref p]/\(SqL K H p ys\/YM K H p ys)/\Q (.int ys.length) H) (j3 (jo 1) Zc)) Zc)))) (tC (.int 0))) Z5.nd rfl (Or.inl rfl) rfl ⟨rfl,rfl,rfl,rfl,rfl⟩
     (jP (by rfl) B.rng (qd (qO Qa qk (qH hT GT r1 (by rfl) (qd (jv 2) (qd qk qg)))) qg))
     (λC s2 H2 fp pins=>⟨qA (i:=0) (show (["_law_j","_law_rows_here","_law_source_here"]:List Str).Nodup by decide+kernel) rfl (Or.inl rfl),jL,
       qY jc (qY Qy (jv 1) (qH hT GT r1 (by rfl) (qd (jv 2) (qd (qJ jf (by rfl) B.len boot_len (qd (jv 1) qg)) qg))) (λ_ _=>rfl)) qk (λ_ _=>rfl)⟩))
     (qf (qw (i:=6) Z5.nd rfl (Or.inl rfl) (qH hT GT r1 (by rfl) (qd (jv 2) (qd qk qg))))
     (qf (qM (qu jH (qH hT GT r1 (by rfl) (qd (jv 2) (qd qk qg))) (qk) (qC _)) (qh (qw (i:=5) Z5.nd rfl (Or.inl rfl) (qO WM (QZ Z3 (jv 5) JP (JN qk)) (QZ Z3 (jv 5) JP (JN qk))))) qE)
     (qf (qM (qu jH (qH h4 G4 r1 (by rfl) (qd (jv 4) (qd (jv 5) qg))) (qR) (qC _)) (qh (QY (i:=5) (N':=["_law_name","_law_labels_here"]) (ix:=[none,some 4]) (tt:=XV (YO rEq (YO (Yl K) (YQ (jo 1) (jo 0)) (tC (.int 0))) (tC (.str (Str.ofString "number"))))) (te:=jo 0) Z5.nd rfl (Or.inl rfl) rfl ⟨rfl,rfl,rfl,rfl,rfl⟩ (qN (jv 5)) (λC s2 H2 fp pins=>
           ⟨qA (i:=0) (show (["_law_name","_law_labels_here"]:List Str).Nodup by decide+kernel) rfl (Or.inl rfl),j7 (qu jH (qY jc (qX hu (jv 1) (jv 0) (λ_ _=>rfl)) qk (λ_ _=>rfl)) qR (qC _)),jv 0⟩))) qE)
     (qh (qM (Ji (j2 (qH hPy GPy r14 (by rfl) (qd (jv 2) (qd (jv 3) (qd (jv 4) (qd (jv 5) (qd (jv 6) qg)))))))) (qW) qE))))))))))
     (qh (qB Qe)),?_⟩
   refine⟨2,rfl,by decide,by decide,?_⟩
   refine Jw (n:=2) (λi σ H'=>∃v1 v2 v3 v4 v5 v6,σ=[some (.ref a),v1,v2,v3,v4,v5,v6]/\SqL K H' a (ns.map V.int)/\H' PT=some (.tbl #[.str zM 0])) ⟨_,_,_,_,_,_,rfl,hq,htb⟩ ?_ ?_
   . rintro i σ H' hi ⟨v1,v2,v3,v4,v5,v6,rfl,hq2,htb2⟩
     refine⟨_,rfl,_,rfl,a,ns,_,rfl,hq2,by omega,λc=>⟨c,rfl,λd n sd hd=>?_⟩⟩
     refine⟨_,rfl,by show 5<=sizeLine;decide,λlp hlp=>?_⟩
     have ndp:lp≠d:=λe=>by rw[e,qe]at hlp;cases hlp
     refine⟨_,rfl,d,5,n,sd,0,rfl,qv qe hlp,by decide,by decide,λr n1 t1 r0 r1'=>?_⟩
     obtain⟨mo,em,m0,m14⟩:=qaf r0 r1'
     refine⟨lp,_,r,_,rfl,rfl,.of (by rw[qi ndp];exact qe),em,d,mo,n1,sd,t1,rfl,qe,m0,m14,λl ps rs n2 t2 H2 hl hl2 rat good pos le hd2 fr2=>?_⟩
     have hlp':H' lp=none:=by rw[qi ndp]at hlp;exact hlp
     have sm:qo H' H2:=λb u hb=>by
       have nb:b≠d:=qr hb hd
       refine fr2 b u ?_ nb
       rw[qi nb,qi (qr hb hlp'),qi nb]
       exact hb
     have g2:jF H2 l ps rs:=⟨hl2,rat,good,pos,zac le m14⟩
     refine⟨_,rfl,l,ps,rs,rfl,g2,λH3 D' R s3 nD lb all=>?_⟩
     have D'd:D'≠d:=λe=>by rw[e,hd2]at nD;cases nD
     have hd3:=s3 _ _ hd2
     have sm3:=sm.trans s3
     have g3:=g2.mono s3
     have hq3:=hq2.mono sm3
     have tb3:=sm3 _ _ htb2
     have atG:∀{G':Hp},Fr H3 d G'->jF G' l ps rs/\jA G' D' rs R/\SqL K G' a (ns.map V.int)/\G' PT=some (.tbl #[.str zM 0]):=λfr=>⟨g3.fr' hd3 fr,lb.fr hd3 D'd fr,N4 hq3 hd3 fr,QX fr hd3 tb3 (λ_ z=>nomatch z)⟩
     refine⟨_,rfl,d,5,n2,sd,t2,rfl,hd3,by decide,by decide,λr' n3 t3 r0' r1''=>⟨_,_,rfl,rfl,1+r',rfl,by omega,by omega,λDl hDl=>?_⟩⟩
     have nDd:Dl≠d:=λe=>by rw[e,qe]at hDl;cases hDl
     have hD0:H3 Dl=none:=by rw[qi nDd]at hDl;exact hDl
     refine Jy (λi σ' H'=>∃(v:Option V) (n' t':Int) (hs:List Str),σ'=[v,some (.ref l),some (.ref d)]/\H' d=some (.dK (src n' sd t'))/\H' Dl=some (.lst (hs.map V.str))/\hs.length=i/\(∀z∈hs,∃r∈rs,r.1=z)/\Fr H3 d H')
       ⟨none,n3,t3,[],rfl,?_,qe,rfl,λ_ h=>(nomatch h),(Fr.refl.at_d).new hDl⟩ ?_ ?_
     . rw[qi (Ne.symm nDd)]
       exact qe
     . rintro i σ' H' hi ⟨v,n',t',hs,rfl,hd',hD',hl,ha,fr⟩
       have g':=g3.fr' hd3 fr
       have pl:(ps.map V.ref).length=rs.length:=by rw[tj,g3.rows.1]
       have le:=g3.le
       have ps0:=g3.pos
       refine⟨_,rfl,_,rfl,_,rfl,l,_,rfl,.inl (.of g'.at_),d,((ps.map V.ref).length:Nat),n',sd,t',rfl,hd',by rw[pl];omega,?_,λr n3 t3 r0 r1=>?_⟩
       . rw[pl]
         have:rs.length < 2^200:=zaw le (by decide)
         omega
       obtain⟨x,ex,gx⟩:=atI_get r0 r1
       obtain⟨p,qq,r',rfl,er,hr',ea,eb⟩:=g'.rows.item gx
       have ndl:l≠d:=λe=>by
         have:=g'.at_
         rw[e,hd']at this
         cases this
       have ndp:p≠d:=λe=>by rw[e,hd']at ea;cases ea
       refine⟨l,_,r,_,rfl,rfl,.of (by rw[qi ndl];exact g'.at_),ex,p,_,0,_,rfl,rfl,.of (by rw[qi ndp];exact ea),rfl,_,by rw[qi nDd];exact hD',?_,_,n3,t3,hs++[r'.1],rfl,?_,?_,?_,?_,?_⟩
       . rw[tj,hl]
         exact qp (by omega)
       . rw[qi (Ne.symm nDd)];exact qe
       . rw[qe,tI];rfl
       . rw[tK,hl];rfl
       . intro z hz
         rcases tX.mp hz with h | h
         . exact ha z h
         . obtain rfl:=zab.mp h
           exact⟨r',hr',rfl⟩
       . exact(fr.at_d).own hD0
     . rintro σ' H4 ⟨v,n4,t4,hs,rfl,hd4,hD4,hl,ha,fr4⟩
       have l5:hs.length<=5:=by omega
       refine⟨_,rfl,d,2,n4,sd,t4,rfl,hd4,by decide,by decide,λwy n5 t5 w0 w1=>?_⟩
       have fr5:Fr H4 d (upd H4 d (.dK (src n5 sd t5))):=Fr.refl.at_d
       have hd5:upd H4 d (.dK (src n5 sd t5)) d=some (.dK (src n5 sd t5)):=qe
       generalize upd H4 d (.dK (src n5 sd t5))=H5 at fr5 hd5
       have hD5:=QX fr5 hd4 hD4 (λ_ z=>nomatch z)
       refine⟨_,rfl,d,2,n5,sd,t5,rfl,hd5,by decide,by decide,λr2 n6 t6 c0 c1=>?_⟩
       have fr6:Fr H5 d (upd H5 d (.dK (src n6 sd t6))):=Fr.refl.at_d
       have hd6:upd H5 d (.dK (src n6 sd t6)) d=some (.dK (src n6 sd t6)):=qe
       generalize upd H5 d (.dK (src n6 sd t6))=H6 at fr6 hd6
       have hD6:=QX fr6 hd5 hD5 (λ_ z=>nomatch z)
       have fr36:Fr H3 d H6:=(fr4.trans fr5).trans fr6
       refine⟨rfl,_,rfl,?_⟩
       by_cases cr:r2=0
       case' pos=>
         refine jg (decide_eq_true (by rw[cr])) ⟨_,rfl,_,rfl,Dl,_,rfl,.of hD6,λp1 f1=>?_⟩
         have ec:Yo (hs.map V.str) none (some (3:Int))=(hs.take 3).map V.str:=by
           unfold Yo
           rw[HT.sIx_none,show (3:Int)=((3:Nat):Int) from rfl,HT.sIx_nat,tj,zcQ,zdl,zdE]
           by_cases c:3<=hs.length
           . rw[zcg c]
           . rw[zdg (by omega),tG (by rw[tj];omega),tG (by rw[tj];omega)]
         rw[ec]
         have s7:=ql (o:=HO.lst ((hs.take 3).map V.str)) f1
         have y7:upd H6 p1 (HO.lst ((hs.take 3).map V.str)) p1=some (.lst ((hs.take 3).map V.str)):=qe
         generalize upd H6 p1 (HO.lst ((hs.take 3).map V.str))=H7 at s7 y7
         refine⟨_,rfl,_,rfl,Dl,_,rfl,.of (s7 _ _ hD6),λp2 f2=>?_⟩
         rw[ec]
         have s8:=ql (o:=HO.lst ((hs.take 3).map V.str)) f2
         have y8:upd H7 p2 (HO.lst ((hs.take 3).map V.str)) p2=some (.lst ((hs.take 3).map V.str)):=qe
         generalize upd H7 p2 (HO.lst ((hs.take 3).map V.str))=H8 at s8 y8
         refine⟨p1,p2,_,_,rfl,rfl,.of (s8 _ _ y7),.of y8,zag (qp (by rw[tj,tS];omega)),λp3 f3=>?_⟩
         rw[<-tI]
         have s9:=ql (o:=HO.lst ((hs.take 3++hs.take 3).map V.str)) f3
         have y9:upd H8 p3 (HO.lst ((hs.take 3++hs.take 3).map V.str)) p3=some (.lst ((hs.take 3++hs.take 3).map V.str)):=qe
         generalize upd H8 p3 (HO.lst ((hs.take 3++hs.take 3).map V.str))=Gx at s9 y9
         have s69:=(s7.trans s8).trans s9
         have frx:=fr36.same s69
         have hdx:=s69 _ _ hd6
         have hx:js Gx p3 rs (hs.take 3++hs.take 3):=⟨y9,by rw[tK,tS];omega,λz hz=>ha z ((tX.mp hz).elim zbp zbp)⟩
         generalize hs.take 3++hs.take 3=hsx at hx
       case' neg=>
         refine qT (decide_eq_false λz=>cr (V.int.inj z)) ?_
         have frx:=fr36
         have hdx:=hd6
         have hx:js H6 Dl rs hs:=⟨hD6,by omega,ha⟩
         generalize H6=Gx at frx hdx hx ⊢
         generalize hs=hsx at hx
       all_goals
         obtain⟨gx,lx,qx,tx⟩:=atG frx
         refine⟨_,rfl,_,rfl,D',_,rs,R,hsx,rfl,lx,hx,Xe good all hx.in_,λG1 s1=>⟨rfl,_,rfl,?_⟩⟩
         by_cases cd:oW rs R hsx=wD
         case' pos=>
           have hx1:=hx.mono s1
           refine jg (decide_eq_true (by rw[cd];rfl)) ⟨_,rfl,_,rfl,⟨_,.of hx1.at_⟩,λW hW=>?_⟩
           refine J3 (K:=K) (xs:=hsx) (enc:=V.str) (out:=λz=>if (qG R z).isSome=true then some (V.str z) else none) (rest:=[some (.ref D')]) hW hx1.at_ (qp (zac hx1.le (by decide))) (λz hz X sX Rr hR=>?_) (λz hz v ev X sX Rr hR=>?_) (λGy s8 hW8=>?_)
           . obtain⟨kvs,hDk,_,hv⟩:=((lx.mono s1).mono sX).at_
             obtain⟨rw',hr',er⟩:=hx.in_ z hz
             obtain⟨t,et,ht⟩:=hv rw' hr'
             rw[er]at et ht
             have gd:jO X D' (.str z) (some (.ref t)):=by rw[<-et];exact jO.k (k:=(Sum.inr z:qL)) hDk
             have r:=hR X (qo.refl X)
             unfold QH at ht
             cases en:qG R z with
             | some m=>
               rw[en]at ht r
               exact⟨_,rfl,_,rfl,D',_,rfl,gd,t,_,0,_,rfl,rfl,.of ht,rfl,rfl,_,rfl,r⟩
             | none=>
               rw[en]at ht r
               refine⟨_,rfl,_,rfl,D',_,rfl,gd,t,_,0,_,rfl,rfl,.of ht,rfl,rfl,_,rfl,?_⟩
               have e:decide (V.str (Str.ofString "endless")=V.str (Str.ofString "number"))=false:=by decide+kernel
               exact e▸r
           . have ev':v=.str z:=by
               cases en:qG R z with
               | some m=>rw[en]at ev;exact(tN.inj ev).symm
               | none=>rw[en]at ev;cases ev
             subst ev'
             exact⟨_,rfl,hR X (qo.refl X)⟩
           rw[Wf]at hW8
           have s18:=s1.trans s8
           have fry:=frx.same s18
           have hdy:=s18 _ _ hdx
           have hy:js Gy W rs (hsx.filter λz=>(qG R z).isSome):=⟨hW8,zac (zas _ _) hx.le,λz hz=>hx.in_ z (zad.mp hz).1⟩
           have ndy:oW rs R (hsx.filter λz=>(qG R z).isSome)≠wD:=No λz hz=>(zad.mp hz).2
         case' neg=>
           refine qT (decide_eq_false λz=>cd (V.str.inj z)) ?_
           have fry:=frx.same s1
           have hdy:=s1 _ _ hdx
           have hy:=hx.mono s1
           have ndy:=cd
         all_goals
           obtain⟨gy,ly,qy,ty⟩:=atG fry
           refine⟨_,rfl,_,rfl,_,rfl,_,rfl,_,rfl,d,l,D',_,wy,_,sd,_,ps,rs,R,_,rfl,hdy,D'd,⟨gy,ly,all,hy⟩,ndy,⟨_,ty⟩,λG5 n' t' hd' fr'=>⟨_,rfl,jz ?_⟩⟩
           obtain⟨gz,lz,qz,tz⟩:=atG (fry.trans fr')
           exact⟨_,_,_,_,_,_,rfl,qz,tz⟩
   . rintro σ H' ⟨v1,v2,v3,v4,v5,v6,rfl,hq2,htb2⟩
     exact k _
end
open PySem L2 PyProof.Rows MLab
theorem kss {K:PySem.W.Frag}:zaR K (.type "str") (.type "str")=some true:=by kernel_rfl
theorem ktt {K:PySem.W.Frag}:zaR K (.type "tuple") (.type "tuple")=some true:=by kernel_rfl
theorem kll {K:PySem.W.Frag}:zaR K (.type "list") (.type "list")=some true:=by kernel_rfl
theorem kii {K:PySem.W.Frag}:zaR K (.type "int") (.type "int")=some true:=by kernel_rfl
theorem kib {K:PySem.W.Frag}:zaR K (.type "int") (.type "bool")=some false:=by kernel_rfl
section
variable {K:PySem.W.Frag}
def MF (K:PySem.W.Frag) (n q:Str) (s:Stmt) (f:Addr):Prop:=∃fd,jI K n q s f fd
theorem MF.mk' {x qual:Str} {st:Stmt} {f:Addr} {oc:Value} {od an:Option Addr} {osl:Array (Option Value)} {kV doc pm cdv ct:Value} (l:K.lookup f=some ⟨oc,od,.func (zbj x qual (Qz st) (jM st) (qj st) .none kV doc pm an cdv ct),osl⟩) (c:zbD K cdv qual=true) (k:zaC K (.ref f)=true):MF K x qual st f:=⟨_,W2 l c k⟩
def HF (K:PySem.W.Frag) (n:Str) (s:Stmt) (f:Addr):Prop:=zae K mainGlobals n=some (some (.ref f))/\MF K n n s f
theorem HF.mk' {x:Str} {st:Stmt} {f:Addr} {oc:Value} {od an:Option Addr} {osl:Array (Option Value)} {kV doc pm cdv ct:Value} (a:zae K mainGlobals x=some (some (.ref f))) (l:K.lookup f=some ⟨oc,od,.func (zbj x x (Qz st) (jM st) (qj st) .none kV doc pm an cdv ct),osl⟩) (c:zbD K cdv x=true) (k:zaC K (.ref f)=true):HF K x st f:=⟨a,_,W2 l c k⟩
theorem HF.has {h:Heap} {mg:Str->Option Value} {n:Str} {s:Stmt} {f:Addr} {ps:List Str} (l:HF K n s f) (X:K.In h) (G:h.Ns mainGlobals mg) (b:∀{fd},jI K n n s f fd->jG K fd ps []):∃fd,qU K mg n s ps f fd:=let ⟨a,fd,F⟩:=l;⟨fd,F,zaN X G a,b F⟩
end
def MA (es:Array DictEntry):Bool:=es.all λe=>match e.key with | .str _ _=>true | _=>false
theorem uW {es:Array DictEntry} (h:MA es=true):StrKeys es:=by
 intro e he
 have q:=Array.all_eq_true'.mp h e he
 revert q
 cases hk:e.key<;>intro q<;>first | exact⟨_,_,rfl⟩ | (dsimp only at q;cases q)
section
variable {K:PySem.W.Frag} {mg:Str->Option Value} {D C f:Addr} {x qual fld:Str} {st:Stmt}
theorem NY {h:Heap} {fd:FuncData} {nm q:Str} {N:Addr} {bs:List Value} {hdct:Bool} {sn:List Str} {sub:List Value} {ab:Bool} {col:Option Bool} {dd:Option Addr} {k0 k1 k2 k3 k5:Option Value}
   (X:K.In h) (G:h.Ns mainGlobals mg) (tl:∀h:Heap,K.In h->OwnTail h Ja (.ref D::Ja)) (F:jI K "__init__" qual st f fd) (b:jG K fd ["self",fld] [])
   (a1:zae K mainGlobals x=some (some (.ref C)))
   (a2:K.lookup C=some (excClassObj nm q C N bs (.ref D::Ja) hdct sn sub ab col dd k0 k1 k2 k3 k5 "ValueError.__new__"))
   (a3:tR K (.ref C) "__init__"=some (some (.ref f))) (a4:zaI K (.ref f)=true) (a5:zaC K (.ref C)=true)
   (a6:tR K (.ref C) "__getattribute__"=some (some (.builtin "BaseException.__getattribute__"))) (a7:tR K (.ref C) "__getattr__"=some none)
   (a8:tR K (.ref C) "__setattr__"=some (some (.builtin "object.__setattr__"))) (a9:zbc K C=true)
   (a10:zbz K C (.type "BaseException")=some true) (a11:zbz K C (.type "object")=some true)
   (a12:tR K (.ref C) "__class__"=some (some (.builtin "object.__class__"))) (a13:tR K (.ref C) fld=some none):RK K mg D x qual st fld C f fd:=
 ⟨⟨a6,a7,a8,a9,⟨_,by unfold PySem.W.clsIn;rw[a2],rfl⟩,a10,a11,a12⟩,⟨⟨nm,q,N,bs,hdct,sn,sub,ab,col,dd,k0,k1,k2,k3,k5,a2⟩,tl,a3,a4,a5⟩,zaN X G a1,a13,F,b⟩
end
theorem at0 {a:Addr} {l:List Addr}:(a::l)[0]?=some a:=rfl
def Ut (K:PySem.W.Frag) (tabs:List Ue):Sp:=λvs H Q _=>∃(a:Addr) (ns:List Int),vs=[.ref a]/\SqL K H a (ns.map V.int)/\ns.length<=63/\(∀t∈tabs,H t.P=some (.tbl #[.str t.q 0]))/\∀H',Q (.bl true) H'
theorem all_mk {l:PySem.W.OpenLaw} {w:World} {K:PySem.W.Frag} {h:Heap} {mg:Str->Option Value} {fa:Addr} (X:K.In h) (G:h.Ns mainGlobals mg) (hfa:mg "law"=some (.ref fa))
   {fO fL fT fN fD fR fA1 fA2 fA3 fA4 fA5 fA6 fA7 fA8 fB1 fB2 fB3 fB4 fB5 fB6 fB7 fB8 fW1 fW2 fW3 fW4 fW5 fW6 fP1 fP2 fP3 fP4 fP5 fP6 fP7 fP8 fQ1 fQ2 fQ3 fQ5 fQ6 fQ7 fE2 fE3 fE4 fE5 fE6 fE7 fE8 fEB fEC fED fEE fCGi fCGM fCGF fCNi fCNO fCNP fCNE fCEi fCEO fCEP fCEE CNotSo fNotSo:Addr}
   {fLAW:Addr} {odLAW anLAW:Option Addr} {slLAW:Array (Option Value)} {ocLAW kVLAW dcLAW pmLAW cdLAW ctLAW:Value}
   {CG:Addr}
   {CN:Addr}
   {CE:Addr}
   {tm1:Tok}
   {tm2:Tok}
   {tm3:Tok}
   {tm4:Tok}
   {tm5:Tok}
   {tm6:Tok}
   {tm7:Tok}
   {D:Addr} {nmHE qHE:Str} {NHE:Addr} {bsHE subHE:List Value} {hdctHE abHE:Bool} {snHE:List Str} {colHE:Option Bool} {ddHE:Option Addr} {kaHE kbHE kcHE kdHE keHE:Option Value} {oHN:Value} {dHN:Option Addr} {es:Array DictEntry} {ep:Nat} {slHN:Array (Option Value)}
   {nmNotSo qNotSo:Str} {NNotSo:Addr} {bsNotSo subNotSo:List Value} {hdctNotSo abNotSo:Bool} {snNotSo:List Str} {colNotSo:Option Bool} {ddNotSo:Option Addr} {kaNotSo kbNotSo kcNotSo kdNotSo keNotSo:Option Value}
   {ts:List Addr} {fMK cMK PMK:Addr} {ocMK kVMK dcMK pmMK ctMK oc2MK:Value} {odMK anMK od2MK:Option Addr} {slMK sl2MK:Array (Option Value)} {vsMK:Array Value}
   (lO:HF K "_law_cell_at" vG fO)
   (lL:HF K "_law_source" YC fL)
   (lT:HF K "_law_take" Yc fT)
   (lN:HF K "_law_names" YY fN)
   (lD:HF K "_law_leads" Y0 fD)
   (lR:HF K "_law_rows" vy fR)
   (lA1:HF K "is_name" Z8 fA1)
   (lA2:HF K "is_tuple_of_names" X0 fA2)
   (lA3:HF K "is_row" Y2 fA3)
   (lA4:HF K "need_form" vD fA4)
   (lA5:HF K "need_own_names" Kj fA5)
   (lA6:HF K "need_ends" vE fA6)
   (lA7:HF K "need_few_roads" Kk fA7)
   (lA8:HF K "need_rows" Vs fA8)
   (lB1:HF K "lacking" QB fB1)
   (lB2:HF K "set_of" zJ fB2)
   (lB3:HF K "numbers_behind" Rv fB3)
   (lB4:HF K "gets_number" Y3 fB4)
   (lB5:HF K "round_of" zK fB5)
   (lB6:HF K "give_number" Vy fB6)
   (lB7:HF K "give_numbers" WC fB7)
   (lB8:HF K "labels_of" JD fB8)
   (lW1:HF K "is_whole" Ze fW1)
   (lW2:HF K "is_number" Z7 fW2)
   (lW3:HF K "is_set" Y1 fW3)
   (lW4:HF K "set_turned" YB fW4)
   (lW5:HF K "numbers_in" YX fW5)
   (lW6:HF K "sum_of" YW fW6)
   (lP1:HF K "need_place" zL fP1)
   (lP2:HF K "need_heap" Zf fP2)
   (lP3:HF K "label_worth" MU fP3)
   (lP4:HF K "worth_by" Ki fP4)
   (lP5:HF K "moves_of" Zg fP5)
   (lP6:HF K "left_by" Yd fP6)
   (lP7:HF K "outcome_by" kN fP7)
   (lP8:HF K "outcomes_by" vA fP8)
   (lQ1:HF K "winning_by" zI fQ1)
   (lQ2:HF K "count_by" Jf fQ2)
   (lQ3:HF K "need_outcome_by" ZP fQ3)
   (lQ5:HF K "count_of" Y6 fQ5)
   (lQ6:HF K "winner" Z6 fQ6)
   (lQ7:HF K "most_moves" Vu fQ7)
   (lE2:HF K "_law_numbers" Jo fE2)
   (lE3:HF K "_law_comes" Zv fE3)
   (lE4:HF K "_law_back" ZQ fE4)
   (lE5:HF K "_law_labels" za fE5)
   (lE6:HF K "_law_outcome" Vv fE6)
   (lE7:HF K "_law_moves" Zu fE7)
   (lE8:HF K "_law_after" Vw fE8)
   (lEB:HF K "_law_steps" Z9 fEB)
   (lEC:HF K "_law_harm" Vx fEC)
   (lED:HF K "_law_answer" xA fED)
   (lEE:HF K "_law_play" vz fEE)
   (aLAW:zae K mainGlobals "law"=some (some (.ref fLAW)))
   (lLAW:K.lookup fLAW=some ⟨ocLAW,odLAW,.func (zbj "law" "law" (Qz WB) (jM WB) (qj WB) .none kVLAW dcLAW pmLAW anLAW cdLAW ctLAW),slLAW⟩)
   (cLAW:zbD K cdLAW "law"=true)
   (kLAW:zaC K (.ref fLAW)=true)
   (nCG:zae K mainGlobals "Ground"=some (some (.ref CG)))
   (pgCG:zbt K CG Str.empty=true)
   (hdCG:zbc K CG=true)
   (poCG:zbO K CG=true)
   (saCG:tR K (.ref CG) "__setattr__"=some (some (.builtin "object.__setattr__")))
   (mkCG:zce K CG=true)
   (inCG:tR K (.ref CG) "__init__"=some (some (.ref fCGi)))
   (fiCG:zaI K (.ref fCGi)=true)
   (kcCG:zaC K (.ref CG)=true)
   (noCG:tR K (.ref CG) "order"=some none)
   (nrCG:tR K (.ref CG) "roads"=some none)
   (lCGi:MF K "__init__" "Ground.__init__" UB fCGi)
   (atCGM:tR K (.ref CG) "names"=some (some (.ref fCGM)))
   (fnCGM:zaI K (.ref fCGM)=true)
   (lCGM:MF K "names" "Ground.names" zc fCGM)
   (atCGF:tR K (.ref CG) "roads_from"=some (some (.ref fCGF)))
   (fnCGF:zaI K (.ref fCGF)=true)
   (lCGF:MF K "roads_from" "Ground.roads_from" Y4 fCGF)
   (nCN:zae K mainGlobals "Numbered"=some (some (.ref CN)))
   (pgCN:zbt K CN Str.empty=true)
   (hdCN:zbc K CN=true)
   (poCN:zbO K CN=true)
   (saCN:tR K (.ref CN) "__setattr__"=some (some (.builtin "object.__setattr__")))
   (mkCN:zce K CN=true)
   (inCN:tR K (.ref CN) "__init__"=some (some (.ref fCNi)))
   (fiCN:zaI K (.ref fCNi)=true)
   (kcCN:zaC K (.ref CN)=true)
   (naCN:tR K (.ref CN) "number"=some none)
   (lCNi:MF K "__init__" "Numbered.__init__" YZ fCNi)
   (caCN:tR K (.ref CN) "__class__"=some (some (.builtin "object.__class__")))
   (obCN:zbz K CN (.type "object")=some true)
   (atCNO:tR K (.ref CN) "outcome"=some (some (.ref fCNO)))
   (fnCNO:zaI K (.ref fCNO)=true)
   (lCNO:MF K "outcome" "Numbered.outcome" vC fCNO)
   (atCNP:tR K (.ref CN) "plus"=some (some (.ref fCNP)))
   (fnCNP:zaI K (.ref fCNP)=true)
   (lCNP:MF K "plus" "Numbered.plus" WA fCNP)
   (atCNE:tR K (.ref CN) "is_endless"=some (some (.ref fCNE)))
   (fnCNE:zaI K (.ref fCNE)=true)
   (lCNE:MF K "is_endless" "Numbered.is_endless" Vt fCNE)
   (nCE:zae K mainGlobals "Endless"=some (some (.ref CE)))
   (pgCE:zbt K CE Str.empty=true)
   (hdCE:zbc K CE=true)
   (poCE:zbO K CE=true)
   (saCE:tR K (.ref CE) "__setattr__"=some (some (.builtin "object.__setattr__")))
   (mkCE:zce K CE=true)
   (inCE:tR K (.ref CE) "__init__"=some (some (.ref fCEi)))
   (fiCE:zaI K (.ref fCEi)=true)
   (kcCE:zaC K (.ref CE)=true)
   (naCE:tR K (.ref CE) "bits"=some none)
   (lCEi:MF K "__init__" "Endless.__init__" Y5 fCEi)
   (caCE:tR K (.ref CE) "__class__"=some (some (.builtin "object.__class__")))
   (obCE:zbz K CE (.type "object")=some true)
   (atCEO:tR K (.ref CE) "outcome"=some (some (.ref fCEO)))
   (fnCEO:zaI K (.ref fCEO)=true)
   (lCEO:MF K "outcome" "Endless.outcome" vF fCEO)
   (atCEP:tR K (.ref CE) "plus"=some (some (.ref fCEP)))
   (fnCEP:zaI K (.ref fCEP)=true)
   (lCEP:MF K "plus" "Endless.plus" WD fCEP)
   (atCEE:tR K (.ref CE) "is_endless"=some (some (.ref fCEE)))
   (fnCEE:zaI K (.ref fCEE)=true)
   (lCEE:MF K "is_endless" "Endless.is_endless" Vz fCEE)
   (zlen:zae K mainGlobals "len"=some none)
   (zmax:zae K mainGlobals "max"=some none)
   (zmin:zae K mainGlobals "min"=some none)
   (zint:zae K mainGlobals "int"=some none)
   (zrange:zae K mainGlobals "range"=some none)
   (zisinstance:zae K mainGlobals "isinstance"=some none)
   (zstr:zae K mainGlobals "str"=some none)
   (zall:zae K mainGlobals "all"=some none)
   (zenumerate:zae K mainGlobals "enumerate"=some none)
   (zsum:zae K mainGlobals "sum"=some none)
   (zsorted:zae K mainGlobals "sorted"=some none)
   (zlist:zae K mainGlobals "list"=some none)
   (zreversed:zae K mainGlobals "reversed"=some none)
   (zset:zae K mainGlobals "set"=some none)
   (ztuple:zae K mainGlobals "tuple"=some none)
   (zdict:zae K mainGlobals "dict"=some none)
   (zbool:zae K mainGlobals "bool"=some none)
   (m1:zae K mainGlobals "LETTERS"=some (some (.str "abcdefghijklmnopqrstuvwxyz" tm1)))
   (m2:zae K mainGlobals "LONGEST_NAME"=some (some (.int 8 tm2)))
   (m3:zae K mainGlobals "MOST_PLACES"=some (some (.int 14 tm3)))
   (m4:zae K mainGlobals "MOST_ROADS"=some (some (.int 40 tm4)))
   (m5:zae K mainGlobals "MOST_NUMBER"=some (some (.int 15 tm5)))
   (m6:zae K mainGlobals "MOST_BITS"=some (some (.int 65535 tm6)))
   (m7:zae K mainGlobals "MOST_TOKENS"=some (some (.int 8 tm7)))
   (aHE:zae K mainGlobals "HeapError"=some (some (.ref D)))
   (oHE:K.lookup D=some (excClassObj nmHE qHE D NHE bsHE Ja hdctHE snHE subHE abHE colHE ddHE kaHE kbHE kcHE kdHE keHE "ValueError.__new__"))
   (nHE:K.lookup NHE=some ⟨oHN,dHN,.dict es ep,slHN⟩)
   (skHE:MA es=true)
   (niHE:nsFind es (Str.ofString "__init__")=none)
   (a1NotSo:zae K mainGlobals "NotSo"=some (some (.ref CNotSo)))
   (a2NotSo:K.lookup CNotSo=some (excClassObj nmNotSo qNotSo CNotSo NNotSo bsNotSo (.ref D::Ja) hdctNotSo snNotSo subNotSo abNotSo colNotSo ddNotSo kaNotSo kbNotSo kcNotSo kdNotSo keNotSo "ValueError.__new__"))
   (a3NotSo:tR K (.ref CNotSo) "__init__"=some (some (.ref fNotSo)))
   (a4NotSo:zaI K (.ref fNotSo)=true)
   (lNotSo:MF K "__init__" "NotSo.__init__" ZO fNotSo)
   (a5NotSo:zaC K (.ref CNotSo)=true)
   (a6NotSo:tR K (.ref CNotSo) "__getattribute__"=some (some (.builtin "BaseException.__getattribute__")))
   (a7NotSo:tR K (.ref CNotSo) "__getattr__"=some none)
   (a8NotSo:tR K (.ref CNotSo) "__setattr__"=some (some (.builtin "object.__setattr__")))
   (a9NotSo:zbc K CNotSo=true)
   (a10NotSo:zbz K CNotSo (.type "BaseException")=some true)
   (a11NotSo:zbz K CNotSo (.type "object")=some true)
   (a12NotSo:tR K (.ref CNotSo) "__class__"=some (some (.builtin "object.__class__")))
   (a13NotSo:tR K (.ref CNotSo) "found"=some none)
   (spc:zcY K (.builtin "object.__class__") "__get__"=some (some (.builtin "getset_descriptor.__get__")))
   (tks:zdT K (.builtin "object.__class__")=some true)
   (iMK:ts[0]?=some PMK)
   (aMK:zae K mainGlobals "winner_by"=some (some (.ref fMK)))
   (lMK:K.lookup fMK=some ⟨ocMK,odMK,.func (zbj "winner_by" "winner_by" (Qz QS) (jM QS) (qj QS) .none kVMK dcMK pmMK anMK (.ref cMK) ctMK),slMK⟩)
   (cdMK:zbD K (.ref cMK) "winner_by"=true)
   (kMK:zaC K (.ref fMK)=true)
   (tMK:K.lookup cMK=some ⟨oc2MK,od2MK,.fields vsMK,sl2MK⟩)
   (pMK:vsMK[11]?=some (.ref PMK))
   (hMKc:zcy K cMK PMK=true)
   (ne:CN≠CE)
   :
   ∃(tabs:List Ue) (fd:FuncData),(tabs.map (·.P)).Nodup/\(∀t∈tabs,t.P∈ts/\zcy K t.c t.P=true)/\(∀(s:Shared) (v:Value),BindsTo s fd ⟨[v],[]⟩ [("_law_script",v)])/\∀base:Heap,K.In base->base.Ns mainGlobals mg->(∀t∈tabs,Ud mg base t.c t.P)->qm l.prog w K mg base qK 15 fa fd ["_law_script"] (Ut K tabs):=by
 have e:=hfa.symm.trans (zaN X G aLAW)
 cases e
 obtain⟨_,hO⟩:=lO.has (ps:=["_law_script","_law_k"]) X G λF=>F.binds λ_ _ _ _ _ _ us hl=>by obtain⟨_,_,rfl⟩:=Qk hl;rfl
 obtain⟨_,hL⟩:=lL.has (ps:=["_law_cell"]) X G λF=>F.binds λ_ _ _ _ _ _ us hl=>by obtain⟨_,rfl⟩:=QD hl;rfl
 obtain⟨_,hT⟩:=lT.has (ps:=["_law_source_here","_law_many"]) X G λF=>F.binds λ_ _ _ _ _ _ us hl=>by obtain⟨_,_,rfl⟩:=Qk hl;rfl
 obtain⟨_,hN⟩:=lN.has (ps:=["_law_source_here","_law_many"]) X G λF=>F.binds λ_ _ _ _ _ _ us hl=>by obtain⟨_,_,rfl⟩:=Qk hl;rfl
 obtain⟨_,hD⟩:=lD.has (ps:=["_law_source_here","_law_many","_law_shape","_law_low"]) X G λF=>F.binds λ_ _ _ _ _ _ us hl=>by obtain⟨_,_,_,_,rfl⟩:=wF hl;rfl
 obtain⟨_,hR⟩:=lR.has (ps:=["_law_source_here","_law_most"]) X G λF=>F.binds λ_ _ _ _ _ _ us hl=>by obtain⟨_,_,rfl⟩:=Qk hl;rfl
 obtain⟨_,hA1⟩:=lA1.has (ps:=["thing"]) X G λF=>F.binds λ_ _ _ _ _ _ us hl=>by obtain⟨_,rfl⟩:=QD hl;rfl
 obtain⟨_,hA2⟩:=lA2.has (ps:=["thing"]) X G λF=>F.binds λ_ _ _ _ _ _ us hl=>by obtain⟨_,rfl⟩:=QD hl;rfl
 obtain⟨_,hA3⟩:=lA3.has (ps:=["thing"]) X G λF=>F.binds λ_ _ _ _ _ _ us hl=>by obtain⟨_,rfl⟩:=QD hl;rfl
 obtain⟨_,hA4⟩:=lA4.has (ps:=["rows"]) X G λF=>F.binds λ_ _ _ _ _ _ us hl=>by obtain⟨_,rfl⟩:=QD hl;rfl
 obtain⟨_,hA5⟩:=lA5.has (ps:=["order"]) X G λF=>F.binds λ_ _ _ _ _ _ us hl=>by obtain⟨_,rfl⟩:=QD hl;rfl
 obtain⟨_,hA6⟩:=lA6.has (ps:=["ends","order"]) X G λF=>F.binds λ_ _ _ _ _ _ us hl=>by obtain⟨_,_,rfl⟩:=Qk hl;rfl
 obtain⟨_,hA7⟩:=lA7.has (ps:=["rows"]) X G λF=>F.binds λ_ _ _ _ _ _ us hl=>by obtain⟨_,rfl⟩:=QD hl;rfl
 obtain⟨_,hA8⟩:=lA8.has (ps:=["rows"]) X G λF=>F.binds λ_ _ _ _ _ _ us hl=>by obtain⟨_,rfl⟩:=QD hl;rfl
 obtain⟨_,hB1⟩:=lB1.has (ps:=["numbers"]) X G λF=>F.binds λ_ _ _ _ _ _ us hl=>by obtain⟨_,rfl⟩:=QD hl;rfl
 obtain⟨_,hB2⟩:=lB2.has (ps:=["numbers"]) X G λF=>F.binds λ_ _ _ _ _ _ us hl=>by obtain⟨_,rfl⟩:=QD hl;rfl
 obtain⟨_,hB3⟩:=lB3.has (ps:=["ground","numbered","name"]) X G λF=>F.binds λ_ _ _ _ _ _ us hl=>by obtain⟨_,_,_,rfl⟩:=WT hl;rfl
 obtain⟨_,hB4⟩:=lB4.has (ps:=["ground","numbered","name","number"]) X G λF=>F.binds λ_ _ _ _ _ _ us hl=>by obtain⟨_,_,_,_,rfl⟩:=wF hl;rfl
 obtain⟨_,hB5⟩:=lB5.has (ps:=["ground","numbered","number"]) X G λF=>F.binds λ_ _ _ _ _ _ us hl=>by obtain⟨_,_,_,rfl⟩:=WT hl;rfl
 obtain⟨_,hB6⟩:=lB6.has (ps:=["ground","numbered","number"]) X G λF=>F.binds λ_ _ _ _ _ _ us hl=>by obtain⟨_,_,_,rfl⟩:=WT hl;rfl
 obtain⟨_,hB7⟩:=lB7.has (ps:=["ground","numbered"]) X G λF=>F.binds λ_ _ _ _ _ _ us hl=>by obtain⟨_,_,rfl⟩:=Qk hl;rfl
 obtain⟨_,hB8⟩:=lB8.has (ps:=["ground"]) X G λF=>F.binds λ_ _ _ _ _ _ us hl=>by obtain⟨_,rfl⟩:=QD hl;rfl
 obtain⟨_,hW1⟩:=lW1.has (ps:=["thing"]) X G λF=>F.binds λ_ _ _ _ _ _ us hl=>by obtain⟨_,rfl⟩:=QD hl;rfl
 obtain⟨_,hW2⟩:=lW2.has (ps:=["thing"]) X G λF=>F.binds λ_ _ _ _ _ _ us hl=>by obtain⟨_,rfl⟩:=QD hl;rfl
 obtain⟨_,hW3⟩:=lW3.has (ps:=["thing"]) X G λF=>F.binds λ_ _ _ _ _ _ us hl=>by obtain⟨_,rfl⟩:=QD hl;rfl
 obtain⟨_,hW4⟩:=lW4.has (ps:=["bits","number"]) X G λF=>F.binds λ_ _ _ _ _ _ us hl=>by obtain⟨_,_,rfl⟩:=Qk hl;rfl
 obtain⟨_,hW5⟩:=lW5.has (ps:=["bits"]) X G λF=>F.binds λ_ _ _ _ _ _ us hl=>by obtain⟨_,rfl⟩:=QD hl;rfl
 obtain⟨_,hW6⟩:=lW6.has (ps:=["worths"]) X G λF=>F.binds λ_ _ _ _ _ _ us hl=>by obtain⟨_,rfl⟩:=QD hl;rfl
 obtain⟨_,hP1⟩:=lP1.has (ps:=["ground","thing"]) X G λF=>F.binds λ_ _ _ _ _ _ us hl=>by obtain⟨_,_,rfl⟩:=Qk hl;rfl
 obtain⟨_,hP2⟩:=lP2.has (ps:=["ground","heap"]) X G λF=>F.binds λ_ _ _ _ _ _ us hl=>by obtain⟨_,_,rfl⟩:=Qk hl;rfl
 obtain⟨_,hP3⟩:=lP3.has (ps:=["label"]) X G λF=>F.binds λ_ _ _ _ _ _ us hl=>by obtain⟨_,rfl⟩:=QD hl;rfl
 obtain⟨_,hP4⟩:=lP4.has (ps:=["labels","heap"]) X G λF=>F.binds λ_ _ _ _ _ _ us hl=>by obtain⟨_,_,rfl⟩:=Qk hl;rfl
 obtain⟨_,hP5⟩:=lP5.has (ps:=["ground","heap"]) X G λF=>F.binds λ_ _ _ _ _ _ us hl=>by obtain⟨_,_,rfl⟩:=Qk hl;rfl
 obtain⟨_,hP6⟩:=lP6.has (ps:=["heap","move"]) X G λF=>F.binds λ_ _ _ _ _ _ us hl=>by obtain⟨_,_,rfl⟩:=Qk hl;rfl
 obtain⟨_,hP7⟩:=lP7.has (ps:=["labels","heap"]) X G λF=>F.binds λ_ _ _ _ _ _ us hl=>by obtain⟨_,_,rfl⟩:=Qk hl;rfl
 obtain⟨_,hP8⟩:=lP8.has (ps:=["ground","labels","heap"]) X G λF=>F.binds λ_ _ _ _ _ _ us hl=>by obtain⟨_,_,_,rfl⟩:=WT hl;rfl
 obtain⟨_,hQ1⟩:=lQ1.has (ps:=["ground","labels","heap"]) X G λF=>F.binds λ_ _ _ _ _ _ us hl=>by obtain⟨_,_,_,rfl⟩:=WT hl;rfl
 obtain⟨_,hQ2⟩:=lQ2.has (ps:=["labels","heap"]) X G λF=>F.binds λ_ _ _ _ _ _ us hl=>by obtain⟨_,_,rfl⟩:=Qk hl;rfl
 obtain⟨_,hQ3⟩:=lQ3.has (ps:=["labels","heap","wanted"]) X G λF=>F.binds λ_ _ _ _ _ _ us hl=>by obtain⟨_,_,_,rfl⟩:=WT hl;rfl
 obtain⟨_,hQ5⟩:=lQ5.has (ps:=["ground","heap"]) X G λF=>F.binds λ_ _ _ _ _ _ us hl=>by obtain⟨_,_,rfl⟩:=Qk hl;rfl
 obtain⟨_,hQ6⟩:=lQ6.has (ps:=["ground","heap"]) X G λF=>F.binds λ_ _ _ _ _ _ us hl=>by obtain⟨_,_,rfl⟩:=Qk hl;rfl
 obtain⟨_,hQ7⟩:=lQ7.has (ps:=["ground","heap"]) X G λF=>F.binds λ_ _ _ _ _ _ us hl=>by obtain⟨_,_,rfl⟩:=Qk hl;rfl
 obtain⟨_,hE2⟩:=lE2.has (ps:=["_law_rows_here"]) X G λF=>F.binds λ_ _ _ _ _ _ us hl=>by obtain⟨_,rfl⟩:=QD hl;rfl
 obtain⟨_,hE3⟩:=lE3.has (ps:=["_law_roads","_law_found","_law_name","_law_number"]) X G λF=>F.binds λ_ _ _ _ _ _ us hl=>by obtain⟨_,_,_,_,rfl⟩:=wF hl;rfl
 obtain⟨_,hE4⟩:=lE4.has (ps:=["_law_roads","_law_found","_law_name","_law_number"]) X G λF=>F.binds λ_ _ _ _ _ _ us hl=>by obtain⟨_,_,_,_,rfl⟩:=wF hl;rfl
 obtain⟨_,hE5⟩:=lE5.has (ps:=["_law_rows_here"]) X G λF=>F.binds λ_ _ _ _ _ _ us hl=>by obtain⟨_,rfl⟩:=QD hl;rfl
 obtain⟨_,hE6⟩:=lE6.has (ps:=["_law_labels_here","_law_heap_here"]) X G λF=>F.binds λ_ _ _ _ _ _ us hl=>by obtain⟨_,_,rfl⟩:=Qk hl;rfl
 obtain⟨_,hE7⟩:=lE7.has (ps:=["_law_rows_here","_law_heap_here"]) X G λF=>F.binds λ_ _ _ _ _ _ us hl=>by obtain⟨_,_,rfl⟩:=Qk hl;rfl
 obtain⟨_,hE8⟩:=lE8.has (ps:=["_law_heap_here","_law_move"]) X G λF=>F.binds λ_ _ _ _ _ _ us hl=>by obtain⟨_,_,rfl⟩:=Qk hl;rfl
 obtain⟨_,hEB⟩:=lEB.has (ps:=["_law_labels_here","_law_heap_here"]) X G λF=>F.binds λ_ _ _ _ _ _ us hl=>by obtain⟨_,_,rfl⟩:=Qk hl;rfl
 obtain⟨_,hEC⟩:=lEC.has (ps:=["_law_labels_here","_law_heap_here","_law_move"]) X G λF=>F.binds λ_ _ _ _ _ _ us hl=>by obtain⟨_,_,_,rfl⟩:=WT hl;rfl
 obtain⟨_,hED⟩:=lED.has (ps:=["_law_source_here","_law_rows_here","_law_labels_here","_law_heap_here","_law_way"]) X G λF=>F.binds λ_ _ _ _ _ _ us hl=>by obtain⟨_,_,_,_,_,rfl⟩:=qag hl;rfl
 obtain⟨_,hEE⟩:=lEE.has (ps:=["_law_source_here","_law_rows_here","_law_labels_here","_law_heap_here","_law_way"]) X G λF=>F.binds λ_ _ _ _ _ _ us hl=>by obtain⟨_,_,_,_,_,rfl⟩:=qag hl;rfl
 have FLAW:=W2 (st:=WB) lLAW cLAW kLAW
 obtain⟨_,FiCG⟩:=lCGi
 have clCG:Mm K mg CG fCGi _:=⟨⟨pgCG,hdCG,poCG,saCG⟩,⟨mkCG,inCG,fiCG,kcCG⟩,zaN X G nCG,noCG,nrCG,FiCG,FiCG.binds (ps:=["self","rows"]) λ_ _ _ _ _ _ us hl=>by obtain⟨_,_,rfl⟩:=Qk hl;rfl⟩
 obtain⟨_,FCGM⟩:=lCGM
 have mCGM:Vb K CG "names" "Ground.names" zc ["self"] fCGM _:=⟨FCGM,⟨atCGM,fnCGM,FCGM.kp⟩,FCGM.binds (ps:=["self"]) λ_ _ _ _ _ _ us hl=>by obtain⟨_,rfl⟩:=QD hl;rfl⟩
 obtain⟨_,FCGF⟩:=lCGF
 have mCGF:Vb K CG "roads_from" "Ground.roads_from" Y4 ["self","name"] fCGF _:=⟨FCGF,⟨atCGF,fnCGF,FCGF.kp⟩,FCGF.binds (ps:=["self","name"]) λ_ _ _ _ _ _ us hl=>by obtain⟨_,_,rfl⟩:=Qk hl;rfl⟩
 obtain⟨_,FiCN⟩:=lCNi
 have clCN:Cl K mg "Numbered" "Numbered.__init__" "number" YZ CN fCNi _:=⟨⟨pgCN,hdCN,poCN,saCN⟩,⟨mkCN,inCN,fiCN,kcCN⟩,zaN X G nCN,naCN,FiCN,FiCN.binds (ps:=["self","number"]) λ_ _ _ _ _ _ us hl=>by obtain⟨_,_,rfl⟩:=Qk hl;rfl,caCN,obCN⟩
 obtain⟨_,FCNO⟩:=lCNO
 have mCNO:Vb K CN "outcome" "Numbered.outcome" vC ["self"] fCNO _:=⟨FCNO,⟨atCNO,fnCNO,FCNO.kp⟩,FCNO.binds (ps:=["self"]) λ_ _ _ _ _ _ us hl=>by obtain⟨_,rfl⟩:=QD hl;rfl⟩
 obtain⟨_,FCNP⟩:=lCNP
 have mCNP:Vb K CN "plus" "Numbered.plus" WA ["self","other"] fCNP _:=⟨FCNP,⟨atCNP,fnCNP,FCNP.kp⟩,FCNP.binds (ps:=["self","other"]) λ_ _ _ _ _ _ us hl=>by obtain⟨_,_,rfl⟩:=Qk hl;rfl⟩
 obtain⟨_,FCNE⟩:=lCNE
 have mCNE:Vb K CN "is_endless" "Numbered.is_endless" Vt ["self"] fCNE _:=⟨FCNE,⟨atCNE,fnCNE,FCNE.kp⟩,FCNE.binds (ps:=["self"]) λ_ _ _ _ _ _ us hl=>by obtain⟨_,rfl⟩:=QD hl;rfl⟩
 obtain⟨_,FiCE⟩:=lCEi
 have clCE:Cl K mg "Endless" "Endless.__init__" "bits" Y5 CE fCEi _:=⟨⟨pgCE,hdCE,poCE,saCE⟩,⟨mkCE,inCE,fiCE,kcCE⟩,zaN X G nCE,naCE,FiCE,FiCE.binds (ps:=["self","bits"]) λ_ _ _ _ _ _ us hl=>by obtain⟨_,_,rfl⟩:=Qk hl;rfl,caCE,obCE⟩
 obtain⟨_,FCEO⟩:=lCEO
 have mCEO:Vb K CE "outcome" "Endless.outcome" vF ["self"] fCEO _:=⟨FCEO,⟨atCEO,fnCEO,FCEO.kp⟩,FCEO.binds (ps:=["self"]) λ_ _ _ _ _ _ us hl=>by obtain⟨_,rfl⟩:=QD hl;rfl⟩
 obtain⟨_,FCEP⟩:=lCEP
 have mCEP:Vb K CE "plus" "Endless.plus" WD ["self","other"] fCEP _:=⟨FCEP,⟨atCEP,fnCEP,FCEP.kp⟩,FCEP.binds (ps:=["self","other"]) λ_ _ _ _ _ _ us hl=>by obtain⟨_,_,rfl⟩:=Qk hl;rfl⟩
 obtain⟨_,FCEE⟩:=lCEE
 have mCEE:Vb K CE "is_endless" "Endless.is_endless" Vz ["self"] fCEE _:=⟨FCEE,⟨atCEE,fnCEE,FCEE.kp⟩,FCEE.binds (ps:=["self"]) λ_ _ _ _ _ _ us hl=>by obtain⟨_,rfl⟩:=QD hl;rfl⟩
 have tl:∀h:Heap,K.In h->OwnTail h Ja (.ref D::Ja):=λh X=>.own (X _ _ oHE) ⟨_,es,ep,X _ _ nHE,rfl,uW skHE,λ_=>rfl⟩ niHE .base
 have ccD:qbJ K D:=⟨Ja,⟨_,_,_,_,_,_,_,_,_,_,_,_,_,_,_,oHE⟩,rfl⟩
 obtain⟨_,FNotSo⟩:=lNotSo
 have xNotSo:RK K mg D "NotSo" "NotSo.__init__" ZO "found" CNotSo fNotSo _:=NY X G tl FNotSo (FNotSo.binds (ps:=["self","found"]) λ_ _ _ _ _ _ us hl=>by obtain⟨_,_,rfl⟩:=Qk hl;rfl) a1NotSo a2NotSo a3NotSo a4NotSo a5NotSo a6NotSo a7NotSo a8NotSo a9NotSo a10NotSo a11NotSo a12NotSo a13NotSo
 have B:QL mg:=⟨zah X G zlen,zah X G zmax,zah X G zmin,zah X G zint,zah X G zrange⟩
 have Gk:QE mg:=⟨zah X G zsorted,zah X G zlist,zah X G zreversed,zah X G zset,zah X G ztuple⟩
 have T:Qx K mg:=⟨zah X G zisinstance,zah X G zstr,zah X G zall,zah X G zenumerate,zah X G zsum,⟨_,zaN X G m1⟩,⟨_,zaN X G m2⟩,⟨_,zaN X G m3⟩,⟨_,zaN X G m4⟩,kss,ktt,kll⟩
 have Nn:Rc K mg:=⟨⟨_,_,hA1⟩,⟨_,_,hA2⟩,⟨_,_,hA3⟩,⟨_,_,hA4⟩,⟨_,_,hA5⟩,⟨_,_,hA6⟩,⟨_,_,hA7⟩⟩
 have M:GM K mg CG:=⟨⟨_,_,clCG⟩,⟨_,_,mCGM⟩,⟨_,_,mCGF⟩,⟨_,_,hA1⟩⟩
 have FMK:=W2 (st:=QS) lMK cdMK kMK
 have hMK:qU K mg "winner_by" QS p3 fMK _:=⟨FMK,zaN X G aMK,FMK.binds (ps:=p3) λ_ _ _ _ _ _ us hl=>by obtain⟨_,_,_,rfl⟩:=WT hl;rfl⟩
 have Y:Mc K mg:=⟨⟨_,_,hB1⟩,⟨_,_,hB2⟩,⟨_,_,hB3⟩,⟨_,_,hB4⟩,⟨_,_,hB5⟩,⟨_,_,hB6⟩,⟨_,_,hB7⟩,⟨_,_,hB8⟩⟩
 have Wq:Wk K mg:=⟨zah X G zisinstance,zah X G zbool,kii,kib,⟨_,zaN X G m5⟩,⟨_,zaN X G m6⟩⟩
 let wf:WF K mg:=⟨CN,CE,fCNi,fCEi,fCNO,fCEO,fCNP,fCEP,fCNE,fCEE,fW1,fW2,fW3,fW4,fW5,fB2,_,_,_,_,_,_,_,_,_,_,_,_,_,_,ne,clCN,clCE,mCNO,mCEO,mCNP,mCEP,mCNE,mCEE,hW1,hW2,hW3,hW4,hW5,hB2⟩
 have O:uz K mg:=⟨⟨_,_,hP1⟩,⟨_,_,hP2⟩,⟨_,_,hP3⟩,⟨_,_,hW6⟩,⟨_,_,hP4⟩,⟨_,zaN X G m7⟩⟩
 have V1:Ra K mg:=⟨⟨_,_,hP5⟩,⟨_,_,hP6⟩,⟨_,_,hP7⟩,⟨_,_,hP8⟩⟩
 have Q1:qaB K mg:=⟨⟨_,_,hQ1⟩,⟨_,_,hQ2⟩,⟨_,_,hQ3⟩,⟨_,_,hQ5⟩,⟨_,_,hQ6⟩,⟨_,_,hQ7⟩⟩
 have L:qaC K mg:=⟨⟨_,_,hO⟩,⟨_,_,hL⟩,⟨_,_,hT⟩,⟨_,_,hN⟩,⟨_,_,hD⟩,⟨_,_,hR⟩,⟨_,_,hA8⟩,⟨_,_,hE2⟩,⟨_,_,hE3⟩,⟨_,_,hE4⟩,⟨_,_,hE5⟩,⟨_,_,hE6⟩,⟨_,_,hE7⟩,⟨_,_,hE8⟩,⟨_,_,hEB⟩,⟨_,_,hEC⟩,⟨_,_,hED⟩,⟨_,_,hEE⟩⟩
 refine⟨[⟨"winner_by",cMK,PMK,zM⟩],zbj "law" "law" (Qz WB) (jM WB) (qj WB) .none kVLAW dcLAW pmLAW anLAW cdLAW ctLAW,zal.mpr ⟨zba,zbo⟩,λt ht=>?_,λs v=>.of_eq rfl,λbase _ _ hTM=>?_⟩
 . rw[zab.mp ht];exact⟨t8 iMK,hMKc⟩
 . exact(Nk (PT:=PMK) FLAW hMK rfl (hTM _ t9) wf B Wq Gk T Nn M Y O V1 Q1 L (zah X G zdict) xNotSo).imp λvs H Q E z=>let ⟨a,ns,e,h1,h2,h3,h4⟩:=z;⟨a,ns,e,h1,h2,h3 _ t9,h4⟩
theorem walk {l:PySem.W.OpenLaw} {q:Program} {loose:List Str} {XP:(Str->Option Value)->Heap->Prop} {YP:World->Heap->Prop} {d:DefRec} {K:Params->PySem.W.Frag} {ts:List Addr} (hn:l.most=some 63) (hdf:d.params.defaults=[])
   (hY:∀(w:World) (h:Heap),YP w h->(K w.params).In h) (hTs:∀(w:World) (h:Heap),YP w h->∀P∈ts,h.get? P=some (zbE #[])) (hnt:∀w:World,zdx (K w.params)=true)
   (F:∀(w:World) (mg:Str->Option Value) (fa:Addr) (h:Heap),(K w.params).In h->h.Ns mainGlobals mg->mg d.name=some (.ref fa)->
     ∃(tabs:List Ue) (fd:FuncData),(tabs.map (·.P)).Nodup/\(∀t∈tabs,t.P∈ts/\zcy (K w.params) t.c t.P=true)/\(∀(s:Shared) (v:Value),BindsTo s fd ⟨[v],[]⟩ [("_law_script",v)])/\∀base:Heap,(K w.params).In base->base.Ns mainGlobals mg->(∀t∈tabs,Ud mg base t.c t.P)->qm l.prog w (K w.params) mg base qK 15 fa fd ["_law_script"] (Ut (K w.params) tabs)):
   PySem.W.WalkO q loose XP YP l.row.toRowW d [] (λf vs=>PySem.call f vs):=
 L2.walk_ofT (n:=63) (k:=15) (x:="_law_script") (sp:=λK tabs=>Ut K tabs) hn (by decide) hdf ⟨rfl,by decide,by decide,rfl⟩ hY hTs hnt F (λ_ _ _ a ns hl hS hP=>⟨a,ns,rfl,hS,hl,hP,λ_=>rfl⟩)
end Rh
open PySem PySem.W PyProof.Rows
def PySem.W.Fast.tw5784193587934997773 : Unit := ()
def PySem.W.Fast.tw15813021780557525363 : Unit := ()
def PySem.W.Fast.tw861502493610598483 : Unit := ()
def PySem.W.Fast.tw4295227981214676045 : Unit := ()
def PySem.W.Fast.tw9008160628827913882 : Unit := ()
def PySem.W.Fast.tw14019881755177166336 : Unit := ()
def PySem.W.Fast.tw854247580281644437 : Unit := ()
def PySem.W.Fast.tw7774113678449685934 : Unit := ()
def PySem.W.Fast.tw9427782991329817838 : Unit := ()
def PySem.W.Fast.tw2805076105184715749 : Unit := ()
def PySem.W.Fast.tw15629952510504497247 : Unit := ()
def PySem.W.Fast.tw164352185463013549 : Unit := ()
def PySem.W.Fast.tw2479909634843643777 : Unit := ()
def PySem.W.Fast.tw11903097693493003620 : Unit := ()
def PySem.W.Fast.tw5651157763983816626 : Unit := ()
def PySem.W.Fast.tw4290864757253303354 : Unit := ()
def PySem.W.Fast.tw14740420172473848036 : Unit := ()
def PySem.W.Fast.tw14221096863170989933 : Unit := ()
def PySem.W.Fast.tw17941610651245897021 : Unit := ()
def PySem.W.Fast.tw15142666989864626641 : Unit := ()
def PySem.W.Fast.tw17426491299859156930 : Unit := ()
def PySem.W.Fast.tw14575388751658381831 : Unit := ()
def PySem.W.Fast.tw890339118813698166 : Unit := ()
def PySem.W.Fast.tw12176265147828701554 : Unit := ()
def PySem.W.Fast.tw1293241653719404408 : Unit := ()
def PySem.W.Fast.tw11853640710764476214 : Unit := ()
def PySem.W.Fast.tw13437419889732721216 : Unit := ()
def PySem.W.Fast.tw9557541446872002656 : Unit := ()
def PySem.W.Fast.tw7867829370405329436 : Unit := ()
def PySem.W.Fast.tw8966131664815694762 : Unit := ()
def PySem.W.Fast.tw3328118118096588273 : Unit := ()
def PySem.W.Fast.tw2580195520493374949 : Unit := ()
def PySem.W.Fast.tw16203366879757453535 : Unit := ()
def PySem.W.Fast.tw16945776922395636228 : Unit := ()
def PySem.W.Fast.tw12550775161083096063 : Unit := ()
def PySem.W.Fast.tw7050804516273991350 : Unit := ()
def PySem.W.Fast.tw3676754643040562684 : Unit := ()
def PySem.W.Fast.tw16766484511958638138 : Unit := ()
def PySem.W.Fast.tw7181997581385953548 : Unit := ()
def PySem.W.Fast.tw4480162626587320490 : Unit := ()
def PySem.W.Fast.tw14607143338591219252 : Unit := ()
def PySem.W.Fast.tw2386784164831690217 : Unit := ()
def PySem.W.Fast.tw13946496683202179788 : Unit := ()
def PySem.W.Fast.tw11317637306720784765 : Unit := ()
def PySem.W.Fast.tw10539347186207431242 : Unit := ()
def PySem.W.Fast.tw10199421320940215857 : Unit := ()
def PySem.W.Fast.tw7091221385724896812 : Unit := ()
def PySem.W.Fast.tw14760874974797668852 : Unit := ()
def PySem.W.Fast.tw5162821528426345003 : Unit := ()
def PySem.W.Fast.tw12747814925858328940 : Unit := ()
def PySem.W.Fast.tw10958628066121416707 : Unit := ()
def PySem.W.Fast.tw1205604411410820431 : Unit := ()
def PySem.W.Fast.tw15559114068648415018 : Unit := ()
def PySem.W.Fast.tw14196522196718054806 : Unit := ()
def PySem.W.Fast.tw14538725608371270373 : Unit := ()
def PySem.W.Fast.tw7001957589650049515 : Unit := ()
def PySem.W.Fast.tw13631397514672939371 : Unit := ()
def PySem.W.Fast.tw11205608169257636508 : Unit := ()
def PySem.W.Fast.tw211337195705725219 : Unit := ()
def PySem.W.Fast.tw1630143524128594353 : Unit := ()
def PySem.W.Fast.tw4971374062829452455 : Unit := ()
def PySem.W.Fast.tw18003772858949239459 : Unit := ()
def PySem.W.Fast.tw13484562703626004877 : Unit := ()
def PySem.W.Fast.tw13348088958985639553 : Unit := ()
def PySem.W.Fast.tw3801850119919557013 : Unit := ()
def PySem.W.Fast.tw12768989823518198380 : Unit := ()
def PySem.W.Fast.tw628631919661052299 : Unit := ()
def PySem.W.Fast.tw14387916025512776202 : Unit := ()
def PySem.W.Fast.tw3475869608268796686 : Unit := ()
def PySem.W.Fast.tw15593559885672580101 : Unit := ()
def PySem.W.Fast.tw1950803216711332702 : Unit := ()
def PySem.W.Fast.tw9201617497623189827 : Unit := ()
def PySem.W.Fast.tw2629151800749243262 : Unit := ()
def PySem.W.Fast.tw87601786513091389 : Unit := ()
def PySem.W.Fast.tw13421457143807847188 : Unit := ()
def PySem.W.Fast.tw3713540243193553862 : Unit := ()
def PySem.W.Fast.tw12314708539913122752 : Unit := ()
def PySem.W.Fast.tw18328257000508772394 : Unit := ()
def PySem.W.Fast.tw8319933024895762948 : Unit := ()
def PySem.W.Fast.tw12188032599808994241 : Unit := ()
def PySem.W.Fast.tw8752102160057688731 : Unit := ()
def PySem.W.Fast.tw10510056951384868246 : Unit := ()
def PySem.W.Fast.tw247591363613054380 : Unit := ()
def PySem.W.Fast.tw1070438729232803039 : Unit := ()
def PySem.W.Fast.tw6828597562223498359 : Unit := ()
def PySem.W.Fast.tw18031968618487185184 : Unit := ()
def PySem.W.Fast.tw11824586356888161845 : Unit := ()
def PySem.W.Fast.tw15227483606004533461 : Unit := ()
def PySem.W.Fast.tw16378183091871739711 : Unit := ()
def PySem.W.Fast.tw1998347030407657756 : Unit := ()
def PySem.W.Fast.tw6124413428159637790 : Unit := ()
def PySem.W.Fast.tw16955839230299176341 : Unit := ()
def PySem.W.Fast.tw7478123994339007903 : Unit := ()
def PySem.W.Fast.tw6822071536725586909 : Unit := ()
def PySem.W.Fast.tw9510108024173832781 : Unit := ()
def PySem.W.Fast.tw6851275008772768644 : Unit := ()
def PySem.W.Fast.tw6327569006664949090 : Unit := ()
def PySem.W.Fast.tw3308634892276815127 : Unit := ()
def PySem.W.Fast.tw5459702643516471331 : Unit := ()
def PySem.W.Fast.tw9592521066531166775 : Unit := ()
def PySem.W.Fast.tw1717767836212652739 : Unit := ()
def PySem.W.Fast.tw10510019762269167821 : Unit := ()
def PySem.W.Fast.tw13055953723892786844 : Unit := ()
def PySem.W.Fast.tw1708089923452030704 : Unit := ()
def PySem.W.Fast.tw17187875760726034783 : Unit := ()
def PySem.W.Fast.tw11489344026974618541 : Unit := ()
def PySem.W.Fast.tw2314633323536394700 : Unit := ()
def PySem.W.Fast.tw15433366417846715934 : Unit := ()
def PySem.W.Fast.tw4096438862311573950 : Unit := ()
def PySem.W.Fast.tw4884199854448574 : Unit := ()
def PySem.W.Fast.tw8924819469995637033 : Unit := ()
def PySem.W.Fast.tw12887044766017154078 : Unit := ()
def PySem.W.Fast.tw14833712730911297017 : Unit := ()
def PySem.W.Fast.tw17338325484393633139 : Unit := ()
def PySem.W.Fast.tw16226643914720891334 : Unit := ()
def PySem.W.Fast.tw14341141199694864594 : Unit := ()
def PySem.W.Fast.tw16721508838639397229 : Unit := ()
def PySem.W.Fast.tw17267597263503486738 : Unit := ()
def PySem.W.Fast.tw3992765435912101610 : Unit := ()
def PySem.W.Fast.tw14664691819916384248 : Unit := ()
def PySem.W.Fast.tw13855379610559885079 : Unit := ()
def PySem.W.Fast.tw10295913840692754127 : Unit := ()
def PySem.W.Fast.tw17658959251048325594 : Unit := ()
def PySem.W.Fast.tw16682895059504647277 : Unit := ()
def PySem.W.Fast.tw15214748959534726111 : Unit := ()
def PySem.W.Fast.tw8432719020341155521 : Unit := ()
def PySem.W.Fast.tw15805137534098808535 : Unit := ()
def PySem.W.Fast.tw11692469974320434101 : Unit := ()
def PySem.W.Fast.tw7485256538410118956 : Unit := ()
def PySem.W.Fast.tw9461873434466728008 : Unit := ()
def PySem.W.Fast.tw542563422162235373 : Unit := ()
def PySem.W.Fast.tw7007286002206832825 : Unit := ()
def PySem.W.Fast.tw11076892268299887525 : Unit := ()
def PySem.W.Fast.tw14827714588952709054 : Unit := ()
def PySem.W.Fast.tw172746767574481773 : Unit := ()
def PySem.W.Fast.tw2527701527901579348 : Unit := ()
def PySem.W.Fast.tw1142673529048489019 : Unit := ()
def PySem.W.Fast.tw17592209452093105858 : Unit := ()
def PySem.W.Fast.tw18367749455379333440 : Unit := ()
def PySem.W.Fast.tw3365755272349913518 : Unit := ()
def PySem.W.Fast.tw13557862171009465336 : Unit := ()
def PySem.W.Fast.tw12901003280762261817 : Unit := ()
def PySem.W.Fast.tw6575520176995025181 : Unit := ()
def PySem.W.Fast.tw15752536640612570366 : Unit := ()
def PySem.W.Fast.tw16864618592142003386 : Unit := ()
def PySem.W.Fast.tw7933485763601977624 : Unit := ()
def PySem.W.Fast.tw6046103115902281144 : Unit := ()
def PySem.W.Fast.tw13567515925198824819 : Unit := ()
def PySem.W.Fast.tw2466311954974566718 : Unit := ()
def PySem.W.Fast.tw514280064592716601 : Unit := ()
def PySem.W.Fast.tw10988312798546598065 : Unit := ()
def PySem.W.Fast.tw1891733041441978011 : Unit := ()
def PySem.W.Fast.tw1937721966566455358 : Unit := ()
def PySem.W.Fast.tw1825952489489211193 : Unit := ()
def PySem.W.Fast.tw11738243743197964597 : Unit := ()
def PySem.W.Fast.tw12681666616541194006 : Unit := ()
def PySem.W.Fast.tw2741014181512449073 : Unit := ()
def PySem.W.Fast.tw13366278800048369731 : Unit := ()
def PySem.W.Fast.tw5890639436620234070 : Unit := ()
def PySem.W.Fast.tw4015202173357781934 : Unit := ()
def PySem.W.Fast.tw17339309145561079191 : Unit := ()
def PySem.W.Fast.tw819570635367399668 : Unit := ()
def PySem.W.Fast.tw16773468814595293053 : Unit := ()
def PySem.W.Fast.tw8908233856664302321 : Unit := ()
def PySem.W.Fast.tw7322748291113730364 : Unit := ()
def PySem.W.Fast.tw18383651708701053236 : Unit := ()
def PySem.W.Fast.tw977512076041815475 : Unit := ()
def PySem.W.Fast.tw8737599933303070863 : Unit := ()
def PySem.W.Fast.tw4561898282857576226 : Unit := ()
def PySem.W.Fast.tw9879335643197240621 : Unit := ()
def PySem.W.Fast.tw14391293386007564604 : Unit := ()
def PySem.W.Fast.tw15925456577456769635 : Unit := ()
def PySem.W.Fast.tw726351398001015727 : Unit := ()
def PySem.W.Fast.tw12528533614272120300 : Unit := ()
def PySem.W.Fast.tw13813548295540068894 : Unit := ()
def PySem.W.Fast.tw13956191218907399338 : Unit := ()
def PySem.W.Fast.tw15438627641174518403 : Unit := ()
def PySem.W.Fast.tw12459912946257978736 : Unit := ()
def PySem.W.Fast.tw6056707288978253535 : Unit := ()
def PySem.W.Fast.tw18073898193381586223 : Unit := ()
def PySem.W.Fast.tw18101783494082082527 : Unit := ()
def PySem.W.Fast.tw2399617604181995578 : Unit := ()
def PySem.W.Fast.tw9387514328989991554 : Unit := ()
def PySem.W.Fast.tw561727478393794602 : Unit := ()
def PySem.W.Fast.tw8212203176049278890 : Unit := ()
def PySem.W.Fast.tw2595618661548880785 : Unit := ()
def PySem.W.Fast.tw17334828202450815106 : Unit := ()
set_option maxHeartbeats 0
open_top hd for PySem.Challenge.rw_ringheaps_k62_whole_winner_against_any_a
set_option maxRecDepth 100000 in
set_option maxHeartbeats 0 in
theorem PySem.Challenge.cw_ringheaps_k62_whole_winner_against_any_a_holds : PySem.Challenge.rw_ringheaps_k62_whole_winner_against_any_a.Holds := by
 refine hd ?_
 k_fill
 refine Rh.walk (l:=PySem.Challenge.rw_ringheaps_k62_whole_winner_against_any_a) rfl rfl (λw h Y=>PySem.W.km_in_of Y) (λw h Y=>PySem.W.km_tabs_of Y) ?hnt ?F
 case hnt=>exact λw=>by kernel_rfl
 case F=>
   intro w mg fa h KX G hmg
   refine' Rh.all_mk KX G hmg ?_ ?_ ?_ ?_ ?_ ?_ ?_ ?_ ?_ ?_ ?_ ?_ ?_ ?_ ?_ ?_ ?_ ?_ ?_ ?_ ?_ ?_ ?_ ?_ ?_ ?_ ?_ ?_ ?_ ?_ ?_ ?_ ?_ ?_ ?_ ?_ ?_ ?_ ?_ ?_ ?_ ?_ ?_ ?_ ?_ ?_ ?_ ?_ ?_ ?_ ?_ ?_ ?_ ?_ ?_ ?_ ?_ ?_ ?_ ?_ ?_ ?_ ?_ ?_ ?_ ?_ ?_ ?_ ?_ ?_ ?_ ?_ ?_ ?_ ?_ ?_ ?_ ?_ ?_ ?_ ?_ ?_ ?_ ?_ ?_ ?_ ?_ ?_ ?_ ?_ ?_ ?_ ?_ ?_ ?_ ?_ ?_ ?_ ?_ ?_ ?_ ?_ ?_ ?_ ?_ ?_ ?_ ?_ ?_ ?_ ?_ ?_ ?_ ?_ ?_ ?_ ?_ ?_ ?_ ?_ ?_ ?_ ?_ ?_ ?_ ?_ ?_ ?_ ?_ ?_ ?_ ?_ ?_ ?_ ?_ ?_ ?_ ?_ ?_ ?_ ?_ ?_ ?_ ?_ ?_ ?_ ?_ ?_ ?_ ?_ ?_ ?_ ?_ ?_ ?_ ?_ ?_ ?_ ?_ ?_ ?_ ?_ ?_ ?_ ?_ ?_ ?_ ?_ ?_ ?_ ?_ ?_ ?_
   any_goals first | exact Rh.at0 | (apply Rh.HF.mk'<;>k_is) | (apply Rh.MF.mk'<;>k_is) | k_is | kernel_rfl | rfl | decide
