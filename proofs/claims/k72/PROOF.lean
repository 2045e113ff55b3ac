import PyProof.Rows.All
import Wide.All
import OpenK.AllK
import Wide.FinOn
import Lean
import PyProof.EqAt
import PyProof.EqKinds
import PyProof.TupleCall
import PySem.Challenge.RW_ringheaps_k72_whole_never_lost
set_option Elab.async false
set_option linter.all false
set_option maxRecDepth 100000
open Array renaming length_toList → zaB, getElem?_eq_getElem → zcc, toList_append → zcf, getElem?_eq_some_iff → zcV
open Bool renaming false_ne_true → tP, and_eq_true → zau, false_eq_true → zba, eq_iff_iff → zbg, false_and → zcR, noConfusion → zdj, or_eq_true → zdr
open Int renaming toNat_natCast → zaL, emod_lt_of_pos → zbx, emod_nonneg → zbO, fdiv_eq_ediv_of_nonneg → zbV, zero_add → zbY, natCast_nonneg → zcS
open List renaming length_map → tj, getElem?_eq_some_iff → tE, getElem?_eq_getElem → tH, getElem?_map → tI, mem_map → tJ, take_of_length_le → tK, length_append → tL, mem_append_right → tM, map_append → tN, take_add_one → tR, length_take → tS, mem_cons_of_mem → tU, mem_append → tV, map_cons → tW, mem_filter → tX, mem_of_getElem? → tZ, mem_cons → t8, size_toArray → t9, mem_cons_self → zaa, range → zac, getElem?_append_right → zad, mem_singleton → zae, getElem?_append_left → zah, mem_append_left → zai, nodup_cons → zam, length_range → zan, length_filter_le → zao, filterMap_append → zaq, filterMap_cons → zar, getD_eq_getElem?_getD → zas, length_cons → zat, append_nil → zax, length → zaz, eq_nil_of_length_eq_zero → zaA, length_pos_of_mem → zaD, mem_filterMap → zaE, length_singleton → zaF, mem_range → zaG, lookup_cons → zaJ, all_eq_true → zaK, pairwise_iff_getElem → zaM, filter_append → zaO, length_filterMap_le → zaP, mem_of_mem_head? → zaR, sum_cons → zaV, toArray → zaW, map_map → zaY, any_eq_true → zbb, getElem?_of_mem → zbc, filter_sublist → zbf, lookup → zbh, getElem?_eq_none → zbi, getElem?_take_of_lt → zbj, nodup_nil → zbo, find?_cons → zbq, mem_nil_iff → zbt, filter_cons → zbu, exists_cons_of_ne_nil → zbw, of_mem_zip → zbA, length_set → zbB, getElem?_range → zbD, map_congr_left → zbE, length_pos_iff → zbF, getElem_mem → zbI, exists_mem_of_length_pos → zbJ, length_replicate → zbQ, filter_congr → zbT, mem_erase_of_ne → zbW, mem_of_mem_take → zbX, mem_of_find?_eq_some → zcd, length_reverse → zce, length_erase_of_mem → zch, sum_append → zcm, range_succ → zco, append_of_mem → zcp, getElem?_replicate → zcq, pairwise_singleton → zcs, take_sublist → zcu, map_nil → zcw, nodup_append → zcz, foldl_append → zcB, append_assoc → zcD, cons_append → zcE, mem_reverse → zcF, nodup_range → zcG, mem_flatMap → zcH, any_cons → zcI, foldl_cons → zcL, all_map → zcO, getElem?_take → zcX, getElem?_eq_none_iff → zcY, reverse_cons → zda, ext_getElem? → zdb, all_cons → zde, idxOf_lt_length_iff → zdf, length_drop → zdg, not_mem_nil → zdl, getElem?_set_self → zdm, filter_eq_nil_iff → zdn, length_nil → zdq, nil_append → zds, all_append → zdt, filter_map → zdu, take_append_drop → zdv, pairwise_reverse → zdw, getElem?_set_ne → zdx, replicate → zdy, drop_zero → zdz, pairwise_append → zdD, take_zero → zdE, findIdx_append → zdF, Pairwise → zdG, lookup_append → zdI, find?_eq_none → zdJ, pairwise_cons → zdK, map_filterMap → zdL, pairwise_map → zdT, map → zdU, range' → zdX
open Nat renaming le_refl → tF, lt_of_lt_of_le → tT, ne_of_lt → zab, le_trans → zag, le_of_lt → zak, lt_of_le_of_lt → zap, lt_irrefl → zaw, zero_le → zay, lt_trichotomy → zaC, lt_succ_self → zaI, xor_assoc → zbk, lt_or_ge → zbr, testBit_succ → zbH, ne_of_gt → zbK, testBit_xor → zbN, lt_succ_of_lt → zbS, lt_of_succ_lt → zbU, xor_self → zcb, not_lt_zero → zcn, zero_xor → zcC, min_eq_left → zcJ, strongRecOn → zcK, sub_self → zcQ, succ → zcU, pos_of_ne_zero → zcW, min_le_right → zdi, testBit_zero → zdk, xor_zero → zdo, eq_of_testBit_eq → zdC, lt_trans → zdP, sub_zero → zdQ, zero_add → zdR, xor_comm → zdS
open Option renaming some → tO, isSome_map → zbe, ne_none_iff_exists' → zby, map_some → zcl, map_eq_some_iff → zcx, isSome_iff_exists → zdd, getD_none → zdW
open PySem.F renaming plainAttrs_list → zav, plain_min_loop → zaX, slot_list_append → zbl, type_list_append → zbm, args_tuple_add_2 → zcg, slot_list_extend → zci, type_list_extend → zcj, entry_tuple_add → zcr, slot_tuple_add → zcv, entry_min_loop → zcA, slot_list_index → zdh
open PySem.Heap renaming get?_push_of_some → tG, lt_size → tQ, get?_push_size → tY, get?_update_other → zaN, size_push → zbn, get?_update_self → zbz, SameBut → zcP
open PySem.W renaming findIn → zaf, nsIn → zaj, mg_none_of → zal, keepIn → zaH, mg_of → zaQ, isFn → zaS, kitOne → zaT, kia_one → zaU, emptyDict → zaZ, fnOf → zbd, instObj → zbp, plainGet → zbs, codeIn → zbv, hasDictIn → zbC, tabObj → zbG, callWith_K → zbL, kla_obj → zbM, methodCall_KW → zbP, plainOver → zbR, envX → zbZ, codeHdIn → zca, makesIn → zck, cellsFrom_some → zct, fnMade → zcy, plainGet_of → zcM, callWith_K0 → zcN, lookIn → zcT, methodObj → zcZ, mroIn → zdc, takerIn → zdp, noTabs → zdA, kla_fn → zdB, codeRec_of → zdH, specialIn → zdM, kitx_list → zdN, kitx_dict → zdO, handedIn → zdV, fnX → zdY
namespace L2
open PySem PySem.Spec PyProof.Rows
abbrev qL:=Sum Int Str
def XH:qL->Value->Bool
 | .inl k,v=>Value.isInt k v
 | .inr x,v=>Value.isStrOf x v
def qbL (w:World):qL->Int
 | .inl k=>hashInt k
 | .inr x=>hashStr w x
theorem js:∀{k:qL} {v:Value},XH k v=true->(∃i t,k=Sum.inl i/\v=Value.int i t)\/(∃x t,k=Sum.inr x/\v=Value.str x t)
 | .inl i,v,h=>by
   obtain⟨t,e⟩:=Value.isInt_shape (k:=i) (v:=v) h
   exact .inl ⟨i,t,rfl,e⟩
 | .inr x,v,h=>by
   obtain⟨t,e⟩:=Value.isStrOf_shape (x:=x) (v:=v) h
   exact .inr ⟨x,t,rfl,e⟩
theorem yG (i:Int) (t:Tok):XH (.inl i) (.int i t)=true:=by simp [XH,Value.isInt]
theorem yF (x:Str) (t:Tok):XH (.inr x) (.str x t)=true:=by simp [XH,Value.isStrOf]
theorem N9 (a b:Int):decide ((Sum.inl a:qL)=Sum.inl b)=(a==b):=by
 by_cases e:a=b
 . subst e;simp
 . have h:¬(Sum.inl a:qL)=Sum.inl b:=λq=>e (Sum.inl.inj q)
   rw[decide_eq_false h]
   exact(beq_eq_false_iff_ne.mpr e).symm
theorem N6 (a b:Str):decide ((Sum.inr a:qL)=Sum.inr b)=decide (a=b):=by
 by_cases e:a=b
 . subst e;simp
 . have h:¬(Sum.inr a:qL)=Sum.inr b:=λq=>e (Sum.inr.inj q)
   rw[decide_eq_false h,decide_eq_false e]
theorem N8 (a:Int) (b:Str):decide ((Sum.inl a:qL)=Sum.inr b)=false:=decide_eq_false (λq=>nomatch q)
theorem N7 (a:Str) (b:Int):decide ((Sum.inr a:qL)=Sum.inl b)=false:=decide_eq_false (λq=>nomatch q)
def jm (prog:Program) (w:World):PySem.KeyKind prog w qL where
 is:=XH
 hash:=qbL w
 inj:=λv a b ha hb=>by
   rcases js ha with ⟨i,t,rfl,rfl⟩ | ⟨x,t,rfl,rfl⟩
   . rcases js hb with ⟨j,u,rfl,e⟩ | ⟨y,u,rfl,e⟩
     . injection e with e1 _;rw[e1]
     . exact nomatch e
   . rcases js hb with ⟨j,u,rfl,e⟩ | ⟨y,u,rfl,e⟩
     . exact nomatch e
     . injection e with e1 _;rw[e1]
 byValue:=λk v h=>by
   rcases js h with ⟨i,t,rfl,rfl⟩ | ⟨x,t,rfl,rfl⟩<;>rfl
 pyHash:=λhv h=>by
   rcases js hv with ⟨i,t,rfl,rfl⟩ | ⟨x,t,rfl,rfl⟩
   . exact wpAny_pyHash_int h
   . exact wpAny_pyHash_str h
 eqBool:=λhu hv h=>by
   rcases js hu with ⟨i,t,rfl,rfl⟩ | ⟨x,t,rfl,rfl⟩
   . rcases js hv with ⟨j,u,rfl,rfl⟩ | ⟨y,u,rfl,rfl⟩
     . rw[N9]at h;exact wpAny_eqBool_int h
     . rw[N8]at h;exact SeqAt.EqAt.int_str i t y u _ _ _ _ h
   . rcases js hv with ⟨j,u,rfl,rfl⟩ | ⟨y,u,rfl,rfl⟩
     . rw[N7]at h;exact SeqAt.EqAt.str_int x t j u _ _ _ _ h
     . rw[N6]at h;exact wpAny_eqBool_str h
 «strs»:=λk x t v h=>by
   rcases js h with ⟨i,u,rfl,e⟩ | ⟨y,u,rfl,e⟩
   . exact nomatch e
   . injection e with e1 _
     subst e1
     cases v<;>rfl
theorem V6 (prog:Program) (w:World) (i:Int) (t:Tok):(jm prog w).is (.inl i) (.int i t)=true:=yG i t
theorem V5 (prog:Program) (w:World) (x:Str) (t:Tok):(jm prog w).is (.inr x) (.str x t)=true:=yF x t
inductive V where
 | non | bl (b:Bool) | int (i:Int) | str (x:Str) | byt (b:Array UInt8) | flt (b:UInt64) | ref (a:Addr) | ty (n:String)
 deriving DecidableEq
def qQ:V->Value->Prop
 | .non,u=>u=Value.none
 | .bl b,u=>u=Value.bool b
 | .int i,u=>∃t,u=Value.int i t
 | .str x,u=>∃t,u=Value.str x t
 | .byt b,u=>∃t,u=Value.bytes b t
 | .flt b,u=>∃t,u=Value.float b t
 | .ref a,u=>u=Value.ref a
 | .ty n,u=>u=Value.type n
abbrev qJ:List V->List Value->Prop:=Paired qQ
theorem qJ.length {xs:List V} {us:List Value} (r:qJ xs us):xs.length=us.length:=Paired.length r
theorem qJ.get:∀{xs:List V} {us:List Value} {i:Nat} {x:V},qJ xs us->xs[i]?=some x->∃u,us[i]?=some u/\qQ x u
 | _,_,_,_,.nil,e=>by simp at e
 | _,_,0,_,.cons r _,e=>by simp at e;subst e;exact⟨_,rfl,r⟩
 | _,_,i+1,x,.cons _ t,e=>by
   obtain⟨u,h1,h2⟩:=qJ.get (i:=i) (x:=x) t (by simpa using e)
   exact⟨u,by simpa using h1,h2⟩
theorem qJ.set {x:V} {u:Value} (r:qQ x u):∀{xs:List V} {us:List Value} (i:Nat),qJ xs us->qJ (xs.set i x) (us.set i u)
 | _,_,_,.nil=>.nil
 | _,_,0,.cons _ t=>.cons r t
 | _,_,i+1,.cons q t=>.cons q (qJ.set r i t)
theorem qJ.append:∀{xs ys:List V} {us ws:List Value},qJ xs us->qJ ys ws->qJ (xs++ys) (us++ws)
 | _,_,_,_,.nil,s=>s
 | _,_,_,_,.cons r t,s=>.cons r (qJ.append t s)
theorem qJ.take:∀{xs:List V} {us:List Value} (n:Nat),qJ xs us->qJ (xs.take n) (us.take n)
 | _,_,0,_=>.nil
 | _,_,_+1,.nil=>.nil
 | _,_,n+1,.cons r t=>.cons r (qJ.take n t)
theorem qJ.drop:∀{xs:List V} {us:List Value} (n:Nat),qJ xs us->qJ (xs.drop n) (us.drop n)
 | _,_,0,r=>r
 | _,_,_+1,.nil=>.nil
 | _,_,n+1,.cons _ t=>qJ.drop n t
theorem qJ.none_of:∀{xs:List V} {us:List Value} {i:Nat},qJ xs us->xs[i]?=none->us[i]?=none:=λ{xs us i} r e=>by
 have h1:=r.length
 have h2:xs.length<=i:=zcY.mp e
 exact zcY.mpr (by omega)
def ZH:Option V->Option Value->Prop
 | some v,some u=>qQ v u
 | none,none=>True
 | _,_=>False
def KV {κ:Type}:List (κ×V)->List (κ×Value)->Prop:=Paired λ(p:κ×V) (q:κ×Value)=>p.1=q.1/\qQ p.2 q.2
def kV:qL->V
 | .inl i=>.int i
 | .inr x=>.str x
inductive HO where
 | lst (xs:List V)
 | tup (xs:List V)
 | dK (kvs:List (qL×V)) | dT (kvs:List (List qL×V))
 | set (S:Int->Bool) (n:Nat)
 | ins (C dx:Addr) (fs:List (Str×V))
 | own (x:Addr)
 | xd (fs:List (Str×V))
 | met (f x:Addr)
 | rng (lo hi:Int)
 | frz (o:Obj) (u:HO)
 | tbl (ps:Array Value)
 | ext (φ:Heap->Prop)
abbrev Hp:=Addr->Option HO
def upd (H:Hp) (a:Addr) (o:HO):Hp:=λb=>if b=a then some o else H b
theorem qd {H:Hp} {a:Addr} {o:HO}:upd H a o a=some o:=by unfold upd;rw[if_pos rfl]
theorem qj {H:Hp} {a b:Addr} {o:HO} (h:b≠a):upd H a o b=H b:=by unfold upd;rw[if_neg h]
theorem jI {H:Hp} {a:Addr} {o u:HO}:upd (upd H a o) a u=upd H a u:=by
 funext b;unfold upd;split<;>rfl
theorem qas {H:Hp} {a b:Addr} {o u:HO} (h:H a=some o) (h':H b=some u) (d:o≠u):a≠b:=by
 intro e;subst e;rw[h]at h';exact d (tO.inj h')
theorem qA {H:Hp} {a b:Addr} {o:HO} (h:H a=some o) (h':H b=none):a≠b:=by
 intro e;subst e;rw[h]at h';cases h'
def qaZ (ps:Array Value) (oc:Obj):Prop:=∃(q:Str) (t:Tok) (vs:Array Value) (t':Tok),ps[0]?=some (.str q t)/\oc.data=.fields vs/\vs[1]?=some (.str q t')
section
variable (P:Program) (w:World)
def qX (H:Hp) (h:Heap) (a:Addr):HO->Prop
 | .lst xs=>xs.length<=sizeLine/\∃(its:List Value) (n:Nat),qJ xs its/\h.get? a=some {cls:=.type "list",data:=.seq its.toArray n}
 | .tup xs=>xs.length<=sizeLine/\∃its:List Value,qJ xs its/\IsTup h a its.toArray
 | .dK kvs=>kvs.length<=sizeLine/\(a==sysModules)=false/\∃vs,KV kvs vs/\h.DictOf (jm P w) a vs
 | .dT kvs=>kvs.length<=sizeLine/\(a==sysModules)=false/\∃xs:List (List qL×Addr×Value),
     Paired (λ(p:List qL×V) (q:List qL×Addr×Value)=>p.1=q.1/\H q.2.1=some (.tup (p.1.map kV))/\qQ p.2 q.2.2) kvs xs/\
     ∃o es ep,h.get? a=some o/\o.ExactDict/\o.data=.dict es ep/\es.toList=xs.map (entryOfKey (tupleKind (jm P w)))/\(xs.map (·.1)).Nodup
 | .set S n=>h.SetOf (intKind P w) a S n
 | .ins C dx fs=>H dx=some (.own a)/\fs.length<=1000/\dx≠a/\h.get? a=some (zbp C dx)/\
     ∃mA,h.Ns1 dx mA/\(∀f,ZH (fs.lookup f) (mA f))/\PySem.Within mA (fs.map (·.1))
 | .own _=>∃o,h.get? a=some o
 | .xd fs=>∃mA,h.Ns1 a mA/\∀f,ZH (fs.lookup f) (mA f)
 | .rng lo hi=>∃t u v,h.get? a=some {cls:=.type "range",data:=.fields #[.int lo t,.int hi u,.int 1 v]}
 | .frz o u=>h.get? a=some o/\qX H h a u
 | .tbl ps=>∃ts:Array Value,h.get? a=some {cls:=.none,data:=.fields ts}/\TriplesOk ts.toList/\∀pos cv,codeAmong pos ts.toList=some cv->∃c oc,cv=.ref c/\H c=some (.frz oc (.own a))/\qaZ ps oc
 | .met f x=>h.get? a=some (zcZ (.ref f) (.ref x))
 | .ext φ=>φ h/\(∃o,h.get? a=some o)/\∀h1 h2:Heap,φ h1->(∀o,h1.get? a=some o->h2.get? a=some o)->φ h2
def ZJ (H:Hp) (h:Heap):Prop:=∀a o,H a=some o->qX P w H h a o
end
section
variable {P:Program} {w:World} {H H':Hp} {h h':Heap} {a:Addr} {o:HO}
theorem qX.lt (x:qX P w H h a o):a < h.objs.size:=by
 cases o with
 | lst xs=>obtain⟨_,_,_,_,e⟩:=x;exact tQ e
 | tup xs=>obtain⟨_,_,_,p⟩:=x;exact p.lt
 | dK kvs=>obtain⟨_,_,_,_,o,_,_,e,_⟩:=x;exact tQ e
 | dT kvs=>obtain⟨_,_,_,_,o,_,_,e,_⟩:=x;exact tQ e
 | set S n=>obtain⟨o,_,_,_,e,_⟩:=x;exact tQ e
 | ins C dx fs=>obtain⟨_,_,_,e,_⟩:=x;exact tQ e
 | own y=>obtain⟨_,e⟩:=x;exact tQ e
 | xd fs=>obtain⟨_,⟨_,_,_,e,_⟩,_⟩:=x;exact tQ e
 | rng lo hi=>obtain⟨_,_,_,e⟩:=x;exact tQ e
 | frz ob u=>obtain⟨e,_⟩:=x;exact tQ e
 | tbl ps=>obtain⟨_,e,_⟩:=x;exact tQ e
 | met f y=>exact tQ (show h.get? a=some _ from x)
 | ext φ=>obtain⟨_,⟨_,e⟩,_⟩:=x;exact tQ e
theorem Paired.mapP {α β:Type} {F G:α->β->Prop}:∀{l₁:List α} {l₂:List β},Paired F l₁ l₂->(∀a b,F a b->G a b)->Paired G l₁ l₂
 | _,_,.nil,_=>.nil
 | _,_,.cons r t,f=>.cons (f _ _ r) (Paired.mapP t f)
theorem qX.stay (x:qX P w H h a o) (k:∀b u,(b=a\/H b=some (.own a))->h.get? b=some u->h'.get? b=some u)
   (ho:∀b,H b=some (.own a)->H' b=some (.own a)) (ht:∀b xs,H b=some (.tup xs)->H' b=some (.tup xs)) (hf:∀b o,H b=some (.frz o (.own a))->H' b=some (.frz o (.own a)):=by exact λ_ _ q=>q):qX P w H' h' a o:=by
 induction o with
 | lst xs=>obtain⟨z,its,n,r,e⟩:=x;exact⟨z,its,n,r,k _ _ (.inl rfl) e⟩
 | tup xs=>obtain⟨z,its,r,ob,e,c⟩:=x;exact⟨z,its,r,ob,k _ _ (.inl rfl) e,c⟩
 | dK kvs=>obtain⟨z,y,vs,r,ob,es,ep,e,c⟩:=x;exact⟨z,y,vs,r,ob,es,ep,k _ _ (.inl rfl) e,c⟩
 | dT kvs=>
   obtain⟨z,y,xs,r,ob,es,ep,e,c⟩:=x
   exact⟨z,y,xs,Paired.mapP r λp q z=>⟨z.1,ht _ _ z.2.1,z.2.2⟩,ob,es,ep,k _ _ (.inl rfl) e,c⟩
 | set S n=>obtain⟨ob,es,ep,t,e,c⟩:=x;exact⟨ob,es,ep,t,k _ _ (.inl rfl) e,c⟩
 | ins C dx fs=>
   obtain⟨d,z,ne,e,mA,⟨od,es,ep,e2,c⟩,r⟩:=x
   exact⟨ho _ d,z,ne,k _ _ (.inl rfl) e,mA,⟨od,es,ep,k _ _ (.inr d) e2,c⟩,r⟩
 | own y=>obtain⟨ob,e⟩:=x;exact⟨ob,k _ _ (.inl rfl) e⟩
 | xd fs=>obtain⟨mA,⟨od,es,ep,e,c⟩,r⟩:=x;exact⟨mA,⟨od,es,ep,k _ _ (.inl rfl) e,c⟩,r⟩
 | rng lo hi=>obtain⟨t,u,v,e⟩:=x;exact⟨t,u,v,k _ _ (.inl rfl) e⟩
 | frz ob u ih=>obtain⟨e,q⟩:=x;exact⟨k _ _ (.inl rfl) e,ih q⟩
 | tbl ps=>
   obtain⟨ts,e,tr,cs⟩:=x
   exact⟨ts,k a _ (.inl rfl) e,tr,λpos cv q=>let ⟨c,oc,e1,e2,e3⟩:=cs pos cv q;⟨c,oc,e1,hf c oc e2,e3⟩⟩
 | met f y=>
   have e:h.get? a=some (zcZ (.ref f) (.ref y)):=x
   show h'.get? a=some (zcZ (.ref f) (.ref y))
   exact k a _ (.inl rfl) e
 | ext φ=>obtain⟨p,⟨o,e⟩,st⟩:=x;exact⟨st _ _ p λo q=>k _ _ (.inl rfl) q,⟨o,k _ _ (.inl rfl) e⟩,st⟩
theorem ZJ.lt (x:ZJ P w H h) (e:H a=some o):a < h.objs.size:=(x a o e).lt
theorem ZJ.fresh (x:ZJ P w H h) (e:h.objs.size<=a):H a=none:=by
 cases q:H a with
 | none=>rfl
 | some u=>exact absurd (tT (x.lt q) e) (zaw _)
theorem ZJ.kept (x:ZJ P w H h) (k:∀b u,h.get? b=some u->h'.get? b=some u):ZJ P w H h':=λa o e=>
 (x a o e).stay (λb u _ q=>k b u q) (λ_ q=>q) λ_ _ q=>q
theorem ZJ.laid (x:ZJ P w H h) (k:∀b u,h.get? b=some u->h'.get? b=some u) (hp:h.objs.size<=a) (new:qX P w (upd H a o) h' a o):ZJ P w (upd H a o) h':=λb u e=>by
 have hn:=x.fresh hp
 by_cases hb:b=a
 . subst hb;rw[qd]at e;cases e;exact new
 . rw[qj hb]at e
   exact(x b u e).stay (λc v _ q=>k c v q) (λc q=>by rw[qj (qA q hn)];exact q) (λc xs q=>by rw[qj (qA q hn)];exact q) (λc o q=>by rw[qj (qA q hn)];exact q)
end
def Rd (H:Hp) (a:Addr) (u:HO):Prop:=H a=some u\/∃o,H a=some (.frz o u)
theorem Rd.ok {P:Program} {w:World} {H:Hp} {h:Heap} {a:Addr} {u:HO} (r:Rd H a u) (x:ZJ P w H h):qX P w H h a u:=by
 rcases r with r | ⟨o,r⟩
 . exact x a u r
 . obtain⟨_,q⟩:=x a _ r
   exact q
def MI:Option HO->Prop
 | some (.lst _)=>True
 | some (.dK _)=>True
 | some (.dT _)=>True
 | some (.set _ _)=>True
 | some (.ins _ _ _)=>True
 | some (.ext _)=>True
 | _=>False
section
variable {P:Program} {w:World} {H:Hp} {h h':Heap} {x e:Addr} {o':HO}
theorem ZJ.write (ok:ZJ P w H h) (mu:MI (H x)) (he:e=x\/H e=some (.own x)) (k:∀b u,b≠e->h.get? b=some u->h'.get? b=some u) (heo:∃u,h'.get? e=some u)
   (new:qX P w (upd H x o') h' x o'):ZJ P w (upd H x o') h':=λb u q=>by
 have nown:∀c y,H c=some (.own y)->c≠x:=λc y r z=>by subst z;rw[r]at mu;exact mu
 have ntup:∀c xs,H c=some (.tup xs)->c≠x:=λc xs r z=>by subst z;rw[r]at mu;exact mu
 by_cases hb:b=x
 . subst hb;rw[qd]at q;cases q;exact new
 . rw[qj hb]at q
   by_cases hbe:b=e
   . have q':H b=some (.own x):=by
       rcases he with z | z
       . exact absurd (hbe.trans z) hb
       . rw[hbe];exact z
     rw[q]at q';cases q'
     obtain⟨v,hv⟩:=heo
     exact⟨v,by rw[hbe];exact hv⟩
   . refine(ok b u q).stay (λc v hc r=>k c v ?_ r) (λc r=>by rw[qj (nown c b r)];exact r) (λc xs r=>by rw[qj (ntup c xs r)];exact r) (λc o r=>by rw[qj (λz=>by subst z;rw[r]at mu;exact mu)];exact r)
     rcases hc with rfl | hc
     . exact hbe
     . rintro rfl
       rcases he with z | z
       . exact nown c b hc z
       . rw[hc]at z;cases z;exact hb rfl
end
structure Un (fs ex:List Addr) (H H':Hp) (h h':Heap):Prop where
 keep:∀b o,h.get? b=some o->H b=none->b∉fs->b∉ex->h'.get? b=some o
 slot:∀b o,h.get? b=some o->H b=none->b∈fs->b∉ex->∃sl,h'.get? b=some {o with slots:=sl}
 free:∀b o,h.get? b=some o->H b=none->b∉ex->H' b=none
 there:∀b o,h.get? b=some o->b∉ex->∃o',h'.get? b=some o'
 tups:∀b xs,H b=some (.tup xs)->H' b=some (.tup xs)
 frzs:∀b o u,H b=some (.frz o u)->H' b=some (.frz o u)
 tbls:∀b ps,H b=some (.tbl ps)->∃more,H' b=some (.tbl (ps++more))
section
variable {fs fs' ex ex':List Addr} {H H1 H2:Hp} {h h1 h2 h':Heap} {a x e:Addr} {o:HO}
theorem Un.any (u:Un fs ex H H1 h h1) {b:Addr} {ob:Obj} (q:h.get? b=some ob) (n:H b=none) (hx:b∉ex):∃sl,h1.get? b=some {ob with slots:=sl}:=by
 by_cases hb:b∈fs
 . exact u.slot b ob q n hb hx
 . exact⟨ob.slots,u.keep b ob q n hb hx⟩
theorem Un.kept (k:∀b u,h.get? b=some u->h'.get? b=some u):Un fs ex H H h h':=
 ⟨λb ob q _ _ _=>k b ob q,λb ob q _ _ _=>⟨ob.slots,k b ob q⟩,λ_ _ _ n _=>n,λb ob q _=>⟨ob,k b ob q⟩,λ_ _ q=>q,λ_ _ _ q=>q,λ_ ps q=>⟨#[],by rw[q];simp⟩⟩
theorem Un.refl:Un fs ex H H h h:=Un.kept λ_ _ q=>q
theorem Un.laid (k:∀b u,h.get? b=some u->h'.get? b=some u) (hp:h.objs.size<=a) (hn:H a=none):Un fs ex H (upd H a o) h h' where
 keep:=λb u q _ _ _=>k b u q
 slot:=λb u q _ _ _=>⟨u.slots,k b u q⟩
 free:=λb u q n _=>by rw[qj (zab (tT (tQ q) hp))];exact n
 there:=λb u q _=>⟨u,k b u q⟩
 tups:=λb xs q=>by rw[qj (qA q hn)];exact q
 frzs:=λb u xs q=>by rw[qj (qA q hn)];exact q
 tbls:=λb ps q=>⟨#[],by rw[qj (qA q hn),q];simp⟩
theorem Un.write (mu:MI (H x)) (he:e=x\/H e=some (.own x)) (k:∀b u,b≠e->h.get? b=some u->h'.get? b=some u) (heo:∃u,h'.get? e=some u):Un fs ex H (upd H x o) h h':=by
 have hx:∀b,H b=none->b≠x:=λb n z=>by subst z;rw[n]at mu;exact mu
 have hb:∀b,H b=none->b≠e:=λb n z=>by
   subst z
   rcases he with r | r
   . exact hx b n r
   . rw[n]at r;cases r
 have hm:∀b u,H b=some u->¬MI (some u)->b≠x:=λb u q nm z=>by subst z;rw[q]at mu;exact nm mu
 refine⟨λb u q n _ _=>k b u (hb b n) q,λb u q n _ _=>⟨u.slots,k b u (hb b n) q⟩,λb u q n _=>by rw[qj (hx b n)];exact n,λb u q _=>?_,
   λb xs q=>by rw[qj (hm b _ q λz=>z)];exact q,λb u xs q=>by rw[qj (hm b _ q λz=>z)];exact q,λb ps q=>⟨#[],by rw[qj (hm b _ q λz=>z),q];simp⟩⟩
 by_cases hbe:b=e
 . subst hbe;exact heo
 . exact⟨u,k b u hbe q⟩
end
def trk (h:Heap) (H:Hp):List Addr:=(zac h.objs.size).filter λa=>(H a).isSome
def X8 (h:Heap) (H:Hp):Heap:=PySem.W.hideAll h (trk h H)
theorem yM (h:Heap) (H:Hp):(X8 h H).objs.size=h.objs.size:=PySem.W.hideAll_size _ _
theorem ur {h:Heap} {H:Hp} {b:Addr} {o:Obj} (e:h.get? b=some o) (n:H b=none):(X8 h H).get? b=some o:=
 PySem.W.hideAll_get _ e λhm=>by
   have q:(H b).isSome=true:=(tX.mp hm).2
   rw[n]at q;simp at q
theorem Gj {h:Heap} {H:Hp} {b:Addr} {o:Obj} (e:(X8 h H).get? b=some o):h.get? b=some o/\H b=none:=by
 have e':h.get? b=some o:=PySem.W.of_hideAll (trk h H) e
 refine⟨e',?_⟩
 cases q:H b with
 | none=>rfl
 | some x=>
   have hm:b∈trk h H:=tX.mpr ⟨zaG.mpr (tQ e'),by simp [q]⟩
   have z:(X8 h H).get? b=none:=PySem.W.hideAll_none (trk h H) hm
   rw[z]at e;cases e
def Rz (g h:Heap) (L:Addr):List (Addr×Obj):=(zac h.objs.size).filterMap λa=>if a=L\/(g.get? a).isSome=true then none else (h.get? a).map λo=>(a,o)
def rest (g h:Heap) (L d:Addr):List (Addr×Obj):=(Rz g h L).filter λp=>decide (p.1≠d)
structure Mod (K:PySem.W.Frag) (mg:Str->Option Value) (base:Heap):Prop where
 kin:K.In base
 glob:base.Ns mainGlobals mg
 blt:∃mb,base.Ns builtinsNs mb/\∀x:Str,x≠"__name__"->mb x=bootBuiltins x
 nolimit:base.NoLimit
structure Cx where
 prog:Program
 w:World
 K:PySem.W.Frag
 mg:Str->Option Value
 base:Heap
 A:Around
 N:List Str
 s₀:Shared
 H₀:Hp
 env:Env
 outer:List Env
 stack:List Env
 ex:List Addr
 fn:Str->Bool
 calm:Bool
 pn:List (Addr×Obj)
 xe:Value->Shared->Prop
def uy (l:List Env):List Addr:=l.filterMap (·.frame)
abbrev Cx.fs (X:Cx):List Addr:=uy X.outer
def Mt (sc:Scope) (x:Str):Prop:=sc.names.lookup x=some .local\/sc.names.lookup x=some .cell\/sc.names.lookup x=some .free
def Mx (sc:Scope) (x:Str):Prop:=sc.names.lookup x=some .local\/sc.names.lookup x=some .cell
def qbW (env:Env) (h:Heap) (m:Str->Option Value) (x:Str) (u:Value):Prop:=
 (env.kindOf x=some .local/\m x=some u)\/((env.kindOf x=some .cell\/env.kindOf x=some .free)/\∃c,env.cells.lookup x=some c/\h.IsCell c (some u))
structure Cx.Ok (X:Cx):Prop where
 mod:Mod X.K X.mg X.base
 kind:X.env.scope.kind=.function
 glob:X.env.globals=mainGlobals
 blt:X.env.builtins=builtinsNs
 above:X.s₀.heap.objs.size<=X.env.locals
 inj:∀x y c,X.env.cells.lookup x=some c->X.env.cells.lookup y=some c->x=y
 has:∀x,(X.env.kindOf x=some .cell\/X.env.kindOf x=some .free)->∃c,X.env.cells.lookup x=some c
 cab:∀x c,X.fn x=true->X.env.cells.lookup x=some c->X.s₀.heap.objs.size<=c
 hd:X.calm=true->X.A.handled=none
 frames:X.A.frames=some X.stack
 stk:X.stack=X.outer\/(X.stack=X.env::X.outer/\X.env.frame=some X.env.locals)
 exf:∀b∈X.ex,b≠X.env.locals/\∀x c,X.env.cells.lookup x=some c->c≠b
 bs:∀b o,X.base.get? b=some o->X.s₀.heap.get? b=some o/\X.H₀ b=none
 bsz:X.base.objs.size<=X.s₀.heap.objs.size
 noex:∀b o,X.base.get? b=some o->b∉X.ex
 exfs:∀b∈X.ex,b∉X.fs
 funs:X.s₀.heap.FunFrames X.base X.outer
 frf:∀b∈X.fs,X.H₀ b=none
structure qD (X:Cx) (pins:List (Addr×Obj)) (σ:List (Option V)) (H:Hp) (s:Shared):Prop where
 ok:X.Ok
 os:s.os=X.s₀.os
 bare:AllBare s.gens
 base:Un X.fs X.ex X.H₀ H X.s₀.heap s.heap
 loc:∃m,s.heap.Ns X.env.locals m/\∀(i:Nat) (x:Str) (v:V),X.N[i]?=some x->σ[i]?=some (some v)->Mt X.env.scope x->∃u,qQ v u/\qbW X.env s.heap m x u
 cell:∀x c,X.env.cells.lookup x=some c->∃v,s.heap.IsCell c v
 free:H X.env.locals=none
 freeC:∀x c,X.env.cells.lookup x=some c->H c=none\/(X.fn x=false/\∃o,H c=some (.frz o (.frz o (.own 0))))
 pin:∀p∈X.pn++pins,s.heap.get? p.1=some p.2/\H p.1=none/\p.1≠X.env.locals/\p.1∉X.fs/\∀v,p.2.data≠.cell v
 hok:ZJ X.prog X.w H s.heap
 len:σ.length=X.N.length
section
variable {X:Cx} {pins:List (Addr×Obj)} {σ:List (Option V)} {H H':Hp} {s:Shared} {h':Heap}
theorem Cx.Ok.nofr (ok:X.Ok) {b:Addr} {o:Obj} (e:X.base.get? b=some o):b∉X.fs:=λhb=>by
 have:=(ok.funs.mem hb).1
 rw[e]at this;cases this
theorem qD.bs (I:qD X pins σ H s):∀b o,X.base.get? b=some o->s.heap.get? b=some o/\H b=none:=λb o e=>
 ⟨I.base.keep b o (I.ok.bs b o e).1 (I.ok.bs b o e).2 (I.ok.nofr e) (I.ok.noex b o e),I.base.free b o (I.ok.bs b o e).1 (I.ok.bs b o e).2 (I.ok.noex b o e)⟩
theorem qD.bk (I:qD X pins σ H s):∀b o,X.base.get? b=some o->s.heap.get? b=some o:=λb o e=>(I.bs b o e).1
theorem qD.mod (I:qD X pins σ H s):Mod X.K X.mg X.base:=I.ok.mod
theorem qD.kIn (I:qD X pins σ H s):X.K.In s.heap:=I.ok.mod.kin.keeps I.bk
theorem qD.lt (I:qD X pins σ H s):X.env.locals < s.heap.objs.size:=let ⟨_,hn,_⟩:=I.loc;hn.lt
theorem qD.sz (I:qD X pins σ H s):X.s₀.heap.objs.size<=s.heap.objs.size:=zag I.ok.above (zak I.lt)
theorem qD.nofs (I:qD X pins σ H s) {a:Addr} (h:s.heap.objs.size<=a):a∉X.fs:=λhb=>by
 obtain⟨_,o,ho,_⟩:=I.ok.funs.mem hb
 exact absurd (tT (tQ ho) (zag I.sz h)) (zaw _)
theorem qD.cne (I:qD X pins σ H s):∀x c,X.env.cells.lookup x=some c->c≠X.env.locals:=λx c e z=>by
 obtain⟨v,o,ho,hd⟩:=I.cell x c e
 obtain⟨m,⟨o',es,ep,ho',hd',_⟩,_⟩:=I.loc
 rw[z,ho']at ho;cases ho;rw[hd']at hd;cases hd
theorem qD.funs (I:qD X pins σ H s):s.heap.FunFrames X.base X.outer:=by
 have all:∀(l:List Env),(∀b∈uy l,b∈X.fs)->X.s₀.heap.FunFrames X.base l->s.heap.FunFrames X.base l:=by
   intro l
   induction l with
   | nil=>intro _ _;trivial
   | cons env r ih=>
     intro hs hl
     obtain⟨hk,⟨L,o,hf,hn,ho,hd⟩,hr⟩:=hl
     have hL:L∈X.fs:=hs L (by unfold uy;rw[zar,hf];exact zaa)
     obtain⟨sl,e⟩:=I.base.slot L o ho (I.ok.frf L hL) hL λz=>I.ok.exfs L z hL
     exact⟨hk,⟨L,_,hf,hn,e,hd⟩,ih (λb hb=>hs b (by unfold uy;rw[zar,hf];exact tU _ hb)) hr⟩
 exact all X.outer (λ_ hb=>hb) I.ok.funs
theorem qD.stack (I:qD X pins σ H s):s.heap.FunFrames X.base X.stack:=by
 rcases I.ok.stk with e | ⟨e,hf⟩
 . rw[e];exact I.funs
 . rw[e]
   obtain⟨m,hn,_⟩:=I.loc
   refine .cons (by rw[I.ok.kind];decide) hf hn ?_ I.funs
   exact Heap.get?_none_of_le (zag I.ok.bsz I.ok.above)
theorem qD.stkSub (I:qD X pins σ H s):∀b∈uy X.stack,b∈X.env.locals::X.fs:=λb hb=>by
 rcases I.ok.stk with e | ⟨e,hf⟩
 . rw[e]at hb;exact tU _ hb
 . rw[e]at hb
   unfold uy at hb
   rw[zar,hf]at hb
   exact hb
theorem qD.stkFree (I:qD X pins σ H s):∀b∈uy X.stack,H b=none:=λb hb=>by
 rcases t8.mp (I.stkSub b hb) with e | hb
 . rw[e];exact I.free
 . obtain⟨_,o,ho,_⟩:=I.ok.funs.mem hb
   exact I.base.free b o ho (I.ok.frf b hb) λz=>I.ok.exfs b z hb
theorem qD.step {g':Array GenState} {t':Nat} {d':Drawn} {ch:List Addr} (I:qD X pins σ H s)
   (hch:∀b∈ch,(b∈X.ex\/X.s₀.heap.objs.size<=b)/\b≠X.env.locals/\(∀x c,X.env.cells.lookup x=some c->c≠b)/\∀p∈X.pn++pins,p.1≠b)
   (keep:∀b o,b≠X.env.locals->b∉X.fs->b∉ch->s.heap.get? b=some o->H b=none->h'.get? b=some o)
   (slot:∀b o,b≠X.env.locals->b∈X.fs->b∉ch->s.heap.get? b=some o->H b=none->∃sl,h'.get? b=some {o with slots:=sl}) (free:∀b o,b∉ch->s.heap.get? b=some o->H b=none->H' b=none)
   (there:∀b o,b∉ch->s.heap.get? b=some o->∃o',h'.get? b=some o')
   (tups:∀b xs,H b=some (.tup xs)->H' b=some (.tup xs)) (frzs:∀b o u,H b=some (.frz o u)->H' b=some (.frz o u)) (tbls:∀b ps,H b=some (.tbl ps)->∃more,H' b=some (.tbl (ps++more)))
   (ns:∀m,s.heap.Ns X.env.locals m->h'.Ns X.env.locals m) (hok:ZJ X.prog X.w H' h') (hg:AllBare g'):
   qD X pins σ H' {s with heap:=h',gens:=g',drawn:=d',toks:=t'}:=by
 have neL:∀b o,X.s₀.heap.get? b=some o->b≠X.env.locals:=λb o e=>zab (tT (tQ e) I.ok.above)
 have neC:∀b o,X.s₀.heap.get? b=some o->b∉X.ex->b∉ch:=λb o e hx hb=>by
   rcases(hch b hb).1 with z | z
   . exact hx z
   . exact absurd (tT (tQ e) z) (zaw _)
 have cellK:∀x c,X.env.cells.lookup x=some c->∀v,s.heap.IsCell c v->h'.IsCell c v:=λx c e v ⟨o,ho,hd⟩=>by
   have nch:c∉ch:=λz=>(hch c z).2.2.1 x c e rfl
   rcases I.freeC x c e with fc | ⟨_,oc,fc⟩
   . by_cases hc:c∈X.fs
     . obtain⟨sl,q⟩:=slot c o (I.cne x c e) hc nch ho fc
       exact⟨_,q,hd⟩
     . exact⟨o,keep c o (I.cne x c e) hc nch ho fc,hd⟩
   . obtain⟨e1,_⟩:=(show qX X.prog X.w H s.heap c (.frz oc (.frz oc (.own 0))) from I.hok c _ fc)
     obtain⟨e2,_⟩:=(show qX X.prog X.w H' h' c (.frz oc (.frz oc (.own 0))) from hok c _ (frzs c oc _ fc))
     rw[ho]at e1
     cases e1
     exact⟨o,e2,hd⟩
 refine⟨I.ok,I.os,hg,⟨λb o e n hb hx=>?_,λb o e n hb hx=>?_,λb o e n hx=>?_,λb o e hx=>?_,λb xs e=>tups b xs (I.base.tups b xs e),λb o xs e=>frzs b o xs (I.base.frzs b o xs e),λb ps e=>?_⟩,?_,λx c e=>?_,?_,λx c e=>?_,λp hp=>?_,hok,I.len⟩
 . exact keep b o (neL b o e) hb (neC b o e hx) (I.base.keep b o e n hb hx) (I.base.free b o e n hx)
 . obtain⟨sl,e1⟩:=I.base.slot b o e n hb hx
   obtain⟨sl',e2⟩:=slot b _ (neL b o e) hb (neC b o e hx) e1 (I.base.free b o e n hx)
   exact⟨sl',e2⟩
 . obtain⟨o',e1⟩:=I.base.there b o e hx
   exact free b o' (neC b o e hx) e1 (I.base.free b o e n hx)
 . obtain⟨o',e1⟩:=I.base.there b o e hx
   exact there b o' (neC b o e hx) e1
 . obtain⟨m1,e1⟩:=I.base.tbls b ps e
   obtain⟨m2,e2⟩:=tbls b _ e1
   exact⟨m1++m2,by rw[e2,Array.append_assoc]⟩
 . obtain⟨m,hn,hl⟩:=I.loc
   refine⟨m,ns m hn,λi x v e1 e2 e3=>?_⟩
   obtain⟨u,r,l⟩:=hl i x v e1 e2 e3
   refine⟨u,r,?_⟩
   rcases l with l | ⟨k,c,e,z⟩
   . exact .inl l
   . exact .inr ⟨k,c,e,cellK x c e _ z⟩
 . obtain⟨v,z⟩:=I.cell x c e
   exact⟨v,cellK x c e v z⟩
 . obtain⟨m,⟨o,_,_,ho,_⟩,_⟩:=I.loc
   exact free _ o (λz=>(hch _ z).2.1 rfl) ho I.free
 . obtain⟨v,o,ho,hd⟩:=I.cell x c e
   rcases I.freeC x c e with fc | ⟨fx,oc,fc⟩
   . exact .inl (free c o (λz=>(hch c z).2.2.1 x c e rfl) ho fc)
   . exact .inr ⟨fx,oc,frzs c oc _ fc⟩
 . obtain⟨e,n,ne,nf,d⟩:=I.pin p hp
   have nch:p.1∉ch:=λz=>(hch p.1 z).2.2.2 p hp rfl
   exact⟨keep p.1 p.2 ne nf nch e n,free p.1 p.2 nch e n,ne,nf,d⟩
theorem qD.un {t':Nat} (I:qD X pins σ H s) (u:Un X.fs [] H H' s.heap h') (hok:ZJ X.prog X.w H' h'):qD X pins σ H' {s with heap:=h',toks:=t'}:=by
 obtain⟨m,⟨o,es,ep,ho,r⟩,_⟩:=id I.loc
 obtain⟨sl,hL⟩:=u.any ho I.free (by simp)
 exact I.step (g':=s.gens) (d':=s.drawn) (ch:=[]) (λ_ z=>nomatch z) (λb o _ hb _ e n=>u.keep b o e n hb (by simp)) (λb o _ hb _ e n=>u.slot b o e n hb (by simp)) (λb o _ e n=>u.free b o e n (by simp)) (λb o _ e=>u.there b o e (by simp)) u.tups u.frzs u.tbls (λm' hm=>by
   obtain⟨o',es',ep',ho',r'⟩:=hm
   rw[ho]at ho';cases ho'
   exact⟨_,es',ep',hL,r'⟩) hok I.bare
theorem qD.call {g':Array GenState} {t':Nat} {d':Drawn} {ch:List Addr} (I:qD X pins σ H s) (u:Un (uy X.stack) ch H H' s.heap h') (hok:ZJ X.prog X.w H' h') (hg:AllBare g')
   (hch:∀b∈ch,(b∈X.ex\/X.s₀.heap.objs.size<=b)/\b≠X.env.locals/\(∀x c,X.env.cells.lookup x=some c->c≠b)/\∀p∈X.pn++pins,p.1≠b):
   qD X pins σ H' {s with heap:=h',gens:=g',drawn:=d',toks:=t'}:=by
 obtain⟨m,⟨o,es,ep,ho,r⟩,_⟩:=id I.loc
 obtain⟨sl,hL⟩:=u.any ho I.free λz=>(hch _ z).2.1 rfl
 exact I.step (ch:=ch) hch (λb o hL hb hc e n=>u.keep b o e n (λz=>(t8.mp (I.stkSub b z)).elim hL hb) hc) (λb o _ _ hc e n=>u.any e n hc) (λb o hc e n=>u.free b o e n hc) (λb o hc e=>u.there b o e hc) u.tups u.frzs u.tbls (λm' hm=>by
   obtain⟨o',es',ep',ho',r'⟩:=hm
   rw[ho]at ho';cases ho'
   exact⟨_,es',ep',hL,r'⟩) hok hg
theorem qD.turned {t':Nat} {it:Addr} (I:qD X pins σ H s) (k:∀b o,b≠it->s.heap.get? b=some o->h'.get? b=some o) (hn:H it=none) (hL:it≠X.env.locals)
   (h1:it∈X.ex\/X.s₀.heap.objs.size<=it) (h2:∀x c,X.env.cells.lookup x=some c->c≠it) (h3:∀p∈X.pn++pins,p.1≠it):qD X pins σ H {s with heap:=h',toks:=t'}:=by
 have nit:∀b u,H b=some u->b≠it:=λb u e z=>by rw[z,hn]at e;cases e
 refine I.step (g':=s.gens) (d':=s.drawn) (ch:=[it]) (λb hb=>?_) (λb o _ _ hc e _=>k b o (λz=>hc (by simp [z])) e) (λb o _ _ hc e _=>⟨o.slots,k b o (λz=>hc (by simp [z])) e⟩) (λ_ _ _ _ n=>n)
   (λb o hc e=>⟨o,k b o (λz=>hc (by simp [z])) e⟩) (λ_ _ e=>e) (λ_ _ _ e=>e) (λb ps e=>⟨#[],by rw[e];simp⟩) (λm hm=>?_) (λb u e=>?_) I.bare
 . have e:b=it:=by simpa using hb
   subst e
   exact⟨h1,hL,h2,h3⟩
 . obtain⟨o,es,ep,ho,r⟩:=hm
   exact⟨o,es,ep,k _ o (Ne.symm hL) ho,r⟩
 . refine(I.hok b u e).stay (λc v hc q=>k c v ?_ q) (λ_ q=>q) λ_ _ q=>q
   rcases hc with z | z
   . rw[z];exact nit b u e
   . exact nit c _ z
theorem qD.tok (I:qD X pins σ H s) (t:Nat):qD X pins σ H {s with toks:=t}:=I.un (h':=s.heap) (t':=t) Un.refl I.hok
theorem qD.kept {t':Nat} (I:qD X pins σ H s) (k:∀b u,s.heap.get? b=some u->h'.get? b=some u):qD X pins σ H {s with heap:=h',toks:=t'}:=I.un (Un.kept k) (I.hok.kept k)
theorem qD.laid {a:Addr} {o:HO} {t':Nat} (I:qD X pins σ H s) (k:∀b u,s.heap.get? b=some u->h'.get? b=some u) (hp:s.heap.objs.size<=a) (new:qX X.prog X.w (upd H a o) h' a o):
   qD X pins σ (upd H a o) {s with heap:=h',toks:=t'}:=I.un (Un.laid k hp (I.hok.fresh hp)) (I.hok.laid k hp new)
theorem qD.write {x e:Addr} {o:HO} {t':Nat} (I:qD X pins σ H s) (mu:MI (H x)) (he:e=x\/H e=some (.own x)) (k:∀b u,b≠e->s.heap.get? b=some u->h'.get? b=some u) (heo:∃u,h'.get? e=some u)
   (new:qX X.prog X.w (upd H x o) h' x o):qD X pins σ (upd H x o) {s with heap:=h',toks:=t'}:=I.un (Un.write mu he k heo) (I.hok.write mu he k heo new)
theorem qD.pins_of {pins':List (Addr×Obj)} (I:qD X pins σ H s) (h:∀p∈pins',s.heap.get? p.1=some p.2/\H p.1=none/\p.1≠X.env.locals/\p.1∉X.fs/\∀v,p.2.data≠.cell v):qD X pins' σ H s:=
 ⟨I.ok,I.os,I.bare,I.base,I.loc,I.cell,I.free,I.freeC,λp hp=>(tV.mp hp).elim (λz=>I.pin p (zai _ z)) (h p),I.hok,I.len⟩
theorem V3 {N:List Str} (hN:N.Nodup) {i j:Nat} {x:Str} (a:N[i]?=some x) (b:N[j]?=some x):i=j:=by
 obtain⟨h1,e1⟩:=tE.mp a
 obtain⟨h2,e2⟩:=tE.mp b
 exact(List.getElem_inj hN).mp (e1.trans e2.symm)
theorem zS {M:Model} {A:Around} {E:Value->Shared->Prop} {i:Nat} {x:Str} {v:V} {u:Value} {Q:Unit->Shared->Prop} (I:qD X pins σ H s) (hN:X.N.Nodup) (hi:X.N[i]?=some x) (hx:Mx X.env.scope x) (r:qQ v u)
   (h:∀s',qD X pins (σ.set i (some v)) H s'->(∃a,Heap.SameBut a s.heap s'.heap/\(a=X.env.locals\/X.env.cells.lookup x=some a))->Q () s') (hf:X.fn x=true\/X.env.scope.names.lookup x=some .local:=by first | exact .inl rfl | exact .inr rfl | assumption):wpAny M A (storeName X.env x u) Q E s:=by
 obtain⟨m,hn,hl⟩:=id I.loc
 have hcls:(X.env.scope.kind==.class || (X.env.scope.kind==.module&&X.env.locals != X.env.globals))=false:=by rw[I.ok.kind];rfl
 have hiσ:i < σ.length:=by rw[I.len];exact(tE.mp hi).1
 have cne:=I.cne
 have tracked:∀{a:Addr} {h':Heap},(∃o,s.heap.get? a=some o/\H a=none)->Heap.SameBut a s.heap h'->ZJ X.prog X.w H h':=λ{a h'} ha hs b ob e=>by
   obtain⟨_,_,hfree⟩:=ha
   refine(I.hok b ob e).stay (λc w' hc q=>(hs.2 c ?_).trans q) (λ_ q=>q) λ_ _ q=>q
   rintro rfl
   rcases hc with rfl | hc
   . rw[hfree]at e;cases e
   . rw[hfree]at hc;cases hc
 rcases hx with hk | hk
 . refine wpAny_storeName_local hk hn (λh' hn' hs=>?_) hcls
   obtain⟨oL,_,_,hoL,_⟩:=id hn
   refine h _ ⟨I.ok,I.os,I.bare,⟨λb o e n hb hx=>?_,λb o e n hb hx=>?_,I.base.free,λb o e hx=>?_,I.base.tups,I.base.frzs,I.base.tbls⟩,⟨_,hn',λj y v' e1 e2 e3=>?_⟩,λy c e=>?_,I.free,I.freeC,λp hp=>?_,tracked ⟨oL,hoL,I.free⟩ hs,by simpa using I.len⟩ ⟨_,hs,.inl rfl⟩
   . exact(hs.2 b (zab (tT (tQ e) I.ok.above))).trans (I.base.keep b o e n hb hx)
   . obtain⟨sl,e1⟩:=I.base.slot b o e n hb hx
     exact⟨sl,(hs.2 b (zab (tT (tQ e) I.ok.above))).trans e1⟩
   . obtain⟨o',e1⟩:=I.base.there b o e hx
     exact⟨o',(hs.2 b (zab (tT (tQ e) I.ok.above))).trans e1⟩
   . by_cases hj:j=i
     . subst hj
       rw[hi]at e1;cases e1
       rw[zdm hiσ]at e2
       cases e2
       exact⟨u,r,.inl ⟨hk,by simp⟩⟩
     . rw[zdx (Ne.symm hj)]at e2
       obtain⟨u',r',q⟩:=hl j y v' e1 e2 e3
       refine⟨u',r',?_⟩
       rcases q with ⟨k,e⟩ | ⟨k,c,e,z⟩
       . refine .inl ⟨k,?_⟩
         have:y≠x:=λe=>hj (V3 hN e1 (e▸hi))
         simp [this,e]
       . exact .inr ⟨k,c,e,z.sameBut hs (cne y c e)⟩
   . obtain⟨w',z⟩:=I.cell y c e
     exact⟨w',z.sameBut hs (cne y c e)⟩
   . obtain⟨e,n,ne,nf,d⟩:=I.pin p hp
     exact⟨(hs.2 p.1 ne).trans e,n,ne,nf,d⟩
 . have hfn:X.fn x=true:=by
     rcases hf with z | z
     . exact z
     . rw[z]at hk;cases hk
   obtain⟨c,hc⟩:=I.ok.has x (.inl hk)
   obtain⟨w',z⟩:=I.cell x c hc
   refine wpAny_storeName_cell I.ok.kind hk hc z (λh' hc' hs=>?_)
   obtain⟨oc,hoc,hocd⟩:=id z
   have fcn:H c=none:=(I.freeC x c hc).elim id λz=>by rw[hfn]at z;cases z.1
   refine h {s with heap:=h'} ⟨I.ok,I.os,I.bare,⟨λb o e n hb hx=>?_,λb o e n hb hx=>?_,I.base.free,λb o e hx=>?_,I.base.tups,I.base.frzs,I.base.tbls⟩,⟨m,hn.sameBut hs (Ne.symm (cne x c hc)),λj y v' e1 e2 e3=>?_⟩,λy c' e=>?_,I.free,I.freeC,λp hp=>?_,tracked ⟨oc,hoc,fcn⟩ hs,by simpa using I.len⟩ ⟨c,hs,.inr hc⟩
   . exact(hs.2 b (zab (tT (tQ e) (I.ok.cab x c hfn hc)))).trans (I.base.keep b o e n hb hx)
   . obtain⟨sl,e1⟩:=I.base.slot b o e n hb hx
     exact⟨sl,(hs.2 b (zab (tT (tQ e) (I.ok.cab x c hfn hc)))).trans e1⟩
   . obtain⟨o',e1⟩:=I.base.there b o e hx
     exact⟨o',(hs.2 b (zab (tT (tQ e) (I.ok.cab x c hfn hc)))).trans e1⟩
   . by_cases hj:j=i
     . subst hj
       rw[hi]at e1;cases e1
       rw[zdm hiσ]at e2
       cases e2
       exact⟨u,r,.inr ⟨.inl hk,c,hc,hc'⟩⟩
     . rw[zdx (Ne.symm hj)]at e2
       obtain⟨u',r',q⟩:=hl j y v' e1 e2 e3
       refine⟨u',r',?_⟩
       rcases q with q | ⟨k,c',e,z'⟩
       . exact .inl q
       . refine .inr ⟨k,c',e,z'.sameBut hs ?_⟩
         rintro rfl
         exact hj (V3 hN e1 (I.ok.inj _ _ _ e hc▸hi))
   . by_cases hcc:c'=c
     . subst hcc;exact⟨_,hc'⟩
     . obtain⟨w2,z2⟩:=I.cell y c' e
       exact⟨w2,z2.sameBut hs hcc⟩
   . obtain⟨e,n,ne,nf,d⟩:=I.pin p hp
     refine⟨(hs.2 p.1 ?_).trans e,n,ne,nf,d⟩
     intro q
     rw[q,hoc]at e
     have q':oc=p.2:=tO.inj e
     exact d w' (by rw[<-q'];exact hocd)
theorem Y8 {M:Model} {A:Around} {E:Value->Shared->Prop} {i:Nat} {x:Str} {v:V} {u:Value} {Q:Unit->Shared->Prop} (I:qD X pins σ H s) (hN:X.N.Nodup) (hi:X.N[i]?=some x) (hx:Mx X.env.scope x) (r:qQ v u)
   (h:∀s',qD X pins (σ.set i (some v)) H s'->Q () s') (hf:X.fn x=true\/X.env.scope.names.lookup x=some .local:=by first | exact .inl rfl | exact .inr rfl | assumption):wpAny M A (storeName X.env x u) Q E s:=
 zS I hN hi hx r (λs' I' _=>h s' I') hf
theorem qD.call' {s':Shared} {ch:List Addr} (I:qD X pins σ H s) (ho:s'.os=s.os) (u:Un (uy X.stack) ch H H' s.heap s'.heap) (hok:ZJ X.prog X.w H' s'.heap) (hg:AllBare s'.gens)
   (hch:∀b∈ch,(b∈X.ex\/X.s₀.heap.objs.size<=b)/\b≠X.env.locals/\(∀x c,X.env.cells.lookup x=some c->c≠b)/\∀p∈X.pn++pins,p.1≠b):qD X pins σ H' s':=by
 obtain⟨h',g',d',t',o'⟩:=s'
 have e:o'=s.os:=ho
 subst e
 exact I.call (g':=g') (t':=t') (d':=d') u hok hg hch
end
abbrev XK:=Value->Option Addr->Hp->Prop
abbrev St:=List (Option V)
abbrev VK:=V->Hp->Prop
abbrev TE:=St->Hp->VK->Prop
abbrev TT:=St->Hp->(Bool->Hp->Prop)->Prop
abbrev TA:=St->Hp->(List V->Hp->Prop)->Prop
structure Za where
 nx:St->Hp->Prop
 rt:VK
 bk:St->Hp->Prop:=λ_ _=>False
 ct:St->Hp->Prop:=λ_ _=>False
abbrev TS:=Za->St->Hp->Prop
def EP (X:Cx) (pins:List (Addr×Obj)) (σ:St) (Q:VK) (u:Value) (s':Shared):Prop:=∃v H',qD X pins σ H' s'/\qQ v u/\Q v H'
def TP (X:Cx) (pins:List (Addr×Obj)) (σ:St) (Q:Bool->Hp->Prop) (b:Bool) (s':Shared):Prop:=∃H',qD X pins σ H' s'/\Q b H'
def AP (X:Cx) (pins:List (Addr×Obj)) (σ:St) (Q:List V->Hp->Prop) (us:List Value) (s':Shared):Prop:=∃vs H',qD X pins σ H' s'/\qJ vs us/\Q vs H'
def SP (X:Cx) (pins:List (Addr×Obj)) (D:Za) (f:Flow) (s':Shared):Prop:=
 match f with
 | .next=>∃σ' H',qD X pins σ' H' s'/\D.nx σ' H'
 | .brk=>∃σ' H',qD X pins σ' H' s'/\D.bk σ' H'
 | .cont=>∃σ' H',qD X pins σ' H' s'/\D.ct σ' H'
 | .ret u=>∃v σ' H',qD X pins σ' H' s'/\qQ v u/\D.rt v H'
def PE (X:Cx) (e:Expr) (t:TE):Prop:=
 ∀(pins:List (Addr×Obj)) (s:Shared) (σ:St) (H:Hp) (Q:VK),qD X pins σ H s->t σ H Q->wpAny (model X.prog X.w) X.A (eval e X.env) (EP X pins σ Q) X.xe s
@[irreducible] def JE (X:Cx) (e:Expr) (t:TE):Prop:=PE X e t
theorem JE.of {X:Cx} {e:Expr} {t:TE} (h:PE X e t):JE X e t:=by unfold JE;exact h
theorem JE.to {X:Cx} {e:Expr} {t:TE} (h:JE X e t):PE X e t:=by unfold JE at h;exact h
def PT (X:Cx) (e:Expr) (t:TT):Prop:=
 ∀(pins:List (Addr×Obj)) (s:Shared) (σ:St) (H:Hp) (Q:Bool->Hp->Prop),qD X pins σ H s->t σ H Q->wpAny (model X.prog X.w) X.A (isTrue e X.env (eval e X.env)) (TP X pins σ Q) X.xe s
@[irreducible] def JT (X:Cx) (e:Expr) (t:TT):Prop:=PT X e t
theorem JT.of {X:Cx} {e:Expr} {t:TT} (h:PT X e t):JT X e t:=by unfold JT;exact h
theorem JT.to {X:Cx} {e:Expr} {t:TT} (h:JT X e t):PT X e t:=by unfold JT at h;exact h
def PW (X:Cx) (e:Expr) (t:TT):Prop:=
 ∀(whole:Sem Value) (pins:List (Addr×Obj)) (s:Shared) (σ:St) (H:Hp) (Q:Bool->Hp->Prop),qD X pins σ H s->t σ H Q->wpAny (model X.prog X.w) X.A (isTrue e X.env whole) (TP X pins σ Q) X.xe s
theorem PW.pt {X:Cx} {e:Expr} {t:TT} (h:PW X e t):PT X e t:=h _
@[irreducible] def JW (X:Cx) (e:Expr) (t:TT):Prop:=PW X e t
theorem JW.of {X:Cx} {e:Expr} {t:TT} (h:PW X e t):JW X e t:=by unfold JW;exact h
theorem JW.to {X:Cx} {e:Expr} {t:TT} (h:JW X e t):PW X e t:=by unfold JW at h;exact h
theorem JW.pt {X:Cx} {e:Expr} {t:TT} (h:JW X e t):JT X e t:=.of h.to.pt
def PA (X:Cx) (es:List Expr) (t:TA):Prop:=
 ∀(pos:Pos) (pins:List (Addr×Obj)) (s:Shared) (σ:St) (H:Hp) (Q:List V->Hp->Prop),qD X pins σ H s->t σ H Q->wpAny (model X.prog X.w) X.A (spliced (backTo pos (starEach es X.env))) (AP X pins σ Q) X.xe s
@[irreducible] def JA (X:Cx) (es:List Expr) (t:TA):Prop:=PA X es t
theorem JA.of {X:Cx} {es:List Expr} {t:TA} (h:PA X es t):JA X es t:=by unfold JA;exact h
theorem JA.to {X:Cx} {es:List Expr} {t:TA} (h:JA X es t):PA X es t:=by unfold JA at h;exact h
def PS (X:Cx) (st:Stmt) (t:TS):Prop:=
 ∀(pins:List (Addr×Obj)) (s:Shared) (σ:St) (H:Hp) (D:Za),qD X pins σ H s->t D σ H->wpAny (model X.prog X.w) X.A (exec st X.env) (SP X pins D) X.xe s
@[irreducible] def JS (X:Cx) (st:Stmt) (t:TS):Prop:=PS X st t
theorem JS.of {X:Cx} {st:Stmt} {t:TS} (h:PS X st t):JS X st t:=by unfold JS;exact h
theorem JS.to {X:Cx} {st:Stmt} {t:TS} (h:JS X st t):PS X st t:=by unfold JS at h;exact h
def R5 (X:Cx) (st:List Stmt) (t:TS):Prop:=
 ∀(pins:List (Addr×Obj)) (s:Shared) (σ:St) (H:Hp) (D:Za),qD X pins σ H s->t D σ H->wpAny (model X.prog X.w) X.A (execs st X.env) (SP X pins D) X.xe s
@[irreducible] def Vr (X:Cx) (st:List Stmt) (t:TS):Prop:=R5 X st t
theorem Vr.of {X:Cx} {st:List Stmt} {t:TS} (h:R5 X st t):Vr X st t:=by unfold Vr;exact h
theorem Vr.to {X:Cx} {st:List Stmt} {t:TS} (h:Vr X st t):R5 X st t:=by unfold Vr at h;exact h
theorem jl {α:Type} {t:Sem α} {Q Q':α->Shared->Prop} {M:Model} {A:Around} {E:Value->Shared->Prop} {s:Shared} (h:wpAny M A t Q E s) (hQ:∀a s,Q a s->Q' a s):wpAny M A t Q' E s:=wpAny_mono h hQ λ_ _ x=>x
section
variable {X:Cx}
def q5 (i:Nat):TE:=λσ H Q=>∃v,σ[i]?=some (some v)/\Q v H
def tC (v:V):TE:=λ_ H Q=>Q v H
theorem wc {i:Nat} {x:Str} {pos:Pos} (hN:X.N[i]?=some x) (hv:Mt X.env.scope x) (hd:(x==("__debug__":Str))=false:=by decide) (hcd:(x==("__classdict__":Str))=false:=by decide):PE X (.Name x pos) (q5 i):=by
 intro pins s σ H Q I h
 obtain⟨v,e,h⟩:=h
 obtain⟨m,hn,hl⟩:=I.loc
 obtain⟨u,r,l⟩:=hl i x v hN e hv
 have fin:EP X pins σ Q u s:=⟨v,H,I,r,h⟩
 rcases l with ⟨hk,hm⟩ | ⟨hk,c,hc,hcell⟩
 . exact wpAny_Name (wpAny_loadName_local I.ok.kind hk hn hm fin) hd
 . rcases hk with hk | hk
   . exact wpAny_Name (wpAny_loadName_cell I.ok.kind hk hc hcell fin) hd
   . exact wpAny_Name (wpAny_loadName_free I.ok.kind hk hc hcell fin hcd) hd
theorem qi {i j pos}:JE X (.Constant (.int i) j pos) (tC (.int i)):=.of (by
 exact λ_ _ _ H _ I h=>wpAny_Constant_int ⟨.int i,H,I.tok _,⟨_,rfl⟩,h⟩)
theorem Qg {b j pos}:JE X (.Constant (.bool b) j pos) (tC (.bl b)):=.of (by
 exact λ_ _ _ H _ I h=>Constant_bool ⟨.bl b,H,I,rfl,h⟩)
theorem qP {x j pos}:JE X (.Constant (.str x) j pos) (tC (.str x)):=.of (by
 exact λ_ _ _ H _ I h=>Calls.Constant_str ⟨.str x,H,I.tok _,⟨_,rfl⟩,h⟩)
def Gl (X:Cx) (x:Str):Prop:=X.env.kindOf x=some .globalImplicit
theorem Vc {E:Value->Shared->Prop} {pins:List (Addr×Obj)} {s:Shared} {σ:St} {H:Hp} {x:Str} {u:Value} {pos:Pos} {Q:Value->Shared->Prop} (I:qD X pins σ H s) (hg:Gl X x) (hm:X.mg x=some u) (h:Q u s)
   (hd:(x==("__debug__":Str))=false:=by decide):wpAny (model X.prog X.w) X.A (eval (.Name x pos) X.env) Q E s:=
 Calls.Name_function_global I.ok.kind hg (Calls.loadGlobal_global (by rw[I.ok.glob];exact I.mod.glob.keeps I.bk) hm h) hd
theorem Ja {E:Value->Shared->Prop} {pins:List (Addr×Obj)} {s:Shared} {σ:St} {H:Hp} {x:Str} {u:Value} {pos:Pos} {Q:Value->Shared->Prop} (I:qD X pins σ H s) (hg:Gl X x) (hm:X.mg x=none) (hv:bootBuiltins x=some u) (h:Q u s)
   (hn:x≠"__name__":=by decide) (hd:(x==("__debug__":Str))=false:=by decide):wpAny (model X.prog X.w) X.A (eval (.Name x pos) X.env) Q E s:=by
 obtain⟨mb,h1,h2⟩:=I.mod.blt
 exact Calls.Name_function_global I.ok.kind hg (Calls.loadGlobal_builtin (by rw[I.ok.glob];exact I.mod.glob.keeps I.bk) hm (by rw[I.ok.blt];exact h1.keeps I.bk) ((h2 x hn).trans hv) h) hd
theorem J5 {x:Str} {v:V} {u:Value} {pos:Pos} (hg:Gl X x) (hm:X.mg x=some u) (r:qQ v u) (hd:(x==("__debug__":Str))=false:=by decide):JE X (.Name x pos) (tC v):=.of (by
 exact λ_ _ _ H _ I h=>Vc I hg hm ⟨v,H,I,r,h⟩ hd)
theorem J6 {x:Str} {v:V} {u:Value} {pos:Pos} (hg:Gl X x) (hm:X.mg x=none) (hv:bootBuiltins x=some u) (r:qQ v u) (hn:x≠"__name__":=by decide) (hd:(x==("__debug__":Str))=false:=by decide):JE X (.Name x pos) (tC v):=.of (by
 exact λ_ _ _ H _ I h=>Ja I hg hm hv ⟨v,H,I,r,h⟩ hn hd)
variable {a b:Expr} {ta tb:TE} {pos:Pos}
def PC (X:Cx) (op:CmpOp) (a b:Expr) (t:TE):Prop:=
 ∀(pins:List (Addr×Obj)) (s:Shared) (σ:St) (H:Hp) (Q:VK),qD X pins σ H s->t σ H Q->
   wpAny (model X.prog X.w) X.A (eval a X.env) (λv s₁=>wpAny (model X.prog X.w) X.A (eval b X.env) (λu s₂=>wpAny (model X.prog X.w) X.A (compareOp op v u) (EP X pins σ Q) X.xe s₂) X.xe s₁) X.xe s
@[irreducible] def JC (X:Cx) (op:CmpOp) (a b:Expr) (t:TE):Prop:=PC X op a b t
theorem JC.of {X:Cx} {op:CmpOp} {a b:Expr} {t:TE} (h:PC X op a b t):JC X op a b t:=by unfold JC;exact h
theorem JC.to {X:Cx} {op:CmpOp} {a b:Expr} {t:TE} (h:JC X op a b t):PC X op a b t:=by unfold JC at h;exact h
def tB (t:TE):TT:=λσ H Q=>t σ H λx H1=>∃c,x=.bl c/\Q c H1
theorem Qr {op:CmpOp} {t:TE} (h:JC X op a b t) (h1:behindInMarks op b=false:=by first | exact nobehind _ (by decide) (by decide) | rfl):JT X (.Compare a [op] [b] pos) (tB t):=.of (by
 have h:=h.to
 intro pins s σ H Q I hw
 refine wpAny_isTrue_Compare1 (jl (h pins s σ H _ I hw) λv s1 h1=>jl h1 λu s2 h2=>jl h2 λc s3 ⟨x,H1,I1,r1,q1⟩=>?_) h1
 obtain⟨d,rfl,q⟩:=q1
 cases r1
 exact wpAny_truthy_bool ⟨H1,I1,q⟩)
theorem jZ {e:Expr} {t:TE} (h:JE X e t) (he:∀whole,isTrue e X.env whole=(do let v <-whole;standAt e.pos;holding [v] (truthy v)):=by intro _;rfl):JT X e (tB t):=.of (by
 have h:=h.to
 intro pins s σ H Q I hw
 refine isTrue_plain (jl (h pins s σ H _ I hw) λv s1 ⟨x,H1,I1,r1,q1⟩=>?_) (he _)
 obtain⟨d,rfl,q⟩:=q1
 cases r1
 exact wpAny_truthy_bool ⟨H1,I1,q⟩)
variable {tA tB':TT} {rest:List Expr}
def MW (t u:TT):TT:=λσ H Q=>t σ H λc H1=>if c=true then u σ H1 Q else Q false H1
def tOr (t u:TT):TT:=λσ H Q=>t σ H λc H1=>if c=true then Q true H1 else u σ H1 Q
def qbe (t:TT):TT:=λσ H Q=>t σ H λc H1=>Q (!c) H1
theorem jS (ha:JT X a tA):JW X (.BoolOp .And [a] pos) tA:=.of (by
 have ha:=ha.to
 intro wh pins s σ H Q I h
 refine isTrue_and (jl (ha pins s σ H Q I h) λc s1 e=>?_)
 cases c with
 | true=>exact isTrue_and_nil e
 | false=>exact e)
theorem Jw (ha:JT X a tA):JW X (.BoolOp .Or [a] pos) tA:=.of (by
 have ha:=ha.to
 intro wh pins s σ H Q I h
 refine isTrue_or (jl (ha pins s σ H Q I h) λc s1 e=>?_)
 cases c with
 | false=>exact isTrue_or_nil e
 | true=>exact e)
theorem Qd (ha:JT X a tA) (hb:JW X (.BoolOp .And (b::rest) pos) tB'):JW X (.BoolOp .And (a::b::rest) pos) (MW tA tB'):=.of (by
 have ha:=ha.to
 have hb:=hb.to
 intro wh pins s σ H Q I h
 refine isTrue_and (jl (ha pins s σ H _ I h) λc s1 ⟨H1,I1,q1⟩=>?_)
 cases c with
 | true=>exact hb wh pins s1 σ H1 Q I1 q1
 | false=>exact⟨H1,I1,q1⟩)
theorem ZM (ha:JT X a tA) (hb:JW X (.BoolOp .Or (b::rest) pos) tB'):JW X (.BoolOp .Or (a::b::rest) pos) (tOr tA tB'):=.of (by
 have ha:=ha.to
 have hb:=hb.to
 intro wh pins s σ H Q I h
 refine isTrue_or (jl (ha pins s σ H _ I h) λc s1 ⟨H1,I1,q1⟩=>?_)
 cases c with
 | true=>exact⟨H1,I1,q1⟩
 | false=>exact hb wh pins s1 σ H1 Q I1 q1)
theorem Jx (ha:JT X a tA):JT X (.UnaryOp .Not a pos) (qbe tA):=.of (by
 have ha:=ha.to
 intro pins s σ H Q I h
 exact isTrue_not (ha pins s σ H (λc H1=>Q (!c) H1) I h))
def MV (ta tb:TE):TE:=λσ H Q=>ta σ H λx H1=>∃c,x=.bl c/\if c=true then tb σ H1 Q else Q (.bl false) H1
def MO (ta:TE):TE:=λσ H Q=>ta σ H λx H1=>∃c,x=.bl c/\Q (.bl (!c)) H1
theorem Yj {op} {t:TE} (h:JE X a t):JE X (.BoolOp op [a] pos) t:=.of (by
 have h:=h.to
 exact λpins s σ H Q I hw=>BoolOp_one (h pins s σ H Q I hw))
theorem Zn (ha:JE X a ta) (hb:JE X (.BoolOp .And (b::rest) pos) tb):JE X (.BoolOp .And (a::b::rest) pos) (MV ta tb):=.of (by
 have ha:=ha.to
 have hb:=hb.to
 intro pins s σ H Q I h
 refine BoolOp_and (jl (ha pins s σ H _ I h) λv s1 ⟨x,H1,I1,r1,q1⟩=>?_)
 obtain⟨c,rfl,q1⟩:=q1
 cases r1
 refine wpAny_truthy_bool ?_
 cases c with
 | true=>exact hb pins s1 σ H1 Q I1 q1
 | false=>exact⟨.bl false,H1,I1,rfl,q1⟩)
theorem Md (ha:JE X a ta):JE X (.UnaryOp .Not a pos) (MO ta):=.of (by
 have ha:=ha.to
 intro pins s σ H Q I h
 refine UnaryOp_ (jl (ha pins s σ H _ I h) λv s1 ⟨x,H1,I1,r1,q1⟩=>?_)
 obtain⟨c,rfl,q1⟩:=q1
 cases r1
 exact not_of (wpAny_truthy_bool ⟨.bl (!c),H1,I1,rfl,q1⟩))
end
def SqL (K:PySem.W.Frag) (H:Hp) (a:Addr) (xs:List V):Prop:=
 Rd H a (.lst xs)\/
   ∃(o:Obj) (its:Array Value) (n:Nat),K.lookup a=some o/\o.cls=.type "list"/\o.dict=none/\o.data=.seq its n/\its.size<=sizeLine/\qJ xs its.toList
def Y5 (K:PySem.W.Frag) (H:Hp) (a:Addr) (xs:List V):Prop:=
 Rd H a (.tup xs)\/
   ∃(o:Obj) (its:Array Value) (n:Nat),K.lookup a=some o/\o.cls=.type "tuple"/\o.data=.seq its n/\its.size<=sizeLine/\qJ xs its.toList
def qbQ:Value->Option V
 | .none=>some .non
 | .bool b=>some (.bl b)
 | .int i _=>some (.int i)
 | .str x _=>some (.str x)
 | .bytes b _=>some (.byt b)
 | .float b _=>some (.flt b)
 | .ref a=>some (.ref a)
 | .type n=>some (.ty n)
 | _=>none
theorem qQ.abs {x:V} {u:Value} (r:qQ x u):qbQ u=some x:=by
 cases x with
 | non=>cases r;rfl
 | bl _=>cases r;rfl
 | int _=>obtain⟨t,rfl⟩:=r;rfl
 | str _=>obtain⟨t,rfl⟩:=r;rfl
 | byt _=>obtain⟨t,rfl⟩:=r;rfl
 | flt _=>obtain⟨t,rfl⟩:=r;rfl
 | ref _=>cases r;rfl
 | ty _=>cases r;rfl
theorem qQ.inj {x y:V} {u:Value} (r:qQ x u) (q:qQ y u):x=y:=tO.inj (r.abs.symm.trans q.abs)
theorem qJ.inj:∀{xs ys:List V} {us:List Value},qJ xs us->qJ ys us->xs=ys
 | _,_,_,.nil,.nil=>rfl
 | _,_,_,.cons r t,.cons r' t'=>by rw[r.inj r',qJ.inj t t']
section
variable {X:Cx} {pins:List (Addr×Obj)} {σ:St} {H:Hp} {s:Shared} {a:Addr} {xs ys:List V}
theorem SqL.of {K:PySem.W.Frag} (h:H a=some (.lst xs)):SqL K H a xs:=.inl (.inl h)
theorem Y5.of {K:PySem.W.Frag} (h:H a=some (.tup xs)):Y5 K H a xs:=.inl (.inl h)
theorem qD.list (I:qD X pins σ H s) (h:SqL X.K H a xs):∃its:List Value,qJ xs its/\PlainL s.heap a its.toArray/\xs.length<=sizeLine:=by
 rcases h with h | ⟨o,its,n,hk,hc,hd,hs,hz,r⟩
 . obtain⟨z,its,n,r,e⟩:=h.ok I.hok
   exact⟨its,r,⟨_,n,e,rfl,rfl,rfl⟩,z⟩
 . refine⟨its.toList,r,⟨o,n,I.kIn a o hk,hc,hd,by simpa using hs⟩,?_⟩
   have e:=r.length
   simp only[zaB]at e
   omega
theorem qD.tuple (I:qD X pins σ H s) (h:Y5 X.K H a xs):∃its:List Value,qJ xs its/\IsTup s.heap a its.toArray/\xs.length<=sizeLine:=by
 rcases h with h | ⟨o,its,n,hk,hc,hs,hz,r⟩
 . obtain⟨z,its,r,p⟩:=h.ok I.hok
   exact⟨its,r,p,z⟩
 . refine⟨its.toList,r,⟨o,I.kIn a o hk,hc,n,by simpa using hs⟩,?_⟩
   have e:=r.length
   simp only[zaB]at e
   omega
theorem qD.list_inj (I:qD X pins σ H s) (h:SqL X.K H a xs) (h':SqL X.K H a ys):xs=ys:=by
 obtain⟨its,r,⟨o,n,e,_,_,d⟩,_⟩:=I.list h
 obtain⟨its',r',⟨o',n',e',_,_,d'⟩,_⟩:=I.list h'
 rw[e]at e';cases e'
 rw[d]at d'
 injection d' with d1 _
 have:its=its':=by simpa using congrArg Array.toList d1
 subst this
 exact r.inj r'
theorem qD.tuple_inj (I:qD X pins σ H s) (h:Y5 X.K H a xs) (h':Y5 X.K H a ys):xs=ys:=by
 obtain⟨its,r,⟨o,e,_,n,d⟩,_⟩:=I.tuple h
 obtain⟨its',r',⟨o',e',_,n',d'⟩,_⟩:=I.tuple h'
 rw[e]at e';cases e'
 rw[d]at d'
 injection d' with d1 _
 have:its=its':=by simpa using congrArg Array.toList d1
 subst this
 exact r.inj r'
end
abbrev Cx.wish (X:Cx) (E:Value->Shared->Prop):Cx:={X with xe:=E}
abbrev Cx.nox (X:Cx):Cx:=X.wish λ_ _=>False
theorem Cx.Ok.wish {X:Cx} (ok:X.Ok) (E:Value->Shared->Prop):(X.wish E).Ok:=
 ⟨ok.mod,ok.kind,ok.glob,ok.blt,ok.above,ok.inj,ok.has,ok.cab,ok.hd,ok.frames,ok.stk,ok.exf,ok.bs,ok.bsz,ok.noex,ok.exfs,ok.funs,ok.frf⟩
theorem Cx.Ok.unwish {X:Cx} {E:Value->Shared->Prop} (ok:(X.wish E).Ok):X.Ok:=
 ⟨ok.mod,ok.kind,ok.glob,ok.blt,ok.above,ok.inj,ok.has,ok.cab,ok.hd,ok.frames,ok.stk,ok.exf,ok.bs,ok.bsz,ok.noex,ok.exfs,ok.funs,ok.frf⟩
section
variable {X:Cx} {pins:List (Addr×Obj)} {σ:St} {H:Hp} {s:Shared} {E:Value->Shared->Prop}
theorem qD.wish (I:qD X pins σ H s) (E:Value->Shared->Prop):qD (X.wish E) pins σ H s:=⟨I.ok.wish E,I.os,I.bare,I.base,I.loc,I.cell,I.free,I.freeC,I.pin,I.hok,I.len⟩
theorem qD.unwish (I:qD (X.wish E) pins σ H s):qD X pins σ H s:=⟨I.ok.unwish,I.os,I.bare,I.base,I.loc,I.cell,I.free,I.freeC,I.pin,I.hok,I.len⟩
theorem SP.unwish {D:Za} {f:Flow} {s':Shared} (h:SP (X.wish E) pins D f s'):SP X pins D f s':=by
 cases f with
 | next=>obtain⟨σ',H',I,q⟩:=h;exact⟨σ',H',I.unwish,q⟩
 | brk=>obtain⟨σ',H',I,q⟩:=h;exact⟨σ',H',I.unwish,q⟩
 | cont=>obtain⟨σ',H',I,q⟩:=h;exact⟨σ',H',I.unwish,q⟩
 | ret u=>obtain⟨v,σ',H',I,r,q⟩:=h;exact⟨v,σ',H',I.unwish,r,q⟩
theorem R5.nox {st:List Stmt} {t:TS} (h:R5 X.nox st t):R5 X st t:=λpins s σ H D I hw=>
 wpAny_mono (h pins s σ H D (I.wish _) hw) (λ_ _ q=>q.unwish) λ_ _ z=>False.elim z
end
section
variable {X:Cx} {st:Stmt} {rest:List Stmt} {t u:TS} {e:Expr} {te:TE} {pos:Pos}
def vp:TS:=λD σ H=>D.nx σ H
def u7 (t u:TS):TS:=λD σ H=>t {D with nx:=u D} σ H
theorem qC:Vr X [] vp:=.of (by
 exact λ_ _ σ H _ I h=>wpAny_execs_nil ⟨σ,H,I,h⟩)
theorem qe (h1:JS X st t) (h2:Vr X rest u):Vr X (st::rest) (u7 t u):=.of (by
 have h1:=h1.to
 have h2:=h2.to
 intro pins s σ H D I h
 refine wpAny_execs_cons (jl (h1 pins s σ H {D with nx:=u D} I h) λf s1 q=>?_)
 cases f with
 | next=>
   obtain⟨σ',H',I',q⟩:=q
   exact h2 pins s1 σ' H' D I' q
 | ret v=>exact q
 | brk=>exact q
 | cont=>exact q)
theorem qg (h1:JS X st t):Vr X [st] t:=.of (by
 have h1:=h1.to
 intro pins s σ H D I h
 refine wpAny_execs_cons (jl (h1 pins s σ H D I h) λf s1 q=>?_)
 cases f with
 | next=>exact wpAny_execs_nil q
 | ret v=>exact q
 | brk=>exact q
 | cont=>exact q)
theorem qD.quiet {pins:List (Addr×Obj)} {σ:St} {H:Hp} {s:Shared} (I:qD X pins σ H s):interactive X.env=false:=by simp [interactive,I.ok.kind]
def MS (te:TE):TS:=λD σ H=>te σ H λ_ H1=>D.nx σ H1
theorem jC (he:JE X e te) (hs:swapsWith e none pos.line X.env=pure false:=by rfl):JS X (.Expr e pos) (MS te):=.of (by
 have he:=he.to
 intro pins s σ H D I h
 exact wpAny_Expr_any (jl (he pins s σ H _ I h) λv s1 ⟨x,H1,I1,r1,q1⟩=>⟨σ,H1,I1,q1⟩) I.quiet hs)
def qbd (te:TE):TS:=λD σ H=>te σ H D.rt
theorem qw (he:JE X e te):JS X (.Return (some e) pos) (qbd te):=.of (by
 have he:=he.to
 intro pins s σ H D I h
 exact wpAny_Return_some (jl (he pins s σ H _ I h) λv s1 ⟨x,H1,I1,r1,q1⟩=>⟨x,σ,H1,I1,r1,q1⟩))
def u9 (c:TT) (t u:TS):TS:=λD σ H=>c σ H λb H1=>if b=true then t D σ H1 else u D σ H1
theorem qO {c:Expr} {a b:List Stmt} {tc:TT} (hc:JT X c tc) (ha:Vr X a t) (hb:Vr X b u):JS X (.If c a b pos) (u9 tc t u):=.of (by
 have hc:=hc.to
 have ha:=ha.to
 have hb:=hb.to
 intro pins s σ H D I h
 refine wpAny_If (jl (hc pins s σ H _ I h) λd s1 ⟨H1,I1,q1⟩=>?_)
 cases d with
 | true=>exact ha pins s1 σ H1 D I1 q1
 | false=>exact hb pins s1 σ H1 D I1 q1)
def Nc:TS:=λ_ _ _=>False
theorem q4 {sts:List Stmt}:Vr X sts Nc:=.of (by
 exact λ_ _ _ _ _ _ h=>h.elim)
end
abbrev TG:=V->St->Hp->(St->Hp->Prop)->Prop
abbrev uV:=List V->St->Hp->(St->Hp->Prop)->Prop
def PG (X:Cx) (target:Expr) (t:TG):Prop:=
 ∀(pins:List (Addr×Obj)) (s:Shared) (σ:St) (H:Hp) (v:V) (u:Value) (Q:St->Hp->Prop),qD X pins σ H s->qQ v u->t v σ H Q->
   wpAny (model X.prog X.w) X.A (assign target X.env u) (λ_ s'=>∃σ' H',qD X pins σ' H' s'/\Q σ' H') X.xe s
@[irreducible] def JG (X:Cx) (target:Expr) (t:TG):Prop:=PG X target t
theorem JG.of {X:Cx} {target:Expr} {t:TG} (h:PG X target t):JG X target t:=by unfold JG;exact h
theorem JG.to {X:Cx} {target:Expr} {t:TG} (h:JG X target t):PG X target t:=by unfold JG at h;exact h
def PGs (X:Cx) (ts:List Expr) (t:uV):Prop:=
 ∀(pins:List (Addr×Obj)) (s:Shared) (σ:St) (H:Hp) (vs:List V) (us:List Value) (Q:St->Hp->Prop),qD X pins σ H s->qJ vs us->t vs σ H Q->
   wpAny (model X.prog X.w) X.A (assignInOrder ((assignEach ts X.env).map (·.2)) us) (λ_ s'=>∃σ' H',qD X pins σ' H' s'/\Q σ' H') X.xe s
@[irreducible] def uY (X:Cx) (ts:List Expr) (t:uV):Prop:=PGs X ts t
theorem uY.of {X:Cx} {ts:List Expr} {t:uV} (h:PGs X ts t):uY X ts t:=by unfold uY;exact h
theorem uY.to {X:Cx} {ts:List Expr} {t:uV} (h:uY X ts t):PGs X ts t:=by unfold uY at h;exact h
abbrev RA:=V->V->V->Hp->(Hp->Prop)->Prop
def Mw (X:Cx) (t:RA):Prop:=
 ∀(pins:List (Addr×Obj)) (s:Shared) (σ:St) (H:Hp) (o i v:V) (ov iv u:Value) (Q:Hp->Prop),qD X pins σ H s->qQ o ov->qQ i iv->qQ v u->t o i v H Q->
   wpAny (model X.prog X.w) X.A (setItem ov iv u) (λ_ s'=>∃H',qD X pins σ H' s'/\Q H') X.xe s
abbrev TIp:=V->V->Hp->VK->Prop
def PIp (X:Cx) (op:Operator) (t:TIp):Prop:=
 ∀(pins:List (Addr×Obj)) (s:Shared) (σ:St) (H:Hp) (x y:V) (v u:Value) (Q:VK),qD X pins σ H s->qQ x v->qQ y u->t x y H Q->
   wpAny (model X.prog X.w) X.A (inplaceOp op v u) (EP X pins σ Q) X.xe s
section
variable {X:Cx} {pos:Pos}
def JN (i:Nat):TG:=λv σ H Q=>Q (σ.set i (some v)) H
theorem qv {i:Nat} {x:Str} (hN:X.N.Nodup) (hi:X.N[i]?=some x) (hx:Mx X.env.scope x) (hf:X.fn x=true\/X.env.scope.names.lookup x=some .local:=by first | exact .inl rfl | exact .inr rfl | assumption):JG X (.Name x pos) (JN i):=.of (by
 intro pins s σ H v u Q I r h
 exact wpAny_assign_Name (Y8 I hN hi hx r (λs' I'=>⟨_,H,I',h⟩) hf))
def Ml:uV:=λvs σ H Q=>vs=[]/\Q σ H
def Uc (t:TG) (u:uV):uV:=λvs σ H Q=>∃v r,vs=v::r/\t v σ H λσ' H'=>u r σ' H' Q
theorem J3:uY X [] Ml:=.of (by
 intro pins s σ H vs us Q I r h
 obtain⟨e,h⟩:=h
 subst e
 cases r
 exact assignInOrder_nil ⟨σ,H,I,h⟩)
theorem jD {e:Expr} {es:List Expr} {t:TG} {u:uV} (h1:JG X e t) (h2:uY X es u) (hs:(assignEach (e::es) X.env).map (·.2)=assign e X.env::(assignEach es X.env).map (·.2):=by rfl):uY X (e::es) (Uc t u):=.of (by
 have h1:=h1.to
 have h2:=h2.to
 intro pins s σ H vs us Q I r h
 obtain⟨v,vr,e1,h⟩:=h
 subst e1
 cases r with
 | cons r rr=>
   rw[hs]
   refine assignInOrder_cons (jl (h1 pins s σ H _ _ _ I r h) λ_ s1 ⟨σ1,H1,I1,q1⟩=>?_)
   exact h2 pins s1 σ1 H1 _ _ Q I1 rr q1)
def Mi (K:PySem.W.Frag) (n:Nat) (t:uV):TG:=λv σ H Q=>∃a xs,v=.ref a/\Y5 K H a xs/\xs.length=n/\t xs σ H Q
theorem ZZ {es:List Expr} {k:Nat} {t:uV} {n:Nat} (hc:X.calm=true) (h:uY X es t) (hn:(assignEach es X.env).length=n:=by rfl) (hst:(assignEach es X.env).findIdx? (·.1)=none:=by rfl):JG X (.Tuple es k pos) (Mi X.K n t):=.of (by
 have h:=h.to
 intro pins s σ H v u Q I r hw
 obtain⟨a,xs,e1,hq,hl,hw⟩:=hw
 subst e1
 cases r
 obtain⟨its,rv,ht,hz⟩:=I.tuple hq
 refine assign_Tuple_tuple (I.ok.hd hc) ht (by simp [hn,<-hl,rv.length]) hst λh' hx=>?_
 have I1:qD X pins σ H {s with heap:=h'}:=I.kept (t':=s.toks) λb o e=>hx b o (zab (tQ e)) e
 exact h pins _ σ H xs _ Q I1 (by simpa using rv) hw)
def qaL (to ti:TE) (t:RA):TG:=λv σ H Q=>to σ H λo H1=>ti σ H1 λi H2=>t o i v H2 λH3=>Q σ H3
theorem ND {o i:Expr} {to ti:TE} {t:RA} (ho:PE X o to) (hi:PE X i ti) (hs:Mw X t)
   (ha:∀v,assign (.Subscript o i pos) X.env v=(do
     let ov <-holding [v] (eval o X.env)
     let iv <-holding [v,ov] (eval i X.env)
     standAt pos
     holding [v,ov,iv] (setItem ov iv v)
     release [v,ov,iv] []):=by intro _;rfl):PG X (.Subscript o i pos) (qaL to ti t):=by
 intro pins s σ H v u Q I r h
 rw[ha]
 refine wpAny_bind (wpAny_holding (jl (ho pins s σ H _ I h) λov s1 ⟨x,H1,I1,r1,q1⟩=>?_))
 refine wpAny_bind (wpAny_holding (jl (hi pins s1 σ H1 _ I1 q1) λiv s2 ⟨y,H2,I2,r2,q2⟩=>?_))
 refine wpAny_bind (wpAny_standAt (wpAny_bind (wpAny_holding (jl (hs pins s2 σ H2 x y v ov iv u _ I2 r1 r2 r q2) λ_ s3 ⟨H3,I3,q3⟩=>?_))))
 exact wpAny_release ⟨σ,H3,I3,q3⟩
theorem U0 {o i:Expr} {to ti:TE} {t:RA} (ho:JE X o to) (hi:JE X i ti) (hs:Mw X t) (ha:∀v,assign (.Subscript o i pos) X.env v=(do
     let ov <-holding [v] (eval o X.env)
     let iv <-holding [v,ov] (eval i X.env)
     standAt pos
     holding [v,ov,iv] (setItem ov iv v)
     release [v,ov,iv] []):=by intro _;rfl):JG X (.Subscript o i pos) (qaL to ti t):=.of (ND ho.to hi.to hs ha)
def Kb (te:TE) (g:TG):TS:=λD σ H=>te σ H λx H1=>g x σ H1 D.nx
theorem UZ {tg e:Expr} {te:TE} {g:TG} (he:JE X e te) (hg:JG X tg g) (hs:swapsWithSole [tg] e pos.line X.env=pure false:=by rfl) (hw:swappedStores [tg] e X.env=pure none:=by rfl) (h1:(assignEach [tg] X.env).map (·.2)=[assign tg X.env]:=by rfl):JS X (.Assign [tg] e pos) (Kb te g):=.of (by
 have he:=he.to
 have hg:=hg.to
 intro pins s σ H D I h
 refine wpAny_Assign_stores (jl (he pins s σ H _ I h) λv s1 ⟨x,H1,I1,r1,q1⟩=>?_) hs hw
 rw[h1]
 exact jl (hg pins s1 σ H1 x v _ I1 r1 q1) λ_ s2 q=>q)
theorem qy {i:Nat} {x:Str} {e:Expr} {te:TE} {pos':Pos} (hN:X.N.Nodup) (hi:X.N[i]?=some x) (hx:Mx X.env.scope x) (he:JE X e te) (hs:swapsWith e (some (.Name x pos')) pos.line X.env=pure false:=by rfl) (hf:X.fn x=true\/X.env.scope.names.lookup x=some .local:=by first | exact .inl rfl | exact .inr rfl | assumption):JS X (.Assign [.Name x pos'] e pos) (Kb te (JN i)):=.of (by
 have he:=he.to
 intro pins s σ H D I h
 refine wpAny_Assign_Name (jl (he pins s σ H _ I h) λv s1 ⟨y,H1,I1,r1,q1⟩=>?_) hs
 exact Y8 I1 hN hi hx r1 (λs2 I2=>⟨_,H1,I2,q1⟩) hf)
def qbm (i:Nat) (te:TE) (ti:TIp):TS:=λD σ H=>∃x,σ[i]?=some (some x)/\te σ H λy H1=>ti x y H1 λz H2=>D.nx (σ.set i (some z)) H2
theorem ua {i:Nat} {x:Str} {e:Expr} {te:TE} {op:Operator} {ti:TIp} {pos':Pos} (hN:X.N.Nodup) (hi:X.N[i]?=some x) (hx:Mx X.env.scope x) (he:JE X e te) (ho:PIp X op ti) (hf:X.fn x=true\/X.env.scope.names.lookup x=some .local:=by first | exact .inl rfl | exact .inr rfl | assumption):JS X (.AugAssign (.Name x pos') op e pos) (qbm i te ti):=.of (by
 have he:=he.to
 intro pins s σ H D I h
 obtain⟨v,e1,h⟩:=h
 obtain⟨m,hn,hl⟩:=I.loc
 have vis:Mt X.env.scope x:=by rcases hx with k | k;exact .inl k;exact .inr (.inl k)
 obtain⟨u,r,l⟩:=hl i x v hi e1 vis
 refine wpAny_AugAssign_Name ?_
 have go:wpAny (model X.prog X.w) X.A (eval e X.env) (λw s₂=>wpAny (model X.prog X.w) X.A (inplaceOp op u w) (λr s₃=>wpAny (model X.prog X.w) X.A (storeName X.env x r) (λ_=>SP X pins D .next) X.xe s₃) X.xe s₂) X.xe s:=by
   refine jl (he pins s σ H _ I h) λw s1 ⟨y,H1,I1,r1,q1⟩=>?_
   refine jl (ho pins s1 σ H1 v y u w _ I1 r r1 q1) λz s2 ⟨zv,H2,I2,r2,q2⟩=>?_
   exact Y8 I2 hN hi hx r2 (λs3 I3=>⟨_,H2,I3,q2⟩) hf
 rcases l with ⟨hk,hm⟩ | ⟨hk,c,hc,hcell⟩
 . exact wpAny_loadName_local I.ok.kind hk hn hm go
 . rcases hk with hk | hk
   . exact wpAny_loadName_cell I.ok.kind hk hc hcell go
   . rcases hx with k | k
     . have:X.env.scope.names.lookup x=some .free:=hk
       rw[k]at this;cases this
     . have:X.env.scope.names.lookup x=some .free:=hk
       rw[k]at this;cases this)
def ipI (f:Int->Int->Int):TIp:=λx y H Q=>∃i j,x=.int i/\y=.int j/\Q (.int (f i j)) H
theorem uk:PIp X .Add (ipI λi j=>i+j):=by
 intro pins s σ H x y v u Q I r1 r2 h
 obtain⟨i,j,e1,e2,q⟩:=h
 subst e1;subst e2
 obtain⟨t,rfl⟩:=r1
 obtain⟨t',rfl⟩:=r2
 exact iadd_int ⟨.int _,H,I.tok _,⟨_,rfl⟩,q⟩
end
section
variable {X:Cx} {pos:Pos}
def xj (c:TT) (tb:TS):TS:=λD σ H=>∃W:Nat->St->Hp->Prop,(∃m,W m σ H)/\∀m σ H,W m σ H->
 c σ H λb H1=>if b=true then ∃N:St->Hp->Prop,(∀σ' H',N σ' H'->∃m',m' < m/\W m' σ' H')/\tb {D with nx:=N,ct:=N,bk:=D.nx} σ H1 else D.nx σ H1
theorem zA {c:Expr} {body:List Stmt} {tc:TT} {tb:TS} (hp:PassesOwn (model X.prog X.w) X.A X.env X.xe) (hc:JT X c tc) (hb:Vr X body tb):JS X (.While c body [] pos) (xj tc tb):=.of (by
 have hc:=hc.to
 have hb:=hb.to
 intro pins s σ H D I h
 obtain⟨W,⟨m0,w0⟩,turn⟩:=h
 refine wpAny_While (codeAny_whileLoop (λn s'=>∃σ' H',qD X pins σ' H' s'/\W n σ' H') ?_ m0 ⟨σ,H,I,w0⟩)
 rintro n s1 ⟨σ1,H1,I1,w1⟩
 refine wpAny_passesOwn hp (jl (hc pins s1 σ1 H1 _ I1 (turn n σ1 H1 w1)) λb s2 ⟨H2,I2,q2⟩=>?_)
 cases b with
 | true=>
   obtain⟨N,hN,q2⟩:=q2
   rw[if_pos rfl]
   refine wpAny_passesOwn hp (jl (hb pins s2 σ1 H2 _ I2 q2) λf s3 q3=>?_)
   cases f with
   | next=>
     obtain⟨σ3,H3,I3,n3⟩:=q3
     obtain⟨m',hm,w3⟩:=hN σ3 H3 n3
     exact⟨m',hm,σ3,H3,I3,w3⟩
   | cont=>
     obtain⟨σ3,H3,I3,n3⟩:=q3
     obtain⟨m',hm,w3⟩:=hN σ3 H3 n3
     exact⟨m',hm,σ3,H3,I3,w3⟩
   | brk=>exact q3
   | ret v=>exact q3
 | false=>
   rw[if_neg tP]
   exact wpAny_execs_nil ⟨σ1,H2,I2,q2⟩)
end
structure It where
 go:Nat->Hp->Prop
 yld:Nat->Hp->V->Hp->Prop
 stop:Nat->Hp->Prop
def JR (X:Cx) (pins:List (Addr×Obj)) (H:Hp) (b:Addr):Prop:=
 H b=none/\b≠X.env.locals/\b∉X.fs/\(b∈X.ex\/X.s₀.heap.objs.size<=b)/\(∀x c,X.env.cells.lookup x=some c->c≠b)/\∀p∈X.pn++pins,p.1≠b
theorem qD.fpOk {X:Cx} {pins:List (Addr×Obj)} {σ:St} {H H':Hp} {s:Shared} {b:Addr} (I:qD X pins σ H s) (hb:s.heap.objs.size<=b) (hn:H' b=none):JR X pins H' b:=by
 refine⟨hn,zbK (tT I.lt hb),I.nofs hb,.inr (zag I.sz hb),λx c e z=>?_,λp hp z=>?_⟩
 . obtain⟨v,q⟩:=I.cell x c e
   exact absurd (tT q.lt (by rw[z];exact hb)) (zaw _)
 . exact absurd (tT (tQ (I.pin p hp).1) (by rw[z];exact hb)) (zaw _)
structure Up (P:Program) (w:World) (K:PySem.W.Frag) (tg:Expr) (J:It) (fp:List Addr) (it:Addr) (tn:Nat->Heap->Prop):Prop where
 mem:it∈fp
 obj:∀i h,tn i h->∀b∈fp,∃o,h.get? b=some o/\∀v,o.data≠.cell v
 keep:∀i h h',tn i h->(∀b∈fp,∀o,h.get? b=some o->h'.get? b=some o)->tn i h'
 item:∀(X:Cx),X.prog=P->X.w=w->X.K=K->X.calm=true->∀(i:Nat) (pins:List (Addr×Obj)) (s:Shared) (σ:St) (H:Hp) (E:Value->Shared->Prop),qD X pins σ H s->(∀b∈fp,JR X pins H b)->tn i s.heap->J.go i H->
   wpAny (model P w) X.A (pyNext (.ref it)) (λr s1=>∃u,r=some u/\
     wpAny (model P w) X.A (letOwnedTupleGo tg (.ref it) u) (λ_ s2=>∃x H',qD X pins σ H' s2/\qQ x u/\J.yld i H x H'/\tn (i+1) s2.heap/\∀b∈fp,H' b=none) E s1) E s
 done:∀(X:Cx),X.prog=P->X.w=w->X.K=K->X.calm=true->∀(i:Nat) (pins:List (Addr×Obj)) (s:Shared) (σ:St) (H:Hp) (E:Value->Shared->Prop),qD X pins σ H s->(∀b∈fp,JR X pins H b)->tn i s.heap->J.stop i H->
   wpAny (model P w) X.A (pyNext (.ref it)) (λr s1=>r=none/\qD X pins σ H s1) E s
 self:∀(A:Around) (i:Nat) (s:Shared) (Q:Value->Shared->Prop) (E:Value->Shared->Prop),tn i s.heap->Q (.ref it) s->wpAny (model P w) A (pyIter (.ref it)) Q E s
abbrev TI:=St->Hp->(It->Hp->Prop)->Prop
def PIE (X:Cx) (pins:List (Addr×Obj)) (σ:St) (tg:Expr) (R:It->Hp->Prop) (itv:Value) (s2:Shared):Prop:=
 ∃(it:Addr) (fp:List Addr) (tn:Nat->Heap->Prop) (J:It) (H':Hp),itv=.ref it/\qD X pins σ H' s2/\Up X.prog X.w X.K tg J fp it tn/\tn 0 s2.heap/\(∀b∈fp,JR X pins H' b)/\R J H'
def PI (X:Cx) (tg iter:Expr) (wi:TI):Prop:=
 ∀(pins:List (Addr×Obj)) (s:Shared) (σ:St) (H:Hp) (R:It->Hp->Prop),qD X pins σ H s->wi σ H R->
   wpAny (model X.prog X.w) X.A (eval iter X.env) (λv s1=>wpAny (model X.prog X.w) X.A (pyIter v) (PIE X pins σ tg R) X.xe s1) X.xe s
@[irreducible] def JI (X:Cx) (tg iter:Expr) (wi:TI):Prop:=PI X tg iter wi
theorem JI.of {X:Cx} {tg iter:Expr} {wi:TI} (h:PI X tg iter wi):JI X tg iter wi:=by unfold JI;exact h
theorem JI.to {X:Cx} {tg iter:Expr} {wi:TI} (h:JI X tg iter wi):PI X tg iter wi:=by unfold JI at h;exact h
theorem V9 {M:Model} {A:Around} {E:Value->Shared->Prop} {s:Shared} {tg:Expr} {it:Addr} {u:Value} {o:Obj} {n:String} {vs:Array Value} {Q:Unit->Shared->Prop} (ho:s.heap.get? it=some o) (hc:o.cls=.type n) (hd:o.data=.fields vs)
   (hn:["enumerate","zip","dict_itemiterator","dict_reverseitemiterator","odict_iterator","itertools.zip_longest","itertools.pairwise"].contains n=false) (hQ:Q () s):wpAny M A (letOwnedTupleGo tg (.ref it) u) Q E s:=by
 unfold letOwnedTupleGo
 cases tg<;>first
   | exact wpAny_pure hQ
   | (cases u<;>first
       | exact wpAny_pure hQ
       | (refine wpAny_bind (wpAny_load ho ?_)
          rw[hc,hd]
          show wpAny M A (if (["enumerate","zip","dict_itemiterator","dict_reverseitemiterator","odict_iterator","itertools.zip_longest","itertools.pairwise"].contains n&&vs[0]?==some (rawInt _))=true then _ else _) Q E s
          rw[if_neg (by intro h;rw[hn,zcR]at h;cases h)]
          exact wpAny_pure hQ))
def Mz (K:PySem.W.Frag) (a:Addr):It:=
 ⟨λi H=>∃xs x,SqL K H a xs/\xs[i]?=some x,λi H x H'=>H'=H/\∀xs,SqL K H a xs->xs[i]?=some x,λi H=>∃xs,SqL K H a xs/\xs.length<=i⟩
def My (K:PySem.W.Frag) (a:Addr):It:=
 ⟨λi H=>∃xs x,Y5 K H a xs/\xs[i]?=some x,λi H x H'=>H'=H/\∀xs,Y5 K H a xs->xs[i]?=some x,λi H=>∃xs,Y5 K H a xs/\xs.length<=i⟩
def R7 (lo:Int) (n:Nat):It:=⟨λi _=>i < n,λi H x H'=>H'=H/\x=.int (lo+i),λi _=>n<=i⟩
theorem kH {P:Program} {w:World} {K:PySem.W.Frag} {tg:Expr} (a it:Addr):Up P w K tg (Mz K a) [it] it (λi h=>h.IsListIter it a i) where
 mem:=by simp
 obj:=λi h st b hb=>by
   have e:b=it:=by simpa using hb
   subst e
   obtain⟨o,e,c,d⟩:=st
   exact⟨o,e,λv z=>by rw[d]at z;cases z⟩
 keep:=λi h h' st k=>st.at λo e=>k it (by simp) o e
 item:=by
   intro X hP hw hK hc i pins s σ H E I hf st hg
   subst hP hw hK
   obtain⟨xs,x,hq,hx⟩:=hg
   obtain⟨its,rv,p,hz⟩:=I.list hq
   obtain⟨u,hu,ru⟩:=rv.get hx
   obtain⟨f0,f1,f2,f3,f4,f5⟩:=hf it (by simp)
   refine wpAny_pyNext_list_item st p.isList (x:=u) (by simpa using hu) λh' st' sb=>?_
   have I1:qD X pins σ H {s with heap:=h'}:=I.turned (t':=s.toks) (λb o hb e=>(sb.2 b hb).trans e) f0 f1 f3 f4 f5
   obtain⟨o,e,c,d⟩:=id st'
   exact⟨u,rfl,V9 (s:={s with heap:=h'}) e c d (by decide) ⟨x,H,I1,ru,⟨rfl,λys hy=>by rw[I.list_inj hy hq];exact hx⟩,st',λb hb=>(hf b hb).1⟩⟩
 done:=by
   intro X hP hw hK hc i pins s σ H E I hf st hg
   subst hP hw hK
   obtain⟨xs,hq,hx⟩:=hg
   obtain⟨its,rv,p,hz⟩:=I.list hq
   obtain⟨f0,f1,f2,f3,f4,f5⟩:=hf it (by simp)
   have hl:=rv.length
   exact wpAny_pyNext_list_end (I.ok.hd hc) st p.isList (by simp;omega) λh' eb=>⟨rfl,I.turned (t':=s.toks) (λb o hb e=>eb b o hb e) f0 f1 f3 f4 f5⟩
 self:=λ_ _ _ _ _ st h=>wpAny_pyIter_listiter st h
theorem Uy {P:Program} {w:World} {K:PySem.W.Frag} {tg:Expr} (a it:Addr):Up P w K tg (My K a) [it] it (λi h=>h.IsTupleIter it a i) where
 mem:=by simp
 obj:=λi h st b hb=>by
   have e:b=it:=by simpa using hb
   subst e
   obtain⟨o,e,c,d⟩:=st
   exact⟨o,e,λv z=>by rw[d]at z;cases z⟩
 keep:=λi h h' st k=>st.at λo e=>k it (by simp) o e
 item:=by
   intro X hP hw hK hc i pins s σ H E I hf st hg
   subst hP hw hK
   obtain⟨xs,x,hq,hx⟩:=hg
   obtain⟨its,rv,p,hz⟩:=I.tuple hq
   obtain⟨u,hu,ru⟩:=rv.get hx
   obtain⟨f0,f1,f2,f3,f4,f5⟩:=hf it (by simp)
   refine wpAny_pyNext_tuple_item st (show s.heap.IsTuple a its.toArray from p) (x:=u) (by simpa using hu) λh' st' sb=>?_
   have I1:qD X pins σ H {s with heap:=h'}:=I.turned (t':=s.toks) (λb o hb e=>(sb.2 b hb).trans e) f0 f1 f3 f4 f5
   obtain⟨o,e,c,d⟩:=id st'
   exact⟨u,rfl,V9 (s:={s with heap:=h'}) e c d (by decide) ⟨x,H,I1,ru,⟨rfl,λys hy=>by rw[I.tuple_inj hy hq];exact hx⟩,st',λb hb=>(hf b hb).1⟩⟩
 done:=by
   intro X hP hw hK hc i pins s σ H E I hf st hg
   subst hP hw hK
   obtain⟨xs,hq,hx⟩:=hg
   obtain⟨its,rv,p,hz⟩:=I.tuple hq
   obtain⟨f0,f1,f2,f3,f4,f5⟩:=hf it (by simp)
   have hl:=rv.length
   exact wpAny_pyNext_tuple_end (I.ok.hd hc) st (show s.heap.IsTuple a its.toArray from p) (by simp;omega) λh' eb=>⟨rfl,I.turned (t':=s.toks) (λb o hb e=>eb b o hb e) f0 f1 f3 f4 f5⟩
 self:=λ_ _ _ _ _ st h=>wpAny_pyIter_tupleiter st h
theorem Uz {P:Program} {w:World} {K:PySem.W.Frag} {tg:Expr} (it:Addr) (lo:Int) (n:Nat):Up P w K tg (R7 lo n) [it] it (λi h=>IsRangeIter h it (lo+(i:Nat)*1) ((n:Int) - (i:Nat)) 1) where
 mem:=by simp
 obj:=λi h st b hb=>by
   have e:b=it:=by simpa using hb
   subst e
   exact⟨_,st,λv z=>by
     have z':Data.fields _=Data.cell v:=z
     cases z'⟩
 keep:=λi h h' st k=>k it (by simp) _ st
 item:=by
   intro X hP hw hK hc i pins s σ H E I hf st hg
   subst hP hw hK
   obtain⟨f0,f1,f2,f3,f4,f5⟩:=hf it (by simp)
   have W:=Walks.range (prog:=X.prog) (w:=X.w) (I.ok.hd hc) it lo 1 n
   refine W.item i s _ _ hg st λv h' tk hv st' kk=>?_
   obtain⟨t,rfl⟩:=hv
   have I1:qD X pins σ H {s with heap:=h',toks:=tk}:=I.turned (λb o hb e=>kk b o (by simpa using hb) e) f0 f1 f3 f4 f5
   refine⟨_,rfl,V9 (s:={s with heap:=h',toks:=tk}) (n:="range_iterator") st' rfl rfl (by decide) ⟨.int (lo+i),H,I1,⟨t,?_⟩,⟨rfl,rfl⟩,st',λb hb=>(hf b hb).1⟩⟩
   rw[Int.mul_one]
 done:=by
   intro X hP hw hK hc i pins s σ H E I hf st hg
   subst hP hw hK
   obtain⟨f0,f1,f2,f3,f4,f5⟩:=hf it (by simp)
   exact wpAny_pyNext_range_end (I.ok.hd hc) st (by have:n<=i:=hg;omega) λh' eb=>⟨rfl,I.turned (t':=s.toks) (λb o hb e=>eb b o hb e) f0 f1 f3 f4 f5⟩
 self:=λ_ _ _ _ _ st h=>wpAny_pyIter_rangeiter st h
section
variable {X:Cx} {tg:Expr}
def qaJ (K:PySem.W.Frag) (tl:TE):TI:=λσ H R=>tl σ H λx H1=>∃a,x=.ref a/\(∃xs,SqL K H1 a xs)/\R (Mz K a) H1
def qbM (K:PySem.W.Frag) (tl:TE):TI:=λσ H R=>tl σ H λx H1=>∃a,x=.ref a/\(∃xs,Y5 K H1 a xs)/\R (My K a) H1
theorem qI {l:Expr} {tl:TE} (hl:JE X l tl):JI X tg l (qaJ X.K tl):=.of (by
 have hl:=hl.to
 intro pins s σ H R I h
 refine jl (hl pins s σ H _ I h) λv s1 ⟨x,H1,I1,r1,q1⟩=>?_
 obtain⟨a,e,⟨xs,hq⟩,q⟩:=q1
 subst e
 cases r1
 obtain⟨its,rv,p,hz⟩:=I1.list hq
 refine wpAny_pyIter_list p.isList ?_
 refine⟨s1.heap.objs.size,[s1.heap.objs.size],_,_,H1,rfl,I1.kept (t':=s1.toks) λb o e=>tG _ e,kH a _,⟨_,tY _ rfl,rfl,rfl⟩,λb hb=>?_,q⟩
 have e:b=s1.heap.objs.size:=by simpa using hb
 subst e
 exact I1.fpOk (tF _) (I1.hok.fresh (tF _)))
theorem Yi {l:Expr} {tl:TE} (hl:JE X l tl):JI X tg l (qbM X.K tl):=.of (by
 have hl:=hl.to
 intro pins s σ H R I h
 refine jl (hl pins s σ H _ I h) λv s1 ⟨x,H1,I1,r1,q1⟩=>?_
 obtain⟨a,e,⟨xs,hq⟩,q⟩:=q1
 subst e
 cases r1
 obtain⟨its,rv,p,hz⟩:=I1.tuple hq
 refine wpAny_pyIter_tuple (show s1.heap.IsTuple a its.toArray from p) ?_
 refine⟨s1.heap.objs.size,[s1.heap.objs.size],_,_,H1,rfl,I1.kept (t':=s1.toks) λb o e=>tG _ e,Uy a _,⟨_,tY _ rfl,rfl,rfl⟩,λb hb=>?_,q⟩
 have e:b=s1.heap.objs.size:=by simpa using hb
 subst e
 exact I1.fpOk (tF _) (I1.hok.fresh (tF _)))
theorem x3 {pins:List (Addr×Obj)} {σ:St} {H:Hp} {s:Shared} {R:It->Hp->Prop} {E:Value->Shared->Prop} {lo hi:Int} {t u v:Tok} {tk:Nat} (I:qD X pins σ H s) (h1:-(2^62)<=lo) (h2:lo < 2^62) (h3:-(2^62)<=hi) (h4:hi < 2^62)
   (q:R (R7 lo (hi - lo).toNat) H):wpAny (model X.prog X.w) X.A (pyIter (.ref s.heap.objs.size)) (PIE X pins σ tg R) E {s with heap:=s.heap.push {cls:=.type "range",data:=.fields #[.int lo t,.int hi u,.int 1 v]},toks:=tk}:=by
 refine wpAny_pyIter_range (IsRange.new ..) (small_one h1 h2 h3 h4) ?_
 have I1:qD X pins σ H {s with heap:=s.heap.push {cls:=.type "range",data:=.fields #[.int lo t,.int hi u,.int 1 v]},toks:=tk}:=I.kept λb o e=>tG _ e
 refine⟨(s.heap.push {cls:=.type "range",data:=.fields #[.int lo t,.int hi u,.int 1 v]}).objs.size,[(s.heap.push {cls:=.type "range",data:=.fields #[.int lo t,.int hi u,.int 1 v]}).objs.size],_,_,H,rfl,
   I1.kept (t':=tk) λb o e=>tG _ e,Uz _ lo (hi - lo).toNat,?_,λb hb=>?_,q⟩
 . have e1:lo+((0:Nat):Int)*1=lo:=by simp
   have e2:(((hi - lo).toNat:Nat):Int) - ((0:Nat):Int)=Builtin.Range.rangeSize lo hi 1:=by rw[rangeSize_one];split<;>omega
   show IsRangeIter _ _ (lo+((0:Nat):Int)*1) ((((hi - lo).toNat:Nat):Int) - ((0:Nat):Int)) 1
   rw[e1,e2]
   exact tY _ rfl
 . have e:b=(s.heap.push {cls:=.type "range",data:=.fields #[.int lo t,.int hi u,.int 1 v]}).objs.size:=by simpa using hb
   subst e
   exact I1.fpOk (tF _) (I1.hok.fresh (tF _))
def qaI (ta:TA):TI:=λσ H R=>ta σ H λvs H1=>∃j:Int,vs=[.int j]/\-(2^62)<=j/\j < 2^62/\R (R7 0 j.toNat) H1
theorem jM {a:Expr} {ta:TA} {p pos:Pos} (hg:Gl X "range") (hm:X.mg "range"=none) (ha:JA X [a] ta) (hs:starEach [a] X.env=[(false,eval a X.env)]:=by rfl):JI X tg (.Call (.Name "range" p) [a] [] pos) (qaI ta):=.of (by
 have ha:=ha.to
 intro pins s σ H R I h
 refine Call_ (Ja I hg hm boot_range (PyProof.Rows.callWith_type1 (jl (ha pos pins s σ H _ I h) λus s1 ⟨vs,H1,I1,r1,q1⟩=>?_) hs rfl))
 obtain⟨j,e,q1,q2,q⟩:=q1
 subst e
 cases r1 with
 | cons r rr=>
   cases rr
   obtain⟨t,rfl⟩:=r
   exact call_range_1 (x3 I1 (by omega) (by omega) q1 q2 (by simpa using q)))
def qbi (wi:TI) (g:TG) (tb:TS):TS:=λD σ H=>wi σ H λJ H1=>∃W:Nat->Nat->St->Hp->Prop,(∃m,W 0 m σ H1)/\∀i m σ H,W i m σ H->
 (J.stop i H/\D.nx σ H)\/(J.go i H/\∃N:St->Hp->Prop,(∀σ' H',N σ' H'->∃m',m' < m/\W (i+1) m' σ' H')/\∀x H',J.yld i H x H'->g x σ H' λσ2 H2=>tb {D with nx:=N,ct:=N,bk:=D.nx} σ2 H2)
def Xt (fp:List Addr) (h:Heap):List (Addr×Obj):=fp.filterMap λb=>(h.get? b).map λo=>(b,o)
theorem J0 {fp:List Addr} {h:Heap} {b:Addr} {o:Obj} (hb:b∈fp) (e:h.get? b=some o):(b,o)∈Xt fp h:=zaE.mpr ⟨b,hb,by rw[e];rfl⟩
theorem yt {fp:List Addr} {h:Heap} {p:Addr×Obj} (hp:p∈Xt fp h):p.1∈fp/\h.get? p.1=some p.2:=by
 obtain⟨b,hb,e⟩:=zaE.mp hp
 cases q:h.get? b with
 | none=>rw[q]at e;cases e
 | some o=>
   rw[q]at e
   have e':(b,o)=p:=tO.inj e
   subst e'
   exact⟨hb,q⟩
theorem qD.pinned {pins:List (Addr×Obj)} {σ:St} {H:Hp} {s:Shared} {fp:List Addr} (I:qD X pins σ H s) (hf:∀b∈fp,JR X pins H b) (ho:∀b∈fp,∃o,s.heap.get? b=some o/\∀v,o.data≠.cell v):qD X (pins++Xt fp s.heap) σ H s:=
 I.pins_of λp hp=>(tV.mp hp).elim (λz=>I.pin p (tM _ z)) λz=>by
   obtain⟨hb,e⟩:=yt z
   obtain⟨f0,f1,f2,_⟩:=hf p.1 hb
   obtain⟨o,e',d⟩:=ho p.1 hb
   rw[e]at e';cases e'
   exact⟨e,f0,f1,f2,d⟩
theorem qD.unpinned {pins pl:List (Addr×Obj)} {σ:St} {H:Hp} {s:Shared} (I:qD X (pins++pl) σ H s):qD X pins σ H s:=I.pins_of λp hp=>I.pin p (tM _ (zai _ hp))
theorem jd {iter:Expr} {body:List Stmt} {wi:TI} {g:TG} {tb:TS} {pos:Pos} (hp:PassesOwn (model X.prog X.w) X.A X.env X.xe) (hc:X.calm=true) (hi:JI X tg iter wi) (hg:JG X tg g) (hb:Vr X body tb) (hs:∀x,foldedSetIterable iter X.env x=pure x:=by intro _;rfl):JS X (.For tg iter body [] pos) (qbi wi g tb):=.of (by
 have hi:=hi.to
 have hg:=hg.to
 have hb:=hb.to
 intro pins s σ H D I h
 refine wpAny_For (jl (hi pins s σ H _ I h) λv s1 h1=>jl h1 λitv s2 h2=>?_) hs
 obtain⟨it,fp,tn,J,H2,e,I2,T,st2,f2,W,⟨m0,w0⟩,turn⟩:=h2
 subst e
 have stat:∀{H':Hp},(∀b∈fp,H' b=none)->∀b∈fp,JR X pins H' b:=λhn b hb=>⟨hn b hb,(f2 b hb).2⟩
 refine codeAny_forLoop_any (λn s'=>∃i σ' H',qD X pins σ' H' s'/\tn i s'.heap/\(∀b∈fp,H' b=none)/\W i n σ' H') ?_ m0 ⟨0,σ,H2,I2,st2,λb hb=>(f2 b hb).1,w0⟩
 rintro n s3 ⟨i,σ3,H3,I3,st3,fr3,w3⟩
 rcases turn i n σ3 H3 w3 with ⟨stop,qn⟩ | ⟨go,N,hN,step⟩
 . refine wpAny_passesOwn hp (jl (T.done X rfl rfl rfl hc i pins s3 σ3 H3 X.xe I3 (stat fr3) st3 stop) λr s4 ⟨hr,I4⟩=>?_)
   subst hr
   exact wpAny_execs_nil ⟨σ3,H3,I4,qn⟩
 . refine wpAny_passesOwn hp (jl (T.item X rfl rfl rfl hc i pins s3 σ3 H3 X.xe I3 (stat fr3) st3 go) λr s4 ⟨u,hr,h4⟩=>?_)
   subst hr
   refine wpAny_passesOwn hp (jl h4 λ_ s5 ⟨x,H5,I5,r5,y5,st5,fr5⟩=>?_)
   have I5':=I5.pinned (stat fr5) (T.obj _ _ st5)
   refine wpAny_passesOwn hp (jl (hg _ s5 σ3 H5 x u _ I5' r5 (step x H5 y5)) λ_ s6 ⟨σ6,H6,I6,q6⟩=>?_)
   refine wpAny_passesOwn hp (jl (hb _ s6 σ6 H6 _ I6 q6) λf s7 q7=>?_)
   have again:∀{σ7:St} {H7:Hp},qD X (pins++Xt fp s5.heap) σ7 H7 s7->N σ7 H7->∃m,m < n/\∃i σ' H',qD X pins σ' H' s7/\tn i s7.heap/\(∀b∈fp,H' b=none)/\W i m σ' H':=λ{σ7 H7} I7 n7=>by
     obtain⟨m',hm,w7⟩:=hN σ7 H7 n7
     refine⟨m',hm,i+1,σ7,H7,I7.unpinned,T.keep _ _ _ st5 λb hb o e=>(I7.pin (b,o) (tM _ (tM _ (J0 hb e)))).1,λb hb=>?_,w7⟩
     obtain⟨o,e,d⟩:=T.obj _ _ st5 b hb
     exact(I7.pin (b,o) (tM _ (tM _ (J0 hb e)))).2.1
   cases f with
   | next=>obtain⟨σ7,H7,I7,n7⟩:=q7;exact again I7 n7
   | cont=>obtain⟨σ7,H7,I7,n7⟩:=q7;exact again I7 n7
   | brk=>obtain⟨σ7,H7,I7,q7⟩:=q7;exact⟨σ7,H7,I7.unpinned,q7⟩
   | ret v=>obtain⟨x7,σ7,H7,I7,r7,q7⟩:=q7;exact⟨x7,σ7,H7,I7.unpinned,r7,q7⟩)
end
theorem jw {K:PySem.W.Frag} {a:Addr} {xs:List V} {g:TG} {tb:TS} {D:Za} {σ:St} {H:Hp} (Pv:Nat->St->Hp->Prop) (h0:Pv 0 σ H) (hl:∀i σ H,i<=xs.length->Pv i σ H->SqL K H a xs)
   (hs:∀i x σ H,xs[i]?=some x->Pv i σ H->g x σ H λσ2 H2=>tb {D with nx:=Pv (i+1),ct:=Pv (i+1),bk:=D.nx} σ2 H2) (hd:∀σ H,Pv xs.length σ H->D.nx σ H):
   ∃W:Nat->Nat->St->Hp->Prop,(∃m,W 0 m σ H)/\∀i m σ H,W i m σ H->
    ((Mz K a).stop i H/\D.nx σ H)\/((Mz K a).go i H/\∃N:St->Hp->Prop,(∀σ' H',N σ' H'->∃m',m' < m/\W (i+1) m' σ' H')/\∀x H',(Mz K a).yld i H x H'->g x σ H' λσ2 H2=>tb {D with nx:=N,ct:=N,bk:=D.nx} σ2 H2):=by
 refine⟨λi m σ H=>m=xs.length - i/\i<=xs.length/\Pv i σ H,⟨xs.length,by simp,zay _,h0⟩,?_⟩
 rintro i m σ H ⟨rfl,hi,p⟩
 have q:=hl i σ H hi p
 by_cases hlt:i < xs.length
 . refine .inr ⟨⟨xs,xs[i],q,by simp [hlt]⟩,Pv (i+1),λσ' H' p'=>⟨xs.length - (i+1),by omega,rfl,hlt,p'⟩,λx H' y=>?_⟩
   obtain⟨e,y⟩:=y
   subst e
   exact hs i x σ _ (y xs q) p
 . have e:i=xs.length:=by omega
   subst e
   exact .inl ⟨⟨xs,q,tF _⟩,hd σ H p⟩
theorem YY {K:PySem.W.Frag} {a:Addr} {xs:List V} {g:TG} {tb:TS} {D:Za} {σ:St} {H:Hp} (Pv:Nat->St->Hp->Prop) (h0:Pv 0 σ H) (hl:∀i σ H,i<=xs.length->Pv i σ H->Y5 K H a xs)
   (hs:∀i x σ H,xs[i]?=some x->Pv i σ H->g x σ H λσ2 H2=>tb {D with nx:=Pv (i+1),ct:=Pv (i+1),bk:=D.nx} σ2 H2) (hd:∀σ H,Pv xs.length σ H->D.nx σ H):
   ∃W:Nat->Nat->St->Hp->Prop,(∃m,W 0 m σ H)/\∀i m σ H,W i m σ H->
    ((My K a).stop i H/\D.nx σ H)\/((My K a).go i H/\∃N:St->Hp->Prop,(∀σ' H',N σ' H'->∃m',m' < m/\W (i+1) m' σ' H')/\∀x H',(My K a).yld i H x H'->g x σ H' λσ2 H2=>tb {D with nx:=N,ct:=N,bk:=D.nx} σ2 H2):=by
 refine⟨λi m σ H=>m=xs.length - i/\i<=xs.length/\Pv i σ H,⟨xs.length,by simp,zay _,h0⟩,?_⟩
 rintro i m σ H ⟨rfl,hi,p⟩
 have q:=hl i σ H hi p
 by_cases hlt:i < xs.length
 . refine .inr ⟨⟨xs,xs[i],q,by simp [hlt]⟩,Pv (i+1),λσ' H' p'=>⟨xs.length - (i+1),by omega,rfl,hlt,p'⟩,λx H' y=>?_⟩
   obtain⟨e,y⟩:=y
   subst e
   exact hs i x σ _ (y xs q) p
 . have e:i=xs.length:=by omega
   subst e
   exact .inl ⟨⟨xs,q,tF _⟩,hd σ H p⟩
theorem Q0 {lo:Int} {n:Nat} {g:TG} {tb:TS} {D:Za} {σ:St} {H:Hp} (Pv:Nat->St->Hp->Prop) (h0:Pv 0 σ H)
   (hs:∀i σ H,i < n->Pv i σ H->g (.int (lo+i)) σ H λσ2 H2=>tb {D with nx:=Pv (i+1),ct:=Pv (i+1),bk:=D.nx} σ2 H2) (hd:∀σ H,Pv n σ H->D.nx σ H):
   ∃W:Nat->Nat->St->Hp->Prop,(∃m,W 0 m σ H)/\∀i m σ H,W i m σ H->
    ((R7 lo n).stop i H/\D.nx σ H)\/((R7 lo n).go i H/\∃N:St->Hp->Prop,(∀σ' H',N σ' H'->∃m',m' < m/\W (i+1) m' σ' H')/\∀x H',(R7 lo n).yld i H x H'->g x σ H' λσ2 H2=>tb {D with nx:=N,ct:=N,bk:=D.nx} σ2 H2):=by
 refine⟨λi m σ H=>m=n - i/\i<=n/\Pv i σ H,⟨n,by simp,zay _,h0⟩,?_⟩
 rintro i m σ H ⟨rfl,hi,p⟩
 by_cases hlt:i < n
 . refine .inr ⟨hlt,Pv (i+1),λσ' H' p'=>⟨n - (i+1),by omega,rfl,hlt,p'⟩,λx H' y=>?_⟩
   obtain⟨e,y⟩:=y
   subst e y
   exact hs i σ _ hlt p
 . have e:i=n:=by omega
   subst e
   exact .inl ⟨tF _,hd σ H p⟩
theorem Z3 {c:TT} {tb:TS} {D:Za} {σ:St} {H:Hp} (Pv:St->Hp->Prop) (μ:St->Hp->Nat) (h0:Pv σ H)
   (hs:∀σ H,Pv σ H->c σ H λb H1=>if b=true then tb {D with nx:=λσ' H'=>Pv σ' H'/\μ σ' H' < μ σ H,ct:=λσ' H'=>Pv σ' H'/\μ σ' H' < μ σ H,bk:=D.nx} σ H1 else D.nx σ H1)
   (mono:∀σ H Q Q',(∀b H1,Q b H1->Q' b H1)->c σ H Q->c σ H Q'):xj c tb D σ H:=by
 refine⟨λm σ H=>m=μ σ H/\Pv σ H,⟨_,rfl,h0⟩,?_⟩
 rintro m σ H ⟨rfl,p⟩
 refine mono σ H _ _ (λb H1 q=>?_) (hs σ H p)
 cases b with
 | true=>exact⟨_,λσ' H' ⟨p',l⟩=>⟨_,l,rfl,p'⟩,q⟩
 | false=>exact q
abbrev R2:=V->V->Hp->VK->Prop
def ZI (X:Cx) (f:Value->Value->Sem Value) (r:R2):Prop:=
 ∀(pins:List (Addr×Obj)) (s:Shared) (σ:St) (H:Hp) (x y:V) (v u:Value) (Q:VK),qD X pins σ H s->qQ x v->qQ y u->r x y H Q->
   wpAny (model X.prog X.w) X.A (f v u) (EP X pins σ Q) X.xe s
def QR (X:Cx) (f:Value) (r:List V->Hp->VK->Prop):Prop:=
 ∀(pins:List (Addr×Obj)) (s:Shared) (σ:St) (H:Hp) (xs:List V) (us:List Value) (Q:VK),qD X pins σ H s->qJ xs us->r xs H Q->
   wpAny (model X.prog X.w) X.A (call f us) (EP X pins σ Q) X.xe s
def zR (r:R2) (ta tb:TE):TE:=λσ H Q=>ta σ H λx H1=>tb σ H1 λy H2=>r x y H2 Q
def rI (C:Int->Int->Prop) (g:Int->Int->V):R2:=λx y H Q=>∃i j,x=.int i/\y=.int j/\C i j/\Q (g i j) H
def x6 (g:Int->Int->V):R2:=λx y H Q=>∃i j,x=.int i/\y=.int j/\Q (g i j) H
section
variable {X:Cx} {a b c:Expr} {ta tb tc:TE} {pos:Pos}
theorem Mr (ha:PE X a ta) (hb:PE X b tb) {pins:List (Addr×Obj)} {s:Shared} {σ:St} {H:Hp} {R:V->V->Hp->Prop} (I:qD X pins σ H s)
   (h:ta σ H λx H1=>tb σ H1 λy H2=>R x y H2) {Q:Value->Shared->Prop} {f:Value->Value->Sem Value}
   (hf:∀v u s2 x y H2,qD X pins σ H2 s2->qQ x v->qQ y u->R x y H2->wpAny (model X.prog X.w) X.A (f v u) Q X.xe s2):
   wpAny (model X.prog X.w) X.A (eval a X.env) (λv s₁=>wpAny (model X.prog X.w) X.A (eval b X.env) (λu s₂=>wpAny (model X.prog X.w) X.A (f v u) Q X.xe s₂) X.xe s₁) X.xe s:=by
 refine jl (ha pins s σ H _ I h) λv s1 ⟨x,H1,I1,r1,q1⟩=>?_
 refine jl (hb pins s1 σ H1 _ I1 q1) λu s2 ⟨y,H2,I2,r2,q2⟩=>?_
 exact hf v u s2 x y H2 I2 r1 r2 q2
theorem qT {op:Operator} {r:R2} (ho:ZI X (binaryOp op) r) (ha:JE X a ta) (hb:JE X b tb):JE X (.BinOp a op b pos) (zR r ta tb):=.of (by
 have ha:=ha.to
 have hb:=hb.to
 intro pins s σ H Q I h
 exact wpAny_BinOp (Mr ha hb I h λv u s2 x y H2 I2 rx ry q=>ho pins s2 σ H2 x y v u Q I2 rx ry q))
theorem NG {f:Value->Value->Sem Value} {C:Int->Int->Prop} {g:Int->Int->Int}
   (rule:∀(i j:Int) (t u:Tok) (s:Shared) (Q:Value->Shared->Prop) (E:Value->Shared->Prop),C i j->Q (.int (g i j) s.toks) {s with toks:=s.toks+1}->wpAny (model X.prog X.w) X.A (f (.int i t) (.int j u)) Q E s):
   ZI X f (rI C λi j=>.int (g i j)):=by
 intro pins s σ H x y v u Q I rx ry h
 obtain⟨i,j,rfl,rfl,hc,q⟩:=h
 obtain⟨t,rfl⟩:=rx
 obtain⟨t',rfl⟩:=ry
 exact rule i j t t' s _ _ hc ⟨.int (g i j),H,I.tok _,⟨_,rfl⟩,q⟩
theorem wx {f:Value->Value->Sem Value} {g:Int->Int->Int}
   (rule:∀(i j:Int) (t u:Tok) (s:Shared) (Q:Value->Shared->Prop) (E:Value->Shared->Prop),Q (.int (g i j) s.toks) {s with toks:=s.toks+1}->wpAny (model X.prog X.w) X.A (f (.int i t) (.int j u)) Q E s):
   ZI X f (x6 λi j=>.int (g i j)):=by
 intro pins s σ H x y v u Q I rx ry h
 obtain⟨i,j,rfl,rfl,q⟩:=h
 obtain⟨t,rfl⟩:=rx
 obtain⟨t',rfl⟩:=ry
 exact rule i j t t' s _ _ ⟨.int (g i j),H,I.tok _,⟨_,rfl⟩,q⟩
theorem KU {f:Value->Value->Sem Value} {g:Int->Int->Bool}
   (rule:∀(i j:Int) (t u:Tok) (s:Shared) (Q:Value->Shared->Prop) (E:Value->Shared->Prop),Q (.bool (g i j)) s->wpAny (model X.prog X.w) X.A (f (.int i t) (.int j u)) Q E s):
   ZI X f (x6 λi j=>.bl (g i j)):=by
 intro pins s σ H x y v u Q I rx ry h
 obtain⟨i,j,rfl,rfl,q⟩:=h
 obtain⟨t,rfl⟩:=rx
 obtain⟨t',rfl⟩:=ry
 exact rule i j t t' s _ _ ⟨.bl (g i j),H,I,rfl,q⟩
def qb1 (i j:Int):Prop:=0 < j/\j < 1073741824
def qa0 (i j:Int):Prop:=0<=j/\j<=1000000/\i.natAbs < 2^64
def MB (i j:Int):Prop:=(-(2^64) < i/\i < 2^64)\/(-(2^64) < j/\j < 2^64)
theorem MB.ok {i j:Int} (h:MB i j):IntMulOk i j:=by
 rcases h with ⟨h1,h2⟩ | ⟨h1,h2⟩
 . exact .of_left (intBits_le_64 h1 h2)
 . exact .of_right (intBits_le_64 h1 h2)
theorem Ux (k:Nat):(0:Int)<=2^k:=by
 rw[two_pow_cast]
 exact zcS _
theorem QM:ZI X (binaryOp .Add) (x6 λi j=>.int (i+j)):=wx λ_ _ _ _ _ _ _ q=>add_int q
theorem wm:ZI X (binaryOp .Sub) (x6 λi j=>.int (i - j)):=wx λ_ _ _ _ _ _ _ q=>sub_int q
theorem JX:ZI X (binaryOp .Mult) (rI MB λi j=>.int (i*j)):=NG λ_ _ _ _ _ _ _ hc q=>mul_int q hc.ok
theorem KR:ZI X (binaryOp .FloorDiv) (rI qb1 λi j=>.int (i / j)):=NG λi j _ _ _ _ _ hc q=>by
 have h1:(0:Int) < j:=hc.1
 have h2:j < 1073741824:=hc.2
 exact floordiv_int (by omega) (by rw[zbV i (by omega)];exact q) (.inl (PyProof.noPylong_small (by omega)))
theorem JY:ZI X (binaryOp .Mod) (rI (λ_ j=>0 < j) λi j=>.int (i % j)):=NG λi j _ _ _ _ _ hc q=>by
 have h1:(0:Int) < j:=hc
 exact mod_int' (by omega) (by rw[Int.fmod_eq_emod_of_nonneg i (by omega)];exact q)
theorem NF:ZI X (binaryOp .Pow) (rI qa0 λi j=>.int (i^j.toNat)):=NG λ_ _ _ _ _ _ _ hc q=>pow_int_small hc.1 hc.2.1 hc.2.2 q
theorem wo:ZI X (binaryOp .LShift) (rI qa0 λi j=>.int (i*2^j.toNat)):=NG λ_ _ _ _ _ _ _ hc q=>lshift_int_small hc.1 hc.2.1 hc.2.2 q
theorem wn:ZI X (binaryOp .RShift) (rI (λ_ j=>0<=j) λi j=>.int (i / 2^j.toNat)):=NG λi j _ _ _ _ _ hc q=>
 rshift_int hc (by rw[zbV i (Ux _)];exact q)
theorem ww:ZI X (binaryOp .BitAnd) (x6 λi j=>.int (Builtin.bitAnd i j)):=wx λ_ _ _ _ _ _ _ q=>and_int q
theorem RV:ZI X (binaryOp .BitOr) (x6 λi j=>.int (Builtin.bitOr i j)):=wx λ_ _ _ _ _ _ _ q=>or_int q
theorem W5:ZI X (binaryOp .BitXor) (x6 λi j=>.int (Builtin.bitXor i j)):=wx λ_ _ _ _ _ _ _ q=>xor_int q
end
def M4:V->V->Bool
 | .non,.non=>true | .non,.int _=>true | .int _,.non=>true | .non,.bl _=>true | .bl _,.non=>true | .non,.str _=>true | .str _,.non=>true
 | .int _,.int _=>true | .bl _,.bl _=>true | .str _,.str _=>true | .byt _,.byt _=>true
 | .int _,.str _=>true | .str _,.int _=>true | .bl _,.str _=>true | .str _,.bl _=>true
 | _,_=>false
def rEq:R2:=λx y H Q=>M4 x y=true/\Q (.bl (decide (x=y))) H
def rNe:R2:=λx y H Q=>M4 x y=true/\Q (.bl (!decide (x=y))) H
theorem kq {i j:Int}:decide (V.int i=V.int j)=(i==j):=by
 rw[zbg]
 simp
theorem uM {i j:Bool}:decide (V.bl i=V.bl j)=(i==j):=by
 rw[zbg]
 simp
theorem ko {i j:Str}:decide (V.str i=V.str j)=(i==j):=by
 rw[zbg]
 simp
theorem kr {i j:Array UInt8}:decide (V.byt i=V.byt j)=(i.toList==j.toList):=by
 rw[zbg]
 cases i
 cases j
 simp
section
variable {X:Cx} {a b c:Expr} {ta tb tc:TE} {pos:Pos}
theorem jc {pins:List (Addr×Obj)} {σ:St} {H:Hp} {s:Shared} {Q:VK} {k k':Bool} (I:qD X pins σ H s) (q:Q (.bl k) H) (e:k=k'):EP X pins σ Q (.bool k') s:=by
 subst e
 exact⟨.bl k,H,I,rfl,q⟩
theorem jp:ZI X (compareOp .Eq) rEq:=by
 intro pins s σ H x y v u Q I rx ry h
 obtain⟨hs,q⟩:=h
 cases x with
 | non=>
   cases rx
   cases y with
   | non=>cases ry;exact PySem.EqNone.eq_none_none (jc I q (by simp))
   | bl j=>cases ry;exact PySem.EqNone.eq_none_bool (jc I q (by simp))
   | int j=>obtain⟨t',rfl⟩:=ry;exact PySem.EqNone.eq_none_int (jc I q (by simp))
   | str j=>obtain⟨t',rfl⟩:=ry;exact PySem.EqNone.eq_none_str (jc I q (by simp))
   | _=>exact absurd (show false=true from hs) tP
 | bl i=>
   cases rx
   cases y with
   | non=>cases ry;exact PySem.EqNone.eq_bool_none (jc I q (by simp))
   | bl j=>cases ry;exact eq_bool (jc I q uM)
   | str j=>obtain⟨t',rfl⟩:=ry;exact PySem.EqMixed.eq_bool_str (jc I q (by simp))
   | _=>exact absurd (show false=true from hs) tP
 | int i=>
   obtain⟨t,rfl⟩:=rx
   cases y with
   | non=>cases ry;exact PySem.EqNone.eq_int_none (jc I q (by simp))
   | int j=>obtain⟨t',rfl⟩:=ry;exact eq_int (jc I q kq)
   | str j=>obtain⟨t',rfl⟩:=ry;exact PySem.EqMixed.eq_int_str (jc I q (by simp))
   | _=>exact absurd (show false=true from hs) tP
 | str i=>
   obtain⟨t,rfl⟩:=rx
   cases y with
   | non=>cases ry;exact PySem.EqNone.eq_str_none (jc I q (by simp))
   | bl j=>cases ry;exact PySem.EqMixed.eq_str_bool (jc I q (by simp))
   | int j=>obtain⟨t',rfl⟩:=ry;exact PySem.EqMixed.eq_str_int (jc I q (by simp))
   | str j=>obtain⟨t',rfl⟩:=ry;exact eq_str (jc I q ko)
   | _=>exact absurd (show false=true from hs) tP
 | byt i=>
   obtain⟨t,rfl⟩:=rx
   cases y with
   | byt j=>obtain⟨t',rfl⟩:=ry;exact PySem.W.eq_bytes (jc I q kr)
   | _=>exact absurd (show false=true from hs) tP
 | _=>cases y<;>exact absurd (show false=true from hs) tP
theorem wp:ZI X (compareOp .NotEq) rNe:=by
 intro pins s σ H x y v u Q I rx ry h
 obtain⟨hs,q⟩:=h
 cases x with
 | non=>
   cases rx
   cases y with
   | non=>cases ry;exact PySem.EqNone.ne_none_none (jc I q (by simp))
   | bl j=>cases ry;exact PySem.EqNone.ne_none_bool (jc I q (by simp))
   | int j=>obtain⟨t',rfl⟩:=ry;exact PySem.EqNone.ne_none_int (jc I q (by simp))
   | str j=>obtain⟨t',rfl⟩:=ry;exact PySem.EqNone.ne_none_str (jc I q (by simp))
   | _=>exact absurd (show false=true from hs) tP
 | bl i=>
   cases rx
   cases y with
   | non=>cases ry;exact PySem.EqNone.ne_bool_none (jc I q (by simp))
   | bl j=>cases ry;exact ne_bool (jc I q (congrArg not uM))
   | str j=>obtain⟨t',rfl⟩:=ry;exact PySem.EqMixed.ne_bool_str (jc I q (by simp))
   | _=>exact absurd (show false=true from hs) tP
 | int i=>
   obtain⟨t,rfl⟩:=rx
   cases y with
   | non=>cases ry;exact PySem.EqNone.ne_int_none (jc I q (by simp))
   | int j=>obtain⟨t',rfl⟩:=ry;exact ne_int (jc I q (congrArg not kq))
   | str j=>obtain⟨t',rfl⟩:=ry;exact PySem.EqMixed.ne_int_str (jc I q (by simp))
   | _=>exact absurd (show false=true from hs) tP
 | str i=>
   obtain⟨t,rfl⟩:=rx
   cases y with
   | non=>cases ry;exact PySem.EqNone.ne_str_none (jc I q (by simp))
   | bl j=>cases ry;exact PySem.EqMixed.ne_str_bool (jc I q (by simp))
   | int j=>obtain⟨t',rfl⟩:=ry;exact PySem.EqMixed.ne_str_int (jc I q (by simp))
   | str j=>obtain⟨t',rfl⟩:=ry;exact ne_str (jc I q (congrArg not ko))
   | _=>exact absurd (show false=true from hs) tP
 | byt i=>
   obtain⟨t,rfl⟩:=rx
   cases y with
   | byt j=>obtain⟨t',rfl⟩:=ry;exact PySem.W.ne_bytes (jc I q (congrArg not kr))
   | _=>exact absurd (show false=true from hs) tP
 | _=>cases y<;>exact absurd (show false=true from hs) tP
theorem Q6:ZI X (compareOp .Lt) (x6 λi j=>.bl (decide (i < j))):=KU λ_ _ _ _ _ _ _ q=>lt_int q
theorem vU:ZI X (compareOp .LtE) (x6 λi j=>.bl (decide (i<=j))):=KU λ_ _ _ _ _ _ _ q=>le_int q
theorem zr:ZI X (compareOp .Gt) (x6 λi j=>.bl (decide (j < i))):=KU λ_ _ _ _ _ _ _ q=>gt_int q
theorem wq:ZI X (compareOp .GtE) (x6 λi j=>.bl (decide (j<=i))):=KU λ_ _ _ _ _ _ _ q=>ge_int q
theorem yb:ZI X (compareOp .In) (λx y H Q=>∃i j,x=.str i/\y=.str j/\Q (.bl (!(Builtin.Str.occurrences j i 0 j.length 1).isEmpty)) H):=by
 intro pins s σ H x y v u Q I rx ry h
 obtain⟨i,j,rfl,rfl,q⟩:=h
 obtain⟨t,rfl⟩:=rx
 obtain⟨t',rfl⟩:=ry
 exact in_str (jc I q rfl)
theorem qB (b:Expr) {op:CmpOp} (h:op≠.In:=by decide) (h2:op≠.NotIn:=by decide):behindInMarks op b=false:=by
 have e1:(op==CmpOp.In)=false:=by cases op<;>first | rfl | exact absurd rfl h
 have e2:(op==CmpOp.NotIn)=false:=by cases op<;>first | rfl | exact absurd rfl h2
 cases b<;>simp [behindInMarks,e1,e2]
theorem jT {op:CmpOp} {r:R2} (ho:ZI X (compareOp op) r) (ha:JE X a ta) (hb:JE X b tb) (hm:behindInMarks op b=false):JE X (.Compare a [op] [b] pos) (zR r ta tb):=.of (by
 have ha:=ha.to
 have hb:=hb.to
 intro pins s σ H Q I h
 exact wpAny_Compare1 (Mr ha hb I h λv u s2 x y H2 I2 rx ry q=>ho pins s2 σ H2 x y v u Q I2 rx ry q) hm)
def Yo (t:TE):TT:=λσ H Q=>t σ H λx H'=>∃k,x=.bl k/\Q k H'
theorem qt {op:CmpOp} {r:R2} (ho:ZI X (compareOp op) r) (ha:JE X a ta) (hb:JE X b tb) (hm:behindInMarks op b=false):JT X (.Compare a [op] [b] pos) (Yo (zR r ta tb)):=.of (by
 have ha:=ha.to
 have hb:=hb.to
 intro pins s σ H Q I h
 refine wpAny_isTrue_Compare1 (jl (ha pins s σ H _ I h) λv s1 ⟨x,H1,I1,r1,q1⟩=>jl (hb pins s1 σ H1 _ I1 q1) λu s2 ⟨y,H2,I2,r2,q2⟩=>
   jl (ho pins s2 σ H2 x y v u _ I2 r1 r2 q2) λc s3 ⟨z,H3,I3,r3,k,e,q3⟩=>?_) hm
 subst e
 cases r3
 exact wpAny_truthy_bool ⟨H3,I3,q3⟩)
theorem Ye:(sizeLine:Nat) < 2^63:=by rw[sizeLine_eq];decide
theorem Xz:ZI X (binaryOp .Add) (λx y H Q=>∃i j,x=.str i/\y=.str j/\i.length+j.length<=sizeLine/\Q (.str (i++j)) H):=by
 intro pins s σ H x y v u Q I rx ry h
 obtain⟨i,j,rfl,rfl,hz,q⟩:=h
 obtain⟨t,rfl⟩:=rx
 obtain⟨t',rfl⟩:=ry
 exact add_str (λt' tk=>⟨.str (i++j),H,I.tok _,⟨_,rfl⟩,q⟩) hz
theorem Jl {x:V} {us:List Value} (r:qJ [x] us):∃u,us=[u]/\qQ x u:=by
 cases r with
 | cons r1 r2=>cases r2;exact⟨_,rfl,r1⟩
theorem y7 {x y:V} {us:List Value} (r:qJ [x,y] us):∃u w',us=[u,w']/\qQ x u/\qQ y w':=by
 cases r with
 | cons r1 r2=>
   cases r2 with
   | cons r3 r4=>cases r4;exact⟨_,_,rfl,r1,r3⟩
theorem WB (hc:X.calm=true):QR X (.builtin "max") (λxs H Q=>∃i j,xs=[.int i,.int j]/\Q (.int (if j > i then j else i)) H):=by
 intro pins s σ H xs us Q I r h
 obtain⟨i,j,rfl,q⟩:=h
 obtain⟨u,w',rfl,⟨t,rfl⟩,⟨t',rfl⟩⟩:=y7 r
 refine max_two_ints (I.ok.hd hc) λh' tk k=>⟨_,H,I.kept k,?_,q⟩
 by_cases hj:j > i
 . rw[if_pos hj,if_pos hj];exact⟨_,rfl⟩
 . rw[if_neg hj,if_neg hj];exact⟨_,rfl⟩
theorem yY (hc:X.calm=true):QR X (.builtin "min") (λxs H Q=>∃i j,xs=[.int i,.int j]/\Q (.int (if j < i then j else i)) H):=by
 intro pins s σ H xs us Q I r h
 obtain⟨i,j,rfl,q⟩:=h
 obtain⟨u,w',rfl,⟨t,rfl⟩,⟨t',rfl⟩⟩:=y7 r
 refine min_two_ints (I.ok.hd hc) λh' tk k=>⟨_,H,I.kept k,?_,q⟩
 by_cases hj:j < i
 . rw[if_pos hj,if_pos hj];exact⟨_,rfl⟩
 . rw[if_neg hj,if_neg hj];exact⟨_,rfl⟩
theorem ZC:QR X (.type "int") (λxs H Q=>(∃i,xs=[.int i]/\Q (.int i) H)\/∃k,xs=[.bl k]/\Q (.int (if k then 1 else 0)) H):=by
 intro pins s σ H xs us Q I r h
 rcases h with ⟨i,rfl,q⟩ | ⟨k,rfl,q⟩
 . obtain⟨u,rfl,t,rfl⟩:=Jl r
   exact call_int_int ⟨.int i,H,I,⟨_,rfl⟩,q⟩
 . obtain⟨u,rfl,r1⟩:=Jl r
   cases r1
   exact call_int_bool ⟨.int (if k then 1 else 0),H,I.tok _,⟨_,rfl⟩,q⟩
end
structure vd (h:Heap) (x dx C:Addr) (mA:Str->Option Value):Prop where
 obj:h.get? x=some (zbp C dx)
 ns:h.Ns1 dx mA
 ne:dx≠x
theorem yB {h:Heap} {dx:Addr} {mA:Str->Option Value} (n:h.Ns1 dx mA):∃od,h.get? dx=some od/\∀name,zcT name od=some (mA name):=by
 obtain⟨o,es,ep,ho,hd,hk,_,hm⟩:=n
 refine⟨o,ho,λname=>?_⟩
 have e:=hm name
 unfold nsFind findBy at e
 rw[<-Array.find?_toList]at e
 unfold zcT
 rw[hd]
 dsimp only
 split
 . rename_i y q
   rw[q]at e
   exact congrArg some e
 . rename_i q
   rw[q]at e
   have a:es.toList.any (·.refKey)=false:=by
     rw[List.any_eq_false]
     intro y hy
     obtain⟨z,t,hkey⟩:=hk y (Array.mem_toList_iff.mp hy)
     simp [DictEntry.refKey,hkey]
   have a':¬es.toList.any (·.refKey)=true:=by rw[a];exact tP
   rw[if_neg a']
   exact congrArg some e
theorem vd.look {h:Heap} {x dx C:Addr} {mA:Str->Option Value} (I:vd h x dx C mA):∃od,PySem.W.InstAt h x (zbp C dx) C (some od)/\∀name,zcT name od=some (mA name):=
 let ⟨od,ho,hl⟩:=yB I.ns
 ⟨od,⟨I.obj,rfl,rfl,ho⟩,hl⟩
section
variable {prog:Program} {w:World} {A:Around} {E:Value->Shared->Prop} {s:Shared} {K:PySem.W.Frag} {x dx C f:Addr} {mA:Str->Option Value} {name:Str} {v:Value}
theorem Rf {expr:Bool} {Q:Value->Shared->Prop} (X:K.In s.heap) (I:vd s.heap x dx C mA) (hg:zbs K C name=true) (hh:zbC K C=true)
   (ha:zaf K (.ref C) name=some none) (hv:mA name=some v) (hv':zdV v=true) (h:Q v {s with toks:=s.toks+1}):
   wpAny (model prog w) A (getAttr (.ref x) name expr) Q E s:=by
 obtain⟨od,J,hl⟩:=I.look
 exact PySem.W.get_value X J (zcM hg).1 (PySem.W.findObj_own hh ha rfl (by rw[hl,hv])) hv' h
theorem uv {pl:Sem Bool} {Q:Value×List Value->Shared->Prop} (X:K.In s.heap) (I:vd s.heap x dx C mA) (hg:zbs K C name=true)
   (hf:zaf K (.ref C) name=some (some (.ref f))) (ht:zaS K (.ref f)=true) (hv:mA name=none) (h:Q (.ref f,[.ref x]) s):
   wpAny (model prog w) A (getMethod (.ref x) name pl) Q E s:=by
 obtain⟨od,J,hl⟩:=I.look
 exact PySem.W.method_fn X J (zcM hg).1 (zcM hg).2 hf (beq_iff_eq.mp ht) (by show (zcT name od).map (·.isSome)=some false;rw[hl,hv];rfl) h
theorem Kj {ns:List Str} {Q:Unit->Shared->Prop} (X:K.In s.heap) (I:vd s.heap x dx C mA)
   (hs:zaf K (.ref C) "__setattr__"=some (some (.builtin "object.__setattr__"))) (hp:zbR K C=true) (ht:zdp K C name=some none) (hh:zbC K C=true)
   (hw:PySem.Within mA ns) (hsz:ns.length<=sizeLine)
   (h:∀h',vd h' x dx C (λy=>if y=name then some v else mA y)->Heap.SameBut dx s.heap h'->Q () {s with heap:=h',toks:=s.toks+2}):
   wpAny (model prog w) A (setAttr (.ref x) name v) Q E s:=by
 obtain⟨od,J,hl⟩:=I.look
 refine PySem.W.set_plain X J hs (PySem.W.osa_open (s:={s with toks:=s.toks+1}) (r:=none) X J hp ht λb=>?_)
 obtain⟨cd,hc,hd'⟩:=PySem.W.any_some hh
 have hx:s.heap.get? x=some ⟨.ref C,some dx,.plain,#[]⟩:=I.obj
 refine wpAny_bind (wpAny_pure (wpAny_bind (wpAny_bind (wpAny_loadPart hx (wpAny_bind (PySem.W.Looks.here (s:={s with toks:=s.toks+1}) (PySem.W.looks_clsIn X hc) ?_))))))
 rw[hd']
 refine wpAny_pure (a:=some dx) (wpAny_bind (wpAny_pure (wpAny_bind ?_)))
 refine wpAny_nsSet1 (s:={s with toks:=s.toks+1}) I.ns λh' hn2 hs2=>?_
 obtain⟨oD,esD,epD,hoD,hdD,hcD⟩:=hn2.count (PySem.Within.cons name v hw)
 refine wpAny_bind (wpAny_lookBehind hoD (by rw[hdD];exact pastItsLine_dict (zag hcD (by rw[zat];omega))) ?_)
 exact wpAny_pure (h _ ⟨(hs2.2 _ (Ne.symm I.ne)).trans I.obj,hn2,I.ne⟩ hs2)
theorem wZ {R:Result->Shared->Prop} {vs:List Value} {kw:List (Str×Value)} (X:K.In s.heap) (hm:zck K C=true)
   (hi:zaf K (.ref C) "__init__"=some (some (.ref f))) (hf:PySem.W.typeIn K (.ref f)=some (.type "function"))
   (h:codeAny (model prog w) (A.under (.builtin "type.__call__" ⟨.ref C::vs,kw⟩)) (.call (.ref f) ⟨.ref (s.heap.objs.size+1)::vs,kw⟩) (PySem.W.InitBack (s.heap.objs.size+1) R)
     {s with heap:=(s.heap.push zaZ).push (zbp C s.heap.objs.size)}):
   codeAny (model prog w) A (.call (.ref C) ⟨vs,kw⟩) R s:=by
 obtain⟨hh,g,d,t,os⟩:=s
 exact PySem.W.make_core (PySem.W.makes_of X hm) (PySem.W.looks_findIn X hi) (λself=>PySem.W.bind_fn X self hf) (.inl rfl) h
end
def JV (f:Str) (v:V):List (Str×V)->List (Str×V)
 | []=>[(f,v)]
 | (g,x)::r=>if g=f then (g,v)::r else (g,x)::JV f v r
theorem Yw (f g:Str) (v:V):∀fs:List (Str×V),(JV f v fs).lookup g=if g=f then some v else fs.lookup g
 | []=>by
   show zbh g [(f,v)]=_
   by_cases h:g=f
   . have hb:(g==f)=true:=beq_iff_eq.mpr h
     simp only[zbh,hb,if_pos h]
   . have hb:(g==f)=false:=beq_eq_false_iff_ne.mpr h
     simp only[zbh,hb,if_neg h]
 | (k,x)::r=>by
   have ih:=Yw f g v r
   rw[show JV f v ((k,x)::r)=(if k=f then (k,v)::r else (k,x)::JV f v r) from rfl]
   by_cases hk:k=f
   . rw[if_pos hk]
     by_cases h:g=k
     . have hb:(g==k)=true:=beq_iff_eq.mpr h
       simp only[zbh,hb,if_pos (h.trans hk)]
     . have hb:(g==k)=false:=beq_eq_false_iff_ne.mpr h
       simp only[zbh,hb,if_neg (λe:g=f=>h (e.trans hk.symm))]
   . rw[if_neg hk]
     by_cases h:g=k
     . have hb:(g==k)=true:=beq_iff_eq.mpr h
       simp only[zbh,hb,if_neg (λe:g=f=>hk (h.symm.trans e))]
     . have hb:(g==k)=false:=beq_eq_false_iff_ne.mpr h
       simp only[zbh,hb]
       exact ih
theorem Yg (f:Str) (v:V):∀fs:List (Str×V),f∈(JV f v fs).map (·.1)/\∀g,g∈fs.map (·.1)->g∈(JV f v fs).map (·.1)
 | []=>⟨by simp [JV],λg h=>by simp at h⟩
 | (k,x)::r=>by
   obtain⟨i1,i2⟩:=Yg f v r
   rw[show JV f v ((k,x)::r)=(if k=f then (k,v)::r else (k,x)::JV f v r) from rfl]
   by_cases hk:k=f
   . rw[if_pos hk]
     subst hk
     exact⟨by simp,λg h=>by simpa using h⟩
   . rw[if_neg hk]
     refine⟨?_,λg h=>?_⟩
     . rw[tW]
       exact tU _ i1
     . rw[tW]at h ⊢
       rcases t8.mp h with e | e
       . exact t8.mpr (.inl e)
       . exact tU _ (i2 g e)
theorem Yx (f:Str) (v:V):∀fs:List (Str×V),(JV f v fs).length<=fs.length+1
 | []=>by simp [JV]
 | (k,x)::r=>by
   have ih:=Yx f v r
   rw[show JV f v ((k,x)::r)=(if k=f then (k,v)::r else (k,x)::JV f v r) from rfl]
   by_cases hk:k=f
   . rw[if_pos hk,zat,zat];omega
   . rw[if_neg hk,zat,zat];omega
theorem ZH.some_of {v:V} {o:Option Value} (r:ZH (some v) o):∃u,o=some u/\qQ v u:=by
 cases o with
 | none=>exact(show False from r).elim
 | some u=>exact⟨u,rfl,r⟩
theorem ZH.none_of {o:Option Value} (r:ZH none o):o=none:=by
 cases o with
 | none=>rfl
 | some u=>exact(show False from r).elim
theorem yN {v:V} {u:Value} (r:qQ v u):zdV u=true:=by
 cases v with
 | non=>cases (show u=Value.none from r);rfl
 | bl b=>cases (show u=Value.bool b from r);rfl
 | int i=>obtain⟨t,e⟩:=(show ∃t,u=Value.int i t from r);cases e;rfl
 | str x=>obtain⟨t,e⟩:=(show ∃t,u=Value.str x t from r);cases e;rfl
 | byt b=>obtain⟨t,e⟩:=(show ∃t,u=Value.bytes b t from r);cases e;rfl
 | flt b=>obtain⟨t,e⟩:=(show ∃t,u=Value.float b t from r);cases e;rfl
 | ref a=>cases (show u=Value.ref a from r);rfl
 | ty n=>cases (show u=Value.type n from r);rfl
section
variable {P:Program} {w:World} {H H':Hp} {h h':Heap} {a C dx:Addr} {fs fs':List (Str×V)}
theorem YT (hok:ZJ P w H h) (e:H a=some (.ins C dx fs)):∃mA,vd h a dx C mA/\(∀f,ZH (fs.lookup f) (mA f))/\PySem.Within mA (fs.map (·.1))/\fs.length<=1000/\H dx=some (.own a):=by
 obtain⟨d,z,ne,ob,mA,n,r,q⟩:=(show qX P w H h a (.ins C dx fs) from hok a _ e)
 exact⟨mA,⟨ob,n,ne⟩,r,q,z,d⟩
end
structure X1 (K:PySem.W.Frag) (C:Addr):Prop where
 pg:zbs K C Str.empty=true
 hd:zbC K C=true
 po:zbR K C=true
 sa:zaf K (.ref C) "__setattr__"=some (some (.builtin "object.__setattr__"))
theorem X1.get {K:PySem.W.Frag} {C:Addr} (c:X1 K C) (f:Str):zbs K C f=true:=c.pg
def Jh (K:PySem.W.Frag) (C:Addr) (f:Str):Prop:=zaf K (.ref C) f=some none
theorem Jh.taker {K:PySem.W.Frag} {C:Addr} {f:Str} (n:Jh K C f):zdp K C f=some none:=by
 unfold zdp
 rw[show zaf K (.ref C) f=some none from n]
 rfl
structure Con (K:PySem.W.Frag) (C:Addr) (f:Str) (v:V) (u:Value):Prop where
 at_:zaf K (.ref C) f=some (some u)
 rel:qQ v u
 get:zdM K u "__get__"=some none
 cp:PySem.W.copiedNames.contains f=false
structure Wc (K:PySem.W.Frag) (C:Addr) (m:Str) (f:Addr):Prop where
 at_:zaf K (.ref C) m=some (some (.ref f))
 fn:zaS K (.ref f)=true
 kp:zaH K (.ref f)=true
section
variable {X:Cx} {pins:List (Addr×Obj)} {σ:St} {H:Hp} {s:Shared} {a C dx:Addr} {fs:List (Str×V)} {f:Str} {v:V} {A:Around} {E:Value->Shared->Prop}
theorem U3 {b:Bool} {Q:Value->Shared->Prop} (I:qD X pins σ H s) (e:H a=some (.ins C dx fs)) (c:X1 X.K C) (n:Jh X.K C f) (l:fs.lookup f=some v)
   (h:∀u s',qD X pins σ H s'->qQ v u->Q u s'):wpAny (model X.prog X.w) A (getAttr (.ref a) f b) Q E s:=by
 obtain⟨mA,O,r,_,_,_⟩:=YT I.hok e
 obtain⟨u,hu,ru⟩:=ZH.some_of (v:=v) (o:=mA f) (by rw[<-l];exact r f)
 exact Rf I.kIn O (c.get f) c.hd n hu (yN ru) (h u _ (I.tok _) ru)
theorem QD {m:Str} {g:Addr} {pl:Sem Bool} {Q:Value×List Value->Shared->Prop} (I:qD X pins σ H s) (e:H a=some (.ins C dx fs)) (c:X1 X.K C) (k:Wc X.K C m g) (l:fs.lookup m=none)
   (h:Q (.ref g,[.ref a]) s):wpAny (model X.prog X.w) A (getMethod (.ref a) m pl) Q E s:=by
 obtain⟨mA,O,r,_,_,_⟩:=YT I.hok e
 have hn:mA m=none:=ZH.none_of (by rw[<-l];exact r m)
 exact uv I.kIn O (c.get m) k.at_ k.fn hn h
theorem UG {y:V} {u:Value} {Q:Unit->Shared->Prop} (I:qD X pins σ H s) (e:H a=some (.ins C dx fs)) (c:X1 X.K C) (n:Jh X.K C f) (hl:fs.length < 1000) (ry:qQ y u)
   (h:∀s',qD X pins σ (upd H a (.ins C dx (JV f y fs))) s'->Q () s'):wpAny (model X.prog X.w) A (setAttr (.ref a) f u) Q E s:=by
 obtain⟨mA,O,r,wi,_,ho⟩:=YT I.hok e
 have hz:(fs.map (·.1)).length<=sizeLine:=by rw[tj,sizeLine_eq];omega
 refine Kj I.kIn O c.sa c.po n.taker c.hd wi hz λh' O' sb=>h _ ?_
 have hd:∃o,h'.get? dx=some o:=let ⟨o,_,_,e',_⟩:=O'.ns;⟨o,e'⟩
 refine I.write (x:=a) (e:=dx) (by rw[e];exact True.intro) (.inr ho) (λb q hb z=>(sb.2 b hb).trans z) hd ?_
 refine⟨by rw[qj O.ne];exact ho,?_,O.ne,O'.obj,_,O'.ns,λg=>?_,λg hg=>?_⟩
 . have:=Yx f y fs;omega
 . show ZH ((JV f y fs).lookup g) (if g=f then some u else mA g)
   rw[Yw]
   by_cases q:g=f
   . rw[if_pos q,if_pos q];exact ry
   . rw[if_neg q,if_neg q];exact r g
 . by_cases q:g=f
   . rw[q];exact(Yg f y fs).1
   . refine(Yg f y fs).2 g (wi g λz=>hg ?_)
     show (if g=f then some u else mA g)=none
     rw[if_neg q];exact z
theorem qD.made (I:qD X pins σ H s):qD X pins σ (upd (upd H s.heap.objs.size (.own (s.heap.objs.size+1))) (s.heap.objs.size+1) (.ins C s.heap.objs.size []))
   {s with heap:=(s.heap.push zaZ).push (zbp C s.heap.objs.size)}:=by
 have e1:(s.heap.push zaZ).get? s.heap.objs.size=some zaZ:=tY s.heap rfl
 have e2:((s.heap.push zaZ).push (zbp C s.heap.objs.size)).get? (s.heap.objs.size+1)=some (zbp C s.heap.objs.size):=by
   have:=tY (s.heap.push zaZ) (o:=zbp C s.heap.objs.size) rfl
   rwa [zbn]at this
 have e3:(s.heap.push zaZ).Ns s.heap.objs.size (λ_=>none):=⟨zaZ,#[],_,e1,rfl,(λe he=>absurd he (by simp)),λ_=>rfl⟩
 have I1:=I.laid (a:=s.heap.objs.size) (o:=.own (s.heap.objs.size+1)) (h':=s.heap.push zaZ) (t':=s.toks) (λb u q=>tG _ q) (tF _) ⟨_,e1⟩
 refine I1.laid (a:=s.heap.objs.size+1) (o:=.ins C s.heap.objs.size []) (t':=s.toks) (λb u q=>tG _ q) (Nat.le_of_eq (zbn _ _)) ?_
 have ne:s.heap.objs.size≠s.heap.objs.size+1:=zab (zaI _)
 refine⟨by rw[qj ne,qd],zay _,ne,e2,λ_=>none,(Heap.Ns1.of_empty e3).at λo q=>tG _ q,λ_=>True.intro,λy hy=>absurd rfl hy⟩
theorem Ry {prog:Program} {w:World} {env:Env} {e:Expr} {f:Str} {pos:Pos} {s:Shared} {Q:Value->Shared->Prop} (hb:attributeBase e f env (eval e env)=eval e env)
   (h:wpAny (model prog w) A (eval e env) (λo s₁=>wpAny (model prog w) A (getAttr o f true) Q E s₁) E s):wpAny (model prog w) A (eval (.Attribute e f pos) env) Q E s:=
 Attribute_any_ h (by rw[arm_eval_Attribute,hb])
end
def qbj (K:PySem.W.Frag) (ta:TE) (f:Str):TE:=λσ H Q=>ta σ H λx H1=>∃a C dx fs v,x=.ref a/\H1 a=some (.ins C dx fs)/\X1 K C/\Jh K C f/\fs.lookup f=some v/\Q v H1
def qbu (K:PySem.W.Frag) (ta tv:TE) (f:Str):TS:=λD σ H=>tv σ H λy H1=>ta σ H1 λx H2=>∃a C dx fs,x=.ref a/\H2 a=some (.ins C dx fs)/\X1 K C/\Jh K C f/\fs.length < 1000/\
 D.nx σ (upd H2 a (.ins C dx (JV f y fs)))
section
variable {X:Cx} {o e value:Expr} {f:Str} {pos pos' tpos:Pos} {ta tv:TE}
theorem Jc (he:JE X e ta) (hb:attributeBase e f X.env (eval e X.env)=eval e X.env):JE X (.Attribute e f pos) (qbj X.K ta f):=.of (by
 have he:=he.to
 intro pins s σ H Q I h
 refine Ry hb (jl (he pins s σ H _ I h) λu s1 ⟨x,H1,I1,rx,a,C,dx,fs,v,ex,ea,c,n,l,q⟩=>?_)
 subst ex
 obtain rfl:u=Value.ref a:=rx
 exact U3 I1 ea c n l λu' s2 I2 ru=>⟨v,H1,I2,ru,q⟩)
theorem Vf (ha:JE X o ta) (hv:JE X value tv) (hs:swapsWith value (some (.Attribute o f pos')) pos.line X.env=pure false):JS X (.Assign [.Attribute o f pos'] value pos) (qbu X.K ta tv f):=.of (by
 have ha:=ha.to
 have hv:=hv.to
 intro pins s σ H D I h
 refine plainObj_wpAny_Assign_Attribute (jl (hv pins s σ H _ I h) λu s1 ⟨y,H1,I1,ry,q⟩=>jl (ha pins s1 σ H1 _ I1 q) λov s2 ⟨x,H2,I2,rx,a,C,dx,fs,ex,ea,c,n,l,q2⟩=>?_) hs
 subst ex
 obtain rfl:ov=Value.ref a:=rx
 exact UG I2 ea c n l ry λs3 I3=>⟨σ,_,I3,q2⟩)
end
section
variable {X:Cx} {pins:List (Addr×Obj)} {σ:St} {H:Hp} {s:Shared} {A:Around} {E:Value->Shared->Prop} {Q:Value->Shared->Prop} {c:Value} {b:Bool}
inductive Ym (K:PySem.W.Frag) (H:Hp):V->Value->Prop where
 | non:Ym K H .non (.type "NoneType")
 | bl (x:Bool):Ym K H (.bl x) (.type "bool")
 | int (i:Int):Ym K H (.int i) (.type "int")
 | str (x:Str):Ym K H (.str x) (.type "str")
 | flt (x:UInt64):Ym K H (.flt x) (.type "float")
 | lst {a:Addr} {xs:List V} (e:H a=some (.lst xs)):Ym K H (.ref a) (.type "list")
 | frz {a:Addr} {o:Obj} {xs:List V} (e:H a=some (.frz o (.lst xs))):Ym K H (.ref a) (.type "list")
 | tup {a:Addr} {xs:List V} (e:H a=some (.tup xs)):Ym K H (.ref a) (.type "tuple")
 | dK {a:Addr} {kvs:List (qL×V)} (e:H a=some (.dK kvs)):Ym K H (.ref a) (.type "dict")
 | dT {a:Addr} {kvs:List (List qL×V)} (e:H a=some (.dT kvs)):Ym K H (.ref a) (.type "dict")
 | ins {a C dx:Addr} {fs:List (Str×V)} (e:H a=some (.ins C dx fs)) (cl:X1 K C) (ha:zaf K (.ref C) "__class__"=some (some (.builtin "object.__class__")))
     (hn:zdM K (.builtin "object.__class__") "__get__"=some (some (.builtin "getset_descriptor.__get__"))) (htk:PySem.W.takesIn K (.builtin "object.__class__")=some true)
     (hm:zdc K C (.type "object")=some true):Ym K H (.ref a) (.ref C)
theorem yI {x:V} {u t:Value} (I:qD X pins σ H s) (rx:qQ x u) (ty:Ym X.K H x t) (e:zaT X.K t c=some b) (h:∀tk,Q (.bool b) {s with toks:=tk}):
   wpAny (model X.prog X.w) A (call (.builtin "isinstance") [u,c]) Q E s:=by
 cases ty with
 | non=>cases (show u=Value.none from rx);exact zaU PySem.W.kitx_none I.kIn True.intro e (λz=>nomatch z) h
 | bl y=>cases (show u=Value.bool y from rx);exact zaU PySem.W.kitx_bool I.kIn True.intro e (λz=>nomatch z) h
 | int i=>obtain⟨t,q⟩:=(show ∃t,u=Value.int i t from rx);cases q;exact zaU PySem.W.kitx_int I.kIn True.intro e (λz=>nomatch z) h
 | str y=>obtain⟨t,q⟩:=(show ∃t,u=Value.str y t from rx);cases q;exact zaU PySem.W.kitx_str I.kIn True.intro e (λz=>nomatch z) h
 | flt y=>obtain⟨t,q⟩:=(show ∃t,u=Value.float y t from rx);cases q;exact zaU PySem.W.kitx_float I.kIn True.intro e (λz=>nomatch z) h
 | @lst a xs ea=>
   cases (show u=Value.ref a from rx)
   obtain⟨_,_,n,_,h1⟩:=(show qX X.prog X.w H s.heap a (.lst xs) from I.hok a _ ea)
   exact zaU zdN I.kIn ⟨_,h1,rfl⟩ e (λz=>nomatch z) h
 | @frz a ob xs ea=>
   cases (show u=Value.ref a from rx)
   obtain⟨_,_,_,n,_,h1⟩:=(show qX X.prog X.w H s.heap a (.frz ob (.lst xs)) from I.hok a _ ea)
   exact zaU zdN I.kIn ⟨_,h1,rfl⟩ e (λz=>nomatch z) h
 | @tup a xs ea=>
   cases (show u=Value.ref a from rx)
   obtain⟨_,_,_,p⟩:=(show qX X.prog X.w H s.heap a (.tup xs) from I.hok a _ ea)
   obtain⟨o,h1,h2,_⟩:=p
   exact zaU PySem.W.kitx_tuple I.kIn ⟨o,h1,h2⟩ e (λz=>nomatch z) h
 | @dK a kvs ea=>
   cases (show u=Value.ref a from rx)
   obtain⟨_,_,vs,_,p⟩:=(show qX X.prog X.w H s.heap a (.dK kvs) from I.hok a _ ea)
   obtain⟨o,es,ep,h1,h2,_⟩:=p
   exact zaU zdO I.kIn ⟨o,h1,h2.1⟩ e (λz=>nomatch z) h
 | @dT a kvs ea=>
   cases (show u=Value.ref a from rx)
   obtain⟨_,_,xs,_,o,es,ep,h1,h2,_⟩:=(show qX X.prog X.w H s.heap a (.dT kvs) from I.hok a _ ea)
   exact zaU zdO I.kIn ⟨o,h1,h2.1⟩ e (λz=>nomatch z) h
 | @ins a C dx fs ea cl ha hn htk hm=>
   cases (show u=Value.ref a from rx)
   obtain⟨mA,O,_⟩:=YT I.hok ea
   obtain⟨od,J,_⟩:=O.look
   exact zaU (PySem.W.kitx_own (cl.get _) cl.hd ha hn htk hm) I.kIn J e (λz=>nomatch z) h
end
structure qS (k:Nat) (A:Around):Prop where
 hd:A.handled=none
 dp:A.depth+3*k+5 < recursionLimit
 un:A.units+16*k+200 < cLine
 gd:A.guards=some []
theorem qS.mono {j k:Nat} {A:Around} (r:qS k A) (h:j<=k):qS j A:=⟨r.hd,by have:=r.dp;omega,by have:=r.un;omega,r.gd⟩
theorem qS.deeper {k:Nat} {A:Around} (r:qS (k+1) A) (env:Env):qS k (A.deeper env):=
 ⟨r.hd,by have:=r.dp;show A.depth+1+3*k+5 < _;omega,by have:=r.un;show A.units+3+16*k+200 < _;omega,r.gd⟩
theorem qS.in1 {k:Nat} {A:Around} (r:qS (k+1) A):qS k A.in1:=
 ⟨r.hd,by have:=r.dp;show A.depth+3*k+5 < _;omega,by have:=r.un;show A.units+1+16*k+200 < _;omega,r.gd⟩
theorem UU {A:Around} {C:Addr} {us:List Value} {kw:List (Str×Value)}:(A.under (.builtin "type.__call__" ⟨.ref C::us,kw⟩)).depth=A.depth+1:=by
 first | rfl | simp [Around.under,Code.weight,Code.isCreation,Code.isGuard,Code.isCaller,Code.frames,Code.isFrame,guardIds]
theorem UT {A:Around} {C:Addr} {us:List Value} {kw:List (Str×Value)}:(A.under (.builtin "type.__call__" ⟨.ref C::us,kw⟩)).units=A.units+1:=by
 first | rfl | simp [Around.under,Code.cUnits,Code.frames,Code.isFrame]
theorem qS.make {k:Nat} {A:Around} (r:qS (k+1) A) (C:Addr) (us:List Value) (kw:List (Str×Value)):qS k (A.under (.builtin "type.__call__" ⟨.ref C::us,kw⟩)):=
 ⟨r.hd,by have:=r.dp;rw[UU];omega,by have:=r.un;rw[UT];omega,(by have:=r.gd;first | exact this | simpa [Around.under,Code.isGuard,guardIds] using this)⟩
theorem qS.depth {k:Nat} {A:Around} (r:qS k A):A.depth < recursionLimit:=by have:=r.dp;omega
theorem qS.units {k:Nat} {A:Around} (r:qS k A):A.units+64 < cLine:=by have:=r.un;omega
def Jj:TA:=λ_ H Q=>Q [] H
def jo (ta:TE) (tr:TA):TA:=λσ H Q=>ta σ H λx H1=>tr σ H1 λxs H2=>Q (x::xs) H2
section
variable {X:Cx} {e:Expr} {es:List Expr} {te:TE} {t:TA} {pos:Pos}
theorem qf:JA X [] Jj:=.of (by
 exact λ_ _ _ _ H Q I h=>Calls.spliced_nil ⟨[],H,I,.nil,h⟩)
theorem qb (ha:JE X e te) (hr:JA X es t) (hs:starEach (e::es) X.env=(false,eval e X.env)::starEach es X.env:=by rfl):JA X (e::es) (jo te t):=.of (by
 have ha:=ha.to
 have hr:=hr.to
 intro pos pins s σ H Q I h
 rw[hs]
 show wpAny _ _ (spliced ((false,eval e X.env)::backTo pos (starEach es X.env))) _ _ s
 refine Calls.spliced_cons (jl (ha pins s σ H _ I h) λu s1 ⟨x,H1,I1,r1,q1⟩=>?_)
 exact jl (hr pos pins s1 σ H1 _ I1 q1) λus s2 ⟨xs,H2,I2,r2,q2⟩=>⟨x::xs,H2,I2,.cons r1 r2,q2⟩)
def kM (t:TA):TE:=λσ H Q=>t σ H λxs H1=>xs.length<=sizeLine/\∀p,H1 p=none->Q (.ref p) (upd H1 p (.tup xs))
def qbf (t:TA):TE:=λσ H Q=>t σ H λxs H1=>xs.length<=sizeLine/\∀p,H1 p=none->Q (.ref p) (upd H1 p (.lst xs))
theorem j5 {x1} (h:JA X es t):JE X (.Tuple es x1 pos) (kM t):=.of (by
 have h:=h.to
 intro pins s σ H Q I hq
 refine wpAny_Tuple_spliced (jl (h pos pins s σ H _ I hq) λus s1 ⟨xs,H1,I1,r,z,q⟩=>⟨by rw[<-r.length];exact z,?_⟩)
 have hf:H1 s1.heap.objs.size=none:=I1.hok.fresh (tF _)
 refine⟨.ref s1.heap.objs.size,upd H1 s1.heap.objs.size (.tup xs),I1.laid (t':=s1.toks) (λb u e=>tG _ e) (tF _) ?_,rfl,q _ hf⟩
 exact⟨z,us,r,⟨_,tY _ rfl,rfl,_,rfl⟩⟩)
theorem jA (h:JA X es t):JE X (.List es pos) (qbf t):=.of (by
 have h:=h.to
 intro pins s σ H Q I hq
 refine wpAny_List_spliced (jl (h pos pins s σ H _ I hq) λus s1 ⟨xs,H1,I1,r,z,q⟩=>⟨by rw[<-r.length];exact z,?_⟩)
 have hf:H1 s1.heap.objs.size=none:=I1.hok.fresh (tF _)
 refine⟨.ref s1.heap.objs.size,upd H1 s1.heap.objs.size (.lst xs),I1.laid (t':=s1.toks) (λb u e=>tG _ e) (tF _) ?_,rfl,q _ hf⟩
 exact⟨z,us,0,r,tY _ rfl⟩)
end
abbrev Sp:=List V->Hp->VK->XK->Prop
abbrev Y6:=List Env->Hp->Shared->XK->Value->Shared->Prop
structure XZ (P:Program) (w:World) (K:PySem.W.Frag) (mg:Str->Option Value) (base:Heap) (A:Around) (outer:List Env) (s:Shared) (H:Hp):Prop where
 frames:A.frames=some outer
 mod:Mod K mg base
 bs:∀b o,base.get? b=some o->s.heap.get? b=some o/\H b=none
 bsz:base.objs.size<=s.heap.objs.size
 funs:s.heap.FunFrames base outer
 frf:∀b∈uy outer,H b=none
 hok:ZJ P w H s.heap
 bare:AllBare s.gens
def CE (outer:List Env) (P:Program) (w:World) (H:Hp) (s:Shared) (Q:VK) (u:Value) (s':Shared):Prop:=
 ∃v H',s'.os=s.os/\AllBare s'.gens/\Un (uy outer) [] H H' s.heap s'.heap/\ZJ P w H' s'.heap/\qQ v u/\Q v H'
def CR (CX:Y6) (outer:List Env) (P:Program) (w:World) (H:Hp) (s:Shared) (Q:VK) (E:XK) (r:Result) (s':Shared):Prop:=
 match r with
 | .ok (.ret u)=>CE outer P w H s Q u s'
 | .ok _=>False
 | .error e=>CX outer H s E e s'
structure ql (P:Program) (w:World) (K:PySem.W.Frag) (mg:Str->Option Value) (base:Heap) (CX:Y6) (k:Nat) (f:Addr) (fd:FuncData) (ps:List Str) (sp:Sp):Prop where
 len:∀vs H Q E,sp vs H Q E->vs.length=ps.length
 run:∀(A:Around) (outer:List Env) (s:Shared) (H:Hp) (args:Args) (us:List Value) (vs:List V) (Q:VK) (E:XK),qS k A->XZ P w K mg base A outer s H->BindsTo s fd args (ps.zip us)->qJ vs us->sp vs H Q E->
   codeAny (model P w) A (.call (.ref f) args) (CR CX outer P w H s Q E) s
theorem ql.imp {P:Program} {w:World} {K:PySem.W.Frag} {mg:Str->Option Value} {base:Heap} {CX:Y6} {k:Nat} {f:Addr} {fd:FuncData} {ps:List Str} {sp sp':Sp} (F:ql P w K mg base CX k f fd ps sp)
   (h:∀vs H Q E,sp' vs H Q E->sp vs H Q E):ql P w K mg base CX k f fd ps sp':=
 ⟨λvs H Q E q=>F.len vs H Q E (h _ _ _ _ q),λA outer s H args us vs Q E hr he hb hv hs=>F.run A outer s H args us vs Q E hr he hb hv (h _ _ _ _ hs)⟩
theorem XZ.make {P:Program} {w:World} {K:PySem.W.Frag} {mg:Str->Option Value} {base:Heap} {A:Around} {outer:List Env} {s:Shared} {H:Hp} (e:XZ P w K mg base A outer s H) (C:Addr) (us:List Value) (kw:List (Str×Value)):
   XZ P w K mg base (A.under (.builtin "type.__call__" ⟨.ref C::us,kw⟩)) outer s H:=⟨by first | exact e.frames | (simpa [Around.under,Code.envs,Code.isFrame,pushEnvs] using e.frames),e.mod,e.bs,e.bsz,e.funs,e.frf,e.hok,e.bare⟩
theorem XZ.in1 {P:Program} {w:World} {K:PySem.W.Frag} {mg:Str->Option Value} {base:Heap} {A:Around} {outer:List Env} {s:Shared} {H:Hp} (e:XZ P w K mg base A outer s H):
   XZ P w K mg base A.in1 outer s H:=⟨e.frames,e.mod,e.bs,e.bsz,e.funs,e.frf,e.hok,e.bare⟩
section
variable {X:Cx} {pins:List (Addr×Obj)} {σ:St} {H:Hp} {s s':Shared}
theorem qD.env0 (I:qD X pins σ H s):XZ X.prog X.w X.K X.mg X.base X.A X.stack s H:=
 ⟨I.ok.frames,I.ok.mod,I.bs,zag I.ok.bsz I.sz,I.stack,I.stkFree,I.hok,I.bare⟩
theorem qD.after {Q:VK} {u:Value} (I:qD X pins σ H s) (h:CE X.stack X.prog X.w H s Q u s'):EP X pins σ Q u s':=by
 obtain⟨v,H',os,bare,un,hok,r,q⟩:=h
 obtain⟨hh,g,d,t,os'⟩:=s'
 obtain rfl:os'=s.os:=os
 exact⟨v,H',I.call (h':=hh) (g':=g) (d':=d) (t':=t) (ch:=[]) un hok bare (λb z=>absurd z (by simp)),r,q⟩
end
def Ze (sp:Sp) (dvs:List V) (E:XK) (t:TA):TE:=λσ H Q=>t σ H λvs H1=>sp (vs++dvs) H1 Q E
def Wh (C:Addr) (m:Str) (sp:Sp) (dvs:List V) (E:XK) (ta:TE) (t:TA):TE:=λσ H Q=>ta σ H λx H1=>∃a dx fs,x=.ref a/\H1 a=some (.ins C dx fs)/\fs.lookup m=none/\
 t σ H1 λvs H2=>sp (x::(vs++dvs)) H2 Q E
def MQ (C:Addr) (sp:Sp) (dvs:List V) (E:XK) (t:TA):TE:=λσ H Q=>t σ H λvs H1=>∀x dx,H1 x=none->H1 dx=none->dx≠x->
 sp (.ref x::(vs++dvs)) (upd (upd H1 dx (.own x)) x (.ins C dx [])) (λv H2=>v=.non/\Q (.ref x) H2) E
def jP (K:PySem.W.Frag) (fd:FuncData) (ps:List Str) (ds:List Value):Prop:=
 ∀(s:Shared) (us:List Value),K.In s.heap->(us++ds).length=ps.length->BindsTo s fd ⟨us,[]⟩ (ps.zip (us++ds))
theorem jP.all {K:PySem.W.Frag} {fd:FuncData} {ps:List Str} (h:∀us:List Value,us.length=ps.length->bindArgs fd ⟨us,[]⟩=pure (ps.zip us)):jP K fd ps []:=λs us _ hl=>by
 rw[zax]at hl ⊢
 exact .of_eq (h us hl)
def QO (CX:Y6) (X:Cx) (E:XK):Prop:=∀(pins:List (Addr×Obj)) (σ:St) (H:Hp) (s:Shared) (e:Value) (s':Shared),qD X pins σ H s->CX X.stack H s E e s'->X.xe e s'
section
variable {X:Cx} {CX:Y6} {k:Nat} {f C:Addr} {fd:FuncData} {ps:List Str} {sp:Sp} {dvs:List V} {ds:List Value} {E:XK} {x m:Str} {p pos apos:Pos} {e o:Expr} {es:List Expr} {ta:TE} {t:TA}
theorem ZW {pins:List (Addr×Obj)} {σ:St} {H:Hp} {s:Shared} {Q:VK} {us:List Value} {vs:List V} (F:ql X.prog X.w X.K X.mg X.base CX k f fd ps sp) (hr:qS k X.A) (hb:jP X.K fd ps ds) (hd:qJ dvs ds) (hx:QO CX X E)
   (I:qD X pins σ H s) (r:qJ vs us) (h:sp (vs++dvs) H Q E):wpAny (model X.prog X.w) X.A (call (.ref f) us) (EP X pins σ Q) X.xe s:=by
 have r2:qJ (vs++dvs) (us++ds):=r.append hd
 have hl:(us++ds).length=ps.length:=by rw[<-r2.length];exact F.len _ _ _ _ h
 refine wpAny_call (codeAny_mono (F.run X.A X.stack s H ⟨us,[]⟩ (us++ds) (vs++dvs) Q E hr I.env0 (hb s us I.kIn hl) r2 h) λr s' hq=>?_)
 cases r with
 | error e=>exact hx pins σ H s e s' I hq
 | ok fl=>
   cases fl with
   | ret u=>exact I.after hq
   | next=>exact False.elim hq
   | brk=>exact False.elim hq
   | cont=>exact False.elim hq
theorem KL (F:ql X.prog X.w X.K X.mg X.base CX k f fd ps sp) (hr:qS k X.A) (hg:Gl X x) (hm:X.mg x=some (.ref f)) (hk:zaH X.K (.ref f)=true) (hb:jP X.K fd ps ds) (hd:qJ dvs ds) (hx:QO CX X E)
   (ha:PA X (e::es) t) (hdb:(x==("__debug__":Str))=false:=by decide) (he:starEach (e::es) X.env=(false,eval e X.env)::starEach es X.env:=by rfl) (hpl:(backTo pos (starEach es X.env)).any (·.1)=false:=by rfl):
   PE X (.Call (.Name x p) (e::es) [] pos) (Ze sp dvs E t):=by
 intro pins s σ H Q I h
 refine wpAny_Call_Name_kw (Vc I hg hm ?_ hdb)
 refine zbL (h₀:=X.base) I.ok.mod.kin hk (jl (ha pos pins s σ H _ I h) λus s1 ⟨vs,H1,I1,r,q⟩=>⟨I1.kIn,?_⟩) he hpl
 exact ZW F hr hb hd hx I1 r q
theorem KJ {pl:Sem Bool} (he:PE X o ta) (c:X1 X.K C) (hm:Wc X.K C m f) (F:ql X.prog X.w X.K X.mg X.base CX k f fd ps sp) (hr:qS k X.A) (hb:jP X.K fd ps ds) (hd:qJ dvs ds) (hx:QO CX X E) (ha:PA X (e::es) t)
   (hst:starEach (e::es) X.env=(false,eval e X.env)::starEach es X.env:=by rfl) (hpl:(backTo pos (starEach es X.env)).any (·.1)=false:=by rfl)
   (ht:eval (.Call (.Attribute o m apos) (e::es) [] pos) X.env=(do
     let ov <-eval o X.env
     standAt apos.atName
     let (f,first) <-holding [ov] (getMethod ov m pl)
     callWith pos f first (backTo pos (starEach (e::es) X.env)) (backToKw pos (keywordEach [] X.env))):=by rfl):
   PE X (.Call (.Attribute o m apos) (e::es) [] pos) (Wh C m sp dvs E ta t):=by
 intro pins s σ H Q I h
 refine zbP (pl:=pl) (jl (he pins s σ H _ I h) λu s1 ⟨x,H1,I1,rx,a,dx,fs,ex,ea,l,q⟩=>?_) ht
 subst ex
 obtain rfl:u=Value.ref a:=rx
 refine QD I1 ea c hm l ?_
 refine zbL (first:=[.ref a]) (h₀:=X.base) I.ok.mod.kin hm.kp (jl (ha pos pins s1 σ H1 _ I1 q) λus s2 ⟨vs,H2,I2,r,q2⟩=>⟨I2.kIn,?_⟩) hst hpl
 exact ZW (us:=.ref a::us) (vs:=.ref a::vs) F hr hb hd hx I2 (.cons rfl r) q2
theorem GQ {pl:Sem Bool} (he:JE X o ta) (c:X1 X.K C) (hm:Wc X.K C m f) (F:ql X.prog X.w X.K X.mg X.base CX k f fd ps sp) (hr:qS k X.A) (hb:jP X.K fd ps ds) (hd:qJ dvs ds) (hx:QO CX X E) (ha:JA X (e::es) t) (hst:starEach (e::es) X.env=(false,eval e X.env)::starEach es X.env:=by rfl) (hpl:(backTo pos (starEach es X.env)).any (·.1)=false:=by rfl) (ht:eval (.Call (.Attribute o m apos) (e::es) [] pos) X.env=(do
     let ov <-eval o X.env
     standAt apos.atName
     let (f,first) <-holding [ov] (getMethod ov m pl)
     callWith pos f first (backTo pos (starEach (e::es) X.env)) (backToKw pos (keywordEach [] X.env))):=by rfl):JE X (.Call (.Attribute o m apos) (e::es) [] pos) (Wh C m sp dvs E ta t):=.of (KJ he.to c hm F hr hb hd hx ha.to hst hpl ht)
theorem we {pl:Sem Bool} (he:PE X o ta) (c:X1 X.K C) (hm:Wc X.K C m f) (F:ql X.prog X.w X.K X.mg X.base CX k f fd ps sp) (hr:qS k X.A) (hb:jP X.K fd ps ds) (hd:qJ dvs ds) (hx:QO CX X E)
   (ht:eval (.Call (.Attribute o m apos) [] [] pos) X.env=(do
     let ov <-eval o X.env
     standAt apos.atName
     let (f,first) <-holding [ov] (getMethod ov m pl)
     callWith pos f first (backTo pos (starEach [] X.env)) (backToKw pos (keywordEach [] X.env))):=by rfl):
   PE X (.Call (.Attribute o m apos) [] [] pos) (Wh C m sp dvs E ta Jj):=by
 intro pins s σ H Q I h
 refine zbP (pl:=pl) (jl (he pins s σ H _ I h) λu s1 ⟨x,H1,I1,rx,a,dx,fs,ex,ea,l,q⟩=>?_) ht
 subst ex
 obtain rfl:u=Value.ref a:=rx
 refine QD I1 ea c hm l ?_
 exact zcN (first:=[.ref a]) I1.kIn hm.kp (ZW (us:=[.ref a]) (vs:=[.ref a]) F hr hb hd hx I1 (.cons rfl .nil) q)
theorem ud {pl:Sem Bool} (he:JE X o ta) (c:X1 X.K C) (hm:Wc X.K C m f) (F:ql X.prog X.w X.K X.mg X.base CX k f fd ps sp) (hr:qS k X.A) (hb:jP X.K fd ps ds) (hd:qJ dvs ds) (hx:QO CX X E) (ht:eval (.Call (.Attribute o m apos) [] [] pos) X.env=(do
     let ov <-eval o X.env
     standAt apos.atName
     let (f,first) <-holding [ov] (getMethod ov m pl)
     callWith pos f first (backTo pos (starEach [] X.env)) (backToKw pos (keywordEach [] X.env))):=by rfl):JE X (.Call (.Attribute o m apos) [] [] pos) (Wh C m sp dvs E ta Jj):=.of (we he.to c hm F hr hb hd hx ht)
structure Mk (K:PySem.W.Frag) (C f:Addr):Prop where
 makes:zck K C=true
 init:zaf K (.ref C) "__init__"=some (some (.ref f))
 fn:zaS K (.ref f)=true
 kp:zaH K (.ref C)=true
theorem xV {pins:List (Addr×Obj)} {σ:St} {H:Hp} {s:Shared} {Q:VK} {us:List Value} {vs:List V} (M:Mk X.K C f) (F:ql X.prog X.w X.K X.mg X.base CX k f fd ps sp) (hr:qS (k+1) X.A) (hb:jP X.K fd ps ds) (hd:qJ dvs ds)
   (hx:QO CX X E) (I:qD X pins σ H s) (r:qJ vs us)
   (h:∀x dx,H x=none->H dx=none->dx≠x->sp (.ref x::(vs++dvs)) (upd (upd H dx (.own x)) x (.ins C dx [])) (λv H2=>v=.non/\Q (.ref x) H2) E):
   wpAny (model X.prog X.w) X.A (call (.ref C) us) (EP X pins σ Q) X.xe s:=by
 have hq:=h (s.heap.objs.size+1) s.heap.objs.size (I.hok.fresh (Nat.le_succ _)) (I.hok.fresh (tF _)) (zab (zaI _))
 have I2:=qD.made (C:=C) I
 have r2:qJ (V.ref (s.heap.objs.size+1)::(vs++dvs)) (Value.ref (s.heap.objs.size+1)::(us++ds)):=.cons rfl (r.append hd)
 have hl:(Value.ref (s.heap.objs.size+1)::us++ds).length=ps.length:=by
   have e:=r2.length
   rw[F.len _ _ _ _ hq]at e
   exact e.symm
 refine wpAny_call (wZ (f:=f) I.kIn M.makes M.init (beq_iff_eq.mp M.fn) (codeAny_mono (F.run _ X.stack _ _ ⟨Value.ref (s.heap.objs.size+1)::us,[]⟩ (Value.ref (s.heap.objs.size+1)::(us++ds)) _ _ E (hr.make C us [])
   (I2.env0.make C us []) (hb _ (Value.ref (s.heap.objs.size+1)::us) I2.kIn hl) r2 hq) λr s' hq'=>?_))
 cases r with
 | error e=>exact hx pins σ _ _ e s' I2 hq'
 | ok fl=>
   cases fl with
   | ret u=>
     obtain⟨v,H',I3,rv,ev,q3⟩:=I2.after hq'
     subst ev
     exact⟨rv,⟨V.ref (s.heap.objs.size+1),H',I3,rfl,q3⟩⟩
   | next=>exact False.elim hq'
   | brk=>exact False.elim hq'
   | cont=>exact False.elim hq'
theorem J4 (M:Mk X.K C f) (F:ql X.prog X.w X.K X.mg X.base CX k f fd ps sp) (hr:qS (k+1) X.A) (hg:Gl X x) (hm:X.mg x=some (.ref C)) (hb:jP X.K fd ps ds) (hd:qJ dvs ds) (hx:QO CX X E) (ha:JA X (e::es) t) (hdb:(x==("__debug__":Str))=false:=by decide) (he:starEach (e::es) X.env=(false,eval e X.env)::starEach es X.env:=by rfl) (hpl:(backTo pos (starEach es X.env)).any (·.1)=false:=by rfl):JE X (.Call (.Name x p) (e::es) [] pos) (MQ C sp dvs E t):=.of (by
 have ha:=ha.to
 intro pins s σ H Q I h
 refine wpAny_Call_Name_kw (Vc I hg hm ?_ hdb)
 refine zbL (h₀:=X.base) I.ok.mod.kin M.kp (jl (ha pos pins s σ H _ I h) λus s1 ⟨vs,H1,I1,r,q⟩=>⟨I1.kIn,?_⟩) he hpl
 exact xV M F hr hb hd hx I1 r q)
end
section
variable {X:Cx} {CX:Y6} {k:Nat} {f C:Addr} {fd:FuncData} {ps ks:List Str} {sp:Sp} {E:XK} {x m:Str} {p pos apos kpos:Pos} {e o:Expr} {es:List Expr} {kws:List Keyword} {te ta:TE} {t tk:TA} {nm:Option Str}
structure qbX (K:PySem.W.Frag) (fd:FuncData) (ps ks:List Str) (g:List Value->List Value->List Value) (gV:List V->List V->List V):Prop where
 to:∀(s:Shared) (us ws:List Value),K.In s.heap->(g us ws).length=ps.length->BindsTo s fd ⟨us,ks.zip ws⟩ (ps.zip (g us ws))
 rel:∀{vs:List V} {us:List Value} {zs:List V} {ws:List Value},qJ vs us->qJ zs ws->qJ (gV vs zs) (g us ws)
variable {g:List Value->List Value->List Value} {gV:List V->List V->List V}
end
structure qp (N P:List Str) (sc:Scope):Prop where
 kind:sc.kind=.function
 co:sc.isCoroutine=false
 gen:sc.isGenerator=false
 nd:N.Nodup
 pre:N.take P.length=P
 par:∀x∈P,sc.names.lookup x=some .local\/sc.names.lookup x=some .cell
 nofree:∀y∈sc.names,y.2≠.free
theorem WE {kindOf:Str->Option NameKind} {x:Str}:∀{binds:List (Str×Value)} {m:Str->Option Value},(∀v,(x,v)∉binds)->bindL kindOf binds m x=m x
 | [],_,_=>rfl
 | (n,v)::r,m,h=>by
   unfold bindL
   rw[WE λw hw=>h w (tU _ hw)]
   split
   . have:x≠n:=by rintro rfl;exact h v zaa
     simp [this]
   . rfl
theorem WH {kindOf:Str->Option NameKind} {x:Str}:∀{binds:List (Str×Value)} {m:Str->Option Value},(∀v,(x,v)∉binds)->bindC kindOf binds m x=m x
 | [],_,_=>rfl
 | (n,v)::r,m,h=>by
   unfold bindC
   rw[WH λw hw=>h w (tU _ hw)]
   split
   . rfl
   . have:x≠n:=by rintro rfl;exact h v zaa
     simp [this]
theorem WG {kindOf:Str->Option NameKind} {x:Str} {v:Value}:∀{P:List Str} {vs:List Value} {i:Nat} {m:Str->Option Value},P.Nodup->P[i]?=some x->vs[i]?=some v->kindOf x=some .local->
   bindL kindOf (P.zip vs) m x=some v
 | [],_,_,_,_,h,_,_=>by simp at h
 | _::_,[],_,_,_,_,h,_=>by simp at h
 | p::P,w::vs,0,m,nd,h1,h2,hk=>by
   simp at h1 h2;subst h1;subst h2
   show bindL kindOf ((p,w)::P.zip vs) m p=_
   unfold bindL
   rw[WE λv hv=>(zam.mp nd).1 (zbA hv).1,if_pos hk]
   simp
 | p::P,w::vs,i+1,m,nd,h1,h2,hk=>by
   show bindL kindOf ((p,w)::P.zip vs) m x=_
   unfold bindL
   exact WG (i:=i) (zam.mp nd).2 (by simpa using h1) (by simpa using h2) hk
theorem WI {kindOf:Str->Option NameKind} {x:Str} {v:Value}:∀{P:List Str} {vs:List Value} {i:Nat} {m:Str->Option Value},P.Nodup->P[i]?=some x->vs[i]?=some v->kindOf x≠some .local->
   bindC kindOf (P.zip vs) m x=some v
 | [],_,_,_,_,h,_,_=>by simp at h
 | _::_,[],_,_,_,_,h,_=>by simp at h
 | p::P,w::vs,0,m,nd,h1,h2,hk=>by
   simp at h1 h2;subst h1;subst h2
   show bindC kindOf ((p,w)::P.zip vs) m p=_
   unfold bindC
   rw[WH λv hv=>(zam.mp nd).1 (zbA hv).1,if_neg hk]
   simp
 | p::P,w::vs,i+1,m,nd,h1,h2,hk=>by
   show bindC kindOf ((p,w)::P.zip vs) m x=_
   unfold bindC
   exact WI (i:=i) (zam.mp nd).2 (by simpa using h1) (by simpa using h2) hk
def jQ (N:List Str) (vs:List V):St:=vs.map some++zdy (N.length - vs.length) none
def XR (CX:Y6) (P:Program) (w:World) (K:PySem.W.Frag) (mg:Str->Option Value) (base:Heap) (N:List Str) (qual:Str) (scope:Scope) (f:Addr) (cd:Value) (A:Around) (outer:List Env) (s:Shared) (H:Hp) (E:XK):Cx where
 prog:=P
 w:=w
 K:=K
 mg:=mg
 base:=base
 A:=A.deeper (envOfC qual scope s.heap.objs.size f cd)
 N:=N
 s₀:=s
 H₀:=H
 env:=envOfC qual scope s.heap.objs.size f cd
 outer:=outer
 stack:=envOfC qual scope s.heap.objs.size f cd::outer
 ex:=[]
 calm:=true
 fn:=λ_=>true
 pn:=[]
 xe:=λe s'=>wpAny (model P w) (A.deeper (envOfC qual scope s.heap.objs.size f cd)) (leaving (envOfC qual scope s.heap.objs.size f cd) e) (λ_ s''=>CX outer H s E e s'') (λe' s''=>CX outer H s E e' s'') s'
theorem Uj {sc:Scope} {n:Nat} {x:Str} (h:sc.names.lookup x=some .cell):∃c,(cellsFrom n sc.names []).lookup x=some c:=by
 have q:=zct sc.names n [] (.inl h)
 exact zdd.mp q
theorem Ww {CX:Y6} {P:Program} {w:World} {K:PySem.W.Frag} {mg:Str->Option Value} {base:Heap} {N ps:List Str} {qual:Str} {scope:Scope} {f:Addr} {cd:Value} {A:Around} {outer:List Env} {s s1:Shared} {H:Hp} {E:XK} {us:List Value} {vs:List V}
   (S:qp N ps scope) (hd:A.handled=none) (e0:XZ P w K mg base A outer s H) (hl:vs.length=ps.length) (r:qJ vs us)
   (x:InCallC s s.heap.objs.size (bindL (envOfC qual scope s.heap.objs.size f cd).kindOf (ps.zip us) λ_=>none) (cellsFrom (s.heap.objs.size+1) scope.names []) (bindC (envOfC qual scope s.heap.objs.size f cd).kindOf (ps.zip us) λ_=>none) s1):
   qD (XR CX P w K mg base N qual scope f cd A outer s H E) [] (jQ N vs) H s1:=by
 have hpl:ps.length<=N.length:=by have:=congrArg zaz S.pre;rw[tS]at this;omega
 obtain⟨h1,tk,rfl,hk⟩:=x.done
 have noA:∀b:Addr,b∉(XR CX P w K mg base N qual scope f cd A outer s H E).ex:=λb z=>absurd (show b∈([]:List Addr) from z) (by simp)
 refine⟨⟨e0.mod,S.kind,rfl,rfl,tF _,λy z c h1 h2=>?_,λy hy=>?_,λy c _ h=>?_,λ_=>hd,Around.frames_deeper e0.frames,.inr ⟨rfl,rfl⟩,λb z=>absurd z (noA b),e0.bs,e0.bsz,λb _ _=>noA b,λb z=>absurd z (noA b),e0.funs,e0.frf⟩,
   rfl,e0.bare,Un.kept hk,⟨_,x.toInCall.ns,λi y v h1 h2 h3=>?_⟩,λy c h=>⟨_,x.cell y c h⟩,e0.hok.fresh (tF _),λy c h=>?_,λp hp=>absurd (show p∈([]:List (Addr×Obj)) from hp) (by simp),e0.hok.kept hk,?_⟩
 . exact name_of_addr x.apart (PySem.mem_of_lookup h1) (PySem.mem_of_lookup h2)
 . have hy:scope.names.lookup y=some .cell\/scope.names.lookup y=some .free:=hy
   rcases hy with hy | hy
   . exact Uj hy
   . exact absurd rfl (S.nofree _ (PySem.mem_of_lookup hy))
 . exact zak (x.above y c (PySem.mem_of_lookup h))
 . have hi:i < vs.length:=by
     unfold jQ at h2
     by_cases hi:i < vs.length
     . exact hi
     . rw[zad (by simpa using hi)]at h2
       rw[zcq]at h2
       split at h2<;>cases h2
   have ha:vs[i]?=some v:=by
     unfold jQ at h2
     rw[zah (by simpa using hi),tI]at h2
     cases e:vs[i]? with
     | none=>rw[e]at h2;cases h2
     | some a=>rw[e]at h2;cases h2;rfl
   obtain⟨u,hu,rv⟩:=r.get ha
   have hp:ps[i]?=some y:=by
     rw[<-S.pre,zbj (by omega)];exact h1
   have ndP:ps.Nodup:=by rw[<-S.pre];exact S.nd.sublist (zcu _ _)
   refine⟨u,rv,?_⟩
   rcases S.par y (tZ hp) with k | k
   . exact .inl ⟨k,WG ndP hp hu k⟩
   . obtain⟨c,e⟩:=Uj (n:=s.heap.objs.size+1) k
     refine .inr ⟨.inl k,c,e,?_⟩
     have q:=x.cell y c e
     rw[WI ndP hp hu (by show scope.names.lookup y≠_;rw[k];decide)]at q
     exact q
 . exact .inl (e0.hok.fresh (zak (x.above y c (PySem.mem_of_lookup h))))
 . unfold jQ
   show _=N.length
   rw[tL,tj,zbQ]
   omega
theorem qaM {CX:Y6} {P:Program} {w:World} {K:PySem.W.Frag} {mg:Str->Option Value} {base:Heap} {k:Nat} {f:Addr} {name qual:Str} {params:Arguments} {body:List Stmt} {scope:Scope} {dV kV doc pm cdv ct oc:Value} {an od:Option Addr}
   {osl:Array (Option Value)} {N ps:List Str} {sp:Sp} (lk:K.lookup f=some ⟨oc,od,.func (zbd name qual params body scope dV kV doc pm an cdv ct),osl⟩) (hcd:zbv K cdv qual=true) (S:qp N ps scope)
   (len:∀vs H Q E,sp vs H Q E->vs.length=ps.length)
   (hbody:∀(A:Around) (outer:List Env) (s:Shared) (H:Hp) (vs:List V) (Q:VK) (E:XK),qS k (A.deeper (envOfC qual scope s.heap.objs.size f cdv))->sp vs H Q E->
     ∃t,R5 (XR CX P w K mg base N qual scope f cdv A outer s H E) body t/\t {nx:=λ_ H'=>Q .non H',rt:=Q} (jQ N vs) H):
   ql P w K mg base CX (k+1) f (zbd name qual params body scope dV kV doc pm an cdv ct) ps sp:=by
 refine⟨len,λA outer s H args us vs Q E hr e0 hb r hsp=>?_⟩
 have hl:=len _ _ _ _ hsp
 have KX:K.In s.heap:=e0.mod.kin.keeps λb o e=>(e0.bs b o e).1
 have lim:s.heap.NoLimit:=e0.mod.nolimit.keeps λb o e=>(e0.bs b o e).1
 have hkind:∀y∈ps.zip us,scope.names.lookup y.1=some .local\/(scope.names.lookup y.1=some .cell/\((cellsFrom (s.heap.objs.size+1) scope.names []).lookup y.1).isSome=true):=λ⟨n,v⟩ hy=>by
   rcases S.par n (zbA hy).1 with q | q
   . exact .inl q
   . exact .inr ⟨q,zct _ _ _ (.inl q)⟩
 refine codeAny_call_function hr.depth (KX _ _ lk) rfl S.co S.gen rfl (zdH KX hcd) (hb _ _ _ _ ?_)
 refine wpAny_newFunctionEnv_cells S.kind hkind λenv he s1 x=>?_
 subst he
 refine⟨lim.keeps x.toInCall.keep,codeAny_func ?_⟩
 obtain⟨t,ht,hq⟩:=hbody A outer s H vs Q E (hr.deeper _) hsp
 have I:qD (XR CX P w K mg base N qual scope f cdv A outer s H E) [] (jQ N vs) H s1:=Ww S hr.hd e0 hl r x
 refine wpAny_mono (ht [] s1 (jQ N vs) H _ I hq) (λfl s' hs=>?_) λe s' hs=>hs
 have fin:∀{σ':St} {H':Hp} {v:V} {u:Value},qD (XR CX P w K mg base N qual scope f cdv A outer s H E) [] σ' H' s'->qQ v u->Q v H'->CE outer P w H s Q u s':=
   λ{σ' H' v u} J rv q=>⟨v,H',J.os,J.bare,J.base,J.hok,rv,q⟩
 cases fl with
 | ret u=>
   obtain⟨v,σ',H',J,rv,q⟩:=hs
   exact fin J rv q
 | next=>
   obtain⟨σ',H',J,q⟩:=hs
   exact fin (v:=V.non) (u:=Value.none) J rfl q
 | brk=>
   obtain⟨_,_,_,q⟩:=hs
   exact False.elim q
 | cont=>
   obtain⟨_,_,_,q⟩:=hs
   exact False.elim q
section
variable {X:Cx} {x:Str} {p pos:Pos} {e:Expr} {es:List Expr} {t:TA} {id T:String} {r:List V->Hp->VK->Prop}
def tCB (r:List V->Hp->VK->Prop) (t:TA):TE:=λσ H Q=>t σ H λvs H1=>r vs H1 Q
theorem qF (hc:QR X (.builtin id) r) (hg:Gl X x) (hm:X.mg x=none) (hv:bootBuiltins x=some (.builtin id)) (ha:JA X (e::es) t) (hn:x≠"__name__":=by decide) (hdb:(x==("__debug__":Str))=false:=by decide) (he:starEach (e::es) X.env=(false,eval e X.env)::starEach es X.env:=by rfl) (hpl:(backTo pos (starEach es X.env)).any (·.1)=false:=by rfl):JE X (.Call (.Name x p) (e::es) [] pos) (tCB r t):=.of (by
 have ha:=ha.to
 intro pins s σ H Q I h
 refine wpAny_Call_Name_kw (Ja I hg hm hv ?_ hn hdb)
 exact PyProof.Rows.callWith_builtin1 (jl (ha pos pins s σ H _ I h) λus s1 ⟨vs,H1,I1,r1,q1⟩=>hc pins s1 σ H1 vs us Q I1 r1 q1) he hpl)
theorem ju (hc:QR X (.type T) r) (hg:Gl X x) (hm:X.mg x=none) (hv:bootBuiltins x=some (.type T)) (ha:JA X (e::es) t) (hn:x≠"__name__":=by decide) (hdb:(x==("__debug__":Str))=false:=by decide) (he:starEach (e::es) X.env=(false,eval e X.env)::starEach es X.env:=by rfl) (hpl:(backTo pos (starEach es X.env)).any (·.1)=false:=by rfl):JE X (.Call (.Name x p) (e::es) [] pos) (tCB r t):=.of (by
 have ha:=ha.to
 intro pins s σ H Q I h
 refine wpAny_Call_Name_kw (Ja I hg hm hv ?_ hn hdb)
 exact PyProof.Rows.callWith_type1 (jl (ha pos pins s σ H _ I h) λus s1 ⟨vs,H1,I1,r1,q1⟩=>hc pins s1 σ H1 vs us Q I1 r1 q1) he hpl)
end
end L2
namespace HT
open PySem PyProof.Rows
section
open PySem.SeqAt
open PySem.AutoSeq1 (wpAny_loadPart')
open PySem.MeetsSeq PySem.MeetsSeq2 PySem.MeetsSeq3
end
section
variable {prog:Program} {w:World} {A:Around} {E:Value->Shared->Prop} {s:Shared}
theorem cat_tup {t b:Addr} {vs ws:List Value} {Q:Value->Shared->Prop} (ht:IsTup s.heap t vs.toArray) (hb:IsTup s.heap b ws.toArray) (hv:vs≠[])
   (h1:ws=[]->Q (.ref t) s) (h2:ws≠[]->Q (.ref s.heap.objs.size) {s with heap:=s.heap.push {cls:=.type "tuple",data:=.seq (vs++ws).toArray}})
   (hsz:vs.length+ws.length<=sizeLine):wpAny (model prog w) A (binaryOp .Add (.ref t) (.ref b)) Q E s:=by
 obtain⟨⟨cls,dd,data,sl⟩,ho,hc,n,hd⟩:=id ht
 obtain⟨⟨cls2,dd2,data2,sl2⟩,ho2,hc2,n2,hd2⟩:=id hb
 simp only at hc hd hc2 hd2
 subst hc hd hc2 hd2
 have e:vs.toArray++ws.toArray=(vs++ws).toArray:=by simp
 by_cases hw:ws=[]
 . exact concat_meets ⟨_,ho,rfl⟩ ⟨_,ho2,rfl⟩ noFill_tuple_add seq_tuple_add zcv zcr (zcg _ _)
     (tuple_addW1 t b vs.toArray ws.toArray n n2 dd dd2 sl sl2 (by simpa using hv) (by simp [hw])) ⟨ho,ho2,h1 hw⟩
 . refine concat_meets ⟨_,ho,rfl⟩ ⟨_,ho2,rfl⟩ noFill_tuple_add seq_tuple_add zcv zcr (zcg _ _)
     (tuple_addW2 t b vs.toArray ws.toArray n n2 dd dd2 sl sl2 (by simpa using hv) (by simpa using hw) (by rw[t9,t9];exact hsz)) ⟨ho,ho2,?_⟩
   rw[e]
   exact h2 hw
def sIx (n d:Nat):Option Int->Nat
 | none=>d
 | some v=>if v < 0 then (v+(n:Int)).toNat else min v.toNat n
theorem sIx_none (n d:Nat):sIx n d none=d:=rfl
theorem sIx_nat (n d k:Nat):sIx n d (some (k:Int))=min k n:=by
 show (if (k:Int) < 0 then ((k:Int)+(n:Int)).toNat else min (k:Int).toNat n)=min k n
 rw[if_neg (by omega),zaL]
end
end HT
namespace L2
open PySem PySem.Spec PyProof.Rows
abbrev TO:=St->Hp->(Option Int->Hp->Prop)->Prop
def PO (X:Cx) (e:Option Expr) (t:TO):Prop:=
 ∀(pins:List (Addr×Obj)) (s:Shared) (σ:St) (H:Hp) (Q:Option Int->Hp->Prop),qD X pins σ H s->t σ H Q->
   wpAny (model X.prog X.w) X.A (evalPart e X.env) (λu s'=>∃o H',qD X pins σ H' s'/\IsPart u o/\Q o H') X.xe s
@[irreducible] def JO (X:Cx) (e:Option Expr) (t:TO):Prop:=PO X e t
theorem JO.of {X:Cx} {e:Option Expr} {t:TO} (h:PO X e t):JO X e t:=by unfold JO;exact h
theorem JO.to {X:Cx} {e:Option Expr} {t:TO} (h:JO X e t):PO X e t:=by unfold JO at h;exact h
def u8:TO:=λ_ H Q=>Q none H
def MN (t:TE):TO:=λσ H Q=>t σ H λx H1=>∃i,x=.int i/\Q (some i) H1
theorem U1 {ns:List Int}:∀{us:List Value},qJ (ns.map V.int) us->IntsAre us ns:=by
 induction ns with
 | nil=>intro us r;rw[zcw]at r;cases r;exact .nil
 | cons n ns ih=>
   intro us r
   rw[tW]at r
   cases r with
   | cons r1 r2=>
     obtain⟨t,e⟩:=r1
     subst e
     exact .cons n t (ih r2)
section
variable {X:Cx} {e:Expr} {te:TE} {lo hi:Option Expr} {tl th:TO} {pos p2:Pos}
theorem zC:JO X none u8:=.of (by
 intro pins s σ H Q I h
 rw[evalPart_none]
 exact wpAny_pure ⟨none,H,I,.none,h⟩)
theorem zB (h:JE X e te):JO X (some e) (MN te):=.of (by
 have h:=h.to
 intro pins s σ H Q I hw
 rw[evalPart_some]
 refine jl (h pins s σ H _ I hw) λu s1 ⟨x,H1,I1,r1,q1⟩=>?_
 obtain⟨i,rfl,q⟩:=q1
 obtain⟨t,rfl⟩:=r1
 exact⟨some i,H1,I1,.int i t,q⟩)
def SlR (X:Cx) (r:V->Option Int->Option Int->Hp->VK->Prop):Prop:=
 ∀(pins:List (Addr×Obj)) (s:Shared) (σ:St) (H:Hp) (x:V) (v vl vu:Value) (lo hi:Option Int) (sl:Addr) (Q:VK),qD X pins σ H s->qQ x v->s.heap.IsSliceOf sl vl vu .none->IsPart vl lo->IsPart vu hi->r x lo hi H Q->
   ∃T id,typeLookup (.type T) "__getitem__"=pure (some (.builtin id))/\s.TypeIs v T/\wpAny (model X.prog X.w) X.A (getItem v (.ref sl)) (EP X pins σ Q) X.xe s
def tSl (r:V->Option Int->Option Int->Hp->VK->Prop) (te:TE) (tl th:TO):TE:=λσ H Q=>te σ H λx H1=>tl σ H1 λl H2=>th σ H2 λu H3=>r x l u H3 Q
theorem Zm {r:V->Option Int->Option Int->Hp->VK->Prop} (hr:SlR X r) (he:JE X e te) (hl:JO X lo tl) (hu:JO X hi th):JE X (.Subscript e (.Slice lo hi none p2) pos) (tSl r te tl th):=.of (by
 have he:=he.to
 have hl:=hl.to
 have hu:=hu.to
 intro pins s σ H Q I h
 refine Subscript_ (jl (he pins s σ H _ I h) λv s1 ⟨x,H1,I1,r1,q1⟩=>?_)
 refine wpAny_Slice (jl (hl pins s1 σ H1 _ I1 q1) λvl s2 ⟨l,H2,I2,pl,q2⟩=>jl (hu pins s2 σ H2 _ I2 q2) λvu s3 ⟨u,H3,I3,pu,q3⟩=>?_)
 rw[evalPart_none]
 refine wpAny_pure ?_
 have I4:qD X pins σ H3 {s3 with heap:=s3.heap.push {cls:=.type "slice",data:=.fields #[vl,vu,.none]}}:=I3.kept (t':=s3.toks) λb ob q=>tG _ q
 obtain⟨T,id,hT,ht,hg⟩:=hr pins {s3 with heap:=s3.heap.push {cls:=.type "slice",data:=.fields #[vl,vu,.none]}} σ H3 x v vl vu l u s3.heap.objs.size Q I4 r1 (Heap.IsSliceOf.new ..) pl pu q3
 show wpAny (model X.prog X.w) X.A (subscriptTail e (.Slice lo hi none p2) v (.ref s3.heap.objs.size)) (EP X pins σ Q) X.xe {s3 with heap:=s3.heap.push {cls:=.type "slice",data:=.fields #[vl,vu,.none]}}
 exact tail_any (ops:=[.ref s3.heap.objs.size,v]) ht hT hg (by with_unfolding_all rfl))
def X9 (xs:List V) (lo hi:Option Int):List V:=(xs.drop (HT.sIx xs.length 0 lo)).take (HT.sIx xs.length xs.length hi - HT.sIx xs.length 0 lo)
theorem Ui (xs:List V) (lo hi:Option Int):(X9 xs lo hi).length<=xs.length:=by
 unfold X9
 rw[tS,zdg]
 omega
theorem qJ.nil_iff {xs:List V} {us:List Value} (r:qJ xs us):us=[]↔xs=[]:=by
 cases r with
 | nil=>simp
 | cons _ _=>simp
end
def GZ (n:Nat) (i:Int):Option Nat:=if 0<=i then (if i < n then some i.toNat else none) else if -(n:Int)<=i then some (i+n).toNat else none
def Um {α:Type} (xs:List α) (i:Int):Option α:=(GZ xs.length i).bind λj=>xs[j]?
theorem kh {n:Nat} {i:Int} {j:Nat} (h:GZ n i=some j):seqIndex? i n=some j/\j < n/\-(n:Int)<=i/\i < n:=by
 unfold GZ at h
 by_cases h0:0<=i
 . rw[if_pos h0]at h
   by_cases h1:i < n
   . rw[if_pos h1]at h
     have e:i.toNat=j:=tO.inj h
     exact⟨by rw[seqIndex_of h0 h1,e],by omega,by omega,h1⟩
   . rw[if_neg h1]at h;cases h
 . rw[if_neg h0]at h
   by_cases h1:-(n:Int)<=i
   . rw[if_pos h1]at h
     have e:(i+n).toNat=j:=tO.inj h
     exact⟨by rw[seqIndex_neg (by omega) h1,e],by omega,h1,by omega⟩
   . rw[if_neg h1]at h;cases h
theorem atI_get {α:Type} {xs:List α} {i:Int} {v:α} (h:Um xs i=some v):∃j,seqIndex? i xs.length=some j/\xs[j]?=some v/\j < xs.length/\-(xs.length:Int)<=i/\i < xs.length:=by
 unfold Um at h
 cases e:GZ xs.length i with
 | none=>rw[e]at h;cases h
 | some j=>
   rw[e]at h
   obtain⟨h1,h2,h3,h4⟩:=kh e
   exact⟨j,h1,h,h2,h3,h4⟩
theorem Y4 {α:Type} {xs:List α} {j:Nat} {v:α} (h:xs[j]?=some v):Um xs (j:Int)=some v:=by
 have hj:j < xs.length:=(tE.mp h).1
 have e:GZ xs.length (j:Int)=some j:=by
   unfold GZ
   rw[if_pos (by omega),if_pos (by omega)];simp
 unfold Um;rw[e];exact h
def RB (b:Expr):Prop:=∀o i,subscripted b false o i=operate [o,i] (getItem o i)
def IxR (X:Cx) (r:R2):Prop:=
 ∀(value slice:Expr) (pins:List (Addr×Obj)) (s:Shared) (σ:St) (H:Hp) (x y:V) (v u:Value) (Q:VK),qD X pins σ H s->qQ x v->qQ y u->r x y H Q->
   subscripted slice false v u=operate [v,u] (getItem v u)->wpAny (model X.prog X.w) X.A (subscriptTail value slice v u) (EP X pins σ Q) X.xe s
def MJ (X:Cx) (id:String) (r:V->List V->Hp->VK->Prop):Prop:=
 ∀(pins:List (Addr×Obj)) (s:Shared) (σ:St) (H:Hp) (x:V) (xs:List V) (v:Value) (us:List Value) (Q:VK),qD X pins σ H s->qQ x v->qJ xs us->r x xs H Q->
   wpAny (model X.prog X.w) X.A (call (.builtin id) (v::us)) (EP X pins σ Q) X.xe s
section
variable {X:Cx} {a b:Expr} {ta tb:TE} {pos:Pos}
theorem qM {r:R2} (hr:IxR X r) (ha:JE X a ta) (hb:JE X b tb) (hs:RB b):JE X (.Subscript a b pos) (zR r ta tb):=.of (by
 have ha:=ha.to
 have hb:=hb.to
 intro pins s σ H Q I h
 exact Subscript_ (Mr ha hb I h λv u s2 x y H2 I2 rx ry q=>hr a b pins s2 σ H2 x y v u Q I2 rx ry q (hs _ _)))
def NB (K:PySem.W.Frag):R2:=λx y H Q=>∃p xs i v,x=.ref p/\y=.int i/\SqL K H p xs/\Um xs i=some v/\Q v H
def zo (K:PySem.W.Frag):R2:=λx y H Q=>∃p xs i v,x=.ref p/\y=.int i/\Y5 K H p xs/\Um xs i=some v/\Q v H
def qbx:R2:=λx y H Q=>∃z i c,x=.str z/\y=.int i/\z.length<=sizeLine/\Um z.cps.toList i=some c/\Q (.str ⟨#[c]⟩) H
theorem jz:IxR X (NB X.K):=by
 intro value slice pins s σ H x y v u Q I rx ry h hs
 obtain⟨p,xs,i,z,rfl,rfl,hq,he,q⟩:=h
 cases rx
 obtain⟨t,rfl⟩:=ry
 obtain⟨its,r,pl,hz⟩:=I.list hq
 obtain⟨j,h1,h2,h3,h4,h5⟩:=atI_get he
 obtain⟨w,ew,rw'⟩:=r.get h2
 have hl:=r.length
 have hn:=Ye
 have fin:EP X pins σ Q w s:=⟨z,H,I,rw',q⟩
 by_cases h0:0<=i
 . have hj:i.toNat=j:=by
     rw[seqIndex_of h0 h5]at h1
     exact tO.inj h1
   exact item_listR pl.isList h0 (by omega) (by rw[hj];simpa using ew) fin hs
 . have hj:(i+(its.toArray.size:Int)).toNat=j:=by
     rw[seqIndex_neg (by omega) h4]at h1
     rw[t9,<-hl]
     exact tO.inj h1
   exact subscriptTail_builtinR (x:=w) pl.isList.typeIs slot_list_getitem.lookup
     (wpAny_getItem_list_neg (Q:=λr s'=>r=w/\EP X pins σ Q r s') pl.isList (by omega) (by rw[t9]<;>omega) (by omega) (by rw[hj];simpa using ew) ⟨rfl,fin⟩) hs
theorem qU:IxR X (zo X.K):=by
 intro value slice pins s σ H x y v u Q I rx ry h hs
 obtain⟨p,xs,i,z,rfl,rfl,hq,he,q⟩:=h
 cases rx
 obtain⟨t,rfl⟩:=ry
 obtain⟨its,r,pl,hz⟩:=I.tuple hq
 obtain⟨j,h1,h2,h3,h4,h5⟩:=atI_get he
 obtain⟨w,ew,rw'⟩:=r.get h2
 have hl:=r.length
 have hn:=Ye
 have fin:EP X pins σ Q w s:=⟨z,H,I,rw',q⟩
 exact subscriptTail_builtinR (x:=w) pl.typeIs slot_tuple_getitem.lookup
   (getItem_tuple (j:=j) (Q:=λr s'=>r=w/\EP X pins σ Q r s') pl (by omega) (by omega) (by rw[t9,<-hl];exact h1) (by simpa using ew) ⟨rfl,fin⟩) hs
theorem uj:IxR X qbx:=by
 intro value slice pins s σ H x y v u Q I rx ry h hs
 obtain⟨z,i,c,rfl,rfl,hz,he,q⟩:=h
 obtain⟨t,rfl⟩:=rx
 obtain⟨t',rfl⟩:=ry
 obtain⟨j,h1,h2,h3,h4,h5⟩:=atI_get he
 have hl:z.cps.toList.length=z.length:=by simp [Str.length]
 rw[hl]at h1 h4 h5
 have hn:=Ye
 exact tail_any (typeIs_str s z t) slot_str_getitem.lookup (getItem_str (c:=c) (by
   have e1:decide (i < -(2^63:Int))=false:=decide_eq_false (by omega)
   have e2:decide (i ≥ 2^63)=false:=decide_eq_false (by omega)
   rw[e1,e2,Bool.or_false]) (by rw[h1];simpa using h2) ⟨.str ⟨#[c]⟩,H,I.tok _,⟨_,rfl⟩,q⟩) hs
theorem US (its:List Value) (n j:Nat) (u:Value):Obj.mapSeq (·.setIfInBounds j u) {cls:=.type "list",data:=.seq its.toArray n}={cls:=.type "list",data:=.seq (its.set j u).toArray n}:=by
 simp [Obj.mapSeq]
theorem qD.lst {pins:List (Addr×Obj)} {σ:St} {H:Hp} {s:Shared} {p:Addr} {xs:List V} (I:qD X pins σ H s) (h:H p=some (.lst xs)):
   ∃(its:List Value) (n:Nat),qJ xs its/\s.heap.get? p=some {cls:=.type "list",data:=.seq its.toArray n}/\xs.length<=sizeLine:=by
 obtain⟨z,its,n,r,e⟩:=I.hok p _ h
 exact⟨its,n,r,e,z⟩
theorem qD.lstUpd {pins:List (Addr×Obj)} {σ:St} {H:Hp} {s:Shared} {p:Addr} {xs ys:List V} {its its':List Value} {n n':Nat} {f:Obj->Obj} (I:qD X pins σ H s) (h:H p=some (.lst xs))
   (ho:s.heap.get? p=some {cls:=.type "list",data:=.seq its.toArray n}) (hf:f {cls:=.type "list",data:=.seq its.toArray n}={cls:=.type "list",data:=.seq its'.toArray n'}) (r:qJ ys its') (hz:ys.length<=sizeLine) (t:Nat):
   qD X pins σ (upd H p (.lst ys)) {s with heap:=s.heap.update p f,toks:=t}:=by
 have e:(s.heap.update p f).get? p=some {cls:=.type "list",data:=.seq its'.toArray n'}:=by
   rw[zbz f ho (by rw[hf]<;>rfl),hf]
 refine I.write (x:=p) (e:=p) (by rw[h];trivial) (.inl rfl) (λb u hb q=>(zaN _ _ (Ne.symm hb)).trans q) ⟨_,e⟩ ?_
 exact⟨hz,its',n',r,e⟩
def qag:V->V->V->Hp->(Hp->Prop)->Prop:=λo i v H Q=>∃p xs k j,o=.ref p/\i=.int k/\H p=some (.lst xs)/\GZ xs.length k=some j/\Q (upd H p (.lst (xs.set j v)))
theorem Xg:Mw X qag:=by
 intro pins s σ H o i v ov iv u Q I ro ri rv h
 obtain⟨p,xs,k,j,rfl,rfl,hp,hj,q⟩:=h
 cases ro
 obtain⟨t,rfl⟩:=ri
 obtain⟨its,n,r,ho,hz⟩:=I.lst hp
 obtain⟨h1,h2,h3,h4⟩:=kh hj
 have hl:=r.length
 have hn:=Ye
 have I':qD X pins σ (upd H p (.lst (xs.set j v))) {s with heap:=s.heap.update p (Obj.mapSeq (·.setIfInBounds j u))}:=
   I.lstUpd hp ho (US its n j u) (r.set rv j) (by rw[zbB];exact hz) s.toks
 by_cases h0:0<=k
 . have hk:k.toNat=j:=by
     rw[seqIndex_of h0 h4]at h1
     exact tO.inj h1
   exact PySem.W.ki_setAt ho h0 (by omega) (by rw[t9,<-hl];exact h4) (by rw[hk];exact⟨_,I',q⟩)
 . have hk:(k+(its.toArray.size:Int)).toNat=j:=by
     rw[seqIndex_neg (by omega) h3]at h1
     rw[t9,<-hl]
     exact tO.inj h1
   exact PySem.W.ki_setBack ho (by omega) (by rw[t9,<-hl];exact h3) (by omega) (by rw[hk];exact⟨_,I',q⟩)
theorem WS (lo hi:Option Int) (n:Nat):(sliceBounds lo hi none n).1=((HT.sIx n 0 lo:Nat):Int)/\(sliceBounds lo hi none n).2.1=((HT.sIx n n hi:Nat):Int)/\(sliceBounds lo hi none n).2.2=1:=by
 refine⟨?_,?_,rfl⟩
 . cases lo with
   | none=>simp [sliceBounds,HT.sIx]
   | some i=>
     simp only[sliceBounds,HT.sIx,zdW,show (1:Int) > 0 by decide,if_true]
     by_cases h:i < 0
     . simp only[h,if_true]<;>omega
     . simp only[h,if_false]<;>omega
 . cases hi with
   | none=>simp [sliceBounds,HT.sIx]
   | some i=>
     simp only[sliceBounds,HT.sIx,zdW,show (1:Int) > 0 by decide,if_true]
     by_cases h:i < 0
     . simp only[h,if_true]<;>omega
     . simp only[h,if_false]<;>omega
theorem X4 (its:List Value) (lo hi:Option Int):slicePick its.toArray lo hi none=((its.drop (HT.sIx its.length 0 lo)).take (HT.sIx its.length its.length hi - HT.sIx its.length 0 lo)).toArray:=by
 obtain⟨h1,h2,h3⟩:=WS lo hi its.toArray.size
 unfold slicePick
 rw[h1,h2,h3]
 simp only[sliceRange_one,pick_run,t9]<;>rfl
def qbw (K:PySem.W.Frag):V->Option Int->Option Int->Hp->VK->Prop:=λx lo hi H Q=>∃a xs,x=.ref a/\SqL K H a xs/\∀p,H p=none->Q (.ref p) (upd H p (.lst (X9 xs lo hi)))
theorem WT:SlR X (qbw X.K):=by
 intro pins s σ H x v vl vu lo hi sl Q I rx hs pl pu h
 obtain⟨a,xs,rfl,hx,q⟩:=h
 cases rx
 obtain⟨its,r,ht,hz⟩:=I.list hx
 have hlen:=r.length
 refine⟨"list",_,slot_list_getitem.lookup,ht.isList.typeIs,?_⟩
 refine wpAny_getItem_list_slice ht.isList hs pl pu .none (by simp) ?_ (by rw[t9]<;>omega)
 rw[X4,<-hlen]
 refine⟨.ref s.heap.objs.size,_,I.laid (t':=s.toks) (o:=.lst (X9 xs lo hi)) (λb ob q=>tG _ q) (tF _) ?_,rfl,q _ (I.hok.fresh (tF _))⟩
 exact⟨zag (Ui xs lo hi) hz,_,0,(r.drop (HT.sIx xs.length 0 lo)).take (HT.sIx xs.length xs.length hi - HT.sIx xs.length 0 lo),tY _ rfl⟩
def ZO:V->Bool
 | .non=>true
 | .bl _=>true
 | .int _=>true
 | .str _=>true
 | _=>false
def Rl:V->V->Bool
 | .non,.non=>true
 | .bl a,.bl b=>a==b
 | .bl a,.int b=>(if a then 1 else 0)==b
 | .int a,.bl b=>a==(if b then 1 else 0)
 | .int a,.int b=>a==b
 | .str a,.str b=>a==b
 | _,_=>false
theorem Mn {A:Around} {s:Shared} {y x:V} {u v:Value} (ry:qQ y u) (rx:qQ x v) (fy:ZO y=true) (fx:ZO x=true):SeqAt.EqAt A s u v (Rl y x):=by
 cases y with
 | non=>
   cases ry
   cases x with
   | non=>cases rx;exact SeqAt.EqAt.same _
   | bl b=>cases rx;exact SeqAt.EqAt.none_bool b
   | int b=>obtain⟨t,rfl⟩:=rx;exact SeqAt.EqAt.none_int b t
   | str b=>obtain⟨t,rfl⟩:=rx;exact SeqAt.EqAt.none_str b t
   | _=>exact absurd (show false=true from fx) tP
 | bl a=>
   cases ry
   cases x with
   | non=>cases rx;exact SeqAt.EqAt.bool_none a
   | bl b=>cases rx;exact SeqAt.EqAt.bool_bool a b
   | int b=>obtain⟨t,rfl⟩:=rx;exact SeqAt.EqAt.bool_int a b t
   | str b=>obtain⟨t,rfl⟩:=rx;exact SeqAt.EqAt.bool_str a b t
   | _=>exact absurd (show false=true from fx) tP
 | int a=>
   obtain⟨t',rfl⟩:=ry
   cases x with
   | non=>cases rx;exact SeqAt.EqAt.int_none a t'
   | bl b=>cases rx;exact SeqAt.EqAt.int_bool a t' b
   | int b=>obtain⟨t,rfl⟩:=rx;exact SeqAt.EqAt.int_int a t' b t
   | str b=>obtain⟨t,rfl⟩:=rx;exact SeqAt.EqAt.int_str a t' b t
   | _=>exact absurd (show false=true from fx) tP
 | str a=>
   obtain⟨t',rfl⟩:=ry
   cases x with
   | non=>cases rx;exact SeqAt.EqAt.str_none a t'
   | bl b=>cases rx;exact SeqAt.EqAt.str_bool a t' b
   | int b=>obtain⟨t,rfl⟩:=rx;exact SeqAt.EqAt.str_int a t' b t
   | str b=>obtain⟨t,rfl⟩:=rx;exact SeqAt.EqAt.str_str a t' b t
   | _=>exact absurd (show false=true from fx) tP
 | _=>exact absurd (show false=true from fy) tP
def U5 (x:V) (u:Value):Bool:=match u with
 | .none=>Rl .non x
 | .bool b=>Rl (.bl b) x
 | .int i _=>Rl (.int i) x
 | .str z _=>Rl (.str z) x
 | _=>false
theorem uE {x y:V} {u:Value} (r:qQ y u) (f:ZO y=true):U5 x u=Rl y x:=by
 cases y with
 | non=>cases r;rfl
 | bl b=>cases r;rfl
 | int i=>obtain⟨t,rfl⟩:=r;rfl
 | str z=>obtain⟨t,rfl⟩:=r;rfl
 | _=>exact absurd (show false=true from f) tP
theorem zM {x:V}:∀{xs:List V} {us:List Value},qJ xs us->xs.all ZO=true->us.any (U5 x)=xs.any λy=>Rl y x
 | _,_,.nil,_=>rfl
 | y::xs,u::us,.cons r t,f=>by
   rw[zde,zau]at f
   rw[zcI,zcI,uE r f.1,zM t f.2]
theorem Zj {A:Around} {s:Shared} {x:V} {v:Value} (rx:qQ x v) (fx:ZO x=true):∀{xs:List V} {us:List Value},qJ xs us->xs.all ZO=true->∀u∈us,SeqAt.EqAt A s u v (U5 x u)
 | _,_,.nil,_=>λu hu=>by cases hu
 | y::xs,u::us,.cons r t,f=>λu' hu=>by
   rw[zde,zau]at f
   rcases t8.mp hu with rfl | hu
   . rw[uE r f.1];exact Mn r rx f.1 fx
   . exact Zj rx fx t f.2 u' hu
def Zo (x:V) (xs:List V):Bool:=xs.any λy=>Rl y x
def MC (K:PySem.W.Frag) (neg:Bool):R2:=λx y H Q=>∃p xs,y=.ref p/\(SqL K H p xs\/Y5 K H p xs)/\ZO x=true/\xs.all ZO=true/\Q (.bl (if neg then !Zo x xs else Zo x xs)) H
theorem JH:ZI X (compareOp .In) (MC X.K false):=by
 intro pins s σ H x y v u Q I rx ry h
 obtain⟨p,xs,rfl,hq,fx,fs,q⟩:=h
 cases ry
 rcases hq with hq | hq
 . obtain⟨its,r,pl,hz⟩:=I.list hq
   refine SeqAt.in_listAt (U5 x) pl.isList (λw hw=>Zj rx fx r fs w (by simpa using hw)) ⟨.bl _,H,I,rfl,?_⟩
   rw[show its.toArray.any (U5 x)=its.any (U5 x) by simp,zM r fs]
   exact q
 . obtain⟨its,r,pl,hz⟩:=I.tuple hq
   refine SeqAt.in_tupleAt (U5 x) pl (λw hw=>Zj rx fx r fs w (by simpa using hw)) ⟨.bl _,H,I,rfl,?_⟩
   rw[show its.toArray.any (U5 x)=its.any (U5 x) by simp,zM r fs]
   exact q
theorem QU:ZI X (compareOp .NotIn) (MC X.K true):=by
 intro pins s σ H x y v u Q I rx ry h
 obtain⟨p,xs,rfl,hq,fx,fs,q⟩:=h
 cases ry
 rcases hq with hq | hq
 . obtain⟨its,r,pl,hz⟩:=I.list hq
   refine SeqAt.notIn_listAt (U5 x) pl.isList (λw hw=>Zj rx fx r fs w (by simpa using hw)) ⟨.bl _,H,I,rfl,?_⟩
   rw[show its.toArray.any (U5 x)=its.any (U5 x) by simp,zM r fs]
   exact q
 . obtain⟨its,r,pl,hz⟩:=I.tuple hq
   refine SeqAt.notIn_tupleAt (U5 x) pl (λw hw=>Zj rx fx r fs w (by simpa using hw)) ⟨.bl _,H,I,rfl,?_⟩
   rw[show its.toArray.any (U5 x)=its.any (U5 x) by simp,zM r fs]
   exact q
theorem qR:QR X (.builtin "len") (λxs H Q=>∃p ys,xs=[.ref p]/\(SqL X.K H p ys\/Y5 X.K H p ys)/\Q (.int ys.length) H):=by
 intro pins s σ H xs us Q I r h
 obtain⟨p,ys,rfl,hq,q⟩:=h
 obtain⟨u,rfl,rx⟩:=Jl r
 cases rx
 have hn:=Ye
 rcases hq with hq | hq
 . obtain⟨its,r',pl,hz⟩:=I.list hq
   have hlen:=r'.length
   exact Calls.call_len_list pl.isList (by simp only[t9]<;>omega) ⟨.int ys.length,H,I.tok _,⟨s.toks+1,by rw[t9,hlen]⟩,q⟩
 . obtain⟨its,r',pl,hz⟩:=I.tuple hq
   have hlen:=r'.length
   exact len_tuple pl (by simp only[t9]<;>omega) ⟨.int ys.length,H,I.tok _,⟨s.toks+1,by rw[t9,hlen]⟩,q⟩
theorem J8:QR X (.builtin "len") (λxs H Q=>∃z,xs=[.str z]/\z.length<=sizeLine/\Q (.int z.length) H):=by
 intro pins s σ H xs us Q I r h
 obtain⟨z,rfl,hz,q⟩:=h
 obtain⟨u,rfl,t,rfl⟩:=Jl r
 have hn:=Ye
 exact len_str (by omega) ⟨.int z.length,H,I.tok _,⟨_,rfl⟩,q⟩
theorem Qu:QR X (.type "list") (λxs H Q=>∃p ys,xs=[.ref p]/\(SqL X.K H p ys\/Y5 X.K H p ys)/\∀l,H l=none->Q (.ref l) (upd H l (.lst ys))):=by
 intro pins s σ H xs us Q I r h
 obtain⟨p,ys,rfl,hq,q⟩:=h
 obtain⟨u,rfl,rx⟩:=Jl r
 cases rx
 have fin:∀(its:List Value),qJ ys its->ys.length<=sizeLine->∀(h':Heap) (c':Nat),(∀b o',s.heap.get? b=some o'->h'.get? b=some o')->
     h'.get? s.heap.objs.size=some {cls:=.type "list",dict:=none,data:=.seq its.toArray c',slots:=#[]}->EP X pins σ Q (.ref s.heap.objs.size) {s with heap:=h'}:=λits r' hz h' c' kp e=>
   ⟨.ref s.heap.objs.size,_,I.laid (t':=s.toks) kp (tF _) (show qX X.prog X.w _ h' _ (.lst ys) from⟨hz,its,c',r',e⟩),rfl,q _ (I.hok.fresh (tF _))⟩
 rcases hq with hq | hq
 . obtain⟨its,r',pl,hz⟩:=I.list hq
   have hlen:=r'.length
   obtain⟨o,ho,hc,n,hd⟩:=pl.isList
   exact call_list_seq p (.inl rfl) ho hc hd (λh' c' kp e=>fin its r' hz h' c' kp e) (by simp only[t9]<;>omega)
 . obtain⟨its,r',pl,hz⟩:=I.tuple hq
   have hlen:=r'.length
   obtain⟨o,ho,hc,n,hd⟩:=pl
   exact call_list_seq p (.inr rfl) ho hc hd (λh' c' kp e=>fin its r' hz h' c' kp e) (by simp only[t9]<;>omega)
theorem Wa:QR X (.type "tuple") (λxs H Q=>∃p ys,xs=[.ref p]/\((SqL X.K H p ys/\∀l,H l=none->Q (.ref l) (upd H l (.tup ys)))\/(Y5 X.K H p ys/\Q (.ref p) H))):=by
 intro pins s σ H xs us Q I r h
 obtain⟨p,ys,rfl,h⟩:=h
 obtain⟨u,rfl,rx⟩:=Jl r
 cases rx
 rcases h with ⟨hq,q⟩ | ⟨hq,q⟩
 . obtain⟨its,r',pl,hz⟩:=I.list hq
   have hlen:=r'.length
   refine call_tuple_list pl.isList (λh' kp=>?_) (by simp only[t9]<;>omega)
   have I1:qD X pins σ H {s with heap:=h'}:=I.kept (t':=s.toks) kp
   have I2:qD X pins σ (upd H h'.objs.size (.tup ys)) {s with heap:=h'.push {cls:=.type "tuple",data:=.seq its.toArray}}:=
     I1.laid (t':=s.toks) (λb o e=>tG _ e) (tF _) (show qX X.prog X.w _ _ _ (.tup ys) from⟨hz,its,r',IsTup.new _ _⟩)
   exact⟨.ref h'.objs.size,_,I2,rfl,q _ (I1.hok.fresh (tF _))⟩
 . obtain⟨its,r',pl,hz⟩:=I.tuple hq
   exact call_tuple_same pl ⟨.ref p,H,I,rfl,q⟩
def tyV (K:PySem.W.Frag) (T:String) (x:V) (H:Hp):Prop:=match x with
 | .str _=>T="str"
 | .int _=>T="int"
 | .ref p=>(T="list"/\∃xs,SqL K H p xs)\/(T="tuple"/\∃o,K.lookup p=some o/\o.cls=.type "tuple"/\o.dict=none)\/
     (T="dict"/\((∃kvs,H p=some (.dK kvs))\/∃kvs,H p=some (.dT kvs)))\/(T="set"/\∃S n,H p=some (.set S n))
 | _=>False
theorem xa {pins:List (Addr×Obj)} {σ:St} {H:Hp} {s:Shared} {T:String} {x:V} {v:Value} (I:qD X pins σ H s) (r:qQ x v) (ty:tyV X.K T x H):
   s.TypeIs v T/\∀a,v=.ref a->∃ob,s.heap.get? a=some ob/\ob.dict=none:=by
 cases x with
 | str z=>
   obtain⟨t,rfl⟩:=r
   cases (show T="str" from ty)
   exact⟨typeIs_str s z t,λ_ e=>nomatch e⟩
 | int i=>
   obtain⟨t,rfl⟩:=r
   cases (show T="int" from ty)
   exact⟨typeIs_int s i t,λ_ e=>nomatch e⟩
 | ref p=>
   cases r
   rcases ty with ⟨rfl,xs,hq⟩ | ⟨rfl,o,hk,hc,hd⟩ | ⟨rfl,hk⟩ | ⟨rfl,S,n,hk⟩
   . obtain⟨its,_,pl,_⟩:=I.list hq
     refine⟨pl.isList.typeIs,λa e=>?_⟩
     cases e
     obtain⟨o,n,e,c,hd,_⟩:=pl
     exact⟨o,e,hd⟩
   . refine⟨⟨o,I.kIn p o hk,hc⟩,λa e=>?_⟩
     cases e
     exact⟨o,I.kIn _ o hk,hd⟩
   . have z:∃o,s.heap.get? p=some o/\o.ExactDict:=by
       rcases hk with ⟨kvs,hk⟩ | ⟨kvs,hk⟩
       . obtain⟨_,_,_,_,o,_,_,e,ex,_⟩:=I.hok p _ hk
         exact⟨o,e,ex⟩
       . obtain⟨_,_,_,_,o,_,_,e,ex,_⟩:=I.hok p _ hk
         exact⟨o,e,ex⟩
     obtain⟨o,e,ex⟩:=z
     refine⟨⟨o,e,ex.1⟩,λa e2=>?_⟩
     cases e2
     exact⟨o,e,ex.2.1⟩
   . obtain⟨o,_,_,_,e,ex,_⟩:=I.hok p _ hk
     refine⟨⟨o,e,ex.1⟩,λa e2=>?_⟩
     cases e2
     exact⟨o,e,ex.2.1⟩
 | _=>exact False.elim ty
def qbl (K:PySem.W.Frag) (T:String) (r:V->List V->Hp->VK->Prop) (to:TE):TE:=λσ H Q=>to σ H λx H1=>tyV K T x H1/\r x [] H1 Q
def tBM (K:PySem.W.Frag) (T:String) (r:V->List V->Hp->VK->Prop) (to:TE) (t:TA):TE:=λσ H Q=>to σ H λx H1=>tyV K T x H1/\t σ H1 λxs H2=>r x xs H2 Q
variable {o e:Expr} {es:List Expr} {to:TE} {t:TA} {name:Str} {apos cpos:Pos} {T id:String} {r:V->List V->Hp->VK->Prop}
theorem ui (pa:PlainAttrs T) (slot:Slot T name id) (hty:typeOf (.builtin id)=pure (.type "method_descriptor")) (hm:MJ X id r) (ho:JE X o to) (hbase:attributeBase o name X.env (eval o X.env)=eval o X.env:=by rfl) (hline:(apos.endLine==cpos.line)=true:=by rfl):JE X (.Call (.Attribute o name apos) [] [] cpos) (qbl X.K T r to):=.of (by
 have ho:=ho.to
 intro pins s σ H Q I h
 refine wpAny_Call_method0_late hbase hline (jl (ho pins s σ H _ I h) λv s1 ⟨x,H1,I1,r1,ty,q1⟩=>?_)
 obtain⟨h1,h2⟩:=xa I1 r1 ty
 exact⟨T,id,pa,slot,hty,h1,h2,Calls.callWith_builtin rfl (PySem.evalArgs_none (hm pins s1 σ H1 x [] v [] Q I1 r1 .nil q1))⟩)
theorem qao (pa:PlainAttrs T) (slot:Slot T name id) (hty:typeOf (.builtin id)=pure (.type "method_descriptor")) (hm:MJ X id r) (ho:PE X o to) (ha:PA X (e::es) t)
   (hbase:attributeBase o name X.env (eval o X.env)=eval o X.env:=by rfl)
   (hfew:((backTo cpos (starEach (e::es) X.env)).all (λx=> !x.1)&&(backToKw cpos (keywordEach [] X.env)).all (λx=>x.1.isSome)
     &&decide ((e::es).length+([]:List Keyword).length+(if ([]:List Keyword).isEmpty then 0 else 1) < 30))=true:=by rfl)
   (hline:(apos.endLine==cpos.line)=true:=by rfl) (hs:starEach (e::es) X.env=(false,eval e X.env)::starEach es X.env:=by rfl) (hplain:(backTo cpos (starEach es X.env)).any (·.1)=false:=by rfl):
   PE X (.Call (.Attribute o name apos) (e::es) [] cpos) (tBM X.K T r to t):=by
 intro pins s σ H Q I h
 refine wpAny_Call_method_late hbase hfew hline rfl (jl (ho pins s σ H _ I h) λv s1 ⟨x,H1,I1,r1,ty,q1⟩=>?_)
 obtain⟨h1,h2⟩:=xa I1 r1 ty
 refine⟨T,id,pa,slot,hty,h1,h2,?_⟩
 have hA:=ha cpos pins s1 σ H1 _ I1 q1
 rw[hs]at hA ⊢
 refine Calls.callWith_builtin (by show (false || (backTo cpos (starEach es X.env)).any (·.1))=false;rw[hplain]<;>rfl) (Calls.evalArgs_plain ?_)
 exact jl hA λus s2 ⟨vs,H2,I2,r2,q2⟩=>hm pins s2 σ H2 x vs v us Q I2 r1 r2 q2
theorem ZN (pa:PlainAttrs T) (slot:Slot T name id) (hty:typeOf (.builtin id)=pure (.type "method_descriptor")) (hm:MJ X id r) (ho:JE X o to) (ha:JA X (e::es) t) (hbase:attributeBase o name X.env (eval o X.env)=eval o X.env:=by rfl) (hfew:((backTo cpos (starEach (e::es) X.env)).all (λx=> !x.1)&&(backToKw cpos (keywordEach [] X.env)).all (λx=>x.1.isSome)
     &&decide ((e::es).length+([]:List Keyword).length+(if ([]:List Keyword).isEmpty then 0 else 1) < 30))=true:=by rfl) (hline:(apos.endLine==cpos.line)=true:=by rfl) (hs:starEach (e::es) X.env=(false,eval e X.env)::starEach es X.env:=by rfl) (hplain:(backTo cpos (starEach es X.env)).any (·.1)=false:=by rfl):JE X (.Call (.Attribute o name apos) (e::es) [] cpos) (tBM X.K T r to t):=.of (qao pa slot hty hm ho.to ha.to hbase hfew hline hs hplain)
end
def MtM (X:Cx) (id:String) (r:V->List V->Hp->VK->Prop):Prop:=
 ∀(pins:List (Addr×Obj)) (s:Shared) (σ:St) (H:Hp) (x:V) (xs:List V) (v:Value) (us:List Value) (Q:VK),qD X pins σ H s->qQ x v->qJ xs us->r x xs H Q->
   wpAny (model X.prog X.w) X.A (call (.builtin id) (v::us)) (EP X pins σ Q) X.xe s
theorem qJ.one:∀{x:V} {us:List Value},qJ [x] us->∃u,us=[u]/\qQ x u
 | _,_,.cons r .nil=>⟨_,rfl,r⟩
theorem qJ.zero:∀{us:List Value},qJ [] us->us=[]
 | _,.nil=>rfl
theorem qJ.reverse {xs:List V} {us:List Value} (h:qJ xs us):qJ xs.reverse us.reverse:=by
 induction h with
 | nil=>exact .nil
 | cons r t ih=>rw[zda,zda];exact qJ.append ih (.cons r .nil)
section
variable {X:Cx} {pins:List (Addr×Obj)} {σ:St} {H:Hp} {s:Shared} {l b:Addr} {xs ys zs:List V}
theorem qD.lset {its its':List Value} {n:Nat} {f:Array Value->Array Value} {t':Nat} (I:qD X pins σ H s) (hH:H l=some (.lst xs))
   (e:s.heap.get? l=some {cls:=.type "list",data:=.seq its.toArray n}) (hf:f its.toArray=its'.toArray) (hv:qJ ys its') (hz:ys.length<=sizeLine):
   qD X pins σ (upd H l (.lst ys)) {s with heap:=s.heap.update l (Obj.mapSeq f),toks:=t'}:=by
 have q:=PySem.IsL.update e f
 rw[hf]at q
 refine I.write (x:=l) (e:=l) (by rw[hH];exact trivial) (.inl rfl) (λb' u hb hu=>(zaN s.heap (Obj.mapSeq f) (Ne.symm hb)).trans hu) ⟨_,q⟩ ?_
 exact⟨hz,its',_,hv,q⟩
theorem qD.lstM (I:qD X pins σ H s) (hH:H l=some (.lst xs)):xs.length<=sizeLine/\∃(its:List Value) (n:Nat),qJ xs its/\xs.length=its.length/\s.heap.get? l=some {cls:=.type "list",data:=.seq its.toArray n}:=by
 obtain⟨z,its,n,r,e⟩:=I.hok l _ hH
 exact⟨z,its,n,r,r.length,e⟩
theorem wS {n:Nat} (h:n<=sizeLine):Builtin.List.listTooLong n=false:=by
 unfold Builtin.List.listTooLong
 exact decide_eq_false (by omega)
end
section
variable {X:Cx}
def KH:V->List V->Hp->VK->Prop:=λx vs H Q=>∃l xs y,x=.ref l/\vs=[y]/\H l=some (.lst xs)/\xs.length < sizeLine/\Q .non (upd H l (.lst (xs++[y])))
theorem QZ:MtM X "list.append" KH:=by
 intro pins s σ H x vs v us Q I rx rv h
 obtain⟨l,xs,y,rfl,rfl,hH,hz,q⟩:=h
 cases rx
 obtain⟨u,rfl,ru⟩:=rv.one
 obtain⟨z,its,n,r,hl,e⟩:=I.lstM hH
 refine call_meets F.slot_list_append ⟨_,e,rfl⟩ F.entry_list_append (F.args_list_append_2 _ _) (PySem.list_append l its.toArray n u (by rw[t9];omega)) ⟨e,?_⟩
 refine⟨.non,_,I.lset (its':=its++[u]) hH e (by simp) (r.append (.cons ru .nil)) ?_,rfl,q⟩
 rw[tL,zaF]
 omega
def KG:V->List V->Hp->VK->Prop:=λx vs H Q=>∃l b xs zs,x=.ref l/\vs=[.ref b]/\H l=some (.lst xs)/\H b=some (.lst zs)/\xs.length+zs.length<=sizeLine/\Q .non (upd H l (.lst (xs++zs)))
theorem Yc:MtM X "list.extend" KG:=by
 intro pins s σ H x vs v us Q I rx rv h
 obtain⟨l,b,xs,zs,rfl,rfl,hH,hB,hz,q⟩:=h
 cases rx
 obtain⟨u,rfl,ru⟩:=rv.one
 cases ru
 obtain⟨z,its,n,r,hl,e⟩:=I.lstM hH
 obtain⟨z2,its2,n2,r2,hl2,e2⟩:=I.lstM hB
 have hsz:its.toArray.size+its2.toArray.size<=sizeLine:=by rw[t9,t9];omega
 have hlong:¬(!its.toArray.isEmpty&&Builtin.List.listTooLong (its.toArray.size+its2.toArray.size))=true:=by
   rw[wS hsz,Bool.and_false]
   exact tP
 refine call_meets F.slot_list_extend ⟨_,e,rfl⟩ F.entry_list_extend (F.args_list_extend_2 _ _)
   (AutoSeq1.list_extend_list_list_0 l its.toArray n b its2.toArray n2 hlong (by rw[t9];omega) (by omega)) ⟨e,e2,?_⟩
 refine⟨.non,_,I.lset (its':=its++its2) hH e (by simp) (r.append r2) ?_,rfl,q⟩
 rw[tL]
 omega
def x5:V->List V->Hp->VK->Prop:=λx vs H Q=>∃l xs,x=.ref l/\vs=[]/\H l=some (.lst xs)/\Q .non (upd H l (.lst xs.reverse))
theorem UQ:MtM X "list.reverse" x5:=by
 intro pins s σ H x vs v us Q I rx rv h
 obtain⟨l,xs,rfl,rfl,hH,q⟩:=h
 cases rx
 have hus:=rv.zero
 subst hus
 obtain⟨z,its,n,r,hl,e⟩:=I.lstM hH
 refine call_meets F.slot_list_reverse ⟨_,e,rfl⟩ F.entry_list_reverse (F.args_list_reverse_1 _) (AutoSeq1.list_reverse_list_0 l its.toArray n (by rw[t9];omega)) ⟨e,?_⟩
 refine⟨.non,_,I.lset (its':=its.reverse) hH e (by simp) r.reverse ?_,rfl,q⟩
 rw[zce]
 omega
end
section
variable {prog:Program} {w:World} {A:Around} {E:Value->Shared->Prop} {s:Shared}
set_option maxRecDepth 100000 in
end
section
variable {X:Cx}
end
section
variable {κ:Type} [DecidableEq κ]
def ji (kvs:List (κ×V)) (k:κ):Option V:=(kvs.find? λkv=>decide (kv.1=k)).map (·.2)
def jV (kvs:List (κ×V)) (k:κ) (v:V):List (κ×V):=
 if (kvs.any λkv=>decide (kv.1=k))=true then kvs.map (λkv=>if kv.1=k then (kv.1,v) else kv) else kvs++[(k,v)]
theorem jg {p:κ×V} {r:List (κ×V)} {k:κ} (e:p.1=k):ji (p::r) k=some p.2:=by simp [ji,zbq,e]
theorem jh {p:κ×V} {r:List (κ×V)} {k:κ} (e:¬p.1=k):ji (p::r) k=ji r k:=by simp [ji,zbq,e]
theorem QI (k:κ):∀kvs:List (κ×V),(kvs.any λkv=>decide (kv.1=k))=(ji kvs k).isSome
 | []=>rfl
 | p::r=>by
   rw[zcI]
   by_cases e:p.1=k
   . simp only[jg e,decide_eq_true e,Bool.true_or,Option.isSome_some]
   . rw[jh e,decide_eq_false e,Bool.false_or];exact QI k r
theorem Vx (k j:κ) (y:V):∀kvs:List (κ×V),ji (kvs.map λkv=>if kv.1=k then (kv.1,y) else kv) j=(ji kvs j).map λx=>if j=k then y else x
 | []=>rfl
 | p::r=>by
   have ih:=Vx k j y r
   rw[tW]
   by_cases h:p.1=k
   . rw[if_pos h]
     by_cases e:p.1=j
     . rw[jg (p:=(p.1,y)) e,jg e,zcl,if_pos (e.symm.trans h)]
     . rw[jh (p:=(p.1,y)) e,jh e,ih]
   . rw[if_neg h]
     by_cases e:p.1=j
     . rw[jg (p:=p) e,jg e,zcl,if_neg (λz=>h (e.trans z))]
     . rw[jh (p:=p) e,jh e,ih]
theorem Wf (k j:κ) (y:V):∀kvs:List (κ×V),ji kvs k=none->ji (kvs++[(k,y)]) j=if j=k then some y else ji kvs j
 | [],_=>by
   by_cases e:k=j
   . rw[if_pos e.symm];exact jg (p:=(k,y)) e
   . rw[if_neg (λz=>e z.symm)];exact jh (p:=(k,y)) e
 | p::r,hn=>by
   rw[zcE]
   have hk:¬p.1=k:=λz=>by rw[jg z]at hn;cases hn
   rw[jh hk]at hn
   have ih:=Wf k j y r hn
   by_cases e:p.1=j
   . rw[jg e,jg e,if_neg (λz=>hk (e.trans z))]
   . rw[jh e,jh e,ih]
theorem j3 (kvs:List (κ×V)) (k j:κ) (y:V):ji (jV kvs k y) j=if j=k then some y else ji kvs j:=by
 unfold jV
 by_cases a:(kvs.any λkv=>decide (kv.1=k))=true
 . rw[if_pos a,Vx]
   rw[QI]at a
   by_cases e:j=k
   . obtain⟨x,hx⟩:=zdd.mp a
     rw[if_pos e,e,hx,zcl,if_pos rfl]
   . rw[if_neg e]
     cases ji kvs j with
     | none=>rfl
     | some x=>rw[zcl,if_neg e]
 . rw[if_neg a]
   refine Wf k j y kvs ?_
   rw[QI]at a
   cases q:ji kvs k with
   | none=>rfl
   | some x=>rw[q]at a;exact(a rfl).elim
theorem Jo (kvs:List (κ×V)) (k:κ) (v:V):(jV kvs k v).length<=kvs.length+1:=by
 unfold jV
 split
 . rw[tj];omega
 . rw[tL,zat,zdq];omega
theorem QJ {kvs:List (κ×V)} {k:κ} (v:V) (h:ji kvs k=none):jV kvs k v=kvs++[(k,v)]:=by
 unfold jV
 rw[QI,h]
 exact if_neg (by decide)
theorem ZH.isSome_eq {o:Option V} {u:Option Value} (r:ZH o u):o.isSome=u.isSome:=by
 cases o with
 | none=>cases u with
   | none=>rfl
   | some _=>exact(show False from r).elim
 | some _=>cases u with
   | none=>exact(show False from r).elim
   | some _=>rfl
theorem KV.val {kvs:List (κ×V)} {vs:List (κ×Value)} (r:KV kvs vs) (k:κ):ZH (ji kvs k) (valueAt vs k):=by
 unfold KV at r
 induction r with
 | nil=>exact True.intro
 | @cons p q ps qs h t ih=>
   obtain⟨h1,h2⟩:=h
   by_cases e:p.1=k
   . have e':q.1=k:=h1.symm.trans e
     have b:valueAt (q::qs) k=some q.2:=by simp [valueAt,zbq,e']
     rw[jg e,b];exact h2
   . have e':¬q.1=k:=λz=>e (h1.trans z)
     have b:valueAt (q::qs) k=valueAt qs k:=by simp [valueAt,zbq,e']
     rw[jh e,b];exact ih
theorem KV.any {kvs:List (κ×V)} {vs:List (κ×Value)} (r:KV kvs vs) (k:κ):(kvs.any λkv=>decide (kv.1=k))=vs.any λkv=>decide (kv.1=k):=by
 unfold KV at r
 induction r with
 | nil=>rfl
 | cons h t ih=>rw[zcI,zcI,ih,h.1]
theorem KV.repl {kvs:List (κ×V)} {vs:List (κ×Value)} (r:KV kvs vs) (k:κ) {y:V} {u:Value} (ry:qQ y u):
   KV (kvs.map λkv=>if kv.1=k then (kv.1,y) else kv) (vs.map λkv=>if kv.1=k then (kv.1,u) else kv):=by
 unfold KV at r ⊢
 induction r with
 | nil=>exact .nil
 | @cons p q ps qs h t ih=>
   rw[tW,tW]
   refine .cons ?_ ih
   obtain⟨h1,h2⟩:=h
   by_cases e:p.1=k
   . rw[if_pos e,if_pos (h1.symm.trans e)];exact⟨h1,ry⟩
   . rw[if_neg e,if_neg (λz=>e (h1.trans z))];exact⟨h1,h2⟩
theorem KV.put {kvs:List (κ×V)} {vs:List (κ×Value)} (r:KV kvs vs) (k:κ) {y:V} {u:Value} (ry:qQ y u):KV (jV kvs k y) (stored vs k u):=by
 unfold jV stored
 rw[r.any k]
 by_cases e:(vs.any λkv=>decide (kv.1=k))=true
 . rw[if_pos e,if_pos e];exact r.repl k ry
 . rw[if_neg e,if_neg e];exact Paired.snoc r ⟨rfl,ry⟩
theorem KV.length {kvs:List (κ×V)} {vs:List (κ×Value)} (r:KV kvs vs):kvs.length=vs.length:=Paired.length r
end
theorem XI {P:Program} {w:World} {k:qL} {u:Value} (r:qQ (kV k) u):(jm P w).is k u=true:=by
 cases k with
 | inl i=>obtain⟨t,e⟩:=(show ∃t,u=Value.int i t from r);subst e;exact V6 P w i t
 | inr x=>obtain⟨t,e⟩:=(show ∃t,u=Value.str x t from r);subst e;exact V5 P w x t
theorem Wv {P:Program} {w:World}:∀{ks:List qL} {us:List Value},qJ (ks.map kV) us->ItemsAre (jm P w) ks us
 | [],_,r=>by rw[zcw]at r;cases r;exact .nil
 | k::ks,_,r=>by
   rw[tW]at r
   cases r with
   | cons h t=>exact .cons (XI h) (Wv t)
abbrev KT (H:Hp):List (List qL×V)->List (List qL×Addr×Value)->Prop:=Paired λp q=>p.1=q.1/\H q.2.1=some (.tup (p.1.map kV))/\qQ p.2 q.2.2
theorem KT.val {H:Hp} {kvs:List (List qL×V)} {xs:List (List qL×Addr×Value)} (r:KT H kvs xs) (k:List qL):ZH (ji kvs k) ((atKey xs k).map (·.2)):=by
 induction r with
 | nil=>exact True.intro
 | @cons p q ps qs h t ih=>
   obtain⟨h1,_,h2⟩:=h
   by_cases e:p.1=k
   . have e':q.1=k:=h1.symm.trans e
     have b:atKey (q::qs) k=some q.2:=by simp [atKey,zbq,e']
     rw[jg e,b];exact h2
   . have e':¬q.1=k:=λz=>e (h1.trans z)
     have b:atKey (q::qs) k=atKey qs k:=by simp [atKey,zbq,e']
     rw[jh e,b];exact ih
theorem KT.repl {H:Hp} {kvs:List (List qL×V)} {xs:List (List qL×Addr×Value)} (r:KT H kvs xs) (k:List qL) {y:V} {u:Value} (ry:qQ y u):
   KT H (kvs.map λkv=>if kv.1=k then (kv.1,y) else kv) (xs.map (putAt k u)):=by
 induction r with
 | nil=>exact .nil
 | @cons p q ps qs h t ih=>
   rw[tW,tW]
   refine .cons ?_ ih
   obtain⟨h1,h2,h3⟩:=h
   unfold putAt
   by_cases e:p.1=k
   . rw[if_pos e,if_pos (h1.symm.trans e)];exact⟨h1,h2,ry⟩
   . rw[if_neg e,if_neg (λz=>e (h1.trans z))];exact⟨h1,h2,h3⟩
theorem KT.put {H:Hp} {kvs:List (List qL×V)} {xs:List (List qL×Addr×Value)} (r:KT H kvs xs) (k:List qL) {b:Addr} {y:V} {u:Value} (hb:H b=some (.tup (k.map kV))) (ry:qQ y u):
   KT H (jV kvs k y) (storedH xs k b u):=by
 have e:(kvs.any λkv=>decide (kv.1=k))=(atKey xs k).isSome:=by
   rw[QI,(r.val k).isSome_eq,zbe]
 unfold jV storedH
 rw[e]
 by_cases q:(atKey xs k).isSome=true
 . rw[if_pos q,if_pos q];exact r.repl k ry
 . rw[if_neg q,if_neg q];exact Paired.snoc r ⟨rfl,hb,ry⟩
theorem KT.keeps {H H':Hp} {kvs:List (List qL×V)} {xs:List (List qL×Addr×Value)} (r:KT H kvs xs) (ht:∀b ys,H b=some (.tup ys)->H' b=some (.tup ys)):KT H' kvs xs:=
 Paired.mapP r λ_ _ z=>⟨z.1,ht _ _ z.2.1,z.2.2⟩
section
variable {P:Program} {w:World} {H:Hp} {h:Heap} {a:Addr}
theorem RT {u:HO} (ok:ZJ P w H h) (e:Rd H a u):qX P w H h a u:=e.ok ok
theorem Uf {kvs:List (qL×V)} (ok:ZJ P w H h) (e:Rd H a (.dK kvs)):kvs.length<=sizeLine/\(a==sysModules)=false/\∃vs,KV kvs vs/\h.DictOf (jm P w) a vs:=
 show qX P w H h a (.dK kvs) from RT ok e
theorem RZ {kvs:List (qL×V)} (ok:ZJ P w H h) (e:H a=some (.dK kvs)):kvs.length<=sizeLine/\(a==sysModules)=false/\∃vs,KV kvs vs/\h.DictOf (jm P w) a vs:=Uf ok (.inl e)
theorem XG {ks:List qL} (ok:ZJ P w H h) (e:H a=some (.tup (ks.map kV))):(tupleKind (jm P w)).is h ks a:=by
 obtain⟨_,its,r,o,h1,h2,n,h3⟩:=(show qX P w H h a (.tup (ks.map kV)) from ok a _ e)
 exact⟨o,its.toArray,n,h1,h2,h3,by simpa using Wv r⟩
theorem Ue {kvs:List (List qL×V)} (ok:ZJ P w H h) (e:Rd H a (.dT kvs)):kvs.length<=sizeLine/\(a==sysModules)=false/\
   ∃xs,KT H kvs xs/\h.DictOfH (tupleKind (jm P w)) a xs:=by
 obtain⟨z,y,xs,r,o,es,ep,h1,h2,h3,h4,h5⟩:=(show qX P w H h a (.dT kvs) from RT ok e)
 refine⟨z,y,xs,r,o,es,ep,h1,h2,h3,h4,λx hx=>?_,h5⟩
 have all:∀{l:List (List qL×V)} {m:List (List qL×Addr×Value)},KT H l m->∀x∈m,(tupleKind (jm P w)).is h x.1 x.2.1:=by
   intro l m q
   induction q with
   | nil=>intro x hx;exact nomatch hx
   | @cons p q ps qs hq t ih=>
     intro x hx
     rcases t8.mp hx with e | hx
     . subst e
       exact XG ok (by rw[<-hq.1];exact hq.2.1)
     . exact ih x hx
 exact all r x hx
theorem qaN {kvs:List (List qL×V)} (ok:ZJ P w H h) (e:H a=some (.dT kvs)):kvs.length<=sizeLine/\(a==sysModules)=false/\
   ∃xs,KT H kvs xs/\h.DictOfH (tupleKind (jm P w)) a xs:=Ue ok (.inl e)
end
def j1 (H:Hp) (a:Addr) (y:V) (r:Option V):Prop:=
 (∃kvs k,Rd H a (.dK kvs)/\y=kV k/\r=ji kvs k)\/∃kvs k b,Rd H a (.dT kvs)/\y=.ref b/\H b=some (.tup (k.map kV))/\r=ji kvs k
def Ji (H:Hp) (a:Addr) (y v:V) (H':Hp):Prop:=
 (∃kvs k,H a=some (.dK kvs)/\y=kV k/\kvs.length < sizeLine/\H'=upd H a (.dK (jV kvs k v)))\/
 ∃kvs k b,H a=some (.dT kvs)/\y=.ref b/\H b=some (.tup (k.map kV))/\kvs.length < sizeLine/\H'=upd H a (.dT (jV kvs k v))
theorem j1.k {H:Hp} {a:Addr} {kvs:List (qL×V)} {k:qL} (e:H a=some (.dK kvs)):j1 H a (kV k) (ji kvs k):=.inl ⟨kvs,k,.inl e,rfl,rfl⟩
theorem Ji.k {H:Hp} {a:Addr} {kvs:List (qL×V)} {k:qL} {v:V} (e:H a=some (.dK kvs)) (hl:kvs.length < sizeLine):Ji H a (kV k) v (upd H a (.dK (jV kvs k v))):=.inl ⟨kvs,k,e,rfl,hl,rfl⟩
theorem Ji.t {H:Hp} {a b:Addr} {kvs:List (List qL×V)} {k:List qL} {v:V} (e:H a=some (.dT kvs)) (eb:H b=some (.tup (k.map kV))) (hl:kvs.length < sizeLine):
   Ji H a (.ref b) v (upd H a (.dT (jV kvs k v))):=.inr ⟨kvs,k,b,e,rfl,eb,hl,rfl⟩
section
variable {X:Cx} {pins:List (Addr×Obj)} {σ:St} {H:Hp} {s:Shared} {a:Addr} {y v:V} {u r:Value} {o:Option V} {A:Around} {E:Value->Shared->Prop}
theorem qD.big (I:qD X pins σ H s):sysModules < s.heap.objs.size:=by
 have h:mainGlobals < s.heap.objs.size:=(I.mod.glob.keeps I.bk).lt
 exact zdP (by decide) h
theorem yV {Q:Value->Shared->Prop} (hu:A.units+1 < cLine) (I:qD X pins σ H s) (g:j1 H a y (some v)) (ry:qQ y u) (h:∀w' s',qD X pins σ H s'->qQ v w'->Q w' s'):
   wpAny (model X.prog X.w) A (getItem (.ref a) u) Q E s:=by
 rcases g with ⟨kvs,k,e,ey,l⟩ | ⟨kvs,k,b,e,ey,eb,l⟩
 . subst ey
   obtain⟨z,hd,vs,rel,dd⟩:=Uf I.hok e
   obtain⟨w',hw,rw'⟩:=ZH.some_of (v:=v) (o:=valueAt vs k) (by rw[l];exact rel.val k)
   exact wpAny_getItem_of (XI ry) dd.mapOf hw (h w' _ (I.tok _) rw')
 . subst ey
   cases (show u=Value.ref b from ry)
   obtain⟨z,hd,xs,rel,dd⟩:=Ue I.hok e
   obtain⟨w',hw,rw'⟩:=ZH.some_of (v:=v) (o:=(atKey xs k).map (·.2)) (by rw[l];exact rel.val k)
   obtain⟨p,hp,hp2⟩:=zcx.mp hw
   refine wpAny_getItem_heap (tupleKind_room_in1 hu) (XG I.hok eb) dd hp ?_
   rw[hp2]
   exact h w' _ (I.tok _) rw'
theorem qbP {Q:Value->Shared->Prop} (hu:A.units+1 < cLine) (I:qD X pins σ H s) (g:j1 H a y o) (ry:qQ y u) (h:∀s',qD X pins σ H s'->Q (.bool o.isSome) s'):
   wpAny (model X.prog X.w) A (compareOp .In u (.ref a)) Q E s:=by
 rcases g with ⟨kvs,k,e,ey,l⟩ | ⟨kvs,k,b,e,ey,eb,l⟩
 . subst ey
   obtain⟨z,hd,vs,rel,dd⟩:=Uf I.hok e
   refine wpAny_in_of (XI ry) hd dd.mapOf ?_
   rw[<-(rel.val k).isSome_eq,<-l]
   exact h _ (I.tok _)
 . subst ey
   cases (show u=Value.ref b from ry)
   obtain⟨z,hd,xs,rel,dd⟩:=Ue I.hok e
   refine wpAny_in_heap (tupleKind_room_in1 hu) (XG I.hok eb) hd dd ?_
   have q:=(rel.val k).isSome_eq
   rw[zbe]at q
   rw[<-q,<-l]
   exact h _ (I.tok _)
theorem Rp {Q:Value->Shared->Prop} (hu:A.units+1 < cLine) (I:qD X pins σ H s) (g:j1 H a y o) (ry:qQ y u) (h:∀s',qD X pins σ H s'->Q (.bool (!o.isSome)) s'):
   wpAny (model X.prog X.w) A (compareOp .NotIn u (.ref a)) Q E s:=by
 rcases g with ⟨kvs,k,e,ey,l⟩ | ⟨kvs,k,b,e,ey,eb,l⟩
 . subst ey
   obtain⟨z,hd,vs,rel,dd⟩:=Uf I.hok e
   refine wpAny_notIn_of (XI ry) hd dd.mapOf ?_
   rw[<-(rel.val k).isSome_eq,<-l]
   exact h _ (I.tok _)
 . subst ey
   cases (show u=Value.ref b from ry)
   obtain⟨z,hd,xs,rel,dd⟩:=Ue I.hok e
   refine wpAny_notIn_heap (tupleKind_room_in1 hu) (XG I.hok eb) hd dd ?_
   have q:=(rel.val k).isSome_eq
   rw[zbe]at q
   rw[<-q,<-l]
   exact h _ (I.tok _)
theorem Vk {h':Heap} {t':Nat} {ob:HO} (I:qD X pins σ H s) (mu:MI (H a)) (hs:Heap.SameBut a s.heap h') (he:∃q,h'.get? a=some q) (new:qX X.prog X.w (upd H a ob) h' a ob):
   qD X pins σ (upd H a ob) {s with heap:=h',toks:=t'}:=
 I.write (x:=a) (e:=a) mu (.inl rfl) (λb q hb z=>(hs.2 b hb).trans z) he new
theorem U6 {P:Program} {w:World} {H':Hp} {h':Heap} {kvs:List (qL×V)} {vs:List (qL×Value)} (z:kvs.length<=sizeLine) (hd:(a==sysModules)=false) (rel:KV kvs vs) (dd:h'.DictOf (jm P w) a vs):
   qX P w H' h' a (.dK kvs):=⟨z,hd,vs,rel,dd⟩
theorem yU {H':Hp} {Q:Unit->Shared->Prop} (hu:A.units+1 < cLine) (I:qD X pins σ H s) (g:Ji H a y v H') (ry:qQ y u) (rv:qQ v r) (h:∀s',qD X pins σ H' s'->Q () s'):
   wpAny (model X.prog X.w) A (setItem (.ref a) u r) Q E s:=by
 rcases g with ⟨kvs,k,e,ey,l,eH⟩ | ⟨kvs,k,b,e,ey,eb,l,eH⟩
 . subst ey eH
   obtain⟨z,hd,vs,rel,dd⟩:=RZ I.hok e
   have hz:vs.length<=sizeLine:=by rw[<-rel.length];exact z
   have hl:(jV kvs k v).length<=sizeLine:=by have:=Jo kvs k v;omega
   refine wpAny_setItem_pairs (hsz:=hz) (XI ry) dd λh' dd' hs=>h _ ?_
   have he:∃q,h'.get? a=some q:=let ⟨q,_,_,hq,_⟩:=dd';⟨q,hq⟩
   exact Vk I (by rw[e];exact True.intro) hs he (U6 hl hd (rel.put k rv) dd')
 . subst ey eH
   cases (show u=Value.ref b from ry)
   obtain⟨z,hd,xs,rel,dd⟩:=qaN I.hok e
   have hz:xs.length<=sizeLine:=by rw[<-Paired.length rel];exact z
   have hl:(jV kvs k v).length<=sizeLine:=by have:=Jo kvs k v;omega
   refine wpAny_setItem_heap (hsz:=hz) (tupleKind_room_in1 hu) (XG I.hok eb) dd λh' dd' hs=>h _ ?_
   obtain⟨q,es,ep,hq,h2,h3,h4,_,h5⟩:=dd'
   refine Vk I (by rw[e];exact True.intro) hs ⟨q,hq⟩ ⟨hl,hd,_,(rel.put k eb rv).keeps λc ys ec=>?_,q,es,ep,hq,h2,h3,h4,h5⟩
   rw[qj (qas ec e (λz=>nomatch z))]
   exact ec
end
section
variable {X:Cx} {pins:List (Addr×Obj)} {σ:St} {H:Hp} {s:Shared} {a:Addr} {kvs:List (qL×V)} {k:qL} {u:Value} {A:Around} {E:Value->Shared->Prop}
end
def qaU (i:Expr):Prop:=∀ov iv,subscripted i false ov iv=operate [ov,iv] (getItem ov iv)
theorem Ke {prog:Program} {w:World} {A:Around} {E:Value->Shared->Prop} {s:Shared} {env:Env} {value slice:Expr} {pos:Pos} {T id:String} {Q:Value->Shared->Prop}
   (hl:typeLookup (.type T) "__getitem__"=pure (some (.builtin id))) (hs:qaU slice)
   (h:wpAny (model prog w) A (eval value env) (λo s₁=>wpAny (model prog w) A (eval slice env) (λi s₂=>s₂.TypeIs o T/\wpAny (model prog w) A (getItem o i) Q E s₂) E s₁) E s):
   wpAny (model prog w) A (eval (.Subscript value slice pos) env) Q E s:=by
 refine Subscript_ (wpAny_mono h (λo s₁ h₁=>wpAny_mono h₁ (λi s₂ h₂=>?_) λ_ _ x=>x) λ_ _ x=>x)
 obtain⟨hT,h₂⟩:=h₂
 unfold subscriptTail
 refine wpAny_bind ?_
 rw[getitemInPython_of_ne hT.not_modules]
 refine wpAny_bind (wpAny_specialOf hT hl ?_)
 have fin:wpAny (model prog w) A (subscripted slice false o i) (λr s₃=>wpAny (model prog w) A (letTemporaryGo value o r >>= λ_=>pure r) Q E s₃) E s₂:=by
   rw[hs o i]
   exact wpAny_operating (wpAny_mono h₂ (λr s₃ h₃=>wpAny_bind (wpAny_letTemporaryGo (wpAny_pure h₃))) λ_ _ x=>x)
 first
   | exact wpAny_pure (wpAny_bind fin)
   | exact wpAny_bind (wpAny_pure (wpAny_bind fin))
   | exact wpAny_bind fin
theorem Uh {X:Cx} {pins:List (Addr×Obj)} {σ:St} {H:Hp} {s:Shared} {a:Addr} {y:V} {o:Option V} (I:qD X pins σ H s) (g:j1 H a y o):s.TypeIs (.ref a) "dict":=by
 rcases g with ⟨kvs,k,e,_,_⟩ | ⟨kvs,k,b,e,_,_,_⟩
 . obtain⟨_,_,vs,_,dd⟩:=Uf I.hok e
   exact dd.typeIs
 . obtain⟨_,_,xs,_,dd⟩:=Ue I.hok e
   exact dd.typeIs
def Z6 (td ty:TE):TE:=λσ H Q=>td σ H λx H1=>ty σ H1 λy H2=>∃a v,x=.ref a/\j1 H2 a y (some v)/\Q v H2
def MU (ty td:TE):TE:=λσ H Q=>ty σ H λy H1=>td σ H1 λx H2=>∃a o,x=.ref a/\j1 H2 a y o/\Q (.bl o.isSome) H2
def Ka (ty td:TE):TE:=λσ H Q=>ty σ H λy H1=>td σ H1 λx H2=>∃a o,x=.ref a/\j1 H2 a y o/\Q (.bl (!o.isSome)) H2
def RS (td ty tv:TE):TS:=λD σ H=>tv σ H λv H1=>td σ H1 λx H2=>ty σ H2 λy H3=>∃a H4,x=.ref a/\Ji H3 a y v H4/\D.nx σ H4
section
variable {X:Cx} {o i e value:Expr} {pos pos' tpos:Pos} {td ty tv:TE}
theorem qV (hu:X.A.units+1 < cLine) (ho:JE X o td) (hi:JE X i ty) (hs:qaU i):JE X (.Subscript o i pos) (Z6 td ty):=.of (by
 have ho:=ho.to
 have hi:=hi.to
 intro pins s σ H Q I h
 refine Ke PySem.F.slot_dict_getitem.lookup hs (jl (ho pins s σ H _ I h) λu s1 ⟨x,H1,I1,rx,q1⟩=>jl (hi pins s1 σ H1 _ I1 q1) λiv s2 ⟨y,H2,I2,ry,a,v,ex,g,q2⟩=>?_)
 subst ex
 obtain rfl:u=Value.ref a:=rx
 exact⟨Uh I2 g,yV hu I2 g ry λw' s3 I3 rw'=>⟨v,H2,I3,rw',q2⟩⟩)
theorem J7 (hu:X.A.units+1 < cLine) (hi:JE X i ty) (ho:JE X o td):JC X .In i o (MU ty td):=.of (by
 have hi:=hi.to
 have ho:=ho.to
 intro pins s σ H Q I h
 refine jl (hi pins s σ H _ I h) λiv s1 ⟨y,H1,I1,ry,q1⟩=>jl (ho pins s1 σ H1 _ I1 q1) λu s2 ⟨x,H2,I2,rx,a,ov,ex,g,q2⟩=>?_
 subst ex
 obtain rfl:u=Value.ref a:=rx
 exact qbP hu I2 g ry λs3 I3=>⟨.bl ov.isSome,H2,I3,rfl,q2⟩)
theorem JM (hu:X.A.units+1 < cLine) (hi:JE X i ty) (ho:JE X o td):JC X .NotIn i o (Ka ty td):=.of (by
 have hi:=hi.to
 have ho:=ho.to
 intro pins s σ H Q I h
 refine jl (hi pins s σ H _ I h) λiv s1 ⟨y,H1,I1,ry,q1⟩=>jl (ho pins s1 σ H1 _ I1 q1) λu s2 ⟨x,H2,I2,rx,a,ov,ex,g,q2⟩=>?_
 subst ex
 obtain rfl:u=Value.ref a:=rx
 exact Rp hu I2 g ry λs3 I3=>⟨.bl (!ov.isSome),H2,I3,rfl,q2⟩)
theorem jy (hu:X.A.units+1 < cLine) (ho:JE X o td) (hi:JE X i ty) (hv:JE X value tv) (hs:swapsWith value (some (.Subscript o i pos')) pos.line X.env=pure false):JS X (.Assign [.Subscript o i pos'] value pos) (RS td ty tv):=.of (by
 have ho:=ho.to
 have hi:=hi.to
 have hv:=hv.to
 intro pins s σ H D I h
 refine wpAny_Assign_Subscript (jl (hv pins s σ H _ I h) λr s1 ⟨v,H1,I1,rv,q1⟩=>jl (ho pins s1 σ H1 _ I1 q1) λu s2 ⟨x,H2,I2,rx,q2⟩=>jl (hi pins s2 σ H2 _ I2 q2) λiv s3 ⟨y,H3,I3,ry,a,H4,ex,g,q3⟩=>?_) hs
 subst ex
 obtain rfl:u=Value.ref a:=rx
 exact yU hu I3 g ry rv λs4 I4=>⟨σ,H4,I4,q3⟩)
end
theorem Ug {P:Program} {w:World} {H:Hp} (h:Heap) (hb:sysModules < h.objs.size):qX P w H (h.push {cls:=.type "dict",data:=.dict #[]}) h.objs.size (.dK []):=
 ⟨zay _,beq_eq_false_iff_ne.mpr (Ne.symm (zab hb)),[],.nil,Heap.DictOf.new h⟩
theorem uH {P:Program} {w:World} {H:Hp} (h:Heap) (hb:sysModules < h.objs.size):qX P w H (h.push {cls:=.type "dict",data:=.dict #[]}) h.objs.size (.dT []):=
 ⟨zay _,beq_eq_false_iff_ne.mpr (Ne.symm (zab hb)),[],.nil,_,#[],0,tY _ rfl,⟨rfl,rfl,rfl⟩,rfl,rfl,zbo⟩
def xm:TE:=λ_ H Q=>∀p,H p=none->Q (.ref p) (upd H p (.dK []))
def xl:TE:=λ_ H Q=>∀p,H p=none->Q (.ref p) (upd H p (.dT []))
section
variable {X:Cx} {pos:Pos}
theorem wj:PE X (.Dict [] [] pos) xm:=λpins s σ H Q I h=>
 wpAny_Dict_empty ⟨.ref s.heap.objs.size,_,I.laid (a:=s.heap.objs.size) (o:=.dK []) (t':=s.toks) (λ_ _ q=>tG _ q) (tF _) (Ug s.heap I.big),rfl,h _ (I.hok.fresh (tF _))⟩
theorem Qs:JE X (.Dict [] [] pos) xm:=.of (wj)
theorem wg:PE X (.Dict [] [] pos) xl:=λpins s σ H Q I h=>
 wpAny_Dict_empty ⟨.ref s.heap.objs.size,_,I.laid (a:=s.heap.objs.size) (o:=.dT []) (t':=s.toks) (λ_ _ q=>tG _ q) (tF _) (uH s.heap I.big),rfl,h _ (I.hok.fresh (tF _))⟩
theorem ug:JE X (.Dict [] [] pos) xl:=.of (wg)
end
def UB:List (TE×TE)->St->Hp->(List (V×V)->Hp->Prop)->Prop
 | [],_,H,Q=>Q [] H
 | (tk,tv)::r,σ,H,Q=>tk σ H λx H1=>tv σ H1 λy H2=>UB r σ H2 λps H3=>Q ((x,y)::ps) H3
abbrev VV:List (V×V)->List (Value×Value)->Prop:=Paired λp q=>qQ p.1 q.1/\qQ p.2 q.2
def PPs (X:Cx) (pos:Pos) (keys:List (Option Expr)) (values:List Expr) (trs:List (TE×TE)):Prop:=
 ∀(pins:List (Addr×Obj)) (s:Shared) (σ:St) (H:Hp) (Q:List (V×V)->Hp->Prop),qD X pins σ H s->UB trs σ H Q->
   wpAny (model X.prog X.w) X.A (evalPairs (pairTrees keys values X.env pos)) (λvs s'=>∃ps H',qD X pins σ H' s'/\VV ps vs/\Q ps H') X.xe s
@[irreducible] def uX (X:Cx) (pos:Pos) (keys:List (Option Expr)) (values:List Expr) (trs:List (TE×TE)):Prop:=PPs X pos keys values trs
theorem uX.of {X:Cx} {pos:Pos} {keys:List (Option Expr)} {values:List Expr} {trs:List (TE×TE)} (h:PPs X pos keys values trs):uX X pos keys values trs:=by unfold uX;exact h
theorem uX.to {X:Cx} {pos:Pos} {keys:List (Option Expr)} {values:List Expr} {trs:List (TE×TE)} (h:uX X pos keys values trs):PPs X pos keys values trs:=by unfold uX at h;exact h
theorem Gx {X:Cx} {pos:Pos}:uX X pos [] [] []:=.of (by
 exact λpins s σ H Q I h=>pairTrees_nil_walk ⟨[],H,I,.nil,h⟩)
theorem wa {X:Cx} {pos:Pos} {k v:Expr} {ks:List (Option Expr)} {vs:List Expr} {tk tv:TE} {trs:List (TE×TE)} (hk:PE X k tk) (hv:PE X v tv) (hr:PPs X pos ks vs trs):
   PPs X pos (some k::ks) (v::vs) ((tk,tv)::trs):=λpins s σ H Q I h=>
 pairTrees_cons_walk (jl (hk pins s σ H _ I h) λu s1 ⟨x,H1,I1,rx,q1⟩=>jl (hv pins s1 σ H1 _ I1 q1) λw2 s2 ⟨y,H2,I2,ry,q2⟩=>
   jl (hr pins s2 σ H2 _ I2 q2) λws s3 ⟨ps,H3,I3,rel,q3⟩=>⟨(x,y)::ps,H3,I3,.cons ⟨rx,ry⟩ rel,q3⟩)
theorem XJ {X:Cx} {pos:Pos} {k v:Expr} {ks:List (Option Expr)} {vs:List Expr} {tk tv:TE} {trs:List (TE×TE)} (hk:JE X k tk) (hv:JE X v tv) (hr:uX X pos ks vs trs):uX X pos (some k::ks) (v::vs) ((tk,tv)::trs):=.of (wa hk.to hv.to hr.to)
def QN (kvs more:List (qL×V)):List (qL×V):=more.foldl (λacc kv=>jV acc kv.1 kv.2) kvs
theorem KV.merge:∀{more:List (qL×V)} {rs:List (qL×Value)} {kvs:List (qL×V)} {vs:List (qL×Value)},KV more rs->KV kvs vs->KV (QN kvs more) (merged vs rs):=by
 intro more rs kvs vs r
 unfold KV at r
 induction r generalizing kvs vs with
 | nil=>intro q;exact q
 | @cons p q ps qs h t ih=>
   intro r0
   have e:KV (jV kvs p.1 p.2) (stored vs q.1 q.2):=by
     have:=r0.put p.1 h.2
     rw[<-h.1];exact this
   exact ih e
theorem Jv:∀(more kvs:List (qL×V)),(QN kvs more).length<=kvs.length+more.length
 | [],kvs=>by show kvs.length<=kvs.length+0;omega
 | p::r,kvs=>by
   have h1:=Jv r (jV kvs p.1 p.2)
   have h2:=Jo kvs p.1 p.2
   show (QN (jV kvs p.1 p.2) r).length<=_
   rw[zat];omega
theorem XT {P:Program} {w:World}:∀{kvs:List (qL×V)} {ws:List (Value×Value)},VV (kvs.map λkv=>(kV kv.1,kv.2)) ws->∃rs,Carries (jm P w) ws rs/\KV kvs rs
 | [],_,r=>by rw[zcw]at r;cases r;exact⟨[],True.intro,.nil⟩
 | p::kvs,_,r=>by
   rw[tW]at r
   cases r with
   | @cons a b as bs h t=>
     obtain⟨rs,c,q⟩:=XT (P:=P) (w:=w) t
     obtain⟨b1,b2⟩:=b
     exact⟨(p.1,b2)::rs,⟨XI h.1,rfl,c⟩,.cons ⟨rfl,h.2⟩ q⟩
def MT (trs:List (TE×TE)):TE:=λσ H Q=>∀p,H p=none->UB trs σ (upd H p (.dK [])) λps H2=>H2 p=some (.dK [])/\∃kvs:List (qL×V),ps=kvs.map (λkv=>(kV kv.1,kv.2))/\kvs.length<=15/\Q (.ref p) (upd H2 p (.dK (QN [] kvs)))
theorem GX {X:Cx} {pos:Pos} {keys:List (Option Expr)} {values:List Expr} {trs:List (TE×TE)} (h:uX X pos keys values trs) (hall:keys.all (·.isSome)=true) (hl:keys.length=values.length) (h0:keys≠[]) (h15:keys.length<=15):JE X (.Dict keys values pos) (MT trs):=.of (by
 have h:=h.to
 intro pins s σ H Q I q
 have hn:=I.hok.fresh (tF s.heap.objs.size)
 have I1:=I.laid (a:=s.heap.objs.size) (o:=.dK []) (h':=s.heap.push {cls:=.type "dict",data:=.dict #[]}) (t':=s.toks) (λ_ _ q=>tG _ q) (tF _) (Ug s.heap I.big)
 refine wpAny_Dict_walk (knd:=jm X.prog X.w) hall hl h0 h15 (jl (h pins _ σ _ _ I1 (q _ hn)) λws s2 ⟨ps,H2,I2,rel,e,kvs,ep,lk,q2⟩=>?_)
 subst ep
 obtain⟨rs,c,rk⟩:=XT (P:=X.prog) (w:=X.w) rel
 obtain⟨z,hd,vs0,r0,dd⟩:=RZ I2.hok e
 cases r0
 refine⟨rs,c,dd,λh' dd' hs=>⟨.ref s.heap.objs.size,_,?_,rfl,q2⟩⟩
 have hz:(QN [] kvs).length<=sizeLine:=by
   have h1:=Jv kvs []
   rw[zdq]at h1
   rw[sizeLine_eq];omega
 have he:∃q,h'.get? s.heap.objs.size=some q:=let ⟨q,_,_,hq,_⟩:=dd';⟨q,hq⟩
 exact Vk I2 (by rw[e];exact True.intro) hs he (U6 hz hd (rk.merge .nil) dd'))
structure M1 (X:Cx) (o:Expr) (m:Str) (apos:Pos) (e:Expr) (cpos:Pos):Prop where
 base:attributeBase o m X.env (eval o X.env)=eval o X.env
 few:((backTo cpos (starEach [e] X.env)).all (λx=> !x.1)&&(backToKw cpos (keywordEach [] X.env)).all (λx=>x.1.isSome)
   &&decide (([e]:List Expr).length+([]:List Keyword).length+(if ([]:List Keyword).isEmpty then 0 else 1) < 30))=true
 line:(apos.endLine==cpos.line)=true
 trees:backTo cpos (starEach [e] X.env)=[(false,eval e X.env)]
structure M2 (X:Cx) (o:Expr) (m:Str) (apos:Pos) (e f:Expr) (cpos:Pos):Prop where
 base:attributeBase o m X.env (eval o X.env)=eval o X.env
 few:((backTo cpos (starEach [e,f] X.env)).all (λx=> !x.1)&&(backToKw cpos (keywordEach [] X.env)).all (λx=>x.1.isSome)
   &&decide (([e,f]:List Expr).length+([]:List Keyword).length+(if ([]:List Keyword).isEmpty then 0 else 1) < 30))=true
 line:(apos.endLine==cpos.line)=true
 trees:backTo cpos (starEach [e,f] X.env)=[(false,eval e X.env),(false,eval f X.env)]
section
variable {X:Cx} {pins:List (Addr×Obj)} {σ:St} {H:Hp} {s:Shared} {a:Addr} {y d:V} {u r:Value} {o:Option V} {A:Around} {E:Value->Shared->Prop}
end
section
variable {X:Cx} {o e f:Expr} {apos cpos:Pos} {td ty tx:TE}
end
section
variable {X:Cx} {pins:List (Addr×Obj)} {σ:St} {H:Hp} {s:Shared} {a:Addr} {kvs:List (qL×V)} {A:Around} {E:Value->Shared->Prop}
end
section
variable {X:Cx} {pins:List (Addr×Obj)} {σ:St} {H:Hp} {s:Shared} {a:Addr} {y:V} {u:Value} {A:Around} {E:Value->Shared->Prop}
end
end L2
namespace Att
open PySem PySem.W PySem.Calls PyProof.Rows
theorem YB {P:Params} {h:Heap}:∀(ns:List Int) (vs:List Value),WellAll P h vs (ns.map WData.int)->IntsAre vs ns:=by
 intro ns
 induction ns with
 | nil=>
   intro vs w
   rw[zcw]at w
   cases w
   exact .nil
 | cons n ns ih=>
   intro vs w
   rw[tW]at w
   cases w with
   | cons a b=>
     cases a
     exact .cons _ _ (ih _ b)
theorem kU {l:OpenLaw} {n:Nat} (hn:l.most=some n) {P:Params} {h:Heap} {args:List WData} {vals:List Value}
   (hpre:l.row.toRowW.claim.pre args=true) (hwl:WellAll P h vals args):
   ∃a vs ns,vals=[Value.ref a]/\args=[WData.list (ns.map WData.int)]/\h.get? a=some {cls:=.type "list",data:=.seq vs.toArray}/\IntsAre vs ns/\ns.length<=n:=by
 have hsh:WShape.hasAll [] args [.list .int]=true:=(pre_splitW hpre).1
 have hc:l.pre.holds [] {args:=args}=true:=(pre_splitW hpre).2
 obtain⟨d,r,rfl,h1,h2⟩:=hasAllW_cons hsh
 obtain rfl:=hasAllW_nil h2
 obtain⟨xs,rfl,h3⟩:=hasW_list h1
 obtain⟨ns,rfl⟩:=items_int h3
 have hlen:ns.length<=n:=by
   unfold OpenLaw.pre at hc
   have h4:(WTm.not (.lt (.lit (.int (n:Int))) (.len (.arg 0)))).holds [] {args:=[.list (ns.map .int)]}=true:=by
     have h4:=(holds_andW hc).1
     rw[hn]at h4
     exact h4
   have h5:=condW_of h4 (w_not (w_lt w_lit (w_len_list (w_arg rfl))))
   rw[tj]at h5
   refine Nat.le_of_not_lt λq=>?_
   have q':(n:Int) < ((ns.length:Nat):Int):=by omega
   first
     | (rw[decide_eq_true q']at h5;exact absurd h5 (by decide))
     | (simp at h5;omega)
 cases hwl with
 | cons w1 w2=>
   cases w2
   cases w1 with
   | list ho hall=>exact⟨_,_,ns,rfl,rfl,ho,YB ns _ hall,hlen⟩
theorem k6 (l:OpenLaw) (args:List WData):l.row.toRowW.claim.post args (.bool true) args=true:=
 postW_of (r:=l.row.toRowW) (X:=(true==true))
   (show WShape.has [] (.bool true) .bool=true by first | rfl | decide | simp [WShape.has,WShape.arms,WShape.armsAll])
   (show (WTm.eq .res (.lit (.bool true))).value [] {args:=args,res:=some (.bool true),after:=args}=some (.bool (true==true)) from w_eq_bool (w_res rfl) w_lit) rfl
theorem attach_call {l:OpenLaw} {n:Nat} {q:Program} {loose:List Str} {XP:(Str->Option Value)->Heap->Prop} {YP:World->Heap->Prop} {d:DefRec}
   (hn:l.most=some n) (hdf:d.params.defaults=[])
   (call:∀(w:World) (s₀ s₁:Shared) (mg mb:Str->Option Value) (fa:Addr) (o:Obj) (pm cd doc:Value) (a:Addr) (vs:List Value) (ns:List Int),
     Ground q loose [] XP w s₀ mg mb s₁.heap->YP w s₁.heap->
     s₁.heap.get? fa=some o->o.data=.func (docDef d.name d.params d.body d.scope pm cd doc)->s₁.heap.CodeRec cd d.name->mg d.name=some (.ref fa)->
     s₁.heap.get? a=some {cls:=.type "list",data:=.seq vs.toArray}->IntsAre vs ns->ns.length<=n->s₁.gens=#[]->
     codeAny (model l.prog w) callerA (.call (.ref fa) ⟨[.ref a],[]⟩) (λr s'=>r=.ok (.ret (.bool true))/\OldK s₁.heap s'.heap/\s'.os=s₁.os/\AllBare s'.gens) s₁):
   WalkO q loose XP YP l.row.toRowW d [] (λf vs=>PySem.call f vs):=by
 intro w s₀ s₁ mg mb G Y fa o pm cd doc dV kV ho hd hcd hD hmg hg args vals as hpre hlay hrd hwl hlo
 obtain rfl:dV=.none:=Dflts.none hD hdf
 obtain rfl:kV=.none:=Dflts.noKw hD
 obtain⟨a,vs,ns,rfl,rfl,hobj,hints,hlen⟩:=kU hn hpre hwl
 refine enter_call (codeAny_mono (call w s₀ s₁ mg mb fa o pm cd doc a vs ns G Y ho (fd_plain hd) hcd hmg hobj hints hlen hg) λr s' hq=>?_)
 obtain⟨rfl,h2,h3,h4⟩:=hq
 exact⟨.inl ⟨.bool true,.bool true,[],rfl,λ_=>rfl,.bool true,k6 l _,λ_=>⟨zdG.nil,λ_ hm=>(nomatch hm)⟩⟩,h2,h3,h4⟩
section
variable {prog:Program} {w:World} {A:Around} {E:Value->Shared->Prop} {s:Shared} {K:Frag}
end
end Att
namespace L2
open PySem PySem.Spec PyProof.Rows
theorem We:∀{vs:List Value} {ns:List Int},IntsAre vs ns->qJ (ns.map V.int) vs
 | _,_,.nil=>.nil
 | _,_,.cons n t h=>.cons ⟨t,rfl⟩ (We h)
def qbT (H:Hp):Prop:=∀b,H b=none\/∃o xs,H b=some (.frz o (.lst xs))
def Qt (s:Stmt) (j:Nat):Stmt:=match s with
 | .ClassDef _ _ _ body _ _ _ _ _ _ _=>body.getD j (.Pass ⟨0,0,0,0⟩)
 | _=>.Pass ⟨0,0,0,0⟩
def Qc (s:Stmt):Arguments:=match s with
 | .FunctionDef _ a _ _ _ _ _ _ _ _=>a
 | _=>{posonlyargs:=[],args:=[],vararg:=none,kwonlyargs:=[],kw_defaults:=[],kwarg:=none,defaults:=[]}
def jq (s:Stmt):List Stmt:=match s with
 | .FunctionDef _ _ b _ _ _ _ _ _ _=>b
 | _=>[]
def qh (s:Stmt):Scope:=match s with
 | .FunctionDef _ _ _ _ _ _ sc _ _ _=>sc
 | _=>{kind:=.function,names:=[],isGenerator:=false,isCoroutine:=false}
abbrev qG:Y6:=λ_ _ _ _ _ _=>False
abbrev E0:XK:=λ_ _ _=>False
theorem Q4 {X:Cx}:QO qG X E0:=λ_ _ _ _ _ _ _ h=>h.elim
structure jU (K:PySem.W.Frag) (x qual:Str) (st:Stmt) (f:Addr) (fd:FuncData):Prop where
 ex:∃(oc:Value) (od:Option Addr) (kV doc pm:Value) (an:Option Addr) (cdv ct:Value) (osl:Array (Option Value)),
   fd=zbd x qual (Qc st) (jq st) (qh st) .none kV doc pm an cdv ct/\K.lookup f=some ⟨oc,od,.func fd,osl⟩/\zbv K cdv qual=true
 kp:zaH K (.ref f)=true
section
variable {P:Program} {w:World} {K:PySem.W.Frag} {mg:Str->Option Value} {base:Heap}
theorem jU.ok {x qual:Str} {st:Stmt} {f:Addr} {fd:FuncData} {N ps:List Str} {k:Nat} {sp:Sp} (F:jU K x qual st f fd) (S:qp N ps (qh st)) (len:∀vs H Q E,sp vs H Q E->vs.length=ps.length)
   (hbody:∀(cdv:Value) (A:Around) (outer:List Env) (s:Shared) (H:Hp) (vs:List V) (Q:VK) (E:XK),qS k (A.deeper (envOfC qual (qh st) s.heap.objs.size f cdv))->sp vs H Q E->
     ∃t,R5 (XR qG P w K mg base N qual (qh st) f cdv A outer s H E).nox (jq st) t/\t {nx:=λ_ H'=>Q .non H',rt:=Q} (jQ N vs) H):ql P w K mg base qG (k+1) f fd ps sp:=by
 obtain⟨oc,od,kV,doc,pm,an,cdv,ct,osl,rfl,lk,hcd⟩:=F.ex
 refine qaM lk hcd S len λA outer s H vs Q E hr hsp=>?_
 obtain⟨t,h,q⟩:=hbody cdv A outer s H vs Q E hr hsp
 exact⟨t,h.nox,q⟩
theorem jU.okJ {x qual:Str} {st:Stmt} {f:Addr} {fd:FuncData} {N ps:List Str} {k:Nat} {sp:Sp} (F:jU K x qual st f fd) (S:qp N ps (qh st)) (len:∀vs H Q E,sp vs H Q E->vs.length=ps.length)
   (hbody:∀(cdv:Value) (A:Around) (outer:List Env) (s:Shared) (H:Hp) (vs:List V) (Q:VK) (E:XK),qS k (A.deeper (envOfC qual (qh st) s.heap.objs.size f cdv))->sp vs H Q E->
     ∃t,Vr (XR qG P w K mg base N qual (qh st) f cdv A outer s H E).nox (jq st) t/\t {nx:=λ_ H'=>Q .non H',rt:=Q} (jQ N vs) H):ql P w K mg base qG (k+1) f fd ps sp:=
 F.ok S len λcdv A outer s H vs Q E hr h=>let ⟨t,a,b⟩:=hbody cdv A outer s H vs Q E hr h;⟨t,a.to,b⟩
theorem jU.binds {x qual:Str} {st:Stmt} {f:Addr} {fd:FuncData} {ps:List Str} (F:jU K x qual st f fd)
   (h:∀(kV doc pm:Value) (an:Option Addr) (cdv ct:Value) (us:List Value),us.length=ps.length->bindArgs (zbd x qual (Qc st) (jq st) (qh st) .none kV doc pm an cdv ct) ⟨us,[]⟩=pure (ps.zip us)):jP K fd ps []:=by
 obtain⟨oc,od,kV,doc,pm,an,cdv,ct,osl,rfl,lk,hcd⟩:=F.ex
 exact .all (h kV doc pm an cdv ct)
theorem XN {x qual:Str} {st:Stmt} {f:Addr} {oc:Value} {od an:Option Addr} {osl:Array (Option Value)} {kV doc pm cdv ct:Value} (l:K.lookup f=some ⟨oc,od,.func (zbd x qual (Qc st) (jq st) (qh st) .none kV doc pm an cdv ct),osl⟩)
   (c:zbv K cdv qual=true) (k:zaH K (.ref f)=true):jU K x qual st f (zbd x qual (Qc st) (jq st) (qh st) .none kV doc pm an cdv ct):=⟨⟨oc,od,kV,doc,pm,an,cdv,ct,osl,rfl,l,c⟩,k⟩
end
theorem jR {A:Around} {k:Nat} (hr:qS k A):A.units+1 < cLine:=zap (Nat.add_le_add_left (by decide:1<=64) _) hr.units
theorem qo {n:Nat} (h:n<=1000):n < sizeLine:=zap h (by decide)
section
variable {X:Cx}
theorem pv (i:Nat) {x:Str} {pos:Pos} (hN:X.N[i]?=some x:=by rfl) (hv:Mt X.env.scope x:=by first | exact Or.inl rfl | exact Or.inr (Or.inl rfl) | exact Or.inr (Or.inr rfl)) (hd:(x==("__debug__":Str))=false:=by decide)
   (hcd:(x==("__classdict__":Str))=false:=by decide):PE X (.Name x pos) (q5 i):=wc hN hv hd hcd
theorem jv (i:Nat) {x:Str} {pos:Pos} (hN:X.N[i]?=some x:=by rfl) (hv:Mt X.env.scope x:=by first | exact Or.inl rfl | exact Or.inr (Or.inl rfl) | exact Or.inr (Or.inr rfl)) (hd:(x==("__debug__":Str))=false:=by decide) (hcd:(x==("__classdict__":Str))=false:=by decide):JE X (.Name x pos) (q5 i):=.of (pv i hN hv hd hcd)
end
theorem jB {A B:Prop} (h:B):if false=true then A else B:=by
 rw[if_neg tP]
 exact h
theorem Qe {A B:Prop} (h:A):if true=true then A else B:=by
 rw[if_pos rfl]
 exact h
theorem yH {c A B:Prop} [Decidable c] (h1:c->A) (h2:¬c->B):if c then A else B:=by
 by_cases h:c
 . rw[if_pos h]
   exact h1 h
 . rw[if_neg h]
   exact h2 h
def qm (H H':Hp):Prop:=∀b o,H b=some o->H' b=some o
theorem qm.refl (H:Hp):qm H H:=λ_ _ h=>h
theorem qm.trans {H H1 H2:Hp} (a:qm H H1) (b:qm H1 H2):qm H H2:=λc o h=>b c o (a c o h)
theorem qm.seq {K:PySem.W.Frag} {H H':Hp} {a:Addr} {xs:List V} (e:qm H H') (h:SqL K H a xs):SqL K H' a xs:=by
 rcases h with (h | ⟨o,h⟩) | h
 . exact .inl (.inl (e _ _ h))
 . exact .inl (.inr ⟨o,e _ _ h⟩)
 . exact .inr h
section
variable {X:Cx}
end
section
variable {κ:Type} [DecidableEq κ]
theorem y9 {kvs:List (κ×V)} {k:κ} (h:ji kvs k=none):¬k∈kvs.map (·.1):=by
 intro m
 obtain⟨p,hp,e⟩:=tJ.mp m
 have q:(kvs.any λkv=>decide (kv.1=k))=true:=zbb.mpr ⟨p,hp,decide_eq_true e⟩
 rw[QI,h]at q
 exact absurd q (by simp)
theorem u5 {kvs:List (κ×V)} {k:κ} {v:V} (h:ji kvs k=some v):k∈kvs.map (·.1):=by
 have q:(kvs.any λkv=>decide (kv.1=k))=true:=by
   rw[QI,h]
   all_goals rfl
 obtain⟨p,hp,e⟩:=zbb.mp q
 exact tJ.mpr ⟨p,hp,of_decide_eq_true e⟩
theorem vY:∀{l:List κ} {k:κ},l.Nodup->¬k∈l->(l++[k]).Nodup
 | [],k,_,_=>by simp
 | a::r,k,h,hk=>by
   obtain⟨h1,h2⟩:=zam.mp h
   show (a::(r++[k])).Nodup
   refine zam.mpr ⟨λm=>?_,vY h2 λm=>hk (t8.mpr (Or.inr m))⟩
   rcases tV.mp m with q | q
   . exact h1 q
   . exact hk (t8.mpr (Or.inl (zae.mp q).symm))
theorem Gp {kvs:List (κ×V)} {k:κ} (v:V) (hn:(kvs.map (·.1)).Nodup) (h:ji kvs k=none):((jV kvs k v).map (·.1)).Nodup:=by
 rw[QJ v h,tN]
 exact vY hn (y9 h)
end
end L2
set_option maxHeartbeats 4000000
namespace L2
open PySem PySem.Spec PyProof.Rows
theorem kj:(NameKind.free==NameKind.free)=true:=rfl
def qN (env:Env):List (Str×NameKind)->List (Str×Addr)->List (Str×Addr)
 | [],cs=>cs
 | (n,k)::r,cs=>qN env r (if k==.free then (n,(env.cells.lookup n).getD 0)::cs else cs)
theorem QH {scope:Scope} {env:Env} (h:∀x∈scope.names,x.2=.free->∃c,env.cells.lookup x.1=some c):closureFor scope env=pure (qN env scope.names []):=by
 simp only[closureFor]
 have key:∀(l:List (Str×NameKind)) (cs:List (Str×Addr)),(∀x∈l,x.2=.free->∃c,env.cells.lookup x.1=some c)->
     (forIn l cs λx (r:List (Str×Addr))=>if (x.snd==NameKind.free)=true then (do let a <-cellOf env x.fst;pure (ForInStep.yield ((x.fst,a)::r)):Sem (ForInStep (List (Str×Addr)))) else pure (ForInStep.yield r))=(pure (qN env l cs):Sem (List (Str×Addr))):=by
   intro l
   induction l with
   | nil=>intro cs _;rfl
   | cons x l ih=>
     intro cs hl
     obtain⟨n,k⟩:=x
     have ihl:=λcs'=>ih cs' λy hy=>hl y (tU _ hy)
     rw[List.forIn_cons]
     by_cases hk:k=.free
     . subst hk
       obtain⟨c,hc⟩:=hl (n,.free) zaa rfl
       have e1:cellOf env n=pure c:=by
         unfold cellOf
         have hc':env.cells.lookup n=some c:=hc
         rw[hc']
       have e2:qN env ((n,NameKind.free)::l) cs=qN env l ((n,c)::cs):=by
         have hc':env.cells.lookup n=some c:=hc
         show qN env l (if (NameKind.free==NameKind.free)=true then (n,(env.cells.lookup n).getD 0)::cs else cs)=_
         rw[if_pos kj,hc']
         rfl
       rw[e2,<-ihl]
       dsimp only
       rw[if_pos kj,e1]
       rfl
     . have hb:(k==NameKind.free)=false:=by simpa using hk
       have e2:qN env ((n,k)::l) cs=qN env l cs:=by
         show qN env l (if (k==NameKind.free)=true then (n,(env.cells.lookup n).getD 0)::cs else cs)=_
         rw[if_neg (by rw[hb];decide)]
       rw[e2,<-ihl]
       dsimp only
       rw[if_neg (by rw[hb];decide)]
       rfl
 rw[key scope.names [] h]
 rfl
theorem j8 {env:Env} {x:Str} {c:Addr}:∀{l:List (Str×NameKind)} {cs:List (Str×Addr)},(qN env l cs).lookup x=some c->cs.lookup x=some c\/((x,NameKind.free)∈l/\c=(env.cells.lookup x).getD 0)
 | [],cs,h=>.inl h
 | (n,k)::r,cs,h=>by
   rcases j8 (l:=r) h with h | ⟨h1,h2⟩
   . by_cases hk:k=.free
     . subst hk
       rw[if_pos kj,zaJ]at h
       by_cases hx:x=n
       . subst hx
         simp only[beq_self_eq_true]at h
         exact .inr ⟨zaa,(tO.inj h).symm⟩
       . have hb:(x==n)=false:=beq_eq_false_iff_ne.mpr hx
         simp only[hb]at h
         exact .inl h
     . have hb:(k==NameKind.free)=false:=by simpa using hk
       rw[if_neg (by rw[hb];decide)]at h
       exact .inl h
   . exact .inr ⟨tU _ h1,h2⟩
theorem Jd {env:Env} {x:Str}:∀{l:List (Str×NameKind)} {cs:List (Str×Addr)},((x,NameKind.free)∈l\/∃c,cs.lookup x=some c)->∃c,(qN env l cs).lookup x=some c
 | [],cs,h=>by
   rcases h with h | h
   . cases h
   . exact h
 | (n,k)::r,cs,h=>by
   show ∃c,(qN env r (if (k==NameKind.free)=true then (n,(env.cells.lookup n).getD 0)::cs else cs)).lookup x=some c
   refine Jd (l:=r) ?_
   rcases h with h | ⟨c,h⟩
   . rcases t8.mp h with h | h
     . cases h
       refine .inr ⟨(env.cells.lookup x).getD 0,?_⟩
       rw[if_pos kj,zaJ]
       simp only[beq_self_eq_true]
     . exact .inl h
   . refine .inr ?_
     by_cases hk:(k==NameKind.free)=true
     . rw[if_pos hk,zaJ]
       cases hx:x==n with
       | true=>exact⟨_,rfl⟩
       | false=>exact⟨c,h⟩
     . rw[if_neg hk]
       exact⟨c,h⟩
theorem zm {scope:Scope} {env:Env} {x:Str} {k:NameKind}:∀{names:List (Str×NameKind)},names.lookup x=some k->
   ∃k',(names.map λ(n,k)=>if (k==NameKind.free&&env.scope.kind==.function&&env.kindOf n==some .cell) then (n,NameKind.cell) else (n,k)).lookup x=some k'/\(k'=k\/(k=.free/\k'=.cell))
 | [],h=>by simp at h
 | (n,j)::r,h=>by
   rw[tW]
   by_cases hx:x=n
   . subst hx
     rw[zaJ]at h
     simp only[beq_self_eq_true]at h
     cases h
     dsimp only
     by_cases hc:(k==NameKind.free&&env.scope.kind==.function&&env.kindOf x==some .cell)=true
     . rw[if_pos hc,zaJ]
       simp only[beq_self_eq_true]
       refine⟨_,rfl,.inr ⟨?_,rfl⟩⟩
       simp only[zau,beq_iff_eq]at hc
       exact hc.1.1
     . rw[if_neg hc,zaJ]
       simp only[beq_self_eq_true]
       exact⟨_,rfl,.inl rfl⟩
   . have hb:(x==n)=false:=beq_eq_false_iff_ne.mpr hx
     rw[zaJ]at h
     simp only[hb]at h
     obtain⟨k',h1,h2⟩:=zm (env:=env) (scope:=scope) h
     refine⟨k',?_,h2⟩
     dsimp only
     by_cases hc:(j==NameKind.free&&env.scope.kind==.function&&env.kindOf n==some .cell)=true
     . rw[if_pos hc,zaJ]
       simp only[hb]
       exact h1
     . rw[if_neg hc,zaJ]
       simp only[hb]
       exact h1
theorem mem_of_lookup {x:Str} {k:NameKind}:∀{l:List (Str×NameKind)},l.lookup x=some k->(x,k)∈l
 | [],h=>by simp at h
 | (n,j)::r,h=>by
   rw[zaJ]at h
   by_cases hx:x=n
   . subst hx
     simp only[beq_self_eq_true]at h
     cases h
     exact zaa
   . have hb:(x==n)=false:=beq_eq_false_iff_ne.mpr hx
     simp only[hb]at h
     exact tU _ (mem_of_lookup h)
theorem ZL {f:Str×NameKind->Str×NameKind} (hf:∀p,(f p).1=p.1) {x:Str} {k:NameKind}:∀{l:List (Str×NameKind)},(l.map f).lookup x=some k->∃j,l.lookup x=some j/\(f (x,j)).2=k
 | [],h=>by simp at h
 | (n,j)::r,h=>by
   rw[tW]at h
   have e:f (n,j)=(n,(f (n,j)).2):=by
     have:=hf (n,j)
     exact Prod.ext this rfl
   rw[e,zaJ]at h
   rw[zaJ]
   by_cases hx:x=n
   . subst hx
     simp only[beq_self_eq_true]at h ⊢
     exact⟨j,rfl,tO.inj h⟩
   . have hb:(x==n)=false:=beq_eq_false_iff_ne.mpr hx
     simp only[hb]at h ⊢
     exact ZL hf h
def Yz (X:Cx) (N:List Str) (scope:Scope) (C:Addr) (s₂:Shared) (H₂:Hp) (fp:List Addr) (pins:List (Addr×Obj)):Cx where
 prog:=X.prog
 w:=X.w
 K:=X.K
 mg:=X.mg
 base:=X.base
 A:=X.A
 N:=N
 s₀:=s₂
 H₀:=H₂
 env:=compEnvC scope (qN X.env scope.names []) C X.env
 outer:=X.stack
 stack:=X.stack
 ex:=fp
 fn:=λ_=>false
 calm:=X.calm
 pn:=X.pn++pins
 xe:=λ_ _=>False
def Ng (ix:List (Option Nat)) (σ:St):St:=ix.map λo=>o.bind λj=>(σ[j]?).join
def GY (N' N:List Str) (sc esc:Scope) (ix:List (Option Nat)):Bool:=
 ix.length==N'.length&&(ix.zip N').all λp=>match p.1 with
   | none=>true
   | some j=>N[j]?==some p.2&&sc.names.lookup p.2==some .free&&(esc.names.lookup p.2==some .cell || esc.names.lookup p.2==some .free)
structure Qk (X:Cx) (N':List Str) (ix:List (Option Nat)) (scope:Scope):Prop where
 kind:scope.kind=.function
 nocell:(scope.names.all λx=>x.2 != .cell)=true
 locs:(scope.names.all λx=>x.2 != .local || scope.names.lookup x.1==some .local)=true
 frees:(scope.names.all λx=>x.2 != .free || (X.env.scope.names.lookup x.1==some .cell || X.env.scope.names.lookup x.1==some .free))=true
 ixs:GY N' X.N scope X.env.scope ix=true
section
variable {X:Cx} {N':List Str} {ix:List (Option Nat)} {scope:Scope} {pins:List (Addr×Obj)} {σ:St} {H:Hp} {s:Shared}
theorem Qk.cellH (S:Qk X N' ix scope):∀y∈scope.names,y.2≠.cell:=λy hy e=>by
 have:=zaK.mp S.nocell y hy
 rw[e]at this
 exact absurd this (by decide)
theorem Qk.locH (S:Qk X N' ix scope):∀y∈scope.names,y.2=.local->scope.names.lookup y.1=some .local:=λy hy e=>by
 have:=zaK.mp S.locs y hy
 simp only[e,zdr,bne_self_eq_false,zba,false_or,beq_iff_eq]at this
 exact this
theorem Qk.freeH (S:Qk X N' ix scope) (ok:X.Ok):∀x∈scope.names,x.2=.free->∃c,X.env.cells.lookup x.1=some c:=λx hx e=>by
 have:=zaK.mp S.frees x hx
 simp only[e,zdr,bne_self_eq_false,zba,false_or,beq_iff_eq]at this
 exact ok.has x.1 this
theorem Qk.clook (S:Qk X N' ix scope) (ok:X.Ok) {x:Str} {c:Addr} (h:(qN X.env scope.names []).lookup x=some c):X.env.cells.lookup x=some c/\(x,NameKind.free)∈scope.names:=by
 rcases j8 h with h | ⟨h1,h2⟩
 . simp at h
 . obtain⟨c',hc'⟩:=S.freeH ok _ h1 rfl
   have hc2:X.env.cells.lookup x=some c':=hc'
   rw[hc2]at h2
   subst h2
   exact⟨hc2,h1⟩
theorem qaO {C:Addr} {fp:List Addr} (S:Qk X N' ix scope) (I:qD X pins σ H s) (hC:s.heap.objs.size<=C) (hf:∀b∈fp,JR X pins H b) (hfo:∀b∈fp,b < s.heap.objs.size):(Yz X N' scope C s H fp pins).Ok where
 mod:=I.ok.mod
 kind:=S.kind
 glob:=I.ok.glob
 blt:=I.ok.blt
 above:=hC
 inj:=λx y c h1 h2=>I.ok.inj x y c (S.clook I.ok h1).1 (S.clook I.ok h2).1
 has:=λx hx=>by
   have hx':(relabel scope X.env).names.lookup x=some .cell\/(relabel scope X.env).names.lookup x=some .free:=hx
   refine Jd (.inl ?_)
   have go:∀k,(k=NameKind.cell\/k=.free)->(relabel scope X.env).names.lookup x=some k->(x,NameKind.free)∈scope.names:=λk hk h=>by
     obtain⟨j,h1,h2⟩:=ZL (f:=λ(n,k)=>if (k==NameKind.free&&X.env.scope.kind==.function&&X.env.kindOf n==some .cell) then (n,NameKind.cell) else (n,k)) (λp=>by dsimp only;split<;>rfl) h
     have hm:=mem_of_lookup h1
     by_cases hj:j=.free
     . subst hj;exact hm
     . exfalso
       have hb:(j==NameKind.free)=false:=by simpa using hj
       dsimp only at h2
       rw[hb,zcR,zcR,if_neg (by decide)]at h2
       have h2':j=k:=h2
       rcases hk with e | e
       . exact S.cellH _ hm (h2'.trans e)
       . exact hj (h2'.trans e)
   rcases hx' with h | h
   . exact go _ (.inl rfl) h
   . exact go _ (.inr rfl) h
 cab:=λx c h _=>by cases h
 hd:=I.ok.hd
 frames:=I.ok.frames
 stk:=.inl rfl
 exf:=λb hb=>⟨zab (tT (hfo b hb) hC),λx c h=>(hf b hb).2.2.2.2.1 x c (S.clook I.ok h).1⟩
 bs:=I.bs
 bsz:=zag I.ok.bsz I.sz
 noex:=λb o e hb=>by
   rcases(hf b hb).2.2.2.1 with h | h
   . exact I.ok.noex b o e h
   . exact absurd (tT (tQ e) (zag I.ok.bsz h)) (zaw _)
 exfs:=λb hb hm=>by
   rcases t8.mp (I.stkSub b hm) with e | e
   . exact(hf b hb).2.1 e
   . exact(hf b hb).2.2.1 e
 funs:=I.stack
 frf:=I.stkFree
theorem yL {C D:Addr} {fp:List Addr} {h₁:Heap} {m:Str->Option Value} {t':Nat} {n₀:Nat} (S:Qk X N' ix scope) (I:qD X pins σ H s) (hf:∀b∈fp,JR X pins H b) (hfo:∀b∈fp,b < s.heap.objs.size)
   (hD:s.heap.objs.size<=D) (hC:s.heap.objs.size<=C) (hDC:D≠C) (kp:∀b o,s.heap.get? b=some o->h₁.get? b=some o) (hn:h₁.Ns C m) (hl:h₁.get? D=some {cls:=.type "list",data:=.seq #[] n₀}):
   qD (Yz X N' scope C s H fp pins) [] (Ng ix σ) (upd H D (.lst [])) {s with heap:=h₁,toks:=t'} where
 ok:=qaO S I hC hf hfo
 os:=rfl
 bare:=I.bare
 base:=Un.laid kp hD (I.hok.fresh hD)
 loc:=by
   refine⟨m,hn,λi x v e1 e2 e3=>?_⟩
   have hix:=S.ixs
   unfold GY at hix
   rw[zau]at hix
   obtain⟨hlen,hall⟩:=hix
   have hlen':ix.length=N'.length:=by simpa using hlen
   have e1':N'[i]?=some x:=e1
   unfold Ng at e2
   rw[tI]at e2
   cases ho:ix[i]? with
   | none=>rw[ho]at e2;cases e2
   | some o=>
     rw[ho]at e2
     cases o with
     | none=>cases e2
     | some j=>
       have e2':(σ[j]?).join=some v:=tO.inj e2
       have hz:(ix.zip N')[i]?=some (some j,x):=by
         rw[List.getElem?_zip_eq_some]
         exact⟨ho,e1'⟩
       have hm:=zaK.mp hall _ (tZ hz)
       dsimp only at hm
       simp only[zau,beq_iff_eq,zdr]at hm
       obtain⟨⟨hN,hfr⟩,hk⟩:=hm
       have e2'':σ[j]?=some (some v):=by
         cases q:σ[j]? with
         | none=>rw[q]at e2';cases e2'
         | some z=>
           rw[q]at e2'
           have:z=some v:=e2'
           rw[this]
       obtain⟨mX,hnX,hlX⟩:=I.loc
       have hvis:Mt X.env.scope x:=by
         rcases hk with h | h
         . exact .inr (.inl h)
         . exact .inr (.inr h)
       obtain⟨u,ru,lu⟩:=hlX j x v hN e2'' hvis
       refine⟨u,ru,?_⟩
       rcases lu with ⟨hk',_⟩ | ⟨_,c,hc,hcell⟩
       . exfalso
         have hk'':X.env.scope.names.lookup x=some .local:=hk'
         rcases hk with h | h<;>rw[h]at hk''<;>cases hk''
       . right
         obtain⟨k',r1,r2⟩:=zm (scope:=scope) (env:=X.env) hfr
         refine⟨?_,?_⟩
         . rcases r2 with z | ⟨_,z⟩
           . right;rw[z]at r1;exact r1
           . left;rw[z]at r1;exact r1
         . obtain⟨c',hc'⟩:=Jd (env:=X.env) (cs:=[]) (.inl (mem_of_lookup hfr))
           have:=(S.clook I.ok hc').1
           rw[hc]at this
           cases this
           obtain⟨o,ho',hd⟩:=hcell
           exact⟨c,hc',o,kp _ _ ho',hd⟩
 cell:=λx c h=>by
   obtain⟨v,o,ho,hd⟩:=I.cell x c (S.clook I.ok h).1
   exact⟨v,o,kp _ _ ho,hd⟩
 free:=by
   show (upd H D _) C=none
   rw[qj (Ne.symm hDC)]
   exact I.hok.fresh hC
 freeC:=λx c h=>by
   have h1:=(S.clook I.ok h).1
   obtain⟨v,o,ho,hd⟩:=I.cell x c h1
   rw[qj (zab (tT (tQ ho) hD))]
   exact(I.freeC x c h1).imp id λz=>⟨rfl,z.2⟩
 pin:=λp hp=>by
   have hp':p∈X.pn++pins:=by
     have:p∈(X.pn++pins)++[]:=hp
     simpa using this
   obtain⟨e,n,ne,nf,d⟩:=I.pin p hp'
   have hlt:=tQ e
   refine⟨kp _ _ e,?_,zab (tT hlt hC),λhm=>?_,d⟩
   . rw[qj (zab (tT hlt hD))];exact n
   . rcases t8.mp (I.stkSub p.1 hm) with z | z
     . exact ne z
     . exact nf z
 hok:=I.hok.laid kp hD ⟨zay _,[],n₀,.nil,hl⟩
 len:=by
   have hix:=S.ixs
   unfold GY at hix
   rw[zau]at hix
   have:ix.length=N'.length:=by simpa using hix.1
   show (Ng ix σ).length=N'.length
   unfold Ng
   rw[tj,this]
theorem um {C:Addr} {fp:List Addr} {σ':St} {H':Hp} {s':Shared} {pl:List (Addr×Obj)} (I:qD X pins σ H s) (hf:∀b∈fp,JR X pins H b) (J:qD (Yz X N' scope C s H fp pins) pl σ' H' s'):qD X pins σ H' s':=
 I.call' (ch:=fp) J.os J.base J.hok J.bare λb hb=>⟨(hf b hb).2.2.2.1,(hf b hb).2.1,(hf b hb).2.2.2.2.1,(hf b hb).2.2.2.2.2⟩
theorem ul {C:Addr} {H':Hp} {s₀ s':Shared} {h':Heap} (I₀:qD X pins σ H s₀) (I:qD X pins σ H' s') (hC:s₀.heap.objs.size<=C) (hn:H' C=none) (sb:Heap.SameBut C s'.heap h'):qD X pins σ H' {s' with heap:=h'}:=by
 refine I.turned (it:=C) (t':=s'.toks) (λb o hb e=>(sb.2 b hb).trans e) hn (zbK (tT I₀.lt hC)) (.inr (zag I₀.sz hC)) (λx c e z=>?_) λp hp z=>?_
 . obtain⟨v,q⟩:=I₀.cell x c e
   exact absurd (tT q.lt (by rw[z];exact hC)) (zaw _)
 . exact absurd (tT (tQ (I₀.pin p hp).1) (by rw[z];exact hC)) (zaw _)
end
def MH (X:Cx) (ifs:List Expr) (t:TT):Prop:=
 ∀(pins:List (Addr×Obj)) (s:Shared) (σ:St) (H:Hp) (Q:Bool->Hp->Prop),qD X pins σ H s->t σ H Q->
   wpAny (model X.prog X.w) X.A (forIn ifs true λc r=>if r=true then do let ok <-isTrue c X.env (eval c X.env);pure (ForInStep.yield ok) else pure (ForInStep.yield r)) (TP X pins σ Q) X.xe s
@[irreducible] def uW (X:Cx) (ifs:List Expr) (t:TT):Prop:=MH X ifs t
theorem uW.of {X:Cx} {ifs:List Expr} {t:TT} (h:MH X ifs t):uW X ifs t:=by unfold uW;exact h
theorem uW.to {X:Cx} {ifs:List Expr} {t:TT} (h:uW X ifs t):MH X ifs t:=by unfold uW at h;exact h
def qbc:TT:=λ_ H Q=>Q true H
theorem j2 {X:Cx}:uW X [] qbc:=.of (by
 exact λ_ _ _ H _ I h=>wpAny_tests_nil ⟨H,I,h⟩)
theorem jJ {X:Cx} {c:Expr} {t:TT} (h:JT X c t):uW X [c] t:=.of (by
 have h:=h.to
 exact λpins s σ H Q I hw=>wpAny_tests_one (h pins s σ H Q I hw))
section
variable {prog:Program} {w:World} {A:Around} {R:Result->Shared->Prop} {s:Shared}
theorem Vl {elt target iter:Expr} {ifs:List Expr} {scope:Scope} {pos:Pos} {it acc:Value} {env:Env} (I:Nat->Shared->Prop)
   (turn:∀n s,I n s->wpAny (model prog w) A (pyNext it) (λr s₁=>match r with
     | none=>R (.ok .next) s₁
     | some v=>wpAny (model prog w) A (letOwnedTupleGo target it v) (λ_ s₁'=>wpAny (model prog w) A (assign target env v) (λ_ s₂=>
         wpAny (model prog w) A (forIn ifs true λc r=>if r=true then do let ok <-isTrue c env (eval c env);pure (ForInStep.yield ok) else pure (ForInStep.yield r)) (λok s₃=>
           if ok=true then wpAny (model prog w) A (eval elt env) (λx s₄=>
             wpAny (model prog w) A (call (.builtin "list.append") [acc,x]) (λ_ s₅=>∃m,m < n/\I m s₅) (λ_ _=>False) s₄) (λ_ _=>False) s₃
           else ∃m,m < n/\I m s₃) (λ_ _=>False) s₂) (λ_ _=>False) s₁') (λ_ _=>False) s₁) (λ_ _=>False) s)
   (n:Nat) (h:I n s):
   codeAny (model prog w) A (.compLoop (.ListComp elt [⟨target,iter,ifs,0⟩] scope pos) 0 it acc env) R s:=by
 refine codeAny_loop rfl I (λn s hI=>?_) n h
 show wpAny _ A ((compTurn (.ListComp elt [⟨target,iter,ifs,0⟩] scope pos) 0 it acc env).onRaise (λx=>do noteFrame x env;theTreesLotGoes x)) _ _ s
 refine wpAny_noted ?_
 rw[compTurn_list]
 refine wpAny_bind (wpAny_standAt (wpAny_bind (wpAny_mono (turn n s hI) (λr s₁ h₁=>?_) λ_ _ h'=>h'.elim)))
 cases r with
 | none=>exact wpAny_pure h₁
 | some v=>
   refine wpAny_bind (wpAny_mono h₁ (λ_ s₁' h₁'=>?_) λ_ _ h'=>h'.elim)
   refine wpAny_bind (wpAny_mono h₁' (λ_ s₂ h₂=>wpAny_bind (wpAny_mono h₂ (λok s₃ h₃=>?_) λ_ _ h'=>h'.elim)) λ_ _ h'=>h'.elim)
   cases ok with
   | false=>exact wpAny_pure ⟨rfl,h₃⟩
   | true=>
     exact wpAny_bind (wpAny_bind (wpAny_mono h₃ (λx s₄ h₄=>wpAny_bind (wpAny_mono h₄ (λ_ s₅ h₅=>wpAny_pure (wpAny_pure ⟨rfl,h₅⟩)) λ_ _ h'=>h'.elim)) λ_ _ h'=>h'.elim))
end
def X2 (J:It) (g:TG) (tt:TT) (te:TE) (D:Addr) (σ:St) (H:Hp) (Q:Hp->Prop):Prop:=
 ∃W:Nat->Nat->St->Hp->Prop,(∃m,W 0 m σ (upd H D (.lst [])))/\∀i m σ' H',W i m σ' H'->
   (J.stop i H'/\Q H')\/(J.go i H'/\∃N:St->Hp->Prop,(∀σ2 H2,N σ2 H2->∃m',m' < m/\W (i+1) m' σ2 H2)/\∀x H2,J.yld i H' x H2->g x σ' H2 λσ2 H3=>tt σ2 H3 λb H4=>
     if b=true then te σ2 H4 λv H5=>∃ys,H5 D=some (.lst ys)/\ys.length < sizeLine/\N σ2 (upd H5 D (.lst (ys++[v]))) else N σ2 H4)
def tLC (wi:TI) (ix:List (Option Nat)) (g:TG) (tt:TT) (te:TE):TE:=λσ H Q=>wi σ H λJ H1=>∀D,H1 D=none->X2 J g tt te D (Ng ix σ) H1 λH2=>Q (.ref D) H2
section
variable {X:Cx} {N':List Str} {ix:List (Option Nat)} {scope:Scope}
theorem WC {elt iter target:Expr} {ifs:List Expr} {pos:Pos} {g:TG} {tt:TT} {te:TE} {pins:List (Addr×Obj)} {σ:St} {H:Hp} {s:Shared} {it:Addr} {fp:List Addr} {tn:Nat->Heap->Prop} {J:It} {E:Value->Shared->Prop}
   {RR:Value->Addr->Result->Shared->Prop} {Q:Addr->Hp->Prop}
   (hc:X.calm=true) (S:Qk X N' ix scope) (I:qD X pins σ H s) (T:Up X.prog X.w X.K target J fp it tn) (st:tn 0 s.heap) (hf:∀b∈fp,JR X pins H b)
   (hb:∀C s₂ H₂ fp pins,PG (Yz X N' scope C s₂ H₂ fp pins) target g/\MH (Yz X N' scope C s₂ H₂ fp pins) ifs tt/\PE (Yz X N' scope C s₂ H₂ fp pins) elt te)
   (h:∀D,H D=none->X2 J g tt te D (Ng ix σ) H (Q D))
   (fin:∀(D C:Addr) (H':Hp) (s':Shared) (m:Str->Option Value),s.heap.objs.size<=C->H' C=none->s'.heap.Ns C m->qD X pins σ H' s'->Q D H'->RR (.ref D) C (.ok .next) s'):
   wpAny (model X.prog X.w) X.A (newList []) (λacc s₃=>wpAny (model X.prog X.w) X.A (newFunctionEnv scope X.env.globals (qN X.env scope.names []) [] X.env.qual none .none (some X.env)) (λcenv s₄=>
     codeAny (model X.prog X.w) X.A (.compStart (.ListComp elt [⟨target,iter,ifs,0⟩] scope pos) 0 (.ref it) acc {cenv with scope:=relabel scope X.env}) (RR acc cenv.locals) s₄) E s₃) E s:=by
 have hfo:∀b∈fp,b < s.heap.objs.size:=λb hb=>by
   obtain⟨o,e,_⟩:=T.obj _ _ st b hb
   exact tQ e
 refine wpAny_newObj_type (wpAny_newFunctionEnv S.cellH (by intro y hy;simp at hy) (λh₁ hns₁ hsb₁=>?_) S.kind)
 dsimp only at hns₁ hsb₁ ⊢
 generalize hH2:s.heap.push {cls:=.type "list",dict:=none,data:=.seq ([]:List Value).toArray}=H2 at hns₁ hsb₁ ⊢
 have hC:H2.objs.size=s.heap.objs.size+1:=by rw[<-hH2,zbn]
 have hDC:s.heap.objs.size≠H2.objs.size:=by rw[hC];exact zab (zaI _)
 have hCle:s.heap.objs.size<=H2.objs.size:=by rw[hC];exact Nat.le_succ _
 have below:∀b,b < s.heap.objs.size->b≠H2.objs.size:=λb hb=>by rw[hC];exact zab (zbS hb)
 have old:∀b o,s.heap.get? b=some o->h₁.get? b=some o:=λb o e=>hsb₁.extBut b o (below b (tQ e)) (tG _ (hH2▸tG _ e))
 have hacc:h₁.get? s.heap.objs.size=some {cls:=.type "list",data:=.seq #[] 0}:=hsb₁.extBut _ _ hDC (tG _ (hH2▸tY _ rfl))
 obtain⟨W,⟨m0,w0⟩,turn⟩:=h s.heap.objs.size (I.hok.fresh (tF _))
 have I1:qD (Yz X N' scope H2.objs.size s H fp pins) [] (Ng ix σ) (upd H s.heap.objs.size (.lst [])) {s with heap:=h₁,toks:=s.toks+([]:List (Str×Value)).length}:=
   yL S I hf hfo (tF _) hCle hDC old hns₁ hacc
 have st₁:tn 0 h₁:=T.keep _ _ _ st λb hb o e=>old b o e
 have fpn:∀b∈fp,(upd H s.heap.objs.size (.lst [])) b=none:=λb hb=>by
   rw[qj (zab (hfo b hb))]
   exact(hf b hb).1
 obtain⟨hg,htt,hte⟩:=hb H2.objs.size s H fp pins
 have okY:=I1.ok
 have stat:∀{H':Hp},(∀b∈fp,H' b=none)->∀b∈fp,JR (Yz X N' scope H2.objs.size s H fp pins) [] H' b:=λ{H'} hn b hb=>
   ⟨hn b hb,(okY.exf b hb).1,okY.exfs b hb,.inl hb,(okY.exf b hb).2,λp hp=>by
     have hp':p∈X.pn++pins:=by
       have:p∈(X.pn++pins)++[]:=hp
       simpa using this
     exact(hf b hb).2.2.2.2.2 p hp'⟩
 have loop:codeAny (model X.prog X.w) X.A (.compLoop (.ListComp elt [⟨target,iter,ifs,0⟩] scope pos) 0 (.ref it) (.ref s.heap.objs.size) (compEnvC scope (qN X.env scope.names []) H2.objs.size X.env))
     (RR (.ref s.heap.objs.size) H2.objs.size) {s with heap:=h₁,toks:=s.toks+([]:List (Str×Value)).length}:=by
   refine Vl (λn s'=>∃i σ' H',qD (Yz X N' scope H2.objs.size s H fp pins) [] σ' H' s'/\tn i s'.heap/\(∀b∈fp,H' b=none)/\W i n σ' H') ?_ m0 ⟨0,_,_,I1,st₁,fpn,w0⟩
   rintro n s3 ⟨i,σ3,H3,I3,st3,fr3,w3⟩
   rcases turn i n σ3 H3 w3 with ⟨stop,qn⟩ | ⟨go,NN,hNN,step⟩
   . refine jl (T.done (Yz X N' scope H2.objs.size s H fp pins) rfl rfl rfl hc i [] s3 σ3 H3 _ I3 (stat fr3) st3 stop) λr s4 ⟨hr,I4⟩=>?_
     subst hr
     obtain⟨mm,hnm,_⟩:=I4.loc
     exact fin _ _ H3 s4 mm hCle I4.free hnm (um I hf I4) qn
   . refine jl (T.item (Yz X N' scope H2.objs.size s H fp pins) rfl rfl rfl hc i [] s3 σ3 H3 _ I3 (stat fr3) st3 go) λr s4 ⟨u,hr,h4⟩=>?_
     subst hr
     refine jl h4 λ_ s5 ⟨x,H5,I5,r5,y5,st5,fr5⟩=>?_
     have I5':=I5.pinned (stat fr5) (T.obj _ _ st5)
     refine jl (hg _ s5 σ3 H5 x u _ I5' r5 (step x H5 y5)) λ_ s6 ⟨σ6,H6,I6,q6⟩=>?_
     refine jl (htt _ s6 σ6 H6 _ I6 q6) λok s7 ⟨H7,I7,q7⟩=>?_
     have again:∀{σ8:St} {H8:Hp} {s8:Shared},qD (Yz X N' scope H2.objs.size s H fp pins) ([]++Xt fp s5.heap) σ8 H8 s8->NN σ8 H8->
         ∃m,m < n/\∃i σ' H',qD (Yz X N' scope H2.objs.size s H fp pins) [] σ' H' s8/\tn i s8.heap/\(∀b∈fp,H' b=none)/\W i m σ' H':=λ{σ8 H8 s8} I8 n8=>by
       obtain⟨m',hm,w8⟩:=hNN σ8 H8 n8
       refine⟨m',hm,i+1,σ8,H8,I8.unpinned,T.keep _ _ _ st5 λb hb o e=>(I8.pin (b,o) (tM _ (tM _ (J0 hb e)))).1,λb hb=>?_,w8⟩
       obtain⟨o,e,d⟩:=T.obj _ _ st5 b hb
       exact(I8.pin (b,o) (tM _ (tM _ (J0 hb e)))).2.1
     cases ok with
     | false=>
       rw[if_neg tP]at q7 ⊢
       exact again I7 q7
     | true=>
       rw[if_pos rfl]at q7 ⊢
       refine jl (hte _ s7 σ6 H7 _ I7 q7) λv s8 ⟨y,H8,I8,r8,q8⟩=>?_
       obtain⟨ys,hy,hz,q8⟩:=q8
       refine jl (QZ (X:=Yz X N' scope H2.objs.size s H fp pins) _ s8 σ6 H8 (.ref s.heap.objs.size) [y] (.ref s.heap.objs.size) [v] (λ_ H9=>NN σ6 H9) I8 rfl (.cons r8 .nil) ⟨_,ys,y,rfl,rfl,hy,hz,q8⟩) λ_ s9 ⟨_,H9,I9,_,q9⟩=>?_
       exact again I9 q9
 exact codeAny_compStart_list loop (T.self X.A 0 _ _ _ st₁ loop)
theorem qan {elt iter target:Expr} {ifs:List Expr} {pos:Pos} {wi:TI} {g:TG} {tt:TT} {te:TE} (hc:X.calm=true) (S:Qk X N' ix scope) (hi:PI X target iter wi)
   (hb:∀C s₂ H₂ fp pins,PG (Yz X N' scope C s₂ H₂ fp pins) target g/\MH (Yz X N' scope C s₂ H₂ fp pins) ifs tt/\PE (Yz X N' scope C s₂ H₂ fp pins) elt te)
   (hs:∀x,foldedSetIterable iter X.env x=pure x:=by intro _;rfl):PE X (.ListComp elt [⟨target,iter,ifs,0⟩] scope pos) (tLC wi ix g tt te):=by
 intro pins s σ H Q I h
 rw[eval_ListComp]
 refine wpAny_comprehension_free (use:=none) rfl hs (QH (S.freeH I.ok)) S.kind S.locH ?_
 refine jl (hi pins s σ H _ I h) λxv s1 h1=>jl h1 λitv s2 h2=>?_
 obtain⟨it,fp,tn,J,H2,e,I2,T,st2,f2,q2⟩:=h2
 subst e
 refine WC (RR:=λacc C=>compPost (model X.prog X.w) X.A X.xe none (EP X pins σ Q) acc C) (Q:=λD H'=>Q (.ref D) H') hc S I2 T st2 f2 hb q2 ?_
 intro D C H' s' m hC hn hm I' q
 exact⟨m,hm,λh' sb=>⟨.ref D,H',ul I2 I' hC hn sb,rfl,q⟩⟩
theorem j6 {elt iter target:Expr} {ifs:List Expr} {pos:Pos} {wi:TI} {g:TG} {tt:TT} {te:TE} (hc:X.calm=true) (S:Qk X N' ix scope) (hi:JI X target iter wi) (hb:∀C s₂ H₂ fp pins,JG (Yz X N' scope C s₂ H₂ fp pins) target g/\uW (Yz X N' scope C s₂ H₂ fp pins) ifs tt/\JE (Yz X N' scope C s₂ H₂ fp pins) elt te) (hs:∀x,foldedSetIterable iter X.env x=pure x:=by intro _;rfl):JE X (.ListComp elt [⟨target,iter,ifs,0⟩] scope pos) (tLC wi ix g tt te):=.of (qan hc S hi.to (λC s₂ H₂ fp pins=>⟨(hb C s₂ H₂ fp pins).1.to,(hb C s₂ H₂ fp pins).2.1.to,(hb C s₂ H₂ fp pins).2.2.to⟩) hs)
theorem x9 {i:Nat} {x:Str} {elt iter target:Expr} {ifs:List Expr} {pos spos px:Pos} {wi:TI} {g:TG} {tt:TT} {te:TE} (hN:X.N.Nodup) (hxi:X.N[i]?=some x) (hx:Mx X.env.scope x) (hc:X.calm=true) (S:Qk X N' ix scope) (hi:PI X target iter wi)
   (hb:∀C s₂ H₂ fp pins,PG (Yz X N' scope C s₂ H₂ fp pins) target g/\MH (Yz X N' scope C s₂ H₂ fp pins) ifs tt/\PE (Yz X N' scope C s₂ H₂ fp pins) elt te)
   (hsw:swapsWith (.ListComp elt [⟨target,iter,ifs,0⟩] scope pos) (some (.Name x px)) spos.line X.env=pure true:=by rfl)
   (hs:∀x,foldedSetIterable iter X.env x=pure x:=by intro _;rfl) (hf:X.fn x=true\/X.env.scope.names.lookup x=some .local:=by first | exact .inl rfl | exact .inr rfl | assumption):
   PS X (.Assign [.Name x px] (.ListComp elt [⟨target,iter,ifs,0⟩] scope pos) spos) (Kb (tLC wi ix g tt te) (JN i)):=by
 intro pins s σ H D I h
 rw[exec_Assign_Name_used _ _ _ _ hsw]
 refine wpAny_bind (wpAny_standAt (wpAny_bind ?_))
 show wpAny _ X.A (do let _ <-comprehension (.ListComp elt [⟨target,iter,ifs,0⟩] scope pos) scope X.env _ (newList []) false (eval iter X.env) (some (assign (.Name x px) X.env))) _ _ s
 refine wpAny_bind (jl (wpAny_comprehension_free (use:=some (assign (.Name x px) X.env)) (Q:=λ_ s'=>SP X pins D .next s') rfl hs (QH (S.freeH I.ok)) S.kind S.locH ?_) λ_ s' hq=>wpAny_pure (wpAny_pure hq))
 refine jl (hi pins s σ H _ I h) λxv s1 h1=>jl h1 λitv s2 h2=>?_
 obtain⟨it,fp,tn,J,H2,e,I2,T,st2,f2,q2⟩:=h2
 subst e
 refine WC (RR:=λacc C=>compPost (model X.prog X.w) X.A X.xe (some (assign (.Name x px) X.env)) (λ_ s'=>SP X pins D .next s') acc C) (Q:=λD' H'=>JN i (.ref D') σ H' D.nx) hc S I2 T st2 f2 hb q2 ?_
 intro D' C H' s' m hC hn hm I' q
 show wpAny _ X.A (assign (.Name x px) X.env (.ref D')) _ _ _
 refine wpAny_assign_Name (zS I' hN hxi hx (v:=.ref D') rfl (λs'' I'' hch=>?_) hf)
 obtain⟨a,sb,ha⟩:=hch
 have hCa:C≠a:=by
   rcases ha with z | z
   . rw[z];exact zbK (tT I2.lt hC)
   . intro e
     obtain⟨v,qc⟩:=I2.cell x a z
     exact absurd (tT qc.lt (by rw[<-e];exact hC)) (zaw _)
 refine⟨m,hm.sameBut sb hCa,λh' sb'=>?_⟩
 refine⟨_,H',?_,q⟩
 refine I''.turned (it:=C) (t':=s''.toks) (λb o hb e=>(sb'.2 b hb).trans e) hn (zbK (tT I2.lt hC)) (.inr (zag I2.sz hC)) (λy c e z=>?_) λp hp z=>?_
 . obtain⟨v,qc⟩:=I2.cell y c e
   exact absurd (tT qc.lt (by rw[z];exact hC)) (zaw _)
 . exact absurd (tT (tQ (I2.pin p hp).1) (by rw[z];exact hC)) (zaw _)
theorem Jb {i:Nat} {x:Str} {elt iter target:Expr} {ifs:List Expr} {pos spos px:Pos} {wi:TI} {g:TG} {tt:TT} {te:TE} (hN:X.N.Nodup) (hxi:X.N[i]?=some x) (hx:Mx X.env.scope x) (hc:X.calm=true) (S:Qk X N' ix scope) (hi:JI X target iter wi) (hb:∀C s₂ H₂ fp pins,JG (Yz X N' scope C s₂ H₂ fp pins) target g/\uW (Yz X N' scope C s₂ H₂ fp pins) ifs tt/\JE (Yz X N' scope C s₂ H₂ fp pins) elt te) (hsw:swapsWith (.ListComp elt [⟨target,iter,ifs,0⟩] scope pos) (some (.Name x px)) spos.line X.env=pure true:=by rfl) (hs:∀x,foldedSetIterable iter X.env x=pure x:=by intro _;rfl) (hf:X.fn x=true\/X.env.scope.names.lookup x=some .local:=by first | exact .inl rfl | exact .inr rfl | assumption):JS X (.Assign [.Name x px] (.ListComp elt [⟨target,iter,ifs,0⟩] scope pos) spos) (Kb (tLC wi ix g tt te) (JN i)):=.of (x9 hN hxi hx hc S hi.to (λC s₂ H₂ fp pins=>⟨(hb C s₂ H₂ fp pins).1.to,(hb C s₂ H₂ fp pins).2.1.to,(hb C s₂ H₂ fp pins).2.2.to⟩) hsw hs hf)
end
def Its (x:Str):It:=⟨λi _=>i < x.cps.size,λi H v H'=>H'=H/\∃c,x.cps[i]?=some c/\v=.str ⟨#[c]⟩,λi _=>i=x.cps.size⟩
theorem Vy {P:Program} {w:World} {K:PySem.W.Frag} {tg:Expr} (it:Addr) (x:Str) (t:Tok) (ty:String)
   (hn:["enumerate","zip","dict_itemiterator","dict_reverseitemiterator","odict_iterator","itertools.zip_longest","itertools.pairwise"].contains ty=false)
   (hW:∀A:Around,A.handled=none->Walks P w A it [it] [it] x.cps.size (SignAt x) (λi h=>h.IsStrIter it ty x t i))
   (hself:∀(A:Around) (i:Nat) (s:Shared) (Q:Value->Shared->Prop) (E:Value->Shared->Prop),s.heap.IsStrIter it ty x t i->Q (.ref it) s->wpAny (model P w) A (pyIter (.ref it)) Q E s):
   Up P w K tg (Its x) [it] it (λi h=>h.IsStrIter it ty x t i) where
 mem:=by simp
 obj:=λi h st b hb=>by
   have e:b=it:=by simpa using hb
   subst e
   obtain⟨o,e,c,d⟩:=st
   exact⟨o,e,λv z=>by rw[d]at z;cases z⟩
 keep:=λi h h' st k=>let ⟨o,e,r⟩:=st;⟨o,k it (by simp) o e,r⟩
 item:=by
   intro X hP hw hK hc i pins s σ H E I hf st hg
   subst hP hw hK
   obtain⟨f0,f1,f2,f3,f4,f5⟩:=hf it (by simp)
   refine(hW X.A (I.ok.hd hc)).item i s _ _ hg st λv h' tk hv st' kk=>?_
   obtain⟨c,u,hcu,rfl⟩:=hv
   have I1:qD X pins σ H {s with heap:=h',toks:=tk}:=I.turned (λb o hb e=>kk b o (by simpa using hb) e) f0 f1 f3 f4 f5
   obtain⟨o,e,c1,d1⟩:=id st'
   exact⟨_,rfl,V9 (s:={s with heap:=h',toks:=tk}) e c1 d1 hn ⟨.str ⟨#[c]⟩,H,I1,⟨u,rfl⟩,⟨rfl,c,hcu,rfl⟩,st',λb hb=>(hf b hb).1⟩⟩
 done:=by
   intro X hP hw hK hc i pins s σ H E I hf st hg
   subst hP hw hK
   obtain⟨f0,f1,f2,f3,f4,f5⟩:=hf it (by simp)
   have hi:i=x.cps.size:=hg
   subst hi
   exact(hW X.A (I.ok.hd hc)).done s _ _ st λh' tk kk=>⟨rfl,I.turned (λb o hb e=>kk b o (by simpa using hb) e) f0 f1 f3 f4 f5⟩
 self:=hself
def qbN (tl:TE):TI:=λσ H R=>tl σ H λx H1=>∃y,x=.str y/\R (Its y) H1
theorem Mb {X:Cx} {tg l:Expr} {tl:TE} (hl:JE X l tl):JI X tg l (qbN tl):=.of (by
 have hl:=hl.to
 intro pins s σ H R I h
 refine jl (hl pins s σ H _ I h) λv s1 ⟨x,H1,I1,r1,q1⟩=>?_
 obtain⟨y,e,q⟩:=q1
 subst e
 obtain⟨t,rfl⟩:=r1
 have fp:∀b∈[s1.heap.objs.size],JR X pins H1 b:=λb hb=>by
   have e:b=s1.heap.objs.size:=by simpa using hb
   subst e
   exact I1.fpOk (tF _) (I1.hok.fresh (tF _))
 cases ha:y.cps.all (· < 128)
 . refine wpAny_pyIter_wide ha ?_
   exact⟨s1.heap.objs.size,[s1.heap.objs.size],_,_,H1,rfl,I1.kept (t':=s1.toks) λb o e=>tG _ e,
     Vy _ y t "str_iterator" (by decide) (λA hA=>Walks.strWide hA _ y t) (λA i s Q E st q=>wpAny_pyIter_striter_wide st q),⟨_,tY _ rfl,rfl,rfl⟩,fp,q⟩
 . refine wpAny_pyIter_ascii ha ?_
   exact⟨s1.heap.objs.size,[s1.heap.objs.size],_,_,H1,rfl,I1.kept (t':=s1.toks) λb o e=>tG _ e,
     Vy _ y t "str_ascii_iterator" (by decide) (λA hA=>Walks.strAscii hA _ y t) (λA i s Q E st q=>wpAny_pyIter_striter_ascii st q),⟨_,tY _ rfl,rfl,rfl⟩,fp,q⟩)
section
variable {K:PySem.W.Frag} {g:TG} {tt:TT} {te:TE} {D a:Addr} {σ:St} {H:Hp} {Q:Hp->Prop}
def Ul (tt:TT) (te:TE) (D:Addr) (N:St->Hp->Prop):St->Hp->Prop:=λσ2 H3=>tt σ2 H3 λb H4=>
 if b=true then te σ2 H4 λv H5=>∃ys,H5 D=some (.lst ys)/\ys.length < sizeLine/\N σ2 (upd H5 D (.lst (ys++[v]))) else N σ2 H4
theorem Vo {J:It} {n:Nat} (Pv:Nat->St->Hp->Prop) (h0:Pv 0 σ (upd H D (.lst [])))
   (go:∀i σ' H',i < n->Pv i σ' H'->J.go i H'/\∀x H2,J.yld i H' x H2->g x σ' H2 (Ul tt te D (Pv (i+1)))) (stop:∀σ' H',Pv n σ' H'->J.stop n H'/\Q H'):X2 J g tt te D σ H Q:=by
 refine⟨λi m σ' H'=>m=n - i/\i<=n/\Pv i σ' H',⟨n,by simp,zay _,h0⟩,?_⟩
 rintro i m σ' H' ⟨rfl,hi,p⟩
 by_cases hlt:i < n
 . obtain⟨h1,h2⟩:=go i σ' H' hlt p
   exact .inr ⟨h1,Pv (i+1),λσ2 H2 p2=>⟨n - (i+1),by omega,rfl,hlt,p2⟩,h2⟩
 . have e:i=n:=by omega
   subst e
   exact .inl (stop σ' H' p)
theorem JQ {lo:Int} {n:Nat} (Pv:Nat->St->Hp->Prop) (h0:Pv 0 σ (upd H D (.lst [])))
   (hs:∀i σ' H',i < n->Pv i σ' H'->g (.int (lo+i)) σ' H' (Ul tt te D (Pv (i+1)))) (hd:∀σ' H',Pv n σ' H'->Q H'):X2 (R7 lo n) g tt te D σ H Q:=
 Vo (n:=n) Pv h0 (λi σ' H' hi p=>⟨hi,λx H2 y=>by
   obtain⟨e,y⟩:=y
   subst e y
   exact hs i σ' H2 hi p⟩) λσ' H' p=>⟨tF _,hd σ' H' p⟩
theorem jW {xs:List V} (Pv:Nat->St->Hp->Prop) (h0:Pv 0 σ (upd H D (.lst []))) (hl:∀i σ' H',i<=xs.length->Pv i σ' H'->SqL K H' a xs)
   (hs:∀i x σ' H',xs[i]?=some x->Pv i σ' H'->g x σ' H' (Ul tt te D (Pv (i+1)))) (hd:∀σ' H',Pv xs.length σ' H'->Q H'):X2 (Mz K a) g tt te D σ H Q:=
 Vo (n:=xs.length) Pv h0 (λi σ' H' hi p=>⟨⟨xs,xs[i],hl i σ' H' (zak hi) p,by simp [hi]⟩,λx H2 y=>by
   obtain⟨e,y⟩:=y
   subst e
   exact hs i x σ' _ (y xs (hl i σ' _ (zak hi) p)) p⟩) λσ' H' p=>⟨⟨xs,hl _ σ' H' (tF _) p,tF _⟩,hd σ' H' p⟩
theorem kx {xs:List V} (Pv:Nat->St->Hp->Prop) (h0:Pv 0 σ (upd H D (.lst []))) (hl:∀i σ' H',i<=xs.length->Pv i σ' H'->Y5 K H' a xs)
   (hs:∀i x σ' H',xs[i]?=some x->Pv i σ' H'->g x σ' H' (Ul tt te D (Pv (i+1)))) (hd:∀σ' H',Pv xs.length σ' H'->Q H'):X2 (My K a) g tt te D σ H Q:=
 Vo (n:=xs.length) Pv h0 (λi σ' H' hi p=>⟨⟨xs,xs[i],hl i σ' H' (zak hi) p,by simp [hi]⟩,λx H2 y=>by
   obtain⟨e,y⟩:=y
   subst e
   exact hs i x σ' _ (y xs (hl i σ' _ (zak hi) p)) p⟩) λσ' H' p=>⟨⟨xs,hl _ σ' H' (tF _) p,tF _⟩,hd σ' H' p⟩
theorem Ru {x:Str} (Pv:Nat->St->Hp->Prop) (h0:Pv 0 σ (upd H D (.lst [])))
   (hs:∀i c σ' H',x.cps[i]?=some c->Pv i σ' H'->g (.str ⟨#[c]⟩) σ' H' (Ul tt te D (Pv (i+1)))) (hd:∀σ' H',Pv x.cps.size σ' H'->Q H'):X2 (Its x) g tt te D σ H Q:=
 Vo (n:=x.cps.size) Pv h0 (λi σ' H' hi p=>⟨hi,λv H2 y=>by
   obtain⟨e,c,hc,rfl⟩:=y
   subst e
   exact hs i c σ' _ hc p⟩) λσ' H' p=>⟨rfl,hd σ' H' p⟩
end
section
variable {X:Cx}
theorem XW:∀(bs:List Bool),(zac bs.length).all (λi=>bs.getD i false)=bs.all id:=by
 intro bs
 induction bs with
 | nil=>rfl
 | cons b bs ih=>
   rw[zat,List.range_succ_eq_map,zde,zcO,zde]
   have:((λi=>(b::bs).getD i false) ∘ zcU)=λi=>bs.getD i false:=by
     funext i
     simp [Function.comp]
   rw[this,ih]
   simp
theorem Yl (hc:X.calm=true):QR X (.builtin "all") (λxs H Q=>∃(p:Addr) (bs:List Bool),xs=[.ref p]/\SqL X.K H p (bs.map V.bl)/\Q (.bl (bs.all id)) H):=by
 intro pins s σ H xs us Q I r h
 obtain⟨p,bs,rfl,hq,q⟩:=h
 obtain⟨u,rfl,rx⟩:=Jl r
 cases rx
 obtain⟨its,rv,pl,hz⟩:=I.list hq
 have hlt:p < s.heap.objs.size:=by
   obtain⟨o,n,e,_⟩:=pl
   exact tQ e
 have hn:its.toArray.size=bs.length:=by
   have:=rv.length
   rw[tj]at this
   simp only[t9]
   omega
 have hh:X.A.in1.handled=none:=I.ok.hd hc
 refine call_all_walk (wpAny_pyIter_list pl.isList ?_)
 refine⟨s.heap.objs.size,[s.heap.objs.size,p],[s.heap.objs.size],its.toArray.size,λi v=>its.toArray[i]?=some v,_,λi=>bs.getD i false,rfl,Walks.list hh s.heap.objs.size p (zab hlt) its.toArray,
   ⟨⟨_,tY _ rfl,rfl,rfl⟩,pl.isList.at λo e=>tG _ e⟩,?_,λh' tk hk=>?_⟩
 . intro i v s' Q' E' hP hQ
   have hi:its[i]?=some v:=by simpa using hP
   have hb:∃b,bs[i]?=some b/\v=Value.bool b:=by
     cases e:bs[i]? with
     | none=>
       exfalso
       have h1:(bs.map V.bl)[i]?=none:=by rw[tI,e];rfl
       rw[qJ.none_of rv h1]at hi
       cases hi
     | some b=>
       have h1:(bs.map V.bl)[i]?=some (V.bl b):=by rw[tI,e];rfl
       obtain⟨u,hu,ru⟩:=rv.get h1
       rw[hi]at hu
       cases hu
       exact⟨b,rfl,ru⟩
   obtain⟨b,e,rfl⟩:=hb
   refine wpAny_truthy_bool ?_
   have e2:bs.getD i false=b:=by rw[zas,e];rfl
   have hQ':Q' (bs.getD i false) s':=hQ
   rw[e2]at hQ'
   exact hQ'
 . rw[hn,XW]
   refine⟨.bl (bs.all id),H,?_,rfl,q⟩
   exact I.kept (h':=h') (t':=tk) λb o e=>hk b o (by
     intro z
     have z':b=s.heap.objs.size:=by simpa using z
     exact absurd (tQ e) (by rw[z'];exact zaw _)) (tG _ e)
theorem UC {ys:List Str}:∀{us:List Value},qJ (ys.map V.str) us->StrsAre us ys:=by
 induction ys with
 | nil=>
   intro us r
   rw[zcw]at r
   cases r
   exact .nil
 | cons y ys ih=>
   intro us r
   rw[tW]at r
   cases r with
   | cons a b=>
     obtain⟨t,rfl⟩:=a
     exact .cons _ _ (ih b)
def qai (K:PySem.W.Frag):V->List V->Hp->VK->Prop:=λx xs H Q=>∃(sep:Str) (p:Addr) (ys:List Str),x=.str sep/\xs=[.ref p]/\SqL K H p (ys.map V.str)/\(ys.map (·.length)).sum+ys.length*sep.length<=16777216/\Q (.str (Txt.join sep ys)) H
theorem Gq:MJ X "str.join" (qai X.K):=by
 intro pins s σ H x xs v us Q I rx rv h
 obtain⟨sep,p,ys,rfl,rfl,hq,hz,q⟩:=h
 obtain⟨t,rfl⟩:=rx
 obtain⟨u,rfl,ru⟩:=Jl rv
 cases ru
 obtain⟨its,r',pl,_⟩:=I.list hq
 exact join_list pl.isList (by simpa using UC r') hz λt' k=>⟨.str _,H,I.tok k,⟨t',rfl⟩,q⟩
def qaQ:V->Value
 | .ty n=>.type n
 | .ref a=>.ref a
 | _=>.none
def qaH:V->Bool
 | .ty _=>true
 | .ref _=>true
 | _=>false
def qaj (K:PySem.W.Frag):List V->Hp->VK->Prop:=λxs H Q=>∃x c t b,xs=[x,c]/\qaH c=true/\Ym K H x t/\zaT K t (qaQ c)=some b/\Q (.bl b) H
theorem j9:QR X (.builtin "isinstance") (qaj X.K):=by
 intro pins s σ H xs us Q I r h
 obtain⟨x,c,t,b,rfl,hc,ty,e,q⟩:=h
 obtain⟨u,w',rfl,ru,rw'⟩:=y7 r
 have ew:w'=qaQ c:=by
   cases c with
   | ty n=>exact rw'
   | ref a=>exact rw'
   | _=>cases hc
 subst ew
 exact yI I ru ty e λtk=>⟨.bl b,H,I.tok tk,rfl,q⟩
end
section
variable {prog:Program} {w:World} {A:Around} {E:Value->Shared->Prop} {h:Heap} {g:Array GenState} {d:Drawn} {t:Nat} {os:OsState}
variable {nm q:Str} {C N fI:Addr} {bs bm bmB bmN:List Value} {hdct:Bool} {sn:List Str} {sub:List Value} {ab:Bool} {col:Option Bool} {dd:Option Addr} {k0 k1 k2 k3 k5:Option Value} {B Bn newId nid initId inN:String} {rest:List Value} {oI:Obj}
end
open PySem PySem.W PyProof.Rows Builtin Builtin.ObjectAttr
structure ECls (K:Frag) (C:Addr) (bm:List Value):Prop where
 ga:findIn K (.ref C) "__getattribute__"=some (some (.builtin "BaseException.__getattribute__"))
 gt:findIn K (.ref C) "__getattr__"=some none
 sa:findIn K (.ref C) "__setattr__"=some (some (.builtin "object.__setattr__"))
 hd:hasDictIn K C=true
 mr:∃cd,clsIn K C=some cd/\cd.mro=.ref C::bm
 mb:mroIn K C (.type "BaseException")=some true
 mo:mroIn K C (.type "object")=some true
 cl:findIn K (.ref C) "__class__"=some (some (.builtin "object.__class__"))
section
variable {prog:Program} {w:World} {A:Around} {E:Value->Shared->Prop} {s:Shared} {K:Frag} {x C:Addr} {ox:Obj} {od:Option Obj} {bm:List Value} {name:Str} {v:Value}
end
open PySem PySem.W PyProof.Rows Builtin Builtin.ObjectAttr
section
variable {K:Frag} {x C:Addr} {ox odd:Obj} {bm:List Value}
end
def qaB:List Value:=[.type "ValueError",.type "Exception",.type "BaseException",.type "object"]
structure EMk (K:PySem.W.Frag) (C f:Addr) (bm:List Value):Prop where
 obj:∃nm q N bs hdct sn sub ab col dd k0 k1 k2 k3 k5,K.lookup C=some (excClassObj nm q C N bs bm hdct sn sub ab col dd k0 k1 k2 k3 k5 "ValueError.__new__")
 tail:∀h:Heap,K.In h->OwnTail h qaB bm
 init:zaf K (.ref C) "__init__"=some (some (.ref f))
 fn:zaS K (.ref f)=true
 kp:zaH K (.ref C)=true
section
variable {P:Program} {w:World} {H:Hp} {h h':Heap} {e C dx:Addr}
end
section
variable {X:Cx} {pins:List (Addr×Obj)} {σ:St} {H:Hp} {s:Shared} {e C dx:Addr} {f:Str} {bm:List Value} {y v:V} {u:Value} {A:Around} {E:Value->Shared->Prop}
end
section
variable {X:Cx} {CX:Y6} {k:Nat} {C fI:Addr} {fd:FuncData} {ps:List Str} {sp:Sp} {E:XK} {x f:Str} {o e value:Expr} {es:List Expr} {p pos pos':Pos} {ta tv:TE} {t:TA} {bm:List Value}
end
def neL (xs ys:List V):Bool:=if xs.length=ys.length then !((zac xs.length).all λj=>Rl (xs.getD j .non) (ys.getD j .non)) else true
mutual
inductive DV (K:PySem.W.Frag) (H:Hp):V->PyData->Prop
 | non:DV K H .non .none
 | bl (b:Bool):DV K H (.bl b) (.bool b)
 | int (i:Int):DV K H (.int i) (.int i)
 | str (x:Str):DV K H (.str x) (.str x)
 | lst {a:Addr} {xs:List V} {ds:List PyData}:SqL K H a xs->DVs K H xs ds->DV K H (.ref a) (.list ds)
 | tup {a:Addr} {xs:List V} {ds:List PyData}:Y5 K H a xs->DVs K H xs ds->DV K H (.ref a) (.tuple ds)
inductive DVs (K:PySem.W.Frag) (H:Hp):List V->List PyData->Prop
 | nil:DVs K H [] []
 | cons {x:V} {xs:List V} {d:PyData} {ds:List PyData}:DV K H x d->DVs K H xs ds->DVs K H (x::xs) (d::ds)
end
section
variable {X:Cx} {pins:List (Addr×Obj)} {σ:St} {H:Hp} {s:Shared}
mutual
theorem DV.reads (I:qD X pins σ H s):∀{x:V} {d:PyData},DV X.K H x d->∀{u:Value},qQ x u->∃as,Reads s.heap u d as
 | _,_,.non,u,r=>by cases (show u=Value.none from r);exact⟨_,.none⟩
 | _,_,.bl b,u,r=>by cases (show u=Value.bool b from r);exact⟨_,.bool b⟩
 | _,_,.int i,u,r=>by obtain⟨t,q⟩:=(show ∃t,u=Value.int i t from r);subst q;exact⟨_,.int i t⟩
 | _,_,.str x,u,r=>by obtain⟨t,q⟩:=(show ∃t,u=Value.str x t from r);subst q;exact⟨_,.str x t⟩
 | _,_,.lst (a:=a) hq hs,u,r=>by
   cases (show u=Value.ref a from r)
   obtain⟨its,rv,⟨o,n,e,hc,hd,hda⟩,hz⟩:=I.list hq
   obtain⟨as,ra⟩:=DVs.reads I hs rv
   exact⟨_,.list e hc hda (by simpa using ra)⟩
 | _,_,.tup (a:=a) hq hs,u,r=>by
   cases (show u=Value.ref a from r)
   obtain⟨its,rv,⟨o,e,hc,n,hda⟩,hz⟩:=I.tuple hq
   obtain⟨as,ra⟩:=DVs.reads I hs rv
   exact⟨_,.tuple e hc hda (by simpa using ra)⟩
theorem DVs.reads (I:qD X pins σ H s):∀{xs:List V} {ds:List PyData},DVs X.K H xs ds->∀{us:List Value},qJ xs us->∃as,ReadsAll s.heap us ds as
 | _,_,.nil,_,.nil=>⟨_,.nil⟩
 | _,_,.cons h hs,_,.cons r rs=>by
   obtain⟨as,a⟩:=DV.reads I h r
   obtain⟨bs,b⟩:=DVs.reads I hs rs
   exact⟨_,.cons a b⟩
end
end
section
variable {X:Cx}
def qa2 (i j:Int):Prop:=0 < j/\j.natAbs < 2^200
theorem wt:ZI X (binaryOp .FloorDiv) (rI qa2 λi j=>.int (i / j)):=NG λi j _ _ _ _ _ hc q=>by
 have h1:(0:Int) < j:=hc.1
 have h3:j.natAbs.log2 < 200:=(Nat.log2_lt (by omega)).mpr hc.2
 exact floordiv_int (by omega) (by rw[zbV i (by omega)];exact q) (.inl (PyProof.noPylong_of_log2 (zdP h3 (by decide))))
theorem yx:MJ X "int.bit_length" (λx xs H Q=>∃i,x=.int i/\xs=[]/\Q (.int (Builtin.Int.intBits i)) H):=by
 intro pins s σ H x xs v us Q I rx rv h
 obtain⟨i,rfl,rfl,q⟩:=h
 obtain⟨t,rfl⟩:=rx
 cases rv
 exact call_int_bit_length ⟨.int _,H,I.tok _,⟨_,rfl⟩,q⟩
end
section
variable {X:Cx} {tg:Expr}
end
section
variable {X:Cx} {st:Stmt} {rest:List Stmt} {t u:TS}
end
end L2
namespace PySem
section
variable {prog:Program} {w:World} {A:Around} {E:Value->Shared->Prop} {s:Shared}
def Xs (x n c:Int):Obj:={cls:=.type "range_iterator",data:=.fields #[rawInt x,rawInt n,rawInt c]}
theorem vT (n:Nat):Builtin.Range.rangeSize 0 n 1=n:=by
 unfold Builtin.Range.rangeSize
 rw[if_pos (by decide)]
 split<;>omega
theorem XU {r:Addr} {a b c:Int} {t u v:Tok} {Q:Value->Shared->Prop} (hr:IsRange s.heap r a b c t u v)
   (hs:(Builtin.Range.rangeFitsLong a&&Builtin.Range.rangeFitsLong b&&Builtin.Range.rangeFitsLong c&&Builtin.Range.rangeFitsLong (-c)&&Builtin.Range.rangeFitsLong (a - c)&&Builtin.Range.rangeFitsLong (Builtin.Range.rangeSize a b c))=true)
   (h:Q (.ref s.heap.objs.size) {s with heap:=s.heap.push (Xs (a+(Builtin.Range.rangeSize a b c - 1)*c) (Builtin.Range.rangeSize a b c) (-c))}):wpAny (model prog w) A (call (.builtin "range.__reversed__") [.ref r]) Q E s:=by
 have ty:s.TypeIs (.ref r) "range":=⟨_,hr,rfl⟩
 refine wpAny_call_entry F.slot_range_reversed ty F.entry_range_reversed ?_ (F.args_range_reversed_1 _)
 unfold Builtin.«range.__reversed__»
 refine wpAny_bind (wpAny_of_eq (a:=Value.ref r) rfl ?_)
 refine wpAny_bind ?_
 unfold Builtin.Range.rangeFields
 refine wpAny_bind (wpAny_field hr rfl (x:=.int a t) rfl ?_)
 refine wpAny_bind (m:=asInt? (.int a t)) (wpAny_pure ?_)
 refine wpAny_bind (wpAny_field hr rfl (x:=.int b u) rfl ?_)
 refine wpAny_bind (m:=asInt? (.int b u)) (wpAny_pure ?_)
 refine wpAny_bind (wpAny_field hr rfl (x:=.int c v) rfl ?_)
 refine wpAny_bind (m:=asInt? (.int c v)) (wpAny_pure ?_)
 refine wpAny_pure ?_
 dsimp only
 rw[hs]
 simp only[Bool.not_true,zba,if_false,if_true]
 first
 | refine wpAny_bind (wpAny_newObj_type (wpAny_pure ⟨_,rfl,h⟩))
 | refine wpAny_bind (wpAny_pure (wpAny_bind (wpAny_newObj_type (wpAny_pure ⟨_,rfl,h⟩))))
theorem ZG {r:Addr} {n:Nat} {t u v:Tok} {Q:Value->Shared->Prop} (hr:IsRange s.heap r 0 n 1 t u v) (hn:n < 1048576)
   (h:Q (.ref s.heap.objs.size) {s with heap:=s.heap.push (Xs ((n:Int) - 1) n (-1))}):wpAny (model prog w) A (call (.builtin "range.__reversed__") [.ref r]) Q E s:=by
 have f:∀x:Int,-2000000<=x->x<=2000000->Builtin.Range.rangeFitsLong x=true:=λx p q=>by
   unfold Builtin.Range.rangeFitsLong
   simp
   omega
 have e:=vT n
 have hs:(Builtin.Range.rangeFitsLong 0&&Builtin.Range.rangeFitsLong (n:Int)&&Builtin.Range.rangeFitsLong 1&&Builtin.Range.rangeFitsLong (-1)&&Builtin.Range.rangeFitsLong (0 - 1)&&Builtin.Range.rangeFitsLong (Builtin.Range.rangeSize 0 n 1))=true:=by
   rw[e,f 0 (by omega) (by omega),f n (by omega) (by omega),f 1 (by omega) (by omega),f (-1) (by omega) (by omega),f (0 - 1) (by omega) (by omega)]
   rfl
 refine XU hr hs ?_
 have e2:(0:Int)+(Builtin.Range.rangeSize 0 n 1 - 1)*1=(n:Int) - 1:=by rw[e];omega
 rw[e2,e]
 exact h
end
section
variable {prog:Program} {w:World} {A:Around} {E:Value->Shared->Prop} {s:Shared}
theorem Z1 {r:Addr} {n:Nat} {t u v:Tok} {Q₁:Value->Shared->Prop} (hr:IsRange s.heap r 0 n 1 t u v) (hn:n < 1048576)
   (h:Q₁ (.ref s.heap.objs.size) {s with heap:=s.heap.push (Xs ((n:Int) - 1) n (-1))}):
   codeAny (model prog w) A (.call (.builtin "reversed.__new__") ⟨[.type "reversed",.ref r],[]⟩) (wants Q₁ E) s:=by
 have ty:s.TypeIs (.ref r) "range":=⟨_,hr,rfl⟩
 have nn:¬((Value.builtin "range.__reversed__"==Value.none)=true):=tP
 refine codeAny_of_tree (show wpAny _ A.in1 (checkBuiltinCall "reversed.__new__" ⟨[.type "reversed",.ref r],[]⟩ >>= λ_=>again (.builtin "reversed.__new__" ⟨[.type "reversed",.ref r],[]⟩)) _ _ s from
   wpAny_bind (wpAny_of_eq (F.newCall_reversed_1 (.ref r)) (wpAny_pure ⟨plainId_quiet F.plain_reversed_new _,codeAny_builtin F.entry_reversed_new ?_⟩)))
 rw[Around.under_plainId F.plain_reversed_new _];unfold Builtin.«reversed.__new__»
 refine wpAny_bind (wpAny_of_eq (newClass_reversed (.ref r)) ?_);dsimp only
 refine wpAny_bind (wpAny_of_eq (a:=()) (by kernel_rfl) (wpAny_bind (wpAny_of_eq (a:=()) (by kernel_rfl) ?_)));try dsimp only
 refine wpAny_bind (wpAny_specialOf ty F.slot_range_reversed.lookup ?_);dsimp only
 refine wpAny_bind (wpAny_of_eq (F.slot_range_reversed.bind _) ?_);dsimp only
 rw[if_neg nn]
 refine wpAny_bind (wpAny_rule (wpAny_bind (m:=runValue (.call (.builtin "range.__reversed__") ⟨[.ref r],[]⟩)) (show wpAny _ _ (call (.builtin "range.__reversed__") [.ref r]) _ _ _ from ZG hr hn ?_)))
 first | exact wpAny_pure h | exact wpAny_bind (wpAny_pure (wpAny_pure h))
theorem YA:isSubtype (.type "range_iterator") (.type "reversed")=pure false:=by rw[isSubtype_type];kernel_rfl
theorem ZF {r:Addr} {n:Nat} {t u v:Tok} {Q:Value->Shared->Prop} (hr:IsRange s.heap r 0 n 1 t u v) (hn:n < 1048576)
   (h:Q (.ref s.heap.objs.size) {s with heap:=s.heap.push (Xs ((n:Int) - 1) n (-1))}):wpAny (model prog w) A (call (.type "reversed") [.ref r]) Q E s:=by
 refine callType_other (U:="range_iterator") (Q₁:=λobj s₁=>obj=.ref s.heap.objs.size/\s₁={s with heap:=s.heap.push (Xs ((n:Int) - 1) n (-1))}) (by decide+kernel) F.create_reversed ⟨_,_,F.mro_reversed⟩ F.made_reversed YA (F.typeCall_reversed_1 _) (Z1 hr hn ⟨rfl,rfl⟩) ?_
 rintro obj s₁ ⟨rfl,rfl⟩
 exact⟨⟨_,tY _ rfl,rfl⟩,h⟩
theorem Vn {I:Addr} {x left c:Int} {Q:Value->Shared->Prop} (hit:IsRangeIter s.heap I x left c) (h:Q (.int left s.toks) {s with toks:=s.toks+1}):
   wpAny (model prog w) A (call (.builtin "range_iterator.__length_hint__") [.ref I]) Q E s:=by
 have hT:s.TypeIs (.ref I) "range_iterator":=⟨_,hit,rfl⟩
 refine wpAny_call_entry F.slot_range_iterator_length_hint hT F.entry_range_iterator_length_hint ?_ (F.args_range_iterator_length_hint_1 _)
 unfold Builtin.«range_iterator.__length_hint__»
 refine wpAny_bind (wpAny_of_eq (a:=Value.ref I) rfl ?_)
 refine wpAny_bind (wpAny_field hit rfl (x:=rawInt left) rfl ?_)
 show wpAny _ _ (do ret (<-mkInt left)) _ _ _
 exact wpAny_ret_mkInt h
structure va (P:Program) (w:World) (T:String) (I:Addr) (fp:List Addr) (n:Nat) (V:Nat->Value->Prop) (St:Nat->Heap->Prop):Prop where
 ty:∀z:Shared,St 0 z.heap->z.TypeIs (.ref I) T
 nl:(Value.type T==Value.type "list")=false
 nt:(Value.type T==Value.type "tuple")=false
 walk:∀B:Around,B.handled=none->Walks P w B I fp [I] n V St
 hint:∀(B:Around) (F:Value->Shared->Prop) (z:Shared) (R:Bool->Shared->Prop),St 0 z.heap->(∀k,R false {z with toks:=k})->wpAny (model P w) B (Builtin.List.listLengthHint (.ref I)) R F z
theorem va.list {P:Program} {T:String} {I:Addr} {fp:List Addr} {n:Nat} {V:Nat->Value->Prop} {St:Nat->Heap->Prop} (J:va P w T I fp n V St) {B:Around} {F':Value->Shared->Prop} {z:Shared} {R:Value->Shared->Prop}
   (hB:B.handled=none) (st:St 0 z.heap) (mem:I∈fp) (old:∀b∈fp,b < z.heap.objs.size) (hn:n<=1048576)
   (k:∀g tk xs c,(∀b o,b≠I->z.heap.get? b=some o->g.get? b=some o)->g.get? z.heap.objs.size=some (⟨.type "list",none,.seq xs c,#[]⟩:Obj)->ItemsOf V xs n->R (.ref z.heap.objs.size) {z with heap:=g,toks:=tk}):
   wpAny (model P w) B (call (.type "list") [.ref I]) R F' z:=by
 have nI:∀b∈fp,z.heap.objs.size≠b:=λb hb=>zbK (old b hb)
 have sI:Builtin.List.listSameRef (.ref z.heap.objs.size) (.ref I)=false:=by unfold Builtin.List.listSameRef;simp [nI I mem]
 refine callType_codes (Q₁:=λob z1=>z1={z with heap:=z.heap.push {cls:=.type "list",data:=.seq #[]}}/\ob=.ref z.heap.objs.size) F.called_list (F.typeCall_list_1 _) F.entry_list_init (code_list_new _ ⟨rfl,rfl⟩) ?_
 rintro ob z1 ⟨rfl,rfl⟩
 have a0:=tY z.heap (o:=({cls:=.type "list",data:=.seq #[]}:Obj)) rfl
 refine⟨⟨_,a0,rfl⟩,F.args_list_init_2 _ _,?_⟩
 show wpAny _ _ (Builtin.List.listItems (.ref _) >>= λys=>Builtin.List.listUpdate (.ref _) (λ_=>#[]) >>= λ_=>letGo ys.toList.reverse >>= λ_=>Builtin.List.listExtendWith (.ref _) (.ref I) .none) _ _ _
 refine wpAny_bind (show wpAny _ _ (Builtin.List.listItems (.ref _)) _ _ _ from ?_)
 unfold Builtin.List.listItems
 refine wpAny_bind (wpAny_seqItems a0 rfl (wpAny_pure (wpAny_bind ?_)))
 refine wpAny_updateSeq a0 rfl (wpAny_bind (wpAny_letGo ?_))
 have a1:=zbz (Obj.mapSeq (λ_=>(#[]:Array Value))) a0 rfl
 have keep1:∀b o,z.heap.get? b=some o->((z.heap.push {cls:=.type "list",data:=.seq #[]}).update z.heap.objs.size (Obj.mapSeq (λ_=>(#[]:Array Value)))).get? b=some o:=λb o e=>
   (zaN _ _ (zbK (tQ e))).trans (tG _ e)
 generalize hg1:(z.heap.push {cls:=.type "list",data:=.seq #[]}).update z.heap.objs.size (Obj.mapSeq (λ_=>(#[]:Array Value)))=g1 at a1 keep1
 have st1:St 0 g1:=(J.walk B hB).frame 0 _ _ st λb _ o e=>keep1 b o e
 unfold Builtin.List.listExtendWith
 refine wpAny_bind (wpAny_typeOf (J.ty {z with heap:=g1} st1) ?_)
 simp only[sI,J.nl,J.nt,Bool.or_false,zba,if_false]
 refine wpAny_bind ((J.walk B.in1.in1 hB).self 0 {z with heap:=g1} _ _ st1 ?_)
 refine wpAny_bind (wpAny_holding (J.hint B.in1.in1 _ {z with heap:=g1} _ st1 λtk=>?_))
 have run:∀(g:Heap) (c tk:Nat),St 0 g->(∀b o,z.heap.get? b=some o->g.get? b=some o)->g.get? z.heap.objs.size=some {cls:=.type "list",data:=.seq #[] c}->
     codeAny (model P w) B.in1 (.builtin "list.extend.loop" ⟨[.ref z.heap.objs.size,.ref I,.none],[]⟩) (wants (λr z2=>r=.none/\R (.ref z.heap.objs.size) z2) F') {z with heap:=g,toks:=tk}:=λg c tk sg kg ag=>
   codeAny_extend_loopS (J.walk B.in1.in1 hB).toS (by rw[sizeLine_eq];omega) _ (λq=>nI _ q rfl) .none n 0 _ #[] c rfl (zay _) sg ag (ItemsOf.nil _) λz3 xs c3 mv a3 it=>by
     rw[Moved.eq_with mv]
     refine⟨rfl,k z3.heap z3.toks xs c3 (λb o hb e=>mv.heap b o (λq=>?_) (kg b o e)) a3 it⟩
     rcases t8.mp q with q | q
     . exact absurd q (zab (tQ e))
     . exact hb (zae.mp q)
 refine wpAny_ite_split (λ_=>?_) (λ_=>wpAny_pure ⟨plainId_quiet F.plain_extend_loop _,run g1 _ tk st1 keep1 a1⟩)
 refine wpAny_bind (wpAny_rule (wpAny_bind (show wpAny _ _ (updateSeq z.heap.objs.size (·.push .none) >>= λ_=>updateSeq z.heap.objs.size (·.pop)) _ _ _ from wpAny_bind (wpAny_updateSeq a1 rfl ?_))))
 have a2:=zbz (Obj.mapSeq (·.push Value.none)) a1 rfl
 refine wpAny_updateSeq (hz:=by seq_fits) a2 rfl ?_
 have keep3:∀b o,b≠z.heap.objs.size->g1.get? b=some o->((g1.update z.heap.objs.size (Obj.mapSeq (·.push Value.none))).update z.heap.objs.size (Obj.mapSeq (·.pop))).get? b=some o:=λb o hb e=>
   (zaN _ _ (Ne.symm hb)).trans ((zaN _ _ (Ne.symm hb)).trans e)
 exact wpAny_pure ⟨plainId_quiet F.plain_extend_loop _,run _ _ tk ((J.walk B hB).frame 0 _ _ st1 λb hb o e=>keep3 b o (λq=>nI b hb q.symm) e) (λb o e=>keep3 b o (zab (tQ e)) (keep1 b o e)) (zbz (Obj.mapSeq (·.pop)) a2 rfl)⟩
theorem kS {P:Program} {I:Addr} {x c:Int} {n:Nat} (hn:n<=1048576):va P w "range_iterator" I [I] n (λi v=>∃t,v=.int (x+i*c) t) (λi h=>IsRangeIter h I (x+(i:Nat)*c) ((n:Int) - (i:Nat)) c) where
 ty:=λ_ st=>⟨_,st,rfl⟩
 nl:=by decide
 nt:=by decide
 walk:=λ_ hB=>Walks.range hB I x c n
 hint:=λB G z R st k=>by
   have st':IsRangeIter z.heap I x n c:=by
     have e1:x+((0:Nat):Int)*c=x:=by simp
     have e2:(n:Int) - ((0:Nat):Int)=n:=by simp
     rw[<-e1,<-e2]
     exact st
   have ty:z.TypeIs (.ref I) "range_iterator":=⟨_,st',rfl⟩
   have few:Builtin.List.listTooLong ((n:Int).toNat)=false:=by unfold Builtin.List.listTooLong;rw[zaL];exact decide_eq_false (by rw[sizeLine_eq];omega)
   unfold Builtin.List.listLengthHint
   refine wpAny_bind (wpAny_specialOf ty F.nolen_ra ?_)
   refine(show wpAny _ B (specialOf (.ref I) (Str.ofString "__length_hint__") >>= _) _ _ _ from wpAny_bind (wpAny_specialOf ty F.hint_ra ?_))
   (generalize hq:("range_iterator.__length_hint__":String)=q0;(fail_if_success (clear hq q0));wp_delta;rw[show splitId q0=some ("range_iterator","__length_hint__") from by subst hq;decide+kernel];subst hq)
   refine wpAny_bind (wpAny_isInstance (b:=true) ty (by rw[isSubtype_type];kernel_rfl) ?_)
   refine(show wpAny _ B (call (.builtin "range_iterator.__length_hint__") [.ref I] >>= _) _ _ _ from wpAny_bind (Vn st' (wpAny_bind (m:=asInt? (.int (n:Int) _)) (wpAny_pure ?_))))
   dsimp only
   rw[if_neg (by rw[few];decide)]
   exact wpAny_pure (k _)
end
end PySem
namespace L2
open PySem PySem.Spec PyProof.Rows
def zI (n:Nat):List Nat:=(zac n).reverse
theorem kG {n:Nat} {acc:Array Value} (h:ItemsOf (λi v=>∃t,v=.int ((n:Int) - 1+i*(-1)) t) acc n):qJ ((zI n).map λi=>V.int (i:Nat)) acc.toList:=by
 obtain⟨hz,hv⟩:=h
 have key:∀(xs:List V) (us:List Value),xs.length=us.length->(∀(i:Nat) (x:V) (u:Value),xs[i]?=some x->us[i]?=some u->qQ x u)->qJ xs us:=by
   intro xs
   induction xs with
   | nil=>intro us hl _;cases us with | nil=>exact .nil | cons _ _=>cases hl
   | cons x xs ih=>
     intro us hl hp
     cases us with
     | nil=>cases hl
     | cons u us=>exact .cons (hp 0 x u rfl rfl) (ih us (by simpa using hl) λi y w h1 h2=>hp (i+1) y w (by simpa using h1) (by simpa using h2))
 refine key _ _ (by simp [zI,hz]) λi x u h1 h2=>?_
 have h2':acc[i]?=some u:=by simpa using h2
 obtain⟨t,rfl⟩:=hv i u h2'
 have hi:i < n:=by
   have:=(zcV.mp h2').1
   omega
 rw[tI,zI,List.getElem?_reverse (by simpa using hi),zan,zbD (by omega)]at h1
 simp at h1
 subst h1
 refine⟨t,?_⟩
 congr 1
 omega
section
variable {X:Cx} {e:Expr} {te:TE} {p1 p2 p3 pos1 pos2 pos3:Pos}
theorem kO {M:Model} {A:Around} {E:Value->Shared->Prop} {s:Shared} {env:Env} {e:Expr} {pos:Pos} {R:List Value->Shared->Prop} (hs:starEach [e] env=[(false,eval e env)]) (h:wpAny M A (eval e env) (λv s1=>R [v] s1) E s):
   wpAny M A (spliced (backTo pos (starEach [e] env))) R E s:=by
 rw[hs]
 show wpAny _ _ (spliced ((false,eval e env)::backTo pos [])) _ _ s
 exact Calls.spliced_cons (jl h λu s1 h1=>Calls.spliced_nil h1)
def qbg (te:TE):TE:=λσ H Q=>te σ H λx H1=>∃n:Nat,x=.int n/\n<=1000/\∀l,H1 l=none->Q (.ref l) (upd H1 l (.lst ((zI n).map λi=>V.int (i:Nat))))
theorem Me (hc:X.calm=true) (g1:Gl X "list") (m1:X.mg "list"=none) (g2:Gl X "reversed") (m2:X.mg "reversed"=none) (g3:Gl X "range") (m3:X.mg "range"=none) (ha:JE X e te) (hs:starEach [e] X.env=[(false,eval e X.env)]:=by rfl) (hs2:starEach [.Call (.Name "range" p3) [e] [] pos3] X.env=[(false,eval (.Call (.Name "range" p3) [e] [] pos3) X.env)]:=by rfl) (hs3:starEach [.Call (.Name "reversed" p2) [.Call (.Name "range" p3) [e] [] pos3] [] pos2] X.env=[(false,eval (.Call (.Name "reversed" p2) [.Call (.Name "range" p3) [e] [] pos3] [] pos2) X.env)]:=by rfl):JE X (.Call (.Name "list" p1) [.Call (.Name "reversed" p2) [.Call (.Name "range" p3) [e] [] pos3] [] pos2] [] pos1) (qbg te):=.of (by
 have ha:=ha.to
 intro pins s σ H Q I h
 refine Call_ (Ja I g1 m1 boot_list (PyProof.Rows.callWith_type1 (kO hs3 ?_) (by rw[hs3];rfl) rfl))
 refine Call_ (Ja I g2 m2 boot_reversed (PyProof.Rows.callWith_type1 (kO hs2 ?_) (by rw[hs2];rfl) rfl))
 refine Call_ (Ja I g3 m3 boot_range (PyProof.Rows.callWith_type1 (kO hs (jl (ha pins s σ H _ I h) λu s1 ⟨x,H1,I1,r1,q1⟩=>?_)) (by rw[hs];rfl) rfl))
 obtain⟨n,rfl,hn,q⟩:=q1
 obtain⟨t,rfl⟩:=r1
 refine call_range_1 ?_
 refine ZF (IsRange.new ..) (by omega) ?_
 refine(kS (x:=(n:Int) - 1) (c:=-1) (n:=n) (by omega)).list (I1.ok.hd hc) (by
   have e1:(n:Int) - 1+((0:Nat):Int)*(-1)=(n:Int) - 1:=by simp
   have e2:(n:Int) - ((0:Nat):Int)=n:=by simp
   rw[e1,e2]
   exact tY _ rfl) (by simp) (λb hb=>by rw[zae.mp hb,zbn (_:Heap) (Xs _ _ _)];exact zaI _) (by omega) λh' tk acc' c' kp e hi=>?_
 have kk:∀b o,s1.heap.get? b=some o->h'.get? b=some o:=λb o eb=>by
   refine kp b o (zab ?_) (tG _ (tG _ eb))
   rw[zbn]
   exact zbS (tQ eb)
 have s1z:s1.heap.objs.size<=((s1.heap.push ({cls:=.type "range",data:=.fields #[.int 0 s1.toks,.int n t,.int 1 (s1.toks+1)]}:Obj)).push (Xs ((n:Int) - 1) n (-1))).objs.size:=by
   rw[zbn,zbn]
   omega
 exact⟨.ref _,_,I1.laid (t':=tk) (o:=.lst ((zI n).map λi=>V.int (i:Nat))) kk s1z ⟨by simp only[tj,zI,zce,zan];exact zak (qo hn),acc'.toList,c',kG hi,by simpa using e⟩,rfl,q _ (I1.hok.fresh s1z)⟩)
end
end L2
namespace PySem
namespace F
end F
end PySem
namespace L2
open PySem PySem.Spec PyProof.Rows
theorem k7:∀(xs:List V) (us:List Value),xs.length=us.length->(∀(i:Nat) (x:V) (u:Value),xs[i]?=some x->us[i]?=some u->qQ x u)->qJ xs us:=by
 intro xs
 induction xs with
 | nil=>intro us hl _;cases us with | nil=>exact .nil | cons _ _=>cases hl
 | cons x xs ih=>
   intro us hl hp
   cases us with
   | nil=>cases hl
   | cons u us=>exact .cons (hp 0 x u rfl rfl) (ih us (by simpa using hl) λi y w h1 h2=>hp (i+1) y w (by simpa using h1) (by simpa using h2))
section
variable {X:Cx} {e:Expr} {te:TE} {p1 p2 pos1 pos2:Pos}
end
section
variable {X:Cx} {pins:List (Addr×Obj)} {σ:St} {H:Hp} {s:Shared} {h':Heap}
theorem qD.turnLaid {L:List Addr} {T:Addr} {o:HO} {t':Nat} (I:qD X pins σ H s) (k:∀b u,b∉L->s.heap.get? b=some u->h'.get? b=some u) (hf:∀b∈L,JR X pins H b) (hp:s.heap.objs.size<=T)
   (new:qX X.prog X.w (upd H T o) h' T o):qD X pins σ (upd H T o) {s with heap:=h',toks:=t'}:=by
 have hn:H T=none:=I.hok.fresh hp
 have up:∀b u,H b=some u->upd H T o b=some u:=λb u e=>by rw[qj (qA e hn)];exact e
 have nL:∀b u,H b=some u->b∉L:=λb u e z=>by rw[(hf b z).1]at e;cases e
 refine I.step (g':=s.gens) (d':=s.drawn) (ch:=L) (λb hb=>?_) (λb o _ _ hc e _=>k b o hc e) (λb o _ _ hc e _=>⟨o.slots,k b o hc e⟩) (λb ob hc e n=>?_)
   (λb o hc e=>⟨o,k b o hc e⟩) (λb xs e=>up b _ e) (λb o u e=>up b _ e) (λb ps e=>⟨#[],by rw[up b _ e];simp⟩) (λm hm=>?_) (λb u e=>?_) I.bare
 . obtain⟨f0,f1,f2,f3,f4,f5⟩:=hf b hb
   exact⟨f3,f1,f4,f5⟩
 . have:b≠T:=zab (tT (tQ e) hp)
   rw[qj this]
   exact n
 . obtain⟨o,es,ep,ho,r⟩:=hm
   exact⟨o,es,ep,k _ o (λz=>(hf _ z).2.1 rfl) ho,r⟩
 . by_cases hb:b=T
   . subst hb
     rw[qd]at e
     cases e
     exact new
   . rw[qj hb]at e
     refine(I.hok b u e).stay (λc v hc q=>k c v ?_ q) (λc q=>up c _ q) (λc xs q=>up c _ q) (λc o q=>up c _ q)
     rcases hc with z | z
     . rw[z];exact nL b u e
     . exact nL c _ z
theorem qD.turnedL {L:List Addr} {t':Nat} (I:qD X pins σ H s) (k:∀b u,b∉L->s.heap.get? b=some u->h'.get? b=some u) (hf:∀b∈L,JR X pins H b):qD X pins σ H {s with heap:=h',toks:=t'}:=by
 have nL:∀b u,H b=some u->b∉L:=λb u e z=>by rw[(hf b z).1]at e;cases e
 refine I.step (g':=s.gens) (d':=s.drawn) (ch:=L) (λb hb=>?_) (λb o _ _ hc e _=>k b o hc e) (λb o _ _ hc e _=>⟨o.slots,k b o hc e⟩) (λ_ _ _ _ n=>n)
   (λb o hc e=>⟨o,k b o hc e⟩) (λ_ _ e=>e) (λ_ _ _ e=>e) (λb ps e=>⟨#[],by rw[e];simp⟩) (λm hm=>?_) (λb u e=>?_) I.bare
 . obtain⟨f0,f1,f2,f3,f4,f5⟩:=hf b hb
   exact⟨f3,f1,f4,f5⟩
 . obtain⟨o,es,ep,ho,r⟩:=hm
   exact⟨o,es,ep,k _ o (λz=>(hf _ z).2.1 rfl) ho,r⟩
 . refine(I.hok b u e).stay (λc v hc q=>k c v ?_ q) (λ_ q=>q) λ_ _ q=>q
   rcases hc with z | z
   . rw[z];exact nL b u e
   . exact nL c _ z
end
section
variable {X:Cx} {elts:List Expr} {x1:Nat} {tpos:Pos}
end
section
variable {X:Cx}
theorem Wd:∀{cs:List Addr} {us:List Value},qJ (cs.map V.ref) us->us=cs.map Value.ref
 | [],_,.nil=>rfl
 | c::cs,u::us,.cons r t=>by
   obtain rfl:u=Value.ref c:=r
   rw[tW,Wd t]
def qbz (K:PySem.W.Frag):R2:=λx y H Q=>∃d d',DV K H x d/\DV K H y d'/\PySem.SeqAt.shaped d=true/\PySem.SeqAt.shaped d'=true/\Q (.bl (PyData.eqv d d')) H
theorem wu (hu:X.A.units+64 < cLine):ZI X (compareOp .Eq) (qbz X.K):=by
 intro pins s σ H x y v u Q I rx ry h
 obtain⟨d,d',h1,h2,hs,hs',q⟩:=h
 obtain⟨as,ra⟩:=h1.reads I rx
 obtain⟨bs,rb⟩:=h2.reads I ry
 exact eq_dataH ra rb hs hs' hu ⟨.bl _,H,I,rfl,q⟩
end
section
variable {X:Cx} {o e:Expr} {es:List Expr} {ta:TE} {t:TA} {m:Str} {C C' f f':Addr} {fd fd':FuncData} {ps ps':List Str} {k k':Nat} {sp sp':Sp} {apos pos:Pos}
def xk (C C':Addr) (m:Str) (sp sp':Sp) (ta:TE) (t:TA):TE:=λσ H Q=>ta σ H λx H1=>∃a dx fs,x=.ref a/\fs.lookup m=none/\
 ((H1 a=some (.ins C dx fs)/\t σ H1 λvs H2=>sp (x::vs) H2 Q E0)\/(H1 a=some (.ins C' dx fs)/\t σ H1 λvs H2=>sp' (x::vs) H2 Q E0))
theorem uc {pl:Sem Bool} (he:JE X o ta) (c:X1 X.K C) (hm:Wc X.K C m f) (F:ql X.prog X.w X.K X.mg X.base qG k f fd ps sp) (hr:qS k X.A) (hb:jP X.K fd ps []) (c':X1 X.K C') (hm':Wc X.K C' m f') (F':ql X.prog X.w X.K X.mg X.base qG k' f' fd' ps' sp') (hr':qS k' X.A) (hb':jP X.K fd' ps' []) (ha:JA X (e::es) t) (hst:starEach (e::es) X.env=(false,eval e X.env)::starEach es X.env:=by rfl) (hpl:(backTo pos (starEach es X.env)).any (·.1)=false:=by rfl) (ht:eval (.Call (.Attribute o m apos) (e::es) [] pos) X.env=(eval o X.env >>= λov=>standAt apos.atName >>= λ_=>holding [ov] (getMethod ov m pl) >>= λr=>callWith pos r.1 r.2 (backTo pos (starEach (e::es) X.env)) (backToKw pos (keywordEach [] X.env))):=by rfl):JE X (.Call (.Attribute o m apos) (e::es) [] pos) (xk C C' m sp sp' ta t):=.of (by
 have he:=he.to
 have ha:=ha.to
 intro pins s σ H Q I h
 refine zbP (pl:=pl) (jl (he pins s σ H _ I h) λu s1 ⟨x,H1,I1,rx,a,dx,fs,ex,l,q⟩=>?_) ht
 subst ex
 obtain rfl:u=Value.ref a:=rx
 rcases q with ⟨ea,q⟩ | ⟨ea,q⟩
 . refine QD I1 ea c hm l (zbL (first:=[.ref a]) (h₀:=X.base) I.ok.mod.kin hm.kp (jl (ha pos pins s1 σ H1 _ I1 q) λus s2 ⟨vs,H2,I2,r,q2⟩=>⟨I2.kIn,?_⟩) hst hpl)
   exact ZW (us:=.ref a::us) (vs:=.ref a::vs) F hr hb .nil Q4 I2 (.cons rfl r) (by simpa using q2)
 . refine QD I1 ea c' hm' l (zbL (first:=[.ref a]) (h₀:=X.base) I.ok.mod.kin hm'.kp (jl (ha pos pins s1 σ H1 _ I1 q) λus s2 ⟨vs,H2,I2,r,q2⟩=>⟨I2.kIn,?_⟩) hst hpl)
   exact ZW (us:=.ref a::us) (vs:=.ref a::vs) F' hr' hb' .nil Q4 I2 (.cons rfl r) (by simpa using q2))
theorem Wt {pl:Sem Bool} (he:JE X o ta) (c:X1 X.K C) (hm:Wc X.K C m f) (F:ql X.prog X.w X.K X.mg X.base qG k f fd ps sp) (hr:qS k X.A) (hb:jP X.K fd ps []) (c':X1 X.K C') (hm':Wc X.K C' m f') (F':ql X.prog X.w X.K X.mg X.base qG k' f' fd' ps' sp') (hr':qS k' X.A) (hb':jP X.K fd' ps' []) (ht:eval (.Call (.Attribute o m apos) [] [] pos) X.env=(eval o X.env >>= λov=>standAt apos.atName >>= λ_=>holding [ov] (getMethod ov m pl) >>= λr=>callWith pos r.1 r.2 (backTo pos (starEach [] X.env)) (backToKw pos (keywordEach [] X.env))):=by rfl):JE X (.Call (.Attribute o m apos) [] [] pos) (xk C C' m sp sp' ta Jj):=.of (by
 have he:=he.to
 intro pins s σ H Q I h
 refine zbP (pl:=pl) (jl (he pins s σ H _ I h) λu s1 ⟨x,H1,I1,rx,a,dx,fs,ex,l,q⟩=>?_) ht
 subst ex
 obtain rfl:u=Value.ref a:=rx
 rcases q with ⟨ea,q⟩ | ⟨ea,q⟩
 . exact QD I1 ea c hm l (zcN (first:=[.ref a]) I1.kIn hm.kp (ZW (us:=[.ref a]) (vs:=[.ref a]) F hr hb .nil Q4 I1 (.cons rfl .nil) q))
 . exact QD I1 ea c' hm' l (zcN (first:=[.ref a]) I1.kIn hm'.kp (ZW (us:=[.ref a]) (vs:=[.ref a]) F' hr' hb' .nil Q4 I1 (.cons rfl .nil) q)))
end
section
variable {X:Cx} {e:Expr} {es:List Expr} {te:TE} {t:TA}
theorem Vg {t':TE} (h:JE X e te) (k:∀σ H Q,t' σ H Q->te σ H Q):JE X e t':=.of (by
 have h:=h.to
 exact λpins s σ H Q I q=>h pins s σ H Q I (k σ H Q q))
def tWk (te:TE):TE:=λσ H Q=>∃G:VK,te σ H G/\∀x H1,G x H1->Q x H1
theorem ub (h:JE X e te):JE X e (tWk te):=.of (by
 have h:=h.to
 intro pins s σ H Q I ⟨G,g,k⟩
 exact jl (h pins s σ H G I g) λv s1 ⟨x,H1,I1,r1,q1⟩=>⟨x,H1,I1,r1,k x H1 q1⟩)
def aWk (t:TA):TA:=λσ H Q=>∃G:List V->Hp->Prop,t σ H G/\∀vs H1,G vs H1->Q vs H1
theorem qaG (h:JA X es t):JA X es (aWk t):=.of (by
 have h:=h.to
 intro pos pins s σ H Q I ⟨G,g,k⟩
 exact jl (h pos pins s σ H G I g) λus s1 ⟨vs,H1,I1,r1,q1⟩=>⟨vs,H1,I1,r1,k vs H1 q1⟩)
end
open PySem PySem.Spec PySem.W PyProof.Rows
theorem RX:∀(f n r:Nat),r<=1->minRun' f n r<=n+r
 | 0,n,r,_=>tF _
 | f+1,n,r,hr=>by
   rw[minRun'_succ]
   split
   . exact tF _
   . have h1:max r (n % 2)<=1:=Nat.max_le.mpr ⟨hr,by omega⟩
     have:=RX f (n / 2) (max r (n % 2)) h1
     omega
section
variable {P:Program} {w:World} {B:Around} {F:Value->Shared->Prop} {κ:SortKind} {it:Array Keyed} {z:Shared}
theorem VQ {n:Nat} {R:Nat->Shared->Prop} (hc:∀i,1<=i->i < n->∀C:Bool->Shared->Prop,C false z->kas_cmp P w B κ it i (i - 1) C z) (hR:R n z):
   ∀(f a:Nat),1<=a->a+f=n->(kas_asc (zaW (zac n)) f a).kasWp (kas_cmp P w B κ it) R z
 | 0,a,_,e=>by
   have e':a=n:=by omega
   subst e'
   exact hR
 | f+1,a,h1,e=>by
   have g:∀i,i < n->(zaW (zac n)).getD i 0=i:=λi hi=>by simp [Array.getD,hi]
   show kas_cmp P w B κ it ((zaW (zac n)).getD a 0) ((zaW (zac n)).getD (a - 1) 0) _ z
   rw[g a (by omega),g (a - 1) (by omega)]
   refine hc a h1 (by omega) _ ?_
   show KasT.kasWp _ (if false=true then _ else _) R z
   rw[if_neg tP]
   exact VQ hc hR f (a+1) (by omega) (by omega)
theorem kZ {n:Nat} {Q:Unit->SortSt->Shared->Prop} (h2:2<=n) (hc:∀i,1<=i->i < n->∀C:Bool->Shared->Prop,C false z->kas_cmp P w B κ it i (i - 1) C z)
   (hQ:∀st,arrOf st=(zaW (zac n)).map (kas_item it)->failedOf st=none->Q () st z):kasC (model P w) B F sortRuns' Q (kas_st κ it (zaW (zac n))) z:=by
 obtain⟨r,rfl⟩:∃r,n=r+2:=⟨n - 2,by omega⟩
 have sz:(zaW (zac (r+2))).size=r+2:=by simp
 have sa:(arrOf (kas_st κ it (zaW (zac (r+2))))).size=r+2:=(Array.size_map ..).trans sz
 have le:=RX (r+2) (r+2) 0 (by decide)
 rw[sortRuns'_eq]
 refine kasC_bind (kasC_get ?_)
 dsimp only
 rw[sa]
 generalize minRun' (r+2) (r+2) 0=M at le
 refine kasC_bind (kasC_range (show kasC _ _ _ (forIn (0::1::zdX 2 r) _ _) _ _ _ from kasC_cons ?_))
 dsimp only
 rw[if_neg (by omega)]
 simp only[zdQ,zdR]
 refine kasC_bind (kas_count_ (G:=λq z'=>q=(r+2,zaW (zac (r+2)))/\z'=z) (by omega) (by rw[sz];exact tF _) (λm p' z' _ _ _ hg=>?_) ?_)
 . obtain⟨e,rfl⟩:=hg
   cases e
   dsimp only
   rw[if_neg (by omega)]
   refine kasC_bind (kasC_get ?_)
   rw[show (pendingOf (kas_st κ it (zaW (zac (r+2))))).back?=none from rfl]
   dsimp only
   refine kasC_bind (kasC_modify (kasC_pure (show kasC _ _ _ (forIn (1::zdX 2 r) _ _) _ _ _ from kasC_cons ?_)))
   dsimp only
   rw[if_pos (tF _)]
   refine kasC_pure ?_
   dsimp only
   refine kasC_bind (kasC_range (show kasC _ _ _ (forIn (0::1::zdX 2 r) _ _) _ _ _ from kasC_cons (kasC_bind (kasC_get ?_))))
   rw[if_pos (show (pendingOf (setPending (kas_st κ it (zaW (zac (r+2)))) ((pendingOf (kas_st κ it (zaW (zac (r+2))))).push (0,r+2,0)))).size<=1 from tF 1)]
   refine kasC_pure ?_
   dsimp only
   exact kasC_pure (hQ _ rfl rfl)
 . unfold kas_count
   rw[KasT.kasWp_bind]
   refine VQ hc ?_ _ 1 (tF 1) (by omega)
   rw[if_pos (beq_self_eq_true _)]
   exact⟨rfl,rfl⟩
end
def J9 (h:Heap) (v:Value) (k:Int×Int):Prop:=∃p o n t u,v=.ref p/\h.get? p=some o/\o.cls=.type "tuple"/\o.data=.seq #[.int k.1 t,.int k.2 u] n
def XF (a b:Int×Int):Prop:=a.1 < b.1\/(a.1=b.1/\a.2 < b.2)
section
variable {P:Program} {w:World} {B:Around} {F:Value->Shared->Prop} {z:Shared}
theorem VS {v u:Value} {a b:Int×Int} (hv:J9 z.heap v b) (hu:J9 z.heap u a) (hlt:XF a b) {C:Bool->Shared->Prop} (hC:C false z):wpAny (model P w) B (keyLt' (tuples' true) v u) C (λ_ _=>False) z:=by
 obtain⟨p,o,n,t1,t2,rfl,h1,_,d1⟩:=hv
 obtain⟨p',o',n',t1',t2',rfl,h1',_,d1'⟩:=hu
 refine kat_lt h1 d1 h1' d1' ?_
 show KatLex P w B true _ C [(.int b.1 t1,.int a.1 t1'),(.int b.2 t2,.int a.2 t2')] 0 z
 refine kat_cons (SeqAt.EqAt.int_int b.1 t1 a.1 t1' P w _ _ ?_)
 rcases hlt with h | ⟨h,h'⟩
 . have e:(b.1==a.1)=false:=by
     rw[beq_eq_false_iff_ne]
     omega
   rw[e]
   refine kat_no (show wpAny _ _ (oneLt' true _ _) _ _ _ from oneLt_int ?_)
   rw[decide_eq_false (by omega)]
   exact hC
 . have e:(b.1==a.1)=true:=by rw[h];exact beq_self_eq_true _
   rw[e]
   refine kat_yes (kat_cons (SeqAt.EqAt.int_int b.2 t2 a.2 t2' P w _ _ ?_))
   have e2:(b.2==a.2)=false:=by
     rw[beq_eq_false_iff_ne]
     omega
   rw[e2]
   refine kat_no (show wpAny _ _ (oneLt' false _ _) _ _ _ from kat_one _ _ (lt_int ?_))
   show C (decide (b.2 < a.2)) z
   rw[decide_eq_false (by omega)]
   exact hC
theorem J9.keep {h h':Heap} {v:Value} {k:Int×Int} (x:J9 h v k) (kp:∀b o,h.get? b=some o->o.cls=.type "tuple"->h'.get? b=some o):J9 h' v k:=by
 obtain⟨p,o,n,t,u,e,h1,c,d⟩:=x
 exact⟨p,o,n,t,u,e,kp p o h1 c,c,d⟩
theorem Wn (vs:List Value):(pairsOf vs).map (·.2)=vs.toArray:=by
 apply Array.ext'
 rw[Array.toList_map,pairsOf_toList,List.map_snd_zip (tF _)]
theorem vm {h:Heap}:∀(vs:List Value) (ks:List (Int×Int)),vs.length=ks.length->(∀(i:Nat) (v:Value) (k:Int×Int),vs[i]?=some v->ks[i]?=some k->J9 h v k)->∃fs,KatTups h vs fs/\fs.length=vs.length/\∀v∈fs,∃i t,v=Value.int i t
 | [],_,_,_=>⟨[],.nil,rfl,λv hv=>(nomatch hv)⟩
 | v::vs,[],hl,_=>by cases hl
 | v::vs,k::ks,hl,hv=>by
   obtain⟨fs,tf,lf,hf⟩:=vm vs ks (zcU.inj hl) λi u q e1 e2=>hv (i+1) u q (by simpa using e1) (by simpa using e2)
   obtain⟨p,o,n,t,u,rfl,h1,c,d⟩:=hv 0 v k rfl rfl
   refine⟨.int k.1 t::fs,.cons h1 c d rfl tf,by simp [lf],λx hx=>?_⟩
   rcases t8.mp hx with e | hx
   . exact⟨_,_,e⟩
   . exact hf x hx
theorem kQ {a:Addr} {vs:List Value} {ks:List (Int×Int)} {n:Nat} {R:PySem.Fin->Shared->Prop} (ho:z.heap.get? a=some (seqObj "list" vs.toArray n)) (hl:vs.length=ks.length) (hv:∀(i:Nat) (v:Value) (k:Int×Int),vs[i]?=some v->ks[i]?=some k->J9 z.heap v k)
   (hr:∀(i:Nat) (k k':Int×Int),ks[i]?=some k->ks[i+1]?=some k'->XF k k') (hz:vs.length<=100000)
   (k:R (.done (.ret .none)) {z with heap:=sortedHeap z.heap a vs vs.toArray}):wpAny (model P w) B (Builtin.«list.sort» ⟨[.ref a],[]⟩) R F z:=by
 have na:∀b o,z.heap.get? b=some o->o.cls=.type "tuple"->b≠a:=λb o e c q=>by
   rw[q,ho]at e
   cases e
   exact absurd c (show ¬Value.type "list"=Value.type "tuple" by decide)
 rw[list_sort_plain]
 refine wpAny_bind (listItems_at ho rfl (wpAny_bind (listUpdate_at ho rfl ?_)))
 obtain⟨c1,o1⟩:∃c,(z.heap.update a (Obj.mapSeq λ_=>#[])).get? a=some (seqObj "list" #[] c):=⟨_,get?_update_seq ho (λ_=>#[])⟩
 refine wpAny_bind (seqEpoch_at o1 rfl (wpAny_bind (wpAny_newTuple (wpAny_bind (wpAny_newList (wpAny_holding ?_))))))
 have lt:=tQ ho
 have o2:(((z.heap.update a (Obj.mapSeq λ_=>#[])).push (seqObj "tuple" vs.toArray 0)).push (seqObj "list" #[] 0)).get? a=some (seqObj "list" #[] c1):=tG _ (tG _ o1)
 have kp:∀b o,z.heap.get? b=some o->o.cls=.type "tuple"->(((z.heap.update a (Obj.mapSeq λ_=>#[])).push (seqObj "tuple" vs.toArray 0)).push (seqObj "list" #[] 0)).get? b=some o:=λb o e c=>
   tG _ (tG _ ((zaN _ _ (Ne.symm (na b o e c))).trans e))
 show wpAny (model P w) B _ R F {z with heap:=((z.heap.update a (Obj.mapSeq λ_=>#[])).push (seqObj "tuple" vs.toArray 0)).push (seqObj "list" #[] 0)}
 dsimp only
 have sv:vs.toArray.size=vs.length:=by simp
 have ends:∀st:SortSt,(arrOf st).map (·.2)=vs.toArray->failedOf st=none->wpAny (model P w) B (do
     let touched:=(<-seqEpoch a) != c1
     Builtin.List.listUpdate (.ref a) λ_=>(arrOf st).map (·.2)
     if let some e:=failedOf st then rule "list.sort.comparison-raised";throw e
     if touched then rule "list.sort.modified";raiseError "ValueError" "list modified during sort"
     ret .none) R F {z with heap:=((z.heap.update a (Obj.mapSeq λ_=>#[])).push (seqObj "tuple" vs.toArray 0)).push (seqObj "list" #[] 0)}:=λst e f=>by
   refine wpAny_bind (seqEpoch_at o2 rfl ?_)
   rw[e,f]
   refine wpAny_bind (listUpdate_at o2 rfl ?_ (hsz2:=by rw[sv,sizeLine_eq];omega))
   simp only[bne_self_eq_false,zba,if_false]
   exact wpAny_pure k
 by_cases h2:vs.toArray.size < 2
 . rw[if_pos h2,if_pos h2]
   refine wpAny_bind (wpAny_pure ?_)
   rw[StateT.run_pure]
   refine wpAny_bind (wpAny_pure ?_)
   exact ends (SortSt.mk' general' (vs.toArray.zip vs.toArray) #[] 7 none) (Wn vs) rfl
 . rw[if_neg h2,if_neg h2]
   have l2:2<=vs.length:=by omega
   have hv':∀(i:Nat) (v:Value) (q:Int×Int),vs[i]?=some v->ks[i]?=some q->J9 (((z.heap.update a (Obj.mapSeq λ_=>#[])).push (seqObj "tuple" vs.toArray 0)).push (seqObj "list" #[] 0)) v q:=λi v q e1 e2=>(hv i v q e1 e2).keep kp
   obtain⟨fs,tf,lf,hf⟩:=vm vs ks hl hv'
   refine wpAny_bind (kat_kind (T:=.type "int") tf (by omega) (λv q=>?_) rfl ?_)
   . obtain⟨i,t,rfl⟩:=hf v q
     exact Looks.of_pure rfl
   . have e:vs.toArray.zip vs.toArray=(zaW (zac vs.length)).map (kas_item (pairsOf vs)):=by
       have:=kas_range (pairsOf vs)
       rw[pairsOf_size]at this
       exact this.symm
     rw[e]
     have run:kasC (model P w) B F sortRuns' (λ_ st z'=>z'={z with heap:=((z.heap.update a (Obj.mapSeq λ_=>#[])).push (seqObj "tuple" vs.toArray 0)).push (seqObj "list" #[] 0)}/\(arrOf st).map (·.2)=vs.toArray/\failedOf st=none)
         (kas_st (tuples' true) (pairsOf vs) (zaW (zac vs.length))) {z with heap:=((z.heap.update a (Obj.mapSeq λ_=>#[])).push (seqObj "tuple" vs.toArray 0)).push (seqObj "list" #[] 0)}:=by
       refine kZ l2 (λi i1 i2 C hC=>?_) λst e1 e2=>⟨rfl,by rw[e1,<-e];exact Wn vs,e2⟩
       unfold kas_cmp
       rw[kas_item_eq,kas_item_eq]
       have g:∀j,j < vs.length->vs[j]?=some (vs.getD j Value.none):=λj hj=>by simp [hj]
       have gk:∀j,j < vs.length->∃q,ks[j]?=some q:=λj hj=>⟨_,tH (by omega)⟩
       obtain⟨q1,eq1⟩:=gk i i2
       obtain⟨q0,eq0⟩:=gk (i - 1) (by omega)
       have eq1':ks[i - 1+1]?=some q1:=by rw[show i - 1+1=i by omega];exact eq1
       exact VS (hv' i _ q1 (g i i2) eq1) (hv' (i - 1) _ q0 (g (i - 1) (by omega)) eq0) (hr (i - 1) q0 q1 eq0 eq1') hC
     refine wpAny_bind (wpAny_mono run (λr z' h3=>?_) λ_ _ x=>x)
     obtain⟨⟨⟩,st⟩:=r
     obtain⟨rfl,e1,e2⟩:=h3
     exact ends st e1 e2
end
end L2
namespace PySem
def RawD (h:Heap) (d:Addr) (es:Array DictEntry) (ep:Nat):Prop:=∃o,h.get? d=some o/\o.ExactDict/\o.data=.dict es ep
theorem RawD.keep {h h':Heap} {d:Addr} {es:Array DictEntry} {ep:Nat} (x:RawD h d es ep) (k:∀o,h.get? d=some o->h'.get? d=some o):RawD h' d es ep:=let ⟨o,e,r⟩:=x;⟨o,k o e,r⟩
section
variable {P:Program} {w:World} {B:Around} {F':Value->Shared->Prop} {z:Shared} {d I:Addr} {es:Array DictEntry} {ep i:Nat}
theorem RawD.ty (x:RawD z.heap d es ep):z.TypeIs (.ref d) "dict":=let ⟨o,e,c,_⟩:=x;⟨o,e,c.1⟩
theorem xZ {R:Value->Shared->Prop} (hd:(d==sysModules)=false) (x:RawD z.heap d es ep)
   (k:R (.ref z.heap.objs.size) {z with heap:=z.heap.push {cls:=.type "dict_keyiterator",data:=.fields #[.ref d,.int 0 0,.int es.size 0,.int ep 0]}}):wpAny (model P w) B (pyIter (.ref d)) R F' z:=by
 have ty:=x.ty
 obtain⟨o,ho,_,dat⟩:=x
 refine wpAny_pyIter_slot ty F.slot_dict_iter (wpAny_call_entry F.slot_dict_iter ty F.entry_dict_iter ?_ (F.args_dict_iter_1 _))
 unfold Builtin.«dict.__iter__»
 refine wpAny_bind (show wpAny _ _ (Builtin.Dict.dictSlotNone _ _) _ _ _ from ?_)
 unfold Builtin.Dict.dictSlotNone
 refine wpAny_bind (wpAny_notOrdered_dict ty (show wpAny _ _ (pure (Value.ref d)) _ _ z from wpAny_pure ?_))
 refine(show wpAny _ _ (Builtin.Dict.showsAll d >>= _) _ _ z from ?_)
 unfold Builtin.Dict.showsAll
 rw[if_neg (by rw[hd];exact tP)]
 refine wpAny_bind (wpAny_pure (wpAny_bind (wpAny_dictEntries ho dat (wpAny_bind (wpAny_dictEpoch ho dat ?_)))))
 exact wpAny_bind (wpAny_newObj_type (wpAny_pure ⟨_,rfl,"dict_keyiterator",_,⟨_,tY _ rfl,rfl⟩,F.slot_dict_keyiterator_next.lookup,by simpa [rawInt] using k⟩))
theorem xY {R:Option Value->Shared->Prop} (hit:z.heap.IsKeyIter I d i es.size ep) (x:RawD z.heap d es ep) (hi:i < es.size)
   (k:∀h',h'.IsKeyIter I d (i+1) es.size ep->Heap.SameBut I z.heap h'->R (some es[i].key) {z with heap:=h'}):wpAny (model P w) B (pyNext (.ref I)) R F' z:=by
 obtain⟨o,ho,hc,hd⟩:=id hit
 obtain⟨od,hod,_,dat⟩:=x
 have ty:=hit.typeIs
 unfold pyNext
 refine wpAny_bind (wpAny_attempt (wpAny_callSpecial?_slot (name:=Str.ofString "__next__") ty F.slot_dict_keyiterator_next (wpAny_call_entry F.slot_dict_keyiterator_next ty F.entry_dict_keyiterator_next ?_ (F.args_dict_keyiterator_next_1 _))))
 refine wpAny_bind (wpAny_pure (wpAny_bind (wpAny_bind (wpAny_bind ?_))))
 first | refine wpAny_typeNameOfWhole_keyiter ty (wpAny_pure (wpAny_bind (wpAny_fieldsOf ho hd ?_))) | refine wpAny_typeNameOf_keyiter ty (wpAny_pure (wpAny_bind (wpAny_fieldsOf ho hd ?_)))
 have own:Builtin.Dict_items.ownsTuple "dict_keyiterator"=false:=by decide
 simp only[own,zba,if_false]
 show wpAny _ _ (if (Value.ref d==Value.none)=true then _ else _) _ _ z
 rw[if_neg (show ¬((Value.ref d==Value.none)=true) from tP)]
 refine wpAny_bind (wpAny_pure (wpAny_bind (wpAny_dictEntries hod dat ?_)))
 rw[if_neg (by simp)]
 refine wpAny_bind (wpAny_pure (wpAny_bind (wpAny_dictEpoch hod dat ?_)))
 rw[if_neg (by simp)]
 refine wpAny_pure ?_
 simp only[show ¬((i:Int) < 0) from by omega,if_false,zaL,zcc hi]
 refine wpAny_bind (wpAny_bind ?_)
 first | refine wpAny_typeNameOfWhole_keyiter ty (wpAny_pure (wpAny_bind (wpAny_isOneOf_keyiter ty ?_))) | refine wpAny_typeNameOf_keyiter ty (wpAny_pure (wpAny_bind (wpAny_isOneOf_keyiter ty ?_)))
 refine(show wpAny _ _ (setField (.ref I) 1 (rawInt ((i:Int)+1)) >>= _) _ _ z from wpAny_bind (wpAny_setField ho hd (by simp) ?_))
 have hit':(z.heap.update I (Obj.mapFields (·.setIfInBounds 1 (rawInt ((i:Int)+1))))).IsKeyIter I d (i+1) es.size ep:=
   ⟨_,zbz _ ho (Obj.isFreed_of_fields (Obj.data_mapFields hd _)),(Obj.cls_mapFields ..).trans hc,by rw[Obj.data_mapFields hd];simp [rawInt]⟩
 refine wpAny_bind (wpAny_holding (wpAny_bind (wpAny_isOneOf_keyiter (s:={z with heap:=z.heap.update I (Obj.mapFields (·.setIfInBounds 1 (rawInt ((i:Int)+1))))}) hit'.typeIs ?_)))
 refine(show wpAny _ _ (pure es[i].key) _ _ _ from wpAny_pure (wpAny_pure ⟨_,rfl,wpAny_pure (k _ hit' (zcP.update ..))⟩))
theorem KF {R:Option Value->Shared->Prop} (hB:B.handled=none) (hit:z.heap.IsKeyIter I d i es.size ep) (x:RawD z.heap d es ep) (hi:es.size<=i)
   (k:∀h',Heap.ExtBut I z.heap h'->R none {z with heap:=h'}):wpAny (model P w) B (pyNext (.ref I)) R F' z:=by
 obtain⟨o,ho,hc,hd⟩:=id hit
 obtain⟨od,hod,_,dat⟩:=x
 have ty:=hit.typeIs
 unfold pyNext
 refine wpAny_bind (wpAny_attempt (wpAny_callSpecial?_slot (name:=Str.ofString "__next__") ty F.slot_dict_keyiterator_next (wpAny_call_entry F.slot_dict_keyiterator_next ty F.entry_dict_keyiterator_next ?_ (F.args_dict_keyiterator_next_1 _))))
 refine wpAny_bind (wpAny_pure (wpAny_bind (wpAny_bind (wpAny_bind ?_))))
 first | refine wpAny_typeNameOfWhole_keyiter ty (wpAny_pure (wpAny_bind (wpAny_fieldsOf ho hd ?_))) | refine wpAny_typeNameOf_keyiter ty (wpAny_pure (wpAny_bind (wpAny_fieldsOf ho hd ?_)))
 have own:Builtin.Dict_items.ownsTuple "dict_keyiterator"=false:=by decide
 simp only[own,zba,if_false]
 show wpAny _ _ (if (Value.ref d==Value.none)=true then _ else _) _ _ z
 rw[if_neg (show ¬((Value.ref d==Value.none)=true) from tP)]
 refine wpAny_bind (wpAny_pure (wpAny_bind (wpAny_dictEntries hod dat ?_)))
 rw[if_neg (by simp)]
 refine wpAny_bind (wpAny_pure (wpAny_bind (wpAny_dictEpoch hod dat ?_)))
 rw[if_neg (by simp)]
 refine wpAny_pure ?_
 simp only[show ¬((i:Int) < 0) from by omega,if_false,zaL,Array.getElem?_eq_none hi]
 refine wpAny_bind (wpAny_bind ?_)
 first | refine wpAny_typeNameOfWhole_keyiter ty (wpAny_pure ?_) | refine wpAny_typeNameOf_keyiter ty (wpAny_pure ?_)
 refine(show wpAny _ _ (setField (.ref I) 0 .none >>= _) _ _ z from wpAny_bind (wpAny_setField ho hd (by simp) ?_))
 refine(show wpAny _ _ (newExc (.type "StopIteration") [] >>= _) _ _ _ from wpAny_bind ?_)
 simp only[newExc,newTuple]
 refine wpAny_bind (wpAny_newObj_type (wpAny_bind (m:=firstArgMember _ _) (wpAny_of_eq (a:=Value.none) (by first | rfl | (simp only[firstArgMember];rfl)) (wpAny_newObj_type ?_ (by size_fits)))) (by size_fits))
 simp only[raiseNew]
 refine wpAny_bind (wpAny_handled ?_)
 rw[show B.in1.handled=none from hB]
 refine wpAny_bind (wpAny_pure (wpAny_throw ?_))
 refine wpAny_bind (wpAny_isInstance (T:="StopIteration") (b:=true) ⟨_,tY _ rfl,rfl⟩ isSubtype_stop ?_)
 exact wpAny_pure (k _ ((((zcP.update ..).extBut).push _).push _))
end
open PySem.W
section
variable {P:Program} {w:World} {d:Addr} {es:Array DictEntry} {ep:Nat}
theorem k4 {B:Around} (hB:B.handled=none) (I:Addr) (hne:d≠I):Walks P w B I [I,d] [I] es.size (λi v=>∃h:i < es.size,v=es[i].key) (λi h=>h.IsKeyIter I d i es.size ep/\RawD h d es ep) where
 sub:=λb hb=>by simp at hb;simp [hb]
 frame:=λ_ _ _ st k=>⟨st.1.at λo e=>k I (by simp) o e,st.2.keep λo e=>k d (by simp) o e⟩
 item:=λi z R G hi st q=>xY st.1 st.2 hi λh' it' sb=>q _ h' z.toks ⟨hi,rfl⟩ ⟨it',st.2.keep λo e=>sb.extBut d o hne e⟩ λb o hb e=>sb.extBut b o (λx=>hb (by simp [x])) e
 done:=λz R G st q=>KF hB st.1 st.2 (tF _) λh' eb=>q h' z.toks λb o hb e=>eb b o (λx=>hb (by simp [x])) e
 self:=λ_ _ _ _ st q=>wpAny_pyIter_keyiter st.1 q
theorem KE (hd:(d==sysModules)=false):KdlSrc P w "dict" d d es.size (λi v=>∃h:i < es.size,v=es[i].key) (λh=>RawD h d es ep) where
 type:=λz x=>x.ty
 there:=λh x=>let ⟨o,e,_⟩:=x;⟨tQ e,tQ e⟩
 keep:=λh h' x k=>x.keep λo e=>k d (.inl rfl) o e
 notList:=by decide
 notTuple:=by decide
 hint:=λ_ _ _ _ x q=>kdl_hint_dict x.ty q
 iter:=λA z hh x=>⟨_,_,λE Q q=>xZ hd x q,k4 hh _ (let ⟨o,e,_⟩:=x;zab (tQ e)),⟨⟨_,tY _ rfl,rfl,rfl⟩,x.keep λo e=>tG _ e⟩⟩
end
end PySem
namespace L2
open PySem PySem.Spec PySem.W PyProof.Rows
theorem ZX {α β:Type} {G:α->β->Prop}:∀{l:List α} {m:List β},Paired G l m->∀{i:Nat} {a:α},l[i]?=some a->∃b,m[i]?=some b/\G a b
 | _,_,.nil,i,a,e=>by simp at e
 | _,_,.cons r t,0,a,e=>by cases e;exact⟨_,rfl,r⟩
 | _,_,.cons r t,i+1,a,e=>by
   obtain⟨b,eb,g⟩:=ZX t (by simpa using e)
   exact⟨b,by simpa using eb,g⟩
section
variable {X:Cx}
def Yu (k:Int×Int):List qL:=[Sum.inl k.1,Sum.inl k.2]
def NA:List V->Hp->VK->Prop:=λxs H Q=>∃(a:Addr) (kvs:List (List qL×V)) (ks:List (Int×Int)),xs=[.ref a]/\H a=some (.dT kvs)/\kvs.map (·.1)=ks.map Yu/\(∀(i:Nat) (k k':Int×Int),ks[i]?=some k->ks[i+1]?=some k'->XF k k')/\kvs.length<=1000/\
 ∀(l:Addr) (ps:List Addr),H l=none->ps.length=ks.length->(∀(i:Nat) (p:Addr) (k:Int×Int),ps[i]?=some p->ks[i]?=some k->H p=some (.tup [.int k.1,.int k.2]))->Q (.ref l) (upd H l (.lst (ps.map V.ref)))
theorem Vw:∀(ps:List Addr),qJ (ps.map V.ref) (ps.map Value.ref)
 | []=>.nil
 | p::ps=>.cons rfl (Vw ps)
theorem U8 (hc:X.calm=true):QR X (.builtin "sorted") NA:=by
 intro pins s σ H xs us Q I r h
 obtain⟨a,kvs,ks,rfl,ea,eks,hr,hz,q⟩:=h
 obtain⟨u,rfl,ru⟩:=Jl r
 cases ru
 obtain⟨_,hsys,ys,pr,o,es,ep,eo,ex,dat,ents,_⟩:=(show qX X.prog X.w H s.heap a (.dT kvs) from I.hok a _ ea)
 have ly:kvs.length=ys.length:=Paired.length pr
 have lk:kvs.length=ks.length:=by simpa using congrArg zaz eks
 have se:es.size=ys.length:=by rw[<-zaB,ents,tj]
 have key:∀i (hi:i < es.size),es[i].key=.ref ((ys.map (·.2.1)).getD i 0):=λi hi=>by
   have e1:es.toList[i]?=some es[i]:=by simp [hi]
   have hy:i < ys.length:=by omega
   rw[ents,tI,tH hy]at e1
   have e2:=(tO.inj e1).symm
   rw[e2]
   show Value.ref ys[i].2.1=_
   simp [hy]
 have tup:∀(i:Nat) (p:Addr) (k:Int×Int),(ys.map (·.2.1))[i]?=some p->ks[i]?=some k->H p=some (.tup [.int k.1,.int k.2]):=λi p k e1 e2=>by
   rw[tI]at e1
   cases ey:ys[i]? with
   | none=>rw[ey]at e1;cases e1
   | some y=>
     rw[ey]at e1
     have ep':y.2.1=p:=tO.inj e1
     have hi:i < kvs.length:=by
       have:=(tE.mp ey).1
       omega
     obtain⟨y',ey',g1,g2,_⟩:=ZX pr (tH hi)
     rw[ey]at ey'
     cases ey'
     have ek:kvs[i].1=Yu k:=by
       have h1:(kvs.map (·.1))[i]?=some kvs[i].1:=by rw[tI,tH hi];rfl
       rw[eks,tI,e2]at h1
       exact(tO.inj h1).symm
     rw[ek,ep']at g2
     exact g2
 have hh:X.A.in1.handled=none:=I.ok.hd hc
 refine Calls.call_function_entry kind_sorted plain_sorted entry_sorted (args_sorted1 _) ?_
 unfold Builtin.«sorted»
 refine wpAny_bind (m:=checkCount "sorted" 1 1 _) (wpAny_pure ?_)
 refine wpAny_bind (kdu_collect (KE (es:=es) (ep:=ep) hsys) hh ⟨o,eo,ex,dat⟩ (by rw[se,sizeLine_eq];omega) λh1 tk acc k1 it=>?_)
 have eacc:acc.toList=(ys.map (·.2.1)).map Value.ref:=by
   refine zdb λi=>?_
   by_cases hi:i < es.size
   . have ha:i < acc.size:=by rw[it.1];exact hi
     have e1:acc[i]?=some acc[i]:=zcc ha
     obtain⟨h',e2⟩:=it.2 i _ e1
     rw[Array.getElem?_toList,e1,e2,key i hi,tI]
     have hy:i < (ys.map (·.2.1)).length:=by rw[tj];omega
     rw[tH hy]
     simp [zas,tH hy]
   . rw[zbi (by rw[zaB,it.1];omega),zbi (by rw[tj,tj];omega)]
 rw[eacc]
 generalize hps:ys.map (·.2.1)=ps at eacc tup key
 have lp:ps.length=ks.length:=by rw[<-hps,tj];omega
 refine wpAny_bind (wpAny_newList ?_)
 have I1:qD X pins σ H {s with heap:=h1,toks:=tk}:=I.kept (t':=tk) k1
 show wpAny _ _ _ _ _ {s with heap:=h1.push (seqObj "list" (ps.map Value.ref).toArray 0),toks:=tk}
 have oL:(h1.push (seqObj "list" (ps.map Value.ref).toArray 0)).get? h1.objs.size=some (seqObj "list" (ps.map Value.ref).toArray 0):=tY _ rfl
 have pa:∀(i:Nat) (v:Value) (k:Int×Int),(ps.map Value.ref)[i]?=some v->ks[i]?=some k->J9 (h1.push (seqObj "list" (ps.map Value.ref).toArray 0)) v k:=λi v k e1 e2=>by
   rw[tI]at e1
   cases ep1:ps[i]? with
   | none=>rw[ep1]at e1;cases e1
   | some p=>
     rw[ep1]at e1
     obtain rfl:=(tO.inj e1).symm
     obtain⟨its,rv,⟨ob,eb,cb,nb,db⟩,_⟩:=I1.tuple (.of (tup i p k ep1 e2):Y5 X.K H p _)
     cases rv with
     | cons r1 rv=>
       cases rv with
       | cons r2 rv=>
         cases rv
         obtain⟨t1,rfl⟩:=r1
         obtain⟨t2,rfl⟩:=r2
         exact⟨p,ob,nb,t1,t2,rfl,tG _ eb,cb,db⟩
 refine wpAny_bind (wpAny_holding (wpAny_call_entry slot_list_sort ⟨_,oL,rfl⟩ entry_list_sort (kQ oL (by rw[tj];exact lp) pa hr (by rw[tj];omega) ⟨_,rfl,?_⟩) (args_list_sort _)))
 refine wpAny_pure ⟨_,rfl,?_⟩
 have lne:∀b o,h1.get? b=some o->b≠h1.objs.size:=λb o e=>zab (tQ e)
 have kf:∀b o,h1.get? b=some o->(sortedHeap (h1.push (seqObj "list" (ps.map Value.ref).toArray 0)) h1.objs.size (ps.map Value.ref) (ps.map Value.ref).toArray).get? b=some o:=λb o e=>by
   unfold sortedHeap
   rw[zaN _ _ (Ne.symm (lne b o e))]
   exact tG _ (tG _ ((zaN _ _ (Ne.symm (lne b o e))).trans (tG _ e)))
 obtain⟨c2,o2⟩:∃c,((h1.push (seqObj "list" (ps.map Value.ref).toArray 0)).update h1.objs.size (Obj.mapSeq λ_=>#[])).get? h1.objs.size=some (seqObj "list" #[] c):=⟨_,get?_update_seq oL (λ_=>#[])⟩
 obtain⟨c3,o3⟩:∃c,(sortedHeap (h1.push (seqObj "list" (ps.map Value.ref).toArray 0)) h1.objs.size (ps.map Value.ref) (ps.map Value.ref).toArray).get? h1.objs.size=some (seqObj "list" (ps.map Value.ref).toArray c):=
   ⟨_,get?_update_seq (tG _ (tG _ o2)) (λ_=>(ps.map Value.ref).toArray)⟩
 refine⟨.ref h1.objs.size,_,I1.laid (t':=tk) (o:=.lst (ps.map V.ref)) kf (tF _) ⟨by rw[tj,lp,<-lk];exact zak (qo hz),_,c3,Vw ps,o3⟩,rfl,?_⟩
 exact q _ ps (I1.hok.fresh (tF _)) lp tup
end
section
variable {X:Cx}
def qbv:V->Option Int->Option Int->Hp->VK->Prop:=λx lo hi H Q=>∃(z:Str) (j:Int),x=.str z/\lo=none/\hi=some j/\z.length<=1000/\Q (.str (Txt.slice z none (some j))) H
theorem xG:SlR X qbv:=by
 intro pins s σ H x v vl vu lo hi sl Q I rx hs pl pu h
 obtain⟨z,j,rfl,rfl,rfl,hz,q⟩:=h
 obtain⟨t,rfl⟩:=rx
 refine⟨"str",_,PySem.F.slot_str_getitem.lookup,typeIs_str _ _ _,?_⟩
 cases pl
 cases pu
 exact wpAny_getItem_str_slice (l:=none) (u:=some (j,_)) (st:=none) hs rfl (post_val_or_str ⟨zag (Txt.slice_le z none (some j)) (zak (qo hz)),λt' k=>⟨.str _,H,I.tok k,⟨t',rfl⟩,q⟩⟩)
theorem Xf (z:Str) (j:Nat):(Txt.slice z none (some (j:Int))).cps.toList=z.cps.toList.take j:=by
 have hl:z.cps.toList.length=z.length:=zaB
 have idx:Builtin.Str.strSliceIndices none (some (j:Int)) 1 z.length=(zac (min j z.length)).map (0+·):=by
   have e:Builtin.Str.strSliceIndices none (some (j:Int)) 1 z.length=sliceRange ((0:Nat):Int) ((min j z.length:Nat):Int) 1:=by
     unfold Builtin.Str.strSliceIndices
     simp only[show (1:Int) > 0 by decide,if_true,show ¬((j:Int) < 0) by omega,if_false]
     congr 1
     omega
   rw[e,sliceRange_one]
   rfl
 unfold Txt.slice
 rw[idx]
 split
 . rename_i h
   have hm:min j z.length=z.length:=by simpa using h
   rw[tK]
   omega
 . rw[pick_run]
   show (z.cps.toList.drop 0).take (min j z.length)=_
   rw[zdz]
   by_cases hj:j<=z.length
   . rw[zcJ hj]
   . rw[Nat.min_eq_right (by omega),tK (by omega),tK (by omega)]
def RG (n:Nat):List V:=(zac n).map λi=>V.int (i:Nat)
def tLr (te:TE):TE:=λσ H Q=>te σ H λx H1=>∃n:Nat,x=.int n/\n<=1000/\∀l,H1 l=none->Q (.ref l) (upd H1 l (.lst (RG n)))
theorem u3 {n:Nat} {acc:Array Value} (h:ItemsOf (λi v=>∃t,v=.int (0+i*1) t) acc n):qJ (RG n) acc.toList:=by
 obtain⟨hz,hv⟩:=h
 refine k7 _ _ (by simp [RG,hz]) λi x u h1 h2=>?_
 have h2':acc[i]?=some u:=by simpa using h2
 obtain⟨t,rfl⟩:=hv i u h2'
 have hi:i < n:=by
   have:=(zcV.mp h2').1
   omega
 unfold RG at h1
 rw[tI,zbD hi]at h1
 obtain rfl:=(tO.inj h1).symm
 refine⟨t,?_⟩
 congr 1
 omega
variable {e:Expr} {te:TE} {p1 p3 pos1 pos3:Pos}
theorem qaE (hc:X.calm=true) (g1:Gl X "list") (m1:X.mg "list"=none) (g3:Gl X "range") (m3:X.mg "range"=none) (ha:JE X e te) (hs:starEach [e] X.env=[(false,eval e X.env)]:=by rfl) (hs2:starEach [.Call (.Name "range" p3) [e] [] pos3] X.env=[(false,eval (.Call (.Name "range" p3) [e] [] pos3) X.env)]:=by rfl):JE X (.Call (.Name "list" p1) [.Call (.Name "range" p3) [e] [] pos3] [] pos1) (tLr te):=.of (by
 have ha:=ha.to
 intro pins s σ H Q I h
 refine Call_ (Ja I g1 m1 boot_list (PyProof.Rows.callWith_type1 (kO hs2 ?_) (by rw[hs2];rfl) rfl))
 refine Call_ (Ja I g3 m3 boot_range (PyProof.Rows.callWith_type1 (kO hs (jl (ha pins s σ H _ I h) λu s1 ⟨x,H1,I1,r1,q1⟩=>?_)) (by rw[hs];rfl) rfl))
 obtain⟨n,rfl,hn,q⟩:=q1
 obtain⟨t,rfl⟩:=r1
 refine call_range_1 ?_
 refine call_list_range (n:=n) (I1.ok.hd hc) (IsRange.new ..) (small_one (by omega) (by omega) (by omega) (by omega)) (vT n) (by omega) λh' tk acc' c' kp e hi=>?_
 have s1z:s1.heap.objs.size<=(s1.heap.push ({cls:=.type "range",data:=.fields #[.int 0 s1.toks,.int n t,.int 1 (s1.toks+1)]}:Obj)).objs.size:=by
   rw[zbn]
   omega
 exact⟨.ref _,_,I1.laid (t':=tk) (o:=.lst (RG n)) (λb o eb=>kp b o (tG _ eb)) s1z ⟨by simp only[RG,tj,zan];exact zak (qo hn),acc'.toList,c',u3 hi,by simpa using e⟩,rfl,q _ (I1.hok.fresh s1z)⟩)
theorem yW (hc:X.calm=true):QR X (.type "set") (λxs H Q=>∃(p:Addr) (ns:List Int),xs=[.ref p]/\SqL X.K H p (ns.map V.int)/\ns.length<=1000/\∀l S,H l=none->Q (.ref l) (upd H l (.set S (firstMet (λi=>ns.getD i 0) ns.length).length))):=by
 intro pins s σ H xs us Q I r h
 obtain⟨p,ns,rfl,hq,hz,q⟩:=h
 obtain⟨u,rfl,ru⟩:=Jl r
 cases ru
 obtain⟨its,rv,pl,_⟩:=I.list hq
 have hl:=rv.length
 rw[tj]at hl
 have hsz:its.toArray.size=ns.length:=by rw[t9,<-hl]
 refine call_set_list (ns:=ns) (I.ok.hd hc) pl.isList (by simpa using U1 rv) (by rw[hsz];show ns.length+1 < 4096;omega) λh' tk so kp=>?_
 rw[hsz]at so
 exact⟨.ref s.heap.objs.size,_,I.laid (t':=tk) (o:=.set _ _) (λb o e=>kp b o (tQ e) e) (tF _) so,rfl,q _ _ (I.hok.fresh (tF _))⟩
theorem Uk:QR X (.builtin "len") (λxs H Q=>∃a S n,xs=[V.ref a]/\H a=some (.set S n)/\Q (.int (n:Nat)) H):=by
 intro pins s σ H xs us Q I r h
 obtain⟨a,S,n,rfl,ea,q⟩:=h
 obtain⟨u,rfl,ru⟩:=Jl r
 cases ru
 obtain⟨o,es,ep,t,e1,e2,e3,_,_,b,f,rfl⟩:=(show qX X.prog X.w H s.heap a (.set S n) from I.hok a _ ea)
 refine call_len_set e1 e2 e3 f (by have:es.size < 4096:=b;omega) ⟨.int _,H,I.tok _,⟨_,rfl⟩,q⟩
end
open PySem PySem.Spec PyProof.Rows
def Ite (K:PySem.W.Frag) (a:Addr):It:=⟨λi H=>∃xs x,SqL K H a xs/\xs[i]?=some x,
 λi H v H'=>∃p,H p=none/\v=.ref p/\∀xs x,SqL K H a xs->xs[i]?=some x->H'=upd H p (.tup [.int (i:Nat),x]),
 λi H=>∃xs,SqL K H a xs/\xs.length<=i⟩
theorem kI {P:Program} {w:World} {K:PySem.W.Frag} {elts:List Expr} {x1:Nat} {tpos:Pos} (a e it:Addr) (hne:e≠it):
   Up P w K (.Tuple elts x1 tpos) (Ite K a) [e,it] e (λi h=>(∃old,IsEnum h e it i old)/\h.IsListIter it a i) where
 mem:=by simp
 obj:=λi h st c hc=>by
   obtain⟨⟨old,he⟩,⟨o1,e1,c1,d1⟩⟩:=st
   simp only[t8,zbt,or_false]at hc
   rcases hc with rfl | rfl
   . exact⟨_,he,λv z=>by cases z⟩
   . exact⟨o1,e1,λv z=>by rw[d1]at z;cases z⟩
 keep:=λi h h' st k=>by
   obtain⟨⟨old,he⟩,h1⟩:=st
   exact⟨⟨old,k e (by simp) _ he⟩,h1.at λo e=>k it (by simp) o e⟩
 item:=by
   intro X hP hw hK hc i pins s σ H E I hf st hg
   subst hP hw hK
   obtain⟨⟨old,he⟩,h1⟩:=st
   obtain⟨xs,x,qa,hx⟩:=hg
   obtain⟨its,rv,p,_⟩:=I.list qa
   obtain⟨u,hu,ru⟩:=rv.get hx
   refine wpAny_pyNext_enum_item he h1 p.isList (x:=u) (by simpa using hu) hne λh' z1 z2 z3 z4 kk=>⟨_,rfl,?_⟩
   refine wpAny_letOwnedTupleGo_enum z1 λh'' z1' sb=>?_
   have nT:∀c o,s.heap.get? c=some o->s.heap.objs.size≠c:=λc o e=>zbK (tQ e)
   have kT:∀c o,c≠e->h'.get? c=some o->h''.get? c=some o:=λc o hc e=>(sb.2 c hc).trans e
   have I1:qD X pins σ (upd H s.heap.objs.size (.tup [.int (i:Nat),x])) {s with heap:=h'',toks:=s.toks+1}:=I.turnLaid (L:=[e,it]) (t':=s.toks+1)
     (λc o hc e=>kT c o (λz=>hc (by simp [z])) (kk c o (λz=>hc (by simp [z])) (λz=>hc (by simp [z])) e)) hf (tF _)
     ⟨by show 2<=sizeLine;decide,[.int i s.toks,u],.cons ⟨_,rfl⟩ (.cons ru .nil),⟨_,kT _ _ (nT _ _ he) z3,rfl,_,rfl⟩⟩
   refine⟨.ref s.heap.objs.size,_,I1,rfl,⟨s.heap.objs.size,I.hok.fresh (tF _),rfl,λxs' x' qa' hx'=>?_⟩,⟨⟨_,z1'⟩,z2.at λo e=>kT _ o (Ne.symm hne) e⟩,λc hc=>?_⟩
   . rw[I.list_inj qa' qa,hx]at hx'
     cases hx'
     rfl
   . have h0:=(hf c hc).1
     by_cases ec:c=s.heap.objs.size
     . subst ec
       obtain⟨o1,e1,_⟩:=h1
       simp only[t8,zbt,or_false]at hc
       rcases hc with e | e
       . exact absurd e (nT _ _ he)
       . exact absurd e (nT _ _ e1)
     . rw[qj ec];exact h0
 done:=by
   intro X hP hw hK hc i pins s σ H E I hf st hg
   subst hP hw hK
   obtain⟨⟨old,he⟩,h1⟩:=st
   obtain⟨xs,qa,hl⟩:=hg
   obtain⟨its,rv,p,_⟩:=I.list qa
   have l1:=rv.length
   exact wpAny_pyNext_enum_end (I.ok.hd hc) he h1 p.isList (by simp;omega) λh' kk=>⟨rfl,I.turnedL (L:=[e,it]) (t':=s.toks) (λc o hc e=>kk c o (λz=>hc (by simp [z])) e) hf⟩
 self:=λ_ _ _ _ _ st h=>let ⟨⟨_,he⟩,_⟩:=st;wpAny_pyIter_enum he h
section
variable {X:Cx} {elts:List Expr} {x1:Nat} {tpos:Pos}
def qaK (K:PySem.W.Frag) (ta:TA):TI:=λσ H R=>ta σ H λvs H1=>∃a,vs=[.ref a]/\(∃xs,SqL K H1 a xs)/\R (Ite K a) H1
theorem YS {a:Expr} {ta:TA} {p pos:Pos} (hg:Gl X "enumerate") (hm:X.mg "enumerate"=none) (ha:JA X [a] ta) (hs:starEach [a] X.env=[(false,eval a X.env)]:=by rfl):JI X (.Tuple elts x1 tpos) (.Call (.Name "enumerate" p) [a] [] pos) (qaK X.K ta):=.of (by
 have ha:=ha.to
 intro pins s σ H R I h
 refine Call_ (Ja I hg hm boot_enumerate (PyProof.Rows.callWith_type1 (jl (ha pos pins s σ H _ I h) λus s1 ⟨vs,H1,I1,r1,q1⟩=>?_) (by rw[hs];rfl) rfl))
 obtain⟨l,e,⟨xs,qa⟩,q⟩:=q1
 subst e
 cases r1 with
 | cons r rr=>
   cases rr
   cases r
   obtain⟨its,rv,p,_⟩:=I1.list qa
   refine call_enumerate_list p.isList λh' z1 z2 z3 kk=>?_
   refine wpAny_pyIter_enum z1 ?_
   have I2:qD X pins σ H1 {s1 with heap:=h'}:=I1.kept (t':=s1.toks) kk
   have fr:∀c,s1.heap.objs.size<=c->JR X pins H1 c:=λc hc=>I1.fpOk hc (I1.hok.fresh hc)
   refine⟨s1.heap.objs.size+1,[s1.heap.objs.size+1,s1.heap.objs.size],_,_,H1,rfl,I2,kI l (s1.heap.objs.size+1) s1.heap.objs.size (Nat.succ_ne_self _),⟨⟨_,z1⟩,z2⟩,λc hc=>?_,q⟩
   simp only[t8,zbt,or_false]at hc
   rcases hc with e | e<;>rw[e]<;>first | exact fr _ (Nat.le_add_right _ _) | exact fr _ (tF _))
end
theorem zF {K:PySem.W.Frag} {a:Addr} {xs:List V} {g:TG} {tb:TS} {D:Za} {σ:St} {H:Hp} (Pv:Nat->St->Hp->Prop) (h0:Pv 0 σ H) (hl:∀i σ H,i<=xs.length->Pv i σ H->SqL K H a xs)
   (hs:∀i x σ H p,xs[i]?=some x->H p=none->Pv i σ H->g (.ref p) σ (upd H p (.tup [.int (i:Nat),x])) λσ2 H2=>tb {D with nx:=Pv (i+1),ct:=Pv (i+1),bk:=D.nx} σ2 H2) (hd:∀σ H,Pv xs.length σ H->D.nx σ H):
   ∃W:Nat->Nat->St->Hp->Prop,(∃m,W 0 m σ H)/\∀i m σ H,W i m σ H->
    ((Ite K a).stop i H/\D.nx σ H)\/((Ite K a).go i H/\∃N:St->Hp->Prop,(∀σ' H',N σ' H'->∃m',m' < m/\W (i+1) m' σ' H')/\∀x H',(Ite K a).yld i H x H'->g x σ H' λσ2 H2=>tb {D with nx:=N,ct:=N,bk:=D.nx} σ2 H2):=by
 refine⟨λi m σ H=>m=xs.length - i/\i<=xs.length/\Pv i σ H,⟨xs.length,by simp,zay _,h0⟩,?_⟩
 rintro i m σ H ⟨rfl,hi,p⟩
 have qa:=hl i σ H hi p
 by_cases hlt:i < xs.length
 . have ex:xs[i]?=some xs[i]:=tH hlt
   refine .inr ⟨⟨xs,_,qa,ex⟩,Pv (i+1),λσ' H' p'=>⟨xs.length - (i+1),by omega,rfl,hlt,p'⟩,λx H' yl=>?_⟩
   obtain⟨pp,hp,rfl,e⟩:=yl
   rw[e xs _ qa ex]
   exact hs i _ σ H pp ex hp p
 . have e:i=xs.length:=by omega
   subst e
   exact .inl ⟨⟨xs,qa,tF _⟩,hd σ H p⟩
theorem Zh (ns:List Nat):∀i,i<=ns.length->preSum (λj=>((ns.getD j 0:Nat):Int)) i=(((ns.take i).sum:Nat):Int)
 | 0,_=>by simp [preSum]
 | i+1,h=>by
   have hi:i < ns.length:=h
   show preSum _ i+_=_
   rw[Zh ns i (zak hi),tR,tH hi,zcm]
   simp [zas,tH hi]
theorem Yp (ns:List Nat) (i:Nat):(ns.take i).sum<=ns.sum:=by
 have h:(ns.take i++ns.drop i).sum=ns.sum:=by rw[zdv]
 rw[zcm]at h
 omega
theorem Ub (ns:List Nat) (i:Nat):ns.getD i 0<=ns.sum:=by
 have h:=Yp ns (i+1)
 rw[tR,zcm]at h
 rw[zas]
 cases e:ns[i]? with
 | none=>exact zay _
 | some x=>
   rw[e]at h
   simp at h ⊢
   omega
section
variable {X:Cx}
theorem WA (hc:X.calm=true):QR X (.builtin "sum") (λxs H Q=>∃(p:Addr) (ns:List Nat),xs=[.ref p]/\SqL X.K H p (ns.map λn=>V.int ((n:Nat):Int))/\ns.sum < 2^62/\Q (.int (ns.sum:Nat)) H):=by
 intro pins s σ H xs us Q I r h
 obtain⟨p,ns,rfl,hq,hs,q⟩:=h
 obtain⟨u,rfl,rx⟩:=Jl r
 cases rx
 obtain⟨its,rv,pl,hz⟩:=I.list hq
 have hlt:p < s.heap.objs.size:=by
   obtain⟨o,n,e,_⟩:=pl
   exact tQ e
 have hn:its.toArray.size=ns.length:=by
   have:=rv.length
   rw[tj]at this
   simp only[t9]
   omega
 have hh:X.A.in1.handled=none:=I.ok.hd hc
 refine call_sum_walk (wpAny_pyIter_list pl.isList ?_)
 refine⟨s.heap.objs.size,[s.heap.objs.size,p],[s.heap.objs.size],its.toArray.size,λi v=>its.toArray[i]?=some v,_,λj=>((ns.getD j 0:Nat):Int),rfl,Walks.list hh s.heap.objs.size p (zab hlt) its.toArray,
   ⟨⟨_,tY _ rfl,rfl,rfl⟩,pl.isList.at λo e=>tG _ e⟩,?_,?_,?_,λh' tk t' hk=>?_⟩
 . intro b hb
   show b < (s.heap.push _).objs.size
   rw[zbn]
   simp only[t8,zbt,or_false]at hb
   rcases hb with e | e
   . rw[e];exact zaI _
   . rw[e];exact zbS hlt
 . intro i v hP
   have hi:its[i]?=some v:=by simpa using hP
   cases e:ns[i]? with
   | none=>
     exfalso
     have h1:(ns.map λn=>V.int ((n:Nat):Int))[i]?=none:=by rw[tI,e];rfl
     rw[qJ.none_of rv h1]at hi
     cases hi
   | some b=>
     have h1:(ns.map λn=>V.int ((n:Nat):Int))[i]?=some (V.int b):=by rw[tI,e];rfl
     obtain⟨u,hu,ru⟩:=rv.get h1
     rw[hi]at hu
     cases hu
     obtain⟨t,rfl⟩:=ru
     refine⟨t,?_⟩
     show Value.int b t=.int ((ns.getD i 0:Nat):Int) t
     rw[zas,e]
     rfl
 . intro j hj
   rw[hn]at hj
   have h1:=Ub ns j
   have h2:=Yp ns (j+1)
   have h3:=Zh ns (j+1) hj
   refine⟨⟨?_,?_⟩,⟨?_,?_⟩⟩
   . show -(2^63)<=((ns.getD j 0:Nat):Int)
     omega
   . show ((ns.getD j 0:Nat):Int) < 2^63
     omega
   . rw[h3];omega
   . rw[h3];omega
 . rw[hn,Zh ns _ (tF _),tK (tF _)]
   refine⟨.int (ns.sum:Nat),H,?_,⟨_,rfl⟩,q⟩
   exact I.kept (h':=h') (t':=tk) λb o e=>hk b o (by
     intro z
     have z':b=s.heap.objs.size:=by simpa using z
     exact absurd (tQ e) (by rw[z'];exact zaw _)) (tG _ e)
end
open PySem PySem.Spec PyProof.Rows
structure Fly (fs:List Addr) (ex:List Addr) (h h':Heap):Prop where
 keep:∀b o,b∉fs->b∉ex->h.get? b=some o->h'.get? b=some o
 slot:∀b o,b∈fs->b∉ex->h.get? b=some o->∃sl,h'.get? b=some {o with slots:=sl}
section
variable {M:Model} {A:Around} {E:Value->Shared->Prop} {s:Shared} {base:Heap} {env:Env} {outer:List Env} {L e:Addr} {cl head:Value} {d:Option Addr} {vs:Array Value} {had:Bool} {Q:Unit->Shared->Prop}
end
structure Track (ex:List Addr) (n:Nat) (H H':Hp):Prop where
 ext:∀b∈ex,∃φ,H b=some (.ext φ)
 same:∀b o,b∉ex->H b=some o->H' b=some o
 no:∀b,b < n->H b=none->H' b=none
section
variable {P:Program} {w:World} {fs ex:List Addr} {H H':Hp} {h h':Heap}
end
open PySem PySem.Spec PyProof.Rows
section
variable {X:Cx} {pins:List (Addr×Obj)} {σ:St} {H H':Hp} {s:Shared} {h':Heap} {ex:List Addr}
end
section
variable {P:Program} {w:World} {K:PySem.W.Frag} {mg:Str->Option Value} {base:Heap} {N:List Str} {qual:Str} {scope:Scope} {f:Addr} {cd:Value} {A:Around} {outer:List Env} {s₀:Shared} {H₀:Hp} {E:XK}
end
open PySem PySem.Spec PyProof.Rows
section
variable {M:Model} {A:Around} {E:Value->Shared->Prop} {s:Shared} {env:Env} {C:Addr}
end
section
variable {X:Cx} {E:XK} {e:Expr} {te:TE} {pos:Pos}
end
open PySem PySem.Spec PyProof.Rows
section
variable {M:Model} {A:Around} {E:Value->Shared->Prop}
end
open PySem PySem.Spec PyProof.Rows
def Vq (CX:Y6) (X:Cx) (E:St->XK):Prop:=∀(pins:List (Addr×Obj)) (σ:St) (H:Hp) (s:Shared) (e:Value) (s':Shared),qD X pins σ H s->CX X.stack H s (E σ) e s'->X.xe e s'
theorem QO.s {CX:Y6} {X:Cx} {E:XK} (h:QO CX X E):Vq CX X λ_=>E:=h
section
variable {X:Cx} {CX:Y6} {k:Nat} {f C:Addr} {fd:FuncData} {ps:List Str} {sp:Sp} {dvs:List V} {ds:List Value} {E:St->XK} {x m:Str} {p pos apos:Pos} {e o:Expr} {es:List Expr} {ta:TE} {t:TA}
theorem KA {pins:List (Addr×Obj)} {σ:St} {H:Hp} {s:Shared} {Q:VK} {us:List Value} {vs:List V} (F:ql X.prog X.w X.K X.mg X.base CX k f fd ps sp) (hr:qS k X.A) (hb:jP X.K fd ps ds) (hd:qJ dvs ds) (hx:Vq CX X E)
   (I:qD X pins σ H s) (r:qJ vs us) (h:sp (vs++dvs) H Q (E σ)):wpAny (model X.prog X.w) X.A (call (.ref f) us) (EP X pins σ Q) X.xe s:=by
 have rr:qJ (vs++dvs) (us++ds):=r.append hd
 have ll:(us++ds).length=ps.length:=rr.length.symm.trans (F.len _ _ _ _ h)
 have run:=F.run X.A X.stack s H ⟨us,[]⟩ (us++ds) (vs++dvs) Q (E σ) hr I.env0 (hb s us I.kIn ll) rr h
 refine wpAny_call (codeAny_mono run λz s' q=>?_)
 match z,q with
 | .error y,q=>exact hx pins σ H s y s' I q
 | .ok (.ret u),q=>exact I.after q
end
open PySem PySem.Spec PyProof.Rows
section
variable {X:Cx} {pins:List (Addr×Obj)} {σ:St} {H:Hp} {s:Shared} {a b:Addr} {kvs more:List (qL×V)} {A:Around} {E:Value->Shared->Prop}
end
section
variable {X:Cx} {o e:Expr} {apos cpos:Pos} {td ty:TE}
end
theorem qbK {us:List Value} (h:us.length=0):us=[]:=zaA h
theorem w4 {us:List Value} {n:Nat} (h:us.length=n+1):∃a r,us=a::r/\r.length=n:=by
 cases us with
 | nil=>cases h
 | cons a r=>exact⟨a,r,rfl,zcU.inj h⟩
theorem Qq {us:List Value} (h:us.length=1):∃a,us=[a]:=by
 obtain⟨a,r,rfl,h'⟩:=w4 h
 exact⟨a,by rw[qbK h']⟩
theorem QC {us:List Value} (h:us.length=2):∃a b,us=[a,b]:=by
 obtain⟨a,r,rfl,h'⟩:=w4 h
 obtain⟨b,rfl⟩:=Qq h'
 exact⟨a,b,rfl⟩
theorem X7 {us:List Value} (h:us.length=3):∃a b c,us=[a,b,c]:=by
 obtain⟨a,r,rfl,h'⟩:=w4 h
 obtain⟨b,c,rfl⟩:=QC h'
 exact⟨a,b,c,rfl⟩
theorem yC {us:List Value} (h:us.length=4):∃a b c d,us=[a,b,c,d]:=by
 obtain⟨a,r,rfl,h'⟩:=w4 h
 obtain⟨b,c,d,rfl⟩:=X7 h'
 exact⟨a,b,c,d,rfl⟩
theorem qaC {us:List Value} (h:us.length=5):∃a b c d e,us=[a,b,c,d,e]:=by
 obtain⟨a,r,rfl,h'⟩:=w4 h
 obtain⟨b,c,d,e,rfl⟩:=yC h'
 exact⟨a,b,c,d,e,rfl⟩
open PySem PySem.Spec PyProof.Rows
section
variable {X:Cx} {pins:List (Addr×Obj)} {σ:St} {H:Hp} {s:Shared} {E:Value->Shared->Prop} {a:Value}
end
section
variable {X:Cx} {f:Str} {e:Expr} {pos:Pos} {ta:TE} {bm:List Value}
end
end L2
namespace PySem
open PySem.Spec
namespace F
theorem plain_dupd_loop:plainId "dict.update.loop"=true:=by decide+kernel
theorem entry_dupd_loop:entryFor table "dict.update.loop"=some Builtin.«dict.update.loop»:=entryFor_of_fast (by kernel_rfl)
end F
theorem Heap.DictOf.keepsAt {prog:Program} {w:World} {κ:Type} [DecidableEq κ] {knd:KeyKind prog w κ} {h h':Heap} {a:Addr} {kvs:List (κ×Value)} (hm:h.DictOf knd a kvs) (k:∀o,h.get? a=some o->h'.get? a=some o):h'.DictOf knd a kvs:=
 let ⟨o,es,ep,ho,r⟩:=hm;⟨o,es,ep,k o ho,r⟩
section
variable {prog:Program} {w:World} {A:Around} {R:Result->Shared->Prop} {I:Addr} {fp wr:List Addr} {n:Nat} {P:Nat->Value->Prop} {St:Nat->Heap->Prop} {κ:Type} [DecidableEq κ] {knd:KeyKind prog w κ}
def Mv (knd:KeyKind prog w κ) (h:Heap) (wr:List Addr) (d:Addr) (v:Value) (kv:κ×Value):Prop:=∃p o c k,v=.ref p/\h.get? p=some o/\o.cls=.type "tuple"/\o.data=.seq #[k,kv.2] c/\knd.is kv.1 k=true/\p∉wr/\p≠d
theorem zK (W:Walks prog w A.in1 I fp wr n P St) (kv:Nat->κ×Value) (d:Addr) (hdf:d∉fp) (hn:n<=1000):
   ∀(k i:Nat) (s:Shared) (t:Tok) (kvs:List (κ×Value)),n - i=k->i<=n->St i s.heap->s.heap.DictOf knd d kvs->kvs.length<=i->(∀j v,P j v->Mv knd s.heap wr d v (kv j))->
   (∀h' tk,h'.DictOf knd d (merged kvs (((zac n).drop i).map kv))->(∀b o,b∉wr->b≠d->s.heap.get? b=some o->h'.get? b=some o)->R (.ok (.ret .none)) {s with heap:=h',toks:=tk})->
   codeAny (model prog w) A (.builtin "dict.update.loop" ⟨[.ref d,.ref I,.int i t,.none],[]⟩) R s:=by
 have hdw:d∉wr:=λh=>hdf (W.sub _ h)
 intro k
 induction k with
 | zero=>
   intro i s t kvs hk hi hst hd hl hp hR
   have hin:i=n:=by omega
   subst hin
   refine codeAny_builtin F.entry_dupd_loop ?_
   rw[Around.under_plainId F.plain_dupd_loop _]
   show wpAny _ A.in1 (pyNext (.ref I) >>= _) _ _ s
   refine wpAny_bind (W.done s _ _ hst λh' tk hk'=>?_)
   show wpAny _ A.in1 (Builtin.Dict.addKeywords d [] >>= _) _ _ _
   refine wpAny_bind (wpAny_pure (wpAny_pure (hR h' tk ?_ λb o hb _ e=>hk' b o hb e)))
   rw[List.drop_of_length_le (by simp)]
   exact hd.keepsAt λo e=>hk' d o hdw e
 | succ k ih=>
   intro i s t kvs hk hi hst hd hl hp hR
   have hlt:i < n:=by omega
   refine codeAny_builtin F.entry_dupd_loop ?_
   rw[Around.under_plainId F.plain_dupd_loop _]
   show wpAny _ A.in1 (pyNext (.ref I) >>= _) _ _ s
   refine wpAny_bind (W.item i s _ _ hlt hst λv h' tk hP hst' hk'=>?_)
   obtain⟨p,o,c,key,rfl,ho,hc,hdat,hkey,hpw,hpd⟩:=hp i v hP
   have ho':=hk' p o hpw ho
   have hd':h'.DictOf knd d kvs:=hd.keepsAt λo e=>hk' d o hdw e
   have ty:(⟨h',s.gens,s.drawn,tk,s.os⟩:Shared).TypeIs (.ref p) "tuple":=⟨o,ho',hc⟩
   refine wpAny_bind (wpAny_holding (wpAny_bind (wpAny_tryCatch ?_)))
   unfold Builtin.Dict.pairItems
   refine wpAny_bind (wpAny_typeOf ty ?_)
   rw[if_pos (by decide)]
   refine wpAny_bind (wpAny_seqItems ho' hdat (wpAny_pure ?_))
   refine(show wpAny _ _ (holding [key,(kv i).2] (dictSet d key (kv i).2)) _ _ _ from wpAny_holding (wpAny_dictSet_pairs hkey hd' (λh'' dd hs=>?_) (by rw[sizeLine_eq];omega)))
   refine wpAny_pure ⟨plainId_quiet F.plain_dupd_loop _,?_⟩
   have keep:∀b o,b∉wr->b≠d->s.heap.get? b=some o->h''.get? b=some o:=λb o hb hbd e=>(hs.2 b hbd).trans (hk' b o hb e)
   have len:(stored kvs (kv i).1 (kv i).2).length<=i+1:=by
     have:=stored_length_le kvs (kv i).1 (kv i).2
     omega
   refine ih (i+1) _ _ (stored kvs (kv i).1 (kv i).2) (by omega) hlt (W.frame _ _ _ hst' λb hb o e=>(hs.2 b (λz=>hdf (z▸hb))).trans e) dd len (λj v hj=>?_) λh3 tk3 d3 k3=>?_
   . obtain⟨p,o,c,k,e1,e2,r⟩:=hp j v hj
     exact⟨p,o,c,k,e1,keep p o r.2.2.2.1 r.2.2.2.2 e2,r⟩
   . refine hR h3 tk3 ?_ λb o hb hbd e=>k3 b o hb hbd (keep b o hb hbd e)
     have e:(zac n).drop i=i::(zac n).drop (i+1):=by
       rw[List.drop_eq_getElem_cons (by simpa using hlt)]
       simp
     rw[e]
     exact d3
end
section
variable {prog:Program} {w:World} {A:Around} {E:Value->Shared->Prop} {s:Shared} {κ:Type} [DecidableEq κ] {knd:KeyKind prog w κ}
theorem Vb:typeLookup (.type "list") "keys"=pure none:=by rw[typeLookup_type,builtinLookup_eq_fast];kernel_rfl
theorem Ve {a:Addr} {o:Obj} {xs:Array Value} {k:Nat} {Q:Option Value->Shared->Prop} (hx:s.heap.get? a=some o) (hc:o.cls=.type "list") (hdat:o.data=.seq xs k) (hd:o.dict=none) (hA:A.handled=none)
   (h:∀h' tk,(∀b o,s.heap.get? b=some o->h'.get? b=some o)->Q none {s with heap:=h',toks:=tk}):wpAny (model prog w) A (getAttr? (.ref a) "keys") Q E s:=by
 obtain⟨c,dct,dat,sl⟩:=o
 simp only at hc hdat hd
 subst hc hdat hd
 obtain⟨hp,g,d,tk,os⟩:=s
 have hT:∀tk',(⟨hp,g,d,tk',os⟩:Shared).TypeIs (.ref a) "list":=λ_=>⟨_,hx,rfl⟩
 have f1:=sub_AttributeError
 have f3:=F.slot_list_getattribute.lookup
 have f4:=F.slot_list_getattribute.bind (.ref a)
 have f5:=am_list_getattr_none
 unfold getAttr? getAttrBy? getAttrBy
 repeat (any_goals (first | assumption | exact hT _ | ((with_reducible show wpAny _ _ (call (Value.builtin "list.__getattribute__") _ _) _ _ _);refine call_meets F.slot_list_getattribute (hT _) am_entry_list_getattribute (F.args_list_getattribute_2 _ _) (meets_getattribute_miss_list a xs k sl "keys" _ Vb (by decide+kernel)) ⟨hx,hA,λh' tk' e hx'=>?_⟩) | wp_step))
 obtain⟨t',u',he⟩:=hx'.there
 show wpAny _ _ (getattributeRaised _ _ _ _ _ _ _) _ _ _
 unfold getattributeRaised
 repeat (any_goals (first | assumption | wp_step))
 exact h _ _ hx'.of.keeps
theorem YD {src:Addr} {items:Array Value} {kv:Nat->κ×Value} {Q:Value->Shared->Prop} (pl:PlainL s.heap src items) (hp:∀j v,items[j]?=some v->∃p o c key,v=.ref p/\s.heap.get? p=some o/\o.cls=.type "tuple"/\o.data=.seq #[key,(kv j).2] c/\knd.is (kv j).1 key=true)
   (hn:items.size<=1000) (hA:A.handled=none)
   (h:∀h' tk,h'.DictOf knd s.heap.objs.size (merged [] ((zac items.size).map kv))->(∀b o,s.heap.get? b=some o->h'.get? b=some o)->Q (.ref s.heap.objs.size) {s with heap:=h',toks:=tk}):
   wpAny (model prog w) A (call (.type "dict") [.ref src]) Q E s:=by
 refine callType_codes (Q₁:=λobj s₁=>obj=.ref s.heap.objs.size/\s₁={s with heap:=s.heap.push {cls:=.type "dict",data:=.dict #[]}}) F.kt_called_dict (F.kt_typeCall_dict_1 _) F.entry_dict_init (kt_code_dict_new _ ⟨rfl,rfl⟩) ?_
 rintro obj s₁ ⟨rfl,rfl⟩
 have hnew:(s.heap.push {cls:=.type "dict",data:=.dict #[]}).DictOf knd s.heap.objs.size []:=Heap.DictOf.new s.heap
 have hp0:∀b o,s.heap.get? b=some o->(s.heap.push {cls:=.type "dict",data:=.dict #[]}).get? b=some o:=λb o e=>tG _ e
 obtain⟨ol,nl,ho,hc,hd,hdat⟩:=id pl
 have ty:(⟨s.heap.push {cls:=.type "dict",data:=.dict #[]},s.gens,s.drawn,s.toks,s.os⟩:Shared).TypeIs (.ref src) "list":=⟨ol,hp0 _ _ ho,hc⟩
 refine⟨hnew.typeIs,F.args_dict_init_2 _ _,?_⟩
 unfold Builtin.«dict.__init__»
 refine wpAny_bind ?_
 unfold Builtin.Dict.selfAndRest
 refine wpAny_bind (wpAny_notOrdered_dict hnew.typeIs ?_)
 show wpAny _ _ (pure (s.heap.objs.size,[Value.ref src])) _ _ _
 refine wpAny_pure ?_
 show wpAny _ _ (Builtin.Dict.updateFrom "dict.__init__" s.heap.objs.size (.ref src) [] .none) _ _ _
 unfold Builtin.Dict.updateFrom
 refine wpAny_bind (wpAny_typeOf ty ?_)
 rw[if_pos (by decide)]
 refine wpAny_bind (Ve (hp0 _ _ ho) hc hdat hd hA λh1 tk1 k1=>?_)
 rw[if_pos (show (none:Option Value).isNone=true from rfl)]
 refine wpAny_bind (wpAny_rule ?_)
 have pl1:PlainL h1 src items:=⟨ol,nl,k1 _ _ (hp0 _ _ ho),hc,hd,hdat⟩
 have hlt:src < h1.objs.size:=tQ (k1 _ _ (hp0 _ _ ho))
 have hnew1:h1.DictOf knd s.heap.objs.size []:=hnew.keepsAt λo e=>k1 _ o e
 have hld:s.heap.objs.size < h1.objs.size:=by
   obtain⟨o,_,_,e,_⟩:=hnew1
   exact tQ e
 refine wpAny_bind (wpAny_pyIter_list pl1.isList ?_)
 refine wpAny_pure ⟨plainId_quiet F.plain_dupd_loop _,?_⟩
 have W:=Walks.list (prog:=prog) (w:=w) (A:=A.in1.in1) hA h1.objs.size src (zab hlt) items
 have nsrc:s.heap.objs.size≠src:=Ne.symm (zab (tQ ho))
 refine zK (A:=A.in1) W kv s.heap.objs.size (by simp only[t8,zbt,or_false,not_or];exact⟨zab hld,nsrc⟩) hn items.size 0 _ _ [] (by omega) (zay _)
   ⟨⟨_,tY _ rfl,rfl,rfl⟩,pl1.isList.at λo e=>tG _ e⟩ (hnew1.push _) (zay _) (λj v hj=>?_) λh2 tk2 d2 k2=>⟨rfl,h h2 tk2 d2 λb o e=>?_⟩
 . obtain⟨p,o,c,key,e1,e2,e3,e4,e5⟩:=hp j v hj
   have e2':=k1 _ _ (hp0 _ _ e2)
   refine⟨p,o,c,key,e1,tG _ e2',e3,e4,e5,?_,zab (tQ e2)⟩
   simp only[t8,zbt,or_false]
   exact zab (tQ e2')
 . have e':=k1 _ _ (hp0 _ _ e)
   refine k2 b o ?_ (zab (tQ e)) (tG _ e')
   simp only[t8,zbt,or_false]
   exact zab (tQ e')
end
end PySem
namespace L2
open PySem PySem.Spec PyProof.Rows
section
variable {X:Cx} {pins:List (Addr×Obj)} {σ:St} {H:Hp} {s:Shared}
def x8 (K:PySem.W.Frag):List V->Hp->VK->Prop:=λxs H Q=>∃(p:Addr) (ps:List Addr) (kvs:List (qL×V)),xs=[.ref p]/\SqL K H p (ps.map V.ref)/\ps.length=kvs.length/\(∀(i:Nat) (a:Addr) (kv:qL×V),ps[i]?=some a->kvs[i]?=some kv->Y5 K H a [kV kv.1,kv.2])/\kvs.length<=1000/\
 ∀d,H d=none->Q (.ref d) (upd H d (.dK (QN [] kvs)))
theorem Xu (I:qD X pins σ H s):∀(ps:List Addr) (kvs:List (qL×V)),ps.length=kvs.length->(∀(i:Nat) (a:Addr) (kv:qL×V),ps[i]?=some a->kvs[i]?=some kv->Y5 X.K H a [kV kv.1,kv.2])->
   ∃rs:List (qL×Value),KV kvs rs/\rs.length=ps.length/\∀(i:Nat) (a:Addr),ps[i]?=some a->∃kv o c key,rs[i]?=some kv/\s.heap.get? a=some o/\o.cls=.type "tuple"/\o.data=.seq #[key,kv.2] c/\(jm X.prog X.w).is kv.1 key=true
 | [],[],_,_=>⟨[],.nil,rfl,λi a e=>by simp at e⟩
 | [],_::_,h,_=>by cases h
 | _::_,[],h,_=>by cases h
 | a::ps,kv::kvs,h,k=>by
   obtain⟨rs,r1,r2,r3⟩:=Xu I ps kvs (zcU.inj h) λi a' kv' e1 e2=>k (i+1) a' kv' (by simpa using e1) (by simpa using e2)
   obtain⟨its,rv,⟨o,e,c1,n1,d1⟩,_⟩:=I.tuple (k 0 a kv rfl rfl)
   cases rv with
   | cons ra rt=>
     cases rt with
     | cons rb rn=>
       cases rn
       rename_i u1 u2
       refine⟨(kv.1,u2)::rs,.cons ⟨rfl,rb⟩ r1,by simp [r2],λi a' e'=>?_⟩
       cases i with
       | zero=>
         cases e'
         exact⟨_,o,n1,u1,rfl,e,c1,d1,XI ra⟩
       | succ i=>exact r3 i a' (by simpa using e')
theorem XV (hc:X.calm=true):QR X (.type "dict") (x8 X.K):=by
 intro pins s σ H xs us Q I r h
 obtain⟨p,ps,kvs,rfl,hl,le,hps,hz,q⟩:=h
 obtain⟨u,rfl,ru⟩:=Jl r
 cases ru
 obtain⟨its,rv,pl,_⟩:=I.list hl
 obtain rfl:=Wd rv
 obtain⟨rs,r1,r2,r3⟩:=Xu I ps kvs le hps
 have hsz:(ps.map Value.ref).toArray.size=rs.length:=by simp [r2]
 have hR:(zac (ps.map Value.ref).toArray.size).map (λj=>(rs[j]?).getD (Sum.inl 0,Value.none))=rs:=by
   rw[hsz]
   refine zdb λi=>?_
   rw[tI]
   by_cases hi:i < rs.length
   . rw[zbD hi,tH hi]
     simp [hi]
   . rw[zbi (by rw[zan];omega),zbi (by omega)]
     rfl
 refine YD (knd:=jm X.prog X.w) (kv:=λj=>(rs[j]?).getD (Sum.inl 0,Value.none)) pl (λj v hj=>?_) (by rw[hsz,r2,le];exact hz) (I.ok.hd hc) λh' tk dd kp=>?_
 . have hj':(ps.map Value.ref)[j]?=some v:=by simpa using hj
   rw[tI]at hj'
   cases e:ps[j]? with
   | none=>rw[e]at hj';cases hj'
   | some a=>
     rw[e]at hj'
     obtain⟨kv,o,c,key,f1,f2,f3,f4,f5⟩:=r3 j a e
     refine⟨a,o,c,key,(tO.inj hj').symm,f2,f3,?_,?_⟩
     . show o.data=.seq #[key,((rs[j]?).getD (Sum.inl 0,Value.none)).2] c
       rw[f1]
       exact f4
     . show (jm X.prog X.w).is ((rs[j]?).getD (Sum.inl 0,Value.none)).1 key=true
       rw[f1]
       exact f5
 . rw[hR]at dd
   have hn:=I.hok.fresh (tF s.heap.objs.size)
   have big:(s.heap.objs.size==sysModules)=false:=beq_eq_false_iff_ne.mpr (Ne.symm (zab I.big))
   have hlen:(QN [] kvs).length<=sizeLine:=by
     have:=Jv kvs []
     rw[zdq]at this
     rw[sizeLine_eq]
     omega
   exact⟨.ref s.heap.objs.size,_,I.laid (a:=s.heap.objs.size) (o:=.dK (QN [] kvs)) (h':=h') (t':=tk) kp (tF _) (U6 hlen big (r1.merge .nil) dd),rfl,q _ hn⟩
end
open PySem PySem.Spec PySem.W PyProof.Rows
theorem wU {α:Type} {l:List α} (nd:l.Nodup) {i j:Nat} {hi:i < l.length} {hj:j < l.length} (e:l[i]=l[j]):i=j:=by
 have h:=zaM.mp nd
 rcases zaC i j with c | c | c
 . exact absurd e (h i j hi hj c)
 . exact c
 . exact absurd e.symm (h j i hj hi c)
section
variable {α β:Type} {lt:Nat->Nat->Bool} {n:Nat}
def evT (lt:Nat->Nat->Bool):KasT α->α
 | .ret a=>a
 | .ask i j k=>evT lt (k (lt i j))
def Gd (n:Nat) (p:Array Nat):Prop:=p.toList.Perm (zac n)
end
def ltS (zs:List Str) (i j:Nat):Bool:=decide ((zs.getD i "").cps.toList < (zs.getD j "").cps.toList)
def srt (zs:List Str):List Nat:=if zs.length < 2 then zac zs.length else (evT (ltS zs) (kas_sort zs.length)).toList
section
variable {P:Program} {w:World} {B:Around} {F:Value->Shared->Prop} {z:Shared}
end
section
variable {X:Cx} {o:Expr} {td:TE} {p1 p2 pos1 pos2 ap cp:Pos}
end
section
variable {X:Cx}
def qam (K:PySem.W.Frag):R2:=λx y H Q=>∃a b xs ys,x=.ref a/\y=.ref b/\SqL K H a xs/\SqL K H b ys/\xs.length+ys.length<=sizeLine/\∀l,H l=none->Q (.ref l) (upd H l (.lst (xs++ys)))
theorem Paired.app {α β:Type} {G:α->β->Prop}:∀{l m:List α} {l' m':List β},Paired G l l'->Paired G m m'->Paired G (l++m) (l'++m')
 | _,_,_,_,.nil,h=>h
 | _,_,_,_,.cons a r,h=>.cons a (Paired.app r h)
theorem vV:ZI X (binaryOp .Add) (qam X.K):=by
 intro pins s σ H x y v u Q I rx ry h
 obtain⟨a,b,xs,ys,rfl,rfl,ha,hb,hz,q⟩:=h
 cases rx
 cases ry
 obtain⟨its,rv,pl,_⟩:=I.list ha
 obtain⟨its2,rv2,pl2,_⟩:=I.list hb
 have l1:=rv.length
 have l2:=rv2.length
 obtain⟨⟨cls,dd,data,sl⟩,ho,hc,n,hd⟩:=id pl.isList
 obtain⟨⟨cls2,dd2,data2,sl2⟩,ho2,hc2,n2,hd2⟩:=id pl2.isList
 simp only at hc hd hc2 hd2
 subst hc hd hc2 hd2
 have e:its.toArray++its2.toArray=(its++its2).toArray:=by simp
 refine concat_meets ⟨_,ho,rfl⟩ ⟨_,ho2,rfl⟩ noFill_list_add seq_list_add PySem.F.slot_list_add PySem.F.entry_list_add (PySem.F.args_list_add_2 _ _) (list_addW a b its.toArray its2.toArray n n2 dd dd2 sl sl2 (by simp only[t9];omega)) ⟨ho,ho2,?_⟩
 rw[e]
 exact⟨.ref s.heap.objs.size,_,I.laid (t':=s.toks) (o:=.lst (xs++ys)) (λb u h=>tG _ h) (tF _) ⟨by rw[tL];exact hz,its++its2,_,Paired.app rv rv2,tY _ rfl⟩,rfl,q _ (I.hok.fresh (tF _))⟩
end
open PySem PySem.Spec PySem.W PyProof.Rows
section
variable {X:Cx}
def qah (K:PySem.W.Frag):R2:=λx y H Q=>∃(a b:Addr) (xs:List V),x=.ref a/\y=.ref b/\SqL K H a xs/\SqL K H b []/\Q (.bl (!xs.isEmpty)) H
theorem YN (hu:X.A.units < cLine):ZI X (compareOp .NotEq) (qah X.K):=by
 intro pins s σ H x y v u Q I rx ry h
 obtain⟨a,b,xs,rfl,rfl,ha,hb,q⟩:=h
 cases rx
 cases ry
 obtain⟨its,rv,pl,_⟩:=I.list ha
 obtain⟨its2,rv2,pl2,_⟩:=I.list hb
 have l2:its2=[]:=zaA rv2.length.symm
 subst l2
 cases xs with
 | nil=>
   have l1:its=[]:=zaA rv.length.symm
   subst l1
   exact EqBoolInt.of_rcne (SeqAt.RcNeAt.lists (e:=λ_=>true) pl.isList pl2.isList rfl hu λj h1 h2=>absurd h1 (zcn j)) ⟨.bl _,H,I,rfl,q⟩
 | cons x xs=>
   cases its with
   | nil=>cases rv
   | cons u' us'=>exact EqBoolInt.of_rcne (SeqAt.RcNeAt.lists_lengths pl.isList pl2.isList (by simp) hu) ⟨.bl true,H,I,rfl,q⟩
def NC (K:PySem.W.Frag):V->List V->Hp->VK->Prop:=λx xs H Q=>∃(a:Addr) (zs:List Str) (z:Str) (j:Nat),x=.ref a/\xs=[.str z]/\SqL K H a (zs.map V.str)/\zs[j]?=some z/\(∀i,i < j->zs[i]?≠some z)/\Q (.int (j:Nat)) H
theorem wX:MJ X "list.index" (NC X.K):=by
 intro pins s σ H x xs v us Q I rx rs h
 obtain⟨a,zs,z,j,rfl,rfl,hq,ej,hno,q⟩:=h
 cases rx
 obtain⟨u,rfl,ru⟩:=Jl rs
 obtain⟨t,rfl⟩:=ru
 obtain⟨its,rv,pl,hz⟩:=I.list hq
 have ln:its.length=zs.length:=by
   have:=rv.length
   rw[tj]at this
   exact this.symm
 have hj:j < zs.length:=(tE.mp ej).1
 have str:∀i (hi:i < its.toArray.size),∃t',its.toArray[i]=.str (zs[i]'(by simp at hi;omega)) t':=λi hi=>by
   have hi':i < zs.length:=by simp at hi;omega
   have h1:(zs.map V.str)[i]?=some (V.str zs[i]):=by rw[tI,tH hi'];rfl
   obtain⟨w',hw,t',e⟩:=rv.get h1
   refine⟨t',?_⟩
   have:its.toArray[i]?=some w':=by simpa using hw
   rw[zcc hi]at this
   exact(tO.inj this).trans e
 obtain⟨⟨cls,dd,data,sl⟩,ho,hc,n,hd⟩:=id pl.isList
 simp only at hc hd
 subst hc hd
 have hz':zs.length<=sizeLine:=by rwa [tj]at hz
 refine call_meets zdh ⟨_,ho,rfl⟩ PySem.F.entry_list_index (PySem.F.args_list_index_2 _ _) (SeqAt.list_indexAt a its.toArray n dd sl (.str z t) (λy=>match y with | .str x _=>x==z | _=>false) j (by simp;omega) (by rw[sizeLine_eq]at hz';omega) ?_ ?_) ⟨ho,λy hy=>?_,⟨.int _,H,I.tok _,⟨_,rfl⟩,q⟩⟩
 . obtain⟨t',e⟩:=str j (by simp;omega)
   rw[e,(tE.mp ej).2]
   exact beq_self_eq_true z
 . intro m hm lt
   obtain⟨t',e⟩:=str m hm
   rw[e]
   refine beq_eq_false_iff_ne.mpr λc=>hno m lt ?_
   rw[tH (by simp at hm;omega),c]
 . obtain⟨i,hi,rfl⟩:=Array.mem_iff_getElem.mp hy
   obtain⟨t',e⟩:=str i hi
   rw[e]
   exact SeqAt.EqAt.str_str _ t' z t
end
open PySem PySem.Spec PySem.W PyProof.Rows
section
variable {P:Program} {w:World} {B:Around} {F:Value->Shared->Prop} {z:Shared}
end
section
variable {X:Cx}
end
open PySem PySem.Spec PySem.W PyProof.Rows
section
variable {prog:Program} {w:World} {A:Around} {R:Result->Shared->Prop} {I:Addr} {fp wr:List Addr} {G:Array GenState->Array GenState->Prop} {n:Nat} {P:Nat->Value->Prop} {St:Nat->Shared->Prop}
end
section
variable {prog:Program} {w:World} {A:Around} {E:Value->Shared->Prop} {s:Shared}
end
section
variable {X:Cx} {e:Expr} {te:TE} {p1 p2 pos1 pos2:Pos}
end
open PySem PyProof.Rows
theorem Jf {α:Type} {K:PySem.W.Frag} {a D:Addr} {xs:List α} {enc:α->V} {out:α->Option V} {rest:St} {H:Hp} {tt:TT} {te:TE} {Q:Hp->Prop} (hD:H D=none) (ha:H a=some (.lst (xs.map enc))) (len:xs.length < sizeLine)
   (ht:∀x∈xs,∀G,qm H G->∀R:Bool->Hp->Prop,(∀G',qm G G'->R (out x).isSome G')->tt (some (enc x)::rest) G R)
   (he:∀x∈xs,∀v,out x=some v->∀G,qm H G->∀R:V->Hp->Prop,(∀G',qm G G'->R v G')->te (some (enc x)::rest) G R)
   (k:∀G,qm H G->G D=some (.lst (xs.filterMap out))->Q G):X2 (Mz K a) (JN 0) tt te D (none::rest) H Q:=by
 have sD:qm H (upd H D (.lst [])):=λb o h=>by
   rw[qj (λe=>by rw[e,hD]at h;cases h)]
   exact h
 refine jW (K:=K) (a:=a) (xs:=xs.map enc) (λi σ' G=>(∃v0,σ'=v0::rest)/\qm H G/\G D=some (.lst ((xs.take i).filterMap out))) ⟨⟨none,rfl⟩,sD,qd⟩ (λi σ' G _ ⟨_,s,_⟩=>.of (s _ _ ha)) ?_ ?_
 . rintro i y σ' G hy ⟨⟨v0,rfl⟩,s,hG⟩
   rw[tI]at hy
   cases ex:xs[i]? with
   | none=>rw[ex]at hy;cases hy
   | some x=>
     rw[ex]at hy
     obtain rfl:=(tO.inj hy).symm
     have hx:x∈xs:=tZ ex
     have et:(xs.take (i+1)).filterMap out=(xs.take i).filterMap out++(out x).toList:=by
       rw[tR,ex,zaq]
       cases c:out x<;>simp [c]
     show tt (some (enc x)::rest) G _
     refine ht x hx G s _ λG1 s1=>?_
     cases c:out x with
     | none=>
       show if false=true then _ else _
       rw[if_neg tP]
       refine⟨⟨_,rfl⟩,λb o h=>s1 _ _ (s _ _ h),?_⟩
       rw[et,c]
       simpa using s1 _ _ hG
     | some v=>
       show if true=true then _ else _
       rw[if_pos rfl]
       refine he x hx v c G1 (λb o h=>s1 _ _ (s _ _ h)) _ λG2 s2=>?_
       refine⟨_,s2 _ _ (s1 _ _ hG),?_,⟨_,rfl⟩,?_,?_⟩
       . refine zap (zaP _ _) ?_
         rw[tS]
         omega
       . intro b o h
         rw[qj (λe=>by rw[e,hD]at h;cases h)]
         exact s2 _ _ (s1 _ _ (s _ _ h))
       . rw[et,c]
         exact qd
 . rintro σ' G ⟨_,s,hG⟩
   rw[tj,tK (tF _)]at hG
   exact k G s hG
theorem Rv {α:Type} {K:PySem.W.Frag} {a D:Addr} {xs:List α} {enc:α->V} {out:α->Option V} {rest:St} {H:Hp} {tt:TT} {te:TE} {Q:Hp->Prop} (hD:H D=none) (ha:H a=some (.tup (xs.map enc))) (len:xs.length < sizeLine)
   (ht:∀x∈xs,∀G,qm H G->∀R:Bool->Hp->Prop,(∀G',qm G G'->R (out x).isSome G')->tt (some (enc x)::rest) G R)
   (he:∀x∈xs,∀v,out x=some v->∀G,qm H G->∀R:V->Hp->Prop,(∀G',qm G G'->R v G')->te (some (enc x)::rest) G R)
   (k:∀G,qm H G->G D=some (.lst (xs.filterMap out))->Q G):X2 (My K a) (JN 0) tt te D (none::rest) H Q:=by
 have sD:qm H (upd H D (.lst [])):=λb o h=>by
   rw[qj (λe=>by rw[e,hD]at h;cases h)]
   exact h
 refine kx (K:=K) (a:=a) (xs:=xs.map enc) (λi σ' G=>(∃v0,σ'=v0::rest)/\qm H G/\G D=some (.lst ((xs.take i).filterMap out))) ⟨⟨none,rfl⟩,sD,qd⟩ (λi σ' G _ ⟨_,s,_⟩=>.of (s _ _ ha)) ?_ ?_
 . rintro i y σ' G hy ⟨⟨v0,rfl⟩,s,hG⟩
   rw[tI]at hy
   cases ex:xs[i]? with
   | none=>rw[ex]at hy;cases hy
   | some x=>
     rw[ex]at hy
     obtain rfl:=(tO.inj hy).symm
     have hx:x∈xs:=tZ ex
     have et:(xs.take (i+1)).filterMap out=(xs.take i).filterMap out++(out x).toList:=by
       rw[tR,ex,zaq]
       cases c:out x<;>simp [c]
     show tt (some (enc x)::rest) G _
     refine ht x hx G s _ λG1 s1=>?_
     cases c:out x with
     | none=>
       show if false=true then _ else _
       rw[if_neg tP]
       refine⟨⟨_,rfl⟩,λb o h=>s1 _ _ (s _ _ h),?_⟩
       rw[et,c]
       simpa using s1 _ _ hG
     | some v=>
       show if true=true then _ else _
       rw[if_pos rfl]
       refine he x hx v c G1 (λb o h=>s1 _ _ (s _ _ h)) _ λG2 s2=>?_
       refine⟨_,s2 _ _ (s1 _ _ hG),?_,⟨_,rfl⟩,?_,?_⟩
       . refine zap (zaP _ _) ?_
         rw[tS]
         omega
       . intro b o h
         rw[qj (λe=>by rw[e,hD]at h;cases h)]
         exact s2 _ _ (s1 _ _ (s _ _ h))
       . rw[et,c]
         exact qd
 . rintro σ' G ⟨_,s,hG⟩
   rw[tj,tK (tF _)]at hG
   exact k G s hG
theorem Rw {n:Nat} {D:Addr} {out:Nat->Option V} {rest:St} {H:Hp} {tt:TT} {te:TE} {Q:Hp->Prop} (hD:H D=none) (len:n < sizeLine)
   (ht:∀x,x < n->∀G,qm H G->∀R:Bool->Hp->Prop,(∀G',qm G G'->R (out x).isSome G')->tt (some (.int (x:Int))::rest) G R)
   (he:∀x,x < n->∀v,out x=some v->∀G,qm H G->∀R:V->Hp->Prop,(∀G',qm G G'->R v G')->te (some (.int (x:Int))::rest) G R)
   (k:∀G,qm H G->G D=some (.lst ((zac n).filterMap out))->Q G):X2 (R7 0 n) (JN 0) tt te D (none::rest) H Q:=by
 have sD:qm H (upd H D (.lst [])):=λb o h=>by
   rw[qj (λe=>by rw[e,hD]at h;cases h)]
   exact h
 refine JQ (λi σ' G=>(∃v0,σ'=v0::rest)/\qm H G/\G D=some (.lst ((zac i).filterMap out))) ⟨⟨none,rfl⟩,sD,qd⟩ ?_ ?_
 . rintro i σ' G hi ⟨⟨v0,rfl⟩,s,hG⟩
   rw[zbY]
   have et:(zac (i+1)).filterMap out=(zac i).filterMap out++(out i).toList:=by
     rw[zco,zaq]
     cases c:out i<;>simp [c]
   show tt (some (.int (i:Int))::rest) G _
   refine ht i hi G s _ λG1 s1=>?_
   cases c:out i with
   | none=>
     show if false=true then _ else _
     rw[if_neg tP]
     refine⟨⟨_,rfl⟩,λb o h=>s1 _ _ (s _ _ h),?_⟩
     rw[et,c]
     simpa using s1 _ _ hG
   | some v=>
     show if true=true then _ else _
     rw[if_pos rfl]
     refine he i hi v c G1 (λb o h=>s1 _ _ (s _ _ h)) _ λG2 s2=>?_
     refine⟨_,s2 _ _ (s1 _ _ hG),?_,⟨_,rfl⟩,?_,?_⟩
     . refine zap (zaP _ _) ?_
       rw[zan]
       omega
     . intro b o h
       rw[qj (λe=>by rw[e,hD]at h;cases h)]
       exact s2 _ _ (s1 _ _ (s _ _ h))
     . rw[et,c]
       exact qd
 . rintro σ' G ⟨_,s,hG⟩
   exact k G s hG
open PySem PyProof.Rows
section
variable {prog:Program} {w:World} {KK:Type} [DecidableEq KK] {kd:HeapKind prog w KK} {A:Around} {E:Value->Shared->Prop} {s:Shared}
end
section
variable {X:Cx} {pins:List (Addr×Obj)} {σ:St} {H:Hp} {s:Shared} {a b:Addr} {v:V} {r:Value} {A:Around} {E:Value->Shared->Prop}
end
section
variable {X:Cx} {o e f:Expr} {apos cpos:Pos} {td ty tx:TE}
end
open PySem PyProof.Rows
section
variable {X:Cx}
def qal:R2:=λx y H Q=>∃a b xs ys,x=.ref a/\y=.ref b/\H a=some (.tup xs)/\H b=some (.tup ys)/\xs.length+ys.length<=sizeLine/\∀r H',qm H H'->H' r=some (.tup (xs++ys))->Q (.ref r) H'
theorem KS:ZI X (binaryOp .Add) qal:=by
 intro pins s σ H x y v u Q I rx ry h
 obtain⟨a,b,xs,ys,rfl,rfl,ha,hb,hz,q⟩:=h
 cases rx
 cases ry
 have sq:∀{c:Addr} {zs:List V},H c=some (.tup zs)->Y5 X.K H c zs:=λh=>.of h
 obtain⟨its,r1,p1,_⟩:=I.tuple (sq ha)
 obtain⟨its2,r2,p2,_⟩:=I.tuple (sq hb)
 have sm:qm H H:=λ_ _ h=>h
 by_cases hx:xs=[]
 . subst hx
   cases r1
   obtain⟨⟨c1,d1,e1,f1⟩,o1,k1,n1,g1⟩:=id p1
   obtain⟨⟨c2,d2,e2,f2⟩,o2,k2,n2,g2⟩:=id p2
   simp only at k1 g1 k2 g2
   subst k1 g1 k2 g2
   exact concat_meets ⟨_,o1,rfl⟩ ⟨_,o2,rfl⟩ noFill_tuple_add seq_tuple_add zcv zcr (zcg _ _) (tuple_addW0 a b _ _ n1 n2 d1 d2 f1 f2 rfl) ⟨o1,o2,.ref b,H,I,rfl,q b H sm hb⟩
 . refine HT.cat_tup p1 p2 (λz=>hx (r1.nil_iff.mp z)) (λz=>⟨.ref a,H,I,rfl,q a H sm ?_⟩) (λz=>?_) (by rw[<-r1.length,<-r2.length];exact hz)
   . rw[r2.nil_iff.mp z,zax]
     exact ha
   . have fr:=I.hok.fresh (tF s.heap.objs.size)
     refine⟨.ref s.heap.objs.size,_,I.laid (t':=s.toks) (o:=.tup (xs++ys)) (λc ob e=>tG _ e) (tF _) ⟨by rw[tL];exact hz,_,r1.append r2,IsTup.new _ _⟩,rfl,q _ _ (λc o e=>?_) qd⟩
     rw[qj (λw=>by rw[w,fr]at e;cases e)]
     exact e
end
section
variable {X:Cx} {pins:List (Addr×Obj)} {σ:St} {H:Hp} {s:Shared} {tg:Expr}
def uG (o:Obj):Nat:=match o.data with
 | .dict _ ep=>ep
 | _=>0
theorem qD.freeze {a:Addr} {kvs:List (qL×V)} (I:qD X pins σ H s) (e:H a=some (.dK kvs)):∃o,qD X pins σ (upd H a (.frz o (.dK kvs))) s:=by
 obtain⟨z,hd,vs,rel,o,es,ep,ho,r⟩:=(show qX X.prog X.w H s.heap a (.dK kvs) from I.hok a _ e)
 have mu:MI (H a):=by rw[e];exact True.intro
 have un:Un X.fs [] H (upd H a (.frz o (.dK kvs))) s.heap s.heap:=Un.write mu (.inl rfl) (λb u _ q=>q) ⟨o,ho⟩
 have ok:ZJ X.prog X.w (upd H a (.frz o (.dK kvs))) s.heap:=I.hok.write mu (.inl rfl) (λb u _ q=>q) ⟨o,ho⟩ ⟨ho,z,hd,vs,rel,o,es,ep,ho,r⟩
 exact⟨o,I.un (t':=s.toks) un ok⟩
def qbh (te:TE):TE:=λσ H Q=>te σ H λx H1=>∃a kvs,x=.ref a/\H1 a=some (.dK kvs)/\∀o,Q x (upd H1 a (.frz o (.dK kvs)))
theorem Mf {e:Expr} {te:TE} (h:JE X e te):JE X e (qbh te):=.of (by
 have h:=h.to
 intro pins s σ H Q I hw
 refine jl (h pins s σ H _ I hw) λv s1 ⟨x,H1,I1,r1,a,kvs,ex,ea,q⟩=>?_
 obtain⟨o,I2⟩:=I1.freeze ea
 exact⟨x,_,I2,r1,q o⟩)
def Itk (a:Addr) (o:Obj) (kvs:List (qL×V)) (zs:List Str):It:=
 ⟨λi H=>H a=some (.frz o (.dK kvs))/\i < zs.length,λi H x H'=>H'=H/\∃z,zs[i]?=some z/\x=.str z,λi H=>H a=some (.frz o (.dK kvs))/\i=zs.length⟩
theorem U4 {P:Program} {w:World} {h:Heap} {a:Addr} {o:Obj} {kvs:List (qL×V)} (ok:ZJ P w H h) (e:H a=some (.frz o (.dK kvs))):(a==sysModules)=false/\∃vs,KV kvs vs/\h.DictAt (jm P w) a vs (uG o):=by
 obtain⟨ho,z,hd,vs,rel,o',es,ep,ho',ex,dat,r⟩:=(show qX P w H h a (.frz o (.dK kvs)) from ok a _ e)
 rw[ho]at ho'
 cases ho'
 refine⟨hd,vs,rel,o,es,ho,ex,?_,r⟩
 unfold uG
 rw[dat]
theorem Gw {P:Program} {w:World} {kvs:List (qL×V)} {vs:List (qL×Value)} {zs:List Str} (rel:KV kvs vs) (ek:kvs.map (·.1)=zs.map Sum.inr) {i:Nat} {z:Str} {k:qL} {y v:Value} (ez:zs[i]?=some z) (f1:vs[i]?=some (k,y)) (f2:(jm P w).is k v=true):qQ (.str z) v:=by
 have hi:i < kvs.length:=by
   have h1:=(tE.mp ez).1
   have h2:kvs.length=zs.length:=by simpa using congrArg zaz ek
   omega
 obtain⟨q',g1,g2,_⟩:=ZX rel (tH hi)
 rw[f1]at g1
 cases g1
 have h1:(kvs.map (·.1))[i]?=some kvs[i].1:=by rw[tI,tH hi];rfl
 rw[ek,tI,ez]at h1
 have e3:k=Sum.inr z:=g2.symm.trans (tO.inj h1).symm
 subst e3
 rcases js (show XH (Sum.inr z) v=true from f2) with ⟨_,_,c,_⟩ | ⟨w',t,c,rfl⟩
 . cases c
 . cases c
   exact⟨t,rfl⟩
theorem kJ {P:Program} {w:World} {K:PySem.W.Frag} (a it:Addr) (o:Obj) (kvs:List (qL×V)) (zs:List Str) (ek:kvs.map (·.1)=zs.map Sum.inr):Up P w K tg (Itk a o kvs zs) [it] it (λi h=>h.IsKeyIter it a i zs.length (uG o)) where
 mem:=by simp
 obj:=λi h st b hb=>by
   have e:b=it:=by simpa using hb
   subst e
   obtain⟨o,e,c,d⟩:=st
   exact⟨o,e,λv z=>by rw[d]at z;cases z⟩
 keep:=λi h h' st k=>let ⟨o,e,r⟩:=st;⟨o,k it (by simp) o e,r⟩
 item:=by
   intro X hP hw hK hc i pins s σ H E I hf st hg
   subst hP hw hK
   obtain⟨f0,f1,f2,f3,f4,f5⟩:=hf it (by simp)
   obtain⟨ea,hi⟩:=hg
   obtain⟨_,vs,rel,dat⟩:=U4 I.hok ea
   have lv:vs.length=zs.length:=by
     have h1:kvs.length=zs.length:=by simpa using congrArg zaz ek
     rw[<-Paired.length rel,h1]
   have ne:a≠it:=λe=>by rw[e,f0]at ea;cases ea
   rw[<-lv]at st
   refine(Walks.dictKeys (I.ok.hd hc) it a ne vs (uG o)).item i s _ _ (by omega) ⟨st,dat⟩ λv h' tk hv st' kk=>?_
   have I1:qD X pins σ H {s with heap:=h',toks:=tk}:=I.turned (λb o hb e=>kk b o (by simpa using hb) e) f0 f1 f3 f4 f5
   obtain⟨k,y,g1,g2⟩:=hv
   obtain⟨o2,e2,c2,d2⟩:=id st'.1
   refine⟨_,rfl,V9 (s:={s with heap:=h',toks:=tk}) e2 c2 d2 (by decide) ⟨.str zs[i],H,I1,Gw rel ek (tH hi) g1 g2,⟨rfl,_,tH hi,rfl⟩,?_,λb hb=>(hf b hb).1⟩⟩
   rw[<-lv]
   exact st'.1
 done:=by
   intro X hP hw hK hc i pins s σ H E I hf st hg
   subst hP hw hK
   obtain⟨f0,f1,f2,f3,f4,f5⟩:=hf it (by simp)
   obtain⟨ea,hi⟩:=hg
   obtain⟨_,vs,rel,dat⟩:=U4 I.hok ea
   have lv:vs.length=zs.length:=by
     have h1:kvs.length=zs.length:=by simpa using congrArg zaz ek
     rw[<-Paired.length rel,h1]
   have ne:a≠it:=λe=>by rw[e,f0]at ea;cases ea
   subst hi
   rw[<-lv]at st
   exact(Walks.dictKeys (I.ok.hd hc) it a ne vs (uG o)).done s _ _ ⟨st,dat⟩ λh' tk kk=>⟨rfl,I.turned (λb o hb e=>kk b o (by simpa using hb) e) f0 f1 f3 f4 f5⟩
 self:=λ_ _ _ _ _ st h=>wpAny_pyIter_keyiter st h
def qbO (tl:TE):TI:=λσ H R=>tl σ H λx H1=>∃a o kvs zs,x=.ref a/\H1 a=some (.frz o (.dK kvs))/\kvs.map (·.1)=zs.map Sum.inr/\R (Itk a o kvs zs) H1
theorem Mc {l:Expr} {tl:TE} (hl:JE X l tl):JI X tg l (qbO tl):=.of (by
 have hl:=hl.to
 intro pins s σ H R I h
 refine jl (hl pins s σ H _ I h) λv s1 ⟨x,H1,I1,r1,q1⟩=>?_
 obtain⟨a,o,kvs,zs,e,ea,ek,q⟩:=q1
 subst e
 cases r1
 obtain⟨hd,vs,rel,dat⟩:=U4 I1.hok ea
 have lv:vs.length=zs.length:=by
   have h1:kvs.length=zs.length:=by simpa using congrArg zaz ek
   rw[<-Paired.length rel,h1]
 refine wpAny_pyIter_dict hd dat ?_
 refine⟨s1.heap.objs.size,[s1.heap.objs.size],_,_,H1,rfl,I1.kept (t':=s1.toks) λb o e=>tG _ e,kJ a _ o kvs zs ek,?_,λb hb=>?_,q⟩
 . rw[<-lv]
   exact⟨_,tY _ rfl,rfl,rfl⟩
 . have e:b=s1.heap.objs.size:=by simpa using hb
   subst e
   exact I1.fpOk (tF _) (I1.hok.fresh (tF _)))
end
section
variable {a:Addr} {o:Obj} {kvs:List (qL×V)} {zs:List Str} {g:TG} {σ:St} {H:Hp}
theorem Rg {tb:TS} {D:Za} (Pv:Nat->St->Hp->Prop) (h0:Pv 0 σ H) (hl:∀i σ H,i<=zs.length->Pv i σ H->H a=some (.frz o (.dK kvs)))
   (hs:∀i z σ H,zs[i]?=some z->Pv i σ H->g (.str z) σ H λσ2 H2=>tb {D with nx:=Pv (i+1),ct:=Pv (i+1),bk:=D.nx} σ2 H2) (hd:∀σ H,Pv zs.length σ H->D.nx σ H):
   ∃W:Nat->Nat->St->Hp->Prop,(∃m,W 0 m σ H)/\∀i m σ H,W i m σ H->
    ((Itk a o kvs zs).stop i H/\D.nx σ H)\/((Itk a o kvs zs).go i H/\∃N:St->Hp->Prop,(∀σ' H',N σ' H'->∃m',m' < m/\W (i+1) m' σ' H')/\∀x H',(Itk a o kvs zs).yld i H x H'->g x σ H' λσ2 H2=>tb {D with nx:=N,ct:=N,bk:=D.nx} σ2 H2):=by
 refine⟨λi m σ H=>m=zs.length - i/\i<=zs.length/\Pv i σ H,⟨zs.length,by simp,zay _,h0⟩,?_⟩
 rintro i m σ H ⟨rfl,hi,p⟩
 have q:=hl i σ H hi p
 by_cases hlt:i < zs.length
 . refine .inr ⟨⟨q,hlt⟩,Pv (i+1),λσ' H' p'=>⟨zs.length - (i+1),by omega,rfl,hlt,p'⟩,λx H' y=>?_⟩
   obtain⟨e,z,ez,rfl⟩:=y
   subst e
   exact hs i z σ _ ez p
 . have e:i=zs.length:=by omega
   subst e
   exact .inl ⟨⟨q,rfl⟩,hd σ H p⟩
end
section
variable {P:Program} {w:World} {K:PySem.W.Frag} {mg:Str->Option Value} {base:Heap}
end
section
variable {X:Cx} {es:List Expr} {t:TA} {pos:Pos}
end
section
variable {X:Cx}
def qby (K:PySem.W.Frag) (neg:Bool):R2:=λx y H Q=>∃d ds,DV K H x d/\DV K H y (.list ds)/\d.canLay0=true/\PyData.canLayAll0 ds=true/\d.depth<=40/\Q (.bl (if neg then !(ds.any λz=>PyData.eqv z d) else ds.any λz=>PyData.eqv z d)) H
theorem ya (hu:X.A.units+64 < cLine):ZI X (compareOp .NotIn) (qby X.K true):=by
 intro pins s σ H x y v u Q I rx ry h
 obtain⟨d,ds,h1,h2,c1,c2,dp,q⟩:=h
 obtain⟨as,ra⟩:=h1.reads I rx
 obtain⟨bs,rb⟩:=h2.reads I ry
 refine SeqAt.notIn_list_reads rb ra c2 c1 ?_ ⟨.bl _,H,I,rfl,q⟩
 have:=zdi (PyData.depthAll ds) d.depth
 omega
end
section
variable {X:Cx} {pins pins0:List (Addr×Obj)} {σ σ0:St} {H H0:Hp} {s s0:Shared}
end
section
variable {X:Cx}
end
open PySem PyProof.Rows
end L2
namespace HT
open PySem PySem.Spec PyProof.Rows
section
variable {prog:Program} {w:World} {A:Around} {E:Value->Shared->Prop} {s:Shared}
end
end HT
namespace L2
open PySem PySem.Spec PyProof.Rows
section
variable {X:Cx}
end
open PySem PyProof.Rows
section
variable {X:Cx} {CX:Y6} {C:Addr->Sp->Prop} {E:St->XK} {x:Str} {p pos:Pos} {e:Expr} {es:List Expr} {t:TA} {i:Nat}
end
section
variable {M:Model} {A:Around} {F:Value->Shared->Prop} {s:Shared} {e:Addr} {cl:Value} {d:Option Addr} {vs:Array Value} {Q:Unit->Shared->Prop}
end
section
variable {X:Cx} {pins:List (Addr×Obj)} {σ:St} {H:Hp} {s:Shared} {M:Model} {F:Value->Shared->Prop} {Q:Unit->Shared->Prop} {a C dx:Addr}
end
section
variable {P:Program} {w:World} {K:PySem.W.Frag} {mg:Str->Option Value} {base:Heap} {N:List Str} {qual:Str} {scope:Scope} {f:Addr} {cd:Value} {A:Around} {outer:List Env} {s₀:Shared} {H₀:Hp} {E:XK}
end
section
variable {X:Cx}
end
def qaR:Obj:={cls:=.type "cell",data:=.cell none}
structure OwnC (n:Nat) (l:List (Str×NameKind)) (cs cs':List (Str×Addr)) (h h':Heap):Prop where
 kp:∀b o,h.get? b=some o->h'.get? b=some o
 same:∀x,(x,NameKind.cell)∉l->cs'.lookup x=cs.lookup x
 own:∀x,(x,NameKind.cell)∈l->∃c,cs'.lookup x=some c/\n<=c/\h'.get? c=some qaR
 inj:∀x y c,(x,NameKind.cell)∈l->(y,NameKind.cell)∈l->cs'.lookup x=some c->cs'.lookup y=some c->x=y
structure qb0 (X:Cx) (N':List Str) (ix:List (Option Nat)) (scope:Scope):Prop where
 kind:scope.kind=.function
 nd:(scope.names.map (·.1)).Nodup
 frees:(scope.names.all λx=>x.2 != .free || (X.env.scope.names.lookup x.1==some .cell || X.env.scope.names.lookup x.1==some .free))=true
 ixs:GY N' X.N scope X.env.scope ix=true
section
variable {X:Cx} {N':List Str} {ix:List (Option Nat)} {scope:Scope} {pins:List (Addr×Obj)} {σ:St} {H:Hp} {s:Shared}
end
section
variable {X:Cx} {N':List Str} {ix:List (Option Nat)} {scope:Scope}
end
section
variable {X:Cx} {CX:Y6} {k:Nat} {f C:Addr} {fd:FuncData} {ps:List Str} {sp:Sp} {dvs:List V} {ds:List Value} {E:St->XK} {m:Str} {pos apos:Pos} {e o:Expr} {es:List Expr} {ta:TE} {t:TA}
end
section
variable {X:Cx}
end
open PySem PySem.Spec PyProof.Rows PySem.W
section
variable {X:Cx}
end
section
variable {P:Program} {w:World} {K:PySem.W.Frag} {mg:Str->Option Value} {base:Heap} {CX:Y6} {k:Nat} {f:Addr} {fd:FuncData} {ps:List Str} {sp sp':Sp}
end
open PySem PySem.Spec PyProof.Rows PySem.W
section
variable {X:Cx}
end
def RawD (h:Heap) (d:Addr) (es:Array DictEntry) (ep:Nat):Prop:=∃o,h.get? d=some o/\o.ExactDict/\o.data=.dict es ep
section
variable {prog:Program} {w:World} {A:Around} {E:Value->Shared->Prop} {s:Shared} {it d:Addr} {es:Array DictEntry} {i ep:Nat}
end
section
variable {X:Cx} {pins:List (Addr×Obj)} {σ:St} {H:Hp} {s:Shared} {tg:Expr}
end
section
variable {a:Addr} {o:Obj} {u:HO} {g:TG} {σ:St} {H:Hp}
end
open PySem PySem.Spec PyProof.Rows PySem.W
section
variable {X:Cx}
end
section
variable {prog:Program} {w:World} {KK:Type} [DecidableEq KK] {kd:HeapKind prog w KK} {A:Around} {E:Value->Shared->Prop} {s:Shared}
end
section
variable {X:Cx}
end
structure FnLd (P:Program) (w:World) (K:PySem.W.Frag) (mg:Str->Option Value) (base:Heap) (k:Nat) (f:Addr) (fd:FuncData) (ps:List Str) (sp:Sp):Prop where
 len:∀vs H Q E,sp vs H Q E->vs.length=ps.length
 run:∀(A:Around) (a:Value) (outer:List Env) (s:Shared) (H:Hp) (args:Args) (us:List Value) (vs:List V) (Q:VK) (E:XK),qS k A->XZ P w K mg base (A.mark (some a)) outer s H->BindsTo s fd args (ps.zip us)->qJ vs us->sp vs H Q E->
   codeAny (model P w) (A.mark (some a)) (.call (.ref f) args) (CR qG outer P w H s Q E) s
section
variable {P:Program} {w:World} {K:PySem.W.Frag} {mg:Str->Option Value} {base:Heap}
end
section
variable {X:Cx} {k:Nat} {f:Addr} {fd:FuncData} {ps:List Str} {sp:Sp} {x:Str} {p pos:Pos} {e:Expr} {es:List Expr} {t:TA} {a:Value} {E:Value->Shared->Prop}
end
section
variable {X:Cx}
end
section
variable {X:Cx} {CX:Y6} {k:Nat} {f C:Addr} {fd:FuncData} {ps:List Str} {sp:Sp} {dvs:List V} {ds:List Value} {E:St->XK} {x m:Str} {p pos apos:Pos} {e o:Expr} {es:List Expr} {ta:TE} {t:TA}
end
section
variable {X:Cx}
end
section
variable {X:Cx} {pins:List (Addr×Obj)} {σ:St} {H:Hp} {s:Shared}
end
section
variable {prog:Program} {w:World} {A:Around} {E:Value->Shared->Prop} {s:Shared}
end
section
variable {X:Cx} {pos:Pos}
end
section
variable {X:Cx}
end
section
variable {X:Cx} {N':List Str} {ix:List (Option Nat)} {scope:Scope}
end
abbrev zz (o:Obj):HO:=.frz o (.frz o (.own 0))
def y3 (q:Str) (oc:Obj):Prop:=∃(vs:Array Value) (t:Tok),oc.data=.fields vs/\vs[1]?=some (.str q t)
structure XX (mg:Str->Option Value) (base:Heap) (c P:Addr):Prop where
 code:PySem.W.CodeHd base c P
 blt:base.BuiltinsAt mg P
abbrev Cx.shut (X:Cx):Cx:={X with fn:=λ_=>false}
theorem Vm {pos:Pos} {a b:Int} {c cv:Value} (l:List Value) (h:TriplesOk l) (e:codeAmong pos (l++[rawInt a,rawInt b,c])=some cv):codeAmong pos l=some cv\/cv=c:=by
 fun_induction TriplesOk l with
 | case1=>
   simp only[zds,codeAmong,rawInt]at e
   split at e
   . exact .inr (tO.inj e).symm
   . cases e
 | case2 a t b u x rest ih=>
   simp only[zcE,codeAmong]at e ⊢
   split at e
   . rename_i hc;rw[if_pos hc];exact .inl e
   . rename_i hc;rw[if_neg hc];exact ih h e
 | case3 l h1 h2=>exact h.elim
section
variable {X:Cx} {pins:List (Addr×Obj)} {σ:St} {H:Hp} {s:Shared}
theorem Cx.Ok.shut (o:X.Ok):X.shut.Ok:=⟨o.mod,o.kind,o.glob,o.blt,o.above,o.inj,o.has,λ_ _ z=>zdj z,o.hd,o.frames,o.stk,o.exf,o.bs,o.bsz,o.noex,o.exfs,o.funs,o.frf⟩
def Jy (cs:Addr->Option Obj) (H:Hp):Hp:=λb=>match cs b with
 | some o=>some (zz o)
 | none=>H b
theorem Je {cs:Addr->Option Obj} (hn:∀b o,cs b=some o->H b=none) {b:Addr} {u:HO} (e:H b=some u):Jy cs H b=some u:=by
 unfold Jy
 cases q:cs b with
 | none=>exact e
 | some o=>rw[hn b o q]at e;cases e
theorem Zq {cs:Addr->Option Obj} {b:Addr} (n:∀o,cs b≠some o):Jy cs H b=H b:=by
 unfold Jy
 cases q:cs b with
 | none=>rfl
 | some o=>exact absurd q (n o)
theorem zL {cs:Addr->Option Obj} {b:Addr} {o:Obj} (e:cs b=some o):Jy cs H b=some (zz o):=by unfold Jy;rw[e]
theorem qD.catchN (I:qD X pins σ H s) {cs:Addr->Option Obj} (hc:∀b o,cs b=some o->∃x v,X.env.cells.lookup x=some b/\X.fn x=true/\s.heap.get? b=some o/\o.data=.cell v):∀b o,cs b=some o->H b=none:=λb o e=>by
 obtain⟨x,v,h1,h2,_⟩:=hc b o e
 rcases I.freeC x b h1 with q | ⟨q,_⟩
 . exact q
 . rw[h2]at q;cases q
theorem qD.catch (I:qD X pins σ H s) (cs:Addr->Option Obj) (hc:∀b o,cs b=some o->∃x v,X.env.cells.lookup x=some b/\X.fn x=true/\s.heap.get? b=some o/\o.data=.cell v):qD X.shut pins σ (Jy cs H) s:=by
 have hn:=I.catchN hc
 have same:∀{b:Addr} {u:HO},H b=some u->Jy cs H b=some u:=λe=>Je hn e
 refine⟨I.ok.shut,I.os,I.bare,⟨I.base.keep,I.base.slot,λb o e n hx=>?_,I.base.there,λb xs e=>same (I.base.tups b xs e),λb o u e=>same (I.base.frzs b o u e),λb ps e=>?_⟩,I.loc,I.cell,?_,λx c e=>?_,λp hp=>?_,λb u e=>?_,I.len⟩
 . rw[Zq λo' q=>?_]
   . exact I.base.free b o e n hx
   . obtain⟨x,v,h1,h2,_⟩:=hc b o' q
     exact absurd (tT (tQ e) (I.ok.cab x b h2 h1)) (zaw _)
 . obtain⟨m,q⟩:=I.base.tbls b ps e
   exact⟨m,same q⟩
 . show Jy cs H X.env.locals=none
   rw[Zq λo' q=>?_]
   . exact I.free
   . obtain⟨x,v,h1,_⟩:=hc _ o' q
     exact I.cne x _ h1 rfl
 . cases q:cs c with
   | some o=>exact .inr ⟨rfl,o,zL q⟩
   | none=>
     have e2:Jy cs H c=H c:=Zq λo z=>by rw[q]at z;cases z
     rw[e2]
     exact(I.freeC x c e).imp id λz=>⟨rfl,z.2⟩
 . obtain⟨e,n,ne,nf,d⟩:=I.pin p hp
   refine⟨e,?_,ne,nf,d⟩
   rw[Zq λo' q=>?_]
   . exact n
   . obtain⟨x,v,h1,h2,h3,h4⟩:=hc _ o' q
     rw[e]at h3
     cases h3
     exact d v h4
 . cases q:cs b with
   | some o=>
     rw[zL q]at e
     cases e
     obtain⟨x,v,h1,h2,h3,h4⟩:=hc b o q
     exact⟨h3,h3,o,h3⟩
   | none=>
     rw[Zq λo z=>by rw[q]at z;cases z]at e
     exact(I.hok b u e).stay (λ_ _ _ z=>z) (λ_ z=>same z) (λ_ _ z=>same z) (λ_ _ z=>same z)
structure qbV (X:Cx) (σ:St) (H H':Hp) (P:Addr) (name qual:Str) (params:Arguments) (body:List Stmt) (scope:Scope) (f c':Addr) (doc pm ctv:Value) (oc:Obj):Prop where
 same:qm H H'
 new:H f=none
 fn:H' f=some (zz (zcy name qual params body scope (qN X.env scope.names []) doc pm c' ctv))
 cd:H' c'=some (.frz oc (.own P))
 cq:y3 qual oc
 cells:∀x,(x,NameKind.free)∈scope.names->∃ca co v,(qN X.env scope.names []).lookup x=some ca/\H' ca=some (zz co)/\co.data=.cell v/\∀(i:Nat) (y:V),X.N[i]?=some x->σ[i]?=some (some y)->∃u,v=some u/\qQ y u
 inj:∀x y c,(qN X.env scope.names []).lookup x=some c->(qN X.env scope.names []).lookup y=some c->x=y
def PB (X:Cx) (st:List Stmt) (t:TS):Prop:=
 ∀(pins:List (Addr×Obj)) (s:Shared) (σ:St) (H:Hp) (D:Za),qD X pins σ H s->t D σ H->wpAny (model X.prog X.w) X.A (execs st X.env) (λfl s'=>∃g,SP {X with fn:=g} pins D fl s') X.xe s
theorem qap {st:List Stmt} {t:TS} (h:Vr X st t):PB X st t:=λpins s σ H D I q=>jl (h.to pins s σ H D I q) λfl s' z=>⟨X.fn,z⟩
theorem KN {st:Stmt} {rest:List Stmt} {t u:TS} (h1:JS X st t) (h2:PB X rest u):PB X (st::rest) (u7 t u):=by
 intro pins s σ H D I h
 refine wpAny_execs_cons (jl (h1.to pins s σ H {D with nx:=u D} I h) λf s1 q=>?_)
 cases f with
 | next=>
   obtain⟨σ',H',I',q⟩:=q
   exact h2 pins s1 σ' H' D I' q
 | ret v=>exact⟨X.fn,q⟩
 | brk=>exact⟨X.fn,q⟩
 | cont=>exact⟨X.fn,q⟩
theorem qD.made_def {h':Heap} {P c':Addr} {ts:Array Value} {tk tq:Nat} {qual:Str} {pos:Pos} {oc fo:Obj} (I:qD X pins σ H s) (hP:H P=some (.tbl #[.str qual tq])) (eP:s.heap.get? P=some (zbG ts)) (tr:TriplesOk ts.toList)
   (cs:∀pos cv,codeAmong pos ts.toList=some cv->∃c oc,cv=.ref c/\H c=some (.frz oc (.own P))/\qaZ #[.str qual tq] oc) (hx:Heap.ExtBut P s.heap h') (hge:s.heap.objs.size<=c') (hlt:c' < h'.objs.size) (hoc:h'.get? c'=some oc) (hq:y3 qual oc)
   (htb:h'.get? P=some (zbG (ts++#[rawInt pos.line,rawInt pos.col,.ref c']))) (hfo:fo.isFreed=false):qD X pins σ (upd (upd H c' (.frz oc (.own P))) h'.objs.size (zz fo)) {s with heap:=h'.push fo,toks:=tk}:=by
 have hc0:H c'=none:=I.hok.fresh hge
 have hf0:H h'.objs.size=none:=I.hok.fresh (zak (zap hge hlt))
 have up:∀{b:Addr} {u:HO},H b=some u->upd (upd H c' (.frz oc (.own P))) h'.objs.size (zz fo) b=some u:=λ{b u} e=>by
   rw[qj (qA e hf0),qj (qA e hc0)]
   exact e
 have nP:∀{b:Addr},H b=none->b≠P:=λn z=>by rw[z,hP]at n;cases n
 have old:∀b o,b≠P->s.heap.get? b=some o->(h'.push fo).get? b=some o:=λb o n e=>tG _ (hx b o n e)
 have lt:∀{b:Addr} {o:Obj},s.heap.get? b=some o->b≠h'.objs.size/\b≠c':=λe=>⟨zab (zdP (tT (tQ e) hge) hlt),zab (tT (tQ e) hge)⟩
 refine I.step (g':=s.gens) (d':=s.drawn) (ch:=[]) (λ_ z=>nomatch z) (λb o _ _ _ e n=>old b o (nP n) e) (λb o _ _ _ e n=>⟨o.slots,old b o (nP n) e⟩) (λb o _ e n=>?_) (λb o _ e=>?_) (λb xs e=>up e) (λb o u e=>up e) (λb ps e=>⟨#[],by rw[up e];simp⟩) (λm hm=>(hm.extBut hx (nP I.free)).push _) (λb u e=>?_) I.bare
 . rw[qj (lt e).1,qj (lt e).2]
   exact n
 . rcases Decidable.em (b=P) with z | z
   . rw[z];exact⟨_,tG _ htb⟩
   . exact⟨o,old b o z e⟩
 . rcases Decidable.em (b=h'.objs.size) with z | z
   . subst z
     rw[qd]at e
     cases e
     have:=tY h' hfo
     exact⟨this,this,_,this⟩
   rw[qj z]at e
   rcases Decidable.em (b=c') with z2 | z2
   . subst z2
     rw[qd]at e
     cases e
     have:=tG fo hoc
     exact⟨this,_,this⟩
   rw[qj z2]at e
   rcases Decidable.em (b=P) with z3 | z3
   . subst z3
     rw[hP]at e
     cases e
     refine⟨_,tG _ htb,?_,λpos' cv q=>?_⟩
     . rw[zcf]
       exact TriplesOk_snoc _ _ _ _ tr
     . rw[zcf]at q
       rcases Vm _ tr q with q | q
       . obtain⟨c,oc',e1,e2,e3⟩:=cs pos' cv q
         exact⟨c,oc',e1,up e2,e3⟩
       . obtain⟨vs,t,h1,h2⟩:=hq
         exact⟨c',oc,q,by rw[qj (zab hlt),qd],qual,tq,vs,t,rfl,h1,h2⟩
   . refine(I.hok b u e).stay (λc v hc g=>old c v ?_ g) (λ_ z=>up z) (λ_ _ z=>up z) (λ_ _ z=>up z)
     rcases hc with z | z
     . rw[z];exact z3
     . intro z'
       rw[z',hP]at z
       cases z
def qbk (X:Cx) (P:Addr) (i:Nat) (name qual:Str) (params:Arguments) (body:List Stmt) (scope:Scope) (u:TS):TS:=λD σ H=>(∃tq,H P=some (.tbl #[.str qual tq]))/\∀f c' doc pm ctv oc H',qbV X (σ.set i (some (.ref f))) H H' P name qual params body scope f c' doc pm ctv oc->u D (σ.set i (some (.ref f))) H'
open Classical in
theorem NE {i:Nat} {c P:Addr} {name qual:Str} {params:Arguments} {body rest:List Stmt} {scope:Scope} {pos:Pos} {u:TS} (TM:XX X.mg X.base c P) (hN:X.N.Nodup) (hxi:X.N[i]?=some name) (hloc:X.env.scope.names.lookup name=some .local) (hcode:X.env.code=.ref c) (hq:qualnameIn X.env name name=qual)
   (hfr:(scope.names.all λx=>x.2 != .free || X.env.scope.names.lookup x.1==some .cell)=true) (hfn:∀x,X.fn x=true) (hd0:params.defaults=[]) (hk0:params.kw_defaults=[]) (ha:annTrees params none X.env=[]) (h2:PB X.shut rest u):
   PB X (.FunctionDef name params body [] none [] scope none name pos::rest) (qbk X P i name qual params body scope u):=by
 intro pins s σ H D I h
 obtain⟨⟨tq,hP⟩,h⟩:=h
 obtain⟨ts,eP,tr,cs⟩:=(show qX X.prog X.w H s.heap P (.tbl #[.str qual tq]) from I.hok P _ hP)
 refine wpAny_execs_cons (PySem.W.nestDef_K hd0 hk0 ha ?_)
 rw[hq]
 have hg:s.heap.Ns mainGlobals X.mg:=I.ok.mod.glob.keeps I.bk
 have CH:=TM.code.keeps I.bk
 have hb:s.heap.BuiltinsAt X.mg P:=by
   obtain⟨bm,o,b1,b2,b3,b4,b5,b6⟩:=TM.blt
   exact⟨bm,o,b1,b2,b3,b4,I.bk _ _ b5,b6⟩
 have hgP:mainGlobals≠P:=λz=>by
   obtain⟨o,es,ep,e,_⟩:=I.ok.mod.glob
   have:=(I.bs _ _ e).2
   rw[z,hP]at this
   cases this
 have frc:∀x,(x,NameKind.free)∈scope.names->X.env.scope.names.lookup x=some .cell:=λx hx=>by
   have:=zaK.mp hfr _ hx
   simpa using this
 have frc':∀x,(x,NameKind.free)∈scope.names->∃c,X.env.cells.lookup x=some c:=λx hx=>I.ok.has x (.inl (frc x hx))
 have hcl:closureFor scope X.env=pure (qN X.env scope.names []):=QH λx hx e=>frc' x.1 (by rw[<-e];exact hx)
 have clo:∀x,(x,NameKind.free)∈scope.names->∀ca,X.env.cells.lookup x=some ca->(qN X.env scope.names []).lookup x=some ca:=λx hx ca e=>by
   obtain⟨c2,hc2⟩:=Jd (env:=X.env) (cs:=[]) (.inl hx)
   rcases j8 hc2 with z | ⟨_,z⟩
   . simp at z
   . rw[e]at z
     rw[hc2,z]
     rfl
 have look:∀x c,(qN X.env scope.names []).lookup x=some c->X.env.cells.lookup x=some c:=λx c e=>by
   rcases j8 e with z | ⟨z1,z2⟩
   . simp at z
   . obtain⟨c2,h2⟩:=frc' x z1
     rw[h2]at z2
     rw[h2,z2]
     rfl
 have inj:∀x y c,(qN X.env scope.names []).lookup x=some c->(qN X.env scope.names []).lookup y=some c->x=y:=λx y c h1 h2=>I.ok.inj x y c (look x c h1) (look y c h2)
 have fin:∀{f c':Addr} {doc pm ctv:Value} {oc:Obj} {H1:Hp} {s1:Shared},qD X pins σ H1 s1->qm H H1->H f=none->H1 f=some (zz (zcy name qual params body scope (qN X.env scope.names []) doc pm c' ctv))->H1 c'=some (.frz oc (.own P))->y3 qual oc->
     wpAny (model X.prog X.w) X.A (storeName X.env name (.ref f)) (λ_ s''=>wpAny (model X.prog X.w) X.A (execs rest X.env) (λfl s'=>∃g,SP {X with fn:=g} pins D fl s') X.xe s'') X.xe s1:=λ{f c' doc pm ctv oc H1 s1} I1 sm nf e1 e2 e3=>by
   refine zS I1 hN hxi (.inl hloc) (v:=.ref f) rfl (λs2 I2 _=>?_) (.inr hloc)
   let cc:Addr->Option Obj:=λb=>if ∃x,(x,NameKind.free)∈scope.names/\X.env.cells.lookup x=some b then s2.heap.get? b else none
   have hc:∀b o,cc b=some o->∃x v,X.env.cells.lookup x=some b/\X.fn x=true/\s2.heap.get? b=some o/\o.data=.cell v:=λb o e=>by
     rcases Classical.em (∃x,(x,NameKind.free)∈scope.names/\X.env.cells.lookup x=some b) with z | z
     . have e':s2.heap.get? b=some o:=(if_pos z).symm.trans e
       obtain⟨x,hx,hxb⟩:=z
       obtain⟨v,o',ho,hd⟩:=I2.cell x b hxb
       rw[e']at ho
       cases ho
       exact⟨x,v,hxb,hfn x,e',hd⟩
     . have:cc b=none:=if_neg z
       rw[this]at e
       cases e
   have hn:=I2.catchN hc
   refine h2 pins s2 _ _ D (I2.catch cc hc) (h f c' doc pm ctv oc _ ⟨λb u e=>Je hn (sm _ _ e),nf,Je hn e1,Je hn e2,e3,λx hx=>?_,inj⟩)
   obtain⟨ca,hca⟩:=frc' x hx
   obtain⟨v,o,ho,hd⟩:=I2.cell x ca hca
   have ecc:cc ca=some o:=(if_pos ⟨x,hx,hca⟩).trans ho
   refine⟨ca,o,v,clo x hx ca hca,zL ecc,hd,λj y e1 e2=>?_⟩
   obtain⟨m,_,hl⟩:=I2.loc
   obtain⟨w',rw',lk⟩:=hl j x y e1 e2 (.inr (.inl (frc x hx)))
   rcases lk with ⟨k,_⟩ | ⟨_,c2,ec2,o2,ho2,hd2⟩
   . have k':X.env.scope.names.lookup x=some .local:=k
     rw[frc x hx]at k'
     cases k'
   . rw[hca]at ec2
     cases ec2
     rw[ho]at ho2
     cases ho2
     rw[hd]at hd2
     exact⟨w',Data.cell.inj hd2,rw'⟩
 cases hh:codeAmong pos ts.toList with
 | none=>
   refine PySem.W.makeFunction_K (mg:=X.mg) hcl I.ok.glob hg hcode CH eP tr hh hgP hb λc' ctv doc h' tk hx hge hlt hrec htb=>?_
   obtain⟨c2,oc,vs,t,e2,hoc,hd,hv⟩:=hrec
   cases e2
   have hc0:H c'=none:=I.hok.fresh hge
   have hf0:H h'.objs.size=none:=I.hok.fresh (zak (zap hge hlt))
   refine fin (I.made_def hP eP tr cs hx hge hlt hoc ⟨vs,t,hd,hv⟩ htb rfl) (λb u e=>?_) hf0 qd ?_ ⟨vs,t,hd,hv⟩
   . rw[qj (qA e hf0),qj (qA e hc0)]
     exact e
   . rw[qj (zab hlt),qd]
 | some cv=>
   obtain⟨c',oc,rfl,ec,q,t,vs,t',hq1,hd,hv⟩:=cs pos cv hh
   cases hq1
   refine PySem.W.makeFunction_hit (mg:=X.mg) hcl I.ok.glob hg hcode CH eP tr hh hb λctv doc h' tk hk hsz=>?_
   have hf0:H h'.objs.size=none:=I.hok.fresh hsz
   have e1:(h'.push (zcy name qual params body scope (qN X.env scope.names []) doc ((X.mg "__name__").getD .none) c' ctv)).get? h'.objs.size=some (zcy name qual params body scope (qN X.env scope.names []) doc ((X.mg "__name__").getD .none) c' ctv):=tY h' rfl
   refine fin (oc:=oc) (I.laid (t':=tk) (o:=zz (zcy name qual params body scope (qN X.env scope.names []) doc ((X.mg "__name__").getD .none) c' ctv)) (λb o e=>tG _ (hk b o e)) hsz ⟨e1,e1,_,e1⟩) (λb u e=>by rw[qj (qA e hf0)];exact e) hf0 qd ?_ ⟨vs,t',hd,hv⟩
   rw[qj (qA ec hf0)]
   exact ec
end
section
variable {P:Program} {w:World} {K:PySem.W.Frag} {mg:Str->Option Value} {base:Heap} {N:List Str} {qual:Str} {scope:Scope} {f:Addr} {cd:Value} {A:Around} {outer:List Env} {s₀:Shared} {H₀:Hp} {E:XK}
end
section
variable {P:Program} {w:World} {K:PySem.W.Frag} {mg:Str->Option Value} {base:Heap}
theorem jU.okB {CX:Y6} {x qual:Str} {st:Stmt} {f c:Addr} {fd:FuncData} {N ps:List Str} {k:Nat} {sp:Sp} (F:jU K x qual st f fd) (hc:fd.code=.ref c) (S:qp N ps (qh st)) (len:∀vs H Q E,sp vs H Q E->vs.length=ps.length)
   (hbody:∀(A:Around) (outer:List Env) (s:Shared) (H:Hp) (vs:List V) (Q:VK) (E:XK),qS k (A.deeper (envOfC qual (qh st) s.heap.objs.size f (.ref c)))->sp vs H Q E->
     ∃t,PB (XR CX P w K mg base N qual (qh st) f (.ref c) A outer s H E) (jq st) t/\t {nx:=λ_ H'=>Q .non H',rt:=Q} (jQ N vs) H):ql P w K mg base CX (k+1) f fd ps sp:=by
 obtain⟨oc,od,kV,doc,pm,an,cdv,ct,osl,rfl,lk,hcd⟩:=F.ex
 have hc':cdv=.ref c:=hc
 subst hc'
 refine⟨len,λA outer s H args us vs Q E hr e0 hb r hsp=>?_⟩
 have hl:=len _ _ _ _ hsp
 have KX:K.In s.heap:=e0.mod.kin.keeps λb o e=>(e0.bs b o e).1
 have lim:s.heap.NoLimit:=e0.mod.nolimit.keeps λb o e=>(e0.bs b o e).1
 have hkind:∀y∈ps.zip us,(qh st).names.lookup y.1=some .local\/((qh st).names.lookup y.1=some .cell/\((cellsFrom (s.heap.objs.size+1) (qh st).names []).lookup y.1).isSome=true):=λ⟨n,v⟩ hy=>by
   rcases S.par n (zbA hy).1 with q | q
   . exact .inl q
   . exact .inr ⟨q,zct _ _ _ (.inl q)⟩
 refine codeAny_call_function hr.depth (KX _ _ lk) rfl S.co S.gen rfl (zdH KX hcd) (hb _ _ _ _ ?_)
 refine wpAny_newFunctionEnv_cells S.kind hkind λenv he s1 x=>?_
 subst he
 refine⟨lim.keeps x.toInCall.keep,codeAny_func ?_⟩
 obtain⟨t,ht,hq⟩:=hbody A outer s H vs Q E (hr.deeper _) hsp
 have I:qD (XR CX P w K mg base N qual (qh st) f (.ref c) A outer s H E) [] (jQ N vs) H s1:=Ww S hr.hd e0 hl r x
 refine wpAny_mono (ht [] s1 (jQ N vs) H _ I hq) (λfl s' hs=>?_) λe s' hs=>hs
 obtain⟨g,hs⟩:=hs
 have fin:∀{σ':St} {H':Hp} {v:V} {u:Value},qD {XR CX P w K mg base N qual (qh st) f (.ref c) A outer s H E with fn:=g} [] σ' H' s'->qQ v u->Q v H'->CE outer P w H s Q u s':=
   λ{σ' H' v u} J rv q=>⟨v,H',J.os,J.bare,J.base,J.hok,rv,q⟩
 cases fl with
 | ret u=>
   obtain⟨v,σ',H',J,rv,q⟩:=hs
   exact fin J rv q
 | next=>
   obtain⟨σ',H',J,q⟩:=hs
   exact fin (v:=V.non) (u:=Value.none) J rfl q
 | brk=>
   obtain⟨_,_,_,q⟩:=hs
   exact False.elim q
 | cont=>
   obtain⟨_,_,_,q⟩:=hs
   exact False.elim q
end
structure zN (N ps fr:List Str) (sc:Scope):Prop where
 kind:sc.kind=.function
 co:sc.isCoroutine=false
 gen:sc.isGenerator=false
 nd:N.Nodup
 pre:N.take (ps++fr).length=ps++fr
 par:∀x∈ps,sc.names.lookup x=some .local
 free:∀x∈fr,sc.names.lookup x=some .free
 frees:∀y∈sc.names,y.2=.free->y.1∈fr
 nocell:∀y∈sc.names,y.2≠.cell
structure R9 (H:Hp) (P f:Addr) (name qual:Str) (st:Stmt) (fd:FuncData) (ws:List (Str×V)):Prop where
 ex:∃(doc pm ctv:Value) (c':Addr) (cl:List (Str×Addr)) (oc:Obj),fd=zdY name qual (Qc st) (jq st) (qh st) cl .none .none doc pm none (.ref c') ctv/\H f=some (zz {cls:=.type "function",data:=.func fd})/\H c'=some (.frz oc (.own P))/\y3 qual oc/\
   (∀x y c,cl.lookup x=some c->cl.lookup y=some c->x=y)/\(∀x c,cl.lookup x=some c->x∈ws.map (·.1))/\
   ∀x v,(x,v)∈ws->∃c o u,cl.lookup x=some c/\H c=some (zz o)/\o.data=.cell (some u)/\qQ v u
theorem R9.mono {H H':Hp} {P f:Addr} {name qual:Str} {st:Stmt} {fd:FuncData} {ws:List (Str×V)} (h:R9 H P f name qual st fd ws) (k:∀b o u,H b=some (.frz o u)->H' b=some (.frz o u)):R9 H' P f name qual st fd ws:=by
 obtain⟨doc,pm,ctv,c',cl,oc,h1,h2,h3,h4,h5,h6,h7⟩:=h.ex
 exact⟨doc,pm,ctv,c',cl,oc,h1,k _ _ _ h2,k _ _ _ h3,h4,h5,h6,λx v hx=>let ⟨c,o,u,a,b,d,e⟩:=h7 x v hx;⟨c,o,u,a,k _ _ _ b,d,e⟩⟩
def XS (CX:Y6) (P:Program) (w:World) (K:PySem.W.Frag) (mg:Str->Option Value) (base:Heap) (N:List Str) (qual:Str) (scope:Scope) (f:Addr) (cd:Value) (cl:List (Str×Addr)) (A:Around) (outer:List Env) (s:Shared) (H:Hp) (E:XK):Cx where
 prog:=P
 w:=w
 K:=K
 mg:=mg
 base:=base
 A:=A.deeper (zbZ qual scope s.heap.objs.size f cd cl)
 N:=N
 s₀:=s
 H₀:=H
 env:=zbZ qual scope s.heap.objs.size f cd cl
 outer:=outer
 stack:=zbZ qual scope s.heap.objs.size f cd cl::outer
 ex:=[]
 calm:=true
 fn:=λ_=>false
 pn:=[]
 xe:=λe s'=>wpAny (model P w) (A.deeper (zbZ qual scope s.heap.objs.size f cd cl)) (leaving (zbZ qual scope s.heap.objs.size f cd cl) e) (λ_ s''=>CX outer H s E e s'') (λe' s''=>CX outer H s E e' s'') s'
theorem XD {x:Str} {u:Value}:∀{ps:List Str} {us:List Value} {i:Nat},ps.Nodup->ps[i]?=some x->us[i]?=some u->(ps.zip us).reverse.lookup x=some u:=by
 intro ps
 induction ps with
 | nil=>intro us i _ h;cases h
 | cons p ps ih=>
   intro us i nd h1 h2
   cases us with
   | nil=>cases h2
   | cons v us=>
     rw[List.zip_cons_cons,zda]
     obtain⟨np,nd⟩:=zam.mp nd
     cases i with
     | zero=>
       obtain rfl:p=x:=by simpa using h1
       obtain rfl:v=u:=by simpa using h2
       have:(ps.zip us).reverse.lookup p=none:=by
         rw[List.lookup_eq_none_iff]
         intro q hq
         have:=(zbA (zcF.mp hq)).1
         simp only[beq_eq_false_iff_ne,ne_eq,Bool.not_eq_true,bne_iff_ne]
         intro z
         rw[z]at np
         exact np this
       rw[zdI,this]
       simp
     | succ i=>
       have:=ih nd (by simpa using h1) (by simpa using h2)
       rw[zdI,this]
       rfl
section
variable {P:Program} {w:World} {K:PySem.W.Frag} {mg:Str->Option Value} {base:Heap}
theorem Mq {CX:Y6} {PT f:Addr} {name qual:Str} {st:Stmt} {fd:FuncData} {N ps fr:List Str} {k:Nat} {sp:List (Str×V)->Sp} (S:zN N ps fr (qh st)) (len:∀ws vs H Q E,sp ws vs H Q E->vs.length=ps.length/\ws.map (·.1)=fr)
   (hbody:∀(c':Addr) (cl:List (Str×Addr)) (A:Around) (outer:List Env) (s:Shared) (H:Hp) (ws:List (Str×V)) (vs:List V) (Q:VK) (E:XK),qS k (A.deeper (zbZ qual (qh st) s.heap.objs.size f (.ref c') cl))->sp ws vs H Q E->
     ∃t,Vr (XS CX P w K mg base N qual (qh st) f (.ref c') cl A outer s H E) (jq st) t/\t {nx:=λ_ H'=>Q .non H',rt:=Q} (jQ N (vs++ws.map (·.2))) H):
   ql P w K mg base CX (k+1) f fd ps (λvs H Q E=>∃ws,R9 H PT f name qual st fd ws/\sp ws vs H Q E):=by
 refine⟨λvs H Q E ⟨ws,_,h⟩=>(len _ _ _ _ _ h).1,λA outer s H args us vs Q E hr e0 hb r ⟨ws,C,hsp⟩=>?_⟩
 obtain⟨hl,hw⟩:=len _ _ _ _ _ hsp
 obtain⟨doc,pm,ctv,c',cl,oc,rfl,hf,hcd,⟨vs',t',hd',hv'⟩,inj,clw,cells⟩:=C.ex
 have ef:=(show qX P w H s.heap f (zz _) from e0.hok f _ hf).1
 have ec:=(show qX P w H s.heap c' (.frz oc (.own PT)) from e0.hok c' _ hcd).1
 have lim:s.heap.NoLimit:=e0.mod.nolimit.keeps λb o e=>(e0.bs b o e).1
 refine codeAny_call_function hr.depth ef rfl S.co S.gen rfl ⟨c',oc,vs',t',rfl,ec,hd',hv'⟩ (hb _ _ _ _ ?_)
 refine wpAny_newFunctionEnv S.nocell (λy hy=>S.par y.1 (zbA hy).1) (λh1 hns hsb=>?_) S.kind
 have hk:∀b o,s.heap.get? b=some o->h1.get? b=some o:=λb o e=>hsb.extBut b o (zab (tQ e)) (tG _ e)
 refine⟨lim.keeps hk,codeAny_func ?_⟩
 obtain⟨t,ht,hq⟩:=hbody c' cl A outer s H ws vs Q E (hr.deeper _) hsp
 have noA:∀b:Addr,b∉(XS CX P w K mg base N qual (qh st) f (.ref c') cl A outer s H E).ex:=λb z=>absurd (show b∈([]:List Addr) from z) (by simp)
 have lw:ws.length=fr.length:=by have:=congrArg zaz hw;simpa using this
 have hN:ps.length+fr.length<=N.length:=by
   have:=congrArg zaz S.pre
   rw[tS,tL]at this
   omega
 have kn:∀x c,cl.lookup x=some c->∃o u,H c=some (zz o)/\o.data=.cell (some u):=λx c e=>by
   obtain⟨⟨y,v⟩,hy,rfl⟩:=tJ.mp (clw x c e)
   obtain⟨c2,o,u,a,b,d,_⟩:=cells y v hy
   rw[e]at a
   cases a
   exact⟨o,u,b,d⟩
 have I:qD (XS CX P w K mg base N qual (qh st) f (.ref c') cl A outer s H E) [] (jQ N (vs++ws.map (·.2))) H {s with heap:=h1,toks:=s.toks+(ps.zip us).length}:=by
   refine⟨⟨e0.mod,S.kind,rfl,rfl,tF _,inj,λy hy=>?_,λ_ _ z=>zdj z,λ_=>hr.hd,Around.frames_deeper e0.frames,.inr ⟨rfl,rfl⟩,λb z=>absurd z (noA b),e0.bs,e0.bsz,λb _ _=>noA b,λb z=>absurd z (noA b),e0.funs,e0.frf⟩,
     rfl,e0.bare,Un.kept hk,⟨_,hns,λi y v q1 q2 q3=>?_⟩,λy c h=>?_,e0.hok.fresh (tF _),λy c h=>?_,λp hp=>absurd (show p∈([]:List (Addr×Obj)) from hp) (by simp),e0.hok.kept hk,?_⟩
   . have hy:(qh st).names.lookup y=some .cell\/(qh st).names.lookup y=some .free:=hy
     rcases hy with hy | hy
     . exact absurd rfl (S.nocell _ (PySem.mem_of_lookup hy))
     . have:=S.frees _ (PySem.mem_of_lookup hy) rfl
       rw[<-hw]at this
       obtain⟨⟨z,v⟩,hz,ez⟩:=tJ.mp this
       obtain⟨c2,o,u,a,_⟩:=cells z v hz
       exact⟨c2,by rw[<-show z=y from ez];exact a⟩
   . have hi:i < (vs++ws.map (·.2)).length:=by
       rcases zbr i (vs++ws.map (·.2)).length with z | z
       . exact z
       . unfold jQ at q2
         rw[zad (by simpa using z),zcq]at q2
         split at q2<;>cases q2
     have q2':(vs++ws.map (·.2))[i]?=some v:=by
       unfold jQ at q2
       rw[zah (by simpa using hi),tI]at q2
       cases e:(vs++ws.map (·.2))[i]? with
       | none=>rw[e]at q2;cases q2
       | some z=>rw[e]at q2;cases q2;rfl
     rw[tL,tj]at hi
     have q1':(ps++fr)[i]?=some y:=by
       rw[<-S.pre,zbj (by rw[tL];omega)]
       exact q1
     rcases zbr i vs.length with z | z
     . rw[zah z]at q2'
       rw[zah (by omega)]at q1'
       obtain⟨u,hu,rv⟩:=r.get q2'
       have ndP:ps.Nodup:=by
         have:=S.nd.sublist (zcu (ps++fr).length N)
         rw[S.pre]at this
         exact(zcz.mp this).1
       exact⟨u,rv,.inl ⟨S.par y (tZ q1'),XD ndP q1' hu⟩⟩
     . rw[zad z,tI]at q2'
       rw[zad (by omega),<-hl]at q1'
       rw[<-hw,tI]at q1'
       cases e:ws[i - vs.length]? with
       | none=>rw[e]at q2';cases q2'
       | some yv=>
         rw[e]at q2' q1'
         obtain rfl:yv.1=y:=tO.inj q1'
         obtain rfl:yv.2=v:=tO.inj q2'
         have hm:yv∈ws:=tZ e
         obtain⟨c2,o,u,a,b,d,rv⟩:=cells yv.1 yv.2 hm
         have fy:(qh st).names.lookup yv.1=some .free:=S.free _ (by rw[<-hw];exact tJ.mpr ⟨yv,hm,rfl⟩)
         exact⟨u,rv,.inr ⟨.inr fy,c2,a,o,hk _ _ (show qX P w H s.heap c2 (zz o) from e0.hok c2 _ b).1,d⟩⟩
   . obtain⟨o,u,b,d⟩:=kn y c h
     exact⟨some u,o,hk _ _ (show qX P w H s.heap c (zz o) from e0.hok c _ b).1,d⟩
   . obtain⟨o,u,b,d⟩:=kn y c h
     exact .inr ⟨rfl,o,b⟩
   . show (jQ N (vs++ws.map (·.2))).length=N.length
     unfold jQ
     rw[tL,tj,zbQ,tL,tj]
     omega
 refine wpAny_mono (ht.to [] _ (jQ N (vs++ws.map (·.2))) H _ I hq) (λfl s' hs=>?_) λe s' hs=>hs
 have fin:∀{σ':St} {H':Hp} {v:V} {u:Value},qD (XS CX P w K mg base N qual (qh st) f (.ref c') cl A outer s H E) [] σ' H' s'->qQ v u->Q v H'->CE outer P w H s Q u s':=
   λ{σ' H' v u} J rv q=>⟨v,H',J.os,J.bare,J.base,J.hok,rv,q⟩
 cases fl with
 | ret u=>
   obtain⟨v,σ',H',J,rv,q⟩:=hs
   exact fin J rv q
 | next=>
   obtain⟨σ',H',J,q⟩:=hs
   exact fin (v:=V.non) (u:=Value.none) J rfl q
 | brk=>
   obtain⟨_,_,_,q⟩:=hs
   exact False.elim q
 | cont=>
   obtain⟨_,_,_,q⟩:=hs
   exact False.elim q
end
def Nd (i:Nat) (C:Addr->FuncData->Sp->Prop) (E:St->XK) (t:TA):TE:=λσ H Q=>∃f fd sp,σ[i]?=some (some (.ref f))/\C f fd sp/\H f=some (zz {cls:=.type "function",data:=.func fd})/\t σ H λvs H1=>H1 f=some (zz {cls:=.type "function",data:=.func fd})/\sp vs H1 Q (E σ)
section
variable {X:Cx} {CX:Y6} {C:Addr->FuncData->Sp->Prop} {E:St->XK} {x:Str} {p pos:Pos} {e:Expr} {es:List Expr} {t:TA} {i:Nat}
theorem uh (hN:X.N[i]?=some x) (hv:Mt X.env.scope x) (hC:∀f fd sp,C f fd sp->∃(k:Nat) (ps:List Str),ql X.prog X.w X.K X.mg X.base CX k f fd ps sp/\qS k X.A/\jP X.K fd ps []) (hx:Vq CX X E) (ha:JA X (e::es) t) (hdb:(x==("__debug__":Str))=false:=by decide) (hcd:(x==("__classdict__":Str))=false:=by decide) (he:starEach (e::es) X.env=(false,eval e X.env)::starEach es X.env:=by rfl) (hpl:(backTo pos (starEach es X.env)).any (·.1)=false:=by rfl):JE X (.Call (.Name x p) (e::es) [] pos) (Nd i C E t):=.of (by
 have ha:=ha.to
 intro pins s σ H Q I h
 obtain⟨f,fd,sp,eσ,c,hf,h⟩:=h
 obtain⟨k,ps,F,hr,hb⟩:=hC f fd sp c
 refine wpAny_Call_Name_kw (jl (wc hN hv hdb hcd pins s σ H (λv H'=>v=.ref f/\H'=H) I ⟨_,eσ,rfl,rfl⟩) λu s1 ⟨v,H1,I1,r1,e1,e2⟩=>?_)
 subst e1 e2
 cases r1
 have at_:∀{H2:Hp} {s2:Shared},qD X pins σ H2 s2->H2 f=some (zz {cls:=.type "function",data:=.func fd})->PySem.W.FnAt f s2.heap:=λI2 q=>⟨_,_,fd,_,(show qX X.prog X.w _ _ f (zz _) from I2.hok f _ q).1⟩
 exact PySem.W.callWith_F (at_ I1 hf) (jl (ha pos pins s1 σ _ _ I1 h) λus s2 ⟨vs,H2,I2,r,q0,q⟩=>⟨at_ I2 q0,KA F hr hb .nil hx I2 r (by simpa using q)⟩) he hpl)
end
structure Uq where
 x:Str
 c:Addr
 P:Addr
 q:Str
def Q3 (tabs:List Uq) (H:Hp):Hp:=λb=>match tabs.find? λq=>q.P==b with
 | some q=>some (.tbl #[.str q.q 0])
 | none=>H b
theorem Z5 {tabs:List Uq} {H:Hp} {b:Addr} (h:∀q∈tabs,q.P≠b):Q3 tabs H b=H b:=by
 unfold Q3
 cases e:tabs.find? λq=>q.P==b with
 | none=>rfl
 | some q=>exact absurd (beq_iff_eq.mp (List.find?_some (p:=λq:Uq=>q.P==b) e)) (h q (zcd e))
theorem zQ {tabs:List Uq} {H:Hp} {b:Addr} {q:Uq} (h:q∈tabs) (e:q.P=b):∃q'∈tabs,q'.P=b/\Q3 tabs H b=some (.tbl #[.str q'.q 0]):=by
 unfold Q3
 cases e2:tabs.find? λq=>q.P==b with
 | none=>exact absurd (beq_iff_eq.mpr e) (by simpa using zdJ.mp e2 q h)
 | some q'=>exact⟨q',zcd e2,beq_iff_eq.mp (List.find?_some (p:=λq:Uq=>q.P==b) e2),rfl⟩
theorem u6 {tabs:List Uq} {H:Hp} (nd:(tabs.map (·.P)).Nodup) {q:Uq} (h:q∈tabs):Q3 tabs H q.P=some (.tbl #[.str q.q 0]):=by
 obtain⟨q',h',e,r⟩:=zQ (H:=H) h rfl
 have:q'=q:=by
   have inj:∀{l:List Uq},(l.map (·.P)).Nodup->∀{a b:Uq},a∈l->b∈l->a.P=b.P->a=b:=by
     intro l
     induction l with
     | nil=>intro _ a b h;cases h
     | cons z l ih=>
       intro n a b ha hb e
       rw[tW,zam]at n
       rcases t8.mp ha with ea | ha
       . rcases t8.mp hb with eb | hb
         . rw[ea,eb]
         . exact absurd (tJ.mpr ⟨b,hb,by rw[<-e,ea]⟩) n.1
       . rcases t8.mp hb with eb | hb
         . exact absurd (tJ.mpr ⟨a,ha,by rw[e,eb]⟩) n.1
         . exact ih n.2 ha hb e
   exact inj nd h' h e
 rw[r,this]
theorem yD {P:Program} {w:World} {K:PySem.W.Frag} {mg mb:Str->Option Value} {CX:Y6} {k:Nat} {fa a:Addr} {fd:FuncData} {x:Str} {sp:Sp} {s₁:Shared} {vs:List Value} {ns:List Int} {tabs:List Uq}
   (KX:K.In s₁.heap) (hns:s₁.heap.Ns mainGlobals mg) (hb:s₁.heap.Ns builtinsNs mb) (hbb:∀x:Str,x≠"__name__"->mb x=bootBuiltins x) (hlim:s₁.heap.NoLimit) (hg:s₁.gens=#[])
   (ha:s₁.heap.get? a=some {cls:=.type "list",data:=.seq vs.toArray}) (hi:IntsAre vs ns) (hl:ns.length<=sizeLine) (hr:qS k callerA)
   (hT:∀q∈tabs,PySem.W.CodeHd s₁.heap q.c q.P/\s₁.heap.get? q.P=some (zbG #[])) (nd:(tabs.map (·.P)).Nodup) (hbl:∃bm o,mg "__builtins__"=some (.ref bm)/\bm≠builtinsNs/\bm≠mainGlobals/\s₁.heap.get? bm=some o/\o.cls=.type "module"/\o.dict=some builtinsNs/\o.data=.plain) (hnt:zdA K=true)
   (F:∀base:Heap,K.In base->base.Ns mainGlobals mg->(∀q∈tabs,XX mg base q.c q.P)->ql P w K mg base CX k fa fd [x] sp) (hbind:∀(s:Shared) (u:Value),BindsTo s fd ⟨[u],[]⟩ [(x,u)])
   (hsp:∀H:Hp,SqL K H a (ns.map V.int)->(∀q∈tabs,H q.P=some (.tbl #[.str q.q 0]))->sp [.ref a] H (λv _=>v=.bl true) λ_ _ _=>False)
   (hCX:∀H e s',CX [] H s₁ (λ_ _ _=>False) e s'->False):
   codeAny (model P w) callerA (.call (.ref fa) ⟨[.ref a],[]⟩) (λr s'=>r=.ok (.ret (.bool true))/\OldK s₁.heap s'.heap/\s'.os=s₁.os/\AllBare s'.gens) s₁:=by
 have rv:=We hi
 have lenV:=hi.length
 have naP:∀q∈tabs,q.P≠a:=λq hq z=>by
   have:=(hT q hq).2
   rw[z,ha]at this
   cases this
 have core:∀H0:Hp,qbT H0->SqL K H0 a (ns.map V.int)->ZJ P w H0 s₁.heap->(∀b,H0 b≠none->b=a)->(H0 a≠none->K.lookup a=none)->
     codeAny (model P w) callerA (.call (.ref fa) ⟨[.ref a],[]⟩) (λr s'=>r=.ok (.ret (.bool true))/\OldK s₁.heap s'.heap/\s'.os=s₁.os/\AllBare s'.gens) s₁:=by
   intro H0 hO hS0 hok0 hA hK
   have hS:SqL K (Q3 tabs H0) a (ns.map V.int):=by
     have e:Q3 tabs H0 a=H0 a:=Z5 naP
     rcases hS0 with (h | ⟨o,h⟩) | h
     . exact .inl (.inl (e.trans h))
     . exact .inl (.inr ⟨o,e.trans h⟩)
     . exact .inr h
   have cases_:∀b,Q3 tabs H0 b≠none->b=a\/∃q∈tabs,q.P=b:=λb z=>by
     rcases Classical.em (∃q∈tabs,q.P=b) with h | h
     . exact .inr h
     . rw[Z5 λq hq e=>h ⟨q,hq,e⟩]at z
       exact .inl (hA b z)
   have hok:ZJ P w (Q3 tabs H0) s₁.heap:=λb u e=>by
     rcases Classical.em (∃q∈tabs,q.P=b) with ⟨q,hq,eq⟩ | h
     . obtain⟨q',hq',e',r⟩:=zQ (H:=H0) hq eq
       rw[r]at e
       cases e
       exact⟨#[],by rw[<-e'];exact(hT q' hq').2,True.intro,λpos cv z=>nomatch z⟩
     . rw[Z5 λq hq e=>h ⟨q,hq,e⟩]at e
       have hb':b=a:=hA b (by rw[e];exact λz=>nomatch z)
       rcases hO b with z | ⟨o,xs,z⟩
       . rw[z]at e;cases e
       . rw[z]at e
         cases e
         obtain⟨h1,h2,its,n,h3,h4⟩:=(show qX P w H0 s₁.heap b (.frz o (.lst xs)) from hok0 b _ z)
         exact⟨h1,h2,its,n,h3,h4⟩
   have noT:∀{b:Addr} {o:Obj},s₁.heap.get? b=some o->o≠zbG #[]->o≠{cls:=.type "list",data:=.seq vs.toArray}->Q3 tabs H0 b=none:=λ{b o} e n1 n2=>by
     cases q:Q3 tabs H0 b with
     | none=>rfl
     | some u=>
       rcases cases_ b (by rw[q];exact λz=>nomatch z) with z | ⟨t,ht,z⟩
       . rw[z,ha]at e
         exact absurd (tO.inj e).symm n2
       . have:=(hT t ht).2
         rw[z,e]at this
         exact absurd (tO.inj this) n1
   have base_of:∀{b:Addr} {o:Obj},s₁.heap.get? b=some o->Q3 tabs H0 b=none->(X8 s₁.heap (Q3 tabs H0)).get? b=some o:=λe n=>ur e n
   have nsK:∀{b:Addr} {m:Str->Option Value},s₁.heap.Ns b m->(X8 s₁.heap (Q3 tabs H0)).Ns b m:=λ{b m} ⟨o,es,ep,e,d,r⟩=>⟨o,es,ep,base_of e (noT e (λz=>by rw[z]at d;cases d) (λz=>by rw[z]at d;cases d)),d,r⟩
   have hKb:K.In (X8 s₁.heap (Q3 tabs H0)):=λb o e=>base_of (KX b o e) (by
     cases q:Q3 tabs H0 b with
     | none=>rfl
     | some u=>
       rcases cases_ b (by rw[q];exact λz=>nomatch z) with z | ⟨t,ht,z⟩
       . have e1:Q3 tabs H0 a=H0 a:=Z5 naP
         rw[z,e1]at q
         rw[z,hK (by rw[q];exact λz=>nomatch z)]at e
         cases e
       . have:=(hT t ht).2
         rw[z,KX b o e]at this
         have h2:=zaK.mp hnt (b,o) (PySem.W.mem_of_lookupK e)
         rw[tO.inj this]at h2
         exact absurd (show false=true from h2) tP)
   have hM:Mod K mg (X8 s₁.heap (Q3 tabs H0)):=⟨hKb,nsK hns,⟨mb,nsK hb,hbb⟩,let ⟨mc,h1,h2⟩:=hlim;⟨mc,nsK h1,h2⟩⟩
   have hTM:∀q∈tabs,XX mg (X8 s₁.heap (Q3 tabs H0)) q.c q.P:=λq hq=>by
     refine⟨?_,?_⟩
     . obtain⟨o,vs',file,tf,flags,tg,inF,text,tt,e1,e2,r⟩:=(hT q hq).1
       exact⟨o,vs',file,tf,flags,tg,inF,text,tt,base_of e1 (noT e1 (λz=>by rw[z]at e2;cases e2) (λz=>by rw[z]at e2;exact absurd (show Value.type "list"=Value.type "code" from e2) (by decide))),e2,r⟩
     . obtain⟨bm,o,b1,b2,b3,b4,b5,b6,b7⟩:=hbl
       refine⟨bm,o,b1,b2,b3,λz=>?_,base_of b4 (noT b4 (λz=>by rw[z]at b5;cases b5) (λz=>by rw[z]at b5;exact absurd (show Value.type "list"=Value.type "module" from b5) (by decide))),b5,b6,b7⟩
       have:=(hT q hq).2
       rw[<-z,b4]at this
       cases this
       cases b5
   have e0:XZ P w K mg (X8 s₁.heap (Q3 tabs H0)) callerA [] s₁ (Q3 tabs H0):=⟨rfl,hM,λb o e=>Gj e,Nat.le_of_eq (yM _ _),trivial,λb hb=>absurd (show b∈([]:List Addr) from hb) (by simp),hok,.of_eq hg⟩
   refine codeAny_mono ((F _ hKb (nsK hns) hTM).run callerA [] s₁ (Q3 tabs H0) ⟨[.ref a],[]⟩ [.ref a] [.ref a] _ _ hr e0 (hbind s₁ (.ref a)) (.cons rfl .nil) (hsp _ hS λq hq=>u6 nd hq)) λr s' h=>?_
   cases r with
   | error e=>exact(hCX _ e s' h).elim
   | ok fl=>
     cases fl with
     | next=>exact False.elim h
     | brk=>exact False.elim h
     | cont=>exact False.elim h
     | ret u=>
       obtain⟨v,H',os,bare,un,hok',r',q⟩:=h
       have q':v=.bl true:=q
       subst q'
       obtain rfl:u=Value.bool true:=r'
       have all:∀b o,s₁.heap.get? b=some o->s'.heap.get? b=some o\/∃t∈tabs,t.P=b/\∃ts,s'.heap.get? b=some (zbG ts):=λb o e=>by
         rcases Classical.em (∃q∈tabs,q.P=b) with ⟨t,ht,et⟩ | h
         . obtain⟨t',ht',e',r⟩:=zQ (H:=H0) ht et
           obtain⟨m,z⟩:=un.tbls b _ r
           obtain⟨ts,z2,_⟩:=(show qX P w H' s'.heap b (.tbl _) from hok' b _ z)
           exact .inr ⟨t,ht,et,ts,z2⟩
         . have e1:Q3 tabs H0 b=H0 b:=Z5 λq hq e=>h ⟨q,hq,e⟩
           cases q:H0 b with
           | none=>exact .inl (un.keep b o e (e1.trans q) (by intro z;exact absurd (show b∈([]:List Addr) from z) (by simp)) (by simp))
           | some u=>
             rcases hO b with z | ⟨ob,xs,z⟩
             . rw[q]at z;cases z
             . have z2:=un.frzs b ob _ (e1.trans z)
               obtain⟨h1,_⟩:=hok0 b _ z
               obtain⟨h2,_⟩:=hok' b _ z2
               rw[e]at h1;cases h1
               exact .inl h2
       refine⟨rfl,⟨λb o e=>?_,λb o e=>?_⟩,os,bare⟩
       . rcases all b o e with z | ⟨t,ht,et,ts,z⟩
         . exact .inl z
         . have e2:=(hT t ht).2
           rw[et,e]at e2
           cases e2
           subst et
           exact .inr (.inl ⟨((hT t ht).1.tab (hT t ht).2).isCodeTable,rfl,#[],ts,rfl,by rw[Array.empty_append];exact z⟩)
       . rcases all b o e with z | ⟨t,ht,et,ts,z⟩
         . exact⟨_,z⟩
         . exact⟨_,z⟩
 cases hk:K.lookup a with
 | some o=>
   have e:=KX a o hk
   rw[ha]at e
   cases e
   refine core (λ_=>none) (λ_=>.inl rfl) (.inr ⟨_,vs.toArray,_,hk,rfl,rfl,rfl,by rw[t9,lenV];exact hl,by simpa using rv⟩) (λb u z=>by have z':(none:Option HO)=some u:=z;cases z') (λb z=>absurd rfl z) λz=>absurd rfl z
 | none=>
   refine core (λb=>if b=a then some (.frz {cls:=.type "list",data:=.seq vs.toArray} (.lst (ns.map V.int))) else none) (λb=>?_) (.inl (.inr ⟨{cls:=.type "list",data:=.seq vs.toArray},if_pos rfl⟩)) (λb u z=>?_) (λb z=>?_) λ_=>hk
   . by_cases hb:b=a
     . exact .inr ⟨_,_,if_pos hb⟩
     . exact .inl (if_neg hb)
   . by_cases hb:b=a
     . have z':=(if_pos hb).symm.trans z
       cases z'
       subst hb
       exact⟨ha,by rw[tj];exact hl,vs,_,rv,ha⟩
     . have z':=(if_neg hb).symm.trans z
       cases z'
   . by_cases hb:b=a
     . exact hb
     . exact absurd (if_neg hb) z
theorem walk_ofT {l:PySem.W.OpenLaw} {n k:Nat} {q:Program} {loose:List Str} {XP:(Str->Option Value)->Heap->Prop} {YP:World->Heap->Prop} {d:DefRec} {K:Params->PySem.W.Frag} {sp:PySem.W.Frag->List Uq->Sp} {x:Str} {ts:List Addr}
   (hn:l.most=some n) (hn2:n<=sizeLine) (hdf:d.params.defaults=[]) (hr:qS k callerA)
   (hY:∀(w:World) (h:Heap),YP w h->(K w.params).In h) (hTs:∀(w:World) (h:Heap),YP w h->∀P∈ts,h.get? P=some (zbG #[])) (hnt:∀w:World,zdA (K w.params)=true)
   (F:∀(w:World) (mg:Str->Option Value) (fa:Addr) (h:Heap),(K w.params).In h->h.Ns mainGlobals mg->mg d.name=some (.ref fa)->
     ∃(tabs:List Uq) (fd:FuncData),(tabs.map (·.P)).Nodup/\(∀t∈tabs,t.P∈ts/\zca (K w.params) t.c t.P=true)/\(∀(s:Shared) (u:Value),BindsTo s fd ⟨[u],[]⟩ [(x,u)])/\
      ∀base:Heap,(K w.params).In base->base.Ns mainGlobals mg->(∀t∈tabs,XX mg base t.c t.P)->ql l.prog w (K w.params) mg base qG k fa fd [x] (sp (K w.params) tabs))
   (hsp:∀(K:PySem.W.Frag) (tabs:List Uq) (H:Hp) (a:Addr) (ns:List Int),ns.length<=n->SqL K H a (ns.map V.int)->(∀q∈tabs,H q.P=some (.tbl #[.str q.q 0]))->sp K tabs [.ref a] H (λv _=>v=.bl true) λ_ _ _=>False):
   PySem.W.WalkO q loose XP YP l.row.toRowW d [] (λf vs=>PySem.call f vs):=by
 refine Att.attach_call hn hdf λw s₀ s₁ mg mb fa o pm cd doc a vs ns G Y ho hd hcd hmg hobj hints hlen hg=>?_
 have KX:=hY w _ Y
 obtain⟨tabs,fd,nd,ht,hb,hF⟩:=F w mg fa _ KX G.T.g hmg
 refine yD KX G.T.g G.T.b G.T.builtins G.T.nolimit hg hobj hints (zag hlen hn2) hr (tabs:=tabs) (λt hm=>⟨PySem.W.codeHd_of_K KX (ht t hm).2,hTs w _ Y _ (ht t hm).1⟩) nd ?_ (hnt w) hF hb (λH hS hP=>hsp _ _ H a ns hlen hS hP) λH e s' z=>z
 obtain⟨bm,ob,a1,a2,a3,a4,a5,a6⟩:=G.T.bmain
 refine⟨bm,ob,a1,a2,λz=>?_,a3,a4,a5,a6⟩
 obtain⟨o',es,ep,e,hd',_⟩:=G.T.g
 rw[z,e]at a3
 cases a3
 rw[hd']at a6
 cases a6
mutual
inductive DG (H:Hp):V->PyData->Prop
 | non:DG H .non .none
 | bl (b:Bool):DG H (.bl b) (.bool b)
 | int (i:Int):DG H (.int i) (.int i)
 | str (x:Str):DG H (.str x) (.str x)
 | lst {a:Addr} {xs:List V} {ds:List PyData}:H a=some (.lst xs)->a≠sysModules->DGs H xs ds->DG H (.ref a) (.list ds)
 | tup {a:Addr} {xs:List V} {ds:List PyData}:H a=some (.tup xs)->DGs H xs ds->DG H (.ref a) (.tuple ds)
 | dct0 {a:Addr}:H a=some (.dK [])->DG H (.ref a) (.dict [])
 | dct1 {a:Addr} {z:Str} {i:Int}:H a=some (.dK [(Sum.inr z,.int i)])->DG H (.ref a) (.dict [(.str z,.int i)])
inductive DGs (H:Hp):List V->List PyData->Prop
 | nil:DGs H [] []
 | cons {x:V} {xs:List V} {d:PyData} {ds:List PyData}:DG H x d->DGs H xs ds->DGs H (x::xs) (d::ds)
end
section
variable {X:Cx} {pins:List (Addr×Obj)} {σ:St} {H:Hp} {s:Shared}
end
section
variable {X:Cx}
end
structure vf (H:Hp) (P f:Addr) (qual:Str) (ag:Arguments) (be:Expr) (sc:Scope) (fd:FuncData) (ws:List (Str×V)):Prop where
 ex:∃(pm ctv:Value) (c':Addr) (cl:List (Str×Addr)) (oc:Obj),fd=zdB "<lambda>" qual ag be sc cl pm (.ref c') ctv/\H f=some (zz {cls:=.type "function",data:=.func fd})/\H c'=some (.frz oc (.own P))/\y3 qual oc/\
   (∀x y c,cl.lookup x=some c->cl.lookup y=some c->x=y)/\(∀x c,cl.lookup x=some c->x∈ws.map (·.1))/\
   ∀x v,(x,v)∈ws->∃c o u,cl.lookup x=some c/\H c=some (zz o)/\o.data=.cell (some u)/\qQ v u
theorem vf.mono {H H':Hp} {P f:Addr} {qual:Str} {ag:Arguments} {be:Expr} {sc:Scope} {fd:FuncData} {ws:List (Str×V)} (h:vf H P f qual ag be sc fd ws) (k:∀b o u,H b=some (.frz o u)->H' b=some (.frz o u)):vf H' P f qual ag be sc fd ws:=by
 obtain⟨pm,ctv,c',cl,oc,h1,h2,h3,h4,h5,h6,h7⟩:=h.ex
 exact⟨pm,ctv,c',cl,oc,h1,k _ _ _ h2,k _ _ _ h3,h4,h5,h6,λx v hx=>let ⟨c,o,u,a,b,d,e⟩:=h7 x v hx;⟨c,o,u,a,k _ _ _ b,d,e⟩⟩
section
variable {P:Program} {w:World} {K:PySem.W.Frag} {mg:Str->Option Value} {base:Heap}
theorem Rq {CX:Y6} {PT f:Addr} {qual:Str} {ag:Arguments} {be:Expr} {sc:Scope} {fd:FuncData} {N ps fr:List Str} {k:Nat} {sp:List (Str×V)->Sp} (S:zN N ps fr sc) (len:∀ws vs H Q E,sp ws vs H Q E->vs.length=ps.length/\ws.map (·.1)=fr)
   (hbody:∀(c':Addr) (cl:List (Str×Addr)) (A:Around) (outer:List Env) (s:Shared) (H:Hp) (ws:List (Str×V)) (vs:List V) (Q:VK) (E:XK),qS k (A.deeper (zbZ qual sc s.heap.objs.size f (.ref c') cl))->sp ws vs H Q E->
     ∃t,JE (XS CX P w K mg base N qual sc f (.ref c') cl A outer s H E) be t/\t (jQ N (vs++ws.map (·.2))) H Q):
   ql P w K mg base CX (k+1) f fd ps (λvs H Q E=>∃ws,vf H PT f qual ag be sc fd ws/\sp ws vs H Q E):=by
 refine⟨λvs H Q E ⟨ws,_,h⟩=>(len _ _ _ _ _ h).1,λA outer s H args us vs Q E hr e0 hb r ⟨ws,C,hsp⟩=>?_⟩
 obtain⟨hl,hw⟩:=len _ _ _ _ _ hsp
 obtain⟨pm,ctv,c',cl,oc,rfl,hf,hcd,⟨vs',t',hd',hv'⟩,inj,clw,cells⟩:=C.ex
 have ef:=(show qX P w H s.heap f (zz _) from e0.hok f _ hf).1
 have ec:=(show qX P w H s.heap c' (.frz oc (.own PT)) from e0.hok c' _ hcd).1
 have lim:s.heap.NoLimit:=e0.mod.nolimit.keeps λb o e=>(e0.bs b o e).1
 refine PySem.W.kla_callFunE hr.depth ef rfl S.co S.gen rfl ⟨c',oc,vs',t',rfl,ec,hd',hv'⟩ (hb _ _ _ _ ?_)
 refine wpAny_newFunctionEnv S.nocell (λy hy=>S.par y.1 (zbA hy).1) (λh1 hns hsb=>?_) S.kind
 have hk:∀b o,s.heap.get? b=some o->h1.get? b=some o:=λb o e=>hsb.extBut b o (zab (tQ e)) (tG _ e)
 refine⟨lim.keeps hk,PySem.W.kla_codeExpr ?_⟩
 obtain⟨t,ht,hq⟩:=hbody c' cl A outer s H ws vs Q E (hr.deeper _) hsp
 have noA:∀b:Addr,b∉(XS CX P w K mg base N qual sc f (.ref c') cl A outer s H E).ex:=λb z=>absurd (show b∈([]:List Addr) from z) (by simp)
 have lw:ws.length=fr.length:=by have:=congrArg zaz hw;simpa using this
 have hN:ps.length+fr.length<=N.length:=by
   have:=congrArg zaz S.pre
   rw[tS,tL]at this
   omega
 have kn:∀x c,cl.lookup x=some c->∃o u,H c=some (zz o)/\o.data=.cell (some u):=λx c e=>by
   obtain⟨⟨y,v⟩,hy,rfl⟩:=tJ.mp (clw x c e)
   obtain⟨c2,o,u,a,b,d,_⟩:=cells y v hy
   rw[e]at a
   cases a
   exact⟨o,u,b,d⟩
 have I:qD (XS CX P w K mg base N qual sc f (.ref c') cl A outer s H E) [] (jQ N (vs++ws.map (·.2))) H {s with heap:=h1,toks:=s.toks+(ps.zip us).length}:=by
   refine⟨⟨e0.mod,S.kind,rfl,rfl,tF _,inj,λy hy=>?_,λ_ _ z=>zdj z,λ_=>hr.hd,Around.frames_deeper e0.frames,.inr ⟨rfl,rfl⟩,λb z=>absurd z (noA b),e0.bs,e0.bsz,λb _ _=>noA b,λb z=>absurd z (noA b),e0.funs,e0.frf⟩,
     rfl,e0.bare,Un.kept hk,⟨_,hns,λi y v q1 q2 q3=>?_⟩,λy c h=>?_,e0.hok.fresh (tF _),λy c h=>?_,λp hp=>absurd (show p∈([]:List (Addr×Obj)) from hp) (by simp),e0.hok.kept hk,?_⟩
   . have hy:sc.names.lookup y=some .cell\/sc.names.lookup y=some .free:=hy
     rcases hy with hy | hy
     . exact absurd rfl (S.nocell _ (PySem.mem_of_lookup hy))
     . have:=S.frees _ (PySem.mem_of_lookup hy) rfl
       rw[<-hw]at this
       obtain⟨⟨z,v⟩,hz,ez⟩:=tJ.mp this
       obtain⟨c2,o,u,a,_⟩:=cells z v hz
       exact⟨c2,by rw[<-show z=y from ez];exact a⟩
   . have hi:i < (vs++ws.map (·.2)).length:=by
       rcases zbr i (vs++ws.map (·.2)).length with z | z
       . exact z
       . unfold jQ at q2
         rw[zad (by simpa using z),zcq]at q2
         split at q2<;>cases q2
     have q2':(vs++ws.map (·.2))[i]?=some v:=by
       unfold jQ at q2
       rw[zah (by simpa using hi),tI]at q2
       cases e:(vs++ws.map (·.2))[i]? with
       | none=>rw[e]at q2;cases q2
       | some z=>rw[e]at q2;cases q2;rfl
     rw[tL,tj]at hi
     have q1':(ps++fr)[i]?=some y:=by
       rw[<-S.pre,zbj (by rw[tL];omega)]
       exact q1
     rcases zbr i vs.length with z | z
     . rw[zah z]at q2'
       rw[zah (by omega)]at q1'
       obtain⟨u,hu,rv⟩:=r.get q2'
       have ndP:ps.Nodup:=by
         have:=S.nd.sublist (zcu (ps++fr).length N)
         rw[S.pre]at this
         exact(zcz.mp this).1
       exact⟨u,rv,.inl ⟨S.par y (tZ q1'),XD ndP q1' hu⟩⟩
     . rw[zad z,tI]at q2'
       rw[zad (by omega),<-hl]at q1'
       rw[<-hw,tI]at q1'
       cases e:ws[i - vs.length]? with
       | none=>rw[e]at q2';cases q2'
       | some yv=>
         rw[e]at q2' q1'
         obtain rfl:yv.1=y:=tO.inj q1'
         obtain rfl:yv.2=v:=tO.inj q2'
         have hm:yv∈ws:=tZ e
         obtain⟨c2,o,u,a,b,d,rv⟩:=cells yv.1 yv.2 hm
         have fy:sc.names.lookup yv.1=some .free:=S.free _ (by rw[<-hw];exact tJ.mpr ⟨yv,hm,rfl⟩)
         exact⟨u,rv,.inr ⟨.inr fy,c2,a,o,hk _ _ (show qX P w H s.heap c2 (zz o) from e0.hok c2 _ b).1,d⟩⟩
   . obtain⟨o,u,b,d⟩:=kn y c h
     exact⟨some u,o,hk _ _ (show qX P w H s.heap c (zz o) from e0.hok c _ b).1,d⟩
   . obtain⟨o,u,b,d⟩:=kn y c h
     exact .inr ⟨rfl,o,b⟩
   . show (jQ N (vs++ws.map (·.2))).length=N.length
     unfold jQ
     rw[tL,tj,zbQ,tL,tj]
     omega
 refine wpAny_mono (ht.to [] _ (jQ N (vs++ws.map (·.2))) H _ I hq) (λu s' hs=>?_) λe s' hs=>hs
 obtain⟨v,H',J,rv,q⟩:=hs
 exact⟨v,H',J.os,J.bare,J.base,J.hok,rv,q⟩
end
section
variable {X:Cx} {c P:Addr} {qual:Str} {ag:Arguments} {be:Expr} {sc:Scope} {pos:Pos}
end
section
variable {P:Program} {w:World} {K:PySem.W.Frag} {mg:Str->Option Value} {base:Heap} {N:List Str} {qual:Str} {scope:Scope} {f:Addr} {cd:Value} {cl:List (Str×Addr)} {A:Around} {outer:List Env} {s₀:Shared} {H₀:Hp} {E:XK}
end
section
variable {P:Program} {w:World} {K:PySem.W.Frag} {mg:Str->Option Value} {base:Heap}
end
open PySem PySem.Spec PySem.Builtin PySem.Builtin.Str PyProof.Rows
section
variable {X:Cx}
end
section
variable {X:Cx} {k:Nat} {f:Addr} {fd:FuncData} {ps:List Str} {sp:Sp}
theorem KB {pins:List (Addr×Obj)} {σ:St} {H:Hp} {s:Shared} {Q:VK} {us:List Value} {vs:List V} (F:ql X.prog X.w X.K X.mg X.base qG k f fd ps sp) (hr:qS (k+1) X.A) (hb:jP X.K fd ps []) (I:qD X pins σ H s) (r:qJ vs us) (h:sp vs H Q E0):
   wpAny (model X.prog X.w) X.A.in1 (call (.ref f) us) (EP X pins σ Q) (λ_ _=>False) s:=by
 have hl:(us++[]).length=ps.length:=by rw[zax];exact r.length.symm.trans (F.len _ _ _ _ h)
 have hb':=hb s us I.kIn hl
 rw[zax]at hb'
 refine wpAny_call (codeAny_mono (F.run X.A.in1 X.stack s H ⟨us,[]⟩ us vs Q E0 hr.in1 I.env0.in1 hb' r h) λz s' q=>?_)
 match z,q with
 | .error y,q=>exact q.elim
 | .ok (.ret u),q=>exact I.after q
end
section
variable {X:Cx} {pins:List (Addr×Obj)} {σ:St} {xs:List V} {l q a S:Addr} {R:Hp->Prop} {Z:Result->Shared->Prop}
theorem qD.shift {H:Hp} {s:Shared} {h':Heap} {t':Nat} {P:List (Addr×Obj)} {b:Addr} {o':Obj} (I:qD X P σ H s) {P':List (Addr×Obj)} (hP:∀p∈P',p.1=b/\p.2=o'\/p∈P/\p.1≠b) (fb:JR X pins H b) (hPb:∀p∈P,p.1≠b->p∈pins\/p.1≠b)
   (kk:∀c o,c≠b->s.heap.get? c=some o->h'.get? c=some o) (hb:h'.get? b=some o') (hd:∀v,o'.data≠.cell v):qD X P' σ H {s with heap:=h',toks:=t'}:=by
 obtain⟨f0,f1,f2,f3,f4,f5⟩:=fb
 have I1:qD X (P.filter λp=>p.1 != b) σ H s:=I.pins_of λp hp=>I.pin p (tM _ (tX.mp hp).1)
 have I2:qD X (P.filter λp=>p.1 != b) σ H {s with heap:=h',toks:=t'}:=I1.turned kk f0 f1 f3 f4 λp hp=>by
   rcases tV.mp hp with z | z
   . exact f5 p (zai _ z)
   . simpa using (tX.mp z).2
 refine I2.pins_of λp hp=>?_
 rcases hP p hp with ⟨e1,e2⟩ | ⟨e1,e2⟩
 . rw[e1,e2]
   exact⟨hb,f0,f1,f2,hd⟩
 . exact I2.pin p (tM _ (tX.mpr ⟨e1,by simpa using e2⟩))
abbrev ZE (vs:Array Value) (c:Nat):Obj:=seqObj "list" vs c
theorem wY (hc:X.calm=true) (kf:Nat->Int) (hlR:∀H,R H->SqL X.K H l xs) (hla:l≠a) (hSa:S≠a) (fa:∀H,H a=none->JR X pins H a) (fS:∀H,H S=none->JR X pins H S)
   (turn:∀(i:Nat) (x:V) (v:Value) (P:List (Addr×Obj)) (H1:Hp) (s1:Shared),xs[i]?=some x->qQ x v->qD X P σ H1 s1->R H1->wpAny (model X.prog X.w) X.A.in1 (call (.ref q) [v]) (EP X P σ λy H2=>y=.int (kf i)/\R H2) (λ_ _=>False) s1)
   (done:∀(i:Nat) (x:V) (v:Value) (H1:Hp) (s1:Shared),xs[i]?=some x->qQ x v->(∀j,j < xs.length->kf i<=kf j/\(j < i->kf i < kf j))->qD X pins σ H1 s1->R H1->Z (.ok (.ret v)) s1):
   ∀(r j i:Nat) (s1:Shared) (H1:Hp) (xb:V) (vb:Value) (tb:Tok) (c:Nat) (oI:Obj),xs.length - (j+1)=r->j+1<=xs.length->qD X (pins++[(S,ZE #[vb,.int (kf i) tb] c),(a,oI)]) σ H1 s1->R H1->s1.heap.IsListIter a l (j+1)->xs[i]?=some xb->qQ xb vb->i<=j->
    (∀j',j'<=j->kf i<=kf j'/\(j' < i->kf i < kf j'))->codeAny (model X.prog X.w) X.A (.builtin "min.loop" ⟨[.ref a,.ref q,.ref S],[]⟩) Z s1:=by
 have hname:(toString "min"++toString ".loop":String)="min.loop":=by decide
 have pinS:∀{H1:Hp} {s1:Shared} {oS oI:Obj},qD X (pins++[(S,oS),(a,oI)]) σ H1 s1->s1.heap.get? S=some oS/\H1 S=none:=λI=>let z:=I.pin (S,_) (tM _ (tM _ (.head _)));⟨z.1,z.2.1⟩
 have pinA:∀{H1:Hp} {s1:Shared} {oS oI:Obj},qD X (pins++[(S,oS),(a,oI)]) σ H1 s1->s1.heap.get? a=some oI/\H1 a=none:=λI=>let z:=I.pin (a,_) (tM _ (tM _ (.tail _ (.head _))));⟨z.1,z.2.1⟩
 have nS:∀{oS oI:Obj} {p:Addr×Obj} {H:Hp},H S=none->p∈pins++[(S,oS),(a,oI)]->p∈pins->p.1≠S:=λh _ hp=>(fS _ h).2.2.2.2.2 _ (tM _ hp)
 intro r
 induction r with
 | zero=>
   intro j i s1 H1 xb vb tb c oI hr hj I hR hit hxb rb hij hbest
   have hin:j+1=xs.length:=by omega
   obtain⟨gS,hS0⟩:=pinS I
   obtain⟨ga,ha0⟩:=pinA I
   obtain⟨its,rv,pl,hz⟩:=I.list (hlR _ hR)
   have hsz:its.toArray.size=xs.length:=by rw[t9];exact rv.length.symm
   have W:=Walks.list (prog:=X.prog) (w:=X.w) (A:=X.A.in1) (I.ok.hd hc) a l hla its.toArray
   refine codeAny_builtin zcA ?_
   rw[Around.under_plainId zaX _]
   show wpAny _ X.A.in1 (seqItems? (.ref S) >>= _) _ _ _
   refine wpAny_bind (wpAny_seqItems gS rfl ?_)
   show wpAny _ X.A.in1 (tryCatch (pyNext (.ref a)) _ >>= _) _ _ _
   refine wpAny_bind (wpAny_tryCatch (W.done _ _ _ ⟨by rw[hsz,<-hin];exact hit,pl.isList⟩ λh' tk' hk'=>?_))
   have I1:qD X (pins++[(S,ZE #[vb,.int (kf i) tb] c)]) σ H1 s1:=I.pins_of λp hp=>I.pin p (tM _ (by
     rcases tV.mp hp with z | z
     . exact zai _ z
     . exact tM _ (by rw[zae.mp z];exact .head _)))
   obtain⟨f0,f1,f2,f3,f4,f5⟩:=fa H1 ha0
   have I2:qD X (pins++[(S,ZE #[vb,.int (kf i) tb] c)]) σ H1 {s1 with heap:=h',toks:=tk'}:=I1.turned (λb o hb e=>hk' b o (by simpa using hb) e) f0 f1 f3 f4 λp hp=>by
     rcases tV.mp hp with z | z
     . exact f5 p (zai _ z)
     rcases tV.mp z with z | z
     . exact f5 p (tM _ z)
     . rw[zae.mp z];exact hSa
   have gS2:h'.get? S=some (ZE #[vb,.int (kf i) tb] c):=(I2.pin (S,_) (tM _ (tM _ (.head _)))).1
   have s2:=zcP.update h' S (Obj.mapSeq λ_=>(#[]:Array Value))
   show wpAny _ X.A.in1 (updateSeq S (λ_=>#[]) >>= _) _ _ _
   refine wpAny_bind ?_
   refine wpAny_updateSeq gS2 rfl (wpAny_bind (wpAny_letGo (wpAny_pure ?_)))
   obtain⟨g0,g1,g2,g3,g4,g5⟩:=fS H1 hS0
   have I3:qD X pins σ H1 {s1 with heap:=h',toks:=tk'}:=I2.pins_of λp hp=>I2.pin p (tM _ (zai _ hp))
   exact done i xb vb H1 _ hxb rb (λj' hj'=>hbest j' (by omega)) (I3.turned (t':=tk') (λb o hb e=>(s2.2 b hb).trans e) g0 g1 g3 g4 g5) hR
 | succ r ih=>
   intro j i s1 H1 xb vb tb c oI hr hj I hR hit hxb rb hij hbest
   have hlt:j+1 < xs.length:=by omega
   obtain⟨gS,hS0⟩:=pinS I
   obtain⟨ga,ha0⟩:=pinA I
   obtain⟨its,rv,pl,hz⟩:=I.list (hlR _ hR)
   have hsz:its.toArray.size=xs.length:=by rw[t9];exact rv.length.symm
   have W:=Walks.list (prog:=X.prog) (w:=X.w) (A:=X.A.in1) (I.ok.hd hc) a l hla its.toArray
   refine codeAny_builtin zcA ?_
   rw[Around.under_plainId zaX _]
   show wpAny _ X.A.in1 (seqItems? (.ref S) >>= _) _ _ _
   refine wpAny_bind (wpAny_seqItems gS rfl ?_)
   show wpAny _ X.A.in1 (tryCatch (pyNext (.ref a)) _ >>= _) _ _ _
   refine wpAny_bind (wpAny_tryCatch (W.item (j+1) _ _ _ (by rw[hsz];exact hlt) ⟨hit,pl.isList⟩ λv h' tk' hP hst' hk'=>?_))
   have hv:its[j+1]?=some v:=by simpa using hP
   obtain⟨x,hx⟩:∃x,xs[j+1]?=some x:=⟨_,tH hlt⟩
   obtain⟨v',hv',rx⟩:=rv.get hx
   rw[hv]at hv'
   cases hv'
   obtain⟨oI',hoI',hoc,hod⟩:=id hst'.1
   have ndI:∀v,oI'.data≠.cell v:=λv z=>by rw[hod]at z;cases z
   have I1:qD X (pins++[(S,ZE #[vb,.int (kf i) tb] c),(a,oI')]) σ H1 {s1 with heap:=h',toks:=tk'}:=by
     refine I.shift (pins:=pins) (b:=a) (o':=oI') (λp hp=>?_) (fa H1 ha0) (λp hp n=>.inr n) (λb o hb e=>hk' b o (by simpa using hb) e) hoI' ndI
     rcases tV.mp hp with z | z
     . exact .inr ⟨zai _ z,(fa H1 ha0).2.2.2.2.2 p (tM _ z)⟩
     . rcases t8.mp z with rfl | z
       . exact .inr ⟨tM _ (.head _),hSa⟩
       . rw[zae.mp z];exact .inl ⟨rfl,rfl⟩
   show wpAny _ X.A.in1 (tryCatch (holding [v] (call (.ref q) [v])) _ >>= _) _ _ _
   refine wpAny_bind (wpAny_tryCatch (wpAny_holding (wpAny_mono (turn (j+1) x v _ H1 _ hx rx I1 hR) (λu s2 he=>?_) λ_ _ hF=>hF.elim)))
   obtain⟨y,H2,I2,ry,rfl,hR2⟩:=he
   obtain⟨t2,rfl⟩:=ry
   obtain⟨gS2,hS2⟩:=pinS I2
   obtain⟨ga2,ha2⟩:=pinA I2
   have hit2:s2.heap.IsListIter a l (j+1+1):=⟨oI',ga2,hoc,hod⟩
   show wpAny _ X.A.in1 (tryCatch (holding [v,.int (kf (j+1)) t2] (richCompare .Lt (.int (kf (j+1)) t2) (.int (kf i) tb) >>= _)) _ >>= _) _ _ _
   refine wpAny_bind (wpAny_tryCatch (wpAny_holding (wpAny_bind (CmpOf.ints_lt (prog:=X.prog) (w:=X.w) (A:=X.A.in1) (P:=λi v=>∃t,v=.int (kf i) t) kf (λi v h=>h) (j+1) i _ _ _ _ _ ⟨t2,rfl⟩ ⟨tb,rfl⟩ ?_))))
   refine wpAny_bind (wpAny_holding (wpAny_truthy_bool ?_))
   refine wpAny_bind (wpAny_letGo (wpAny_pure ?_))
   by_cases hb':kf (j+1) < kf i
   . have s3:=zcP.update s2.heap S (Obj.mapSeq λ_=>#[v,.int (kf (j+1)) t2])
     obtain⟨c2,hc2⟩:∃c2,(s2.heap.update S (Obj.mapSeq λ_=>#[v,.int (kf (j+1)) t2])).get? S=some (seqObj "list" #[v,.int (kf (j+1)) t2] c2):=⟨_,get?_update_seq gS2 λ_=>#[v,.int (kf (j+1)) t2]⟩
     simp only[hb',decide_true,if_true]
     refine wpAny_bind ?_
     refine wpAny_updateSeq gS2 rfl (wpAny_bind (wpAny_letGo ?_))
     rw[hname]
     have I3:qD X (pins++[(S,ZE #[v,.int (kf (j+1)) t2] c2),(a,oI')]) σ H2 {s2 with heap:=s2.heap.update S (Obj.mapSeq λ_=>#[v,.int (kf (j+1)) t2]),toks:=s2.toks}:=by
       refine I2.shift (pins:=pins) (b:=S) (o':=ZE #[v,.int (kf (j+1)) t2] c2) (λp hp=>?_) (fS H2 hS2) (λp hp n=>.inr n) (λb o hb e=>(s3.2 b hb).trans e) hc2 (λv z=>by cases z)
       rcases tV.mp hp with z | z
       . exact .inr ⟨zai _ z,(fS H2 hS2).2.2.2.2.2 p (tM _ z)⟩
       . rcases t8.mp z with rfl | z
         . exact .inl ⟨rfl,rfl⟩
         . rw[zae.mp z];exact .inr ⟨tM _ (.tail _ (.head _)),λq=>hSa q.symm⟩
     refine wpAny_pure ⟨plainId_quiet zaX _,ih (j+1) (j+1) _ H2 x v t2 c2 oI' (by omega) hlt I3 hR2 ⟨oI',(s3.2 a λq=>hSa q.symm).trans ga2,hoc,hod⟩ hx rx (tF _) λj' hj'=>?_⟩
     by_cases e:j'=j+1
     . subst e
       exact⟨by omega,λ_=>by omega⟩
     . have hb1:=hbest j' (by omega)
       have hb2:=hb1.1
       exact⟨by omega,λ_=>by omega⟩
   . simp only[hb',decide_false,zba,if_false]
     refine wpAny_bind (wpAny_letGo ?_)
     rw[hname]
     refine wpAny_pure ⟨plainId_quiet zaX _,ih (j+1) i _ H2 xb vb tb c oI' (by omega) hlt I2 hR2 hit2 hxb rb (by omega) λj' hj'=>?_⟩
     by_cases e:j'=j+1
     . subst e
       exact⟨by omega,λ_=>by omega⟩
     . exact hbest j' (by omega)
theorem yX {H:Hp} {s:Shared} {Q E:Value->Shared->Prop} (hc:X.calm=true) (kf:Nat->Int) (I:qD X pins σ H s) (hR:R H) (hlR:∀H,R H->SqL X.K H l xs) (hne:0 < xs.length)
   (turn:∀(i:Nat) (x:V) (v:Value) (P:List (Addr×Obj)) (H1:Hp) (s1:Shared),xs[i]?=some x->qQ x v->qD X P σ H1 s1->R H1->wpAny (model X.prog X.w) X.A.in1 (call (.ref q) [v]) (EP X P σ λy H2=>y=.int (kf i)/\R H2) (λ_ _=>False) s1)
   (done:∀(i:Nat) (x:V) (v:Value) (H1:Hp) (s1:Shared),xs[i]?=some x->qQ x v->(∀j,j < xs.length->kf i<=kf j/\(j < i->kf i < kf j))->qD X pins σ H1 s1->R H1->Q v s1):
   wpAny (model X.prog X.w) X.A (call (.builtin "min") [.ref l] [(Str.ofString "key",.ref q)]) Q E s:=by
 have hname:(toString "min"++toString ".loop":String)="min.loop":=by decide
 obtain⟨its0,rv0,pl0,_⟩:=I.list (hlR _ hR)
 have hll:l < s.heap.objs.size:=by
   obtain⟨o,n,e,_⟩:=pl0
   exact tQ e
 refine kmk_tree PySem.F.kind_min PySem.F.plain_min PySem.F.entry_min (kmk_min_key _ _) ?_
 show wpAny _ X.A.in1 (Builtin.Builtins.bindParams "min" ["key","default"] 0 ⟨[],[(Str.ofString "key",.ref q)]⟩ >>= _) _ _ s
 refine wpAny_bind (wpAny_of_eq (show Builtin.Builtins.bindParams "min" ["key","default"] 0 ⟨[],[(Str.ofString "key",.ref q)]⟩=pure [some (.ref q),none] from rfl) ?_)
 refine wpAny_bind (wpAny_pure ?_)
 refine wpAny_bind (wpAny_pyIter_list pl0.isList ?_)
 refine wpAny_bind (wpAny_newList ?_ (zay _))
 rw[hname]
 have hS:(s.heap.push {cls:=.type "list_iterator",data:=.fields #[.ref l,.int 0 0]}).objs.size=s.heap.objs.size+1:=size_push' ..
 generalize hSe:(s.heap.push {cls:=.type "list_iterator",data:=.fields #[.ref l,.int 0 0]}).objs.size=S at hS
 generalize hae:s.heap.objs.size=a at hS hll
 have hla:l≠a:=zab hll
 have hSa:S≠a:=by rw[hS];exact zbK (zaI _)
 have fa:∀H,H a=none->JR X pins H a:=λH' h=>I.fpOk (by omega) h
 have fS:∀H,H S=none->JR X pins H S:=λH' h=>I.fpOk (by omega) h
 have ha0:H a=none:=I.hok.fresh (by omega)
 have hS0:H S=none:=I.hok.fresh (by omega)
 have gI:((s.heap.push {cls:=.type "list_iterator",data:=.fields #[.ref l,.int 0 0]}).push (ZE #[] 0)).get? a=some {cls:=.type "list_iterator",data:=.fields #[.ref l,.int 0 0]}:=by
   rw[<-hae];exact tG _ (tY _ rfl)
 have gS:((s.heap.push {cls:=.type "list_iterator",data:=.fields #[.ref l,.int 0 0]}).push (ZE #[] 0)).get? S=some (ZE #[] 0):=by
   rw[<-hSe];exact tY _ rfl
 have I0:qD X pins σ H {s with heap:=(s.heap.push {cls:=.type "list_iterator",data:=.fields #[.ref l,.int 0 0]}).push (ZE #[] 0)}:=I.kept (t':=s.toks) λb o e=>tG _ (tG _ e)
 have I1:qD X (pins++[(S,ZE #[] 0),(a,{cls:=.type "list_iterator",data:=.fields #[.ref l,.int 0 0]})]) σ H {s with heap:=(s.heap.push {cls:=.type "list_iterator",data:=.fields #[.ref l,.int 0 0]}).push (ZE #[] 0)}:=I0.pins_of λp hp=>by
   rcases tV.mp hp with z | z
   . exact I0.pin p (tM _ z)
   . rcases t8.mp z with rfl | z
     . exact⟨gS,hS0,(fS H hS0).2.1,(fS H hS0).2.2.1,λv z=>by cases z⟩
     . rw[zae.mp z]
       exact⟨gI,ha0,(fa H ha0).2.1,(fa H ha0).2.2.1,λv z=>by cases z⟩
 refine wpAny_pure ⟨plainId_quiet zaX _,?_⟩
 obtain⟨its,rv,pl,hz⟩:=I1.list (hlR _ hR)
 have hsz:its.toArray.size=xs.length:=by rw[t9];exact rv.length.symm
 have W:=Walks.list (prog:=X.prog) (w:=X.w) (A:=X.A.in1) (I.ok.hd hc) a l hla its.toArray
 refine codeAny_builtin zcA ?_
 rw[Around.under_plainId zaX _]
 show wpAny _ X.A.in1 (seqItems? (.ref _) >>= _) _ _ _
 refine wpAny_bind (wpAny_seqItems gS rfl ?_)
 show wpAny _ X.A.in1 (tryCatch (pyNext (.ref a)) _ >>= _) _ _ _
 refine wpAny_bind (wpAny_tryCatch (W.item 0 _ _ _ (by rw[hsz];exact hne) ⟨⟨_,gI,rfl,rfl⟩,pl.isList⟩ λv h' tk' hP hst' hk'=>?_))
 have hv:its[0]?=some v:=by simpa using hP
 obtain⟨x,hx⟩:∃x,xs[0]?=some x:=⟨_,tH hne⟩
 obtain⟨v',hv',rx⟩:=rv.get hx
 rw[hv]at hv'
 cases hv'
 obtain⟨oI',hoI',hoc,hod⟩:=id hst'.1
 have ndI:∀v,oI'.data≠.cell v:=λv z=>by rw[hod]at z;cases z
 have I2:qD X (pins++[(S,ZE #[] 0),(a,oI')]) σ H {s with heap:=h',toks:=tk'}:=by
   refine I1.shift (pins:=pins) (b:=a) (o':=oI') (λp hp=>?_) (fa H ha0) (λp hp n=>.inr n) (λb o hb e=>hk' b o (by simpa using hb) e) hoI' ndI
   rcases tV.mp hp with z | z
   . exact .inr ⟨zai _ z,(fa H ha0).2.2.2.2.2 p (tM _ z)⟩
   . rcases t8.mp z with rfl | z
     . exact .inr ⟨tM _ (.head _),hSa⟩
     . rw[zae.mp z];exact .inl ⟨rfl,rfl⟩
 show wpAny _ X.A.in1 (tryCatch (holding [v] (call (.ref q) [v])) _ >>= _) _ _ _
 refine wpAny_bind (wpAny_tryCatch (wpAny_holding (wpAny_mono (turn 0 x v _ H _ hx rx I2 hR) (λu s2 he=>?_) λ_ _ hF=>hF.elim)))
 obtain⟨y,H2,I3,ry,rfl,hR2⟩:=he
 obtain⟨t2,rfl⟩:=ry
 obtain⟨gS2,hS2,_⟩:=I3.pin (S,_) (tM _ (tM _ (.head _)))
 obtain⟨ga2,ha2,_⟩:=I3.pin (a,_) (tM _ (tM _ (.tail _ (.head _))))
 have s3:=zcP.update s2.heap S (Obj.mapSeq λ_=>#[v,.int (kf 0) t2])
 obtain⟨c2,hc2⟩:∃c2,(s2.heap.update S (Obj.mapSeq λ_=>#[v,.int (kf 0) t2])).get? S=some (seqObj "list" #[v,.int (kf 0) t2] c2):=⟨_,get?_update_seq gS2 λ_=>#[v,.int (kf 0) t2]⟩
 show wpAny _ X.A.in1 (updateSeq S (λ_=>#[v,.int (kf 0) t2]) >>= _) _ _ _
 refine wpAny_bind ?_
 refine wpAny_updateSeq gS2 rfl ?_
 rw[hname]
 have I4:qD X (pins++[(S,ZE #[v,.int (kf 0) t2] c2),(a,oI')]) σ H2 {s2 with heap:=s2.heap.update S (Obj.mapSeq λ_=>#[v,.int (kf 0) t2]),toks:=s2.toks}:=by
   refine I3.shift (pins:=pins) (b:=S) (o':=ZE #[v,.int (kf 0) t2] c2) (λp hp=>?_) (fS H2 hS2) (λp hp n=>.inr n) (λb o hb e=>(s3.2 b hb).trans e) hc2 (λv z=>by cases z)
   rcases tV.mp hp with z | z
   . exact .inr ⟨zai _ z,(fS H2 hS2).2.2.2.2.2 p (tM _ z)⟩
   . rcases t8.mp z with rfl | z
     . exact .inl ⟨rfl,rfl⟩
     . rw[zae.mp z];exact .inr ⟨tM _ (.tail _ (.head _)),λq=>hSa q.symm⟩
 refine wpAny_pure ⟨plainId_quiet zaX _,wY (R:=R) (Z:=λr s'=>match r with | .ok (.ret v)=>Q v s' | .ok _=>False | .error e=>E e s') hc kf hlR hla hSa fa fS turn (λi x v H1 s1 h1 h2 h3 h4 h5=>done i x v H1 s1 h1 h2 h3 h4 h5) _ 0 0 _ H2 x v t2 c2 oI' rfl hne I4 hR2 ⟨oI',(s3.2 a λq=>hSa q.symm).trans ga2,hoc,hod⟩ hx rx (tF _) λj' hj'=>?_⟩
 have e:j'=0:=by omega
 subst e
 exact⟨by omega,λh=>absurd h (zaw _)⟩
end
def X0 (X:Cx) (H:Hp) (ws:List (Str×V)):Prop:=∀x v,(x,v)∈ws->∃ca co u,X.env.cells.lookup x=some ca/\H ca=some (zz co)/\co.data=.cell (some u)/\qQ v u
theorem X0.mono {X:Cx} {H H':Hp} {ws:List (Str×V)} (h:X0 X H ws) (s:qm H H'):X0 X H' ws:=λx v hx=>let ⟨ca,co,u,a,b,c,d⟩:=h x v hx;⟨ca,co,u,a,s _ _ b,c,d⟩
def MM (X:Cx) (fr:List (Str×Nat)) (u:TS):TS:=λD σ H=>∀H',qm H H'->(∀ws:List (Str×V),(∀p∈ws,∃i,(p.1,i)∈fr/\σ[i]?=some (some p.2))->X0 X H' ws)->u D σ H'
section
variable {X:Cx} {st:List Stmt} {u:TS}
open Classical in
theorem KM {fr:List (Str×Nat)} (hfr:∀p∈fr,X.env.scope.names.lookup p.1=some .cell/\X.N[p.2]?=some p.1) (hfn:∀x,X.fn x=true) (h2:Vr X.shut st u):PB X st (MM X fr u):=by
 intro pins s σ H D I h
 have frc':∀p∈fr,∃c,X.env.cells.lookup p.1=some c:=λp hp=>I.ok.has p.1 (.inl (hfr p hp).1)
 let cc:Addr->Option Obj:=λb=>if ∃p∈fr,X.env.cells.lookup p.1=some b then s.heap.get? b else none
 have hc:∀b o,cc b=some o->∃x v,X.env.cells.lookup x=some b/\X.fn x=true/\s.heap.get? b=some o/\o.data=.cell v:=λb o e=>by
   rcases Classical.em (∃p∈fr,X.env.cells.lookup p.1=some b) with z | z
   . have e':s.heap.get? b=some o:=(if_pos z).symm.trans e
     obtain⟨p,hp,hxb⟩:=z
     obtain⟨v,o',ho,hd⟩:=I.cell p.1 b hxb
     rw[e']at ho
     cases ho
     exact⟨p.1,v,hxb,hfn p.1,e',hd⟩
   . have:cc b=none:=if_neg z
     rw[this]at e
     cases e
 have hn:=I.catchN hc
 refine jl (h2.to pins s σ _ D (I.catch cc hc) (h _ (λb o e=>Je hn e) λws hws x v hx=>?_)) λfl s' z=>⟨λ_=>false,z⟩
 obtain⟨i,hi,eσ⟩:=hws (x,v) hx
 obtain⟨ca,hca⟩:=frc' _ hi
 obtain⟨v',o,ho,hd⟩:=I.cell x ca hca
 have ecc:cc ca=some o:=(if_pos ⟨_,hi,hca⟩).trans ho
 obtain⟨m,_,hl⟩:=I.loc
 obtain⟨w',rw',lk⟩:=hl i x v (hfr _ hi).2 eσ (.inr (.inl (hfr _ hi).1))
 rcases lk with ⟨k,_⟩ | ⟨_,c2,ec2,o2,ho2,hd2⟩
 . have k':X.env.scope.names.lookup x=some .local:=k
   rw[(hfr _ hi).1]at k'
   cases k'
 . rw[hca]at ec2
   cases ec2
   rw[ho]at ho2
   cases ho2
   exact⟨ca,o,w',hca,zL ecc,hd2,rw'⟩
end
def MR (X:Cx) (P:Addr) (qual:Str) (ag:Arguments) (be:Expr) (sc:Scope) (fr:List Str):TE:=λσ H Q=>(∃tq,H P=some (.tbl #[.str qual tq]))/\∃ws,ws.map (·.1)=fr/\X0 X H ws/\∀f fd H',qm H H'->H f=none->vf H' P f qual ag be sc fd ws->Q (.ref f) H'
section
variable {X:Cx} {c P:Addr} {qual:Str} {ag:Arguments} {be:Expr} {sc:Scope} {pos:Pos} {fr:List Str}
theorem GU (TM:XX X.mg X.base c P) (hcode:X.env.code=.ref c) (hq:X.env.qual++"<lambda>"=qual) (hfr:(sc.names.all λx=>x.2 != .free || (X.env.scope.names.lookup x.1==some .cell&&fr.contains x.1))=true) (hin:∀x∈fr,(x,NameKind.free)∈sc.names) (hdf:defaultsOf ag X.env=([],[]):=by rfl):JE X (.Lambda ag be sc pos) (MR X P qual ag be sc fr):=.of (by
 intro pins s σ H Q I h
 obtain⟨⟨tq,hP⟩,ws,hws,hca,h⟩:=h
 obtain⟨ts,eP,tr,cs⟩:=(show qX X.prog X.w H s.heap P (.tbl #[.str qual tq]) from I.hok P _ hP)
 refine PySem.W.kla_eval hdf ?_
 rw[hq]
 have hg:s.heap.Ns mainGlobals X.mg:=I.ok.mod.glob.keeps I.bk
 have CH:=TM.code.keeps I.bk
 have hb:s.heap.BuiltinsAt X.mg P:=by
   obtain⟨bm,o,b1,b2,b3,b4,b5,b6⟩:=TM.blt
   exact⟨bm,o,b1,b2,b3,b4,I.bk _ _ b5,b6⟩
 have hgP:mainGlobals≠P:=λz=>by
   obtain⟨o,es,ep,e,_⟩:=I.ok.mod.glob
   have:=(I.bs _ _ e).2
   rw[z,hP]at this
   cases this
 have frc:∀x,(x,NameKind.free)∈sc.names->X.env.scope.names.lookup x=some .cell/\x∈fr:=λx hx=>by
   have:=zaK.mp hfr _ hx
   simp only[bne_self_eq_false,Bool.false_or,zau,beq_iff_eq,List.contains_iff_mem]at this
   exact this
 have frc':∀x,(x,NameKind.free)∈sc.names->∃c,X.env.cells.lookup x=some c:=λx hx=>I.ok.has x (.inl (frc x hx).1)
 have hcl:closureFor sc X.env=pure (qN X.env sc.names []):=QH λx hx e=>frc' x.1 (by rw[<-e];exact hx)
 have clo1:∀x,(x,NameKind.free)∈sc.names->∀ca,X.env.cells.lookup x=some ca->(qN X.env sc.names []).lookup x=some ca:=λx hx ca e=>by
   obtain⟨c2,hc2⟩:=Jd (env:=X.env) (cs:=[]) (.inl hx)
   rcases j8 hc2 with z | ⟨_,z⟩
   . simp at z
   . rw[e]at z
     rw[hc2,z]
     rfl
 have look:∀x c,(qN X.env sc.names []).lookup x=some c->(x,NameKind.free)∈sc.names/\X.env.cells.lookup x=some c:=λx c e=>by
   rcases j8 e with z | ⟨z1,z2⟩
   . simp at z
   . obtain⟨c2,h2⟩:=frc' x z1
     rw[h2]at z2
     exact⟨z1,by rw[h2,z2];rfl⟩
 have inj:∀x y c,(qN X.env sc.names []).lookup x=some c->(qN X.env sc.names []).lookup y=some c->x=y:=λx y c h1 h2=>I.ok.inj x y c (look x c h1).2 (look y c h2).2
 have clo:∀{f c':Addr} {pm ctv:Value} {oc:Obj} {H1:Hp},qm H H1->H1 f=some (zz (zbM "<lambda>" qual ag be sc (qN X.env sc.names []) pm c' ctv))->H1 c'=some (.frz oc (.own P))->y3 qual oc->vf H1 P f qual ag be sc (zdB "<lambda>" qual ag be sc (qN X.env sc.names []) pm (.ref c') ctv) ws:=
   λ{f c' pm ctv oc H1} sm e1 e2 e3=>⟨pm,ctv,c',_,oc,rfl,e1,e2,e3,inj,λx c z=>by rw[hws];exact(frc x (look x c z).1).2,λx v hx=>by
     obtain⟨ca,co,u,a,b,d,e⟩:=hca x v hx
     have:x∈fr:=by rw[<-hws];exact tJ.mpr ⟨(x,v),hx,rfl⟩
     exact⟨ca,co,u,clo1 x (hin x this) ca a,sm _ _ b,d,e⟩⟩
 cases hh:codeAmong pos ts.toList with
 | none=>
   refine PySem.W.kla_makeFunction (mg:=X.mg) hcl I.ok.glob hg hcode CH eP tr hh hgP hb λc' ctv h' tk hx hge hlt hrec htb=>?_
   obtain⟨c2,oc,vs,t,e2,hoc,hd,hv⟩:=hrec
   cases e2
   have hc0:H c'=none:=I.hok.fresh hge
   have hf0:H h'.objs.size=none:=I.hok.fresh (zak (zap hge hlt))
   have sm:qm H (upd (upd H c' (.frz oc (.own P))) h'.objs.size (zz (zbM "<lambda>" qual ag be sc (qN X.env sc.names []) ((X.mg "__name__").getD .none) c' ctv))):=λb u e=>by
     rw[qj (qA e hf0),qj (qA e hc0)]
     exact e
   exact⟨.ref _,_,I.made_def hP eP tr cs hx hge hlt hoc ⟨vs,t,hd,hv⟩ htb rfl,rfl,h _ _ _ sm hf0 (clo sm qd (by rw[qj (zab hlt),qd]) ⟨vs,t,hd,hv⟩)⟩
 | some cv=>
   obtain⟨c',oc,rfl,ec,q,t,vs,t',hq1,hd,hv⟩:=cs pos cv hh
   cases hq1
   refine PySem.W.kla_makeFunctionHit (mg:=X.mg) hcl I.ok.glob hg hcode CH eP tr hh hb λctv h' tk hk hsz=>?_
   have hf0:H h'.objs.size=none:=I.hok.fresh hsz
   have e1:(h'.push (zbM "<lambda>" qual ag be sc (qN X.env sc.names []) ((X.mg "__name__").getD .none) c' ctv)).get? h'.objs.size=some (zbM "<lambda>" qual ag be sc (qN X.env sc.names []) ((X.mg "__name__").getD .none) c' ctv):=tY h' rfl
   have sm:qm H (upd H h'.objs.size (zz (zbM "<lambda>" qual ag be sc (qN X.env sc.names []) ((X.mg "__name__").getD .none) c' ctv))):=λb u e=>by
     rw[qj (qA e hf0)]
     exact e
   exact⟨.ref _,_,I.laid (t':=tk) (o:=zz (zbM "<lambda>" qual ag be sc (qN X.env sc.names []) ((X.mg "__name__").getD .none) c' ctv)) (λb o e=>tG _ (hk b o e)) hsz ⟨e1,e1,_,e1⟩,rfl,h _ _ _ sm hf0 (clo sm qd (by rw[qj (qA ec hf0)];exact ec) ⟨vs,t',hd,hv⟩)⟩)
end
def MP (K:PySem.W.Frag) (C:Addr->FuncData->Sp->Prop) (te tl:TE):TE:=λσ H Q=>te σ H λx H1=>tl σ H1 λy H2=>∃(l q:Addr) (xs:List V) (fd:FuncData) (sp:Sp) (kf:Nat->Int) (R:Hp->Prop),x=.ref l/\y=.ref q/\C q fd sp/\R H2/\(∀G,R G->SqL K G l xs)/\0 < xs.length/\
 (∀i x G,xs[i]?=some x->R G->sp [x] G (λy G'=>y=.int (kf i)/\R G') E0)/\∀i x G,xs[i]?=some x->(∀j,j < xs.length->kf i<=kf j/\(j < i->kf i < kf j))->R G->Q x G
section
variable {X:Cx} {C:Addr->FuncData->Sp->Prop} {p pos kp:Pos} {e g:Expr} {te tl:TE}
theorem GJ (hc:X.calm=true) (hg:Gl X "min") (hm:X.mg "min"=none) (hC:∀f fd sp,C f fd sp->∃(k:Nat) (x:Str),ql X.prog X.w X.K X.mg X.base qG k f fd [x] sp/\qS (k+1) X.A/\jP X.K fd [x] []) (ha:JE X e te) (hl:JE X g tl) (hs:starEach [e] X.env=[(false,eval e X.env)]:=by rfl) (he:backTo pos (starEach [e] X.env)=(false,eval e X.env)::backTo pos (starEach [] X.env):=by rfl) (hplain:(backTo pos (starEach [e] X.env)).any (·.1)=false:=by rfl):JE X (.Call (.Name "min" p) [e] [⟨some "key",g,kp⟩] pos) (MP X.K C te tl):=.of (by
 have ha:=ha.to
 have hl:=hl.to
 intro pins s σ H Q I h
 refine wpAny_Call_Name_kw (Ja I hg hm boot_min (PyProof.Rows.callWith_kw (kO hs (jl (ha pins s σ H _ I h) λu s1 ⟨x,H1,I1,r1,q1⟩=>?_)) he hplain))
 show wpAny _ _ (evalAll [do let v <-eval g X.env;standAt pos;pure v]) _ _ _
 refine PyProof.Rows.evalAll_cons (wpAny_bind (jl (hl pins s1 σ H1 _ I1 q1) λv s2 ⟨y,H2,I2,r2,q2⟩=>wpAny_bind (wpAny_standAt (wpAny_pure (PyProof.Rows.evalAll_nil ?_)))))
 obtain⟨l,q,xs,fd,sp,kf,R,rfl,rfl,c,hR,hlR,hne,turn,done⟩:=q2
 cases r1
 cases r2
 obtain⟨k,x,F,hr,hb⟩:=hC _ _ _ c
 show wpAny _ _ (call (.builtin "min") [.ref l] [(Str.ofString "key",.ref q)]) _ _ _
 exact yX (R:=R) hc kf I2 hR hlR hne (λi x v P G s3 hx rx I3 hG=>KB F hr hb I3 (.cons rx .nil) (turn i x G hx hG)) λi x v G s3 hx rx hbest I3 hG=>⟨x,G,I3,rx,done i x G hx hbest hG⟩)
end
end L2
namespace Rb
def xorAll (ns:List Nat):Nat:=ns.foldl (·^^^ ·) 0
def setN (ns:List Nat):Nat:=ns.foldl (λb n=>b ||| 2^n) 0
def memN (b n:Nat):List Nat:=(zac n).filter λi=>b.testBit i
def Lacks (r:Nat) (ns:List Nat):Prop:=r∉ns/\∀x,x < r->x∈ns
theorem NZ (x:Nat):x % 2=(x.testBit 0).toNat:=by
 rw[zdk]
 rcases Nat.mod_two_eq_zero_or_one x with h | h<;>simp [h]
theorem or_and_xor (a:Nat):∀b,(a ||| b)=(a&&& b)+(a^^^b):=by
 induction a using zcK with
 | ind a ih=>
   intro b
   by_cases ha:a=0
   . subst ha;simp
   . have i:=ih (a / 2) (by omega) (b / 2)
     have o1:(a ||| b) / 2=(a / 2) ||| (b / 2):=Nat.or_div_two
     have n1:(a&&& b) / 2=(a / 2)&&& (b / 2):=Nat.and_div_two
     have x1:(a^^^b) / 2=(a / 2)^^^ (b / 2):=Nat.xor_div_two
     have m:(a ||| b) % 2=(a&&& b) % 2+(a^^^b) % 2:=by
       rw[NZ (a ||| b),NZ (a&&& b),NZ (a^^^b),Nat.testBit_or,Nat.testBit_and,zbN]
       cases a.testBit 0<;>cases b.testBit 0<;>rfl
     omega
theorem uz (ns:List Nat):∀b k,(ns.foldl (λb n=>b ||| 2^n) b).testBit k=(b.testBit k || decide (k∈ns)):=by
 induction ns with
 | nil=>intro b k;simp
 | cons n ns ih=>
   intro b k
   rw[zcL,ih,Nat.testBit_or,Nat.testBit_two_pow]
   by_cases h:n=k
   . subst h;simp
   . have h':¬k=n:=λe=>h e.symm
     simp [h,h']
theorem testBit_setN (ns:List Nat) (k:Nat):(setN ns).testBit k=decide (k∈ns):=by
 unfold setN
 rw[uz]
 simp
theorem mem_memN {b n i:Nat}:i∈memN b n↔i < n/\b.testBit i=true:=by
 unfold memN
 simp
theorem Vz {b k m:Nat} (h:b < 2^m) (hk:m<=k):b.testBit k=false:=Nat.testBit_lt_two_pow (tT h (Nat.pow_le_pow_right (by decide) hk))
theorem Wr {b m:Nat} (h:b < 2^m):∀n,m<=n->memN b n=memN b m:=by
 intro n hn
 obtain⟨k,rfl⟩:=Nat.le.dest hn
 unfold memN
 rw[List.range_add,zaO]
 have e:((zac k).map (m+·)).filter (λi=>b.testBit i)=[]:=by
   rw[zdn]
   intro i hi
   obtain⟨j,_,rfl⟩:=tJ.mp hi
   rw[Vz h (Nat.le_add_right _ _)]
   simp
 rw[e,zax]
theorem memN_same {b m n:Nat} (hm:b < 2^m) (hn:b < 2^n):memN b n=memN b m:=by
 by_cases h:m<=n
 . exact Wr hm n h
 . exact(Wr hn m (by omega)).symm
theorem setN_lt {ns:List Nat} {m:Nat} (h:∀x∈ns,x < m):setN ns < 2^m:=by
 refine Nat.lt_pow_two_of_testBit _ λi hi=>?_
 rw[testBit_setN]
 refine decide_eq_false λz=>?_
 have:=h i z
 omega
def turnN (b n m:Nat):Nat:=setN ((memN b m).map (·^^^n))
theorem xor_lt {a b m:Nat} (h1:a < 2^m) (h2:b < 2^m):a^^^b < 2^m:=Nat.xor_lt_two_pow h1 h2
theorem vh (a b:Nat):(a^^^b)^^^b=a:=by rw[zbk,zcb,zdo]
theorem vk {b n m k:Nat} (hm:m<=2^k) (hn:n < 2^k):turnN b n m < 2^ (2^k):=by
 refine setN_lt λx hx=>?_
 obtain⟨y,hy,rfl⟩:=tJ.mp hx
 exact xor_lt (tT (mem_memN.mp hy).1 hm) hn
theorem pigeon:∀(n:Nat) (ns:List Nat),(∀x,x < n->x∈ns)->n<=ns.length:=by
 intro n
 induction n with
 | zero=>intro ns _;exact zay _
 | succ n ih=>
   intro ns h
   have hn:n∈ns:=h n (zaI n)
   have:=ih (ns.erase n) λx hx=>(zbW (by omega)).mpr (h x (zbS hx))
   rw[zch hn]at this
   have hp:0 < ns.length:=zaD hn
   omega
theorem Lacks.uniq {r s:Nat} {ns:List Nat} (h:Lacks r ns) (g:Lacks s ns):r=s:=by
 rcases zaC r s with z | z | z
 . exact absurd (g.2 r z) h.1
 . exact z
 . exact absurd (h.2 s z) g.1
def Zb (ns:List Nat):Nat->Nat
 | 0=>0
 | i+1=>if Zb ns i∈ns then Zb ns i+1 else Zb ns i
theorem UW (ns:List Nat):∀i,(∀x,x < Zb ns i->x∈ns)/\Zb ns i<=i/\(Zb ns i < i->Zb ns i∉ns):=by
 intro i
 induction i with
 | zero=>exact⟨λx hx=>absurd hx (zcn _),tF _,λh=>absurd h (zaw _)⟩
 | succ i ih=>
   obtain⟨h1,h2,h3⟩:=ih
   unfold Zb
   by_cases h:Zb ns i∈ns
   . rw[if_pos h]
     refine⟨λx hx=>?_,by omega,λhlt=>absurd h (h3 (by omega))⟩
     by_cases e:x=Zb ns i
     . rw[e];exact h
     . exact h1 x (by omega)
   . rw[if_neg h]
     exact⟨h1,by omega,λ_=>h⟩
theorem lackI_lacks (ns:List Nat):Lacks (Zb ns (ns.length+1)) ns:=by
 obtain⟨h1,h2,h3⟩:=UW ns (ns.length+1)
 refine⟨h3 ?_,h1⟩
 have:=pigeon _ _ h1
 omega
def lackN (ns:List Nat):Nat:=Zb ns (ns.length+1)
theorem lackN_eq {r:Nat} {ns:List Nat} (h:Lacks r ns):r=lackN ns:=h.uniq (lackI_lacks ns)
theorem memN_succ (b i:Nat):memN b (i+1)=memN b i++(if b.testBit i then [i] else []):=by
 unfold memN
 rw[zco,zaO]
 congr 1
 by_cases h:b.testBit i=true
 . simp [h]
 . simp [h]
theorem testBit_div (b i:Nat):b.testBit i=decide (b / 2^i % 2=1):=by
 rw[Nat.testBit_eq_decide_div_mod_eq]
theorem xorAll_snoc (ns:List Nat) (n:Nat):xorAll (ns++[n])=xorAll ns^^^n:=by unfold xorAll;rw[zcB];rfl
theorem setN_snoc (ns:List Nat) (n:Nat):setN (ns++[n])=setN ns ||| 2^n:=by unfold setN;rw[zcB];rfl
end Rb
namespace MLab
theorem vn:∀(g m:Nat),m < g->∃k,m.testBit k=false/\g.testBit k=true/\∀j,k < j->m.testBit j=g.testBit j:=by
 intro g
 induction g using zcK with
 | _ g ih=>
   intro m h
   by_cases c:m / 2 < g / 2
   . obtain⟨k,h1,h2,h3⟩:=ih (g / 2) (by omega) (m / 2) c
     refine⟨k+1,by rw[zbH];exact h1,by rw[zbH];exact h2,λj hj=>?_⟩
     cases j with
     | zero=>omega
     | succ j=>rw[zbH,zbH];exact h3 j (by omega)
   . have e:m / 2=g / 2:=by omega
     refine⟨0,?_,?_,λj hj=>?_⟩
     . rw[zdk];simp;omega
     . rw[zdk];simp;omega
     . cases j with
       | zero=>omega
       | succ j=>rw[zbH,zbH,e]
theorem N1 {x y:Nat} (k:Nat) (hx:x.testBit k=false) (hy:y.testBit k=true) (h:∀j,k < j->x.testBit j=y.testBit j):x < y:=by
 rcases zaC x y with c | rfl | c
 . exact c
 . rw[hx]at hy;cases hy
 . obtain⟨i,h1,h2,h3⟩:=vn _ _ c
   rcases zaC i k with d | rfl | d
   . have:=h3 k d;rw[hx,hy]at this;cases this
   . rw[hy]at h1;cases h1
   . have:=h i d;rw[h1,h2]at this;cases this
def jK (ns:List Nat):Nat:=ns.foldr (λa b=>a^^^b) 0
theorem Zt (a:Nat) (ns:List Nat):jK (a::ns)=a^^^jK ns:=rfl
theorem Vt {k:Nat}:∀{ns:List Nat},(jK ns).testBit k=true->∃n∈ns,n.testBit k=true
 | [],h=>by simp [jK]at h
 | a::ns,h=>by
   rw[Zt,zbN]at h
   cases e:a.testBit k with
   | true=>exact⟨a,zaa,e⟩
   | false=>
     rw[e,Bool.false_xor]at h
     obtain⟨n,hn,h'⟩:=Vt h
     exact⟨n,tU _ hn,h'⟩
theorem kF {ns:List Nat} {m:Nat} (h:m < jK ns):∃n∈ns,n^^^jK ns^^^m < n:=by
 obtain⟨k,h1,h2,h3⟩:=vn _ _ h
 obtain⟨n,hn,hk⟩:=Vt h2
 refine⟨n,hn,N1 k ?_ hk λj hj=>?_⟩
 . rw[zbN,zbN,hk,h1,h2];rfl
 . rw[zbN,zbN,h3 j hj]
   cases n.testBit j<;>cases (jK ns).testBit j<;>rfl
section
variable {α:Type} (G:α->List α)
structure XY (ok:α->Prop) (num:α->Option Nat) (stp:α->Nat):Prop where
 cl:∀{x y},ok x->y∈G x->ok y
 n1:∀{x n m},ok x->num x=some n->m < n->∃y∈G x,num y=some m/\stp y < stp x
 n2:∀{x y n},ok x->num x=some n->y∈G x->num y≠some n
 n3:∀{x y n},ok x->num x=some n->y∈G x->(∀m,num y=some m->n < m)->∃z∈G y,num z=some n/\stp z < stp x
 n4:∀{x y n m},ok x->num x=some n->y∈G x->num y=some m->m < n->stp y < stp x
 e:∀{x m},ok x->num x=none->(∀j,j < m->∃y∈G x,num y=some j)->(∀y∈G x,num y≠some m)->∃y∈G x,num y=none/\∀z∈G y,num z≠some m
section
variable {β:Type} (M:β->List β)
mutual
inductive YF:β->Prop
 | mk {a:β} (h:∀b∈M a,Won b):YF a
inductive Won:β->Prop
 | mk {a b:β} (m:b∈M a) (h:YF b):Won a
end
end
def mv:List α->List (List α)
 | []=>[]
 | x::h=>(G x).map (λy=>y::h)++(mv h).map (λb=>x::b)
theorem jE:∀{a b:List α},b∈mv G a↔∃p x y q,a=p++x::q/\y∈G x/\b=p++y::q
 | [],b=>by
   constructor
   . intro h;simp [mv]at h
   . rintro⟨p,x,y,q,e,_⟩;simp at e
 | x::h,b=>by
   unfold mv
   rw[tV,tJ,tJ]
   constructor
   . rintro(⟨y,hy,rfl⟩ | ⟨b',hb,rfl⟩)
     . exact⟨[],x,y,h,rfl,hy,rfl⟩
     . obtain⟨p,u,y,q,rfl,hy,rfl⟩:=jE.mp hb
       exact⟨x::p,u,y,q,rfl,hy,rfl⟩
   . rintro⟨p,u,y,q,e,hy,rfl⟩
     cases p with
     | nil=>
       cases e
       exact .inl ⟨y,hy,rfl⟩
     | cons v p=>
       cases e
       exact .inr ⟨p++y::q,jE.mpr ⟨p,u,y,q,rfl,hy,rfl⟩,rfl⟩
variable {G} {ok:α->Prop} {num:α->Option Nat} {stp:α->Nat}
def nums (num:α->Option Nat) (h:List α):List Nat:=h.filterMap num
def ends (num:α->Option Nat) (h:List α):Nat:=(h.filter λx=>(num x).isNone).length
theorem Vu (a b:List Nat):jK (a++b)=jK a^^^jK b:=by
 induction a with
 | nil=>show jK b=0^^^jK b;rw[zcC]
 | cons x a ih=>rw[zcE,Zt,ih,Zt,zbk]
theorem jL {p q:List α} {x:α} {n:Nat} (h:num x=some n):jK (nums num (p++x::q))=n^^^jK (nums num (p++q)):=by
 unfold nums
 rw[zaq,zar,h,zaq,Vu,Vu]
 show _^^^ (n^^^jK _)=_
 rw[<-zbk,zdS _ n,zbk]
theorem Q7 {p q:List α} {x:α} (h:num x=none):nums num (p++x::q)=nums num (p++q):=by
 unfold nums
 rw[zaq,zar,h,zaq]
theorem ja {p q:List α} {x:α} {n:Nat} (h:num x=some n):ends num (p++x::q)=ends num (p++q):=by
 unfold ends
 rw[zaO,zbu,h,zaO]
 rfl
theorem jf {p q:List α} {x:α} (h:num x=none):ends num (p++x::q)=ends num (p++q)+1:=by
 unfold ends
 rw[zaO,zbu,h,zaO,tL,tL]
 show _+(_+1)=_
 omega
def zJ (stp:α->Nat) (h:List α):Nat:=(h.map stp).sum
theorem Qh {p q:List α} {x:α}:zJ stp (p++x::q)=stp x+zJ stp (p++q):=by
 unfold zJ
 rw[tN,tW,zcm,zaV,tN,zcm]
 omega
theorem Z2 {a b c:Nat} (h:a^^^c=b^^^c):a=b:=by
 have:a^^^c^^^c=b^^^c^^^c:=by rw[h]
 rwa [zbk,zbk,zcb,zdo,zdo]at this
theorem Z4 (L:XY G ok num stp) {h:List α} (hk:∀x∈h,ok x) {m:Nat} (lt:m < jK (nums num h)):∃p x y q,h=p++x::q/\y∈G x/\(∃n k,num x=some n/\num y=some k)/\jK (nums num (p++y::q))=m/\stp y < stp x:=by
 obtain⟨n,hn,hl⟩:=kF lt
 obtain⟨x,hx,ex⟩:=zaE.mp hn
 obtain⟨p,q,rfl⟩:=zcp hx
 obtain⟨y,hy,ey,ly⟩:=L.n1 (hk x hx) ex hl
 refine⟨p,x,y,q,rfl,hy,⟨n,_,ex,ey⟩,?_,ly⟩
 rw[jL ey,jL ex]
 generalize jK (nums num (p++q))=r
 rw[<-zbk n n r,zcb,zcC,zdS r m,zbk,zcb,zdo]
theorem Ju {h p q:List α} {x y:α} (L:XY G ok num stp) (hk:∀x∈h,ok x) (e:h=p++x::q) (hy:y∈G x):∀z∈p++y::q,ok z:=λz hz=>by
 subst e
 rcases tV.mp hz with hz | hz
 . exact hk z (zai _ hz)
 . rcases t8.mp hz with rfl | hz
   . exact L.cl (hk x (by simp)) hy
   . exact hk z (tM _ (tU _ hz))
theorem yA (L:XY G ok num stp):∀(c:Nat) {h:List α},zJ stp h<=c->(∀x∈h,ok x)->ends num h=0->jK (nums num h)=0->YF (mv G) h:=by
 intro c
 induction c using zcK with
 | _ c ih=>
   intro h hc hk he hx
   refine .mk λb hb=>?_
   obtain⟨p,x,y,q,rfl,hy,rfl⟩:=(jE G).mp hb
   have okx:=hk x (by simp)
   have hk':=Ju L hk rfl hy
   cases ex:num x with
   | none=>rw[jf ex]at he;omega
   | some n=>
     rw[ja ex]at he
     rw[jL ex]at hx
     rw[Qh]at hc
     have back:(∀m,num y=some m->n < m)->Won (mv G) (p++y::q):=λgt=>by
       obtain⟨z,hz,ez,lz⟩:=L.n3 okx ex hy gt
       refine .mk (b:=p++z::q) ((jE G).mpr ⟨p,y,z,q,rfl,hz,rfl⟩) (ih (zJ stp (p++z::q)) (by rw[Qh];omega) (tF _) (Ju L hk' rfl hz) (by rw[ja ez];exact he) (by rw[jL ez];exact hx))
     cases ey:num y with
     | none=>exact back λm h=>by rw[ey]at h;cases h
     | some k=>
       rcases zaC k n with lt | rfl | gt
       . have ly:=L.n4 okx ex hy ey lt
         have pos:0 < jK (nums num (p++y::q)):=by
           rw[jL ey]
           refine zcW λz=>?_
           have:=Z2 (z.trans hx.symm)
           omega
         obtain⟨p',x',y',q',e',hy',⟨n',k',en,ek⟩,x0,l'⟩:=Z4 L hk' pos
         have ce:zJ stp (p++y::q)=stp y+zJ stp (p++q):=Qh
         rw[e',Qh]at ce
         have ee:ends num (p++y::q)=0:=by rw[ja ey];exact he
         refine .mk (b:=p'++y'::q') ((jE G).mpr ⟨p',x',y',q',e',hy',rfl⟩) (ih (zJ stp (p'++y'::q')) (by rw[Qh];omega) (tF _) (Ju L hk' e' hy') ?_ x0)
         rw[e',ja en]at ee
         rw[ja ek]
         exact ee
       . exact absurd ey (L.n2 okx ex hy)
       . exact back λm h=>by rw[ey]at h;cases h;exact gt
def Drawn (G:α->List α) (num:α->Option Nat) (h:List α):Prop:=(∃p x q,h=p++x::q/\num x=none/\ends num (p++q)=0/\∀y∈G x,num y≠some (jK (nums num (p++q))))\/2<=ends num h
theorem QK {h:List α}:0 < ends num h↔∃p x q,h=p++x::q/\num x=none:=by
 unfold ends
 constructor
 . intro c
   obtain⟨x,hx⟩:=zbJ c
   obtain⟨h1,h2⟩:=tX.mp hx
   obtain⟨p,q,e⟩:=zcp h1
   exact⟨p,x,q,e,by simpa using h2⟩
 . rintro⟨p,x,q,rfl,ex⟩
   exact zaD (a:=x) (tX.mpr ⟨by simp,by rw[ex];rfl⟩)
theorem lack (L:XY G ok num stp) {x:α} (okx:ok x) (ex:num x=none):∃m,(∀j,j < m->∃y∈G x,num y=some j)/\(∀y∈G x,num y≠some m)/\∃y∈G x,num y=none/\∀z∈G y,num z≠some m:=by
 have ⟨b,hb⟩:∃b,∀y∈G x,num y≠some b:=by
   refine⟨(nums num (G x)).sum+1,λy hy e=>?_⟩
   have:∀(l:List Nat) (n:Nat),n∈l->n<=l.sum:=by
     intro l
     induction l with
     | nil=>intro n h;cases h
     | cons a l ih=>
       intro n h
       rw[zaV]
       rcases t8.mp h with rfl | h
       . omega
       . have:=ih n h;omega
   have q:(nums num (G x)).sum+1∈nums num (G x):=zaE.mpr ⟨y,hy,e⟩
   have:=this _ _ q
   omega
 have ⟨m,hm,least⟩:∃m,(∀y∈G x,num y≠some m)/\∀j,j < m->¬∀y∈G x,num y≠some j:=by
   induction b using zcK with
   | _ b ih=>
     by_cases c:∃j,j < b/\∀y∈G x,num y≠some j
     . obtain⟨j,hj,h⟩:=c
       exact ih j hj h
     . exact⟨b,hb,λj hj h=>c ⟨j,hj,h⟩⟩
 have lo:∀j,j < m->∃y∈G x,num y=some j:=λj hj=>Classical.byContradiction λn=>least j hj λy hy e=>n ⟨y,hy,e⟩
 exact⟨m,lo,hm,L.e okx ex lo hm⟩
theorem uJ (L:XY G ok num stp) {h:List α} (hk:∀x∈h,ok x) (d:Drawn G num h):∃b∈mv G h,Drawn G num b:=by
 rcases d with ⟨p,x,q,rfl,ex,he,no⟩ | two
 . have okx:=hk x (by simp)
   obtain⟨m,lo,hm,y,hy,ey,ly⟩:=lack L okx ex
   rcases zaC m (jK (nums num (p++q))) with lt | e | gt
   . have hk':∀z∈p++q,ok z:=λz hz=>hk z (by
       rcases tV.mp hz with hz | hz
       . exact zai _ hz
       . exact tM _ (tU _ hz))
     obtain⟨p',x',y',q',e',hy',⟨n',k',en,ek⟩,x0,_⟩:=Z4 L hk' lt
     have key:∃p2 q2,p++x::q∈[p++x::q]/\(p2++x::q2)∈mv G (p++x::q)/\p2++q2=p'++y'::q':=by
       rcases List.append_eq_append_iff.mp e' with ⟨r,e1,e2⟩ | ⟨r,e1,e2⟩
       ·
         refine⟨p,r++y'::q',by simp,(jE G).mpr ⟨p++x::r,x',y',q',?_,hy',?_⟩,?_⟩
         . rw[e2];simp
         . simp
         . rw[e1];simp
       ·
         cases r with
         | nil=>
           simp at e1 e2
           refine⟨p,y'::q',by simp,(jE G).mpr ⟨p++[x],x',y',q',?_,hy',?_⟩,?_⟩
           . rw[<-e2];simp
           . simp
           . rw[e1]
         | cons u r=>
           rw[zcE]at e2
           obtain⟨rfl,e3⟩:=List.cons.inj e2
           refine⟨p'++y'::r,q,by simp,(jE G).mpr ⟨p',x',y',r++x::q,?_,hy',?_⟩,?_⟩
           . rw[e1];simp
           . simp
           . rw[e3];simp
     obtain⟨p2,q2,_,hm2,e2⟩:=key
     refine⟨_,hm2,.inl ⟨p2,x,q2,rfl,ex,?_,?_⟩⟩
     . rw[e2,ja ek]
       rw[e',ja en]at he
       exact he
     . rw[e2,x0]
       exact hm
   . exact⟨p++y::q,(jE G).mpr ⟨p,x,y,q,rfl,hy,rfl⟩,.inl ⟨p,y,q,rfl,ey,he,by rw[<-e];exact ly⟩⟩
   . obtain⟨y',hy',e'⟩:=lo _ gt
     exact absurd e' (no y' hy')
 . obtain⟨p,x,q,rfl,ex⟩:=QK.mp (by omega:0 < ends num h)
   obtain⟨m,lo,hm,y,hy,ey,ly⟩:=lack L (hk x (by simp)) ex
   refine⟨p++y::q,(jE G).mpr ⟨p,x,y,q,rfl,hy,rfl⟩,.inr ?_⟩
   rw[jf ex]at two
   rw[jf ey]
   exact two
def Zero (num:α->Option Nat) (h:List α):Prop:=ends num h=0/\jK (nums num h)=0
theorem kE (L:XY G ok num stp) {h b:List α} (hk:∀x∈h,ok x) (z:Zero num h) (m:b∈mv G h):¬Zero num b:=λw=>by
 obtain⟨p,x,y,q,rfl,hy,rfl⟩:=(jE G).mp m
 cases ex:num x with
 | none=>have:=z.1;rw[jf ex]at this;omega
 | some n=>
   cases ey:num y with
   | none=>have:=w.1;rw[jf ey]at this;omega
   | some k=>
     have h1:=z.2
     have h2:=w.2
     rw[jL ex]at h1
     rw[jL ey]at h2
     have:=Z2 (h1.trans h2.symm)
     subst this
     exact L.n2 (hk x (by simp)) ex hy ey
theorem Z0 {h b:List α} (d:Drawn G num h) (m:b∈mv G h):¬Zero num b:=λw=>by
 obtain⟨p',u,y,q',rfl,hy,rfl⟩:=(jE G).mp m
 cases eu:num u with
 | some n=>
   have pos:0 < ends num (p'++u::q'):=by
     rcases d with ⟨p,x,q,e,ex,_⟩ | two
     . exact QK.mpr ⟨p,x,q,e,ex⟩
     . omega
   rw[ja eu]at pos
   have w1:=w.1
   cases ey:num y with
   | none=>rw[jf ey]at w1;omega
   | some k=>rw[ja ey]at w1;omega
 | none=>
   have w1:=w.1
   cases ey:num y with
   | none=>rw[jf ey]at w1;omega
   | some k=>
     rw[ja ey]at w1
     rcases d with ⟨p,x,q,e,ex,he,no⟩ | two
     . have hu:u∈p++x::q:=by rw[<-e];simp
       have ux:u=x:=Classical.byContradiction λne=>by
         have:u∈p++q:=by
           rcases tV.mp hu with h | h
           . exact zai _ h
           . rcases t8.mp h with h | h
             . exact absurd h ne
             . exact tM _ h
         obtain⟨a,b,e2⟩:=zcp this
         have:=QK.mpr ⟨a,u,b,e2,eu⟩
         omega
       subst ux
       have en:nums num (p'++q')=nums num (p++q):=by rw[<-Q7 (p:=p') (q:=q') eu,e,Q7 eu]
       have w2:=w.2
       rw[jL ey,en]at w2
       have:k=jK (nums num (p++q)):=Z2 (c:=jK (nums num (p++q))) (by rw[w2,zcb])
       exact no y hy (by rw[ey,this])
     . rw[jf eu]at two
       omega
theorem kind (L:XY G ok num stp) {h:List α} (hk:∀x∈h,ok x):Zero num h\/Drawn G num h\/∃b∈mv G h,Zero num b/\∀x∈b,ok x:=by
 rcases zaC (ends num h) 1 with c | c | c
 . have he:ends num h=0:=by omega
   by_cases hx:jK (nums num h)=0
   . exact .inl ⟨he,hx⟩
   . obtain⟨p,x,y,q,e,hy,⟨n,k,en,ek⟩,x0,_⟩:=Z4 L hk (zcW hx)
     refine .inr (.inr ⟨p++y::q,(jE G).mpr ⟨p,x,y,q,e,hy,rfl⟩,⟨?_,x0⟩,Ju L hk e hy⟩)
     rw[e,ja en]at he
     rw[ja ek]
     exact he
 . obtain⟨p,x,q,rfl,ex⟩:=QK.mp (by omega:0 < ends num h)
   rw[jf ex]at c
   have he:ends num (p++q)=0:=by omega
   by_cases d:∃y∈G x,num y=some (jK (nums num (p++q)))
   . obtain⟨y,hy,ey⟩:=d
     exact .inr (.inr ⟨p++y::q,(jE G).mpr ⟨p,x,y,q,rfl,hy,rfl⟩,⟨by rw[ja ey];exact he,by rw[jL ey,zcb]⟩,Ju L hk rfl hy⟩)
   . exact .inr (.inl (.inl ⟨p,x,q,rfl,ex,he,λy hy e=>d ⟨y,hy,e⟩⟩))
 . exact .inr (.inl (.inr (by omega)))
mutual
theorem kc (L:XY G ok num stp) {h:List α} (hk:∀x∈h,ok x):YF (mv G) h->Zero num h
 | .mk w=>by
   rcases kind L hk with z | d | ⟨b,hb,z,kb⟩
   . exact z
   . obtain⟨b,hb,d'⟩:=uJ L hk d
     have kb:∀x∈b,ok x:=by
       obtain⟨p,x,y,q,e,hy,rfl⟩:=(jE G).mp hb
       exact Ju L hk e hy
     exact absurd d' (won_is L kb (w b hb)).1
   . exact absurd z (won_is L kb (w b hb)).2
theorem won_is (L:XY G ok num stp) {h:List α} (hk:∀x∈h,ok x):Won (mv G) h->¬Drawn G num h/\¬Zero num h
 | .mk (b:=b) m l=>by
   have kb:∀x∈b,ok x:=by
     obtain⟨p,x,y,q,e,hy,rfl⟩:=(jE G).mp m
     exact Ju L hk e hy
   have z:=kc L kb l
   exact⟨λd=>Z0 d m z,λz'=>kE L hk z' m z⟩
end
theorem Q9 (L:XY G ok num stp) {h:List α} (hk:∀x∈h,ok x):YF (mv G) h↔Zero num h:=⟨kc L hk,λz=>yA L _ (tF _) hk z.1 z.2⟩
theorem WL (L:XY G ok num stp) {h:List α} (hk:∀x∈h,ok x):Won (mv G) h↔¬Drawn G num h/\¬Zero num h:=⟨won_is L hk,λ⟨d,z⟩=>by
 rcases kind L hk with z' | d' | ⟨b,hb,z',kb⟩
 . exact absurd z' z
 . exact absurd d' d
 . exact .mk hb ((Q9 L kb).mpr z')⟩
end
section
variable {α:Type} [DecidableEq α] (G:α->List α) (N:List α)
abbrev Rs (α:Type):=List (Nat×List α)
def qE (rs:Rs α) (z:α):Option Nat:=(rs.find? λr=>decide (z∈r.2)).map (·.1)
def QY (rs:Rs α) (z:α):Nat:=rs.findIdx λr=>decide (z∈r.2)
def YG (f:α->Option Nat) (x:α) (n:Nat):Prop:=(∀j,j < n->∃y∈G x,f y=some j)/\(∀y∈G x,f y≠some n)/\∀y∈G x,f y=none->∃z∈G y,f z=some n
structure Ur (rs:Rs α) (n:Nat) (ns:List α):Prop where
 iff:∀x,x∈ns↔x∈N/\qE rs x=none/\YG G (qE rs) x n
 sub:ns.Sublist N
inductive Qw (n:Nat):Rs α->Rs α->Prop
 | stop {rs:Rs α} (h:Ur G N rs n []):Qw n rs rs
 | more {rs rs':Rs α} {ns:List α} (h:Ur G N rs n ns) (ne:ns≠[]) (k:Qw n (rs++[(n,ns)]) rs'):Qw n rs rs'
inductive All:Nat->Rs α->Rs α->Prop
 | stop {n:Nat} {rs:Rs α} (h:Ur G N rs n []):All n rs rs
 | more {n:Nat} {rs rs' rs'':Rs α} (h:Qw G N n rs rs') (ne:rs'≠rs) (k:All (n+1) rs' rs''):All n rs rs''
variable {G N}
theorem JP {rs:Rs α} {n:Nat} {ns:List α} {z:α}:qE (rs++[(n,ns)]) z=match qE rs z with | some m=>some m | none=>if z∈ns then some n else none:=by
 unfold qE
 rw[List.find?_append]
 cases e:rs.find? (λr=>decide (z∈r.2)) with
 | some r=>rfl
 | none=>
   by_cases c:z∈ns
   . simp [c]
   . simp [c]
theorem YZ {rs:Rs α} {z:α}:qE rs z=none↔∀r∈rs,z∉r.2:=by
 unfold qE
 rw[Option.map_eq_none_iff,zdJ]
 simp
theorem Jm {rs:Rs α} {n m:Nat} {ns:List α} {z:α} (h:qE rs z=some m):QY (rs++[(n,ns)]) z=QY rs z/\QY rs z < rs.length:=by
 have ex:∃r∈rs,z∈r.2:=Classical.byContradiction λno=>by
   have:=YZ.mpr λr hr hz=>no ⟨r,hr,hz⟩
   rw[h]at this
   cases this
 obtain⟨r,hr,hz⟩:=ex
 have lt:QY rs z < rs.length:=List.findIdx_lt_length_of_exists ⟨r,hr,decide_eq_true hz⟩
 refine⟨?_,lt⟩
 unfold QY at lt ⊢
 rw[zdF,if_pos lt]
theorem vN {rs:Rs α} {n:Nat} {ns:List α} {z:α} (h:qE rs z=none) (hz:z∈ns):QY (rs++[(n,ns)]) z=rs.length:=by
 have e:QY rs z=rs.length:=by
   unfold QY
   rw[List.findIdx_eq_length]
   intro r hr
   exact decide_eq_false (YZ.mp h r hr)
 unfold QY at e ⊢
 rw[zdF,if_neg (by rw[e];exact zaw _)]
 simp [hz,List.findIdx_cons]
variable (G N) in
structure R3 (rs:Rs α) (n:Nat):Prop where
 inN:∀{x m},qE rs x=some m->x∈N
 le:∀{x m},qE rs x=some m->m<=n
 n1:∀{x k m},qE rs x=some k->m < k->∃y∈G x,qE rs y=some m/\QY rs y < QY rs x
 n2:∀{x y k},qE rs x=some k->y∈G x->qE rs y≠some k
 n3:∀{x y k},qE rs x=some k->y∈G x->(∀m,qE rs y=some m->k < m)->∃z∈G y,qE rs z=some k/\QY rs z < QY rs x
 n4:∀{x y k m},qE rs x=some k->y∈G x->qE rs y=some m->m < k->QY rs y < QY rs x
theorem ZP {rs:Rs α} {n m:Nat} {ns:List α} {z:α} (h:qE rs z=some m):qE (rs++[(n,ns)]) z=some m:=by rw[JP,h]
theorem kl {rs:Rs α} {n:Nat} {ns:List α} {z:α} (h:qE rs z=none) (hz:z∈ns):qE (rs++[(n,ns)]) z=some n:=by
 rw[JP,h]
 exact if_pos hz
theorem Qj {rs:Rs α} {n m:Nat} {ns:List α} {z:α} (h:qE (rs++[(n,ns)]) z=some m):(qE rs z=some m/\QY (rs++[(n,ns)]) z=QY rs z/\QY rs z < rs.length)\/(qE rs z=none/\z∈ns/\m=n/\QY (rs++[(n,ns)]) z=rs.length):=by
 cases e:qE rs z with
 | some k=>
   rw[ZP e]at h
   cases h
   exact .inl ⟨rfl,Jm e⟩
 | none=>
   rw[JP,e]at h
   by_cases c:z∈ns
   . have h:(if z∈ns then some n else none)=some m:=h
     rw[if_pos c]at h
     cases h
     exact .inr ⟨rfl,c,rfl,vN e c⟩
   . have h:(if z∈ns then some n else none)=some m:=h
     rw[if_neg c]at h
     cases h
theorem uB {rs:Rs α} {n:Nat} {ns:List α} {z:α} (h:qE (rs++[(n,ns)]) z=none):qE rs z=none:=by
 cases e:qE rs z with
 | none=>rfl
 | some k=>rw[ZP e]at h;cases h
theorem R3.more {rs:Rs α} {n:Nat} {ns:List α} (v:R3 G N rs n) (r:Ur G N rs n ns):R3 G N (rs++[(n,ns)]) n:=by
 refine⟨λ{x m} h=>?_,λ{x m} h=>?_,λ{x k m} h lt=>?_,λ{x y k} h hy e=>?_,λ{x y k} h hy gt=>?_,λ{x y k m} h hy ey lt=>?_⟩
 . rcases Qj h with ⟨h,_⟩ | ⟨_,h,_⟩
   . exact v.inN h
   . exact((r.iff x).mp h).1
 . rcases Qj h with ⟨h,_⟩ | ⟨_,_,rfl,_⟩
   . exact v.le h
   . exact tF _
 . rcases Qj h with ⟨h,es,_⟩ | ⟨h,hx,rfl,es⟩
   . obtain⟨y,hy,ey,ly⟩:=v.n1 h lt
     exact⟨y,hy,ZP ey,by rw[es,(Jm ey).1];exact ly⟩
   . obtain⟨y,hy,ey⟩:=((r.iff x).mp hx).2.2.1 m lt
     exact⟨y,hy,ZP ey,by rw[es,(Jm (n:=k) (ns:=ns) ey).1];exact(Jm (n:=k) (ns:=ns) ey).2⟩
 . rcases Qj h with ⟨h,_⟩ | ⟨h,hx,rfl,_⟩
   . rcases Qj e with ⟨e,_⟩ | ⟨e1,hy',e2,_⟩
     . exact v.n2 h hy e
     . obtain⟨z,hz,ez,_⟩:=v.n3 h hy (λm q=>by rw[e1]at q;cases q)
       rw[e2]at ez
       exact((r.iff y).mp hy').2.2.2.1 z hz ez
   . have g:=((r.iff x).mp hx).2.2
     rcases Qj e with ⟨e,_⟩ | ⟨e,hy',_,_⟩
     . exact g.2.1 y hy e
     . obtain⟨z,hz,ez⟩:=g.2.2 y hy e
       exact((r.iff y).mp hy').2.2.2.1 z hz ez
 . rcases Qj h with ⟨h,es,_⟩ | ⟨h,hx,rfl,es⟩
   . obtain⟨z,hz,ez,lz⟩:=v.n3 h hy (λm q=>gt m (ZP q))
     exact⟨z,hz,ZP ez,by rw[es,(Jm ez).1];exact lz⟩
   . have bare:qE rs y=none:=by
       cases e:qE rs y with
       | none=>rfl
       | some m=>
         have:=gt m (ZP e)
         have:=v.le e
         omega
     obtain⟨z,hz,ez⟩:=((r.iff x).mp hx).2.2.2.2 y hy bare
     exact⟨z,hz,ZP ez,by rw[es,(Jm (n:=k) (ns:=ns) ez).1];exact(Jm (n:=k) (ns:=ns) ez).2⟩
 . rcases Qj h with ⟨h,es,_⟩ | ⟨h,hx,rfl,es⟩
   . rcases Qj ey with ⟨ey,es',_⟩ | ⟨_,_,em,_⟩
     . rw[es,es']
       exact v.n4 h hy ey lt
     . have:=v.le h
       omega
   . rcases Qj ey with ⟨ey,es',l'⟩ | ⟨_,_,rfl,_⟩
     . rw[es,es']
       exact l'
     . omega
variable (G N) in
def EP (rs:Rs α) (m:Nat):Prop:=∀x∈N,qE rs x=none->(∀j,j < m->∃y∈G x,qE rs y=some j)->(∀y∈G x,qE rs y≠some m)->∃y∈G x,qE rs y=none/\∀z∈G y,qE rs z≠some m
theorem uF {rs:Rs α} {n:Nat} (r:Ur G N rs n []):EP G N rs n:=λx hx e lo hi=>Classical.byContradiction λno=>by
 refine absurd ((r.iff x).mpr ⟨hx,e,lo,hi,λy hy ey=>Classical.byContradiction λq=>no ⟨y,hy,ey,λz hz ez=>q ⟨z,hz,ez⟩⟩⟩) (by simp)
theorem Rm {rs:Rs α} {n m:Nat} {ns:List α} (v:R3 G N rs n) (r:Ur G N rs n ns) (lt:m < n) (h:EP G N rs m):EP G N (rs++[(n,ns)]) m:=λx hx e lo hi=>by
 have old:∀{z j},j<=m->qE (rs++[(n,ns)]) z=some j->qE rs z=some j:=λ{z j} hj ez=>by
   rcases Qj ez with ⟨ez,_⟩ | ⟨_,_,rfl,_⟩
   . exact ez
   . omega
 obtain⟨y,hy,ey,ly⟩:=h x hx (uB e) (λj hj=>let ⟨y,hy,ey⟩:=lo j hj;⟨y,hy,old (by omega) ey⟩) (λy hy ey=>hi y hy (ZP ey))
 refine⟨y,hy,?_,λz hz ez=>ly z hz (old (tF _) ez)⟩
 cases q:qE (rs++[(n,ns)]) y with
 | none=>rfl
 | some k=>
   rcases Qj q with ⟨q,_⟩ | ⟨_,hy',rfl,_⟩
   . rw[ey]at q;cases q
   . obtain⟨z,hz,ez⟩:=((r.iff y).mp hy').2.2.1 m lt
     exact absurd ez (ly z hz)
theorem Ra {n:Nat} {rs rs':Rs α} (g:Qw G N n rs rs'):R3 G N rs n->(∀m,m < n->EP G N rs m)->R3 G N rs' n/\∀m,m<=n->EP G N rs' m:=by
 induction g with
 | stop r=>exact λv h=>⟨v,λm hm=>by
     rcases zbr m n with c | c
     . exact h m c
     . have:m=n:=by omega
       subst this
       exact uF r⟩
 | more r ne k ih=>exact λv h=>ih (v.more r) λm hm=>Rm v r hm (h m hm)
theorem Ms (cl:∀x∈N,∀y∈G x,y∈N) {n:Nat} {rs rs':Rs α} (a:All G N n rs rs'):R3 G N rs n->(∀x m,qE rs x=some m->m < n)->(∀m,m < n->EP G N rs m)->XY G (·∈N) (qE rs') (QY rs'):=by
 induction a with
 | @stop n rs r=>
   intro v lt h
   refine⟨λ{x y} hx hy=>cl x hx y hy,λ{x n m} _=>v.n1,λ{x y n} _=>v.n2,λ{x y n} _=>v.n3,λ{x y n m} _=>v.n4,λ{x m} hx e lo hi=>?_⟩
   rcases zaC m n with c | rfl | c
   . exact h m c x hx e lo hi
   . exact uF r x hx e lo hi
   . obtain⟨y,_,ey⟩:=lo n c
     have:=lt y n ey
     omega
 | @more n rs rs1 rs2 g ne k ih=>
   intro v lt h
   obtain⟨v',h'⟩:=Ra g v h
   exact ih ⟨v'.inN,λ{x m} e=>Nat.le_succ_of_le (v'.le e),v'.n1,v'.n2,v'.n3,v'.n4⟩ (λx m e=>Nat.lt_succ_of_le (v'.le e)) λm hm=>h' m (by omega)
theorem u4 (n:Nat):R3 G N ([]:Rs α) n:=⟨λh=>(nomatch h),λh=>(nomatch h),λh=>(nomatch h),λh=>(nomatch h),λh=>(nomatch h),λh=>(nomatch h)⟩
theorem Yf (cl:∀x∈N,∀y∈G x,y∈N) {rs:Rs α} (a:All G N 0 [] rs):XY G (·∈N) (qE rs) (QY rs):=Ms cl a (u4 0) (λx m h=>(nomatch h)) λm h=>absurd h (zcn m)
end
end MLab
namespace Rb
theorem Qn {b n k:Nat} (hn:n < 16):(turnN b n 16).testBit k=(decide (k < 16)&&b.testBit (k^^^n)):=by
 unfold turnN
 rw[testBit_setN,zbg,decide_eq_true_iff,zau,decide_eq_true_iff,tJ]
 constructor
 . rintro⟨y,hy,rfl⟩
   obtain⟨h1,h2⟩:=mem_memN.mp hy
   exact⟨xor_lt (m:=4) h1 hn,by rw[vh];exact h2⟩
 . rintro⟨h1,h2⟩
   exact⟨k^^^n,mem_memN.mpr ⟨xor_lt (m:=4) h1 hn,h2⟩,vh k n⟩
theorem kK {b x y:Nat} (hx:x < 16) (hy:y < 16):turnN (turnN b x 16) y 16=turnN b (x^^^y) 16:=by
 refine zdC λk=>?_
 have hxy:x^^^y < 16:=xor_lt (m:=4) hx hy
 rw[Qn hy,Qn hx,Qn hxy,zbk,zdS y x]
 by_cases hk:k < 16
 . rw[decide_eq_true hk,decide_eq_true (xor_lt (m:=4) hk hy)]
   simp
 . rw[decide_eq_false hk]
   simp
theorem xc (n:Nat):turnN 0 n 16=0:=by
 unfold turnN
 have e:memN 0 16=[]:=by decide
 rw[e]
 rfl
inductive W where
 | num (n:Nat)
 | edl (b:Nat)
deriving DecidableEq
def zp:W->W->W
 | .num a,.num b=>.num (a^^^b)
 | .num a,.edl b=>.edl (turnN b a 16)
 | .edl b,.num a=>.edl (turnN b a 16)
 | .edl _,.edl _=>.edl 0
def Yv:W->Prop
 | .num n=>n < 16
 | .edl b=>b < 65536
def Q8 (ws:List W):List Nat:=ws.filterMap λ| .num n=>some n | .edl _=>none
def Qf (ws:List W):List Nat:=ws.filterMap λ| .num _=>none | .edl b=>some b
def Qy (ws:List W):W:=match Qf ws with
 | []=>.num (xorAll (Q8 ws))
 | [b]=>.edl (turnN b (xorAll (Q8 ws)) 16)
 | _=>.edl 0
theorem yS (ns:List Nat):∀a,ns.foldl (·^^^ ·) a=a^^^xorAll ns:=by
 induction ns with
 | nil=>intro a;simp [xorAll]
 | cons n ns ih=>
   intro a
   unfold xorAll
   rw[zcL,zcL,ih (a^^^n),ih (0^^^n),zcC,zbk]
theorem Yn (n:Nat) (ns:List Nat):xorAll (n::ns)=n^^^xorAll ns:=by
 show ns.foldl (·^^^ ·) (0^^^n)=_
 rw[yS,zcC]
theorem zO {ns:List Nat} (h:∀x∈ns,x < 16):xorAll ns < 16:=by
 induction ns with
 | nil=>decide
 | cons n ns ih=>
   rw[Yn]
   exact xor_lt (m:=4) (h n (zaa ..)) (ih λx hx=>h x (tU _ hx))
theorem W8 {ws:List W} (h:∀w∈ws,Yv w):∀x∈Q8 ws,x < 16:=by
 intro x hx
 obtain⟨w,hw,e⟩:=zaE.mp hx
 cases w with
 | num n=>cases e;exact h _ hw
 | edl b=>cases e
theorem z9 (ws:List W) (w:W):Q8 (ws++[w])=Q8 ws++(match w with | .num n=>[n] | .edl _=>[]):=by
 unfold Q8
 rw[zaq]
 cases w<;>rfl
theorem zW (ws:List W) (w:W):Qf (ws++[w])=Qf ws++(match w with | .num _=>[] | .edl b=>[b]):=by
 unfold Qf
 rw[zaq]
 cases w<;>rfl
theorem xf {ws:List W} {w:W} (h:∀w∈ws,Yv w) (hw:Yv w):Qy (ws++[w])=zp (Qy ws) w:=by
 have hl:=zO (W8 h)
 unfold Qy
 rw[zW,z9]
 cases w with
 | num n=>
   simp only[zax]
   have e:xorAll (Q8 ws++[n])=xorAll (Q8 ws)^^^n:=xorAll_snoc _ _
   cases hs:Qf ws with
   | nil=>simp only[e];rfl
   | cons b r=>
     cases r with
     | nil=>
       simp only[e]
       show W.edl _=W.edl _
       rw[kK hl hw]
     | cons c r=>
       show W.edl 0=W.edl _
       rw[xc]
 | edl b=>
   simp only[zax]
   cases hs:Qf ws with
   | nil=>rfl
   | cons c r=>
     cases r with
     | nil=>rfl
     | cons c2 r=>rfl
theorem xg {ws:List W} (h:∀w∈ws,Yv w):Yv (Qy ws):=by
 have hl:=zO (W8 h)
 unfold Qy
 split
 . exact hl
 . exact vk (k:=4) (tF _) hl
 . show 0 < 65536;decide
theorem uA {ws:List W} (h:∀w∈ws,Yv w):∀i,i<=ws.length->(ws.take i).foldl zp (.num 0)=Qy (ws.take i):=by
 intro i
 induction i with
 | zero=>intro _;rfl
 | succ i ih=>
   intro hi
   have hlt:i < ws.length:=hi
   have e:ws.take (i+1)=ws.take i++[ws[i]]:=by rw[tR,tH hlt];rfl
   rw[e,zcB,ih (zak hlt),xf (λw hw=>h w (zbX hw)) (h _ (zbI hlt))]
   rfl
theorem Ud {ws:List W} (h:∀w∈ws,Yv w):ws.foldl zp (.num 0)=Qy ws:=by
 have:=uA h ws.length (tF _)
 rw[tK (tF _)]at this
 exact this
end Rb
namespace MLab
section
variable {α:Type} (G:α->List α)
def mvs (b:α×Nat):List (α×Nat):=(G b.1).map (λy=>(y,b.2))++(zac b.2).map λk=>(b.1,k)
def gS:α ⊕ Nat->List (α ⊕ Nat)
 | .inl z=>(G z).map .inl
 | .inr h=>(zac h).map .inr
def UO (num:α->Option Nat):α ⊕ Nat->Option Nat
 | .inl z=>num z
 | .inr h=>some h
variable {G} {ok:α->Prop} {num:α->Option Nat} {stp:α->Nat}
def two (b:α×Nat):List (α ⊕ Nat):=[.inl b.1,.inr b.2]
end
section
variable {β:Type} {M:β->List β}
end
section
variable {α:Type} [DecidableEq α] {G:α->List α} {N:List α}
theorem YH:∀{l m:List α},l.Sublist m->m.Nodup->l=m.filter λx=>decide (x∈l)
 | _,_,.slnil,_=>rfl
 | l,a::m,.cons _ h,nd=>by
   rw[zam]at nd
   have na:a∉l:=λz=>nd.1 (h.subset z)
   rw[zbu,if_neg (by simpa using na)]
   exact YH h nd.2
 | a::l,_::m,.cons₂ _ h,nd=>by
   rw[zam]at nd
   rw[zbu,if_pos (by simp)]
   congr 1
   have e:=YH h nd.2
   refine e.trans (zbT λx hx=>?_)
   have ne:x≠a:=λz=>nd.1 (z▸hx)
   simp [ne]
theorem Ur.uniq (nd:N.Nodup) {rs:Rs α} {n:Nat} {ns ms:List α} (a:Ur G N rs n ns) (b:Ur G N rs n ms):ns=ms:=by
 rw[YH a.sub nd,YH b.sub nd]
 exact zbT λx _=>decide_eq_decide.mpr ((a.iff x).trans (b.iff x).symm)
theorem Qw.uniq (nd:N.Nodup) {n:Nat} {rs a b:Rs α} (h:Qw G N n rs a):Qw G N n rs b->a=b:=by
 induction h with
 | stop r=>
   intro k
   cases k with
   | stop _=>rfl
   | more r' ne _=>exact absurd (r'.uniq nd r) ne
 | more r ne k ih=>
   intro k'
   cases k' with
   | stop r'=>exact absurd (r.uniq nd r') ne
   | more r' _ k2=>
     have:=r.uniq nd r'
     subst this
     exact ih k2
theorem Qw.same {n:Nat} {rs:Rs α} (h:Qw G N n rs rs):Ur G N rs n []:=by
 have len:∀{rs a:Rs α},Qw G N n rs a->rs.length<=a.length:=λ{rs a} h=>by
   induction h with
   | stop _=>exact tF _
   | more r ne k ih=>
     rw[tL]at ih
     omega
 generalize e:rs=a at h
 have e':rs=a:=e
 cases h with
 | stop r=>exact r
 | more r ne k=>
   have:=len k
   rw[tL,zaF]at this
   omega
theorem All.uniq (nd:N.Nodup) {n:Nat} {rs a b:Rs α} (h:All G N n rs a):All G N n rs b->a=b:=by
 induction h with
 | stop r=>
   intro k
   cases k with
   | stop _=>rfl
   | more g ne _=>
     have:=g.uniq nd (Qw.stop r)
     exact absurd this ne
 | more g ne k ih=>
   intro k'
   cases k' with
   | stop r'=>exact absurd (g.uniq nd (Qw.stop r')) ne
   | more g' _ k2=>
     have:=g.uniq nd g'
     subst this
     exact ih k2
variable (G N) in
inductive Wb:Nat->Rs α->Prop
 | nil:Wb 0 []
 | more {n:Nat} {rs rs':Rs α} (h:Wb n rs) (g:Qw G N n rs rs'):Wb (n+1) rs'
theorem Rc {n m:Nat} {rs rs':Rs α} (g:Qw G N n rs rs') (h:∀r∈rs,r.1 < m) (lt:n < m):∀r∈rs',r.1 < m:=by
 induction g with
 | stop _=>exact h
 | more r ne k ih=>
   exact ih λx hx=>by
     rcases tV.mp hx with hx | hx
     . exact h x hx
     . rw[zae.mp hx];exact lt
theorem Wb.lt {n:Nat} {rs:Rs α} (u:Wb G N n rs):∀r∈rs,r.1 < n:=by
 induction u with
 | nil=>intro r h;cases h
 | more h g ih=>exact Rc g (λr hr=>zbS (ih r hr)) (zaI _)
theorem Mm {n m:Nat} {rs:Rs α} (h:∀r∈rs,r.1 < n) {x:α} (e:qE rs x=some m):m < n:=by
 unfold qE at e
 obtain⟨r,hr,e2⟩:=zcx.mp e
 rw[<-e2]
 exact h r (zcd hr)
theorem yu {n m:Nat} {rs rs':Rs α} (h:∀r∈rs,r.1 < n) (lt:n < m) (g:Qw G N m rs rs'):rs'=rs:=by
 cases g with
 | stop _=>rfl
 | more r ne k=>
   exfalso
   rename_i ns
   obtain⟨x,t,e⟩:=zbw ne
   have hx:=((r.iff x).mp (by rw[e];exact zaa)).2.2
   obtain⟨y,_,ey⟩:=hx.1 n lt
   exact absurd (Mm h ey) (zaw _)
theorem Wx {n:Nat} {rs rs':Rs α} (g:Qw G N n rs rs') {x:α} {m:Nat} (e:qE rs x=some m):qE rs' x=some m:=by
 induction g with
 | stop _=>exact e
 | more _ _ _ ih=>exact ih (ZP e)
theorem ut {n:Nat} {rs rs':Rs α} (g:Qw G N n rs rs') (ne:rs'≠rs):∃x∈N,qE rs' x=some n:=by
 cases g with
 | stop _=>exact absurd rfl ne
 | more r ne' k=>
   rename_i ns
   obtain⟨x,t,e⟩:=zbw ne'
   have hx:x∈ns:=by rw[e];exact zaa
   have h:=(r.iff x).mp hx
   exact⟨x,h.1,Wx k (kl h.2.1 hx)⟩
theorem Wb.run {n:Nat} {rs:Rs α} (u:Wb G N n rs):(All G N 0 [] rs/\∃m,m < n/\∀r∈rs,r.1 < m)\/((∀j,j < n->∃x∈N,qE rs x=some j)/\∀R',All G N n rs R'->All G N 0 [] R'):=by
 induction u with
 | nil=>exact .inr ⟨λj h=>absurd h (zcn j),λR' h=>h⟩
 | @more n rs rs' h g ih=>
   rcases ih with ⟨a,m,hm,lt⟩ | ⟨al,k⟩
   . have e:=yu lt hm g
     subst e
     exact .inl ⟨a,m,by omega,lt⟩
   . by_cases e:rs'=rs
     . subst e
       exact .inl ⟨k _ (.stop (Qw.same g)),n,zaI _,h.lt⟩
     . refine .inr ⟨λj hj=>?_,λR' a=>k R' (.more g e a)⟩
       rcases zbr j n with c | c
       . obtain⟨x,hx,ex⟩:=al j c
         exact⟨x,hx,Wx g ex⟩
       . have:j=n:=by omega
         subst this
         exact ut g e
theorem N3 {l m:List α}:l.Nodup->(∀z∈l,z∈m)->l.length<=m.length:=by
 induction l generalizing m with
 | nil=>exact λ_ _=>zay _
 | cons a l ih=>
   intro hn h
   rw[zam]at hn
   have ha:=h a zaa
   have:=ih (m:=m.erase a) hn.2 λz hz=>(zbW (λ(e:z=a)=>hn.1 (e▸hz))).mpr (h z (tU _ hz))
   rw[zch ha]at this
   have:=zaD ha
   rw[zat]
   omega
theorem Wb.whole {M:Nat} {R:Rs α} (u:Wb G N M R) (len:N.length < M):All G N 0 [] R:=by
 rcases u.run with ⟨a,_⟩ | ⟨al,_⟩
 . exact a
 . exfalso
   have:=N3 (l:=zac M) (m:=N.filterMap (qE R)) zcG λj hj=>by
     obtain⟨x,hx,ex⟩:=al j (zaG.mp hj)
     exact zaE.mpr ⟨x,hx,ex⟩
   rw[zan]at this
   have:=zaP (qE R) N
   omega
end
section
variable {β:Type} [DecidableEq β] {M:β->List β}
mutual
theorem zx {a:β}:YF M a->¬Won M a
 | .mk w=>λ⟨m,l⟩=>won_not (w _ m) l
theorem won_not {a:β}:Won M a->¬YF M a
 | .mk m l=>λ⟨w⟩=>zx l (w _ m)
end
def pr (M:β->List β) (Bs:List β) (h:β):List β:=Bs.filter λc=>decide (h∈M c)
def opn (P l:List β):Nat:=(l.filter λc=>decide (c∉P)).length
structure Gnd (M:β->List β) (Bs:List β):Prop where
 nd:Bs.Nodup
 cl:∀{a b},a∈Bs->b∈M a->b∈Bs
 mnd:∀{a},a∈Bs->(M a).Nodup
structure Bi (M:β->List β) (Bs:List β) (F:β->Option Bool) (P ln:List β) (lf:β->Nat) (h:β) (j:Nat):Prop where
 dom:∀b,(F b).isSome=true↔b∈P\/b=h\/b∈ln
 nd:(P++h::ln).Nodup
 sub:∀b∈P++h::ln,b∈Bs
 lost:∀{b},F b=some false->YF M b
 won:∀{b},F b=some true->Won M b
 cnt:∀{b},b∈Bs->F b=none->lf b+(if b∈(pr M Bs h).take j then 1 else 0)=opn P (M b)/\0 < lf b/\(∀c∈M b,c∈P->F c=some true)/\(b∈(pr M Bs h).take j->F h=some true)
structure Bk (M:β->List β) (Bs:List β) (F:β->Option Bool) (P ln:List β) (lf:β->Nat):Prop where
 dom:∀b,(F b).isSome=true↔b∈P\/b∈ln
 nd:(P++ln).Nodup
 sub:∀b∈P++ln,b∈Bs
 lost:∀{b},F b=some false->YF M b
 won:∀{b},F b=some true->Won M b
 cnt:∀{b},b∈Bs->F b=none->lf b=opn P (M b)/\0 < lf b/\∀c∈M b,c∈P->F c=some true
variable {Bs:List β} {F:β->Option Bool} {P ln:List β} {lf:β->Nat} {h:β}
end
end MLab
namespace Rh
open PySem L2
def top (i:Nat):Stmt:=PySem.Challenge.pw_ringheaps_k72_whole_never_lost.main.body.getD i (.Pass ⟨0,0,0,0⟩)
abbrev zg:Stmt:=top 20
abbrev vS:Stmt:=top 73
abbrev YM:Stmt:=top 74
abbrev Ys:Stmt:=top 75
abbrev Xk:Stmt:=top 76
abbrev Xm:Stmt:=top 77
abbrev vK:Stmt:=top 78
abbrev WX:Stmt:=top 89
open PySem L2 PyProof.Rows
structure qY (K:PySem.W.Frag) (mg:Str->Option Value) (x:Str) (st:Stmt) (ps:List Str) (f:Addr) (fd:FuncData):Prop where
 fn:jU K x x st f fd
 ns:mg x=some (.ref f)
 bi:jP K fd ps []
theorem qH {X:Cx} {x:Str} {st:Stmt} {ps:List Str} {f:Addr} {fd:FuncData} {k:Nat} {sp:Sp} {e:Expr} {es:List Expr} {t:TA} {p pos:Pos} (h:qY X.K X.mg x st ps f fd) (G:ql X.prog X.w X.K X.mg X.base qG k f fd ps sp) (hr:qS k X.A)
   (hg:Gl X x) (ha:JA X (e::es) t) (hdb:(x==("__debug__":Str))=false:=by decide) (he:starEach (e::es) X.env=(false,eval e X.env)::starEach es X.env:=by rfl) (hpl:(backTo pos (starEach es X.env)).any (·.1)=false:=by rfl):
   JE X (.Call (.Name x p) (e::es) [] pos) (Ze sp [] E0 t):=.of (KL G hr hg h.ns h.fn.kp h.bi .nil Q4 ha.to hdb he hpl)
theorem qr {H:Hp} {b p:Addr} {o o':HO} (h:H b=some o) (hp:H p=none):upd H p o' b=some o:=by
 rw[qj (qA h hp)]
 exact h
theorem qk {H:Hp} {p:Addr} {o:HO} (hp:H p=none):qm H (upd H p o):=λb u h=>qr h hp
theorem qm.upd {H H':Hp} {p:Addr} {o:HO} (s:qm H H') (hp:H p=none):qm H (upd H' p o):=λb u h=>by
 rw[qj (qA h hp)]
 exact s b u h
def src (n s t:Int):List (qL×V):=[(Sum.inr "number",.int n),(Sum.inr "seed",.int s),(Sum.inr "turn",.int t)]
theorem nns:¬(Str.ofString "number")=Str.ofString "seed":=by decide+kernel
theorem nnt:¬(Str.ofString "number")=Str.ofString "turn":=by decide+kernel
theorem nst:¬(Str.ofString "seed")=Str.ofString "turn":=by decide+kernel
theorem nsn:¬(Str.ofString "seed")=Str.ofString "number":=by decide+kernel
theorem ntn:¬(Str.ofString "turn")=Str.ofString "number":=by decide+kernel
theorem nts:¬(Str.ofString "turn")=Str.ofString "seed":=by decide+kernel
theorem uo {a b:Str} (h:¬a=b):¬(Sum.inr a:qL)=Sum.inr b:=λe=>h (Sum.inr.inj e)
section
variable {H:Hp} {d:Addr} {n s t:Int}
theorem gN (h:H d=some (.dK (src n s t))):j1 H d (.str "number") (some (.int n)):=by
 have e:ji (src n s t) (Sum.inr "number":qL)=some (.int n):=jg rfl
 have q:=j1.k (k:=(Sum.inr "number":qL)) h
 rw[e]at q
 exact q
theorem gS (h:H d=some (.dK (src n s t))):j1 H d (.str "seed") (some (.int s)):=by
 have e:ji (src n s t) (Sum.inr "seed":qL)=some (.int s):=(jh (uo nns)).trans (jg rfl)
 have q:=j1.k (k:=(Sum.inr "seed":qL)) h
 rw[e]at q
 exact q
theorem gT (h:H d=some (.dK (src n s t))):j1 H d (.str "turn") (some (.int t)):=by
 have e:ji (src n s t) (Sum.inr "turn":qL)=some (.int t):=(jh (uo nnt)).trans ((jh (uo nst)).trans (jg rfl))
 have q:=j1.k (k:=(Sum.inr "turn":qL)) h
 rw[e]at q
 exact q
theorem MY:(src n s t).length < sizeLine:=qo (by show 3<=1000;decide)
theorem pN (h:H d=some (.dK (src n s t))) (v:Int):Ji H d (.str "number") (.int v) (upd H d (.dK (src v s t))):=by
 have e:jV (src n s t) (Sum.inr "number":qL) (.int v)=src v s t:=by
   unfold jV src
   simp [nsn,ntn]
 have q:=Ji.k (k:=(Sum.inr "number":qL)) (v:=.int v) h MY
 rw[e]at q
 exact q
theorem pT (h:H d=some (.dK (src n s t))) (v:Int):Ji H d (.str "turn") (.int v) (upd H d (.dK (src n s v))):=by
 have e:jV (src n s t) (Sum.inr "turn":qL) (.int v)=src n s v:=by
   unfold jV src
   simp [nnt,nst]
 have q:=Ji.k (k:=(Sum.inr "turn":qL)) (v:=.int v) h MY
 rw[e]at q
 exact q
end
def ZR:Sp:=λvs H Q _=>∃(d:Addr) (m n s t:Int),vs=[.ref d,.int m]/\H d=some (.dK (src n s t))/\0 < m/\m.natAbs < 2^200/\∀r n' t',0<=r->r < m->Q (.int r) (upd H d (.dK (src n' s t')))
def VF:Sp:=λvs H Q _=>∃c:Int,vs=[.int c]/\∀d n s,H d=none->Q (.ref d) (upd H d (.dK (src n s 0)))
def xE (K:PySem.W.Frag):Sp:=λvs H Q _=>∃(a:Addr) (ns:List Int) (k:Int),vs=[.ref a,.int k]/\SqL K H a (ns.map V.int)/\0<=k/\∀v,Q (.int v) H
section
variable {P:Program} {w:World} {K:PySem.W.Frag} {mg:Str->Option Value} {base:Heap}
theorem WU:qp ["_law_source_here","_law_many","_law_digit","_law_number"] ["_law_source_here","_law_many"] (qh Ys):=⟨rfl,rfl,rfl,by decide+kernel,rfl,by decide+kernel,by decide+kernel⟩
theorem zt {f:Addr} {fd:FuncData} (F:jU K "_law_take" "_law_take" Ys f fd):ql P w K mg base qG 1 f fd ["_law_source_here","_law_many"] ZR:=by
 refine F.okJ WU (λvs H Q E h=>?_) (λcdv A outer s H vs Q E hr h=>?_)
 . obtain⟨d,m,n,sd,t,rfl,_⟩:=h
   rfl
 . obtain⟨d,m,n,sd,t,rfl,hd,m0,m1,k⟩:=h
   have hu:=jR hr
   refine⟨_,qe (qO (qt zr (qV hu (jv 0) qP (λ_ _=>rfl)) qi (qB _))
       (qe (qy (i:=2) WU.nd rfl (Or.inl rfl) (qT JY (qV hu (jv 0) qP (λ_ _=>rfl)) (jv 1)))
       (qe (jy hu (jv 0) qP (qT wt (qV hu (jv 0) qP (λ_ _=>rfl)) (jv 1)) rfl)
       (qg (qw (jv 2))))) qC)
     (qe (jy hu (jv 0) qP (qT QM (qV hu (jv 0) qP (λ_ _=>rfl)) qi) rfl)
     (qe (qy (i:=3) WU.nd rfl (Or.inl rfl) (qT JY (qT JX (qT QM (qV hu (jv 0) qP (λ_ _=>rfl)) (qT JX qi (qV hu (jv 0) qP (λ_ _=>rfl)))) qi) qi))
     (qe (qy (i:=3) WU.nd rfl (Or.inl rfl) (qT JY (qT JX (jv 3) (jv 3)) qi))
     (qg (qw (qT JY (qT KR (qT JY (qT JX (qT QM (jv 3) (qV hu (jv 0) qP (λ_ _=>rfl))) (qT QM (jv 3) qi)) qi) qi) (jv 1))))))),?_⟩
   refine⟨_,rfl,d,_,rfl,gN hd,_,_,rfl,rfl,_,rfl,?_⟩
   refine yH (λ_=>?_) (λ_=>?_)
   . refine⟨_,rfl,d,_,rfl,gN hd,_,rfl,_,_,rfl,rfl,m0,?_⟩
     refine⟨_,rfl,d,_,rfl,gN hd,_,rfl,_,_,rfl,rfl,⟨m0,m1⟩,_,rfl,d,_,rfl,pN hd _,?_⟩
     exact⟨_,rfl,k _ _ _ (zbO _ (by omega)) (zbx _ m0)⟩
   . refine⟨_,rfl,d,_,rfl,gT hd,_,_,rfl,rfl,_,rfl,d,_,rfl,pT hd _,?_⟩
     have h1:upd H d (.dK (src n sd (t+1))) d=some (.dK (src n sd (t+1))):=qd
     refine⟨_,rfl,d,_,rfl,gS h1,_,rfl,d,_,rfl,gT h1,_,_,rfl,rfl,.inl ⟨by decide,by decide⟩,_,_,rfl,rfl,_,_,rfl,rfl,.inr ⟨by decide,by decide⟩,_,_,rfl,rfl,(by show (0:Int) < 2147483647;decide),?_⟩
     generalize ha:((sd+7919*(t+1))*48271) % 2147483647=x
     have x0:0<=x:=by rw[<-ha];exact zbO _ (by decide)
     have x1:x < 2147483647:=by rw[<-ha];exact zbx _ (by decide)
     refine⟨_,rfl,_,rfl,_,_,rfl,rfl,.inl ⟨by omega,by omega⟩,_,_,rfl,rfl,(by show (0:Int) < 2147483629;decide),?_⟩
     generalize hb:(x*x) % 2147483629=y
     have y0:0<=y:=by rw[<-hb];exact zbO _ (by decide)
     have y1:y < 2147483629:=by rw[<-hb];exact zbx _ (by decide)
     refine⟨_,rfl,_,rfl,d,_,rfl,gT h1,_,_,rfl,rfl,_,rfl,_,_,rfl,rfl,_,_,rfl,rfl,.inr ⟨by omega,by omega⟩,_,_,rfl,rfl,(by show (0:Int) < 2147483587;decide),_,_,rfl,rfl,⟨by decide,by decide⟩,_,rfl,_,_,rfl,rfl,m0,?_⟩
     exact k _ _ _ (zbO _ (by omega)) (zbx _ m0)
end
open PySem L2 PyProof.Rows
structure QF (mg:Str->Option Value):Prop where
 len:mg "len"=none
 max:mg "max"=none
 min:mg "min"=none
 int:mg "int"=none
 rng:mg "range"=none
theorem yz (n s t:Int):QN [] (src n s t)=src n s t:=by
 unfold QN src
 simp only[zcL,List.foldl_nil]
 unfold jV
 simp [nns,nnt,nst,nsn,ntn,nts]
section
variable {P:Program} {w:World} {K:PySem.W.Frag} {mg:Str->Option Value} {base:Heap}
theorem xJ:qp ["_law_cell"] ["_law_cell"] (qh YM):=⟨rfl,rfl,rfl,by decide+kernel,rfl,by decide+kernel,by decide+kernel⟩
theorem yh {f:Addr} {fd:FuncData} (F:jU K "_law_source" "_law_source" YM f fd) (B:QF mg):ql P w K mg base qG 1 f fd ["_law_cell"] VF:=by
 refine F.okJ xJ (λvs H Q E h=>?_) (λcdv A outer s H vs Q E hr h=>?_)
 . obtain⟨c,rfl,_⟩:=h
   rfl
 . obtain⟨c,rfl,k⟩:=h
   refine⟨_,qg (qw (GX
     (XJ qP (qT JX (qF (WB rfl) (by rfl) B.max boot_max (qb qi (qb (jv 0) qf)))
       (ju ZC (by rfl) B.int boot_int (qb (jT wq (jv 0) (qT NF qi qi) (qB _)) qf)))
     (XJ qP (qT JY (jv 0) qi) (XJ qP qi Gx))) rfl rfl (by simp) (by decide))),?_⟩
   intro p hp
   refine⟨_,rfl,_,_,rfl,_,rfl,_,_,rfl,rfl,⟨by decide,by decide,by decide⟩,_,_,rfl,rfl,.inr ⟨_,rfl,_,_,rfl,rfl,.inr ?_,_,rfl,_,_,rfl,rfl,(by show (0:Int) < 2147483629;decide),?_⟩⟩
   . split<;>exact⟨by decide,by decide⟩
   . refine⟨qd,src _ _ 0,rfl,(by show 3<=15;decide),?_⟩
     rw[yz,jI]
     exact k p _ _ hp
theorem Ny:qp ["_law_script","_law_k"] ["_law_script","_law_k"] (qh vS):=⟨rfl,rfl,rfl,by decide+kernel,rfl,by decide+kernel,by decide+kernel⟩
theorem Gi {f:Addr} {fd:FuncData} (F:jU K "_law_cell_at" "_law_cell_at" vS f fd) (B:QF mg):ql P w K mg base qG 1 f fd ["_law_script","_law_k"] (xE K):=by
 refine F.okJ Ny (λvs H Q E h=>?_) (λcdv A outer s H vs Q E hr h=>?_)
 . obtain⟨a,ns,k,rfl,_⟩:=h
   rfl
 . obtain⟨a,ns,k,rfl,hS,k0,q⟩:=h
   refine⟨_,qe (qO (qt Q6 (jv 1) (qF qR (by rfl) B.len boot_len (qb (jv 0) qf)) (qB _))
       (qg (qw (qM jz (jv 0) (jv 1) (λ_ _=>rfl)))) qC)
     (qg (qw (qT QM (qT JX qi (jv 1)) qi))),?_⟩
   refine⟨_,rfl,_,rfl,a,_,rfl,.inl hS,_,_,rfl,rfl,_,rfl,?_⟩
   refine yH (λh=>?_) (λ_=>?_)
   . have h1:k < ((ns.map V.int).length:Int):=of_decide_eq_true h
     rw[tj]at h1
     have h2:k.toNat < ns.length:=by omega
     have h3:(ns.map V.int)[k.toNat]?=some (V.int ns[k.toNat]):=by rw[tI,tH h2];rfl
     have h4:k=((k.toNat:Nat):Int):=by omega
     refine⟨_,rfl,_,rfl,a,_,k,V.int ns[k.toNat],rfl,rfl,hS,?_,q _⟩
     have h5:=Y4 h3
     rw[<-h4]at h5
     exact h5
   . exact⟨_,rfl,_,_,rfl,rfl,.inl ⟨by decide,by decide⟩,_,_,rfl,rfl,q _⟩
end
open PySem L2 PyProof.Rows
def Fr (H:Hp) (d:Addr) (H':Hp):Prop:=∀b o,H b=some o->b≠d->H' b=some o
theorem Fr.refl {H:Hp} {d:Addr}:Fr H d H:=λ_ _ h _=>h
theorem Fr.at_d {H H':Hp} {d:Addr} {o:HO} (h:Fr H d H'):Fr H d (upd H' d o):=λb u hb hn=>by
 rw[qj hn]
 exact h b u hb hn
theorem Fr.new {H H':Hp} {d p:Addr} {o:HO} (h:Fr H d H') (hp:H' p=none):Fr H d (upd H' p o):=λb u hb hn=>qr (h b u hb hn) hp
theorem Fr.own {H H':Hp} {d p:Addr} {o:HO} (h:Fr H d H') (hp:H p=none):Fr H d (upd H' p o):=λb u hb hn=>by
 rw[qj (qA hb hp)]
 exact h b u hb hn
theorem Fr.trans {H H' H'':Hp} {d:Addr} (h:Fr H d H') (k:Fr H' d H''):Fr H d H'':=λb u hb hn=>k b u (h b u hb hn) hn
theorem Fr.fresh {H H':Hp} {d p:Addr} {o:HO} (h:Fr H d H') (hd:H' d=some o) (hp:H' p=none):H p=none:=by
 cases e:H p with
 | none=>rfl
 | some u=>
   by_cases n:p=d
   . subst n
     rw[hd]at hp
     cases hp
   . rw[h p u e n]at hp
     cases hp
def jX (c:Nat):Bool:=decide (97<=c)&&decide (c<=122)
def jN (z:Str):Bool:=(decide (1<=z.length)&&decide (z.length<=8))&&z.cps.toList.all jX
def kB:Str:="abcdefghijklmnopqrstuvwxyz"
theorem WK:kB.cps.toList=[97,98,99,100,101,102,103,104,105,106,107,108,109,110,111,112,113,114,115,116,117,118,119,120,121,122]:=by decide+kernel
theorem uP:kB.cps.toList=(zac 26).map (97+·):=by rw[WK];rfl
theorem kA:kB.length<=sizeLine:=by
 show kB.cps.size<=sizeLine
 rw[<-zaB,WK]
 decide
theorem uQ {r:Int} (h0:0<=r) (h1:r < 26):Um kB.cps.toList r=some (97+r.toNat):=by
 have h2:kB.cps.toList[r.toNat]?=some (97+r.toNat):=by
   rw[uP,tI,zbD (by omega)]
   rfl
 have h4:=Y4 h2
 have h5:r=((r.toNat:Nat):Int):=by omega
 rw[<-h5]at h4
 exact h4
theorem Ws {r:Int} (h0:0<=r) (h1:r < 26):jX (97+r.toNat)=true:=by
 unfold jX
 rw[decide_eq_true (by omega:97<=97+r.toNat),decide_eq_true (by omega:97+r.toNat<=122)]
 rfl
theorem Ma (ws:List Nat):(Txt.join (Str.ofString "") (ws.map λk=>(⟨#[k]⟩:Str))).cps.toList=ws:=by
 show (Builtin.Str.glued (Str.ofString "") _).cps.toList=_
 rw[StrLaws.glued_eq_join]
 have e:(Str.ofString "")=⟨#[]⟩:=by decide+kernel
 rw[e,PyProof.Rows.join_ones]
theorem yJ {z:Str} {A B:List Nat} {c:Nat} (e:z.cps.toList=A++[c]++B) (hA:A.all jX=true) (hc:jX c=true) (hB:B.all jX=true) (hl:A.length+B.length<=7):jN z=true:=by
 have l:z.length=A.length+1+B.length:=by
   show z.cps.size=_
   rw[<-zaB,e]
   simp
   omega
 unfold jN
 rw[decide_eq_true (by omega:1<=z.length),decide_eq_true (by omega:z.length<=8),e,zdt,zdt,hA,hB]
 simp [hc]
def vX (f s:Int) (k:Nat):Nat:=97+((f+s*(k:Int)) % 26).toNat
theorem Go:∀s∈[(1:Int),3,5,7,9,11],∀k,k < 14->∀j,j < 14->(s*((k:Nat):Int) - s*((j:Nat):Int)) % 26=0->k=j:=by decide+kernel
theorem Gn {f s:Int} {k j:Nat} (hs:s=1\/s=3\/s=5\/s=7\/s=9\/s=11) (hk:k < 14) (hj:j < 14) (h:vX f s k=vX f s j):k=j:=by
 unfold vX at h
 refine Go s (by simpa using hs) k hk j hj ?_
 generalize s*(k:Int)=x at h ⊢
 generalize s*(j:Int)=y at h ⊢
 omega
def Jr (A:List Nat) (f s:Int) (zs:List Str):Prop:=∀j z,zs[j]?=some z->∃B,z.cps.toList=A++[vX f s j]++B/\B.all jX=true/\A.length+B.length<=7
theorem Jr.snoc {A:List Nat} {f s:Int} {zs:List Str} (h:Jr A f s zs) {z:Str} {B:List Nat} (e:z.cps.toList=A++[vX f s zs.length]++B) (hB:B.all jX=true) (hl:A.length+B.length<=7):Jr A f s (zs++[z]):=by
 intro j y hy
 by_cases hj:j < zs.length
 . rw[zah hj]at hy
   exact h j y hy
 . have hj':j=zs.length:=by
     have:=(tE.mp hy).1
     rw[tL,zaF]at this
     omega
   subst hj'
   rw[zad (tF _),zcQ]at hy
   obtain rfl:=(tO.inj hy).symm
   exact⟨B,e,hB,hl⟩
theorem Jr.names {A:List Nat} {f s:Int} {zs:List Str} (h:Jr A f s zs) (hA:A.all jX=true):∀z∈zs,jN z=true:=λz hz=>by
 obtain⟨j,hj⟩:=zbc hz
 obtain⟨B,e,hB,hl⟩:=h j z hj
 refine yJ e hA ?_ hB hl
 unfold vX
 exact Ws (zbO _ (by decide)) (zbx _ (by decide))
theorem Jr.nodup {A:List Nat} {f s:Int} {zs:List Str} (h:Jr A f s zs) (hs:s=1\/s=3\/s=5\/s=7\/s=9\/s=11) (hz:zs.length<=14):zs.Nodup:=by
 refine zaM.mpr λi j hi hj hij e=>?_
 obtain⟨B,b1,_⟩:=h j _ (tH hj)
 obtain⟨C,c1,_⟩:=h i _ (tH hi)
 rw[e]at c1
 have e2:(A++[vX f s j]++B)[A.length]?=(A++[vX f s i]++C)[A.length]?:=by rw[<-b1,<-c1]
 rw[zcD,zcD,zad (tF _),zad (tF _),zcQ]at e2
 have e3:vX f s j=vX f s i:=tO.inj e2
 exact absurd (Gn hs (by omega) (by omega) e3) (by omega)
theorem Uo {A:List Nat} (h:A.all jX=true) (n:Nat):(A.take n).all jX=true:=by
 rw[zaK]at h ⊢
 exact λx hx=>h x (zbX hx)
theorem Nj {r:Int} (h0:0<=r) (h1:r < 6):∃m:Int,(m=1\/m=3\/m=5\/m=7\/m=9\/m=11)/\Um [V.int 1,V.int 3,V.int 5,V.int 7,V.int 9,V.int 11] r=some (.int m):=by
 have:r=0\/r=1\/r=2\/r=3\/r=4\/r=5:=by omega
 rcases this with rfl | rfl | rfl | rfl | rfl | rfl
 . exact⟨1,by decide,rfl⟩
 . exact⟨3,by decide,rfl⟩
 . exact⟨5,by decide,rfl⟩
 . exact⟨7,by decide,rfl⟩
 . exact⟨9,by decide,rfl⟩
 . exact⟨11,by decide,rfl⟩
def vC:Sp:=λvs H Q _=>∃(d:Addr) (m:Nat) (n s t:Int),vs=[.ref d,.int m]/\H d=some (.dK (src n s t))/\m<=14/\
 ∀(l:Addr) (zs:List Str) (n' t':Int) (H':Hp),H l=none->H' l=some (.lst (zs.map V.str))->zs.length=m->(∀z∈zs,jN z=true)->zs.Nodup->H' d=some (.dK (src n' s t'))->Fr H d H'->Q (.ref l) H'
theorem VA:∀zs:List Str,(zs.map λ_=>1).sum=zs.length
 | []=>rfl
 | z::zs=>by rw[tW,zaV,VA zs,zat];omega
section
variable {P:Program} {w:World} {K:PySem.W.Frag} {mg:Str->Option Value} {base:Heap}
abbrev NV:List Str:=["_law_source_here","_law_many","_law_letters","_law_word","_law_ahead","_law_first","_law_step","_law_names_here","_law_k","_law_behind"]
theorem QT:qp NV ["_law_source_here","_law_many"] (qh Xk):=⟨rfl,rfl,rfl,by decide+kernel,rfl,by decide+kernel,by decide+kernel⟩
theorem wH {f fT:Addr} {fd fdT:FuncData} (F:jU K "_law_names" "_law_names" Xk f fd) (B:QF mg) (hT:qY K mg "_law_take" Ys ["_law_source_here","_law_many"] fT fdT):ql P w K mg base qG 2 f fd ["_law_source_here","_law_many"] vC:=by
 have GT:ql P w K mg base qG 1 fT fdT ["_law_source_here","_law_many"] ZR:=zt hT.fn
 refine F.okJ QT (λvs H Q E h=>?_) (λcdv A outer s H vs Q E hr h=>?_)
 . obtain⟨d,m,n,sd,t,rfl,_⟩:=h
   rfl
 . obtain⟨d,m,n,sd,t,rfl,hd,hm,q⟩:=h
   refine⟨_,qe (qy (i:=2) QT.nd rfl (Or.inr rfl) qP)
     (qe (qy (i:=3) QT.nd rfl (Or.inl rfl) (ZN PySem.F.plainAttrs_str PySem.F.slot_str_join PySem.F.type_str_join Gq qP (qb
       (j6 (N':=["_law_k","_law_letters","_law_source_here"]) (ix:=[none,some 2,some 0]) rfl ⟨rfl,rfl,rfl,rfl,rfl⟩
         (jM (by rfl) B.rng (qb qi qf))
         (λC s2 H2 fp pins=>⟨qv (i:=0) (show (["_law_k","_law_letters","_law_source_here"]:List Str).Nodup by decide+kernel) rfl (Or.inl rfl),j2,
           qM uj (jv 1) (qH hT GT hr (by rfl) (qb (jv 2) (qb qi qf))) (λ_ _=>rfl)⟩)) qf)))
     (qe (qy (i:=4) QT.nd rfl (Or.inl rfl) (Zm xG (jv 3) zC (zB (qT JX (qH hT GT hr (by rfl) (qb (jv 0) (qb qi qf))) (qH hT GT hr (by rfl) (qb (jv 0) (qb qi qf)))))))
     (qe (qy (i:=5) QT.nd rfl (Or.inl rfl) (qH hT GT hr (by rfl) (qb (jv 0) (qb qi qf))))
     (qe (qy (i:=6) QT.nd rfl (Or.inl rfl) (qM jz (jA (qb qi (qb qi (qb qi (qb qi (qb qi (qb qi qf))))))) (qH hT GT hr (by rfl) (qb (jv 0) (qb qi qf))) (λ_ _=>rfl)))
     (qe (qy (i:=7) QT.nd rfl (Or.inl rfl) (jA qf))
     (qe (jd PassesOwn.never rfl (jM (by rfl) B.rng (qb (jv 1) qf)) (qv (i:=8) QT.nd rfl (Or.inl rfl))
       (qe (qy (i:=9) QT.nd rfl (Or.inl rfl) (Zm xG (jv 3) zC (zB (qH hT GT hr (by rfl) (qb (jv 0) (qb (qT wm qi (qF J8 (by rfl) B.len boot_len (qb (jv 4) qf))) qf))))))
       (qg (jC (ZN zav zbl zbm QZ (jv 7) (qb
         (qT Xz (qT Xz (jv 4) (qM uj (jv 2) (qT JY (qT QM (jv 5) (qT JX (jv 6) (jv 8))) qi) (λ_ _=>rfl))) (jv 9)) qf))))))
     (qg (qw (jv 7))))))))),?_⟩
   refine⟨rfl,7,rfl,by decide,by decide,λD hD=>?_⟩
   have nDd:D≠d:=λe=>by rw[e,hd]at hD;cases hD
   refine JQ (λi σ' H'=>∃(v:Option V) (n' t':Int) (ws:List Nat),σ'=[v,some (.str kB),some (.ref d)]/\H' d=some (.dK (src n' sd t'))/\H' D=some (.lst ((ws.map λk=>(⟨#[k]⟩:Str)).map V.str))/\ws.length=i/\ws.all jX=true/\Fr H d H')
     ⟨none,n,t,[],rfl,qr hd hD,qd,rfl,rfl,Fr.refl.new hD⟩ ?_ ?_
   . rintro i σ' H' hi ⟨v,n',t',ws,rfl,hd',hD',hl,ha,fr⟩
     refine⟨_,rfl,_,rfl,d,26,n',sd,t',rfl,hd',by decide,by decide,λr n3 t3 r0 r1=>?_⟩
     refine⟨kB,r,_,rfl,rfl,kA,uQ r0 r1,_,(by rw[qj nDd];exact hD'),?_,?_⟩
     . rw[tj,tj,hl]
       exact qo (by omega)
     . refine⟨_,n3,t3,ws++[97+r.toNat],rfl,?_,?_,?_,?_,?_⟩
       . rw[qj (Ne.symm nDd)];exact qd
       . rw[tN,tN];exact qd
       . rw[tL,hl];rfl
       . rw[zdt,ha]
         simp [Ws r0 r1]
       . exact(fr.at_d).own hD
   rintro σ' H1 ⟨v,n1,t1,ws,rfl,hd1,hD1,hl1,ha1,fr1⟩
   have hl1:ws.length=7:=hl1
   refine⟨Str.ofString "",D,_,rfl,rfl,.of hD1,?_,?_⟩
   . have e1:((ws.map λk=>(⟨#[k]⟩:Str)).map (·.length))=(ws.map λk=>(⟨#[k]⟩:Str)).map λ_=>1:=by
       refine zbE λz hz=>?_
       obtain⟨c,_,rfl⟩:=tJ.mp hz
       rfl
     have e2:(Str.ofString "").length=0:=by decide+kernel
     rw[e1,e2,VA,tj,hl1]
     decide
   generalize hw:Txt.join (Str.ofString "") (ws.map λk=>(⟨#[k]⟩:Str))=wd
   have hW:wd.cps.toList=ws:=by rw[<-hw];exact Ma ws
   have hWl:wd.length=7:=by
     show wd.cps.size=7
     rw[<-zaB,hW,hl1]
   refine⟨_,rfl,_,rfl,d,2,n1,sd,t1,rfl,hd1,by decide,by decide,λr2 n2 t2 r20 r21=>?_⟩
   refine⟨_,rfl,d,5,n2,sd,t2,rfl,qd,by decide,by decide,λr3 n3 t3 r30 r31=>?_⟩
   rw[jI]
   have e4:∃j:Nat,r2*r3=(j:Int)/\j<=4:=by
     have h2:r2=0\/r2=1:=by omega
     rcases h2 with rfl | rfl
     . exact⟨0,by omega,by omega⟩
     . exact⟨r3.toNat,by omega,by omega⟩
   obtain⟨j,ej,hj⟩:=e4
   refine⟨_,_,rfl,rfl,.inl ⟨by omega,by omega⟩,_,rfl,wd,r2*r3,rfl,rfl,rfl,by omega,?_⟩
   rw[ej]
   generalize ha:Txt.slice wd none (some (j:Int))=ah
   have hA:ah.cps.toList=ws.take j:=by rw[<-ha,Xf,hW]
   have hAl:ah.length=j:=by
     show ah.cps.size=j
     rw[<-zaB,hA,tS,hl1]
     omega
   refine⟨_,rfl,d,26,n3,sd,t3,rfl,qd,by decide,by decide,λf n4 t4 f0 f1=>?_⟩
   rw[jI]
   refine⟨by show 6<=sizeLine;decide,λp hp=>?_⟩
   have npd:p≠d:=λe=>by rw[e,qd]at hp;cases hp
   refine⟨_,rfl,d,6,n4,sd,t4,rfl,(by rw[qj (Ne.symm npd)];exact qd),by decide,by decide,λr5 n5 t5 r50 r51=>?_⟩
   obtain⟨st,hst,hsa⟩:=Nj r50 r51
   refine⟨p,_,r5,.int st,rfl,rfl,.of (by rw[qj npd];exact qd),hsa,?_⟩
   have fr5:Fr H d (upd (upd (upd H1 d (.dK (src n4 sd t4))) p (.lst [V.int 1,V.int 3,V.int 5,V.int 7,V.int 9,V.int 11])) d (.dK (src n5 sd t5))):=(fr1.at_d.new hp).at_d
   generalize hH5:upd (upd (upd H1 d (.dK (src n4 sd t4))) p (.lst [V.int 1,V.int 3,V.int 5,V.int 7,V.int 9,V.int 11])) d (.dK (src n5 sd t5))=H5 at fr5
   have hd5:H5 d=some (.dK (src n5 sd t5)):=by rw[<-hH5];exact qd
   refine⟨by show 0<=sizeLine;decide,λl hl=>⟨_,rfl,m,rfl,by omega,by omega,?_⟩⟩
   have hHl:H l=none:=fr5.fresh hd5 hl
   have nld:l≠d:=λe=>by rw[e,hd5]at hl;cases hl
   refine Q0 (lo:=0) (n:=m) (λi σ' H'=>∃(v1 v2:Option V) (n' t':Int) (zs:List Str),σ'=[some (.ref d),some (.int m),some (.str kB),some (.str wd),some (.str ah),some (.int f),some (.int st),some (.ref l),v1,v2]/\
     H' d=some (.dK (src n' sd t'))/\H' l=some (.lst (zs.map V.str))/\zs.length=i/\Jr (ws.take j) f st zs/\Fr H d H')
     ⟨none,none,n5,t5,[],rfl,qr hd5 hl,qd,rfl,λj z hz=>(nomatch hz),fr5.new hl⟩ ?_ ?_
   . rintro i σ' H' hi ⟨v1,v2,n',t',zs,rfl,hd',hl',hz,hN,fr⟩
     rw[zbY]
     refine⟨_,rfl,_,rfl,_,rfl,ah,rfl,(by rw[hAl];exact zak (qo (by omega))),_,_,rfl,rfl,d,8 - (ah.length:Int),n',sd,t',rfl,hd',by omega,by omega,λr n6 t6 r0 r1=>?_⟩
     have er:r=((r.toNat:Nat):Int):=by omega
     refine⟨_,rfl,wd,r,rfl,rfl,rfl,by omega,?_⟩
     generalize hb:Txt.slice wd none (some r)=bh
     have hB:bh.cps.toList=ws.take r.toNat:=by rw[<-hb,er,Xf,hW];rfl
     have hBl:bh.length<=r.toNat:=by
       show bh.cps.size<=r.toNat
       rw[<-zaB,hB,tS]
       omega
     refine⟨_,rfl,.inl ⟨rfl,_,.of (by rw[qj nld];exact hl')⟩,_,rfl,_,rfl,_,rfl,_,rfl,_,rfl,_,_,rfl,rfl,.inl ⟨by omega,by omega⟩,_,_,rfl,rfl,_,_,rfl,rfl,(by show (0:Int) < 26;decide),?_⟩
     refine⟨kB,_,_,rfl,rfl,kA,uQ (zbO _ (by decide)) (zbx _ (by decide)),?_⟩
     have e26:97+((f+st*(i:Int)) % 26).toNat=vX f st i:=rfl
     rw[e26]
     have l1:(ah++(⟨#[vX f st i]⟩:Str)).length=j+1:=by
       show (ah++(⟨#[vX f st i]⟩:Str)).cps.size=_
       rw[Str.cps_append,Array.size_append]
       show ah.length+1=_
       rw[hAl]
     refine⟨_,_,rfl,rfl,zak (qo (by show ah.length+1<=1000;omega)),_,rfl,_,_,rfl,rfl,zak (qo (by rw[l1];omega)),?_⟩
     refine⟨l,_,_,rfl,rfl,(by rw[qj nld];exact hl'),(by rw[tj,hz];exact qo (by omega)),?_⟩
     refine⟨_,_,n6,t6,zs++[ah++(⟨#[vX f st i]⟩:Str)++bh],rfl,?_,?_,?_,?_,?_⟩
     . rw[qj (Ne.symm nld)];exact qd
     . rw[tN];exact qd
     . rw[tL,hz];rfl
     . refine hN.snoc (B:=ws.take r.toNat) ?_ (Uo ha1 _) ?_
       . rw[Str.cps_append,Str.cps_append,zcf,zcf,hA,hB,hz]
       . rw[tS,tS]
         omega
     . exact fr.at_d.own hHl
   . rintro σ' H' ⟨v1,v2,n',t',zs,rfl,hd',hl',hz,hN,fr⟩
     exact⟨_,rfl,q l zs n' t' H' hHl hl' hz (hN.names (Uo ha1 _)) (hN.nodup hst (by omega)) hd' fr⟩
end
open PySem L2 PyProof.Rows
def U9 (t:TT) (σ:L2.St) (H:Hp):Prop:=∀Q:Bool->Hp->Prop,(∀b,Q b H)->t σ H Q
theorem U9.and {t u:TT} {σ:L2.St} {H:Hp} (h:U9 t σ H) (k:U9 u σ H):U9 (MW t u) σ H:=λQ q=>h _ λb=>by
 cases b
 . exact jB (q false)
 . exact Qe (k _ q)
theorem U9.or {t u:TT} {σ:L2.St} {H:Hp} (h:U9 t σ H) (k:U9 u σ H):U9 (tOr t u) σ H:=λQ q=>h _ λb=>by
 cases b
 . exact jB (k _ q)
 . exact Qe (q true)
theorem uq {tc:TT} {tp:TS} {D:Za} {σ:L2.St} {H0:Hp} (G:Hp->Prop) (h:G H0) (ht:U9 tc σ H0) (hp:∀D:Za,(∀H',G H'->D.nx σ H')->tp D σ H0) (k:∀H',G H'->D.nx σ H'):u9 tc tp vp D σ H0:=
 ht _ λb=>by
   cases b
   . exact jB (k _ h)
   . exact Qe (hp D k)
theorem YU {tc:TT} {tp u:TS} {D:Za} {σ:L2.St} {H0:Hp} (G:Hp->Prop) (h:G H0) (ht:U9 tc σ H0) (hp:∀D:Za,(∀H',G H'->D.nx σ H')->tp D σ H0) (k:∀H',G H'->u D σ H'):u7 (u9 tc tp vp) u D σ H0:=uq G h ht hp k
theorem XM {i:Nat} {v:V} {σ:L2.St} {H:Hp} {Q:L2.St->Hp->Prop} (h:Q (σ.set i (some v)) H):JN i v σ H Q:=h
abbrev up (k:Nat×Nat):Int×Int:=((k.1:Int),(k.2:Int))
def RY (a b:Nat×Nat):Prop:=a.1 < b.1\/(a.1=b.1/\a.2 < b.2)
abbrev Yh (ks:List (Nat×Nat)):List (List qL):=ks.map λk=>Yu (up k)
theorem k8 {a b:Nat×Nat} (h:Yu (up a)=Yu (up b)):a=b:=by
 unfold Yu at h
 simp only[List.cons.injEq,Sum.inl.injEq,and_true]at h
 exact Prod.ext (by have:=h.1;omega) (by have:=h.2;omega)
structure Zc (m i j:Nat) (ks:List (Nat×Nat)):Prop where
 ord:ks.Pairwise RY
 lt:∀x∈ks,x.2 < m/\(x.1 < i\/(x.1=i/\x.2 < j))
 len:ks.length<=i*m+j
theorem Zc.more {m i j:Nat} {ks:List (Nat×Nat)} (h:Zc m i j ks):Zc m i (j+1) ks:=⟨h.ord,λx hx=>by have:=h.lt x hx;omega,by have:=h.len;omega⟩
theorem Zc.snoc {m i j:Nat} {ks:List (Nat×Nat)} (h:Zc m i j ks) (hj:j < m):Zc m i (j+1) (ks++[(i,j)]):=by
 refine⟨zdD.mpr ⟨h.ord,zcs _ _,λa ha b hb=>?_⟩,λx hx=>?_,?_⟩
 . rw[zae.mp hb]
   have:=h.lt a ha
   unfold RY
   omega
 . rcases tV.mp hx with hx | hx
   . have:=h.lt x hx
     omega
   . rw[zae.mp hx]
     exact⟨hj,.inr ⟨rfl,zaI _⟩⟩
 . rw[tL]
   have:=h.len
   show ks.length+1<=_
   omega
theorem Zc.row {m i:Nat} {ks:List (Nat×Nat)} (h:Zc m i m ks):Zc m (i+1) 0 ks:=⟨h.ord,λx hx=>by have:=h.lt x hx;omega,by have:=h.len;rw[Nat.succ_mul];omega⟩
def MK (m i j:Nat) (kvs:List (List qL×V)):Prop:=∃ks,Zc m i j ks/\(kvs.map (·.1)=Yh ks\/kvs.map (·.1)=Yh (ks++[(i,j)]))
theorem ky (kvs:List (List qL×V)) (k:List qL):((kvs.any λkv=>decide (kv.1=k))=true)↔k∈kvs.map (·.1):=by
 rw[zbb,tJ]
 simp
theorem Gv {kvs:List (List qL×V)} {k:List qL} (v:V) (h:k∈kvs.map (·.1)):(jV kvs k v).map (·.1)=kvs.map (·.1):=by
 unfold jV
 rw[if_pos ((ky kvs k).mpr h),zaY]
 refine zbE λx _=>?_
 show (if x.1=k then (x.1,v) else x).1=x.1
 split<;>rfl
theorem w9 {kvs:List (List qL×V)} {k:List qL} (v:V) (h:¬k∈kvs.map (·.1)):(jV kvs k v).map (·.1)=kvs.map (·.1)++[k]:=by
 unfold jV
 rw[if_neg (λz=>h ((ky kvs k).mp z)),tN]
 rfl
theorem MK.put {m i j:Nat} {kvs:List (List qL×V)} (h:MK m i j kvs) (v:V):MK m i j (jV kvs (Yu (up (i,j))) v):=by
 obtain⟨ks,ha,h⟩:=h
 refine⟨ks,ha,.inr ?_⟩
 rcases h with h | h
 . rw[w9,h,Yh,Yh,tN]
   . rfl
   . rw[h]
     intro z
     obtain⟨x,hx,e⟩:=tJ.mp z
     have e':=k8 e
     have:=ha.lt x hx
     rw[e']at this
     omega
 . rw[Gv,h]
   rw[h]
   exact tJ.mpr ⟨(i,j),by simp,rfl⟩
theorem MK.len {m i j:Nat} {kvs:List (List qL×V)} (h:MK m i j kvs):kvs.length<=i*m+j+1:=by
 obtain⟨ks,ha,h⟩:=h
 have hl:=ha.len
 rcases h with h | h
 . have:=congrArg zaz h
   simp only[tj]at this
   omega
 . have:=congrArg zaz h
   simp only[tj,tL,zaF]at this
   omega
theorem RH {i m:Nat} (hi:i<=m) (hm:m<=14):i*m<=196:=zag (Nat.mul_le_mul (zag hi hm) hm) (by decide)
theorem qaP (xs:List V):X9 xs none (some 40)=xs.take 40:=by
 unfold X9
 have e1:HT.sIx xs.length 0 none=0:=rfl
 have e2:HT.sIx xs.length xs.length (some 40)=min 40 xs.length:=by
   simp [HT.sIx]
 rw[e1,e2,zdz,zdQ]
 by_cases h:40<=xs.length
 . rw[zcJ h]
 . rw[Nat.min_eq_right (by omega),tK (tF _),tK (by omega)]
def ZD (H:Hp) (ps:List Addr) (ks:List (Nat×Nat)):Prop:=ps.length=ks.length/\∀(i:Nat) (p:Addr) (k:Nat×Nat),ps[i]?=some p->ks[i]?=some k->H p=some (.tup [.int (k.1:Nat),.int (k.2:Nat)])
def vD:Sp:=λvs H Q _=>∃(d:Addr) (m:Nat) (n s t sh lo:Int),vs=[.ref d,.int m,.int sh,.int lo]/\H d=some (.dK (src n s t))/\m<=14/\
 ∀(l:Addr) (ps:List Addr) (ks:List (Nat×Nat)) (n' t':Int) (H':Hp),H l=none->H' l=some (.lst (ps.map V.ref))->ZD H' ps ks->ks.Pairwise RY->(∀x∈ks,x.1 < m/\x.2 < m)->ks.length<=40->H' d=some (.dK (src n' s t'))->Fr H d H'->Q (.ref l) H'
section
variable {P:Program} {w:World} {K:PySem.W.Frag} {mg:Str->Option Value} {base:Heap}
abbrev NW:List Str:=["_law_source_here","_law_many","_law_shape","_law_low","_law_pairs","_law_k","_law_j","_law_way"]
abbrev Xv:List Str:=["_law_source_here","_law_many","_law_shape","_law_low"]
theorem zd:qp NW Xv (qh Xm):=⟨rfl,rfl,rfl,by decide+kernel,rfl,by decide+kernel,by decide+kernel⟩
theorem wI {f fT:Addr} {fd fdT:FuncData} (F:jU K "_law_leads" "_law_leads" Xm f fd) (B:QF mg) (hso:mg "sorted"=none) (hT:qY K mg "_law_take" Ys ["_law_source_here","_law_many"] fT fdT):ql P w K mg base qG 2 f fd Xv vD:=by
 have GT:ql P w K mg base qG 1 fT fdT ["_law_source_here","_law_many"] ZR:=zt hT.fn
 refine F.okJ zd (λvs H Q E h=>?_) (λcdv A outer s H vs Q E hr h=>?_)
 . obtain⟨d,m,n,sd,t,sh,lo,rfl,_⟩:=h
   rfl
 . obtain⟨d,m,n,sd,t,sh,lo,rfl,hd,hm,q⟩:=h
   have hu:=jR hr
   refine⟨_,qe (qy (i:=4) zd.nd rfl (Or.inl rfl) ug)
     (qe (jd PassesOwn.never rfl (jM (by rfl) B.rng (qb (jv 1) qf)) (qv (i:=5) zd.nd rfl (Or.inl rfl))
       (qg (jd PassesOwn.never rfl (jM (by rfl) B.rng (qb (jv 1) qf)) (qv (i:=6) zd.nd rfl (Or.inl rfl))
         (qe (qy (i:=7) zd.nd rfl (Or.inl rfl) (qH hT GT hr (by rfl) (qb (jv 0) (qb qi qf))))
         (qe (qO (Qd (qt jp (jv 2) qi (qB _)) (jS (ZM (Qd (qt Q6 (jv 6) (jv 5) (qB _)) (jS (qt Q6 (jv 7) qi (qB _)))).pt (Jw (Qd (qt wq (jv 6) (jv 5) (qB _)) (jS (qt Q6 (jv 7) qi (qB _)))).pt)).pt)).pt
           (qg (jy hu (jv 4) (j5 (qb (jv 5) (qb (jv 6) qf))) Qg rfl)) qC)
         (qe (qO (Qd (qt jp (jv 2) qi (qB _)) (jS (qt Q6 (jv 7) qi (qB _)))).pt
           (qg (jy hu (jv 4) (j5 (qb (jv 5) (qb (jv 6) qf))) Qg rfl)) qC)
         (qe (qO (Qd (qt jp (jv 2) qi (qB _)) (jS (ZM (Qd (qt jp (jv 6) (qT JY (qT QM (jv 5) qi) (jv 1)) (qB _)) (jS (qt Q6 (jv 7) qi (qB _)))).pt (Jw (qt Q6 (jv 7) qi (qB _)))).pt)).pt
           (qg (jy hu (jv 4) (j5 (qb (jv 5) (qb (jv 6) qf))) Qg rfl)) qC)
         (qe (qO (Qd (qt jp (jv 2) qi (qB _)) (Qd (qt Q6 (jv 6) (jv 5) (qB _)) (jS (ZM (qt Q6 (jv 6) (jv 3) (qB _)) (Jw (qt Q6 (jv 7) qi (qB _)))).pt))).pt
           (qg (jy hu (jv 4) (j5 (qb (jv 5) (qb (jv 6) qf))) Qg rfl)) qC)
         (qg (qO (Qd (qt jp (jv 2) qi (qB _)) (jS (ZM (Qd (qt Q6 (jv 6) (jv 3) (qB _)) (jS (qt Q6 (jv 6) (jv 5) (qB _)))).pt (Jw (Qd (qt wq (jv 5) (jv 3) (qB _)) (jS (qt Q6 (jv 7) qi (qB _)))).pt)).pt)).pt
           (qg (jy hu (jv 4) (j5 (qb (jv 5) (qb (jv 6) qf))) Qg rfl)) qC)))))))))
       )
     (qg (qw (Zm WT (qF (U8 rfl) (by rfl) hso boot_sorted (qb (jv 4) qf)) zC (zB qi))))),?_⟩
   intro D hD
   have nDd:D≠d:=λe=>by rw[e,hd]at hD;cases hD
   refine⟨_,rfl,m,rfl,by omega,by omega,?_⟩
   refine Q0 (lo:=0) (n:=m) (λi σ' H'=>∃(v1 v2 v3:Option V) (n' t':Int) (kvs:List (List qL×V)) (ks:List (Nat×Nat)),σ'=[some (.ref d),some (.int m),some (.int sh),some (.int lo),some (.ref D),v1,v2,v3]/\
     H' d=some (.dK (src n' sd t'))/\H' D=some (.dT kvs)/\kvs.map (·.1)=Yh ks/\Zc m i 0 ks/\Fr H d H')
     ⟨none,none,none,n,t,[],[],rfl,qr hd hD,qd,rfl,⟨.nil,λx hx=>(nomatch hx),zay _⟩,Fr.refl.new hD⟩ ?_ ?_
   . rintro i σ' H' hi ⟨v1,v2,v3,n',t',kvs,ks,rfl,hd',hD',ek,ha,fr⟩
     rw[zbY]
     refine⟨_,rfl,m,rfl,by omega,by omega,?_⟩
     refine Q0 (lo:=0) (n:=m) (λj σ' H'=>∃(v2 v3:Option V) (n' t':Int) (kvs:List (List qL×V)) (ks:List (Nat×Nat)),σ'=[some (.ref d),some (.int m),some (.int sh),some (.int lo),some (.ref D),some (.int i),v2,v3]/\
       H' d=some (.dK (src n' sd t'))/\H' D=some (.dT kvs)/\kvs.map (·.1)=Yh ks/\Zc m i j ks/\Fr H d H')
       ⟨_,_,n',t',kvs,ks,rfl,hd',hD',ek,ha,fr⟩ ?_ ?_
     . rintro j σ' H2 hj ⟨v2,v3,n2,t2,kvs,ks,rfl,hd2,hD2,ek,ha,fr⟩
       rw[zbY]
       refine⟨_,rfl,d,12,n2,sd,t2,rfl,hd2,by decide,by decide,λr n3 t3 r0 r1=>?_⟩
       have hsq:=RH (zak hi) hm
       let G:Hp->Prop:=λH'=>∃(kvs:List (List qL×V)),H' d=some (.dK (src n3 sd t3))/\H' D=some (.dT kvs)/\MK m i j kvs/\Fr H d H'
       have g0:G (upd H2 d (.dK (src n3 sd t3))):=⟨kvs,qd,(by rw[qj nDd];exact hD2),⟨ks,ha,.inl ek⟩,fr.at_d⟩
       have put:∀H',G H'->∀E:Za,(∀H',G H'->E.nx [some (.ref d),some (.int m),some (.int sh),some (.int lo),some (.ref D),some (.int i),some (.int j),some (.int r)] H')->
           RS (q5 4) (kM (jo (q5 5) (jo (q5 6) Jj))) (tC (.bl true)) E [some (.ref d),some (.int m),some (.int sh),some (.int lo),some (.ref D),some (.int i),some (.int j),some (.int r)] H':=by
         rintro H' ⟨kvs,h1,h2,h3,h4⟩ E k
         refine⟨_,rfl,_,rfl,_,rfl,by show 2<=sizeLine;decide,λp hp=>?_⟩
         have npd:p≠d:=λe=>by rw[e,h1]at hp;cases hp
         have npD:p≠D:=λe=>by rw[e,h2]at hp;cases hp
         refine⟨D,_,rfl,Ji.t (k:=Yu (up (i,j))) (kvs:=kvs) (by rw[qj (Ne.symm npD)];exact h2) qd (qo (by have:=h3.len;omega)),?_⟩
         refine k _ ⟨_,?_,qd,h3.put _,?_⟩
         . rw[qj (Ne.symm nDd),qj (Ne.symm npd)]
           exact h1
         . exact(h4.new hp).own hD
       refine XM ?_
       dsimp only[List.set]
       refine YU G g0 ?_ (put _ g0) λH3 g3=>?_
       . exact U9.and (λQ q=>⟨_,rfl,rfl,_,rfl,q _⟩) (.or (.and (λQ q=>⟨_,rfl,_,rfl,_,_,rfl,rfl,_,rfl,q _⟩) (λQ q=>⟨_,rfl,_,_,rfl,rfl,_,rfl,q _⟩)) (.and (λQ q=>⟨_,rfl,_,rfl,_,_,rfl,rfl,_,rfl,q _⟩) (λQ q=>⟨_,rfl,_,_,rfl,rfl,_,rfl,q _⟩)))
       refine YU G g3 ?_ (put _ g3) λH4 g4=>?_
       . exact U9.and (λQ q=>⟨_,rfl,rfl,_,rfl,q _⟩) (λQ q=>⟨_,rfl,_,_,rfl,rfl,_,rfl,q _⟩)
       refine YU G g4 ?_ (put _ g4) λH5 g5=>?_
       . exact U9.and (λQ q=>⟨_,rfl,rfl,_,rfl,q _⟩) (.or (.and (λQ q=>⟨_,rfl,_,rfl,_,_,rfl,rfl,_,rfl,_,_,rfl,rfl,(by show (0:Int) < m;omega),rfl,_,rfl,q _⟩) (λQ q=>⟨_,rfl,_,_,rfl,rfl,_,rfl,q _⟩)) (λQ q=>⟨_,rfl,_,_,rfl,rfl,_,rfl,q _⟩))
       refine YU G g5 ?_ (put _ g5) λH6 g6=>?_
       . exact U9.and (λQ q=>⟨_,rfl,rfl,_,rfl,q _⟩) (.and (λQ q=>⟨_,rfl,_,rfl,_,_,rfl,rfl,_,rfl,q _⟩) (.or (λQ q=>⟨_,rfl,_,rfl,_,_,rfl,rfl,_,rfl,q _⟩) (λQ q=>⟨_,rfl,_,_,rfl,rfl,_,rfl,q _⟩)))
       refine uq G g6 ?_ (put _ g6) λH7 g7=>?_
       . exact U9.and (λQ q=>⟨_,rfl,rfl,_,rfl,q _⟩) (.or (.and (λQ q=>⟨_,rfl,_,rfl,_,_,rfl,rfl,_,rfl,q _⟩) (λQ q=>⟨_,rfl,_,rfl,_,_,rfl,rfl,_,rfl,q _⟩)) (.and (λQ q=>⟨_,rfl,_,rfl,_,_,rfl,rfl,_,rfl,q _⟩) (λQ q=>⟨_,rfl,_,_,rfl,rfl,_,rfl,q _⟩)))
       obtain⟨kvs,h1,h2,⟨ks,ha,h3⟩,h4⟩:=g7
       rcases h3 with h3 | h3
       . exact⟨_,_,n3,t3,kvs,ks,rfl,h1,h2,h3,ha.more,h4⟩
       . exact⟨_,_,n3,t3,kvs,_,rfl,h1,h2,h3,ha.snoc hj,h4⟩
     . rintro σ' H2 ⟨v2,v3,n2,t2,kvs,ks,rfl,hd2,hD2,ek,ha,fr⟩
       exact⟨_,_,_,n2,t2,kvs,ks,rfl,hd2,hD2,ek,ha.row,fr⟩
   . rintro σ' H1 ⟨v1,v2,v3,n1,t1,kvs,ks,rfl,hd1,hD1,ek,ha,fr⟩
     have hl:kvs.length=ks.length:=by simpa using congrArg zaz ek
     have hsq:=RH (tF m) hm
     have hal:=ha.len
     refine⟨_,rfl,D,kvs,ks.map up,rfl,hD1,?_,?_,by omega,λl ps hfl lps tup=>?_⟩
     . rw[ek,zaY]
       rfl
     . intro i k k' e1 e2
       rw[tI]at e1 e2
       cases e3:ks[i]? with
       | none=>rw[e3]at e1;cases e1
       | some a=>
         cases e4:ks[i+1]? with
         | none=>rw[e4]at e2;cases e2
         | some b=>
           rw[e3]at e1
           rw[e4]at e2
           obtain rfl:=(tO.inj e1).symm
           obtain rfl:=(tO.inj e2).symm
           have h5:=zaM.mp ha.ord i (i+1) (tE.mp e3).1 (tE.mp e4).1 (zaI _)
           rw[(tE.mp e3).2,(tE.mp e4).2]at h5
           unfold RY at h5
           show XF _ _
           unfold XF
           show (a.1:Int) < b.1\/((a.1:Int)=b.1/\(a.2:Int) < b.2)
           omega
     . refine⟨40,rfl,l,_,rfl,.of qd,λl2 hl2=>?_⟩
       rw[qaP,<-List.map_take]
       have n2d:l2≠d:=λe=>by
         rw[e,qr hd1 hfl]at hl2
         cases hl2
       have hl1:H1 l2=none:=by
         by_cases e:l2=l
         . rw[e];exact hfl
         . rw[qj e]at hl2;exact hl2
       have fr2:=(fr.new (o:=.lst (ps.map V.ref)) hfl).new (o:=.lst ((ps.take 40).map V.ref)) hl2
       refine q l2 (ps.take 40) (ks.take 40) n1 t1 _ (fr.fresh hd1 hl1) qd ⟨?_,λi p k e1 e2=>?_⟩ ?_ ?_ ?_ ?_ fr2
       . rw[tS,tS,lps,tj]
       . have i40:i < 40:=by
           have:=(tE.mp e1).1
           rw[tS]at this
           omega
         rw[zbj i40]at e1 e2
         have h1:=tup i p (up k) e1 (by rw[tI,e2];rfl)
         exact qr (qr h1 hfl) hl2
       . exact ha.ord.sublist (zcu _ _)
       . intro x hx
         have:=ha.lt x (zbX hx)
         omega
       . rw[tS]
         omega
       . exact qr (qr hd1 hfl) hl2
end
open PySem L2 PyProof.Rows
structure qu (rs:List (Str×List Str)):Prop where
 nm:∀r∈rs,jN r.1=true
 nd:(rs.map (·.1)).Nodup
 to:∀r∈rs,∀z∈r.2,z∈rs.map (·.1)
 rd:∀r∈rs,r.2.Nodup
 few:(rs.map λr=>r.2.length).sum<=40
def QP (zs:List Str) (j:Nat):Str:=zs.getD j ⟨#[]⟩
theorem Zr {zs:List Str} {j:Nat} (h:j < zs.length):QP zs j∈zs:=by
 unfold QP
 rw[zas,tH h]
 exact zbI h
theorem Zs {zs:List Str} {j:Nat} (h:j < zs.length):zs[j]?=some (QP zs j):=by
 unfold QP
 rw[zas,tH h]
 rfl
theorem vg {zs:List Str} (hn:zs.Nodup) {i j:Nat} (hi:i < zs.length) (hj:j < zs.length) (h:QP zs i=QP zs j):i=j:=by
 have h1:=Zs hi
 have h2:=Zs hj
 rw[h,<-h2,tH hi,tH hj]at h1
 have e:zs[i]=zs[j]:=tO.inj h1
 rcases zaC i j with l | l | l
 . exact absurd e (zaM.mp hn i j hi hj l)
 . exact l
 . exact absurd e.symm (zaM.mp hn j i hj hi l)
theorem JJ {α β:Type} {f:α->β}:∀{l:List α},l.Nodup->(∀a∈l,∀b∈l,f a=f b->a=b)->(l.map f).Nodup
 | [],_,_=>zbo
 | a::l,h,k=>by
   rw[tW,zam]
   rw[zam]at h
   refine⟨λz=>?_,JJ h.2 λx hx y hy=>k x (tU _ hx) y (tU _ hy)⟩
   obtain⟨b,hb,e⟩:=tJ.mp z
   have:=k b (tU _ hb) a (zaa) e
   subst this
   exact h.1 hb
def Wg (ks:List (Nat×Nat)) (k:Nat):List Nat:=(ks.filter λx=>decide (x.1=k)).map (·.2)
theorem kL {ks:List (Nat×Nat)} (h:ks.Pairwise RY) (k:Nat):(Wg ks k).Nodup:=by
 have h1:(ks.filter λx=>decide (x.1=k)).Pairwise RY:=h.sublist (zbf)
 refine zdT.mpr (zdG.imp_of_mem (λ{a b} ha hb r=>?_) h1)
 have e1:a.1=k:=of_decide_eq_true (tX.mp ha).2
 have e2:b.1=k:=of_decide_eq_true (tX.mp hb).2
 unfold RY at r
 omega
theorem UA {ks:List (Nat×Nat)} {m:Nat} (h:∀x∈ks,x.1 < m/\x.2 < m) (k:Nat):∀j∈Wg ks k,j < m:=λj hj=>by
 obtain⟨x,hx,e⟩:=tJ.mp hj
 have:=(h x (tX.mp hx).1).2
 omega
theorem Kd (os:List Nat) (f g:Nat->Nat):(os.map λk=>f k+g k).sum=(os.map f).sum+(os.map g).sum:=by
 induction os with
 | nil=>rfl
 | cons a os ih=>
   simp only[tW,zaV,ih]
   omega
theorem Kc {os:List Nat} (h:os.Nodup) (a:Nat):(os.map λk=>if a=k then 1 else 0).sum<=1:=by
 induction os with
 | nil=>exact zay _
 | cons b os ih=>
   rw[zam]at h
   rw[tW,zaV]
   by_cases e:a=b
   . subst e
     have z:(os.map λk=>if a=k then 1 else 0)=os.map λ_=>0:=zbE λk hk=>by
       rw[if_neg]
       intro e
       subst e
       exact h.1 hk
     rw[z,if_pos rfl]
     have:(os.map λ_=>0).sum=0:=by
       clear z ih h
       induction os with
       | nil=>rfl
       | cons c os ih=>rw[tW,zaV,ih]
     omega
   . rw[if_neg e]
     have:=ih h.2
     omega
theorem vo {os:List Nat} (h:os.Nodup):∀ks:List (Nat×Nat),(os.map λk=>(Wg ks k).length).sum<=ks.length
 | []=>by
   have:(os.map λk=>(Wg [] k).length).sum=0:=by
     clear h
     induction os with
     | nil=>rfl
     | cons c os ih=>rw[tW,zaV,ih];rfl
   omega
 | x::ks=>by
   have e:(os.map λk=>(Wg (x::ks) k).length)=os.map λk=>(if x.1=k then 1 else 0)+(Wg ks k).length:=zbE λk _=>by
     unfold Wg
     rw[zbu]
     by_cases z:x.1=k
     . rw[if_pos (decide_eq_true z),if_pos z]
       simp only[tW,zat]
       omega
     . rw[if_neg (by simpa using z),if_neg z,zdR]
   rw[e,Kd,zat]
   have:=Kc h x.1
   have:=vo h ks
   omega
def JF (zs:List Str) (ks:List (Nat×Nat)) (ab:Bool) (k:Nat):Str×List Str:=
 (QP zs k,if ab=true then ((Wg ks k).map (QP zs)).reverse else (Wg ks k).map (QP zs))
theorem kX {zs:List Str} {ks:List (Nat×Nat)} {ab:Bool} {k:Nat} {z:Str}:z∈(JF zs ks ab k).2↔z∈(Wg ks k).map (QP zs):=by
 unfold JF
 cases ab
 . rw[if_neg tP]
 . rw[if_pos rfl,zcF]
theorem kY {zs:List Str} {ks:List (Nat×Nat)} {ab:Bool} {k:Nat}:(JF zs ks ab k).2.length=(Wg ks k).length:=by
 unfold JF
 cases ab
 . rw[if_neg tP,tj]
 . rw[if_pos rfl,zce,tj]
structure Us (m:Nat) (os:List Nat):Prop where
 len:os.length=m
 nd:os.Nodup
 lt:∀k∈os,k < m
 all:∀j,j < m->j∈os
theorem yO {zs:List Str} {ks:List (Nat×Nat)} {os:List Nat} {m:Nat} (ab:Bool) (hz:zs.length=m) (hN:∀z∈zs,jN z=true) (hd:zs.Nodup) (hk:ks.Pairwise RY) (hl:∀x∈ks,x.1 < m/\x.2 < m) (h40:ks.length<=40) (ho:Us m os):
   qu (os.map (JF zs ks ab)):=by
 have e1:(os.map (JF zs ks ab)).map (·.1)=os.map (QP zs):=by rw[zaY];rfl
 have inj:∀a∈os,∀b∈os,QP zs a=QP zs b->a=b:=λa ha b hb e=>vg hd (by rw[hz];exact ho.lt a ha) (by rw[hz];exact ho.lt b hb) e
 refine⟨λr hr=>?_,?_,λr hr z hz'=>?_,λr hr=>?_,?_⟩
 . obtain⟨k,hk',rfl⟩:=tJ.mp hr
   exact hN _ (Zr (by rw[hz];exact ho.lt k hk'))
 . rw[e1]
   exact JJ ho.nd inj
 . obtain⟨k,hk',rfl⟩:=tJ.mp hr
   rw[kX]at hz'
   obtain⟨j,hj,rfl⟩:=tJ.mp hz'
   rw[e1]
   exact tJ.mpr ⟨j,ho.all j (UA hl k j hj),rfl⟩
 . obtain⟨k,hk',rfl⟩:=tJ.mp hr
   have h1:((Wg ks k).map (QP zs)).Nodup:=JJ (kL hk k) λa ha b hb e=>vg hd (by rw[hz];exact UA hl k a ha) (by rw[hz];exact UA hl k b hb) e
   show (if ab=true then _ else _:List Str).Nodup
   cases ab
   . rw[if_neg tP]
     exact h1
   . rw[if_pos rfl]
     exact zdw.mpr (h1.imp λh=>Ne.symm h)
 . have e2:((os.map (JF zs ks ab)).map λr=>r.2.length)=os.map λk=>(Wg ks k).length:=by
     rw[zaY]
     exact zbE λk _=>kY
   rw[e2]
   exact zag (vo ho.nd ks) h40
theorem wk (m:Nat):Us m (zac m):=⟨zan,zcG,λk h=>zaG.mp h,λj h=>zaG.mpr h⟩
theorem UM (m:Nat):Us m (zI m):=⟨by rw[zI,zce,zan],zdw.mpr (zcG.imp λh=>Ne.symm h),λk h=>zaG.mp (zcF.mp h),λj h=>zcF.mpr (zaG.mpr h)⟩
def Yy (m:Nat):List Nat:=(zac m).map λk=>k*5 % m
theorem yT:∀m,m < 15->(Yy m).Nodup->∀j,j < m->j∈Yy m:=by decide+kernel
theorem VT {m:Nat} (hm:m<=14) (h0:0 < m) (h:(Yy m).Nodup):Us m (Yy m):=
 ⟨by rw[Yy,tj,zan],h,λk hk=>by obtain⟨x,_,rfl⟩:=tJ.mp hk;exact Nat.mod_lt _ h0,yT m (by omega) h⟩
theorem Wp (val:Nat->Int):∀i,(firstMet val i).length=i->((zac i).map val).Nodup
 | 0,_=>zbo
 | i+1,h=>by
   have h1:=firstMet_any val i (val i)
   have h2:=firstMet_length_le val i
   rw[firstMet_succ]at h
   unfold step_dedup at h
   split at h
   . omega
   . rename_i z
     rw[tL,zaF]at h
     rw[zco,tN,zcz]
     refine⟨Wp val i (by omega),by simp,λa ha b hb e=>?_⟩
     have eb:b=val i:=by simpa using hb
     subst eb
     subst e
     refine z ?_
     rw[h1,zbb]
     exact⟨_,ha,by simp⟩
theorem N0 {os:List Nat} (h:¬(firstMet (λi=>(os.map λk=>((k:Nat):Int)).getD i 0) (os.map λk=>((k:Nat):Int)).length).length < os.length):os.Nodup:=by
 have h1:=firstMet_length_le (λi=>(os.map λk=>((k:Nat):Int)).getD i 0) (os.map λk=>((k:Nat):Int)).length
 have h2:=Wp (λi=>(os.map λk=>((k:Nat):Int)).getD i 0) (os.map λk=>((k:Nat):Int)).length (by rw[tj]at h1 h ⊢;omega)
 have e:(zac (os.map λk=>((k:Nat):Int)).length).map (λi=>(os.map λk=>((k:Nat):Int)).getD i 0)=os.map λk=>((k:Nat):Int):=by
   refine zdb λi=>?_
   rw[tI]
   by_cases hi:i < (os.map λk=>((k:Nat):Int)).length
   . rw[zbD hi,tH hi]
     simp only[zcl,zas,tH hi,Option.getD_some]
   . rw[zbi (by rw[zan];omega),zbi (by omega)]
     rfl
 rw[e]at h2
 refine(zdT.mp h2).imp λh e=>h (by rw[e])
open PySem L2 PyProof.Rows
def j0 (H:Hp) (ps:List Addr) (rs:List (Str×List Str)):Prop:=ps.length=rs.length/\∀(i:Nat) (p:Addr) (r:Str×List Str),ps[i]?=some p->rs[i]?=some r->∃q,H p=some (.tup [.str r.1,.ref q])/\H q=some (.tup (r.2.map V.str))
def xp:Sp:=λvs H Q _=>∃(d:Addr) (mo:Nat) (n s t:Int),vs=[.ref d,.int mo]/\H d=some (.dK (src n s t))/\0 < mo/\mo<=14/\
 ∀(l:Addr) (ps:List Addr) (rs:List (Str×List Str)) (n' t':Int) (H':Hp),H l=none->H' l=some (.lst (ps.map V.ref))->j0 H' ps rs->qu rs->0 < rs.length->rs.length<=mo->H' d=some (.dK (src n' s t'))->Fr H d H'->Q (.ref l) H'
structure Qv (mg:Str->Option Value):Prop where
 srt:mg "sorted"=none
 lst:mg "list"=none
 rev:mg "reversed"=none
 set:mg "set"=none
 tup:mg "tuple"=none
theorem j0.mono {H H':Hp} {ps:List Addr} {rs:List (Str×List Str)} (h:j0 H ps rs) (s:qm H H'):j0 H' ps rs:=⟨h.1,λi p r e1 e2=>let ⟨q,a,b⟩:=h.2 i p r e1 e2;⟨q,s _ _ a,s _ _ b⟩⟩
theorem ZD.mono {H H':Hp} {ps:List Addr} {ks:List (Nat×Nat)} (h:ZD H ps ks) (s:qm H H'):ZD H' ps ks:=⟨h.1,λi p k e1 e2=>s _ _ (h.2 i p k e1 e2)⟩
theorem Fr.same {H H' H'':Hp} {d:Addr} (h:Fr H d H') (s:qm H' H''):Fr H d H'':=λb u hb hn=>s _ _ (h b u hb hn)
theorem j0.snoc {H:Hp} {ps:List Addr} {rs:List (Str×List Str)} (h:j0 H ps rs) {p q:Addr} {r:Str×List Str} (hp:H p=some (.tup [.str r.1,.ref q])) (hq:H q=some (.tup (r.2.map V.str))):j0 H (ps++[p]) (rs++[r]):=by
 refine⟨by rw[tL,tL,h.1];rfl,λi p' r' e1 e2=>?_⟩
 by_cases hi:i < ps.length
 . rw[zah hi]at e1
   rw[zah (by rw[<-h.1];exact hi)]at e2
   exact h.2 i p' r' e1 e2
 . have hi':i=ps.length:=by
     have:=(tE.mp e1).1
     rw[tL,zaF]at this
     omega
   subst hi'
   rw[zad (tF _),zcQ]at e1
   rw[h.1,zad (tF _),zcQ]at e2
   obtain rfl:=(tO.inj e1).symm
   obtain rfl:=(tO.inj e2).symm
   exact⟨q,hp,hq⟩
theorem j0.upd_lst {H:Hp} {ps:List Addr} {rs:List (Str×List Str)} {l:Addr} {xs:List V} {o:HO} (h:j0 H ps rs) (hl:H l=some (.lst xs)):j0 (upd H l o) ps rs:=by
 refine⟨h.1,λi p r e1 e2=>?_⟩
 obtain⟨q,a,b⟩:=h.2 i p r e1 e2
 refine⟨q,?_,?_⟩
 . rw[qj (λe=>by rw[e,hl]at a;cases a)]
   exact a
 . rw[qj (λe=>by rw[e,hl]at b;cases b)]
   exact b
theorem U2 {tc:TT} {tp u:TS} {D:Za} {σ:L2.St} {H0:Hp} (R:Bool->Hp->Prop) (G:L2.St->Hp->Prop) (ht:∀Q:Bool->Hp->Prop,(∀b H1,R b H1->Q b H1)->tc σ H0 Q)
   (hT:∀H1,R true H1->∀D':Za,(∀σ' H',G σ' H'->D'.nx σ' H')->tp D' σ H1) (hF:∀H1,R false H1->G σ H1) (k:∀σ' H',G σ' H'->u D σ' H'):u7 (u9 tc tp vp) u D σ H0:=
 ht _ λb H1 r=>by
   cases b
   . exact jB (k _ _ (hF _ r))
   . exact Qe (hT _ r _ k)
theorem RE {zs:List Str} {j:Nat} (h:j < zs.length):Um (zs.map V.str) ((j:Nat):Int)=some (V.str (QP zs j)):=Y4 (by rw[tI,Zs h];rfl)
theorem xi {ks:List (Nat×Nat)} {j:Nat} {x:Nat×Nat} (k:Nat) (h:ks[j]?=some x):Wg (ks.take (j+1)) k=Wg (ks.take j) k++if x.1=k then [x.2] else []:=by
 unfold Wg
 rw[tR,h,zaO,tN]
 congr 1
 by_cases e:x.1=k
 . rw[if_pos e]
   simp [e]
 . rw[if_neg e]
   simp [e]
abbrev oL (os:List Nat):List V:=os.map λk=>V.int ((k:Nat):Int)
theorem Gm (os:List Nat):oL os=(os.map λk=>((k:Nat):Int)).map V.int:=by rw[zaY];rfl
section
variable {P:Program} {w:World} {K:PySem.W.Frag} {mg:Str->Option Value} {base:Heap}
abbrev qat:List Str:=["_law_source_here","_law_most","_law_many","_law_names_here","_law_shape","_law_pairs","_law_about","_law_order","_law_rows_here","_law_k","_law_leads_here"]
theorem QL:qp qat ["_law_source_here","_law_most"] (qh vK):=⟨rfl,rfl,rfl,by decide+kernel,rfl,by decide+kernel,by decide+kernel⟩
abbrev qaS:List Str:=["_law_one","_law_j","_law_k","_law_names_here"]
theorem ku:qaS.Nodup:=by decide+kernel
theorem KZ {f fT fN fL:Addr} {fd fdT fdN fdL:FuncData} (F:jU K "_law_rows" "_law_rows" vK f fd) (B:QF mg) (G:Qv mg) (hT:qY K mg "_law_take" Ys ["_law_source_here","_law_many"] fT fdT)
   (hN:qY K mg "_law_names" Xk ["_law_source_here","_law_many"] fN fdN) (hL:qY K mg "_law_leads" Xm Xv fL fdL):ql P w K mg base qG 3 f fd ["_law_source_here","_law_most"] xp:=by
 have GT:ql P w K mg base qG 1 fT fdT ["_law_source_here","_law_many"] ZR:=zt hT.fn
 have GN:ql P w K mg base qG 2 fN fdN ["_law_source_here","_law_many"] vC:=wH hN.fn B hT
 have GL:ql P w K mg base qG 2 fL fdL Xv vD:=wI hL.fn B G.srt hT
 refine F.okJ QL (λvs H Q E h=>?_) (λcdv A outer s H vs Q E hr h=>?_)
 . obtain⟨d,m,n,sd,t,rfl,_⟩:=h
   rfl
 . obtain⟨d,mo,n,sd,t,rfl,hd,hmo,hm14,q⟩:=h
   have r1:qS 1 _:=hr.mono (by decide)
   refine⟨_,qe (qy (i:=2) QL.nd rfl (Or.inr rfl) (qT QM qi (qH hT GT r1 (by rfl) (qb (jv 0) (qb (jv 1) qf)))))
     (qe (qy (i:=3) QL.nd rfl (Or.inr rfl) (qH hN GN hr (by rfl) (qb (jv 0) (qb (jv 2) qf))))
     (qe (qy (i:=4) QL.nd rfl (Or.inl rfl) (qH hT GT r1 (by rfl) (qb (jv 0) (qb qi qf))))
     (qe (qy (i:=5) QL.nd rfl (Or.inl rfl) (qH hL GL hr (by rfl) (qb (jv 0) (qb (jv 2) (qb (jv 4) (qb (qT QM qi (qH hT GT r1 (by rfl) (qb (jv 0) (qb qi qf)))) qf))))))
     (qe (qy (i:=6) QL.nd rfl (Or.inl rfl) (jT jp (qH hT GT r1 (by rfl) (qb (jv 0) (qb qi qf))) qi (qB _)))
     (qe (qy (i:=7) QL.nd rfl (Or.inl rfl) (qaE rfl (by rfl) G.lst (by rfl) B.rng (jv 2)))
     (qe (qO (jZ (jv 6)) (qg (Jb (i:=7) (N':=["_law_k","_law_many"]) (ix:=[none,some 2]) QL.nd rfl (Or.inl rfl) rfl ⟨rfl,rfl,rfl,rfl,rfl⟩ (jM (by rfl) B.rng (qb (jv 2) qf))
         (λC s2 H2 fp pins=>⟨qv (i:=0) (show (["_law_k","_law_many"]:List Str).Nodup by decide+kernel) rfl (Or.inl rfl),j2,qT JY (qT JX (jv 0) qi) (jv 1)⟩))) qC)
     (qe (qO (qt Q6 (qF Uk (by rfl) B.len boot_len (qb (ju (yW rfl) (by rfl) G.set boot_set (qb (jv 7) qf)) qf)) (jv 2) (qB _))
         (qg (qy (i:=7) QL.nd rfl (Or.inl rfl) (Me rfl (by rfl) G.lst (by rfl) G.rev (by rfl) B.rng (jv 2)))) qC)
     (qe (qy (i:=8) QL.nd rfl (Or.inl rfl) (jA qf))
     (qe (jd PassesOwn.never rfl (qI (jv 7)) (qv (i:=9) QL.nd rfl (Or.inr rfl))
       (qe (Jb (i:=10) (N':=qaS) (ix:=[none,none,some 9,some 3]) (g:=Mi K 2 (Uc (JN 0) (Uc (JN 1) Ml))) (te:=zR (NB K) (q5 3) (q5 1)) QL.nd rfl (Or.inl rfl) rfl ⟨rfl,rfl,rfl,rfl,rfl⟩ (qI (jv 5))
           (λC s2 H2 fp pins=>⟨ZZ rfl (jD (qv (i:=0) ku rfl (Or.inl rfl)) (jD (qv (i:=1) ku rfl (Or.inl rfl)) J3)),
             jJ (qt jp (jv 0) (jv 2) (qB _)),qM jz (jv 3) (jv 1) (λ_ _=>rfl)⟩))
       (qe (qO (jZ (jv 6)) (qg (jC (ui zav PySem.F.slot_list_reverse PySem.F.type_list_reverse UQ (jv 10)))) qC)
       (qg (jC (ZN zav zbl zbm QZ (jv 8) (qb
         (j5 (qb (qM jz (jv 3) (jv 9) (λ_ _=>rfl)) (qb (ju Wa (by rfl) G.tup boot_tuple (qb (jv 10) qf)) qf))) qf)))))))
     (qg (qw (jv 8)))))))))))),?_⟩
   refine⟨_,rfl,_,rfl,d,mo,n,sd,t,rfl,hd,by omega,by omega,λr n1 t1 r0 r1=>⟨_,_,rfl,rfl,?_⟩⟩
   obtain⟨m,em,m0,m1⟩:∃m:Nat,1+r=(m:Int)/\0 < m/\m<=mo:=⟨(1+r).toNat,by omega,by omega,by omega⟩
   have em':(λi j:Int=>V.int (i+j)) 1 r=V.int (m:Int):=congrArg V.int em
   rw[em']
   refine⟨_,rfl,_,rfl,d,m,n1,sd,t1,rfl,qd,by omega,λlz zs n2 t2 H2 hlz hlz' zl zn znd hd2 fr2=>?_⟩
   have fr2:Fr H d H2:=Fr.refl.at_d.trans fr2
   refine⟨_,rfl,d,5,n2,sd,t2,rfl,hd2,by decide,by decide,λsh n3 t3 _ _=>?_⟩
   refine⟨_,rfl,_,rfl,_,rfl,_,rfl,d,5,n3,sd,t3,rfl,qd,by decide,by decide,λlw n4 t4 _ _=>⟨_,_,rfl,rfl,d,m,n4,sd,t4,sh,1+lw,rfl,qd,by omega,λlp ps ks n5 t5 H5 hlp hlp' pat kord klt k40 hd5 fr5=>?_⟩⟩
   have nzd:lz≠d:=λe=>by rw[e,qd]at hlz;cases hlz
   have hz5:H5 lz=some (.lst (zs.map V.str)):=fr5 _ _ (by rw[qj nzd,qj nzd];exact hlz') nzd
   have fr5:Fr H d H5:=fr2.at_d.at_d.trans fr5
   refine⟨_,rfl,d,2,n5,sd,t5,rfl,hd5,by decide,by decide,λab n6 t6 _ _=>⟨rfl,?_⟩⟩
   generalize decide (V.int ab=V.int 1)=b
   have npd:lp≠d:=λe=>by rw[e,qd]at hlp;cases hlp
   have fr6:Fr H d (upd H5 d (.dK (src n6 sd t6))):=fr5.at_d
   have hd6:upd H5 d (.dK (src n6 sd t6)) d=some (.dK (src n6 sd t6)):=qd
   have hz6:upd H5 d (.dK (src n6 sd t6)) lz=some (.lst (zs.map V.str)):=by rw[qj nzd];exact hz5
   have hp6:upd H5 d (.dK (src n6 sd t6)) lp=some (.lst (ps.map V.ref)):=by rw[qj npd];exact hlp'
   have pat6:ZD (upd H5 d (.dK (src n6 sd t6))) ps ks:=⟨pat.1,λi p k e1 e2=>by
     have h1:=pat.2 i p k e1 e2
     have:p≠d:=λe=>by rw[e,hd5]at h1;cases h1
     rw[qj this]
     exact h1⟩
   generalize upd H5 d (.dK (src n6 sd t6))=H6 at fr6 hd6 hz6 hp6 pat6
   refine⟨_,rfl,m,rfl,by omega,λlo hlo=>?_⟩
   refine XM ?_
   dsimp only[List.set]
   refine U2 (λc H'=>c=b/\H'=upd H6 lo (.lst (RG m))) (λσ' H'=>∃lo os,σ'=[some (.ref d),some (.int mo),some (.int m),some (.ref lz),some (.int sh),some (.ref lp),some (.bl b),some (.ref lo),none,none,none]/\qm H6 H'/\H6 lo=none/\H' lo=some (.lst (oL os))/\(os=zac m\/os=Yy m))
     (λQ k=>⟨_,rfl,b,rfl,k _ _ ⟨rfl,rfl⟩⟩) ?_ ?_ ?_
   . rintro H1 ⟨rfl,rfl⟩ D' k
     refine⟨_,rfl,m,rfl,by omega,by omega,λD hD=>?_⟩
     refine JQ (λi σ' H'=>∃v:Option V,σ'=[v,some (.int m)]/\H'=upd (upd H6 lo (.lst (RG m))) D (.lst (oL ((zac i).map λk=>k*5 % m)))) ⟨none,rfl,rfl⟩ ?_ ?_
     . rintro i σ' H' hi ⟨v,rfl,rfl⟩
       rw[zbY]
       have hi:i < m:=by simpa using hi
       refine⟨_,rfl,_,_,rfl,rfl,.inl ⟨by omega,by omega⟩,_,rfl,_,_,rfl,rfl,(by show (0:Int) < m;omega),_,qd,?_,_,rfl,?_⟩
       . rw[tj,tj,zan]
         exact qo (by omega)
       . rw[jI,zco,tN,oL,oL,tN]
         rfl
     . rintro σ' H' ⟨v,rfl,rfl⟩
       have hD6:H6 D=none:=by
         by_cases e:D=lo
         . rw[e];exact hlo
         . rw[qj e]at hD;exact hD
       exact k _ _ ⟨D,Yy m,rfl,λa u h=>qr (qr h hlo) hD,hD6,qd,.inr rfl⟩
   . rintro H1 ⟨rfl,rfl⟩
     exact⟨lo,zac m,rfl,qk hlo,hlo,qd,.inl rfl⟩
   rintro σ' H7 ⟨lo,os,rfl,s7,hlo6,hlo7,hos⟩
   have los:os.length=m:=by
     rcases hos with rfl | rfl
     . exact zan
     . rw[Yy,tj,zan]
   refine U2 (λc H'=>qm H7 H'/\(c=true\/os.Nodup)) (λσ' H'=>∃lo os,σ'=[some (.ref d),some (.int mo),some (.int m),some (.ref lz),some (.int sh),some (.ref lp),some (.bl b),some (.ref lo),none,none,none]/\qm H6 H'/\H' lo=some (.lst (oL os))/\Us m os)
     ?_ ?_ ?_ ?_
   . intro Q k
     refine⟨_,rfl,lo,os.map (λk=>((k:Nat):Int)),rfl,.of (by rw[<-Gm];exact hlo7),by rw[tj,los];omega,λl S hl=>?_⟩
     refine⟨l,S,_,rfl,qd,_,rfl,_,_,rfl,rfl,_,rfl,k _ _ ⟨qk hl,?_⟩⟩
     by_cases h:(((firstMet (λi=>(os.map λk=>((k:Nat):Int)).getD i 0) (os.map λk=>((k:Nat):Int)).length).length:Nat):Int) < (m:Int)
     . exact .inl (decide_eq_true h)
     . exact .inr (N0 (by rw[los];omega))
   . rintro H1 ⟨s1,_⟩ D' k
     refine⟨_,rfl,m,rfl,by omega,λl hl=>?_⟩
     exact k _ _ ⟨l,zI m,rfl,λa u h=>qr (s1 _ _ (s7 _ _ h)) hl,qd,UM m⟩
   . rintro H1 ⟨s1,h⟩
     have h:os.Nodup:=h.resolve_left (by decide)
     refine⟨lo,os,rfl,λa u h=>s1 _ _ (s7 _ _ h),s1 _ _ hlo7,?_⟩
     rcases hos with rfl | rfl
     . exact wk m
     . exact VT (by omega) m0 h
   rintro σ' H8 ⟨lo,os,rfl,s8,hlo8,ho⟩
   refine⟨by show 0<=sizeLine;decide,λlr hlr=>⟨_,rfl,lo,rfl,⟨_,.of (qr hlo8 hlr)⟩,?_⟩⟩
   refine jw (K:=K) (a:=lo) (xs:=oL os) (λi σ' H'=>∃(v9 v10:Option V) (qs:List Addr),σ'=[some (.ref d),some (.int mo),some (.int m),some (.ref lz),some (.int sh),some (.ref lp),some (.bl b),some (.ref lo),some (.ref lr),v9,v10]/\
     qm H8 H'/\H' lr=some (.lst (qs.map V.ref))/\j0 H' qs ((os.take i).map (JF zs ks b)))
     ⟨none,none,[],rfl,qk hlr,qd,rfl,λi p r e=>(nomatch e)⟩ (λi σ' H' _ ⟨_,_,_,_,s,_⟩=>.of (s _ _ hlo8)) ?_ ?_
   . rintro i x σ' H' hx ⟨v9,v10,qs,rfl,s9,hlr9,rat⟩
     have hix:i < os.length:=by
       have:=(tE.mp hx).1
       rwa [tj]at this
     obtain⟨k,hk⟩:∃k,os[i]?=some k:=⟨_,tH hix⟩
     have ex:x=V.int ((k:Nat):Int):=by
       rw[tI,hk]at hx
       exact(tO.inj hx).symm
     subst ex
     have hkm:k < m:=ho.lt k (tZ hk)
     refine⟨_,rfl,lp,rfl,⟨_,.of (s9 _ _ (s8 _ _ hp6))⟩,λD hD=>?_⟩
     have nDr:D≠lr:=λe=>by rw[e,hlr9]at hD;cases hD
     have hz9:H' lz=some (.lst (zs.map V.str)):=s9 _ _ (s8 _ _ hz6)
     have pat9:ZD H' ps ks:=pat6.mono λa u h=>s9 _ _ (s8 _ _ h)
     refine jW (K:=K) (a:=lp) (xs:=ps.map V.ref) (λj σ'' H''=>∃v0 v1:Option V,σ''=[v0,v1,some (.int k),some (.ref lz)]/\H''=upd H' D (.lst (((Wg (ks.take j) k).map (QP zs)).map V.str))) ⟨none,none,rfl,rfl⟩
       (λj σ'' G _ ⟨_,_,_,e⟩=>e▸.of (qr (s9 _ _ (s8 _ _ hp6)) hD)) ?_ ?_
     . rintro j y σ'' G hy ⟨v0,v1,rfl,rfl⟩
       have hj:j < ps.length:=by
         have:=(tE.mp hy).1
         rwa [tj]at this
       obtain⟨p,hp⟩:∃p,ps[j]?=some p:=⟨_,tH hj⟩
       obtain⟨kk,hkk⟩:∃p,ks[j]?=some p:=⟨_,tH (by rw[<-pat9.1];exact hj)⟩
       have ey:y=V.ref p:=by
         rw[tI,hp]at hy
         exact(tO.inj hy).symm
       subst ey
       have hpt:=pat9.2 j p kk hp hkk
       have hk2:kk.2 < zs.length:=by rw[zl];exact(klt kk (tZ hkk)).2
       refine⟨p,_,rfl,.of (qr hpt hD),rfl,_,_,rfl,_,_,rfl,rfl,_,rfl,_,rfl,rfl,_,rfl,?_⟩
       rw[xi k hkk]
       by_cases e:kk.1=k
       . have e1:decide (V.int ((kk.1:Nat):Int)=V.int ((k:Nat):Int))=true:=decide_eq_true (by rw[e])
         rw[e1,if_pos e]
         refine Qe ⟨_,rfl,_,rfl,lz,_,_,_,rfl,rfl,.of (qr hz9 hD),RE hk2,_,qd,?_,_,_,rfl,?_⟩
         . rw[tj,tj]
           refine qo ?_
           have h1:(Wg (ks.take j) k).length<=(ks.take j).length:=by
             unfold Wg
             rw[tj]
             exact zao _ _
           rw[tS]at h1
           omega
         . rw[jI,tN,tN]
           rfl
       . have e1:decide (V.int ((kk.1:Nat):Int)=V.int ((k:Nat):Int))=false:=decide_eq_false (by
           intro z
           have:=V.int.inj z
           omega)
         rw[e1,if_neg e,zax]
         exact jB ⟨_,_,rfl,rfl⟩
     . rintro σ'' G ⟨v0,v1,rfl,rfl⟩
       rw[tj,pat9.1,tK (tF _)]
       refine XM ?_
       dsimp only[List.set]
       refine U2 (λc G=>c=b/\G=upd H' D (.lst (((Wg ks k).map (QP zs)).map V.str)))
         (λσ' G=>σ'=[some (.ref d),some (.int mo),some (.int m),some (.ref lz),some (.int sh),some (.ref lp),some (.bl b),some (.ref lo),some (.ref lr),some (.int k),some (.ref D)]/\G=upd H' D (.lst ((JF zs ks b k).2.map V.str)))
         (λQ k=>⟨_,rfl,b,rfl,k _ _ ⟨rfl,rfl⟩⟩) ?_ ?_ ?_
       . rintro H1 ⟨rfl,rfl⟩ D' kk
         refine⟨_,rfl,.inl ⟨rfl,_,.of qd⟩,D,_,rfl,rfl,qd,?_⟩
         refine kk _ _ ⟨rfl,?_⟩
         rw[jI,JF,if_pos rfl,List.map_reverse]
       . rintro H1 ⟨rfl,rfl⟩
         exact⟨rfl,rfl⟩
       rintro σ' G ⟨rfl,rfl⟩
       have hlrG:upd H' D (.lst ((JF zs ks b k).2.map V.str)) lr=some (.lst (qs.map V.ref)):=by rw[qj (Ne.symm nDr)];exact hlr9
       have sG:qm H' (upd H' D (.lst ((JF zs ks b k).2.map V.str))):=qk hD
       refine⟨_,rfl,.inl ⟨rfl,_,.of hlrG⟩,_,rfl,_,rfl,lz,_,_,_,rfl,rfl,.of (sG _ _ hz9),RE (by rw[zl];exact hkm),_,rfl,D,_,rfl,.inl ⟨.of qd,λlq hq=>⟨by show 2<=sizeLine;decide,λlt hlt=>?_⟩⟩⟩
       have hqlr:=qr (o':=HO.tup ((JF zs ks b k).2.map V.str)) hlrG hq
       have htlr:=qr (o':=HO.tup [V.str (QP zs k),V.ref lq]) hqlr hlt
       refine⟨lr,_,_,rfl,rfl,htlr,?_,_,_,qs++[lt],rfl,?_,?_,?_⟩
       . rw[tj,rat.1,tj,tS]
         refine qo ?_
         have:=ho.len
         omega
       . exact qm.upd (λa u h=>qr (qr (sG _ _ (s9 _ _ h)) hq) hlt) hlr
       . rw[tN]
         exact qd
       . have e:os.take (i+1)=os.take i++[k]:=by rw[tR,hk];rfl
         rw[e,tN]
         refine j0.upd_lst ?_ htlr
         exact j0.snoc (q:=lq) (rat.mono λa u h=>qr (qr (sG _ _ h) hq) hlt) qd (qr qd hlt)
   . rintro σ' H' ⟨v9,v10,qs,rfl,s9,hlr9,rat⟩
     have e:(oL os).length=os.length:=tj ..
     rw[e,tK (tF _)]at rat
     have h8:H6 lr=none:=by
       cases z:H6 lr with
       | none=>rfl
       | some u=>rw[s8 _ _ z]at hlr;cases hlr
     refine⟨_,rfl,q lr qs _ n6 t6 H' (fr6.fresh hd6 h8) hlr9 rat (yO b zl zn znd kord klt k40 ho) ?_ ?_ (s9 _ _ (s8 _ _ hd6)) (fr6.same λa u h=>s9 _ _ (s8 _ _ h))⟩
     . rw[tj,ho.len];exact m0
     . rw[tj,ho.len];exact m1
end
open PySem L2 PyProof.Rows
abbrev Wi:Stmt:=top 24
abbrev Xo:Stmt:=top 25
abbrev vP:Stmt:=top 26
abbrev Kx:Stmt:=top 27
abbrev vQ:Stmt:=top 28
abbrev Kz:Stmt:=top 29
abbrev VL:Stmt:=top 30
theorem ME (x:Str):[x].Nodup:=by simp
structure QE (K:PySem.W.Frag) (mg:Str->Option Value):Prop where
 isi:mg "isinstance"=none
 str:mg "str"=none
 all:mg "all"=none
 enu:mg "enumerate"=none
 sum:mg "sum"=none
 lets:∃t,mg "LETTERS"=some (.str kB t)
 lgst:∃t,mg "LONGEST_NAME"=some (.int 8 t)
 mp:∃t,mg "MOST_PLACES"=some (.int 14 t)
 mr:∃t,mg "MOST_ROADS"=some (.int 40 t)
 kss:zaT K (.type "str") (.type "str")=some true
 ktt:zaT K (.type "tuple") (.type "tuple")=some true
 kll:zaT K (.type "list") (.type "list")=some true
theorem Mg (c:Nat):(!(Builtin.Str.occurrences kB ⟨#[c]⟩ 0 kB.length 1).isEmpty)=jX c:=by
 rw[StrLaws.found_one,uP]
 unfold jX
 rw[zbg]
 simp only[decide_eq_true_eq,zau,tJ,zaG]
 constructor
 . rintro⟨k,hk,rfl⟩
   omega
 . intro h
   exact⟨c - 97,by omega,by omega⟩
theorem uO (f:Nat->Bool) (l:List Nat) (i c:Nat) (h:l[i]?=some c):(l.take i).map f++[f c]=(l.take (i+1)).map f:=by
 rw[tR,h]
 simp
def Kf:Sp:=λvs H Q _=>∃z,vs=[.str z]/\jN z=true/\∀H',qm H H'->Q (.bl true) H'
def M0:Sp:=λvs H Q _=>∃(q:Addr) (zs:List Str),vs=[.ref q]/\H q=some (.tup (zs.map V.str))/\(∀z∈zs,jN z=true)/\zs.length<=1000/\∀H',qm H H'->Q (.bl true) H'
def RJ:Sp:=λvs H Q _=>∃(p q:Addr) (r:Str×List Str),vs=[.ref p]/\H p=some (.tup [.str r.1,.ref q])/\H q=some (.tup (r.2.map V.str))/\jN r.1=true/\(∀z∈r.2,jN z=true)/\r.2.length<=1000/\∀H',qm H H'->Q (.bl true) H'
structure jO (H:Hp) (l:Addr) (ps:List Addr) (rs:List (Str×List Str)):Prop where
 at_:H l=some (.lst (ps.map V.ref))
 rows:j0 H ps rs
 good:qu rs
 pos:0 < rs.length
 le:rs.length<=14
theorem jO.mono {H H':Hp} {l:Addr} {ps:List Addr} {rs:List (Str×List Str)} (h:jO H l ps rs) (s:qm H H'):jO H' l ps rs:=⟨s _ _ h.at_,h.rows.mono s,h.good,h.pos,h.le⟩
theorem qu.names {rs:List (Str×List Str)} (h:qu rs):∀r∈rs,∀z∈r.2,jN z=true:=λr hr z hz=>by
 obtain⟨r',hr',rfl⟩:=tJ.mp (h.to r hr z hz)
 exact h.nm r' hr'
theorem qu.len {rs:List (Str×List Str)} (h:qu rs):∀r∈rs,r.2.length<=40:=λr hr=>by
 refine zag ?_ h.few
 have:∀(rs:List (Str×List Str)),r∈rs->r.2.length<=(rs.map λr=>r.2.length).sum:=by
   intro rs
   induction rs with
   | nil=>intro h;cases h
   | cons a rs ih=>
     intro h
     rw[tW,zaV]
     rcases t8.mp h with rfl | h
     . omega
     . have:=ih h
       omega
 exact this rs hr
theorem j0.item {H:Hp} {ps:List Addr} {rs:List (Str×List Str)} (h:j0 H ps rs) {i:Nat} {x:V} (hx:(ps.map V.ref)[i]?=some x):∃p q r,x=.ref p/\rs[i]?=some r/\r∈rs/\H p=some (.tup [.str r.1,.ref q])/\H q=some (.tup (r.2.map V.str)):=by
 rw[tI]at hx
 cases e:ps[i]? with
 | none=>rw[e]at hx;cases hx
 | some p=>
   rw[e]at hx
   have hi:i < rs.length:=by
     have:=(tE.mp e).1
     rw[h.1]at this
     exact this
   obtain⟨q,a,b⟩:=h.2 i p _ e (tH hi)
   exact⟨p,q,_,(tO.inj hx).symm,tH hi,zbI hi,a,b⟩
def zV:Sp:=λvs H Q _=>∃(l:Addr) (ps:List Addr) (rs:List (Str×List Str)),vs=[.ref l]/\jO H l ps rs/\∀H',qm H H'->Q .non H'
def RK:Sp:=λvs H Q _=>∃(l:Addr) (zs:List Str),vs=[.ref l]/\H l=some (.lst (zs.map V.str))/\zs.Nodup/\zs.length<=1000/\∀H',qm H H'->Q .non H'
def xB:Sp:=λvs H Q _=>∃(q l:Addr) (es zs:List Str),vs=[.ref q,.ref l]/\H q=some (.tup (es.map V.str))/\H l=some (.lst (zs.map V.str))/\es.Nodup/\(∀z∈es,z∈zs)/\es.length<=900/\∀H',qm H H'->Q .non H'
theorem Jz {kvs:List (qL×V)} {k:qL} (h:¬k∈kvs.map (·.1)):ji kvs k=none:=by
 cases e:ji kvs k with
 | none=>rfl
 | some v=>exact absurd (u5 e) h
theorem ZB (zs:List Str):(zs.map V.str).all ZO=true:=by
 rw[zcO,zaK]
 intro z _
 rfl
theorem Vh {z:Str} {zs:List Str} (h:z∈zs):Zo (.str z) (zs.map V.str)=true:=by
 unfold Zo
 rw[zbb]
 exact⟨.str z,tJ.mpr ⟨z,h,rfl⟩,by show (z==z)=true;simp⟩
section
variable {P:Program} {w:World} {K:PySem.W.Frag} {mg:Str->Option Value} {base:Heap}
theorem Nq:qp ["thing"] ["thing"] (qh zg):=⟨rfl,rfl,rfl,by decide+kernel,rfl,by decide+kernel,by decide+kernel⟩
theorem W6 {f:Addr} {fd:FuncData} (F:jU K "is_name" "is_name" zg f fd) (B:QF mg) (T:QE K mg):ql P w K mg base qG 1 f fd ["thing"] Kf:=by
 refine F.okJ Nq (λvs H Q E h=>?_) (λcdv A outer s H vs Q E hr h=>?_)
 . obtain⟨x,rfl,_⟩:=h
   rfl
 . obtain⟨z,rfl,hz,q⟩:=h
   obtain⟨tl,hlets⟩:=T.lets
   obtain⟨tg,hlg⟩:=T.lgst
   refine⟨_,qe (qO (Jx (jZ (qF j9 (by rfl) T.isi boot_isinstance (qb (jv 0) (qb (J6 (v:=.ty "str") (by rfl) T.str boot_str rfl) qf))))) (qg (qw Qg)) qC)
     (qe (qO (ZM (qt Q6 (qF J8 (by rfl) B.len boot_len (qb (jv 0) qf)) qi (qB _))
         (Jw (qt zr (qF J8 (by rfl) B.len boot_len (qb (jv 0) qf)) (J5 (v:=.int 8) (by rfl) hlg ⟨_,rfl⟩) (qB _)))).pt (qg (qw Qg)) qC)
     (qg (qw (qF (Yl rfl) (by rfl) T.all boot_all (qb (j6 (N':=["sign"]) (ix:=[none]) rfl ⟨rfl,rfl,rfl,rfl,rfl⟩ (Mb (jv 0)) (λC s2 H2 fp pins=>
       ⟨qv (i:=0) (ME _) rfl (Or.inl rfl),j2,jT yb (jv 0) (J5 (v:=.str kB) (by rfl) hlets ⟨_,rfl⟩) (by with_unfolding_all rfl)⟩)) qf))))),?_⟩
   have hn:=hz
   unfold jN at hn
   simp only[zau,decide_eq_true_eq]at hn
   obtain⟨⟨n1,n8⟩,na⟩:=hn
   have hz':z.length<=sizeLine:=zak (qo (by omega))
   refine⟨_,rfl,_,_,_,_,rfl,rfl,.str z,T.kss,_,rfl,jB ?_⟩
   refine⟨_,rfl,z,rfl,hz',_,_,rfl,rfl,_,rfl,?_⟩
   refine yH (λh=>?_) (λh=>?_)
   . exact absurd (of_decide_eq_true h) (by omega)
   . refine⟨_,rfl,z,rfl,hz',_,_,rfl,rfl,_,rfl,?_⟩
     refine yH (λh2=>?_) (λh2=>?_)
     . exact absurd (of_decide_eq_true h2) (by show ¬(8:Int) < (z.length:Int);omega)
     . refine⟨_,rfl,z,rfl,λD hD=>?_⟩
       refine Ru (λi σ' H'=>∃v,σ'=[v]/\H'=upd H D (.lst (((z.cps.toList.take i).map jX).map V.bl))) ⟨none,rfl,rfl⟩ ?_ ?_
       . rintro i c σ' H' hc ⟨v,rfl,rfl⟩
         refine⟨_,rfl,_,_,rfl,rfl,_,qd,?_,?_⟩
         . rw[tj,tj,tS]
           exact zap (zdi _ _) (qo (show z.cps.toList.length<=1000 by rw[zaB];exact zag n8 (by decide)))
         . refine⟨_,rfl,?_⟩
           rw[jI,Mg]
           have hc':z.cps.toList[i]?=some c:=by simpa using hc
           rw[<-uO jX z.cps.toList i c hc',tN]
           rfl
       . rintro σ' H' ⟨v,rfl,rfl⟩
         refine⟨D,_,rfl,.of qd,?_⟩
         have e0:z.cps.toList.take z.cps.size=z.cps.toList:=tK (by simp)
         have e1:(z.cps.toList.map jX).all id=true:=by rw[zcO];exact na
         rw[e0,e1]
         exact q _ (qk hD)
theorem Nl:qp ["thing"] ["thing"] (qh Wi):=⟨rfl,rfl,rfl,by decide+kernel,rfl,by decide+kernel,by decide+kernel⟩
theorem KW {f fN:Addr} {fd fdN:FuncData} (F:jU K "is_tuple_of_names" "is_tuple_of_names" Wi f fd) (B:QF mg) (G:Qv mg) (T:QE K mg) (hN:qY K mg "is_name" zg ["thing"] fN fdN):ql P w K mg base qG 2 f fd ["thing"] M0:=by
 have GN:ql P w K mg base qG 1 fN fdN ["thing"] Kf:=W6 hN.fn B T
 refine F.okJ Nl (λvs H Q E h=>?_) (λcdv A outer s H vs Q E hr h=>?_)
 . obtain⟨x,zs,rfl,_⟩:=h
   rfl
 . obtain⟨x,zs,rfl,hx,hz,hl,q⟩:=h
   refine⟨_,qg (qw (Zn (qF j9 (by rfl) T.isi boot_isinstance (qb (jv 0) (qb (J6 (v:=.ty "tuple") (by rfl) G.tup boot_tuple rfl) qf)))
     (Yj (qF (Yl rfl) (by rfl) T.all boot_all (qb (j6 (N':=["part"]) (ix:=[none]) rfl ⟨rfl,rfl,rfl,rfl,rfl⟩ (Yi (jv 0)) (λC s2 H2 fp pins=>
       ⟨qv (i:=0) (ME _) rfl (Or.inl rfl),j2,qH hN GN hr (by rfl) (qb (jv 0) qf)⟩)) qf))))),?_⟩
   refine⟨_,rfl,_,_,_,_,rfl,rfl,.tup hx,T.ktt,_,rfl,Qe ⟨_,rfl,x,rfl,⟨_,.of hx⟩,λD hD=>?_⟩⟩
   refine kx (K:=K) (a:=x) (xs:=zs.map V.str) (λi σ' H'=>∃v,σ'=[v]/\qm H H'/\H' D=some (.lst ((zdy i true).map V.bl))) ⟨none,rfl,qk hD,qd⟩ (λi σ' H' _ ⟨_,_,s,_⟩=>.of (s _ _ hx)) ?_ ?_
   . rintro i y σ' H' hy ⟨v,rfl,s1,hD1⟩
     rw[tI]at hy
     cases e:zs[i]? with
     | none=>rw[e]at hy;cases hy
     | some z=>
       rw[e]at hy
       obtain rfl:=(tO.inj hy).symm
       have hi:=(tE.mp e).1
       refine⟨_,rfl,z,rfl,hz z (tZ e),λH2 s2=>⟨_,s2 _ _ hD1,?_,_,rfl,?_,?_⟩⟩
       . rw[tj,zbQ]
         exact qo (by omega)
       . exact qm.upd (s1.trans s2) hD
       . rw[qd,List.replicate_succ',tN]
         rfl
   . rintro σ' H' ⟨v,rfl,s1,hD1⟩
     refine⟨D,_,rfl,.of hD1,?_⟩
     have e:(zdy (zs.map V.str).length true).all id=true:=by simp
     rw[e]
     exact q _ s1
theorem Ks:qp ["thing"] ["thing"] (qh Xo):=⟨rfl,rfl,rfl,by decide+kernel,rfl,by decide+kernel,by decide+kernel⟩
theorem wM {f fN fP:Addr} {fd fdN fdP:FuncData} (F:jU K "is_row" "is_row" Xo f fd) (B:QF mg) (G:Qv mg) (T:QE K mg) (hN:qY K mg "is_name" zg ["thing"] fN fdN) (hP:qY K mg "is_tuple_of_names" Wi ["thing"] fP fdP):ql P w K mg base qG 3 f fd ["thing"] RJ:=by
 have GN:ql P w K mg base qG 1 fN fdN ["thing"] Kf:=W6 hN.fn B T
 have GP:ql P w K mg base qG 2 fP fdP ["thing"] M0:=KW hP.fn B G T hN
 refine F.okJ Ks (λvs H Q E h=>?_) (λcdv A outer s H vs Q E hr h=>?_)
 . obtain⟨p,x,r,rfl,_⟩:=h
   rfl
 . obtain⟨p,x,r,rfl,hp,hx,hn,hz,hl,q⟩:=h
   refine⟨_,qe (qO (ZM (Jx (jZ (qF j9 (by rfl) T.isi boot_isinstance (qb (jv 0) (qb (J6 (v:=.ty "tuple") (by rfl) G.tup boot_tuple rfl) qf)))))
       (Jw (qt wp (qF qR (by rfl) B.len boot_len (qb (jv 0) qf)) qi (qB _)))).pt q4 qC)
     (qg (qw (Zn (qH hN GN (hr.mono (by decide)) (by rfl) (qb (qM qU (jv 0) qi (λ_ _=>rfl)) qf)) (Yj (qH hP GP hr (by rfl) (qb (qM qU (jv 0) qi (λ_ _=>rfl)) qf)))))),?_⟩
   refine⟨_,rfl,_,_,_,_,rfl,rfl,.tup hp,T.ktt,_,rfl,jB ⟨_,rfl,p,_,rfl,.inr (.of hp),rfl,_,rfl,jB ?_⟩⟩
   refine⟨_,rfl,p,_,0,_,rfl,rfl,.of hp,rfl,r.1,rfl,hn,λH1 s1=>⟨_,rfl,Qe ?_⟩⟩
   exact⟨_,rfl,p,_,1,_,rfl,rfl,.of (s1 _ _ hp),rfl,x,r.2,rfl,s1 _ _ hx,hz,hl,λH2 s2=>q H2 (s1.trans s2)⟩
end
open PySem L2 PyProof.Rows
section
variable {P:Program} {w:World} {K:PySem.W.Frag} {mg:Str->Option Value} {base:Heap}
abbrev qax:List Str:=["rows","number","row"]
theorem UI:qp qax ["rows"] (qh vP):=⟨rfl,rfl,rfl,by decide+kernel,rfl,by decide+kernel,by decide+kernel⟩
theorem K8 {f fN fP fR:Addr} {fd fdN fdP fdR:FuncData} (F:jU K "need_form" "need_form" vP f fd) (B:QF mg) (G:Qv mg) (T:QE K mg) (hN:qY K mg "is_name" zg ["thing"] fN fdN) (hP:qY K mg "is_tuple_of_names" Wi ["thing"] fP fdP)
   (hR:qY K mg "is_row" Xo ["thing"] fR fdR):ql P w K mg base qG 4 f fd ["rows"] zV:=by
 have GR:ql P w K mg base qG 3 fR fdR ["thing"] RJ:=wM hR.fn B G T hN hP
 obtain⟨tm,hmp⟩:=T.mp
 refine F.okJ UI (λvs H Q E h=>?_) (λcdv A outer s H vs Q E hr h=>?_)
 . obtain⟨l,ps,rs,rfl,_⟩:=h
   rfl
 . obtain⟨l,ps,rs,rfl,g,q⟩:=h
   refine⟨_,qe (qO (ZM (Jx (jZ (qF j9 (by rfl) T.isi boot_isinstance (qb (jv 0) (qb (J6 (v:=.ty "list") (by rfl) G.lst boot_list rfl) qf)))))
       (Jw (qt jp (qF qR (by rfl) B.len boot_len (qb (jv 0) qf)) qi (qB _)))).pt q4 qC)
     (qe (qO (qt zr (qF qR (by rfl) B.len boot_len (qb (jv 0) qf)) (J5 (v:=.int 14) (by rfl) hmp ⟨_,rfl⟩) (qB _)) q4 qC)
     (qg (jd PassesOwn.never rfl (YS (by rfl) T.enu (qb (jv 0) qf)) (ZZ rfl (jD (qv (i:=1) UI.nd rfl (Or.inl rfl)) (jD (qv (i:=2) UI.nd rfl (Or.inl rfl)) J3)))
       (qg (qO (Jx (jZ (qH hR GR hr (by rfl) (qb (jv 2) qf)))) q4 qC))))),?_⟩
   have lp:(ps.map V.ref).length=rs.length:=by rw[tj,g.rows.1]
   refine⟨_,rfl,_,_,_,_,rfl,rfl,.lst g.at_,T.kll,_,rfl,jB ⟨_,rfl,l,_,rfl,.inl (.of g.at_),rfl,_,rfl,?_⟩⟩
   have e0:decide (V.int (((ps.map V.ref).length:Nat):Int)=V.int 0)=false:=decide_eq_false (by
     intro z
     have:=V.int.inj z
     have:=g.pos
     omega)
   rw[e0]
   refine jB ⟨_,rfl,l,_,rfl,.inl (.of g.at_),_,_,rfl,rfl,_,rfl,?_⟩
   have e1:decide ((14:Int) < (((ps.map V.ref).length:Nat):Int))=false:=decide_eq_false (by
     have:=g.le
     omega)
   refine yH (λz=>absurd z (by rw[e1];decide)) (λ_=>?_)
   refine⟨_,rfl,l,rfl,⟨_,.of g.at_⟩,?_⟩
   refine zF (K:=K) (a:=l) (xs:=ps.map V.ref) (λi σ' H'=>∃v1 v2,σ'=[some (.ref l),v1,v2]/\qm H H') ⟨none,none,rfl,qm.refl H⟩ (λi σ' H' _ ⟨_,_,_,s⟩=>.of (s _ _ g.at_)) ?_ ?_
   . rintro i x σ' H' p hx hp ⟨v1,v2,rfl,s1⟩
     have g1:=g.mono (s1.trans (qk (o:=.tup [.int (i:Nat),x]) hp))
     obtain⟨p',q',r,rfl,_,hr',a,b⟩:=g1.rows.item hx
     refine⟨p,_,rfl,.of qd,rfl,_,_,rfl,_,_,rfl,rfl,_,rfl,p',q',r,rfl,a,b,g.good.nm r hr',g.good.names r hr',zag (g.good.len r hr') (by decide),λH2 s2=>⟨_,rfl,jB ⟨_,_,rfl,?_⟩⟩⟩
     exact(s1.trans (qk hp)).trans s2
   . rintro σ' H' ⟨v1,v2,rfl,s1⟩
     exact q H' s1
abbrev qbE:List Str:=["order","ahead","name"]
theorem xK:qp qbE ["order"] (qh Kx):=⟨rfl,rfl,rfl,by decide+kernel,rfl,by decide+kernel,by decide+kernel⟩
theorem QA {zs:List Str} (hn:zs.Nodup) {i:Nat} {z:Str} (e:zs[i]?=some z):¬(Sum.inr z:qL)∈(zs.take i).map Sum.inr:=λh=>by
 obtain⟨y,hy,ey⟩:=tJ.mp h
 have ey':y=z:=Sum.inr.inj ey
 subst ey'
 obtain⟨j,hj⟩:=zbc hy
 have hj1:=(tE.mp hj).1
 rw[tS]at hj1
 have hji:j < i:=by omega
 rw[zbj hji]at hj
 have h1:=(tE.mp hj)
 have h2:=(tE.mp e)
 exact absurd (h1.2.trans h2.2.symm) (zaM.mp hn j i h1.1 h2.1 hji)
theorem W1 {kvs:List (qL×V)} {k:qL} (v:V) (h:ji kvs k=none):(jV kvs k v).map (·.1)=kvs.map (·.1)++[k]:=by
 rw[QJ v h,tN]
 rfl
theorem NJ {f:Addr} {fd:FuncData} (F:jU K "need_own_names" "need_own_names" Kx f fd):ql P w K mg base qG 1 f fd ["order"] RK:=by
 refine F.okJ xK (λvs H Q E h=>?_) (λcdv A outer s H vs Q E hr h=>?_)
 . obtain⟨l,zs,rfl,_⟩:=h
   rfl
 . obtain⟨l,zs,rfl,hl,hn,hz,q⟩:=h
   have hu:=jR hr
   refine⟨_,qe (qy (i:=1) xK.nd rfl (Or.inl rfl) Qs)
     (qg (jd PassesOwn.never rfl (qI (jv 0)) (qv (i:=2) xK.nd rfl (Or.inl rfl))
       (qe (qO (Qr (J7 hu (jv 2) (jv 1))) q4 qC) (qg (jy hu (jv 1) (jv 2) Qg rfl))))),?_⟩
   intro D hD
   refine⟨_,rfl,l,rfl,⟨_,.of (qr hl hD)⟩,?_⟩
   refine jw (K:=K) (a:=l) (xs:=zs.map V.str) (λi σ' H'=>∃v kvs,σ'=[some (.ref l),some (.ref D),v]/\qm H H'/\H' D=some (.dK kvs)/\kvs.map (·.1)=(zs.take i).map Sum.inr) ⟨none,[],rfl,qk hD,qd,rfl⟩ (λi σ' H' _ ⟨_,_,_,s,_⟩=>.of (s _ _ hl)) ?_ ?_
   . rintro i x σ' H' hx ⟨v,kvs,rfl,s1,hD1,ek⟩
     rw[tI]at hx
     cases e:zs[i]? with
     | none=>rw[e]at hx;cases hx
     | some z=>
       rw[e]at hx
       obtain rfl:=(tO.inj hx).symm
       have hi:=(tE.mp e).1
       have ez:ji kvs (Sum.inr z:qL)=none:=Jz (by rw[ek];exact QA hn e)
       have gz:j1 H' D (.str z) none:=by
         have:=j1.k (k:=(Sum.inr z:qL)) hD1
         rw[ez]at this
         exact this
       have lk:kvs.length < sizeLine:=by
         have:=congrArg zaz ek
         rw[tj,tj,tS]at this
         exact qo (by omega)
       refine⟨_,rfl,_,rfl,D,none,rfl,gz,_,rfl,jB ?_⟩
       refine⟨_,rfl,_,rfl,D,_,rfl,Ji.k (k:=(Sum.inr z:qL)) hD1 lk,_,_,rfl,qm.upd s1 hD,qd,?_⟩
       rw[W1 _ ez,ek,tR,e,tN]
       rfl
   . rintro σ' H' ⟨v,kvs,rfl,s1,_⟩
     exact q H' s1
abbrev qay:List Str:=["ends","order","ahead","name"]
theorem UJ:qp qay ["ends","order"] (qh vQ):=⟨rfl,rfl,rfl,by decide+kernel,rfl,by decide+kernel,by decide+kernel⟩
theorem K9 {f:Addr} {fd:FuncData} (F:jU K "need_ends" "need_ends" vQ f fd):ql P w K mg base qG 1 f fd ["ends","order"] xB:=by
 refine F.okJ UJ (λvs H Q E h=>?_) (λcdv A outer s H vs Q E hr h=>?_)
 . obtain⟨x,l,es,zs,rfl,_⟩:=h
   rfl
 . obtain⟨x,l,es,zs,rfl,hx,hl,hn,hin,hz,q⟩:=h
   have hu:=jR hr
   refine⟨_,qe (qy (i:=2) UJ.nd rfl (Or.inl rfl) Qs)
     (qg (jd PassesOwn.never rfl (Yi (jv 0)) (qv (i:=3) UJ.nd rfl (Or.inl rfl))
       (qe (qO (qt QU (jv 3) (jv 1) (by with_unfolding_all rfl)) q4 qC)
       (qe (qO (Qr (J7 hu (jv 3) (jv 2))) q4 qC) (qg (jy hu (jv 2) (jv 3) Qg rfl)))))),?_⟩
   intro D hD
   refine⟨_,rfl,x,rfl,⟨_,.of (qr hx hD)⟩,?_⟩
   refine YY (K:=K) (a:=x) (xs:=es.map V.str) (λi σ' H'=>∃v kvs,σ'=[some (.ref x),some (.ref l),some (.ref D),v]/\qm H H'/\H' D=some (.dK kvs)/\kvs.map (·.1)=(es.take i).map Sum.inr) ⟨none,[],rfl,qk hD,qd,rfl⟩ (λi σ' H' _ ⟨_,_,_,s,_⟩=>.of (s _ _ hx)) ?_ ?_
   . rintro i y σ' H' hy ⟨v,kvs,rfl,s1,hD1,ek⟩
     rw[tI]at hy
     cases e:es[i]? with
     | none=>rw[e]at hy;cases hy
     | some z=>
       rw[e]at hy
       obtain rfl:=(tO.inj hy).symm
       have hi:=(tE.mp e).1
       have ez:ji kvs (Sum.inr z:qL)=none:=Jz (by rw[ek];exact QA hn e)
       have gz:j1 H' D (.str z) none:=by
         have:=j1.k (k:=(Sum.inr z:qL)) hD1
         rw[ez]at this
         exact this
       have lk:kvs.length < sizeLine:=by
         have:=congrArg zaz ek
         rw[tj,tj,tS]at this
         exact qo (by omega)
       refine⟨_,rfl,_,rfl,l,_,rfl,.inl (.of (s1 _ _ hl)),rfl,ZB zs,_,rfl,?_⟩
       rw[Vh (hin z (tZ e))]
       refine jB ⟨_,rfl,_,rfl,D,none,rfl,gz,_,rfl,jB ?_⟩
       refine⟨_,rfl,_,rfl,D,_,rfl,Ji.k (k:=(Sum.inr z:qL)) hD1 lk,_,_,rfl,qm.upd s1 hD,qd,?_⟩
       rw[W1 _ ez,ek,tR,e,tN]
       rfl
   . rintro σ' H' ⟨v,kvs,rfl,s1,_⟩
     exact q H' s1
abbrev qbI:List Str:=["rows","many"]
theorem RP:qp qbI ["rows"] (qh Kz):=⟨rfl,rfl,rfl,by decide+kernel,rfl,by decide+kernel,by decide+kernel⟩
theorem NO {f:Addr} {fd:FuncData} (F:jU K "need_few_roads" "need_few_roads" Kz f fd) (B:QF mg) (T:QE K mg):ql P w K mg base qG 1 f fd ["rows"] zV:=by
 obtain⟨tm,hmr⟩:=T.mr
 refine F.okJ RP (λvs H Q E h=>?_) (λcdv A outer s H vs Q E hr h=>?_)
 . obtain⟨l,ps,rs,rfl,_⟩:=h
   rfl
 . obtain⟨l,ps,rs,rfl,g,q⟩:=h
   refine⟨_,qe (qy (i:=1) RP.nd rfl (Or.inl rfl) (qF (WA rfl) (by rfl) T.sum boot_sum (qb (j6 (N':=["row"]) (ix:=[none]) (te:=tCB (λxs H Q=>∃p ys,xs=[.ref p]/\(SqL K H p ys\/Y5 K H p ys)/\Q (.int ys.length) H) (jo (zR (zo K) (q5 0) (tC (.int 1))) Jj)) rfl ⟨rfl,rfl,rfl,rfl,rfl⟩ (qI (jv 0)) (λC s2 H2 fp pins=>
       ⟨qv (i:=0) (ME _) rfl (Or.inl rfl),j2,qF qR (by rfl) B.len boot_len (qb (qM qU (jv 0) qi (λ_ _=>rfl)) qf)⟩)) qf)))
     (qg (qO (qt zr (jv 1) (J5 (v:=.int 40) (by rfl) hmr ⟨_,rfl⟩) (qB _)) q4 qC)),?_⟩
   refine⟨_,rfl,l,rfl,⟨_,.of g.at_⟩,λD hD=>?_⟩
   refine jW (K:=K) (a:=l) (xs:=ps.map V.ref) (λi σ' H'=>∃v,σ'=[v]/\H'=upd H D (.lst (((rs.take i).map λr=>r.2.length).map λn=>V.int ((n:Nat):Int)))) ⟨none,rfl,rfl⟩ (λi σ' H' _ ⟨_,_,e⟩=>e▸.of (qr g.at_ hD)) ?_ ?_
   . rintro i x σ' H' hx ⟨v,rfl,rfl⟩
     obtain⟨p',q',r,rfl,er,hr',a,b⟩:=g.rows.item hx
     have hi:=(tE.mp er).1
     refine⟨_,rfl,p',_,1,_,rfl,rfl,.of (qr a hD),rfl,q',_,rfl,.inr (.of (qr b hD)),_,qd,?_,_,rfl,?_⟩
     . rw[tj,tj,tS]
       have:=g.le
       exact qo (by omega)
     . rw[jI,tR,er,tN,tN,tj]
       rfl
   . rintro σ' H' ⟨v,rfl,rfl⟩
     have e:rs.take (ps.map V.ref).length=rs:=tK (by rw[tj,g.rows.1];exact tF _)
     rw[e]
     refine⟨D,_,rfl,.of qd,zap g.good.few (by decide),?_⟩
     refine⟨_,rfl,_,_,rfl,rfl,_,rfl,?_⟩
     have:=g.good.few
     refine yH (λz=>absurd (of_decide_eq_true z) ?_) (λ_=>q _ (qk hD))
     show ¬(40:Int) < _
     omega
abbrev qau:List Str:=["rows","order","row"]
theorem UH:qp qau ["rows"] (qh VL):=⟨rfl,rfl,rfl,by decide+kernel,rfl,by decide+kernel,by decide+kernel⟩
structure RC (K:PySem.W.Frag) (mg:Str->Option Value):Prop where
 nm:∃f fd,qY K mg "is_name" zg ["thing"] f fd
 tn:∃f fd,qY K mg "is_tuple_of_names" Wi ["thing"] f fd
 rw:∃f fd,qY K mg "is_row" Xo ["thing"] f fd
 fo:∃f fd,qY K mg "need_form" vP ["rows"] f fd
 ow:∃f fd,qY K mg "need_own_names" Kx ["order"] f fd
 en:∃f fd,qY K mg "need_ends" vQ ["ends","order"] f fd
 fw:∃f fd,qY K mg "need_few_roads" Kz ["rows"] f fd
theorem K3 {f:Addr} {fd:FuncData} (F:jU K "need_rows" "need_rows" VL f fd) (B:QF mg) (G:Qv mg) (T:QE K mg) (N:RC K mg):ql P w K mg base qG 5 f fd ["rows"] zV:=by
 obtain⟨fN,fdN,hN⟩:=N.nm
 obtain⟨fP,fdP,hP⟩:=N.tn
 obtain⟨fR,fdR,hR⟩:=N.rw
 obtain⟨fF,fdF,hF⟩:=N.fo
 obtain⟨fO,fdO,hO⟩:=N.ow
 obtain⟨fE,fdE,hE⟩:=N.en
 obtain⟨fW,fdW,hW⟩:=N.fw
 have GF:ql P w K mg base qG 4 fF fdF ["rows"] zV:=K8 hF.fn B G T hN hP hR
 have GO:ql P w K mg base qG 1 fO fdO ["order"] RK:=NJ hO.fn
 have GE:ql P w K mg base qG 1 fE fdE ["ends","order"] xB:=K9 hE.fn
 have GW:ql P w K mg base qG 1 fW fdW ["rows"] zV:=NO hW.fn B T
 refine F.okJ UH (λvs H Q E h=>?_) (λcdv A outer s H vs Q E hr h=>?_)
 . obtain⟨l,ps,rs,rfl,_⟩:=h
   rfl
 . obtain⟨l,ps,rs,rfl,g,q⟩:=h
   refine⟨_,qe (jC (qH hF GF hr (by rfl) (qb (jv 0) qf)))
     (qe (Jb (i:=1) (N':=["row"]) (ix:=[none]) (te:=zR (zo K) (q5 0) (tC (.int 0))) UH.nd rfl (Or.inl rfl) rfl ⟨rfl,rfl,rfl,rfl,rfl⟩ (qI (jv 0)) (λC s2 H2 fp pins=>
       ⟨qv (i:=0) (ME _) rfl (Or.inl rfl),j2,qM qU (jv 0) qi (λ_ _=>rfl)⟩))
     (qe (jC (qH hO GO (hr.mono (by decide)) (by rfl) (qb (jv 1) qf)))
     (qe (jd PassesOwn.never rfl (qI (jv 0)) (qv (i:=2) UH.nd rfl (Or.inl rfl))
       (qg (jC (qH hE GE (hr.mono (by decide)) (by rfl) (qb (qM qU (jv 2) qi (λ_ _=>rfl)) (qb (jv 1) qf))))))
     (qg (jC (qH hW GW (hr.mono (by decide)) (by rfl) (qb (jv 0) qf))))))),?_⟩
   refine⟨_,rfl,l,ps,rs,rfl,g,λH1 s1=>?_⟩
   have g1:=g.mono s1
   refine⟨_,rfl,l,rfl,⟨_,.of g1.at_⟩,λD hD=>?_⟩
   refine jW (K:=K) (a:=l) (xs:=ps.map V.ref) (λi σ' H'=>∃v,σ'=[v]/\H'=upd H1 D (.lst (((rs.take i).map (·.1)).map V.str))) ⟨none,rfl,rfl⟩ (λi σ' H' _ ⟨_,_,e⟩=>e▸.of (qr g1.at_ hD)) ?_ ?_
   . rintro i x σ' H' hx ⟨v,rfl,rfl⟩
     obtain⟨p',q',r,rfl,er,hr',a,b⟩:=g1.rows.item hx
     have hi:=(tE.mp er).1
     refine⟨_,rfl,p',_,0,_,rfl,rfl,.of (qr a hD),rfl,_,qd,?_,_,rfl,?_⟩
     . rw[tj,tj,tS]
       have:=g.le
       exact qo (by omega)
     . rw[jI,tR,er,tN,tN]
       rfl
   . rintro σ' H' ⟨v,rfl,rfl⟩
     have e:rs.take (ps.map V.ref).length=rs:=tK (by rw[tj,g.rows.1];exact tF _)
     rw[e]
     refine⟨_,rfl,D,rs.map (·.1),rfl,qd,g.good.nd,by rw[tj];have:=g.le;omega,λH2 s2=>?_⟩
     have sD:qm H1 H2:=(qk hD).trans s2
     have hD2:H2 D=some (.lst ((rs.map (·.1)).map V.str)):=s2 _ _ qd
     have g2:=g1.mono sD
     refine⟨_,rfl,l,rfl,⟨_,.of g2.at_⟩,?_⟩
     refine jw (K:=K) (a:=l) (xs:=ps.map V.ref) (λi σ' H'=>∃v,σ'=[some (.ref l),some (.ref D),v]/\qm H2 H') ⟨none,rfl,qm.refl H2⟩ (λi σ' H' _ ⟨_,_,s⟩=>.of (s _ _ g2.at_)) ?_ ?_
     . rintro i x σ' H' hx ⟨v,rfl,s3⟩
       obtain⟨p',q',r,rfl,er,hr',a,b⟩:=(g2.mono s3).rows.item hx
       refine⟨_,rfl,p',_,1,_,rfl,rfl,.of a,rfl,_,rfl,q',D,r.2,rs.map (·.1),rfl,b,s3 _ _ hD2,g.good.rd r hr',g.good.to r hr',zag (g.good.len r hr') (by decide),λH4 s4=>⟨_,rfl,s3.trans s4⟩⟩
     . rintro σ' H' ⟨v,rfl,s3⟩
       exact⟨_,rfl,l,ps,rs,rfl,g2.mono s3,λH4 s4=>q H4 (((s1.trans sD).trans s3).trans s4)⟩
end
open PySem L2 PyProof.Rows
abbrev UL:Stmt:=Qt (top 31) 0
abbrev zk:Stmt:=Qt (top 31) 1
abbrev Xq:Stmt:=Qt (top 31) 2
def jH (rs:List (Str×List Str)) (r:Str×List Str):List Str:=(rs.map (·.1)).filter λz=>Zo (.str z) (r.2.map V.str)
def Qi (CG:Addr) (H:Hp) (a:Addr) (rs:List (Str×List Str)):Prop:=∃(dx lo rd:Addr) (kvs:List (qL×V)),H a=some (.ins CG dx [("order",.ref lo),("roads",.ref rd)])/\H lo=some (.lst ((rs.map (·.1)).map V.str))/\H rd=some (.dK kvs)/\
 ∀r∈rs,∃q,ji kvs (Sum.inr r.1)=some (.ref q)/\H q=some (.lst ((jH rs r).map V.str))
theorem Qi.mono {CG:Addr} {H H':Hp} {a:Addr} {rs:List (Str×List Str)} (h:Qi CG H a rs) (s:qm H H'):Qi CG H' a rs:=by
 obtain⟨dx,lo,rd,kvs,h1,h2,h3,h4⟩:=h
 exact⟨dx,lo,rd,kvs,s _ _ h1,s _ _ h2,s _ _ h3,λr hr=>let ⟨q,a,b⟩:=h4 r hr;⟨q,a,s _ _ b⟩⟩
theorem jO.fr {H H':Hp} {l x C dx:Addr} {fs:List (Str×V)} {ps:List Addr} {rs:List (Str×List Str)} (h:jO H l ps rs) (hx:H x=some (.ins C dx fs)) (s:Fr H x H'):jO H' l ps rs:=by
 refine⟨s _ _ h.at_ (λe=>?_),⟨h.rows.1,λi p r e1 e2=>?_⟩,h.good,h.pos,h.le⟩
 . have:=h.at_
   rw[e,hx]at this
   cases this
 . obtain⟨q,a,b⟩:=h.rows.2 i p r e1 e2
   exact⟨q,s _ _ a (λe=>by rw[e,hx]at a;cases a),s _ _ b (λe=>by rw[e,hx]at b;cases b)⟩
structure ML (K:PySem.W.Frag) (mg:Str->Option Value) (CG f:Addr) (fd:FuncData):Prop where
 cl:X1 K CG
 mkr:Mk K CG f
 ns:mg "Ground"=some (.ref CG)
 no:Jh K CG "order"
 nr:Jh K CG "roads"
 fn:jU K "__init__" "Ground.__init__" UL f fd
 bi:jP K fd ["self","rows"] []
theorem nor:¬(Str.ofString "order")=Str.ofString "roads":=by decide+kernel
theorem qbB (v:V):JV (Str.ofString "order") v []=[(Str.ofString "order",v)]:=rfl
theorem qbA (v u:V):JV (Str.ofString "roads") u [(Str.ofString "order",v)]=[(Str.ofString "order",v),(Str.ofString "roads",u)]:=by
 unfold JV
 rw[if_neg nor]
 rfl
theorem lkO (v u:V):([(Str.ofString "order",v),(Str.ofString "roads",u)]:List (Str×V)).lookup (Str.ofString "order")=some v:=by simp [zbh]
theorem lkR (v u:V):([(Str.ofString "order",v),(Str.ofString "roads",u)]:List (Str×V)).lookup (Str.ofString "roads")=some u:=by
 have e:((Str.ofString "roads")==(Str.ofString "order"))=false:=by decide+kernel
 simp [zbh,e]
def YI (CG:Addr):Sp:=λvs H Q _=>∃(x dx l:Addr) (ps:List Addr) (rs:List (Str×List Str)),vs=[.ref x,.ref l]/\jO H l ps rs/\H x=some (.ins CG dx [])/\∀H',Qi CG H' x rs->Fr H x H'->Q .non H'
def za (CG:Addr):Sp:=λvs H Q _=>∃(a:Addr) (rs:List (Str×List Str)),vs=[.ref a]/\Qi CG H a rs/\∀l,H l=none->Q (.ref l) (upd H l (.lst ((rs.map (·.1)).map V.str)))
def Zv (CG:Addr):Sp:=λvs H Q _=>∃(a:Addr) (rs:List (Str×List Str)) (r:Str×List Str),vs=[.ref a,.str r.1]/\Qi CG H a rs/\r∈rs/\jN r.1=true/\∀H1 l,qm H H1->H1 l=none->Q (.ref l) (upd H1 l (.lst ((jH rs r).map V.str)))
section
variable {P:Program} {w:World} {K:PySem.W.Frag} {mg:Str->Option Value} {base:Heap}
abbrev nGI:List Str:=["self","rows","row"]
theorem qad:qp nGI ["self","rows"] (qh UL):=⟨rfl,rfl,rfl,by decide+kernel,rfl,by decide+kernel,by decide+kernel⟩
theorem wO {f fW CG:Addr} {fd fdW:FuncData} (C:ML K mg CG f fd) (B:QF mg) (G:Qv mg) (T:QE K mg) (N:RC K mg) (hW:qY K mg "need_rows" VL ["rows"] fW fdW):ql P w K mg base qG 6 f fd ["self","rows"] (YI CG):=by
 have GW:ql P w K mg base qG 5 fW fdW ["rows"] zV:=K3 hW.fn B G T N
 refine C.fn.okJ qad (λvs H Q E h=>?_) (λcdv A outer s H vs Q E hr h=>?_)
 . obtain⟨x,dx,l,ps,rs,rfl,_⟩:=h
   rfl
 . obtain⟨x,dx,l,ps,rs,rfl,g,hx,q⟩:=h
   have hu:=jR hr
   refine⟨_,qe (jC (qH hW GW hr (by rfl) (qb (jv 1) qf)))
     (qe (Vf (jv 0) (j6 (N':=["row"]) (ix:=[none]) (te:=zR (zo K) (q5 0) (tC (.int 0))) rfl ⟨rfl,rfl,rfl,rfl,rfl⟩ (qI (jv 1)) (λC s2 H2 fp pins=>
       ⟨qv (i:=0) (ME _) rfl (Or.inl rfl),j2,qM qU (jv 0) qi (λ_ _=>rfl)⟩)) rfl)
     (qe (Vf (jv 0) Qs rfl)
     (qg (jd PassesOwn.never rfl (qI (jv 1)) (qv (i:=2) qad.nd rfl (Or.inr rfl))
       (qg (jy hu (Jc (jv 0) rfl) (qM qU (jv 2) qi (λ_ _=>rfl))
         (j6 (N':=["name","row"]) (ix:=[none,some 2]) (tt:=Yo (zR (MC K false) (q5 0) (zR (zo K) (q5 1) (tC (.int 1))))) rfl ⟨rfl,rfl,rfl,rfl,rfl⟩ (qI (Jc (jv 0) rfl)) (λC s2 H2 fp pins=>
           ⟨qv (i:=0) (show (["name","row"]:List Str).Nodup by decide+kernel) rfl (Or.inl rfl),jJ (qt JH (jv 0) (qM qU (jv 1) qi (λ_ _=>rfl)) (by with_unfolding_all rfl)),jv 0⟩)) rfl)))))),?_⟩
   refine⟨_,rfl,l,ps,rs,rfl,g,λH1 s1=>?_⟩
   have g1:=g.mono s1
   have fr1:Fr H x H1:=λb u h _=>s1 _ _ h
   have hx1:=s1 _ _ hx
   refine⟨_,rfl,l,rfl,⟨_,.of g1.at_⟩,λlo hlo=>?_⟩
   have nlx:lo≠x:=λe=>by rw[e,hx1]at hlo;cases hlo
   refine jW (K:=K) (a:=l) (xs:=ps.map V.ref) (λi σ' H'=>∃v,σ'=[v]/\H'=upd H1 lo (.lst (((rs.take i).map (·.1)).map V.str))) ⟨none,rfl,rfl⟩ (λi σ' H' _ ⟨_,_,e⟩=>e▸.of (qr g1.at_ hlo)) ?_ ?_
   . rintro i y σ' H' hy ⟨v,rfl,rfl⟩
     obtain⟨p',q',r,rfl,er,hr',a,b⟩:=g1.rows.item hy
     have hi:=(tE.mp er).1
     refine⟨_,rfl,p',_,0,_,rfl,rfl,.of (qr a hlo),rfl,_,qd,?_,_,rfl,?_⟩
     . rw[tj,tj,tS]
       have:=g.le
       exact qo (by omega)
     . rw[jI,tR,er,tN,tN]
       rfl
   rintro σ' H' ⟨v,rfl,rfl⟩
   have e:rs.take (ps.map V.ref).length=rs:=tK (by rw[tj,g.rows.1];exact tF _)
   rw[e]
   have fr2:Fr H x (upd H1 lo (.lst ((rs.map (·.1)).map V.str))):=fr1.new hlo
   have hlo2:upd H1 lo (.lst ((rs.map (·.1)).map V.str)) lo=some (.lst ((rs.map (·.1)).map V.str)):=qd
   have hx2:upd H1 lo (.lst ((rs.map (·.1)).map V.str)) x=some (.ins CG dx []):=qr hx1 hlo
   generalize upd H1 lo (.lst ((rs.map (·.1)).map V.str))=H2 at fr2 hlo2 hx2
   refine⟨_,rfl,x,CG,dx,[],rfl,hx2,C.cl,C.no,by decide,?_⟩
   rw[qbB]
   intro rd hrd
   have nrx:rd≠x:=λe=>by rw[e,qd]at hrd;cases hrd
   have hrd2:H2 rd=none:=by rw[qj nrx]at hrd;exact hrd
   have nrl:rd≠lo:=λe=>by rw[e,hlo2]at hrd2;cases hrd2
   have hHr:H rd=none:=fr2.fresh hx2 hrd2
   refine⟨_,rfl,x,CG,dx,_,rfl,qr qd hrd,C.cl,C.nr,by show 1 < 1000;decide,?_⟩
   rw[qbA]
   have fr5:Fr H x (upd (upd (upd H2 x (.ins CG dx [("order",.ref lo)])) rd (.dK [])) x (.ins CG dx [("order",.ref lo),("roads",.ref rd)])):=((fr2.at_d).own hHr).at_d
   have g5:=g.fr hx fr5
   refine⟨_,rfl,l,rfl,⟨_,.of g5.at_⟩,?_⟩
   refine jw (K:=K) (a:=l) (xs:=ps.map V.ref) (λi σ' H'=>∃v kvs,σ'=[some (.ref x),some (.ref l),v]/\H' x=some (.ins CG dx [("order",.ref lo),("roads",.ref rd)])/\H' lo=some (.lst ((rs.map (·.1)).map V.str))/\H' rd=some (.dK kvs)/\
     kvs.map (·.1)=((rs.map (·.1)).take i).map Sum.inr/\(∀r∈rs.take i,∃q,ji kvs (Sum.inr r.1)=some (.ref q)/\H' q=some (.lst ((jH rs r).map V.str)))/\Fr H x H')
     ⟨none,[],rfl,qd,?_,?_,rfl,λr h=>(nomatch h),fr5⟩ (λi σ' H' _ ⟨_,_,_,_,_,_,_,_,fr⟩=>.of (g.fr hx fr).at_) ?_ ?_
   . rw[qj nlx,qj (Ne.symm nrl),qj nlx]
     exact hlo2
   . rw[qj nrx]
     exact qd
   . rintro i y σ' H' hy ⟨v,kvs,rfl,hx',hlo',hrd',ek,hv,fr⟩
     have g':=g.fr hx fr
     obtain⟨p,qq,r,rfl,er,hr',a,b⟩:=g'.rows.item hy
     have hi:=(tE.mp er).1
     have hle:=g.le
     refine⟨_,rfl,x,CG,dx,_,_,rfl,hx',C.cl,C.no,lkO _ _,lo,rfl,⟨_,.of hlo'⟩,λD hD=>?_⟩
     refine jW (K:=K) (a:=lo) (xs:=(rs.map (·.1)).map V.str) (λj σ'' H''=>∃v0,σ''=[v0,some (.ref p)]/\H''=upd H' D (.lst ((((rs.map (·.1)).take j).filter λz=>Zo (.str z) (r.2.map V.str)).map V.str))) ⟨none,rfl,rfl⟩
       (λj σ'' H'' _ ⟨_,_,e⟩=>e▸.of (qr hlo' hD)) ?_ ?_
     . rintro j y σ'' H'' hy ⟨v0,rfl,rfl⟩
       rw[tI]at hy
       cases e:(rs.map (·.1))[j]? with
       | none=>rw[e]at hy;cases hy
       | some z=>
         rw[e]at hy
         obtain rfl:=(tO.inj hy).symm
         refine⟨_,rfl,_,rfl,p,_,1,_,rfl,rfl,.of (qr a hD),rfl,qq,_,rfl,.inr (.of (qr b hD)),rfl,ZB _,_,rfl,?_⟩
         have et:((rs.map (·.1)).take (j+1)).filter (λz=>Zo (.str z) (r.2.map V.str))=((rs.map (·.1)).take j).filter (λz=>Zo (.str z) (r.2.map V.str))++if Zo (.str z) (r.2.map V.str)=true then [z] else []:=by
           rw[tR,e,zaO]
           congr 1
           cases ei:Zo (.str z) (r.2.map V.str)
           . simp [ei]
           . simp [ei]
         rw[et]
         show if Zo (.str z) (r.2.map V.str)=true then _ else _
         cases ei:Zo (.str z) (r.2.map V.str) with
         | true=>
           refine Qe ⟨_,rfl,_,qd,?_,_,rfl,?_⟩
           . rw[tj]
             refine qo (zag (zao _ _) ?_)
             rw[tS,tj]
             omega
           . rw[jI,if_pos rfl,tN]
             rfl
         | false=>
           refine jB ⟨_,rfl,?_⟩
           rw[if_neg tP,zax]
     . rintro σ'' H'' ⟨v0,rfl,rfl⟩
       have ed:((rs.map (·.1)).take ((rs.map (·.1)).map V.str).length).filter (λz=>Zo (.str z) (r.2.map V.str))=jH rs r:=by
         rw[tj,tK (tF _)]
         rfl
       rw[ed]
       have nD:∀{c:Addr} {o:HO},H' c=some o->c≠D:=λh e=>by rw[e,hD]at h;cases h
       have en:(rs.map (·.1))[i]?=some r.1:=by rw[tI,er];rfl
       have ez:ji kvs (Sum.inr r.1:qL)=none:=Jz (by rw[ek];exact QA g.good.nd en)
       have lk:kvs.length < sizeLine:=by
         have:=congrArg zaz ek
         rw[tj,tj,tS,tj]at this
         exact qo (by omega)
       refine⟨_,rfl,x,CG,dx,_,_,rfl,qr hx' hD,C.cl,C.nr,lkR _ _,_,rfl,p,_,0,_,rfl,rfl,.of (qr a hD),rfl,rd,_,rfl,Ji.k (k:=(Sum.inr r.1:qL)) (qr hrd' hD) lk,?_⟩
       refine⟨_,jV kvs (Sum.inr r.1) (.ref D),rfl,?_,?_,qd,?_,λr' hr2=>?_,?_⟩
       . rw[qj (Ne.symm nrx)];exact qr hx' hD
       . rw[qj (Ne.symm nrl)];exact qr hlo' hD
       . rw[W1 _ ez,ek,tR,en,tN]
         rfl
       . rw[tR,er]at hr2
         rcases tV.mp hr2 with h | h
         . obtain⟨q1,a1,b1⟩:=hv r' h
           refine⟨q1,?_,?_⟩
           . rw[j3,if_neg]
             . exact a1
             . intro z
               rw[z,ez]at a1
               cases a1
           . have n1:q1≠rd:=λe=>by rw[e,hrd']at b1;cases b1
             rw[qj n1]
             exact qr b1 hD
         . have er':r'=r:=by simpa using h
           subst er'
           refine⟨D,?_,?_⟩
           . rw[j3,if_pos rfl]
           . rw[qj (Ne.symm (nD hrd'))]
             exact qd
       . exact(fr.new hD).own hHr
   . rintro σ' H' ⟨v,kvs,rfl,hx',hlo',hrd',ek,hv,fr⟩
     have e:rs.take (ps.map V.ref).length=rs:=tK (by rw[tj,g.rows.1];exact tF _)
     rw[e]at hv
     exact q H' ⟨dx,lo,rd,kvs,hx',hlo',hrd',hv⟩ fr
theorem qbs:qp ["self"] ["self"] (qh zk):=⟨rfl,rfl,rfl,by decide+kernel,rfl,by decide+kernel,by decide+kernel⟩
theorem z8 {f fI CG:Addr} {fd fdI:FuncData} (F:jU K "names" "Ground.names" zk f fd) (C:ML K mg CG fI fdI) (G:Qv mg):ql P w K mg base qG 1 f fd ["self"] (za CG):=by
 refine F.okJ qbs (λvs H Q E h=>?_) (λcdv A outer s H vs Q E hr h=>?_)
 . obtain⟨a,rs,rfl,_⟩:=h
   rfl
 . obtain⟨a,rs,rfl,⟨dx,lo,rd,kvs,h1,h2,h3,h4⟩,q⟩:=h
   refine⟨_,qg (qw (ju Qu (by rfl) G.lst boot_list (qb (Jc (jv 0) rfl) qf))),?_⟩
   exact⟨_,rfl,a,CG,dx,_,_,rfl,h1,C.cl,C.no,lkO _ _,lo,_,rfl,.inl (.of h2),q⟩
abbrev nGF:List Str:=["self","name"]
theorem qbt:qp nGF nGF (qh Xq):=⟨rfl,rfl,rfl,by decide+kernel,rfl,by decide+kernel,by decide+kernel⟩
theorem Zi {f fI fN CG:Addr} {fd fdI fdN:FuncData} (F:jU K "roads_from" "Ground.roads_from" Xq f fd) (C:ML K mg CG fI fdI) (B:QF mg) (G:Qv mg) (T:QE K mg) (hN:qY K mg "is_name" zg ["thing"] fN fdN):ql P w K mg base qG 2 f fd nGF (Zv CG):=by
 have GN:ql P w K mg base qG 1 fN fdN ["thing"] Kf:=W6 hN.fn B T
 refine F.okJ qbt (λvs H Q E h=>?_) (λcdv A outer s H vs Q E hr h=>?_)
 . obtain⟨a,rs,r,rfl,_⟩:=h
   rfl
 . obtain⟨a,rs,r,rfl,gr,hr',hn,q⟩:=h
   have hu:=jR hr
   refine⟨_,qe (qO (ZM (Jx (jZ (qH hN GN hr (by rfl) (qb (jv 1) qf)))) (Jw (Qr (JM hu (jv 1) (Jc (jv 0) rfl))))).pt q4 qC)
     (qg (qw (ju Qu (by rfl) G.lst boot_list (qb (qV hu (Jc (jv 0) rfl) (jv 1) (λ_ _=>rfl)) qf)))),?_⟩
   refine⟨_,rfl,r.1,rfl,hn,λH1 s1=>⟨_,rfl,jB ?_⟩⟩
   obtain⟨dx,lo,rd,kvs,h1,h2,h3,h4⟩:=gr.mono s1
   obtain⟨qq,hv,hq⟩:=h4 r hr'
   have gz:j1 H1 rd (.str r.1) (some (.ref qq)):=by
     have:=j1.k (k:=(Sum.inr r.1:qL)) h3
     rw[hv]at this
     exact this
   refine⟨_,rfl,_,rfl,a,CG,dx,_,_,rfl,h1,C.cl,C.nr,lkR _ _,rd,_,rfl,gz,_,rfl,jB ?_⟩
   exact⟨_,rfl,a,CG,dx,_,_,rfl,h1,C.cl,C.nr,lkR _ _,_,rfl,rd,_,rfl,gz,qq,_,rfl,.inl (.of hq),λl hl=>q H1 l s1 hl⟩
end
open PySem L2 PyProof.Rows
abbrev Qp:Stmt:=top 3
abbrev zY:Stmt:=top 4
abbrev qW:=List (Str×List Str)
def Qx (rs:qW) (z:Str):List Str:=match rs.find? (λr=>decide (r.1=z)) with
 | some r=>jH rs r
 | none=>[]
theorem XO:∀{rs:qW} {r:Str×List Str},(rs.map (·.1)).Nodup->r∈rs->rs.find? (λq=>decide (q.1=r.1))=some r
 | a::rs,r,hn,h=>by
   rw[tW,zam]at hn
   rcases t8.mp h with rfl | h
   . simp [zbq]
   . have:¬a.1=r.1:=λe=>hn.1 (e▸tJ.mpr ⟨r,h,rfl⟩)
     simp only[zbq,decide_eq_false this]
     exact XO hn.2 h
theorem QV {rs:qW} {r:Str×List Str} (hn:(rs.map (·.1)).Nodup) (h:r∈rs):Qx rs r.1=jH rs r:=by
 unfold Qx
 rw[XO hn h]
theorem VR {rs:qW} {r:Str×List Str} {y:Str} (h:y∈jH rs r):∃r'∈rs,r'.1=y:=by
 obtain⟨r',h1,h2⟩:=tJ.mp (tX.mp h).1
 exact⟨r',h1,h2⟩
theorem G7 {z:Str} {zs:List Str}:Zo (.str z) (zs.map V.str)=true↔z∈zs:=by
 refine⟨λh=>?_,Vh⟩
 unfold Zo at h
 obtain⟨y,hy,e⟩:=zbb.mp h
 obtain⟨x,hx,rfl⟩:=tJ.mp hy
 have e':(x==z)=true:=e
 rw[beq_iff_eq]at e'
 exact e'▸hx
theorem xX {rs:qW} (g:qu rs) {r:Str×List Str} (h:r∈rs) {y:Str}:y∈jH rs r↔y∈r.2:=by
 unfold jH
 rw[tX,G7]
 exact⟨λz=>z.2,λz=>⟨g.to r h y z,z⟩⟩
theorem j7 {rs:qW} (hn:(rs.map (·.1)).Nodup):∀z∈rs.map (·.1),∀y∈Qx rs z,y∈rs.map (·.1):=λz hz y hy=>by
 obtain⟨r,hr,rfl⟩:=tJ.mp hz
 rw[QV hn hr]at hy
 obtain⟨r',h1,rfl⟩:=VR hy
 exact tJ.mpr ⟨r',h1,rfl⟩
theorem J1 {α:Type}:∀{l m:List α},l.Nodup->(∀z∈l,z∈m)->l.length<=m.length
 | [],m,_,_=>zay _
 | a::l,m,hn,h=>by
   classical
   rw[zam]at hn
   have ha:=h a zaa
   have:=J1 (m:=m.erase a) hn.2 λz hz=>(zbW (λ(e:z=a)=>hn.1 (e▸hz))).mpr (h z (tU _ hz))
   rw[zch ha]at this
   have:=zaD ha
   rw[zat]
   omega
theorem Yd:∀{more kvs:List (qL×V)},(more.map (·.1)).Nodup->(∀k∈more.map (·.1),¬k∈kvs.map (·.1))->QN kvs more=kvs++more
 | [],kvs,_,_=>(zax _).symm
 | p::more,kvs,hn,h=>by
   rw[tW,zam]at hn
   have e:ji kvs p.1=none:=Jz (h p.1 (by simp))
   show QN (jV kvs p.1 p.2) more=_
   rw[QJ p.2 e,Yd hn.2]
   . rw[zcD]
     rfl
   . intro k hk m
     rw[tN]at m
     rcases tV.mp m with m | m
     . exact h k (by rw[tW];exact tU _ hk) m
     . have:k=p.1:=by simpa using m
       subst this
       exact hn.1 hk
structure Vs (K:PySem.W.Frag) (C:Addr) (m qual:Str) (st:Stmt) (ps:List Str) (f:Addr) (fd:FuncData):Prop where
 fn:jU K m qual st f fd
 me:Wc K C m f
 bi:jP K fd ps []
theorem ue {X:Cx} {C f:Addr} {fd:FuncData} {m qual:Str} {st:Stmt} {ps:List Str} {k:Nat} {sp:Sp} {o:Expr} {ta:TE} {apos pos:Pos} {pl:Sem Bool} (h:Vs X.K C m qual st ps f fd) (c:X1 X.K C) (G:ql X.prog X.w X.K X.mg X.base qG k f fd ps sp) (hr:qS k X.A) (he:JE X o ta)
   (ht:eval (.Call (.Attribute o m apos) [] [] pos) X.env=(do
     let ov <-eval o X.env
     standAt apos.atName
     let (f,first) <-holding [ov] (getMethod ov m pl)
     callWith pos f first (backTo pos (starEach [] X.env)) (backToKw pos (keywordEach [] X.env))):=by rfl):
   JE X (.Call (.Attribute o m apos) [] [] pos) (Wh C m sp [] E0 ta Jj):=ud he c h.me G hr h.bi .nil Q4 ht
theorem Wu {X:Cx} {C f:Addr} {fd:FuncData} {m qual:Str} {st:Stmt} {ps:List Str} {k:Nat} {sp:Sp} {o e:Expr} {es:List Expr} {ta:TE} {t:TA} {apos pos:Pos} {pl:Sem Bool} (h:Vs X.K C m qual st ps f fd) (c:X1 X.K C) (G:ql X.prog X.w X.K X.mg X.base qG k f fd ps sp) (hr:qS k X.A) (he:JE X o ta) (ha:JA X (e::es) t)
   (hst:starEach (e::es) X.env=(false,eval e X.env)::starEach es X.env:=by rfl) (hpl:(backTo pos (starEach es X.env)).any (·.1)=false:=by rfl)
   (ht:eval (.Call (.Attribute o m apos) (e::es) [] pos) X.env=(do
     let ov <-eval o X.env
     standAt apos.atName
     let (f,first) <-holding [ov] (getMethod ov m pl)
     callWith pos f first (backTo pos (starEach (e::es) X.env)) (backToKw pos (keywordEach [] X.env))):=by rfl):
   JE X (.Call (.Attribute o m apos) (e::es) [] pos) (Wh C m sp [] E0 ta t):=GQ he c h.me G hr h.bi .nil Q4 ha hst hpl ht
structure GM (K:PySem.W.Frag) (mg:Str->Option Value) (CG:Addr):Prop where
 cls:∃f fd,ML K mg CG f fd
 nm:∃f fd,Vs K CG "names" "Ground.names" zk ["self"] f fd
 fr:∃f fd,Vs K CG "roads_from" "Ground.roads_from" Xq ["self","name"] f fd
 isn:∃f fd,qY K mg "is_name" zg ["thing"] f fd
theorem Qi.ins {CG:Addr} {H:Hp} {a:Addr} {rs:qW} (h:Qi CG H a rs):∃dx fs,H a=some (.ins CG dx fs)/\fs.lookup (Str.ofString "names")=none/\fs.lookup (Str.ofString "roads_from")=none:=by
 obtain⟨dx,lo,rd,kvs,h1,_⟩:=h
 refine⟨dx,_,h1,?_,?_⟩
 . have e1:((Str.ofString "names")==(Str.ofString "order"))=false:=by decide+kernel
   have e2:((Str.ofString "names")==(Str.ofString "roads"))=false:=by decide+kernel
   simp only[zbh]
   rw[e1,e2]
 . have e1:((Str.ofString "roads_from")==(Str.ofString "order"))=false:=by decide+kernel
   have e2:((Str.ofString "roads_from")==(Str.ofString "roads"))=false:=by decide+kernel
   simp only[zbh]
   rw[e1,e2]
theorem wV {rs:qW} {i:Nat} {y:V} (h:((rs.map (·.1)).map V.str)[i]?=some y):∃r,rs[i]?=some r/\r∈rs/\y=.str r.1:=by
 rw[tI,tI]at h
 cases e:rs[i]? with
 | none=>rw[e]at h;cases h
 | some r=>rw[e]at h;exact⟨r,rfl,tZ e,(tO.inj h).symm⟩
theorem Qa {zs:List Str} {i:Nat} {y:V} (h:(zs.map V.str)[i]?=some y):∃z,zs[i]?=some z/\z∈zs/\y=.str z:=by
 rw[tI]at h
 cases e:zs[i]? with
 | none=>rw[e]at h;cases h
 | some z=>rw[e]at h;exact⟨z,rfl,tZ e,(tO.inj h).symm⟩
theorem z6 {rs:qW} (r:Str×List Str):(jH rs r).length<=rs.length:=by
 have:=zao (λz=>Zo (.str z) (r.2.map V.str)) (rs.map (·.1))
 rwa [tj]at this
theorem qZ {c:Bool} {A B:Prop} (hc:c=false) (h:B):if c=true then A else B:=by
 rw[hc]
 exact jB h
theorem jk {c:Bool} {A B:Prop} (hc:c=true) (h:A):if c=true then A else B:=by
 rw[if_pos hc]
 exact h
theorem vj {kvs:List (qL×V)}:∀{i:Nat} {k:qL} {v:V},(kvs.map (·.1)).Nodup->kvs[i]?=some (k,v)->ji kvs k=some v:=by
 induction kvs with
 | nil=>intro i k v _ e;simp at e
 | cons p r ih=>
   intro i k v hn e
   rw[tW,zam]at hn
   cases i with
   | zero=>
     rw[List.getElem?_cons_zero]at e
     obtain rfl:=tO.inj e
     exact jg rfl
   | succ i=>
     rw[List.getElem?_cons_succ]at e
     have:¬p.1=k:=λz=>hn.1 (z▸tJ.mpr ⟨_,tZ e,rfl⟩)
     rw[jh this]
     exact ih hn.2 e
theorem W0 {H:Hp}:∀(ps:List Addr) (rs:qW),j0 H ps rs->∃qs:List Addr,qs.length=rs.length/\∀(i:Nat) (p q:Addr) (r:Str×List Str),ps[i]?=some p->rs[i]?=some r->qs[i]?=some q->H p=some (.tup [.str r.1,.ref q])/\H q=some (.tup (r.2.map V.str))
 | [],[],_=>⟨[],rfl,λi p q r e=>by simp at e⟩
 | [],_::_,h=>by cases h.1
 | _::_,[],h=>by cases h.1
 | p::ps,r::rs,h=>by
   obtain⟨qs,l,k⟩:=W0 ps rs ⟨zcU.inj h.1,λi a b e1 e2=>h.2 (i+1) a b (by simpa using e1) (by simpa using e2)⟩
   obtain⟨q,a,b⟩:=h.2 0 p r rfl rfl
   refine⟨q::qs,by simp [l],λi p' q' r' e1 e2 e3=>?_⟩
   cases i with
   | zero=>cases e1;cases e2;cases e3;exact⟨a,b⟩
   | succ i=>exact k i p' q' r' (by simpa using e1) (by simpa using e2) (by simpa using e3)
def ZY (rs:qW) (qs:List Addr):List (qL×V):=List.zipWith (λr q=>((Sum.inr r.1:qL),V.ref q)) rs qs
theorem JL:∀{rs:qW} {qs:List Addr},qs.length=rs.length->(ZY rs qs).map (·.1)=(rs.map (·.1)).map Sum.inr
 | [],[],_=>rfl
 | [],_::_,h=>by cases h
 | _::_,[],h=>by cases h
 | r::rs,q::qs,h=>by
   show Sum.inr r.1::(ZY rs qs).map (·.1)=_
   rw[JL (zcU.inj h)]
   rfl
theorem Zl {rs:qW} {qs:List Addr} (h:qs.length=rs.length):(ZY rs qs).length=rs.length:=by
 have:=congrArg zaz (JL h)
 simpa using this
theorem Vd {rs:qW} {qs:List Addr} (h:qs.length=rs.length) {i:Nat} {r:Str×List Str} (e:rs[i]?=some r):∃q,qs[i]?=some q/\(ZY rs qs)[i]?=some (Sum.inr r.1,.ref q):=by
 have hi:i < qs.length:=by rw[h];exact(tE.mp e).1
 refine⟨qs[i],tH hi,?_⟩
 unfold ZY
 rw[List.getElem?_zipWith,e,tH hi]
theorem V8 {rs:qW} {qs:List Addr} (h:qs.length=rs.length) {i:Nat} {kv:qL×V} (e:(ZY rs qs)[i]?=some kv):∃r q,rs[i]?=some r/\qs[i]?=some q/\kv=(Sum.inr r.1,.ref q):=by
 have hi:i < rs.length:=by rw[<-Zl h];exact(tE.mp e).1
 obtain⟨q,e1,e2⟩:=Vd h (tH hi)
 rw[e2]at e
 exact⟨_,q,tH hi,e1,(tO.inj e).symm⟩
theorem ki {rs:qW} (g:qu rs) {r:Str×List Str} (h:r∈rs) {y:Str}:y∈Qx rs r.1↔y∈r.2:=by
 rw[QV g.nd h]
 exact xX g h
theorem w5:∀{l:List Nat} {x:Nat},x∈l->x<=l.sum
 | a::l,x,h=>by
   rw[zaV]
   rcases t8.mp h with e | h
   . omega
   . have:=w5 h
     omega
theorem qu.two {rs:qW} (g:qu rs) {r:Str×List Str} (h:r∈rs):r.2.length<=40:=by
 refine zag ?_ g.few
 exact w5 (tJ.mpr ⟨r,h,rfl⟩)
theorem NS {σ:L2.St} {H:Hp} {Q:List V->Hp->Prop} (h:Q [] H):Jj σ H Q:=h
theorem jt {H H':Hp} {a:Addr} (s:qm H H') (h:H' a=none):H a=none:=by
 cases z:H a with
 | none=>rfl
 | some u=>rw[s _ _ z]at h;cases h
theorem UP {z:Str} (h:jN z=true):(∀c∈z.cps.toList,c<=122)/\z.length<=8/\1<=z.length:=by
 unfold jN at h
 simp only[zau,decide_eq_true_eq]at h
 refine⟨λc hc=>?_,h.1.2,h.1.1⟩
 have:=zaK.mp h.2 c hc
 unfold jX at this
 simp only[zau,decide_eq_true_eq]at this
 exact this.2
theorem vZ {z:Str} (h:jN z=true):PyData.strOk z=true:=by
 unfold PyData.strOk
 rw[Array.all_eq_true_iff_forall_mem]
 intro c hc
 have:=(UP h).1 c (by simpa using hc)
 exact decide_eq_true (by omega)
theorem uK {K:PySem.W.Frag} {H:Hp} {l:Addr} {ps:List Addr} {rs:qW} (g:jO H l ps rs) {Q:VK}
   (q:∀dd kvs,H dd=none->kvs.map (·.1)=(rs.map (·.1)).map Sum.inr->(∀r∈rs,∃t,ji kvs (Sum.inr r.1:qL)=some (.ref t)/\H t=some (.tup (r.2.map V.str)))->Q (.ref dd) (upd H dd (.dK kvs))):x8 K [.ref l] H Q:=by
 obtain⟨qs,lq,hqs⟩:=W0 ps rs g.rows
 have le:=g.le
 refine⟨l,ps,ZY rs qs,rfl,.of g.at_,by rw[Zl lq,g.rows.1],λi a kv e1 e2=>?_,by rw[Zl lq];omega,λdd hdd=>?_⟩
 . obtain⟨r',q',f1,f2,rfl⟩:=V8 lq e2
   exact .of (hqs i a q' r' e1 f1 f2).1
 have nk:((ZY rs qs).map (·.1)).Nodup:=by
   rw[JL lq]
   exact JJ g.good.nd λa _ b _ e=>Sum.inr.inj e
 rw[Yd nk (λk _ m=>by simp at m),zds]
 refine q dd _ hdd (JL lq) λr hr=>?_
 obtain⟨i0,hi0⟩:=zbc hr
 obtain⟨q0,eq0,ekv⟩:=Vd lq hi0
 have hi0':=(tE.mp hi0).1
 exact⟨q0,vj nk ekv,(hqs i0 _ q0 r (tH (by rw[g.rows.1];exact hi0')) hi0 eq0).2⟩
section
variable {P:Program} {w:World} {K:PySem.W.Frag} {mg:Str->Option Value} {base:Heap}
theorem uN (x:Int):Builtin.bitNot (Builtin.bitNot x)=x:=by unfold Builtin.bitNot;omega
theorem bo (a b:Nat):Builtin.bitOr a b=((a ||| b:Nat):Int):=by
 have na:¬(0:Int)<=Builtin.bitNot a:=by unfold Builtin.bitNot;omega
 have nb:¬(0:Int)<=Builtin.bitNot b:=by unfold Builtin.bitNot;omega
 have e:Builtin.bitAnd (Builtin.bitNot a) (Builtin.bitNot b)=Builtin.bitNot (((Builtin.bitNot (Builtin.bitNot a)).toNat ||| (Builtin.bitNot (Builtin.bitNot b)).toNat:Nat):Int):=by
   unfold Builtin.bitAnd
   rw[decide_eq_false na,decide_eq_false nb]
 unfold Builtin.bitOr
 rw[e,uN,uN,uN,zaL,zaL]
theorem ba (a b:Nat):Builtin.bitAnd a b=((a&&& b:Nat):Int):=by
 unfold Builtin.bitAnd
 rw[decide_eq_true (zcS a),decide_eq_true (zcS b)]
 rfl
def Jq (ns:List Nat):List V:=ns.map λn=>V.int (n:Nat)
theorem Jp (ns:List Nat):(Jq ns).length=ns.length:=tj ..
theorem YV {ns:List Nat} {i:Nat} {x:V} (h:(Jq ns)[i]?=some x):∃n:Nat,ns[i]?=some n/\x=.int n:=by
 unfold Jq at h
 rw[tI]at h
 cases e:ns[i]? with
 | none=>rw[e]at h;cases h
 | some n=>rw[e]at h;exact⟨n,rfl,(tO.inj h).symm⟩
theorem Zu {ns:List Nat} {i n:Nat} (h:ns[i]?=some n):ns.take (i+1)=ns.take i++[n]:=by
 rw[tR,h]
 rfl
theorem XL (ns:List Nat) (n:Nat):Jq ns++[V.int (n:Nat)]=Jq (ns++[n]):=by unfold Jq;rw[tN];rfl
theorem Zp (ns:List Nat):(Jq ns).all ZO=true:=by
 unfold Jq
 rw[zcO]
 exact zaK.mpr λ_ _=>rfl
theorem Yk (ns:List Nat) (n:Nat):Zo (.int (n:Nat)) (Jq ns)=decide (n∈ns):=by
 unfold Zo Jq
 rw[List.any_map,zbg,zbb,decide_eq_true_iff]
 constructor
 . rintro⟨y,hy,e⟩
   have e':((y:Int)==(n:Int))=true:=e
   have:y=n:=by
     have:=eq_of_beq e'
     omega
   exact this▸hy
 . intro h
   refine⟨n,h,?_⟩
   show ((n:Int)==(n:Int))=true
   simp
def zU (K:PySem.W.Frag):Sp:=λvs H Q _=>∃(a:Addr) (ns:List Nat),vs=[.ref a]/\SqL K H a (Jq ns)/\ns.length<=1000/\∀H',qm H H'->Q (.int (Rb.lackN ns:Nat)) H'
def WO (K:PySem.W.Frag):Sp:=λvs H Q _=>∃(a:Addr) (ns:List Nat),vs=[.ref a]/\SqL K H a (Jq ns)/\(∀x∈ns,x < 1000)/\Q (.int (Rb.setN ns:Nat)) H
theorem YK:qp ["numbers","bits","number"] ["numbers"] (qh zY):=⟨rfl,rfl,rfl,by decide+kernel,rfl,by decide+kernel,by decide+kernel⟩
theorem VW {f:Addr} {fd:FuncData} (F:jU K "set_of" "set_of" zY f fd):ql P w K mg base qG 1 f fd ["numbers"] (WO K):=by
 refine F.okJ YK (λvs H Q E h=>?_) (λcdv A outer s H vs Q E hr h=>?_)
 . obtain⟨a,ns,rfl,_⟩:=h
   rfl
 . obtain⟨a,ns,rfl,hS,hb,q⟩:=h
   refine⟨_,qe (qy (i:=1) YK.nd rfl (Or.inl rfl) qi)
     (qe (jd PassesOwn.never rfl (qI (jv 0)) (qv (i:=2) YK.nd rfl (Or.inl rfl)) (qg (qy (i:=1) YK.nd rfl (Or.inl rfl) (qT RV (jv 1) (qT wo qi (jv 2))))))
     (qg (qw (jv 1)))),?_⟩
   refine⟨_,rfl,a,rfl,⟨_,hS⟩,?_⟩
   refine jw (K:=K) (a:=a) (xs:=Jq ns) (λi σ H'=>∃v,σ=[some (.ref a),some (.int ((Rb.setN (ns.take i):Nat):Int)),v]/\H'=H) ⟨none,rfl,rfl⟩ (λi σ H' _ ⟨_,_,e⟩=>e▸hS) ?_ ?_
   . rintro i x σ H' hx ⟨v,rfl,rfl⟩
     obtain⟨n,hn,rfl⟩:=YV hx
     have n1:=hb n (tZ hn)
     have e1:(1:Int)*2^ ((n:Nat):Int).toNat=((2^n:Nat):Int):=by rw[zaL,Int.one_mul];push_cast;rfl
     have e:((Rb.setN (ns.take (i+1)):Nat):Int)=Builtin.bitOr (Rb.setN (ns.take i):Nat) ((1:Int)*2^ ((n:Nat):Int).toNat):=by rw[e1,bo,Zu hn,Rb.setN_snoc]
     refine⟨_,rfl,_,rfl,_,_,rfl,rfl,⟨by omega,by omega,by decide⟩,_,_,rfl,rfl,some (.int n),?_,rfl⟩
     rw[e]
     rfl
   . rintro σ H' ⟨v,rfl,rfl⟩
     refine⟨_,rfl,?_⟩
     rw[Jp,tK (tF _)]
     exact q
theorem JB:qp ["numbers","there","number","least"] ["numbers"] (qh Qp):=⟨rfl,rfl,rfl,by decide+kernel,rfl,by decide+kernel,by decide+kernel⟩
theorem XA {f:Addr} {fd:FuncData} (F:jU K "lacking" "lacking" Qp f fd):ql P w K mg base qG 1 f fd ["numbers"] (zU K):=by
 refine F.okJ JB (λvs H Q E h=>?_) (λcdv A outer s H vs Q E hr h=>?_)
 . obtain⟨a,ns,rfl,_⟩:=h
   rfl
 . obtain⟨a,ns,rfl,hS,hl,q⟩:=h
   have hu:=jR hr
   refine⟨_,qe (qy (i:=1) JB.nd rfl (Or.inl rfl) Qs)
     (qe (jd PassesOwn.never rfl (qI (jv 0)) (qv (i:=2) JB.nd rfl (Or.inl rfl)) (qg (jy hu (jv 1) (jv 2) Qg rfl)))
     (qe (qy (i:=3) JB.nd rfl (Or.inl rfl) qi)
     (qe (zA PassesOwn.never (Qr (J7 hu (jv 3) (jv 1)) (by with_unfolding_all rfl)) (qg (ua (i:=3) JB.nd rfl (Or.inl rfl) qi uk)))
     (qg (qw (jv 3)))))),?_⟩
   intro D hD
   refine⟨_,rfl,a,rfl,⟨_,(qk hD).seq hS⟩,?_⟩
   refine jw (K:=K) (a:=a) (xs:=Jq ns) (λi σ H'=>∃v kvs,σ=[some (.ref a),some (.ref D),v,none]/\H'=upd H D (.dK kvs)/\kvs.length<=i/\∀x:Nat,(ji kvs (Sum.inl (x:Int):qL)).isSome=decide (x∈ns.take i)) ⟨none,[],rfl,rfl,tF _,λx=>by simp [ji]⟩
     (λi σ H' _ ⟨_,_,_,e,_⟩=>e▸(qk hD).seq hS) ?_ ?_
   . rintro i x σ H' hx ⟨v,kvs,rfl,rfl,hk,hv⟩
     obtain⟨n,hn,rfl⟩:=YV hx
     have hi:i < ns.length:=(tE.mp hn).1
     refine⟨_,rfl,_,rfl,D,_,rfl,Ji.k (k:=(Sum.inl (n:Int):qL)) qd (qo (by omega)),?_⟩
     refine⟨some (.int n),jV kvs (Sum.inl (n:Int)) (.bl true),rfl,jI,?_,λx=>?_⟩
     . have:=Jo kvs (Sum.inl (n:Int):qL) (.bl true)
       omega
     . rw[j3,Zu hn]
       by_cases e:x=n
       . subst e;simp
       . have e':¬(Sum.inl (x:Int):qL)=Sum.inl (n:Int):=λz=>e (by have:=Sum.inl.inj z;omega)
         rw[if_neg e',hv x,zbg]
         simp [e]
   . rintro σ H' ⟨v,kvs,rfl,rfl,hk,hv⟩
     rw[Jp,tK (tF _)]at hv
     refine Z3 (λσ H'=>∃r:Nat,σ=[some (.ref a),some (.ref D),v,some (.int r)]/\H'=upd H D (.dK kvs)/\∀x,x < r->x∈ns) (λσ _=>match σ with | [_,_,_,some (.int r)]=>ns.length - r.toNat | _=>0) ⟨0,rfl,rfl,λx hx=>absurd hx (zcn _)⟩ ?_ ?_
     . rintro σ H' ⟨r,rfl,rfl,hr'⟩
       refine⟨_,rfl,_,rfl,D,_,rfl,j1.k (k:=(Sum.inl (r:Int):qL)) qd,_,rfl,?_⟩
       rw[hv r]
       by_cases hm:r∈ns
       . rw[decide_eq_true hm]
         have hp:=Rb.pigeon (r+1) ns λx hx=>by
           by_cases e:x=r
           . rw[e];exact hm
           . exact hr' x (by omega)
         refine Qe ⟨_,rfl,_,_,rfl,rfl,⟨r+1,rfl,rfl,λx hx=>?_⟩,?_⟩
         . by_cases e:x=r
           . rw[e];exact hm
           . exact hr' x (by omega)
         . show ns.length - ((r:Int)+1).toNat < ns.length - (r:Int).toNat
           omega
       . rw[decide_eq_false hm]
         refine jB ⟨_,rfl,?_⟩
         have e:=Rb.lackN_eq (r:=r) (ns:=ns) ⟨hm,hr'⟩
         have:=q _ (qk (o:=.dK kvs) hD)
         rw[<-e]at this
         exact this
     . rintro σ H Q Q' h1 ⟨v,e,w,e2,a,o,e3,g,k,e4,q⟩
       exact⟨v,e,w,e2,a,o,e3,g,k,e4,h1 _ _ q⟩
end
open PySem L2 PyProof.Rows MLab
abbrev RQ:Stmt:=top 48
abbrev Xp:Stmt:=top 49
abbrev zZ:Stmt:=top 50
abbrev VO:Stmt:=top 51
abbrev WY:Stmt:=top 52
abbrev zh:Stmt:=top 53
structure jn (N:List Str) (H:Hp) (d:Addr) (f:Str->Option Nat):Prop where
 at_:∃kvs:List (qL×V),H d=some (.dK kvs)/\(∀z:Str,ji kvs (Sum.inr z:qL)=(f z).map λn=>V.int (n:Nat))/\(kvs.map (·.1)).Nodup/\∀k∈kvs.map (·.1),k∈N.map (Sum.inr:Str->qL)
theorem jn.mono {N:List Str} {H H':Hp} {d:Addr} {f:Str->Option Nat} (h:jn N H d f) (s:qm H H'):jn N H' d f:=⟨let ⟨kvs,a,b⟩:=h.at_;⟨kvs,s _ _ a,b⟩⟩
theorem jn.get {N:List Str} {H:Hp} {d:Addr} {f:Str->Option Nat} (h:jn N H d f) (z:Str):j1 H d (.str z) ((f z).map λn=>V.int (n:Nat)):=by
 obtain⟨kvs,a,b,_⟩:=h.at_
 rw[<-b z]
 exact j1.k (k:=(Sum.inr z:qL)) a
theorem jn.isd {N:List Str} {H:Hp} {d:Addr} {f:Str->Option Nat} (h:jn N H d f):∃kvs:List (qL×V),H d=some (.dK kvs):=let ⟨kvs,a,_⟩:=h.at_;⟨kvs,a⟩
theorem jn.put {N:List Str} {H:Hp} {d:Addr} {f:Str->Option Nat} (h:jn N H d f) {z:Str} {n:Nat} (hz:z∈N) (hf:f z=none) (le:N.length<=14):∃H',Ji H d (.str z) (.int (n:Nat)) H'/\jn N H' d (λy=>if y=z then some n else f y)/\∃o,H'=upd H d o:=by
 obtain⟨kvs,a,b,nd,sub⟩:=h.at_
 have ln:kvs.length<=14:=by
   have:=J1 nd sub
   rw[tj,tj]at this
   omega
 refine⟨_,Ji.k (k:=(Sum.inr z:qL)) a (qo (by omega)),⟨jV kvs (Sum.inr z) (.int (n:Nat)),qd,λy=>?_,?_,?_⟩,_,rfl⟩
 . rw[j3]
   by_cases e:y=z
   . subst e;rw[if_pos rfl,if_pos rfl];rfl
   . rw[if_neg e,if_neg (λq=>e (Sum.inr.inj q))];exact b y
 . rw[QJ _ (by rw[b z,hf];rfl),tN]
   refine zcz.mpr ⟨nd,zcs _ _,λx hx y hy e=>?_⟩
   have ey:y=Sum.inr z:=by simpa using hy
   subst ey
   subst e
   have:(ji kvs (Sum.inr z:qL)).isSome=true:=by
     obtain⟨p,hp,ep⟩:=tJ.mp hx
     have an:(kvs.any λkv=>decide (kv.1=(Sum.inr z:qL)))=true:=zbb.mpr ⟨p,hp,decide_eq_true ep⟩
     rw[QI]at an
     exact an
   rw[b z,hf]at this
   cases this
 . rw[QJ _ (by rw[b z,hf];rfl),tN]
   intro k hk
   rcases tV.mp hk with hk | hk
   . exact sub k hk
   . have:k=Sum.inr z:=by simpa using hk
     rw[this]
     exact tJ.mpr ⟨z,hz,rfl⟩
def QB (rs:qW) (f:Str->Option Nat) (z:Str):List Nat:=(Qx rs z).filterMap f
theorem jx {rs:qW} {f:Str->Option Nat} {z:Str} {n:Nat}:n∈QB rs f z↔∃y∈Qx rs z,f y=some n:=zaE
theorem YX {rs:qW} (z:Str):(Qx rs z).length<=rs.length:=by
 unfold Qx
 split
 . exact z6 _
 . exact zay _
def WJ (rs:qW) (f:Str->Option Nat) (z:Str):List Str:=(Qx rs z).filter λy=>(f y).isNone
def zE (rs:qW) (f:Str->Option Nat) (z:Str) (n:Nat):Bool:=decide (Rb.lackN (QB rs f z)=n)&&(WJ rs f z).all λy=>decide (n∈QB rs f y)
theorem yR {rs:qW} {f:Str->Option Nat} {z:Str} {n:Nat}:zE rs f z n=true↔YG (Qx rs) f z n:=by
 unfold zE YG WJ
 rw[zau,decide_eq_true_iff,zaK]
 have lk:Rb.Lacks (Rb.lackN (QB rs f z)) (QB rs f z):=Rb.lackI_lacks _
 constructor
 . rintro⟨rfl,h⟩
   refine⟨λj hj=>jx.mp (lk.2 j hj),λy hy e=>lk.1 (jx.mpr ⟨y,hy,e⟩),λy hy e=>?_⟩
   exact jx.mp (of_decide_eq_true (h y (tX.mpr ⟨hy,by rw[e];rfl⟩)))
 . rintro⟨h1,h2,h3⟩
   refine⟨(Rb.lackN_eq ⟨λm=>?_,λx hx=>jx.mpr (h1 x hx)⟩).symm,λy hy=>decide_eq_true ?_⟩
   . obtain⟨y,hy,e⟩:=jx.mp m
     exact h2 y hy e
   . obtain⟨hy1,hy2⟩:=tX.mp hy
     exact jx.mpr (h3 y hy1 (by simpa using hy2))
def xW (rs:qW) (f:Str->Option Nat) (n:Nat):List Str:=((rs.map (·.1)).filter λz=>(f z).isNone).filter λz=>zE rs f z n
theorem KD (rs:qW) (R:Rs Str) (n:Nat):Ur (Qx rs) (rs.map (·.1)) R n (xW rs (qE R) n):=⟨λx=>by
 unfold xW
 rw[tX,tX,yR]
 constructor
 . rintro⟨⟨a,b⟩,c⟩
   exact⟨a,by simpa using b,c⟩
 . rintro⟨a,b,c⟩
   exact⟨⟨a,by rw[b];rfl⟩,c⟩,zbf.trans zbf⟩
def Kg (CG:Addr):Sp:=λvs H Q _=>∃(g d:Addr) (rs:qW) (z:Str) (f:Str->Option Nat),vs=[.ref g,.ref d,.str z]/\Qi CG H g rs/\qu rs/\rs.length<=14/\z∈rs.map (·.1)/\jn (rs.map (·.1)) H d f/\
 ∀H' l,qm H H'->H l=none->H' l=some (.lst (Jq (QB rs f z)))->Q (.ref l) H'
def xA (CG:Addr):Sp:=λvs H Q _=>∃(g d:Addr) (rs:qW) (z:Str) (f:Str->Option Nat) (n:Nat),vs=[.ref g,.ref d,.str z,.int (n:Nat)]/\Qi CG H g rs/\qu rs/\rs.length<=14/\z∈rs.map (·.1)/\jn (rs.map (·.1)) H d f/\
 ∀H',qm H H'->Q (.bl (zE rs f z n)) H'
def vw (CG:Addr):Sp:=λvs H Q _=>∃(g d:Addr) (rs:qW) (f:Str->Option Nat) (n:Nat),vs=[.ref g,.ref d,.int (n:Nat)]/\Qi CG H g rs/\qu rs/\rs.length<=14/\jn (rs.map (·.1)) H d f/\
 ∀H' l,qm H H'->H l=none->H' l=some (.lst ((xW rs f n).map V.str))->Q (.ref l) H'
theorem UR {α β:Type} (g:α->Option β) (h:β->V):∀l:List α,(l.filterMap g).map h=l.filterMap λx=>(g x).map h
 | []=>rfl
 | a::l=>by
   rw[zar,zar]
   cases g a with
   | none=>exact UR g h l
   | some b=>rw[tW,UR g h l];rfl
theorem XQ (p:Str->Bool):∀l:List Str,(l.filter p).map V.str=l.filterMap λx=>if p x=true then some (V.str x) else none
 | []=>rfl
 | a::l=>by
   rw[zbu,zar]
   cases p a with
   | false=>exact XQ p l
   | true=>
     rw[if_pos rfl,if_pos rfl,tW,XQ p l]
theorem ka {α:Type} (f:α->V):∀l:List α,l.map f=l.filterMap λx=>some (f x)
 | []=>rfl
 | a::l=>by rw[tW,zar,ka f l]
section
variable {P:Program} {w:World} {K:PySem.W.Frag} {mg:Str->Option Value} {base:Heap}
abbrev uT:List Str:=["ground","numbered","name"]
theorem qbp:qp uT uT (qh RQ):=⟨rfl,rfl,rfl,by decide+kernel,rfl,by decide+kernel,by decide+kernel⟩
theorem RW {f CG:Addr} {fd:FuncData} (F:jU K "numbers_behind" "numbers_behind" RQ f fd) (B:QF mg) (G:Qv mg) (T:QE K mg) (M:GM K mg CG):ql P w K mg base qG 3 f fd uT (Kg CG):=by
 obtain⟨fC,fdC,C⟩:=M.cls
 obtain⟨fR,fdR,hR⟩:=M.fr
 obtain⟨fN,fdN,hN⟩:=M.isn
 have GR:ql P w K mg base qG 2 fR fdR ["self","name"] (Zv CG):=Zi hR.fn C B G T hN
 refine F.okJ qbp (λvs H Q E h=>?_) (λcdv A outer s H vs Q E hr h=>?_)
 . obtain⟨g,d,rs,z,nf,rfl,_⟩:=h
   rfl
 . obtain⟨g,d,rs,z,nf,rfl,gr,good,le14,hz,hd,q⟩:=h
   have hu:=jR hr
   refine⟨_,qg (qw (j6 (N':=["end","numbered"]) (ix:=[none,some 1]) rfl ⟨rfl,rfl,rfl,rfl,rfl⟩ (qI (Wu hR C.cl GR hr (jv 0) (qb (jv 2) qf))) (λC s2 H2 fp pins=>
     ⟨qv (i:=0) (show (["end","numbered"]:List Str).Nodup by decide+kernel) rfl (Or.inl rfl),jJ (Qr (J7 hu (jv 0) (jv 1))),qV hu (jv 1) (jv 0) (λ_ _=>rfl)⟩))),?_⟩
   obtain⟨dx,fs,hg,l1,l2⟩:=gr.ins
   obtain⟨r,hr',rfl⟩:=tJ.mp hz
   refine⟨_,rfl,g,dx,fs,rfl,hg,l2,_,rfl,g,rs,r,rfl,gr,hr',good.nm r hr',λH1 le s1 hle=>?_⟩
   have s2:qm H (upd H1 le (.lst ((jH rs r).map V.str))):=s1.trans (qk hle)
   have hl2:upd H1 le (.lst ((jH rs r).map V.str)) le=some (.lst ((jH rs r).map V.str)):=qd
   generalize upd H1 le (.lst ((jH rs r).map V.str))=H2 at s2 hl2
   have hd2:=hd.mono s2
   refine⟨le,rfl,⟨_,.of hl2⟩,λW hW=>?_⟩
   refine Jf (K:=K) (a:=le) (xs:=jH rs r) (enc:=V.str) (out:=λy=>(nf y).map λn=>V.int (n:Nat)) (rest:=[some (.ref d)]) hW hl2 (qo (zag (z6 r) (by omega))) ?_ ?_ ?_
   . intro x hx G' s3 R k
     refine⟨_,rfl,_,rfl,d,_,rfl,(hd2.mono s3).get x,_,rfl,k G' λ_ _ h=>h⟩
   . intro x hx v ev G' s3 R k
     have gx:=(hd2.mono s3).get x
     rw[ev]at gx
     exact⟨_,rfl,_,rfl,d,_,rfl,gx,k G' λ_ _ h=>h⟩
   . intro G' s3 hG
     refine q _ W (s2.trans s3) (jt s2 hW) ?_
     rw[hG]
     congr 2
     unfold Jq QB
     rw[QV good.nd hr',UR]
abbrev qaw:List Str:=["ground","numbered","name","number","bare"]
abbrev Xw:List Str:=["ground","numbered","name","number"]
theorem xP:qp qaw Xw (qh Xp):=⟨rfl,rfl,rfl,by decide+kernel,rfl,by decide+kernel,by decide+kernel⟩
theorem K7 {f fB fL CG:Addr} {fd fdB fdL:FuncData} (F:jU K "gets_number" "gets_number" Xp f fd) (B:QF mg) (G:Qv mg) (T:QE K mg) (M:GM K mg CG) (hB:qY K mg "numbers_behind" RQ uT fB fdB) (hL:qY K mg "lacking" Qp ["numbers"] fL fdL):ql P w K mg base qG 4 f fd Xw (xA CG):=by
 have GB:ql P w K mg base qG 3 fB fdB uT (Kg CG):=RW hB.fn B G T M
 have GL:ql P w K mg base qG 1 fL fdL ["numbers"] (zU K):=XA hL.fn
 obtain⟨fC,fdC,C⟩:=M.cls
 obtain⟨fR,fdR,hR⟩:=M.fr
 obtain⟨fN,fdN,hN⟩:=M.isn
 have GR:ql P w K mg base qG 2 fR fdR ["self","name"] (Zv CG):=Zi hR.fn C B G T hN
 refine F.okJ xP (λvs H Q E h=>?_) (λcdv A outer s H vs Q E hr h=>?_)
 . obtain⟨g,d,rs,z,nf,n,rfl,_⟩:=h
   rfl
 . obtain⟨g,d,rs,z,nf,n,rfl,gr,good,le14,hz,hd,q⟩:=h
   have hu:=jR hr
   have r1:qS 1 _:=hr.mono (by decide)
   have r2:qS 2 _:=hr.mono (by decide)
   refine⟨_,qe (qO (qt wp (qH hL GL r1 (by rfl) (qb (qH hB GB hr (by rfl) (qb (jv 0) (qb (jv 1) (qb (jv 2) qf)))) qf)) (jv 3) (qB _)) (qg (qw Qg)) qC)
     (qe (Jb (i:=4) (N':=["end","numbered"]) (ix:=[none,some 1]) xP.nd rfl (Or.inl rfl) rfl ⟨rfl,rfl,rfl,rfl,rfl⟩ (qI (Wu hR C.cl GR r2 (jv 0) (qb (jv 2) qf))) (λC s2 H2 fp pins=>
       ⟨qv (i:=0) (show (["end","numbered"]:List Str).Nodup by decide+kernel) rfl (Or.inl rfl),jJ (Qr (JM hu (jv 0) (jv 1))),jv 0⟩))
     (qg (qw (qF (Yl rfl) (by rfl) T.all boot_all (qb (j6 (N':=["end","number","ground","numbered"]) (ix:=[none,some 3,some 0,some 1]) (te:=zR (MC K false) (q5 1) (Ze (Kg CG) [] E0 (jo (q5 2) (jo (q5 3) (jo (q5 0) Jj))))) rfl ⟨rfl,rfl,rfl,rfl,rfl⟩ (qI (jv 4)) (λC s2 H2 fp pins=>
       ⟨qv (i:=0) (show (["end","number","ground","numbered"]:List Str).Nodup by decide+kernel) rfl (Or.inl rfl),j2,jT JH (jv 1) (qH hB GB hr (by rfl) (qb (jv 2) (qb (jv 3) (qb (jv 0) qf)))) (by with_unfolding_all rfl)⟩)) qf))))),?_⟩
   refine⟨_,rfl,_,rfl,_,rfl,g,d,rs,z,nf,rfl,gr,good,le14,hz,hd,λH1 l1 s1 hl1 hl1'=>?_⟩
   have ln:∀y,(QB rs nf y).length<=14:=λy=>zag (zaP _ _) (zag (YX y) le14)
   refine⟨l1,_,rfl,.of hl1',by have:=ln z;omega,λH2 s2=>⟨_,rfl,rfl,_,rfl,?_⟩⟩
   have s12:=s1.trans s2
   by_cases c:Rb.lackN (QB rs nf z)=n
   . refine qZ (by rw[c];simp) ?_
     obtain⟨dx,fs,hg,e1,e2⟩:=(gr.mono s12).ins
     obtain⟨r,hr',rfl⟩:=tJ.mp hz
     refine⟨_,rfl,g,dx,fs,rfl,hg,e2,_,rfl,g,rs,r,rfl,gr.mono s12,hr',good.nm r hr',λH3 le s3 hle=>?_⟩
     have s4:qm H (upd H3 le (.lst ((jH rs r).map V.str))):=s12.trans (s3.trans (qk hle))
     have hl4:upd H3 le (.lst ((jH rs r).map V.str)) le=some (.lst ((jH rs r).map V.str)):=qd
     generalize upd H3 le (.lst ((jH rs r).map V.str))=H4 at s4 hl4
     refine⟨le,rfl,⟨_,.of hl4⟩,λW hW=>?_⟩
     refine Jf (K:=K) (a:=le) (xs:=jH rs r) (enc:=V.str) (out:=λy=>if (nf y).isNone=true then some (V.str y) else none) (rest:=[some (.ref d)]) hW hl4 (qo (zag (z6 r) (by omega))) ?_ ?_ ?_
     . intro x hx G' s5 R k
       refine⟨_,rfl,_,rfl,d,_,rfl,((hd.mono s4).mono s5).get x,_,rfl,?_⟩
       have:=k G' λ_ _ h=>h
       cases e:nf x with
       | none=>rw[e]at this;exact this
       | some m=>rw[e]at this;exact this
     . intro x hx v ev G' s5 R k
       have:v=V.str x:=by
         split at ev
         . exact(tO.inj ev).symm
         . cases ev
       subst this
       exact⟨_,rfl,k G' λ_ _ h=>h⟩
     . intro G5 s5 hG
       rw[<-XQ (λy=>(nf y).isNone),<-QV good.nd hr']at hG
       have hb:G5 W=some (.lst ((WJ rs nf r.1).map V.str)):=hG
       have s45:=s4.trans s5
       refine⟨_,rfl,W,rfl,⟨_,.of hb⟩,λU hU=>?_⟩
       have bl:(WJ rs nf r.1).length<=14:=zag (zao _ _) (zag (YX r.1) le14)
       refine Jf (K:=K) (a:=W) (xs:=WJ rs nf r.1) (enc:=V.str) (out:=λy=>some (V.bl (decide (n∈QB rs nf y)))) (rest:=[some (.int (n:Nat)),some (.ref g),some (.ref d)]) hU hb (qo (by omega)) ?_ ?_ ?_
       . intro x hx G' s6 R k
         exact k G' λ_ _ h=>h
       . intro x hx v ev G' s6 R k
         obtain rfl:=tO.inj ev
         have hxN:x∈rs.map (·.1):=j7 good.nd _ hz x (tX.mp hx).1
         have sA:=s45.trans s6
         refine⟨_,rfl,_,rfl,_,rfl,_,rfl,g,d,rs,x,nf,rfl,gr.mono sA,good,le14,hxN,hd.mono sA,λH7 l7 s7 hl7 hl7'=>?_⟩
         refine⟨l7,_,rfl,.inl (.of hl7'),rfl,Zp _,?_⟩
         rw[Yk]
         exact k H7 s7
       . intro G6 s6 hG6
         rw[<-ka]at hG6
         refine⟨U,(WJ rs nf r.1).map λy=>decide (n∈QB rs nf y),rfl,.of (by rw[hG6,zaY];rfl),?_⟩
         have:=q G6 (s45.trans s6)
         unfold zE at this
         rw[decide_eq_true c,Bool.true_and]at this
         rw[zcO]
         exact this
   . refine jk (by
       have:¬V.int ((Rb.lackN (QB rs nf z):Nat):Int)=V.int ((n:Nat):Int):=λe=>c (by have:=V.int.inj e;omega)
       rw[decide_eq_false this];rfl) ?_
     have:=q H2 s12
     unfold zE at this
     rw[decide_eq_false c,zcR]at this
     exact this
end
open PySem L2 PyProof.Rows MLab
def jr (H:Hp) (ps:List Addr) (ls:List (List Str)):Prop:=ps.length=ls.length/\∀(i:Nat) (p:Addr) (l:List Str),ps[i]?=some p->ls[i]?=some l->H p=some (.lst (l.map V.str))
theorem jr.mono {H H':Hp} {ps:List Addr} {ls:List (List Str)} (h:jr H ps ls) (s:qm H H'):jr H' ps ls:=⟨h.1,λi p l e1 e2=>s _ _ (h.2 i p l e1 e2)⟩
theorem jr.nil {H:Hp}:jr H [] []:=⟨rfl,λi p l e=>(nomatch e)⟩
theorem QS {α:Type} {xs:List α} {x y:α} {i:Nat} (h:(xs++[x])[i]?=some y):(i < xs.length/\xs[i]?=some y)\/(i=xs.length/\y=x):=by
 by_cases hi:i < xs.length
 . rw[zah hi]at h
   exact .inl ⟨hi,h⟩
 . have hi':i=xs.length:=by
     have:=(tE.mp h).1
     rw[tL,zaF]at this
     omega
   subst hi'
   rw[zad (tF _),zcQ]at h
   exact .inr ⟨rfl,(tO.inj h).symm⟩
theorem jr.snoc {H:Hp} {ps:List Addr} {ls:List (List Str)} {p:Addr} {l:List Str} (h:jr H ps ls) (hp:H p=some (.lst (l.map V.str))):jr H (ps++[p]) (ls++[l]):=by
 refine⟨by rw[tL,tL,h.1];rfl,λi p' l' e1 e2=>?_⟩
 rcases QS e1 with ⟨i1,e1⟩ | ⟨i1,rfl⟩
 . rcases QS e2 with ⟨_,e2⟩ | ⟨i2,_⟩
   . exact h.2 i p' l' e1 e2
   . have:=h.1;omega
 . rcases QS e2 with ⟨i2,_⟩ | ⟨_,rfl⟩
   . have:=h.1;omega
   . exact hp
theorem jr.app {H:Hp} {ps qs:List Addr} {ls ms:List (List Str)} (h:jr H ps ls) (k:jr H qs ms):jr H (ps++qs) (ls++ms):=by
 refine⟨by rw[tL,tL,h.1,k.1],λi p l e1 e2=>?_⟩
 by_cases c:i < ps.length
 . rw[zah c]at e1
   rw[zah (by rw[<-h.1];exact c)]at e2
   exact h.2 i p l e1 e2
 . rw[zad (by omega)]at e1
   rw[zad (by rw[<-h.1];omega)]at e2
   rw[<-h.1]at e2
   exact k.2 _ p l e1 e2
theorem jr.fr {H H':Hp} {ps:List Addr} {ls:List (List Str)} {d:Addr} {kvs:List (qL×V)} (h:jr H ps ls) (hd:H d=some (.dK kvs)) (f:Fr H d H'):jr H' ps ls:=⟨h.1,λi p l e1 e2=>f _ _ (h.2 i p l e1 e2) (λe=>by have:=h.2 i p l e1 e2;rw[e,hd]at this;cases this)⟩
theorem jn.fr {N:List Str} {H H':Hp} {d e:Addr} {f:Str->Option Nat} (h:jn N H d f) (s:Fr H e H') (ne:d≠e):jn N H' d f:=⟨let ⟨kvs,a,b⟩:=h.at_;⟨kvs,s _ _ a ne,b⟩⟩
theorem jn.congr {N:List Str} {H:Hp} {d:Addr} {f g:Str->Option Nat} (h:jn N H d f) (e:∀z,f z=g z):jn N H d g:=⟨let ⟨kvs,a,b,c⟩:=h.at_;⟨kvs,a,λz=>by rw[b z,e z],c⟩⟩
def Uu (CG:Addr) (H:Hp) (g d:Addr):Prop:=∀dx lo rd,H g=some (.ins CG dx [("order",.ref lo),("roads",.ref rd)])->rd≠d
theorem Qi.fr {CG:Addr} {H H':Hp} {a d:Addr} {rs:qW} (h:Qi CG H a rs) (hd:∃kvs:List (qL×V),H d=some (.dK kvs)) (ap:Uu CG H a d) (s:Fr H d H'):Qi CG H' a rs:=by
 obtain⟨dx,lo,rd,kv,h1,h2,h3,h4⟩:=h
 obtain⟨kvs,hd⟩:=hd
 have ne:∀{b:Addr} {o:HO},H b=some o->(∀kv:List (qL×V),o≠.dK kv)->b≠d:=λhb no e=>by rw[e,hd]at hb;exact no kvs (tO.inj hb).symm
 refine⟨dx,lo,rd,kv,s _ _ h1 (ne h1 (λ_=>by simp)),s _ _ h2 (ne h2 (λ_=>by simp)),s _ _ h3 (ap dx lo rd h1),λr hr=>let ⟨q,a,b⟩:=h4 r hr;⟨q,a,s _ _ b (ne b (λ_=>by simp))⟩⟩
def YC (f:Str->Option Nat) (n:Nat) (ns:List Str):Str->Option Nat:=λz=>if z∈ns then some n else f z
theorem uw {R:Rs Str} {n:Nat} {ns:List Str} (h:∀z∈ns,qE R z=none) (z:Str):YC (qE R) n ns z=qE (R++[(n,ns)]) z:=by
 unfold YC
 rw[JP]
 by_cases c:z∈ns
 . rw[if_pos c,h z c]
   show _=if z∈ns then some n else none
   rw[if_pos c]
 . rw[if_neg c]
   cases qE R z with
   | some m=>rfl
   | none=>
     show none=if z∈ns then some n else none
     rw[if_neg c]
theorem KC {R:Rs Str} {n:Nat} {ls:List (List Str)} {l:List Str}:R++(ls++[l]).map (λx=>(n,x))=(R++ls.map λx=>(n,x))++[(n,l)]:=by
 rw[tN,zcD]
 rfl
def xx (CG:Addr):Sp:=λvs H Q _=>∃(g d:Addr) (rs:qW) (R:Rs Str) (n:Nat),vs=[.ref g,.ref d,.int (n:Nat)]/\Qi CG H g rs/\qu rs/\rs.length<=14/\jn (rs.map (·.1)) H d (qE R)/\Uu CG H g d/\
 ∀H' l ps ls,H l=none->H' l=some (.lst (ps.map V.ref))->jr H' ps ls->(∀p∈ps,H p=none)->jn (rs.map (·.1)) H' d (qE (R++ls.map λx=>(n,x)))->Qw (Qx rs) (rs.map (·.1)) n R (R++ls.map λx=>(n,x))->Fr H d H'->Q (.ref l) H'
def Ql (rs:qW) (f:Str->Option Nat):Nat:=((rs.map (·.1)).filter λz=>(f z).isNone).length
theorem Vp {rs:qW} {R:Rs Str} {n:Nat} {ns:List Str} (h:∀z∈ns,z∈rs.map (·.1)/\qE R z=none) (ne:ns≠[]):Ql rs (qE (R++[(n,ns)])) < Ql rs (qE R):=by
 unfold Ql
 generalize rs.map (·.1)=N at*
 have sub:(N.filter λz=>(qE (R++[(n,ns)]) z).isNone).Sublist (N.filter λz=>(qE R z).isNone):=by
   have e:(N.filter λz=>(qE (R++[(n,ns)]) z).isNone)=(N.filter λz=>(qE R z).isNone).filter λz=>(qE (R++[(n,ns)]) z).isNone:=by
     rw[List.filter_filter]
     refine zbT λz _=>?_
     cases c:(qE (R++[(n,ns)]) z).isNone with
     | false=>simp
     | true=>
       have:=uB (by simpa using c)
       rw[this]
       rfl
   rw[e]
   exact zbf
 obtain⟨z0,r,e0⟩:=zbw ne
 have m0:z0∈ns:=by rw[e0];exact zaa
 obtain⟨hz,ez⟩:=h z0 m0
 rcases zbr (N.filter λz=>(qE (R++[(n,ns)]) z).isNone).length (N.filter λz=>(qE R z).isNone).length with c | c
 . exact c
 . have e:=sub.eq_of_length_le c
   have m:z0∈N.filter λz=>(qE R z).isNone:=tX.mpr ⟨hz,by rw[ez];rfl⟩
   rw[<-e]at m
   have:=(tX.mp m).2
   rw[kl ez m0]at this
   cases this
def Jg (N:List Str) (H:Hp) (d:Addr):Nat:=match H d with
 | some (.dK kvs)=>(N.filter λz=>(ji kvs (Sum.inr z:qL)).isNone).length
 | _=>0
theorem jn.bare {rs:qW} {H:Hp} {d:Addr} {f:Str->Option Nat} (h:jn (rs.map (·.1)) H d f):Jg (rs.map (·.1)) H d=Ql rs f:=by
 obtain⟨kvs,a,b,_⟩:=h.at_
 unfold Jg Ql
 rw[a]
 show ((rs.map (·.1)).filter λz=>(ji kvs (Sum.inr z:qL)).isNone).length=_
 congr 1
 refine zbT λz _=>?_
 rw[b z]
 cases f z<;>rfl
section
variable {P:Program} {w:World} {K:PySem.W.Frag} {mg:Str->Option Value} {base:Heap}
abbrev NT:List Str:=["ground","numbered","number","bare"]
abbrev Q5:List Str:=["ground","numbered","number"]
theorem vI:qp NT Q5 (qh zZ):=⟨rfl,rfl,rfl,by decide+kernel,rfl,by decide+kernel,by decide+kernel⟩
theorem wB {f fB fL fG CG:Addr} {fd fdB fdL fdG:FuncData} (F:jU K "round_of" "round_of" zZ f fd) (B:QF mg) (G:Qv mg) (T:QE K mg) (M:GM K mg CG) (hB:qY K mg "numbers_behind" RQ uT fB fdB) (hL:qY K mg "lacking" Qp ["numbers"] fL fdL) (hG:qY K mg "gets_number" Xp Xw fG fdG):ql P w K mg base qG 5 f fd Q5 (vw CG):=by
 have GG:ql P w K mg base qG 4 fG fdG Xw (xA CG):=K7 hG.fn B G T M hB hL
 obtain⟨fC,fdC,C⟩:=M.cls
 obtain⟨fM,fdM,hM⟩:=M.nm
 have GM:ql P w K mg base qG 1 fM fdM ["self"] (za CG):=z8 hM.fn C G
 refine F.okJ vI (λvs H Q E h=>?_) (λcdv A outer s H vs Q E hr h=>?_)
 . obtain⟨g,d,rs,nf,n,rfl,_⟩:=h
   rfl
 . obtain⟨g,d,rs,nf,n,rfl,gr,good,le14,hd,q⟩:=h
   have hu:=jR hr
   have r1:qS 1 _:=hr.mono (by decide)
   refine⟨_,qe (Jb (i:=3) (N':=["name","numbered"]) (ix:=[none,some 1]) vI.nd rfl (Or.inl rfl) rfl ⟨rfl,rfl,rfl,rfl,rfl⟩ (qI (ue hM C.cl GM r1 (jv 0))) (λC s2 H2 fp pins=>
       ⟨qv (i:=0) (show (["name","numbered"]:List Str).Nodup by decide+kernel) rfl (Or.inl rfl),jJ (Qr (JM hu (jv 0) (jv 1))),jv 0⟩))
     (qg (qw (j6 (N':=["name","ground","numbered","number"]) (ix:=[none,some 0,some 1,some 2]) rfl ⟨rfl,rfl,rfl,rfl,rfl⟩ (qI (jv 3)) (λC s2 H2 fp pins=>
       ⟨qv (i:=0) (show (["name","ground","numbered","number"]:List Str).Nodup by decide+kernel) rfl (Or.inl rfl),jJ (jZ (qH hG GG hr (by rfl) (qb (jv 1) (qb (jv 2) (qb (jv 0) (qb (jv 3) qf)))))),jv 0⟩)))),?_⟩
   obtain⟨dx,fs,hg,l1,l2⟩:=gr.ins
   refine⟨_,rfl,g,dx,fs,rfl,hg,l1,g,rs,rfl,gr,λln hln=>⟨ln,rfl,⟨_,.of qd⟩,λW hW=>?_⟩⟩
   have s2:qm H (upd H ln (.lst ((rs.map (·.1)).map V.str))):=qk hln
   have hl2:upd H ln (.lst ((rs.map (·.1)).map V.str)) ln=some (.lst ((rs.map (·.1)).map V.str)):=qd
   generalize upd H ln (.lst ((rs.map (·.1)).map V.str))=H2 at s2 hl2 hW
   refine Jf (K:=K) (a:=ln) (xs:=rs.map (·.1)) (enc:=V.str) (out:=λy=>if (nf y).isNone=true then some (V.str y) else none) (rest:=[some (.ref d)]) hW hl2 (qo (by rw[tj];omega)) ?_ ?_ ?_
   . intro x hx G' s5 R k
     refine⟨_,rfl,_,rfl,d,_,rfl,((hd.mono s2).mono s5).get x,_,rfl,?_⟩
     have:=k G' λ_ _ h=>h
     cases e:nf x with
     | none=>rw[e]at this;exact this
     | some m=>rw[e]at this;exact this
   . intro x hx v ev G' s5 R k
     have:v=V.str x:=by
       split at ev
       . exact(tO.inj ev).symm
       . cases ev
     subst this
     exact⟨_,rfl,k G' λ_ _ h=>h⟩
   . intro G5 s5 hG5
     rw[<-XQ (λy=>(nf y).isNone)]at hG5
     have s25:=s2.trans s5
     refine⟨_,rfl,W,rfl,⟨_,.of hG5⟩,λU hU=>?_⟩
     have bl:((rs.map (·.1)).filter λy=>(nf y).isNone).length<=14:=zag (zao _ _) (by rw[tj];exact le14)
     refine Jf (K:=K) (a:=W) (xs:=(rs.map (·.1)).filter λy=>(nf y).isNone) (enc:=V.str) (out:=λy=>if zE rs nf y n=true then some (V.str y) else none) (rest:=[some (.ref g),some (.ref d),some (.int (n:Nat))]) hU hG5 (qo (by omega)) ?_ ?_ ?_
     . intro x hx G' s6 R k
       have sA:=s25.trans s6
       refine⟨_,rfl,_,rfl,_,rfl,_,rfl,g,d,rs,x,nf,n,rfl,gr.mono sA,good,le14,(tX.mp hx).1,hd.mono sA,λH7 s7=>⟨_,rfl,?_⟩⟩
       have:=k H7 s7
       cases e:zE rs nf x n with
       | true=>rw[e]at this;exact this
       | false=>rw[e]at this;exact this
     . intro x hx v ev G' s6 R k
       have:v=V.str x:=by
         split at ev
         . exact(tO.inj ev).symm
         . cases ev
       subst this
       exact⟨_,rfl,k G' λ_ _ h=>h⟩
     . intro G6 s6 hG6
       rw[<-XQ (λy=>zE rs nf y n)]at hG6
       exact q G6 U (s25.trans s6) (jt s25 hU) hG6
abbrev qav:List Str:=["ground","numbered","number","rounds","names","name"]
theorem Xh:qp qav Q5 (qh VO):=⟨rfl,rfl,rfl,by decide+kernel,rfl,by decide+kernel,by decide+kernel⟩
theorem K6 {f fB fL fG fR CG:Addr} {fd fdB fdL fdG fdR:FuncData} (F:jU K "give_number" "give_number" VO f fd) (B:QF mg) (G:Qv mg) (T:QE K mg) (M:GM K mg CG) (hB:qY K mg "numbers_behind" RQ uT fB fdB) (hL:qY K mg "lacking" Qp ["numbers"] fL fdL) (hG:qY K mg "gets_number" Xp Xw fG fdG)
   (hR:qY K mg "round_of" zZ Q5 fR fdR):ql P w K mg base qG 6 f fd Q5 (xx CG):=by
 have GR:ql P w K mg base qG 5 fR fdR Q5 (vw CG):=wB hR.fn B G T M hB hL hG
 refine F.okJ Xh (λvs H Q E h=>?_) (λcdv A outer s H vs Q E hr h=>?_)
 . obtain⟨g,d,rs,R,n,rfl,_⟩:=h
   rfl
 . obtain⟨g,d,rs,R,n,rfl,gr,good,le14,hd,ap,q⟩:=h
   have hu:=jR hr
   refine⟨_,qe (qy (i:=3) Xh.nd rfl (Or.inl rfl) (jA qf))
     (qe (qy (i:=4) Xh.nd rfl (Or.inl rfl) (qH hR GR hr (by rfl) (qb (jv 0) (qb (jv 1) (qb (jv 2) qf)))))
     (qe (zA PassesOwn.never (qt zr (qF qR (by rfl) B.len boot_len (qb (jv 4) qf)) qi (qB _))
       (qe (jd PassesOwn.never rfl (qI (jv 4)) (qv (i:=5) Xh.nd rfl (Or.inl rfl)) (qg (jy hu (jv 1) (jv 5) (jv 2) rfl)))
       (qe (jC (ZN zav zbl zbm QZ (jv 3) (qb (jv 4) qf)))
       (qg (qy (i:=4) Xh.nd rfl (Or.inl rfl) (qH hR GR hr (by rfl) (qb (jv 0) (qb (jv 1) (qb (jv 2) qf)))))))))
     (qg (qw (jv 3))))),?_⟩
   refine⟨by show 0<=sizeLine;decide,λlr hlr=>?_⟩
   have sr:qm H (upd H lr (.lst [])):=qk hlr
   refine⟨_,rfl,_,rfl,_,rfl,g,d,rs,qE R,n,rfl,gr.mono sr,good,le14,hd.mono sr,λH1 l1 s1 hl1 hl1'=>?_⟩
   obtain⟨kv0,hd0⟩:=hd.isd
   have nrd:lr≠d:=λe=>by rw[e,hd0]at hlr;cases hlr
   refine Z3 (λσ H'=>∃(v5:Option V) (l:Addr) (ps:List Addr) (ls:List (List Str)),σ=[some (.ref g),some (.ref d),some (.int (n:Nat)),some (.ref lr),some (.ref l),v5]/\Fr H d H'/\H' lr=some (.lst (ps.map V.ref))/\jr H' ps ls/\
       jn (rs.map (·.1)) H' d (qE (R++ls.map λx=>(n,x)))/\H' l=some (.lst ((xW rs (qE (R++ls.map λx=>(n,x))) n).map V.str))/\(∀R',Qw (Qx rs) (rs.map (·.1)) n (R++ls.map λx=>(n,x)) R'->Qw (Qx rs) (rs.map (·.1)) n R R')/\l≠lr/\(∀p∈ps,p≠lr)/\H l=none/\(∀p∈ps,H p=none)/\ls.length+Ql rs (qE (R++ls.map λx=>(n,x)))<=14)
     (λ_ H'=>Jg (rs.map (·.1)) H' d)
     ⟨none,l1,[],[],rfl,λb u hb _=>s1 _ _ (sr _ _ hb),s1 _ _ qd,.nil,?_,?_,?_,(λe=>by rw[e,qd]at hl1;cases hl1),λp h=>(nomatch h),jt sr hl1,λp h=>(nomatch h),?_⟩ ?_ ?_
   . have:=(hd.mono sr).mono s1
     simpa using this
   . simpa using hl1'
   . intro R' h
     simpa using h
   . show 0+_<=14
     rw[zdR]
     refine zag (zao _ _) ?_
     rw[tj]
     exact le14
   . rintro σ H' ⟨v5,l,ps,ls,rfl,fr,hlr',rnds,num,hl,gv,nl,np,l0,p0,bd⟩
     have grH:Qi CG H' g rs:=gr.fr ⟨kv0,hd0⟩ ap fr
     obtain⟨kv1,hd1⟩:=num.isd
     generalize hR1:R++ls.map (λx=>(n,x))=R1 at*
     refine⟨_,rfl,l,_,rfl,.inl (.of hl),_,_,rfl,rfl,_,rfl,?_⟩
     rw[tj]
     generalize hns:xW rs (qE R1) n=ns at*
     have rnd:Ur (Qx rs) (rs.map (·.1)) R1 n ns:=hns▸KD rs R1 n
     have nsN:∀z∈ns,z∈rs.map (·.1)/\qE R1 z=none:=λz hz=>let ⟨a,b,_⟩:=(rnd.iff z).mp hz;⟨a,b⟩
     have nsnd:ns.Nodup:=by
       rw[<-hns]
       exact good.nd.sublist (zbf.trans zbf)
     have nslen:ns.length<=14:=by
       have:=J1 nsnd λz hz=>(nsN z hz).1
       rw[tj]at this
       omega
     cases c:ns with
     | nil=>
       subst c
       refine qZ (by decide) ?_
       refine⟨_,rfl,?_⟩
       have:=gv R1 (.stop rnd)
       rw[<-hR1]at this num
       exact q H' lr ps ls hlr hlr' rnds p0 num this fr
     | cons z0 rest=>
       have ne:ns≠[]:=by rw[c];simp
       rw[<-c]
       clear c
       refine jk (decide_eq_true (by have:=zbF.mpr ne;show (0:Int) < (ns.length:Int);omega)) ?_
       have nld:l≠d:=λe=>by rw[e,hd1]at hl;cases hl
       refine⟨_,rfl,l,rfl,⟨_,.of hl⟩,?_⟩
       refine jw (K:=K) (a:=l) (xs:=ns.map V.str) (λi σ' G'=>∃v5,σ'=[some (.ref g),some (.ref d),some (.int (n:Nat)),some (.ref lr),some (.ref l),v5]/\jn (rs.map (·.1)) G' d (YC (qE R1) n (ns.take i))/\Fr H' d G')
         ⟨v5,rfl,num.congr λz=>by unfold YC;rw[zdE,if_neg (by simp)],Fr.refl⟩ (λi σ' G' _ ⟨_,_,_,f⟩=>.of (f _ _ hl nld)) ?_ ?_
       . rintro i y σ' G' hy ⟨v5',rfl,numG,frG⟩
         obtain⟨z,ez,hz,rfl⟩:=Qa hy
         have il:=(tE.mp ez).1
         have nt:z∉ns.take i:=λm=>by
           obtain⟨j,hj⟩:=zbc m
           rw[zcX]at hj
           split at hj
           . have h1:=(tE.mp hj)
             have h2:=(tE.mp ez)
             have:=wU nsnd (h1.2.trans h2.2.symm)
             omega
           . cases hj
         obtain⟨H2,put,num2,o2,e2⟩:=numG.put (n:=n) (nsN z hz).1 (by unfold YC;rw[if_neg nt];exact(nsN z hz).2) (by rw[tj];exact le14)
         refine⟨_,rfl,_,rfl,_,rfl,d,H2,rfl,put,_,rfl,num2.congr λy=>?_,?_⟩
         . unfold YC
           rw[tR,ez]
           by_cases e:y=z
           . subst e;rw[if_pos rfl,if_pos (by simp)]
           . rw[if_neg e]
             by_cases m:y∈ns.take i
             . rw[if_pos m,if_pos (zai _ m)]
             . rw[if_neg m,if_neg (by simp [m,e])]
         . rw[e2]
           exact frG.at_d
       . rintro σ' G' ⟨v5',rfl,numG,frG⟩
         rw[tj,tK (tF _)]at numG
         have numG:=numG.congr (uw λz hz=>(nsN z hz).2)
         have lrG:=frG _ _ hlr' nrd
         have lG:=frG _ _ hl nld
         have rG:=rnds.fr hd1 frG
         have fr2:=fr.trans frG
         have blt:=Vp (n:=n) nsN ne
         refine⟨_,rfl,.inl ⟨rfl,_,.of lrG⟩,_,rfl,lr,_,_,rfl,rfl,lrG,by rw[tj,rnds.1];exact qo (by omega),?_⟩
         have e5:ps.map V.ref++[V.ref l]=(ps++[l]).map V.ref:=by rw[tN];rfl
         rw[e5]
         have fr3:Fr H d (upd G' lr (.lst ((ps++[l]).map V.ref))):=fr2.own hlr
         have r3:jr (upd G' lr (.lst ((ps++[l]).map V.ref))) (ps++[l]) (ls++[ns]):=by
           refine jr.snoc ⟨rG.1,λi p x e1 e2=>?_⟩ (by rw[qj nl];exact lG)
           rw[qj (np p (tZ e1))]
           exact rG.2 i p x e1 e2
         have lr3:upd G' lr (.lst ((ps++[l]).map V.ref)) lr=some (.lst ((ps++[l]).map V.ref)):=qd
         have num3:jn (rs.map (·.1)) (upd G' lr (.lst ((ps++[l]).map V.ref))) d (qE (R1++[(n,ns)])):=⟨let ⟨kvs,a,b⟩:=numG.at_;⟨kvs,by rw[qj (Ne.symm nrd)];exact a,b⟩⟩
         generalize upd G' lr (.lst ((ps++[l]).map V.ref))=G3 at fr3 r3 lr3 num3 ⊢
         refine⟨_,rfl,_,rfl,_,rfl,g,d,rs,qE (R1++[(n,ns)]),n,rfl,gr.fr ⟨kv0,hd0⟩ ap fr3,good,le14,num3,λH4 l4 s4 hl4 hl4'=>?_⟩
         have eR:R++(ls++[ns]).map (λx=>(n,x))=R1++[(n,ns)]:=by rw[KC,hR1]
         refine⟨⟨v5',l4,ps++[l],ls++[ns],rfl,fr3.same s4,s4 _ _ lr3,r3.mono s4,?_,?_,?_,(λe=>by rw[e,lr3]at hl4;cases hl4),?_,?_,?_,?_⟩,?_⟩
         . rw[eR];exact num3.mono s4
         . rw[eR];exact hl4'
         . rw[eR];exact λR' h=>gv R' (.more rnd ne h)
         . intro p hp
           rcases tV.mp hp with hp | hp
           . exact np p hp
           . rw[zae.mp hp];exact nl
         . obtain⟨kv3,hd3⟩:=num3.isd
           exact fr3.fresh hd3 hl4
         . intro p hp
           rcases tV.mp hp with hp | hp
           . exact p0 p hp
           . rw[zae.mp hp];exact l0
         . rw[eR,tL,zaF]
           omega
         . rw[(num3.mono s4).bare,num.bare]
           exact blt
   . rintro σ H' Q Q' h ⟨v,e,p,ys,e2,h1,i,j,e3,e4,b,e5,h2⟩
     exact⟨v,e,p,ys,e2,h1,i,j,e3,e4,b,e5,h _ _ h2⟩
end
open PySem L2 PyProof.Rows MLab
theorem uu {G:Str->List Str} {N:List Str} {n:Nat} {R R':Rs Str} (h:Qw G N n R R'):(R'=R/\Ur G N R n [])\/R.length < R'.length:=by
 induction h with
 | stop r=>exact .inl ⟨rfl,r⟩
 | more r ne k ih=>
   right
   rcases ih with ⟨e,_⟩ | lt
   . rw[e,tL];exact zaI _
   . rw[tL]at lt
     exact zbU lt
theorem yP {G:Str->List Str} {N:List Str} {n:Nat} {R:Rs Str} (h:Qw G N n R R):Ur G N R n []:=by
 rcases uu h with ⟨_,r⟩ | lt
 . exact r
 . exact absurd lt (zaw _)
structure vc (N:List Str) (R:Rs Str):Prop where
 sub:∀r∈R,∀z∈r.2,z∈N
 dis:R.Pairwise λr r'=>∀z∈r.2,z∉r'.2
 ne:∀r∈R,r.2≠[]
 srt:∀r∈R,r.2.Sublist N
theorem vc.nil {N:List Str}:vc N []:=⟨λ_ h=>(nomatch h),zdG.nil,λ_ h=>(nomatch h),λ_ h=>(nomatch h)⟩
theorem vc.more {G:Str->List Str} {N:List Str} {R:Rs Str} {n:Nat} {ns:List Str} (o:vc N R) (r:Ur G N R n ns) (ne:ns≠[]):vc N (R++[(n,ns)]):=by
 refine⟨λx hx z hz=>?_,zdD.mpr ⟨o.dis,zcs _ _,λa ha b hb z hz hb'=>?_⟩,λx hx=>?_,λx hx=>?_⟩
 . rcases tV.mp hx with hx | hx
   . exact o.sub x hx z hz
   . rw[zae.mp hx]at hz
     exact((r.iff z).mp hz).1
 . rw[zae.mp hb]at hb'
   exact YZ.mp ((r.iff z).mp hb').2.1 a ha hz
 . rcases tV.mp hx with hx | hx
   . exact o.ne x hx
   . rw[zae.mp hx];exact ne
 . rcases tV.mp hx with hx | hx
   . exact o.srt x hx
   . rw[zae.mp hx];exact r.sub
theorem Ua {G:Str->List Str} {N:List Str} {n:Nat} {R R':Rs Str} (h:Qw G N n R R'):vc N R->vc N R':=by
 induction h with
 | stop r=>exact id
 | more r ne k ih=>exact λo=>ih (o.more r ne)
theorem kz {G:Str->List Str} {N:List Str} {n:Nat} {R R':Rs Str} (h:All G N n R R'):vc N R->vc N R':=by
 induction h with
 | stop r=>exact id
 | more g ne k ih=>exact λo=>ih (Ua g o)
theorem yQ {rs:qW} {n:Nat} {R R':Rs Str} (h:Qw (Qx rs) (rs.map (·.1)) n R R'):Ql rs (qE R')<=Ql rs (qE R)/\(R'≠R->Ql rs (qE R') < Ql rs (qE R)):=by
 induction h with
 | stop r=>exact⟨tF _,λe=>absurd rfl e⟩
 | more r ne k ih=>
   have:=Vp (λz hz=>let ⟨a,b,_⟩:=(r.iff z).mp hz;⟨a,b⟩) ne (n:=n) (rs:=rs)
   exact⟨by omega,λ_=>by omega⟩
theorem W4 {N:List Str}:∀{R:Rs Str},vc N R->R.length<=N.length:=λ{R} o=>by
 have key:∀R:Rs Str,(R.Pairwise λr r'=>∀z∈r.2,z∉r'.2)->(∀r∈R,r.2≠[])->∃zs:List Str,zs.length=R.length/\zs.Nodup/\∀z∈zs,∃r∈R,z∈r.2:=by
   intro R
   induction R with
   | nil=>exact λ_ _=>⟨[],rfl,zbo,λz h=>(nomatch h)⟩
   | cons r R ih=>
     intro p ne
     obtain⟨zs,l,nd,sub⟩:=ih (zdK.mp p).2 (λx hx=>ne x (tU _ hx))
     obtain⟨z,t,e⟩:=zbw (ne r zaa)
     have hz:z∈r.2:=by rw[e];exact zaa
     refine⟨z::zs,by simp [l],zam.mpr ⟨λm=>?_,nd⟩,λy hy=>?_⟩
     . obtain⟨r',hr',hz'⟩:=sub z m
       exact(zdK.mp p).1 r' hr' z hz hz'
     . rcases t8.mp hy with rfl | hy
       . exact⟨r,zaa,hz⟩
       . obtain⟨r',hr',h⟩:=sub y hy
         exact⟨r',tU _ hr',h⟩
 obtain⟨zs,l,nd,sub⟩:=key R o.dis o.ne
 rw[<-l]
 exact J1 nd λz hz=>let ⟨r,hr,h⟩:=sub z hz;o.sub r hr z h
def vG (CG:Addr):Sp:=λvs H Q _=>∃(g d:Addr) (rs:qW),vs=[.ref g,.ref d]/\Qi CG H g rs/\qu rs/\rs.length<=14/\jn (rs.map (·.1)) H d (qE [])/\Uu CG H g d/\
 ∀H' l ps R,H l=none->H' l=some (.lst (ps.map V.ref))->jr H' ps (R.map (·.2))->(∀p∈ps,H p=none)->jn (rs.map (·.1)) H' d (qE R)->All (Qx rs) (rs.map (·.1)) 0 [] R->Fr H d H'->Q (.ref l) H'
section
variable {P:Program} {w:World} {K:PySem.W.Frag} {mg:Str->Option Value} {base:Heap}
abbrev NY:List Str:=["ground","numbered","rounds","number","more"]
abbrev W2:List Str:=["ground","numbered"]
theorem Zw:qp NY W2 (qh WY):=⟨rfl,rfl,rfl,by decide+kernel,rfl,by decide+kernel,by decide+kernel⟩
theorem wN {f fB fL fG fR fV CG:Addr} {fd fdB fdL fdG fdR fdV:FuncData} (F:jU K "give_numbers" "give_numbers" WY f fd) (B:QF mg) (G:Qv mg) (T:QE K mg) (M:GM K mg CG) (hB:qY K mg "numbers_behind" RQ uT fB fdB) (hL:qY K mg "lacking" Qp ["numbers"] fL fdL) (hG:qY K mg "gets_number" Xp Xw fG fdG)
   (hR:qY K mg "round_of" zZ Q5 fR fdR) (hV:qY K mg "give_number" VO Q5 fV fdV):ql P w K mg base qG 7 f fd W2 (vG CG):=by
 have GV:ql P w K mg base qG 6 fV fdV Q5 (xx CG):=K6 hV.fn B G T M hB hL hG hR
 refine F.okJ Zw (λvs H Q E h=>?_) (λcdv A outer s H vs Q E hr h=>?_)
 . obtain⟨g,d,rs,rfl,_⟩:=h
   rfl
 . obtain⟨g,d,rs,rfl,gr,good,le14,hd,ap,q⟩:=h
   have hu:=jR hr
   refine⟨_,qe (qy (i:=2) Zw.nd rfl (Or.inl rfl) (jA qf))
     (qe (qy (i:=3) Zw.nd rfl (Or.inl rfl) qi)
     (qe (qy (i:=4) Zw.nd rfl (Or.inl rfl) (qH hV GV hr (by rfl) (qb (jv 0) (qb (jv 1) (qb (jv 3) qf)))))
     (qe (zA PassesOwn.never (qt zr (qF qR (by rfl) B.len boot_len (qb (jv 4) qf)) qi (qB _))
       (qe (jC (ZN zav zci zcj Yc (jv 2) (qb (jv 4) qf)))
       (qe (ua (i:=3) Zw.nd rfl (Or.inl rfl) qi uk)
       (qg (qy (i:=4) Zw.nd rfl (Or.inl rfl) (qH hV GV hr (by rfl) (qb (jv 0) (qb (jv 1) (qb (jv 3) qf)))))))))
     (qg (qw (jv 2)))))),?_⟩
   refine⟨by show 0<=sizeLine;decide,λlr hlr=>?_⟩
   have sr:qm H (upd H lr (.lst [])):=qk hlr
   obtain⟨kv0,hd0⟩:=hd.isd
   have nrd:lr≠d:=λe=>by rw[e,hd0]at hlr;cases hlr
   have apm:∀{H':Hp},Fr H d H'->Uu CG H' g d:=λfr dx lo rd h=>by
     obtain⟨dx',lo',rd',kvs',h1,_⟩:=gr
     have:=fr _ _ h1 (λe=>by rw[e,hd0]at h1;cases h1)
     rw[h]at this
     cases this
     exact ap _ _ _ h1
   have fr0:Fr H d (upd H lr (.lst [])):=Fr.refl.own hlr
   refine⟨_,rfl,_,rfl,_,rfl,g,d,rs,[],0,rfl,gr.mono sr,good,le14,hd.mono sr,apm fr0,λH1 l1 ps1 ls1 hl1 hl1' rn1 pn1 num1 gv1 fr1=>?_⟩
   refine Z3 (λσ H'=>∃(l:Addr) (n:Nat) (ps ps1:List Addr) (R:Rs Str) (ls:List (List Str)),σ=[some (.ref g),some (.ref d),some (.ref lr),some (.int (n:Nat)),some (.ref l)]/\Fr H d H'/\H' lr=some (.lst (ps.map V.ref))/\jr H' ps (R.map (·.2))/\H' l=some (.lst (ps1.map V.ref))/\jr H' ps1 ls/\
       jn (rs.map (·.1)) H' d (qE (R++ls.map λx=>(n,x)))/\Qw (Qx rs) (rs.map (·.1)) n R (R++ls.map λx=>(n,x))/\(∀R',All (Qx rs) (rs.map (·.1)) n R R'->All (Qx rs) (rs.map (·.1)) 0 [] R')/\l≠lr/\(∀p∈ps,p≠lr/\H p=none)/\(∀p∈ps1,p≠lr/\H p=none)/\vc (rs.map (·.1)) R)
     (λσ H'=>Jg (rs.map (·.1)) H' d*2+(match σ with | [_,_,_,_,some (.ref l)]=>(match H' l with | some (.lst (_::_))=>1 | _=>0) | _=>0))
     ⟨l1,0,[],ps1,[],ls1,rfl,fr0.trans fr1,fr1 _ _ qd nrd,.nil,hl1',rn1,num1,gv1,λR' h=>h,(λe=>by rw[e,qd]at hl1;cases hl1),λp h=>(nomatch h),?_,.nil⟩ ?_ ?_
   . intro p hp
     have h1:=pn1 p hp
     have h2:p≠lr:=λe=>by rw[e,qd]at h1;cases h1
     exact⟨h2,by rw[qj h2]at h1;exact h1⟩
   . rintro σ H' ⟨l,n,ps,ps1,R,ls,rfl,fr,hlr',rnds,hl,rn,num,gv,al,nl,np,np1,od⟩
     obtain⟨kv1,hd1⟩:=num.isd
     have od':=Ua gv od
     have ol:=W4 od'
     rw[tL,tj,tj]at ol
     refine⟨_,rfl,l,_,rfl,.inl (.of hl),_,_,rfl,rfl,_,rfl,?_⟩
     rw[tj]
     cases c:ls with
     | nil=>
       subst c
       have e0:ps1=[]:=zaA rn.1
       subst e0
       rw[zcw,zax]at gv num
       refine qZ (by decide) ⟨_,rfl,?_⟩
       exact q H' lr ps R hlr hlr' rnds (λp hp=>(np p hp).2) num (al R (.stop (yP gv))) fr
     | cons x0 rest=>
       have ne:ls≠[]:=by rw[c];simp
       clear c
       have lp:ps1.length=ls.length:=rn.1
       have pos:=zbF.mpr ne
       refine jk (decide_eq_true (by show (0:Int) < (ps1.length:Int);omega)) ?_
       refine⟨_,rfl,.inl ⟨rfl,_,.of hlr'⟩,_,rfl,lr,l,_,_,rfl,rfl,hlr',hl,?_,?_⟩
       . rw[tj,tj,rnds.1,tj,lp]
         exact zak (qo (by omega))
       . have e5:ps.map V.ref++ps1.map V.ref=(ps++ps1).map V.ref:=by rw[tN]
         rw[e5]
         have fr3:Fr H d (upd H' lr (.lst ((ps++ps1).map V.ref))):=fr.own hlr
         have lr3:upd H' lr (.lst ((ps++ps1).map V.ref)) lr=some (.lst ((ps++ps1).map V.ref)):=qd
         have r3:jr (upd H' lr (.lst ((ps++ps1).map V.ref))) (ps++ps1) ((R++ls.map λx=>(n,x)).map (·.2)):=by
           have ee:(R++ls.map λx=>(n,x)).map (·.2)=R.map (·.2)++ls:=by
             rw[tN,zaY]
             congr 1
             exact List.map_id ls
           rw[ee]
           refine jr.app ⟨rnds.1,λi p x e1 e2=>?_⟩ ⟨rn.1,λi p x e1 e2=>?_⟩
           . rw[qj (np p (tZ e1)).1]
             exact rnds.2 i p x e1 e2
           . rw[qj (np1 p (tZ e1)).1]
             exact rn.2 i p x e1 e2
         have num3:jn (rs.map (·.1)) (upd H' lr (.lst ((ps++ps1).map V.ref))) d (qE (R++ls.map λx=>(n,x))):=⟨let ⟨kvs,a,b⟩:=num.at_;⟨kvs,by rw[qj (Ne.symm nrd)];exact a,b⟩⟩
         have neR:R++ls.map (λx=>(n,x))≠R:=λe=>by
           have:=congrArg zaz e
           rw[tL,tj]at this
           omega
         generalize R++ls.map (λx=>(n,x))=R1 at*
         generalize upd H' lr (.lst ((ps++ps1).map V.ref))=G3 at fr3 r3 lr3 num3 ⊢
         obtain⟨kv3,hd3⟩:=num3.isd
         refine⟨_,rfl,_,_,rfl,rfl,?_⟩
         refine⟨_,rfl,_,rfl,_,rfl,g,d,rs,R1,n+1,rfl,gr.fr ⟨kv0,hd0⟩ ap fr3,good,le14,num3,apm fr3,λH4 l4 ps4 ls4 hl4 hl4' rn4 pn4 num4 gv4 fr4=>?_⟩
         refine⟨⟨l4,n+1,ps++ps1,ps4,R1,ls4,rfl,fr3.trans fr4,fr4 _ _ lr3 nrd,r3.fr hd3 fr4,hl4',rn4,num4,gv4,λR' h=>al R' (.more gv neR h),(λe=>by rw[e,lr3]at hl4;cases hl4),?_,?_,od'⟩,?_⟩
         . intro p hp
           rcases tV.mp hp with hp | hp
           . exact np p hp
           . exact np1 p hp
         . intro p hp
           have h1:=pn4 p hp
           refine⟨(λe=>by rw[e,lr3]at h1;cases h1),?_⟩
           cases h2:H p with
           | none=>rfl
           | some u=>
             by_cases c:p=d
             . rw[c,hd3]at h1;cases h1
             . rw[fr3 _ _ h2 c]at h1;cases h1
         . show Jg (rs.map (·.1)) H4 d*2+(match H4 l4 with | some (.lst (_::_))=>1 | _=>0) < Jg (rs.map (·.1)) H' d*2+(match H' l with | some (.lst (_::_))=>1 | _=>0)
           have gb:=yQ gv4
           rw[num4.bare,num.bare,hl4',hl]
           obtain⟨p1,t1,e1⟩:=List.exists_cons_of_length_pos (by omega:0 < ps1.length)
           rw[e1]
           show _ < Ql rs (qE R1)*2+1
           cases ls4 with
           | nil=>
             have e0:ps4=[]:=zaA rn4.1
             rw[e0]
             show _+0 < _
             have:=gb.1
             omega
           | cons x4 t4=>
             have:=gb.2 λe=>by
               have:=congrArg zaz e
               rw[tL,tj]at this
               simp at this
             have le1:(match (some (HO.lst (ps4.map V.ref)):Option HO) with | some (.lst (_::_))=>1 | _=>0)<=1:=by split<;>omega
             omega
   . rintro σ H' Q Q' h ⟨v,e,p,ys,e2,h1,i,j,e3,e4,b,e5,h2⟩
     exact⟨v,e,p,ys,e2,h1,i,j,e3,e4,b,e5,h _ _ h2⟩
end
open PySem L2 PyProof.Rows MLab
def X3 (R:Rs Str) (i:Nat):Str->Option Nat:=λz=>(qE (R.take i) z).map λ_=>QY R z
theorem UK {N:List Str} {R:Rs Str} (o:vc N R) {i:Nat} {r:Nat×List Str} {z:Str} (hr:R[i]?=some r) (hz:z∈r.2):QY R z=i:=by
 obtain⟨hi,er⟩:=tE.mp hr
 unfold QY
 rw[List.findIdx_eq hi]
 refine⟨by rw[er];exact decide_eq_true hz,λj hj=>decide_eq_false λm=>?_⟩
 have:=zaM.mp o.dis j i (by omega) hi hj z m
 rw[er]at this
 exact this hz
theorem VC {N:List Str} {R:Rs Str} (o:vc N R) {i:Nat} {r:Nat×List Str} {z:Str} (hr:R[i]?=some r) (hz:z∈r.2):X3 R i z=none:=by
 unfold X3
 have:qE (R.take i) z=none:=YZ.mpr λx hx m=>by
   obtain⟨j,hj⟩:=zbc hx
   rw[zcX]at hj
   split at hj
   . have h1:=UK o hj m
     have h2:=UK o hr hz
     omega
   . cases hj
 rw[this]
 rfl
theorem kN {N:List Str} {R:Rs Str} (o:vc N R) {i:Nat} {r:Nat×List Str} (hr:R[i]?=some r) (z:Str):YC (X3 R i) i r.2 z=X3 R (i+1) z:=by
 unfold YC
 by_cases c:z∈r.2
 . rw[if_pos c]
   have n:=VC o hr c
   unfold X3 at n ⊢
   have n':qE (R.take i) z=none:=by
     cases e:qE (R.take i) z with
     | none=>rfl
     | some m=>rw[e]at n;cases n
   rw[tR,hr]
   show _=(qE (R.take i++[(r.1,r.2)]) z).map _
   rw[kl n' c,UK o hr c]
   rfl
 . rw[if_neg c]
   unfold X3
   rw[tR,hr]
   show _=(qE (R.take i++[(r.1,r.2)]) z).map _
   rw[JP]
   cases qE (R.take i) z with
   | some m=>rfl
   | none=>
     show _=Option.map _ (if z∈r.2 then some r.1 else none)
     rw[if_neg c]
theorem xo (R:Rs Str) (z:Str):X3 R R.length z=(qE R z).map λ_=>QY R z:=by
 unfold X3
 rw[tK (tF _)]
def Qb (rs:qW) (R:Rs Str) (z:Str):List V:=match qE R z with
 | some n=>[.str "number",.int (n:Nat),.int (QY R z:Nat)]
 | none=>[.str "endless",.int (Rb.setN (QB rs (qE R) z):Nat)]
structure je (H:Hp) (D:Addr) (rs:qW) (R:Rs Str):Prop where
 at_:∃kvs:List (qL×V),H D=some (.dK kvs)/\kvs.map (·.1)=(rs.map (·.1)).map Sum.inr/\∀r∈rs,∃t,ji kvs (Sum.inr r.1:qL)=some (.ref t)/\H t=some (.tup (Qb rs R r.1))
theorem je.mono {H H':Hp} {D:Addr} {rs:qW} {R:Rs Str} (h:je H D rs R) (s:qm H H'):je H' D rs R:=⟨let ⟨kvs,a,b,c⟩:=h.at_;⟨kvs,s _ _ a,b,λr hr=>let ⟨t,u,v⟩:=c r hr;⟨t,u,s _ _ v⟩⟩⟩
theorem vq:∀(n:Nat) (L:List Nat),(∀m,m<=n->m∈L)->n*(n+1)<=2*L.sum
 | 0,_,_=>by simp
 | n+1,L,h=>by
   have hm:=h (n+1) (tF _)
   have ih:=vq n (L.erase (n+1)) λm hm'=>(zbW (by omega)).mpr (h m (by omega))
   have es:L.sum=(n+1)+(L.erase (n+1)).sum:=by
     have:=(List.perm_cons_erase hm).sum_nat
     rw[this,zaV]
   rw[es]
   have:(n+1)*(n+1+1)=n*(n+1)+2*(n+1):=by
     rw[Nat.mul_comm,<-Nat.add_mul]
   omega
theorem VB {α:Type} {f g:α->Nat}:∀{l:List α},(∀x∈l,f x<=g x)->(l.map f).sum<=(l.map g).sum
 | [],_=>tF _
 | a::l,h=>by
   rw[tW,tW,zaV,zaV]
   have:=h a zaa
   have:=VB (l:=l) λx hx=>h x (tU _ hx)
   omega
theorem Mj {rs:qW} (hn:(rs.map (·.1)).Nodup) (z:Str):(Qx rs z).Nodup:=by
 unfold Qx
 split
 . exact hn.sublist zbf
 . exact zbo
theorem Yb {rs:qW} (good:qu rs) {num:Str->Option Nat} {stp:Str->Nat} (L:XY (Qx rs) (·∈rs.map (·.1)) num stp) {x:Str} {n:Nat} (hx:x∈rs.map (·.1)) (e:num x=some n):n<=8:=by
 have h1:∀m,m<=n->m∈rs.map λr=>(num r.1).getD 0:=λm hm=>by
   rcases zbr m n with c | c
   . obtain⟨y,hy,ey,_⟩:=L.n1 hx e c
     obtain⟨r,hr,rfl⟩:=tJ.mp (L.cl hx hy)
     exact tJ.mpr ⟨r,hr,by rw[ey];rfl⟩
   . have:m=n:=by omega
     subst this
     obtain⟨r,hr,rfl⟩:=tJ.mp hx
     exact tJ.mpr ⟨r,hr,by rw[e];rfl⟩
 have h2:=vq n _ h1
 have h3:(rs.map λr=>(num r.1).getD 0).sum<=(rs.map λr=>r.2.length).sum:=VB λr hr=>by
   cases c:num r.1 with
   | none=>exact zay _
   | some m=>
     show m<=_
     have hr':r.1∈rs.map (·.1):=tJ.mpr ⟨r,hr,rfl⟩
     have:(zac m).length<=((Qx rs r.1).filterMap num).length:=J1 zcG λj hj=>by
       obtain⟨y,hy,ey,_⟩:=L.n1 hr' c (zaG.mp hj)
       exact zaE.mpr ⟨y,hy,ey⟩
     rw[zan]at this
     have h4:=zaP num (Qx rs r.1)
     have h5:(Qx rs r.1).length<=r.2.length:=J1 (Mj good.nd _) λy hy=>(ki good hr).mp hy
     omega
 have h4:=good.few
 rcases zbr 8 n with c | c
 . have:9*10<=n*(n+1):=Nat.mul_le_mul c (by omega)
   omega
 . exact c
def Xb (CG:Addr):Sp:=λvs H Q _=>∃(g:Addr) (rs:qW),vs=[.ref g]/\Qi CG H g rs/\qu rs/\rs.length<=14/\
 ∀H' D R,qm H H'->H D=none->je H' D rs R->All (Qx rs) (rs.map (·.1)) 0 [] R->Q (.ref D) H'
section
variable {P:Program} {w:World} {K:PySem.W.Frag} {mg:Str->Option Value} {base:Heap}
abbrev nLb:List Str:=["ground","numbered","steps","step","names","name","labels"]
theorem VJ:qp nLb ["ground"] (qh zh):=⟨rfl,rfl,rfl,by decide+kernel,rfl,by decide+kernel,by decide+kernel⟩
structure RD (K:PySem.W.Frag) (mg:Str->Option Value):Prop where
 lack:∃f fd,qY K mg "lacking" Qp ["numbers"] f fd
 seto:∃f fd,qY K mg "set_of" zY ["numbers"] f fd
 nb:∃f fd,qY K mg "numbers_behind" RQ uT f fd
 gets:∃f fd,qY K mg "gets_number" Xp Xw f fd
 round:∃f fd,qY K mg "round_of" zZ Q5 f fd
 give:∃f fd,qY K mg "give_number" VO Q5 f fd
 gives:∃f fd,qY K mg "give_numbers" WY W2 f fd
 labels:∃f fd,qY K mg "labels_of" zh ["ground"] f fd
theorem yq {f CG:Addr} {fd:FuncData} (F:jU K "labels_of" "labels_of" zh f fd) (B:QF mg) (G:Qv mg) (T:QE K mg) (M:GM K mg CG) (Y:RD K mg):ql P w K mg base qG 8 f fd ["ground"] (Xb CG):=by
 obtain⟨fL,fdL,hL⟩:=Y.lack
 obtain⟨fS,fdS,hS⟩:=Y.seto
 obtain⟨fB,fdB,hB⟩:=Y.nb
 obtain⟨fG,fdG,hG⟩:=Y.gets
 obtain⟨fR,fdR,hR⟩:=Y.round
 obtain⟨fV,fdV,hV⟩:=Y.give
 obtain⟨fW,fdW,hW⟩:=Y.gives
 have GW:ql P w K mg base qG 7 fW fdW W2 (vG CG):=wN hW.fn B G T M hB hL hG hR hV
 have GB:ql P w K mg base qG 3 fB fdB uT (Kg CG):=RW hB.fn B G T M
 have GS:ql P w K mg base qG 1 fS fdS ["numbers"] (WO K):=VW hS.fn
 obtain⟨fC,fdC,C⟩:=M.cls
 obtain⟨fM,fdM,hM⟩:=M.nm
 have GM:ql P w K mg base qG 1 fM fdM ["self"] (za CG):=z8 hM.fn C G
 refine F.okJ VJ (λvs H Q E h=>?_) (λcdv A outer s H vs Q E hr h=>?_)
 . obtain⟨g,rs,rfl,_⟩:=h
   rfl
 . obtain⟨g,rs,rfl,gr,good,le14,q⟩:=h
   have hu:=jR hr
   have r1:qS 1 _:=hr.mono (by decide)
   have r3:qS 3 _:=hr.mono (by decide)
   refine⟨_,qe (qy (i:=1) VJ.nd rfl (Or.inl rfl) Qs)
     (qe (qy (i:=2) VJ.nd rfl (Or.inl rfl) Qs)
     (qe (jd PassesOwn.never rfl (YS (by rfl) T.enu (qb (qH hW GW hr (by rfl) (qb (jv 0) (qb (jv 1) qf))) qf)) (ZZ rfl (jD (qv (i:=3) VJ.nd rfl (Or.inl rfl)) (jD (qv (i:=4) VJ.nd rfl (Or.inl rfl)) J3)))
       (qg (jd PassesOwn.never rfl (qI (jv 4)) (qv (i:=5) VJ.nd rfl (Or.inl rfl)) (qg (jy hu (jv 2) (jv 5) (jv 3) rfl)))))
     (qe (qy (i:=6) VJ.nd rfl (Or.inl rfl) Qs)
     (qe (jd PassesOwn.never rfl (qI (ue hM C.cl GM r1 (jv 0))) (qv (i:=5) VJ.nd rfl (Or.inl rfl))
       (qg (qO (Qr (J7 hu (jv 5) (jv 1)))
         (qg (jy hu (jv 6) (jv 5) (j5 (qb qP (qb (qV hu (jv 1) (jv 5) (λ_ _=>rfl)) (qb (qV hu (jv 2) (jv 5) (λ_ _=>rfl)) qf)))) rfl))
         (qg (jy hu (jv 6) (jv 5) (j5 (qb qP (qb (qH hS GS r1 (by rfl) (qb (qH hB GB r3 (by rfl) (qb (jv 0) (qb (jv 1) (qb (jv 5) qf)))) qf)) qf))) rfl)))))
     (qg (qw (jv 6))))))),?_⟩
   intro d hd st hst
   have s1:qm H (upd H d (.dK [])):=qk hd
   have s2:qm H (upd (upd H d (.dK [])) st (.dK [])):=s1.trans (qk hst)
   have hd2:upd (upd H d (.dK [])) st (.dK []) d=some (.dK []):=qr qd hst
   have hst2:upd (upd H d (.dK [])) st (.dK []) st=some (.dK []):=qd
   have nds:d≠st:=λe=>by rw[<-e,qd]at hst;cases hst
   have hs0:H st=none:=jt s1 hst
   generalize upd (upd H d (.dK [])) st (.dK [])=H2 at s2 hd2 hst2
   have num0:∀{a:Addr},H2 a=some (.dK [])->jn (rs.map (·.1)) H2 a (qE []):=λh=>⟨[],h,λz=>rfl,zbo,λk h=>(nomatch h)⟩
   have ap:∀{H':Hp} {a:Addr},qm H H'->H a=none->Uu CG H' g a:=λsH ha dx lo rd h=>by
     obtain⟨dx',lo',rd',kvs',h1,_,h3,_⟩:=gr
     have:=sH _ _ h1
     rw[h]at this
     cases this
     exact λe=>by rw[e,ha]at h3;cases h3
   refine⟨_,rfl,_,rfl,g,d,rs,rfl,gr.mono s2,good,le14,num0 hd2,ap s2 hd,λH3 l3 ps R hl3 hl3' rnds _ num all fr3=>?_⟩
   have od:=kz all .nil
   have oL:=W4 od
   rw[tj]at oL
   have s3:qm H H3:=λb u h=>fr3 b u (s2 _ _ h) (qA h hd)
   have st3:H3 st=some (.dK []):=fr3 _ _ hst2 (Ne.symm nds)
   obtain⟨kvd,hd3⟩:=num.isd
   have nl3:l3≠st:=λe=>by rw[e,hst2]at hl3;cases hl3
   have L:=Yf (j7 good.nd) all
   refine⟨l3,rfl,⟨_,.of hl3'⟩,?_⟩
   refine zF (K:=K) (a:=l3) (xs:=ps.map V.ref) (λi σ' G'=>∃v3 v4 v5,σ'=[some (.ref g),some (.ref d),some (.ref st),v3,v4,v5,none]/\jn (rs.map (·.1)) G' st (X3 R i)/\Fr H3 st G')
     ⟨none,none,none,rfl,⟨[],st3,λz=>rfl,zbo,λk h=>(nomatch h)⟩,Fr.refl⟩ (λi σ' G' _ ⟨_,_,_,_,_,f⟩=>.of (f _ _ hl3' nl3)) ?_ ?_
   . rintro i x σ' G' p hx hp ⟨v3,v4,v5,rfl,UO,frS⟩
     rw[tI]at hx
     cases ep:ps[i]? with
     | none=>rw[ep]at hx;cases hx
     | some pi=>
       rw[ep]at hx
       obtain rfl:=(tO.inj hx).symm
       have li:i < R.length:=by
         have:=(tE.mp ep).1
         have:=rnds.1
         rw[tj]at this
         omega
       obtain⟨r,er⟩:∃r,R[i]?=some r:=⟨_,tH li⟩
       have hpi:=rnds.2 i pi r.2 ep (by rw[tI,er];rfl)
       have npi:pi≠st:=λe=>by rw[e,st3]at hpi;cases hpi
       have sp:qm G' (upd G' p (.tup [.int (i:Nat),V.ref pi])):=qk hp
       have frp:Fr H3 st (upd G' p (.tup [.int (i:Nat),V.ref pi])):=frS.same sp
       have rN:∀z∈r.2,z∈rs.map (·.1):=od.sub r (tZ er)
       refine⟨p,_,rfl,.of qd,rfl,_,_,rfl,_,_,rfl,rfl,?_⟩
       have hpp:∀{G2:Hp},Fr H3 st G2->G2 pi=some (.lst (r.2.map V.str)):=λf=>f _ _ hpi npi
       have num1:=UO.mono sp
       generalize upd G' p (.tup [.int (i:Nat),V.ref pi])=G1 at sp frp num1
       refine⟨_,rfl,pi,rfl,⟨_,.of (hpp frp)⟩,?_⟩
       have rnd:r.2.Nodup:=good.nd.sublist (od.srt r (tZ er))
       refine jw (K:=K) (a:=pi) (xs:=r.2.map V.str) (λj σ'' G2=>∃v5,σ''=[some (.ref g),some (.ref d),some (.ref st),some (.int (i:Nat)),some (.ref pi),v5,none]/\jn (rs.map (·.1)) G2 st (YC (X3 R i) i (r.2.take j))/\Fr H3 st G2)
         ⟨v5,rfl,num1.congr λz=>by unfold YC;rw[zdE,if_neg (by simp)],frp⟩ (λj σ'' G2 _ ⟨_,_,_,f⟩=>.of (hpp f)) ?_ ?_
       . rintro j y σ'' G2 hy ⟨v5',rfl,numG,frG⟩
         obtain⟨z,ez,hz,rfl⟩:=Qa hy
         by_cases nt:z∈r.2.take j
         . exfalso
           obtain⟨j',hj⟩:=zbc nt
           rw[zcX]at hj
           split at hj
           . have h1:=(tE.mp hj)
             have h2:=(tE.mp ez)
             have:=wU rnd (h1.2.trans h2.2.symm)
             omega
           . cases hj
         . obtain⟨H4,put,num4,o4,e4⟩:=numG.put (n:=i) (rN z hz) (by unfold YC;rw[if_neg nt];exact VC od er hz) (by rw[tj];exact le14)
           refine⟨_,rfl,_,rfl,_,rfl,st,H4,rfl,put,_,rfl,num4.congr λy=>?_,?_⟩
           . unfold YC
             rw[tR,ez]
             by_cases e:y=z
             . subst e;rw[if_pos rfl,if_pos (by simp)]
             . rw[if_neg e]
               by_cases m:y∈r.2.take j
               . rw[if_pos m,if_pos (zai _ m)]
               . rw[if_neg m,if_neg (by simp [m,e])]
           . rw[e4]
             exact frG.at_d
       . rintro σ'' G2 ⟨v5',rfl,numG,frG⟩
         rw[tj,tK (tF _)]at numG
         exact⟨_,_,_,rfl,numG.congr (kN od er),frG⟩
   . rintro σ' G' ⟨v3,v4,v5,rfl,UO,frS⟩
     rw[tj,rnds.1,tj]at UO
     have UO:=UO.congr (xo R)
     have sG:qm H G':=λb u h=>frS _ _ (s3 _ _ h) (qA h hs0)
     have numD:jn (rs.map (·.1)) G' d (qE R):=num.fr frS nds
     intro D hD
     have sD:qm G' (upd G' D (.dK [])):=qk hD
     have hD0:H D=none:=jt sG hD
     have hDD:upd G' D (.dK []) D=some (.dK []):=qd
     generalize upd G' D (.dK [])=G1 at sD hDD
     obtain⟨dx,fs,hg,l1,l2⟩:=((gr.mono sG).mono sD).ins
     refine⟨_,rfl,g,dx,fs,rfl,hg,l1,g,rs,rfl,(gr.mono sG).mono sD,λln hln=>⟨ln,rfl,⟨_,.of qd⟩,?_⟩⟩
     have sL:qm G1 (upd G1 ln (.lst ((rs.map (·.1)).map V.str))):=qk hln
     have hL2:upd G1 ln (.lst ((rs.map (·.1)).map V.str)) ln=some (.lst ((rs.map (·.1)).map V.str)):=qd
     have nDl:ln≠D:=λe=>by rw[e,hDD]at hln;cases hln
     generalize upd G1 ln (.lst ((rs.map (·.1)).map V.str))=G2 at sL hL2
     have sG2:qm G' G2:=sD.trans sL
     refine jw (K:=K) (a:=ln) (xs:=(rs.map (·.1)).map V.str) (λi σ' G3=>∃v5 kvs,σ'=[some (.ref g),some (.ref d),some (.ref st),v3,v4,v5,some (.ref D)]/\Fr G2 D G3/\G3 D=some (.dK kvs)/\kvs.map (·.1)=((rs.map (·.1)).take i).map Sum.inr/\
         ∀r∈rs.take i,∃t,ji kvs (Sum.inr r.1:qL)=some (.ref t)/\G3 t=some (.tup (Qb rs R r.1)))
       ⟨v5,[],rfl,Fr.refl,sL _ _ hDD,rfl,λr h=>(nomatch h)⟩ (λi σ' G3 _ ⟨_,_,_,f,_⟩=>.of (f _ _ hL2 nDl)) ?_ ?_
     . rintro i y σ' G3 hy ⟨v5',kvs,rfl,fr,hDk,ek,hv⟩
       obtain⟨r,er,hr',rfl⟩:=wV hy
       have hi:=(tE.mp er).1
       have s23:qm G' G3:=λb u h=>fr _ _ (sG2 _ _ h) (qA h hD)
       have sA:=sG.trans s23
       have nm:=numD.mono s23
       have ns:=UO.mono s23
       have lk:kvs.length=i:=by
         have:=congrArg zaz ek
         rw[tj,tj,tS,tj]at this
         omega
       have eN:(rs.map (·.1))[i]?=some r.1:=by rw[tI,er];rfl
       have new:ji kvs (Sum.inr r.1:qL)=none:=Jz (by rw[ek];exact QA good.nd eN)
       have fin:∀(G4:Hp) (t:Addr),Fr G2 D G4->G4 D=some (.dK kvs)->qm G3 G4->G4 t=some (.tup (Qb rs R r.1))->∃H5,Ji G4 D (.str r.1) (.ref t) H5/\
           ∃v5 kvs,[some (V.ref g),some (.ref d),some (.ref st),v3,v4,some (.str r.1),some (.ref D)]=[some (.ref g),some (.ref d),some (.ref st),v3,v4,v5,some (.ref D)]/\Fr G2 D H5/\H5 D=some (.dK kvs)/\kvs.map (·.1)=((rs.map (·.1)).take (i+1)).map Sum.inr/\
            ∀r∈rs.take (i+1),∃t,ji kvs (Sum.inr r.1:qL)=some (.ref t)/\H5 t=some (.tup (Qb rs R r.1)):=λG4 t f4 h4 s4 ht=>by
         refine⟨_,Ji.k (k:=(Sum.inr r.1:qL)) h4 (qo (by omega)),some (.str r.1),jV kvs (Sum.inr r.1) (.ref t),rfl,f4.at_d,qd,?_,λr2 hr2=>?_⟩
         . rw[QJ _ new,tN,ek,tR,eN,tN]
           rfl
         . have tD:∀{b:Addr} {xs:List V},G4 b=some (.tup xs)->b≠D:=λhb e=>by rw[e,h4]at hb;cases hb
           rw[tR,er]at hr2
           rcases tV.mp hr2 with h | h
           . obtain⟨t2,a,b⟩:=hv r2 h
             have ne:r2.1≠r.1:=λe=>by rw[e,new]at a;cases a
             refine⟨t2,?_,?_⟩
             . rw[j3,if_neg (λq=>ne (Sum.inr.inj q))];exact a
             . rw[qj (tD (s4 _ _ b))];exact s4 _ _ b
           . have:r2=r:=by simpa using h
             subst this
             refine⟨t,?_,?_⟩
             . rw[j3,if_pos rfl]
             . rw[qj (tD ht)];exact ht
       refine⟨_,rfl,_,rfl,d,_,rfl,nm.get r.1,_,rfl,?_⟩
       cases c:qE R r.1 with
       | some n=>
         have g1:=nm.get r.1
         have g2:=ns.get r.1
         rw[c]at g1 g2
         refine Qe ⟨_,rfl,_,rfl,d,_,rfl,g1,_,rfl,_,rfl,st,_,rfl,g2,by show 3<=sizeLine;decide,λt ht=>?_⟩
         have el:Qb rs R r.1=[.str "number",.int (n:Nat),.int (QY R r.1:Nat)]:=by unfold Qb;rw[c]
         obtain⟨H5,put,k⟩:=fin (upd G3 t (.tup [.str "number",.int (n:Nat),.int (QY R r.1:Nat)])) t (fr.same (qk ht)) (qr hDk ht) (qk ht) (by rw[el];exact qd)
         exact⟨_,rfl,_,rfl,D,H5,rfl,put,k⟩
       | none=>
         have gN:=L
         refine jB ⟨_,rfl,_,rfl,_,rfl,g,d,rs,r.1,qE R,rfl,gr.mono sA,good,le14,tJ.mpr ⟨r,hr',rfl⟩,nm,λH4 l4 s4 hl4 hl4'=>?_⟩
         refine⟨l4,_,rfl,.of hl4',λx hx=>?_,by show 2<=sizeLine;decide,λt ht=>?_⟩
         . obtain⟨y,hy,ey⟩:=jx.mp hx
           have:=Yb good L (j7 good.nd _ (tJ.mpr ⟨r,hr',rfl⟩) y hy) ey
           omega
         . have el:Qb rs R r.1=[.str "endless",.int (Rb.setN (QB rs (qE R) r.1):Nat)]:=by unfold Qb;rw[c]
           obtain⟨H5,put,k⟩:=fin (upd H4 t (.tup [.str "endless",.int (Rb.setN (QB rs (qE R) r.1):Nat)])) t ((fr.same s4).same (qk ht)) (qr (s4 _ _ hDk) ht) (s4.trans (qk ht)) (by rw[el];exact qd)
           exact⟨_,rfl,_,rfl,D,H5,rfl,put,k⟩
     . rintro σ' G3 ⟨v5',kvs,rfl,fr,hDk,ek,hv⟩
       rw[tj,tK (tF _)]at ek
       rw[tj,tj,tK (tF _)]at hv
       exact⟨_,rfl,q G3 D R (λb u h=>fr _ _ (sG2 _ _ (sG _ _ h)) (qA h hD0)) hD0 ⟨kvs,hDk,ek,hv⟩ all⟩
end
open PySem L2 PyProof.Rows Rb
abbrev ZS:Stmt:=top 5
abbrev YL:Stmt:=top 6
abbrev Zf:Stmt:=top 19
abbrev zf:Stmt:=top 41
abbrev Xn:Stmt:=top 42
abbrev Xj:Stmt:=top 46
abbrev Xl:Stmt:=Qt (top 44) 0
abbrev WW:Stmt:=Qt (top 44) 3
abbrev vO:Stmt:=Qt (top 44) 4
abbrev VN:Stmt:=Qt (top 44) 5
abbrev Xr:Stmt:=Qt (top 45) 0
abbrev WZ:Stmt:=Qt (top 45) 3
abbrev vR:Stmt:=Qt (top 45) 4
abbrev VP:Stmt:=Qt (top 45) 5
section
variable {P:Program} {w:World} {K:PySem.W.Frag} {mg:Str->Option Value} {base:Heap}
theorem bx (a b:Nat):Builtin.bitXor a b=((a^^^b:Nat):Int):=by
 unfold Builtin.bitXor
 rw[bo,ba]
 have:=Rb.or_and_xor a b
 omega
def Z7:Sp:=λvs H Q _=>∃b:Nat,vs=[.int b]/\b < 65536/\∀l,H l=none->Q (.ref l) (upd H l (.lst (Jq (Rb.memN b 16))))
def VD:Sp:=λvs H Q _=>∃b n:Nat,vs=[.int b,.int n]/\b < 65536/\n < 16/\∀H',qm H H'->Q (.int (Rb.turnN b n 16:Nat)) H'
theorem Rx (b:Nat):b < 2^ (Builtin.Int.intBits (b:Nat)):=by
 unfold Builtin.Int.intBits
 by_cases h:b=0
 . subst h;simp
 . rw[if_neg (by simpa using h)]
   exact Nat.lt_log2_self
theorem WD {b:Nat} (h:b < 65536):Builtin.Int.intBits (b:Nat)<=16:=by
 unfold Builtin.Int.intBits
 by_cases h0:b=0
 . subst h0;simp
 . rw[if_neg (by simpa using h0)]
   have:b.log2 < 16:=(Nat.log2_lt h0).mpr h
   exact this
theorem vH (b i:Nat):Builtin.bitAnd ((b:Int) / 2^ ((i:Nat):Int).toNat) 1=(((b.testBit i).toNat:Nat):Int):=by
 have e1:(b:Int) / 2^ ((i:Nat):Int).toNat=((b / 2^i:Nat):Int):=by rw[zaL];push_cast;rfl
 have e2:Builtin.bitAnd ((b / 2^i:Nat):Int) 1=(((b / 2^i)&&& 1:Nat):Int):=ba (b / 2^i) 1
 rw[e1,e2,Nat.and_one_is_mod,Rb.testBit_div]
 by_cases h:b / 2^i % 2=1
 . rw[h];rfl
 . have h':b / 2^i % 2=0:=by omega
   rw[h'];rfl
theorem Kn:qp ["bits"] ["bits"] (qh ZS):=⟨rfl,rfl,rfl,by decide+kernel,rfl,by decide+kernel,by decide+kernel⟩
theorem zu {f:Addr} {fd:FuncData} (F:jU K "numbers_in" "numbers_in" ZS f fd) (B:QF mg):ql P w K mg base qG 1 f fd ["bits"] Z7:=by
 refine F.okJ Kn (λvs H Q E h=>?_) (λcdv A outer s H vs Q E hr h=>?_)
 . obtain⟨b,rfl,_⟩:=h
   rfl
 . obtain⟨b,rfl,hb,q⟩:=h
   refine⟨_,qg (qw (j6 (N':=["number","bits"]) (ix:=[none,some 0]) rfl ⟨rfl,rfl,rfl,rfl,rfl⟩
     (jM (by rfl) B.rng (qb (ui PySem.F.plainAttrs_int PySem.F.slot_int_bit_length PySem.F.type_int_bit_length yx (jv 0)) qf))
     (λC s2 H2 fp pins=>⟨qv (i:=0) (show (["number","bits"]:List Str).Nodup by decide+kernel) rfl (Or.inl rfl),jJ (qt jp (qT ww (qT wn (jv 1) (jv 0)) qi) qi (qB _)),jv 0⟩))),?_⟩
   refine⟨_,rfl,rfl,_,rfl,rfl,_,rfl,by omega,?_,λD hD=>?_⟩
   . have:=WD hb
     omega
   . rw[zaL]
     refine JQ (λi σ' H'=>∃v,σ'=[v,some (.int b)]/\H'=upd H D (.lst (Jq (Rb.memN b i)))) ⟨none,rfl,rfl⟩ ?_ ?_
     . rintro i σ' H' hi ⟨v,rfl,rfl⟩
       rw[zbY]
       refine⟨_,rfl,_,rfl,_,_,rfl,rfl,by omega,_,_,rfl,rfl,rfl,_,rfl,?_⟩
       have e:decide (V.int (Builtin.bitAnd ((b:Int) / 2^ ((i:Nat):Int).toNat) 1)=V.int 1)=b.testBit i:=by
         rw[vH]
         cases b.testBit i<;>decide
       rw[e]
       have l:(Jq (Rb.memN b i)).length < sizeLine:=by
         rw[Jp]
         refine qo ?_
         have:=WD hb
         have h1:(Rb.memN b i).length<=(zac i).length:=zao _ _
         rw[zan]at h1
         omega
       cases hb':b.testBit i with
       | true=>
         refine Qe ⟨_,rfl,_,qd,l,some (.int i),rfl,?_⟩
         rw[jI,XL,Rb.memN_succ,hb']
         rfl
       | false=>
         refine jB ⟨some (.int i),rfl,?_⟩
         rw[Rb.memN_succ,hb']
         simp
     . rintro σ' H' ⟨v,rfl,rfl⟩
       rw[Rb.memN_same (m:=16) hb (Rx b)]
       exact q D hD
theorem xI:qp ["bits","number"] ["bits","number"] (qh YL):=⟨rfl,rfl,rfl,by decide+kernel,rfl,by decide+kernel,by decide+kernel⟩
theorem yd {f fN fS:Addr} {fd fdN fdS:FuncData} (F:jU K "set_turned" "set_turned" YL f fd) (B:QF mg) (hN:qY K mg "numbers_in" ZS ["bits"] fN fdN) (hS:qY K mg "set_of" zY ["numbers"] fS fdS):
   ql P w K mg base qG 2 f fd ["bits","number"] VD:=by
 have GN:ql P w K mg base qG 1 fN fdN ["bits"] Z7:=zu hN.fn B
 have GS:ql P w K mg base qG 1 fS fdS ["numbers"] (WO K):=VW hS.fn
 refine F.okJ xI (λvs H Q E h=>?_) (λcdv A outer s H vs Q E hr h=>?_)
 . obtain⟨b,n,rfl,_⟩:=h
   rfl
 . obtain⟨b,n,rfl,hb,hn,q⟩:=h
   refine⟨_,qg (qw (qH hS GS hr (by rfl) (qb (j6 (N':=["other","number"]) (ix:=[none,some 1]) rfl ⟨rfl,rfl,rfl,rfl,rfl⟩
     (qI (qH hN GN hr (by rfl) (qb (jv 0) qf)))
     (λC s2 H2 fp pins=>⟨qv (i:=0) (show (["other","number"]:List Str).Nodup by decide+kernel) rfl (Or.inl rfl),j2,qT W5 (jv 0) (jv 1)⟩)) qf))),?_⟩
   refine⟨_,rfl,b,rfl,hb,λl hl=>⟨l,rfl,⟨_,.of qd⟩,λD hD=>?_⟩⟩
   have nlD:l≠D:=λe=>by rw[e,qd]at hD;cases hD
   have HD:H D=none:=by rw[<-hD,qj (Ne.symm nlD)]
   refine jW (K:=K) (a:=l) (xs:=Jq (Rb.memN b 16)) (λi σ' H'=>∃v,σ'=[v,some (.int n)]/\H'=upd (upd H l (.lst (Jq (Rb.memN b 16)))) D (.lst (Jq (((Rb.memN b 16).take i).map (·^^^n))))) ⟨none,rfl,rfl⟩
     (λi σ' H' _ ⟨_,_,e⟩=>.of (by rw[e,qj nlD];exact qd)) ?_ ?_
   . rintro i x σ' H' hx ⟨v,rfl,rfl⟩
     obtain⟨m,hm,rfl⟩:=YV hx
     refine⟨_,rfl,_,rfl,_,_,rfl,rfl,_,qd,?_,some (.int m),rfl,?_⟩
     . rw[Jp,tj,tS]
       refine qo (zag (zdi _ _) ?_)
       have h1:(Rb.memN b 16).length<=(zac 16).length:=zao _ _
       rw[zan]at h1
       omega
     . rw[jI]
       dsimp only
       rw[bx,XL,Zu hm,tN]
       rfl
   . rintro σ' H' ⟨v,rfl,rfl⟩
     rw[Jp,tK (tF _)]
     refine⟨D,(Rb.memN b 16).map (·^^^n),rfl,.of qd,λx hx=>?_,?_⟩
     . obtain⟨y,hy,rfl⟩:=tJ.mp hx
       have:=Rb.xor_lt (m:=4) (Rb.mem_memN.mp hy).1 hn
       omega
     . exact q _ (qm.upd (qk hl) HD)
end
structure Cl (K:PySem.W.Frag) (mg:Str->Option Value) (x qual fld:Str) (st:Stmt) (C f:Addr) (fd:FuncData):Prop where
 cl:X1 K C
 mkr:Mk K C f
 ns:mg x=some (.ref C)
 na:Jh K C fld
 fn:jU K "__init__" qual st f fd
 bi:jP K fd ["self",fld] []
 ca:zaf K (.ref C) "__class__"=some (some (.builtin "object.__class__"))
 ob:zdc K C (.type "object")=some true
structure Wk (K:PySem.W.Frag) (mg:Str->Option Value):Prop where
 isi:mg "isinstance"=none
 bool:mg "bool"=none
 kii:zaT K (.type "int") (.type "int")=some true
 kib:zaT K (.type "int") (.type "bool")=some false
 most:∃t,mg "MOST_NUMBER"=some (.int 15 t)
 mset:∃t,mg "MOST_BITS"=some (.int 65535 t)
theorem MG {f:Str} {v:V}:[(f,v)].lookup f=some v:=by simp [zbh]
def ZQ (CN CE:Addr) (H:Hp) (a:Addr):W->Prop
 | .num n=>∃dx,H a=some (.ins CN dx [("number",.int (n:Nat))])
 | .edl b=>∃dx,H a=some (.ins CE dx [("bits",.int (b:Nat))])
theorem ZQ.same {CN CE:Addr} {H H':Hp} {a:Addr} {w:W} (h:ZQ CN CE H a w) (s:qm H H'):ZQ CN CE H' a w:=by
 cases w with
 | num n=>obtain⟨dx,e⟩:=h;exact⟨dx,s _ _ e⟩
 | edl b=>obtain⟨dx,e⟩:=h;exact⟨dx,s _ _ e⟩
section
variable {P:Program} {w:World} {K:PySem.W.Frag} {mg:Str->Option Value} {base:Heap}
def Y9:Sp:=λvs H Q _=>∃i:Int,vs=[.int i]/\Q (.bl true) H
def VH:Sp:=λvs H Q _=>∃i:Int,vs=[.int i]/\0<=i/\i<=15/\Q (.bl true) H
def vF:Sp:=λvs H Q _=>∃i:Int,vs=[.int i]/\0<=i/\i<=65535/\Q (.bl true) H
theorem Km:qp ["thing"] ["thing"] (qh Zf):=⟨rfl,rfl,rfl,by decide+kernel,rfl,by decide+kernel,by decide+kernel⟩
theorem VU {f:Addr} {fd:FuncData} (F:jU K "is_whole" "is_whole" Zf f fd) (B:QF mg) (T:Wk K mg):ql P w K mg base qG 1 f fd ["thing"] Y9:=by
 refine F.okJ Km (λvs H Q E h=>?_) (λcdv A outer s H vs Q E hr h=>?_)
 . obtain⟨i,rfl,_⟩:=h
   rfl
 . obtain⟨i,rfl,q⟩:=h
   refine⟨_,qg (qw (Zn (qF j9 (by rfl) T.isi boot_isinstance (qb (jv 0) (qb (J6 (v:=.ty "int") (by rfl) B.int boot_int rfl) qf)))
     (Yj (Md (qF j9 (by rfl) T.isi boot_isinstance (qb (jv 0) (qb (J6 (v:=.ty "bool") (by rfl) T.bool boot_bool rfl) qf))))))),?_⟩
   exact⟨_,rfl,_,_,_,_,rfl,rfl,.int i,T.kii,_,rfl,Qe ⟨_,rfl,_,_,_,_,rfl,rfl,.int i,T.kib,_,rfl,q⟩⟩
theorem xL:qp ["thing"] ["thing"] (qh zf):=⟨rfl,rfl,rfl,by decide+kernel,rfl,by decide+kernel,by decide+kernel⟩
theorem yj {f fW:Addr} {fd fdW:FuncData} (F:jU K "is_number" "is_number" zf f fd) (B:QF mg) (T:Wk K mg) (hW:qY K mg "is_whole" Zf ["thing"] fW fdW):ql P w K mg base qG 2 f fd ["thing"] VH:=by
 have GW:ql P w K mg base qG 1 fW fdW ["thing"] Y9:=VU hW.fn B T
 obtain⟨t,hm⟩:=T.most
 refine F.okJ xL (λvs H Q E h=>?_) (λcdv A outer s H vs Q E hr h=>?_)
 . obtain⟨i,rfl,_⟩:=h
   rfl
 . obtain⟨i,rfl,h0,h1,q⟩:=h
   refine⟨_,qg (qw (Zn (qH hW GW hr (by rfl) (qb (jv 0) qf)) (Zn (jT vU qi (jv 0) (qB _)) (Yj (jT vU (jv 0) (J5 (v:=.int 15) (by rfl) hm ⟨_,rfl⟩) (qB _)))))),?_⟩
   refine⟨_,rfl,i,rfl,_,rfl,Qe ⟨_,rfl,_,_,rfl,rfl,_,rfl,?_⟩⟩
   rw[decide_eq_true h0]
   refine Qe ⟨_,rfl,_,_,rfl,rfl,?_⟩
   have e:decide (i<=15)=true:=decide_eq_true h1
   show Q (.bl (decide (i<=15))) H
   rw[e]
   exact q
theorem Kr:qp ["thing"] ["thing"] (qh Xn):=⟨rfl,rfl,rfl,by decide+kernel,rfl,by decide+kernel,by decide+kernel⟩
theorem wK {f fW:Addr} {fd fdW:FuncData} (F:jU K "is_set" "is_set" Xn f fd) (B:QF mg) (T:Wk K mg) (hW:qY K mg "is_whole" Zf ["thing"] fW fdW):ql P w K mg base qG 2 f fd ["thing"] vF:=by
 have GW:ql P w K mg base qG 1 fW fdW ["thing"] Y9:=VU hW.fn B T
 obtain⟨t,hm⟩:=T.mset
 refine F.okJ Kr (λvs H Q E h=>?_) (λcdv A outer s H vs Q E hr h=>?_)
 . obtain⟨i,rfl,_⟩:=h
   rfl
 . obtain⟨i,rfl,h0,h1,q⟩:=h
   refine⟨_,qg (qw (Zn (qH hW GW hr (by rfl) (qb (jv 0) qf)) (Zn (jT vU qi (jv 0) (qB _)) (Yj (jT vU (jv 0) (J5 (v:=.int 65535) (by rfl) hm ⟨_,rfl⟩) (qB _)))))),?_⟩
   refine⟨_,rfl,i,rfl,_,rfl,Qe ⟨_,rfl,_,_,rfl,rfl,_,rfl,?_⟩⟩
   rw[decide_eq_true h0]
   refine Qe ⟨_,rfl,_,_,rfl,rfl,?_⟩
   have e:decide (i<=65535)=true:=decide_eq_true h1
   show Q (.bl (decide (i<=65535))) H
   rw[e]
   exact q
def WQ (C:Addr) (fld:Str) (hi:Int):Sp:=λvs H Q _=>∃(x dx:Addr) (n:Int),vs=[.ref x,.int n]/\0<=n/\n<=hi/\H x=some (.ins C dx [])/\Q .non (upd H x (.ins C dx [(fld,.int n)]))
theorem Kp:qp ["self","number"] ["self","number"] (qh Xl):=⟨rfl,rfl,rfl,by decide+kernel,rfl,by decide+kernel,by decide+kernel⟩
theorem wG {f fB fW CN:Addr} {fd fdB fdW:FuncData} (F:jU K "__init__" "Numbered.__init__" Xl f fd) (B:QF mg) (T:Wk K mg) (hW:qY K mg "is_whole" Zf ["thing"] fW fdW) (hB:qY K mg "is_number" zf ["thing"] fB fdB) (cl:X1 K CN) (na:Jh K CN "number"):
   ql P w K mg base qG 3 f fd ["self","number"] (WQ CN "number" 15):=by
 have GB:ql P w K mg base qG 2 fB fdB ["thing"] VH:=yj hB.fn B T hW
 refine F.okJ Kp (λvs H Q E h=>?_) (λcdv A outer s H vs Q E hr h=>?_)
 . obtain⟨x,dx,n,rfl,_⟩:=h
   rfl
 . obtain⟨x,dx,n,rfl,h0,h1,hx,q⟩:=h
   refine⟨_,qe (qO (Jx (jZ (qH hB GB hr (by rfl) (qb (jv 1) qf)))) q4 qC) (qg (Vf (jv 0) (jv 1) rfl)),?_⟩
   exact⟨_,rfl,n,rfl,h0,h1,_,rfl,jB ⟨_,rfl,_,rfl,x,CN,dx,[],rfl,hx,cl,na,by decide,q⟩⟩
theorem Ku:qp ["self","bits"] ["self","bits"] (qh Xr):=⟨rfl,rfl,rfl,by decide+kernel,rfl,by decide+kernel,by decide+kernel⟩
theorem wP {f fB fW CE:Addr} {fd fdB fdW:FuncData} (F:jU K "__init__" "Endless.__init__" Xr f fd) (B:QF mg) (T:Wk K mg) (hW:qY K mg "is_whole" Zf ["thing"] fW fdW) (hB:qY K mg "is_set" Xn ["thing"] fB fdB) (cl:X1 K CE) (na:Jh K CE "bits"):
   ql P w K mg base qG 3 f fd ["self","bits"] (WQ CE "bits" 65535):=by
 have GB:ql P w K mg base qG 2 fB fdB ["thing"] vF:=wK hB.fn B T hW
 refine F.okJ Ku (λvs H Q E h=>?_) (λcdv A outer s H vs Q E hr h=>?_)
 . obtain⟨x,dx,n,rfl,_⟩:=h
   rfl
 . obtain⟨x,dx,n,rfl,h0,h1,hx,q⟩:=h
   refine⟨_,qe (qO (Jx (jZ (qH hB GB hr (by rfl) (qb (jv 1) qf)))) q4 qC) (qg (Vf (jv 0) (jv 1) rfl)),?_⟩
   exact⟨_,rfl,n,rfl,h0,h1,_,rfl,jB ⟨_,rfl,_,rfl,x,CE,dx,[],rfl,hx,cl,na,by decide,q⟩⟩
def kP (b:Bool):Sp:=λvs H Q _=>∃a,vs=[.ref a]/\Q (.bl b) H
theorem Nu:qp ["self"] ["self"] (qh VN):=⟨rfl,rfl,rfl,by decide+kernel,rfl,by decide+kernel,by decide+kernel⟩
theorem K2 {f:Addr} {fd:FuncData} (F:jU K "is_endless" "Numbered.is_endless" VN f fd):ql P w K mg base qG 1 f fd ["self"] (kP false):=by
 refine F.okJ Nu (λvs H Q E h=>?_) (λcdv A outer s H vs Q E hr h=>?_)
 . obtain⟨a,rfl,_⟩:=h
   rfl
 . obtain⟨a,rfl,q⟩:=h
   exact⟨_,qg (qw Qg),q⟩
theorem Nx:qp ["self"] ["self"] (qh VP):=⟨rfl,rfl,rfl,by decide+kernel,rfl,by decide+kernel,by decide+kernel⟩
theorem Gh {f:Addr} {fd:FuncData} (F:jU K "is_endless" "Endless.is_endless" VP f fd):ql P w K mg base qG 1 f fd ["self"] (kP true):=by
 refine F.okJ Nx (λvs H Q E h=>?_) (λcdv A outer s H vs Q E hr h=>?_)
 . obtain⟨a,rfl,_⟩:=h
   rfl
 . obtain⟨a,rfl,q⟩:=h
   exact⟨_,qg (qw Qg),q⟩
end
structure WF (K:PySem.W.Frag) (mg:Str->Option Value) where
 (CN CE fNI fEI fNO fEO fNP fEP fNE fEE fW fB fS fT fN fO:Addr)
 (dNI dEI dNO dEO dNP dEP dNE dEE dW dB dS dT dN dO:FuncData)
 ne:CN≠CE
 cN:Cl K mg "Numbered" "Numbered.__init__" "number" Xl CN fNI dNI
 cE:Cl K mg "Endless" "Endless.__init__" "bits" Xr CE fEI dEI
 nO:Vs K CN "outcome" "Numbered.outcome" vO ["self"] fNO dNO
 eO:Vs K CE "outcome" "Endless.outcome" vR ["self"] fEO dEO
 nP:Vs K CN "plus" "Numbered.plus" WW ["self","other"] fNP dNP
 eP:Vs K CE "plus" "Endless.plus" WZ ["self","other"] fEP dEP
 nE:Vs K CN "is_endless" "Numbered.is_endless" VN ["self"] fNE dNE
 eE:Vs K CE "is_endless" "Endless.is_endless" VP ["self"] fEE dEE
 hW:qY K mg "is_whole" Zf ["thing"] fW dW
 hB:qY K mg "is_number" zf ["thing"] fB dB
 hS:qY K mg "is_set" Xn ["thing"] fS dS
 hT:qY K mg "set_turned" YL ["bits","number"] fT dT
 hN:qY K mg "numbers_in" ZS ["bits"] fN dN
 hO:qY K mg "set_of" zY ["numbers"] fO dO
section
variable {P:Program} {w:World} {K:PySem.W.Frag} {mg:Str->Option Value} {base:Heap}
def isE:W->Bool
 | .num _=>false
 | .edl _=>true
theorem WF.gNI (h:WF K mg) (B:QF mg) (T:Wk K mg):ql P w K mg base qG 3 h.fNI h.dNI ["self","number"] (WQ h.CN "number" 15):=wG h.cN.fn B T h.hW h.hB h.cN.cl h.cN.na
theorem WF.gEI (h:WF K mg) (B:QF mg) (T:Wk K mg):ql P w K mg base qG 3 h.fEI h.dEI ["self","bits"] (WQ h.CE "bits" 65535):=wP h.cE.fn B T h.hW h.hS h.cE.cl h.cE.na
theorem WF.gNE (h:WF K mg):ql P w K mg base qG 1 h.fNE h.dNE ["self"] (kP false):=K2 h.nE.fn
theorem WF.gEE (h:WF K mg):ql P w K mg base qG 1 h.fEE h.dEE ["self"] (kP true):=Gh h.eE.fn
theorem WF.gT (h:WF K mg) (B:QF mg):ql P w K mg base qG 2 h.fT h.dT ["bits","number"] VD:=yd h.hT.fn B h.hN h.hO
theorem NR {f g:Str} {v:V} (h:(g==f)=false):[(f,v)].lookup g=none:=by simp [zbh,h]
theorem n1:((Str.ofString "is_endless")==(Str.ofString "number"))=false:=by decide+kernel
theorem n2:((Str.ofString "is_endless")==(Str.ofString "bits"))=false:=by decide+kernel
theorem n5:((Str.ofString "plus")==(Str.ofString "number"))=false:=by decide+kernel
theorem n6:((Str.ofString "plus")==(Str.ofString "bits"))=false:=by decide+kernel
theorem Mo {CN CE a:Addr} {H:Hp} {w:W} {Q:VK} (h:ZQ CN CE H a w) (q:Q (.bl (isE w)) H):∃a' dx fs,V.ref a=.ref a'/\fs.lookup (Str.ofString "is_endless")=none/\((H a'=some (.ins CN dx fs)/\kP false [V.ref a] H Q E0)\/(H a'=some (.ins CE dx fs)/\kP true [V.ref a] H Q E0)):=by
 cases w with
 | num n=>obtain⟨dx,e⟩:=h;exact⟨a,dx,_,rfl,NR n1,.inl ⟨e,a,rfl,q⟩⟩
 | edl b=>obtain⟨dx,e⟩:=h;exact⟨a,dx,_,rfl,NR n2,.inr ⟨e,a,rfl,q⟩⟩
theorem uf {X:Cx} (h:WF X.K X.mg) (hr:qS 1 X.A) {o:Expr} {ta:TE} {apos pos:Pos} {pl:Sem Bool} (he:JE X o ta)
   (ht:eval (.Call (.Attribute o "is_endless" apos) [] [] pos) X.env=(eval o X.env >>= λov=>standAt apos.atName >>= λ_=>holding [ov] (getMethod ov "is_endless" pl) >>= λr=>callWith pos r.1 r.2 (backTo pos (starEach [] X.env)) (backToKw pos (keywordEach [] X.env))):=by rfl):
   JE X (.Call (.Attribute o "is_endless" apos) [] [] pos) (λσ H Q=>ta σ H λx H1=>∃a u,x=.ref a/\ZQ h.CN h.CE H1 a u/\Q (.bl (isE u)) H1):=
 Vg (Wt (ub he) h.cN.cl h.nE.me h.gNE hr h.nE.bi h.cE.cl h.eE.me h.gEE hr h.eE.bi ht) λσ H Q q=>⟨_,q,λx H1 ⟨a,u,e,i,q1⟩=>by subst e;exact Mo i q1⟩
def vx (CN CE:Addr):Sp:=λvs H Q _=>∃a o n v,vs=[.ref a,.ref o]/\ZQ CN CE H a (.num n)/\ZQ CN CE H o v/\n < 16/\Yv v/\∀H' r,qm H H'->ZQ CN CE H' r (zp (.num n) v)->Q (.ref r) H'
def vy (CN CE:Addr):Sp:=λvs H Q _=>∃a o b v,vs=[.ref a,.ref o]/\ZQ CN CE H a (.edl b)/\ZQ CN CE H o v/\b < 65536/\Yv v/\∀H' r,qm H H'->ZQ CN CE H' r (zp (.edl b) v)->Q (.ref r) H'
theorem W9 {CN CE:Addr} {H:Hp} {x dx:Addr} {n:Nat} (hx:H x=none) (hd:H dx=none) (hne:dx≠x):qm H (upd (upd (upd H dx (.own x)) x (.ins CN dx [])) x (.ins CN dx [("number",.int (n:Nat))]))/\ZQ CN CE (upd (upd (upd H dx (.own x)) x (.ins CN dx [])) x (.ins CN dx [("number",.int (n:Nat))])) x (.num n):=
 ⟨λb o hb=>by rw[qj (qA hb hx),qj (qA hb hx),qj (qA hb hd)];exact hb,dx,qd⟩
theorem Va {CN CE:Addr} {H:Hp} {x dx:Addr} {b:Nat} (hx:H x=none) (hd:H dx=none) (hne:dx≠x):qm H (upd (upd (upd H dx (.own x)) x (.ins CE dx [])) x (.ins CE dx [("bits",.int (b:Nat))]))/\ZQ CN CE (upd (upd (upd H dx (.own x)) x (.ins CE dx [])) x (.ins CE dx [("bits",.int (b:Nat))])) x (.edl b):=
 ⟨λb o hb=>by rw[qj (qA hb hx),qj (qA hb hx),qj (qA hb hd)];exact hb,dx,qd⟩
theorem Kt:qp ["self","other"] ["self","other"] (qh WZ):=⟨rfl,rfl,rfl,by decide+kernel,rfl,by decide+kernel,by decide+kernel⟩
theorem WF.gEP (h:WF K mg) (B:QF mg) (T:Wk K mg):ql P w K mg base qG 5 h.fEP h.dEP ["self","other"] (vy h.CN h.CE):=by
 refine h.eP.fn.okJ Kt (λvs H Q E z=>?_) (λcdv A outer s H vs Q E hr z=>?_)
 . obtain⟨a,o,b,v,rfl,_⟩:=z
   rfl
 . obtain⟨a,o,b,v,rfl,ha,ho,hb,hv,q⟩:=z
   refine⟨_,qe (qO (jZ (uf h (hr.mono (by decide)) (jv 1))) (qg (qw (J4 h.cE.mkr (h.gEI B T) hr (by rfl) h.cE.ns h.cE.bi .nil Q4 (qb qi qf)))) qC)
     (qg (qw (J4 h.cE.mkr (h.gEI B T) hr (by rfl) h.cE.ns h.cE.bi .nil Q4 (qb (qH h.hT (h.gT B) (hr.mono (by decide)) (by rfl) (qb (Jc (jv 0) rfl) (qb (Jc (jv 1) rfl) qf))) qf)))),?_⟩
   refine⟨_,rfl,o,v,rfl,ho,_,rfl,?_⟩
   cases v with
   | edl c=>
     refine Qe (λx dx hx hd hne=>⟨x,dx,0,rfl,by decide,by decide,qd,rfl,?_⟩)
     obtain⟨s1,i1⟩:=Va (CN:=h.CN) (CE:=h.CE) (b:=0) hx hd hne
     exact q _ _ s1 i1
   | num n=>
     obtain⟨dx0,e0⟩:=id ha
     obtain⟨dx1,e1⟩:=id ho
     refine jB ⟨_,rfl,a,h.CE,dx0,_,_,rfl,e0,h.cE.cl,h.cE.na,MG,_,rfl,o,h.CN,dx1,_,_,rfl,e1,h.cN.cl,h.cN.na,MG,b,n,rfl,hb,hv,λH1 s1 x dx hx hd hne=>?_⟩
     have lt:=vk (k:=4) (b:=b) (tF _) hv
     refine⟨x,dx,_,rfl,by omega,?_,qd,rfl,?_⟩
     . have:turnN b n 16 < 65536:=lt
       omega
     . obtain⟨s2,i2⟩:=Va (CN:=h.CN) (CE:=h.CE) (b:=turnN b n 16) hx hd hne
       exact q _ _ (s1.trans s2) i2
theorem Ko:qp ["self","other"] ["self","other"] (qh WW):=⟨rfl,rfl,rfl,by decide+kernel,rfl,by decide+kernel,by decide+kernel⟩
theorem WF.gNP (h:WF K mg) (B:QF mg) (T:Wk K mg):ql P w K mg base qG 6 h.fNP h.dNP ["self","other"] (vx h.CN h.CE):=by
 refine h.nP.fn.okJ Ko (λvs H Q E z=>?_) (λcdv A outer s H vs Q E hr z=>?_)
 . obtain⟨a,o,b,v,rfl,_⟩:=z
   rfl
 . obtain⟨a,o,n,v,rfl,ha,ho,hn,hv,q⟩:=z
   refine⟨_,qe (qO (jZ (uf h (hr.mono (by decide)) (jv 1))) (qg (qw (Wu h.eP h.cE.cl (h.gEP B T) hr (jv 1) (qb (jv 0) qf)))) qC)
     (qg (qw (J4 h.cN.mkr (h.gNI B T) (hr.mono (by decide)) (by rfl) h.cN.ns h.cN.bi .nil Q4 (qb (qT W5 (Jc (jv 0) rfl) (Jc (jv 1) rfl)) qf)))),?_⟩
   refine⟨_,rfl,o,v,rfl,ho,_,rfl,?_⟩
   cases v with
   | edl c=>
     obtain⟨dx1,e1⟩:=id ho
     exact Qe ⟨_,rfl,o,dx1,_,rfl,e1,NR n6,_,rfl,o,a,c,.num n,rfl,ho,ha,hv,hn,λH' r s i=>q H' r s i⟩
   | num m=>
     obtain⟨dx0,e0⟩:=id ha
     obtain⟨dx1,e1⟩:=id ho
     refine jB ⟨_,rfl,a,h.CN,dx0,_,_,rfl,e0,h.cN.cl,h.cN.na,MG,_,rfl,o,h.CN,dx1,_,_,rfl,e1,h.cN.cl,h.cN.na,MG,_,_,rfl,rfl,λx dx hx hd hne=>?_⟩
     have lt:n^^^m < 16:=xor_lt (m:=4) hn hv
     refine⟨x,dx,((n^^^m:Nat):Int),by rw[<-bx];rfl,by omega,by omega,qd,rfl,?_⟩
     obtain⟨s2,i2⟩:=W9 (CN:=h.CN) (CE:=h.CE) (n:=n^^^m) hx hd hne
     exact q _ _ s2 i2
theorem KI {CN CE a:Addr} {H:Hp} {u:W} {Q:VK} {t:TA} {σ:L2.St} (h:ZQ CN CE H a u) (hu:Yv u) (ht:t σ H λvs H2=>∃o v,vs=[.ref o]/\ZQ CN CE H2 a u/\ZQ CN CE H2 o v/\Yv v/\∀H' r,qm H2 H'->ZQ CN CE H' r (zp u v)->Q (.ref r) H')
   (mono:∀R R':List V->Hp->Prop,(∀vs H,R vs H->R' vs H)->t σ H R->t σ H R'):
   ∃a' dx fs,V.ref a=.ref a'/\fs.lookup (Str.ofString "plus")=none/\((H a'=some (.ins CN dx fs)/\t σ H λvs H2=>vx CN CE (V.ref a::vs) H2 Q E0)\/(H a'=some (.ins CE dx fs)/\t σ H λvs H2=>vy CN CE (V.ref a::vs) H2 Q E0)):=by
 cases u with
 | num n=>
   obtain⟨dx,e⟩:=id h
   exact⟨a,dx,_,rfl,NR n5,.inl ⟨e,mono _ _ (λvs H2 ⟨o,v,e1,h1,h2,h3,h4⟩=>⟨a,o,n,v,by rw[e1],h1,h2,hu,h3,h4⟩) ht⟩⟩
 | edl b=>
   obtain⟨dx,e⟩:=id h
   exact⟨a,dx,_,rfl,NR n6,.inr ⟨e,mono _ _ (λvs H2 ⟨o,v,e1,h1,h2,h3,h4⟩=>⟨a,o,b,v,by rw[e1],h1,h2,hu,h3,h4⟩) ht⟩⟩
theorem Gy {X:Cx} (h:WF X.K X.mg) (B:QF X.mg) (T:Wk X.K X.mg) (hr:qS 6 X.A) {o e:Expr} {ta:TE} {t:TA} {apos pos:Pos} {pl:Sem Bool} (he:JE X o ta) (ha:JA X [e] t) (hst:starEach [e] X.env=(false,eval e X.env)::starEach [] X.env:=by rfl)
   (ht:eval (.Call (.Attribute o "plus" apos) [e] [] pos) X.env=(eval o X.env >>= λov=>standAt apos.atName >>= λ_=>holding [ov] (getMethod ov "plus" pl) >>= λr=>callWith pos r.1 r.2 (backTo pos (starEach [e] X.env)) (backToKw pos (keywordEach [] X.env))):=by rfl):
   JE X (.Call (.Attribute o "plus" apos) [e] [] pos) (λσ H Q=>ta σ H λx H1=>∃a u,x=.ref a/\ZQ h.CN h.CE H1 a u/\Yv u/\t σ H1 λvs H2=>∃o v,vs=[.ref o]/\ZQ h.CN h.CE H2 a u/\ZQ h.CN h.CE H2 o v/\Yv v/\∀H' r,qm H2 H'->ZQ h.CN h.CE H' r (zp u v)->Q (.ref r) H'):=
 Vg (uc (ub he) h.cN.cl h.nP.me (h.gNP B T) hr h.nP.bi h.cE.cl h.eP.me (h.gEP B T) (hr.mono (by decide)) h.eP.bi (qaG ha) hst rfl ht) λσ H Q q=>⟨_,q,λx H1 ⟨a,u,e,i,hu,q1⟩=>by
   subst e
   exact KI (t:=aWk t) i hu ⟨_,q1,λvs H2 z=>z⟩ λR R' k ⟨G,g,z⟩=>⟨G,g,λvs H2 y=>k vs H2 (z vs H2 y)⟩⟩
def Wl (CN CE:Addr) (H:Hp) (as:List Addr) (ws:List W):Prop:=as.length=ws.length/\∀(i:Nat) (a:Addr) (u:W),as[i]?=some a->ws[i]?=some u->ZQ CN CE H a u
def vv (K:PySem.W.Frag) (CN CE:Addr):Sp:=λvs H Q _=>∃(l:Addr) (as:List Addr) (ws:List W),vs=[.ref l]/\SqL K H l (as.map V.ref)/\Wl CN CE H as ws/\(∀u∈ws,Yv u)/\∀H' r,qm H H'->ZQ CN CE H' r (Qy ws)->Q (.ref r) H'
theorem YJ:qp ["worths","total","worth"] ["worths"] (qh Xj):=⟨rfl,rfl,rfl,by decide+kernel,rfl,by decide+kernel,by decide+kernel⟩
theorem Vi {ws:List W} (h:∀u∈ws,Yv u) (i:Nat):Yv ((ws.take i).foldl zp (.num 0)):=by
 have h':∀u∈ws.take i,Yv u:=λu hu=>h u (zbX hu)
 rw[Ud h']
 exact xg h'
theorem wA {f:Addr} {fd:FuncData} (F:jU K "sum_of" "sum_of" Xj f fd) (h:WF K mg) (B:QF mg) (T:Wk K mg):ql P w K mg base qG 7 f fd ["worths"] (vv K h.CN h.CE):=by
 refine F.okJ YJ (λvs H Q E z=>?_) (λcdv A outer s H vs Q E hr z=>?_)
 . obtain⟨l,as,ws,rfl,_⟩:=z
   rfl
 . obtain⟨l,as,ws,rfl,hS,hW,hok,q⟩:=z
   refine⟨_,qe (qy (i:=1) YJ.nd rfl (Or.inl rfl) (J4 h.cN.mkr (h.gNI B T) (hr.mono (by decide)) (by rfl) h.cN.ns h.cN.bi .nil Q4 (qb qi qf)))
     (qe (jd PassesOwn.never rfl (qI (jv 0)) (qv (i:=2) YJ.nd rfl (Or.inl rfl)) (qg (qy (i:=1) YJ.nd rfl (Or.inl rfl) (Gy h B T hr (jv 1) (qb (jv 2) qf)))))
     (qg (qw (jv 1)))),?_⟩
   intro x dx hx hd hne
   refine⟨x,dx,0,rfl,by decide,by decide,qd,rfl,?_⟩
   obtain⟨s1,i1⟩:=W9 (CN:=h.CN) (CE:=h.CE) (n:=0) hx hd hne
   refine⟨_,rfl,l,rfl,⟨_,s1.seq hS⟩,?_⟩
   refine jw (K:=K) (a:=l) (xs:=as.map V.ref) (λi σ H'=>∃r v,σ=[some (.ref l),some (.ref r),v]/\qm H H'/\ZQ h.CN h.CE H' r ((ws.take i).foldl zp (.num 0))) ⟨x,none,rfl,s1,i1⟩ (λi σ H' _ ⟨_,_,_,e,_⟩=>e.seq hS) ?_ ?_
   . rintro i y σ H' hy ⟨r,v,rfl,s2,i2⟩
     rw[tI]at hy
     cases ea:as[i]? with
     | none=>rw[ea]at hy;cases hy
     | some o=>
       rw[ea]at hy
       obtain rfl:=(tO.inj hy).symm
       have hi:i < ws.length:=by
         have:=(tE.mp ea).1
         rw[hW.1]at this
         exact this
       have ew:ws[i]?=some ws[i]:=tH hi
       have io:=(hW.2 i o _ ea ew).same s2
       have et:ws.take (i+1)=ws.take i++[ws[i]]:=by rw[tR,ew];rfl
       refine⟨_,rfl,r,_,rfl,i2,Vi hok i,_,rfl,o,_,rfl,i2,io,hok _ (zbI hi),λH3 r3 s3 i3=>?_⟩
       refine⟨r3,_,rfl,s2.trans s3,?_⟩
       rw[et,zcB]
       exact i3
   . rintro σ H' ⟨r,v,rfl,s2,i2⟩
     refine⟨_,rfl,q _ _ s2 ?_⟩
     rw[tj,hW.1,tK (tF _),Ud hok]at i2
     exact i2
def zq:W->Str
 | .num n=>if n=0 then "lost" else "won"
 | .edl b=>if b.testBit 0=true then "won" else "drawn"
def xt (CN CE:Addr):Sp:=λvs H Q _=>∃a n,vs=[.ref a]/\ZQ CN CE H a (.num n)/\Q (.str (zq (.num n))) H
def xu (CN CE:Addr):Sp:=λvs H Q _=>∃a b,vs=[.ref a]/\ZQ CN CE H a (.edl b)/\b < 65536/\∀H',qm H H'->Q (.str (zq (.edl b))) H'
theorem Nt:qp ["self"] ["self"] (qh vO):=⟨rfl,rfl,rfl,by decide+kernel,rfl,by decide+kernel,by decide+kernel⟩
theorem Nw:qp ["self"] ["self"] (qh vR):=⟨rfl,rfl,rfl,by decide+kernel,rfl,by decide+kernel,by decide+kernel⟩
theorem WF.gNO (h:WF K mg):ql P w K mg base qG 1 h.fNO h.dNO ["self"] (xt h.CN h.CE):=by
 refine h.nO.fn.okJ Nt (λvs H Q E z=>?_) (λcdv A outer s H vs Q E hr z=>?_)
 . obtain⟨a,n,rfl,_⟩:=z
   rfl
 . obtain⟨a,n,rfl,⟨dx,e⟩,q⟩:=z
   refine⟨_,qe (qO (qt jp (Jc (jv 0) rfl) qi (qB _)) (qg (qw qP)) qC) (qg (qw qP)),?_⟩
   refine⟨_,rfl,a,h.CN,dx,_,_,rfl,e,h.cN.cl,h.cN.na,MG,rfl,_,rfl,?_⟩
   have q:Q (.str (if n=0 then "lost" else "won")) H:=q
   by_cases c:n=0
   . subst c
     rw[if_pos rfl]at q
     exact jk (by decide) q
   . rw[if_neg c]at q
     exact qZ (decide_eq_false λz=>c (by have:=V.int.inj z;omega)) q
theorem WF.gEO (h:WF K mg) (B:QF mg):ql P w K mg base qG 2 h.fEO h.dEO ["self"] (xu h.CN h.CE):=by
 have GN:ql P w K mg base qG 1 h.fN h.dN ["bits"] Z7:=zu h.hN.fn B
 refine h.eO.fn.okJ Nw (λvs H Q E z=>?_) (λcdv A outer s H vs Q E hr z=>?_)
 . obtain⟨a,b,rfl,_⟩:=z
   rfl
 . obtain⟨a,b,rfl,⟨dx,e⟩,hb,q⟩:=z
   refine⟨_,qe (qO (qt JH qi (qH h.hN GN hr (by rfl) (qb (Jc (jv 0) rfl) qf)) (by with_unfolding_all rfl)) (qg (qw qP)) qC) (qg (qw qP)),?_⟩
   refine⟨_,rfl,a,h.CE,dx,_,_,rfl,e,h.cE.cl,h.cE.na,MG,b,rfl,hb,λl hl=>?_⟩
   refine⟨l,_,rfl,.inl (.of qd),rfl,Zp _,_,rfl,?_⟩
   have e0:Zo (.int ((0:Nat):Int)) (Jq (memN b 16))=b.testBit 0:=by
     rw[Yk]
     unfold memN
     rw[zbg,decide_eq_true_iff,tX]
     exact⟨λh=>h.2,λh=>⟨by decide,h⟩⟩
   have q:=q _ (qk (o:=HO.lst (Jq (memN b 16))) hl)
   have q:Q (.str (if b.testBit 0=true then "won" else "drawn")) (upd H l (HO.lst (Jq (memN b 16)))):=q
   show if Zo (.int ((0:Nat):Int)) (Jq (memN b 16))=true then _ else _
   rw[e0]
   cases c:b.testBit 0 with
   | true=>rw[if_pos c]at q;exact Qe q
   | false=>rw[if_neg (by rw[c];exact tP)]at q;exact jB q
theorem n7:((Str.ofString "outcome")==(Str.ofString "number"))=false:=by decide+kernel
theorem n8:((Str.ofString "outcome")==(Str.ofString "bits"))=false:=by decide+kernel
theorem KP {CN CE a:Addr} {H:Hp} {w:W} {Q:VK} (h:ZQ CN CE H a w) (ok:Yv w) (q:∀H',qm H H'->Q (.str (zq w)) H'):
   ∃a' dx fs,V.ref a=.ref a'/\fs.lookup (Str.ofString "outcome")=none/\((H a'=some (.ins CN dx fs)/\xt CN CE [V.ref a] H Q E0)\/(H a'=some (.ins CE dx fs)/\xu CN CE [V.ref a] H Q E0)):=by
 cases w with
 | num n=>obtain⟨dx,e⟩:=id h;exact⟨a,dx,_,rfl,NR n7,.inl ⟨e,a,n,rfl,h,q H λ_ _ z=>z⟩⟩
 | edl b=>obtain⟨dx,e⟩:=id h;exact⟨a,dx,_,rfl,NR n8,.inr ⟨e,a,b,rfl,h,ok,q⟩⟩
theorem Gz {X:Cx} (h:WF X.K X.mg) (B:QF X.mg) (hr:qS 2 X.A) {o:Expr} {ta:TE} {apos pos:Pos} {pl:Sem Bool} (he:JE X o ta)
   (ht:eval (.Call (.Attribute o "outcome" apos) [] [] pos) X.env=(eval o X.env >>= λov=>standAt apos.atName >>= λ_=>holding [ov] (getMethod ov "outcome" pl) >>= λr=>callWith pos r.1 r.2 (backTo pos (starEach [] X.env)) (backToKw pos (keywordEach [] X.env))):=by rfl):
   JE X (.Call (.Attribute o "outcome" apos) [] [] pos) (λσ H Q=>ta σ H λx H1=>∃a u,x=.ref a/\ZQ h.CN h.CE H1 a u/\Yv u/\∀H',qm H1 H'->Q (.str (zq u)) H'):=
 Vg (Wt (ub he) h.cN.cl h.nO.me h.gNO (hr.mono (by decide)) h.nO.bi h.cE.cl h.eO.me (h.gEO B) hr h.eO.bi ht) λσ H Q q=>⟨_,q,λx H1 ⟨a,u,e,i,k,q1⟩=>by subst e;exact KP i k q1⟩
end
open PySem L2 PyProof.Rows MLab Rb
abbrev z5:Stmt:=top 32
abbrev ZT:Stmt:=top 35
abbrev sLW:Stmt:=top 54
abbrev Kw:Stmt:=top 58
structure jG (H:Hp) (h:Addr) (rs:qW) (hs:List Str):Prop where
 at_:H h=some (.lst (hs.map V.str))
 le:hs.length<=8
 in_:∀z∈hs,∃r∈rs,r.1=z
theorem jG.mono {H H':Hp} {h:Addr} {rs:qW} {hs:List Str} (x:jG H h rs hs) (s:qm H H'):jG H' h rs hs:=⟨s _ _ x.at_,x.le,x.in_⟩
def vz (CG:Addr):Sp:=λvs H Q _=>∃(g:Addr) (rs:qW) (z:Str),vs=[.ref g,.str z]/\Qi CG H g rs/\(∃r∈rs,r.1=z)/\∀H',qm H H'->Q .non H'
def Z8 (CG:Addr):Sp:=λvs H Q _=>∃(g h:Addr) (rs:qW) (hs:List Str),vs=[.ref g,.ref h]/\Qi CG H g rs/\jG H h rs hs/\∀H',qm H H'->Q .non H'
def TK (H H':Hp):Prop:=∀a xs,H a=some (.tup xs)->H' a=some (.tup xs)
theorem TK.of {H H':Hp} (s:qm H H'):TK H H':=λa xs h=>s _ _ h
theorem TK.upd {H:Hp} {d:Addr} {o u:HO} (hd:H d=some o) (no:∀xs,o≠.tup xs):TK H (upd H d u):=λa xs h=>by
 rw[qj (λe=>by rw[e,hd]at h;exact no xs (tO.inj h))]
 exact h
def jY (rs:qW) (z:Str):List Str:=match rs.find? (λr=>decide (r.1=z)) with
 | some r=>r.2
 | none=>[]
theorem zy {rs:qW} {r:Str×List Str} (hn:(rs.map (·.1)).Nodup) (h:r∈rs):jY rs r.1=r.2:=by
 unfold jY
 rw[XO hn h]
theorem qK {rs:qW} (g:qu rs) {z y:Str} (hz:z∈rs.map (·.1)):y∈jY rs z↔y∈Qx rs z:=by
 obtain⟨r,hr,rfl⟩:=tJ.mp hz
 rw[zy g.nd hr,ki g hr]
theorem Gu {rs:qW} (g:qu rs) {num:Str->Option Nat} {stp:Str->Nat} (L:XY (Qx rs) (·∈rs.map (·.1)) num stp):XY (jY rs) (·∈rs.map (·.1)) num stp where
 cl:=λ{x y} hx hy=>L.cl hx ((qK g hx).mp hy)
 n1:=λ{x n m} hx e lt=>let ⟨y,hy,k⟩:=L.n1 hx e lt;⟨y,(qK g hx).mpr hy,k⟩
 n2:=λ{x y n} hx e hy=>L.n2 hx e ((qK g hx).mp hy)
 n3:=λ{x y n} hx e hy gt=>let ⟨z,hz,k⟩:=L.n3 hx e ((qK g hx).mp hy) gt;⟨z,(qK g (L.cl hx ((qK g hx).mp hy))).mpr hz,k⟩
 n4:=λ{x y n m} hx e hy=>L.n4 hx e ((qK g hx).mp hy)
 e:=λ{x m} hx e lo hi=>by
   obtain⟨y,hy,ey,ly⟩:=L.e hx e (λj hj=>let ⟨y,hy,k⟩:=lo j hj;⟨y,(qK g hx).mp hy,k⟩) (λy hy=>hi y ((qK g hx).mpr hy))
   exact⟨y,(qK g hx).mpr hy,ey,λz hz=>ly z ((qK g (L.cl hx hy)).mp hz)⟩
section
variable {P:Program} {w:World} {K:PySem.W.Frag} {mg:Str->Option Value} {base:Heap}
abbrev NU:List Str:=["ground","thing"]
theorem qbo:qp NU NU (qh z5):=⟨rfl,rfl,rfl,by decide+kernel,rfl,by decide+kernel,by decide+kernel⟩
theorem wC {f CG:Addr} {fd:FuncData} (F:jU K "need_place" "need_place" z5 f fd) (G:Qv mg) (M:GM K mg CG):ql P w K mg base qG 2 f fd NU (vz CG):=by
 obtain⟨fC,fdC,C⟩:=M.cls
 obtain⟨fN,fdN,hN⟩:=M.nm
 have GN:ql P w K mg base qG 1 fN fdN ["self"] (za CG):=z8 hN.fn C G
 refine F.okJ qbo (λvs H Q E h=>?_) (λcdv A outer s H vs Q E hr h=>?_)
 . obtain⟨g,rs,z,rfl,_⟩:=h
   rfl
 . obtain⟨g,rs,z,rfl,gr,hz,q⟩:=h
   refine⟨_,qg (qO (qt QU (jv 1) (ue hN C.cl GN hr (jv 0)) (by with_unfolding_all rfl)) q4 qC),?_⟩
   obtain⟨dx,fs,hg,l1,l2⟩:=gr.ins
   refine⟨_,rfl,_,rfl,g,dx,fs,rfl,hg,l1,g,rs,rfl,gr,λl hl=>⟨l,_,rfl,.inl (.of qd),rfl,ZB _,_,rfl,?_⟩⟩
   have e:Zo (.str z) ((rs.map (·.1)).map V.str)=true:=Vh (by obtain⟨r,hr',rfl⟩:=hz;exact tJ.mpr ⟨r,hr',rfl⟩)
   show if (!Zo (.str z) ((rs.map (·.1)).map V.str))=true then _ else _
   rw[e]
   exact jB (q _ (qk hl))
abbrev nNH:List Str:=["ground","heap","thing"]
theorem M8:qp nNH ["ground","heap"] (qh ZT):=⟨rfl,rfl,rfl,by decide+kernel,rfl,by decide+kernel,by decide+kernel⟩
theorem VX {f fP CG:Addr} {fd fdP:FuncData} (F:jU K "need_heap" "need_heap" ZT f fd) (B:QF mg) (G:Qv mg) (T:QE K mg) (M:GM K mg CG) (hP:qY K mg "need_place" z5 NU fP fdP) (mt:∃t,mg "MOST_TOKENS"=some (.int 8 t)):ql P w K mg base qG 3 f fd ["ground","heap"] (Z8 CG):=by
 have GP:ql P w K mg base qG 2 fP fdP NU (vz CG):=wC hP.fn G M
 obtain⟨tk,hmt⟩:=mt
 refine F.okJ M8 (λvs H Q E h=>?_) (λcdv A outer s H vs Q E hr h=>?_)
 . obtain⟨g,h',rs,hs,rfl,_⟩:=h
   rfl
 . obtain⟨g,h',rs,hs,rfl,gr,hh,q⟩:=h
   refine⟨_,qe (qO (Jx (jZ (qF j9 (by rfl) T.isi boot_isinstance (qb (jv 1) (qb (J6 (v:=.ty "list") (by rfl) G.lst boot_list rfl) qf))))) q4 qC)
     (qe (qO (qt zr (qF qR (by rfl) B.len boot_len (qb (jv 1) qf)) (J5 (v:=.int 8) (by rfl) hmt ⟨_,rfl⟩) (qB _)) q4 qC)
     (qg (jd PassesOwn.never rfl (qI (jv 1)) (qv (i:=2) M8.nd rfl (Or.inl rfl)) (qg (jC (qH hP GP hr (by rfl) (qb (jv 0) (qb (jv 2) qf)))))))),?_⟩
   refine⟨_,rfl,_,_,_,_,rfl,rfl,.lst hh.at_,T.kll,_,rfl,jB ?_⟩
   refine⟨_,rfl,h',_,rfl,.inl (.of hh.at_),_,_,rfl,rfl,_,rfl,qZ (decide_eq_false ?_) ?_⟩
   . have:=hh.le
     rw[tj]
     omega
   refine⟨_,rfl,h',rfl,⟨_,.of hh.at_⟩,?_⟩
   refine jw (K:=K) (a:=h') (xs:=hs.map V.str) (λi σ' G=>∃v,σ'=[some (.ref g),some (.ref h'),v]/\qm H G) ⟨_,rfl,qm.refl H⟩ (λi σ' G _ ⟨_,_,s⟩=>.of (s _ _ hh.at_)) ?_ ?_
   . rintro i y σ' G hy ⟨v,rfl,sG⟩
     obtain⟨z,ez,hz,rfl⟩:=Qa hy
     exact⟨_,rfl,_,rfl,g,rs,z,rfl,gr.mono sG,hh.in_ z hz,λH' s'=>⟨_,rfl,sG.trans s'⟩⟩
   . rintro σ' G ⟨v,rfl,sG⟩
     exact q G sG
end
def wT (rs:qW) (R:Rs Str) (z:Str):W:=match qE R z with
 | some n=>.num n
 | none=>.edl (setN (QB rs (qE R) z))
theorem zP {rs:qW} {R:Rs Str} {z:Str} {n:Nat} (e:qE R z=some n):wT rs R z=.num n:=by unfold wT;rw[e]
theorem Zd {rs:qW} {R:Rs Str} {z:Str} (e:qE R z=none):wT rs R z=.edl (setN (QB rs (qE R) z)):=by unfold wT;rw[e]
theorem RF {rs:qW} (good:qu rs) {R:Rs Str} (L:XY (Qx rs) (·∈rs.map (·.1)) (qE R) (QY R)) {z:Str} (hz:z∈rs.map (·.1)):Yv (wT rs R z):=by
 cases e:qE R z with
 | some n=>
   rw[zP e]
   have:=Yb good L hz e
   show n < 16
   omega
 | none=>
   rw[Zd e]
   show setN _ < 65536
   refine setN_lt (m:=16) λx hx=>?_
   obtain⟨y,hy,ey⟩:=jx.mp hx
   have:=Yb good L (L.cl hz hy) ey
   omega
theorem Jk (ns:List Nat):xorAll ns=jK ns:=by
 induction ns with
 | nil=>rfl
 | cons n ns ih=>rw[Yn,ih,Zt]
theorem Ya {rs:qW} {R:Rs Str}:∀hs:List Str,Q8 (hs.map (wT rs R))=nums (qE R) hs
 | []=>rfl
 | z::hs=>by
   unfold Q8 nums
   rw[tW,zar,zar]
   have ih:=Ya (rs:=rs) (R:=R) hs
   unfold Q8 nums at ih
   cases e:qE R z with
   | some n=>rw[zP e,ih]
   | none=>rw[Zd e,ih]
theorem zX {rs:qW} {R:Rs Str}:∀hs:List Str,(Qf (hs.map (wT rs R))).length=ends (qE R) hs
 | []=>rfl
 | z::hs=>by
   unfold Qf ends
   rw[tW,zar,zbu]
   have ih:=zX (rs:=rs) (R:=R) hs
   unfold Qf ends at ih
   cases e:qE R z with
   | some n=>rw[zP e];exact ih
   | none=>rw[Zd e];show _+1=_+1;rw[ih]
theorem kR {rs:qW} {R:Rs Str} {p q:List Str} {x:Str} (ex:qE R x=none) (he:ends (qE R) (p++q)=0):Qf ((p++x::q).map (wT rs R))=[setN (QB rs (qE R) x)]:=by
 have h1:Qf ((p++q).map (wT rs R))=[]:=zaA (by rw[zX];exact he)
 unfold Qf at h1 ⊢
 rw[tN,zaq,List.append_eq_nil_iff]at h1
 rw[tN,tW,zaq,zar,Zd ex,h1.1,h1.2]
 rfl
theorem Xx {rs:qW} (good:qu rs) {R:Rs Str} (L:XY (Qx rs) (·∈rs.map (·.1)) (qE R) (QY R)) {hs:List Str} (hk:∀z∈hs,z∈rs.map (·.1)):
   (YF (mv (jY rs)) hs/\zq (Qy (hs.map (wT rs R)))="lost")\/(Won (mv (jY rs)) hs/\zq (Qy (hs.map (wT rs R)))="won")\/(¬YF (mv (jY rs)) hs/\¬Won (mv (jY rs)) hs/\zq (Qy (hs.map (wT rs R)))="drawn"):=by
 have LL:=Gu good L
 have hl:=zX (rs:=rs) (R:=R) hs
 have en:xorAll (Q8 (hs.map (wT rs R)))=jK (nums (qE R) hs):=by rw[Ya,Jk]
 rw[Q9 LL hk,WL LL hk]
 rcases zaC (ends (qE R) hs) 1 with c | c | c
 . have he:ends (qE R) hs=0:=by omega
   rw[he]at hl
   have e0:Qf (hs.map (wT rs R))=[]:=zaA hl
   have et:Qy (hs.map (wT rs R))=.num (jK (nums (qE R) hs)):=by unfold Qy;rw[e0,<-en]
   have nd:¬Drawn (jY rs) (qE R) hs:=by
     rintro(⟨p,x,q,rfl,ex,_⟩ | h)
     . rw[jf ex]at he;omega
     . omega
   rw[et]
   by_cases x0:jK (nums (qE R) hs)=0
   . exact .inl ⟨⟨he,x0⟩,if_pos x0⟩
   . exact .inr (.inl ⟨⟨nd,λz=>x0 z.2⟩,if_neg x0⟩)
 . obtain⟨p,x,q,rfl,ex⟩:=QK.mp (by omega:0 < ends (qE R) hs)
   rw[jf ex]at c
   have he:ends (qE R) (p++q)=0:=by omega
   have hx:x∈rs.map (·.1):=hk x (by simp)
   have lt:jK (nums (qE R) (p++x::q)) < 16:=by
     rw[<-Jk]
     refine zO λn hn=>?_
     obtain⟨z,hz,ez⟩:=zaE.mp hn
     have:=Yb good L (hk z hz) ez
     omega
   have et:Qy ((p++x::q).map (wT rs R))=.edl (turnN (setN (QB rs (qE R) x)) (jK (nums (qE R) (p++x::q))) 16):=by
     unfold Qy
     rw[kR ex he,<-en]
   have nz:¬Zero (qE R) (p++x::q):=λz=>by have:=z.1;rw[jf ex]at this;omega
   have eb:(turnN (setN (QB rs (qE R) x)) (jK (nums (qE R) (p++x::q))) 16).testBit 0=decide (jK (nums (qE R) (p++q))∈QB rs (qE R) x):=by
     rw[Qn lt,zcC,testBit_setN,Q7 ex]
     simp
   rw[et]
   by_cases m:jK (nums (qE R) (p++q))∈QB rs (qE R) x
   . refine .inr (.inl ⟨⟨?_,nz⟩,?_⟩)
     . obtain⟨y,hy,ey⟩:=jx.mp m
       have ly:y∈jY rs x:=(qK good hx).mpr hy
       intro d
       have zb:Zero (qE R) (p++y::q):=⟨by rw[ja ey];exact he,by rw[jL ey,zcb]⟩
       exact Z0 d ((jE _).mpr ⟨p,x,y,q,rfl,ly,rfl⟩) zb
     . show (if _ then _ else _)=_
       rw[eb,if_pos (decide_eq_true m)]
   . have d:Drawn (jY rs) (qE R) (p++x::q):=.inl ⟨p,x,q,rfl,ex,he,λy hy ey=>m (jx.mpr ⟨y,(qK good hx).mp hy,ey⟩)⟩
     refine .inr (.inr ⟨nz,λh=>h.1 d,?_⟩)
     show (if _ then _ else _)=_
     rw[eb,decide_eq_false m]
     rfl
 . have d:Drawn (jY rs) (qE R) hs:=.inr (by omega)
   have nz:¬Zero (qE R) hs:=λz=>by have:=z.1;omega
   have et:Qy (hs.map (wT rs R))=.edl 0:=by
     unfold Qy
     cases e:Qf (hs.map (wT rs R)) with
     | nil=>rw[e]at hl;simp at hl;omega
     | cons a t=>
       cases t with
       | nil=>rw[e]at hl;simp at hl;omega
       | cons b t=>rfl
   rw[et]
   exact .inr (.inr ⟨nz,λh=>h.1 d,rfl⟩)
def Ni (CN CE:Addr):Sp:=λvs H Q _=>∃(t:Addr) (rs:qW) (R:Rs Str) (z:Str),vs=[.ref t]/\H t=some (.tup (Qb rs R z))/\Yv (wT rs R z)/\∀a H',qm H H'->ZQ CN CE H' a (wT rs R z)->Q (.ref a) H'
def RI (CN CE:Addr):Sp:=λvs H Q _=>∃(D h:Addr) (rs:qW) (R:Rs Str) (hs:List Str),vs=[.ref D,.ref h]/\je H D rs R/\jG H h rs hs/\(∀z∈hs,Yv (wT rs R z))/\∀a H',qm H H'->ZQ CN CE H' a (Qy (hs.map (wT rs R)))->Q (.ref a) H'
section
variable {P:Program} {w:World} {K:PySem.W.Frag} {mg:Str->Option Value} {base:Heap}
theorem qbq:qp ["label"] ["label"] (qh sLW):=⟨rfl,rfl,rfl,by decide+kernel,rfl,by decide+kernel,by decide+kernel⟩
theorem qar {f:Addr} {fd:FuncData} (F:jU K "label_worth" "label_worth" sLW f fd) (h:WF K mg) (B:QF mg) (T:Wk K mg):ql P w K mg base qG 5 f fd ["label"] (Ni h.CN h.CE):=by
 refine F.okJ qbq (λvs H Q E z=>?_) (λcdv A outer s H vs Q E hr z=>?_)
 . obtain⟨t,rs,R,z,rfl,_⟩:=z
   rfl
 . obtain⟨t,rs,R,z,rfl,ht,ok,q⟩:=z
   refine⟨_,qe (qO (qt jp (qM qU (jv 0) qi (λ_ _=>rfl)) qP (qB _)) (qg (qw (J4 h.cN.mkr (h.gNI B T) hr (by rfl) h.cN.ns h.cN.bi .nil Q4 (qb (qM qU (jv 0) qi (λ_ _=>rfl)) qf)))) qC)
     (qg (qw (J4 h.cE.mkr (h.gEI B T) hr (by rfl) h.cE.ns h.cE.bi .nil Q4 (qb (qM qU (jv 0) qi (λ_ _=>rfl)) qf)))),?_⟩
   cases e:qE R z with
   | some n=>
     rw[zP e]at ok q
     have el:Qb rs R z=[.str "number",.int (n:Nat),.int (QY R z:Nat)]:=by unfold Qb;rw[e]
     rw[el]at ht
     refine⟨_,rfl,t,_,0,_,rfl,rfl,.of ht,rfl,rfl,_,rfl,jk (by decide+kernel) ?_⟩
     refine⟨_,rfl,t,_,1,_,rfl,rfl,.of ht,rfl,λx dx hx hd hne=>⟨x,dx,_,rfl,by omega,?_,qd,rfl,?_⟩⟩
     . have:n < 16:=ok
       omega
     . obtain⟨s1,i1⟩:=W9 (CN:=h.CN) (CE:=h.CE) (n:=n) hx hd hne
       exact q _ _ s1 i1
   | none=>
     rw[Zd e]at ok q
     have el:Qb rs R z=[.str "endless",.int (setN (QB rs (qE R) z):Nat)]:=by unfold Qb;rw[e]
     rw[el]at ht
     refine⟨_,rfl,t,_,0,_,rfl,rfl,.of ht,rfl,rfl,_,rfl,qZ (by decide+kernel) ?_⟩
     refine⟨_,rfl,t,_,1,_,rfl,rfl,.of ht,rfl,λx dx hx hd hne=>⟨x,dx,_,rfl,by omega,?_,qd,rfl,?_⟩⟩
     . have:setN (QB rs (qE R) z) < 65536:=ok
       omega
     . obtain⟨s1,i1⟩:=Va (CN:=h.CN) (CE:=h.CE) (b:=setN (QB rs (qE R) z)) hx hd hne
       exact q _ _ s1 i1
theorem M5:qp ["labels","heap"] ["labels","heap"] (qh Kw):=⟨rfl,rfl,rfl,by decide+kernel,rfl,by decide+kernel,by decide+kernel⟩
theorem NH {f fL fS:Addr} {fd fdL fdS:FuncData} (F:jU K "worth_by" "worth_by" Kw f fd) (h:WF K mg) (B:QF mg) (T:Wk K mg) (hL:qY K mg "label_worth" sLW ["label"] fL fdL) (hS:qY K mg "sum_of" Xj ["worths"] fS fdS):ql P w K mg base qG 8 f fd ["labels","heap"] (RI h.CN h.CE):=by
 have GL:ql P w K mg base qG 5 fL fdL ["label"] (Ni h.CN h.CE):=qar hL.fn h B T
 have GS:ql P w K mg base qG 7 fS fdS ["worths"] (vv K h.CN h.CE):=wA hS.fn h B T
 refine F.okJ M5 (λvs H Q E z=>?_) (λcdv A outer s H vs Q E hr z=>?_)
 . obtain⟨D,h',rs,R,hs,rfl,_⟩:=z
   rfl
 . obtain⟨D,h',rs,R,hs,rfl,lb,hh,ok,q⟩:=z
   have hu:=jR hr
   have r4:qS 5 _:=hr.mono (by decide)
   refine⟨_,qg (qw (qH hS GS hr (by rfl) (qb (j6 (N':=["place","labels"]) (ix:=[none,some 0]) (te:=Ze (Ni h.CN h.CE) [] E0 (jo (Z6 (q5 1) (q5 0)) Jj)) rfl ⟨rfl,rfl,rfl,rfl,rfl⟩ (qI (jv 1)) (λC s2 H2 fp pins=>
       ⟨qv (i:=0) (show (["place","labels"]:List Str).Nodup by decide+kernel) rfl (Or.inl rfl),j2,qH hL GL r4 (by rfl) (qb (qV hu (jv 1) (jv 0) (λ_ _=>rfl)) qf)⟩)) qf))),?_⟩
   refine⟨_,rfl,h',rfl,⟨_,.of hh.at_⟩,λW hW=>?_⟩
   refine jW (K:=K) (a:=h') (xs:=hs.map V.str) (λj σ'' G=>∃(v0:Option V) (as:List Addr),σ''=[v0,some (.ref D)]/\qm H G/\G W=some (.lst (as.map V.ref))/\Wl h.CN h.CE G as ((hs.take j).map (wT rs R)))
     ⟨none,[],rfl,qk hW,qd,rfl,λi a u e=>(nomatch e)⟩ (λj σ'' G _ ⟨_,_,_,s,_⟩=>.of (s _ _ hh.at_)) ?_ ?_
   . rintro j y σ'' G hy ⟨v0,as,rfl,sG,hG,wl⟩
     obtain⟨z,ez,hz,rfl⟩:=Qa hy
     obtain⟨kvs,hD,_,hv⟩:=(lb.mono sG).at_
     obtain⟨r,hr',er⟩:=hh.in_ z hz
     obtain⟨t,et,ht⟩:=hv r hr'
     rw[er]at et ht
     refine⟨_,rfl,_,rfl,D,_,rfl,by rw[<-et];exact j1.k (k:=(Sum.inr z:qL)) hD,t,rs,R,z,rfl,ht,ok z hz,λa G1 s1 ia=>?_⟩
     have l8:=hh.le
     have lw:=wl.1
     rw[tj,tS]at lw
     have nW:H W=none:=hW
     refine⟨_,s1 _ _ hG,by rw[tj];exact qo (by omega),_,as++[a],rfl,qm.upd (sG.trans s1) hW,by rw[tN];exact qd,?_⟩
     have up:∀{b:Addr} {u:Rb.W},ZQ h.CN h.CE G1 b u->ZQ h.CN h.CE (upd G1 W (.lst (as.map V.ref++[V.ref a]))) b u:=λ{b u} hb=>by
       have hW1:=s1 _ _ hG
       cases u with
       | num n=>obtain⟨dx,e⟩:=hb;exact⟨dx,by rw[qj (λq=>by rw[q,hW1]at e;cases e)];exact e⟩
       | edl n=>obtain⟨dx,e⟩:=hb;exact⟨dx,by rw[qj (λq=>by rw[q,hW1]at e;cases e)];exact e⟩
     rw[tR,ez,tN]
     refine⟨by rw[tL,tL,wl.1];rfl,λi b u e1 e2=>?_⟩
     rcases QS e1 with ⟨i1,e1⟩ | ⟨i1,rfl⟩
     . rcases QS (show (zdU (wT rs R) (hs.take j)++[wT rs R z])[i]?=some u from e2) with ⟨_,e2⟩ | ⟨i2,_⟩
       . exact up ((wl.2 i b u e1 e2).same s1)
       . have:=wl.1;omega
     . rcases QS (show (zdU (wT rs R) (hs.take j)++[wT rs R z])[i]?=some u from e2) with ⟨i2,_⟩ | ⟨_,rfl⟩
       . have:=wl.1;omega
       . exact up ia
   . rintro σ'' G ⟨v0,as,rfl,sG,hG,wl⟩
     rw[tj,tK (tF _)]at wl
     refine⟨W,as,_,rfl,.of hG,wl,λu hu=>?_,λH' r s' i'=>q r H' (sG.trans s') i'⟩
     obtain⟨z,hz,rfl⟩:=tJ.mp hu
     exact ok z hz
structure yZ (K:PySem.W.Frag) (mg:Str->Option Value):Prop where
 place:∃f fd,qY K mg "need_place" z5 NU f fd
 heap:∃f fd,qY K mg "need_heap" ZT ["ground","heap"] f fd
 lw:∃f fd,qY K mg "label_worth" sLW ["label"] f fd
 sum:∃f fd,qY K mg "sum_of" Xj ["worths"] f fd
 wby:∃f fd,qY K mg "worth_by" Kw ["labels","heap"] f fd
 most:∃t,mg "MOST_TOKENS"=some (.int 8 t)
end
open PySem L2 PyProof.Rows MLab Rb
abbrev Zg:Stmt:=top 36
abbrev Yt:Stmt:=top 37
abbrev xR:Stmt:=top 59
abbrev vM:Stmt:=top 60
def mvT (rs:qW) (j:Nat) (z:Str):List (Nat×Str):=(Qx rs z).map λe=>(j,e)
def mvs (rs:qW) (hs:List Str) (n:Nat):List (Nat×Str):=(zac n).flatMap λj=>mvT rs j (QP hs j)
theorem XC (rs:qW) (hs:List Str) (n:Nat):mvs rs hs (n+1)=mvs rs hs n++mvT rs n (QP hs n):=by
 unfold mvs
 rw[zco,List.flatMap_append]
 simp
def X6 (m:Nat×Str):List V:=[.int (m.1:Int),.str m.2]
def jF (H:Hp) (ps:List Addr) (ms:List (Nat×Str)):Prop:=ps.length=ms.length/\∀(i:Nat) (p:Addr) (m:Nat×Str),ps[i]?=some p->ms[i]?=some m->H p=some (.tup (X6 m))
theorem jF.mono {H H':Hp} {ps:List Addr} {ms:List (Nat×Str)} (h:jF H ps ms) (s:qm H H'):jF H' ps ms:=⟨h.1,λi p m e1 e2=>s _ _ (h.2 i p m e1 e2)⟩
theorem jF.nil (H:Hp):jF H [] []:=⟨rfl,λi p m e=>by simp at e⟩
theorem jF.app {H:Hp} {ps qs:List Addr} {ms ns:List (Nat×Str)} (h:jF H ps ms) (k:jF H qs ns):jF H (ps++qs) (ms++ns):=by
 refine⟨by rw[tL,tL,h.1,k.1],λi p m e1 e2=>?_⟩
 by_cases hi:i < ps.length
 . rw[zah hi]at e1
   rw[zah (by rw[<-h.1];exact hi)]at e2
   exact h.2 i p m e1 e2
 . have hi':ps.length<=i:=Nat.le_of_not_lt hi
   rw[zad hi']at e1
   rw[zad (by rw[<-h.1];exact hi'),<-h.1]at e2
   exact k.2 _ p m e1 e2
theorem jF.one {H:Hp} {p:Addr} {m:Nat×Str} (h:H p=some (.tup (X6 m))):jF H [p] [m]:=by
 refine⟨rfl,λi p' m' e1 e2=>?_⟩
 cases i with
 | zero=>cases e1;cases e2;exact h
 | succ i=>simp at e1
theorem JZ {rs:qW} {hs:List Str} (g:qu rs) (le:rs.length<=14) (hi:∀z∈hs,∃r∈rs,r.1=z):∀n,n<=hs.length->(mvs rs hs n).length<=n*14
 | 0,_=>tF _
 | n+1,h=>by
   rw[XC,tL]
   have h1:=JZ g le hi n (zak h)
   obtain⟨r,hr,e⟩:=hi _ (Zr h)
   have h2:=YX (rs:=rs) (QP hs n)
   unfold mvT
   rw[tj]
   omega
theorem yK {rs:qW} (g:qu rs) {z:Str} (h:∃r∈rs,r.1=z):jN z=true:=by
 obtain⟨r,hr,rfl⟩:=h
 exact g.nm r hr
def WP (CG:Addr):Sp:=λvs H Q _=>∃(g h:Addr) (rs:qW) (hs:List Str),vs=[.ref g,.ref h]/\Qi CG H g rs/\qu rs/\rs.length<=14/\jG H h rs hs/\
 ∀H' l ps,qm H H'->H l=none->H' l=some (.lst (ps.map V.ref))->jF H' ps (mvs rs hs hs.length)->Q (.ref l) H'
def mD (m:Nat×Str):PyData:=.tuple [.int (m.1:Int),.str m.2]
theorem jF.tail {H:Hp} {p:Addr} {ps:List Addr} {m:Nat×Str} {ms:List (Nat×Str)} (h:jF H (p::ps) (m::ms)):jF H ps ms:=⟨zcU.inj h.1,λi a b e1 e2=>h.2 (i+1) a b (by simpa using e1) (by simpa using e2)⟩
theorem R8 {K:PySem.W.Frag} {H:Hp} {p:Addr} {m:Nat×Str} (h:H p=some (.tup (X6 m))):DV K H (.ref p) (mD m):=.tup (.of h) (.cons (.int _) (.cons (.str _) .nil))
theorem ve {K:PySem.W.Frag} {H:Hp}:∀{ps:List Addr} {ms:List (Nat×Str)},jF H ps ms->DVs K H (ps.map V.ref) (ms.map mD)
 | [],[],_=>.nil
 | [],_::_,h=>by cases h.1
 | _::_,[],h=>by cases h.1
 | p::ps,m::ms,h=>.cons (R8 (h.2 0 p m rfl rfl)) (ve h.tail)
theorem U7:∀{ms:List (Nat×Str)},(∀m∈ms,jN m.2=true)->PyData.canLayAll0 (ms.map mD)=true
 | [],_=>rfl
 | m::ms,h=>by
   rw[tW,PyData.canLayAll0,U7 λy hy=>h y (tU _ hy),Bool.and_true]
   show (true&&(PyData.strOk m.2&&true))=true
   rw[vZ (h m zaa)]
   rfl
theorem QG {rs:qW} {hs:List Str} {n:Nat} {m:Nat×Str} (h:m∈mvs rs hs n):m.1 < n/\m.2∈Qx rs (QP hs m.1):=by
 unfold mvs at h
 obtain⟨j,hj,h2⟩:=zcH.mp h
 obtain⟨e,he,rfl⟩:=tJ.mp h2
 exact⟨zaG.mp hj,he⟩
theorem V4 {rs:qW} {hs:List Str} (g:qu rs) (hi:∀z∈hs,∃r∈rs,r.1=z):∀m∈mvs rs hs hs.length,jN m.2=true:=λm hm=>by
 obtain⟨h1,h2⟩:=QG hm
 obtain⟨r,hr,e⟩:=hi _ (Zr h1)
 rw[<-e,QV g.nd hr]at h2
 exact yK g (VR h2)
def zT:Sp:=λvs H Q _=>∃(h p:Addr) (hs:List Str) (m:Nat×Str),vs=[.ref h,.ref p]/\H h=some (.lst (hs.map V.str))/\H p=some (.tup (X6 m))/\m.1 < hs.length/\∀l,H l=none->Q (.ref l) (upd H l (.lst ((hs.set m.1 m.2).map V.str)))
theorem atI_get {xs:List V} {r:Int} (h0:0<=r) (h1:r < (xs.length:Int)):∃v,Um xs r=some v/\xs[r.toNat]?=some v:=by
 have:r.toNat < xs.length:=by omega
 refine⟨xs[r.toNat],?_,tH this⟩
 unfold Um GZ
 rw[if_pos h0,if_pos h1]
 exact tH this
theorem jO.fr' {H H':Hp} {l d:Addr} {ps:List Addr} {rs:qW} {kv:List (qL×V)} (h:jO H l ps rs) (hd:H d=some (.dK kv)) (s:Fr H d H'):jO H' l ps rs:=by
 refine⟨s _ _ h.at_ (λe=>?_),⟨h.rows.1,λi p r e1 e2=>?_⟩,h.good,h.pos,h.le⟩
 . have:=h.at_
   rw[e,hd]at this
   cases this
 . obtain⟨q,a,b⟩:=h.rows.2 i p r e1 e2
   exact⟨q,s _ _ a (λe=>by rw[e,hd]at a;cases a),s _ _ b (λe=>by rw[e,hd]at b;cases b)⟩
section
variable {P:Program} {w:World} {K:PySem.W.Frag} {mg:Str->Option Value} {base:Heap}
abbrev nMo:List Str:=["ground","heap","moves","token","place"]
theorem Kq:qp nMo ["ground","heap"] (qh Zg):=⟨rfl,rfl,rfl,by decide+kernel,rfl,by decide+kernel,by decide+kernel⟩
theorem VY {f fH fP CG:Addr} {fd fdH fdP:FuncData} (F:jU K "moves_of" "moves_of" Zg f fd) (B:QF mg) (G:Qv mg) (T:QE K mg) (M:GM K mg CG) (hP:qY K mg "need_place" z5 NU fP fdP) (mt:∃t,mg "MOST_TOKENS"=some (.int 8 t))
   (hH:qY K mg "need_heap" ZT ["ground","heap"] fH fdH):ql P w K mg base qG 4 f fd ["ground","heap"] (WP CG):=by
 obtain⟨fC,fdC,C⟩:=M.cls
 obtain⟨fR,fdR,hR⟩:=M.fr
 obtain⟨fN,fdN,hN⟩:=M.isn
 have GH:ql P w K mg base qG 3 fH fdH ["ground","heap"] (Z8 CG):=VX hH.fn B G T M hP mt
 have GR:ql P w K mg base qG 2 fR fdR ["self","name"] (Zv CG):=Zi hR.fn C B G T hN
 refine F.okJ Kq (λvs H Q E h=>?_) (λcdv A outer s H vs Q E hr h=>?_)
 . obtain⟨g,h',rs,hs,rfl,_⟩:=h
   rfl
 . obtain⟨g,h',rs,hs,rfl,gr,gd,le,hh,q⟩:=h
   have r2:qS 2 (A.deeper (envOfC "moves_of" (qh Zg) s.heap.objs.size f cdv)):=hr.mono (by decide)
   refine⟨_,qe (jC (qH hH GH hr (by rfl) (qb (jv 0) (qb (jv 1) qf))))
     (qe (qy (i:=2) Kq.nd rfl (Or.inl rfl) (jA qf))
     (qe (jd PassesOwn.never rfl (YS (by rfl) T.enu (qb (jv 1) qf)) (ZZ rfl (jD (qv (i:=3) Kq.nd rfl (Or.inr rfl)) (jD (qv (i:=4) Kq.nd rfl (Or.inl rfl)) J3)))
       (qg (jC (ZN zav zci zcj Yc (jv 2) (qb
         (j6 (N':=["end","token"]) (ix:=[none,some 3]) (te:=kM (jo (q5 1) (jo (q5 0) Jj))) rfl ⟨rfl,rfl,rfl,rfl,rfl⟩ (qI (Wu hR C.cl GR r2 (jv 0) (qb (jv 4) qf))) (λC s2 H2 fp pins=>
           ⟨qv (i:=0) (show (["end","token"]:List Str).Nodup by decide+kernel) rfl (Or.inl rfl),j2,j5 (qb (jv 1) (qb (jv 0) qf))⟩)) qf)))))
     (qg (qw (jv 2))))),?_⟩
   refine⟨_,rfl,_,rfl,g,h',rs,hs,rfl,gr,hh,λH1 s1=>?_⟩
   refine⟨by show 0<=sizeLine;decide,λl hl=>?_⟩
   have hl0:H l=none:=by
     cases z:H l with
     | none=>rfl
     | some u=>rw[s1 _ _ z]at hl;cases hl
   have s2:qm H (upd H1 l (.lst [])):=s1.trans (qk hl)
   have hl2:upd H1 l (.lst []) l=some (.lst []):=qd
   generalize upd H1 l (.lst [])=H2 at s2 hl2
   refine⟨_,rfl,h',rfl,⟨_,.of (s2 _ _ hh.at_)⟩,?_⟩
   refine zF (K:=K) (a:=h') (xs:=hs.map V.str) (λi σ' G=>∃v3 v4 ps,σ'=[some (.ref g),some (.ref h'),some (.ref l),v3,v4]/\qm H G/\G l=some (.lst (ps.map V.ref))/\jF G ps (mvs rs hs i))
     ⟨_,_,[],rfl,s2,hl2,jF.nil _⟩ (λi σ' G _ ⟨_,_,_,_,s,_⟩=>.of (s _ _ hh.at_)) ?_ ?_
   . rintro i y σ' G p hy hp ⟨v3,v4,ps,rfl,sG,hlG,mv⟩
     obtain⟨z,ez,hz,rfl⟩:=Qa hy
     have hi:=(tE.mp ez).1
     have ezz:QP hs i=z:=by
       have:=Zs hi
       rw[ez]at this
       exact(tO.inj this).symm
     refine⟨p,_,rfl,.of qd,rfl,_,_,rfl,_,_,rfl,rfl,?_⟩
     have sP:qm G (upd G p (.tup [.int (i:Nat),.str z])):=qk hp
     have sGP:=sG.trans sP
     have hlP:=sP _ _ hlG
     have mvP:=mv.mono sP
     generalize upd G p (.tup [.int (i:Nat),.str z])=G1 at sP sGP hlP mvP
     obtain⟨r,hr',er⟩:=hh.in_ z hz
     obtain⟨dx,fs,hg,l1,l2⟩:=(gr.mono sGP).ins
     refine⟨_,rfl,.inl ⟨rfl,_,.of hlP⟩,_,rfl,g,dx,fs,rfl,hg,l2,_,rfl,g,rs,r,by rw[er];rfl,gr.mono sGP,hr',gd.nm r hr',λG2 e s2' he=>?_⟩
     have sE:qm G1 (upd G2 e (.lst ((jH rs r).map V.str))):=s2'.trans (qk he)
     have hE:upd G2 e (.lst ((jH rs r).map V.str)) e=some (.lst ((jH rs r).map V.str)):=qd
     generalize upd G2 e (.lst ((jH rs r).map V.str))=G3 at sE hE
     refine⟨e,rfl,⟨_,.of hE⟩,λD hD=>?_⟩
     refine jW (K:=K) (a:=e) (xs:=(jH rs r).map V.str) (λj σ'' G4=>∃v0 qs,σ''=[v0,some (.int (i:Nat))]/\qm G3 G4/\G4 D=some (.lst (qs.map V.ref))/\jF G4 qs (((jH rs r).take j).map λy=>(i,y)))
       ⟨none,[],rfl,qk hD,qd,jF.nil _⟩ (λj σ'' G4 _ ⟨_,_,_,s,_⟩=>.of (s _ _ hE)) ?_ ?_
     . rintro j y σ'' G4 hy ⟨v0,qs,rfl,s4,hD4,mq⟩
       obtain⟨x,ex,hx,rfl⟩:=Qa hy
       have hj:=(tE.mp ex).1
       refine⟨_,rfl,_,rfl,by show 2<=sizeLine;decide,λt ht=>⟨_,qr hD4 ht,?_,_,qs++[t],rfl,?_,?_,?_⟩⟩
       . rw[tj,mq.1,tj,tS]
         have:=z6 (rs:=rs) r
         exact qo (by omega)
       . exact qm.upd (s4.trans (qk ht)) hD
       . rw[qd,tN]
         rfl
       . have nt:t≠D:=λz=>by rw[z,hD4]at ht;cases ht
         have e1:jF (upd (upd G4 t (.tup [.int (i:Nat),.str x])) D (.lst (qs.map V.ref++[.ref t]))) qs (((jH rs r).take j).map λy=>(i,y)):=⟨mq.1,λk p' m a b=>by
           have z:=mq.2 k p' m a b
           have n1:p'≠D:=λe=>by rw[e,hD4]at z;cases z
           rw[qj n1]
           exact qr z ht⟩
         rw[tR,ex,tN]
         exact e1.app (jF.one (by rw[qj nt];exact qd))
     . rintro σ'' G4 ⟨v0,qs,rfl,s4,hD4,mq⟩
       rw[tj,tK (tF _)]at mq
       have sHG:qm H G4:=(sGP.trans sE).trans s4
       have hl4:=s4 _ _ (sE _ _ hlP)
       have mv4:=(mvP.mono sE).mono s4
       have ml:=JZ gd le hh.in_ i (zak hi)
       have l8:=hh.le
       have rl:=z6 (rs:=rs) r
       refine⟨l,D,_,_,rfl,rfl,hl4,hD4,?_,?_⟩
       . rw[tj,tj,mv4.1,mq.1,tj]
         exact zak (qo (by omega))
       . refine⟨_,_,ps++qs,rfl,qm.upd sHG hl0,by rw[qd,tN],?_⟩
         rw[XC,ezz,mvT,<-er,QV gd.nd hr']
         have ne:∀{p':Addr} {m:Nat×Str},G4 p'=some (.tup (X6 m))->p'≠l:=λh e=>by rw[e,hl4]at h;cases h
         have up:∀{ps:List Addr} {ms:List (Nat×Str)},jF G4 ps ms->jF (upd G4 l (.lst (zdU V.ref ps++zdU V.ref qs))) ps ms:=λh=>⟨h.1,λk p' m a b=>by
           have z:=h.2 k p' m a b
           rw[qj (ne z)]
           exact z⟩
         refine jF.app ?_ ?_
         . exact⟨mv4.1,λk p' m a b=>by
             have z:=mv4.2 k p' m a b
             rw[qj (ne z)]
             exact z⟩
         . exact⟨mq.1,λk p' m a b=>by
             have z:=mq.2 k p' m a b
             rw[qj (ne z)]
             exact z⟩
   . rintro σ' G ⟨v3,v4,ps,rfl,sG,hlG,mv⟩
     rw[tj]at mv
     exact⟨_,rfl,q G l ps sG hl0 hlG mv⟩
abbrev nLy:List Str:=["heap","move","left"]
theorem qaa:qp nLy ["heap","move"] (qh Yt):=⟨rfl,rfl,rfl,by decide+kernel,rfl,by decide+kernel,by decide+kernel⟩
theorem YO {f:Addr} {fd:FuncData} (F:jU K "left_by" "left_by" Yt f fd) (G:Qv mg):ql P w K mg base qG 1 f fd ["heap","move"] zT:=by
 refine F.okJ qaa (λvs H Q E h=>?_) (λcdv A outer s H vs Q E hr h=>?_)
 . obtain⟨h',p,hs,m,rfl,_⟩:=h
   rfl
 . obtain⟨h',p,hs,m,rfl,hh,hp,hm,q⟩:=h
   refine⟨_,qe (qy (i:=2) qaa.nd rfl (Or.inl rfl) (ju Qu (by rfl) G.lst boot_list (qb (jv 0) qf)))
     (qe (UZ (qM qU (jv 1) qi (λ_ _=>rfl)) (U0 (jv 2) (qM qU (jv 1) qi (λ_ _=>rfl)) Xg))
     (qg (qw (jv 2)))),?_⟩
   refine⟨_,rfl,h',_,rfl,.inl (.of hh),λl hl=>?_⟩
   refine⟨_,rfl,p,_,1,_,rfl,rfl,.of (qr hp hl),rfl,_,rfl,_,rfl,p,_,0,_,rfl,rfl,.of (qr hp hl),rfl,l,_,(m.1:Int),m.1,rfl,rfl,qd,?_,_,rfl,?_⟩
   . unfold GZ
     rw[if_pos (by omega),if_pos (by rw[tj];omega)]
     rfl
   . have e:(hs.map V.str).set m.1 (.str m.2)=(hs.set m.1 m.2).map V.str:=by rw[List.map_set]
     rw[jI,e]
     exact q l hl
end
def lf (hs:List Str) (m:Nat×Str):List Str:=hs.set m.1 m.2
def YE (H:Hp) (ts:List Addr) (os:List ((Nat×Str)×Str)):Prop:=ts.length=os.length/\∀(i:Nat) (t:Addr) (o:(Nat×Str)×Str),ts[i]?=some t->os[i]?=some o->∃p,H t=some (.tup [.ref p,.str o.2])/\H p=some (.tup (X6 o.1))
theorem YE.tk {H H':Hp} {ts:List Addr} {os:List ((Nat×Str)×Str)} (h:YE H ts os) (k:TK H H'):YE H' ts os:=⟨h.1,λi t o e1 e2=>let ⟨p,a,b⟩:=h.2 i t o e1 e2;⟨p,k _ _ a,k _ _ b⟩⟩
theorem YE.nil {H:Hp}:YE H [] []:=⟨rfl,λi t o e=>(nomatch e)⟩
theorem YE.snoc {H:Hp} {ts:List Addr} {os:List ((Nat×Str)×Str)} {t p:Addr} {o:(Nat×Str)×Str} (h:YE H ts os) (ht:H t=some (.tup [.ref p,.str o.2])) (hp:H p=some (.tup (X6 o.1))):YE H (ts++[t]) (os++[o]):=by
 refine⟨by rw[tL,tL,h.1];rfl,λi t' o' e1 e2=>?_⟩
 rcases QS e1 with ⟨i1,e1⟩ | ⟨i1,rfl⟩
 . rcases QS e2 with ⟨_,e2⟩ | ⟨i2,_⟩
   . exact h.2 i t' o' e1 e2
   . have:=h.1;omega
 . rcases QS e2 with ⟨i2,_⟩ | ⟨_,rfl⟩
   . have:=h.1;omega
   . exact⟨p,ht,hp⟩
theorem JK {rs:qW} (g:qu rs) {hs:List Str} (hi:∀z∈hs,∃r∈rs,r.1=z) {m:Nat×Str} (hm:m∈mvs rs hs hs.length):∀z∈lf hs m,∃r∈rs,r.1=z:=λz hz=>by
 obtain⟨h1,h2⟩:=QG hm
 obtain⟨r,hr,e⟩:=hi _ (Zr h1)
 unfold lf at hz
 rcases List.mem_or_eq_of_mem_set hz with h | h
 . exact hi z h
 . rw[h]
   exact tJ.mp (j7 g.nd _ (tJ.mpr ⟨r,hr,e⟩) _ h2)
def W3 (rs:qW) (R:Rs Str) (hs:List Str):List ((Nat×Str)×Str):=(mvs rs hs hs.length).map λm=>(m,zq (Qy ((lf hs m).map (wT rs R))))
def VG:Sp:=λvs H Q _=>∃(D h:Addr) (rs:qW) (R:Rs Str) (hs:List Str),vs=[.ref D,.ref h]/\je H D rs R/\jG H h rs hs/\(∀z∈hs,Yv (wT rs R z))/\∀H',qm H H'->Q (.str (zq (Qy (hs.map (wT rs R))))) H'
def xv (CG:Addr):Sp:=λvs H Q _=>∃(g D h:Addr) (rs:qW) (R:Rs Str) (hs:List Str),vs=[.ref g,.ref D,.ref h]/\Qi CG H g rs/\qu rs/\rs.length<=14/\je H D rs R/\XY (Qx rs) (·∈rs.map (·.1)) (qE R) (QY R)/\jG H h rs hs/\
 ∀H' L ts,qm H H'->H L=none->H' L=some (.lst (ts.map V.ref))->YE H' ts (W3 rs R hs)->Q (.ref L) H'
section
variable {P:Program} {w:World} {K:PySem.W.Frag} {mg:Str->Option Value} {base:Heap}
structure uS (K:PySem.W.Frag) (mg:Str->Option Value):Prop where
 mo:∃f fd,qY K mg "moves_of" Zg ["ground","heap"] f fd
 lb:∃f fd,qY K mg "left_by" Yt ["heap","move"] f fd
 oby:∃f fd,qY K mg "outcome_by" xR ["labels","heap"] f fd
 osby:∃f fd,qY K mg "outcomes_by" vM ["ground","labels","heap"] f fd
theorem M7:qp ["labels","heap"] ["labels","heap"] (qh xR):=⟨rfl,rfl,rfl,by decide+kernel,rfl,by decide+kernel,by decide+kernel⟩
theorem wF {f:Addr} {fd:FuncData} (F:jU K "outcome_by" "outcome_by" xR f fd) (h:WF K mg) (B:QF mg) (Z:Wk K mg) (O:yZ K mg):ql P w K mg base qG 9 f fd ["labels","heap"] VG:=by
 obtain⟨fL,fdL,hL⟩:=O.lw
 obtain⟨fS,fdS,hS⟩:=O.sum
 obtain⟨fW,fdW,hW⟩:=O.wby
 have GW:ql P w K mg base qG 8 fW fdW ["labels","heap"] (RI h.CN h.CE):=NH hW.fn h B Z hL hS
 refine F.okJ M7 (λvs H Q E z=>?_) (λcdv A outer s H vs Q E hr z=>?_)
 . obtain⟨D,h',rs,R,hs,rfl,_⟩:=z
   rfl
 . obtain⟨D,h',rs,R,hs,rfl,lb,hh,ok,q⟩:=z
   refine⟨_,qg (qw (Gz h B (hr.mono (by decide)) (qH hW GW hr (by rfl) (qb (jv 0) (qb (jv 1) qf))))),?_⟩
   refine⟨_,rfl,_,rfl,D,h',rs,R,hs,rfl,lb,hh,ok,λa H1 s1 i1=>⟨a,_,rfl,i1,?_,λH2 s2=>q H2 (s1.trans s2)⟩⟩
   refine xg λu hu=>?_
   obtain⟨z,hz,rfl⟩:=tJ.mp hu
   exact ok z hz
theorem Np:qp ["ground","labels","heap"] ["ground","labels","heap"] (qh vM):=⟨rfl,rfl,rfl,by decide+kernel,rfl,by decide+kernel,by decide+kernel⟩
theorem K1 {f CG:Addr} {fd:FuncData} (F:jU K "outcomes_by" "outcomes_by" vM f fd) (h:WF K mg) (B:QF mg) (Z:Wk K mg) (G:Qv mg) (T:QE K mg) (M:GM K mg CG) (O:yZ K mg) (V1:uS K mg):ql P w K mg base qG 10 f fd ["ground","labels","heap"] (xv CG):=by
 obtain⟨fP,fdP,hP⟩:=O.place
 obtain⟨fH,fdH,hH⟩:=O.heap
 obtain⟨fM,fdM,hM⟩:=V1.mo
 obtain⟨fL,fdL,hL⟩:=V1.lb
 obtain⟨fB,fdB,hB⟩:=V1.oby
 have GM:ql P w K mg base qG 4 fM fdM ["ground","heap"] (WP CG):=VY hM.fn B G T M hP O.most hH
 have GL:ql P w K mg base qG 1 fL fdL ["heap","move"] zT:=YO hL.fn G
 have GB:ql P w K mg base qG 9 fB fdB ["labels","heap"] VG:=wF hB.fn h B Z O
 refine F.okJ Np (λvs H Q E z=>?_) (λcdv A outer s H vs Q E hr z=>?_)
 . obtain⟨g,D,h',rs,R,hs,rfl,_⟩:=z
   rfl
 . obtain⟨g,D,h',rs,R,hs,rfl,gr,good,le,lb,L,hh,q⟩:=z
   have r1:qS 1 _:=hr.mono (by decide)
   have r4:qS 4 _:=hr.mono (by decide)
   refine⟨_,qg (qw (j6 (N':=["move","labels","heap"]) (ix:=[none,some 1,some 2])
       (te:=kM (jo (q5 0) (jo (Ze VG [] E0 (jo (q5 1) (jo (Ze zT [] E0 (jo (q5 2) (jo (q5 0) Jj))) Jj))) Jj)))
       rfl ⟨rfl,rfl,rfl,rfl,rfl⟩ (qI (qH hM GM r4 (by rfl) (qb (jv 0) (qb (jv 2) qf)))) (λC s2 H2 fp pins=>
       ⟨qv (i:=0) (show (["move","labels","heap"]:List Str).Nodup by decide+kernel) rfl (Or.inl rfl),j2,
         j5 (qb (jv 0) (qb (qH hB GB hr (by rfl) (qb (jv 1) (qb (qH hL GL r1 (by rfl) (qb (jv 2) (qb (jv 0) qf))) qf))) qf))⟩))),?_⟩
   refine⟨_,rfl,_,rfl,g,h',rs,hs,rfl,gr,good,le,hh,λH1 lm ps s1 hlm hlm1 mv=>⟨lm,rfl,⟨_,.of hlm1⟩,λW hW=>?_⟩⟩
   have l8:=hh.le
   have lmv:(mvs rs hs hs.length).length<=112:=by
     have:=JZ good le hh.in_ hs.length (tF _)
     omega
   have lps:=mv.1
   refine jW (K:=K) (a:=lm) (xs:=ps.map V.ref) (λj σ'' G1=>∃(v0:Option V) (ts:List Addr),σ''=[v0,some (.ref D),some (.ref h')]/\qm H1 G1/\G1 W=some (.lst (ts.map V.ref))/\YE G1 ts ((W3 rs R hs).take j))
     ⟨none,[],rfl,qk hW,qd,.nil⟩ (λj σ'' G1 _ ⟨_,_,_,s,_⟩=>.of (s _ _ hlm1)) ?_ ?_
   . rintro j y σ'' G1 hy ⟨v0,ts,rfl,sG,hWG,os⟩
     rw[tI]at hy
     cases ep:ps[j]? with
     | none=>rw[ep]at hy;cases hy
     | some p=>
       rw[ep]at hy
       obtain rfl:=(tO.inj hy).symm
       have hj:=(tE.mp ep).1
       have hj':j < (mvs rs hs hs.length).length:=by omega
       have em:(mvs rs hs hs.length)[j]?=some (mvs rs hs hs.length)[j]:=tH hj'
       have hmm:=zbI hj'
       generalize (mvs rs hs hs.length)[j]=m at em hmm
       have hp:=sG _ _ (mv.2 j p m ep em)
       have sA:=s1.trans sG
       refine⟨_,rfl,_,rfl,_,rfl,_,rfl,h',p,hs,m,rfl,sA _ _ hh.at_,hp,(QG hmm).1,λll hll=>?_⟩
       have sB:qm G1 (upd G1 ll (.lst ((hs.set m.1 m.2).map V.str))):=qk hll
       have hB1:upd G1 ll (.lst ((hs.set m.1 m.2).map V.str)) ll=some (.lst ((lf hs m).map V.str)):=qd
       generalize upd G1 ll (.lst ((hs.set m.1 m.2).map V.str))=G2 at sB hB1
       have lin:=JK good hh.in_ hmm
       refine⟨D,ll,rs,R,lf hs m,rfl,(lb.mono sA).mono sB,⟨hB1,by unfold lf;rw[zbB];exact l8,lin⟩,λz hz=>?_,λG3 s3=>?_⟩
       . obtain⟨r,hr',e⟩:=lin z hz
         exact RF good L (tJ.mpr ⟨r,hr',e⟩)
       . refine⟨by show 2<=sizeLine;decide,λt ht=>?_⟩
         have s13:qm G1 G3:=sB.trans s3
         have eo:(W3 rs R hs)[j]?=some (m,zq (Qy ((lf hs m).map (wT rs R)))):=by unfold W3;rw[tI,em];rfl
         have lts:=os.1
         rw[tS]at lts
         have hWt:upd G3 t (.tup [V.ref p,.str (zq (Qy ((lf hs m).map (wT rs R))))]) W=some (.lst (ts.map V.ref)):=qr (s13 _ _ hWG) ht
         refine⟨_,hWt,by rw[tj];exact qo (by omega),_,ts++[t],rfl,qm.upd (sG.trans (s13.trans (qk ht))) hW,by rw[tN];exact qd,?_⟩
         rw[tR,eo]
         refine((os.tk (.of (s13.trans (qk ht)))).snoc (t:=t) (p:=p) (o:=(m,zq (Qy ((lf hs m).map (wT rs R))))) qd (qr (s13 _ _ hp) ht)).tk ?_
         exact TK.upd hWt λxs=>by simp
   . rintro σ'' G1 ⟨v0,ts,rfl,sG,hWG,os⟩
     have el:(ps.map V.ref).length=(W3 rs R hs).length:=by unfold W3;rw[tj,tj,lps]
     rw[el,tK (tF _)]at os
     exact q G1 W ts (s1.trans sG) (jt s1 hW) hWG os
end
open PySem L2 PyProof.Rows MLab
abbrev JD:Stmt:=top 80
abbrev Zz:Stmt:=top 81
abbrev ZU:Stmt:=top 82
abbrev zi:Stmt:=top 83
abbrev Zy:Stmt:=top 85
structure R6 (H:Hp) (d:Addr) (rs:qW):Prop where
 at_:∃(o:Obj) (kvs:List (qL×V)),H d=some (.frz o (.dK kvs))/\kvs.map (·.1)=(rs.map (·.1)).map Sum.inr/\∀r∈rs,∃q,ji kvs (Sum.inr r.1:qL)=some (.ref q)/\H q=some (.tup (r.2.map V.str))
theorem R6.mono {H H':Hp} {d:Addr} {rs:qW} (h:R6 H d rs) (s:qm H H'):R6 H' d rs:=⟨let ⟨o,kvs,a,b,c⟩:=h.at_;⟨o,kvs,s _ _ a,b,λr hr=>let ⟨q,u,v⟩:=c r hr;⟨q,u,s _ _ v⟩⟩⟩
theorem R6.get {H:Hp} {d:Addr} {rs:qW} (h:R6 H d rs) (g:qu rs) {z:Str} (hz:z∈rs.map (·.1)):∃q,j1 H d (.str z) (some (.ref q))/\H q=some (.tup ((jY rs z).map V.str)):=by
 obtain⟨o,kvs,a,b,c⟩:=h.at_
 obtain⟨r,hr,rfl⟩:=tJ.mp hz
 obtain⟨q,u,v⟩:=c r hr
 refine⟨q,?_,by rw[zy g.nd hr];exact v⟩
 rw[<-u]
 exact .inl ⟨kvs,Sum.inr r.1,.inr ⟨o,a⟩,rfl,rfl⟩
theorem YR {rs:qW} (g:qu rs) {z y:Str} (hz:z∈rs.map (·.1)) (hy:y∈jY rs z):y∈rs.map (·.1):=j7 g.nd _ hz _ ((qK g hz).mp hy)
theorem w6 {rs:qW} (g:qu rs) {z:Str} (hz:z∈rs.map (·.1)):(jY rs z).length<=40:=by
 obtain⟨r,hr,rfl⟩:=tJ.mp hz
 rw[zy g.nd hr]
 exact g.two hr
def kn (rs:qW) (f:Str->Option Nat) (z:Str):List Nat:=(jY rs z).filterMap f
theorem UY {rs:qW} {f:Str->Option Nat} {z:Str} {n:Nat}:n∈kn rs f z↔∃y∈jY rs z,f y=some n:=zaE
theorem zD {rs:qW} {f:Str->Option Nat} {z:Str} {n:Nat}:YG (jY rs) f z n↔(∀j,j < n->j∈kn rs f z)/\n∉kn rs f z/\∀y∈jY rs z,f y=none->n∈kn rs f y:=by
 unfold YG
 simp only[UY]
 constructor
 . rintro⟨a,b,c⟩
   exact⟨a,λ⟨y,hy,e⟩=>b y hy e,c⟩
 . rintro⟨a,b,c⟩
   exact⟨a,λy hy e=>b ⟨y,hy,e⟩,c⟩
structure QW (N:List Str) (H:Hp) (d:Addr) (f:Str->Option (Nat×Nat)):Prop where
 at_:∃kvs:List (qL×V),H d=some (.dK kvs)/\(∀z,f z=none->ji kvs (Sum.inr z:qL)=none)/\(∀z n s,f z=some (n,s)->∃t,ji kvs (Sum.inr z:qL)=some (.ref t)/\H t=some (.tup [.int (n:Nat),.int (s:Nat)]))/\(kvs.map (·.1)).Nodup/\∀k∈kvs.map (·.1),k∈N.map Sum.inr
theorem QW.mono {N:List Str} {H H':Hp} {d:Addr} {f:Str->Option (Nat×Nat)} (h:QW N H d f) (s:qm H H'):QW N H' d f:=⟨let ⟨kvs,a,b,c,e⟩:=h.at_;⟨kvs,s _ _ a,b,λz n m q=>let ⟨t,u,v⟩:=c z n m q;⟨t,u,s _ _ v⟩,e⟩⟩
theorem QW.isd {N:List Str} {H:Hp} {d:Addr} {f:Str->Option (Nat×Nat)} (h:QW N H d f):∃kvs:List (qL×V),H d=some (.dK kvs):=let ⟨kvs,a,_⟩:=h.at_;⟨kvs,a⟩
theorem QW.get {N:List Str} {H:Hp} {d:Addr} {f:Str->Option (Nat×Nat)} (h:QW N H d f) (z:Str):∃o:Option V,j1 H d (.str z) o/\o.isSome=(f z).isSome/\∀n s,f z=some (n,s)->∃t,o=some (.ref t)/\H t=some (.tup [.int (n:Nat),.int (s:Nat)]):=by
 obtain⟨kvs,a,b,c,_⟩:=h.at_
 refine⟨_,j1.k (k:=(Sum.inr z:qL)) a,?_,λn s e=>c z n s e⟩
 cases e:f z with
 | none=>rw[b z e];rfl
 | some p=>
   obtain⟨t,u,_⟩:=c z p.1 p.2 e
   rw[u];rfl
def f1 (f:Str->Option (Nat×Nat)) (z:Str):Option Nat:=(f z).map (·.1)
def vE:Sp:=λvs H Q _=>∃(d e:Addr) (rs:qW) (f:Str->Option (Nat×Nat)) (z:Str) (n:Nat),vs=[.ref d,.ref e,.str z,.int (n:Nat)]/\R6 H d rs/\qu rs/\z∈rs.map (·.1)/\QW (rs.map (·.1)) H e f/\Q (.bl (decide (n∈kn rs (f1 f) z))) H
def VI:Sp:=λvs H Q _=>∃(d e:Addr) (rs:qW) (f:Str->Option (Nat×Nat)) (z:Str) (n:Nat),vs=[.ref d,.ref e,.str z,.int (n:Nat)]/\R6 H d rs/\qu rs/\z∈rs.map (·.1)/\QW (rs.map (·.1)) H e f/\n<=15/\
 ∀H' b,qm H H'->(b=true↔YG (jY rs) (f1 f) z n)->Q (.bl b) H'
theorem kn1 {rs:qW} {f:Str->Option (Nat×Nat)} {z:Str} {n:Nat}:n∈kn rs (f1 f) z↔∃y∈jY rs z,∃s,f y=some (n,s):=by
 rw[UY]
 constructor
 . rintro⟨y,hy,e⟩
   obtain⟨p,e1,e2⟩:=zcx.mp e
   exact⟨y,hy,p.2,by rw[e1,<-e2]⟩
 . rintro⟨y,hy,s,e⟩
   exact⟨y,hy,by unfold f1;rw[e];rfl⟩
section
variable {P:Program} {w:World} {K:PySem.W.Frag} {mg:Str->Option Value} {base:Heap}
abbrev nLB:List Str:=["_law_roads","_law_found","_law_name","_law_number","_law_one"]
abbrev k9:List Str:=["_law_roads","_law_found","_law_name","_law_number"]
theorem qac:qp nLB k9 (qh ZU):=⟨rfl,rfl,rfl,by decide+kernel,rfl,by decide+kernel,by decide+kernel⟩
theorem wJ {f:Addr} {fd:FuncData} (F:jU K "_law_back" "_law_back" ZU f fd):ql P w K mg base qG 1 f fd k9 vE:=by
 refine F.okJ qac (λvs H Q E h=>?_) (λcdv A outer s H vs Q E hr h=>?_)
 . obtain⟨d,e,rs,ff,z,n,rfl,_⟩:=h
   rfl
 . obtain⟨d,e,rs,ff,z,n,rfl,ld,good,hz,fd,q⟩:=h
   have hu:=jR hr
   refine⟨_,qe (jd PassesOwn.never rfl (Yi (qV hu (jv 0) (jv 2) (λ_ _=>rfl))) (qv (i:=4) qac.nd rfl (Or.inl rfl))
       (qg (qO (JW.pt (Qd (Qr (J7 hu (jv 4) (jv 1))) (jS (qt jp (qM qU (qV hu (jv 1) (jv 4) (λ_ _=>rfl)) qi (λ_ _=>rfl)) (jv 3) (qB _))))) (qg (qw Qg)) qC)))
     (qg (qw Qg)),?_⟩
   obtain⟨q0,g0,hq0⟩:=ld.get good hz
   refine⟨_,rfl,_,rfl,d,_,rfl,g0,q0,rfl,⟨_,.of hq0⟩,?_⟩
   refine YY (K:=K) (a:=q0) (xs:=(jY rs z).map V.str) (λi σ' G=>∃v4,σ'=[some (.ref d),some (.ref e),some (.str z),some (.int (n:Nat)),v4]/\G=H/\∀y∈(jY rs z).take i,∀s,ff y≠some (n,s))
     ⟨_,rfl,rfl,λy h=>(nomatch h)⟩ (λi σ' G _ ⟨_,_,e,_⟩=>e▸.of hq0) ?_ ?_
   . rintro i x σ' G hx ⟨v4,rfl,rfl,hall⟩
     obtain⟨y,ey,hy,rfl⟩:=Qa hx
     obtain⟨o,go,eo,ho⟩:=fd.get y
     have step:(∀s,ff y≠some (n,s))->∃v4,[some (V.ref d),some (.ref e),some (.str z),some (.int (n:Nat)),some (.str y)]=[some (.ref d),some (.ref e),some (.str z),some (.int (n:Nat)),v4]/\G=G/\∀y∈(jY rs z).take (i+1),∀s,ff y≠some (n,s):=λno=>by
       refine⟨_,rfl,rfl,λu hu'=>?_⟩
       rw[tR,ey]at hu'
       rcases tV.mp hu' with h | h
       . exact hall u h
       . have:u=y:=by simpa using h
         rw[this];exact no
     refine⟨_,rfl,_,rfl,e,_,rfl,go,_,rfl,?_⟩
     rw[eo]
     cases cy:ff y with
     | none=>exact jB (jB (step λs h=>by rw[cy]at h;cases h))
     | some p=>
       obtain⟨t,et,ht⟩:=ho p.1 p.2 cy
       rw[et]at go
       refine Qe ⟨_,rfl,_,rfl,e,_,rfl,go,t,_,0,_,rfl,rfl,.of ht,rfl,_,rfl,rfl,_,rfl,?_⟩
       by_cases c:p.1=n
       . refine jk (decide_eq_true (by rw[c])) ?_
         rw[decide_eq_true (kn1.mpr ⟨y,hy,p.2,by rw[cy,<-c]⟩)]at q
         exact q
       . refine qZ (decide_eq_false λh=>c (by have:=V.int.inj h;omega)) (step λs h=>?_)
         rw[cy]at h
         cases h
         exact c rfl
   . rintro σ' G ⟨v4,rfl,rfl,hall⟩
     rw[tj,tK (tF _)]at hall
     rw[decide_eq_false (λh=>by obtain⟨y,hy,s,e⟩:=kn1.mp h;exact hall y hy s e)]at q
     exact q
abbrev nLC:List Str:=["_law_roads","_law_found","_law_name","_law_number","_law_beside","_law_one"]
theorem Nv:qp nLC k9 (qh Zz):=⟨rfl,rfl,rfl,by decide+kernel,rfl,by decide+kernel,by decide+kernel⟩
theorem yp {f fB:Addr} {fd fdB:FuncData} (F:jU K "_law_comes" "_law_comes" Zz f fd) (B:QF mg) (hB:qY K mg "_law_back" ZU k9 fB fdB):ql P w K mg base qG 2 f fd k9 VI:=by
 have GB:ql P w K mg base qG 1 fB fdB k9 vE:=wJ hB.fn
 refine F.okJ Nv (λvs H Q E h=>?_) (λcdv A outer s H vs Q E hr h=>?_)
 . obtain⟨d,e,rs,ff,z,n,rfl,_⟩:=h
   rfl
 . obtain⟨d,e,rs,ff,z,n,rfl,ld,good,hz,fd,n15,q⟩:=h
   have hu:=jR hr
   refine⟨_,qe (qy (i:=4) Nv.nd rfl (Or.inr rfl) (j6 (N':=["_law_one","_law_found"]) (ix:=[none,some 1]) (tt:=tB (MU (q5 0) (q5 1))) (te:=zR (zo K) (Z6 (q5 1) (q5 0)) (tC (.int 0))) rfl ⟨rfl,rfl,rfl,rfl,rfl⟩ (Yi (qV hu (jv 0) (jv 2) (λ_ _=>rfl))) (λC s2 H2 fp pins=>
         ⟨qv (i:=0) (show (["_law_one","_law_found"]:List Str).Nodup by decide+kernel) rfl (Or.inl rfl),jJ (Qr (J7 hu (jv 0) (jv 1))),qM qU (qV hu (jv 1) (jv 0) (λ_ _=>rfl)) qi (λ_ _=>rfl)⟩)))
     (qe (qO (JW.pt (ZM (qt JH (jv 3) (jv 4) (by with_unfolding_all rfl)) (Jw (qt (YN (zbU hu)) (j6 (N':=["_law_k","_law_beside"]) (ix:=[none,some 4]) (tt:=Yo (zR (MC K true) (q5 0) (q5 1))) (te:=q5 0) rfl ⟨rfl,rfl,rfl,rfl,rfl⟩ (jM (by rfl) B.rng (qb (jv 3) qf)) (λC s2 H2 fp pins=>
         ⟨qv (i:=0) (show (["_law_k","_law_beside"]:List Str).Nodup by decide+kernel) rfl (Or.inl rfl),jJ (qt QU (jv 0) (jv 1) (by with_unfolding_all rfl)),jv 0⟩)) (jA qf) (qB _))))) (qg (qw Qg)) qC)
     (qe (jd PassesOwn.never rfl (Yi (qV hu (jv 0) (jv 2) (λ_ _=>rfl))) (qv (i:=5) Nv.nd rfl (Or.inl rfl))
       (qg (qO (JW.pt (Qd (Qr (JM hu (jv 5) (jv 1))) (jS (Jx (jZ (qH hB GB hr (by rfl) (qb (jv 0) (qb (jv 1) (qb (jv 5) (qb (jv 3) qf)))))))))) (qg (qw Qg)) qC)))
     (qg (qw Qg)))),?_⟩
   obtain⟨q0,g0,hq0⟩:=ld.get good hz
   refine⟨_,rfl,_,rfl,d,_,rfl,g0,q0,rfl,⟨_,.of hq0⟩,λW hW=>?_⟩
   refine Rv (K:=K) (a:=q0) (xs:=jY rs z) (enc:=V.str) (out:=λy=>(f1 ff y).map λn=>V.int (n:Nat)) (rest:=[some (.ref e)]) hW hq0 (qo (by have:=w6 good hz;omega)) ?_ ?_ ?_
   . intro x hx G' s5 R kk
     obtain⟨o,go,eo,_⟩:=(fd.mono s5).get x
     refine⟨_,rfl,_,rfl,e,_,rfl,go,_,rfl,?_⟩
     have:=kk G' λ_ _ h=>h
     rw[eo]
     unfold f1 at this
     rw[zbe,zbe]at this
     exact this
   . intro x hx v ev G' s5 R kk
     obtain⟨o,go,eo,ho⟩:=(fd.mono s5).get x
     cases cx:ff x with
     | none=>unfold f1 at ev;rw[cx]at ev;cases ev
     | some p=>
       obtain⟨t,et,ht⟩:=ho p.1 p.2 cx
       rw[et]at go
       have:v=V.int (p.1:Nat):=by unfold f1 at ev;rw[cx]at ev;exact(tO.inj ev).symm
       subst this
       exact⟨_,rfl,_,rfl,e,_,rfl,go,t,_,0,_,rfl,rfl,.of ht,rfl,kk G' λ_ _ h=>h⟩
   . intro G1 s1 hW1
     have eK:(jY rs z).filterMap (λy=>(f1 ff y).map λn=>V.int (n:Nat))=Jq (kn rs (f1 ff) z):=by
       unfold Jq kn
       rw[zdL]
     rw[eK]at hW1
     refine⟨_,rfl,_,rfl,W,_,rfl,.inl (.of hW1),rfl,Zp _,_,rfl,?_⟩
     by_cases c:n∈kn rs (f1 ff) z
     . exact jk (show Zo (.int (n:Nat)) (Jq (kn rs (f1 ff) z))=true by rw[Yk];exact decide_eq_true c) (Qe (q G1 false s1 ⟨λh=>(nomatch h),λh=>absurd c (zD.mp h).2.1⟩))
     refine qZ (show Zo (.int (n:Nat)) (Jq (kn rs (f1 ff) z))=false by rw[Yk];exact decide_eq_false c) ?_
     refine⟨_,rfl,(n:Int),rfl,by omega,by omega,λU hU=>?_⟩
     refine Rw (n:=n) (out:=λj=>if j∈kn rs (f1 ff) z then none else some (V.int (j:Nat))) (rest:=[some (.ref W)]) hU (qo (by omega)) ?_ ?_ ?_
     . intro x hx G' s5 R kk
       refine⟨_,rfl,_,rfl,W,_,rfl,.inl (.of (s5 _ _ hW1)),rfl,Zp _,_,rfl,?_⟩
       have:=kk G' λ_ _ h=>h
       show R (!Zo (.int (x:Nat)) (Jq (kn rs (f1 ff) z))) G'
       rw[Yk]
       by_cases c:x∈kn rs (f1 ff) z
       . rw[if_pos c]at this
         rw[decide_eq_true c]
         exact this
       . rw[if_neg c]at this
         rw[decide_eq_false c]
         exact this
     . intro x hx v ev G' s5 R kk
       have:v=V.int (x:Nat):=by
         split at ev
         . cases ev
         . exact(tO.inj ev).symm
       subst this
       exact⟨_,rfl,kk G' λ_ _ h=>h⟩
     . intro G2 s2 hU2
       have s12:=s1.trans s2
       generalize hls:(zac n).filterMap (λj=>if j∈kn rs (f1 ff) z then none else some (V.int (j:Nat)))=ls at hU2
       refine⟨by show 0<=sizeLine;decide,λl0 hl0=>?_⟩
       have s0:qm G2 (upd G2 l0 (.lst [])):=qk hl0
       refine⟨U,l0,_,rfl,rfl,.of (s0 _ _ hU2),.of qd,_,rfl,?_⟩
       have s3:qm H (upd G2 l0 (.lst [])):=s12.trans s0
       generalize upd G2 l0 (.lst [])=G3 at s0 s3
       have lsE:ls=[]↔∀j,j < n->j∈kn rs (f1 ff) z:=by
         rw[<-hls,List.filterMap_eq_nil_iff]
         constructor
         . intro h j hj
           have:=h j (zaG.mpr hj)
           by_cases c:j∈kn rs (f1 ff) z
           . exact c
           . rw[if_neg c]at this;cases this
         . intro h j hj
           rw[if_pos (h j (zaG.mp hj))]
       cases ls with
       | cons a ls=>
         refine Qe (q G3 false s3 ⟨λh=>(nomatch h),λh=>?_⟩)
         have:=lsE.mpr (zD.mp h).1
         cases this
       | nil=>
         refine jB ?_
         have lo:=lsE.mp rfl
         obtain⟨q1,g1,hq1⟩:=(ld.mono s3).get good hz
         refine⟨_,rfl,_,rfl,d,_,rfl,g1,q1,rfl,⟨_,.of hq1⟩,?_⟩
         refine YY (K:=K) (a:=q1) (xs:=(jY rs z).map V.str) (λi σ' G=>∃v5,σ'=[some (.ref d),some (.ref e),some (.str z),some (.int (n:Nat)),some (.ref W),v5]/\G=G3/\∀y∈(jY rs z).take i,f1 ff y=none->n∈kn rs (f1 ff) y)
           ⟨_,rfl,rfl,λy h=>(nomatch h)⟩ (λi σ' G _ ⟨_,_,e,_⟩=>e▸.of hq1) ?_ ?_
         . rintro i x σ' G hx ⟨v5,rfl,rfl,hall⟩
           obtain⟨y,ey,hy,rfl⟩:=Qa hx
           have hyN:=YR good hz hy
           obtain⟨o,go,eo,_⟩:=(fd.mono s3).get y
           have step:(f1 ff y=none->n∈kn rs (f1 ff) y)->∃v5,[some (V.ref d),some (.ref e),some (.str z),some (.int (n:Nat)),some (.ref W),some (.str y)]=[some (.ref d),some (.ref e),some (.str z),some (.int (n:Nat)),some (.ref W),v5]/\G=G/\∀y∈(jY rs z).take (i+1),f1 ff y=none->n∈kn rs (f1 ff) y:=λhy'=>by
             refine⟨_,rfl,rfl,λu hu'=>?_⟩
             rw[tR,ey]at hu'
             rcases tV.mp hu' with h | h
             . exact hall u h
             . have:u=y:=by simpa using h
               rw[this];exact hy'
           refine⟨_,rfl,_,rfl,e,_,rfl,go,_,rfl,?_⟩
           rw[eo]
           cases cy:ff y with
           | some p=>exact jB (jB (step λh=>by unfold f1 at h;rw[cy]at h;cases h))
           | none=>
             refine Qe ⟨_,rfl,_,rfl,_,rfl,_,rfl,d,e,rs,ff,y,n,rfl,ld.mono s3,good,hyN,fd.mono s3,_,rfl,?_⟩
             by_cases c2:n∈kn rs (f1 ff) y
             . rw[decide_eq_true c2]
               exact jB (step λ_=>c2)
             . rw[decide_eq_false c2]
               exact Qe (q G false s3 ⟨λh=>(nomatch h),λh=>absurd ((zD.mp h).2.2 y hy (by unfold f1;rw[cy];rfl)) c2⟩)
         . rintro σ' G ⟨v5,rfl,rfl,hall⟩
           rw[tj,tK (tF _)]at hall
           exact q G true s3 ⟨λ_=>zD.mpr ⟨lo,c,hall⟩,λ_=>rfl⟩
end
def fR (R:Rs Str) (z:Str):Option (Nat×Nat):=(qE R z).map λn=>(n,QY R z)
theorem Rj (R:Rs Str) (z:Str):f1 (fR R) z=qE R z:=by
 unfold f1 fR
 cases qE R z<;>rfl
theorem Re {rs:qW} (g:qu rs) {f:Str->Option Nat} {z:Str} {n:Nat} (hz:z∈rs.map (·.1)):YG (jY rs) f z n↔YG (Qx rs) f z n:=by
 unfold YG
 constructor
 . rintro⟨a,b,c⟩
   refine⟨λj hj=>let ⟨y,hy,e⟩:=a j hj;⟨y,(qK g hz).mp hy,e⟩,λy hy=>b y ((qK g hz).mpr hy),λy hy e=>?_⟩
   have hy':=(qK g hz).mpr hy
   obtain⟨u,hu,eu⟩:=c y hy' e
   exact⟨u,(qK g (YR g hz hy')).mp hu,eu⟩
 . rintro⟨a,b,c⟩
   refine⟨λj hj=>let ⟨y,hy,e⟩:=a j hj;⟨y,(qK g hz).mpr hy,e⟩,λy hy=>b y ((qK g hz).mp hy),λy hy e=>?_⟩
   obtain⟨u,hu,eu⟩:=c y ((qK g hz).mp hy) e
   exact⟨u,(qK g (YR g hz hy)).mpr hu,eu⟩
theorem QW.put {N:List Str} {H:Hp} {d t:Addr} {f:Str->Option (Nat×Nat)} (h:QW N H d f) {z:Str} {n s:Nat} (hz:z∈N) (hf:f z=none) (le:N.length<=14) (ht:H t=some (.tup [.int (n:Nat),.int (s:Nat)])):∃o,Ji H d (.str z) (.ref t) (upd H d o)/\QW N (upd H d o) d (λy=>if y=z then some (n,s) else f y):=by
 obtain⟨kvs,a,b,c,nd,sub⟩:=h.at_
 have ln:kvs.length<=14:=by
   have:=J1 nd sub
   rw[tj,tj]at this
   omega
 have new:=b z hf
 have tD:∀{b:Addr} {xs:List V},H b=some (.tup xs)->b≠d:=λhb e=>by rw[e,a]at hb;cases hb
 refine⟨_,Ji.k (k:=(Sum.inr z:qL)) a (qo (by omega)),⟨_,qd,λy hy=>?_,λy m u hy=>?_,Gp _ nd new,λk hk=>?_⟩⟩
 . by_cases e:y=z
   . rw[if_pos e]at hy;cases hy
   . rw[if_neg e]at hy
     rw[j3,if_neg (λq=>e (Sum.inr.inj q))]
     exact b y hy
 . by_cases e:y=z
   . rw[if_pos e]at hy
     cases hy
     subst e
     exact⟨t,by rw[j3,if_pos rfl],by rw[qj (tD ht)];exact ht⟩
   . rw[if_neg e]at hy
     obtain⟨t',u',v'⟩:=c y m u hy
     exact⟨t',by rw[j3,if_neg (λq=>e (Sum.inr.inj q))];exact u',by rw[qj (tD v')];exact v'⟩
 . rw[QJ _ new,tN]at hk
   rcases tV.mp hk with hk | hk
   . exact sub k hk
   . have:k=Sum.inr z:=by simpa using hk
     rw[this]
     exact tJ.mpr ⟨z,hz,rfl⟩
theorem QW.congr {N:List Str} {H:Hp} {d:Addr} {f g:Str->Option (Nat×Nat)} (h:QW N H d f) (e:∀z,f z=g z):QW N H d g:=⟨let ⟨kvs,a,b,c,x⟩:=h.at_;⟨kvs,a,λz hz=>b z (by rw[e z];exact hz),λz n s hz=>c z n s (by rw[e z];exact hz),x⟩⟩
theorem QW.bare {rs:qW} {H:Hp} {d:Addr} {f:Str->Option (Nat×Nat)} (h:QW (rs.map (·.1)) H d f):Jg (rs.map (·.1)) H d=Ql rs (f1 f):=by
 obtain⟨kvs,a,b,c,_⟩:=h.at_
 unfold Jg Ql
 rw[a]
 show ((rs.map (·.1)).filter λz=>(ji kvs (Sum.inr z:qL)).isNone).length=_
 congr 1
 refine zbT λz _=>?_
 unfold f1
 cases e:f z with
 | none=>rw[b z e];rfl
 | some p=>
   obtain⟨t,u,_⟩:=c z p.1 p.2 e
   rw[u];rfl
def Mh (R:Rs Str) (n s:Nat) (ns:List Str) (z:Str):Option (Nat×Nat):=if z∈ns then some (n,s) else fR R z
theorem G8 {R:Rs Str} {n:Nat} {ns:List Str} (h:∀z∈ns,qE R z=none) (z:Str):Mh R n R.length ns z=fR (R++[(n,ns)]) z:=by
 unfold Mh fR
 by_cases c:z∈ns
 . rw[if_pos c,kl (h z c) c,vN (h z c) c]
   rfl
 . rw[if_neg c,JP]
   cases e:qE R z with
   | some m=>
     show some (m,QY R z)=some (m,QY (R++[(n,ns)]) z)
     rw[(Jm e).1]
   | none=>
     show none=Option.map _ (if z∈ns then some n else none)
     rw[if_neg c]
     rfl
def RM:Sp:=λvs H Q _=>∃(l:Addr) (ps:List Addr) (rs:qW),vs=[.ref l]/\jO H l ps rs/\
 ∀H' D R,qm H H'->H D=none->QW (rs.map (·.1)) H' D (fR R)->All (Qx rs) (rs.map (·.1)) 0 [] R->Q (.ref D) H'
section
variable {P:Program} {w:World} {K:PySem.W.Frag} {mg:Str->Option Value} {base:Heap}
abbrev qbG:List Str:=["_law_rows_here","_law_roads","_law_found","_law_step","_law_number","_law_coming","_law_name"]
theorem ZK:qp qbG ["_law_rows_here"] (qh JD):=⟨rfl,rfl,rfl,by decide+kernel,rfl,by decide+kernel,by decide+kernel⟩
theorem VZ {f fC fB:Addr} {fd fdC fdB:FuncData} (F:jU K "_law_numbers" "_law_numbers" JD f fd) (B:QF mg) (hdi:mg "dict"=none) (hB:qY K mg "_law_back" ZU k9 fB fdB) (hC:qY K mg "_law_comes" Zz k9 fC fdC):ql P w K mg base qG 3 f fd ["_law_rows_here"] RM:=by
 have GC:ql P w K mg base qG 2 fC fdC k9 VI:=yp hC.fn B hB
 refine F.okJ ZK (λvs H Q E h=>?_) (λcdv A outer s H vs Q E hr h=>?_)
 . obtain⟨l,ps,rs,rfl,_⟩:=h
   rfl
 . obtain⟨l,ps,rs,rfl,g,q⟩:=h
   have hu:=jR hr
   refine⟨_,qe (qy (i:=1) ZK.nd rfl (Or.inl rfl) (Mf (ju (XV rfl) (by rfl) hdi boot_dict (qb (jv 0) qf))))
     (qe (qy (i:=2) ZK.nd rfl (Or.inl rfl) Qs)
     (qe (qy (i:=3) ZK.nd rfl (Or.inl rfl) qi)
     (qe (jd PassesOwn.never rfl (jM (by rfl) B.rng (qb qi qf)) (qv (i:=4) ZK.nd rfl (Or.inl rfl))
       (qe (qy (i:=5) ZK.nd rfl (Or.inl rfl) (jA (qb qP qf)))
       (qg (zA PassesOwn.never (qt (YN (zbU hu)) (jv 5) (jA qf) (qB _))
         (qe (qy (i:=5) ZK.nd rfl (Or.inl rfl) (jA qf))
         (qe (jd PassesOwn.never rfl (Mc (jv 1)) (qv (i:=6) ZK.nd rfl (Or.inl rfl))
           (qg (qO (JW.pt (Qd (Qr (JM hu (jv 6) (jv 2))) (jS (jZ (qH hC GC hr (by rfl) (qb (jv 1) (qb (jv 2) (qb (jv 6) (qb (jv 4) qf))))))))) (qg (jC (ZN zav zbl zbm QZ (jv 5) (qb (jv 6) qf)))) qC)))
         (qe (jd PassesOwn.never rfl (qI (jv 5)) (qv (i:=6) ZK.nd rfl (Or.inl rfl)) (qg (jy hu (jv 2) (jv 6) (j5 (qb (jv 4) (qb (jv 3) qf))) rfl)))
         (qg (qy (i:=3) ZK.nd rfl (Or.inl rfl) (qT QM (jv 3) (ju ZC (by rfl) B.int boot_int (qb (jT (YN (zbU hu)) (jv 5) (jA qf) (qB _)) qf))))))))))))
     (qg (qw (jv 2)))))),?_⟩
   have good:=g.good
   have le14:=g.le
   have nd:=good.nd
   have lN:(rs.map (·.1)).length=rs.length:=tj ..
   refine⟨_,rfl,NS (uK g λd kvs hd ek hv=>⟨d,kvs,rfl,qd,λo=>?_⟩)⟩
   rw[jI]
   have s1:qm H (upd H d (.frz o (.dK kvs))):=qk hd
   have hd1:upd H d (.frz o (.dK kvs)) d=some (.frz o (.dK kvs)):=qd
   generalize upd H d (.frz o (.dK kvs))=H1 at s1 hd1
   intro e he
   have s2:qm H1 (upd H1 e (.dK [])):=qk he
   have he2:upd H1 e (.dK []) e=some (.dK []):=qd
   have he0:H e=none:=jt s1 he
   have nde:d≠e:=λz=>by rw[<-z,hd1]at he;cases he
   generalize upd H1 e (.dK [])=H2 at s2 he2
   have ldG:∀{G:Hp},Fr H2 e G->R6 G d rs:=λfr=>by
     refine⟨o,kvs,fr _ _ (s2 _ _ hd1) nde,ek,λr hr=>?_⟩
     obtain⟨t,a,b⟩:=hv r hr
     have b2:=s2 _ _ (s1 _ _ b)
     exact⟨t,a,fr _ _ b2 (λz=>by rw[z,he2]at b2;cases b2)⟩
   have hdG:∀{G:Hp},Fr H2 e G->G d=some (.frz o (.dK kvs)):=λfr=>fr _ _ (s2 _ _ hd1) nde
   refine⟨15,rfl,by decide,by decide,?_⟩
   refine Q0 (λi σ G=>∃(v4 v5 v6:Option V) (R:Rs Str),σ=[some (.ref l),some (.ref d),some (.ref e),some (.int (R.length:Nat)),v4,v5,v6]/\Fr H2 e G/\QW (rs.map (·.1)) G e (fR R)/\Wb (Qx rs) (rs.map (·.1)) i R)
     ⟨none,none,none,[],rfl,Fr.refl,⟨[],he2,λz _=>rfl,λz n s h=>(nomatch h),zbo,λk h=>(nomatch h)⟩,.nil⟩ ?_ ?_
   . rintro i σ G hi ⟨v4,v5,v6,R0,rfl,fr0,fd0,up0⟩
     rw[zbY]
     have hi:i < 15:=by simpa using hi
     refine⟨by show 1<=sizeLine;decide,λc0 hc0=>?_⟩
     have sc:qm G (upd G c0 (.lst [V.str ""])):=qk hc0
     refine Z3 (λσ G=>∃(v6:Option V) (c:Addr) (cs:List Str) (R:Rs Str),σ=[some (.ref l),some (.ref d),some (.ref e),some (.int (R.length:Nat)),some (.int (i:Nat)),some (.ref c),v6]/\Fr H2 e G/\QW (rs.map (·.1)) G e (fR R)/\G c=some (.lst (cs.map V.str))/\
         (∀R',Qw (Qx rs) (rs.map (·.1)) i R R'->Qw (Qx rs) (rs.map (·.1)) i R0 R')/\(cs=[]->Ur (Qx rs) (rs.map (·.1)) R i []))
       (λσ G=>2*Jg (rs.map (·.1)) G e+(match σ with | [_,_,_,_,_,some (.ref c),_]=>(match G c with | some (.lst (_::_))=>1 | _=>0) | _=>0))
       ⟨v6,c0,[""],R0,rfl,fr0.same sc,fd0.mono sc,qd,λR' h=>h,λh=>(nomatch h)⟩ ?_ ?_
     . rintro σ G ⟨v6,c,cs,R,rfl,fr,fd,hc,giv,fin⟩
       refine⟨_,rfl,by show 0<=sizeLine;decide,λl0 hl0=>?_⟩
       have s0:qm G (upd G l0 (.lst [])):=qk hl0
       refine⟨c,l0,_,rfl,rfl,.of (s0 _ _ hc),.of qd,_,rfl,?_⟩
       cases cs with
       | nil=>
         have r0:=fin rfl
         exact jB ⟨_,_,_,R,rfl,fr.same s0,fd.mono s0,.more up0 (giv R (.stop r0))⟩
       | cons c1 cs=>
         refine Qe ⟨by show 0<=sizeLine;decide,λc2 hc2=>?_⟩
         have mu0:(2*Jg (rs.map (·.1)) G e+(match G c with | some (.lst (_::_))=>1 | _=>0))=2*Ql rs (qE R)+1:=by
           rw[hc]
           show 2*Jg (rs.map (·.1)) G e+1=_
           rw[fd.bare]
           unfold Ql
           simp only[Rj]
         have sA:qm G (upd (upd G l0 (.lst [])) c2 (.lst [])):=s0.trans (qk hc2)
         have hcA:upd (upd G l0 (.lst [])) c2 (.lst []) c2=some (.lst []):=qd
         have hc2G:G c2=none:=jt s0 hc2
         generalize upd (upd G l0 (.lst [])) c2 (.lst [])=GA at sA hcA
         refine⟨_,rfl,d,o,kvs,rs.map (·.1),rfl,hdG (fr.same sA),ek,?_⟩
         refine Rg (zs:=rs.map (·.1)) (λj σ' G'=>∃(v6:Option V) (ns:List Str),σ'=[some (.ref l),some (.ref d),some (.ref e),some (.int (R.length:Nat)),some (.int (i:Nat)),some (.ref c2),v6]/\qm G G'/\G' c2=some (.lst (ns.map V.str))/\ns.Sublist ((rs.map (·.1)).take j)/\∀x,x∈ns↔x∈(rs.map (·.1)).take j/\qE R x=none/\YG (Qx rs) (qE R) x i)
           ⟨v6,[],rfl,sA,hcA,List.nil_sublist _,λx=>by simp⟩ (λj σ' G' _ ⟨_,_,_,s,_⟩=>s _ _ (hdG fr)) ?_ ?_
         . rintro j z σ' G1 ez ⟨v6',ns,rfl,sG,hcG,sub,iff⟩
           have hz:z∈rs.map (·.1):=tZ ez
           have hj:=(tE.mp ez).1
           have etk:(rs.map (·.1)).take (j+1)=(rs.map (·.1)).take j++[z]:=by rw[tR,ez];rfl
           have nz:z∉(rs.map (·.1)).take j:=λm=>QA nd ez (tJ.mpr ⟨z,m,rfl⟩)
           have skip:∀{G2:Hp},qm G1 G2->¬(qE R z=none/\YG (Qx rs) (qE R) z i)->∃(v6:Option V) (ns:List Str),[some (V.ref l),some (.ref d),some (.ref e),some (.int (R.length:Nat)),some (.int (i:Nat)),some (.ref c2),some (.str z)]=[some (.ref l),some (.ref d),some (.ref e),some (.int (R.length:Nat)),some (.int (i:Nat)),some (.ref c2),v6]/\qm G G2/\G2 c2=some (.lst (ns.map V.str))/\ns.Sublist ((rs.map (·.1)).take (j+1))/\∀x,x∈ns↔x∈(rs.map (·.1)).take (j+1)/\qE R x=none/\YG (Qx rs) (qE R) x i:=λ{G2} s' no=>by
             refine⟨_,ns,rfl,sG.trans s',s' _ _ hcG,by rw[etk];exact sub.trans (List.sublist_append_left _ _),λx=>?_⟩
             rw[iff x,etk,tV]
             constructor
             . rintro⟨a,b⟩;exact⟨.inl a,b⟩
             . rintro⟨a | a,b⟩
               . exact⟨a,b⟩
               . have:x=z:=by simpa using a
                 subst this
                 exact absurd b no
           have ls:ns.length<=14:=by
             have:=sub.length_le
             rw[tS,lN]at this
             omega
           obtain⟨ov,go,eo,_⟩:=(fd.mono sG).get z
           refine⟨_,rfl,_,rfl,e,_,rfl,go,_,rfl,?_⟩
           rw[eo]
           have e1:(fR R z).isSome=(qE R z).isSome:=by unfold fR;rw[zbe]
           rw[e1]
           cases cz:qE R z with
           | some m=>exact jB (jB (skip (λ_ _ h=>h) λh=>by rw[cz]at h;cases h.1))
           | none=>
             refine Qe ⟨_,rfl,_,rfl,_,rfl,_,rfl,d,e,rs,fR R,z,i,rfl,(ldG fr).mono sG,good,hz,fd.mono sG,by omega,λG2 b s' hb=>⟨b,rfl,?_⟩⟩
             have eg:(f1 (fR R))=qE R:=funext (Rj R)
             rw[eg,Re good hz]at hb
             cases b with
             | false=>exact jB (skip s' λh=>absurd (hb.mpr h.2) (by simp))
             | true=>
               have hc3:=s' _ _ hcG
               refine Qe ⟨_,rfl,.inl ⟨rfl,_,.of hc3⟩,_,rfl,c2,_,_,rfl,rfl,hc3,by rw[tj];exact qo (by omega),_,ns++[z],rfl,qm.upd (sG.trans s') hc2G,by rw[tN];exact qd,by rw[etk];exact List.Sublist.append sub (List.Sublist.refl _),λx=>?_⟩
               rw[tV,iff x,etk,tV]
               constructor
               . rintro(⟨a,b⟩ | a)
                 . exact⟨.inl a,b⟩
                 . have:x=z:=by simpa using a
                   subst this
                   exact⟨.inr a,cz,hb.mp rfl⟩
               . rintro⟨a | a,b⟩
                 . exact .inl ⟨a,b⟩
                 . exact .inr a
         . rintro σ' G1 ⟨v6',ns,rfl,sG,hcG,sub,iff⟩
           rw[tK (tF _)]at sub iff
           have rnd:Ur (Qx rs) (rs.map (·.1)) R i ns:=⟨iff,sub⟩
           have nns:ns.Nodup:=nd.sublist sub
           have fr1:Fr H2 e G1:=fr.same sG
           have fd1:=fd.mono sG
           obtain⟨ke,hke⟩:=fd1.isd
           have nce:c2≠e:=λz=>by rw[z,hke]at hcG;cases hcG
           refine⟨_,rfl,c2,rfl,⟨_,.of hcG⟩,?_⟩
           refine jw (K:=K) (a:=c2) (xs:=ns.map V.str) (λm σ' G2=>∃v6,σ'=[some (.ref l),some (.ref d),some (.ref e),some (.int (R.length:Nat)),some (.int (i:Nat)),some (.ref c2),v6]/\Fr H2 e G2/\G2 c2=some (.lst (ns.map V.str))/\QW (rs.map (·.1)) G2 e (Mh R i R.length (ns.take m)))
             ⟨v6',rfl,fr1,hcG,fd1.congr λz=>by unfold Mh;rw[zdE,if_neg (by simp)]⟩ (λm σ' G2 _ ⟨_,_,_,h,_⟩=>.of h) ?_ ?_
           . rintro m x σ' G2 hx ⟨v6'',rfl,fr2,hc2',fd2⟩
             obtain⟨z,ez,hz,rfl⟩:=Qa hx
             have hzN:=((iff z).mp hz).1
             have hzn:=((iff z).mp hz).2.1
             have nt:z∉ns.take m:=λq=>QA nns ez (tJ.mpr ⟨z,q,rfl⟩)
             refine⟨_,rfl,_,rfl,by show 2<=sizeLine;decide,λt ht=>?_⟩
             have st:qm G2 (upd G2 t (.tup [.int (i:Nat),.int (R.length:Nat)])):=qk ht
             have htt:upd G2 t (.tup [.int (i:Nat),.int (R.length:Nat)]) t=some (.tup [.int (i:Nat),.int (R.length:Nat)]):=qd
             generalize upd G2 t (.tup [.int (i:Nat),.int (R.length:Nat)])=G3 at st htt
             obtain⟨o4,put,fd4⟩:=(fd2.mono st).put (z:=z) hzN (by unfold Mh fR;rw[if_neg nt,hzn];rfl) (by rw[lN];exact le14) htt
             refine⟨_,rfl,_,rfl,e,_,rfl,put,_,rfl,(fr2.same st).at_d,by rw[qj nce];exact st _ _ hc2',fd4.congr λy=>?_⟩
             unfold Mh
             by_cases q:y=z
             . subst q
               rw[if_pos rfl,if_pos (by rw[tR,ez];simp)]
             . rw[if_neg q]
               have im:(y∈ns.take (m+1))↔y∈ns.take m:=by
                 rw[tR,ez,tV]
                 exact⟨λh=>h.resolve_right (by simpa using q),.inl⟩
               by_cases h:y∈ns.take m
               . rw[if_pos h,if_pos (im.mpr h)]
               . rw[if_neg h,if_neg (λw=>h (im.mp w))]
           . rintro σ' G2 ⟨v6'',rfl,fr2,hc2',fd2⟩
             rw[tj,tK (tF _)]at fd2
             refine⟨_,rfl,_,rfl,by show 0<=sizeLine;decide,λl1 hl1=>?_⟩
             have s9:qm G2 (upd G2 l1 (.lst [])):=qk hl1
             refine⟨c2,l1,_,rfl,rfl,.of (s9 _ _ hc2'),.of qd,.inr ⟨_,rfl,_,_,rfl,rfl,?_⟩⟩
             have fr9:=fr2.same s9
             have fd9:=fd2.mono s9
             have hc9:=s9 _ _ hc2'
             generalize upd G2 l1 (.lst [])=G9 at fr9 fd9 hc9
             cases ns with
             | nil=>
               have eR:QW (rs.map (·.1)) G9 e (fR R):=fd9.congr λz=>by unfold Mh;rw[if_neg (by simp)]
               refine⟨⟨v6'',c2,[],R,?_,fr9,eR,hc9,giv,λ_=>rnd⟩,?_⟩
               . show [_,_,_,some (V.int ((R.length:Int)+0)),_,_,_]=_
                 rw[Int.add_zero]
               . have:=eR.bare
                 show 2*Jg (rs.map (·.1)) G9 e+(match G9 c2 with | some (.lst (_::_))=>1 | _=>0) < 2*Jg (rs.map (·.1)) G e+(match G c with | some (.lst (_::_))=>1 | _=>0)
                 rw[mu0,hc9,this]
                 unfold Ql
                 simp only[Rj]
                 show 2*_+0 < _
                 omega
             | cons n1 ns=>
               have nw:∀z∈n1::ns,qE R z=none:=λz hz=>((iff z).mp hz).2.1
               have eR:QW (rs.map (·.1)) G9 e (fR (R++[(i,n1::ns)])):=fd9.congr (G8 nw)
               refine⟨⟨v6'',c2,n1::ns,R++[(i,n1::ns)],?_,fr9,eR,hc9,λR' h=>giv R' (.more rnd (by simp) h),λh=>(nomatch h)⟩,?_⟩
               . show [_,_,_,some (V.int ((R.length:Int)+1)),_,_,_]=_
                 rw[tL,zaF]
                 rfl
               . have:=eR.bare
                 have lt:=Vp (rs:=rs) (R:=R) (n:=i) (ns:=n1::ns) (λz hz=>⟨((iff z).mp hz).1,nw z hz⟩) (by simp)
                 show 2*Jg (rs.map (·.1)) G9 e+(match G9 c2 with | some (.lst (_::_))=>1 | _=>0) < 2*Jg (rs.map (·.1)) G e+(match G c with | some (.lst (_::_))=>1 | _=>0)
                 rw[mu0,hc9,this]
                 show 2*Ql rs (f1 (fR (R++[(i,n1::ns)])))+1 < _
                 have e2:Ql rs (f1 (fR (R++[(i,n1::ns)])))=Ql rs (qE (R++[(i,n1::ns)])):=by
                   unfold Ql
                   simp only[Rj]
                 rw[e2]
                 omega
     . rintro σ G Q1 Q2 kk ⟨x,ex,h1,h2⟩
       exact⟨x,ex,h1,λl0 hl0=>let ⟨a,b,xs,e1,e2,e3,e4,kb,e5,q1⟩:=h2 l0 hl0;⟨a,b,xs,e1,e2,e3,e4,kb,e5,kk _ _ q1⟩⟩
   . rintro σ G ⟨v4,v5,v6,R,rfl,fr,fd,up⟩
     exact⟨_,rfl,q G e R (λb u hb=>fr _ _ (s2 _ _ (s1 _ _ hb)) (qA hb he0)) he0 fd (up.whole (by rw[lN];show rs.length < 15;omega))⟩
end
theorem xH {ns ms:List Nat} (h:∀x,x∈ns↔x∈ms):Rb.setN ns=Rb.setN ms:=zdC λk=>by rw[Rb.testBit_setN,Rb.testBit_setN,decide_eq_decide.mpr (h k)]
theorem Nk {rs:qW} (g:qu rs) {f:Str->Option Nat} {z:Str} (hz:z∈rs.map (·.1)):Rb.setN (kn rs f z)=Rb.setN (QB rs f z):=xH λx=>by
 rw[UY,jx]
 constructor
 . rintro⟨y,hy,e⟩;exact⟨y,(qK g hz).mp hy,e⟩
 . rintro⟨y,hy,e⟩;exact⟨y,(qK g hz).mpr hy,e⟩
def RN:Sp:=λvs H Q _=>∃(l:Addr) (ps:List Addr) (rs:qW),vs=[.ref l]/\jO H l ps rs/\
 ∀H' D R,qm H H'->H D=none->je H' D rs R->All (Qx rs) (rs.map (·.1)) 0 [] R->Q (.ref D) H'
section
variable {P:Program} {w:World} {K:PySem.W.Frag} {mg:Str->Option Value} {base:Heap}
abbrev qbH:List Str:=["_law_rows_here","_law_found","_law_labels_here","_law_name","_law_leads_here","_law_bits","_law_one"]
theorem Yr:qp qbH ["_law_rows_here"] (qh zi):=⟨rfl,rfl,rfl,by decide+kernel,rfl,by decide+kernel,by decide+kernel⟩
theorem UN {f fN fC fB:Addr} {fd fdN fdC fdB:FuncData} (F:jU K "_law_labels" "_law_labels" zi f fd) (B:QF mg) (hdi:mg "dict"=none) (hB:qY K mg "_law_back" ZU k9 fB fdB) (hC:qY K mg "_law_comes" Zz k9 fC fdC) (hN:qY K mg "_law_numbers" JD ["_law_rows_here"] fN fdN):ql P w K mg base qG 4 f fd ["_law_rows_here"] RN:=by
 have GN:ql P w K mg base qG 3 fN fdN ["_law_rows_here"] RM:=VZ hN.fn B hdi hB hC
 refine F.okJ Yr (λvs H Q E h=>?_) (λcdv A outer s H vs Q E hr h=>?_)
 . obtain⟨l,ps,rs,rfl,_⟩:=h
   rfl
 . obtain⟨l,ps,rs,rfl,g,q⟩:=h
   have hu:=jR hr
   refine⟨_,qe (qy (i:=1) Yr.nd rfl (Or.inl rfl) (qH hN GN hr (by rfl) (qb (jv 0) qf)))
     (qe (qy (i:=2) Yr.nd rfl (Or.inl rfl) Qs)
     (qe (jd PassesOwn.never rfl (qI (jv 0)) (ZZ rfl (jD (qv (i:=3) Yr.nd rfl (Or.inl rfl)) (jD (qv (i:=4) Yr.nd rfl (Or.inl rfl)) J3)))
       (qg (qO (Qr (J7 hu (jv 3) (jv 1)))
         (qg (jy hu (jv 2) (jv 3) (qT KS (j5 (qb qP qf)) (qV hu (jv 1) (jv 3) (λ_ _=>rfl))) rfl))
         (qe (qy (i:=5) Yr.nd rfl (Or.inl rfl) qi)
         (qe (jd PassesOwn.never rfl (Yi (jv 4)) (qv (i:=6) Yr.nd rfl (Or.inl rfl))
           (qg (qO (Qr (J7 hu (jv 6) (jv 1))) (qg (qy (i:=5) Yr.nd rfl (Or.inl rfl) (qT RV (jv 5) (qT wo qi (qM qU (qV hu (jv 1) (jv 6) (λ_ _=>rfl)) qi (λ_ _=>rfl)))))) qC)))
         (qg (jy hu (jv 2) (jv 3) (j5 (qb qP (qb (jv 5) qf))) rfl)))))))
     (qg (qw (jv 2))))),?_⟩
   have good:=g.good
   have le14:=g.le
   have nd:=good.nd
   refine⟨_,rfl,l,ps,rs,rfl,g,λH1 e R s1 he fd all=>?_⟩
   have L:=Yf (j7 nd) all
   intro D hD
   have hD0:H D=none:=jt s1 hD
   have sD:qm H1 (upd H1 D (.dK [])):=qk hD
   have hDD:upd H1 D (.dK []) D=some (.dK []):=qd
   generalize upd H1 D (.dK [])=H2 at sD hDD
   have s12:=s1.trans sD
   have fd2:=fd.mono sD
   have nDe:e≠D:=λz=>by
     obtain⟨k0,h0⟩:=fd.isd
     rw[z,hD]at h0;cases h0
   have fdG:∀{G:Hp},Fr H2 D G->QW (rs.map (·.1)) G e (fR R):=λfr=>by
     obtain⟨kvs,a,b,c,x⟩:=fd2.at_
     refine⟨kvs,fr _ _ a nDe,b,λz n s hz=>?_,x⟩
     obtain⟨t,u,v⟩:=c z n s hz
     exact⟨t,u,fr _ _ v (λq=>by rw[q,hDD]at v;cases v)⟩
   have nlD:l≠D:=λz=>by have:=s12 _ _ g.at_;rw[z,hDD]at this;cases this
   have gG:∀{G:Hp},Fr H2 D G->jO G l ps rs:=λfr=>(g.mono s12).fr' hDD fr
   refine⟨_,rfl,l,rfl,⟨_,.of (s12 _ _ g.at_)⟩,?_⟩
   refine jw (K:=K) (a:=l) (xs:=ps.map V.ref) (λi σ' G=>∃(v3 v4 v5 v6:Option V) (kvs:List (qL×V)),σ'=[some (.ref l),some (.ref e),some (.ref D),v3,v4,v5,v6]/\Fr H2 D G/\G D=some (.dK kvs)/\kvs.map (·.1)=((rs.map (·.1)).take i).map Sum.inr/\∀r∈rs.take i,∃t,ji kvs (Sum.inr r.1:qL)=some (.ref t)/\G t=some (.tup (Qb rs R r.1)))
     ⟨none,none,none,none,[],rfl,Fr.refl,hDD,rfl,λr h=>(nomatch h)⟩ (λi σ' G _ ⟨_,_,_,_,_,_,f,_⟩=>.of (gG f).at_) ?_ ?_
   . rintro i y σ' G3 hy ⟨v3,v4,v5,v6,kvs,rfl,fr,hDk,ek,hv⟩
     obtain⟨p,qq,r,rfl,er,hr',ha,hb⟩:=(gG fr).rows.item hy
     have hi:=(tE.mp er).1
     have eN:(rs.map (·.1))[i]?=some r.1:=by rw[tI,er];rfl
     have hrN:r.1∈rs.map (·.1):=tJ.mpr ⟨r,hr',rfl⟩
     have lk:kvs.length=i:=by
       have:=congrArg zaz ek
       rw[tj,tj,tS,tj]at this
       omega
     have new:ji kvs (Sum.inr r.1:qL)=none:=Jz (by rw[ek];exact QA nd eN)
     have fin:∀(G4:Hp) (t:Addr) (v3 v4 v5 v6:Option V),qm G3 G4->G4 t=some (.tup (Qb rs R r.1))->∃H5,Ji G4 D (.str r.1) (.ref t) H5/\
         ∃(v3' v4' v5' v6':Option V) (kvs:List (qL×V)),[some (V.ref l),some (.ref e),some (.ref D),v3,v4,v5,v6]=[some (.ref l),some (.ref e),some (.ref D),v3',v4',v5',v6']/\Fr H2 D H5/\H5 D=some (.dK kvs)/\kvs.map (·.1)=((rs.map (·.1)).take (i+1)).map Sum.inr/\∀r∈rs.take (i+1),∃t,ji kvs (Sum.inr r.1:qL)=some (.ref t)/\H5 t=some (.tup (Qb rs R r.1)):=λG4 t v3 v4 v5 v6 s4 ht=>by
       have h4:=s4 _ _ hDk
       refine⟨_,Ji.k (k:=(Sum.inr r.1:qL)) h4 (qo (by omega)),v3,v4,v5,v6,jV kvs (Sum.inr r.1) (.ref t),rfl,(fr.same s4).at_d,qd,?_,λr2 hr2=>?_⟩
       . rw[QJ _ new,tN,ek,tR,eN,tN]
         rfl
       . have tD:∀{b:Addr} {xs:List V},G4 b=some (.tup xs)->b≠D:=λhb e=>by rw[e,h4]at hb;cases hb
         rw[tR,er]at hr2
         rcases tV.mp hr2 with h | h
         . obtain⟨t2,a,b⟩:=hv r2 h
           have ne:r2.1≠r.1:=λe=>by rw[e,new]at a;cases a
           refine⟨t2,?_,?_⟩
           . rw[j3,if_neg (λq=>ne (Sum.inr.inj q))];exact a
           . rw[qj (tD (s4 _ _ b))];exact s4 _ _ b
         . have:r2=r:=by simpa using h
           subst this
           exact⟨t,by rw[j3,if_pos rfl],by rw[qj (tD ht)];exact ht⟩
     refine⟨p,_,rfl,.of ha,rfl,_,_,rfl,_,_,rfl,rfl,?_⟩
     obtain⟨ov,go,eo,ho⟩:=(fdG fr).get r.1
     refine⟨_,rfl,_,rfl,e,_,rfl,go,_,rfl,?_⟩
     rw[eo]
     have e1:(fR R r.1).isSome=(qE R r.1).isSome:=by unfold fR;rw[zbe]
     rw[e1]
     cases cz:qE R r.1 with
     | some n=>
       have ef:fR R r.1=some (n,QY R r.1):=by unfold fR;rw[cz];rfl
       obtain⟨t0,et,ht0⟩:=ho _ _ ef
       rw[et]at go
       have el:Qb rs R r.1=[.str "number",.int (n:Nat),.int (QY R r.1:Nat)]:=by unfold Qb;rw[cz]
       refine Qe ⟨by show 1<=sizeLine;decide,λt1 ht1=>?_⟩
       have s5:qm G3 (upd G3 t1 (.tup [.str "number"])):=qk ht1
       have go5:=(((fdG fr).mono s5).get r.1)
       obtain⟨ov5,go5,_,ho5⟩:=go5
       obtain⟨t5,et5,ht5⟩:=ho5 _ _ ef
       rw[et5]at go5
       refine⟨_,rfl,_,rfl,e,_,rfl,go5,t1,t5,_,_,rfl,rfl,qd,ht5,by show 1+2<=sizeLine;decide,λt6 G6 s6 ht6=>?_⟩
       obtain⟨H7,put,kk⟩:=fin G6 t6 (some (.str r.1)) (some (.ref qq)) v5 v6 (s5.trans s6) (by rw[el];exact ht6)
       exact⟨_,rfl,_,rfl,D,H7,rfl,put,kk⟩
     | none=>
       have el:Qb rs R r.1=[.str "endless",.int (Rb.setN (QB rs (qE R) r.1):Nat)]:=by unfold Qb;rw[cz]
       refine jB ⟨_,rfl,qq,rfl,⟨_,.of hb⟩,?_⟩
       have eld:jY rs r.1=r.2:=zy nd hr'
       refine YY (K:=K) (a:=qq) (xs:=r.2.map V.str) (λm σ'' G4=>∃v6,σ''=[some (.ref l),some (.ref e),some (.ref D),some (.str r.1),some (.ref qq),some (.int (Rb.setN ((r.2.take m).filterMap (qE R)):Nat)),v6]/\G4=G3)
         ⟨v6,rfl,rfl⟩ (λm σ'' G4 _ ⟨_,_,e⟩=>e▸.of hb) ?_ ?_
       . rintro m x σ'' G4 hx ⟨v6',rfl,rfl⟩
         obtain⟨y,ey,hy,rfl⟩:=Qa hx
         obtain⟨oy,gy,eoy,hoy⟩:=(fdG fr).get y
         refine⟨_,rfl,_,rfl,e,_,rfl,gy,_,rfl,?_⟩
         rw[eoy]
         have e2:(fR R y).isSome=(qE R y).isSome:=by unfold fR;rw[zbe]
         rw[e2]
         have etk:(r.2.take (m+1)).filterMap (qE R)=(r.2.take m).filterMap (qE R)++[y].filterMap (qE R):=by
           rw[tR,ey,zaq]
           rfl
         rw[etk]
         cases cy:qE R y with
         | none=>
           have e3:[y].filterMap (qE R)=[]:=by simp [cy]
           rw[e3,zax]
           exact jB ⟨_,rfl,rfl⟩
         | some n=>
           have e3:[y].filterMap (qE R)=[n]:=by simp [cy]
           have efy:fR R y=some (n,QY R y):=by unfold fR;rw[cy];rfl
           obtain⟨ty,ety,hty⟩:=hoy _ _ efy
           rw[ety]at gy
           have hyN:y∈rs.map (·.1):=YR good hrN (by rw[eld];exact hy)
           have n8:=Yb good L hyN cy
           rw[e3,Rb.setN_snoc]
           refine Qe ⟨_,rfl,_,rfl,_,rfl,e,_,rfl,gy,ty,_,0,_,rfl,rfl,.of hty,rfl,1,(n:Int),rfl,rfl,⟨by omega,by omega,by decide⟩,_,_,rfl,rfl,some (.str y),?_,rfl⟩
           have e9:(1:Int)*2^ ((n:Int).toNat)=((2^n:Nat):Int):=by
             rw[Int.one_mul,zaL]
             exact(Int.natCast_pow 2 n).symm
           show [_,_,_,_,_,some (V.int (Builtin.bitOr (Rb.setN ((r.2.take m).filterMap (qE R)):Nat) ((1:Int)*2^ ((n:Int).toNat)))),_]=_
           rw[e9,bo]
       . rintro σ'' G4 ⟨v6',rfl,rfl⟩
         rw[tj,tK (tF _)]
         have ek2:Rb.setN (r.2.filterMap (qE R))=Rb.setN (QB rs (qE R) r.1):=by
           have:=Nk good (f:=qE R) hrN
           unfold kn at this
           rw[eld]at this
           exact this
         rw[ek2]
         refine⟨_,rfl,by show 2<=sizeLine;decide,λt ht=>?_⟩
         obtain⟨H7,put,kk⟩:=fin (upd G4 t (.tup [.str "endless",.int (Rb.setN (QB rs (qE R) r.1):Nat)])) t (some (.str r.1)) (some (.ref qq)) (some (.int (Rb.setN (QB rs (qE R) r.1):Nat))) v6' (qk ht) (by rw[el];exact qd)
         exact⟨_,rfl,_,rfl,D,H7,rfl,put,kk⟩
   . rintro σ' G3 ⟨v3,v4,v5,v6,kvs,rfl,fr,hDk,ek,hv⟩
     have lp:=(g.rows.1)
     rw[tj,lp]at ek hv
     rw[<-tj (f:=(·.1)) (as:=rs),tK (tF _)]at ek
     rw[tK (tF _)]at hv
     exact⟨_,rfl,q G3 D R (λb u h=>fr _ _ (s12 _ _ h) (qA h hD0)) hD0 ⟨kvs,hDk,ek,hv⟩ all⟩
end
open PySem L2 PyProof.Rows MLab Rb
abbrev Xi:Stmt:=top 62
abbrev ZV:Stmt:=top 63
abbrev Jt:Stmt:=top 64
theorem UV {hs:List Str} {j:Nat} (h:j < hs.length) (y:Str):hs.take j++[y]++hs.drop (j+1)=lf hs (j,y):=by
 unfold lf
 rw[List.set_eq_take_append_cons_drop,if_pos h]
 simp
theorem V7 {rs:qW} (g:qu rs) {hs:List Str} (hi:∀z∈hs,∃r∈rs,r.1=z) {b:List Str}:b∈mv (jY rs) hs↔∃m∈mvs rs hs hs.length,b=lf hs m:=by
 rw[jE]
 constructor
 . rintro⟨p,x,y,q,rfl,hy,rfl⟩
   have hx:x∈rs.map (·.1):=by
     obtain⟨r,hr,e⟩:=hi x (by simp)
     exact tJ.mpr ⟨r,hr,e⟩
   have ez:QP (p++x::q) p.length=x:=by unfold QP;simp
   refine⟨(p.length,y),zcH.mpr ⟨p.length,zaG.mpr (by simp),tJ.mpr ⟨y,by rw[ez];exact(qK g hx).mp hy,rfl⟩⟩,?_⟩
   unfold lf
   simp
 . rintro⟨m,hm,rfl⟩
   obtain⟨h1,h2⟩:=QG hm
   have hz:QP hs m.1∈rs.map (·.1):=by
     obtain⟨r,hr,e⟩:=hi _ (Zr h1)
     exact tJ.mpr ⟨r,hr,e⟩
   refine⟨hs.take m.1,QP hs m.1,m.2,hs.drop (m.1+1),?_,(qK g hz).mpr h2,?_⟩
   . have:=Zs h1
     obtain⟨h3,h4⟩:=tE.mp this
     rw[<-h4]
     simp
   . rw[<-UV h1]
     simp
abbrev JU (rs:qW) (R:Rs Str):Prop:=All (Qx rs) (rs.map (·.1)) 0 [] R
def oW (rs:qW) (R:Rs Str) (hs:List Str):Str:=zq (Qy (hs.map (wT rs R)))
def cnt (R:Rs Str) (hs:List Str):Nat:=(hs.map (QY R)).sum
def Js (rs:qW) (R:Rs Str) (hs:List Str):List (Nat×Str):=(mvs rs hs hs.length).filter λm=>decide (oW rs R (lf hs m)=Str.ofString "lost")
def Ut (rs:qW) (R:Rs Str) (hs:List Str) (m:Nat×Str):Prop:=∃i:Nat,(Js rs R hs)[i]?=some m/\∀(j:Nat) (mj:Nat×Str),(Js rs R hs)[j]?=some mj->cnt R (lf hs m)<=cnt R (lf hs mj)/\(j < i->cnt R (lf hs m) < cnt R (lf hs mj))
theorem Ut.mem {rs:qW} {R:Rs Str} {hs:List Str} {m:Nat×Str} (h:Ut rs R hs m):m∈mvs rs hs hs.length/\oW rs R (lf hs m)=Str.ofString "lost":=by
 obtain⟨i,e,_⟩:=h
 have:=tX.mp (tZ e)
 exact⟨this.1,of_decide_eq_true this.2⟩
theorem km (b:Nat):zq (.edl b)≠Str.ofString "lost":=by
 show (if b.testBit 0=true then (Str.ofString "won") else Str.ofString "drawn")≠_
 split<;>decide+kernel
theorem wR {rs:qW} {R:Rs Str} {hs:List Str} (h:oW rs R hs=Str.ofString "lost"):∀z∈hs,∃n,qE R z=some n:=λz hz=>by
 cases e:qE R z with
 | some n=>exact⟨n,rfl⟩
 | none=>
   exfalso
   have hm:setN (QB rs (qE R) z)∈Qf (hs.map (wT rs R)):=by
     unfold Qf
     exact zaE.mpr ⟨.edl _,tJ.mpr ⟨z,hz,Zd e⟩,rfl⟩
   unfold oW Qy at h
   cases c:Qf (hs.map (wT rs R)) with
   | nil=>rw[c]at hm;cases hm
   | cons b l=>
     rw[c]at h
     cases l with
     | nil=>exact km _ h
     | cons b' l=>exact km _ h
theorem Nb {rs:qW} (good:qu rs) {R:Rs Str} (all:JU rs R) {hs:List Str} (hi:∀z∈hs,∃r∈rs,r.1=z) (h:oW rs R hs=Str.ofString "won"):0 < (Js rs R hs).length:=by
 have L:=Yf (j7 good.nd) all
 have nm:∀{b:List Str},(∀z∈b,∃r∈rs,r.1=z)->∀z∈b,z∈rs.map (·.1):=λh z hz=>let ⟨r,hr,e⟩:=h z hz;tJ.mpr ⟨r,hr,e⟩
 have d1:¬(Str.ofString "won"=Str.ofString "lost"):=by decide+kernel
 have d2:¬(Str.ofString "won"=Str.ofString "drawn"):=by decide+kernel
 rcases Xx good L (nm hi) with ⟨_,e⟩ | ⟨w,_⟩ | ⟨_,_,e⟩
 . exact absurd (h.symm.trans e) d1
 . obtain⟨mb,l⟩:=w
   obtain⟨m,hm,rfl⟩:=(V7 good hi).mp mb
   have:m∈Js rs R hs:=tX.mpr ⟨hm,decide_eq_true (by
     rcases Xx good L (nm (JK good hi hm)) with ⟨_,e⟩ | ⟨w,_⟩ | ⟨n,_,_⟩
     . exact e
     . exact absurd w (zx l)
     . exact absurd l n)⟩
   exact zaD this
 . exact absurd (h.symm.trans e) d2
theorem Nf {rs:qW} {R:Rs Str} (all:JU rs R) (le:rs.length<=14) (z:Str):QY R z<=14:=by
 have h1:=W4 (kz all vc.nil)
 rw[tj]at h1
 have h2:QY R z<=R.length:=List.findIdx_le_length
 omega
theorem xn {R:Rs Str}:∀{hs:List Str},(∀z∈hs,QY R z<=14)->cnt R hs<=14*hs.length:=by
 intro hs
 induction hs with
 | nil=>intro _;exact zay _
 | cons z hs ih=>
   intro h
   have h1:=h z zaa
   have h2:=ih λy hy=>h y (tU _ hy)
   unfold cnt at h2 ⊢
   simp only[tW,zaV,zat]
   omega
theorem Ri {α β:Type} (f:α->β) (l:List α):l.filterMap (λx=>some (f x))=l.map f:=by induction l<;>simp [*]
theorem ZA {α β:Type} (p:α->Bool) (f:α->β) (l:List α):(l.filterMap λx=>if p x=true then some (f x) else none)=(l.filter p).map f:=by
 induction l with
 | nil=>rfl
 | cons x l ih=>cases c:p x<;>simp [c,ih]
theorem uR {α:Type} {H:Hp} {f:α->Addr} {g:α->Nat×Str}:∀{l:List α},(∀x∈l,H (f x)=some (.tup (X6 (g x))))->jF H (l.map f) (l.map g):=λ{l} h=>by
 refine⟨by rw[tj,tj],λi p m e1 e2=>?_⟩
 rw[tI]at e1 e2
 cases e:l[i]? with
 | none=>rw[e]at e1;cases e1
 | some x=>
   rw[e]at e1 e2
   cases e1
   cases e2
   exact h x (tZ e)
theorem YE.pts {H:Hp}:∀{ts:List Addr} {os:List ((Nat×Str)×Str)},YE H ts os->∃xs:List (Addr×Addr×((Nat×Str)×Str)),xs.map (·.1)=ts/\xs.map (·.2.2)=os/\∀x∈xs,H x.1=some (.tup [.ref x.2.1,.str x.2.2.2])/\H x.2.1=some (.tup (X6 x.2.2.1)):=by
 intro ts
 induction ts with
 | nil=>
   intro os h
   cases os with
   | nil=>exact⟨[],rfl,rfl,λ_ z=>by cases z⟩
   | cons o os=>cases h.1
 | cons t ts ih=>
   intro os h
   cases os with
   | nil=>cases h.1
   | cons o os=>
     obtain⟨p,h1,h2⟩:=h.2 0 t o rfl rfl
     obtain⟨xs,e1,e2,hx⟩:=ih (os:=os) ⟨zcU.inj h.1,λi a b e1 e2=>h.2 (i+1) a b (by simpa using e1) (by simpa using e2)⟩
     refine⟨(t,p,o)::xs,by rw[tW,e1],by rw[tW,e2],λx hx'=>?_⟩
     rcases t8.mp hx' with rfl | hx'
     . exact⟨h1,h2⟩
     . exact hx x hx'
theorem uZ (rs:qW) (R:Rs Str) (hs:List Str):((W3 rs R hs).filter λo=>decide (o.2=Str.ofString "lost")).map (·.1)=Js rs R hs:=by
 unfold W3 Js
 rw[zdu,zaY]
 show zdU id _=_
 rw[List.map_id]
 rfl
def WN (CG:Addr):Sp:=λvs H Q _=>∃(g D h:Addr) (rs:qW) (R:Rs Str) (hs:List Str),vs=[.ref g,.ref D,.ref h]/\Qi CG H g rs/\qu rs/\rs.length<=14/\je H D rs R/\JU rs R/\jG H h rs hs/\
 ∀H' L ps,qm H H'->H L=none->H' L=some (.lst (ps.map V.ref))->jF H' ps (Js rs R hs)->Q (.ref L) H'
def WR:Sp:=λvs H Q _=>∃(D h:Addr) (rs:qW) (R:Rs Str) (hs:List Str),vs=[.ref D,.ref h]/\rs.length<=14/\je H D rs R/\JU rs R/\jG H h rs hs/\(∀z∈hs,∃n,qE R z=some n)/\∀H',qm H H'->Q (.int (cnt R hs:Nat)) H'
def z7:Str:=(Str.ofString "winner_by"++Str.ofString ".<locals>.")++Str.ofString "<lambda>"
def WM (CG PT:Addr):Sp:=λvs H Q _=>∃(g D h:Addr) (rs:qW) (R:Rs Str) (hs:List Str),vs=[.ref g,.ref D,.ref h]/\Qi CG H g rs/\qu rs/\rs.length<=14/\je H D rs R/\JU rs R/\jG H h rs hs/\0 < (Js rs R hs).length/\(∃tq,H PT=some (.tbl #[.str z7 tq]))/\
 ∀H' p m,qm H H'->H' p=some (.tup (X6 m))->Ut rs R hs m->Q (.ref p) H'
section
variable {P:Program} {w:World} {K:PySem.W.Frag} {mg:Str->Option Value} {base:Heap}
abbrev p3:List Str:=["ground","labels","heap"]
theorem Kl:qp p3 p3 (qh Xi):=⟨rfl,rfl,rfl,by decide+kernel,rfl,by decide+kernel,by decide+kernel⟩
theorem wz {f CG:Addr} {fd:FuncData} (F:jU K "winning_by" "winning_by" Xi f fd) (h:WF K mg) (B:QF mg) (Z:Wk K mg) (G:Qv mg) (T:QE K mg) (M:GM K mg CG) (O:yZ K mg) (V1:uS K mg):ql P w K mg base qG 11 f fd p3 (WN CG):=by
 obtain⟨fO,fdO,hO⟩:=V1.osby
 have GO:ql P w K mg base qG 10 fO fdO p3 (xv CG):=K1 hO.fn h B Z G T M O V1
 refine F.okJ Kl (λvs H Q E z=>?_) (λcdv A outer s H vs Q E hr z=>?_)
 . obtain⟨g,D,h',rs,R,hs,rfl,_⟩:=z
   rfl
 . obtain⟨g,D,h',rs,R,hs,rfl,gr,good,le,lb,all,hh,q⟩:=z
   refine⟨_,qg (qw (j6 (N':=["pair"]) (ix:=[none]) (tt:=Yo (zR rEq (zR (zo K) (q5 0) (tC (.int 1))) (tC (.str (Str.ofString "lost"))))) (te:=zR (zo K) (q5 0) (tC (.int 0))) rfl ⟨rfl,rfl,rfl,rfl,rfl⟩ (qI (qH hO GO hr (by rfl) (qb (jv 0) (qb (jv 1) (qb (jv 2) qf))))) (λC s2 H2 fp pins=>
       ⟨qv (i:=0) (ME _) rfl (Or.inl rfl),jJ (qt jp (qM qU (jv 0) qi (λ_ _=>rfl)) qP (qB _)),qM qU (jv 0) qi (λ_ _=>rfl)⟩))),?_⟩
   refine⟨_,rfl,_,rfl,_,rfl,g,D,h',rs,R,hs,rfl,gr,good,le,lb,Yf (j7 good.nd) all,hh,λH1 L ts s1 hL hL1 os=>⟨L,rfl,⟨_,.of hL1⟩,λW hW=>?_⟩⟩
   obtain⟨xs,e1,e2,hx⟩:=os.pts
   have lmv:(mvs rs hs hs.length).length<=112:=by
     have:=JZ good le hh.in_ hs.length (tF _)
     have:=hh.le
     omega
   have lxs:xs.length<=112:=by
     have:=congrArg zaz e2
     unfold W3 at this
     rw[tj,tj]at this
     omega
   have hL1':H1 L=some (.lst (xs.map λx=>V.ref x.1)):=by
     rw[<-e1,zaY]at hL1
     exact hL1
   refine Jf (K:=K) (a:=L) (xs:=xs) (enc:=λx=>V.ref x.1) (out:=λx=>if decide (x.2.2.2=Str.ofString "lost")=true then some (V.ref x.2.1) else none) (rest:=[]) hW hL1' (qo (by omega)) (λx hx' Y sY R' hR=>?_) (λx hx' v ev Y sY R' hR=>?_) (λH5 s5 hD5=>?_)
   . refine⟨_,rfl,x.1,_,1,.str x.2.2.2,rfl,rfl,.of (sY _ _ (hx x hx').1),rfl,rfl,_,rfl,?_⟩
     have r:=hR Y (qm.refl Y)
     have e:(if decide (x.2.2.2=Str.ofString "lost")=true then some (V.ref x.2.1) else none).isSome=decide (V.str x.2.2.2=V.str (Str.ofString "lost")):=by
       by_cases c:x.2.2.2=Str.ofString "lost"
       . rw[decide_eq_true c,decide_eq_true (by rw[c])];rfl
       . rw[decide_eq_false c,decide_eq_false λz=>c (V.str.inj z)];rfl
     rw[e]at r
     exact r
   . have ev':v=.ref x.2.1:=by
       by_cases c:x.2.2.2=Str.ofString "lost"
       . rw[decide_eq_true c]at ev;exact(tO.inj ev).symm
       . rw[decide_eq_false c]at ev;cases ev
     subst ev'
     exact⟨_,rfl,x.1,_,0,_,rfl,rfl,.of (sY _ _ (hx x hx').1),rfl,hR Y (qm.refl Y)⟩
   . rw[ZA]at hD5
     refine q H5 W ((xs.filter λx=>decide (x.2.2.2=Str.ofString "lost")).map (·.2.1)) (s1.trans s5) (jt s1 hW) (by rw[zaY];exact hD5) ?_
     have e3:(xs.filter λx=>decide (x.2.2.2=Str.ofString "lost")).map (·.2.2.1)=Js rs R hs:=by
       rw[<-uZ,<-e2,zdu,zaY]
       rfl
     rw[<-e3]
     exact uR λx hx'=>s5 _ _ (hx x (tX.mp hx').1).2
theorem Kv:qp ["labels","heap"] ["labels","heap"] (qh ZV):=⟨rfl,rfl,rfl,by decide+kernel,rfl,by decide+kernel,by decide+kernel⟩
theorem V2 {f:Addr} {fd:FuncData} (F:jU K "count_by" "count_by" ZV f fd) (T:QE K mg):ql P w K mg base qG 1 f fd ["labels","heap"] WR:=by
 refine F.okJ Kv (λvs H Q E z=>?_) (λcdv A outer s H vs Q E hr z=>?_)
 . obtain⟨D,h',rs,R,hs,rfl,_⟩:=z
   rfl
 . obtain⟨D,h',rs,R,hs,rfl,le,lb,all,hh,nm,q⟩:=z
   have hu:=jR hr
   refine⟨_,qg (qw (qF (WA rfl) (by rfl) T.sum boot_sum (qb (j6 (N':=["place","labels"]) (ix:=[none,some 0]) (te:=zR (zo K) (Z6 (q5 1) (q5 0)) (tC (.int 2))) rfl ⟨rfl,rfl,rfl,rfl,rfl⟩ (qI (jv 1)) (λC s2 H2 fp pins=>
       ⟨qv (i:=0) (show (["place","labels"]:List Str).Nodup by decide+kernel) rfl (Or.inl rfl),j2,qM qU (qV hu (jv 1) (jv 0) (λ_ _=>rfl)) qi (λ_ _=>rfl)⟩)) qf))),?_⟩
   refine⟨_,rfl,h',rfl,⟨_,.of hh.at_⟩,λW hW=>?_⟩
   refine Jf (K:=K) (a:=h') (xs:=hs) (enc:=V.str) (out:=λz=>some (V.int (QY R z:Nat))) (rest:=[some (.ref D)]) hW hh.at_ (qo (zag hh.le (by decide))) (λx hx Y sY R' hR=>hR Y (qm.refl Y)) (λx hx v ev Y sY R' hR=>?_) (λH5 s5 hD5=>?_)
   . cases ev
     obtain⟨kvs,hD,_,hv⟩:=(lb.mono sY).at_
     obtain⟨r,hr',er⟩:=hh.in_ x hx
     obtain⟨t,et,ht⟩:=hv r hr'
     rw[er]at et ht
     obtain⟨n,en⟩:=nm x hx
     unfold Qb at ht
     rw[en]at ht
     exact⟨_,rfl,_,rfl,D,_,rfl,by rw[<-et];exact j1.k (k:=(Sum.inr x:qL)) hD,t,_,2,_,rfl,rfl,.of ht,rfl,hR Y (qm.refl Y)⟩
   . rw[Ri]at hD5
     have hc:=xn (R:=R) (hs:=hs) λz _=>Nf all le z
     have h8:=hh.le
     refine⟨W,hs.map (QY R),rfl,.of (by rw[zaY];exact hD5),?_,q H5 s5⟩
     show cnt R hs < 2^62
     omega
end
open PySem L2 PyProof.Rows MLab Rb
def MX:Stmt->Expr
 | .Return (some e) _=>e
 | _=>.Constant .none 0 ⟨0,0,0,0⟩
def qaD:Expr->Expr
 | .Call _ _ (k::_) _=>k.value
 | e=>e
def N5:Expr->Arguments
 | .Lambda a _ _ _=>a
 | _=>{posonlyargs:=[],args:=[],vararg:=none,kwonlyargs:=[],kw_defaults:=[],kwarg:=none,defaults:=[]}
def N4:Expr->Expr
 | .Lambda _ b _ _=>b
 | e=>e
def Gs:Expr->Scope
 | .Lambda _ _ s _=>s
 | _=>{kind:=.function,names:=[],isGenerator:=false,isCoroutine:=false}
abbrev uU:Expr:=qaD (MX ((jq Jt).getD 0 (.Pass ⟨0,0,0,0⟩)))
def RO (ws:List (Str×V)):Sp:=λvs H Q _=>∃(D h p:Addr) (rs:qW) (R:Rs Str) (hs:List Str) (m:Nat×Str),ws=[(Str.ofString "labels",.ref D),(Str.ofString "heap",.ref h)]/\vs=[.ref p]/\qu rs/\rs.length<=14/\je H D rs R/\JU rs R/\jG H h rs hs/\H p=some (.tup (X6 m))/\m∈Js rs R hs/\∀H',qm H H'->Q (.int (cnt R (lf hs m):Nat)) H'
abbrev RL (PT f:Addr) (fd:FuncData):Sp:=λvs H Q E=>∃ws,vf H PT f z7 (N5 uU) (N4 uU) (Gs uU) fd ws/\RO ws vs H Q E
def qa1 (PT f:Addr) (fd:FuncData) (sp:Sp):Prop:=(∃(pm ctv:Value) (c':Addr) (cl:List (Str×Addr)),fd=zdB "<lambda>" z7 (N5 uU) (N4 uU) (Gs uU) cl pm (.ref c') ctv)/\sp=RL PT f fd
section
variable {P:Program} {w:World} {K:PySem.W.Frag} {mg:Str->Option Value} {base:Heap}
theorem qab:zN ["move","labels","heap"] ["move"] ["labels","heap"] (Gs uU):=⟨rfl,rfl,rfl,by decide+kernel,rfl,by decide+kernel,by decide+kernel,by decide+kernel,by decide+kernel⟩
theorem NL {PT f fC fL:Addr} {fd fdC fdL:FuncData} (G:Qv mg) (T:QE K mg) (hC:qY K mg "count_by" ZV ["labels","heap"] fC fdC) (hL:qY K mg "left_by" Yt ["heap","move"] fL fdL):ql P w K mg base qG 2 f fd ["move"] (RL PT f fd):=by
 have GC:ql P w K mg base qG 1 fC fdC ["labels","heap"] WR:=V2 hC.fn T
 have GL:ql P w K mg base qG 1 fL fdL ["heap","move"] zT:=YO hL.fn G
 refine Rq (PT:=PT) (qual:=z7) (ag:=N5 uU) (be:=N4 uU) (sc:=Gs uU) (fr:=["labels","heap"]) (sp:=RO) qab (λws vs H Q E z=>?_) (λc' cl A outer s H ws vs Q E hr z=>?_)
 . obtain⟨D,h,p,rs,R,hs,m,rfl,rfl,_⟩:=z
   exact⟨rfl,rfl⟩
 . obtain⟨D,h,p,rs,R,hs,m,rfl,rfl,good,le,lb,all,hh,hp,hm,q⟩:=z
   have hmm:=tX.mp hm
   refine⟨_,qH hC GC hr (by rfl) (qb (jv 1) (qb (qH hL GL hr (by rfl) (qb (jv 2) (qb (jv 0) qf))) qf)),?_⟩
   refine⟨_,rfl,_,rfl,_,rfl,h,p,hs,m,rfl,hh.at_,hp,(QG hmm.1).1,λl hl=>?_⟩
   have s1:=qk (o:=HO.lst ((hs.set m.1 m.2).map V.str)) hl
   refine⟨D,l,rs,R,lf hs m,rfl,le,lb.mono s1,all,⟨qd,by unfold lf;rw[zbB];exact hh.le,JK good hh.in_ hmm.1⟩,wR (of_decide_eq_true hmm.2),λH' s2=>q H' (s1.trans s2)⟩
theorem Rt {PT fC fL:Addr} {fdC fdL:FuncData} (G:Qv mg) (T:QE K mg) (hC:qY K mg "count_by" ZV ["labels","heap"] fC fdC) (hL:qY K mg "left_by" Yt ["heap","move"] fL fdL):∀f fd sp,qa1 PT f fd sp->ql P w K mg base qG 2 f fd ["move"] sp/\jP K fd ["move"] []:=by
 rintro f fd sp ⟨⟨pm,ctv,c',cl,rfl⟩,rfl⟩
 exact⟨NL G T hC hL,.all λus hl=>by obtain⟨_,rfl⟩:=Qq hl;rfl⟩
theorem Kk:qp p3 p3 (qh Jt):=⟨rfl,rfl,rfl,by decide+kernel,rfl,by decide+kernel,by decide+kernel⟩
theorem wy {f c PT CG fW fC fL:Addr} {fd fdW fdC fdL:FuncData} (F:jU K "winner_by" "winner_by" Jt f fd) (hc:fd.code=.ref c) (TM:XX mg base c PT) (B:QF mg) (G:Qv mg) (T:QE K mg) (hC:qY K mg "count_by" ZV ["labels","heap"] fC fdC) (hL:qY K mg "left_by" Yt ["heap","move"] fL fdL)
   (hW:qY K mg "winning_by" Xi p3 fW fdW) (GW:ql P w K mg base qG 11 fW fdW p3 (WN CG)):ql P w K mg base qG 12 f fd p3 (WM CG PT):=by
 have GM:=Rt (P:=P) (w:=w) (base:=base) (PT:=PT) G T hC hL
 refine F.okB hc Kk (λvs H Q E z=>?_) (λA outer s H vs Q E hr z=>?_)
 . obtain⟨g,D,h',rs,R,hs,rfl,_⟩:=z
   rfl
 . obtain⟨g,D,h',rs,R,hs,rfl,gr,good,le,lb,all,hh,ne,⟨tq,hP⟩,q⟩:=z
   refine⟨_,KM (fr:=[(Str.ofString "labels",1),(Str.ofString "heap",2)]) (λp hp=>?_) (λ_=>rfl) (qg (qw (GJ (C:=qa1 PT) rfl (by rfl) B.min (λf fd sp c=>⟨2,_,(GM f fd sp c).1,hr.mono (by decide),(GM f fd sp c).2⟩)
     (qH hW GW hr (by rfl) (qb (jv 0) (qb (jv 1) (qb (jv 2) qf)))) (GU (fr:=["labels","heap"]) (qual:=z7) TM rfl rfl rfl (by decide+kernel))))),?_⟩
   . simp only[t8,zdl,or_false]at hp
     rcases hp with rfl | rfl
     . exact⟨rfl,rfl⟩
     . exact⟨rfl,rfl⟩
   intro H0 s0 hca
   refine⟨_,rfl,_,rfl,_,rfl,g,D,h',rs,R,hs,rfl,gr.mono s0,good,le,lb.mono s0,all,hh.mono s0,λH1 L ps s1 hL hL1 mv=>?_⟩
   have hca1:=(hca [(Str.ofString "labels",.ref D),(Str.ofString "heap",.ref h')] (λp hp=>by
     simp only[t8,zdl,or_false]at hp
     rcases hp with rfl | rfl
     . exact⟨1,zaa,rfl⟩
     . exact⟨2,tU _ zaa,rfl⟩)).mono s1
   refine⟨⟨tq,s1 _ _ (s0 _ _ hP)⟩,_,rfl,hca1,λfk fdk H2 s2 nf clo=>?_⟩
   have s02:=(s0.trans s1).trans s2
   obtain⟨pm,ctv,c',cl,oc,efd,_⟩:=clo.ex
   refine⟨L,fk,ps.map V.ref,fdk,_,λi=>(((Js rs R hs)[i]?.map λm=>((cnt R (lf hs m):Nat):Int)).getD 0),λY=>qm H2 Y,rfl,rfl,⟨⟨pm,ctv,c',cl,efd⟩,rfl⟩,qm.refl _,λY sY=>.of (sY _ _ (s2 _ _ hL1)),by rw[tj,mv.1];exact ne,λi x Y hx sY=>?_,λi x Y hx hb sY=>?_⟩
   . rw[tI]at hx
     cases ep:ps[i]? with
     | none=>rw[ep]at hx;cases hx
     | some p=>
       rw[ep]at hx
       obtain rfl:=(tO.inj hx).symm
       have hi:i < (Js rs R hs).length:=by rw[<-mv.1];exact(tE.mp ep).1
       have em:(Js rs R hs)[i]?=some (Js rs R hs)[i]:=tH hi
       have hp:=mv.2 i p _ ep em
       refine⟨_,clo.mono (λb o u e=>sY _ _ e),D,h',p,rs,R,hs,(Js rs R hs)[i],rfl,rfl,good,le,lb.mono (s02.trans sY),all,hh.mono (s02.trans sY),(s2.trans sY) _ _ hp,zbI hi,λY' sY'=>⟨?_,sY.trans sY'⟩⟩
       dsimp only
       rw[em]
       rfl
   . rw[tI]at hx
     cases ep:ps[i]? with
     | none=>rw[ep]at hx;cases hx
     | some p=>
       rw[ep]at hx
       obtain rfl:=(tO.inj hx).symm
       have hi:i < (Js rs R hs).length:=by rw[<-mv.1];exact(tE.mp ep).1
       have em:(Js rs R hs)[i]?=some (Js rs R hs)[i]:=tH hi
       have hp:=mv.2 i p _ ep em
       refine q Y p _ (s02.trans sY) ((s2.trans sY) _ _ hp) ⟨i,em,λj mj ej=>?_⟩
       have hj:j < (ps.map V.ref).length:=by rw[tj,mv.1];exact(tE.mp ej).1
       have:=hb j hj
       dsimp only at this
       rw[em,ej]at this
       have this:((cnt R (lf hs (Js rs R hs)[i]):Nat):Int)<=((cnt R (lf hs mj):Nat):Int)/\(j < i->((cnt R (lf hs (Js rs R hs)[i]):Nat):Int) < ((cnt R (lf hs mj):Nat):Int)):=this
       exact⟨by omega,λc=>by have:=this.2 c;omega⟩
end
open PySem L2 PyProof.Rows MLab Rb
abbrev zj:Stmt:=top 55
abbrev WV:Stmt:=top 56
def GH (CG:Addr) (H:Hp) (g h:Addr) (rs:qW) (hs:List Str):Prop:=Qi CG H g rs/\qu rs/\rs.length<=14/\jG H h rs hs
theorem GH.mono {CG:Addr} {H H':Hp} {g h:Addr} {rs:qW} {hs:List Str} (x:GH CG H g h rs hs) (s:qm H H'):GH CG H' g h rs hs:=⟨x.1.mono s,x.2.1,x.2.2.1,x.2.2.2.mono s⟩
theorem V0 {rs:qW} (good:qu rs) {R:Rs Str} (all:JU rs R) {hs:List Str} (hi:∀z∈hs,∃r∈rs,r.1=z):∀z∈hs,Yv (wT rs R z):=λz hz=>by
 obtain⟨r,hr',e⟩:=hi z hz
 exact RF good (Yf (j7 good.nd) all) (tJ.mpr ⟨r,hr',e⟩)
def wL:Str:=Str.ofString "lost"
def wW:Str:=Str.ofString "won"
def wD:Str:=Str.ofString "drawn"
theorem W7 {rs:qW} {R:Rs Str} {hs:List Str}:oW rs R hs=wL\/oW rs R hs=wW\/oW rs R hs=wD:=by
 unfold oW
 cases Qy (hs.map (wT rs R)) with
 | num n=>
   show (if n=0 then (Str.ofString "lost") else Str.ofString "won")=_\/(if n=0 then (Str.ofString "lost") else Str.ofString "won")=_\/_
   split
   . exact .inl rfl
   . exact .inr (.inl rfl)
 | edl b=>
   show _\/(if b.testBit 0=true then (Str.ofString "won") else Str.ofString "drawn")=_\/(if b.testBit 0=true then (Str.ofString "won") else Str.ofString "drawn")=_
   split
   . exact .inr (.inl rfl)
   . exact .inr (.inr rfl)
theorem Y7:wL≠wW:=by decide+kernel
theorem vi:wL≠wD:=by decide+kernel
theorem Vv:wW≠wD:=by decide+kernel
section
variable {P:Program} {w:World} {K:PySem.W.Frag} {mg:Str->Option Value} {base:Heap}
def opn (rs:qW) (R:Rs Str) (n:Nat) (z:Str):Bool:=decide (qE R z=none/\n∉QB rs (qE R) z)
def Xe:Sp:=λvs H Q _=>∃(t:Addr) (rs:qW) (R:Rs Str) (z:Str) (n:Nat),vs=[.ref t,.int (n:Nat)]/\H t=some (.tup (Qb rs R z))/\(∀x∈QB rs (qE R) z,x < 16)/\n < 16/\∀H',qm H H'->Q (.bl (opn rs R n z)) H'
theorem xO:qp ["label","number"] ["label","number"] (qh zj):=⟨rfl,rfl,rfl,by decide+kernel,rfl,by decide+kernel,by decide+kernel⟩
theorem yr {f fN:Addr} {fd fdN:FuncData} (F:jU K "is_open_to" "is_open_to" zj f fd) (B:QF mg) (hN:qY K mg "numbers_in" ZS ["bits"] fN fdN):ql P w K mg base qG 2 f fd ["label","number"] Xe:=by
 have GN:ql P w K mg base qG 1 fN fdN ["bits"] Z7:=zu hN.fn B
 refine F.okJ xO (λvs H Q E h=>?_) (λcdv A outer s H vs Q E hr h=>?_)
 . obtain⟨t,rs,R,z,n,rfl,_⟩:=h
   rfl
 . obtain⟨t,rs,R,z,n,rfl,ht,sm,n16,q⟩:=h
   refine⟨_,qg (qw (Zn (jT jp (qM qU (jv 0) qi (λ_ _=>rfl)) qP (qB _)) (Yj (jT QU (jv 1) (qH hN GN hr (by rfl) (qb (qM qU (jv 0) qi (λ_ _=>rfl)) qf)) (by with_unfolding_all rfl))))),?_⟩
   unfold opn at q
   cases c:qE R z with
   | some m=>
     have el:Qb rs R z=[.str "number",.int (m:Nat),.int (QY R z:Nat)]:=by unfold Qb;rw[c]
     rw[el]at ht
     rw[c,decide_eq_false (λh=>(nomatch h.1))]at q
     refine⟨_,rfl,t,_,0,_,rfl,rfl,.of ht,rfl,rfl,_,rfl,qZ (by decide+kernel) ?_⟩
     exact q H λ_ _ h=>h
   | none=>
     have el:Qb rs R z=[.str "endless",.int (Rb.setN (QB rs (qE R) z):Nat)]:=by unfold Qb;rw[c]
     rw[el]at ht
     refine⟨_,rfl,t,_,0,_,rfl,rfl,.of ht,rfl,rfl,_,rfl,jk (by decide+kernel) ?_⟩
     have lt:Rb.setN (QB rs (qE R) z) < 65536:=Rb.setN_lt (m:=16) sm
     refine⟨_,rfl,_,rfl,t,_,1,_,rfl,rfl,.of ht,rfl,_,rfl,lt,λl hl=>?_⟩
     refine⟨l,_,rfl,.inl (.of qd),rfl,Zp _,?_⟩
     have:=q _ (qk (o:=HO.lst (Jq (Rb.memN (Rb.setN (QB rs (qE R) z)) 16))) hl)
     have e:(!Zo (.int (n:Nat)) (Jq (Rb.memN (Rb.setN (QB rs (qE R) z)) 16)))=decide (qE R z=none/\n∉QB rs (qE R) z):=by
       rw[Yk,c]
       by_cases h:n∈QB rs (qE R) z
       . rw[decide_eq_true (Rb.mem_memN.mpr ⟨n16,by rw[Rb.testBit_setN];exact decide_eq_true h⟩),decide_eq_false (λw=>w.2 h)]
         rfl
       . rw[decide_eq_false (λw=>h (by have:=(Rb.mem_memN.mp w).2;rw[Rb.testBit_setN]at this;exact of_decide_eq_true this)),decide_eq_true ⟨rfl,h⟩]
         rfl
     rw[<-e]at this
     exact this
end
def lst (rs:qW) (R:Rs Str) (z:Str):Nat:=Rb.lackN (QB rs (qE R) z)
def Wo (rs:qW) (R:Rs Str) (z:Str):List (Nat×Str):=((Qx rs z).filter (opn rs R (lst rs R z))).map λy=>(lst rs R z,y)
def vB (CG:Addr):Sp:=λvs H Q _=>∃(g D:Addr) (rs:qW) (R:Rs Str) (z:Str),vs=[.ref g,.ref D,.str z]/\Qi CG H g rs/\qu rs/\rs.length<=14/\je H D rs R/\XY (Qx rs) (·∈rs.map (·.1)) (qE R) (QY R)/\z∈rs.map (·.1)/\qE R z=none/\
 ∀H' L ts,qm H H'->H L=none->H' L=some (.lst (ts.map V.ref))->jF H' ts (Wo rs R z)->Q (.ref L) H'
theorem yE {ns ms:List Nat} (h:∀x,x∈ns↔x∈ms):Rb.lackN ns=Rb.lackN ms:=by
 have a:Rb.Lacks (Rb.lackN ns) ns:=Rb.lackI_lacks _
 exact Rb.lackN_eq ⟨λm=>a.1 ((h _).mpr m),λx hx=>(h x).mp (a.2 x hx)⟩
theorem XB {rs:qW} (g:qu rs) {R:Rs Str} (L:XY (Qx rs) (·∈rs.map (·.1)) (qE R) (QY R)) {z:Str} (hz:z∈rs.map (·.1)):∀x∈QB rs (qE R) z,x<=8:=λx hx=>by
 obtain⟨y,hy,ey⟩:=jx.mp hx
 exact Yb g L (L.cl hz hy) ey
theorem N2 {rs:qW} (g:qu rs) {R:Rs Str} (L:XY (Qx rs) (·∈rs.map (·.1)) (qE R) (QY R)) {z:Str} (hz:z∈rs.map (·.1)):lst rs R z < 16:=by
 have a:Rb.Lacks (lst rs R z) (QB rs (qE R) z):=Rb.lackI_lacks _
 rcases zbr (lst rs R z) 16 with c | c
 . exact c
 . have:=XB g L hz 9 (a.2 9 (by omega))
   omega
section
variable {P:Program} {w:World} {K:PySem.W.Frag} {mg:Str->Option Value} {base:Heap}
theorem vJ:qp ["ground","labels","name","least"] ["ground","labels","name"] (qh WV):=⟨rfl,rfl,rfl,by decide+kernel,rfl,by decide+kernel,by decide+kernel⟩
theorem wE {f fL fN fI CG:Addr} {fd fdL fdN fdI:FuncData} (F:jU K "open_roads" "open_roads" WV f fd) (B:QF mg) (G:Qv mg) (T:QE K mg) (M:GM K mg CG) (hL:qY K mg "lacking" Qp ["numbers"] fL fdL) (hN:qY K mg "numbers_in" ZS ["bits"] fN fdN) (hI:qY K mg "is_open_to" zj ["label","number"] fI fdI):ql P w K mg base qG 3 f fd ["ground","labels","name"] (vB CG):=by
 have GL:ql P w K mg base qG 1 fL fdL ["numbers"] (zU K):=XA hL.fn
 have GN:ql P w K mg base qG 1 fN fdN ["bits"] Z7:=zu hN.fn B
 have GI:ql P w K mg base qG 2 fI fdI ["label","number"] Xe:=yr hI.fn B hN
 obtain⟨fC,fdC,C⟩:=M.cls
 obtain⟨fR,fdR,hR⟩:=M.fr
 obtain⟨fA,fdA,hA⟩:=M.isn
 have GR:ql P w K mg base qG 2 fR fdR ["self","name"] (Zv CG):=Zi hR.fn C B G T hA
 refine F.okJ vJ (λvs H Q E h=>?_) (λcdv A outer s H vs Q E hr h=>?_)
 . obtain⟨g,D,rs,R,z,rfl,_⟩:=h
   rfl
 . obtain⟨g,D,rs,R,z,rfl,gr,good,le14,lb,L,hz,ez,q⟩:=h
   have hu:=jR hr
   have r1:qS 1 _:=hr.mono (by decide)
   refine⟨_,qe (qy (i:=3) vJ.nd rfl (Or.inr rfl) (qH hL GL r1 (by rfl) (qb (qH hN GN r1 (by rfl) (qb (qM qU (qV hu (jv 1) (jv 2) (λ_ _=>rfl)) qi (λ_ _=>rfl)) qf)) qf)))
     (qg (qw (j6 (N':=["end","least","labels"]) (ix:=[none,some 3,some 1]) (tt:=tB (Ze Xe [] E0 (jo (Z6 (q5 2) (q5 0)) (jo (q5 1) Jj)))) (te:=kM (jo (q5 1) (jo (q5 0) Jj))) rfl ⟨rfl,rfl,rfl,rfl,rfl⟩ (qI (Wu hR C.cl GR hr (jv 0) (qb (jv 2) qf))) (λC s2 H2 fp pins=>
       ⟨qv (i:=0) (show (["end","least","labels"]:List Str).Nodup by decide+kernel) rfl (Or.inl rfl),jJ (jZ (qH hI GI hr (by rfl) (qb (qV hu (jv 2) (jv 0) (λ_ _=>rfl)) (qb (jv 1) qf)))),j5 (qb (jv 1) (qb (jv 0) qf))⟩)))),?_⟩
   have gl:∀{G':Hp} {y:Str},je G' D rs R->y∈rs.map (·.1)->∃t,j1 G' D (.str y) (some (.ref t))/\G' t=some (.tup (Qb rs R y)):=λ{G' y} lb' hy=>by
     obtain⟨kvs,a,_,c⟩:=lb'.at_
     obtain⟨r,hr',rfl⟩:=tJ.mp hy
     obtain⟨t,u,v⟩:=c r hr'
     exact⟨t,by rw[<-u];exact j1.k (k:=(Sum.inr r.1:qL)) a,v⟩
   obtain⟨t,gt,ht⟩:=gl lb hz
   have el:Qb rs R z=[.str "endless",.int (Rb.setN (QB rs (qE R) z):Nat)]:=by unfold Qb;rw[ez]
   rw[el]at ht
   have sm8:=XB good L hz
   have lt:Rb.setN (QB rs (qE R) z) < 65536:=Rb.setN_lt (m:=16) λx hx=>by have:=sm8 x hx;omega
   refine⟨_,rfl,_,rfl,D,_,rfl,gt,t,_,1,_,rfl,rfl,.of ht,rfl,_,rfl,lt,λl hl=>?_⟩
   have s1:qm H (upd H l (.lst (Jq (Rb.memN (Rb.setN (QB rs (qE R) z)) 16)))):=qk hl
   have hl1:upd H l (.lst (Jq (Rb.memN (Rb.setN (QB rs (qE R) z)) 16))) l=some (.lst (Jq (Rb.memN (Rb.setN (QB rs (qE R) z)) 16))):=qd
   generalize upd H l (.lst (Jq (Rb.memN (Rb.setN (QB rs (qE R) z)) 16)))=H1 at s1 hl1
   have lm:(Rb.memN (Rb.setN (QB rs (qE R) z)) 16).length<=16:=by
     have h1:(Rb.memN (Rb.setN (QB rs (qE R) z)) 16).length<=(zac 16).length:=zao _ _
     rwa [zan]at h1
   have ele:Rb.lackN (Rb.memN (Rb.setN (QB rs (qE R) z)) 16)=lst rs R z:=yE λx=>by
     rw[Rb.mem_memN,Rb.testBit_setN,decide_eq_true_iff]
     exact⟨λh=>h.2,λh=>⟨by have:=sm8 x h;omega,h⟩⟩
   refine⟨l,_,rfl,.of hl1,by omega,λH2 s2=>?_⟩
   rw[ele]
   have s12:=s1.trans s2
   have l16:=N2 good L hz
   obtain⟨dx,fs,hg,e1,e2⟩:=(gr.mono s12).ins
   obtain⟨r,hr',er⟩:=tJ.mp hz
   refine⟨_,rfl,g,dx,fs,rfl,hg,e2,_,rfl,g,rs,r,by rw[er];rfl,gr.mono s12,hr',good.nm r hr',λH3 le s3 hle=>?_⟩
   have s4:qm H (upd H3 le (.lst ((jH rs r).map V.str))):=s12.trans (s3.trans (qk hle))
   have hl4:upd H3 le (.lst ((jH rs r).map V.str)) le=some (.lst ((jH rs r).map V.str)):=qd
   generalize upd H3 le (.lst ((jH rs r).map V.str))=H4 at s4 hl4
   have egz:Qx rs z=jH rs r:=by rw[<-er,QV good.nd hr']
   have lr:=z6 (rs:=rs) r
   refine⟨le,rfl,⟨_,.of hl4⟩,λW hW=>?_⟩
   refine jW (K:=K) (a:=le) (xs:=(jH rs r).map V.str) (λj σ'' G5=>∃(v0:Option V) (ts:List Addr),σ''=[v0,some (.int (lst rs R z:Nat)),some (.ref D)]/\qm H4 G5/\G5 W=some (.lst (ts.map V.ref))/\jF G5 ts ((((jH rs r).take j).filter (opn rs R (lst rs R z))).map λy=>(lst rs R z,y)))
     ⟨none,[],rfl,qk hW,qd,jF.nil _⟩ (λj σ'' G5 _ ⟨_,_,_,s,_⟩=>.of (s _ _ hl4)) ?_ ?_
   . rintro j x σ'' G5 hx ⟨v0,ts,rfl,s5,hW5,mv⟩
     obtain⟨y,ey,hy,rfl⟩:=Qa hx
     have hj:=(tE.mp ey).1
     have hyN:y∈rs.map (·.1):=L.cl hz (by rw[egz];exact hy)
     have sA:=s4.trans s5
     obtain⟨ty,gy,hty⟩:=gl (lb.mono sA) hyN
     refine⟨_,rfl,_,rfl,D,_,rfl,gy,_,rfl,ty,rs,R,y,lst rs R z,rfl,hty,λx hx=>by have:=XB good L hyN x hx;omega,l16,λG6 s6=>⟨_,rfl,?_⟩⟩
     have etk:((jH rs r).take (j+1)).filter (opn rs R (lst rs R z))=((jH rs r).take j).filter (opn rs R (lst rs R z))++[y].filter (opn rs R (lst rs R z)):=by rw[tR,ey,zaO];rfl
     rw[etk]
     cases c:opn rs R (lst rs R z) y with
     | false=>
       refine jB ⟨_,ts,rfl,s5.trans s6,s6 _ _ hW5,?_⟩
       have e0:[y].filter (opn rs R (lst rs R z))=[]:=by simp [c]
       rw[e0,zax]
       exact mv.mono s6
     | true=>
       have lts:=mv.1
       rw[tj]at lts
       have lf:=zao (opn rs R (lst rs R z)) ((jH rs r).take j)
       rw[tS]at lf
       refine Qe ⟨_,rfl,_,rfl,by show 2<=sizeLine;decide,λt6 ht6=>?_⟩
       refine⟨_,qr (s6 _ _ hW5) ht6,by rw[tj];exact qo (by omega),_,ts++[t6],rfl,qm.upd (s5.trans (s6.trans (qk ht6))) hW,by rw[tN];exact qd,?_⟩
       have e0:[y].filter (opn rs R (lst rs R z))=[y]:=by simp [c]
       rw[e0,tN]
       have nt:t6≠W:=λq=>by rw[q,s6 _ _ hW5]at ht6;cases ht6
       refine jF.app ⟨mv.1,λk p' m a b=>?_⟩ (jF.one (by rw[qj nt];exact qd))
       have z1:=s6 _ _ (mv.2 k p' m a b)
       have n1:p'≠W:=λq=>by rw[q,s6 _ _ hW5]at z1;cases z1
       rw[qj n1]
       exact qr z1 ht6
   . rintro σ'' G5 ⟨v0,ts,rfl,s5,hW5,mv⟩
     rw[tj,tK (tF _),<-egz]at mv
     exact q G5 W ts (s4.trans s5) (jt s4 hW) hW5 mv
end
open PySem L2 PyProof.Rows MLab Rb
abbrev Wj:Stmt:=top 84
abbrev Wm:Stmt:=top 86
theorem kD {K:PySem.W.Frag} {H:Hp}:∀ns:List Nat,DVs K H (Jq ns) (ns.map λn=>PyData.int (n:Nat))
 | []=>.nil
 | n::ns=>.cons (.int _) (kD ns)
theorem kt:∀ns:List Nat,PyData.canLayAll0 (ns.map λn=>PyData.int (n:Nat))=true
 | []=>rfl
 | n::ns=>by
   rw[tW,PyData.canLayAll0,kt ns]
   rfl
theorem Wz:∀ns:List Nat,PyData.depthAll (ns.map λn=>PyData.int (n:Nat))<=1
 | []=>by decide
 | n::ns=>by
   rw[tW]
   have:=Wz ns
   simp only[PyData.depthAll,PyData.depth]
   omega
theorem Kh (ns:List Nat):PySem.SeqAt.shaped (.list (ns.map λn=>PyData.int (n:Nat)))=true:=by
 unfold PySem.SeqAt.shaped
 rw[zau]
 refine⟨kt ns,decide_eq_true ?_⟩
 have:=Wz ns
 simp only[PyData.depth]
 omega
theorem Rk (ns:List Nat):PyData.eqv (.list (ns.map λn=>PyData.int (n:Nat))) (.list [])=decide (ns=[]):=by
 cases ns with
 | nil=>decide
 | cons n ns=>
   rw[tW,decide_eq_false (by simp)]
   simp [PyData.eqv,PyData.eqvAll]
def Z9:Sp:=λvs H Q _=>∃(l h:Addr) (ps:List Addr) (rs:qW) (hs:List Str),vs=[.ref l,.ref h]/\jO H l ps rs/\jG H h rs hs/\
 ∀H' lf qs,qm H H'->H lf=none->H' lf=some (.lst (qs.map V.ref))->jF H' qs (mvs rs hs hs.length)->Q (.ref lf) H'
def Xc:Sp:=λvs H Q _=>∃(D h:Addr) (rs:qW) (R:Rs Str) (hs:List Str),vs=[.ref D,.ref h]/\je H D rs R/\jG H h rs hs/\(∀z∈hs,Yv (wT rs R z))/\∀H',qm H H'->Q (.str (oW rs R hs)) H'
def Xd:Sp:=λvs H Q _=>∃(h p:Addr) (hs:List Str) (m:Nat×Str),vs=[.ref h,.ref p]/\H h=some (.lst (hs.map V.str))/\hs.length<=8/\H p=some (.tup (X6 m))/\m.1 < hs.length/\∀H' l,qm H H'->H l=none->H' l=some (.lst ((lf hs m).map V.str))->Q (.ref l) H'
def Qz (rs:qW) (R:Rs Str) (hs:List Str):List Nat:=Qf (hs.map (wT rs R))
theorem Ki (ws:List Rb.W):(Qf ws).length<=ws.length:=by unfold Qf;exact zaP _ _
def Qm (rs:qW) (R:Rs Str) (hs:List Str):Nat:=xorAll (Q8 (hs.map (wT rs R)))
theorem KQ {rs:qW} {R:Rs Str} {hs:List Str} (ok:∀z∈hs,Yv (wT rs R z)):oW rs R hs=(match Qz rs R hs with
   | []=>if Qm rs R hs=0 then wL else wW
   | [b]=>if b.testBit (Qm rs R hs)=true then wW else wD
   | _=>wD):=by
 unfold oW Qy Qz Qm
 have lt:xorAll (Q8 (hs.map (wT rs R))) < 16:=by
   have h1:=W8 (ws:=hs.map (wT rs R)) λu hu=>by
     obtain⟨z,hz,rfl⟩:=tJ.mp hu
     exact ok z hz
   have:∀(ns:List Nat) (b:Nat),b < 16->(∀x∈ns,x < 16)->ns.foldl (·^^^ ·) b < 16:=by
     intro ns
     induction ns with
     | nil=>intro b hb _;exact hb
     | cons a l ih=>
       intro b hb h
       exact ih _ (xor_lt (m:=4) hb (h a zaa)) λx hx=>h x (tU _ hx)
   exact this _ 0 (by decide) h1
 cases Qf (hs.map (wT rs R)) with
 | nil=>rfl
 | cons b l=>
   cases l with
   | nil=>
     show (if (turnN b (xorAll (Q8 (hs.map (wT rs R)))) 16).testBit 0=true then (Str.ofString "won") else Str.ofString "drawn")=_
     rw[Qn lt,zcC]
     rfl
   | cons c l=>
     show (if Nat.testBit 0 0=true then (Str.ofString "won") else Str.ofString "drawn")=wD
     exact if_neg (by decide)
section
variable {P:Program} {w:World} {K:PySem.W.Frag} {mg:Str->Option Value} {base:Heap}
abbrev nLM:List Str:=["_law_rows_here","_law_heap_here","_law_roads","_law_moves_here","_law_token","_law_name"]
abbrev RU:List Str:=["_law_rows_here","_law_heap_here"]
theorem xN:qp nLM RU (qh Zy):=⟨rfl,rfl,rfl,by decide+kernel,rfl,by decide+kernel,by decide+kernel⟩
abbrev NX:List Str:=["_law_place","_law_leads_here","_law_token","_law_roads","_law_name"]
theorem yo {f:Addr} {fd:FuncData} (F:jU K "_law_moves" "_law_moves" Zy f fd) (T:QE K mg) (hdi:mg "dict"=none):ql P w K mg base qG 1 f fd RU Z9:=by
 refine F.okJ xN (λvs H Q E h=>?_) (λcdv A outer s H vs Q E hr h=>?_)
 . obtain⟨l,h',ps,rs,hs,rfl,_⟩:=h
   rfl
 . obtain⟨l,h',ps,rs,hs,rfl,g,hh,q⟩:=h
   have hu:=jR hr
   refine⟨_,qe (qy (i:=2) xN.nd rfl (Or.inr rfl) (ju (XV rfl) (by rfl) hdi boot_dict (qb (jv 0) qf)))
     (qe (qy (i:=3) xN.nd rfl (Or.inl rfl) (jA qf))
     (qe (jd PassesOwn.never rfl (YS (by rfl) T.enu (qb (jv 1) qf)) (ZZ rfl (jD (qv (i:=4) xN.nd rfl (Or.inr rfl)) (jD (qv (i:=5) xN.nd rfl (Or.inr rfl)) J3)))
       (qg (jC (ZN zav zci zcj Yc (jv 3) (qb
         (j6 (N':=NX) (ix:=[none,none,some 4,some 2,some 5]) (g:=Mi K 2 (Uc (JN 0) (Uc (JN 1) Ml))) (tt:=Yo (zR (MC K false) (q5 0) (Z6 (q5 3) (q5 4)))) (te:=kM (jo (q5 2) (jo (q5 0) Jj))) rfl ⟨rfl,rfl,rfl,rfl,rfl⟩ (qI (jv 0)) (λC s2 H2 fp pins=>
           ⟨ZZ rfl (jD (qv (i:=0) (show NX.Nodup by decide+kernel) rfl (Or.inl rfl)) (jD (qv (i:=1) (show NX.Nodup by decide+kernel) rfl (Or.inl rfl)) J3)),jJ (qt JH (jv 0) (qV hu (jv 3) (jv 4) (λ_ _=>rfl)) (by with_unfolding_all rfl)),j5 (qb (jv 2) (qb (jv 0) qf))⟩)) qf)))))
     (qg (qw (jv 3))))),?_⟩
   obtain⟨qs,lq,hqs⟩:=W0 ps rs g.rows
   have le:=g.le
   refine⟨_,rfl,l,ps,ZY rs qs,rfl,.of g.at_,by rw[Zl lq,g.rows.1],λi a kv e1 e2=>?_,by rw[Zl lq];omega,λdd hdd=>?_⟩
   . obtain⟨r',q',f1,f2,rfl⟩:=V8 lq e2
     exact .of (hqs i a q' r' e1 f1 f2).1
   have nk:((ZY rs qs).map (·.1)).Nodup:=by
     rw[JL lq]
     exact JJ g.good.nd λa _ b _ e=>Sum.inr.inj e
   rw[Yd nk (λk _ m=>by simp at m),zds]
   have s1:qm H (upd H dd (.dK (ZY rs qs))):=qk hdd
   have hd1:upd H dd (.dK (ZY rs qs)) dd=some (.dK (ZY rs qs)):=qd
   generalize upd H dd (.dK (ZY rs qs))=H1 at s1 hd1
   refine⟨by show 0<=sizeLine;decide,λlf hlf=>?_⟩
   have hlf0:H lf=none:=jt s1 hlf
   have s2:qm H (upd H1 lf (.lst [])):=s1.trans (qk hlf)
   have hd2:=qr (o':=HO.lst []) hd1 hlf
   have hf2:upd H1 lf (.lst []) lf=some (.lst []):=qd
   generalize upd H1 lf (.lst [])=H2 at s2 hf2 hd2
   have nfd:lf≠dd:=λe=>by rw[e,hd2]at hf2;cases hf2
   refine⟨_,rfl,h',rfl,⟨_,.of (s2 _ _ hh.at_)⟩,?_⟩
   refine zF (K:=K) (a:=h') (xs:=hs.map V.str) (λi σ' G=>∃v4 v5 ms,σ'=[some (.ref l),some (.ref h'),some (.ref dd),some (.ref lf),v4,v5]/\qm H G/\G dd=some (.dK (ZY rs qs))/\G lf=some (.lst (ms.map V.ref))/\jF G ms (mvs rs hs i))
     ⟨_,_,[],rfl,s2,hd2,hf2,jF.nil _⟩ (λi σ' G _ ⟨_,_,_,_,s,_⟩=>.of (s _ _ hh.at_)) ?_ ?_
   . rintro i y σ' G p hy hp ⟨v4,v5,ms,rfl,sG,hdG,hfG,mv⟩
     obtain⟨z,ez,hz,rfl⟩:=Qa hy
     have hi:=(tE.mp ez).1
     have ezz:QP hs i=z:=by
       have:=Zs hi
       rw[ez]at this
       exact(tO.inj this).symm
     obtain⟨r,hr',er⟩:=hh.in_ z hz
     obtain⟨i0,hi0⟩:=zbc hr'
     obtain⟨q0,eq0,ekv⟩:=Vd lq hi0
     have hi0':=(tE.mp hi0).1
     have hq0:=(hqs i0 _ q0 r (tH (by rw[g.rows.1];exact hi0')) hi0 eq0).2
     refine⟨p,_,rfl,.of qd,rfl,_,_,rfl,_,_,rfl,rfl,?_⟩
     have sP:qm G (upd G p (.tup [.int (i:Nat),.str z])):=qk hp
     have sGP:=sG.trans sP
     have hdP:=sP _ _ hdG
     have hfP:=sP _ _ hfG
     have mvP:=mv.mono sP
     generalize upd G p (.tup [.int (i:Nat),.str z])=G1 at sP sGP hdP hfP mvP
     refine⟨_,rfl,.inl ⟨rfl,_,.of hfP⟩,_,rfl,l,rfl,⟨_,.of (sGP _ _ g.at_)⟩,λW hW=>?_⟩
     have sW:qm G1 (upd G1 W (.lst [])):=qk hW
     refine jW (K:=K) (a:=l) (xs:=ps.map V.ref) (λj σ'' G'=>∃v0 v1 ns,σ''=[v0,v1,some (.int (i:Nat)),some (.ref dd),some (.str z)]/\qm G1 G'/\G' W=some (.lst (ns.map V.ref))/\
         jF G' ns ((((rs.map (·.1)).take j).filter λy=>Zo (.str y) (r.2.map V.str)).map λy=>(i,y)))
       ⟨none,none,[],rfl,sW,qd,jF.nil _⟩ (λj σ'' G' _ ⟨_,_,_,_,s,_⟩=>.of ((sGP.trans s) _ _ g.at_)) ?_ ?_
     . rintro j y σ'' G' hy ⟨v0,v1,ns,rfl,sG',hW',mv'⟩
       obtain⟨p',qq,r',rfl,er',hrr,ea,eb⟩:=(g.rows.mono (sGP.trans sG')).item hy
       have en:(rs.map (·.1))[j]?=some r'.1:=by rw[tI,er'];rfl
       have gd:=j1.k (k:=(Sum.inr r.1:qL)) (sG' _ _ hdP)
       rw[vj nk ekv]at gd
       have gd:j1 G' dd (.str z) (some (.ref q0)):=er▸gd
       have lenM:(ns.map V.ref).length < sizeLine:=by
         rw[tj,mv'.1,tj]
         have h1:=zao (λy=>Zo (.str y) (r.2.map V.str)) ((rs.map (·.1)).take j)
         rw[tS,tj]at h1
         exact qo (by omega)
       refine⟨p',_,rfl,.of ea,rfl,_,_,rfl,_,_,rfl,rfl,?_⟩
       refine⟨_,rfl,_,rfl,_,rfl,dd,_,rfl,gd,q0,_,rfl,.inr (.of ((sGP.trans sG') _ _ hq0)),rfl,ZB _,_,rfl,?_⟩
       have et:((rs.map (·.1)).take (j+1)).filter (λy=>Zo (.str y) (r.2.map V.str))=((rs.map (·.1)).take j).filter (λy=>Zo (.str y) (r.2.map V.str))++if Zo (.str r'.1) (r.2.map V.str)=true then [r'.1] else []:=by
         rw[tR,en,zaO]
         congr 1
         cases c:Zo (.str r'.1) (r.2.map V.str)
         . simp [c]
         . simp [c]
       rw[et]
       show if Zo (.str r'.1) (r.2.map V.str)=true then _ else _
       cases ci:Zo (.str r'.1) (r.2.map V.str) with
       | false=>
         refine jB ⟨_,_,ns,rfl,sG',hW',?_⟩
         rw[if_neg tP,zax]
         exact mv'
       | true=>
         refine Qe ⟨_,rfl,_,rfl,by show 2<=sizeLine;decide,λt ht=>?_⟩
         refine⟨_,qr hW' ht,lenM,_,_,ns++[t],rfl,qm.upd (sG'.trans (qk ht)) hW,by rw[qd,tN];rfl,?_⟩
         rw[if_pos rfl,tN]
         have nt:t≠W:=λz=>by rw[z,hW']at ht;cases ht
         refine jF.app ⟨mv'.1,λk p' m a b=>?_⟩ (jF.one (by rw[qj nt];exact qd))
         have z:=mv'.2 k p' m a b
         have n1:p'≠W:=λe=>by rw[e,hW']at z;cases z
         rw[qj n1]
         exact qr z ht
     . rintro σ'' G' ⟨v0,v1,ns,rfl,sG',hW',mv'⟩
       have e0:(rs.map (·.1)).take (ps.map V.ref).length=rs.map (·.1):=tK (by rw[tj,tj,g.rows.1];exact tF _)
       rw[e0]at mv'
       have mlen:=JZ g.good le hh.in_ i (zak hi)
       have l8:=hh.le
       have hf':=sG' _ _ hfP
       refine⟨lf,W,_,_,rfl,rfl,hf',hW',?_,_,_,ms++ns,rfl,qm.upd (sGP.trans sG') hlf0,by rw[qj (Ne.symm nfd)];exact sG' _ _ hdP,by rw[qd,tN],?_⟩
       . rw[tj,tj,mv.1,mv'.1,tj]
         have h1:=zao (λy=>Zo (.str y) (r.2.map V.str)) (rs.map (·.1))
         rw[tj]at h1
         exact zak (qo (by omega))
       . rw[XC,ezz,mvT,<-er,QV g.good.nd hr']
         have up:∀{k:Addr} {m:Nat×Str},G' k=some (.tup (X6 m))->upd G' lf (.lst (ms.map V.ref++ns.map V.ref)) k=some (.tup (X6 m)):=λ{k m} e=>by
           rw[qj (λz=>by rw[z,hf']at e;cases e)];exact e
         exact jF.app ⟨mvP.1,λk p' m a b=>up (sG' _ _ (mvP.2 k p' m a b))⟩ ⟨mv'.1,λk p' m a b=>up (mv'.2 k p' m a b)⟩
   . rintro σ' G ⟨v4,v5,ms,rfl,sG,hdG,hfG,mv⟩
     rw[tj]at mv
     exact⟨_,rfl,q G lf ms sG hlf0 hfG mv⟩
abbrev nLO:List Str:=["_law_labels_here","_law_heap_here","_law_total","_law_sets","_law_name"]
theorem xM:qp nLO ["_law_labels_here","_law_heap_here"] (qh Wj):=⟨rfl,rfl,rfl,by decide+kernel,rfl,by decide+kernel,by decide+kernel⟩
theorem K4 {f:Addr} {fd:FuncData} (F:jU K "_law_outcome" "_law_outcome" Wj f fd) (B:QF mg):ql P w K mg base qG 1 f fd ["_law_labels_here","_law_heap_here"] Xc:=by
 refine F.okJ xM (λvs H Q E z=>?_) (λcdv A outer s H vs Q E hr z=>?_)
 . obtain⟨D,h,rs,R,hs,rfl,_⟩:=z
   rfl
 . obtain⟨D,h,rs,R,hs,rfl,lb,hh,ok,q⟩:=z
   have hu:=jR hr
   refine⟨_,qe (qy (i:=2) xM.nd rfl (Or.inl rfl) qi)
     (qe (qy (i:=3) xM.nd rfl (Or.inl rfl) (jA qf))
     (qe (jd PassesOwn.never rfl (qI (jv 1)) (qv (i:=4) xM.nd rfl (Or.inl rfl))
       (qg (qO (qt jp (qM qU (qV hu (jv 0) (jv 4) (λ_ _=>rfl)) qi (λ_ _=>rfl)) qP (qB _))
         (qg (qy (i:=2) xM.nd rfl (Or.inl rfl) (qT W5 (jv 2) (qM qU (qV hu (jv 0) (jv 4) (λ_ _=>rfl)) qi (λ_ _=>rfl)))))
         (qg (jC (ZN zav zbl zbm QZ (jv 3) (qb (qM qU (qV hu (jv 0) (jv 4) (λ_ _=>rfl)) qi (λ_ _=>rfl)) qf)))))))
     (qe (qO (qt (wu hr.units) (jv 3) (jA qf) (qB _)) (qg (qw (qM jz (jA (qb qP (qb qP qf))) (ju ZC (by rfl) B.int boot_int (qb (jT jp (jv 2) qi (qB _)) qf)) (λ_ _=>rfl)))) qC)
     (qe (qO (JW.pt (Qd (qt jp (qF qR (by rfl) B.len boot_len (qb (jv 3) qf)) qi (qB _)) (jS (qt jp (qT ww (qT wn (qM jz (jv 3) qi (λ_ _=>rfl)) (jv 2)) qi) qi (qB _))))) (qg (qw qP)) qC)
     (qg (qw qP)))))),?_⟩
   refine⟨by show 0<=sizeLine;decide,λls hls=>?_⟩
   refine⟨_,rfl,h,rfl,⟨_,.of ((qk hls) _ _ hh.at_)⟩,?_⟩
   refine jw (K:=K) (a:=h) (xs:=hs.map V.str) (λi σ G=>∃v,σ=[some (.ref D),some (.ref h),some (.int (Qm rs R (hs.take i):Nat)),some (.ref ls),v]/\qm H G/\G ls=some (.lst (Jq (Qz rs R (hs.take i))))) ⟨none,rfl,qk hls,qd⟩ (λi σ G _ ⟨_,_,s,_⟩=>.of (s _ _ hh.at_)) ?_ ?_
   . rintro i y σ G hy ⟨v,rfl,sG,hG⟩
     obtain⟨z,ez,hz,rfl⟩:=Qa hy
     obtain⟨kvs,hD,_,hv⟩:=(lb.mono sG).at_
     obtain⟨r,hr',er⟩:=hh.in_ z hz
     obtain⟨t,et,ht⟩:=hv r hr'
     rw[er]at et ht
     have gd:j1 G D (.str z) (some (.ref t)):=by rw[<-et];exact j1.k (k:=(Sum.inr z:qL)) hD
     have etk:(hs.take (i+1)).map (wT rs R)=(hs.take i).map (wT rs R)++[wT rs R z]:=by rw[tR,ez,tN];rfl
     unfold Qb at ht
     cases en:qE R z with
     | some n=>
       rw[en]at ht
       have e1:Qm rs R (hs.take (i+1))=Qm rs R (hs.take i)^^^n:=by unfold Qm;rw[etk,z9,zP en,xorAll_snoc]
       have e2:Qz rs R (hs.take (i+1))=Qz rs R (hs.take i):=by unfold Qz;rw[etk,zW,zP en,zax]
       refine⟨_,rfl,_,rfl,D,_,rfl,gd,t,_,0,_,rfl,rfl,.of ht,rfl,rfl,_,rfl,jk (decide_eq_true rfl) ⟨_,rfl,_,rfl,_,rfl,D,_,rfl,gd,t,_,1,_,rfl,rfl,.of ht,rfl,_,_,rfl,rfl,some (.str z),?_,sG,by rw[e2];exact hG⟩⟩
       rw[e1,<-bx]
       rfl
     | none=>
       rw[en]at ht
       have e1:Qm rs R (hs.take (i+1))=Qm rs R (hs.take i):=by unfold Qm;rw[etk,z9,Zd en,zax]
       have e2:Qz rs R (hs.take (i+1))=Qz rs R (hs.take i)++[setN (QB rs (qE R) z)]:=by unfold Qz;rw[etk,zW,Zd en]
       have lS:(Jq (Qz rs R (hs.take i))).length < sizeLine:=by
         rw[Jp]
         have h1:=Ki ((hs.take i).map (wT rs R))
         rw[tj,tS]at h1
         unfold Qz
         have:=hh.le
         exact qo (by omega)
       refine⟨_,rfl,_,rfl,D,_,rfl,gd,t,_,0,_,rfl,rfl,.of ht,rfl,rfl,_,rfl,qZ (by decide+kernel) ⟨_,rfl,.inl ⟨rfl,_,.of hG⟩,_,rfl,_,rfl,D,_,rfl,gd,t,_,1,_,rfl,rfl,.of ht,rfl,ls,_,_,rfl,rfl,hG,lS,some (.str z),?_,qm.upd sG hls,?_⟩⟩
       . rw[e1]
         rfl
       . rw[qd,e2,XL]
   . rintro σ G ⟨v,rfl,sG,hG⟩
     rw[tj,tK (tF _)]at hG ⊢
     have eo:=KQ ok
     refine⟨_,rfl,by show 0<=sizeLine;decide,λl0 f0=>?_⟩
     have s0:=qk (o:=HO.lst []) f0
     refine⟨.list ((Qz rs R hs).map λn=>PyData.int (n:Nat)),.list [],.lst (.of (s0 _ _ hG)) (kD _),.lst (.of qd) .nil,Kh _,by decide+kernel,_,rfl,?_⟩
     have s01:=sG.trans s0
     have hG0:=s0 _ _ hG
     generalize upd G l0 (.lst [])=G0 at s0 s01 hG0
     rw[Rk]
     cases c:Qz rs R hs with
     | nil=>
       rw[c]at eo
       refine jk (decide_eq_true rfl) ⟨by show 2<=sizeLine;decide,λl1 f1=>?_⟩
       refine⟨_,rfl,rfl,.inr ⟨_,rfl,l1,_,_,.str (oW rs R hs),rfl,rfl,.of qd,?_,q _ (s01.trans (qk f1))⟩⟩
       rw[eo]
       by_cases c2:Qm rs R hs=0
       . rw[c2]
         rfl
       . have:decide (V.int ((Qm rs R hs:Nat):Int)=V.int 0)=false:=decide_eq_false λz=>c2 (by have:=V.int.inj z;omega)
         rw[this]
         show _=some (V.str (if Qm rs R hs=0 then wL else wW))
         rw[if_neg c2]
         rfl
     | cons b l=>
       rw[c]at eo hG0
       refine qZ (decide_eq_false (by simp)) ⟨_,rfl,ls,_,rfl,.inl (.of hG0),rfl,_,rfl,?_⟩
       cases l with
       | nil=>
         refine jk (decide_eq_true rfl) ⟨_,rfl,ls,_,0,.int (b:Nat),rfl,rfl,.of hG0,Y4 (j:=0) rfl,_,rfl,_,_,rfl,rfl,by omega,_,_,rfl,rfl,rfl,_,rfl,?_⟩
         have e:decide (V.int (Builtin.bitAnd ((b:Int) / 2^ ((Qm rs R hs:Nat):Int).toNat) 1)=V.int 1)=b.testBit (Qm rs R hs):=by
           rw[vH]
           cases b.testBit (Qm rs R hs)<;>decide
         rw[e]
         cases c3:b.testBit (Qm rs R hs) with
         | true=>
           have q:=q _ s01
           rw[eo]at q
           have q:Q (.str (if b.testBit (Qm rs R hs)=true then wW else wD)) G0:=q
           rw[if_pos c3]at q
           exact Qe q
         | false=>
           have q:=q _ s01
           rw[eo]at q
           have q:Q (.str (if b.testBit (Qm rs R hs)=true then wW else wD)) G0:=q
           rw[if_neg (by rw[c3];exact tP)]at q
           exact jB q
       | cons b' l=>
         have q:=q _ s01
         rw[eo]at q
         exact qZ (decide_eq_false λz=>by have:=V.int.inj z;rw[Jp]at this;simp at this;omega) q
abbrev KO:List Str:=["_law_heap_here","_law_move"]
theorem qbr:qp KO KO (qh Wm):=⟨rfl,rfl,rfl,by decide+kernel,rfl,by decide+kernel,by decide+kernel⟩
theorem K5 {f:Addr} {fd:FuncData} (F:jU K "_law_after" "_law_after" Wm f fd):ql P w K mg base qG 1 f fd KO Xd:=by
 refine F.okJ qbr (λvs H Q E z=>?_) (λcdv A outer s H vs Q E hr z=>?_)
 . obtain⟨h,p,hs,m,rfl,_⟩:=z
   rfl
 . obtain⟨h,p,hs,m,rfl,hh,l8,hp,hm,q⟩:=z
   refine⟨_,qg (qw (qT vV (qT vV (Zm WT (jv 0) zC (zB (qM qU (jv 1) qi (λ_ _=>rfl)))) (jA (qb (qM qU (jv 1) qi (λ_ _=>rfl)) qf))) (Zm WT (jv 0) (zB (qT QM (qM qU (jv 1) qi (λ_ _=>rfl)) qi)) zC))),?_⟩
   refine⟨_,rfl,_,rfl,p,_,0,.int (m.1:Nat),rfl,rfl,.of hp,rfl,_,rfl,h,_,rfl,.of hh,λp1 f1=>?_⟩
   have c1:X9 (hs.map V.str) none (some ((m.1:Nat):Int))=(hs.take m.1).map V.str:=by
     unfold X9
     rw[HT.sIx_none,HT.sIx_nat,tj,zcJ (by omega),zdz,zdQ,List.map_take]
   have c2:X9 (hs.map V.str) (some ((m.1:Nat)+1:Int)) none=(hs.drop (m.1+1)).map V.str:=by
     unfold X9
     rw[HT.sIx_none,show ((m.1:Nat)+1:Int)=((m.1+1:Nat):Int) by omega,HT.sIx_nat,tj,zcJ (by omega),List.map_drop,tK (by rw[zdg,tj];omega)]
   rw[c1]
   have s1:=qk (o:=HO.lst ((hs.take m.1).map V.str)) f1
   have h1:upd H p1 (HO.lst ((hs.take m.1).map V.str)) p1=some (.lst ((hs.take m.1).map V.str)):=qd
   generalize upd H p1 (HO.lst ((hs.take m.1).map V.str))=H1 at s1 h1
   refine⟨_,rfl,p,_,1,.str m.2,rfl,rfl,.of (s1 _ _ hp),rfl,by show 1<=sizeLine;decide,λp2 f2=>?_⟩
   have s2:=qk (o:=HO.lst [V.str m.2]) f2
   have h2:upd H1 p2 (HO.lst [V.str m.2]) p2=some (.lst [V.str m.2]):=qd
   generalize upd H1 p2 (HO.lst [V.str m.2])=H2 at s2 h2
   refine⟨p1,p2,_,_,rfl,rfl,.of (s2 _ _ h1),.of h2,zak (qo (by rw[tj,tS];show _+1<=_;omega)),λp3 f3=>?_⟩
   have s3:=qk (o:=HO.lst ((hs.take m.1).map V.str++[V.str m.2])) f3
   have h3:upd H2 p3 (HO.lst ((hs.take m.1).map V.str++[V.str m.2])) p3=some (.lst ((hs.take m.1).map V.str++[V.str m.2])):=qd
   generalize upd H2 p3 (HO.lst ((hs.take m.1).map V.str++[V.str m.2]))=H3 at s3 h3
   have s13:=(s1.trans s2).trans s3
   refine⟨_,rfl,_,rfl,p,_,0,.int (m.1:Nat),rfl,rfl,.of (s13 _ _ hp),rfl,_,_,rfl,rfl,_,rfl,h,_,rfl,.of (s13 _ _ hh),λp4 f4=>?_⟩
   dsimp only
   rw[c2]
   have s4:=qk (o:=HO.lst ((hs.drop (m.1+1)).map V.str)) f4
   have h4:upd H3 p4 (HO.lst ((hs.drop (m.1+1)).map V.str)) p4=some (.lst ((hs.drop (m.1+1)).map V.str)):=qd
   generalize upd H3 p4 (HO.lst ((hs.drop (m.1+1)).map V.str))=H4 at s4 h4
   refine⟨p3,p4,_,_,rfl,rfl,.of (s4 _ _ h3),.of h4,zak (qo (by rw[tL,tj,tj,tS,zdg];show _+1+_<=_;omega)),λp5 f5=>?_⟩
   refine q _ p5 ((s13.trans s4).trans (qk f5)) (jt (s13.trans s4) f5) ?_
   rw[qd]
   have:=UV hm m.2
   rw[show lf hs (m.1,m.2)=lf hs m from rfl]at this
   rw[<-this,tN,tN]
   rfl
end
open PySem L2 PyProof.Rows MLab Rb
abbrev Zx:Stmt:=top 2
abbrev xS:Stmt:=top 66
abbrev VM:Stmt:=top 67
abbrev Ky:Stmt:=top 68
abbrev xT:Stmt:=top 69
abbrev kW:Stmt:=top 70
abbrev Qo:Stmt:=top 71
theorem jF.pts {H:Hp}:∀{qs:List Addr} {ms:List (Nat×Str)},jF H qs ms->∃xs:List (Addr×(Nat×Str)),xs.map (·.1)=qs/\xs.map (·.2)=ms/\∀x∈xs,H x.1=some (.tup (X6 x.2)):=by
 intro qs
 induction qs with
 | nil=>
   intro ms h
   cases ms with
   | nil=>exact⟨[],rfl,rfl,λ_ z=>by cases z⟩
   | cons o os=>cases h.1
 | cons t ts ih=>
   intro ms h
   cases ms with
   | nil=>cases h.1
   | cons o os=>
     obtain⟨xs,e1,e2,hx⟩:=ih (ms:=os) h.tail
     refine⟨(t,o)::xs,by rw[tW,e1],by rw[tW,e2],λx hx'=>?_⟩
     rcases t8.mp hx' with rfl | hx'
     . exact h.2 0 t o rfl rfl
     . exact hx x hx'
theorem zw {rs:qW} {b:List Str} (h:∀z∈b,∃r∈rs,r.1=z):∀z∈b,z∈rs.map (·.1):=λz hz=>let ⟨r,hr,e⟩:=h z hz;tJ.mpr ⟨r,hr,e⟩
theorem YQ {rs:qW} (good:qu rs) {R:Rs Str} (all:JU rs R) {hs:List Str} (hi:∀z∈hs,∃r∈rs,r.1=z):oW rs R hs=wL↔YF (mv (jY rs)) hs:=by
 have L:=Yf (j7 good.nd) all
 rcases Xx good L (zw hi) with ⟨l,e⟩ | ⟨w,e⟩ | ⟨n,_,e⟩
 . exact⟨λ_=>l,λ_=>e⟩
 . exact⟨λz=>absurd (e.symm.trans z).symm Y7,λl=>absurd w (zx l)⟩
 . exact⟨λz=>absurd (e.symm.trans z).symm vi,λl=>absurd l n⟩
theorem Na {rs:qW} (good:qu rs) {R:Rs Str} (all:JU rs R) {hs:List Str} (hi:∀z∈hs,∃r∈rs,r.1=z) (w:Won (mv (jY rs)) hs):oW rs R hs=wW:=by
 have L:=Yf (j7 good.nd) all
 rcases Xx good L (zw hi) with ⟨l,e⟩ | ⟨_,e⟩ | ⟨_,n,e⟩
 . exact absurd w (zx l)
 . exact e
 . exact absurd w n
def Vj (R:Rs Str) (hs:List Str):List Str:=hs.filter λz=>(qE R z).isNone
def Uv (rs:qW) (R:Rs Str) (hs:List Str) (s:Nat) (m:Nat×Str):Bool:=decide (qE R (QP hs m.1)≠none/\qE R m.2≠none/\Qm rs R (lf hs m)=s)
def kC (rs:qW) (R:Rs Str) (hs:List Str) (m:Nat×Str):Prop:=∃z0,(Vj R hs).head?=some z0/\((1 < (Vj R hs).length/\m.1=hs.idxOf z0/\(Vj R (Qx rs z0)).head?=some m.2)\/
 ((Vj R hs).length<=1/\∃y,(Wo rs R z0).head?=some (lst rs R z0,y)/\((Qm rs R hs=lst rs R z0/\m=(hs.idxOf z0,y))\/(Qm rs R hs≠lst rs R z0/\((mvs rs hs hs.length).filter (Uv rs R hs (lst rs R z0))).head?=some m))))
theorem QX (rs:qW) (R:Rs Str) (hs:List Str):Qm rs R hs=jK (nums (qE R) hs):=by
 unfold Qm
 rw[Ya,Jk]
section
variable {α:Type} {G:α->List α} {num:α->Option Nat}
theorem Wy {h:List α} (e:ends num h=1) (no:∀x∈h,num x=none->∀w∈G x,num w≠some (jK (nums num h))):MLab.Drawn G num h:=by
 obtain⟨p,x,q,rfl,ex⟩:=QK.mp (show 0 < ends num h by omega)
 refine .inl ⟨p,x,q,rfl,ex,?_,?_⟩
 . rw[jf ex]at e
   omega
 . have:=no x (by simp) ex
   rw[Q7 ex]at this
   exact this
theorem Y0 {h:List α} (e:ends num h=0) {z:α} (hz:z∈h):num z≠none:=λn=>by
 obtain⟨p,q,e'⟩:=zcp hz
 have:=QK.mpr ⟨p,z,q,e',n⟩
 omega
theorem yc {h:List α} (e:ends num h=1) (d:MLab.Drawn G num h):∀x∈h,num x=none->∀w∈G x,num w≠some (jK (nums num h)):=by
 rcases d with ⟨p,y,q,rfl,ey,he,no⟩ | two
 . intro x hx ex
   rw[Q7 ey]
   have:x=y:=by
     rcases tV.mp hx with c | c
     . exact absurd ex (Y0 he (zai _ c))
     . rcases t8.mp c with c | c
       . exact c
       . exact absurd ex (Y0 he (tM _ c))
   rw[this]
   exact no
 . omega
end
theorem XE {hs:List Str} {i:Nat} (h:i < hs.length) (y:Str):∃p q,hs=p++QP hs i::q/\lf hs (i,y)=p++y::q/\p.length=i:=by
 have ez:QP hs i=hs[i]:=by unfold QP;simp [h]
 refine⟨hs.take i,hs.drop (i+1),?_,?_,by rw[tS];omega⟩
 . rw[ez,List.getElem_cons_drop,zdv]
 . rw[<-UV h y]
   simp
theorem zH {rs:qW} (good:qu rs) {R:Rs Str} (all:JU rs R) {hs:List Str} (hi:∀z∈hs,∃r∈rs,r.1=z):oW rs R hs=wD↔MLab.Drawn (jY rs) (qE R) hs:=by
 have L:=Yf (j7 good.nd) all
 have LL:=Gu good L
 have nm:=zw hi
 rcases Xx good L nm with ⟨l,e⟩ | ⟨w,e⟩ | ⟨n,v,e⟩
 . refine⟨λz=>absurd (e.symm.trans z) vi,λd=>?_⟩
   have z:=(Q9 LL nm).mp l
   rcases d with ⟨p,x,q,rfl,ex,_,_⟩ | two
   . have:=z.1
     rw[jf ex]at this
     omega
   . have:=z.1
     omega
 . exact⟨λz=>absurd (e.symm.trans z) Vv,λd=>absurd d ((WL LL nm).mp w).1⟩
 . refine⟨λ_=>Classical.byContradiction λnd=>v ((WL LL nm).mpr ⟨nd,λz=>n ((Q9 LL nm).mpr z)⟩),λ_=>e⟩
theorem zG (R:Rs Str) (hs:List Str):(Vj R hs).length=ends (qE R) hs:=rfl
theorem Xy {rs:qW} {R:Rs Str} {z y:Str} {n:Nat} (h:(Wo rs R z).head?=some (n,y)):n=lst rs R z/\y∈Qx rs z/\qE R y=none/\lst rs R z∉QB rs (qE R) y:=by
 have hm:=zaR h
 unfold Wo at hm
 obtain⟨y',hy',e⟩:=tJ.mp hm
 obtain⟨h1,h2⟩:=tX.mp hy'
 have e1:=(Prod.mk.inj e).1
 have e2:=(Prod.mk.inj e).2
 subst e2
 unfold opn at h2
 have h3:=of_decide_eq_true h2
 exact⟨e1.symm,h1,h3.1,h3.2⟩
section
variable {rs:qW} {R:Rs Str} {hs:List Str}
theorem Rn (good:qu rs) (all:JU rs R) (hi:∀z∈hs,∃r∈rs,r.1=z) (dr:oW rs R hs=wD) {m:Nat×Str} (h:kC rs R hs m):m∈mvs rs hs hs.length/\oW rs R (lf hs m)=wD:=by
 have L:=Yf (j7 good.nd) all
 have nm:=zw hi
 have d:=(zH good all hi).mp dr
 obtain⟨z0,e0,cs⟩:=h
 have z0m:=zaR e0
 unfold Vj at z0m
 obtain⟨z0h,z0e⟩:=tX.mp z0m
 have z0n:qE R z0=none:=by simpa using z0e
 have il:hs.idxOf z0 < hs.length:=zdf.mpr z0h
 have iz:QP hs (hs.idxOf z0)=z0:=by unfold QP;simp [il]
 have inm:∀{i:Nat} {y:Str},i < hs.length->y∈Qx rs (QP hs i)->(i,y)∈mvs rs hs hs.length:=λ{i y} h1 h2=>by
   unfold mvs
   exact zcH.mpr ⟨i,zaG.mpr h1,tJ.mpr ⟨y,h2,rfl⟩⟩
 have fin:∀{m},m∈mvs rs hs hs.length->MLab.Drawn (jY rs) (qE R) (lf hs m)->m∈mvs rs hs hs.length/\oW rs R (lf hs m)=wD:=λhm d=>⟨hm,(zH good all (JK good hi hm)).mpr d⟩
 have lsz:∀w∈jY rs z0,qE R w≠some (lst rs R z0):=λw hw ew=>by
   have a:Rb.Lacks (lst rs R z0) (QB rs (qE R) z0):=Rb.lackI_lacks _
   exact a.1 (jx.mpr ⟨w,(qK good (nm z0 z0h)).mp hw,ew⟩)
 rcases cs with ⟨two,e1,e2⟩ | ⟨one,y,ey,⟨et,rfl⟩ | ⟨nt,em⟩⟩
 . have ym:=zaR e2
   unfold Vj at ym
   obtain⟨yg,ye⟩:=tX.mp ym
   have yn:qE R m.2=none:=by simpa using ye
   have hm:(m.1,m.2)∈mvs rs hs hs.length:=inm (by rw[e1];exact il) (by rw[e1,iz];exact yg)
   refine fin hm (.inr ?_)
   obtain⟨p,q,eh,el,_⟩:=XE il m.2
   rw[iz]at eh
   have:lf hs m=p++m.2::q:=by rw[<-el,<-e1]
   rw[this,jf yn]
   rw[zG,eh,jf z0n]at two
   omega
 . obtain⟨_,yg,yn,yl⟩:=Xy ey
   have hm:(hs.idxOf z0,y)∈mvs rs hs hs.length:=inm il (by rw[iz];exact yg)
   refine fin hm ?_
   obtain⟨p,q,eh,el,_⟩:=XE il y
   rw[iz]at eh
   rw[zG,eh,jf z0n]at one
   have ee:ends (qE R) (lf hs (hs.idxOf z0,y))=1:=by rw[el,jf yn];omega
   refine Wy ee λx hx ex w hw ew=>?_
   rw[QX,eh,Q7 z0n]at et
   rw[el,Q7 yn,et]at ew
   have xy:x=y:=by
     rw[el]at hx
     have z:ends (qE R) (p++q)=0:=by omega
     rcases tV.mp hx with c | c
     . exact absurd ex (Y0 z (zai _ c))
     . rcases t8.mp c with c | c
       . exact c
       . exact absurd ex (Y0 z (tM _ c))
   subst xy
   have xr:x∈rs.map (·.1):=L.cl (nm z0 z0h) yg
   exact yl (jx.mpr ⟨w,(qK good xr).mp hw,ew⟩)
 . have mm:=zaR em
   obtain⟨hm,hk⟩:=tX.mp mm
   unfold Uv at hk
   obtain⟨k1,k2,k3⟩:=of_decide_eq_true hk
   refine fin hm ?_
   obtain⟨p,q,eh,el,_⟩:=XE (QG hm).1 m.2
   obtain⟨n1,e1⟩:=zby.mp k1
   obtain⟨n2,e2⟩:=zby.mp k2
   have el':lf hs m=p++m.2::q:=el
   have one':ends (qE R) hs=1:=by
     have:0 < (Vj R hs).length:=zaD (zaR e0)
     rw[zG]at this one
     omega
   have ee:ends (qE R) (lf hs m)=1:=by
     rw[eh,ja e1]at one'
     rw[el',ja e2]
     exact one'
   refine Wy ee λx hx ex w hw ew=>?_
   rw[<-QX,k3]at ew
   have xz:x=z0:=by
     have xh:x∈hs:=by
       rw[el']at hx
       rw[eh]
       rcases tV.mp hx with c | c
       . exact zai _ c
       . rcases t8.mp c with c | c
         . rw[c,e2]at ex;cases ex
         . exact tM _ (tU _ c)
     have xe:x∈Vj R hs:=tX.mpr ⟨xh,by rw[ex];rfl⟩
     have ze:=zaR e0
     rw[<-zG]at one'
     obtain⟨a,ea⟩:=List.length_eq_one_iff.mp one'
     rw[ea]at xe ze
     rw[zae.mp xe,zae.mp ze]
   subst xz
   exact lsz w hw ew
theorem YW {α:Type} {l:List α} (h:0 < l.length):∃x,l.head?=some x:=by
 cases l with
 | nil=>cases h
 | cons x l=>exact⟨x,rfl⟩
theorem Ro (good:qu rs) (all:JU rs R) (hi:∀z∈hs,∃r∈rs,r.1=z) (dr:oW rs R hs=wD):∃m,kC rs R hs m:=by
 have L:=Yf (j7 good.nd) all
 have nm:=zw hi
 have d:=(zH good all hi).mp dr
 have pos:0 < ends (qE R) hs:=by
   rcases d with ⟨p,x,q,e,ex,_⟩ | two
   . exact QK.mpr ⟨p,x,q,e,ex⟩
   . omega
 obtain⟨z0,e0⟩:=YW (l:=Vj R hs) pos
 have z0m:=zaR e0
 unfold Vj at z0m
 obtain⟨z0h,z0e⟩:=tX.mp z0m
 have z0n:qE R z0=none:=by simpa using z0e
 by_cases two:1 < (Vj R hs).length
 . obtain⟨_,_,_,y,hy,ey,_⟩:=lack L (nm z0 z0h) z0n
   obtain⟨y',e'⟩:=YW (l:=Vj R (Qx rs z0)) (zaD (tX.mpr ⟨hy,by rw[ey];rfl⟩))
   exact⟨(hs.idxOf z0,y'),z0,e0,.inl ⟨two,rfl,e'⟩⟩
 . have a:Rb.Lacks (lst rs R z0) (QB rs (qE R) z0):=Rb.lackI_lacks _
   obtain⟨y,hy,ey,ny⟩:=L.e (m:=lst rs R z0) (nm z0 z0h) z0n (λj hj=>jx.mp (a.2 j hj)) λy hy e=>a.1 (jx.mpr ⟨y,hy,e⟩)
   have hop:(lst rs R z0,y)∈Wo rs R z0:=by
     unfold Wo
     refine tJ.mpr ⟨y,tX.mpr ⟨hy,?_⟩,rfl⟩
     unfold opn
     exact decide_eq_true ⟨ey,λh=>let ⟨z,hz,e⟩:=jx.mp h;ny z hz e⟩
   obtain⟨⟨k,y'⟩,e'⟩:=YW (zaD hop)
   obtain⟨rfl,_⟩:=Xy e'
   by_cases et:Qm rs R hs=lst rs R z0
   . exact⟨_,z0,e0,.inr ⟨by omega,y',e',.inl ⟨et,rfl⟩⟩⟩
   . have one':ends (qE R) hs=1:=by
       rw[zG]at two
       omega
     have no:=yc one' d z0 z0h z0n
     have lt:lst rs R z0 < jK (nums (qE R) hs):=by
       rw[<-QX rs R hs]
       rcases zaC (lst rs R z0) (Qm rs R hs) with c | c | c
       . exact c
       . exact absurd c.symm et
       . obtain⟨w,hw,ew⟩:=jx.mp (a.2 _ c)
         rw[QX]at ew
         exact absurd ew (no w ((qK good (nm z0 z0h)).mpr hw))
     obtain⟨p,x,y2,q,eh,hy2,⟨n1,n2,e1,e2⟩,ex,_⟩:=Z4 L nm lt
     have ez:QP hs p.length=x:=by unfold QP;rw[eh];simp
     have el:lf hs (p.length,y2)=p++y2::q:=by unfold lf;rw[eh];simp
     have hm:(p.length,y2)∈(mvs rs hs hs.length).filter (Uv rs R hs (lst rs R z0)):=by
       refine tX.mpr ⟨?_,?_⟩
       . unfold mvs
         exact zcH.mpr ⟨p.length,zaG.mpr (by rw[eh];simp),tJ.mpr ⟨y2,by rw[ez];exact hy2,rfl⟩⟩
       . unfold Uv
         refine decide_eq_true ⟨?_,?_,?_⟩
         . rw[ez,e1];exact λz=>nomatch z
         . rw[e2];exact λz=>nomatch z
         . rw[QX,el];exact ex
     obtain⟨m,em⟩:=YW (zaD hm)
     exact⟨m,z0,e0,.inr ⟨by omega,y',e',.inr ⟨et,em⟩⟩⟩
end
section
variable {P:Program} {w:World} {K:PySem.W.Frag} {mg:Str->Option Value} {base:Heap}
def VE (K:PySem.W.Frag):Sp:=λvs H Q _=>∃(a:Addr) (ns:List Nat),vs=[.ref a]/\SqL K H a (Jq ns)/\Q (.int (Rb.xorAll ns:Nat)) H
theorem zc:qp ["numbers","total","number"] ["numbers"] (qh Zx):=⟨rfl,rfl,rfl,by decide+kernel,rfl,by decide+kernel,by decide+kernel⟩
theorem yf {f:Addr} {fd:FuncData} (F:jU K "summed" "summed" Zx f fd):ql P w K mg base qG 1 f fd ["numbers"] (VE K):=by
 refine F.okJ zc (λvs H Q E h=>?_) (λcdv A outer s H vs Q E hr h=>?_)
 . obtain⟨a,ns,rfl,_⟩:=h
   rfl
 . obtain⟨a,ns,rfl,hS,q⟩:=h
   refine⟨_,qe (qy (i:=1) zc.nd rfl (Or.inl rfl) qi)
     (qe (jd PassesOwn.never rfl (qI (jv 0)) (qv (i:=2) zc.nd rfl (Or.inl rfl)) (qg (qy (i:=1) zc.nd rfl (Or.inl rfl) (qT W5 (jv 1) (jv 2)))))
     (qg (qw (jv 1)))),?_⟩
   refine⟨_,rfl,a,rfl,⟨_,hS⟩,?_⟩
   refine jw (K:=K) (a:=a) (xs:=Jq ns) (λi σ H'=>∃v,σ=[some (.ref a),some (.int ((Rb.xorAll (ns.take i):Nat):Int)),v]/\H'=H) ⟨none,rfl,rfl⟩ (λi σ H' _ ⟨_,_,e⟩=>e▸hS) ?_ ?_
   . rintro i x σ H' hx ⟨v,rfl,rfl⟩
     obtain⟨n,hn,rfl⟩:=YV hx
     have e:((Rb.xorAll (ns.take (i+1)):Nat):Int)=Builtin.bitXor (Rb.xorAll (ns.take i):Nat) (n:Nat):=by rw[bx,Zu hn,Rb.xorAll_snoc]
     refine⟨_,rfl,_,rfl,_,_,rfl,rfl,some (.int n),?_,rfl⟩
     rw[e]
     rfl
   . rintro σ H' ⟨v,rfl,rfl⟩
     refine⟨_,rfl,?_⟩
     rw[Jp,tK (tF _)]
     exact q
end
def xC:Sp:=λvs H Q _=>∃(D p:Addr) (rs:qW) (R:Rs Str) (hs:List Str),vs=[.ref D,.ref p]/\je H D rs R/\H p=some (.lst (hs.map V.str))/\(∀z∈hs,∃r∈rs,r.1=z)/\hs.length<=100/\∀H' L,qm H H'->H L=none->H' L=some (.lst ((Vj R hs).map V.str))->Q (.ref L) H'
def UE:Sp:=λvs H Q _=>∃(D h:Addr) (rs:qW) (R:Rs Str) (hs:List Str),vs=[.ref D,.ref h]/\je H D rs R/\jG H h rs hs/\∀H',qm H H'->Q (.int (Qm rs R hs:Nat)) H'
def xw:Sp:=λvs H Q _=>∃(D h p:Addr) (rs:qW) (R:Rs Str) (hs:List Str) (m:Nat×Str) (s:Nat),vs=[.ref D,.ref h,.ref p,.int (s:Nat)]/\qu rs/\je H D rs R/\jG H h rs hs/\H p=some (.tup (X6 m))/\m∈mvs rs hs hs.length/\∀H',qm H H'->Q (.bl (Uv rs R hs s m)) H'
def xD (CG:Addr):Sp:=λvs H Q _=>∃(g D h:Addr) (rs:qW) (R:Rs Str) (hs:List Str),vs=[.ref g,.ref D,.ref h]/\GH CG H g h rs hs/\je H D rs R/\JU rs R/\oW rs R hs=wD/\∀H' p m,qm H H'->H' p=some (.tup (X6 m))->kC rs R hs m->Q (.ref p) H'
theorem Y3 {x:V} {xs:List V}:Um (x::xs) 0=some x:=by
 obtain⟨v,e1,e2⟩:=atI_get (xs:=x::xs) (r:=0) (by omega) (by rw[zat];omega)
 rw[e1]
 exact e2.symm
theorem Y1 {α:Type} {l:List α} {x:α} (h:l.head?=some x):∃tl,l=x::tl:=by
 cases l with
 | nil=>cases h
 | cons y tl=>exact⟨tl,by rw[tO.inj h]⟩
theorem UX {H:Hp} {D:Addr} {rs:qW} {R:Rs Str} (lb:je H D rs R) {z:Str} (hz:∃r∈rs,r.1=z):∃t,j1 H D (.str z) (some (.ref t))/\H t=some (.tup (Qb rs R z)):=by
 obtain⟨kvs,hDk,_,hv⟩:=lb.at_
 obtain⟨r,hr',er⟩:=hz
 obtain⟨t,et,ht⟩:=hv r hr'
 rw[er]at et ht
 exact⟨t,by rw[<-et];exact j1.k (k:=(Sum.inr z:qL)) hDk,ht⟩
section
variable {P:Program} {w:World} {K:PySem.W.Frag} {mg:Str->Option Value} {base:Heap}
theorem qae:qp ["labels","places"] ["labels","places"] (qh xS):=⟨rfl,rfl,rfl,by decide+kernel,rfl,by decide+kernel,by decide+kernel⟩
theorem wQ {f:Addr} {fd:FuncData} (F:jU K "endless_in" "endless_in" xS f fd):ql P w K mg base qG 1 f fd ["labels","places"] xC:=by
 refine F.okJ qae (λvs H Q E z=>?_) (λcdv A outer s H vs Q E hr z=>?_)
 . obtain⟨D,p,rs,R,hs,rfl,_⟩:=z
   rfl
 . obtain⟨D,p,rs,R,hs,rfl,lb,hp,hi,l100,q⟩:=z
   have hu:=jR hr
   refine⟨_,qg (qw (j6 (N':=["place","labels"]) (ix:=[none,some 0]) (tt:=Yo (zR rEq (zR (zo K) (Z6 (q5 1) (q5 0)) (tC (.int 0))) (tC (.str (Str.ofString "endless"))))) (te:=q5 0) rfl ⟨rfl,rfl,rfl,rfl,rfl⟩ (qI (jv 1)) (λC s2 H2 fp pins=>
       ⟨qv (i:=0) (show (["place","labels"]:List Str).Nodup by decide+kernel) rfl (Or.inl rfl),jJ (qt jp (qM qU (qV hu (jv 1) (jv 0) (λ_ _=>rfl)) qi (λ_ _=>rfl)) qP (qB _)),jv 0⟩))),?_⟩
   refine⟨_,rfl,p,rfl,⟨_,.of hp⟩,λW hW=>?_⟩
   refine Jf (K:=K) (a:=p) (xs:=hs) (enc:=V.str) (out:=λz=>if (qE R z).isNone=true then some (V.str z) else none) (rest:=[some (.ref D)]) hW hp (qo (by omega)) (λz hz X sX Rr hR=>?_) (λz hz v ev X sX Rr hR=>?_) (λH8 s8 hW8=>?_)
   . obtain⟨t,gd,ht⟩:=UX (lb.mono sX) (hi z hz)
     have r:=hR X (qm.refl X)
     unfold Qb at ht
     cases en:qE R z with
     | some m=>
       rw[en]at ht r
       refine⟨_,rfl,_,rfl,D,_,rfl,gd,t,_,0,_,rfl,rfl,.of ht,rfl,rfl,_,rfl,?_⟩
       have e:decide (V.str (Str.ofString "number")=V.str (Str.ofString "endless"))=false:=by decide+kernel
       exact e▸r
     | none=>
       rw[en]at ht r
       exact⟨_,rfl,_,rfl,D,_,rfl,gd,t,_,0,_,rfl,rfl,.of ht,rfl,rfl,_,rfl,r⟩
   . have ev':v=.str z:=by
       cases en:qE R z with
       | some m=>rw[en]at ev;cases ev
       | none=>rw[en]at ev;exact(tO.inj ev).symm
     subst ev'
     exact⟨_,rfl,hR X (qm.refl X)⟩
   . rw[ZA]at hW8
     exact q H8 W s8 hW hW8
theorem Nr:qp ["labels","heap"] ["labels","heap"] (qh VM):=⟨rfl,rfl,rfl,by decide+kernel,rfl,by decide+kernel,by decide+kernel⟩
theorem vW {f fS:Addr} {fd fdS:FuncData} (F:jU K "numbers_sum" "numbers_sum" VM f fd) (hS:qY K mg "summed" Zx ["numbers"] fS fdS):ql P w K mg base qG 2 f fd ["labels","heap"] UE:=by
 have GS:ql P w K mg base qG 1 fS fdS ["numbers"] (VE K):=yf hS.fn
 refine F.okJ Nr (λvs H Q E z=>?_) (λcdv A outer s H vs Q E hr z=>?_)
 . obtain⟨D,h,rs,R,hs,rfl,_⟩:=z
   rfl
 . obtain⟨D,h,rs,R,hs,rfl,lb,hh,q⟩:=z
   have hu:=jR hr
   refine⟨_,qg (qw (qH hS GS hr (by rfl) (qb (j6 (N':=["place","labels"]) (ix:=[none,some 0]) (tt:=Yo (zR rEq (zR (zo K) (Z6 (q5 1) (q5 0)) (tC (.int 0))) (tC (.str (Str.ofString "number"))))) (te:=zR (zo K) (Z6 (q5 1) (q5 0)) (tC (.int 1))) rfl ⟨rfl,rfl,rfl,rfl,rfl⟩ (qI (jv 1)) (λC s2 H2 fp pins=>
       ⟨qv (i:=0) (show (["place","labels"]:List Str).Nodup by decide+kernel) rfl (Or.inl rfl),jJ (qt jp (qM qU (qV hu (jv 1) (jv 0) (λ_ _=>rfl)) qi (λ_ _=>rfl)) qP (qB _)),qM qU (qV hu (jv 1) (jv 0) (λ_ _=>rfl)) qi (λ_ _=>rfl)⟩)) qf))),?_⟩
   refine⟨_,rfl,h,rfl,⟨_,.of hh.at_⟩,λW hW=>?_⟩
   refine Jf (K:=K) (a:=h) (xs:=hs) (enc:=V.str) (out:=λz=>(qE R z).map λn=>V.int (n:Nat)) (rest:=[some (.ref D)]) hW hh.at_ (qo (zag hh.le (by decide))) (λz hz X sX Rr hR=>?_) (λz hz v ev X sX Rr hR=>?_) (λH8 s8 hW8=>?_)
   . obtain⟨t,gd,ht⟩:=UX (lb.mono sX) (hh.in_ z hz)
     have r:=hR X (qm.refl X)
     unfold Qb at ht
     cases en:qE R z with
     | some m=>
       rw[en]at ht r
       exact⟨_,rfl,_,rfl,D,_,rfl,gd,t,_,0,_,rfl,rfl,.of ht,rfl,rfl,_,rfl,r⟩
     | none=>
       rw[en]at ht r
       refine⟨_,rfl,_,rfl,D,_,rfl,gd,t,_,0,_,rfl,rfl,.of ht,rfl,rfl,_,rfl,?_⟩
       have e:decide (V.str (Str.ofString "endless")=V.str (Str.ofString "number"))=false:=by decide+kernel
       exact e▸r
   . obtain⟨t,gd,ht⟩:=UX (lb.mono sX) (hh.in_ z hz)
     unfold Qb at ht
     cases en:qE R z with
     | some m=>
       rw[en]at ht ev
       obtain rfl:=(tO.inj ev).symm
       exact⟨_,rfl,_,rfl,D,_,rfl,gd,t,_,1,_,rfl,rfl,.of ht,rfl,hR X (qm.refl X)⟩
     | none=>rw[en]at ev;cases ev
   . have e:hs.filterMap (λz=>(qE R z).map λn=>V.int (n:Nat))=Jq (nums (qE R) hs):=by
       unfold Jq nums
       rw[zdL]
     rw[e]at hW8
     refine⟨W,nums (qE R) hs,rfl,.of hW8,?_⟩
     have:=q H8 s8
     rw[QX,<-Jk]at this
     exact this
abbrev pMk:List Str:=["labels","heap","move","sought"]
theorem M9:qp pMk pMk (qh Ky):=⟨rfl,rfl,rfl,by decide+kernel,rfl,by decide+kernel,by decide+kernel⟩
theorem NK {f fE fN fL fS:Addr} {fd fdE fdN fdL fdS:FuncData} (F:jU K "makes_sum" "makes_sum" Ky f fd) (B:QF mg) (G:Qv mg) (hE:qY K mg "endless_in" xS ["labels","places"] fE fdE) (hN:qY K mg "numbers_sum" VM ["labels","heap"] fN fdN) (hL:qY K mg "left_by" Yt ["heap","move"] fL fdL) (hS:qY K mg "summed" Zx ["numbers"] fS fdS):ql P w K mg base qG 3 f fd pMk xw:=by
 have GE:ql P w K mg base qG 1 fE fdE ["labels","places"] xC:=wQ hE.fn
 have GN:ql P w K mg base qG 2 fN fdN ["labels","heap"] UE:=vW hN.fn hS
 have GL:ql P w K mg base qG 1 fL fdL ["heap","move"] zT:=YO hL.fn G
 refine F.okJ M9 (λvs H Q E z=>?_) (λcdv A outer s H vs Q E hr z=>?_)
 . obtain⟨D,h,p,rs,R,hs,m,s,rfl,_⟩:=z
   rfl
 . obtain⟨D,h,p,rs,R,hs,m,sg,rfl,good,lb,hh,hp,hm,q⟩:=z
   have r1:qS 1 _:=hr.mono (by decide)
   have r2:qS 2 _:=hr
   refine⟨_,qe (qO (qt zr (qF qR (by rfl) B.len boot_len (qb (qH hE GE r1 (by rfl) (qb (jv 0) (qb (jA (qb (qM jz (jv 1) (qM qU (jv 2) (qi) (λ_ _=>rfl)) (λ_ _=>rfl)) (qb (qM qU (jv 2) (qi) (λ_ _=>rfl)) qf))) qf))) qf)) (qi) (qB _)) (qg (qw Qg)) qC)
     (qg (qw (jT jp (qH hN GN r2 (by rfl) (qb (jv 0) (qb (qH hL GL r1 (by rfl) (qb (jv 1) (qb (jv 2) qf))) qf))) (jv 3) (qB _)))),?_⟩
   have lt:=(QG hm).1
   have zin:∃r∈rs,r.1=QP hs m.1:=hh.in_ _ (Zr lt)
   have yin:∃r∈rs,r.1=m.2:=JK good hh.in_ hm m.2 (by unfold lf;exact List.mem_set lt _)
   have ea:Um (hs.map V.str) ((m.1:Nat):Int)=some (.str (QP hs m.1)):=by
     obtain⟨v,e1,e2⟩:=atI_get (xs:=hs.map V.str) (r:=((m.1:Nat):Int)) (by omega) (by rw[tj];omega)
     rw[e1]
     rw[tI,zaL]at e2
     have:hs[m.1]?=some (QP hs m.1):=by unfold QP;rw[tH lt,zas,tH lt];rfl
     rw[this]at e2
     exact e2.symm
   refine⟨_,rfl,_,rfl,_,rfl,p,_,0,.int (m.1:Nat),rfl,rfl,.of hp,rfl,h,_,((m.1:Nat):Int),_,rfl,rfl,.of hh.at_,ea,_,rfl,p,_,1,.str m.2,rfl,rfl,.of hp,rfl,by show 2<=sizeLine;decide,λlp flp=>?_⟩
   have s1:=qk (o:=HO.lst [V.str (QP hs m.1),.str m.2]) flp
   have y1:upd H lp (HO.lst [V.str (QP hs m.1),.str m.2]) lp=some (.lst [V.str (QP hs m.1),.str m.2]):=qd
   generalize upd H lp (HO.lst [V.str (QP hs m.1),.str m.2])=H1 at s1 y1
   refine⟨D,lp,rs,R,[QP hs m.1,m.2],rfl,lb.mono s1,y1,λz hz=>?_,by show 2<=100;decide,λH2 L s2 nL hL=>⟨L,_,rfl,.inl (.of hL),_,_,rfl,rfl,_,rfl,?_⟩⟩
   . rcases t8.mp hz with e | e
     . rw[e];exact zin
     . rw[zae.mp e];exact yin
   have s12:=s1.trans s2
   by_cases c:qE R (QP hs m.1)≠none/\qE R m.2≠none
   . have e0:Vj R [QP hs m.1,m.2]=[]:=by
       unfold Vj
       obtain⟨n1,e1⟩:=zby.mp c.1
       obtain⟨n2,e2⟩:=zby.mp c.2
       simp [e1,e2]
     rw[e0]
     refine qZ (by decide) ⟨_,rfl,_,rfl,_,rfl,h,p,hs,m,rfl,s12 _ _ hh.at_,s12 _ _ hp,lt,λl hl=>?_⟩
     have s3:=qk (o:=HO.lst ((hs.set m.1 m.2).map V.str)) hl
     refine⟨D,l,rs,R,lf hs m,rfl,(lb.mono s12).mono s3,⟨qd,by unfold lf;rw[zbB];exact hh.le,JK good hh.in_ hm⟩,λH4 s4=>⟨_,rfl,rfl,?_⟩⟩
     have r:=q H4 ((s12.trans s3).trans s4)
     have e:Uv rs R hs sg m=decide (V.int (Qm rs R (lf hs m):Nat)=V.int (sg:Nat)):=by
       unfold Uv
       by_cases k:Qm rs R (lf hs m)=sg
       . rw[decide_eq_true ⟨c.1,c.2,k⟩,decide_eq_true (by rw[k])]
       . rw[decide_eq_false (λz=>k z.2.2),decide_eq_false λz=>k (by have:=V.int.inj z;omega)]
     rw[e]at r
     exact r
   . have e0:0 < (Vj R [QP hs m.1,m.2]).length:=by
       rw[zbF]
       intro z
       unfold Vj at z
       rw[zdn]at z
       refine c ⟨λe=>z (QP hs m.1) (by simp) (by rw[e];rfl),λe=>z m.2 (by simp) (by rw[e];rfl)⟩
     refine jk (decide_eq_true (by rw[tj];omega)) ?_
     have r:=q H2 s12
     have e:Uv rs R hs sg m=false:=by
       unfold Uv
       exact decide_eq_false λz=>c ⟨z.1,z.2.1⟩
     rw[e]at r
     exact r
abbrev nDB:List Str:=["ground","labels","heap","endless","place","token","road"]
theorem xQ:qp nDB p3 (qh xT):=⟨rfl,rfl,rfl,by decide+kernel,rfl,by decide+kernel,by decide+kernel⟩
structure MA (K:PySem.W.Frag) (mg:Str->Option Value):Prop where
 sm:∃f fd,qY K mg "summed" Zx ["numbers"] f fd
 io:∃f fd,qY K mg "is_open_to" zj ["label","number"] f fd
 os:∃f fd,qY K mg "open_roads" WV ["ground","labels","name"] f fd
 ei:∃f fd,qY K mg "endless_in" xS ["labels","places"] f fd
 ns:∃f fd,qY K mg "numbers_sum" VM ["labels","heap"] f fd
 ms:∃f fd,qY K mg "makes_sum" Ky pMk f fd
theorem NP {f CG:Addr} {fd:FuncData} (F:jU K "drawer_by" "drawer_by" xT f fd) (h:WF K mg) (B:QF mg) (G:Qv mg) (T:QE K mg) (M:GM K mg CG) (Y:RD K mg) (O:yZ K mg) (V1:uS K mg) (D1:MA K mg):ql P w K mg base qG 5 f fd p3 (xD CG):=by
 obtain⟨fS,fdS,hS⟩:=D1.sm
 obtain⟨fI,fdI,hI⟩:=D1.io
 obtain⟨fO,fdO,hO⟩:=D1.os
 obtain⟨fE,fdE,hE⟩:=D1.ei
 obtain⟨fN,fdN,hN⟩:=D1.ns
 obtain⟨fK,fdK,hK⟩:=D1.ms
 obtain⟨fL,fdL,hL⟩:=V1.lb
 obtain⟨fM,fdM,hM⟩:=V1.mo
 obtain⟨fP,fdP,hP⟩:=O.place
 obtain⟨fH,fdH,hH⟩:=O.heap
 obtain⟨fk,fdk,hk⟩:=Y.lack
 obtain⟨fC,fdC,C⟩:=M.cls
 obtain⟨fR,fdR,hR⟩:=M.fr
 obtain⟨fn,fdn,hn⟩:=M.isn
 have GE:ql P w K mg base qG 1 fE fdE ["labels","places"] xC:=wQ hE.fn
 have GN:ql P w K mg base qG 2 fN fdN ["labels","heap"] UE:=vW hN.fn hS
 have GK:ql P w K mg base qG 3 fK fdK pMk xw:=NK hK.fn B G hE hN hL hS
 have GO:ql P w K mg base qG 3 fO fdO ["ground","labels","name"] (vB CG):=wE hO.fn B G T M hk h.hN hI
 have GMv:ql P w K mg base qG 4 fM fdM ["ground","heap"] (WP CG):=VY hM.fn B G T M hP O.most hH
 have GR:ql P w K mg base qG 2 fR fdR nGF (Zv CG):=Zi hR.fn C B G T hn
 refine F.okJ xQ (λvs H Q E z=>?_) (λcdv A outer s H vs Q E hr z=>?_)
 . obtain⟨g,D,h,rs,R,hs,rfl,_⟩:=z
   rfl
 . obtain⟨g,D,h',rs,R,hs,rfl,gh,lb,all,dr,q⟩:=z
   have r1:qS 1 _:=hr.mono (by decide)
   have r2:qS 2 _:=hr.mono (by decide)
   have r3:qS 3 _:=hr.mono (by decide)
   have r4:qS 4 _:=hr
   refine⟨_,qe (qy (i:=3) xQ.nd rfl (Or.inl rfl) (qH hE GE r1 (by rfl) (qb (jv 1) (qb (jv 2) qf))))
     (qe (qy (i:=4) xQ.nd rfl (Or.inl rfl) (qM jz (jv 3) (qi) (λ_ _=>rfl)))
     (qe (qy (i:=5) xQ.nd rfl (Or.inl rfl) (ZN zav zdh PySem.F.type_list_index wX (jv 2) (qb (jv 4) qf)))
     (qe (qO (qt zr (qF qR (by rfl) B.len boot_len (qb (jv 3) qf)) (qi) (qB _)) (qg (qw (j5 (qb (jv 5) (qb (qM jz (qH hE GE r1 (by rfl) (qb (jv 1) (qb (Wu hR C.cl GR r2 (jv 0) (qb (jv 4) qf)) qf))) (qi) (λ_ _=>rfl)) qf))))) qC)
     (qe (qy (i:=6) xQ.nd rfl (Or.inr rfl) (qM jz (qH hO GO r3 (by rfl) (qb (jv 0) (qb (jv 1) (qb (jv 4) qf)))) (qi) (λ_ _=>rfl)))
     (qe (qO (qt jp (qH hN GN r2 (by rfl) (qb (jv 1) (qb (jv 2) qf))) (qM qU (jv 6) (qi) (λ_ _=>rfl)) (qB _)) (qg (qw (j5 (qb (jv 5) (qb (qM qU (jv 6) (qi) (λ_ _=>rfl)) qf))))) qC)
     (qg (qw (qM jz (j6 (N':=["move","heap","labels","road"]) (ix:=[none,some 2,some 1,some 6]) (tt:=tB (Ze xw [] E0 (jo (q5 2) (jo (q5 1) (jo (q5 0) (jo (zR (zo K) (q5 3) (tC (.int 0))) Jj)))))) (te:=q5 0) rfl ⟨rfl,rfl,rfl,rfl,rfl⟩ (qI (qH hM GMv r4 (by rfl) (qb (jv 0) (qb (jv 2) qf)))) (λC s2 H2 fp pins=>
       ⟨qv (i:=0) (show (["move","heap","labels","road"]:List Str).Nodup by decide+kernel) rfl (Or.inl rfl),jJ (jZ (qH hK GK r3 (by rfl) (qb (jv 2) (qb (jv 1) (qb (jv 0) (qb (qM qU (jv 3) (qi) (λ_ _=>rfl)) qf)))))),jv 0⟩)) (qi) (λ_ _=>rfl))))))))),?_⟩
   obtain⟨gr,good,le,hh⟩:=gh
   have L:=Yf (j7 good.nd) all
   have nm:=zw hh.in_
   obtain⟨m0,z0,e0,cs⟩:=Ro good all hh.in_ dr
   obtain⟨tl,etl⟩:=Y1 e0
   have z0m:=zaR e0
   unfold Vj at z0m
   obtain⟨z0h,z0e⟩:=tX.mp z0m
   have z0n:qE R z0=none:=by simpa using z0e
   have il:hs.idxOf z0 < hs.length:=zdf.mpr z0h
   have ej:hs[hs.idxOf z0]?=some z0:=by rw[tH il,List.getElem_idxOf il]
   have hno:∀i,i < hs.idxOf z0->hs[i]?≠some z0:=λi hi e=>by
     have lt:i < hs.length:=by omega
     rw[tH lt]at e
     have:=List.not_of_lt_findIdx (p:=(·==z0)) (xs:=hs) (i:=i) hi
     rw[tO.inj e]at this
     simp at this
   have len8:=hh.le
   refine⟨_,rfl,_,rfl,D,h',rs,R,hs,rfl,lb,hh.at_,hh.in_,by omega,λH1 Le s1 nLe hLe=>?_⟩
   have hLe':=hLe
   rw[etl]at hLe'
   refine⟨_,rfl,Le,_,0,.str z0,rfl,rfl,.of hLe',Y3,?_⟩
   have hh1:=hh.mono s1
   refine⟨_,rfl,.inl ⟨rfl,_,.of hh1.at_⟩,_,rfl,h',hs,z0,hs.idxOf z0,rfl,rfl,.of hh1.at_,ej,hno,?_⟩
   refine⟨_,rfl,Le,_,rfl,.inl (.of hLe),_,_,rfl,rfl,_,rfl,?_⟩
   rcases cs with ⟨two,_,ey⟩ | ⟨one,y,ey,cc⟩
   . refine jk (decide_eq_true (by rw[tj];omega)) ?_
     obtain⟨r,hr',er⟩:=tJ.mp (nm z0 z0h)
     obtain⟨dx,fs,hg,_,e2⟩:=(gr.mono s1).ins
     refine⟨_,rfl,_,rfl,_,rfl,g,dx,fs,rfl,hg,e2,_,rfl,g,rs,r,by rw[er];rfl,gr.mono s1,hr',good.nm r hr',λH3 l s3 hl=>?_⟩
     have s4:=qk (o:=HO.lst ((jH rs r).map V.str)) hl
     have y4:upd H3 l (HO.lst ((jH rs r).map V.str)) l=some (.lst ((jH rs r).map V.str)):=qd
     generalize upd H3 l (HO.lst ((jH rs r).map V.str))=H4 at s4 y4
     have er2:jH rs r=Qx rs z0:=by rw[<-er,QV good.nd hr']
     rw[er2]at y4
     have s14:=s1.trans (s3.trans s4)
     obtain⟨tl2,etl2⟩:=Y1 ey
     refine⟨D,l,rs,R,Qx rs z0,rfl,lb.mono s14,y4,λz hz=>?_,?_,λH5 L2 s5 nL2 hL2=>?_⟩
     . obtain⟨r2,hr2,e2'⟩:=tJ.mp (L.cl (nm z0 z0h) hz)
       exact⟨r2,hr2,e2'⟩
     . have:=YX (rs:=rs) z0
       omega
     . rw[etl2]at hL2
       refine⟨L2,_,0,.str m0.2,rfl,rfl,.of hL2,Y3,by show 2<=sizeLine;decide,λp fp=>?_⟩
       exact q _ p (hs.idxOf z0,m0.2) ((s14.trans s5).trans (qk fp)) qd ⟨z0,e0,.inl ⟨two,rfl,ey⟩⟩
   . refine qZ (decide_eq_false (by rw[tj];omega)) ?_
     refine⟨_,rfl,_,rfl,_,rfl,g,D,rs,R,z0,rfl,gr.mono s1,good,le,lb.mono s1,L,nm z0 z0h,z0n,λH2 Lo ts s2 nLo hLo mvo=>?_⟩
     obtain⟨tl3,etl3⟩:=Y1 ey
     obtain⟨t0,tl4,ets⟩:∃t0 tl4,ts=t0::tl4:=by
       cases ts with
       | nil=>have:=mvo.1;rw[etl3]at this;cases this
       | cons t0 tl4=>exact⟨t0,tl4,rfl⟩
     subst ets
     have ht0:H2 t0=some (.tup (X6 (lst rs R z0,y))):=mvo.2 0 t0 _ rfl (by rw[etl3];rfl)
     have s12:=s1.trans s2
     refine⟨Lo,_,0,.ref t0,rfl,rfl,.of hLo,Y3,?_⟩
     refine⟨_,rfl,_,rfl,D,h',rs,R,hs,rfl,lb.mono s12,hh.mono s12,λH3 s3=>?_⟩
     have s13:=s12.trans s3
     have ht3:=s3 _ _ ht0
     refine⟨_,rfl,t0,_,0,_,rfl,rfl,.of ht3,rfl,rfl,_,rfl,?_⟩
     rcases cc with ⟨et,_⟩ | ⟨nt,em⟩
     . refine jk (decide_eq_true (by rw[et])) ⟨_,rfl,_,rfl,t0,_,1,_,rfl,rfl,.of ht3,rfl,by show 2<=sizeLine;decide,λp fp=>?_⟩
       exact q _ p (hs.idxOf z0,y) (s13.trans (qk fp)) qd ⟨z0,e0,.inr ⟨one,y,ey,.inl ⟨et,rfl⟩⟩⟩
     . refine qZ (decide_eq_false λz=>nt (by have:=V.int.inj z;omega)) ?_
       refine⟨_,rfl,_,rfl,g,h',rs,hs,rfl,gr.mono s13,good,le,hh.mono s13,λH4 Lm qs s4 nLm hLm mvm=>⟨Lm,rfl,⟨_,.of hLm⟩,λW hW=>?_⟩⟩
       have s14:=s13.trans s4
       obtain⟨xs,x1,x2,hx⟩:=mvm.pts
       have lmv:(mvs rs hs hs.length).length<=112:=by
         have:=JZ good le hh.in_ hs.length (tF _)
         omega
       have lxs:xs.length<=112:=by
         have:=congrArg zaz x2
         rw[tj]at this
         omega
       have hmx:∀z∈xs,z.2∈mvs rs hs hs.length:=λz hz=>by rw[<-x2];exact tJ.mpr ⟨z,hz,rfl⟩
       have hLm':H4 Lm=some (.lst (xs.map λz=>V.ref z.1)):=by
         rw[<-x1,zaY]at hLm
         exact hLm
       refine Jf (K:=K) (a:=Lm) (xs:=xs) (enc:=λz=>V.ref z.1) (out:=λz=>if Uv rs R hs (lst rs R z0) z.2=true then some (V.ref z.1) else none) (rest:=[some (.ref h'),some (.ref D),some (.ref t0)]) hW hLm' (qo (by omega)) (λz hz Y sY Rr hR=>?_) (λz hz v ev Y sY Rr hR=>?_) (λH8 s8 hW8=>?_)
       . refine⟨_,rfl,_,rfl,_,rfl,_,rfl,t0,_,0,_,rfl,rfl,.of (sY _ _ (s4 _ _ ht3)),rfl,D,h',z.1,rs,R,hs,z.2,lst rs R z0,rfl,good,lb.mono (s14.trans sY),hh.mono (s14.trans sY),sY _ _ (hx z hz),hmx z hz,λY2 s2'=>⟨_,rfl,?_⟩⟩
         have r:=hR Y2 s2'
         cases c:Uv rs R hs (lst rs R z0) z.2<;>rw[c]at r<;>exact r
       . have ev':v=.ref z.1:=by
           cases c:Uv rs R hs (lst rs R z0) z.2
           . rw[c]at ev;cases ev
           . rw[c]at ev;exact(tO.inj ev).symm
         subst ev'
         exact⟨_,rfl,hR Y (qm.refl Y)⟩
       . rw[ZA]at hW8
         have ef:(xs.filter λz=>Uv rs R hs (lst rs R z0) z.2).map (·.2)=(mvs rs hs hs.length).filter (Uv rs R hs (lst rs R z0)):=by
           rw[<-x2,zdu]
           rfl
         obtain⟨tl5,etl5⟩:=Y1 em
         rw[etl5]at ef
         obtain⟨x0,tl6,exs⟩:∃x0 tl6,(xs.filter λz=>Uv rs R hs (lst rs R z0) z.2)=x0::tl6:=by
           cases c:(xs.filter λz=>Uv rs R hs (lst rs R z0) z.2) with
           | nil=>rw[c]at ef;cases ef
           | cons x0 tl6=>exact⟨x0,tl6,rfl⟩
         rw[exs]at ef hW8
         have e00:x0.2=m0:=(List.cons.inj ef).1
         have x0m:x0∈xs:=(tX.mp (by rw[exs];exact zaa)).1
         refine⟨W,_,0,.ref x0.1,rfl,rfl,.of hW8,Y3,?_⟩
         exact q H8 x0.1 m0 (s14.trans s8) (by rw[<-e00];exact s8 _ _ (hx x0 x0m)) ⟨z0,e0,.inr ⟨one,y,ey,.inr ⟨nt,em⟩⟩⟩
end
open PySem L2 PyProof.Rows MLab Rb
def R4 (rs:qW) (R:Rs Str) (hs:List Str) (m:Nat×Str):Prop:=(oW rs R hs=wW/\Ut rs R hs m)\/(oW rs R hs=wD/\kC rs R hs m)
def vA (CG PT:Addr):Sp:=λvs H Q _=>∃(g D h:Addr) (rs:qW) (R:Rs Str) (hs:List Str),vs=[.ref g,.ref D,.ref h]/\GH CG H g h rs hs/\je H D rs R/\JU rs R/\oW rs R hs≠wL/\(∃tq,H PT=some (.tbl #[.str z7 tq]))/\∀H' p m,qm H H'->H' p=some (.tup (X6 m))->R4 rs R hs m->Q (.ref p) H'
abbrev QQ:Stmt:=(jq Qo).getD 1 (.Pass ⟨0,0,0,0⟩)
def Jn:Str:=(Str.ofString "player"++Str.ofString ".<locals>.")++Str.ofString "tell"
def MZ (CG PT:Addr) (ws:List (Str×V)):Sp:=λvs H Q _=>∃(g D h:Addr) (rs:qW) (R:Rs Str) (hs:List Str),ws=[(Str.ofString "ground",.ref g),(Str.ofString "labels",.ref D)]/\vs=[.ref h]/\GH CG H g h rs hs/\je H D rs R/\JU rs R/\oW rs R hs≠wL/\(∃tq,H PT=some (.tbl #[.str z7 tq]))/\∀H' p m,qm H H'->H' p=some (.tup (X6 m))->R4 rs R hs m->Q (.ref p) H'
abbrev UD (CG PT PP f:Addr) (fd:FuncData):Sp:=λvs H Q E=>∃ws,R9 H PP f "tell" Jn QQ fd ws/\MZ CG PT ws vs H Q E
def Xa (CG PP:Addr):Sp:=λvs H Q _=>∃(g:Addr) (rs:qW),vs=[.ref g]/\Qi CG H g rs/\qu rs/\rs.length<=14/\(∃tq,H PP=some (.tbl #[.str Jn tq]))/\
 ∀H' f fd D R,qm H H'->je H' D rs R->JU rs R->R9 H' PP f "tell" Jn QQ fd [(Str.ofString "ground",.ref g),(Str.ofString "labels",.ref D)]->Q (.ref f) H'
section
variable {P:Program} {w:World} {K:PySem.W.Frag} {mg:Str->Option Value} {base:Heap}
abbrev nPB:List Str:=["ground","labels","heap","found","moves"]
theorem M6:qp nPB p3 (qh kW):=⟨rfl,rfl,rfl,by decide+kernel,rfl,by decide+kernel,by decide+kernel⟩
theorem NI {f CG PT fO fW fD:Addr} {fd fdO fdW fdD:FuncData} (F:jU K "player_by" "player_by" kW f fd) (hO:qY K mg "outcome_by" xR ["labels","heap"] fO fdO) (GO:ql P w K mg base qG 9 fO fdO ["labels","heap"] VG) (hW:qY K mg "winner_by" Jt p3 fW fdW) (GW:ql P w K mg base qG 12 fW fdW p3 (WM CG PT)) (hD:qY K mg "drawer_by" xT p3 fD fdD) (GD:ql P w K mg base qG 5 fD fdD p3 (xD CG)):ql P w K mg base qG 13 f fd p3 (vA CG PT):=by
 refine F.okJ M6 (λvs H Q E z=>?_) (λcdv A outer s H vs Q E hr z=>?_)
 . obtain⟨g,D,h,rs,R,hs,rfl,_⟩:=z
   rfl
 . obtain⟨g,D,h,rs,R,hs,rfl,gh,lb,all,nl,⟨tq,tb⟩,q⟩:=z
   have r5:qS 5 _:=hr.mono (by decide)
   have r9:qS 9 _:=hr.mono (by decide)
   have r12:qS 12 _:=hr
   have ⟨gr,good,le,hh⟩:=gh
   refine⟨_,qe (qy (i:=3) M6.nd rfl (Or.inl rfl) (qH hO GO r9 (by rfl) (qb (jv 1) (qb (jv 2) qf)))) (qe (qO (qt jp (jv 3) (qP) (qB _)) (qg (qw (qH hW GW r12 (by rfl) (qb (jv 0) (qb (jv 1) (qb (jv 2) qf)))))) qC) (qe (qO (qt jp (jv 3) (qP) (qB _)) (qg (qw (qH hD GD r5 (by rfl) (qb (jv 0) (qb (jv 1) (qb (jv 2) qf)))))) qC) q4)),?_⟩
   refine⟨_,rfl,_,rfl,D,h,rs,R,hs,rfl,lb,hh,V0 good all hh.in_,λH1 s1=>⟨_,rfl,rfl,_,rfl,?_⟩⟩
   have gh1:=gh.mono s1
   by_cases c:oW rs R hs=wW
   . refine jk (decide_eq_true (congrArg V.str c)) ⟨_,rfl,_,rfl,_,rfl,g,D,h,rs,R,hs,rfl,gh1.1,good,le,lb.mono s1,all,gh1.2.2.2,Nb good all hh.in_ c,⟨tq,s1 _ _ tb⟩,λH2 p m s2 hp bm=>q H2 p m (s1.trans s2) hp (.inl ⟨c,bm⟩)⟩
   . refine qZ (decide_eq_false λz=>c (V.str.inj z)) ⟨_,rfl,rfl,_,rfl,?_⟩
     have c3:oW rs R hs=wD:=by rcases W7 (rs:=rs) (R:=R) (hs:=hs) with z | z | z<;>first | exact z | exact absurd z nl | exact absurd z c
     exact jk (decide_eq_true (congrArg V.str c3)) ⟨_,rfl,_,rfl,_,rfl,g,D,h,rs,R,hs,rfl,gh1,lb.mono s1,all,c3,λH2 p m s2 hp dm=>q H2 p m (s1.trans s2) hp (.inr ⟨c3,dm⟩)⟩
theorem Nm:zN ["heap","ground","labels"] ["heap"] ["ground","labels"] (qh QQ):=⟨rfl,rfl,rfl,by decide+kernel,rfl,by decide+kernel,by decide+kernel,by decide+kernel,by decide+kernel⟩
theorem KY {PP PT CG f fH fB:Addr} {fd fdH fdB:FuncData} (hH:qY K mg "need_heap" ZT ["ground","heap"] fH fdH) (GH':ql P w K mg base qG 3 fH fdH ["ground","heap"] (Z8 CG)) (hB:qY K mg "player_by" kW p3 fB fdB) (GB:ql P w K mg base qG 13 fB fdB p3 (vA CG PT)):ql P w K mg base qG 14 f fd ["heap"] (UD CG PT PP f fd):=by
 refine Mq (PT:=PP) (name:="tell") (qual:=Jn) (st:=QQ) (fr:=["ground","labels"]) (sp:=MZ CG PT) Nm (λws vs H Q E h=>?_) (λc' cl A outer s H ws vs Q E hr h=>?_)
 . obtain⟨g,D,h,rs,R,hs,rfl,rfl,_⟩:=h
   exact⟨rfl,rfl⟩
 . obtain⟨g,D,h,rs,R,hs,rfl,rfl,gh,lb,all,nl,⟨tq,tb⟩,q⟩:=h
   have r3:qS 3 _:=hr.mono (by decide)
   refine⟨_,qe (jC (qH hH GH' r3 (by rfl) (qb (jv 1) (qb (jv 0) qf))))
     (qg (qw (qH hB GB hr (by rfl) (qb (jv 1) (qb (jv 2) (qb (jv 0) qf)))))),?_⟩
   refine⟨_,rfl,_,rfl,g,h,rs,hs,rfl,gh.1,gh.2.2.2,λH1 s1=>?_⟩
   exact⟨_,rfl,_,rfl,_,rfl,g,D,h,rs,R,hs,rfl,gh.mono s1,lb.mono s1,all,nl,⟨tq,s1 _ _ tb⟩,λH2 p m s2 hp pm=>q H2 p m (s1.trans s2) hp pm⟩
abbrev nPr:List Str:=["ground","labels","tell"]
theorem No:qp nPr ["ground"] (qh Qo):=⟨rfl,rfl,rfl,by decide+kernel,rfl,by decide+kernel,by decide+kernel⟩
theorem yi {f c PP CG fL:Addr} {fd fdL:FuncData} (F:jU K "player" "player" Qo f fd) (hc:fd.code=.ref c) (TM:XX mg base c PP) (hL:qY K mg "labels_of" zh ["ground"] fL fdL) (GL:ql P w K mg base qG 8 fL fdL ["ground"] (Xb CG)):ql P w K mg base qG 9 f fd ["ground"] (Xa CG PP):=by
 refine F.okB hc No (λvs H Q E h=>?_) (λA outer s H vs Q E hr h=>?_)
 . obtain⟨g,rs,rfl,_⟩:=h
   rfl
 . obtain⟨g,rs,rfl,gr,good,le,⟨tq,tb⟩,q⟩:=h
   refine⟨_,KN (qy (i:=1) No.nd rfl (Or.inr rfl) (qH hL GL hr (by rfl) (qb (jv 0) qf))) (NE (i:=2) (c:=c) (P:=PP) (qual:=Jn) TM No.nd rfl rfl rfl rfl rfl (λ_=>rfl) rfl rfl rfl (qap (qg (qw (jv 2))))),?_⟩
   refine⟨_,rfl,g,rs,rfl,gr,good,le,λH1 D R s1 hD lb all=>?_⟩
   refine⟨⟨tq,s1 _ _ tb⟩,λf' c' doc pm ctv oc H2 mk=>?_⟩
   have cl:R9 H2 PP f' "tell" Jn QQ (zdY "tell" Jn (Qc QQ) (jq QQ) (qh QQ) (qN (XR qG P w K mg base nPr "player" (qh Qo) f (.ref c) A outer s H E).env (qh QQ).names []) .none .none doc pm none (.ref c') ctv) [(Str.ofString "ground",.ref g),(Str.ofString "labels",.ref D)]:=by
     refine⟨doc,pm,ctv,c',_,oc,rfl,mk.fn,mk.cd,mk.cq,mk.inj,λx cc e=>?_,λx v' hx=>?_⟩
     . rcases j8 e with z | ⟨z,_⟩
       . simp at z
       . have:∀y∈(qh QQ).names,y.2=.free->y.1∈[Str.ofString "ground",Str.ofString "labels"]:=by decide+kernel
         exact this _ z rfl
     . have hx':(x=Str.ofString "ground"/\v'=.ref g)\/(x=Str.ofString "labels"/\v'=.ref D):=by simpa using hx
       rcases hx' with ⟨rfl,rfl⟩ | ⟨rfl,rfl⟩
       . have hm:(Str.ofString "ground",NameKind.free)∈(qh QQ).names:=by decide+kernel
         obtain⟨ca,co,u0,e1,e2,e3,e4⟩:=mk.cells _ hm
         obtain⟨u,rfl,ru⟩:=e4 0 (.ref g) rfl rfl
         exact⟨ca,co,u,e1,e2,e3,ru⟩
       . have hm:(Str.ofString "labels",NameKind.free)∈(qh QQ).names:=by decide+kernel
         obtain⟨ca,co,u0,e1,e2,e3,e4⟩:=mk.cells _ hm
         obtain⟨u,rfl,ru⟩:=e4 1 (.ref D) rfl rfl
         exact⟨ca,co,u,e1,e2,e3,ru⟩
   exact⟨_,rfl,q H2 f' _ D R (s1.trans mk.same) (lb.mono mk.same) all cl⟩
def CTl (CG PT PP:Addr) (f:Addr) (fd:FuncData) (sp:Sp):Prop:=(∃(doc pm ctv:Value) (c':Addr) (cl:List (Str×Addr)),fd=zdY "tell" Jn (Qc QQ) (jq QQ) (qh QQ) cl .none .none doc pm none (.ref c') ctv)/\sp=UD CG PT PP f fd
theorem Mp {PP PT CG fH fB:Addr} {fdH fdB:FuncData} (hH:qY K mg "need_heap" ZT ["ground","heap"] fH fdH) (GH':ql P w K mg base qG 3 fH fdH ["ground","heap"] (Z8 CG)) (hB:qY K mg "player_by" kW p3 fB fdB) (GB:ql P w K mg base qG 13 fB fdB p3 (vA CG PT)):∀f fd sp,CTl CG PT PP f fd sp->ql P w K mg base qG 14 f fd ["heap"] sp/\jP K fd ["heap"] []:=by
 rintro f fd sp ⟨⟨doc,pm,ctv,c',cl,rfl⟩,rfl⟩
 exact⟨KY hH GH' hB GB,.all λus hl=>by obtain⟨_,rfl⟩:=Qq hl;rfl⟩
end
open PySem L2 PyProof.Rows MLab Rb
abbrev xU:Stmt:=top 87
abbrev vL:Stmt:=top 88
def dM (ms:List (Nat×Str)):PyData:=.list (ms.map mD)
theorem qbZ {K:PySem.W.Frag} {H:Hp} {p:Addr} {ps:List Addr} {ms:List (Nat×Str)} (h:H p=some (.lst (ps.map V.ref))) (mv:jF H ps ms):DV K H (.ref p) (dM ms):=.lst (.of h) (ve mv)
theorem uD (ms:List (Nat×Str)):PyData.eqv (dM ms) (.list [])=ms.isEmpty:=by
 cases ms<;>rfl
theorem M3:PySem.SeqAt.shaped (.list [])=true:=by decide+kernel
theorem yy {H2:Hp} {l:Addr} {ps:List Addr} {rs:qW} {CG:Addr} {R:Hp->Prop} (hl2:H2 l=some (.lst (ps.map V.ref))) (rat:j0 H2 ps rs) (good:qu rs) (pos:0 < rs.length) (le14:rs.length<=14)
   {l2:Addr} (hl2':H2 l2=none) {x dx:Addr} (hx:upd H2 l2 (.lst (ps.map V.ref)) x=none) (hdx:upd H2 l2 (.lst (ps.map V.ref)) dx=none) (ndx:dx≠x) {E:XK} (k:∀H4,qm H2 H4->Qi CG H4 x rs->R H4):
   YI CG [.ref x,.ref l2] (upd (upd (upd H2 l2 (.lst (ps.map V.ref))) dx (.own x)) x (.ins CG dx [])) (λv H'=>v=.non/\R H') E:=by
 have hx2:H2 x=none:=by
   by_cases e:x=l2
   . rw[e,qd]at hx;cases hx
   . rw[qj e]at hx;exact hx
 have hdx2:H2 dx=none:=by
   by_cases e:dx=l2
   . rw[e,qd]at hdx;cases hdx
   . rw[qj e]at hdx;exact hdx
 have s3:qm H2 (upd (upd (upd H2 l2 (.lst (ps.map V.ref))) dx (.own x)) x (.ins CG dx [])):=λb u hb=>by
   rw[qj (qA hb hx2),qj (qA hb hdx2),qj (qA hb hl2')]
   exact hb
 have hl3:upd (upd (upd H2 l2 (.lst (ps.map V.ref))) dx (.own x)) x (.ins CG dx []) l2=some (.lst (ps.map V.ref)):=by
   have n1:l2≠x:=λe=>by rw[<-e,qd]at hx;cases hx
   have n2:l2≠dx:=λe=>by rw[<-e,qd]at hdx;cases hdx
   rw[qj n1,qj n2]
   exact qd
 refine⟨x,dx,l2,ps,rs,rfl,⟨hl3,rat.mono s3,good,pos,le14⟩,qd,λH4 gr fr4=>⟨rfl,k H4 (λb u hb=>fr4 b u (s3 _ _ hb) (qA hb hx2)) gr⟩⟩
theorem j4 {H H':Hp} {d b:Addr} {o:HO} {kv:List (qL×V)} (fr:Fr H d H') (hd:H d=some (.dK kv)) (hb:H b=some o) (no:∀kv,o≠.dK kv):H' b=some o:=fr _ _ hb λe=>by
 rw[e,hd]at hb
 exact no _ (tO.inj hb).symm
theorem vt {n s t:Int} {k:qL} {q:Addr}:¬ji (src n s t) k=some (.ref q):=λh=>by
 unfold src at h
 by_cases e1:(Sum.inr (Str.ofString "number"):qL)=k
 . rw[jg e1]at h;cases h
 . rw[jh e1]at h
   by_cases e2:(Sum.inr (Str.ofString "seed"):qL)=k
   . rw[jg e2]at h;cases h
   . rw[jh e2]at h
     by_cases e3:(Sum.inr (Str.ofString "turn"):qL)=k
     . rw[jg e3]at h;cases h
     . rw[jh e3]at h;cases h
theorem Qi.frd {CG:Addr} {H H':Hp} {x d:Addr} {rs:qW} {n s t:Int} (h:Qi CG H x rs) (pos:0 < rs.length) (hd:H d=some (.dK (src n s t))) (fr:Fr H d H'):Qi CG H' x rs:=by
 obtain⟨dx',lo,rd,kvs,a1,a2,a3,a4⟩:=h
 have nrd:rd≠d:=λe=>by
   rw[e,hd]at a3
   obtain⟨r,hr'⟩:=zbJ pos
   obtain⟨q,a5,_⟩:=a4 r hr'
   rw[<-(HO.dK.inj (tO.inj a3))]at a5
   exact vt a5
 exact⟨dx',lo,rd,kvs,j4 fr hd a1 (λ_ e=>nomatch e),j4 fr hd a2 (λ_ e=>nomatch e),fr _ _ a3 nrd,λr hr'=>let ⟨q,b1,b2⟩:=a4 r hr';⟨q,b1,j4 fr hd b2 (λ_ e=>nomatch e)⟩⟩
theorem uL:∀(ms:List (Nat×Str)),PyData.depthAll (ms.map mD)<=1
 | []=>by decide
 | m::ms=>by
   rw[tW]
   have:=uL ms
   have h1:PyData.depth (mD m)=1:=rfl
   simp only[PyData.depthAll,h1]
   omega
theorem qbn {ms:List (Nat×Str)} (h:∀m∈ms,jN m.2=true):PySem.SeqAt.shaped (dM ms)=true:=by
 unfold PySem.SeqAt.shaped
 rw[zau]
 refine⟨U7 h,decide_eq_true ?_⟩
 have:=uL ms
 show PyData.depth (.list (ms.map mD))<=64
 simp only[PyData.depth]
 omega
theorem je.fr {H H':Hp} {D d:Addr} {rs:qW} {R:Rs Str} {kv:List (qL×V)} (h:je H D rs R) (hd:H d=some (.dK kv)) (n:D≠d) (s:Fr H d H'):je H' D rs R:=⟨let ⟨kvs,a,b,c⟩:=h.at_;⟨kvs,s _ _ a n,b,λr hr=>let ⟨t,u,v⟩:=c r hr;⟨t,u,j4 s hd v (λ_ z=>nomatch z)⟩⟩⟩
def LH (H:Hp) (l D h:Addr) (ps:List Addr) (rs:qW) (R:Rs Str) (hs:List Str):Prop:=jO H l ps rs/\je H D rs R/\JU rs R/\jG H h rs hs
theorem LH.mono {H H':Hp} {l D h:Addr} {ps:List Addr} {rs:qW} {R:Rs Str} {hs:List Str} (x:LH H l D h ps rs R hs) (s:qm H H'):LH H' l D h ps rs R hs:=⟨⟨s _ _ x.1.at_,x.1.rows.mono s,x.1.good,x.1.pos,x.1.le⟩,x.2.1.mono s,x.2.2.1,x.2.2.2.mono s⟩
theorem Uw {α:Type} {G:α->List α} {ok:α->Prop} {num:α->Option Nat} {stp:α->Nat} (L:XY G ok num stp) {h b:List α} (hk:∀x∈h,ok x) (hz:MLab.Zero num h) (hb:b∈mv G h):∃c∈mv G b,(∀x∈c,ok x)/\MLab.Zero num c/\zJ stp c < zJ stp h:=by
 obtain⟨he,hx⟩:=hz
 obtain⟨p,x,y,q,rfl,hy,rfl⟩:=(jE G).mp hb
 have okx:=hk x (by simp)
 have hk':=Ju L hk rfl hy
 cases ex:num x with
 | none=>rw[jf ex]at he;omega
 | some n=>
   rw[ja ex]at he
   rw[jL ex]at hx
   rw[Qh]
   have back:(∀m,num y=some m->n < m)->∃c∈mv G (p++y::q),(∀x∈c,ok x)/\MLab.Zero num c/\zJ stp c < stp x+zJ stp (p++q):=λgt=>by
     obtain⟨z,hz,ez,lz⟩:=L.n3 okx ex hy gt
     exact⟨p++z::q,(jE G).mpr ⟨p,y,z,q,rfl,hz,rfl⟩,Ju L hk' rfl hz,⟨by rw[ja ez];exact he,by rw[jL ez];exact hx⟩,by rw[Qh];omega⟩
   cases ey:num y with
   | none=>exact back λm h=>by rw[ey]at h;cases h
   | some k=>
     rcases zaC k n with lt | rfl | gt
     . have ly:=L.n4 okx ex hy ey lt
       have pos:0 < jK (nums num (p++y::q)):=by
         rw[jL ey]
         refine zcW λz=>?_
         have:=Z2 (z.trans hx.symm)
         omega
       obtain⟨p',x',y',q',e',hy',⟨n',k',en,ek⟩,x0,l'⟩:=Z4 L hk' pos
       have ce:zJ stp (p++y::q)=stp y+zJ stp (p++q):=Qh
       have ee:ends num (p++y::q)=0:=by rw[ja ey];exact he
       refine⟨p'++y'::q',(jE G).mpr ⟨p',x',y',q',e',hy',rfl⟩,Ju L hk' e' hy',⟨?_,x0⟩,?_⟩
       . rw[e',ja en]at ee
         rw[ja ek]
         exact ee
       . rw[e',Qh]at ce
         rw[Qh]
         omega
     . exact absurd ey (L.n2 okx ex hy)
     . exact back λm h=>by rw[ey]at h;cases h;exact gt
theorem Gr {rs:qW} (good:qu rs) {R:Rs Str} (all:JU rs R) {hs:List Str} (hi:∀z∈hs,∃r∈rs,r.1=z) (l:oW rs R hs=wL) {m:Nat×Str} (hm:m∈mvs rs hs hs.length):oW rs R (lf hs m)=wW/\∀b,Ut rs R (lf hs m) b->cnt R (lf (lf hs m) b) < cnt R hs:=by
 have LL:=Gu good (Yf (j7 good.nd) all)
 have hi':=JK good hi hm
 have mb:=(V7 good hi).mpr ⟨m,hm,rfl⟩
 have z:=(Q9 LL (zw hi)).mp ((YQ good all hi).mp l)
 obtain⟨c,hc,ck,cz,lt⟩:=Uw LL (zw hi) z mb
 have lc:=(Q9 LL ck).mpr cz
 refine⟨Na good all hi' (.mk hc lc),λb hb=>?_⟩
 obtain⟨m',hm',rfl⟩:=(V7 good hi').mp hc
 have hw:m'∈Js rs R (lf hs m):=tX.mpr ⟨hm',decide_eq_true ((YQ good all (JK good hi' hm')).mpr lc)⟩
 obtain⟨j,hj⟩:=List.mem_iff_getElem?.mp hw
 obtain⟨i,_,b'⟩:=hb
 exact zap (b' j m' hj).1 lt
theorem uC (m:Nat×Str):PyData.eqv (mD m) (mD m)=true:=by
 show (((m.1:Int)==(m.1:Int))&&((m.2==m.2)&&true))=true
 simp
def xF:Sp:=λvs H Q _=>∃(d l D h:Addr) (wv n s t:Int) (ps:List Addr) (rs:qW) (R:Rs Str) (hs:List Str),vs=[.ref d,.ref l,.ref D,.ref h,.int wv]/\H d=some (.dK (src n s t))/\LH H l D h ps rs R hs/\0 < (mvs rs hs hs.length).length/\
 ∀H' p m n' t',m∈mvs rs hs hs.length->H' p=some (.tup (X6 m))->H' d=some (.dK (src n' s t'))->Fr H d H'->Q (.ref p) H'
def xq (PT PP:Addr):Sp:=λvs H Q _=>∃(d l D h lw:Addr) (tu:Nat) (wv n s t:Int) (ps:List Addr) (rs:qW) (R:Rs Str) (hs:List Str),vs=[.ref d,.ref l,.ref D,.ref h,.ref lw]/\H d=some (.dK (src n s t))/\D≠d/\LH H l D h ps rs R hs/\H lw=some (.lst [.int (tu:Nat),.int wv])/\((tu=0/\oW rs R hs≠wL)\/(tu=1/\oW rs R hs≠wW))/\(∃tq,H PT=some (.tbl #[.str z7 tq]))/\(∃tq,H PP=some (.tbl #[.str Jn tq]))/\
 ∀H' n' t',H' d=some (.dK (src n' s t'))->Fr H d H'->Q (.bl true) H'
theorem yw {rs:qW} (good:qu rs) {R:Rs Str} (all:JU rs R) {hs:List Str} (hi:∀z∈hs,∃r∈rs,r.1=z) (e:mvs rs hs hs.length=[]):oW rs R hs=wL:=(YQ good all hi).mpr (.mk λb hb=>by
 obtain⟨m,hm,_⟩:=(V7 good hi).mp hb
 rw[e]at hm
 cases hm)
theorem uI {rs:qW} (good:qu rs) {R:Rs Str} (all:JU rs R) {hs:List Str} (hi:∀z∈hs,∃r∈rs,r.1=z) (d:oW rs R hs=wD) {m:Nat×Str} (hm:m∈mvs rs hs hs.length):oW rs R (lf hs m)≠wL:=λl=>by
 have LL:=Gu good (Yf (j7 good.nd) all)
 have hi':=JK good hi hm
 exact Z0 ((zH good all hi).mp d) ((V7 good hi).mpr ⟨m,hm,rfl⟩) ((Q9 LL (zw hi')).mp ((YQ good all hi').mp l))
section
variable {P:Program} {w:World} {K:PySem.W.Frag} {mg:Str->Option Value} {base:Heap}
abbrev MD:List Str:=["_law_source_here","_law_rows_here","_law_labels_here","_law_heap_here","_law_way"]
abbrev nAn:List Str:=["_law_source_here","_law_rows_here","_law_labels_here","_law_heap_here","_law_way","_law_moves_here","_law_safe"]
theorem Nz:qp nAn MD (qh xU):=⟨rfl,rfl,rfl,by decide+kernel,rfl,by decide+kernel,by decide+kernel⟩
theorem NQ {f fT fM fO fA:Addr} {fd fdT fdM fdO fdA:FuncData} (F:jU K "_law_answer" "_law_answer" xU f fd) (B:QF mg) (hT:qY K mg "_law_take" Ys ["_law_source_here","_law_many"] fT fdT) (hM:qY K mg "_law_moves" Zy RU fM fdM) (GMv:ql P w K mg base qG 1 fM fdM RU Z9) (hO:qY K mg "_law_outcome" Wj ["_law_labels_here","_law_heap_here"] fO fdO) (GO:ql P w K mg base qG 1 fO fdO ["_law_labels_here","_law_heap_here"] Xc) (hA:qY K mg "_law_after" Wm KO fA fdA) (GA:ql P w K mg base qG 1 fA fdA KO Xd):ql P w K mg base qG 2 f fd MD xF:=by
 have GT:ql P w K mg base qG 1 fT fdT ["_law_source_here","_law_many"] ZR:=zt hT.fn
 refine F.okJ Nz (λvs H Q E z=>?_) (λcdv A outer s H vs Q E hr z=>?_)
 . obtain⟨d,l,D,h,wv,n,s,t,ps,rs,R,hs,rfl,_⟩:=z
   rfl
 . obtain⟨d,l,D,h,wv,n,sd,t,ps,rs,R,hs,rfl,hd,lh,ne,q⟩:=z
   have hu:=jR hr
   have r1:qS 1 _:=hr
   have good:=lh.1.good
   have all:=lh.2.2.1
   have hh:=lh.2.2.2
   refine⟨_,qe (qy (i:=5) Nz.nd rfl (Or.inl rfl) (qH hM GMv r1 (by rfl) (qb (jv 1) (qb (jv 3) qf))))
     (qe (Jb (i:=6) (N':=["_law_move","_law_labels_here","_law_heap_here"]) (ix:=[none,some 2,some 3]) (tt:=Yo (zR rEq (Ze Xc [] E0 (jo (q5 1) (jo (Ze Xd [] E0 (jo (q5 2) (jo (q5 0) Jj))) Jj))) (tC (.str (Str.ofString "drawn"))))) (te:=q5 0) Nz.nd rfl (Or.inl rfl) rfl ⟨rfl,rfl,rfl,rfl,rfl⟩ (qI (jv 5)) (λC s2 H2 fp pins=>
           ⟨qv (i:=0) (show (["_law_move","_law_labels_here","_law_heap_here"]:List Str).Nodup by decide+kernel) rfl (Or.inl rfl),jJ (qt jp (qH hO GO r1 (by rfl) (qb (jv 1) (qb (qH hA GA r1 (by rfl) (qb (jv 2) (qb (jv 0) qf))) qf))) qP (qB _)),jv 0⟩))
     (qe (qO (JW.pt (Qd (qt jp (jv 4) (qi) (qB _)) (jS (qt (YN (zbU hu)) (jv 6) (jA qf) (qB _))))) (qg (qw (qM jz (jv 6) (qH hT GT r1 (by rfl) (qb (jv 0) (qb (qF qR (by rfl) B.len boot_len (qb (jv 6) qf)) qf))) (λ_ _=>rfl)))) (qC))
     (qg (qw (qM jz (jv 5) (qH hT GT r1 (by rfl) (qb (jv 0) (qb (qF qR (by rfl) B.len boot_len (qb (jv 5) qf)) qf))) (λ_ _=>rfl)))))),?_⟩
   refine⟨_,rfl,_,rfl,l,h,ps,rs,hs,rfl,lh.1,hh,λH1 L qs s1 nL hL mv=>?_⟩
   have hd1:=s1 _ _ hd
   have lmv:(mvs rs hs hs.length).length<=112:=by
     have h1:=JZ good lh.1.le hh.in_ hs.length (tF _)
     have h2:=hh.le
     omega
   obtain⟨xs,x1,x2,hx⟩:=mv.pts
   have lxs:xs.length=(mvs rs hs hs.length).length:=by rw[<-x2,tj]
   have hmx:∀z∈xs,z.2∈mvs rs hs hs.length:=λz hz=>by rw[<-x2];exact tJ.mpr ⟨z,hz,rfl⟩
   have hL':H1 L=some (.lst (xs.map λz=>V.ref z.1)):=by
     rw[<-x1,zaY]at hL
     exact hL
   have lh1:=lh.mono s1
   have item:∀{ys:List (Addr×(Nat×Str))} {i:Int},0<=i->i < ((ys.map λz=>V.ref z.1).length:Nat)->∃z∈ys,Um (ys.map λz=>V.ref z.1) i=some (.ref z.1):=λ{ys i} h0 h1=>by
     obtain⟨v,ex,gx⟩:=atI_get h0 h1
     rw[tI]at gx
     cases ep:ys[i.toNat]? with
     | none=>rw[ep]at gx;cases gx
     | some z=>
       rw[ep]at gx
       exact⟨z,tZ ep,by rw[ex];exact congrArg some (tO.inj gx).symm⟩
   refine⟨_,rfl,L,rfl,⟨_,.of hL⟩,λW hW=>?_⟩
   refine Jf (K:=K) (a:=L) (xs:=xs) (enc:=λz=>V.ref z.1) (out:=λz=>if decide (oW rs R (lf hs z.2)=Str.ofString "drawn")=true then some (V.ref z.1) else none) (rest:=[some (.ref D),some (.ref h)]) hW hL' (qo (by omega)) (λz hz Y sY Rr hR=>?_) (λz hz v ev Y sY Rr hR=>?_) (λG5 s5 hW5=>?_)
   . have lhY:=lh1.mono sY
     refine⟨_,rfl,_,rfl,_,rfl,h,z.1,hs,z.2,rfl,lhY.2.2.2.at_,hh.le,sY _ _ (hx z hz),(QG (hmx z hz)).1,λY1 ll s1 nll hll=>?_⟩
     refine⟨D,ll,rs,R,lf hs z.2,rfl,lhY.2.1.mono s1,⟨hll,by unfold lf;rw[zbB];exact hh.le,JK good hh.in_ (hmx z hz)⟩,V0 good all (JK good hh.in_ (hmx z hz)),λY2 s2=>⟨rfl,_,rfl,?_⟩⟩
     have r:=hR Y2 (s1.trans s2)
     have e:(if decide (oW rs R (lf hs z.2)=Str.ofString "drawn")=true then some (V.ref z.1) else none).isSome=decide (V.str (oW rs R (lf hs z.2))=V.str (Str.ofString "drawn")):=by
       by_cases c:oW rs R (lf hs z.2)=Str.ofString "drawn"
       . rw[decide_eq_true c,decide_eq_true (by rw[c])];rfl
       . rw[decide_eq_false c,decide_eq_false λz=>c (V.str.inj z)];rfl
     rw[e]at r
     exact r
   . have ev':v=.ref z.1:=by
       by_cases c:oW rs R (lf hs z.2)=Str.ofString "drawn"
       . rw[decide_eq_true c]at ev;exact(tO.inj ev).symm
       . rw[decide_eq_false c]at ev;cases ev
     subst ev'
     exact⟨_,rfl,hR Y (qm.refl Y)⟩
   . rw[ZA]at hW5
     have hysub:∀z∈xs.filter (λz=>decide (oW rs R (lf hs z.2)=Str.ofString "drawn")),z∈xs:=λz hz=>(tX.mp hz).1
     have lys:(xs.filter (λz=>decide (oW rs R (lf hs z.2)=Str.ofString "drawn"))).length<=112:=zag (zao _ _) (by omega)
     generalize xs.filter (λz=>decide (oW rs R (lf hs z.2)=Str.ofString "drawn"))=ys at hW5 hysub lys
     have s15:=s1.trans s5
     refine⟨_,rfl,rfl,_,rfl,?_⟩
     by_cases c:wv=1
     . refine jk (decide_eq_true (by rw[c])) ⟨_,rfl,by show 0<=sizeLine;decide,λl0 f0=>?_⟩
       have s6:=qk (o:=HO.lst []) f0
       have y6:upd G5 l0 (HO.lst []) l0=some (.lst []):=qd
       generalize upd G5 l0 (HO.lst [])=G6 at s6 y6
       have s16:=s15.trans s6
       have frp:Fr H d G6:=λb o hb _=>s16 b o hb
       have hd6:=s16 _ _ hd
       refine⟨W,l0,_,rfl,rfl,.of (s6 _ _ hW5),.of y6,_,rfl,?_⟩
       by_cases e0:ys=[]
       . rw[e0]
         refine jB ⟨_,rfl,_,rfl,_,rfl,L,_,rfl,.inl (.of (s6 _ _ (s5 _ _ hL'))),d,_,n,sd,t,rfl,hd6,by rw[tj];omega,by rw[tj];exact zap (show _<=112 by omega) (by decide),λr n1 t1 r0 r1'=>?_⟩
         obtain⟨z,hz,ea⟩:=item r0 r1'
         have fr2:Fr G6 d (upd G6 d (.dK (src n1 sd t1))):=Fr.refl.at_d
         exact⟨L,_,r,_,rfl,rfl,.of (j4 fr2 hd6 (s6 _ _ (s5 _ _ hL')) (λ_ z=>nomatch z)),ea,q _ z.1 z.2 n1 t1 (hmx z hz) (j4 fr2 hd6 (s6 _ _ (s5 _ _ (hx z hz))) (λ_ z=>nomatch z)) qd (frp.trans fr2)⟩
       . have pos:0 < ys.length:=zbF.mpr e0
         refine jk (by cases ys with | nil=>exact absurd rfl e0 | cons _ _=>rfl) ⟨_,rfl,_,rfl,_,rfl,W,_,rfl,.inl (.of (s6 _ _ hW5)),d,_,n,sd,t,rfl,hd6,by rw[tj];omega,by rw[tj];exact zap (show _<=112 by omega) (by decide),λr n1 t1 r0 r1'=>?_⟩
         obtain⟨z,hz,ea⟩:=item r0 r1'
         have fr2:Fr G6 d (upd G6 d (.dK (src n1 sd t1))):=Fr.refl.at_d
         exact⟨W,_,r,_,rfl,rfl,.of (j4 fr2 hd6 (s6 _ _ hW5) (λ_ z=>nomatch z)),ea,q _ z.1 z.2 n1 t1 (hmx z (hysub z hz)) (j4 fr2 hd6 (s6 _ _ (s5 _ _ (hx z (hysub z hz)))) (λ_ z=>nomatch z)) qd (frp.trans fr2)⟩
     . have frp:Fr H d G5:=λb o hb _=>s15 b o hb
       have hd6:=s15 _ _ hd
       refine qZ (decide_eq_false λz=>c (V.int.inj z)) ⟨_,rfl,_,rfl,_,rfl,L,_,rfl,.inl (.of (s5 _ _ hL')),d,_,n,sd,t,rfl,hd6,by rw[tj];omega,by rw[tj];exact zap (show _<=112 by omega) (by decide),λr n1 t1 r0 r1'=>?_⟩
       obtain⟨z,hz,ea⟩:=item r0 r1'
       have fr2:Fr G5 d (upd G5 d (.dK (src n1 sd t1))):=Fr.refl.at_d
       exact⟨L,_,r,_,rfl,rfl,.of (j4 fr2 hd6 (s5 _ _ hL') (λ_ z=>nomatch z)),ea,q _ z.1 z.2 n1 t1 (hmx z hz) (j4 fr2 hd6 (s5 _ _ (hx z hz)) (λ_ z=>nomatch z)) qd (frp.trans fr2)⟩
abbrev pPy:List Str:=["_law_source_here","_law_rows_here","_law_labels_here","_law_heap_here","_law_ways"]
abbrev nPy:List Str:=["_law_source_here","_law_rows_here","_law_labels_here","_law_heap_here","_law_ways","_law_own","_law_turn","_law_made","_law_moves_here","_law_before","_law_move"]
theorem X5:qp nPy pPy (qh vL):=⟨rfl,rfl,rfl,by decide+kernel,rfl,by decide+kernel,by decide+kernel⟩
theorem K0 {f CG PT PP fI fPl fM fO fA fN:Addr} {fd fdI fdPl fdM fdO fdA fdN:FuncData} (F:jU K "_law_play" "_law_play" vL f fd) (B:QF mg) (G:Qv mg) (C:ML K mg CG fI fdI) (GI:ql P w K mg base qG 6 fI fdI ["self","rows"] (YI CG))
   (hPl:qY K mg "player" Qo ["ground"] fPl fdPl) (GPl:ql P w K mg base qG 9 fPl fdPl ["ground"] (Xa CG PP)) (CT:∀f fd sp,CTl CG PT PP f fd sp->ql P w K mg base qG 14 f fd ["heap"] sp/\jP K fd ["heap"] [])
   (hM:qY K mg "_law_moves" Zy RU fM fdM) (GMv:ql P w K mg base qG 1 fM fdM RU Z9) (hO:qY K mg "_law_outcome" Wj ["_law_labels_here","_law_heap_here"] fO fdO) (GO:ql P w K mg base qG 1 fO fdO ["_law_labels_here","_law_heap_here"] Xc)
   (hA:qY K mg "_law_after" Wm KO fA fdA) (GA:ql P w K mg base qG 1 fA fdA KO Xd) (hN:qY K mg "_law_answer" xU MD fN fdN) (GN:ql P w K mg base qG 2 fN fdN MD xF):ql P w K mg base qG 15 f fd pPy (xq PT PP):=by
 refine F.okJ X5 (λvs H Q E z=>?_) (λcdv A outer s H vs Q E hr z=>?_)
 . obtain⟨d,l,D,h,lw,tu,wv,n,s,t,ps,rs,R,hs,rfl,_⟩:=z
   rfl
 . obtain⟨d,l,D,h,lw,tu,wv,n,sd,t,ps,rs,R,hs,rfl,hd,nD,lh,hlw,htu,⟨tq,hP⟩,⟨tp,hPP⟩,q⟩:=z
   have r1:qS 1 _:=hr.mono (by decide)
   have r2:qS 2 _:=hr.mono (by decide)
   have r9:qS 9 _:=hr.mono (by decide)
   have r14:qS 14 _:=hr
   refine⟨_,qe (qy (i:=5) X5.nd rfl (Or.inl rfl) (qH hPl GPl r9 (by rfl) (qb (J4 C.mkr GI (hr.mono (by decide)) (by rfl) C.ns C.bi .nil Q4 (qb (ju Qu (by rfl) G.lst boot_list (qb (jv 1) qf)) qf)) qf)))
     (qe (qy (i:=6) X5.nd rfl (Or.inl rfl) (qM jz (jv 4) (qi) (λ_ _=>rfl)))
     (qe (jd PassesOwn.never rfl (jM (by rfl) B.rng (qb qi qf)) (qv (i:=7) X5.nd rfl (Or.inl rfl))
       (qe (qy (i:=8) X5.nd rfl (Or.inl rfl) (qH hM GMv r1 (by rfl) (qb (jv 1) (qb (jv 3) qf))))
     (qe (qO (qt (wu hr.units) (jv 8) (jA qf) (qB _)) (qg (qw (jT jp (jv 6) qi (qB _)))) (qC))
     (qe (qO (qt jp (jv 6) (qi) (qB _)) (qe (qy (i:=9) X5.nd rfl (Or.inl rfl) (qH hO GO r1 (by rfl) (qb (jv 2) (qb (jv 3) qf))))
     (qe (qy (i:=10) X5.nd rfl (Or.inl rfl) (uh (x:="_law_own") (i:=5) rfl (Or.inl rfl) (λf fd sp c=>⟨14,_,(CT f fd sp c).1,r14,(CT f fd sp c).2⟩) (QO.s Q4) (qb (ju Qu (by rfl) G.lst boot_list (qb (jv 3) qf)) qf)))
     (qe (qO (JW.pt (ZM (qt (ya hr.units) (jv 10) (jv 8) (by with_unfolding_all rfl)) (Jw (qt jp (jv 9) (qP) (qB _))))) (q4) (qC))
     (qe (qy (i:=3) X5.nd rfl (Or.inl rfl) (qH hA GA r1 (by rfl) (qb (jv 3) (qb (jv 10) qf))))
     (qg (qO (qt wp (qH hO GO r1 (by rfl) (qb (jv 2) (qb (jv 3) qf))) (qM jz (jA (qb (jv 9) (qb qP qf))) (ju ZC (by rfl) B.int boot_int (qb (jT jp (jv 9) qP (qB _)) qf)) (λ_ _=>rfl)) (qB _)) (q4) (qC))))))) (qg (qy (i:=3) X5.nd rfl (Or.inl rfl) (qH hA GA r1 (by rfl) (qb (jv 3) (qb (qH hN GN r2 (by rfl) (qb (jv 0) (qb (jv 1) (qb (jv 2) (qb (jv 3) (qb (qM jz (jv 4) (qi) (λ_ _=>rfl)) qf)))))) qf))))))
     (qg (qy (i:=6) X5.nd rfl (Or.inl rfl) (qT wm qi (jv 6))))))))
     (qg (qw Qg)))),?_⟩
   have ga:=lh.1
   have good:=ga.good
   have all:=lh.2.2.1
   have hh:=lh.2.2.2
   refine⟨_,rfl,l,_,rfl,.inl (.of ga.at_),λl2 f2 x dx hx hdx ndx=>?_⟩
   refine yy ga.at_ ga.rows good ga.pos ga.le f2 hx hdx ndx λH4 s4 gr=>?_
   refine⟨x,rs,rfl,gr,good,ga.le,⟨tp,s4 _ _ hPP⟩,λH5 fo fdo D2 R2 s5 lb2 all2 clo=>?_⟩
   obtain rfl:=All.uniq good.nd all all2
   have s05:=s4.trans s5
   have hd5:=s05 _ _ hd
   have lh5:=lh.mono s05
   have gr5:=gr.mono s5
   have nD2:D2≠d:=λe=>by
     obtain⟨kvs,a,_,c⟩:=lb2.at_
     rw[e,hd5]at a
     obtain⟨r,hr'⟩:=zbJ ga.pos
     obtain⟨q',a5,_⟩:=c r hr'
     rw[<-(HO.dK.inj (tO.inj a))]at a5
     exact vt a5
   have atG:∀{G':Hp},Fr H5 d G'->jO G' l ps rs/\je G' D rs R/\je G' D2 rs R/\Qi CG G' x rs/\G' PT=some (.tbl #[.str z7 tq])/\G' lw=some (.lst [.int (tu:Nat),.int wv])/\R9 G' PP fo "tell" Jn QQ fdo [(Str.ofString "ground",.ref x),(Str.ofString "labels",.ref D2)]:=λfr=>⟨lh5.1.fr' hd5 fr,lh5.2.1.fr hd5 nD fr,lb2.fr hd5 nD2 fr,gr5.frd ga.pos hd5 fr,j4 fr hd5 (s05 _ _ hP) (λ_ z=>nomatch z),j4 fr hd5 (s05 _ _ hlw) (λ_ z=>nomatch z),clo.mono λb o u hb=>j4 fr hd5 hb (λ_ z=>nomatch z)⟩
   have dec:∀a b:Str,a=b->decide (V.str a=V.str b)=true:=λa b e=>decide_eq_true (by rw[e])
   have ndec:∀a b:Str,a≠b->decide (V.str a=V.str b)=false:=λa b e=>decide_eq_false λz=>e (V.str.inj z)
   refine⟨_,rfl,lw,_,0,.int (tu:Nat),rfl,rfl,.of (s05 _ _ hlw),rfl,40,rfl,by decide,by decide,?_⟩
   refine Q0 (n:=40) (λi σ G'=>∃(hh':Addr) (hs':List Str) (tu':Nat) (v7 v8 v9 v10:Option V) (n' t':Int),σ=[some (.ref d),some (.ref l),some (.ref D),some (.ref hh'),some (.ref lw),some (.ref fo),some (.int (tu':Nat)),v7,v8,v9,v10]/\Fr H5 d G'/\G' d=some (.dK (src n' sd t'))/\jG G' hh' rs hs'/\((tu'=0/\oW rs R hs'≠wL)\/(tu'=1/\oW rs R hs'≠wW))) ⟨h,hs,tu,_,_,_,_,n,t,rfl,Fr.refl,hd5,hh.mono s05,htu⟩ ?_ ?_
   . rintro i σ G1 hi ⟨hh',hs',tu',v7,v8,v9,v10,n',t',rfl,fr1,hd1,hp1,htu1⟩
     obtain⟨ga1,lb1,lc1,gr1,tb1,lw1,cl1⟩:=atG fr1
     refine⟨_,rfl,_,rfl,l,hh',ps,rs,hs',rfl,ga1,hp1,λGa L qs sa nL hL mv=>⟨_,rfl,by show 0<=sizeLine;decide,λle fle=>?_⟩⟩
     have sb:=qk (o:=HO.lst []) fle
     have hle:upd Ga le (HO.lst []) le=some (.lst []):=qd
     generalize upd Ga le (HO.lst [])=Gb at sb hle
     have sab:=sa.trans sb
     have hLb:=sb _ _ hL
     have mvb:=mv.mono sb
     refine⟨dM (mvs rs hs' hs'.length),.list [],qbZ hLb mvb,.lst (.of hle) .nil,qbn (V4 good hp1.in_),M3,_,rfl,?_⟩
     rw[uD]
     by_cases e0:mvs rs hs' hs'.length=[]
     . rw[e0]
       have ol:=yw good all hp1.in_ e0
       have t1:tu'=1:=by rcases htu1 with ⟨_,c⟩ | ⟨c,_⟩;exact absurd ol c;exact c
       refine Qe ⟨_,rfl,rfl,?_⟩
       rw[t1]
       exact q _ n' t' (sab _ _ hd1) λb o hb nb=>sab _ _ (fr1 b o (s05 _ _ hb) nb)
     . have ne:0 < (mvs rs hs' hs'.length).length:=zbF.mpr e0
       refine qZ (by cases c:mvs rs hs' hs'.length<;>first | exact absurd c e0 | rfl) ⟨_,rfl,rfl,_,rfl,?_⟩
       have frb:Fr H5 d Gb:=fr1.same sab
       obtain⟨gab,lbb,lcb,grb,tbb,lwb,clb⟩:=atG frb
       have hpb:=hp1.mono sab
       have hdb:=sab _ _ hd1
       have l8:=hp1.le
       rcases htu1 with ⟨rfl,nl⟩ | ⟨rfl,nw⟩
       ·
         refine jk (decide_eq_true rfl) ⟨_,rfl,_,rfl,D,hh',rs,R,hs',rfl,lbb,hpb,V0 good all hp1.in_,λGc sc=>?_⟩
         have frc:=frb.same sc
         obtain⟨gac,lbc,lcc,grc,tbc,lwc,clc⟩:=atG frc
         have hpc:=hpb.mono sc
         obtain⟨doc,pm,ctv,c',cl',oc,efd,hfo,_⟩:=clc.ex
         refine⟨fo,fdo,UD CG PT PP fo fdo,rfl,⟨⟨doc,pm,ctv,c',cl',efd⟩,rfl⟩,hfo,_,rfl,hh',_,rfl,.inl (.of hpc.at_),λkp fkp=>?_⟩
         have sk:=qk (o:=HO.lst (hs'.map V.str)) fkp
         have yk:upd Gc kp (HO.lst (hs'.map V.str)) kp=some (.lst (hs'.map V.str)):=qd
         generalize upd Gc kp (HO.lst (hs'.map V.str))=Gk at sk yk
         have frk:=frc.same sk
         obtain⟨gak,lbk,lck,grk,tbk,lwk,clk⟩:=atG frk
         refine⟨sk _ _ hfo,_,clk,x,D2,kp,rs,R,hs',rfl,rfl,⟨grk,good,ga.le,⟨yk,l8,hp1.in_⟩⟩,lck,all,nl,⟨tq,tbk⟩,λGd p m sd' hp pm=>?_⟩
         have skd:=sk.trans sd'
         have scd:=sc.trans skd
         obtain⟨hm,ho⟩:m∈mvs rs hs' hs'.length/\((oW rs R hs'=wW/\oW rs R (lf hs' m)=wL)\/(oW rs R hs'=wD/\oW rs R (lf hs' m)=wD)):=by
           rcases pm with ⟨c,bm⟩ | ⟨c,dm⟩
           . exact⟨bm.mem.1,.inl ⟨c,bm.mem.2⟩⟩
           . have:=Rn good all hp1.in_ c dm
             exact⟨this.1,.inr ⟨c,this.2⟩⟩
         have nmv:=V4 good hp1.in_
         have c1:(mD m).canLay0=true:=by
           show (true&&(PyData.strOk m.2&&true))=true
           rw[vZ (nmv m hm)]
           rfl
         have c3:(!((mvs rs hs' hs'.length).map mD).any λz=>PyData.eqv z (mD m))=false:=by
           have e:(((mvs rs hs' hs'.length).map mD).any λz=>PyData.eqv z (mD m))=true:=zbb.mpr ⟨mD m,tJ.mpr ⟨m,hm,rfl⟩,uC m⟩
           rw[e]
           rfl
         refine⟨_,rfl,_,rfl,mD m,(mvs rs hs' hs'.length).map mD,R8 hp,.lst (.of (scd _ _ hLb)) (ve (mvb.mono scd)),c1,U7 nmv,by show 1<=40;decide,_,rfl,qZ c3 ⟨_,rfl,rfl,_,rfl,qZ (ndec _ _ nl) ?_⟩⟩
         refine⟨_,rfl,_,rfl,hh',p,hs',m,rfl,scd _ _ hpb.at_,l8,hp,(QG hm).1,λGe hy se ny hhy=>?_⟩
         have fre:=frb.same (scd.trans se)
         obtain⟨gae,lbe,lce,gre,tbe,lwe,cle⟩:=atG fre
         have hin':=JK good hp1.in_ hm
         have he:jG Ge hy rs (lf hs' m):=⟨hhy,by unfold lf;rw[zbB];exact l8,hin'⟩
         refine⟨_,rfl,_,rfl,D,hy,rs,R,lf hs' m,rfl,lbe,he,V0 good all hin',λGf sf=>⟨_,rfl,by show 2<=sizeLine;decide,λll fll=>?_⟩⟩
         have sg:=qk (o:=HO.lst [V.str (oW rs R hs'),.str (Str.ofString "lost")]) fll
         have yg:upd Gf ll (HO.lst [V.str (oW rs R hs'),.str (Str.ofString "lost")]) ll=some (.lst [V.str (oW rs R hs'),.str (Str.ofString "lost")]):=qd
         generalize upd Gf ll (HO.lst [V.str (oW rs R hs'),.str (Str.ofString "lost")])=Gg at sg yg
         have sfg:=sf.trans sg
         have nowW:oW rs R (lf hs' m)≠wW:=by
           rcases ho with ⟨_,c⟩ | ⟨_,c⟩
           . rw[c];exact Y7
           . rw[c];exact Ne.symm Vv
         have eat:∃b,decide (V.str (oW rs R hs')=V.str (Str.ofString "won"))=b/\Um [V.str (oW rs R hs'),.str (Str.ofString "lost")] (if b=true then (1:Int) else 0)=some (.str (oW rs R (lf hs' m))):=by
           rcases ho with ⟨a,c⟩ | ⟨a,c⟩
           . exact⟨true,dec _ _ a,by rw[c];rfl⟩
           . refine⟨false,ndec _ _ (by rw[a];exact Ne.symm Vv),?_⟩
             rw[c,a]
             rfl
         obtain⟨b,eb,ea⟩:=eat
         refine⟨_,rfl,rfl,.inr ⟨b,by rw[eb],ll,_,_,.str (oW rs R (lf hs' m)),rfl,rfl,.of yg,ea,rfl,_,rfl,qZ (by rw[dec _ _ rfl];rfl) ?_⟩⟩
         exact⟨_,rfl,_,_,rfl,rfl,hy,lf hs' m,1,_,_,_,_,n',t',rfl,fre.same sfg,sfg _ _ (se _ _ (scd _ _ hdb)),he.mono sfg,.inr ⟨rfl,nowW⟩⟩
       ·
         refine qZ (decide_eq_false λz=>by have:=V.int.inj z;omega) ⟨_,rfl,_,rfl,_,rfl,_,rfl,_,rfl,_,rfl,lw,_,1,.int wv,rfl,rfl,.of lwb,rfl,d,l,D,hh',wv,n',sd,t',ps,rs,R,hs',rfl,hdb,⟨gab,lbb,all,hpb⟩,ne,λGc p m nc tc hmm hp hdc frc=>?_⟩
         refine⟨hh',p,hs',m,rfl,j4 frc hdb hpb.at_ (λ_ z=>nomatch z),l8,hp,(QG hmm).1,λGx h2 s2 n2 hh2=>⟨_,rfl,_,_,rfl,rfl,?_⟩⟩
         have no:oW rs R (lf hs' m)≠wL:=by
           rcases W7 (rs:=rs) (R:=R) (hs:=hs') with c | c | c
           . rw[(Gr good all hp1.in_ c hmm).1];exact Ne.symm Y7
           . exact absurd c nw
           . exact uI good all hp1.in_ c hmm
         exact⟨h2,lf hs' m,0,_,_,_,_,nc,tc,rfl,(frb.trans frc).same s2,s2 _ _ hdc,⟨hh2,by unfold lf;rw[zbB];exact l8,JK good hp1.in_ hmm⟩,.inl ⟨rfl,no⟩⟩
   . rintro σ G1 ⟨hh',hs',tu',v7,v8,v9,v10,n',t',rfl,fr1,hd1,_,_⟩
     exact q _ n' t' hd1 λb o hb nb=>fr1 b o (s05 _ _ hb) nb
end
open PySem L2 PyProof.Rows MLab Rb
theorem Mu {K:PySem.W.Frag} {H H':Hp} {p d:Addr} {ns:List Int} {kvs:List (qL×V)} (h:SqL K H p (ns.map V.int)) (hd:H d=some (.dK kvs)) (f:Fr H d H'):SqL K H' p (ns.map V.int):=by
 rcases h with (h | ⟨o,h⟩) | h
 . exact .inl (.inl (f _ _ h (λe=>by rw[e,hd]at h;cases h)))
 . exact .inl (.inr ⟨o,f _ _ h (λe=>by rw[e,hd]at h;cases h)⟩)
 . exact .inr h
theorem _root_.L2.SqL.mono {K:PySem.W.Frag} {H H':Hp} {p:Addr} {xs:List V} (h:SqL K H p xs) (s:qm H H'):SqL K H' p xs:=by
 rcases h with (h | ⟨o,h⟩) | h
 . exact .inl (.inl (s _ _ h))
 . exact .inl (.inr ⟨o,s _ _ h⟩)
 . exact .inr h
theorem qaA {r:Int} (h0:0<=r) (h1:r < 4):∃mo:Nat,Um [V.int 5,.int 7,.int 9,.int 14] r=some (.int (mo:Int))/\0 < mo/\mo<=14:=by
 have:r=0\/r=1\/r=2\/r=3:=by omega
 rcases this with rfl | rfl | rfl | rfl
 . exact⟨5,rfl,by decide,by decide⟩
 . exact⟨7,rfl,by decide,by decide⟩
 . exact⟨9,rfl,by decide,by decide⟩
 . exact⟨14,rfl,by decide,by decide⟩
theorem qaF {n jj:Int} (h0:0<=n) (h:(if (if (3:Int) < n then (3:Int) else n) > 2 then (if (3:Int) < n then (3:Int) else n) else 2)=jj):-(2^62)<=jj/\jj < 2^62:=by
 subst h
 split<;>split<;>omega
def Nh (K:PySem.W.Frag) (PT PP:Addr):Sp:=λvs H Q _=>∃(a:Addr) (ns:List Int),vs=[.ref a]/\SqL K H a (ns.map V.int)/\ns.length<=63/\H PT=some (.tbl #[.str z7 0])/\H PP=some (.tbl #[.str Jn 0])/\∀H',Q (.bl true) H'
section
variable {P:Program} {w:World} {K:PySem.W.Frag} {mg:Str->Option Value} {base:Heap}
abbrev qbF:List Str:=["_law_script","_law_k","_law_source_here","_law_rows_here","_law_labels_here","_law_heap_here","_law_found","_law_ways"]
theorem Yq:qp qbF ["_law_script"] (qh WX):=⟨rfl,rfl,rfl,by decide+kernel,rfl,by decide+kernel,by decide+kernel⟩
structure qaY (K:PySem.W.Frag) (mg:Str->Option Value):Prop where
 cell:∃f fd,qY K mg "_law_cell_at" vS ["_law_script","_law_k"] f fd
 source:∃f fd,qY K mg "_law_source" YM ["_law_cell"] f fd
 take:∃f fd,qY K mg "_law_take" Ys ["_law_source_here","_law_many"] f fd
 names:∃f fd,qY K mg "_law_names" Xk ["_law_source_here","_law_many"] f fd
 leads:∃f fd,qY K mg "_law_leads" Xm Xv f fd
 rows:∃f fd,qY K mg "_law_rows" vK ["_law_source_here","_law_most"] f fd
 need:∃f fd,qY K mg "need_rows" VL ["rows"] f fd
 nums:∃f fd,qY K mg "_law_numbers" JD ["_law_rows_here"] f fd
 comes:∃f fd,qY K mg "_law_comes" Zz k9 f fd
 back:∃f fd,qY K mg "_law_back" ZU k9 f fd
 labels:∃f fd,qY K mg "_law_labels" zi ["_law_rows_here"] f fd
 out:∃f fd,qY K mg "_law_outcome" Wj ["_law_labels_here","_law_heap_here"] f fd
 moves:∃f fd,qY K mg "_law_moves" Zy RU f fd
 aft:∃f fd,qY K mg "_law_after" Wm KO f fd
 ans:∃f fd,qY K mg "_law_answer" xU MD f fd
 play:∃f fd,qY K mg "_law_play" vL pPy f fd
structure qaX (K:PySem.W.Frag) (mg:Str->Option Value):Prop where
 wb:∃f fd,qY K mg "winning_by" Xi p3 f fd
 cb:∃f fd,qY K mg "count_by" ZV ["labels","heap"] f fd
 db:∃f fd,qY K mg "drawer_by" xT p3 f fd
 pb:∃f fd,qY K mg "player_by" kW p3 f fd
theorem NM {f fA c PT fPl cP PP CG:Addr} {fd fdA fdPl:FuncData} (F:jU K "law" "law" WX f fd) (hA:qY K mg "winner_by" Jt p3 fA fdA) (hc:fdA.code=.ref c) (TM:XX mg base c PT) (hPl:qY K mg "player" Qo ["ground"] fPl fdPl) (hcP:fdPl.code=.ref cP) (TMP:XX mg base cP PP) (h:WF K mg) (B:QF mg) (Zk:Wk K mg) (G:Qv mg) (T:QE K mg) (N:RC K mg) (M:GM K mg CG) (Y:RD K mg) (O:yZ K mg) (V1:uS K mg) (D1:MA K mg) (Q1:qaX K mg) (L:qaY K mg) (hdi:mg "dict"=none):ql P w K mg base qG 16 f fd ["_law_script"] (Nh K PT PP):=by
 obtain⟨fO,fdO,hO⟩:=L.cell
 obtain⟨fL,fdL,hL⟩:=L.source
 obtain⟨fT,fdT,hT⟩:=L.take
 obtain⟨fN,fdN,hN⟩:=L.names
 obtain⟨fD,fdD,hD⟩:=L.leads
 obtain⟨fR,fdR,hR⟩:=L.rows
 obtain⟨fW,fdW,hW⟩:=L.need
 obtain⟨f1,fd1,h1⟩:=L.nums
 obtain⟨f2,fd2,h2⟩:=L.comes
 obtain⟨f3,fd3,h3⟩:=L.back
 obtain⟨fLa,fdLa,hLa⟩:=L.labels
 obtain⟨f4,fd4,h4⟩:=L.out
 obtain⟨f5,fd5,h5⟩:=L.moves
 obtain⟨f6,fd6,h6⟩:=L.aft
 obtain⟨g2,gd2,k2⟩:=L.ans
 obtain⟨fPy,fdPy,hPy⟩:=L.play
 obtain⟨q1,qd1,e1⟩:=Q1.wb
 obtain⟨q2,qd2,e2⟩:=Q1.cb
 obtain⟨u1,ud1,c1⟩:=Q1.db
 obtain⟨u2,ud2,c2⟩:=Q1.pb
 obtain⟨q8,qd8,e8⟩:=O.place
 obtain⟨q9,qd9,e9⟩:=O.heap
 obtain⟨r8,rd8,d8⟩:=V1.lb
 obtain⟨r9,rd9,d9⟩:=V1.oby
 obtain⟨fB,fdB,hB⟩:=Y.labels
 obtain⟨fI,fdI,C⟩:=M.cls
 have GO:ql P w K mg base qG 1 fO fdO ["_law_script","_law_k"] (xE K):=Gi hO.fn B
 have GL:ql P w K mg base qG 1 fL fdL ["_law_cell"] VF:=yh hL.fn B
 have GT:ql P w K mg base qG 1 fT fdT ["_law_source_here","_law_many"] ZR:=zt hT.fn
 have GR:ql P w K mg base qG 3 fR fdR ["_law_source_here","_law_most"] xp:=KZ hR.fn B G hT hN hD
 have GI:ql P w K mg base qG 6 fI fdI ["self","rows"] (YI CG):=wO C B G T N hW
 have GLa:ql P w K mg base qG 4 fLa fdLa ["_law_rows_here"] RN:=UN hLa.fn B hdi h3 h2 h1
 have G4:ql P w K mg base qG 1 f4 fd4 ["_law_labels_here","_law_heap_here"] Xc:=K4 h4.fn B
 have G5:ql P w K mg base qG 1 f5 fd5 RU Z9:=yo h5.fn T hdi
 have G6:ql P w K mg base qG 1 f6 fd6 KO Xd:=K5 h6.fn
 have GB:ql P w K mg base qG 8 fB fdB ["ground"] (Xb CG):=yq hB.fn B G T M Y
 have E1:ql P w K mg base qG 11 q1 qd1 p3 (WN CG):=wz e1.fn h B Zk G T M O V1
 have E2:ql P w K mg base qG 1 q2 qd2 ["labels","heap"] WR:=V2 e2.fn T
 have D8:ql P w K mg base qG 1 r8 rd8 ["heap","move"] zT:=YO d8.fn G
 have D9:ql P w K mg base qG 9 r9 rd9 ["labels","heap"] VG:=wF d9.fn h B Zk O
 have E9:ql P w K mg base qG 3 q9 qd9 ["ground","heap"] (Z8 CG):=VX e9.fn B G T M e8 O.most
 have EA:ql P w K mg base qG 12 fA fdA p3 (WM CG PT):=wy hA.fn hc TM B G T e2 d8 e1 E1
 have J2:ql P w K mg base qG 2 g2 gd2 MD xF:=NQ k2.fn B hT h5 G5 h4 G4 h6 G6
 have ED:ql P w K mg base qG 5 u1 ud1 p3 (xD CG):=NP c1.fn h B G T M Y O V1 D1
 have EP:ql P w K mg base qG 13 u2 ud2 p3 (vA CG PT):=NI c2.fn d9 D9 hA EA c1 ED
 have EQ:ql P w K mg base qG 9 fPl fdPl ["ground"] (Xa CG PP):=yi hPl.fn hcP TMP hB GB
 have GPy:ql P w K mg base qG 15 fPy fdPy pPy (xq PT PP):=K0 hPy.fn B G C GI hPl EQ (Mp e9 E9 c2 EP) h5 G5 h4 G4 h6 G6 k2 J2
 refine F.okJ Yq (λvs H Q E z=>?_) (λcdv A outer s H vs Q E hr z=>?_)
 . obtain⟨a,ns,rfl,_⟩:=z
   rfl
 . obtain⟨a,ns,rfl,hq,hlen,htb,htp,k⟩:=z
   have hu:=jR hr
   have r1:qS 1 _:=hr.mono (by decide)
   have r3:qS 3 _:=hr.mono (by decide)
   have r4:qS 4 _:=hr.mono (by decide)
   have r15:qS 15 _:=hr
   refine⟨_,qe (jd PassesOwn.never rfl (jM (by rfl) B.rng (qb (qF (WB rfl) (by rfl) B.max boot_max (qb qi (qb (qF (yY rfl) (by rfl) B.min boot_min (qb (qF qR (by rfl) B.len boot_len (qb (jv 0) qf)) (qb qi qf))) qf))) qf)) (qv (i:=1) Yq.nd rfl (Or.inl rfl))
       (qe (qy (i:=2) Yq.nd rfl (Or.inr rfl) (qH hL GL r1 (by rfl) (qb (qH hO GO r1 (by rfl) (qb (jv 0) (qb (jv 1) qf))) qf)))
     (qe (qy (i:=3) Yq.nd rfl (Or.inr rfl) (qH hR GR r3 (by rfl) (qb (jv 2) (qb (qM jz (jA (qb qi (qb qi (qb qi (qb qi qf))))) (qH hT GT r1 (by rfl) (qb (jv 2) (qb qi qf))) (λ_ _=>rfl)) qf))))
     (qe (qy (i:=4) Yq.nd rfl (Or.inl rfl) (qH hLa GLa r4 (by rfl) (qb (jv 3) qf)))
     (qe (Jb (i:=5) (N':=["_law_j","_law_rows_here","_law_source_here"]) (ix:=[none,some 3,some 2])
     (te:=zR (zo K) (zR (NB K) (q5 1) (Ze ZR [] E0 (jo (q5 2) (jo (tCB (λxs H Q=>∃p ys,xs=[.ref p]/\(SqL K H p ys\/Y5 K H p ys)/\Q (.int ys.length) H) (jo (q5 1) Jj)) Jj)))) (tC (.int 0))) Yq.nd rfl (Or.inl rfl) rfl ⟨rfl,rfl,rfl,rfl,rfl⟩
     (jM (by rfl) B.rng (qb (qT QM qi (qH hT GT r1 (by rfl) (qb (jv 2) (qb qi qf)))) qf))
     (λC s2 H2 fp pins=>⟨qv (i:=0) (show (["_law_j","_law_rows_here","_law_source_here"]:List Str).Nodup by decide+kernel) rfl (Or.inl rfl),j2,
       qM qU (qM jz (jv 1) (qH hT GT r1 (by rfl) (qb (jv 2) (qb (qF qR (by rfl) B.len boot_len (qb (jv 1) qf)) qf))) (λ_ _=>rfl)) qi (λ_ _=>rfl)⟩))
     (qe (qy (i:=6) Yq.nd rfl (Or.inl rfl) (qH h4 G4 r1 (by rfl) (qb (jv 4) (qb (jv 5) qf))))
     (qe (qy (i:=7) Yq.nd rfl (Or.inl rfl) (jA (qb (qH hT GT r1 (by rfl) (qb (jv 2) (qb qi qf))) (qb (qH hT GT r1 (by rfl) (qb (jv 2) (qb qi qf))) qf))))
     (qe (qO (qt jp (jv 6) (qP) (qB _)) (qg (UZ qi (U0 (jv 7) qi Xg))) qC)
     (qe (qO (qt jp (jv 6) (qP) (qB _)) (qg (UZ qi (U0 (jv 7) qi Xg))) qC)
     (qg (qO (Jx (jZ (qH hPy GPy r15 (by rfl) (qb (jv 2) (qb (jv 3) (qb (jv 4) (qb (jv 5) (qb (jv 7) qf)))))))) (q4) qC)))))))))))
     (qg (qw Qg)),?_⟩
   refine⟨_,rfl,a,_,rfl,.inl hq,_,_,rfl,_,_,rfl,?_⟩
   generalize hj:(if (if (3:Int) < ((ns.map V.int).length:Int) then (3:Int) else ((ns.map V.int).length:Int)) > 2 then (if (3:Int) < ((ns.map V.int).length:Int) then (3:Int) else ((ns.map V.int).length:Int)) else 2)=jj
   have jb:=qaF (by omega) hj
   refine⟨jj,rfl,jb.1,jb.2,?_⟩
   refine Q0 (λi σ H'=>∃v1 v2 v3 v4 v5 v6 v7,σ=[some (.ref a),v1,v2,v3,v4,v5,v6,v7]/\SqL K H' a (ns.map V.int)/\H' PT=some (.tbl #[.str z7 0])/\H' PP=some (.tbl #[.str Jn 0])) ⟨_,_,_,_,_,_,_,rfl,hq,htb,htp⟩ ?_ ?_
   . rintro i σ H' hi ⟨v1,v2,v3,v4,v5,v6,v7,rfl,hq2,htb2,htp2⟩
     refine⟨_,rfl,_,rfl,a,ns,_,rfl,hq2,by omega,λc=>⟨c,rfl,λd n sd hd=>?_⟩⟩
     refine⟨_,rfl,by show 4<=sizeLine;decide,λlp hlp=>?_⟩
     have ndp:lp≠d:=λe=>by rw[e,qd]at hlp;cases hlp
     refine⟨_,rfl,d,4,n,sd,0,rfl,qr qd hlp,by decide,by decide,λr n1 t1 r0 r1'=>?_⟩
     obtain⟨mo,em,m0,m14⟩:=qaA r0 r1'
     refine⟨lp,_,r,_,rfl,rfl,.of (by rw[qj ndp];exact qd),em,d,mo,n1,sd,t1,rfl,qd,m0,m14,λl ps rs n2 t2 H2 hl hl2 rat good pos le hd2 fr2=>?_⟩
     have hlp':H' lp=none:=by rw[qj ndp]at hlp;exact hlp
     have sm:qm H' H2:=λb u hb=>by
       have nb:b≠d:=qA hb hd
       refine fr2 b u ?_ nb
       rw[qj nb,qj (qA hb hlp'),qj nb]
       exact hb
     have g2:jO H2 l ps rs:=⟨hl2,rat,good,pos,zag le m14⟩
     refine⟨_,rfl,l,ps,rs,rfl,g2,λH3 D' R s3 nD lb all=>?_⟩
     have D'd:D'≠d:=λe=>by rw[e,hd2]at nD;cases nD
     have hd3:=s3 _ _ hd2
     have sm3:=sm.trans s3
     have g3:=g2.mono s3
     have hq3:=hq2.mono sm3
     have tb3:=sm3 _ _ htb2
     have tp3:=sm3 _ _ htp2
     have atG:∀{G':Hp},Fr H3 d G'->jO G' l ps rs/\je G' D' rs R/\SqL K G' a (ns.map V.int)/\G' PT=some (.tbl #[.str z7 0])/\G' PP=some (.tbl #[.str Jn 0]):=λfr=>⟨g3.fr' hd3 fr,lb.fr hd3 D'd fr,Mu hq3 hd3 fr,j4 fr hd3 tb3 (λ_ z=>nomatch z),j4 fr hd3 tp3 (λ_ z=>nomatch z)⟩
     refine⟨_,rfl,d,6,n2,sd,t2,rfl,hd3,by decide,by decide,λr' n3 t3 r0' r1''=>⟨_,_,rfl,rfl,1+r',rfl,by omega,by omega,λDl hDl=>?_⟩⟩
     have nDd:Dl≠d:=λe=>by rw[e,qd]at hDl;cases hDl
     have hD0:H3 Dl=none:=by rw[qj nDd]at hDl;exact hDl
     refine JQ (λi σ' H'=>∃(v:Option V) (n' t':Int) (hs:List Str),σ'=[v,some (.ref l),some (.ref d)]/\H' d=some (.dK (src n' sd t'))/\H' Dl=some (.lst (hs.map V.str))/\hs.length=i/\(∀z∈hs,∃r∈rs,r.1=z)/\Fr H3 d H')
       ⟨none,n3,t3,[],rfl,?_,qd,rfl,λ_ h=>(nomatch h),(Fr.refl.at_d).new hDl⟩ ?_ ?_
     . rw[qj (Ne.symm nDd)]
       exact qd
     . rintro i σ' H' hi ⟨v,n',t',hs,rfl,hd',hD',hl,ha,fr⟩
       have g':=g3.fr' hd3 fr
       have pl:(ps.map V.ref).length=rs.length:=by rw[tj,g3.rows.1]
       have le:=g3.le
       have ps0:=g3.pos
       refine⟨_,rfl,_,rfl,_,rfl,l,_,rfl,.inl (.of g'.at_),d,((ps.map V.ref).length:Nat),n',sd,t',rfl,hd',by rw[pl];omega,?_,λr n3 t3 r0 r1=>?_⟩
       . rw[pl]
         have:rs.length < 2^200:=zap le (by decide)
         omega
       obtain⟨x,ex,gx⟩:=atI_get r0 r1
       obtain⟨p,qq,r',rfl,er,hr',ea,eb⟩:=g'.rows.item gx
       have ndl:l≠d:=λe=>by
         have:=g'.at_
         rw[e,hd']at this
         cases this
       have ndp:p≠d:=λe=>by rw[e,hd']at ea;cases ea
       refine⟨l,_,r,_,rfl,rfl,.of (by rw[qj ndl];exact g'.at_),ex,p,_,0,_,rfl,rfl,.of (by rw[qj ndp];exact ea),rfl,_,by rw[qj nDd];exact hD',?_,_,n3,t3,hs++[r'.1],rfl,?_,?_,?_,?_,?_⟩
       . rw[tj,hl]
         exact qo (by omega)
       . rw[qj (Ne.symm nDd)];exact qd
       . rw[qd,tN];rfl
       . rw[tL,hl];rfl
       . intro z hz
         rcases tV.mp hz with h | h
         . exact ha z h
         . obtain rfl:=zae.mp h
           exact⟨r',hr',rfl⟩
       . exact(fr.at_d).own hD0
     . rintro σ' H4 ⟨v,n4,t4,hs,rfl,hd4,hD4,hl,ha,fr4⟩
       have l6:hs.length<=6:=by omega
       have hp4:jG H4 Dl rs hs:=⟨hD4,by omega,ha⟩
       obtain⟨g4,lb4,_,_,_⟩:=atG fr4
       refine⟨_,rfl,_,rfl,D',Dl,rs,R,hs,rfl,lb4,hp4,V0 good all ha,λH5 s5=>?_⟩
       have hd5:=s5 _ _ hd4
       refine⟨_,rfl,d,2,n4,sd,t4,rfl,hd5,by decide,by decide,λw0 n6 t6 a0 a1=>?_⟩
       have fr6:Fr H5 d (upd H5 d (.dK (src n6 sd t6))):=Fr.refl.at_d
       have hd6:upd H5 d (.dK (src n6 sd t6)) d=some (.dK (src n6 sd t6)):=qd
       generalize upd H5 d (.dK (src n6 sd t6))=H6 at fr6 hd6
       refine⟨_,rfl,d,2,n6,sd,t6,rfl,hd6,by decide,by decide,λw1 n7 t7 b0 b1=>?_⟩
       have fr7:Fr H6 d (upd H6 d (.dK (src n7 sd t7))):=Fr.refl.at_d
       have hd7:upd H6 d (.dK (src n7 sd t7)) d=some (.dK (src n7 sd t7)):=qd
       generalize upd H6 d (.dK (src n7 sd t7))=H7 at fr7 hd7
       have fr47:Fr H4 d H7:=(Fr.trans (λb o hb _=>s5 b o hb) fr6).trans fr7
       have fr37:Fr H3 d H7:=fr4.trans fr47
       have hD7:=j4 fr47 hd4 hD4 (λ_ z=>nomatch z)
       obtain⟨u0,rfl⟩:∃u0:Nat,w0=(u0:Int):=⟨w0.toNat,by omega⟩
       refine⟨by show 2<=sizeLine;decide,λlw flw=>?_⟩
       have nld:lw≠d:=λe=>by rw[e,hd7]at flw;cases flw
       have nlD:Dl≠lw:=λe=>by rw[e,flw]at hD7;cases hD7
       have l30:H3 lw=none:=fr37.fresh hd7 flw
       have y8:upd H7 lw (HO.lst [V.int (u0:Nat),.int w1]) lw=some (.lst [V.int (u0:Nat),.int w1]):=qd
       have fr8:Fr H3 d (upd H7 lw (HO.lst [V.int (u0:Nat),.int w1])):=fr37.own l30
       have hd8:upd H7 lw (HO.lst [V.int (u0:Nat),.int w1]) d=some (.dK (src n7 sd t7)):=by rw[qj (Ne.symm nld)];exact hd7
       have hD8:upd H7 lw (HO.lst [V.int (u0:Nat),.int w1]) Dl=some (.lst (hs.map V.str)):=by rw[qj nlD];exact hD7
       generalize upd H7 lw (HO.lst [V.int (u0:Nat),.int w1])=H8 at y8 fr8 hd8 hD8
       refine⟨_,rfl,rfl,_,rfl,?_⟩
       have dec:∀a b:Str,a=b->decide (V.str a=V.str b)=true:=λa b e=>decide_eq_true (by rw[e])
       have ndec:∀a b:Str,a≠b->decide (V.str a=V.str b)=false:=λa b e=>decide_eq_false λz=>e (V.str.inj z)
       have putd:∀v:V,upd H8 lw (HO.lst [v,.int w1]) d=some (.dK (src n7 sd t7)):=λv=>by rw[qj (Ne.symm nld)];exact hd8
       have putD:∀v:V,upd H8 lw (HO.lst [v,.int w1]) Dl=some (.lst (hs.map V.str)):=λv=>by rw[qj nlD];exact hD8
       rcases W7 (rs:=rs) (R:=R) (hs:=hs) with c | c | c
       case' inl=>
         refine qZ (ndec _ _ λz=>Y7 (c.symm.trans z)) ⟨_,rfl,rfl,_,rfl,jk (dec _ _ c) ⟨_,rfl,lw,_,0,0,rfl,rfl,y8,rfl,?_⟩⟩
         have frx:Fr H3 d (upd H8 lw (HO.lst [V.int ((1:Nat):Int),.int w1])):=fr8.own l30
         have hdx:=putd (V.int ((1:Nat):Int))
         have hDx:=putD (V.int ((1:Nat):Int))
         have hlx:upd H8 lw (HO.lst [V.int ((1:Nat):Int),.int w1]) lw=some (.lst [V.int ((1:Nat):Int),.int w1]):=qd
         have htu:(1=0/\oW rs R hs≠wL)\/(1=1/\oW rs R hs≠wW):=.inr ⟨rfl,by rw[c];exact Y7⟩
       case' inr.inl=>
         refine jk (dec _ _ c) ⟨_,rfl,lw,_,0,0,rfl,rfl,y8,rfl,⟨_,rfl,rfl,_,rfl,qZ (ndec _ _ λz=>Y7 (z.symm.trans c)) ?_⟩⟩
         have frx:Fr H3 d (upd H8 lw (HO.lst [V.int ((0:Nat):Int),.int w1])):=fr8.own l30
         have hdx:=putd (V.int ((0:Nat):Int))
         have hDx:=putD (V.int ((0:Nat):Int))
         have hlx:upd H8 lw (HO.lst [V.int ((0:Nat):Int),.int w1]) lw=some (.lst [V.int ((0:Nat):Int),.int w1]):=qd
         have htu:(0=0/\oW rs R hs≠wL)\/(0=1/\oW rs R hs≠wW):=.inl ⟨rfl,by rw[c];exact Ne.symm Y7⟩
       case' inr.inr=>
         refine qZ (ndec _ _ λz=>Vv (z.symm.trans c)) ⟨_,rfl,rfl,_,rfl,qZ (ndec _ _ λz=>vi (z.symm.trans c)) ?_⟩
         have frx:=fr8
         have hdx:=hd8
         have hDx:=hD8
         have hlx:=y8
         have htu:(u0=0/\oW rs R hs≠wL)\/(u0=1/\oW rs R hs≠wW):=by
           have:u0=0\/u0=1:=by omega
           rcases this with e | e
           . exact .inl ⟨e,by rw[c];exact Ne.symm vi⟩
           . exact .inr ⟨e,by rw[c];exact Ne.symm Vv⟩
       all_goals
         obtain⟨gx,lx,qx,tx,ty⟩:=atG frx
         refine⟨_,rfl,_,rfl,_,rfl,_,rfl,_,rfl,d,l,D',Dl,lw,_,w1,n7,sd,t7,ps,rs,R,hs,rfl,hdx,D'd,⟨gx,lx,all,⟨hDx,by omega,ha⟩⟩,hlx,htu,⟨_,tx⟩,⟨_,ty⟩,λG5 n' t' hd' fr'=>⟨_,rfl,jB ?_⟩⟩
         obtain⟨gz,lz,qz,tz,tw⟩:=atG (frx.trans fr')
         exact⟨_,_,_,_,_,_,_,rfl,qz,tz,tw⟩
   . rintro σ H' ⟨v1,v2,v3,v4,v5,v6,v7,rfl,hq2,htb2,htp2⟩
     exact k _
end
open PySem L2 PyProof.Rows MLab
theorem kss {K:PySem.W.Frag}:zaT K (.type "str") (.type "str")=some true:=by kernel_rfl
theorem ktt {K:PySem.W.Frag}:zaT K (.type "tuple") (.type "tuple")=some true:=by kernel_rfl
theorem kll {K:PySem.W.Frag}:zaT K (.type "list") (.type "list")=some true:=by kernel_rfl
theorem kii {K:PySem.W.Frag}:zaT K (.type "int") (.type "int")=some true:=by kernel_rfl
theorem kib {K:PySem.W.Frag}:zaT K (.type "int") (.type "bool")=some false:=by kernel_rfl
section
variable {K:PySem.W.Frag}
def MF (K:PySem.W.Frag) (n q:Str) (s:Stmt) (f:Addr):Prop:=∃fd,jU K n q s f fd
theorem MF.mk' {x qual:Str} {st:Stmt} {f:Addr} {oc:Value} {od an:Option Addr} {osl:Array (Option Value)} {kV doc pm cdv ct:Value} (l:K.lookup f=some ⟨oc,od,.func (zbd x qual (Qc st) (jq st) (qh st) .none kV doc pm an cdv ct),osl⟩) (c:zbv K cdv qual=true) (k:zaH K (.ref f)=true):MF K x qual st f:=⟨_,XN l c k⟩
def HF (K:PySem.W.Frag) (n:Str) (s:Stmt) (f:Addr):Prop:=zaj K mainGlobals n=some (some (.ref f))/\MF K n n s f
theorem HF.mk' {x:Str} {st:Stmt} {f:Addr} {oc:Value} {od an:Option Addr} {osl:Array (Option Value)} {kV doc pm cdv ct:Value} (a:zaj K mainGlobals x=some (some (.ref f))) (l:K.lookup f=some ⟨oc,od,.func (zbd x x (Qc st) (jq st) (qh st) .none kV doc pm an cdv ct),osl⟩) (c:zbv K cdv x=true) (k:zaH K (.ref f)=true):HF K x st f:=⟨a,_,XN l c k⟩
theorem HF.has {h:Heap} {mg:Str->Option Value} {n:Str} {s:Stmt} {f:Addr} {ps:List Str} (l:HF K n s f) (X:K.In h) (G:h.Ns mainGlobals mg) (b:∀{fd},jU K n n s f fd->jP K fd ps []):∃fd,qY K mg n s ps f fd:=let ⟨a,fd,F⟩:=l;⟨fd,F,zaQ X G a,b F⟩
end
theorem at0 {a:Addr} {l:List Addr}:(a::l)[0]?=some a:=rfl
theorem at1 {a b:Addr} {l:List Addr}:(a::b::l)[1]?=some b:=rfl
def UF (K:PySem.W.Frag) (tabs:List Uq):Sp:=λvs H Q _=>∃(a:Addr) (ns:List Int),vs=[.ref a]/\SqL K H a (ns.map V.int)/\ns.length<=63/\(∀t∈tabs,H t.P=some (.tbl #[.str t.q 0]))/\∀H',Q (.bl true) H'
theorem all_mk {l:PySem.W.OpenLaw} {w:World} {K:PySem.W.Frag} {h:Heap} {mg:Str->Option Value} {fa:Addr} (X:K.In h) (G:h.Ns mainGlobals mg) (hfa:mg "law"=some (.ref fa))
   {fO fL fT fN fD fR fA1 fA2 fA3 fA4 fA5 fA6 fA7 fA8 fB1 fB2 fB3 fB4 fB5 fB6 fB7 fB8 fW1 fW2 fW3 fW4 fW5 fW6 fP1 fP2 fP3 fP4 fP5 fP6 fP7 fP8 fQ1 fQ2 fQ4 fQ5 fD1 fD2 fD3 fD4 fD5 fD6 fE2 fE3 fE4 fE5 fE6 fE7 fE8 fED fEE fCGi fCGM fCGF fCNi fCNO fCNP fCNE fCEi fCEO fCEP fCEE:Addr}
   {fLAW:Addr} {odLAW anLAW:Option Addr} {slLAW:Array (Option Value)} {ocLAW kVLAW dcLAW pmLAW cdLAW ctLAW:Value}
   {CG:Addr}
   {CN:Addr}
   {CE:Addr}
   {tm1:Tok}
   {tm2:Tok}
   {tm3:Tok}
   {tm4:Tok}
   {tm5:Tok}
   {tm6:Tok}
   {tm7:Tok}
   {ts:List Addr} {fMK cMK PMK fMP cMP PMP:Addr} {ocMK kVMK dcMK pmMK ctMK oc2MK ocMP kVMP dcMP pmMP ctMP oc2MP:Value} {odMK anMK od2MK odMP anMP od2MP:Option Addr} {slMK sl2MK slMP sl2MP:Array (Option Value)} {vsMK vsMP:Array Value}
   (lO:HF K "_law_cell_at" vS fO)
   (lL:HF K "_law_source" YM fL)
   (lT:HF K "_law_take" Ys fT)
   (lN:HF K "_law_names" Xk fN)
   (lD:HF K "_law_leads" Xm fD)
   (lR:HF K "_law_rows" vK fR)
   (lA1:HF K "is_name" zg fA1)
   (lA2:HF K "is_tuple_of_names" Wi fA2)
   (lA3:HF K "is_row" Xo fA3)
   (lA4:HF K "need_form" vP fA4)
   (lA5:HF K "need_own_names" Kx fA5)
   (lA6:HF K "need_ends" vQ fA6)
   (lA7:HF K "need_few_roads" Kz fA7)
   (lA8:HF K "need_rows" VL fA8)
   (lB1:HF K "lacking" Qp fB1)
   (lB2:HF K "set_of" zY fB2)
   (lB3:HF K "numbers_behind" RQ fB3)
   (lB4:HF K "gets_number" Xp fB4)
   (lB5:HF K "round_of" zZ fB5)
   (lB6:HF K "give_number" VO fB6)
   (lB7:HF K "give_numbers" WY fB7)
   (lB8:HF K "labels_of" zh fB8)
   (lW1:HF K "is_whole" Zf fW1)
   (lW2:HF K "is_number" zf fW2)
   (lW3:HF K "is_set" Xn fW3)
   (lW4:HF K "set_turned" YL fW4)
   (lW5:HF K "numbers_in" ZS fW5)
   (lW6:HF K "sum_of" Xj fW6)
   (lP1:HF K "need_place" z5 fP1)
   (lP2:HF K "need_heap" ZT fP2)
   (lP3:HF K "label_worth" sLW fP3)
   (lP4:HF K "worth_by" Kw fP4)
   (lP5:HF K "moves_of" Zg fP5)
   (lP6:HF K "left_by" Yt fP6)
   (lP7:HF K "outcome_by" xR fP7)
   (lP8:HF K "outcomes_by" vM fP8)
   (lQ1:HF K "winning_by" Xi fQ1)
   (lQ2:HF K "count_by" ZV fQ2)
   (lQ4:HF K "drawer_by" xT fQ4)
   (lQ5:HF K "player_by" kW fQ5)
   (lD1:HF K "summed" Zx fD1)
   (lD2:HF K "is_open_to" zj fD2)
   (lD3:HF K "open_roads" WV fD3)
   (lD4:HF K "endless_in" xS fD4)
   (lD5:HF K "numbers_sum" VM fD5)
   (lD6:HF K "makes_sum" Ky fD6)
   (lE2:HF K "_law_numbers" JD fE2)
   (lE3:HF K "_law_comes" Zz fE3)
   (lE4:HF K "_law_back" ZU fE4)
   (lE5:HF K "_law_labels" zi fE5)
   (lE6:HF K "_law_outcome" Wj fE6)
   (lE7:HF K "_law_moves" Zy fE7)
   (lE8:HF K "_law_after" Wm fE8)
   (lED:HF K "_law_answer" xU fED)
   (lEE:HF K "_law_play" vL fEE)
   (aLAW:zaj K mainGlobals "law"=some (some (.ref fLAW)))
   (lLAW:K.lookup fLAW=some ⟨ocLAW,odLAW,.func (zbd "law" "law" (Qc WX) (jq WX) (qh WX) .none kVLAW dcLAW pmLAW anLAW cdLAW ctLAW),slLAW⟩)
   (cLAW:zbv K cdLAW "law"=true)
   (kLAW:zaH K (.ref fLAW)=true)
   (nCG:zaj K mainGlobals "Ground"=some (some (.ref CG)))
   (pgCG:zbs K CG Str.empty=true)
   (hdCG:zbC K CG=true)
   (poCG:zbR K CG=true)
   (saCG:zaf K (.ref CG) "__setattr__"=some (some (.builtin "object.__setattr__")))
   (mkCG:zck K CG=true)
   (inCG:zaf K (.ref CG) "__init__"=some (some (.ref fCGi)))
   (fiCG:zaS K (.ref fCGi)=true)
   (kcCG:zaH K (.ref CG)=true)
   (noCG:zaf K (.ref CG) "order"=some none)
   (nrCG:zaf K (.ref CG) "roads"=some none)
   (lCGi:MF K "__init__" "Ground.__init__" UL fCGi)
   (atCGM:zaf K (.ref CG) "names"=some (some (.ref fCGM)))
   (fnCGM:zaS K (.ref fCGM)=true)
   (lCGM:MF K "names" "Ground.names" zk fCGM)
   (atCGF:zaf K (.ref CG) "roads_from"=some (some (.ref fCGF)))
   (fnCGF:zaS K (.ref fCGF)=true)
   (lCGF:MF K "roads_from" "Ground.roads_from" Xq fCGF)
   (nCN:zaj K mainGlobals "Numbered"=some (some (.ref CN)))
   (pgCN:zbs K CN Str.empty=true)
   (hdCN:zbC K CN=true)
   (poCN:zbR K CN=true)
   (saCN:zaf K (.ref CN) "__setattr__"=some (some (.builtin "object.__setattr__")))
   (mkCN:zck K CN=true)
   (inCN:zaf K (.ref CN) "__init__"=some (some (.ref fCNi)))
   (fiCN:zaS K (.ref fCNi)=true)
   (kcCN:zaH K (.ref CN)=true)
   (naCN:zaf K (.ref CN) "number"=some none)
   (lCNi:MF K "__init__" "Numbered.__init__" Xl fCNi)
   (caCN:zaf K (.ref CN) "__class__"=some (some (.builtin "object.__class__")))
   (obCN:zdc K CN (.type "object")=some true)
   (atCNO:zaf K (.ref CN) "outcome"=some (some (.ref fCNO)))
   (fnCNO:zaS K (.ref fCNO)=true)
   (lCNO:MF K "outcome" "Numbered.outcome" vO fCNO)
   (atCNP:zaf K (.ref CN) "plus"=some (some (.ref fCNP)))
   (fnCNP:zaS K (.ref fCNP)=true)
   (lCNP:MF K "plus" "Numbered.plus" WW fCNP)
   (atCNE:zaf K (.ref CN) "is_endless"=some (some (.ref fCNE)))
   (fnCNE:zaS K (.ref fCNE)=true)
   (lCNE:MF K "is_endless" "Numbered.is_endless" VN fCNE)
   (nCE:zaj K mainGlobals "Endless"=some (some (.ref CE)))
   (pgCE:zbs K CE Str.empty=true)
   (hdCE:zbC K CE=true)
   (poCE:zbR K CE=true)
   (saCE:zaf K (.ref CE) "__setattr__"=some (some (.builtin "object.__setattr__")))
   (mkCE:zck K CE=true)
   (inCE:zaf K (.ref CE) "__init__"=some (some (.ref fCEi)))
   (fiCE:zaS K (.ref fCEi)=true)
   (kcCE:zaH K (.ref CE)=true)
   (naCE:zaf K (.ref CE) "bits"=some none)
   (lCEi:MF K "__init__" "Endless.__init__" Xr fCEi)
   (caCE:zaf K (.ref CE) "__class__"=some (some (.builtin "object.__class__")))
   (obCE:zdc K CE (.type "object")=some true)
   (atCEO:zaf K (.ref CE) "outcome"=some (some (.ref fCEO)))
   (fnCEO:zaS K (.ref fCEO)=true)
   (lCEO:MF K "outcome" "Endless.outcome" vR fCEO)
   (atCEP:zaf K (.ref CE) "plus"=some (some (.ref fCEP)))
   (fnCEP:zaS K (.ref fCEP)=true)
   (lCEP:MF K "plus" "Endless.plus" WZ fCEP)
   (atCEE:zaf K (.ref CE) "is_endless"=some (some (.ref fCEE)))
   (fnCEE:zaS K (.ref fCEE)=true)
   (lCEE:MF K "is_endless" "Endless.is_endless" VP fCEE)
   (zlen:zaj K mainGlobals "len"=some none)
   (zmax:zaj K mainGlobals "max"=some none)
   (zmin:zaj K mainGlobals "min"=some none)
   (zint:zaj K mainGlobals "int"=some none)
   (zrange:zaj K mainGlobals "range"=some none)
   (zisinstance:zaj K mainGlobals "isinstance"=some none)
   (zstr:zaj K mainGlobals "str"=some none)
   (zall:zaj K mainGlobals "all"=some none)
   (zenumerate:zaj K mainGlobals "enumerate"=some none)
   (zsum:zaj K mainGlobals "sum"=some none)
   (zsorted:zaj K mainGlobals "sorted"=some none)
   (zlist:zaj K mainGlobals "list"=some none)
   (zreversed:zaj K mainGlobals "reversed"=some none)
   (zset:zaj K mainGlobals "set"=some none)
   (ztuple:zaj K mainGlobals "tuple"=some none)
   (zdict:zaj K mainGlobals "dict"=some none)
   (zbool:zaj K mainGlobals "bool"=some none)
   (m1:zaj K mainGlobals "LETTERS"=some (some (.str "abcdefghijklmnopqrstuvwxyz" tm1)))
   (m2:zaj K mainGlobals "LONGEST_NAME"=some (some (.int 8 tm2)))
   (m3:zaj K mainGlobals "MOST_PLACES"=some (some (.int 14 tm3)))
   (m4:zaj K mainGlobals "MOST_ROADS"=some (some (.int 40 tm4)))
   (m5:zaj K mainGlobals "MOST_NUMBER"=some (some (.int 15 tm5)))
   (m6:zaj K mainGlobals "MOST_BITS"=some (some (.int 65535 tm6)))
   (m7:zaj K mainGlobals "MOST_TOKENS"=some (some (.int 8 tm7)))
   (iMK:ts[0]?=some PMK)
   (aMK:zaj K mainGlobals "winner_by"=some (some (.ref fMK)))
   (lMK:K.lookup fMK=some ⟨ocMK,odMK,.func (zbd "winner_by" "winner_by" (Qc Jt) (jq Jt) (qh Jt) .none kVMK dcMK pmMK anMK (.ref cMK) ctMK),slMK⟩)
   (cdMK:zbv K (.ref cMK) "winner_by"=true)
   (kMK:zaH K (.ref fMK)=true)
   (tMK:K.lookup cMK=some ⟨oc2MK,od2MK,.fields vsMK,sl2MK⟩)
   (pMK:vsMK[11]?=some (.ref PMK))
   (hMKc:zca K cMK PMK=true)
   (iMP:ts[1]?=some PMP)
   (aMP:zaj K mainGlobals "player"=some (some (.ref fMP)))
   (lMP:K.lookup fMP=some ⟨ocMP,odMP,.func (zbd "player" "player" (Qc Qo) (jq Qo) (qh Qo) .none kVMP dcMP pmMP anMP (.ref cMP) ctMP),slMP⟩)
   (cdMP:zbv K (.ref cMP) "player"=true)
   (kMP:zaH K (.ref fMP)=true)
   (tMP:K.lookup cMP=some ⟨oc2MP,od2MP,.fields vsMP,sl2MP⟩)
   (pMP:vsMP[11]?=some (.ref PMP))
   (hMPc:zca K cMP PMP=true)
   (nPT:PMK≠PMP)
   (ne:CN≠CE)
   :
   ∃(tabs:List Uq) (fd:FuncData),(tabs.map (·.P)).Nodup/\(∀t∈tabs,t.P∈ts/\zca K t.c t.P=true)/\(∀(s:Shared) (v:Value),BindsTo s fd ⟨[v],[]⟩ [("_law_script",v)])/\∀base:Heap,K.In base->base.Ns mainGlobals mg->(∀t∈tabs,XX mg base t.c t.P)->ql l.prog w K mg base qG 16 fa fd ["_law_script"] (UF K tabs):=by
 have e:=hfa.symm.trans (zaQ X G aLAW)
 cases e
 obtain⟨_,hO⟩:=lO.has (ps:=["_law_script","_law_k"]) X G λF=>F.binds λ_ _ _ _ _ _ us hl=>by obtain⟨_,_,rfl⟩:=QC hl;rfl
 obtain⟨_,hL⟩:=lL.has (ps:=["_law_cell"]) X G λF=>F.binds λ_ _ _ _ _ _ us hl=>by obtain⟨_,rfl⟩:=Qq hl;rfl
 obtain⟨_,hT⟩:=lT.has (ps:=["_law_source_here","_law_many"]) X G λF=>F.binds λ_ _ _ _ _ _ us hl=>by obtain⟨_,_,rfl⟩:=QC hl;rfl
 obtain⟨_,hN⟩:=lN.has (ps:=["_law_source_here","_law_many"]) X G λF=>F.binds λ_ _ _ _ _ _ us hl=>by obtain⟨_,_,rfl⟩:=QC hl;rfl
 obtain⟨_,hD⟩:=lD.has (ps:=["_law_source_here","_law_many","_law_shape","_law_low"]) X G λF=>F.binds λ_ _ _ _ _ _ us hl=>by obtain⟨_,_,_,_,rfl⟩:=yC hl;rfl
 obtain⟨_,hR⟩:=lR.has (ps:=["_law_source_here","_law_most"]) X G λF=>F.binds λ_ _ _ _ _ _ us hl=>by obtain⟨_,_,rfl⟩:=QC hl;rfl
 obtain⟨_,hA1⟩:=lA1.has (ps:=["thing"]) X G λF=>F.binds λ_ _ _ _ _ _ us hl=>by obtain⟨_,rfl⟩:=Qq hl;rfl
 obtain⟨_,hA2⟩:=lA2.has (ps:=["thing"]) X G λF=>F.binds λ_ _ _ _ _ _ us hl=>by obtain⟨_,rfl⟩:=Qq hl;rfl
 obtain⟨_,hA3⟩:=lA3.has (ps:=["thing"]) X G λF=>F.binds λ_ _ _ _ _ _ us hl=>by obtain⟨_,rfl⟩:=Qq hl;rfl
 obtain⟨_,hA4⟩:=lA4.has (ps:=["rows"]) X G λF=>F.binds λ_ _ _ _ _ _ us hl=>by obtain⟨_,rfl⟩:=Qq hl;rfl
 obtain⟨_,hA5⟩:=lA5.has (ps:=["order"]) X G λF=>F.binds λ_ _ _ _ _ _ us hl=>by obtain⟨_,rfl⟩:=Qq hl;rfl
 obtain⟨_,hA6⟩:=lA6.has (ps:=["ends","order"]) X G λF=>F.binds λ_ _ _ _ _ _ us hl=>by obtain⟨_,_,rfl⟩:=QC hl;rfl
 obtain⟨_,hA7⟩:=lA7.has (ps:=["rows"]) X G λF=>F.binds λ_ _ _ _ _ _ us hl=>by obtain⟨_,rfl⟩:=Qq hl;rfl
 obtain⟨_,hA8⟩:=lA8.has (ps:=["rows"]) X G λF=>F.binds λ_ _ _ _ _ _ us hl=>by obtain⟨_,rfl⟩:=Qq hl;rfl
 obtain⟨_,hB1⟩:=lB1.has (ps:=["numbers"]) X G λF=>F.binds λ_ _ _ _ _ _ us hl=>by obtain⟨_,rfl⟩:=Qq hl;rfl
 obtain⟨_,hB2⟩:=lB2.has (ps:=["numbers"]) X G λF=>F.binds λ_ _ _ _ _ _ us hl=>by obtain⟨_,rfl⟩:=Qq hl;rfl
 obtain⟨_,hB3⟩:=lB3.has (ps:=["ground","numbered","name"]) X G λF=>F.binds λ_ _ _ _ _ _ us hl=>by obtain⟨_,_,_,rfl⟩:=X7 hl;rfl
 obtain⟨_,hB4⟩:=lB4.has (ps:=["ground","numbered","name","number"]) X G λF=>F.binds λ_ _ _ _ _ _ us hl=>by obtain⟨_,_,_,_,rfl⟩:=yC hl;rfl
 obtain⟨_,hB5⟩:=lB5.has (ps:=["ground","numbered","number"]) X G λF=>F.binds λ_ _ _ _ _ _ us hl=>by obtain⟨_,_,_,rfl⟩:=X7 hl;rfl
 obtain⟨_,hB6⟩:=lB6.has (ps:=["ground","numbered","number"]) X G λF=>F.binds λ_ _ _ _ _ _ us hl=>by obtain⟨_,_,_,rfl⟩:=X7 hl;rfl
 obtain⟨_,hB7⟩:=lB7.has (ps:=["ground","numbered"]) X G λF=>F.binds λ_ _ _ _ _ _ us hl=>by obtain⟨_,_,rfl⟩:=QC hl;rfl
 obtain⟨_,hB8⟩:=lB8.has (ps:=["ground"]) X G λF=>F.binds λ_ _ _ _ _ _ us hl=>by obtain⟨_,rfl⟩:=Qq hl;rfl
 obtain⟨_,hW1⟩:=lW1.has (ps:=["thing"]) X G λF=>F.binds λ_ _ _ _ _ _ us hl=>by obtain⟨_,rfl⟩:=Qq hl;rfl
 obtain⟨_,hW2⟩:=lW2.has (ps:=["thing"]) X G λF=>F.binds λ_ _ _ _ _ _ us hl=>by obtain⟨_,rfl⟩:=Qq hl;rfl
 obtain⟨_,hW3⟩:=lW3.has (ps:=["thing"]) X G λF=>F.binds λ_ _ _ _ _ _ us hl=>by obtain⟨_,rfl⟩:=Qq hl;rfl
 obtain⟨_,hW4⟩:=lW4.has (ps:=["bits","number"]) X G λF=>F.binds λ_ _ _ _ _ _ us hl=>by obtain⟨_,_,rfl⟩:=QC hl;rfl
 obtain⟨_,hW5⟩:=lW5.has (ps:=["bits"]) X G λF=>F.binds λ_ _ _ _ _ _ us hl=>by obtain⟨_,rfl⟩:=Qq hl;rfl
 obtain⟨_,hW6⟩:=lW6.has (ps:=["worths"]) X G λF=>F.binds λ_ _ _ _ _ _ us hl=>by obtain⟨_,rfl⟩:=Qq hl;rfl
 obtain⟨_,hP1⟩:=lP1.has (ps:=["ground","thing"]) X G λF=>F.binds λ_ _ _ _ _ _ us hl=>by obtain⟨_,_,rfl⟩:=QC hl;rfl
 obtain⟨_,hP2⟩:=lP2.has (ps:=["ground","heap"]) X G λF=>F.binds λ_ _ _ _ _ _ us hl=>by obtain⟨_,_,rfl⟩:=QC hl;rfl
 obtain⟨_,hP3⟩:=lP3.has (ps:=["label"]) X G λF=>F.binds λ_ _ _ _ _ _ us hl=>by obtain⟨_,rfl⟩:=Qq hl;rfl
 obtain⟨_,hP4⟩:=lP4.has (ps:=["labels","heap"]) X G λF=>F.binds λ_ _ _ _ _ _ us hl=>by obtain⟨_,_,rfl⟩:=QC hl;rfl
 obtain⟨_,hP5⟩:=lP5.has (ps:=["ground","heap"]) X G λF=>F.binds λ_ _ _ _ _ _ us hl=>by obtain⟨_,_,rfl⟩:=QC hl;rfl
 obtain⟨_,hP6⟩:=lP6.has (ps:=["heap","move"]) X G λF=>F.binds λ_ _ _ _ _ _ us hl=>by obtain⟨_,_,rfl⟩:=QC hl;rfl
 obtain⟨_,hP7⟩:=lP7.has (ps:=["labels","heap"]) X G λF=>F.binds λ_ _ _ _ _ _ us hl=>by obtain⟨_,_,rfl⟩:=QC hl;rfl
 obtain⟨_,hP8⟩:=lP8.has (ps:=["ground","labels","heap"]) X G λF=>F.binds λ_ _ _ _ _ _ us hl=>by obtain⟨_,_,_,rfl⟩:=X7 hl;rfl
 obtain⟨_,hQ1⟩:=lQ1.has (ps:=["ground","labels","heap"]) X G λF=>F.binds λ_ _ _ _ _ _ us hl=>by obtain⟨_,_,_,rfl⟩:=X7 hl;rfl
 obtain⟨_,hQ2⟩:=lQ2.has (ps:=["labels","heap"]) X G λF=>F.binds λ_ _ _ _ _ _ us hl=>by obtain⟨_,_,rfl⟩:=QC hl;rfl
 obtain⟨_,hQ4⟩:=lQ4.has (ps:=["ground","labels","heap"]) X G λF=>F.binds λ_ _ _ _ _ _ us hl=>by obtain⟨_,_,_,rfl⟩:=X7 hl;rfl
 obtain⟨_,hQ5⟩:=lQ5.has (ps:=["ground","labels","heap"]) X G λF=>F.binds λ_ _ _ _ _ _ us hl=>by obtain⟨_,_,_,rfl⟩:=X7 hl;rfl
 obtain⟨_,hD1⟩:=lD1.has (ps:=["numbers"]) X G λF=>F.binds λ_ _ _ _ _ _ us hl=>by obtain⟨_,rfl⟩:=Qq hl;rfl
 obtain⟨_,hD2⟩:=lD2.has (ps:=["label","number"]) X G λF=>F.binds λ_ _ _ _ _ _ us hl=>by obtain⟨_,_,rfl⟩:=QC hl;rfl
 obtain⟨_,hD3⟩:=lD3.has (ps:=["ground","labels","name"]) X G λF=>F.binds λ_ _ _ _ _ _ us hl=>by obtain⟨_,_,_,rfl⟩:=X7 hl;rfl
 obtain⟨_,hD4⟩:=lD4.has (ps:=["labels","places"]) X G λF=>F.binds λ_ _ _ _ _ _ us hl=>by obtain⟨_,_,rfl⟩:=QC hl;rfl
 obtain⟨_,hD5⟩:=lD5.has (ps:=["labels","heap"]) X G λF=>F.binds λ_ _ _ _ _ _ us hl=>by obtain⟨_,_,rfl⟩:=QC hl;rfl
 obtain⟨_,hD6⟩:=lD6.has (ps:=["labels","heap","move","sought"]) X G λF=>F.binds λ_ _ _ _ _ _ us hl=>by obtain⟨_,_,_,_,rfl⟩:=yC hl;rfl
 obtain⟨_,hE2⟩:=lE2.has (ps:=["_law_rows_here"]) X G λF=>F.binds λ_ _ _ _ _ _ us hl=>by obtain⟨_,rfl⟩:=Qq hl;rfl
 obtain⟨_,hE3⟩:=lE3.has (ps:=["_law_roads","_law_found","_law_name","_law_number"]) X G λF=>F.binds λ_ _ _ _ _ _ us hl=>by obtain⟨_,_,_,_,rfl⟩:=yC hl;rfl
 obtain⟨_,hE4⟩:=lE4.has (ps:=["_law_roads","_law_found","_law_name","_law_number"]) X G λF=>F.binds λ_ _ _ _ _ _ us hl=>by obtain⟨_,_,_,_,rfl⟩:=yC hl;rfl
 obtain⟨_,hE5⟩:=lE5.has (ps:=["_law_rows_here"]) X G λF=>F.binds λ_ _ _ _ _ _ us hl=>by obtain⟨_,rfl⟩:=Qq hl;rfl
 obtain⟨_,hE6⟩:=lE6.has (ps:=["_law_labels_here","_law_heap_here"]) X G λF=>F.binds λ_ _ _ _ _ _ us hl=>by obtain⟨_,_,rfl⟩:=QC hl;rfl
 obtain⟨_,hE7⟩:=lE7.has (ps:=["_law_rows_here","_law_heap_here"]) X G λF=>F.binds λ_ _ _ _ _ _ us hl=>by obtain⟨_,_,rfl⟩:=QC hl;rfl
 obtain⟨_,hE8⟩:=lE8.has (ps:=["_law_heap_here","_law_move"]) X G λF=>F.binds λ_ _ _ _ _ _ us hl=>by obtain⟨_,_,rfl⟩:=QC hl;rfl
 obtain⟨_,hED⟩:=lED.has (ps:=["_law_source_here","_law_rows_here","_law_labels_here","_law_heap_here","_law_way"]) X G λF=>F.binds λ_ _ _ _ _ _ us hl=>by obtain⟨_,_,_,_,_,rfl⟩:=qaC hl;rfl
 obtain⟨_,hEE⟩:=lEE.has (ps:=["_law_source_here","_law_rows_here","_law_labels_here","_law_heap_here","_law_ways"]) X G λF=>F.binds λ_ _ _ _ _ _ us hl=>by obtain⟨_,_,_,_,_,rfl⟩:=qaC hl;rfl
 have FLAW:=XN (st:=WX) lLAW cLAW kLAW
 obtain⟨_,FiCG⟩:=lCGi
 have clCG:ML K mg CG fCGi _:=⟨⟨pgCG,hdCG,poCG,saCG⟩,⟨mkCG,inCG,fiCG,kcCG⟩,zaQ X G nCG,noCG,nrCG,FiCG,FiCG.binds (ps:=["self","rows"]) λ_ _ _ _ _ _ us hl=>by obtain⟨_,_,rfl⟩:=QC hl;rfl⟩
 obtain⟨_,FCGM⟩:=lCGM
 have mCGM:Vs K CG "names" "Ground.names" zk ["self"] fCGM _:=⟨FCGM,⟨atCGM,fnCGM,FCGM.kp⟩,FCGM.binds (ps:=["self"]) λ_ _ _ _ _ _ us hl=>by obtain⟨_,rfl⟩:=Qq hl;rfl⟩
 obtain⟨_,FCGF⟩:=lCGF
 have mCGF:Vs K CG "roads_from" "Ground.roads_from" Xq ["self","name"] fCGF _:=⟨FCGF,⟨atCGF,fnCGF,FCGF.kp⟩,FCGF.binds (ps:=["self","name"]) λ_ _ _ _ _ _ us hl=>by obtain⟨_,_,rfl⟩:=QC hl;rfl⟩
 obtain⟨_,FiCN⟩:=lCNi
 have clCN:Cl K mg "Numbered" "Numbered.__init__" "number" Xl CN fCNi _:=⟨⟨pgCN,hdCN,poCN,saCN⟩,⟨mkCN,inCN,fiCN,kcCN⟩,zaQ X G nCN,naCN,FiCN,FiCN.binds (ps:=["self","number"]) λ_ _ _ _ _ _ us hl=>by obtain⟨_,_,rfl⟩:=QC hl;rfl,caCN,obCN⟩
 obtain⟨_,FCNO⟩:=lCNO
 have mCNO:Vs K CN "outcome" "Numbered.outcome" vO ["self"] fCNO _:=⟨FCNO,⟨atCNO,fnCNO,FCNO.kp⟩,FCNO.binds (ps:=["self"]) λ_ _ _ _ _ _ us hl=>by obtain⟨_,rfl⟩:=Qq hl;rfl⟩
 obtain⟨_,FCNP⟩:=lCNP
 have mCNP:Vs K CN "plus" "Numbered.plus" WW ["self","other"] fCNP _:=⟨FCNP,⟨atCNP,fnCNP,FCNP.kp⟩,FCNP.binds (ps:=["self","other"]) λ_ _ _ _ _ _ us hl=>by obtain⟨_,_,rfl⟩:=QC hl;rfl⟩
 obtain⟨_,FCNE⟩:=lCNE
 have mCNE:Vs K CN "is_endless" "Numbered.is_endless" VN ["self"] fCNE _:=⟨FCNE,⟨atCNE,fnCNE,FCNE.kp⟩,FCNE.binds (ps:=["self"]) λ_ _ _ _ _ _ us hl=>by obtain⟨_,rfl⟩:=Qq hl;rfl⟩
 obtain⟨_,FiCE⟩:=lCEi
 have clCE:Cl K mg "Endless" "Endless.__init__" "bits" Xr CE fCEi _:=⟨⟨pgCE,hdCE,poCE,saCE⟩,⟨mkCE,inCE,fiCE,kcCE⟩,zaQ X G nCE,naCE,FiCE,FiCE.binds (ps:=["self","bits"]) λ_ _ _ _ _ _ us hl=>by obtain⟨_,_,rfl⟩:=QC hl;rfl,caCE,obCE⟩
 obtain⟨_,FCEO⟩:=lCEO
 have mCEO:Vs K CE "outcome" "Endless.outcome" vR ["self"] fCEO _:=⟨FCEO,⟨atCEO,fnCEO,FCEO.kp⟩,FCEO.binds (ps:=["self"]) λ_ _ _ _ _ _ us hl=>by obtain⟨_,rfl⟩:=Qq hl;rfl⟩
 obtain⟨_,FCEP⟩:=lCEP
 have mCEP:Vs K CE "plus" "Endless.plus" WZ ["self","other"] fCEP _:=⟨FCEP,⟨atCEP,fnCEP,FCEP.kp⟩,FCEP.binds (ps:=["self","other"]) λ_ _ _ _ _ _ us hl=>by obtain⟨_,_,rfl⟩:=QC hl;rfl⟩
 obtain⟨_,FCEE⟩:=lCEE
 have mCEE:Vs K CE "is_endless" "Endless.is_endless" VP ["self"] fCEE _:=⟨FCEE,⟨atCEE,fnCEE,FCEE.kp⟩,FCEE.binds (ps:=["self"]) λ_ _ _ _ _ _ us hl=>by obtain⟨_,rfl⟩:=Qq hl;rfl⟩
 have B:QF mg:=⟨zal X G zlen,zal X G zmax,zal X G zmin,zal X G zint,zal X G zrange⟩
 have Gk:Qv mg:=⟨zal X G zsorted,zal X G zlist,zal X G zreversed,zal X G zset,zal X G ztuple⟩
 have T:QE K mg:=⟨zal X G zisinstance,zal X G zstr,zal X G zall,zal X G zenumerate,zal X G zsum,⟨_,zaQ X G m1⟩,⟨_,zaQ X G m2⟩,⟨_,zaQ X G m3⟩,⟨_,zaQ X G m4⟩,kss,ktt,kll⟩
 have Nn:RC K mg:=⟨⟨_,_,hA1⟩,⟨_,_,hA2⟩,⟨_,_,hA3⟩,⟨_,_,hA4⟩,⟨_,_,hA5⟩,⟨_,_,hA6⟩,⟨_,_,hA7⟩⟩
 have M:GM K mg CG:=⟨⟨_,_,clCG⟩,⟨_,_,mCGM⟩,⟨_,_,mCGF⟩,⟨_,_,hA1⟩⟩
 have FMK:=XN (st:=Jt) lMK cdMK kMK
 have hMK:qY K mg "winner_by" Jt p3 fMK _:=⟨FMK,zaQ X G aMK,FMK.binds (ps:=p3) λ_ _ _ _ _ _ us hl=>by obtain⟨_,_,_,rfl⟩:=X7 hl;rfl⟩
 have FMP:=XN (st:=Qo) lMP cdMP kMP
 have hMP:qY K mg "player" Qo ["ground"] fMP _:=⟨FMP,zaQ X G aMP,FMP.binds (ps:=["ground"]) λ_ _ _ _ _ _ us hl=>by obtain⟨_,rfl⟩:=Qq hl;rfl⟩
 have Y:RD K mg:=⟨⟨_,_,hB1⟩,⟨_,_,hB2⟩,⟨_,_,hB3⟩,⟨_,_,hB4⟩,⟨_,_,hB5⟩,⟨_,_,hB6⟩,⟨_,_,hB7⟩,⟨_,_,hB8⟩⟩
 have Wq:Wk K mg:=⟨zal X G zisinstance,zal X G zbool,kii,kib,⟨_,zaQ X G m5⟩,⟨_,zaQ X G m6⟩⟩
 let wf:WF K mg:=⟨CN,CE,fCNi,fCEi,fCNO,fCEO,fCNP,fCEP,fCNE,fCEE,fW1,fW2,fW3,fW4,fW5,fB2,_,_,_,_,_,_,_,_,_,_,_,_,_,_,ne,clCN,clCE,mCNO,mCEO,mCNP,mCEP,mCNE,mCEE,hW1,hW2,hW3,hW4,hW5,hB2⟩
 have O:yZ K mg:=⟨⟨_,_,hP1⟩,⟨_,_,hP2⟩,⟨_,_,hP3⟩,⟨_,_,hW6⟩,⟨_,_,hP4⟩,⟨_,zaQ X G m7⟩⟩
 have V1:uS K mg:=⟨⟨_,_,hP5⟩,⟨_,_,hP6⟩,⟨_,_,hP7⟩,⟨_,_,hP8⟩⟩
 have D1:MA K mg:=⟨⟨_,_,hD1⟩,⟨_,_,hD2⟩,⟨_,_,hD3⟩,⟨_,_,hD4⟩,⟨_,_,hD5⟩,⟨_,_,hD6⟩⟩
 have Q1:qaX K mg:=⟨⟨_,_,hQ1⟩,⟨_,_,hQ2⟩,⟨_,_,hQ4⟩,⟨_,_,hQ5⟩⟩
 have L:qaY K mg:=⟨⟨_,_,hO⟩,⟨_,_,hL⟩,⟨_,_,hT⟩,⟨_,_,hN⟩,⟨_,_,hD⟩,⟨_,_,hR⟩,⟨_,_,hA8⟩,⟨_,_,hE2⟩,⟨_,_,hE3⟩,⟨_,_,hE4⟩,⟨_,_,hE5⟩,⟨_,_,hE6⟩,⟨_,_,hE7⟩,⟨_,_,hE8⟩,⟨_,_,hED⟩,⟨_,_,hEE⟩⟩
 refine⟨[⟨"winner_by",cMK,PMK,z7⟩,⟨"player",cMP,PMP,Jn⟩],zbd "law" "law" (Qc WX) (jq WX) (qh WX) .none kVLAW dcLAW pmLAW anLAW cdLAW ctLAW,zam.mpr ⟨λz=>nPT (zae.mp z),zam.mpr ⟨zdl,zbo⟩⟩,λt ht=>?_,λs v=>.of_eq rfl,λbase _ _ hTM=>?_⟩
 . rcases t8.mp ht with e | e
   . rw[e];exact⟨tZ iMK,hMKc⟩
   . rw[zae.mp e];exact⟨tZ iMP,hMPc⟩
 . exact(NM (PT:=PMK) (PP:=PMP) FLAW hMK rfl (hTM _ zaa) hMP rfl (hTM _ (tU _ zaa)) wf B Wq Gk T Nn M Y O V1 D1 Q1 L (zal X G zdict)).imp λvs H Q E z=>let ⟨a,ns,e,h1,h2,h3,h4⟩:=z;⟨a,ns,e,h1,h2,h3 _ zaa,h3 _ (tU _ zaa),h4⟩
theorem walk {l:PySem.W.OpenLaw} {q:Program} {loose:List Str} {XP:(Str->Option Value)->Heap->Prop} {YP:World->Heap->Prop} {d:DefRec} {K:Params->PySem.W.Frag} {ts:List Addr} (hn:l.most=some 63) (hdf:d.params.defaults=[])
   (hY:∀(w:World) (h:Heap),YP w h->(K w.params).In h) (hTs:∀(w:World) (h:Heap),YP w h->∀P∈ts,h.get? P=some (zbG #[])) (hnt:∀w:World,zdA (K w.params)=true)
   (F:∀(w:World) (mg:Str->Option Value) (fa:Addr) (h:Heap),(K w.params).In h->h.Ns mainGlobals mg->mg d.name=some (.ref fa)->
     ∃(tabs:List Uq) (fd:FuncData),(tabs.map (·.P)).Nodup/\(∀t∈tabs,t.P∈ts/\zca (K w.params) t.c t.P=true)/\(∀(s:Shared) (v:Value),BindsTo s fd ⟨[v],[]⟩ [("_law_script",v)])/\∀base:Heap,(K w.params).In base->base.Ns mainGlobals mg->(∀t∈tabs,XX mg base t.c t.P)->ql l.prog w (K w.params) mg base qG 16 fa fd ["_law_script"] (UF (K w.params) tabs)):
   PySem.W.WalkO q loose XP YP l.row.toRowW d [] (λf vs=>PySem.call f vs):=
 L2.walk_ofT (n:=63) (k:=16) (x:="_law_script") (sp:=λK tabs=>UF K tabs) hn (by decide) hdf ⟨rfl,by decide,by decide,rfl⟩ hY hTs hnt F (λ_ _ _ a ns hl hS hP=>⟨a,ns,rfl,hS,hl,hP,λ_=>rfl⟩)
end Rh
open PySem PySem.W PyProof.Rows
def PySem.W.Fast.tw16498245532773278774 : Unit := ()
def PySem.W.Fast.tw6480608015229326106 : Unit := ()
def PySem.W.Fast.tw9107843584040042292 : Unit := ()
def PySem.W.Fast.tw861502493610598483 : Unit := ()
def PySem.W.Fast.tw9553631526602823048 : Unit := ()
def PySem.W.Fast.tw14853348098675926688 : Unit := ()
def PySem.W.Fast.tw13359257691425115219 : Unit := ()
def PySem.W.Fast.tw7774113678449685934 : Unit := ()
def PySem.W.Fast.tw3106019142764824439 : Unit := ()
def PySem.W.Fast.tw16359110049766270357 : Unit := ()
def PySem.W.Fast.tw5660693792873045834 : Unit := ()
def PySem.W.Fast.tw178982042099537163 : Unit := ()
def PySem.W.Fast.tw6861777633991150784 : Unit := ()
def PySem.W.Fast.tw3328698262378449831 : Unit := ()
def PySem.W.Fast.tw3239726496819932882 : Unit := ()
def PySem.W.Fast.tw14644112915844679512 : Unit := ()
def PySem.W.Fast.tw1968430746851473036 : Unit := ()
def PySem.W.Fast.tw14617222483516278133 : Unit := ()
def PySem.W.Fast.tw2869065659524454656 : Unit := ()
def PySem.W.Fast.tw2992238238014362344 : Unit := ()
def PySem.W.Fast.tw9004299641416957276 : Unit := ()
def PySem.W.Fast.tw6103891826971794303 : Unit := ()
def PySem.W.Fast.tw8115137120850386438 : Unit := ()
def PySem.W.Fast.tw4120328187809186673 : Unit := ()
def PySem.W.Fast.tw13385558918117058561 : Unit := ()
def PySem.W.Fast.tw6594970650091316094 : Unit := ()
def PySem.W.Fast.tw6575520176995025181 : Unit := ()
def PySem.W.Fast.tw15752536640612570366 : Unit := ()
def PySem.W.Fast.tw15163409612377130007 : Unit := ()
def PySem.W.Fast.tw12099505692703838030 : Unit := ()
def PySem.W.Fast.tw12884060626414724322 : Unit := ()
def PySem.W.Fast.tw506581581156960101 : Unit := ()
def PySem.W.Fast.tw9689729476882780088 : Unit := ()
def PySem.W.Fast.tw12320846421978348468 : Unit := ()
def PySem.W.Fast.tw15006928546322691367 : Unit := ()
def PySem.W.Fast.tw14329579894275425762 : Unit := ()
def PySem.W.Fast.tw2827255003249426055 : Unit := ()
def PySem.W.Fast.tw17682808508803514257 : Unit := ()
def PySem.W.Fast.tw12738610918357793766 : Unit := ()
def PySem.W.Fast.tw16109456028575089023 : Unit := ()
def PySem.W.Fast.tw8185220541750880888 : Unit := ()
def PySem.W.Fast.tw8742817616077272606 : Unit := ()
def PySem.W.Fast.tw16132249320637822498 : Unit := ()
def PySem.W.Fast.tw6790548231928754058 : Unit := ()
def PySem.W.Fast.tw17410218998227585676 : Unit := ()
def PySem.W.Fast.tw13003993480786080133 : Unit := ()
def PySem.W.Fast.tw6822071536725586909 : Unit := ()
def PySem.W.Fast.tw5037459499596335280 : Unit := ()
def PySem.W.Fast.tw12669407529647801677 : Unit := ()
def PySem.W.Fast.tw4684226298888400098 : Unit := ()
def PySem.W.Fast.tw18383651708701053236 : Unit := ()
def PySem.W.Fast.tw14334995849660946996 : Unit := ()
def PySem.W.Fast.tw17137270108147033825 : Unit := ()
def PySem.W.Fast.tw4026147355466621588 : Unit := ()
def PySem.W.Fast.tw8122695690928665766 : Unit := ()
def PySem.W.Fast.tw8997383693586321770 : Unit := ()
def PySem.W.Fast.tw14553807712399142462 : Unit := ()
def PySem.W.Fast.tw4290864757253303354 : Unit := ()
def PySem.W.Fast.tw16087769525723730265 : Unit := ()
def PySem.W.Fast.tw11095110211248682772 : Unit := ()
def PySem.W.Fast.tw12715800853834201459 : Unit := ()
def PySem.W.Fast.tw14736888041290939073 : Unit := ()
def PySem.W.Fast.tw17348111734160510231 : Unit := ()
def PySem.W.Fast.tw12314708539913122752 : Unit := ()
def PySem.W.Fast.tw2237833844302104130 : Unit := ()
def PySem.W.Fast.tw18031968618487185184 : Unit := ()
def PySem.W.Fast.tw2480015634913765671 : Unit := ()
def PySem.W.Fast.tw5994696166404524948 : Unit := ()
def PySem.W.Fast.tw17916429707943930468 : Unit := ()
def PySem.W.Fast.tw10576836333797772347 : Unit := ()
def PySem.W.Fast.tw2078950565319712143 : Unit := ()
def PySem.W.Fast.tw8919978131948313185 : Unit := ()
def PySem.W.Fast.tw17292613610259460706 : Unit := ()
def PySem.W.Fast.tw2768188642542392010 : Unit := ()
def PySem.W.Fast.tw16226643914720891334 : Unit := ()
def PySem.W.Fast.tw12330612334027959195 : Unit := ()
def PySem.W.Fast.tw9615563845995560447 : Unit := ()
def PySem.W.Fast.tw15805137534098808535 : Unit := ()
def PySem.W.Fast.tw11525993766095887173 : Unit := ()
def PySem.W.Fast.tw1998347030407657756 : Unit := ()
def PySem.W.Fast.tw7322748291113730364 : Unit := ()
def PySem.W.Fast.tw16756451883985382160 : Unit := ()
def PySem.W.Fast.tw8285278889055680438 : Unit := ()
def PySem.W.Fast.tw18367749455379333440 : Unit := ()
def PySem.W.Fast.tw8752102160057688731 : Unit := ()
def PySem.W.Fast.tw14819390147424179368 : Unit := ()
def PySem.W.Fast.tw13769103115541136327 : Unit := ()
def PySem.W.Fast.tw726351398001015727 : Unit := ()
def PySem.W.Fast.tw10510019762269167821 : Unit := ()
def PySem.W.Fast.tw14341141199694864594 : Unit := ()
def PySem.W.Fast.tw247591363613054380 : Unit := ()
def PySem.W.Fast.tw10295913840692754127 : Unit := ()
def PySem.W.Fast.tw16860917588515726111 : Unit := ()
def PySem.W.Fast.tw17483705464198625004 : Unit := ()
def PySem.W.Fast.tw10159399881129095643 : Unit := ()
def PySem.W.Fast.tw16412085850373738351 : Unit := ()
def PySem.W.Fast.tw7921390202802761869 : Unit := ()
def PySem.W.Fast.tw9317495090193701157 : Unit := ()
def PySem.W.Fast.tw12773500944031208451 : Unit := ()
def PySem.W.Fast.tw8356303796347215682 : Unit := ()
def PySem.W.Fast.tw1205604411410820431 : Unit := ()
def PySem.W.Fast.tw599730875272715187 : Unit := ()
def PySem.W.Fast.tw443766864951011646 : Unit := ()
def PySem.W.Fast.tw14441679199631801671 : Unit := ()
def PySem.W.Fast.tw463774138113389760 : Unit := ()
def PySem.W.Fast.tw12717557048674177747 : Unit := ()
def PySem.W.Fast.tw14664691819916384248 : Unit := ()
def PySem.W.Fast.tw14859695947638507448 : Unit := ()
def PySem.W.Fast.tw4334401890000744311 : Unit := ()
def PySem.W.Fast.tw13855379610559885079 : Unit := ()
def PySem.W.Fast.tw16615150188913437886 : Unit := ()
def PySem.W.Fast.tw6851275008772768644 : Unit := ()
def PySem.W.Fast.tw4321966507151631593 : Unit := ()
def PySem.W.Fast.tw17980500129456985241 : Unit := ()
def PySem.W.Fast.tw16409965706819354750 : Unit := ()
def PySem.W.Fast.tw10910644110388302437 : Unit := ()
def PySem.W.Fast.tw3681537716864247207 : Unit := ()
def PySem.W.Fast.tw3475869608268796686 : Unit := ()
def PySem.W.Fast.tw16626521671886133394 : Unit := ()
def PySem.W.Fast.tw18310463660012746435 : Unit := ()
def PySem.W.Fast.tw1972164579936704799 : Unit := ()
def PySem.W.Fast.tw819570635367399668 : Unit := ()
def PySem.W.Fast.tw6125853113672642322 : Unit := ()
def PySem.W.Fast.tw14196522196718054806 : Unit := ()
def PySem.W.Fast.tw15438627641174518403 : Unit := ()
def PySem.W.Fast.tw9402243437249704421 : Unit := ()
def PySem.W.Fast.tw17590705303994421779 : Unit := ()
def PySem.W.Fast.tw13567515925198824819 : Unit := ()
def PySem.W.Fast.tw5459702643516471331 : Unit := ()
def PySem.W.Fast.tw7001957589650049515 : Unit := ()
def PySem.W.Fast.tw5072417060200589145 : Unit := ()
def PySem.W.Fast.tw17963105932079019327 : Unit := ()
def PySem.W.Fast.tw18073898193381586223 : Unit := ()
def PySem.W.Fast.tw5634867526602368427 : Unit := ()
def PySem.W.Fast.tw14154597600763967237 : Unit := ()
def PySem.W.Fast.tw18095796173783872564 : Unit := ()
def PySem.W.Fast.tw4971374062829452455 : Unit := ()
def PySem.W.Fast.tw3641951560692057861 : Unit := ()
def PySem.W.Fast.tw1708089923452030704 : Unit := ()
def PySem.W.Fast.tw9003107776662980439 : Unit := ()
def PySem.W.Fast.tw14424681132571578402 : Unit := ()
def PySem.W.Fast.tw5000232492035539693 : Unit := ()
def PySem.W.Fast.tw6945566481307383155 : Unit := ()
def PySem.W.Fast.tw4313010194945074917 : Unit := ()
def PySem.W.Fast.tw5694767641087392711 : Unit := ()
def PySem.W.Fast.tw6557801498797044033 : Unit := ()
def PySem.W.Fast.tw2694234056635809718 : Unit := ()
def PySem.W.Fast.tw11408881796089955267 : Unit := ()
def PySem.W.Fast.tw9104974531708491489 : Unit := ()
def PySem.W.Fast.tw17382457898008728272 : Unit := ()
def PySem.W.Fast.tw1956260828630720203 : Unit := ()
def PySem.W.Fast.tw15240619367488684849 : Unit := ()
def PySem.W.Fast.tw9592300441314626372 : Unit := ()
def PySem.W.Fast.tw4046790133079468173 : Unit := ()
def PySem.W.Fast.tw17267597263503486738 : Unit := ()
def PySem.W.Fast.tw16864618592142003386 : Unit := ()
def PySem.W.Fast.tw13956191218907399338 : Unit := ()
def PySem.W.Fast.tw16607193741793207195 : Unit := ()
def PySem.W.Fast.tw5233118043267047457 : Unit := ()
def PySem.W.Fast.tw3099597729799864441 : Unit := ()
def PySem.W.Fast.tw13421457143807847188 : Unit := ()
def PySem.W.Fast.tw1532491051758110099 : Unit := ()
def PySem.W.Fast.tw14904681115217272601 : Unit := ()
def PySem.W.Fast.tw4884199854448574 : Unit := ()
def PySem.W.Fast.tw13669536469129627823 : Unit := ()
def PySem.W.Fast.tw9879335643197240621 : Unit := ()
def PySem.W.Fast.tw7374399212775623666 : Unit := ()
def PySem.W.Fast.tw8432719020341155521 : Unit := ()
def PySem.W.Fast.tw16773468814595293053 : Unit := ()
def PySem.W.Fast.tw8924819469995637033 : Unit := ()
def PySem.W.Fast.tw7476452910721959123 : Unit := ()
def PySem.W.Fast.tw12020253756985099128 : Unit := ()
def PySem.W.Fast.tw9806118890596472461 : Unit := ()
def PySem.W.Fast.tw991626836265849350 : Unit := ()
def PySem.W.Fast.tw12887044766017154078 : Unit := ()
def PySem.W.Fast.tw17334828202450815106 : Unit := ()
def PySem.W.Fast.tw3992765435912101610 : Unit := ()
def PySem.W.Fast.tw1719895430356276633 : Unit := ()
def PySem.W.Fast.tw6798380500665416597 : Unit := ()
def PySem.W.Fast.tw14842496431369740429 : Unit := ()
def PySem.W.Fast.tw12528533614272120300 : Unit := ()
def PySem.W.Fast.tw8278001386518606062 : Unit := ()
def PySem.W.Fast.tw4493901809537577575 : Unit := ()
def PySem.W.Fast.tw16925712312323332580 : Unit := ()
def PySem.W.Fast.tw9304451534382375720 : Unit := ()
def PySem.W.Fast.tw15528221797031607849 : Unit := ()
def PySem.W.Fast.tw9950792792127014553 : Unit := ()
def PySem.W.Fast.tw542563422162235373 : Unit := ()
def PySem.W.Fast.tw1070438729232803039 : Unit := ()
def PySem.W.Fast.tw9387514328989991554 : Unit := ()
def PySem.W.Fast.tw18094105663378112561 : Unit := ()
def PySem.W.Fast.tw4683681711962371626 : Unit := ()
def PySem.W.Fast.tw5217270863462422736 : Unit := ()
def PySem.W.Fast.tw12438396322939230373 : Unit := ()
def PySem.W.Fast.tw2595585439558603231 : Unit := ()
set_option maxHeartbeats 0
open_top hd for PySem.Challenge.rw_ringheaps_k72_whole_never_lost
set_option maxRecDepth 100000 in
set_option maxHeartbeats 0 in
theorem PySem.Challenge.cw_ringheaps_k72_whole_never_lost_holds : PySem.Challenge.rw_ringheaps_k72_whole_never_lost.Holds := by
 refine hd ?_
 k_fill
 refine Rh.walk (l:=PySem.Challenge.rw_ringheaps_k72_whole_never_lost) rfl rfl (λw h Y=>PySem.W.km_in_of Y) (λw h Y=>PySem.W.km_tabs_of Y) ?hnt ?F
 case hnt=>exact λw=>by kernel_rfl
 case F=>
   intro w mg fa h KX G hmg
   refine' Rh.all_mk KX G hmg ?_ ?_ ?_ ?_ ?_ ?_ ?_ ?_ ?_ ?_ ?_ ?_ ?_ ?_ ?_ ?_ ?_ ?_ ?_ ?_ ?_ ?_ ?_ ?_ ?_ ?_ ?_ ?_ ?_ ?_ ?_ ?_ ?_ ?_ ?_ ?_ ?_ ?_ ?_ ?_ ?_ ?_ ?_ ?_ ?_ ?_ ?_ ?_ ?_ ?_ ?_ ?_ ?_ ?_ ?_ ?_ ?_ ?_ ?_ ?_ ?_ ?_ ?_ ?_ ?_ ?_ ?_ ?_ ?_ ?_ ?_ ?_ ?_ ?_ ?_ ?_ ?_ ?_ ?_ ?_ ?_ ?_ ?_ ?_ ?_ ?_ ?_ ?_ ?_ ?_ ?_ ?_ ?_ ?_ ?_ ?_ ?_ ?_ ?_ ?_ ?_ ?_ ?_ ?_ ?_ ?_ ?_ ?_ ?_ ?_ ?_ ?_ ?_ ?_ ?_ ?_ ?_ ?_ ?_ ?_ ?_ ?_ ?_ ?_ ?_ ?_ ?_ ?_ ?_ ?_ ?_ ?_ ?_ ?_ ?_ ?_ ?_ ?_ ?_ ?_ ?_ ?_ ?_ ?_ ?_ ?_ ?_ ?_ ?_ ?_ ?_ ?_ ?_ ?_ ?_ ?_ ?_ ?_ ?_ ?_ ?_ ?_ ?_
   any_goals first | exact Rh.at0 | exact Rh.at1 | (apply Rh.HF.mk'<;>k_is) | (apply Rh.MF.mk'<;>k_is) | k_is | kernel_rfl | rfl | decide
