import PyProof.Rows.All
import Wide.All
import OpenK.AllK
import Wide.FinOn
import Lean
import PyProof.EqAt
import PyProof.EqKinds
import PyProof.TupleCall
import PySem.Challenge.RW_ringheaps_k51_worths_of_heaps
set_option Elab.async false
set_option linter.all false
set_option maxRecDepth 100000
open Array renaming getElem?_eq_some_iff → zaj, length_toList → zaF, toList_append → zcb, all_eq_true_iff_forall_mem → zcq, getElem?_eq_getElem → zcR
open Bool renaming false_ne_true → tK, and_eq_true → zas, eq_iff_iff → zaQ, false_eq_true → zbo, false_and → zcK, or_eq_true → zdq, or_false → zdE
open Int renaming toNat_natCast → zaJ, emod_lt_of_pos → zbC, zero_add → zbL, emod_nonneg → zbP, fdiv_eq_ediv_of_nonneg → zbU, natCast_nonneg → zcL, one_mul → zdS
open List renaming length_map → tj, getElem?_eq_some_iff → tw, mem_map → tE, getElem?_eq_getElem → tF, map_append → tG, take_of_length_le → tH, length_append → tI, range → tM, getElem?_map → tN, map_cons → tQ, take_add_one → tS, length_take → tU, mem_cons → tV, mem_singleton → tX, mem_cons_of_mem → tY, mem_of_getElem? → t7, size_toArray → t8, mem_append → t9, mem_cons_self → zab, mem_filter → zae, filterMap_cons → zaf, length_range → zag, replicate → zah, mem_append_right → zan, length_cons → zao, mem_range → zap, filterMap_append → zaq, getElem?_append_right → zar, length_filterMap_le → zaw, sum_cons → zax, lookup_cons → zay, not_mem_nil → zaz, nodup_cons → zaA, mem_filterMap → zaB, getD_eq_getElem?_getD → zaC, eq_nil_of_length_eq_zero → zaE, getElem?_append_left → zaG, append_nil → zaH, mem_append_left → zaI, mem_of_mem_take → zaK, length_singleton → zaL, length → zaN, pairwise_iff_getElem → zaO, filter_append → zaP, filter_cons → zaR, map_congr_left → zaS, getElem?_eq_none → zaT, length_filter_le → zaU, all_eq_true → zbc, toArray → zbd, mem_nil_iff → zbe, length_reverse → zbf, filter_sublist → zbg, sum_append → zbi, lookup → zbj, any_eq_true → zbk, map_map → zbl, range_succ → zbm, contains_cons → zbp, nodup_nil → zbs, getElem?_of_mem → zbt, append_assoc → zbu, find?_cons → zbw, getElem?_range → zbx, mem_reverse → zbA, exists_cons_of_ne_nil → zbB, replicate_succ → zbH, nodup_range → zbJ, length_pos_of_mem → zbM, filter_congr → zbT, mem_erase_of_ne → zbW, map_nil → zbY, map_reverse → zbZ, mem_of_find?_eq_some → zca, getElem?_take_of_lt → zcc, length_erase_of_mem → zcd, foldl_cons → zcf, append_of_mem → zch, pairwise_singleton → zci, getElem?_set_self → zcj, flatten_cons → zck, all_map → zcl, ext_getElem? → zcm, drop_of_length_le → zcn, foldl_append → zco, getElem?_reverse → zcs, pairwise_reverse → zct, getElem_mem → zcw, any_cons → zcx, map_take → zcy, getElem?_set_ne → zcA, length_nil → zcC, length_take_le → zcH, getElem?_take → zcP, getElem?_eq_none_iff → zcQ, filterMap_eq_nil_iff → zcU, any_eq_false → zcW, take_sublist → zcY, reverse_cons → zcZ, nodup_append → zdb, all_cons → zde, length_drop → zdf, cons_append → zdg, of_mem_zip → zdp, all_append → zdr, length_replicate → zds, drop_zero → zdy, pairwise_append → zdz, take_zero → zdA, mem_of_mem_drop → zdB, findIdx_append → zdC, length_pos_iff → zdD, Pairwise → zdF, pairwise_cons → zdH, pairwise_map → zdN, cons → zdQ, range' → zdR, foldl → zdV
open Nat renaming le_refl → tq, lt_of_lt_of_le → tO, ne_of_lt → tR, le_trans → zaa, zero_le → zal, le_of_lt → zam, lt_irrefl → zat, lt_succ_self → zaM, lt_trichotomy → zaX, lt_of_le_of_lt → zaZ, xor_assoc → zbq, xor_self → zbD, lt_or_ge → zbE, testBit_succ → zbI, not_lt_zero → zbN, testBit_xor → zbO, lt_succ_of_lt → zbS, ne_of_gt → zbX, sub_self → zcp, min_eq_right → zcu, testBit_zero → zcv, eq_of_testBit_eq → zcB, min_eq_left → zcD, strongRecOn → zcE, xor_zero → zcI, zero_xor → zcJ, mod_two_eq_zero_or_one → zcO, lt_of_succ_lt → zdc, min_le_right → zdi, le_of_eq → zdj, zero_add → zdm, le_succ → zdw, succ → zdx, pos_of_ne_zero → zdG, lt_trans → zdK, sub_zero → zdL, xor_comm → zdM
open Option renaming some → tL, map_eq_some_iff → zbK, map_some → zcg, isSome_map → zda, isSome_iff_exists → zdd, getD_none → zdP
open PySem.F renaming plainAttrs_list → zaY, slot_list_append → zbF, type_list_append → zbG, slot_dict_get → zcr, excBase_ValueError → zcN, slot_list_reverse → zcS, type_list_reverse → zcT, args_dict_get_2 → zdh, entry_dict_get → zdl, plainAttrs_str → zdn, slot_str_join → zdt, type_str_join → zdu
open PySem.Heap renaming get?_push_of_some → tz, lt_size → tP, get?_push_size → tZ, get?_update_other → zai, get?_update_self → zaD, size_push → zbr, get?_none_of_le → zcz
open PySem.W renaming findIn → tJ, nsIn → zac, kitOne → zad, mg_none_of → zak, isFn → zau, keepIn → zav, hasDictIn → zaV, emptyDict → zaW, kia_one → zba, mg_of → zbb, mroIn → zbh, callWith_K → zbn, instObj → zbv, fnOf → zby, plainGet → zbz, methodCall_KW → zbQ, plainOver → zbR, codeIn → zbV, makesIn → zce, plainGet_of → zcF, callWith_K0 → zcG, lookIn → zcM, methodObj → zcV, specialIn → zcX, cellsFrom_some → zdk, takerIn → zdo, looks_findIn → zdv, kitx_list → zdI, kitx_dict → zdJ, handedIn → zdO, takesIn → zdT, typeIn → zdU
namespace L2
open PySem PySem.Spec PyProof.Rows
abbrev qL:=Sum Int Str
def Xo:qL->Value->Bool
 | .inl k,v=>Value.isInt k v
 | .inr x,v=>Value.isStrOf x v
def qb5 (w:World):qL->Int
 | .inl k=>hashInt k
 | .inr x=>hashStr w x
theorem jq:∀{k:qL} {v:Value},Xo k v=true->(∃i t,k=Sum.inl i/\v=Value.int i t)\/(∃x t,k=Sum.inr x/\v=Value.str x t)
 | .inl i,v,h=>by
   obtain⟨t,e⟩:=Value.isInt_shape (k:=i) (v:=v) h
   exact .inl ⟨i,t,rfl,e⟩
 | .inr x,v,h=>by
   obtain⟨t,e⟩:=Value.isStrOf_shape (x:=x) (v:=v) h
   exact .inr ⟨x,t,rfl,e⟩
theorem xq (i:Int) (t:Tok):Xo (.inl i) (.int i t)=true:=by simp [Xo,Value.isInt]
theorem xp (x:Str) (t:Tok):Xo (.inr x) (.str x t)=true:=by simp [Xo,Value.isStrOf]
theorem Mv (a b:Int):decide ((Sum.inl a:qL)=Sum.inl b)=(a==b):=by
 by_cases e:a=b
 . subst e;simp
 . have h:¬(Sum.inl a:qL)=Sum.inl b:=λq=>e (Sum.inl.inj q)
   rw[decide_eq_false h]
   exact(beq_eq_false_iff_ne.mpr e).symm
theorem Ms (a b:Str):decide ((Sum.inr a:qL)=Sum.inr b)=decide (a=b):=by
 by_cases e:a=b
 . subst e;simp
 . have h:¬(Sum.inr a:qL)=Sum.inr b:=λq=>e (Sum.inr.inj q)
   rw[decide_eq_false h,decide_eq_false e]
theorem Mu (a:Int) (b:Str):decide ((Sum.inl a:qL)=Sum.inr b)=false:=decide_eq_false (λq=>nomatch q)
theorem Mt (a:Str) (b:Int):decide ((Sum.inr a:qL)=Sum.inl b)=false:=decide_eq_false (λq=>nomatch q)
def qT (prog:Program) (w:World):PySem.KeyKind prog w qL where
 is:=Xo
 hash:=qb5 w
 inj:=λv a b ha hb=>by
   rcases jq ha with ⟨i,t,rfl,rfl⟩ | ⟨x,t,rfl,rfl⟩
   . rcases jq hb with ⟨j,u,rfl,e⟩ | ⟨y,u,rfl,e⟩
     . injection e with e1 _;rw[e1]
     . exact nomatch e
   . rcases jq hb with ⟨j,u,rfl,e⟩ | ⟨y,u,rfl,e⟩
     . exact nomatch e
     . injection e with e1 _;rw[e1]
 byValue:=λk v h=>by
   rcases jq h with ⟨i,t,rfl,rfl⟩ | ⟨x,t,rfl,rfl⟩<;>rfl
 pyHash:=λhv h=>by
   rcases jq hv with ⟨i,t,rfl,rfl⟩ | ⟨x,t,rfl,rfl⟩
   . exact wpAny_pyHash_int h
   . exact wpAny_pyHash_str h
 eqBool:=λhu hv h=>by
   rcases jq hu with ⟨i,t,rfl,rfl⟩ | ⟨x,t,rfl,rfl⟩
   . rcases jq hv with ⟨j,u,rfl,rfl⟩ | ⟨y,u,rfl,rfl⟩
     . rw[Mv]at h;exact wpAny_eqBool_int h
     . rw[Mu]at h;exact SeqAt.EqAt.int_str i t y u _ _ _ _ h
   . rcases jq hv with ⟨j,u,rfl,rfl⟩ | ⟨y,u,rfl,rfl⟩
     . rw[Mt]at h;exact SeqAt.EqAt.str_int x t j u _ _ _ _ h
     . rw[Ms]at h;exact wpAny_eqBool_str h
 «strs»:=λk x t v h=>by
   rcases jq h with ⟨i,u,rfl,e⟩ | ⟨y,u,rfl,e⟩
   . exact nomatch e
   . injection e with e1 _
     subst e1
     cases v<;>rfl
theorem Ur (prog:Program) (w:World) (i:Int) (t:Tok):(qT prog w).is (.inl i) (.int i t)=true:=xq i t
theorem Uq (prog:Program) (w:World) (x:Str) (t:Tok):(qT prog w).is (.inr x) (.str x t)=true:=xp x t
inductive V where
 | non | bl (b:Bool) | int (i:Int) | str (x:Str) | byt (b:Array UInt8) | flt (b:UInt64) | ref (a:Addr) | ty (n:String)
 deriving DecidableEq
def qP:V->Value->Prop
 | .non,u=>u=Value.none
 | .bl b,u=>u=Value.bool b
 | .int i,u=>∃t,u=Value.int i t
 | .str x,u=>∃t,u=Value.str x t
 | .byt b,u=>∃t,u=Value.bytes b t
 | .flt b,u=>∃t,u=Value.float b t
 | .ref a,u=>u=Value.ref a
 | .ty n,u=>u=Value.type n
abbrev qE:List V->List Value->Prop:=Paired qP
theorem qE.length {xs:List V} {us:List Value} (r:qE xs us):xs.length=us.length:=Paired.length r
theorem qE.get:∀{xs:List V} {us:List Value} {i:Nat} {x:V},qE xs us->xs[i]?=some x->∃u,us[i]?=some u/\qP x u
 | _,_,_,_,.nil,e=>by simp at e
 | _,_,0,_,.cons r _,e=>by simp at e;subst e;exact⟨_,rfl,r⟩
 | _,_,i+1,x,.cons _ t,e=>by
   obtain⟨u,h1,h2⟩:=qE.get (i:=i) (x:=x) t (by simpa using e)
   exact⟨u,by simpa using h1,h2⟩
theorem qE.set {x:V} {u:Value} (r:qP x u):∀{xs:List V} {us:List Value} (i:Nat),qE xs us->qE (xs.set i x) (us.set i u)
 | _,_,_,.nil=>.nil
 | _,_,0,.cons _ t=>.cons r t
 | _,_,i+1,.cons q t=>.cons q (qE.set r i t)
theorem qE.append:∀{xs ys:List V} {us ws:List Value},qE xs us->qE ys ws->qE (xs++ys) (us++ws)
 | _,_,_,_,.nil,s=>s
 | _,_,_,_,.cons r t,s=>.cons r (qE.append t s)
theorem qE.take:∀{xs:List V} {us:List Value} (n:Nat),qE xs us->qE (xs.take n) (us.take n)
 | _,_,0,_=>.nil
 | _,_,_+1,.nil=>.nil
 | _,_,n+1,.cons r t=>.cons r (qE.take n t)
theorem qE.drop:∀{xs:List V} {us:List Value} (n:Nat),qE xs us->qE (xs.drop n) (us.drop n)
 | _,_,0,r=>r
 | _,_,_+1,.nil=>.nil
 | _,_,n+1,.cons _ t=>qE.drop n t
theorem qE.none_of:∀{xs:List V} {us:List Value} {i:Nat},qE xs us->xs[i]?=none->us[i]?=none:=λ{xs us i} r e=>by
 have h1:=r.length
 have h2:xs.length<=i:=zcQ.mp e
 exact zcQ.mpr (by omega)
def JF:Option V->Option Value->Prop
 | some v,some u=>qP v u
 | none,none=>True
 | _,_=>False
def KV {κ:Type}:List (κ×V)->List (κ×Value)->Prop:=Paired λ(p:κ×V) (q:κ×Value)=>p.1=q.1/\qP p.2 q.2
def kV:qL->V
 | .inl i=>.int i
 | .inr x=>.str x
inductive HO where
 | lst (xs:List V)
 | tup (xs:List V)
 | dK (kvs:List (qL×V)) | dT (kvs:List (List qL×V))
 | set (S:Int->Bool) (n:Nat)
 | ins (C dx:Addr) (fs:List (Str×V))
 | own (x:Addr)
 | xd (fs:List (Str×V))
 | met (f x:Addr)
 | rng (lo hi:Int)
 | frz (o:Obj) (u:HO)
 | tbl (ps:Array Value)
 | ext (φ:Heap->Prop)
abbrev Hp:=Addr->Option HO
def upd (H:Hp) (a:Addr) (o:HO):Hp:=λb=>if b=a then some o else H b
theorem qd {H:Hp} {a:Addr} {o:HO}:upd H a o a=some o:=by unfold upd;rw[if_pos rfl]
theorem qg {H:Hp} {a b:Addr} {o:HO} (h:b≠a):upd H a o b=H b:=by unfold upd;rw[if_neg h]
theorem jo {H:Hp} {a:Addr} {o u:HO}:upd (upd H a o) a u=upd H a u:=by
 funext b;unfold upd;split<;>rfl
theorem qaP {H:Hp} {a b:Addr} {o u:HO} (h:H a=some o) (h':H b=some u) (d:o≠u):a≠b:=by
 intro e;subst e;rw[h]at h';exact d (tL.inj h')
theorem qp {H:Hp} {a b:Addr} {o:HO} (h:H a=some o) (h':H b=none):a≠b:=by
 intro e;subst e;rw[h]at h';cases h'
section
variable (P:Program) (w:World)
def qI (H:Hp) (h:Heap) (a:Addr):HO->Prop
 | .lst xs=>xs.length<=sizeLine/\∃(its:List Value) (n:Nat),qE xs its/\h.get? a=some {cls:=.type "list",data:=.seq its.toArray n}
 | .tup xs=>xs.length<=sizeLine/\∃its:List Value,qE xs its/\IsTup h a its.toArray
 | .dK kvs=>kvs.length<=sizeLine/\(a==sysModules)=false/\∃vs,KV kvs vs/\h.DictOf (qT P w) a vs
 | .dT kvs=>kvs.length<=sizeLine/\(a==sysModules)=false/\∃xs:List (List qL×Addr×Value),
     Paired (λ(p:List qL×V) (q:List qL×Addr×Value)=>p.1=q.1/\H q.2.1=some (.tup (p.1.map kV))/\qP p.2 q.2.2) kvs xs/\
     ∃o es ep,h.get? a=some o/\o.ExactDict/\o.data=.dict es ep/\es.toList=xs.map (entryOfKey (tupleKind (qT P w)))/\(xs.map (·.1)).Nodup
 | .set S n=>h.SetOf (intKind P w) a S n
 | .ins C dx fs=>H dx=some (.own a)/\fs.length<=1000/\dx≠a/\h.get? a=some (zbv C dx)/\
     ∃mA,h.Ns1 dx mA/\(∀f,JF (fs.lookup f) (mA f))/\PySem.Within mA (fs.map (·.1))
 | .own _=>∃o,h.get? a=some o
 | .xd fs=>∃mA,h.Ns1 a mA/\∀f,JF (fs.lookup f) (mA f)
 | .rng lo hi=>∃t u v,h.get? a=some {cls:=.type "range",data:=.fields #[.int lo t,.int hi u,.int 1 v]}
 | .frz o u=>h.get? a=some o/\qI H h a u
 | .tbl ps=>h.get? a=some {cls:=.none,data:=.fields ps}
 | .met f x=>h.get? a=some (zcV (.ref f) (.ref x))
 | .ext φ=>φ h/\(∃o,h.get? a=some o)/\∀h1 h2:Heap,φ h1->(∀o,h1.get? a=some o->h2.get? a=some o)->φ h2
def JK (H:Hp) (h:Heap):Prop:=∀a o,H a=some o->qI P w H h a o
end
section
variable {P:Program} {w:World} {H H':Hp} {h h':Heap} {a:Addr} {o:HO}
theorem qI.lt (x:qI P w H h a o):a < h.objs.size:=by
 cases o with
 | lst xs=>obtain⟨_,_,_,_,e⟩:=x;exact tP e
 | tup xs=>obtain⟨_,_,_,p⟩:=x;exact p.lt
 | dK kvs=>obtain⟨_,_,_,_,o,_,_,e,_⟩:=x;exact tP e
 | dT kvs=>obtain⟨_,_,_,_,o,_,_,e,_⟩:=x;exact tP e
 | set S n=>obtain⟨o,_,_,_,e,_⟩:=x;exact tP e
 | ins C dx fs=>obtain⟨_,_,_,e,_⟩:=x;exact tP e
 | own y=>obtain⟨_,e⟩:=x;exact tP e
 | xd fs=>obtain⟨_,⟨_,_,_,e,_⟩,_⟩:=x;exact tP e
 | rng lo hi=>obtain⟨_,_,_,e⟩:=x;exact tP e
 | frz ob u=>obtain⟨e,_⟩:=x;exact tP e
 | tbl ps=>exact tP (show h.get? a=some _ from x)
 | met f y=>exact tP (show h.get? a=some _ from x)
 | ext φ=>obtain⟨_,⟨_,e⟩,_⟩:=x;exact tP e
theorem Paired.mapP {α β:Type} {F G:α->β->Prop}:∀{l₁:List α} {l₂:List β},Paired F l₁ l₂->(∀a b,F a b->G a b)->Paired G l₁ l₂
 | _,_,.nil,_=>.nil
 | _,_,.cons r t,f=>.cons (f _ _ r) (Paired.mapP t f)
theorem qI.stay (x:qI P w H h a o) (k:∀b u,(b=a\/H b=some (.own a))->h.get? b=some u->h'.get? b=some u)
   (ho:∀b,H b=some (.own a)->H' b=some (.own a)) (ht:∀b xs,H b=some (.tup xs)->H' b=some (.tup xs)):qI P w H' h' a o:=by
 induction o with
 | lst xs=>obtain⟨z,its,n,r,e⟩:=x;exact⟨z,its,n,r,k _ _ (.inl rfl) e⟩
 | tup xs=>obtain⟨z,its,r,ob,e,c⟩:=x;exact⟨z,its,r,ob,k _ _ (.inl rfl) e,c⟩
 | dK kvs=>obtain⟨z,y,vs,r,ob,es,ep,e,c⟩:=x;exact⟨z,y,vs,r,ob,es,ep,k _ _ (.inl rfl) e,c⟩
 | dT kvs=>
   obtain⟨z,y,xs,r,ob,es,ep,e,c⟩:=x
   exact⟨z,y,xs,Paired.mapP r λp q z=>⟨z.1,ht _ _ z.2.1,z.2.2⟩,ob,es,ep,k _ _ (.inl rfl) e,c⟩
 | set S n=>obtain⟨ob,es,ep,t,e,c⟩:=x;exact⟨ob,es,ep,t,k _ _ (.inl rfl) e,c⟩
 | ins C dx fs=>
   obtain⟨d,z,ne,e,mA,⟨od,es,ep,e2,c⟩,r⟩:=x
   exact⟨ho _ d,z,ne,k _ _ (.inl rfl) e,mA,⟨od,es,ep,k _ _ (.inr d) e2,c⟩,r⟩
 | own y=>obtain⟨ob,e⟩:=x;exact⟨ob,k _ _ (.inl rfl) e⟩
 | xd fs=>obtain⟨mA,⟨od,es,ep,e,c⟩,r⟩:=x;exact⟨mA,⟨od,es,ep,k _ _ (.inl rfl) e,c⟩,r⟩
 | rng lo hi=>obtain⟨t,u,v,e⟩:=x;exact⟨t,u,v,k _ _ (.inl rfl) e⟩
 | frz ob u ih=>obtain⟨e,q⟩:=x;exact⟨k _ _ (.inl rfl) e,ih q⟩
 | tbl ps=>
   have e:h.get? a=some {cls:=.none,data:=.fields ps}:=x
   show h'.get? a=some {cls:=.none,data:=.fields ps}
   exact k a _ (.inl rfl) e
 | met f y=>
   have e:h.get? a=some (zcV (.ref f) (.ref y)):=x
   show h'.get? a=some (zcV (.ref f) (.ref y))
   exact k a _ (.inl rfl) e
 | ext φ=>obtain⟨p,⟨o,e⟩,st⟩:=x;exact⟨st _ _ p λo q=>k _ _ (.inl rfl) q,⟨o,k _ _ (.inl rfl) e⟩,st⟩
theorem JK.lt (x:JK P w H h) (e:H a=some o):a < h.objs.size:=(x a o e).lt
theorem JK.fresh (x:JK P w H h) (e:h.objs.size<=a):H a=none:=by
 cases q:H a with
 | none=>rfl
 | some u=>exact absurd (tO (x.lt q) e) (zat _)
theorem JK.kept (x:JK P w H h) (k:∀b u,h.get? b=some u->h'.get? b=some u):JK P w H h':=λa o e=>
 (x a o e).stay (λb u _ q=>k b u q) (λ_ q=>q) λ_ _ q=>q
theorem JK.laid (x:JK P w H h) (k:∀b u,h.get? b=some u->h'.get? b=some u) (hp:h.objs.size<=a) (new:qI P w (upd H a o) h' a o):JK P w (upd H a o) h':=λb u e=>by
 have hn:=x.fresh hp
 by_cases hb:b=a
 . subst hb;rw[qd]at e;cases e;exact new
 . rw[qg hb]at e
   exact(x b u e).stay (λc v _ q=>k c v q) (λc q=>by rw[qg (qp q hn)];exact q) λc xs q=>by rw[qg (qp q hn)];exact q
end
def Rd (H:Hp) (a:Addr) (u:HO):Prop:=H a=some u\/∃o,H a=some (.frz o u)
theorem Rd.ok {P:Program} {w:World} {H:Hp} {h:Heap} {a:Addr} {u:HO} (r:Rd H a u) (x:JK P w H h):qI P w H h a u:=by
 rcases r with r | ⟨o,r⟩
 . exact x a u r
 . obtain⟨_,q⟩:=x a _ r
   exact q
def MX:Option HO->Prop
 | some (.lst _)=>True
 | some (.dK _)=>True
 | some (.dT _)=>True
 | some (.set _ _)=>True
 | some (.ins _ _ _)=>True
 | some (.ext _)=>True
 | _=>False
section
variable {P:Program} {w:World} {H:Hp} {h h':Heap} {x e:Addr} {o':HO}
theorem JK.write (ok:JK P w H h) (mu:MX (H x)) (he:e=x\/H e=some (.own x)) (k:∀b u,b≠e->h.get? b=some u->h'.get? b=some u) (heo:∃u,h'.get? e=some u)
   (new:qI P w (upd H x o') h' x o'):JK P w (upd H x o') h':=λb u q=>by
 have nown:∀c y,H c=some (.own y)->c≠x:=λc y r z=>by subst z;rw[r]at mu;exact mu
 have ntup:∀c xs,H c=some (.tup xs)->c≠x:=λc xs r z=>by subst z;rw[r]at mu;exact mu
 by_cases hb:b=x
 . subst hb;rw[qd]at q;cases q;exact new
 . rw[qg hb]at q
   by_cases hbe:b=e
   . have q':H b=some (.own x):=by
       rcases he with z | z
       . exact absurd (hbe.trans z) hb
       . rw[hbe];exact z
     rw[q]at q';cases q'
     obtain⟨v,hv⟩:=heo
     exact⟨v,by rw[hbe];exact hv⟩
   . refine(ok b u q).stay (λc v hc r=>k c v ?_ r) (λc r=>by rw[qg (nown c b r)];exact r) λc xs r=>by rw[qg (ntup c xs r)];exact r
     rcases hc with rfl | hc
     . exact hbe
     . rintro rfl
       rcases he with z | z
       . exact nown c b hc z
       . rw[hc]at z;cases z;exact hb rfl
end
structure Un (fs ex:List Addr) (H H':Hp) (h h':Heap):Prop where
 keep:∀b o,h.get? b=some o->H b=none->b∉fs->b∉ex->h'.get? b=some o
 slot:∀b o,h.get? b=some o->H b=none->b∈fs->b∉ex->∃sl,h'.get? b=some {o with slots:=sl}
 free:∀b o,h.get? b=some o->H b=none->b∉ex->H' b=none
 there:∀b o,h.get? b=some o->b∉ex->∃o',h'.get? b=some o'
 tups:∀b xs,H b=some (.tup xs)->H' b=some (.tup xs)
 frzs:∀b o u,H b=some (.frz o u)->H' b=some (.frz o u)
 tbls:∀b ps,H b=some (.tbl ps)->∃more,H' b=some (.tbl (ps++more))
section
variable {fs fs' ex ex':List Addr} {H H1 H2:Hp} {h h1 h2 h':Heap} {a x e:Addr} {o:HO}
theorem Un.any (u:Un fs ex H H1 h h1) {b:Addr} {ob:Obj} (q:h.get? b=some ob) (n:H b=none) (hx:b∉ex):∃sl,h1.get? b=some {ob with slots:=sl}:=by
 by_cases hb:b∈fs
 . exact u.slot b ob q n hb hx
 . exact⟨ob.slots,u.keep b ob q n hb hx⟩
theorem Un.kept (k:∀b u,h.get? b=some u->h'.get? b=some u):Un fs ex H H h h':=
 ⟨λb ob q _ _ _=>k b ob q,λb ob q _ _ _=>⟨ob.slots,k b ob q⟩,λ_ _ _ n _=>n,λb ob q _=>⟨ob,k b ob q⟩,λ_ _ q=>q,λ_ _ _ q=>q,λ_ ps q=>⟨#[],by rw[q];simp⟩⟩
theorem Un.refl:Un fs ex H H h h:=Un.kept λ_ _ q=>q
theorem Un.laid (k:∀b u,h.get? b=some u->h'.get? b=some u) (hp:h.objs.size<=a) (hn:H a=none):Un fs ex H (upd H a o) h h' where
 keep:=λb u q _ _ _=>k b u q
 slot:=λb u q _ _ _=>⟨u.slots,k b u q⟩
 free:=λb u q n _=>by rw[qg (tR (tO (tP q) hp))];exact n
 there:=λb u q _=>⟨u,k b u q⟩
 tups:=λb xs q=>by rw[qg (qp q hn)];exact q
 frzs:=λb u xs q=>by rw[qg (qp q hn)];exact q
 tbls:=λb ps q=>⟨#[],by rw[qg (qp q hn),q];simp⟩
theorem Un.write (mu:MX (H x)) (he:e=x\/H e=some (.own x)) (k:∀b u,b≠e->h.get? b=some u->h'.get? b=some u) (heo:∃u,h'.get? e=some u):Un fs ex H (upd H x o) h h':=by
 have hx:∀b,H b=none->b≠x:=λb n z=>by subst z;rw[n]at mu;exact mu
 have hb:∀b,H b=none->b≠e:=λb n z=>by
   subst z
   rcases he with r | r
   . exact hx b n r
   . rw[n]at r;cases r
 have hm:∀b u,H b=some u->¬MX (some u)->b≠x:=λb u q nm z=>by subst z;rw[q]at mu;exact nm mu
 refine⟨λb u q n _ _=>k b u (hb b n) q,λb u q n _ _=>⟨u.slots,k b u (hb b n) q⟩,λb u q n _=>by rw[qg (hx b n)];exact n,λb u q _=>?_,
   λb xs q=>by rw[qg (hm b _ q λz=>z)];exact q,λb u xs q=>by rw[qg (hm b _ q λz=>z)];exact q,λb ps q=>⟨#[],by rw[qg (hm b _ q λz=>z),q];simp⟩⟩
 by_cases hbe:b=e
 . subst hbe;exact heo
 . exact⟨u,k b u hbe q⟩
end
def trk (h:Heap) (H:Hp):List Addr:=(tM h.objs.size).filter λa=>(H a).isSome
def Vz (h:Heap) (H:Hp):Heap:=PySem.W.hideAll h (trk h H)
theorem xA (h:Heap) (H:Hp):(Vz h H).objs.size=h.objs.size:=PySem.W.hideAll_size _ _
theorem Ke {h:Heap} {H:Hp} {b:Addr} {o:Obj} (e:h.get? b=some o) (n:H b=none):(Vz h H).get? b=some o:=
 PySem.W.hideAll_get _ e λhm=>by
   have q:(H b).isSome=true:=(zae.mp hm).2
   rw[n]at q;simp at q
theorem Rq {h:Heap} {H:Hp} {b:Addr} {o:Obj} (e:(Vz h H).get? b=some o):h.get? b=some o/\H b=none:=by
 have e':h.get? b=some o:=PySem.W.of_hideAll (trk h H) e
 refine⟨e',?_⟩
 cases q:H b with
 | none=>rfl
 | some x=>
   have hm:b∈trk h H:=zae.mpr ⟨zap.mpr (tP e'),by simp [q]⟩
   have z:(Vz h H).get? b=none:=PySem.W.hideAll_none (trk h H) hm
   rw[z]at e;cases e
def R8 (g h:Heap) (L:Addr):List (Addr×Obj):=(tM h.objs.size).filterMap λa=>if a=L\/(g.get? a).isSome=true then none else (h.get? a).map λo=>(a,o)
def rest (g h:Heap) (L d:Addr):List (Addr×Obj):=(R8 g h L).filter λp=>decide (p.1≠d)
structure Mod (K:PySem.W.Frag) (mg:Str->Option Value) (base:Heap):Prop where
 kin:K.In base
 glob:base.Ns mainGlobals mg
 blt:∃mb,base.Ns builtinsNs mb/\∀x:Str,x≠"__name__"->mb x=bootBuiltins x
 nolimit:base.NoLimit
structure Cx where
 prog:Program
 w:World
 K:PySem.W.Frag
 mg:Str->Option Value
 base:Heap
 A:Around
 N:List Str
 s₀:Shared
 H₀:Hp
 env:Env
 outer:List Env
 stack:List Env
 ex:List Addr
 fn:Str->Bool
 calm:Bool
 pn:List (Addr×Obj)
 xe:Value->Shared->Prop
def zZ (l:List Env):List Addr:=l.filterMap (·.frame)
abbrev Cx.fs (X:Cx):List Addr:=zZ X.outer
def MT (sc:Scope) (x:Str):Prop:=sc.names.lookup x=some .local\/sc.names.lookup x=some .cell\/sc.names.lookup x=some .free
def MY (sc:Scope) (x:Str):Prop:=sc.names.lookup x=some .local\/sc.names.lookup x=some .cell
def qcf (env:Env) (h:Heap) (m:Str->Option Value) (x:Str) (u:Value):Prop:=
 (env.kindOf x=some .local/\m x=some u)\/((env.kindOf x=some .cell\/env.kindOf x=some .free)/\∃c,env.cells.lookup x=some c/\h.IsCell c (some u))
structure Cx.Ok (X:Cx):Prop where
 mod:Mod X.K X.mg X.base
 kind:X.env.scope.kind=.function
 glob:X.env.globals=mainGlobals
 blt:X.env.builtins=builtinsNs
 above:X.s₀.heap.objs.size<=X.env.locals
 inj:∀x y c,X.env.cells.lookup x=some c->X.env.cells.lookup y=some c->x=y
 has:∀x,(X.env.kindOf x=some .cell\/X.env.kindOf x=some .free)->∃c,X.env.cells.lookup x=some c
 cab:∀x c,X.fn x=true->X.env.cells.lookup x=some c->X.s₀.heap.objs.size<=c
 hd:X.calm=true->X.A.handled=none
 frames:X.A.frames=some X.stack
 stk:X.stack=X.outer\/(X.stack=X.env::X.outer/\X.env.frame=some X.env.locals)
 exf:∀b∈X.ex,b≠X.env.locals/\∀x c,X.env.cells.lookup x=some c->c≠b
 bs:∀b o,X.base.get? b=some o->X.s₀.heap.get? b=some o/\X.H₀ b=none
 bsz:X.base.objs.size<=X.s₀.heap.objs.size
 noex:∀b o,X.base.get? b=some o->b∉X.ex
 exfs:∀b∈X.ex,b∉X.fs
 funs:X.s₀.heap.FunFrames X.base X.outer
 frf:∀b∈X.fs,X.H₀ b=none
structure qz (X:Cx) (pins:List (Addr×Obj)) (σ:List (Option V)) (H:Hp) (s:Shared):Prop where
 ok:X.Ok
 os:s.os=X.s₀.os
 bare:AllBare s.gens
 base:Un X.fs X.ex X.H₀ H X.s₀.heap s.heap
 loc:∃m,s.heap.Ns X.env.locals m/\∀(i:Nat) (x:Str) (v:V),X.N[i]?=some x->σ[i]?=some (some v)->MT X.env.scope x->∃u,qP v u/\qcf X.env s.heap m x u
 cell:∀x c,X.env.cells.lookup x=some c->∃v,s.heap.IsCell c v
 free:H X.env.locals=none
 freeC:∀x c,X.env.cells.lookup x=some c->H c=none
 pin:∀p∈X.pn++pins,s.heap.get? p.1=some p.2/\H p.1=none/\p.1≠X.env.locals/\p.1∉X.fs/\∀v,p.2.data≠.cell v
 hok:JK X.prog X.w H s.heap
 len:σ.length=X.N.length
section
variable {X:Cx} {pins:List (Addr×Obj)} {σ:List (Option V)} {H H':Hp} {s:Shared} {h':Heap}
theorem Cx.Ok.nofr (ok:X.Ok) {b:Addr} {o:Obj} (e:X.base.get? b=some o):b∉X.fs:=λhb=>by
 have:=(ok.funs.mem hb).1
 rw[e]at this;cases this
theorem qz.bs (I:qz X pins σ H s):∀b o,X.base.get? b=some o->s.heap.get? b=some o/\H b=none:=λb o e=>
 ⟨I.base.keep b o (I.ok.bs b o e).1 (I.ok.bs b o e).2 (I.ok.nofr e) (I.ok.noex b o e),I.base.free b o (I.ok.bs b o e).1 (I.ok.bs b o e).2 (I.ok.noex b o e)⟩
theorem qz.bk (I:qz X pins σ H s):∀b o,X.base.get? b=some o->s.heap.get? b=some o:=λb o e=>(I.bs b o e).1
theorem qz.mod (I:qz X pins σ H s):Mod X.K X.mg X.base:=I.ok.mod
theorem qz.kIn (I:qz X pins σ H s):X.K.In s.heap:=I.ok.mod.kin.keeps I.bk
theorem qz.lt (I:qz X pins σ H s):X.env.locals < s.heap.objs.size:=let ⟨_,hn,_⟩:=I.loc;hn.lt
theorem qz.sz (I:qz X pins σ H s):X.s₀.heap.objs.size<=s.heap.objs.size:=zaa I.ok.above (zam I.lt)
theorem qz.nofs (I:qz X pins σ H s) {a:Addr} (h:s.heap.objs.size<=a):a∉X.fs:=λhb=>by
 obtain⟨_,o,ho,_⟩:=I.ok.funs.mem hb
 exact absurd (tO (tP ho) (zaa I.sz h)) (zat _)
theorem qz.cne (I:qz X pins σ H s):∀x c,X.env.cells.lookup x=some c->c≠X.env.locals:=λx c e z=>by
 obtain⟨v,o,ho,hd⟩:=I.cell x c e
 obtain⟨m,⟨o',es,ep,ho',hd',_⟩,_⟩:=I.loc
 rw[z,ho']at ho;cases ho;rw[hd']at hd;cases hd
theorem qz.funs (I:qz X pins σ H s):s.heap.FunFrames X.base X.outer:=by
 have all:∀(l:List Env),(∀b∈zZ l,b∈X.fs)->X.s₀.heap.FunFrames X.base l->s.heap.FunFrames X.base l:=by
   intro l
   induction l with
   | nil=>intro _ _;trivial
   | cons env r ih=>
     intro hs hl
     obtain⟨hk,⟨L,o,hf,hn,ho,hd⟩,hr⟩:=hl
     have hL:L∈X.fs:=hs L (by unfold zZ;rw[zaf,hf];exact zab)
     obtain⟨sl,e⟩:=I.base.slot L o ho (I.ok.frf L hL) hL λz=>I.ok.exfs L z hL
     exact⟨hk,⟨L,_,hf,hn,e,hd⟩,ih (λb hb=>hs b (by unfold zZ;rw[zaf,hf];exact tY _ hb)) hr⟩
 exact all X.outer (λ_ hb=>hb) I.ok.funs
theorem qz.stack (I:qz X pins σ H s):s.heap.FunFrames X.base X.stack:=by
 rcases I.ok.stk with e | ⟨e,hf⟩
 . rw[e];exact I.funs
 . rw[e]
   obtain⟨m,hn,_⟩:=I.loc
   refine .cons (by rw[I.ok.kind];decide) hf hn ?_ I.funs
   exact zcz (zaa I.ok.bsz I.ok.above)
theorem qz.stkSub (I:qz X pins σ H s):∀b∈zZ X.stack,b∈X.env.locals::X.fs:=λb hb=>by
 rcases I.ok.stk with e | ⟨e,hf⟩
 . rw[e]at hb;exact tY _ hb
 . rw[e]at hb
   unfold zZ at hb
   rw[zaf,hf]at hb
   exact hb
theorem qz.stkFree (I:qz X pins σ H s):∀b∈zZ X.stack,H b=none:=λb hb=>by
 rcases tV.mp (I.stkSub b hb) with e | hb
 . rw[e];exact I.free
 . obtain⟨_,o,ho,_⟩:=I.ok.funs.mem hb
   exact I.base.free b o ho (I.ok.frf b hb) λz=>I.ok.exfs b z hb
theorem qz.step {g':Array GenState} {t':Nat} {d':Drawn} {ch:List Addr} (I:qz X pins σ H s)
   (hch:∀b∈ch,(b∈X.ex\/X.s₀.heap.objs.size<=b)/\b≠X.env.locals/\(∀x c,X.env.cells.lookup x=some c->c≠b)/\∀p∈X.pn++pins,p.1≠b)
   (keep:∀b o,b≠X.env.locals->b∉X.fs->b∉ch->s.heap.get? b=some o->H b=none->h'.get? b=some o)
   (slot:∀b o,b≠X.env.locals->b∈X.fs->b∉ch->s.heap.get? b=some o->H b=none->∃sl,h'.get? b=some {o with slots:=sl}) (free:∀b o,b∉ch->s.heap.get? b=some o->H b=none->H' b=none)
   (there:∀b o,b∉ch->s.heap.get? b=some o->∃o',h'.get? b=some o')
   (tups:∀b xs,H b=some (.tup xs)->H' b=some (.tup xs)) (frzs:∀b o u,H b=some (.frz o u)->H' b=some (.frz o u)) (tbls:∀b ps,H b=some (.tbl ps)->∃more,H' b=some (.tbl (ps++more)))
   (ns:∀m,s.heap.Ns X.env.locals m->h'.Ns X.env.locals m) (hok:JK X.prog X.w H' h') (hg:AllBare g'):
   qz X pins σ H' {s with heap:=h',gens:=g',drawn:=d',toks:=t'}:=by
 have neL:∀b o,X.s₀.heap.get? b=some o->b≠X.env.locals:=λb o e=>tR (tO (tP e) I.ok.above)
 have neC:∀b o,X.s₀.heap.get? b=some o->b∉X.ex->b∉ch:=λb o e hx hb=>by
   rcases(hch b hb).1 with z | z
   . exact hx z
   . exact absurd (tO (tP e) z) (zat _)
 have cellK:∀x c,X.env.cells.lookup x=some c->∀v,s.heap.IsCell c v->h'.IsCell c v:=λx c e v ⟨o,ho,hd⟩=>by
   have nch:c∉ch:=λz=>(hch c z).2.2.1 x c e rfl
   by_cases hc:c∈X.fs
   . obtain⟨sl,q⟩:=slot c o (I.cne x c e) hc nch ho (I.freeC x c e)
     exact⟨_,q,hd⟩
   . exact⟨o,keep c o (I.cne x c e) hc nch ho (I.freeC x c e),hd⟩
 refine⟨I.ok,I.os,hg,⟨λb o e n hb hx=>?_,λb o e n hb hx=>?_,λb o e n hx=>?_,λb o e hx=>?_,λb xs e=>tups b xs (I.base.tups b xs e),λb o xs e=>frzs b o xs (I.base.frzs b o xs e),λb ps e=>?_⟩,?_,λx c e=>?_,?_,λx c e=>?_,λp hp=>?_,hok,I.len⟩
 . exact keep b o (neL b o e) hb (neC b o e hx) (I.base.keep b o e n hb hx) (I.base.free b o e n hx)
 . obtain⟨sl,e1⟩:=I.base.slot b o e n hb hx
   obtain⟨sl',e2⟩:=slot b _ (neL b o e) hb (neC b o e hx) e1 (I.base.free b o e n hx)
   exact⟨sl',e2⟩
 . obtain⟨o',e1⟩:=I.base.there b o e hx
   exact free b o' (neC b o e hx) e1 (I.base.free b o e n hx)
 . obtain⟨o',e1⟩:=I.base.there b o e hx
   exact there b o' (neC b o e hx) e1
 . obtain⟨m1,e1⟩:=I.base.tbls b ps e
   obtain⟨m2,e2⟩:=tbls b _ e1
   exact⟨m1++m2,by rw[e2,Array.append_assoc]⟩
 . obtain⟨m,hn,hl⟩:=I.loc
   refine⟨m,ns m hn,λi x v e1 e2 e3=>?_⟩
   obtain⟨u,r,l⟩:=hl i x v e1 e2 e3
   refine⟨u,r,?_⟩
   rcases l with l | ⟨k,c,e,z⟩
   . exact .inl l
   . exact .inr ⟨k,c,e,cellK x c e _ z⟩
 . obtain⟨v,z⟩:=I.cell x c e
   exact⟨v,cellK x c e v z⟩
 . obtain⟨m,⟨o,_,_,ho,_⟩,_⟩:=I.loc
   exact free _ o (λz=>(hch _ z).2.1 rfl) ho I.free
 . obtain⟨v,o,ho,hd⟩:=I.cell x c e
   exact free c o (λz=>(hch c z).2.2.1 x c e rfl) ho (I.freeC x c e)
 . obtain⟨e,n,ne,nf,d⟩:=I.pin p hp
   have nch:p.1∉ch:=λz=>(hch p.1 z).2.2.2 p hp rfl
   exact⟨keep p.1 p.2 ne nf nch e n,free p.1 p.2 nch e n,ne,nf,d⟩
theorem qz.un {t':Nat} (I:qz X pins σ H s) (u:Un X.fs [] H H' s.heap h') (hok:JK X.prog X.w H' h'):qz X pins σ H' {s with heap:=h',toks:=t'}:=by
 obtain⟨m,⟨o,es,ep,ho,r⟩,_⟩:=id I.loc
 obtain⟨sl,hL⟩:=u.any ho I.free (by simp)
 exact I.step (g':=s.gens) (d':=s.drawn) (ch:=[]) (λ_ z=>nomatch z) (λb o _ hb _ e n=>u.keep b o e n hb (by simp)) (λb o _ hb _ e n=>u.slot b o e n hb (by simp)) (λb o _ e n=>u.free b o e n (by simp)) (λb o _ e=>u.there b o e (by simp)) u.tups u.frzs u.tbls (λm' hm=>by
   obtain⟨o',es',ep',ho',r'⟩:=hm
   rw[ho]at ho';cases ho'
   exact⟨_,es',ep',hL,r'⟩) hok I.bare
theorem qz.call {g':Array GenState} {t':Nat} {d':Drawn} {ch:List Addr} (I:qz X pins σ H s) (u:Un (zZ X.stack) ch H H' s.heap h') (hok:JK X.prog X.w H' h') (hg:AllBare g')
   (hch:∀b∈ch,(b∈X.ex\/X.s₀.heap.objs.size<=b)/\b≠X.env.locals/\(∀x c,X.env.cells.lookup x=some c->c≠b)/\∀p∈X.pn++pins,p.1≠b):
   qz X pins σ H' {s with heap:=h',gens:=g',drawn:=d',toks:=t'}:=by
 obtain⟨m,⟨o,es,ep,ho,r⟩,_⟩:=id I.loc
 obtain⟨sl,hL⟩:=u.any ho I.free λz=>(hch _ z).2.1 rfl
 exact I.step (ch:=ch) hch (λb o hL hb hc e n=>u.keep b o e n (λz=>(tV.mp (I.stkSub b z)).elim hL hb) hc) (λb o _ _ hc e n=>u.any e n hc) (λb o hc e n=>u.free b o e n hc) (λb o hc e=>u.there b o e hc) u.tups u.frzs u.tbls (λm' hm=>by
   obtain⟨o',es',ep',ho',r'⟩:=hm
   rw[ho]at ho';cases ho'
   exact⟨_,es',ep',hL,r'⟩) hok hg
theorem qz.turned {t':Nat} {it:Addr} (I:qz X pins σ H s) (k:∀b o,b≠it->s.heap.get? b=some o->h'.get? b=some o) (hn:H it=none) (hL:it≠X.env.locals)
   (h1:it∈X.ex\/X.s₀.heap.objs.size<=it) (h2:∀x c,X.env.cells.lookup x=some c->c≠it) (h3:∀p∈X.pn++pins,p.1≠it):qz X pins σ H {s with heap:=h',toks:=t'}:=by
 have nit:∀b u,H b=some u->b≠it:=λb u e z=>by rw[z,hn]at e;cases e
 refine I.step (g':=s.gens) (d':=s.drawn) (ch:=[it]) (λb hb=>?_) (λb o _ _ hc e _=>k b o (λz=>hc (by simp [z])) e) (λb o _ _ hc e _=>⟨o.slots,k b o (λz=>hc (by simp [z])) e⟩) (λ_ _ _ _ n=>n)
   (λb o hc e=>⟨o,k b o (λz=>hc (by simp [z])) e⟩) (λ_ _ e=>e) (λ_ _ _ e=>e) (λb ps e=>⟨#[],by rw[e];simp⟩) (λm hm=>?_) (λb u e=>?_) I.bare
 . have e:b=it:=by simpa using hb
   subst e
   exact⟨h1,hL,h2,h3⟩
 . obtain⟨o,es,ep,ho,r⟩:=hm
   exact⟨o,es,ep,k _ o (Ne.symm hL) ho,r⟩
 . refine(I.hok b u e).stay (λc v hc q=>k c v ?_ q) (λ_ q=>q) λ_ _ q=>q
   rcases hc with z | z
   . rw[z];exact nit b u e
   . exact nit c _ z
theorem qz.tok (I:qz X pins σ H s) (t:Nat):qz X pins σ H {s with toks:=t}:=I.un (h':=s.heap) (t':=t) Un.refl I.hok
theorem qz.kept {t':Nat} (I:qz X pins σ H s) (k:∀b u,s.heap.get? b=some u->h'.get? b=some u):qz X pins σ H {s with heap:=h',toks:=t'}:=I.un (Un.kept k) (I.hok.kept k)
theorem qz.laid {a:Addr} {o:HO} {t':Nat} (I:qz X pins σ H s) (k:∀b u,s.heap.get? b=some u->h'.get? b=some u) (hp:s.heap.objs.size<=a) (new:qI X.prog X.w (upd H a o) h' a o):
   qz X pins σ (upd H a o) {s with heap:=h',toks:=t'}:=I.un (Un.laid k hp (I.hok.fresh hp)) (I.hok.laid k hp new)
theorem qz.write {x e:Addr} {o:HO} {t':Nat} (I:qz X pins σ H s) (mu:MX (H x)) (he:e=x\/H e=some (.own x)) (k:∀b u,b≠e->s.heap.get? b=some u->h'.get? b=some u) (heo:∃u,h'.get? e=some u)
   (new:qI X.prog X.w (upd H x o) h' x o):qz X pins σ (upd H x o) {s with heap:=h',toks:=t'}:=I.un (Un.write mu he k heo) (I.hok.write mu he k heo new)
theorem qz.pins_of {pins':List (Addr×Obj)} (I:qz X pins σ H s) (h:∀p∈pins',s.heap.get? p.1=some p.2/\H p.1=none/\p.1≠X.env.locals/\p.1∉X.fs/\∀v,p.2.data≠.cell v):qz X pins' σ H s:=
 ⟨I.ok,I.os,I.bare,I.base,I.loc,I.cell,I.free,I.freeC,λp hp=>(t9.mp hp).elim (λz=>I.pin p (zaI _ z)) (h p),I.hok,I.len⟩
theorem Xf {N:List Str} (hN:N.Nodup) {i j:Nat} {x:Str} (a:N[i]?=some x) (b:N[j]?=some x):i=j:=by
 obtain⟨h1,e1⟩:=tw.mp a
 obtain⟨h2,e2⟩:=tw.mp b
 exact(List.getElem_inj hN).mp (e1.trans e2.symm)
theorem Wd {M:Model} {A:Around} {E:Value->Shared->Prop} {i:Nat} {x:Str} {v:V} {u:Value} {Q:Unit->Shared->Prop} (I:qz X pins σ H s) (hN:X.N.Nodup) (hi:X.N[i]?=some x) (hx:MY X.env.scope x) (r:qP v u)
   (h:∀s',qz X pins (σ.set i (some v)) H s'->(∃a,Heap.SameBut a s.heap s'.heap/\(a=X.env.locals\/X.env.cells.lookup x=some a))->Q () s') (hf:X.fn x=true\/X.env.scope.names.lookup x=some .local:=by first | exact .inl rfl | exact .inr rfl | assumption):wpAny M A (storeName X.env x u) Q E s:=by
 obtain⟨m,hn,hl⟩:=id I.loc
 have hcls:(X.env.scope.kind==.class || (X.env.scope.kind==.module&&X.env.locals != X.env.globals))=false:=by rw[I.ok.kind];rfl
 have hiσ:i < σ.length:=by rw[I.len];exact(tw.mp hi).1
 have cne:=I.cne
 have tracked:∀{a:Addr} {h':Heap},(∃o,s.heap.get? a=some o/\H a=none)->Heap.SameBut a s.heap h'->JK X.prog X.w H h':=λ{a h'} ha hs b ob e=>by
   obtain⟨_,_,hfree⟩:=ha
   refine(I.hok b ob e).stay (λc w' hc q=>(hs.2 c ?_).trans q) (λ_ q=>q) λ_ _ q=>q
   rintro rfl
   rcases hc with rfl | hc
   . rw[hfree]at e;cases e
   . rw[hfree]at hc;cases hc
 rcases hx with hk | hk
 . refine wpAny_storeName_local hk hn (λh' hn' hs=>?_) hcls
   obtain⟨oL,_,_,hoL,_⟩:=id hn
   refine h _ ⟨I.ok,I.os,I.bare,⟨λb o e n hb hx=>?_,λb o e n hb hx=>?_,I.base.free,λb o e hx=>?_,I.base.tups,I.base.frzs,I.base.tbls⟩,⟨_,hn',λj y v' e1 e2 e3=>?_⟩,λy c e=>?_,I.free,I.freeC,λp hp=>?_,tracked ⟨oL,hoL,I.free⟩ hs,by simpa using I.len⟩ ⟨_,hs,.inl rfl⟩
   . exact(hs.2 b (tR (tO (tP e) I.ok.above))).trans (I.base.keep b o e n hb hx)
   . obtain⟨sl,e1⟩:=I.base.slot b o e n hb hx
     exact⟨sl,(hs.2 b (tR (tO (tP e) I.ok.above))).trans e1⟩
   . obtain⟨o',e1⟩:=I.base.there b o e hx
     exact⟨o',(hs.2 b (tR (tO (tP e) I.ok.above))).trans e1⟩
   . by_cases hj:j=i
     . subst hj
       rw[hi]at e1;cases e1
       rw[zcj hiσ]at e2
       cases e2
       exact⟨u,r,.inl ⟨hk,by simp⟩⟩
     . rw[zcA (Ne.symm hj)]at e2
       obtain⟨u',r',q⟩:=hl j y v' e1 e2 e3
       refine⟨u',r',?_⟩
       rcases q with ⟨k,e⟩ | ⟨k,c,e,z⟩
       . refine .inl ⟨k,?_⟩
         have:y≠x:=λe=>hj (Xf hN e1 (e▸hi))
         simp [this,e]
       . exact .inr ⟨k,c,e,z.sameBut hs (cne y c e)⟩
   . obtain⟨w',z⟩:=I.cell y c e
     exact⟨w',z.sameBut hs (cne y c e)⟩
   . obtain⟨e,n,ne,nf,d⟩:=I.pin p hp
     exact⟨(hs.2 p.1 ne).trans e,n,ne,nf,d⟩
 . have hfn:X.fn x=true:=by
     rcases hf with z | z
     . exact z
     . rw[z]at hk;cases hk
   obtain⟨c,hc⟩:=I.ok.has x (.inl hk)
   obtain⟨w',z⟩:=I.cell x c hc
   refine wpAny_storeName_cell I.ok.kind hk hc z (λh' hc' hs=>?_)
   obtain⟨oc,hoc,hocd⟩:=id z
   refine h {s with heap:=h'} ⟨I.ok,I.os,I.bare,⟨λb o e n hb hx=>?_,λb o e n hb hx=>?_,I.base.free,λb o e hx=>?_,I.base.tups,I.base.frzs,I.base.tbls⟩,⟨m,hn.sameBut hs (Ne.symm (cne x c hc)),λj y v' e1 e2 e3=>?_⟩,λy c' e=>?_,I.free,I.freeC,λp hp=>?_,tracked ⟨oc,hoc,I.freeC x c hc⟩ hs,by simpa using I.len⟩ ⟨c,hs,.inr hc⟩
   . exact(hs.2 b (tR (tO (tP e) (I.ok.cab x c hfn hc)))).trans (I.base.keep b o e n hb hx)
   . obtain⟨sl,e1⟩:=I.base.slot b o e n hb hx
     exact⟨sl,(hs.2 b (tR (tO (tP e) (I.ok.cab x c hfn hc)))).trans e1⟩
   . obtain⟨o',e1⟩:=I.base.there b o e hx
     exact⟨o',(hs.2 b (tR (tO (tP e) (I.ok.cab x c hfn hc)))).trans e1⟩
   . by_cases hj:j=i
     . subst hj
       rw[hi]at e1;cases e1
       rw[zcj hiσ]at e2
       cases e2
       exact⟨u,r,.inr ⟨.inl hk,c,hc,hc'⟩⟩
     . rw[zcA (Ne.symm hj)]at e2
       obtain⟨u',r',q⟩:=hl j y v' e1 e2 e3
       refine⟨u',r',?_⟩
       rcases q with q | ⟨k,c',e,z'⟩
       . exact .inl q
       . refine .inr ⟨k,c',e,z'.sameBut hs ?_⟩
         rintro rfl
         exact hj (Xf hN e1 (I.ok.inj _ _ _ e hc▸hi))
   . by_cases hcc:c'=c
     . subst hcc;exact⟨_,hc'⟩
     . obtain⟨w2,z2⟩:=I.cell y c' e
       exact⟨w2,z2.sameBut hs hcc⟩
   . obtain⟨e,n,ne,nf,d⟩:=I.pin p hp
     refine⟨(hs.2 p.1 ?_).trans e,n,ne,nf,d⟩
     intro q
     rw[q,hoc]at e
     have q':oc=p.2:=tL.inj e
     exact d w' (by rw[<-q'];exact hocd)
theorem ZV {M:Model} {A:Around} {E:Value->Shared->Prop} {i:Nat} {x:Str} {v:V} {u:Value} {Q:Unit->Shared->Prop} (I:qz X pins σ H s) (hN:X.N.Nodup) (hi:X.N[i]?=some x) (hx:MY X.env.scope x) (r:qP v u)
   (h:∀s',qz X pins (σ.set i (some v)) H s'->Q () s') (hf:X.fn x=true\/X.env.scope.names.lookup x=some .local:=by first | exact .inl rfl | exact .inr rfl | assumption):wpAny M A (storeName X.env x u) Q E s:=
 Wd I hN hi hx r (λs' I' _=>h s' I') hf
theorem qz.call' {s':Shared} {ch:List Addr} (I:qz X pins σ H s) (ho:s'.os=s.os) (u:Un (zZ X.stack) ch H H' s.heap s'.heap) (hok:JK X.prog X.w H' s'.heap) (hg:AllBare s'.gens)
   (hch:∀b∈ch,(b∈X.ex\/X.s₀.heap.objs.size<=b)/\b≠X.env.locals/\(∀x c,X.env.cells.lookup x=some c->c≠b)/\∀p∈X.pn++pins,p.1≠b):qz X pins σ H' s':=by
 obtain⟨h',g',d',t',o'⟩:=s'
 have e:o'=s.os:=ho
 subst e
 exact I.call (g':=g') (t':=t') (d':=d') u hok hg hch
end
abbrev XK:=Value->Option Addr->Hp->Prop
abbrev St:=List (Option V)
abbrev VK:=V->Hp->Prop
abbrev TE:=St->Hp->VK->Prop
abbrev TT:=St->Hp->(Bool->Hp->Prop)->Prop
abbrev TA:=St->Hp->(List V->Hp->Prop)->Prop
structure Q8 where
 nx:St->Hp->Prop
 rt:VK
 bk:St->Hp->Prop:=λ_ _=>False
 ct:St->Hp->Prop:=λ_ _=>False
abbrev TS:=Q8->St->Hp->Prop
def EP (X:Cx) (pins:List (Addr×Obj)) (σ:St) (Q:VK) (u:Value) (s':Shared):Prop:=∃v H',qz X pins σ H' s'/\qP v u/\Q v H'
def TP (X:Cx) (pins:List (Addr×Obj)) (σ:St) (Q:Bool->Hp->Prop) (b:Bool) (s':Shared):Prop:=∃H',qz X pins σ H' s'/\Q b H'
def AP (X:Cx) (pins:List (Addr×Obj)) (σ:St) (Q:List V->Hp->Prop) (us:List Value) (s':Shared):Prop:=∃vs H',qz X pins σ H' s'/\qE vs us/\Q vs H'
def SP (X:Cx) (pins:List (Addr×Obj)) (D:Q8) (f:Flow) (s':Shared):Prop:=
 match f with
 | .next=>∃σ' H',qz X pins σ' H' s'/\D.nx σ' H'
 | .brk=>∃σ' H',qz X pins σ' H' s'/\D.bk σ' H'
 | .cont=>∃σ' H',qz X pins σ' H' s'/\D.ct σ' H'
 | .ret u=>∃v σ' H',qz X pins σ' H' s'/\qP v u/\D.rt v H'
def PE (X:Cx) (e:Expr) (t:TE):Prop:=
 ∀(pins:List (Addr×Obj)) (s:Shared) (σ:St) (H:Hp) (Q:VK),qz X pins σ H s->t σ H Q->wpAny (model X.prog X.w) X.A (eval e X.env) (EP X pins σ Q) X.xe s
@[irreducible] def JE (X:Cx) (e:Expr) (t:TE):Prop:=PE X e t
theorem JE.of {X:Cx} {e:Expr} {t:TE} (h:PE X e t):JE X e t:=by unfold JE;exact h
theorem JE.to {X:Cx} {e:Expr} {t:TE} (h:JE X e t):PE X e t:=by unfold JE at h;exact h
def PT (X:Cx) (e:Expr) (t:TT):Prop:=
 ∀(pins:List (Addr×Obj)) (s:Shared) (σ:St) (H:Hp) (Q:Bool->Hp->Prop),qz X pins σ H s->t σ H Q->wpAny (model X.prog X.w) X.A (isTrue e X.env (eval e X.env)) (TP X pins σ Q) X.xe s
@[irreducible] def JT (X:Cx) (e:Expr) (t:TT):Prop:=PT X e t
theorem JT.of {X:Cx} {e:Expr} {t:TT} (h:PT X e t):JT X e t:=by unfold JT;exact h
theorem JT.to {X:Cx} {e:Expr} {t:TT} (h:JT X e t):PT X e t:=by unfold JT at h;exact h
def PW (X:Cx) (e:Expr) (t:TT):Prop:=
 ∀(whole:Sem Value) (pins:List (Addr×Obj)) (s:Shared) (σ:St) (H:Hp) (Q:Bool->Hp->Prop),qz X pins σ H s->t σ H Q->wpAny (model X.prog X.w) X.A (isTrue e X.env whole) (TP X pins σ Q) X.xe s
theorem PW.pt {X:Cx} {e:Expr} {t:TT} (h:PW X e t):PT X e t:=h _
@[irreducible] def JW (X:Cx) (e:Expr) (t:TT):Prop:=PW X e t
theorem JW.of {X:Cx} {e:Expr} {t:TT} (h:PW X e t):JW X e t:=by unfold JW;exact h
theorem JW.to {X:Cx} {e:Expr} {t:TT} (h:JW X e t):PW X e t:=by unfold JW at h;exact h
theorem JW.pt {X:Cx} {e:Expr} {t:TT} (h:JW X e t):JT X e t:=.of h.to.pt
def PA (X:Cx) (es:List Expr) (t:TA):Prop:=
 ∀(pos:Pos) (pins:List (Addr×Obj)) (s:Shared) (σ:St) (H:Hp) (Q:List V->Hp->Prop),qz X pins σ H s->t σ H Q->wpAny (model X.prog X.w) X.A (spliced (backTo pos (starEach es X.env))) (AP X pins σ Q) X.xe s
@[irreducible] def JA (X:Cx) (es:List Expr) (t:TA):Prop:=PA X es t
theorem JA.of {X:Cx} {es:List Expr} {t:TA} (h:PA X es t):JA X es t:=by unfold JA;exact h
theorem JA.to {X:Cx} {es:List Expr} {t:TA} (h:JA X es t):PA X es t:=by unfold JA at h;exact h
def PS (X:Cx) (st:Stmt) (t:TS):Prop:=
 ∀(pins:List (Addr×Obj)) (s:Shared) (σ:St) (H:Hp) (D:Q8),qz X pins σ H s->t D σ H->wpAny (model X.prog X.w) X.A (exec st X.env) (SP X pins D) X.xe s
@[irreducible] def JS (X:Cx) (st:Stmt) (t:TS):Prop:=PS X st t
theorem JS.of {X:Cx} {st:Stmt} {t:TS} (h:PS X st t):JS X st t:=by unfold JS;exact h
theorem JS.to {X:Cx} {st:Stmt} {t:TS} (h:JS X st t):PS X st t:=by unfold JS at h;exact h
def KE (X:Cx) (st:List Stmt) (t:TS):Prop:=
 ∀(pins:List (Addr×Obj)) (s:Shared) (σ:St) (H:Hp) (D:Q8),qz X pins σ H s->t D σ H->wpAny (model X.prog X.w) X.A (execs st X.env) (SP X pins D) X.xe s
@[irreducible] def XY (X:Cx) (st:List Stmt) (t:TS):Prop:=KE X st t
theorem XY.of {X:Cx} {st:List Stmt} {t:TS} (h:KE X st t):XY X st t:=by unfold XY;exact h
theorem XY.to {X:Cx} {st:List Stmt} {t:TS} (h:XY X st t):KE X st t:=by unfold XY at h;exact h
theorem ja {α:Type} {t:Sem α} {Q Q':α->Shared->Prop} {M:Model} {A:Around} {E:Value->Shared->Prop} {s:Shared} (h:wpAny M A t Q E s) (hQ:∀a s,Q a s->Q' a s):wpAny M A t Q' E s:=wpAny_mono h hQ λ_ _ x=>x
section
variable {X:Cx}
def qO (i:Nat):TE:=λσ H Q=>∃v,σ[i]?=some (some v)/\Q v H
def tC (v:V):TE:=λ_ H Q=>Q v H
theorem w9 {i:Nat} {x:Str} {pos:Pos} (hN:X.N[i]?=some x) (hv:MT X.env.scope x) (hd:(x==("__debug__":Str))=false:=by decide) (hcd:(x==("__classdict__":Str))=false:=by decide):PE X (.Name x pos) (qO i):=by
 intro pins s σ H Q I h
 obtain⟨v,e,h⟩:=h
 obtain⟨m,hn,hl⟩:=I.loc
 obtain⟨u,r,l⟩:=hl i x v hN e hv
 have fin:EP X pins σ Q u s:=⟨v,H,I,r,h⟩
 rcases l with ⟨hk,hm⟩ | ⟨hk,c,hc,hcell⟩
 . exact wpAny_Name (wpAny_loadName_local I.ok.kind hk hn hm fin) hd
 . rcases hk with hk | hk
   . exact wpAny_Name (wpAny_loadName_cell I.ok.kind hk hc hcell fin) hd
   . exact wpAny_Name (wpAny_loadName_free I.ok.kind hk hc hcell fin hcd) hd
theorem qj {i j pos}:JE X (.Constant (.int i) j pos) (tC (.int i)):=.of (by
 exact λ_ _ _ H _ I h=>wpAny_Constant_int ⟨.int i,H,I.tok _,⟨_,rfl⟩,h⟩)
theorem jT {b j pos}:JE X (.Constant (.bool b) j pos) (tC (.bl b)):=.of (by
 exact λ_ _ _ H _ I h=>Constant_bool ⟨.bl b,H,I,rfl,h⟩)
theorem vj {j pos}:JE X (.Constant .none j pos) (tC .non):=.of (by
 exact λ_ _ _ H _ I h=>Constant_none ⟨.non,H,I,rfl,h⟩)
theorem qD {x j pos}:JE X (.Constant (.str x) j pos) (tC (.str x)):=.of (by
 exact λ_ _ _ H _ I h=>Calls.Constant_str ⟨.str x,H,I.tok _,⟨_,rfl⟩,h⟩)
def Gl (X:Cx) (x:Str):Prop:=X.env.kindOf x=some .globalImplicit
theorem Yo {E:Value->Shared->Prop} {pins:List (Addr×Obj)} {s:Shared} {σ:St} {H:Hp} {x:Str} {u:Value} {pos:Pos} {Q:Value->Shared->Prop} (I:qz X pins σ H s) (hg:Gl X x) (hm:X.mg x=some u) (h:Q u s)
   (hd:(x==("__debug__":Str))=false:=by decide):wpAny (model X.prog X.w) X.A (eval (.Name x pos) X.env) Q E s:=
 Calls.Name_function_global I.ok.kind hg (Calls.loadGlobal_global (by rw[I.ok.glob];exact I.mod.glob.keeps I.bk) hm h) hd
theorem Jk {E:Value->Shared->Prop} {pins:List (Addr×Obj)} {s:Shared} {σ:St} {H:Hp} {x:Str} {u:Value} {pos:Pos} {Q:Value->Shared->Prop} (I:qz X pins σ H s) (hg:Gl X x) (hm:X.mg x=none) (hv:bootBuiltins x=some u) (h:Q u s)
   (hn:x≠"__name__":=by decide) (hd:(x==("__debug__":Str))=false:=by decide):wpAny (model X.prog X.w) X.A (eval (.Name x pos) X.env) Q E s:=by
 obtain⟨mb,h1,h2⟩:=I.mod.blt
 exact Calls.Name_function_global I.ok.kind hg (Calls.loadGlobal_builtin (by rw[I.ok.glob];exact I.mod.glob.keeps I.bk) hm (by rw[I.ok.blt];exact h1.keeps I.bk) ((h2 x hn).trans hv) h) hd
theorem kM {x:Str} {v:V} {u:Value} {pos:Pos} (hg:Gl X x) (hm:X.mg x=some u) (r:qP v u) (hd:(x==("__debug__":Str))=false:=by decide):PE X (.Name x pos) (tC v):=
 λ_ _ _ H _ I h=>Yo I hg hm ⟨v,H,I,r,h⟩ hd
theorem Qt {x:Str} {v:V} {u:Value} {pos:Pos} (hg:Gl X x) (hm:X.mg x=some u) (r:qP v u) (hd:(x==("__debug__":Str))=false:=by decide):JE X (.Name x pos) (tC v):=.of (kM hg hm r hd)
theorem QV {x:Str} {v:V} {u:Value} {pos:Pos} (hg:Gl X x) (hm:X.mg x=none) (hv:bootBuiltins x=some u) (r:qP v u) (hn:x≠"__name__":=by decide) (hd:(x==("__debug__":Str))=false:=by decide):JE X (.Name x pos) (tC v):=.of (by
 exact λ_ _ _ H _ I h=>Jk I hg hm hv ⟨v,H,I,r,h⟩ hn hd)
variable {a b:Expr} {ta tb:TE} {pos:Pos}
def PC (X:Cx) (op:CmpOp) (a b:Expr) (t:TE):Prop:=
 ∀(pins:List (Addr×Obj)) (s:Shared) (σ:St) (H:Hp) (Q:VK),qz X pins σ H s->t σ H Q->
   wpAny (model X.prog X.w) X.A (eval a X.env) (λv s₁=>wpAny (model X.prog X.w) X.A (eval b X.env) (λu s₂=>wpAny (model X.prog X.w) X.A (compareOp op v u) (EP X pins σ Q) X.xe s₂) X.xe s₁) X.xe s
@[irreducible] def JC (X:Cx) (op:CmpOp) (a b:Expr) (t:TE):Prop:=PC X op a b t
theorem JC.of {X:Cx} {op:CmpOp} {a b:Expr} {t:TE} (h:PC X op a b t):JC X op a b t:=by unfold JC;exact h
theorem JC.to {X:Cx} {op:CmpOp} {a b:Expr} {t:TE} (h:JC X op a b t):PC X op a b t:=by unfold JC at h;exact h
def tB (t:TE):TT:=λσ H Q=>t σ H λx H1=>∃c,x=.bl c/\Q c H1
theorem QE {op:CmpOp} {t:TE} (h:JC X op a b t) (h1:behindInMarks op b=false:=by first | exact nobehind _ (by decide) (by decide) | rfl):JT X (.Compare a [op] [b] pos) (tB t):=.of (by
 have h:=h.to
 intro pins s σ H Q I hw
 refine wpAny_isTrue_Compare1 (ja (h pins s σ H _ I hw) λv s1 h1=>ja h1 λu s2 h2=>ja h2 λc s3 ⟨x,H1,I1,r1,q1⟩=>?_) h1
 obtain⟨d,rfl,q⟩:=q1
 cases r1
 exact wpAny_truthy_bool ⟨H1,I1,q⟩)
theorem jL {e:Expr} {t:TE} (h:JE X e t) (he:∀whole,isTrue e X.env whole=(do let v <-whole;standAt e.pos;holding [v] (truthy v)):=by intro _;rfl):JT X e (tB t):=.of (by
 have h:=h.to
 intro pins s σ H Q I hw
 refine isTrue_plain (ja (h pins s σ H _ I hw) λv s1 ⟨x,H1,I1,r1,q1⟩=>?_) (he _)
 obtain⟨d,rfl,q⟩:=q1
 cases r1
 exact wpAny_truthy_bool ⟨H1,I1,q⟩)
variable {tA tB':TT} {rest:List Expr}
def NL (t u:TT):TT:=λσ H Q=>t σ H λc H1=>if c=true then u σ H1 Q else Q false H1
def tOr (t u:TT):TT:=λσ H Q=>t σ H λc H1=>if c=true then Q true H1 else u σ H1 Q
def qbw (t:TT):TT:=λσ H Q=>t σ H λc H1=>Q (!c) H1
theorem Qh (ha:JT X a tA):JW X (.BoolOp .And [a] pos) tA:=.of (by
 have ha:=ha.to
 intro wh pins s σ H Q I h
 refine isTrue_and (ja (ha pins s σ H Q I h) λc s1 e=>?_)
 cases c with
 | true=>exact isTrue_and_nil e
 | false=>exact e)
theorem QC (ha:JT X a tA):JW X (.BoolOp .Or [a] pos) tA:=.of (by
 have ha:=ha.to
 intro wh pins s σ H Q I h
 refine isTrue_or (ja (ha pins s σ H Q I h) λc s1 e=>?_)
 cases c with
 | false=>exact isTrue_or_nil e
 | true=>exact e)
theorem QD (ha:JT X a tA) (hb:JW X (.BoolOp .And (b::rest) pos) tB'):JW X (.BoolOp .And (a::b::rest) pos) (NL tA tB'):=.of (by
 have ha:=ha.to
 have hb:=hb.to
 intro wh pins s σ H Q I h
 refine isTrue_and (ja (ha pins s σ H _ I h) λc s1 ⟨H1,I1,q1⟩=>?_)
 cases c with
 | true=>exact hb wh pins s1 σ H1 Q I1 q1
 | false=>exact⟨H1,I1,q1⟩)
theorem Jd (ha:JT X a tA) (hb:JW X (.BoolOp .Or (b::rest) pos) tB'):JW X (.BoolOp .Or (a::b::rest) pos) (tOr tA tB'):=.of (by
 have ha:=ha.to
 have hb:=hb.to
 intro wh pins s σ H Q I h
 refine isTrue_or (ja (ha pins s σ H _ I h) λc s1 ⟨H1,I1,q1⟩=>?_)
 cases c with
 | true=>exact⟨H1,I1,q1⟩
 | false=>exact hb wh pins s1 σ H1 Q I1 q1)
theorem QP (ha:JT X a tA):JT X (.UnaryOp .Not a pos) (qbw tA):=.of (by
 have ha:=ha.to
 intro pins s σ H Q I h
 exact isTrue_not (ha pins s σ H (λc H1=>Q (!c) H1) I h))
def qaj (ta tb:TE):TE:=λσ H Q=>ta σ H λx H1=>∃c,x=.bl c/\if c=true then tb σ H1 Q else Q (.bl false) H1
def qae (ta:TE):TE:=λσ H Q=>ta σ H λx H1=>∃c,x=.bl c/\Q (.bl (!c)) H1
theorem zE {op} {t:TE} (h:JE X a t):JE X (.BoolOp op [a] pos) t:=.of (by
 have h:=h.to
 exact λpins s σ H Q I hw=>BoolOp_one (h pins s σ H Q I hw))
theorem Zh (ha:JE X a ta) (hb:JE X (.BoolOp .And (b::rest) pos) tb):JE X (.BoolOp .And (a::b::rest) pos) (qaj ta tb):=.of (by
 have ha:=ha.to
 have hb:=hb.to
 intro pins s σ H Q I h
 refine BoolOp_and (ja (ha pins s σ H _ I h) λv s1 ⟨x,H1,I1,r1,q1⟩=>?_)
 obtain⟨c,rfl,q1⟩:=q1
 cases r1
 refine wpAny_truthy_bool ?_
 cases c with
 | true=>exact hb pins s1 σ H1 Q I1 q1
 | false=>exact⟨.bl false,H1,I1,rfl,q1⟩)
theorem MA (ha:JE X a ta):JE X (.UnaryOp .Not a pos) (qae ta):=.of (by
 have ha:=ha.to
 intro pins s σ H Q I h
 refine UnaryOp_ (ja (ha pins s σ H _ I h) λv s1 ⟨x,H1,I1,r1,q1⟩=>?_)
 obtain⟨c,rfl,q1⟩:=q1
 cases r1
 exact not_of (wpAny_truthy_bool ⟨.bl (!c),H1,I1,rfl,q1⟩))
end
def SqL (K:PySem.W.Frag) (H:Hp) (a:Addr) (xs:List V):Prop:=
 Rd H a (.lst xs)\/
   ∃(o:Obj) (its:Array Value) (n:Nat),K.lookup a=some o/\o.cls=.type "list"/\o.dict=none/\o.data=.seq its n/\its.size<=sizeLine/\qE xs its.toList
def SqT (K:PySem.W.Frag) (H:Hp) (a:Addr) (xs:List V):Prop:=
 Rd H a (.tup xs)\/
   ∃(o:Obj) (its:Array Value) (n:Nat),K.lookup a=some o/\o.cls=.type "tuple"/\o.data=.seq its n/\its.size<=sizeLine/\qE xs its.toList
def qcb:Value->Option V
 | .none=>some .non
 | .bool b=>some (.bl b)
 | .int i _=>some (.int i)
 | .str x _=>some (.str x)
 | .bytes b _=>some (.byt b)
 | .float b _=>some (.flt b)
 | .ref a=>some (.ref a)
 | .type n=>some (.ty n)
 | _=>none
theorem qP.abs {x:V} {u:Value} (r:qP x u):qcb u=some x:=by
 cases x with
 | non=>cases r;rfl
 | bl _=>cases r;rfl
 | int _=>obtain⟨t,rfl⟩:=r;rfl
 | str _=>obtain⟨t,rfl⟩:=r;rfl
 | byt _=>obtain⟨t,rfl⟩:=r;rfl
 | flt _=>obtain⟨t,rfl⟩:=r;rfl
 | ref _=>cases r;rfl
 | ty _=>cases r;rfl
theorem qP.inj {x y:V} {u:Value} (r:qP x u) (q:qP y u):x=y:=tL.inj (r.abs.symm.trans q.abs)
theorem qE.inj:∀{xs ys:List V} {us:List Value},qE xs us->qE ys us->xs=ys
 | _,_,_,.nil,.nil=>rfl
 | _,_,_,.cons r t,.cons r' t'=>by rw[r.inj r',qE.inj t t']
section
variable {X:Cx} {pins:List (Addr×Obj)} {σ:St} {H:Hp} {s:Shared} {a:Addr} {xs ys:List V}
theorem SqL.of {K:PySem.W.Frag} (h:H a=some (.lst xs)):SqL K H a xs:=.inl (.inl h)
theorem SqT.of {K:PySem.W.Frag} (h:H a=some (.tup xs)):SqT K H a xs:=.inl (.inl h)
theorem qz.list (I:qz X pins σ H s) (h:SqL X.K H a xs):∃its:List Value,qE xs its/\PlainL s.heap a its.toArray/\xs.length<=sizeLine:=by
 rcases h with h | ⟨o,its,n,hk,hc,hd,hs,hz,r⟩
 . obtain⟨z,its,n,r,e⟩:=h.ok I.hok
   exact⟨its,r,⟨_,n,e,rfl,rfl,rfl⟩,z⟩
 . refine⟨its.toList,r,⟨o,n,I.kIn a o hk,hc,hd,by simpa using hs⟩,?_⟩
   have e:=r.length
   simp only[zaF]at e
   omega
theorem qz.tuple (I:qz X pins σ H s) (h:SqT X.K H a xs):∃its:List Value,qE xs its/\IsTup s.heap a its.toArray/\xs.length<=sizeLine:=by
 rcases h with h | ⟨o,its,n,hk,hc,hs,hz,r⟩
 . obtain⟨z,its,r,p⟩:=h.ok I.hok
   exact⟨its,r,p,z⟩
 . refine⟨its.toList,r,⟨o,I.kIn a o hk,hc,n,by simpa using hs⟩,?_⟩
   have e:=r.length
   simp only[zaF]at e
   omega
theorem qz.list_inj (I:qz X pins σ H s) (h:SqL X.K H a xs) (h':SqL X.K H a ys):xs=ys:=by
 obtain⟨its,r,⟨o,n,e,_,_,d⟩,_⟩:=I.list h
 obtain⟨its',r',⟨o',n',e',_,_,d'⟩,_⟩:=I.list h'
 rw[e]at e';cases e'
 rw[d]at d'
 injection d' with d1 _
 have:its=its':=by simpa using congrArg Array.toList d1
 subst this
 exact r.inj r'
theorem qz.tuple_inj (I:qz X pins σ H s) (h:SqT X.K H a xs) (h':SqT X.K H a ys):xs=ys:=by
 obtain⟨its,r,⟨o,e,_,n,d⟩,_⟩:=I.tuple h
 obtain⟨its',r',⟨o',e',_,n',d'⟩,_⟩:=I.tuple h'
 rw[e]at e';cases e'
 rw[d]at d'
 injection d' with d1 _
 have:its=its':=by simpa using congrArg Array.toList d1
 subst this
 exact r.inj r'
end
abbrev Cx.wish (X:Cx) (E:Value->Shared->Prop):Cx:={X with xe:=E}
abbrev Cx.nox (X:Cx):Cx:=X.wish λ_ _=>False
theorem Cx.Ok.wish {X:Cx} (ok:X.Ok) (E:Value->Shared->Prop):(X.wish E).Ok:=
 ⟨ok.mod,ok.kind,ok.glob,ok.blt,ok.above,ok.inj,ok.has,ok.cab,ok.hd,ok.frames,ok.stk,ok.exf,ok.bs,ok.bsz,ok.noex,ok.exfs,ok.funs,ok.frf⟩
theorem Cx.Ok.unwish {X:Cx} {E:Value->Shared->Prop} (ok:(X.wish E).Ok):X.Ok:=
 ⟨ok.mod,ok.kind,ok.glob,ok.blt,ok.above,ok.inj,ok.has,ok.cab,ok.hd,ok.frames,ok.stk,ok.exf,ok.bs,ok.bsz,ok.noex,ok.exfs,ok.funs,ok.frf⟩
section
variable {X:Cx} {pins:List (Addr×Obj)} {σ:St} {H:Hp} {s:Shared} {E:Value->Shared->Prop}
theorem qz.wish (I:qz X pins σ H s) (E:Value->Shared->Prop):qz (X.wish E) pins σ H s:=⟨I.ok.wish E,I.os,I.bare,I.base,I.loc,I.cell,I.free,I.freeC,I.pin,I.hok,I.len⟩
theorem qz.unwish (I:qz (X.wish E) pins σ H s):qz X pins σ H s:=⟨I.ok.unwish,I.os,I.bare,I.base,I.loc,I.cell,I.free,I.freeC,I.pin,I.hok,I.len⟩
theorem SP.unwish {D:Q8} {f:Flow} {s':Shared} (h:SP (X.wish E) pins D f s'):SP X pins D f s':=by
 cases f with
 | next=>obtain⟨σ',H',I,q⟩:=h;exact⟨σ',H',I.unwish,q⟩
 | brk=>obtain⟨σ',H',I,q⟩:=h;exact⟨σ',H',I.unwish,q⟩
 | cont=>obtain⟨σ',H',I,q⟩:=h;exact⟨σ',H',I.unwish,q⟩
 | ret u=>obtain⟨v,σ',H',I,r,q⟩:=h;exact⟨v,σ',H',I.unwish,r,q⟩
theorem KE.nox {st:List Stmt} {t:TS} (h:KE X.nox st t):KE X st t:=λpins s σ H D I hw=>
 wpAny_mono (h pins s σ H D (I.wish _) hw) (λ_ _ q=>q.unwish) λ_ _ z=>False.elim z
end
section
variable {X:Cx} {st:Stmt} {rest:List Stmt} {t u:TS} {e:Expr} {te:TE} {pos:Pos}
def vS:TS:=λD σ H=>D.nx σ H
def NI (t u:TS):TS:=λD σ H=>t {D with nx:=u D} σ H
theorem qA:XY X [] vS:=.of (by
 exact λ_ _ σ H _ I h=>wpAny_execs_nil ⟨σ,H,I,h⟩)
theorem qf (h1:JS X st t) (h2:XY X rest u):XY X (st::rest) (NI t u):=.of (by
 have h1:=h1.to
 have h2:=h2.to
 intro pins s σ H D I h
 refine wpAny_execs_cons (ja (h1 pins s σ H {D with nx:=u D} I h) λf s1 q=>?_)
 cases f with
 | next=>
   obtain⟨σ',H',I',q⟩:=q
   exact h2 pins s1 σ' H' D I' q
 | ret v=>exact q
 | brk=>exact q
 | cont=>exact q)
theorem qh (h1:JS X st t):XY X [st] t:=.of (by
 have h1:=h1.to
 intro pins s σ H D I h
 refine wpAny_execs_cons (ja (h1 pins s σ H D I h) λf s1 q=>?_)
 cases f with
 | next=>exact wpAny_execs_nil q
 | ret v=>exact q
 | brk=>exact q
 | cont=>exact q)
theorem qz.quiet {pins:List (Addr×Obj)} {σ:St} {H:Hp} {s:Shared} (I:qz X pins σ H s):interactive X.env=false:=by simp [interactive,I.ok.kind]
def Nj (te:TE):TS:=λD σ H=>te σ H λ_ H1=>D.nx σ H1
theorem jw (he:JE X e te) (hs:swapsWith e none pos.line X.env=pure false:=by rfl):JS X (.Expr e pos) (Nj te):=.of (by
 have he:=he.to
 intro pins s σ H D I h
 exact wpAny_Expr_any (ja (he pins s σ H _ I h) λv s1 ⟨x,H1,I1,r1,q1⟩=>⟨σ,H1,I1,q1⟩) I.quiet hs)
def qbv (te:TE):TS:=λD σ H=>te σ H D.rt
theorem qw (he:JE X e te):JS X (.Return (some e) pos) (qbv te):=.of (by
 have he:=he.to
 intro pins s σ H D I h
 exact wpAny_Return_some (ja (he pins s σ H _ I h) λv s1 ⟨x,H1,I1,r1,q1⟩=>⟨x,σ,H1,I1,r1,q1⟩))
def KP (c:TT) (t u:TS):TS:=λD σ H=>c σ H λb H1=>if b=true then t D σ H1 else u D σ H1
theorem qM {c:Expr} {a b:List Stmt} {tc:TT} (hc:JT X c tc) (ha:XY X a t) (hb:XY X b u):JS X (.If c a b pos) (KP tc t u):=.of (by
 have hc:=hc.to
 have ha:=ha.to
 have hb:=hb.to
 intro pins s σ H D I h
 refine wpAny_If (ja (hc pins s σ H _ I h) λd s1 ⟨H1,I1,q1⟩=>?_)
 cases d with
 | true=>exact ha pins s1 σ H1 D I1 q1
 | false=>exact hb pins s1 σ H1 D I1 q1)
def NJ:TS:=λ_ _ _=>False
theorem q5 {sts:List Stmt}:XY X sts NJ:=.of (by
 exact λ_ _ _ _ _ _ h=>h.elim)
end
abbrev TG:=V->St->Hp->(St->Hp->Prop)->Prop
abbrev KD:=List V->St->Hp->(St->Hp->Prop)->Prop
def PG (X:Cx) (target:Expr) (t:TG):Prop:=
 ∀(pins:List (Addr×Obj)) (s:Shared) (σ:St) (H:Hp) (v:V) (u:Value) (Q:St->Hp->Prop),qz X pins σ H s->qP v u->t v σ H Q->
   wpAny (model X.prog X.w) X.A (assign target X.env u) (λ_ s'=>∃σ' H',qz X pins σ' H' s'/\Q σ' H') X.xe s
@[irreducible] def JG (X:Cx) (target:Expr) (t:TG):Prop:=PG X target t
theorem JG.of {X:Cx} {target:Expr} {t:TG} (h:PG X target t):JG X target t:=by unfold JG;exact h
theorem JG.to {X:Cx} {target:Expr} {t:TG} (h:JG X target t):PG X target t:=by unfold JG at h;exact h
def PGs (X:Cx) (ts:List Expr) (t:KD):Prop:=
 ∀(pins:List (Addr×Obj)) (s:Shared) (σ:St) (H:Hp) (vs:List V) (us:List Value) (Q:St->Hp->Prop),qz X pins σ H s->qE vs us->t vs σ H Q->
   wpAny (model X.prog X.w) X.A (assignInOrder ((assignEach ts X.env).map (·.2)) us) (λ_ s'=>∃σ' H',qz X pins σ' H' s'/\Q σ' H') X.xe s
@[irreducible] def KH (X:Cx) (ts:List Expr) (t:KD):Prop:=PGs X ts t
theorem KH.of {X:Cx} {ts:List Expr} {t:KD} (h:PGs X ts t):KH X ts t:=by unfold KH;exact h
theorem KH.to {X:Cx} {ts:List Expr} {t:KD} (h:KH X ts t):PGs X ts t:=by unfold KH at h;exact h
abbrev R9:=V->V->V->Hp->(Hp->Prop)->Prop
def MV (X:Cx) (t:R9):Prop:=
 ∀(pins:List (Addr×Obj)) (s:Shared) (σ:St) (H:Hp) (o i v:V) (ov iv u:Value) (Q:Hp->Prop),qz X pins σ H s->qP o ov->qP i iv->qP v u->t o i v H Q->
   wpAny (model X.prog X.w) X.A (setItem ov iv u) (λ_ s'=>∃H',qz X pins σ H' s'/\Q H') X.xe s
abbrev TIp:=V->V->Hp->VK->Prop
def PIp (X:Cx) (op:Operator) (t:TIp):Prop:=
 ∀(pins:List (Addr×Obj)) (s:Shared) (σ:St) (H:Hp) (x y:V) (v u:Value) (Q:VK),qz X pins σ H s->qP x v->qP y u->t x y H Q->
   wpAny (model X.prog X.w) X.A (inplaceOp op v u) (EP X pins σ Q) X.xe s
section
variable {X:Cx} {pos:Pos}
def Ql (i:Nat):TG:=λv σ H Q=>Q (σ.set i (some v)) H
theorem qu {i:Nat} {x:Str} (hN:X.N.Nodup) (hi:X.N[i]?=some x) (hx:MY X.env.scope x) (hf:X.fn x=true\/X.env.scope.names.lookup x=some .local:=by first | exact .inl rfl | exact .inr rfl | assumption):JG X (.Name x pos) (Ql i):=.of (by
 intro pins s σ H v u Q I r h
 exact wpAny_assign_Name (ZV I hN hi hx r (λs' I'=>⟨_,H,I',h⟩) hf))
def RS:KD:=λvs σ H Q=>vs=[]/\Q σ H
def Xw (t:TG) (u:KD):KD:=λvs σ H Q=>∃v r,vs=v::r/\t v σ H λσ' H'=>u r σ' H' Q
theorem JX:KH X [] RS:=.of (by
 intro pins s σ H vs us Q I r h
 obtain⟨e,h⟩:=h
 subst e
 cases r
 exact assignInOrder_nil ⟨σ,H,I,h⟩)
theorem jz {e:Expr} {es:List Expr} {t:TG} {u:KD} (h1:JG X e t) (h2:KH X es u) (hs:(assignEach (e::es) X.env).map (·.2)=assign e X.env::(assignEach es X.env).map (·.2):=by rfl):KH X (e::es) (Xw t u):=.of (by
 have h1:=h1.to
 have h2:=h2.to
 intro pins s σ H vs us Q I r h
 obtain⟨v,vr,e1,h⟩:=h
 subst e1
 cases r with
 | cons r rr=>
   rw[hs]
   refine assignInOrder_cons (ja (h1 pins s σ H _ _ _ I r h) λ_ s1 ⟨σ1,H1,I1,q1⟩=>?_)
   exact h2 pins s1 σ1 H1 _ _ Q I1 rr q1)
def RQ (K:PySem.W.Frag) (n:Nat) (t:KD):TG:=λv σ H Q=>∃a xs,v=.ref a/\SqT K H a xs/\xs.length=n/\t xs σ H Q
theorem ZN {es:List Expr} {k:Nat} {t:KD} {n:Nat} (hc:X.calm=true) (h:KH X es t) (hn:(assignEach es X.env).length=n:=by rfl) (hst:(assignEach es X.env).findIdx? (·.1)=none:=by rfl):JG X (.Tuple es k pos) (RQ X.K n t):=.of (by
 have h:=h.to
 intro pins s σ H v u Q I r hw
 obtain⟨a,xs,e1,hq,hl,hw⟩:=hw
 subst e1
 cases r
 obtain⟨its,rv,ht,hz⟩:=I.tuple hq
 refine assign_Tuple_tuple (I.ok.hd hc) ht (by simp [hn,<-hl,rv.length]) hst λh' hx=>?_
 have I1:qz X pins σ H {s with heap:=h'}:=I.kept (t':=s.toks) λb o e=>hx b o (tR (tP e)) e
 exact h pins _ σ H xs _ Q I1 (by simpa using rv) hw)
def qa6 (to ti:TE) (t:R9):TG:=λv σ H Q=>to σ H λo H1=>ti σ H1 λi H2=>t o i v H2 λH3=>Q σ H3
theorem N3 {o i:Expr} {to ti:TE} {t:R9} (ho:PE X o to) (hi:PE X i ti) (hs:MV X t)
   (ha:∀v,assign (.Subscript o i pos) X.env v=(do
     let ov <-holding [v] (eval o X.env)
     let iv <-holding [v,ov] (eval i X.env)
     standAt pos
     holding [v,ov,iv] (setItem ov iv v)
     release [v,ov,iv] []):=by intro _;rfl):PG X (.Subscript o i pos) (qa6 to ti t):=by
 intro pins s σ H v u Q I r h
 rw[ha]
 refine wpAny_bind (wpAny_holding (ja (ho pins s σ H _ I h) λov s1 ⟨x,H1,I1,r1,q1⟩=>?_))
 refine wpAny_bind (wpAny_holding (ja (hi pins s1 σ H1 _ I1 q1) λiv s2 ⟨y,H2,I2,r2,q2⟩=>?_))
 refine wpAny_bind (wpAny_standAt (wpAny_bind (wpAny_holding (ja (hs pins s2 σ H2 x y v ov iv u _ I2 r1 r2 r q2) λ_ s3 ⟨H3,I3,q3⟩=>?_))))
 exact wpAny_release ⟨σ,H3,I3,q3⟩
theorem Mz {o i:Expr} {to ti:TE} {t:R9} (ho:JE X o to) (hi:JE X i ti) (hs:MV X t) (ha:∀v,assign (.Subscript o i pos) X.env v=(do
     let ov <-holding [v] (eval o X.env)
     let iv <-holding [v,ov] (eval i X.env)
     standAt pos
     holding [v,ov,iv] (setItem ov iv v)
     release [v,ov,iv] []):=by intro _;rfl):JG X (.Subscript o i pos) (qa6 to ti t):=.of (N3 ho.to hi.to hs ha)
def UU (te:TE) (g:TG):TS:=λD σ H=>te σ H λx H1=>g x σ H1 D.nx
theorem uW {tg e:Expr} {te:TE} {g:TG} (he:JE X e te) (hg:JG X tg g) (hs:swapsWithSole [tg] e pos.line X.env=pure false:=by rfl) (hw:swappedStores [tg] e X.env=pure none:=by rfl) (h1:(assignEach [tg] X.env).map (·.2)=[assign tg X.env]:=by rfl):JS X (.Assign [tg] e pos) (UU te g):=.of (by
 have he:=he.to
 have hg:=hg.to
 intro pins s σ H D I h
 refine wpAny_Assign_stores (ja (he pins s σ H _ I h) λv s1 ⟨x,H1,I1,r1,q1⟩=>?_) hs hw
 rw[h1]
 exact ja (hg pins s1 σ H1 x v _ I1 r1 q1) λ_ s2 q=>q)
theorem qv {i:Nat} {x:Str} {e:Expr} {te:TE} {pos':Pos} (hN:X.N.Nodup) (hi:X.N[i]?=some x) (hx:MY X.env.scope x) (he:JE X e te) (hs:swapsWith e (some (.Name x pos')) pos.line X.env=pure false:=by rfl) (hf:X.fn x=true\/X.env.scope.names.lookup x=some .local:=by first | exact .inl rfl | exact .inr rfl | assumption):JS X (.Assign [.Name x pos'] e pos) (UU te (Ql i)):=.of (by
 have he:=he.to
 intro pins s σ H D I h
 refine wpAny_Assign_Name (ja (he pins s σ H _ I h) λv s1 ⟨y,H1,I1,r1,q1⟩=>?_) hs
 exact ZV I1 hN hi hx r1 (λs2 I2=>⟨_,H1,I2,q1⟩) hf)
def qbD (i:Nat) (te:TE) (ti:TIp):TS:=λD σ H=>∃x,σ[i]?=some (some x)/\te σ H λy H1=>ti x y H1 λz H2=>D.nx (σ.set i (some z)) H2
theorem uV {i:Nat} {x:Str} {e:Expr} {te:TE} {op:Operator} {ti:TIp} {pos':Pos} (hN:X.N.Nodup) (hi:X.N[i]?=some x) (hx:MY X.env.scope x) (he:JE X e te) (ho:PIp X op ti) (hf:X.fn x=true\/X.env.scope.names.lookup x=some .local:=by first | exact .inl rfl | exact .inr rfl | assumption):JS X (.AugAssign (.Name x pos') op e pos) (qbD i te ti):=.of (by
 have he:=he.to
 intro pins s σ H D I h
 obtain⟨v,e1,h⟩:=h
 obtain⟨m,hn,hl⟩:=I.loc
 have vis:MT X.env.scope x:=by rcases hx with k | k;exact .inl k;exact .inr (.inl k)
 obtain⟨u,r,l⟩:=hl i x v hi e1 vis
 refine wpAny_AugAssign_Name ?_
 have go:wpAny (model X.prog X.w) X.A (eval e X.env) (λw s₂=>wpAny (model X.prog X.w) X.A (inplaceOp op u w) (λr s₃=>wpAny (model X.prog X.w) X.A (storeName X.env x r) (λ_=>SP X pins D .next) X.xe s₃) X.xe s₂) X.xe s:=by
   refine ja (he pins s σ H _ I h) λw s1 ⟨y,H1,I1,r1,q1⟩=>?_
   refine ja (ho pins s1 σ H1 v y u w _ I1 r r1 q1) λz s2 ⟨zv,H2,I2,r2,q2⟩=>?_
   exact ZV I2 hN hi hx r2 (λs3 I3=>⟨_,H2,I3,q2⟩) hf
 rcases l with ⟨hk,hm⟩ | ⟨hk,c,hc,hcell⟩
 . exact wpAny_loadName_local I.ok.kind hk hn hm go
 . rcases hk with hk | hk
   . exact wpAny_loadName_cell I.ok.kind hk hc hcell go
   . rcases hx with k | k
     . have:X.env.scope.names.lookup x=some .free:=hk
       rw[k]at this;cases this
     . have:X.env.scope.names.lookup x=some .free:=hk
       rw[k]at this;cases this)
def ipI (f:Int->Int->Int):TIp:=λx y H Q=>∃i j,x=.int i/\y=.int j/\Q (.int (f i j)) H
theorem u9:PIp X .Add (ipI λi j=>i+j):=by
 intro pins s σ H x y v u Q I r1 r2 h
 obtain⟨i,j,e1,e2,q⟩:=h
 subst e1;subst e2
 obtain⟨t,rfl⟩:=r1
 obtain⟨t',rfl⟩:=r2
 exact iadd_int ⟨.int _,H,I.tok _,⟨_,rfl⟩,q⟩
end
section
variable {X:Cx} {pos:Pos}
def x5 (c:TT) (tb:TS):TS:=λD σ H=>∃W:Nat->St->Hp->Prop,(∃m,W m σ H)/\∀m σ H,W m σ H->
 c σ H λb H1=>if b=true then ∃N:St->Hp->Prop,(∀σ' H',N σ' H'->∃m',m' < m/\W m' σ' H')/\tb {D with nx:=N,ct:=N,bk:=D.nx} σ H1 else D.nx σ H1
theorem za {c:Expr} {body:List Stmt} {tc:TT} {tb:TS} (hp:PassesOwn (model X.prog X.w) X.A X.env X.xe) (hc:JT X c tc) (hb:XY X body tb):JS X (.While c body [] pos) (x5 tc tb):=.of (by
 have hc:=hc.to
 have hb:=hb.to
 intro pins s σ H D I h
 obtain⟨W,⟨m0,w0⟩,turn⟩:=h
 refine wpAny_While (codeAny_whileLoop (λn s'=>∃σ' H',qz X pins σ' H' s'/\W n σ' H') ?_ m0 ⟨σ,H,I,w0⟩)
 rintro n s1 ⟨σ1,H1,I1,w1⟩
 refine wpAny_passesOwn hp (ja (hc pins s1 σ1 H1 _ I1 (turn n σ1 H1 w1)) λb s2 ⟨H2,I2,q2⟩=>?_)
 cases b with
 | true=>
   obtain⟨N,hN,q2⟩:=q2
   rw[if_pos rfl]
   refine wpAny_passesOwn hp (ja (hb pins s2 σ1 H2 _ I2 q2) λf s3 q3=>?_)
   cases f with
   | next=>
     obtain⟨σ3,H3,I3,n3⟩:=q3
     obtain⟨m',hm,w3⟩:=hN σ3 H3 n3
     exact⟨m',hm,σ3,H3,I3,w3⟩
   | cont=>
     obtain⟨σ3,H3,I3,n3⟩:=q3
     obtain⟨m',hm,w3⟩:=hN σ3 H3 n3
     exact⟨m',hm,σ3,H3,I3,w3⟩
   | brk=>exact q3
   | ret v=>exact q3
 | false=>
   rw[if_neg tK]
   exact wpAny_execs_nil ⟨σ1,H2,I2,q2⟩)
end
structure It where
 go:Nat->Hp->Prop
 yld:Nat->Hp->V->Hp->Prop
 stop:Nat->Hp->Prop
def ZR (X:Cx) (pins:List (Addr×Obj)) (H:Hp) (b:Addr):Prop:=
 H b=none/\b≠X.env.locals/\b∉X.fs/\(b∈X.ex\/X.s₀.heap.objs.size<=b)/\(∀x c,X.env.cells.lookup x=some c->c≠b)/\∀p∈X.pn++pins,p.1≠b
theorem qz.fpOk {X:Cx} {pins:List (Addr×Obj)} {σ:St} {H H':Hp} {s:Shared} {b:Addr} (I:qz X pins σ H s) (hb:s.heap.objs.size<=b) (hn:H' b=none):ZR X pins H' b:=by
 refine⟨hn,zbX (tO I.lt hb),I.nofs hb,.inr (zaa I.sz hb),λx c e z=>?_,λp hp z=>?_⟩
 . obtain⟨v,q⟩:=I.cell x c e
   exact absurd (tO q.lt (by rw[z];exact hb)) (zat _)
 . exact absurd (tO (tP (I.pin p hp).1) (by rw[z];exact hb)) (zat _)
structure UI (P:Program) (w:World) (K:PySem.W.Frag) (tg:Expr) (J:It) (fp:List Addr) (it:Addr) (tn:Nat->Heap->Prop):Prop where
 mem:it∈fp
 obj:∀i h,tn i h->∀b∈fp,∃o,h.get? b=some o/\∀v,o.data≠.cell v
 keep:∀i h h',tn i h->(∀b∈fp,∀o,h.get? b=some o->h'.get? b=some o)->tn i h'
 item:∀(X:Cx),X.prog=P->X.w=w->X.K=K->X.calm=true->∀(i:Nat) (pins:List (Addr×Obj)) (s:Shared) (σ:St) (H:Hp) (E:Value->Shared->Prop),qz X pins σ H s->(∀b∈fp,ZR X pins H b)->tn i s.heap->J.go i H->
   wpAny (model P w) X.A (pyNext (.ref it)) (λr s1=>∃u,r=some u/\
     wpAny (model P w) X.A (letOwnedTupleGo tg (.ref it) u) (λ_ s2=>∃x H',qz X pins σ H' s2/\qP x u/\J.yld i H x H'/\tn (i+1) s2.heap/\∀b∈fp,H' b=none) E s1) E s
 done:∀(X:Cx),X.prog=P->X.w=w->X.K=K->X.calm=true->∀(i:Nat) (pins:List (Addr×Obj)) (s:Shared) (σ:St) (H:Hp) (E:Value->Shared->Prop),qz X pins σ H s->(∀b∈fp,ZR X pins H b)->tn i s.heap->J.stop i H->
   wpAny (model P w) X.A (pyNext (.ref it)) (λr s1=>r=none/\qz X pins σ H s1) E s
 self:∀(A:Around) (i:Nat) (s:Shared) (Q:Value->Shared->Prop) (E:Value->Shared->Prop),tn i s.heap->Q (.ref it) s->wpAny (model P w) A (pyIter (.ref it)) Q E s
abbrev TI:=St->Hp->(It->Hp->Prop)->Prop
def PIE (X:Cx) (pins:List (Addr×Obj)) (σ:St) (tg:Expr) (R:It->Hp->Prop) (itv:Value) (s2:Shared):Prop:=
 ∃(it:Addr) (fp:List Addr) (tn:Nat->Heap->Prop) (J:It) (H':Hp),itv=.ref it/\qz X pins σ H' s2/\UI X.prog X.w X.K tg J fp it tn/\tn 0 s2.heap/\(∀b∈fp,ZR X pins H' b)/\R J H'
def PI (X:Cx) (tg iter:Expr) (wi:TI):Prop:=
 ∀(pins:List (Addr×Obj)) (s:Shared) (σ:St) (H:Hp) (R:It->Hp->Prop),qz X pins σ H s->wi σ H R->
   wpAny (model X.prog X.w) X.A (eval iter X.env) (λv s1=>wpAny (model X.prog X.w) X.A (pyIter v) (PIE X pins σ tg R) X.xe s1) X.xe s
@[irreducible] def JI (X:Cx) (tg iter:Expr) (wi:TI):Prop:=PI X tg iter wi
theorem JI.of {X:Cx} {tg iter:Expr} {wi:TI} (h:PI X tg iter wi):JI X tg iter wi:=by unfold JI;exact h
theorem JI.to {X:Cx} {tg iter:Expr} {wi:TI} (h:JI X tg iter wi):PI X tg iter wi:=by unfold JI at h;exact h
theorem Uu {M:Model} {A:Around} {E:Value->Shared->Prop} {s:Shared} {tg:Expr} {it:Addr} {u:Value} {o:Obj} {n:String} {vs:Array Value} {Q:Unit->Shared->Prop} (ho:s.heap.get? it=some o) (hc:o.cls=.type n) (hd:o.data=.fields vs)
   (hn:["enumerate","zip","dict_itemiterator","dict_reverseitemiterator","odict_iterator","itertools.zip_longest","itertools.pairwise"].contains n=false) (hQ:Q () s):wpAny M A (letOwnedTupleGo tg (.ref it) u) Q E s:=by
 unfold letOwnedTupleGo
 cases tg<;>first
   | exact wpAny_pure hQ
   | (cases u<;>first
       | exact wpAny_pure hQ
       | (refine wpAny_bind (wpAny_load ho ?_)
          rw[hc,hd]
          show wpAny M A (if (["enumerate","zip","dict_itemiterator","dict_reverseitemiterator","odict_iterator","itertools.zip_longest","itertools.pairwise"].contains n&&vs[0]?==some (rawInt _))=true then _ else _) Q E s
          rw[if_neg (by intro h;rw[hn,zcK]at h;cases h)]
          exact wpAny_pure hQ))
def M3 (K:PySem.W.Frag) (a:Addr):It:=
 ⟨λi H=>∃xs x,SqL K H a xs/\xs[i]?=some x,λi H x H'=>H'=H/\∀xs,SqL K H a xs->xs[i]?=some x,λi H=>∃xs,SqL K H a xs/\xs.length<=i⟩
def NE (K:PySem.W.Frag) (a:Addr):It:=
 ⟨λi H=>∃xs x,SqT K H a xs/\xs[i]?=some x,λi H x H'=>H'=H/\∀xs,SqT K H a xs->xs[i]?=some x,λi H=>∃xs,SqT K H a xs/\xs.length<=i⟩
def NF (lo:Int) (n:Nat):It:=⟨λi _=>i < n,λi H x H'=>H'=H/\x=.int (lo+i),λi _=>n<=i⟩
theorem yA {P:Program} {w:World} {K:PySem.W.Frag} {tg:Expr} (a it:Addr):UI P w K tg (M3 K a) [it] it (λi h=>h.IsListIter it a i) where
 mem:=by simp
 obj:=λi h st b hb=>by
   have e:b=it:=by simpa using hb
   subst e
   obtain⟨o,e,c,d⟩:=st
   exact⟨o,e,λv z=>by rw[d]at z;cases z⟩
 keep:=λi h h' st k=>st.at λo e=>k it (by simp) o e
 item:=by
   intro X hP hw hK hc i pins s σ H E I hf st hg
   subst hP hw hK
   obtain⟨xs,x,hq,hx⟩:=hg
   obtain⟨its,rv,p,hz⟩:=I.list hq
   obtain⟨u,hu,ru⟩:=rv.get hx
   obtain⟨f0,f1,f2,f3,f4,f5⟩:=hf it (by simp)
   refine wpAny_pyNext_list_item st p.isList (x:=u) (by simpa using hu) λh' st' sb=>?_
   have I1:qz X pins σ H {s with heap:=h'}:=I.turned (t':=s.toks) (λb o hb e=>(sb.2 b hb).trans e) f0 f1 f3 f4 f5
   obtain⟨o,e,c,d⟩:=id st'
   exact⟨u,rfl,Uu (s:={s with heap:=h'}) e c d (by decide) ⟨x,H,I1,ru,⟨rfl,λys hy=>by rw[I.list_inj hy hq];exact hx⟩,st',λb hb=>(hf b hb).1⟩⟩
 done:=by
   intro X hP hw hK hc i pins s σ H E I hf st hg
   subst hP hw hK
   obtain⟨xs,hq,hx⟩:=hg
   obtain⟨its,rv,p,hz⟩:=I.list hq
   obtain⟨f0,f1,f2,f3,f4,f5⟩:=hf it (by simp)
   have hl:=rv.length
   exact wpAny_pyNext_list_end (I.ok.hd hc) st p.isList (by simp;omega) λh' eb=>⟨rfl,I.turned (t':=s.toks) (λb o hb e=>eb b o hb e) f0 f1 f3 f4 f5⟩
 self:=λ_ _ _ _ _ st h=>wpAny_pyIter_listiter st h
theorem UP {P:Program} {w:World} {K:PySem.W.Frag} {tg:Expr} (a it:Addr):UI P w K tg (NE K a) [it] it (λi h=>h.IsTupleIter it a i) where
 mem:=by simp
 obj:=λi h st b hb=>by
   have e:b=it:=by simpa using hb
   subst e
   obtain⟨o,e,c,d⟩:=st
   exact⟨o,e,λv z=>by rw[d]at z;cases z⟩
 keep:=λi h h' st k=>st.at λo e=>k it (by simp) o e
 item:=by
   intro X hP hw hK hc i pins s σ H E I hf st hg
   subst hP hw hK
   obtain⟨xs,x,hq,hx⟩:=hg
   obtain⟨its,rv,p,hz⟩:=I.tuple hq
   obtain⟨u,hu,ru⟩:=rv.get hx
   obtain⟨f0,f1,f2,f3,f4,f5⟩:=hf it (by simp)
   refine wpAny_pyNext_tuple_item st (show s.heap.IsTuple a its.toArray from p) (x:=u) (by simpa using hu) λh' st' sb=>?_
   have I1:qz X pins σ H {s with heap:=h'}:=I.turned (t':=s.toks) (λb o hb e=>(sb.2 b hb).trans e) f0 f1 f3 f4 f5
   obtain⟨o,e,c,d⟩:=id st'
   exact⟨u,rfl,Uu (s:={s with heap:=h'}) e c d (by decide) ⟨x,H,I1,ru,⟨rfl,λys hy=>by rw[I.tuple_inj hy hq];exact hx⟩,st',λb hb=>(hf b hb).1⟩⟩
 done:=by
   intro X hP hw hK hc i pins s σ H E I hf st hg
   subst hP hw hK
   obtain⟨xs,hq,hx⟩:=hg
   obtain⟨its,rv,p,hz⟩:=I.tuple hq
   obtain⟨f0,f1,f2,f3,f4,f5⟩:=hf it (by simp)
   have hl:=rv.length
   exact wpAny_pyNext_tuple_end (I.ok.hd hc) st (show s.heap.IsTuple a its.toArray from p) (by simp;omega) λh' eb=>⟨rfl,I.turned (t':=s.toks) (λb o hb e=>eb b o hb e) f0 f1 f3 f4 f5⟩
 self:=λ_ _ _ _ _ st h=>wpAny_pyIter_tupleiter st h
theorem UQ {P:Program} {w:World} {K:PySem.W.Frag} {tg:Expr} (it:Addr) (lo:Int) (n:Nat):UI P w K tg (NF lo n) [it] it (λi h=>IsRangeIter h it (lo+(i:Nat)*1) ((n:Int) - (i:Nat)) 1) where
 mem:=by simp
 obj:=λi h st b hb=>by
   have e:b=it:=by simpa using hb
   subst e
   exact⟨_,st,λv z=>by
     have z':Data.fields _=Data.cell v:=z
     cases z'⟩
 keep:=λi h h' st k=>k it (by simp) _ st
 item:=by
   intro X hP hw hK hc i pins s σ H E I hf st hg
   subst hP hw hK
   obtain⟨f0,f1,f2,f3,f4,f5⟩:=hf it (by simp)
   have W:=Walks.range (prog:=X.prog) (w:=X.w) (I.ok.hd hc) it lo 1 n
   refine W.item i s _ _ hg st λv h' tk hv st' kk=>?_
   obtain⟨t,rfl⟩:=hv
   have I1:qz X pins σ H {s with heap:=h',toks:=tk}:=I.turned (λb o hb e=>kk b o (by simpa using hb) e) f0 f1 f3 f4 f5
   refine⟨_,rfl,Uu (s:={s with heap:=h',toks:=tk}) (n:="range_iterator") st' rfl rfl (by decide) ⟨.int (lo+i),H,I1,⟨t,?_⟩,⟨rfl,rfl⟩,st',λb hb=>(hf b hb).1⟩⟩
   rw[Int.mul_one]
 done:=by
   intro X hP hw hK hc i pins s σ H E I hf st hg
   subst hP hw hK
   obtain⟨f0,f1,f2,f3,f4,f5⟩:=hf it (by simp)
   exact wpAny_pyNext_range_end (I.ok.hd hc) st (by have:n<=i:=hg;omega) λh' eb=>⟨rfl,I.turned (t':=s.toks) (λb o hb e=>eb b o hb e) f0 f1 f3 f4 f5⟩
 self:=λ_ _ _ _ _ st h=>wpAny_pyIter_rangeiter st h
section
variable {X:Cx} {tg:Expr}
def NB (K:PySem.W.Frag) (tl:TE):TI:=λσ H R=>tl σ H λx H1=>∃a,x=.ref a/\(∃xs,SqL K H1 a xs)/\R (M3 K a) H1
def qb7 (K:PySem.W.Frag) (tl:TE):TI:=λσ H R=>tl σ H λx H1=>∃a,x=.ref a/\(∃xs,SqT K H1 a xs)/\R (NE K a) H1
theorem qG {l:Expr} {tl:TE} (hl:JE X l tl):JI X tg l (NB X.K tl):=.of (by
 have hl:=hl.to
 intro pins s σ H R I h
 refine ja (hl pins s σ H _ I h) λv s1 ⟨x,H1,I1,r1,q1⟩=>?_
 obtain⟨a,e,⟨xs,hq⟩,q⟩:=q1
 subst e
 cases r1
 obtain⟨its,rv,p,hz⟩:=I1.list hq
 refine wpAny_pyIter_list p.isList ?_
 refine⟨s1.heap.objs.size,[s1.heap.objs.size],_,_,H1,rfl,I1.kept (t':=s1.toks) λb o e=>tz _ e,yA a _,⟨_,tZ _ rfl,rfl,rfl⟩,λb hb=>?_,q⟩
 have e:b=s1.heap.objs.size:=by simpa using hb
 subst e
 exact I1.fpOk (tq _) (I1.hok.fresh (tq _)))
theorem zD {l:Expr} {tl:TE} (hl:JE X l tl):JI X tg l (qb7 X.K tl):=.of (by
 have hl:=hl.to
 intro pins s σ H R I h
 refine ja (hl pins s σ H _ I h) λv s1 ⟨x,H1,I1,r1,q1⟩=>?_
 obtain⟨a,e,⟨xs,hq⟩,q⟩:=q1
 subst e
 cases r1
 obtain⟨its,rv,p,hz⟩:=I1.tuple hq
 refine wpAny_pyIter_tuple (show s1.heap.IsTuple a its.toArray from p) ?_
 refine⟨s1.heap.objs.size,[s1.heap.objs.size],_,_,H1,rfl,I1.kept (t':=s1.toks) λb o e=>tz _ e,UP a _,⟨_,tZ _ rfl,rfl,rfl⟩,λb hb=>?_,q⟩
 have e:b=s1.heap.objs.size:=by simpa using hb
 subst e
 exact I1.fpOk (tq _) (I1.hok.fresh (tq _)))
theorem wW {pins:List (Addr×Obj)} {σ:St} {H:Hp} {s:Shared} {R:It->Hp->Prop} {E:Value->Shared->Prop} {lo hi:Int} {t u v:Tok} {tk:Nat} (I:qz X pins σ H s) (h1:-(2^62)<=lo) (h2:lo < 2^62) (h3:-(2^62)<=hi) (h4:hi < 2^62)
   (q:R (NF lo (hi - lo).toNat) H):wpAny (model X.prog X.w) X.A (pyIter (.ref s.heap.objs.size)) (PIE X pins σ tg R) E {s with heap:=s.heap.push {cls:=.type "range",data:=.fields #[.int lo t,.int hi u,.int 1 v]},toks:=tk}:=by
 refine wpAny_pyIter_range (IsRange.new ..) (small_one h1 h2 h3 h4) ?_
 have I1:qz X pins σ H {s with heap:=s.heap.push {cls:=.type "range",data:=.fields #[.int lo t,.int hi u,.int 1 v]},toks:=tk}:=I.kept λb o e=>tz _ e
 refine⟨(s.heap.push {cls:=.type "range",data:=.fields #[.int lo t,.int hi u,.int 1 v]}).objs.size,[(s.heap.push {cls:=.type "range",data:=.fields #[.int lo t,.int hi u,.int 1 v]}).objs.size],_,_,H,rfl,
   I1.kept (t':=tk) λb o e=>tz _ e,UQ _ lo (hi - lo).toNat,?_,λb hb=>?_,q⟩
 . have e1:lo+((0:Nat):Int)*1=lo:=by simp
   have e2:(((hi - lo).toNat:Nat):Int) - ((0:Nat):Int)=Builtin.Range.rangeSize lo hi 1:=by rw[rangeSize_one];split<;>omega
   show IsRangeIter _ _ (lo+((0:Nat):Int)*1) ((((hi - lo).toNat:Nat):Int) - ((0:Nat):Int)) 1
   rw[e1,e2]
   exact tZ _ rfl
 . have e:b=(s.heap.push {cls:=.type "range",data:=.fields #[.int lo t,.int hi u,.int 1 v]}).objs.size:=by simpa using hb
   subst e
   exact I1.fpOk (tq _) (I1.hok.fresh (tq _))
def qa3 (ta:TA):TI:=λσ H R=>ta σ H λvs H1=>∃j:Int,vs=[.int j]/\-(2^62)<=j/\j < 2^62/\R (NF 0 j.toNat) H1
theorem jd {a:Expr} {ta:TA} {p pos:Pos} (hg:Gl X "range") (hm:X.mg "range"=none) (ha:JA X [a] ta) (hs:starEach [a] X.env=[(false,eval a X.env)]:=by rfl):JI X tg (.Call (.Name "range" p) [a] [] pos) (qa3 ta):=.of (by
 have ha:=ha.to
 intro pins s σ H R I h
 refine Call_ (Jk I hg hm boot_range (PyProof.Rows.callWith_type1 (ja (ha pos pins s σ H _ I h) λus s1 ⟨vs,H1,I1,r1,q1⟩=>?_) hs rfl))
 obtain⟨j,e,q1,q2,q⟩:=q1
 subst e
 cases r1 with
 | cons r rr=>
   cases rr
   obtain⟨t,rfl⟩:=r
   exact call_range_1 (wW I1 (by omega) (by omega) q1 q2 (by simpa using q)))
def qag (wi:TI) (g:TG) (tb:TS):TS:=λD σ H=>wi σ H λJ H1=>∃W:Nat->Nat->St->Hp->Prop,(∃m,W 0 m σ H1)/\∀i m σ H,W i m σ H->
 (J.stop i H/\D.nx σ H)\/(J.go i H/\∃N:St->Hp->Prop,(∀σ' H',N σ' H'->∃m',m' < m/\W (i+1) m' σ' H')/\∀x H',J.yld i H x H'->g x σ H' λσ2 H2=>tb {D with nx:=N,ct:=N,bk:=D.nx} σ2 H2)
def YY (fp:List Addr) (h:Heap):List (Addr×Obj):=fp.filterMap λb=>(h.get? b).map λo=>(b,o)
theorem JU {fp:List Addr} {h:Heap} {b:Addr} {o:Obj} (hb:b∈fp) (e:h.get? b=some o):(b,o)∈YY fp h:=zaB.mpr ⟨b,hb,by rw[e];rfl⟩
theorem xf {fp:List Addr} {h:Heap} {p:Addr×Obj} (hp:p∈YY fp h):p.1∈fp/\h.get? p.1=some p.2:=by
 obtain⟨b,hb,e⟩:=zaB.mp hp
 cases q:h.get? b with
 | none=>rw[q]at e;cases e
 | some o=>
   rw[q]at e
   have e':(b,o)=p:=tL.inj e
   subst e'
   exact⟨hb,q⟩
theorem qz.pinned {pins:List (Addr×Obj)} {σ:St} {H:Hp} {s:Shared} {fp:List Addr} (I:qz X pins σ H s) (hf:∀b∈fp,ZR X pins H b) (ho:∀b∈fp,∃o,s.heap.get? b=some o/\∀v,o.data≠.cell v):qz X (pins++YY fp s.heap) σ H s:=
 I.pins_of λp hp=>(t9.mp hp).elim (λz=>I.pin p (zan _ z)) λz=>by
   obtain⟨hb,e⟩:=xf z
   obtain⟨f0,f1,f2,_⟩:=hf p.1 hb
   obtain⟨o,e',d⟩:=ho p.1 hb
   rw[e]at e';cases e'
   exact⟨e,f0,f1,f2,d⟩
theorem qz.unpinned {pins pl:List (Addr×Obj)} {σ:St} {H:Hp} {s:Shared} (I:qz X (pins++pl) σ H s):qz X pins σ H s:=I.pins_of λp hp=>I.pin p (zan _ (zaI _ hp))
theorem jg {iter:Expr} {body:List Stmt} {wi:TI} {g:TG} {tb:TS} {pos:Pos} (hp:PassesOwn (model X.prog X.w) X.A X.env X.xe) (hc:X.calm=true) (hi:JI X tg iter wi) (hg:JG X tg g) (hb:XY X body tb) (hs:∀x,foldedSetIterable iter X.env x=pure x:=by intro _;rfl):JS X (.For tg iter body [] pos) (qag wi g tb):=.of (by
 have hi:=hi.to
 have hg:=hg.to
 have hb:=hb.to
 intro pins s σ H D I h
 refine wpAny_For (ja (hi pins s σ H _ I h) λv s1 h1=>ja h1 λitv s2 h2=>?_) hs
 obtain⟨it,fp,tn,J,H2,e,I2,T,st2,f2,W,⟨m0,w0⟩,turn⟩:=h2
 subst e
 have stat:∀{H':Hp},(∀b∈fp,H' b=none)->∀b∈fp,ZR X pins H' b:=λhn b hb=>⟨hn b hb,(f2 b hb).2⟩
 refine codeAny_forLoop_any (λn s'=>∃i σ' H',qz X pins σ' H' s'/\tn i s'.heap/\(∀b∈fp,H' b=none)/\W i n σ' H') ?_ m0 ⟨0,σ,H2,I2,st2,λb hb=>(f2 b hb).1,w0⟩
 rintro n s3 ⟨i,σ3,H3,I3,st3,fr3,w3⟩
 rcases turn i n σ3 H3 w3 with ⟨stop,qn⟩ | ⟨go,N,hN,step⟩
 . refine wpAny_passesOwn hp (ja (T.done X rfl rfl rfl hc i pins s3 σ3 H3 X.xe I3 (stat fr3) st3 stop) λr s4 ⟨hr,I4⟩=>?_)
   subst hr
   exact wpAny_execs_nil ⟨σ3,H3,I4,qn⟩
 . refine wpAny_passesOwn hp (ja (T.item X rfl rfl rfl hc i pins s3 σ3 H3 X.xe I3 (stat fr3) st3 go) λr s4 ⟨u,hr,h4⟩=>?_)
   subst hr
   refine wpAny_passesOwn hp (ja h4 λ_ s5 ⟨x,H5,I5,r5,y5,st5,fr5⟩=>?_)
   have I5':=I5.pinned (stat fr5) (T.obj _ _ st5)
   refine wpAny_passesOwn hp (ja (hg _ s5 σ3 H5 x u _ I5' r5 (step x H5 y5)) λ_ s6 ⟨σ6,H6,I6,q6⟩=>?_)
   refine wpAny_passesOwn hp (ja (hb _ s6 σ6 H6 _ I6 q6) λf s7 q7=>?_)
   have again:∀{σ7:St} {H7:Hp},qz X (pins++YY fp s5.heap) σ7 H7 s7->N σ7 H7->∃m,m < n/\∃i σ' H',qz X pins σ' H' s7/\tn i s7.heap/\(∀b∈fp,H' b=none)/\W i m σ' H':=λ{σ7 H7} I7 n7=>by
     obtain⟨m',hm,w7⟩:=hN σ7 H7 n7
     refine⟨m',hm,i+1,σ7,H7,I7.unpinned,T.keep _ _ _ st5 λb hb o e=>(I7.pin (b,o) (zan _ (zan _ (JU hb e)))).1,λb hb=>?_,w7⟩
     obtain⟨o,e,d⟩:=T.obj _ _ st5 b hb
     exact(I7.pin (b,o) (zan _ (zan _ (JU hb e)))).2.1
   cases f with
   | next=>obtain⟨σ7,H7,I7,n7⟩:=q7;exact again I7 n7
   | cont=>obtain⟨σ7,H7,I7,n7⟩:=q7;exact again I7 n7
   | brk=>obtain⟨σ7,H7,I7,q7⟩:=q7;exact⟨σ7,H7,I7.unpinned,q7⟩
   | ret v=>obtain⟨x7,σ7,H7,I7,r7,q7⟩:=q7;exact⟨x7,σ7,H7,I7.unpinned,r7,q7⟩)
end
theorem jn {K:PySem.W.Frag} {a:Addr} {xs:List V} {g:TG} {tb:TS} {D:Q8} {σ:St} {H:Hp} (Pv:Nat->St->Hp->Prop) (h0:Pv 0 σ H) (hl:∀i σ H,i<=xs.length->Pv i σ H->SqL K H a xs)
   (hs:∀i x σ H,xs[i]?=some x->Pv i σ H->g x σ H λσ2 H2=>tb {D with nx:=Pv (i+1),ct:=Pv (i+1),bk:=D.nx} σ2 H2) (hd:∀σ H,Pv xs.length σ H->D.nx σ H):
   ∃W:Nat->Nat->St->Hp->Prop,(∃m,W 0 m σ H)/\∀i m σ H,W i m σ H->
    ((M3 K a).stop i H/\D.nx σ H)\/((M3 K a).go i H/\∃N:St->Hp->Prop,(∀σ' H',N σ' H'->∃m',m' < m/\W (i+1) m' σ' H')/\∀x H',(M3 K a).yld i H x H'->g x σ H' λσ2 H2=>tb {D with nx:=N,ct:=N,bk:=D.nx} σ2 H2):=by
 refine⟨λi m σ H=>m=xs.length - i/\i<=xs.length/\Pv i σ H,⟨xs.length,by simp,zal _,h0⟩,?_⟩
 rintro i m σ H ⟨rfl,hi,p⟩
 have q:=hl i σ H hi p
 by_cases hlt:i < xs.length
 . refine .inr ⟨⟨xs,xs[i],q,by simp [hlt]⟩,Pv (i+1),λσ' H' p'=>⟨xs.length - (i+1),by omega,rfl,hlt,p'⟩,λx H' y=>?_⟩
   obtain⟨e,y⟩:=y
   subst e
   exact hs i x σ _ (y xs q) p
 . have e:i=xs.length:=by omega
   subst e
   exact .inl ⟨⟨xs,q,tq _⟩,hd σ H p⟩
theorem ye {K:PySem.W.Frag} {a:Addr} {xs:List V} {g:TG} {tb:TS} {D:Q8} {σ:St} {H:Hp} (Pv:Nat->St->Hp->Prop) (h0:Pv 0 σ H) (hl:∀i σ H,i<=xs.length->Pv i σ H->SqT K H a xs)
   (hs:∀i x σ H,xs[i]?=some x->Pv i σ H->g x σ H λσ2 H2=>tb {D with nx:=Pv (i+1),ct:=Pv (i+1),bk:=D.nx} σ2 H2) (hd:∀σ H,Pv xs.length σ H->D.nx σ H):
   ∃W:Nat->Nat->St->Hp->Prop,(∃m,W 0 m σ H)/\∀i m σ H,W i m σ H->
    ((NE K a).stop i H/\D.nx σ H)\/((NE K a).go i H/\∃N:St->Hp->Prop,(∀σ' H',N σ' H'->∃m',m' < m/\W (i+1) m' σ' H')/\∀x H',(NE K a).yld i H x H'->g x σ H' λσ2 H2=>tb {D with nx:=N,ct:=N,bk:=D.nx} σ2 H2):=by
 refine⟨λi m σ H=>m=xs.length - i/\i<=xs.length/\Pv i σ H,⟨xs.length,by simp,zal _,h0⟩,?_⟩
 rintro i m σ H ⟨rfl,hi,p⟩
 have q:=hl i σ H hi p
 by_cases hlt:i < xs.length
 . refine .inr ⟨⟨xs,xs[i],q,by simp [hlt]⟩,Pv (i+1),λσ' H' p'=>⟨xs.length - (i+1),by omega,rfl,hlt,p'⟩,λx H' y=>?_⟩
   obtain⟨e,y⟩:=y
   subst e
   exact hs i x σ _ (y xs q) p
 . have e:i=xs.length:=by omega
   subst e
   exact .inl ⟨⟨xs,q,tq _⟩,hd σ H p⟩
theorem QZ {lo:Int} {n:Nat} {g:TG} {tb:TS} {D:Q8} {σ:St} {H:Hp} (Pv:Nat->St->Hp->Prop) (h0:Pv 0 σ H)
   (hs:∀i σ H,i < n->Pv i σ H->g (.int (lo+i)) σ H λσ2 H2=>tb {D with nx:=Pv (i+1),ct:=Pv (i+1),bk:=D.nx} σ2 H2) (hd:∀σ H,Pv n σ H->D.nx σ H):
   ∃W:Nat->Nat->St->Hp->Prop,(∃m,W 0 m σ H)/\∀i m σ H,W i m σ H->
    ((NF lo n).stop i H/\D.nx σ H)\/((NF lo n).go i H/\∃N:St->Hp->Prop,(∀σ' H',N σ' H'->∃m',m' < m/\W (i+1) m' σ' H')/\∀x H',(NF lo n).yld i H x H'->g x σ H' λσ2 H2=>tb {D with nx:=N,ct:=N,bk:=D.nx} σ2 H2):=by
 refine⟨λi m σ H=>m=n - i/\i<=n/\Pv i σ H,⟨n,by simp,zal _,h0⟩,?_⟩
 rintro i m σ H ⟨rfl,hi,p⟩
 by_cases hlt:i < n
 . refine .inr ⟨hlt,Pv (i+1),λσ' H' p'=>⟨n - (i+1),by omega,rfl,hlt,p'⟩,λx H' y=>?_⟩
   obtain⟨e,y⟩:=y
   subst e y
   exact hs i σ _ hlt p
 . have e:i=n:=by omega
   subst e
   exact .inl ⟨tq _,hd σ H p⟩
theorem ZU {c:TT} {tb:TS} {D:Q8} {σ:St} {H:Hp} (Pv:St->Hp->Prop) (μ:St->Hp->Nat) (h0:Pv σ H)
   (hs:∀σ H,Pv σ H->c σ H λb H1=>if b=true then tb {D with nx:=λσ' H'=>Pv σ' H'/\μ σ' H' < μ σ H,ct:=λσ' H'=>Pv σ' H'/\μ σ' H' < μ σ H,bk:=D.nx} σ H1 else D.nx σ H1)
   (mono:∀σ H Q Q',(∀b H1,Q b H1->Q' b H1)->c σ H Q->c σ H Q'):x5 c tb D σ H:=by
 refine⟨λm σ H=>m=μ σ H/\Pv σ H,⟨_,rfl,h0⟩,?_⟩
 rintro m σ H ⟨rfl,p⟩
 refine mono σ H _ _ (λb H1 q=>?_) (hs σ H p)
 cases b with
 | true=>exact⟨_,λσ' H' ⟨p',l⟩=>⟨_,l,rfl,p'⟩,q⟩
 | false=>exact q
abbrev R2:=V->V->Hp->VK->Prop
def J7 (X:Cx) (f:Value->Value->Sem Value) (r:R2):Prop:=
 ∀(pins:List (Addr×Obj)) (s:Shared) (σ:St) (H:Hp) (x y:V) (v u:Value) (Q:VK),qz X pins σ H s->qP x v->qP y u->r x y H Q->
   wpAny (model X.prog X.w) X.A (f v u) (EP X pins σ Q) X.xe s
def QQ (X:Cx) (f:Value) (r:List V->Hp->VK->Prop):Prop:=
 ∀(pins:List (Addr×Obj)) (s:Shared) (σ:St) (H:Hp) (xs:List V) (us:List Value) (Q:VK),qz X pins σ H s->qE xs us->r xs H Q->
   wpAny (model X.prog X.w) X.A (call f us) (EP X pins σ Q) X.xe s
def zm (r:R2) (ta tb:TE):TE:=λσ H Q=>ta σ H λx H1=>tb σ H1 λy H2=>r x y H2 Q
def rI (C:Int->Int->Prop) (g:Int->Int->V):R2:=λx y H Q=>∃i j,x=.int i/\y=.int j/\C i j/\Q (g i j) H
def yV (g:Int->Int->V):R2:=λx y H Q=>∃i j,x=.int i/\y=.int j/\Q (g i j) H
section
variable {X:Cx} {a b c:Expr} {ta tb tc:TE} {pos:Pos}
theorem MQ (ha:PE X a ta) (hb:PE X b tb) {pins:List (Addr×Obj)} {s:Shared} {σ:St} {H:Hp} {R:V->V->Hp->Prop} (I:qz X pins σ H s)
   (h:ta σ H λx H1=>tb σ H1 λy H2=>R x y H2) {Q:Value->Shared->Prop} {f:Value->Value->Sem Value}
   (hf:∀v u s2 x y H2,qz X pins σ H2 s2->qP x v->qP y u->R x y H2->wpAny (model X.prog X.w) X.A (f v u) Q X.xe s2):
   wpAny (model X.prog X.w) X.A (eval a X.env) (λv s₁=>wpAny (model X.prog X.w) X.A (eval b X.env) (λu s₂=>wpAny (model X.prog X.w) X.A (f v u) Q X.xe s₂) X.xe s₁) X.xe s:=by
 refine ja (ha pins s σ H _ I h) λv s1 ⟨x,H1,I1,r1,q1⟩=>?_
 refine ja (hb pins s1 σ H1 _ I1 q1) λu s2 ⟨y,H2,I2,r2,q2⟩=>?_
 exact hf v u s2 x y H2 I2 r1 r2 q2
theorem qJ {op:Operator} {r:R2} (ho:J7 X (binaryOp op) r) (ha:JE X a ta) (hb:JE X b tb):JE X (.BinOp a op b pos) (zm r ta tb):=.of (by
 have ha:=ha.to
 have hb:=hb.to
 intro pins s σ H Q I h
 exact wpAny_BinOp (MQ ha hb I h λv u s2 x y H2 I2 rx ry q=>ho pins s2 σ H2 x y v u Q I2 rx ry q))
theorem Ma {f:Value->Value->Sem Value} {C:Int->Int->Prop} {g:Int->Int->Int}
   (rule:∀(i j:Int) (t u:Tok) (s:Shared) (Q:Value->Shared->Prop) (E:Value->Shared->Prop),C i j->Q (.int (g i j) s.toks) {s with toks:=s.toks+1}->wpAny (model X.prog X.w) X.A (f (.int i t) (.int j u)) Q E s):
   J7 X f (rI C λi j=>.int (g i j)):=by
 intro pins s σ H x y v u Q I rx ry h
 obtain⟨i,j,rfl,rfl,hc,q⟩:=h
 obtain⟨t,rfl⟩:=rx
 obtain⟨t',rfl⟩:=ry
 exact rule i j t t' s _ _ hc ⟨.int (g i j),H,I.tok _,⟨_,rfl⟩,q⟩
theorem uk {f:Value->Value->Sem Value} {g:Int->Int->Int}
   (rule:∀(i j:Int) (t u:Tok) (s:Shared) (Q:Value->Shared->Prop) (E:Value->Shared->Prop),Q (.int (g i j) s.toks) {s with toks:=s.toks+1}->wpAny (model X.prog X.w) X.A (f (.int i t) (.int j u)) Q E s):
   J7 X f (yV λi j=>.int (g i j)):=by
 intro pins s σ H x y v u Q I rx ry h
 obtain⟨i,j,rfl,rfl,q⟩:=h
 obtain⟨t,rfl⟩:=rx
 obtain⟨t',rfl⟩:=ry
 exact rule i j t t' s _ _ ⟨.int (g i j),H,I.tok _,⟨_,rfl⟩,q⟩
theorem GY {f:Value->Value->Sem Value} {g:Int->Int->Bool}
   (rule:∀(i j:Int) (t u:Tok) (s:Shared) (Q:Value->Shared->Prop) (E:Value->Shared->Prop),Q (.bool (g i j)) s->wpAny (model X.prog X.w) X.A (f (.int i t) (.int j u)) Q E s):
   J7 X f (yV λi j=>.bl (g i j)):=by
 intro pins s σ H x y v u Q I rx ry h
 obtain⟨i,j,rfl,rfl,q⟩:=h
 obtain⟨t,rfl⟩:=rx
 obtain⟨t',rfl⟩:=ry
 exact rule i j t t' s _ _ ⟨.bl (g i j),H,I,rfl,q⟩
def qci (i j:Int):Prop:=0 < j/\j < 1073741824
def Nf (i j:Int):Prop:=0<=j/\j<=1000000/\i.natAbs < 2^64
def M4 (i j:Int):Prop:=(-(2^64) < i/\i < 2^64)\/(-(2^64) < j/\j < 2^64)
theorem M4.ok {i j:Int} (h:M4 i j):IntMulOk i j:=by
 rcases h with ⟨h1,h2⟩ | ⟨h1,h2⟩
 . exact .of_left (intBits_le_64 h1 h2)
 . exact .of_right (intBits_le_64 h1 h2)
theorem UO (k:Nat):(0:Int)<=2^k:=by
 rw[two_pow_cast]
 exact zcL _
theorem QN:J7 X (binaryOp .Add) (yV λi j=>.int (i+j)):=uk λ_ _ _ _ _ _ _ q=>add_int q
theorem N6:J7 X (binaryOp .Sub) (yV λi j=>.int (i - j)):=uk λ_ _ _ _ _ _ _ q=>sub_int q
theorem JQ:J7 X (binaryOp .Mult) (rI M4 λi j=>.int (i*j)):=Ma λ_ _ _ _ _ _ _ hc q=>mul_int q hc.ok
theorem GX:J7 X (binaryOp .FloorDiv) (rI qci λi j=>.int (i / j)):=Ma λi j _ _ _ _ _ hc q=>by
 have h1:(0:Int) < j:=hc.1
 have h2:j < 1073741824:=hc.2
 exact floordiv_int (by omega) (by rw[zbU i (by omega)];exact q) (.inl (PyProof.noPylong_small (by omega)))
theorem Ji:J7 X (binaryOp .Mod) (rI (λ_ j=>0 < j) λi j=>.int (i % j)):=Ma λi j _ _ _ _ _ hc q=>by
 have h1:(0:Int) < j:=hc
 exact mod_int' (by omega) (by rw[Int.fmod_eq_emod_of_nonneg i (by omega)];exact q)
theorem N7:J7 X (binaryOp .Pow) (rI Nf λi j=>.int (i^j.toNat)):=Ma λ_ _ _ _ _ _ _ hc q=>pow_int_small hc.1 hc.2.1 hc.2.2 q
theorem U7:J7 X (binaryOp .LShift) (rI Nf λi j=>.int (i*2^j.toNat)):=Ma λ_ _ _ _ _ _ _ hc q=>lshift_int_small hc.1 hc.2.1 hc.2.2 q
theorem ue:J7 X (binaryOp .RShift) (rI (λ_ j=>0<=j) λi j=>.int (i / 2^j.toNat)):=Ma λi j _ _ _ _ _ hc q=>
 rshift_int hc (by rw[zbU i (UO _)];exact q)
theorem uj:J7 X (binaryOp .BitAnd) (yV λi j=>.int (Builtin.bitAnd i j)):=uk λ_ _ _ _ _ _ _ q=>and_int q
theorem qaM:J7 X (binaryOp .BitOr) (yV λi j=>.int (Builtin.bitOr i j)):=uk λ_ _ _ _ _ _ _ q=>or_int q
theorem Vi:J7 X (binaryOp .BitXor) (yV λi j=>.int (Builtin.bitXor i j)):=uk λ_ _ _ _ _ _ _ q=>xor_int q
end
def qao:V->V->Bool
 | .non,.non=>true | .non,.int _=>true | .int _,.non=>true | .non,.bl _=>true | .bl _,.non=>true | .non,.str _=>true | .str _,.non=>true
 | .int _,.int _=>true | .bl _,.bl _=>true | .str _,.str _=>true | .byt _,.byt _=>true
 | .int _,.str _=>true | .str _,.int _=>true | .bl _,.str _=>true | .str _,.bl _=>true
 | _,_=>false
def rEq:R2:=λx y H Q=>qao x y=true/\Q (.bl (decide (x=y))) H
def rNe:R2:=λx y H Q=>qao x y=true/\Q (.bl (!decide (x=y))) H
theorem yi {i j:Int}:decide (V.int i=V.int j)=(i==j):=by
 rw[zaQ]
 simp
theorem Ks {i j:Bool}:decide (V.bl i=V.bl j)=(i==j):=by
 rw[zaQ]
 simp
theorem yh {i j:Str}:decide (V.str i=V.str j)=(i==j):=by
 rw[zaQ]
 simp
theorem yj {i j:Array UInt8}:decide (V.byt i=V.byt j)=(i.toList==j.toList):=by
 rw[zaQ]
 cases i
 cases j
 simp
section
variable {X:Cx} {a b c:Expr} {ta tb tc:TE} {pos:Pos}
theorem qU {pins:List (Addr×Obj)} {σ:St} {H:Hp} {s:Shared} {Q:VK} {k k':Bool} (I:qz X pins σ H s) (q:Q (.bl k) H) (e:k=k'):EP X pins σ Q (.bool k') s:=by
 subst e
 exact⟨.bl k,H,I,rfl,q⟩
theorem j5:J7 X (compareOp .Eq) rEq:=by
 intro pins s σ H x y v u Q I rx ry h
 obtain⟨hs,q⟩:=h
 cases x with
 | non=>
   cases rx
   cases y with
   | non=>cases ry;exact PySem.EqNone.eq_none_none (qU I q (by simp))
   | bl j=>cases ry;exact PySem.EqNone.eq_none_bool (qU I q (by simp))
   | int j=>obtain⟨t',rfl⟩:=ry;exact PySem.EqNone.eq_none_int (qU I q (by simp))
   | str j=>obtain⟨t',rfl⟩:=ry;exact PySem.EqNone.eq_none_str (qU I q (by simp))
   | _=>exact absurd (show false=true from hs) tK
 | bl i=>
   cases rx
   cases y with
   | non=>cases ry;exact PySem.EqNone.eq_bool_none (qU I q (by simp))
   | bl j=>cases ry;exact eq_bool (qU I q Ks)
   | str j=>obtain⟨t',rfl⟩:=ry;exact PySem.EqMixed.eq_bool_str (qU I q (by simp))
   | _=>exact absurd (show false=true from hs) tK
 | int i=>
   obtain⟨t,rfl⟩:=rx
   cases y with
   | non=>cases ry;exact PySem.EqNone.eq_int_none (qU I q (by simp))
   | int j=>obtain⟨t',rfl⟩:=ry;exact eq_int (qU I q yi)
   | str j=>obtain⟨t',rfl⟩:=ry;exact PySem.EqMixed.eq_int_str (qU I q (by simp))
   | _=>exact absurd (show false=true from hs) tK
 | str i=>
   obtain⟨t,rfl⟩:=rx
   cases y with
   | non=>cases ry;exact PySem.EqNone.eq_str_none (qU I q (by simp))
   | bl j=>cases ry;exact PySem.EqMixed.eq_str_bool (qU I q (by simp))
   | int j=>obtain⟨t',rfl⟩:=ry;exact PySem.EqMixed.eq_str_int (qU I q (by simp))
   | str j=>obtain⟨t',rfl⟩:=ry;exact eq_str (qU I q yh)
   | _=>exact absurd (show false=true from hs) tK
 | byt i=>
   obtain⟨t,rfl⟩:=rx
   cases y with
   | byt j=>obtain⟨t',rfl⟩:=ry;exact PySem.W.eq_bytes (qU I q yj)
   | _=>exact absurd (show false=true from hs) tK
 | _=>cases y<;>exact absurd (show false=true from hs) tK
theorem Ug:J7 X (compareOp .NotEq) rNe:=by
 intro pins s σ H x y v u Q I rx ry h
 obtain⟨hs,q⟩:=h
 cases x with
 | non=>
   cases rx
   cases y with
   | non=>cases ry;exact PySem.EqNone.ne_none_none (qU I q (by simp))
   | bl j=>cases ry;exact PySem.EqNone.ne_none_bool (qU I q (by simp))
   | int j=>obtain⟨t',rfl⟩:=ry;exact PySem.EqNone.ne_none_int (qU I q (by simp))
   | str j=>obtain⟨t',rfl⟩:=ry;exact PySem.EqNone.ne_none_str (qU I q (by simp))
   | _=>exact absurd (show false=true from hs) tK
 | bl i=>
   cases rx
   cases y with
   | non=>cases ry;exact PySem.EqNone.ne_bool_none (qU I q (by simp))
   | bl j=>cases ry;exact ne_bool (qU I q (congrArg not Ks))
   | str j=>obtain⟨t',rfl⟩:=ry;exact PySem.EqMixed.ne_bool_str (qU I q (by simp))
   | _=>exact absurd (show false=true from hs) tK
 | int i=>
   obtain⟨t,rfl⟩:=rx
   cases y with
   | non=>cases ry;exact PySem.EqNone.ne_int_none (qU I q (by simp))
   | int j=>obtain⟨t',rfl⟩:=ry;exact ne_int (qU I q (congrArg not yi))
   | str j=>obtain⟨t',rfl⟩:=ry;exact PySem.EqMixed.ne_int_str (qU I q (by simp))
   | _=>exact absurd (show false=true from hs) tK
 | str i=>
   obtain⟨t,rfl⟩:=rx
   cases y with
   | non=>cases ry;exact PySem.EqNone.ne_str_none (qU I q (by simp))
   | bl j=>cases ry;exact PySem.EqMixed.ne_str_bool (qU I q (by simp))
   | int j=>obtain⟨t',rfl⟩:=ry;exact PySem.EqMixed.ne_str_int (qU I q (by simp))
   | str j=>obtain⟨t',rfl⟩:=ry;exact ne_str (qU I q (congrArg not yh))
   | _=>exact absurd (show false=true from hs) tK
 | byt i=>
   obtain⟨t,rfl⟩:=rx
   cases y with
   | byt j=>obtain⟨t',rfl⟩:=ry;exact PySem.W.ne_bytes (qU I q (congrArg not yj))
   | _=>exact absurd (show false=true from hs) tK
 | _=>cases y<;>exact absurd (show false=true from hs) tK
theorem Q4:J7 X (compareOp .Lt) (yV λi j=>.bl (decide (i < j))):=GY λ_ _ _ _ _ _ _ q=>lt_int q
theorem kQ:J7 X (compareOp .LtE) (yV λi j=>.bl (decide (i<=j))):=GY λ_ _ _ _ _ _ _ q=>le_int q
theorem Zf:J7 X (compareOp .Gt) (yV λi j=>.bl (decide (j < i))):=GY λ_ _ _ _ _ _ _ q=>gt_int q
theorem uh:J7 X (compareOp .GtE) (yV λi j=>.bl (decide (j<=i))):=GY λ_ _ _ _ _ _ _ q=>ge_int q
theorem y4:J7 X (compareOp .In) (λx y H Q=>∃i j,x=.str i/\y=.str j/\Q (.bl (!(Builtin.Str.occurrences j i 0 j.length 1).isEmpty)) H):=by
 intro pins s σ H x y v u Q I rx ry h
 obtain⟨i,j,rfl,rfl,q⟩:=h
 obtain⟨t,rfl⟩:=rx
 obtain⟨t',rfl⟩:=ry
 exact in_str (qU I q rfl)
theorem qx (b:Expr) {op:CmpOp} (h:op≠.In:=by decide) (h2:op≠.NotIn:=by decide):behindInMarks op b=false:=by
 have e1:(op==CmpOp.In)=false:=by cases op<;>first | rfl | exact absurd rfl h
 have e2:(op==CmpOp.NotIn)=false:=by cases op<;>first | rfl | exact absurd rfl h2
 cases b<;>simp [behindInMarks,e1,e2]
theorem Qa {op:CmpOp} {r:R2} (ho:J7 X (compareOp op) r) (ha:JE X a ta) (hb:JE X b tb) (hm:behindInMarks op b=false):JE X (.Compare a [op] [b] pos) (zm r ta tb):=.of (by
 have ha:=ha.to
 have hb:=hb.to
 intro pins s σ H Q I h
 exact wpAny_Compare1 (MQ ha hb I h λv u s2 x y H2 I2 rx ry q=>ho pins s2 σ H2 x y v u Q I2 rx ry q) hm)
def YB (t:TE):TT:=λσ H Q=>t σ H λx H'=>∃k,x=.bl k/\Q k H'
theorem qt {op:CmpOp} {r:R2} (ho:J7 X (compareOp op) r) (ha:JE X a ta) (hb:JE X b tb) (hm:behindInMarks op b=false):JT X (.Compare a [op] [b] pos) (YB (zm r ta tb)):=.of (by
 have ha:=ha.to
 have hb:=hb.to
 intro pins s σ H Q I h
 refine wpAny_isTrue_Compare1 (ja (ha pins s σ H _ I h) λv s1 ⟨x,H1,I1,r1,q1⟩=>ja (hb pins s1 σ H1 _ I1 q1) λu s2 ⟨y,H2,I2,r2,q2⟩=>
   ja (ho pins s2 σ H2 x y v u _ I2 r1 r2 q2) λc s3 ⟨z,H3,I3,r3,k,e,q3⟩=>?_) hm
 subst e
 cases r3
 exact wpAny_truthy_bool ⟨H3,I3,q3⟩)
theorem zy:(sizeLine:Nat) < 2^63:=by rw[sizeLine_eq];decide
theorem Xc:J7 X (binaryOp .Add) (λx y H Q=>∃i j,x=.str i/\y=.str j/\i.length+j.length<=sizeLine/\Q (.str (i++j)) H):=by
 intro pins s σ H x y v u Q I rx ry h
 obtain⟨i,j,rfl,rfl,hz,q⟩:=h
 obtain⟨t,rfl⟩:=rx
 obtain⟨t',rfl⟩:=ry
 exact add_str (λt' tk=>⟨.str (i++j),H,I.tok _,⟨_,rfl⟩,q⟩) hz
theorem Jl {x:V} {us:List Value} (r:qE [x] us):∃u,us=[u]/\qP x u:=by
 cases r with
 | cons r1 r2=>cases r2;exact⟨_,rfl,r1⟩
theorem VP {x y:V} {us:List Value} (r:qE [x,y] us):∃u w',us=[u,w']/\qP x u/\qP y w':=by
 cases r with
 | cons r1 r2=>
   cases r2 with
   | cons r3 r4=>cases r4;exact⟨_,_,rfl,r1,r3⟩
theorem WC (hc:X.calm=true):QQ X (.builtin "max") (λxs H Q=>∃i j,xs=[.int i,.int j]/\Q (.int (if j > i then j else i)) H):=by
 intro pins s σ H xs us Q I r h
 obtain⟨i,j,rfl,q⟩:=h
 obtain⟨u,w',rfl,⟨t,rfl⟩,⟨t',rfl⟩⟩:=VP r
 refine max_two_ints (I.ok.hd hc) λh' tk k=>⟨_,H,I.kept k,?_,q⟩
 by_cases hj:j > i
 . rw[if_pos hj,if_pos hj];exact⟨_,rfl⟩
 . rw[if_neg hj,if_neg hj];exact⟨_,rfl⟩
theorem xN (hc:X.calm=true):QQ X (.builtin "min") (λxs H Q=>∃i j,xs=[.int i,.int j]/\Q (.int (if j < i then j else i)) H):=by
 intro pins s σ H xs us Q I r h
 obtain⟨i,j,rfl,q⟩:=h
 obtain⟨u,w',rfl,⟨t,rfl⟩,⟨t',rfl⟩⟩:=VP r
 refine min_two_ints (I.ok.hd hc) λh' tk k=>⟨_,H,I.kept k,?_,q⟩
 by_cases hj:j < i
 . rw[if_pos hj,if_pos hj];exact⟨_,rfl⟩
 . rw[if_neg hj,if_neg hj];exact⟨_,rfl⟩
theorem WD:QQ X (.type "int") (λxs H Q=>(∃i,xs=[.int i]/\Q (.int i) H)\/∃k,xs=[.bl k]/\Q (.int (if k then 1 else 0)) H):=by
 intro pins s σ H xs us Q I r h
 rcases h with ⟨i,rfl,q⟩ | ⟨k,rfl,q⟩
 . obtain⟨u,rfl,t,rfl⟩:=Jl r
   exact call_int_int ⟨.int i,H,I,⟨_,rfl⟩,q⟩
 . obtain⟨u,rfl,r1⟩:=Jl r
   cases r1
   exact call_int_bool ⟨.int (if k then 1 else 0),H,I.tok _,⟨_,rfl⟩,q⟩
end
structure vH (h:Heap) (x dx C:Addr) (mA:Str->Option Value):Prop where
 obj:h.get? x=some (zbv C dx)
 ns:h.Ns1 dx mA
 ne:dx≠x
theorem Wu {h:Heap} {dx:Addr} {mA:Str->Option Value} (n:h.Ns1 dx mA):∃od,h.get? dx=some od/\∀name,zcM name od=some (mA name):=by
 obtain⟨o,es,ep,ho,hd,hk,_,hm⟩:=n
 refine⟨o,ho,λname=>?_⟩
 have e:=hm name
 unfold nsFind findBy at e
 rw[<-Array.find?_toList]at e
 unfold zcM
 rw[hd]
 dsimp only
 split
 . rename_i y q
   rw[q]at e
   exact congrArg some e
 . rename_i q
   rw[q]at e
   have a:es.toList.any (·.refKey)=false:=by
     rw[zcW]
     intro y hy
     obtain⟨z,t,hkey⟩:=hk y (Array.mem_toList_iff.mp hy)
     simp [DictEntry.refKey,hkey]
   have a':¬es.toList.any (·.refKey)=true:=by rw[a];exact tK
   rw[if_neg a']
   exact congrArg some e
theorem vH.look {h:Heap} {x dx C:Addr} {mA:Str->Option Value} (I:vH h x dx C mA):∃od,PySem.W.InstAt h x (zbv C dx) C (some od)/\∀name,zcM name od=some (mA name):=
 let ⟨od,ho,hl⟩:=Wu I.ns
 ⟨od,⟨I.obj,rfl,rfl,ho⟩,hl⟩
section
variable {prog:Program} {w:World} {A:Around} {E:Value->Shared->Prop} {s:Shared} {K:PySem.W.Frag} {x dx C f:Addr} {mA:Str->Option Value} {name:Str} {v:Value}
theorem RM {expr:Bool} {Q:Value->Shared->Prop} (X:K.In s.heap) (I:vH s.heap x dx C mA) (hg:zbz K C name=true) (hh:zaV K C=true)
   (ha:tJ K (.ref C) name=some none) (hv:mA name=some v) (hv':zdO v=true) (h:Q v {s with toks:=s.toks+1}):
   wpAny (model prog w) A (getAttr (.ref x) name expr) Q E s:=by
 obtain⟨od,J,hl⟩:=I.look
 exact PySem.W.get_value X J (zcF hg).1 (PySem.W.findObj_own hh ha rfl (by rw[hl,hv])) hv' h
theorem Ki {pl:Sem Bool} {Q:Value×List Value->Shared->Prop} (X:K.In s.heap) (I:vH s.heap x dx C mA) (hg:zbz K C name=true)
   (hf:tJ K (.ref C) name=some (some (.ref f))) (ht:zau K (.ref f)=true) (hv:mA name=none) (h:Q (.ref f,[.ref x]) s):
   wpAny (model prog w) A (getMethod (.ref x) name pl) Q E s:=by
 obtain⟨od,J,hl⟩:=I.look
 exact PySem.W.method_fn X J (zcF hg).1 (zcF hg).2 hf (beq_iff_eq.mp ht) (by show (zcM name od).map (·.isSome)=some false;rw[hl,hv];rfl) h
theorem K4 {ns:List Str} {Q:Unit->Shared->Prop} (X:K.In s.heap) (I:vH s.heap x dx C mA)
   (hs:tJ K (.ref C) "__setattr__"=some (some (.builtin "object.__setattr__"))) (hp:zbR K C=true) (ht:zdo K C name=some none) (hh:zaV K C=true)
   (hw:PySem.Within mA ns) (hsz:ns.length<=sizeLine)
   (h:∀h',vH h' x dx C (λy=>if y=name then some v else mA y)->Heap.SameBut dx s.heap h'->Q () {s with heap:=h',toks:=s.toks+2}):
   wpAny (model prog w) A (setAttr (.ref x) name v) Q E s:=by
 obtain⟨od,J,hl⟩:=I.look
 refine PySem.W.set_plain X J hs (PySem.W.osa_open (s:={s with toks:=s.toks+1}) (r:=none) X J hp ht λb=>?_)
 obtain⟨cd,hc,hd'⟩:=PySem.W.any_some hh
 have hx:s.heap.get? x=some ⟨.ref C,some dx,.plain,#[]⟩:=I.obj
 refine wpAny_bind (wpAny_pure (wpAny_bind (wpAny_bind (wpAny_loadPart hx (wpAny_bind (PySem.W.Looks.here (s:={s with toks:=s.toks+1}) (PySem.W.looks_clsIn X hc) ?_))))))
 rw[hd']
 refine wpAny_pure (a:=some dx) (wpAny_bind (wpAny_pure (wpAny_bind ?_)))
 refine wpAny_nsSet1 (s:={s with toks:=s.toks+1}) I.ns λh' hn2 hs2=>?_
 obtain⟨oD,esD,epD,hoD,hdD,hcD⟩:=hn2.count (PySem.Within.cons name v hw)
 refine wpAny_bind (wpAny_lookBehind hoD (by rw[hdD];exact pastItsLine_dict (zaa hcD (by rw[zao];omega))) ?_)
 exact wpAny_pure (h _ ⟨(hs2.2 _ (Ne.symm I.ne)).trans I.obj,hn2,I.ne⟩ hs2)
theorem uO {R:Result->Shared->Prop} {vs:List Value} {kw:List (Str×Value)} (X:K.In s.heap) (hm:zce K C=true)
   (hi:tJ K (.ref C) "__init__"=some (some (.ref f))) (hf:zdU K (.ref f)=some (.type "function"))
   (h:codeAny (model prog w) (A.under (.builtin "type.__call__" ⟨.ref C::vs,kw⟩)) (.call (.ref f) ⟨.ref (s.heap.objs.size+1)::vs,kw⟩) (PySem.W.InitBack (s.heap.objs.size+1) R)
     {s with heap:=(s.heap.push zaW).push (zbv C s.heap.objs.size)}):
   codeAny (model prog w) A (.call (.ref C) ⟨vs,kw⟩) R s:=by
 obtain⟨hh,g,d,t,os⟩:=s
 exact PySem.W.make_core (PySem.W.makes_of X hm) (zdv X hi) (λself=>PySem.W.bind_fn X self hf) (.inl rfl) h
end
def JN (f:Str) (v:V):List (Str×V)->List (Str×V)
 | []=>[(f,v)]
 | (g,x)::r=>if g=f then (g,v)::r else (g,x)::JN f v r
theorem zW (f g:Str) (v:V):∀fs:List (Str×V),(JN f v fs).lookup g=if g=f then some v else fs.lookup g
 | []=>by
   show zbj g [(f,v)]=_
   by_cases h:g=f
   . have hb:(g==f)=true:=beq_iff_eq.mpr h
     simp only[zbj,hb,if_pos h]
   . have hb:(g==f)=false:=beq_eq_false_iff_ne.mpr h
     simp only[zbj,hb,if_neg h]
 | (k,x)::r=>by
   have ih:=zW f g v r
   rw[show JN f v ((k,x)::r)=(if k=f then (k,v)::r else (k,x)::JN f v r) from rfl]
   by_cases hk:k=f
   . rw[if_pos hk]
     by_cases h:g=k
     . have hb:(g==k)=true:=beq_iff_eq.mpr h
       simp only[zbj,hb,if_pos (h.trans hk)]
     . have hb:(g==k)=false:=beq_eq_false_iff_ne.mpr h
       simp only[zbj,hb,if_neg (λe:g=f=>h (e.trans hk.symm))]
   . rw[if_neg hk]
     by_cases h:g=k
     . have hb:(g==k)=true:=beq_iff_eq.mpr h
       simp only[zbj,hb,if_neg (λe:g=f=>hk (h.symm.trans e))]
     . have hb:(g==k)=false:=beq_eq_false_iff_ne.mpr h
       simp only[zbj,hb]
       exact ih
theorem zA (f:Str) (v:V):∀fs:List (Str×V),f∈(JN f v fs).map (·.1)/\∀g,g∈fs.map (·.1)->g∈(JN f v fs).map (·.1)
 | []=>⟨by simp [JN],λg h=>by simp at h⟩
 | (k,x)::r=>by
   obtain⟨i1,i2⟩:=zA f v r
   rw[show JN f v ((k,x)::r)=(if k=f then (k,v)::r else (k,x)::JN f v r) from rfl]
   by_cases hk:k=f
   . rw[if_pos hk]
     subst hk
     exact⟨by simp,λg h=>by simpa using h⟩
   . rw[if_neg hk]
     refine⟨?_,λg h=>?_⟩
     . rw[tQ]
       exact tY _ i1
     . rw[tQ]at h ⊢
       rcases tV.mp h with e | e
       . exact tV.mpr (.inl e)
       . exact tY _ (i2 g e)
theorem zX (f:Str) (v:V):∀fs:List (Str×V),(JN f v fs).length<=fs.length+1
 | []=>by simp [JN]
 | (k,x)::r=>by
   have ih:=zX f v r
   rw[show JN f v ((k,x)::r)=(if k=f then (k,v)::r else (k,x)::JN f v r) from rfl]
   by_cases hk:k=f
   . rw[if_pos hk,zao,zao];omega
   . rw[if_neg hk,zao,zao];omega
theorem JF.some_of {v:V} {o:Option Value} (r:JF (some v) o):∃u,o=some u/\qP v u:=by
 cases o with
 | none=>exact(show False from r).elim
 | some u=>exact⟨u,rfl,r⟩
theorem JF.none_of {o:Option Value} (r:JF none o):o=none:=by
 cases o with
 | none=>rfl
 | some u=>exact(show False from r).elim
theorem Wy {v:V} {u:Value} (r:qP v u):zdO u=true:=by
 cases v with
 | non=>cases (show u=Value.none from r);rfl
 | bl b=>cases (show u=Value.bool b from r);rfl
 | int i=>obtain⟨t,e⟩:=(show ∃t,u=Value.int i t from r);cases e;rfl
 | str x=>obtain⟨t,e⟩:=(show ∃t,u=Value.str x t from r);cases e;rfl
 | byt b=>obtain⟨t,e⟩:=(show ∃t,u=Value.bytes b t from r);cases e;rfl
 | flt b=>obtain⟨t,e⟩:=(show ∃t,u=Value.float b t from r);cases e;rfl
 | ref a=>cases (show u=Value.ref a from r);rfl
 | ty n=>cases (show u=Value.type n from r);rfl
section
variable {P:Program} {w:World} {H H':Hp} {h h':Heap} {a C dx:Addr} {fs fs':List (Str×V)}
theorem Yq (hok:JK P w H h) (e:H a=some (.ins C dx fs)):∃mA,vH h a dx C mA/\(∀f,JF (fs.lookup f) (mA f))/\PySem.Within mA (fs.map (·.1))/\fs.length<=1000/\H dx=some (.own a):=by
 obtain⟨d,z,ne,ob,mA,n,r,q⟩:=(show qI P w H h a (.ins C dx fs) from hok a _ e)
 exact⟨mA,⟨ob,n,ne⟩,r,q,z,d⟩
end
structure Yy (K:PySem.W.Frag) (C:Addr):Prop where
 pg:zbz K C Str.empty=true
 hd:zaV K C=true
 po:zbR K C=true
 sa:tJ K (.ref C) "__setattr__"=some (some (.builtin "object.__setattr__"))
theorem Yy.get {K:PySem.W.Frag} {C:Addr} (c:Yy K C) (f:Str):zbz K C f=true:=c.pg
def jX (K:PySem.W.Frag) (C:Addr) (f:Str):Prop:=tJ K (.ref C) f=some none
theorem jX.taker {K:PySem.W.Frag} {C:Addr} {f:Str} (n:jX K C f):zdo K C f=some none:=by
 unfold zdo
 rw[show tJ K (.ref C) f=some none from n]
 rfl
structure Con (K:PySem.W.Frag) (C:Addr) (f:Str) (v:V) (u:Value):Prop where
 at_:tJ K (.ref C) f=some (some u)
 rel:qP v u
 get:zcX K u "__get__"=some none
 cp:PySem.W.copiedNames.contains f=false
structure XX (K:PySem.W.Frag) (C:Addr) (m:Str) (f:Addr):Prop where
 at_:tJ K (.ref C) m=some (some (.ref f))
 fn:zau K (.ref f)=true
 kp:zav K (.ref f)=true
section
variable {X:Cx} {pins:List (Addr×Obj)} {σ:St} {H:Hp} {s:Shared} {a C dx:Addr} {fs:List (Str×V)} {f:Str} {v:V} {A:Around} {E:Value->Shared->Prop}
theorem vp {b:Bool} {Q:Value->Shared->Prop} (I:qz X pins σ H s) (e:H a=some (.ins C dx fs)) (c:Yy X.K C) (n:jX X.K C f) (l:fs.lookup f=some v)
   (h:∀u s',qz X pins σ H s'->qP v u->Q u s'):wpAny (model X.prog X.w) A (getAttr (.ref a) f b) Q E s:=by
 obtain⟨mA,O,r,_,_,_⟩:=Yq I.hok e
 obtain⟨u,hu,ru⟩:=JF.some_of (v:=v) (o:=mA f) (by rw[<-l];exact r f)
 exact RM I.kIn O (c.get f) c.hd n hu (Wy ru) (h u _ (I.tok _) ru)
theorem QG {m:Str} {g:Addr} {pl:Sem Bool} {Q:Value×List Value->Shared->Prop} (I:qz X pins σ H s) (e:H a=some (.ins C dx fs)) (c:Yy X.K C) (k:XX X.K C m g) (l:fs.lookup m=none)
   (h:Q (.ref g,[.ref a]) s):wpAny (model X.prog X.w) A (getMethod (.ref a) m pl) Q E s:=by
 obtain⟨mA,O,r,_,_,_⟩:=Yq I.hok e
 have hn:mA m=none:=JF.none_of (by rw[<-l];exact r m)
 exact Ki I.kIn O (c.get m) k.at_ k.fn hn h
theorem UX {y:V} {u:Value} {Q:Unit->Shared->Prop} (I:qz X pins σ H s) (e:H a=some (.ins C dx fs)) (c:Yy X.K C) (n:jX X.K C f) (hl:fs.length < 1000) (ry:qP y u)
   (h:∀s',qz X pins σ (upd H a (.ins C dx (JN f y fs))) s'->Q () s'):wpAny (model X.prog X.w) A (setAttr (.ref a) f u) Q E s:=by
 obtain⟨mA,O,r,wi,_,ho⟩:=Yq I.hok e
 have hz:(fs.map (·.1)).length<=sizeLine:=by rw[tj,sizeLine_eq];omega
 refine K4 I.kIn O c.sa c.po n.taker c.hd wi hz λh' O' sb=>h _ ?_
 have hd:∃o,h'.get? dx=some o:=let ⟨o,_,_,e',_⟩:=O'.ns;⟨o,e'⟩
 refine I.write (x:=a) (e:=dx) (by rw[e];exact True.intro) (.inr ho) (λb q hb z=>(sb.2 b hb).trans z) hd ?_
 refine⟨by rw[qg O.ne];exact ho,?_,O.ne,O'.obj,_,O'.ns,λg=>?_,λg hg=>?_⟩
 . have:=zX f y fs;omega
 . show JF ((JN f y fs).lookup g) (if g=f then some u else mA g)
   rw[zW]
   by_cases q:g=f
   . rw[if_pos q,if_pos q];exact ry
   . rw[if_neg q,if_neg q];exact r g
 . by_cases q:g=f
   . rw[q];exact(zA f y fs).1
   . refine(zA f y fs).2 g (wi g λz=>hg ?_)
     show (if g=f then some u else mA g)=none
     rw[if_neg q];exact z
theorem qz.made (I:qz X pins σ H s):qz X pins σ (upd (upd H s.heap.objs.size (.own (s.heap.objs.size+1))) (s.heap.objs.size+1) (.ins C s.heap.objs.size []))
   {s with heap:=(s.heap.push zaW).push (zbv C s.heap.objs.size)}:=by
 have e1:(s.heap.push zaW).get? s.heap.objs.size=some zaW:=tZ s.heap rfl
 have e2:((s.heap.push zaW).push (zbv C s.heap.objs.size)).get? (s.heap.objs.size+1)=some (zbv C s.heap.objs.size):=by
   have:=tZ (s.heap.push zaW) (o:=zbv C s.heap.objs.size) rfl
   rwa [zbr]at this
 have e3:(s.heap.push zaW).Ns s.heap.objs.size (λ_=>none):=⟨zaW,#[],_,e1,rfl,(λe he=>absurd he (by simp)),λ_=>rfl⟩
 have I1:=I.laid (a:=s.heap.objs.size) (o:=.own (s.heap.objs.size+1)) (h':=s.heap.push zaW) (t':=s.toks) (λb u q=>tz _ q) (tq _) ⟨_,e1⟩
 refine I1.laid (a:=s.heap.objs.size+1) (o:=.ins C s.heap.objs.size []) (t':=s.toks) (λb u q=>tz _ q) (zdj (zbr _ _)) ?_
 have ne:s.heap.objs.size≠s.heap.objs.size+1:=tR (zaM _)
 refine⟨by rw[qg ne,qd],zal _,ne,e2,λ_=>none,(Heap.Ns1.of_empty e3).at λo q=>tz _ q,λ_=>True.intro,λy hy=>absurd rfl hy⟩
theorem yp {prog:Program} {w:World} {env:Env} {e:Expr} {f:Str} {pos:Pos} {s:Shared} {Q:Value->Shared->Prop} (hb:attributeBase e f env (eval e env)=eval e env)
   (h:wpAny (model prog w) A (eval e env) (λo s₁=>wpAny (model prog w) A (getAttr o f true) Q E s₁) E s):wpAny (model prog w) A (eval (.Attribute e f pos) env) Q E s:=
 Attribute_any_ h (by rw[arm_eval_Attribute,hb])
end
def qbB (K:PySem.W.Frag) (ta:TE) (f:Str):TE:=λσ H Q=>ta σ H λx H1=>∃a C dx fs v,x=.ref a/\H1 a=some (.ins C dx fs)/\Yy K C/\jX K C f/\fs.lookup f=some v/\Q v H1
def qbM (K:PySem.W.Frag) (ta tv:TE) (f:Str):TS:=λD σ H=>tv σ H λy H1=>ta σ H1 λx H2=>∃a C dx fs,x=.ref a/\H2 a=some (.ins C dx fs)/\Yy K C/\jX K C f/\fs.length < 1000/\
 D.nx σ (upd H2 a (.ins C dx (JN f y fs)))
section
variable {X:Cx} {o e value:Expr} {f:Str} {pos pos' tpos:Pos} {ta tv:TE}
theorem QF (he:JE X e ta) (hb:attributeBase e f X.env (eval e X.env)=eval e X.env):JE X (.Attribute e f pos) (qbB X.K ta f):=.of (by
 have he:=he.to
 intro pins s σ H Q I h
 refine yp hb (ja (he pins s σ H _ I h) λu s1 ⟨x,H1,I1,rx,a,C,dx,fs,v,ex,ea,c,n,l,q⟩=>?_)
 subst ex
 obtain rfl:u=Value.ref a:=rx
 exact vp I1 ea c n l λu' s2 I2 ru=>⟨v,H1,I2,ru,q⟩)
theorem Vu (ha:JE X o ta) (hv:JE X value tv) (hs:swapsWith value (some (.Attribute o f pos')) pos.line X.env=pure false):JS X (.Assign [.Attribute o f pos'] value pos) (qbM X.K ta tv f):=.of (by
 have ha:=ha.to
 have hv:=hv.to
 intro pins s σ H D I h
 refine plainObj_wpAny_Assign_Attribute (ja (hv pins s σ H _ I h) λu s1 ⟨y,H1,I1,ry,q⟩=>ja (ha pins s1 σ H1 _ I1 q) λov s2 ⟨x,H2,I2,rx,a,C,dx,fs,ex,ea,c,n,l,q2⟩=>?_) hs
 subst ex
 obtain rfl:ov=Value.ref a:=rx
 exact UX I2 ea c n l ry λs3 I3=>⟨σ,_,I3,q2⟩)
end
section
variable {X:Cx} {pins:List (Addr×Obj)} {σ:St} {H:Hp} {s:Shared} {A:Around} {E:Value->Shared->Prop} {Q:Value->Shared->Prop} {c:Value} {b:Bool}
inductive TyOf (K:PySem.W.Frag) (H:Hp):V->Value->Prop where
 | non:TyOf K H .non (.type "NoneType")
 | bl (x:Bool):TyOf K H (.bl x) (.type "bool")
 | int (i:Int):TyOf K H (.int i) (.type "int")
 | str (x:Str):TyOf K H (.str x) (.type "str")
 | flt (x:UInt64):TyOf K H (.flt x) (.type "float")
 | lst {a:Addr} {xs:List V} (e:H a=some (.lst xs)):TyOf K H (.ref a) (.type "list")
 | frz {a:Addr} {o:Obj} {xs:List V} (e:H a=some (.frz o (.lst xs))):TyOf K H (.ref a) (.type "list")
 | tup {a:Addr} {xs:List V} (e:H a=some (.tup xs)):TyOf K H (.ref a) (.type "tuple")
 | dK {a:Addr} {kvs:List (qL×V)} (e:H a=some (.dK kvs)):TyOf K H (.ref a) (.type "dict")
 | dT {a:Addr} {kvs:List (List qL×V)} (e:H a=some (.dT kvs)):TyOf K H (.ref a) (.type "dict")
 | ins {a C dx:Addr} {fs:List (Str×V)} (e:H a=some (.ins C dx fs)) (cl:Yy K C) (ha:tJ K (.ref C) "__class__"=some (some (.builtin "object.__class__")))
     (hn:zcX K (.builtin "object.__class__") "__get__"=some (some (.builtin "getset_descriptor.__get__"))) (htk:zdT K (.builtin "object.__class__")=some true)
     (hm:zbh K C (.type "object")=some true):TyOf K H (.ref a) (.ref C)
theorem xt {x:V} {u t:Value} (I:qz X pins σ H s) (rx:qP x u) (ty:TyOf X.K H x t) (e:zad X.K t c=some b) (h:∀tk,Q (.bool b) {s with toks:=tk}):
   wpAny (model X.prog X.w) A (call (.builtin "isinstance") [u,c]) Q E s:=by
 cases ty with
 | non=>cases (show u=Value.none from rx);exact zba PySem.W.kitx_none I.kIn True.intro e (λz=>nomatch z) h
 | bl y=>cases (show u=Value.bool y from rx);exact zba PySem.W.kitx_bool I.kIn True.intro e (λz=>nomatch z) h
 | int i=>obtain⟨t,q⟩:=(show ∃t,u=Value.int i t from rx);cases q;exact zba PySem.W.kitx_int I.kIn True.intro e (λz=>nomatch z) h
 | str y=>obtain⟨t,q⟩:=(show ∃t,u=Value.str y t from rx);cases q;exact zba PySem.W.kitx_str I.kIn True.intro e (λz=>nomatch z) h
 | flt y=>obtain⟨t,q⟩:=(show ∃t,u=Value.float y t from rx);cases q;exact zba PySem.W.kitx_float I.kIn True.intro e (λz=>nomatch z) h
 | @lst a xs ea=>
   cases (show u=Value.ref a from rx)
   obtain⟨_,_,n,_,h1⟩:=(show qI X.prog X.w H s.heap a (.lst xs) from I.hok a _ ea)
   exact zba zdI I.kIn ⟨_,h1,rfl⟩ e (λz=>nomatch z) h
 | @frz a ob xs ea=>
   cases (show u=Value.ref a from rx)
   obtain⟨_,_,_,n,_,h1⟩:=(show qI X.prog X.w H s.heap a (.frz ob (.lst xs)) from I.hok a _ ea)
   exact zba zdI I.kIn ⟨_,h1,rfl⟩ e (λz=>nomatch z) h
 | @tup a xs ea=>
   cases (show u=Value.ref a from rx)
   obtain⟨_,_,_,p⟩:=(show qI X.prog X.w H s.heap a (.tup xs) from I.hok a _ ea)
   obtain⟨o,h1,h2,_⟩:=p
   exact zba PySem.W.kitx_tuple I.kIn ⟨o,h1,h2⟩ e (λz=>nomatch z) h
 | @dK a kvs ea=>
   cases (show u=Value.ref a from rx)
   obtain⟨_,_,vs,_,p⟩:=(show qI X.prog X.w H s.heap a (.dK kvs) from I.hok a _ ea)
   obtain⟨o,es,ep,h1,h2,_⟩:=p
   exact zba zdJ I.kIn ⟨o,h1,h2.1⟩ e (λz=>nomatch z) h
 | @dT a kvs ea=>
   cases (show u=Value.ref a from rx)
   obtain⟨_,_,xs,_,o,es,ep,h1,h2,_⟩:=(show qI X.prog X.w H s.heap a (.dT kvs) from I.hok a _ ea)
   exact zba zdJ I.kIn ⟨o,h1,h2.1⟩ e (λz=>nomatch z) h
 | @ins a C dx fs ea cl ha hn htk hm=>
   cases (show u=Value.ref a from rx)
   obtain⟨mA,O,_⟩:=Yq I.hok ea
   obtain⟨od,J,_⟩:=O.look
   exact zba (PySem.W.kitx_own (cl.get _) cl.hd ha hn htk hm) I.kIn J e (λz=>nomatch z) h
end
structure qR (k:Nat) (A:Around):Prop where
 hd:A.handled=none
 dp:A.depth+3*k+5 < recursionLimit
 un:A.units+16*k+200 < cLine
 gd:A.guards=some []
theorem qR.mono {j k:Nat} {A:Around} (r:qR k A) (h:j<=k):qR j A:=⟨r.hd,by have:=r.dp;omega,by have:=r.un;omega,r.gd⟩
theorem qR.deeper {k:Nat} {A:Around} (r:qR (k+1) A) (env:Env):qR k (A.deeper env):=
 ⟨r.hd,by have:=r.dp;show A.depth+1+3*k+5 < _;omega,by have:=r.un;show A.units+3+16*k+200 < _;omega,r.gd⟩
theorem vg {A:Around} {C:Addr} {us:List Value} {kw:List (Str×Value)}:(A.under (.builtin "type.__call__" ⟨.ref C::us,kw⟩)).depth=A.depth+1:=by
 first | rfl | simp [Around.under,Code.weight,Code.isCreation,Code.isGuard,Code.isCaller,Code.frames,Code.isFrame,guardIds]
theorem vf {A:Around} {C:Addr} {us:List Value} {kw:List (Str×Value)}:(A.under (.builtin "type.__call__" ⟨.ref C::us,kw⟩)).units=A.units+1:=by
 first | rfl | simp [Around.under,Code.cUnits,Code.frames,Code.isFrame]
theorem qR.make {k:Nat} {A:Around} (r:qR (k+1) A) (C:Addr) (us:List Value) (kw:List (Str×Value)):qR k (A.under (.builtin "type.__call__" ⟨.ref C::us,kw⟩)):=
 ⟨r.hd,by have:=r.dp;rw[vg];omega,by have:=r.un;rw[vf];omega,(by have:=r.gd;first | exact this | simpa [Around.under,Code.isGuard,guardIds] using this)⟩
theorem qR.depth {k:Nat} {A:Around} (r:qR k A):A.depth < recursionLimit:=by have:=r.dp;omega
theorem qR.units {k:Nat} {A:Around} (r:qR k A):A.units+64 < cLine:=by have:=r.un;omega
def QR:TA:=λ_ H Q=>Q [] H
def ji (ta:TE) (tr:TA):TA:=λσ H Q=>ta σ H λx H1=>tr σ H1 λxs H2=>Q (x::xs) H2
section
variable {X:Cx} {e:Expr} {es:List Expr} {te:TE} {t:TA} {pos:Pos}
theorem qe:JA X [] QR:=.of (by
 exact λ_ _ _ _ H Q I h=>Calls.spliced_nil ⟨[],H,I,.nil,h⟩)
theorem qb (ha:JE X e te) (hr:JA X es t) (hs:starEach (e::es) X.env=(false,eval e X.env)::starEach es X.env:=by rfl):JA X (e::es) (ji te t):=.of (by
 have ha:=ha.to
 have hr:=hr.to
 intro pos pins s σ H Q I h
 rw[hs]
 show wpAny _ _ (spliced ((false,eval e X.env)::backTo pos (starEach es X.env))) _ _ s
 refine Calls.spliced_cons (ja (ha pins s σ H _ I h) λu s1 ⟨x,H1,I1,r1,q1⟩=>?_)
 exact ja (hr pos pins s1 σ H1 _ I1 q1) λus s2 ⟨xs,H2,I2,r2,q2⟩=>⟨x::xs,H2,I2,.cons r1 r2,q2⟩)
def WV (t:TA):TE:=λσ H Q=>t σ H λxs H1=>xs.length<=sizeLine/\∀p,H1 p=none->Q (.ref p) (upd H1 p (.tup xs))
def qby (t:TA):TE:=λσ H Q=>t σ H λxs H1=>xs.length<=sizeLine/\∀p,H1 p=none->Q (.ref p) (upd H1 p (.lst xs))
theorem qW {x1} (h:JA X es t):JE X (.Tuple es x1 pos) (WV t):=.of (by
 have h:=h.to
 intro pins s σ H Q I hq
 refine wpAny_Tuple_spliced (ja (h pos pins s σ H _ I hq) λus s1 ⟨xs,H1,I1,r,z,q⟩=>⟨by rw[<-r.length];exact z,?_⟩)
 have hf:H1 s1.heap.objs.size=none:=I1.hok.fresh (tq _)
 refine⟨.ref s1.heap.objs.size,upd H1 s1.heap.objs.size (.tup xs),I1.laid (t':=s1.toks) (λb u e=>tz _ e) (tq _) ?_,rfl,q _ hf⟩
 exact⟨z,us,r,⟨_,tZ _ rfl,rfl,_,rfl⟩⟩)
theorem jE (h:JA X es t):JE X (.List es pos) (qby t):=.of (by
 have h:=h.to
 intro pins s σ H Q I hq
 refine wpAny_List_spliced (ja (h pos pins s σ H _ I hq) λus s1 ⟨xs,H1,I1,r,z,q⟩=>⟨by rw[<-r.length];exact z,?_⟩)
 have hf:H1 s1.heap.objs.size=none:=I1.hok.fresh (tq _)
 refine⟨.ref s1.heap.objs.size,upd H1 s1.heap.objs.size (.lst xs),I1.laid (t':=s1.toks) (λb u e=>tz _ e) (tq _) ?_,rfl,q _ hf⟩
 exact⟨z,us,0,r,tZ _ rfl⟩)
end
abbrev Sp:=List V->Hp->VK->XK->Prop
abbrev WP:=List Env->Hp->Shared->XK->Value->Shared->Prop
structure vJ (P:Program) (w:World) (K:PySem.W.Frag) (mg:Str->Option Value) (base:Heap) (A:Around) (outer:List Env) (s:Shared) (H:Hp):Prop where
 frames:A.frames=some outer
 mod:Mod K mg base
 bs:∀b o,base.get? b=some o->s.heap.get? b=some o/\H b=none
 bsz:base.objs.size<=s.heap.objs.size
 funs:s.heap.FunFrames base outer
 frf:∀b∈zZ outer,H b=none
 hok:JK P w H s.heap
 bare:AllBare s.gens
def CE (outer:List Env) (P:Program) (w:World) (H:Hp) (s:Shared) (Q:VK) (u:Value) (s':Shared):Prop:=
 ∃v H',s'.os=s.os/\AllBare s'.gens/\Un (zZ outer) [] H H' s.heap s'.heap/\JK P w H' s'.heap/\qP v u/\Q v H'
def CR (CX:WP) (outer:List Env) (P:Program) (w:World) (H:Hp) (s:Shared) (Q:VK) (E:XK) (r:Result) (s':Shared):Prop:=
 match r with
 | .ok (.ret u)=>CE outer P w H s Q u s'
 | .ok _=>False
 | .error e=>CX outer H s E e s'
structure qo (P:Program) (w:World) (K:PySem.W.Frag) (mg:Str->Option Value) (base:Heap) (CX:WP) (k:Nat) (f:Addr) (fd:FuncData) (ps:List Str) (sp:Sp):Prop where
 len:∀vs H Q E,sp vs H Q E->vs.length=ps.length
 run:∀(A:Around) (outer:List Env) (s:Shared) (H:Hp) (args:Args) (us:List Value) (vs:List V) (Q:VK) (E:XK),qR k A->vJ P w K mg base A outer s H->BindsTo s fd args (ps.zip us)->qE vs us->sp vs H Q E->
   codeAny (model P w) A (.call (.ref f) args) (CR CX outer P w H s Q E) s
theorem vJ.make {P:Program} {w:World} {K:PySem.W.Frag} {mg:Str->Option Value} {base:Heap} {A:Around} {outer:List Env} {s:Shared} {H:Hp} (e:vJ P w K mg base A outer s H) (C:Addr) (us:List Value) (kw:List (Str×Value)):
   vJ P w K mg base (A.under (.builtin "type.__call__" ⟨.ref C::us,kw⟩)) outer s H:=⟨by first | exact e.frames | (simpa [Around.under,Code.envs,Code.isFrame,pushEnvs] using e.frames),e.mod,e.bs,e.bsz,e.funs,e.frf,e.hok,e.bare⟩
section
variable {X:Cx} {pins:List (Addr×Obj)} {σ:St} {H:Hp} {s s':Shared}
theorem qz.env0 (I:qz X pins σ H s):vJ X.prog X.w X.K X.mg X.base X.A X.stack s H:=
 ⟨I.ok.frames,I.ok.mod,I.bs,zaa I.ok.bsz I.sz,I.stack,I.stkFree,I.hok,I.bare⟩
theorem qz.after {Q:VK} {u:Value} (I:qz X pins σ H s) (h:CE X.stack X.prog X.w H s Q u s'):EP X pins σ Q u s':=by
 obtain⟨v,H',os,bare,un,hok,r,q⟩:=h
 obtain⟨hh,g,d,t,os'⟩:=s'
 obtain rfl:os'=s.os:=os
 exact⟨v,H',I.call (h':=hh) (g':=g) (d':=d) (t':=t) (ch:=[]) un hok bare (λb z=>absurd z (by simp)),r,q⟩
end
def ZC (sp:Sp) (dvs:List V) (E:XK) (t:TA):TE:=λσ H Q=>t σ H λvs H1=>sp (vs++dvs) H1 Q E
def Wc (C:Addr) (m:Str) (sp:Sp) (dvs:List V) (E:XK) (ta:TE) (t:TA):TE:=λσ H Q=>ta σ H λx H1=>∃a dx fs,x=.ref a/\H1 a=some (.ins C dx fs)/\fs.lookup m=none/\
 t σ H1 λvs H2=>sp (x::(vs++dvs)) H2 Q E
def qaf (C:Addr) (sp:Sp) (dvs:List V) (E:XK) (t:TA):TE:=λσ H Q=>t σ H λvs H1=>∀x dx,H1 x=none->H1 dx=none->dx≠x->
 sp (.ref x::(vs++dvs)) (upd (upd H1 dx (.own x)) x (.ins C dx [])) (λv H2=>v=.non/\Q (.ref x) H2) E
def jO (K:PySem.W.Frag) (fd:FuncData) (ps:List Str) (ds:List Value):Prop:=
 ∀(s:Shared) (us:List Value),K.In s.heap->(us++ds).length=ps.length->BindsTo s fd ⟨us,[]⟩ (ps.zip (us++ds))
theorem jO.all {K:PySem.W.Frag} {fd:FuncData} {ps:List Str} (h:∀us:List Value,us.length=ps.length->bindArgs fd ⟨us,[]⟩=pure (ps.zip us)):jO K fd ps []:=λs us _ hl=>by
 rw[zaH]at hl ⊢
 exact .of_eq (h us hl)
def Qi (CX:WP) (X:Cx) (E:XK):Prop:=∀(pins:List (Addr×Obj)) (σ:St) (H:Hp) (s:Shared) (e:Value) (s':Shared),qz X pins σ H s->CX X.stack H s E e s'->X.xe e s'
section
variable {X:Cx} {CX:WP} {k:Nat} {f C:Addr} {fd:FuncData} {ps:List Str} {sp:Sp} {dvs:List V} {ds:List Value} {E:XK} {x m:Str} {p pos apos:Pos} {e o:Expr} {es:List Expr} {ta:TE} {t:TA}
theorem ZK {pins:List (Addr×Obj)} {σ:St} {H:Hp} {s:Shared} {Q:VK} {us:List Value} {vs:List V} (F:qo X.prog X.w X.K X.mg X.base CX k f fd ps sp) (hr:qR k X.A) (hb:jO X.K fd ps ds) (hd:qE dvs ds) (hx:Qi CX X E)
   (I:qz X pins σ H s) (r:qE vs us) (h:sp (vs++dvs) H Q E):wpAny (model X.prog X.w) X.A (call (.ref f) us) (EP X pins σ Q) X.xe s:=by
 have r2:qE (vs++dvs) (us++ds):=r.append hd
 have hl:(us++ds).length=ps.length:=by rw[<-r2.length];exact F.len _ _ _ _ h
 refine wpAny_call (codeAny_mono (F.run X.A X.stack s H ⟨us,[]⟩ (us++ds) (vs++dvs) Q E hr I.env0 (hb s us I.kIn hl) r2 h) λr s' hq=>?_)
 cases r with
 | error e=>exact hx pins σ H s e s' I hq
 | ok fl=>
   cases fl with
   | ret u=>exact I.after hq
   | next=>exact False.elim hq
   | brk=>exact False.elim hq
   | cont=>exact False.elim hq
theorem kN (F:qo X.prog X.w X.K X.mg X.base CX k f fd ps sp) (hr:qR k X.A) (hg:Gl X x) (hm:X.mg x=some (.ref f)) (hk:zav X.K (.ref f)=true) (hb:jO X.K fd ps ds) (hd:qE dvs ds) (hx:Qi CX X E)
   (ha:PA X (e::es) t) (hdb:(x==("__debug__":Str))=false:=by decide) (he:starEach (e::es) X.env=(false,eval e X.env)::starEach es X.env:=by rfl) (hpl:(backTo pos (starEach es X.env)).any (·.1)=false:=by rfl):
   PE X (.Call (.Name x p) (e::es) [] pos) (ZC sp dvs E t):=by
 intro pins s σ H Q I h
 refine wpAny_Call_Name_kw (Yo I hg hm ?_ hdb)
 refine zbn (h₀:=X.base) I.ok.mod.kin hk (ja (ha pos pins s σ H _ I h) λus s1 ⟨vs,H1,I1,r,q⟩=>⟨I1.kIn,?_⟩) he hpl
 exact ZK F hr hb hd hx I1 r q
theorem GD {pl:Sem Bool} (he:PE X o ta) (c:Yy X.K C) (hm:XX X.K C m f) (F:qo X.prog X.w X.K X.mg X.base CX k f fd ps sp) (hr:qR k X.A) (hb:jO X.K fd ps ds) (hd:qE dvs ds) (hx:Qi CX X E) (ha:PA X (e::es) t)
   (hst:starEach (e::es) X.env=(false,eval e X.env)::starEach es X.env:=by rfl) (hpl:(backTo pos (starEach es X.env)).any (·.1)=false:=by rfl)
   (ht:eval (.Call (.Attribute o m apos) (e::es) [] pos) X.env=(do
     let ov <-eval o X.env
     standAt apos.atName
     let (f,first) <-holding [ov] (getMethod ov m pl)
     callWith pos f first (backTo pos (starEach (e::es) X.env)) (backToKw pos (keywordEach [] X.env))):=by rfl):
   PE X (.Call (.Attribute o m apos) (e::es) [] pos) (Wc C m sp dvs E ta t):=by
 intro pins s σ H Q I h
 refine zbQ (pl:=pl) (ja (he pins s σ H _ I h) λu s1 ⟨x,H1,I1,rx,a,dx,fs,ex,ea,l,q⟩=>?_) ht
 subst ex
 obtain rfl:u=Value.ref a:=rx
 refine QG I1 ea c hm l ?_
 refine zbn (first:=[.ref a]) (h₀:=X.base) I.ok.mod.kin hm.kp (ja (ha pos pins s1 σ H1 _ I1 q) λus s2 ⟨vs,H2,I2,r,q2⟩=>⟨I2.kIn,?_⟩) hst hpl
 exact ZK (us:=.ref a::us) (vs:=.ref a::vs) F hr hb hd hx I2 (.cons rfl r) q2
theorem RF {pl:Sem Bool} (he:JE X o ta) (c:Yy X.K C) (hm:XX X.K C m f) (F:qo X.prog X.w X.K X.mg X.base CX k f fd ps sp) (hr:qR k X.A) (hb:jO X.K fd ps ds) (hd:qE dvs ds) (hx:Qi CX X E) (ha:JA X (e::es) t) (hst:starEach (e::es) X.env=(false,eval e X.env)::starEach es X.env:=by rfl) (hpl:(backTo pos (starEach es X.env)).any (·.1)=false:=by rfl) (ht:eval (.Call (.Attribute o m apos) (e::es) [] pos) X.env=(do
     let ov <-eval o X.env
     standAt apos.atName
     let (f,first) <-holding [ov] (getMethod ov m pl)
     callWith pos f first (backTo pos (starEach (e::es) X.env)) (backToKw pos (keywordEach [] X.env))):=by rfl):JE X (.Call (.Attribute o m apos) (e::es) [] pos) (Wc C m sp dvs E ta t):=.of (GD he.to c hm F hr hb hd hx ha.to hst hpl ht)
theorem ua {pl:Sem Bool} (he:PE X o ta) (c:Yy X.K C) (hm:XX X.K C m f) (F:qo X.prog X.w X.K X.mg X.base CX k f fd ps sp) (hr:qR k X.A) (hb:jO X.K fd ps ds) (hd:qE dvs ds) (hx:Qi CX X E)
   (ht:eval (.Call (.Attribute o m apos) [] [] pos) X.env=(do
     let ov <-eval o X.env
     standAt apos.atName
     let (f,first) <-holding [ov] (getMethod ov m pl)
     callWith pos f first (backTo pos (starEach [] X.env)) (backToKw pos (keywordEach [] X.env))):=by rfl):
   PE X (.Call (.Attribute o m apos) [] [] pos) (Wc C m sp dvs E ta QR):=by
 intro pins s σ H Q I h
 refine zbQ (pl:=pl) (ja (he pins s σ H _ I h) λu s1 ⟨x,H1,I1,rx,a,dx,fs,ex,ea,l,q⟩=>?_) ht
 subst ex
 obtain rfl:u=Value.ref a:=rx
 refine QG I1 ea c hm l ?_
 exact zcG (first:=[.ref a]) I1.kIn hm.kp (ZK (us:=[.ref a]) (vs:=[.ref a]) F hr hb hd hx I1 (.cons rfl .nil) q)
theorem u0 {pl:Sem Bool} (he:JE X o ta) (c:Yy X.K C) (hm:XX X.K C m f) (F:qo X.prog X.w X.K X.mg X.base CX k f fd ps sp) (hr:qR k X.A) (hb:jO X.K fd ps ds) (hd:qE dvs ds) (hx:Qi CX X E) (ht:eval (.Call (.Attribute o m apos) [] [] pos) X.env=(do
     let ov <-eval o X.env
     standAt apos.atName
     let (f,first) <-holding [ov] (getMethod ov m pl)
     callWith pos f first (backTo pos (starEach [] X.env)) (backToKw pos (keywordEach [] X.env))):=by rfl):JE X (.Call (.Attribute o m apos) [] [] pos) (Wc C m sp dvs E ta QR):=.of (ua he.to c hm F hr hb hd hx ht)
structure Mk (K:PySem.W.Frag) (C f:Addr):Prop where
 makes:zce K C=true
 init:tJ K (.ref C) "__init__"=some (some (.ref f))
 fn:zau K (.ref f)=true
 kp:zav K (.ref C)=true
theorem wP {pins:List (Addr×Obj)} {σ:St} {H:Hp} {s:Shared} {Q:VK} {us:List Value} {vs:List V} (M:Mk X.K C f) (F:qo X.prog X.w X.K X.mg X.base CX k f fd ps sp) (hr:qR (k+1) X.A) (hb:jO X.K fd ps ds) (hd:qE dvs ds)
   (hx:Qi CX X E) (I:qz X pins σ H s) (r:qE vs us)
   (h:∀x dx,H x=none->H dx=none->dx≠x->sp (.ref x::(vs++dvs)) (upd (upd H dx (.own x)) x (.ins C dx [])) (λv H2=>v=.non/\Q (.ref x) H2) E):
   wpAny (model X.prog X.w) X.A (call (.ref C) us) (EP X pins σ Q) X.xe s:=by
 have hq:=h (s.heap.objs.size+1) s.heap.objs.size (I.hok.fresh (zdw _)) (I.hok.fresh (tq _)) (tR (zaM _))
 have I2:=qz.made (C:=C) I
 have r2:qE (V.ref (s.heap.objs.size+1)::(vs++dvs)) (Value.ref (s.heap.objs.size+1)::(us++ds)):=.cons rfl (r.append hd)
 have hl:(Value.ref (s.heap.objs.size+1)::us++ds).length=ps.length:=by
   have e:=r2.length
   rw[F.len _ _ _ _ hq]at e
   exact e.symm
 refine wpAny_call (uO (f:=f) I.kIn M.makes M.init (beq_iff_eq.mp M.fn) (codeAny_mono (F.run _ X.stack _ _ ⟨Value.ref (s.heap.objs.size+1)::us,[]⟩ (Value.ref (s.heap.objs.size+1)::(us++ds)) _ _ E (hr.make C us [])
   (I2.env0.make C us []) (hb _ (Value.ref (s.heap.objs.size+1)::us) I2.kIn hl) r2 hq) λr s' hq'=>?_))
 cases r with
 | error e=>exact hx pins σ _ _ e s' I2 hq'
 | ok fl=>
   cases fl with
   | ret u=>
     obtain⟨v,H',I3,rv,ev,q3⟩:=I2.after hq'
     subst ev
     exact⟨rv,⟨V.ref (s.heap.objs.size+1),H',I3,rfl,q3⟩⟩
   | next=>exact False.elim hq'
   | brk=>exact False.elim hq'
   | cont=>exact False.elim hq'
theorem Je (M:Mk X.K C f) (F:qo X.prog X.w X.K X.mg X.base CX k f fd ps sp) (hr:qR (k+1) X.A) (hg:Gl X x) (hm:X.mg x=some (.ref C)) (hb:jO X.K fd ps ds) (hd:qE dvs ds) (hx:Qi CX X E) (ha:JA X (e::es) t) (hdb:(x==("__debug__":Str))=false:=by decide) (he:starEach (e::es) X.env=(false,eval e X.env)::starEach es X.env:=by rfl) (hpl:(backTo pos (starEach es X.env)).any (·.1)=false:=by rfl):JE X (.Call (.Name x p) (e::es) [] pos) (qaf C sp dvs E t):=.of (by
 have ha:=ha.to
 intro pins s σ H Q I h
 refine wpAny_Call_Name_kw (Yo I hg hm ?_ hdb)
 refine zbn (h₀:=X.base) I.ok.mod.kin M.kp (ja (ha pos pins s σ H _ I h) λus s1 ⟨vs,H1,I1,r,q⟩=>⟨I1.kIn,?_⟩) he hpl
 exact wP M F hr hb hd hx I1 r q)
end
section
variable {X:Cx} {CX:WP} {k:Nat} {f C:Addr} {fd:FuncData} {ps ks:List Str} {sp:Sp} {E:XK} {x m:Str} {p pos apos kpos:Pos} {e o:Expr} {es:List Expr} {kws:List Keyword} {te ta:TE} {t tk:TA} {nm:Option Str}
structure qcg (K:PySem.W.Frag) (fd:FuncData) (ps ks:List Str) (g:List Value->List Value->List Value) (gV:List V->List V->List V):Prop where
 to:∀(s:Shared) (us ws:List Value),K.In s.heap->(g us ws).length=ps.length->BindsTo s fd ⟨us,ks.zip ws⟩ (ps.zip (g us ws))
 rel:∀{vs:List V} {us:List Value} {zs:List V} {ws:List Value},qE vs us->qE zs ws->qE (gV vs zs) (g us ws)
variable {g:List Value->List Value->List Value} {gV:List V->List V->List V}
end
structure qr (N P:List Str) (sc:Scope):Prop where
 kind:sc.kind=.function
 co:sc.isCoroutine=false
 gen:sc.isGenerator=false
 nd:N.Nodup
 pre:N.take P.length=P
 par:∀x∈P,sc.names.lookup x=some .local\/sc.names.lookup x=some .cell
 nofree:∀y∈sc.names,y.2≠.free
theorem WH {kindOf:Str->Option NameKind} {x:Str}:∀{binds:List (Str×Value)} {m:Str->Option Value},(∀v,(x,v)∉binds)->bindL kindOf binds m x=m x
 | [],_,_=>rfl
 | (n,v)::r,m,h=>by
   unfold bindL
   rw[WH λw hw=>h w (tY _ hw)]
   split
   . have:x≠n:=by rintro rfl;exact h v zab
     simp [this]
   . rfl
theorem WJ {kindOf:Str->Option NameKind} {x:Str}:∀{binds:List (Str×Value)} {m:Str->Option Value},(∀v,(x,v)∉binds)->bindC kindOf binds m x=m x
 | [],_,_=>rfl
 | (n,v)::r,m,h=>by
   unfold bindC
   rw[WJ λw hw=>h w (tY _ hw)]
   split
   . rfl
   . have:x≠n:=by rintro rfl;exact h v zab
     simp [this]
theorem WI {kindOf:Str->Option NameKind} {x:Str} {v:Value}:∀{P:List Str} {vs:List Value} {i:Nat} {m:Str->Option Value},P.Nodup->P[i]?=some x->vs[i]?=some v->kindOf x=some .local->
   bindL kindOf (P.zip vs) m x=some v
 | [],_,_,_,_,h,_,_=>by simp at h
 | _::_,[],_,_,_,_,h,_=>by simp at h
 | p::P,w::vs,0,m,nd,h1,h2,hk=>by
   simp at h1 h2;subst h1;subst h2
   show bindL kindOf ((p,w)::P.zip vs) m p=_
   unfold bindL
   rw[WH λv hv=>(zaA.mp nd).1 (zdp hv).1,if_pos hk]
   simp
 | p::P,w::vs,i+1,m,nd,h1,h2,hk=>by
   show bindL kindOf ((p,w)::P.zip vs) m x=_
   unfold bindL
   exact WI (i:=i) (zaA.mp nd).2 (by simpa using h1) (by simpa using h2) hk
theorem WK {kindOf:Str->Option NameKind} {x:Str} {v:Value}:∀{P:List Str} {vs:List Value} {i:Nat} {m:Str->Option Value},P.Nodup->P[i]?=some x->vs[i]?=some v->kindOf x≠some .local->
   bindC kindOf (P.zip vs) m x=some v
 | [],_,_,_,_,h,_,_=>by simp at h
 | _::_,[],_,_,_,_,h,_=>by simp at h
 | p::P,w::vs,0,m,nd,h1,h2,hk=>by
   simp at h1 h2;subst h1;subst h2
   show bindC kindOf ((p,w)::P.zip vs) m p=_
   unfold bindC
   rw[WJ λv hv=>(zaA.mp nd).1 (zdp hv).1,if_neg hk]
   simp
 | p::P,w::vs,i+1,m,nd,h1,h2,hk=>by
   show bindC kindOf ((p,w)::P.zip vs) m x=_
   unfold bindC
   exact WK (i:=i) (zaA.mp nd).2 (by simpa using h1) (by simpa using h2) hk
def ZD (N:List Str) (vs:List V):St:=vs.map some++zah (N.length - vs.length) none
def Qw (CX:WP) (P:Program) (w:World) (K:PySem.W.Frag) (mg:Str->Option Value) (base:Heap) (N:List Str) (qual:Str) (scope:Scope) (f:Addr) (cd:Value) (A:Around) (outer:List Env) (s:Shared) (H:Hp) (E:XK):Cx where
 prog:=P
 w:=w
 K:=K
 mg:=mg
 base:=base
 A:=A.deeper (envOfC qual scope s.heap.objs.size f cd)
 N:=N
 s₀:=s
 H₀:=H
 env:=envOfC qual scope s.heap.objs.size f cd
 outer:=outer
 stack:=envOfC qual scope s.heap.objs.size f cd::outer
 ex:=[]
 calm:=true
 fn:=λ_=>true
 pn:=[]
 xe:=λe s'=>wpAny (model P w) (A.deeper (envOfC qual scope s.heap.objs.size f cd)) (leaving (envOfC qual scope s.heap.objs.size f cd) e) (λ_ s''=>CX outer H s E e s'') (λe' s''=>CX outer H s E e' s'') s'
theorem UF {sc:Scope} {n:Nat} {x:Str} (h:sc.names.lookup x=some .cell):∃c,(cellsFrom n sc.names []).lookup x=some c:=by
 have q:=zdk sc.names n [] (.inl h)
 exact zdd.mp q
theorem xw {CX:WP} {P:Program} {w:World} {K:PySem.W.Frag} {mg:Str->Option Value} {base:Heap} {N ps:List Str} {qual:Str} {scope:Scope} {f:Addr} {cd:Value} {A:Around} {outer:List Env} {s s1:Shared} {H:Hp} {E:XK} {us:List Value} {vs:List V}
   (S:qr N ps scope) (hd:A.handled=none) (e0:vJ P w K mg base A outer s H) (hl:vs.length=ps.length) (r:qE vs us)
   (x:InCallC s s.heap.objs.size (bindL (envOfC qual scope s.heap.objs.size f cd).kindOf (ps.zip us) λ_=>none) (cellsFrom (s.heap.objs.size+1) scope.names []) (bindC (envOfC qual scope s.heap.objs.size f cd).kindOf (ps.zip us) λ_=>none) s1):
   qz (Qw CX P w K mg base N qual scope f cd A outer s H E) [] (ZD N vs) H s1:=by
 have hpl:ps.length<=N.length:=by have:=congrArg zaN S.pre;rw[tU]at this;omega
 obtain⟨h1,tk,rfl,hk⟩:=x.done
 have noA:∀b:Addr,b∉(Qw CX P w K mg base N qual scope f cd A outer s H E).ex:=λb z=>absurd (show b∈([]:List Addr) from z) (by simp)
 refine⟨⟨e0.mod,S.kind,rfl,rfl,tq _,λy z c h1 h2=>?_,λy hy=>?_,λy c _ h=>?_,λ_=>hd,Around.frames_deeper e0.frames,.inr ⟨rfl,rfl⟩,λb z=>absurd z (noA b),e0.bs,e0.bsz,λb _ _=>noA b,λb z=>absurd z (noA b),e0.funs,e0.frf⟩,
   rfl,e0.bare,Un.kept hk,⟨_,x.toInCall.ns,λi y v h1 h2 h3=>?_⟩,λy c h=>⟨_,x.cell y c h⟩,e0.hok.fresh (tq _),λy c h=>?_,λp hp=>absurd (show p∈([]:List (Addr×Obj)) from hp) (by simp),e0.hok.kept hk,?_⟩
 . exact name_of_addr x.apart (PySem.mem_of_lookup h1) (PySem.mem_of_lookup h2)
 . have hy:scope.names.lookup y=some .cell\/scope.names.lookup y=some .free:=hy
   rcases hy with hy | hy
   . exact UF hy
   . exact absurd rfl (S.nofree _ (PySem.mem_of_lookup hy))
 . exact zam (x.above y c (PySem.mem_of_lookup h))
 . have hi:i < vs.length:=by
     unfold ZD at h2
     by_cases hi:i < vs.length
     . exact hi
     . rw[zar (by simpa using hi)]at h2
       rw[List.getElem?_replicate]at h2
       split at h2<;>cases h2
   have ha:vs[i]?=some v:=by
     unfold ZD at h2
     rw[zaG (by simpa using hi),tN]at h2
     cases e:vs[i]? with
     | none=>rw[e]at h2;cases h2
     | some a=>rw[e]at h2;cases h2;rfl
   obtain⟨u,hu,rv⟩:=r.get ha
   have hp:ps[i]?=some y:=by
     rw[<-S.pre,zcc (by omega)];exact h1
   have ndP:ps.Nodup:=by rw[<-S.pre];exact S.nd.sublist (zcY _ _)
   refine⟨u,rv,?_⟩
   rcases S.par y (t7 hp) with k | k
   . exact .inl ⟨k,WI ndP hp hu k⟩
   . obtain⟨c,e⟩:=UF (n:=s.heap.objs.size+1) k
     refine .inr ⟨.inl k,c,e,?_⟩
     have q:=x.cell y c e
     rw[WK ndP hp hu (by show scope.names.lookup y≠_;rw[k];decide)]at q
     exact q
 . exact e0.hok.fresh (zam (x.above y c (PySem.mem_of_lookup h)))
 . unfold ZD
   show _=N.length
   rw[tI,tj,zds]
   omega
theorem NC {CX:WP} {P:Program} {w:World} {K:PySem.W.Frag} {mg:Str->Option Value} {base:Heap} {k:Nat} {f:Addr} {name qual:Str} {params:Arguments} {body:List Stmt} {scope:Scope} {dV kV doc pm cdv ct oc:Value} {an od:Option Addr}
   {osl:Array (Option Value)} {N ps:List Str} {sp:Sp} (lk:K.lookup f=some ⟨oc,od,.func (zby name qual params body scope dV kV doc pm an cdv ct),osl⟩) (hcd:zbV K cdv qual=true) (S:qr N ps scope)
   (len:∀vs H Q E,sp vs H Q E->vs.length=ps.length)
   (hbody:∀(A:Around) (outer:List Env) (s:Shared) (H:Hp) (vs:List V) (Q:VK) (E:XK),qR k (A.deeper (envOfC qual scope s.heap.objs.size f cdv))->sp vs H Q E->
     ∃t,KE (Qw CX P w K mg base N qual scope f cdv A outer s H E) body t/\t {nx:=λ_ H'=>Q .non H',rt:=Q} (ZD N vs) H):
   qo P w K mg base CX (k+1) f (zby name qual params body scope dV kV doc pm an cdv ct) ps sp:=by
 refine⟨len,λA outer s H args us vs Q E hr e0 hb r hsp=>?_⟩
 have hl:=len _ _ _ _ hsp
 have KX:K.In s.heap:=e0.mod.kin.keeps λb o e=>(e0.bs b o e).1
 have lim:s.heap.NoLimit:=e0.mod.nolimit.keeps λb o e=>(e0.bs b o e).1
 have hkind:∀y∈ps.zip us,scope.names.lookup y.1=some .local\/(scope.names.lookup y.1=some .cell/\((cellsFrom (s.heap.objs.size+1) scope.names []).lookup y.1).isSome=true):=λ⟨n,v⟩ hy=>by
   rcases S.par n (zdp hy).1 with q | q
   . exact .inl q
   . exact .inr ⟨q,zdk _ _ _ (.inl q)⟩
 refine codeAny_call_function hr.depth (KX _ _ lk) rfl S.co S.gen rfl (PySem.W.codeRec_of KX hcd) (hb _ _ _ _ ?_)
 refine wpAny_newFunctionEnv_cells S.kind hkind λenv he s1 x=>?_
 subst he
 refine⟨lim.keeps x.toInCall.keep,codeAny_func ?_⟩
 obtain⟨t,ht,hq⟩:=hbody A outer s H vs Q E (hr.deeper _) hsp
 have I:qz (Qw CX P w K mg base N qual scope f cdv A outer s H E) [] (ZD N vs) H s1:=xw S hr.hd e0 hl r x
 refine wpAny_mono (ht [] s1 (ZD N vs) H _ I hq) (λfl s' hs=>?_) λe s' hs=>hs
 have fin:∀{σ':St} {H':Hp} {v:V} {u:Value},qz (Qw CX P w K mg base N qual scope f cdv A outer s H E) [] σ' H' s'->qP v u->Q v H'->CE outer P w H s Q u s':=
   λ{σ' H' v u} J rv q=>⟨v,H',J.os,J.bare,J.base,J.hok,rv,q⟩
 cases fl with
 | ret u=>
   obtain⟨v,σ',H',J,rv,q⟩:=hs
   exact fin J rv q
 | next=>
   obtain⟨σ',H',J,q⟩:=hs
   exact fin (v:=V.non) (u:=Value.none) J rfl q
 | brk=>
   obtain⟨_,_,_,q⟩:=hs
   exact False.elim q
 | cont=>
   obtain⟨_,_,_,q⟩:=hs
   exact False.elim q
section
variable {X:Cx} {x:Str} {p pos:Pos} {e:Expr} {es:List Expr} {t:TA} {id T:String} {r:List V->Hp->VK->Prop}
def tCB (r:List V->Hp->VK->Prop) (t:TA):TE:=λσ H Q=>t σ H λvs H1=>r vs H1 Q
theorem qB (hc:QQ X (.builtin id) r) (hg:Gl X x) (hm:X.mg x=none) (hv:bootBuiltins x=some (.builtin id)) (ha:JA X (e::es) t) (hn:x≠"__name__":=by decide) (hdb:(x==("__debug__":Str))=false:=by decide) (he:starEach (e::es) X.env=(false,eval e X.env)::starEach es X.env:=by rfl) (hpl:(backTo pos (starEach es X.env)).any (·.1)=false:=by rfl):JE X (.Call (.Name x p) (e::es) [] pos) (tCB r t):=.of (by
 have ha:=ha.to
 intro pins s σ H Q I h
 refine wpAny_Call_Name_kw (Jk I hg hm hv ?_ hn hdb)
 exact PyProof.Rows.callWith_builtin1 (ja (ha pos pins s σ H _ I h) λus s1 ⟨vs,H1,I1,r1,q1⟩=>hc pins s1 σ H1 vs us Q I1 r1 q1) he hpl)
theorem jr (hc:QQ X (.type T) r) (hg:Gl X x) (hm:X.mg x=none) (hv:bootBuiltins x=some (.type T)) (ha:JA X (e::es) t) (hn:x≠"__name__":=by decide) (hdb:(x==("__debug__":Str))=false:=by decide) (he:starEach (e::es) X.env=(false,eval e X.env)::starEach es X.env:=by rfl) (hpl:(backTo pos (starEach es X.env)).any (·.1)=false:=by rfl):JE X (.Call (.Name x p) (e::es) [] pos) (tCB r t):=.of (by
 have ha:=ha.to
 intro pins s σ H Q I h
 refine wpAny_Call_Name_kw (Jk I hg hm hv ?_ hn hdb)
 exact PyProof.Rows.callWith_type1 (ja (ha pos pins s σ H _ I h) λus s1 ⟨vs,H1,I1,r1,q1⟩=>hc pins s1 σ H1 vs us Q I1 r1 q1) he hpl)
end
end L2
namespace HT
open PySem PyProof.Rows
section
open PySem.SeqAt
open PySem.AutoSeq1 (wpAny_loadPart')
open PySem.MeetsSeq PySem.MeetsSeq2 PySem.MeetsSeq3
end
section
variable {prog:Program} {w:World} {A:Around} {E:Value->Shared->Prop} {s:Shared}
def sIx (n d:Nat):Option Int->Nat
 | none=>d
 | some v=>if v < 0 then (v+(n:Int)).toNat else min v.toNat n
theorem sIx_none (n d:Nat):sIx n d none=d:=rfl
theorem sIx_nat (n d k:Nat):sIx n d (some (k:Int))=min k n:=by
 show (if (k:Int) < 0 then ((k:Int)+(n:Int)).toNat else min (k:Int).toNat n)=min k n
 rw[if_neg (by omega),zaJ]
end
end HT
namespace L2
open PySem PySem.Spec PyProof.Rows
abbrev TO:=St->Hp->(Option Int->Hp->Prop)->Prop
def PO (X:Cx) (e:Option Expr) (t:TO):Prop:=
 ∀(pins:List (Addr×Obj)) (s:Shared) (σ:St) (H:Hp) (Q:Option Int->Hp->Prop),qz X pins σ H s->t σ H Q->
   wpAny (model X.prog X.w) X.A (evalPart e X.env) (λu s'=>∃o H',qz X pins σ H' s'/\IsPart u o/\Q o H') X.xe s
@[irreducible] def JO (X:Cx) (e:Option Expr) (t:TO):Prop:=PO X e t
theorem JO.of {X:Cx} {e:Option Expr} {t:TO} (h:PO X e t):JO X e t:=by unfold JO;exact h
theorem JO.to {X:Cx} {e:Option Expr} {t:TO} (h:JO X e t):PO X e t:=by unfold JO at h;exact h
def vR:TO:=λ_ H Q=>Q none H
def Ni (t:TE):TO:=λσ H Q=>t σ H λx H1=>∃i,x=.int i/\Q (some i) H1
theorem vn {ns:List Int}:∀{us:List Value},qE (ns.map V.int) us->IntsAre us ns:=by
 induction ns with
 | nil=>intro us r;rw[zbY]at r;cases r;exact .nil
 | cons n ns ih=>
   intro us r
   rw[tQ]at r
   cases r with
   | cons r1 r2=>
     obtain⟨t,e⟩:=r1
     subst e
     exact .cons n t (ih r2)
section
variable {X:Cx} {e:Expr} {te:TE} {lo hi:Option Expr} {tl th:TO} {pos p2:Pos}
theorem j3:JO X none vR:=.of (by
 intro pins s σ H Q I h
 rw[evalPart_none]
 exact wpAny_pure ⟨none,H,I,.none,h⟩)
theorem j2 (h:JE X e te):JO X (some e) (Ni te):=.of (by
 have h:=h.to
 intro pins s σ H Q I hw
 rw[evalPart_some]
 refine ja (h pins s σ H _ I hw) λu s1 ⟨x,H1,I1,r1,q1⟩=>?_
 obtain⟨i,rfl,q⟩:=q1
 obtain⟨t,rfl⟩:=r1
 exact⟨some i,H1,I1,.int i t,q⟩)
def SlR (X:Cx) (r:V->Option Int->Option Int->Hp->VK->Prop):Prop:=
 ∀(pins:List (Addr×Obj)) (s:Shared) (σ:St) (H:Hp) (x:V) (v vl vu:Value) (lo hi:Option Int) (sl:Addr) (Q:VK),qz X pins σ H s->qP x v->s.heap.IsSliceOf sl vl vu .none->IsPart vl lo->IsPart vu hi->r x lo hi H Q->
   ∃T id,typeLookup (.type T) "__getitem__"=pure (some (.builtin id))/\s.TypeIs v T/\wpAny (model X.prog X.w) X.A (getItem v (.ref sl)) (EP X pins σ Q) X.xe s
def tSl (r:V->Option Int->Option Int->Hp->VK->Prop) (te:TE) (tl th:TO):TE:=λσ H Q=>te σ H λx H1=>tl σ H1 λl H2=>th σ H2 λu H3=>r x l u H3 Q
theorem jA {r:V->Option Int->Option Int->Hp->VK->Prop} (hr:SlR X r) (he:JE X e te) (hl:JO X lo tl) (hu:JO X hi th):JE X (.Subscript e (.Slice lo hi none p2) pos) (tSl r te tl th):=.of (by
 have he:=he.to
 have hl:=hl.to
 have hu:=hu.to
 intro pins s σ H Q I h
 refine Subscript_ (ja (he pins s σ H _ I h) λv s1 ⟨x,H1,I1,r1,q1⟩=>?_)
 refine wpAny_Slice (ja (hl pins s1 σ H1 _ I1 q1) λvl s2 ⟨l,H2,I2,pl,q2⟩=>ja (hu pins s2 σ H2 _ I2 q2) λvu s3 ⟨u,H3,I3,pu,q3⟩=>?_)
 rw[evalPart_none]
 refine wpAny_pure ?_
 have I4:qz X pins σ H3 {s3 with heap:=s3.heap.push {cls:=.type "slice",data:=.fields #[vl,vu,.none]}}:=I3.kept (t':=s3.toks) λb ob q=>tz _ q
 obtain⟨T,id,hT,ht,hg⟩:=hr pins {s3 with heap:=s3.heap.push {cls:=.type "slice",data:=.fields #[vl,vu,.none]}} σ H3 x v vl vu l u s3.heap.objs.size Q I4 r1 (Heap.IsSliceOf.new ..) pl pu q3
 show wpAny (model X.prog X.w) X.A (subscriptTail e (.Slice lo hi none p2) v (.ref s3.heap.objs.size)) (EP X pins σ Q) X.xe {s3 with heap:=s3.heap.push {cls:=.type "slice",data:=.fields #[vl,vu,.none]}}
 exact tail_any (ops:=[.ref s3.heap.objs.size,v]) ht hT hg (by with_unfolding_all rfl))
def Zz (xs:List V) (lo hi:Option Int):List V:=(xs.drop (HT.sIx xs.length 0 lo)).take (HT.sIx xs.length xs.length hi - HT.sIx xs.length 0 lo)
theorem UD (xs:List V) (lo hi:Option Int):(Zz xs lo hi).length<=xs.length:=by
 unfold Zz
 rw[tU,zdf]
 omega
end
def RH (n:Nat) (i:Int):Option Nat:=if 0<=i then (if i < n then some i.toNat else none) else if -(n:Int)<=i then some (i+n).toNat else none
def UM {α:Type} (xs:List α) (i:Int):Option α:=(RH xs.length i).bind λj=>xs[j]?
theorem ya {n:Nat} {i:Int} {j:Nat} (h:RH n i=some j):seqIndex? i n=some j/\j < n/\-(n:Int)<=i/\i < n:=by
 unfold RH at h
 by_cases h0:0<=i
 . rw[if_pos h0]at h
   by_cases h1:i < n
   . rw[if_pos h1]at h
     have e:i.toNat=j:=tL.inj h
     exact⟨by rw[seqIndex_of h0 h1,e],by omega,by omega,h1⟩
   . rw[if_neg h1]at h;cases h
 . rw[if_neg h0]at h
   by_cases h1:-(n:Int)<=i
   . rw[if_pos h1]at h
     have e:(i+n).toNat=j:=tL.inj h
     exact⟨by rw[seqIndex_neg (by omega) h1,e],by omega,h1,by omega⟩
   . rw[if_neg h1]at h;cases h
theorem atI_get {α:Type} {xs:List α} {i:Int} {v:α} (h:UM xs i=some v):∃j,seqIndex? i xs.length=some j/\xs[j]?=some v/\j < xs.length/\-(xs.length:Int)<=i/\i < xs.length:=by
 unfold UM at h
 cases e:RH xs.length i with
 | none=>rw[e]at h;cases h
 | some j=>
   rw[e]at h
   obtain⟨h1,h2,h3,h4⟩:=ya e
   exact⟨j,h1,h,h2,h3,h4⟩
theorem Zx {α:Type} {xs:List α} {j:Nat} {v:α} (h:xs[j]?=some v):UM xs (j:Int)=some v:=by
 have hj:j < xs.length:=(tw.mp h).1
 have e:RH xs.length (j:Int)=some j:=by
   unfold RH
   rw[if_pos (by omega),if_pos (by omega)];simp
 unfold UM;rw[e];exact h
def Na (b:Expr):Prop:=∀o i,subscripted b false o i=operate [o,i] (getItem o i)
def IxR (X:Cx) (r:R2):Prop:=
 ∀(value slice:Expr) (pins:List (Addr×Obj)) (s:Shared) (σ:St) (H:Hp) (x y:V) (v u:Value) (Q:VK),qz X pins σ H s->qP x v->qP y u->r x y H Q->
   subscripted slice false v u=operate [v,u] (getItem v u)->wpAny (model X.prog X.w) X.A (subscriptTail value slice v u) (EP X pins σ Q) X.xe s
def MtR (X:Cx) (id:String) (r:V->List V->Hp->VK->Prop):Prop:=
 ∀(pins:List (Addr×Obj)) (s:Shared) (σ:St) (H:Hp) (x:V) (xs:List V) (v:Value) (us:List Value) (Q:VK),qz X pins σ H s->qP x v->qE xs us->r x xs H Q->
   wpAny (model X.prog X.w) X.A (call (.builtin id) (v::us)) (EP X pins σ Q) X.xe s
section
variable {X:Cx} {a b:Expr} {ta tb:TE} {pos:Pos}
theorem qX {r:R2} (hr:IxR X r) (ha:JE X a ta) (hb:JE X b tb) (hs:Na b):JE X (.Subscript a b pos) (zm r ta tb):=.of (by
 have ha:=ha.to
 have hb:=hb.to
 intro pins s σ H Q I h
 exact Subscript_ (MQ ha hb I h λv u s2 x y H2 I2 rx ry q=>hr a b pins s2 σ H2 x y v u Q I2 rx ry q (hs _ _)))
def yU (K:PySem.W.Frag):R2:=λx y H Q=>∃p xs i v,x=.ref p/\y=.int i/\SqL K H p xs/\UM xs i=some v/\Q v H
def Ud (K:PySem.W.Frag):R2:=λx y H Q=>∃p xs i v,x=.ref p/\y=.int i/\SqT K H p xs/\UM xs i=some v/\Q v H
def qbQ:R2:=λx y H Q=>∃z i c,x=.str z/\y=.int i/\z.length<=sizeLine/\UM z.cps.toList i=some c/\Q (.str ⟨#[c]⟩) H
theorem jI:IxR X (yU X.K):=by
 intro value slice pins s σ H x y v u Q I rx ry h hs
 obtain⟨p,xs,i,z,rfl,rfl,hq,he,q⟩:=h
 cases rx
 obtain⟨t,rfl⟩:=ry
 obtain⟨its,r,pl,hz⟩:=I.list hq
 obtain⟨j,h1,h2,h3,h4,h5⟩:=atI_get he
 obtain⟨w,ew,rw'⟩:=r.get h2
 have hl:=r.length
 have hn:=zy
 have fin:EP X pins σ Q w s:=⟨z,H,I,rw',q⟩
 by_cases h0:0<=i
 . have hj:i.toNat=j:=by
     rw[seqIndex_of h0 h5]at h1
     exact tL.inj h1
   exact item_listR pl.isList h0 (by omega) (by rw[hj];simpa using ew) fin hs
 . have hj:(i+(its.toArray.size:Int)).toNat=j:=by
     rw[seqIndex_neg (by omega) h4]at h1
     rw[t8,<-hl]
     exact tL.inj h1
   exact subscriptTail_builtinR (x:=w) pl.isList.typeIs slot_list_getitem.lookup
     (wpAny_getItem_list_neg (Q:=λr s'=>r=w/\EP X pins σ Q r s') pl.isList (by omega) (by rw[t8]<;>omega) (by omega) (by rw[hj];simpa using ew) ⟨rfl,fin⟩) hs
theorem jF:IxR X (Ud X.K):=by
 intro value slice pins s σ H x y v u Q I rx ry h hs
 obtain⟨p,xs,i,z,rfl,rfl,hq,he,q⟩:=h
 cases rx
 obtain⟨t,rfl⟩:=ry
 obtain⟨its,r,pl,hz⟩:=I.tuple hq
 obtain⟨j,h1,h2,h3,h4,h5⟩:=atI_get he
 obtain⟨w,ew,rw'⟩:=r.get h2
 have hl:=r.length
 have hn:=zy
 have fin:EP X pins σ Q w s:=⟨z,H,I,rw',q⟩
 exact subscriptTail_builtinR (x:=w) pl.typeIs slot_tuple_getitem.lookup
   (getItem_tuple (j:=j) (Q:=λr s'=>r=w/\EP X pins σ Q r s') pl (by omega) (by omega) (by rw[t8,<-hl];exact h1) (by simpa using ew) ⟨rfl,fin⟩) hs
theorem u7:IxR X qbQ:=by
 intro value slice pins s σ H x y v u Q I rx ry h hs
 obtain⟨z,i,c,rfl,rfl,hz,he,q⟩:=h
 obtain⟨t,rfl⟩:=rx
 obtain⟨t',rfl⟩:=ry
 obtain⟨j,h1,h2,h3,h4,h5⟩:=atI_get he
 have hl:z.cps.toList.length=z.length:=by simp [Str.length]
 rw[hl]at h1 h4 h5
 have hn:=zy
 exact tail_any (typeIs_str s z t) slot_str_getitem.lookup (getItem_str (c:=c) (by
   have e1:decide (i < -(2^63:Int))=false:=decide_eq_false (by omega)
   have e2:decide (i ≥ 2^63)=false:=decide_eq_false (by omega)
   rw[e1,e2,zdE]) (by rw[h1];simpa using h2) ⟨.str ⟨#[c]⟩,H,I.tok _,⟨_,rfl⟩,q⟩) hs
theorem ve (its:List Value) (n j:Nat) (u:Value):Obj.mapSeq (·.setIfInBounds j u) {cls:=.type "list",data:=.seq its.toArray n}={cls:=.type "list",data:=.seq (its.set j u).toArray n}:=by
 simp [Obj.mapSeq]
theorem qz.lst {pins:List (Addr×Obj)} {σ:St} {H:Hp} {s:Shared} {p:Addr} {xs:List V} (I:qz X pins σ H s) (h:H p=some (.lst xs)):
   ∃(its:List Value) (n:Nat),qE xs its/\s.heap.get? p=some {cls:=.type "list",data:=.seq its.toArray n}/\xs.length<=sizeLine:=by
 obtain⟨z,its,n,r,e⟩:=I.hok p _ h
 exact⟨its,n,r,e,z⟩
theorem qz.lstUpd {pins:List (Addr×Obj)} {σ:St} {H:Hp} {s:Shared} {p:Addr} {xs ys:List V} {its its':List Value} {n n':Nat} {f:Obj->Obj} (I:qz X pins σ H s) (h:H p=some (.lst xs))
   (ho:s.heap.get? p=some {cls:=.type "list",data:=.seq its.toArray n}) (hf:f {cls:=.type "list",data:=.seq its.toArray n}={cls:=.type "list",data:=.seq its'.toArray n'}) (r:qE ys its') (hz:ys.length<=sizeLine) (t:Nat):
   qz X pins σ (upd H p (.lst ys)) {s with heap:=s.heap.update p f,toks:=t}:=by
 have e:(s.heap.update p f).get? p=some {cls:=.type "list",data:=.seq its'.toArray n'}:=by
   rw[zaD f ho (by rw[hf]<;>rfl),hf]
 refine I.write (x:=p) (e:=p) (by rw[h];trivial) (.inl rfl) (λb u hb q=>(zai _ _ (Ne.symm hb)).trans q) ⟨_,e⟩ ?_
 exact⟨hz,its',n',r,e⟩
def qaC:V->V->V->Hp->(Hp->Prop)->Prop:=λo i v H Q=>∃p xs k j,o=.ref p/\i=.int k/\H p=some (.lst xs)/\RH xs.length k=some j/\Q (upd H p (.lst (xs.set j v)))
theorem wC:MV X qaC:=by
 intro pins s σ H o i v ov iv u Q I ro ri rv h
 obtain⟨p,xs,k,j,rfl,rfl,hp,hj,q⟩:=h
 cases ro
 obtain⟨t,rfl⟩:=ri
 obtain⟨its,n,r,ho,hz⟩:=I.lst hp
 obtain⟨h1,h2,h3,h4⟩:=ya hj
 have hl:=r.length
 have hn:=zy
 have I':qz X pins σ (upd H p (.lst (xs.set j v))) {s with heap:=s.heap.update p (Obj.mapSeq (·.setIfInBounds j u))}:=
   I.lstUpd hp ho (ve its n j u) (r.set rv j) (by rw[List.length_set];exact hz) s.toks
 by_cases h0:0<=k
 . have hk:k.toNat=j:=by
     rw[seqIndex_of h0 h4]at h1
     exact tL.inj h1
   exact PySem.W.ki_setAt ho h0 (by omega) (by rw[t8,<-hl];exact h4) (by rw[hk];exact⟨_,I',q⟩)
 . have hk:(k+(its.toArray.size:Int)).toNat=j:=by
     rw[seqIndex_neg (by omega) h3]at h1
     rw[t8,<-hl]
     exact tL.inj h1
   exact PySem.W.ki_setBack ho (by omega) (by rw[t8,<-hl];exact h3) (by omega) (by rw[hk];exact⟨_,I',q⟩)
theorem W8 (lo hi:Option Int) (n:Nat):(sliceBounds lo hi none n).1=((HT.sIx n 0 lo:Nat):Int)/\(sliceBounds lo hi none n).2.1=((HT.sIx n n hi:Nat):Int)/\(sliceBounds lo hi none n).2.2=1:=by
 refine⟨?_,?_,rfl⟩
 . cases lo with
   | none=>simp [sliceBounds,HT.sIx]
   | some i=>
     simp only[sliceBounds,HT.sIx,zdP,show (1:Int) > 0 by decide,if_true]
     by_cases h:i < 0
     . simp only[h,if_true]<;>omega
     . simp only[h,if_false]<;>omega
 . cases hi with
   | none=>simp [sliceBounds,HT.sIx]
   | some i=>
     simp only[sliceBounds,HT.sIx,zdP,show (1:Int) > 0 by decide,if_true]
     by_cases h:i < 0
     . simp only[h,if_true]<;>omega
     . simp only[h,if_false]<;>omega
theorem XR (its:List Value) (lo hi:Option Int):slicePick its.toArray lo hi none=((its.drop (HT.sIx its.length 0 lo)).take (HT.sIx its.length its.length hi - HT.sIx its.length 0 lo)).toArray:=by
 obtain⟨h1,h2,h3⟩:=W8 lo hi its.toArray.size
 unfold slicePick
 rw[h1,h2,h3]
 simp only[sliceRange_one,pick_run,t8]<;>rfl
def qaB (K:PySem.W.Frag):V->Option Int->Option Int->Hp->VK->Prop:=λx lo hi H Q=>∃a xs,x=.ref a/\SqL K H a xs/\∀p,H p=none->Q (.ref p) (upd H p (.lst (Zz xs lo hi)))
theorem Qg:SlR X (qaB X.K):=by
 intro pins s σ H x v vl vu lo hi sl Q I rx hs pl pu h
 obtain⟨a,xs,rfl,hx,q⟩:=h
 cases rx
 obtain⟨its,r,ht,hz⟩:=I.list hx
 have hlen:=r.length
 refine⟨"list",_,slot_list_getitem.lookup,ht.isList.typeIs,?_⟩
 refine wpAny_getItem_list_slice ht.isList hs pl pu .none (by simp) ?_ (by rw[t8]<;>omega)
 rw[XR,<-hlen]
 refine⟨.ref s.heap.objs.size,_,I.laid (t':=s.toks) (o:=.lst (Zz xs lo hi)) (λb ob q=>tz _ q) (tq _) ?_,rfl,q _ (I.hok.fresh (tq _))⟩
 exact⟨zaa (UD xs lo hi) hz,_,0,(r.drop (HT.sIx xs.length 0 lo)).take (HT.sIx xs.length xs.length hi - HT.sIx xs.length 0 lo),tZ _ rfl⟩
def J5:V->Bool
 | .non=>true
 | .bl _=>true
 | .int _=>true
 | .str _=>true
 | _=>false
def yg:V->V->Bool
 | .non,.non=>true
 | .bl a,.bl b=>a==b
 | .bl a,.int b=>(if a then 1 else 0)==b
 | .int a,.bl b=>a==(if b then 1 else 0)
 | .int a,.int b=>a==b
 | .str a,.str b=>a==b
 | _,_=>false
theorem MM {A:Around} {s:Shared} {y x:V} {u v:Value} (ry:qP y u) (rx:qP x v) (fy:J5 y=true) (fx:J5 x=true):SeqAt.EqAt A s u v (yg y x):=by
 cases y with
 | non=>
   cases ry
   cases x with
   | non=>cases rx;exact SeqAt.EqAt.same _
   | bl b=>cases rx;exact SeqAt.EqAt.none_bool b
   | int b=>obtain⟨t,rfl⟩:=rx;exact SeqAt.EqAt.none_int b t
   | str b=>obtain⟨t,rfl⟩:=rx;exact SeqAt.EqAt.none_str b t
   | _=>exact absurd (show false=true from fx) tK
 | bl a=>
   cases ry
   cases x with
   | non=>cases rx;exact SeqAt.EqAt.bool_none a
   | bl b=>cases rx;exact SeqAt.EqAt.bool_bool a b
   | int b=>obtain⟨t,rfl⟩:=rx;exact SeqAt.EqAt.bool_int a b t
   | str b=>obtain⟨t,rfl⟩:=rx;exact SeqAt.EqAt.bool_str a b t
   | _=>exact absurd (show false=true from fx) tK
 | int a=>
   obtain⟨t',rfl⟩:=ry
   cases x with
   | non=>cases rx;exact SeqAt.EqAt.int_none a t'
   | bl b=>cases rx;exact SeqAt.EqAt.int_bool a t' b
   | int b=>obtain⟨t,rfl⟩:=rx;exact SeqAt.EqAt.int_int a t' b t
   | str b=>obtain⟨t,rfl⟩:=rx;exact SeqAt.EqAt.int_str a t' b t
   | _=>exact absurd (show false=true from fx) tK
 | str a=>
   obtain⟨t',rfl⟩:=ry
   cases x with
   | non=>cases rx;exact SeqAt.EqAt.str_none a t'
   | bl b=>cases rx;exact SeqAt.EqAt.str_bool a t' b
   | int b=>obtain⟨t,rfl⟩:=rx;exact SeqAt.EqAt.str_int a t' b t
   | str b=>obtain⟨t,rfl⟩:=rx;exact SeqAt.EqAt.str_str a t' b t
   | _=>exact absurd (show false=true from fx) tK
 | _=>exact absurd (show false=true from fy) tK
def vy (x:V) (u:Value):Bool:=match u with
 | .none=>yg .non x
 | .bool b=>yg (.bl b) x
 | .int i _=>yg (.int i) x
 | .str z _=>yg (.str z) x
 | _=>false
theorem Km {x y:V} {u:Value} (r:qP y u) (f:J5 y=true):vy x u=yg y x:=by
 cases y with
 | non=>cases r;rfl
 | bl b=>cases r;rfl
 | int i=>obtain⟨t,rfl⟩:=r;rfl
 | str z=>obtain⟨t,rfl⟩:=r;rfl
 | _=>exact absurd (show false=true from f) tK
theorem zi {x:V}:∀{xs:List V} {us:List Value},qE xs us->xs.all J5=true->us.any (vy x)=xs.any λy=>yg y x
 | _,_,.nil,_=>rfl
 | y::xs,u::us,.cons r t,f=>by
   rw[zde,zas]at f
   rw[zcx,zcx,Km r f.1,zi t f.2]
theorem Zg {A:Around} {s:Shared} {x:V} {v:Value} (rx:qP x v) (fx:J5 x=true):∀{xs:List V} {us:List Value},qE xs us->xs.all J5=true->∀u∈us,SeqAt.EqAt A s u v (vy x u)
 | _,_,.nil,_=>λu hu=>by cases hu
 | y::xs,u::us,.cons r t,f=>λu' hu=>by
   rw[zde,zas]at f
   rcases tV.mp hu with rfl | hu
   . rw[Km r f.1];exact MM r rx f.1 fx
   . exact Zg rx fx t f.2 u' hu
def Jx (x:V) (xs:List V):Bool:=xs.any λy=>yg y x
def N2 (K:PySem.W.Frag) (neg:Bool):R2:=λx y H Q=>∃p xs,y=.ref p/\(SqL K H p xs\/SqT K H p xs)/\J5 x=true/\xs.all J5=true/\Q (.bl (if neg then !Jx x xs else Jx x xs)) H
theorem QY:J7 X (compareOp .In) (N2 X.K false):=by
 intro pins s σ H x y v u Q I rx ry h
 obtain⟨p,xs,rfl,hq,fx,fs,q⟩:=h
 cases ry
 rcases hq with hq | hq
 . obtain⟨its,r,pl,hz⟩:=I.list hq
   refine SeqAt.in_listAt (vy x) pl.isList (λw hw=>Zg rx fx r fs w (by simpa using hw)) ⟨.bl _,H,I,rfl,?_⟩
   rw[show its.toArray.any (vy x)=its.any (vy x) by simp,zi r fs]
   exact q
 . obtain⟨its,r,pl,hz⟩:=I.tuple hq
   refine SeqAt.in_tupleAt (vy x) pl (λw hw=>Zg rx fx r fs w (by simpa using hw)) ⟨.bl _,H,I,rfl,?_⟩
   rw[show its.toArray.any (vy x)=its.any (vy x) by simp,zi r fs]
   exact q
theorem QU:J7 X (compareOp .NotIn) (N2 X.K true):=by
 intro pins s σ H x y v u Q I rx ry h
 obtain⟨p,xs,rfl,hq,fx,fs,q⟩:=h
 cases ry
 rcases hq with hq | hq
 . obtain⟨its,r,pl,hz⟩:=I.list hq
   refine SeqAt.notIn_listAt (vy x) pl.isList (λw hw=>Zg rx fx r fs w (by simpa using hw)) ⟨.bl _,H,I,rfl,?_⟩
   rw[show its.toArray.any (vy x)=its.any (vy x) by simp,zi r fs]
   exact q
 . obtain⟨its,r,pl,hz⟩:=I.tuple hq
   refine SeqAt.notIn_tupleAt (vy x) pl (λw hw=>Zg rx fx r fs w (by simpa using hw)) ⟨.bl _,H,I,rfl,?_⟩
   rw[show its.toArray.any (vy x)=its.any (vy x) by simp,zi r fs]
   exact q
theorem qF:QQ X (.builtin "len") (λxs H Q=>∃p ys,xs=[.ref p]/\(SqL X.K H p ys\/SqT X.K H p ys)/\Q (.int ys.length) H):=by
 intro pins s σ H xs us Q I r h
 obtain⟨p,ys,rfl,hq,q⟩:=h
 obtain⟨u,rfl,rx⟩:=Jl r
 cases rx
 have hn:=zy
 rcases hq with hq | hq
 . obtain⟨its,r',pl,hz⟩:=I.list hq
   have hlen:=r'.length
   exact Calls.call_len_list pl.isList (by simp only[t8]<;>omega) ⟨.int ys.length,H,I.tok _,⟨s.toks+1,by rw[t8,hlen]⟩,q⟩
 . obtain⟨its,r',pl,hz⟩:=I.tuple hq
   have hlen:=r'.length
   exact len_tuple pl (by simp only[t8]<;>omega) ⟨.int ys.length,H,I.tok _,⟨s.toks+1,by rw[t8,hlen]⟩,q⟩
theorem J1:QQ X (.builtin "len") (λxs H Q=>∃z,xs=[.str z]/\z.length<=sizeLine/\Q (.int z.length) H):=by
 intro pins s σ H xs us Q I r h
 obtain⟨z,rfl,hz,q⟩:=h
 obtain⟨u,rfl,t,rfl⟩:=Jl r
 have hn:=zy
 exact len_str (by omega) ⟨.int z.length,H,I.tok _,⟨_,rfl⟩,q⟩
theorem Qx:QQ X (.type "list") (λxs H Q=>∃p ys,xs=[.ref p]/\(SqL X.K H p ys\/SqT X.K H p ys)/\∀l,H l=none->Q (.ref l) (upd H l (.lst ys))):=by
 intro pins s σ H xs us Q I r h
 obtain⟨p,ys,rfl,hq,q⟩:=h
 obtain⟨u,rfl,rx⟩:=Jl r
 cases rx
 have fin:∀(its:List Value),qE ys its->ys.length<=sizeLine->∀(h':Heap) (c':Nat),(∀b o',s.heap.get? b=some o'->h'.get? b=some o')->
     h'.get? s.heap.objs.size=some {cls:=.type "list",dict:=none,data:=.seq its.toArray c',slots:=#[]}->EP X pins σ Q (.ref s.heap.objs.size) {s with heap:=h'}:=λits r' hz h' c' kp e=>
   ⟨.ref s.heap.objs.size,_,I.laid (t':=s.toks) kp (tq _) (show qI X.prog X.w _ h' _ (.lst ys) from⟨hz,its,c',r',e⟩),rfl,q _ (I.hok.fresh (tq _))⟩
 rcases hq with hq | hq
 . obtain⟨its,r',pl,hz⟩:=I.list hq
   have hlen:=r'.length
   obtain⟨o,ho,hc,n,hd⟩:=pl.isList
   exact call_list_seq p (.inl rfl) ho hc hd (λh' c' kp e=>fin its r' hz h' c' kp e) (by simp only[t8]<;>omega)
 . obtain⟨its,r',pl,hz⟩:=I.tuple hq
   have hlen:=r'.length
   obtain⟨o,ho,hc,n,hd⟩:=pl
   exact call_list_seq p (.inr rfl) ho hc hd (λh' c' kp e=>fin its r' hz h' c' kp e) (by simp only[t8]<;>omega)
theorem QH:QQ X (.type "tuple") (λxs H Q=>∃p ys,xs=[.ref p]/\((SqL X.K H p ys/\∀l,H l=none->Q (.ref l) (upd H l (.tup ys)))\/(SqT X.K H p ys/\Q (.ref p) H))):=by
 intro pins s σ H xs us Q I r h
 obtain⟨p,ys,rfl,h⟩:=h
 obtain⟨u,rfl,rx⟩:=Jl r
 cases rx
 rcases h with ⟨hq,q⟩ | ⟨hq,q⟩
 . obtain⟨its,r',pl,hz⟩:=I.list hq
   have hlen:=r'.length
   refine call_tuple_list pl.isList (λh' kp=>?_) (by simp only[t8]<;>omega)
   have I1:qz X pins σ H {s with heap:=h'}:=I.kept (t':=s.toks) kp
   have I2:qz X pins σ (upd H h'.objs.size (.tup ys)) {s with heap:=h'.push {cls:=.type "tuple",data:=.seq its.toArray}}:=
     I1.laid (t':=s.toks) (λb o e=>tz _ e) (tq _) (show qI X.prog X.w _ _ _ (.tup ys) from⟨hz,its,r',IsTup.new _ _⟩)
   exact⟨.ref h'.objs.size,_,I2,rfl,q _ (I1.hok.fresh (tq _))⟩
 . obtain⟨its,r',pl,hz⟩:=I.tuple hq
   exact call_tuple_same pl ⟨.ref p,H,I,rfl,q⟩
def tyV (K:PySem.W.Frag) (T:String) (x:V) (H:Hp):Prop:=match x with
 | .str _=>T="str"
 | .int _=>T="int"
 | .ref p=>(T="list"/\∃xs,SqL K H p xs)\/(T="tuple"/\∃o,K.lookup p=some o/\o.cls=.type "tuple"/\o.dict=none)\/
     (T="dict"/\((∃kvs,H p=some (.dK kvs))\/∃kvs,H p=some (.dT kvs)))\/(T="set"/\∃S n,H p=some (.set S n))
 | _=>False
theorem xW {pins:List (Addr×Obj)} {σ:St} {H:Hp} {s:Shared} {T:String} {x:V} {v:Value} (I:qz X pins σ H s) (r:qP x v) (ty:tyV X.K T x H):
   s.TypeIs v T/\∀a,v=.ref a->∃ob,s.heap.get? a=some ob/\ob.dict=none:=by
 cases x with
 | str z=>
   obtain⟨t,rfl⟩:=r
   cases (show T="str" from ty)
   exact⟨typeIs_str s z t,λ_ e=>nomatch e⟩
 | int i=>
   obtain⟨t,rfl⟩:=r
   cases (show T="int" from ty)
   exact⟨typeIs_int s i t,λ_ e=>nomatch e⟩
 | ref p=>
   cases r
   rcases ty with ⟨rfl,xs,hq⟩ | ⟨rfl,o,hk,hc,hd⟩ | ⟨rfl,hk⟩ | ⟨rfl,S,n,hk⟩
   . obtain⟨its,_,pl,_⟩:=I.list hq
     refine⟨pl.isList.typeIs,λa e=>?_⟩
     cases e
     obtain⟨o,n,e,c,hd,_⟩:=pl
     exact⟨o,e,hd⟩
   . refine⟨⟨o,I.kIn p o hk,hc⟩,λa e=>?_⟩
     cases e
     exact⟨o,I.kIn _ o hk,hd⟩
   . have z:∃o,s.heap.get? p=some o/\o.ExactDict:=by
       rcases hk with ⟨kvs,hk⟩ | ⟨kvs,hk⟩
       . obtain⟨_,_,_,_,o,_,_,e,ex,_⟩:=I.hok p _ hk
         exact⟨o,e,ex⟩
       . obtain⟨_,_,_,_,o,_,_,e,ex,_⟩:=I.hok p _ hk
         exact⟨o,e,ex⟩
     obtain⟨o,e,ex⟩:=z
     refine⟨⟨o,e,ex.1⟩,λa e2=>?_⟩
     cases e2
     exact⟨o,e,ex.2.1⟩
   . obtain⟨o,_,_,_,e,ex,_⟩:=I.hok p _ hk
     refine⟨⟨o,e,ex.1⟩,λa e2=>?_⟩
     cases e2
     exact⟨o,e,ex.2.1⟩
 | _=>exact False.elim ty
def qbC (K:PySem.W.Frag) (T:String) (r:V->List V->Hp->VK->Prop) (to:TE):TE:=λσ H Q=>to σ H λx H1=>tyV K T x H1/\r x [] H1 Q
def tBM (K:PySem.W.Frag) (T:String) (r:V->List V->Hp->VK->Prop) (to:TE) (t:TA):TE:=λσ H Q=>to σ H λx H1=>tyV K T x H1/\t σ H1 λxs H2=>r x xs H2 Q
variable {o e:Expr} {es:List Expr} {to:TE} {t:TA} {name:Str} {apos cpos:Pos} {T id:String} {r:V->List V->Hp->VK->Prop}
theorem vm (pa:PlainAttrs T) (slot:Slot T name id) (hty:typeOf (.builtin id)=pure (.type "method_descriptor")) (hm:MtR X id r) (ho:JE X o to) (hbase:attributeBase o name X.env (eval o X.env)=eval o X.env:=by rfl) (hline:(apos.endLine==cpos.line)=true:=by rfl):JE X (.Call (.Attribute o name apos) [] [] cpos) (qbC X.K T r to):=.of (by
 have ho:=ho.to
 intro pins s σ H Q I h
 refine wpAny_Call_method0_late hbase hline (ja (ho pins s σ H _ I h) λv s1 ⟨x,H1,I1,r1,ty,q1⟩=>?_)
 obtain⟨h1,h2⟩:=xW I1 r1 ty
 exact⟨T,id,pa,slot,hty,h1,h2,Calls.callWith_builtin rfl (PySem.evalArgs_none (hm pins s1 σ H1 x [] v [] Q I1 r1 .nil q1))⟩)
theorem qaK (pa:PlainAttrs T) (slot:Slot T name id) (hty:typeOf (.builtin id)=pure (.type "method_descriptor")) (hm:MtR X id r) (ho:PE X o to) (ha:PA X (e::es) t)
   (hbase:attributeBase o name X.env (eval o X.env)=eval o X.env:=by rfl)
   (hfew:((backTo cpos (starEach (e::es) X.env)).all (λx=> !x.1)&&(backToKw cpos (keywordEach [] X.env)).all (λx=>x.1.isSome)
     &&decide ((e::es).length+([]:List Keyword).length+(if ([]:List Keyword).isEmpty then 0 else 1) < 30))=true:=by rfl)
   (hline:(apos.endLine==cpos.line)=true:=by rfl) (hs:starEach (e::es) X.env=(false,eval e X.env)::starEach es X.env:=by rfl) (hplain:(backTo cpos (starEach es X.env)).any (·.1)=false:=by rfl):
   PE X (.Call (.Attribute o name apos) (e::es) [] cpos) (tBM X.K T r to t):=by
 intro pins s σ H Q I h
 refine wpAny_Call_method_late hbase hfew hline rfl (ja (ho pins s σ H _ I h) λv s1 ⟨x,H1,I1,r1,ty,q1⟩=>?_)
 obtain⟨h1,h2⟩:=xW I1 r1 ty
 refine⟨T,id,pa,slot,hty,h1,h2,?_⟩
 have hA:=ha cpos pins s1 σ H1 _ I1 q1
 rw[hs]at hA ⊢
 refine Calls.callWith_builtin (by show (false || (backTo cpos (starEach es X.env)).any (·.1))=false;rw[hplain]<;>rfl) (Calls.evalArgs_plain ?_)
 exact ja hA λus s2 ⟨vs,H2,I2,r2,q2⟩=>hm pins s2 σ H2 x vs v us Q I2 r1 r2 q2
theorem Xs (pa:PlainAttrs T) (slot:Slot T name id) (hty:typeOf (.builtin id)=pure (.type "method_descriptor")) (hm:MtR X id r) (ho:JE X o to) (ha:JA X (e::es) t) (hbase:attributeBase o name X.env (eval o X.env)=eval o X.env:=by rfl) (hfew:((backTo cpos (starEach (e::es) X.env)).all (λx=> !x.1)&&(backToKw cpos (keywordEach [] X.env)).all (λx=>x.1.isSome)
     &&decide ((e::es).length+([]:List Keyword).length+(if ([]:List Keyword).isEmpty then 0 else 1) < 30))=true:=by rfl) (hline:(apos.endLine==cpos.line)=true:=by rfl) (hs:starEach (e::es) X.env=(false,eval e X.env)::starEach es X.env:=by rfl) (hplain:(backTo cpos (starEach es X.env)).any (·.1)=false:=by rfl):JE X (.Call (.Attribute o name apos) (e::es) [] cpos) (tBM X.K T r to t):=.of (qaK pa slot hty hm ho.to ha.to hbase hfew hline hs hplain)
end
def MtM (X:Cx) (id:String) (r:V->List V->Hp->VK->Prop):Prop:=
 ∀(pins:List (Addr×Obj)) (s:Shared) (σ:St) (H:Hp) (x:V) (xs:List V) (v:Value) (us:List Value) (Q:VK),qz X pins σ H s->qP x v->qE xs us->r x xs H Q->
   wpAny (model X.prog X.w) X.A (call (.builtin id) (v::us)) (EP X pins σ Q) X.xe s
theorem qE.one:∀{x:V} {us:List Value},qE [x] us->∃u,us=[u]/\qP x u
 | _,_,.cons r .nil=>⟨_,rfl,r⟩
theorem qE.zero:∀{us:List Value},qE [] us->us=[]
 | _,.nil=>rfl
theorem qE.reverse {xs:List V} {us:List Value} (h:qE xs us):qE xs.reverse us.reverse:=by
 induction h with
 | nil=>exact .nil
 | cons r t ih=>rw[zcZ,zcZ];exact qE.append ih (.cons r .nil)
theorem qE.rep {xs:List V} {us:List Value} (h:qE xs us):∀k:Nat,qE (zah k xs).flatten (zah k us).flatten
 | 0=>.nil
 | k+1=>by
   rw[zbH,zbH,zck,zck]
   exact qE.append h (qE.rep h k)
theorem WA (its:List Value):∀(k:Nat) (acc:List Value),
   zdV (λx1 x2=>x1++x2) acc.toArray (zah k its.toArray)=(acc++(zah k its).flatten).toArray
 | 0,acc=>by simp
 | k+1,acc=>by
   have e:acc.toArray++its.toArray=(acc++its).toArray:=by simp
   have e2:(acc++its)++(zah k its).flatten=acc++(zah (k+1) its).flatten:=by
     rw[zbH,zck,zbu]
   rw[<-e2,<-WA its k (acc++its),<-e,zbH,zcf]
section
variable {X:Cx} {pins:List (Addr×Obj)} {σ:St} {H:Hp} {s:Shared} {l b:Addr} {xs ys zs:List V}
theorem qz.lset {its its':List Value} {n:Nat} {f:Array Value->Array Value} {t':Nat} (I:qz X pins σ H s) (hH:H l=some (.lst xs))
   (e:s.heap.get? l=some {cls:=.type "list",data:=.seq its.toArray n}) (hf:f its.toArray=its'.toArray) (hv:qE ys its') (hz:ys.length<=sizeLine):
   qz X pins σ (upd H l (.lst ys)) {s with heap:=s.heap.update l (Obj.mapSeq f),toks:=t'}:=by
 have q:=PySem.IsL.update e f
 rw[hf]at q
 refine I.write (x:=l) (e:=l) (by rw[hH];exact trivial) (.inl rfl) (λb' u hb hu=>(zai s.heap (Obj.mapSeq f) (Ne.symm hb)).trans hu) ⟨_,q⟩ ?_
 exact⟨hz,its',_,hv,q⟩
theorem qz.lnew {its:List Value} {t':Nat} (I:qz X pins σ H s) (hv:qE ys its) (hz:ys.length<=sizeLine):
   qz X pins σ (upd H s.heap.objs.size (.lst ys)) {s with heap:=s.heap.push {cls:=.type "list",data:=.seq its.toArray},toks:=t'}:=
 I.laid (λ_ _ q=>tz _ q) (tq _) ⟨hz,its,0,hv,tZ _ rfl⟩
theorem qz.fresh (I:qz X pins σ H s):H s.heap.objs.size=none:=I.hok.fresh (tq _)
theorem qz.lstM (I:qz X pins σ H s) (hH:H l=some (.lst xs)):xs.length<=sizeLine/\∃(its:List Value) (n:Nat),qE xs its/\xs.length=its.length/\s.heap.get? l=some {cls:=.type "list",data:=.seq its.toArray n}:=by
 obtain⟨z,its,n,r,e⟩:=I.hok l _ hH
 exact⟨z,its,n,r,r.length,e⟩
theorem Up {n:Nat} (h:n<=sizeLine):Builtin.List.listTooLong n=false:=by
 unfold Builtin.List.listTooLong
 exact decide_eq_false (by omega)
end
section
variable {X:Cx}
def GA:V->List V->Hp->VK->Prop:=λx vs H Q=>∃l xs y,x=.ref l/\vs=[y]/\H l=some (.lst xs)/\xs.length < sizeLine/\Q .non (upd H l (.lst (xs++[y])))
theorem Jv:MtM X "list.append" GA:=by
 intro pins s σ H x vs v us Q I rx rv h
 obtain⟨l,xs,y,rfl,rfl,hH,hz,q⟩:=h
 cases rx
 obtain⟨u,rfl,ru⟩:=rv.one
 obtain⟨z,its,n,r,hl,e⟩:=I.lstM hH
 refine call_meets F.slot_list_append ⟨_,e,rfl⟩ F.entry_list_append (F.args_list_append_2 _ _) (PySem.list_append l its.toArray n u (by rw[t8];omega)) ⟨e,?_⟩
 refine⟨.non,_,I.lset (its':=its++[u]) hH e (by simp) (r.append (.cons ru .nil)) ?_,rfl,q⟩
 rw[tI,zaL]
 omega
def Gz:V->List V->Hp->VK->Prop:=λx vs H Q=>∃l b xs zs,x=.ref l/\vs=[.ref b]/\H l=some (.lst xs)/\H b=some (.lst zs)/\xs.length+zs.length<=sizeLine/\Q .non (upd H l (.lst (xs++zs)))
theorem xi:MtM X "list.extend" Gz:=by
 intro pins s σ H x vs v us Q I rx rv h
 obtain⟨l,b,xs,zs,rfl,rfl,hH,hB,hz,q⟩:=h
 cases rx
 obtain⟨u,rfl,ru⟩:=rv.one
 cases ru
 obtain⟨z,its,n,r,hl,e⟩:=I.lstM hH
 obtain⟨z2,its2,n2,r2,hl2,e2⟩:=I.lstM hB
 have hsz:its.toArray.size+its2.toArray.size<=sizeLine:=by rw[t8,t8];omega
 have hlong:¬(!its.toArray.isEmpty&&Builtin.List.listTooLong (its.toArray.size+its2.toArray.size))=true:=by
   rw[Up hsz,Bool.and_false]
   exact tK
 refine call_meets F.slot_list_extend ⟨_,e,rfl⟩ F.entry_list_extend (F.args_list_extend_2 _ _)
   (AutoSeq1.list_extend_list_list_0 l its.toArray n b its2.toArray n2 hlong (by rw[t8];omega) (by omega)) ⟨e,e2,?_⟩
 refine⟨.non,_,I.lset (its':=its++its2) hH e (by simp) (r.append r2) ?_,rfl,q⟩
 rw[tI]
 omega
def wX:V->List V->Hp->VK->Prop:=λx vs H Q=>∃l xs,x=.ref l/\vs=[]/\H l=some (.lst xs)/\Q .non (upd H l (.lst xs.reverse))
theorem Xh:MtM X "list.reverse" wX:=by
 intro pins s σ H x vs v us Q I rx rv h
 obtain⟨l,xs,rfl,rfl,hH,q⟩:=h
 cases rx
 have hus:=rv.zero
 subst hus
 obtain⟨z,its,n,r,hl,e⟩:=I.lstM hH
 refine call_meets F.slot_list_reverse ⟨_,e,rfl⟩ F.entry_list_reverse (F.args_list_reverse_1 _) (AutoSeq1.list_reverse_list_0 l its.toArray n (by rw[t8];omega)) ⟨e,?_⟩
 refine⟨.non,_,I.lset (its':=its.reverse) hH e (by simp) r.reverse ?_,rfl,q⟩
 rw[zbf]
 omega
def qbS:R2:=λx y H Q=>∃l b xs zs,x=.ref l/\y=.ref b/\H l=some (.lst xs)/\H b=some (.lst zs)/\xs.length+zs.length<=sizeLine/\∀p,H p=none->Q (.ref p) (upd H p (.lst (xs++zs)))
theorem Xb:J7 X (binaryOp .Add) qbS:=by
 intro pins s σ H x y v u Q I rx ry h
 obtain⟨l,b,xs,zs,rfl,rfl,hH,hB,hz,q⟩:=h
 cases rx
 cases ry
 obtain⟨z,its,n,r,hl,e⟩:=I.lstM hH
 obtain⟨z2,its2,n2,r2,hl2,e2⟩:=I.lstM hB
 refine PySem.P.add_list e e2 ?_ (by rw[t8,t8];omega)
 have ea:its.toArray++its2.toArray=(its++its2).toArray:=by simp
 rw[ea]
 exact⟨.ref _,_,I.lnew (t':=s.toks) (r.append r2) (by rw[tI];omega),rfl,q _ I.fresh⟩
def qbP:R2:=λx y H Q=>∃l k xs,x=.ref l/\y=.int k/\H l=some (.lst xs)/\-(2^63)<=k/\k < 2^63/\xs.length*k.toNat<=sizeLine/\
 ∀p,H p=none->Q (.ref p) (upd H p (.lst (zah k.toNat xs).flatten))
theorem Vp {α:Type} (xs:List α) (k:Nat):(zah k xs).flatten.length=k*xs.length:=by
 induction k with
 | zero=>simp
 | succ k ih=>rw[zbH,zck,tI,ih,Nat.succ_mul,Nat.add_comm]
theorem uf:J7 X (binaryOp .Mult) qbP:=by
 intro pins s σ H x y v u Q I rx ry h
 obtain⟨l,k,xs,rfl,rfl,hH,h1,h2,hz,q⟩:=h
 cases rx
 obtain⟨t,rfl⟩:=ry
 obtain⟨z,its,n,r,hl,e⟩:=I.lstM hH
 have hlen:its.toArray.size*k.toNat<=sizeLine:=by rw[t8,<-hl];exact hz
 have hcap:¬its.toArray.size*k.toNat > (2^63 - 1) / 8:=by
   have:(sizeLine:Nat)<=(2^63 - 1) / 8:=by decide
   omega
 have hfit:¬(!Builtin.List.listFitsIndex k)=true:=by
   rw[fitsIndex_both h1 h2]
   exact tK
 have hlong:¬Builtin.List.listTooLong (its.toArray.size*k.toNat)=true:=by
   rw[Up hlen]
   exact tK
 have hnew:zdV (λx1 x2=>x1++x2) #[] (zah (if its.toArray.isEmpty=true then 0 else k.toNat) its.toArray)=(zah k.toNat its).flatten.toArray:=by
   have f0:∀m:Nat,zdV (λx1 x2=>x1++x2) #[] (zah m its.toArray)=(zah m its).flatten.toArray:=λm=>by
     have:=WA its m []
     rw[List.nil_append]at this
     exact this
   rw[f0]
   cases its with
   | nil=>simp
   | cons a r'=>rw[if_neg (by simp)]
 refine wpAny_binaryOp_repeat_ref (T:="list") (U:="int") (by decide) ⟨_,e,rfl⟩ (λs'=>typeIs_int s' k t) noFill_list_mul F.fills_int_mul F.slot_int_rmul repeat_list F.slot_int_index.lookup
   (call_meets F.slot_int_rmul (typeIs_int s k t) F.entry_int_rmul (F.args_int_rmul_2 _ _) (int___rmul___int_list k t l its.toArray n)
     ⟨e,rfl,⟨_,e,rfl⟩,call_meets F.slot_list_mul ⟨_,e,rfl⟩ F.entry_list_mul (F.args_list_mul_2 _ _) (AutoListH.list___mul___list_int_3 l its.toArray n k t hfit hcap hlong) ⟨e,?_⟩⟩)
 rw[hnew]
 exact⟨.ref _,_,I.lnew (t':=s.toks) (r.rep k.toNat) (by rw[Vp,Nat.mul_comm];exact hz),rfl,q _ I.fresh⟩
end
section
variable {prog:Program} {w:World} {A:Around} {E:Value->Shared->Prop} {s:Shared}
set_option maxRecDepth 100000 in
end
section
variable {X:Cx}
end
section
variable {κ:Type} [DecidableEq κ]
def jl (kvs:List (κ×V)) (k:κ):Option V:=(kvs.find? λkv=>decide (kv.1=k)).map (·.2)
def jR (kvs:List (κ×V)) (k:κ) (v:V):List (κ×V):=
 if (kvs.any λkv=>decide (kv.1=k))=true then kvs.map (λkv=>if kv.1=k then (kv.1,v) else kv) else kvs++[(k,v)]
theorem js {p:κ×V} {r:List (κ×V)} {k:κ} (e:p.1=k):jl (p::r) k=some p.2:=by simp [jl,zbw,e]
theorem jt {p:κ×V} {r:List (κ×V)} {k:κ} (e:¬p.1=k):jl (p::r) k=jl r k:=by simp [jl,zbw,e]
theorem QI (k:κ):∀kvs:List (κ×V),(kvs.any λkv=>decide (kv.1=k))=(jl kvs k).isSome
 | []=>rfl
 | p::r=>by
   rw[zcx]
   by_cases e:p.1=k
   . simp only[js e,decide_eq_true e,Bool.true_or,Option.isSome_some]
   . rw[jt e,decide_eq_false e,Bool.false_or];exact QI k r
theorem VQ (k j:κ) (y:V):∀kvs:List (κ×V),jl (kvs.map λkv=>if kv.1=k then (kv.1,y) else kv) j=(jl kvs j).map λx=>if j=k then y else x
 | []=>rfl
 | p::r=>by
   have ih:=VQ k j y r
   rw[tQ]
   by_cases h:p.1=k
   . rw[if_pos h]
     by_cases e:p.1=j
     . rw[js (p:=(p.1,y)) e,js e,zcg,if_pos (e.symm.trans h)]
     . rw[jt (p:=(p.1,y)) e,jt e,ih]
   . rw[if_neg h]
     by_cases e:p.1=j
     . rw[js (p:=p) e,js e,zcg,if_neg (λz=>h (e.trans z))]
     . rw[jt (p:=p) e,jt e,ih]
theorem Wa (k j:κ) (y:V):∀kvs:List (κ×V),jl kvs k=none->jl (kvs++[(k,y)]) j=if j=k then some y else jl kvs j
 | [],_=>by
   by_cases e:k=j
   . rw[if_pos e.symm];exact js (p:=(k,y)) e
   . rw[if_neg (λz=>e z.symm)];exact jt (p:=(k,y)) e
 | p::r,hn=>by
   rw[zdg]
   have hk:¬p.1=k:=λz=>by rw[js z]at hn;cases hn
   rw[jt hk]at hn
   have ih:=Wa k j y r hn
   by_cases e:p.1=j
   . rw[js e,js e,if_neg (λz=>hk (e.trans z))]
   . rw[jt e,jt e,ih]
theorem Qe (kvs:List (κ×V)) (k j:κ) (y:V):jl (jR kvs k y) j=if j=k then some y else jl kvs j:=by
 unfold jR
 by_cases a:(kvs.any λkv=>decide (kv.1=k))=true
 . rw[if_pos a,VQ]
   rw[QI]at a
   by_cases e:j=k
   . obtain⟨x,hx⟩:=zdd.mp a
     rw[if_pos e,e,hx,zcg,if_pos rfl]
   . rw[if_neg e]
     cases jl kvs j with
     | none=>rfl
     | some x=>rw[zcg,if_neg e]
 . rw[if_neg a]
   refine Wa k j y kvs ?_
   rw[QI]at a
   cases q:jl kvs k with
   | none=>rfl
   | some x=>rw[q]at a;exact(a rfl).elim
theorem Jc (kvs:List (κ×V)) (k:κ) (v:V):(jR kvs k v).length<=kvs.length+1:=by
 unfold jR
 split
 . rw[tj];omega
 . rw[tI,zao,zcC];omega
theorem Js {kvs:List (κ×V)} {k:κ} (v:V) (h:jl kvs k=none):jR kvs k v=kvs++[(k,v)]:=by
 unfold jR
 rw[QI,h]
 exact if_neg (by decide)
theorem JF.isSome_eq {o:Option V} {u:Option Value} (r:JF o u):o.isSome=u.isSome:=by
 cases o with
 | none=>cases u with
   | none=>rfl
   | some _=>exact(show False from r).elim
 | some _=>cases u with
   | none=>exact(show False from r).elim
   | some _=>rfl
theorem JF.getD {o:Option V} {u:Option Value} {d:V} {d':Value} (r:JF o u) (rd:qP d d'):qP (o.getD d) (u.getD d'):=by
 cases o with
 | none=>cases u with
   | none=>exact rd
   | some _=>exact(show False from r).elim
 | some _=>cases u with
   | none=>exact(show False from r).elim
   | some _=>exact r
theorem KV.val {kvs:List (κ×V)} {vs:List (κ×Value)} (r:KV kvs vs) (k:κ):JF (jl kvs k) (valueAt vs k):=by
 unfold KV at r
 induction r with
 | nil=>exact True.intro
 | @cons p q ps qs h t ih=>
   obtain⟨h1,h2⟩:=h
   by_cases e:p.1=k
   . have e':q.1=k:=h1.symm.trans e
     have b:valueAt (q::qs) k=some q.2:=by simp [valueAt,zbw,e']
     rw[js e,b];exact h2
   . have e':¬q.1=k:=λz=>e (h1.trans z)
     have b:valueAt (q::qs) k=valueAt qs k:=by simp [valueAt,zbw,e']
     rw[jt e,b];exact ih
theorem KV.any {kvs:List (κ×V)} {vs:List (κ×Value)} (r:KV kvs vs) (k:κ):(kvs.any λkv=>decide (kv.1=k))=vs.any λkv=>decide (kv.1=k):=by
 unfold KV at r
 induction r with
 | nil=>rfl
 | cons h t ih=>rw[zcx,zcx,ih,h.1]
theorem KV.repl {kvs:List (κ×V)} {vs:List (κ×Value)} (r:KV kvs vs) (k:κ) {y:V} {u:Value} (ry:qP y u):
   KV (kvs.map λkv=>if kv.1=k then (kv.1,y) else kv) (vs.map λkv=>if kv.1=k then (kv.1,u) else kv):=by
 unfold KV at r ⊢
 induction r with
 | nil=>exact .nil
 | @cons p q ps qs h t ih=>
   rw[tQ,tQ]
   refine .cons ?_ ih
   obtain⟨h1,h2⟩:=h
   by_cases e:p.1=k
   . rw[if_pos e,if_pos (h1.symm.trans e)];exact⟨h1,ry⟩
   . rw[if_neg e,if_neg (λz=>e (h1.trans z))];exact⟨h1,h2⟩
theorem KV.put {kvs:List (κ×V)} {vs:List (κ×Value)} (r:KV kvs vs) (k:κ) {y:V} {u:Value} (ry:qP y u):KV (jR kvs k y) (stored vs k u):=by
 unfold jR stored
 rw[r.any k]
 by_cases e:(vs.any λkv=>decide (kv.1=k))=true
 . rw[if_pos e,if_pos e];exact r.repl k ry
 . rw[if_neg e,if_neg e];exact Paired.snoc r ⟨rfl,ry⟩
theorem KV.length {kvs:List (κ×V)} {vs:List (κ×Value)} (r:KV kvs vs):kvs.length=vs.length:=Paired.length r
end
theorem zY {P:Program} {w:World} {k:qL} {u:Value} (r:qP (kV k) u):(qT P w).is k u=true:=by
 cases k with
 | inl i=>obtain⟨t,e⟩:=(show ∃t,u=Value.int i t from r);subst e;exact Ur P w i t
 | inr x=>obtain⟨t,e⟩:=(show ∃t,u=Value.str x t from r);subst e;exact Uq P w x t
theorem Wx {P:Program} {w:World}:∀{ks:List qL} {us:List Value},qE (ks.map kV) us->ItemsAre (qT P w) ks us
 | [],_,r=>by rw[zbY]at r;cases r;exact .nil
 | k::ks,_,r=>by
   rw[tQ]at r
   cases r with
   | cons h t=>exact .cons (zY h) (Wx t)
abbrev KT (H:Hp):List (List qL×V)->List (List qL×Addr×Value)->Prop:=Paired λp q=>p.1=q.1/\H q.2.1=some (.tup (p.1.map kV))/\qP p.2 q.2.2
theorem KT.val {H:Hp} {kvs:List (List qL×V)} {xs:List (List qL×Addr×Value)} (r:KT H kvs xs) (k:List qL):JF (jl kvs k) ((atKey xs k).map (·.2)):=by
 induction r with
 | nil=>exact True.intro
 | @cons p q ps qs h t ih=>
   obtain⟨h1,_,h2⟩:=h
   by_cases e:p.1=k
   . have e':q.1=k:=h1.symm.trans e
     have b:atKey (q::qs) k=some q.2:=by simp [atKey,zbw,e']
     rw[js e,b];exact h2
   . have e':¬q.1=k:=λz=>e (h1.trans z)
     have b:atKey (q::qs) k=atKey qs k:=by simp [atKey,zbw,e']
     rw[jt e,b];exact ih
theorem KT.repl {H:Hp} {kvs:List (List qL×V)} {xs:List (List qL×Addr×Value)} (r:KT H kvs xs) (k:List qL) {y:V} {u:Value} (ry:qP y u):
   KT H (kvs.map λkv=>if kv.1=k then (kv.1,y) else kv) (xs.map (putAt k u)):=by
 induction r with
 | nil=>exact .nil
 | @cons p q ps qs h t ih=>
   rw[tQ,tQ]
   refine .cons ?_ ih
   obtain⟨h1,h2,h3⟩:=h
   unfold putAt
   by_cases e:p.1=k
   . rw[if_pos e,if_pos (h1.symm.trans e)];exact⟨h1,h2,ry⟩
   . rw[if_neg e,if_neg (λz=>e (h1.trans z))];exact⟨h1,h2,h3⟩
theorem KT.put {H:Hp} {kvs:List (List qL×V)} {xs:List (List qL×Addr×Value)} (r:KT H kvs xs) (k:List qL) {b:Addr} {y:V} {u:Value} (hb:H b=some (.tup (k.map kV))) (ry:qP y u):
   KT H (jR kvs k y) (storedH xs k b u):=by
 have e:(kvs.any λkv=>decide (kv.1=k))=(atKey xs k).isSome:=by
   rw[QI,(r.val k).isSome_eq,zda]
 unfold jR storedH
 rw[e]
 by_cases q:(atKey xs k).isSome=true
 . rw[if_pos q,if_pos q];exact r.repl k ry
 . rw[if_neg q,if_neg q];exact Paired.snoc r ⟨rfl,hb,ry⟩
theorem KT.keeps {H H':Hp} {kvs:List (List qL×V)} {xs:List (List qL×Addr×Value)} (r:KT H kvs xs) (ht:∀b ys,H b=some (.tup ys)->H' b=some (.tup ys)):KT H' kvs xs:=
 Paired.mapP r λ_ _ z=>⟨z.1,ht _ _ z.2.1,z.2.2⟩
section
variable {P:Program} {w:World} {H:Hp} {h:Heap} {a:Addr}
theorem Nw {u:HO} (ok:JK P w H h) (e:Rd H a u):qI P w H h a u:=e.ok ok
theorem XD {kvs:List (qL×V)} (ok:JK P w H h) (e:Rd H a (.dK kvs)):kvs.length<=sizeLine/\(a==sysModules)=false/\∃vs,KV kvs vs/\h.DictOf (qT P w) a vs:=
 show qI P w H h a (.dK kvs) from Nw ok e
theorem ND {kvs:List (qL×V)} (ok:JK P w H h) (e:H a=some (.dK kvs)):kvs.length<=sizeLine/\(a==sysModules)=false/\∃vs,KV kvs vs/\h.DictOf (qT P w) a vs:=XD ok (.inl e)
theorem zC {ks:List qL} (ok:JK P w H h) (e:H a=some (.tup (ks.map kV))):(tupleKind (qT P w)).is h ks a:=by
 obtain⟨_,its,r,o,h1,h2,n,h3⟩:=(show qI P w H h a (.tup (ks.map kV)) from ok a _ e)
 exact⟨o,its.toArray,n,h1,h2,h3,by simpa using Wx r⟩
theorem XB {kvs:List (List qL×V)} (ok:JK P w H h) (e:Rd H a (.dT kvs)):kvs.length<=sizeLine/\(a==sysModules)=false/\
   ∃xs,KT H kvs xs/\h.DictOfH (tupleKind (qT P w)) a xs:=by
 obtain⟨z,y,xs,r,o,es,ep,h1,h2,h3,h4,h5⟩:=(show qI P w H h a (.dT kvs) from Nw ok e)
 refine⟨z,y,xs,r,o,es,ep,h1,h2,h3,h4,λx hx=>?_,h5⟩
 have all:∀{l:List (List qL×V)} {m:List (List qL×Addr×Value)},KT H l m->∀x∈m,(tupleKind (qT P w)).is h x.1 x.2.1:=by
   intro l m q
   induction q with
   | nil=>intro x hx;exact nomatch hx
   | @cons p q ps qs hq t ih=>
     intro x hx
     rcases tV.mp hx with e | hx
     . subst e
       exact zC ok (by rw[<-hq.1];exact hq.2.1)
     . exact ih x hx
 exact all r x hx
theorem qa8 {kvs:List (List qL×V)} (ok:JK P w H h) (e:H a=some (.dT kvs)):kvs.length<=sizeLine/\(a==sysModules)=false/\
   ∃xs,KT H kvs xs/\h.DictOfH (tupleKind (qT P w)) a xs:=XB ok (.inl e)
end
def Qp (H:Hp) (a:Addr) (y:V) (r:Option V):Prop:=
 (∃kvs k,Rd H a (.dK kvs)/\y=kV k/\r=jl kvs k)\/∃kvs k b,Rd H a (.dT kvs)/\y=.ref b/\H b=some (.tup (k.map kV))/\r=jl kvs k
def Q6 (H:Hp) (a:Addr) (y v:V) (H':Hp):Prop:=
 (∃kvs k,H a=some (.dK kvs)/\y=kV k/\kvs.length < sizeLine/\H'=upd H a (.dK (jR kvs k v)))\/
 ∃kvs k b,H a=some (.dT kvs)/\y=.ref b/\H b=some (.tup (k.map kV))/\kvs.length < sizeLine/\H'=upd H a (.dT (jR kvs k v))
theorem Qp.k {H:Hp} {a:Addr} {kvs:List (qL×V)} {k:qL} (e:H a=some (.dK kvs)):Qp H a (kV k) (jl kvs k):=.inl ⟨kvs,k,.inl e,rfl,rfl⟩
theorem Q6.k {H:Hp} {a:Addr} {kvs:List (qL×V)} {k:qL} {v:V} (e:H a=some (.dK kvs)) (hl:kvs.length < sizeLine):Q6 H a (kV k) v (upd H a (.dK (jR kvs k v))):=.inl ⟨kvs,k,e,rfl,hl,rfl⟩
theorem Q6.t {H:Hp} {a b:Addr} {kvs:List (List qL×V)} {k:List qL} {v:V} (e:H a=some (.dT kvs)) (eb:H b=some (.tup (k.map kV))) (hl:kvs.length < sizeLine):
   Q6 H a (.ref b) v (upd H a (.dT (jR kvs k v))):=.inr ⟨kvs,k,b,e,rfl,eb,hl,rfl⟩
section
variable {X:Cx} {pins:List (Addr×Obj)} {σ:St} {H:Hp} {s:Shared} {a:Addr} {y v:V} {u r:Value} {o:Option V} {A:Around} {E:Value->Shared->Prop}
theorem qz.big (I:qz X pins σ H s):sysModules < s.heap.objs.size:=by
 have h:mainGlobals < s.heap.objs.size:=(I.mod.glob.keeps I.bk).lt
 exact zdK (by decide) h
theorem xL {Q:Value->Shared->Prop} (hu:A.units+1 < cLine) (I:qz X pins σ H s) (g:Qp H a y (some v)) (ry:qP y u) (h:∀w' s',qz X pins σ H s'->qP v w'->Q w' s'):
   wpAny (model X.prog X.w) A (getItem (.ref a) u) Q E s:=by
 rcases g with ⟨kvs,k,e,ey,l⟩ | ⟨kvs,k,b,e,ey,eb,l⟩
 . subst ey
   obtain⟨z,hd,vs,rel,dd⟩:=XD I.hok e
   obtain⟨w',hw,rw'⟩:=JF.some_of (v:=v) (o:=valueAt vs k) (by rw[l];exact rel.val k)
   exact wpAny_getItem_of (zY ry) dd.mapOf hw (h w' _ (I.tok _) rw')
 . subst ey
   cases (show u=Value.ref b from ry)
   obtain⟨z,hd,xs,rel,dd⟩:=XB I.hok e
   obtain⟨w',hw,rw'⟩:=JF.some_of (v:=v) (o:=(atKey xs k).map (·.2)) (by rw[l];exact rel.val k)
   obtain⟨p,hp,hp2⟩:=zbK.mp hw
   refine wpAny_getItem_heap (tupleKind_room_in1 hu) (zC I.hok eb) dd hp ?_
   rw[hp2]
   exact h w' _ (I.tok _) rw'
theorem qca {Q:Value->Shared->Prop} (hu:A.units+1 < cLine) (I:qz X pins σ H s) (g:Qp H a y o) (ry:qP y u) (h:∀s',qz X pins σ H s'->Q (.bool o.isSome) s'):
   wpAny (model X.prog X.w) A (compareOp .In u (.ref a)) Q E s:=by
 rcases g with ⟨kvs,k,e,ey,l⟩ | ⟨kvs,k,b,e,ey,eb,l⟩
 . subst ey
   obtain⟨z,hd,vs,rel,dd⟩:=XD I.hok e
   refine wpAny_in_of (zY ry) hd dd.mapOf ?_
   rw[<-(rel.val k).isSome_eq,<-l]
   exact h _ (I.tok _)
 . subst ey
   cases (show u=Value.ref b from ry)
   obtain⟨z,hd,xs,rel,dd⟩:=XB I.hok e
   refine wpAny_in_heap (tupleKind_room_in1 hu) (zC I.hok eb) hd dd ?_
   have q:=(rel.val k).isSome_eq
   rw[zda]at q
   rw[<-q,<-l]
   exact h _ (I.tok _)
theorem RY {Q:Value->Shared->Prop} (hu:A.units+1 < cLine) (I:qz X pins σ H s) (g:Qp H a y o) (ry:qP y u) (h:∀s',qz X pins σ H s'->Q (.bool (!o.isSome)) s'):
   wpAny (model X.prog X.w) A (compareOp .NotIn u (.ref a)) Q E s:=by
 rcases g with ⟨kvs,k,e,ey,l⟩ | ⟨kvs,k,b,e,ey,eb,l⟩
 . subst ey
   obtain⟨z,hd,vs,rel,dd⟩:=XD I.hok e
   refine wpAny_notIn_of (zY ry) hd dd.mapOf ?_
   rw[<-(rel.val k).isSome_eq,<-l]
   exact h _ (I.tok _)
 . subst ey
   cases (show u=Value.ref b from ry)
   obtain⟨z,hd,xs,rel,dd⟩:=XB I.hok e
   refine wpAny_notIn_heap (tupleKind_room_in1 hu) (zC I.hok eb) hd dd ?_
   have q:=(rel.val k).isSome_eq
   rw[zda]at q
   rw[<-q,<-l]
   exact h _ (I.tok _)
theorem VC {h':Heap} {t':Nat} {ob:HO} (I:qz X pins σ H s) (mu:MX (H a)) (hs:Heap.SameBut a s.heap h') (he:∃q,h'.get? a=some q) (new:qI X.prog X.w (upd H a ob) h' a ob):
   qz X pins σ (upd H a ob) {s with heap:=h',toks:=t'}:=
 I.write (x:=a) (e:=a) mu (.inl rfl) (λb q hb z=>(hs.2 b hb).trans z) he new
theorem vA {P:Program} {w:World} {H':Hp} {h':Heap} {kvs:List (qL×V)} {vs:List (qL×Value)} (z:kvs.length<=sizeLine) (hd:(a==sysModules)=false) (rel:KV kvs vs) (dd:h'.DictOf (qT P w) a vs):
   qI P w H' h' a (.dK kvs):=⟨z,hd,vs,rel,dd⟩
theorem xK {H':Hp} {Q:Unit->Shared->Prop} (hu:A.units+1 < cLine) (I:qz X pins σ H s) (g:Q6 H a y v H') (ry:qP y u) (rv:qP v r) (h:∀s',qz X pins σ H' s'->Q () s'):
   wpAny (model X.prog X.w) A (setItem (.ref a) u r) Q E s:=by
 rcases g with ⟨kvs,k,e,ey,l,eH⟩ | ⟨kvs,k,b,e,ey,eb,l,eH⟩
 . subst ey eH
   obtain⟨z,hd,vs,rel,dd⟩:=ND I.hok e
   have hz:vs.length<=sizeLine:=by rw[<-rel.length];exact z
   have hl:(jR kvs k v).length<=sizeLine:=by have:=Jc kvs k v;omega
   refine wpAny_setItem_pairs (hsz:=hz) (zY ry) dd λh' dd' hs=>h _ ?_
   have he:∃q,h'.get? a=some q:=let ⟨q,_,_,hq,_⟩:=dd';⟨q,hq⟩
   exact VC I (by rw[e];exact True.intro) hs he (vA hl hd (rel.put k rv) dd')
 . subst ey eH
   cases (show u=Value.ref b from ry)
   obtain⟨z,hd,xs,rel,dd⟩:=qa8 I.hok e
   have hz:xs.length<=sizeLine:=by rw[<-Paired.length rel];exact z
   have hl:(jR kvs k v).length<=sizeLine:=by have:=Jc kvs k v;omega
   refine wpAny_setItem_heap (hsz:=hz) (tupleKind_room_in1 hu) (zC I.hok eb) dd λh' dd' hs=>h _ ?_
   obtain⟨q,es,ep,hq,h2,h3,h4,_,h5⟩:=dd'
   refine VC I (by rw[e];exact True.intro) hs ⟨q,hq⟩ ⟨hl,hd,_,(rel.put k eb rv).keeps λc ys ec=>?_,q,es,ep,hq,h2,h3,h4,h5⟩
   rw[qg (qaP ec e (λz=>nomatch z))]
   exact ec
end
section
variable {X:Cx} {pins:List (Addr×Obj)} {σ:St} {H:Hp} {s:Shared} {a:Addr} {kvs:List (qL×V)} {k:qL} {u:Value} {A:Around} {E:Value->Shared->Prop}
end
def qbf (i:Expr):Prop:=∀ov iv,subscripted i false ov iv=operate [ov,iv] (getItem ov iv)
theorem KW {prog:Program} {w:World} {A:Around} {E:Value->Shared->Prop} {s:Shared} {env:Env} {value slice:Expr} {pos:Pos} {T id:String} {Q:Value->Shared->Prop}
   (hl:typeLookup (.type T) "__getitem__"=pure (some (.builtin id))) (hs:qbf slice)
   (h:wpAny (model prog w) A (eval value env) (λo s₁=>wpAny (model prog w) A (eval slice env) (λi s₂=>s₂.TypeIs o T/\wpAny (model prog w) A (getItem o i) Q E s₂) E s₁) E s):
   wpAny (model prog w) A (eval (.Subscript value slice pos) env) Q E s:=by
 refine Subscript_ (wpAny_mono h (λo s₁ h₁=>wpAny_mono h₁ (λi s₂ h₂=>?_) λ_ _ x=>x) λ_ _ x=>x)
 obtain⟨hT,h₂⟩:=h₂
 unfold subscriptTail
 refine wpAny_bind ?_
 rw[getitemInPython_of_ne hT.not_modules]
 refine wpAny_bind (wpAny_specialOf hT hl ?_)
 have fin:wpAny (model prog w) A (subscripted slice false o i) (λr s₃=>wpAny (model prog w) A (letTemporaryGo value o r >>= λ_=>pure r) Q E s₃) E s₂:=by
   rw[hs o i]
   exact wpAny_operating (wpAny_mono h₂ (λr s₃ h₃=>wpAny_bind (wpAny_letTemporaryGo (wpAny_pure h₃))) λ_ _ x=>x)
 first
   | exact wpAny_pure (wpAny_bind fin)
   | exact wpAny_bind (wpAny_pure (wpAny_bind fin))
   | exact wpAny_bind fin
theorem UC {X:Cx} {pins:List (Addr×Obj)} {σ:St} {H:Hp} {s:Shared} {a:Addr} {y:V} {o:Option V} (I:qz X pins σ H s) (g:Qp H a y o):s.TypeIs (.ref a) "dict":=by
 rcases g with ⟨kvs,k,e,_,_⟩ | ⟨kvs,k,b,e,_,_,_⟩
 . obtain⟨_,_,vs,_,dd⟩:=XD I.hok e
   exact dd.typeIs
 . obtain⟨_,_,xs,_,dd⟩:=XB I.hok e
   exact dd.typeIs
def VW (td ty:TE):TE:=λσ H Q=>td σ H λx H1=>ty σ H1 λy H2=>∃a v,x=.ref a/\Qp H2 a y (some v)/\Q v H2
def KQ (ty td:TE):TE:=λσ H Q=>ty σ H λy H1=>td σ H1 λx H2=>∃a o,x=.ref a/\Qp H2 a y o/\Q (.bl o.isSome) H2
def vU (ty td:TE):TE:=λσ H Q=>ty σ H λy H1=>td σ H1 λx H2=>∃a o,x=.ref a/\Qp H2 a y o/\Q (.bl (!o.isSome)) H2
def Nv (td ty tv:TE):TS:=λD σ H=>tv σ H λv H1=>td σ H1 λx H2=>ty σ H2 λy H3=>∃a H4,x=.ref a/\Q6 H3 a y v H4/\D.nx σ H4
section
variable {X:Cx} {o i e value:Expr} {pos pos' tpos:Pos} {td ty tv:TE}
theorem jk (hu:X.A.units+1 < cLine) (ho:JE X o td) (hi:JE X i ty) (hs:qbf i):JE X (.Subscript o i pos) (VW td ty):=.of (by
 have ho:=ho.to
 have hi:=hi.to
 intro pins s σ H Q I h
 refine KW PySem.F.slot_dict_getitem.lookup hs (ja (ho pins s σ H _ I h) λu s1 ⟨x,H1,I1,rx,q1⟩=>ja (hi pins s1 σ H1 _ I1 q1) λiv s2 ⟨y,H2,I2,ry,a,v,ex,g,q2⟩=>?_)
 subst ex
 obtain rfl:u=Value.ref a:=rx
 exact⟨UC I2 g,xL hu I2 g ry λw' s3 I3 rw'=>⟨v,H2,I3,rw',q2⟩⟩)
theorem Zi (hu:X.A.units+1 < cLine) (hi:JE X i ty) (ho:JE X o td):JC X .In i o (KQ ty td):=.of (by
 have hi:=hi.to
 have ho:=ho.to
 intro pins s σ H Q I h
 refine ja (hi pins s σ H _ I h) λiv s1 ⟨y,H1,I1,ry,q1⟩=>ja (ho pins s1 σ H1 _ I1 q1) λu s2 ⟨x,H2,I2,rx,a,ov,ex,g,q2⟩=>?_
 subst ex
 obtain rfl:u=Value.ref a:=rx
 exact qca hu I2 g ry λs3 I3=>⟨.bl ov.isSome,H2,I3,rfl,q2⟩)
theorem Jw (hu:X.A.units+1 < cLine) (hi:JE X i ty) (ho:JE X o td):JC X .NotIn i o (vU ty td):=.of (by
 have hi:=hi.to
 have ho:=ho.to
 intro pins s σ H Q I h
 refine ja (hi pins s σ H _ I h) λiv s1 ⟨y,H1,I1,ry,q1⟩=>ja (ho pins s1 σ H1 _ I1 q1) λu s2 ⟨x,H2,I2,rx,a,ov,ex,g,q2⟩=>?_
 subst ex
 obtain rfl:u=Value.ref a:=rx
 exact RY hu I2 g ry λs3 I3=>⟨.bl (!ov.isSome),H2,I3,rfl,q2⟩)
theorem jx (hu:X.A.units+1 < cLine) (ho:JE X o td) (hi:JE X i ty) (hv:JE X value tv) (hs:swapsWith value (some (.Subscript o i pos')) pos.line X.env=pure false):JS X (.Assign [.Subscript o i pos'] value pos) (Nv td ty tv):=.of (by
 have ho:=ho.to
 have hi:=hi.to
 have hv:=hv.to
 intro pins s σ H D I h
 refine wpAny_Assign_Subscript (ja (hv pins s σ H _ I h) λr s1 ⟨v,H1,I1,rv,q1⟩=>ja (ho pins s1 σ H1 _ I1 q1) λu s2 ⟨x,H2,I2,rx,q2⟩=>ja (hi pins s2 σ H2 _ I2 q2) λiv s3 ⟨y,H3,I3,ry,a,H4,ex,g,q3⟩=>?_) hs
 subst ex
 obtain rfl:u=Value.ref a:=rx
 exact xK hu I3 g ry rv λs4 I4=>⟨σ,H4,I4,q3⟩)
end
theorem UB {P:Program} {w:World} {H:Hp} (h:Heap) (hb:sysModules < h.objs.size):qI P w H (h.push {cls:=.type "dict",data:=.dict #[]}) h.objs.size (.dK []):=
 ⟨zal _,beq_eq_false_iff_ne.mpr (Ne.symm (tR hb)),[],.nil,Heap.DictOf.new h⟩
theorem Kp {P:Program} {w:World} {H:Hp} (h:Heap) (hb:sysModules < h.objs.size):qI P w H (h.push {cls:=.type "dict",data:=.dict #[]}) h.objs.size (.dT []):=
 ⟨zal _,beq_eq_false_iff_ne.mpr (Ne.symm (tR hb)),[],.nil,_,#[],0,tZ _ rfl,⟨rfl,rfl,rfl⟩,rfl,rfl,zbs⟩
def x9:TE:=λ_ H Q=>∀p,H p=none->Q (.ref p) (upd H p (.dK []))
def x8:TE:=λ_ H Q=>∀p,H p=none->Q (.ref p) (upd H p (.dT []))
section
variable {X:Cx} {pos:Pos}
theorem uc:PE X (.Dict [] [] pos) x9:=λpins s σ H Q I h=>
 wpAny_Dict_empty ⟨.ref s.heap.objs.size,_,I.laid (a:=s.heap.objs.size) (o:=.dK []) (t':=s.toks) (λ_ _ q=>tz _ q) (tq _) (UB s.heap I.big),rfl,h _ (I.hok.fresh (tq _))⟩
theorem j7:JE X (.Dict [] [] pos) x9:=.of (uc)
theorem ub:PE X (.Dict [] [] pos) x8:=λpins s σ H Q I h=>
 wpAny_Dict_empty ⟨.ref s.heap.objs.size,_,I.laid (a:=s.heap.objs.size) (o:=.dT []) (t':=s.toks) (λ_ _ q=>tz _ q) (tq _) (Kp s.heap I.big),rfl,h _ (I.hok.fresh (tq _))⟩
theorem u4:JE X (.Dict [] [] pos) x8:=.of (ub)
end
def UT:List (TE×TE)->St->Hp->(List (V×V)->Hp->Prop)->Prop
 | [],_,H,Q=>Q [] H
 | (tk,tv)::r,σ,H,Q=>tk σ H λx H1=>tv σ H1 λy H2=>UT r σ H2 λps H3=>Q ((x,y)::ps) H3
abbrev VV:List (V×V)->List (Value×Value)->Prop:=Paired λp q=>qP p.1 q.1/\qP p.2 q.2
def PPs (X:Cx) (pos:Pos) (keys:List (Option Expr)) (values:List Expr) (trs:List (TE×TE)):Prop:=
 ∀(pins:List (Addr×Obj)) (s:Shared) (σ:St) (H:Hp) (Q:List (V×V)->Hp->Prop),qz X pins σ H s->UT trs σ H Q->
   wpAny (model X.prog X.w) X.A (evalPairs (pairTrees keys values X.env pos)) (λvs s'=>∃ps H',qz X pins σ H' s'/\VV ps vs/\Q ps H') X.xe s
@[irreducible] def KG (X:Cx) (pos:Pos) (keys:List (Option Expr)) (values:List Expr) (trs:List (TE×TE)):Prop:=PPs X pos keys values trs
theorem KG.of {X:Cx} {pos:Pos} {keys:List (Option Expr)} {values:List Expr} {trs:List (TE×TE)} (h:PPs X pos keys values trs):KG X pos keys values trs:=by unfold KG;exact h
theorem KG.to {X:Cx} {pos:Pos} {keys:List (Option Expr)} {values:List Expr} {trs:List (TE×TE)} (h:KG X pos keys values trs):PPs X pos keys values trs:=by unfold KG at h;exact h
theorem RC {X:Cx} {pos:Pos}:KG X pos [] [] []:=.of (by
 exact λpins s σ H Q I h=>pairTrees_nil_walk ⟨[],H,I,.nil,h⟩)
theorem w6 {X:Cx} {pos:Pos} {k v:Expr} {ks:List (Option Expr)} {vs:List Expr} {tk tv:TE} {trs:List (TE×TE)} (hk:PE X k tk) (hv:PE X v tv) (hr:PPs X pos ks vs trs):
   PPs X pos (some k::ks) (v::vs) ((tk,tv)::trs):=λpins s σ H Q I h=>
 pairTrees_cons_walk (ja (hk pins s σ H _ I h) λu s1 ⟨x,H1,I1,rx,q1⟩=>ja (hv pins s1 σ H1 _ I1 q1) λw2 s2 ⟨y,H2,I2,ry,q2⟩=>
   ja (hr pins s2 σ H2 _ I2 q2) λws s3 ⟨ps,H3,I3,rel,q3⟩=>⟨(x,y)::ps,H3,I3,.cons ⟨rx,ry⟩ rel,q3⟩)
theorem Xq {X:Cx} {pos:Pos} {k v:Expr} {ks:List (Option Expr)} {vs:List Expr} {tk tv:TE} {trs:List (TE×TE)} (hk:JE X k tk) (hv:JE X v tv) (hr:KG X pos ks vs trs):KG X pos (some k::ks) (v::vs) ((tk,tv)::trs):=.of (w6 hk.to hv.to hr.to)
def QO (kvs more:List (qL×V)):List (qL×V):=more.foldl (λacc kv=>jR acc kv.1 kv.2) kvs
theorem KV.merge:∀{more:List (qL×V)} {rs:List (qL×Value)} {kvs:List (qL×V)} {vs:List (qL×Value)},KV more rs->KV kvs vs->KV (QO kvs more) (merged vs rs):=by
 intro more rs kvs vs r
 unfold KV at r
 induction r generalizing kvs vs with
 | nil=>intro q;exact q
 | @cons p q ps qs h t ih=>
   intro r0
   have e:KV (jR kvs p.1 p.2) (stored vs q.1 q.2):=by
     have:=r0.put p.1 h.2
     rw[<-h.1];exact this
   exact ih e
theorem Jj:∀(more kvs:List (qL×V)),(QO kvs more).length<=kvs.length+more.length
 | [],kvs=>by show kvs.length<=kvs.length+0;omega
 | p::r,kvs=>by
   have h1:=Jj r (jR kvs p.1 p.2)
   have h2:=Jc kvs p.1 p.2
   show (QO (jR kvs p.1 p.2) r).length<=_
   rw[zao];omega
theorem XG {P:Program} {w:World}:∀{kvs:List (qL×V)} {ws:List (Value×Value)},VV (kvs.map λkv=>(kV kv.1,kv.2)) ws->∃rs,Carries (qT P w) ws rs/\KV kvs rs
 | [],_,r=>by rw[zbY]at r;cases r;exact⟨[],True.intro,.nil⟩
 | p::kvs,_,r=>by
   rw[tQ]at r
   cases r with
   | @cons a b as bs h t=>
     obtain⟨rs,c,q⟩:=XG (P:=P) (w:=w) t
     obtain⟨b1,b2⟩:=b
     exact⟨(p.1,b2)::rs,⟨zY h.1,rfl,c⟩,.cons ⟨rfl,h.2⟩ q⟩
def qah (trs:List (TE×TE)):TE:=λσ H Q=>∀p,H p=none->UT trs σ (upd H p (.dK [])) λps H2=>H2 p=some (.dK [])/\∃kvs:List (qL×V),ps=kvs.map (λkv=>(kV kv.1,kv.2))/\kvs.length<=15/\Q (.ref p) (upd H2 p (.dK (QO [] kvs)))
theorem RG {X:Cx} {pos:Pos} {keys:List (Option Expr)} {values:List Expr} {trs:List (TE×TE)} (h:KG X pos keys values trs) (hall:keys.all (·.isSome)=true) (hl:keys.length=values.length) (h0:keys≠[]) (h15:keys.length<=15):JE X (.Dict keys values pos) (qah trs):=.of (by
 have h:=h.to
 intro pins s σ H Q I q
 have hn:=I.hok.fresh (tq s.heap.objs.size)
 have I1:=I.laid (a:=s.heap.objs.size) (o:=.dK []) (h':=s.heap.push {cls:=.type "dict",data:=.dict #[]}) (t':=s.toks) (λ_ _ q=>tz _ q) (tq _) (UB s.heap I.big)
 refine wpAny_Dict_walk (knd:=qT X.prog X.w) hall hl h0 h15 (ja (h pins _ σ _ _ I1 (q _ hn)) λws s2 ⟨ps,H2,I2,rel,e,kvs,ep,lk,q2⟩=>?_)
 subst ep
 obtain⟨rs,c,rk⟩:=XG (P:=X.prog) (w:=X.w) rel
 obtain⟨z,hd,vs0,r0,dd⟩:=ND I2.hok e
 cases r0
 refine⟨rs,c,dd,λh' dd' hs=>⟨.ref s.heap.objs.size,_,?_,rfl,q2⟩⟩
 have hz:(QO [] kvs).length<=sizeLine:=by
   have h1:=Jj kvs []
   rw[zcC]at h1
   rw[sizeLine_eq];omega
 have he:∃q,h'.get? s.heap.objs.size=some q:=let ⟨q,_,_,hq,_⟩:=dd';⟨q,hq⟩
 exact VC I2 (by rw[e];exact True.intro) hs he (vA hz hd (rk.merge .nil) dd'))
structure M1 (X:Cx) (o:Expr) (m:Str) (apos:Pos) (e:Expr) (cpos:Pos):Prop where
 base:attributeBase o m X.env (eval o X.env)=eval o X.env
 few:((backTo cpos (starEach [e] X.env)).all (λx=> !x.1)&&(backToKw cpos (keywordEach [] X.env)).all (λx=>x.1.isSome)
   &&decide (([e]:List Expr).length+([]:List Keyword).length+(if ([]:List Keyword).isEmpty then 0 else 1) < 30))=true
 line:(apos.endLine==cpos.line)=true
 trees:backTo cpos (starEach [e] X.env)=[(false,eval e X.env)]
structure M2 (X:Cx) (o:Expr) (m:Str) (apos:Pos) (e f:Expr) (cpos:Pos):Prop where
 base:attributeBase o m X.env (eval o X.env)=eval o X.env
 few:((backTo cpos (starEach [e,f] X.env)).all (λx=> !x.1)&&(backToKw cpos (keywordEach [] X.env)).all (λx=>x.1.isSome)
   &&decide (([e,f]:List Expr).length+([]:List Keyword).length+(if ([]:List Keyword).isEmpty then 0 else 1) < 30))=true
 line:(apos.endLine==cpos.line)=true
 trees:backTo cpos (starEach [e,f] X.env)=[(false,eval e X.env),(false,eval f X.env)]
def IsD (H:Hp) (a:Addr):Prop:=(∃kvs,Rd H a (.dK kvs))\/∃kvs,Rd H a (.dT kvs)
theorem ME {X:Cx} {pins:List (Addr×Obj)} {σ:St} {H:Hp} {s:Shared} {a:Addr} (I:qz X pins σ H s) (d:IsD H a):
   s.TypeIs (.ref a) "dict"/\(∀b,Value.ref a=.ref b->∃ob,s.heap.get? b=some ob/\ob.dict=none)/\(a==sysModules)=false:=by
 rcases d with ⟨kvs,e⟩ | ⟨kvs,e⟩
 . obtain⟨_,hd,vs,_,dd⟩:=XD I.hok e
   refine⟨dd.typeIs,λb q=>?_,hd⟩
   cases q
   obtain⟨ob,_,_,h1,h2,_⟩:=dd
   exact⟨ob,h1,h2.2.1⟩
 . obtain⟨_,hd,xs,_,dd⟩:=XB I.hok e
   refine⟨dd.typeIs,λb q=>?_,hd⟩
   cases q
   obtain⟨ob,_,_,h1,h2,_⟩:=dd
   exact⟨ob,h1,h2.2.1⟩
section
variable {X:Cx} {pins:List (Addr×Obj)} {σ:St} {H:Hp} {s:Shared} {a:Addr} {y d:V} {u r:Value} {o:Option V} {A:Around} {E:Value->Shared->Prop}
theorem MP {Q:Value->Shared->Prop} (hu:A.units+1 < cLine) (I:qz X pins σ H s) (g:Qp H a y o) (ry:qP y u) (h:∀w' s',qz X pins σ H s'->qP (o.getD .non) w'->Q w' s'):
   wpAny (model X.prog X.w) A (call (.builtin "dict.get") [.ref a,u]) Q E s:=by
 rcases g with ⟨kvs,k,e,ey,l⟩ | ⟨kvs,k,b,e,ey,eb,l⟩
 . subst ey
   obtain⟨z,hd,vs,rel,dd⟩:=XD I.hok e
   refine call_meetsIn zcr dd.typeIs zdl (zdh _ _) (meets_dict_get (qT X.prog X.w) a (zY ry) hd) ⟨_,dd.mapOf,h _ _ (I.tok _) ?_⟩
   rw[l]
   exact(rel.val k).getD rfl
 . subst ey
   cases (show u=Value.ref b from ry)
   obtain⟨z,hd,xs,rel,dd⟩:=XB I.hok e
   refine call_meetsIn zcr dd.typeIs zdl (zdh _ _) (meetsH_dict_get (tupleKind (qT X.prog X.w)) a b hd) ⟨tupleKind_room_in1 hu,k,xs,zC I.hok eb,dd,h _ _ (I.tok _) ?_⟩
   rw[l]
   exact(rel.val k).getD rfl
end
def wa (td ty:TE):TE:=λσ H Q=>td σ H λx H1=>∃a,x=.ref a/\IsD H1 a/\ty σ H1 λy H2=>∃o,Qp H2 a y o/\Q (o.getD .non) H2
section
variable {X:Cx} {o e f:Expr} {apos cpos:Pos} {td ty tx:TE}
theorem u5 (hu:X.A.units+1 < cLine) (ho:JE X o td) (he:JE X e ty) (m:M1 X o "get" apos e cpos):JE X (.Call (.Attribute o "get" apos) [e] [] cpos) (wa td ty):=.of (by
 have ho:=ho.to
 have he:=he.to
 intro pins s σ H Q I h
 refine wpAny_Call_method m.base m.few m.line PySem.F.plainAttrs_dict zcr PySem.F.type_dict_get (ja (ho pins s σ H _ I h) λu s1 ⟨x,H1,I1,rx,a,ex,d,q1⟩=>?_)
 subst ex
 obtain rfl:u=Value.ref a:=rx
 obtain⟨t1,t2,_⟩:=ME I1 d
 refine⟨t1,t2,?_⟩
 rw[m.trees]
 refine Calls.callWith_builtin rfl (Calls.evalArgs_plain (Calls.spliced_cons (ja (he pins s1 σ H1 _ I1 q1) λiv s2 ⟨y,H2,I2,ry,ov,g,q2⟩=>Calls.spliced_nil ?_)))
 exact MP hu I2 g ry λw' s3 I3 rw'=>⟨_,H2,I3,rw',q2⟩)
end
section
variable {X:Cx} {pins:List (Addr×Obj)} {σ:St} {H:Hp} {s:Shared} {a:Addr} {kvs:List (qL×V)} {A:Around} {E:Value->Shared->Prop}
end
section
variable {X:Cx} {pins:List (Addr×Obj)} {σ:St} {H:Hp} {s:Shared} {a:Addr} {y:V} {u:Value} {A:Around} {E:Value->Shared->Prop}
end
end L2
namespace Att
open PySem PySem.W PySem.Calls PyProof.Rows
theorem Yc {P:Params} {h:Heap}:∀(ns:List Int) (vs:List Value),WellAll P h vs (ns.map WData.int)->IntsAre vs ns:=by
 intro ns
 induction ns with
 | nil=>
   intro vs w
   rw[zbY]at w
   cases w
   exact .nil
 | cons n ns ih=>
   intro vs w
   rw[tQ]at w
   cases w with
   | cons a b=>
     cases a
     exact .cons _ _ (ih _ b)
theorem yL {l:OpenLaw} {n:Nat} (hn:l.most=some n) {P:Params} {h:Heap} {args:List WData} {vals:List Value}
   (hpre:l.row.toRowW.claim.pre args=true) (hwl:WellAll P h vals args):
   ∃a vs ns,vals=[Value.ref a]/\args=[WData.list (ns.map WData.int)]/\h.get? a=some {cls:=.type "list",data:=.seq vs.toArray}/\IntsAre vs ns/\ns.length<=n:=by
 have hsh:WShape.hasAll [] args [.list .int]=true:=(pre_splitW hpre).1
 have hc:l.pre.holds [] {args:=args}=true:=(pre_splitW hpre).2
 obtain⟨d,r,rfl,h1,h2⟩:=hasAllW_cons hsh
 obtain rfl:=hasAllW_nil h2
 obtain⟨xs,rfl,h3⟩:=hasW_list h1
 obtain⟨ns,rfl⟩:=items_int h3
 have hlen:ns.length<=n:=by
   unfold OpenLaw.pre at hc
   have h4:(WTm.not (.lt (.lit (.int (n:Int))) (.len (.arg 0)))).holds [] {args:=[.list (ns.map .int)]}=true:=by
     have h4:=(holds_andW hc).1
     rw[hn]at h4
     exact h4
   have h5:=condW_of h4 (w_not (w_lt w_lit (w_len_list (w_arg rfl))))
   rw[tj]at h5
   refine Nat.le_of_not_lt λq=>?_
   have q':(n:Int) < ((ns.length:Nat):Int):=by omega
   first
     | (rw[decide_eq_true q']at h5;exact absurd h5 (by decide))
     | (simp at h5;omega)
 cases hwl with
 | cons w1 w2=>
   cases w2
   cases w1 with
   | list ho hall=>exact⟨_,_,ns,rfl,rfl,ho,Yc ns _ hall,hlen⟩
theorem yX (l:OpenLaw) (args:List WData):l.row.toRowW.claim.post args (.bool true) args=true:=
 postW_of (r:=l.row.toRowW) (X:=(true==true))
   (show WShape.has [] (.bool true) .bool=true by first | rfl | decide | simp [WShape.has,WShape.arms,WShape.armsAll])
   (show (WTm.eq .res (.lit (.bool true))).value [] {args:=args,res:=some (.bool true),after:=args}=some (.bool (true==true)) from w_eq_bool (w_res rfl) w_lit) rfl
theorem attach_call {l:OpenLaw} {n:Nat} {q:Program} {loose:List Str} {XP:(Str->Option Value)->Heap->Prop} {YP:World->Heap->Prop} {d:DefRec}
   (hn:l.most=some n) (hdf:d.params.defaults=[])
   (call:∀(w:World) (s₀ s₁:Shared) (mg mb:Str->Option Value) (fa:Addr) (o:Obj) (pm cd doc:Value) (a:Addr) (vs:List Value) (ns:List Int),
     Ground q loose [] XP w s₀ mg mb s₁.heap->YP w s₁.heap->
     s₁.heap.get? fa=some o->o.data=.func (docDef d.name d.params d.body d.scope pm cd doc)->s₁.heap.CodeRec cd d.name->mg d.name=some (.ref fa)->
     s₁.heap.get? a=some {cls:=.type "list",data:=.seq vs.toArray}->IntsAre vs ns->ns.length<=n->s₁.gens=#[]->
     codeAny (model l.prog w) callerA (.call (.ref fa) ⟨[.ref a],[]⟩) (λr s'=>r=.ok (.ret (.bool true))/\OldK s₁.heap s'.heap/\s'.os=s₁.os/\AllBare s'.gens) s₁):
   WalkO q loose XP YP l.row.toRowW d [] (λf vs=>PySem.call f vs):=by
 intro w s₀ s₁ mg mb G Y fa o pm cd doc dV kV ho hd hcd hD hmg hg args vals as hpre hlay hrd hwl hlo
 obtain rfl:dV=.none:=Dflts.none hD hdf
 obtain rfl:kV=.none:=Dflts.noKw hD
 obtain⟨a,vs,ns,rfl,rfl,hobj,hints,hlen⟩:=yL hn hpre hwl
 refine enter_call (codeAny_mono (call w s₀ s₁ mg mb fa o pm cd doc a vs ns G Y ho (fd_plain hd) hcd hmg hobj hints hlen hg) λr s' hq=>?_)
 obtain⟨rfl,h2,h3,h4⟩:=hq
 exact⟨.inl ⟨.bool true,.bool true,[],rfl,λ_=>rfl,.bool true,yX l _,λ_=>⟨zdF.nil,λ_ hm=>(nomatch hm)⟩⟩,h2,h3,h4⟩
section
variable {prog:Program} {w:World} {A:Around} {E:Value->Shared->Prop} {s:Shared} {K:Frag}
end
end Att
namespace L2
open PySem PySem.Spec PyProof.Rows
theorem X0:∀{vs:List Value} {ns:List Int},IntsAre vs ns->qE (ns.map V.int) vs
 | _,_,.nil=>.nil
 | _,_,.cons n t h=>.cons ⟨t,rfl⟩ (X0 h)
def MW (H:Hp):Prop:=∀b,H b=none\/∃o xs,H b=some (.frz o (.lst xs))
theorem uR {P:Program} {w:World} {K:PySem.W.Frag} {mg mb:Str->Option Value} {CX:WP} {k:Nat} {fa a:Addr} {fd:FuncData} {x:Str} {sp:Sp} {s₁:Shared} {vs:List Value} {ns:List Int}
   (KX:K.In s₁.heap) (hns:s₁.heap.Ns mainGlobals mg) (hb:s₁.heap.Ns builtinsNs mb) (hbb:∀x:Str,x≠"__name__"->mb x=bootBuiltins x) (hlim:s₁.heap.NoLimit) (hg:s₁.gens=#[])
   (ha:s₁.heap.get? a=some {cls:=.type "list",data:=.seq vs.toArray}) (hi:IntsAre vs ns) (hl:ns.length<=sizeLine) (hr:qR k callerA)
   (F:∀base:Heap,K.In base->base.Ns mainGlobals mg->qo P w K mg base CX k fa fd [x] sp) (hbind:∀(s:Shared) (u:Value),BindsTo s fd ⟨[u],[]⟩ [(x,u)])
   (hsp:∀H:Hp,MW H->SqL K H a (ns.map V.int)->sp [.ref a] H (λv _=>v=.bl true) λ_ _ _=>False)
   (hCX:∀H e s',CX [] H s₁ (λ_ _ _=>False) e s'->False):
   codeAny (model P w) callerA (.call (.ref fa) ⟨[.ref a],[]⟩) (λr s'=>r=.ok (.ret (.bool true))/\OldK s₁.heap s'.heap/\s'.os=s₁.os/\AllBare s'.gens) s₁:=by
 have rv:=X0 hi
 have lenV:=hi.length
 have core:∀H:Hp,MW H->SqL K H a (ns.map V.int)->JK P w H s₁.heap->(∀b,H b≠none->b=a)->(H a≠none->K.lookup a=none)->
     codeAny (model P w) callerA (.call (.ref fa) ⟨[.ref a],[]⟩) (λr s'=>r=.ok (.ret (.bool true))/\OldK s₁.heap s'.heap/\s'.os=s₁.os/\AllBare s'.gens) s₁:=by
   intro H hO hS hok hA hK
   have base_of:∀{b:Addr} {o:Obj},s₁.heap.get? b=some o->H b=none->(Vz s₁.heap H).get? b=some o:=λe n=>Ke e n
   have noA:∀{b:Addr} {o:Obj} {es:Array DictEntry} {ep:Nat},s₁.heap.get? b=some o->o.data=.dict es ep->H b=none:=λ{b o es ep} e d=>by
     cases q:H b with
     | none=>rfl
     | some u=>
       have e':b=a:=hA b (by rw[q];simp)
       subst e'
       rw[ha]at e;cases e
       have d':Data.seq vs.toArray _=Data.dict es ep:=d
       cases d'
   have nsK:∀{b:Addr} {m:Str->Option Value},s₁.heap.Ns b m->(Vz s₁.heap H).Ns b m:=λ{b m} ⟨o,es,ep,e,d,r⟩=>⟨o,es,ep,base_of e (noA e d),d,r⟩
   have hKb:K.In (Vz s₁.heap H):=λb o e=>base_of (KX b o e) (by
     cases q:H b with
     | none=>rfl
     | some u=>
       have e':b=a:=hA b (by rw[q];simp)
       subst e'
       rw[hK (by rw[q];simp)]at e;cases e)
   have hM:Mod K mg (Vz s₁.heap H):=⟨hKb,nsK hns,⟨mb,nsK hb,hbb⟩,let ⟨mc,h1,h2⟩:=hlim;⟨mc,nsK h1,h2⟩⟩
   have e0:vJ P w K mg (Vz s₁.heap H) callerA [] s₁ H:=⟨rfl,hM,λb o e=>Rq e,zdj (xA _ _),trivial,λb hb=>absurd (show b∈([]:List Addr) from hb) (by simp),hok,.of_eq hg⟩
   refine codeAny_mono ((F _ hKb (nsK hns)).run callerA [] s₁ H ⟨[.ref a],[]⟩ [.ref a] [.ref a] _ _ hr e0 (hbind s₁ (.ref a)) (.cons rfl .nil) (hsp H hO hS)) λr s' h=>?_
   cases r with
   | error e=>exact(hCX H e s' h).elim
   | ok fl=>
     cases fl with
     | next=>exact False.elim h
     | brk=>exact False.elim h
     | cont=>exact False.elim h
     | ret u=>
       obtain⟨v,H',os,bare,un,hok',r',q⟩:=h
       have q':v=.bl true:=q
       subst q'
       obtain rfl:u=Value.bool true:=r'
       refine⟨rfl,OldK.of_keep λb o e=>?_,os,bare⟩
       cases q:H b with
       | none=>exact un.keep b o e q (by intro z;exact absurd (show b∈([]:List Addr) from z) (by simp)) (by simp)
       | some u=>
         rcases hO b with z | ⟨ob,xs,z⟩
         . rw[q]at z;cases z
         . have z2:=un.frzs b ob _ z
           obtain⟨e1,_⟩:=hok b _ z
           obtain⟨e2,_⟩:=hok' b _ z2
           rw[e]at e1;cases e1
           exact e2
 cases hk:K.lookup a with
 | some o=>
   have e:=KX a o hk
   rw[ha]at e
   cases e
   refine core (λ_=>none) (λ_=>.inl rfl) (.inr ⟨_,vs.toArray,_,hk,rfl,rfl,rfl,by rw[t8,lenV];exact hl,by simpa using rv⟩) (λb u z=>by have z':(none:Option HO)=some u:=z;cases z') (λb z=>absurd rfl z) λz=>absurd rfl z
 | none=>
   refine core (λb=>if b=a then some (.frz {cls:=.type "list",data:=.seq vs.toArray} (.lst (ns.map V.int))) else none) (λb=>?_) (.inl (.inr ⟨{cls:=.type "list",data:=.seq vs.toArray},if_pos rfl⟩)) (λb u z=>?_) (λb z=>?_) λ_=>hk
   . by_cases hb:b=a
     . exact .inr ⟨_,_,if_pos hb⟩
     . exact .inl (if_neg hb)
   . by_cases hb:b=a
     . have z':=(if_pos hb).symm.trans z
       cases z'
       subst hb
       exact⟨ha,by rw[tj];exact hl,vs,_,rv,ha⟩
     . have z':=(if_neg hb).symm.trans z
       cases z'
   . by_cases hb:b=a
     . exact hb
     . exact absurd (if_neg hb) z
theorem walk_of {l:PySem.W.OpenLaw} {n k:Nat} {q:Program} {loose:List Str} {XP:(Str->Option Value)->Heap->Prop} {YP:World->Heap->Prop} {d:DefRec} {K:Params->PySem.W.Frag} {CX:World->WP} {sp:World->Sp} {x:Str}
   (hn:l.most=some n) (hn2:n<=sizeLine) (hdf:d.params.defaults=[]) (hr:qR k callerA)
   (hY:∀(w:World) (h:Heap),YP w h->(K w.params).In h)
   (F:∀(w:World) (mg:Str->Option Value) (fa:Addr) (h:Heap),(K w.params).In h->h.Ns mainGlobals mg->mg d.name=some (.ref fa)->
     ∃fd:FuncData,(∀(s:Shared) (u:Value),BindsTo s fd ⟨[u],[]⟩ [(x,u)])/\
      ∀base:Heap,(K w.params).In base->base.Ns mainGlobals mg->qo l.prog w (K w.params) mg base (CX w) k fa fd [x] (sp w))
   (hsp:∀(w:World) (H:Hp) (a:Addr) (ns:List Int),ns.length<=n->MW H->SqL (K w.params) H a (ns.map V.int)->sp w [.ref a] H (λv _=>v=.bl true) λ_ _ _=>False)
   (hCX:∀(w:World) (H:Hp) (s:Shared) (e:Value) (s':Shared),CX w [] H s (λ_ _ _=>False) e s'->False):
   PySem.W.WalkO q loose XP YP l.row.toRowW d [] (λf vs=>PySem.call f vs):=by
 refine Att.attach_call hn hdf λw s₀ s₁ mg mb fa o pm cd doc a vs ns G Y ho hd hcd hmg hobj hints hlen hg=>?_
 have KX:=hY w _ Y
 obtain⟨fd,hb,hF⟩:=F w mg fa _ KX G.T.g hmg
 exact uR KX G.T.g G.T.b G.T.builtins G.T.nolimit hg hobj hints (zaa hlen hn2) hr hF hb (λH hO hS=>hsp w H a ns hlen hO hS) λH e s'=>hCX w H s₁ e s'
def jK (s:Stmt) (j:Nat):Stmt:=match s with
 | .ClassDef _ _ _ body _ _ _ _ _ _ _=>body.getD j (.Pass ⟨0,0,0,0⟩)
 | _=>.Pass ⟨0,0,0,0⟩
def Jf (s:Stmt):Arguments:=match s with
 | .FunctionDef _ a _ _ _ _ _ _ _ _=>a
 | _=>{posonlyargs:=[],args:=[],vararg:=none,kwonlyargs:=[],kw_defaults:=[],kwarg:=none,defaults:=[]}
def Qv (s:Stmt):List Stmt:=match s with
 | .FunctionDef _ _ b _ _ _ _ _ _ _=>b
 | _=>[]
def qk (s:Stmt):Scope:=match s with
 | .FunctionDef _ _ _ _ _ _ sc _ _ _=>sc
 | _=>{kind:=.function,names:=[],isGenerator:=false,isCoroutine:=false}
abbrev qN:WP:=λ_ _ _ _ _ _=>False
abbrev E0:XK:=λ_ _ _=>False
theorem Qz {X:Cx}:Qi qN X E0:=λ_ _ _ _ _ _ _ h=>h.elim
structure jQ (K:PySem.W.Frag) (x qual:Str) (st:Stmt) (f:Addr) (fd:FuncData):Prop where
 ex:∃(oc:Value) (od:Option Addr) (kV doc pm:Value) (an:Option Addr) (cdv ct:Value) (osl:Array (Option Value)),
   fd=zby x qual (Jf st) (Qv st) (qk st) .none kV doc pm an cdv ct/\K.lookup f=some ⟨oc,od,.func fd,osl⟩/\zbV K cdv qual=true
 kp:zav K (.ref f)=true
section
variable {P:Program} {w:World} {K:PySem.W.Frag} {mg:Str->Option Value} {base:Heap}
theorem jQ.ok {x qual:Str} {st:Stmt} {f:Addr} {fd:FuncData} {N ps:List Str} {k:Nat} {sp:Sp} (F:jQ K x qual st f fd) (S:qr N ps (qk st)) (len:∀vs H Q E,sp vs H Q E->vs.length=ps.length)
   (hbody:∀(cdv:Value) (A:Around) (outer:List Env) (s:Shared) (H:Hp) (vs:List V) (Q:VK) (E:XK),qR k (A.deeper (envOfC qual (qk st) s.heap.objs.size f cdv))->sp vs H Q E->
     ∃t,KE (Qw qN P w K mg base N qual (qk st) f cdv A outer s H E).nox (Qv st) t/\t {nx:=λ_ H'=>Q .non H',rt:=Q} (ZD N vs) H):qo P w K mg base qN (k+1) f fd ps sp:=by
 obtain⟨oc,od,kV,doc,pm,an,cdv,ct,osl,rfl,lk,hcd⟩:=F.ex
 refine NC lk hcd S len λA outer s H vs Q E hr hsp=>?_
 obtain⟨t,h,q⟩:=hbody cdv A outer s H vs Q E hr hsp
 exact⟨t,h.nox,q⟩
theorem jQ.okJ {x qual:Str} {st:Stmt} {f:Addr} {fd:FuncData} {N ps:List Str} {k:Nat} {sp:Sp} (F:jQ K x qual st f fd) (S:qr N ps (qk st)) (len:∀vs H Q E,sp vs H Q E->vs.length=ps.length)
   (hbody:∀(cdv:Value) (A:Around) (outer:List Env) (s:Shared) (H:Hp) (vs:List V) (Q:VK) (E:XK),qR k (A.deeper (envOfC qual (qk st) s.heap.objs.size f cdv))->sp vs H Q E->
     ∃t,XY (Qw qN P w K mg base N qual (qk st) f cdv A outer s H E).nox (Qv st) t/\t {nx:=λ_ H'=>Q .non H',rt:=Q} (ZD N vs) H):qo P w K mg base qN (k+1) f fd ps sp:=
 F.ok S len λcdv A outer s H vs Q E hr h=>let ⟨t,a,b⟩:=hbody cdv A outer s H vs Q E hr h;⟨t,a.to,b⟩
theorem jQ.binds {x qual:Str} {st:Stmt} {f:Addr} {fd:FuncData} {ps:List Str} (F:jQ K x qual st f fd)
   (h:∀(kV doc pm:Value) (an:Option Addr) (cdv ct:Value) (us:List Value),us.length=ps.length->bindArgs (zby x qual (Jf st) (Qv st) (qk st) .none kV doc pm an cdv ct) ⟨us,[]⟩=pure (ps.zip us)):jO K fd ps []:=by
 obtain⟨oc,od,kV,doc,pm,an,cdv,ct,osl,rfl,lk,hcd⟩:=F.ex
 exact .all (h kV doc pm an cdv ct)
theorem vq {x qual:Str} {st:Stmt} {f:Addr} {oc:Value} {od an:Option Addr} {osl:Array (Option Value)} {kV doc pm cdv ct:Value} (l:K.lookup f=some ⟨oc,od,.func (zby x qual (Jf st) (Qv st) (qk st) .none kV doc pm an cdv ct),osl⟩)
   (c:zbV K cdv qual=true) (k:zav K (.ref f)=true):jQ K x qual st f (zby x qual (Jf st) (Qv st) (qk st) .none kV doc pm an cdv ct):=⟨⟨oc,od,kV,doc,pm,an,cdv,ct,osl,rfl,l,c⟩,k⟩
end
theorem Qu {A:Around} {k:Nat} (hr:qR k A):A.units+1 < cLine:=zaZ (Nat.add_le_add_left (by decide:1<=64) _) hr.units
theorem ql {n:Nat} (h:n<=1000):n < sizeLine:=zaZ h (by decide)
section
variable {X:Cx}
theorem pv (i:Nat) {x:Str} {pos:Pos} (hN:X.N[i]?=some x:=by rfl) (hv:MT X.env.scope x:=by first | exact Or.inl rfl | exact Or.inr (Or.inl rfl) | exact Or.inr (Or.inr rfl)) (hd:(x==("__debug__":Str))=false:=by decide)
   (hcd:(x==("__classdict__":Str))=false:=by decide):PE X (.Name x pos) (qO i):=w9 hN hv hd hcd
theorem jv (i:Nat) {x:Str} {pos:Pos} (hN:X.N[i]?=some x:=by rfl) (hv:MT X.env.scope x:=by first | exact Or.inl rfl | exact Or.inr (Or.inl rfl) | exact Or.inr (Or.inr rfl)) (hd:(x==("__debug__":Str))=false:=by decide) (hcd:(x==("__classdict__":Str))=false:=by decide):JE X (.Name x pos) (qO i):=.of (pv i hN hv hd hcd)
end
theorem jh {A B:Prop} (h:B):if false=true then A else B:=by
 rw[if_neg tK]
 exact h
theorem j8 {A B:Prop} (h:A):if true=true then A else B:=by
 rw[if_pos rfl]
 exact h
theorem xr {c A B:Prop} [Decidable c] (h1:c->A) (h2:¬c->B):if c then A else B:=by
 by_cases h:c
 . rw[if_pos h]
   exact h1 h
 . rw[if_neg h]
   exact h2 h
def Same (H H':Hp):Prop:=∀b o,H b=some o->H' b=some o
theorem Same.refl (H:Hp):Same H H:=λ_ _ h=>h
theorem Same.trans {H H1 H2:Hp} (a:Same H H1) (b:Same H1 H2):Same H H2:=λc o h=>b c o (a c o h)
theorem Same.seq {K:PySem.W.Frag} {H H':Hp} {a:Addr} {xs:List V} (e:Same H H') (h:SqL K H a xs):SqL K H' a xs:=by
 rcases h with (h | ⟨o,h⟩) | h
 . exact .inl (.inl (e _ _ h))
 . exact .inl (.inr ⟨o,e _ _ h⟩)
 . exact .inr h
section
variable {X:Cx}
end
section
variable {κ:Type} [DecidableEq κ]
theorem KL {kvs:List (κ×V)} {k:κ} {v:V} (h:jl kvs k=some v):k∈kvs.map (·.1):=by
 have q:(kvs.any λkv=>decide (kv.1=k))=true:=by
   rw[QI,h]
   all_goals rfl
 obtain⟨p,hp,e⟩:=zbk.mp q
 exact tE.mpr ⟨p,hp,of_decide_eq_true e⟩
end
end L2
set_option maxHeartbeats 4000000
namespace L2
open PySem PySem.Spec PyProof.Rows
theorem yd:(NameKind.free==NameKind.free)=true:=rfl
def Qc (env:Env):List (Str×NameKind)->List (Str×Addr)->List (Str×Addr)
 | [],cs=>cs
 | (n,k)::r,cs=>Qc env r (if k==.free then (n,(env.cells.lookup n).getD 0)::cs else cs)
theorem ZH {scope:Scope} {env:Env} (h:∀x∈scope.names,x.2=.free->∃c,env.cells.lookup x.1=some c):closureFor scope env=pure (Qc env scope.names []):=by
 simp only[closureFor]
 have key:∀(l:List (Str×NameKind)) (cs:List (Str×Addr)),(∀x∈l,x.2=.free->∃c,env.cells.lookup x.1=some c)->
     (forIn l cs λx (r:List (Str×Addr))=>if (x.snd==NameKind.free)=true then (do let a <-cellOf env x.fst;pure (ForInStep.yield ((x.fst,a)::r)):Sem (ForInStep (List (Str×Addr)))) else pure (ForInStep.yield r))=(pure (Qc env l cs):Sem (List (Str×Addr))):=by
   intro l
   induction l with
   | nil=>intro cs _;rfl
   | cons x l ih=>
     intro cs hl
     obtain⟨n,k⟩:=x
     have ihl:=λcs'=>ih cs' λy hy=>hl y (tY _ hy)
     rw[List.forIn_cons]
     by_cases hk:k=.free
     . subst hk
       obtain⟨c,hc⟩:=hl (n,.free) zab rfl
       have e1:cellOf env n=pure c:=by
         unfold cellOf
         have hc':env.cells.lookup n=some c:=hc
         rw[hc']
       have e2:Qc env ((n,NameKind.free)::l) cs=Qc env l ((n,c)::cs):=by
         have hc':env.cells.lookup n=some c:=hc
         show Qc env l (if (NameKind.free==NameKind.free)=true then (n,(env.cells.lookup n).getD 0)::cs else cs)=_
         rw[if_pos yd,hc']
         rfl
       rw[e2,<-ihl]
       dsimp only
       rw[if_pos yd,e1]
       rfl
     . have hb:(k==NameKind.free)=false:=by simpa using hk
       have e2:Qc env ((n,k)::l) cs=Qc env l cs:=by
         show Qc env l (if (k==NameKind.free)=true then (n,(env.cells.lookup n).getD 0)::cs else cs)=_
         rw[if_neg (by rw[hb];decide)]
       rw[e2,<-ihl]
       dsimp only
       rw[if_neg (by rw[hb];decide)]
       rfl
 rw[key scope.names [] h]
 rfl
theorem z7 {env:Env} {x:Str} {c:Addr}:∀{l:List (Str×NameKind)} {cs:List (Str×Addr)},(Qc env l cs).lookup x=some c->cs.lookup x=some c\/((x,NameKind.free)∈l/\c=(env.cells.lookup x).getD 0)
 | [],cs,h=>.inl h
 | (n,k)::r,cs,h=>by
   rcases z7 (l:=r) h with h | ⟨h1,h2⟩
   . by_cases hk:k=.free
     . subst hk
       rw[if_pos yd,zay]at h
       by_cases hx:x=n
       . subst hx
         simp only[beq_self_eq_true]at h
         exact .inr ⟨zab,(tL.inj h).symm⟩
       . have hb:(x==n)=false:=beq_eq_false_iff_ne.mpr hx
         simp only[hb]at h
         exact .inl h
     . have hb:(k==NameKind.free)=false:=by simpa using hk
       rw[if_neg (by rw[hb];decide)]at h
       exact .inl h
   . exact .inr ⟨tY _ h1,h2⟩
theorem ZP {env:Env} {x:Str}:∀{l:List (Str×NameKind)} {cs:List (Str×Addr)},((x,NameKind.free)∈l\/∃c,cs.lookup x=some c)->∃c,(Qc env l cs).lookup x=some c
 | [],cs,h=>by
   rcases h with h | h
   . cases h
   . exact h
 | (n,k)::r,cs,h=>by
   show ∃c,(Qc env r (if (k==NameKind.free)=true then (n,(env.cells.lookup n).getD 0)::cs else cs)).lookup x=some c
   refine ZP (l:=r) ?_
   rcases h with h | ⟨c,h⟩
   . rcases tV.mp h with h | h
     . cases h
       refine .inr ⟨(env.cells.lookup x).getD 0,?_⟩
       rw[if_pos yd,zay]
       simp only[beq_self_eq_true]
     . exact .inl h
   . refine .inr ?_
     by_cases hk:(k==NameKind.free)=true
     . rw[if_pos hk,zay]
       cases hx:x==n with
       | true=>exact⟨_,rfl⟩
       | false=>exact⟨c,h⟩
     . rw[if_neg hk]
       exact⟨c,h⟩
theorem Z4 {scope:Scope} {env:Env} {x:Str} {k:NameKind}:∀{names:List (Str×NameKind)},names.lookup x=some k->
   ∃k',(names.map λ(n,k)=>if (k==NameKind.free&&env.scope.kind==.function&&env.kindOf n==some .cell) then (n,NameKind.cell) else (n,k)).lookup x=some k'/\(k'=k\/(k=.free/\k'=.cell))
 | [],h=>by simp at h
 | (n,j)::r,h=>by
   rw[tQ]
   by_cases hx:x=n
   . subst hx
     rw[zay]at h
     simp only[beq_self_eq_true]at h
     cases h
     dsimp only
     by_cases hc:(k==NameKind.free&&env.scope.kind==.function&&env.kindOf x==some .cell)=true
     . rw[if_pos hc,zay]
       simp only[beq_self_eq_true]
       refine⟨_,rfl,.inr ⟨?_,rfl⟩⟩
       simp only[zas,beq_iff_eq]at hc
       exact hc.1.1
     . rw[if_neg hc,zay]
       simp only[beq_self_eq_true]
       exact⟨_,rfl,.inl rfl⟩
   . have hb:(x==n)=false:=beq_eq_false_iff_ne.mpr hx
     rw[zay]at h
     simp only[hb]at h
     obtain⟨k',h1,h2⟩:=Z4 (env:=env) (scope:=scope) h
     refine⟨k',?_,h2⟩
     dsimp only
     by_cases hc:(j==NameKind.free&&env.scope.kind==.function&&env.kindOf n==some .cell)=true
     . rw[if_pos hc,zay]
       simp only[hb]
       exact h1
     . rw[if_neg hc,zay]
       simp only[hb]
       exact h1
theorem mem_of_lookup {x:Str} {k:NameKind}:∀{l:List (Str×NameKind)},l.lookup x=some k->(x,k)∈l
 | [],h=>by simp at h
 | (n,j)::r,h=>by
   rw[zay]at h
   by_cases hx:x=n
   . subst hx
     simp only[beq_self_eq_true]at h
     cases h
     exact zab
   . have hb:(x==n)=false:=beq_eq_false_iff_ne.mpr hx
     simp only[hb]at h
     exact tY _ (mem_of_lookup h)
theorem ZG {f:Str×NameKind->Str×NameKind} (hf:∀p,(f p).1=p.1) {x:Str} {k:NameKind}:∀{l:List (Str×NameKind)},(l.map f).lookup x=some k->∃j,l.lookup x=some j/\(f (x,j)).2=k
 | [],h=>by simp at h
 | (n,j)::r,h=>by
   rw[tQ]at h
   have e:f (n,j)=(n,(f (n,j)).2):=by
     have:=hf (n,j)
     exact Prod.ext this rfl
   rw[e,zay]at h
   rw[zay]
   by_cases hx:x=n
   . subst hx
     simp only[beq_self_eq_true]at h ⊢
     exact⟨j,rfl,tL.inj h⟩
   . have hb:(x==n)=false:=beq_eq_false_iff_ne.mpr hx
     simp only[hb]at h ⊢
     exact ZG hf h
def z6 (X:Cx) (N:List Str) (scope:Scope) (C:Addr) (s₂:Shared) (H₂:Hp) (fp:List Addr) (pins:List (Addr×Obj)):Cx where
 prog:=X.prog
 w:=X.w
 K:=X.K
 mg:=X.mg
 base:=X.base
 A:=X.A
 N:=N
 s₀:=s₂
 H₀:=H₂
 env:=compEnvC scope (Qc X.env scope.names []) C X.env
 outer:=X.stack
 stack:=X.stack
 ex:=fp
 fn:=λ_=>false
 calm:=X.calm
 pn:=X.pn++pins
 xe:=λ_ _=>False
def NO (ix:List (Option Nat)) (σ:St):St:=ix.map λo=>o.bind λj=>(σ[j]?).join
def MD (N' N:List Str) (sc esc:Scope) (ix:List (Option Nat)):Bool:=
 ix.length==N'.length&&(ix.zip N').all λp=>match p.1 with
   | none=>true
   | some j=>N[j]?==some p.2&&sc.names.lookup p.2==some .free&&(esc.names.lookup p.2==some .cell || esc.names.lookup p.2==some .free)
structure Qj (X:Cx) (N':List Str) (ix:List (Option Nat)) (scope:Scope):Prop where
 kind:scope.kind=.function
 nocell:(scope.names.all λx=>x.2 != .cell)=true
 locs:(scope.names.all λx=>x.2 != .local || scope.names.lookup x.1==some .local)=true
 frees:(scope.names.all λx=>x.2 != .free || (X.env.scope.names.lookup x.1==some .cell || X.env.scope.names.lookup x.1==some .free))=true
 ixs:MD N' X.N scope X.env.scope ix=true
section
variable {X:Cx} {N':List Str} {ix:List (Option Nat)} {scope:Scope} {pins:List (Addr×Obj)} {σ:St} {H:Hp} {s:Shared}
theorem Qj.cellH (S:Qj X N' ix scope):∀y∈scope.names,y.2≠.cell:=λy hy e=>by
 have:=zbc.mp S.nocell y hy
 rw[e]at this
 exact absurd this (by decide)
theorem Qj.locH (S:Qj X N' ix scope):∀y∈scope.names,y.2=.local->scope.names.lookup y.1=some .local:=λy hy e=>by
 have:=zbc.mp S.locs y hy
 simp only[e,zdq,bne_self_eq_false,zbo,false_or,beq_iff_eq]at this
 exact this
theorem Qj.freeH (S:Qj X N' ix scope) (ok:X.Ok):∀x∈scope.names,x.2=.free->∃c,X.env.cells.lookup x.1=some c:=λx hx e=>by
 have:=zbc.mp S.frees x hx
 simp only[e,zdq,bne_self_eq_false,zbo,false_or,beq_iff_eq]at this
 exact ok.has x.1 this
theorem Qj.clook (S:Qj X N' ix scope) (ok:X.Ok) {x:Str} {c:Addr} (h:(Qc X.env scope.names []).lookup x=some c):X.env.cells.lookup x=some c/\(x,NameKind.free)∈scope.names:=by
 rcases z7 h with h | ⟨h1,h2⟩
 . simp at h
 . obtain⟨c',hc'⟩:=S.freeH ok _ h1 rfl
   have hc2:X.env.cells.lookup x=some c':=hc'
   rw[hc2]at h2
   subst h2
   exact⟨hc2,h1⟩
theorem qba {C:Addr} {fp:List Addr} (S:Qj X N' ix scope) (I:qz X pins σ H s) (hC:s.heap.objs.size<=C) (hf:∀b∈fp,ZR X pins H b) (hfo:∀b∈fp,b < s.heap.objs.size):(z6 X N' scope C s H fp pins).Ok where
 mod:=I.ok.mod
 kind:=S.kind
 glob:=I.ok.glob
 blt:=I.ok.blt
 above:=hC
 inj:=λx y c h1 h2=>I.ok.inj x y c (S.clook I.ok h1).1 (S.clook I.ok h2).1
 has:=λx hx=>by
   have hx':(relabel scope X.env).names.lookup x=some .cell\/(relabel scope X.env).names.lookup x=some .free:=hx
   refine ZP (.inl ?_)
   have go:∀k,(k=NameKind.cell\/k=.free)->(relabel scope X.env).names.lookup x=some k->(x,NameKind.free)∈scope.names:=λk hk h=>by
     obtain⟨j,h1,h2⟩:=ZG (f:=λ(n,k)=>if (k==NameKind.free&&X.env.scope.kind==.function&&X.env.kindOf n==some .cell) then (n,NameKind.cell) else (n,k)) (λp=>by dsimp only;split<;>rfl) h
     have hm:=mem_of_lookup h1
     by_cases hj:j=.free
     . subst hj;exact hm
     . exfalso
       have hb:(j==NameKind.free)=false:=by simpa using hj
       dsimp only at h2
       rw[hb,zcK,zcK,if_neg (by decide)]at h2
       have h2':j=k:=h2
       rcases hk with e | e
       . exact S.cellH _ hm (h2'.trans e)
       . exact hj (h2'.trans e)
   rcases hx' with h | h
   . exact go _ (.inl rfl) h
   . exact go _ (.inr rfl) h
 cab:=λx c h _=>by cases h
 hd:=I.ok.hd
 frames:=I.ok.frames
 stk:=.inl rfl
 exf:=λb hb=>⟨tR (tO (hfo b hb) hC),λx c h=>(hf b hb).2.2.2.2.1 x c (S.clook I.ok h).1⟩
 bs:=I.bs
 bsz:=zaa I.ok.bsz I.sz
 noex:=λb o e hb=>by
   rcases(hf b hb).2.2.2.1 with h | h
   . exact I.ok.noex b o e h
   . exact absurd (tO (tP e) (zaa I.ok.bsz h)) (zat _)
 exfs:=λb hb hm=>by
   rcases tV.mp (I.stkSub b hm) with e | e
   . exact(hf b hb).2.1 e
   . exact(hf b hb).2.2.1 e
 funs:=I.stack
 frf:=I.stkFree
theorem xx {C D:Addr} {fp:List Addr} {h₁:Heap} {m:Str->Option Value} {t':Nat} {n₀:Nat} (S:Qj X N' ix scope) (I:qz X pins σ H s) (hf:∀b∈fp,ZR X pins H b) (hfo:∀b∈fp,b < s.heap.objs.size)
   (hD:s.heap.objs.size<=D) (hC:s.heap.objs.size<=C) (hDC:D≠C) (kp:∀b o,s.heap.get? b=some o->h₁.get? b=some o) (hn:h₁.Ns C m) (hl:h₁.get? D=some {cls:=.type "list",data:=.seq #[] n₀}):
   qz (z6 X N' scope C s H fp pins) [] (NO ix σ) (upd H D (.lst [])) {s with heap:=h₁,toks:=t'} where
 ok:=qba S I hC hf hfo
 os:=rfl
 bare:=I.bare
 base:=Un.laid kp hD (I.hok.fresh hD)
 loc:=by
   refine⟨m,hn,λi x v e1 e2 e3=>?_⟩
   have hix:=S.ixs
   unfold MD at hix
   rw[zas]at hix
   obtain⟨hlen,hall⟩:=hix
   have hlen':ix.length=N'.length:=by simpa using hlen
   have e1':N'[i]?=some x:=e1
   unfold NO at e2
   rw[tN]at e2
   cases ho:ix[i]? with
   | none=>rw[ho]at e2;cases e2
   | some o=>
     rw[ho]at e2
     cases o with
     | none=>cases e2
     | some j=>
       have e2':(σ[j]?).join=some v:=tL.inj e2
       have hz:(ix.zip N')[i]?=some (some j,x):=by
         rw[List.getElem?_zip_eq_some]
         exact⟨ho,e1'⟩
       have hm:=zbc.mp hall _ (t7 hz)
       dsimp only at hm
       simp only[zas,beq_iff_eq,zdq]at hm
       obtain⟨⟨hN,hfr⟩,hk⟩:=hm
       have e2'':σ[j]?=some (some v):=by
         cases q:σ[j]? with
         | none=>rw[q]at e2';cases e2'
         | some z=>
           rw[q]at e2'
           have:z=some v:=e2'
           rw[this]
       obtain⟨mX,hnX,hlX⟩:=I.loc
       have hvis:MT X.env.scope x:=by
         rcases hk with h | h
         . exact .inr (.inl h)
         . exact .inr (.inr h)
       obtain⟨u,ru,lu⟩:=hlX j x v hN e2'' hvis
       refine⟨u,ru,?_⟩
       rcases lu with ⟨hk',_⟩ | ⟨_,c,hc,hcell⟩
       . exfalso
         have hk'':X.env.scope.names.lookup x=some .local:=hk'
         rcases hk with h | h<;>rw[h]at hk''<;>cases hk''
       . right
         obtain⟨k',r1,r2⟩:=Z4 (scope:=scope) (env:=X.env) hfr
         refine⟨?_,?_⟩
         . rcases r2 with z | ⟨_,z⟩
           . right;rw[z]at r1;exact r1
           . left;rw[z]at r1;exact r1
         . obtain⟨c',hc'⟩:=ZP (env:=X.env) (cs:=[]) (.inl (mem_of_lookup hfr))
           have:=(S.clook I.ok hc').1
           rw[hc]at this
           cases this
           obtain⟨o,ho',hd⟩:=hcell
           exact⟨c,hc',o,kp _ _ ho',hd⟩
 cell:=λx c h=>by
   obtain⟨v,o,ho,hd⟩:=I.cell x c (S.clook I.ok h).1
   exact⟨v,o,kp _ _ ho,hd⟩
 free:=by
   show (upd H D _) C=none
   rw[qg (Ne.symm hDC)]
   exact I.hok.fresh hC
 freeC:=λx c h=>by
   have h1:=(S.clook I.ok h).1
   obtain⟨v,o,ho,hd⟩:=I.cell x c h1
   rw[qg (tR (tO (tP ho) hD))]
   exact I.freeC x c h1
 pin:=λp hp=>by
   have hp':p∈X.pn++pins:=by
     have:p∈(X.pn++pins)++[]:=hp
     simpa using this
   obtain⟨e,n,ne,nf,d⟩:=I.pin p hp'
   have hlt:=tP e
   refine⟨kp _ _ e,?_,tR (tO hlt hC),λhm=>?_,d⟩
   . rw[qg (tR (tO hlt hD))];exact n
   . rcases tV.mp (I.stkSub p.1 hm) with z | z
     . exact ne z
     . exact nf z
 hok:=I.hok.laid kp hD ⟨zal _,[],n₀,.nil,hl⟩
 len:=by
   have hix:=S.ixs
   unfold MD at hix
   rw[zas]at hix
   have:ix.length=N'.length:=by simpa using hix.1
   show (NO ix σ).length=N'.length
   unfold NO
   rw[tj,this]
theorem Kb {C:Addr} {fp:List Addr} {σ':St} {H':Hp} {s':Shared} {pl:List (Addr×Obj)} (I:qz X pins σ H s) (hf:∀b∈fp,ZR X pins H b) (J:qz (z6 X N' scope C s H fp pins) pl σ' H' s'):qz X pins σ H' s':=
 I.call' (ch:=fp) J.os J.base J.hok J.bare λb hb=>⟨(hf b hb).2.2.2.1,(hf b hb).2.1,(hf b hb).2.2.2.2.1,(hf b hb).2.2.2.2.2⟩
theorem Ka {C:Addr} {H':Hp} {s₀ s':Shared} {h':Heap} (I₀:qz X pins σ H s₀) (I:qz X pins σ H' s') (hC:s₀.heap.objs.size<=C) (hn:H' C=none) (sb:Heap.SameBut C s'.heap h'):qz X pins σ H' {s' with heap:=h'}:=by
 refine I.turned (it:=C) (t':=s'.toks) (λb o hb e=>(sb.2 b hb).trans e) hn (zbX (tO I₀.lt hC)) (.inr (zaa I₀.sz hC)) (λx c e z=>?_) λp hp z=>?_
 . obtain⟨v,q⟩:=I₀.cell x c e
   exact absurd (tO q.lt (by rw[z];exact hC)) (zat _)
 . exact absurd (tO (tP (I₀.pin p hp).1) (by rw[z];exact hC)) (zat _)
end
def M8 (X:Cx) (ifs:List Expr) (t:TT):Prop:=
 ∀(pins:List (Addr×Obj)) (s:Shared) (σ:St) (H:Hp) (Q:Bool->Hp->Prop),qz X pins σ H s->t σ H Q->
   wpAny (model X.prog X.w) X.A (forIn ifs true λc r=>if r=true then do let ok <-isTrue c X.env (eval c X.env);pure (ForInStep.yield ok) else pure (ForInStep.yield r)) (TP X pins σ Q) X.xe s
@[irreducible] def KF (X:Cx) (ifs:List Expr) (t:TT):Prop:=M8 X ifs t
theorem KF.of {X:Cx} {ifs:List Expr} {t:TT} (h:M8 X ifs t):KF X ifs t:=by unfold KF;exact h
theorem KF.to {X:Cx} {ifs:List Expr} {t:TT} (h:KF X ifs t):M8 X ifs t:=by unfold KF at h;exact h
def qbu:TT:=λ_ H Q=>Q true H
theorem ju {X:Cx}:KF X [] qbu:=.of (by
 exact λ_ _ _ H _ I h=>wpAny_tests_nil ⟨H,I,h⟩)
theorem jH {X:Cx} {c:Expr} {t:TT} (h:JT X c t):KF X [c] t:=.of (by
 have h:=h.to
 exact λpins s σ H Q I hw=>wpAny_tests_one (h pins s σ H Q I hw))
section
variable {prog:Program} {w:World} {A:Around} {R:Result->Shared->Prop} {s:Shared}
theorem VD {elt target iter:Expr} {ifs:List Expr} {scope:Scope} {pos:Pos} {it acc:Value} {env:Env} (I:Nat->Shared->Prop)
   (turn:∀n s,I n s->wpAny (model prog w) A (pyNext it) (λr s₁=>match r with
     | none=>R (.ok .next) s₁
     | some v=>wpAny (model prog w) A (letOwnedTupleGo target it v) (λ_ s₁'=>wpAny (model prog w) A (assign target env v) (λ_ s₂=>
         wpAny (model prog w) A (forIn ifs true λc r=>if r=true then do let ok <-isTrue c env (eval c env);pure (ForInStep.yield ok) else pure (ForInStep.yield r)) (λok s₃=>
           if ok=true then wpAny (model prog w) A (eval elt env) (λx s₄=>
             wpAny (model prog w) A (call (.builtin "list.append") [acc,x]) (λ_ s₅=>∃m,m < n/\I m s₅) (λ_ _=>False) s₄) (λ_ _=>False) s₃
           else ∃m,m < n/\I m s₃) (λ_ _=>False) s₂) (λ_ _=>False) s₁') (λ_ _=>False) s₁) (λ_ _=>False) s)
   (n:Nat) (h:I n s):
   codeAny (model prog w) A (.compLoop (.ListComp elt [⟨target,iter,ifs,0⟩] scope pos) 0 it acc env) R s:=by
 refine codeAny_loop rfl I (λn s hI=>?_) n h
 show wpAny _ A ((compTurn (.ListComp elt [⟨target,iter,ifs,0⟩] scope pos) 0 it acc env).onRaise (λx=>do noteFrame x env;theTreesLotGoes x)) _ _ s
 refine wpAny_noted ?_
 rw[compTurn_list]
 refine wpAny_bind (wpAny_standAt (wpAny_bind (wpAny_mono (turn n s hI) (λr s₁ h₁=>?_) λ_ _ h'=>h'.elim)))
 cases r with
 | none=>exact wpAny_pure h₁
 | some v=>
   refine wpAny_bind (wpAny_mono h₁ (λ_ s₁' h₁'=>?_) λ_ _ h'=>h'.elim)
   refine wpAny_bind (wpAny_mono h₁' (λ_ s₂ h₂=>wpAny_bind (wpAny_mono h₂ (λok s₃ h₃=>?_) λ_ _ h'=>h'.elim)) λ_ _ h'=>h'.elim)
   cases ok with
   | false=>exact wpAny_pure ⟨rfl,h₃⟩
   | true=>
     exact wpAny_bind (wpAny_bind (wpAny_mono h₃ (λx s₄ h₄=>wpAny_bind (wpAny_mono h₄ (λ_ s₅ h₅=>wpAny_pure (wpAny_pure ⟨rfl,h₅⟩)) λ_ _ h'=>h'.elim)) λ_ _ h'=>h'.elim))
end
def z8 (J:It) (g:TG) (tt:TT) (te:TE) (D:Addr) (σ:St) (H:Hp) (Q:Hp->Prop):Prop:=
 ∃W:Nat->Nat->St->Hp->Prop,(∃m,W 0 m σ (upd H D (.lst [])))/\∀i m σ' H',W i m σ' H'->
   (J.stop i H'/\Q H')\/(J.go i H'/\∃N:St->Hp->Prop,(∀σ2 H2,N σ2 H2->∃m',m' < m/\W (i+1) m' σ2 H2)/\∀x H2,J.yld i H' x H2->g x σ' H2 λσ2 H3=>tt σ2 H3 λb H4=>
     if b=true then te σ2 H4 λv H5=>∃ys,H5 D=some (.lst ys)/\ys.length < sizeLine/\N σ2 (upd H5 D (.lst (ys++[v]))) else N σ2 H4)
def tLC (wi:TI) (ix:List (Option Nat)) (g:TG) (tt:TT) (te:TE):TE:=λσ H Q=>wi σ H λJ H1=>∀D,H1 D=none->z8 J g tt te D (NO ix σ) H1 λH2=>Q (.ref D) H2
section
variable {X:Cx} {N':List Str} {ix:List (Option Nat)} {scope:Scope}
theorem WE {elt iter target:Expr} {ifs:List Expr} {pos:Pos} {g:TG} {tt:TT} {te:TE} {pins:List (Addr×Obj)} {σ:St} {H:Hp} {s:Shared} {it:Addr} {fp:List Addr} {tn:Nat->Heap->Prop} {J:It} {E:Value->Shared->Prop}
   {RR:Value->Addr->Result->Shared->Prop} {Q:Addr->Hp->Prop}
   (hc:X.calm=true) (S:Qj X N' ix scope) (I:qz X pins σ H s) (T:UI X.prog X.w X.K target J fp it tn) (st:tn 0 s.heap) (hf:∀b∈fp,ZR X pins H b)
   (hb:∀C s₂ H₂ fp pins,PG (z6 X N' scope C s₂ H₂ fp pins) target g/\M8 (z6 X N' scope C s₂ H₂ fp pins) ifs tt/\PE (z6 X N' scope C s₂ H₂ fp pins) elt te)
   (h:∀D,H D=none->z8 J g tt te D (NO ix σ) H (Q D))
   (fin:∀(D C:Addr) (H':Hp) (s':Shared) (m:Str->Option Value),s.heap.objs.size<=C->H' C=none->s'.heap.Ns C m->qz X pins σ H' s'->Q D H'->RR (.ref D) C (.ok .next) s'):
   wpAny (model X.prog X.w) X.A (newList []) (λacc s₃=>wpAny (model X.prog X.w) X.A (newFunctionEnv scope X.env.globals (Qc X.env scope.names []) [] X.env.qual none .none (some X.env)) (λcenv s₄=>
     codeAny (model X.prog X.w) X.A (.compStart (.ListComp elt [⟨target,iter,ifs,0⟩] scope pos) 0 (.ref it) acc {cenv with scope:=relabel scope X.env}) (RR acc cenv.locals) s₄) E s₃) E s:=by
 have hfo:∀b∈fp,b < s.heap.objs.size:=λb hb=>by
   obtain⟨o,e,_⟩:=T.obj _ _ st b hb
   exact tP e
 refine wpAny_newObj_type (wpAny_newFunctionEnv S.cellH (by intro y hy;simp at hy) (λh₁ hns₁ hsb₁=>?_) S.kind)
 dsimp only at hns₁ hsb₁ ⊢
 generalize hH2:s.heap.push {cls:=.type "list",dict:=none,data:=.seq ([]:List Value).toArray}=H2 at hns₁ hsb₁ ⊢
 have hC:H2.objs.size=s.heap.objs.size+1:=by rw[<-hH2,zbr]
 have hDC:s.heap.objs.size≠H2.objs.size:=by rw[hC];exact tR (zaM _)
 have hCle:s.heap.objs.size<=H2.objs.size:=by rw[hC];exact zdw _
 have below:∀b,b < s.heap.objs.size->b≠H2.objs.size:=λb hb=>by rw[hC];exact tR (zbS hb)
 have old:∀b o,s.heap.get? b=some o->h₁.get? b=some o:=λb o e=>hsb₁.extBut b o (below b (tP e)) (tz _ (hH2▸tz _ e))
 have hacc:h₁.get? s.heap.objs.size=some {cls:=.type "list",data:=.seq #[] 0}:=hsb₁.extBut _ _ hDC (tz _ (hH2▸tZ _ rfl))
 obtain⟨W,⟨m0,w0⟩,turn⟩:=h s.heap.objs.size (I.hok.fresh (tq _))
 have I1:qz (z6 X N' scope H2.objs.size s H fp pins) [] (NO ix σ) (upd H s.heap.objs.size (.lst [])) {s with heap:=h₁,toks:=s.toks+([]:List (Str×Value)).length}:=
   xx S I hf hfo (tq _) hCle hDC old hns₁ hacc
 have st₁:tn 0 h₁:=T.keep _ _ _ st λb hb o e=>old b o e
 have fpn:∀b∈fp,(upd H s.heap.objs.size (.lst [])) b=none:=λb hb=>by
   rw[qg (tR (hfo b hb))]
   exact(hf b hb).1
 obtain⟨hg,htt,hte⟩:=hb H2.objs.size s H fp pins
 have okY:=I1.ok
 have stat:∀{H':Hp},(∀b∈fp,H' b=none)->∀b∈fp,ZR (z6 X N' scope H2.objs.size s H fp pins) [] H' b:=λ{H'} hn b hb=>
   ⟨hn b hb,(okY.exf b hb).1,okY.exfs b hb,.inl hb,(okY.exf b hb).2,λp hp=>by
     have hp':p∈X.pn++pins:=by
       have:p∈(X.pn++pins)++[]:=hp
       simpa using this
     exact(hf b hb).2.2.2.2.2 p hp'⟩
 have loop:codeAny (model X.prog X.w) X.A (.compLoop (.ListComp elt [⟨target,iter,ifs,0⟩] scope pos) 0 (.ref it) (.ref s.heap.objs.size) (compEnvC scope (Qc X.env scope.names []) H2.objs.size X.env))
     (RR (.ref s.heap.objs.size) H2.objs.size) {s with heap:=h₁,toks:=s.toks+([]:List (Str×Value)).length}:=by
   refine VD (λn s'=>∃i σ' H',qz (z6 X N' scope H2.objs.size s H fp pins) [] σ' H' s'/\tn i s'.heap/\(∀b∈fp,H' b=none)/\W i n σ' H') ?_ m0 ⟨0,_,_,I1,st₁,fpn,w0⟩
   rintro n s3 ⟨i,σ3,H3,I3,st3,fr3,w3⟩
   rcases turn i n σ3 H3 w3 with ⟨stop,qn⟩ | ⟨go,NN,hNN,step⟩
   . refine ja (T.done (z6 X N' scope H2.objs.size s H fp pins) rfl rfl rfl hc i [] s3 σ3 H3 _ I3 (stat fr3) st3 stop) λr s4 ⟨hr,I4⟩=>?_
     subst hr
     obtain⟨mm,hnm,_⟩:=I4.loc
     exact fin _ _ H3 s4 mm hCle I4.free hnm (Kb I hf I4) qn
   . refine ja (T.item (z6 X N' scope H2.objs.size s H fp pins) rfl rfl rfl hc i [] s3 σ3 H3 _ I3 (stat fr3) st3 go) λr s4 ⟨u,hr,h4⟩=>?_
     subst hr
     refine ja h4 λ_ s5 ⟨x,H5,I5,r5,y5,st5,fr5⟩=>?_
     have I5':=I5.pinned (stat fr5) (T.obj _ _ st5)
     refine ja (hg _ s5 σ3 H5 x u _ I5' r5 (step x H5 y5)) λ_ s6 ⟨σ6,H6,I6,q6⟩=>?_
     refine ja (htt _ s6 σ6 H6 _ I6 q6) λok s7 ⟨H7,I7,q7⟩=>?_
     have again:∀{σ8:St} {H8:Hp} {s8:Shared},qz (z6 X N' scope H2.objs.size s H fp pins) ([]++YY fp s5.heap) σ8 H8 s8->NN σ8 H8->
         ∃m,m < n/\∃i σ' H',qz (z6 X N' scope H2.objs.size s H fp pins) [] σ' H' s8/\tn i s8.heap/\(∀b∈fp,H' b=none)/\W i m σ' H':=λ{σ8 H8 s8} I8 n8=>by
       obtain⟨m',hm,w8⟩:=hNN σ8 H8 n8
       refine⟨m',hm,i+1,σ8,H8,I8.unpinned,T.keep _ _ _ st5 λb hb o e=>(I8.pin (b,o) (zan _ (zan _ (JU hb e)))).1,λb hb=>?_,w8⟩
       obtain⟨o,e,d⟩:=T.obj _ _ st5 b hb
       exact(I8.pin (b,o) (zan _ (zan _ (JU hb e)))).2.1
     cases ok with
     | false=>
       rw[if_neg tK]at q7 ⊢
       exact again I7 q7
     | true=>
       rw[if_pos rfl]at q7 ⊢
       refine ja (hte _ s7 σ6 H7 _ I7 q7) λv s8 ⟨y,H8,I8,r8,q8⟩=>?_
       obtain⟨ys,hy,hz,q8⟩:=q8
       refine ja (Jv (X:=z6 X N' scope H2.objs.size s H fp pins) _ s8 σ6 H8 (.ref s.heap.objs.size) [y] (.ref s.heap.objs.size) [v] (λ_ H9=>NN σ6 H9) I8 rfl (.cons r8 .nil) ⟨_,ys,y,rfl,rfl,hy,hz,q8⟩) λ_ s9 ⟨_,H9,I9,_,q9⟩=>?_
       exact again I9 q9
 exact codeAny_compStart_list loop (T.self X.A 0 _ _ _ st₁ loop)
theorem qaJ {elt iter target:Expr} {ifs:List Expr} {pos:Pos} {wi:TI} {g:TG} {tt:TT} {te:TE} (hc:X.calm=true) (S:Qj X N' ix scope) (hi:PI X target iter wi)
   (hb:∀C s₂ H₂ fp pins,PG (z6 X N' scope C s₂ H₂ fp pins) target g/\M8 (z6 X N' scope C s₂ H₂ fp pins) ifs tt/\PE (z6 X N' scope C s₂ H₂ fp pins) elt te)
   (hs:∀x,foldedSetIterable iter X.env x=pure x:=by intro _;rfl):PE X (.ListComp elt [⟨target,iter,ifs,0⟩] scope pos) (tLC wi ix g tt te):=by
 intro pins s σ H Q I h
 rw[eval_ListComp]
 refine wpAny_comprehension_free (use:=none) rfl hs (ZH (S.freeH I.ok)) S.kind S.locH ?_
 refine ja (hi pins s σ H _ I h) λxv s1 h1=>ja h1 λitv s2 h2=>?_
 obtain⟨it,fp,tn,J,H2,e,I2,T,st2,f2,q2⟩:=h2
 subst e
 refine WE (RR:=λacc C=>compPost (model X.prog X.w) X.A X.xe none (EP X pins σ Q) acc C) (Q:=λD H'=>Q (.ref D) H') hc S I2 T st2 f2 hb q2 ?_
 intro D C H' s' m hC hn hm I' q
 exact⟨m,hm,λh' sb=>⟨.ref D,H',Ka I2 I' hC hn sb,rfl,q⟩⟩
theorem jM {elt iter target:Expr} {ifs:List Expr} {pos:Pos} {wi:TI} {g:TG} {tt:TT} {te:TE} (hc:X.calm=true) (S:Qj X N' ix scope) (hi:JI X target iter wi) (hb:∀C s₂ H₂ fp pins,JG (z6 X N' scope C s₂ H₂ fp pins) target g/\KF (z6 X N' scope C s₂ H₂ fp pins) ifs tt/\JE (z6 X N' scope C s₂ H₂ fp pins) elt te) (hs:∀x,foldedSetIterable iter X.env x=pure x:=by intro _;rfl):JE X (.ListComp elt [⟨target,iter,ifs,0⟩] scope pos) (tLC wi ix g tt te):=.of (qaJ hc S hi.to (λC s₂ H₂ fp pins=>⟨(hb C s₂ H₂ fp pins).1.to,(hb C s₂ H₂ fp pins).2.1.to,(hb C s₂ H₂ fp pins).2.2.to⟩) hs)
theorem w5 {i:Nat} {x:Str} {elt iter target:Expr} {ifs:List Expr} {pos spos px:Pos} {wi:TI} {g:TG} {tt:TT} {te:TE} (hN:X.N.Nodup) (hxi:X.N[i]?=some x) (hx:MY X.env.scope x) (hc:X.calm=true) (S:Qj X N' ix scope) (hi:PI X target iter wi)
   (hb:∀C s₂ H₂ fp pins,PG (z6 X N' scope C s₂ H₂ fp pins) target g/\M8 (z6 X N' scope C s₂ H₂ fp pins) ifs tt/\PE (z6 X N' scope C s₂ H₂ fp pins) elt te)
   (hsw:swapsWith (.ListComp elt [⟨target,iter,ifs,0⟩] scope pos) (some (.Name x px)) spos.line X.env=pure true:=by rfl)
   (hs:∀x,foldedSetIterable iter X.env x=pure x:=by intro _;rfl) (hf:X.fn x=true\/X.env.scope.names.lookup x=some .local:=by first | exact .inl rfl | exact .inr rfl | assumption):
   PS X (.Assign [.Name x px] (.ListComp elt [⟨target,iter,ifs,0⟩] scope pos) spos) (UU (tLC wi ix g tt te) (Ql i)):=by
 intro pins s σ H D I h
 rw[exec_Assign_Name_used _ _ _ _ hsw]
 refine wpAny_bind (wpAny_standAt (wpAny_bind ?_))
 show wpAny _ X.A (do let _ <-comprehension (.ListComp elt [⟨target,iter,ifs,0⟩] scope pos) scope X.env _ (newList []) false (eval iter X.env) (some (assign (.Name x px) X.env))) _ _ s
 refine wpAny_bind (ja (wpAny_comprehension_free (use:=some (assign (.Name x px) X.env)) (Q:=λ_ s'=>SP X pins D .next s') rfl hs (ZH (S.freeH I.ok)) S.kind S.locH ?_) λ_ s' hq=>wpAny_pure (wpAny_pure hq))
 refine ja (hi pins s σ H _ I h) λxv s1 h1=>ja h1 λitv s2 h2=>?_
 obtain⟨it,fp,tn,J,H2,e,I2,T,st2,f2,q2⟩:=h2
 subst e
 refine WE (RR:=λacc C=>compPost (model X.prog X.w) X.A X.xe (some (assign (.Name x px) X.env)) (λ_ s'=>SP X pins D .next s') acc C) (Q:=λD' H'=>Ql i (.ref D') σ H' D.nx) hc S I2 T st2 f2 hb q2 ?_
 intro D' C H' s' m hC hn hm I' q
 show wpAny _ X.A (assign (.Name x px) X.env (.ref D')) _ _ _
 refine wpAny_assign_Name (Wd I' hN hxi hx (v:=.ref D') rfl (λs'' I'' hch=>?_) hf)
 obtain⟨a,sb,ha⟩:=hch
 have hCa:C≠a:=by
   rcases ha with z | z
   . rw[z];exact zbX (tO I2.lt hC)
   . intro e
     obtain⟨v,qc⟩:=I2.cell x a z
     exact absurd (tO qc.lt (by rw[<-e];exact hC)) (zat _)
 refine⟨m,hm.sameBut sb hCa,λh' sb'=>?_⟩
 refine⟨_,H',?_,q⟩
 refine I''.turned (it:=C) (t':=s''.toks) (λb o hb e=>(sb'.2 b hb).trans e) hn (zbX (tO I2.lt hC)) (.inr (zaa I2.sz hC)) (λy c e z=>?_) λp hp z=>?_
 . obtain⟨v,qc⟩:=I2.cell y c e
   exact absurd (tO qc.lt (by rw[z];exact hC)) (zat _)
 . exact absurd (tO (tP (I2.pin p hp).1) (by rw[z];exact hC)) (zat _)
theorem Q5 {i:Nat} {x:Str} {elt iter target:Expr} {ifs:List Expr} {pos spos px:Pos} {wi:TI} {g:TG} {tt:TT} {te:TE} (hN:X.N.Nodup) (hxi:X.N[i]?=some x) (hx:MY X.env.scope x) (hc:X.calm=true) (S:Qj X N' ix scope) (hi:JI X target iter wi) (hb:∀C s₂ H₂ fp pins,JG (z6 X N' scope C s₂ H₂ fp pins) target g/\KF (z6 X N' scope C s₂ H₂ fp pins) ifs tt/\JE (z6 X N' scope C s₂ H₂ fp pins) elt te) (hsw:swapsWith (.ListComp elt [⟨target,iter,ifs,0⟩] scope pos) (some (.Name x px)) spos.line X.env=pure true:=by rfl) (hs:∀x,foldedSetIterable iter X.env x=pure x:=by intro _;rfl) (hf:X.fn x=true\/X.env.scope.names.lookup x=some .local:=by first | exact .inl rfl | exact .inr rfl | assumption):JS X (.Assign [.Name x px] (.ListComp elt [⟨target,iter,ifs,0⟩] scope pos) spos) (UU (tLC wi ix g tt te) (Ql i)):=.of (w5 hN hxi hx hc S hi.to (λC s₂ H₂ fp pins=>⟨(hb C s₂ H₂ fp pins).1.to,(hb C s₂ H₂ fp pins).2.1.to,(hb C s₂ H₂ fp pins).2.2.to⟩) hsw hs hf)
end
def Its (x:Str):It:=⟨λi _=>i < x.cps.size,λi H v H'=>H'=H/\∃c,x.cps[i]?=some c/\v=.str ⟨#[c]⟩,λi _=>i=x.cps.size⟩
theorem VS {P:Program} {w:World} {K:PySem.W.Frag} {tg:Expr} (it:Addr) (x:Str) (t:Tok) (ty:String)
   (hn:["enumerate","zip","dict_itemiterator","dict_reverseitemiterator","odict_iterator","itertools.zip_longest","itertools.pairwise"].contains ty=false)
   (hW:∀A:Around,A.handled=none->Walks P w A it [it] [it] x.cps.size (SignAt x) (λi h=>h.IsStrIter it ty x t i))
   (hself:∀(A:Around) (i:Nat) (s:Shared) (Q:Value->Shared->Prop) (E:Value->Shared->Prop),s.heap.IsStrIter it ty x t i->Q (.ref it) s->wpAny (model P w) A (pyIter (.ref it)) Q E s):
   UI P w K tg (Its x) [it] it (λi h=>h.IsStrIter it ty x t i) where
 mem:=by simp
 obj:=λi h st b hb=>by
   have e:b=it:=by simpa using hb
   subst e
   obtain⟨o,e,c,d⟩:=st
   exact⟨o,e,λv z=>by rw[d]at z;cases z⟩
 keep:=λi h h' st k=>let ⟨o,e,r⟩:=st;⟨o,k it (by simp) o e,r⟩
 item:=by
   intro X hP hw hK hc i pins s σ H E I hf st hg
   subst hP hw hK
   obtain⟨f0,f1,f2,f3,f4,f5⟩:=hf it (by simp)
   refine(hW X.A (I.ok.hd hc)).item i s _ _ hg st λv h' tk hv st' kk=>?_
   obtain⟨c,u,hcu,rfl⟩:=hv
   have I1:qz X pins σ H {s with heap:=h',toks:=tk}:=I.turned (λb o hb e=>kk b o (by simpa using hb) e) f0 f1 f3 f4 f5
   obtain⟨o,e,c1,d1⟩:=id st'
   exact⟨_,rfl,Uu (s:={s with heap:=h',toks:=tk}) e c1 d1 hn ⟨.str ⟨#[c]⟩,H,I1,⟨u,rfl⟩,⟨rfl,c,hcu,rfl⟩,st',λb hb=>(hf b hb).1⟩⟩
 done:=by
   intro X hP hw hK hc i pins s σ H E I hf st hg
   subst hP hw hK
   obtain⟨f0,f1,f2,f3,f4,f5⟩:=hf it (by simp)
   have hi:i=x.cps.size:=hg
   subst hi
   exact(hW X.A (I.ok.hd hc)).done s _ _ st λh' tk kk=>⟨rfl,I.turned (λb o hb e=>kk b o (by simpa using hb) e) f0 f1 f3 f4 f5⟩
 self:=hself
def qb8 (tl:TE):TI:=λσ H R=>tl σ H λx H1=>∃y,x=.str y/\R (Its y) H1
theorem My {X:Cx} {tg l:Expr} {tl:TE} (hl:JE X l tl):JI X tg l (qb8 tl):=.of (by
 have hl:=hl.to
 intro pins s σ H R I h
 refine ja (hl pins s σ H _ I h) λv s1 ⟨x,H1,I1,r1,q1⟩=>?_
 obtain⟨y,e,q⟩:=q1
 subst e
 obtain⟨t,rfl⟩:=r1
 have fp:∀b∈[s1.heap.objs.size],ZR X pins H1 b:=λb hb=>by
   have e:b=s1.heap.objs.size:=by simpa using hb
   subst e
   exact I1.fpOk (tq _) (I1.hok.fresh (tq _))
 cases ha:y.cps.all (· < 128)
 . refine wpAny_pyIter_wide ha ?_
   exact⟨s1.heap.objs.size,[s1.heap.objs.size],_,_,H1,rfl,I1.kept (t':=s1.toks) λb o e=>tz _ e,
     VS _ y t "str_iterator" (by decide) (λA hA=>Walks.strWide hA _ y t) (λA i s Q E st q=>wpAny_pyIter_striter_wide st q),⟨_,tZ _ rfl,rfl,rfl⟩,fp,q⟩
 . refine wpAny_pyIter_ascii ha ?_
   exact⟨s1.heap.objs.size,[s1.heap.objs.size],_,_,H1,rfl,I1.kept (t':=s1.toks) λb o e=>tz _ e,
     VS _ y t "str_ascii_iterator" (by decide) (λA hA=>Walks.strAscii hA _ y t) (λA i s Q E st q=>wpAny_pyIter_striter_ascii st q),⟨_,tZ _ rfl,rfl,rfl⟩,fp,q⟩)
section
variable {K:PySem.W.Frag} {g:TG} {tt:TT} {te:TE} {D a:Addr} {σ:St} {H:Hp} {Q:Hp->Prop}
def WN (tt:TT) (te:TE) (D:Addr) (N:St->Hp->Prop):St->Hp->Prop:=λσ2 H3=>tt σ2 H3 λb H4=>
 if b=true then te σ2 H4 λv H5=>∃ys,H5 D=some (.lst ys)/\ys.length < sizeLine/\N σ2 (upd H5 D (.lst (ys++[v]))) else N σ2 H4
theorem XI {J:It} {n:Nat} (Pv:Nat->St->Hp->Prop) (h0:Pv 0 σ (upd H D (.lst [])))
   (go:∀i σ' H',i < n->Pv i σ' H'->J.go i H'/\∀x H2,J.yld i H' x H2->g x σ' H2 (WN tt te D (Pv (i+1)))) (stop:∀σ' H',Pv n σ' H'->J.stop n H'/\Q H'):z8 J g tt te D σ H Q:=by
 refine⟨λi m σ' H'=>m=n - i/\i<=n/\Pv i σ' H',⟨n,by simp,zal _,h0⟩,?_⟩
 rintro i m σ' H' ⟨rfl,hi,p⟩
 by_cases hlt:i < n
 . obtain⟨h1,h2⟩:=go i σ' H' hlt p
   exact .inr ⟨h1,Pv (i+1),λσ2 H2 p2=>⟨n - (i+1),by omega,rfl,hlt,p2⟩,h2⟩
 . have e:i=n:=by omega
   subst e
   exact .inl (stop σ' H' p)
theorem Q0 {lo:Int} {n:Nat} (Pv:Nat->St->Hp->Prop) (h0:Pv 0 σ (upd H D (.lst [])))
   (hs:∀i σ' H',i < n->Pv i σ' H'->g (.int (lo+i)) σ' H' (WN tt te D (Pv (i+1)))) (hd:∀σ' H',Pv n σ' H'->Q H'):z8 (NF lo n) g tt te D σ H Q:=
 XI (n:=n) Pv h0 (λi σ' H' hi p=>⟨hi,λx H2 y=>by
   obtain⟨e,y⟩:=y
   subst e y
   exact hs i σ' H2 hi p⟩) λσ' H' p=>⟨tq _,hd σ' H' p⟩
theorem jN {xs:List V} (Pv:Nat->St->Hp->Prop) (h0:Pv 0 σ (upd H D (.lst []))) (hl:∀i σ' H',i<=xs.length->Pv i σ' H'->SqL K H' a xs)
   (hs:∀i x σ' H',xs[i]?=some x->Pv i σ' H'->g x σ' H' (WN tt te D (Pv (i+1)))) (hd:∀σ' H',Pv xs.length σ' H'->Q H'):z8 (M3 K a) g tt te D σ H Q:=
 XI (n:=xs.length) Pv h0 (λi σ' H' hi p=>⟨⟨xs,xs[i],hl i σ' H' (zam hi) p,by simp [hi]⟩,λx H2 y=>by
   obtain⟨e,y⟩:=y
   subst e
   exact hs i x σ' _ (y xs (hl i σ' _ (zam hi) p)) p⟩) λσ' H' p=>⟨⟨xs,hl _ σ' H' (tq _) p,tq _⟩,hd σ' H' p⟩
theorem yn {xs:List V} (Pv:Nat->St->Hp->Prop) (h0:Pv 0 σ (upd H D (.lst []))) (hl:∀i σ' H',i<=xs.length->Pv i σ' H'->SqT K H' a xs)
   (hs:∀i x σ' H',xs[i]?=some x->Pv i σ' H'->g x σ' H' (WN tt te D (Pv (i+1)))) (hd:∀σ' H',Pv xs.length σ' H'->Q H'):z8 (NE K a) g tt te D σ H Q:=
 XI (n:=xs.length) Pv h0 (λi σ' H' hi p=>⟨⟨xs,xs[i],hl i σ' H' (zam hi) p,by simp [hi]⟩,λx H2 y=>by
   obtain⟨e,y⟩:=y
   subst e
   exact hs i x σ' _ (y xs (hl i σ' _ (zam hi) p)) p⟩) λσ' H' p=>⟨⟨xs,hl _ σ' H' (tq _) p,tq _⟩,hd σ' H' p⟩
theorem R3 {x:Str} (Pv:Nat->St->Hp->Prop) (h0:Pv 0 σ (upd H D (.lst [])))
   (hs:∀i c σ' H',x.cps[i]?=some c->Pv i σ' H'->g (.str ⟨#[c]⟩) σ' H' (WN tt te D (Pv (i+1)))) (hd:∀σ' H',Pv x.cps.size σ' H'->Q H'):z8 (Its x) g tt te D σ H Q:=
 XI (n:=x.cps.size) Pv h0 (λi σ' H' hi p=>⟨hi,λv H2 y=>by
   obtain⟨e,c,hc,rfl⟩:=y
   subst e
   exact hs i c σ' _ hc p⟩) λσ' H' p=>⟨rfl,hd σ' H' p⟩
end
section
variable {X:Cx}
theorem XJ:∀(bs:List Bool),(tM bs.length).all (λi=>bs.getD i false)=bs.all id:=by
 intro bs
 induction bs with
 | nil=>rfl
 | cons b bs ih=>
   rw[zao,List.range_succ_eq_map,zde,zcl,zde]
   have:((λi=>(b::bs).getD i false) ∘ zdx)=λi=>bs.getD i false:=by
     funext i
     simp [Function.comp]
   rw[this,ih]
   simp
theorem zK (hc:X.calm=true):QQ X (.builtin "all") (λxs H Q=>∃(p:Addr) (bs:List Bool),xs=[.ref p]/\SqL X.K H p (bs.map V.bl)/\Q (.bl (bs.all id)) H):=by
 intro pins s σ H xs us Q I r h
 obtain⟨p,bs,rfl,hq,q⟩:=h
 obtain⟨u,rfl,rx⟩:=Jl r
 cases rx
 obtain⟨its,rv,pl,hz⟩:=I.list hq
 have hlt:p < s.heap.objs.size:=by
   obtain⟨o,n,e,_⟩:=pl
   exact tP e
 have hn:its.toArray.size=bs.length:=by
   have:=rv.length
   rw[tj]at this
   simp only[t8]
   omega
 have hh:X.A.in1.handled=none:=I.ok.hd hc
 refine call_all_walk (wpAny_pyIter_list pl.isList ?_)
 refine⟨s.heap.objs.size,[s.heap.objs.size,p],[s.heap.objs.size],its.toArray.size,λi v=>its.toArray[i]?=some v,_,λi=>bs.getD i false,rfl,Walks.list hh s.heap.objs.size p (tR hlt) its.toArray,
   ⟨⟨_,tZ _ rfl,rfl,rfl⟩,pl.isList.at λo e=>tz _ e⟩,?_,λh' tk hk=>?_⟩
 . intro i v s' Q' E' hP hQ
   have hi:its[i]?=some v:=by simpa using hP
   have hb:∃b,bs[i]?=some b/\v=Value.bool b:=by
     cases e:bs[i]? with
     | none=>
       exfalso
       have h1:(bs.map V.bl)[i]?=none:=by rw[tN,e];rfl
       rw[qE.none_of rv h1]at hi
       cases hi
     | some b=>
       have h1:(bs.map V.bl)[i]?=some (V.bl b):=by rw[tN,e];rfl
       obtain⟨u,hu,ru⟩:=rv.get h1
       rw[hi]at hu
       cases hu
       exact⟨b,rfl,ru⟩
   obtain⟨b,e,rfl⟩:=hb
   refine wpAny_truthy_bool ?_
   have e2:bs.getD i false=b:=by rw[zaC,e];rfl
   have hQ':Q' (bs.getD i false) s':=hQ
   rw[e2]at hQ'
   exact hQ'
 . rw[hn,XJ]
   refine⟨.bl (bs.all id),H,?_,rfl,q⟩
   exact I.kept (h':=h') (t':=tk) λb o e=>hk b o (by
     intro z
     have z':b=s.heap.objs.size:=by simpa using z
     exact absurd (tP e) (by rw[z'];exact zat _)) (tz _ e)
theorem UV {ys:List Str}:∀{us:List Value},qE (ys.map V.str) us->StrsAre us ys:=by
 induction ys with
 | nil=>
   intro us r
   rw[zbY]at r
   cases r
   exact .nil
 | cons y ys ih=>
   intro us r
   rw[tQ]at r
   cases r with
   | cons a b=>
     obtain⟨t,rfl⟩:=a
     exact .cons _ _ (ih b)
def qaF (K:PySem.W.Frag):V->List V->Hp->VK->Prop:=λx xs H Q=>∃(sep:Str) (p:Addr) (ys:List Str),x=.str sep/\xs=[.ref p]/\SqL K H p (ys.map V.str)/\(ys.map (·.length)).sum+ys.length*sep.length<=16777216/\Q (.str (Txt.join sep ys)) H
theorem kU:MtR X "str.join" (qaF X.K):=by
 intro pins s σ H x xs v us Q I rx rv h
 obtain⟨sep,p,ys,rfl,rfl,hq,hz,q⟩:=h
 obtain⟨t,rfl⟩:=rx
 obtain⟨u,rfl,ru⟩:=Jl rv
 cases ru
 obtain⟨its,r',pl,_⟩:=I.list hq
 exact join_list pl.isList (by simpa using UV r') hz λt' k=>⟨.str _,H,I.tok k,⟨t',rfl⟩,q⟩
def qbc:V->Value
 | .ty n=>.type n
 | .ref a=>.ref a
 | _=>.none
def qa2:V->Bool
 | .ty _=>true
 | .ref _=>true
 | _=>false
def qaG (K:PySem.W.Frag):List V->Hp->VK->Prop:=λxs H Q=>∃x c t b,xs=[x,c]/\qa2 c=true/\TyOf K H x t/\zad K t (qbc c)=some b/\Q (.bl b) H
theorem jC:QQ X (.builtin "isinstance") (qaG X.K):=by
 intro pins s σ H xs us Q I r h
 obtain⟨x,c,t,b,rfl,hc,ty,e,q⟩:=h
 obtain⟨u,w',rfl,ru,rw'⟩:=VP r
 have ew:w'=qbc c:=by
   cases c with
   | ty n=>exact rw'
   | ref a=>exact rw'
   | _=>cases hc
 subst ew
 exact xt I ru ty e λtk=>⟨.bl b,H,I.tok tk,rfl,q⟩
end
abbrev qad (rest:List Value):Obj:={cls:=.type "tuple",data:=.seq rest.toArray}
abbrev ML (C t:Addr):Obj:={cls:=.ref C,data:=.fields #[.ref t,.none,.none,.none,.bool false,.none]}
section
variable {prog:Program} {w:World} {A:Around} {E:Value->Shared->Prop} {h:Heap} {g:Array GenState} {d:Drawn} {t:Nat} {os:OsState}
variable {nm q:Str} {C N fI:Addr} {bs bm bmB bmN:List Value} {hdct:Bool} {sn:List Str} {sub:List Value} {ab:Bool} {col:Option Bool} {dd:Option Addr} {k0 k1 k2 k3 k5:Option Value} {B Bn newId nid initId inN:String} {rest:List Value} {oI:Obj}
theorem US {Q:Fin->Shared->Prop} (Fn:ExcBaseFacts Bn newId inN bmN) (hBn:bmB.contains (.type Bn)=true)
   (F:ExcBaseFacts B nid initId bmB) (T:OwnTail h bmB bm)
   (hC:h.get? C=some (excClassObj nm q C N bs bm hdct sn sub ab col dd k0 k1 k2 k3 k5 newId))
   (hi:PySem.W.Looks (model prog w) h (typeLookup (.ref C) "__init__") (some (.ref fI))) (hfI:h.get? fI=some oI) (hfc:oI.cls=.type "function")
   (hq:∀h' e,h.objs.size<=e->Heap.MadeExcOf h h' e (.ref C) rest->
     wpAny (model prog w) A (call (.ref fI) (.ref e::rest)) (λr s'=>r=.none/\Q (.done (.ret (.ref e))) s') E ⟨h',g,d,t,os⟩)
   (hz:rest.length<=sizeLine):
   wpAny (model prog w) A (Builtin.«type.__call__» ⟨.ref C::rest,[]⟩) Q E ⟨h,g,d,t,os⟩:=by
 repeat (first
   | with_reducible refine wpAny_loadPart_at hC ?_
   | with_reducible refine wpAny_madeBy_exc hC ?_
   | wp_step)
 refine codeAny_call_builtin_code (Code.quiet_builtin _ Fn.quiet) (wpAny_check_new_subU Fn hBn T hC
   (codeAny_exc_new_subU Fn hBn F T hC ?_ hz))
 show wpAny _ _ _ _ _ _
 have k:∀b o,h.get? b=some o->((h.push (qad rest)).push (ML C h.objs.size)).get? b=some o:=λb o e=>
   tz _ (tz _ e)
 have c1:=k _ _ hC
 have f1:=k _ _ hfI
 have i1:=hi.keeps k
 have e1:((h.push (qad rest)).push (ML C h.objs.size)).get? (h.objs.size+1)=some (ML C h.objs.size):=by heap_get
 have hcC:(Value.ref C::bm).contains (.ref C)=true:=by simp
 unfold isInstance
 repeat (first
   | with_reducible refine wpAny_loadPart_at e1 ?_
   | (with_reducible refine wpAny_isSubtype_exc c1 ?_;rw[hcC])
   | wp_step)
 show wpAny _ _ (typeLookup (.ref C) _) _ _ _
 refine i1.at ?_
 refine wpAny_holding (wpAny_bind ?_)
 unfold bindSpecial
 refine wpAny_bind (wpAny_typeOf (T:="function") ⟨_,f1,hfc⟩ ?_)
 rw[if_pos (by decide)]
 refine wpAny_pure (wpAny_bind (ja (hq _ (h.objs.size+1) (zdw _) ⟨k,zcz (zdw _),h.objs.size,e1,zcz (tq _),?_⟩) λr s' hr=>?_))
 . exact tz _ (Heap.get?_push_at rfl rfl)
 . obtain⟨rfl,hQ⟩:=hr
   wp_walk
   exact hQ
theorem xO {Q:Value->Shared->Prop} (Fn:ExcBaseFacts Bn newId inN bmN) (hBn:bmB.contains (.type Bn)=true)
   (F:ExcBaseFacts B nid initId bmB) (T:OwnTail h bmB bm)
   (hC:h.get? C=some (excClassObj nm q C N bs bm hdct sn sub ab col dd k0 k1 k2 k3 k5 newId))
   (hi:PySem.W.Looks (model prog w) h (typeLookup (.ref C) "__init__") (some (.ref fI))) (hfI:h.get? fI=some oI) (hfc:oI.cls=.type "function")
   (hq:∀h' e,h.objs.size<=e->Heap.MadeExcOf h h' e (.ref C) rest->
     wpAny (model prog w) (A.under (.builtin "type.__call__" ⟨.ref C::rest,[]⟩)) (call (.ref fI) (.ref e::rest)) (λr s'=>r=.none/\Q (.ref e) s') E ⟨h',g,d,t,os⟩)
   (hz:rest.length<=sizeLine):
   wpAny (model prog w) A (call (.ref C) rest) Q E ⟨h,g,d,t,os⟩:=by
 have a1:=tc_lookup
 have a2:=tc_bind (.ref C)
 have a3:(⟨h,g,d,t,os⟩:Shared).TypeIs (.ref C) "type":=⟨_,hC,rfl⟩
 refine wpAny_call (codeAny_of_tree ?_)
 show wpAny _ _ (callAny (.ref C) _) _ _ _
 repeat (any_goals (first
   | assumption
   | with_reducible refine wpAny_loadPart_at hC ?_
   | wp_step))
 refine⟨rfl,codeAny_call_builtin_at (Code.quiet_builtin _ (by decide+kernel)) entry_typeCall
   (wpAny_check_type_call_sub hC (US Fn hBn F T hC hi hfI hfc (λh' e he hm=>?_) hz))⟩
 exact hq h' e he hm
end
open PySem PySem.W PyProof.Rows Builtin Builtin.ObjectAttr
structure VJ (K:Frag) (C:Addr) (bm:List Value):Prop where
 ga:findIn K (.ref C) "__getattribute__"=some (some (.builtin "BaseException.__getattribute__"))
 gt:findIn K (.ref C) "__getattr__"=some none
 sa:findIn K (.ref C) "__setattr__"=some (some (.builtin "object.__setattr__"))
 hd:hasDictIn K C=true
 mr:∃cd,clsIn K C=some cd/\cd.mro=.ref C::bm
 mb:mroIn K C (.type "BaseException")=some true
 mo:mroIn K C (.type "object")=some true
 cl:findIn K (.ref C) "__class__"=some (some (.builtin "object.__class__"))
def U5:List Value->Prop
 | .ref _::r=>U5 r
 | l=>l=[.type "ValueError",.type "Exception",.type "BaseException",.type "object"]
theorem kK (self:Value):∀{l:List Value},U5 l->refuseLoop self "__setattr__" l=pure ()
 | .ref c::r,e=>by rw[refuseLoop_ref];exact kK self (l:=r) e
 | [],e=>nomatch (show ([]:List Value)=[.type "ValueError",.type "Exception",.type "BaseException",.type "object"] from e)
 | .type n::r,e=>by
   have e':(Value.type n::r)=[.type "ValueError",.type "Exception",.type "BaseException",.type "object"]:=e
   rw[e'];kernel_rfl
 | .none::r,e=>by have e':(Value.none::r)=[.type "ValueError",.type "Exception",.type "BaseException",.type "object"]:=e;cases e'
 | .bool _::r,e=>by have e':_=[Value.type "ValueError",.type "Exception",.type "BaseException",.type "object"]:=e;cases e'
 | .int _ _::r,e=>by have e':_=[Value.type "ValueError",.type "Exception",.type "BaseException",.type "object"]:=e;cases e'
 | .float _ _::r,e=>by have e':_=[Value.type "ValueError",.type "Exception",.type "BaseException",.type "object"]:=e;cases e'
 | .str _ _::r,e=>by have e':_=[Value.type "ValueError",.type "Exception",.type "BaseException",.type "object"]:=e;cases e'
 | .bytes _ _::r,e=>by have e':_=[Value.type "ValueError",.type "Exception",.type "BaseException",.type "object"]:=e;cases e'
 | .builtin _::r,e=>by have e':_=[Value.type "ValueError",.type "Exception",.type "BaseException",.type "object"]:=e;cases e'
section
variable {prog:Program} {w:World} {A:Around} {E:Value->Shared->Prop} {s:Shared} {K:Frag} {x C:Addr} {ox:Obj} {od:Option Obj} {bm:List Value} {name:Str} {v:Value}
theorem GK {tk:Tok} {R:Result->Shared->Prop} (X:K.In s.heap) (I:InstAt s.heap x ox C od) (c:VJ K C bm) (hb:U5 bm) (ht:findIn K (.ref C) name=some none)
   (h:∀b,wpAny (model prog w) A.in1 (storeInOwnDict (.ref x) (.ref C) (.str name tk) name v b)
     (λfin s'=>match fin with | .done f=>R (.ok f) s' | .again c'=>c'.quiet=true/\codeAny (model prog w) A c' R s') (λe s'=>R (.error e) s') s):
   codeAny (model prog w) A (.call (.builtin "object.__setattr__") ⟨[.ref x,.str name tk,v],[]⟩) R s:=by
 have SF:=PySem.F.store_object
 obtain⟨cd,hc,hm⟩:=c.mr
 have sub:Looks (model prog w) s.heap (isInstance (.ref x) (.type "object")) true:=I.type.andThen (looks_mroIn X c.mo)
 refine codeAny_call_builtin SF.slot.plain SF.entry
   (@check_slot (model prog w) _ _ s "object.__setattr__" "object" "__setattr__" (.ref x) [.str name tk,v] [] _ SF.kind SF.split sub (SF.args (.ref x) (.str name tk) v) ?_)
 have lm:Looks (model prog w) s.heap (mroOf (.ref C)) cd.mro:=(looks_clsIn X hc).andThen .now
 rw[osa_eq,refuse_eq]
 refine wpAny_bind (wpAny_bind (I.type.here (wpAny_bind (lm.here ?_))))
 rw[hm,refuseLoop_ref,kK _ hb]
 refine wpAny_pure (wpAny_bind (I.type.here (wpAny_bind ((looks_findIn X ht).here ?_))))
 exact wpAny_bind (wpAny_pure (h _))
theorem wG {Q:Unit->Shared->Prop} (X:K.In s.heap) (hx:s.heap.get? x=some ox) (hc:ox.cls=.ref C) (hdc:ox.dict=none) (hda:∃fl,ox.data=.fields fl) (c:VJ K C bm) (hb:U5 bm) (ht:findIn K (.ref C) name=some none)
   (h:∀h' tk,h'.get? x=some {ox with dict:=some s.heap.objs.size}->h'.Ns1 s.heap.objs.size (λy=>if y=name then some v else none)->
     (∀b o,b≠x->s.heap.get? b=some o->h'.get? b=some o)->Q () {s with heap:=h',toks:=tk}):
   wpAny (model prog w) A (setAttr (.ref x) name v) Q E s:=by
 obtain⟨fl,hfl⟩:=hda
 obtain⟨oc,odi,oda,osl⟩:=ox
 dsimp only at hc hdc hfl
 subst hc hdc hfl
 have I:InstAt s.heap x ⟨.ref C,none,.fields fl,osl⟩ C none:=⟨hx,rfl,rfl,trivial⟩
 refine set_plain X I c.sa (GK (s:={s with toks:=s.toks+1}) X I c hb ht λb=>?_)
 obtain⟨cd,hcd,hdd⟩:=any_some c.hd
 refine wpAny_bind (wpAny_pure (wpAny_bind (wpAny_bind (wpAny_loadPart hx (wpAny_bind (Looks.here (s:={s with toks:=s.toks+1}) (looks_clsIn X hcd) ?_))))))
 rw[hdd]
 have hne:x≠s.heap.objs.size:=tR (tP hx)
 have h1:=tz zaW hx
 refine wpAny_bind (wpAny_alloc (wpAny_bind (wpAny_update h1 ?_)))
 generalize hh2:(s.heap.push emptyDict).update x (λo=>{o with dict:=some s.heap.objs.size})=h2
 have e2:h2.get? x=some ⟨.ref C,some s.heap.objs.size,.fields fl,osl⟩:=by rw[<-hh2];exact zaD _ h1 rfl
 have k2:∀b o,b≠x->(s.heap.push emptyDict).get? b=some o->h2.get? b=some o:=λb o hb e=>by rw[<-hh2,zai _ _ (Ne.symm hb)];exact e
 have n0:(s.heap.push emptyDict).Ns s.heap.objs.size (λ_=>none):=⟨emptyDict,#[],_,tZ s.heap rfl,rfl,(λe he=>absurd he (by simp)),λ_=>rfl⟩
 have n2:h2.Ns1 s.heap.objs.size (λ_=>none):=(Heap.Ns1.of_empty n0).at λo q=>k2 _ o (Ne.symm hne) q
 refine wpAny_pure (a:=some s.heap.objs.size) (wpAny_bind (wpAny_pure (wpAny_bind ?_)))
 refine wpAny_nsSet1 (s:={s with heap:=h2,toks:=s.toks+1}) n2 λh' hn2 hs2=>?_
 obtain⟨oD,esD,epD,hoD,hdD,hcD⟩:=hn2.count (PySem.Within.cons name v PySem.Within.nil)
 refine wpAny_bind (wpAny_lookBehind hoD (by rw[hdD];exact pastItsLine_dict (zaa hcD (by show 1<=sizeLine+1;decide))) ?_)
 refine wpAny_pure (h h' (s.toks+1+1) ((hs2.2 x hne).trans e2) hn2 λb o hb e=>?_)
 exact(hs2.2 b (tR (tP e))).trans (k2 b o hb (tz _ e))
theorem RO {fill expr:Bool} {tk:Tok} {Q:Value->Shared->Prop} (X:K.In s.heap) (I:InstAt s.heap x ox C od) (c:VJ K C bm)
   (h:wpAny (model prog w) A.in1 (Builtin.«object.__getattribute__» ⟨[.ref x,.str name tk],[]⟩) (λfin s'=>match fin with | .done (.ret u)=>handedIn u=true/\Q u s' | _=>False) (λ_ _=>False) s):
   wpAny (model prog w) A (getAttrBy (.ref x) (.str name tk) fill expr) Q E s:=by
 have ga:=PySem.F.attr_ValueError.ga
 have L1:=looks_findIn (M:=model prog w) X c.ga
 have L2:=looks_findIn (M:=model prog w) X c.gt
 have hk:builtinKind "BaseException.__getattribute__"=some .slot:=by decide+kernel
 have hs:splitId "BaseException.__getattribute__"=some ("BaseException","__getattribute__"):=by decide+kernel
 have sub:Looks (model prog w) s.heap (isInstance (.ref x) (.type "BaseException")) true:=I.type.andThen (looks_mroIn X c.mb)
 unfold getAttrBy
 refine wpAny_holding (wpAny_bind (I.type.here (wpAny_bind (L1.here ?_))))
 dsimp only
 have eb:(Value.builtin "BaseException.__getattribute__"==Value.builtin "object.__getattribute__")=false:=by decide+kernel
 rw[if_neg (by rw[eb,Bool.and_false];decide)]
 unfold getAttrByItsOwn
 refine wpAny_bind (show wpAny _ _ (hookBefore (.ref C)) _ _ _ from L2.here ?_)
 refine wpAny_bind (wpAny_attempt (wpAny_holding ?_))
 unfold callGetattribute
 have e0:(expr&&onTheHeap (Value.builtin "BaseException.__getattribute__"))=false:=by cases expr<;>rfl
 rw[if_neg (by rw[e0];decide)]
 unfold boundAndCalled
 rw[ga.bind]
 refine wpAny_bind (wpAny_pure ?_)
 refine wpAny_call (codeAny_call_builtin ga.plain PySem.F.entry_bexc_ga
   (@check_slot (model prog w) _ _ s "BaseException.__getattribute__" "BaseException" "__getattribute__" (.ref x) [.str name tk] [] _ hk hs sub (PySem.F.args_bexc_ga _ _) ?_))
 refine wpAny_mono h (λfin s' z=>?_) λ_ _ z=>z.elim
 cases fin with
 | again c'=>exact z.elim
 | done f=>
   cases f with
   | next=>exact z.elim
   | brk=>exact z.elim
   | cont=>exact z.elim
   | ret u=>
     obtain⟨hh,q⟩:=z
     show wpAny _ _ (handedOut u) _ _ _
     rw[handedOut_of hh]
     exact wpAny_pure q
theorem RN {expr:Bool} {Q:Value->Shared->Prop} {odd:Obj} (X:K.In s.heap) (I:InstAt s.heap x ox C (some odd)) (c:VJ K C bm) (ha:findIn K (.ref C) name=some none) (hl:lookIn name odd=some (some v)) (hv:handedIn v=true)
   (h:Q v {s with toks:=s.toks+1}):wpAny (model prog w) A (getAttr (.ref x) name expr) Q E s:=by
 have hf:findObj K C (some odd) name=some (.value v):=findObj_own c.hd ha rfl hl
 have LF:=looks_find (M:=model prog w) X I hf
 unfold getAttr
 refine wpAny_bind (wpAny_mkText (RO (s:={s with toks:=s.toks+1}) X I c ?_))
 unfold Builtin.«object.__getattribute__»
 refine wpAny_bind (wpAny_pure (wpAny_bind (wpAny_pure (wpAny_bind (Looks.here (s:={s with toks:=s.toks+1}) I.type (wpAny_bind (Looks.here (s:={s with toks:=s.toks+1}) LF ?_)))))))
 exact wpAny_pure ⟨hv,h⟩
end
open PySem PySem.W PyProof.Rows Builtin Builtin.ObjectAttr
section
variable {K:Frag} {x C:Addr} {ox odd:Obj} {bm:List Value}
end
def zI (e C:Addr):HO:=.ext λh=>∃fl,h.get? e=some {cls:=.ref C,data:=.fields fl}/\fl[1]?=some Value.none
def Qm (e C dx:Addr) (hd:Value):HO:=.ext λh=>∃fl,h.get? e=some {cls:=.ref C,dict:=some dx,data:=.fields fl}/\fl[1]?=some hd
abbrev JB (e C dx:Addr):HO:=Qm e C dx .none
def jS:List Value:=[.type "ValueError",.type "Exception",.type "BaseException",.type "object"]
structure EMk (K:PySem.W.Frag) (C f:Addr) (bm:List Value):Prop where
 obj:∃nm q N bs hdct sn sub ab col dd k0 k1 k2 k3 k5,K.lookup C=some (excClassObj nm q C N bs bm hdct sn sub ab col dd k0 k1 k2 k3 k5 "ValueError.__new__")
 tail:∀h:Heap,K.In h->OwnTail h jS bm
 init:tJ K (.ref C) "__init__"=some (some (.ref f))
 fn:zau K (.ref f)=true
 kp:zav K (.ref C)=true
section
variable {P:Program} {w:World} {H:Hp} {h h':Heap} {e C dx:Addr}
theorem RV (he:∃fl,h.get? e=some {cls:=.ref C,data:=.fields fl}/\fl[1]?=some Value.none):qI P w H h e (zI e C):=by
 obtain⟨fl,q,z⟩:=he
 exact⟨⟨fl,q,z⟩,⟨_,q⟩,λh1 h2 ⟨fl',q',z'⟩ k=>⟨fl',k _ q',z'⟩⟩
theorem Zw {hd:Value} (he:∃fl,h.get? e=some {cls:=.ref C,dict:=some dx,data:=.fields fl}/\fl[1]?=some hd):qI P w H h e (Qm e C dx hd):=by
 obtain⟨fl,q,z⟩:=he
 exact⟨⟨fl,q,z⟩,⟨_,q⟩,λh1 h2 ⟨fl',q',z'⟩ k=>⟨fl',k _ q',z'⟩⟩
end
section
variable {X:Cx} {pins:List (Addr×Obj)} {σ:St} {H:Hp} {s:Shared} {e C dx:Addr} {f:Str} {bm:List Value} {y v:V} {u:Value} {A:Around} {E:Value->Shared->Prop}
theorem qz.excSet {h':Heap} {t':Nat} {fs:List (Str×V)} (I:qz X pins σ H s) (hH:H e=some (zI e C)) (hd:s.heap.objs.size<=dx)
   (h1:∃fl,h'.get? e=some {cls:=.ref C,dict:=some dx,data:=.fields fl}/\fl[1]?=some Value.none) (h2:∃mA,h'.Ns1 dx mA/\∀f,JF (fs.lookup f) (mA f))
   (k:∀b o,b≠e->s.heap.get? b=some o->h'.get? b=some o):qz X pins σ (upd (upd H e (JB e C dx)) dx (.xd fs)) {s with heap:=h',toks:=t'}:=by
 have mu:MX (H e):=by rw[hH];exact trivial
 have heo:∃u,h'.get? e=some u:=let ⟨_,q,_⟩:=h1;⟨_,q⟩
 have hn:H dx=none:=I.hok.fresh hd
 have ne:dx≠e:=λz=>by rw[z,hH]at hn;cases hn
 have U:Un X.fs [] H (upd H e (JB e C dx)) s.heap h':=Un.write mu (.inl rfl) k heo
 have W:JK X.prog X.w (upd H e (JB e C dx)) h':=I.hok.write mu (.inl rfl) k heo (Zw h1)
 have hn2:(upd H e (JB e C dx)) dx=none:=by rw[qg ne];exact hn
 have nb:∀b o,s.heap.get? b=some o->b≠dx:=λb o q=>tR (tO (tP q) hd)
 refine I.un ⟨U.keep,U.slot,λb o q n hx=>?_,U.there,λb xs q=>?_,λb o z q=>?_,λb ps q=>?_⟩ λb o q=>?_
 . rw[qg (nb b o q)];exact U.free b o q n hx
 . have:=U.tups b xs q
   rw[qg (qp this hn2)];exact this
 . have:=U.frzs b o z q
   rw[qg (qp this hn2)];exact this
 . obtain⟨m,q'⟩:=U.tbls b ps q
   exact⟨m,by rw[qg (qp q' hn2)];exact q'⟩
 . by_cases hb:b=dx
   . subst hb
     rw[qd]at q
     cases q
     exact h2
   . rw[qg hb]at q
     exact(W b o q).stay (λ_ _ _ z=>z) (λc z=>by rw[qg (qp z hn2)];exact z) λc xs z=>by rw[qg (qp z hn2)];exact z
theorem yJ {Q:Unit->Shared->Prop} (I:qz X pins σ H s) (hH:H e=some (zI e C)) (c:VJ X.K C bm) (hb:U5 bm) (n:jX X.K C f) (ry:qP y u)
   (h:∀dx s',H dx=none->qz X pins σ (upd (upd H e (JB e C dx)) dx (.xd [(f,y)])) s'->Q () s'):wpAny (model X.prog X.w) A (setAttr (.ref e) f u) Q E s:=by
 obtain⟨⟨fl,he,hz⟩,_,_⟩:=(show qI X.prog X.w H s.heap e (zI e C) from I.hok e _ hH)
 refine wG I.kIn he rfl rfl ⟨fl,rfl⟩ c hb n λh' tk e1 e2 e3=>?_
 refine h s.heap.objs.size _ (I.hok.fresh (tq _)) (I.excSet hH (tq _) ⟨fl,e1,hz⟩ ⟨_,e2,λg=>?_⟩ e3)
 by_cases hg:g=f
 . subst hg
   rw[zay]
   simp only[beq_self_eq_true,if_true]
   exact ry
 . have hb':(g==f)=false:=beq_eq_false_iff_ne.mpr hg
   rw[zay]
   simp only[hb',hg,if_false]
   exact trivial
theorem xF {b:Bool} {Q:Value->Shared->Prop} {fs:List (Str×V)} {hd:Value} (I:qz X pins σ H s) (hH:H e=some (Qm e C dx hd)) (hx:H dx=some (.xd fs)) (c:VJ X.K C bm) (n:jX X.K C f) (l:fs.lookup f=some v)
   (h:∀u s',qz X pins σ H s'->qP v u->Q u s'):wpAny (model X.prog X.w) A (getAttr (.ref e) f b) Q E s:=by
 obtain⟨⟨fl,he,_⟩,_,_⟩:=(show qI X.prog X.w H s.heap e (Qm e C dx hd) from I.hok e _ hH)
 obtain⟨mA,hn,hr⟩:=(show qI X.prog X.w H s.heap dx (.xd fs) from I.hok dx _ hx)
 obtain⟨od,ho,hl⟩:=Wu hn
 have r:=hr f
 rw[l]at r
 obtain⟨u,eu,ru⟩:=JF.some_of r
 exact RN I.kIn ⟨he,rfl,rfl,ho⟩ c n (by rw[hl,eu]) (Wy ru) (h u _ (I.tok _) ru)
end
def qbN (K:PySem.W.Frag) (bm:List Value) (ta tv:TE) (f:Str):TS:=λD σ H=>tv σ H λy H1=>ta σ H1 λx H2=>∃a C,x=.ref a/\H2 a=some (zI a C)/\VJ K C bm/\U5 bm/\jX K C f/\
 ∀dx,H2 dx=none->D.nx σ (upd (upd H2 a (JB a C dx)) dx (.xd [(f,y)]))
section
variable {X:Cx} {CX:WP} {k:Nat} {C fI:Addr} {fd:FuncData} {ps:List Str} {sp:Sp} {E:XK} {x f:Str} {o e value:Expr} {es:List Expr} {p pos pos':Pos} {ta tv:TE} {t:TA} {bm:List Value}
theorem vi (ha:JE X o ta) (hv:JE X value tv) (hs:swapsWith value (some (.Attribute o f pos')) pos.line X.env=pure false):JS X (.Assign [.Attribute o f pos'] value pos) (qbN X.K bm ta tv f):=.of (by
 have ha:=ha.to
 have hv:=hv.to
 intro pins s σ H D I h
 refine plainObj_wpAny_Assign_Attribute (ja (hv pins s σ H _ I h) λu s1 ⟨y,H1,I1,ry,q⟩=>
   ja (ha pins s1 σ H1 _ I1 q) λov s2 ⟨x,H2,I2,rx,a,C,ex,ea,c,hb,n,q2⟩=>?_) hs
 subst ex
 obtain rfl:ov=Value.ref a:=rx
 exact yJ I2 ea c hb n ry λdx s3 hdx I3=>⟨σ,_,I3,q2 dx hdx⟩)
theorem yO {pins:List (Addr×Obj)} {σ:St} {H:Hp} {s:Shared} {Q:VK} {us:List Value} {vs:List V} (M:EMk X.K C fI bm) (F:qo X.prog X.w X.K X.mg X.base CX k fI fd ps sp) (hr:qR (k+1) X.A) (hb:jO X.K fd ps [])
   (hx:Qi CX X E) (I:qz X pins σ H s) (r:qE vs us) (hz:us.length<=sizeLine)
   (h:∀x,H x=none->sp (.ref x::vs) (upd H x (zI x C)) (λv H2=>v=.non/\Q (.ref x) H2) E):
   wpAny (model X.prog X.w) X.A (call (.ref C) us) (EP X pins σ Q) X.xe s:=by
 obtain⟨nm,q,N,bs,hdct,sn,sub,ab,col,dd,k0,k1,k2,k3,k5,hC⟩:=M.obj
 have hfn:zdU X.K (.ref fI)=some (.type "function"):=beq_iff_eq.mp M.fn
 obtain⟨oI,ho,hoc⟩:=zbK.mp hfn
 have KX:=I.kIn
 obtain⟨hp,g,d,tk,os⟩:=s
 refine xO zcN (by decide+kernel) zcN (M.tail _ KX) (KX _ _ hC) (zdv KX M.init) (KX _ _ ho) hoc (λh' ex hle hm=>?_) hz
 obtain⟨t0,ht,_,_⟩:=hm.there
 have I2:qz X pins σ (upd H ex (zI ex C)) ⟨h',g,d,tk,os⟩:=I.laid (t':=tk) hm.keeps hle (RV ⟨_,ht,rfl⟩)
 have hq:=h ex (I.hok.fresh hle)
 have r2:qE (V.ref ex::vs) (Value.ref ex::us):=.cons rfl r
 have hl:(Value.ref ex::us++[]).length=ps.length:=by
   have e:=r2.length
   rw[F.len _ _ _ _ hq]at e
   rw[zaH]
   exact e.symm
 have bb:=hb ⟨h',g,d,tk,os⟩ (Value.ref ex::us) I2.kIn hl
 rw[zaH]at bb
 refine wpAny_call (codeAny_mono (F.run _ X.stack _ _ ⟨Value.ref ex::us,[]⟩ (Value.ref ex::us) _ _ E (hr.make C us []) (I2.env0.make C us []) bb r2 hq) λr s' hq'=>?_)
 cases r with
 | error z=>exact hx pins σ _ _ z s' I2 hq'
 | ok fl=>
   cases fl with
   | ret u=>
     obtain⟨v,H',I3,rv,ev,q3⟩:=I2.after hq'
     subst ev
     exact⟨rv,⟨V.ref ex,H',I3,rfl,q3⟩⟩
   | next=>exact False.elim hq'
   | brk=>exact False.elim hq'
   | cont=>exact False.elim hq'
theorem Xr (M:EMk X.K C fI bm) (F:qo X.prog X.w X.K X.mg X.base CX k fI fd ps sp) (hr:qR (k+1) X.A) (hg:Gl X x) (hm:X.mg x=some (.ref C)) (hb:jO X.K fd ps []) (hx:Qi CX X E) (ha:JA X (e::es) t) (hz:(e::es).length<=1000:=by decide) (hv:∀vs us,qE vs us->vs.length<=sizeLine->us.length<=sizeLine:=by intro vs us r h;rw[<-r.length];exact h) (hdb:(x==("__debug__":Str))=false:=by decide) (he:starEach (e::es) X.env=(false,eval e X.env)::starEach es X.env:=by rfl) (hpl:(backTo pos (starEach es X.env)).any (·.1)=false:=by rfl):JE X (.Call (.Name x p) (e::es) [] pos) (λσ H Q=>t σ H λvs H1=>vs.length<=sizeLine/\∀x,H1 x=none->sp (.ref x::vs) (upd H1 x (zI x C)) (λv H2=>v=.non/\Q (.ref x) H2) E):=.of (by
 have ha:=ha.to
 intro pins s σ H Q I h
 refine wpAny_Call_Name_kw (Yo I hg hm ?_ hdb)
 refine zbn (h₀:=X.base) I.ok.mod.kin M.kp (ja (ha pos pins s σ H _ I h) λus s1 ⟨vs,H1,I1,r,q⟩=>⟨I1.kIn,?_⟩) he hpl
 exact yO M F hr hb hx I1 r (hv vs us r q.1) q.2)
end
def neL (xs ys:List V):Bool:=if xs.length=ys.length then !((tM xs.length).all λj=>yg (xs.getD j .non) (ys.getD j .non)) else true
mutual
inductive DV (K:PySem.W.Frag) (H:Hp):V->PyData->Prop
 | non:DV K H .non .none
 | bl (b:Bool):DV K H (.bl b) (.bool b)
 | int (i:Int):DV K H (.int i) (.int i)
 | str (x:Str):DV K H (.str x) (.str x)
 | lst {a:Addr} {xs:List V} {ds:List PyData}:SqL K H a xs->DVs K H xs ds->DV K H (.ref a) (.list ds)
 | tup {a:Addr} {xs:List V} {ds:List PyData}:SqT K H a xs->DVs K H xs ds->DV K H (.ref a) (.tuple ds)
inductive DVs (K:PySem.W.Frag) (H:Hp):List V->List PyData->Prop
 | nil:DVs K H [] []
 | cons {x:V} {xs:List V} {d:PyData} {ds:List PyData}:DV K H x d->DVs K H xs ds->DVs K H (x::xs) (d::ds)
end
section
variable {X:Cx} {pins:List (Addr×Obj)} {σ:St} {H:Hp} {s:Shared}
mutual
theorem DV.reads (I:qz X pins σ H s):∀{x:V} {d:PyData},DV X.K H x d->∀{u:Value},qP x u->∃as,Reads s.heap u d as
 | _,_,.non,u,r=>by cases (show u=Value.none from r);exact⟨_,.none⟩
 | _,_,.bl b,u,r=>by cases (show u=Value.bool b from r);exact⟨_,.bool b⟩
 | _,_,.int i,u,r=>by obtain⟨t,q⟩:=(show ∃t,u=Value.int i t from r);subst q;exact⟨_,.int i t⟩
 | _,_,.str x,u,r=>by obtain⟨t,q⟩:=(show ∃t,u=Value.str x t from r);subst q;exact⟨_,.str x t⟩
 | _,_,.lst (a:=a) hq hs,u,r=>by
   cases (show u=Value.ref a from r)
   obtain⟨its,rv,⟨o,n,e,hc,hd,hda⟩,hz⟩:=I.list hq
   obtain⟨as,ra⟩:=DVs.reads I hs rv
   exact⟨_,.list e hc hda (by simpa using ra)⟩
 | _,_,.tup (a:=a) hq hs,u,r=>by
   cases (show u=Value.ref a from r)
   obtain⟨its,rv,⟨o,e,hc,n,hda⟩,hz⟩:=I.tuple hq
   obtain⟨as,ra⟩:=DVs.reads I hs rv
   exact⟨_,.tuple e hc hda (by simpa using ra)⟩
theorem DVs.reads (I:qz X pins σ H s):∀{xs:List V} {ds:List PyData},DVs X.K H xs ds->∀{us:List Value},qE xs us->∃as,ReadsAll s.heap us ds as
 | _,_,.nil,_,.nil=>⟨_,.nil⟩
 | _,_,.cons h hs,_,.cons r rs=>by
   obtain⟨as,a⟩:=DV.reads I h r
   obtain⟨bs,b⟩:=DVs.reads I hs rs
   exact⟨_,.cons a b⟩
end
end
structure vI (fs:List Addr) (ex:List Addr) (h h':Heap):Prop where
 keep:∀b o,b∉fs->b∉ex->h.get? b=some o->h'.get? b=some o
 slot:∀b o,b∈fs->b∉ex->h.get? b=some o->∃sl,h'.get? b=some {o with slots:=sl}
def KA (T:Addr) (fl:Value) (h:Heap):Prop:=∃ts,h.get? T=some {cls:=.type "traceback",data:=.fields ts}/\ts[3]?=some fl
section
variable {M:Model} {A:Around} {E:Value->Shared->Prop} {s:Shared} {base:Heap} {env:Env} {outer:List Env} {L e:Addr} {cl head:Value} {d:Option Addr} {vs:Array Value} {had:Bool} {Q:Unit->Shared->Prop}
theorem x3 (fr:A.frames=some (env::outer)) (ff:s.heap.FunFrames base (env::outer)) (fm:env.frame=some L)
   (he:s.heap.get? e=some {cls:=cl,dict:=d,data:=.fields vs}) (sz:1 < vs.size)
   (k:∀h' T,s.heap.objs.size<=T->vI (zZ (env::outer)) [e] s.heap h'->h'.get? e=some {cls:=cl,dict:=d,data:=.fields (vs.setIfInBounds 1 (.ref T))}->KA T (rawInt L) h'->Q () {s with heap:=h'}):
   wpAny M A (frameOf env >>= λa=>entryPlaceOf L had >>= λpl=>EntryCells.newEntry head a .none (rawInt L) .none pl >>= λb=>setField (.ref e) 1 b) Q E s:=by
 have out:e∉zZ (env::outer):=λz=>by
   obtain⟨_,o,ho,nf⟩:=ff.mem z
   rw[he]at ho
   cases ho
   exact nf vs rfl
 refine wpAny_bind (wpAny_frameOf_fun fr ff fm λh1 so=>?_)
 refine wpAny_bind (wpAny_entryPlaceOf λpl ip=>?_)
 have e1:h1.get? e=some {cls:=cl,dict:=d,data:=.fields vs}:=(so.2.1 e out).trans he
 unfold EntryCells.newEntry newFields
 refine wpAny_bind (wpAny_newObj_type ?_ (ip.sizeOk5 _ _ _ _ _))
 have ne:e≠h1.objs.size:=tR (tP e1)
 refine wpAny_setField (tz _ e1) rfl sz (k _ h1.objs.size (zdj so.1.symm) ⟨λb o n1 n2 q=>?_,λb o n1 n2 q=>?_⟩ ?_ ⟨_,(zai _ _ ne).trans (tZ _ rfl),?_⟩)
 . have n3:b≠e:=λz=>n2 (by simp [z])
   rw[zai _ _ (Ne.symm n3)]
   exact tz _ ((so.2.1 b n1).trans q)
 . have n3:b≠e:=λz=>n2 (by simp [z])
   obtain⟨sl,r⟩:=so.2.2 b o q
   exact⟨sl,by rw[zai _ _ (Ne.symm n3)];exact tz _ r⟩
 . exact zaD _ (tz _ e1) rfl
 . rcases ip with rfl | ⟨_,_,_,_,_,_,_,rfl⟩<;>simp
theorem Uo (fr:A.frames=some (env::outer)) (ff:s.heap.FunFrames base (env::outer)) (fm:env.frame=some L)
   (he:s.heap.get? e=some {cls:=cl,dict:=d,data:=.fields vs}) (h1:vs[1]?=some .none)
   (k:∀h' T,s.heap.objs.size<=T->vI (zZ (env::outer)) [e] s.heap h'->h'.get? e=some {cls:=cl,dict:=d,data:=.fields (vs.setIfInBounds 1 (.ref T))}->KA T (rawInt L) h'->Q () {s with heap:=h'}):
   wpAny M A (noteFrame (.ref e) env) Q E s:=by
 unfold noteFrame
 simp only[fm]
 refine wpAny_bind (wpAny_field he rfl h1 ?_)
 rw[if_neg (show ¬((Value.none != Value.none)=true) by decide)]
 exact x3 fr ff fm he (zaj.mp h1).1 k
theorem xg {T:Addr} (fm:env.frame=some L) (he:s.heap.get? e=some {cls:=cl,dict:=d,data:=.fields vs}) (h1:vs[1]?=some (.ref T)) (st:KA T (rawInt L) s.heap) (k:Q () s):
   wpAny M A (noteFrame (.ref e) env) Q E s:=by
 obtain⟨ts,ht,h3⟩:=st
 unfold noteFrame
 simp only[fm]
 refine wpAny_bind (wpAny_field he rfl h1 ?_)
 rw[if_pos (show (Value.ref T != Value.none)=true by simp)]
 refine wpAny_bind (wpAny_field ht rfl h3 ?_)
 rw[if_pos (show (rawInt L==rawInt L)=true by simp [rawInt])]
 exact wpAny_pure k
theorem Vl {T:Addr} (fr:A.frames=some (env::outer)) (ff:s.heap.FunFrames base (env::outer)) (fm:env.frame=some L)
   (he:s.heap.get? e=some {cls:=cl,dict:=d,data:=.fields vs}) (h1:vs[1]?=some (.ref T)) (st:KA T .none s.heap) (ne:T≠e)
   (k:∀h' T',s.heap.objs.size<=T'->vI (zZ (env::outer)) [e,T] s.heap h'->(∃o,h'.get? T=some o)->h'.get? e=some {cls:=cl,dict:=d,data:=.fields (vs.setIfInBounds 1 (.ref T'))}->KA T' (rawInt L) h'->Q () {s with heap:=h'}):
   wpAny M A (noteFrame (.ref e) env) Q E s:=by
 obtain⟨ts,ht,h3⟩:=st
 unfold noteFrame
 simp only[fm]
 refine wpAny_bind (wpAny_field he rfl h1 ?_)
 rw[if_pos (show (Value.ref T != Value.none)=true by simp)]
 refine wpAny_bind (wpAny_field ht rfl h3 ?_)
 rw[if_neg (show ¬((Value.none==rawInt L)=true) by simp [rawInt])]
 refine wpAny_bind (wpAny_setField ht rfl (zaj.mp h3).1 ?_)
 have oth:∀b,b≠T->(s.heap.update T (Obj.mapFields (·.setIfInBounds 3 Value.none))).get? b=s.heap.get? b:=λb n=>zai _ _ (Ne.symm n)
 have tno:T∉zZ (env::outer):=λz=>by
   obtain⟨_,o,ho,nf⟩:=ff.mem z
   rw[ht]at ho
   cases ho
   exact nf ts rfl
 refine x3 fr (ff.of_keeps λb o hb nf=>⟨o,(oth b λz=>?_).trans hb,rfl⟩) fm ((oth e (Ne.symm ne)).trans he) (zaj.mp h1).1 λh' T' hT F q1 q2=>?_
 . rw[z,ht]at hb
   cases hb
   exact nf ts rfl
 . have upT:=zaD (Obj.mapFields (·.setIfInBounds 3 Value.none)) ht rfl
   refine k h' T' (zaa (zdj (by simp)) hT) ⟨λb o n1 n2 q=>?_,λb o n1 n2 q=>?_⟩ ⟨_,F.keep T _ tno (by simp [ne]) upT⟩ q1 q2
   . simp only[tV,zaz,or_false,not_or]at n2
     exact F.keep b o n1 (by simp [n2.1]) ((oth b n2.2).trans q)
   . simp only[tV,zaz,or_false,not_or]at n2
     exact F.slot b o n1 (by simp [n2.1]) ((oth b n2.2).trans q)
theorem J0 {T:Addr} {fl:Value} {fs:List Addr} (he:s.heap.get? e=some {cls:=cl,dict:=d,data:=.fields vs}) (h1:vs[1]?=some (.ref T)) (st:KA T fl s.heap)
   (k:∀h',vI fs [T] s.heap h'->KA T .none h'->Q () {s with heap:=h'}):wpAny M A (setFlight (.ref e) none) Q E s:=by
 obtain⟨ts,ht,h3⟩:=st
 have lt:=(zaj.mp h3).1
 refine wpAny_setFlight_none he rfl h1 ht rfl lt (k _ ⟨λb o _ n q=>?_,λb o _ n q=>⟨o.slots,?_⟩⟩ ⟨_,zaD _ ht rfl,by simp [lt]⟩)
 all_goals
   rw[zai _ _ λz=>n (by simp [z])]
   exact q
end
structure XM (ex:List Addr) (n:Nat) (H H':Hp):Prop where
 ext:∀b∈ex,∃φ,H b=some (.ext φ)
 same:∀b o,b∉ex->H b=some o->H' b=some o
 no:∀b,b < n->H b=none->H' b=none
section
variable {P:Program} {w:World} {fs ex:List Addr} {H H':Hp} {h h':Heap}
theorem XM.out {n:Nat} (t:XM ex n H H') {b:Addr} {o:HO} (q:H b=some o) (hn:∀φ,o≠.ext φ):b∉ex:=λz=>by
 obtain⟨φ,e⟩:=t.ext b z
 rw[q]at e
 cases e
 exact hn φ rfl
theorem XM.out0 {n:Nat} (t:XM ex n H H') {b:Addr} (q:H b=none):b∉ex:=λz=>by
 obtain⟨φ,e⟩:=t.ext b z
 rw[q]at e
 cases e
theorem Un.fly (F:vI fs ex h h') (t:XM ex h.objs.size H H') (th:∀b∈ex,∃o,h'.get? b=some o):Un fs [] H H' h h' where
 keep b o q n hf _:=F.keep b o hf (t.out0 n) q
 slot b o q n hf _:=F.slot b o hf (t.out0 n) q
 free b o q n _:=t.no b (tP q) n
 there b o q _:=by
   by_cases hb:b∈ex
   . exact th b hb
   . by_cases hf:b∈fs
     . obtain⟨sl,r⟩:=F.slot b o hf hb q
       exact⟨_,r⟩
     . exact⟨o,F.keep b o hf hb q⟩
 tups b xs q:=t.same b _ (t.out q (by intro φ z;cases z)) q
 frzs b o u q:=t.same b _ (t.out q (by intro φ z;cases z)) q
 tbls b ps q:=⟨#[],by simpa using t.same b _ (t.out q (by intro φ z;cases z)) q⟩
theorem JK.fly (ok:JK P w H h) (F:vI fs ex h h') (t:XM ex h.objs.size H H') (fr:∀b∈fs,H b=none) (new:∀b o,H' b=some o->(H b=none\/b∈ex)->qI P w H' h' b o):JK P w H' h':=λb o q=>by
 by_cases hb:b∈ex
 . exact new b o q (.inr hb)
 cases e:H b with
 | none=>exact new b o q (.inl e)
 | some u=>
   have r:=t.same b u hb e
   rw[q]at r
   cases r
   refine(ok b o e).stay (λc v hc g=>F.keep c v ?_ ?_ g) (λc z=>t.same c _ (t.out z (by intro φ z;cases z)) z) λc xs z=>t.same c _ (t.out z (by intro φ z;cases z)) z
   . intro z
     have n:=fr c z
     rcases hc with rfl | hc
     . rw[e]at n;cases n
     . rw[hc]at n;cases n
   . rcases hc with rfl | hc
     . exact hb
     . exact t.out hc (by intro φ z;cases z)
end
def XQ (T:Addr) (fl:Value):HO:=.ext (KA T fl)
theorem ZI {P:Program} {w:World} {H:Hp} {h:Heap} {T:Addr} {fl:Value} (x:KA T fl h):qI P w H h T (XQ T fl):=by
 obtain⟨ts,q,z⟩:=x
 exact⟨⟨ts,q,z⟩,⟨_,q⟩,λh1 h2 ⟨ts',q',z'⟩ k=>⟨ts',k _ q',z'⟩⟩
def Q9 (P:Program) (w:World):WP:=λouter H s E e s'=>∃a C dx T Hx H',e=.ref a/\s'.os=s.os/\AllBare s'.gens/\Un (zZ outer) [] H H' s.heap s'.heap/\JK P w H' s'.heap/\
 H' a=some (Qm a C dx (.ref T))/\H' T=some (XQ T .none)/\Hx T=none/\Hx a=some (JB a C dx)/\(∀b o,b≠a->Hx b=some o->H' b=some o)/\E (.ref C) (some dx) Hx
def VH (X:Cx) (E:XK):Prop:=∀(pins:List (Addr×Obj)) (σ:St) (H:Hp) (s:Shared) (a C dx:Addr),qz X pins σ H s->H a=some (JB a C dx)->E (.ref C) (some dx) H->X.xe (.ref a) s
section
variable {X:Cx} {pins:List (Addr×Obj)} {σ:St} {H H':Hp} {s:Shared} {h':Heap} {ex:List Addr}
theorem qz.flown (I:qz X pins σ H s) (F:vI (zZ X.stack) ex s.heap h') (t:XM ex s.heap.objs.size H H') (th:∀b∈ex,∃o,h'.get? b=some o)
   (new:∀b o,H' b=some o->(H b=none\/b∈ex)->qI X.prog X.w H' h' b o):qz X pins σ H' {s with heap:=h'}:=
 I.call (g':=s.gens) (t':=s.toks) (d':=s.drawn) (ch:=[]) (Un.fly F t th) (JK.fly I.hok F t I.stkFree new) I.bare λb z=>absurd z (by simp)
theorem vI.then {fs ex:List Addr} {h h1 h2:Heap} {T:Addr} (F:vI fs ex h h1) (G:vI fs [T] h1 h2) (hT:h.objs.size<=T):vI fs ex h h2 where
 keep b o n1 n2 q:=G.keep b o n1 (by simp;exact tR (tO (tP q) hT)) (F.keep b o n1 n2 q)
 slot b o n1 n2 q:=by
   obtain⟨sl,r⟩:=F.slot b o n1 n2 q
   obtain⟨sl',r'⟩:=G.slot b _ n1 (by simp;exact tR (tO (tP q) hT)) r
   exact⟨sl',r'⟩
end
section
variable {P:Program} {w:World} {K:PySem.W.Frag} {mg:Str->Option Value} {base:Heap} {N:List Str} {qual:Str} {scope:Scope} {f:Addr} {cd:Value} {A:Around} {outer:List Env} {s₀:Shared} {H₀:Hp} {E:XK}
theorem Zs:VH (Qw (Q9 P w) P w K mg base N qual scope f cd A outer s₀ H₀ E) E:=by
 intro pins σ H s a C dx I ha hE
 obtain⟨⟨fl,he,hz⟩,_,_⟩:=(show qI P w H s.heap a (Qm a C dx .none) from I.hok a _ ha)
 have fr:=I.ok.frames
 have ff:=I.stack
 show wpAny _ _ (leaving _ _) _ _ s
 unfold leaving
 refine wpAny_bind (Uo fr ff rfl he hz λh1 T hT F q1 q2=>?_)
 have lt:=(zaj.mp hz).1
 have g1:(fl.setIfInBounds 1 (Value.ref T))[1]?=some (.ref T):=by simp [lt]
 have nT:T≠a:=λz=>by
   obtain⟨ts,q,_⟩:=q2
   rw[z,q1]at q
   cases q
 refine J0 (fs:=zZ (Qw (Q9 P w) P w K mg base N qual scope f cd A outer s₀ H₀ E).stack) q1 g1 q2 λh2 F2 st=>?_
 have anf:a∉zZ (Qw (Q9 P w) P w K mg base N qual scope f cd A outer s₀ H₀ E).stack:=λz=>by
   have:=I.stkFree a z
   rw[ha]at this
   cases this
 have hTn:H T=none:=I.hok.fresh hT
 have q3:=F2.keep a _ anf (by simp [Ne.symm nT]) q1
 have I2:=I.flown (H':=upd (upd H a (Qm a C dx (.ref T))) T (XQ T .none)) (vI.then F F2 hT) ⟨λb hb=>by cases tX.mp hb;exact⟨_,ha⟩,λb o hb q=>by
     rw[qg (qp q hTn),qg λz=>hb (by simp [z])];exact q,λb hb q=>by
     rw[qg (tR (tO hb hT)),qg λz=>by rw[z,ha]at q;cases q];exact q⟩ (λb hb=>by cases tX.mp hb;exact⟨_,q3⟩) λb o q hb=>by
   by_cases e1:b=T
   . subst e1
     rw[qd]at q
     cases q
     exact ZI st
   . rw[qg e1]at q
     by_cases e2:b=a
     . subst e2
       rw[qd]at q
       cases q
       exact Zw ⟨_,q3,g1⟩
     . rw[qg e2]at q
       rcases hb with hb | hb
       . rw[q]at hb;cases hb
       . exact absurd (tX.mp hb) e2
 exact⟨a,C,dx,T,H,_,rfl,I2.os,I2.bare,I2.base,I2.hok,by rw[qg (Ne.symm nT),qd],qd ..,hTn,ha,λb o nb q=>by rw[qg (qp q hTn),qg nb];exact q,hE⟩
theorem QX:Qi (Q9 P w) (Qw (Q9 P w) P w K mg base N qual scope f cd A outer s₀ H₀ E) E:=by
 intro pins σ H s e s' I0 hc
 obtain⟨a,C,dx,T,Hx,H1,rfl,os,bare,un,hok,ha,ht,hxT,hxa,hx,hE⟩:=hc
 have I:qz (Qw (Q9 P w) P w K mg base N qual scope f cd A outer s₀ H₀ E) pins σ H1 s':=I0.call' os un hok bare λb z=>absurd z (by simp)
 obtain⟨⟨fl,he,hz⟩,_,_⟩:=(show qI P w H1 s'.heap a (Qm a C dx (.ref T)) from I.hok a _ ha)
 obtain⟨st0,_,_⟩:=(show qI P w H1 s'.heap T (XQ T .none) from I.hok T _ ht)
 have fr:=I.ok.frames
 have ff:=I.stack
 have nT0:T≠a:=λz=>by
   obtain⟨ts,q,_⟩:=st0
   rw[z,he]at q
   cases q
 show wpAny _ _ (leaving _ _) _ _ s'
 unfold leaving
 refine wpAny_bind (Vl fr ff rfl he hz st0 nT0 λh1 T' hT F tT q1 q2=>?_)
 have lt:=(zaj.mp hz).1
 have g1:(fl.setIfInBounds 1 (Value.ref T'))[1]?=some (.ref T'):=by simp [lt]
 have nT:T'≠a:=λz=>by
   obtain⟨ts,q,_⟩:=q2
   rw[z,q1]at q
   cases q
 refine J0 (fs:=zZ (Qw (Q9 P w) P w K mg base N qual scope f cd A outer s₀ H₀ E).stack) q1 g1 q2 λh2 F2 st=>?_
 have anf:∀b o,H1 b=some o->b∉zZ (Qw (Q9 P w) P w K mg base N qual scope f cd A outer s₀ H₀ E).stack:=λb o q z=>by
   have:=I.stkFree b z
   rw[q]at this
   cases this
 have hTn:H1 T'=none:=I.hok.fresh hT
 have nTT:T'≠T:=(qp ht hTn).symm
 have q3:=F2.keep a _ (anf a _ ha) (by simp [Ne.symm nT]) q1
 obtain⟨oT,hoT⟩:=tT
 have q4:=F2.keep T _ (anf T _ ht) (by simp [Ne.symm nTT]) hoT
 have I2:=I.flown (H':=upd (upd (upd H1 a (Qm a C dx (.ref T'))) T (.ext λh=>∃o,h.get? T=some o)) T' (XQ T' .none)) (vI.then F F2 hT) ⟨λb hb=>by
     simp only[tV,zaz,or_false]at hb
     rcases hb with rfl | rfl
     . exact⟨_,ha⟩
     . exact⟨_,ht⟩,λb o hb q=>by
     simp only[tV,zaz,or_false,not_or]at hb
     rw[qg (qp q hTn),qg hb.2,qg hb.1];exact q,λb hb q=>by
     rw[qg (tR (tO hb hT)),qg (λz=>by rw[z,ht]at q;cases q),qg (λz=>by rw[z,ha]at q;cases q)];exact q⟩ (λb hb=>by
     simp only[tV,zaz,or_false]at hb
     rcases hb with rfl | rfl
     . exact⟨_,q3⟩
     . exact⟨_,q4⟩) λb o q hb=>by
   by_cases e1:b=T'
   . subst e1
     rw[qd]at q
     cases q
     exact ZI st
   . rw[qg e1]at q
     by_cases e2:b=T
     . subst e2
       rw[qd]at q
       cases q
       exact⟨⟨_,q4⟩,⟨_,q4⟩,λh1 h2 ⟨u,z⟩ k=>⟨u,k u z⟩⟩
     . rw[qg e2]at q
       by_cases e3:b=a
       . subst e3
         rw[qd]at q
         cases q
         exact Zw ⟨_,q3,g1⟩
       . rw[qg e3]at q
         rcases hb with hb | hb
         . rw[q]at hb;cases hb
         . simp only[tV,zaz,or_false]at hb
           exact(hb.elim e3 e2).elim
 refine⟨a,C,dx,T',Hx,_,rfl,I2.os,I2.bare,I2.base,I2.hok,by rw[qg (Ne.symm nT),qg (Ne.symm nT0),qd],qd ..,?_,hxa,λb o nb q=>?_,hE⟩
 . cases e:Hx T' with
   | none=>rfl
   | some o=>
     have:=hx T' o nT e
     rw[hTn]at this
     cases this
 . have n1:b≠T:=λz=>by rw[z,hxT]at q;cases q
   have q':=hx b o nb q
   rw[qg (qp q' hTn),qg n1,qg nb]
   exact q'
end
section
variable {M:Model} {A:Around} {E:Value->Shared->Prop} {s:Shared} {env:Env} {C:Addr}
theorem yT {oC:Obj} {x:Sem Value} {Q:Flow->Shared->Prop} (hh:A.handled=none) (hcl:oC.cls=.type "type")
   (hs:∀(h:Heap) (g d t os) (Q:Bool->Shared->Prop),h.get? C=some oC->Q true ⟨h,g,d,t,os⟩->wpAny M A (isSubtype (.ref C) (.type "BaseException")) Q E ⟨h,g,d,t,os⟩)
   (h:wpAny M A x (λv s₁=>∃e dx fl,v=.ref e/\s₁.heap.get? C=some oC/\s₁.heap.get? e=some {cls:=.ref C,dict:=some dx,data:=.fields fl}/\fl[1]?=some Value.none/\E (.ref e) s₁) E s):
   wpAny M A (raiseStmt env (some x) none) Q E s:=by
 unfold raiseStmt
 refine wpAny_bind (ja h λv s₁ h₁=>?_)
 obtain⟨e,dx,fl,rfl,hC,he,hz,hE⟩:=h₁
 obtain⟨hp,g,d,tk,os⟩:=s₁
 repeat (first | with_reducible refine wpAny_loadPart_at he ?_ | with_reducible refine wpAny_loadPart_at hC ?_ | with_reducible refine hs _ _ _ _ _ _ hC ?_ | wp_step)
 rw[hz]
 refine wpAny_pure ?_
 rw[if_neg (show ¬((Value.none != Value.none)=true) by decide)]
 exact wpAny_pure (wpAny_raiseNew_none hh hE)
end
def xS (K:PySem.W.Frag) (C:Addr):Prop:=∃f bm,EMk K C f bm/\bm.contains (.type "BaseException")=true
def N0 (K:PySem.W.Frag) (E:XK) (te:TE):TS:=λD σ H=>te σ H λv H1=>∃a C dx,v=.ref a/\H1 a=some (JB a C dx)/\xS K C/\E (.ref C) (some dx) H1
section
variable {X:Cx} {E:XK} {e:Expr} {te:TE} {pos:Pos}
theorem Xp (hc:X.calm=true) (hx:VH X E) (he:JE X e te):JS X (.Raise (some e) none pos) (N0 X.K E te):=.of (by
 have he:=he.to
 intro pins s σ H D I h
 have key:∀x:Sem Value,wpAny (model X.prog X.w) X.A x (λu s1=>∃v H1,qz X pins σ H1 s1/\qP v u/\∃a C dx,v=.ref a/\H1 a=some (JB a C dx)/\xS X.K C/\E (.ref C) (some dx) H1) X.xe s->
     wpAny (model X.prog X.w) X.A (raiseStmt X.env (some x) none) (SP X pins D) X.xe s:=λx hw=>by
   unfold raiseStmt
   refine wpAny_bind (ja hw λu s1 ⟨v,H1,I1,rv,a,C,dx,ev,ha,⟨f,bm,em,hb⟩,hE⟩=>?_)
   subst ev
   obtain rfl:u=Value.ref a:=rv
   obtain⟨nm,q,N,bs,hdct,sn,sub,ab,col,dd,k0,k1,k2,k3,k5,hC⟩:=em.obj
   obtain⟨⟨fl,ho,hz⟩,_,_⟩:=(show qI X.prog X.w H1 s1.heap a (Qm a C dx .none) from I1.hok a _ ha)
   have hC':=I1.kIn _ _ hC
   have r:=yT (M:=model X.prog X.w) (A:=X.A) (E:=X.xe) (s:=s1) (env:=X.env) (C:=C) (x:=pure (.ref a)) (Q:=SP X pins D) (I1.ok.hd hc) rfl (λh g d t os Q z k=>wpAny_isSubtype_exc z (by
     rw[show (Value.ref C::bm).contains (.type "BaseException")=true by rw[zbp,hb,Bool.or_true]];exact k)) (wpAny_pure ⟨a,dx,fl,rfl,hC',ho,hz,hx pins σ H1 s1 a C dx I1 ha hE⟩)
   exact r
 rw[arm_exec_Raise]
 exact wpAny_bind (wpAny_standAt (key _ (wpAny_bind (ja (he pins s σ H _ I h) λu s1 q=>wpAny_bind (wpAny_standAt (wpAny_pure q)))))))
end
section
variable {M:Model} {A:Around} {E:Value->Shared->Prop}
theorem xJ {h:Heap} {g:Array GenState} {d:Drawn} {t:Nat} {os:OsState} {e C D:Addr} {oe oC:Obj} {ddc:Option Addr} {sld:Array (Option Value)} {cdd} {bC bD:List Value} {Q:Bool->Shared->Prop}
   (he:h.get? e=some oe) (hcls:oe.cls=.ref C) (hC:h.get? C=some oC) (hD:h.get? D=some ⟨.type "type",ddc,.cls cdd,sld⟩)
   (sC:∀(T:Value) (Q:Bool->Shared->Prop),Q (bC.contains T) ⟨h,g,d,t,os⟩->wpAny M A (isSubtype (.ref C) T) Q E ⟨h,g,d,t,os⟩)
   (sD:∀(T:Value) (Q:Bool->Shared->Prop),Q (bD.contains T) ⟨h,g,d,t,os⟩->wpAny M A (isSubtype (.ref D) T) Q E ⟨h,g,d,t,os⟩)
   (hB:bD.contains (.type "BaseException")=true)
   (hq:Q (bC.contains (.ref D)) ⟨h,g,d,t,os⟩):wpAny M A (excMatches (.ref e) (.ref D)) Q E ⟨h,g,d,t,os⟩:=by
 have f:=tc_notTuple
 unfold excMatches
 repeat (first | (with_reducible refine wpAny_loadPart_at he ?_;rw[hcls]) | with_reducible refine wpAny_loadPart_at hD ?_ | (with_reducible refine sC _ _ ?_) | (with_reducible refine sD _ _ ?_;rw[hB]) | wp_step)
 cases hb:bC.contains (.ref D)<;>(rw[hb]at hq;wp_walk;exact hq)
end
def Yx (CX:WP) (X:Cx) (E:St->XK):Prop:=∀(pins:List (Addr×Obj)) (σ:St) (H:Hp) (s:Shared) (e:Value) (s':Shared),qz X pins σ H s->CX X.stack H s (E σ) e s'->X.xe e s'
section
variable {X:Cx} {CX:WP} {k:Nat} {f C:Addr} {fd:FuncData} {ps:List Str} {sp:Sp} {dvs:List V} {ds:List Value} {E:St->XK} {x m:Str} {p pos apos:Pos} {e o:Expr} {es:List Expr} {ta:TE} {t:TA}
theorem Gu {pins:List (Addr×Obj)} {σ:St} {H:Hp} {s:Shared} {Q:VK} {us:List Value} {vs:List V} (F:qo X.prog X.w X.K X.mg X.base CX k f fd ps sp) (hr:qR k X.A) (hb:jO X.K fd ps ds) (hd:qE dvs ds) (hx:Yx CX X E)
   (I:qz X pins σ H s) (r:qE vs us) (h:sp (vs++dvs) H Q (E σ)):wpAny (model X.prog X.w) X.A (call (.ref f) us) (EP X pins σ Q) X.xe s:=by
 have rr:qE (vs++dvs) (us++ds):=r.append hd
 have ll:(us++ds).length=ps.length:=rr.length.symm.trans (F.len _ _ _ _ h)
 have run:=F.run X.A X.stack s H ⟨us,[]⟩ (us++ds) (vs++dvs) Q (E σ) hr I.env0 (hb s us I.kIn ll) rr h
 refine wpAny_call (codeAny_mono run λz s' q=>?_)
 match z,q with
 | .error y,q=>exact hx pins σ H s y s' I q
 | .ok (.ret u),q=>exact I.after q
end
section
variable {X:Cx}
def qaI (K:PySem.W.Frag) (k:Bool):R2:=λx y H Q=>∃d,DV K H x d/\DV K H y d/\PySem.SeqAt.shaped d=true/\Q (.bl k) H
theorem Xz {d:PyData} (h:PySem.SeqAt.shaped d=true):PyData.eqv d d=true:=PySem.SeqAt.eqv_refl d (PySem.SeqAt.canLay_of_shaped h)
theorem N9 (hu:X.A.units+64 < cLine):J7 X (compareOp .Eq) (qaI X.K true):=by
 intro pins s σ H x y v u Q I rx ry h
 obtain⟨d,h1,h2,hs,q⟩:=h
 obtain⟨as,ra⟩:=h1.reads I rx
 obtain⟨bs,rb⟩:=h2.reads I ry
 refine eq_dataH ra rb hs hs hu ?_
 rw[Xz hs]
 exact⟨.bl true,H,I,rfl,q⟩
theorem U8 (hu:X.A.units+64 < cLine):J7 X (compareOp .NotEq) (qaI X.K false):=by
 intro pins s σ H x y v u Q I rx ry h
 obtain⟨d,h1,h2,hs,q⟩:=h
 obtain⟨as,ra⟩:=h1.reads I rx
 obtain⟨bs,rb⟩:=h2.reads I ry
 refine ne_dataH ra rb hs hs hu ?_
 rw[Xz hs]
 exact⟨.bl false,H,I,rfl,q⟩
def qbl (i j:Int):Prop:=0 < j/\j.natAbs < 2^200
theorem ui:J7 X (binaryOp .FloorDiv) (rI qbl λi j=>.int (i / j)):=Ma λi j _ _ _ _ _ hc q=>by
 have h1:(0:Int) < j:=hc.1
 have h3:j.natAbs.log2 < 200:=(Nat.log2_lt (by omega)).mpr hc.2
 exact floordiv_int (by omega) (by rw[zbU i (by omega)];exact q) (.inl (PyProof.noPylong_of_log2 (zdK h3 (by decide))))
theorem xj:MtR X "int.bit_length" (λx xs H Q=>∃i,x=.int i/\xs=[]/\Q (.int (Builtin.Int.intBits i)) H):=by
 intro pins s σ H x xs v us Q I rx rv h
 obtain⟨i,rfl,rfl,q⟩:=h
 obtain⟨t,rfl⟩:=rx
 cases rv
 exact call_int_bit_length ⟨.int _,H,I.tok _,⟨_,rfl⟩,q⟩
end
section
variable {X:Cx} {tg:Expr}
end
section
variable {X:Cx} {st:Stmt} {rest:List Stmt} {t u:TS}
def qbx (t u:TS):TS:=λD σ H=>∃W:St->Hp->Prop,t {D with nx:=W} σ H/\∀σ' H',W σ' H'->u D σ' H'
theorem k4 (h1:JS X st t) (h2:XY X rest u):XY X (st::rest) (qbx t u):=.of (by
 have h1:=h1.to
 have h2:=h2.to
 intro pins s σ H D I ⟨W,h,k⟩
 refine wpAny_execs_cons (ja (h1 pins s σ H {D with nx:=W} I h) λf s1 q=>?_)
 cases f with
 | next=>
   obtain⟨σ',H',I',q⟩:=q
   exact h2 pins s1 σ' H' D I' (k σ' H' q)
 | ret v=>exact q
 | brk=>exact q
 | cont=>exact q)
end
end L2
namespace PySem
section
variable {prog:Program} {w:World} {A:Around} {E:Value->Shared->Prop} {s:Shared}
def YX (x n c:Int):Obj:={cls:=.type "range_iterator",data:=.fields #[rawInt x,rawInt n,rawInt c]}
theorem kI (n:Nat):Builtin.Range.rangeSize 0 n 1=n:=by
 unfold Builtin.Range.rangeSize
 rw[if_pos (by decide)]
 split<;>omega
theorem XH {r:Addr} {a b c:Int} {t u v:Tok} {Q:Value->Shared->Prop} (hr:IsRange s.heap r a b c t u v)
   (hs:(Builtin.Range.rangeFitsLong a&&Builtin.Range.rangeFitsLong b&&Builtin.Range.rangeFitsLong c&&Builtin.Range.rangeFitsLong (-c)&&Builtin.Range.rangeFitsLong (a - c)&&Builtin.Range.rangeFitsLong (Builtin.Range.rangeSize a b c))=true)
   (h:Q (.ref s.heap.objs.size) {s with heap:=s.heap.push (YX (a+(Builtin.Range.rangeSize a b c - 1)*c) (Builtin.Range.rangeSize a b c) (-c))}):wpAny (model prog w) A (call (.builtin "range.__reversed__") [.ref r]) Q E s:=by
 have ty:s.TypeIs (.ref r) "range":=⟨_,hr,rfl⟩
 refine wpAny_call_entry F.slot_range_reversed ty F.entry_range_reversed ?_ (F.args_range_reversed_1 _)
 unfold Builtin.«range.__reversed__»
 refine wpAny_bind (wpAny_of_eq (a:=Value.ref r) rfl ?_)
 refine wpAny_bind ?_
 unfold Builtin.Range.rangeFields
 refine wpAny_bind (wpAny_field hr rfl (x:=.int a t) rfl ?_)
 refine wpAny_bind (m:=asInt? (.int a t)) (wpAny_pure ?_)
 refine wpAny_bind (wpAny_field hr rfl (x:=.int b u) rfl ?_)
 refine wpAny_bind (m:=asInt? (.int b u)) (wpAny_pure ?_)
 refine wpAny_bind (wpAny_field hr rfl (x:=.int c v) rfl ?_)
 refine wpAny_bind (m:=asInt? (.int c v)) (wpAny_pure ?_)
 refine wpAny_pure ?_
 dsimp only
 rw[hs]
 simp only[Bool.not_true,zbo,if_false,if_true]
 first
 | refine wpAny_bind (wpAny_newObj_type (wpAny_pure ⟨_,rfl,h⟩))
 | refine wpAny_bind (wpAny_pure (wpAny_bind (wpAny_newObj_type (wpAny_pure ⟨_,rfl,h⟩))))
theorem ZB {r:Addr} {n:Nat} {t u v:Tok} {Q:Value->Shared->Prop} (hr:IsRange s.heap r 0 n 1 t u v) (hn:n < 1048576)
   (h:Q (.ref s.heap.objs.size) {s with heap:=s.heap.push (YX ((n:Int) - 1) n (-1))}):wpAny (model prog w) A (call (.builtin "range.__reversed__") [.ref r]) Q E s:=by
 have f:∀x:Int,-2000000<=x->x<=2000000->Builtin.Range.rangeFitsLong x=true:=λx p q=>by
   unfold Builtin.Range.rangeFitsLong
   simp
   omega
 have e:=kI n
 have hs:(Builtin.Range.rangeFitsLong 0&&Builtin.Range.rangeFitsLong (n:Int)&&Builtin.Range.rangeFitsLong 1&&Builtin.Range.rangeFitsLong (-1)&&Builtin.Range.rangeFitsLong (0 - 1)&&Builtin.Range.rangeFitsLong (Builtin.Range.rangeSize 0 n 1))=true:=by
   rw[e,f 0 (by omega) (by omega),f n (by omega) (by omega),f 1 (by omega) (by omega),f (-1) (by omega) (by omega),f (0 - 1) (by omega) (by omega)]
   rfl
 refine XH hr hs ?_
 have e2:(0:Int)+(Builtin.Range.rangeSize 0 n 1 - 1)*1=(n:Int) - 1:=by rw[e];omega
 rw[e2,e]
 exact h
end
section
variable {prog:Program} {w:World} {A:Around} {E:Value->Shared->Prop} {s:Shared}
theorem ZO {r:Addr} {n:Nat} {t u v:Tok} {Q₁:Value->Shared->Prop} (hr:IsRange s.heap r 0 n 1 t u v) (hn:n < 1048576)
   (h:Q₁ (.ref s.heap.objs.size) {s with heap:=s.heap.push (YX ((n:Int) - 1) n (-1))}):
   codeAny (model prog w) A (.call (.builtin "reversed.__new__") ⟨[.type "reversed",.ref r],[]⟩) (wants Q₁ E) s:=by
 have ty:s.TypeIs (.ref r) "range":=⟨_,hr,rfl⟩
 have nn:¬((Value.builtin "range.__reversed__"==Value.none)=true):=tK
 refine codeAny_of_tree (show wpAny _ A.in1 (checkBuiltinCall "reversed.__new__" ⟨[.type "reversed",.ref r],[]⟩ >>= λ_=>again (.builtin "reversed.__new__" ⟨[.type "reversed",.ref r],[]⟩)) _ _ s from
   wpAny_bind (wpAny_of_eq (F.newCall_reversed_1 (.ref r)) (wpAny_pure ⟨plainId_quiet F.plain_reversed_new _,codeAny_builtin F.entry_reversed_new ?_⟩)))
 rw[Around.under_plainId F.plain_reversed_new _];unfold Builtin.«reversed.__new__»
 refine wpAny_bind (wpAny_of_eq (newClass_reversed (.ref r)) ?_);dsimp only
 refine wpAny_bind (wpAny_of_eq (a:=()) (by kernel_rfl) (wpAny_bind (wpAny_of_eq (a:=()) (by kernel_rfl) ?_)));try dsimp only
 refine wpAny_bind (wpAny_specialOf ty F.slot_range_reversed.lookup ?_);dsimp only
 refine wpAny_bind (wpAny_of_eq (F.slot_range_reversed.bind _) ?_);dsimp only
 rw[if_neg nn]
 refine wpAny_bind (wpAny_rule (wpAny_bind (m:=runValue (.call (.builtin "range.__reversed__") ⟨[.ref r],[]⟩)) (show wpAny _ _ (call (.builtin "range.__reversed__") [.ref r]) _ _ _ from ZB hr hn ?_)))
 first | exact wpAny_pure h | exact wpAny_bind (wpAny_pure (wpAny_pure h))
theorem Ya:isSubtype (.type "range_iterator") (.type "reversed")=pure false:=by rw[isSubtype_type];kernel_rfl
theorem ZA {r:Addr} {n:Nat} {t u v:Tok} {Q:Value->Shared->Prop} (hr:IsRange s.heap r 0 n 1 t u v) (hn:n < 1048576)
   (h:Q (.ref s.heap.objs.size) {s with heap:=s.heap.push (YX ((n:Int) - 1) n (-1))}):wpAny (model prog w) A (call (.type "reversed") [.ref r]) Q E s:=by
 refine callType_other (U:="range_iterator") (Q₁:=λobj s₁=>obj=.ref s.heap.objs.size/\s₁={s with heap:=s.heap.push (YX ((n:Int) - 1) n (-1))}) (by decide+kernel) F.create_reversed ⟨_,_,F.mro_reversed⟩ F.made_reversed Ya (F.typeCall_reversed_1 _) (ZO hr hn ⟨rfl,rfl⟩) ?_
 rintro obj s₁ ⟨rfl,rfl⟩
 exact⟨⟨_,tZ _ rfl,rfl⟩,h⟩
theorem VE {I:Addr} {x left c:Int} {Q:Value->Shared->Prop} (hit:IsRangeIter s.heap I x left c) (h:Q (.int left s.toks) {s with toks:=s.toks+1}):
   wpAny (model prog w) A (call (.builtin "range_iterator.__length_hint__") [.ref I]) Q E s:=by
 have hT:s.TypeIs (.ref I) "range_iterator":=⟨_,hit,rfl⟩
 refine wpAny_call_entry F.slot_range_iterator_length_hint hT F.entry_range_iterator_length_hint ?_ (F.args_range_iterator_length_hint_1 _)
 unfold Builtin.«range_iterator.__length_hint__»
 refine wpAny_bind (wpAny_of_eq (a:=Value.ref I) rfl ?_)
 refine wpAny_bind (wpAny_field hit rfl (x:=rawInt left) rfl ?_)
 show wpAny _ _ (do ret (<-mkInt left)) _ _ _
 exact wpAny_ret_mkInt h
structure vG (P:Program) (w:World) (T:String) (I:Addr) (fp:List Addr) (n:Nat) (V:Nat->Value->Prop) (St:Nat->Heap->Prop):Prop where
 ty:∀z:Shared,St 0 z.heap->z.TypeIs (.ref I) T
 nl:(Value.type T==Value.type "list")=false
 nt:(Value.type T==Value.type "tuple")=false
 walk:∀B:Around,B.handled=none->Walks P w B I fp [I] n V St
 hint:∀(B:Around) (F:Value->Shared->Prop) (z:Shared) (R:Bool->Shared->Prop),St 0 z.heap->(∀k,R false {z with toks:=k})->wpAny (model P w) B (Builtin.List.listLengthHint (.ref I)) R F z
theorem vG.list {P:Program} {T:String} {I:Addr} {fp:List Addr} {n:Nat} {V:Nat->Value->Prop} {St:Nat->Heap->Prop} (J:vG P w T I fp n V St) {B:Around} {F':Value->Shared->Prop} {z:Shared} {R:Value->Shared->Prop}
   (hB:B.handled=none) (st:St 0 z.heap) (mem:I∈fp) (old:∀b∈fp,b < z.heap.objs.size) (hn:n<=1048576)
   (k:∀g tk xs c,(∀b o,b≠I->z.heap.get? b=some o->g.get? b=some o)->g.get? z.heap.objs.size=some (⟨.type "list",none,.seq xs c,#[]⟩:Obj)->ItemsOf V xs n->R (.ref z.heap.objs.size) {z with heap:=g,toks:=tk}):
   wpAny (model P w) B (call (.type "list") [.ref I]) R F' z:=by
 have nI:∀b∈fp,z.heap.objs.size≠b:=λb hb=>zbX (old b hb)
 have sI:Builtin.List.listSameRef (.ref z.heap.objs.size) (.ref I)=false:=by unfold Builtin.List.listSameRef;simp [nI I mem]
 refine callType_codes (Q₁:=λob z1=>z1={z with heap:=z.heap.push {cls:=.type "list",data:=.seq #[]}}/\ob=.ref z.heap.objs.size) F.called_list (F.typeCall_list_1 _) F.entry_list_init (code_list_new _ ⟨rfl,rfl⟩) ?_
 rintro ob z1 ⟨rfl,rfl⟩
 have a0:=tZ z.heap (o:=({cls:=.type "list",data:=.seq #[]}:Obj)) rfl
 refine⟨⟨_,a0,rfl⟩,F.args_list_init_2 _ _,?_⟩
 show wpAny _ _ (Builtin.List.listItems (.ref _) >>= λys=>Builtin.List.listUpdate (.ref _) (λ_=>#[]) >>= λ_=>letGo ys.toList.reverse >>= λ_=>Builtin.List.listExtendWith (.ref _) (.ref I) .none) _ _ _
 refine wpAny_bind (show wpAny _ _ (Builtin.List.listItems (.ref _)) _ _ _ from ?_)
 unfold Builtin.List.listItems
 refine wpAny_bind (wpAny_seqItems a0 rfl (wpAny_pure (wpAny_bind ?_)))
 refine wpAny_updateSeq a0 rfl (wpAny_bind (wpAny_letGo ?_))
 have a1:=zaD (Obj.mapSeq (λ_=>(#[]:Array Value))) a0 rfl
 have keep1:∀b o,z.heap.get? b=some o->((z.heap.push {cls:=.type "list",data:=.seq #[]}).update z.heap.objs.size (Obj.mapSeq (λ_=>(#[]:Array Value)))).get? b=some o:=λb o e=>
   (zai _ _ (zbX (tP e))).trans (tz _ e)
 generalize hg1:(z.heap.push {cls:=.type "list",data:=.seq #[]}).update z.heap.objs.size (Obj.mapSeq (λ_=>(#[]:Array Value)))=g1 at a1 keep1
 have st1:St 0 g1:=(J.walk B hB).frame 0 _ _ st λb _ o e=>keep1 b o e
 unfold Builtin.List.listExtendWith
 refine wpAny_bind (wpAny_typeOf (J.ty {z with heap:=g1} st1) ?_)
 simp only[sI,J.nl,J.nt,zdE,zbo,if_false]
 refine wpAny_bind ((J.walk B.in1.in1 hB).self 0 {z with heap:=g1} _ _ st1 ?_)
 refine wpAny_bind (wpAny_holding (J.hint B.in1.in1 _ {z with heap:=g1} _ st1 λtk=>?_))
 have run:∀(g:Heap) (c tk:Nat),St 0 g->(∀b o,z.heap.get? b=some o->g.get? b=some o)->g.get? z.heap.objs.size=some {cls:=.type "list",data:=.seq #[] c}->
     codeAny (model P w) B.in1 (.builtin "list.extend.loop" ⟨[.ref z.heap.objs.size,.ref I,.none],[]⟩) (wants (λr z2=>r=.none/\R (.ref z.heap.objs.size) z2) F') {z with heap:=g,toks:=tk}:=λg c tk sg kg ag=>
   codeAny_extend_loopS (J.walk B.in1.in1 hB).toS (by rw[sizeLine_eq];omega) _ (λq=>nI _ q rfl) .none n 0 _ #[] c rfl (zal _) sg ag (ItemsOf.nil _) λz3 xs c3 mv a3 it=>by
     rw[Moved.eq_with mv]
     refine⟨rfl,k z3.heap z3.toks xs c3 (λb o hb e=>mv.heap b o (λq=>?_) (kg b o e)) a3 it⟩
     rcases tV.mp q with q | q
     . exact absurd q (tR (tP e))
     . exact hb (tX.mp q)
 refine wpAny_ite_split (λ_=>?_) (λ_=>wpAny_pure ⟨plainId_quiet F.plain_extend_loop _,run g1 _ tk st1 keep1 a1⟩)
 refine wpAny_bind (wpAny_rule (wpAny_bind (show wpAny _ _ (updateSeq z.heap.objs.size (·.push .none) >>= λ_=>updateSeq z.heap.objs.size (·.pop)) _ _ _ from wpAny_bind (wpAny_updateSeq a1 rfl ?_))))
 have a2:=zaD (Obj.mapSeq (·.push Value.none)) a1 rfl
 refine wpAny_updateSeq (hz:=by seq_fits) a2 rfl ?_
 have keep3:∀b o,b≠z.heap.objs.size->g1.get? b=some o->((g1.update z.heap.objs.size (Obj.mapSeq (·.push Value.none))).update z.heap.objs.size (Obj.mapSeq (·.pop))).get? b=some o:=λb o hb e=>
   (zai _ _ (Ne.symm hb)).trans ((zai _ _ (Ne.symm hb)).trans e)
 exact wpAny_pure ⟨plainId_quiet F.plain_extend_loop _,run _ _ tk ((J.walk B hB).frame 0 _ _ st1 λb hb o e=>keep3 b o (λq=>nI b hb q.symm) e) (λb o e=>keep3 b o (tR (tP e)) (keep1 b o e)) (zaD (Obj.mapSeq (·.pop)) a2 rfl)⟩
theorem yK {P:Program} {I:Addr} {x c:Int} {n:Nat} (hn:n<=1048576):vG P w "range_iterator" I [I] n (λi v=>∃t,v=.int (x+i*c) t) (λi h=>IsRangeIter h I (x+(i:Nat)*c) ((n:Int) - (i:Nat)) c) where
 ty:=λ_ st=>⟨_,st,rfl⟩
 nl:=by decide
 nt:=by decide
 walk:=λ_ hB=>Walks.range hB I x c n
 hint:=λB G z R st k=>by
   have st':IsRangeIter z.heap I x n c:=by
     have e1:x+((0:Nat):Int)*c=x:=by simp
     have e2:(n:Int) - ((0:Nat):Int)=n:=by simp
     rw[<-e1,<-e2]
     exact st
   have ty:z.TypeIs (.ref I) "range_iterator":=⟨_,st',rfl⟩
   have few:Builtin.List.listTooLong ((n:Int).toNat)=false:=by unfold Builtin.List.listTooLong;rw[zaJ];exact decide_eq_false (by rw[sizeLine_eq];omega)
   unfold Builtin.List.listLengthHint
   refine wpAny_bind (wpAny_specialOf ty F.nolen_ra ?_)
   refine(show wpAny _ B (specialOf (.ref I) (Str.ofString "__length_hint__") >>= _) _ _ _ from wpAny_bind (wpAny_specialOf ty F.hint_ra ?_))
   (generalize hq:("range_iterator.__length_hint__":String)=q0;(fail_if_success (clear hq q0));wp_delta;rw[show splitId q0=some ("range_iterator","__length_hint__") from by subst hq;decide+kernel];subst hq)
   refine wpAny_bind (wpAny_isInstance (b:=true) ty (by rw[isSubtype_type];kernel_rfl) ?_)
   refine(show wpAny _ B (call (.builtin "range_iterator.__length_hint__") [.ref I] >>= _) _ _ _ from wpAny_bind (VE st' (wpAny_bind (m:=asInt? (.int (n:Int) _)) (wpAny_pure ?_))))
   dsimp only
   rw[if_neg (by rw[few];decide)]
   exact wpAny_pure (k _)
end
end PySem
namespace L2
open PySem PySem.Spec PyProof.Rows
def zf (n:Nat):List Nat:=(tM n).reverse
theorem yz {n:Nat} {acc:Array Value} (h:ItemsOf (λi v=>∃t,v=.int ((n:Int) - 1+i*(-1)) t) acc n):qE ((zf n).map λi=>V.int (i:Nat)) acc.toList:=by
 obtain⟨hz,hv⟩:=h
 have key:∀(xs:List V) (us:List Value),xs.length=us.length->(∀(i:Nat) (x:V) (u:Value),xs[i]?=some x->us[i]?=some u->qP x u)->qE xs us:=by
   intro xs
   induction xs with
   | nil=>intro us hl _;cases us with | nil=>exact .nil | cons _ _=>cases hl
   | cons x xs ih=>
     intro us hl hp
     cases us with
     | nil=>cases hl
     | cons u us=>exact .cons (hp 0 x u rfl rfl) (ih us (by simpa using hl) λi y w h1 h2=>hp (i+1) y w (by simpa using h1) (by simpa using h2))
 refine key _ _ (by simp [zf,hz]) λi x u h1 h2=>?_
 have h2':acc[i]?=some u:=by simpa using h2
 obtain⟨t,rfl⟩:=hv i u h2'
 have hi:i < n:=by
   have:=(zaj.mp h2').1
   omega
 rw[tN,zf,zcs (by simpa using hi),zag,zbx (by omega)]at h1
 simp at h1
 subst h1
 refine⟨t,?_⟩
 congr 1
 omega
section
variable {X:Cx} {e:Expr} {te:TE} {p1 p2 p3 pos1 pos2 pos3:Pos}
theorem we {M:Model} {A:Around} {E:Value->Shared->Prop} {s:Shared} {env:Env} {e:Expr} {pos:Pos} {R:List Value->Shared->Prop} (hs:starEach [e] env=[(false,eval e env)]) (h:wpAny M A (eval e env) (λv s1=>R [v] s1) E s):
   wpAny M A (spliced (backTo pos (starEach [e] env))) R E s:=by
 rw[hs]
 show wpAny _ _ (spliced ((false,eval e env)::backTo pos [])) _ _ s
 exact Calls.spliced_cons (ja h λu s1 h1=>Calls.spliced_nil h1)
def qbz (te:TE):TE:=λσ H Q=>te σ H λx H1=>∃n:Nat,x=.int n/\n<=1000/\∀l,H1 l=none->Q (.ref l) (upd H1 l (.lst ((zf n).map λi=>V.int (i:Nat))))
theorem MB (hc:X.calm=true) (g1:Gl X "list") (m1:X.mg "list"=none) (g2:Gl X "reversed") (m2:X.mg "reversed"=none) (g3:Gl X "range") (m3:X.mg "range"=none) (ha:JE X e te) (hs:starEach [e] X.env=[(false,eval e X.env)]:=by rfl) (hs2:starEach [.Call (.Name "range" p3) [e] [] pos3] X.env=[(false,eval (.Call (.Name "range" p3) [e] [] pos3) X.env)]:=by rfl) (hs3:starEach [.Call (.Name "reversed" p2) [.Call (.Name "range" p3) [e] [] pos3] [] pos2] X.env=[(false,eval (.Call (.Name "reversed" p2) [.Call (.Name "range" p3) [e] [] pos3] [] pos2) X.env)]:=by rfl):JE X (.Call (.Name "list" p1) [.Call (.Name "reversed" p2) [.Call (.Name "range" p3) [e] [] pos3] [] pos2] [] pos1) (qbz te):=.of (by
 have ha:=ha.to
 intro pins s σ H Q I h
 refine Call_ (Jk I g1 m1 boot_list (PyProof.Rows.callWith_type1 (we hs3 ?_) (by rw[hs3];rfl) rfl))
 refine Call_ (Jk I g2 m2 boot_reversed (PyProof.Rows.callWith_type1 (we hs2 ?_) (by rw[hs2];rfl) rfl))
 refine Call_ (Jk I g3 m3 boot_range (PyProof.Rows.callWith_type1 (we hs (ja (ha pins s σ H _ I h) λu s1 ⟨x,H1,I1,r1,q1⟩=>?_)) (by rw[hs];rfl) rfl))
 obtain⟨n,rfl,hn,q⟩:=q1
 obtain⟨t,rfl⟩:=r1
 refine call_range_1 ?_
 refine ZA (IsRange.new ..) (by omega) ?_
 refine(yK (x:=(n:Int) - 1) (c:=-1) (n:=n) (by omega)).list (I1.ok.hd hc) (by
   have e1:(n:Int) - 1+((0:Nat):Int)*(-1)=(n:Int) - 1:=by simp
   have e2:(n:Int) - ((0:Nat):Int)=n:=by simp
   rw[e1,e2]
   exact tZ _ rfl) (by simp) (λb hb=>by rw[tX.mp hb,zbr (_:Heap) (YX _ _ _)];exact zaM _) (by omega) λh' tk acc' c' kp e hi=>?_
 have kk:∀b o,s1.heap.get? b=some o->h'.get? b=some o:=λb o eb=>by
   refine kp b o (tR ?_) (tz _ (tz _ eb))
   rw[zbr]
   exact zbS (tP eb)
 have s1z:s1.heap.objs.size<=((s1.heap.push ({cls:=.type "range",data:=.fields #[.int 0 s1.toks,.int n t,.int 1 (s1.toks+1)]}:Obj)).push (YX ((n:Int) - 1) n (-1))).objs.size:=by
   rw[zbr,zbr]
   omega
 exact⟨.ref _,_,I1.laid (t':=tk) (o:=.lst ((zf n).map λi=>V.int (i:Nat))) kk s1z ⟨by simp only[tj,zf,zbf,zag];exact zam (ql hn),acc'.toList,c',yz hi,by simpa using e⟩,rfl,q _ (I1.hok.fresh s1z)⟩)
end
end L2
namespace PySem
namespace F
end F
end PySem
namespace L2
open PySem PySem.Spec PyProof.Rows
theorem yY:∀(xs:List V) (us:List Value),xs.length=us.length->(∀(i:Nat) (x:V) (u:Value),xs[i]?=some x->us[i]?=some u->qP x u)->qE xs us:=by
 intro xs
 induction xs with
 | nil=>intro us hl _;cases us with | nil=>exact .nil | cons _ _=>cases hl
 | cons x xs ih=>
   intro us hl hp
   cases us with
   | nil=>cases hl
   | cons u us=>exact .cons (hp 0 x u rfl rfl) (ih us (by simpa using hl) λi y w h1 h2=>hp (i+1) y w (by simpa using h1) (by simpa using h2))
section
variable {X:Cx} {e:Expr} {te:TE} {p1 p2 pos1 pos2:Pos}
end
section
variable {X:Cx} {pins:List (Addr×Obj)} {σ:St} {H:Hp} {s:Shared} {h':Heap}
theorem qz.turnLaid {L:List Addr} {T:Addr} {o:HO} {t':Nat} (I:qz X pins σ H s) (k:∀b u,b∉L->s.heap.get? b=some u->h'.get? b=some u) (hf:∀b∈L,ZR X pins H b) (hp:s.heap.objs.size<=T)
   (new:qI X.prog X.w (upd H T o) h' T o):qz X pins σ (upd H T o) {s with heap:=h',toks:=t'}:=by
 have hn:H T=none:=I.hok.fresh hp
 have up:∀b u,H b=some u->upd H T o b=some u:=λb u e=>by rw[qg (qp e hn)];exact e
 have nL:∀b u,H b=some u->b∉L:=λb u e z=>by rw[(hf b z).1]at e;cases e
 refine I.step (g':=s.gens) (d':=s.drawn) (ch:=L) (λb hb=>?_) (λb o _ _ hc e _=>k b o hc e) (λb o _ _ hc e _=>⟨o.slots,k b o hc e⟩) (λb ob hc e n=>?_)
   (λb o hc e=>⟨o,k b o hc e⟩) (λb xs e=>up b _ e) (λb o u e=>up b _ e) (λb ps e=>⟨#[],by rw[up b _ e];simp⟩) (λm hm=>?_) (λb u e=>?_) I.bare
 . obtain⟨f0,f1,f2,f3,f4,f5⟩:=hf b hb
   exact⟨f3,f1,f4,f5⟩
 . have:b≠T:=tR (tO (tP e) hp)
   rw[qg this]
   exact n
 . obtain⟨o,es,ep,ho,r⟩:=hm
   exact⟨o,es,ep,k _ o (λz=>(hf _ z).2.1 rfl) ho,r⟩
 . by_cases hb:b=T
   . subst hb
     rw[qd]at e
     cases e
     exact new
   . rw[qg hb]at e
     refine(I.hok b u e).stay (λc v hc q=>k c v ?_ q) (λc q=>up c _ q) λc xs q=>up c _ q
     rcases hc with z | z
     . rw[z];exact nL b u e
     . exact nL c _ z
theorem qz.turnedL {L:List Addr} {t':Nat} (I:qz X pins σ H s) (k:∀b u,b∉L->s.heap.get? b=some u->h'.get? b=some u) (hf:∀b∈L,ZR X pins H b):qz X pins σ H {s with heap:=h',toks:=t'}:=by
 have nL:∀b u,H b=some u->b∉L:=λb u e z=>by rw[(hf b z).1]at e;cases e
 refine I.step (g':=s.gens) (d':=s.drawn) (ch:=L) (λb hb=>?_) (λb o _ _ hc e _=>k b o hc e) (λb o _ _ hc e _=>⟨o.slots,k b o hc e⟩) (λ_ _ _ _ n=>n)
   (λb o hc e=>⟨o,k b o hc e⟩) (λ_ _ e=>e) (λ_ _ _ e=>e) (λb ps e=>⟨#[],by rw[e];simp⟩) (λm hm=>?_) (λb u e=>?_) I.bare
 . obtain⟨f0,f1,f2,f3,f4,f5⟩:=hf b hb
   exact⟨f3,f1,f4,f5⟩
 . obtain⟨o,es,ep,ho,r⟩:=hm
   exact⟨o,es,ep,k _ o (λz=>(hf _ z).2.1 rfl) ho,r⟩
 . refine(I.hok b u e).stay (λc v hc q=>k c v ?_ q) (λ_ q=>q) λ_ _ q=>q
   rcases hc with z | z
   . rw[z];exact nL b u e
   . exact nL c _ z
end
section
variable {X:Cx} {elts:List Expr} {x1:Nat} {tpos:Pos}
end
section
variable {X:Cx}
theorem XZ:∀{cs:List Addr} {us:List Value},qE (cs.map V.ref) us->us=cs.map Value.ref
 | [],_,.nil=>rfl
 | c::cs,u::us,.cons r t=>by
   obtain rfl:u=Value.ref c:=r
   rw[tQ,XZ t]
def qbR (K:PySem.W.Frag):R2:=λx y H Q=>∃d d',DV K H x d/\DV K H y d'/\PySem.SeqAt.shaped d=true/\PySem.SeqAt.shaped d'=true/\Q (.bl (PyData.eqv d d')) H
theorem N8 (hu:X.A.units+64 < cLine):J7 X (compareOp .Eq) (qbR X.K):=by
 intro pins s σ H x y v u Q I rx ry h
 obtain⟨d,d',h1,h2,hs,hs',q⟩:=h
 obtain⟨as,ra⟩:=h1.reads I rx
 obtain⟨bs,rb⟩:=h2.reads I ry
 exact eq_dataH ra rb hs hs' hu ⟨.bl _,H,I,rfl,q⟩
end
section
variable {X:Cx} {o e:Expr} {es:List Expr} {ta:TE} {t:TA} {m:Str} {C C' f f':Addr} {fd fd':FuncData} {ps ps':List Str} {k k':Nat} {sp sp':Sp} {apos pos:Pos}
def x6 (C C':Addr) (m:Str) (sp sp':Sp) (ta:TE) (t:TA):TE:=λσ H Q=>ta σ H λx H1=>∃a dx fs,x=.ref a/\fs.lookup m=none/\
 ((H1 a=some (.ins C dx fs)/\t σ H1 λvs H2=>sp (x::vs) H2 Q E0)\/(H1 a=some (.ins C' dx fs)/\t σ H1 λvs H2=>sp' (x::vs) H2 Q E0))
theorem uZ {pl:Sem Bool} (he:JE X o ta) (c:Yy X.K C) (hm:XX X.K C m f) (F:qo X.prog X.w X.K X.mg X.base qN k f fd ps sp) (hr:qR k X.A) (hb:jO X.K fd ps []) (c':Yy X.K C') (hm':XX X.K C' m f') (F':qo X.prog X.w X.K X.mg X.base qN k' f' fd' ps' sp') (hr':qR k' X.A) (hb':jO X.K fd' ps' []) (ha:JA X (e::es) t) (hst:starEach (e::es) X.env=(false,eval e X.env)::starEach es X.env:=by rfl) (hpl:(backTo pos (starEach es X.env)).any (·.1)=false:=by rfl) (ht:eval (.Call (.Attribute o m apos) (e::es) [] pos) X.env=(eval o X.env >>= λov=>standAt apos.atName >>= λ_=>holding [ov] (getMethod ov m pl) >>= λr=>callWith pos r.1 r.2 (backTo pos (starEach (e::es) X.env)) (backToKw pos (keywordEach [] X.env))):=by rfl):JE X (.Call (.Attribute o m apos) (e::es) [] pos) (x6 C C' m sp sp' ta t):=.of (by
 have he:=he.to
 have ha:=ha.to
 intro pins s σ H Q I h
 refine zbQ (pl:=pl) (ja (he pins s σ H _ I h) λu s1 ⟨x,H1,I1,rx,a,dx,fs,ex,l,q⟩=>?_) ht
 subst ex
 obtain rfl:u=Value.ref a:=rx
 rcases q with ⟨ea,q⟩ | ⟨ea,q⟩
 . refine QG I1 ea c hm l (zbn (first:=[.ref a]) (h₀:=X.base) I.ok.mod.kin hm.kp (ja (ha pos pins s1 σ H1 _ I1 q) λus s2 ⟨vs,H2,I2,r,q2⟩=>⟨I2.kIn,?_⟩) hst hpl)
   exact ZK (us:=.ref a::us) (vs:=.ref a::vs) F hr hb .nil Qz I2 (.cons rfl r) (by simpa using q2)
 . refine QG I1 ea c' hm' l (zbn (first:=[.ref a]) (h₀:=X.base) I.ok.mod.kin hm'.kp (ja (ha pos pins s1 σ H1 _ I1 q) λus s2 ⟨vs,H2,I2,r,q2⟩=>⟨I2.kIn,?_⟩) hst hpl)
   exact ZK (us:=.ref a::us) (vs:=.ref a::vs) F' hr' hb' .nil Qz I2 (.cons rfl r) (by simpa using q2))
theorem zF {pl:Sem Bool} (he:JE X o ta) (c:Yy X.K C) (hm:XX X.K C m f) (F:qo X.prog X.w X.K X.mg X.base qN k f fd ps sp) (hr:qR k X.A) (hb:jO X.K fd ps []) (c':Yy X.K C') (hm':XX X.K C' m f') (F':qo X.prog X.w X.K X.mg X.base qN k' f' fd' ps' sp') (hr':qR k' X.A) (hb':jO X.K fd' ps' []) (ht:eval (.Call (.Attribute o m apos) [] [] pos) X.env=(eval o X.env >>= λov=>standAt apos.atName >>= λ_=>holding [ov] (getMethod ov m pl) >>= λr=>callWith pos r.1 r.2 (backTo pos (starEach [] X.env)) (backToKw pos (keywordEach [] X.env))):=by rfl):JE X (.Call (.Attribute o m apos) [] [] pos) (x6 C C' m sp sp' ta QR):=.of (by
 have he:=he.to
 intro pins s σ H Q I h
 refine zbQ (pl:=pl) (ja (he pins s σ H _ I h) λu s1 ⟨x,H1,I1,rx,a,dx,fs,ex,l,q⟩=>?_) ht
 subst ex
 obtain rfl:u=Value.ref a:=rx
 rcases q with ⟨ea,q⟩ | ⟨ea,q⟩
 . exact QG I1 ea c hm l (zcG (first:=[.ref a]) I1.kIn hm.kp (ZK (us:=[.ref a]) (vs:=[.ref a]) F hr hb .nil Qz I1 (.cons rfl .nil) q))
 . exact QG I1 ea c' hm' l (zcG (first:=[.ref a]) I1.kIn hm'.kp (ZK (us:=[.ref a]) (vs:=[.ref a]) F' hr' hb' .nil Qz I1 (.cons rfl .nil) q)))
end
section
variable {X:Cx} {e:Expr} {es:List Expr} {te:TE} {t:TA}
theorem Yp {t':TE} (h:JE X e te) (k:∀σ H Q,t' σ H Q->te σ H Q):JE X e t':=.of (by
 have h:=h.to
 exact λpins s σ H Q I q=>h pins s σ H Q I (k σ H Q q))
def tWk (te:TE):TE:=λσ H Q=>∃G:VK,te σ H G/\∀x H1,G x H1->Q x H1
theorem k7 (h:JE X e te):JE X e (tWk te):=.of (by
 have h:=h.to
 intro pins s σ H Q I ⟨G,g,k⟩
 exact ja (h pins s σ H G I g) λv s1 ⟨x,H1,I1,r1,q1⟩=>⟨x,H1,I1,r1,k x H1 q1⟩)
def aWk (t:TA):TA:=λσ H Q=>∃G:List V->Hp->Prop,t σ H G/\∀vs H1,G vs H1->Q vs H1
theorem qa1 (h:JA X es t):JA X es (aWk t):=.of (by
 have h:=h.to
 intro pos pins s σ H Q I ⟨G,g,k⟩
 exact ja (h pos pins s σ H G I g) λus s1 ⟨vs,H1,I1,r1,q1⟩=>⟨vs,H1,I1,r1,k vs H1 q1⟩)
end
open PySem PySem.Spec PySem.W PyProof.Rows
theorem Ny:∀(f n r:Nat),r<=1->minRun' f n r<=n+r
 | 0,n,r,_=>tq _
 | f+1,n,r,hr=>by
   rw[minRun'_succ]
   split
   . exact tq _
   . have h1:max r (n % 2)<=1:=Nat.max_le.mpr ⟨hr,by omega⟩
     have:=Ny f (n / 2) (max r (n % 2)) h1
     omega
section
variable {P:Program} {w:World} {B:Around} {F:Value->Shared->Prop} {κ:SortKind} {it:Array Keyed} {z:Shared}
theorem Ub {n:Nat} {R:Nat->Shared->Prop} (hc:∀i,1<=i->i < n->∀C:Bool->Shared->Prop,C false z->kas_cmp P w B κ it i (i - 1) C z) (hR:R n z):
   ∀(f a:Nat),1<=a->a+f=n->(kas_asc (zbd (tM n)) f a).kasWp (kas_cmp P w B κ it) R z
 | 0,a,_,e=>by
   have e':a=n:=by omega
   subst e'
   exact hR
 | f+1,a,h1,e=>by
   have g:∀i,i < n->(zbd (tM n)).getD i 0=i:=λi hi=>by simp [Array.getD,hi]
   show kas_cmp P w B κ it ((zbd (tM n)).getD a 0) ((zbd (tM n)).getD (a - 1) 0) _ z
   rw[g a (by omega),g (a - 1) (by omega)]
   refine hc a h1 (by omega) _ ?_
   show KasT.kasWp _ (if false=true then _ else _) R z
   rw[if_neg tK]
   exact Ub hc hR f (a+1) (by omega) (by omega)
theorem yR {n:Nat} {Q:Unit->SortSt->Shared->Prop} (h2:2<=n) (hc:∀i,1<=i->i < n->∀C:Bool->Shared->Prop,C false z->kas_cmp P w B κ it i (i - 1) C z)
   (hQ:∀st,arrOf st=(zbd (tM n)).map (kas_item it)->failedOf st=none->Q () st z):kasC (model P w) B F sortRuns' Q (kas_st κ it (zbd (tM n))) z:=by
 obtain⟨r,rfl⟩:∃r,n=r+2:=⟨n - 2,by omega⟩
 have sz:(zbd (tM (r+2))).size=r+2:=by simp
 have sa:(arrOf (kas_st κ it (zbd (tM (r+2))))).size=r+2:=(Array.size_map ..).trans sz
 have le:=Ny (r+2) (r+2) 0 (by decide)
 rw[sortRuns'_eq]
 refine kasC_bind (kasC_get ?_)
 dsimp only
 rw[sa]
 generalize minRun' (r+2) (r+2) 0=M at le
 refine kasC_bind (kasC_range (show kasC _ _ _ (forIn (0::1::zdR 2 r) _ _) _ _ _ from kasC_cons ?_))
 dsimp only
 rw[if_neg (by omega)]
 simp only[zdL,zdm]
 refine kasC_bind (kas_count_ (G:=λq z'=>q=(r+2,zbd (tM (r+2)))/\z'=z) (by omega) (by rw[sz];exact tq _) (λm p' z' _ _ _ hg=>?_) ?_)
 . obtain⟨e,rfl⟩:=hg
   cases e
   dsimp only
   rw[if_neg (by omega)]
   refine kasC_bind (kasC_get ?_)
   rw[show (pendingOf (kas_st κ it (zbd (tM (r+2))))).back?=none from rfl]
   dsimp only
   refine kasC_bind (kasC_modify (kasC_pure (show kasC _ _ _ (forIn (1::zdR 2 r) _ _) _ _ _ from kasC_cons ?_)))
   dsimp only
   rw[if_pos (tq _)]
   refine kasC_pure ?_
   dsimp only
   refine kasC_bind (kasC_range (show kasC _ _ _ (forIn (0::1::zdR 2 r) _ _) _ _ _ from kasC_cons (kasC_bind (kasC_get ?_))))
   rw[if_pos (show (pendingOf (setPending (kas_st κ it (zbd (tM (r+2)))) ((pendingOf (kas_st κ it (zbd (tM (r+2))))).push (0,r+2,0)))).size<=1 from tq 1)]
   refine kasC_pure ?_
   dsimp only
   exact kasC_pure (hQ _ rfl rfl)
 . unfold kas_count
   rw[KasT.kasWp_bind]
   refine Ub hc ?_ _ 1 (tq 1) (by omega)
   rw[if_pos (beq_self_eq_true _)]
   exact⟨rfl,rfl⟩
end
def J2 (h:Heap) (v:Value) (k:Int×Int):Prop:=∃p o n t u,v=.ref p/\h.get? p=some o/\o.cls=.type "tuple"/\o.data=.seq #[.int k.1 t,.int k.2 u] n
def Xj (a b:Int×Int):Prop:=a.1 < b.1\/(a.1=b.1/\a.2 < b.2)
section
variable {P:Program} {w:World} {B:Around} {F:Value->Shared->Prop} {z:Shared}
theorem Ue {v u:Value} {a b:Int×Int} (hv:J2 z.heap v b) (hu:J2 z.heap u a) (hlt:Xj a b) {C:Bool->Shared->Prop} (hC:C false z):wpAny (model P w) B (keyLt' (tuples' true) v u) C (λ_ _=>False) z:=by
 obtain⟨p,o,n,t1,t2,rfl,h1,_,d1⟩:=hv
 obtain⟨p',o',n',t1',t2',rfl,h1',_,d1'⟩:=hu
 refine kat_lt h1 d1 h1' d1' ?_
 show KatLex P w B true _ C [(.int b.1 t1,.int a.1 t1'),(.int b.2 t2,.int a.2 t2')] 0 z
 refine kat_cons (SeqAt.EqAt.int_int b.1 t1 a.1 t1' P w _ _ ?_)
 rcases hlt with h | ⟨h,h'⟩
 . have e:(b.1==a.1)=false:=by
     rw[beq_eq_false_iff_ne]
     omega
   rw[e]
   refine kat_no (show wpAny _ _ (oneLt' true _ _) _ _ _ from oneLt_int ?_)
   rw[decide_eq_false (by omega)]
   exact hC
 . have e:(b.1==a.1)=true:=by rw[h];exact beq_self_eq_true _
   rw[e]
   refine kat_yes (kat_cons (SeqAt.EqAt.int_int b.2 t2 a.2 t2' P w _ _ ?_))
   have e2:(b.2==a.2)=false:=by
     rw[beq_eq_false_iff_ne]
     omega
   rw[e2]
   refine kat_no (show wpAny _ _ (oneLt' false _ _) _ _ _ from kat_one _ _ (lt_int ?_))
   show C (decide (b.2 < a.2)) z
   rw[decide_eq_false (by omega)]
   exact hC
theorem J2.keep {h h':Heap} {v:Value} {k:Int×Int} (x:J2 h v k) (kp:∀b o,h.get? b=some o->o.cls=.type "tuple"->h'.get? b=some o):J2 h' v k:=by
 obtain⟨p,o,n,t,u,e,h1,c,d⟩:=x
 exact⟨p,o,n,t,u,e,kp p o h1 c,c,d⟩
theorem Wh (vs:List Value):(pairsOf vs).map (·.2)=vs.toArray:=by
 apply Array.ext'
 rw[Array.toList_map,pairsOf_toList,List.map_snd_zip (tq _)]
theorem vO {h:Heap}:∀(vs:List Value) (ks:List (Int×Int)),vs.length=ks.length->(∀(i:Nat) (v:Value) (k:Int×Int),vs[i]?=some v->ks[i]?=some k->J2 h v k)->∃fs,KatTups h vs fs/\fs.length=vs.length/\∀v∈fs,∃i t,v=Value.int i t
 | [],_,_,_=>⟨[],.nil,rfl,λv hv=>(nomatch hv)⟩
 | v::vs,[],hl,_=>by cases hl
 | v::vs,k::ks,hl,hv=>by
   obtain⟨fs,tf,lf,hf⟩:=vO vs ks (zdx.inj hl) λi u q e1 e2=>hv (i+1) u q (by simpa using e1) (by simpa using e2)
   obtain⟨p,o,n,t,u,rfl,h1,c,d⟩:=hv 0 v k rfl rfl
   refine⟨.int k.1 t::fs,.cons h1 c d rfl tf,by simp [lf],λx hx=>?_⟩
   rcases tV.mp hx with e | hx
   . exact⟨_,_,e⟩
   . exact hf x hx
theorem yH {a:Addr} {vs:List Value} {ks:List (Int×Int)} {n:Nat} {R:PySem.Fin->Shared->Prop} (ho:z.heap.get? a=some (seqObj "list" vs.toArray n)) (hl:vs.length=ks.length) (hv:∀(i:Nat) (v:Value) (k:Int×Int),vs[i]?=some v->ks[i]?=some k->J2 z.heap v k)
   (hr:∀(i:Nat) (k k':Int×Int),ks[i]?=some k->ks[i+1]?=some k'->Xj k k') (hz:vs.length<=100000)
   (k:R (.done (.ret .none)) {z with heap:=sortedHeap z.heap a vs vs.toArray}):wpAny (model P w) B (Builtin.«list.sort» ⟨[.ref a],[]⟩) R F z:=by
 have na:∀b o,z.heap.get? b=some o->o.cls=.type "tuple"->b≠a:=λb o e c q=>by
   rw[q,ho]at e
   cases e
   exact absurd c (show ¬Value.type "list"=Value.type "tuple" by decide)
 rw[list_sort_plain]
 refine wpAny_bind (listItems_at ho rfl (wpAny_bind (listUpdate_at ho rfl ?_)))
 obtain⟨c1,o1⟩:∃c,(z.heap.update a (Obj.mapSeq λ_=>#[])).get? a=some (seqObj "list" #[] c):=⟨_,get?_update_seq ho (λ_=>#[])⟩
 refine wpAny_bind (seqEpoch_at o1 rfl (wpAny_bind (wpAny_newTuple (wpAny_bind (wpAny_newList (wpAny_holding ?_))))))
 have lt:=tP ho
 have o2:(((z.heap.update a (Obj.mapSeq λ_=>#[])).push (seqObj "tuple" vs.toArray 0)).push (seqObj "list" #[] 0)).get? a=some (seqObj "list" #[] c1):=tz _ (tz _ o1)
 have kp:∀b o,z.heap.get? b=some o->o.cls=.type "tuple"->(((z.heap.update a (Obj.mapSeq λ_=>#[])).push (seqObj "tuple" vs.toArray 0)).push (seqObj "list" #[] 0)).get? b=some o:=λb o e c=>
   tz _ (tz _ ((zai _ _ (Ne.symm (na b o e c))).trans e))
 show wpAny (model P w) B _ R F {z with heap:=((z.heap.update a (Obj.mapSeq λ_=>#[])).push (seqObj "tuple" vs.toArray 0)).push (seqObj "list" #[] 0)}
 dsimp only
 have sv:vs.toArray.size=vs.length:=by simp
 have ends:∀st:SortSt,(arrOf st).map (·.2)=vs.toArray->failedOf st=none->wpAny (model P w) B (do
     let touched:=(<-seqEpoch a) != c1
     Builtin.List.listUpdate (.ref a) λ_=>(arrOf st).map (·.2)
     if let some e:=failedOf st then rule "list.sort.comparison-raised";throw e
     if touched then rule "list.sort.modified";raiseError "ValueError" "list modified during sort"
     ret .none) R F {z with heap:=((z.heap.update a (Obj.mapSeq λ_=>#[])).push (seqObj "tuple" vs.toArray 0)).push (seqObj "list" #[] 0)}:=λst e f=>by
   refine wpAny_bind (seqEpoch_at o2 rfl ?_)
   rw[e,f]
   refine wpAny_bind (listUpdate_at o2 rfl ?_ (hsz2:=by rw[sv,sizeLine_eq];omega))
   simp only[bne_self_eq_false,zbo,if_false]
   exact wpAny_pure k
 by_cases h2:vs.toArray.size < 2
 . rw[if_pos h2,if_pos h2]
   refine wpAny_bind (wpAny_pure ?_)
   rw[StateT.run_pure]
   refine wpAny_bind (wpAny_pure ?_)
   exact ends (SortSt.mk' general' (vs.toArray.zip vs.toArray) #[] 7 none) (Wh vs) rfl
 . rw[if_neg h2,if_neg h2]
   have l2:2<=vs.length:=by omega
   have hv':∀(i:Nat) (v:Value) (q:Int×Int),vs[i]?=some v->ks[i]?=some q->J2 (((z.heap.update a (Obj.mapSeq λ_=>#[])).push (seqObj "tuple" vs.toArray 0)).push (seqObj "list" #[] 0)) v q:=λi v q e1 e2=>(hv i v q e1 e2).keep kp
   obtain⟨fs,tf,lf,hf⟩:=vO vs ks hl hv'
   refine wpAny_bind (kat_kind (T:=.type "int") tf (by omega) (λv q=>?_) rfl ?_)
   . obtain⟨i,t,rfl⟩:=hf v q
     exact Looks.of_pure rfl
   . have e:vs.toArray.zip vs.toArray=(zbd (tM vs.length)).map (kas_item (pairsOf vs)):=by
       have:=kas_range (pairsOf vs)
       rw[pairsOf_size]at this
       exact this.symm
     rw[e]
     have run:kasC (model P w) B F sortRuns' (λ_ st z'=>z'={z with heap:=((z.heap.update a (Obj.mapSeq λ_=>#[])).push (seqObj "tuple" vs.toArray 0)).push (seqObj "list" #[] 0)}/\(arrOf st).map (·.2)=vs.toArray/\failedOf st=none)
         (kas_st (tuples' true) (pairsOf vs) (zbd (tM vs.length))) {z with heap:=((z.heap.update a (Obj.mapSeq λ_=>#[])).push (seqObj "tuple" vs.toArray 0)).push (seqObj "list" #[] 0)}:=by
       refine yR l2 (λi i1 i2 C hC=>?_) λst e1 e2=>⟨rfl,by rw[e1,<-e];exact Wh vs,e2⟩
       unfold kas_cmp
       rw[kas_item_eq,kas_item_eq]
       have g:∀j,j < vs.length->vs[j]?=some (vs.getD j Value.none):=λj hj=>by simp [hj]
       have gk:∀j,j < vs.length->∃q,ks[j]?=some q:=λj hj=>⟨_,tF (by omega)⟩
       obtain⟨q1,eq1⟩:=gk i i2
       obtain⟨q0,eq0⟩:=gk (i - 1) (by omega)
       have eq1':ks[i - 1+1]?=some q1:=by rw[show i - 1+1=i by omega];exact eq1
       exact Ue (hv' i _ q1 (g i i2) eq1) (hv' (i - 1) _ q0 (g (i - 1) (by omega)) eq0) (hr (i - 1) q0 q1 eq0 eq1') hC
     refine wpAny_bind (wpAny_mono run (λr z' h3=>?_) λ_ _ x=>x)
     obtain⟨⟨⟩,st⟩:=r
     obtain⟨rfl,e1,e2⟩:=h3
     exact ends st e1 e2
end
end L2
namespace PySem
def XW (h:Heap) (d:Addr) (es:Array DictEntry) (ep:Nat):Prop:=∃o,h.get? d=some o/\o.ExactDict/\o.data=.dict es ep
theorem XW.keep {h h':Heap} {d:Addr} {es:Array DictEntry} {ep:Nat} (x:XW h d es ep) (k:∀o,h.get? d=some o->h'.get? d=some o):XW h' d es ep:=let ⟨o,e,r⟩:=x;⟨o,k o e,r⟩
section
variable {P:Program} {w:World} {B:Around} {F':Value->Shared->Prop} {z:Shared} {d I:Addr} {es:Array DictEntry} {ep i:Nat}
theorem XW.ty (x:XW z.heap d es ep):z.TypeIs (.ref d) "dict":=let ⟨o,e,c,_⟩:=x;⟨o,e,c.1⟩
theorem wV {R:Value->Shared->Prop} (hd:(d==sysModules)=false) (x:XW z.heap d es ep)
   (k:R (.ref z.heap.objs.size) {z with heap:=z.heap.push {cls:=.type "dict_keyiterator",data:=.fields #[.ref d,.int 0 0,.int es.size 0,.int ep 0]}}):wpAny (model P w) B (pyIter (.ref d)) R F' z:=by
 have ty:=x.ty
 obtain⟨o,ho,_,dat⟩:=x
 refine wpAny_pyIter_slot ty F.slot_dict_iter (wpAny_call_entry F.slot_dict_iter ty F.entry_dict_iter ?_ (F.args_dict_iter_1 _))
 unfold Builtin.«dict.__iter__»
 refine wpAny_bind (show wpAny _ _ (Builtin.Dict.dictSlotNone _ _) _ _ _ from ?_)
 unfold Builtin.Dict.dictSlotNone
 refine wpAny_bind (wpAny_notOrdered_dict ty (show wpAny _ _ (pure (Value.ref d)) _ _ z from wpAny_pure ?_))
 refine(show wpAny _ _ (Builtin.Dict.showsAll d >>= _) _ _ z from ?_)
 unfold Builtin.Dict.showsAll
 rw[if_neg (by rw[hd];exact tK)]
 refine wpAny_bind (wpAny_pure (wpAny_bind (wpAny_dictEntries ho dat (wpAny_bind (wpAny_dictEpoch ho dat ?_)))))
 exact wpAny_bind (wpAny_newObj_type (wpAny_pure ⟨_,rfl,"dict_keyiterator",_,⟨_,tZ _ rfl,rfl⟩,F.slot_dict_keyiterator_next.lookup,by simpa [rawInt] using k⟩))
theorem wU {R:Option Value->Shared->Prop} (hit:z.heap.IsKeyIter I d i es.size ep) (x:XW z.heap d es ep) (hi:i < es.size)
   (k:∀h',h'.IsKeyIter I d (i+1) es.size ep->Heap.SameBut I z.heap h'->R (some es[i].key) {z with heap:=h'}):wpAny (model P w) B (pyNext (.ref I)) R F' z:=by
 obtain⟨o,ho,hc,hd⟩:=id hit
 obtain⟨od,hod,_,dat⟩:=x
 have ty:=hit.typeIs
 unfold pyNext
 refine wpAny_bind (wpAny_attempt (wpAny_callSpecial?_slot (name:=Str.ofString "__next__") ty F.slot_dict_keyiterator_next (wpAny_call_entry F.slot_dict_keyiterator_next ty F.entry_dict_keyiterator_next ?_ (F.args_dict_keyiterator_next_1 _))))
 refine wpAny_bind (wpAny_pure (wpAny_bind (wpAny_bind (wpAny_bind ?_))))
 first | refine wpAny_typeNameOfWhole_keyiter ty (wpAny_pure (wpAny_bind (wpAny_fieldsOf ho hd ?_))) | refine wpAny_typeNameOf_keyiter ty (wpAny_pure (wpAny_bind (wpAny_fieldsOf ho hd ?_)))
 have own:Builtin.Dict_items.ownsTuple "dict_keyiterator"=false:=by decide
 simp only[own,zbo,if_false]
 show wpAny _ _ (if (Value.ref d==Value.none)=true then _ else _) _ _ z
 rw[if_neg (show ¬((Value.ref d==Value.none)=true) from tK)]
 refine wpAny_bind (wpAny_pure (wpAny_bind (wpAny_dictEntries hod dat ?_)))
 rw[if_neg (by simp)]
 refine wpAny_bind (wpAny_pure (wpAny_bind (wpAny_dictEpoch hod dat ?_)))
 rw[if_neg (by simp)]
 refine wpAny_pure ?_
 simp only[show ¬((i:Int) < 0) from by omega,if_false,zaJ,zcR hi]
 refine wpAny_bind (wpAny_bind ?_)
 first | refine wpAny_typeNameOfWhole_keyiter ty (wpAny_pure (wpAny_bind (wpAny_isOneOf_keyiter ty ?_))) | refine wpAny_typeNameOf_keyiter ty (wpAny_pure (wpAny_bind (wpAny_isOneOf_keyiter ty ?_)))
 refine(show wpAny _ _ (setField (.ref I) 1 (rawInt ((i:Int)+1)) >>= _) _ _ z from wpAny_bind (wpAny_setField ho hd (by simp) ?_))
 have hit':(z.heap.update I (Obj.mapFields (·.setIfInBounds 1 (rawInt ((i:Int)+1))))).IsKeyIter I d (i+1) es.size ep:=
   ⟨_,zaD _ ho (Obj.isFreed_of_fields (Obj.data_mapFields hd _)),(Obj.cls_mapFields ..).trans hc,by rw[Obj.data_mapFields hd];simp [rawInt]⟩
 refine wpAny_bind (wpAny_holding (wpAny_bind (wpAny_isOneOf_keyiter (s:={z with heap:=z.heap.update I (Obj.mapFields (·.setIfInBounds 1 (rawInt ((i:Int)+1))))}) hit'.typeIs ?_)))
 refine(show wpAny _ _ (pure es[i].key) _ _ _ from wpAny_pure (wpAny_pure ⟨_,rfl,wpAny_pure (k _ hit' (Heap.SameBut.update ..))⟩))
theorem Gy {R:Option Value->Shared->Prop} (hB:B.handled=none) (hit:z.heap.IsKeyIter I d i es.size ep) (x:XW z.heap d es ep) (hi:es.size<=i)
   (k:∀h',Heap.ExtBut I z.heap h'->R none {z with heap:=h'}):wpAny (model P w) B (pyNext (.ref I)) R F' z:=by
 obtain⟨o,ho,hc,hd⟩:=id hit
 obtain⟨od,hod,_,dat⟩:=x
 have ty:=hit.typeIs
 unfold pyNext
 refine wpAny_bind (wpAny_attempt (wpAny_callSpecial?_slot (name:=Str.ofString "__next__") ty F.slot_dict_keyiterator_next (wpAny_call_entry F.slot_dict_keyiterator_next ty F.entry_dict_keyiterator_next ?_ (F.args_dict_keyiterator_next_1 _))))
 refine wpAny_bind (wpAny_pure (wpAny_bind (wpAny_bind (wpAny_bind ?_))))
 first | refine wpAny_typeNameOfWhole_keyiter ty (wpAny_pure (wpAny_bind (wpAny_fieldsOf ho hd ?_))) | refine wpAny_typeNameOf_keyiter ty (wpAny_pure (wpAny_bind (wpAny_fieldsOf ho hd ?_)))
 have own:Builtin.Dict_items.ownsTuple "dict_keyiterator"=false:=by decide
 simp only[own,zbo,if_false]
 show wpAny _ _ (if (Value.ref d==Value.none)=true then _ else _) _ _ z
 rw[if_neg (show ¬((Value.ref d==Value.none)=true) from tK)]
 refine wpAny_bind (wpAny_pure (wpAny_bind (wpAny_dictEntries hod dat ?_)))
 rw[if_neg (by simp)]
 refine wpAny_bind (wpAny_pure (wpAny_bind (wpAny_dictEpoch hod dat ?_)))
 rw[if_neg (by simp)]
 refine wpAny_pure ?_
 simp only[show ¬((i:Int) < 0) from by omega,if_false,zaJ,Array.getElem?_eq_none hi]
 refine wpAny_bind (wpAny_bind ?_)
 first | refine wpAny_typeNameOfWhole_keyiter ty (wpAny_pure ?_) | refine wpAny_typeNameOf_keyiter ty (wpAny_pure ?_)
 refine(show wpAny _ _ (setField (.ref I) 0 .none >>= _) _ _ z from wpAny_bind (wpAny_setField ho hd (by simp) ?_))
 refine(show wpAny _ _ (newExc (.type "StopIteration") [] >>= _) _ _ _ from wpAny_bind ?_)
 simp only[newExc,newTuple]
 refine wpAny_bind (wpAny_newObj_type (wpAny_bind (m:=firstArgMember _ _) (wpAny_of_eq (a:=Value.none) (by first | rfl | (simp only[firstArgMember];rfl)) (wpAny_newObj_type ?_ (by size_fits)))) (by size_fits))
 simp only[raiseNew]
 refine wpAny_bind (wpAny_handled ?_)
 rw[show B.in1.handled=none from hB]
 refine wpAny_bind (wpAny_pure (wpAny_throw ?_))
 refine wpAny_bind (wpAny_isInstance (T:="StopIteration") (b:=true) ⟨_,tZ _ rfl,rfl⟩ isSubtype_stop ?_)
 exact wpAny_pure (k _ ((((Heap.SameBut.update ..).extBut).push _).push _))
end
open PySem.W
section
variable {P:Program} {w:World} {d:Addr} {es:Array DictEntry} {ep:Nat}
theorem yS {B:Around} (hB:B.handled=none) (I:Addr) (hne:d≠I):Walks P w B I [I,d] [I] es.size (λi v=>∃h:i < es.size,v=es[i].key) (λi h=>h.IsKeyIter I d i es.size ep/\XW h d es ep) where
 sub:=λb hb=>by simp at hb;simp [hb]
 frame:=λ_ _ _ st k=>⟨st.1.at λo e=>k I (by simp) o e,st.2.keep λo e=>k d (by simp) o e⟩
 item:=λi z R G hi st q=>wU st.1 st.2 hi λh' it' sb=>q _ h' z.toks ⟨hi,rfl⟩ ⟨it',st.2.keep λo e=>sb.extBut d o hne e⟩ λb o hb e=>sb.extBut b o (λx=>hb (by simp [x])) e
 done:=λz R G st q=>Gy hB st.1 st.2 (tq _) λh' eb=>q h' z.toks λb o hb e=>eb b o (λx=>hb (by simp [x])) e
 self:=λ_ _ _ _ st q=>wpAny_pyIter_keyiter st.1 q
theorem Gx (hd:(d==sysModules)=false):KdlSrc P w "dict" d d es.size (λi v=>∃h:i < es.size,v=es[i].key) (λh=>XW h d es ep) where
 type:=λz x=>x.ty
 there:=λh x=>let ⟨o,e,_⟩:=x;⟨tP e,tP e⟩
 keep:=λh h' x k=>x.keep λo e=>k d (.inl rfl) o e
 notList:=by decide
 notTuple:=by decide
 hint:=λ_ _ _ _ x q=>kdl_hint_dict x.ty q
 iter:=λA z hh x=>⟨_,_,λE Q q=>wV hd x q,yS hh _ (let ⟨o,e,_⟩:=x;tR (tP e)),⟨⟨_,tZ _ rfl,rfl,rfl⟩,x.keep λo e=>tz _ e⟩⟩
end
end PySem
namespace L2
open PySem PySem.Spec PySem.W PyProof.Rows
theorem JP {α β:Type} {G:α->β->Prop}:∀{l:List α} {m:List β},Paired G l m->∀{i:Nat} {a:α},l[i]?=some a->∃b,m[i]?=some b/\G a b
 | _,_,.nil,i,a,e=>by simp at e
 | _,_,.cons r t,0,a,e=>by cases e;exact⟨_,rfl,r⟩
 | _,_,.cons r t,i+1,a,e=>by
   obtain⟨b,eb,g⟩:=JP t (by simpa using e)
   exact⟨b,by simpa using eb,g⟩
section
variable {X:Cx}
def zU (k:Int×Int):List qL:=[Sum.inl k.1,Sum.inl k.2]
def N1:List V->Hp->VK->Prop:=λxs H Q=>∃(a:Addr) (kvs:List (List qL×V)) (ks:List (Int×Int)),xs=[.ref a]/\H a=some (.dT kvs)/\kvs.map (·.1)=ks.map zU/\(∀(i:Nat) (k k':Int×Int),ks[i]?=some k->ks[i+1]?=some k'->Xj k k')/\kvs.length<=1000/\
 ∀(l:Addr) (ps:List Addr),H l=none->ps.length=ks.length->(∀(i:Nat) (p:Addr) (k:Int×Int),ps[i]?=some p->ks[i]?=some k->H p=some (.tup [.int k.1,.int k.2]))->Q (.ref l) (upd H l (.lst (ps.map V.ref)))
theorem VO:∀(ps:List Addr),qE (ps.map V.ref) (ps.map Value.ref)
 | []=>.nil
 | p::ps=>.cons rfl (VO ps)
theorem vC (hc:X.calm=true):QQ X (.builtin "sorted") N1:=by
 intro pins s σ H xs us Q I r h
 obtain⟨a,kvs,ks,rfl,ea,eks,hr,hz,q⟩:=h
 obtain⟨u,rfl,ru⟩:=Jl r
 cases ru
 obtain⟨_,hsys,ys,pr,o,es,ep,eo,ex,dat,ents,_⟩:=(show qI X.prog X.w H s.heap a (.dT kvs) from I.hok a _ ea)
 have ly:kvs.length=ys.length:=Paired.length pr
 have lk:kvs.length=ks.length:=by simpa using congrArg zaN eks
 have se:es.size=ys.length:=by rw[<-zaF,ents,tj]
 have key:∀i (hi:i < es.size),es[i].key=.ref ((ys.map (·.2.1)).getD i 0):=λi hi=>by
   have e1:es.toList[i]?=some es[i]:=by simp [hi]
   have hy:i < ys.length:=by omega
   rw[ents,tN,tF hy]at e1
   have e2:=(tL.inj e1).symm
   rw[e2]
   show Value.ref ys[i].2.1=_
   simp [hy]
 have tup:∀(i:Nat) (p:Addr) (k:Int×Int),(ys.map (·.2.1))[i]?=some p->ks[i]?=some k->H p=some (.tup [.int k.1,.int k.2]):=λi p k e1 e2=>by
   rw[tN]at e1
   cases ey:ys[i]? with
   | none=>rw[ey]at e1;cases e1
   | some y=>
     rw[ey]at e1
     have ep':y.2.1=p:=tL.inj e1
     have hi:i < kvs.length:=by
       have:=(tw.mp ey).1
       omega
     obtain⟨y',ey',g1,g2,_⟩:=JP pr (tF hi)
     rw[ey]at ey'
     cases ey'
     have ek:kvs[i].1=zU k:=by
       have h1:(kvs.map (·.1))[i]?=some kvs[i].1:=by rw[tN,tF hi];rfl
       rw[eks,tN,e2]at h1
       exact(tL.inj h1).symm
     rw[ek,ep']at g2
     exact g2
 have hh:X.A.in1.handled=none:=I.ok.hd hc
 refine Calls.call_function_entry kind_sorted plain_sorted entry_sorted (args_sorted1 _) ?_
 unfold Builtin.«sorted»
 refine wpAny_bind (m:=checkCount "sorted" 1 1 _) (wpAny_pure ?_)
 refine wpAny_bind (kdu_collect (Gx (es:=es) (ep:=ep) hsys) hh ⟨o,eo,ex,dat⟩ (by rw[se,sizeLine_eq];omega) λh1 tk acc k1 it=>?_)
 have eacc:acc.toList=(ys.map (·.2.1)).map Value.ref:=by
   refine zcm λi=>?_
   by_cases hi:i < es.size
   . have ha:i < acc.size:=by rw[it.1];exact hi
     have e1:acc[i]?=some acc[i]:=zcR ha
     obtain⟨h',e2⟩:=it.2 i _ e1
     rw[Array.getElem?_toList,e1,e2,key i hi,tN]
     have hy:i < (ys.map (·.2.1)).length:=by rw[tj];omega
     rw[tF hy]
     simp [zaC,tF hy]
   . rw[zaT (by rw[zaF,it.1];omega),zaT (by rw[tj,tj];omega)]
 rw[eacc]
 generalize hps:ys.map (·.2.1)=ps at eacc tup key
 have lp:ps.length=ks.length:=by rw[<-hps,tj];omega
 refine wpAny_bind (wpAny_newList ?_)
 have I1:qz X pins σ H {s with heap:=h1,toks:=tk}:=I.kept (t':=tk) k1
 show wpAny _ _ _ _ _ {s with heap:=h1.push (seqObj "list" (ps.map Value.ref).toArray 0),toks:=tk}
 have oL:(h1.push (seqObj "list" (ps.map Value.ref).toArray 0)).get? h1.objs.size=some (seqObj "list" (ps.map Value.ref).toArray 0):=tZ _ rfl
 have pa:∀(i:Nat) (v:Value) (k:Int×Int),(ps.map Value.ref)[i]?=some v->ks[i]?=some k->J2 (h1.push (seqObj "list" (ps.map Value.ref).toArray 0)) v k:=λi v k e1 e2=>by
   rw[tN]at e1
   cases ep1:ps[i]? with
   | none=>rw[ep1]at e1;cases e1
   | some p=>
     rw[ep1]at e1
     obtain rfl:=(tL.inj e1).symm
     obtain⟨its,rv,⟨ob,eb,cb,nb,db⟩,_⟩:=I1.tuple (.of (tup i p k ep1 e2):SqT X.K H p _)
     cases rv with
     | cons r1 rv=>
       cases rv with
       | cons r2 rv=>
         cases rv
         obtain⟨t1,rfl⟩:=r1
         obtain⟨t2,rfl⟩:=r2
         exact⟨p,ob,nb,t1,t2,rfl,tz _ eb,cb,db⟩
 refine wpAny_bind (wpAny_holding (wpAny_call_entry slot_list_sort ⟨_,oL,rfl⟩ entry_list_sort (yH oL (by rw[tj];exact lp) pa hr (by rw[tj];omega) ⟨_,rfl,?_⟩) (args_list_sort _)))
 refine wpAny_pure ⟨_,rfl,?_⟩
 have lne:∀b o,h1.get? b=some o->b≠h1.objs.size:=λb o e=>tR (tP e)
 have kf:∀b o,h1.get? b=some o->(sortedHeap (h1.push (seqObj "list" (ps.map Value.ref).toArray 0)) h1.objs.size (ps.map Value.ref) (ps.map Value.ref).toArray).get? b=some o:=λb o e=>by
   unfold sortedHeap
   rw[zai _ _ (Ne.symm (lne b o e))]
   exact tz _ (tz _ ((zai _ _ (Ne.symm (lne b o e))).trans (tz _ e)))
 obtain⟨c2,o2⟩:∃c,((h1.push (seqObj "list" (ps.map Value.ref).toArray 0)).update h1.objs.size (Obj.mapSeq λ_=>#[])).get? h1.objs.size=some (seqObj "list" #[] c):=⟨_,get?_update_seq oL (λ_=>#[])⟩
 obtain⟨c3,o3⟩:∃c,(sortedHeap (h1.push (seqObj "list" (ps.map Value.ref).toArray 0)) h1.objs.size (ps.map Value.ref) (ps.map Value.ref).toArray).get? h1.objs.size=some (seqObj "list" (ps.map Value.ref).toArray c):=
   ⟨_,get?_update_seq (tz _ (tz _ o2)) (λ_=>(ps.map Value.ref).toArray)⟩
 refine⟨.ref h1.objs.size,_,I1.laid (t':=tk) (o:=.lst (ps.map V.ref)) kf (tq _) ⟨by rw[tj,lp,<-lk];exact zam (ql hz),_,c3,VO ps,o3⟩,rfl,?_⟩
 exact q _ ps (I1.hok.fresh (tq _)) lp tup
end
section
variable {X:Cx}
def qbO:V->Option Int->Option Int->Hp->VK->Prop:=λx lo hi H Q=>∃(z:Str) (j:Int),x=.str z/\lo=none/\hi=some j/\z.length<=1000/\Q (.str (Txt.slice z none (some j))) H
theorem wA:SlR X qbO:=by
 intro pins s σ H x v vl vu lo hi sl Q I rx hs pl pu h
 obtain⟨z,j,rfl,rfl,rfl,hz,q⟩:=h
 obtain⟨t,rfl⟩:=rx
 refine⟨"str",_,PySem.F.slot_str_getitem.lookup,typeIs_str _ _ _,?_⟩
 cases pl
 cases pu
 exact wpAny_getItem_str_slice (l:=none) (u:=some (j,_)) (st:=none) hs rfl (post_val_or_str ⟨zaa (Txt.slice_le z none (some j)) (zam (ql hz)),λt' k=>⟨.str _,H,I.tok k,⟨t',rfl⟩,q⟩⟩)
theorem YG (z:Str) (j:Nat):(Txt.slice z none (some (j:Int))).cps.toList=z.cps.toList.take j:=by
 have hl:z.cps.toList.length=z.length:=zaF
 have idx:Builtin.Str.strSliceIndices none (some (j:Int)) 1 z.length=(tM (min j z.length)).map (0+·):=by
   have e:Builtin.Str.strSliceIndices none (some (j:Int)) 1 z.length=sliceRange ((0:Nat):Int) ((min j z.length:Nat):Int) 1:=by
     unfold Builtin.Str.strSliceIndices
     simp only[show (1:Int) > 0 by decide,if_true,show ¬((j:Int) < 0) by omega,if_false]
     congr 1
     omega
   rw[e,sliceRange_one]
   rfl
 unfold Txt.slice
 rw[idx]
 split
 . rename_i h
   have hm:min j z.length=z.length:=by simpa using h
   rw[tH]
   omega
 . rw[pick_run]
   show (z.cps.toList.drop 0).take (min j z.length)=_
   rw[zdy]
   by_cases hj:j<=z.length
   . rw[zcD hj]
   . rw[zcu (by omega),tH (by omega),tH (by omega)]
def Nh (n:Nat):List V:=(tM n).map λi=>V.int (i:Nat)
def tLr (te:TE):TE:=λσ H Q=>te σ H λx H1=>∃n:Nat,x=.int n/\n<=1000/\∀l,H1 l=none->Q (.ref l) (upd H1 l (.lst (Nh n)))
theorem KJ {n:Nat} {acc:Array Value} (h:ItemsOf (λi v=>∃t,v=.int (0+i*1) t) acc n):qE (Nh n) acc.toList:=by
 obtain⟨hz,hv⟩:=h
 refine yY _ _ (by simp [Nh,hz]) λi x u h1 h2=>?_
 have h2':acc[i]?=some u:=by simpa using h2
 obtain⟨t,rfl⟩:=hv i u h2'
 have hi:i < n:=by
   have:=(zaj.mp h2').1
   omega
 unfold Nh at h1
 rw[tN,zbx hi]at h1
 obtain rfl:=(tL.inj h1).symm
 refine⟨t,?_⟩
 congr 1
 omega
variable {e:Expr} {te:TE} {p1 p3 pos1 pos3:Pos}
theorem qa0 (hc:X.calm=true) (g1:Gl X "list") (m1:X.mg "list"=none) (g3:Gl X "range") (m3:X.mg "range"=none) (ha:JE X e te) (hs:starEach [e] X.env=[(false,eval e X.env)]:=by rfl) (hs2:starEach [.Call (.Name "range" p3) [e] [] pos3] X.env=[(false,eval (.Call (.Name "range" p3) [e] [] pos3) X.env)]:=by rfl):JE X (.Call (.Name "list" p1) [.Call (.Name "range" p3) [e] [] pos3] [] pos1) (tLr te):=.of (by
 have ha:=ha.to
 intro pins s σ H Q I h
 refine Call_ (Jk I g1 m1 boot_list (PyProof.Rows.callWith_type1 (we hs2 ?_) (by rw[hs2];rfl) rfl))
 refine Call_ (Jk I g3 m3 boot_range (PyProof.Rows.callWith_type1 (we hs (ja (ha pins s σ H _ I h) λu s1 ⟨x,H1,I1,r1,q1⟩=>?_)) (by rw[hs];rfl) rfl))
 obtain⟨n,rfl,hn,q⟩:=q1
 obtain⟨t,rfl⟩:=r1
 refine call_range_1 ?_
 refine call_list_range (n:=n) (I1.ok.hd hc) (IsRange.new ..) (small_one (by omega) (by omega) (by omega) (by omega)) (kI n) (by omega) λh' tk acc' c' kp e hi=>?_
 have s1z:s1.heap.objs.size<=(s1.heap.push ({cls:=.type "range",data:=.fields #[.int 0 s1.toks,.int n t,.int 1 (s1.toks+1)]}:Obj)).objs.size:=by
   rw[zbr]
   omega
 exact⟨.ref _,_,I1.laid (t':=tk) (o:=.lst (Nh n)) (λb o eb=>kp b o (tz _ eb)) s1z ⟨by simp only[Nh,tj,zag];exact zam (ql hn),acc'.toList,c',KJ hi,by simpa using e⟩,rfl,q _ (I1.hok.fresh s1z)⟩)
theorem xM (hc:X.calm=true):QQ X (.type "set") (λxs H Q=>∃(p:Addr) (ns:List Int),xs=[.ref p]/\SqL X.K H p (ns.map V.int)/\ns.length<=1000/\∀l S,H l=none->Q (.ref l) (upd H l (.set S (firstMet (λi=>ns.getD i 0) ns.length).length))):=by
 intro pins s σ H xs us Q I r h
 obtain⟨p,ns,rfl,hq,hz,q⟩:=h
 obtain⟨u,rfl,ru⟩:=Jl r
 cases ru
 obtain⟨its,rv,pl,_⟩:=I.list hq
 have hl:=rv.length
 rw[tj]at hl
 have hsz:its.toArray.size=ns.length:=by rw[t8,<-hl]
 refine call_set_list (ns:=ns) (I.ok.hd hc) pl.isList (by simpa using vn rv) (by rw[hsz];show ns.length+1 < 4096;omega) λh' tk so kp=>?_
 rw[hsz]at so
 exact⟨.ref s.heap.objs.size,_,I.laid (t':=tk) (o:=.set _ _) (λb o e=>kp b o (tP e) e) (tq _) so,rfl,q _ _ (I.hok.fresh (tq _))⟩
theorem UG:QQ X (.builtin "len") (λxs H Q=>∃a S n,xs=[V.ref a]/\H a=some (.set S n)/\Q (.int (n:Nat)) H):=by
 intro pins s σ H xs us Q I r h
 obtain⟨a,S,n,rfl,ea,q⟩:=h
 obtain⟨u,rfl,ru⟩:=Jl r
 cases ru
 obtain⟨o,es,ep,t,e1,e2,e3,_,_,b,f,rfl⟩:=(show qI X.prog X.w H s.heap a (.set S n) from I.hok a _ ea)
 refine call_len_set e1 e2 e3 f (by have:es.size < 4096:=b;omega) ⟨.int _,H,I.tok _,⟨_,rfl⟩,q⟩
end
open PySem PySem.Spec PyProof.Rows
def Ite (K:PySem.W.Frag) (a:Addr):It:=⟨λi H=>∃xs x,SqL K H a xs/\xs[i]?=some x,
 λi H v H'=>∃p,H p=none/\v=.ref p/\∀xs x,SqL K H a xs->xs[i]?=some x->H'=upd H p (.tup [.int (i:Nat),x]),
 λi H=>∃xs,SqL K H a xs/\xs.length<=i⟩
theorem yB {P:Program} {w:World} {K:PySem.W.Frag} {elts:List Expr} {x1:Nat} {tpos:Pos} (a e it:Addr) (hne:e≠it):
   UI P w K (.Tuple elts x1 tpos) (Ite K a) [e,it] e (λi h=>(∃old,IsEnum h e it i old)/\h.IsListIter it a i) where
 mem:=by simp
 obj:=λi h st c hc=>by
   obtain⟨⟨old,he⟩,⟨o1,e1,c1,d1⟩⟩:=st
   simp only[tV,zbe,or_false]at hc
   rcases hc with rfl | rfl
   . exact⟨_,he,λv z=>by cases z⟩
   . exact⟨o1,e1,λv z=>by rw[d1]at z;cases z⟩
 keep:=λi h h' st k=>by
   obtain⟨⟨old,he⟩,h1⟩:=st
   exact⟨⟨old,k e (by simp) _ he⟩,h1.at λo e=>k it (by simp) o e⟩
 item:=by
   intro X hP hw hK hc i pins s σ H E I hf st hg
   subst hP hw hK
   obtain⟨⟨old,he⟩,h1⟩:=st
   obtain⟨xs,x,qa,hx⟩:=hg
   obtain⟨its,rv,p,_⟩:=I.list qa
   obtain⟨u,hu,ru⟩:=rv.get hx
   refine wpAny_pyNext_enum_item he h1 p.isList (x:=u) (by simpa using hu) hne λh' z1 z2 z3 z4 kk=>⟨_,rfl,?_⟩
   refine wpAny_letOwnedTupleGo_enum z1 λh'' z1' sb=>?_
   have nT:∀c o,s.heap.get? c=some o->s.heap.objs.size≠c:=λc o e=>zbX (tP e)
   have kT:∀c o,c≠e->h'.get? c=some o->h''.get? c=some o:=λc o hc e=>(sb.2 c hc).trans e
   have I1:qz X pins σ (upd H s.heap.objs.size (.tup [.int (i:Nat),x])) {s with heap:=h'',toks:=s.toks+1}:=I.turnLaid (L:=[e,it]) (t':=s.toks+1)
     (λc o hc e=>kT c o (λz=>hc (by simp [z])) (kk c o (λz=>hc (by simp [z])) (λz=>hc (by simp [z])) e)) hf (tq _)
     ⟨by show 2<=sizeLine;decide,[.int i s.toks,u],.cons ⟨_,rfl⟩ (.cons ru .nil),⟨_,kT _ _ (nT _ _ he) z3,rfl,_,rfl⟩⟩
   refine⟨.ref s.heap.objs.size,_,I1,rfl,⟨s.heap.objs.size,I.hok.fresh (tq _),rfl,λxs' x' qa' hx'=>?_⟩,⟨⟨_,z1'⟩,z2.at λo e=>kT _ o (Ne.symm hne) e⟩,λc hc=>?_⟩
   . rw[I.list_inj qa' qa,hx]at hx'
     cases hx'
     rfl
   . have h0:=(hf c hc).1
     by_cases ec:c=s.heap.objs.size
     . subst ec
       obtain⟨o1,e1,_⟩:=h1
       simp only[tV,zbe,or_false]at hc
       rcases hc with e | e
       . exact absurd e (nT _ _ he)
       . exact absurd e (nT _ _ e1)
     . rw[qg ec];exact h0
 done:=by
   intro X hP hw hK hc i pins s σ H E I hf st hg
   subst hP hw hK
   obtain⟨⟨old,he⟩,h1⟩:=st
   obtain⟨xs,qa,hl⟩:=hg
   obtain⟨its,rv,p,_⟩:=I.list qa
   have l1:=rv.length
   exact wpAny_pyNext_enum_end (I.ok.hd hc) he h1 p.isList (by simp;omega) λh' kk=>⟨rfl,I.turnedL (L:=[e,it]) (t':=s.toks) (λc o hc e=>kk c o (λz=>hc (by simp [z])) e) hf⟩
 self:=λ_ _ _ _ _ st h=>let ⟨⟨_,he⟩,_⟩:=st;wpAny_pyIter_enum he h
section
variable {X:Cx} {elts:List Expr} {x1:Nat} {tpos:Pos}
def qa4 (K:PySem.W.Frag) (ta:TA):TI:=λσ H R=>ta σ H λvs H1=>∃a,vs=[.ref a]/\(∃xs,SqL K H1 a xs)/\R (Ite K a) H1
theorem k6 {a:Expr} {ta:TA} {p pos:Pos} (hg:Gl X "enumerate") (hm:X.mg "enumerate"=none) (ha:JA X [a] ta) (hs:starEach [a] X.env=[(false,eval a X.env)]:=by rfl):JI X (.Tuple elts x1 tpos) (.Call (.Name "enumerate" p) [a] [] pos) (qa4 X.K ta):=.of (by
 have ha:=ha.to
 intro pins s σ H R I h
 refine Call_ (Jk I hg hm boot_enumerate (PyProof.Rows.callWith_type1 (ja (ha pos pins s σ H _ I h) λus s1 ⟨vs,H1,I1,r1,q1⟩=>?_) (by rw[hs];rfl) rfl))
 obtain⟨l,e,⟨xs,qa⟩,q⟩:=q1
 subst e
 cases r1 with
 | cons r rr=>
   cases rr
   cases r
   obtain⟨its,rv,p,_⟩:=I1.list qa
   refine call_enumerate_list p.isList λh' z1 z2 z3 kk=>?_
   refine wpAny_pyIter_enum z1 ?_
   have I2:qz X pins σ H1 {s1 with heap:=h'}:=I1.kept (t':=s1.toks) kk
   have fr:∀c,s1.heap.objs.size<=c->ZR X pins H1 c:=λc hc=>I1.fpOk hc (I1.hok.fresh hc)
   refine⟨s1.heap.objs.size+1,[s1.heap.objs.size+1,s1.heap.objs.size],_,_,H1,rfl,I2,yB l (s1.heap.objs.size+1) s1.heap.objs.size (Nat.succ_ne_self _),⟨⟨_,z1⟩,z2⟩,λc hc=>?_,q⟩
   simp only[tV,zbe,or_false]at hc
   rcases hc with e | e<;>rw[e]<;>first | exact fr _ (Nat.le_add_right _ _) | exact fr _ (tq _))
end
theorem Ux {K:PySem.W.Frag} {a:Addr} {xs:List V} {g:TG} {tb:TS} {D:Q8} {σ:St} {H:Hp} (Pv:Nat->St->Hp->Prop) (h0:Pv 0 σ H) (hl:∀i σ H,i<=xs.length->Pv i σ H->SqL K H a xs)
   (hs:∀i x σ H p,xs[i]?=some x->H p=none->Pv i σ H->g (.ref p) σ (upd H p (.tup [.int (i:Nat),x])) λσ2 H2=>tb {D with nx:=Pv (i+1),ct:=Pv (i+1),bk:=D.nx} σ2 H2) (hd:∀σ H,Pv xs.length σ H->D.nx σ H):
   ∃W:Nat->Nat->St->Hp->Prop,(∃m,W 0 m σ H)/\∀i m σ H,W i m σ H->
    ((Ite K a).stop i H/\D.nx σ H)\/((Ite K a).go i H/\∃N:St->Hp->Prop,(∀σ' H',N σ' H'->∃m',m' < m/\W (i+1) m' σ' H')/\∀x H',(Ite K a).yld i H x H'->g x σ H' λσ2 H2=>tb {D with nx:=N,ct:=N,bk:=D.nx} σ2 H2):=by
 refine⟨λi m σ H=>m=xs.length - i/\i<=xs.length/\Pv i σ H,⟨xs.length,by simp,zal _,h0⟩,?_⟩
 rintro i m σ H ⟨rfl,hi,p⟩
 have qa:=hl i σ H hi p
 by_cases hlt:i < xs.length
 . have ex:xs[i]?=some xs[i]:=tF hlt
   refine .inr ⟨⟨xs,_,qa,ex⟩,Pv (i+1),λσ' H' p'=>⟨xs.length - (i+1),by omega,rfl,hlt,p'⟩,λx H' yl=>?_⟩
   obtain⟨pp,hp,rfl,e⟩:=yl
   rw[e xs _ qa ex]
   exact hs i _ σ H pp ex hp p
 . have e:i=xs.length:=by omega
   subst e
   exact .inl ⟨⟨xs,qa,tq _⟩,hd σ H p⟩
theorem Ze (ns:List Nat):∀i,i<=ns.length->preSum (λj=>((ns.getD j 0:Nat):Int)) i=(((ns.take i).sum:Nat):Int)
 | 0,_=>by simp [preSum]
 | i+1,h=>by
   have hi:i < ns.length:=h
   show preSum _ i+_=_
   rw[Ze ns i (zam hi),tS,tF hi,zbi]
   simp [zaC,tF hi]
theorem zS (ns:List Nat) (i:Nat):(ns.take i).sum<=ns.sum:=by
 have h:(ns.take i++ns.drop i).sum=ns.sum:=by rw[List.take_append_drop]
 rw[zbi]at h
 omega
theorem Uw (ns:List Nat) (i:Nat):ns.getD i 0<=ns.sum:=by
 have h:=zS ns (i+1)
 rw[tS,zbi]at h
 rw[zaC]
 cases e:ns[i]? with
 | none=>exact zal _
 | some x=>
   rw[e]at h
   simp at h ⊢
   omega
section
variable {X:Cx}
theorem zJ (hc:X.calm=true):QQ X (.builtin "sum") (λxs H Q=>∃(p:Addr) (ns:List Nat),xs=[.ref p]/\SqL X.K H p (ns.map λn=>V.int ((n:Nat):Int))/\ns.sum < 2^62/\Q (.int (ns.sum:Nat)) H):=by
 intro pins s σ H xs us Q I r h
 obtain⟨p,ns,rfl,hq,hs,q⟩:=h
 obtain⟨u,rfl,rx⟩:=Jl r
 cases rx
 obtain⟨its,rv,pl,hz⟩:=I.list hq
 have hlt:p < s.heap.objs.size:=by
   obtain⟨o,n,e,_⟩:=pl
   exact tP e
 have hn:its.toArray.size=ns.length:=by
   have:=rv.length
   rw[tj]at this
   simp only[t8]
   omega
 have hh:X.A.in1.handled=none:=I.ok.hd hc
 refine call_sum_walk (wpAny_pyIter_list pl.isList ?_)
 refine⟨s.heap.objs.size,[s.heap.objs.size,p],[s.heap.objs.size],its.toArray.size,λi v=>its.toArray[i]?=some v,_,λj=>((ns.getD j 0:Nat):Int),rfl,Walks.list hh s.heap.objs.size p (tR hlt) its.toArray,
   ⟨⟨_,tZ _ rfl,rfl,rfl⟩,pl.isList.at λo e=>tz _ e⟩,?_,?_,?_,λh' tk t' hk=>?_⟩
 . intro b hb
   show b < (s.heap.push _).objs.size
   rw[zbr]
   simp only[tV,zbe,or_false]at hb
   rcases hb with e | e
   . rw[e];exact zaM _
   . rw[e];exact zbS hlt
 . intro i v hP
   have hi:its[i]?=some v:=by simpa using hP
   cases e:ns[i]? with
   | none=>
     exfalso
     have h1:(ns.map λn=>V.int ((n:Nat):Int))[i]?=none:=by rw[tN,e];rfl
     rw[qE.none_of rv h1]at hi
     cases hi
   | some b=>
     have h1:(ns.map λn=>V.int ((n:Nat):Int))[i]?=some (V.int b):=by rw[tN,e];rfl
     obtain⟨u,hu,ru⟩:=rv.get h1
     rw[hi]at hu
     cases hu
     obtain⟨t,rfl⟩:=ru
     refine⟨t,?_⟩
     show Value.int b t=.int ((ns.getD i 0:Nat):Int) t
     rw[zaC,e]
     rfl
 . intro j hj
   rw[hn]at hj
   have h1:=Uw ns j
   have h2:=zS ns (j+1)
   have h3:=Ze ns (j+1) hj
   refine⟨⟨?_,?_⟩,⟨?_,?_⟩⟩
   . show -(2^63)<=((ns.getD j 0:Nat):Int)
     omega
   . show ((ns.getD j 0:Nat):Int) < 2^63
     omega
   . rw[h3];omega
   . rw[h3];omega
 . rw[hn,Ze ns _ (tq _),tH (tq _)]
   refine⟨.int (ns.sum:Nat),H,?_,⟨_,rfl⟩,q⟩
   exact I.kept (h':=h') (t':=tk) λb o e=>hk b o (by
     intro z
     have z':b=s.heap.objs.size:=by simpa using z
     exact absurd (tP e) (by rw[z'];exact zat _)) (tz _ e)
end
open PySem PySem.Spec PyProof.Rows
section
variable {X:Cx} {pins:List (Addr×Obj)} {σ:St} {H:Hp} {s:Shared} {a b:Addr} {kvs more:List (qL×V)} {A:Around} {E:Value->Shared->Prop}
end
section
variable {X:Cx} {o e:Expr} {apos cpos:Pos} {td ty:TE}
end
theorem qb3 {us:List Value} (h:us.length=0):us=[]:=zaE h
theorem Rw {us:List Value} {n:Nat} (h:us.length=n+1):∃a r,us=a::r/\r.length=n:=by
 cases us with
 | nil=>cases h
 | cons a r=>exact⟨a,r,rfl,zdx.inj h⟩
theorem Qs {us:List Value} (h:us.length=1):∃a,us=[a]:=by
 obtain⟨a,r,rfl,h'⟩:=Rw h
 exact⟨a,by rw[qb3 h']⟩
theorem QK {us:List Value} (h:us.length=2):∃a b,us=[a,b]:=by
 obtain⟨a,r,rfl,h'⟩:=Rw h
 obtain⟨b,rfl⟩:=Qs h'
 exact⟨a,b,rfl⟩
theorem Vq {us:List Value} (h:us.length=3):∃a b c,us=[a,b,c]:=by
 obtain⟨a,r,rfl,h'⟩:=Rw h
 obtain⟨b,c,rfl⟩:=QK h'
 exact⟨a,b,c,rfl⟩
theorem Rx {us:List Value} (h:us.length=4):∃a b c d,us=[a,b,c,d]:=by
 obtain⟨a,r,rfl,h'⟩:=Rw h
 obtain⟨b,c,d,rfl⟩:=Vq h'
 exact⟨a,b,c,d,rfl⟩
open PySem PySem.Spec PyProof.Rows
abbrev Cx.suite (X:Cx) (a:Value) (E:Value->Shared->Prop):Cx:={X with A:=X.A.mark (some a),calm:=false,xe:=E}
abbrev Cx.tried (X:Cx) (pn:List (Addr×Obj)) (E:Value->Shared->Prop):Cx:={X with xe:=E,pn:=pn}
section
variable {X:Cx} {pins:List (Addr×Obj)} {σ:St} {H:Hp} {s:Shared} {E:Value->Shared->Prop} {a:Value}
theorem Cx.Ok.suite (o:X.Ok) (a:Value) (E:Value->Shared->Prop):(X.suite a E).Ok:=⟨o.mod,o.kind,o.glob,o.blt,o.above,o.inj,o.has,o.cab,λz=>Bool.noConfusion z,o.frames,o.stk,o.exf,o.bs,o.bsz,o.noex,o.exfs,o.funs,o.frf⟩
theorem Cx.Ok.tried (o:X.Ok) (pn:List (Addr×Obj)) (E:Value->Shared->Prop):(X.tried pn E).Ok:=⟨o.mod,o.kind,o.glob,o.blt,o.above,o.inj,o.has,o.cab,o.hd,o.frames,o.stk,o.exf,o.bs,o.bsz,o.noex,o.exfs,o.funs,o.frf⟩
theorem qz.suite (I:qz X pins σ H s) (a:Value) (E:Value->Shared->Prop):qz (X.suite a E) pins σ H s:=⟨I.ok.suite a E,I.os,I.bare,I.base,I.loc,I.cell,I.free,I.freeC,I.pin,I.hok,I.len⟩
theorem qz.unsuite {σ0:St} {H0:Hp} {s0:Shared} (I0:qz X pins σ0 H0 s0) (I:qz (X.suite a E) pins σ H s):qz X pins σ H s:=⟨I0.ok,I.os,I.bare,I.base,I.loc,I.cell,I.free,I.freeC,I.pin,I.hok,I.len⟩
theorem qz.tried (I:qz X pins σ H s) (E:Value->Shared->Prop):qz (X.tried (X.pn++pins) E) [] σ H s:=⟨I.ok.tried _ E,I.os,I.bare,I.base,I.loc,I.cell,I.free,I.freeC,λp hp=>I.pin p (by simpa using hp),I.hok,I.len⟩
theorem qz.untried {pins':List (Addr×Obj)} {σ0:St} {H0:Hp} {s0:Shared} (I0:qz X pins σ0 H0 s0) (I:qz (X.tried (X.pn++pins) E) pins' σ H s):qz X pins σ H s:=⟨I0.ok,I.os,I.bare,I.base,I.loc,I.cell,I.free,I.freeC,λp hp=>I.pin p (zaI _ hp),I.hok,I.len⟩
theorem Ys {M:Model} {A:Around} {F:Value->Shared->Prop} {i:Nat} {x:Str} {pos:Pos} {Q:Unit->Shared->Prop} (I:qz X pins σ H s) (hN:X.N.Nodup) (hi:X.N[i]?=some x) (hk:X.env.scope.names.lookup x=some .local)
   (h:∀s',qz X pins (σ.set i none) H s'->Q () s'):wpAny M A (do bindName X.env x .none;unbindBehindTheSuite X.env x pos) Q F s:=by
 obtain⟨m,hn,hl⟩:=id I.loc
 have hcls:(X.env.scope.kind==.class || (X.env.scope.kind==.module&&X.env.locals != X.env.globals))=false:=by rw[I.ok.kind];rfl
 have hiσ:i < σ.length:=by rw[I.len];exact(tw.mp hi).1
 have cne:=I.cne
 have tracked:∀{a:Addr} {h':Heap},(∃o,s.heap.get? a=some o/\H a=none)->Heap.SameBut a s.heap h'->JK X.prog X.w H h':=λ{a h'} ha hs b ob e=>by
   obtain⟨_,_,hfree⟩:=ha
   refine(I.hok b ob e).stay (λc w' hc q=>(hs.2 c ?_).trans q) (λ_ q=>q) λ_ _ q=>q
   rintro rfl
   rcases hc with rfl | hc
   . rw[hfree]at e;cases e
   . rw[hfree]at hc;cases hc
 refine wpAny_nameGoes_keeps hk hn hcls λh' v0 hn' hs=>?_
 obtain⟨oL,_,_,hoL,_⟩:=id hn
 refine h _ ⟨I.ok,I.os,I.bare,⟨λb o e n hb hx=>?_,λb o e n hb hx=>?_,I.base.free,λb o e hx=>?_,I.base.tups,I.base.frzs,I.base.tbls⟩,⟨_,hn',λj y v' e1 e2 e3=>?_⟩,λy c e=>?_,I.free,I.freeC,λp hp=>?_,tracked ⟨oL,hoL,I.free⟩ hs,by simpa using I.len⟩
 . exact(hs.2 b (tR (tO (tP e) I.ok.above))).trans (I.base.keep b o e n hb hx)
 . obtain⟨sl,e1⟩:=I.base.slot b o e n hb hx
   exact⟨sl,(hs.2 b (tR (tO (tP e) I.ok.above))).trans e1⟩
 . obtain⟨o',e1⟩:=I.base.there b o e hx
   exact⟨o',(hs.2 b (tR (tO (tP e) I.ok.above))).trans e1⟩
 . by_cases hj:j=i
   . subst hj
     rw[zcj hiσ]at e2
     cases e2
   . rw[zcA (Ne.symm hj)]at e2
     obtain⟨u',r',q⟩:=hl j y v' e1 e2 e3
     refine⟨u',r',?_⟩
     rcases q with ⟨k,e⟩ | ⟨k,c,e,z⟩
     . refine .inl ⟨k,?_⟩
       have:y≠x:=λe=>hj (Xf hN e1 (e▸hi))
       simp [this,e]
     . exact .inr ⟨k,c,e,z.sameBut hs (cne y c e)⟩
 . obtain⟨w',z⟩:=I.cell y c e
   exact⟨w',z.sameBut hs (cne y c e)⟩
 . obtain⟨e,n,ne,nf,d⟩:=I.pin p hp
   exact⟨(hs.2 p.1 ne).trans e,n,ne,nf,d⟩
end
abbrev TH:=Addr->Addr->Addr->TS
def PH (X:Cx) (hs:List ExceptHandler) (t:TH):Prop:=
 ∀(pins:List (Addr×Obj)) (s:Shared) (σ:St) (H:Hp) (D:Q8) (a C dx T:Addr),qz X pins σ H s->H a=some (Qm a C dx (.ref T))->H T=some (XQ T .none)->t C a dx D σ H->
   wpAny (model X.prog X.w) X.A (handleBy (.ref a) X.env hs) (SP X pins D) X.xe s
def Kf:TH:=λ_ _ _ _ _ _=>False
theorem xh {X:Cx} {hs:List ExceptHandler}:PH X hs Kf:=λ_ _ _ _ _ _ _ _ _ _ _ _ h=>h.elim
def Q8.gone (D:Q8) (j:Nat):Q8:={nx:=λσ H=>D.nx (σ.set j none) H,rt:=D.rt,bk:=λσ H=>D.bk (σ.set j none) H,ct:=λσ H=>D.ct (σ.set j none) H}
def vV (K:PySem.W.Frag) (Cl:Addr) (j:Nat) (ts:TS) (tr:TH):TH:=λC a dx D σ H=>∃f bm,EMk K C f bm/\
 if (Value.ref C::bm).contains (.ref Cl)=true then ts (D.gone j) (σ.set j (some (.ref a))) H else tr C a dx D σ H
def M5 (K:PySem.W.Frag) (C:Addr):Prop:=∃bm,(∃nm q N bs hdct sn sub ab col dd k0 k1 k2 k3 k5,K.lookup C=some (excClassObj nm q C N bs bm hdct sn sub ab col dd k0 k1 k2 k3 k5 "ValueError.__new__"))/\bm.contains (.type "BaseException")=true
theorem xS.c {K:PySem.W.Frag} {C:Addr} (h:xS K C):M5 K C:=let ⟨_,bm,a,b⟩:=h;⟨bm,a.obj,b⟩
theorem vB {X:Cx} {x n:Str} {p pos:Pos} {j:Nat} {b₀:Stmt} {suite:List Stmt} {rest:List ExceptHandler} {ts:TS} {tr:TH} {Cl:Addr} (hg:Gl X x) (hm:X.mg x=some (.ref Cl)) (hD:M5 X.K Cl) (hN:X.N.Nodup) (hj:X.N[j]?=some n)
   (hl:X.env.scope.names.lookup n=some .local) (hs:∀v E,KE (X.suite v E) (b₀::suite) ts) (hr:PH X rest tr) (hdb:(x==("__debug__":Str))=false:=by decide):PH X (.ExceptHandler (some (.Name x p)) (some n) (b₀::suite) pos::rest) (vV X.K Cl j ts tr):=by
 intro pins s σ H D a C dx T I ha hT h
 obtain⟨f,bm,em,h⟩:=h
 obtain⟨bm',em',hB⟩:=hD
 refine wpAny_handleBy_cons (codeAny_handlers_test ?_) (by intro q;cases q)
 refine wpAny_mono (kM (X:=X.suite (.ref a) _) (v:=.ref Cl) hg hm rfl hdb pins s σ H (λv H'=>v=.ref Cl/\H'=H) (I.suite _ _) ⟨rfl,rfl⟩) (λc s₁ q=>?_) (λ_ _ z=>z)
 obtain⟨v,H',I1,rv,rfl,rfl⟩:=q
 obtain rfl:c=Value.ref Cl:=rv
 have I2:qz X pins σ H' s₁:=I.unsuite I1
 obtain⟨nm,q,N,bs,hdct,sn,sub,ab,col,dd,k0,k1,k2,k3,k5,hC⟩:=em.obj
 obtain⟨nm',q',N',bs',hdct',sn',sub',ab',col',dd',k0',k1',k2',k3',k5',hC'⟩:=em'
 obtain⟨⟨fl,he,hz⟩,_,_⟩:=(show qI X.prog X.w H' s₁.heap a (Qm a C dx (.ref T)) from I2.hok a _ ha)
 obtain⟨st,_,_⟩:=(show qI X.prog X.w H' s₁.heap T (XQ T .none) from I2.hok T _ hT)
 have gC:=I2.kIn _ _ hC
 have gD:=I2.kIn _ _ hC'
 obtain⟨hp,g,d,tk,os⟩:=s₁
 refine xJ (bC:=Value.ref C::bm) (bD:=Value.ref Cl::bm') he rfl gC gD (λT Q k=>wpAny_isSubtype_exc gC k) (λT Q k=>wpAny_isSubtype_exc gD k) (by rw[zbp,hB,Bool.or_true]) ?_
 cases hb:(Value.ref C::bm).contains (.ref Cl) with
 | false=>
   rw[hb,if_neg tK]at h
   exact hr pins _ σ H' D a C dx T I2 ha hT h
 | true=>
   rw[hb,if_pos rfl]at h
   refine(show codeAny _ _ _ _ _ from codeAny_handlers_suite_as ?_)
   refine J0 (fs:=zZ X.stack) he hz st λh' F st'=>?_
   have I3:qz X pins σ H' {heap:=h',gens:=g,drawn:=d,toks:=tk,os:=os}:=I2.flown (H':=H') F ⟨λb hb'=>by cases tX.mp hb';exact⟨_,hT⟩,λb o _ z=>z,λb _ z=>z⟩ (λb hb'=>by cases tX.mp hb';obtain⟨ts',z,_⟩:=st';exact⟨_,z⟩) λb o z hb'=>by
     rcases hb' with hb' | hb'
     . rw[z]at hb';cases hb'
     . cases tX.mp hb'
       rw[hT]at z
       cases z
       exact ZI st'
   refine ZV I3 hN hj (.inl hl) (v:=.ref a) rfl (λs' I4=>?_) (.inr hl)
   refine wpAny_mono (hs (.ref a) _ pins s' _ H' (D.gone j) (I4.suite _ _) h) (λfl s3 q=>?_) (λ_ _ z=>z)
   cases fl with
   | next=>
     obtain⟨σ3,H3,I5,q⟩:=q
     exact Ys (I.unsuite I5) hN hj hl λs4 I6=>⟨_,_,I6,q⟩
   | brk=>
     obtain⟨σ3,H3,I5,q⟩:=q
     exact Ys (I.unsuite I5) hN hj hl λs4 I6=>⟨_,_,I6,q⟩
   | cont=>
     obtain⟨σ3,H3,I5,q⟩:=q
     exact Ys (I.unsuite I5) hN hj hl λs4 I6=>⟨_,_,I6,q⟩
   | ret u=>
     obtain⟨v,σ3,H3,I5,r,q⟩:=q
     exact Ys (I.unsuite I5) hN hj hl λs4 I6=>⟨v,_,_,I6,r,q⟩
def qaw (tb:(St->XK)->TS) (th:TH):TS:=λD σ H=>∃R:Addr->Addr->Hp->Prop,tb (λσ' c d Hx=>σ'=σ/\∃C dx,c=.ref C/\d=some dx/\R C dx Hx) D σ H/\
 ∀(a C dx T:Addr) (Hx H':Hp),R C dx Hx->Hx a=some (JB a C dx)->(∀b o,b≠a->Hx b=some o->H' b=some o)->H' a=some (Qm a C dx (.ref T))->th C a dx D σ H'
theorem KN {X:Cx} {body:List Stmt} {h0:ExceptHandler} {hs:List ExceptHandler} {tb:(St->XK)->TS} {th:TH} {pos:Pos} (hst:X.stack=X.env::X.outer) (hfm:X.env.frame=some X.env.locals)
   (hb:∀(pn:List (Addr×Obj)) (W:Value->Shared->Prop) (E:St->XK),Yx (Q9 X.prog X.w) (X.tried pn W) E->KE (X.tried pn W) body (tb E)) (hh:PH X (h0::hs) th):PS X (.Try body (h0::hs) [] [] pos) (qaw tb th):=by
 intro pins s σ H D I h
 obtain⟨R,hbd,hx⟩:=h
 refine wpAny_Try_except ?_
 refine wpAny_mono (hb (X.pn++pins) (λe s₁=>wpAny (model X.prog X.w) X.A (noteFrame e X.env) (λ_ s₂=>wpAny (model X.prog X.w) X.A (setFlight e none) (λ_ s₃=>wpAny (model X.prog X.w) X.A (handleBy e X.env (h0::hs)) (SP X pins D) X.xe s₃) X.xe s₂) X.xe s₁) _ ?_ [] s σ H D (I.tried _) hbd) (λf s1 q=>?_) (λ_ _ z=>z)
 . intro pins' σ' H1 s1 e s' I1 hc
   obtain⟨a,C,dx,T,Hx,H2,rfl,os,bare,un,hok,ha,ht,hxT,hxa,hxs,rfl,C',dx',eC,eD,hR⟩:=hc
   cases eC
   cases eD
   have I2:qz X pins σ' H2 s':=I.untried (I1.call' os un hok bare λb z=>absurd z (by simp))
   obtain⟨⟨fl,he,hz⟩,_,_⟩:=(show qI X.prog X.w H2 s'.heap a (Qm a C dx (.ref T)) from I2.hok a _ ha)
   obtain⟨st0,_,_⟩:=(show qI X.prog X.w H2 s'.heap T (XQ T .none) from I2.hok T _ ht)
   have nT0:T≠a:=λz=>by
     obtain⟨ts,q,_⟩:=st0
     rw[z,he]at q
     cases q
   have fr:=I2.ok.frames
   have ff:=I2.stack
   rw[hst]at fr ff
   refine Vl fr ff hfm he hz st0 nT0 λh1 T' hT F tT q1 q2=>?_
   have lt:=(zaj.mp hz).1
   have g1:(fl.setIfInBounds 1 (Value.ref T'))[1]?=some (.ref T'):=by simp [lt]
   have nT:T'≠a:=λz=>by
     obtain⟨ts,q,_⟩:=q2
     rw[z,q1]at q
     cases q
   refine J0 (fs:=zZ X.stack) q1 g1 q2 λh2 F2 stt=>?_
   have anf:∀b o,H2 b=some o->b∉zZ X.stack:=λb o q z=>by
     have:=I2.stkFree b z
     rw[q]at this
     cases this
   have hTn:H2 T'=none:=I2.hok.fresh hT
   have nTT:T'≠T:=(qp ht hTn).symm
   have q3:=F2.keep a _ (anf a _ ha) (by simp [Ne.symm nT]) q1
   obtain⟨oT,hoT⟩:=tT
   have q4:=F2.keep T _ (anf T _ ht) (by simp [Ne.symm nTT]) hoT
   rw[<-hst]at F
   have I3:=I2.flown (H':=upd (upd (upd H2 a (Qm a C dx (.ref T'))) T (.ext λh=>∃o,h.get? T=some o)) T' (XQ T' .none)) (vI.then F F2 hT) ⟨λb hb=>by
       simp only[tV,zaz,or_false]at hb
       rcases hb with rfl | rfl
       . exact⟨_,ha⟩
       . exact⟨_,ht⟩,λb o hb q=>by
       simp only[tV,zaz,or_false,not_or]at hb
       rw[qg (qp q hTn),qg hb.2,qg hb.1];exact q,λb hb q=>by
       rw[qg (tR (tO hb hT)),qg (λz=>by rw[z,ht]at q;cases q),qg (λz=>by rw[z,ha]at q;cases q)];exact q⟩ (λb hb=>by
       simp only[tV,zaz,or_false]at hb
       rcases hb with rfl | rfl
       . exact⟨_,q3⟩
       . exact⟨_,q4⟩) λb o q hb=>by
     by_cases e1:b=T'
     . subst e1
       rw[qd]at q
       cases q
       exact ZI stt
     . rw[qg e1]at q
       by_cases e2:b=T
       . subst e2
         rw[qd]at q
         cases q
         exact⟨⟨_,q4⟩,⟨_,q4⟩,λh1 h2 ⟨u,z⟩ k=>⟨u,k u z⟩⟩
       . rw[qg e2]at q
         by_cases e3:b=a
         . subst e3
           rw[qd]at q
           cases q
           exact Zw ⟨_,q3,g1⟩
         . rw[qg e3]at q
           rcases hb with hb | hb
           . rw[q]at hb;cases hb
           . simp only[tV,zaz,or_false]at hb
             exact(hb.elim e3 e2).elim
   have ea:upd (upd (upd H2 a (Qm a C dx (.ref T'))) T (.ext λh=>∃o,h.get? T=some o)) T' (XQ T' .none) a=some (Qm a C dx (.ref T')):=by rw[qg (Ne.symm nT),qg (Ne.symm nT0),qd]
   refine hh pins _ σ' _ D a C dx T' I3 ea qd (hx a C dx T' Hx _ hR hxa (λb o nb q=>?_) ea)
   have n1:b≠T:=λz=>by rw[z,hxT]at q;cases q
   have q':=hxs b o nb q
   rw[qg (qp q' hTn),qg n1,qg nb]
   exact q'
 . cases f with
   | next=>
     obtain⟨σ',H',I',q⟩:=q
     exact wpAny_execs_nil ⟨σ',H',I.untried I',q⟩
   | brk=>
     obtain⟨σ',H',I',q⟩:=q
     exact⟨σ',H',I.untried I',q⟩
   | cont=>
     obtain⟨σ',H',I',q⟩:=q
     exact⟨σ',H',I.untried I',q⟩
   | ret u=>
     obtain⟨v,σ',H',I',r,q⟩:=q
     exact⟨v,σ',H',I.untried I',r,q⟩
@[irreducible] def JH (X:Cx) (hs:List ExceptHandler) (t:TH):Prop:=PH X hs t
theorem JH.of {X:Cx} {hs:List ExceptHandler} {t:TH} (h:PH X hs t):JH X hs t:=by unfold JH;exact h
theorem JH.to {X:Cx} {hs:List ExceptHandler} {t:TH} (h:JH X hs t):PH X hs t:=by unfold JH at h;exact h
theorem uY {X:Cx} {hs:List ExceptHandler}:JH X hs Kf:=.of xh
theorem Vv {X:Cx} {x n:Str} {p pos:Pos} {j:Nat} {b₀:Stmt} {suite:List Stmt} {rest:List ExceptHandler} {ts:TS} {tr:TH} {Cl:Addr} (hg:Gl X x) (hm:X.mg x=some (.ref Cl)) (hD:xS X.K Cl) (hN:X.N.Nodup) (hj:X.N[j]?=some n)
   (hl:X.env.scope.names.lookup n=some .local) (hs:∀v E,XY (X.suite v E) (b₀::suite) ts) (hr:JH X rest tr) (hdb:(x==("__debug__":Str))=false:=by decide):JH X (.ExceptHandler (some (.Name x p)) (some n) (b₀::suite) pos::rest) (vV X.K Cl j ts tr):=
 .of (vB hg hm hD.c hN hj hl (λv E=>(hs v E).to) hr.to hdb)
theorem Mw {X:Cx} {body:List Stmt} {h0:ExceptHandler} {hs:List ExceptHandler} {tb:(St->XK)->TS} {th:TH} {pos:Pos} (hst:X.stack=X.env::X.outer) (hfm:X.env.frame=some X.env.locals)
   (hb:∀(pn:List (Addr×Obj)) (W:Value->Shared->Prop) (E:St->XK),Yx (Q9 X.prog X.w) (X.tried pn W) E->XY (X.tried pn W) body (tb E)) (hh:JH X (h0::hs) th):JS X (.Try body (h0::hs) [] [] pos) (qaw tb th):=
 .of (KN hst hfm (λpn W E h=>(hb pn W E h).to) hh.to)
def vT (K:PySem.W.Frag) (bm:List Value) (ta:TE) (f:Str):TE:=λσ H Q=>ta σ H λx H1=>∃a C dx hd fs v,x=.ref a/\H1 a=some (Qm a C dx hd)/\H1 dx=some (.xd fs)/\VJ K C bm/\jX K C f/\fs.lookup f=some v/\Q v H1
section
variable {X:Cx} {f:Str} {e:Expr} {pos:Pos} {ta:TE} {bm:List Value}
theorem Vw (he:JE X e ta) (hb:attributeBase e f X.env (eval e X.env)=eval e X.env):JE X (.Attribute e f pos) (vT X.K bm ta f):=.of (by
 have he:=he.to
 intro pins s σ H Q I h
 refine yp hb (ja (he pins s σ H _ I h) λu s1 z=>?_)
 obtain⟨x,H1,I1,rx,a,C,dx,hd,fs,v,ex,ea,ed,c,n,l,q⟩:=z
 subst ex
 obtain rfl:u=Value.ref a:=rx
 exact xF I1 ea ed c n l λu' s2 I2 ru=>⟨v,H1,I2,ru,q⟩)
theorem qo.cx {P:Program} {w:World} {K:PySem.W.Frag} {mg:Str->Option Value} {base:Heap} {CX:WP} {k:Nat} {f:Addr} {fd:FuncData} {ps:List Str} {sp:Sp} (F:qo P w K mg base qN k f fd ps sp):qo P w K mg base CX k f fd ps sp:=
 ⟨F.len,λA outer s H args us vs Q E hr he hb hv hs=>codeAny_mono (F.run A outer s H args us vs Q E hr he hb hv hs) λr s' q=>by
   match r,q with
   | .ok (.ret u),q=>exact q
   | .ok .next,q=>exact q
   | .ok .brk,q=>exact q
   | .ok .cont,q=>exact q
   | .error e,q=>exact q.elim⟩
end
end L2
namespace PySem
open PySem.Spec
namespace F
theorem plain_dupd_loop:plainId "dict.update.loop"=true:=by decide+kernel
theorem entry_dupd_loop:entryFor table "dict.update.loop"=some Builtin.«dict.update.loop»:=entryFor_of_fast (by kernel_rfl)
end F
theorem Heap.DictOf.keepsAt {prog:Program} {w:World} {κ:Type} [DecidableEq κ] {knd:KeyKind prog w κ} {h h':Heap} {a:Addr} {kvs:List (κ×Value)} (hm:h.DictOf knd a kvs) (k:∀o,h.get? a=some o->h'.get? a=some o):h'.DictOf knd a kvs:=
 let ⟨o,es,ep,ho,r⟩:=hm;⟨o,es,ep,k o ho,r⟩
section
variable {prog:Program} {w:World} {A:Around} {R:Result->Shared->Prop} {I:Addr} {fp wr:List Addr} {n:Nat} {P:Nat->Value->Prop} {St:Nat->Heap->Prop} {κ:Type} [DecidableEq κ] {knd:KeyKind prog w κ}
def MU (knd:KeyKind prog w κ) (h:Heap) (wr:List Addr) (d:Addr) (v:Value) (kv:κ×Value):Prop:=∃p o c k,v=.ref p/\h.get? p=some o/\o.cls=.type "tuple"/\o.data=.seq #[k,kv.2] c/\knd.is kv.1 k=true/\p∉wr/\p≠d
theorem zg (W:Walks prog w A.in1 I fp wr n P St) (kv:Nat->κ×Value) (d:Addr) (hdf:d∉fp) (hn:n<=1000):
   ∀(k i:Nat) (s:Shared) (t:Tok) (kvs:List (κ×Value)),n - i=k->i<=n->St i s.heap->s.heap.DictOf knd d kvs->kvs.length<=i->(∀j v,P j v->MU knd s.heap wr d v (kv j))->
   (∀h' tk,h'.DictOf knd d (merged kvs (((tM n).drop i).map kv))->(∀b o,b∉wr->b≠d->s.heap.get? b=some o->h'.get? b=some o)->R (.ok (.ret .none)) {s with heap:=h',toks:=tk})->
   codeAny (model prog w) A (.builtin "dict.update.loop" ⟨[.ref d,.ref I,.int i t,.none],[]⟩) R s:=by
 have hdw:d∉wr:=λh=>hdf (W.sub _ h)
 intro k
 induction k with
 | zero=>
   intro i s t kvs hk hi hst hd hl hp hR
   have hin:i=n:=by omega
   subst hin
   refine codeAny_builtin F.entry_dupd_loop ?_
   rw[Around.under_plainId F.plain_dupd_loop _]
   show wpAny _ A.in1 (pyNext (.ref I) >>= _) _ _ s
   refine wpAny_bind (W.done s _ _ hst λh' tk hk'=>?_)
   show wpAny _ A.in1 (Builtin.Dict.addKeywords d [] >>= _) _ _ _
   refine wpAny_bind (wpAny_pure (wpAny_pure (hR h' tk ?_ λb o hb _ e=>hk' b o hb e)))
   rw[zcn (by simp)]
   exact hd.keepsAt λo e=>hk' d o hdw e
 | succ k ih=>
   intro i s t kvs hk hi hst hd hl hp hR
   have hlt:i < n:=by omega
   refine codeAny_builtin F.entry_dupd_loop ?_
   rw[Around.under_plainId F.plain_dupd_loop _]
   show wpAny _ A.in1 (pyNext (.ref I) >>= _) _ _ s
   refine wpAny_bind (W.item i s _ _ hlt hst λv h' tk hP hst' hk'=>?_)
   obtain⟨p,o,c,key,rfl,ho,hc,hdat,hkey,hpw,hpd⟩:=hp i v hP
   have ho':=hk' p o hpw ho
   have hd':h'.DictOf knd d kvs:=hd.keepsAt λo e=>hk' d o hdw e
   have ty:(⟨h',s.gens,s.drawn,tk,s.os⟩:Shared).TypeIs (.ref p) "tuple":=⟨o,ho',hc⟩
   refine wpAny_bind (wpAny_holding (wpAny_bind (wpAny_tryCatch ?_)))
   unfold Builtin.Dict.pairItems
   refine wpAny_bind (wpAny_typeOf ty ?_)
   rw[if_pos (by decide)]
   refine wpAny_bind (wpAny_seqItems ho' hdat (wpAny_pure ?_))
   refine(show wpAny _ _ (holding [key,(kv i).2] (dictSet d key (kv i).2)) _ _ _ from wpAny_holding (wpAny_dictSet_pairs hkey hd' (λh'' dd hs=>?_) (by rw[sizeLine_eq];omega)))
   refine wpAny_pure ⟨plainId_quiet F.plain_dupd_loop _,?_⟩
   have keep:∀b o,b∉wr->b≠d->s.heap.get? b=some o->h''.get? b=some o:=λb o hb hbd e=>(hs.2 b hbd).trans (hk' b o hb e)
   have len:(stored kvs (kv i).1 (kv i).2).length<=i+1:=by
     have:=stored_length_le kvs (kv i).1 (kv i).2
     omega
   refine ih (i+1) _ _ (stored kvs (kv i).1 (kv i).2) (by omega) hlt (W.frame _ _ _ hst' λb hb o e=>(hs.2 b (λz=>hdf (z▸hb))).trans e) dd len (λj v hj=>?_) λh3 tk3 d3 k3=>?_
   . obtain⟨p,o,c,k,e1,e2,r⟩:=hp j v hj
     exact⟨p,o,c,k,e1,keep p o r.2.2.2.1 r.2.2.2.2 e2,r⟩
   . refine hR h3 tk3 ?_ λb o hb hbd e=>k3 b o hb hbd (keep b o hb hbd e)
     have e:(tM n).drop i=i::(tM n).drop (i+1):=by
       rw[List.drop_eq_getElem_cons (by simpa using hlt)]
       simp
     rw[e]
     exact d3
end
section
variable {prog:Program} {w:World} {A:Around} {E:Value->Shared->Prop} {s:Shared} {κ:Type} [DecidableEq κ] {knd:KeyKind prog w κ}
theorem Vo:typeLookup (.type "list") "keys"=pure none:=by rw[typeLookup_type,builtinLookup_eq_fast];kernel_rfl
theorem Vt {a:Addr} {o:Obj} {xs:Array Value} {k:Nat} {Q:Option Value->Shared->Prop} (hx:s.heap.get? a=some o) (hc:o.cls=.type "list") (hdat:o.data=.seq xs k) (hd:o.dict=none) (hA:A.handled=none)
   (h:∀h' tk,(∀b o,s.heap.get? b=some o->h'.get? b=some o)->Q none {s with heap:=h',toks:=tk}):wpAny (model prog w) A (getAttr? (.ref a) "keys") Q E s:=by
 obtain⟨c,dct,dat,sl⟩:=o
 simp only at hc hdat hd
 subst hc hdat hd
 obtain⟨hp,g,d,tk,os⟩:=s
 have hT:∀tk',(⟨hp,g,d,tk',os⟩:Shared).TypeIs (.ref a) "list":=λ_=>⟨_,hx,rfl⟩
 have f1:=sub_AttributeError
 have f3:=F.slot_list_getattribute.lookup
 have f4:=F.slot_list_getattribute.bind (.ref a)
 have f5:=am_list_getattr_none
 unfold getAttr? getAttrBy? getAttrBy
 repeat (any_goals (first | assumption | exact hT _ | ((with_reducible show wpAny _ _ (call (Value.builtin "list.__getattribute__") _ _) _ _ _);refine call_meets F.slot_list_getattribute (hT _) am_entry_list_getattribute (F.args_list_getattribute_2 _ _) (meets_getattribute_miss_list a xs k sl "keys" _ Vo (by decide+kernel)) ⟨hx,hA,λh' tk' e hx'=>?_⟩) | wp_step))
 obtain⟨t',u',he⟩:=hx'.there
 show wpAny _ _ (getattributeRaised _ _ _ _ _ _ _) _ _ _
 unfold getattributeRaised
 repeat (any_goals (first | assumption | wp_step))
 exact h _ _ hx'.of.keeps
theorem Ye {src:Addr} {items:Array Value} {kv:Nat->κ×Value} {Q:Value->Shared->Prop} (pl:PlainL s.heap src items) (hp:∀j v,items[j]?=some v->∃p o c key,v=.ref p/\s.heap.get? p=some o/\o.cls=.type "tuple"/\o.data=.seq #[key,(kv j).2] c/\knd.is (kv j).1 key=true)
   (hn:items.size<=1000) (hA:A.handled=none)
   (h:∀h' tk,h'.DictOf knd s.heap.objs.size (merged [] ((tM items.size).map kv))->(∀b o,s.heap.get? b=some o->h'.get? b=some o)->Q (.ref s.heap.objs.size) {s with heap:=h',toks:=tk}):
   wpAny (model prog w) A (call (.type "dict") [.ref src]) Q E s:=by
 refine callType_codes (Q₁:=λobj s₁=>obj=.ref s.heap.objs.size/\s₁={s with heap:=s.heap.push {cls:=.type "dict",data:=.dict #[]}}) F.kt_called_dict (F.kt_typeCall_dict_1 _) F.entry_dict_init (kt_code_dict_new _ ⟨rfl,rfl⟩) ?_
 rintro obj s₁ ⟨rfl,rfl⟩
 have hnew:(s.heap.push {cls:=.type "dict",data:=.dict #[]}).DictOf knd s.heap.objs.size []:=Heap.DictOf.new s.heap
 have hp0:∀b o,s.heap.get? b=some o->(s.heap.push {cls:=.type "dict",data:=.dict #[]}).get? b=some o:=λb o e=>tz _ e
 obtain⟨ol,nl,ho,hc,hd,hdat⟩:=id pl
 have ty:(⟨s.heap.push {cls:=.type "dict",data:=.dict #[]},s.gens,s.drawn,s.toks,s.os⟩:Shared).TypeIs (.ref src) "list":=⟨ol,hp0 _ _ ho,hc⟩
 refine⟨hnew.typeIs,F.args_dict_init_2 _ _,?_⟩
 unfold Builtin.«dict.__init__»
 refine wpAny_bind ?_
 unfold Builtin.Dict.selfAndRest
 refine wpAny_bind (wpAny_notOrdered_dict hnew.typeIs ?_)
 show wpAny _ _ (pure (s.heap.objs.size,[Value.ref src])) _ _ _
 refine wpAny_pure ?_
 show wpAny _ _ (Builtin.Dict.updateFrom "dict.__init__" s.heap.objs.size (.ref src) [] .none) _ _ _
 unfold Builtin.Dict.updateFrom
 refine wpAny_bind (wpAny_typeOf ty ?_)
 rw[if_pos (by decide)]
 refine wpAny_bind (Vt (hp0 _ _ ho) hc hdat hd hA λh1 tk1 k1=>?_)
 rw[if_pos (show (none:Option Value).isNone=true from rfl)]
 refine wpAny_bind (wpAny_rule ?_)
 have pl1:PlainL h1 src items:=⟨ol,nl,k1 _ _ (hp0 _ _ ho),hc,hd,hdat⟩
 have hlt:src < h1.objs.size:=tP (k1 _ _ (hp0 _ _ ho))
 have hnew1:h1.DictOf knd s.heap.objs.size []:=hnew.keepsAt λo e=>k1 _ o e
 have hld:s.heap.objs.size < h1.objs.size:=by
   obtain⟨o,_,_,e,_⟩:=hnew1
   exact tP e
 refine wpAny_bind (wpAny_pyIter_list pl1.isList ?_)
 refine wpAny_pure ⟨plainId_quiet F.plain_dupd_loop _,?_⟩
 have W:=Walks.list (prog:=prog) (w:=w) (A:=A.in1.in1) hA h1.objs.size src (tR hlt) items
 have nsrc:s.heap.objs.size≠src:=Ne.symm (tR (tP ho))
 refine zg (A:=A.in1) W kv s.heap.objs.size (by simp only[tV,zbe,or_false,not_or];exact⟨tR hld,nsrc⟩) hn items.size 0 _ _ [] (by omega) (zal _)
   ⟨⟨_,tZ _ rfl,rfl,rfl⟩,pl1.isList.at λo e=>tz _ e⟩ (hnew1.push _) (zal _) (λj v hj=>?_) λh2 tk2 d2 k2=>⟨rfl,h h2 tk2 d2 λb o e=>?_⟩
 . obtain⟨p,o,c,key,e1,e2,e3,e4,e5⟩:=hp j v hj
   have e2':=k1 _ _ (hp0 _ _ e2)
   refine⟨p,o,c,key,e1,tz _ e2',e3,e4,e5,?_,tR (tP e2)⟩
   simp only[tV,zbe,or_false]
   exact tR (tP e2')
 . have e':=k1 _ _ (hp0 _ _ e)
   refine k2 b o ?_ (tR (tP e)) (tz _ e')
   simp only[tV,zbe,or_false]
   exact tR (tP e')
end
end PySem
namespace L2
open PySem PySem.Spec PyProof.Rows
section
variable {X:Cx} {pins:List (Addr×Obj)} {σ:St} {H:Hp} {s:Shared}
def wZ (K:PySem.W.Frag):List V->Hp->VK->Prop:=λxs H Q=>∃(p:Addr) (ps:List Addr) (kvs:List (qL×V)),xs=[.ref p]/\SqL K H p (ps.map V.ref)/\ps.length=kvs.length/\(∀(i:Nat) (a:Addr) (kv:qL×V),ps[i]?=some a->kvs[i]?=some kv->SqT K H a [kV kv.1,kv.2])/\kvs.length<=1000/\
 ∀d,H d=none->Q (.ref d) (upd H d (.dK (QO [] kvs)))
theorem YZ (I:qz X pins σ H s):∀(ps:List Addr) (kvs:List (qL×V)),ps.length=kvs.length->(∀(i:Nat) (a:Addr) (kv:qL×V),ps[i]?=some a->kvs[i]?=some kv->SqT X.K H a [kV kv.1,kv.2])->
   ∃rs:List (qL×Value),KV kvs rs/\rs.length=ps.length/\∀(i:Nat) (a:Addr),ps[i]?=some a->∃kv o c key,rs[i]?=some kv/\s.heap.get? a=some o/\o.cls=.type "tuple"/\o.data=.seq #[key,kv.2] c/\(qT X.prog X.w).is kv.1 key=true
 | [],[],_,_=>⟨[],.nil,rfl,λi a e=>by simp at e⟩
 | [],_::_,h,_=>by cases h
 | _::_,[],h,_=>by cases h
 | a::ps,kv::kvs,h,k=>by
   obtain⟨rs,r1,r2,r3⟩:=YZ I ps kvs (zdx.inj h) λi a' kv' e1 e2=>k (i+1) a' kv' (by simpa using e1) (by simpa using e2)
   obtain⟨its,rv,⟨o,e,c1,n1,d1⟩,_⟩:=I.tuple (k 0 a kv rfl rfl)
   cases rv with
   | cons ra rt=>
     cases rt with
     | cons rb rn=>
       cases rn
       rename_i u1 u2
       refine⟨(kv.1,u2)::rs,.cons ⟨rfl,rb⟩ r1,by simp [r2],λi a' e'=>?_⟩
       cases i with
       | zero=>
         cases e'
         exact⟨_,o,n1,u1,rfl,e,c1,d1,zY ra⟩
       | succ i=>exact r3 i a' (by simpa using e')
theorem vD (hc:X.calm=true):QQ X (.type "dict") (wZ X.K):=by
 intro pins s σ H xs us Q I r h
 obtain⟨p,ps,kvs,rfl,hl,le,hps,hz,q⟩:=h
 obtain⟨u,rfl,ru⟩:=Jl r
 cases ru
 obtain⟨its,rv,pl,_⟩:=I.list hl
 obtain rfl:=XZ rv
 obtain⟨rs,r1,r2,r3⟩:=YZ I ps kvs le hps
 have hsz:(ps.map Value.ref).toArray.size=rs.length:=by simp [r2]
 have hR:(tM (ps.map Value.ref).toArray.size).map (λj=>(rs[j]?).getD (Sum.inl 0,Value.none))=rs:=by
   rw[hsz]
   refine zcm λi=>?_
   rw[tN]
   by_cases hi:i < rs.length
   . rw[zbx hi,tF hi]
     simp [hi]
   . rw[zaT (by rw[zag];omega),zaT (by omega)]
     rfl
 refine Ye (knd:=qT X.prog X.w) (kv:=λj=>(rs[j]?).getD (Sum.inl 0,Value.none)) pl (λj v hj=>?_) (by rw[hsz,r2,le];exact hz) (I.ok.hd hc) λh' tk dd kp=>?_
 . have hj':(ps.map Value.ref)[j]?=some v:=by simpa using hj
   rw[tN]at hj'
   cases e:ps[j]? with
   | none=>rw[e]at hj';cases hj'
   | some a=>
     rw[e]at hj'
     obtain⟨kv,o,c,key,f1,f2,f3,f4,f5⟩:=r3 j a e
     refine⟨a,o,c,key,(tL.inj hj').symm,f2,f3,?_,?_⟩
     . show o.data=.seq #[key,((rs[j]?).getD (Sum.inl 0,Value.none)).2] c
       rw[f1]
       exact f4
     . show (qT X.prog X.w).is ((rs[j]?).getD (Sum.inl 0,Value.none)).1 key=true
       rw[f1]
       exact f5
 . rw[hR]at dd
   have hn:=I.hok.fresh (tq s.heap.objs.size)
   have big:(s.heap.objs.size==sysModules)=false:=beq_eq_false_iff_ne.mpr (Ne.symm (tR I.big))
   have hlen:(QO [] kvs).length<=sizeLine:=by
     have:=Jj kvs []
     rw[zcC]at this
     rw[sizeLine_eq]
     omega
   exact⟨.ref s.heap.objs.size,_,I.laid (a:=s.heap.objs.size) (o:=.dK (QO [] kvs)) (h':=h') (t':=tk) kp (tq _) (vA hlen big (r1.merge .nil) dd),rfl,q _ hn⟩
end
section
variable {P:Program} {w:World} {K:PySem.W.Frag} {mg:Str->Option Value} {base:Heap}
theorem jQ.okX {CX:WP} {x qual:Str} {st:Stmt} {f:Addr} {fd:FuncData} {N ps:List Str} {k:Nat} {sp:Sp} (F:jQ K x qual st f fd) (S:qr N ps (qk st)) (len:∀vs H Q E,sp vs H Q E->vs.length=ps.length)
   (hbody:∀(cdv:Value) (A:Around) (outer:List Env) (s:Shared) (H:Hp) (vs:List V) (Q:VK) (E:XK),qR k (A.deeper (envOfC qual (qk st) s.heap.objs.size f cdv))->sp vs H Q E->
     ∃t,XY (Qw CX P w K mg base N qual (qk st) f cdv A outer s H E) (Qv st) t/\t {nx:=λ_ H'=>Q .non H',rt:=Q} (ZD N vs) H):qo P w K mg base CX (k+1) f fd ps sp:=by
 obtain⟨oc,od,kV,doc,pm,an,cdv,ct,osl,rfl,lk,hcd⟩:=F.ex
 refine NC lk hcd S len λA outer s H vs Q E hr hsp=>?_
 obtain⟨t,h,q⟩:=hbody cdv A outer s H vs Q E hr hsp
 exact⟨t,h.to,q⟩
end
section
variable {X:Cx} {es:List Expr} {t:TA} {pos:Pos}
end
section
variable {X:Cx}
def qaH (K:PySem.W.Frag) (neg:Bool):R2:=λx y H Q=>∃d ds,DV K H x d/\DV K H y (.list ds)/\d.canLay0=true/\PyData.canLayAll0 ds=true/\d.depth<=40/\Q (.bl (if neg then !(ds.any λz=>PyData.eqv z d) else ds.any λz=>PyData.eqv z d)) H
theorem y3 (hu:X.A.units+64 < cLine):J7 X (compareOp .NotIn) (qaH X.K true):=by
 intro pins s σ H x y v u Q I rx ry h
 obtain⟨d,ds,h1,h2,c1,c2,dp,q⟩:=h
 obtain⟨as,ra⟩:=h1.reads I rx
 obtain⟨bs,rb⟩:=h2.reads I ry
 refine SeqAt.notIn_list_reads rb ra c2 c1 ?_ ⟨.bl _,H,I,rfl,q⟩
 have:=zdi (PyData.depthAll ds) d.depth
 omega
end
open PySem PySem.Spec PySem.W PyProof.Rows
theorem uL {α:Type} {l:List α} (nd:l.Nodup) {i j:Nat} {hi:i < l.length} {hj:j < l.length} (e:l[i]=l[j]):i=j:=by
 have h:=zaO.mp nd
 rcases zaX i j with c | c | c
 . exact absurd e (h i j hi hj c)
 . exact c
 . exact absurd e.symm (h j i hj hi c)
section
variable {α β:Type} {lt:Nat->Nat->Bool} {n:Nat}
def evT (lt:Nat->Nat->Bool):KasT α->α
 | .ret a=>a
 | .ask i j k=>evT lt (k (lt i j))
end
def ltS (zs:List Str) (i j:Nat):Bool:=decide ((zs.getD i "").cps.toList < (zs.getD j "").cps.toList)
def srt (zs:List Str):List Nat:=if zs.length < 2 then tM zs.length else (evT (ltS zs) (kas_sort zs.length)).toList
section
variable {P:Program} {w:World} {B:Around} {F:Value->Shared->Prop} {z:Shared}
end
section
variable {X:Cx} {o:Expr} {td:TE} {p1 p2 pos1 pos2 ap cp:Pos}
end
section
variable {X:Cx}
end
open PySem PySem.Spec PySem.W PyProof.Rows
section
variable {X:Cx}
def qaE (K:PySem.W.Frag):R2:=λx y H Q=>∃(a b:Addr) (xs:List V),x=.ref a/\y=.ref b/\SqL K H a xs/\SqL K H b []/\Q (.bl (!xs.isEmpty)) H
theorem kP (hu:X.A.units < cLine):J7 X (compareOp .NotEq) (qaE X.K):=by
 intro pins s σ H x y v u Q I rx ry h
 obtain⟨a,b,xs,rfl,rfl,ha,hb,q⟩:=h
 cases rx
 cases ry
 obtain⟨its,rv,pl,_⟩:=I.list ha
 obtain⟨its2,rv2,pl2,_⟩:=I.list hb
 have l2:its2=[]:=zaE rv2.length.symm
 subst l2
 cases xs with
 | nil=>
   have l1:its=[]:=zaE rv.length.symm
   subst l1
   exact EqBoolInt.of_rcne (SeqAt.RcNeAt.lists (e:=λ_=>true) pl.isList pl2.isList rfl hu λj h1 h2=>absurd h1 (zbN j)) ⟨.bl _,H,I,rfl,q⟩
 | cons x xs=>
   cases its with
   | nil=>cases rv
   | cons u' us'=>exact EqBoolInt.of_rcne (SeqAt.RcNeAt.lists_lengths pl.isList pl2.isList (by simp) hu) ⟨.bl true,H,I,rfl,q⟩
end
open PySem PySem.Spec PySem.W PyProof.Rows
section
variable {P:Program} {w:World} {B:Around} {F:Value->Shared->Prop} {z:Shared}
end
section
variable {X:Cx}
end
open PySem PySem.Spec PySem.W PyProof.Rows
section
variable {prog:Program} {w:World} {A:Around} {R:Result->Shared->Prop} {I:Addr} {fp wr:List Addr} {G:Array GenState->Array GenState->Prop} {n:Nat} {P:Nat->Value->Prop} {St:Nat->Shared->Prop}
end
section
variable {prog:Program} {w:World} {A:Around} {E:Value->Shared->Prop} {s:Shared}
end
section
variable {X:Cx} {e:Expr} {te:TE} {p1 p2 pos1 pos2:Pos}
end
open PySem PyProof.Rows
theorem zL {α:Type} {K:PySem.W.Frag} {a D:Addr} {xs:List α} {enc:α->V} {out:α->Option V} {rest:St} {H:Hp} {tt:TT} {te:TE} {Q:Hp->Prop} (hD:H D=none) (ha:H a=some (.lst (xs.map enc))) (len:xs.length < sizeLine)
   (ht:∀x∈xs,∀G,Same H G->∀R:Bool->Hp->Prop,(∀G',Same G G'->R (out x).isSome G')->tt (some (enc x)::rest) G R)
   (he:∀x∈xs,∀v,out x=some v->∀G,Same H G->∀R:V->Hp->Prop,(∀G',Same G G'->R v G')->te (some (enc x)::rest) G R)
   (k:∀G,Same H G->G D=some (.lst (xs.filterMap out))->Q G):z8 (M3 K a) (Ql 0) tt te D (none::rest) H Q:=by
 have sD:Same H (upd H D (.lst [])):=λb o h=>by
   rw[qg (λe=>by rw[e,hD]at h;cases h)]
   exact h
 refine jN (K:=K) (a:=a) (xs:=xs.map enc) (λi σ' G=>(∃v0,σ'=v0::rest)/\Same H G/\G D=some (.lst ((xs.take i).filterMap out))) ⟨⟨none,rfl⟩,sD,qd⟩ (λi σ' G _ ⟨_,s,_⟩=>.of (s _ _ ha)) ?_ ?_
 . rintro i y σ' G hy ⟨⟨v0,rfl⟩,s,hG⟩
   rw[tN]at hy
   cases ex:xs[i]? with
   | none=>rw[ex]at hy;cases hy
   | some x=>
     rw[ex]at hy
     obtain rfl:=(tL.inj hy).symm
     have hx:x∈xs:=t7 ex
     have et:(xs.take (i+1)).filterMap out=(xs.take i).filterMap out++(out x).toList:=by
       rw[tS,ex,zaq]
       cases c:out x<;>simp [c]
     show tt (some (enc x)::rest) G _
     refine ht x hx G s _ λG1 s1=>?_
     cases c:out x with
     | none=>
       show if false=true then _ else _
       rw[if_neg tK]
       refine⟨⟨_,rfl⟩,λb o h=>s1 _ _ (s _ _ h),?_⟩
       rw[et,c]
       simpa using s1 _ _ hG
     | some v=>
       show if true=true then _ else _
       rw[if_pos rfl]
       refine he x hx v c G1 (λb o h=>s1 _ _ (s _ _ h)) _ λG2 s2=>?_
       refine⟨_,s2 _ _ (s1 _ _ hG),?_,⟨_,rfl⟩,?_,?_⟩
       . refine zaZ (zaw _ _) ?_
         rw[tU]
         omega
       . intro b o h
         rw[qg (λe=>by rw[e,hD]at h;cases h)]
         exact s2 _ _ (s1 _ _ (s _ _ h))
       . rw[et,c]
         exact qd
 . rintro σ' G ⟨_,s,hG⟩
   rw[tj,tH (tq _)]at hG
   exact k G s hG
theorem yo {α:Type} {K:PySem.W.Frag} {a D:Addr} {xs:List α} {enc:α->V} {out:α->Option V} {rest:St} {H:Hp} {tt:TT} {te:TE} {Q:Hp->Prop} (hD:H D=none) (ha:H a=some (.tup (xs.map enc))) (len:xs.length < sizeLine)
   (ht:∀x∈xs,∀G,Same H G->∀R:Bool->Hp->Prop,(∀G',Same G G'->R (out x).isSome G')->tt (some (enc x)::rest) G R)
   (he:∀x∈xs,∀v,out x=some v->∀G,Same H G->∀R:V->Hp->Prop,(∀G',Same G G'->R v G')->te (some (enc x)::rest) G R)
   (k:∀G,Same H G->G D=some (.lst (xs.filterMap out))->Q G):z8 (NE K a) (Ql 0) tt te D (none::rest) H Q:=by
 have sD:Same H (upd H D (.lst [])):=λb o h=>by
   rw[qg (λe=>by rw[e,hD]at h;cases h)]
   exact h
 refine yn (K:=K) (a:=a) (xs:=xs.map enc) (λi σ' G=>(∃v0,σ'=v0::rest)/\Same H G/\G D=some (.lst ((xs.take i).filterMap out))) ⟨⟨none,rfl⟩,sD,qd⟩ (λi σ' G _ ⟨_,s,_⟩=>.of (s _ _ ha)) ?_ ?_
 . rintro i y σ' G hy ⟨⟨v0,rfl⟩,s,hG⟩
   rw[tN]at hy
   cases ex:xs[i]? with
   | none=>rw[ex]at hy;cases hy
   | some x=>
     rw[ex]at hy
     obtain rfl:=(tL.inj hy).symm
     have hx:x∈xs:=t7 ex
     have et:(xs.take (i+1)).filterMap out=(xs.take i).filterMap out++(out x).toList:=by
       rw[tS,ex,zaq]
       cases c:out x<;>simp [c]
     show tt (some (enc x)::rest) G _
     refine ht x hx G s _ λG1 s1=>?_
     cases c:out x with
     | none=>
       show if false=true then _ else _
       rw[if_neg tK]
       refine⟨⟨_,rfl⟩,λb o h=>s1 _ _ (s _ _ h),?_⟩
       rw[et,c]
       simpa using s1 _ _ hG
     | some v=>
       show if true=true then _ else _
       rw[if_pos rfl]
       refine he x hx v c G1 (λb o h=>s1 _ _ (s _ _ h)) _ λG2 s2=>?_
       refine⟨_,s2 _ _ (s1 _ _ hG),?_,⟨_,rfl⟩,?_,?_⟩
       . refine zaZ (zaw _ _) ?_
         rw[tU]
         omega
       . intro b o h
         rw[qg (λe=>by rw[e,hD]at h;cases h)]
         exact s2 _ _ (s1 _ _ (s _ _ h))
       . rw[et,c]
         exact qd
 . rintro σ' G ⟨_,s,hG⟩
   rw[tj,tH (tq _)]at hG
   exact k G s hG
theorem Yw {n:Nat} {D:Addr} {out:Nat->Option V} {rest:St} {H:Hp} {tt:TT} {te:TE} {Q:Hp->Prop} (hD:H D=none) (len:n < sizeLine)
   (ht:∀x,x < n->∀G,Same H G->∀R:Bool->Hp->Prop,(∀G',Same G G'->R (out x).isSome G')->tt (some (.int (x:Int))::rest) G R)
   (he:∀x,x < n->∀v,out x=some v->∀G,Same H G->∀R:V->Hp->Prop,(∀G',Same G G'->R v G')->te (some (.int (x:Int))::rest) G R)
   (k:∀G,Same H G->G D=some (.lst ((tM n).filterMap out))->Q G):z8 (NF 0 n) (Ql 0) tt te D (none::rest) H Q:=by
 have sD:Same H (upd H D (.lst [])):=λb o h=>by
   rw[qg (λe=>by rw[e,hD]at h;cases h)]
   exact h
 refine Q0 (λi σ' G=>(∃v0,σ'=v0::rest)/\Same H G/\G D=some (.lst ((tM i).filterMap out))) ⟨⟨none,rfl⟩,sD,qd⟩ ?_ ?_
 . rintro i σ' G hi ⟨⟨v0,rfl⟩,s,hG⟩
   rw[zbL]
   have et:(tM (i+1)).filterMap out=(tM i).filterMap out++(out i).toList:=by
     rw[zbm,zaq]
     cases c:out i<;>simp [c]
   show tt (some (.int (i:Int))::rest) G _
   refine ht i hi G s _ λG1 s1=>?_
   cases c:out i with
   | none=>
     show if false=true then _ else _
     rw[if_neg tK]
     refine⟨⟨_,rfl⟩,λb o h=>s1 _ _ (s _ _ h),?_⟩
     rw[et,c]
     simpa using s1 _ _ hG
   | some v=>
     show if true=true then _ else _
     rw[if_pos rfl]
     refine he i hi v c G1 (λb o h=>s1 _ _ (s _ _ h)) _ λG2 s2=>?_
     refine⟨_,s2 _ _ (s1 _ _ hG),?_,⟨_,rfl⟩,?_,?_⟩
     . refine zaZ (zaw _ _) ?_
       rw[zag]
       omega
     . intro b o h
       rw[qg (λe=>by rw[e,hD]at h;cases h)]
       exact s2 _ _ (s1 _ _ (s _ _ h))
     . rw[et,c]
       exact qd
 . rintro σ' G ⟨_,s,hG⟩
   exact k G s hG
open PySem PyProof.Rows
section
variable {prog:Program} {w:World} {KK:Type} [DecidableEq KK] {kd:HeapKind prog w KK} {A:Around} {E:Value->Shared->Prop} {s:Shared}
end
section
variable {X:Cx} {pins:List (Addr×Obj)} {σ:St} {H:Hp} {s:Shared} {a b:Addr} {v:V} {r:Value} {A:Around} {E:Value->Shared->Prop}
end
section
variable {X:Cx} {o e f:Expr} {apos cpos:Pos} {td ty tx:TE}
end
open PySem PyProof.Rows
section
variable {X:Cx}
end
section
variable {X:Cx} {pins:List (Addr×Obj)} {σ:St} {H:Hp} {s:Shared} {tg:Expr}
def Kn (o:Obj):Nat:=match o.data with
 | .dict _ ep=>ep
 | _=>0
theorem qz.freeze {a:Addr} {kvs:List (qL×V)} (I:qz X pins σ H s) (e:H a=some (.dK kvs)):∃o,qz X pins σ (upd H a (.frz o (.dK kvs))) s:=by
 obtain⟨z,hd,vs,rel,o,es,ep,ho,r⟩:=(show qI X.prog X.w H s.heap a (.dK kvs) from I.hok a _ e)
 have mu:MX (H a):=by rw[e];exact True.intro
 have un:Un X.fs [] H (upd H a (.frz o (.dK kvs))) s.heap s.heap:=Un.write mu (.inl rfl) (λb u _ q=>q) ⟨o,ho⟩
 have ok:JK X.prog X.w (upd H a (.frz o (.dK kvs))) s.heap:=I.hok.write mu (.inl rfl) (λb u _ q=>q) ⟨o,ho⟩ ⟨ho,z,hd,vs,rel,o,es,ep,ho,r⟩
 exact⟨o,I.un (t':=s.toks) un ok⟩
def qbA (te:TE):TE:=λσ H Q=>te σ H λx H1=>∃a kvs,x=.ref a/\H1 a=some (.dK kvs)/\∀o,Q x (upd H1 a (.frz o (.dK kvs)))
theorem MC {e:Expr} {te:TE} (h:JE X e te):JE X e (qbA te):=.of (by
 have h:=h.to
 intro pins s σ H Q I hw
 refine ja (h pins s σ H _ I hw) λv s1 ⟨x,H1,I1,r1,a,kvs,ex,ea,q⟩=>?_
 obtain⟨o,I2⟩:=I1.freeze ea
 exact⟨x,_,I2,r1,q o⟩)
def Itk (a:Addr) (o:Obj) (kvs:List (qL×V)) (zs:List Str):It:=
 ⟨λi H=>H a=some (.frz o (.dK kvs))/\i < zs.length,λi H x H'=>H'=H/\∃z,zs[i]?=some z/\x=.str z,λi H=>H a=some (.frz o (.dK kvs))/\i=zs.length⟩
theorem vt {P:Program} {w:World} {h:Heap} {a:Addr} {o:Obj} {kvs:List (qL×V)} (ok:JK P w H h) (e:H a=some (.frz o (.dK kvs))):(a==sysModules)=false/\∃vs,KV kvs vs/\h.DictAt (qT P w) a vs (Kn o):=by
 obtain⟨ho,z,hd,vs,rel,o',es,ep,ho',ex,dat,r⟩:=(show qI P w H h a (.frz o (.dK kvs)) from ok a _ e)
 rw[ho]at ho'
 cases ho'
 refine⟨hd,vs,rel,o,es,ho,ex,?_,r⟩
 unfold Kn
 rw[dat]
theorem RA {P:Program} {w:World} {kvs:List (qL×V)} {vs:List (qL×Value)} {zs:List Str} (rel:KV kvs vs) (ek:kvs.map (·.1)=zs.map Sum.inr) {i:Nat} {z:Str} {k:qL} {y v:Value} (ez:zs[i]?=some z) (f1:vs[i]?=some (k,y)) (f2:(qT P w).is k v=true):qP (.str z) v:=by
 have hi:i < kvs.length:=by
   have h1:=(tw.mp ez).1
   have h2:kvs.length=zs.length:=by simpa using congrArg zaN ek
   omega
 obtain⟨q',g1,g2,_⟩:=JP rel (tF hi)
 rw[f1]at g1
 cases g1
 have h1:(kvs.map (·.1))[i]?=some kvs[i].1:=by rw[tN,tF hi];rfl
 rw[ek,tN,ez]at h1
 have e3:k=Sum.inr z:=g2.symm.trans (tL.inj h1).symm
 subst e3
 rcases jq (show Xo (Sum.inr z) v=true from f2) with ⟨_,_,c,_⟩ | ⟨w',t,c,rfl⟩
 . cases c
 . cases c
   exact⟨t,rfl⟩
theorem yC {P:Program} {w:World} {K:PySem.W.Frag} (a it:Addr) (o:Obj) (kvs:List (qL×V)) (zs:List Str) (ek:kvs.map (·.1)=zs.map Sum.inr):UI P w K tg (Itk a o kvs zs) [it] it (λi h=>h.IsKeyIter it a i zs.length (Kn o)) where
 mem:=by simp
 obj:=λi h st b hb=>by
   have e:b=it:=by simpa using hb
   subst e
   obtain⟨o,e,c,d⟩:=st
   exact⟨o,e,λv z=>by rw[d]at z;cases z⟩
 keep:=λi h h' st k=>let ⟨o,e,r⟩:=st;⟨o,k it (by simp) o e,r⟩
 item:=by
   intro X hP hw hK hc i pins s σ H E I hf st hg
   subst hP hw hK
   obtain⟨f0,f1,f2,f3,f4,f5⟩:=hf it (by simp)
   obtain⟨ea,hi⟩:=hg
   obtain⟨_,vs,rel,dat⟩:=vt I.hok ea
   have lv:vs.length=zs.length:=by
     have h1:kvs.length=zs.length:=by simpa using congrArg zaN ek
     rw[<-Paired.length rel,h1]
   have ne:a≠it:=λe=>by rw[e,f0]at ea;cases ea
   rw[<-lv]at st
   refine(Walks.dictKeys (I.ok.hd hc) it a ne vs (Kn o)).item i s _ _ (by omega) ⟨st,dat⟩ λv h' tk hv st' kk=>?_
   have I1:qz X pins σ H {s with heap:=h',toks:=tk}:=I.turned (λb o hb e=>kk b o (by simpa using hb) e) f0 f1 f3 f4 f5
   obtain⟨k,y,g1,g2⟩:=hv
   obtain⟨o2,e2,c2,d2⟩:=id st'.1
   refine⟨_,rfl,Uu (s:={s with heap:=h',toks:=tk}) e2 c2 d2 (by decide) ⟨.str zs[i],H,I1,RA rel ek (tF hi) g1 g2,⟨rfl,_,tF hi,rfl⟩,?_,λb hb=>(hf b hb).1⟩⟩
   rw[<-lv]
   exact st'.1
 done:=by
   intro X hP hw hK hc i pins s σ H E I hf st hg
   subst hP hw hK
   obtain⟨f0,f1,f2,f3,f4,f5⟩:=hf it (by simp)
   obtain⟨ea,hi⟩:=hg
   obtain⟨_,vs,rel,dat⟩:=vt I.hok ea
   have lv:vs.length=zs.length:=by
     have h1:kvs.length=zs.length:=by simpa using congrArg zaN ek
     rw[<-Paired.length rel,h1]
   have ne:a≠it:=λe=>by rw[e,f0]at ea;cases ea
   subst hi
   rw[<-lv]at st
   exact(Walks.dictKeys (I.ok.hd hc) it a ne vs (Kn o)).done s _ _ ⟨st,dat⟩ λh' tk kk=>⟨rfl,I.turned (λb o hb e=>kk b o (by simpa using hb) e) f0 f1 f3 f4 f5⟩
 self:=λ_ _ _ _ _ st h=>wpAny_pyIter_keyiter st h
def qb9 (tl:TE):TI:=λσ H R=>tl σ H λx H1=>∃a o kvs zs,x=.ref a/\H1 a=some (.frz o (.dK kvs))/\kvs.map (·.1)=zs.map Sum.inr/\R (Itk a o kvs zs) H1
theorem uX {l:Expr} {tl:TE} (hl:JE X l tl):JI X tg l (qb9 tl):=.of (by
 have hl:=hl.to
 intro pins s σ H R I h
 refine ja (hl pins s σ H _ I h) λv s1 ⟨x,H1,I1,r1,q1⟩=>?_
 obtain⟨a,o,kvs,zs,e,ea,ek,q⟩:=q1
 subst e
 cases r1
 obtain⟨hd,vs,rel,dat⟩:=vt I1.hok ea
 have lv:vs.length=zs.length:=by
   have h1:kvs.length=zs.length:=by simpa using congrArg zaN ek
   rw[<-Paired.length rel,h1]
 refine wpAny_pyIter_dict hd dat ?_
 refine⟨s1.heap.objs.size,[s1.heap.objs.size],_,_,H1,rfl,I1.kept (t':=s1.toks) λb o e=>tz _ e,yC a _ o kvs zs ek,?_,λb hb=>?_,q⟩
 . rw[<-lv]
   exact⟨_,tZ _ rfl,rfl,rfl⟩
 . have e:b=s1.heap.objs.size:=by simpa using hb
   subst e
   exact I1.fpOk (tq _) (I1.hok.fresh (tq _)))
end
section
variable {a:Addr} {o:Obj} {kvs:List (qL×V)} {zs:List Str} {g:TG} {σ:St} {H:Hp}
theorem RT {tb:TS} {D:Q8} (Pv:Nat->St->Hp->Prop) (h0:Pv 0 σ H) (hl:∀i σ H,i<=zs.length->Pv i σ H->H a=some (.frz o (.dK kvs)))
   (hs:∀i z σ H,zs[i]?=some z->Pv i σ H->g (.str z) σ H λσ2 H2=>tb {D with nx:=Pv (i+1),ct:=Pv (i+1),bk:=D.nx} σ2 H2) (hd:∀σ H,Pv zs.length σ H->D.nx σ H):
   ∃W:Nat->Nat->St->Hp->Prop,(∃m,W 0 m σ H)/\∀i m σ H,W i m σ H->
    ((Itk a o kvs zs).stop i H/\D.nx σ H)\/((Itk a o kvs zs).go i H/\∃N:St->Hp->Prop,(∀σ' H',N σ' H'->∃m',m' < m/\W (i+1) m' σ' H')/\∀x H',(Itk a o kvs zs).yld i H x H'->g x σ H' λσ2 H2=>tb {D with nx:=N,ct:=N,bk:=D.nx} σ2 H2):=by
 refine⟨λi m σ H=>m=zs.length - i/\i<=zs.length/\Pv i σ H,⟨zs.length,by simp,zal _,h0⟩,?_⟩
 rintro i m σ H ⟨rfl,hi,p⟩
 have q:=hl i σ H hi p
 by_cases hlt:i < zs.length
 . refine .inr ⟨⟨q,hlt⟩,Pv (i+1),λσ' H' p'=>⟨zs.length - (i+1),by omega,rfl,hlt,p'⟩,λx H' y=>?_⟩
   obtain⟨e,z,ez,rfl⟩:=y
   subst e
   exact hs i z σ _ ez p
 . have e:i=zs.length:=by omega
   subst e
   exact .inl ⟨⟨q,rfl⟩,hd σ H p⟩
theorem R4 {tt:TT} {te:TE} {D:Addr} {Q:Hp->Prop} (Pv:Nat->St->Hp->Prop) (h0:Pv 0 σ (upd H D (.lst []))) (hl:∀i σ' H',i<=zs.length->Pv i σ' H'->H' a=some (.frz o (.dK kvs)))
   (hs:∀i z σ' H',zs[i]?=some z->Pv i σ' H'->g (.str z) σ' H' (WN tt te D (Pv (i+1)))) (hd:∀σ' H',Pv zs.length σ' H'->Q H'):z8 (Itk a o kvs zs) g tt te D σ H Q:=
 XI (n:=zs.length) Pv h0 (λi σ' H' hi p=>⟨⟨hl i σ' H' (zam hi) p,hi⟩,λx H2 y=>by
   obtain⟨e,z,ez,rfl⟩:=y
   subst e
   exact hs i z σ' _ ez p⟩) λσ' H' p=>⟨⟨hl _ σ' H' (tq _) p,rfl⟩,hd σ' H' p⟩
end
section
variable {X:Cx} {pins pins0:List (Addr×Obj)} {σ σ0:St} {H H0:Hp} {s s0:Shared}
end
section
variable {X:Cx}
theorem qaz {P:Program} {w:World} {H:Hp} {h:Heap} {a:Addr} {kvs:List (qL×V)} (ok:JK P w H h) (e:Rd H a (.dK kvs)):(a==sysModules)=false/\∃vs,KV kvs vs/\h.DictOf (qT P w) a vs:=by
 obtain⟨_,hd,vs,rel,d⟩:=e.ok ok
 exact⟨hd,vs,rel,d⟩
theorem J9 (b:Str) (u:Tok) (l:Addr) (c:Value) (es:Array DictEntry) (ep:Nat) (dd:Option Addr) (sl:Array (Option Value)):
   Meets (Builtin.«str.__eq__» ⟨[.str b u,.ref l],[]⟩) (λ_ R s=>s.heap.get? l=some {cls:=c,dict:=dd,data:=.dict es ep,slots:=sl}/\R (.ok (.ret .notImplemented)) s):=
 .of_wp λprog w A R s h=>by obtain⟨hp,g,d,tk,os⟩:=s;obtain⟨hl,h⟩:=h;wp_walk using wpAny_loadPart' hl,wpAny_load hl;exact⟨_,rfl,h⟩
theorem Uc {A:Around} {s:Shared} {l:Addr} {P:Program} {W:World} {vs:List (qL×Value)} (b:Str) (u:Tok) (hl:s.heap.DictOf (qT P W) l vs) (hu:A.units < cLine):SeqAt.RcAt A s (.str b u) (.ref l) false:=λprog w E Q h=>by
 obtain⟨⟨cls,dd,data,sl⟩,es,ep,ho,hc,hd,_⟩:=id hl
 have ti:=hl.typeIs
 obtain⟨hc1,_⟩:=hc
 simp only at hc1 hd
 subst hc1 hd
 refine SeqAt.rc_eq_decline_or (k:=false) (typeIs_str s b u) ti (by decide) F.sub_dict_str F.slot_str_eq F.slot_dict_eq_refl
   (λ_ hq=>call_meets F.slot_str_eq (typeIs_str s b u) F.entry_str_eq (F.args_str_eq_2 _ _) (J9 b u l _ es ep dd sl) ⟨ho,hq⟩)
   (λQ' hq=>wpAny_call_entry PySem.F.slot_dict_eq_refl ti PySem.F.entry_dict_eq ?_ (PySem.F.args_dict_eq_2 _ _))
   (λ_ hq=>wpAny_of_eq (rfl:isSame (.str b u) (.ref l)=pure false) hq) (.inr hu) h
 show wpAny _ _ (Builtin.Dict.dictSlotArgs "__eq__" ⟨[.ref l,.str b u],[]⟩ >>= _) _ _ s
 refine wpAny_bind ?_
 unfold Builtin.Dict.dictSlotArgs
 refine wpAny_bind (wpAny_notOrdered_dict ti ?_)
 show wpAny _ _ (pure (Value.ref l,Value.str b u)) _ _ s
 refine wpAny_pure ?_
 refine wpAny_bind (wpAny_isInstance (T:="str") (typeIs_str s b u) PySem.F.sub_str_dict ?_)
 simp only[Bool.not_false,if_true]
 exact wpAny_bind (wpAny_rule (wpAny_pure ⟨_,rfl,hq⟩))
theorem UA {A:Around} {s:Shared} {l:Addr} {P:Program} {W:World} {vs:List (qL×Value)} (b:Str) (u:Tok) (hl:s.heap.DictOf (qT P W) l vs) (hu:A.units < cLine):SeqAt.EqAt A s (.str b u) (.ref l) false:=λprog w E Q h=>by
 unfold eqBool
 refine wpAny_holding ?_
 refine wpAny_ite_split (λhab=>absurd (eq_of_beq hab) nofun) (λ_=>?_)
 exact wpAny_bind (Uc b u hl hu prog w E _ (wpAny_truthy_bool h))
def wY (K:PySem.W.Frag):R2:=λx y H Q=>∃(a p:Addr) (kvs:List (qL×V)) (zs:List Str),x=.ref a/\y=.ref p/\H a=some (.dK kvs)/\SqL K H p (zs.map V.str)/\Q (.bl true) H
theorem ug (hu:X.A.units+64 < cLine):J7 X (compareOp .NotIn) (wY X.K):=by
 intro pins s σ H x y v u Q I rx ry h
 obtain⟨a,p,kvs,zs,rfl,rfl,ea,hp,q⟩:=h
 cases rx
 cases ry
 obtain⟨hda,va,ra,da⟩:=qaz I.hok (.inl ea)
 obtain⟨its,rv,pl,_⟩:=I.list hp
 refine SeqAt.notIn_listAt (λ_=>false) pl.isList (λy hy=>?_) ⟨.bl true,H,I,?_,q⟩
 . have hy':y∈its:=by simpa using hy
   obtain⟨i,hi,e⟩:=List.getElem_of_mem hy'
   have l:=rv.length
   obtain⟨y',e1,r1⟩:=JP rv (tF (by omega:i < (zs.map V.str).length))
   rw[tF hi,e]at e1
   cases e1
   rw[List.getElem_map]at r1
   obtain⟨t,rfl⟩:=r1
   exact UA _ t da (by show X.A.units+1 < cLine;omega)
 . show Value.bool _=Value.bool _
   simp
def kL (K:PySem.W.Frag):R2:=λx y H Q=>qaH K true x y H Q\/wY K x y H Q
theorem Wi (hu:X.A.units+64 < cLine):J7 X (compareOp .NotIn) (kL X.K):=λpins s σ H x y v u Q I rx ry h=>
 h.elim (λh=>y3 hu pins s σ H x y v u Q I rx ry h) λh=>ug hu pins s σ H x y v u Q I rx ry h
end
open PySem PyProof.Rows
end L2
namespace HT
open PySem PySem.Spec PyProof.Rows
section
variable {prog:Program} {w:World} {A:Around} {E:Value->Shared->Prop} {s:Shared}
end
end HT
namespace L2
open PySem PySem.Spec PyProof.Rows
section
variable {X:Cx}
end
open PySem PyProof.Rows
def NK (i:Nat) (C:Addr->Sp->Prop) (E:St->XK) (t:TA):TE:=λσ H Q=>∃f sp,σ[i]?=some (some (.ref f))/\C f sp/\t σ H λvs H1=>sp vs H1 Q (E σ)
section
variable {X:Cx} {CX:WP} {C:Addr->Sp->Prop} {E:St->XK} {x:Str} {p pos:Pos} {e:Expr} {es:List Expr} {t:TA} {i:Nat}
theorem u6 (hN:X.N[i]?=some x) (hv:MT X.env.scope x) (hC:∀f sp,C f sp->∃(k:Nat) (fd:FuncData) (ps:List Str),qo X.prog X.w X.K X.mg X.base CX k f fd ps sp/\qR k X.A/\zav X.K (.ref f)=true/\jO X.K fd ps []) (hx:Yx CX X E) (ha:JA X (e::es) t) (hdb:(x==("__debug__":Str))=false:=by decide) (hcd:(x==("__classdict__":Str))=false:=by decide) (he:starEach (e::es) X.env=(false,eval e X.env)::starEach es X.env:=by rfl) (hpl:(backTo pos (starEach es X.env)).any (·.1)=false:=by rfl):JE X (.Call (.Name x p) (e::es) [] pos) (NK i C E t):=.of (by
 have ha:=ha.to
 intro pins s σ H Q I h
 obtain⟨f,sp,eσ,c,h⟩:=h
 obtain⟨k,fd,ps,F,hr,hk,hb⟩:=hC f sp c
 refine wpAny_Call_Name_kw (ja (w9 hN hv hdb hcd pins s σ H (λv H'=>v=.ref f/\H'=H) I ⟨_,eσ,rfl,rfl⟩) λu s1 ⟨v,H1,I1,r1,e1,e2⟩=>?_)
 subst e1 e2
 cases r1
 exact zbn (h₀:=X.base) I1.ok.mod.kin hk (ja (ha pos pins s1 σ _ _ I1 h) λus s2 ⟨vs,H2,I2,r,q⟩=>⟨I2.kIn,Gu F hr hb .nil hx I2 r (by simpa using q)⟩) he hpl)
end
section
variable {M:Model} {A:Around} {F:Value->Shared->Prop} {s:Shared} {e:Addr} {cl:Value} {d:Option Addr} {vs:Array Value} {Q:Unit->Shared->Prop}
theorem vv {T:Addr} {fl:Value} {fs:List Addr} {fr:Option Addr} (he:s.heap.get? e=some {cls:=cl,dict:=d,data:=.fields vs}) (h1:vs[1]?=some (.ref T)) (st:KA T fl s.heap)
   (k:∀h',vI fs [T] s.heap h'->KA T (fr.elim .none λf=>rawInt f) h'->Q () {s with heap:=h'}):wpAny M A (setFlight (.ref e) fr) Q F s:=by
 obtain⟨ts,ht,h3⟩:=st
 have lt:=(zaj.mp h3).1
 unfold setFlight
 refine wpAny_bind (wpAny_field he rfl h1 ?_)
 rw[if_pos (show (Value.ref T != Value.none)=true from by simp)]
 refine wpAny_setField ht rfl lt (k _ ⟨λb o _ n q=>?_,λb o _ n q=>⟨o.slots,?_⟩⟩ ⟨_,zaD _ ht rfl,by simp [lt]⟩)
 all_goals
   rw[zai _ _ λz=>n (by simp [z])]
   exact q
end
section
variable {X:Cx} {pins:List (Addr×Obj)} {σ:St} {H:Hp} {s:Shared} {M:Model} {F:Value->Shared->Prop} {Q:Unit->Shared->Prop} {a C dx:Addr}
theorem RU (I:qz X pins σ H s) (hst:X.stack=X.env::X.outer) (hfm:X.env.frame=some X.env.locals) (ha:H a=some (JB a C dx))
   (k:∀T h',H T=none->T≠a->qz X pins σ (upd (upd H a (Qm a C dx (.ref T))) T (XQ T (rawInt X.env.locals))) {s with heap:=h'}->Q () {s with heap:=h'}):wpAny M X.A (noteFrame (.ref a) X.env) Q F s:=by
 obtain⟨⟨fl,he,hz⟩,_,_⟩:=(show qI X.prog X.w H s.heap a (Qm a C dx .none) from I.hok a _ ha)
 have fr:=I.ok.frames
 have ff:=I.stack
 rw[hst]at fr ff
 refine Uo fr ff hfm he hz λh1 T hT F1 q1 q2=>?_
 rw[<-hst]at F1
 have lt:=(zaj.mp hz).1
 have g1:(fl.setIfInBounds 1 (Value.ref T))[1]?=some (.ref T):=by simp [lt]
 have nT:T≠a:=λz=>by
   obtain⟨ts,q,_⟩:=q2
   rw[z,q1]at q
   cases q
 have hTn:H T=none:=I.hok.fresh hT
 refine k T h1 hTn nT (I.flown F1 ⟨λb hb=>by cases tX.mp hb;exact⟨_,ha⟩,λb o hb q=>by
     rw[qg (qp q hTn),qg λz=>hb (by simp [z])];exact q,λb hb q=>by
     rw[qg (tR (tO hb hT)),qg λz=>by rw[z,ha]at q;cases q];exact q⟩ (λb hb=>by cases tX.mp hb;exact⟨_,q1⟩) λb o q hb=>?_)
 by_cases e1:b=T
 . subst e1
   rw[qd]at q
   cases q
   exact ZI q2
 . rw[qg e1]at q
   by_cases e2:b=a
   . subst e2
     rw[qd]at q
     cases q
     exact Zw ⟨_,q1,g1⟩
   . rw[qg e2]at q
     rcases hb with hb | hb
     . rw[q]at hb;cases hb
     . exact absurd (tX.mp hb) e2
theorem MJ {T:Addr} (I:qz X pins σ H s) (hst:X.stack=X.env::X.outer) (hfm:X.env.frame=some X.env.locals) (ha:H a=some (Qm a C dx (.ref T))) (ht:H T=some (XQ T .none))
   (k:∀T' h',H T'=none->T'≠a->qz X pins σ (upd (upd (upd H a (Qm a C dx (.ref T'))) T (.ext λh=>∃o,h.get? T=some o)) T' (XQ T' (rawInt X.env.locals))) {s with heap:=h'}->Q () {s with heap:=h'}):wpAny M X.A (noteFrame (.ref a) X.env) Q F s:=by
 obtain⟨⟨fl,he,hz⟩,_,_⟩:=(show qI X.prog X.w H s.heap a (Qm a C dx (.ref T)) from I.hok a _ ha)
 obtain⟨st0,_,_⟩:=(show qI X.prog X.w H s.heap T (XQ T .none) from I.hok T _ ht)
 have nT0:T≠a:=λz=>by
   obtain⟨ts,q,_⟩:=st0
   rw[z,he]at q
   cases q
 have fr:=I.ok.frames
 have ff:=I.stack
 rw[hst]at fr ff
 refine Vl fr ff hfm he hz st0 nT0 λh1 T' hT F1 tT q1 q2=>?_
 rw[<-hst]at F1
 have lt:=(zaj.mp hz).1
 have g1:(fl.setIfInBounds 1 (Value.ref T'))[1]?=some (.ref T'):=by simp [lt]
 have nT:T'≠a:=λz=>by
   obtain⟨ts,q,_⟩:=q2
   rw[z,q1]at q
   cases q
 have hTn:H T'=none:=I.hok.fresh hT
 obtain⟨oT,hoT⟩:=tT
 refine k T' h1 hTn nT (I.flown F1 ⟨λb hb=>by
     simp only[tV,zaz,or_false]at hb
     rcases hb with rfl | rfl
     . exact⟨_,ha⟩
     . exact⟨_,ht⟩,λb o hb q=>by
     simp only[tV,zaz,or_false,not_or]at hb
     rw[qg (qp q hTn),qg hb.2,qg hb.1];exact q,λb hb q=>by
     rw[qg (tR (tO hb hT)),qg (λz=>by rw[z,ht]at q;cases q),qg (λz=>by rw[z,ha]at q;cases q)];exact q⟩ (λb hb=>by
     simp only[tV,zaz,or_false]at hb
     rcases hb with rfl | rfl
     . exact⟨_,q1⟩
     . exact⟨_,hoT⟩) λb o q hb=>?_)
 by_cases e1:b=T'
 . subst e1
   rw[qd]at q
   cases q
   exact ZI q2
 . rw[qg e1]at q
   by_cases e2:b=T
   . subst e2
     rw[qd]at q
     cases q
     exact⟨⟨_,hoT⟩,⟨_,hoT⟩,λh1 h2 ⟨u,z⟩ k=>⟨u,k u z⟩⟩
   . rw[qg e2]at q
     by_cases e3:b=a
     . subst e3
       rw[qd]at q
       cases q
       exact Zw ⟨_,q1,g1⟩
     . rw[qg e3]at q
       rcases hb with hb | hb
       . rw[q]at hb;cases hb
       . simp only[tV,zaz,or_false]at hb
         exact(hb.elim e3 e2).elim
theorem Uz {T:Addr} (I:qz X pins σ H s) (hfm:X.env.frame=some X.env.locals) (ha:H a=some (Qm a C dx (.ref T))) (ht:H T=some (XQ T (rawInt X.env.locals))) (k:Q () s):wpAny M X.A (noteFrame (.ref a) X.env) Q F s:=by
 obtain⟨⟨fl,he,hz⟩,_,_⟩:=(show qI X.prog X.w H s.heap a (Qm a C dx (.ref T)) from I.hok a _ ha)
 obtain⟨st0,_,_⟩:=(show qI X.prog X.w H s.heap T (XQ T (rawInt X.env.locals)) from I.hok T _ ht)
 exact xg hfm he hz st0 k
theorem VB {T:Addr} {fl:Value} {fr:Option Addr} (I:qz X pins σ H s) (ha:H a=some (Qm a C dx (.ref T))) (ht:H T=some (XQ T fl))
   (k:∀h',qz X pins σ (upd H T (XQ T (fr.elim .none λf=>rawInt f))) {s with heap:=h'}->Q () {s with heap:=h'}):wpAny M X.A (setFlight (.ref a) fr) Q F s:=by
 obtain⟨⟨fs,he,hz⟩,_,_⟩:=(show qI X.prog X.w H s.heap a (Qm a C dx (.ref T)) from I.hok a _ ha)
 obtain⟨st0,_,_⟩:=(show qI X.prog X.w H s.heap T (XQ T fl) from I.hok T _ ht)
 refine vv (fs:=zZ X.stack) he hz st0 λh1 F1 st=>?_
 obtain⟨ts,q,z⟩:=id st
 refine k h1 (I.flown F1 ⟨λb hb=>by cases tX.mp hb;exact⟨_,ht⟩,λb o hb q=>by rw[qg (λz=>hb (by simp [z]))];exact q,λb hb q=>by rw[qg (λz=>by rw[z,ht]at q;cases q)];exact q⟩ (λb hb=>by cases tX.mp hb;exact⟨_,q⟩) λb o q hb=>?_)
 by_cases e1:b=T
 . subst e1
   rw[qd]at q
   cases q
   exact ZI st
 . rw[qg e1]at q
   rcases hb with hb | hb
   . rw[q]at hb;cases hb
   . exact absurd (tX.mp hb) e1
end
def yv (X:Cx) (pins:List (Addr×Obj)) (E:XK):Value->Shared->Prop:=λe s=>
 (∃(a C dx:Addr) (H:Hp) (σ:St),e=.ref a/\qz X pins σ H s/\H a=some (JB a C dx)/\E (.ref C) (some dx) H)\/
 ∃(a C dx T:Addr) (fl:Value) (Hx H:Hp) (σ:St),e=.ref a/\qz X pins σ H s/\(fl=.none\/fl=rawInt X.env.locals)/\H a=some (Qm a C dx (.ref T))/\H T=some (XQ T fl)/\Hx T=none/\Hx a=some (JB a C dx)/\(∀b o,b≠a->Hx b=some o->H b=some o)/\E (.ref C) (some dx) Hx
theorem xy {X:Cx} {pins:List (Addr×Obj)} {E:XK} (hst:X.stack=X.env::X.outer) (hfm:X.env.frame=some X.env.locals):PassesOwn (model X.prog X.w) X.A X.env (yv X pins E):=by
 intro e s h
 have back:∀{a C dx T:Addr} {fl:Value} {H Hx:Hp} {σ:St} {s':Shared},qz X pins σ H s'->H a=some (Qm a C dx (.ref T))->H T=some (XQ T fl)->T≠a->Hx T=none->Hx a=some (JB a C dx)->(∀b o,b≠a->Hx b=some o->H b=some o)->E (.ref C) (some dx) Hx->cameBackBy (model X.prog X.w) X.A X.env (yv X pins E) (.ref a) s':=λ{a C dx T fl H Hx σ s'} I ha ht nT h1 h2 h3 hE=>by
   obtain⟨⟨fs,he,hz⟩,_,_⟩:=(show qI X.prog X.w H s'.heap a (Qm a C dx (.ref T)) from I.hok a _ ha)
   unfold cameBackBy
   refine wpAny_bind (wpAny_field he rfl hz ?_)
   rw[if_neg (show ¬((Value.ref T==Value.none)=true) by simp)]
   first
     | refine VB I ha ht λh' I2=>?_
     | refine wpAny_bind (wpAny_pure (VB I ha ht λh' I2=>?_))
   refine .inr ⟨a,C,dx,T,_,Hx,_,σ,rfl,I2,.inr (by rw[hfm];rfl),by rw[qg (Ne.symm nT)];exact ha,qd,h1,h2,λb o nb q=>?_,hE⟩
   rw[qg (λz=>by rw[z,h1]at q;cases q)]
   exact h3 b o nb q
 rcases h with ⟨a,C,dx,H,σ,rfl,I,ha,hE⟩ | ⟨a,C,dx,T,fl,Hx,H,σ,rfl,I,hfl,ha,ht,h1,h2,h3,hE⟩
 . refine RU I hst hfm ha λT h' hT nT I2=>?_
   exact back (Hx:=H) I2 (by rw[qg (Ne.symm nT)];exact qd) qd nT hT ha (λb o nb q=>by rw[qg (qp q hT),qg nb];exact q) hE
 . have nT:T≠a:=λz=>by rw[z,h2]at h1;cases h1
   rcases hfl with rfl | rfl
   . refine MJ I hst hfm ha ht λT' h' hT nT' I2=>?_
     refine back (Hx:=Hx) I2 (by rw[qg (Ne.symm nT'),qg (Ne.symm nT)];exact qd) qd nT' ?_ h2 (λb o nb q=>?_) hE
     . cases q:Hx T' with
       | none=>rfl
       | some o=>rw[h3 T' o nT' q]at hT;cases hT
     . have n1:b≠T:=λz=>by rw[z,h1]at q;cases q
       have q':=h3 b o nb q
       rw[qg (qp q' hT),qg n1,qg nb]
       exact q'
   . exact Uz I hfm ha ht (back I ha ht nT h1 h2 h3 hE)
section
variable {P:Program} {w:World} {K:PySem.W.Frag} {mg:Str->Option Value} {base:Heap} {N:List Str} {qual:Str} {scope:Scope} {f:Addr} {cd:Value} {A:Around} {outer:List Env} {s₀:Shared} {H₀:Hp} {E:XK}
theorem xz {pins:List (Addr×Obj)} {e:Value} {s:Shared} (h:yv (Qw (Q9 P w) P w K mg base N qual scope f cd A outer s₀ H₀ E) pins E e s):(Qw (Q9 P w) P w K mg base N qual scope f cd A outer s₀ H₀ E).xe e s:=by
 rcases h with ⟨a,C,dx,H,σ,rfl,I,ha,hE⟩ | ⟨a,C,dx,T,fl,Hx,H,σ,rfl,I,hfl,ha,ht,h1,h2,h3,hE⟩
 . exact Zs pins σ H s a C dx I ha hE
 . rcases hfl with rfl | rfl
   . exact QX pins σ H s _ s I ⟨a,C,dx,T,Hx,H,rfl,rfl,I.bare,Un.refl,I.hok,ha,ht,h1,h2,h3,hE⟩
   . show wpAny _ _ (leaving _ _) _ _ s
     unfold leaving
     refine wpAny_bind (Uz I rfl ha ht ?_)
     have nT:T≠a:=λz=>by rw[z,h2]at h1;cases h1
     refine VB (fr:=none) I ha ht λh' I2=>?_
     refine⟨a,C,dx,T,Hx,_,rfl,I2.os,I2.bare,I2.base,I2.hok,by rw[qg (Ne.symm nT)];exact ha,qd,h1,h2,λb o nb q=>?_,hE⟩
     rw[qg (λz=>by rw[z,h1]at q;cases q)]
     exact h3 b o nb q
theorem uP {st:Stmt} {t:TS} (h:∀(pn:List (Addr×Obj)) (W:Value->Shared->Prop),PassesOwn (model P w) (Qw (Q9 P w) P w K mg base N qual scope f cd A outer s₀ H₀ E).A (Qw (Q9 P w) P w K mg base N qual scope f cd A outer s₀ H₀ E).env W->
     Qi (Q9 P w) ((Qw (Q9 P w) P w K mg base N qual scope f cd A outer s₀ H₀ E).tried pn W) E->VH ((Qw (Q9 P w) P w K mg base N qual scope f cd A outer s₀ H₀ E).tried pn W) E->JS ((Qw (Q9 P w) P w K mg base N qual scope f cd A outer s₀ H₀ E).tried pn W) st t):
   PS (Qw (Q9 P w) P w K mg base N qual scope f cd A outer s₀ H₀ E) st t:=by
 intro pins s σ H D I hw
 refine wpAny_mono ((h _ (yv _ pins E) (xy rfl rfl) ?_ ?_).to [] s σ H D (I.tried _) hw) (λfl s1 q=>?_) (λe s1 z=>xz z)
 . intro pins' σ' H1 s1 e s' I1 hc
   obtain⟨a,C,dx,T,Hx,H2,rfl,os,bare,un,hok,ha,ht,hxT,hxa,hxs,hE⟩:=hc
   have I2:=I.untried (I1.call' os un hok bare λb z=>absurd z (by simp))
   exact .inr ⟨a,C,dx,T,.none,Hx,H2,σ',rfl,I2,.inl rfl,ha,ht,hxT,hxa,hxs,hE⟩
 . intro pins' σ' H1 s1 a C dx I1 ha hE
   exact .inl ⟨a,C,dx,H1,σ',rfl,I.untried I1,ha,hE⟩
 . cases fl with
   | next=>obtain⟨σ',H',I',q⟩:=q;exact⟨σ',H',I.untried I',q⟩
   | brk=>obtain⟨σ',H',I',q⟩:=q;exact⟨σ',H',I.untried I',q⟩
   | cont=>obtain⟨σ',H',I',q⟩:=q;exact⟨σ',H',I.untried I',q⟩
   | ret u=>obtain⟨v,σ',H',I',r,q⟩:=q;exact⟨v,σ',H',I.untried I',r,q⟩
theorem RB {st:Stmt} {t:TS} (h:∀(pn:List (Addr×Obj)) (W:Value->Shared->Prop),PassesOwn (model P w) (Qw (Q9 P w) P w K mg base N qual scope f cd A outer s₀ H₀ E).A (Qw (Q9 P w) P w K mg base N qual scope f cd A outer s₀ H₀ E).env W->
     Qi (Q9 P w) ((Qw (Q9 P w) P w K mg base N qual scope f cd A outer s₀ H₀ E).tried pn W) E->VH ((Qw (Q9 P w) P w K mg base N qual scope f cd A outer s₀ H₀ E).tried pn W) E->JS ((Qw (Q9 P w) P w K mg base N qual scope f cd A outer s₀ H₀ E).tried pn W) st t):
   JS (Qw (Q9 P w) P w K mg base N qual scope f cd A outer s₀ H₀ E) st t:=.of (uP h)
end
def Cmp (K:PySem.W.Frag) (H:Hp) (v:V):Prop:=(∃c,v=.ref c)\/∃d,DV K H v d/\d.canLay0=true/\d.depth=0
section
variable {X:Cx}
def qaD (K:PySem.W.Frag):R2:=λx y H Q=>∃(a b:Addr) (z:Str) (v:V),x=.ref a/\y=.ref b/\SqT K H a [.str z,v]/\SqT K H b [.str z,v]/\PyData.strOk z=true/\Cmp K H v/\Q (.bl false) H
theorem GU (hu:X.A.units+64 < cLine):J7 X (compareOp .NotEq) (qaD X.K):=by
 intro pins s σ H x y v u Q I rx ry h
 obtain⟨a,b,z,v1,rfl,rfl,ha,hb,ok,hv,q⟩:=h
 rcases hv with ⟨c,rfl⟩ | ⟨d,dv,cl,dp⟩
 . cases rx
   cases ry
   obtain⟨its,rv,pl,_⟩:=I.tuple ha
   obtain⟨its2,rv2,pl2,_⟩:=I.tuple hb
   obtain⟨w1,w2,rfl,r1,r2⟩:=VP rv
   obtain⟨w3,w4,rfl,r3,r4⟩:=VP rv2
   obtain⟨t1,rfl⟩:=r1
   obtain⟨t3,rfl⟩:=r3
   cases r2
   cases r4
   refine EqBoolInt.of_rcne (SeqAt.RcNeAt.tuples (e:=λ_=>true) (show s.heap.IsTuple a #[Value.str z t1,.ref c] from pl) (show s.heap.IsTuple b #[Value.str z t3,.ref c] from pl2) (by omega) λj h1 h2=>?_) ⟨.bl _,H,I,rfl,q⟩
   have hj:j=0\/j=1:=by have:j < 2:=h1;omega
   rcases hj with rfl | rfl
   . have:=SeqAt.EqAt.str_str (A:=X.A.in1) (s:=s) z t1 z t3
     rw[beq_self_eq_true]at this
     exact this
   . exact SeqAt.EqAt.same _
 . refine U8 hu pins s σ H _ _ v u Q I rx ry ⟨.tuple [.str z,d],.tup ha (.cons (.str z) (.cons dv .nil)),.tup hb (.cons (.str z) (.cons dv .nil)),?_,q⟩
   unfold PySem.SeqAt.shaped
   simp only[PyData.canLay0,PyData.canLayAll0,ok,cl,PyData.depth,PyData.depthAll,dp]
   rfl
end
end L2
namespace Rb
def jD (ns:List Nat):Nat:=ns.foldl (·^^^ ·) 0
def setN (ns:List Nat):Nat:=ns.foldl (λb n=>b ||| 2^n) 0
def memN (b n:Nat):List Nat:=(tM n).filter λi=>b.testBit i
def Lacks (r:Nat) (ns:List Nat):Prop:=r∉ns/\∀x,x < r->x∈ns
theorem Mn (x:Nat):x % 2=(x.testBit 0).toNat:=by
 rw[zcv]
 rcases zcO x with h | h<;>simp [h]
theorem or_and_xor (a:Nat):∀b,(a ||| b)=(a&&& b)+(a^^^b):=by
 induction a using zcE with
 | ind a ih=>
   intro b
   by_cases ha:a=0
   . subst ha;simp
   . have i:=ih (a / 2) (by omega) (b / 2)
     have o1:(a ||| b) / 2=(a / 2) ||| (b / 2):=Nat.or_div_two
     have n1:(a&&& b) / 2=(a / 2)&&& (b / 2):=Nat.and_div_two
     have x1:(a^^^b) / 2=(a / 2)^^^ (b / 2):=Nat.xor_div_two
     have m:(a ||| b) % 2=(a&&& b) % 2+(a^^^b) % 2:=by
       rw[Mn (a ||| b),Mn (a&&& b),Mn (a^^^b),Nat.testBit_or,Nat.testBit_and,zbO]
       cases a.testBit 0<;>cases b.testBit 0<;>rfl
     omega
theorem Kk (ns:List Nat):∀b k,(ns.foldl (λb n=>b ||| 2^n) b).testBit k=(b.testBit k || decide (k∈ns)):=by
 induction ns with
 | nil=>intro b k;simp
 | cons n ns ih=>
   intro b k
   rw[zcf,ih,Nat.testBit_or,Nat.testBit_two_pow]
   by_cases h:n=k
   . subst h;simp
   . have h':¬k=n:=λe=>h e.symm
     simp [h,h']
theorem testBit_setN (ns:List Nat) (k:Nat):(setN ns).testBit k=decide (k∈ns):=by
 unfold setN
 rw[Kk]
 simp
theorem mem_memN {b n i:Nat}:i∈memN b n↔i < n/\b.testBit i=true:=by
 unfold memN
 simp
theorem VT {b k m:Nat} (h:b < 2^m) (hk:m<=k):b.testBit k=false:=Nat.testBit_lt_two_pow (tO h (Nat.pow_le_pow_right (by decide) hk))
theorem Wt {b m:Nat} (h:b < 2^m):∀n,m<=n->memN b n=memN b m:=by
 intro n hn
 obtain⟨k,rfl⟩:=Nat.le.dest hn
 unfold memN
 rw[List.range_add,zaP]
 have e:((tM k).map (m+·)).filter (λi=>b.testBit i)=[]:=by
   rw[List.filter_eq_nil_iff]
   intro i hi
   obtain⟨j,_,rfl⟩:=tE.mp hi
   rw[VT h (Nat.le_add_right _ _)]
   simp
 rw[e,zaH]
theorem memN_same {b m n:Nat} (hm:b < 2^m) (hn:b < 2^n):memN b n=memN b m:=by
 by_cases h:m<=n
 . exact Wt hm n h
 . exact(Wt hn m (by omega)).symm
theorem setN_lt {ns:List Nat} {m:Nat} (h:∀x∈ns,x < m):setN ns < 2^m:=by
 refine Nat.lt_pow_two_of_testBit _ λi hi=>?_
 rw[testBit_setN]
 refine decide_eq_false λz=>?_
 have:=h i z
 omega
def turnN (b n m:Nat):Nat:=setN ((memN b m).map (·^^^n))
theorem xor_lt {a b m:Nat} (h1:a < 2^m) (h2:b < 2^m):a^^^b < 2^m:=Nat.xor_lt_two_pow h1 h2
theorem vM (a b:Nat):(a^^^b)^^^b=a:=by rw[zbq,zbD,zcI]
theorem WT {b n m k:Nat} (hm:m<=2^k) (hn:n < 2^k):turnN b n m < 2^ (2^k):=by
 refine setN_lt λx hx=>?_
 obtain⟨y,hy,rfl⟩:=tE.mp hx
 exact xor_lt (tO (mem_memN.mp hy).1 hm) hn
theorem pigeon:∀(n:Nat) (ns:List Nat),(∀x,x < n->x∈ns)->n<=ns.length:=by
 intro n
 induction n with
 | zero=>intro ns _;exact zal _
 | succ n ih=>
   intro ns h
   have hn:n∈ns:=h n (zaM n)
   have:=ih (ns.erase n) λx hx=>(zbW (by omega)).mpr (h x (zbS hx))
   rw[zcd hn]at this
   have hp:0 < ns.length:=zbM hn
   omega
theorem Lacks.uniq {r s:Nat} {ns:List Nat} (h:Lacks r ns) (g:Lacks s ns):r=s:=by
 rcases zaX r s with z | z | z
 . exact absurd (g.2 r z) h.1
 . exact z
 . exact absurd (h.2 s z) g.1
def J4 (ns:List Nat):Nat->Nat
 | 0=>0
 | i+1=>if J4 ns i∈ns then J4 ns i+1 else J4 ns i
theorem vh (ns:List Nat):∀i,(∀x,x < J4 ns i->x∈ns)/\J4 ns i<=i/\(J4 ns i < i->J4 ns i∉ns):=by
 intro i
 induction i with
 | zero=>exact⟨λx hx=>absurd hx (zbN _),tq _,λh=>absurd h (zat _)⟩
 | succ i ih=>
   obtain⟨h1,h2,h3⟩:=ih
   unfold J4
   by_cases h:J4 ns i∈ns
   . rw[if_pos h]
     refine⟨λx hx=>?_,by omega,λhlt=>absurd h (h3 (by omega))⟩
     by_cases e:x=J4 ns i
     . rw[e];exact h
     . exact h1 x (by omega)
   . rw[if_neg h]
     exact⟨h1,by omega,λ_=>h⟩
theorem lackI_lacks (ns:List Nat):Lacks (J4 ns (ns.length+1)) ns:=by
 obtain⟨h1,h2,h3⟩:=vh ns (ns.length+1)
 refine⟨h3 ?_,h1⟩
 have:=pigeon _ _ h1
 omega
def lackN (ns:List Nat):Nat:=J4 ns (ns.length+1)
theorem lackN_eq {r:Nat} {ns:List Nat} (h:Lacks r ns):r=lackN ns:=h.uniq (lackI_lacks ns)
theorem memN_succ (b i:Nat):memN b (i+1)=memN b i++(if b.testBit i then [i] else []):=by
 unfold memN
 rw[zbm,zaP]
 congr 1
 by_cases h:b.testBit i=true
 . simp [h]
 . simp [h]
theorem testBit_div (b i:Nat):b.testBit i=decide (b / 2^i % 2=1):=by
 rw[Nat.testBit_eq_decide_div_mod_eq]
theorem zQ (ns:List Nat) (n:Nat):jD (ns++[n])=jD ns^^^n:=by unfold jD;rw[zco];rfl
theorem setN_snoc (ns:List Nat) (n:Nat):setN (ns++[n])=setN ns ||| 2^n:=by unfold setN;rw[zco];rfl
theorem Qq {b n k:Nat} (hn:n < 16):(turnN b n 16).testBit k=(decide (k < 16)&&b.testBit (k^^^n)):=by
 unfold turnN
 rw[testBit_setN,zaQ,decide_eq_true_iff,zas,decide_eq_true_iff,tE]
 constructor
 . rintro⟨y,hy,rfl⟩
   obtain⟨h1,h2⟩:=mem_memN.mp hy
   exact⟨xor_lt (m:=4) h1 hn,by rw[vM];exact h2⟩
 . rintro⟨h1,h2⟩
   exact⟨k^^^n,mem_memN.mpr ⟨xor_lt (m:=4) h1 hn,h2⟩,vM k n⟩
theorem yD {b x y:Nat} (hx:x < 16) (hy:y < 16):turnN (turnN b x 16) y 16=turnN b (x^^^y) 16:=by
 refine zcB λk=>?_
 have hxy:x^^^y < 16:=xor_lt (m:=4) hx hy
 rw[Qq hy,Qq hx,Qq hxy,zbq,zdM y x]
 by_cases hk:k < 16
 . rw[decide_eq_true hk,decide_eq_true (xor_lt (m:=4) hk hy)]
   simp
 . rw[decide_eq_false hk]
   simp
theorem xX (n:Nat):turnN 0 n 16=0:=by
 unfold turnN
 have e:memN 0 16=[]:=by decide
 rw[e]
 rfl
inductive W where
 | num (n:Nat)
 | edl (b:Nat)
deriving DecidableEq
def Z5:W->W->W
 | .num a,.num b=>.num (a^^^b)
 | .num a,.edl b=>.edl (turnN b a 16)
 | .edl b,.num a=>.edl (turnN b a 16)
 | .edl _,.edl _=>.edl 0
def okW:W->Prop
 | .num n=>n < 16
 | .edl b=>b < 65536
def QA (ws:List W):List Nat:=ws.filterMap λ| .num n=>some n | .edl _=>none
def j1 (ws:List W):List Nat:=ws.filterMap λ| .num _=>none | .edl b=>some b
def jP (ws:List W):W:=match j1 ws with
 | []=>.num (jD (QA ws))
 | [b]=>.edl (turnN b (jD (QA ws)) 16)
 | _=>.edl 0
theorem xG (ns:List Nat):∀a,ns.foldl (·^^^ ·) a=a^^^jD ns:=by
 induction ns with
 | nil=>intro a;simp [jD]
 | cons n ns ih=>
   intro a
   unfold jD
   rw[zcf,zcf,ih (a^^^n),ih (0^^^n),zcJ,zbq]
theorem zR (n:Nat) (ns:List Nat):jD (n::ns)=n^^^jD ns:=by
 show ns.foldl (·^^^ ·) (0^^^n)=_
 rw[xG,zcJ]
theorem Zo {ns:List Nat} (h:∀x∈ns,x < 16):jD ns < 16:=by
 induction ns with
 | nil=>decide
 | cons n ns ih=>
   rw[zR]
   exact xor_lt (m:=4) (h n (zab ..)) (ih λx hx=>h x (tY _ hx))
theorem Vk {ws:List W} (h:∀w∈ws,okW w):∀x∈QA ws,x < 16:=by
 intro x hx
 obtain⟨w,hw,e⟩:=zaB.mp hx
 cases w with
 | num n=>cases e;exact h _ hw
 | edl b=>cases e
theorem Wn (ws:List W) (w:W):QA (ws++[w])=QA ws++(match w with | .num n=>[n] | .edl _=>[]):=by
 unfold QA
 rw[zaq]
 cases w<;>rfl
theorem Wf (ws:List W) (w:W):j1 (ws++[w])=j1 ws++(match w with | .num _=>[] | .edl b=>[b]):=by
 unfold j1
 rw[zaq]
 cases w<;>rfl
theorem xY {ws:List W} {w:W} (h:∀w∈ws,okW w) (hw:okW w):jP (ws++[w])=Z5 (jP ws) w:=by
 have hl:=Zo (Vk h)
 unfold jP
 rw[Wf,Wn]
 cases w with
 | num n=>
   simp only[zaH]
   have e:jD (QA ws++[n])=jD (QA ws)^^^n:=zQ _ _
   cases hs:j1 ws with
   | nil=>simp only[e];rfl
   | cons b r=>
     cases r with
     | nil=>
       simp only[e]
       show W.edl _=W.edl _
       rw[yD hl hw]
     | cons c r=>
       show W.edl 0=W.edl _
       rw[xX]
 | edl b=>
   simp only[zaH]
   cases hs:j1 ws with
   | nil=>rfl
   | cons c r=>
     cases r with
     | nil=>rfl
     | cons c2 r=>rfl
theorem YA {ws:List W} (h:∀w∈ws,okW w):okW (jP ws):=by
 have hl:=Zo (Vk h)
 unfold jP
 split
 . exact hl
 . exact WT (k:=4) (tq _) hl
 . show 0 < 65536;decide
theorem Kl {ws:List W} (h:∀w∈ws,okW w):∀i,i<=ws.length->(ws.take i).foldl Z5 (.num 0)=jP (ws.take i):=by
 intro i
 induction i with
 | zero=>intro _;rfl
 | succ i ih=>
   intro hi
   have hlt:i < ws.length:=hi
   have e:ws.take (i+1)=ws.take i++[ws[i]]:=by rw[tS,tF hlt];rfl
   rw[e,zco,ih (zam hlt),xY (λw hw=>h w (zaK hw)) (h _ (zcw hlt))]
   rfl
theorem Uy {ws:List W} (h:∀w∈ws,okW w):ws.foldl Z5 (.num 0)=jP ws:=by
 have:=Kl h ws.length (tq _)
 rw[tH (tq _)]at this
 exact this
end Rb
namespace MLab
theorem vP:∀(g m:Nat),m < g->∃k,m.testBit k=false/\g.testBit k=true/\∀j,k < j->m.testBit j=g.testBit j:=by
 intro g
 induction g using zcE with
 | _ g ih=>
   intro m h
   by_cases c:m / 2 < g / 2
   . obtain⟨k,h1,h2,h3⟩:=ih (g / 2) (by omega) (m / 2) c
     refine⟨k+1,by rw[zbI];exact h1,by rw[zbI];exact h2,λj hj=>?_⟩
     cases j with
     | zero=>omega
     | succ j=>rw[zbI,zbI];exact h3 j (by omega)
   . have e:m / 2=g / 2:=by omega
     refine⟨0,?_,?_,λj hj=>?_⟩
     . rw[zcv];simp;omega
     . rw[zcv];simp;omega
     . cases j with
       | zero=>omega
       | succ j=>rw[zbI,zbI,e]
theorem Mp {x y:Nat} (k:Nat) (hx:x.testBit k=false) (hy:y.testBit k=true) (h:∀j,k < j->x.testBit j=y.testBit j):x < y:=by
 rcases zaX x y with c | rfl | c
 . exact c
 . rw[hx]at hy;cases hy
 . obtain⟨i,h1,h2,h3⟩:=vP _ _ c
   rcases zaX i k with d | rfl | d
   . have:=h3 k d;rw[hx,hy]at this;cases this
   . rw[hy]at h1;cases h1
   . have:=h i d;rw[h1,h2]at this;cases this
def j4 (ns:List Nat):Nat:=ns.foldr (λa b=>a^^^b) 0
theorem Zn (a:Nat) (ns:List Nat):j4 (a::ns)=a^^^j4 ns:=rfl
theorem VM {k:Nat}:∀{ns:List Nat},(j4 ns).testBit k=true->∃n∈ns,n.testBit k=true
 | [],h=>by simp [j4]at h
 | a::ns,h=>by
   rw[Zn,zbO]at h
   cases e:a.testBit k with
   | true=>exact⟨a,zab,e⟩
   | false=>
     rw[e,Bool.false_xor]at h
     obtain⟨n,hn,h'⟩:=VM h
     exact⟨n,tY _ hn,h'⟩
theorem yy {ns:List Nat} {m:Nat} (h:m < j4 ns):∃n∈ns,n^^^j4 ns^^^m < n:=by
 obtain⟨k,h1,h2,h3⟩:=vP _ _ h
 obtain⟨n,hn,hk⟩:=VM h2
 refine⟨n,hn,Mp k ?_ hk λj hj=>?_⟩
 . rw[zbO,zbO,hk,h1,h2];rfl
 . rw[zbO,zbO,h3 j hj]
   cases n.testBit j<;>cases (j4 ns).testBit j<;>rfl
section
variable {α:Type} (G:α->List α)
structure zj (ok:α->Prop) (num:α->Option Nat) (stp:α->Nat):Prop where
 cl:∀{x y},ok x->y∈G x->ok y
 n1:∀{x n m},ok x->num x=some n->m < n->∃y∈G x,num y=some m/\stp y < stp x
 n2:∀{x y n},ok x->num x=some n->y∈G x->num y≠some n
 n3:∀{x y n},ok x->num x=some n->y∈G x->(∀m,num y=some m->n < m)->∃z∈G y,num z=some n/\stp z < stp x
 n4:∀{x y n m},ok x->num x=some n->y∈G x->num y=some m->m < n->stp y < stp x
 e:∀{x m},ok x->num x=none->(∀j,j < m->∃y∈G x,num y=some j)->(∀y∈G x,num y≠some m)->∃y∈G x,num y=none/\∀z∈G y,num z≠some m
section
variable {β:Type} (M:β->List β)
mutual
inductive J3:β->Prop
 | mk {a:β} (h:∀b∈M a,Won b):J3 a
inductive Won:β->Prop
 | mk {a b:β} (m:b∈M a) (h:J3 b):Won a
end
end
def mv:List α->List (List α)
 | []=>[]
 | x::h=>(G x).map (λy=>y::h)++(mv h).map (λb=>x::b)
theorem jV:∀{a b:List α},b∈mv G a↔∃p x y q,a=p++x::q/\y∈G x/\b=p++y::q
 | [],b=>by
   constructor
   . intro h;simp [mv]at h
   . rintro⟨p,x,y,q,e,_⟩;simp at e
 | x::h,b=>by
   unfold mv
   rw[t9,tE,tE]
   constructor
   . rintro(⟨y,hy,rfl⟩ | ⟨b',hb,rfl⟩)
     . exact⟨[],x,y,h,rfl,hy,rfl⟩
     . obtain⟨p,u,y,q,rfl,hy,rfl⟩:=jV.mp hb
       exact⟨x::p,u,y,q,rfl,hy,rfl⟩
   . rintro⟨p,u,y,q,e,hy,rfl⟩
     cases p with
     | nil=>
       cases e
       exact .inl ⟨y,hy,rfl⟩
     | cons v p=>
       cases e
       exact .inr ⟨p++y::q,jV.mpr ⟨p,u,y,q,rfl,hy,rfl⟩,rfl⟩
variable {G} {ok:α->Prop} {num:α->Option Nat} {stp:α->Nat}
def j6 (num:α->Option Nat) (h:List α):List Nat:=h.filterMap num
def ends (num:α->Option Nat) (h:List α):Nat:=(h.filter λx=>(num x).isNone).length
theorem VN (a b:List Nat):j4 (a++b)=j4 a^^^j4 b:=by
 induction a with
 | nil=>show j4 b=0^^^j4 b;rw[zcJ]
 | cons x a ih=>rw[zdg,Zn,ih,Zn,zbq]
theorem Qf {p q:List α} {x:α} {n:Nat} (h:num x=some n):j4 (j6 num (p++x::q))=n^^^j4 (j6 num (p++q)):=by
 unfold j6
 rw[zaq,zaf,h,zaq,VN,VN]
 show _^^^ (n^^^j4 _)=_
 rw[<-zbq,zdM _ n,zbq]
theorem Xd {p q:List α} {x:α} (h:num x=none):j6 num (p++x::q)=j6 num (p++q):=by
 unfold j6
 rw[zaq,zaf,h,zaq]
theorem jB {p q:List α} {x:α} {n:Nat} (h:num x=some n):ends num (p++x::q)=ends num (p++q):=by
 unfold ends
 rw[zaP,zaR,h,zaP]
 rfl
theorem jU {p q:List α} {x:α} (h:num x=none):ends num (p++x::q)=ends num (p++q)+1:=by
 unfold ends
 rw[zaP,zaR,h,zaP,tI,tI]
 show _+(_+1)=_
 omega
def UE (stp:α->Nat) (h:List α):Nat:=(h.map stp).sum
theorem Zm {p q:List α} {x:α}:UE stp (p++x::q)=stp x+UE stp (p++q):=by
 unfold UE
 rw[tG,tQ,zbi,zax,tG,zbi]
 omega
theorem ZT {a b c:Nat} (h:a^^^c=b^^^c):a=b:=by
 have:a^^^c^^^c=b^^^c^^^c:=by rw[h]
 rwa [zbq,zbq,zbD,zcI,zcI]at this
theorem WU (L:zj G ok num stp) {h:List α} (hk:∀x∈h,ok x) {m:Nat} (lt:m < j4 (j6 num h)):∃p x y q,h=p++x::q/\y∈G x/\(∃n k,num x=some n/\num y=some k)/\j4 (j6 num (p++y::q))=m/\stp y < stp x:=by
 obtain⟨n,hn,hl⟩:=yy lt
 obtain⟨x,hx,ex⟩:=zaB.mp hn
 obtain⟨p,q,rfl⟩:=zch hx
 obtain⟨y,hy,ey,ly⟩:=L.n1 (hk x hx) ex hl
 refine⟨p,x,y,q,rfl,hy,⟨n,_,ex,ey⟩,?_,ly⟩
 rw[Qf ey,Qf ex]
 generalize j4 (j6 num (p++q))=r
 rw[<-zbq n n r,zbD,zcJ,zdM r m,zbq,zbD,zcI]
theorem ZL {h p q:List α} {x y:α} (L:zj G ok num stp) (hk:∀x∈h,ok x) (e:h=p++x::q) (hy:y∈G x):∀z∈p++y::q,ok z:=λz hz=>by
 subst e
 rcases t9.mp hz with hz | hz
 . exact hk z (zaI _ hz)
 . rcases tV.mp hz with rfl | hz
   . exact L.cl (hk x (by simp)) hy
   . exact hk z (zan _ (tY _ hz))
theorem xl (L:zj G ok num stp):∀(c:Nat) {h:List α},UE stp h<=c->(∀x∈h,ok x)->ends num h=0->j4 (j6 num h)=0->J3 (mv G) h:=by
 intro c
 induction c using zcE with
 | _ c ih=>
   intro h hc hk he hx
   refine .mk λb hb=>?_
   obtain⟨p,x,y,q,rfl,hy,rfl⟩:=(jV G).mp hb
   have okx:=hk x (by simp)
   have hk':=ZL L hk rfl hy
   cases ex:num x with
   | none=>rw[jU ex]at he;omega
   | some n=>
     rw[jB ex]at he
     rw[Qf ex]at hx
     rw[Zm]at hc
     have back:(∀m,num y=some m->n < m)->Won (mv G) (p++y::q):=λgt=>by
       obtain⟨z,hz,ez,lz⟩:=L.n3 okx ex hy gt
       refine .mk (b:=p++z::q) ((jV G).mpr ⟨p,y,z,q,rfl,hz,rfl⟩) (ih (UE stp (p++z::q)) (by rw[Zm];omega) (tq _) (ZL L hk' rfl hz) (by rw[jB ez];exact he) (by rw[Qf ez];exact hx))
     cases ey:num y with
     | none=>exact back λm h=>by rw[ey]at h;cases h
     | some k=>
       rcases zaX k n with lt | rfl | gt
       . have ly:=L.n4 okx ex hy ey lt
         have pos:0 < j4 (j6 num (p++y::q)):=by
           rw[Qf ey]
           refine zdG λz=>?_
           have:=ZT (z.trans hx.symm)
           omega
         obtain⟨p',x',y',q',e',hy',⟨n',k',en,ek⟩,x0,l'⟩:=WU L hk' pos
         have ce:UE stp (p++y::q)=stp y+UE stp (p++q):=Zm
         rw[e',Zm]at ce
         have ee:ends num (p++y::q)=0:=by rw[jB ey];exact he
         refine .mk (b:=p'++y'::q') ((jV G).mpr ⟨p',x',y',q',e',hy',rfl⟩) (ih (UE stp (p'++y'::q')) (by rw[Zm];omega) (tq _) (ZL L hk' e' hy') ?_ x0)
         rw[e',jB en]at ee
         rw[jB ek]
         exact ee
       . exact absurd ey (L.n2 okx ex hy)
       . exact back λm h=>by rw[ey]at h;cases h;exact gt
def Drawn (G:α->List α) (num:α->Option Nat) (h:List α):Prop:=(∃p x q,h=p++x::q/\num x=none/\ends num (p++q)=0/\∀y∈G x,num y≠some (j4 (j6 num (p++q))))\/2<=ends num h
theorem Zl {h:List α}:0 < ends num h↔∃p x q,h=p++x::q/\num x=none:=by
 unfold ends
 constructor
 . intro c
   obtain⟨x,hx⟩:=List.exists_mem_of_length_pos c
   obtain⟨h1,h2⟩:=zae.mp hx
   obtain⟨p,q,e⟩:=zch h1
   exact⟨p,x,q,e,by simpa using h2⟩
 . rintro⟨p,x,q,rfl,ex⟩
   exact zbM (a:=x) (zae.mpr ⟨by simp,by rw[ex];rfl⟩)
theorem lack (L:zj G ok num stp) {x:α} (okx:ok x) (ex:num x=none):∃m,(∀j,j < m->∃y∈G x,num y=some j)/\(∀y∈G x,num y≠some m)/\∃y∈G x,num y=none/\∀z∈G y,num z≠some m:=by
 have ⟨b,hb⟩:∃b,∀y∈G x,num y≠some b:=by
   refine⟨(j6 num (G x)).sum+1,λy hy e=>?_⟩
   have:∀(l:List Nat) (n:Nat),n∈l->n<=l.sum:=by
     intro l
     induction l with
     | nil=>intro n h;cases h
     | cons a l ih=>
       intro n h
       rw[zax]
       rcases tV.mp h with rfl | h
       . omega
       . have:=ih n h;omega
   have q:(j6 num (G x)).sum+1∈j6 num (G x):=zaB.mpr ⟨y,hy,e⟩
   have:=this _ _ q
   omega
 have ⟨m,hm,least⟩:∃m,(∀y∈G x,num y≠some m)/\∀j,j < m->¬∀y∈G x,num y≠some j:=by
   induction b using zcE with
   | _ b ih=>
     by_cases c:∃j,j < b/\∀y∈G x,num y≠some j
     . obtain⟨j,hj,h⟩:=c
       exact ih j hj h
     . exact⟨b,hb,λj hj h=>c ⟨j,hj,h⟩⟩
 have lo:∀j,j < m->∃y∈G x,num y=some j:=λj hj=>Classical.byContradiction λn=>least j hj λy hy e=>n ⟨y,hy,e⟩
 exact⟨m,lo,hm,L.e okx ex lo hm⟩
theorem Kq (L:zj G ok num stp) {h:List α} (hk:∀x∈h,ok x) (d:Drawn G num h):∃b∈mv G h,Drawn G num b:=by
 rcases d with ⟨p,x,q,rfl,ex,he,no⟩ | two
 . have okx:=hk x (by simp)
   obtain⟨m,lo,hm,y,hy,ey,ly⟩:=lack L okx ex
   rcases zaX m (j4 (j6 num (p++q))) with lt | e | gt
   . have hk':∀z∈p++q,ok z:=λz hz=>hk z (by
       rcases t9.mp hz with hz | hz
       . exact zaI _ hz
       . exact zan _ (tY _ hz))
     obtain⟨p',x',y',q',e',hy',⟨n',k',en,ek⟩,x0,_⟩:=WU L hk' lt
     have key:∃p2 q2,p++x::q∈[p++x::q]/\(p2++x::q2)∈mv G (p++x::q)/\p2++q2=p'++y'::q':=by
       rcases List.append_eq_append_iff.mp e' with ⟨r,e1,e2⟩ | ⟨r,e1,e2⟩
       ·
         refine⟨p,r++y'::q',by simp,(jV G).mpr ⟨p++x::r,x',y',q',?_,hy',?_⟩,?_⟩
         . rw[e2];simp
         . simp
         . rw[e1];simp
       ·
         cases r with
         | nil=>
           simp at e1 e2
           refine⟨p,y'::q',by simp,(jV G).mpr ⟨p++[x],x',y',q',?_,hy',?_⟩,?_⟩
           . rw[<-e2];simp
           . simp
           . rw[e1]
         | cons u r=>
           rw[zdg]at e2
           obtain⟨rfl,e3⟩:=zdQ.inj e2
           refine⟨p'++y'::r,q,by simp,(jV G).mpr ⟨p',x',y',r++x::q,?_,hy',?_⟩,?_⟩
           . rw[e1];simp
           . simp
           . rw[e3];simp
     obtain⟨p2,q2,_,hm2,e2⟩:=key
     refine⟨_,hm2,.inl ⟨p2,x,q2,rfl,ex,?_,?_⟩⟩
     . rw[e2,jB ek]
       rw[e',jB en]at he
       exact he
     . rw[e2,x0]
       exact hm
   . exact⟨p++y::q,(jV G).mpr ⟨p,x,y,q,rfl,hy,rfl⟩,.inl ⟨p,y,q,rfl,ey,he,by rw[<-e];exact ly⟩⟩
   . obtain⟨y',hy',e'⟩:=lo _ gt
     exact absurd e' (no y' hy')
 . obtain⟨p,x,q,rfl,ex⟩:=Zl.mp (by omega:0 < ends num h)
   obtain⟨m,lo,hm,y,hy,ey,ly⟩:=lack L (hk x (by simp)) ex
   refine⟨p++y::q,(jV G).mpr ⟨p,x,y,q,rfl,hy,rfl⟩,.inr ?_⟩
   rw[jU ex]at two
   rw[jU ey]
   exact two
def zM (num:α->Option Nat) (h:List α):Prop:=ends num h=0/\j4 (j6 num h)=0
theorem yx (L:zj G ok num stp) {h b:List α} (hk:∀x∈h,ok x) (z:zM num h) (m:b∈mv G h):¬zM num b:=λw=>by
 obtain⟨p,x,y,q,rfl,hy,rfl⟩:=(jV G).mp m
 cases ex:num x with
 | none=>have:=z.1;rw[jU ex]at this;omega
 | some n=>
   cases ey:num y with
   | none=>have:=w.1;rw[jU ey]at this;omega
   | some k=>
     have h1:=z.2
     have h2:=w.2
     rw[Qf ex]at h1
     rw[Qf ey]at h2
     have:=ZT (h1.trans h2.symm)
     subst this
     exact L.n2 (hk x (by simp)) ex hy ey
theorem XC {h b:List α} (d:Drawn G num h) (m:b∈mv G h):¬zM num b:=λw=>by
 obtain⟨p',u,y,q',rfl,hy,rfl⟩:=(jV G).mp m
 cases eu:num u with
 | some n=>
   have pos:0 < ends num (p'++u::q'):=by
     rcases d with ⟨p,x,q,e,ex,_⟩ | two
     . exact Zl.mpr ⟨p,x,q,e,ex⟩
     . omega
   rw[jB eu]at pos
   have w1:=w.1
   cases ey:num y with
   | none=>rw[jU ey]at w1;omega
   | some k=>rw[jB ey]at w1;omega
 | none=>
   have w1:=w.1
   cases ey:num y with
   | none=>rw[jU ey]at w1;omega
   | some k=>
     rw[jB ey]at w1
     rcases d with ⟨p,x,q,e,ex,he,no⟩ | two
     . have hu:u∈p++x::q:=by rw[<-e];simp
       have ux:u=x:=Classical.byContradiction λne=>by
         have:u∈p++q:=by
           rcases t9.mp hu with h | h
           . exact zaI _ h
           . rcases tV.mp h with h | h
             . exact absurd h ne
             . exact zan _ h
         obtain⟨a,b,e2⟩:=zch this
         have:=Zl.mpr ⟨a,u,b,e2,eu⟩
         omega
       subst ux
       have en:j6 num (p'++q')=j6 num (p++q):=by rw[<-Xd (p:=p') (q:=q') eu,e,Xd eu]
       have w2:=w.2
       rw[Qf ey,en]at w2
       have:k=j4 (j6 num (p++q)):=ZT (c:=j4 (j6 num (p++q))) (by rw[w2,zbD])
       exact no y hy (by rw[ey,this])
     . rw[jU eu]at two
       omega
theorem kind (L:zj G ok num stp) {h:List α} (hk:∀x∈h,ok x):zM num h\/Drawn G num h\/∃b∈mv G h,zM num b/\∀x∈b,ok x:=by
 rcases zaX (ends num h) 1 with c | c | c
 . have he:ends num h=0:=by omega
   by_cases hx:j4 (j6 num h)=0
   . exact .inl ⟨he,hx⟩
   . obtain⟨p,x,y,q,e,hy,⟨n,k,en,ek⟩,x0,_⟩:=WU L hk (zdG hx)
     refine .inr (.inr ⟨p++y::q,(jV G).mpr ⟨p,x,y,q,e,hy,rfl⟩,⟨?_,x0⟩,ZL L hk e hy⟩)
     rw[e,jB en]at he
     rw[jB ek]
     exact he
 . obtain⟨p,x,q,rfl,ex⟩:=Zl.mp (by omega:0 < ends num h)
   rw[jU ex]at c
   have he:ends num (p++q)=0:=by omega
   by_cases d:∃y∈G x,num y=some (j4 (j6 num (p++q)))
   . obtain⟨y,hy,ey⟩:=d
     exact .inr (.inr ⟨p++y::q,(jV G).mpr ⟨p,x,y,q,rfl,hy,rfl⟩,⟨by rw[jB ey];exact he,by rw[Qf ey,zbD]⟩,ZL L hk rfl hy⟩)
   . exact .inr (.inl (.inl ⟨p,x,q,rfl,ex,he,λy hy e=>d ⟨y,hy,e⟩⟩))
 . exact .inr (.inl (.inr (by omega)))
mutual
theorem kX (L:zj G ok num stp) {h:List α} (hk:∀x∈h,ok x):J3 (mv G) h->zM num h
 | .mk w=>by
   rcases kind L hk with z | d | ⟨b,hb,z,kb⟩
   . exact z
   . obtain⟨b,hb,d'⟩:=Kq L hk d
     have kb:∀x∈b,ok x:=by
       obtain⟨p,x,y,q,e,hy,rfl⟩:=(jV G).mp hb
       exact ZL L hk e hy
     exact absurd d' (won_is L kb (w b hb)).1
   . exact absurd z (won_is L kb (w b hb)).2
theorem won_is (L:zj G ok num stp) {h:List α} (hk:∀x∈h,ok x):Won (mv G) h->¬Drawn G num h/\¬zM num h
 | .mk (b:=b) m l=>by
   have kb:∀x∈b,ok x:=by
     obtain⟨p,x,y,q,e,hy,rfl⟩:=(jV G).mp m
     exact ZL L hk e hy
   have z:=kX L kb l
   exact⟨λd=>XC d m z,λz'=>yx L hk z' m z⟩
end
theorem Xi (L:zj G ok num stp) {h:List α} (hk:∀x∈h,ok x):J3 (mv G) h↔zM num h:=⟨kX L hk,λz=>xl L _ (tq _) hk z.1 z.2⟩
theorem KI (L:zj G ok num stp) {h:List α} (hk:∀x∈h,ok x):Won (mv G) h↔¬Drawn G num h/\¬zM num h:=⟨won_is L hk,λ⟨d,z⟩=>by
 rcases kind L hk with z' | d' | ⟨b,hb,z',kb⟩
 . exact absurd z' z
 . exact absurd d' d
 . exact .mk hb ((Xi L kb).mpr z')⟩
end
section
variable {α:Type} [DecidableEq α] (G:α->List α) (N:List α)
abbrev Rs (α:Type):=List (Nat×List α)
def qC (rs:Rs α) (z:α):Option Nat:=(rs.find? λr=>decide (z∈r.2)).map (·.1)
def Zr (rs:Rs α) (z:α):Nat:=rs.findIdx λr=>decide (z∈r.2)
def zk (f:α->Option Nat) (x:α) (n:Nat):Prop:=(∀j,j < n->∃y∈G x,f y=some j)/\(∀y∈G x,f y≠some n)/\∀y∈G x,f y=none->∃z∈G y,f z=some n
structure UN (rs:Rs α) (n:Nat) (ns:List α):Prop where
 iff:∀x,x∈ns↔x∈N/\qC rs x=none/\zk G (qC rs) x n
 sub:ns.Sublist N
inductive Qo (n:Nat):Rs α->Rs α->Prop
 | stop {rs:Rs α} (h:UN G N rs n []):Qo n rs rs
 | more {rs rs':Rs α} {ns:List α} (h:UN G N rs n ns) (ne:ns≠[]) (k:Qo n (rs++[(n,ns)]) rs'):Qo n rs rs'
inductive All:Nat->Rs α->Rs α->Prop
 | stop {n:Nat} {rs:Rs α} (h:UN G N rs n []):All n rs rs
 | more {n:Nat} {rs rs' rs'':Rs α} (h:Qo G N n rs rs') (ne:rs'≠rs) (k:All (n+1) rs' rs''):All n rs rs''
variable {G N}
theorem Jz {rs:Rs α} {n:Nat} {ns:List α} {z:α}:qC (rs++[(n,ns)]) z=match qC rs z with | some m=>some m | none=>if z∈ns then some n else none:=by
 unfold qC
 rw[List.find?_append]
 cases e:rs.find? (λr=>decide (z∈r.2)) with
 | some r=>rfl
 | none=>
   by_cases c:z∈ns
   . simp [c]
   . simp [c]
theorem Yu {rs:Rs α} {z:α}:qC rs z=none↔∀r∈rs,z∉r.2:=by
 unfold qC
 rw[Option.map_eq_none_iff,List.find?_eq_none]
 simp
theorem j9 {rs:Rs α} {n m:Nat} {ns:List α} {z:α} (h:qC rs z=some m):Zr (rs++[(n,ns)]) z=Zr rs z/\Zr rs z < rs.length:=by
 have ex:∃r∈rs,z∈r.2:=Classical.byContradiction λno=>by
   have:=Yu.mpr λr hr hz=>no ⟨r,hr,hz⟩
   rw[h]at this
   cases this
 obtain⟨r,hr,hz⟩:=ex
 have lt:Zr rs z < rs.length:=List.findIdx_lt_length_of_exists ⟨r,hr,decide_eq_true hz⟩
 refine⟨?_,lt⟩
 unfold Zr at lt ⊢
 rw[zdC,if_pos lt]
theorem Go {rs:Rs α} {n:Nat} {ns:List α} {z:α} (h:qC rs z=none) (hz:z∈ns):Zr (rs++[(n,ns)]) z=rs.length:=by
 have e:Zr rs z=rs.length:=by
   unfold Zr
   rw[List.findIdx_eq_length]
   intro r hr
   exact decide_eq_false (Yu.mp h r hr)
 unfold Zr at e ⊢
 rw[zdC,if_neg (by rw[e];exact zat _)]
 simp [hz,List.findIdx_cons]
variable (G N) in
structure xR (rs:Rs α) (n:Nat):Prop where
 inN:∀{x m},qC rs x=some m->x∈N
 le:∀{x m},qC rs x=some m->m<=n
 n1:∀{x k m},qC rs x=some k->m < k->∃y∈G x,qC rs y=some m/\Zr rs y < Zr rs x
 n2:∀{x y k},qC rs x=some k->y∈G x->qC rs y≠some k
 n3:∀{x y k},qC rs x=some k->y∈G x->(∀m,qC rs y=some m->k < m)->∃z∈G y,qC rs z=some k/\Zr rs z < Zr rs x
 n4:∀{x y k m},qC rs x=some k->y∈G x->qC rs y=some m->m < k->Zr rs y < Zr rs x
theorem QL {rs:Rs α} {n m:Nat} {ns:List α} {z:α} (h:qC rs z=some m):qC (rs++[(n,ns)]) z=some m:=by rw[Jz,h]
theorem yf {rs:Rs α} {n:Nat} {ns:List α} {z:α} (h:qC rs z=none) (hz:z∈ns):qC (rs++[(n,ns)]) z=some n:=by
 rw[Jz,h]
 exact if_pos hz
theorem qV {rs:Rs α} {n m:Nat} {ns:List α} {z:α} (h:qC (rs++[(n,ns)]) z=some m):(qC rs z=some m/\Zr (rs++[(n,ns)]) z=Zr rs z/\Zr rs z < rs.length)\/(qC rs z=none/\z∈ns/\m=n/\Zr (rs++[(n,ns)]) z=rs.length):=by
 cases e:qC rs z with
 | some k=>
   rw[QL e]at h
   cases h
   exact .inl ⟨rfl,j9 e⟩
 | none=>
   rw[Jz,e]at h
   by_cases c:z∈ns
   . have h:(if z∈ns then some n else none)=some m:=h
     rw[if_pos c]at h
     cases h
     exact .inr ⟨rfl,c,rfl,Go e c⟩
   . have h:(if z∈ns then some n else none)=some m:=h
     rw[if_neg c]at h
     cases h
theorem vw {rs:Rs α} {n:Nat} {ns:List α} {z:α} (h:qC (rs++[(n,ns)]) z=none):qC rs z=none:=by
 cases e:qC rs z with
 | none=>rfl
 | some k=>rw[QL e]at h;cases h
theorem xR.more {rs:Rs α} {n:Nat} {ns:List α} (v:xR G N rs n) (r:UN G N rs n ns):xR G N (rs++[(n,ns)]) n:=by
 refine⟨λ{x m} h=>?_,λ{x m} h=>?_,λ{x k m} h lt=>?_,λ{x y k} h hy e=>?_,λ{x y k} h hy gt=>?_,λ{x y k m} h hy ey lt=>?_⟩
 . rcases qV h with ⟨h,_⟩ | ⟨_,h,_⟩
   . exact v.inN h
   . exact((r.iff x).mp h).1
 . rcases qV h with ⟨h,_⟩ | ⟨_,_,rfl,_⟩
   . exact v.le h
   . exact tq _
 . rcases qV h with ⟨h,es,_⟩ | ⟨h,hx,rfl,es⟩
   . obtain⟨y,hy,ey,ly⟩:=v.n1 h lt
     exact⟨y,hy,QL ey,by rw[es,(j9 ey).1];exact ly⟩
   . obtain⟨y,hy,ey⟩:=((r.iff x).mp hx).2.2.1 m lt
     exact⟨y,hy,QL ey,by rw[es,(j9 (n:=k) (ns:=ns) ey).1];exact(j9 (n:=k) (ns:=ns) ey).2⟩
 . rcases qV h with ⟨h,_⟩ | ⟨h,hx,rfl,_⟩
   . rcases qV e with ⟨e,_⟩ | ⟨e1,hy',e2,_⟩
     . exact v.n2 h hy e
     . obtain⟨z,hz,ez,_⟩:=v.n3 h hy (λm q=>by rw[e1]at q;cases q)
       rw[e2]at ez
       exact((r.iff y).mp hy').2.2.2.1 z hz ez
   . have g:=((r.iff x).mp hx).2.2
     rcases qV e with ⟨e,_⟩ | ⟨e,hy',_,_⟩
     . exact g.2.1 y hy e
     . obtain⟨z,hz,ez⟩:=g.2.2 y hy e
       exact((r.iff y).mp hy').2.2.2.1 z hz ez
 . rcases qV h with ⟨h,es,_⟩ | ⟨h,hx,rfl,es⟩
   . obtain⟨z,hz,ez,lz⟩:=v.n3 h hy (λm q=>gt m (QL q))
     exact⟨z,hz,QL ez,by rw[es,(j9 ez).1];exact lz⟩
   . have bare:qC rs y=none:=by
       cases e:qC rs y with
       | none=>rfl
       | some m=>
         have:=gt m (QL e)
         have:=v.le e
         omega
     obtain⟨z,hz,ez⟩:=((r.iff x).mp hx).2.2.2.2 y hy bare
     exact⟨z,hz,QL ez,by rw[es,(j9 (n:=k) (ns:=ns) ez).1];exact(j9 (n:=k) (ns:=ns) ez).2⟩
 . rcases qV h with ⟨h,es,_⟩ | ⟨h,hx,rfl,es⟩
   . rcases qV ey with ⟨ey,es',_⟩ | ⟨_,_,em,_⟩
     . rw[es,es']
       exact v.n4 h hy ey lt
     . have:=v.le h
       omega
   . rcases qV ey with ⟨ey,es',l'⟩ | ⟨_,_,rfl,_⟩
     . rw[es,es']
       exact l'
     . omega
variable (G N) in
def EP (rs:Rs α) (m:Nat):Prop:=∀x∈N,qC rs x=none->(∀j,j < m->∃y∈G x,qC rs y=some j)->(∀y∈G x,qC rs y≠some m)->∃y∈G x,qC rs y=none/\∀z∈G y,qC rs z≠some m
theorem vz {rs:Rs α} {n:Nat} (r:UN G N rs n []):EP G N rs n:=λx hx e lo hi=>Classical.byContradiction λno=>by
 refine absurd ((r.iff x).mpr ⟨hx,e,lo,hi,λy hy ey=>Classical.byContradiction λq=>no ⟨y,hy,ey,λz hz ez=>q ⟨z,hz,ez⟩⟩⟩) (by simp)
theorem RX {rs:Rs α} {n m:Nat} {ns:List α} (v:xR G N rs n) (r:UN G N rs n ns) (lt:m < n) (h:EP G N rs m):EP G N (rs++[(n,ns)]) m:=λx hx e lo hi=>by
 have old:∀{z j},j<=m->qC (rs++[(n,ns)]) z=some j->qC rs z=some j:=λ{z j} hj ez=>by
   rcases qV ez with ⟨ez,_⟩ | ⟨_,_,rfl,_⟩
   . exact ez
   . omega
 obtain⟨y,hy,ey,ly⟩:=h x hx (vw e) (λj hj=>let ⟨y,hy,ey⟩:=lo j hj;⟨y,hy,old (by omega) ey⟩) (λy hy ey=>hi y hy (QL ey))
 refine⟨y,hy,?_,λz hz ez=>ly z hz (old (tq _) ez)⟩
 cases q:qC (rs++[(n,ns)]) y with
 | none=>rfl
 | some k=>
   rcases qV q with ⟨q,_⟩ | ⟨_,hy',rfl,_⟩
   . rw[ey]at q;cases q
   . obtain⟨z,hz,ez⟩:=((r.iff y).mp hy').2.2.1 m lt
     exact absurd ez (ly z hz)
theorem RK {n:Nat} {rs rs':Rs α} (g:Qo G N n rs rs'):xR G N rs n->(∀m,m < n->EP G N rs m)->xR G N rs' n/\∀m,m<=n->EP G N rs' m:=by
 induction g with
 | stop r=>exact λv h=>⟨v,λm hm=>by
     rcases zbE m n with c | c
     . exact h m c
     . have:m=n:=by omega
       subst this
       exact vz r⟩
 | more r ne k ih=>exact λv h=>ih (v.more r) λm hm=>RX v r hm (h m hm)
theorem MS (cl:∀x∈N,∀y∈G x,y∈N) {n:Nat} {rs rs':Rs α} (a:All G N n rs rs'):xR G N rs n->(∀x m,qC rs x=some m->m < n)->(∀m,m < n->EP G N rs m)->zj G (·∈N) (qC rs') (Zr rs'):=by
 induction a with
 | @stop n rs r=>
   intro v lt h
   refine⟨λ{x y} hx hy=>cl x hx y hy,λ{x n m} _=>v.n1,λ{x y n} _=>v.n2,λ{x y n} _=>v.n3,λ{x y n m} _=>v.n4,λ{x m} hx e lo hi=>?_⟩
   rcases zaX m n with c | rfl | c
   . exact h m c x hx e lo hi
   . exact vz r x hx e lo hi
   . obtain⟨y,_,ey⟩:=lo n c
     have:=lt y n ey
     omega
 | @more n rs rs1 rs2 g ne k ih=>
   intro v lt h
   obtain⟨v',h'⟩:=RK g v h
   exact ih ⟨v'.inN,λ{x m} e=>Nat.le_succ_of_le (v'.le e),v'.n1,v'.n2,v'.n3,v'.n4⟩ (λx m e=>Nat.lt_succ_of_le (v'.le e)) λm hm=>h' m (by omega)
theorem vN (n:Nat):xR G N ([]:Rs α) n:=⟨λh=>(nomatch h),λh=>(nomatch h),λh=>(nomatch h),λh=>(nomatch h),λh=>(nomatch h),λh=>(nomatch h)⟩
theorem xo (cl:∀x∈N,∀y∈G x,y∈N) {rs:Rs α} (a:All G N 0 [] rs):zj G (·∈N) (qC rs) (Zr rs):=MS cl a (vN 0) (λx m h=>(nomatch h)) λm h=>absurd h (zbN m)
end
section
variable {α:Type} (G:α->List α)
def mvs (b:α×Nat):List (α×Nat):=(G b.1).map (λy=>(y,b.2))++(tM b.2).map λk=>(b.1,k)
def gS:α ⊕ Nat->List (α ⊕ Nat)
 | .inl z=>(G z).map .inl
 | .inr h=>(tM h).map .inr
def XV (num:α->Option Nat):α ⊕ Nat->Option Nat
 | .inl z=>num z
 | .inr h=>some h
def qbE (stp:α->Nat):α ⊕ Nat->Nat
 | .inl z=>stp z
 | .inr h=>h
def okS (ok:α->Prop):α ⊕ Nat->Prop
 | .inl z=>ok z
 | .inr _=>True
variable {G} {ok:α->Prop} {num:α->Option Nat} {stp:α->Nat}
theorem qb4 (L:zj G ok num stp):zj (gS G) (okS ok) (XV num) (qbE stp) where
 cl:=λ{x y} hx hy=>by
   cases x with
   | inl z=>
     obtain⟨y',hy',rfl⟩:=tE.mp hy
     exact L.cl hx hy'
   | inr h=>
     obtain⟨k,_,rfl⟩:=tE.mp hy
     trivial
 n1:=λ{x n m} hx e lt=>by
   cases x with
   | inl z=>
     obtain⟨y,hy,ey,ly⟩:=L.n1 hx e lt
     exact⟨.inl y,tE.mpr ⟨y,hy,rfl⟩,ey,ly⟩
   | inr h=>
     obtain rfl:h=n:=tL.inj e
     exact⟨.inr m,tE.mpr ⟨m,zap.mpr lt,rfl⟩,rfl,lt⟩
 n2:=λ{x y n} hx e hy=>by
   cases x with
   | inl z=>
     obtain⟨y',hy',rfl⟩:=tE.mp hy
     exact L.n2 hx e hy'
   | inr h=>
     obtain⟨k,hk,rfl⟩:=tE.mp hy
     obtain rfl:h=n:=tL.inj e
     intro q
     have:k=h:=tL.inj q
     have:=zap.mp hk
     omega
 n3:=λ{x y n} hx e hy gt=>by
   cases x with
   | inl z=>
     obtain⟨y',hy',rfl⟩:=tE.mp hy
     obtain⟨u,hu,eu,lu⟩:=L.n3 hx e hy' gt
     exact⟨.inl u,tE.mpr ⟨u,hu,rfl⟩,eu,lu⟩
   | inr h=>
     obtain⟨k,hk,rfl⟩:=tE.mp hy
     obtain rfl:h=n:=tL.inj e
     have:=gt k rfl
     have:=zap.mp hk
     omega
 n4:=λ{x y n m} hx e hy ey lt=>by
   cases x with
   | inl z=>
     obtain⟨y',hy',rfl⟩:=tE.mp hy
     exact L.n4 hx e hy' ey lt
   | inr h=>
     obtain⟨k,hk,rfl⟩:=tE.mp hy
     exact zap.mp hk
 e:=λ{x m} hx e lo hi=>by
   cases x with
   | inl z=>
     obtain⟨y,hy,ey,ly⟩:=L.e hx e (λj hj=>by
       obtain⟨y,hy,ey⟩:=lo j hj
       obtain⟨y',hy',rfl⟩:=tE.mp hy
       exact⟨y',hy',ey⟩) (λy hy=>hi (.inl y) (tE.mpr ⟨y,hy,rfl⟩))
     refine⟨.inl y,tE.mpr ⟨y,hy,rfl⟩,ey,λu hu=>?_⟩
     obtain⟨u',hu',rfl⟩:=tE.mp hu
     exact ly u' hu'
   | inr h=>cases e
def two (b:α×Nat):List (α ⊕ Nat):=[.inl b.1,.inr b.2]
theorem WS {b:α×Nat} {c:List (α ⊕ Nat)}:c∈mv (gS G) (two b)↔∃b'∈mvs G b,c=two b':=by
 unfold two mvs
 rw[jV]
 constructor
 . rintro⟨p,x,y,q,e,hy,rfl⟩
   cases p with
   | nil=>
     cases e
     obtain⟨y',hy',rfl⟩:=tE.mp hy
     exact⟨(y',b.2),zaI _ (tE.mpr ⟨y',hy',rfl⟩),rfl⟩
   | cons u p=>
     cases p with
     | nil=>
       cases e
       obtain⟨k,hk,rfl⟩:=tE.mp hy
       exact⟨(b.1,k),zan _ (tE.mpr ⟨k,hk,rfl⟩),rfl⟩
     | cons v p=>cases p<;>cases e
 . rintro⟨b',hb,rfl⟩
   rcases t9.mp hb with hb | hb
   . obtain⟨y,hy,rfl⟩:=tE.mp hb
     exact⟨[],.inl b.1,.inl y,[.inr b.2],rfl,tE.mpr ⟨y,hy,rfl⟩,rfl⟩
   . obtain⟨k,hk,rfl⟩:=tE.mp hb
     exact⟨[.inl b.1],.inr b.2,.inr k,[],rfl,tE.mpr ⟨k,hk,rfl⟩,rfl⟩
mutual
theorem Us {b:α×Nat}:J3 (mvs G) b->J3 (mv (gS G)) (two b)
 | .mk w=>.mk λc hc=>by
   obtain⟨b',hb,rfl⟩:=WS.mp hc
   exact won_two (w b' hb)
theorem won_two {b:α×Nat}:Won (mvs G) b->Won (mv (gS G)) (two b)
 | .mk (b:=b') m l=>.mk (WS.mpr ⟨b',m,rfl⟩) (Us l)
end
mutual
theorem VR {c:List (α ⊕ Nat)}:J3 (mv (gS G)) c->∀b:α×Nat,c=two b->J3 (mvs G) b
 | .mk w=>λb e=>.mk λb' hb=>two_won (w (two b') (by rw[e];exact WS.mpr ⟨b',hb,rfl⟩)) b' rfl
theorem two_won {c:List (α ⊕ Nat)}:Won (mv (gS G)) c->∀b:α×Nat,c=two b->Won (mvs G) b
 | .mk m l=>λb e=>by
   rw[e]at m
   obtain⟨b',hb,e'⟩:=WS.mp m
   exact .mk hb (VR l b' e')
end
theorem zV (L:zj G ok num stp) {z:α} {h:Nat} (hz:ok z):J3 (mvs G) (z,h)↔num z=some h:=by
 have hk:∀x∈two (z,h),okS ok x:=λx hx=>by
   unfold two at hx
   rcases tV.mp hx with rfl | hx
   . exact hz
   . rw[tX.mp hx];trivial
 have h1:J3 (mvs G) (z,h)↔J3 (mv (gS G)) (two (z,h)):=⟨Us,λl=>VR l _ rfl⟩
 rw[h1,Xi (qb4 L) hk]
 unfold zM two ends j6
 cases e:num z with
 | none=>simp [XV,e]
 | some n=>
   simp only[zaR,zaf,XV,e]
   show (0=0/\n^^^ (h^^^0)=0)↔_
   rw[zcI]
   constructor
   . rintro⟨_,x⟩
     have:n=h:=ZT (c:=h) (by rw[x,zbD])
     rw[this]
   . intro q
     cases q
     exact⟨rfl,zbD _⟩
end
section
variable {β:Type} {M:β->List β}
end
section
variable {α:Type} [DecidableEq α] {G:α->List α} {N:List α}
theorem Yi:∀{l m:List α},l.Sublist m->m.Nodup->l=m.filter λx=>decide (x∈l)
 | _,_,.slnil,_=>rfl
 | l,a::m,.cons _ h,nd=>by
   rw[zaA]at nd
   have na:a∉l:=λz=>nd.1 (h.subset z)
   rw[zaR,if_neg (by simpa using na)]
   exact Yi h nd.2
 | a::l,_::m,.cons₂ _ h,nd=>by
   rw[zaA]at nd
   rw[zaR,if_pos (by simp)]
   congr 1
   have e:=Yi h nd.2
   refine e.trans (zbT λx hx=>?_)
   have ne:x≠a:=λz=>nd.1 (z▸hx)
   simp [ne]
theorem UN.uniq (nd:N.Nodup) {rs:Rs α} {n:Nat} {ns ms:List α} (a:UN G N rs n ns) (b:UN G N rs n ms):ns=ms:=by
 rw[Yi a.sub nd,Yi b.sub nd]
 exact zbT λx _=>decide_eq_decide.mpr ((a.iff x).trans (b.iff x).symm)
theorem Qo.uniq (nd:N.Nodup) {n:Nat} {rs a b:Rs α} (h:Qo G N n rs a):Qo G N n rs b->a=b:=by
 induction h with
 | stop r=>
   intro k
   cases k with
   | stop _=>rfl
   | more r' ne _=>exact absurd (r'.uniq nd r) ne
 | more r ne k ih=>
   intro k'
   cases k' with
   | stop r'=>exact absurd (r.uniq nd r') ne
   | more r' _ k2=>
     have:=r.uniq nd r'
     subst this
     exact ih k2
theorem Qo.same {n:Nat} {rs:Rs α} (h:Qo G N n rs rs):UN G N rs n []:=by
 have len:∀{rs a:Rs α},Qo G N n rs a->rs.length<=a.length:=λ{rs a} h=>by
   induction h with
   | stop _=>exact tq _
   | more r ne k ih=>
     rw[tI]at ih
     omega
 generalize e:rs=a at h
 have e':rs=a:=e
 cases h with
 | stop r=>exact r
 | more r ne k=>
   have:=len k
   rw[tI,zaL]at this
   omega
theorem All.uniq (nd:N.Nodup) {n:Nat} {rs a b:Rs α} (h:All G N n rs a):All G N n rs b->a=b:=by
 induction h with
 | stop r=>
   intro k
   cases k with
   | stop _=>rfl
   | more g ne _=>
     have:=g.uniq nd (Qo.stop r)
     exact absurd this ne
 | more g ne k ih=>
   intro k'
   cases k' with
   | stop r'=>exact absurd (g.uniq nd (Qo.stop r')) ne
   | more g' _ k2=>
     have:=g.uniq nd g'
     subst this
     exact ih k2
variable (G N) in
inductive Yg:Nat->Rs α->Prop
 | nil:Yg 0 []
 | more {n:Nat} {rs rs':Rs α} (h:Yg n rs) (g:Qo G N n rs rs'):Yg (n+1) rs'
theorem RL {n m:Nat} {rs rs':Rs α} (g:Qo G N n rs rs') (h:∀r∈rs,r.1 < m) (lt:n < m):∀r∈rs',r.1 < m:=by
 induction g with
 | stop _=>exact h
 | more r ne k ih=>
   exact ih λx hx=>by
     rcases t9.mp hx with hx | hx
     . exact h x hx
     . rw[tX.mp hx];exact lt
theorem Yg.lt {n:Nat} {rs:Rs α} (u:Yg G N n rs):∀r∈rs,r.1 < n:=by
 induction u with
 | nil=>intro r h;cases h
 | more h g ih=>exact RL g (λr hr=>zbS (ih r hr)) (zaM _)
theorem MK {n m:Nat} {rs:Rs α} (h:∀r∈rs,r.1 < n) {x:α} (e:qC rs x=some m):m < n:=by
 unfold qC at e
 obtain⟨r,hr,e2⟩:=zbK.mp e
 rw[<-e2]
 exact h r (zca hr)
theorem Wp {n m:Nat} {rs rs':Rs α} (h:∀r∈rs,r.1 < n) (lt:n < m) (g:Qo G N m rs rs'):rs'=rs:=by
 cases g with
 | stop _=>rfl
 | more r ne k=>
   exfalso
   rename_i ns
   obtain⟨x,t,e⟩:=zbB ne
   have hx:=((r.iff x).mp (by rw[e];exact zab)).2.2
   obtain⟨y,_,ey⟩:=hx.1 n lt
   exact absurd (MK h ey) (zat _)
theorem Yg.all {M:Nat} {R:Rs α} (u:Yg G N M R) (small:∀r∈R,r.1 < M - 1) (pos:0 < M):All G N 0 [] R:=by
 have key:∀{n:Nat} {rs:Rs α},Yg G N n rs->∀{R':Rs α},All G N n rs R'->All G N 0 [] R':=λ{n rs} u=>by
   induction u with
   | nil=>exact λh=>h
   | @more n rs rs' h g ih=>
     intro R' a
     by_cases e:rs'=rs
     . subst e
       have r0:UN G N rs' n []:=Qo.same g
       have:R'=rs':=by
         cases a with
         | stop _=>rfl
         | more g2 ne _=>exact absurd (Wp h.lt (zaM _) g2) ne
       subst this
       exact ih (.stop r0)
     . exact ih (.more g e a)
 cases u with
 | nil=>exact absurd pos (zat _)
 | @more n rs _ h g=>
   have hs:∀r∈R,r.1 < n:=λr hr=>by have:=small r hr;omega
   have e:R=rs:=by
     cases g with
     | stop _=>rfl
     | more r ne k=>
       exfalso
       rename_i ns
       have sub:∀{a b:Rs α},Qo G N n a b->∀r∈a,r∈b:=λ{a b} h=>by
         induction h with
         | stop _=>exact λr h=>h
         | more _ _ _ ih=>exact λr h=>ih r (zaI _ h)
       have:=hs (n,ns) (sub k _ (by simp))
       exact absurd this (zat _)
   subst e
   exact key h (.stop (Qo.same g))
theorem Wz {n:Nat} {rs rs':Rs α} (g:Qo G N n rs rs') {x:α} {m:Nat} (e:qC rs x=some m):qC rs' x=some m:=by
 induction g with
 | stop _=>exact e
 | more _ _ _ ih=>exact ih (QL e)
theorem Kg {n:Nat} {rs rs':Rs α} (g:Qo G N n rs rs') (ne:rs'≠rs):∃x∈N,qC rs' x=some n:=by
 cases g with
 | stop _=>exact absurd rfl ne
 | more r ne' k=>
   rename_i ns
   obtain⟨x,t,e⟩:=zbB ne'
   have hx:x∈ns:=by rw[e];exact zab
   have h:=(r.iff x).mp hx
   exact⟨x,h.1,Wz k (yf h.2.1 hx)⟩
theorem Yg.run {n:Nat} {rs:Rs α} (u:Yg G N n rs):(All G N 0 [] rs/\∃m,m < n/\∀r∈rs,r.1 < m)\/((∀j,j < n->∃x∈N,qC rs x=some j)/\∀R',All G N n rs R'->All G N 0 [] R'):=by
 induction u with
 | nil=>exact .inr ⟨λj h=>absurd h (zbN j),λR' h=>h⟩
 | @more n rs rs' h g ih=>
   rcases ih with ⟨a,m,hm,lt⟩ | ⟨al,k⟩
   . have e:=Wp lt hm g
     subst e
     exact .inl ⟨a,m,by omega,lt⟩
   . by_cases e:rs'=rs
     . subst e
       exact .inl ⟨k _ (.stop (Qo.same g)),n,zaM _,h.lt⟩
     . refine .inr ⟨λj hj=>?_,λR' a=>k R' (.more g e a)⟩
       rcases zbE j n with c | c
       . obtain⟨x,hx,ex⟩:=al j c
         exact⟨x,hx,Wz g ex⟩
       . have:j=n:=by omega
         subst this
         exact Kg g e
theorem Mq {l m:List α}:l.Nodup->(∀z∈l,z∈m)->l.length<=m.length:=by
 induction l generalizing m with
 | nil=>exact λ_ _=>zal _
 | cons a l ih=>
   intro hn h
   rw[zaA]at hn
   have ha:=h a zab
   have:=ih (m:=m.erase a) hn.2 λz hz=>(zbW (λ(e:z=a)=>hn.1 (e▸hz))).mpr (h z (tY _ hz))
   rw[zcd ha]at this
   have:=zbM ha
   rw[zao]
   omega
theorem Yg.whole {M:Nat} {R:Rs α} (u:Yg G N M R) (len:N.length < M):All G N 0 [] R:=by
 rcases u.run with ⟨a,_⟩ | ⟨al,_⟩
 . exact a
 . exfalso
   have:=Mq (l:=tM M) (m:=N.filterMap (qC R)) zbJ λj hj=>by
     obtain⟨x,hx,ex⟩:=al j (zap.mp hj)
     exact zaB.mpr ⟨x,hx,ex⟩
   rw[zag]at this
   have:=zaw (qC R) N
   omega
end
section
variable {α:Type} [DecidableEq α] {G:α->List α} {N:List α}
variable (G N) in
def SR (rs:Rs α) (n:Nat) (ns:List α):Prop:=∀x∈ns,x∈N/\qC rs x=none/\zk G (qC rs) x n
theorem xR.one {rs:Rs α} {n:Nat} {ns:List α} (v:xR G N rs n) (r:SR G N rs n ns):xR G N (rs++[(n,ns)]) n:=by
 refine⟨λ{x m} h=>?_,λ{x m} h=>?_,λ{x k m} h lt=>?_,λ{x y k} h hy e=>?_,λ{x y k} h hy gt=>?_,λ{x y k m} h hy ey lt=>?_⟩
 . rcases qV h with ⟨h,_⟩ | ⟨_,h,_⟩
   . exact v.inN h
   . exact(r x h).1
 . rcases qV h with ⟨h,_⟩ | ⟨_,_,rfl,_⟩
   . exact v.le h
   . exact tq _
 . rcases qV h with ⟨h,es,_⟩ | ⟨h,hx,rfl,es⟩
   . obtain⟨y,hy,ey,ly⟩:=v.n1 h lt
     exact⟨y,hy,QL ey,by rw[es,(j9 ey).1];exact ly⟩
   . obtain⟨y,hy,ey⟩:=(r x hx).2.2.1 m lt
     exact⟨y,hy,QL ey,by rw[es,(j9 (n:=k) (ns:=ns) ey).1];exact(j9 (n:=k) (ns:=ns) ey).2⟩
 . rcases qV h with ⟨h,_⟩ | ⟨h,hx,rfl,_⟩
   . rcases qV e with ⟨e,_⟩ | ⟨e1,hy',e2,_⟩
     . exact v.n2 h hy e
     . obtain⟨z,hz,ez,_⟩:=v.n3 h hy (λm q=>by rw[e1]at q;cases q)
       rw[e2]at ez
       exact(r y hy').2.2.2.1 z hz ez
   . have g:=(r x hx).2.2
     rcases qV e with ⟨e,_⟩ | ⟨e,hy',_,_⟩
     . exact g.2.1 y hy e
     . obtain⟨z,hz,ez⟩:=g.2.2 y hy e
       exact(r y hy').2.2.2.1 z hz ez
 . rcases qV h with ⟨h,es,_⟩ | ⟨h,hx,rfl,es⟩
   . obtain⟨z,hz,ez,lz⟩:=v.n3 h hy (λm q=>gt m (QL q))
     exact⟨z,hz,QL ez,by rw[es,(j9 ez).1];exact lz⟩
   . have bare:qC rs y=none:=by
       cases e:qC rs y with
       | none=>rfl
       | some m=>
         have:=gt m (QL e)
         have:=v.le e
         omega
     obtain⟨z,hz,ez⟩:=(r x hx).2.2.2.2 y hy bare
     exact⟨z,hz,QL ez,by rw[es,(j9 (n:=k) (ns:=ns) ez).1];exact(j9 (n:=k) (ns:=ns) ez).2⟩
 . rcases qV h with ⟨h,es,_⟩ | ⟨h,hx,rfl,es⟩
   . rcases qV ey with ⟨ey,es',_⟩ | ⟨_,_,em,_⟩
     . rw[es,es']
       exact v.n4 h hy ey lt
     . have:=v.le h
       omega
   . rcases qV ey with ⟨ey,es',l'⟩ | ⟨_,_,rfl,_⟩
     . rw[es,es']
       exact l'
     . omega
theorem MN {rs:Rs α} {n m:Nat} {ns:List α} (v:xR G N rs n) (r:SR G N rs n ns) (lt:m < n) (h:EP G N rs m):EP G N (rs++[(n,ns)]) m:=λx hx e lo hi=>by
 have old:∀{z j},j<=m->qC (rs++[(n,ns)]) z=some j->qC rs z=some j:=λ{z j} hj ez=>by
   rcases qV ez with ⟨ez,_⟩ | ⟨_,_,rfl,_⟩
   . exact ez
   . omega
 obtain⟨y,hy,ey,ly⟩:=h x hx (vw e) (λj hj=>let ⟨y,hy,ey⟩:=lo j hj;⟨y,hy,old (by omega) ey⟩) (λy hy ey=>hi y hy (QL ey))
 refine⟨y,hy,?_,λz hz ez=>ly z hz (old (tq _) ez)⟩
 cases q:qC (rs++[(n,ns)]) y with
 | none=>rfl
 | some k=>
   rcases qV q with ⟨q,_⟩ | ⟨_,hy',rfl,_⟩
   . rw[ey]at q;cases q
   . obtain⟨z,hz,ez⟩:=(r y hy').2.2.1 m lt
     exact absurd ez (ly z hz)
variable (G N) in
structure Pt (rs:Rs α) (n:Nat):Prop where
 val:xR G N rs n
 ep:∀m,m < n->EP G N rs m
theorem Pt.nil:Pt G N ([]:Rs α) 0:=⟨vN 0,λm h=>absurd h (zbN m)⟩
theorem Pt.one {rs:Rs α} {n:Nat} {ns:List α} (p:Pt G N rs n) (r:SR G N rs n ns):Pt G N (rs++[(n,ns)]) n:=⟨p.val.one r,λm h=>MN p.val r h (p.ep m h)⟩
theorem Pt.next {rs:Rs α} {n:Nat} (p:Pt G N rs n) (no:∀x∈N,qC rs x=none->¬zk G (qC rs) x n):Pt G N rs (n+1):=by
 refine⟨⟨p.val.inN,λe=>Nat.le_succ_of_le (p.val.le e),p.val.n1,p.val.n2,p.val.n3,p.val.n4⟩,λm h=>?_⟩
 rcases zbE m n with c | c
 . exact p.ep m c
 . have:m=n:=by omega
   subst this
   exact vz ⟨λx=>⟨λh=>(nomatch h),λ⟨a,b,c⟩=>absurd c (no x a b)⟩,List.nil_sublist _⟩
theorem Pt.lab (cl:∀x∈N,∀y∈G x,y∈N) {rs:Rs α} {n:Nat} (p:Pt G N rs n) (big:∀x∈N,qC rs x=none->¬∀j,j < n->∃y∈G x,qC rs y=some j):zj G (·∈N) (qC rs) (Zr rs):=by
 refine⟨λ{x y} hx hy=>cl x hx y hy,λ{x n m} _=>p.val.n1,λ{x y n} _=>p.val.n2,λ{x y n} _=>p.val.n3,λ{x y n m} _=>p.val.n4,λ{x m} hx e lo hi=>?_⟩
 rcases zbE m n with c | c
 . exact p.ep m c x hx e lo hi
 . exact absurd (λj hj=>lo j (by omega)) (big x hx e)
theorem Mr {ok:α->Prop} {num num':α->Option Nat} {stp stp':α->Nat} (L:zj G ok num stp) (L':zj G ok num' stp') {x:α} (hx:ok x):num x=num' x:=by
 have h:∀h,num x=some h↔num' x=some h:=λh=>(zV L hx).symm.trans (zV L' hx)
 cases e:num x with
 | some n=>exact((h n).mp e).symm
 | none=>
   cases e':num' x with
   | none=>rfl
   | some n=>rw[(h n).mpr e']at e;cases e
end
end MLab
namespace Rh
open PySem L2
def top (i:Nat):Stmt:=PySem.Challenge.pw_ringheaps_k51_worths_of_heaps.main.body.getD i (.Pass ⟨0,0,0,0⟩)
abbrev Z0:Stmt:=top 13
abbrev kH:Stmt:=top 61
abbrev Ym:Stmt:=top 62
abbrev ZF:Stmt:=top 63
abbrev zw:Stmt:=top 64
abbrev YO:Stmt:=top 65
abbrev ky:Stmt:=top 66
abbrev Vb:Stmt:=top 76
open PySem L2 PyProof.Rows
structure jm (K:PySem.W.Frag) (mg:Str->Option Value) (x:Str) (st:Stmt) (ps:List Str) (f:Addr) (fd:FuncData):Prop where
 fn:jQ K x x st f fd
 ns:mg x=some (.ref f)
 bi:jO K fd ps []
theorem qH {X:Cx} {x:Str} {st:Stmt} {ps:List Str} {f:Addr} {fd:FuncData} {k:Nat} {sp:Sp} {e:Expr} {es:List Expr} {t:TA} {p pos:Pos} (h:jm X.K X.mg x st ps f fd) (G:qo X.prog X.w X.K X.mg X.base qN k f fd ps sp) (hr:qR k X.A)
   (hg:Gl X x) (ha:JA X (e::es) t) (hdb:(x==("__debug__":Str))=false:=by decide) (he:starEach (e::es) X.env=(false,eval e X.env)::starEach es X.env:=by rfl) (hpl:(backTo pos (starEach es X.env)).any (·.1)=false:=by rfl):
   JE X (.Call (.Name x p) (e::es) [] pos) (ZC sp [] E0 t):=.of (kN G hr hg h.ns h.fn.kp h.bi .nil Qz ha.to hdb he hpl)
theorem qm {H:Hp} {b p:Addr} {o o':HO} (h:H b=some o) (hp:H p=none):upd H p o' b=some o:=by
 rw[qg (qp h hp)]
 exact h
theorem qi {H:Hp} {p:Addr} {o:HO} (hp:H p=none):Same H (upd H p o):=λb u h=>qm h hp
theorem Same.upd {H H':Hp} {p:Addr} {o:HO} (s:Same H H') (hp:H p=none):Same H (upd H' p o):=λb u h=>by
 rw[qg (qp h hp)]
 exact s b u h
def src (n s t:Int):List (qL×V):=[(Sum.inr "number",.int n),(Sum.inr "seed",.int s),(Sum.inr "turn",.int t)]
theorem nns:¬(Str.ofString "number")=Str.ofString "seed":=by decide+kernel
theorem nnt:¬(Str.ofString "number")=Str.ofString "turn":=by decide+kernel
theorem nst:¬(Str.ofString "seed")=Str.ofString "turn":=by decide+kernel
theorem nsn:¬(Str.ofString "seed")=Str.ofString "number":=by decide+kernel
theorem ntn:¬(Str.ofString "turn")=Str.ofString "number":=by decide+kernel
theorem nts:¬(Str.ofString "turn")=Str.ofString "seed":=by decide+kernel
theorem Kc {a b:Str} (h:¬a=b):¬(Sum.inr a:qL)=Sum.inr b:=λe=>h (Sum.inr.inj e)
section
variable {H:Hp} {d:Addr} {n s t:Int}
theorem gN (h:H d=some (.dK (src n s t))):Qp H d (.str "number") (some (.int n)):=by
 have e:jl (src n s t) (Sum.inr "number":qL)=some (.int n):=js rfl
 have q:=Qp.k (k:=(Sum.inr "number":qL)) h
 rw[e]at q
 exact q
theorem gS (h:H d=some (.dK (src n s t))):Qp H d (.str "seed") (some (.int s)):=by
 have e:jl (src n s t) (Sum.inr "seed":qL)=some (.int s):=(jt (Kc nns)).trans (js rfl)
 have q:=Qp.k (k:=(Sum.inr "seed":qL)) h
 rw[e]at q
 exact q
theorem gT (h:H d=some (.dK (src n s t))):Qp H d (.str "turn") (some (.int t)):=by
 have e:jl (src n s t) (Sum.inr "turn":qL)=some (.int t):=(jt (Kc nnt)).trans ((jt (Kc nst)).trans (js rfl))
 have q:=Qp.k (k:=(Sum.inr "turn":qL)) h
 rw[e]at q
 exact q
theorem qal:(src n s t).length < sizeLine:=ql (by show 3<=1000;decide)
theorem pN (h:H d=some (.dK (src n s t))) (v:Int):Q6 H d (.str "number") (.int v) (upd H d (.dK (src v s t))):=by
 have e:jR (src n s t) (Sum.inr "number":qL) (.int v)=src v s t:=by
   unfold jR src
   simp [nsn,ntn]
 have q:=Q6.k (k:=(Sum.inr "number":qL)) (v:=.int v) h qal
 rw[e]at q
 exact q
theorem pT (h:H d=some (.dK (src n s t))) (v:Int):Q6 H d (.str "turn") (.int v) (upd H d (.dK (src n s v))):=by
 have e:jR (src n s t) (Sum.inr "turn":qL) (.int v)=src n s v:=by
   unfold jR src
   simp [nnt,nst]
 have q:=Q6.k (k:=(Sum.inr "turn":qL)) (v:=.int v) h qal
 rw[e]at q
 exact q
end
def JM:Sp:=λvs H Q _=>∃(d:Addr) (m n s t:Int),vs=[.ref d,.int m]/\H d=some (.dK (src n s t))/\0 < m/\m.natAbs < 2^200/\∀r n' t',0<=r->r < m->Q (.int r) (upd H d (.dK (src n' s t')))
def V2:Sp:=λvs H Q _=>∃c:Int,vs=[.int c]/\∀d n s,H d=none->Q (.ref d) (upd H d (.dK (src n s 0)))
def wz (K:PySem.W.Frag):Sp:=λvs H Q _=>∃(a:Addr) (ns:List Int) (k:Int),vs=[.ref a,.int k]/\SqL K H a (ns.map V.int)/\0<=k/\∀v,Q (.int v) H
section
variable {P:Program} {w:World} {K:PySem.W.Frag} {mg:Str->Option Value} {base:Heap}
theorem W9:qr ["_law_source_here","_law_many","_law_digit","_law_number"] ["_law_source_here","_law_many"] (qk ZF):=⟨rfl,rfl,rfl,by decide+kernel,rfl,by decide+kernel,by decide+kernel⟩
theorem JR {f:Addr} {fd:FuncData} (F:jQ K "_law_take" "_law_take" ZF f fd):qo P w K mg base qN 1 f fd ["_law_source_here","_law_many"] JM:=by
 refine F.okJ W9 (λvs H Q E h=>?_) (λcdv A outer s H vs Q E hr h=>?_)
 . obtain⟨d,m,n,sd,t,rfl,_⟩:=h
   rfl
 . obtain⟨d,m,n,sd,t,rfl,hd,m0,m1,k⟩:=h
   have hu:=Qu hr
   refine⟨_,qf (qM (qt Zf (jk hu (jv 0) qD (λ_ _=>rfl)) qj (qx _))
       (qf (qv (i:=2) W9.nd rfl (Or.inl rfl) (qJ Ji (jk hu (jv 0) qD (λ_ _=>rfl)) (jv 1)))
       (qf (jx hu (jv 0) qD (qJ ui (jk hu (jv 0) qD (λ_ _=>rfl)) (jv 1)) rfl)
       (qh (qw (jv 2))))) qA)
     (qf (jx hu (jv 0) qD (qJ QN (jk hu (jv 0) qD (λ_ _=>rfl)) qj) rfl)
     (qf (qv (i:=3) W9.nd rfl (Or.inl rfl) (qJ Ji (qJ JQ (qJ QN (jk hu (jv 0) qD (λ_ _=>rfl)) (qJ JQ qj (jk hu (jv 0) qD (λ_ _=>rfl)))) qj) qj))
     (qf (qv (i:=3) W9.nd rfl (Or.inl rfl) (qJ Ji (qJ JQ (jv 3) (jv 3)) qj))
     (qh (qw (qJ Ji (qJ GX (qJ Ji (qJ JQ (qJ QN (jv 3) (jk hu (jv 0) qD (λ_ _=>rfl))) (qJ QN (jv 3) qj)) qj) qj) (jv 1))))))),?_⟩
   refine⟨_,rfl,d,_,rfl,gN hd,_,_,rfl,rfl,_,rfl,?_⟩
   refine xr (λ_=>?_) (λ_=>?_)
   . refine⟨_,rfl,d,_,rfl,gN hd,_,rfl,_,_,rfl,rfl,m0,?_⟩
     refine⟨_,rfl,d,_,rfl,gN hd,_,rfl,_,_,rfl,rfl,⟨m0,m1⟩,_,rfl,d,_,rfl,pN hd _,?_⟩
     exact⟨_,rfl,k _ _ _ (zbP _ (by omega)) (zbC _ m0)⟩
   . refine⟨_,rfl,d,_,rfl,gT hd,_,_,rfl,rfl,_,rfl,d,_,rfl,pT hd _,?_⟩
     have h1:upd H d (.dK (src n sd (t+1))) d=some (.dK (src n sd (t+1))):=qd
     refine⟨_,rfl,d,_,rfl,gS h1,_,rfl,d,_,rfl,gT h1,_,_,rfl,rfl,.inl ⟨by decide,by decide⟩,_,_,rfl,rfl,_,_,rfl,rfl,.inr ⟨by decide,by decide⟩,_,_,rfl,rfl,(by show (0:Int) < 2147483647;decide),?_⟩
     generalize ha:((sd+7919*(t+1))*48271) % 2147483647=x
     have x0:0<=x:=by rw[<-ha];exact zbP _ (by decide)
     have x1:x < 2147483647:=by rw[<-ha];exact zbC _ (by decide)
     refine⟨_,rfl,_,rfl,_,_,rfl,rfl,.inl ⟨by omega,by omega⟩,_,_,rfl,rfl,(by show (0:Int) < 2147483629;decide),?_⟩
     generalize hb:(x*x) % 2147483629=y
     have y0:0<=y:=by rw[<-hb];exact zbP _ (by decide)
     have y1:y < 2147483629:=by rw[<-hb];exact zbC _ (by decide)
     refine⟨_,rfl,_,rfl,d,_,rfl,gT h1,_,_,rfl,rfl,_,rfl,_,_,rfl,rfl,_,_,rfl,rfl,.inr ⟨by omega,by omega⟩,_,_,rfl,rfl,(by show (0:Int) < 2147483587;decide),_,_,rfl,rfl,⟨by decide,by decide⟩,_,rfl,_,_,rfl,rfl,m0,?_⟩
     exact k _ _ _ (zbP _ (by omega)) (zbC _ m0)
end
open PySem L2 PyProof.Rows
structure Qy (mg:Str->Option Value):Prop where
 len:mg "len"=none
 max:mg "max"=none
 min:mg "min"=none
 int:mg "int"=none
 rng:mg "range"=none
theorem xk (n s t:Int):QO [] (src n s t)=src n s t:=by
 unfold QO src
 simp only[zcf,List.foldl_nil]
 unfold jR
 simp [nns,nnt,nst,nsn,ntn,nts]
section
variable {P:Program} {w:World} {K:PySem.W.Frag} {mg:Str->Option Value} {base:Heap}
theorem wI:qr ["_law_cell"] ["_law_cell"] (qk Ym):=⟨rfl,rfl,rfl,by decide+kernel,rfl,by decide+kernel,by decide+kernel⟩
theorem y7 {f:Addr} {fd:FuncData} (F:jQ K "_law_source" "_law_source" Ym f fd) (B:Qy mg):qo P w K mg base qN 1 f fd ["_law_cell"] V2:=by
 refine F.okJ wI (λvs H Q E h=>?_) (λcdv A outer s H vs Q E hr h=>?_)
 . obtain⟨c,rfl,_⟩:=h
   rfl
 . obtain⟨c,rfl,k⟩:=h
   refine⟨_,qh (qw (RG
     (Xq qD (qJ JQ (qB (WC rfl) (by rfl) B.max boot_max (qb qj (qb (jv 0) qe)))
       (jr WD (by rfl) B.int boot_int (qb (Qa uh (jv 0) (qJ N7 qj qj) (qx _)) qe)))
     (Xq qD (qJ Ji (jv 0) qj) (Xq qD qj RC))) rfl rfl (by simp) (by decide))),?_⟩
   intro p hp
   refine⟨_,rfl,_,_,rfl,_,rfl,_,_,rfl,rfl,⟨by decide,by decide,by decide⟩,_,_,rfl,rfl,.inr ⟨_,rfl,_,_,rfl,rfl,.inr ?_,_,rfl,_,_,rfl,rfl,(by show (0:Int) < 2147483629;decide),?_⟩⟩
   . split<;>exact⟨by decide,by decide⟩
   . refine⟨qd,src _ _ 0,rfl,(by show 3<=15;decide),?_⟩
     rw[xk,jo]
     exact k p _ _ hp
theorem NZ:qr ["_law_script","_law_k"] ["_law_script","_law_k"] (qk kH):=⟨rfl,rfl,rfl,by decide+kernel,rfl,by decide+kernel,by decide+kernel⟩
theorem Rp {f:Addr} {fd:FuncData} (F:jQ K "_law_cell_at" "_law_cell_at" kH f fd) (B:Qy mg):qo P w K mg base qN 1 f fd ["_law_script","_law_k"] (wz K):=by
 refine F.okJ NZ (λvs H Q E h=>?_) (λcdv A outer s H vs Q E hr h=>?_)
 . obtain⟨a,ns,k,rfl,_⟩:=h
   rfl
 . obtain⟨a,ns,k,rfl,hS,k0,q⟩:=h
   refine⟨_,qf (qM (qt Q4 (jv 1) (qB qF (by rfl) B.len boot_len (qb (jv 0) qe)) (qx _))
       (qh (qw (qX jI (jv 0) (jv 1) (λ_ _=>rfl)))) qA)
     (qh (qw (qJ QN (qJ JQ qj (jv 1)) qj))),?_⟩
   refine⟨_,rfl,_,rfl,a,_,rfl,.inl hS,_,_,rfl,rfl,_,rfl,?_⟩
   refine xr (λh=>?_) (λ_=>?_)
   . have h1:k < ((ns.map V.int).length:Int):=of_decide_eq_true h
     rw[tj]at h1
     have h2:k.toNat < ns.length:=by omega
     have h3:(ns.map V.int)[k.toNat]?=some (V.int ns[k.toNat]):=by rw[tN,tF h2];rfl
     have h4:k=((k.toNat:Nat):Int):=by omega
     refine⟨_,rfl,_,rfl,a,_,k,V.int ns[k.toNat],rfl,rfl,hS,?_,q _⟩
     have h5:=Zx h3
     rw[<-h4]at h5
     exact h5
   . exact⟨_,rfl,_,_,rfl,rfl,.inl ⟨by decide,by decide⟩,_,_,rfl,rfl,q _⟩
end
open PySem L2 PyProof.Rows
def Fr (H:Hp) (d:Addr) (H':Hp):Prop:=∀b o,H b=some o->b≠d->H' b=some o
theorem Fr.refl {H:Hp} {d:Addr}:Fr H d H:=λ_ _ h _=>h
theorem Fr.at_d {H H':Hp} {d:Addr} {o:HO} (h:Fr H d H'):Fr H d (upd H' d o):=λb u hb hn=>by
 rw[qg hn]
 exact h b u hb hn
theorem Fr.new {H H':Hp} {d p:Addr} {o:HO} (h:Fr H d H') (hp:H' p=none):Fr H d (upd H' p o):=λb u hb hn=>qm (h b u hb hn) hp
theorem Fr.own {H H':Hp} {d p:Addr} {o:HO} (h:Fr H d H') (hp:H p=none):Fr H d (upd H' p o):=λb u hb hn=>by
 rw[qg (qp hb hp)]
 exact h b u hb hn
theorem Fr.trans {H H' H'':Hp} {d:Addr} (h:Fr H d H') (k:Fr H' d H''):Fr H d H'':=λb u hb hn=>k b u (h b u hb hn) hn
theorem Fr.fresh {H H':Hp} {d p:Addr} {o:HO} (h:Fr H d H') (hd:H' d=some o) (hp:H' p=none):H p=none:=by
 cases e:H p with
 | none=>rfl
 | some u=>
   by_cases n:p=d
   . subst n
     rw[hd]at hp
     cases hp
   . rw[h p u e n]at hp
     cases hp
def jW (c:Nat):Bool:=decide (97<=c)&&decide (c<=122)
def je (z:Str):Bool:=(decide (1<=z.length)&&decide (z.length<=8))&&z.cps.toList.all jW
def yt:Str:="abcdefghijklmnopqrstuvwxyz"
theorem WO:yt.cps.toList=[97,98,99,100,101,102,103,104,105,106,107,108,109,110,111,112,113,114,115,116,117,118,119,120,121,122]:=by decide+kernel
theorem Kx:yt.cps.toList=(tM 26).map (97+·):=by rw[WO];rfl
theorem yr:yt.length<=sizeLine:=by
 show yt.cps.size<=sizeLine
 rw[<-zaF,WO]
 decide
theorem Ky {r:Int} (h0:0<=r) (h1:r < 26):UM yt.cps.toList r=some (97+r.toNat):=by
 have h2:yt.cps.toList[r.toNat]?=some (97+r.toNat):=by
   rw[Kx,tN,zbx (by omega)]
   rfl
 have h4:=Zx h2
 have h5:r=((r.toNat:Nat):Int):=by omega
 rw[<-h5]at h4
 exact h4
theorem Wv {r:Int} (h0:0<=r) (h1:r < 26):jW (97+r.toNat)=true:=by
 unfold jW
 rw[decide_eq_true (by omega:97<=97+r.toNat),decide_eq_true (by omega:97+r.toNat<=122)]
 rfl
theorem Mx (ws:List Nat):(Txt.join (Str.ofString "") (ws.map λk=>(⟨#[k]⟩:Str))).cps.toList=ws:=by
 show (Builtin.Str.glued (Str.ofString "") _).cps.toList=_
 rw[StrLaws.glued_eq_join]
 have e:(Str.ofString "")=⟨#[]⟩:=by decide+kernel
 rw[e,PyProof.Rows.join_ones]
theorem xu {z:Str} {A B:List Nat} {c:Nat} (e:z.cps.toList=A++[c]++B) (hA:A.all jW=true) (hc:jW c=true) (hB:B.all jW=true) (hl:A.length+B.length<=7):je z=true:=by
 have l:z.length=A.length+1+B.length:=by
   show z.cps.size=_
   rw[<-zaF,e]
   simp
   omega
 unfold je
 rw[decide_eq_true (by omega:1<=z.length),decide_eq_true (by omega:z.length<=8),e,zdr,zdr,hA,hB]
 simp [hc]
theorem xv {z:Str} (h:je z=true):z.length<=8:=by
 unfold je at h
 simp only[zas,decide_eq_true_eq]at h
 exact h.1.2
def kR (f s:Int) (k:Nat):Nat:=97+((f+s*(k:Int)) % 26).toNat
theorem Ru:∀s∈[(1:Int),3,5,7,9,11],∀k,k < 14->∀j,j < 14->(s*((k:Nat):Int) - s*((j:Nat):Int)) % 26=0->k=j:=by decide+kernel
theorem Rt {f s:Int} {k j:Nat} (hs:s=1\/s=3\/s=5\/s=7\/s=9\/s=11) (hk:k < 14) (hj:j < 14) (h:kR f s k=kR f s j):k=j:=by
 unfold kR at h
 refine Ru s (by simpa using hs) k hk j hj ?_
 generalize s*(k:Int)=x at h ⊢
 generalize s*(j:Int)=y at h ⊢
 omega
def Jh (A:List Nat) (f s:Int) (zs:List Str):Prop:=∀j z,zs[j]?=some z->∃B,z.cps.toList=A++[kR f s j]++B/\B.all jW=true/\A.length+B.length<=7
theorem Jh.snoc {A:List Nat} {f s:Int} {zs:List Str} (h:Jh A f s zs) {z:Str} {B:List Nat} (e:z.cps.toList=A++[kR f s zs.length]++B) (hB:B.all jW=true) (hl:A.length+B.length<=7):Jh A f s (zs++[z]):=by
 intro j y hy
 by_cases hj:j < zs.length
 . rw[zaG hj]at hy
   exact h j y hy
 . have hj':j=zs.length:=by
     have:=(tw.mp hy).1
     rw[tI,zaL]at this
     omega
   subst hj'
   rw[zar (tq _),zcp]at hy
   obtain rfl:=(tL.inj hy).symm
   exact⟨B,e,hB,hl⟩
theorem Jh.names {A:List Nat} {f s:Int} {zs:List Str} (h:Jh A f s zs) (hA:A.all jW=true):∀z∈zs,je z=true:=λz hz=>by
 obtain⟨j,hj⟩:=zbt hz
 obtain⟨B,e,hB,hl⟩:=h j z hj
 refine xu e hA ?_ hB hl
 unfold kR
 exact Wv (zbP _ (by decide)) (zbC _ (by decide))
theorem Jh.nodup {A:List Nat} {f s:Int} {zs:List Str} (h:Jh A f s zs) (hs:s=1\/s=3\/s=5\/s=7\/s=9\/s=11) (hz:zs.length<=14):zs.Nodup:=by
 refine zaO.mpr λi j hi hj hij e=>?_
 obtain⟨B,b1,_⟩:=h j _ (tF hj)
 obtain⟨C,c1,_⟩:=h i _ (tF hi)
 rw[e]at c1
 have e2:(A++[kR f s j]++B)[A.length]?=(A++[kR f s i]++C)[A.length]?:=by rw[<-b1,<-c1]
 rw[zbu,zbu,zar (tq _),zar (tq _),zcp]at e2
 have e3:kR f s j=kR f s i:=tL.inj e2
 exact absurd (Rt hs (by omega) (by omega) e3) (by omega)
theorem UH {A:List Nat} (h:A.all jW=true) (n:Nat):(A.take n).all jW=true:=by
 rw[zbc]at h ⊢
 exact λx hx=>h x (zaK hx)
theorem NQ {r:Int} (h0:0<=r) (h1:r < 6):∃m:Int,(m=1\/m=3\/m=5\/m=7\/m=9\/m=11)/\UM [V.int 1,V.int 3,V.int 5,V.int 7,V.int 9,V.int 11] r=some (.int m):=by
 have:r=0\/r=1\/r=2\/r=3\/r=4\/r=5:=by omega
 rcases this with rfl | rfl | rfl | rfl | rfl | rfl
 . exact⟨1,by decide,rfl⟩
 . exact⟨3,by decide,rfl⟩
 . exact⟨5,by decide,rfl⟩
 . exact⟨7,by decide,rfl⟩
 . exact⟨9,by decide,rfl⟩
 . exact⟨11,by decide,rfl⟩
def W3:Sp:=λvs H Q _=>∃(d:Addr) (m:Nat) (n s t:Int),vs=[.ref d,.int m]/\H d=some (.dK (src n s t))/\m<=14/\
 ∀(l:Addr) (zs:List Str) (n' t':Int) (H':Hp),H l=none->H' l=some (.lst (zs.map V.str))->zs.length=m->(∀z∈zs,je z=true)->zs.Nodup->H' d=some (.dK (src n' s t'))->Fr H d H'->Q (.ref l) H'
theorem VX:∀zs:List Str,(zs.map λ_=>1).sum=zs.length
 | []=>rfl
 | z::zs=>by rw[tQ,zax,VX zs,zao];omega
section
variable {P:Program} {w:World} {K:PySem.W.Frag} {mg:Str->Option Value} {base:Heap}
abbrev Mj:List Str:=["_law_source_here","_law_many","_law_letters","_law_word","_law_ahead","_law_first","_law_step","_law_names_here","_law_k","_law_behind"]
theorem QT:qr Mj ["_law_source_here","_law_many"] (qk zw):=⟨rfl,rfl,rfl,by decide+kernel,rfl,by decide+kernel,by decide+kernel⟩
theorem Ul {f fT:Addr} {fd fdT:FuncData} (F:jQ K "_law_names" "_law_names" zw f fd) (B:Qy mg) (hT:jm K mg "_law_take" ZF ["_law_source_here","_law_many"] fT fdT):qo P w K mg base qN 2 f fd ["_law_source_here","_law_many"] W3:=by
 have GT:qo P w K mg base qN 1 fT fdT ["_law_source_here","_law_many"] JM:=JR hT.fn
 refine F.okJ QT (λvs H Q E h=>?_) (λcdv A outer s H vs Q E hr h=>?_)
 . obtain⟨d,m,n,sd,t,rfl,_⟩:=h
   rfl
 . obtain⟨d,m,n,sd,t,rfl,hd,hm,q⟩:=h
   refine⟨_,qf (qv (i:=2) QT.nd rfl (Or.inr rfl) qD)
     (qf (qv (i:=3) QT.nd rfl (Or.inl rfl) (Xs zdn zdt zdu kU qD (qb
       (jM (N':=["_law_k","_law_letters","_law_source_here"]) (ix:=[none,some 2,some 0]) rfl ⟨rfl,rfl,rfl,rfl,rfl⟩
         (jd (by rfl) B.rng (qb qj qe))
         (λC s2 H2 fp pins=>⟨qu (i:=0) (show (["_law_k","_law_letters","_law_source_here"]:List Str).Nodup by decide+kernel) rfl (Or.inl rfl),ju,
           qX u7 (jv 1) (qH hT GT hr (by rfl) (qb (jv 2) (qb qj qe))) (λ_ _=>rfl)⟩)) qe)))
     (qf (qv (i:=4) QT.nd rfl (Or.inl rfl) (jA wA (jv 3) j3 (j2 (qJ JQ (qH hT GT hr (by rfl) (qb (jv 0) (qb qj qe))) (qH hT GT hr (by rfl) (qb (jv 0) (qb qj qe)))))))
     (qf (qv (i:=5) QT.nd rfl (Or.inl rfl) (qH hT GT hr (by rfl) (qb (jv 0) (qb qj qe))))
     (qf (qv (i:=6) QT.nd rfl (Or.inl rfl) (qX jI (jE (qb qj (qb qj (qb qj (qb qj (qb qj (qb qj qe))))))) (qH hT GT hr (by rfl) (qb (jv 0) (qb qj qe))) (λ_ _=>rfl)))
     (qf (qv (i:=7) QT.nd rfl (Or.inl rfl) (jE qe))
     (qf (jg PassesOwn.never rfl (jd (by rfl) B.rng (qb (jv 1) qe)) (qu (i:=8) QT.nd rfl (Or.inl rfl))
       (qf (qv (i:=9) QT.nd rfl (Or.inl rfl) (jA wA (jv 3) j3 (j2 (qH hT GT hr (by rfl) (qb (jv 0) (qb (qJ N6 qj (qB J1 (by rfl) B.len boot_len (qb (jv 4) qe))) qe))))))
       (qh (jw (Xs zaY zbF zbG Jv (jv 7) (qb
         (qJ Xc (qJ Xc (jv 4) (qX u7 (jv 2) (qJ Ji (qJ QN (jv 5) (qJ JQ (jv 6) (jv 8))) qj) (λ_ _=>rfl))) (jv 9)) qe))))))
     (qh (qw (jv 7))))))))),?_⟩
   refine⟨rfl,7,rfl,by decide,by decide,λD hD=>?_⟩
   have nDd:D≠d:=λe=>by rw[e,hd]at hD;cases hD
   refine Q0 (λi σ' H'=>∃(v:Option V) (n' t':Int) (ws:List Nat),σ'=[v,some (.str yt),some (.ref d)]/\H' d=some (.dK (src n' sd t'))/\H' D=some (.lst ((ws.map λk=>(⟨#[k]⟩:Str)).map V.str))/\ws.length=i/\ws.all jW=true/\Fr H d H')
     ⟨none,n,t,[],rfl,qm hd hD,qd,rfl,rfl,Fr.refl.new hD⟩ ?_ ?_
   . rintro i σ' H' hi ⟨v,n',t',ws,rfl,hd',hD',hl,ha,fr⟩
     refine⟨_,rfl,_,rfl,d,26,n',sd,t',rfl,hd',by decide,by decide,λr n3 t3 r0 r1=>?_⟩
     refine⟨yt,r,_,rfl,rfl,yr,Ky r0 r1,_,(by rw[qg nDd];exact hD'),?_,?_⟩
     . rw[tj,tj,hl]
       exact ql (by omega)
     . refine⟨_,n3,t3,ws++[97+r.toNat],rfl,?_,?_,?_,?_,?_⟩
       . rw[qg (Ne.symm nDd)];exact qd
       . rw[tG,tG];exact qd
       . rw[tI,hl];rfl
       . rw[zdr,ha]
         simp [Wv r0 r1]
       . exact(fr.at_d).own hD
   rintro σ' H1 ⟨v,n1,t1,ws,rfl,hd1,hD1,hl1,ha1,fr1⟩
   have hl1:ws.length=7:=hl1
   refine⟨Str.ofString "",D,_,rfl,rfl,.of hD1,?_,?_⟩
   . have e1:((ws.map λk=>(⟨#[k]⟩:Str)).map (·.length))=(ws.map λk=>(⟨#[k]⟩:Str)).map λ_=>1:=by
       refine zaS λz hz=>?_
       obtain⟨c,_,rfl⟩:=tE.mp hz
       rfl
     have e2:(Str.ofString "").length=0:=by decide+kernel
     rw[e1,e2,VX,tj,hl1]
     decide
   generalize hw:Txt.join (Str.ofString "") (ws.map λk=>(⟨#[k]⟩:Str))=wd
   have hW:wd.cps.toList=ws:=by rw[<-hw];exact Mx ws
   have hWl:wd.length=7:=by
     show wd.cps.size=7
     rw[<-zaF,hW,hl1]
   refine⟨_,rfl,_,rfl,d,2,n1,sd,t1,rfl,hd1,by decide,by decide,λr2 n2 t2 r20 r21=>?_⟩
   refine⟨_,rfl,d,5,n2,sd,t2,rfl,qd,by decide,by decide,λr3 n3 t3 r30 r31=>?_⟩
   rw[jo]
   have e4:∃j:Nat,r2*r3=(j:Int)/\j<=4:=by
     have h2:r2=0\/r2=1:=by omega
     rcases h2 with rfl | rfl
     . exact⟨0,by omega,by omega⟩
     . exact⟨r3.toNat,by omega,by omega⟩
   obtain⟨j,ej,hj⟩:=e4
   refine⟨_,_,rfl,rfl,.inl ⟨by omega,by omega⟩,_,rfl,wd,r2*r3,rfl,rfl,rfl,by omega,?_⟩
   rw[ej]
   generalize ha:Txt.slice wd none (some (j:Int))=ah
   have hA:ah.cps.toList=ws.take j:=by rw[<-ha,YG,hW]
   have hAl:ah.length=j:=by
     show ah.cps.size=j
     rw[<-zaF,hA,tU,hl1]
     omega
   refine⟨_,rfl,d,26,n3,sd,t3,rfl,qd,by decide,by decide,λf n4 t4 f0 f1=>?_⟩
   rw[jo]
   refine⟨by show 6<=sizeLine;decide,λp hp=>?_⟩
   have npd:p≠d:=λe=>by rw[e,qd]at hp;cases hp
   refine⟨_,rfl,d,6,n4,sd,t4,rfl,(by rw[qg (Ne.symm npd)];exact qd),by decide,by decide,λr5 n5 t5 r50 r51=>?_⟩
   obtain⟨st,hst,hsa⟩:=NQ r50 r51
   refine⟨p,_,r5,.int st,rfl,rfl,.of (by rw[qg npd];exact qd),hsa,?_⟩
   have fr5:Fr H d (upd (upd (upd H1 d (.dK (src n4 sd t4))) p (.lst [V.int 1,V.int 3,V.int 5,V.int 7,V.int 9,V.int 11])) d (.dK (src n5 sd t5))):=(fr1.at_d.new hp).at_d
   generalize hH5:upd (upd (upd H1 d (.dK (src n4 sd t4))) p (.lst [V.int 1,V.int 3,V.int 5,V.int 7,V.int 9,V.int 11])) d (.dK (src n5 sd t5))=H5 at fr5
   have hd5:H5 d=some (.dK (src n5 sd t5)):=by rw[<-hH5];exact qd
   refine⟨by show 0<=sizeLine;decide,λl hl=>⟨_,rfl,m,rfl,by omega,by omega,?_⟩⟩
   have hHl:H l=none:=fr5.fresh hd5 hl
   have nld:l≠d:=λe=>by rw[e,hd5]at hl;cases hl
   refine QZ (lo:=0) (n:=m) (λi σ' H'=>∃(v1 v2:Option V) (n' t':Int) (zs:List Str),σ'=[some (.ref d),some (.int m),some (.str yt),some (.str wd),some (.str ah),some (.int f),some (.int st),some (.ref l),v1,v2]/\
     H' d=some (.dK (src n' sd t'))/\H' l=some (.lst (zs.map V.str))/\zs.length=i/\Jh (ws.take j) f st zs/\Fr H d H')
     ⟨none,none,n5,t5,[],rfl,qm hd5 hl,qd,rfl,λj z hz=>(nomatch hz),fr5.new hl⟩ ?_ ?_
   . rintro i σ' H' hi ⟨v1,v2,n',t',zs,rfl,hd',hl',hz,hN,fr⟩
     rw[zbL]
     refine⟨_,rfl,_,rfl,_,rfl,ah,rfl,(by rw[hAl];exact zam (ql (by omega))),_,_,rfl,rfl,d,8 - (ah.length:Int),n',sd,t',rfl,hd',by omega,by omega,λr n6 t6 r0 r1=>?_⟩
     have er:r=((r.toNat:Nat):Int):=by omega
     refine⟨_,rfl,wd,r,rfl,rfl,rfl,by omega,?_⟩
     generalize hb:Txt.slice wd none (some r)=bh
     have hB:bh.cps.toList=ws.take r.toNat:=by rw[<-hb,er,YG,hW];rfl
     have hBl:bh.length<=r.toNat:=by
       show bh.cps.size<=r.toNat
       rw[<-zaF,hB,tU]
       omega
     refine⟨_,rfl,.inl ⟨rfl,_,.of (by rw[qg nld];exact hl')⟩,_,rfl,_,rfl,_,rfl,_,rfl,_,rfl,_,_,rfl,rfl,.inl ⟨by omega,by omega⟩,_,_,rfl,rfl,_,_,rfl,rfl,(by show (0:Int) < 26;decide),?_⟩
     refine⟨yt,_,_,rfl,rfl,yr,Ky (zbP _ (by decide)) (zbC _ (by decide)),?_⟩
     have e26:97+((f+st*(i:Int)) % 26).toNat=kR f st i:=rfl
     rw[e26]
     have l1:(ah++(⟨#[kR f st i]⟩:Str)).length=j+1:=by
       show (ah++(⟨#[kR f st i]⟩:Str)).cps.size=_
       rw[Str.cps_append,Array.size_append]
       show ah.length+1=_
       rw[hAl]
     refine⟨_,_,rfl,rfl,zam (ql (by show ah.length+1<=1000;omega)),_,rfl,_,_,rfl,rfl,zam (ql (by rw[l1];omega)),?_⟩
     refine⟨l,_,_,rfl,rfl,(by rw[qg nld];exact hl'),(by rw[tj,hz];exact ql (by omega)),?_⟩
     refine⟨_,_,n6,t6,zs++[ah++(⟨#[kR f st i]⟩:Str)++bh],rfl,?_,?_,?_,?_,?_⟩
     . rw[qg (Ne.symm nld)];exact qd
     . rw[tG];exact qd
     . rw[tI,hz];rfl
     . refine hN.snoc (B:=ws.take r.toNat) ?_ (UH ha1 _) ?_
       . rw[Str.cps_append,Str.cps_append,zcb,zcb,hA,hB,hz]
       . rw[tU,tU]
         omega
     . exact fr.at_d.own hHl
   . rintro σ' H' ⟨v1,v2,n',t',zs,rfl,hd',hl',hz,hN,fr⟩
     exact⟨_,rfl,q l zs n' t' H' hHl hl' hz (hN.names (UH ha1 _)) (hN.nodup hst (by omega)) hd' fr⟩
end
open PySem L2 PyProof.Rows
def vF (t:TT) (σ:L2.St) (H:Hp):Prop:=∀Q:Bool->Hp->Prop,(∀b,Q b H)->t σ H Q
theorem vF.and {t u:TT} {σ:L2.St} {H:Hp} (h:vF t σ H) (k:vF u σ H):vF (NL t u) σ H:=λQ q=>h _ λb=>by
 cases b
 . exact jh (q false)
 . exact j8 (k _ q)
theorem vF.or {t u:TT} {σ:L2.St} {H:Hp} (h:vF t σ H) (k:vF u σ H):vF (tOr t u) σ H:=λQ q=>h _ λb=>by
 cases b
 . exact jh (k _ q)
 . exact j8 (q true)
theorem Kd {tc:TT} {tp:TS} {D:Q8} {σ:L2.St} {H0:Hp} (G:Hp->Prop) (h:G H0) (ht:vF tc σ H0) (hp:∀D:Q8,(∀H',G H'->D.nx σ H')->tp D σ H0) (k:∀H',G H'->D.nx σ H'):KP tc tp vS D σ H0:=
 ht _ λb=>by
   cases b
   . exact jh (k _ h)
   . exact j8 (hp D k)
theorem Yr {tc:TT} {tp u:TS} {D:Q8} {σ:L2.St} {H0:Hp} (G:Hp->Prop) (h:G H0) (ht:vF tc σ H0) (hp:∀D:Q8,(∀H',G H'->D.nx σ H')->tp D σ H0) (k:∀H',G H'->u D σ H'):NI (KP tc tp vS) u D σ H0:=Kd G h ht hp k
theorem Xv {i:Nat} {v:V} {σ:L2.St} {H:Hp} {Q:L2.St->Hp->Prop} (h:Q (σ.set i (some v)) H):Ql i v σ H Q:=h
abbrev up (k:Nat×Nat):Int×Int:=((k.1:Int),(k.2:Int))
def Nz (a b:Nat×Nat):Prop:=a.1 < b.1\/(a.1=b.1/\a.2 < b.2)
abbrev zB (ks:List (Nat×Nat)):List (List qL):=ks.map λk=>zU (up k)
theorem yZ {a b:Nat×Nat} (h:zU (up a)=zU (up b)):a=b:=by
 unfold zU at h
 simp only[zdQ.injEq,Sum.inl.injEq,and_true]at h
 exact Prod.ext (by have:=h.1;omega) (by have:=h.2;omega)
structure J8 (m i j:Nat) (ks:List (Nat×Nat)):Prop where
 ord:ks.Pairwise Nz
 lt:∀x∈ks,x.2 < m/\(x.1 < i\/(x.1=i/\x.2 < j))
 len:ks.length<=i*m+j
theorem J8.more {m i j:Nat} {ks:List (Nat×Nat)} (h:J8 m i j ks):J8 m i (j+1) ks:=⟨h.ord,λx hx=>by have:=h.lt x hx;omega,by have:=h.len;omega⟩
theorem J8.snoc {m i j:Nat} {ks:List (Nat×Nat)} (h:J8 m i j ks) (hj:j < m):J8 m i (j+1) (ks++[(i,j)]):=by
 refine⟨zdz.mpr ⟨h.ord,zci _ _,λa ha b hb=>?_⟩,λx hx=>?_,?_⟩
 . rw[tX.mp hb]
   have:=h.lt a ha
   unfold Nz
   omega
 . rcases t9.mp hx with hx | hx
   . have:=h.lt x hx
     omega
   . rw[tX.mp hx]
     exact⟨hj,.inr ⟨rfl,zaM _⟩⟩
 . rw[tI]
   have:=h.len
   show ks.length+1<=_
   omega
theorem J8.row {m i:Nat} {ks:List (Nat×Nat)} (h:J8 m i m ks):J8 m (i+1) 0 ks:=⟨h.ord,λx hx=>by have:=h.lt x hx;omega,by have:=h.len;rw[Nat.succ_mul];omega⟩
def M9 (m i j:Nat) (kvs:List (List qL×V)):Prop:=∃ks,J8 m i j ks/\(kvs.map (·.1)=zB ks\/kvs.map (·.1)=zB (ks++[(i,j)]))
theorem yq (kvs:List (List qL×V)) (k:List qL):((kvs.any λkv=>decide (kv.1=k))=true)↔k∈kvs.map (·.1):=by
 rw[zbk,tE]
 simp
theorem Rz {kvs:List (List qL×V)} {k:List qL} (v:V) (h:k∈kvs.map (·.1)):(jR kvs k v).map (·.1)=kvs.map (·.1):=by
 unfold jR
 rw[if_pos ((yq kvs k).mpr h),zbl]
 refine zaS λx _=>?_
 show (if x.1=k then (x.1,v) else x).1=x.1
 split<;>rfl
theorem uU {kvs:List (List qL×V)} {k:List qL} (v:V) (h:¬k∈kvs.map (·.1)):(jR kvs k v).map (·.1)=kvs.map (·.1)++[k]:=by
 unfold jR
 rw[if_neg (λz=>h ((yq kvs k).mp z)),tG]
 rfl
theorem M9.put {m i j:Nat} {kvs:List (List qL×V)} (h:M9 m i j kvs) (v:V):M9 m i j (jR kvs (zU (up (i,j))) v):=by
 obtain⟨ks,ha,h⟩:=h
 refine⟨ks,ha,.inr ?_⟩
 rcases h with h | h
 . rw[uU,h,zB,zB,tG]
   . rfl
   . rw[h]
     intro z
     obtain⟨x,hx,e⟩:=tE.mp z
     have e':=yZ e
     have:=ha.lt x hx
     rw[e']at this
     omega
 . rw[Rz,h]
   rw[h]
   exact tE.mpr ⟨(i,j),by simp,rfl⟩
theorem M9.len {m i j:Nat} {kvs:List (List qL×V)} (h:M9 m i j kvs):kvs.length<=i*m+j+1:=by
 obtain⟨ks,ha,h⟩:=h
 have hl:=ha.len
 rcases h with h | h
 . have:=congrArg zaN h
   simp only[tj]at this
   omega
 . have:=congrArg zaN h
   simp only[tj,tI,zaL]at this
   omega
theorem Nk {i m:Nat} (hi:i<=m) (hm:m<=14):i*m<=196:=zaa (Nat.mul_le_mul (zaa hi hm) hm) (by decide)
theorem qbb (xs:List V):Zz xs none (some 40)=xs.take 40:=by
 unfold Zz
 have e1:HT.sIx xs.length 0 none=0:=rfl
 have e2:HT.sIx xs.length xs.length (some 40)=min 40 xs.length:=by
   simp [HT.sIx]
 rw[e1,e2,zdy,zdL]
 by_cases h:40<=xs.length
 . rw[zcD h]
 . rw[zcu (by omega),tH (tq _),tH (by omega)]
def Zy (H:Hp) (ps:List Addr) (ks:List (Nat×Nat)):Prop:=ps.length=ks.length/\∀(i:Nat) (p:Addr) (k:Nat×Nat),ps[i]?=some p->ks[i]?=some k->H p=some (.tup [.int (k.1:Nat),.int (k.2:Nat)])
def kj:Sp:=λvs H Q _=>∃(d:Addr) (m:Nat) (n s t sh lo:Int),vs=[.ref d,.int m,.int sh,.int lo]/\H d=some (.dK (src n s t))/\m<=14/\
 ∀(l:Addr) (ps:List Addr) (ks:List (Nat×Nat)) (n' t':Int) (H':Hp),H l=none->H' l=some (.lst (ps.map V.ref))->Zy H' ps ks->ks.Pairwise Nz->(∀x∈ks,x.1 < m/\x.2 < m)->ks.length<=40->H' d=some (.dK (src n' s t'))->Fr H d H'->Q (.ref l) H'
section
variable {P:Program} {w:World} {K:PySem.W.Frag} {mg:Str->Option Value} {base:Heap}
abbrev Ml:List Str:=["_law_source_here","_law_many","_law_shape","_law_low","_law_pairs","_law_k","_law_j","_law_way"]
abbrev Y0:List Str:=["_law_source_here","_law_many","_law_shape","_law_low"]
theorem ZX:qr Ml Y0 (qk YO):=⟨rfl,rfl,rfl,by decide+kernel,rfl,by decide+kernel,by decide+kernel⟩
theorem uB {f fT:Addr} {fd fdT:FuncData} (F:jQ K "_law_leads" "_law_leads" YO f fd) (B:Qy mg) (hso:mg "sorted"=none) (hT:jm K mg "_law_take" ZF ["_law_source_here","_law_many"] fT fdT):qo P w K mg base qN 2 f fd Y0 kj:=by
 have GT:qo P w K mg base qN 1 fT fdT ["_law_source_here","_law_many"] JM:=JR hT.fn
 refine F.okJ ZX (λvs H Q E h=>?_) (λcdv A outer s H vs Q E hr h=>?_)
 . obtain⟨d,m,n,sd,t,sh,lo,rfl,_⟩:=h
   rfl
 . obtain⟨d,m,n,sd,t,sh,lo,rfl,hd,hm,q⟩:=h
   have hu:=Qu hr
   refine⟨_,qf (qv (i:=4) ZX.nd rfl (Or.inl rfl) u4)
     (qf (jg PassesOwn.never rfl (jd (by rfl) B.rng (qb (jv 1) qe)) (qu (i:=5) ZX.nd rfl (Or.inl rfl))
       (qh (jg PassesOwn.never rfl (jd (by rfl) B.rng (qb (jv 1) qe)) (qu (i:=6) ZX.nd rfl (Or.inl rfl))
         (qf (qv (i:=7) ZX.nd rfl (Or.inl rfl) (qH hT GT hr (by rfl) (qb (jv 0) (qb qj qe))))
         (qf (qM (QD (qt j5 (jv 2) qj (qx _)) (Qh (Jd (QD (qt Q4 (jv 6) (jv 5) (qx _)) (Qh (qt Q4 (jv 7) qj (qx _)))).pt (QC (QD (qt uh (jv 6) (jv 5) (qx _)) (Qh (qt Q4 (jv 7) qj (qx _)))).pt)).pt)).pt
           (qh (jx hu (jv 4) (qW (qb (jv 5) (qb (jv 6) qe))) jT rfl)) qA)
         (qf (qM (QD (qt j5 (jv 2) qj (qx _)) (Qh (qt Q4 (jv 7) qj (qx _)))).pt
           (qh (jx hu (jv 4) (qW (qb (jv 5) (qb (jv 6) qe))) jT rfl)) qA)
         (qf (qM (QD (qt j5 (jv 2) qj (qx _)) (Qh (Jd (QD (qt j5 (jv 6) (qJ Ji (qJ QN (jv 5) qj) (jv 1)) (qx _)) (Qh (qt Q4 (jv 7) qj (qx _)))).pt (QC (qt Q4 (jv 7) qj (qx _)))).pt)).pt
           (qh (jx hu (jv 4) (qW (qb (jv 5) (qb (jv 6) qe))) jT rfl)) qA)
         (qf (qM (QD (qt j5 (jv 2) qj (qx _)) (QD (qt Q4 (jv 6) (jv 5) (qx _)) (Qh (Jd (qt Q4 (jv 6) (jv 3) (qx _)) (QC (qt Q4 (jv 7) qj (qx _)))).pt))).pt
           (qh (jx hu (jv 4) (qW (qb (jv 5) (qb (jv 6) qe))) jT rfl)) qA)
         (qh (qM (QD (qt j5 (jv 2) qj (qx _)) (Qh (Jd (QD (qt Q4 (jv 6) (jv 3) (qx _)) (Qh (qt Q4 (jv 6) (jv 5) (qx _)))).pt (QC (QD (qt uh (jv 5) (jv 3) (qx _)) (Qh (qt Q4 (jv 7) qj (qx _)))).pt)).pt)).pt
           (qh (jx hu (jv 4) (qW (qb (jv 5) (qb (jv 6) qe))) jT rfl)) qA)))))))))
       )
     (qh (qw (jA Qg (qB (vC rfl) (by rfl) hso boot_sorted (qb (jv 4) qe)) j3 (j2 qj))))),?_⟩
   intro D hD
   have nDd:D≠d:=λe=>by rw[e,hd]at hD;cases hD
   refine⟨_,rfl,m,rfl,by omega,by omega,?_⟩
   refine QZ (lo:=0) (n:=m) (λi σ' H'=>∃(v1 v2 v3:Option V) (n' t':Int) (kvs:List (List qL×V)) (ks:List (Nat×Nat)),σ'=[some (.ref d),some (.int m),some (.int sh),some (.int lo),some (.ref D),v1,v2,v3]/\
     H' d=some (.dK (src n' sd t'))/\H' D=some (.dT kvs)/\kvs.map (·.1)=zB ks/\J8 m i 0 ks/\Fr H d H')
     ⟨none,none,none,n,t,[],[],rfl,qm hd hD,qd,rfl,⟨.nil,λx hx=>(nomatch hx),zal _⟩,Fr.refl.new hD⟩ ?_ ?_
   . rintro i σ' H' hi ⟨v1,v2,v3,n',t',kvs,ks,rfl,hd',hD',ek,ha,fr⟩
     rw[zbL]
     refine⟨_,rfl,m,rfl,by omega,by omega,?_⟩
     refine QZ (lo:=0) (n:=m) (λj σ' H'=>∃(v2 v3:Option V) (n' t':Int) (kvs:List (List qL×V)) (ks:List (Nat×Nat)),σ'=[some (.ref d),some (.int m),some (.int sh),some (.int lo),some (.ref D),some (.int i),v2,v3]/\
       H' d=some (.dK (src n' sd t'))/\H' D=some (.dT kvs)/\kvs.map (·.1)=zB ks/\J8 m i j ks/\Fr H d H')
       ⟨_,_,n',t',kvs,ks,rfl,hd',hD',ek,ha,fr⟩ ?_ ?_
     . rintro j σ' H2 hj ⟨v2,v3,n2,t2,kvs,ks,rfl,hd2,hD2,ek,ha,fr⟩
       rw[zbL]
       refine⟨_,rfl,d,12,n2,sd,t2,rfl,hd2,by decide,by decide,λr n3 t3 r0 r1=>?_⟩
       have hsq:=Nk (zam hi) hm
       let G:Hp->Prop:=λH'=>∃(kvs:List (List qL×V)),H' d=some (.dK (src n3 sd t3))/\H' D=some (.dT kvs)/\M9 m i j kvs/\Fr H d H'
       have g0:G (upd H2 d (.dK (src n3 sd t3))):=⟨kvs,qd,(by rw[qg nDd];exact hD2),⟨ks,ha,.inl ek⟩,fr.at_d⟩
       have put:∀H',G H'->∀E:Q8,(∀H',G H'->E.nx [some (.ref d),some (.int m),some (.int sh),some (.int lo),some (.ref D),some (.int i),some (.int j),some (.int r)] H')->
           Nv (qO 4) (WV (ji (qO 5) (ji (qO 6) QR))) (tC (.bl true)) E [some (.ref d),some (.int m),some (.int sh),some (.int lo),some (.ref D),some (.int i),some (.int j),some (.int r)] H':=by
         rintro H' ⟨kvs,h1,h2,h3,h4⟩ E k
         refine⟨_,rfl,_,rfl,_,rfl,by show 2<=sizeLine;decide,λp hp=>?_⟩
         have npd:p≠d:=λe=>by rw[e,h1]at hp;cases hp
         have npD:p≠D:=λe=>by rw[e,h2]at hp;cases hp
         refine⟨D,_,rfl,Q6.t (k:=zU (up (i,j))) (kvs:=kvs) (by rw[qg (Ne.symm npD)];exact h2) qd (ql (by have:=h3.len;omega)),?_⟩
         refine k _ ⟨_,?_,qd,h3.put _,?_⟩
         . rw[qg (Ne.symm nDd),qg (Ne.symm npd)]
           exact h1
         . exact(h4.new hp).own hD
       refine Xv ?_
       dsimp only[List.set]
       refine Yr G g0 ?_ (put _ g0) λH3 g3=>?_
       . exact vF.and (λQ q=>⟨_,rfl,rfl,_,rfl,q _⟩) (.or (.and (λQ q=>⟨_,rfl,_,rfl,_,_,rfl,rfl,_,rfl,q _⟩) (λQ q=>⟨_,rfl,_,_,rfl,rfl,_,rfl,q _⟩)) (.and (λQ q=>⟨_,rfl,_,rfl,_,_,rfl,rfl,_,rfl,q _⟩) (λQ q=>⟨_,rfl,_,_,rfl,rfl,_,rfl,q _⟩)))
       refine Yr G g3 ?_ (put _ g3) λH4 g4=>?_
       . exact vF.and (λQ q=>⟨_,rfl,rfl,_,rfl,q _⟩) (λQ q=>⟨_,rfl,_,_,rfl,rfl,_,rfl,q _⟩)
       refine Yr G g4 ?_ (put _ g4) λH5 g5=>?_
       . exact vF.and (λQ q=>⟨_,rfl,rfl,_,rfl,q _⟩) (.or (.and (λQ q=>⟨_,rfl,_,rfl,_,_,rfl,rfl,_,rfl,_,_,rfl,rfl,(by show (0:Int) < m;omega),rfl,_,rfl,q _⟩) (λQ q=>⟨_,rfl,_,_,rfl,rfl,_,rfl,q _⟩)) (λQ q=>⟨_,rfl,_,_,rfl,rfl,_,rfl,q _⟩))
       refine Yr G g5 ?_ (put _ g5) λH6 g6=>?_
       . exact vF.and (λQ q=>⟨_,rfl,rfl,_,rfl,q _⟩) (.and (λQ q=>⟨_,rfl,_,rfl,_,_,rfl,rfl,_,rfl,q _⟩) (.or (λQ q=>⟨_,rfl,_,rfl,_,_,rfl,rfl,_,rfl,q _⟩) (λQ q=>⟨_,rfl,_,_,rfl,rfl,_,rfl,q _⟩)))
       refine Kd G g6 ?_ (put _ g6) λH7 g7=>?_
       . exact vF.and (λQ q=>⟨_,rfl,rfl,_,rfl,q _⟩) (.or (.and (λQ q=>⟨_,rfl,_,rfl,_,_,rfl,rfl,_,rfl,q _⟩) (λQ q=>⟨_,rfl,_,rfl,_,_,rfl,rfl,_,rfl,q _⟩)) (.and (λQ q=>⟨_,rfl,_,rfl,_,_,rfl,rfl,_,rfl,q _⟩) (λQ q=>⟨_,rfl,_,_,rfl,rfl,_,rfl,q _⟩)))
       obtain⟨kvs,h1,h2,⟨ks,ha,h3⟩,h4⟩:=g7
       rcases h3 with h3 | h3
       . exact⟨_,_,n3,t3,kvs,ks,rfl,h1,h2,h3,ha.more,h4⟩
       . exact⟨_,_,n3,t3,kvs,_,rfl,h1,h2,h3,ha.snoc hj,h4⟩
     . rintro σ' H2 ⟨v2,v3,n2,t2,kvs,ks,rfl,hd2,hD2,ek,ha,fr⟩
       exact⟨_,_,_,n2,t2,kvs,ks,rfl,hd2,hD2,ek,ha.row,fr⟩
   . rintro σ' H1 ⟨v1,v2,v3,n1,t1,kvs,ks,rfl,hd1,hD1,ek,ha,fr⟩
     have hl:kvs.length=ks.length:=by simpa using congrArg zaN ek
     have hsq:=Nk (tq m) hm
     have hal:=ha.len
     refine⟨_,rfl,D,kvs,ks.map up,rfl,hD1,?_,?_,by omega,λl ps hfl lps tup=>?_⟩
     . rw[ek,zbl]
       rfl
     . intro i k k' e1 e2
       rw[tN]at e1 e2
       cases e3:ks[i]? with
       | none=>rw[e3]at e1;cases e1
       | some a=>
         cases e4:ks[i+1]? with
         | none=>rw[e4]at e2;cases e2
         | some b=>
           rw[e3]at e1
           rw[e4]at e2
           obtain rfl:=(tL.inj e1).symm
           obtain rfl:=(tL.inj e2).symm
           have h5:=zaO.mp ha.ord i (i+1) (tw.mp e3).1 (tw.mp e4).1 (zaM _)
           rw[(tw.mp e3).2,(tw.mp e4).2]at h5
           unfold Nz at h5
           show Xj _ _
           unfold Xj
           show (a.1:Int) < b.1\/((a.1:Int)=b.1/\(a.2:Int) < b.2)
           omega
     . refine⟨40,rfl,l,_,rfl,.of qd,λl2 hl2=>?_⟩
       rw[qbb,<-zcy]
       have n2d:l2≠d:=λe=>by
         rw[e,qm hd1 hfl]at hl2
         cases hl2
       have hl1:H1 l2=none:=by
         by_cases e:l2=l
         . rw[e];exact hfl
         . rw[qg e]at hl2;exact hl2
       have fr2:=(fr.new (o:=.lst (ps.map V.ref)) hfl).new (o:=.lst ((ps.take 40).map V.ref)) hl2
       refine q l2 (ps.take 40) (ks.take 40) n1 t1 _ (fr.fresh hd1 hl1) qd ⟨?_,λi p k e1 e2=>?_⟩ ?_ ?_ ?_ ?_ fr2
       . rw[tU,tU,lps,tj]
       . have i40:i < 40:=by
           have:=(tw.mp e1).1
           rw[tU]at this
           omega
         rw[zcc i40]at e1 e2
         have h1:=tup i p (up k) e1 (by rw[tN,e2];rfl)
         exact qm (qm h1 hfl) hl2
       . exact ha.ord.sublist (zcY _ _)
       . intro x hx
         have:=ha.lt x (zaK hx)
         omega
       . rw[tU]
         omega
       . exact qm (qm hd1 hfl) hl2
end
open PySem L2 PyProof.Rows
structure qy (rs:List (Str×List Str)):Prop where
 nm:∀r∈rs,je r.1=true
 nd:(rs.map (·.1)).Nodup
 to:∀r∈rs,∀z∈r.2,z∈rs.map (·.1)
 rd:∀r∈rs,r.2.Nodup
 few:(rs.map λr=>r.2.length).sum<=40
def jG (zs:List Str) (j:Nat):Str:=zs.getD j ⟨#[]⟩
theorem ZS {zs:List Str} {j:Nat} (h:j < zs.length):jG zs j∈zs:=by
 unfold jG
 rw[zaC,tF h]
 exact zcw h
theorem Yh {zs:List Str} {j:Nat} (h:j < zs.length):zs[j]?=some (jG zs j):=by
 unfold jG
 rw[zaC,tF h]
 rfl
theorem WQ {zs:List Str} (hn:zs.Nodup) {i j:Nat} (hi:i < zs.length) (hj:j < zs.length) (h:jG zs i=jG zs j):i=j:=by
 have h1:=Yh hi
 have h2:=Yh hj
 rw[h,<-h2,tF hi,tF hj]at h1
 have e:zs[i]=zs[j]:=tL.inj h1
 rcases zaX i j with l | l | l
 . exact absurd e (zaO.mp hn i j hi hj l)
 . exact l
 . exact absurd e.symm (zaO.mp hn j i hj hi l)
theorem Ju {α β:Type} {f:α->β}:∀{l:List α},l.Nodup->(∀a∈l,∀b∈l,f a=f b->a=b)->(l.map f).Nodup
 | [],_,_=>zbs
 | a::l,h,k=>by
   rw[tQ,zaA]
   rw[zaA]at h
   refine⟨λz=>?_,Ju h.2 λx hx y hy=>k x (tY _ hx) y (tY _ hy)⟩
   obtain⟨b,hb,e⟩:=tE.mp z
   have:=k b (tY _ hb) a (zab) e
   subst this
   exact h.1 hb
def Wb (ks:List (Nat×Nat)) (k:Nat):List Nat:=(ks.filter λx=>decide (x.1=k)).map (·.2)
theorem yE {ks:List (Nat×Nat)} (h:ks.Pairwise Nz) (k:Nat):(Wb ks k).Nodup:=by
 have h1:(ks.filter λx=>decide (x.1=k)).Pairwise Nz:=h.sublist (zbg)
 refine zdN.mpr (zdF.imp_of_mem (λ{a b} ha hb r=>?_) h1)
 have e1:a.1=k:=of_decide_eq_true (zae.mp ha).2
 have e2:b.1=k:=of_decide_eq_true (zae.mp hb).2
 unfold Nz at r
 omega
theorem UR {ks:List (Nat×Nat)} {m:Nat} (h:∀x∈ks,x.1 < m/\x.2 < m) (k:Nat):∀j∈Wb ks k,j < m:=λj hj=>by
 obtain⟨x,hx,e⟩:=tE.mp hj
 have:=(h x (zae.mp hx).1).2
 omega
theorem KU (os:List Nat) (f g:Nat->Nat):(os.map λk=>f k+g k).sum=(os.map f).sum+(os.map g).sum:=by
 induction os with
 | nil=>rfl
 | cons a os ih=>
   simp only[tQ,zax,ih]
   omega
theorem KS {os:List Nat} (h:os.Nodup) (a:Nat):(os.map λk=>if a=k then 1 else 0).sum<=1:=by
 induction os with
 | nil=>exact zal _
 | cons b os ih=>
   rw[zaA]at h
   rw[tQ,zax]
   by_cases e:a=b
   . subst e
     have z:(os.map λk=>if a=k then 1 else 0)=os.map λ_=>0:=zaS λk hk=>by
       rw[if_neg]
       intro e
       subst e
       exact h.1 hk
     rw[z,if_pos rfl]
     have:(os.map λ_=>0).sum=0:=by
       clear z ih h
       induction os with
       | nil=>rfl
       | cons c os ih=>rw[tQ,zax,ih]
     omega
   . rw[if_neg e]
     have:=ih h.2
     omega
theorem vQ {os:List Nat} (h:os.Nodup):∀ks:List (Nat×Nat),(os.map λk=>(Wb ks k).length).sum<=ks.length
 | []=>by
   have:(os.map λk=>(Wb [] k).length).sum=0:=by
     clear h
     induction os with
     | nil=>rfl
     | cons c os ih=>rw[tQ,zax,ih];rfl
   omega
 | x::ks=>by
   have e:(os.map λk=>(Wb (x::ks) k).length)=os.map λk=>(if x.1=k then 1 else 0)+(Wb ks k).length:=zaS λk _=>by
     unfold Wb
     rw[zaR]
     by_cases z:x.1=k
     . rw[if_pos (decide_eq_true z),if_pos z]
       simp only[tQ,zao]
       omega
     . rw[if_neg (by simpa using z),if_neg z,zdm]
   rw[e,KU,zao]
   have:=KS h x.1
   have:=vQ h ks
   omega
def Jq (zs:List Str) (ks:List (Nat×Nat)) (ab:Bool) (k:Nat):Str×List Str:=
 (jG zs k,if ab=true then ((Wb ks k).map (jG zs)).reverse else (Wb ks k).map (jG zs))
theorem yP {zs:List Str} {ks:List (Nat×Nat)} {ab:Bool} {k:Nat} {z:Str}:z∈(Jq zs ks ab k).2↔z∈(Wb ks k).map (jG zs):=by
 unfold Jq
 cases ab
 . rw[if_neg tK]
 . rw[if_pos rfl,zbA]
theorem yQ {zs:List Str} {ks:List (Nat×Nat)} {ab:Bool} {k:Nat}:(Jq zs ks ab k).2.length=(Wb ks k).length:=by
 unfold Jq
 cases ab
 . rw[if_neg tK,tj]
 . rw[if_pos rfl,zbf,tj]
structure UJ (m:Nat) (os:List Nat):Prop where
 len:os.length=m
 nd:os.Nodup
 lt:∀k∈os,k < m
 all:∀j,j < m->j∈os
theorem xB {zs:List Str} {ks:List (Nat×Nat)} {os:List Nat} {m:Nat} (ab:Bool) (hz:zs.length=m) (hN:∀z∈zs,je z=true) (hd:zs.Nodup) (hk:ks.Pairwise Nz) (hl:∀x∈ks,x.1 < m/\x.2 < m) (h40:ks.length<=40) (ho:UJ m os):
   qy (os.map (Jq zs ks ab)):=by
 have e1:(os.map (Jq zs ks ab)).map (·.1)=os.map (jG zs):=by rw[zbl];rfl
 have inj:∀a∈os,∀b∈os,jG zs a=jG zs b->a=b:=λa ha b hb e=>WQ hd (by rw[hz];exact ho.lt a ha) (by rw[hz];exact ho.lt b hb) e
 refine⟨λr hr=>?_,?_,λr hr z hz'=>?_,λr hr=>?_,?_⟩
 . obtain⟨k,hk',rfl⟩:=tE.mp hr
   exact hN _ (ZS (by rw[hz];exact ho.lt k hk'))
 . rw[e1]
   exact Ju ho.nd inj
 . obtain⟨k,hk',rfl⟩:=tE.mp hr
   rw[yP]at hz'
   obtain⟨j,hj,rfl⟩:=tE.mp hz'
   rw[e1]
   exact tE.mpr ⟨j,ho.all j (UR hl k j hj),rfl⟩
 . obtain⟨k,hk',rfl⟩:=tE.mp hr
   have h1:((Wb ks k).map (jG zs)).Nodup:=Ju (yE hk k) λa ha b hb e=>WQ hd (by rw[hz];exact UR hl k a ha) (by rw[hz];exact UR hl k b hb) e
   show (if ab=true then _ else _:List Str).Nodup
   cases ab
   . rw[if_neg tK]
     exact h1
   . rw[if_pos rfl]
     exact zct.mpr (h1.imp λh=>Ne.symm h)
 . have e2:((os.map (Jq zs ks ab)).map λr=>r.2.length)=os.map λk=>(Wb ks k).length:=by
     rw[zbl]
     exact zaS λk _=>yQ
   rw[e2]
   exact zaa (vQ ho.nd ks) h40
theorem ud (m:Nat):UJ m (tM m):=⟨zag,zbJ,λk h=>zap.mp h,λj h=>zap.mpr h⟩
theorem U6 (m:Nat):UJ m (zf m):=⟨by rw[zf,zbf,zag],zct.mpr (zbJ.imp λh=>Ne.symm h),λk h=>zap.mp (zbA.mp h),λj h=>zbA.mpr (zap.mpr h)⟩
def z5 (m:Nat):List Nat:=(tM m).map λk=>k*5 % m
theorem xI:∀m,m < 15->(z5 m).Nodup->∀j,j < m->j∈z5 m:=by decide+kernel
theorem Uf {m:Nat} (hm:m<=14) (h0:0 < m) (h:(z5 m).Nodup):UJ m (z5 m):=
 ⟨by rw[z5,tj,zag],h,λk hk=>by obtain⟨x,_,rfl⟩:=tE.mp hk;exact Nat.mod_lt _ h0,xI m (by omega) h⟩
theorem Wr (val:Nat->Int):∀i,(firstMet val i).length=i->((tM i).map val).Nodup
 | 0,_=>zbs
 | i+1,h=>by
   have h1:=firstMet_any val i (val i)
   have h2:=firstMet_length_le val i
   rw[firstMet_succ]at h
   unfold step_dedup at h
   split at h
   . omega
   . rename_i z
     rw[tI,zaL]at h
     rw[zbm,tG,zdb]
     refine⟨Wr val i (by omega),by simp,λa ha b hb e=>?_⟩
     have eb:b=val i:=by simpa using hb
     subst eb
     subst e
     refine z ?_
     rw[h1,zbk]
     exact⟨_,ha,by simp⟩
theorem Mo {os:List Nat} (h:¬(firstMet (λi=>(os.map λk=>((k:Nat):Int)).getD i 0) (os.map λk=>((k:Nat):Int)).length).length < os.length):os.Nodup:=by
 have h1:=firstMet_length_le (λi=>(os.map λk=>((k:Nat):Int)).getD i 0) (os.map λk=>((k:Nat):Int)).length
 have h2:=Wr (λi=>(os.map λk=>((k:Nat):Int)).getD i 0) (os.map λk=>((k:Nat):Int)).length (by rw[tj]at h1 h ⊢;omega)
 have e:(tM (os.map λk=>((k:Nat):Int)).length).map (λi=>(os.map λk=>((k:Nat):Int)).getD i 0)=os.map λk=>((k:Nat):Int):=by
   refine zcm λi=>?_
   rw[tN]
   by_cases hi:i < (os.map λk=>((k:Nat):Int)).length
   . rw[zbx hi,tF hi]
     simp only[zcg,zaC,tF hi,Option.getD_some]
   . rw[zaT (by rw[zag];omega),zaT (by omega)]
     rfl
 rw[e]at h2
 refine(zdN.mp h2).imp λh e=>h (by rw[e])
open PySem L2 PyProof.Rows
def qQ (H:Hp) (ps:List Addr) (rs:List (Str×List Str)):Prop:=ps.length=rs.length/\∀(i:Nat) (p:Addr) (r:Str×List Str),ps[i]?=some p->rs[i]?=some r->∃q,H p=some (.tup [.str r.1,.ref q])/\H q=some (.tup (r.2.map V.str))
def wj:Sp:=λvs H Q _=>∃(d:Addr) (mo:Nat) (n s t:Int),vs=[.ref d,.int mo]/\H d=some (.dK (src n s t))/\0 < mo/\mo<=14/\
 ∀(l:Addr) (ps:List Addr) (rs:List (Str×List Str)) (n' t':Int) (H':Hp),H l=none->H' l=some (.lst (ps.map V.ref))->qQ H' ps rs->qy rs->0 < rs.length->rs.length<=mo->H' d=some (.dK (src n' s t'))->Fr H d H'->Q (.ref l) H'
structure Qd (mg:Str->Option Value):Prop where
 srt:mg "sorted"=none
 lst:mg "list"=none
 rev:mg "reversed"=none
 set:mg "set"=none
 tup:mg "tuple"=none
theorem qQ.mono {H H':Hp} {ps:List Addr} {rs:List (Str×List Str)} (h:qQ H ps rs) (s:Same H H'):qQ H' ps rs:=⟨h.1,λi p r e1 e2=>let ⟨q,a,b⟩:=h.2 i p r e1 e2;⟨q,s _ _ a,s _ _ b⟩⟩
theorem Zy.mono {H H':Hp} {ps:List Addr} {ks:List (Nat×Nat)} (h:Zy H ps ks) (s:Same H H'):Zy H' ps ks:=⟨h.1,λi p k e1 e2=>s _ _ (h.2 i p k e1 e2)⟩
theorem Fr.same {H H' H'':Hp} {d:Addr} (h:Fr H d H') (s:Same H' H''):Fr H d H'':=λb u hb hn=>s _ _ (h b u hb hn)
theorem qQ.snoc {H:Hp} {ps:List Addr} {rs:List (Str×List Str)} (h:qQ H ps rs) {p q:Addr} {r:Str×List Str} (hp:H p=some (.tup [.str r.1,.ref q])) (hq:H q=some (.tup (r.2.map V.str))):qQ H (ps++[p]) (rs++[r]):=by
 refine⟨by rw[tI,tI,h.1];rfl,λi p' r' e1 e2=>?_⟩
 by_cases hi:i < ps.length
 . rw[zaG hi]at e1
   rw[zaG (by rw[<-h.1];exact hi)]at e2
   exact h.2 i p' r' e1 e2
 . have hi':i=ps.length:=by
     have:=(tw.mp e1).1
     rw[tI,zaL]at this
     omega
   subst hi'
   rw[zar (tq _),zcp]at e1
   rw[h.1,zar (tq _),zcp]at e2
   obtain rfl:=(tL.inj e1).symm
   obtain rfl:=(tL.inj e2).symm
   exact⟨q,hp,hq⟩
theorem qQ.upd_lst {H:Hp} {ps:List Addr} {rs:List (Str×List Str)} {l:Addr} {xs:List V} {o:HO} (h:qQ H ps rs) (hl:H l=some (.lst xs)):qQ (upd H l o) ps rs:=by
 refine⟨h.1,λi p r e1 e2=>?_⟩
 obtain⟨q,a,b⟩:=h.2 i p r e1 e2
 refine⟨q,?_,?_⟩
 . rw[qg (λe=>by rw[e,hl]at a;cases a)]
   exact a
 . rw[qg (λe=>by rw[e,hl]at b;cases b)]
   exact b
theorem vo {tc:TT} {tp u:TS} {D:Q8} {σ:L2.St} {H0:Hp} (R:Bool->Hp->Prop) (G:L2.St->Hp->Prop) (ht:∀Q:Bool->Hp->Prop,(∀b H1,R b H1->Q b H1)->tc σ H0 Q)
   (hT:∀H1,R true H1->∀D':Q8,(∀σ' H',G σ' H'->D'.nx σ' H')->tp D' σ H1) (hF:∀H1,R false H1->G σ H1) (k:∀σ' H',G σ' H'->u D σ' H'):NI (KP tc tp vS) u D σ H0:=
 ht _ λb H1 r=>by
   cases b
   . exact jh (k _ _ (hF _ r))
   . exact j8 (hT _ r _ k)
theorem VL {zs:List Str} {j:Nat} (h:j < zs.length):UM (zs.map V.str) ((j:Nat):Int)=some (V.str (jG zs j)):=Zx (by rw[tN,Yh h];rfl)
theorem xZ {ks:List (Nat×Nat)} {j:Nat} {x:Nat×Nat} (k:Nat) (h:ks[j]?=some x):Wb (ks.take (j+1)) k=Wb (ks.take j) k++if x.1=k then [x.2] else []:=by
 unfold Wb
 rw[tS,h,zaP,tG]
 congr 1
 by_cases e:x.1=k
 . rw[if_pos e]
   simp [e]
 . rw[if_neg e]
   simp [e]
abbrev oL (os:List Nat):List V:=os.map λk=>V.int ((k:Nat):Int)
theorem Rr (os:List Nat):oL os=(os.map λk=>((k:Nat):Int)).map V.int:=by rw[zbl];rfl
section
variable {P:Program} {w:World} {K:PySem.W.Frag} {mg:Str->Option Value} {base:Heap}
abbrev qaQ:List Str:=["_law_source_here","_law_most","_law_many","_law_names_here","_law_shape","_law_pairs","_law_about","_law_order","_law_rows_here","_law_k","_law_leads_here"]
theorem QM:qr qaQ ["_law_source_here","_law_most"] (qk ky):=⟨rfl,rfl,rfl,by decide+kernel,rfl,by decide+kernel,by decide+kernel⟩
abbrev qbd:List Str:=["_law_one","_law_j","_law_k","_law_names_here"]
theorem ym:qbd.Nodup:=by decide+kernel
theorem G0 {f fT fN fL:Addr} {fd fdT fdN fdL:FuncData} (F:jQ K "_law_rows" "_law_rows" ky f fd) (B:Qy mg) (G:Qd mg) (hT:jm K mg "_law_take" ZF ["_law_source_here","_law_many"] fT fdT)
   (hN:jm K mg "_law_names" zw ["_law_source_here","_law_many"] fN fdN) (hL:jm K mg "_law_leads" YO Y0 fL fdL):qo P w K mg base qN 3 f fd ["_law_source_here","_law_most"] wj:=by
 have GT:qo P w K mg base qN 1 fT fdT ["_law_source_here","_law_many"] JM:=JR hT.fn
 have GN:qo P w K mg base qN 2 fN fdN ["_law_source_here","_law_many"] W3:=Ul hN.fn B hT
 have GL:qo P w K mg base qN 2 fL fdL Y0 kj:=uB hL.fn B G.srt hT
 refine F.okJ QM (λvs H Q E h=>?_) (λcdv A outer s H vs Q E hr h=>?_)
 . obtain⟨d,m,n,sd,t,rfl,_⟩:=h
   rfl
 . obtain⟨d,mo,n,sd,t,rfl,hd,hmo,hm14,q⟩:=h
   have r1:qR 1 _:=hr.mono (by decide)
   refine⟨_,qf (qv (i:=2) QM.nd rfl (Or.inr rfl) (qJ QN qj (qH hT GT r1 (by rfl) (qb (jv 0) (qb (jv 1) qe)))))
     (qf (qv (i:=3) QM.nd rfl (Or.inr rfl) (qH hN GN hr (by rfl) (qb (jv 0) (qb (jv 2) qe))))
     (qf (qv (i:=4) QM.nd rfl (Or.inl rfl) (qH hT GT r1 (by rfl) (qb (jv 0) (qb qj qe))))
     (qf (qv (i:=5) QM.nd rfl (Or.inl rfl) (qH hL GL hr (by rfl) (qb (jv 0) (qb (jv 2) (qb (jv 4) (qb (qJ QN qj (qH hT GT r1 (by rfl) (qb (jv 0) (qb qj qe)))) qe))))))
     (qf (qv (i:=6) QM.nd rfl (Or.inl rfl) (Qa j5 (qH hT GT r1 (by rfl) (qb (jv 0) (qb qj qe))) qj (qx _)))
     (qf (qv (i:=7) QM.nd rfl (Or.inl rfl) (qa0 rfl (by rfl) G.lst (by rfl) B.rng (jv 2)))
     (qf (qM (jL (jv 6)) (qh (Q5 (i:=7) (N':=["_law_k","_law_many"]) (ix:=[none,some 2]) QM.nd rfl (Or.inl rfl) rfl ⟨rfl,rfl,rfl,rfl,rfl⟩ (jd (by rfl) B.rng (qb (jv 2) qe))
         (λC s2 H2 fp pins=>⟨qu (i:=0) (show (["_law_k","_law_many"]:List Str).Nodup by decide+kernel) rfl (Or.inl rfl),ju,qJ Ji (qJ JQ (jv 0) qj) (jv 1)⟩))) qA)
     (qf (qM (qt Q4 (qB UG (by rfl) B.len boot_len (qb (jr (xM rfl) (by rfl) G.set boot_set (qb (jv 7) qe)) qe)) (jv 2) (qx _))
         (qh (qv (i:=7) QM.nd rfl (Or.inl rfl) (MB rfl (by rfl) G.lst (by rfl) G.rev (by rfl) B.rng (jv 2)))) qA)
     (qf (qv (i:=8) QM.nd rfl (Or.inl rfl) (jE qe))
     (qf (jg PassesOwn.never rfl (qG (jv 7)) (qu (i:=9) QM.nd rfl (Or.inr rfl))
       (qf (Q5 (i:=10) (N':=qbd) (ix:=[none,none,some 9,some 3]) (g:=RQ K 2 (Xw (Ql 0) (Xw (Ql 1) RS))) (te:=zm (yU K) (qO 3) (qO 1)) QM.nd rfl (Or.inl rfl) rfl ⟨rfl,rfl,rfl,rfl,rfl⟩ (qG (jv 5))
           (λC s2 H2 fp pins=>⟨ZN rfl (jz (qu (i:=0) ym rfl (Or.inl rfl)) (jz (qu (i:=1) ym rfl (Or.inl rfl)) JX)),
             jH (qt j5 (jv 0) (jv 2) (qx _)),qX jI (jv 3) (jv 1) (λ_ _=>rfl)⟩))
       (qf (qM (jL (jv 6)) (qh (jw (vm zaY zcS zcT Xh (jv 10)))) qA)
       (qh (jw (Xs zaY zbF zbG Jv (jv 8) (qb
         (qW (qb (qX jI (jv 3) (jv 9) (λ_ _=>rfl)) (qb (jr QH (by rfl) G.tup boot_tuple (qb (jv 10) qe)) qe))) qe)))))))
     (qh (qw (jv 8)))))))))))),?_⟩
   refine⟨_,rfl,_,rfl,d,mo,n,sd,t,rfl,hd,by omega,by omega,λr n1 t1 r0 r1=>⟨_,_,rfl,rfl,?_⟩⟩
   obtain⟨m,em,m0,m1⟩:∃m:Nat,1+r=(m:Int)/\0 < m/\m<=mo:=⟨(1+r).toNat,by omega,by omega,by omega⟩
   have em':(λi j:Int=>V.int (i+j)) 1 r=V.int (m:Int):=congrArg V.int em
   rw[em']
   refine⟨_,rfl,_,rfl,d,m,n1,sd,t1,rfl,qd,by omega,λlz zs n2 t2 H2 hlz hlz' zl zn znd hd2 fr2=>?_⟩
   have fr2:Fr H d H2:=Fr.refl.at_d.trans fr2
   refine⟨_,rfl,d,5,n2,sd,t2,rfl,hd2,by decide,by decide,λsh n3 t3 _ _=>?_⟩
   refine⟨_,rfl,_,rfl,_,rfl,_,rfl,d,5,n3,sd,t3,rfl,qd,by decide,by decide,λlw n4 t4 _ _=>⟨_,_,rfl,rfl,d,m,n4,sd,t4,sh,1+lw,rfl,qd,by omega,λlp ps ks n5 t5 H5 hlp hlp' pat kord klt k40 hd5 fr5=>?_⟩⟩
   have nzd:lz≠d:=λe=>by rw[e,qd]at hlz;cases hlz
   have hz5:H5 lz=some (.lst (zs.map V.str)):=fr5 _ _ (by rw[qg nzd,qg nzd];exact hlz') nzd
   have fr5:Fr H d H5:=fr2.at_d.at_d.trans fr5
   refine⟨_,rfl,d,2,n5,sd,t5,rfl,hd5,by decide,by decide,λab n6 t6 _ _=>⟨rfl,?_⟩⟩
   generalize decide (V.int ab=V.int 1)=b
   have npd:lp≠d:=λe=>by rw[e,qd]at hlp;cases hlp
   have fr6:Fr H d (upd H5 d (.dK (src n6 sd t6))):=fr5.at_d
   have hd6:upd H5 d (.dK (src n6 sd t6)) d=some (.dK (src n6 sd t6)):=qd
   have hz6:upd H5 d (.dK (src n6 sd t6)) lz=some (.lst (zs.map V.str)):=by rw[qg nzd];exact hz5
   have hp6:upd H5 d (.dK (src n6 sd t6)) lp=some (.lst (ps.map V.ref)):=by rw[qg npd];exact hlp'
   have pat6:Zy (upd H5 d (.dK (src n6 sd t6))) ps ks:=⟨pat.1,λi p k e1 e2=>by
     have h1:=pat.2 i p k e1 e2
     have:p≠d:=λe=>by rw[e,hd5]at h1;cases h1
     rw[qg this]
     exact h1⟩
   generalize upd H5 d (.dK (src n6 sd t6))=H6 at fr6 hd6 hz6 hp6 pat6
   refine⟨_,rfl,m,rfl,by omega,λlo hlo=>?_⟩
   refine Xv ?_
   dsimp only[List.set]
   refine vo (λc H'=>c=b/\H'=upd H6 lo (.lst (Nh m))) (λσ' H'=>∃lo os,σ'=[some (.ref d),some (.int mo),some (.int m),some (.ref lz),some (.int sh),some (.ref lp),some (.bl b),some (.ref lo),none,none,none]/\Same H6 H'/\H6 lo=none/\H' lo=some (.lst (oL os))/\(os=tM m\/os=z5 m))
     (λQ k=>⟨_,rfl,b,rfl,k _ _ ⟨rfl,rfl⟩⟩) ?_ ?_ ?_
   . rintro H1 ⟨rfl,rfl⟩ D' k
     refine⟨_,rfl,m,rfl,by omega,by omega,λD hD=>?_⟩
     refine Q0 (λi σ' H'=>∃v:Option V,σ'=[v,some (.int m)]/\H'=upd (upd H6 lo (.lst (Nh m))) D (.lst (oL ((tM i).map λk=>k*5 % m)))) ⟨none,rfl,rfl⟩ ?_ ?_
     . rintro i σ' H' hi ⟨v,rfl,rfl⟩
       rw[zbL]
       have hi:i < m:=by simpa using hi
       refine⟨_,rfl,_,_,rfl,rfl,.inl ⟨by omega,by omega⟩,_,rfl,_,_,rfl,rfl,(by show (0:Int) < m;omega),_,qd,?_,_,rfl,?_⟩
       . rw[tj,tj,zag]
         exact ql (by omega)
       . rw[jo,zbm,tG,oL,oL,tG]
         rfl
     . rintro σ' H' ⟨v,rfl,rfl⟩
       have hD6:H6 D=none:=by
         by_cases e:D=lo
         . rw[e];exact hlo
         . rw[qg e]at hD;exact hD
       exact k _ _ ⟨D,z5 m,rfl,λa u h=>qm (qm h hlo) hD,hD6,qd,.inr rfl⟩
   . rintro H1 ⟨rfl,rfl⟩
     exact⟨lo,tM m,rfl,qi hlo,hlo,qd,.inl rfl⟩
   rintro σ' H7 ⟨lo,os,rfl,s7,hlo6,hlo7,hos⟩
   have los:os.length=m:=by
     rcases hos with rfl | rfl
     . exact zag
     . rw[z5,tj,zag]
   refine vo (λc H'=>Same H7 H'/\(c=true\/os.Nodup)) (λσ' H'=>∃lo os,σ'=[some (.ref d),some (.int mo),some (.int m),some (.ref lz),some (.int sh),some (.ref lp),some (.bl b),some (.ref lo),none,none,none]/\Same H6 H'/\H' lo=some (.lst (oL os))/\UJ m os)
     ?_ ?_ ?_ ?_
   . intro Q k
     refine⟨_,rfl,lo,os.map (λk=>((k:Nat):Int)),rfl,.of (by rw[<-Rr];exact hlo7),by rw[tj,los];omega,λl S hl=>?_⟩
     refine⟨l,S,_,rfl,qd,_,rfl,_,_,rfl,rfl,_,rfl,k _ _ ⟨qi hl,?_⟩⟩
     by_cases h:(((firstMet (λi=>(os.map λk=>((k:Nat):Int)).getD i 0) (os.map λk=>((k:Nat):Int)).length).length:Nat):Int) < (m:Int)
     . exact .inl (decide_eq_true h)
     . exact .inr (Mo (by rw[los];omega))
   . rintro H1 ⟨s1,_⟩ D' k
     refine⟨_,rfl,m,rfl,by omega,λl hl=>?_⟩
     exact k _ _ ⟨l,zf m,rfl,λa u h=>qm (s1 _ _ (s7 _ _ h)) hl,qd,U6 m⟩
   . rintro H1 ⟨s1,h⟩
     have h:os.Nodup:=h.resolve_left (by decide)
     refine⟨lo,os,rfl,λa u h=>s1 _ _ (s7 _ _ h),s1 _ _ hlo7,?_⟩
     rcases hos with rfl | rfl
     . exact ud m
     . exact Uf (by omega) m0 h
   rintro σ' H8 ⟨lo,os,rfl,s8,hlo8,ho⟩
   refine⟨by show 0<=sizeLine;decide,λlr hlr=>⟨_,rfl,lo,rfl,⟨_,.of (qm hlo8 hlr)⟩,?_⟩⟩
   refine jn (K:=K) (a:=lo) (xs:=oL os) (λi σ' H'=>∃(v9 v10:Option V) (qs:List Addr),σ'=[some (.ref d),some (.int mo),some (.int m),some (.ref lz),some (.int sh),some (.ref lp),some (.bl b),some (.ref lo),some (.ref lr),v9,v10]/\
     Same H8 H'/\H' lr=some (.lst (qs.map V.ref))/\qQ H' qs ((os.take i).map (Jq zs ks b)))
     ⟨none,none,[],rfl,qi hlr,qd,rfl,λi p r e=>(nomatch e)⟩ (λi σ' H' _ ⟨_,_,_,_,s,_⟩=>.of (s _ _ hlo8)) ?_ ?_
   . rintro i x σ' H' hx ⟨v9,v10,qs,rfl,s9,hlr9,rat⟩
     have hix:i < os.length:=by
       have:=(tw.mp hx).1
       rwa [tj]at this
     obtain⟨k,hk⟩:∃k,os[i]?=some k:=⟨_,tF hix⟩
     have ex:x=V.int ((k:Nat):Int):=by
       rw[tN,hk]at hx
       exact(tL.inj hx).symm
     subst ex
     have hkm:k < m:=ho.lt k (t7 hk)
     refine⟨_,rfl,lp,rfl,⟨_,.of (s9 _ _ (s8 _ _ hp6))⟩,λD hD=>?_⟩
     have nDr:D≠lr:=λe=>by rw[e,hlr9]at hD;cases hD
     have hz9:H' lz=some (.lst (zs.map V.str)):=s9 _ _ (s8 _ _ hz6)
     have pat9:Zy H' ps ks:=pat6.mono λa u h=>s9 _ _ (s8 _ _ h)
     refine jN (K:=K) (a:=lp) (xs:=ps.map V.ref) (λj σ'' H''=>∃v0 v1:Option V,σ''=[v0,v1,some (.int k),some (.ref lz)]/\H''=upd H' D (.lst (((Wb (ks.take j) k).map (jG zs)).map V.str))) ⟨none,none,rfl,rfl⟩
       (λj σ'' G _ ⟨_,_,_,e⟩=>e▸.of (qm (s9 _ _ (s8 _ _ hp6)) hD)) ?_ ?_
     . rintro j y σ'' G hy ⟨v0,v1,rfl,rfl⟩
       have hj:j < ps.length:=by
         have:=(tw.mp hy).1
         rwa [tj]at this
       obtain⟨p,hp⟩:∃p,ps[j]?=some p:=⟨_,tF hj⟩
       obtain⟨kk,hkk⟩:∃p,ks[j]?=some p:=⟨_,tF (by rw[<-pat9.1];exact hj)⟩
       have ey:y=V.ref p:=by
         rw[tN,hp]at hy
         exact(tL.inj hy).symm
       subst ey
       have hpt:=pat9.2 j p kk hp hkk
       have hk2:kk.2 < zs.length:=by rw[zl];exact(klt kk (t7 hkk)).2
       refine⟨p,_,rfl,.of (qm hpt hD),rfl,_,_,rfl,_,_,rfl,rfl,_,rfl,_,rfl,rfl,_,rfl,?_⟩
       rw[xZ k hkk]
       by_cases e:kk.1=k
       . have e1:decide (V.int ((kk.1:Nat):Int)=V.int ((k:Nat):Int))=true:=decide_eq_true (by rw[e])
         rw[e1,if_pos e]
         refine j8 ⟨_,rfl,_,rfl,lz,_,_,_,rfl,rfl,.of (qm hz9 hD),VL hk2,_,qd,?_,_,_,rfl,?_⟩
         . rw[tj,tj]
           refine ql ?_
           have h1:(Wb (ks.take j) k).length<=(ks.take j).length:=by
             unfold Wb
             rw[tj]
             exact zaU _ _
           rw[tU]at h1
           omega
         . rw[jo,tG,tG]
           rfl
       . have e1:decide (V.int ((kk.1:Nat):Int)=V.int ((k:Nat):Int))=false:=decide_eq_false (by
           intro z
           have:=V.int.inj z
           omega)
         rw[e1,if_neg e,zaH]
         exact jh ⟨_,_,rfl,rfl⟩
     . rintro σ'' G ⟨v0,v1,rfl,rfl⟩
       rw[tj,pat9.1,tH (tq _)]
       refine Xv ?_
       dsimp only[List.set]
       refine vo (λc G=>c=b/\G=upd H' D (.lst (((Wb ks k).map (jG zs)).map V.str)))
         (λσ' G=>σ'=[some (.ref d),some (.int mo),some (.int m),some (.ref lz),some (.int sh),some (.ref lp),some (.bl b),some (.ref lo),some (.ref lr),some (.int k),some (.ref D)]/\G=upd H' D (.lst ((Jq zs ks b k).2.map V.str)))
         (λQ k=>⟨_,rfl,b,rfl,k _ _ ⟨rfl,rfl⟩⟩) ?_ ?_ ?_
       . rintro H1 ⟨rfl,rfl⟩ D' kk
         refine⟨_,rfl,.inl ⟨rfl,_,.of qd⟩,D,_,rfl,rfl,qd,?_⟩
         refine kk _ _ ⟨rfl,?_⟩
         rw[jo,Jq,if_pos rfl,zbZ]
       . rintro H1 ⟨rfl,rfl⟩
         exact⟨rfl,rfl⟩
       rintro σ' G ⟨rfl,rfl⟩
       have hlrG:upd H' D (.lst ((Jq zs ks b k).2.map V.str)) lr=some (.lst (qs.map V.ref)):=by rw[qg (Ne.symm nDr)];exact hlr9
       have sG:Same H' (upd H' D (.lst ((Jq zs ks b k).2.map V.str))):=qi hD
       refine⟨_,rfl,.inl ⟨rfl,_,.of hlrG⟩,_,rfl,_,rfl,lz,_,_,_,rfl,rfl,.of (sG _ _ hz9),VL (by rw[zl];exact hkm),_,rfl,D,_,rfl,.inl ⟨.of qd,λlq hq=>⟨by show 2<=sizeLine;decide,λlt hlt=>?_⟩⟩⟩
       have hqlr:=qm (o':=HO.tup ((Jq zs ks b k).2.map V.str)) hlrG hq
       have htlr:=qm (o':=HO.tup [V.str (jG zs k),V.ref lq]) hqlr hlt
       refine⟨lr,_,_,rfl,rfl,htlr,?_,_,_,qs++[lt],rfl,?_,?_,?_⟩
       . rw[tj,rat.1,tj,tU]
         refine ql ?_
         have:=ho.len
         omega
       . exact Same.upd (λa u h=>qm (qm (sG _ _ (s9 _ _ h)) hq) hlt) hlr
       . rw[tG]
         exact qd
       . have e:os.take (i+1)=os.take i++[k]:=by rw[tS,hk];rfl
         rw[e,tG]
         refine qQ.upd_lst ?_ htlr
         exact qQ.snoc (q:=lq) (rat.mono λa u h=>qm (qm (sG _ _ h) hq) hlt) qd (qm qd hlt)
   . rintro σ' H' ⟨v9,v10,qs,rfl,s9,hlr9,rat⟩
     have e:(oL os).length=os.length:=tj ..
     rw[e,tH (tq _)]at rat
     have h8:H6 lr=none:=by
       cases z:H6 lr with
       | none=>rfl
       | some u=>rw[s8 _ _ z]at hlr;cases hlr
     refine⟨_,rfl,q lr qs _ n6 t6 H' (fr6.fresh hd6 h8) hlr9 rat (xB b zl zn znd kord klt k40 ho) ?_ ?_ (s9 _ _ (s8 _ _ hd6)) (fr6.same λa u h=>s9 _ _ (s8 _ _ h))⟩
     . rw[tj,ho.len];exact m0
     . rw[tj,ho.len];exact m1
end
open PySem L2 PyProof.Rows
abbrev Wg:Stmt:=top 17
abbrev YS:Stmt:=top 18
abbrev kE:Stmt:=top 19
abbrev Gn:Stmt:=top 20
abbrev kF:Stmt:=top 21
abbrev Gs:Stmt:=top 22
abbrev V7:Stmt:=top 23
theorem Mh (x:Str):[x].Nodup:=by simp
structure Qn (K:PySem.W.Frag) (mg:Str->Option Value):Prop where
 isi:mg "isinstance"=none
 str:mg "str"=none
 all:mg "all"=none
 enu:mg "enumerate"=none
 sum:mg "sum"=none
 lets:∃t,mg "LETTERS"=some (.str yt t)
 lgst:∃t,mg "LONGEST_NAME"=some (.int 8 t)
 mp:∃t,mg "MOST_PLACES"=some (.int 14 t)
 mr:∃t,mg "MOST_ROADS"=some (.int 40 t)
 kss:zad K (.type "str") (.type "str")=some true
 ktt:zad K (.type "tuple") (.type "tuple")=some true
 kll:zad K (.type "list") (.type "list")=some true
theorem MG (c:Nat):(!(Builtin.Str.occurrences yt ⟨#[c]⟩ 0 yt.length 1).isEmpty)=jW c:=by
 rw[StrLaws.found_one,Kx]
 unfold jW
 rw[zaQ]
 simp only[decide_eq_true_eq,zas,tE,zap]
 constructor
 . rintro⟨k,hk,rfl⟩
   omega
 . intro h
   exact⟨c - 97,by omega,by omega⟩
theorem Kw (f:Nat->Bool) (l:List Nat) (i c:Nat) (h:l[i]?=some c):(l.take i).map f++[f c]=(l.take (i+1)).map f:=by
 rw[tS,h]
 simp
def KZ:Sp:=λvs H Q _=>∃z,vs=[.str z]/\je z=true/\∀H',Same H H'->Q (.bl true) H'
def qam:Sp:=λvs H Q _=>∃(q:Addr) (zs:List Str),vs=[.ref q]/\H q=some (.tup (zs.map V.str))/\(∀z∈zs,je z=true)/\zs.length<=1000/\∀H',Same H H'->Q (.bl true) H'
def Nm:Sp:=λvs H Q _=>∃(p q:Addr) (r:Str×List Str),vs=[.ref p]/\H p=some (.tup [.str r.1,.ref q])/\H q=some (.tup (r.2.map V.str))/\je r.1=true/\(∀z∈r.2,je z=true)/\r.2.length<=1000/\∀H',Same H H'->Q (.bl true) H'
structure jy (H:Hp) (l:Addr) (ps:List Addr) (rs:List (Str×List Str)):Prop where
 at_:H l=some (.lst (ps.map V.ref))
 rows:qQ H ps rs
 good:qy rs
 pos:0 < rs.length
 le:rs.length<=14
theorem jy.mono {H H':Hp} {l:Addr} {ps:List Addr} {rs:List (Str×List Str)} (h:jy H l ps rs) (s:Same H H'):jy H' l ps rs:=⟨s _ _ h.at_,h.rows.mono s,h.good,h.pos,h.le⟩
theorem qy.names {rs:List (Str×List Str)} (h:qy rs):∀r∈rs,∀z∈r.2,je z=true:=λr hr z hz=>by
 obtain⟨r',hr',rfl⟩:=tE.mp (h.to r hr z hz)
 exact h.nm r' hr'
theorem qy.len {rs:List (Str×List Str)} (h:qy rs):∀r∈rs,r.2.length<=40:=λr hr=>by
 refine zaa ?_ h.few
 have:∀(rs:List (Str×List Str)),r∈rs->r.2.length<=(rs.map λr=>r.2.length).sum:=by
   intro rs
   induction rs with
   | nil=>intro h;cases h
   | cons a rs ih=>
     intro h
     rw[tQ,zax]
     rcases tV.mp h with rfl | h
     . omega
     . have:=ih h
       omega
 exact this rs hr
theorem qQ.item {H:Hp} {ps:List Addr} {rs:List (Str×List Str)} (h:qQ H ps rs) {i:Nat} {x:V} (hx:(ps.map V.ref)[i]?=some x):∃p q r,x=.ref p/\rs[i]?=some r/\r∈rs/\H p=some (.tup [.str r.1,.ref q])/\H q=some (.tup (r.2.map V.str)):=by
 rw[tN]at hx
 cases e:ps[i]? with
 | none=>rw[e]at hx;cases hx
 | some p=>
   rw[e]at hx
   have hi:i < rs.length:=by
     have:=(tw.mp e).1
     rw[h.1]at this
     exact this
   obtain⟨q,a,b⟩:=h.2 i p _ e (tF hi)
   exact⟨p,q,_,(tL.inj hx).symm,tF hi,zcw hi,a,b⟩
def zq:Sp:=λvs H Q _=>∃(l:Addr) (ps:List Addr) (rs:List (Str×List Str)),vs=[.ref l]/\jy H l ps rs/\∀H',Same H H'->Q .non H'
def No:Sp:=λvs H Q _=>∃(l:Addr) (zs:List Str),vs=[.ref l]/\H l=some (.lst (zs.map V.str))/\zs.Nodup/\zs.length<=1000/\∀H',Same H H'->Q .non H'
def wx:Sp:=λvs H Q _=>∃(q l:Addr) (es zs:List Str),vs=[.ref q,.ref l]/\H q=some (.tup (es.map V.str))/\H l=some (.lst (zs.map V.str))/\es.Nodup/\(∀z∈es,z∈zs)/\es.length<=900/\∀H',Same H H'->Q .non H'
theorem Jm {kvs:List (qL×V)} {k:qL} (h:¬k∈kvs.map (·.1)):jl kvs k=none:=by
 cases e:jl kvs k with
 | none=>rfl
 | some v=>exact absurd (KL e) h
theorem zH (zs:List Str):(zs.map V.str).all J5=true:=by
 rw[zcl,zbc]
 intro z _
 rfl
theorem Vx {z:Str} {zs:List Str} (h:z∈zs):Jx (.str z) (zs.map V.str)=true:=by
 unfold Jx
 rw[zbk]
 exact⟨.str z,tE.mpr ⟨z,h,rfl⟩,by show (z==z)=true;simp⟩
section
variable {P:Program} {w:World} {K:PySem.W.Frag} {mg:Str->Option Value} {base:Heap}
theorem NT:qr ["thing"] ["thing"] (qk Z0):=⟨rfl,rfl,rfl,by decide+kernel,rfl,by decide+kernel,by decide+kernel⟩
theorem Vj {f:Addr} {fd:FuncData} (F:jQ K "is_name" "is_name" Z0 f fd) (B:Qy mg) (T:Qn K mg):qo P w K mg base qN 1 f fd ["thing"] KZ:=by
 refine F.okJ NT (λvs H Q E h=>?_) (λcdv A outer s H vs Q E hr h=>?_)
 . obtain⟨x,rfl,_⟩:=h
   rfl
 . obtain⟨z,rfl,hz,q⟩:=h
   obtain⟨tl,hlets⟩:=T.lets
   obtain⟨tg,hlg⟩:=T.lgst
   refine⟨_,qf (qM (QP (jL (qB jC (by rfl) T.isi boot_isinstance (qb (jv 0) (qb (QV (v:=.ty "str") (by rfl) T.str boot_str rfl) qe))))) (qh (qw jT)) qA)
     (qf (qM (Jd (qt Q4 (qB J1 (by rfl) B.len boot_len (qb (jv 0) qe)) qj (qx _))
         (QC (qt Zf (qB J1 (by rfl) B.len boot_len (qb (jv 0) qe)) (Qt (v:=.int 8) (by rfl) hlg ⟨_,rfl⟩) (qx _)))).pt (qh (qw jT)) qA)
     (qh (qw (qB (zK rfl) (by rfl) T.all boot_all (qb (jM (N':=["sign"]) (ix:=[none]) rfl ⟨rfl,rfl,rfl,rfl,rfl⟩ (My (jv 0)) (λC s2 H2 fp pins=>
       ⟨qu (i:=0) (Mh _) rfl (Or.inl rfl),ju,Qa y4 (jv 0) (Qt (v:=.str yt) (by rfl) hlets ⟨_,rfl⟩) (by with_unfolding_all rfl)⟩)) qe))))),?_⟩
   have hn:=hz
   unfold je at hn
   simp only[zas,decide_eq_true_eq]at hn
   obtain⟨⟨n1,n8⟩,na⟩:=hn
   have hz':z.length<=sizeLine:=zam (ql (by omega))
   refine⟨_,rfl,_,_,_,_,rfl,rfl,.str z,T.kss,_,rfl,jh ?_⟩
   refine⟨_,rfl,z,rfl,hz',_,_,rfl,rfl,_,rfl,?_⟩
   refine xr (λh=>?_) (λh=>?_)
   . exact absurd (of_decide_eq_true h) (by omega)
   . refine⟨_,rfl,z,rfl,hz',_,_,rfl,rfl,_,rfl,?_⟩
     refine xr (λh2=>?_) (λh2=>?_)
     . exact absurd (of_decide_eq_true h2) (by show ¬(8:Int) < (z.length:Int);omega)
     . refine⟨_,rfl,z,rfl,λD hD=>?_⟩
       refine R3 (λi σ' H'=>∃v,σ'=[v]/\H'=upd H D (.lst (((z.cps.toList.take i).map jW).map V.bl))) ⟨none,rfl,rfl⟩ ?_ ?_
       . rintro i c σ' H' hc ⟨v,rfl,rfl⟩
         refine⟨_,rfl,_,_,rfl,rfl,_,qd,?_,?_⟩
         . rw[tj,tj,tU]
           exact zaZ (zdi _ _) (ql (show z.cps.toList.length<=1000 by rw[zaF];exact zaa n8 (by decide)))
         . refine⟨_,rfl,?_⟩
           rw[jo,MG]
           have hc':z.cps.toList[i]?=some c:=by simpa using hc
           rw[<-Kw jW z.cps.toList i c hc',tG]
           rfl
       . rintro σ' H' ⟨v,rfl,rfl⟩
         refine⟨D,_,rfl,.of qd,?_⟩
         have e0:z.cps.toList.take z.cps.size=z.cps.toList:=tH (by simp)
         have e1:(z.cps.toList.map jW).all id=true:=by rw[zcl];exact na
         rw[e0,e1]
         exact q _ (qi hD)
theorem NR:qr ["thing"] ["thing"] (qk Wg):=⟨rfl,rfl,rfl,by decide+kernel,rfl,by decide+kernel,by decide+kernel⟩
theorem GZ {f fN:Addr} {fd fdN:FuncData} (F:jQ K "is_tuple_of_names" "is_tuple_of_names" Wg f fd) (B:Qy mg) (G:Qd mg) (T:Qn K mg) (hN:jm K mg "is_name" Z0 ["thing"] fN fdN):qo P w K mg base qN 2 f fd ["thing"] qam:=by
 have GN:qo P w K mg base qN 1 fN fdN ["thing"] KZ:=Vj hN.fn B T
 refine F.okJ NR (λvs H Q E h=>?_) (λcdv A outer s H vs Q E hr h=>?_)
 . obtain⟨x,zs,rfl,_⟩:=h
   rfl
 . obtain⟨x,zs,rfl,hx,hz,hl,q⟩:=h
   refine⟨_,qh (qw (Zh (qB jC (by rfl) T.isi boot_isinstance (qb (jv 0) (qb (QV (v:=.ty "tuple") (by rfl) G.tup boot_tuple rfl) qe)))
     (zE (qB (zK rfl) (by rfl) T.all boot_all (qb (jM (N':=["part"]) (ix:=[none]) rfl ⟨rfl,rfl,rfl,rfl,rfl⟩ (zD (jv 0)) (λC s2 H2 fp pins=>
       ⟨qu (i:=0) (Mh _) rfl (Or.inl rfl),ju,qH hN GN hr (by rfl) (qb (jv 0) qe)⟩)) qe))))),?_⟩
   refine⟨_,rfl,_,_,_,_,rfl,rfl,.tup hx,T.ktt,_,rfl,j8 ⟨_,rfl,x,rfl,⟨_,.of hx⟩,λD hD=>?_⟩⟩
   refine yn (K:=K) (a:=x) (xs:=zs.map V.str) (λi σ' H'=>∃v,σ'=[v]/\Same H H'/\H' D=some (.lst ((zah i true).map V.bl))) ⟨none,rfl,qi hD,qd⟩ (λi σ' H' _ ⟨_,_,s,_⟩=>.of (s _ _ hx)) ?_ ?_
   . rintro i y σ' H' hy ⟨v,rfl,s1,hD1⟩
     rw[tN]at hy
     cases e:zs[i]? with
     | none=>rw[e]at hy;cases hy
     | some z=>
       rw[e]at hy
       obtain rfl:=(tL.inj hy).symm
       have hi:=(tw.mp e).1
       refine⟨_,rfl,z,rfl,hz z (t7 e),λH2 s2=>⟨_,s2 _ _ hD1,?_,_,rfl,?_,?_⟩⟩
       . rw[tj,zds]
         exact ql (by omega)
       . exact Same.upd (s1.trans s2) hD
       . rw[qd,List.replicate_succ',tG]
         rfl
   . rintro σ' H' ⟨v,rfl,s1,hD1⟩
     refine⟨D,_,rfl,.of hD1,?_⟩
     have e:(zah (zs.map V.str).length true).all id=true:=by simp
     rw[e]
     exact q _ s1
theorem Ge:qr ["thing"] ["thing"] (qk YS):=⟨rfl,rfl,rfl,by decide+kernel,rfl,by decide+kernel,by decide+kernel⟩
theorem uD {f fN fP:Addr} {fd fdN fdP:FuncData} (F:jQ K "is_row" "is_row" YS f fd) (B:Qy mg) (G:Qd mg) (T:Qn K mg) (hN:jm K mg "is_name" Z0 ["thing"] fN fdN) (hP:jm K mg "is_tuple_of_names" Wg ["thing"] fP fdP):qo P w K mg base qN 3 f fd ["thing"] Nm:=by
 have GN:qo P w K mg base qN 1 fN fdN ["thing"] KZ:=Vj hN.fn B T
 have GP:qo P w K mg base qN 2 fP fdP ["thing"] qam:=GZ hP.fn B G T hN
 refine F.okJ Ge (λvs H Q E h=>?_) (λcdv A outer s H vs Q E hr h=>?_)
 . obtain⟨p,x,r,rfl,_⟩:=h
   rfl
 . obtain⟨p,x,r,rfl,hp,hx,hn,hz,hl,q⟩:=h
   refine⟨_,qf (qM (Jd (QP (jL (qB jC (by rfl) T.isi boot_isinstance (qb (jv 0) (qb (QV (v:=.ty "tuple") (by rfl) G.tup boot_tuple rfl) qe)))))
       (QC (qt Ug (qB qF (by rfl) B.len boot_len (qb (jv 0) qe)) qj (qx _)))).pt q5 qA)
     (qh (qw (Zh (qH hN GN (hr.mono (by decide)) (by rfl) (qb (qX jF (jv 0) qj (λ_ _=>rfl)) qe)) (zE (qH hP GP hr (by rfl) (qb (qX jF (jv 0) qj (λ_ _=>rfl)) qe)))))),?_⟩
   refine⟨_,rfl,_,_,_,_,rfl,rfl,.tup hp,T.ktt,_,rfl,jh ⟨_,rfl,p,_,rfl,.inr (.of hp),rfl,_,rfl,jh ?_⟩⟩
   refine⟨_,rfl,p,_,0,_,rfl,rfl,.of hp,rfl,r.1,rfl,hn,λH1 s1=>⟨_,rfl,j8 ?_⟩⟩
   exact⟨_,rfl,p,_,1,_,rfl,rfl,.of (s1 _ _ hp),rfl,x,r.2,rfl,s1 _ _ hx,hz,hl,λH2 s2=>q H2 (s1.trans s2)⟩
end
open PySem L2 PyProof.Rows
section
variable {P:Program} {w:World} {K:PySem.W.Frag} {mg:Str->Option Value} {base:Heap}
abbrev qaV:List Str:=["rows","number","row"]
theorem U0:qr qaV ["rows"] (qk kE):=⟨rfl,rfl,rfl,by decide+kernel,rfl,by decide+kernel,by decide+kernel⟩
theorem Rm {f fN fP fR:Addr} {fd fdN fdP fdR:FuncData} (F:jQ K "need_form" "need_form" kE f fd) (B:Qy mg) (G:Qd mg) (T:Qn K mg) (hN:jm K mg "is_name" Z0 ["thing"] fN fdN) (hP:jm K mg "is_tuple_of_names" Wg ["thing"] fP fdP)
   (hR:jm K mg "is_row" YS ["thing"] fR fdR):qo P w K mg base qN 4 f fd ["rows"] zq:=by
 have GR:qo P w K mg base qN 3 fR fdR ["thing"] Nm:=uD hR.fn B G T hN hP
 obtain⟨tm,hmp⟩:=T.mp
 refine F.okJ U0 (λvs H Q E h=>?_) (λcdv A outer s H vs Q E hr h=>?_)
 . obtain⟨l,ps,rs,rfl,_⟩:=h
   rfl
 . obtain⟨l,ps,rs,rfl,g,q⟩:=h
   refine⟨_,qf (qM (Jd (QP (jL (qB jC (by rfl) T.isi boot_isinstance (qb (jv 0) (qb (QV (v:=.ty "list") (by rfl) G.lst boot_list rfl) qe)))))
       (QC (qt j5 (qB qF (by rfl) B.len boot_len (qb (jv 0) qe)) qj (qx _)))).pt q5 qA)
     (qf (qM (qt Zf (qB qF (by rfl) B.len boot_len (qb (jv 0) qe)) (Qt (v:=.int 14) (by rfl) hmp ⟨_,rfl⟩) (qx _)) q5 qA)
     (qh (jg PassesOwn.never rfl (k6 (by rfl) T.enu (qb (jv 0) qe)) (ZN rfl (jz (qu (i:=1) U0.nd rfl (Or.inl rfl)) (jz (qu (i:=2) U0.nd rfl (Or.inl rfl)) JX)))
       (qh (qM (QP (jL (qH hR GR hr (by rfl) (qb (jv 2) qe)))) q5 qA))))),?_⟩
   have lp:(ps.map V.ref).length=rs.length:=by rw[tj,g.rows.1]
   refine⟨_,rfl,_,_,_,_,rfl,rfl,.lst g.at_,T.kll,_,rfl,jh ⟨_,rfl,l,_,rfl,.inl (.of g.at_),rfl,_,rfl,?_⟩⟩
   have e0:decide (V.int (((ps.map V.ref).length:Nat):Int)=V.int 0)=false:=decide_eq_false (by
     intro z
     have:=V.int.inj z
     have:=g.pos
     omega)
   rw[e0]
   refine jh ⟨_,rfl,l,_,rfl,.inl (.of g.at_),_,_,rfl,rfl,_,rfl,?_⟩
   have e1:decide ((14:Int) < (((ps.map V.ref).length:Nat):Int))=false:=decide_eq_false (by
     have:=g.le
     omega)
   refine xr (λz=>absurd z (by rw[e1];decide)) (λ_=>?_)
   refine⟨_,rfl,l,rfl,⟨_,.of g.at_⟩,?_⟩
   refine Ux (K:=K) (a:=l) (xs:=ps.map V.ref) (λi σ' H'=>∃v1 v2,σ'=[some (.ref l),v1,v2]/\Same H H') ⟨none,none,rfl,Same.refl H⟩ (λi σ' H' _ ⟨_,_,_,s⟩=>.of (s _ _ g.at_)) ?_ ?_
   . rintro i x σ' H' p hx hp ⟨v1,v2,rfl,s1⟩
     have g1:=g.mono (s1.trans (qi (o:=.tup [.int (i:Nat),x]) hp))
     obtain⟨p',q',r,rfl,_,hr',a,b⟩:=g1.rows.item hx
     refine⟨p,_,rfl,.of qd,rfl,_,_,rfl,_,_,rfl,rfl,_,rfl,p',q',r,rfl,a,b,g.good.nm r hr',g.good.names r hr',zaa (g.good.len r hr') (by decide),λH2 s2=>⟨_,rfl,jh ⟨_,_,rfl,?_⟩⟩⟩
     exact(s1.trans (qi hp)).trans s2
   . rintro σ' H' ⟨v1,v2,rfl,s1⟩
     exact q H' s1
abbrev qbX:List Str:=["order","ahead","name"]
theorem wJ:qr qbX ["order"] (qk Gn):=⟨rfl,rfl,rfl,by decide+kernel,rfl,by decide+kernel,by decide+kernel⟩
theorem Jt {zs:List Str} (hn:zs.Nodup) {i:Nat} {z:Str} (e:zs[i]?=some z):¬(Sum.inr z:qL)∈(zs.take i).map Sum.inr:=λh=>by
 obtain⟨y,hy,ey⟩:=tE.mp h
 have ey':y=z:=Sum.inr.inj ey
 subst ey'
 obtain⟨j,hj⟩:=zbt hy
 have hj1:=(tw.mp hj).1
 rw[tU]at hj1
 have hji:j < i:=by omega
 rw[zcc hji]at hj
 have h1:=(tw.mp hj)
 have h2:=(tw.mp e)
 exact absurd (h1.2.trans h2.2.symm) (zaO.mp hn j i h1.1 h2.1 hji)
theorem Vg {kvs:List (qL×V)} {k:qL} (v:V) (h:jl kvs k=none):(jR kvs k v).map (·.1)=kvs.map (·.1)++[k]:=by
 rw[Js v h,tG]
 rfl
theorem Mb {f:Addr} {fd:FuncData} (F:jQ K "need_own_names" "need_own_names" Gn f fd):qo P w K mg base qN 1 f fd ["order"] No:=by
 refine F.okJ wJ (λvs H Q E h=>?_) (λcdv A outer s H vs Q E hr h=>?_)
 . obtain⟨l,zs,rfl,_⟩:=h
   rfl
 . obtain⟨l,zs,rfl,hl,hn,hz,q⟩:=h
   have hu:=Qu hr
   refine⟨_,qf (qv (i:=1) wJ.nd rfl (Or.inl rfl) j7)
     (qh (jg PassesOwn.never rfl (qG (jv 0)) (qu (i:=2) wJ.nd rfl (Or.inl rfl))
       (qf (qM (QE (Zi hu (jv 2) (jv 1))) q5 qA) (qh (jx hu (jv 1) (jv 2) jT rfl))))),?_⟩
   intro D hD
   refine⟨_,rfl,l,rfl,⟨_,.of (qm hl hD)⟩,?_⟩
   refine jn (K:=K) (a:=l) (xs:=zs.map V.str) (λi σ' H'=>∃v kvs,σ'=[some (.ref l),some (.ref D),v]/\Same H H'/\H' D=some (.dK kvs)/\kvs.map (·.1)=(zs.take i).map Sum.inr) ⟨none,[],rfl,qi hD,qd,rfl⟩ (λi σ' H' _ ⟨_,_,_,s,_⟩=>.of (s _ _ hl)) ?_ ?_
   . rintro i x σ' H' hx ⟨v,kvs,rfl,s1,hD1,ek⟩
     rw[tN]at hx
     cases e:zs[i]? with
     | none=>rw[e]at hx;cases hx
     | some z=>
       rw[e]at hx
       obtain rfl:=(tL.inj hx).symm
       have hi:=(tw.mp e).1
       have ez:jl kvs (Sum.inr z:qL)=none:=Jm (by rw[ek];exact Jt hn e)
       have gz:Qp H' D (.str z) none:=by
         have:=Qp.k (k:=(Sum.inr z:qL)) hD1
         rw[ez]at this
         exact this
       have lk:kvs.length < sizeLine:=by
         have:=congrArg zaN ek
         rw[tj,tj,tU]at this
         exact ql (by omega)
       refine⟨_,rfl,_,rfl,D,none,rfl,gz,_,rfl,jh ?_⟩
       refine⟨_,rfl,_,rfl,D,_,rfl,Q6.k (k:=(Sum.inr z:qL)) hD1 lk,_,_,rfl,Same.upd s1 hD,qd,?_⟩
       rw[Vg _ ez,ek,tS,e,tG]
       rfl
   . rintro σ' H' ⟨v,kvs,rfl,s1,_⟩
     exact q H' s1
abbrev qaW:List Str:=["ends","order","ahead","name"]
theorem U1:qr qaW ["ends","order"] (qk kF):=⟨rfl,rfl,rfl,by decide+kernel,rfl,by decide+kernel,by decide+kernel⟩
theorem Rn {f:Addr} {fd:FuncData} (F:jQ K "need_ends" "need_ends" kF f fd):qo P w K mg base qN 1 f fd ["ends","order"] wx:=by
 refine F.okJ U1 (λvs H Q E h=>?_) (λcdv A outer s H vs Q E hr h=>?_)
 . obtain⟨x,l,es,zs,rfl,_⟩:=h
   rfl
 . obtain⟨x,l,es,zs,rfl,hx,hl,hn,hin,hz,q⟩:=h
   have hu:=Qu hr
   refine⟨_,qf (qv (i:=2) U1.nd rfl (Or.inl rfl) j7)
     (qh (jg PassesOwn.never rfl (zD (jv 0)) (qu (i:=3) U1.nd rfl (Or.inl rfl))
       (qf (qM (qt QU (jv 3) (jv 1) (by with_unfolding_all rfl)) q5 qA)
       (qf (qM (QE (Zi hu (jv 3) (jv 2))) q5 qA) (qh (jx hu (jv 2) (jv 3) jT rfl)))))),?_⟩
   intro D hD
   refine⟨_,rfl,x,rfl,⟨_,.of (qm hx hD)⟩,?_⟩
   refine ye (K:=K) (a:=x) (xs:=es.map V.str) (λi σ' H'=>∃v kvs,σ'=[some (.ref x),some (.ref l),some (.ref D),v]/\Same H H'/\H' D=some (.dK kvs)/\kvs.map (·.1)=(es.take i).map Sum.inr) ⟨none,[],rfl,qi hD,qd,rfl⟩ (λi σ' H' _ ⟨_,_,_,s,_⟩=>.of (s _ _ hx)) ?_ ?_
   . rintro i y σ' H' hy ⟨v,kvs,rfl,s1,hD1,ek⟩
     rw[tN]at hy
     cases e:es[i]? with
     | none=>rw[e]at hy;cases hy
     | some z=>
       rw[e]at hy
       obtain rfl:=(tL.inj hy).symm
       have hi:=(tw.mp e).1
       have ez:jl kvs (Sum.inr z:qL)=none:=Jm (by rw[ek];exact Jt hn e)
       have gz:Qp H' D (.str z) none:=by
         have:=Qp.k (k:=(Sum.inr z:qL)) hD1
         rw[ez]at this
         exact this
       have lk:kvs.length < sizeLine:=by
         have:=congrArg zaN ek
         rw[tj,tj,tU]at this
         exact ql (by omega)
       refine⟨_,rfl,_,rfl,l,_,rfl,.inl (.of (s1 _ _ hl)),rfl,zH zs,_,rfl,?_⟩
       rw[Vx (hin z (t7 e))]
       refine jh ⟨_,rfl,_,rfl,D,none,rfl,gz,_,rfl,jh ?_⟩
       refine⟨_,rfl,_,rfl,D,_,rfl,Q6.k (k:=(Sum.inr z:qL)) hD1 lk,_,_,rfl,Same.upd s1 hD,qd,?_⟩
       rw[Vg _ ez,ek,tS,e,tG]
       rfl
   . rintro σ' H' ⟨v,kvs,rfl,s1,_⟩
     exact q H' s1
abbrev qb1:List Str:=["rows","many"]
theorem Nt:qr qb1 ["rows"] (qk Gs):=⟨rfl,rfl,rfl,by decide+kernel,rfl,by decide+kernel,by decide+kernel⟩
theorem Mf {f:Addr} {fd:FuncData} (F:jQ K "need_few_roads" "need_few_roads" Gs f fd) (B:Qy mg) (T:Qn K mg):qo P w K mg base qN 1 f fd ["rows"] zq:=by
 obtain⟨tm,hmr⟩:=T.mr
 refine F.okJ Nt (λvs H Q E h=>?_) (λcdv A outer s H vs Q E hr h=>?_)
 . obtain⟨l,ps,rs,rfl,_⟩:=h
   rfl
 . obtain⟨l,ps,rs,rfl,g,q⟩:=h
   refine⟨_,qf (qv (i:=1) Nt.nd rfl (Or.inl rfl) (qB (zJ rfl) (by rfl) T.sum boot_sum (qb (jM (N':=["row"]) (ix:=[none]) (te:=tCB (λxs H Q=>∃p ys,xs=[.ref p]/\(SqL K H p ys\/SqT K H p ys)/\Q (.int ys.length) H) (ji (zm (Ud K) (qO 0) (tC (.int 1))) QR)) rfl ⟨rfl,rfl,rfl,rfl,rfl⟩ (qG (jv 0)) (λC s2 H2 fp pins=>
       ⟨qu (i:=0) (Mh _) rfl (Or.inl rfl),ju,qB qF (by rfl) B.len boot_len (qb (qX jF (jv 0) qj (λ_ _=>rfl)) qe)⟩)) qe)))
     (qh (qM (qt Zf (jv 1) (Qt (v:=.int 40) (by rfl) hmr ⟨_,rfl⟩) (qx _)) q5 qA)),?_⟩
   refine⟨_,rfl,l,rfl,⟨_,.of g.at_⟩,λD hD=>?_⟩
   refine jN (K:=K) (a:=l) (xs:=ps.map V.ref) (λi σ' H'=>∃v,σ'=[v]/\H'=upd H D (.lst (((rs.take i).map λr=>r.2.length).map λn=>V.int ((n:Nat):Int)))) ⟨none,rfl,rfl⟩ (λi σ' H' _ ⟨_,_,e⟩=>e▸.of (qm g.at_ hD)) ?_ ?_
   . rintro i x σ' H' hx ⟨v,rfl,rfl⟩
     obtain⟨p',q',r,rfl,er,hr',a,b⟩:=g.rows.item hx
     have hi:=(tw.mp er).1
     refine⟨_,rfl,p',_,1,_,rfl,rfl,.of (qm a hD),rfl,q',_,rfl,.inr (.of (qm b hD)),_,qd,?_,_,rfl,?_⟩
     . rw[tj,tj,tU]
       have:=g.le
       exact ql (by omega)
     . rw[jo,tS,er,tG,tG,tj]
       rfl
   . rintro σ' H' ⟨v,rfl,rfl⟩
     have e:rs.take (ps.map V.ref).length=rs:=tH (by rw[tj,g.rows.1];exact tq _)
     rw[e]
     refine⟨D,_,rfl,.of qd,zaZ g.good.few (by decide),?_⟩
     refine⟨_,rfl,_,_,rfl,rfl,_,rfl,?_⟩
     have:=g.good.few
     refine xr (λz=>absurd (of_decide_eq_true z) ?_) (λ_=>q _ (qi hD))
     show ¬(40:Int) < _
     omega
abbrev qaR:List Str:=["rows","order","row"]
theorem UZ:qr qaR ["rows"] (qk V7):=⟨rfl,rfl,rfl,by decide+kernel,rfl,by decide+kernel,by decide+kernel⟩
structure Nc (K:PySem.W.Frag) (mg:Str->Option Value):Prop where
 nm:∃f fd,jm K mg "is_name" Z0 ["thing"] f fd
 tn:∃f fd,jm K mg "is_tuple_of_names" Wg ["thing"] f fd
 rw:∃f fd,jm K mg "is_row" YS ["thing"] f fd
 fo:∃f fd,jm K mg "need_form" kE ["rows"] f fd
 ow:∃f fd,jm K mg "need_own_names" Gn ["order"] f fd
 en:∃f fd,jm K mg "need_ends" kF ["ends","order"] f fd
 fw:∃f fd,jm K mg "need_few_roads" Gs ["rows"] f fd
theorem Rf {f:Addr} {fd:FuncData} (F:jQ K "need_rows" "need_rows" V7 f fd) (B:Qy mg) (G:Qd mg) (T:Qn K mg) (N:Nc K mg):qo P w K mg base qN 5 f fd ["rows"] zq:=by
 obtain⟨fN,fdN,hN⟩:=N.nm
 obtain⟨fP,fdP,hP⟩:=N.tn
 obtain⟨fR,fdR,hR⟩:=N.rw
 obtain⟨fF,fdF,hF⟩:=N.fo
 obtain⟨fO,fdO,hO⟩:=N.ow
 obtain⟨fE,fdE,hE⟩:=N.en
 obtain⟨fW,fdW,hW⟩:=N.fw
 have GF:qo P w K mg base qN 4 fF fdF ["rows"] zq:=Rm hF.fn B G T hN hP hR
 have GO:qo P w K mg base qN 1 fO fdO ["order"] No:=Mb hO.fn
 have GE:qo P w K mg base qN 1 fE fdE ["ends","order"] wx:=Rn hE.fn
 have GW:qo P w K mg base qN 1 fW fdW ["rows"] zq:=Mf hW.fn B T
 refine F.okJ UZ (λvs H Q E h=>?_) (λcdv A outer s H vs Q E hr h=>?_)
 . obtain⟨l,ps,rs,rfl,_⟩:=h
   rfl
 . obtain⟨l,ps,rs,rfl,g,q⟩:=h
   refine⟨_,qf (jw (qH hF GF hr (by rfl) (qb (jv 0) qe)))
     (qf (Q5 (i:=1) (N':=["row"]) (ix:=[none]) (te:=zm (Ud K) (qO 0) (tC (.int 0))) UZ.nd rfl (Or.inl rfl) rfl ⟨rfl,rfl,rfl,rfl,rfl⟩ (qG (jv 0)) (λC s2 H2 fp pins=>
       ⟨qu (i:=0) (Mh _) rfl (Or.inl rfl),ju,qX jF (jv 0) qj (λ_ _=>rfl)⟩))
     (qf (jw (qH hO GO (hr.mono (by decide)) (by rfl) (qb (jv 1) qe)))
     (qf (jg PassesOwn.never rfl (qG (jv 0)) (qu (i:=2) UZ.nd rfl (Or.inl rfl))
       (qh (jw (qH hE GE (hr.mono (by decide)) (by rfl) (qb (qX jF (jv 2) qj (λ_ _=>rfl)) (qb (jv 1) qe))))))
     (qh (jw (qH hW GW (hr.mono (by decide)) (by rfl) (qb (jv 0) qe))))))),?_⟩
   refine⟨_,rfl,l,ps,rs,rfl,g,λH1 s1=>?_⟩
   have g1:=g.mono s1
   refine⟨_,rfl,l,rfl,⟨_,.of g1.at_⟩,λD hD=>?_⟩
   refine jN (K:=K) (a:=l) (xs:=ps.map V.ref) (λi σ' H'=>∃v,σ'=[v]/\H'=upd H1 D (.lst (((rs.take i).map (·.1)).map V.str))) ⟨none,rfl,rfl⟩ (λi σ' H' _ ⟨_,_,e⟩=>e▸.of (qm g1.at_ hD)) ?_ ?_
   . rintro i x σ' H' hx ⟨v,rfl,rfl⟩
     obtain⟨p',q',r,rfl,er,hr',a,b⟩:=g1.rows.item hx
     have hi:=(tw.mp er).1
     refine⟨_,rfl,p',_,0,_,rfl,rfl,.of (qm a hD),rfl,_,qd,?_,_,rfl,?_⟩
     . rw[tj,tj,tU]
       have:=g.le
       exact ql (by omega)
     . rw[jo,tS,er,tG,tG]
       rfl
   . rintro σ' H' ⟨v,rfl,rfl⟩
     have e:rs.take (ps.map V.ref).length=rs:=tH (by rw[tj,g.rows.1];exact tq _)
     rw[e]
     refine⟨_,rfl,D,rs.map (·.1),rfl,qd,g.good.nd,by rw[tj];have:=g.le;omega,λH2 s2=>?_⟩
     have sD:Same H1 H2:=(qi hD).trans s2
     have hD2:H2 D=some (.lst ((rs.map (·.1)).map V.str)):=s2 _ _ qd
     have g2:=g1.mono sD
     refine⟨_,rfl,l,rfl,⟨_,.of g2.at_⟩,?_⟩
     refine jn (K:=K) (a:=l) (xs:=ps.map V.ref) (λi σ' H'=>∃v,σ'=[some (.ref l),some (.ref D),v]/\Same H2 H') ⟨none,rfl,Same.refl H2⟩ (λi σ' H' _ ⟨_,_,s⟩=>.of (s _ _ g2.at_)) ?_ ?_
     . rintro i x σ' H' hx ⟨v,rfl,s3⟩
       obtain⟨p',q',r,rfl,er,hr',a,b⟩:=(g2.mono s3).rows.item hx
       refine⟨_,rfl,p',_,1,_,rfl,rfl,.of a,rfl,_,rfl,q',D,r.2,rs.map (·.1),rfl,b,s3 _ _ hD2,g.good.rd r hr',g.good.to r hr',zaa (g.good.len r hr') (by decide),λH4 s4=>⟨_,rfl,s3.trans s4⟩⟩
     . rintro σ' H' ⟨v,rfl,s3⟩
       exact⟨_,rfl,l,ps,rs,rfl,g2.mono s3,λH4 s4=>q H4 (((s1.trans sD).trans s3).trans s4)⟩
end
open PySem L2 PyProof.Rows
abbrev U3:Stmt:=jK (top 24) 0
abbrev Z3:Stmt:=jK (top 24) 1
abbrev YU:Stmt:=jK (top 24) 2
def Jr (rs:List (Str×List Str)) (r:Str×List Str):List Str:=(rs.map (·.1)).filter λz=>Jx (.str z) (r.2.map V.str)
def jZ (CG:Addr) (H:Hp) (a:Addr) (rs:List (Str×List Str)):Prop:=∃(dx lo rd:Addr) (kvs:List (qL×V)),H a=some (.ins CG dx [("order",.ref lo),("roads",.ref rd)])/\H lo=some (.lst ((rs.map (·.1)).map V.str))/\H rd=some (.dK kvs)/\
 ∀r∈rs,∃q,jl kvs (Sum.inr r.1)=some (.ref q)/\H q=some (.lst ((Jr rs r).map V.str))
theorem jZ.mono {CG:Addr} {H H':Hp} {a:Addr} {rs:List (Str×List Str)} (h:jZ CG H a rs) (s:Same H H'):jZ CG H' a rs:=by
 obtain⟨dx,lo,rd,kvs,h1,h2,h3,h4⟩:=h
 exact⟨dx,lo,rd,kvs,s _ _ h1,s _ _ h2,s _ _ h3,λr hr=>let ⟨q,a,b⟩:=h4 r hr;⟨q,a,s _ _ b⟩⟩
theorem jy.fr {H H':Hp} {l x C dx:Addr} {fs:List (Str×V)} {ps:List Addr} {rs:List (Str×List Str)} (h:jy H l ps rs) (hx:H x=some (.ins C dx fs)) (s:Fr H x H'):jy H' l ps rs:=by
 refine⟨s _ _ h.at_ (λe=>?_),⟨h.rows.1,λi p r e1 e2=>?_⟩,h.good,h.pos,h.le⟩
 . have:=h.at_
   rw[e,hx]at this
   cases this
 . obtain⟨q,a,b⟩:=h.rows.2 i p r e1 e2
   exact⟨q,s _ _ a (λe=>by rw[e,hx]at a;cases a),s _ _ b (λe=>by rw[e,hx]at b;cases b)⟩
structure ClG (K:PySem.W.Frag) (mg:Str->Option Value) (CG f:Addr) (fd:FuncData):Prop where
 cl:Yy K CG
 mkr:Mk K CG f
 ns:mg "Ground"=some (.ref CG)
 no:jX K CG "order"
 nr:jX K CG "roads"
 fn:jQ K "__init__" "Ground.__init__" U3 f fd
 bi:jO K fd ["self","rows"] []
theorem nor:¬(Str.ofString "order")=Str.ofString "roads":=by decide+kernel
theorem qbU (v:V):JN (Str.ofString "order") v []=[(Str.ofString "order",v)]:=rfl
theorem qbT (v u:V):JN (Str.ofString "roads") u [(Str.ofString "order",v)]=[(Str.ofString "order",v),(Str.ofString "roads",u)]:=by
 unfold JN
 rw[if_neg nor]
 rfl
theorem lkO (v u:V):([(Str.ofString "order",v),(Str.ofString "roads",u)]:List (Str×V)).lookup (Str.ofString "order")=some v:=by simp [zbj]
theorem lkR (v u:V):([(Str.ofString "order",v),(Str.ofString "roads",u)]:List (Str×V)).lookup (Str.ofString "roads")=some u:=by
 have e:((Str.ofString "roads")==(Str.ofString "order"))=false:=by decide+kernel
 simp [zbj,e]
def W6 (CG:Addr):Sp:=λvs H Q _=>∃(x dx l:Addr) (ps:List Addr) (rs:List (Str×List Str)),vs=[.ref x,.ref l]/\jy H l ps rs/\H x=some (.ins CG dx [])/\∀H',jZ CG H' x rs->Fr H x H'->Q .non H'
def Za (CG:Addr):Sp:=λvs H Q _=>∃(a:Addr) (rs:List (Str×List Str)),vs=[.ref a]/\jZ CG H a rs/\∀l,H l=none->Q (.ref l) (upd H l (.lst ((rs.map (·.1)).map V.str)))
def W7 (CG:Addr):Sp:=λvs H Q _=>∃(a:Addr) (rs:List (Str×List Str)) (r:Str×List Str),vs=[.ref a,.str r.1]/\jZ CG H a rs/\r∈rs/\je r.1=true/\∀H1 l,Same H H1->H1 l=none->Q (.ref l) (upd H1 l (.lst ((Jr rs r).map V.str)))
section
variable {P:Program} {w:World} {K:PySem.W.Frag} {mg:Str->Option Value} {base:Heap}
abbrev nGI:List Str:=["self","rows","row"]
theorem qav:qr nGI ["self","rows"] (qk U3):=⟨rfl,rfl,rfl,by decide+kernel,rfl,by decide+kernel,by decide+kernel⟩
theorem uH {f fW CG:Addr} {fd fdW:FuncData} (C:ClG K mg CG f fd) (B:Qy mg) (G:Qd mg) (T:Qn K mg) (N:Nc K mg) (hW:jm K mg "need_rows" V7 ["rows"] fW fdW):qo P w K mg base qN 6 f fd ["self","rows"] (W6 CG):=by
 have GW:qo P w K mg base qN 5 fW fdW ["rows"] zq:=Rf hW.fn B G T N
 refine C.fn.okJ qav (λvs H Q E h=>?_) (λcdv A outer s H vs Q E hr h=>?_)
 . obtain⟨x,dx,l,ps,rs,rfl,_⟩:=h
   rfl
 . obtain⟨x,dx,l,ps,rs,rfl,g,hx,q⟩:=h
   have hu:=Qu hr
   refine⟨_,qf (jw (qH hW GW hr (by rfl) (qb (jv 1) qe)))
     (qf (Vu (jv 0) (jM (N':=["row"]) (ix:=[none]) (te:=zm (Ud K) (qO 0) (tC (.int 0))) rfl ⟨rfl,rfl,rfl,rfl,rfl⟩ (qG (jv 1)) (λC s2 H2 fp pins=>
       ⟨qu (i:=0) (Mh _) rfl (Or.inl rfl),ju,qX jF (jv 0) qj (λ_ _=>rfl)⟩)) rfl)
     (qf (Vu (jv 0) j7 rfl)
     (qh (jg PassesOwn.never rfl (qG (jv 1)) (qu (i:=2) qav.nd rfl (Or.inr rfl))
       (qh (jx hu (QF (jv 0) rfl) (qX jF (jv 2) qj (λ_ _=>rfl))
         (jM (N':=["name","row"]) (ix:=[none,some 2]) (tt:=YB (zm (N2 K false) (qO 0) (zm (Ud K) (qO 1) (tC (.int 1))))) rfl ⟨rfl,rfl,rfl,rfl,rfl⟩ (qG (QF (jv 0) rfl)) (λC s2 H2 fp pins=>
           ⟨qu (i:=0) (show (["name","row"]:List Str).Nodup by decide+kernel) rfl (Or.inl rfl),jH (qt QY (jv 0) (qX jF (jv 1) qj (λ_ _=>rfl)) (by with_unfolding_all rfl)),jv 0⟩)) rfl)))))),?_⟩
   refine⟨_,rfl,l,ps,rs,rfl,g,λH1 s1=>?_⟩
   have g1:=g.mono s1
   have fr1:Fr H x H1:=λb u h _=>s1 _ _ h
   have hx1:=s1 _ _ hx
   refine⟨_,rfl,l,rfl,⟨_,.of g1.at_⟩,λlo hlo=>?_⟩
   have nlx:lo≠x:=λe=>by rw[e,hx1]at hlo;cases hlo
   refine jN (K:=K) (a:=l) (xs:=ps.map V.ref) (λi σ' H'=>∃v,σ'=[v]/\H'=upd H1 lo (.lst (((rs.take i).map (·.1)).map V.str))) ⟨none,rfl,rfl⟩ (λi σ' H' _ ⟨_,_,e⟩=>e▸.of (qm g1.at_ hlo)) ?_ ?_
   . rintro i y σ' H' hy ⟨v,rfl,rfl⟩
     obtain⟨p',q',r,rfl,er,hr',a,b⟩:=g1.rows.item hy
     have hi:=(tw.mp er).1
     refine⟨_,rfl,p',_,0,_,rfl,rfl,.of (qm a hlo),rfl,_,qd,?_,_,rfl,?_⟩
     . rw[tj,tj,tU]
       have:=g.le
       exact ql (by omega)
     . rw[jo,tS,er,tG,tG]
       rfl
   rintro σ' H' ⟨v,rfl,rfl⟩
   have e:rs.take (ps.map V.ref).length=rs:=tH (by rw[tj,g.rows.1];exact tq _)
   rw[e]
   have fr2:Fr H x (upd H1 lo (.lst ((rs.map (·.1)).map V.str))):=fr1.new hlo
   have hlo2:upd H1 lo (.lst ((rs.map (·.1)).map V.str)) lo=some (.lst ((rs.map (·.1)).map V.str)):=qd
   have hx2:upd H1 lo (.lst ((rs.map (·.1)).map V.str)) x=some (.ins CG dx []):=qm hx1 hlo
   generalize upd H1 lo (.lst ((rs.map (·.1)).map V.str))=H2 at fr2 hlo2 hx2
   refine⟨_,rfl,x,CG,dx,[],rfl,hx2,C.cl,C.no,by decide,?_⟩
   rw[qbU]
   intro rd hrd
   have nrx:rd≠x:=λe=>by rw[e,qd]at hrd;cases hrd
   have hrd2:H2 rd=none:=by rw[qg nrx]at hrd;exact hrd
   have nrl:rd≠lo:=λe=>by rw[e,hlo2]at hrd2;cases hrd2
   have hHr:H rd=none:=fr2.fresh hx2 hrd2
   refine⟨_,rfl,x,CG,dx,_,rfl,qm qd hrd,C.cl,C.nr,by show 1 < 1000;decide,?_⟩
   rw[qbT]
   have fr5:Fr H x (upd (upd (upd H2 x (.ins CG dx [("order",.ref lo)])) rd (.dK [])) x (.ins CG dx [("order",.ref lo),("roads",.ref rd)])):=((fr2.at_d).own hHr).at_d
   have g5:=g.fr hx fr5
   refine⟨_,rfl,l,rfl,⟨_,.of g5.at_⟩,?_⟩
   refine jn (K:=K) (a:=l) (xs:=ps.map V.ref) (λi σ' H'=>∃v kvs,σ'=[some (.ref x),some (.ref l),v]/\H' x=some (.ins CG dx [("order",.ref lo),("roads",.ref rd)])/\H' lo=some (.lst ((rs.map (·.1)).map V.str))/\H' rd=some (.dK kvs)/\
     kvs.map (·.1)=((rs.map (·.1)).take i).map Sum.inr/\(∀r∈rs.take i,∃q,jl kvs (Sum.inr r.1)=some (.ref q)/\H' q=some (.lst ((Jr rs r).map V.str)))/\Fr H x H')
     ⟨none,[],rfl,qd,?_,?_,rfl,λr h=>(nomatch h),fr5⟩ (λi σ' H' _ ⟨_,_,_,_,_,_,_,_,fr⟩=>.of (g.fr hx fr).at_) ?_ ?_
   . rw[qg nlx,qg (Ne.symm nrl),qg nlx]
     exact hlo2
   . rw[qg nrx]
     exact qd
   . rintro i y σ' H' hy ⟨v,kvs,rfl,hx',hlo',hrd',ek,hv,fr⟩
     have g':=g.fr hx fr
     obtain⟨p,qq,r,rfl,er,hr',a,b⟩:=g'.rows.item hy
     have hi:=(tw.mp er).1
     have hle:=g.le
     refine⟨_,rfl,x,CG,dx,_,_,rfl,hx',C.cl,C.no,lkO _ _,lo,rfl,⟨_,.of hlo'⟩,λD hD=>?_⟩
     refine jN (K:=K) (a:=lo) (xs:=(rs.map (·.1)).map V.str) (λj σ'' H''=>∃v0,σ''=[v0,some (.ref p)]/\H''=upd H' D (.lst ((((rs.map (·.1)).take j).filter λz=>Jx (.str z) (r.2.map V.str)).map V.str))) ⟨none,rfl,rfl⟩
       (λj σ'' H'' _ ⟨_,_,e⟩=>e▸.of (qm hlo' hD)) ?_ ?_
     . rintro j y σ'' H'' hy ⟨v0,rfl,rfl⟩
       rw[tN]at hy
       cases e:(rs.map (·.1))[j]? with
       | none=>rw[e]at hy;cases hy
       | some z=>
         rw[e]at hy
         obtain rfl:=(tL.inj hy).symm
         refine⟨_,rfl,_,rfl,p,_,1,_,rfl,rfl,.of (qm a hD),rfl,qq,_,rfl,.inr (.of (qm b hD)),rfl,zH _,_,rfl,?_⟩
         have et:((rs.map (·.1)).take (j+1)).filter (λz=>Jx (.str z) (r.2.map V.str))=((rs.map (·.1)).take j).filter (λz=>Jx (.str z) (r.2.map V.str))++if Jx (.str z) (r.2.map V.str)=true then [z] else []:=by
           rw[tS,e,zaP]
           congr 1
           cases ei:Jx (.str z) (r.2.map V.str)
           . simp [ei]
           . simp [ei]
         rw[et]
         show if Jx (.str z) (r.2.map V.str)=true then _ else _
         cases ei:Jx (.str z) (r.2.map V.str) with
         | true=>
           refine j8 ⟨_,rfl,_,qd,?_,_,rfl,?_⟩
           . rw[tj]
             refine ql (zaa (zaU _ _) ?_)
             rw[tU,tj]
             omega
           . rw[jo,if_pos rfl,tG]
             rfl
         | false=>
           refine jh ⟨_,rfl,?_⟩
           rw[if_neg tK,zaH]
     . rintro σ'' H'' ⟨v0,rfl,rfl⟩
       have ed:((rs.map (·.1)).take ((rs.map (·.1)).map V.str).length).filter (λz=>Jx (.str z) (r.2.map V.str))=Jr rs r:=by
         rw[tj,tH (tq _)]
         rfl
       rw[ed]
       have nD:∀{c:Addr} {o:HO},H' c=some o->c≠D:=λh e=>by rw[e,hD]at h;cases h
       have en:(rs.map (·.1))[i]?=some r.1:=by rw[tN,er];rfl
       have ez:jl kvs (Sum.inr r.1:qL)=none:=Jm (by rw[ek];exact Jt g.good.nd en)
       have lk:kvs.length < sizeLine:=by
         have:=congrArg zaN ek
         rw[tj,tj,tU,tj]at this
         exact ql (by omega)
       refine⟨_,rfl,x,CG,dx,_,_,rfl,qm hx' hD,C.cl,C.nr,lkR _ _,_,rfl,p,_,0,_,rfl,rfl,.of (qm a hD),rfl,rd,_,rfl,Q6.k (k:=(Sum.inr r.1:qL)) (qm hrd' hD) lk,?_⟩
       refine⟨_,jR kvs (Sum.inr r.1) (.ref D),rfl,?_,?_,qd,?_,λr' hr2=>?_,?_⟩
       . rw[qg (Ne.symm nrx)];exact qm hx' hD
       . rw[qg (Ne.symm nrl)];exact qm hlo' hD
       . rw[Vg _ ez,ek,tS,en,tG]
         rfl
       . rw[tS,er]at hr2
         rcases t9.mp hr2 with h | h
         . obtain⟨q1,a1,b1⟩:=hv r' h
           refine⟨q1,?_,?_⟩
           . rw[Qe,if_neg]
             . exact a1
             . intro z
               rw[z,ez]at a1
               cases a1
           . have n1:q1≠rd:=λe=>by rw[e,hrd']at b1;cases b1
             rw[qg n1]
             exact qm b1 hD
         . have er':r'=r:=by simpa using h
           subst er'
           refine⟨D,?_,?_⟩
           . rw[Qe,if_pos rfl]
           . rw[qg (Ne.symm (nD hrd'))]
             exact qd
       . exact(fr.new hD).own hHr
   . rintro σ' H' ⟨v,kvs,rfl,hx',hlo',hrd',ek,hv,fr⟩
     have e:rs.take (ps.map V.ref).length=rs:=tH (by rw[tj,g.rows.1];exact tq _)
     rw[e]at hv
     exact q H' ⟨dx,lo,rd,kvs,hx',hlo',hrd',hv⟩ fr
theorem qbK:qr ["self"] ["self"] (qk Z3):=⟨rfl,rfl,rfl,by decide+kernel,rfl,by decide+kernel,by decide+kernel⟩
theorem Zt {f fI CG:Addr} {fd fdI:FuncData} (F:jQ K "names" "Ground.names" Z3 f fd) (C:ClG K mg CG fI fdI) (G:Qd mg):qo P w K mg base qN 1 f fd ["self"] (Za CG):=by
 refine F.okJ qbK (λvs H Q E h=>?_) (λcdv A outer s H vs Q E hr h=>?_)
 . obtain⟨a,rs,rfl,_⟩:=h
   rfl
 . obtain⟨a,rs,rfl,⟨dx,lo,rd,kvs,h1,h2,h3,h4⟩,q⟩:=h
   refine⟨_,qh (qw (jr Qx (by rfl) G.lst boot_list (qb (QF (jv 0) rfl) qe))),?_⟩
   exact⟨_,rfl,a,CG,dx,_,_,rfl,h1,C.cl,C.no,lkO _ _,lo,_,rfl,.inl (.of h2),q⟩
abbrev nGF:List Str:=["self","name"]
theorem qbL:qr nGF nGF (qk YU):=⟨rfl,rfl,rfl,by decide+kernel,rfl,by decide+kernel,by decide+kernel⟩
theorem Um {f fI fN CG:Addr} {fd fdI fdN:FuncData} (F:jQ K "roads_from" "Ground.roads_from" YU f fd) (C:ClG K mg CG fI fdI) (B:Qy mg) (G:Qd mg) (T:Qn K mg) (hN:jm K mg "is_name" Z0 ["thing"] fN fdN):qo P w K mg base qN 2 f fd nGF (W7 CG):=by
 have GN:qo P w K mg base qN 1 fN fdN ["thing"] KZ:=Vj hN.fn B T
 refine F.okJ qbL (λvs H Q E h=>?_) (λcdv A outer s H vs Q E hr h=>?_)
 . obtain⟨a,rs,r,rfl,_⟩:=h
   rfl
 . obtain⟨a,rs,r,rfl,gr,hr',hn,q⟩:=h
   have hu:=Qu hr
   refine⟨_,qf (qM (Jd (QP (jL (qH hN GN hr (by rfl) (qb (jv 1) qe)))) (QC (QE (Jw hu (jv 1) (QF (jv 0) rfl))))).pt q5 qA)
     (qh (qw (jr Qx (by rfl) G.lst boot_list (qb (jk hu (QF (jv 0) rfl) (jv 1) (λ_ _=>rfl)) qe)))),?_⟩
   refine⟨_,rfl,r.1,rfl,hn,λH1 s1=>⟨_,rfl,jh ?_⟩⟩
   obtain⟨dx,lo,rd,kvs,h1,h2,h3,h4⟩:=gr.mono s1
   obtain⟨qq,hv,hq⟩:=h4 r hr'
   have gz:Qp H1 rd (.str r.1) (some (.ref qq)):=by
     have:=Qp.k (k:=(Sum.inr r.1:qL)) h3
     rw[hv]at this
     exact this
   refine⟨_,rfl,_,rfl,a,CG,dx,_,_,rfl,h1,C.cl,C.nr,lkR _ _,rd,_,rfl,gz,_,rfl,jh ?_⟩
   exact⟨_,rfl,a,CG,dx,_,_,rfl,h1,C.cl,C.nr,lkR _ _,_,rfl,rd,_,rfl,gz,qq,_,rfl,.inl (.of hq),λl hl=>q H1 l s1 hl⟩
end
open PySem L2 PyProof.Rows
abbrev QJ:Stmt:=top 32
abbrev zt:Stmt:=top 33
abbrev jf:=List (Str×List Str)
def JJ (rs:jf) (z:Str):List Str:=match rs.find? (λr=>decide (r.1=z)) with
 | some r=>Jr rs r
 | none=>[]
theorem Xx:∀{rs:jf} {r:Str×List Str},(rs.map (·.1)).Nodup->r∈rs->rs.find? (λq=>decide (q.1=r.1))=some r
 | a::rs,r,hn,h=>by
   rw[tQ,zaA]at hn
   rcases tV.mp h with rfl | h
   . simp [zbw]
   . have:¬a.1=r.1:=λe=>hn.1 (e▸tE.mpr ⟨r,h,rfl⟩)
     simp only[zbw,decide_eq_false this]
     exact Xx hn.2 h
theorem Yt {rs:jf} {r:Str×List Str} (hn:(rs.map (·.1)).Nodup) (h:r∈rs):JJ rs r.1=Jr rs r:=by
 unfold JJ
 rw[Xx hn h]
theorem wR {rs:jf} {r:Str×List Str} {y:Str} (h:y∈Jr rs r):∃r'∈rs,r'.1=y:=by
 obtain⟨r',h1,h2⟩:=tE.mp (zae.mp h).1
 exact⟨r',h1,h2⟩
theorem RJ {z:Str} {zs:List Str}:Jx (.str z) (zs.map V.str)=true↔z∈zs:=by
 refine⟨λh=>?_,Vx⟩
 unfold Jx at h
 obtain⟨y,hy,e⟩:=zbk.mp h
 obtain⟨x,hx,rfl⟩:=tE.mp hy
 have e':(x==z)=true:=e
 rw[beq_iff_eq]at e'
 exact e'▸hx
theorem wS {rs:jf} (g:qy rs) {r:Str×List Str} (h:r∈rs) {y:Str}:y∈Jr rs r↔y∈r.2:=by
 unfold Jr
 rw[zae,RJ]
 exact⟨λz=>z.2,λz=>⟨g.to r h y z,z⟩⟩
theorem JZ {rs:jf} (hn:(rs.map (·.1)).Nodup):∀z∈rs.map (·.1),∀y∈JJ rs z,y∈rs.map (·.1):=λz hz y hy=>by
 obtain⟨r,hr,rfl⟩:=tE.mp hz
 rw[Yt hn hr]at hy
 obtain⟨r',h1,rfl⟩:=wR hy
 exact tE.mpr ⟨r',h1,rfl⟩
theorem JV {α:Type}:∀{l m:List α},l.Nodup->(∀z∈l,z∈m)->l.length<=m.length
 | [],m,_,_=>zal _
 | a::l,m,hn,h=>by
   classical
   rw[zaA]at hn
   have ha:=h a zab
   have:=JV (m:=m.erase a) hn.2 λz hz=>(zbW (λ(e:z=a)=>hn.1 (e▸hz))).mpr (h z (tY _ hz))
   rw[zcd ha]at this
   have:=zbM ha
   rw[zao]
   omega
theorem Ws:∀{more kvs:List (qL×V)},(more.map (·.1)).Nodup->(∀k∈more.map (·.1),¬k∈kvs.map (·.1))->QO kvs more=kvs++more
 | [],kvs,_,_=>(zaH _).symm
 | p::more,kvs,hn,h=>by
   rw[tQ,zaA]at hn
   have e:jl kvs p.1=none:=Jm (h p.1 (by simp))
   show QO (jR kvs p.1 p.2) more=_
   rw[Js p.2 e,Ws hn.2]
   . rw[zbu]
     rfl
   . intro k hk m
     rw[tG]at m
     rcases t9.mp m with m | m
     . exact h k (by rw[tQ];exact tY _ hk) m
     . have:k=p.1:=by simpa using m
       subst this
       exact hn.1 hk
structure XN (K:PySem.W.Frag) (C:Addr) (m qual:Str) (st:Stmt) (ps:List Str) (f:Addr) (fd:FuncData):Prop where
 fn:jQ K m qual st f fd
 me:XX K C m f
 bi:jO K fd ps []
theorem k9 {X:Cx} {C f:Addr} {fd:FuncData} {m qual:Str} {st:Stmt} {ps:List Str} {k:Nat} {sp:Sp} {o:Expr} {ta:TE} {apos pos:Pos} {pl:Sem Bool} (h:XN X.K C m qual st ps f fd) (c:Yy X.K C) (G:qo X.prog X.w X.K X.mg X.base qN k f fd ps sp) (hr:qR k X.A) (he:JE X o ta)
   (ht:eval (.Call (.Attribute o m apos) [] [] pos) X.env=(do
     let ov <-eval o X.env
     standAt apos.atName
     let (f,first) <-holding [ov] (getMethod ov m pl)
     callWith pos f first (backTo pos (starEach [] X.env)) (backToKw pos (keywordEach [] X.env))):=by rfl):
   JE X (.Call (.Attribute o m apos) [] [] pos) (Wc C m sp [] E0 ta QR):=u0 he c h.me G hr h.bi .nil Qz ht
theorem u3 {X:Cx} {C f:Addr} {fd:FuncData} {m qual:Str} {st:Stmt} {ps:List Str} {k:Nat} {sp:Sp} {o e:Expr} {es:List Expr} {ta:TE} {t:TA} {apos pos:Pos} {pl:Sem Bool} (h:XN X.K C m qual st ps f fd) (c:Yy X.K C) (G:qo X.prog X.w X.K X.mg X.base qN k f fd ps sp) (hr:qR k X.A) (he:JE X o ta) (ha:JA X (e::es) t)
   (hst:starEach (e::es) X.env=(false,eval e X.env)::starEach es X.env:=by rfl) (hpl:(backTo pos (starEach es X.env)).any (·.1)=false:=by rfl)
   (ht:eval (.Call (.Attribute o m apos) (e::es) [] pos) X.env=(do
     let ov <-eval o X.env
     standAt apos.atName
     let (f,first) <-holding [ov] (getMethod ov m pl)
     callWith pos f first (backTo pos (starEach (e::es) X.env)) (backToKw pos (keywordEach [] X.env))):=by rfl):
   JE X (.Call (.Attribute o m apos) (e::es) [] pos) (Wc C m sp [] E0 ta t):=RF he c h.me G hr h.bi .nil Qz ha hst hpl ht
structure GM (K:PySem.W.Frag) (mg:Str->Option Value) (CG:Addr):Prop where
 cls:∃f fd,ClG K mg CG f fd
 nm:∃f fd,XN K CG "names" "Ground.names" Z3 ["self"] f fd
 fr:∃f fd,XN K CG "roads_from" "Ground.roads_from" YU ["self","name"] f fd
 isn:∃f fd,jm K mg "is_name" Z0 ["thing"] f fd
theorem jZ.ins {CG:Addr} {H:Hp} {a:Addr} {rs:jf} (h:jZ CG H a rs):∃dx fs,H a=some (.ins CG dx fs)/\fs.lookup (Str.ofString "names")=none/\fs.lookup (Str.ofString "roads_from")=none:=by
 obtain⟨dx,lo,rd,kvs,h1,_⟩:=h
 refine⟨dx,_,h1,?_,?_⟩
 . have e1:((Str.ofString "names")==(Str.ofString "order"))=false:=by decide+kernel
   have e2:((Str.ofString "names")==(Str.ofString "roads"))=false:=by decide+kernel
   simp only[zbj]
   rw[e1,e2]
 . have e1:((Str.ofString "roads_from")==(Str.ofString "order"))=false:=by decide+kernel
   have e2:((Str.ofString "roads_from")==(Str.ofString "roads"))=false:=by decide+kernel
   simp only[zbj]
   rw[e1,e2]
theorem uM {rs:jf} {i:Nat} {y:V} (h:((rs.map (·.1)).map V.str)[i]?=some y):∃r,rs[i]?=some r/\r∈rs/\y=.str r.1:=by
 rw[tN,tN]at h
 cases e:rs[i]? with
 | none=>rw[e]at h;cases h
 | some r=>rw[e]at h;exact⟨r,rfl,t7 e,(tL.inj h).symm⟩
theorem JL {zs:List Str} {i:Nat} {y:V} (h:(zs.map V.str)[i]?=some y):∃z,zs[i]?=some z/\z∈zs/\y=.str z:=by
 rw[tN]at h
 cases e:zs[i]? with
 | none=>rw[e]at h;cases h
 | some z=>rw[e]at h;exact⟨z,rfl,t7 e,(tL.inj h).symm⟩
theorem U4 {rs:jf} (r:Str×List Str):(Jr rs r).length<=rs.length:=by
 have:=zaU (λz=>Jx (.str z) (r.2.map V.str)) (rs.map (·.1))
 rwa [tj]at this
theorem jJ {c:Bool} {A B:Prop} (hc:c=false) (h:B):if c=true then A else B:=by
 rw[hc]
 exact jh h
theorem Qb {c:Bool} {A B:Prop} (hc:c=true) (h:A):if c=true then A else B:=by
 rw[if_pos hc]
 exact h
theorem KM {kvs:List (qL×V)}:∀{i:Nat} {k:qL} {v:V},(kvs.map (·.1)).Nodup->kvs[i]?=some (k,v)->jl kvs k=some v:=by
 induction kvs with
 | nil=>intro i k v _ e;simp at e
 | cons p r ih=>
   intro i k v hn e
   rw[tQ,zaA]at hn
   cases i with
   | zero=>
     rw[List.getElem?_cons_zero]at e
     obtain rfl:=tL.inj e
     exact js rfl
   | succ i=>
     rw[List.getElem?_cons_succ]at e
     have:¬p.1=k:=λz=>hn.1 (z▸tE.mpr ⟨_,t7 e,rfl⟩)
     rw[jt this]
     exact ih hn.2 e
theorem kJ {H:Hp}:∀(ps:List Addr) (rs:jf),qQ H ps rs->∃qs:List Addr,qs.length=rs.length/\∀(i:Nat) (p q:Addr) (r:Str×List Str),ps[i]?=some p->rs[i]?=some r->qs[i]?=some q->H p=some (.tup [.str r.1,.ref q])/\H q=some (.tup (r.2.map V.str))
 | [],[],_=>⟨[],rfl,λi p q r e=>by simp at e⟩
 | [],_::_,h=>by cases h.1
 | _::_,[],h=>by cases h.1
 | p::ps,r::rs,h=>by
   obtain⟨qs,l,k⟩:=kJ ps rs ⟨zdx.inj h.1,λi a b e1 e2=>h.2 (i+1) a b (by simpa using e1) (by simpa using e2)⟩
   obtain⟨q,a,b⟩:=h.2 0 p r rfl rfl
   refine⟨q::qs,by simp [l],λi p' q' r' e1 e2 e3=>?_⟩
   cases i with
   | zero=>cases e1;cases e2;cases e3;exact⟨a,b⟩
   | succ i=>exact k i p' q' r' (by simpa using e1) (by simpa using e2) (by simpa using e3)
def Ut (rs:jf) (qs:List Addr):List (qL×V):=List.zipWith (λr q=>((Sum.inr r.1:qL),V.ref q)) rs qs
theorem Zv:∀{rs:jf} {qs:List Addr},qs.length=rs.length->(Ut rs qs).map (·.1)=(rs.map (·.1)).map Sum.inr
 | [],[],_=>rfl
 | [],_::_,h=>by cases h
 | _::_,[],h=>by cases h
 | r::rs,q::qs,h=>by
   show Sum.inr r.1::(Ut rs qs).map (·.1)=_
   rw[Zv (zdx.inj h)]
   rfl
theorem Xn {rs:jf} {qs:List Addr} (h:qs.length=rs.length):(Ut rs qs).length=rs.length:=by
 have:=congrArg zaN (Zv h)
 simpa using this
theorem kY {rs:jf} {qs:List Addr} (h:qs.length=rs.length) {i:Nat} {r:Str×List Str} (e:rs[i]?=some r):∃q,qs[i]?=some q/\(Ut rs qs)[i]?=some (Sum.inr r.1,.ref q):=by
 have hi:i < qs.length:=by rw[h];exact(tw.mp e).1
 refine⟨qs[i],tF hi,?_⟩
 unfold Ut
 rw[List.getElem?_zipWith,e,tF hi]
theorem uT {rs:jf} {qs:List Addr} (h:qs.length=rs.length) {i:Nat} {kv:qL×V} (e:(Ut rs qs)[i]?=some kv):∃r q,rs[i]?=some r/\qs[i]?=some q/\kv=(Sum.inr r.1,.ref q):=by
 have hi:i < rs.length:=by rw[<-Xn h];exact(tw.mp e).1
 obtain⟨q,e1,e2⟩:=kY h (tF hi)
 rw[e2]at e
 exact⟨_,q,tF hi,e1,(tL.inj e).symm⟩
theorem yc {rs:jf} (g:qy rs) {r:Str×List Str} (h:r∈rs) {y:Str}:y∈JJ rs r.1↔y∈r.2:=by
 rw[Yt g.nd h]
 exact wS g h
theorem uQ:∀{l:List Nat} {x:Nat},x∈l->x<=l.sum
 | a::l,x,h=>by
   rw[zax]
   rcases tV.mp h with e | h
   . omega
   . have:=uQ h
     omega
theorem qy.two {rs:jf} (g:qy rs) {r:Str×List Str} (h:r∈rs):r.2.length<=40:=by
 refine zaa ?_ g.few
 exact uQ (tE.mpr ⟨r,h,rfl⟩)
theorem Mg {σ:L2.St} {H:Hp} {Q:List V->Hp->Prop} (h:Q [] H):QR σ H Q:=h
theorem QB {H H':Hp} {a:Addr} (s:Same H H') (h:H' a=none):H a=none:=by
 cases z:H a with
 | none=>rfl
 | some u=>rw[s _ _ z]at h;cases h
theorem ZM {z:Str} (h:je z=true):(∀c∈z.cps.toList,c<=122)/\z.length<=8/\1<=z.length:=by
 unfold je at h
 simp only[zas,decide_eq_true_eq]at h
 refine⟨λc hc=>?_,h.1.2,h.1.1⟩
 have:=zbc.mp h.2 c hc
 unfold jW at this
 simp only[zas,decide_eq_true_eq]at this
 exact this.2
theorem kS {z:Str} (h:je z=true):PyData.strOk z=true:=by
 unfold PyData.strOk
 rw[zcq]
 intro c hc
 have:=(ZM h).1 c (by simpa using hc)
 exact decide_eq_true (by omega)
def dL (zs:List Str):PyData:=.list (zs.map PyData.str)
theorem UK {K:PySem.W.Frag} {H:Hp}:∀zs:List Str,DVs K H (zs.map V.str) (zs.map PyData.str)
 | []=>.nil
 | z::zs=>.cons (.str z) (UK zs)
theorem vK {K:PySem.W.Frag} {H:Hp} {p:Addr} {zs:List Str} (h:H p=some (.lst (zs.map V.str))):DV K H (.ref p) (dL zs):=.lst (.of h) (UK zs)
theorem RZ:∀{zs:List Str},(∀z∈zs,je z=true)->PyData.canLayAll0 (zs.map PyData.str)=true
 | [],_=>rfl
 | z::zs,h=>by
   rw[tQ,PyData.canLayAll0,RZ λy hy=>h y (tY _ hy),Bool.and_true]
   exact kS (h z zab)
theorem qa9:∀zs:List Str,PyData.depthAll (zs.map PyData.str)=0
 | []=>rfl
 | z::zs=>by
   rw[tQ]
   simp only[PyData.depthAll,PyData.depth,qa9 zs]
   rfl
theorem shL {zs:List Str} (h:∀z∈zs,je z=true):PySem.SeqAt.shaped (dL zs)=true:=by
 unfold PySem.SeqAt.shaped
 rw[zas]
 refine⟨RZ h,decide_eq_true ?_⟩
 unfold dL
 simp only[PyData.depth,qa9 zs]
 decide
theorem Kr {K:PySem.W.Frag} {H:Hp} {l:Addr} {ps:List Addr} {rs:jf} (g:jy H l ps rs) {Q:VK}
   (q:∀dd kvs,H dd=none->kvs.map (·.1)=(rs.map (·.1)).map Sum.inr->(∀r∈rs,∃t,jl kvs (Sum.inr r.1:qL)=some (.ref t)/\H t=some (.tup (r.2.map V.str)))->Q (.ref dd) (upd H dd (.dK kvs))):wZ K [.ref l] H Q:=by
 obtain⟨qs,lq,hqs⟩:=kJ ps rs g.rows
 have le:=g.le
 refine⟨l,ps,Ut rs qs,rfl,.of g.at_,by rw[Xn lq,g.rows.1],λi a kv e1 e2=>?_,by rw[Xn lq];omega,λdd hdd=>?_⟩
 . obtain⟨r',q',f1,f2,rfl⟩:=uT lq e2
   exact .of (hqs i a q' r' e1 f1 f2).1
 have nk:((Ut rs qs).map (·.1)).Nodup:=by
   rw[Zv lq]
   exact Ju g.good.nd λa _ b _ e=>Sum.inr.inj e
 rw[Ws nk (λk _ m=>by simp at m),List.nil_append]
 refine q dd _ hdd (Zv lq) λr hr=>?_
 obtain⟨i0,hi0⟩:=zbt hr
 obtain⟨q0,eq0,ekv⟩:=kY lq hi0
 have hi0':=(tw.mp hi0).1
 exact⟨q0,KM nk ekv,(hqs i0 _ q0 r (tF (by rw[g.rows.1];exact hi0')) hi0 eq0).2⟩
section
variable {P:Program} {w:World} {K:PySem.W.Frag} {mg:Str->Option Value} {base:Heap}
theorem Ku (x:Int):Builtin.bitNot (Builtin.bitNot x)=x:=by unfold Builtin.bitNot;omega
theorem bo (a b:Nat):Builtin.bitOr a b=((a ||| b:Nat):Int):=by
 have na:¬(0:Int)<=Builtin.bitNot a:=by unfold Builtin.bitNot;omega
 have nb:¬(0:Int)<=Builtin.bitNot b:=by unfold Builtin.bitNot;omega
 have e:Builtin.bitAnd (Builtin.bitNot a) (Builtin.bitNot b)=Builtin.bitNot (((Builtin.bitNot (Builtin.bitNot a)).toNat ||| (Builtin.bitNot (Builtin.bitNot b)).toNat:Nat):Int):=by
   unfold Builtin.bitAnd
   rw[decide_eq_false na,decide_eq_false nb]
 unfold Builtin.bitOr
 rw[e,Ku,Ku,Ku,zaJ,zaJ]
theorem ba (a b:Nat):Builtin.bitAnd a b=((a&&& b:Nat):Int):=by
 unfold Builtin.bitAnd
 rw[decide_eq_true (zcL a),decide_eq_true (zcL b)]
 rfl
def Jy (ns:List Nat):List V:=ns.map λn=>V.int (n:Nat)
theorem JY (ns:List Nat):(Jy ns).length=ns.length:=tj ..
theorem Vy {ns:List Nat} {i:Nat} {x:V} (h:(Jy ns)[i]?=some x):∃n:Nat,ns[i]?=some n/\x=.int n:=by
 unfold Jy at h
 rw[tN]at h
 cases e:ns[i]? with
 | none=>rw[e]at h;cases h
 | some n=>rw[e]at h;exact⟨n,rfl,(tL.inj h).symm⟩
theorem zp {ns:List Nat} {i n:Nat} (h:ns[i]?=some n):ns.take (i+1)=ns.take i++[n]:=by
 rw[tS,h]
 rfl
theorem Xt (ns:List Nat) (n:Nat):Jy ns++[V.int (n:Nat)]=Jy (ns++[n]):=by unfold Jy;rw[tG];rfl
theorem Zj (ns:List Nat):(Jy ns).all J5=true:=by
 unfold Jy
 rw[zcl]
 exact zbc.mpr λ_ _=>rfl
theorem zG (ns:List Nat) (n:Nat):Jx (.int (n:Nat)) (Jy ns)=decide (n∈ns):=by
 unfold Jx Jy
 rw[List.any_map,zaQ,zbk,decide_eq_true_iff]
 constructor
 . rintro⟨y,hy,e⟩
   have e':((y:Int)==(n:Int))=true:=e
   have:y=n:=by
     have:=eq_of_beq e'
     omega
   exact this▸hy
 . intro h
   refine⟨n,h,?_⟩
   show ((n:Int)==(n:Int))=true
   simp
def We (K:PySem.W.Frag):Sp:=λvs H Q _=>∃(a:Addr) (ns:List Nat),vs=[.ref a]/\SqL K H a (Jy ns)/\ns.length<=1000/\∀H',Same H H'->Q (.int (Rb.lackN ns:Nat)) H'
def W0 (K:PySem.W.Frag):Sp:=λvs H Q _=>∃(a:Addr) (ns:List Nat),vs=[.ref a]/\SqL K H a (Jy ns)/\(∀x∈ns,x < 1000)/\Q (.int (Rb.setN ns:Nat)) H
theorem Yk:qr ["numbers","bits","number"] ["numbers"] (qk zt):=⟨rfl,rfl,rfl,by decide+kernel,rfl,by decide+kernel,by decide+kernel⟩
theorem Ui {f:Addr} {fd:FuncData} (F:jQ K "set_of" "set_of" zt f fd):qo P w K mg base qN 1 f fd ["numbers"] (W0 K):=by
 refine F.okJ Yk (λvs H Q E h=>?_) (λcdv A outer s H vs Q E hr h=>?_)
 . obtain⟨a,ns,rfl,_⟩:=h
   rfl
 . obtain⟨a,ns,rfl,hS,hb,q⟩:=h
   refine⟨_,qf (qv (i:=1) Yk.nd rfl (Or.inl rfl) qj)
     (qf (jg PassesOwn.never rfl (qG (jv 0)) (qu (i:=2) Yk.nd rfl (Or.inl rfl)) (qh (qv (i:=1) Yk.nd rfl (Or.inl rfl) (qJ qaM (jv 1) (qJ U7 qj (jv 2))))))
     (qh (qw (jv 1)))),?_⟩
   refine⟨_,rfl,a,rfl,⟨_,hS⟩,?_⟩
   refine jn (K:=K) (a:=a) (xs:=Jy ns) (λi σ H'=>∃v,σ=[some (.ref a),some (.int ((Rb.setN (ns.take i):Nat):Int)),v]/\H'=H) ⟨none,rfl,rfl⟩ (λi σ H' _ ⟨_,_,e⟩=>e▸hS) ?_ ?_
   . rintro i x σ H' hx ⟨v,rfl,rfl⟩
     obtain⟨n,hn,rfl⟩:=Vy hx
     have n1:=hb n (t7 hn)
     have e1:(1:Int)*2^ ((n:Nat):Int).toNat=((2^n:Nat):Int):=by rw[zaJ,zdS];push_cast;rfl
     have e:((Rb.setN (ns.take (i+1)):Nat):Int)=Builtin.bitOr (Rb.setN (ns.take i):Nat) ((1:Int)*2^ ((n:Nat):Int).toNat):=by rw[e1,bo,zp hn,Rb.setN_snoc]
     refine⟨_,rfl,_,rfl,_,_,rfl,rfl,⟨by omega,by omega,by decide⟩,_,_,rfl,rfl,some (.int n),?_,rfl⟩
     rw[e]
     rfl
   . rintro σ H' ⟨v,rfl,rfl⟩
     refine⟨_,rfl,?_⟩
     rw[JY,tH (tq _)]
     exact q
theorem Jo:qr ["numbers","there","number","least"] ["numbers"] (qk QJ):=⟨rfl,rfl,rfl,by decide+kernel,rfl,by decide+kernel,by decide+kernel⟩
theorem vb {f:Addr} {fd:FuncData} (F:jQ K "lacking" "lacking" QJ f fd):qo P w K mg base qN 1 f fd ["numbers"] (We K):=by
 refine F.okJ Jo (λvs H Q E h=>?_) (λcdv A outer s H vs Q E hr h=>?_)
 . obtain⟨a,ns,rfl,_⟩:=h
   rfl
 . obtain⟨a,ns,rfl,hS,hl,q⟩:=h
   have hu:=Qu hr
   refine⟨_,qf (qv (i:=1) Jo.nd rfl (Or.inl rfl) j7)
     (qf (jg PassesOwn.never rfl (qG (jv 0)) (qu (i:=2) Jo.nd rfl (Or.inl rfl)) (qh (jx hu (jv 1) (jv 2) jT rfl)))
     (qf (qv (i:=3) Jo.nd rfl (Or.inl rfl) qj)
     (qf (za PassesOwn.never (QE (Zi hu (jv 3) (jv 1)) (by with_unfolding_all rfl)) (qh (uV (i:=3) Jo.nd rfl (Or.inl rfl) qj u9)))
     (qh (qw (jv 3)))))),?_⟩
   intro D hD
   refine⟨_,rfl,a,rfl,⟨_,(qi hD).seq hS⟩,?_⟩
   refine jn (K:=K) (a:=a) (xs:=Jy ns) (λi σ H'=>∃v kvs,σ=[some (.ref a),some (.ref D),v,none]/\H'=upd H D (.dK kvs)/\kvs.length<=i/\∀x:Nat,(jl kvs (Sum.inl (x:Int):qL)).isSome=decide (x∈ns.take i)) ⟨none,[],rfl,rfl,tq _,λx=>by simp [jl]⟩
     (λi σ H' _ ⟨_,_,_,e,_⟩=>e▸(qi hD).seq hS) ?_ ?_
   . rintro i x σ H' hx ⟨v,kvs,rfl,rfl,hk,hv⟩
     obtain⟨n,hn,rfl⟩:=Vy hx
     have hi:i < ns.length:=(tw.mp hn).1
     refine⟨_,rfl,_,rfl,D,_,rfl,Q6.k (k:=(Sum.inl (n:Int):qL)) qd (ql (by omega)),?_⟩
     refine⟨some (.int n),jR kvs (Sum.inl (n:Int)) (.bl true),rfl,jo,?_,λx=>?_⟩
     . have:=Jc kvs (Sum.inl (n:Int):qL) (.bl true)
       omega
     . rw[Qe,zp hn]
       by_cases e:x=n
       . subst e;simp
       . have e':¬(Sum.inl (x:Int):qL)=Sum.inl (n:Int):=λz=>e (by have:=Sum.inl.inj z;omega)
         rw[if_neg e',hv x,zaQ]
         simp [e]
   . rintro σ H' ⟨v,kvs,rfl,rfl,hk,hv⟩
     rw[JY,tH (tq _)]at hv
     refine ZU (λσ H'=>∃r:Nat,σ=[some (.ref a),some (.ref D),v,some (.int r)]/\H'=upd H D (.dK kvs)/\∀x,x < r->x∈ns) (λσ _=>match σ with | [_,_,_,some (.int r)]=>ns.length - r.toNat | _=>0) ⟨0,rfl,rfl,λx hx=>absurd hx (zbN _)⟩ ?_ ?_
     . rintro σ H' ⟨r,rfl,rfl,hr'⟩
       refine⟨_,rfl,_,rfl,D,_,rfl,Qp.k (k:=(Sum.inl (r:Int):qL)) qd,_,rfl,?_⟩
       rw[hv r]
       by_cases hm:r∈ns
       . rw[decide_eq_true hm]
         have hp:=Rb.pigeon (r+1) ns λx hx=>by
           by_cases e:x=r
           . rw[e];exact hm
           . exact hr' x (by omega)
         refine j8 ⟨_,rfl,_,_,rfl,rfl,⟨r+1,rfl,rfl,λx hx=>?_⟩,?_⟩
         . by_cases e:x=r
           . rw[e];exact hm
           . exact hr' x (by omega)
         . show ns.length - ((r:Int)+1).toNat < ns.length - (r:Int).toNat
           omega
       . rw[decide_eq_false hm]
         refine jh ⟨_,rfl,?_⟩
         have e:=Rb.lackN_eq (r:=r) (ns:=ns) ⟨hm,hr'⟩
         have:=q _ (qi (o:=.dK kvs) hD)
         rw[<-e]at this
         exact this
     . rintro σ H Q Q' h1 ⟨v,e,w,e2,a,o,e3,g,k,e4,q⟩
       exact⟨v,e,w,e2,a,o,e3,g,k,e4,h1 _ _ q⟩
end
open PySem L2 PyProof.Rows MLab
abbrev Nu:Stmt:=top 46
abbrev YT:Stmt:=top 47
abbrev zu:Stmt:=top 48
abbrev V9:Stmt:=top 49
abbrev Ve:Stmt:=top 50
abbrev Yn:Stmt:=top 51
structure qS (N:List Str) (H:Hp) (d:Addr) (f:Str->Option Nat):Prop where
 at_:∃kvs:List (qL×V),H d=some (.dK kvs)/\(∀z:Str,jl kvs (Sum.inr z:qL)=(f z).map λn=>V.int (n:Nat))/\(kvs.map (·.1)).Nodup/\∀k∈kvs.map (·.1),k∈N.map (Sum.inr:Str->qL)
theorem qS.mono {N:List Str} {H H':Hp} {d:Addr} {f:Str->Option Nat} (h:qS N H d f) (s:Same H H'):qS N H' d f:=⟨let ⟨kvs,a,b⟩:=h.at_;⟨kvs,s _ _ a,b⟩⟩
theorem qS.get {N:List Str} {H:Hp} {d:Addr} {f:Str->Option Nat} (h:qS N H d f) (z:Str):Qp H d (.str z) ((f z).map λn=>V.int (n:Nat)):=by
 obtain⟨kvs,a,b,_⟩:=h.at_
 rw[<-b z]
 exact Qp.k (k:=(Sum.inr z:qL)) a
theorem qS.isd {N:List Str} {H:Hp} {d:Addr} {f:Str->Option Nat} (h:qS N H d f):∃kvs:List (qL×V),H d=some (.dK kvs):=let ⟨kvs,a,_⟩:=h.at_;⟨kvs,a⟩
theorem qS.put {N:List Str} {H:Hp} {d:Addr} {f:Str->Option Nat} (h:qS N H d f) {z:Str} {n:Nat} (hz:z∈N) (hf:f z=none) (le:N.length<=14):∃H',Q6 H d (.str z) (.int (n:Nat)) H'/\qS N H' d (λy=>if y=z then some n else f y)/\∃o,H'=upd H d o:=by
 obtain⟨kvs,a,b,nd,sub⟩:=h.at_
 have ln:kvs.length<=14:=by
   have:=JV nd sub
   rw[tj,tj]at this
   omega
 refine⟨_,Q6.k (k:=(Sum.inr z:qL)) a (ql (by omega)),⟨jR kvs (Sum.inr z) (.int (n:Nat)),qd,λy=>?_,?_,?_⟩,_,rfl⟩
 . rw[Qe]
   by_cases e:y=z
   . subst e;rw[if_pos rfl,if_pos rfl];rfl
   . rw[if_neg e,if_neg (λq=>e (Sum.inr.inj q))];exact b y
 . rw[Js _ (by rw[b z,hf];rfl),tG]
   refine zdb.mpr ⟨nd,zci _ _,λx hx y hy e=>?_⟩
   have ey:y=Sum.inr z:=by simpa using hy
   subst ey
   subst e
   have:(jl kvs (Sum.inr z:qL)).isSome=true:=by
     obtain⟨p,hp,ep⟩:=tE.mp hx
     have an:(kvs.any λkv=>decide (kv.1=(Sum.inr z:qL)))=true:=zbk.mpr ⟨p,hp,decide_eq_true ep⟩
     rw[QI]at an
     exact an
   rw[b z,hf]at this
   cases this
 . rw[Js _ (by rw[b z,hf];rfl),tG]
   intro k hk
   rcases t9.mp hk with hk | hk
   . exact sub k hk
   . have:k=Sum.inr z:=by simpa using hk
     rw[this]
     exact tE.mpr ⟨z,hz,rfl⟩
def Yb (rs:jf) (f:Str->Option Nat) (z:Str):List Nat:=(JJ rs z).filterMap f
theorem Qr {rs:jf} {f:Str->Option Nat} {z:Str} {n:Nat}:n∈Yb rs f z↔∃y∈JJ rs z,f y=some n:=zaB
theorem yb {rs:jf} (z:Str):(JJ rs z).length<=rs.length:=by
 unfold JJ
 split
 . exact U4 _
 . exact zal _
def WM (rs:jf) (f:Str->Option Nat) (z:Str):List Str:=(JJ rs z).filter λy=>(f y).isNone
def ze (rs:jf) (f:Str->Option Nat) (z:Str) (n:Nat):Bool:=decide (Rb.lackN (Yb rs f z)=n)&&(WM rs f z).all λy=>decide (n∈Yb rs f y)
theorem xE {rs:jf} {f:Str->Option Nat} {z:Str} {n:Nat}:ze rs f z n=true↔zk (JJ rs) f z n:=by
 unfold ze zk WM
 rw[zas,decide_eq_true_iff,zbc]
 have lk:Rb.Lacks (Rb.lackN (Yb rs f z)) (Yb rs f z):=Rb.lackI_lacks _
 constructor
 . rintro⟨rfl,h⟩
   refine⟨λj hj=>Qr.mp (lk.2 j hj),λy hy e=>lk.1 (Qr.mpr ⟨y,hy,e⟩),λy hy e=>?_⟩
   exact Qr.mp (of_decide_eq_true (h y (zae.mpr ⟨hy,by rw[e];rfl⟩)))
 . rintro⟨h1,h2,h3⟩
   refine⟨(Rb.lackN_eq ⟨λm=>?_,λx hx=>Qr.mpr (h1 x hx)⟩).symm,λy hy=>decide_eq_true ?_⟩
   . obtain⟨y,hy,e⟩:=Qr.mp m
     exact h2 y hy e
   . obtain⟨hy1,hy2⟩:=zae.mp hy
     exact Qr.mpr (h3 y hy1 (by simpa using hy2))
def wQ (rs:jf) (f:Str->Option Nat) (n:Nat):List Str:=((rs.map (·.1)).filter λz=>(f z).isNone).filter λz=>ze rs f z n
theorem Gw (rs:jf) (R:Rs Str) (n:Nat):UN (JJ rs) (rs.map (·.1)) R n (wQ rs (qC R) n):=⟨λx=>by
 unfold wQ
 rw[zae,zae,xE]
 constructor
 . rintro⟨⟨a,b⟩,c⟩
   exact⟨a,by simpa using b,c⟩
 . rintro⟨a,b,c⟩
   exact⟨⟨a,by rw[b];rfl⟩,c⟩,zbg.trans zbg⟩
def K0 (CG:Addr):Sp:=λvs H Q _=>∃(g d:Addr) (rs:jf) (z:Str) (f:Str->Option Nat),vs=[.ref g,.ref d,.str z]/\jZ CG H g rs/\qy rs/\rs.length<=14/\z∈rs.map (·.1)/\qS (rs.map (·.1)) H d f/\
 ∀H' l,Same H H'->H l=none->H' l=some (.lst (Jy (Yb rs f z)))->Q (.ref l) H'
def ww (CG:Addr):Sp:=λvs H Q _=>∃(g d:Addr) (rs:jf) (z:Str) (f:Str->Option Nat) (n:Nat),vs=[.ref g,.ref d,.str z,.int (n:Nat)]/\jZ CG H g rs/\qy rs/\rs.length<=14/\z∈rs.map (·.1)/\qS (rs.map (·.1)) H d f/\
 ∀H',Same H H'->Q (.bl (ze rs f z n)) H'
def ka (CG:Addr):Sp:=λvs H Q _=>∃(g d:Addr) (rs:jf) (f:Str->Option Nat) (n:Nat),vs=[.ref g,.ref d,.int (n:Nat)]/\jZ CG H g rs/\qy rs/\rs.length<=14/\qS (rs.map (·.1)) H d f/\
 ∀H' l,Same H H'->H l=none->H' l=some (.lst ((wQ rs f n).map V.str))->Q (.ref l) H'
theorem vd {α β:Type} (g:α->Option β) (h:β->V):∀l:List α,(l.filterMap g).map h=l.filterMap λx=>(g x).map h
 | []=>rfl
 | a::l=>by
   rw[zaf,zaf]
   cases g a with
   | none=>exact vd g h l
   | some b=>rw[tQ,vd g h l];rfl
theorem Xy (p:Str->Bool):∀l:List Str,(l.filter p).map V.str=l.filterMap λx=>if p x=true then some (V.str x) else none
 | []=>rfl
 | a::l=>by
   rw[zaR,zaf]
   cases p a with
   | false=>exact Xy p l
   | true=>
     rw[if_pos rfl,if_pos rfl,tQ,Xy p l]
theorem kW {α:Type} (f:α->V):∀l:List α,l.map f=l.filterMap λx=>some (f x)
 | []=>rfl
 | a::l=>by rw[tQ,zaf,kW f l]
section
variable {P:Program} {w:World} {K:PySem.W.Frag} {mg:Str->Option Value} {base:Heap}
abbrev KC:List Str:=["ground","numbered","name"]
theorem qbF:qr KC KC (qk Nu):=⟨rfl,rfl,rfl,by decide+kernel,rfl,by decide+kernel,by decide+kernel⟩
theorem Nx {f CG:Addr} {fd:FuncData} (F:jQ K "numbers_behind" "numbers_behind" Nu f fd) (B:Qy mg) (G:Qd mg) (T:Qn K mg) (M:GM K mg CG):qo P w K mg base qN 3 f fd KC (K0 CG):=by
 obtain⟨fC,fdC,C⟩:=M.cls
 obtain⟨fR,fdR,hR⟩:=M.fr
 obtain⟨fN,fdN,hN⟩:=M.isn
 have GR:qo P w K mg base qN 2 fR fdR ["self","name"] (W7 CG):=Um hR.fn C B G T hN
 refine F.okJ qbF (λvs H Q E h=>?_) (λcdv A outer s H vs Q E hr h=>?_)
 . obtain⟨g,d,rs,z,nf,rfl,_⟩:=h
   rfl
 . obtain⟨g,d,rs,z,nf,rfl,gr,good,le14,hz,hd,q⟩:=h
   have hu:=Qu hr
   refine⟨_,qh (qw (jM (N':=["end","numbered"]) (ix:=[none,some 1]) rfl ⟨rfl,rfl,rfl,rfl,rfl⟩ (qG (u3 hR C.cl GR hr (jv 0) (qb (jv 2) qe))) (λC s2 H2 fp pins=>
     ⟨qu (i:=0) (show (["end","numbered"]:List Str).Nodup by decide+kernel) rfl (Or.inl rfl),jH (QE (Zi hu (jv 0) (jv 1))),jk hu (jv 1) (jv 0) (λ_ _=>rfl)⟩))),?_⟩
   obtain⟨dx,fs,hg,l1,l2⟩:=gr.ins
   obtain⟨r,hr',rfl⟩:=tE.mp hz
   refine⟨_,rfl,g,dx,fs,rfl,hg,l2,_,rfl,g,rs,r,rfl,gr,hr',good.nm r hr',λH1 le s1 hle=>?_⟩
   have s2:Same H (upd H1 le (.lst ((Jr rs r).map V.str))):=s1.trans (qi hle)
   have hl2:upd H1 le (.lst ((Jr rs r).map V.str)) le=some (.lst ((Jr rs r).map V.str)):=qd
   generalize upd H1 le (.lst ((Jr rs r).map V.str))=H2 at s2 hl2
   have hd2:=hd.mono s2
   refine⟨le,rfl,⟨_,.of hl2⟩,λW hW=>?_⟩
   refine zL (K:=K) (a:=le) (xs:=Jr rs r) (enc:=V.str) (out:=λy=>(nf y).map λn=>V.int (n:Nat)) (rest:=[some (.ref d)]) hW hl2 (ql (zaa (U4 r) (by omega))) ?_ ?_ ?_
   . intro x hx G' s3 R k
     refine⟨_,rfl,_,rfl,d,_,rfl,(hd2.mono s3).get x,_,rfl,k G' λ_ _ h=>h⟩
   . intro x hx v ev G' s3 R k
     have gx:=(hd2.mono s3).get x
     rw[ev]at gx
     exact⟨_,rfl,_,rfl,d,_,rfl,gx,k G' λ_ _ h=>h⟩
   . intro G' s3 hG
     refine q _ W (s2.trans s3) (QB s2 hW) ?_
     rw[hG]
     congr 2
     unfold Jy Yb
     rw[Yt good.nd hr',vd]
abbrev qaU:List Str:=["ground","numbered","name","number","bare"]
abbrev Xa:List Str:=["ground","numbered","name","number"]
theorem wM:qr qaU Xa (qk YT):=⟨rfl,rfl,rfl,by decide+kernel,rfl,by decide+kernel,by decide+kernel⟩
theorem Rl {f fB fL CG:Addr} {fd fdB fdL:FuncData} (F:jQ K "gets_number" "gets_number" YT f fd) (B:Qy mg) (G:Qd mg) (T:Qn K mg) (M:GM K mg CG) (hB:jm K mg "numbers_behind" Nu KC fB fdB) (hL:jm K mg "lacking" QJ ["numbers"] fL fdL):qo P w K mg base qN 4 f fd Xa (ww CG):=by
 have GB:qo P w K mg base qN 3 fB fdB KC (K0 CG):=Nx hB.fn B G T M
 have GL:qo P w K mg base qN 1 fL fdL ["numbers"] (We K):=vb hL.fn
 obtain⟨fC,fdC,C⟩:=M.cls
 obtain⟨fR,fdR,hR⟩:=M.fr
 obtain⟨fN,fdN,hN⟩:=M.isn
 have GR:qo P w K mg base qN 2 fR fdR ["self","name"] (W7 CG):=Um hR.fn C B G T hN
 refine F.okJ wM (λvs H Q E h=>?_) (λcdv A outer s H vs Q E hr h=>?_)
 . obtain⟨g,d,rs,z,nf,n,rfl,_⟩:=h
   rfl
 . obtain⟨g,d,rs,z,nf,n,rfl,gr,good,le14,hz,hd,q⟩:=h
   have hu:=Qu hr
   have r1:qR 1 _:=hr.mono (by decide)
   have r2:qR 2 _:=hr.mono (by decide)
   refine⟨_,qf (qM (qt Ug (qH hL GL r1 (by rfl) (qb (qH hB GB hr (by rfl) (qb (jv 0) (qb (jv 1) (qb (jv 2) qe)))) qe)) (jv 3) (qx _)) (qh (qw jT)) qA)
     (qf (Q5 (i:=4) (N':=["end","numbered"]) (ix:=[none,some 1]) wM.nd rfl (Or.inl rfl) rfl ⟨rfl,rfl,rfl,rfl,rfl⟩ (qG (u3 hR C.cl GR r2 (jv 0) (qb (jv 2) qe))) (λC s2 H2 fp pins=>
       ⟨qu (i:=0) (show (["end","numbered"]:List Str).Nodup by decide+kernel) rfl (Or.inl rfl),jH (QE (Jw hu (jv 0) (jv 1))),jv 0⟩))
     (qh (qw (qB (zK rfl) (by rfl) T.all boot_all (qb (jM (N':=["end","number","ground","numbered"]) (ix:=[none,some 3,some 0,some 1]) (te:=zm (N2 K false) (qO 1) (ZC (K0 CG) [] E0 (ji (qO 2) (ji (qO 3) (ji (qO 0) QR))))) rfl ⟨rfl,rfl,rfl,rfl,rfl⟩ (qG (jv 4)) (λC s2 H2 fp pins=>
       ⟨qu (i:=0) (show (["end","number","ground","numbered"]:List Str).Nodup by decide+kernel) rfl (Or.inl rfl),ju,Qa QY (jv 1) (qH hB GB hr (by rfl) (qb (jv 2) (qb (jv 3) (qb (jv 0) qe)))) (by with_unfolding_all rfl)⟩)) qe))))),?_⟩
   refine⟨_,rfl,_,rfl,_,rfl,g,d,rs,z,nf,rfl,gr,good,le14,hz,hd,λH1 l1 s1 hl1 hl1'=>?_⟩
   have ln:∀y,(Yb rs nf y).length<=14:=λy=>zaa (zaw _ _) (zaa (yb y) le14)
   refine⟨l1,_,rfl,.of hl1',by have:=ln z;omega,λH2 s2=>⟨_,rfl,rfl,_,rfl,?_⟩⟩
   have s12:=s1.trans s2
   by_cases c:Rb.lackN (Yb rs nf z)=n
   . refine jJ (by rw[c];simp) ?_
     obtain⟨dx,fs,hg,e1,e2⟩:=(gr.mono s12).ins
     obtain⟨r,hr',rfl⟩:=tE.mp hz
     refine⟨_,rfl,g,dx,fs,rfl,hg,e2,_,rfl,g,rs,r,rfl,gr.mono s12,hr',good.nm r hr',λH3 le s3 hle=>?_⟩
     have s4:Same H (upd H3 le (.lst ((Jr rs r).map V.str))):=s12.trans (s3.trans (qi hle))
     have hl4:upd H3 le (.lst ((Jr rs r).map V.str)) le=some (.lst ((Jr rs r).map V.str)):=qd
     generalize upd H3 le (.lst ((Jr rs r).map V.str))=H4 at s4 hl4
     refine⟨le,rfl,⟨_,.of hl4⟩,λW hW=>?_⟩
     refine zL (K:=K) (a:=le) (xs:=Jr rs r) (enc:=V.str) (out:=λy=>if (nf y).isNone=true then some (V.str y) else none) (rest:=[some (.ref d)]) hW hl4 (ql (zaa (U4 r) (by omega))) ?_ ?_ ?_
     . intro x hx G' s5 R k
       refine⟨_,rfl,_,rfl,d,_,rfl,((hd.mono s4).mono s5).get x,_,rfl,?_⟩
       have:=k G' λ_ _ h=>h
       cases e:nf x with
       | none=>rw[e]at this;exact this
       | some m=>rw[e]at this;exact this
     . intro x hx v ev G' s5 R k
       have:v=V.str x:=by
         split at ev
         . exact(tL.inj ev).symm
         . cases ev
       subst this
       exact⟨_,rfl,k G' λ_ _ h=>h⟩
     . intro G5 s5 hG
       rw[<-Xy (λy=>(nf y).isNone),<-Yt good.nd hr']at hG
       have hb:G5 W=some (.lst ((WM rs nf r.1).map V.str)):=hG
       have s45:=s4.trans s5
       refine⟨_,rfl,W,rfl,⟨_,.of hb⟩,λU hU=>?_⟩
       have bl:(WM rs nf r.1).length<=14:=zaa (zaU _ _) (zaa (yb r.1) le14)
       refine zL (K:=K) (a:=W) (xs:=WM rs nf r.1) (enc:=V.str) (out:=λy=>some (V.bl (decide (n∈Yb rs nf y)))) (rest:=[some (.int (n:Nat)),some (.ref g),some (.ref d)]) hU hb (ql (by omega)) ?_ ?_ ?_
       . intro x hx G' s6 R k
         exact k G' λ_ _ h=>h
       . intro x hx v ev G' s6 R k
         obtain rfl:=tL.inj ev
         have hxN:x∈rs.map (·.1):=JZ good.nd _ hz x (zae.mp hx).1
         have sA:=s45.trans s6
         refine⟨_,rfl,_,rfl,_,rfl,_,rfl,g,d,rs,x,nf,rfl,gr.mono sA,good,le14,hxN,hd.mono sA,λH7 l7 s7 hl7 hl7'=>?_⟩
         refine⟨l7,_,rfl,.inl (.of hl7'),rfl,Zj _,?_⟩
         rw[zG]
         exact k H7 s7
       . intro G6 s6 hG6
         rw[<-kW]at hG6
         refine⟨U,(WM rs nf r.1).map λy=>decide (n∈Yb rs nf y),rfl,.of (by rw[hG6,zbl];rfl),?_⟩
         have:=q G6 (s45.trans s6)
         unfold ze at this
         rw[decide_eq_true c,Bool.true_and]at this
         rw[zcl]
         exact this
   . refine Qb (by
       have:¬V.int ((Rb.lackN (Yb rs nf z):Nat):Int)=V.int ((n:Nat):Int):=λe=>c (by have:=V.int.inj e;omega)
       rw[decide_eq_false this];rfl) ?_
     have:=q H2 s12
     unfold ze at this
     rw[decide_eq_false c,zcK]at this
     exact this
end
open PySem L2 PyProof.Rows MLab
def jp (H:Hp) (ps:List Addr) (ls:List (List Str)):Prop:=ps.length=ls.length/\∀(i:Nat) (p:Addr) (l:List Str),ps[i]?=some p->ls[i]?=some l->H p=some (.lst (l.map V.str))
theorem jp.mono {H H':Hp} {ps:List Addr} {ls:List (List Str)} (h:jp H ps ls) (s:Same H H'):jp H' ps ls:=⟨h.1,λi p l e1 e2=>s _ _ (h.2 i p l e1 e2)⟩
theorem jp.nil {H:Hp}:jp H [] []:=⟨rfl,λi p l e=>(nomatch e)⟩
theorem QS {α:Type} {xs:List α} {x y:α} {i:Nat} (h:(xs++[x])[i]?=some y):(i < xs.length/\xs[i]?=some y)\/(i=xs.length/\y=x):=by
 by_cases hi:i < xs.length
 . rw[zaG hi]at h
   exact .inl ⟨hi,h⟩
 . have hi':i=xs.length:=by
     have:=(tw.mp h).1
     rw[tI,zaL]at this
     omega
   subst hi'
   rw[zar (tq _),zcp]at h
   exact .inr ⟨rfl,(tL.inj h).symm⟩
theorem jp.snoc {H:Hp} {ps:List Addr} {ls:List (List Str)} {p:Addr} {l:List Str} (h:jp H ps ls) (hp:H p=some (.lst (l.map V.str))):jp H (ps++[p]) (ls++[l]):=by
 refine⟨by rw[tI,tI,h.1];rfl,λi p' l' e1 e2=>?_⟩
 rcases QS e1 with ⟨i1,e1⟩ | ⟨i1,rfl⟩
 . rcases QS e2 with ⟨_,e2⟩ | ⟨i2,_⟩
   . exact h.2 i p' l' e1 e2
   . have:=h.1;omega
 . rcases QS e2 with ⟨i2,_⟩ | ⟨_,rfl⟩
   . have:=h.1;omega
   . exact hp
theorem jp.app {H:Hp} {ps qs:List Addr} {ls ms:List (List Str)} (h:jp H ps ls) (k:jp H qs ms):jp H (ps++qs) (ls++ms):=by
 refine⟨by rw[tI,tI,h.1,k.1],λi p l e1 e2=>?_⟩
 by_cases c:i < ps.length
 . rw[zaG c]at e1
   rw[zaG (by rw[<-h.1];exact c)]at e2
   exact h.2 i p l e1 e2
 . rw[zar (by omega)]at e1
   rw[zar (by rw[<-h.1];omega)]at e2
   rw[<-h.1]at e2
   exact k.2 _ p l e1 e2
theorem jp.fr {H H':Hp} {ps:List Addr} {ls:List (List Str)} {d:Addr} {kvs:List (qL×V)} (h:jp H ps ls) (hd:H d=some (.dK kvs)) (f:Fr H d H'):jp H' ps ls:=⟨h.1,λi p l e1 e2=>f _ _ (h.2 i p l e1 e2) (λe=>by have:=h.2 i p l e1 e2;rw[e,hd]at this;cases this)⟩
theorem qS.fr {N:List Str} {H H':Hp} {d e:Addr} {f:Str->Option Nat} (h:qS N H d f) (s:Fr H e H') (ne:d≠e):qS N H' d f:=⟨let ⟨kvs,a,b⟩:=h.at_;⟨kvs,s _ _ a ne,b⟩⟩
theorem qS.congr {N:List Str} {H:Hp} {d:Addr} {f g:Str->Option Nat} (h:qS N H d f) (e:∀z,f z=g z):qS N H d g:=⟨let ⟨kvs,a,b,c⟩:=h.at_;⟨kvs,a,λz=>by rw[b z,e z],c⟩⟩
def UL (CG:Addr) (H:Hp) (g d:Addr):Prop:=∀dx lo rd,H g=some (.ins CG dx [("order",.ref lo),("roads",.ref rd)])->rd≠d
theorem jZ.fr {CG:Addr} {H H':Hp} {a d:Addr} {rs:jf} (h:jZ CG H a rs) (hd:∃kvs:List (qL×V),H d=some (.dK kvs)) (ap:UL CG H a d) (s:Fr H d H'):jZ CG H' a rs:=by
 obtain⟨dx,lo,rd,kv,h1,h2,h3,h4⟩:=h
 obtain⟨kvs,hd⟩:=hd
 have ne:∀{b:Addr} {o:HO},H b=some o->(∀kv:List (qL×V),o≠.dK kv)->b≠d:=λhb no e=>by rw[e,hd]at hb;exact no kvs (tL.inj hb).symm
 refine⟨dx,lo,rd,kv,s _ _ h1 (ne h1 (λ_=>by simp)),s _ _ h2 (ne h2 (λ_=>by simp)),s _ _ h3 (ap dx lo rd h1),λr hr=>let ⟨q,a,b⟩:=h4 r hr;⟨q,a,s _ _ b (ne b (λ_=>by simp))⟩⟩
def Yd (f:Str->Option Nat) (n:Nat) (ns:List Str):Str->Option Nat:=λz=>if z∈ns then some n else f z
theorem Kj {R:Rs Str} {n:Nat} {ns:List Str} (h:∀z∈ns,qC R z=none) (z:Str):Yd (qC R) n ns z=qC (R++[(n,ns)]) z:=by
 unfold Yd
 rw[Jz]
 by_cases c:z∈ns
 . rw[if_pos c,h z c]
   show _=if z∈ns then some n else none
   rw[if_pos c]
 . rw[if_neg c]
   cases qC R z with
   | some m=>rfl
   | none=>
     show none=if z∈ns then some n else none
     rw[if_neg c]
theorem Gv {R:Rs Str} {n:Nat} {ls:List (List Str)} {l:List Str}:R++(ls++[l]).map (λx=>(n,x))=(R++ls.map λx=>(n,x))++[(n,l)]:=by
 rw[tG,zbu]
 rfl
def wv (CG:Addr):Sp:=λvs H Q _=>∃(g d:Addr) (rs:jf) (R:Rs Str) (n:Nat),vs=[.ref g,.ref d,.int (n:Nat)]/\jZ CG H g rs/\qy rs/\rs.length<=14/\qS (rs.map (·.1)) H d (qC R)/\UL CG H g d/\
 ∀H' l ps ls,H l=none->H' l=some (.lst (ps.map V.ref))->jp H' ps ls->(∀p∈ps,H p=none)->qS (rs.map (·.1)) H' d (qC (R++ls.map λx=>(n,x)))->Qo (JJ rs) (rs.map (·.1)) n R (R++ls.map λx=>(n,x))->Fr H d H'->Q (.ref l) H'
def Jg (rs:jf) (f:Str->Option Nat):Nat:=((rs.map (·.1)).filter λz=>(f z).isNone).length
theorem VG {rs:jf} {R:Rs Str} {n:Nat} {ns:List Str} (h:∀z∈ns,z∈rs.map (·.1)/\qC R z=none) (ne:ns≠[]):Jg rs (qC (R++[(n,ns)])) < Jg rs (qC R):=by
 unfold Jg
 generalize rs.map (·.1)=N at*
 have sub:(N.filter λz=>(qC (R++[(n,ns)]) z).isNone).Sublist (N.filter λz=>(qC R z).isNone):=by
   have e:(N.filter λz=>(qC (R++[(n,ns)]) z).isNone)=(N.filter λz=>(qC R z).isNone).filter λz=>(qC (R++[(n,ns)]) z).isNone:=by
     rw[List.filter_filter]
     refine zbT λz _=>?_
     cases c:(qC (R++[(n,ns)]) z).isNone with
     | false=>simp
     | true=>
       have:=vw (by simpa using c)
       rw[this]
       rfl
   rw[e]
   exact zbg
 obtain⟨z0,r,e0⟩:=zbB ne
 have m0:z0∈ns:=by rw[e0];exact zab
 obtain⟨hz,ez⟩:=h z0 m0
 rcases zbE (N.filter λz=>(qC (R++[(n,ns)]) z).isNone).length (N.filter λz=>(qC R z).isNone).length with c | c
 . exact c
 . have e:=sub.eq_of_length_le c
   have m:z0∈N.filter λz=>(qC R z).isNone:=zae.mpr ⟨hz,by rw[ez];rfl⟩
   rw[<-e]at m
   have:=(zae.mp m).2
   rw[yf ez m0]at this
   cases this
def J6 (N:List Str) (H:Hp) (d:Addr):Nat:=match H d with
 | some (.dK kvs)=>(N.filter λz=>(jl kvs (Sum.inr z:qL)).isNone).length
 | _=>0
theorem qS.bare {rs:jf} {H:Hp} {d:Addr} {f:Str->Option Nat} (h:qS (rs.map (·.1)) H d f):J6 (rs.map (·.1)) H d=Jg rs f:=by
 obtain⟨kvs,a,b,_⟩:=h.at_
 unfold J6 Jg
 rw[a]
 show ((rs.map (·.1)).filter λz=>(jl kvs (Sum.inr z:qL)).isNone).length=_
 congr 1
 refine zbT λz _=>?_
 rw[b z]
 cases f z<;>rfl
section
variable {P:Program} {w:World} {K:PySem.W.Frag} {mg:Str->Option Value} {base:Heap}
abbrev Mi:List Str:=["ground","numbered","number","bare"]
abbrev Q3:List Str:=["ground","numbered","number"]
theorem kx:qr Mi Q3 (qk zu):=⟨rfl,rfl,rfl,by decide+kernel,rfl,by decide+kernel,by decide+kernel⟩
theorem uq {f fB fL fG CG:Addr} {fd fdB fdL fdG:FuncData} (F:jQ K "round_of" "round_of" zu f fd) (B:Qy mg) (G:Qd mg) (T:Qn K mg) (M:GM K mg CG) (hB:jm K mg "numbers_behind" Nu KC fB fdB) (hL:jm K mg "lacking" QJ ["numbers"] fL fdL) (hG:jm K mg "gets_number" YT Xa fG fdG):qo P w K mg base qN 5 f fd Q3 (ka CG):=by
 have GG:qo P w K mg base qN 4 fG fdG Xa (ww CG):=Rl hG.fn B G T M hB hL
 obtain⟨fC,fdC,C⟩:=M.cls
 obtain⟨fM,fdM,hM⟩:=M.nm
 have GM:qo P w K mg base qN 1 fM fdM ["self"] (Za CG):=Zt hM.fn C G
 refine F.okJ kx (λvs H Q E h=>?_) (λcdv A outer s H vs Q E hr h=>?_)
 . obtain⟨g,d,rs,nf,n,rfl,_⟩:=h
   rfl
 . obtain⟨g,d,rs,nf,n,rfl,gr,good,le14,hd,q⟩:=h
   have hu:=Qu hr
   have r1:qR 1 _:=hr.mono (by decide)
   refine⟨_,qf (Q5 (i:=3) (N':=["name","numbered"]) (ix:=[none,some 1]) kx.nd rfl (Or.inl rfl) rfl ⟨rfl,rfl,rfl,rfl,rfl⟩ (qG (k9 hM C.cl GM r1 (jv 0))) (λC s2 H2 fp pins=>
       ⟨qu (i:=0) (show (["name","numbered"]:List Str).Nodup by decide+kernel) rfl (Or.inl rfl),jH (QE (Jw hu (jv 0) (jv 1))),jv 0⟩))
     (qh (qw (jM (N':=["name","ground","numbered","number"]) (ix:=[none,some 0,some 1,some 2]) rfl ⟨rfl,rfl,rfl,rfl,rfl⟩ (qG (jv 3)) (λC s2 H2 fp pins=>
       ⟨qu (i:=0) (show (["name","ground","numbered","number"]:List Str).Nodup by decide+kernel) rfl (Or.inl rfl),jH (jL (qH hG GG hr (by rfl) (qb (jv 1) (qb (jv 2) (qb (jv 0) (qb (jv 3) qe)))))),jv 0⟩)))),?_⟩
   obtain⟨dx,fs,hg,l1,l2⟩:=gr.ins
   refine⟨_,rfl,g,dx,fs,rfl,hg,l1,g,rs,rfl,gr,λln hln=>⟨ln,rfl,⟨_,.of qd⟩,λW hW=>?_⟩⟩
   have s2:Same H (upd H ln (.lst ((rs.map (·.1)).map V.str))):=qi hln
   have hl2:upd H ln (.lst ((rs.map (·.1)).map V.str)) ln=some (.lst ((rs.map (·.1)).map V.str)):=qd
   generalize upd H ln (.lst ((rs.map (·.1)).map V.str))=H2 at s2 hl2 hW
   refine zL (K:=K) (a:=ln) (xs:=rs.map (·.1)) (enc:=V.str) (out:=λy=>if (nf y).isNone=true then some (V.str y) else none) (rest:=[some (.ref d)]) hW hl2 (ql (by rw[tj];omega)) ?_ ?_ ?_
   . intro x hx G' s5 R k
     refine⟨_,rfl,_,rfl,d,_,rfl,((hd.mono s2).mono s5).get x,_,rfl,?_⟩
     have:=k G' λ_ _ h=>h
     cases e:nf x with
     | none=>rw[e]at this;exact this
     | some m=>rw[e]at this;exact this
   . intro x hx v ev G' s5 R k
     have:v=V.str x:=by
       split at ev
       . exact(tL.inj ev).symm
       . cases ev
     subst this
     exact⟨_,rfl,k G' λ_ _ h=>h⟩
   . intro G5 s5 hG5
     rw[<-Xy (λy=>(nf y).isNone)]at hG5
     have s25:=s2.trans s5
     refine⟨_,rfl,W,rfl,⟨_,.of hG5⟩,λU hU=>?_⟩
     have bl:((rs.map (·.1)).filter λy=>(nf y).isNone).length<=14:=zaa (zaU _ _) (by rw[tj];exact le14)
     refine zL (K:=K) (a:=W) (xs:=(rs.map (·.1)).filter λy=>(nf y).isNone) (enc:=V.str) (out:=λy=>if ze rs nf y n=true then some (V.str y) else none) (rest:=[some (.ref g),some (.ref d),some (.int (n:Nat))]) hU hG5 (ql (by omega)) ?_ ?_ ?_
     . intro x hx G' s6 R k
       have sA:=s25.trans s6
       refine⟨_,rfl,_,rfl,_,rfl,_,rfl,g,d,rs,x,nf,n,rfl,gr.mono sA,good,le14,(zae.mp hx).1,hd.mono sA,λH7 s7=>⟨_,rfl,?_⟩⟩
       have:=k H7 s7
       cases e:ze rs nf x n with
       | true=>rw[e]at this;exact this
       | false=>rw[e]at this;exact this
     . intro x hx v ev G' s6 R k
       have:v=V.str x:=by
         split at ev
         . exact(tL.inj ev).symm
         . cases ev
       subst this
       exact⟨_,rfl,k G' λ_ _ h=>h⟩
     . intro G6 s6 hG6
       rw[<-Xy (λy=>ze rs nf y n)]at hG6
       exact q G6 U (s25.trans s6) (QB s25 hU) hG6
abbrev qaT:List Str:=["ground","numbered","number","rounds","names","name"]
theorem YH:qr qaT Q3 (qk V9):=⟨rfl,rfl,rfl,by decide+kernel,rfl,by decide+kernel,by decide+kernel⟩
theorem Rk {f fB fL fG fR CG:Addr} {fd fdB fdL fdG fdR:FuncData} (F:jQ K "give_number" "give_number" V9 f fd) (B:Qy mg) (G:Qd mg) (T:Qn K mg) (M:GM K mg CG) (hB:jm K mg "numbers_behind" Nu KC fB fdB) (hL:jm K mg "lacking" QJ ["numbers"] fL fdL) (hG:jm K mg "gets_number" YT Xa fG fdG)
   (hR:jm K mg "round_of" zu Q3 fR fdR):qo P w K mg base qN 6 f fd Q3 (wv CG):=by
 have GR:qo P w K mg base qN 5 fR fdR Q3 (ka CG):=uq hR.fn B G T M hB hL hG
 refine F.okJ YH (λvs H Q E h=>?_) (λcdv A outer s H vs Q E hr h=>?_)
 . obtain⟨g,d,rs,R,n,rfl,_⟩:=h
   rfl
 . obtain⟨g,d,rs,R,n,rfl,gr,good,le14,hd,ap,q⟩:=h
   have hu:=Qu hr
   refine⟨_,qf (qv (i:=3) YH.nd rfl (Or.inl rfl) (jE qe))
     (qf (qv (i:=4) YH.nd rfl (Or.inl rfl) (qH hR GR hr (by rfl) (qb (jv 0) (qb (jv 1) (qb (jv 2) qe)))))
     (qf (za PassesOwn.never (qt Zf (qB qF (by rfl) B.len boot_len (qb (jv 4) qe)) qj (qx _))
       (qf (jg PassesOwn.never rfl (qG (jv 4)) (qu (i:=5) YH.nd rfl (Or.inl rfl)) (qh (jx hu (jv 1) (jv 5) (jv 2) rfl)))
       (qf (jw (Xs zaY zbF zbG Jv (jv 3) (qb (jv 4) qe)))
       (qh (qv (i:=4) YH.nd rfl (Or.inl rfl) (qH hR GR hr (by rfl) (qb (jv 0) (qb (jv 1) (qb (jv 2) qe)))))))))
     (qh (qw (jv 3))))),?_⟩
   refine⟨by show 0<=sizeLine;decide,λlr hlr=>?_⟩
   have sr:Same H (upd H lr (.lst [])):=qi hlr
   refine⟨_,rfl,_,rfl,_,rfl,g,d,rs,qC R,n,rfl,gr.mono sr,good,le14,hd.mono sr,λH1 l1 s1 hl1 hl1'=>?_⟩
   obtain⟨kv0,hd0⟩:=hd.isd
   have nrd:lr≠d:=λe=>by rw[e,hd0]at hlr;cases hlr
   refine ZU (λσ H'=>∃(v5:Option V) (l:Addr) (ps:List Addr) (ls:List (List Str)),σ=[some (.ref g),some (.ref d),some (.int (n:Nat)),some (.ref lr),some (.ref l),v5]/\Fr H d H'/\H' lr=some (.lst (ps.map V.ref))/\jp H' ps ls/\
       qS (rs.map (·.1)) H' d (qC (R++ls.map λx=>(n,x)))/\H' l=some (.lst ((wQ rs (qC (R++ls.map λx=>(n,x))) n).map V.str))/\(∀R',Qo (JJ rs) (rs.map (·.1)) n (R++ls.map λx=>(n,x)) R'->Qo (JJ rs) (rs.map (·.1)) n R R')/\l≠lr/\(∀p∈ps,p≠lr)/\H l=none/\(∀p∈ps,H p=none)/\ls.length+Jg rs (qC (R++ls.map λx=>(n,x)))<=14)
     (λ_ H'=>J6 (rs.map (·.1)) H' d)
     ⟨none,l1,[],[],rfl,λb u hb _=>s1 _ _ (sr _ _ hb),s1 _ _ qd,.nil,?_,?_,?_,(λe=>by rw[e,qd]at hl1;cases hl1),λp h=>(nomatch h),QB sr hl1,λp h=>(nomatch h),?_⟩ ?_ ?_
   . have:=(hd.mono sr).mono s1
     simpa using this
   . simpa using hl1'
   . intro R' h
     simpa using h
   . show 0+_<=14
     rw[zdm]
     refine zaa (zaU _ _) ?_
     rw[tj]
     exact le14
   . rintro σ H' ⟨v5,l,ps,ls,rfl,fr,hlr',rnds,num,hl,gv,nl,np,l0,p0,bd⟩
     have grH:jZ CG H' g rs:=gr.fr ⟨kv0,hd0⟩ ap fr
     obtain⟨kv1,hd1⟩:=num.isd
     generalize hR1:R++ls.map (λx=>(n,x))=R1 at*
     refine⟨_,rfl,l,_,rfl,.inl (.of hl),_,_,rfl,rfl,_,rfl,?_⟩
     rw[tj]
     generalize hns:wQ rs (qC R1) n=ns at*
     have rnd:UN (JJ rs) (rs.map (·.1)) R1 n ns:=hns▸Gw rs R1 n
     have nsN:∀z∈ns,z∈rs.map (·.1)/\qC R1 z=none:=λz hz=>let ⟨a,b,_⟩:=(rnd.iff z).mp hz;⟨a,b⟩
     have nsnd:ns.Nodup:=by
       rw[<-hns]
       exact good.nd.sublist (zbg.trans zbg)
     have nslen:ns.length<=14:=by
       have:=JV nsnd λz hz=>(nsN z hz).1
       rw[tj]at this
       omega
     cases c:ns with
     | nil=>
       subst c
       refine jJ (by decide) ?_
       refine⟨_,rfl,?_⟩
       have:=gv R1 (.stop rnd)
       rw[<-hR1]at this num
       exact q H' lr ps ls hlr hlr' rnds p0 num this fr
     | cons z0 rest=>
       have ne:ns≠[]:=by rw[c];simp
       rw[<-c]
       clear c
       refine Qb (decide_eq_true (by have:=zdD.mpr ne;show (0:Int) < (ns.length:Int);omega)) ?_
       have nld:l≠d:=λe=>by rw[e,hd1]at hl;cases hl
       refine⟨_,rfl,l,rfl,⟨_,.of hl⟩,?_⟩
       refine jn (K:=K) (a:=l) (xs:=ns.map V.str) (λi σ' G'=>∃v5,σ'=[some (.ref g),some (.ref d),some (.int (n:Nat)),some (.ref lr),some (.ref l),v5]/\qS (rs.map (·.1)) G' d (Yd (qC R1) n (ns.take i))/\Fr H' d G')
         ⟨v5,rfl,num.congr λz=>by unfold Yd;rw[zdA,if_neg (by simp)],Fr.refl⟩ (λi σ' G' _ ⟨_,_,_,f⟩=>.of (f _ _ hl nld)) ?_ ?_
       . rintro i y σ' G' hy ⟨v5',rfl,numG,frG⟩
         obtain⟨z,ez,hz,rfl⟩:=JL hy
         have il:=(tw.mp ez).1
         have nt:z∉ns.take i:=λm=>by
           obtain⟨j,hj⟩:=zbt m
           rw[zcP]at hj
           split at hj
           . have h1:=(tw.mp hj)
             have h2:=(tw.mp ez)
             have:=uL nsnd (h1.2.trans h2.2.symm)
             omega
           . cases hj
         obtain⟨H2,put,num2,o2,e2⟩:=numG.put (n:=n) (nsN z hz).1 (by unfold Yd;rw[if_neg nt];exact(nsN z hz).2) (by rw[tj];exact le14)
         refine⟨_,rfl,_,rfl,_,rfl,d,H2,rfl,put,_,rfl,num2.congr λy=>?_,?_⟩
         . unfold Yd
           rw[tS,ez]
           by_cases e:y=z
           . subst e;rw[if_pos rfl,if_pos (by simp)]
           . rw[if_neg e]
             by_cases m:y∈ns.take i
             . rw[if_pos m,if_pos (zaI _ m)]
             . rw[if_neg m,if_neg (by simp [m,e])]
         . rw[e2]
           exact frG.at_d
       . rintro σ' G' ⟨v5',rfl,numG,frG⟩
         rw[tj,tH (tq _)]at numG
         have numG:=numG.congr (Kj λz hz=>(nsN z hz).2)
         have lrG:=frG _ _ hlr' nrd
         have lG:=frG _ _ hl nld
         have rG:=rnds.fr hd1 frG
         have fr2:=fr.trans frG
         have blt:=VG (n:=n) nsN ne
         refine⟨_,rfl,.inl ⟨rfl,_,.of lrG⟩,_,rfl,lr,_,_,rfl,rfl,lrG,by rw[tj,rnds.1];exact ql (by omega),?_⟩
         have e5:ps.map V.ref++[V.ref l]=(ps++[l]).map V.ref:=by rw[tG];rfl
         rw[e5]
         have fr3:Fr H d (upd G' lr (.lst ((ps++[l]).map V.ref))):=fr2.own hlr
         have r3:jp (upd G' lr (.lst ((ps++[l]).map V.ref))) (ps++[l]) (ls++[ns]):=by
           refine jp.snoc ⟨rG.1,λi p x e1 e2=>?_⟩ (by rw[qg nl];exact lG)
           rw[qg (np p (t7 e1))]
           exact rG.2 i p x e1 e2
         have lr3:upd G' lr (.lst ((ps++[l]).map V.ref)) lr=some (.lst ((ps++[l]).map V.ref)):=qd
         have num3:qS (rs.map (·.1)) (upd G' lr (.lst ((ps++[l]).map V.ref))) d (qC (R1++[(n,ns)])):=⟨let ⟨kvs,a,b⟩:=numG.at_;⟨kvs,by rw[qg (Ne.symm nrd)];exact a,b⟩⟩
         generalize upd G' lr (.lst ((ps++[l]).map V.ref))=G3 at fr3 r3 lr3 num3 ⊢
         refine⟨_,rfl,_,rfl,_,rfl,g,d,rs,qC (R1++[(n,ns)]),n,rfl,gr.fr ⟨kv0,hd0⟩ ap fr3,good,le14,num3,λH4 l4 s4 hl4 hl4'=>?_⟩
         have eR:R++(ls++[ns]).map (λx=>(n,x))=R1++[(n,ns)]:=by rw[Gv,hR1]
         refine⟨⟨v5',l4,ps++[l],ls++[ns],rfl,fr3.same s4,s4 _ _ lr3,r3.mono s4,?_,?_,?_,(λe=>by rw[e,lr3]at hl4;cases hl4),?_,?_,?_,?_⟩,?_⟩
         . rw[eR];exact num3.mono s4
         . rw[eR];exact hl4'
         . rw[eR];exact λR' h=>gv R' (.more rnd ne h)
         . intro p hp
           rcases t9.mp hp with hp | hp
           . exact np p hp
           . rw[tX.mp hp];exact nl
         . obtain⟨kv3,hd3⟩:=num3.isd
           exact fr3.fresh hd3 hl4
         . intro p hp
           rcases t9.mp hp with hp | hp
           . exact p0 p hp
           . rw[tX.mp hp];exact l0
         . rw[eR,tI,zaL]
           omega
         . rw[(num3.mono s4).bare,num.bare]
           exact blt
   . rintro σ H' Q Q' h ⟨v,e,p,ys,e2,h1,i,j,e3,e4,b,e5,h2⟩
     exact⟨v,e,p,ys,e2,h1,i,j,e3,e4,b,e5,h _ _ h2⟩
end
open PySem L2 PyProof.Rows MLab
theorem Kh {G:Str->List Str} {N:List Str} {n:Nat} {R R':Rs Str} (h:Qo G N n R R'):(R'=R/\UN G N R n [])\/R.length < R'.length:=by
 induction h with
 | stop r=>exact .inl ⟨rfl,r⟩
 | more r ne k ih=>
   right
   rcases ih with ⟨e,_⟩ | lt
   . rw[e,tI];exact zaM _
   . rw[tI]at lt
     exact zdc lt
theorem xC {G:Str->List Str} {N:List Str} {n:Nat} {R:Rs Str} (h:Qo G N n R R):UN G N R n []:=by
 rcases Kh h with ⟨_,r⟩ | lt
 . exact r
 . exact absurd lt (zat _)
structure yu (N:List Str) (R:Rs Str):Prop where
 sub:∀r∈R,∀z∈r.2,z∈N
 dis:R.Pairwise λr r'=>∀z∈r.2,z∉r'.2
 ne:∀r∈R,r.2≠[]
 srt:∀r∈R,r.2.Sublist N
theorem yu.nil {N:List Str}:yu N []:=⟨λ_ h=>(nomatch h),zdF.nil,λ_ h=>(nomatch h),λ_ h=>(nomatch h)⟩
theorem yu.more {G:Str->List Str} {N:List Str} {R:Rs Str} {n:Nat} {ns:List Str} (o:yu N R) (r:UN G N R n ns) (ne:ns≠[]):yu N (R++[(n,ns)]):=by
 refine⟨λx hx z hz=>?_,zdz.mpr ⟨o.dis,zci _ _,λa ha b hb z hz hb'=>?_⟩,λx hx=>?_,λx hx=>?_⟩
 . rcases t9.mp hx with hx | hx
   . exact o.sub x hx z hz
   . rw[tX.mp hx]at hz
     exact((r.iff z).mp hz).1
 . rw[tX.mp hb]at hb'
   exact Yu.mp ((r.iff z).mp hb').2.1 a ha hz
 . rcases t9.mp hx with hx | hx
   . exact o.ne x hx
   . rw[tX.mp hx];exact ne
 . rcases t9.mp hx with hx | hx
   . exact o.srt x hx
   . rw[tX.mp hx];exact r.sub
theorem Uv {G:Str->List Str} {N:List Str} {n:Nat} {R R':Rs Str} (h:Qo G N n R R'):yu N R->yu N R':=by
 induction h with
 | stop r=>exact id
 | more r ne k ih=>exact λo=>ih (o.more r ne)
theorem R7 {G:Str->List Str} {N:List Str} {n:Nat} {R R':Rs Str} (h:All G N n R R'):yu N R->yu N R':=by
 induction h with
 | stop r=>exact id
 | more g ne k ih=>exact λo=>ih (Uv g o)
theorem xD {rs:jf} {n:Nat} {R R':Rs Str} (h:Qo (JJ rs) (rs.map (·.1)) n R R'):Jg rs (qC R')<=Jg rs (qC R)/\(R'≠R->Jg rs (qC R') < Jg rs (qC R)):=by
 induction h with
 | stop r=>exact⟨tq _,λe=>absurd rfl e⟩
 | more r ne k ih=>
   have:=VG (λz hz=>let ⟨a,b,_⟩:=(r.iff z).mp hz;⟨a,b⟩) ne (n:=n) (rs:=rs)
   exact⟨by omega,λ_=>by omega⟩
theorem kO {N:List Str}:∀{R:Rs Str},yu N R->R.length<=N.length:=λ{R} o=>by
 have key:∀R:Rs Str,(R.Pairwise λr r'=>∀z∈r.2,z∉r'.2)->(∀r∈R,r.2≠[])->∃zs:List Str,zs.length=R.length/\zs.Nodup/\∀z∈zs,∃r∈R,z∈r.2:=by
   intro R
   induction R with
   | nil=>exact λ_ _=>⟨[],rfl,zbs,λz h=>(nomatch h)⟩
   | cons r R ih=>
     intro p ne
     obtain⟨zs,l,nd,sub⟩:=ih (zdH.mp p).2 (λx hx=>ne x (tY _ hx))
     obtain⟨z,t,e⟩:=zbB (ne r zab)
     have hz:z∈r.2:=by rw[e];exact zab
     refine⟨z::zs,by simp [l],zaA.mpr ⟨λm=>?_,nd⟩,λy hy=>?_⟩
     . obtain⟨r',hr',hz'⟩:=sub z m
       exact(zdH.mp p).1 r' hr' z hz hz'
     . rcases tV.mp hy with rfl | hy
       . exact⟨r,zab,hz⟩
       . obtain⟨r',hr',h⟩:=sub y hy
         exact⟨r',tY _ hr',h⟩
 obtain⟨zs,l,nd,sub⟩:=key R o.dis o.ne
 rw[<-l]
 exact JV nd λz hz=>let ⟨r,hr,h⟩:=sub z hz;o.sub r hr z h
def kt (CG:Addr):Sp:=λvs H Q _=>∃(g d:Addr) (rs:jf),vs=[.ref g,.ref d]/\jZ CG H g rs/\qy rs/\rs.length<=14/\qS (rs.map (·.1)) H d (qC [])/\UL CG H g d/\
 ∀H' l ps R,H l=none->H' l=some (.lst (ps.map V.ref))->jp H' ps (R.map (·.2))->(∀p∈ps,H p=none)->qS (rs.map (·.1)) H' d (qC R)->All (JJ rs) (rs.map (·.1)) 0 [] R->Fr H d H'->Q (.ref l) H'
section
variable {P:Program} {w:World} {K:PySem.W.Frag} {mg:Str->Option Value} {base:Heap}
abbrev Mm:List Str:=["ground","numbered","rounds","number","more"]
abbrev Vh:List Str:=["ground","numbered"]
theorem Zq:qr Mm Vh (qk Ve):=⟨rfl,rfl,rfl,by decide+kernel,rfl,by decide+kernel,by decide+kernel⟩
theorem uG {f fB fL fG fR fV CG:Addr} {fd fdB fdL fdG fdR fdV:FuncData} (F:jQ K "give_numbers" "give_numbers" Ve f fd) (B:Qy mg) (G:Qd mg) (T:Qn K mg) (M:GM K mg CG) (hB:jm K mg "numbers_behind" Nu KC fB fdB) (hL:jm K mg "lacking" QJ ["numbers"] fL fdL) (hG:jm K mg "gets_number" YT Xa fG fdG)
   (hR:jm K mg "round_of" zu Q3 fR fdR) (hV:jm K mg "give_number" V9 Q3 fV fdV):qo P w K mg base qN 7 f fd Vh (kt CG):=by
 have GV:qo P w K mg base qN 6 fV fdV Q3 (wv CG):=Rk hV.fn B G T M hB hL hG hR
 refine F.okJ Zq (λvs H Q E h=>?_) (λcdv A outer s H vs Q E hr h=>?_)
 . obtain⟨g,d,rs,rfl,_⟩:=h
   rfl
 . obtain⟨g,d,rs,rfl,gr,good,le14,hd,ap,q⟩:=h
   have hu:=Qu hr
   refine⟨_,qf (qv (i:=2) Zq.nd rfl (Or.inl rfl) (jE qe))
     (qf (qv (i:=3) Zq.nd rfl (Or.inl rfl) qj)
     (qf (qv (i:=4) Zq.nd rfl (Or.inl rfl) (qH hV GV hr (by rfl) (qb (jv 0) (qb (jv 1) (qb (jv 3) qe)))))
     (qf (za PassesOwn.never (qt Zf (qB qF (by rfl) B.len boot_len (qb (jv 4) qe)) qj (qx _))
       (qf (jw (Xs zaY PySem.F.slot_list_extend PySem.F.type_list_extend xi (jv 2) (qb (jv 4) qe)))
       (qf (uV (i:=3) Zq.nd rfl (Or.inl rfl) qj u9)
       (qh (qv (i:=4) Zq.nd rfl (Or.inl rfl) (qH hV GV hr (by rfl) (qb (jv 0) (qb (jv 1) (qb (jv 3) qe)))))))))
     (qh (qw (jv 2)))))),?_⟩
   refine⟨by show 0<=sizeLine;decide,λlr hlr=>?_⟩
   have sr:Same H (upd H lr (.lst [])):=qi hlr
   obtain⟨kv0,hd0⟩:=hd.isd
   have nrd:lr≠d:=λe=>by rw[e,hd0]at hlr;cases hlr
   have apm:∀{H':Hp},Fr H d H'->UL CG H' g d:=λfr dx lo rd h=>by
     obtain⟨dx',lo',rd',kvs',h1,_⟩:=gr
     have:=fr _ _ h1 (λe=>by rw[e,hd0]at h1;cases h1)
     rw[h]at this
     cases this
     exact ap _ _ _ h1
   have fr0:Fr H d (upd H lr (.lst [])):=Fr.refl.own hlr
   refine⟨_,rfl,_,rfl,_,rfl,g,d,rs,[],0,rfl,gr.mono sr,good,le14,hd.mono sr,apm fr0,λH1 l1 ps1 ls1 hl1 hl1' rn1 pn1 num1 gv1 fr1=>?_⟩
   refine ZU (λσ H'=>∃(l:Addr) (n:Nat) (ps ps1:List Addr) (R:Rs Str) (ls:List (List Str)),σ=[some (.ref g),some (.ref d),some (.ref lr),some (.int (n:Nat)),some (.ref l)]/\Fr H d H'/\H' lr=some (.lst (ps.map V.ref))/\jp H' ps (R.map (·.2))/\H' l=some (.lst (ps1.map V.ref))/\jp H' ps1 ls/\
       qS (rs.map (·.1)) H' d (qC (R++ls.map λx=>(n,x)))/\Qo (JJ rs) (rs.map (·.1)) n R (R++ls.map λx=>(n,x))/\(∀R',All (JJ rs) (rs.map (·.1)) n R R'->All (JJ rs) (rs.map (·.1)) 0 [] R')/\l≠lr/\(∀p∈ps,p≠lr/\H p=none)/\(∀p∈ps1,p≠lr/\H p=none)/\yu (rs.map (·.1)) R)
     (λσ H'=>J6 (rs.map (·.1)) H' d*2+(match σ with | [_,_,_,_,some (.ref l)]=>(match H' l with | some (.lst (_::_))=>1 | _=>0) | _=>0))
     ⟨l1,0,[],ps1,[],ls1,rfl,fr0.trans fr1,fr1 _ _ qd nrd,.nil,hl1',rn1,num1,gv1,λR' h=>h,(λe=>by rw[e,qd]at hl1;cases hl1),λp h=>(nomatch h),?_,.nil⟩ ?_ ?_
   . intro p hp
     have h1:=pn1 p hp
     have h2:p≠lr:=λe=>by rw[e,qd]at h1;cases h1
     exact⟨h2,by rw[qg h2]at h1;exact h1⟩
   . rintro σ H' ⟨l,n,ps,ps1,R,ls,rfl,fr,hlr',rnds,hl,rn,num,gv,al,nl,np,np1,od⟩
     obtain⟨kv1,hd1⟩:=num.isd
     have od':=Uv gv od
     have ol:=kO od'
     rw[tI,tj,tj]at ol
     refine⟨_,rfl,l,_,rfl,.inl (.of hl),_,_,rfl,rfl,_,rfl,?_⟩
     rw[tj]
     cases c:ls with
     | nil=>
       subst c
       have e0:ps1=[]:=zaE rn.1
       subst e0
       rw[zbY,zaH]at gv num
       refine jJ (by decide) ⟨_,rfl,?_⟩
       exact q H' lr ps R hlr hlr' rnds (λp hp=>(np p hp).2) num (al R (.stop (xC gv))) fr
     | cons x0 rest=>
       have ne:ls≠[]:=by rw[c];simp
       clear c
       have lp:ps1.length=ls.length:=rn.1
       have pos:=zdD.mpr ne
       refine Qb (decide_eq_true (by show (0:Int) < (ps1.length:Int);omega)) ?_
       refine⟨_,rfl,.inl ⟨rfl,_,.of hlr'⟩,_,rfl,lr,l,_,_,rfl,rfl,hlr',hl,?_,?_⟩
       . rw[tj,tj,rnds.1,tj,lp]
         exact zam (ql (by omega))
       . have e5:ps.map V.ref++ps1.map V.ref=(ps++ps1).map V.ref:=by rw[tG]
         rw[e5]
         have fr3:Fr H d (upd H' lr (.lst ((ps++ps1).map V.ref))):=fr.own hlr
         have lr3:upd H' lr (.lst ((ps++ps1).map V.ref)) lr=some (.lst ((ps++ps1).map V.ref)):=qd
         have r3:jp (upd H' lr (.lst ((ps++ps1).map V.ref))) (ps++ps1) ((R++ls.map λx=>(n,x)).map (·.2)):=by
           have ee:(R++ls.map λx=>(n,x)).map (·.2)=R.map (·.2)++ls:=by
             rw[tG,zbl]
             congr 1
             exact List.map_id ls
           rw[ee]
           refine jp.app ⟨rnds.1,λi p x e1 e2=>?_⟩ ⟨rn.1,λi p x e1 e2=>?_⟩
           . rw[qg (np p (t7 e1)).1]
             exact rnds.2 i p x e1 e2
           . rw[qg (np1 p (t7 e1)).1]
             exact rn.2 i p x e1 e2
         have num3:qS (rs.map (·.1)) (upd H' lr (.lst ((ps++ps1).map V.ref))) d (qC (R++ls.map λx=>(n,x))):=⟨let ⟨kvs,a,b⟩:=num.at_;⟨kvs,by rw[qg (Ne.symm nrd)];exact a,b⟩⟩
         have neR:R++ls.map (λx=>(n,x))≠R:=λe=>by
           have:=congrArg zaN e
           rw[tI,tj]at this
           omega
         generalize R++ls.map (λx=>(n,x))=R1 at*
         generalize upd H' lr (.lst ((ps++ps1).map V.ref))=G3 at fr3 r3 lr3 num3 ⊢
         obtain⟨kv3,hd3⟩:=num3.isd
         refine⟨_,rfl,_,_,rfl,rfl,?_⟩
         refine⟨_,rfl,_,rfl,_,rfl,g,d,rs,R1,n+1,rfl,gr.fr ⟨kv0,hd0⟩ ap fr3,good,le14,num3,apm fr3,λH4 l4 ps4 ls4 hl4 hl4' rn4 pn4 num4 gv4 fr4=>?_⟩
         refine⟨⟨l4,n+1,ps++ps1,ps4,R1,ls4,rfl,fr3.trans fr4,fr4 _ _ lr3 nrd,r3.fr hd3 fr4,hl4',rn4,num4,gv4,λR' h=>al R' (.more gv neR h),(λe=>by rw[e,lr3]at hl4;cases hl4),?_,?_,od'⟩,?_⟩
         . intro p hp
           rcases t9.mp hp with hp | hp
           . exact np p hp
           . exact np1 p hp
         . intro p hp
           have h1:=pn4 p hp
           refine⟨(λe=>by rw[e,lr3]at h1;cases h1),?_⟩
           cases h2:H p with
           | none=>rfl
           | some u=>
             by_cases c:p=d
             . rw[c,hd3]at h1;cases h1
             . rw[fr3 _ _ h2 c]at h1;cases h1
         . show J6 (rs.map (·.1)) H4 d*2+(match H4 l4 with | some (.lst (_::_))=>1 | _=>0) < J6 (rs.map (·.1)) H' d*2+(match H' l with | some (.lst (_::_))=>1 | _=>0)
           have gb:=xD gv4
           rw[num4.bare,num.bare,hl4',hl]
           obtain⟨p1,t1,e1⟩:=List.exists_cons_of_length_pos (by omega:0 < ps1.length)
           rw[e1]
           show _ < Jg rs (qC R1)*2+1
           cases ls4 with
           | nil=>
             have e0:ps4=[]:=zaE rn4.1
             rw[e0]
             show _+0 < _
             have:=gb.1
             omega
           | cons x4 t4=>
             have:=gb.2 λe=>by
               have:=congrArg zaN e
               rw[tI,tj]at this
               simp at this
             have le1:(match (some (HO.lst (ps4.map V.ref)):Option HO) with | some (.lst (_::_))=>1 | _=>0)<=1:=by split<;>omega
             omega
   . rintro σ H' Q Q' h ⟨v,e,p,ys,e2,h1,i,j,e3,e4,b,e5,h2⟩
     exact⟨v,e,p,ys,e2,h1,i,j,e3,e4,b,e5,h _ _ h2⟩
end
open PySem L2 PyProof.Rows MLab
def XO (R:Rs Str) (i:Nat):Str->Option Nat:=λz=>(qC (R.take i) z).map λ_=>Zr R z
theorem U2 {N:List Str} {R:Rs Str} (o:yu N R) {i:Nat} {r:Nat×List Str} {z:Str} (hr:R[i]?=some r) (hz:z∈r.2):Zr R z=i:=by
 obtain⟨hi,er⟩:=tw.mp hr
 unfold Zr
 rw[List.findIdx_eq hi]
 refine⟨by rw[er];exact decide_eq_true hz,λj hj=>decide_eq_false λm=>?_⟩
 have:=zaO.mp o.dis j i (by omega) hi hj z m
 rw[er]at this
 exact this hz
theorem VZ {N:List Str} {R:Rs Str} (o:yu N R) {i:Nat} {r:Nat×List Str} {z:Str} (hr:R[i]?=some r) (hz:z∈r.2):XO R i z=none:=by
 unfold XO
 have:qC (R.take i) z=none:=Yu.mpr λx hx m=>by
   obtain⟨j,hj⟩:=zbt hx
   rw[zcP]at hj
   split at hj
   . have h1:=U2 o hj m
     have h2:=U2 o hr hz
     omega
   . cases hj
 rw[this]
 rfl
theorem yF {N:List Str} {R:Rs Str} (o:yu N R) {i:Nat} {r:Nat×List Str} (hr:R[i]?=some r) (z:Str):Yd (XO R i) i r.2 z=XO R (i+1) z:=by
 unfold Yd
 by_cases c:z∈r.2
 . rw[if_pos c]
   have n:=VZ o hr c
   unfold XO at n ⊢
   have n':qC (R.take i) z=none:=by
     cases e:qC (R.take i) z with
     | none=>rfl
     | some m=>rw[e]at n;cases n
   rw[tS,hr]
   show _=(qC (R.take i++[(r.1,r.2)]) z).map _
   rw[yf n' c,U2 o hr c]
   rfl
 . rw[if_neg c]
   unfold XO
   rw[tS,hr]
   show _=(qC (R.take i++[(r.1,r.2)]) z).map _
   rw[Jz]
   cases qC (R.take i) z with
   | some m=>rfl
   | none=>
     show _=Option.map _ (if z∈r.2 then some r.1 else none)
     rw[if_neg c]
theorem wc (R:Rs Str) (z:Str):XO R R.length z=(qC R z).map λ_=>Zr R z:=by
 unfold XO
 rw[tH (tq _)]
def zz (rs:jf) (R:Rs Str) (z:Str):List V:=match qC R z with
 | some n=>[.str "number",.int (n:Nat),.int (Zr R z:Nat)]
 | none=>[.str "endless",.int (Rb.setN (Yb rs (qC R) z):Nat)]
structure zN (H:Hp) (D:Addr) (rs:jf) (R:Rs Str):Prop where
 at_:∃kvs:List (qL×V),H D=some (.dK kvs)/\kvs.map (·.1)=(rs.map (·.1)).map Sum.inr/\∀r∈rs,∃t,jl kvs (Sum.inr r.1:qL)=some (.ref t)/\H t=some (.tup (zz rs R r.1))
theorem zN.mono {H H':Hp} {D:Addr} {rs:jf} {R:Rs Str} (h:zN H D rs R) (s:Same H H'):zN H' D rs R:=⟨let ⟨kvs,a,b,c⟩:=h.at_;⟨kvs,s _ _ a,b,λr hr=>let ⟨t,u,v⟩:=c r hr;⟨t,u,s _ _ v⟩⟩⟩
theorem vW:∀(n:Nat) (L:List Nat),(∀m,m<=n->m∈L)->n*(n+1)<=2*L.sum
 | 0,_,_=>by simp
 | n+1,L,h=>by
   have hm:=h (n+1) (tq _)
   have ih:=vW n (L.erase (n+1)) λm hm'=>(zbW (by omega)).mpr (h m (by omega))
   have es:L.sum=(n+1)+(L.erase (n+1)).sum:=by
     have:=(List.perm_cons_erase hm).sum_nat
     rw[this,zax]
   rw[es]
   have:(n+1)*(n+1+1)=n*(n+1)+2*(n+1):=by
     rw[Nat.mul_comm,<-Nat.add_mul]
   omega
theorem VY {α:Type} {f g:α->Nat}:∀{l:List α},(∀x∈l,f x<=g x)->(l.map f).sum<=(l.map g).sum
 | [],_=>tq _
 | a::l,h=>by
   rw[tQ,tQ,zax,zax]
   have:=h a zab
   have:=VY (l:=l) λx hx=>h x (tY _ hx)
   omega
theorem MH {rs:jf} (hn:(rs.map (·.1)).Nodup) (z:Str):(JJ rs z).Nodup:=by
 unfold JJ
 split
 . exact hn.sublist zbg
 . exact zbs
theorem zx {rs:jf} (good:qy rs) {num:Str->Option Nat} {stp:Str->Nat} (L:zj (JJ rs) (·∈rs.map (·.1)) num stp) {x:Str} {n:Nat} (hx:x∈rs.map (·.1)) (e:num x=some n):n<=8:=by
 have h1:∀m,m<=n->m∈rs.map λr=>(num r.1).getD 0:=λm hm=>by
   rcases zbE m n with c | c
   . obtain⟨y,hy,ey,_⟩:=L.n1 hx e c
     obtain⟨r,hr,rfl⟩:=tE.mp (L.cl hx hy)
     exact tE.mpr ⟨r,hr,by rw[ey];rfl⟩
   . have:m=n:=by omega
     subst this
     obtain⟨r,hr,rfl⟩:=tE.mp hx
     exact tE.mpr ⟨r,hr,by rw[e];rfl⟩
 have h2:=vW n _ h1
 have h3:(rs.map λr=>(num r.1).getD 0).sum<=(rs.map λr=>r.2.length).sum:=VY λr hr=>by
   cases c:num r.1 with
   | none=>exact zal _
   | some m=>
     show m<=_
     have hr':r.1∈rs.map (·.1):=tE.mpr ⟨r,hr,rfl⟩
     have:(tM m).length<=((JJ rs r.1).filterMap num).length:=JV zbJ λj hj=>by
       obtain⟨y,hy,ey,_⟩:=L.n1 hr' c (zap.mp hj)
       exact zaB.mpr ⟨y,hy,ey⟩
     rw[zag]at this
     have h4:=zaw num (JJ rs r.1)
     have h5:(JJ rs r.1).length<=r.2.length:=JV (MH good.nd _) λy hy=>(yc good hr).mp hy
     omega
 have h4:=good.few
 rcases zbE 8 n with c | c
 . have:9*10<=n*(n+1):=Nat.mul_le_mul c (by omega)
   omega
 . exact c
def YF (CG:Addr):Sp:=λvs H Q _=>∃(g:Addr) (rs:jf),vs=[.ref g]/\jZ CG H g rs/\qy rs/\rs.length<=14/\
 ∀H' D R,Same H H'->H D=none->zN H' D rs R->All (JJ rs) (rs.map (·.1)) 0 [] R->Q (.ref D) H'
section
variable {P:Program} {w:World} {K:PySem.W.Frag} {mg:Str->Option Value} {base:Heap}
abbrev nLb:List Str:=["ground","numbered","steps","step","names","name","labels"]
theorem V6:qr nLb ["ground"] (qk Yn):=⟨rfl,rfl,rfl,by decide+kernel,rfl,by decide+kernel,by decide+kernel⟩
structure VI (K:PySem.W.Frag) (mg:Str->Option Value):Prop where
 lack:∃f fd,jm K mg "lacking" QJ ["numbers"] f fd
 seto:∃f fd,jm K mg "set_of" zt ["numbers"] f fd
 nb:∃f fd,jm K mg "numbers_behind" Nu KC f fd
 gets:∃f fd,jm K mg "gets_number" YT Xa f fd
 round:∃f fd,jm K mg "round_of" zu Q3 f fd
 give:∃f fd,jm K mg "give_number" V9 Q3 f fd
 gives:∃f fd,jm K mg "give_numbers" Ve Vh f fd
 labels:∃f fd,jm K mg "labels_of" Yn ["ground"] f fd
theorem Wm {f CG:Addr} {fd:FuncData} (F:jQ K "labels_of" "labels_of" Yn f fd) (B:Qy mg) (G:Qd mg) (T:Qn K mg) (M:GM K mg CG) (Y:VI K mg):qo P w K mg base qN 8 f fd ["ground"] (YF CG):=by
 obtain⟨fL,fdL,hL⟩:=Y.lack
 obtain⟨fS,fdS,hS⟩:=Y.seto
 obtain⟨fB,fdB,hB⟩:=Y.nb
 obtain⟨fG,fdG,hG⟩:=Y.gets
 obtain⟨fR,fdR,hR⟩:=Y.round
 obtain⟨fV,fdV,hV⟩:=Y.give
 obtain⟨fW,fdW,hW⟩:=Y.gives
 have GW:qo P w K mg base qN 7 fW fdW Vh (kt CG):=uG hW.fn B G T M hB hL hG hR hV
 have GB:qo P w K mg base qN 3 fB fdB KC (K0 CG):=Nx hB.fn B G T M
 have GS:qo P w K mg base qN 1 fS fdS ["numbers"] (W0 K):=Ui hS.fn
 obtain⟨fC,fdC,C⟩:=M.cls
 obtain⟨fM,fdM,hM⟩:=M.nm
 have GM:qo P w K mg base qN 1 fM fdM ["self"] (Za CG):=Zt hM.fn C G
 refine F.okJ V6 (λvs H Q E h=>?_) (λcdv A outer s H vs Q E hr h=>?_)
 . obtain⟨g,rs,rfl,_⟩:=h
   rfl
 . obtain⟨g,rs,rfl,gr,good,le14,q⟩:=h
   have hu:=Qu hr
   have r1:qR 1 _:=hr.mono (by decide)
   have r3:qR 3 _:=hr.mono (by decide)
   refine⟨_,qf (qv (i:=1) V6.nd rfl (Or.inl rfl) j7)
     (qf (qv (i:=2) V6.nd rfl (Or.inl rfl) j7)
     (qf (jg PassesOwn.never rfl (k6 (by rfl) T.enu (qb (qH hW GW hr (by rfl) (qb (jv 0) (qb (jv 1) qe))) qe)) (ZN rfl (jz (qu (i:=3) V6.nd rfl (Or.inl rfl)) (jz (qu (i:=4) V6.nd rfl (Or.inl rfl)) JX)))
       (qh (jg PassesOwn.never rfl (qG (jv 4)) (qu (i:=5) V6.nd rfl (Or.inl rfl)) (qh (jx hu (jv 2) (jv 5) (jv 3) rfl)))))
     (qf (qv (i:=6) V6.nd rfl (Or.inl rfl) j7)
     (qf (jg PassesOwn.never rfl (qG (k9 hM C.cl GM r1 (jv 0))) (qu (i:=5) V6.nd rfl (Or.inl rfl))
       (qh (qM (QE (Zi hu (jv 5) (jv 1)))
         (qh (jx hu (jv 6) (jv 5) (qW (qb qD (qb (jk hu (jv 1) (jv 5) (λ_ _=>rfl)) (qb (jk hu (jv 2) (jv 5) (λ_ _=>rfl)) qe)))) rfl))
         (qh (jx hu (jv 6) (jv 5) (qW (qb qD (qb (qH hS GS r1 (by rfl) (qb (qH hB GB r3 (by rfl) (qb (jv 0) (qb (jv 1) (qb (jv 5) qe)))) qe)) qe))) rfl)))))
     (qh (qw (jv 6))))))),?_⟩
   intro d hd st hst
   have s1:Same H (upd H d (.dK [])):=qi hd
   have s2:Same H (upd (upd H d (.dK [])) st (.dK [])):=s1.trans (qi hst)
   have hd2:upd (upd H d (.dK [])) st (.dK []) d=some (.dK []):=qm qd hst
   have hst2:upd (upd H d (.dK [])) st (.dK []) st=some (.dK []):=qd
   have nds:d≠st:=λe=>by rw[<-e,qd]at hst;cases hst
   have hs0:H st=none:=QB s1 hst
   generalize upd (upd H d (.dK [])) st (.dK [])=H2 at s2 hd2 hst2
   have num0:∀{a:Addr},H2 a=some (.dK [])->qS (rs.map (·.1)) H2 a (qC []):=λh=>⟨[],h,λz=>rfl,zbs,λk h=>(nomatch h)⟩
   have ap:∀{H':Hp} {a:Addr},Same H H'->H a=none->UL CG H' g a:=λsH ha dx lo rd h=>by
     obtain⟨dx',lo',rd',kvs',h1,_,h3,_⟩:=gr
     have:=sH _ _ h1
     rw[h]at this
     cases this
     exact λe=>by rw[e,ha]at h3;cases h3
   refine⟨_,rfl,_,rfl,g,d,rs,rfl,gr.mono s2,good,le14,num0 hd2,ap s2 hd,λH3 l3 ps R hl3 hl3' rnds _ num all fr3=>?_⟩
   have od:=R7 all .nil
   have oL:=kO od
   rw[tj]at oL
   have s3:Same H H3:=λb u h=>fr3 b u (s2 _ _ h) (qp h hd)
   have st3:H3 st=some (.dK []):=fr3 _ _ hst2 (Ne.symm nds)
   obtain⟨kvd,hd3⟩:=num.isd
   have nl3:l3≠st:=λe=>by rw[e,hst2]at hl3;cases hl3
   have L:=xo (JZ good.nd) all
   refine⟨l3,rfl,⟨_,.of hl3'⟩,?_⟩
   refine Ux (K:=K) (a:=l3) (xs:=ps.map V.ref) (λi σ' G'=>∃v3 v4 v5,σ'=[some (.ref g),some (.ref d),some (.ref st),v3,v4,v5,none]/\qS (rs.map (·.1)) G' st (XO R i)/\Fr H3 st G')
     ⟨none,none,none,rfl,⟨[],st3,λz=>rfl,zbs,λk h=>(nomatch h)⟩,Fr.refl⟩ (λi σ' G' _ ⟨_,_,_,_,_,f⟩=>.of (f _ _ hl3' nl3)) ?_ ?_
   . rintro i x σ' G' p hx hp ⟨v3,v4,v5,rfl,XV,frS⟩
     rw[tN]at hx
     cases ep:ps[i]? with
     | none=>rw[ep]at hx;cases hx
     | some pi=>
       rw[ep]at hx
       obtain rfl:=(tL.inj hx).symm
       have li:i < R.length:=by
         have:=(tw.mp ep).1
         have:=rnds.1
         rw[tj]at this
         omega
       obtain⟨r,er⟩:∃r,R[i]?=some r:=⟨_,tF li⟩
       have hpi:=rnds.2 i pi r.2 ep (by rw[tN,er];rfl)
       have npi:pi≠st:=λe=>by rw[e,st3]at hpi;cases hpi
       have sp:Same G' (upd G' p (.tup [.int (i:Nat),V.ref pi])):=qi hp
       have frp:Fr H3 st (upd G' p (.tup [.int (i:Nat),V.ref pi])):=frS.same sp
       have rN:∀z∈r.2,z∈rs.map (·.1):=od.sub r (t7 er)
       refine⟨p,_,rfl,.of qd,rfl,_,_,rfl,_,_,rfl,rfl,?_⟩
       have hpp:∀{G2:Hp},Fr H3 st G2->G2 pi=some (.lst (r.2.map V.str)):=λf=>f _ _ hpi npi
       have num1:=XV.mono sp
       generalize upd G' p (.tup [.int (i:Nat),V.ref pi])=G1 at sp frp num1
       refine⟨_,rfl,pi,rfl,⟨_,.of (hpp frp)⟩,?_⟩
       have rnd:r.2.Nodup:=good.nd.sublist (od.srt r (t7 er))
       refine jn (K:=K) (a:=pi) (xs:=r.2.map V.str) (λj σ'' G2=>∃v5,σ''=[some (.ref g),some (.ref d),some (.ref st),some (.int (i:Nat)),some (.ref pi),v5,none]/\qS (rs.map (·.1)) G2 st (Yd (XO R i) i (r.2.take j))/\Fr H3 st G2)
         ⟨v5,rfl,num1.congr λz=>by unfold Yd;rw[zdA,if_neg (by simp)],frp⟩ (λj σ'' G2 _ ⟨_,_,_,f⟩=>.of (hpp f)) ?_ ?_
       . rintro j y σ'' G2 hy ⟨v5',rfl,numG,frG⟩
         obtain⟨z,ez,hz,rfl⟩:=JL hy
         by_cases nt:z∈r.2.take j
         . exfalso
           obtain⟨j',hj⟩:=zbt nt
           rw[zcP]at hj
           split at hj
           . have h1:=(tw.mp hj)
             have h2:=(tw.mp ez)
             have:=uL rnd (h1.2.trans h2.2.symm)
             omega
           . cases hj
         . obtain⟨H4,put,num4,o4,e4⟩:=numG.put (n:=i) (rN z hz) (by unfold Yd;rw[if_neg nt];exact VZ od er hz) (by rw[tj];exact le14)
           refine⟨_,rfl,_,rfl,_,rfl,st,H4,rfl,put,_,rfl,num4.congr λy=>?_,?_⟩
           . unfold Yd
             rw[tS,ez]
             by_cases e:y=z
             . subst e;rw[if_pos rfl,if_pos (by simp)]
             . rw[if_neg e]
               by_cases m:y∈r.2.take j
               . rw[if_pos m,if_pos (zaI _ m)]
               . rw[if_neg m,if_neg (by simp [m,e])]
           . rw[e4]
             exact frG.at_d
       . rintro σ'' G2 ⟨v5',rfl,numG,frG⟩
         rw[tj,tH (tq _)]at numG
         exact⟨_,_,_,rfl,numG.congr (yF od er),frG⟩
   . rintro σ' G' ⟨v3,v4,v5,rfl,XV,frS⟩
     rw[tj,rnds.1,tj]at XV
     have XV:=XV.congr (wc R)
     have sG:Same H G':=λb u h=>frS _ _ (s3 _ _ h) (qp h hs0)
     have numD:qS (rs.map (·.1)) G' d (qC R):=num.fr frS nds
     intro D hD
     have sD:Same G' (upd G' D (.dK [])):=qi hD
     have hD0:H D=none:=QB sG hD
     have hDD:upd G' D (.dK []) D=some (.dK []):=qd
     generalize upd G' D (.dK [])=G1 at sD hDD
     obtain⟨dx,fs,hg,l1,l2⟩:=((gr.mono sG).mono sD).ins
     refine⟨_,rfl,g,dx,fs,rfl,hg,l1,g,rs,rfl,(gr.mono sG).mono sD,λln hln=>⟨ln,rfl,⟨_,.of qd⟩,?_⟩⟩
     have sL:Same G1 (upd G1 ln (.lst ((rs.map (·.1)).map V.str))):=qi hln
     have hL2:upd G1 ln (.lst ((rs.map (·.1)).map V.str)) ln=some (.lst ((rs.map (·.1)).map V.str)):=qd
     have nDl:ln≠D:=λe=>by rw[e,hDD]at hln;cases hln
     generalize upd G1 ln (.lst ((rs.map (·.1)).map V.str))=G2 at sL hL2
     have sG2:Same G' G2:=sD.trans sL
     refine jn (K:=K) (a:=ln) (xs:=(rs.map (·.1)).map V.str) (λi σ' G3=>∃v5 kvs,σ'=[some (.ref g),some (.ref d),some (.ref st),v3,v4,v5,some (.ref D)]/\Fr G2 D G3/\G3 D=some (.dK kvs)/\kvs.map (·.1)=((rs.map (·.1)).take i).map Sum.inr/\
         ∀r∈rs.take i,∃t,jl kvs (Sum.inr r.1:qL)=some (.ref t)/\G3 t=some (.tup (zz rs R r.1)))
       ⟨v5,[],rfl,Fr.refl,sL _ _ hDD,rfl,λr h=>(nomatch h)⟩ (λi σ' G3 _ ⟨_,_,_,f,_⟩=>.of (f _ _ hL2 nDl)) ?_ ?_
     . rintro i y σ' G3 hy ⟨v5',kvs,rfl,fr,hDk,ek,hv⟩
       obtain⟨r,er,hr',rfl⟩:=uM hy
       have hi:=(tw.mp er).1
       have s23:Same G' G3:=λb u h=>fr _ _ (sG2 _ _ h) (qp h hD)
       have sA:=sG.trans s23
       have nm:=numD.mono s23
       have ns:=XV.mono s23
       have lk:kvs.length=i:=by
         have:=congrArg zaN ek
         rw[tj,tj,tU,tj]at this
         omega
       have eN:(rs.map (·.1))[i]?=some r.1:=by rw[tN,er];rfl
       have new:jl kvs (Sum.inr r.1:qL)=none:=Jm (by rw[ek];exact Jt good.nd eN)
       have fin:∀(G4:Hp) (t:Addr),Fr G2 D G4->G4 D=some (.dK kvs)->Same G3 G4->G4 t=some (.tup (zz rs R r.1))->∃H5,Q6 G4 D (.str r.1) (.ref t) H5/\
           ∃v5 kvs,[some (V.ref g),some (.ref d),some (.ref st),v3,v4,some (.str r.1),some (.ref D)]=[some (.ref g),some (.ref d),some (.ref st),v3,v4,v5,some (.ref D)]/\Fr G2 D H5/\H5 D=some (.dK kvs)/\kvs.map (·.1)=((rs.map (·.1)).take (i+1)).map Sum.inr/\
            ∀r∈rs.take (i+1),∃t,jl kvs (Sum.inr r.1:qL)=some (.ref t)/\H5 t=some (.tup (zz rs R r.1)):=λG4 t f4 h4 s4 ht=>by
         refine⟨_,Q6.k (k:=(Sum.inr r.1:qL)) h4 (ql (by omega)),some (.str r.1),jR kvs (Sum.inr r.1) (.ref t),rfl,f4.at_d,qd,?_,λr2 hr2=>?_⟩
         . rw[Js _ new,tG,ek,tS,eN,tG]
           rfl
         . have tD:∀{b:Addr} {xs:List V},G4 b=some (.tup xs)->b≠D:=λhb e=>by rw[e,h4]at hb;cases hb
           rw[tS,er]at hr2
           rcases t9.mp hr2 with h | h
           . obtain⟨t2,a,b⟩:=hv r2 h
             have ne:r2.1≠r.1:=λe=>by rw[e,new]at a;cases a
             refine⟨t2,?_,?_⟩
             . rw[Qe,if_neg (λq=>ne (Sum.inr.inj q))];exact a
             . rw[qg (tD (s4 _ _ b))];exact s4 _ _ b
           . have:r2=r:=by simpa using h
             subst this
             refine⟨t,?_,?_⟩
             . rw[Qe,if_pos rfl]
             . rw[qg (tD ht)];exact ht
       refine⟨_,rfl,_,rfl,d,_,rfl,nm.get r.1,_,rfl,?_⟩
       cases c:qC R r.1 with
       | some n=>
         have g1:=nm.get r.1
         have g2:=ns.get r.1
         rw[c]at g1 g2
         refine j8 ⟨_,rfl,_,rfl,d,_,rfl,g1,_,rfl,_,rfl,st,_,rfl,g2,by show 3<=sizeLine;decide,λt ht=>?_⟩
         have el:zz rs R r.1=[.str "number",.int (n:Nat),.int (Zr R r.1:Nat)]:=by unfold zz;rw[c]
         obtain⟨H5,put,k⟩:=fin (upd G3 t (.tup [.str "number",.int (n:Nat),.int (Zr R r.1:Nat)])) t (fr.same (qi ht)) (qm hDk ht) (qi ht) (by rw[el];exact qd)
         exact⟨_,rfl,_,rfl,D,H5,rfl,put,k⟩
       | none=>
         have gN:=L
         refine jh ⟨_,rfl,_,rfl,_,rfl,g,d,rs,r.1,qC R,rfl,gr.mono sA,good,le14,tE.mpr ⟨r,hr',rfl⟩,nm,λH4 l4 s4 hl4 hl4'=>?_⟩
         refine⟨l4,_,rfl,.of hl4',λx hx=>?_,by show 2<=sizeLine;decide,λt ht=>?_⟩
         . obtain⟨y,hy,ey⟩:=Qr.mp hx
           have:=zx good L (JZ good.nd _ (tE.mpr ⟨r,hr',rfl⟩) y hy) ey
           omega
         . have el:zz rs R r.1=[.str "endless",.int (Rb.setN (Yb rs (qC R) r.1):Nat)]:=by unfold zz;rw[c]
           obtain⟨H5,put,k⟩:=fin (upd H4 t (.tup [.str "endless",.int (Rb.setN (Yb rs (qC R) r.1):Nat)])) t ((fr.same s4).same (qi ht)) (qm (s4 _ _ hDk) ht) (s4.trans (qi ht)) (by rw[el];exact qd)
           exact⟨_,rfl,_,rfl,D,H5,rfl,put,k⟩
     . rintro σ' G3 ⟨v5',kvs,rfl,fr,hDk,ek,hv⟩
       rw[tj,tH (tq _)]at ek
       rw[tj,tj,tH (tq _)]at hv
       exact⟨_,rfl,q G3 D R (λb u h=>fr _ _ (sG2 _ _ (sG _ _ h)) (qp h hD0)) hD0 ⟨kvs,hDk,ek,hv⟩ all⟩
end
open PySem L2 PyProof.Rows Rb
abbrev YK:Stmt:=top 34
abbrev Yl:Stmt:=top 35
abbrev Zc:Stmt:=top 12
abbrev ZY:Stmt:=top 39
abbrev YR:Stmt:=top 40
abbrev YJ:Stmt:=top 44
abbrev YM:Stmt:=jK (top 42) 0
abbrev YL:Stmt:=jK (top 42) 1
abbrev Va:Stmt:=jK (top 42) 3
abbrev kA:Stmt:=jK (top 42) 4
abbrev V8:Stmt:=jK (top 42) 5
abbrev YW:Stmt:=jK (top 43) 0
abbrev YV:Stmt:=jK (top 43) 1
abbrev Vf:Stmt:=jK (top 43) 3
abbrev kG:Stmt:=jK (top 43) 4
abbrev Ua:Stmt:=jK (top 43) 5
section
variable {P:Program} {w:World} {K:PySem.W.Frag} {mg:Str->Option Value} {base:Heap}
theorem bx (a b:Nat):Builtin.bitXor a b=((a^^^b:Nat):Int):=by
 unfold Builtin.bitXor
 rw[bo,ba]
 have:=Rb.or_and_xor a b
 omega
def W1:Sp:=λvs H Q _=>∃b:Nat,vs=[.int b]/\b < 65536/\∀l,H l=none->Q (.ref l) (upd H l (.lst (Jy (Rb.memN b 16))))
def V0:Sp:=λvs H Q _=>∃b n:Nat,vs=[.int b,.int n]/\b < 65536/\n < 16/\∀H',Same H H'->Q (.int (Rb.turnN b n 16:Nat)) H'
theorem R5 (b:Nat):b < 2^ (Builtin.Int.intBits (b:Nat)):=by
 unfold Builtin.Int.intBits
 by_cases h:b=0
 . subst h;simp
 . rw[if_neg (by simpa using h)]
   exact Nat.lt_log2_self
theorem WG {b:Nat} (h:b < 65536):Builtin.Int.intBits (b:Nat)<=16:=by
 unfold Builtin.Int.intBits
 by_cases h0:b=0
 . subst h0;simp
 . rw[if_neg (by simpa using h0)]
   have:b.log2 < 16:=(Nat.log2_lt h0).mpr h
   exact this
theorem ku (b i:Nat):Builtin.bitAnd ((b:Int) / 2^ ((i:Nat):Int).toNat) 1=(((b.testBit i).toNat:Nat):Int):=by
 have e1:(b:Int) / 2^ ((i:Nat):Int).toNat=((b / 2^i:Nat):Int):=by rw[zaJ];push_cast;rfl
 have e2:Builtin.bitAnd ((b / 2^i:Nat):Int) 1=(((b / 2^i)&&& 1:Nat):Int):=ba (b / 2^i) 1
 rw[e1,e2,Nat.and_one_is_mod,Rb.testBit_div]
 by_cases h:b / 2^i % 2=1
 . rw[h];rfl
 . have h':b / 2^i % 2=0:=by omega
   rw[h'];rfl
theorem K6:qr ["bits"] ["bits"] (qk YK):=⟨rfl,rfl,rfl,by decide+kernel,rfl,by decide+kernel,by decide+kernel⟩
theorem Uk {f:Addr} {fd:FuncData} (F:jQ K "numbers_in" "numbers_in" YK f fd) (B:Qy mg):qo P w K mg base qN 1 f fd ["bits"] W1:=by
 refine F.okJ K6 (λvs H Q E h=>?_) (λcdv A outer s H vs Q E hr h=>?_)
 . obtain⟨b,rfl,_⟩:=h
   rfl
 . obtain⟨b,rfl,hb,q⟩:=h
   refine⟨_,qh (qw (jM (N':=["number","bits"]) (ix:=[none,some 0]) rfl ⟨rfl,rfl,rfl,rfl,rfl⟩
     (jd (by rfl) B.rng (qb (vm PySem.F.plainAttrs_int PySem.F.slot_int_bit_length PySem.F.type_int_bit_length xj (jv 0)) qe))
     (λC s2 H2 fp pins=>⟨qu (i:=0) (show (["number","bits"]:List Str).Nodup by decide+kernel) rfl (Or.inl rfl),jH (qt j5 (qJ uj (qJ ue (jv 1) (jv 0)) qj) qj (qx _)),jv 0⟩))),?_⟩
   refine⟨_,rfl,rfl,_,rfl,rfl,_,rfl,by omega,?_,λD hD=>?_⟩
   . have:=WG hb
     omega
   . rw[zaJ]
     refine Q0 (λi σ' H'=>∃v,σ'=[v,some (.int b)]/\H'=upd H D (.lst (Jy (Rb.memN b i)))) ⟨none,rfl,rfl⟩ ?_ ?_
     . rintro i σ' H' hi ⟨v,rfl,rfl⟩
       rw[zbL]
       refine⟨_,rfl,_,rfl,_,_,rfl,rfl,by omega,_,_,rfl,rfl,rfl,_,rfl,?_⟩
       have e:decide (V.int (Builtin.bitAnd ((b:Int) / 2^ ((i:Nat):Int).toNat) 1)=V.int 1)=b.testBit i:=by
         rw[ku]
         cases b.testBit i<;>decide
       rw[e]
       have l:(Jy (Rb.memN b i)).length < sizeLine:=by
         rw[JY]
         refine ql ?_
         have:=WG hb
         have h1:(Rb.memN b i).length<=(tM i).length:=zaU _ _
         rw[zag]at h1
         omega
       cases hb':b.testBit i with
       | true=>
         refine j8 ⟨_,rfl,_,qd,l,some (.int i),rfl,?_⟩
         rw[jo,Xt,Rb.memN_succ,hb']
         rfl
       | false=>
         refine jh ⟨some (.int i),rfl,?_⟩
         rw[Rb.memN_succ,hb']
         simp
     . rintro σ' H' ⟨v,rfl,rfl⟩
       rw[Rb.memN_same (m:=16) hb (R5 b)]
       exact q D hD
theorem wH:qr ["bits","number"] ["bits","number"] (qk Yl):=⟨rfl,rfl,rfl,by decide+kernel,rfl,by decide+kernel,by decide+kernel⟩
theorem y6 {f fN fS:Addr} {fd fdN fdS:FuncData} (F:jQ K "set_turned" "set_turned" Yl f fd) (B:Qy mg) (hN:jm K mg "numbers_in" YK ["bits"] fN fdN) (hS:jm K mg "set_of" zt ["numbers"] fS fdS):
   qo P w K mg base qN 2 f fd ["bits","number"] V0:=by
 have GN:qo P w K mg base qN 1 fN fdN ["bits"] W1:=Uk hN.fn B
 have GS:qo P w K mg base qN 1 fS fdS ["numbers"] (W0 K):=Ui hS.fn
 refine F.okJ wH (λvs H Q E h=>?_) (λcdv A outer s H vs Q E hr h=>?_)
 . obtain⟨b,n,rfl,_⟩:=h
   rfl
 . obtain⟨b,n,rfl,hb,hn,q⟩:=h
   refine⟨_,qh (qw (qH hS GS hr (by rfl) (qb (jM (N':=["other","number"]) (ix:=[none,some 1]) rfl ⟨rfl,rfl,rfl,rfl,rfl⟩
     (qG (qH hN GN hr (by rfl) (qb (jv 0) qe)))
     (λC s2 H2 fp pins=>⟨qu (i:=0) (show (["other","number"]:List Str).Nodup by decide+kernel) rfl (Or.inl rfl),ju,qJ Vi (jv 0) (jv 1)⟩)) qe))),?_⟩
   refine⟨_,rfl,b,rfl,hb,λl hl=>⟨l,rfl,⟨_,.of qd⟩,λD hD=>?_⟩⟩
   have nlD:l≠D:=λe=>by rw[e,qd]at hD;cases hD
   have HD:H D=none:=by rw[<-hD,qg (Ne.symm nlD)]
   refine jN (K:=K) (a:=l) (xs:=Jy (Rb.memN b 16)) (λi σ' H'=>∃v,σ'=[v,some (.int n)]/\H'=upd (upd H l (.lst (Jy (Rb.memN b 16)))) D (.lst (Jy (((Rb.memN b 16).take i).map (·^^^n))))) ⟨none,rfl,rfl⟩
     (λi σ' H' _ ⟨_,_,e⟩=>.of (by rw[e,qg nlD];exact qd)) ?_ ?_
   . rintro i x σ' H' hx ⟨v,rfl,rfl⟩
     obtain⟨m,hm,rfl⟩:=Vy hx
     refine⟨_,rfl,_,rfl,_,_,rfl,rfl,_,qd,?_,some (.int m),rfl,?_⟩
     . rw[JY,tj,tU]
       refine ql (zaa (zdi _ _) ?_)
       have h1:(Rb.memN b 16).length<=(tM 16).length:=zaU _ _
       rw[zag]at h1
       omega
     . rw[jo]
       dsimp only
       rw[bx,Xt,zp hm,tG]
       rfl
   . rintro σ' H' ⟨v,rfl,rfl⟩
     rw[JY,tH (tq _)]
     refine⟨D,(Rb.memN b 16).map (·^^^n),rfl,.of qd,λx hx=>?_,?_⟩
     . obtain⟨y,hy,rfl⟩:=tE.mp hx
       have:=Rb.xor_lt (m:=4) (Rb.mem_memN.mp hy).1 hn
       omega
     . exact q _ (Same.upd (qi hl) HD)
end
structure Cl (K:PySem.W.Frag) (mg:Str->Option Value) (x qual fld:Str) (st:Stmt) (C f:Addr) (fd:FuncData):Prop where
 cl:Yy K C
 mkr:Mk K C f
 ns:mg x=some (.ref C)
 na:jX K C fld
 fn:jQ K "__init__" qual st f fd
 bi:jO K fd ["self",fld] []
 ca:tJ K (.ref C) "__class__"=some (some (.builtin "object.__class__"))
 ob:zbh K C (.type "object")=some true
structure Wk (K:PySem.W.Frag) (mg:Str->Option Value):Prop where
 isi:mg "isinstance"=none
 bool:mg "bool"=none
 kii:zad K (.type "int") (.type "int")=some true
 kib:zad K (.type "int") (.type "bool")=some false
 most:∃t,mg "MOST_NUMBER"=some (.int 15 t)
 mset:∃t,mg "MOST_BITS"=some (.int 65535 t)
theorem NA {f:Str} {v:V}:[(f,v)].lookup f=some v:=by simp [zbj]
def Q7 (CN CE:Addr) (H:Hp) (a:Addr):W->Prop
 | .num n=>∃dx,H a=some (.ins CN dx [("number",.int (n:Nat))])
 | .edl b=>∃dx,H a=some (.ins CE dx [("bits",.int (b:Nat))])
theorem Q7.same {CN CE:Addr} {H H':Hp} {a:Addr} {w:W} (h:Q7 CN CE H a w) (s:Same H H'):Q7 CN CE H' a w:=by
 cases w with
 | num n=>obtain⟨dx,e⟩:=h;exact⟨dx,s _ _ e⟩
 | edl b=>obtain⟨dx,e⟩:=h;exact⟨dx,s _ _ e⟩
def Qk:W->Str
 | .num _=>"number"
 | .edl _=>"endless"
def zo:W->Nat
 | .num n=>n
 | .edl b=>b
section
variable {P:Program} {w:World} {K:PySem.W.Frag} {mg:Str->Option Value} {base:Heap}
def YD:Sp:=λvs H Q _=>∃i:Int,vs=[.int i]/\Q (.bl true) H
def V3:Sp:=λvs H Q _=>∃i:Int,vs=[.int i]/\0<=i/\i<=15/\Q (.bl true) H
def kr:Sp:=λvs H Q _=>∃i:Int,vs=[.int i]/\0<=i/\i<=65535/\Q (.bl true) H
theorem K5:qr ["thing"] ["thing"] (qk Zc):=⟨rfl,rfl,rfl,by decide+kernel,rfl,by decide+kernel,by decide+kernel⟩
theorem Uh {f:Addr} {fd:FuncData} (F:jQ K "is_whole" "is_whole" Zc f fd) (B:Qy mg) (T:Wk K mg):qo P w K mg base qN 1 f fd ["thing"] YD:=by
 refine F.okJ K5 (λvs H Q E h=>?_) (λcdv A outer s H vs Q E hr h=>?_)
 . obtain⟨i,rfl,_⟩:=h
   rfl
 . obtain⟨i,rfl,q⟩:=h
   refine⟨_,qh (qw (Zh (qB jC (by rfl) T.isi boot_isinstance (qb (jv 0) (qb (QV (v:=.ty "int") (by rfl) B.int boot_int rfl) qe)))
     (zE (MA (qB jC (by rfl) T.isi boot_isinstance (qb (jv 0) (qb (QV (v:=.ty "bool") (by rfl) T.bool boot_bool rfl) qe))))))),?_⟩
   exact⟨_,rfl,_,_,_,_,rfl,rfl,.int i,T.kii,_,rfl,j8 ⟨_,rfl,_,_,_,_,rfl,rfl,.int i,T.kib,_,rfl,q⟩⟩
theorem wK:qr ["thing"] ["thing"] (qk ZY):=⟨rfl,rfl,rfl,by decide+kernel,rfl,by decide+kernel,by decide+kernel⟩
theorem y9 {f fW:Addr} {fd fdW:FuncData} (F:jQ K "is_number" "is_number" ZY f fd) (B:Qy mg) (T:Wk K mg) (hW:jm K mg "is_whole" Zc ["thing"] fW fdW):qo P w K mg base qN 2 f fd ["thing"] V3:=by
 have GW:qo P w K mg base qN 1 fW fdW ["thing"] YD:=Uh hW.fn B T
 obtain⟨t,hm⟩:=T.most
 refine F.okJ wK (λvs H Q E h=>?_) (λcdv A outer s H vs Q E hr h=>?_)
 . obtain⟨i,rfl,_⟩:=h
   rfl
 . obtain⟨i,rfl,h0,h1,q⟩:=h
   refine⟨_,qh (qw (Zh (qH hW GW hr (by rfl) (qb (jv 0) qe)) (Zh (Qa kQ qj (jv 0) (qx _)) (zE (Qa kQ (jv 0) (Qt (v:=.int 15) (by rfl) hm ⟨_,rfl⟩) (qx _)))))),?_⟩
   refine⟨_,rfl,i,rfl,_,rfl,j8 ⟨_,rfl,_,_,rfl,rfl,_,rfl,?_⟩⟩
   rw[decide_eq_true h0]
   refine j8 ⟨_,rfl,_,_,rfl,rfl,?_⟩
   have e:decide (i<=15)=true:=decide_eq_true h1
   show Q (.bl (decide (i<=15))) H
   rw[e]
   exact q
theorem Gd:qr ["thing"] ["thing"] (qk YR):=⟨rfl,rfl,rfl,by decide+kernel,rfl,by decide+kernel,by decide+kernel⟩
theorem uC {f fW:Addr} {fd fdW:FuncData} (F:jQ K "is_set" "is_set" YR f fd) (B:Qy mg) (T:Wk K mg) (hW:jm K mg "is_whole" Zc ["thing"] fW fdW):qo P w K mg base qN 2 f fd ["thing"] kr:=by
 have GW:qo P w K mg base qN 1 fW fdW ["thing"] YD:=Uh hW.fn B T
 obtain⟨t,hm⟩:=T.mset
 refine F.okJ Gd (λvs H Q E h=>?_) (λcdv A outer s H vs Q E hr h=>?_)
 . obtain⟨i,rfl,_⟩:=h
   rfl
 . obtain⟨i,rfl,h0,h1,q⟩:=h
   refine⟨_,qh (qw (Zh (qH hW GW hr (by rfl) (qb (jv 0) qe)) (Zh (Qa kQ qj (jv 0) (qx _)) (zE (Qa kQ (jv 0) (Qt (v:=.int 65535) (by rfl) hm ⟨_,rfl⟩) (qx _)))))),?_⟩
   refine⟨_,rfl,i,rfl,_,rfl,j8 ⟨_,rfl,_,_,rfl,rfl,_,rfl,?_⟩⟩
   rw[decide_eq_true h0]
   refine j8 ⟨_,rfl,_,_,rfl,rfl,?_⟩
   have e:decide (i<=65535)=true:=decide_eq_true h1
   show Q (.bl (decide (i<=65535))) H
   rw[e]
   exact q
def W5 (C:Addr) (fld:Str) (hi:Int):Sp:=λvs H Q _=>∃(x dx:Addr) (n:Int),vs=[.ref x,.int n]/\0<=n/\n<=hi/\H x=some (.ins C dx [])/\Q .non (upd H x (.ins C dx [(fld,.int n)]))
theorem K9:qr ["self","number"] ["self","number"] (qk YM):=⟨rfl,rfl,rfl,by decide+kernel,rfl,by decide+kernel,by decide+kernel⟩
theorem uv {f fB fW CN:Addr} {fd fdB fdW:FuncData} (F:jQ K "__init__" "Numbered.__init__" YM f fd) (B:Qy mg) (T:Wk K mg) (hW:jm K mg "is_whole" Zc ["thing"] fW fdW) (hB:jm K mg "is_number" ZY ["thing"] fB fdB) (cl:Yy K CN) (na:jX K CN "number"):
   qo P w K mg base qN 3 f fd ["self","number"] (W5 CN "number" 15):=by
 have GB:qo P w K mg base qN 2 fB fdB ["thing"] V3:=y9 hB.fn B T hW
 refine F.okJ K9 (λvs H Q E h=>?_) (λcdv A outer s H vs Q E hr h=>?_)
 . obtain⟨x,dx,n,rfl,_⟩:=h
   rfl
 . obtain⟨x,dx,n,rfl,h0,h1,hx,q⟩:=h
   refine⟨_,qf (qM (QP (jL (qH hB GB hr (by rfl) (qb (jv 1) qe)))) q5 qA) (qh (Vu (jv 0) (jv 1) rfl)),?_⟩
   exact⟨_,rfl,n,rfl,h0,h1,_,rfl,jh ⟨_,rfl,_,rfl,x,CN,dx,[],rfl,hx,cl,na,by decide,q⟩⟩
theorem Gj:qr ["self","bits"] ["self","bits"] (qk YW):=⟨rfl,rfl,rfl,by decide+kernel,rfl,by decide+kernel,by decide+kernel⟩
theorem uJ {f fB fW CE:Addr} {fd fdB fdW:FuncData} (F:jQ K "__init__" "Endless.__init__" YW f fd) (B:Qy mg) (T:Wk K mg) (hW:jm K mg "is_whole" Zc ["thing"] fW fdW) (hB:jm K mg "is_set" YR ["thing"] fB fdB) (cl:Yy K CE) (na:jX K CE "bits"):
   qo P w K mg base qN 3 f fd ["self","bits"] (W5 CE "bits" 65535):=by
 have GB:qo P w K mg base qN 2 fB fdB ["thing"] kr:=uC hB.fn B T hW
 refine F.okJ Gj (λvs H Q E h=>?_) (λcdv A outer s H vs Q E hr h=>?_)
 . obtain⟨x,dx,n,rfl,_⟩:=h
   rfl
 . obtain⟨x,dx,n,rfl,h0,h1,hx,q⟩:=h
   refine⟨_,qf (qM (QP (jL (qH hB GB hr (by rfl) (qb (jv 1) qe)))) q5 qA) (qh (Vu (jv 0) (jv 1) rfl)),?_⟩
   exact⟨_,rfl,n,rfl,h0,h1,_,rfl,jh ⟨_,rfl,_,rfl,x,CE,dx,[],rfl,hx,cl,na,by decide,q⟩⟩
def vY (CN CE:Addr):Sp:=λvs H Q _=>∃a w,vs=[.ref a]/\Q7 CN CE H a w/\∀p,H p=none->Q (.ref p) (upd H p (.tup [.str (Qk w),.int (zo w:Nat)]))
def WY (CN CE:Addr):Sp:=λvs H Q E=>(∃a n,vs=[.ref a]/\Q7 CN CE H a (.num n))/\vY CN CE vs H Q E
def WZ (CN CE:Addr):Sp:=λvs H Q E=>(∃a b,vs=[.ref a]/\Q7 CN CE H a (.edl b))/\vY CN CE vs H Q E
theorem Q7.inj {CN CE:Addr} (hne:CN≠CE) {H:Hp} {a:Addr} {u v:W} (h:Q7 CN CE H a u) (g:Q7 CN CE H a v):u=v:=by
 cases u<;>cases v<;>obtain⟨dx,e⟩:=h<;>obtain⟨dx',e'⟩:=g<;>rw[e]at e'
 . have:=(HO.ins.inj (tL.inj e')).2.2
   have h3:=zdQ.inj this
   have h4:=V.int.inj (Prod.mk.inj h3.1).2
   congr 1
   omega
 . exact absurd (HO.ins.inj (tL.inj e')).1 hne
 . exact absurd (HO.ins.inj (tL.inj e')).1 (Ne.symm hne)
 . have:=(HO.ins.inj (tL.inj e')).2.2
   have h3:=zdQ.inj this
   have h4:=V.int.inj (Prod.mk.inj h3.1).2
   congr 1
   omega
theorem K7:qr ["self"] ["self"] (qk YL):=⟨rfl,rfl,rfl,by decide+kernel,rfl,by decide+kernel,by decide+kernel⟩
theorem uu {f CN CE:Addr} {fd:FuncData} (F:jQ K "told" "Numbered.told" YL f fd) (cl:Yy K CN) (na:jX K CN "number") (hne:CN≠CE):qo P w K mg base qN 1 f fd ["self"] (WY CN CE):=by
 refine F.okJ K7 (λvs H Q E h=>?_) (λcdv A outer s H vs Q E hr h=>?_)
 . obtain⟨_,a,w,rfl,_⟩:=h
   rfl
 . obtain⟨⟨a,n,rfl,hN⟩,a',w,e,hw,q⟩:=h
   cases e
   have ew:=Q7.inj hne hw hN
   subst ew
   obtain⟨dx,hx⟩:=hN
   refine⟨_,qh (qw (qW (qb qD (qb (QF (jv 0) rfl) qe)))),?_⟩
   exact⟨_,rfl,a,CN,dx,_,_,rfl,hx,cl,na,NA,by show 2<=sizeLine;decide,q⟩
theorem Gg:qr ["self"] ["self"] (qk YV):=⟨rfl,rfl,rfl,by decide+kernel,rfl,by decide+kernel,by decide+kernel⟩
theorem uI {f CN CE:Addr} {fd:FuncData} (F:jQ K "told" "Endless.told" YV f fd) (cl:Yy K CE) (na:jX K CE "bits") (hne:CN≠CE):qo P w K mg base qN 1 f fd ["self"] (WZ CN CE):=by
 refine F.okJ Gg (λvs H Q E h=>?_) (λcdv A outer s H vs Q E hr h=>?_)
 . obtain⟨_,a,w,rfl,_⟩:=h
   rfl
 . obtain⟨⟨a,b,rfl,hN⟩,a',w,e,hw,q⟩:=h
   cases e
   have ew:=Q7.inj hne hw hN
   subst ew
   obtain⟨dx,hx⟩:=hN
   refine⟨_,qh (qw (qW (qb qD (qb (QF (jv 0) rfl) qe)))),?_⟩
   exact⟨_,rfl,a,CE,dx,_,_,rfl,hx,cl,na,NA,by show 2<=sizeLine;decide,q⟩
def yG (b:Bool):Sp:=λvs H Q _=>∃a,vs=[.ref a]/\Q (.bl b) H
theorem NV:qr ["self"] ["self"] (qk V8):=⟨rfl,rfl,rfl,by decide+kernel,rfl,by decide+kernel,by decide+kernel⟩
theorem Re {f:Addr} {fd:FuncData} (F:jQ K "is_endless" "Numbered.is_endless" V8 f fd):qo P w K mg base qN 1 f fd ["self"] (yG false):=by
 refine F.okJ NV (λvs H Q E h=>?_) (λcdv A outer s H vs Q E hr h=>?_)
 . obtain⟨a,rfl,_⟩:=h
   rfl
 . obtain⟨a,rfl,q⟩:=h
   exact⟨_,qh (qw jT),q⟩
theorem NY:qr ["self"] ["self"] (qk Ua):=⟨rfl,rfl,rfl,by decide+kernel,rfl,by decide+kernel,by decide+kernel⟩
theorem Ro {f:Addr} {fd:FuncData} (F:jQ K "is_endless" "Endless.is_endless" Ua f fd):qo P w K mg base qN 1 f fd ["self"] (yG true):=by
 refine F.okJ NY (λvs H Q E h=>?_) (λcdv A outer s H vs Q E hr h=>?_)
 . obtain⟨a,rfl,_⟩:=h
   rfl
 . obtain⟨a,rfl,q⟩:=h
   exact⟨_,qh (qw jT),q⟩
end
structure WF (K:PySem.W.Frag) (mg:Str->Option Value) where
 (CN CE fNI fEI fNT fET fNO fEO fNP fEP fNE fEE fW fB fS fT fN fO:Addr)
 (dNI dEI dNT dET dNO dEO dNP dEP dNE dEE dW dB dS dT dN dO:FuncData)
 ne:CN≠CE
 cN:Cl K mg "Numbered" "Numbered.__init__" "number" YM CN fNI dNI
 cE:Cl K mg "Endless" "Endless.__init__" "bits" YW CE fEI dEI
 nT:XN K CN "told" "Numbered.told" YL ["self"] fNT dNT
 eT:XN K CE "told" "Endless.told" YV ["self"] fET dET
 nO:XN K CN "outcome" "Numbered.outcome" kA ["self"] fNO dNO
 eO:XN K CE "outcome" "Endless.outcome" kG ["self"] fEO dEO
 nP:XN K CN "plus" "Numbered.plus" Va ["self","other"] fNP dNP
 eP:XN K CE "plus" "Endless.plus" Vf ["self","other"] fEP dEP
 nE:XN K CN "is_endless" "Numbered.is_endless" V8 ["self"] fNE dNE
 eE:XN K CE "is_endless" "Endless.is_endless" Ua ["self"] fEE dEE
 hW:jm K mg "is_whole" Zc ["thing"] fW dW
 hB:jm K mg "is_number" ZY ["thing"] fB dB
 hS:jm K mg "is_set" YR ["thing"] fS dS
 hT:jm K mg "set_turned" Yl ["bits","number"] fT dT
 hN:jm K mg "numbers_in" YK ["bits"] fN dN
 hO:jm K mg "set_of" zt ["numbers"] fO dO
section
variable {P:Program} {w:World} {K:PySem.W.Frag} {mg:Str->Option Value} {base:Heap}
def isE:W->Bool
 | .num _=>false
 | .edl _=>true
theorem WF.gNI (h:WF K mg) (B:Qy mg) (T:Wk K mg):qo P w K mg base qN 3 h.fNI h.dNI ["self","number"] (W5 h.CN "number" 15):=uv h.cN.fn B T h.hW h.hB h.cN.cl h.cN.na
theorem WF.gEI (h:WF K mg) (B:Qy mg) (T:Wk K mg):qo P w K mg base qN 3 h.fEI h.dEI ["self","bits"] (W5 h.CE "bits" 65535):=uJ h.cE.fn B T h.hW h.hS h.cE.cl h.cE.na
theorem WF.gNT (h:WF K mg):qo P w K mg base qN 1 h.fNT h.dNT ["self"] (WY h.CN h.CE):=uu h.nT.fn h.cN.cl h.cN.na h.ne
theorem WF.gET (h:WF K mg):qo P w K mg base qN 1 h.fET h.dET ["self"] (WZ h.CN h.CE):=uI h.eT.fn h.cE.cl h.cE.na h.ne
theorem WF.gNE (h:WF K mg):qo P w K mg base qN 1 h.fNE h.dNE ["self"] (yG false):=Re h.nE.fn
theorem WF.gEE (h:WF K mg):qo P w K mg base qN 1 h.fEE h.dEE ["self"] (yG true):=Ro h.eE.fn
theorem WF.gT (h:WF K mg) (B:Qy mg):qo P w K mg base qN 2 h.fT h.dT ["bits","number"] V0:=y6 h.hT.fn B h.hN h.hO
theorem Rv {f g:Str} {v:V} (h:(g==f)=false):[(f,v)].lookup g=none:=by simp [zbj,h]
theorem n1:((Str.ofString "is_endless")==(Str.ofString "number"))=false:=by decide+kernel
theorem n2:((Str.ofString "is_endless")==(Str.ofString "bits"))=false:=by decide+kernel
theorem n3:((Str.ofString "told")==(Str.ofString "number"))=false:=by decide+kernel
theorem n4:((Str.ofString "told")==(Str.ofString "bits"))=false:=by decide+kernel
theorem n5:((Str.ofString "plus")==(Str.ofString "number"))=false:=by decide+kernel
theorem n6:((Str.ofString "plus")==(Str.ofString "bits"))=false:=by decide+kernel
theorem MO {CN CE a:Addr} {H:Hp} {w:W} {Q:VK} (h:Q7 CN CE H a w) (q:Q (.bl (isE w)) H):∃a' dx fs,V.ref a=.ref a'/\fs.lookup (Str.ofString "is_endless")=none/\((H a'=some (.ins CN dx fs)/\yG false [V.ref a] H Q E0)\/(H a'=some (.ins CE dx fs)/\yG true [V.ref a] H Q E0)):=by
 cases w with
 | num n=>obtain⟨dx,e⟩:=h;exact⟨a,dx,_,rfl,Rv n1,.inl ⟨e,a,rfl,q⟩⟩
 | edl b=>obtain⟨dx,e⟩:=h;exact⟨a,dx,_,rfl,Rv n2,.inr ⟨e,a,rfl,q⟩⟩
theorem KO {CN CE a:Addr} {H:Hp} {w:W} {Q:VK} (h:Q7 CN CE H a w) (q:∀p,H p=none->Q (.ref p) (upd H p (.tup [.str (Qk w),.int (zo w:Nat)]))):
   ∃a' dx fs,V.ref a=.ref a'/\fs.lookup (Str.ofString "told")=none/\((H a'=some (.ins CN dx fs)/\WY CN CE [V.ref a] H Q E0)\/(H a'=some (.ins CE dx fs)/\WZ CN CE [V.ref a] H Q E0)):=by
 cases w with
 | num n=>obtain⟨dx,e⟩:=id h;exact⟨a,dx,_,rfl,Rv n3,.inl ⟨e,⟨a,n,rfl,h⟩,a,_,rfl,h,q⟩⟩
 | edl b=>obtain⟨dx,e⟩:=id h;exact⟨a,dx,_,rfl,Rv n4,.inr ⟨e,⟨a,b,rfl,h⟩,a,_,rfl,h,q⟩⟩
theorem vk {X:Cx} (h:WF X.K X.mg) (hr:qR 1 X.A) {o:Expr} {ta:TE} {apos pos:Pos} {pl:Sem Bool} (he:JE X o ta)
   (ht:eval (.Call (.Attribute o "is_endless" apos) [] [] pos) X.env=(eval o X.env >>= λov=>standAt apos.atName >>= λ_=>holding [ov] (getMethod ov "is_endless" pl) >>= λr=>callWith pos r.1 r.2 (backTo pos (starEach [] X.env)) (backToKw pos (keywordEach [] X.env))):=by rfl):
   JE X (.Call (.Attribute o "is_endless" apos) [] [] pos) (λσ H Q=>ta σ H λx H1=>∃a u,x=.ref a/\Q7 h.CN h.CE H1 a u/\Q (.bl (isE u)) H1):=
 Yp (zF (k7 he) h.cN.cl h.nE.me h.gNE hr h.nE.bi h.cE.cl h.eE.me h.gEE hr h.eE.bi ht) λσ H Q q=>⟨_,q,λx H1 ⟨a,u,e,i,q1⟩=>by subst e;exact MO i q1⟩
theorem k8 {X:Cx} (h:WF X.K X.mg) (hr:qR 1 X.A) {o:Expr} {ta:TE} {apos pos:Pos} {pl:Sem Bool} (he:JE X o ta)
   (ht:eval (.Call (.Attribute o "told" apos) [] [] pos) X.env=(eval o X.env >>= λov=>standAt apos.atName >>= λ_=>holding [ov] (getMethod ov "told" pl) >>= λr=>callWith pos r.1 r.2 (backTo pos (starEach [] X.env)) (backToKw pos (keywordEach [] X.env))):=by rfl):
   JE X (.Call (.Attribute o "told" apos) [] [] pos) (λσ H Q=>ta σ H λx H1=>∃a u,x=.ref a/\Q7 h.CN h.CE H1 a u/\∀p,H1 p=none->Q (.ref p) (upd H1 p (.tup [.str (Qk u),.int (zo u:Nat)]))):=
 Yp (zF (k7 he) h.cN.cl h.nT.me h.gNT hr h.nT.bi h.cE.cl h.eT.me h.gET hr h.eT.bi ht) λσ H Q q=>⟨_,q,λx H1 ⟨a,u,e,i,q1⟩=>by subst e;exact KO i q1⟩
def kc (CN CE:Addr):Sp:=λvs H Q _=>∃a o n v,vs=[.ref a,.ref o]/\Q7 CN CE H a (.num n)/\Q7 CN CE H o v/\n < 16/\okW v/\∀H' r,Same H H'->Q7 CN CE H' r (Z5 (.num n) v)->Q (.ref r) H'
def kh (CN CE:Addr):Sp:=λvs H Q _=>∃a o b v,vs=[.ref a,.ref o]/\Q7 CN CE H a (.edl b)/\Q7 CN CE H o v/\b < 65536/\okW v/\∀H' r,Same H H'->Q7 CN CE H' r (Z5 (.edl b) v)->Q (.ref r) H'
theorem Vm {CN CE:Addr} {H:Hp} {x dx:Addr} {n:Nat} (hx:H x=none) (hd:H dx=none) (hne:dx≠x):Same H (upd (upd (upd H dx (.own x)) x (.ins CN dx [])) x (.ins CN dx [("number",.int (n:Nat))]))/\Q7 CN CE (upd (upd (upd H dx (.own x)) x (.ins CN dx [])) x (.ins CN dx [("number",.int (n:Nat))])) x (.num n):=
 ⟨λb o hb=>by rw[qg (qp hb hx),qg (qp hb hx),qg (qp hb hd)];exact hb,dx,qd⟩
theorem Vn {CN CE:Addr} {H:Hp} {x dx:Addr} {b:Nat} (hx:H x=none) (hd:H dx=none) (hne:dx≠x):Same H (upd (upd (upd H dx (.own x)) x (.ins CE dx [])) x (.ins CE dx [("bits",.int (b:Nat))]))/\Q7 CN CE (upd (upd (upd H dx (.own x)) x (.ins CE dx [])) x (.ins CE dx [("bits",.int (b:Nat))])) x (.edl b):=
 ⟨λb o hb=>by rw[qg (qp hb hx),qg (qp hb hx),qg (qp hb hd)];exact hb,dx,qd⟩
theorem Gi:qr ["self","other"] ["self","other"] (qk Vf):=⟨rfl,rfl,rfl,by decide+kernel,rfl,by decide+kernel,by decide+kernel⟩
theorem WF.gEP (h:WF K mg) (B:Qy mg) (T:Wk K mg):qo P w K mg base qN 5 h.fEP h.dEP ["self","other"] (kh h.CN h.CE):=by
 refine h.eP.fn.okJ Gi (λvs H Q E z=>?_) (λcdv A outer s H vs Q E hr z=>?_)
 . obtain⟨a,o,b,v,rfl,_⟩:=z
   rfl
 . obtain⟨a,o,b,v,rfl,ha,ho,hb,hv,q⟩:=z
   refine⟨_,qf (qM (jL (vk h (hr.mono (by decide)) (jv 1))) (qh (qw (Je h.cE.mkr (h.gEI B T) hr (by rfl) h.cE.ns h.cE.bi .nil Qz (qb qj qe)))) qA)
     (qh (qw (Je h.cE.mkr (h.gEI B T) hr (by rfl) h.cE.ns h.cE.bi .nil Qz (qb (qH h.hT (h.gT B) (hr.mono (by decide)) (by rfl) (qb (QF (jv 0) rfl) (qb (QF (jv 1) rfl) qe))) qe)))),?_⟩
   refine⟨_,rfl,o,v,rfl,ho,_,rfl,?_⟩
   cases v with
   | edl c=>
     refine j8 (λx dx hx hd hne=>⟨x,dx,0,rfl,by decide,by decide,qd,rfl,?_⟩)
     obtain⟨s1,i1⟩:=Vn (CN:=h.CN) (CE:=h.CE) (b:=0) hx hd hne
     exact q _ _ s1 i1
   | num n=>
     obtain⟨dx0,e0⟩:=id ha
     obtain⟨dx1,e1⟩:=id ho
     refine jh ⟨_,rfl,a,h.CE,dx0,_,_,rfl,e0,h.cE.cl,h.cE.na,NA,_,rfl,o,h.CN,dx1,_,_,rfl,e1,h.cN.cl,h.cN.na,NA,b,n,rfl,hb,hv,λH1 s1 x dx hx hd hne=>?_⟩
     have lt:=WT (k:=4) (b:=b) (tq _) hv
     refine⟨x,dx,_,rfl,by omega,?_,qd,rfl,?_⟩
     . have:turnN b n 16 < 65536:=lt
       omega
     . obtain⟨s2,i2⟩:=Vn (CN:=h.CN) (CE:=h.CE) (b:=turnN b n 16) hx hd hne
       exact q _ _ (s1.trans s2) i2
theorem K8:qr ["self","other"] ["self","other"] (qk Va):=⟨rfl,rfl,rfl,by decide+kernel,rfl,by decide+kernel,by decide+kernel⟩
theorem WF.gNP (h:WF K mg) (B:Qy mg) (T:Wk K mg):qo P w K mg base qN 6 h.fNP h.dNP ["self","other"] (kc h.CN h.CE):=by
 refine h.nP.fn.okJ K8 (λvs H Q E z=>?_) (λcdv A outer s H vs Q E hr z=>?_)
 . obtain⟨a,o,b,v,rfl,_⟩:=z
   rfl
 . obtain⟨a,o,n,v,rfl,ha,ho,hn,hv,q⟩:=z
   refine⟨_,qf (qM (jL (vk h (hr.mono (by decide)) (jv 1))) (qh (qw (u3 h.eP h.cE.cl (h.gEP B T) hr (jv 1) (qb (jv 0) qe)))) qA)
     (qh (qw (Je h.cN.mkr (h.gNI B T) (hr.mono (by decide)) (by rfl) h.cN.ns h.cN.bi .nil Qz (qb (qJ Vi (QF (jv 0) rfl) (QF (jv 1) rfl)) qe)))),?_⟩
   refine⟨_,rfl,o,v,rfl,ho,_,rfl,?_⟩
   cases v with
   | edl c=>
     obtain⟨dx1,e1⟩:=id ho
     exact j8 ⟨_,rfl,o,dx1,_,rfl,e1,Rv n6,_,rfl,o,a,c,.num n,rfl,ho,ha,hv,hn,λH' r s i=>q H' r s i⟩
   | num m=>
     obtain⟨dx0,e0⟩:=id ha
     obtain⟨dx1,e1⟩:=id ho
     refine jh ⟨_,rfl,a,h.CN,dx0,_,_,rfl,e0,h.cN.cl,h.cN.na,NA,_,rfl,o,h.CN,dx1,_,_,rfl,e1,h.cN.cl,h.cN.na,NA,_,_,rfl,rfl,λx dx hx hd hne=>?_⟩
     have lt:n^^^m < 16:=xor_lt (m:=4) hn hv
     refine⟨x,dx,((n^^^m:Nat):Int),by rw[<-bx];rfl,by omega,by omega,qd,rfl,?_⟩
     obtain⟨s2,i2⟩:=Vm (CN:=h.CN) (CE:=h.CE) (n:=n^^^m) hx hd hne
     exact q _ _ s2 i2
theorem GC {CN CE a:Addr} {H:Hp} {u:W} {Q:VK} {t:TA} {σ:L2.St} (h:Q7 CN CE H a u) (hu:okW u) (ht:t σ H λvs H2=>∃o v,vs=[.ref o]/\Q7 CN CE H2 a u/\Q7 CN CE H2 o v/\okW v/\∀H' r,Same H2 H'->Q7 CN CE H' r (Z5 u v)->Q (.ref r) H')
   (mono:∀R R':List V->Hp->Prop,(∀vs H,R vs H->R' vs H)->t σ H R->t σ H R'):
   ∃a' dx fs,V.ref a=.ref a'/\fs.lookup (Str.ofString "plus")=none/\((H a'=some (.ins CN dx fs)/\t σ H λvs H2=>kc CN CE (V.ref a::vs) H2 Q E0)\/(H a'=some (.ins CE dx fs)/\t σ H λvs H2=>kh CN CE (V.ref a::vs) H2 Q E0)):=by
 cases u with
 | num n=>
   obtain⟨dx,e⟩:=id h
   exact⟨a,dx,_,rfl,Rv n5,.inl ⟨e,mono _ _ (λvs H2 ⟨o,v,e1,h1,h2,h3,h4⟩=>⟨a,o,n,v,by rw[e1],h1,h2,hu,h3,h4⟩) ht⟩⟩
 | edl b=>
   obtain⟨dx,e⟩:=id h
   exact⟨a,dx,_,rfl,Rv n6,.inr ⟨e,mono _ _ (λvs H2 ⟨o,v,e1,h1,h2,h3,h4⟩=>⟨a,o,b,v,by rw[e1],h1,h2,hu,h3,h4⟩) ht⟩⟩
theorem RE {X:Cx} (h:WF X.K X.mg) (B:Qy X.mg) (T:Wk X.K X.mg) (hr:qR 6 X.A) {o e:Expr} {ta:TE} {t:TA} {apos pos:Pos} {pl:Sem Bool} (he:JE X o ta) (ha:JA X [e] t) (hst:starEach [e] X.env=(false,eval e X.env)::starEach [] X.env:=by rfl)
   (ht:eval (.Call (.Attribute o "plus" apos) [e] [] pos) X.env=(eval o X.env >>= λov=>standAt apos.atName >>= λ_=>holding [ov] (getMethod ov "plus" pl) >>= λr=>callWith pos r.1 r.2 (backTo pos (starEach [e] X.env)) (backToKw pos (keywordEach [] X.env))):=by rfl):
   JE X (.Call (.Attribute o "plus" apos) [e] [] pos) (λσ H Q=>ta σ H λx H1=>∃a u,x=.ref a/\Q7 h.CN h.CE H1 a u/\okW u/\t σ H1 λvs H2=>∃o v,vs=[.ref o]/\Q7 h.CN h.CE H2 a u/\Q7 h.CN h.CE H2 o v/\okW v/\∀H' r,Same H2 H'->Q7 h.CN h.CE H' r (Z5 u v)->Q (.ref r) H'):=
 Yp (uZ (k7 he) h.cN.cl h.nP.me (h.gNP B T) hr h.nP.bi h.cE.cl h.eP.me (h.gEP B T) (hr.mono (by decide)) h.eP.bi (qa1 ha) hst rfl ht) λσ H Q q=>⟨_,q,λx H1 ⟨a,u,e,i,hu,q1⟩=>by
   subst e
   exact GC (t:=aWk t) i hu ⟨_,q1,λvs H2 z=>z⟩ λR R' k ⟨G,g,z⟩=>⟨G,g,λvs H2 y=>k vs H2 (z vs H2 y)⟩⟩
def Wl (CN CE:Addr) (H:Hp) (as:List Addr) (ws:List W):Prop:=as.length=ws.length/\∀(i:Nat) (a:Addr) (u:W),as[i]?=some a->ws[i]?=some u->Q7 CN CE H a u
def vZ (K:PySem.W.Frag) (CN CE:Addr):Sp:=λvs H Q _=>∃(l:Addr) (as:List Addr) (ws:List W),vs=[.ref l]/\SqL K H l (as.map V.ref)/\Wl CN CE H as ws/\(∀u∈ws,okW u)/\∀H' r,Same H H'->Q7 CN CE H' r (jP ws)->Q (.ref r) H'
theorem Yj:qr ["worths","total","worth"] ["worths"] (qk YJ):=⟨rfl,rfl,rfl,by decide+kernel,rfl,by decide+kernel,by decide+kernel⟩
theorem VA {ws:List W} (h:∀u∈ws,okW u) (i:Nat):okW ((ws.take i).foldl Z5 (.num 0)):=by
 have h':∀u∈ws.take i,okW u:=λu hu=>h u (zaK hu)
 rw[Uy h']
 exact YA h'
theorem uo {f:Addr} {fd:FuncData} (F:jQ K "sum_of" "sum_of" YJ f fd) (h:WF K mg) (B:Qy mg) (T:Wk K mg):qo P w K mg base qN 7 f fd ["worths"] (vZ K h.CN h.CE):=by
 refine F.okJ Yj (λvs H Q E z=>?_) (λcdv A outer s H vs Q E hr z=>?_)
 . obtain⟨l,as,ws,rfl,_⟩:=z
   rfl
 . obtain⟨l,as,ws,rfl,hS,hW,hok,q⟩:=z
   refine⟨_,qf (qv (i:=1) Yj.nd rfl (Or.inl rfl) (Je h.cN.mkr (h.gNI B T) (hr.mono (by decide)) (by rfl) h.cN.ns h.cN.bi .nil Qz (qb qj qe)))
     (qf (jg PassesOwn.never rfl (qG (jv 0)) (qu (i:=2) Yj.nd rfl (Or.inl rfl)) (qh (qv (i:=1) Yj.nd rfl (Or.inl rfl) (RE h B T hr (jv 1) (qb (jv 2) qe)))))
     (qh (qw (jv 1)))),?_⟩
   intro x dx hx hd hne
   refine⟨x,dx,0,rfl,by decide,by decide,qd,rfl,?_⟩
   obtain⟨s1,i1⟩:=Vm (CN:=h.CN) (CE:=h.CE) (n:=0) hx hd hne
   refine⟨_,rfl,l,rfl,⟨_,s1.seq hS⟩,?_⟩
   refine jn (K:=K) (a:=l) (xs:=as.map V.ref) (λi σ H'=>∃r v,σ=[some (.ref l),some (.ref r),v]/\Same H H'/\Q7 h.CN h.CE H' r ((ws.take i).foldl Z5 (.num 0))) ⟨x,none,rfl,s1,i1⟩ (λi σ H' _ ⟨_,_,_,e,_⟩=>e.seq hS) ?_ ?_
   . rintro i y σ H' hy ⟨r,v,rfl,s2,i2⟩
     rw[tN]at hy
     cases ea:as[i]? with
     | none=>rw[ea]at hy;cases hy
     | some o=>
       rw[ea]at hy
       obtain rfl:=(tL.inj hy).symm
       have hi:i < ws.length:=by
         have:=(tw.mp ea).1
         rw[hW.1]at this
         exact this
       have ew:ws[i]?=some ws[i]:=tF hi
       have io:=(hW.2 i o _ ea ew).same s2
       have et:ws.take (i+1)=ws.take i++[ws[i]]:=by rw[tS,ew];rfl
       refine⟨_,rfl,r,_,rfl,i2,VA hok i,_,rfl,o,_,rfl,i2,io,hok _ (zcw hi),λH3 r3 s3 i3=>?_⟩
       refine⟨r3,_,rfl,s2.trans s3,?_⟩
       rw[et,zco]
       exact i3
   . rintro σ H' ⟨r,v,rfl,s2,i2⟩
     refine⟨_,rfl,q _ _ s2 ?_⟩
     rw[tj,hW.1,tH (tq _),Uy hok]at i2
     exact i2
def XU:W->Str
 | .num n=>if n=0 then "lost" else "won"
 | .edl b=>if b.testBit 0=true then "won" else "drawn"
def wn (CN CE:Addr):Sp:=λvs H Q _=>∃a n,vs=[.ref a]/\Q7 CN CE H a (.num n)/\Q (.str (XU (.num n))) H
def wo (CN CE:Addr):Sp:=λvs H Q _=>∃a b,vs=[.ref a]/\Q7 CN CE H a (.edl b)/\b < 65536/\∀H',Same H H'->Q (.str (XU (.edl b))) H'
theorem NU:qr ["self"] ["self"] (qk kA):=⟨rfl,rfl,rfl,by decide+kernel,rfl,by decide+kernel,by decide+kernel⟩
theorem NX:qr ["self"] ["self"] (qk kG):=⟨rfl,rfl,rfl,by decide+kernel,rfl,by decide+kernel,by decide+kernel⟩
theorem WF.gNO (h:WF K mg):qo P w K mg base qN 1 h.fNO h.dNO ["self"] (wn h.CN h.CE):=by
 refine h.nO.fn.okJ NU (λvs H Q E z=>?_) (λcdv A outer s H vs Q E hr z=>?_)
 . obtain⟨a,n,rfl,_⟩:=z
   rfl
 . obtain⟨a,n,rfl,⟨dx,e⟩,q⟩:=z
   refine⟨_,qf (qM (qt j5 (QF (jv 0) rfl) qj (qx _)) (qh (qw qD)) qA) (qh (qw qD)),?_⟩
   refine⟨_,rfl,a,h.CN,dx,_,_,rfl,e,h.cN.cl,h.cN.na,NA,rfl,_,rfl,?_⟩
   have q:Q (.str (if n=0 then "lost" else "won")) H:=q
   by_cases c:n=0
   . subst c
     rw[if_pos rfl]at q
     exact Qb (by decide) q
   . rw[if_neg c]at q
     exact jJ (decide_eq_false λz=>c (by have:=V.int.inj z;omega)) q
theorem WF.gEO (h:WF K mg) (B:Qy mg):qo P w K mg base qN 2 h.fEO h.dEO ["self"] (wo h.CN h.CE):=by
 have GN:qo P w K mg base qN 1 h.fN h.dN ["bits"] W1:=Uk h.hN.fn B
 refine h.eO.fn.okJ NX (λvs H Q E z=>?_) (λcdv A outer s H vs Q E hr z=>?_)
 . obtain⟨a,b,rfl,_⟩:=z
   rfl
 . obtain⟨a,b,rfl,⟨dx,e⟩,hb,q⟩:=z
   refine⟨_,qf (qM (qt QY qj (qH h.hN GN hr (by rfl) (qb (QF (jv 0) rfl) qe)) (by with_unfolding_all rfl)) (qh (qw qD)) qA) (qh (qw qD)),?_⟩
   refine⟨_,rfl,a,h.CE,dx,_,_,rfl,e,h.cE.cl,h.cE.na,NA,b,rfl,hb,λl hl=>?_⟩
   refine⟨l,_,rfl,.inl (.of qd),rfl,Zj _,_,rfl,?_⟩
   have e0:Jx (.int ((0:Nat):Int)) (Jy (memN b 16))=b.testBit 0:=by
     rw[zG]
     unfold memN
     rw[zaQ,decide_eq_true_iff,zae]
     exact⟨λh=>h.2,λh=>⟨by decide,h⟩⟩
   have q:=q _ (qi (o:=HO.lst (Jy (memN b 16))) hl)
   have q:Q (.str (if b.testBit 0=true then "won" else "drawn")) (upd H l (HO.lst (Jy (memN b 16)))):=q
   show if Jx (.int ((0:Nat):Int)) (Jy (memN b 16))=true then _ else _
   rw[e0]
   cases c:b.testBit 0 with
   | true=>rw[if_pos c]at q;exact j8 q
   | false=>rw[if_neg (by rw[c];exact tK)]at q;exact jh q
theorem n7:((Str.ofString "outcome")==(Str.ofString "number"))=false:=by decide+kernel
theorem n8:((Str.ofString "outcome")==(Str.ofString "bits"))=false:=by decide+kernel
theorem GJ {CN CE a:Addr} {H:Hp} {w:W} {Q:VK} (h:Q7 CN CE H a w) (ok:okW w) (q:∀H',Same H H'->Q (.str (XU w)) H'):
   ∃a' dx fs,V.ref a=.ref a'/\fs.lookup (Str.ofString "outcome")=none/\((H a'=some (.ins CN dx fs)/\wn CN CE [V.ref a] H Q E0)\/(H a'=some (.ins CE dx fs)/\wo CN CE [V.ref a] H Q E0)):=by
 cases w with
 | num n=>obtain⟨dx,e⟩:=id h;exact⟨a,dx,_,rfl,Rv n7,.inl ⟨e,a,n,rfl,h,q H λ_ _ z=>z⟩⟩
 | edl b=>obtain⟨dx,e⟩:=id h;exact⟨a,dx,_,rfl,Rv n8,.inr ⟨e,a,b,rfl,h,ok,q⟩⟩
theorem zc {X:Cx} (h:WF X.K X.mg) (B:Qy X.mg) (hr:qR 2 X.A) {o:Expr} {ta:TE} {apos pos:Pos} {pl:Sem Bool} (he:JE X o ta)
   (ht:eval (.Call (.Attribute o "outcome" apos) [] [] pos) X.env=(eval o X.env >>= λov=>standAt apos.atName >>= λ_=>holding [ov] (getMethod ov "outcome" pl) >>= λr=>callWith pos r.1 r.2 (backTo pos (starEach [] X.env)) (backToKw pos (keywordEach [] X.env))):=by rfl):
   JE X (.Call (.Attribute o "outcome" apos) [] [] pos) (λσ H Q=>ta σ H λx H1=>∃a u,x=.ref a/\Q7 h.CN h.CE H1 a u/\okW u/\∀H',Same H1 H'->Q (.str (XU u)) H'):=
 Yp (zF (k7 he) h.cN.cl h.nO.me h.gNO (hr.mono (by decide)) h.nO.bi h.cE.cl h.eO.me (h.gEO B) hr h.eO.bi ht) λσ H Q q=>⟨_,q,λx H1 ⟨a,u,e,i,k,q1⟩=>by subst e;exact GJ i k q1⟩
end
open PySem L2 PyProof.Rows MLab Rb
abbrev ZJ:Stmt:=top 25
abbrev YN:Stmt:=top 28
abbrev sLW:Stmt:=top 52
abbrev Gm:Stmt:=top 54
abbrev M7:Stmt:=top 57
abbrev zT:Stmt:=top 58
structure jY (H:Hp) (h:Addr) (rs:jf) (hs:List Str):Prop where
 at_:H h=some (.lst (hs.map V.str))
 le:hs.length<=8
 in_:∀z∈hs,∃r∈rs,r.1=z
theorem jY.mono {H H':Hp} {h:Addr} {rs:jf} {hs:List Str} (x:jY H h rs hs) (s:Same H H'):jY H' h rs hs:=⟨s _ _ x.at_,x.le,x.in_⟩
def ZW (CG:Addr):Sp:=λvs H Q _=>∃(g:Addr) (rs:jf) (z:Str),vs=[.ref g,.str z]/\jZ CG H g rs/\(∃r∈rs,r.1=z)/\∀H',Same H H'->Q .non H'
def ki (CG:Addr):Sp:=λvs H Q _=>∃(g h:Addr) (rs:jf) (hs:List Str),vs=[.ref g,.ref h]/\jZ CG H g rs/\jY H h rs hs/\∀H',Same H H'->Q .non H'
def TK (H H':Hp):Prop:=∀a xs,H a=some (.tup xs)->H' a=some (.tup xs)
theorem TK.upd {H:Hp} {d:Addr} {o u:HO} (hd:H d=some o) (no:∀xs,o≠.tup xs):TK H (upd H d u):=λa xs h=>by
 rw[qg (λe=>by rw[e,hd]at h;exact no xs (tL.inj h))]
 exact h
def jc (rs:jf) (z:Str):List Str:=match rs.find? (λr=>decide (r.1=z)) with
 | some r=>r.2
 | none=>[]
theorem Xk {rs:jf} {r:Str×List Str} (hn:(rs.map (·.1)).Nodup) (h:r∈rs):jc rs r.1=r.2:=by
 unfold jc
 rw[Xx hn h]
theorem qK {rs:jf} (g:qy rs) {z y:Str} (hz:z∈rs.map (·.1)):y∈jc rs z↔y∈JJ rs z:=by
 obtain⟨r,hr,rfl⟩:=tE.mp hz
 rw[Xk g.nd hr,yc g hr]
theorem qaY {rs:jf} (g:qy rs) {num:Str->Option Nat} {stp:Str->Nat} (L:zj (JJ rs) (·∈rs.map (·.1)) num stp):zj (jc rs) (·∈rs.map (·.1)) num stp where
 cl:=λ{x y} hx hy=>L.cl hx ((qK g hx).mp hy)
 n1:=λ{x n m} hx e lt=>let ⟨y,hy,k⟩:=L.n1 hx e lt;⟨y,(qK g hx).mpr hy,k⟩
 n2:=λ{x y n} hx e hy=>L.n2 hx e ((qK g hx).mp hy)
 n3:=λ{x y n} hx e hy gt=>let ⟨z,hz,k⟩:=L.n3 hx e ((qK g hx).mp hy) gt;⟨z,(qK g (L.cl hx ((qK g hx).mp hy))).mpr hz,k⟩
 n4:=λ{x y n m} hx e hy=>L.n4 hx e ((qK g hx).mp hy)
 e:=λ{x m} hx e lo hi=>by
   obtain⟨y,hy,ey,ly⟩:=L.e hx e (λj hj=>let ⟨y,hy,k⟩:=lo j hj;⟨y,(qK g hx).mp hy,k⟩) (λy hy=>hi y ((qK g hx).mpr hy))
   exact⟨y,(qK g hx).mpr hy,ey,λz hz=>ly z ((qK g (L.cl hx hy)).mp hz)⟩
section
variable {P:Program} {w:World} {K:PySem.W.Frag} {mg:Str->Option Value} {base:Heap}
abbrev uN:List Str:=["ground","thing"]
theorem qaq:qr uN uN (qk ZJ):=⟨rfl,rfl,rfl,by decide+kernel,rfl,by decide+kernel,by decide+kernel⟩
theorem Uj {f CG:Addr} {fd:FuncData} (F:jQ K "need_place" "need_place" ZJ f fd) (G:Qd mg) (M:GM K mg CG):qo P w K mg base qN 2 f fd uN (ZW CG):=by
 obtain⟨fC,fdC,C⟩:=M.cls
 obtain⟨fN,fdN,hN⟩:=M.nm
 have GN:qo P w K mg base qN 1 fN fdN ["self"] (Za CG):=Zt hN.fn C G
 refine F.okJ qaq (λvs H Q E h=>?_) (λcdv A outer s H vs Q E hr h=>?_)
 . obtain⟨g,rs,z,rfl,_⟩:=h
   rfl
 . obtain⟨g,rs,z,rfl,gr,hz,q⟩:=h
   refine⟨_,qh (qM (qt QU (jv 1) (k9 hN C.cl GN hr (jv 0)) (by with_unfolding_all rfl)) q5 qA),?_⟩
   obtain⟨dx,fs,hg,l1,l2⟩:=gr.ins
   refine⟨_,rfl,_,rfl,g,dx,fs,rfl,hg,l1,g,rs,rfl,gr,λl hl=>⟨l,_,rfl,.inl (.of qd),rfl,zH _,_,rfl,?_⟩⟩
   have e:Jx (.str z) ((rs.map (·.1)).map V.str)=true:=Vx (by obtain⟨r,hr',rfl⟩:=hz;exact tE.mpr ⟨r,hr',rfl⟩)
   show if (!Jx (.str z) ((rs.map (·.1)).map V.str))=true then _ else _
   rw[e]
   exact jh (q _ (qi hl))
abbrev nNH:List Str:=["ground","heap","thing"]
theorem Ga:qr nNH ["ground","heap"] (qk YN):=⟨rfl,rfl,rfl,by decide+kernel,rfl,by decide+kernel,by decide+kernel⟩
theorem uw {f fP CG:Addr} {fd fdP:FuncData} (F:jQ K "need_heap" "need_heap" YN f fd) (B:Qy mg) (G:Qd mg) (T:Qn K mg) (M:GM K mg CG) (hP:jm K mg "need_place" ZJ uN fP fdP) (mt:∃t,mg "MOST_TOKENS"=some (.int 8 t)):qo P w K mg base qN 3 f fd ["ground","heap"] (ki CG):=by
 have GP:qo P w K mg base qN 2 fP fdP uN (ZW CG):=Uj hP.fn G M
 obtain⟨tk,hmt⟩:=mt
 refine F.okJ Ga (λvs H Q E h=>?_) (λcdv A outer s H vs Q E hr h=>?_)
 . obtain⟨g,h',rs,hs,rfl,_⟩:=h
   rfl
 . obtain⟨g,h',rs,hs,rfl,gr,hh,q⟩:=h
   refine⟨_,qf (qM (QP (jL (qB jC (by rfl) T.isi boot_isinstance (qb (jv 1) (qb (QV (v:=.ty "list") (by rfl) G.lst boot_list rfl) qe))))) q5 qA)
     (qf (qM (qt Zf (qB qF (by rfl) B.len boot_len (qb (jv 1) qe)) (Qt (v:=.int 8) (by rfl) hmt ⟨_,rfl⟩) (qx _)) q5 qA)
     (qh (jg PassesOwn.never rfl (qG (jv 1)) (qu (i:=2) Ga.nd rfl (Or.inl rfl)) (qh (jw (qH hP GP hr (by rfl) (qb (jv 0) (qb (jv 2) qe)))))))),?_⟩
   refine⟨_,rfl,_,_,_,_,rfl,rfl,.lst hh.at_,T.kll,_,rfl,jh ?_⟩
   refine⟨_,rfl,h',_,rfl,.inl (.of hh.at_),_,_,rfl,rfl,_,rfl,jJ (decide_eq_false ?_) ?_⟩
   . have:=hh.le
     rw[tj]
     omega
   refine⟨_,rfl,h',rfl,⟨_,.of hh.at_⟩,?_⟩
   refine jn (K:=K) (a:=h') (xs:=hs.map V.str) (λi σ' G=>∃v,σ'=[some (.ref g),some (.ref h'),v]/\Same H G) ⟨_,rfl,Same.refl H⟩ (λi σ' G _ ⟨_,_,s⟩=>.of (s _ _ hh.at_)) ?_ ?_
   . rintro i y σ' G hy ⟨v,rfl,sG⟩
     obtain⟨z,ez,hz,rfl⟩:=JL hy
     exact⟨_,rfl,_,rfl,g,rs,z,rfl,gr.mono sG,hh.in_ z hz,λH' s'=>⟨_,rfl,sG.trans s'⟩⟩
   . rintro σ' G ⟨v,rfl,sG⟩
     exact q G sG
end
def wT (rs:jf) (R:Rs Str) (z:Str):W:=match qC R z with
 | some n=>.num n
 | none=>.edl (setN (Yb rs (qC R) z))
theorem WR {rs:jf} {R:Rs Str} {z:Str} {n:Nat} (e:qC R z=some n):wT rs R z=.num n:=by unfold wT;rw[e]
theorem Yz {rs:jf} {R:Rs Str} {z:Str} (e:qC R z=none):wT rs R z=.edl (setN (Yb rs (qC R) z)):=by unfold wT;rw[e]
theorem xV {rs:jf} (good:qy rs) {R:Rs Str} (L:zj (JJ rs) (·∈rs.map (·.1)) (qC R) (Zr R)) {z:Str} (hz:z∈rs.map (·.1)):okW (wT rs R z):=by
 cases e:qC R z with
 | some n=>
   rw[WR e]
   have:=zx good L hz e
   show n < 16
   omega
 | none=>
   rw[Yz e]
   show setN _ < 65536
   refine setN_lt (m:=16) λx hx=>?_
   obtain⟨y,hy,ey⟩:=Qr.mp hx
   have:=zx good L (L.cl hz hy) ey
   omega
theorem zP (ns:List Nat):jD ns=j4 ns:=by
 induction ns with
 | nil=>rfl
 | cons n ns ih=>rw[zR,ih,Zn]
theorem Wo {rs:jf} {R:Rs Str}:∀hs:List Str,QA (hs.map (wT rs R))=j6 (qC R) hs
 | []=>rfl
 | z::hs=>by
   unfold QA j6
   rw[tQ,zaf,zaf]
   have ih:=Wo (rs:=rs) (R:=R) hs
   unfold QA j6 at ih
   cases e:qC R z with
   | some n=>rw[WR e,ih]
   | none=>rw[Yz e,ih]
theorem zr {rs:jf} {R:Rs Str}:∀hs:List Str,(j1 (hs.map (wT rs R))).length=ends (qC R) hs
 | []=>rfl
 | z::hs=>by
   unfold j1 ends
   rw[tQ,zaf,zaR]
   have ih:=zr (rs:=rs) (R:=R) hs
   unfold j1 ends at ih
   cases e:qC R z with
   | some n=>rw[WR e];exact ih
   | none=>rw[Yz e];show _+1=_+1;rw[ih]
theorem yI {rs:jf} {R:Rs Str} {p q:List Str} {x:Str} (ex:qC R x=none) (he:ends (qC R) (p++q)=0):j1 ((p++x::q).map (wT rs R))=[setN (Yb rs (qC R) x)]:=by
 have h1:j1 ((p++q).map (wT rs R))=[]:=zaE (by rw[zr];exact he)
 unfold j1 at h1 ⊢
 rw[tG,zaq,List.append_eq_nil_iff]at h1
 rw[tG,tQ,zaq,zaf,Yz ex,h1.1,h1.2]
 rfl
theorem N5 {rs:jf} (good:qy rs) {R:Rs Str} (L:zj (JJ rs) (·∈rs.map (·.1)) (qC R) (Zr R)) {hs:List Str} (hk:∀z∈hs,z∈rs.map (·.1)):
   (J3 (mv (jc rs)) hs/\XU (jP (hs.map (wT rs R)))="lost")\/(Won (mv (jc rs)) hs/\XU (jP (hs.map (wT rs R)))="won")\/(¬J3 (mv (jc rs)) hs/\¬Won (mv (jc rs)) hs/\XU (jP (hs.map (wT rs R)))="drawn"):=by
 have LL:=qaY good L
 have hl:=zr (rs:=rs) (R:=R) hs
 have en:jD (QA (hs.map (wT rs R)))=j4 (j6 (qC R) hs):=by rw[Wo,zP]
 rw[Xi LL hk,KI LL hk]
 rcases zaX (ends (qC R) hs) 1 with c | c | c
 . have he:ends (qC R) hs=0:=by omega
   rw[he]at hl
   have e0:j1 (hs.map (wT rs R))=[]:=zaE hl
   have et:jP (hs.map (wT rs R))=.num (j4 (j6 (qC R) hs)):=by unfold jP;rw[e0,<-en]
   have nd:¬Drawn (jc rs) (qC R) hs:=by
     rintro(⟨p,x,q,rfl,ex,_⟩ | h)
     . rw[jU ex]at he;omega
     . omega
   rw[et]
   by_cases x0:j4 (j6 (qC R) hs)=0
   . exact .inl ⟨⟨he,x0⟩,if_pos x0⟩
   . exact .inr (.inl ⟨⟨nd,λz=>x0 z.2⟩,if_neg x0⟩)
 . obtain⟨p,x,q,rfl,ex⟩:=Zl.mp (by omega:0 < ends (qC R) hs)
   rw[jU ex]at c
   have he:ends (qC R) (p++q)=0:=by omega
   have hx:x∈rs.map (·.1):=hk x (by simp)
   have lt:j4 (j6 (qC R) (p++x::q)) < 16:=by
     rw[<-zP]
     refine Zo λn hn=>?_
     obtain⟨z,hz,ez⟩:=zaB.mp hn
     have:=zx good L (hk z hz) ez
     omega
   have et:jP ((p++x::q).map (wT rs R))=.edl (turnN (setN (Yb rs (qC R) x)) (j4 (j6 (qC R) (p++x::q))) 16):=by
     unfold jP
     rw[yI ex he,<-en]
   have nz:¬zM (qC R) (p++x::q):=λz=>by have:=z.1;rw[jU ex]at this;omega
   have eb:(turnN (setN (Yb rs (qC R) x)) (j4 (j6 (qC R) (p++x::q))) 16).testBit 0=decide (j4 (j6 (qC R) (p++q))∈Yb rs (qC R) x):=by
     rw[Qq lt,zcJ,testBit_setN,Xd ex]
     simp
   rw[et]
   by_cases m:j4 (j6 (qC R) (p++q))∈Yb rs (qC R) x
   . refine .inr (.inl ⟨⟨?_,nz⟩,?_⟩)
     . obtain⟨y,hy,ey⟩:=Qr.mp m
       have ly:y∈jc rs x:=(qK good hx).mpr hy
       intro d
       have zb:zM (qC R) (p++y::q):=⟨by rw[jB ey];exact he,by rw[Qf ey,zbD]⟩
       exact XC d ((jV _).mpr ⟨p,x,y,q,rfl,ly,rfl⟩) zb
     . show (if _ then _ else _)=_
       rw[eb,if_pos (decide_eq_true m)]
   . have d:Drawn (jc rs) (qC R) (p++x::q):=.inl ⟨p,x,q,rfl,ex,he,λy hy ey=>m (Qr.mpr ⟨y,(qK good hx).mp hy,ey⟩)⟩
     refine .inr (.inr ⟨nz,λh=>h.1 d,?_⟩)
     show (if _ then _ else _)=_
     rw[eb,decide_eq_false m]
     rfl
 . have d:Drawn (jc rs) (qC R) hs:=.inr (by omega)
   have nz:¬zM (qC R) hs:=λz=>by have:=z.1;omega
   have et:jP (hs.map (wT rs R))=.edl 0:=by
     unfold jP
     cases e:j1 (hs.map (wT rs R)) with
     | nil=>rw[e]at hl;simp at hl;omega
     | cons a t=>
       cases t with
       | nil=>rw[e]at hl;simp at hl;omega
       | cons b t=>rfl
   rw[et]
   exact .inr (.inr ⟨nz,λh=>h.1 d,rfl⟩)
def NP (CN CE:Addr):Sp:=λvs H Q _=>∃(t:Addr) (rs:jf) (R:Rs Str) (z:Str),vs=[.ref t]/\H t=some (.tup (zz rs R z))/\okW (wT rs R z)/\∀a H',Same H H'->Q7 CN CE H' a (wT rs R z)->Q (.ref a) H'
def wg (CN CE:Addr):Sp:=λvs H Q _=>∃(D h:Addr) (rs:jf) (R:Rs Str) (hs:List Str),vs=[.ref D,.ref h]/\zN H D rs R/\jY H h rs hs/\(∀z∈hs,okW (wT rs R z))/\∀a H',Same H H'->Q7 CN CE H' a (jP (hs.map (wT rs R)))->Q (.ref a) H'
def K1 (CG CN CE:Addr):Sp:=λvs H Q _=>∃(g h:Addr) (rs:jf) (hs:List Str),vs=[.ref g,.ref h]/\jZ CG H g rs/\qy rs/\rs.length<=14/\jY H h rs hs/\
 ∀a H' R,Same H H'->All (JJ rs) (rs.map (·.1)) 0 [] R->Q7 CN CE H' a (jP (hs.map (wT rs R)))->Q (.ref a) H'
def wk (CG:Addr):Sp:=λvs H Q _=>∃(g h:Addr) (rs:jf) (hs:List Str),vs=[.ref g,.ref h]/\jZ CG H g rs/\qy rs/\rs.length<=14/\jY H h rs hs/\
 ∀H' z,Same H H'->((J3 (mv (jc rs)) hs/\z=Str.ofString "lost")\/(Won (mv (jc rs)) hs/\z=Str.ofString "won")\/(¬J3 (mv (jc rs)) hs/\¬Won (mv (jc rs)) hs/\z=Str.ofString "drawn"))->Q (.str z) H'
section
variable {P:Program} {w:World} {K:PySem.W.Frag} {mg:Str->Option Value} {base:Heap}
theorem qbH:qr ["label"] ["label"] (qk sLW):=⟨rfl,rfl,rfl,by decide+kernel,rfl,by decide+kernel,by decide+kernel⟩
theorem qaN {f:Addr} {fd:FuncData} (F:jQ K "label_worth" "label_worth" sLW f fd) (h:WF K mg) (B:Qy mg) (T:Wk K mg):qo P w K mg base qN 5 f fd ["label"] (NP h.CN h.CE):=by
 refine F.okJ qbH (λvs H Q E z=>?_) (λcdv A outer s H vs Q E hr z=>?_)
 . obtain⟨t,rs,R,z,rfl,_⟩:=z
   rfl
 . obtain⟨t,rs,R,z,rfl,ht,ok,q⟩:=z
   refine⟨_,qf (qM (qt j5 (qX jF (jv 0) qj (λ_ _=>rfl)) qD (qx _)) (qh (qw (Je h.cN.mkr (h.gNI B T) hr (by rfl) h.cN.ns h.cN.bi .nil Qz (qb (qX jF (jv 0) qj (λ_ _=>rfl)) qe)))) qA)
     (qh (qw (Je h.cE.mkr (h.gEI B T) hr (by rfl) h.cE.ns h.cE.bi .nil Qz (qb (qX jF (jv 0) qj (λ_ _=>rfl)) qe)))),?_⟩
   cases e:qC R z with
   | some n=>
     rw[WR e]at ok q
     have el:zz rs R z=[.str "number",.int (n:Nat),.int (Zr R z:Nat)]:=by unfold zz;rw[e]
     rw[el]at ht
     refine⟨_,rfl,t,_,0,_,rfl,rfl,.of ht,rfl,rfl,_,rfl,Qb (by decide+kernel) ?_⟩
     refine⟨_,rfl,t,_,1,_,rfl,rfl,.of ht,rfl,λx dx hx hd hne=>⟨x,dx,_,rfl,by omega,?_,qd,rfl,?_⟩⟩
     . have:n < 16:=ok
       omega
     . obtain⟨s1,i1⟩:=Vm (CN:=h.CN) (CE:=h.CE) (n:=n) hx hd hne
       exact q _ _ s1 i1
   | none=>
     rw[Yz e]at ok q
     have el:zz rs R z=[.str "endless",.int (setN (Yb rs (qC R) z):Nat)]:=by unfold zz;rw[e]
     rw[el]at ht
     refine⟨_,rfl,t,_,0,_,rfl,rfl,.of ht,rfl,rfl,_,rfl,jJ (by decide+kernel) ?_⟩
     refine⟨_,rfl,t,_,1,_,rfl,rfl,.of ht,rfl,λx dx hx hd hne=>⟨x,dx,_,rfl,by omega,?_,qd,rfl,?_⟩⟩
     . have:setN (Yb rs (qC R) z) < 65536:=ok
       omega
     . obtain⟨s1,i1⟩:=Vn (CN:=h.CN) (CE:=h.CE) (b:=setN (Yb rs (qC R) z)) hx hd hne
       exact q _ _ s1 i1
theorem qap:qr ["labels","heap"] ["labels","heap"] (qk Gm):=⟨rfl,rfl,rfl,by decide+kernel,rfl,by decide+kernel,by decide+kernel⟩
theorem ul {f fL fS:Addr} {fd fdL fdS:FuncData} (F:jQ K "worth_by" "worth_by" Gm f fd) (h:WF K mg) (B:Qy mg) (T:Wk K mg) (hL:jm K mg "label_worth" sLW ["label"] fL fdL) (hS:jm K mg "sum_of" YJ ["worths"] fS fdS):qo P w K mg base qN 8 f fd ["labels","heap"] (wg h.CN h.CE):=by
 have GL:qo P w K mg base qN 5 fL fdL ["label"] (NP h.CN h.CE):=qaN hL.fn h B T
 have GS:qo P w K mg base qN 7 fS fdS ["worths"] (vZ K h.CN h.CE):=uo hS.fn h B T
 refine F.okJ qap (λvs H Q E z=>?_) (λcdv A outer s H vs Q E hr z=>?_)
 . obtain⟨D,h',rs,R,hs,rfl,_⟩:=z
   rfl
 . obtain⟨D,h',rs,R,hs,rfl,lb,hh,ok,q⟩:=z
   have hu:=Qu hr
   have r4:qR 5 _:=hr.mono (by decide)
   refine⟨_,qh (qw (qH hS GS hr (by rfl) (qb (jM (N':=["place","labels"]) (ix:=[none,some 0]) (te:=ZC (NP h.CN h.CE) [] E0 (ji (VW (qO 1) (qO 0)) QR)) rfl ⟨rfl,rfl,rfl,rfl,rfl⟩ (qG (jv 1)) (λC s2 H2 fp pins=>
       ⟨qu (i:=0) (show (["place","labels"]:List Str).Nodup by decide+kernel) rfl (Or.inl rfl),ju,qH hL GL r4 (by rfl) (qb (jk hu (jv 1) (jv 0) (λ_ _=>rfl)) qe)⟩)) qe))),?_⟩
   refine⟨_,rfl,h',rfl,⟨_,.of hh.at_⟩,λW hW=>?_⟩
   refine jN (K:=K) (a:=h') (xs:=hs.map V.str) (λj σ'' G=>∃(v0:Option V) (as:List Addr),σ''=[v0,some (.ref D)]/\Same H G/\G W=some (.lst (as.map V.ref))/\Wl h.CN h.CE G as ((hs.take j).map (wT rs R)))
     ⟨none,[],rfl,qi hW,qd,rfl,λi a u e=>(nomatch e)⟩ (λj σ'' G _ ⟨_,_,_,s,_⟩=>.of (s _ _ hh.at_)) ?_ ?_
   . rintro j y σ'' G hy ⟨v0,as,rfl,sG,hG,wl⟩
     obtain⟨z,ez,hz,rfl⟩:=JL hy
     obtain⟨kvs,hD,_,hv⟩:=(lb.mono sG).at_
     obtain⟨r,hr',er⟩:=hh.in_ z hz
     obtain⟨t,et,ht⟩:=hv r hr'
     rw[er]at et ht
     refine⟨_,rfl,_,rfl,D,_,rfl,by rw[<-et];exact Qp.k (k:=(Sum.inr z:qL)) hD,t,rs,R,z,rfl,ht,ok z hz,λa G1 s1 ia=>?_⟩
     have l8:=hh.le
     have lw:=wl.1
     rw[tj,tU]at lw
     have nW:H W=none:=hW
     refine⟨_,s1 _ _ hG,by rw[tj];exact ql (by omega),_,as++[a],rfl,Same.upd (sG.trans s1) hW,by rw[tG];exact qd,?_⟩
     have up:∀{b:Addr} {u:Rb.W},Q7 h.CN h.CE G1 b u->Q7 h.CN h.CE (upd G1 W (.lst (as.map V.ref++[V.ref a]))) b u:=λ{b u} hb=>by
       have hW1:=s1 _ _ hG
       cases u with
       | num n=>obtain⟨dx,e⟩:=hb;exact⟨dx,by rw[qg (λq=>by rw[q,hW1]at e;cases e)];exact e⟩
       | edl n=>obtain⟨dx,e⟩:=hb;exact⟨dx,by rw[qg (λq=>by rw[q,hW1]at e;cases e)];exact e⟩
     rw[tS,ez,tG]
     refine⟨by rw[tI,tI,wl.1];rfl,λi b u e1 e2=>?_⟩
     rcases QS e1 with ⟨i1,e1⟩ | ⟨i1,rfl⟩
     . rcases QS (show (List.map (wT rs R) (hs.take j)++[wT rs R z])[i]?=some u from e2) with ⟨_,e2⟩ | ⟨i2,_⟩
       . exact up ((wl.2 i b u e1 e2).same s1)
       . have:=wl.1;omega
     . rcases QS (show (List.map (wT rs R) (hs.take j)++[wT rs R z])[i]?=some u from e2) with ⟨i2,_⟩ | ⟨_,rfl⟩
       . have:=wl.1;omega
       . exact up ia
   . rintro σ'' G ⟨v0,as,rfl,sG,hG,wl⟩
     rw[tj,tH (tq _)]at wl
     refine⟨W,as,_,rfl,.of hG,wl,λu hu=>?_,λH' r s' i'=>q r H' (sG.trans s') i'⟩
     obtain⟨z,hz,rfl⟩:=tE.mp hu
     exact ok z hz
structure zO (K:PySem.W.Frag) (mg:Str->Option Value):Prop where
 place:∃f fd,jm K mg "need_place" ZJ uN f fd
 heap:∃f fd,jm K mg "need_heap" YN ["ground","heap"] f fd
 lw:∃f fd,jm K mg "label_worth" sLW ["label"] f fd
 sum:∃f fd,jm K mg "sum_of" YJ ["worths"] f fd
 wby:∃f fd,jm K mg "worth_by" Gm ["labels","heap"] f fd
 hw:∃f fd,jm K mg "heap_worth" M7 ["ground","heap"] f fd
 outc:∃f fd,jm K mg "outcome" zT ["ground","heap"] f fd
 most:∃t,mg "MOST_TOKENS"=some (.int 8 t)
theorem qau:qr ["ground","heap"] ["ground","heap"] (qk M7):=⟨rfl,rfl,rfl,by decide+kernel,rfl,by decide+kernel,by decide+kernel⟩
theorem uF {f CG:Addr} {fd:FuncData} (F:jQ K "heap_worth" "heap_worth" M7 f fd) (h:WF K mg) (B:Qy mg) (Z:Wk K mg) (G:Qd mg) (T:Qn K mg) (M:GM K mg CG) (Y:VI K mg) (O:zO K mg):qo P w K mg base qN 9 f fd ["ground","heap"] (K1 CG h.CN h.CE):=by
 obtain⟨fP,fdP,hP⟩:=O.place
 obtain⟨fH,fdH,hH⟩:=O.heap
 obtain⟨fL,fdL,hL⟩:=O.lw
 obtain⟨fS,fdS,hS⟩:=O.sum
 obtain⟨fW,fdW,hW⟩:=O.wby
 obtain⟨fB,fdB,hB⟩:=Y.labels
 have GH:qo P w K mg base qN 3 fH fdH ["ground","heap"] (ki CG):=uw hH.fn B G T M hP O.most
 have GW:qo P w K mg base qN 8 fW fdW ["labels","heap"] (wg h.CN h.CE):=ul hW.fn h B Z hL hS
 have GB:qo P w K mg base qN 8 fB fdB ["ground"] (YF CG):=Wm hB.fn B G T M Y
 refine F.okJ qau (λvs H Q E z=>?_) (λcdv A outer s H vs Q E hr z=>?_)
 . obtain⟨g,h',rs,hs,rfl,_⟩:=z
   rfl
 . obtain⟨g,h',rs,hs,rfl,gr,good,le,hh,q⟩:=z
   refine⟨_,qf (jw (qH hH GH (hr.mono (by decide)) (by rfl) (qb (jv 0) (qb (jv 1) qe))))
     (qh (qw (qH hW GW hr (by rfl) (qb (qH hB GB hr (by rfl) (qb (jv 0) qe)) (qb (jv 1) qe))))),?_⟩
   refine⟨_,rfl,_,rfl,g,h',rs,hs,rfl,gr,hh,λH1 s1=>?_⟩
   refine⟨_,rfl,g,rs,rfl,gr.mono s1,good,le,λH2 D R s2 hD lb all=>?_⟩
   have L:=xo (JZ good.nd) all
   refine⟨_,rfl,D,h',rs,R,hs,rfl,lb,(hh.mono s1).mono s2,λz hz=>?_,λa H3 s3 i3=>q a H3 R (s1.trans (s2.trans s3)) all i3⟩
   obtain⟨r,hr',e⟩:=hh.in_ z hz
   exact xV good L (tE.mpr ⟨r,hr',e⟩)
theorem UY:qr ["ground","heap"] ["ground","heap"] (qk zT):=⟨rfl,rfl,rfl,by decide+kernel,rfl,by decide+kernel,by decide+kernel⟩
theorem G8 {f CG:Addr} {fd:FuncData} (F:jQ K "outcome" "outcome" zT f fd) (h:WF K mg) (B:Qy mg) (Z:Wk K mg) (G:Qd mg) (T:Qn K mg) (M:GM K mg CG) (Y:VI K mg) (O:zO K mg):qo P w K mg base qN 10 f fd ["ground","heap"] (wk CG):=by
 obtain⟨fW,fdW,hW⟩:=O.hw
 have GW:qo P w K mg base qN 9 fW fdW ["ground","heap"] (K1 CG h.CN h.CE):=uF hW.fn h B Z G T M Y O
 refine F.okJ UY (λvs H Q E z=>?_) (λcdv A outer s H vs Q E hr z=>?_)
 . obtain⟨g,h',rs,hs,rfl,_⟩:=z
   rfl
 . obtain⟨g,h',rs,hs,rfl,gr,good,le,hh,q⟩:=z
   refine⟨_,qh (qw (zc h B (hr.mono (by decide)) (qH hW GW hr (by rfl) (qb (jv 0) (qb (jv 1) qe))))),?_⟩
   refine⟨_,rfl,_,rfl,g,h',rs,hs,rfl,gr,good,le,hh,λa H1 R s1 all i1=>⟨a,_,rfl,i1,?_,λH2 s2=>?_⟩⟩
   . refine YA λu hu=>?_
     obtain⟨z,hz,rfl⟩:=tE.mp hu
     obtain⟨r,hr',e⟩:=hh.in_ z hz
     exact xV good (xo (JZ good.nd) all) (tE.mpr ⟨r,hr',e⟩)
   . exact q H2 _ (s1.trans s2) (N5 good (xo (JZ good.nd) all) λz hz=>let ⟨r,hr',e⟩:=hh.in_ z hz;tE.mpr ⟨r,hr',e⟩)
end
open PySem L2 PyProof.Rows MLab Rb
abbrev Z1:Stmt:=top 29
abbrev kB:Stmt:=top 30
abbrev Gp:Stmt:=top 55
abbrev kz:Stmt:=top 56
abbrev wO:Stmt:=top 59
abbrev Vd:Stmt:=top 67
def mvT (rs:jf) (j:Nat) (z:Str):List (Nat×Str):=(JJ rs z).map λe=>(j,e)
def mvs (rs:jf) (hs:List Str) (n:Nat):List (Nat×Str):=(tM n).flatMap λj=>mvT rs j (jG hs j)
def mvV (m:Nat×Str):List V:=[.int (m.1:Int),.str m.2]
def UW:Sp:=λvs H Q _=>∃(h p:Addr) (hs:List Str) (m:Nat×Str),vs=[.ref h,.ref p]/\H h=some (.lst (hs.map V.str))/\H p=some (.tup (mvV m))/\m.1 < hs.length/\∀l,H l=none->Q (.ref l) (upd H l (.lst ((hs.set m.1 m.2).map V.str)))
theorem atI_get {xs:List V} {r:Int} (h0:0<=r) (h1:r < (xs.length:Int)):∃v,UM xs r=some v/\xs[r.toNat]?=some v:=by
 have:r.toNat < xs.length:=by omega
 refine⟨xs[r.toNat],?_,tF this⟩
 unfold UM RH
 rw[if_pos h0,if_pos h1]
 exact tF this
def kq:Sp:=λvs H Q _=>∃(d l:Addr) (mo:Nat) (n s t:Int) (ps:List Addr) (rs:jf),vs=[.ref d,.ref l,.int (mo:Int)]/\H d=some (.dK (src n s t))/\jy H l ps rs/\mo<=8/\
 ∀(D:Addr) (hs:List Str) (n' t':Int) (H':Hp),H D=none->H' D=some (.lst (hs.map V.str))->hs.length<=mo->(∀z∈hs,∃r∈rs,r.1=z)->H' d=some (.dK (src n' s t'))->Fr H d H'->Q (.ref D) H'
theorem jy.fr' {H H':Hp} {l d:Addr} {ps:List Addr} {rs:jf} {kv:List (qL×V)} (h:jy H l ps rs) (hd:H d=some (.dK kv)) (s:Fr H d H'):jy H' l ps rs:=by
 refine⟨s _ _ h.at_ (λe=>?_),⟨h.rows.1,λi p r e1 e2=>?_⟩,h.good,h.pos,h.le⟩
 . have:=h.at_
   rw[e,hd]at this
   cases this
 . obtain⟨q,a,b⟩:=h.rows.2 i p r e1 e2
   exact⟨q,s _ _ a (λe=>by rw[e,hd]at a;cases a),s _ _ b (λe=>by rw[e,hd]at b;cases b)⟩
section
variable {P:Program} {w:World} {K:PySem.W.Frag} {mg:Str->Option Value} {base:Heap}
abbrev nMo:List Str:=["ground","heap","moves","token","place"]
theorem qbG:qr nMo ["ground","heap"] (qk Z1):=⟨rfl,rfl,rfl,by decide+kernel,rfl,by decide+kernel,by decide+kernel⟩
abbrev nLy:List Str:=["heap","move","left"]
theorem qat:qr nLy ["heap","move"] (qk kB):=⟨rfl,rfl,rfl,by decide+kernel,rfl,by decide+kernel,by decide+kernel⟩
theorem Ri {f:Addr} {fd:FuncData} (F:jQ K "left_by" "left_by" kB f fd) (G:Qd mg):qo P w K mg base qN 1 f fd ["heap","move"] UW:=by
 refine F.okJ qat (λvs H Q E h=>?_) (λcdv A outer s H vs Q E hr h=>?_)
 . obtain⟨h',p,hs,m,rfl,_⟩:=h
   rfl
 . obtain⟨h',p,hs,m,rfl,hh,hp,hm,q⟩:=h
   refine⟨_,qf (qv (i:=2) qat.nd rfl (Or.inl rfl) (jr Qx (by rfl) G.lst boot_list (qb (jv 0) qe)))
     (qf (uW (qX jF (jv 1) qj (λ_ _=>rfl)) (Mz (jv 2) (qX jF (jv 1) qj (λ_ _=>rfl)) wC))
     (qh (qw (jv 2)))),?_⟩
   refine⟨_,rfl,h',_,rfl,.inl (.of hh),λl hl=>?_⟩
   refine⟨_,rfl,p,_,1,_,rfl,rfl,.of (qm hp hl),rfl,_,rfl,_,rfl,p,_,0,_,rfl,rfl,.of (qm hp hl),rfl,l,_,(m.1:Int),m.1,rfl,rfl,qd,?_,_,rfl,?_⟩
   . unfold RH
     rw[if_pos (by omega),if_pos (by rw[tj];omega)]
     rfl
   . have e:(hs.map V.str).set m.1 (.str m.2)=(hs.set m.1 m.2).map V.str:=by rw[List.map_set]
     rw[jo,e]
     exact q l hl
abbrev nLH:List Str:=["_law_source_here","_law_rows_here","_law_most"]
theorem qbJ:qr nLH nLH (qk Vd):=⟨rfl,rfl,rfl,by decide+kernel,rfl,by decide+kernel,by decide+kernel⟩
theorem uz {f fT:Addr} {fd fdT:FuncData} (F:jQ K "_law_heap" "_law_heap" Vd f fd) (B:Qy mg) (hT:jm K mg "_law_take" ZF ["_law_source_here","_law_many"] fT fdT):qo P w K mg base qN 2 f fd nLH kq:=by
 have GT:qo P w K mg base qN 1 fT fdT ["_law_source_here","_law_many"] JM:=JR hT.fn
 refine F.okJ qbJ (λvs H Q E h=>?_) (λcdv A outer s H vs Q E hr h=>?_)
 . obtain⟨d,l,mo,n,sd,t,ps,rs,rfl,_⟩:=h
   rfl
 . obtain⟨d,l,mo,n,sd,t,ps,rs,rfl,hd,g,mo8,q⟩:=h
   refine⟨_,qh (qw (jM (N':=["_law_k","_law_rows_here","_law_source_here"]) (ix:=[none,some 1,some 0])
     (te:=zm (Ud K) (zm (yU K) (qO 1) (ZC JM [] E0 (ji (qO 2) (ji (tCB (λxs H Q=>∃p ys,xs=[.ref p]/\(SqL K H p ys\/SqT K H p ys)/\Q (.int ys.length) H) (ji (qO 1) QR)) QR)))) (tC (.int 0))) rfl ⟨rfl,rfl,rfl,rfl,rfl⟩
     (jd (by rfl) B.rng (qb (qH hT GT hr (by rfl) (qb (jv 0) (qb (qJ QN (jv 2) qj) qe))) qe))
     (λC s2 H2 fp pins=>⟨qu (i:=0) (show (["_law_k","_law_rows_here","_law_source_here"]:List Str).Nodup by decide+kernel) rfl (Or.inl rfl),ju,
       qX jF (qX jI (jv 1) (qH hT GT hr (by rfl) (qb (jv 2) (qb (qB qF (by rfl) B.len boot_len (qb (jv 1) qe)) qe))) (λ_ _=>rfl)) qj (λ_ _=>rfl)⟩))),?_⟩
   refine⟨_,rfl,_,rfl,_,_,rfl,rfl,d,(mo:Int)+1,n,sd,t,rfl,hd,by omega,by omega,λr n1 t1 r0 r1=>⟨r,rfl,by omega,by omega,λD hD=>?_⟩⟩
   have nDd:D≠d:=λe=>by rw[e,qd]at hD;cases hD
   have hD0:H D=none:=by rw[qg nDd]at hD;exact hD
   refine Q0 (λi σ' H'=>∃(v:Option V) (n' t':Int) (hs:List Str),σ'=[v,some (.ref l),some (.ref d)]/\H' d=some (.dK (src n' sd t'))/\H' D=some (.lst (hs.map V.str))/\hs.length=i/\(∀z∈hs,∃r∈rs,r.1=z)/\Fr H d H')
     ⟨none,n1,t1,[],rfl,?_,qd,rfl,λ_ h=>(nomatch h),(Fr.refl.at_d).new hD⟩ ?_ ?_
   . rw[qg (Ne.symm nDd)]
     exact qd
   . rintro i σ' H' hi ⟨v,n',t',hs,rfl,hd',hD',hl,ha,fr⟩
     have g':=g.fr' hd fr
     have pl:(ps.map V.ref).length=rs.length:=by rw[tj,g.rows.1]
     have le:=g.le
     have ps0:=g.pos
     refine⟨_,rfl,_,rfl,_,rfl,l,_,rfl,.inl (.of g'.at_),d,((ps.map V.ref).length:Nat),n',sd,t',rfl,hd',by rw[pl];omega,?_,λr n3 t3 r0 r1=>?_⟩
     . rw[pl]
       have:rs.length < 2^200:=zaZ le (by decide)
       omega
     obtain⟨x,ex,gx⟩:=atI_get r0 r1
     obtain⟨p,qq,r',rfl,er,hr',ea,eb⟩:=g'.rows.item gx
     have ndl:l≠d:=λe=>by
       have:=g'.at_
       rw[e,hd']at this
       cases this
     have ndp:p≠d:=λe=>by rw[e,hd']at ea;cases ea
     refine⟨l,_,r,_,rfl,rfl,.of (by rw[qg ndl];exact g'.at_),ex,p,_,0,_,rfl,rfl,.of (by rw[qg ndp];exact ea),rfl,_,by rw[qg nDd];exact hD',?_,_,n3,t3,hs++[r'.1],rfl,?_,?_,?_,?_,?_⟩
     . rw[tj,hl]
       exact ql (by omega)
     . rw[qg (Ne.symm nDd)];exact qd
     . rw[qd,tG];rfl
     . rw[tI,hl];rfl
     . intro z hz
       rcases t9.mp hz with h | h
       . exact ha z h
       . obtain rfl:=tX.mp h
         exact⟨r',hr',rfl⟩
     . exact(fr.at_d).own hD0
   . rintro σ' H' ⟨v,n',t',hs,rfl,hd',hD',hl,ha,fr⟩
     exact q D hs n' t' H' hD0 hD' (by omega) ha hd' fr
end
def lf (hs:List Str) (m:Nat×Str):List Str:=hs.set m.1 m.2
def wp:Sp:=λvs H Q _=>∃(D h:Addr) (rs:jf) (R:Rs Str) (hs:List Str),vs=[.ref D,.ref h]/\zN H D rs R/\jY H h rs hs/\(∀z∈hs,okW (wT rs R z))/\∀H',Same H H'->Q (.str (XU (jP (hs.map (wT rs R))))) H'
section
variable {P:Program} {w:World} {K:PySem.W.Frag} {mg:Str->Option Value} {base:Heap}
structure KB (K:PySem.W.Frag) (mg:Str->Option Value):Prop where
 mo:∃f fd,jm K mg "moves_of" Z1 ["ground","heap"] f fd
 lb:∃f fd,jm K mg "left_by" kB ["heap","move"] f fd
 oby:∃f fd,jm K mg "outcome_by" Gp ["labels","heap"] f fd
 osby:∃f fd,jm K mg "outcomes_by" kz ["ground","labels","heap"] f fd
 oaf:∃f fd,jm K mg "outcomes_after" wO ["ground","heap"] f fd
theorem qar:qr ["labels","heap"] ["labels","heap"] (qk Gp):=⟨rfl,rfl,rfl,by decide+kernel,rfl,by decide+kernel,by decide+kernel⟩
theorem Mc {f:Addr} {fd:FuncData} (F:jQ K "outcome_by" "outcome_by" Gp f fd) (h:WF K mg) (B:Qy mg) (Z:Wk K mg) (O:zO K mg):qo P w K mg base qN 9 f fd ["labels","heap"] wp:=by
 obtain⟨fL,fdL,hL⟩:=O.lw
 obtain⟨fS,fdS,hS⟩:=O.sum
 obtain⟨fW,fdW,hW⟩:=O.wby
 have GW:qo P w K mg base qN 8 fW fdW ["labels","heap"] (wg h.CN h.CE):=ul hW.fn h B Z hL hS
 refine F.okJ qar (λvs H Q E z=>?_) (λcdv A outer s H vs Q E hr z=>?_)
 . obtain⟨D,h',rs,R,hs,rfl,_⟩:=z
   rfl
 . obtain⟨D,h',rs,R,hs,rfl,lb,hh,ok,q⟩:=z
   refine⟨_,qh (qw (zc h B (hr.mono (by decide)) (qH hW GW hr (by rfl) (qb (jv 0) (qb (jv 1) qe))))),?_⟩
   refine⟨_,rfl,_,rfl,D,h',rs,R,hs,rfl,lb,hh,ok,λa H1 s1 i1=>⟨a,_,rfl,i1,?_,λH2 s2=>q H2 (s1.trans s2)⟩⟩
   refine YA λu hu=>?_
   obtain⟨z,hz,rfl⟩:=tE.mp hu
   exact ok z hz
theorem NS:qr ["ground","labels","heap"] ["ground","labels","heap"] (qk kz):=⟨rfl,rfl,rfl,by decide+kernel,rfl,by decide+kernel,by decide+kernel⟩
theorem qas:qr ["ground","heap"] ["ground","heap"] (qk wO):=⟨rfl,rfl,rfl,by decide+kernel,rfl,by decide+kernel,by decide+kernel⟩
end
open PySem L2 PyProof.Rows MLab
abbrev YQ:Stmt:=top 68
abbrev Z2:Stmt:=top 69
structure Nb (H:Hp) (d:Addr) (rs:jf):Prop where
 at_:∃(o:Obj) (kvs:List (qL×V)),H d=some (.frz o (.dK kvs))/\kvs.map (·.1)=(rs.map (·.1)).map Sum.inr/\∀r∈rs,∃q,jl kvs (Sum.inr r.1:qL)=some (.ref q)/\H q=some (.tup (r.2.map V.str))
theorem Nb.mono {H H':Hp} {d:Addr} {rs:jf} (h:Nb H d rs) (s:Same H H'):Nb H' d rs:=⟨let ⟨o,kvs,a,b,c⟩:=h.at_;⟨o,kvs,s _ _ a,b,λr hr=>let ⟨q,u,v⟩:=c r hr;⟨q,u,s _ _ v⟩⟩⟩
theorem Nb.get {H:Hp} {d:Addr} {rs:jf} (h:Nb H d rs) (g:qy rs) {z:Str} (hz:z∈rs.map (·.1)):∃q,Qp H d (.str z) (some (.ref q))/\H q=some (.tup ((jc rs z).map V.str)):=by
 obtain⟨o,kvs,a,b,c⟩:=h.at_
 obtain⟨r,hr,rfl⟩:=tE.mp hz
 obtain⟨q,u,v⟩:=c r hr
 refine⟨q,?_,by rw[Xk g.nd hr];exact v⟩
 rw[<-u]
 exact .inl ⟨kvs,Sum.inr r.1,.inr ⟨o,a⟩,rfl,rfl⟩
theorem Zu {rs:jf} (g:qy rs) {z y:Str} (hz:z∈rs.map (·.1)) (hy:y∈jc rs z):y∈rs.map (·.1):=JZ g.nd _ hz _ ((qK g hz).mp hy)
theorem Xl {rs:jf} (g:qy rs) {z:Str} (hz:z∈rs.map (·.1)):(jc rs z).length<=40:=by
 obtain⟨r,hr,rfl⟩:=tE.mp hz
 rw[Xk g.nd hr]
 exact g.two hr
def kn (rs:jf) (f:Str->Option Nat) (z:Str):List Nat:=(jc rs z).filterMap f
theorem Vs {rs:jf} {f:Str->Option Nat} {z:Str} {n:Nat}:n∈kn rs f z↔∃y∈jc rs z,f y=some n:=zaB
theorem Ry (rs:jf) (f:Str->Option Nat) (z:Str):(jc rs z).filterMap (λy=>(f y).map λn=>V.int (n:Nat))=Jy (kn rs f z):=by
 unfold Jy kn
 rw[List.map_filterMap]
theorem zd {rs:jf} {f:Str->Option Nat} {z:Str} {n:Nat}:zk (jc rs) f z n↔(∀j,j < n->j∈kn rs f z)/\n∉kn rs f z/\∀y∈jc rs z,f y=none->n∈kn rs f y:=by
 unfold zk
 simp only[Vs]
 constructor
 . rintro⟨a,b,c⟩
   exact⟨a,λ⟨y,hy,e⟩=>b y hy e,c⟩
 . rintro⟨a,b,c⟩
   exact⟨a,λy hy e=>b ⟨y,hy,e⟩,c⟩
def gV (o:Option Nat):V:=(o.map λn=>V.int (n:Nat)).getD .non
theorem RP (f:Str->Option Nat) (ys:List Str):(ys.map λy=>gV (f y)).all J5=true:=by
 rw[zcl,zbc]
 intro y _
 show J5 (gV (f y))=true
 cases f y<;>rfl
theorem qa5 (rs:jf) (f:Str->Option Nat) (z:Str) (n:Nat):Jx (.int (n:Nat)) ((jc rs z).map λy=>gV (f y))=decide (n∈kn rs f z):=by
 unfold Jx
 rw[List.any_map,zaQ,zbk,decide_eq_true_iff,Vs]
 constructor
 . rintro⟨y,hy,e⟩
   refine⟨y,hy,?_⟩
   have e:yg (gV (f y)) (.int (n:Nat))=true:=e
   cases c:f y with
   | none=>rw[c]at e;exact absurd e (by simp [gV,yg])
   | some m=>
     rw[c]at e
     have e:(((m:Nat):Int)==((n:Nat):Int))=true:=e
     have:((m:Nat):Int)=((n:Nat):Int):=eq_of_beq e
     have:m=n:=by omega
     rw[this]
 . rintro⟨y,hy,e⟩
   refine⟨y,hy,?_⟩
   show yg (gV (f y)) (.int (n:Nat))=true
   rw[e]
   show (((n:Nat):Int)==((n:Nat):Int))=true
   simp
def W4:Sp:=λvs H Q _=>∃(d e:Addr) (rs:jf) (f:Str->Option Nat) (z:Str) (n:Nat),vs=[.ref d,.ref e,.str z,.int (n:Nat)]/\Nb H d rs/\qy rs/\z∈rs.map (·.1)/\qS (rs.map (·.1)) H e f/\n<=14/\
 ∀H' b,Same H H'->(b=true↔zk (jc rs) f z n)->Q (.bl b) H'
section
variable {P:Program} {w:World} {K:PySem.W.Frag} {mg:Str->Option Value} {base:Heap}
theorem Kv {rs:jf} {f:Str->Option Nat} {z:Str} {q e W:Addr} {H:Hp} {Q:Hp->Prop} (hW:H W=none) (hq:H q=some (.tup ((jc rs z).map V.str))) (nm:qS (rs.map (·.1)) H e f) (l40:(jc rs z).length<=40)
   (k:∀G,Same H G->G W=some (.lst (Jy (kn rs f z)))->Q G):z8 (NE K q) (Ql 0) (tB (KQ (qO 0) (qO 1))) (VW (qO 1) (qO 0)) W [none,some (.ref e)] H Q:=by
 refine yo (K:=K) (a:=q) (xs:=jc rs z) (enc:=V.str) (out:=λy=>(f y).map λn=>V.int (n:Nat)) (rest:=[some (.ref e)]) hW hq (ql (by omega)) ?_ ?_ ?_
 . intro x hx G' s5 R kk
   refine⟨_,rfl,_,rfl,e,_,rfl,(nm.mono s5).get x,_,rfl,?_⟩
   exact kk G' λ_ _ h=>h
 . intro x hx v ev G' s5 R kk
   have g:=(nm.mono s5).get x
   rw[ev]at g
   exact⟨_,rfl,_,rfl,e,_,rfl,g,kk G' λ_ _ h=>h⟩
 . intro G s5 hG
   rw[Ry]at hG
   exact k G s5 hG
abbrev nLG:List Str:=["_law_leads_here","_law_numbers","_law_name","_law_number","_law_known","_law_other"]
abbrev pLG:List Str:=["_law_leads_here","_law_numbers","_law_name","_law_number"]
theorem NW:qr nLG pLG (qk YQ):=⟨rfl,rfl,rfl,by decide+kernel,rfl,by decide+kernel,by decide+kernel⟩
theorem uA {f:Addr} {fd:FuncData} (F:jQ K "_law_gets" "_law_gets" YQ f fd) (B:Qy mg):qo P w K mg base qN 1 f fd pLG W4:=by
 refine F.okJ NW (λvs H Q E h=>?_) (λcdv A outer s H vs Q E hr h=>?_)
 . obtain⟨d,e,rs,ff,z,n,rfl,_⟩:=h
   rfl
 . obtain⟨d,e,rs,ff,z,n,rfl,ld,good,hz,nm,n14,q⟩:=h
   have hu:=Qu hr
   refine⟨_,qf (qv (i:=4) NW.nd rfl (Or.inr rfl) (jM (N':=["_law_other","_law_numbers"]) (ix:=[none,some 1]) (tt:=tB (KQ (qO 0) (qO 1))) (te:=VW (qO 1) (qO 0)) rfl ⟨rfl,rfl,rfl,rfl,rfl⟩ (zD (jk hu (jv 0) (jv 2) (λ_ _=>rfl))) (λC s2 H2 fp pins=>
         ⟨qu (i:=0) (show (["_law_other","_law_numbers"]:List Str).Nodup by decide+kernel) rfl (Or.inl rfl),jH (QE (Zi hu (jv 0) (jv 1))),jk hu (jv 1) (jv 0) (λ_ _=>rfl)⟩)))
     (qf (qM (JW.pt (Jd (qt (kP (zdc hu)) (jM (N':=["_law_lesser","_law_known"]) (ix:=[none,some 4]) (tt:=YB (zm (N2 K true) (qO 0) (qO 1))) (te:=qO 0) rfl ⟨rfl,rfl,rfl,rfl,rfl⟩ (jd (by rfl) B.rng (qb (jv 3) qe)) (λC s2 H2 fp pins=>
         ⟨qu (i:=0) (show (["_law_lesser","_law_known"]:List Str).Nodup by decide+kernel) rfl (Or.inl rfl),jH (qt QU (jv 0) (jv 1) (by with_unfolding_all rfl)),jv 0⟩)) (jE qe) (qx _))
         (QC (qt QY (jv 3) (jv 4) (by with_unfolding_all rfl))))) (qh (qw jT)) qA)
     (qf (jg PassesOwn.never rfl (zD (jk hu (jv 0) (jv 2) (λ_ _=>rfl))) (qu (i:=5) NW.nd rfl (Or.inl rfl))
       (qh (qM (JW.pt (QD (QE (Jw hu (jv 5) (jv 1))) (Qh (qt QU (jv 3) (jM (N':=["_law_one","_law_numbers"]) (ix:=[none,some 1]) (te:=wa (qO 1) (qO 0)) rfl ⟨rfl,rfl,rfl,rfl,rfl⟩ (zD (jk hu (jv 0) (jv 5) (λ_ _=>rfl))) (λC s2 H2 fp pins=>
         ⟨qu (i:=0) (show (["_law_one","_law_numbers"]:List Str).Nodup by decide+kernel) rfl (Or.inl rfl),ju,u5 hu (jv 1) (jv 0) ⟨rfl,rfl,rfl,rfl⟩⟩)) (by with_unfolding_all rfl))))) (qh (qw jT)) qA)))
     (qh (qw jT)))),?_⟩
   obtain⟨q0,g0,hq0⟩:=ld.get good hz
   refine⟨_,rfl,_,rfl,d,_,rfl,g0,q0,rfl,⟨_,.of hq0⟩,λW hW=>?_⟩
   refine Kv (K:=K) hW hq0 nm (Xl good hz) λG1 s1 hW1=>?_
   refine⟨_,rfl,(n:Int),rfl,by omega,by omega,λU hU=>?_⟩
   refine Yw (n:=n) (out:=λj=>if j∈kn rs ff z then none else some (V.int (j:Nat))) (rest:=[some (.ref W)]) hU (ql (by omega)) ?_ ?_ ?_
   . intro x hx G' s5 R kk
     refine⟨_,rfl,_,rfl,W,_,rfl,.inl (.of (s5 _ _ hW1)),rfl,Zj _,_,rfl,?_⟩
     have:=kk G' λ_ _ h=>h
     show R (!Jx (.int (x:Nat)) (Jy (kn rs ff z))) G'
     rw[zG]
     by_cases c:x∈kn rs ff z
     . rw[if_pos c]at this
       rw[decide_eq_true c]
       exact this
     . rw[if_neg c]at this
       rw[decide_eq_false c]
       exact this
   . intro x hx v ev G' s5 R kk
     have:v=V.int (x:Nat):=by
       split at ev
       . cases ev
       . exact(tL.inj ev).symm
     subst this
     exact⟨_,rfl,kk G' λ_ _ h=>h⟩
   . intro G2 s2 hU2
     have s12:=s1.trans s2
     generalize hls:(tM n).filterMap (λj=>if j∈kn rs ff z then none else some (V.int (j:Nat)))=ls at hU2
     refine⟨by show 0<=sizeLine;decide,λl0 hl0=>?_⟩
     have s0:Same G2 (upd G2 l0 (.lst [])):=qi hl0
     refine⟨U,l0,_,rfl,rfl,.of (s0 _ _ hU2),.of qd,_,rfl,?_⟩
     have s3:Same H (upd G2 l0 (.lst [])):=s12.trans s0
     have hW3:=s0 _ _ (s2 _ _ hW1)
     generalize upd G2 l0 (.lst [])=G3 at s0 s3 hW3
     have lsE:ls=[]↔∀j,j < n->j∈kn rs ff z:=by
       rw[<-hls,zcU]
       constructor
       . intro h j hj
         have:=h j (zap.mpr hj)
         by_cases c:j∈kn rs ff z
         . exact c
         . rw[if_neg c]at this;cases this
       . intro h j hj
         rw[if_pos (h j (zap.mp hj))]
     cases ls with
     | cons a ls=>
       refine j8 (j8 (q G3 false s3 ⟨λh=>(nomatch h),λh=>?_⟩))
       have:=lsE.mpr (zd.mp h).1
       cases this
     | nil=>
       refine jh ⟨_,rfl,_,rfl,W,_,rfl,.inl (.of hW3),rfl,Zj _,_,rfl,?_⟩
       have lo:=lsE.mp rfl
       by_cases c:n∈kn rs ff z
       . refine Qb (show Jx (.int (n:Nat)) (Jy (kn rs ff z))=true by rw[zG];exact decide_eq_true c) (q G3 false s3 ⟨λh=>(nomatch h),λh=>absurd c (zd.mp h).2.1⟩)
       . refine jJ (show Jx (.int (n:Nat)) (Jy (kn rs ff z))=false by rw[zG];exact decide_eq_false c) ?_
         obtain⟨q1,g1,hq1⟩:=(ld.mono s3).get good hz
         refine⟨_,rfl,_,rfl,d,_,rfl,g1,q1,rfl,⟨_,.of hq1⟩,?_⟩
         refine ye (K:=K) (a:=q1) (xs:=(jc rs z).map V.str) (λi σ' G=>∃v5,σ'=[some (.ref d),some (.ref e),some (.str z),some (.int (n:Nat)),some (.ref W),v5]/\Same G3 G/\∀y∈(jc rs z).take i,ff y=none->n∈kn rs ff y)
           ⟨_,rfl,λ_ _ h=>h,λy h=>(nomatch h)⟩ (λi σ' G _ ⟨_,_,s,_⟩=>.of (s _ _ hq1)) ?_ ?_
         . rintro i x σ' G hx ⟨v5,rfl,sG,hall⟩
           obtain⟨y,ey,hy,rfl⟩:=JL hx
           have sA:=s3.trans sG
           have hyN:=Zu good hz hy
           have gy:=(nm.mono sA).get y
           have step:∀{G':Hp},Same G G'->(ff y=none->n∈kn rs ff y)->∃v5,[some (V.ref d),some (.ref e),some (.str z),some (.int (n:Nat)),some (.ref W),some (.str y)]=[some (.ref d),some (.ref e),some (.str z),some (.int (n:Nat)),some (.ref W),v5]/\Same G3 G'/\∀y∈(jc rs z).take (i+1),ff y=none->n∈kn rs ff y:=λ{G'} s' hy'=>by
             refine⟨_,rfl,sG.trans s',λu hu=>?_⟩
             rw[tS,ey]at hu
             rcases t9.mp hu with hu | hu
             . exact hall u hu
             . have:u=y:=by simpa using hu
               rw[this];exact hy'
           refine⟨_,rfl,_,rfl,e,_,rfl,gy,_,rfl,?_⟩
           cases cy:ff y with
           | some m=>
             exact jh (jh (step (λ_ _ h=>h) λh=>by rw[cy]at h;cases h))
           | none=>
             obtain⟨q2,g2,hq2⟩:=(ld.mono sA).get good hyN
             refine j8 ⟨_,rfl,_,rfl,_,rfl,d,_,rfl,g2,q2,rfl,⟨_,.of hq2⟩,λT hT=>?_⟩
             refine yo (K:=K) (a:=q2) (xs:=jc rs y) (enc:=V.str) (out:=λu=>some (gV (ff u))) (rest:=[some (.ref e)]) hT hq2 (ql (by have:=Xl good hyN;omega)) ?_ ?_ ?_
             . intro x hx G' s5 R kk
               exact kk G' λ_ _ h=>h
             . intro x hx v ev G' s5 R kk
               obtain rfl:=(tL.inj ev).symm
               have nmG:=(nm.mono sA).mono s5
               obtain⟨ke,he⟩:=nmG.isd
               exact⟨_,rfl,e,rfl,.inl ⟨ke,.inl he⟩,_,rfl,_,nmG.get x,kk G' λ_ _ h=>h⟩
             . intro G4 s4 hT4
               rw[show (λu=>some (gV (ff u)))=(some ∘ λu=>gV (ff u)) from rfl,List.filterMap_eq_map]at hT4
               refine⟨T,_,rfl,.inl (.of hT4),rfl,RP ff _,_,rfl,?_⟩
               show if (!Jx (.int (n:Nat)) ((jc rs y).map λu=>gV (ff u)))=true then _ else _
               rw[qa5]
               by_cases c2:n∈kn rs ff y
               . rw[decide_eq_true c2]
                 exact jh (step s4 λ_=>c2)
               . rw[decide_eq_false c2]
                 exact j8 (q G4 false (sA.trans s4) ⟨λh=>(nomatch h),λh=>absurd ((zd.mp h).2.2 y hy cy) c2⟩)
         . rintro σ' G ⟨v5,rfl,sG,hall⟩
           rw[tj,tH (tq _)]at hall
           exact q G true (s3.trans sG) ⟨λ_=>zd.mpr ⟨lo,c,hall⟩,λ_=>rfl⟩
end
open PySem L2 PyProof.Rows MLab
theorem yW {κ:Type} [DecidableEq κ] {kvs:List (κ×V)} {k:κ} {v u:V} (h:jl kvs k=some u):(jR kvs k v).map (·.1)=kvs.map (·.1):=by
 unfold jR
 have:(kvs.any λkv=>decide (kv.1=k))=true:=by rw[QI,h];rfl
 rw[if_pos this,zbl]
 refine zaS λx _=>?_
 show (if x.1=k then (x.1,v) else x).1=x.1
 split<;>rfl
theorem WW (ns:List Nat):∀m,(((tM m).filter λk=>decide (k∈ns)).map λk=>2^k).sum=Rb.setN ((tM m).filter λk=>decide (k∈ns))
 | 0=>rfl
 | m+1=>by
   have ih:=WW ns m
   have lt:Rb.setN ((tM m).filter λk=>decide (k∈ns)) < 2^m:=Rb.setN_lt λx hx=>zap.mp (zae.mp hx).1
   rw[zbm,zaP]
   by_cases c:m∈ns
   . have e:[m].filter (λk=>decide (k∈ns))=[m]:=by simp [c]
     rw[e,tG,zbi,ih,Rb.setN_snoc]
     have h2:=Nat.two_pow_add_eq_or_of_lt lt 1
     rw[Nat.mul_one]at h2
     show _+(2^m+0)=_
     rw[Nat.add_zero,Nat.add_comm,h2,Nat.or_comm]
   . have e:[m].filter (λk=>decide (k∈ns))=[]:=by simp [c]
     rw[e,zaH]
     exact ih
theorem V4 {ns ms:List Nat} (h:∀x,x∈ns↔x∈ms):Rb.setN ns=Rb.setN ms:=zcB λk=>by rw[Rb.testBit_setN,Rb.testBit_setN,decide_eq_decide.mpr (h k)]
theorem NM {ns:List Nat} (h:∀x∈ns,x < 16):(((tM 16).filter λk=>decide (k∈ns)).map λk=>2^k).sum=Rb.setN ns:=by
 rw[WW]
 exact V4 λx=>by
   rw[zae,zap,decide_eq_true_iff]
   exact⟨λz=>z.2,λz=>⟨h x z,z⟩⟩
def tW:Rb.W->List V
 | .num n=>[.str "number",.int (n:Nat)]
 | .edl b=>[.str "endless",.int (b:Nat)]
def wF (rs:jf) (f:Str->Option Nat) (z:Str):Rb.W:=match f z with
 | some n=>.num n
 | none=>.edl (Rb.setN (kn rs f z))
structure Yf (H:Hp) (D:Addr) (F:Str->Rb.W) (zs:List Str):Prop where
 at_:∃kvs:List (qL×V),H D=some (.dK kvs)/\kvs.map (·.1)=zs.map Sum.inr/\∀z∈zs,∃t,jl kvs (Sum.inr z:qL)=some (.ref t)/\H t=some (.tup (tW (F z)))
theorem Yf.mono {H H':Hp} {D:Addr} {F:Str->Rb.W} {zs:List Str} (h:Yf H D F zs) (s:Same H H'):Yf H' D F zs:=⟨let ⟨kvs,a,b,c⟩:=h.at_;⟨kvs,s _ _ a,b,λz hz=>let ⟨t,u,v⟩:=c z hz;⟨t,u,s _ _ v⟩⟩⟩
theorem Yf.get {H:Hp} {D:Addr} {F:Str->Rb.W} {zs:List Str} (h:Yf H D F zs) {z:Str} (hz:z∈zs):∃t,Qp H D (.str z) (some (.ref t))/\H t=some (.tup (tW (F z))):=by
 obtain⟨kvs,a,b,c⟩:=h.at_
 obtain⟨t,u,v⟩:=c z hz
 refine⟨t,?_,v⟩
 rw[<-u]
 exact Qp.k (k:=(Sum.inr z:qL)) a
theorem Yf.new {H:Hp} {D t:Addr} {F:Str->Rb.W} {zs:List Str} {z:Str} (h:Yf H D F zs) (hz:z∉zs) (l:zs.length<=14) (ht:H t=some (.tup (tW (F z)))):∃o,Q6 H D (.str z) (.ref t) (upd H D o)/\Yf (upd H D o) D F (zs++[z]):=by
 obtain⟨kvs,a,b,c⟩:=h.at_
 have lk:kvs.length=zs.length:=by simpa using congrArg zaN b
 have new:jl kvs (Sum.inr z:qL)=none:=Jm (by
   rw[b]
   intro m
   obtain⟨y,hy,e⟩:=tE.mp m
   cases e
   exact hz hy)
 have tD:∀{b:Addr} {xs:List V},H b=some (.tup xs)->b≠D:=λhb e=>by rw[e,a]at hb;cases hb
 refine⟨_,Q6.k (k:=(Sum.inr z:qL)) a (ql (by omega)),⟨_,qd,?_,λy hy=>?_⟩⟩
 . rw[Js _ new,tG,b,tG]
   rfl
 . rcases t9.mp hy with hy | hy
   . obtain⟨t',u,v⟩:=c y hy
     refine⟨t',?_,by rw[qg (tD v)];exact v⟩
     rw[Qe,if_neg (λq=>by cases q;exact hz hy)]
     exact u
   . have:y=z:=by simpa using hy
     subst this
     exact⟨t,by rw[Qe,if_pos rfl],by rw[qg (tD ht)];exact ht⟩
theorem Yf.over {H:Hp} {D t:Addr} {F F':Str->Rb.W} {zs:List Str} {z:Str} (h:Yf H D F' zs) (hz:z∈zs) (l:zs.length<=15) (ag:∀y∈zs,y≠z->F' y=F y) (ht:H t=some (.tup (tW (F z)))):∃o,Q6 H D (.str z) (.ref t) (upd H D o)/\Yf (upd H D o) D F zs:=by
 obtain⟨kvs,a,b,c⟩:=h.at_
 have lk:kvs.length=zs.length:=by simpa using congrArg zaN b
 obtain⟨t0,e0,_⟩:=c z hz
 have tD:∀{b:Addr} {xs:List V},H b=some (.tup xs)->b≠D:=λhb e=>by rw[e,a]at hb;cases hb
 refine⟨_,Q6.k (k:=(Sum.inr z:qL)) a (ql (by omega)),⟨_,qd,by rw[yW e0];exact b,λy hy=>?_⟩⟩
 by_cases q:y=z
 . subst q
   exact⟨t,by rw[Qe,if_pos rfl],by rw[qg (tD ht)];exact ht⟩
 . obtain⟨t',u,v⟩:=c y hy
   rw[ag y hy q]at v
   refine⟨t',?_,by rw[qg (tD v)];exact v⟩
   rw[Qe,if_neg (λw=>q (Sum.inr.inj w))]
   exact u
theorem Yf.congr {H:Hp} {D:Addr} {F F':Str->Rb.W} {zs:List Str} (h:Yf H D F zs) (e:∀z∈zs,F z=F' z):Yf H D F' zs:=⟨let ⟨kvs,a,b,c⟩:=h.at_;⟨kvs,a,b,λz hz=>by rw[<-e z hz];exact c z hz⟩⟩
theorem MR {rs:jf} (g:qy rs) {f:Str->Option Nat} {x:Str} (hx:x∈rs.map (·.1)) (e:f x=none):¬∀j,j < (rs.map (·.1)).length->∃y∈jc rs x,f y=some j:=λh=>by
 have h1:=JV (l:=tM (rs.map (·.1)).length) (m:=(rs.map (·.1)).filterMap f) zbJ λj hj=>by
   obtain⟨y,hy,ey⟩:=h j (zap.mp hj)
   exact zaB.mpr ⟨y,Zu g hx hy,ey⟩
 rw[zag]at h1
 obtain⟨p,q,ep⟩:=zch hx
 rw[ep,zaq,zaf,e,tI,tI,zao]at h1
 have h2:=zaw f p
 have h3:=zaw f q
 have h1:p.length+(q.length+1)<=(p.filterMap f).length+(q.filterMap f).length:=h1
 omega
theorem qaZ {rs:jf} (g:qy rs) {num:Str->Option Nat} {stp:Str->Nat} (L:zj (jc rs) (·∈rs.map (·.1)) num stp):zj (JJ rs) (·∈rs.map (·.1)) num stp where
 cl:=λ{x y} hx hy=>L.cl hx ((qK g hx).mpr hy)
 n1:=λ{x n m} hx e lt=>let ⟨y,hy,k⟩:=L.n1 hx e lt;⟨y,(qK g hx).mp hy,k⟩
 n2:=λ{x y n} hx e hy=>L.n2 hx e ((qK g hx).mpr hy)
 n3:=λ{x y n} hx e hy gt=>let ⟨z,hz,k⟩:=L.n3 hx e ((qK g hx).mpr hy) gt;⟨z,(qK g (L.cl hx ((qK g hx).mpr hy))).mp hz,k⟩
 n4:=λ{x y n m} hx e hy=>L.n4 hx e ((qK g hx).mpr hy)
 e:=λ{x m} hx e lo hi=>by
   obtain⟨y,hy,ey,ly⟩:=L.e hx e (λj hj=>let ⟨y,hy,k⟩:=lo j hj;⟨y,(qK g hx).mpr hy,k⟩) (λy hy=>hi y ((qK g hx).mp hy))
   exact⟨y,(qK g hx).mp hy,ey,λz hz=>ly z ((qK g (L.cl hx hy)).mpr hz)⟩
theorem qab {rs:jf} (g:qy rs) {f:Str->Option Nat} {stp:Str->Nat} (L:zj (jc rs) (·∈rs.map (·.1)) f stp) {R:Rs Str} (all:All (JJ rs) (rs.map (·.1)) 0 [] R) {z:Str} (hz:z∈rs.map (·.1)):wF rs f z=wT rs R z:=by
 have L':=qaY g (xo (JZ g.nd) all)
 have eq:∀{y},y∈rs.map (·.1)->f y=qC R y:=λhy=>Mr L L' hy
 unfold wF wT
 rw[eq hz]
 cases qC R z with
 | some n=>rfl
 | none=>
   show Rb.W.edl _=Rb.W.edl _
   congr 1
   refine V4 λx=>?_
   rw[Vs,Qr]
   constructor
   . rintro⟨y,hy,e⟩
     exact⟨y,(qK g hz).mp hy,by rw[<-eq (Zu g hz hy)];exact e⟩
   . rintro⟨y,hy,e⟩
     have hy':=(qK g hz).mpr hy
     exact⟨y,hy',by rw[eq (Zu g hz hy')];exact e⟩
def Nq:Sp:=λvs H Q _=>∃(l:Addr) (ps:List Addr) (rs:jf),vs=[.ref l]/\jy H l ps rs/\
 ∀H' D F,Same H H'->H D=none->Yf H' D F (rs.map (·.1))->(∀R,All (JJ rs) (rs.map (·.1)) 0 [] R->∀z∈rs.map (·.1),F z=wT rs R z)->(∀z∈rs.map (·.1),Rb.okW (F z))->Q (.ref D) H'
section
variable {P:Program} {w:World} {K:PySem.W.Frag} {mg:Str->Option Value} {base:Heap}
abbrev qbZ:List Str:=["_law_rows_here","_law_leads_here","_law_numbers","_law_number","_law_more","_law_coming","_law_name","_law_worths_here","_law_here"]
theorem Zb:qr qbZ ["_law_rows_here"] (qk Z2):=⟨rfl,rfl,rfl,by decide+kernel,rfl,by decide+kernel,by decide+kernel⟩
theorem U9 {f fG:Addr} {fd fdG:FuncData} (F:jQ K "_law_worths" "_law_worths" Z2 f fd) (B:Qy mg) (T:Qn K mg) (hdi:mg "dict"=none) (hG:jm K mg "_law_gets" YQ pLG fG fdG):qo P w K mg base qN 2 f fd ["_law_rows_here"] Nq:=by
 have GG:qo P w K mg base qN 1 fG fdG pLG W4:=uA hG.fn B
 refine F.okJ Zb (λvs H Q E h=>?_) (λcdv A outer s H vs Q E hr h=>?_)
 . obtain⟨l,ps,rs,rfl,_⟩:=h
   rfl
 . obtain⟨l,ps,rs,rfl,g,q⟩:=h
   have hu:=Qu hr
   refine⟨_,qf (qv (i:=1) Zb.nd rfl (Or.inr rfl) (MC (jr (vD rfl) (by rfl) hdi boot_dict (qb (jv 0) qe))))
     (qf (qv (i:=2) Zb.nd rfl (Or.inr rfl) j7)
     (qf (jg PassesOwn.never rfl (jd (by rfl) B.rng (qb (qB qF (by rfl) B.len boot_len (qb (jv 0) qe)) qe)) (qu (i:=3) Zb.nd rfl (Or.inr rfl))
       (qf (qv (i:=4) Zb.nd rfl (Or.inl rfl) jT)
       (qh (za PassesOwn.never (jL (jv 4))
         (qf (Q5 (i:=5) (N':=["_law_name","_law_numbers","_law_leads_here","_law_number"]) (ix:=[none,some 2,some 1,some 3]) (tt:=NL (tB (vU (qO 0) (qO 1))) (tB (ZC W4 [] E0 (ji (qO 2) (ji (qO 1) (ji (qO 0) (ji (qO 3) QR))))))) (te:=qO 0) Zb.nd rfl (Or.inl rfl) rfl ⟨rfl,rfl,rfl,rfl,rfl⟩ (uX (jv 1)) (λC s2 H2 fp pins=>
           ⟨qu (i:=0) (show (["_law_name","_law_numbers","_law_leads_here","_law_number"]:List Str).Nodup by decide+kernel) rfl (Or.inl rfl),jH (JW.pt (QD (QE (Jw hu (jv 0) (jv 1))) (Qh (jL (qH hG GG hr (by rfl) (qb (jv 2) (qb (jv 1) (qb (jv 0) (qb (jv 3) qe))))))))),jv 0⟩))
         (qf (qv (i:=4) Zb.nd rfl (Or.inl rfl) (Qa (kP (zdc hu)) (jv 5) (jE qe) (qx _)))
         (qh (jg PassesOwn.never rfl (qG (jA Qg (jv 5) j3 (j2 qj))) (qu (i:=6) Zb.nd rfl (Or.inl rfl)) (qh (jx hu (jv 2) (jv 6) (jv 3) rfl))))))))))
     (qf (qv (i:=7) Zb.nd rfl (Or.inl rfl) j7)
     (qf (jg PassesOwn.never rfl (uX (jv 1)) (qu (i:=6) Zb.nd rfl (Or.inl rfl))
       (qf (qv (i:=8) Zb.nd rfl (Or.inr rfl) (jM (N':=["_law_other","_law_numbers"]) (ix:=[none,some 2]) (tt:=tB (KQ (qO 0) (qO 1))) (te:=VW (qO 1) (qO 0)) rfl ⟨rfl,rfl,rfl,rfl,rfl⟩ (zD (jk hu (jv 1) (jv 6) (λ_ _=>rfl))) (λC s2 H2 fp pins=>
         ⟨qu (i:=0) (show (["_law_other","_law_numbers"]:List Str).Nodup by decide+kernel) rfl (Or.inl rfl),jH (QE (Zi hu (jv 0) (jv 1))),jk hu (jv 1) (jv 0) (λ_ _=>rfl)⟩)))
       (qf (jx hu (jv 7) (jv 6) (qW (qb qD (qb (qB (zJ rfl) (by rfl) T.sum boot_sum (qb (jM (N':=["_law_k","_law_here"]) (ix:=[none,some 8]) (tt:=YB (zm (N2 K false) (qO 0) (qO 1))) (te:=zm (rI Nf λi j=>.int (i*2^j.toNat)) (tC (.int 1)) (qO 0)) rfl ⟨rfl,rfl,rfl,rfl,rfl⟩ (jd (by rfl) B.rng (qb qj qe)) (λC s2 H2 fp pins=>
         ⟨qu (i:=0) (show (["_law_k","_law_here"]:List Str).Nodup by decide+kernel) rfl (Or.inl rfl),jH (qt QY (jv 0) (jv 1) (by with_unfolding_all rfl)),qJ U7 qj (jv 0)⟩)) qe)) qe))) rfl)
       (qh (qM (QE (Zi hu (jv 6) (jv 2))) (qh (jx hu (jv 7) (jv 6) (qW (qb qD (qb (jk hu (jv 2) (jv 6) (λ_ _=>rfl)) qe))) rfl)) qA)))))
     (qh (qw (jv 7))))))),?_⟩
   have good:=g.good
   have le14:=g.le
   have nd:=good.nd
   refine⟨_,rfl,Mg (Kr g λd kvs hd ek hv=>⟨d,kvs,rfl,qd,λo=>?_⟩)⟩
   rw[jo]
   have s1:Same H (upd H d (.frz o (.dK kvs))):=qi hd
   have hd1:upd H d (.frz o (.dK kvs)) d=some (.frz o (.dK kvs)):=qd
   generalize upd H d (.frz o (.dK kvs))=H1 at s1 hd1
   have ld:Nb H1 d rs:=⟨o,kvs,hd1,ek,λr hr=>let ⟨t,a,b⟩:=hv r hr;⟨t,a,s1 _ _ b⟩⟩
   intro e he
   have s2:Same H1 (upd H1 e (.dK [])):=qi he
   have he2:upd H1 e (.dK []) e=some (.dK []):=qd
   have he0:H e=none:=QB s1 he
   have nde:d≠e:=λz=>by rw[<-z,hd1]at he;cases he
   generalize upd H1 e (.dK [])=H2 at s2 he2
   have ldG:∀{G:Hp},Fr H2 e G->Nb G d rs:=λfr=>by
     refine⟨o,kvs,fr _ _ (s2 _ _ hd1) nde,ek,λr hr=>?_⟩
     obtain⟨t,a,b⟩:=hv r hr
     have b2:=s2 _ _ (s1 _ _ b)
     exact⟨t,a,fr _ _ b2 (λz=>by rw[z,he2]at b2;cases b2)⟩
   have hdG:∀{G:Hp},Fr H2 e G->G d=some (.frz o (.dK kvs)):=λfr=>fr _ _ (s2 _ _ hd1) nde
   have lN:(rs.map (·.1)).length=rs.length:=tj ..
   have s02:Same H H2:=s1.trans s2
   have lps:ps.length=rs.length:=g.rows.1
   refine⟨_,rfl,l,_,rfl,.inl (.of (s02 _ _ g.at_)),_,rfl,?_,?_,?_⟩
   . omega
   . rw[tj,lps];omega
   refine QZ (λi σ G=>∃(v3 v4 v5 v6:Option V) (R1:Rs Str),σ=[some (.ref l),some (.ref d),some (.ref e),v3,v4,v5,v6,none,none]/\Fr H2 e G/\qS (rs.map (·.1)) G e (qC R1)/\Pt (jc rs) (rs.map (·.1)) R1 i)
     ⟨none,none,none,none,[],rfl,Fr.refl,⟨[],he2,λz=>rfl,zbs,λk h=>(nomatch h)⟩,Pt.nil⟩ ?_ ?_
   . rintro i σ G hi ⟨v3,v4,v5,v6,R0,rfl,fr0,nm0,pt0⟩
     rw[zbL]
     have hi:i < rs.length:=by
       rw[tj,lps]at hi
       simpa using hi
     refine ZU (λσ G=>∃(v5 v6:Option V) (R1:Rs Str) (more:Bool),σ=[some (.ref l),some (.ref d),some (.ref e),some (.int (i:Nat)),some (.bl more),v5,v6,none,none]/\Fr H2 e G/\qS (rs.map (·.1)) G e (qC R1)/\Pt (jc rs) (rs.map (·.1)) R1 i/\
         (more=false->∀x∈rs.map (·.1),qC R1 x=none->¬zk (jc rs) (qC R1) x i))
       (λσ G=>2*J6 (rs.map (·.1)) G e+(match σ with | [_,_,_,_,some (.bl true),_,_,_,_]=>1 | _=>0))
       ⟨v5,v6,R0,true,rfl,fr0,nm0,pt0,λz=>(nomatch z)⟩ ?_ ?_
     . rintro σ G ⟨v5,v6,R1,more,rfl,fr,nm,pt,fin⟩
       refine⟨_,rfl,more,rfl,?_⟩
       cases more with
       | false=>exact jh ⟨_,_,_,_,R1,rfl,fr,nm,pt.next (fin rfl)⟩
       | true=>
         refine j8 ⟨_,rfl,d,o,kvs,rs.map (·.1),rfl,hdG fr,ek,λW hW=>?_⟩
         refine R4 (zs:=rs.map (·.1)) (λj σ'' G1=>∃(v0:Option V) (cs:List Str),σ''=[v0,some (.ref e),some (.ref d),some (.int (i:Nat))]/\Same G G1/\G1 W=some (.lst (cs.map V.str))/\cs.length<=j/\(∀c∈cs,c∈rs.map (·.1)/\qC R1 c=none/\zk (jc rs) (qC R1) c i)/\(cs=[]->∀z∈(rs.map (·.1)).take j,qC R1 z=none->¬zk (jc rs) (qC R1) z i))
           ⟨none,[],rfl,qi hW,qd,tq _,λc h=>(nomatch h),λ_ z h=>(nomatch h)⟩ (λj σ'' G1 _ ⟨_,_,_,s,_⟩=>s _ _ (hdG fr)) ?_ ?_
         . rintro j z σ'' G1 ez ⟨v0,cs,rfl,sG,hWG,lc,hc,hn⟩
           have hz:z∈rs.map (·.1):=t7 ez
           have hj:=(tw.mp ez).1
           have more':∀{G2:Hp},Same G1 G2->(qC R1 z=none->¬zk (jc rs) (qC R1) z i)->∃(v0:Option V) (cs:List Str),[some (V.str z),some (.ref e),some (.ref d),some (.int (i:Nat))]=[v0,some (.ref e),some (.ref d),some (.int (i:Nat))]/\Same G G2/\G2 W=some (.lst (cs.map V.str))/\cs.length<=j+1/\(∀c∈cs,c∈rs.map (·.1)/\qC R1 c=none/\zk (jc rs) (qC R1) c i)/\(cs=[]->∀z∈(rs.map (·.1)).take (j+1),qC R1 z=none->¬zk (jc rs) (qC R1) z i):=λ{G2} s' no=>by
             refine⟨_,cs,rfl,sG.trans s',s' _ _ hWG,by omega,hc,λe0 y hy=>?_⟩
             rw[tS,ez]at hy
             rcases t9.mp hy with hy | hy
             . exact hn e0 y hy
             . have:y=z:=by simpa using hy
               rw[this];exact no
           refine⟨_,rfl,_,rfl,e,_,rfl,(nm.mono sG).get z,_,rfl,?_⟩
           cases cz:qC R1 z with
           | some m=>exact jh (jh (more' (λ_ _ h=>h) λh=>by rw[cz]at h;cases h))
           | none=>
             refine j8 ⟨_,rfl,_,rfl,_,rfl,_,rfl,d,e,rs,qC R1,z,i,rfl,(ldG fr).mono sG,good,hz,nm.mono sG,by omega,λG2 b s' hb=>⟨b,rfl,?_⟩⟩
             cases b with
             | false=>exact jh (more' s' λ_ gt=>absurd (hb.mpr gt) (by simp))
             | true=>
               refine j8 ⟨_,rfl,_,s' _ _ hWG,by rw[tj];exact ql (by omega),_,cs++[z],rfl,Same.upd (sG.trans s') hW,by rw[tG];exact qd,by rw[tI];exact Nat.succ_le_succ lc,λc hcc=>?_,λe0=>?_⟩
               . rcases t9.mp hcc with hcc | hcc
                 . exact hc c hcc
                 . have:c=z:=by simpa using hcc
                   rw[this]
                   exact⟨hz,cz,hb.mp rfl⟩
               . simp at e0
         . rintro σ'' G1 ⟨v0,cs,rfl,sG,hWG,lc,hc,hn⟩
           rw[tH (tq _)]at hn
           refine⟨_,rfl,by show 0<=sizeLine;decide,λl0 hl0=>?_⟩
           have s3:Same G1 (upd G1 l0 (.lst [])):=qi hl0
           refine⟨W,l0,_,rfl,rfl,.of (s3 _ _ hWG),.of qd,?_⟩
           have sA:Same G (upd G1 l0 (.lst [])):=sG.trans s3
           have hWA:=s3 _ _ hWG
           generalize upd G1 l0 (.lst [])=G2 at sA hWA
           refine⟨_,rfl,_,rfl,W,_,rfl,.of hWA,λlc' hlc=>?_⟩
           have ecut:Zz (cs.map V.str) none (some (1:Int))=(cs.take 1).map V.str:=by
             unfold Zz
             rw[HT.sIx_none,show (1:Int)=((1:Nat):Int) from rfl,HT.sIx_nat,tj]
             cases cs with
             | nil=>rfl
             | cons a t=>simp
           rw[ecut]
           have s4:Same G2 (upd G2 lc' (.lst ((cs.take 1).map V.str))):=qi hlc
           have hlc4:upd G2 lc' (.lst ((cs.take 1).map V.str)) lc'=some (.lst ((cs.take 1).map V.str)):=qd
           generalize upd G2 lc' (.lst ((cs.take 1).map V.str))=G3 at s4 hlc4
           have sB:Same G G3:=sA.trans s4
           have frB:Fr H2 e G3:=fr.same sB
           have nmB:=nm.mono sB
           obtain⟨ke,hke⟩:=nm.isd
           have nle:lc'≠e:=λz=>by rw[z,sA _ _ hke]at hlc;cases hlc
           refine⟨lc',rfl,⟨_,.of hlc4⟩,?_⟩
           have mu0:J6 (rs.map (·.1)) G e=Jg rs (qC R1):=nm.bare
           cases cs with
           | nil=>
             refine jn (K:=K) (a:=lc') (xs:=[]) (λj σ' G'=>∃v6,σ'=[some (.ref l),some (.ref d),some (.ref e),some (.int (i:Nat)),some (.bl false),some (.ref W),v6,none,none]/\Fr H2 e G'/\qS (rs.map (·.1)) G' e (qC R1)/\G' lc'=some (.lst [])) ⟨v6,rfl,frB,nmB,hlc4⟩ (λj σ' G' _ ⟨_,_,_,_,h⟩=>.of h) (λj x σ' G' hx=>(nomatch hx)) ?_
             rintro σ' G' ⟨v6',rfl,fr',nm',_⟩
             refine⟨⟨_,_,R1,false,rfl,fr',nm',pt,λ_=>hn rfl⟩,?_⟩
             show 2*J6 (rs.map (·.1)) G' e+0 < 2*J6 (rs.map (·.1)) G e+1
             rw[mu0,nm'.bare]
             omega
           | cons c cs=>
             obtain⟨hcN,hcn,hcg⟩:=hc c zab
             have pt':Pt (jc rs) (rs.map (·.1)) (R1++[(i,[c])]) i:=pt.one λx hx=>by
               have:x=c:=by simpa using hx
               subst this
               exact⟨hcN,hcn,hcg⟩
             have ltb:Jg rs (qC (R1++[(i,[c])])) < Jg rs (qC R1):=VG (λz hz=>by
               have:z=c:=by simpa using hz
               subst this
               exact⟨hcN,hcn⟩) (by simp)
             refine jn (K:=K) (a:=lc') (xs:=[V.str c]) (λj σ' G'=>∃v6,σ'=[some (.ref l),some (.ref d),some (.ref e),some (.int (i:Nat)),some (.bl true),some (.ref W),v6,none,none]/\Fr H2 e G'/\(j=0->qS (rs.map (·.1)) G' e (qC R1))/\(j=1->qS (rs.map (·.1)) G' e (qC (R1++[(i,[c])])))/\G' lc'=some (.lst [V.str c])) ⟨v6,rfl,frB,λ_=>nmB,λh=>absurd h (by decide),hlc4⟩ (λj σ' G' _ ⟨_,_,_,_,_,h⟩=>.of h) ?_ ?_
             . rintro j x σ' G' hx ⟨v6',rfl,fr',n0,n1,hl'⟩
               have j0:j=0:=by
                 have:=(tw.mp hx).1
                 simpa using this
               subst j0
               obtain rfl:V.str c=x:=tL.inj hx
               obtain⟨H4,put,nm4,o4,e4⟩:=(n0 rfl).put (n:=i) hcN hcn (by rw[lN];exact le14)
               refine⟨_,rfl,_,rfl,_,rfl,e,H4,rfl,put,_,rfl,by rw[e4];exact fr'.at_d,λh=>absurd h (by decide),λ_=>nm4.congr λy=>?_,by rw[e4,qg nle];exact hl'⟩
               by_cases ey:y=c
               . subst ey
                 rw[if_pos rfl]
                 exact(yf hcn (by simp)).symm
               . rw[if_neg ey,Jz]
                 cases qC R1 y with
                 | some m=>rfl
                 | none=>
                   show none=if y∈[c] then some i else none
                   rw[if_neg (by simp [ey])]
             . rintro σ' G' ⟨v6',rfl,fr',n0,n1,hl'⟩
               have nm':=n1 rfl
               refine⟨⟨_,_,_,true,rfl,fr',nm',pt',λh=>(nomatch h)⟩,?_⟩
               show 2*J6 (rs.map (·.1)) G' e+1 < 2*J6 (rs.map (·.1)) G e+1
               rw[mu0,nm'.bare]
               omega
     . rintro σ G Q1 Q2 kk ⟨x,ex,b,eb,q1⟩
       exact⟨x,ex,b,eb,kk _ _ q1⟩
   rintro σ G ⟨v3,v4,v5,v6,R1,rfl,fr,nm,pt⟩
   rw[tj,lps,zaJ,<-lN]at pt
   have L:zj (jc rs) (·∈rs.map (·.1)) (qC R1) (Zr R1):=pt.lab (λx hx y hy=>Zu good hx hy) λx hx ex=>MR good hx ex
   have small:∀z∈rs.map (·.1),∀x∈kn rs (qC R1) z,x < 16:=λz hz x hx=>by
     obtain⟨y,hy,ey⟩:=Vs.mp hx
     have hyN:=Zu good hz hy
     have L2:zj (JJ rs) (·∈rs.map (·.1)) (qC R1) (Zr R1):=qaZ good L
     have:=zx good L2 hyN ey
     omega
   have okF:∀z∈rs.map (·.1),Rb.okW (wF rs (qC R1) z):=λz hz=>by
     unfold wF
     cases cz:qC R1 z with
     | some n=>
       have:=zx good (qaZ good L) hz cz
       show n < 16
       omega
     | none=>exact Rb.setN_lt (m:=16) (small z hz)
   have sHG:Same H G:=λb u hb=>fr _ _ (s02 _ _ hb) (qp hb he0)
   intro D hD
   have hD0:H D=none:=QB sHG hD
   have sD:Same G (upd G D (.dK [])):=qi hD
   have hDD:upd G D (.dK []) D=some (.dK []):=qd
   generalize upd G D (.dK [])=G1 at sD hDD
   have ld1:=(ldG fr).mono sD
   have hd1':=sD _ _ (hdG fr)
   have nm1:=nm.mono sD
   have sH1:=sHG.trans sD
   refine⟨_,rfl,d,o,kvs,rs.map (·.1),rfl,hd1',ek,?_⟩
   have nDd:d≠D:=λz=>by rw[z,hDD]at hd1';cases hd1'
   obtain⟨ke,hke⟩:=nm1.isd
   have nDe:e≠D:=λz=>by
     obtain⟨k0,h0⟩:=nm.isd
     rw[z,hD]at h0;cases h0
   refine RT (zs:=rs.map (·.1)) (λi σ' G2=>∃(v6 v8:Option V),σ'=[some (.ref l),some (.ref d),some (.ref e),v3,v4,v5,v6,some (.ref D),v8]/\Fr G1 D G2/\Yf G2 D (wF rs (qC R1)) ((rs.map (·.1)).take i))
     ⟨v6,none,rfl,Fr.refl,⟨[],hDD,rfl,λz h=>(nomatch h)⟩⟩ (λi σ' G2 _ ⟨_,_,_,f,_⟩=>f _ _ hd1' nDd) ?_ ?_
   . rintro i z σ' G2 ez ⟨v6',v8,rfl,fr2,wt⟩
     have hz:z∈rs.map (·.1):=t7 ez
     have hi:=(tw.mp ez).1
     have nz:z∉(rs.map (·.1)).take i:=λm=>Jt nd ez (tE.mpr ⟨z,m,rfl⟩)
     have ld2:Nb G2 d rs:=by
       obtain⟨o',kvs',a,b,c⟩:=ld1.at_
       refine⟨o',kvs',fr2 _ _ a nDd,b,λr hr=>?_⟩
       obtain⟨t,u,v⟩:=c r hr
       exact⟨t,u,fr2 _ _ v (λq=>by rw[q,hDD]at v;cases v)⟩
     have nm2:qS (rs.map (·.1)) G2 e (qC R1):=nm1.fr fr2 nDe
     obtain⟨q0,g0,hq0⟩:=ld2.get good hz
     refine⟨_,rfl,_,rfl,d,_,rfl,g0,q0,rfl,⟨_,.of hq0⟩,λW hW=>?_⟩
     refine Kv (K:=K) hW hq0 nm2 (Xl good hz) λG3 s3 hW3=>?_
     refine⟨16,rfl,by decide,by decide,λU hU=>?_⟩
     refine Yw (n:=16) (out:=λj=>if decide (j∈kn rs (qC R1) z)=true then some (V.int ((2^j:Nat):Int)) else none) (rest:=[some (.ref W)]) hU (by decide) ?_ ?_ ?_
     . intro x hx G' s5 R kk
       refine⟨_,rfl,_,rfl,W,_,rfl,.inl (.of (s5 _ _ hW3)),rfl,Zj _,_,rfl,?_⟩
       have:=kk G' λ_ _ h=>h
       show R (Jx (.int (x:Nat)) (Jy (kn rs (qC R1) z))) G'
       rw[zG]
       by_cases c:x∈kn rs (qC R1) z
       . rw[if_pos (decide_eq_true c)]at this
         rw[decide_eq_true c]
         exact this
       . rw[if_neg (by simp [c])]at this
         rw[decide_eq_false c]
         exact this
     . intro x hx v ev G' s5 R kk
       have:v=V.int ((2^x:Nat):Int):=by
         split at ev
         . exact(tL.inj ev).symm
         . cases ev
       subst this
       refine⟨_,rfl,1,(x:Int),rfl,rfl,⟨by omega,by omega,by decide⟩,?_⟩
       have e9:(1:Int)*2^ ((x:Int).toNat)=((2^x:Nat):Int):=by
         rw[zdS,zaJ]
         exact(Int.natCast_pow 2 x).symm
       show R (.int ((1:Int)*2^ ((x:Int).toNat))) G'
       rw[e9]
       exact kk G' λ_ _ h=>h
     . intro G4 s4 hU4
       have eU:(tM 16).filterMap (λj=>if decide (j∈kn rs (qC R1) z)=true then some (V.int ((2^j:Nat):Int)) else none)=(((tM 16).filter λk=>decide (k∈kn rs (qC R1) z)).map λk=>2^k).map λn=>V.int ((n:Nat):Int):=by
         generalize tM 16=rg
         induction rg with
         | nil=>rfl
         | cons a rg ih=>
           rw[zaf,zaR]
           by_cases c:decide (a∈kn rs (qC R1) z)=true
           . rw[if_pos c,if_pos c,tQ,tQ,<-ih]
           . rw[if_neg c,if_neg c,<-ih]
       rw[eU]at hU4
       have es:=NM (small z hz)
       have lt:Rb.setN (kn rs (qC R1) z) < 2^16:=Rb.setN_lt (small z hz)
       refine⟨U,_,rfl,.of hU4,by rw[es];exact zdK lt (by decide),?_⟩
       rw[es]
       have s34:Same G2 G4:=s3.trans s4
       refine⟨by show 2<=sizeLine;decide,λt ht=>?_⟩
       have s5:Same G2 (upd G4 t (.tup [.str "endless",.int (Rb.setN (kn rs (qC R1) z):Nat)])):=s34.trans (qi ht)
       have ht5:upd G4 t (.tup [.str "endless",.int (Rb.setN (kn rs (qC R1) z):Nat)]) t=some (.tup [.str "endless",.int (Rb.setN (kn rs (qC R1) z):Nat)]):=qd
       generalize upd G4 t (.tup [.str "endless",.int (Rb.setN (kn rs (qC R1) z):Nat)])=G5 at s5 ht5
       have lz:((rs.map (·.1)).take i).length<=14:=by rw[tU,lN];omega
       have wt':Yf G5 D (λy=>if y=z then .edl (Rb.setN (kn rs (qC R1) z)) else wF rs (qC R1) y) ((rs.map (·.1)).take i):=(wt.mono s5).congr λy hy=>by show _=if y=z then _ else _;rw[if_neg (λq:y=z=>nz (by rw[<-q];exact hy))]
       obtain⟨o6,put6,wt6⟩:=wt'.new nz lz (t:=t) (by rw[if_pos rfl];exact ht5)
       refine⟨_,rfl,_,rfl,D,_,rfl,put6,?_⟩
       have fr6:Fr G1 D (upd G5 D o6):=(fr2.same s5).at_d
       have nm6:qS (rs.map (·.1)) (upd G5 D o6) e (qC R1):=nm1.fr fr6 nDe
       have etk:(rs.map (·.1)).take (i+1)=(rs.map (·.1)).take i++[z]:=by rw[tS,ez];rfl
       generalize upd G5 D o6=G6 at wt6 fr6 nm6
       have gz:=nm6.get z
       refine⟨_,rfl,_,rfl,e,_,rfl,gz,_,rfl,?_⟩
       cases cz:qC R1 z with
       | none=>
         refine jh ⟨_,_,rfl,fr6,?_⟩
         rw[etk]
         refine wt6.congr λy hy=>?_
         by_cases q:y=z
         . subst q
           rw[if_pos rfl]
           unfold wF
           rw[cz]
         . rw[if_neg q]
       | some m=>
         rw[cz]at gz
         refine j8 ⟨_,rfl,_,rfl,e,_,rfl,gz,by show 2<=sizeLine;decide,λt2 ht2=>?_⟩
         have s7:Same G6 (upd G6 t2 (.tup [.str "number",.int (m:Nat)])):=qi ht2
         have ht7:upd G6 t2 (.tup [.str "number",.int (m:Nat)]) t2=some (.tup (tW (wF rs (qC R1) z))):=by
           rw[qd]
           unfold wF
           rw[cz]
           rfl
         generalize upd G6 t2 (.tup [.str "number",.int (m:Nat)])=G7 at s7 ht7
         obtain⟨o8,put8,wt8⟩:=(wt6.mono s7).over (F:=wF rs (qC R1)) (z:=z) (by simp) (by rw[tI,zaL];omega) (λy _ q=>if_neg q) ht7
         refine⟨_,rfl,_,rfl,D,_,rfl,put8,_,_,rfl,(fr6.same s7).at_d,?_⟩
         rw[etk]
         exact wt8
   . rintro σ' G2 ⟨v6',v8,rfl,fr2,wt⟩
     rw[tH (tq _)]at wt
     exact⟨_,rfl,q G2 D _ (λb u hb=>fr2 _ _ (sH1 _ _ hb) (qp hb hD0)) hD0 wt (λR all z hz=>qab good L all hz) okF⟩
end
open PySem L2 PyProof.Rows MLab Rb
abbrev YI:Stmt:=top 70
abbrev sLO:Stmt:=top 71
theorem wN:decide (V.str (Str.ofString "endless")=V.str (Str.ofString "number"))=false:=by decide+kernel
theorem wE:decide (V.str (Str.ofString "number")=V.str (Str.ofString "endless"))=false:=by decide+kernel
theorem yw {K:PySem.W.Frag} {H:Hp}:∀ns:List Nat,DVs K H (Jy ns) (ns.map λn=>PyData.int (n:Nat))
 | []=>.nil
 | n::ns=>.cons (.int _) (yw ns)
theorem yk:∀ns:List Nat,PyData.canLayAll0 (ns.map λn=>PyData.int (n:Nat))=true
 | []=>rfl
 | n::ns=>by
   rw[tQ,PyData.canLayAll0,yk ns]
   rfl
theorem WB:∀ns:List Nat,PyData.depthAll (ns.map λn=>PyData.int (n:Nat))<=1
 | []=>by decide
 | n::ns=>by
   rw[tQ]
   have:=WB ns
   simp only[PyData.depthAll,PyData.depth]
   omega
theorem K2 (ns:List Nat):PySem.SeqAt.shaped (.list (ns.map λn=>PyData.int (n:Nat)))=true:=by
 unfold PySem.SeqAt.shaped
 rw[zas]
 refine⟨yk ns,decide_eq_true ?_⟩
 have:=WB ns
 simp only[PyData.depth]
 omega
theorem RW (ns:List Nat):PyData.eqv (.list (ns.map λn=>PyData.int (n:Nat))) (.list [])=decide (ns=[]):=by
 cases ns with
 | nil=>decide
 | cons n ns=>
   rw[tQ,decide_eq_false (by simp)]
   simp [PyData.eqv,PyData.eqvAll]
theorem wB (ws:List W):(j1 ws).length<=ws.length:=zaw _ _
theorem K3 {ws:List W} (h:∀u∈ws,okW u):∀b∈j1 ws,b < 65536:=by
 intro x hx
 obtain⟨u,hu,e⟩:=zaB.mp hx
 cases u with
 | num n=>cases e
 | edl b=>cases e;exact h _ hu
theorem VU (u:Rb.W):tW u=[.str (Qk u),.int (zo u:Nat)]:=by cases u<;>rfl
def Tl (H:Hp) (ps:List Addr) (ws:List Rb.W):Prop:=ps.length=ws.length/\∀(i:Nat) (p:Addr) (u:Rb.W),ps[i]?=some p->ws[i]?=some u->H p=some (.tup (tW u))
theorem Tl.tk {H H':Hp} {ps:List Addr} {ws:List Rb.W} (h:Tl H ps ws) (k:TK H H'):Tl H' ps ws:=⟨h.1,λi p u e1 e2=>k _ _ (h.2 i p u e1 e2)⟩
theorem Tl.snoc {H:Hp} {ps:List Addr} {ws:List Rb.W} {p:Addr} {u:Rb.W} (h:Tl H ps ws) (hp:H p=some (.tup (tW u))):Tl H (ps++[p]) (ws++[u]):=by
 refine⟨by rw[tI,tI,h.1];rfl,λi p' b' e1 e2=>?_⟩
 rcases QS e1 with ⟨i1,e1⟩ | ⟨i1,rfl⟩
 . rcases QS e2 with ⟨_,e2⟩ | ⟨i2,_⟩
   . exact h.2 i p' b' e1 e2
   . have:=h.1;omega
 . rcases QS e2 with ⟨i2,_⟩ | ⟨_,rfl⟩
   . have:=h.1;omega
   . exact hp
theorem MI (p:Nat->Bool) (l:List Nat):l.filterMap (λj=>if p j=true then some (V.int ((2^j:Nat):Int)) else none)=((l.filter p).map λk=>2^k).map λn=>V.int ((n:Nat):Int):=by
 induction l with
 | nil=>rfl
 | cons a l ih=>
   rw[zaf,zaR]
   by_cases c:p a=true
   . rw[if_pos c,if_pos c,tQ,tQ,<-ih]
   . rw[if_neg c,if_neg c,<-ih]
theorem wb {b n:Nat} (hn:n < 16):(((tM 16).filter λk=>b.testBit (k^^^n)).map λk=>2^k).sum=turnN b n 16:=by
 have e:(tM 16).filter (λk=>b.testBit (k^^^n))=(tM 16).filter λk=>decide (k∈(tM 16).filter λk=>b.testBit (k^^^n)):=zbT λk hk=>by
   rw[zaQ,decide_eq_true_iff,zae]
   exact⟨λh=>⟨hk,h⟩,λh=>h.2⟩
 rw[e,WW,<-e]
 refine zcB λk=>?_
 rw[testBit_setN,Qq hn,zaQ,decide_eq_true_iff,zas,decide_eq_true_iff,zae,zap]
def Nl:Sp:=λvs H Q _=>∃(l:Addr) (ps:List Addr) (ws:List Rb.W),vs=[.ref l]/\H l=some (.lst (ps.map V.ref))/\Tl H ps ws/\(∀u∈ws,okW u)/\ws.length<=8/\∀H' p,Same H H'->H' p=some (.tup (tW (jP ws)))->Q (.ref p) H'
def qan:Sp:=λvs H Q _=>∃(t:Addr) (u:Rb.W),vs=[.ref t]/\H t=some (.tup (tW u))/\∀H',Same H H'->Q (.str (XU u)) H'
section
variable {P:Program} {w:World} {K:PySem.W.Frag} {mg:Str->Option Value} {base:Heap}
theorem Zp:qr ["_law_worths_here","_law_number","_law_word","_law_one","_law_sets"] ["_law_worths_here"] (qk YI):=⟨rfl,rfl,rfl,by decide+kernel,rfl,by decide+kernel,by decide+kernel⟩
theorem um {f:Addr} {fd:FuncData} (F:jQ K "_law_total" "_law_total" YI f fd) (B:Qy mg) (T:Qn K mg):qo P w K mg base qN 1 f fd ["_law_worths_here"] Nl:=by
 refine F.okJ Zp (λvs H Q E h=>?_) (λcdv A outer s H vs Q E hr h=>?_)
 . obtain⟨l,ps,ws,rfl,_⟩:=h
   rfl
 . obtain⟨l,ps,ws,rfl,hL,hTl,hok,hlen,q⟩:=h
   refine⟨_,qf (qv (i:=1) Zp.nd rfl (Or.inr rfl) qj)
     (qf (jg PassesOwn.never rfl (qG (jv 0)) (ZN rfl (jz (qu (i:=2) Zp.nd rfl (Or.inl rfl)) (jz (qu (i:=3) Zp.nd rfl (Or.inl rfl)) JX)))
       (qh (qM (qt j5 (jv 2) qD (qx _)) (qh (qv (i:=1) Zp.nd rfl (Or.inr rfl) (qJ Vi (jv 1) (jv 3)))) qA)))
     (qf (qv (i:=4) Zp.nd rfl (Or.inr rfl) (jM (N':=["_law_word","_law_one"]) (ix:=[none,none]) (g:=RQ K 2 (Xw (Ql 0) (Xw (Ql 1) RS))) rfl ⟨rfl,rfl,rfl,rfl,rfl⟩ (qG (jv 0))
         (λC s2 H2 fp pins=>⟨ZN rfl (jz (qu (i:=0) (show (["_law_word","_law_one"]:List Str).Nodup by decide+kernel) rfl (Or.inl rfl)) (jz (qu (i:=1) (show (["_law_word","_law_one"]:List Str).Nodup by decide+kernel) rfl (Or.inl rfl)) JX)),
           jH (qt j5 (jv 0) qD (qx _)),jv 1⟩)))
     (qf (qM (qt (N8 hr.units) (jv 4) (jE qe) (qx _)) (qh (qw (qW (qb qD (qb (jv 1) qe))))) qA)
     (qf (qM (qt Zf (qB qF (by rfl) B.len boot_len (qb (jv 4) qe)) qj (qx _)) (qh (qw (qW (qb qD (qb qj qe))))) qA)
     (qh (qw (qW (qb qD (qb (qB (zJ rfl) (by rfl) T.sum boot_sum (qb (jM (N':=["_law_k","_law_sets","_law_number"]) (ix:=[none,some 4,some 1])
         (tt:=YB (zm rEq (zm (yV λi j=>.int (Builtin.bitAnd i j)) (zm (rI (λ_ j=>0<=j) λi j=>.int (i / 2^j.toNat)) (zm (yU K) (qO 1) (tC (.int 0))) (zm (yV λi j=>.int (Builtin.bitXor i j)) (qO 0) (qO 2))) (tC (.int 1))) (tC (.int 1)))) (te:=zm (rI Nf λi j=>.int (i*2^j.toNat)) (tC (.int 1)) (qO 0)) rfl ⟨rfl,rfl,rfl,rfl,rfl⟩ (jd (by rfl) B.rng (qb qj qe)) (λC s2 H2 fp pins=>
         ⟨qu (i:=0) (show (["_law_k","_law_sets","_law_number"]:List Str).Nodup by decide+kernel) rfl (Or.inl rfl),jH (qt j5 (qJ uj (qJ ue (qX jI (jv 1) qj (λ_ _=>rfl)) (qJ Vi (jv 0) (jv 2))) qj) qj (qx _)),qJ U7 qj (jv 0)⟩)) qe)) qe))))))))),?_⟩
   have item:∀{i:Nat} {x:V},(ps.map V.ref)[i]?=some x->∃(p:Addr) (u:Rb.W),x=.ref p/\ws[i]?=some u/\H p=some (.tup [.str (Qk u),.int (zo u:Nat)]):=λ{i x} hx=>by
     rw[tN]at hx
     cases ep:ps[i]? with
     | none=>rw[ep]at hx;cases hx
     | some p=>
       rw[ep]at hx
       have hi:i < ws.length:=by
         have:=(tw.mp ep).1
         rw[hTl.1]at this
         exact this
       have ew:ws[i]?=some ws[i]:=tF hi
       exact⟨p,_,(tL.inj hx).symm,ew,by rw[<-VU];exact hTl.2 i p _ ep ew⟩
   have tk:∀{i:Nat} {u:Rb.W},ws[i]?=some u->ws.take (i+1)=ws.take i++[u]:=λ{i u} e=>by rw[tS,e];rfl
   refine⟨_,rfl,l,rfl,⟨_,.of hL⟩,?_⟩
   refine jn (K:=K) (a:=l) (xs:=ps.map V.ref) (λi σ H'=>∃v2 v3,σ=[some (.ref l),some (.int (jD (QA (ws.take i)):Nat)),v2,v3,none]/\H'=H) ⟨none,none,rfl,rfl⟩ (λi σ H' _ ⟨_,_,_,e⟩=>e▸.of hL) ?_ ?_
   . rintro i x σ H' hx ⟨v2,v3,rfl,rfl⟩
     obtain⟨p,u,rfl,ew,hT⟩:=item hx
     refine⟨p,_,rfl,.of hT,rfl,_,_,rfl,_,_,rfl,rfl,_,rfl,rfl,_,rfl,?_⟩
     rw[tk ew,Wn]
     cases u with
     | num n=>
       have e:decide (V.str (Qk (.num n))=V.str (Str.ofString "number"))=true:=decide_eq_true rfl
       rw[e]
       refine j8 ⟨_,rfl,_,rfl,_,_,rfl,rfl,some (.str (Qk (.num n))),some (.int (zo (.num n):Nat)),?_,rfl⟩
       show _=[_,some (V.int ((jD (QA (ws.take i)++[n]):Nat):Int)),_,_,_]
       rw[zQ,<-bx]
       rfl
     | edl b=>
       have e:decide (V.str (Qk (.edl b))=V.str (Str.ofString "number"))=false:=wN
       rw[e]
       refine jh ⟨some (.str (Qk (.edl b))),some (.int (zo (.edl b):Nat)),?_,rfl⟩
       show _=[_,some (V.int ((jD (QA (ws.take i)++[]):Nat):Int)),_,_,_]
       rw[zaH]
       rfl
   . rintro σ H' ⟨v2,v3,rfl,rfl⟩
     rw[tj,hTl.1,tH (tq _)]
     refine⟨_,rfl,l,rfl,⟨_,.of hL⟩,λD hD=>?_⟩
     refine jN (K:=K) (a:=l) (xs:=ps.map V.ref) (λi σ' G=>∃v0 v1,σ'=[v0,v1]/\G=upd H' D (.lst (Jy (j1 (ws.take i))))) ⟨none,none,rfl,rfl⟩ (λi σ' G _ ⟨_,_,_,e⟩=>e▸.of (qm hL hD)) ?_ ?_
     . rintro i x σ' G hx ⟨v0,v1,rfl,rfl⟩
       obtain⟨p,u,rfl,ew,hT⟩:=item hx
       refine⟨p,_,rfl,.of (qm hT hD),rfl,_,_,rfl,_,_,rfl,rfl,_,rfl,rfl,_,rfl,?_⟩
       rw[tk ew,Wf]
       have l1:(Jy (j1 (ws.take i))).length < sizeLine:=by
         rw[JY]
         refine ql (zaa (wB _) ?_)
         rw[tU]
         omega
       cases u with
       | num n=>
         have e:decide (V.str (Qk (.num n))=V.str (Str.ofString "endless"))=false:=wE
         rw[e]
         refine jh ⟨_,_,rfl,?_⟩
         rw[zaH]
       | edl b=>
         have e:decide (V.str (Qk (.edl b))=V.str (Str.ofString "endless"))=true:=decide_eq_true rfl
         rw[e]
         refine j8 ⟨_,rfl,_,qd,l1,_,_,rfl,?_⟩
         rw[jo,<-Xt]
         rfl
     . rintro σ' G ⟨v0,v1,rfl,rfl⟩
       rw[tj,hTl.1,tH (tq _)]
       have s1:Same H' (upd H' D (.lst (Jy (j1 ws)))):=qi hD
       have c1:upd H' D (.lst (Jy (j1 ws))) D=some (.lst (Jy (j1 ws))):=qd
       generalize upd H' D (.lst (Jy (j1 ws)))=G at s1 c1 ⊢
       have hlt:=K3 hok
       have hx16:=Zo (Vk hok)
       refine⟨_,rfl,by show 0<=sizeLine;decide,λpe hpe=>?_⟩
       have s2:Same G (upd G pe (.lst [])):=qi hpe
       refine⟨.list ((j1 ws).map λn=>PyData.int (n:Nat)),.list [],.lst (.of (s2 _ _ c1)) (yw _),.lst (.of qd) .nil,K2 _,by decide,_,rfl,?_⟩
       rw[RW]
       have c2:=s2 _ _ c1
       have s3:=s1.trans s2
       generalize upd G pe (.lst [])=G2 at s3 c2 ⊢
       have fin:∀(p:Addr) (G9:Hp) (u:Rb.W),Same H' G9->G9 p=none->jP ws=u->Q (.ref p) (upd G9 p (.tup [.str (Qk u),.int (zo u:Nat)])):=λp G9 u s9 hp eu=>
         q _ _ (s9.trans (qi hp)) (by rw[eu,VU];exact qd)
       cases hs:j1 ws with
       | nil=>
         rw[decide_eq_true rfl]
         have et:jP ws=.num (jD (QA ws)):=by unfold jP;rw[hs]
         refine j8 ⟨_,rfl,by show 2<=sizeLine;decide,λp hp=>fin p _ _ s3 hp et⟩
       | cons b r=>
         rw[hs]at c2 hlt
         rw[decide_eq_false (by simp)]
         refine jh ⟨_,rfl,D,_,rfl,.inl (.of c2),_,_,rfl,rfl,_,rfl,?_⟩
         cases r with
         | nil=>
           have et:jP ws=.edl (turnN b (jD (QA ws)) 16):=by unfold jP;rw[hs]
           refine jh ⟨16,rfl,by decide,by decide,λU hU=>?_⟩
           generalize jD (QA ws)=n at hx16 et ⊢
           refine Yw (n:=16) (out:=λj=>if (λk=>b.testBit (k^^^n)) j=true then some (V.int ((2^j:Nat):Int)) else none) (rest:=[some (.ref D),some (.int (n:Nat))]) hU (by decide) ?_ ?_ ?_
           . intro x hx G' s5 R kk
             refine⟨_,rfl,D,_,0,_,rfl,rfl,.of (s5 _ _ c2),rfl,_,rfl,_,rfl,_,_,rfl,rfl,_,_,rfl,rfl,?_,_,_,rfl,rfl,rfl,_,rfl,?_⟩
             . rw[bx];omega
             . have:=kk G' λ_ _ h=>h
               have e7:Builtin.bitAnd ((b:Int) / 2^ (Builtin.bitXor (x:Int) (n:Int)).toNat) 1=(((b.testBit (x^^^n)).toNat:Nat):Int):=by rw[bx,ku]
               show R (decide (V.int (Builtin.bitAnd ((b:Int) / 2^ (Builtin.bitXor (x:Int) (n:Int)).toNat) 1)=V.int 1)) G'
               rw[e7]
               cases c:b.testBit (x^^^n) with
               | true=>rw[if_pos c]at this;exact this
               | false=>rw[if_neg (by simp [c])]at this;exact this
           . intro x hx v ev G' s5 R kk
             have:v=V.int ((2^x:Nat):Int):=by
               split at ev
               . exact(tL.inj ev).symm
               . cases ev
             subst this
             refine⟨_,rfl,1,(x:Int),rfl,rfl,⟨by omega,by omega,by decide⟩,?_⟩
             have e9:(1:Int)*2^ ((x:Int).toNat)=((2^x:Nat):Int):=by
               rw[zdS,zaJ]
               exact(Int.natCast_pow 2 x).symm
             show R (.int ((1:Int)*2^ ((x:Int).toNat))) G'
             rw[e9]
             exact kk G' λ_ _ h=>h
           . intro G4 s4 hU4
             rw[MI (λk=>b.testBit (k^^^n))]at hU4
             have es:=wb (b:=b) hx16
             have lt:turnN b n 16 < 65536:=WT (k:=4) (tq _) hx16
             refine⟨U,_,rfl,.of hU4,by rw[es];omega,?_⟩
             rw[es]
             exact⟨by show 2<=sizeLine;decide,λp hp=>fin p _ _ (s3.trans s4) hp et⟩
         | cons b2 r=>
           have et:jP ws=.edl 0:=by unfold jP;rw[hs]
           have e:decide ((1:Int) < ((Jy (b::b2::r)).length:Int))=true:=decide_eq_true (by rw[JY];simp only[zao];omega)
           rw[e]
           refine j8 ⟨by show 2<=sizeLine;decide,λp hp=>fin p _ _ s3 hp et⟩
theorem qbI:qr ["_law_worth"] ["_law_worth"] (qk sLO):=⟨rfl,rfl,rfl,by decide+kernel,rfl,by decide+kernel,by decide+kernel⟩
theorem qaO {f:Addr} {fd:FuncData} (F:jQ K "_law_outcome" "_law_outcome" sLO f fd) (B:Qy mg):qo P w K mg base qN 1 f fd ["_law_worth"] qan:=by
 refine F.okJ qbI (λvs H Q E h=>?_) (λcdv A outer s H vs Q E hr h=>?_)
 . obtain⟨t,u,rfl,_⟩:=h
   rfl
 . obtain⟨t,u,rfl,ht,q⟩:=h
   refine⟨_,qf (qM (qt j5 (qX jF (jv 0) qj (λ_ _=>rfl)) qD (qx _))
       (qh (qw (qX jI (jE (qb qD (qb qD qe))) (jr WD (by rfl) B.int boot_int (qb (Qa Zf (qX jF (jv 0) qj (λ_ _=>rfl)) qj (qx _)) qe)) (λ_ _=>rfl)))) qA)
     (qh (qw (qX jI (jE (qb qD (qb qD qe))) (qJ Ji (qX jF (jv 0) qj (λ_ _=>rfl)) qj) (λ_ _=>rfl)))),?_⟩
   cases u with
   | num n=>
     refine⟨_,rfl,t,_,0,_,rfl,rfl,.of ht,rfl,rfl,_,rfl,Qb (by decide+kernel) ?_⟩
     refine⟨by show 2<=sizeLine;decide,λl hl=>⟨_,rfl,t,_,1,_,rfl,rfl,.of (qm ht hl),rfl,_,_,rfl,rfl,.inr ⟨_,rfl,?_⟩⟩⟩
     have q:=q _ (qi (o:=HO.lst [.str "lost",.str "won"]) hl)
     have q:Q (.str (if n=0 then "lost" else "won")) (upd H l (.lst [.str "lost",.str "won"])):=q
     by_cases c:n=0
     . rw[if_pos c]at q
       subst c
       exact⟨l,_,_,_,rfl,rfl,.of qd,rfl,q⟩
     . rw[if_neg c]at q
       rw[decide_eq_true (show (0:Int) < ((n:Nat):Int) by omega)]
       exact⟨l,_,_,_,rfl,rfl,.of qd,rfl,q⟩
   | edl b=>
     refine⟨_,rfl,t,_,0,_,rfl,rfl,.of ht,rfl,rfl,_,rfl,jJ (by decide+kernel) ?_⟩
     refine⟨by show 2<=sizeLine;decide,λl hl=>⟨_,rfl,t,_,1,_,rfl,rfl,.of (qm ht hl),rfl,_,_,rfl,rfl,show (0:Int) < 2 by decide,?_⟩⟩
     have q:=q _ (qi (o:=HO.lst [.str "drawn",.str "won"]) hl)
     have q:Q (.str (if b.testBit 0=true then "won" else "drawn")) (upd H l (.lst [.str "drawn",.str "won"])):=q
     have eb:b.testBit 0=decide (b % 2=1):=zcv b
     rw[eb]at q
     rcases zcO b with c | c
     . have e:(((b:Nat):Int) % 2)=0:=by omega
       rw[if_neg (by rw[c];decide)]at q
       refine⟨l,_,_,_,rfl,rfl,.of qd,?_,q⟩
       show UM _ (((b:Nat):Int) % 2)=_
       rw[e]
       rfl
     . have e:(((b:Nat):Int) % 2)=1:=by omega
       rw[if_pos (by rw[c];decide)]at q
       refine⟨l,_,_,_,rfl,rfl,.of qd,?_,q⟩
       show UM _ (((b:Nat):Int) % 2)=_
       rw[e]
       rfl
end
open PySem L2 PyProof.Rows MLab
abbrev Jp:Stmt:=jK (top 4) 0
structure xU (K:PySem.W.Frag) (mg:Str->Option Value) (D:Addr) (x qual:Str) (st:Stmt) (fld:Str) (C f:Addr) (fd:FuncData):Prop where
 cls:VJ K C (.ref D::jS)
 mkr:EMk K C f (.ref D::jS)
 ns:mg x=some (.ref C)
 na:jX K C fld
 fn:jQ K "__init__" qual st f fd
 bi:jO K fd ["self",fld] []
theorem N4 (D:Addr):U5 (.ref D::jS):=rfl
theorem xm (D:Addr):(Value.ref D::jS).contains (.type "BaseException")=true:=rfl
theorem xU.rcls {K:PySem.W.Frag} {mg:Str->Option Value} {D C f:Addr} {x qual fld:Str} {st:Stmt} {fd:FuncData} (h:xU K mg D x qual st fld C f fd):xS K C:=⟨f,_,h.mkr,xm D⟩
def M6 (C:Addr) (fld:Str):Sp:=λvs H Q _=>∃e y,vs=[.ref e,y]/\H e=some (zI e C)/\∀dx,H dx=none->Q .non (upd (upd H e (JB e C dx)) dx (.xd [(fld,y)]))
theorem Jb {H:Hp} {e dx C:Addr} {fs:List (Str×V)} (h1:H e=none) (h2:upd H e (zI e C) dx=none):
   Same H (upd (upd (upd H e (zI e C)) e (JB e C dx)) dx (.xd fs))/\upd (upd (upd H e (zI e C)) e (JB e C dx)) dx (.xd fs) e=some (JB e C dx)/\upd (upd (upd H e (zI e C)) e (JB e C dx)) dx (.xd fs) dx=some (.xd fs):=by
 have ne:e≠dx:=λz=>by rw[<-z,qd]at h2;cases h2
 refine⟨λb o hb=>?_,?_,qd⟩
 . have b1:b≠e:=qp hb h1
   have b2:b≠dx:=λz=>by rw[<-z,qg b1,hb]at h2;cases h2
   rw[qg b2,qg b1,qg b1];exact hb
 . rw[qg ne];exact qd
theorem TyOf.mono {K:PySem.W.Frag} {H H':Hp} {v:V} {t:Value} (h:TyOf K H v t) (s:Same H H'):TyOf K H' v t:=by
 cases h with
 | non=>exact .non
 | bl x=>exact .bl x
 | int i=>exact .int i
 | str x=>exact .str x
 | flt x=>exact .flt x
 | lst e=>exact .lst (s _ _ e)
 | frz e=>exact .frz (s _ _ e)
 | tup e=>exact .tup (s _ _ e)
 | dK e=>exact .dK (s _ _ e)
 | dT e=>exact .dT (s _ _ e)
 | ins e a b c d f=>exact .ins (s _ _ e) a b c d f
def QW (H H':Hp):Prop:=∀b o,H b=some o->(∀φ,o≠.ext φ)->H' b=some o
theorem _root_.L2.Same.keep {H H':Hp} (s:Same H H'):QW H H':=λb o h _=>s b o h
theorem QW.trans {H H' H'':Hp} (a:QW H H') (b:QW H' H''):QW H H'':=λc o h n=>b c o (a c o h n) n
theorem QW.refl (H:Hp):QW H H:=λ_ _ h _=>h
theorem _root_.L2.SqT.keep {K:PySem.W.Frag} {H H':Hp} {p:Addr} {xs:List V} (h:SqT K H p xs) (s:QW H H'):SqT K H' p xs:=by
 rcases h with (h | ⟨o,h⟩) | h
 . exact .inl (.inl (s _ _ h (λ_ z=>nomatch z)))
 . exact .inl (.inr ⟨o,s _ _ h (λ_ z=>nomatch z)⟩)
 . exact .inr h
theorem _root_.L2.SqL.keep {K:PySem.W.Frag} {H H':Hp} {p:Addr} {xs:List V} (h:SqL K H p xs) (s:QW H H'):SqL K H' p xs:=by
 rcases h with (h | ⟨o,h⟩) | h
 . exact .inl (.inl (s _ _ h (λ_ z=>nomatch z)))
 . exact .inl (.inr ⟨o,s _ _ h (λ_ z=>nomatch z)⟩)
 . exact .inr h
theorem jZ.keep {CG:Addr} {H H':Hp} {a:Addr} {rs:jf} (h:jZ CG H a rs) (s:QW H H'):jZ CG H' a rs:=by
 obtain⟨dx,lo,rd,kvs,h1,h2,h3,h4⟩:=h
 exact⟨dx,lo,rd,kvs,s _ _ h1 (λ_ z=>nomatch z),s _ _ h2 (λ_ z=>nomatch z),s _ _ h3 (λ_ z=>nomatch z),λr hr=>let ⟨q,a,b⟩:=h4 r hr;⟨q,a,s _ _ b (λ_ z=>nomatch z)⟩⟩
theorem qQ.keep {H H':Hp} {ps:List Addr} {rs:jf} (h:qQ H ps rs) (s:QW H H'):qQ H' ps rs:=⟨h.1,λi p r e1 e2=>let ⟨q,a,b⟩:=h.2 i p r e1 e2;⟨q,s _ _ a (λ_ z=>nomatch z),s _ _ b (λ_ z=>nomatch z)⟩⟩
theorem TyOf.keep {K:PySem.W.Frag} {H H':Hp} {v:V} {t:Value} (h:TyOf K H v t) (s:QW H H'):TyOf K H' v t:=by
 cases h with
 | non=>exact .non
 | bl x=>exact .bl x
 | int i=>exact .int i
 | str x=>exact .str x
 | flt x=>exact .flt x
 | lst e=>exact .lst (s _ _ e (λ_ z=>nomatch z))
 | frz e=>exact .frz (s _ _ e (λ_ z=>nomatch z))
 | tup e=>exact .tup (s _ _ e (λ_ z=>nomatch z))
 | dK e=>exact .dK (s _ _ e (λ_ z=>nomatch z))
 | dT e=>exact .dT (s _ _ e (λ_ z=>nomatch z))
 | ins e a b c d f=>exact .ins (s _ _ e (λ_ z=>nomatch z)) a b c d f
mutual
theorem Yv {K:PySem.W.Frag} {H H':Hp} (s:QW H H'):∀{x:V} {d:PyData},DV K H x d->DV K H' x d
 | _,_,.non=>.non
 | _,_,.bl b=>.bl b
 | _,_,.int i=>.int i
 | _,_,.str x=>.str x
 | _,_,.lst h hs=>.lst (h.keep s) (dvs_keep s hs)
 | _,_,.tup h hs=>.tup (h.keep s) (dvs_keep s hs)
theorem dvs_keep {K:PySem.W.Frag} {H H':Hp} (s:QW H H'):∀{x:List V} {d:List PyData},DVs K H x d->DVs K H' x d
 | _,_,.nil=>.nil
 | _,_,.cons h hs=>.cons (Yv s h) (dvs_keep s hs)
end
section
variable {P:Program} {w:World} {K:PySem.W.Frag} {mg:Str->Option Value} {base:Heap}
theorem yN:qr ["self","found"] ["self","found"] (qk Jp):=⟨rfl,rfl,rfl,by decide+kernel,rfl,by decide+kernel,by decide+kernel⟩
theorem xc {D C f:Addr} {fd:FuncData} (x:xU K mg D "NoPlace" "NoPlace.__init__" Jp "found" C f fd):qo P w K mg base qN 1 f fd ["self","found"] (M6 C "found"):=by
 refine x.fn.okJ yN (λvs H Q E h=>?_) (λcdv A outer s H vs Q E hr h=>?_)
 . obtain⟨e,y,rfl,_⟩:=h
   rfl
 . obtain⟨e,y,rfl,hH,k⟩:=h
   exact⟨_,qh (vi (bm:=.ref D::jS) (jv 0) (jv 1) rfl),_,rfl,_,rfl,e,C,rfl,hH,x.cls,N4 D,x.na,λdx hdx=>k dx hdx⟩
def ZQ (K:PySem.W.Frag) (H:Hp) (N:List Str) (v:V):Prop:=(∃d,DV K H v d/\d.canLay0=true/\d.depth<=40/\∀z∈N,PyData.eqv (.str z) d=false)\/∃a kvs,v=.ref a/\H a=some (.dK kvs)
theorem ZQ.keep {H H':Hp} {N:List Str} {v:V} (h:ZQ K H N v) (s:QW H H'):ZQ K H' N v:=by
 rcases h with ⟨d,a,b⟩ | ⟨a,kvs,e,h⟩
 . exact .inl ⟨d,Yv s a,b⟩
 . exact .inr ⟨a,kvs,e,s _ _ h λ_ z=>nomatch z⟩
theorem Ww {X:Cx} {x:Str} {st:Stmt} {ps:List Str} {f:Addr} {fd:FuncData} {k:Nat} {sp:Sp} {E:XK} {e:Expr} {es:List Expr} {t:TA} {p pos:Pos} (h:jm X.K X.mg x st ps f fd) (G:qo X.prog X.w X.K X.mg X.base (Q9 X.prog X.w) k f fd ps sp) (hr:qR k X.A) (hx:Qi (Q9 X.prog X.w) X E)
   (hg:Gl X x) (ha:JA X (e::es) t) (hdb:(x==("__debug__":Str))=false:=by decide) (he:starEach (e::es) X.env=(false,eval e X.env)::starEach es X.env:=by rfl) (hpl:(backTo pos (starEach es X.env)).any (·.1)=false:=by rfl):
   JE X (.Call (.Name x p) (e::es) [] pos) (ZC sp [] E t):=.of (kN G hr hg h.ns h.fn.kp h.bi .nil hx ha.to hdb he hpl)
def W2 (K:PySem.W.Frag) (CG CP:Addr):Sp:=λvs H Q E=>∃(a:Addr) (rs:jf) (v:V),vs=[.ref a,v]/\jZ CG H a rs/\qy rs/\ZQ K H (rs.map (·.1)) v/\∀H1 dx,Same H H1->H1 dx=some (.xd [(Str.ofString "found",v)])->E (.ref CP) (some dx) H1
theorem y8 {f CG D CP fP:Addr} {fd fdP:FuncData} (F:jQ K "need_place" "need_place" ZJ f fd) (G:Qd mg) (M:GM K mg CG) (xP:xU K mg D "NoPlace" "NoPlace.__init__" Jp "found" CP fP fdP):qo P w K mg base (Q9 P w) 3 f fd uN (W2 K CG CP):=by
 obtain⟨fC,fdC,C⟩:=M.cls
 obtain⟨fN,fdN,hN⟩:=M.nm
 have GN:qo P w K mg base qN 1 fN fdN ["self"] (Za CG):=Zt hN.fn C G
 have GP:qo P w K mg base qN 1 fP fdP ["self","found"] (M6 CP "found"):=xc xP
 refine F.okX qaq (λvs H Q E h=>?_) (λcdv A outer s H vs Q E hr h=>?_)
 . obtain⟨g,rs,v,rfl,_⟩:=h
   rfl
 . obtain⟨g,rs,v,rfl,gr,good,hn,q⟩:=h
   refine⟨_,qh (qM (qt (Wi hr.units) (jv 1) (k9 hN C.cl GN (hr.mono (by decide)) (jv 0)) (by with_unfolding_all rfl))
     (qh (Xp rfl Zs (Xr xP.mkr GP hr (by rfl) xP.ns xP.bi Qz (qb (jv 1) qe)))) qA),?_⟩
   obtain⟨dx,fs,hg,l1,l2⟩:=gr.ins
   refine⟨_,rfl,_,rfl,g,dx,fs,rfl,hg,l1,g,rs,rfl,gr,λl hl=>?_⟩
   have s1:Same H (upd H l (.lst ((rs.map (·.1)).map V.str))):=qi hl
   have hl1:upd H l (.lst ((rs.map (·.1)).map V.str)) l=some (.lst ((rs.map (·.1)).map V.str)):=qd
   generalize upd H l (.lst ((rs.map (·.1)).map V.str))=H1 at s1 hl1
   rcases hn.keep s1.keep with ⟨d,dv,cl,dp,no⟩ | ⟨a,kvs,rfl,ha⟩
   . have e0:((rs.map (·.1)).map PyData.str).any (λz=>PyData.eqv z d)=false:=by
       rw[zcW]
       intro x hx
       obtain⟨z,hz,rfl⟩:=tE.mp hx
       rw[no z hz]
       exact tK
     refine .inl ⟨d,_,dv,vK hl1,cl,RZ (λz hz=>by obtain⟨r,hr',rfl⟩:=tE.mp hz;exact good.nm r hr'),dp,?_⟩
     show ∃k,V.bl (!_)=V.bl k/\_
     rw[e0]
     refine⟨_,rfl,j8 ⟨_,rfl,by show 1<=sizeLine;decide,λe he=>⟨e,v,rfl,qd,λdx hdx=>⟨rfl,e,CP,dx,rfl,?_,xP.rcls,?_⟩⟩⟩⟩
     . exact(Jb he hdx).2.1
     . obtain⟨m1,m2,m3⟩:=Jb (fs:=[(Str.ofString "found",v)]) he hdx
       exact q _ dx (s1.trans m1) m3
   . refine .inr ⟨a,l,kvs,rs.map (·.1),rfl,rfl,ha,.of hl1,_,rfl,j8 ⟨_,rfl,by show 1<=sizeLine;decide,λe he=>⟨e,.ref a,rfl,qd,λdx hdx=>⟨rfl,e,CP,dx,rfl,?_,xP.rcls,?_⟩⟩⟩⟩
     . exact(Jb he hdx).2.1
     . obtain⟨m1,m2,m3⟩:=Jb (fs:=[(Str.ofString "found",V.ref a)]) he hdx
       exact q _ dx (s1.trans m1) m3
end
end Rh
namespace L2
theorem qo.or {P:PySem.Program} {w:PySem.World} {K:PySem.W.Frag} {mg:PySem.Str->Option PySem.Value} {base:PySem.Heap} {CX:WP} {k:Nat} {f:PySem.Addr} {fd:PySem.FuncData} {ps:List PySem.Str} {sp sp':Sp} (a:qo P w K mg base CX k f fd ps sp) (b:qo P w K mg base CX k f fd ps sp'):qo P w K mg base CX k f fd ps (λvs H Q E=>sp vs H Q E\/sp' vs H Q E):=
 ⟨λvs H Q E h=>h.elim (a.len vs H Q E) (b.len vs H Q E),λA outer s H args us vs Q E hr he hb hv hs=>hs.elim (a.run A outer s H args us vs Q E hr he hb hv) (b.run A outer s H args us vs Q E hr he hb hv)⟩
theorem qo.up {P:PySem.Program} {w:PySem.World} {K:PySem.W.Frag} {mg:PySem.Str->Option PySem.Value} {base:PySem.Heap} {CX:WP} {k j:Nat} {f:PySem.Addr} {fd:PySem.FuncData} {ps:List PySem.Str} {sp:Sp} (a:qo P w K mg base CX k f fd ps sp) (h:k<=j):qo P w K mg base CX j f fd ps sp:=
 ⟨a.len,λA outer s H args us vs Q E hr he hb hv hs=>a.run A outer s H args us vs Q E (hr.mono h) he hb hv hs⟩
end L2
namespace Rh
open PySem L2 PyProof.Rows MLab Rb
abbrev Zd:Stmt:=jK (top 6) 0
abbrev ZZ:Stmt:=jK (top 7) 0
def vL (K:PySem.W.Frag) (CH CT CP:Addr) (H:Hp) (N:List Str) (v:V) (C:Addr) (fv:V):Prop:=
 (C=CH/\fv=v/\∃t,TyOf K H v t/\zad K t (.type "list")=some false)\/
 (C=CT/\∃l xs,v=.ref l/\H l=some (.lst xs)/\8 < xs.length/\xs.length<=1000/\fv=.int (xs.length:Nat))\/
 (C=CP/\∃(l:Addr) (hs:List Str) (rest:List V),v=.ref l/\H l=some (.lst (hs.map V.str++fv::rest))/\(hs.map V.str++fv::rest).length<=8/\(∀z∈hs,z∈N)/\ZQ K H N fv)
theorem vL.keep {K:PySem.W.Frag} {CH CT CP:Addr} {H H':Hp} {N:List Str} {v:V} {C:Addr} {fv:V} (h:vL K CH CT CP H N v C fv) (s:QW H H'):vL K CH CT CP H' N v C fv:=by
 rcases h with ⟨a,b,t,c,d⟩ | ⟨a,l,xs,b,c,d⟩ | ⟨a,l,hs,rest,b,c,d,e,g⟩
 . exact .inl ⟨a,b,t,Rh.TyOf.keep c s,d⟩
 . exact .inr (.inl ⟨a,l,xs,b,s _ _ c (λ_ z=>nomatch z),d⟩)
 . exact .inr (.inr ⟨a,l,hs,rest,b,s _ _ c (λ_ z=>nomatch z),d,e,g.keep s⟩)
def Jn (K:PySem.W.Frag) (CG CH CT CP:Addr):Sp:=λvs H Q E=>∃(g:Addr) (rs:jf) (v fv:V) (C:Addr),vs=[.ref g,v]/\jZ CG H g rs/\qy rs/\rs.length<=14/\vL K CH CT CP H (rs.map (·.1)) v C fv/\∀H1 dx,Same H H1->H1 dx=some (.xd [(Str.ofString "found",fv)])->E (.ref C) (some dx) H1
structure Nd (K:PySem.W.Frag) (mg:Str->Option Value) (D CH CT CP:Addr):Prop where
 h:∃f fd,xU K mg D "NoHeap" "NoHeap.__init__" ZZ "found" CH f fd
 t:∃f fd,xU K mg D "TooMany" "TooMany.__init__" Zd "found" CT f fd
 p:∃f fd,xU K mg D "NoPlace" "NoPlace.__init__" Jp "found" CP f fd
section
variable {P:Program} {w:World} {K:PySem.W.Frag} {mg:Str->Option Value} {base:Heap}
theorem wL:qr ["self","found"] ["self","found"] (qk ZZ):=⟨rfl,rfl,rfl,by decide+kernel,rfl,by decide+kernel,by decide+kernel⟩
theorem yM:qr ["self","found"] ["self","found"] (qk Zd):=⟨rfl,rfl,rfl,by decide+kernel,rfl,by decide+kernel,by decide+kernel⟩
theorem uK {D C f:Addr} {fd:FuncData} (x:xU K mg D "NoHeap" "NoHeap.__init__" ZZ "found" C f fd):qo P w K mg base qN 1 f fd ["self","found"] (M6 C "found"):=by
 refine x.fn.okJ wL (λvs H Q E h=>?_) (λcdv A outer s H vs Q E hr h=>?_)
 . obtain⟨e,y,rfl,_⟩:=h
   rfl
 . obtain⟨e,y,rfl,hH,k⟩:=h
   exact⟨_,qh (vi (bm:=.ref D::jS) (jv 0) (jv 1) rfl),_,rfl,_,rfl,e,C,rfl,hH,x.cls,N4 D,x.na,λdx hdx=>k dx hdx⟩
theorem xb {D C f:Addr} {fd:FuncData} (x:xU K mg D "TooMany" "TooMany.__init__" Zd "found" C f fd):qo P w K mg base qN 1 f fd ["self","found"] (M6 C "found"):=by
 refine x.fn.okJ yM (λvs H Q E h=>?_) (λcdv A outer s H vs Q E hr h=>?_)
 . obtain⟨e,y,rfl,_⟩:=h
   rfl
 . obtain⟨e,y,rfl,hH,k⟩:=h
   exact⟨_,qh (vi (bm:=.ref D::jS) (jv 0) (jv 1) rfl),_,rfl,_,rfl,e,C,rfl,hH,x.cls,N4 D,x.na,λdx hdx=>k dx hdx⟩
theorem Wj {f fQ CG D CH CT CP:Addr} {fd fdQ:FuncData} (F:jQ K "need_heap" "need_heap" YN f fd) (B:Qy mg) (G:Qd mg) (T:Qn K mg) (M:GM K mg CG) (hQ:jm K mg "need_place" ZJ uN fQ fdQ) (mt:∃t,mg "MOST_TOKENS"=some (.int 8 t)) (XS:Nd K mg D CH CT CP):qo P w K mg base (Q9 P w) 4 f fd ["ground","heap"] (Jn K CG CH CT CP):=by
 obtain⟨fH,fdH,xH⟩:=XS.h
 obtain⟨fT,fdT,xT⟩:=XS.t
 obtain⟨fP,fdP,xP⟩:=XS.p
 obtain⟨tk,hmt⟩:=mt
 have GQ1:qo P w K mg base (Q9 P w) 3 fQ fdQ uN (W2 K CG CP):=y8 hQ.fn G M xP
 have GQ2:qo P w K mg base qN 2 fQ fdQ uN (ZW CG):=Uj hQ.fn G M
 have GQ:qo P w K mg base (Q9 P w) 3 fQ fdQ uN (λvs H Q E=>ZW CG vs H Q E\/W2 K CG CP vs H Q E):=qo.or (GQ2.up (by decide)).cx GQ1
 have GH:qo P w K mg base qN 1 fH fdH ["self","found"] (M6 CH "found"):=uK xH
 have GT:qo P w K mg base qN 1 fT fdT ["self","found"] (M6 CT "found"):=xb xT
 refine F.okX Ga (λvs H Q E h=>?_) (λcdv A outer s H vs Q E hr h=>?_)
 . obtain⟨g,rs,v,fv,C,rfl,_⟩:=h
   rfl
 . obtain⟨g,rs,v,fv,C,rfl,gr,good,le14,bad,q⟩:=h
   have r2:qR 2 _:=hr.mono (by decide)
   refine⟨_,qf (qM (QP (jL (qB jC (by rfl) T.isi boot_isinstance (qb (jv 1) (qb (QV (v:=.ty "list") (by rfl) G.lst boot_list rfl) qe))))) (qh (Xp rfl Zs (Xr xH.mkr GH r2 (by rfl) xH.ns xH.bi Qz (qb (jv 1) qe)))) qA)
     (qf (qM (qt Zf (qB qF (by rfl) B.len boot_len (qb (jv 1) qe)) (Qt (v:=.int 8) (by rfl) hmt ⟨_,rfl⟩) (qx _)) (qh (Xp rfl Zs (Xr xT.mkr GT r2 (by rfl) xT.ns xT.bi Qz (qb (qB qF (by rfl) B.len boot_len (qb (jv 1) qe)) qe)))) qA)
     (qh (RB (t:=qag (NB K (qO 1)) (Ql 2) (Nj (ZC (λvs H Q E=>ZW CG vs H Q E\/W2 K CG CP vs H Q E) [] E (ji (qO 0) (ji (qO 2) QR))))) λpn W hO hP hR=>jg hO rfl (qG (jv 1)) (qu (i:=2) Ga.nd rfl (Or.inl rfl)) (qh (jw (Ww hQ GQ hr hP (by rfl) (qb (jv 0) (qb (jv 2) qe)))))))),?_⟩
   rcases bad with ⟨rfl,rfl,t,ty,kl⟩ | ⟨rfl,l,xs,rfl,hl,h8,hk,rfl⟩ | ⟨rfl,l,hs,rest,rfl,hl,h8,hN,nop⟩
   . refine⟨_,rfl,_,_,_,_,rfl,rfl,ty,kl,_,rfl,j8 ⟨_,rfl,by show 1<=sizeLine;decide,λe he=>⟨e,fv,rfl,qd,λdx hdx=>⟨rfl,e,C,dx,rfl,(Jb he hdx).2.1,xH.rcls,?_⟩⟩⟩⟩
     obtain⟨m1,m2,m3⟩:=Jb (fs:=[(Str.ofString "found",fv)]) he hdx
     exact q _ dx m1 m3
   . refine⟨_,rfl,_,_,_,_,rfl,rfl,.lst hl,T.kll,_,rfl,jh ?_⟩
     refine⟨_,rfl,l,_,rfl,.inl (.of hl),_,_,rfl,rfl,_,rfl,Qb (decide_eq_true (by omega)) ?_⟩
     refine⟨_,rfl,l,_,rfl,.inl (.of hl),by show 1<=sizeLine;decide,λe he=>⟨e,_,rfl,qd,λdx hdx=>⟨rfl,e,C,dx,rfl,(Jb he hdx).2.1,xT.rcls,?_⟩⟩⟩
     obtain⟨m1,m2,m3⟩:=Jb (fs:=[(Str.ofString "found",V.int (xs.length:Nat))]) he hdx
     exact q _ dx m1 m3
   . refine⟨_,rfl,_,_,_,_,rfl,rfl,.lst hl,T.kll,_,rfl,jh ?_⟩
     refine⟨_,rfl,l,_,rfl,.inl (.of hl),_,_,rfl,rfl,_,rfl,jJ (decide_eq_false (by omega)) ?_⟩
     refine⟨_,rfl,l,rfl,⟨_,.of hl⟩,?_⟩
     refine jn (K:=K) (a:=l) (xs:=hs.map V.str++fv::rest) (λi σ' X=>(∃v,σ'=[some (.ref g),some (.ref l),v])/\Same H X/\i<=hs.length) ⟨⟨_,rfl⟩,Same.refl H,zal _⟩ (λi σ' X _ ⟨_,sx,_⟩=>.of (sx _ _ hl)) ?_ ?_
     . rintro i y σ' X hy ⟨⟨v,rfl⟩,sx,hi⟩
       rcases zbE i hs.length with c | c
       . rw[zaG (by rw[tj];exact c)]at hy
         obtain⟨z,ez,hz,rfl⟩:=JL hy
         exact⟨_,rfl,_,rfl,.inl ⟨g,rs,z,rfl,gr.mono sx,tE.mp (hN z hz),λX' s'=>⟨⟨_,rfl⟩,sx.trans s',c⟩⟩⟩
       . have e:i=hs.length:=by omega
         subst e
         rw[zar (by rw[tj];exact tq _),tj,zcp]at hy
         obtain rfl:fv=y:=by simpa using hy
         exact⟨_,rfl,_,rfl,.inr ⟨g,rs,fv,rfl,gr.mono sx,good,nop.keep sx.keep,λH1 dx s1 hd=>q H1 dx (sx.trans s1) hd⟩⟩
     . rintro σ' X ⟨_,_,hi⟩
       rw[tI,tj,zao]at hi
       omega
end
abbrev Vc:Stmt:=top 72
section
variable {P:Program} {w:World} {K:PySem.W.Frag} {mg:Str->Option Value} {base:Heap}
theorem uE {f CG D CH CT CP:Addr} {fd:FuncData} (F:jQ K "heap_worth" "heap_worth" M7 f fd) (B:Qy mg) (G:Qd mg) (T:Qn K mg) (M:GM K mg CG) (O:zO K mg) (XS:Nd K mg D CH CT CP):qo P w K mg base (Q9 P w) 5 f fd ["ground","heap"] (Jn K CG CH CT CP):=by
 obtain⟨fP,fdP,hP⟩:=O.place
 obtain⟨fH,fdH,hH⟩:=O.heap
 have GH:qo P w K mg base (Q9 P w) 4 fH fdH ["ground","heap"] (Jn K CG CH CT CP):=Wj hH.fn B G T M hP O.most XS
 refine F.okX qau (λvs H Q E h=>?_) (λcdv A outer s H vs Q E hr h=>?_)
 . obtain⟨g,rs,v,fv,C,rfl,_⟩:=h
   rfl
 . obtain⟨g,rs,v,fv,C,rfl,h⟩:=h
   exact⟨_,qf (jw (Ww hH GH hr QX (by rfl) (qb (jv 0) (qb (jv 1) qe)))) q5,_,rfl,_,rfl,g,rs,v,fv,C,rfl,h⟩
theorem ur {f CG D CH CT CP:Addr} {fd:FuncData} (F:jQ K "outcome" "outcome" zT f fd) (h:WF K mg) (B:Qy mg) (G:Qd mg) (T:Qn K mg) (M:GM K mg CG) (O:zO K mg) (XS:Nd K mg D CH CT CP):qo P w K mg base (Q9 P w) 6 f fd ["ground","heap"] (Jn K CG CH CT CP):=by
 obtain⟨fW,fdW,hW⟩:=O.hw
 have GW:qo P w K mg base (Q9 P w) 5 fW fdW ["ground","heap"] (Jn K CG CH CT CP):=uE hW.fn B G T M O XS
 refine F.okX UY (λvs H Q E h=>?_) (λcdv A outer s H vs Q E hr h1=>?_)
 . obtain⟨g,rs,v,fv,C,rfl,_⟩:=h
   rfl
 . obtain⟨g,rs,v,fv,C,rfl,h1⟩:=h1
   exact⟨_,qh (qw (zc h B (hr.mono (by decide)) (Ww hW GW hr QX (by rfl) (qb (jv 0) (qb (jv 1) qe))))),_,rfl,_,rfl,g,rs,v,fv,C,rfl,h1⟩
theorem xa {f CG D CH CT CP:Addr} {fd:FuncData} (F:jQ K "moves_of" "moves_of" Z1 f fd) (B:Qy mg) (G:Qd mg) (T:Qn K mg) (M:GM K mg CG) (O:zO K mg) (XS:Nd K mg D CH CT CP):qo P w K mg base (Q9 P w) 5 f fd ["ground","heap"] (Jn K CG CH CT CP):=by
 obtain⟨fP,fdP,hP⟩:=O.place
 obtain⟨fH,fdH,hH⟩:=O.heap
 have GH:qo P w K mg base (Q9 P w) 4 fH fdH ["ground","heap"] (Jn K CG CH CT CP):=Wj hH.fn B G T M hP O.most XS
 refine F.okX qbG (λvs H Q E h=>?_) (λcdv A outer s H vs Q E hr h=>?_)
 . obtain⟨g,rs,v,fv,C,rfl,_⟩:=h
   rfl
 . obtain⟨g,rs,v,fv,C,rfl,h⟩:=h
   exact⟨_,qf (jw (Ww hH GH hr QX (by rfl) (qb (jv 0) (qb (jv 1) qe)))) q5,_,rfl,_,rfl,g,rs,v,fv,C,rfl,h⟩
def Np (K:PySem.W.Frag) (CG CH CT CP:Addr):Sp:=λvs H Q E=>∃(g:Addr) (rs:jf) (u v fv:V) (C:Addr),vs=[.ref g,u,v]/\jZ CG H g rs/\qy rs/\rs.length<=14/\vL K CH CT CP H (rs.map (·.1)) v C fv/\∀H1 dx,Same H H1->H1 dx=some (.xd [(Str.ofString "found",fv)])->E (.ref C) (some dx) H1
theorem ut {f CG D CH CT CP:Addr} {fd:FuncData} (F:jQ K "outcomes_by" "outcomes_by" kz f fd) (h:WF K mg) (B:Qy mg) (Z:Wk K mg) (G:Qd mg) (T:Qn K mg) (M:GM K mg CG) (O:zO K mg) (V1:KB K mg) (XS:Nd K mg D CH CT CP):qo P w K mg base (Q9 P w) 10 f fd ["ground","labels","heap"] (Np K CG CH CT CP):=by
 obtain⟨fM,fdM,hM⟩:=V1.mo
 obtain⟨fL,fdL,hL⟩:=V1.lb
 obtain⟨fB,fdB,hB⟩:=V1.oby
 have GM:qo P w K mg base (Q9 P w) 5 fM fdM ["ground","heap"] (Jn K CG CH CT CP):=xa hM.fn B G T M O XS
 have GL:qo P w K mg base qN 1 fL fdL ["heap","move"] UW:=Ri hL.fn G
 have GB:qo P w K mg base qN 9 fB fdB ["labels","heap"] wp:=Mc hB.fn h B Z O
 refine F.okX NS (λvs H Q E z=>?_) (λcdv A outer s H vs Q E hr z=>?_)
 . obtain⟨g,rs,u,v,fv,C,rfl,_⟩:=z
   rfl
 . obtain⟨g,rs,u,v,fv,C,rfl,z⟩:=z
   have r1:qR 1 _:=hr.mono (by decide)
   have r5:qR 5 _:=hr.mono (by decide)
   exact⟨_,qh (qw (jM (N':=["move","labels","heap"]) (ix:=[none,some 1,some 2])
       (te:=WV (ji (qO 0) (ji (ZC wp [] E0 (ji (qO 1) (ji (ZC UW [] E0 (ji (qO 2) (ji (qO 0) QR))) QR))) QR)))
       rfl ⟨rfl,rfl,rfl,rfl,rfl⟩ (qG (Ww hM GM r5 QX (by rfl) (qb (jv 0) (qb (jv 2) qe)))) (λC s2 H2 fp pins=>
       ⟨qu (i:=0) (show (["move","labels","heap"]:List Str).Nodup by decide+kernel) rfl (Or.inl rfl),ju,
         qW (qb (jv 0) (qb (qH hB GB hr (by rfl) (qb (jv 1) (qb (qH hL GL r1 (by rfl) (qb (jv 2) (qb (jv 0) qe))) qe))) qe))⟩))),_,rfl,_,rfl,g,rs,v,fv,C,rfl,z⟩
theorem Rc {f CG D CH CT CP:Addr} {fd:FuncData} (F:jQ K "outcomes_after" "outcomes_after" wO f fd) (h:WF K mg) (B:Qy mg) (Z:Wk K mg) (G:Qd mg) (T:Qn K mg) (M:GM K mg CG) (Y:VI K mg) (O:zO K mg) (V1:KB K mg) (XS:Nd K mg D CH CT CP):qo P w K mg base (Q9 P w) 11 f fd ["ground","heap"] (Jn K CG CH CT CP):=by
 obtain⟨fO,fdO,hO⟩:=V1.osby
 obtain⟨fB,fdB,hB⟩:=Y.labels
 have GO:qo P w K mg base (Q9 P w) 10 fO fdO ["ground","labels","heap"] (Np K CG CH CT CP):=ut hO.fn h B Z G T M O V1 XS
 have GB:qo P w K mg base qN 8 fB fdB ["ground"] (YF CG):=Wm hB.fn B G T M Y
 refine F.okX qas (λvs H Q E z=>?_) (λcdv A outer s H vs Q E hr z=>?_)
 . obtain⟨g,rs,v,fv,C,rfl,_⟩:=z
   rfl
 . obtain⟨g,rs,v,fv,C,rfl,gr,good,le,bad,q⟩:=z
   refine⟨_,qh (qw (Ww hO GO hr QX (by rfl) (qb (jv 0) (qb (qH hB GB (hr.mono (by decide)) (by rfl) (qb (jv 0) qe)) (qb (jv 1) qe))))),?_⟩
   exact⟨_,rfl,_,rfl,g,rs,rfl,gr,good,le,λH1 D1 R s1 hD lb all=>⟨_,rfl,g,rs,.ref D1,v,fv,C,rfl,gr.mono s1,good,le,bad.keep s1.keep,λH2 dx s2 hd=>q H2 dx (s1.trans s2) hd⟩⟩
structure M0 (K:PySem.W.Frag) (D CH CT CP:Addr):Prop where
 th:CT≠CH
 ph:CP≠CH
 pt:CP≠CT
 dh:D≠CH
 dt:D≠CT
def WdC (CH CT CP C:Addr) (wd:Str):Prop:=(C=CH/\wd=Str.ofString "heap")\/(C=CT/\wd=Str.ofString "many")\/(C=CP/\wd=Str.ofString "place")
def ko (K:PySem.W.Frag) (CG CH CT CP f1 f2 f3:Addr):Sp:=λvs H Q _=>∃(f g:Addr) (rs:jf) (v fv:V) (C:Addr) (wd:Str),vs=[.ref f,.ref g,v]/\(f=f1\/f=f2\/f=f3)/\jZ CG H g rs/\qy rs/\rs.length<=14/\vL K CH CT CP H (rs.map (·.1)) v C fv/\WdC CH CT CP C wd/\
 ∀H' t,QW H H'->H' t=some (.tup [.str wd,fv])->Q (.ref t) H'
abbrev nTd:List Str:=["_law_call","_law_ground","_law_heap_here","_law_told_here","e"]
abbrev pTd:List Str:=["_law_call","_law_ground","_law_heap_here"]
theorem V5:qr nTd pTd (qk Vc):=⟨rfl,rfl,rfl,by decide+kernel,rfl,by decide+kernel,by decide+kernel⟩
theorem vc {C D Cl:Addr} (h1:C≠Cl) (h2:D≠Cl):(Value.ref C::Value.ref D::jS).contains (.ref Cl)=false:=by
 have e1:(Value.ref Cl==Value.ref C)=false:=by
   rw[beq_eq_false_iff_ne]
   exact λe=>h1 (by cases e;rfl)
 have e2:(Value.ref Cl==Value.ref D)=false:=by
   rw[beq_eq_false_iff_ne]
   exact λe=>h2 (by cases e;rfl)
 rw[zbp,zbp,e1,e2]
 rfl
theorem uy {f CG D CH CT CP f1 f2 f3:Addr} {fd fd1 fd2 fd3:FuncData} (F:jQ K "_law_told" "_law_told" Vc f fd) (h:WF K mg) (B:Qy mg) (Z:Wk K mg) (G:Qd mg) (T:Qn K mg) (M:GM K mg CG) (Y:VI K mg) (O:zO K mg) (V1:KB K mg) (XS:Nd K mg D CH CT CP) (ZE:M0 K D CH CT CP)
   (h1:jm K mg "heap_worth" M7 ["ground","heap"] f1 fd1) (h2:jm K mg "outcome" zT ["ground","heap"] f2 fd2) (h3:jm K mg "outcomes_after" wO ["ground","heap"] f3 fd3):qo P w K mg base qN 12 f fd pTd (ko K CG CH CT CP f1 f2 f3):=by
 have G1:qo P w K mg base (Q9 P w) 5 f1 fd1 ["ground","heap"] (Jn K CG CH CT CP):=uE h1.fn B G T M O XS
 have G2:qo P w K mg base (Q9 P w) 6 f2 fd2 ["ground","heap"] (Jn K CG CH CT CP):=ur h2.fn h B G T M O XS
 have G3:qo P w K mg base (Q9 P w) 11 f3 fd3 ["ground","heap"] (Jn K CG CH CT CP):=Rc h3.fn h B Z G T M Y O V1 XS
 obtain⟨fH,fdH,xH⟩:=XS.h
 obtain⟨fT,fdT,xT⟩:=XS.t
 obtain⟨fP,fdP,xP⟩:=XS.p
 refine F.okJ V5 (λvs H Q E h=>?_) (λcdv A outer s H vs Q E hr h=>?_)
 . obtain⟨f,g,rs,v,fv,C,wd,rfl,_⟩:=h
   rfl
 . obtain⟨f,g,rs,v,fv,C,wd,rfl,hf,gr,good,le,bad,hw,q⟩:=h
   have r5:qR 5 _:=hr.mono (by decide)
   have r6:qR 6 _:=hr.mono (by decide)
   refine⟨_,qf (qv (i:=3) V5.nd rfl (Or.inl rfl) vj)
     (qf (Mw rfl rfl (λpn W E hE=>qh (jw (u6 (i:=0) (C:=λf sp=>(f=f1\/f=f2\/f=f3)/\sp=Jn K CG CH CT CP) rfl (.inl rfl) (λf sp c=>by
           obtain⟨c,rfl⟩:=c
           rcases c with rfl | rfl | rfl
           . exact⟨5,_,_,G1,r5,h1.fn.kp,h1.bi⟩
           . exact⟨6,_,_,G2,r6,h2.fn.kp,h2.bi⟩
           . exact⟨11,_,_,G3,hr,h3.fn.kp,h3.bi⟩) hE (qb (jv 1) (qb (jv 2) qe)))))
       (Vv (j:=4) (ts:=UU (WV (ji (tC (.str (Str.ofString "heap"))) (ji (vT K (.ref D::jS) (qO 4) "found") QR))) (Ql 3)) (by rfl) xH.ns xH.rcls V5.nd rfl rfl (λv E=>qh (qv (i:=3) V5.nd rfl (Or.inl rfl) (qW (qb qD (qb (Vw (bm:=.ref D::jS) (jv 4) rfl) qe)))))
       (Vv (j:=4) (ts:=UU (WV (ji (tC (.str (Str.ofString "many"))) (ji (vT K (.ref D::jS) (qO 4) "found") QR))) (Ql 3)) (by rfl) xT.ns xT.rcls V5.nd rfl rfl (λv E=>qh (qv (i:=3) V5.nd rfl (Or.inl rfl) (qW (qb qD (qb (Vw (bm:=.ref D::jS) (jv 4) rfl) qe)))))
       (Vv (j:=4) (ts:=UU (WV (ji (tC (.str (Str.ofString "place"))) (ji (vT K (.ref D::jS) (qO 4) "found") QR))) (Ql 3)) (by rfl) xP.ns xP.rcls V5.nd rfl rfl (λv E=>qh (qv (i:=3) V5.nd rfl (Or.inl rfl) (qW (qb qD (qb (Vw (bm:=.ref D::jS) (jv 4) rfl) qe)))))
       uY))))
     (qh (qw (jv 3)))),?_⟩
   refine⟨λC' dx Hx=>C'=C/\Same H Hx/\Hx dx=some (.xd [(Str.ofString "found",fv)]),⟨f,_,rfl,⟨hf,rfl⟩,_,rfl,_,rfl,g,rs,v,fv,C,rfl,gr,good,le,bad,λH1 dx s1 h1=>⟨rfl,C,dx,rfl,rfl,rfl,s1,h1⟩⟩,?_⟩
   rintro a C dx T' Hx H' ⟨rfl,sx,hdx⟩ ha kp ha'
   have nda:dx≠a:=λz=>by
     rw[z,ha]at hdx
     cases hdx
   have hdx':=kp dx _ nda hdx
   have k1:QW H H':=λb o hb nx=>kp b o (λz=>by
     rw[z]at hb
     have:=sx _ _ hb
     rw[ha]at this
     exact nx _ (tL.inj this).symm) (sx _ _ hb)
   have lk:([(Str.ofString "found",fv)]:List (Str×V)).lookup (Str.ofString "found")=some fv:=by simp [zbj]
   rcases hw with ⟨rfl,rfl⟩ | ⟨rfl,rfl⟩ | ⟨rfl,rfl⟩
   . refine⟨fH,_,xH.mkr,?_⟩
     rw[if_pos (by simp [zbp])]
     refine⟨_,rfl,a,C,dx,_,_,fv,rfl,ha',hdx',xH.cls,xH.na,lk,by show 2<=sizeLine;decide,λl hl=>?_⟩
     exact⟨_,rfl,q _ l (k1.trans (qi hl).keep) qd⟩
   . refine⟨fT,_,xT.mkr,?_⟩
     rw[if_neg (by rw[vc ZE.th ZE.dh];exact tK)]
     refine⟨fT,_,xT.mkr,?_⟩
     rw[if_pos (by simp [zbp])]
     refine⟨_,rfl,a,C,dx,_,_,fv,rfl,ha',hdx',xT.cls,xT.na,lk,by show 2<=sizeLine;decide,λl hl=>?_⟩
     exact⟨_,rfl,q _ l (k1.trans (qi hl).keep) qd⟩
   . refine⟨fP,_,xP.mkr,?_⟩
     rw[if_neg (by rw[vc ZE.ph ZE.dh];exact tK)]
     refine⟨fP,_,xP.mkr,?_⟩
     rw[if_neg (by rw[vc ZE.pt ZE.dt];exact tK)]
     refine⟨fP,_,xP.mkr,?_⟩
     rw[if_pos (by simp [zbp])]
     refine⟨_,rfl,a,C,dx,_,_,fv,rfl,ha',hdx',xP.cls,xP.na,lk,by show 2<=sizeLine;decide,λl hl=>?_⟩
     exact⟨_,rfl,q _ l (k1.trans (qi hl).keep) qd⟩
end
abbrev kD:Stmt:=top 73
theorem JD (xs:List V) (k:Nat):Zz xs none (some (k:Int))=xs.take k:=by
 unfold Zz
 rw[HT.sIx_none,HT.sIx_nat,zdy,zdL]
 rcases Nat.le_total k xs.length with c | c
 . rw[zcD c]
 . rw[zcu c,tH (tq _),tH c]
theorem Kt (xs:List V) (k:Nat):Zz xs (some (k:Int)) none=xs.drop k:=by
 unfold Zz
 rw[HT.sIx_none,HT.sIx_nat]
 rcases Nat.le_total k xs.length with c | c
 . rw[zcD c]
   exact tH (by rw[zdf];exact tq _)
 . rw[zcu c,zcn (tq _),zcn c]
   exact List.take_nil
structure MZ (K:PySem.W.Frag):Prop where
 n:zad K (.type "NoneType") (.type "list")=some false
 t:zad K (.type "tuple") (.type "list")=some false
 s:zad K (.type "str") (.type "list")=some false
 i:zad K (.type "int") (.type "list")=some false
 b:zad K (.type "bool") (.type "list")=some false
 d:zad K (.type "dict") (.type "list")=some false
def Kz (K:PySem.W.Frag) (H:Hp) (N:List Str) (v:V):Prop:=(∃z∈N,v=.str z)\/(ZQ K H N v/\Cmp K H v)
theorem Kz.same {K:PySem.W.Frag} {H H':Hp} {N:List Str} {v:V} (h:Kz K H N v) (s:QW H H'):Kz K H' N v:=by
 rcases h with h | ⟨a,b⟩
 . exact .inl h
 . refine .inr ⟨a.keep s,?_⟩
   rcases b with b | ⟨d,b,c⟩
   . exact .inl b
   . exact .inr ⟨d,Yv s b,c⟩
def y2 (N:List Str) (v:V):Option V:=match v with
 | .str z=>if z∈N then none else some v
 | _=>some v
theorem ZQ.notin {K:PySem.W.Frag} {H:Hp} {N:List Str} {v:V} (h:ZQ K H N v) (hN:∀z∈N,True):y2 N v=some v:=by
 cases v with
 | str z=>
   show (if z∈N then none else some (V.str z))=_
   rw[if_neg]
   intro m
   rcases h with ⟨d,dv,_,_,no⟩ | ⟨a,kvs,e,_⟩
   . cases dv
     have:=no z m
     have e:PyData.eqv (.str z) (.str z)=(z==z):=rfl
     rw[e,beq_self_eq_true]at this
     cases this
   . cases e
 | _=>rfl
theorem Xu:∀(ps:List Str) (acc:Array Nat),(∀c∈acc.toList,c<=122)->(∀p∈ps,∀c∈p.cps.toList,c<=122)->∀c∈(ps.foldl (λacc p=>acc++(Str.ofString "").cps++p.cps) acc).toList,c<=122
 | [],acc,h,_=>h
 | p::ps,acc,h,hp=>by
   refine Xu ps _ (λc hc=>?_) λq hq=>hp q (tY _ hq)
   have e:(Str.ofString "").cps=#[]:=by decide+kernel
   rw[e,zcb,zcb]at hc
   rcases t9.mp hc with hc | hc
   . rcases t9.mp hc with hc | hc
     . exact h c hc
     . simp at hc
   . exact hp p (zab ..) c hc
theorem RD {zs:List Str} (h:∀z∈zs,je z=true):PyData.strOk (Txt.join (Str.ofString "") zs)=true:=by
 unfold PyData.strOk
 rw[zcq]
 intro c hc
 have key:∀c∈(Txt.join (Str.ofString "") zs).cps.toList,c<=122:=by
   show ∀c∈(((zs.drop 1).foldl (λacc p=>acc++(Str.ofString "").cps++p.cps) (zs.headD Str.empty).cps)).toList,c<=122
   refine Xu _ _ (λc hc=>?_) λp hp=>(ZM (h p (zdB hp))).1
   cases zs with
   | nil=>
     have e:(([]:List Str).headD Str.empty).cps.toList=[]:=by decide+kernel
     rw[e]at hc
     cases hc
   | cons z zs=>exact(ZM (h z (zab ..))).1 c hc
 have:=key c (by simpa using hc)
 exact decide_eq_true (by omega)
theorem vX {n s t:Int} {k:qL} {v:V} (h:jl (src n s t) k=some v):∃i,v=.int i:=by
 obtain⟨p,hp,e⟩:=zbK.mp h
 have:=zca hp
 unfold src at this
 simp only[tV,zbe,or_false]at this
 rcases this with rfl | rfl | rfl<;>exact⟨_,e.symm⟩
mutual
theorem Ko {K:PySem.W.Frag} {H H':Hp} {d:Addr} {kvs:List (qL×V)}:∀{x:V} {dd:PyData},DV K H x dd->H d=some (.dK kvs)->(∀b u,H b=some u->b≠d->H' b=some u)->DV K H' x dd
 | _,_,.non,_,_=>.non
 | _,_,.bl b,_,_=>.bl b
 | _,_,.int i,_,_=>.int i
 | _,_,.str x,_,_=>.str x
 | _,_,.lst h hs,hd,k=>.lst (h.elim (λh=>h.elim (λh=>.inl (.inl (k _ _ h λz=>by rw[z,hd]at h;cases h))) (λ⟨o,h⟩=>.inl (.inr ⟨o,k _ _ h λz=>by rw[z,hd]at h;cases h⟩))) .inr) (dvs_fr hs hd k)
 | _,_,.tup h hs,hd,k=>.tup (h.elim (λh=>h.elim (λh=>.inl (.inl (k _ _ h λz=>by rw[z,hd]at h;cases h))) (λ⟨o,h⟩=>.inl (.inr ⟨o,k _ _ h λz=>by rw[z,hd]at h;cases h⟩))) .inr) (dvs_fr hs hd k)
theorem dvs_fr {K:PySem.W.Frag} {H H':Hp} {d:Addr} {kvs:List (qL×V)}:∀{x:List V} {dd:List PyData},DVs K H x dd->H d=some (.dK kvs)->(∀b u,H b=some u->b≠d->H' b=some u)->DVs K H' x dd
 | _,_,.nil,_,_=>.nil
 | _,_,.cons h hs,hd,k=>.cons (Ko h hd k) (dvs_fr hs hd k)
end
theorem jZ.src {CG:Addr} {H H':Hp} {a d:Addr} {rs:jf} {n s t:Int} (h:jZ CG H a rs) (pos:0 < rs.length) (hd:H d=some (.dK (src n s t))) (f:Fr H d H'):jZ CG H' a rs:=by
 obtain⟨dx,lo,rd,kvs,e1,e2,e3,e4⟩:=h
 refine⟨dx,lo,rd,kvs,f _ _ e1 (λz=>by rw[z,hd]at e1;cases e1),f _ _ e2 (λz=>by rw[z,hd]at e2;cases e2),f _ _ e3 (λz=>?_),λr hr=>let ⟨q,a1,a2⟩:=e4 r hr;⟨q,a1,f _ _ a2 (λz=>by rw[z,hd]at a2;cases a2)⟩⟩
 rw[z,hd]at e3
 have e5:=HO.dK.inj (tL.inj e3)
 obtain⟨r0,er⟩:∃r,rs[0]?=some r:=⟨_,tF pos⟩
 obtain⟨q,a1,_⟩:=e4 r0 (t7 er)
 rw[<-e5]at a1
 obtain⟨i,e6⟩:=vX a1
 cases e6
theorem Yf.src {H H':Hp} {D d:Addr} {F:Str->W} {zs:List Str} {n s t:Int} (h:Yf H D F zs) (pos:0 < zs.length) (hd:H d=some (.dK (Rh.src n s t))) (f:Fr H d H'):Yf H' D F zs:=by
 obtain⟨kvs,a,b,c⟩:=h.at_
 refine⟨kvs,f _ _ a (λz=>?_),b,λz hz=>let ⟨t,u,v⟩:=c z hz;⟨t,u,f _ _ v (λe=>by rw[e,hd]at v;cases v)⟩⟩
 rw[z,hd]at a
 have e5:=HO.dK.inj (tL.inj a)
 obtain⟨r0,er⟩:∃r,zs[0]?=some r:=⟨_,tF pos⟩
 obtain⟨q,a1,_⟩:=c r0 (t7 er)
 rw[<-e5]at a1
 obtain⟨i,e6⟩:=vX a1
 cases e6
theorem WX {K:PySem.W.Frag} {H H':Hp} {a d:Addr} {xs:List V} {kvs:List (qL×V)} (h:SqL K H a xs) (hd:H d=some (.dK kvs)) (f:Fr H d H'):SqL K H' a xs:=by
 rcases h with (h | ⟨o,h⟩) | h
 . exact .inl (.inl (f _ _ h (λz=>by rw[z,hd]at h;cases h)))
 . exact .inl (.inr ⟨o,f _ _ h (λz=>by rw[z,hd]at h;cases h)⟩)
 . exact .inr h
theorem ZQ.src {K:PySem.W.Frag} {H H':Hp} {d:Addr} {N:List Str} {v:V} {kv kv':List (qL×V)} (h:ZQ K H N v) (hd:H d=some (.dK kv)) (hd':H' d=some (.dK kv')) (f:Fr H d H'):ZQ K H' N v:=by
 rcases h with ⟨dd,dv,rest⟩ | ⟨c,kvs,e,hc⟩
 . exact .inl ⟨dd,Ko dv hd f,rest⟩
 . by_cases cd:c=d
   . exact .inr ⟨c,_,e,by rw[cd];exact hd'⟩
   . exact .inr ⟨c,kvs,e,f _ _ hc cd⟩
theorem _root_.L2.Cmp.src {K:PySem.W.Frag} {H H':Hp} {d:Addr} {v:V} {kv:List (qL×V)} (h:Cmp K H v) (hd:H d=some (.dK kv)) (f:Fr H d H'):Cmp K H' v:=by
 rcases h with h | ⟨dd,dv,rest⟩
 . exact .inl h
 . exact .inr ⟨dd,Ko dv hd f,rest⟩
theorem _root_.L2.Cmp.keep {K:PySem.W.Frag} {H H':Hp} {v:V} (h:Cmp K H v) (s:QW H H'):Cmp K H' v:=by
 rcases h with h | ⟨dd,dv,rest⟩
 . exact .inl h
 . exact .inr ⟨dd,Yv s dv,rest⟩
theorem Xe {K:PySem.W.Frag} {H:Hp} {N:List Str} {w:Str} (ok:PyData.strOk w=true) (nw:je w=false) (hN:∀z∈N,je z=true):ZQ K H N (.str w):=by
 refine .inl ⟨.str w,.str w,ok,zal _,λz hz=>?_⟩
 show (z==w)=false
 rw[beq_eq_false_iff_ne]
 intro e
 have:=hN z hz
 rw[e,nw]at this
 cases this
theorem zh {K:PySem.W.Frag} {H:Hp} {w:Str} (ok:PyData.strOk w=true):Cmp K H (.str w):=.inr ⟨.str w,.str w,ok,rfl⟩
def wu (K:PySem.W.Frag) (CH CT CP:Addr):Sp:=λvs H Q _=>∃(d l h:Addr) (n s t:Int) (ps:List Addr) (rs:jf) (hs:List Str),vs=[.ref d,.ref l,.ref h]/\H d=some (.dK (src n s t))/\jy H l ps rs/\jY H h rs hs/\
 ∀(p t2:Addr) (v fv:V) (C:Addr) (wd:Str) (n' t':Int) (H':Hp),Fr H d H'->H' d=some (.dK (src n' s t'))->H' p=some (.tup [v,.ref t2])->H' t2=some (.tup [.str wd,fv])->vL K CH CT CP H' (rs.map (·.1)) v C fv->WdC CH CT CP C wd->Cmp K H' fv->Q (.ref p) H'
section
variable {P:Program} {w:World} {K:PySem.W.Frag} {mg:Str->Option Value} {base:Heap}
abbrev nBd:List Str:=["_law_source_here","_law_rows_here","_law_heap_here","_law_names_here","_law_thing","_law_way","_law_some","_law_at"]
abbrev pBd:List Str:=["_law_source_here","_law_rows_here","_law_heap_here"]
theorem XT:qr nBd pBd (qk kD):=⟨rfl,rfl,rfl,by decide+kernel,rfl,by decide+kernel,by decide+kernel⟩
theorem Rj {f fT CH CT CP:Addr} {fd fdT:FuncData} (F:jQ K "_law_bad" "_law_bad" kD f fd) (B:Qy mg) (G:Qd mg) (S:MZ K) (hT:jm K mg "_law_take" ZF ["_law_source_here","_law_many"] fT fdT):qo P w K mg base qN 2 f fd pBd (wu K CH CT CP):=by
 have GT:qo P w K mg base qN 1 fT fdT ["_law_source_here","_law_many"] JM:=JR hT.fn
 refine F.okJ XT (λvs H Q E z=>?_) (λcdv A outer s H vs Q E hr z=>?_)
 . obtain⟨d,l,h,n,sd,t,ps,rs,hs,rfl,_⟩:=z
   rfl
 . obtain⟨d,l,h,n,sd,t,ps,rs,hs,rfl,hd,g,hh,q⟩:=z
   have hu:=Qu hr
   refine⟨_,qf (qv (i:=3) XT.nd rfl (Or.inr rfl) (jM (N':=["_law_row"]) (ix:=[none]) (te:=zm (Ud K) (qO 0) (tC (.int 0))) rfl ⟨rfl,rfl,rfl,rfl,rfl⟩ (qG (jv 1)) (λC s2 H2 fp pins=>
         ⟨qu (i:=0) (Mh _) rfl (Or.inl rfl),ju,qX jF (jv 0) qj (λ_ _=>rfl)⟩)))
     (qf (qv (i:=4) XT.nd rfl (Or.inl rfl) (qX jI (jE (qb vj (qb qj (qb jT (qb qD (qb qD (qb (qW (qb qD qe)) (qb (jE (qb qD qe)) (qb j7 qe))))))))) (qH hT GT hr (by rfl) (qb (jv 0) (qb qj qe))) (λ_ _=>rfl)))
     (qf (qv (i:=5) XT.nd rfl (Or.inl rfl) (qH hT GT hr (by rfl) (qb (jv 0) (qb qj qe))))
     (qf (qM (qt j5 (jv 5) qj (qx _))
       (qf (qv (i:=6) XT.nd rfl (Or.inl rfl) (qX jI (jE (qb vj (qb (jr QH (by rfl) G.tup boot_tuple (qb (jv 2) qe)) (qb (Xs zdn zdt zdu kU qD (qb (jv 2) qe)) (qb qj (qb jT (qb j7 qe))))))) (qH hT GT hr (by rfl) (qb (jv 0) (qb qj qe))) (λ_ _=>rfl)))
       (qh (qw (qW (qb (jv 6) (qb (qW (qb qD (qb (jv 6) qe))) qe)))))) qA)
     (qf (qM (qt j5 (jv 5) qj (qx _))
       (qf (qv (i:=6) XT.nd rfl (Or.inl rfl) (qJ Xb (jA Qg (qJ uf (jv 3) qj) j3 (j2 qj)) (qJ uf (jE (qb (jv 4) qe)) (qH hT GT hr (by rfl) (qb (jv 0) (qb qj qe))))))
       (qh (qw (qW (qb (jv 6) (qb (qW (qb qD (qb (qB qF (by rfl) B.len boot_len (qb (jv 6) qe)) qe))) qe)))))) qA)
     (qf (qv (i:=7) XT.nd rfl (Or.inl rfl) (qH hT GT hr (by rfl) (qb (jv 0) (qb (qJ QN (qB qF (by rfl) B.len boot_len (qb (jA Qg (jv 2) j3 (j2 qj)) qe)) qj) qe))))
     (qf (qv (i:=6) XT.nd rfl (Or.inl rfl) (qJ Xb (qJ Xb (jA Qg (jA Qg (jv 2) j3 (j2 qj)) j3 (j2 (jv 7))) (jE (qb (jv 4) qe))) (jA Qg (jA Qg (jv 2) j3 (j2 qj)) (j2 (jv 7)) j3)))
     (k4 (qM (qt j5 (jv 5) qj (qx _)) (qh (qv (i:=6) XT.nd rfl (Or.inl rfl) (qJ Xb (jA Qg (jv 6) j3 (j2 qj)) (jE (qb qD qe))))) qA)
     (qf (qM (qt Zf (qB qF (by rfl) B.len boot_len (qb (jv 6) qe)) qj (qx _)) (qh (qv (i:=6) XT.nd rfl (Or.inl rfl) (jA Qg (jv 6) j3 (j2 qj)))) qA)
     (qh (qw (qW (qb (jv 6) (qb (qW (qb qD (qb (qX jI (jM (N':=["_law_one","_law_names_here"]) (ix:=[none,some 3]) (tt:=YB (zm (kL K) (qO 0) (qO 1))) (te:=qO 0) rfl ⟨rfl,rfl,rfl,rfl,rfl⟩ (qG (jv 6)) (λC s2 H2 fp pins=>
         ⟨qu (i:=0) (show (["_law_one","_law_names_here"]:List Str).Nodup by decide+kernel) rfl (Or.inl rfl),jH (qt (Wi hr.units) (jv 0) (jv 1) (by with_unfolding_all rfl)),jv 0⟩)) qj (λ_ _=>rfl)) qe))) qe))))))))))))),?_⟩
   have good:=g.good
   have le14:=g.le
   have lN:(rs.map (·.1)).length=rs.length:=tj ..
   have nmz:∀z∈rs.map (·.1),je z=true:=λz hz=>by
     obtain⟨r',hr',rfl⟩:=tE.mp hz
     exact good.nm r' hr'
   have hsN:∀z∈hs,z∈rs.map (·.1):=λz hz=>tE.mpr (hh.in_ z hz)
   refine⟨_,rfl,l,rfl,⟨_,.of g.at_⟩,λln hln=>?_⟩
   refine jN (K:=K) (a:=l) (xs:=ps.map V.ref) (λj σ' X=>∃v,σ'=[v]/\X=upd H ln (.lst (((rs.take j).map (·.1)).map V.str))) ⟨none,rfl,rfl⟩ (λj σ' X _ ⟨_,_,e⟩=>e▸.of (qm g.at_ hln)) ?_ ?_
   . rintro j y σ' X hy ⟨v,rfl,rfl⟩
     obtain⟨p',q',r',rfl,er,hr',ea,eb⟩:=g.rows.item hy
     have hi:=(tw.mp er).1
     refine⟨_,rfl,p',_,0,_,rfl,rfl,.of (qm ea hln),rfl,_,qd,?_,_,rfl,?_⟩
     . rw[tj,tj,tU]
       exact ql (by omega)
     . rw[jo,tS,er,tG,tG]
       rfl
   rintro σ' X1 ⟨v,rfl,rfl⟩
   have e0:rs.take (ps.map V.ref).length=rs:=tH (by rw[tj,g.rows.1];exact tq _)
   rw[e0]
   have s1:Same H (upd H ln (.lst ((rs.map (·.1)).map V.str))):=qi hln
   have hl1:upd H ln (.lst ((rs.map (·.1)).map V.str)) ln=some (.lst ((rs.map (·.1)).map V.str)):=qd
   generalize upd H ln (.lst ((rs.map (·.1)).map V.str))=H1 at s1 hl1
   refine⟨by show 1<=sizeLine;decide,λtu htu=>?_⟩
   have sU:Same H1 (upd H1 tu (.tup [.str (Str.ofString "a")])):=qi htu
   have hU:upd H1 tu (.tup [.str (Str.ofString "a")]) tu=some (.tup [.str (Str.ofString "a")]):=qd
   generalize upd H1 tu (.tup [.str (Str.ofString "a")])=HU at sU hU
   refine⟨by show 1<=sizeLine;decide,λli hli=>?_⟩
   have sV:Same HU (upd HU li (.lst [.str (Str.ofString "b")])):=qi hli
   have hV:upd HU li (.lst [.str (Str.ofString "b")]) li=some (.lst [.str (Str.ofString "b")]):=qd
   generalize upd HU li (.lst [.str (Str.ofString "b")])=HV at sV hV
   intro de hde
   have sD:Same HV (upd HV de (.dK [])):=qi hde
   have hDe:upd HV de (.dK []) de=some (.dK []):=qd
   generalize upd HV de (.dK [])=HD at sD hDe
   refine⟨by show 8<=sizeLine;decide,λls hls=>?_⟩
   have sS:Same HD (upd HD ls (.lst [.non,.int 7,.bl true,.str (Str.ofString "abcdefghi"),.str (Str.ofString ""),.ref tu,.ref li,.ref de])):=qi hls
   have hS:upd HD ls (.lst [.non,.int 7,.bl true,.str (Str.ofString "abcdefghi"),.str (Str.ofString ""),.ref tu,.ref li,.ref de]) ls=some (.lst [.non,.int 7,.bl true,.str (Str.ofString "abcdefghi"),.str (Str.ofString ""),.ref tu,.ref li,.ref de]):=qd
   generalize upd HD ls (.lst [.non,.int 7,.bl true,.str (Str.ofString "abcdefghi"),.str (Str.ofString ""),.ref tu,.ref li,.ref de])=HS at sS hS
   have s1S:Same H1 HS:=sU.trans (sV.trans (sD.trans sS))
   have sHS:Same H HS:=s1.trans s1S
   have bad:∀v∈[V.non,.int 7,.bl true,.str (Str.ofString "abcdefghi"),.str (Str.ofString ""),.ref tu,.ref li,.ref de],ZQ K HS (rs.map (·.1)) v/\Cmp K HS v:=λv hv=>by
     simp only[tV,zbe,or_false]at hv
     rcases hv with rfl | rfl | rfl | rfl | rfl | rfl | rfl | rfl
     . exact⟨.inl ⟨.none,.non,rfl,zal _,λz _=>rfl⟩,.inr ⟨.none,.non,rfl,rfl⟩⟩
     . exact⟨.inl ⟨.int 7,.int 7,rfl,zal _,λz _=>rfl⟩,.inr ⟨.int 7,.int 7,rfl,rfl⟩⟩
     . exact⟨.inl ⟨.bool true,.bl true,rfl,zal _,λz _=>rfl⟩,.inr ⟨.bool true,.bl true,rfl,rfl⟩⟩
     . exact⟨Xe (by decide+kernel) (by decide+kernel) nmz,zh (by decide+kernel)⟩
     . exact⟨Xe (by decide+kernel) (by decide+kernel) nmz,zh (by decide+kernel)⟩
     . exact⟨.inl ⟨.tuple [.str (Str.ofString "a")],.tup (.of (sS _ _ (sD _ _ (sV _ _ hU)))) (.cons (.str _) .nil),by decide+kernel,by decide+kernel,λz _=>rfl⟩,.inl ⟨_,rfl⟩⟩
     . exact⟨.inl ⟨.list [.str (Str.ofString "b")],.lst (.of (sS _ _ (sD _ _ hV))) (.cons (.str _) .nil),by decide+kernel,by decide+kernel,λz _=>rfl⟩,.inl ⟨_,rfl⟩⟩
     . exact⟨.inr ⟨de,[],rfl,sS _ _ hDe⟩,.inl ⟨_,rfl⟩⟩
   have l8:[V.non,.int 7,.bl true,.str (Str.ofString "abcdefghi"),.str (Str.ofString ""),.ref tu,.ref li,.ref de].length=8:=rfl
   generalize [V.non,.int 7,.bl true,.str (Str.ofString "abcdefghi"),.str (Str.ofString ""),.ref tu,.ref li,.ref de]=xs at hS bad l8
   have hdS:=sHS _ _ hd
   have keepL:∀{X:Hp} {b:Addr} {u:HO},Fr HS d X->HS b=some u->(∀kvs,u≠.dK kvs)->X b=some u:=λ{X b u} fr hb nu=>fr _ _ hb λe=>by rw[e,hdS]at hb;exact nu _ (tL.inj hb).symm
   refine⟨_,rfl,d,8,n,sd,t,rfl,hdS,by decide,by decide,λrr n1 t1 rr0 rr1=>?_⟩
   have fr1:Fr HS d (upd HS d (.dK (src n1 sd t1))):=Fr.refl.at_d
   obtain⟨v,ev⟩:∃v,xs[rr.toNat]?=some v:=⟨_,tF (by omega)⟩
   have erl:rr=((rr.toNat:Nat):Int):=by omega
   refine⟨ls,_,rr,v,rfl,rfl,.of (keepL fr1 hS (λ_ e=>nomatch e)),by rw[erl];exact Zx ev,?_⟩
   refine⟨_,rfl,d,4,n1,sd,t1,rfl,qd,by decide,by decide,λwy n2 t2 wy0 wy1=>?_⟩
   have fr2:Fr HS d (upd (upd HS d (.dK (src n1 sd t1))) d (.dK (src n2 sd t2))):=fr1.at_d
   have hd2:upd (upd HS d (.dK (src n1 sd t1))) d (.dK (src n2 sd t2)) d=some (.dK (src n2 sd t2)):=qd
   generalize upd (upd HS d (.dK (src n1 sd t1))) d (.dK (src n2 sd t2))=X2 at fr2 hd2
   obtain⟨nov,cmv⟩:=bad v (t7 ev)
   have nov2:=nov.src hdS hd2 fr2
   have cmv2:=cmv.src hdS fr2
   have hl2:X2 ln=some (.lst ((rs.map (·.1)).map V.str)):=keepL fr2 (s1S _ _ hl1) (λ_ e=>nomatch e)
   have hh2:X2 h=some (.lst (hs.map V.str)):=keepL fr2 (sHS _ _ hh.at_) (λ_ e=>nomatch e)
   have frH:Fr H d X2:=λb u hb nb=>fr2 b u (sHS _ _ hb) nb
   have l8h:=hh.le
   refine⟨_,rfl,rfl,_,rfl,?_⟩
   by_cases w0:wy=0
   . refine Qb (decide_eq_true (by rw[w0])) ?_
     refine⟨_,rfl,h,_,rfl,.inl ⟨.of hh2,λlt hlt=>?_⟩⟩
     have sL:Same X2 (upd X2 lt (.tup (hs.map V.str))):=qi hlt
     have hL:upd X2 lt (.tup (hs.map V.str)) lt=some (.tup (hs.map V.str)):=qd
     generalize upd X2 lt (.tup (hs.map V.str))=XL at sL hL
     refine⟨rfl,_,rfl,Str.ofString "",h,hs,rfl,rfl,.of (sL _ _ hh2),?_,λde2 hde2=>?_⟩
     . have h1:∀zs:List Str,(∀z∈zs,je z=true)->(zs.map (·.length)).sum<=8*zs.length:=λzs=>by
         induction zs with
         | nil=>intro _;exact tq _
         | cons z zs ih=>
           intro hz
           rw[tQ,zax,zao]
           have:=ih λy hy=>hz y (tY _ hy)
           have:=xv (hz z (zab ..))
           omega
       have h2:=h1 hs λz hz=>nmz z (hsN z hz)
       have e8:(Str.ofString "").length=0:=by decide+kernel
       rw[e8]
       omega
     have sE:Same XL (upd XL de2 (.dK [])):=qi hde2
     have hE:upd XL de2 (.dK []) de2=some (.dK []):=qd
     generalize upd XL de2 (.dK [])=XE at sE hE
     refine⟨by show 6<=sizeLine;decide,λls2 hls2=>?_⟩
     have sF:Same XE (upd XE ls2 (.lst [.non,.ref lt,.str (Txt.join (Str.ofString "") hs),.int 5,.bl true,.ref de2])):=qi hls2
     have hF:upd XE ls2 (.lst [.non,.ref lt,.str (Txt.join (Str.ofString "") hs),.int 5,.bl true,.ref de2]) ls2=some (.lst [.non,.ref lt,.str (Txt.join (Str.ofString "") hs),.int 5,.bl true,.ref de2]):=qd
     generalize upd XE ls2 (.lst [.non,.ref lt,.str (Txt.join (Str.ofString "") hs),.int 5,.bl true,.ref de2])=XF at sF hF
     have s2F:Same X2 XF:=sL.trans (sE.trans sF)
     have hdF:=s2F _ _ hd2
     refine⟨_,rfl,d,6,n2,sd,t2,rfl,hdF,by decide,by decide,λr6 n3 t3 r60 r61=>?_⟩
     have fr3:Fr XF d (upd XF d (.dK (src n3 sd t3))):=Fr.refl.at_d
     have hd3:upd XF d (.dK (src n3 sd t3)) d=some (.dK (src n3 sd t3)):=qd
     generalize upd XF d (.dK (src n3 sd t3))=X3 at fr3 hd3
     have keepF:∀{b:Addr} {u:HO},XF b=some u->(∀kvs,u≠.dK kvs)->X3 b=some u:=λ{b u} hb nu=>fr3 _ _ hb λe=>by rw[e,hdF]at hb;exact nu _ (tL.inj hb).symm
     have hde3:X3 de2=some (.dK []):=fr3 _ _ (sF _ _ hE) λe=>by
       have h1:=sL _ _ hd2
       rw[<-e,hde2]at h1
       cases h1
     have kd:∀u∈[V.non,.ref lt,.str (Txt.join (Str.ofString "") hs),.int 5,.bl true,.ref de2],(∃ty,TyOf K X3 u ty/\zad K ty (.type "list")=some false)/\Cmp K X3 u:=λu hu=>by
       simp only[tV,zbe,or_false]at hu
       rcases hu with rfl | rfl | rfl | rfl | rfl | rfl
       . exact⟨⟨_,.non,S.n⟩,.inr ⟨.none,.non,rfl,rfl⟩⟩
       . exact⟨⟨_,.tup (keepF (sF _ _ (sE _ _ hL)) (λ_ e=>nomatch e)),S.t⟩,.inl ⟨_,rfl⟩⟩
       . exact⟨⟨_,.str _,S.s⟩,zh (RD λz hz=>nmz z (hsN z hz))⟩
       . exact⟨⟨_,.int 5,S.i⟩,.inr ⟨.int 5,.int 5,rfl,rfl⟩⟩
       . exact⟨⟨_,.bl true,S.b⟩,.inr ⟨.bool true,.bl true,rfl,rfl⟩⟩
       . exact⟨⟨_,.dK hde3,S.d⟩,.inl ⟨_,rfl⟩⟩
     have l6:[V.non,.ref lt,.str (Txt.join (Str.ofString "") hs),.int 5,.bl true,.ref de2].length=6:=rfl
     have hF3:=keepF hF (λ_ e=>nomatch e)
     generalize [V.non,.ref lt,.str (Txt.join (Str.ofString "") hs),.int 5,.bl true,.ref de2]=ys at hF3 kd l6 hF
     obtain⟨u,eu⟩:∃u,ys[r6.toNat]?=some u:=⟨_,tF (by omega)⟩
     have er6:r6=((r6.toNat:Nat):Int):=by omega
     refine⟨ls2,_,r6,u,rfl,rfl,.of hF3,by rw[er6];exact Zx eu,?_⟩
     obtain⟨⟨ty,hty,kty⟩,cmu⟩:=kd u (t7 eu)
     refine⟨_,rfl,_,rfl,by show 2<=sizeLine;decide,λtt htt=>⟨by show 2<=sizeLine;decide,λp hp=>?_⟩⟩
     have sP:Same X3 (upd (upd X3 tt (.tup [.str (Str.ofString "heap"),u])) p (.tup [u,.ref tt])):=(qi htt).trans (qi hp)
     refine q p tt u u CH (Str.ofString "heap") n3 t3 _ (λb x hb nb=>sP _ _ (fr3 _ _ (s2F _ _ (frH b x hb nb)) nb)) (sP _ _ hd3) qd (qm qd hp) (.inl ⟨rfl,rfl,ty,Rh.TyOf.mono hty sP,kty⟩) (.inl ⟨rfl,rfl⟩) (cmu.keep sP.keep)
   refine jJ (decide_eq_false λe=>w0 (V.int.inj e)) ?_
   refine⟨_,rfl,rfl,_,rfl,?_⟩
   by_cases w1:wy=1
   . refine Qb (decide_eq_true (by rw[w1])) ?_
     refine⟨_,rfl,ln,9,_,rfl,rfl,hl2,by decide,by decide,zam (ql (by rw[tj,lN];show rs.length*9<=1000;omega)),λp1 hp1=>?_⟩
     have a1:Same X2 (upd X2 p1 (.lst (zah (9:Int).toNat ((rs.map (·.1)).map V.str)).flatten)):=qi hp1
     have b1:upd X2 p1 (.lst (zah (9:Int).toNat ((rs.map (·.1)).map V.str)).flatten) p1=some (.lst (zah (9:Int).toNat ((rs.map (·.1)).map V.str)).flatten):=qd
     have len9:(zah (9:Int).toNat ((rs.map (·.1)).map V.str)).flatten.length=9*rs.length:=by rw[Vp,tj,lN];rfl
     generalize (zah (9:Int).toNat ((rs.map (·.1)).map V.str)).flatten=L9 at a1 b1 len9
     generalize upd X2 p1 (.lst L9)=Y1 at a1 b1
     refine⟨9,rfl,p1,_,rfl,.of b1,λp2 hp2=>?_⟩
     have ec:Zz L9 none (some 9)=L9.take 9:=JD L9 9
     rw[ec]
     have a2:Same Y1 (upd Y1 p2 (.lst (L9.take 9))):=qi hp2
     have b2:upd Y1 p2 (.lst (L9.take 9)) p2=some (.lst (L9.take 9)):=qd
     generalize upd Y1 p2 (.lst (L9.take 9))=Y2 at a2 b2
     refine⟨_,rfl,by show 1<=sizeLine;decide,λp3 hp3=>?_⟩
     have a3:Same Y2 (upd Y2 p3 (.lst [v])):=qi hp3
     have b3:upd Y2 p3 (.lst [v]) p3=some (.lst [v]):=qd
     generalize upd Y2 p3 (.lst [v])=Y3 at a3 b3
     have sY:=a1.trans (a2.trans a3)
     have hdY:=sY _ _ hd2
     refine⟨_,rfl,d,3,n2,sd,t2,rfl,hdY,by decide,by decide,λr3 n3 t3 r30 r31=>?_⟩
     have fr3:Fr Y3 d (upd Y3 d (.dK (src n3 sd t3))):=Fr.refl.at_d
     have hd3:upd Y3 d (.dK (src n3 sd t3)) d=some (.dK (src n3 sd t3)):=qd
     have keepY:∀{b:Addr} {u:HO},Y3 b=some u->(∀kvs,u≠.dK kvs)->upd Y3 d (.dK (src n3 sd t3)) b=some u:=λ{b u} hb nu=>fr3 _ _ hb λe=>by rw[e,hdY]at hb;exact nu _ (tL.inj hb).symm
     have b2':=keepY (a3 _ _ b2) (λ_ e=>nomatch e)
     have b3':=keepY b3 (λ_ e=>nomatch e)
     generalize upd Y3 d (.dK (src n3 sd t3))=Y4 at fr3 hd3 b2' b3'
     have lr3:(zah r3.toNat [v]).flatten.length=r3.toNat:=by rw[Vp];simp
     refine⟨p3,r3,[v],rfl,rfl,b3',by omega,by omega,zam (ql (by show 1*r3.toNat<=1000;omega)),λp4 hp4=>?_⟩
     have a5:Same Y4 (upd Y4 p4 (.lst (zah r3.toNat [v]).flatten)):=qi hp4
     have b5:upd Y4 p4 (.lst (zah r3.toNat [v]).flatten) p4=some (.lst (zah r3.toNat [v]).flatten):=qd
     generalize (zah r3.toNat [v]).flatten=L3 at a5 b5 lr3
     generalize upd Y4 p4 (.lst L3)=Y5 at a5 b5
     have l9:(L9.take 9).length=9:=by rw[tU,len9];have:=g.pos;omega
     refine⟨p2,p4,_,_,rfl,rfl,a5 _ _ b2',b5,zam (ql (by omega)),λp5 hp5=>?_⟩
     have a6:Same Y5 (upd Y5 p5 (.lst (L9.take 9++L3))):=qi hp5
     have b6:upd Y5 p5 (.lst (L9.take 9++L3)) p5=some (.lst (L9.take 9++L3)):=qd
     generalize upd Y5 p5 (.lst (L9.take 9++L3))=Y6 at a6 b6
     have l12:(L9.take 9++L3).length=9+r3.toNat:=by rw[tI,l9,lr3]
     refine⟨_,rfl,_,rfl,p5,_,rfl,.inl (.of b6),by show 2<=sizeLine;decide,λtt htt=>⟨by show 2<=sizeLine;decide,λp hp=>?_⟩⟩
     have sP:Same Y6 (upd (upd Y6 tt (.tup [.str (Str.ofString "many"),.int ((L9.take 9++L3).length:Nat)])) p (.tup [.ref p5,.ref tt])):=(qi htt).trans (qi hp)
     refine q p tt (.ref p5) (.int ((L9.take 9++L3).length:Nat)) CT (Str.ofString "many") n3 t3 _ (λb x hb nb=>sP _ _ (a6 _ _ (a5 _ _ (fr3 _ _ (sY _ _ (frH b x hb nb)) nb)))) (sP _ _ (a6 _ _ (a5 _ _ hd3))) qd (qm qd hp) (.inr (.inl ⟨rfl,p5,_,rfl,sP _ _ b6,by omega,by omega,rfl⟩)) (.inr (.inl ⟨rfl,rfl⟩)) (.inr ⟨.int _,.int _,rfl,rfl⟩)
   refine jJ (decide_eq_false λe=>w1 (V.int.inj e)) ?_
   have ec7:Zz (hs.map V.str) none (some 7)=(hs.take 7).map V.str:=by
     have:=JD (hs.map V.str) 7
     rw[<-zcy]at this
     exact this
   refine⟨_,rfl,_,rfl,7,rfl,h,_,rfl,.of hh2,λp1 hp1=>?_⟩
   rw[ec7]
   have a1:Same X2 (upd X2 p1 (.lst ((hs.take 7).map V.str))):=qi hp1
   have b1:upd X2 p1 (.lst ((hs.take 7).map V.str)) p1=some (.lst ((hs.take 7).map V.str)):=qd
   generalize upd X2 p1 (.lst ((hs.take 7).map V.str))=Y1 at a1 b1
   have hdY1:=a1 _ _ hd2
   have l7:(hs.take 7).length<=7:=zcH ..
   refine⟨p1,_,rfl,.inl (.of b1),_,_,rfl,rfl,d,_,n2,sd,t2,rfl,hdY1,by show (0:Int) < _+1;omega,?_,λaa n3 t3 aa0 aa1=>?_⟩
   . rw[tj]
     exact zaZ (show _<=8 by omega) (by decide)
   rw[tj]at aa1
   obtain⟨k,rfl⟩:∃k:Nat,aa=(k:Int):=⟨aa.toNat,by omega⟩
   have kle:k<=(hs.take 7).length:=by omega
   have fr3:Fr Y1 d (upd Y1 d (.dK (src n3 sd t3))):=Fr.refl.at_d
   have hd3:upd Y1 d (.dK (src n3 sd t3)) d=some (.dK (src n3 sd t3)):=qd
   generalize upd Y1 d (.dK (src n3 sd t3))=X3 at fr3 hd3
   have fr23:Fr X2 d X3:=λb u hb nb=>fr3 _ _ (a1 _ _ hb) nb
   have hh3:X3 h=some (.lst (hs.map V.str)):=fr23 _ _ hh2 λe=>by rw[e,hd2]at hh2;cases hh2
   have hl3:X3 ln=some (.lst ((rs.map (·.1)).map V.str)):=fr23 _ _ hl2 λe=>by rw[e,hd2]at hl2;cases hl2
   have nov3:=nov2.src hd2 hd3 fr23
   have cmv3:=cmv2.src hd2 fr23
   have frH3:Fr H d X3:=frH.trans fr23
   refine⟨_,rfl,7,rfl,h,_,rfl,.of hh3,λp2 hp2=>?_⟩
   rw[ec7]
   have a2:Same X3 (upd X3 p2 (.lst ((hs.take 7).map V.str))):=qi hp2
   have b2:upd X3 p2 (.lst ((hs.take 7).map V.str)) p2=some (.lst ((hs.take 7).map V.str)):=qd
   generalize upd X3 p2 (.lst ((hs.take 7).map V.str))=Y2 at a2 b2
   refine⟨_,rfl,(k:Int),rfl,p2,_,rfl,.of b2,λp3 hp3=>?_⟩
   rw[JD,<-zcy]
   have a3:Same Y2 (upd Y2 p3 (.lst (((hs.take 7).take k).map V.str))):=qi hp3
   have b3:upd Y2 p3 (.lst (((hs.take 7).take k).map V.str)) p3=some (.lst (((hs.take 7).take k).map V.str)):=qd
   generalize upd Y2 p3 (.lst (((hs.take 7).take k).map V.str))=Y3 at a3 b3
   refine⟨_,rfl,by show 1<=sizeLine;decide,λp4 hp4=>?_⟩
   have a4:Same Y3 (upd Y3 p4 (.lst [v])):=qi hp4
   have b4:upd Y3 p4 (.lst [v]) p4=some (.lst [v]):=qd
   generalize upd Y3 p4 (.lst [v])=Y4 at a4 b4
   have lk:((hs.take 7).take k).length=k:=by rw[tU];omega
   refine⟨p3,p4,_,_,rfl,rfl,a4 _ _ b3,b4,zam (ql (by rw[tj,lk];show k+1<=1000;omega)),λp5 hp5=>?_⟩
   have a5:Same Y4 (upd Y4 p5 (.lst (((hs.take 7).take k).map V.str++[v]))):=qi hp5
   have b5:upd Y4 p5 (.lst (((hs.take 7).take k).map V.str++[v])) p5=some (.lst (((hs.take 7).take k).map V.str++[v])):=qd
   generalize upd Y4 p5 (.lst (((hs.take 7).take k).map V.str++[v]))=Y5 at a5 b5
   have s35:Same X3 Y5:=a2.trans (a3.trans (a4.trans a5))
   refine⟨_,rfl,7,rfl,h,_,rfl,.of (s35 _ _ hh3),λp6 hp6=>?_⟩
   rw[ec7]
   have a6:Same Y5 (upd Y5 p6 (.lst ((hs.take 7).map V.str))):=qi hp6
   have b6:upd Y5 p6 (.lst ((hs.take 7).map V.str)) p6=some (.lst ((hs.take 7).map V.str)):=qd
   generalize upd Y5 p6 (.lst ((hs.take 7).map V.str))=Y6 at a6 b6
   refine⟨_,rfl,(k:Int),rfl,p6,_,rfl,.of b6,λp7 hp7=>?_⟩
   rw[Kt,<-List.map_drop]
   have a7:Same Y6 (upd Y6 p7 (.lst (((hs.take 7).drop k).map V.str))):=qi hp7
   have b7:upd Y6 p7 (.lst (((hs.take 7).drop k).map V.str)) p7=some (.lst (((hs.take 7).drop k).map V.str)):=qd
   generalize upd Y6 p7 (.lst (((hs.take 7).drop k).map V.str))=Y7 at a7 b7
   have ldr:((hs.take 7).drop k).length=(hs.take 7).length - k:=zdf ..
   refine⟨p5,p7,_,_,rfl,rfl,a7 _ _ (a6 _ _ b5),b7,zam (ql (by rw[tI,tj,tj,lk,ldr];show k+1+_<=1000;omega)),λp8 hp8=>?_⟩
   have a8:Same Y7 (upd Y7 p8 (.lst (((hs.take 7).take k).map V.str++[v]++((hs.take 7).drop k).map V.str))):=qi hp8
   have b8:upd Y7 p8 (.lst (((hs.take 7).take k).map V.str++[v]++((hs.take 7).drop k).map V.str)) p8=some (.lst (((hs.take 7).take k).map V.str++v::((hs.take 7).drop k).map V.str)):=by
     rw[qd,zbu]
     rfl
   generalize upd Y7 p8 (.lst (((hs.take 7).take k).map V.str++[v]++((hs.take 7).drop k).map V.str))=Y8 at a8 b8
   have s38:Same X3 Y8:=s35.trans (a6.trans (a7.trans a8))
   have inA:∀z∈(hs.take 7).take k,z∈rs.map (·.1):=λz hz=>hsN z (zaK (zaK hz))
   have inB:∀z∈(hs.take 7).drop k,z∈rs.map (·.1):=λz hz=>hsN z (zaK (zdB hz))
   generalize hA:(hs.take 7).take k=As at lk inA b8
   generalize hB:(hs.take 7).drop k=Bs at ldr inB b8
   refine⟨λσ' X=>∃(p':Addr) (pre:List Str) (fv:V) (rest:List V),σ'=[some (.ref d),some (.ref l),some (.ref h),some (.ref ln),some v,some (.int wy),some (.ref p'),some (.int (k:Nat))]/\Same X3 X/\X p'=some (.lst (pre.map V.str++fv::rest))/\(pre.map V.str++fv::rest).length<=8/\(∀z∈pre,z∈rs.map (·.1))/\ZQ K X (rs.map (·.1)) fv/\Cmp K X fv/\∀u∈rest,Kz K X (rs.map (·.1)) u,?_,?_⟩
   . refine⟨_,rfl,rfl,_,rfl,?_⟩
     have nov8:=nov3.keep s38.keep
     have cmv8:=cmv3.keep s38.keep
     by_cases w2:wy=2
     . refine Qb (decide_eq_true (by rw[w2])) ?_
       refine⟨_,rfl,7,rfl,p8,_,rfl,.of b8,λp9 hp9=>?_⟩
       have ec:Zz (As.map V.str++v::Bs.map V.str) none (some 7)=(As.map V.str++v::Bs.map V.str).take 7:=JD _ 7
       rw[ec]
       have a9:Same Y8 (upd Y8 p9 (.lst ((As.map V.str++v::Bs.map V.str).take 7))):=qi hp9
       have b9:upd Y8 p9 (.lst ((As.map V.str++v::Bs.map V.str).take 7)) p9=some (.lst ((As.map V.str++v::Bs.map V.str).take 7)):=qd
       generalize upd Y8 p9 (.lst ((As.map V.str++v::Bs.map V.str).take 7))=Y9 at a9 b9
       refine⟨by show 1<=sizeLine;decide,λp10 hp10=>?_⟩
       have lt7:((As.map V.str++v::Bs.map V.str).take 7).length<=7:=zcH ..
       refine⟨p9,p10,_,_,rfl,rfl,qm b9 hp10,qd,zam (ql (by show _+1<=1000;omega)),λp11 hp11=>?_⟩
       have sE:Same Y8 (upd (upd Y9 p10 (.lst [.str (Str.ofString "nosuchabc")])) p11 (.lst ((As.map V.str++v::Bs.map V.str).take 7++[.str (Str.ofString "nosuchabc")]))):=a9.trans ((qi hp10).trans (qi hp11))
       have bE:upd (upd Y9 p10 (.lst [.str (Str.ofString "nosuchabc")])) p11 (.lst ((As.map V.str++v::Bs.map V.str).take 7++[.str (Str.ofString "nosuchabc")])) p11=some (.lst ((As.map V.str++v::Bs.map V.str).take 7++[.str (Str.ofString "nosuchabc")])):=qd
       generalize upd (upd Y9 p10 (.lst [.str (Str.ofString "nosuchabc")])) p11 (.lst ((As.map V.str++v::Bs.map V.str).take 7++[.str (Str.ofString "nosuchabc")]))=YE at sE bE
       have nn:ZQ K YE (rs.map (·.1)) (.str (Str.ofString "nosuchabc")):=Xe (by decide+kernel) (by decide+kernel) nmz
       rcases zbE k 7 with c7 | c7
       . have e7:(As.map V.str++v::Bs.map V.str).take 7++[.str (Str.ofString "nosuchabc")]=As.map V.str++v::((Bs.map V.str).take (6 - k)++[.str (Str.ofString "nosuchabc")]):=by
           rw[List.take_append,tj,lk,tH (by rw[tj,lk];omega)]
           have:7 - k=(6 - k)+1:=by omega
           rw[this,List.take_succ_cons,zbu]
           rfl
         rw[e7]at bE
         have l8:(As.map V.str++v::((Bs.map V.str).take (6 - k)++[.str (Str.ofString "nosuchabc")])).length<=8:=by
           rw[<-e7,tI]
           show _+1<=8
           omega
         refine⟨p11,As,v,_,rfl,s38.trans sE,bE,l8,inA,nov8.keep sE.keep,cmv8.keep sE.keep,λu hu=>?_⟩
         rcases t9.mp hu with hu | hu
         . obtain⟨z,hz,rfl⟩:=tE.mp (zaK hu)
           exact .inl ⟨z,inB z hz,rfl⟩
         . rw[tX.mp hu]
           exact .inr ⟨nn,zh (by decide+kernel)⟩
       . have e7:(As.map V.str++v::Bs.map V.str).take 7=As.map V.str:=by
           rw[List.take_append,tj,lk,tH (by rw[tj,lk];omega)]
           have:7 - k=0:=by omega
           rw[this,zdA,zaH]
         rw[e7]at bE
         exact⟨p11,As,.str (Str.ofString "nosuchabc"),[],rfl,s38.trans sE,bE,by rw[tI,tj,lk];show k+1<=8;omega,inA,nn,zh (by decide+kernel),λu hu=>nomatch hu⟩
     . refine jJ (decide_eq_false λe=>w2 (V.int.inj e)) ?_
       refine⟨p8,As,v,_,rfl,s38,b8,by rw[tI,tj,zao,tj,lk,ldr];omega,inA,nov8,cmv8,λu hu=>?_⟩
       obtain⟨z,hz,rfl⟩:=tE.mp hu
       exact .inl ⟨z,inB z hz,rfl⟩
   . rintro σ' X ⟨p',pre,fv,rest,rfl,sX,hp',len8,preN,nofv,cmfv,tok⟩
     refine⟨_,rfl,p',_,rfl,.inl (.of hp'),_,_,rfl,rfl,_,rfl,jJ (decide_eq_false (by omega)) ?_⟩
     refine⟨_,rfl,_,rfl,p',rfl,⟨_,.of hp'⟩,λU hU=>?_⟩
     have toks:∀u∈pre.map V.str++fv::rest,Kz K X (rs.map (·.1)) u:=λu hu=>by
       rcases t9.mp hu with hu | hu
       . obtain⟨z,hz,rfl⟩:=tE.mp hu
         exact .inl ⟨z,preN z hz,rfl⟩
       . rcases tV.mp hu with rfl | hu
         . exact .inr ⟨nofv,cmfv⟩
         . exact tok u hu
     refine zL (K:=K) (a:=p') (xs:=pre.map V.str++fv::rest) (enc:=id) (out:=y2 (rs.map (·.1))) (rest:=[some (.ref ln)]) hU (by rw[List.map_id];exact hp') (ql (by omega)) ?_ ?_ ?_
     . intro u hu X' s5 R' kk
       have hlX:=s5 _ _ (sX _ _ hl3)
       have kk':=kk X' λ_ _ h=>h
       have canN:=RZ nmz
       rcases(toks u hu).same s5.keep with ⟨z,hz,rfl⟩ | ⟨np,_⟩
       . have eo:y2 (rs.map (·.1)) (.str z)=none:=by
           show (if z∈rs.map (·.1) then none else some (V.str z))=none
           rw[if_pos hz]
         rw[eo]at kk'
         refine⟨_,rfl,_,rfl,.inl ⟨.str z,_,.str z,vK hlX,kS (nmz z hz),canN,zal _,_,rfl,?_⟩⟩
         have:((rs.map (·.1)).map PyData.str).any (λy=>PyData.eqv y (.str z))=true:=by
           rw[zbk]
           refine⟨.str z,tE.mpr ⟨z,hz,rfl⟩,?_⟩
           show (z==z)=true
           exact beq_self_eq_true z
         show R' (!_) X'
         rw[this]
         exact kk'
       . rw[np.notin λ_ _=>trivial]at kk'
         rcases np with ⟨dd,dv,cl,dp,no⟩ | ⟨c1,kvs,rfl,hc1⟩
         . refine⟨_,rfl,_,rfl,.inl ⟨dd,_,dv,vK hlX,cl,canN,dp,_,rfl,?_⟩⟩
           have:((rs.map (·.1)).map PyData.str).any (λy=>PyData.eqv y dd)=false:=by
             rw[zcW]
             intro y hy
             obtain⟨z,hz,rfl⟩:=tE.mp hy
             rw[no z hz]
             exact tK
           show R' (!_) X'
           rw[this]
           exact kk'
         . exact⟨_,rfl,_,rfl,.inr ⟨c1,ln,kvs,rs.map (·.1),rfl,rfl,hc1,.of hlX,_,rfl,kk'⟩⟩
     . intro u hu v' ev' X' s5 R' kk
       have:v'=u:=by
         cases u with
         | str z=>
           have ev2:(if z∈rs.map (·.1) then none else some (V.str z))=some v':=ev'
           split at ev2
           . cases ev2
           . exact(tL.inj ev2).symm
         | _=>exact(tL.inj ev').symm
       subst this
       exact⟨_,rfl,kk X' λ_ _ h=>h⟩
     . intro X4 s4 hU4
       have ef:(pre.map V.str++fv::rest).filterMap (y2 (rs.map (·.1)))=fv::rest.filterMap (y2 (rs.map (·.1))):=by
         rw[zaq,zaf,nofv.notin λ_ _=>trivial]
         have:(pre.map V.str).filterMap (y2 (rs.map (·.1)))=[]:=by
           rw[zcU]
           intro u hu
           obtain⟨z,hz,rfl⟩:=tE.mp hu
           show (if z∈rs.map (·.1) then none else some (V.str z))=none
           rw[if_pos (preN z hz)]
         rw[this]
         rfl
       rw[ef]at hU4
       refine⟨U,_,0,_,rfl,rfl,.of hU4,Zx (j:=0) rfl,by show 2<=sizeLine;decide,λtt htt=>⟨by show 2<=sizeLine;decide,λp hp=>?_⟩⟩
       have sP:Same X4 (upd (upd X4 tt (.tup [.str (Str.ofString "place"),fv])) p (.tup [.ref p',.ref tt])):=(qi htt).trans (qi hp)
       have sXP:=s4.trans sP
       have s3P:=sX.trans sXP
       exact q p tt (.ref p') fv CP (Str.ofString "place") n3 t3 _ (frH3.same s3P) (s3P _ _ hd3) qd (qm qd hp) (.inr (.inr ⟨rfl,p',pre,rest,rfl,sXP _ _ hp',len8,preN,nofv.keep sXP.keep⟩)) (.inr (.inr ⟨rfl,rfl⟩)) (cmfv.keep sXP.keep)
end
abbrev Gq:Stmt:=top 74
def wD (u:W):PyData:=.tuple [.str (Qk u),.int (zo u:Nat)]
theorem Ng {K:PySem.W.Frag} {H:Hp} {t:Addr} {u:W} (h:H t=some (.tup (tW u))):DV K H (.ref t) (wD u):=by
 rw[VU]at h
 exact .tup (.of h) (.cons (.str _) (.cons (.int _) .nil))
theorem okN:PyData.strOk "number"=true:=by decide+kernel
theorem okE:PyData.strOk "endless"=true:=by decide+kernel
theorem qac (u:W):PySem.SeqAt.shaped (wD u)=true:=by
 unfold PySem.SeqAt.shaped wD
 cases u with
 | num n=>
   simp only[Qk,PyData.canLay0,PyData.canLayAll0,okN,PyData.depth,PyData.depthAll]
   rfl
 | edl n=>
   simp only[Qk,PyData.canLay0,PyData.canLayAll0,okE,PyData.depth,PyData.depthAll]
   rfl
theorem u8 (u:W):decide (V.str (Qk u)=V.str (Str.ofString "endless"))=isE u:=by
 cases u with
 | num n=>exact wE
 | edl b=>exact decide_eq_true rfl
def wm (CG:Addr):Sp:=λvs H Q _=>∃(g h:Addr) (rs:jf) (hs:List Str),vs=[.ref g,.ref h]/\jZ CG H g rs/\qy rs/\rs.length<=14/\jY H h rs hs/\
 ∀H' R,Same H H'->All (JJ rs) (rs.map (·.1)) 0 [] R->Q (.str (XU (jP (hs.map (wT rs R))))) H'
def Nr (CG:Addr):Sp:=λvs H Q _=>∃(g D h:Addr) (rs:jf) (F:Str->W) (hs:List Str),vs=[.ref g,.ref D,.ref h]/\jZ CG H g rs/\qy rs/\rs.length<=14/\Yf H D F (rs.map (·.1))/\(∀R,All (JJ rs) (rs.map (·.1)) 0 [] R->∀z∈rs.map (·.1),F z=wT rs R z)/\(∀z∈rs.map (·.1),Rb.okW (F z))/\jY H h rs hs/\∀H',Same H H'->Q (.bl true) H'
section
variable {P:Program} {w:World} {K:PySem.W.Frag} {mg:Str->Option Value} {base:Heap}
theorem Ra {f CG:Addr} {fd:FuncData} (F:jQ K "outcome" "outcome" zT f fd) (h:WF K mg) (B:Qy mg) (Z:Wk K mg) (G:Qd mg) (T:Qn K mg) (M:GM K mg CG) (Y:VI K mg) (O:zO K mg):qo P w K mg base qN 10 f fd ["ground","heap"] (wm CG):=by
 obtain⟨fW,fdW,hW⟩:=O.hw
 have GW:qo P w K mg base qN 9 fW fdW ["ground","heap"] (K1 CG h.CN h.CE):=uF hW.fn h B Z G T M Y O
 refine F.okJ UY (λvs H Q E z=>?_) (λcdv A outer s H vs Q E hr z=>?_)
 . obtain⟨g,h',rs,hs,rfl,_⟩:=z
   rfl
 . obtain⟨g,h',rs,hs,rfl,gr,good,le,hh,q⟩:=z
   refine⟨_,qh (qw (zc h B (hr.mono (by decide)) (qH hW GW hr (by rfl) (qb (jv 0) (qb (jv 1) qe))))),?_⟩
   refine⟨_,rfl,_,rfl,g,h',rs,hs,rfl,gr,good,le,hh,λa H1 R s1 all i1=>⟨a,_,rfl,i1,?_,λH2 s2=>q H2 R (s1.trans s2) all⟩⟩
   refine YA λu hu=>?_
   obtain⟨z,hz,rfl⟩:=tE.mp hu
   obtain⟨r,hr',e⟩:=hh.in_ z hz
   exact xV good (xo (JZ good.nd) all) (tE.mpr ⟨r,hr',e⟩)
abbrev nHR:List Str:=["_law_ground","_law_worths_here","_law_heap_here","_law_handed","_law_due","_law_found"]
abbrev pHR:List Str:=["_law_ground","_law_worths_here","_law_heap_here"]
theorem Gf:qr nHR pHR (qk Gq):=⟨rfl,rfl,rfl,by decide+kernel,rfl,by decide+kernel,by decide+kernel⟩
theorem Md {f CG fT fO:Addr} {fd fdT fdO:FuncData} (F:jQ K "_law_heap_right" "_law_heap_right" Gq f fd) (h:WF K mg) (B:Qy mg) (Z:Wk K mg) (kib:zad K (.type "int") (.type "bool")=some false) (G:Qd mg) (T:Qn K mg) (M:GM K mg CG) (Y:VI K mg) (O:zO K mg)
   (hT:jm K mg "_law_total" YI ["_law_worths_here"] fT fdT) (hO:jm K mg "_law_outcome" sLO ["_law_worth"] fO fdO) {f2:Addr} {fd2:FuncData} (h2:jm K mg "outcome" zT ["ground","heap"] f2 fd2):qo P w K mg base qN 11 f fd pHR (Nr CG):=by
 obtain⟨f1,fd1,h1⟩:=O.hw
 have GT:qo P w K mg base qN 1 fT fdT ["_law_worths_here"] Nl:=um hT.fn B T
 have GO:qo P w K mg base qN 1 fO fdO ["_law_worth"] qan:=qaO hO.fn B
 have G1:qo P w K mg base qN 9 f1 fd1 ["ground","heap"] (K1 CG h.CN h.CE):=uF h1.fn h B Z G T M Y O
 have G2:qo P w K mg base qN 10 f2 fd2 ["ground","heap"] (wm CG):=Ra h2.fn h B Z G T M Y O
 refine F.okJ Gf (λvs H Q E z=>?_) (λcdv A outer s H vs Q E hr z=>?_)
 . obtain⟨g,D,h',rs,Fw,hs,rfl,_⟩:=z
   rfl
 . obtain⟨g,D,h',rs,Fw,hs,rfl,gr,good,le14,wt,hF,okF,hh,q⟩:=z
   have hu:=Qu hr
   have r1:qR 1 _:=hr.mono (by decide)
   have r2:qR 2 _:=hr.mono (by decide)
   have r9:qR 9 _:=hr.mono (by decide)
   refine⟨_,qf (qv (i:=3) Gf.nd rfl (Or.inl rfl) (jr Qx (by rfl) G.lst boot_list (qb (jv 2) qe)))
     (qf (qv (i:=4) Gf.nd rfl (Or.inl rfl) (qH hT GT r1 (by rfl) (qb (jM (N':=["_law_name","_law_worths_here"]) (ix:=[none,some 1]) rfl ⟨rfl,rfl,rfl,rfl,rfl⟩ (qG (jv 2)) (λC s2 H2 fp pins=>
               ⟨qu (i:=0) (show (["_law_name","_law_worths_here"]:List Str).Nodup by decide+kernel) rfl (Or.inl rfl),ju,jk hu (jv 1) (jv 0) (λ_ _=>rfl)⟩)) qe)))
     (qf (qv (i:=5) Gf.nd rfl (Or.inl rfl) (qH h1 G1 r9 (by rfl) (qb (jv 0) (qb (jv 3) qe))))
     (qf (qM (JW.pt (Jd (qt (U8 hr.units) (k8 h r1 (jv 5)) (jv 4) (qx _)) (Jd (jL (qB jC (by rfl) T.isi boot_isinstance (qb (qX jF (k8 h r1 (jv 5)) qj (λ_ _=>rfl)) (qb (QV (v:=.ty "bool") (by rfl) Z.bool boot_bool rfl) qe)))) (QC (qt (U8 hr.units) (jv 3) (jv 2) (qx _)))))) (qh (qw jT)) qA)
     (qf (qM (JW.pt (Jd (qt Ug (zc h B r2 (jv 5)) (qH hO GO r1 (by rfl) (qb (jv 4) qe)) (qx _)) (QC (qt Ug (vk h r1 (jv 5)) (Qa j5 (qX jF (jv 4) qj (λ_ _=>rfl)) qD (qx _)) (qx _))))) (qh (qw jT)) qA)
     (qh (qw (Zh (Qa j5 (qH h2 G2 (hr.mono (by decide)) (by rfl) (qb (jv 0) (qb (jv 3) qe))) (qH hO GO r1 (by rfl) (qb (jv 4) qe)) (qx _)) (zE (Qa (N9 hr.units) (jv 3) (jv 2) (qx _)))))))))),?_⟩
   have hsN:∀z∈hs,z∈rs.map (·.1):=λz hz=>tE.mpr (hh.in_ z hz)
   have nmz:∀z∈hs,je z=true:=λz hz=>by
     obtain⟨r',hr',rfl⟩:=hh.in_ z hz
     exact good.nm r' hr'
   have l8:=hh.le
   refine⟨_,rfl,h',_,rfl,.inl (.of hh.at_),λhd hhd=>?_⟩
   have s1:Same H (upd H hd (.lst (hs.map V.str))):=qi hhd
   have hd1:upd H hd (.lst (hs.map V.str)) hd=some (.lst (hs.map V.str)):=qd
   generalize upd H hd (.lst (hs.map V.str))=H1 at s1 hd1
   have wt1:=wt.mono s1
   have hh1:=s1 _ _ hh.at_
   refine⟨_,rfl,h',rfl,⟨_,.of hh1⟩,λW hW=>?_⟩
   refine jN (K:=K) (a:=h') (xs:=hs.map V.str) (λm σ'' G6=>∃(v0:Option V) (us:List Addr),σ''=[v0,some (.ref D)]/\Same H1 G6/\G6 W=some (.lst (us.map V.ref))/\Tl G6 us ((hs.take m).map Fw))
     ⟨none,[],rfl,qi hW,qd,rfl,λi p u e=>(nomatch e)⟩ (λm σ'' G6 _ ⟨_,_,_,s,_⟩=>.of (s _ _ hh1)) ?_ ?_
   . rintro m y σ'' G6 hy ⟨v0,us,rfl,s6,hW6,tl⟩
     obtain⟨z,ezz,hzz,rfl⟩:=JL hy
     have hm':=(tw.mp ezz).1
     obtain⟨t,gt,ht⟩:=(wt1.mono s6).get (z:=z) (hsN z hzz)
     have lu:=tl.1
     rw[tj,tU]at lu
     refine⟨_,rfl,_,rfl,D,_,rfl,gt,_,hW6,by rw[tj];exact ql (by omega),_,us++[t],rfl,Same.upd s6 hW,by rw[tG];exact qd,?_⟩
     rw[tS,ezz,tG]
     exact(tl.snoc (u:=Fw z) ht).tk (TK.upd hW6 λxs=>by simp)
   . rintro σ'' G6 ⟨v0,us,rfl,s6,hW6,tl⟩
     rw[tj,tH (tq _)]at tl
     have okT:∀u∈hs.map Fw,okW u:=λu hu=>by
       obtain⟨z,hzz,rfl⟩:=tE.mp hu
       exact okF z (hsN z hzz)
     refine⟨W,us,_,rfl,hW6,tl,okT,by rw[tj];exact l8,λH2 p s2 hp=>?_⟩
     have s02:Same H H2:=s1.trans (s6.trans s2)
     have hd2:=(s6.trans s2) _ _ hd1
     have hhd2:jY H2 hd rs hs:=⟨hd2,hh.le,hh.in_⟩
     refine⟨_,rfl,_,rfl,g,hd,rs,hs,rfl,gr.mono s02,good,le14,hhd2,λa H3 R s3 all ia=>?_⟩
     have eF:hs.map Fw=hs.map (wT rs R):=zaS λz hz=>hF R all z (hsN z hz)
     rw[<-eF]at ia
     have okt:okW (jP (hs.map Fw)):=YA okT
     have e2:∀R2,All (JJ rs) (rs.map (·.1)) 0 [] R2->hs.map (wT rs R2)=hs.map Fw:=λR2 all2=>(zaS λz hz=>hF R2 all2 z (hsN z hz)).symm
     generalize hs.map Fw=ws at hp ia okt e2
     have hp3:=s3 _ _ hp
     refine⟨_,rfl,a,_,rfl,ia,λt ht=>⟨_,rfl,wD (jP ws),Ng (by rw[VU];exact qd),Ng (qm hp3 ht),qac _,_,rfl,jh ?_⟩⟩
     have s4:=qi (o:=HO.tup [.str (Qk (jP ws)),.int (zo (jP ws):Nat)]) ht
     generalize upd H3 t (HO.tup [.str (Qk (jP ws)),.int (zo (jP ws):Nat)])=H4 at s4
     refine⟨_,rfl,a,_,rfl,(Q7.same ia s4),λt2 ht2=>⟨t2,_,1,_,rfl,rfl,.of qd,rfl,_,_,_,_,rfl,rfl,.int _,kib,_,rfl,jh ?_⟩⟩
     have s5:=s4.trans (qi (o:=HO.tup [.str (Qk (jP ws)),.int (zo (jP ws):Nat)]) ht2)
     generalize upd H4 t2 (HO.tup [.str (Qk (jP ws)),.int (zo (jP ws):Nat)])=H5 at s5
     have s25:=s3.trans s5
     refine⟨_,rfl,_,rfl,dL hs,vK (s25 _ _ hd2),vK ((s02.trans s25) _ _ hh.at_),shL nmz,_,rfl,jh ?_⟩
     refine⟨_,rfl,a,_,rfl,(Q7.same ia s5),okt,λH6 s56=>?_⟩
     refine⟨_,rfl,p,_,rfl,s56 _ _ (s25 _ _ hp),λH7 s67=>⟨rfl,_,rfl,?_⟩⟩
     rw[decide_eq_true rfl]
     refine jh ?_
     have s57:=s56.trans s67
     have s27:=s25.trans s57
     have hp7:=s27 _ _ hp
     rw[VU]at hp7
     refine⟨_,rfl,a,_,rfl,(Q7.same ia (s5.trans s57)),_,rfl,p,_,0,_,rfl,rfl,.of hp7,rfl,rfl,rfl,_,rfl,?_⟩
     rw[u8,decide_eq_true rfl]
     refine jh ?_
     refine⟨_,rfl,_,rfl,g,hd,rs,hs,rfl,gr.mono (s02.trans s27),good,le14,hhd2.mono s27,λH8 R2 s8 all2=>?_⟩
     rw[e2 R2 all2]
     refine⟨_,rfl,p,_,rfl,s8 _ _ (s27 _ _ hp),λH9 s9=>⟨rfl,?_⟩⟩
     rw[decide_eq_true rfl]
     have s29:=s27.trans (s8.trans s9)
     refine⟨_,rfl,j8 ⟨_,rfl,_,rfl,dL hs,vK (s29 _ _ hd2),vK ((s02.trans s29) _ _ hh.at_),shL nmz,?_⟩⟩
     exact q H9 (s02.trans s29)
end
abbrev kC:Stmt:=top 75
def Vr (zs:List Str) (p:Nat->Bool):jf:=(tM 9).map (λk=>(jG zs k,zs.take k))++[(jG zs 9,((tM 9).filter p).map (jG zs)++[jG zs 9])]
theorem NG {zs:List Str} (h:zs.length=10):(tM 10).map (jG zs)=zs:=by
 refine zcm λi=>?_
 rw[tN]
 by_cases c:i < 10
 . rw[zbx c,Yh (by omega)]
   rfl
 . rw[zaT (by rw[zag];omega),zaT (by omega)]
   rfl
theorem Xm {zs:List Str} {p:Nat->Bool} (h:zs.length=10):(Vr zs p).map (·.1)=zs:=by
 unfold Vr
 rw[tG,zbl]
 have:=NG h
 rw[zbm,tG]at this
 exact this
theorem xn {zs:List Str} {p:Nat->Bool} (h:zs.length=10) (nm:∀z∈zs,je z=true) (nd:zs.Nodup) (hp:((tM 9).filter p).length<=2):qy (Vr zs p):=by
 have key:∀r∈Vr zs p,(∃k,k < 9/\r=(jG zs k,zs.take k))\/r=(jG zs 9,((tM 9).filter p).map (jG zs)++[jG zs 9]):=λr hr=>by
   rcases t9.mp hr with hr | hr
   . obtain⟨k,hk,rfl⟩:=tE.mp hr
     exact .inl ⟨k,zap.mp hk,rfl⟩
   . exact .inr (tX.mp hr)
 refine⟨λr hr=>?_,by rw[Xm h];exact nd,λr hr z hz=>?_,λr hr=>?_,?_⟩
 . rcases key r hr with ⟨k,hk,rfl⟩ | rfl
   . exact nm _ (ZS (by omega))
   . exact nm _ (ZS (by omega))
 . rw[Xm h]
   rcases key r hr with ⟨k,hk,rfl⟩ | rfl
   . exact zaK hz
   . rcases t9.mp hz with hz | hz
     . obtain⟨j,hj,rfl⟩:=tE.mp hz
       have:=zap.mp (zae.mp hj).1
       exact ZS (by omega)
     . rw[tX.mp hz]
       exact ZS (by omega)
 . rcases key r hr with ⟨k,hk,rfl⟩ | rfl
   . exact nd.sublist (zcY _ _)
   . have e:((tM 9).filter p).map (jG zs)++[jG zs 9]=((tM 9).filter p++[9]).map (jG zs):=by rw[tG];rfl
     show (((tM 9).filter p).map (jG zs)++[jG zs 9]).Nodup
     rw[e]
     have lt:∀a∈(tM 9).filter p++[9],a < 10:=λa ha=>by
       rcases t9.mp ha with ha | ha
       . have:=zap.mp (zae.mp ha).1
         omega
       . rw[tX.mp ha];decide
     refine Ju ?_ λa ha b hb=>WQ nd (by have:=lt a ha;omega) (by have:=lt b hb;omega)
     rw[zdb]
     refine⟨zbJ.sublist zbg,by simp,λa ha b hb e=>?_⟩
     have:=zap.mp (zae.mp ha).1
     rw[tX.mp hb]at e
     omega
 . unfold Vr
   rw[tG,zbi,zbl]
   have e1:(tM 9).map ((λr:Str×List Str=>r.2.length) ∘ λk=>(jG zs k,zs.take k))=(tM 9).map λk=>min k 10:=zaS λk _=>by
     show (zs.take k).length=_
     rw[tU,h]
   rw[e1]
   have e2:((tM 9).map λk=>min k 10).sum=36:=by decide
   rw[e2]
   simp only[tQ,zbY,zax,List.sum_nil,tI,tj,zao,zcC]
   omega
theorem KR (ns:List Nat):ns.reverse.sum=ns.sum:=by
 induction ns with
 | nil=>rfl
 | cons n ns ih=>rw[zcZ,zbi,zax,ih,zax,List.sum_nil];omega
theorem qy.rev {rs:jf} (h:qy rs):qy rs.reverse:=by
 refine⟨λr hr=>h.nm r (zbA.mp hr),?_,λr hr z hz=>?_,λr hr=>h.rd r (zbA.mp hr),?_⟩
 . rw[zbZ]
   exact zct.mpr (h.nd.imp λe=>Ne.symm e)
 . rw[zbZ]
   exact zbA.mpr (h.to r (zbA.mp hr) z hz)
 . rw[zbZ,KR]
   exact h.few
theorem qQ.rev {H:Hp} {ps:List Addr} {rs:jf} (h:qQ H ps rs):qQ H ps.reverse rs.reverse:=by
 refine⟨by rw[zbf,zbf,h.1],λi p r e1 e2=>?_⟩
 have hi:=(tw.mp e1).1
 rw[zbf]at hi
 rw[zcs hi]at e1
 rw[zcs (by rw[<-h.1];exact hi),<-h.1]at e2
 exact h.2 _ p r e1 e2
theorem NH {a b:Int} (p:Nat->Bool) (h:∀k,p k=true->(k:Int)=a\/(k:Int)=b):((tM 9).filter p).length<=2:=by
 have e:∀q:Nat->Bool,∀n,((tM n).filter q).length=((tM n).map λk=>if q k=true then 1 else 0).sum:=λq n=>by
   induction n with
   | zero=>rfl
   | succ n ih=>
     rw[zbm,zaP,tI,tG,zbi,ih]
     congr 1
     by_cases c:q n=true<;>simp [c]
 rw[e]
 have key:∀n,((tM n).map λk=>if p k=true then 1 else 0).sum<=(if a < n then 1 else 0)+(if b < n then 1 else 0):=λn=>by
   induction n with
   | zero=>exact zal _
   | succ n ih=>
     rw[zbm,tG,zbi]
     have e3:([n].map λk=>if p k=true then 1 else 0).sum=if p n=true then 1 else 0:=by simp
     rw[e3]
     by_cases c:p n=true
     . rw[if_pos c]
       rcases h n c with d | d
       . have n1:¬a < (n:Int):=by omega
         have n2:a < ((n+1:Nat):Int):=by omega
         rw[if_neg n1]at ih
         rw[if_pos n2]
         split at ih
         . rw[if_pos (by omega)];omega
         . split<;>omega
       . have n1:¬b < (n:Int):=by omega
         have n2:b < ((n+1:Nat):Int):=by omega
         rw[if_neg n1]at ih
         rw[if_pos n2]
         split at ih
         . rw[if_pos (by omega)];omega
         . split<;>omega
     . rw[if_neg c]
       refine zaa ih ?_
       refine Nat.add_le_add ?_ ?_
       . split
         . rw[if_pos (by omega)];exact tq _
         . exact zal _
       . split
         . rw[if_pos (by omega)];exact tq _
         . exact zal _
 refine zaa (key 9) ?_
 split<;>split<;>decide
theorem RI {k a b:Int} (h:Jx (.int k) [.int a,.int b]=true):k=a\/k=b:=by
 rcases Bool.or_eq_true_iff.mp (show (yg (.int a) (.int k) || (yg (.int b) (.int k) || false))=true from h) with e | e
 . exact .inl (of_decide_eq_true e).symm
 . rw[zdE]at e
   exact .inr (of_decide_eq_true e).symm
def wq:Sp:=λvs H Q _=>∃(d:Addr) (n s t:Int),vs=[.ref d]/\H d=some (.dK (src n s t))/\
 ∀(l:Addr) (ps:List Addr) (rs:jf) (n' t':Int) (H':Hp),H l=none->H' l=some (.lst (ps.map V.ref))->qQ H' ps rs->qy rs->rs.length=10->H' d=some (.dK (src n' s t'))->Fr H d H'->Q (.ref l) H'
theorem uS {zs:List Str} {p:Nat->Bool}:(Vr zs p).length=10:=by
 unfold Vr
 rw[tI,tj,zag]
 rfl
theorem qa7 (p:Nat->Bool) (zs:List Str) (l:List Nat):l.filterMap (λj=>if p j=true then some (V.str (jG zs j)) else none)=((l.filter p).map (jG zs)).map V.str:=by
 induction l with
 | nil=>rfl
 | cons a l ih=>
   rw[zaf,zaR]
   by_cases c:p a=true
   . rw[if_pos c,if_pos c,tQ,tQ,<-ih]
   . rw[if_neg c,if_neg c,<-ih]
abbrev qaA (K:PySem.W.Frag):List V->Hp->VK->Prop:=λxs H Q=>∃p ys,xs=[.ref p]/\((SqL K H p ys/\∀l,H l=none->Q (.ref l) (upd H l (.tup ys)))\/(SqT K H p ys/\Q (.ref p) H))
section
variable {P:Program} {w:World} {K:PySem.W.Frag} {mg:Str->Option Value} {base:Heap}
abbrev nLd:List Str:=["_law_source_here","_law_names_here","_law_rows_here","_law_picked"]
theorem Gc:qr nLd ["_law_source_here"] (qk kC):=⟨rfl,rfl,rfl,by decide+kernel,rfl,by decide+kernel,by decide+kernel⟩
theorem Rg {f fT fN:Addr} {fd fdT fdN:FuncData} (F:jQ K "_law_ladder" "_law_ladder" kC f fd) (B:Qy mg) (G:Qd mg) (hT:jm K mg "_law_take" ZF ["_law_source_here","_law_many"] fT fdT)
   (hN:jm K mg "_law_names" zw ["_law_source_here","_law_many"] fN fdN):qo P w K mg base qN 3 f fd ["_law_source_here"] wq:=by
 have GT:qo P w K mg base qN 1 fT fdT ["_law_source_here","_law_many"] JM:=JR hT.fn
 have GN:qo P w K mg base qN 2 fN fdN ["_law_source_here","_law_many"] W3:=Ul hN.fn B hT
 refine F.okJ Gc (λvs H Q E h=>?_) (λcdv A outer s H vs Q E hr h=>?_)
 . obtain⟨d,n,sd,t,rfl,_⟩:=h
   rfl
 . obtain⟨d,n,sd,t,rfl,hd,q⟩:=h
   have r1:qR 1 _:=hr.mono (by decide)
   refine⟨_,qf (qv (i:=1) Gc.nd rfl (Or.inr rfl) (qH hN GN hr (by rfl) (qb (jv 0) (qb qj qe))))
     (qf (Q5 (i:=2) (N':=["_law_k","_law_names_here"]) (ix:=[none,some 1]) (te:=WV (ji (zm (yU K) (qO 1) (qO 0)) (ji (tCB (qaA K) (ji (tSl (qaB K) (qO 1) vR (Ni (qO 0))) QR)) QR))) Gc.nd rfl (Or.inl rfl) rfl ⟨rfl,rfl,rfl,rfl,rfl⟩ (jd (by rfl) B.rng (qb qj qe)) (λC s2 H2 fp pins=>
         ⟨qu (i:=0) (show (["_law_k","_law_names_here"]:List Str).Nodup by decide+kernel) rfl (Or.inl rfl),ju,qW (qb (qX jI (jv 1) (jv 0) (λ_ _=>rfl)) (qb (jr QH (by rfl) G.tup boot_tuple (qb (jA Qg (jv 1) j3 (j2 (jv 0))) qe)) qe))⟩))
     (qf (qv (i:=3) Gc.nd rfl (Or.inr rfl) (jE (qb (qH hT GT r1 (by rfl) (qb (jv 0) (qb qj qe))) (qb (qH hT GT r1 (by rfl) (qb (jv 0) (qb qj qe))) qe))))
     (qf (jw (Xs zaY zbF zbG Jv (jv 2) (qb (qW (qb (qX jI (jv 1) qj (λ_ _=>rfl)) (qb (jr QH (by rfl) G.tup boot_tuple (qb (qJ Xb
         (jM (N':=["_law_k","_law_picked","_law_names_here"]) (ix:=[none,some 3,some 1]) (tt:=YB (zm (N2 K false) (qO 0) (qO 1))) (te:=zm (yU K) (qO 2) (qO 0)) rfl ⟨rfl,rfl,rfl,rfl,rfl⟩ (jd (by rfl) B.rng (qb qj qe)) (λC s2 H2 fp pins=>
           ⟨qu (i:=0) (show (["_law_k","_law_picked","_law_names_here"]:List Str).Nodup by decide+kernel) rfl (Or.inl rfl),jH (qt QY (jv 0) (jv 1) (by with_unfolding_all rfl)),qX jI (jv 2) (jv 0) (λ_ _=>rfl)⟩))
         (jE (qb (qX jI (jv 1) qj (λ_ _=>rfl)) qe))) qe)) qe))) qe)))
     (qf (qM (qt j5 (qH hT GT r1 (by rfl) (qb (jv 0) (qb qj qe))) qj (qx _)) (qh (jw (vm zaY zcS zcT Xh (jv 2)))) qA)
     (qh (qw (jv 2))))))),?_⟩
   refine⟨_,rfl,d,10,n,sd,t,rfl,hd,by decide,λlz zs n1 t1 H1 hlz hz1 zl zn znd hd1 fr1=>?_⟩
   have nzd:lz≠d:=λe=>by rw[e,hd]at hlz;cases hlz
   refine⟨9,rfl,by decide,by decide,λlr hlr=>?_⟩
   refine Q0 (λi σ' X=>∃(v:Option V) (ps:List Addr),σ'=[v,some (.ref lz)]/\Same H1 X/\X lr=some (.lst (ps.map V.ref))/\qQ X ps ((tM i).map λk=>(jG zs k,zs.take k))) ⟨none,[],rfl,qi hlr,qd,rfl,λi p r e=>(nomatch e)⟩ ?_ ?_
   . rintro i σ' X hi ⟨v,ps,rfl,sX,hX,rat⟩
     rw[zbL]
     have hi:i < 9:=by simpa using hi
     have hzX:=sX _ _ hz1
     refine⟨_,rfl,_,rfl,lz,_,_,_,rfl,rfl,.of hzX,VL (by rw[zl];omega),_,rfl,_,rfl,_,rfl,lz,_,rfl,.of hzX,λp1 hp1=>?_⟩
     rw[JD,<-zcy]
     have a1:Same X (upd X p1 (.lst ((zs.take i).map V.str))):=qi hp1
     have b1:upd X p1 (.lst ((zs.take i).map V.str)) p1=some (.lst ((zs.take i).map V.str)):=qd
     generalize upd X p1 (.lst ((zs.take i).map V.str))=X1 at a1 b1
     refine⟨p1,_,rfl,.inl ⟨.of b1,λp2 hp2=>⟨by show 2<=sizeLine;decide,λp3 hp3=>?_⟩⟩⟩
     have a3:Same X1 (upd (upd X1 p2 (.tup ((zs.take i).map V.str))) p3 (.tup [.str (jG zs i),.ref p2])):=(qi hp2).trans (qi hp3)
     have b2:upd (upd X1 p2 (.tup ((zs.take i).map V.str))) p3 (.tup [.str (jG zs i),.ref p2]) p2=some (.tup ((zs.take i).map V.str)):=qm qd hp3
     have b3:upd (upd X1 p2 (.tup ((zs.take i).map V.str))) p3 (.tup [.str (jG zs i),.ref p2]) p3=some (.tup [.str (jG zs i),.ref p2]):=qd
     generalize upd (upd X1 p2 (.tup ((zs.take i).map V.str))) p3 (.tup [.str (jG zs i),.ref p2])=X3 at a3 b2 b3
     have sX3:=a1.trans a3
     have hX3:=sX3 _ _ hX
     have lps:=rat.1
     rw[tj,zag]at lps
     refine⟨_,hX3,by rw[tj];exact ql (by omega),_,ps++[p3],rfl,Same.upd (sX.trans sX3) hlr,by rw[tG];exact qd,?_⟩
     rw[zbm,tG]
     refine qQ.upd_lst ?_ hX3
     exact qQ.snoc (q:=p2) (rat.mono sX3) b3 b2
   . rintro σ' X ⟨v,ps,rfl,sX,hX,rat⟩
     have rat:qQ X ps ((tM 9).map λk=>(jG zs k,zs.take k)):=rat
     have hdX:=sX _ _ hd1
     have hzX:=sX _ _ hz1
     have frX:Fr H d X:=fr1.same sX
     refine⟨_,rfl,d,9,n1,sd,t1,rfl,hdX,by decide,by decide,λc1 n2 t2 _ _=>?_⟩
     refine⟨_,rfl,d,9,n2,sd,t2,rfl,qd,by decide,by decide,λc2 n3 t3 _ _=>?_⟩
     have fr3:Fr X d (upd (upd X d (.dK (src n2 sd t2))) d (.dK (src n3 sd t3))):=Fr.refl.at_d.at_d
     have hd3:upd (upd X d (.dK (src n2 sd t2))) d (.dK (src n3 sd t3)) d=some (.dK (src n3 sd t3)):=qd
     generalize upd (upd X d (.dK (src n2 sd t2))) d (.dK (src n3 sd t3))=X3 at fr3 hd3
     have kp:∀{b:Addr} {u:HO},X b=some u->(∀kvs,u≠.dK kvs)->X3 b=some u:=λ{b u} hb nu=>fr3 _ _ hb λe=>by rw[e,hdX]at hb;exact nu _ (tL.inj hb).symm
     have hz3:=kp hzX (λ_ e=>nomatch e)
     have hr3:=kp hX (λ_ e=>nomatch e)
     have rat3:qQ X3 ps ((tM 9).map λk=>(jG zs k,zs.take k)):=⟨rat.1,λi p r e1 e2=>let ⟨q,a,b⟩:=rat.2 i p r e1 e2;⟨q,kp a (λ_ e=>nomatch e),kp b (λ_ e=>nomatch e)⟩⟩
     refine⟨by show 2<=sizeLine;decide,λlp hlp=>?_⟩
     have s4:Same X3 (upd X3 lp (.lst [.int c1,.int c2])):=qi hlp
     have hp4:upd X3 lp (.lst [.int c1,.int c2]) lp=some (.lst [.int c1,.int c2]):=qd
     generalize upd X3 lp (.lst [.int c1,.int c2])=X4 at s4 hp4
     have hz4:=s4 _ _ hz3
     have z9:UM (zs.map V.str) 9=some (V.str (jG zs 9)):=VL (j:=9) (by rw[zl];decide)
     refine⟨_,rfl,.inl ⟨rfl,_,.of (s4 _ _ hr3)⟩,_,rfl,lz,_,_,_,rfl,rfl,.of hz4,z9,9,rfl,by decide,by decide,λU hU=>?_⟩
     refine Yw (n:=9) (out:=λj=>if (λk:Nat=>Jx (.int (k:Int)) [.int c1,.int c2]) j=true then some (V.str (jG zs j)) else none) (rest:=[some (.ref lp),some (.ref lz)]) hU (by decide) ?_ ?_ ?_
     . intro x hx G' s5 R kk
       refine⟨_,rfl,_,rfl,lp,_,rfl,.inl (.of (s5 _ _ hp4)),rfl,rfl,_,rfl,?_⟩
       have:=kk G' λ_ _ h=>h
       show R (Jx (.int (x:Int)) [.int c1,.int c2]) G'
       cases c:Jx (.int (x:Int)) [.int c1,.int c2] with
       | true=>rw[if_pos c]at this;exact this
       | false=>rw[if_neg (by simp [c])]at this;exact this
     . intro x hx v ev G' s5 R kk
       have:v=V.str (jG zs x):=by
         split at ev
         . exact(tL.inj ev).symm
         . cases ev
       subst this
       exact⟨_,rfl,_,rfl,lz,_,_,_,rfl,rfl,.of (s5 _ _ hz4),VL (by rw[zl];omega),kk G' λ_ _ h=>h⟩
     . intro X5 s5 hU5
       rw[qa7 (λk:Nat=>Jx (.int (k:Int)) [.int c1,.int c2])]at hU5
       have two:=NH (λk:Nat=>Jx (.int (k:Int)) [.int c1,.int c2]) (a:=c1) (b:=c2) λk h=>RI h
       have good:=xn (p:=λk:Nat=>Jx (.int (k:Int)) [.int c1,.int c2]) zl zn znd two
       have len10:=uS (zs:=zs) (p:=λk:Nat=>Jx (.int (k:Int)) [.int c1,.int c2])
       have eL:Vr zs (λk:Nat=>Jx (.int (k:Int)) [.int c1,.int c2])=(tM 9).map (λk=>(jG zs k,zs.take k))++[(jG zs 9,((tM 9).filter λk:Nat=>Jx (.int (k:Int)) [.int c1,.int c2]).map (jG zs)++[jG zs 9])]:=rfl
       generalize Vr zs (λk:Nat=>Jx (.int (k:Int)) [.int c1,.int c2])=rs at good eL len10
       generalize (tM 9).filter (λk:Nat=>Jx (.int (k:Int)) [.int c1,.int c2])=ks at two eL hU5
       have hz5:=s5 _ _ hz4
       refine⟨_,rfl,lz,_,_,_,rfl,rfl,.of hz5,z9,by show 1<=sizeLine;decide,λp1 hp1=>?_⟩
       have a6:Same X5 (upd X5 p1 (.lst [.str (jG zs 9)])):=qi hp1
       have b6:upd X5 p1 (.lst [.str (jG zs 9)]) p1=some (.lst [.str (jG zs 9)]):=qd
       generalize upd X5 p1 (.lst [.str (jG zs 9)])=X6 at a6 b6
       refine⟨U,p1,_,_,rfl,rfl,a6 _ _ hU5,b6,zam (ql (by rw[tj,tj];show _+1<=1000;omega)),λp2 hp2=>?_⟩
       have e7:(ks.map (jG zs)).map V.str++[V.str (jG zs 9)]=(ks.map (jG zs)++[jG zs 9]).map V.str:=by rw[tG];rfl
       rw[e7]
       have a7:Same X6 (upd X6 p2 (.lst ((ks.map (jG zs)++[jG zs 9]).map V.str))):=qi hp2
       have b7:upd X6 p2 (.lst ((ks.map (jG zs)++[jG zs 9]).map V.str)) p2=some (.lst ((ks.map (jG zs)++[jG zs 9]).map V.str)):=qd
       generalize upd X6 p2 (.lst ((ks.map (jG zs)++[jG zs 9]).map V.str))=X7 at a7 b7
       refine⟨p2,_,rfl,.inl ⟨.of b7,λp3 hp3=>⟨by show 2<=sizeLine;decide,λp4 hp4'=>?_⟩⟩⟩
       have a8:Same X7 (upd (upd X7 p3 (.tup ((ks.map (jG zs)++[jG zs 9]).map V.str))) p4 (.tup [.str (jG zs 9),.ref p3])):=(qi hp3).trans (qi hp4')
       have b8:upd (upd X7 p3 (.tup ((ks.map (jG zs)++[jG zs 9]).map V.str))) p4 (.tup [.str (jG zs 9),.ref p3]) p3=some (.tup ((ks.map (jG zs)++[jG zs 9]).map V.str)):=qm qd hp4'
       have b9:upd (upd X7 p3 (.tup ((ks.map (jG zs)++[jG zs 9]).map V.str))) p4 (.tup [.str (jG zs 9),.ref p3]) p4=some (.tup [.str (jG zs 9),.ref p3]):=qd
       generalize upd (upd X7 p3 (.tup ((ks.map (jG zs)++[jG zs 9]).map V.str))) p4 (.tup [.str (jG zs 9),.ref p3])=X8 at a8 b8 b9
       have s38:Same X3 X8:=s4.trans (s5.trans (a6.trans (a7.trans a8)))
       have hr8:=s38 _ _ hr3
       have rat8:=(rat3.mono s38).snoc (r:=(jG zs 9,ks.map (jG zs)++[jG zs 9])) b9 b8
       rw[<-eL]at rat8
       have lps:=rat.1
       rw[tj,zag]at lps
       refine⟨lr,_,_,rfl,rfl,hr8,by rw[tj];exact ql (by omega),?_⟩
       have rat9:qQ (upd X8 lr (.lst (ps.map V.ref++[V.ref p4]))) (ps++[p4]) rs:=rat8.upd_lst hr8
       have nlrd:lr≠d:=λe=>by rw[e,hd1]at hlr;cases hlr
       have hd9:upd X8 lr (.lst (ps.map V.ref++[V.ref p4])) d=some (.dK (src n3 sd t3)):=by rw[qg (Ne.symm nlrd)];exact s38 _ _ hd3
       have hr9:upd X8 lr (.lst (ps.map V.ref++[V.ref p4])) lr=some (.lst ((ps++[p4]).map V.ref)):=by rw[tG];exact qd
       have lrH:H lr=none:=by
         cases z:H lr with
         | none=>rfl
         | some u=>rw[fr1 _ _ z nlrd]at hlr;cases hlr
       have fr9:Fr H d (upd X8 lr (.lst (ps.map V.ref++[V.ref p4]))):=((frX.trans fr3).same s38).own lrH
       generalize upd X8 lr (.lst (ps.map V.ref++[V.ref p4]))=X9 at rat9 hd9 hr9 fr9
       refine⟨_,rfl,d,2,n3,sd,t3,rfl,hd9,by decide,by decide,λcc n4 t4 _ _=>⟨rfl,_,rfl,?_⟩⟩
       have kp9:∀{b:Addr} {u:HO},X9 b=some u->(∀kvs,u≠.dK kvs)->upd X9 d (.dK (src n4 sd t4)) b=some u:=λ{b u} hb nu=>Fr.refl.at_d _ _ hb λe=>by rw[e,hd9]at hb;exact nu _ (tL.inj hb).symm
       have hr10:=kp9 hr9 (λ_ e=>nomatch e)
       have rat10:qQ (upd X9 d (.dK (src n4 sd t4))) (ps++[p4]) rs:=⟨rat9.1,λi p r e1 e2=>let ⟨q,a,b⟩:=rat9.2 i p r e1 e2;⟨q,kp9 a (λ_ e=>nomatch e),kp9 b (λ_ e=>nomatch e)⟩⟩
       have hd10:upd X9 d (.dK (src n4 sd t4)) d=some (.dK (src n4 sd t4)):=qd
       have fr10:Fr H d (upd X9 d (.dK (src n4 sd t4))):=fr9.at_d
       generalize upd X9 d (.dK (src n4 sd t4))=X10 at hr10 rat10 hd10 fr10
       by_cases c0:decide (V.int cc=V.int 0)=true
       . refine Qb c0 ⟨_,rfl,.inl ⟨rfl,_,.of hr10⟩,lr,_,rfl,rfl,hr10,_,rfl,?_⟩
         refine q lr (ps++[p4]).reverse rs.reverse n4 t4 _ lrH (by rw[zbZ];exact qd) ?_ good.rev (by rw[zbf];exact len10) (by rw[qg (Ne.symm nlrd)];exact hd10) (fr10.own lrH)
         exact rat10.rev.upd_lst hr10
       . refine jJ (by simpa using c0) ⟨_,rfl,q lr _ rs n4 t4 _ lrH hr10 rat10 good len10 hd10 fr10⟩
end
def km (K:PySem.W.Frag):Sp:=λvs H Q _=>∃(a:Addr) (ns:List Int),vs=[.ref a]/\SqL K H a (ns.map V.int)/\ns.length<=63/\∀H',Q (.bl true) H'
structure qbi (K:PySem.W.Frag) (mg:Str->Option Value):Prop where
 cell:∃f fd,jm K mg "_law_cell_at" kH ["_law_script","_law_k"] f fd
 source:∃f fd,jm K mg "_law_source" Ym ["_law_cell"] f fd
 take:∃f fd,jm K mg "_law_take" ZF ["_law_source_here","_law_many"] f fd
 names:∃f fd,jm K mg "_law_names" zw ["_law_source_here","_law_many"] f fd
 leads:∃f fd,jm K mg "_law_leads" YO Y0 f fd
 rows:∃f fd,jm K mg "_law_rows" ky ["_law_source_here","_law_most"] f fd
 need:∃f fd,jm K mg "need_rows" V7 ["rows"] f fd
 heap:∃f fd,jm K mg "_law_heap" Vd nLH f fd
 gets:∃f fd,jm K mg "_law_gets" YQ pLG f fd
 worths:∃f fd,jm K mg "_law_worths" Z2 ["_law_rows_here"] f fd
 total:∃f fd,jm K mg "_law_total" YI ["_law_worths_here"] f fd
 lo:∃f fd,jm K mg "_law_outcome" sLO ["_law_worth"] f fd
 told:∃f fd,jm K mg "_law_told" Vc pTd f fd
 bad:∃f fd,jm K mg "_law_bad" kD pBd f fd
 hr:∃f fd,jm K mg "_law_heap_right" Gq pHR f fd
 lad:∃f fd,jm K mg "_law_ladder" kC ["_law_source_here"] f fd
theorem Xg {X:Hp} {l2:Addr} {ps:List Addr} {rs:jf} {CG:Addr} {R:Hp->Prop} (hl:X l2=some (.lst (ps.map V.ref))) (rat:qQ X ps rs) (good:qy rs) (pos:0 < rs.length) (le14:rs.length<=14)
   {x dx:Addr} (hx:X x=none) (hdx:X dx=none) (ndx:dx≠x) {E:XK} (k:∀H4,Same X H4->jZ CG H4 x rs->R H4):
   W6 CG [.ref x,.ref l2] (upd (upd X dx (.own x)) x (.ins CG dx [])) (λv H'=>v=.non/\R H') E:=by
 have s3:Same X (upd (upd X dx (.own x)) x (.ins CG dx [])):=λb u hb=>by
   rw[qg (qp hb hx),qg (qp hb hdx)]
   exact hb
 refine⟨x,dx,l2,ps,rs,rfl,⟨s3 _ _ hl,rat.mono s3,good,pos,le14⟩,qd,λH4 gr fr4=>⟨rfl,k H4 (λb u hb=>fr4 b u (s3 _ _ hb) (qp hb hx)) gr⟩⟩
theorem Yf.keep {H H':Hp} {D:Addr} {F:Str->W} {zs:List Str} (h:Yf H D F zs) (s:QW H H'):Yf H' D F zs:=⟨let ⟨kvs,a,b,c⟩:=h.at_;⟨kvs,s _ _ a (λ_ z=>nomatch z),b,λz hz=>let ⟨t,u,v⟩:=c z hz;⟨t,u,s _ _ v (λ_ z=>nomatch z)⟩⟩⟩
theorem jy.keep {H H':Hp} {l:Addr} {ps:List Addr} {rs:jf} (h:jy H l ps rs) (s:QW H H'):jy H' l ps rs:=⟨s _ _ h.at_ (λ_ z=>nomatch z),h.rows.keep s,h.good,h.pos,h.le⟩
def bare (rs:jf):jf:=rs.map λr=>(r.1,[])
theorem vE (rs:jf):(bare rs).map (·.1)=rs.map (·.1):=by
 unfold bare
 rw[zbl]
 rfl
theorem WL {rs:jf} (h:qy rs):qy (bare rs):=by
 refine⟨λr hr=>?_,by rw[vE];exact h.nd,λr hr z hz=>?_,λr hr=>?_,?_⟩
 . obtain⟨r',hr',rfl⟩:=tE.mp hr
   exact h.nm r' hr'
 . obtain⟨r',hr',rfl⟩:=tE.mp hr
   cases hz
 . obtain⟨r',hr',rfl⟩:=tE.mp hr
   exact zbs
 . have:((bare rs).map λr=>r.2.length).sum=0:=by
     unfold bare
     rw[zbl]
     induction rs with
     | nil=>rfl
     | cons r rs ih=>
       rw[tQ,zax]
       refine(zdm _).trans ?_
       have:∀l:jf,(l.map ((λr:Str×List Str=>r.2.length) ∘ λr=>(r.1,([]:List Str)))).sum=0:=λl=>by
         induction l with
         | nil=>rfl
         | cons a l ih2=>rw[tQ,zax,ih2];rfl
       exact this rs
   omega
theorem R6 (rs:jf) (z:Str):jc (bare rs) z=[]:=by
 unfold jc
 cases e:(bare rs).find? (λr=>decide (r.1=z)) with
 | none=>rfl
 | some r=>
   obtain⟨r',hr',rfl⟩:=tE.mp (zca e)
   rfl
theorem VF (rs:jf):∀hs:List Str,mv (jc (bare rs)) hs=[]
 | []=>rfl
 | z::hs=>by
   show (jc (bare rs) z).map _++(mv (jc (bare rs)) hs).map _=[]
   rw[R6,VF rs hs]
   rfl
theorem xQ {rs:jf} {hs:List Str} {z:Str} (h:(J3 (mv (jc (bare rs))) hs/\z=Str.ofString "lost")\/(Won (mv (jc (bare rs))) hs/\z=Str.ofString "won")\/(¬J3 (mv (jc (bare rs))) hs/\¬Won (mv (jc (bare rs))) hs/\z=Str.ofString "drawn")):z=Str.ofString "lost":=by
 rcases h with h | h | h
 . exact h.2
 . obtain⟨w,_⟩:=h
   cases w with
   | mk m _=>rw[VF]at m;cases m
 . exact absurd (J3.mk λb hb=>by rw[VF]at hb;cases hb) h.1
theorem jY.bare {H:Hp} {h:Addr} {rs:jf} {hs:List Str} (x:jY H h rs hs):jY H h (bare rs) hs:=⟨x.at_,x.le,λz hz=>let ⟨r,hr,e⟩:=x.in_ z hz;⟨(r.1,[]),tE.mpr ⟨r,hr,rfl⟩,e⟩⟩
theorem qaX {r:Int} (h0:0<=r) (h1:r < 4):∃mo:Nat,UM [V.int 5,.int 7,.int 9,.int 14] r=some (.int (mo:Int))/\0 < mo/\mo<=14:=by
 have:r=0\/r=1\/r=2\/r=3:=by omega
 rcases this with rfl | rfl | rfl | rfl
 . exact⟨5,rfl,by decide,by decide⟩
 . exact⟨7,rfl,by decide,by decide⟩
 . exact⟨9,rfl,by decide,by decide⟩
 . exact⟨14,rfl,by decide,by decide⟩
section
variable {P:Program} {w:World} {K:PySem.W.Frag} {mg:Str->Option Value} {base:Heap}
abbrev qbY:List Str:=["_law_script","_law_k","_law_source_here","_law_rows_here","_law_ground","_law_beside","_law_worths_here","_law_turn","_law_heap_here","_law_bad_here","_law_due","_law_call","_law_every"]
theorem Ja:qr qbY ["_law_script"] (qk Vb):=⟨rfl,rfl,rfl,by decide+kernel,rfl,by decide+kernel,by decide+kernel⟩
theorem Me {f CG D CH CT CP:Addr} {fd:FuncData} (F:jQ K "law" "law" Vb f fd) (h:WF K mg) (B:Qy mg) (Zk:Wk K mg) (kib:zad K (.type "int") (.type "bool")=some false) (SL:MZ K) (G:Qd mg) (T:Qn K mg) (N:Nc K mg) (M:GM K mg CG) (Y:VI K mg) (O:zO K mg) (V1:KB K mg) (Z:qbi K mg) (hdi:mg "dict"=none)
   (XS:Nd K mg D CH CT CP) (ZE:M0 K D CH CT CP):qo P w K mg base qN 14 f fd ["_law_script"] (km K):=by
 obtain⟨fO,fdO,hO⟩:=Z.cell
 obtain⟨fL,fdL,hL⟩:=Z.source
 obtain⟨fT,fdT,hT⟩:=Z.take
 obtain⟨fN,fdN,hN⟩:=Z.names
 obtain⟨fD,fdD,hD⟩:=Z.leads
 obtain⟨fR,fdR,hR⟩:=Z.rows
 obtain⟨fW,fdW,hW⟩:=Z.need
 obtain⟨fh,fdh,hh⟩:=Z.heap
 obtain⟨f1,fd1,h1⟩:=Z.total
 obtain⟨f2,fd2,h2⟩:=Z.lo
 obtain⟨f3,fd3,h3⟩:=Z.worths
 obtain⟨f4,fd4,h4⟩:=Z.gets
 obtain⟨f5,fd5,h5⟩:=O.hw
 obtain⟨f6,fd6,h6⟩:=O.outc
 obtain⟨f7,fd7,h7⟩:=V1.oaf
 obtain⟨ft,fdt,ht⟩:=Z.told
 obtain⟨fb,fdb,hb⟩:=Z.bad
 obtain⟨fr,fdr,hhr⟩:=Z.hr
 obtain⟨fl,fdl,hl⟩:=Z.lad
 obtain⟨fI,fdI,C⟩:=M.cls
 have GO:qo P w K mg base qN 1 fO fdO ["_law_script","_law_k"] (wz K):=Rp hO.fn B
 have GL:qo P w K mg base qN 1 fL fdL ["_law_cell"] V2:=y7 hL.fn B
 have GT:qo P w K mg base qN 1 fT fdT ["_law_source_here","_law_many"] JM:=JR hT.fn
 have GR:qo P w K mg base qN 3 fR fdR ["_law_source_here","_law_most"] wj:=G0 hR.fn B G hT hN hD
 have GI:qo P w K mg base qN 6 fI fdI ["self","rows"] (W6 CG):=uH C B G T N hW
 have G3:qo P w K mg base qN 2 f3 fd3 ["_law_rows_here"] Nq:=U9 h3.fn B T hdi h4
 have Gh:qo P w K mg base qN 2 fh fdh nLH kq:=uz hh.fn B hT
 have G6:qo P w K mg base qN 10 f6 fd6 ["ground","heap"] (wk CG):=G8 h6.fn h B Zk G T M Y O
 have Gt:qo P w K mg base qN 12 ft fdt pTd (ko K CG CH CT CP f5 f6 f7):=uy ht.fn h B Zk G T M Y O V1 XS ZE h5 h6 h7
 have Gb:qo P w K mg base qN 2 fb fdb pBd (wu K CH CT CP):=Rj hb.fn B G SL hT
 have Gr:qo P w K mg base qN 11 fr fdr pHR (Nr CG):=Md hhr.fn h B Zk kib G T M Y O h1 h2 h6
 have Gl:qo P w K mg base qN 3 fl fdl ["_law_source_here"] wq:=Rg hl.fn B G hT hN
 refine F.okJ Ja (λvs H Q E z=>?_) (λcdv A outer s H vs Q E hr z=>?_)
 . obtain⟨a,ns,rfl,_⟩:=z
   rfl
 . obtain⟨a,ns,rfl,hq,hlen,k⟩:=z
   have hu:=Qu hr
   have r1:qR 1 _:=hr.mono (by decide)
   have r2:qR 2 _:=hr.mono (by decide)
   have r3:qR 3 _:=hr.mono (by decide)
   have r7:qR 7 _:=hr.mono (by decide)
   have r10:qR 10 _:=hr.mono (by decide)
   have r11:qR 11 _:=hr.mono (by decide)
   have r12:qR 12 _:=hr.mono (by decide)
   refine⟨_,qf (jg PassesOwn.never rfl (jd (by rfl) B.rng (qb (qB (WC rfl) (by rfl) B.max boot_max (qb qj (qb (qB (xN rfl) (by rfl) B.min boot_min (qb qj (qb (qB qF (by rfl) B.len boot_len (qb (jv 0) qe)) qe))) qe))) qe))
       (qu (i:=1) Ja.nd rfl (Or.inl rfl))
       (qf (qv (i:=2) Ja.nd rfl (Or.inl rfl) (qH hL GL r1 (by rfl) (qb (qH hO GO r1 (by rfl) (qb (jv 0) (qb (jv 1) qe))) qe)))
       (qf (qv (i:=3) Ja.nd rfl (Or.inl rfl) (qH hR GR r3 (by rfl) (qb (jv 2) (qb (qX jI (jE (qb qj (qb qj (qb qj (qb qj qe))))) (qH hT GT r1 (by rfl) (qb (jv 2) (qb qj qe))) (λ_ _=>rfl)) qe))))
       (k4 (qM (qt j5 (qH hT GT r1 (by rfl) (qb (jv 2) (qb qj qe))) qj (qx _)) (qh (qv (i:=3) Ja.nd rfl (Or.inl rfl) (qH hl Gl r3 (by rfl) (qb (jv 2) qe)))) qA)
       (qf (qv (i:=4) Ja.nd rfl (Or.inl rfl) (Je C.mkr GI r7 (by rfl) C.ns C.bi .nil Qz (qb (jr Qx (by rfl) G.lst boot_list (qb (jv 3) qe)) qe)))
       (qf (qv (i:=5) Ja.nd rfl (Or.inl rfl) (Je C.mkr GI r7 (by rfl) C.ns C.bi .nil Qz (qb (jM (N':=["_law_name","_law_others"]) (ix:=[none,none]) (g:=RQ K 2 (Xw (Ql 0) (Xw (Ql 1) RS))) (te:=WV (ji (qO 0) (ji (WV QR) QR))) rfl ⟨rfl,rfl,rfl,rfl,rfl⟩ (qG (jv 3)) (λC s2 H2 fp pins=>
           ⟨ZN rfl (jz (qu (i:=0) (show (["_law_name","_law_others"]:List Str).Nodup by decide+kernel) rfl (Or.inl rfl)) (jz (qu (i:=1) (show (["_law_name","_law_others"]:List Str).Nodup by decide+kernel) rfl (Or.inl rfl)) JX)),ju,qW (qb (jv 0) (qb (qW qe) qe))⟩)) qe)))
       (qf (qv (i:=6) Ja.nd rfl (Or.inl rfl) (qH h3 G3 r2 (by rfl) (qb (jv 3) qe)))
       (qf (jg PassesOwn.never rfl (jd (by rfl) B.rng (qb (qJ QN qj (qH hT GT r1 (by rfl) (qb (jv 2) (qb qj qe)))) qe)) (qu (i:=7) Ja.nd rfl (Or.inl rfl))
         (qf (qv (i:=8) Ja.nd rfl (Or.inl rfl) (qH hh Gh r2 (by rfl) (qb (jv 2) (qb (jv 3) (qb qj qe)))))
         (qh (qM (JW.pt (Jd (QP (jL (qH hhr Gr r11 (by rfl) (qb (jv 4) (qb (jv 6) (qb (jv 8) qe)))))) (QC (qt Ug (qH h6 G6 r10 (by rfl) (qb (jv 5) (qb (jv 8) qe))) qD (qx _))))) (qh (qw jT)) qA))))
       (qf (uW (qH hb Gb r2 (by rfl) (qb (jv 2) (qb (jv 3) (qb (jv 8) qe)))) (ZN rfl (jz (qu (i:=9) Ja.nd rfl (Or.inl rfl)) (jz (qu (i:=10) Ja.nd rfl (Or.inl rfl)) JX))))
       (qf (jg PassesOwn.never rfl (qG (jE (qb (Qt (v:=.ref f5) (by rfl) h5.ns rfl) (qb (Qt (v:=.ref f6) (by rfl) h6.ns rfl) (qb (Qt (v:=.ref f7) (by rfl) h7.ns rfl) qe))))) (qu (i:=11) Ja.nd rfl (Or.inl rfl))
         (qh (qM (qt (GU hr.units) (qH ht Gt r12 (by rfl) (qb (jv 11) (qb (jv 4) (qb (jv 9) qe)))) (jv 10) (qx _)) (qh (qw jT)) qA)))
       (qf (qv (i:=12) Ja.nd rfl (Or.inl rfl) (jA Qg (jM (N':=["_law_row"]) (ix:=[none]) (te:=zm (Ud K) (qO 0) (tC (.int 0))) rfl ⟨rfl,rfl,rfl,rfl,rfl⟩ (qG (jv 3)) (λC s2 H2 fp pins=>
           ⟨qu (i:=0) (Mh _) rfl (Or.inl rfl),ju,qX jF (jv 0) qj (λ_ _=>rfl)⟩)) j3 (j2 qj)))
       (qh (qM (JW.pt (Jd (QP (jL (qH hhr Gr r11 (by rfl) (qb (jv 4) (qb (jv 6) (qb (jE qe) qe)))))) (QC (QP (jL (qH hhr Gr r11 (by rfl) (qb (jv 4) (qb (jv 6) (qb (jv 12) qe))))))))) (qh (qw jT)) qA)))))))))))))
     (qh (qw jT)),?_⟩
   refine⟨_,rfl,a,_,rfl,.inl hq,_,_,rfl,_,_,rfl,?_⟩
   generalize hj:(if (if ((ns.map V.int).length:Int) < (8:Int) then ((ns.map V.int).length:Int) else (8:Int)) > 1 then (if ((ns.map V.int).length:Int) < (8:Int) then ((ns.map V.int).length:Int) else (8:Int)) else 1)=jj
   have jb:-(2^62)<=jj/\jj < 2^62:=by
     rw[<-hj]
     split<;>split<;>omega
   refine⟨jj,rfl,jb.1,jb.2,?_⟩
   refine QZ (λi σ H'=>∃v1 v2 v3 v4 v5 v6 v7 v8 v9 v10 v11 v12,σ=[some (.ref a),v1,v2,v3,v4,v5,v6,v7,v8,v9,v10,v11,v12]/\SqL K H' a (ns.map V.int)) ⟨_,_,_,_,_,_,_,_,_,_,_,_,rfl,hq⟩ ?_ ?_
   . rintro i σ H' hi ⟨v1,v2,v3,v4,v5,v6,v7,v8,v9,v10,v11,v12,rfl,hq2⟩
     refine⟨_,rfl,_,rfl,a,ns,_,rfl,hq2,by omega,λc=>⟨c,rfl,λd n sd hd=>?_⟩⟩
     refine⟨_,rfl,by show 4<=sizeLine;decide,λlp hlp=>?_⟩
     have ndp:lp≠d:=λe=>by rw[e,qd]at hlp;cases hlp
     refine⟨_,rfl,d,4,n,sd,0,rfl,qm qd hlp,by decide,by decide,λr n1 t1 r0 r1'=>?_⟩
     obtain⟨mo,em,m0,m14⟩:=qaX r0 r1'
     refine⟨lp,_,r,_,rfl,rfl,.of (by rw[qg ndp];exact qd),em,d,mo,n1,sd,t1,rfl,qd,m0,m14,λl0 ps0 rs0 n2 t2 H2 hl0 hl20 rat0 good0 pos0 le0 hd2 fr2=>?_⟩
     have hlp':H' lp=none:=by rw[qg ndp]at hlp;exact hlp
     have sm:Same H' H2:=λb u hb=>by
       have nb:b≠d:=qp hb hd
       refine fr2 b u ?_ nb
       rw[qg nb,qg (qp hb hlp'),qg nb]
       exact hb
     have hq3:SqL K H2 a (ns.map V.int):=sm.seq hq2
     clear hl0 fr2 hlp' hlp em
     refine⟨λσ' X=>∃(l:Addr) (ps:List Addr) (rs:jf) (n' t':Int),σ'=[some (.ref a),some (.int (0+(i:Int))),some (.ref d),some (.ref l),v4,v5,v6,v7,v8,v9,v10,v11,v12]/\jy X l ps rs/\X d=some (.dK (src n' sd t'))/\SqL K X a (ns.map V.int),?_,?_⟩
     . refine⟨_,rfl,d,4,n2,sd,t2,rfl,hd2,by decide,by decide,λcc n3 t3 _ _=>⟨rfl,_,rfl,?_⟩⟩
       have fr3:Fr H2 d (upd H2 d (.dK (src n3 sd t3))):=Fr.refl.at_d
       have hd3:upd H2 d (.dK (src n3 sd t3)) d=some (.dK (src n3 sd t3)):=qd
       generalize upd H2 d (.dK (src n3 sd t3))=H3 at fr3 hd3
       by_cases c0:decide (V.int cc=V.int 0)=true
       . refine Qb c0 ⟨_,rfl,d,n3,sd,t3,rfl,hd3,λl ps rs n4 t4 H4 _ hl4 rat4 good4 Rx hd4 fr4=>?_⟩
         exact⟨l,ps,rs,n4,t4,rfl,⟨hl4,rat4,good4,by omega,by omega⟩,hd4,WX (WX hq3 hd2 fr3) hd3 fr4⟩
       . refine jJ (by simpa using c0) ?_
         exact⟨l0,ps0,rs0,n3,t3,rfl,jy.fr' ⟨hl20,rat0,good0,pos0,zaa le0 m14⟩ hd2 fr3,hd3,WX hq3 hd2 fr3⟩
     clear rat0 good0 pos0 le0 hl20 hq3 sm hd2
     rintro σ' X ⟨l,ps,rs,n2,t2,rfl,g2,hd2,hq3⟩
     have good:=g2.good
     have pos:=g2.pos
     have le14:=g2.le
     refine⟨_,rfl,l,_,rfl,.inl (.of g2.at_),λl2 hl2' x dx hx hdx ndx=>?_⟩
     have sA:Same X (upd X l2 (.lst (ps.map V.ref))):=qi hl2'
     have hA:upd X l2 (.lst (ps.map V.ref)) l2=some (.lst (ps.map V.ref)):=qd
     generalize upd X l2 (.lst (ps.map V.ref))=XA at sA hA hx hdx
     refine Xg hA (g2.rows.mono sA) good pos le14 hx hdx ndx λH4 s4 gr=>?_
     have sX4:=sA.trans s4
     have g4:jy H4 l ps rs:=g2.mono sX4
     refine⟨_,rfl,l,rfl,⟨_,.of g4.at_⟩,λlb hlb=>?_⟩
     refine jN (K:=K) (a:=l) (xs:=ps.map V.ref) (λj σ' X=>∃(v0 v1:Option V) (qs:List Addr),σ'=[v0,v1]/\Same H4 X/\X lb=some (.lst (qs.map V.ref))/\qQ X qs (bare (rs.take j))) ⟨none,none,[],rfl,qi hlb,qd,rfl,λi p r e=>(nomatch e)⟩ (λj σ' X _ ⟨_,_,_,_,s,_⟩=>.of (s _ _ g4.at_)) ?_ ?_
     . rintro j y σ' X5 hy ⟨v0,v1,qs,rfl,s5,hb5,rat5⟩
       obtain⟨p',q',r',rfl,er,hr',ea,eb⟩:=(g4.rows.mono s5).item hy
       have hi:=(tw.mp er).1
       refine⟨p',_,rfl,.of ea,rfl,_,_,rfl,_,_,rfl,rfl,_,rfl,by show 0<=sizeLine;decide,λe0 he0=>⟨by show 2<=sizeLine;decide,λe1 he1=>?_⟩⟩
       have a6:Same X5 (upd (upd X5 e0 (.tup [])) e1 (.tup [.str r'.1,.ref e0])):=(qi he0).trans (qi he1)
       have b6:upd (upd X5 e0 (.tup [])) e1 (.tup [.str r'.1,.ref e0]) e0=some (.tup []):=qm qd he1
       have c6:upd (upd X5 e0 (.tup [])) e1 (.tup [.str r'.1,.ref e0]) e1=some (.tup [.str r'.1,.ref e0]):=qd
       generalize upd (upd X5 e0 (.tup [])) e1 (.tup [.str r'.1,.ref e0])=X6 at a6 b6 c6
       have hb6:=a6 _ _ hb5
       have lq:=rat5.1
       unfold bare at lq
       rw[tj,tU]at lq
       refine⟨_,hb6,by rw[tj];exact ql (by omega),_,_,qs++[e1],rfl,Same.upd (s5.trans a6) hlb,by rw[tG];exact qd,?_⟩
       have e7:bare (rs.take (j+1))=bare (rs.take j)++[(r'.1,[])]:=by
         unfold bare
         rw[tS,er,tG]
         rfl
       rw[e7]
       exact qQ.upd_lst (qQ.snoc (q:=e0) (rat5.mono a6) c6 b6) hb6
     rintro σ' X5 ⟨v0,v1,qs,rfl,s5,hb5,rat5⟩
     have e0:rs.take (ps.map V.ref).length=rs:=tH (by rw[tj,g4.rows.1];exact tq _)
     rw[e0]at rat5
     intro x2 dx2 hx2 hdx2 ndx2
     have lbare:(bare rs).length=rs.length:=tj ..
     refine Xg hb5 rat5 (WL good) (by omega) (by omega) hx2 hdx2 ndx2 λH5 s6 gb=>?_
     have s45:Same H4 H5:=s5.trans s6
     have g5:=g4.mono s45
     have gr5:=gr.mono s45
     refine⟨_,rfl,l,ps,rs,rfl,g5,λH6 DW FW s7 hDW wt6 hF okF=>?_⟩
     have g6:=g5.mono s7
     have gr6:=gr5.mono s7
     have gb6:=gb.mono s7
     have sX6:Same X H6:=sX4.trans (s45.trans s7)
     have hd6:=sX6 _ _ hd2
     have hq6:SqL K H6 a (ns.map V.int):=sX6.seq hq3
     have lN:(rs.map (·.1)).length=rs.length:=tj ..
     have st:∀{Y:Hp},Fr H6 d Y->jy Y l ps rs/\jZ CG Y x rs/\jZ CG Y x2 (bare rs)/\Yf Y DW FW (rs.map (·.1))/\SqL K Y a (ns.map V.int):=λ{Y} fr=>⟨g6.fr' hd6 fr,gr6.src pos hd6 fr,gb6.src (by omega) hd6 fr,wt6.src (by omega) hd6 fr,WX hq6 hd6 fr⟩
     clear sX6 s45 s5 s4 sX4 sA hA hb5 rat5 g4 g5 gr gr5 gb g2 hq3 hd2 s6 hx2 hdx2 hx hdx hlb hl2' s7
     refine⟨_,rfl,d,5,n2,sd,t2,rfl,hd6,by decide,by decide,λrr n3 t3 rr0 rr1=>⟨_,_,rfl,rfl,?_⟩⟩
     refine⟨(1:Int)+rr,rfl,by omega,by omega,?_⟩
     have tn:((1:Int)+rr).toNat=rr.toNat+1:=by omega
     rw[tn]
     refine QZ (λm σ' Y=>∃(v7 v8:Option V) (n' t':Int),σ'=[some (.ref a),some (.int (0+(i:Int))),some (.ref d),some (.ref l),some (.ref x),some (.ref x2),some (.ref DW),v7,v8,v9,v10,v11,v12]/\Fr H6 d Y/\Y d=some (.dK (src n' sd t'))/\(0 < m->∃h' hs,v8=some (.ref h')/\jY Y h' rs hs))
       ⟨_,_,n3,t3,rfl,Fr.refl.at_d,qd,λz=>absurd z (zat 0)⟩ ?_ ?_
     . rintro m σ' Y hm ⟨v7,v8,n',t',rfl,fr,hdY,_⟩
       obtain⟨gY,grY,gbY,wtY,qY⟩:=st fr
       refine⟨_,rfl,_,rfl,d,l,8,n',sd,t',ps,rs,rfl,hdY,gY,by decide,λh' hs n4 t4 Y1 _ hh1 hl8 hin hd1 fr1=>?_⟩
       have fr01:=fr.trans fr1
       obtain⟨g1,gr1,gb1,wt1,q1⟩:=st fr01
       have hp1:jY Y1 h' rs hs:=⟨hh1,hl8,hin⟩
       refine⟨_,rfl,_,rfl,_,rfl,x,DW,h',rs,FW,hs,rfl,gr1,good,le14,wt1,hF,okF,hp1,λY2 s2=>⟨_,rfl,jh ?_⟩⟩
       refine⟨_,rfl,_,rfl,x2,h',bare rs,hs,rfl,gb1.mono s2,WL good,by omega,(hp1.mono s2).bare,λY3 z s3 hz=>⟨rfl,_,rfl,?_⟩⟩
       rw[xQ hz]
       refine jJ (by decide+kernel) ?_
       have s13:=s2.trans s3
       exact⟨_,_,n4,t4,rfl,fr01.same s13,s13 _ _ hd1,λ_=>⟨h',hs,rfl,hp1.mono s13⟩⟩
     . rintro σ' Y ⟨v7,v8,n',t',rfl,fr,hdY,hv8⟩
       obtain⟨h',hs,rfl,hpY⟩:=hv8 (Nat.succ_pos _)
       obtain⟨gY,grY,gbY,wtY,qY⟩:=st fr
       refine⟨_,rfl,_,rfl,_,rfl,d,l,h',n',sd,t',ps,rs,hs,rfl,hdY,gY,hpY,λp pt v fv C' wd n4 t4 Y1 fr1 hd1 hp1 hpt1 bad1 wd1 cm1=>?_⟩
       obtain⟨g1,gr1,gb1,wt1,q1⟩:=st (fr.trans fr1)
       refine⟨p,_,rfl,.of hp1,rfl,_,_,rfl,_,_,rfl,rfl,?_⟩
       refine⟨by show 3<=sizeLine;decide,λlc hlc=>⟨lc,rfl,⟨_,.of qd⟩,?_⟩⟩
       have sC:Same Y1 (upd Y1 lc (.lst [.ref f5,.ref f6,.ref f7])):=qi hlc
       have hC:upd Y1 lc (.lst [.ref f5,.ref f6,.ref f7]) lc=some (.lst [.ref f5,.ref f6,.ref f7]):=qd
       generalize upd Y1 lc (.lst [.ref f5,.ref f6,.ref f7])=YC at sC hC
       have okw:PyData.strOk wd=true:=by
         rcases wd1 with ⟨_,rfl⟩ | ⟨_,rfl⟩ | ⟨_,rfl⟩<;>decide+kernel
       refine jn (K:=K) (a:=lc) (xs:=[.ref f5,.ref f6,.ref f7]) (λm σ' Z=>∃w11,σ'=[some (.ref a),some (.int (0+(i:Int))),some (.ref d),some (.ref l),some (.ref x),some (.ref x2),some (.ref DW),v7,some (.ref h'),some v,some (.ref pt),w11,v12]/\QW YC Z) ⟨_,rfl,QW.refl _⟩ (λm σ' Z _ ⟨_,_,kp⟩=>.of (kp _ _ hC (λ_ e=>nomatch e))) ?_ ?_
       . rintro m u σ' Z hu' ⟨w11,rfl,kp⟩
         have hf:∃ff,u=.ref ff/\(ff=f5\/ff=f6\/ff=f7):=by
           match m,hu' with
           | 0,e=>cases e;exact⟨_,rfl,.inl rfl⟩
           | 1,e=>cases e;exact⟨_,rfl,.inr (.inl rfl)⟩
           | 2,e=>cases e;exact⟨_,rfl,.inr (.inr rfl)⟩
           | n+3,e=>simp at e
         obtain⟨ff,rfl,hff⟩:=hf
         have kZ:=sC.keep.trans kp
         refine⟨_,rfl,_,rfl,_,rfl,ff,x,rs,v,fv,C',wd,rfl,hff,gr1.keep kZ,good,le14,bad1.keep kZ,wd1,λZ1 t5 k1 ht5=>?_⟩
         have kZ1:=kZ.trans k1
         refine⟨_,rfl,t5,pt,wd,fv,rfl,rfl,.of ht5,.of (kZ1 _ _ hpt1 (λ_ e=>nomatch e)),okw,cm1.keep kZ1,_,rfl,jh ?_⟩
         exact⟨_,rfl,kp.trans k1⟩
       . rintro σ' Z ⟨w11,rfl,kp⟩
         have kZ:=sC.keep.trans kp
         have gZ:=g1.keep kZ
         have grZ:=gr1.keep kZ
         have wtZ:=wt1.keep kZ
         have qZ:SqL K Z a (ns.map V.int):=(sC.seq q1).keep kp
         refine⟨_,rfl,l,rfl,⟨_,.of gZ.at_⟩,λln hln=>?_⟩
         refine jN (K:=K) (a:=l) (xs:=ps.map V.ref) (λj σ' X=>∃v,σ'=[v]/\X=upd Z ln (.lst (((rs.take j).map (·.1)).map V.str))) ⟨none,rfl,rfl⟩ (λj σ' X _ ⟨_,_,e⟩=>e▸.of (qm gZ.at_ hln)) ?_ ?_
         . rintro j y σ' X hy ⟨v,rfl,rfl⟩
           obtain⟨p',q',r',rfl,er,hr',ea,eb⟩:=gZ.rows.item hy
           have hi:=(tw.mp er).1
           refine⟨_,rfl,p',_,0,_,rfl,rfl,.of (qm ea hln),rfl,_,qd,?_,_,rfl,?_⟩
           . rw[tj,tj,tU]
             exact ql (by omega)
           . rw[jo,tS,er,tG,tG]
             rfl
         rintro σ' Z6 ⟨v0,rfl,rfl⟩
         have e0:rs.take (ps.map V.ref).length=rs:=tH (by rw[tj,gZ.rows.1];exact tq _)
         rw[e0]
         have s6:Same Z (upd Z ln (.lst ((rs.map (·.1)).map V.str))):=qi hln
         have hl6:upd Z ln (.lst ((rs.map (·.1)).map V.str)) ln=some (.lst ((rs.map (·.1)).map V.str)):=qd
         generalize upd Z ln (.lst ((rs.map (·.1)).map V.str))=Z7 at s6 hl6
         refine⟨8,rfl,ln,_,rfl,.of hl6,λle hle=>?_⟩
         have ec8:Zz ((rs.map (·.1)).map V.str) none (some 8)=((rs.map (·.1)).take 8).map V.str:=by
           have:=JD ((rs.map (·.1)).map V.str) 8
           rw[<-zcy]at this
           exact this
         rw[ec8]
         have s8:Same Z (upd Z7 le (.lst (((rs.map (·.1)).take 8).map V.str))):=s6.trans (qi hle)
         have hl8:upd Z7 le (.lst (((rs.map (·.1)).take 8).map V.str)) le=some (.lst (((rs.map (·.1)).take 8).map V.str)):=qd
         generalize upd Z7 le (.lst (((rs.map (·.1)).take 8).map V.str))=Z8 at s8 hl8
         have hpE:jY Z8 le rs ((rs.map (·.1)).take 8):=⟨hl8,zcH ..,λz hz=>by
           obtain⟨r,hr',e⟩:=tE.mp (zaK hz)
           exact⟨r,hr',e⟩⟩
         refine⟨_,rfl,_,rfl,by show 0<=sizeLine;decide,λle2 hle2=>?_⟩
         have s9:Same Z8 (upd Z8 le2 (.lst [])):=qi hle2
         have hl9:upd Z8 le2 (.lst []) le2=some (.lst []):=qd
         generalize upd Z8 le2 (.lst [])=Z9 at s9 hl9
         have s89:=s8.trans s9
         refine⟨x,DW,le2,rs,FW,[],rfl,grZ.mono s89,good,le14,wtZ.mono s89,hF,okF,⟨hl9,zal _,λz hz=>nomatch hz⟩,λZ10 s10=>⟨_,rfl,jh ?_⟩⟩
         have s810:=s89.trans s10
         refine⟨_,rfl,_,rfl,_,rfl,x,DW,le,rs,FW,_,rfl,grZ.mono s810,good,le14,wtZ.mono s810,hF,okF,hpE.mono (s9.trans s10),λZ11 s11=>⟨_,rfl,jh ?_⟩⟩
         exact⟨_,_,_,_,_,_,_,_,_,_,_,_,rfl,(s810.trans s11).seq qZ⟩
   . rintro σ H' ⟨v1,v2,v3,v4,v5,v6,v7,v8,v9,v10,v11,v12,rfl,_⟩
     exact k H'
end
open PySem L2 PyProof.Rows MLab
theorem kss {K:PySem.W.Frag}:zad K (.type "str") (.type "str")=some true:=by kernel_rfl
theorem ktt {K:PySem.W.Frag}:zad K (.type "tuple") (.type "tuple")=some true:=by kernel_rfl
theorem kll {K:PySem.W.Frag}:zad K (.type "list") (.type "list")=some true:=by kernel_rfl
theorem kii {K:PySem.W.Frag}:zad K (.type "int") (.type "int")=some true:=by kernel_rfl
theorem kib {K:PySem.W.Frag}:zad K (.type "int") (.type "bool")=some false:=by kernel_rfl
theorem kNl {K:PySem.W.Frag}:zad K (.type "NoneType") (.type "list")=some false:=by kernel_rfl
theorem kTl {K:PySem.W.Frag}:zad K (.type "tuple") (.type "list")=some false:=by kernel_rfl
theorem kSl {K:PySem.W.Frag}:zad K (.type "str") (.type "list")=some false:=by kernel_rfl
theorem kIl {K:PySem.W.Frag}:zad K (.type "int") (.type "list")=some false:=by kernel_rfl
theorem kBl {K:PySem.W.Frag}:zad K (.type "bool") (.type "list")=some false:=by kernel_rfl
theorem kDl {K:PySem.W.Frag}:zad K (.type "dict") (.type "list")=some false:=by kernel_rfl
section
variable {K:PySem.W.Frag}
def MF (K:PySem.W.Frag) (n q:Str) (s:Stmt) (f:Addr):Prop:=∃fd,jQ K n q s f fd
theorem MF.mk' {x qual:Str} {st:Stmt} {f:Addr} {oc:Value} {od an:Option Addr} {osl:Array (Option Value)} {kV doc pm cdv ct:Value} (l:K.lookup f=some ⟨oc,od,.func (zby x qual (Jf st) (Qv st) (qk st) .none kV doc pm an cdv ct),osl⟩) (c:zbV K cdv qual=true) (k:zav K (.ref f)=true):MF K x qual st f:=⟨_,vq l c k⟩
def HF (K:PySem.W.Frag) (n:Str) (s:Stmt) (f:Addr):Prop:=zac K mainGlobals n=some (some (.ref f))/\MF K n n s f
theorem HF.mk' {x:Str} {st:Stmt} {f:Addr} {oc:Value} {od an:Option Addr} {osl:Array (Option Value)} {kV doc pm cdv ct:Value} (a:zac K mainGlobals x=some (some (.ref f))) (l:K.lookup f=some ⟨oc,od,.func (zby x x (Jf st) (Qv st) (qk st) .none kV doc pm an cdv ct),osl⟩) (c:zbV K cdv x=true) (k:zav K (.ref f)=true):HF K x st f:=⟨a,_,vq l c k⟩
theorem HF.has {h:Heap} {mg:Str->Option Value} {n:Str} {s:Stmt} {f:Addr} {ps:List Str} (l:HF K n s f) (X:K.In h) (G:h.Ns mainGlobals mg) (b:∀{fd},jQ K n n s f fd->jO K fd ps []):∃fd,jm K mg n s ps f fd:=let ⟨a,fd,F⟩:=l;⟨fd,F,zbb X G a,b F⟩
end
def qak (es:Array DictEntry):Bool:=es.all λe=>match e.key with | .str _ _=>true | _=>false
theorem KY {es:Array DictEntry} (h:qak es=true):StrKeys es:=by
 intro e he
 have q:=Array.all_eq_true'.mp h e he
 revert q
 cases hk:e.key<;>intro q<;>first | exact⟨_,_,rfl⟩ | (dsimp only at q;cases q)
section
variable {K:PySem.W.Frag} {mg:Str->Option Value} {D C f:Addr} {x qual fld:Str} {st:Stmt}
theorem vx {h:Heap} {fd:FuncData} {nm q:Str} {N:Addr} {bs:List Value} {hdct:Bool} {sn:List Str} {sub:List Value} {ab:Bool} {col:Option Bool} {dd:Option Addr} {k0 k1 k2 k3 k5:Option Value}
   (X:K.In h) (G:h.Ns mainGlobals mg) (tl:∀h:Heap,K.In h->OwnTail h jS (.ref D::jS)) (F:jQ K "__init__" qual st f fd) (b:jO K fd ["self",fld] [])
   (a1:zac K mainGlobals x=some (some (.ref C)))
   (a2:K.lookup C=some (excClassObj nm q C N bs (.ref D::jS) hdct sn sub ab col dd k0 k1 k2 k3 k5 "ValueError.__new__"))
   (a3:tJ K (.ref C) "__init__"=some (some (.ref f))) (a4:zau K (.ref f)=true) (a5:zav K (.ref C)=true)
   (a6:tJ K (.ref C) "__getattribute__"=some (some (.builtin "BaseException.__getattribute__"))) (a7:tJ K (.ref C) "__getattr__"=some none)
   (a8:tJ K (.ref C) "__setattr__"=some (some (.builtin "object.__setattr__"))) (a9:zaV K C=true)
   (a10:zbh K C (.type "BaseException")=some true) (a11:zbh K C (.type "object")=some true)
   (a12:tJ K (.ref C) "__class__"=some (some (.builtin "object.__class__"))) (a13:tJ K (.ref C) fld=some none):xU K mg D x qual st fld C f fd:=
 ⟨⟨a6,a7,a8,a9,⟨_,by unfold PySem.W.clsIn;rw[a2],rfl⟩,a10,a11,a12⟩,⟨⟨nm,q,N,bs,hdct,sn,sub,ab,col,dd,k0,k1,k2,k3,k5,a2⟩,tl,a3,a4,a5⟩,zbb X G a1,a13,F,b⟩
end
theorem all_mk {l:PySem.W.OpenLaw} {w:World} {K:PySem.W.Frag} {h:Heap} {mg:Str->Option Value} {fa:Addr} (X:K.In h) (G:h.Ns mainGlobals mg) (hfa:mg "law"=some (.ref fa))
   {fO fL fT fN fD fR fA1 fA2 fA3 fA4 fA5 fA6 fA7 fA8 fB1 fB2 fB3 fB4 fB5 fB6 fB7 fB8 fW1 fW2 fW3 fW4 fW5 fW6 fP1 fP2 fP3 fP4 fP5 fP6 fQ1 fQ2 fQ3 fQ4 fQ5 fC1 fC2 fC3 fC4 fC5 fC6 fC7 fC8 fC9 fCGi fCGM fCGF fCNi fCNT fCNO fCNP fCNE fCEi fCET fCEO fCEP fCEE CNoHeap fNoHeap CTooMany fTooMany CNoPlace fNoPlace:Addr}
   {fLAW:Addr} {odLAW anLAW:Option Addr} {slLAW:Array (Option Value)} {ocLAW kVLAW dcLAW pmLAW cdLAW ctLAW:Value}
   {CG:Addr}
   {CN:Addr}
   {CE:Addr}
   {tm1:Tok}
   {tm2:Tok}
   {tm3:Tok}
   {tm4:Tok}
   {tm5:Tok}
   {tm6:Tok}
   {tm7:Tok}
   {D:Addr} {nmHE qHE:Str} {NHE:Addr} {bsHE subHE:List Value} {hdctHE abHE:Bool} {snHE:List Str} {colHE:Option Bool} {ddHE:Option Addr} {kaHE kbHE kcHE kdHE keHE:Option Value} {oHN:Value} {dHN:Option Addr} {es:Array DictEntry} {ep:Nat} {slHN:Array (Option Value)}
   {nmNoHeap qNoHeap:Str} {NNoHeap:Addr} {bsNoHeap subNoHeap:List Value} {hdctNoHeap abNoHeap:Bool} {snNoHeap:List Str} {colNoHeap:Option Bool} {ddNoHeap:Option Addr} {kaNoHeap kbNoHeap kcNoHeap kdNoHeap keNoHeap:Option Value}
   {nmTooMany qTooMany:Str} {NTooMany:Addr} {bsTooMany subTooMany:List Value} {hdctTooMany abTooMany:Bool} {snTooMany:List Str} {colTooMany:Option Bool} {ddTooMany:Option Addr} {kaTooMany kbTooMany kcTooMany kdTooMany keTooMany:Option Value}
   {nmNoPlace qNoPlace:Str} {NNoPlace:Addr} {bsNoPlace subNoPlace:List Value} {hdctNoPlace abNoPlace:Bool} {snNoPlace:List Str} {colNoPlace:Option Bool} {ddNoPlace:Option Addr} {kaNoPlace kbNoPlace kcNoPlace kdNoPlace keNoPlace:Option Value}
   (lO:HF K "_law_cell_at" kH fO)
   (lL:HF K "_law_source" Ym fL)
   (lT:HF K "_law_take" ZF fT)
   (lN:HF K "_law_names" zw fN)
   (lD:HF K "_law_leads" YO fD)
   (lR:HF K "_law_rows" ky fR)
   (lA1:HF K "is_name" Z0 fA1)
   (lA2:HF K "is_tuple_of_names" Wg fA2)
   (lA3:HF K "is_row" YS fA3)
   (lA4:HF K "need_form" kE fA4)
   (lA5:HF K "need_own_names" Gn fA5)
   (lA6:HF K "need_ends" kF fA6)
   (lA7:HF K "need_few_roads" Gs fA7)
   (lA8:HF K "need_rows" V7 fA8)
   (lB1:HF K "lacking" QJ fB1)
   (lB2:HF K "set_of" zt fB2)
   (lB3:HF K "numbers_behind" Nu fB3)
   (lB4:HF K "gets_number" YT fB4)
   (lB5:HF K "round_of" zu fB5)
   (lB6:HF K "give_number" V9 fB6)
   (lB7:HF K "give_numbers" Ve fB7)
   (lB8:HF K "labels_of" Yn fB8)
   (lW1:HF K "is_whole" Zc fW1)
   (lW2:HF K "is_number" ZY fW2)
   (lW3:HF K "is_set" YR fW3)
   (lW4:HF K "set_turned" Yl fW4)
   (lW5:HF K "numbers_in" YK fW5)
   (lW6:HF K "sum_of" YJ fW6)
   (lP1:HF K "need_place" ZJ fP1)
   (lP2:HF K "need_heap" YN fP2)
   (lP3:HF K "label_worth" sLW fP3)
   (lP4:HF K "worth_by" Gm fP4)
   (lP5:HF K "heap_worth" M7 fP5)
   (lP6:HF K "outcome" zT fP6)
   (lQ1:HF K "moves_of" Z1 fQ1)
   (lQ2:HF K "left_by" kB fQ2)
   (lQ3:HF K "outcome_by" Gp fQ3)
   (lQ4:HF K "outcomes_by" kz fQ4)
   (lQ5:HF K "outcomes_after" wO fQ5)
   (lC1:HF K "_law_heap" Vd fC1)
   (lC2:HF K "_law_gets" YQ fC2)
   (lC3:HF K "_law_worths" Z2 fC3)
   (lC4:HF K "_law_total" YI fC4)
   (lC5:HF K "_law_outcome" sLO fC5)
   (lC6:HF K "_law_told" Vc fC6)
   (lC7:HF K "_law_bad" kD fC7)
   (lC8:HF K "_law_heap_right" Gq fC8)
   (lC9:HF K "_law_ladder" kC fC9)
   (aLAW:zac K mainGlobals "law"=some (some (.ref fLAW)))
   (lLAW:K.lookup fLAW=some ⟨ocLAW,odLAW,.func (zby "law" "law" (Jf Vb) (Qv Vb) (qk Vb) .none kVLAW dcLAW pmLAW anLAW cdLAW ctLAW),slLAW⟩)
   (cLAW:zbV K cdLAW "law"=true)
   (kLAW:zav K (.ref fLAW)=true)
   (nCG:zac K mainGlobals "Ground"=some (some (.ref CG)))
   (pgCG:zbz K CG Str.empty=true)
   (hdCG:zaV K CG=true)
   (poCG:zbR K CG=true)
   (saCG:tJ K (.ref CG) "__setattr__"=some (some (.builtin "object.__setattr__")))
   (mkCG:zce K CG=true)
   (inCG:tJ K (.ref CG) "__init__"=some (some (.ref fCGi)))
   (fiCG:zau K (.ref fCGi)=true)
   (kcCG:zav K (.ref CG)=true)
   (noCG:tJ K (.ref CG) "order"=some none)
   (nrCG:tJ K (.ref CG) "roads"=some none)
   (lCGi:MF K "__init__" "Ground.__init__" U3 fCGi)
   (atCGM:tJ K (.ref CG) "names"=some (some (.ref fCGM)))
   (fnCGM:zau K (.ref fCGM)=true)
   (lCGM:MF K "names" "Ground.names" Z3 fCGM)
   (atCGF:tJ K (.ref CG) "roads_from"=some (some (.ref fCGF)))
   (fnCGF:zau K (.ref fCGF)=true)
   (lCGF:MF K "roads_from" "Ground.roads_from" YU fCGF)
   (nCN:zac K mainGlobals "Numbered"=some (some (.ref CN)))
   (pgCN:zbz K CN Str.empty=true)
   (hdCN:zaV K CN=true)
   (poCN:zbR K CN=true)
   (saCN:tJ K (.ref CN) "__setattr__"=some (some (.builtin "object.__setattr__")))
   (mkCN:zce K CN=true)
   (inCN:tJ K (.ref CN) "__init__"=some (some (.ref fCNi)))
   (fiCN:zau K (.ref fCNi)=true)
   (kcCN:zav K (.ref CN)=true)
   (naCN:tJ K (.ref CN) "number"=some none)
   (lCNi:MF K "__init__" "Numbered.__init__" YM fCNi)
   (caCN:tJ K (.ref CN) "__class__"=some (some (.builtin "object.__class__")))
   (obCN:zbh K CN (.type "object")=some true)
   (atCNT:tJ K (.ref CN) "told"=some (some (.ref fCNT)))
   (fnCNT:zau K (.ref fCNT)=true)
   (lCNT:MF K "told" "Numbered.told" YL fCNT)
   (atCNO:tJ K (.ref CN) "outcome"=some (some (.ref fCNO)))
   (fnCNO:zau K (.ref fCNO)=true)
   (lCNO:MF K "outcome" "Numbered.outcome" kA fCNO)
   (atCNP:tJ K (.ref CN) "plus"=some (some (.ref fCNP)))
   (fnCNP:zau K (.ref fCNP)=true)
   (lCNP:MF K "plus" "Numbered.plus" Va fCNP)
   (atCNE:tJ K (.ref CN) "is_endless"=some (some (.ref fCNE)))
   (fnCNE:zau K (.ref fCNE)=true)
   (lCNE:MF K "is_endless" "Numbered.is_endless" V8 fCNE)
   (nCE:zac K mainGlobals "Endless"=some (some (.ref CE)))
   (pgCE:zbz K CE Str.empty=true)
   (hdCE:zaV K CE=true)
   (poCE:zbR K CE=true)
   (saCE:tJ K (.ref CE) "__setattr__"=some (some (.builtin "object.__setattr__")))
   (mkCE:zce K CE=true)
   (inCE:tJ K (.ref CE) "__init__"=some (some (.ref fCEi)))
   (fiCE:zau K (.ref fCEi)=true)
   (kcCE:zav K (.ref CE)=true)
   (naCE:tJ K (.ref CE) "bits"=some none)
   (lCEi:MF K "__init__" "Endless.__init__" YW fCEi)
   (caCE:tJ K (.ref CE) "__class__"=some (some (.builtin "object.__class__")))
   (obCE:zbh K CE (.type "object")=some true)
   (atCET:tJ K (.ref CE) "told"=some (some (.ref fCET)))
   (fnCET:zau K (.ref fCET)=true)
   (lCET:MF K "told" "Endless.told" YV fCET)
   (atCEO:tJ K (.ref CE) "outcome"=some (some (.ref fCEO)))
   (fnCEO:zau K (.ref fCEO)=true)
   (lCEO:MF K "outcome" "Endless.outcome" kG fCEO)
   (atCEP:tJ K (.ref CE) "plus"=some (some (.ref fCEP)))
   (fnCEP:zau K (.ref fCEP)=true)
   (lCEP:MF K "plus" "Endless.plus" Vf fCEP)
   (atCEE:tJ K (.ref CE) "is_endless"=some (some (.ref fCEE)))
   (fnCEE:zau K (.ref fCEE)=true)
   (lCEE:MF K "is_endless" "Endless.is_endless" Ua fCEE)
   (zlen:zac K mainGlobals "len"=some none)
   (zmax:zac K mainGlobals "max"=some none)
   (zmin:zac K mainGlobals "min"=some none)
   (zint:zac K mainGlobals "int"=some none)
   (zrange:zac K mainGlobals "range"=some none)
   (zisinstance:zac K mainGlobals "isinstance"=some none)
   (zstr:zac K mainGlobals "str"=some none)
   (zall:zac K mainGlobals "all"=some none)
   (zenumerate:zac K mainGlobals "enumerate"=some none)
   (zsum:zac K mainGlobals "sum"=some none)
   (zsorted:zac K mainGlobals "sorted"=some none)
   (zlist:zac K mainGlobals "list"=some none)
   (zreversed:zac K mainGlobals "reversed"=some none)
   (zset:zac K mainGlobals "set"=some none)
   (ztuple:zac K mainGlobals "tuple"=some none)
   (zdict:zac K mainGlobals "dict"=some none)
   (zbool:zac K mainGlobals "bool"=some none)
   (m1:zac K mainGlobals "LETTERS"=some (some (.str "abcdefghijklmnopqrstuvwxyz" tm1)))
   (m2:zac K mainGlobals "LONGEST_NAME"=some (some (.int 8 tm2)))
   (m3:zac K mainGlobals "MOST_PLACES"=some (some (.int 14 tm3)))
   (m4:zac K mainGlobals "MOST_ROADS"=some (some (.int 40 tm4)))
   (m5:zac K mainGlobals "MOST_NUMBER"=some (some (.int 15 tm5)))
   (m6:zac K mainGlobals "MOST_BITS"=some (some (.int 65535 tm6)))
   (m7:zac K mainGlobals "MOST_TOKENS"=some (some (.int 8 tm7)))
   (aHE:zac K mainGlobals "HeapError"=some (some (.ref D)))
   (oHE:K.lookup D=some (excClassObj nmHE qHE D NHE bsHE jS hdctHE snHE subHE abHE colHE ddHE kaHE kbHE kcHE kdHE keHE "ValueError.__new__"))
   (nHE:K.lookup NHE=some ⟨oHN,dHN,.dict es ep,slHN⟩)
   (skHE:qak es=true)
   (niHE:nsFind es (Str.ofString "__init__")=none)
   (a1NoHeap:zac K mainGlobals "NoHeap"=some (some (.ref CNoHeap)))
   (a2NoHeap:K.lookup CNoHeap=some (excClassObj nmNoHeap qNoHeap CNoHeap NNoHeap bsNoHeap (.ref D::jS) hdctNoHeap snNoHeap subNoHeap abNoHeap colNoHeap ddNoHeap kaNoHeap kbNoHeap kcNoHeap kdNoHeap keNoHeap "ValueError.__new__"))
   (a3NoHeap:tJ K (.ref CNoHeap) "__init__"=some (some (.ref fNoHeap)))
   (a4NoHeap:zau K (.ref fNoHeap)=true)
   (lNoHeap:MF K "__init__" "NoHeap.__init__" ZZ fNoHeap)
   (a5NoHeap:zav K (.ref CNoHeap)=true)
   (a6NoHeap:tJ K (.ref CNoHeap) "__getattribute__"=some (some (.builtin "BaseException.__getattribute__")))
   (a7NoHeap:tJ K (.ref CNoHeap) "__getattr__"=some none)
   (a8NoHeap:tJ K (.ref CNoHeap) "__setattr__"=some (some (.builtin "object.__setattr__")))
   (a9NoHeap:zaV K CNoHeap=true)
   (a10NoHeap:zbh K CNoHeap (.type "BaseException")=some true)
   (a11NoHeap:zbh K CNoHeap (.type "object")=some true)
   (a12NoHeap:tJ K (.ref CNoHeap) "__class__"=some (some (.builtin "object.__class__")))
   (a13NoHeap:tJ K (.ref CNoHeap) "found"=some none)
   (a1TooMany:zac K mainGlobals "TooMany"=some (some (.ref CTooMany)))
   (a2TooMany:K.lookup CTooMany=some (excClassObj nmTooMany qTooMany CTooMany NTooMany bsTooMany (.ref D::jS) hdctTooMany snTooMany subTooMany abTooMany colTooMany ddTooMany kaTooMany kbTooMany kcTooMany kdTooMany keTooMany "ValueError.__new__"))
   (a3TooMany:tJ K (.ref CTooMany) "__init__"=some (some (.ref fTooMany)))
   (a4TooMany:zau K (.ref fTooMany)=true)
   (lTooMany:MF K "__init__" "TooMany.__init__" Zd fTooMany)
   (a5TooMany:zav K (.ref CTooMany)=true)
   (a6TooMany:tJ K (.ref CTooMany) "__getattribute__"=some (some (.builtin "BaseException.__getattribute__")))
   (a7TooMany:tJ K (.ref CTooMany) "__getattr__"=some none)
   (a8TooMany:tJ K (.ref CTooMany) "__setattr__"=some (some (.builtin "object.__setattr__")))
   (a9TooMany:zaV K CTooMany=true)
   (a10TooMany:zbh K CTooMany (.type "BaseException")=some true)
   (a11TooMany:zbh K CTooMany (.type "object")=some true)
   (a12TooMany:tJ K (.ref CTooMany) "__class__"=some (some (.builtin "object.__class__")))
   (a13TooMany:tJ K (.ref CTooMany) "found"=some none)
   (a1NoPlace:zac K mainGlobals "NoPlace"=some (some (.ref CNoPlace)))
   (a2NoPlace:K.lookup CNoPlace=some (excClassObj nmNoPlace qNoPlace CNoPlace NNoPlace bsNoPlace (.ref D::jS) hdctNoPlace snNoPlace subNoPlace abNoPlace colNoPlace ddNoPlace kaNoPlace kbNoPlace kcNoPlace kdNoPlace keNoPlace "ValueError.__new__"))
   (a3NoPlace:tJ K (.ref CNoPlace) "__init__"=some (some (.ref fNoPlace)))
   (a4NoPlace:zau K (.ref fNoPlace)=true)
   (lNoPlace:MF K "__init__" "NoPlace.__init__" Jp fNoPlace)
   (a5NoPlace:zav K (.ref CNoPlace)=true)
   (a6NoPlace:tJ K (.ref CNoPlace) "__getattribute__"=some (some (.builtin "BaseException.__getattribute__")))
   (a7NoPlace:tJ K (.ref CNoPlace) "__getattr__"=some none)
   (a8NoPlace:tJ K (.ref CNoPlace) "__setattr__"=some (some (.builtin "object.__setattr__")))
   (a9NoPlace:zaV K CNoPlace=true)
   (a10NoPlace:zbh K CNoPlace (.type "BaseException")=some true)
   (a11NoPlace:zbh K CNoPlace (.type "object")=some true)
   (a12NoPlace:tJ K (.ref CNoPlace) "__class__"=some (some (.builtin "object.__class__")))
   (a13NoPlace:tJ K (.ref CNoPlace) "found"=some none)
   (spc:zcX K (.builtin "object.__class__") "__get__"=some (some (.builtin "getset_descriptor.__get__")))
   (tks:zdT K (.builtin "object.__class__")=some true)
   (ne:CN≠CE)
   (e1:CTooMany≠CNoHeap)
   (e2:CNoPlace≠CNoHeap)
   (e3:CNoPlace≠CTooMany)
   (e4:D≠CNoHeap)
   (e5:D≠CTooMany)
   :
   ∃fd:FuncData,(∀(s:Shared) (v:Value),BindsTo s fd ⟨[v],[]⟩ [("_law_script",v)])/\∀base:Heap,K.In base->base.Ns mainGlobals mg->qo l.prog w K mg base qN 14 fa fd ["_law_script"] (km K):=by
 have e:=hfa.symm.trans (zbb X G aLAW)
 cases e
 obtain⟨_,hO⟩:=lO.has (ps:=["_law_script","_law_k"]) X G λF=>F.binds λ_ _ _ _ _ _ us hl=>by obtain⟨_,_,rfl⟩:=QK hl;rfl
 obtain⟨_,hL⟩:=lL.has (ps:=["_law_cell"]) X G λF=>F.binds λ_ _ _ _ _ _ us hl=>by obtain⟨_,rfl⟩:=Qs hl;rfl
 obtain⟨_,hT⟩:=lT.has (ps:=["_law_source_here","_law_many"]) X G λF=>F.binds λ_ _ _ _ _ _ us hl=>by obtain⟨_,_,rfl⟩:=QK hl;rfl
 obtain⟨_,hN⟩:=lN.has (ps:=["_law_source_here","_law_many"]) X G λF=>F.binds λ_ _ _ _ _ _ us hl=>by obtain⟨_,_,rfl⟩:=QK hl;rfl
 obtain⟨_,hD⟩:=lD.has (ps:=["_law_source_here","_law_many","_law_shape","_law_low"]) X G λF=>F.binds λ_ _ _ _ _ _ us hl=>by obtain⟨_,_,_,_,rfl⟩:=Rx hl;rfl
 obtain⟨_,hR⟩:=lR.has (ps:=["_law_source_here","_law_most"]) X G λF=>F.binds λ_ _ _ _ _ _ us hl=>by obtain⟨_,_,rfl⟩:=QK hl;rfl
 obtain⟨_,hA1⟩:=lA1.has (ps:=["thing"]) X G λF=>F.binds λ_ _ _ _ _ _ us hl=>by obtain⟨_,rfl⟩:=Qs hl;rfl
 obtain⟨_,hA2⟩:=lA2.has (ps:=["thing"]) X G λF=>F.binds λ_ _ _ _ _ _ us hl=>by obtain⟨_,rfl⟩:=Qs hl;rfl
 obtain⟨_,hA3⟩:=lA3.has (ps:=["thing"]) X G λF=>F.binds λ_ _ _ _ _ _ us hl=>by obtain⟨_,rfl⟩:=Qs hl;rfl
 obtain⟨_,hA4⟩:=lA4.has (ps:=["rows"]) X G λF=>F.binds λ_ _ _ _ _ _ us hl=>by obtain⟨_,rfl⟩:=Qs hl;rfl
 obtain⟨_,hA5⟩:=lA5.has (ps:=["order"]) X G λF=>F.binds λ_ _ _ _ _ _ us hl=>by obtain⟨_,rfl⟩:=Qs hl;rfl
 obtain⟨_,hA6⟩:=lA6.has (ps:=["ends","order"]) X G λF=>F.binds λ_ _ _ _ _ _ us hl=>by obtain⟨_,_,rfl⟩:=QK hl;rfl
 obtain⟨_,hA7⟩:=lA7.has (ps:=["rows"]) X G λF=>F.binds λ_ _ _ _ _ _ us hl=>by obtain⟨_,rfl⟩:=Qs hl;rfl
 obtain⟨_,hA8⟩:=lA8.has (ps:=["rows"]) X G λF=>F.binds λ_ _ _ _ _ _ us hl=>by obtain⟨_,rfl⟩:=Qs hl;rfl
 obtain⟨_,hB1⟩:=lB1.has (ps:=["numbers"]) X G λF=>F.binds λ_ _ _ _ _ _ us hl=>by obtain⟨_,rfl⟩:=Qs hl;rfl
 obtain⟨_,hB2⟩:=lB2.has (ps:=["numbers"]) X G λF=>F.binds λ_ _ _ _ _ _ us hl=>by obtain⟨_,rfl⟩:=Qs hl;rfl
 obtain⟨_,hB3⟩:=lB3.has (ps:=["ground","numbered","name"]) X G λF=>F.binds λ_ _ _ _ _ _ us hl=>by obtain⟨_,_,_,rfl⟩:=Vq hl;rfl
 obtain⟨_,hB4⟩:=lB4.has (ps:=["ground","numbered","name","number"]) X G λF=>F.binds λ_ _ _ _ _ _ us hl=>by obtain⟨_,_,_,_,rfl⟩:=Rx hl;rfl
 obtain⟨_,hB5⟩:=lB5.has (ps:=["ground","numbered","number"]) X G λF=>F.binds λ_ _ _ _ _ _ us hl=>by obtain⟨_,_,_,rfl⟩:=Vq hl;rfl
 obtain⟨_,hB6⟩:=lB6.has (ps:=["ground","numbered","number"]) X G λF=>F.binds λ_ _ _ _ _ _ us hl=>by obtain⟨_,_,_,rfl⟩:=Vq hl;rfl
 obtain⟨_,hB7⟩:=lB7.has (ps:=["ground","numbered"]) X G λF=>F.binds λ_ _ _ _ _ _ us hl=>by obtain⟨_,_,rfl⟩:=QK hl;rfl
 obtain⟨_,hB8⟩:=lB8.has (ps:=["ground"]) X G λF=>F.binds λ_ _ _ _ _ _ us hl=>by obtain⟨_,rfl⟩:=Qs hl;rfl
 obtain⟨_,hW1⟩:=lW1.has (ps:=["thing"]) X G λF=>F.binds λ_ _ _ _ _ _ us hl=>by obtain⟨_,rfl⟩:=Qs hl;rfl
 obtain⟨_,hW2⟩:=lW2.has (ps:=["thing"]) X G λF=>F.binds λ_ _ _ _ _ _ us hl=>by obtain⟨_,rfl⟩:=Qs hl;rfl
 obtain⟨_,hW3⟩:=lW3.has (ps:=["thing"]) X G λF=>F.binds λ_ _ _ _ _ _ us hl=>by obtain⟨_,rfl⟩:=Qs hl;rfl
 obtain⟨_,hW4⟩:=lW4.has (ps:=["bits","number"]) X G λF=>F.binds λ_ _ _ _ _ _ us hl=>by obtain⟨_,_,rfl⟩:=QK hl;rfl
 obtain⟨_,hW5⟩:=lW5.has (ps:=["bits"]) X G λF=>F.binds λ_ _ _ _ _ _ us hl=>by obtain⟨_,rfl⟩:=Qs hl;rfl
 obtain⟨_,hW6⟩:=lW6.has (ps:=["worths"]) X G λF=>F.binds λ_ _ _ _ _ _ us hl=>by obtain⟨_,rfl⟩:=Qs hl;rfl
 obtain⟨_,hP1⟩:=lP1.has (ps:=["ground","thing"]) X G λF=>F.binds λ_ _ _ _ _ _ us hl=>by obtain⟨_,_,rfl⟩:=QK hl;rfl
 obtain⟨_,hP2⟩:=lP2.has (ps:=["ground","heap"]) X G λF=>F.binds λ_ _ _ _ _ _ us hl=>by obtain⟨_,_,rfl⟩:=QK hl;rfl
 obtain⟨_,hP3⟩:=lP3.has (ps:=["label"]) X G λF=>F.binds λ_ _ _ _ _ _ us hl=>by obtain⟨_,rfl⟩:=Qs hl;rfl
 obtain⟨_,hP4⟩:=lP4.has (ps:=["labels","heap"]) X G λF=>F.binds λ_ _ _ _ _ _ us hl=>by obtain⟨_,_,rfl⟩:=QK hl;rfl
 obtain⟨_,hP5⟩:=lP5.has (ps:=["ground","heap"]) X G λF=>F.binds λ_ _ _ _ _ _ us hl=>by obtain⟨_,_,rfl⟩:=QK hl;rfl
 obtain⟨_,hP6⟩:=lP6.has (ps:=["ground","heap"]) X G λF=>F.binds λ_ _ _ _ _ _ us hl=>by obtain⟨_,_,rfl⟩:=QK hl;rfl
 obtain⟨_,hQ1⟩:=lQ1.has (ps:=["ground","heap"]) X G λF=>F.binds λ_ _ _ _ _ _ us hl=>by obtain⟨_,_,rfl⟩:=QK hl;rfl
 obtain⟨_,hQ2⟩:=lQ2.has (ps:=["heap","move"]) X G λF=>F.binds λ_ _ _ _ _ _ us hl=>by obtain⟨_,_,rfl⟩:=QK hl;rfl
 obtain⟨_,hQ3⟩:=lQ3.has (ps:=["labels","heap"]) X G λF=>F.binds λ_ _ _ _ _ _ us hl=>by obtain⟨_,_,rfl⟩:=QK hl;rfl
 obtain⟨_,hQ4⟩:=lQ4.has (ps:=["ground","labels","heap"]) X G λF=>F.binds λ_ _ _ _ _ _ us hl=>by obtain⟨_,_,_,rfl⟩:=Vq hl;rfl
 obtain⟨_,hQ5⟩:=lQ5.has (ps:=["ground","heap"]) X G λF=>F.binds λ_ _ _ _ _ _ us hl=>by obtain⟨_,_,rfl⟩:=QK hl;rfl
 obtain⟨_,hC1⟩:=lC1.has (ps:=["_law_source_here","_law_rows_here","_law_most"]) X G λF=>F.binds λ_ _ _ _ _ _ us hl=>by obtain⟨_,_,_,rfl⟩:=Vq hl;rfl
 obtain⟨_,hC2⟩:=lC2.has (ps:=["_law_leads_here","_law_numbers","_law_name","_law_number"]) X G λF=>F.binds λ_ _ _ _ _ _ us hl=>by obtain⟨_,_,_,_,rfl⟩:=Rx hl;rfl
 obtain⟨_,hC3⟩:=lC3.has (ps:=["_law_rows_here"]) X G λF=>F.binds λ_ _ _ _ _ _ us hl=>by obtain⟨_,rfl⟩:=Qs hl;rfl
 obtain⟨_,hC4⟩:=lC4.has (ps:=["_law_worths_here"]) X G λF=>F.binds λ_ _ _ _ _ _ us hl=>by obtain⟨_,rfl⟩:=Qs hl;rfl
 obtain⟨_,hC5⟩:=lC5.has (ps:=["_law_worth"]) X G λF=>F.binds λ_ _ _ _ _ _ us hl=>by obtain⟨_,rfl⟩:=Qs hl;rfl
 obtain⟨_,hC6⟩:=lC6.has (ps:=["_law_call","_law_ground","_law_heap_here"]) X G λF=>F.binds λ_ _ _ _ _ _ us hl=>by obtain⟨_,_,_,rfl⟩:=Vq hl;rfl
 obtain⟨_,hC7⟩:=lC7.has (ps:=["_law_source_here","_law_rows_here","_law_heap_here"]) X G λF=>F.binds λ_ _ _ _ _ _ us hl=>by obtain⟨_,_,_,rfl⟩:=Vq hl;rfl
 obtain⟨_,hC8⟩:=lC8.has (ps:=["_law_ground","_law_worths_here","_law_heap_here"]) X G λF=>F.binds λ_ _ _ _ _ _ us hl=>by obtain⟨_,_,_,rfl⟩:=Vq hl;rfl
 obtain⟨_,hC9⟩:=lC9.has (ps:=["_law_source_here"]) X G λF=>F.binds λ_ _ _ _ _ _ us hl=>by obtain⟨_,rfl⟩:=Qs hl;rfl
 have FLAW:=vq (st:=Vb) lLAW cLAW kLAW
 obtain⟨_,FiCG⟩:=lCGi
 have clCG:ClG K mg CG fCGi _:=⟨⟨pgCG,hdCG,poCG,saCG⟩,⟨mkCG,inCG,fiCG,kcCG⟩,zbb X G nCG,noCG,nrCG,FiCG,FiCG.binds (ps:=["self","rows"]) λ_ _ _ _ _ _ us hl=>by obtain⟨_,_,rfl⟩:=QK hl;rfl⟩
 obtain⟨_,FCGM⟩:=lCGM
 have mCGM:XN K CG "names" "Ground.names" Z3 ["self"] fCGM _:=⟨FCGM,⟨atCGM,fnCGM,FCGM.kp⟩,FCGM.binds (ps:=["self"]) λ_ _ _ _ _ _ us hl=>by obtain⟨_,rfl⟩:=Qs hl;rfl⟩
 obtain⟨_,FCGF⟩:=lCGF
 have mCGF:XN K CG "roads_from" "Ground.roads_from" YU ["self","name"] fCGF _:=⟨FCGF,⟨atCGF,fnCGF,FCGF.kp⟩,FCGF.binds (ps:=["self","name"]) λ_ _ _ _ _ _ us hl=>by obtain⟨_,_,rfl⟩:=QK hl;rfl⟩
 obtain⟨_,FiCN⟩:=lCNi
 have clCN:Cl K mg "Numbered" "Numbered.__init__" "number" YM CN fCNi _:=⟨⟨pgCN,hdCN,poCN,saCN⟩,⟨mkCN,inCN,fiCN,kcCN⟩,zbb X G nCN,naCN,FiCN,FiCN.binds (ps:=["self","number"]) λ_ _ _ _ _ _ us hl=>by obtain⟨_,_,rfl⟩:=QK hl;rfl,caCN,obCN⟩
 obtain⟨_,FCNT⟩:=lCNT
 have mCNT:XN K CN "told" "Numbered.told" YL ["self"] fCNT _:=⟨FCNT,⟨atCNT,fnCNT,FCNT.kp⟩,FCNT.binds (ps:=["self"]) λ_ _ _ _ _ _ us hl=>by obtain⟨_,rfl⟩:=Qs hl;rfl⟩
 obtain⟨_,FCNO⟩:=lCNO
 have mCNO:XN K CN "outcome" "Numbered.outcome" kA ["self"] fCNO _:=⟨FCNO,⟨atCNO,fnCNO,FCNO.kp⟩,FCNO.binds (ps:=["self"]) λ_ _ _ _ _ _ us hl=>by obtain⟨_,rfl⟩:=Qs hl;rfl⟩
 obtain⟨_,FCNP⟩:=lCNP
 have mCNP:XN K CN "plus" "Numbered.plus" Va ["self","other"] fCNP _:=⟨FCNP,⟨atCNP,fnCNP,FCNP.kp⟩,FCNP.binds (ps:=["self","other"]) λ_ _ _ _ _ _ us hl=>by obtain⟨_,_,rfl⟩:=QK hl;rfl⟩
 obtain⟨_,FCNE⟩:=lCNE
 have mCNE:XN K CN "is_endless" "Numbered.is_endless" V8 ["self"] fCNE _:=⟨FCNE,⟨atCNE,fnCNE,FCNE.kp⟩,FCNE.binds (ps:=["self"]) λ_ _ _ _ _ _ us hl=>by obtain⟨_,rfl⟩:=Qs hl;rfl⟩
 obtain⟨_,FiCE⟩:=lCEi
 have clCE:Cl K mg "Endless" "Endless.__init__" "bits" YW CE fCEi _:=⟨⟨pgCE,hdCE,poCE,saCE⟩,⟨mkCE,inCE,fiCE,kcCE⟩,zbb X G nCE,naCE,FiCE,FiCE.binds (ps:=["self","bits"]) λ_ _ _ _ _ _ us hl=>by obtain⟨_,_,rfl⟩:=QK hl;rfl,caCE,obCE⟩
 obtain⟨_,FCET⟩:=lCET
 have mCET:XN K CE "told" "Endless.told" YV ["self"] fCET _:=⟨FCET,⟨atCET,fnCET,FCET.kp⟩,FCET.binds (ps:=["self"]) λ_ _ _ _ _ _ us hl=>by obtain⟨_,rfl⟩:=Qs hl;rfl⟩
 obtain⟨_,FCEO⟩:=lCEO
 have mCEO:XN K CE "outcome" "Endless.outcome" kG ["self"] fCEO _:=⟨FCEO,⟨atCEO,fnCEO,FCEO.kp⟩,FCEO.binds (ps:=["self"]) λ_ _ _ _ _ _ us hl=>by obtain⟨_,rfl⟩:=Qs hl;rfl⟩
 obtain⟨_,FCEP⟩:=lCEP
 have mCEP:XN K CE "plus" "Endless.plus" Vf ["self","other"] fCEP _:=⟨FCEP,⟨atCEP,fnCEP,FCEP.kp⟩,FCEP.binds (ps:=["self","other"]) λ_ _ _ _ _ _ us hl=>by obtain⟨_,_,rfl⟩:=QK hl;rfl⟩
 obtain⟨_,FCEE⟩:=lCEE
 have mCEE:XN K CE "is_endless" "Endless.is_endless" Ua ["self"] fCEE _:=⟨FCEE,⟨atCEE,fnCEE,FCEE.kp⟩,FCEE.binds (ps:=["self"]) λ_ _ _ _ _ _ us hl=>by obtain⟨_,rfl⟩:=Qs hl;rfl⟩
 have tl:∀h:Heap,K.In h->OwnTail h jS (.ref D::jS):=λh X=>.own (X _ _ oHE) ⟨_,es,ep,X _ _ nHE,rfl,KY skHE,λ_=>rfl⟩ niHE .base
 have ccD:M5 K D:=⟨jS,⟨_,_,_,_,_,_,_,_,_,_,_,_,_,_,_,oHE⟩,rfl⟩
 obtain⟨_,FNoHeap⟩:=lNoHeap
 have xNoHeap:xU K mg D "NoHeap" "NoHeap.__init__" ZZ "found" CNoHeap fNoHeap _:=vx X G tl FNoHeap (FNoHeap.binds (ps:=["self","found"]) λ_ _ _ _ _ _ us hl=>by obtain⟨_,_,rfl⟩:=QK hl;rfl) a1NoHeap a2NoHeap a3NoHeap a4NoHeap a5NoHeap a6NoHeap a7NoHeap a8NoHeap a9NoHeap a10NoHeap a11NoHeap a12NoHeap a13NoHeap
 obtain⟨_,FTooMany⟩:=lTooMany
 have xTooMany:xU K mg D "TooMany" "TooMany.__init__" Zd "found" CTooMany fTooMany _:=vx X G tl FTooMany (FTooMany.binds (ps:=["self","found"]) λ_ _ _ _ _ _ us hl=>by obtain⟨_,_,rfl⟩:=QK hl;rfl) a1TooMany a2TooMany a3TooMany a4TooMany a5TooMany a6TooMany a7TooMany a8TooMany a9TooMany a10TooMany a11TooMany a12TooMany a13TooMany
 obtain⟨_,FNoPlace⟩:=lNoPlace
 have xNoPlace:xU K mg D "NoPlace" "NoPlace.__init__" Jp "found" CNoPlace fNoPlace _:=vx X G tl FNoPlace (FNoPlace.binds (ps:=["self","found"]) λ_ _ _ _ _ _ us hl=>by obtain⟨_,_,rfl⟩:=QK hl;rfl) a1NoPlace a2NoPlace a3NoPlace a4NoPlace a5NoPlace a6NoPlace a7NoPlace a8NoPlace a9NoPlace a10NoPlace a11NoPlace a12NoPlace a13NoPlace
 have B:Qy mg:=⟨zak X G zlen,zak X G zmax,zak X G zmin,zak X G zint,zak X G zrange⟩
 have Gk:Qd mg:=⟨zak X G zsorted,zak X G zlist,zak X G zreversed,zak X G zset,zak X G ztuple⟩
 have T:Qn K mg:=⟨zak X G zisinstance,zak X G zstr,zak X G zall,zak X G zenumerate,zak X G zsum,⟨_,zbb X G m1⟩,⟨_,zbb X G m2⟩,⟨_,zbb X G m3⟩,⟨_,zbb X G m4⟩,kss,ktt,kll⟩
 have Nn:Nc K mg:=⟨⟨_,_,hA1⟩,⟨_,_,hA2⟩,⟨_,_,hA3⟩,⟨_,_,hA4⟩,⟨_,_,hA5⟩,⟨_,_,hA6⟩,⟨_,_,hA7⟩⟩
 have M:GM K mg CG:=⟨⟨_,_,clCG⟩,⟨_,_,mCGM⟩,⟨_,_,mCGF⟩,⟨_,_,hA1⟩⟩
 have Y:VI K mg:=⟨⟨_,_,hB1⟩,⟨_,_,hB2⟩,⟨_,_,hB3⟩,⟨_,_,hB4⟩,⟨_,_,hB5⟩,⟨_,_,hB6⟩,⟨_,_,hB7⟩,⟨_,_,hB8⟩⟩
 have Wq:Wk K mg:=⟨zak X G zisinstance,zak X G zbool,kii,kib,⟨_,zbb X G m5⟩,⟨_,zbb X G m6⟩⟩
 let wf:WF K mg:=⟨CN,CE,fCNi,fCEi,fCNT,fCET,fCNO,fCEO,fCNP,fCEP,fCNE,fCEE,fW1,fW2,fW3,fW4,fW5,fB2,_,_,_,_,_,_,_,_,_,_,_,_,_,_,_,_,ne,clCN,clCE,mCNT,mCET,mCNO,mCEO,mCNP,mCEP,mCNE,mCEE,hW1,hW2,hW3,hW4,hW5,hB2⟩
 have SL:MZ K:=⟨kNl,kTl,kSl,kIl,kBl,kDl⟩
 have O:zO K mg:=⟨⟨_,_,hP1⟩,⟨_,_,hP2⟩,⟨_,_,hP3⟩,⟨_,_,hW6⟩,⟨_,_,hP4⟩,⟨_,_,hP5⟩,⟨_,_,hP6⟩,⟨_,zbb X G m7⟩⟩
 have V1:KB K mg:=⟨⟨_,_,hQ1⟩,⟨_,_,hQ2⟩,⟨_,_,hQ3⟩,⟨_,_,hQ4⟩,⟨_,_,hQ5⟩⟩
 have Z:qbi K mg:=⟨⟨_,_,hO⟩,⟨_,_,hL⟩,⟨_,_,hT⟩,⟨_,_,hN⟩,⟨_,_,hD⟩,⟨_,_,hR⟩,⟨_,_,hA8⟩,⟨_,_,hC1⟩,⟨_,_,hC2⟩,⟨_,_,hC3⟩,⟨_,_,hC4⟩,⟨_,_,hC5⟩,⟨_,_,hC6⟩,⟨_,_,hC7⟩,⟨_,_,hC8⟩,⟨_,_,hC9⟩⟩
 have XS:Nd K mg D CNoHeap CTooMany CNoPlace:=⟨⟨_,_,xNoHeap⟩,⟨_,_,xTooMany⟩,⟨_,_,xNoPlace⟩⟩
 have ZE:M0 K D CNoHeap CTooMany CNoPlace:=⟨e1,e2,e3,e4,e5⟩
 exact⟨zby "law" "law" (Jf Vb) (Qv Vb) (qk Vb) .none kVLAW dcLAW pmLAW anLAW cdLAW ctLAW,λs v=>.of_eq rfl,λbase _ _=>Me FLAW wf B Wq kib SL Gk T Nn M Y O V1 Z (zak X G zdict) XS ZE⟩
theorem walk {l:PySem.W.OpenLaw} {q:Program} {loose:List Str} {XP:(Str->Option Value)->Heap->Prop} {YP:World->Heap->Prop} {d:DefRec} {K:Params->PySem.W.Frag} (hn:l.most=some 63) (hdf:d.params.defaults=[])
   (hY:∀(w:World) (h:Heap),YP w h->(K w.params).In h)
   (F:∀(w:World) (mg:Str->Option Value) (fa:Addr) (h:Heap),(K w.params).In h->h.Ns mainGlobals mg->mg d.name=some (.ref fa)->
     ∃fd:FuncData,(∀(s:Shared) (u:Value),BindsTo s fd ⟨[u],[]⟩ [("_law_script",u)])/\∀base:Heap,(K w.params).In base->base.Ns mainGlobals mg->qo l.prog w (K w.params) mg base qN 14 fa fd ["_law_script"] (km (K w.params))):
   PySem.W.WalkO q loose XP YP l.row.toRowW d [] (λf vs=>PySem.call f vs):=
 L2.walk_of (n:=63) (k:=14) (x:="_law_script") (CX:=λ_=>qN) (sp:=λw=>km (K w.params)) hn (by decide) hdf ⟨rfl,by decide,by decide,rfl⟩ hY F (λ_ _ a ns hl _ hS=>⟨a,ns,rfl,hS,hl,λ_=>rfl⟩) λ_ _ _ _ _ z=>z
end Rh
open PySem PySem.W PyProof.Rows
def PySem.W.Fast.tw17332964493986919756 : Unit := ()
def PySem.W.Fast.tw861502493610598483 : Unit := ()
def PySem.W.Fast.tw7231104519341178198 : Unit := ()
def PySem.W.Fast.tw8586721762622732767 : Unit := ()
def PySem.W.Fast.tw18430476961869974472 : Unit := ()
def PySem.W.Fast.tw2323540548168759778 : Unit := ()
def PySem.W.Fast.tw1533658984946242105 : Unit := ()
def PySem.W.Fast.tw7774113678449685934 : Unit := ()
def PySem.W.Fast.tw8917917961894373751 : Unit := ()
def PySem.W.Fast.tw12509177155966099375 : Unit := ()
def PySem.W.Fast.tw14678943786356421948 : Unit := ()
def PySem.W.Fast.tw14769054280063640981 : Unit := ()
def PySem.W.Fast.tw206458477050631689 : Unit := ()
def PySem.W.Fast.tw9285211346045004284 : Unit := ()
def PySem.W.Fast.tw15087498900868403761 : Unit := ()
def PySem.W.Fast.tw16912878257213621703 : Unit := ()
def PySem.W.Fast.tw17941610651245897021 : Unit := ()
def PySem.W.Fast.tw11212356425047092601 : Unit := ()
def PySem.W.Fast.tw9388713150524257201 : Unit := ()
def PySem.W.Fast.tw12528533614272120300 : Unit := ()
def PySem.W.Fast.tw14575388751658381831 : Unit := ()
def PySem.W.Fast.tw16721508838639397229 : Unit := ()
def PySem.W.Fast.tw6631347999910079877 : Unit := ()
def PySem.W.Fast.tw8356303796347215682 : Unit := ()
def PySem.W.Fast.tw12176265147828701554 : Unit := ()
def PySem.W.Fast.tw2466311954974566718 : Unit := ()
def PySem.W.Fast.tw18367749455379333440 : Unit := ()
def PySem.W.Fast.tw7050804516273991350 : Unit := ()
def PySem.W.Fast.tw3671519592330383864 : Unit := ()
def PySem.W.Fast.tw15433366417846715934 : Unit := ()
def PySem.W.Fast.tw5323960799030618294 : Unit := ()
def PySem.W.Fast.tw8966131664815694762 : Unit := ()
def PySem.W.Fast.tw15990004616052873044 : Unit := ()
def PySem.W.Fast.tw9104974531708491489 : Unit := ()
def PySem.W.Fast.tw16520785806668781166 : Unit := ()
def PySem.W.Fast.tw14849461344987154502 : Unit := ()
def PySem.W.Fast.tw7091221385724896812 : Unit := ()
def PySem.W.Fast.tw6798380500665416597 : Unit := ()
def PySem.W.Fast.tw13813548295540068894 : Unit := ()
def PySem.W.Fast.tw8212203176049278890 : Unit := ()
def PySem.W.Fast.tw5431711821321733379 : Unit := ()
def PySem.W.Fast.tw16108870410212019532 : Unit := ()
def PySem.W.Fast.tw17382457898008728272 : Unit := ()
def PySem.W.Fast.tw694261584828832409 : Unit := ()
def PySem.W.Fast.tw3328118118096588273 : Unit := ()
def PySem.W.Fast.tw12550775161083096063 : Unit := ()
def PySem.W.Fast.tw12717557048674177747 : Unit := ()
def PySem.W.Fast.tw10199421320940215857 : Unit := ()
def PySem.W.Fast.tw13367274342830030513 : Unit := ()
def PySem.W.Fast.tw14932756227218503593 : Unit := ()
def PySem.W.Fast.tw15214748959534726111 : Unit := ()
def PySem.W.Fast.tw87601786513091389 : Unit := ()
def PySem.W.Fast.tw10888863842102328177 : Unit := ()
def PySem.W.Fast.tw6046103115902281144 : Unit := ()
def PySem.W.Fast.tw14454166528178196959 : Unit := ()
def PySem.W.Fast.tw6828597562223498359 : Unit := ()
def PySem.W.Fast.tw16766484511958638138 : Unit := ()
def PySem.W.Fast.tw8319933024895762948 : Unit := ()
def PySem.W.Fast.tw6248682570935725439 : Unit := ()
def PySem.W.Fast.tw4946147512530127568 : Unit := ()
def PySem.W.Fast.tw14538725608371270373 : Unit := ()
def PySem.W.Fast.tw1351852979975943594 : Unit := ()
def PySem.W.Fast.tw15895094517606616290 : Unit := ()
def PySem.W.Fast.tw2827255003249426055 : Unit := ()
def PySem.W.Fast.tw7933485763601977624 : Unit := ()
def PySem.W.Fast.tw11317637306720784765 : Unit := ()
def PySem.W.Fast.tw14022695629967993375 : Unit := ()
def PySem.W.Fast.tw4684226298888400098 : Unit := ()
def PySem.W.Fast.tw866717566613908145 : Unit := ()
def PySem.W.Fast.tw6858818405166986180 : Unit := ()
def PySem.W.Fast.tw12431713363859531893 : Unit := ()
def PySem.W.Fast.tw9689729476882780088 : Unit := ()
def PySem.W.Fast.tw4548300405975405348 : Unit := ()
def PySem.W.Fast.tw514280064592716601 : Unit := ()
def PySem.W.Fast.tw16607193741793207195 : Unit := ()
def PySem.W.Fast.tw10510056951384868246 : Unit := ()
def PySem.W.Fast.tw17338325484393633139 : Unit := ()
def PySem.W.Fast.tw11373181179767321252 : Unit := ()
def PySem.W.Fast.tw5634867526602368427 : Unit := ()
def PySem.W.Fast.tw11066385474520676512 : Unit := ()
def PySem.W.Fast.tw14560624547652848805 : Unit := ()
def PySem.W.Fast.tw6607644564249050058 : Unit := ()
def PySem.W.Fast.tw16626521671886133394 : Unit := ()
def PySem.W.Fast.tw16955839230299176341 : Unit := ()
def PySem.W.Fast.tw7478123994339007903 : Unit := ()
def PySem.W.Fast.tw6216382948874008006 : Unit := ()
def PySem.W.Fast.tw14061609134260724683 : Unit := ()
def PySem.W.Fast.tw12747814925858328940 : Unit := ()
def PySem.W.Fast.tw15166322114958858414 : Unit := ()
def PySem.W.Fast.tw12003660372656728261 : Unit := ()
def PySem.W.Fast.tw4683681711962371626 : Unit := ()
def PySem.W.Fast.tw1717767836212652739 : Unit := ()
def PySem.W.Fast.tw17267597263503486738 : Unit := ()
def PySem.W.Fast.tw12297992134047619483 : Unit := ()
def PySem.W.Fast.tw15235614512728720 : Unit := ()
def PySem.W.Fast.tw14387916025512776202 : Unit := ()
def PySem.W.Fast.tw17187875760726034783 : Unit := ()
def PySem.W.Fast.tw13953587524928339648 : Unit := ()
def PySem.W.Fast.tw561727478393794602 : Unit := ()
def PySem.W.Fast.tw14564479935002850509 : Unit := ()
def PySem.W.Fast.tw17435391645217708394 : Unit := ()
def PySem.W.Fast.tw11907897558876765624 : Unit := ()
def PySem.W.Fast.tw15831126876759372255 : Unit := ()
def PySem.W.Fast.tw4884199854448574 : Unit := ()
def PySem.W.Fast.tw16864618592142003386 : Unit := ()
def PySem.W.Fast.tw1607123104830579860 : Unit := ()
def PySem.W.Fast.tw16120054744476736488 : Unit := ()
def PySem.W.Fast.tw5285915839522022235 : Unit := ()
def PySem.W.Fast.tw10698057553749749337 : Unit := ()
def PySem.W.Fast.tw539538531456391632 : Unit := ()
def PySem.W.Fast.tw13444670453868202053 : Unit := ()
def PySem.W.Fast.tw13674586047789940208 : Unit := ()
def PySem.W.Fast.tw10295913840692754127 : Unit := ()
def PySem.W.Fast.tw4804111812005502284 : Unit := ()
def PySem.W.Fast.tw6542358382571353910 : Unit := ()
def PySem.W.Fast.tw12269216009862288129 : Unit := ()
def PySem.W.Fast.tw14577027041581768965 : Unit := ()
def PySem.W.Fast.tw8737599933303070863 : Unit := ()
def PySem.W.Fast.tw9331231397406362311 : Unit := ()
def PySem.W.Fast.tw10826640976665885199 : Unit := ()
def PySem.W.Fast.tw6327569006664949090 : Unit := ()
def PySem.W.Fast.tw7046044490832178742 : Unit := ()
def PySem.W.Fast.tw14859695947638507448 : Unit := ()
def PySem.W.Fast.tw384561282630992784 : Unit := ()
def PySem.W.Fast.tw2576523973992343609 : Unit := ()
def PySem.W.Fast.tw5000232492035539693 : Unit := ()
def PySem.W.Fast.tw8565224436197482051 : Unit := ()
def PySem.W.Fast.tw5404398260228975080 : Unit := ()
def PySem.W.Fast.tw9387514328989991554 : Unit := ()
def PySem.W.Fast.tw4607425872040536859 : Unit := ()
def PySem.W.Fast.tw1915925776726481438 : Unit := ()
def PySem.W.Fast.tw13861969467909019144 : Unit := ()
def PySem.W.Fast.tw11033627544408312984 : Unit := ()
def PySem.W.Fast.tw5467331546851215429 : Unit := ()
def PySem.W.Fast.tw13946496683202179788 : Unit := ()
def PySem.W.Fast.tw11481637867367846703 : Unit := ()
def PySem.W.Fast.tw14727194681476072466 : Unit := ()
def PySem.W.Fast.tw4903002758410956813 : Unit := ()
def PySem.W.Fast.tw4561898282857576226 : Unit := ()
def PySem.W.Fast.tw1825952489489211193 : Unit := ()
def PySem.W.Fast.tw28018229315631829 : Unit := ()
def PySem.W.Fast.tw4906484309439969231 : Unit := ()
def PySem.W.Fast.tw17659185236578331656 : Unit := ()
def PySem.W.Fast.tw15541240446876304647 : Unit := ()
def PySem.W.Fast.tw5622701340561072331 : Unit := ()
def PySem.W.Fast.tw6060609690816243450 : Unit := ()
def PySem.W.Fast.tw1719895430356276633 : Unit := ()
def PySem.W.Fast.tw16003985067176294414 : Unit := ()
def PySem.W.Fast.tw896878414759379649 : Unit := ()
def PySem.W.Fast.tw8422229294311615681 : Unit := ()
def PySem.W.Fast.tw16493865465440409018 : Unit := ()
def PySem.W.Fast.tw18101783494082082527 : Unit := ()
def PySem.W.Fast.tw11662115353561507501 : Unit := ()
def PySem.W.Fast.tw10879749546641988924 : Unit := ()
def PySem.W.Fast.tw4849480874435393781 : Unit := ()
def PySem.W.Fast.tw2358075552688931204 : Unit := ()
def PySem.W.Fast.tw12652081859355081885 : Unit := ()
def PySem.W.Fast.tw14782954611325821827 : Unit := ()
def PySem.W.Fast.tw15142666989864626641 : Unit := ()
def PySem.W.Fast.tw6408400580700104982 : Unit := ()
def PySem.W.Fast.tw5274481202262711730 : Unit := ()
def PySem.W.Fast.tw772564365185477556 : Unit := ()
def PySem.W.Fast.tw1956260828630720203 : Unit := ()
def PySem.W.Fast.tw5002640475654186023 : Unit := ()
def PySem.W.Fast.tw6056707288978253535 : Unit := ()
def PySem.W.Fast.tw7000281897963312321 : Unit := ()
def PySem.W.Fast.tw615563214671542189 : Unit := ()
def PySem.W.Fast.tw16654469307462801742 : Unit := ()
def PySem.W.Fast.tw8431482922422412695 : Unit := ()
def PySem.W.Fast.tw13394580363473044415 : Unit := ()
def PySem.W.Fast.tw3075201292733833056 : Unit := ()
def PySem.W.Fast.tw12459912946257978736 : Unit := ()
def PySem.W.Fast.tw13547939009206843870 : Unit := ()
def PySem.W.Fast.tw14746253646979254834 : Unit := ()
set_option maxHeartbeats 0
open_top hd for PySem.Challenge.rw_ringheaps_k51_worths_of_heaps
set_option maxRecDepth 100000 in
set_option maxHeartbeats 0 in
theorem PySem.Challenge.cw_ringheaps_k51_worths_of_heaps_holds : PySem.Challenge.rw_ringheaps_k51_worths_of_heaps.Holds := by
 refine hd ?_
 k_fill
 refine Rh.walk (l:=PySem.Challenge.rw_ringheaps_k51_worths_of_heaps) rfl rfl (λw h Y=>PySem.W.kIn_of Y) ?F
 case F=>
   intro w mg fa h KX G hmg
   refine' Rh.all_mk KX G hmg ?_ ?_ ?_ ?_ ?_ ?_ ?_ ?_ ?_ ?_ ?_ ?_ ?_ ?_ ?_ ?_ ?_ ?_ ?_ ?_ ?_ ?_ ?_ ?_ ?_ ?_ ?_ ?_ ?_ ?_ ?_ ?_ ?_ ?_ ?_ ?_ ?_ ?_ ?_ ?_ ?_ ?_ ?_ ?_ ?_ ?_ ?_ ?_ ?_ ?_ ?_ ?_ ?_ ?_ ?_ ?_ ?_ ?_ ?_ ?_ ?_ ?_ ?_ ?_ ?_ ?_ ?_ ?_ ?_ ?_ ?_ ?_ ?_ ?_ ?_ ?_ ?_ ?_ ?_ ?_ ?_ ?_ ?_ ?_ ?_ ?_ ?_ ?_ ?_ ?_ ?_ ?_ ?_ ?_ ?_ ?_ ?_ ?_ ?_ ?_ ?_ ?_ ?_ ?_ ?_ ?_ ?_ ?_ ?_ ?_ ?_ ?_ ?_ ?_ ?_ ?_ ?_ ?_ ?_ ?_ ?_ ?_ ?_ ?_ ?_ ?_ ?_ ?_ ?_ ?_ ?_ ?_ ?_ ?_ ?_ ?_ ?_ ?_ ?_ ?_ ?_ ?_ ?_ ?_ ?_ ?_ ?_ ?_ ?_ ?_ ?_ ?_ ?_ ?_ ?_ ?_ ?_ ?_ ?_ ?_ ?_ ?_ ?_ ?_ ?_ ?_ ?_ ?_ ?_ ?_ ?_ ?_ ?_ ?_ ?_ ?_ ?_ ?_ ?_ ?_ ?_ ?_ ?_ ?_ ?_ ?_ ?_ ?_ ?_ ?_ ?_ ?_ ?_ ?_ ?_ ?_ ?_ ?_ ?_
   any_goals first | (apply Rh.HF.mk'<;>k_is) | (apply Rh.MF.mk'<;>k_is) | k_is | kernel_rfl | rfl | decide
