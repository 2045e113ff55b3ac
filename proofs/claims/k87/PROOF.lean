import PyProof.Rows.All
import Wide.All
import OpenK.AllK
import Wide.FinOn
import Lean
import PyProof.EqAt
import PyProof.EqKinds
import PyProof.TupleCall
import PySem.Challenge.RW_ringheaps_k87_whole_plain_numbers
set_option Elab.async false
set_option linter.all false
set_option maxRecDepth 100000
open Array renaming length_toList → zaq, getElem?_eq_some_iff → zaA, getElem?_eq_getElem → zbT, getElem?_toList → zdk, toList_append → zdt
open Bool renaming false_ne_true → tK, and_eq_true → zam, eq_iff_iff → zaS, false_eq_true → zbj, false_and → zcx, and_true → zcO, or_eq_true → zdh
open Int renaming toNat_natCast → zaQ, emod_lt_of_pos → zbt, emod_nonneg → zbF, fdiv_eq_ediv_of_nonneg → zbO, zero_add → zbS, natCast_nonneg → zcy
open List renaming length_map → tj, getElem?_eq_some_iff → tq, getElem?_eq_getElem → tu, map_append → tE, take_of_length_le → tF, mem_map → tG, getElem?_map → tH, length_take → tJ, length_append → tL, take_add_one → tM, mem_of_getElem? → tQ, map_cons → tS, mem_cons_of_mem → tW, size_toArray → tX, mem_filter → tY, mem_cons_self → t7, getElem?_append_left → t8, mem_cons → zaa, getElem?_append_right → zab, mem_singleton → zac, eq_nil_of_length_eq_zero → zad, range → zae, getElem?_of_mem → zah, mem_append → zai, mem_append_right → zan, length_filter_le → zao, pairwise_iff_getElem → zar, length_singleton → zas, length_cons → zat, getD_eq_getElem?_getD → zau, length_range → zav, filter_sublist → zax, lookup_cons → zay, append_nil → zaz, length → zaB, nodup_cons → zaC, filter_append → zaJ, getElem?_drop → zaK, mem_nil_iff → zaM, sum_cons → zaN, filterMap_cons → zaO, mem_append_left → zaR, length_drop → zaU, any_eq_true → zaV, all_eq_true → zaW, toArray → zaX, nodup_nil → zaY, getElem?_take → zbb, lookup → zbc, map_congr_left → zbf, getElem?_eq_none → zbg, filter_cons → zbi, not_mem_nil → zbk, eq_nil_iff_forall_not_mem → zbl, mem_range → zbm, mem_of_mem_take → zbn, find?_cons → zbq, length_filterMap_le → zby, getElem?_range → zbz, getElem_mem → zbA, pairwise_singleton → zbB, getElem?_cons_succ → zbC, mem_filterMap → zbD, map_map → zbE, filterMap_append → zbH, mem_iff_getElem? → zbI, take_sublist → zbK, append_assoc → zbM, nodup_append → zbN, length_reverse → zbU, getElem?_take_of_lt → zbW, sum_append → zcd, getElem?_set_self → zce, map_nil → zcf, foldl_append → zch, any_cons → zck, getElem?_set_ne → zcm, mem_erase_of_ne → zcn, length_eraseIdx → zco, foldl_cons → zcr, range_succ → zcs, getElem_of_mem → zcv, all_map → zcw, contains_cons → zcC, pairwise_cons → zcD, exists_cons_of_ne_nil → zcF, perm_ext_iff_of_nodup → zcG, getElem?_eq_none_iff → zcH, ext_getElem? → zcK, filter_congr → zcL, all_cons → zcM, length_erase_of_mem → zcN, mem_reverse → zcV, nodup_range → zcW, isEmpty_iff → zcX, length_pos_of_mem → zdc, of_mem_zip → zdf, length_nil → zdg, all_append → zdi, length_replicate → zdj, pairwise_reverse → zdm, replicate → zdo, drop_zero → zdp, pairwise_append → zdq, Perm → zdr, findIdx_append → zds, length_pos_iff → zdu, Pairwise → zdv, any_eq_false → zdx, reverse_cons → zdA, pairwise_map → zdD, range' → zdG, set → zdI, map → zdJ
open Nat renaming le_refl → tw, lt_of_lt_of_le → tN, ne_of_lt → tR, le_trans → tV, le_of_lt → zak, zero_le → zap, lt_irrefl → zaw, lt_succ_self → zaT, lt_of_le_of_lt → zaZ, lt_trichotomy → zbo, ne_of_gt → zbu, le_succ → zbw, lt_succ_of_lt → zbL, lt_or_ge → zbQ, sub_self → zbR, min_eq_left → zcc, lt_of_succ_lt → zci, min_le_right → zcj, not_lt_zero → zcp, strongRecOn → zcq, succ → zcA, mul_le_mul → zcE, succ_le_succ → zcP, le_add_right → zcR, min_eq_right → zcS, exists_eq_add_of_le → zcY, le_of_eq → zcZ, lt_trans → zdb, succ_pos → zdd, xor_assoc → zdw, sub_zero → zdB, zero_add → zdC
open Option renaming some → tO, isSome_iff_exists → zbV, map_some → zcb, map_eq_some_iff → zcg, isSome_map → zcJ, getD_none → zdF
open PySem.F renaming plainAttrs_list → zaj, slot_list_append → zaE, type_list_append → zaF, called_set → zba, slot_list_extend → zbX, type_list_extend → zbY, excBase_ValueError → zcB, plainAttrs_dict → zcQ, slot_dict_clear → zcT, slot_list_index → zcU, slot_dict_pop → zdl
open PySem.Heap renaming get?_push_of_some → tz, lt_size → tI, get?_push_size → tU, get?_update_other → zal, get?_update_self → zaH, size_push → zbe, get?_none_of_le → zcl
open PySem.W renaming findIn → tP, kitOne → tZ, mg_none_of → zaf, nsIn → zag, keepIn → zaD, mg_of → zaG, isFn → zaI, kia_one → zaL, emptyDict → zaP, hasDictIn → zbd, callWith_K → zbh, instObj → zbp, fnOf → zbr, plainGet → zbs, specialIn → zbv, mroIn → zbx, methodCall_KW → zbG, plainOver → zbJ, codeIn → zbP, makesIn → zbZ, takesIn → zca, plainGet_of → zct, callWith_K0 → zcu, lookIn → zcz, methodObj → zcI, cellsFrom_some → zda, takerIn → zde, looks_findIn → zdn, kitx_list → zdy, kitx_dict → zdz, handedIn → zdE, typeIn → zdH
namespace L2
open PySem PySem.Spec PyProof.Rows
abbrev qF:=Sum Int Str
def ZF:qF->Value->Bool
 | .inl k,v=>Value.isInt k v
 | .inr x,v=>Value.isStrOf x v
def qbX (w:World):qF->Int
 | .inl k=>hashInt k
 | .inr x=>hashStr w x
theorem jf:∀{k:qF} {v:Value},ZF k v=true->(∃i t,k=Sum.inl i/\v=Value.int i t)\/(∃x t,k=Sum.inr x/\v=Value.str x t)
 | .inl i,v,h=>by
   obtain⟨t,e⟩:=Value.isInt_shape (k:=i) (v:=v) h
   exact .inl ⟨i,t,rfl,e⟩
 | .inr x,v,h=>by
   obtain⟨t,e⟩:=Value.isStrOf_shape (x:=x) (v:=v) h
   exact .inr ⟨x,t,rfl,e⟩
theorem k7 (i:Int) (t:Tok):ZF (.inl i) (.int i t)=true:=by simp [ZF,Value.isInt]
theorem k6 (x:Str) (t:Tok):ZF (.inr x) (.str x t)=true:=by simp [ZF,Value.isStrOf]
theorem NO (a b:Int):decide ((Sum.inl a:qF)=Sum.inl b)=(a==b):=by
 by_cases e:a=b
 . subst e;simp
 . have h:¬(Sum.inl a:qF)=Sum.inl b:=λq=>e (Sum.inl.inj q)
   rw[decide_eq_false h]
   exact(beq_eq_false_iff_ne.mpr e).symm
theorem NK (a b:Str):decide ((Sum.inr a:qF)=Sum.inr b)=decide (a=b):=by
 by_cases e:a=b
 . subst e;simp
 . have h:¬(Sum.inr a:qF)=Sum.inr b:=λq=>e (Sum.inr.inj q)
   rw[decide_eq_false h,decide_eq_false e]
theorem NM (a:Int) (b:Str):decide ((Sum.inl a:qF)=Sum.inr b)=false:=decide_eq_false (λq=>nomatch q)
theorem NL (a:Str) (b:Int):decide ((Sum.inr a:qF)=Sum.inl b)=false:=decide_eq_false (λq=>nomatch q)
def qU (prog:Program) (w:World):PySem.KeyKind prog w qF where
 is:=ZF
 hash:=qbX w
 inj:=λv a b ha hb=>by
   rcases jf ha with ⟨i,t,rfl,rfl⟩ | ⟨x,t,rfl,rfl⟩
   . rcases jf hb with ⟨j,u,rfl,e⟩ | ⟨y,u,rfl,e⟩
     . injection e with e1 _;rw[e1]
     . exact nomatch e
   . rcases jf hb with ⟨j,u,rfl,e⟩ | ⟨y,u,rfl,e⟩
     . exact nomatch e
     . injection e with e1 _;rw[e1]
 byValue:=λk v h=>by
   rcases jf h with ⟨i,t,rfl,rfl⟩ | ⟨x,t,rfl,rfl⟩<;>rfl
 pyHash:=λhv h=>by
   rcases jf hv with ⟨i,t,rfl,rfl⟩ | ⟨x,t,rfl,rfl⟩
   . exact wpAny_pyHash_int h
   . exact wpAny_pyHash_str h
 eqBool:=λhu hv h=>by
   rcases jf hu with ⟨i,t,rfl,rfl⟩ | ⟨x,t,rfl,rfl⟩
   . rcases jf hv with ⟨j,u,rfl,rfl⟩ | ⟨y,u,rfl,rfl⟩
     . rw[NO]at h;exact wpAny_eqBool_int h
     . rw[NM]at h;exact SeqAt.EqAt.int_str i t y u _ _ _ _ h
   . rcases jf hv with ⟨j,u,rfl,rfl⟩ | ⟨y,u,rfl,rfl⟩
     . rw[NL]at h;exact SeqAt.EqAt.str_int x t j u _ _ _ _ h
     . rw[NK]at h;exact wpAny_eqBool_str h
 «strs»:=λk x t v h=>by
   rcases jf h with ⟨i,u,rfl,e⟩ | ⟨y,u,rfl,e⟩
   . exact nomatch e
   . injection e with e1 _
     subst e1
     cases v<;>rfl
theorem Vg (prog:Program) (w:World) (i:Int) (t:Tok):(qU prog w).is (.inl i) (.int i t)=true:=k7 i t
theorem Vf (prog:Program) (w:World) (x:Str) (t:Tok):(qU prog w).is (.inr x) (.str x t)=true:=k6 x t
inductive V where
 | non | bl (b:Bool) | int (i:Int) | str (x:Str) | byt (b:Array UInt8) | flt (b:UInt64) | ref (a:Addr) | ty (n:String)
 deriving DecidableEq
def qL:V->Value->Prop
 | .non,u=>u=Value.none
 | .bl b,u=>u=Value.bool b
 | .int i,u=>∃t,u=Value.int i t
 | .str x,u=>∃t,u=Value.str x t
 | .byt b,u=>∃t,u=Value.bytes b t
 | .flt b,u=>∃t,u=Value.float b t
 | .ref a,u=>u=Value.ref a
 | .ty n,u=>u=Value.type n
abbrev qE:List V->List Value->Prop:=Paired qL
theorem qE.length {xs:List V} {us:List Value} (r:qE xs us):xs.length=us.length:=Paired.length r
theorem qE.get:∀{xs:List V} {us:List Value} {i:Nat} {x:V},qE xs us->xs[i]?=some x->∃u,us[i]?=some u/\qL x u
 | _,_,_,_,.nil,e=>by simp at e
 | _,_,0,_,.cons r _,e=>by simp at e;subst e;exact⟨_,rfl,r⟩
 | _,_,i+1,x,.cons _ t,e=>by
   obtain⟨u,h1,h2⟩:=qE.get (i:=i) (x:=x) t (by simpa using e)
   exact⟨u,by simpa using h1,h2⟩
theorem qE.set {x:V} {u:Value} (r:qL x u):∀{xs:List V} {us:List Value} (i:Nat),qE xs us->qE (xs.set i x) (us.set i u)
 | _,_,_,.nil=>.nil
 | _,_,0,.cons _ t=>.cons r t
 | _,_,i+1,.cons q t=>.cons q (qE.set r i t)
theorem qE.append:∀{xs ys:List V} {us ws:List Value},qE xs us->qE ys ws->qE (xs++ys) (us++ws)
 | _,_,_,_,.nil,s=>s
 | _,_,_,_,.cons r t,s=>.cons r (qE.append t s)
theorem qE.take:∀{xs:List V} {us:List Value} (n:Nat),qE xs us->qE (xs.take n) (us.take n)
 | _,_,0,_=>.nil
 | _,_,_+1,.nil=>.nil
 | _,_,n+1,.cons r t=>.cons r (qE.take n t)
theorem qE.drop:∀{xs:List V} {us:List Value} (n:Nat),qE xs us->qE (xs.drop n) (us.drop n)
 | _,_,0,r=>r
 | _,_,_+1,.nil=>.nil
 | _,_,n+1,.cons _ t=>qE.drop n t
theorem qE.none_of:∀{xs:List V} {us:List Value} {i:Nat},qE xs us->xs[i]?=none->us[i]?=none:=λ{xs us i} r e=>by
 have h1:=r.length
 have h2:xs.length<=i:=zcH.mp e
 exact zcH.mpr (by omega)
def Jr:Option V->Option Value->Prop
 | some v,some u=>qL v u
 | none,none=>True
 | _,_=>False
def KV {κ:Type}:List (κ×V)->List (κ×Value)->Prop:=Paired λ(p:κ×V) (q:κ×Value)=>p.1=q.1/\qL p.2 q.2
def kV:qF->V
 | .inl i=>.int i
 | .inr x=>.str x
inductive HO where
 | lst (xs:List V)
 | tup (xs:List V)
 | dK (kvs:List (qF×V)) | dT (kvs:List (List qF×V))
 | set (S:Int->Bool) (n:Nat)
 | ins (C dx:Addr) (fs:List (Str×V))
 | own (x:Addr)
 | xd (fs:List (Str×V))
 | met (f x:Addr)
 | rng (lo hi:Int)
 | frz (o:Obj) (u:HO)
 | tbl (ps:Array Value)
 | ext (φ:Heap->Prop)
abbrev Hp:=Addr->Option HO
def upd (H:Hp) (a:Addr) (o:HO):Hp:=λb=>if b=a then some o else H b
theorem qe {H:Hp} {a:Addr} {o:HO}:upd H a o a=some o:=by unfold upd;rw[if_pos rfl]
theorem qi {H:Hp} {a b:Addr} {o:HO} (h:b≠a):upd H a o b=H b:=by unfold upd;rw[if_neg h]
theorem jd {H:Hp} {a:Addr} {o u:HO}:upd (upd H a o) a u=upd H a u:=by
 funext b;unfold upd;split<;>rfl
theorem qat {H:Hp} {a b:Addr} {o u:HO} (h:H a=some o) (h':H b=some u) (d:o≠u):a≠b:=by
 intro e;subst e;rw[h]at h';exact d (tO.inj h')
theorem qz {H:Hp} {a b:Addr} {o:HO} (h:H a=some o) (h':H b=none):a≠b:=by
 intro e;subst e;rw[h]at h';cases h'
section
variable (P:Program) (w:World)
def qM (H:Hp) (h:Heap) (a:Addr):HO->Prop
 | .lst xs=>xs.length<=sizeLine/\∃(its:List Value) (n:Nat),qE xs its/\h.get? a=some {cls:=.type "list",data:=.seq its.toArray n}
 | .tup xs=>xs.length<=sizeLine/\∃its:List Value,qE xs its/\IsTup h a its.toArray
 | .dK kvs=>kvs.length<=sizeLine/\(a==sysModules)=false/\∃vs,KV kvs vs/\h.DictOf (qU P w) a vs
 | .dT kvs=>kvs.length<=sizeLine/\(a==sysModules)=false/\∃xs:List (List qF×Addr×Value),
     Paired (λ(p:List qF×V) (q:List qF×Addr×Value)=>p.1=q.1/\H q.2.1=some (.tup (p.1.map kV))/\qL p.2 q.2.2) kvs xs/\
     ∃o es ep,h.get? a=some o/\o.ExactDict/\o.data=.dict es ep/\es.toList=xs.map (entryOfKey (tupleKind (qU P w)))/\(xs.map (·.1)).Nodup
 | .set S n=>h.SetOf (intKind P w) a S n
 | .ins C dx fs=>H dx=some (.own a)/\fs.length<=1000/\dx≠a/\h.get? a=some (zbp C dx)/\
     ∃mA,h.Ns1 dx mA/\(∀f,Jr (fs.lookup f) (mA f))/\PySem.Within mA (fs.map (·.1))
 | .own _=>∃o,h.get? a=some o
 | .xd fs=>∃mA,h.Ns1 a mA/\∀f,Jr (fs.lookup f) (mA f)
 | .rng lo hi=>∃t u v,h.get? a=some {cls:=.type "range",data:=.fields #[.int lo t,.int hi u,.int 1 v]}
 | .frz o u=>h.get? a=some o/\qM H h a u
 | .tbl ps=>h.get? a=some {cls:=.none,data:=.fields ps}
 | .met f x=>h.get? a=some (zcI (.ref f) (.ref x))
 | .ext φ=>φ h/\(∃o,h.get? a=some o)/\∀h1 h2:Heap,φ h1->(∀o,h1.get? a=some o->h2.get? a=some o)->φ h2
def Je (H:Hp) (h:Heap):Prop:=∀a o,H a=some o->qM P w H h a o
end
section
variable {P:Program} {w:World} {H H':Hp} {h h':Heap} {a:Addr} {o:HO}
theorem qM.lt (x:qM P w H h a o):a < h.objs.size:=by
 cases o with
 | lst xs=>obtain⟨_,_,_,_,e⟩:=x;exact tI e
 | tup xs=>obtain⟨_,_,_,p⟩:=x;exact p.lt
 | dK kvs=>obtain⟨_,_,_,_,o,_,_,e,_⟩:=x;exact tI e
 | dT kvs=>obtain⟨_,_,_,_,o,_,_,e,_⟩:=x;exact tI e
 | set S n=>obtain⟨o,_,_,_,e,_⟩:=x;exact tI e
 | ins C dx fs=>obtain⟨_,_,_,e,_⟩:=x;exact tI e
 | own y=>obtain⟨_,e⟩:=x;exact tI e
 | xd fs=>obtain⟨_,⟨_,_,_,e,_⟩,_⟩:=x;exact tI e
 | rng lo hi=>obtain⟨_,_,_,e⟩:=x;exact tI e
 | frz ob u=>obtain⟨e,_⟩:=x;exact tI e
 | tbl ps=>exact tI (show h.get? a=some _ from x)
 | met f y=>exact tI (show h.get? a=some _ from x)
 | ext φ=>obtain⟨_,⟨_,e⟩,_⟩:=x;exact tI e
theorem Paired.mapP {α β:Type} {F G:α->β->Prop}:∀{l₁:List α} {l₂:List β},Paired F l₁ l₂->(∀a b,F a b->G a b)->Paired G l₁ l₂
 | _,_,.nil,_=>.nil
 | _,_,.cons r t,f=>.cons (f _ _ r) (Paired.mapP t f)
theorem qM.stay (x:qM P w H h a o) (k:∀b u,(b=a\/H b=some (.own a))->h.get? b=some u->h'.get? b=some u)
   (ho:∀b,H b=some (.own a)->H' b=some (.own a)) (ht:∀b xs,H b=some (.tup xs)->H' b=some (.tup xs)):qM P w H' h' a o:=by
 induction o with
 | lst xs=>obtain⟨z,its,n,r,e⟩:=x;exact⟨z,its,n,r,k _ _ (.inl rfl) e⟩
 | tup xs=>obtain⟨z,its,r,ob,e,c⟩:=x;exact⟨z,its,r,ob,k _ _ (.inl rfl) e,c⟩
 | dK kvs=>obtain⟨z,y,vs,r,ob,es,ep,e,c⟩:=x;exact⟨z,y,vs,r,ob,es,ep,k _ _ (.inl rfl) e,c⟩
 | dT kvs=>
   obtain⟨z,y,xs,r,ob,es,ep,e,c⟩:=x
   exact⟨z,y,xs,Paired.mapP r λp q z=>⟨z.1,ht _ _ z.2.1,z.2.2⟩,ob,es,ep,k _ _ (.inl rfl) e,c⟩
 | set S n=>obtain⟨ob,es,ep,t,e,c⟩:=x;exact⟨ob,es,ep,t,k _ _ (.inl rfl) e,c⟩
 | ins C dx fs=>
   obtain⟨d,z,ne,e,mA,⟨od,es,ep,e2,c⟩,r⟩:=x
   exact⟨ho _ d,z,ne,k _ _ (.inl rfl) e,mA,⟨od,es,ep,k _ _ (.inr d) e2,c⟩,r⟩
 | own y=>obtain⟨ob,e⟩:=x;exact⟨ob,k _ _ (.inl rfl) e⟩
 | xd fs=>obtain⟨mA,⟨od,es,ep,e,c⟩,r⟩:=x;exact⟨mA,⟨od,es,ep,k _ _ (.inl rfl) e,c⟩,r⟩
 | rng lo hi=>obtain⟨t,u,v,e⟩:=x;exact⟨t,u,v,k _ _ (.inl rfl) e⟩
 | frz ob u ih=>obtain⟨e,q⟩:=x;exact⟨k _ _ (.inl rfl) e,ih q⟩
 | tbl ps=>
   have e:h.get? a=some {cls:=.none,data:=.fields ps}:=x
   show h'.get? a=some {cls:=.none,data:=.fields ps}
   exact k a _ (.inl rfl) e
 | met f y=>
   have e:h.get? a=some (zcI (.ref f) (.ref y)):=x
   show h'.get? a=some (zcI (.ref f) (.ref y))
   exact k a _ (.inl rfl) e
 | ext φ=>obtain⟨p,⟨o,e⟩,st⟩:=x;exact⟨st _ _ p λo q=>k _ _ (.inl rfl) q,⟨o,k _ _ (.inl rfl) e⟩,st⟩
theorem Je.lt (x:Je P w H h) (e:H a=some o):a < h.objs.size:=(x a o e).lt
theorem Je.fresh (x:Je P w H h) (e:h.objs.size<=a):H a=none:=by
 cases q:H a with
 | none=>rfl
 | some u=>exact absurd (tN (x.lt q) e) (zaw _)
theorem Je.kept (x:Je P w H h) (k:∀b u,h.get? b=some u->h'.get? b=some u):Je P w H h':=λa o e=>
 (x a o e).stay (λb u _ q=>k b u q) (λ_ q=>q) λ_ _ q=>q
theorem Je.laid (x:Je P w H h) (k:∀b u,h.get? b=some u->h'.get? b=some u) (hp:h.objs.size<=a) (new:qM P w (upd H a o) h' a o):Je P w (upd H a o) h':=λb u e=>by
 have hn:=x.fresh hp
 by_cases hb:b=a
 . subst hb;rw[qe]at e;cases e;exact new
 . rw[qi hb]at e
   exact(x b u e).stay (λc v _ q=>k c v q) (λc q=>by rw[qi (qz q hn)];exact q) λc xs q=>by rw[qi (qz q hn)];exact q
end
def Rd (H:Hp) (a:Addr) (u:HO):Prop:=H a=some u\/∃o,H a=some (.frz o u)
theorem Rd.of {H:Hp} {a:Addr} {u:HO} (h:H a=some u):Rd H a u:=.inl h
theorem Rd.ok {P:Program} {w:World} {H:Hp} {h:Heap} {a:Addr} {u:HO} (r:Rd H a u) (x:Je P w H h):qM P w H h a u:=by
 rcases r with r | ⟨o,r⟩
 . exact x a u r
 . obtain⟨_,q⟩:=x a _ r
   exact q
def Mg:Option HO->Prop
 | some (.lst _)=>True
 | some (.dK _)=>True
 | some (.dT _)=>True
 | some (.set _ _)=>True
 | some (.ins _ _ _)=>True
 | some (.ext _)=>True
 | _=>False
section
variable {P:Program} {w:World} {H:Hp} {h h':Heap} {x e:Addr} {o':HO}
theorem Je.write (ok:Je P w H h) (mu:Mg (H x)) (he:e=x\/H e=some (.own x)) (k:∀b u,b≠e->h.get? b=some u->h'.get? b=some u) (heo:∃u,h'.get? e=some u)
   (new:qM P w (upd H x o') h' x o'):Je P w (upd H x o') h':=λb u q=>by
 have nown:∀c y,H c=some (.own y)->c≠x:=λc y r z=>by subst z;rw[r]at mu;exact mu
 have ntup:∀c xs,H c=some (.tup xs)->c≠x:=λc xs r z=>by subst z;rw[r]at mu;exact mu
 by_cases hb:b=x
 . subst hb;rw[qe]at q;cases q;exact new
 . rw[qi hb]at q
   by_cases hbe:b=e
   . have q':H b=some (.own x):=by
       rcases he with z | z
       . exact absurd (hbe.trans z) hb
       . rw[hbe];exact z
     rw[q]at q';cases q'
     obtain⟨v,hv⟩:=heo
     exact⟨v,by rw[hbe];exact hv⟩
   . refine(ok b u q).stay (λc v hc r=>k c v ?_ r) (λc r=>by rw[qi (nown c b r)];exact r) λc xs r=>by rw[qi (ntup c xs r)];exact r
     rcases hc with rfl | hc
     . exact hbe
     . rintro rfl
       rcases he with z | z
       . exact nown c b hc z
       . rw[hc]at z;cases z;exact hb rfl
end
structure Un (fs ex:List Addr) (H H':Hp) (h h':Heap):Prop where
 keep:∀b o,h.get? b=some o->H b=none->b∉fs->b∉ex->h'.get? b=some o
 slot:∀b o,h.get? b=some o->H b=none->b∈fs->b∉ex->∃sl,h'.get? b=some {o with slots:=sl}
 free:∀b o,h.get? b=some o->H b=none->b∉ex->H' b=none
 there:∀b o,h.get? b=some o->b∉ex->∃o',h'.get? b=some o'
 tups:∀b xs,H b=some (.tup xs)->H' b=some (.tup xs)
 frzs:∀b o u,H b=some (.frz o u)->H' b=some (.frz o u)
 tbls:∀b ps,H b=some (.tbl ps)->∃more,H' b=some (.tbl (ps++more))
section
variable {fs fs' ex ex':List Addr} {H H1 H2:Hp} {h h1 h2 h':Heap} {a x e:Addr} {o:HO}
theorem Un.any (u:Un fs ex H H1 h h1) {b:Addr} {ob:Obj} (q:h.get? b=some ob) (n:H b=none) (hx:b∉ex):∃sl,h1.get? b=some {ob with slots:=sl}:=by
 by_cases hb:b∈fs
 . exact u.slot b ob q n hb hx
 . exact⟨ob.slots,u.keep b ob q n hb hx⟩
theorem Un.kept (k:∀b u,h.get? b=some u->h'.get? b=some u):Un fs ex H H h h':=
 ⟨λb ob q _ _ _=>k b ob q,λb ob q _ _ _=>⟨ob.slots,k b ob q⟩,λ_ _ _ n _=>n,λb ob q _=>⟨ob,k b ob q⟩,λ_ _ q=>q,λ_ _ _ q=>q,λ_ ps q=>⟨#[],by rw[q];simp⟩⟩
theorem Un.refl:Un fs ex H H h h:=Un.kept λ_ _ q=>q
theorem Un.laid (k:∀b u,h.get? b=some u->h'.get? b=some u) (hp:h.objs.size<=a) (hn:H a=none):Un fs ex H (upd H a o) h h' where
 keep:=λb u q _ _ _=>k b u q
 slot:=λb u q _ _ _=>⟨u.slots,k b u q⟩
 free:=λb u q n _=>by rw[qi (tR (tN (tI q) hp))];exact n
 there:=λb u q _=>⟨u,k b u q⟩
 tups:=λb xs q=>by rw[qi (qz q hn)];exact q
 frzs:=λb u xs q=>by rw[qi (qz q hn)];exact q
 tbls:=λb ps q=>⟨#[],by rw[qi (qz q hn),q];simp⟩
theorem Un.write (mu:Mg (H x)) (he:e=x\/H e=some (.own x)) (k:∀b u,b≠e->h.get? b=some u->h'.get? b=some u) (heo:∃u,h'.get? e=some u):Un fs ex H (upd H x o) h h':=by
 have hx:∀b,H b=none->b≠x:=λb n z=>by subst z;rw[n]at mu;exact mu
 have hb:∀b,H b=none->b≠e:=λb n z=>by
   subst z
   rcases he with r | r
   . exact hx b n r
   . rw[n]at r;cases r
 have hm:∀b u,H b=some u->¬Mg (some u)->b≠x:=λb u q nm z=>by subst z;rw[q]at mu;exact nm mu
 refine⟨λb u q n _ _=>k b u (hb b n) q,λb u q n _ _=>⟨u.slots,k b u (hb b n) q⟩,λb u q n _=>by rw[qi (hx b n)];exact n,λb u q _=>?_,
   λb xs q=>by rw[qi (hm b _ q λz=>z)];exact q,λb u xs q=>by rw[qi (hm b _ q λz=>z)];exact q,λb ps q=>⟨#[],by rw[qi (hm b _ q λz=>z),q];simp⟩⟩
 by_cases hbe:b=e
 . subst hbe;exact heo
 . exact⟨u,k b u hbe q⟩
end
def trk (h:Heap) (H:Hp):List Addr:=(zae h.objs.size).filter λa=>(H a).isSome
def Wy (h:Heap) (H:Hp):Heap:=PySem.W.hideAll h (trk h H)
theorem ye (h:Heap) (H:Hp):(Wy h H).objs.size=h.objs.size:=PySem.W.hideAll_size _ _
theorem wJ {h:Heap} {H:Hp} {b:Addr} {o:Obj} (e:h.get? b=some o) (n:H b=none):(Wy h H).get? b=some o:=
 PySem.W.hideAll_get _ e λhm=>by
   have q:(H b).isSome=true:=(tY.mp hm).2
   rw[n]at q;simp at q
theorem KP {h:Heap} {H:Hp} {b:Addr} {o:Obj} (e:(Wy h H).get? b=some o):h.get? b=some o/\H b=none:=by
 have e':h.get? b=some o:=PySem.W.of_hideAll (trk h H) e
 refine⟨e',?_⟩
 cases q:H b with
 | none=>rfl
 | some x=>
   have hm:b∈trk h H:=tY.mpr ⟨zbm.mpr (tI e'),by simp [q]⟩
   have z:(Wy h H).get? b=none:=PySem.W.hideAll_none (trk h H) hm
   rw[z]at e;cases e
def Gx (g h:Heap) (L:Addr):List (Addr×Obj):=(zae h.objs.size).filterMap λa=>if a=L\/(g.get? a).isSome=true then none else (h.get? a).map λo=>(a,o)
def rest (g h:Heap) (L d:Addr):List (Addr×Obj):=(Gx g h L).filter λp=>decide (p.1≠d)
structure Mod (K:PySem.W.Frag) (mg:Str->Option Value) (base:Heap):Prop where
 kin:K.In base
 glob:base.Ns mainGlobals mg
 blt:∃mb,base.Ns builtinsNs mb/\∀x:Str,x≠"__name__"->mb x=bootBuiltins x
 nolimit:base.NoLimit
structure Cx where
 prog:Program
 w:World
 K:PySem.W.Frag
 mg:Str->Option Value
 base:Heap
 A:Around
 N:List Str
 s₀:Shared
 H₀:Hp
 env:Env
 outer:List Env
 stack:List Env
 ex:List Addr
 fn:Str->Bool
 calm:Bool
 pn:List (Addr×Obj)
 xe:Value->Shared->Prop
def YD (l:List Env):List Addr:=l.filterMap (·.frame)
abbrev Cx.fs (X:Cx):List Addr:=YD X.outer
def My (sc:Scope) (x:Str):Prop:=sc.names.lookup x=some .local\/sc.names.lookup x=some .cell\/sc.names.lookup x=some .free
def Mi (sc:Scope) (x:Str):Prop:=sc.names.lookup x=some .local\/sc.names.lookup x=some .cell
def qb7 (env:Env) (h:Heap) (m:Str->Option Value) (x:Str) (u:Value):Prop:=
 (env.kindOf x=some .local/\m x=some u)\/((env.kindOf x=some .cell\/env.kindOf x=some .free)/\∃c,env.cells.lookup x=some c/\h.IsCell c (some u))
structure Cx.Ok (X:Cx):Prop where
 mod:Mod X.K X.mg X.base
 kind:X.env.scope.kind=.function
 glob:X.env.globals=mainGlobals
 blt:X.env.builtins=builtinsNs
 above:X.s₀.heap.objs.size<=X.env.locals
 inj:∀x y c,X.env.cells.lookup x=some c->X.env.cells.lookup y=some c->x=y
 has:∀x,(X.env.kindOf x=some .cell\/X.env.kindOf x=some .free)->∃c,X.env.cells.lookup x=some c
 cab:∀x c,X.fn x=true->X.env.cells.lookup x=some c->X.s₀.heap.objs.size<=c
 hd:X.calm=true->X.A.handled=none
 frames:X.A.frames=some X.stack
 stk:X.stack=X.outer\/(X.stack=X.env::X.outer/\X.env.frame=some X.env.locals)
 exf:∀b∈X.ex,b≠X.env.locals/\∀x c,X.env.cells.lookup x=some c->c≠b
 bs:∀b o,X.base.get? b=some o->X.s₀.heap.get? b=some o/\X.H₀ b=none
 bsz:X.base.objs.size<=X.s₀.heap.objs.size
 noex:∀b o,X.base.get? b=some o->b∉X.ex
 exfs:∀b∈X.ex,b∉X.fs
 funs:X.s₀.heap.FunFrames X.base X.outer
 frf:∀b∈X.fs,X.H₀ b=none
structure qC (X:Cx) (pins:List (Addr×Obj)) (σ:List (Option V)) (H:Hp) (s:Shared):Prop where
 ok:X.Ok
 os:s.os=X.s₀.os
 bare:AllBare s.gens
 base:Un X.fs X.ex X.H₀ H X.s₀.heap s.heap
 loc:∃m,s.heap.Ns X.env.locals m/\∀(i:Nat) (x:Str) (v:V),X.N[i]?=some x->σ[i]?=some (some v)->My X.env.scope x->∃u,qL v u/\qb7 X.env s.heap m x u
 cell:∀x c,X.env.cells.lookup x=some c->∃v,s.heap.IsCell c v
 free:H X.env.locals=none
 freeC:∀x c,X.env.cells.lookup x=some c->H c=none
 pin:∀p∈X.pn++pins,s.heap.get? p.1=some p.2/\H p.1=none/\p.1≠X.env.locals/\p.1∉X.fs/\∀v,p.2.data≠.cell v
 hok:Je X.prog X.w H s.heap
 len:σ.length=X.N.length
section
variable {X:Cx} {pins:List (Addr×Obj)} {σ:List (Option V)} {H H':Hp} {s:Shared} {h':Heap}
theorem Cx.Ok.nofr (ok:X.Ok) {b:Addr} {o:Obj} (e:X.base.get? b=some o):b∉X.fs:=λhb=>by
 have:=(ok.funs.mem hb).1
 rw[e]at this;cases this
theorem qC.bs (I:qC X pins σ H s):∀b o,X.base.get? b=some o->s.heap.get? b=some o/\H b=none:=λb o e=>
 ⟨I.base.keep b o (I.ok.bs b o e).1 (I.ok.bs b o e).2 (I.ok.nofr e) (I.ok.noex b o e),I.base.free b o (I.ok.bs b o e).1 (I.ok.bs b o e).2 (I.ok.noex b o e)⟩
theorem qC.bk (I:qC X pins σ H s):∀b o,X.base.get? b=some o->s.heap.get? b=some o:=λb o e=>(I.bs b o e).1
theorem qC.mod (I:qC X pins σ H s):Mod X.K X.mg X.base:=I.ok.mod
theorem qC.kIn (I:qC X pins σ H s):X.K.In s.heap:=I.ok.mod.kin.keeps I.bk
theorem qC.lt (I:qC X pins σ H s):X.env.locals < s.heap.objs.size:=let ⟨_,hn,_⟩:=I.loc;hn.lt
theorem qC.sz (I:qC X pins σ H s):X.s₀.heap.objs.size<=s.heap.objs.size:=tV I.ok.above (zak I.lt)
theorem qC.nofs (I:qC X pins σ H s) {a:Addr} (h:s.heap.objs.size<=a):a∉X.fs:=λhb=>by
 obtain⟨_,o,ho,_⟩:=I.ok.funs.mem hb
 exact absurd (tN (tI ho) (tV I.sz h)) (zaw _)
theorem qC.cne (I:qC X pins σ H s):∀x c,X.env.cells.lookup x=some c->c≠X.env.locals:=λx c e z=>by
 obtain⟨v,o,ho,hd⟩:=I.cell x c e
 obtain⟨m,⟨o',es,ep,ho',hd',_⟩,_⟩:=I.loc
 rw[z,ho']at ho;cases ho;rw[hd']at hd;cases hd
theorem qC.funs (I:qC X pins σ H s):s.heap.FunFrames X.base X.outer:=by
 have all:∀(l:List Env),(∀b∈YD l,b∈X.fs)->X.s₀.heap.FunFrames X.base l->s.heap.FunFrames X.base l:=by
   intro l
   induction l with
   | nil=>intro _ _;trivial
   | cons env r ih=>
     intro hs hl
     obtain⟨hk,⟨L,o,hf,hn,ho,hd⟩,hr⟩:=hl
     have hL:L∈X.fs:=hs L (by unfold YD;rw[zaO,hf];exact t7)
     obtain⟨sl,e⟩:=I.base.slot L o ho (I.ok.frf L hL) hL λz=>I.ok.exfs L z hL
     exact⟨hk,⟨L,_,hf,hn,e,hd⟩,ih (λb hb=>hs b (by unfold YD;rw[zaO,hf];exact tW _ hb)) hr⟩
 exact all X.outer (λ_ hb=>hb) I.ok.funs
theorem qC.stack (I:qC X pins σ H s):s.heap.FunFrames X.base X.stack:=by
 rcases I.ok.stk with e | ⟨e,hf⟩
 . rw[e];exact I.funs
 . rw[e]
   obtain⟨m,hn,_⟩:=I.loc
   refine .cons (by rw[I.ok.kind];decide) hf hn ?_ I.funs
   exact zcl (tV I.ok.bsz I.ok.above)
theorem qC.stkSub (I:qC X pins σ H s):∀b∈YD X.stack,b∈X.env.locals::X.fs:=λb hb=>by
 rcases I.ok.stk with e | ⟨e,hf⟩
 . rw[e]at hb;exact tW _ hb
 . rw[e]at hb
   unfold YD at hb
   rw[zaO,hf]at hb
   exact hb
theorem qC.stkFree (I:qC X pins σ H s):∀b∈YD X.stack,H b=none:=λb hb=>by
 rcases zaa.mp (I.stkSub b hb) with e | hb
 . rw[e];exact I.free
 . obtain⟨_,o,ho,_⟩:=I.ok.funs.mem hb
   exact I.base.free b o ho (I.ok.frf b hb) λz=>I.ok.exfs b z hb
theorem qC.step {g':Array GenState} {t':Nat} {d':Drawn} {ch:List Addr} (I:qC X pins σ H s)
   (hch:∀b∈ch,(b∈X.ex\/X.s₀.heap.objs.size<=b)/\b≠X.env.locals/\(∀x c,X.env.cells.lookup x=some c->c≠b)/\∀p∈X.pn++pins,p.1≠b)
   (keep:∀b o,b≠X.env.locals->b∉X.fs->b∉ch->s.heap.get? b=some o->H b=none->h'.get? b=some o)
   (slot:∀b o,b≠X.env.locals->b∈X.fs->b∉ch->s.heap.get? b=some o->H b=none->∃sl,h'.get? b=some {o with slots:=sl}) (free:∀b o,b∉ch->s.heap.get? b=some o->H b=none->H' b=none)
   (there:∀b o,b∉ch->s.heap.get? b=some o->∃o',h'.get? b=some o')
   (tups:∀b xs,H b=some (.tup xs)->H' b=some (.tup xs)) (frzs:∀b o u,H b=some (.frz o u)->H' b=some (.frz o u)) (tbls:∀b ps,H b=some (.tbl ps)->∃more,H' b=some (.tbl (ps++more)))
   (ns:∀m,s.heap.Ns X.env.locals m->h'.Ns X.env.locals m) (hok:Je X.prog X.w H' h') (hg:AllBare g'):
   qC X pins σ H' {s with heap:=h',gens:=g',drawn:=d',toks:=t'}:=by
 have neL:∀b o,X.s₀.heap.get? b=some o->b≠X.env.locals:=λb o e=>tR (tN (tI e) I.ok.above)
 have neC:∀b o,X.s₀.heap.get? b=some o->b∉X.ex->b∉ch:=λb o e hx hb=>by
   rcases(hch b hb).1 with z | z
   . exact hx z
   . exact absurd (tN (tI e) z) (zaw _)
 have cellK:∀x c,X.env.cells.lookup x=some c->∀v,s.heap.IsCell c v->h'.IsCell c v:=λx c e v ⟨o,ho,hd⟩=>by
   have nch:c∉ch:=λz=>(hch c z).2.2.1 x c e rfl
   by_cases hc:c∈X.fs
   . obtain⟨sl,q⟩:=slot c o (I.cne x c e) hc nch ho (I.freeC x c e)
     exact⟨_,q,hd⟩
   . exact⟨o,keep c o (I.cne x c e) hc nch ho (I.freeC x c e),hd⟩
 refine⟨I.ok,I.os,hg,⟨λb o e n hb hx=>?_,λb o e n hb hx=>?_,λb o e n hx=>?_,λb o e hx=>?_,λb xs e=>tups b xs (I.base.tups b xs e),λb o xs e=>frzs b o xs (I.base.frzs b o xs e),λb ps e=>?_⟩,?_,λx c e=>?_,?_,λx c e=>?_,λp hp=>?_,hok,I.len⟩
 . exact keep b o (neL b o e) hb (neC b o e hx) (I.base.keep b o e n hb hx) (I.base.free b o e n hx)
 . obtain⟨sl,e1⟩:=I.base.slot b o e n hb hx
   obtain⟨sl',e2⟩:=slot b _ (neL b o e) hb (neC b o e hx) e1 (I.base.free b o e n hx)
   exact⟨sl',e2⟩
 . obtain⟨o',e1⟩:=I.base.there b o e hx
   exact free b o' (neC b o e hx) e1 (I.base.free b o e n hx)
 . obtain⟨o',e1⟩:=I.base.there b o e hx
   exact there b o' (neC b o e hx) e1
 . obtain⟨m1,e1⟩:=I.base.tbls b ps e
   obtain⟨m2,e2⟩:=tbls b _ e1
   exact⟨m1++m2,by rw[e2,Array.append_assoc]⟩
 . obtain⟨m,hn,hl⟩:=I.loc
   refine⟨m,ns m hn,λi x v e1 e2 e3=>?_⟩
   obtain⟨u,r,l⟩:=hl i x v e1 e2 e3
   refine⟨u,r,?_⟩
   rcases l with l | ⟨k,c,e,z⟩
   . exact .inl l
   . exact .inr ⟨k,c,e,cellK x c e _ z⟩
 . obtain⟨v,z⟩:=I.cell x c e
   exact⟨v,cellK x c e v z⟩
 . obtain⟨m,⟨o,_,_,ho,_⟩,_⟩:=I.loc
   exact free _ o (λz=>(hch _ z).2.1 rfl) ho I.free
 . obtain⟨v,o,ho,hd⟩:=I.cell x c e
   exact free c o (λz=>(hch c z).2.2.1 x c e rfl) ho (I.freeC x c e)
 . obtain⟨e,n,ne,nf,d⟩:=I.pin p hp
   have nch:p.1∉ch:=λz=>(hch p.1 z).2.2.2 p hp rfl
   exact⟨keep p.1 p.2 ne nf nch e n,free p.1 p.2 nch e n,ne,nf,d⟩
theorem qC.un {t':Nat} (I:qC X pins σ H s) (u:Un X.fs [] H H' s.heap h') (hok:Je X.prog X.w H' h'):qC X pins σ H' {s with heap:=h',toks:=t'}:=by
 obtain⟨m,⟨o,es,ep,ho,r⟩,_⟩:=id I.loc
 obtain⟨sl,hL⟩:=u.any ho I.free (by simp)
 exact I.step (g':=s.gens) (d':=s.drawn) (ch:=[]) (λ_ z=>nomatch z) (λb o _ hb _ e n=>u.keep b o e n hb (by simp)) (λb o _ hb _ e n=>u.slot b o e n hb (by simp)) (λb o _ e n=>u.free b o e n (by simp)) (λb o _ e=>u.there b o e (by simp)) u.tups u.frzs u.tbls (λm' hm=>by
   obtain⟨o',es',ep',ho',r'⟩:=hm
   rw[ho]at ho';cases ho'
   exact⟨_,es',ep',hL,r'⟩) hok I.bare
theorem qC.call {g':Array GenState} {t':Nat} {d':Drawn} {ch:List Addr} (I:qC X pins σ H s) (u:Un (YD X.stack) ch H H' s.heap h') (hok:Je X.prog X.w H' h') (hg:AllBare g')
   (hch:∀b∈ch,(b∈X.ex\/X.s₀.heap.objs.size<=b)/\b≠X.env.locals/\(∀x c,X.env.cells.lookup x=some c->c≠b)/\∀p∈X.pn++pins,p.1≠b):
   qC X pins σ H' {s with heap:=h',gens:=g',drawn:=d',toks:=t'}:=by
 obtain⟨m,⟨o,es,ep,ho,r⟩,_⟩:=id I.loc
 obtain⟨sl,hL⟩:=u.any ho I.free λz=>(hch _ z).2.1 rfl
 exact I.step (ch:=ch) hch (λb o hL hb hc e n=>u.keep b o e n (λz=>(zaa.mp (I.stkSub b z)).elim hL hb) hc) (λb o _ _ hc e n=>u.any e n hc) (λb o hc e n=>u.free b o e n hc) (λb o hc e=>u.there b o e hc) u.tups u.frzs u.tbls (λm' hm=>by
   obtain⟨o',es',ep',ho',r'⟩:=hm
   rw[ho]at ho';cases ho'
   exact⟨_,es',ep',hL,r'⟩) hok hg
theorem qC.turned {t':Nat} {it:Addr} (I:qC X pins σ H s) (k:∀b o,b≠it->s.heap.get? b=some o->h'.get? b=some o) (hn:H it=none) (hL:it≠X.env.locals)
   (h1:it∈X.ex\/X.s₀.heap.objs.size<=it) (h2:∀x c,X.env.cells.lookup x=some c->c≠it) (h3:∀p∈X.pn++pins,p.1≠it):qC X pins σ H {s with heap:=h',toks:=t'}:=by
 have nit:∀b u,H b=some u->b≠it:=λb u e z=>by rw[z,hn]at e;cases e
 refine I.step (g':=s.gens) (d':=s.drawn) (ch:=[it]) (λb hb=>?_) (λb o _ _ hc e _=>k b o (λz=>hc (by simp [z])) e) (λb o _ _ hc e _=>⟨o.slots,k b o (λz=>hc (by simp [z])) e⟩) (λ_ _ _ _ n=>n)
   (λb o hc e=>⟨o,k b o (λz=>hc (by simp [z])) e⟩) (λ_ _ e=>e) (λ_ _ _ e=>e) (λb ps e=>⟨#[],by rw[e];simp⟩) (λm hm=>?_) (λb u e=>?_) I.bare
 . have e:b=it:=by simpa using hb
   subst e
   exact⟨h1,hL,h2,h3⟩
 . obtain⟨o,es,ep,ho,r⟩:=hm
   exact⟨o,es,ep,k _ o (Ne.symm hL) ho,r⟩
 . refine(I.hok b u e).stay (λc v hc q=>k c v ?_ q) (λ_ q=>q) λ_ _ q=>q
   rcases hc with z | z
   . rw[z];exact nit b u e
   . exact nit c _ z
theorem qC.tok (I:qC X pins σ H s) (t:Nat):qC X pins σ H {s with toks:=t}:=I.un (h':=s.heap) (t':=t) Un.refl I.hok
theorem qC.kept {t':Nat} (I:qC X pins σ H s) (k:∀b u,s.heap.get? b=some u->h'.get? b=some u):qC X pins σ H {s with heap:=h',toks:=t'}:=I.un (Un.kept k) (I.hok.kept k)
theorem qC.laid {a:Addr} {o:HO} {t':Nat} (I:qC X pins σ H s) (k:∀b u,s.heap.get? b=some u->h'.get? b=some u) (hp:s.heap.objs.size<=a) (new:qM X.prog X.w (upd H a o) h' a o):
   qC X pins σ (upd H a o) {s with heap:=h',toks:=t'}:=I.un (Un.laid k hp (I.hok.fresh hp)) (I.hok.laid k hp new)
theorem qC.write {x e:Addr} {o:HO} {t':Nat} (I:qC X pins σ H s) (mu:Mg (H x)) (he:e=x\/H e=some (.own x)) (k:∀b u,b≠e->s.heap.get? b=some u->h'.get? b=some u) (heo:∃u,h'.get? e=some u)
   (new:qM X.prog X.w (upd H x o) h' x o):qC X pins σ (upd H x o) {s with heap:=h',toks:=t'}:=I.un (Un.write mu he k heo) (I.hok.write mu he k heo new)
theorem qC.pins_of {pins':List (Addr×Obj)} (I:qC X pins σ H s) (h:∀p∈pins',s.heap.get? p.1=some p.2/\H p.1=none/\p.1≠X.env.locals/\p.1∉X.fs/\∀v,p.2.data≠.cell v):qC X pins' σ H s:=
 ⟨I.ok,I.os,I.bare,I.base,I.loc,I.cell,I.free,I.freeC,λp hp=>(zai.mp hp).elim (λz=>I.pin p (zaR _ z)) (h p),I.hok,I.len⟩
theorem Yt {N:List Str} (hN:N.Nodup) {i j:Nat} {x:Str} (a:N[i]?=some x) (b:N[j]?=some x):i=j:=by
 obtain⟨h1,e1⟩:=tq.mp a
 obtain⟨h2,e2⟩:=tq.mp b
 exact(List.getElem_inj hN).mp (e1.trans e2.symm)
theorem Xi {M:Model} {A:Around} {E:Value->Shared->Prop} {i:Nat} {x:Str} {v:V} {u:Value} {Q:Unit->Shared->Prop} (I:qC X pins σ H s) (hN:X.N.Nodup) (hi:X.N[i]?=some x) (hx:Mi X.env.scope x) (r:qL v u)
   (h:∀s',qC X pins (σ.set i (some v)) H s'->(∃a,Heap.SameBut a s.heap s'.heap/\(a=X.env.locals\/X.env.cells.lookup x=some a))->Q () s') (hf:X.fn x=true\/X.env.scope.names.lookup x=some .local:=by first | exact .inl rfl | exact .inr rfl | assumption):wpAny M A (storeName X.env x u) Q E s:=by
 obtain⟨m,hn,hl⟩:=id I.loc
 have hcls:(X.env.scope.kind==.class || (X.env.scope.kind==.module&&X.env.locals != X.env.globals))=false:=by rw[I.ok.kind];rfl
 have hiσ:i < σ.length:=by rw[I.len];exact(tq.mp hi).1
 have cne:=I.cne
 have tracked:∀{a:Addr} {h':Heap},(∃o,s.heap.get? a=some o/\H a=none)->Heap.SameBut a s.heap h'->Je X.prog X.w H h':=λ{a h'} ha hs b ob e=>by
   obtain⟨_,_,hfree⟩:=ha
   refine(I.hok b ob e).stay (λc w' hc q=>(hs.2 c ?_).trans q) (λ_ q=>q) λ_ _ q=>q
   rintro rfl
   rcases hc with rfl | hc
   . rw[hfree]at e;cases e
   . rw[hfree]at hc;cases hc
 rcases hx with hk | hk
 . refine wpAny_storeName_local hk hn (λh' hn' hs=>?_) hcls
   obtain⟨oL,_,_,hoL,_⟩:=id hn
   refine h _ ⟨I.ok,I.os,I.bare,⟨λb o e n hb hx=>?_,λb o e n hb hx=>?_,I.base.free,λb o e hx=>?_,I.base.tups,I.base.frzs,I.base.tbls⟩,⟨_,hn',λj y v' e1 e2 e3=>?_⟩,λy c e=>?_,I.free,I.freeC,λp hp=>?_,tracked ⟨oL,hoL,I.free⟩ hs,by simpa using I.len⟩ ⟨_,hs,.inl rfl⟩
   . exact(hs.2 b (tR (tN (tI e) I.ok.above))).trans (I.base.keep b o e n hb hx)
   . obtain⟨sl,e1⟩:=I.base.slot b o e n hb hx
     exact⟨sl,(hs.2 b (tR (tN (tI e) I.ok.above))).trans e1⟩
   . obtain⟨o',e1⟩:=I.base.there b o e hx
     exact⟨o',(hs.2 b (tR (tN (tI e) I.ok.above))).trans e1⟩
   . by_cases hj:j=i
     . subst hj
       rw[hi]at e1;cases e1
       rw[zce hiσ]at e2
       cases e2
       exact⟨u,r,.inl ⟨hk,by simp⟩⟩
     . rw[zcm (Ne.symm hj)]at e2
       obtain⟨u',r',q⟩:=hl j y v' e1 e2 e3
       refine⟨u',r',?_⟩
       rcases q with ⟨k,e⟩ | ⟨k,c,e,z⟩
       . refine .inl ⟨k,?_⟩
         have:y≠x:=λe=>hj (Yt hN e1 (e▸hi))
         simp [this,e]
       . exact .inr ⟨k,c,e,z.sameBut hs (cne y c e)⟩
   . obtain⟨w',z⟩:=I.cell y c e
     exact⟨w',z.sameBut hs (cne y c e)⟩
   . obtain⟨e,n,ne,nf,d⟩:=I.pin p hp
     exact⟨(hs.2 p.1 ne).trans e,n,ne,nf,d⟩
 . have hfn:X.fn x=true:=by
     rcases hf with z | z
     . exact z
     . rw[z]at hk;cases hk
   obtain⟨c,hc⟩:=I.ok.has x (.inl hk)
   obtain⟨w',z⟩:=I.cell x c hc
   refine wpAny_storeName_cell I.ok.kind hk hc z (λh' hc' hs=>?_)
   obtain⟨oc,hoc,hocd⟩:=id z
   refine h {s with heap:=h'} ⟨I.ok,I.os,I.bare,⟨λb o e n hb hx=>?_,λb o e n hb hx=>?_,I.base.free,λb o e hx=>?_,I.base.tups,I.base.frzs,I.base.tbls⟩,⟨m,hn.sameBut hs (Ne.symm (cne x c hc)),λj y v' e1 e2 e3=>?_⟩,λy c' e=>?_,I.free,I.freeC,λp hp=>?_,tracked ⟨oc,hoc,I.freeC x c hc⟩ hs,by simpa using I.len⟩ ⟨c,hs,.inr hc⟩
   . exact(hs.2 b (tR (tN (tI e) (I.ok.cab x c hfn hc)))).trans (I.base.keep b o e n hb hx)
   . obtain⟨sl,e1⟩:=I.base.slot b o e n hb hx
     exact⟨sl,(hs.2 b (tR (tN (tI e) (I.ok.cab x c hfn hc)))).trans e1⟩
   . obtain⟨o',e1⟩:=I.base.there b o e hx
     exact⟨o',(hs.2 b (tR (tN (tI e) (I.ok.cab x c hfn hc)))).trans e1⟩
   . by_cases hj:j=i
     . subst hj
       rw[hi]at e1;cases e1
       rw[zce hiσ]at e2
       cases e2
       exact⟨u,r,.inr ⟨.inl hk,c,hc,hc'⟩⟩
     . rw[zcm (Ne.symm hj)]at e2
       obtain⟨u',r',q⟩:=hl j y v' e1 e2 e3
       refine⟨u',r',?_⟩
       rcases q with q | ⟨k,c',e,z'⟩
       . exact .inl q
       . refine .inr ⟨k,c',e,z'.sameBut hs ?_⟩
         rintro rfl
         exact hj (Yt hN e1 (I.ok.inj _ _ _ e hc▸hi))
   . by_cases hcc:c'=c
     . subst hcc;exact⟨_,hc'⟩
     . obtain⟨w2,z2⟩:=I.cell y c' e
       exact⟨w2,z2.sameBut hs hcc⟩
   . obtain⟨e,n,ne,nf,d⟩:=I.pin p hp
     refine⟨(hs.2 p.1 ?_).trans e,n,ne,nf,d⟩
     intro q
     rw[q,hoc]at e
     have q':oc=p.2:=tO.inj e
     exact d w' (by rw[<-q'];exact hocd)
theorem Zt {M:Model} {A:Around} {E:Value->Shared->Prop} {i:Nat} {x:Str} {v:V} {u:Value} {Q:Unit->Shared->Prop} (I:qC X pins σ H s) (hN:X.N.Nodup) (hi:X.N[i]?=some x) (hx:Mi X.env.scope x) (r:qL v u)
   (h:∀s',qC X pins (σ.set i (some v)) H s'->Q () s') (hf:X.fn x=true\/X.env.scope.names.lookup x=some .local:=by first | exact .inl rfl | exact .inr rfl | assumption):wpAny M A (storeName X.env x u) Q E s:=
 Xi I hN hi hx r (λs' I' _=>h s' I') hf
theorem qC.call' {s':Shared} {ch:List Addr} (I:qC X pins σ H s) (ho:s'.os=s.os) (u:Un (YD X.stack) ch H H' s.heap s'.heap) (hok:Je X.prog X.w H' s'.heap) (hg:AllBare s'.gens)
   (hch:∀b∈ch,(b∈X.ex\/X.s₀.heap.objs.size<=b)/\b≠X.env.locals/\(∀x c,X.env.cells.lookup x=some c->c≠b)/\∀p∈X.pn++pins,p.1≠b):qC X pins σ H' s':=by
 obtain⟨h',g',d',t',o'⟩:=s'
 have e:o'=s.os:=ho
 subst e
 exact I.call (g':=g') (t':=t') (d':=d') u hok hg hch
end
abbrev XK:=Value->Option Addr->Hp->Prop
abbrev St:=List (Option V)
abbrev VK:=V->Hp->Prop
abbrev TE:=St->Hp->VK->Prop
abbrev TT:=St->Hp->(Bool->Hp->Prop)->Prop
abbrev TA:=St->Hp->(List V->Hp->Prop)->Prop
structure Qv where
 nx:St->Hp->Prop
 rt:VK
 bk:St->Hp->Prop:=λ_ _=>False
 ct:St->Hp->Prop:=λ_ _=>False
abbrev TS:=Qv->St->Hp->Prop
def EP (X:Cx) (pins:List (Addr×Obj)) (σ:St) (Q:VK) (u:Value) (s':Shared):Prop:=∃v H',qC X pins σ H' s'/\qL v u/\Q v H'
def TP (X:Cx) (pins:List (Addr×Obj)) (σ:St) (Q:Bool->Hp->Prop) (b:Bool) (s':Shared):Prop:=∃H',qC X pins σ H' s'/\Q b H'
def AP (X:Cx) (pins:List (Addr×Obj)) (σ:St) (Q:List V->Hp->Prop) (us:List Value) (s':Shared):Prop:=∃vs H',qC X pins σ H' s'/\qE vs us/\Q vs H'
def SP (X:Cx) (pins:List (Addr×Obj)) (D:Qv) (f:Flow) (s':Shared):Prop:=
 match f with
 | .next=>∃σ' H',qC X pins σ' H' s'/\D.nx σ' H'
 | .brk=>∃σ' H',qC X pins σ' H' s'/\D.bk σ' H'
 | .cont=>∃σ' H',qC X pins σ' H' s'/\D.ct σ' H'
 | .ret u=>∃v σ' H',qC X pins σ' H' s'/\qL v u/\D.rt v H'
def PE (X:Cx) (e:Expr) (t:TE):Prop:=
 ∀(pins:List (Addr×Obj)) (s:Shared) (σ:St) (H:Hp) (Q:VK),qC X pins σ H s->t σ H Q->wpAny (model X.prog X.w) X.A (eval e X.env) (EP X pins σ Q) X.xe s
@[irreducible] def JE (X:Cx) (e:Expr) (t:TE):Prop:=PE X e t
theorem JE.of {X:Cx} {e:Expr} {t:TE} (h:PE X e t):JE X e t:=by unfold JE;exact h
theorem JE.to {X:Cx} {e:Expr} {t:TE} (h:JE X e t):PE X e t:=by unfold JE at h;exact h
def PT (X:Cx) (e:Expr) (t:TT):Prop:=
 ∀(pins:List (Addr×Obj)) (s:Shared) (σ:St) (H:Hp) (Q:Bool->Hp->Prop),qC X pins σ H s->t σ H Q->wpAny (model X.prog X.w) X.A (isTrue e X.env (eval e X.env)) (TP X pins σ Q) X.xe s
@[irreducible] def JT (X:Cx) (e:Expr) (t:TT):Prop:=PT X e t
theorem JT.of {X:Cx} {e:Expr} {t:TT} (h:PT X e t):JT X e t:=by unfold JT;exact h
theorem JT.to {X:Cx} {e:Expr} {t:TT} (h:JT X e t):PT X e t:=by unfold JT at h;exact h
def PW (X:Cx) (e:Expr) (t:TT):Prop:=
 ∀(whole:Sem Value) (pins:List (Addr×Obj)) (s:Shared) (σ:St) (H:Hp) (Q:Bool->Hp->Prop),qC X pins σ H s->t σ H Q->wpAny (model X.prog X.w) X.A (isTrue e X.env whole) (TP X pins σ Q) X.xe s
theorem PW.pt {X:Cx} {e:Expr} {t:TT} (h:PW X e t):PT X e t:=h _
@[irreducible] def JW (X:Cx) (e:Expr) (t:TT):Prop:=PW X e t
theorem JW.of {X:Cx} {e:Expr} {t:TT} (h:PW X e t):JW X e t:=by unfold JW;exact h
theorem JW.to {X:Cx} {e:Expr} {t:TT} (h:JW X e t):PW X e t:=by unfold JW at h;exact h
theorem JW.pt {X:Cx} {e:Expr} {t:TT} (h:JW X e t):JT X e t:=.of h.to.pt
def PA (X:Cx) (es:List Expr) (t:TA):Prop:=
 ∀(pos:Pos) (pins:List (Addr×Obj)) (s:Shared) (σ:St) (H:Hp) (Q:List V->Hp->Prop),qC X pins σ H s->t σ H Q->wpAny (model X.prog X.w) X.A (spliced (backTo pos (starEach es X.env))) (AP X pins σ Q) X.xe s
@[irreducible] def JA (X:Cx) (es:List Expr) (t:TA):Prop:=PA X es t
theorem JA.of {X:Cx} {es:List Expr} {t:TA} (h:PA X es t):JA X es t:=by unfold JA;exact h
theorem JA.to {X:Cx} {es:List Expr} {t:TA} (h:JA X es t):PA X es t:=by unfold JA at h;exact h
def PS (X:Cx) (st:Stmt) (t:TS):Prop:=
 ∀(pins:List (Addr×Obj)) (s:Shared) (σ:St) (H:Hp) (D:Qv),qC X pins σ H s->t D σ H->wpAny (model X.prog X.w) X.A (exec st X.env) (SP X pins D) X.xe s
@[irreducible] def JS (X:Cx) (st:Stmt) (t:TS):Prop:=PS X st t
theorem JS.of {X:Cx} {st:Stmt} {t:TS} (h:PS X st t):JS X st t:=by unfold JS;exact h
theorem JS.to {X:Cx} {st:Stmt} {t:TS} (h:JS X st t):PS X st t:=by unfold JS at h;exact h
def uu (X:Cx) (st:List Stmt) (t:TS):Prop:=
 ∀(pins:List (Addr×Obj)) (s:Shared) (σ:St) (H:Hp) (D:Qv),qC X pins σ H s->t D σ H->wpAny (model X.prog X.w) X.A (execs st X.env) (SP X pins D) X.xe s
@[irreducible] def WG (X:Cx) (st:List Stmt) (t:TS):Prop:=uu X st t
theorem WG.of {X:Cx} {st:List Stmt} {t:TS} (h:uu X st t):WG X st t:=by unfold WG;exact h
theorem WG.to {X:Cx} {st:List Stmt} {t:TS} (h:WG X st t):uu X st t:=by unfold WG at h;exact h
theorem ji {α:Type} {t:Sem α} {Q Q':α->Shared->Prop} {M:Model} {A:Around} {E:Value->Shared->Prop} {s:Shared} (h:wpAny M A t Q E s) (hQ:∀a s,Q a s->Q' a s):wpAny M A t Q' E s:=wpAny_mono h hQ λ_ _ x=>x
section
variable {X:Cx}
def qW (i:Nat):TE:=λσ H Q=>∃v,σ[i]?=some (some v)/\Q v H
def tC (v:V):TE:=λ_ H Q=>Q v H
theorem Nm {i:Nat} {x:Str} {pos:Pos} (hN:X.N[i]?=some x) (hv:My X.env.scope x) (hd:(x==("__debug__":Str))=false:=by decide) (hcd:(x==("__classdict__":Str))=false:=by decide):PE X (.Name x pos) (qW i):=by
 intro pins s σ H Q I h
 obtain⟨v,e,h⟩:=h
 obtain⟨m,hn,hl⟩:=I.loc
 obtain⟨u,r,l⟩:=hl i x v hN e hv
 have fin:EP X pins σ Q u s:=⟨v,H,I,r,h⟩
 rcases l with ⟨hk,hm⟩ | ⟨hk,c,hc,hcell⟩
 . exact wpAny_Name (wpAny_loadName_local I.ok.kind hk hn hm fin) hd
 . rcases hk with hk | hk
   . exact wpAny_Name (wpAny_loadName_cell I.ok.kind hk hc hcell fin) hd
   . exact wpAny_Name (wpAny_loadName_free I.ok.kind hk hc hcell fin hcd) hd
theorem qm {i j pos}:JE X (.Constant (.int i) j pos) (tC (.int i)):=.of (by
 exact λ_ _ _ H _ I h=>wpAny_Constant_int ⟨.int i,H,I.tok _,⟨_,rfl⟩,h⟩)
theorem jy {b j pos}:JE X (.Constant (.bool b) j pos) (tC (.bl b)):=.of (by
 exact λ_ _ _ H _ I h=>Constant_bool ⟨.bl b,H,I,rfl,h⟩)
theorem YB {j pos}:JE X (.Constant .none j pos) (tC .non):=.of (by
 exact λ_ _ _ H _ I h=>Constant_none ⟨.non,H,I,rfl,h⟩)
theorem jr {x j pos}:JE X (.Constant (.str x) j pos) (tC (.str x)):=.of (by
 exact λ_ _ _ H _ I h=>Calls.Constant_str ⟨.str x,H,I.tok _,⟨_,rfl⟩,h⟩)
def Gl (X:Cx) (x:Str):Prop:=X.env.kindOf x=some .globalImplicit
theorem ZD {E:Value->Shared->Prop} {pins:List (Addr×Obj)} {s:Shared} {σ:St} {H:Hp} {x:Str} {u:Value} {pos:Pos} {Q:Value->Shared->Prop} (I:qC X pins σ H s) (hg:Gl X x) (hm:X.mg x=some u) (h:Q u s)
   (hd:(x==("__debug__":Str))=false:=by decide):wpAny (model X.prog X.w) X.A (eval (.Name x pos) X.env) Q E s:=
 Calls.Name_function_global I.ok.kind hg (Calls.loadGlobal_global (by rw[I.ok.glob];exact I.mod.glob.keeps I.bk) hm h) hd
theorem Qp {E:Value->Shared->Prop} {pins:List (Addr×Obj)} {s:Shared} {σ:St} {H:Hp} {x:Str} {u:Value} {pos:Pos} {Q:Value->Shared->Prop} (I:qC X pins σ H s) (hg:Gl X x) (hm:X.mg x=none) (hv:bootBuiltins x=some u) (h:Q u s)
   (hn:x≠"__name__":=by decide) (hd:(x==("__debug__":Str))=false:=by decide):wpAny (model X.prog X.w) X.A (eval (.Name x pos) X.env) Q E s:=by
 obtain⟨mb,h1,h2⟩:=I.mod.blt
 exact Calls.Name_function_global I.ok.kind hg (Calls.loadGlobal_builtin (by rw[I.ok.glob];exact I.mod.glob.keeps I.bk) hm (by rw[I.ok.blt];exact h1.keeps I.bk) ((h2 x hn).trans hv) h) hd
theorem vy {x:Str} {v:V} {u:Value} {pos:Pos} (hg:Gl X x) (hm:X.mg x=some u) (r:qL v u) (hd:(x==("__debug__":Str))=false:=by decide):PE X (.Name x pos) (tC v):=
 λ_ _ _ H _ I h=>ZD I hg hm ⟨v,H,I,r,h⟩ hd
theorem QF {x:Str} {v:V} {u:Value} {pos:Pos} (hg:Gl X x) (hm:X.mg x=some u) (r:qL v u) (hd:(x==("__debug__":Str))=false:=by decide):JE X (.Name x pos) (tC v):=.of (vy hg hm r hd)
theorem jL {x:Str} {v:V} {u:Value} {pos:Pos} (hg:Gl X x) (hm:X.mg x=none) (hv:bootBuiltins x=some u) (r:qL v u) (hn:x≠"__name__":=by decide) (hd:(x==("__debug__":Str))=false:=by decide):JE X (.Name x pos) (tC v):=.of (by
 exact λ_ _ _ H _ I h=>Qp I hg hm hv ⟨v,H,I,r,h⟩ hn hd)
variable {a b:Expr} {ta tb:TE} {pos:Pos}
def PC (X:Cx) (op:CmpOp) (a b:Expr) (t:TE):Prop:=
 ∀(pins:List (Addr×Obj)) (s:Shared) (σ:St) (H:Hp) (Q:VK),qC X pins σ H s->t σ H Q->
   wpAny (model X.prog X.w) X.A (eval a X.env) (λv s₁=>wpAny (model X.prog X.w) X.A (eval b X.env) (λu s₂=>wpAny (model X.prog X.w) X.A (compareOp op v u) (EP X pins σ Q) X.xe s₂) X.xe s₁) X.xe s
@[irreducible] def JC (X:Cx) (op:CmpOp) (a b:Expr) (t:TE):Prop:=PC X op a b t
theorem JC.of {X:Cx} {op:CmpOp} {a b:Expr} {t:TE} (h:PC X op a b t):JC X op a b t:=by unfold JC;exact h
theorem JC.to {X:Cx} {op:CmpOp} {a b:Expr} {t:TE} (h:JC X op a b t):PC X op a b t:=by unfold JC at h;exact h
theorem x5 (b:Expr) {op:CmpOp} (h:op≠.In) (h2:op≠.NotIn):behindInMarks op b=false:=by
 have e1:(op==CmpOp.In)=false:=by cases op<;>first | rfl | exact absurd rfl h
 have e2:(op==CmpOp.NotIn)=false:=by cases op<;>first | rfl | exact absurd rfl h2
 cases b<;>simp [behindInMarks,e1,e2]
def qbn (ta:TE):TE:=λσ H Q=>ta σ H λx H1=>Q (.bl (decide (x=.non))) H1
theorem qL.none_iff {x:V} {v:Value} (r:qL x v):(v==Value.none)=decide (x=.non):=by
 cases x with
 | non=>cases r;rfl
 | bl _=>cases r;rfl
 | int _=>obtain⟨t,rfl⟩:=r;rfl
 | str _=>obtain⟨t,rfl⟩:=r;rfl
 | byt _=>obtain⟨t,rfl⟩:=r;rfl
 | flt _=>obtain⟨t,rfl⟩:=r;rfl
 | ref _=>cases r;rfl
 | ty _=>cases r;rfl
theorem NY {j pos'} (ha:JE X a ta):JC X .Is a (.Constant .none j pos') (qbn ta):=.of (by
 have ha:=ha.to
 intro pins s σ H Q I h
 refine ji (ha pins s σ H _ I h) λv s1 ⟨x,H1,I1,r1,q1⟩=>?_
 exact Constant_none (is_none_gen ⟨.bl _,H1,I1,by rw[r1.none_iff];rfl,q1⟩))
def tB (t:TE):TT:=λσ H Q=>t σ H λx H1=>∃c,x=.bl c/\Q c H1
theorem Qy {op:CmpOp} {t:TE} (h:JC X op a b t) (h1:behindInMarks op b=false:=by first | exact x5 _ (by decide) (by decide) | rfl):JT X (.Compare a [op] [b] pos) (tB t):=.of (by
 have h:=h.to
 intro pins s σ H Q I hw
 refine wpAny_isTrue_Compare1 (ji (h pins s σ H _ I hw) λv s1 h1=>ji h1 λu s2 h2=>ji h2 λc s3 ⟨x,H1,I1,r1,q1⟩=>?_) h1
 obtain⟨d,rfl,q⟩:=q1
 cases r1
 exact wpAny_truthy_bool ⟨H1,I1,q⟩)
theorem qX {e:Expr} {t:TE} (h:JE X e t) (he:∀whole,isTrue e X.env whole=(do let v <-whole;standAt e.pos;holding [v] (truthy v)):=by intro _;rfl):JT X e (tB t):=.of (by
 have h:=h.to
 intro pins s σ H Q I hw
 refine isTrue_plain (ji (h pins s σ H _ I hw) λv s1 ⟨x,H1,I1,r1,q1⟩=>?_) (he _)
 obtain⟨d,rfl,q⟩:=q1
 cases r1
 exact wpAny_truthy_bool ⟨H1,I1,q⟩)
variable {tA tB':TT} {rest:List Expr}
def ML (t u:TT):TT:=λσ H Q=>t σ H λc H1=>if c=true then u σ H1 Q else Q false H1
def tOr (t u:TT):TT:=λσ H Q=>t σ H λc H1=>if c=true then Q true H1 else u σ H1 Q
def RG (t:TT):TT:=λσ H Q=>t σ H λc H1=>Q (!c) H1
theorem Qr (ha:JT X a tA):JW X (.BoolOp .And [a] pos) tA:=.of (by
 have ha:=ha.to
 intro wh pins s σ H Q I h
 refine isTrue_and (ji (ha pins s σ H Q I h) λc s1 e=>?_)
 cases c with
 | true=>exact isTrue_and_nil e
 | false=>exact e)
theorem jW (ha:JT X a tA):JW X (.BoolOp .Or [a] pos) tA:=.of (by
 have ha:=ha.to
 intro wh pins s σ H Q I h
 refine isTrue_or (ji (ha pins s σ H Q I h) λc s1 e=>?_)
 cases c with
 | false=>exact isTrue_or_nil e
 | true=>exact e)
theorem QL (ha:JT X a tA) (hb:JW X (.BoolOp .And (b::rest) pos) tB'):JW X (.BoolOp .And (a::b::rest) pos) (ML tA tB'):=.of (by
 have ha:=ha.to
 have hb:=hb.to
 intro wh pins s σ H Q I h
 refine isTrue_and (ji (ha pins s σ H _ I h) λc s1 ⟨H1,I1,q1⟩=>?_)
 cases c with
 | true=>exact hb wh pins s1 σ H1 Q I1 q1
 | false=>exact⟨H1,I1,q1⟩)
theorem j3 (ha:JT X a tA) (hb:JW X (.BoolOp .Or (b::rest) pos) tB'):JW X (.BoolOp .Or (a::b::rest) pos) (tOr tA tB'):=.of (by
 have ha:=ha.to
 have hb:=hb.to
 intro wh pins s σ H Q I h
 refine isTrue_or (ji (ha pins s σ H _ I h) λc s1 ⟨H1,I1,q1⟩=>?_)
 cases c with
 | true=>exact⟨H1,I1,q1⟩
 | false=>exact hb wh pins s1 σ H1 Q I1 q1)
theorem ju (ha:JT X a tA):JT X (.UnaryOp .Not a pos) (RG tA):=.of (by
 have ha:=ha.to
 intro pins s σ H Q I h
 exact isTrue_not (ha pins s σ H (λc H1=>Q (!c) H1) I h))
def MK (ta tb:TE):TE:=λσ H Q=>ta σ H λx H1=>∃c,x=.bl c/\if c=true then tb σ H1 Q else Q (.bl false) H1
def ME (ta:TE):TE:=λσ H Q=>ta σ H λx H1=>∃c,x=.bl c/\Q (.bl (!c)) H1
theorem Zi {op} {t:TE} (h:JE X a t):JE X (.BoolOp op [a] pos) t:=.of (by
 have h:=h.to
 exact λpins s σ H Q I hw=>BoolOp_one (h pins s σ H Q I hw))
theorem Jn (ha:JE X a ta) (hb:JE X (.BoolOp .And (b::rest) pos) tb):JE X (.BoolOp .And (a::b::rest) pos) (MK ta tb):=.of (by
 have ha:=ha.to
 have hb:=hb.to
 intro pins s σ H Q I h
 refine BoolOp_and (ji (ha pins s σ H _ I h) λv s1 ⟨x,H1,I1,r1,q1⟩=>?_)
 obtain⟨c,rfl,q1⟩:=q1
 cases r1
 refine wpAny_truthy_bool ?_
 cases c with
 | true=>exact hb pins s1 σ H1 Q I1 q1
 | false=>exact⟨.bl false,H1,I1,rfl,q1⟩)
theorem wv (ha:JE X a ta):JE X (.UnaryOp .Not a pos) (ME ta):=.of (by
 have ha:=ha.to
 intro pins s σ H Q I h
 refine UnaryOp_ (ji (ha pins s σ H _ I h) λv s1 ⟨x,H1,I1,r1,q1⟩=>?_)
 obtain⟨c,rfl,q1⟩:=q1
 cases r1
 exact not_of (wpAny_truthy_bool ⟨.bl (!c),H1,I1,rfl,q1⟩))
end
def SqL (K:PySem.W.Frag) (H:Hp) (a:Addr) (xs:List V):Prop:=
 Rd H a (.lst xs)\/
   ∃(o:Obj) (its:Array Value) (n:Nat),K.lookup a=some o/\o.cls=.type "list"/\o.dict=none/\o.data=.seq its n/\its.size<=sizeLine/\qE xs its.toList
def SqT (K:PySem.W.Frag) (H:Hp) (a:Addr) (xs:List V):Prop:=
 Rd H a (.tup xs)\/
   ∃(o:Obj) (its:Array Value) (n:Nat),K.lookup a=some o/\o.cls=.type "tuple"/\o.data=.seq its n/\its.size<=sizeLine/\qE xs its.toList
def qb5:Value->Option V
 | .none=>some .non
 | .bool b=>some (.bl b)
 | .int i _=>some (.int i)
 | .str x _=>some (.str x)
 | .bytes b _=>some (.byt b)
 | .float b _=>some (.flt b)
 | .ref a=>some (.ref a)
 | .type n=>some (.ty n)
 | _=>none
theorem qL.abs {x:V} {u:Value} (r:qL x u):qb5 u=some x:=by
 cases x with
 | non=>cases r;rfl
 | bl _=>cases r;rfl
 | int _=>obtain⟨t,rfl⟩:=r;rfl
 | str _=>obtain⟨t,rfl⟩:=r;rfl
 | byt _=>obtain⟨t,rfl⟩:=r;rfl
 | flt _=>obtain⟨t,rfl⟩:=r;rfl
 | ref _=>cases r;rfl
 | ty _=>cases r;rfl
theorem qL.inj {x y:V} {u:Value} (r:qL x u) (q:qL y u):x=y:=tO.inj (r.abs.symm.trans q.abs)
theorem qE.inj:∀{xs ys:List V} {us:List Value},qE xs us->qE ys us->xs=ys
 | _,_,_,.nil,.nil=>rfl
 | _,_,_,.cons r t,.cons r' t'=>by rw[r.inj r',qE.inj t t']
section
variable {X:Cx} {pins:List (Addr×Obj)} {σ:St} {H:Hp} {s:Shared} {a:Addr} {xs ys:List V}
theorem SqL.of {K:PySem.W.Frag} (h:H a=some (.lst xs)):SqL K H a xs:=.inl (.inl h)
theorem SqT.of {K:PySem.W.Frag} (h:H a=some (.tup xs)):SqT K H a xs:=.inl (.inl h)
theorem qC.list (I:qC X pins σ H s) (h:SqL X.K H a xs):∃its:List Value,qE xs its/\PlainL s.heap a its.toArray/\xs.length<=sizeLine:=by
 rcases h with h | ⟨o,its,n,hk,hc,hd,hs,hz,r⟩
 . obtain⟨z,its,n,r,e⟩:=h.ok I.hok
   exact⟨its,r,⟨_,n,e,rfl,rfl,rfl⟩,z⟩
 . refine⟨its.toList,r,⟨o,n,I.kIn a o hk,hc,hd,by simpa using hs⟩,?_⟩
   have e:=r.length
   simp only[zaq]at e
   omega
theorem qC.tuple (I:qC X pins σ H s) (h:SqT X.K H a xs):∃its:List Value,qE xs its/\IsTup s.heap a its.toArray/\xs.length<=sizeLine:=by
 rcases h with h | ⟨o,its,n,hk,hc,hs,hz,r⟩
 . obtain⟨z,its,r,p⟩:=h.ok I.hok
   exact⟨its,r,p,z⟩
 . refine⟨its.toList,r,⟨o,I.kIn a o hk,hc,n,by simpa using hs⟩,?_⟩
   have e:=r.length
   simp only[zaq]at e
   omega
theorem qC.list_inj (I:qC X pins σ H s) (h:SqL X.K H a xs) (h':SqL X.K H a ys):xs=ys:=by
 obtain⟨its,r,⟨o,n,e,_,_,d⟩,_⟩:=I.list h
 obtain⟨its',r',⟨o',n',e',_,_,d'⟩,_⟩:=I.list h'
 rw[e]at e';cases e'
 rw[d]at d'
 injection d' with d1 _
 have:its=its':=by simpa using congrArg Array.toList d1
 subst this
 exact r.inj r'
theorem qC.tuple_inj (I:qC X pins σ H s) (h:SqT X.K H a xs) (h':SqT X.K H a ys):xs=ys:=by
 obtain⟨its,r,⟨o,e,_,n,d⟩,_⟩:=I.tuple h
 obtain⟨its',r',⟨o',e',_,n',d'⟩,_⟩:=I.tuple h'
 rw[e]at e';cases e'
 rw[d]at d'
 injection d' with d1 _
 have:its=its':=by simpa using congrArg Array.toList d1
 subst this
 exact r.inj r'
end
abbrev Cx.wish (X:Cx) (E:Value->Shared->Prop):Cx:={X with xe:=E}
abbrev Cx.nox (X:Cx):Cx:=X.wish λ_ _=>False
theorem Cx.Ok.wish {X:Cx} (ok:X.Ok) (E:Value->Shared->Prop):(X.wish E).Ok:=
 ⟨ok.mod,ok.kind,ok.glob,ok.blt,ok.above,ok.inj,ok.has,ok.cab,ok.hd,ok.frames,ok.stk,ok.exf,ok.bs,ok.bsz,ok.noex,ok.exfs,ok.funs,ok.frf⟩
theorem Cx.Ok.unwish {X:Cx} {E:Value->Shared->Prop} (ok:(X.wish E).Ok):X.Ok:=
 ⟨ok.mod,ok.kind,ok.glob,ok.blt,ok.above,ok.inj,ok.has,ok.cab,ok.hd,ok.frames,ok.stk,ok.exf,ok.bs,ok.bsz,ok.noex,ok.exfs,ok.funs,ok.frf⟩
section
variable {X:Cx} {pins:List (Addr×Obj)} {σ:St} {H:Hp} {s:Shared} {E:Value->Shared->Prop}
theorem qC.wish (I:qC X pins σ H s) (E:Value->Shared->Prop):qC (X.wish E) pins σ H s:=⟨I.ok.wish E,I.os,I.bare,I.base,I.loc,I.cell,I.free,I.freeC,I.pin,I.hok,I.len⟩
theorem qC.unwish (I:qC (X.wish E) pins σ H s):qC X pins σ H s:=⟨I.ok.unwish,I.os,I.bare,I.base,I.loc,I.cell,I.free,I.freeC,I.pin,I.hok,I.len⟩
theorem SP.unwish {D:Qv} {f:Flow} {s':Shared} (h:SP (X.wish E) pins D f s'):SP X pins D f s':=by
 cases f with
 | next=>obtain⟨σ',H',I,q⟩:=h;exact⟨σ',H',I.unwish,q⟩
 | brk=>obtain⟨σ',H',I,q⟩:=h;exact⟨σ',H',I.unwish,q⟩
 | cont=>obtain⟨σ',H',I,q⟩:=h;exact⟨σ',H',I.unwish,q⟩
 | ret u=>obtain⟨v,σ',H',I,r,q⟩:=h;exact⟨v,σ',H',I.unwish,r,q⟩
theorem uu.nox {st:List Stmt} {t:TS} (h:uu X.nox st t):uu X st t:=λpins s σ H D I hw=>
 wpAny_mono (h pins s σ H D (I.wish _) hw) (λ_ _ q=>q.unwish) λ_ _ z=>False.elim z
end
section
variable {X:Cx} {st:Stmt} {rest:List Stmt} {t u:TS} {e:Expr} {te:TE} {pos:Pos}
def WQ:TS:=λD σ H=>D.nx σ H
def yK (t u:TS):TS:=λD σ H=>t {D with nx:=u D} σ H
theorem qB:WG X [] WQ:=.of (by
 exact λ_ _ σ H _ I h=>wpAny_execs_nil ⟨σ,H,I,h⟩)
theorem qg (h1:JS X st t) (h2:WG X rest u):WG X (st::rest) (yK t u):=.of (by
 have h1:=h1.to
 have h2:=h2.to
 intro pins s σ H D I h
 refine wpAny_execs_cons (ji (h1 pins s σ H {D with nx:=u D} I h) λf s1 q=>?_)
 cases f with
 | next=>
   obtain⟨σ',H',I',q⟩:=q
   exact h2 pins s1 σ' H' D I' q
 | ret v=>exact q
 | brk=>exact q
 | cont=>exact q)
theorem qh (h1:JS X st t):WG X [st] t:=.of (by
 have h1:=h1.to
 intro pins s σ H D I h
 refine wpAny_execs_cons (ji (h1 pins s σ H D I h) λf s1 q=>?_)
 cases f with
 | next=>exact wpAny_execs_nil q
 | ret v=>exact q
 | brk=>exact q
 | cont=>exact q)
theorem qC.quiet {pins:List (Addr×Obj)} {σ:St} {H:Hp} {s:Shared} (I:qC X pins σ H s):interactive X.env=false:=by simp [interactive,I.ok.kind]
def yN (te:TE):TS:=λD σ H=>te σ H λ_ H1=>D.nx σ H1
theorem je (he:JE X e te) (hs:swapsWith e none pos.line X.env=pure false:=by rfl):JS X (.Expr e pos) (yN te):=.of (by
 have he:=he.to
 intro pins s σ H D I h
 exact wpAny_Expr_any (ji (he pins s σ H _ I h) λv s1 ⟨x,H1,I1,r1,q1⟩=>⟨σ,H1,I1,q1⟩) I.quiet hs)
def MD (te:TE):TS:=λD σ H=>te σ H D.rt
theorem qu (he:JE X e te):JS X (.Return (some e) pos) (MD te):=.of (by
 have he:=he.to
 intro pins s σ H D I h
 exact wpAny_Return_some (ji (he pins s σ H _ I h) λv s1 ⟨x,H1,I1,r1,q1⟩=>⟨x,σ,H1,I1,r1,q1⟩))
def yM (c:TT) (t u:TS):TS:=λD σ H=>c σ H λb H1=>if b=true then t D σ H1 else u D σ H1
theorem qK {c:Expr} {a b:List Stmt} {tc:TT} (hc:JT X c tc) (ha:WG X a t) (hb:WG X b u):JS X (.If c a b pos) (yM tc t u):=.of (by
 have hc:=hc.to
 have ha:=ha.to
 have hb:=hb.to
 intro pins s σ H D I h
 refine wpAny_If (ji (hc pins s σ H _ I h) λd s1 ⟨H1,I1,q1⟩=>?_)
 cases d with
 | true=>exact ha pins s1 σ H1 D I1 q1
 | false=>exact hb pins s1 σ H1 D I1 q1)
def RH:TS:=λ_ _ _=>False
theorem qZ {sts:List Stmt}:WG X sts RH:=.of (by
 exact λ_ _ _ _ _ _ h=>h.elim)
end
abbrev TG:=V->St->Hp->(St->Hp->Prop)->Prop
abbrev ut:=List V->St->Hp->(St->Hp->Prop)->Prop
def PG (X:Cx) (target:Expr) (t:TG):Prop:=
 ∀(pins:List (Addr×Obj)) (s:Shared) (σ:St) (H:Hp) (v:V) (u:Value) (Q:St->Hp->Prop),qC X pins σ H s->qL v u->t v σ H Q->
   wpAny (model X.prog X.w) X.A (assign target X.env u) (λ_ s'=>∃σ' H',qC X pins σ' H' s'/\Q σ' H') X.xe s
@[irreducible] def JG (X:Cx) (target:Expr) (t:TG):Prop:=PG X target t
theorem JG.of {X:Cx} {target:Expr} {t:TG} (h:PG X target t):JG X target t:=by unfold JG;exact h
theorem JG.to {X:Cx} {target:Expr} {t:TG} (h:JG X target t):PG X target t:=by unfold JG at h;exact h
def PGs (X:Cx) (ts:List Expr) (t:ut):Prop:=
 ∀(pins:List (Addr×Obj)) (s:Shared) (σ:St) (H:Hp) (vs:List V) (us:List Value) (Q:St->Hp->Prop),qC X pins σ H s->qE vs us->t vs σ H Q->
   wpAny (model X.prog X.w) X.A (assignInOrder ((assignEach ts X.env).map (·.2)) us) (λ_ s'=>∃σ' H',qC X pins σ' H' s'/\Q σ' H') X.xe s
@[irreducible] def ux (X:Cx) (ts:List Expr) (t:ut):Prop:=PGs X ts t
theorem ux.of {X:Cx} {ts:List Expr} {t:ut} (h:PGs X ts t):ux X ts t:=by unfold ux;exact h
theorem ux.to {X:Cx} {ts:List Expr} {t:ut} (h:ux X ts t):PGs X ts t:=by unfold ux at h;exact h
abbrev Gy:=V->V->V->Hp->(Hp->Prop)->Prop
def Me (X:Cx) (t:Gy):Prop:=
 ∀(pins:List (Addr×Obj)) (s:Shared) (σ:St) (H:Hp) (o i v:V) (ov iv u:Value) (Q:Hp->Prop),qC X pins σ H s->qL o ov->qL i iv->qL v u->t o i v H Q->
   wpAny (model X.prog X.w) X.A (setItem ov iv u) (λ_ s'=>∃H',qC X pins σ H' s'/\Q H') X.xe s
abbrev TIp:=V->V->Hp->VK->Prop
def PIp (X:Cx) (op:Operator) (t:TIp):Prop:=
 ∀(pins:List (Addr×Obj)) (s:Shared) (σ:St) (H:Hp) (x y:V) (v u:Value) (Q:VK),qC X pins σ H s->qL x v->qL y u->t x y H Q->
   wpAny (model X.prog X.w) X.A (inplaceOp op v u) (EP X pins σ Q) X.xe s
section
variable {X:Cx} {pos:Pos}
def JB (i:Nat):TG:=λv σ H Q=>Q (σ.set i (some v)) H
theorem qv {i:Nat} {x:Str} (hN:X.N.Nodup) (hi:X.N[i]?=some x) (hx:Mi X.env.scope x) (hf:X.fn x=true\/X.env.scope.names.lookup x=some .local:=by first | exact .inl rfl | exact .inr rfl | assumption):JG X (.Name x pos) (JB i):=.of (by
 intro pins s σ H v u Q I r h
 exact wpAny_assign_Name (Zt I hN hi hx r (λs' I'=>⟨_,H,I',h⟩) hf))
def qaL:ut:=λvs σ H Q=>vs=[]/\Q σ H
def wP (t:TG) (u:ut):ut:=λvs σ H Q=>∃v r,vs=v::r/\t v σ H λσ' H'=>u r σ' H' Q
theorem JX:ux X [] qaL:=.of (by
 intro pins s σ H vs us Q I r h
 obtain⟨e,h⟩:=h
 subst e
 cases r
 exact assignInOrder_nil ⟨σ,H,I,h⟩)
theorem jM {e:Expr} {es:List Expr} {t:TG} {u:ut} (h1:JG X e t) (h2:ux X es u) (hs:(assignEach (e::es) X.env).map (·.2)=assign e X.env::(assignEach es X.env).map (·.2):=by rfl):ux X (e::es) (wP t u):=.of (by
 have h1:=h1.to
 have h2:=h2.to
 intro pins s σ H vs us Q I r h
 obtain⟨v,vr,e1,h⟩:=h
 subst e1
 cases r with
 | cons r rr=>
   rw[hs]
   refine assignInOrder_cons (ji (h1 pins s σ H _ _ _ I r h) λ_ s1 ⟨σ1,H1,I1,q1⟩=>?_)
   exact h2 pins s1 σ1 H1 _ _ Q I1 rr q1)
def qaJ (K:PySem.W.Frag) (n:Nat) (t:ut):TG:=λv σ H Q=>∃a xs,v=.ref a/\SqT K H a xs/\xs.length=n/\t xs σ H Q
theorem Z6 {es:List Expr} {k:Nat} {t:ut} {n:Nat} (hc:X.calm=true) (h:ux X es t) (hn:(assignEach es X.env).length=n:=by rfl) (hst:(assignEach es X.env).findIdx? (·.1)=none:=by rfl):JG X (.Tuple es k pos) (qaJ X.K n t):=.of (by
 have h:=h.to
 intro pins s σ H v u Q I r hw
 obtain⟨a,xs,e1,hq,hl,hw⟩:=hw
 subst e1
 cases r
 obtain⟨its,rv,ht,hz⟩:=I.tuple hq
 refine assign_Tuple_tuple (I.ok.hd hc) ht (by simp [hn,<-hl,rv.length]) hst λh' hx=>?_
 have I1:qC X pins σ H {s with heap:=h'}:=I.kept (t':=s.toks) λb o e=>hx b o (tR (tI e)) e
 exact h pins _ σ H xs _ Q I1 (by simpa using rv) hw)
def qaK (to ti:TE) (t:Gy):TG:=λv σ H Q=>to σ H λo H1=>ti σ H1 λi H2=>t o i v H2 λH3=>Q σ H3
theorem Nl {o i:Expr} {to ti:TE} {t:Gy} (ho:PE X o to) (hi:PE X i ti) (hs:Me X t)
   (ha:∀v,assign (.Subscript o i pos) X.env v=(do
     let ov <-holding [v] (eval o X.env)
     let iv <-holding [v,ov] (eval i X.env)
     standAt pos
     holding [v,ov,iv] (setItem ov iv v)
     release [v,ov,iv] []):=by intro _;rfl):PG X (.Subscript o i pos) (qaK to ti t):=by
 intro pins s σ H v u Q I r h
 rw[ha]
 refine wpAny_bind (wpAny_holding (ji (ho pins s σ H _ I h) λov s1 ⟨x,H1,I1,r1,q1⟩=>?_))
 refine wpAny_bind (wpAny_holding (ji (hi pins s1 σ H1 _ I1 q1) λiv s2 ⟨y,H2,I2,r2,q2⟩=>?_))
 refine wpAny_bind (wpAny_standAt (wpAny_bind (wpAny_holding (ji (hs pins s2 σ H2 x y v ov iv u _ I2 r1 r2 r q2) λ_ s3 ⟨H3,I3,q3⟩=>?_))))
 exact wpAny_release ⟨σ,H3,I3,q3⟩
theorem NW {o i:Expr} {to ti:TE} {t:Gy} (ho:JE X o to) (hi:JE X i ti) (hs:Me X t) (ha:∀v,assign (.Subscript o i pos) X.env v=(do
     let ov <-holding [v] (eval o X.env)
     let iv <-holding [v,ov] (eval i X.env)
     standAt pos
     holding [v,ov,iv] (setItem ov iv v)
     release [v,ov,iv] []):=by intro _;rfl):JG X (.Subscript o i pos) (qaK to ti t):=.of (Nl ho.to hi.to hs ha)
def yR (te:TE) (g:TG):TS:=λD σ H=>te σ H λx H1=>g x σ H1 D.nx
theorem NR {tg e:Expr} {te:TE} {g:TG} (he:JE X e te) (hg:JG X tg g) (hs:swapsWithSole [tg] e pos.line X.env=pure false:=by rfl) (hw:swappedStores [tg] e X.env=pure none:=by rfl) (h1:(assignEach [tg] X.env).map (·.2)=[assign tg X.env]:=by rfl):JS X (.Assign [tg] e pos) (yR te g):=.of (by
 have he:=he.to
 have hg:=hg.to
 intro pins s σ H D I h
 refine wpAny_Assign_stores (ji (he pins s σ H _ I h) λv s1 ⟨x,H1,I1,r1,q1⟩=>?_) hs hw
 rw[h1]
 exact ji (hg pins s1 σ H1 x v _ I1 r1 q1) λ_ s2 q=>q)
theorem qw {i:Nat} {x:Str} {e:Expr} {te:TE} {pos':Pos} (hN:X.N.Nodup) (hi:X.N[i]?=some x) (hx:Mi X.env.scope x) (he:JE X e te) (hs:swapsWith e (some (.Name x pos')) pos.line X.env=pure false:=by rfl) (hf:X.fn x=true\/X.env.scope.names.lookup x=some .local:=by first | exact .inl rfl | exact .inr rfl | assumption):JS X (.Assign [.Name x pos'] e pos) (yR te (JB i)):=.of (by
 have he:=he.to
 intro pins s σ H D I h
 refine wpAny_Assign_Name (ji (he pins s σ H _ I h) λv s1 ⟨y,H1,I1,r1,q1⟩=>?_) hs
 exact Zt I1 hN hi hx r1 (λs2 I2=>⟨_,H1,I2,q1⟩) hf)
def qbr (i:Nat) (te:TE) (ti:TIp):TS:=λD σ H=>∃x,σ[i]?=some (some x)/\te σ H λy H1=>ti x y H1 λz H2=>D.nx (σ.set i (some z)) H2
theorem wq {i:Nat} {x:Str} {e:Expr} {te:TE} {op:Operator} {ti:TIp} {pos':Pos} (hN:X.N.Nodup) (hi:X.N[i]?=some x) (hx:Mi X.env.scope x) (he:JE X e te) (ho:PIp X op ti) (hf:X.fn x=true\/X.env.scope.names.lookup x=some .local:=by first | exact .inl rfl | exact .inr rfl | assumption):JS X (.AugAssign (.Name x pos') op e pos) (qbr i te ti):=.of (by
 have he:=he.to
 intro pins s σ H D I h
 obtain⟨v,e1,h⟩:=h
 obtain⟨m,hn,hl⟩:=I.loc
 have vis:My X.env.scope x:=by rcases hx with k | k;exact .inl k;exact .inr (.inl k)
 obtain⟨u,r,l⟩:=hl i x v hi e1 vis
 refine wpAny_AugAssign_Name ?_
 have go:wpAny (model X.prog X.w) X.A (eval e X.env) (λw s₂=>wpAny (model X.prog X.w) X.A (inplaceOp op u w) (λr s₃=>wpAny (model X.prog X.w) X.A (storeName X.env x r) (λ_=>SP X pins D .next) X.xe s₃) X.xe s₂) X.xe s:=by
   refine ji (he pins s σ H _ I h) λw s1 ⟨y,H1,I1,r1,q1⟩=>?_
   refine ji (ho pins s1 σ H1 v y u w _ I1 r r1 q1) λz s2 ⟨zv,H2,I2,r2,q2⟩=>?_
   exact Zt I2 hN hi hx r2 (λs3 I3=>⟨_,H2,I3,q2⟩) hf
 rcases l with ⟨hk,hm⟩ | ⟨hk,c,hc,hcell⟩
 . exact wpAny_loadName_local I.ok.kind hk hn hm go
 . rcases hk with hk | hk
   . exact wpAny_loadName_cell I.ok.kind hk hc hcell go
   . rcases hx with k | k
     . have:X.env.scope.names.lookup x=some .free:=hk
       rw[k]at this;cases this
     . have:X.env.scope.names.lookup x=some .free:=hk
       rw[k]at this;cases this)
def ipI (f:Int->Int->Int):TIp:=λx y H Q=>∃i j,x=.int i/\y=.int j/\Q (.int (f i j)) H
theorem wD:PIp X .Add (ipI λi j=>i+j):=by
 intro pins s σ H x y v u Q I r1 r2 h
 obtain⟨i,j,e1,e2,q⟩:=h
 subst e1;subst e2
 obtain⟨t,rfl⟩:=r1
 obtain⟨t',rfl⟩:=r2
 exact iadd_int ⟨.int _,H,I.tok _,⟨_,rfl⟩,q⟩
end
section
variable {X:Cx} {pos:Pos}
def VP (c:TT) (tb:TS):TS:=λD σ H=>∃W:Nat->St->Hp->Prop,(∃m,W m σ H)/\∀m σ H,W m σ H->
 c σ H λb H1=>if b=true then ∃N:St->Hp->Prop,(∀σ' H',N σ' H'->∃m',m' < m/\W m' σ' H')/\tb {D with nx:=N,ct:=N,bk:=D.nx} σ H1 else D.nx σ H1
theorem QM {c:Expr} {body:List Stmt} {tc:TT} {tb:TS} (hp:PassesOwn (model X.prog X.w) X.A X.env X.xe) (hc:JT X c tc) (hb:WG X body tb):JS X (.While c body [] pos) (VP tc tb):=.of (by
 have hc:=hc.to
 have hb:=hb.to
 intro pins s σ H D I h
 obtain⟨W,⟨m0,w0⟩,turn⟩:=h
 refine wpAny_While (codeAny_whileLoop (λn s'=>∃σ' H',qC X pins σ' H' s'/\W n σ' H') ?_ m0 ⟨σ,H,I,w0⟩)
 rintro n s1 ⟨σ1,H1,I1,w1⟩
 refine wpAny_passesOwn hp (ji (hc pins s1 σ1 H1 _ I1 (turn n σ1 H1 w1)) λb s2 ⟨H2,I2,q2⟩=>?_)
 cases b with
 | true=>
   obtain⟨N,hN,q2⟩:=q2
   rw[if_pos rfl]
   refine wpAny_passesOwn hp (ji (hb pins s2 σ1 H2 _ I2 q2) λf s3 q3=>?_)
   cases f with
   | next=>
     obtain⟨σ3,H3,I3,n3⟩:=q3
     obtain⟨m',hm,w3⟩:=hN σ3 H3 n3
     exact⟨m',hm,σ3,H3,I3,w3⟩
   | cont=>
     obtain⟨σ3,H3,I3,n3⟩:=q3
     obtain⟨m',hm,w3⟩:=hN σ3 H3 n3
     exact⟨m',hm,σ3,H3,I3,w3⟩
   | brk=>exact q3
   | ret v=>exact q3
 | false=>
   rw[if_neg tK]
   exact wpAny_execs_nil ⟨σ1,H2,I2,q2⟩)
end
structure It where
 go:Nat->Hp->Prop
 yld:Nat->Hp->V->Hp->Prop
 stop:Nat->Hp->Prop
def JL (X:Cx) (pins:List (Addr×Obj)) (H:Hp) (b:Addr):Prop:=
 H b=none/\b≠X.env.locals/\b∉X.fs/\(b∈X.ex\/X.s₀.heap.objs.size<=b)/\(∀x c,X.env.cells.lookup x=some c->c≠b)/\∀p∈X.pn++pins,p.1≠b
theorem qC.fpOk {X:Cx} {pins:List (Addr×Obj)} {σ:St} {H H':Hp} {s:Shared} {b:Addr} (I:qC X pins σ H s) (hb:s.heap.objs.size<=b) (hn:H' b=none):JL X pins H' b:=by
 refine⟨hn,zbu (tN I.lt hb),I.nofs hb,.inr (tV I.sz hb),λx c e z=>?_,λp hp z=>?_⟩
 . obtain⟨v,q⟩:=I.cell x c e
   exact absurd (tN q.lt (by rw[z];exact hb)) (zaw _)
 . exact absurd (tN (tI (I.pin p hp).1) (by rw[z];exact hb)) (zaw _)
structure WE (P:Program) (w:World) (K:PySem.W.Frag) (tg:Expr) (J:It) (fp:List Addr) (it:Addr) (tn:Nat->Heap->Prop):Prop where
 mem:it∈fp
 obj:∀i h,tn i h->∀b∈fp,∃o,h.get? b=some o/\∀v,o.data≠.cell v
 keep:∀i h h',tn i h->(∀b∈fp,∀o,h.get? b=some o->h'.get? b=some o)->tn i h'
 item:∀(X:Cx),X.prog=P->X.w=w->X.K=K->X.calm=true->∀(i:Nat) (pins:List (Addr×Obj)) (s:Shared) (σ:St) (H:Hp) (E:Value->Shared->Prop),qC X pins σ H s->(∀b∈fp,JL X pins H b)->tn i s.heap->J.go i H->
   wpAny (model P w) X.A (pyNext (.ref it)) (λr s1=>∃u,r=some u/\
     wpAny (model P w) X.A (letOwnedTupleGo tg (.ref it) u) (λ_ s2=>∃x H',qC X pins σ H' s2/\qL x u/\J.yld i H x H'/\tn (i+1) s2.heap/\∀b∈fp,H' b=none) E s1) E s
 done:∀(X:Cx),X.prog=P->X.w=w->X.K=K->X.calm=true->∀(i:Nat) (pins:List (Addr×Obj)) (s:Shared) (σ:St) (H:Hp) (E:Value->Shared->Prop),qC X pins σ H s->(∀b∈fp,JL X pins H b)->tn i s.heap->J.stop i H->
   wpAny (model P w) X.A (pyNext (.ref it)) (λr s1=>r=none/\qC X pins σ H s1) E s
 self:∀(A:Around) (i:Nat) (s:Shared) (Q:Value->Shared->Prop) (E:Value->Shared->Prop),tn i s.heap->Q (.ref it) s->wpAny (model P w) A (pyIter (.ref it)) Q E s
abbrev TI:=St->Hp->(It->Hp->Prop)->Prop
def PIE (X:Cx) (pins:List (Addr×Obj)) (σ:St) (tg:Expr) (R:It->Hp->Prop) (itv:Value) (s2:Shared):Prop:=
 ∃(it:Addr) (fp:List Addr) (tn:Nat->Heap->Prop) (J:It) (H':Hp),itv=.ref it/\qC X pins σ H' s2/\WE X.prog X.w X.K tg J fp it tn/\tn 0 s2.heap/\(∀b∈fp,JL X pins H' b)/\R J H'
def PI (X:Cx) (tg iter:Expr) (wi:TI):Prop:=
 ∀(pins:List (Addr×Obj)) (s:Shared) (σ:St) (H:Hp) (R:It->Hp->Prop),qC X pins σ H s->wi σ H R->
   wpAny (model X.prog X.w) X.A (eval iter X.env) (λv s1=>wpAny (model X.prog X.w) X.A (pyIter v) (PIE X pins σ tg R) X.xe s1) X.xe s
@[irreducible] def JI (X:Cx) (tg iter:Expr) (wi:TI):Prop:=PI X tg iter wi
theorem JI.of {X:Cx} {tg iter:Expr} {wi:TI} (h:PI X tg iter wi):JI X tg iter wi:=by unfold JI;exact h
theorem JI.to {X:Cx} {tg iter:Expr} {wi:TI} (h:JI X tg iter wi):PI X tg iter wi:=by unfold JI at h;exact h
theorem Vo {M:Model} {A:Around} {E:Value->Shared->Prop} {s:Shared} {tg:Expr} {it:Addr} {u:Value} {o:Obj} {n:String} {vs:Array Value} {Q:Unit->Shared->Prop} (ho:s.heap.get? it=some o) (hc:o.cls=.type n) (hd:o.data=.fields vs)
   (hn:["enumerate","zip","dict_itemiterator","dict_reverseitemiterator","odict_iterator","itertools.zip_longest","itertools.pairwise"].contains n=false) (hQ:Q () s):wpAny M A (letOwnedTupleGo tg (.ref it) u) Q E s:=by
 unfold letOwnedTupleGo
 cases tg<;>first
   | exact wpAny_pure hQ
   | (cases u<;>first
       | exact wpAny_pure hQ
       | (refine wpAny_bind (wpAny_load ho ?_)
          rw[hc,hd]
          show wpAny M A (if (["enumerate","zip","dict_itemiterator","dict_reverseitemiterator","odict_iterator","itertools.zip_longest","itertools.pairwise"].contains n&&vs[0]?==some (rawInt _))=true then _ else _) Q E s
          rw[if_neg (by intro h;rw[hn,zcx]at h;cases h)]
          exact wpAny_pure hQ))
def Mn (K:PySem.W.Frag) (a:Addr):It:=
 ⟨λi H=>∃xs x,SqL K H a xs/\xs[i]?=some x,λi H x H'=>H'=H/\∀xs,SqL K H a xs->xs[i]?=some x,λi H=>∃xs,SqL K H a xs/\xs.length<=i⟩
def MB (K:PySem.W.Frag) (a:Addr):It:=
 ⟨λi H=>∃xs x,SqT K H a xs/\xs[i]?=some x,λi H x H'=>H'=H/\∀xs,SqT K H a xs->xs[i]?=some x,λi H=>∃xs,SqT K H a xs/\xs.length<=i⟩
def Mm (lo:Int) (n:Nat):It:=⟨λi _=>i < n,λi H x H'=>H'=H/\x=.int (lo+i),λi _=>n<=i⟩
theorem v8 {P:Program} {w:World} {K:PySem.W.Frag} {tg:Expr} (a it:Addr):WE P w K tg (Mn K a) [it] it (λi h=>h.IsListIter it a i) where
 mem:=by simp
 obj:=λi h st b hb=>by
   have e:b=it:=by simpa using hb
   subst e
   obtain⟨o,e,c,d⟩:=st
   exact⟨o,e,λv z=>by rw[d]at z;cases z⟩
 keep:=λi h h' st k=>st.at λo e=>k it (by simp) o e
 item:=by
   intro X hP hw hK hc i pins s σ H E I hf st hg
   subst hP hw hK
   obtain⟨xs,x,hq,hx⟩:=hg
   obtain⟨its,rv,p,hz⟩:=I.list hq
   obtain⟨u,hu,ru⟩:=rv.get hx
   obtain⟨f0,f1,f2,f3,f4,f5⟩:=hf it (by simp)
   refine wpAny_pyNext_list_item st p.isList (x:=u) (by simpa using hu) λh' st' sb=>?_
   have I1:qC X pins σ H {s with heap:=h'}:=I.turned (t':=s.toks) (λb o hb e=>(sb.2 b hb).trans e) f0 f1 f3 f4 f5
   obtain⟨o,e,c,d⟩:=id st'
   exact⟨u,rfl,Vo (s:={s with heap:=h'}) e c d (by decide) ⟨x,H,I1,ru,⟨rfl,λys hy=>by rw[I.list_inj hy hq];exact hx⟩,st',λb hb=>(hf b hb).1⟩⟩
 done:=by
   intro X hP hw hK hc i pins s σ H E I hf st hg
   subst hP hw hK
   obtain⟨xs,hq,hx⟩:=hg
   obtain⟨its,rv,p,hz⟩:=I.list hq
   obtain⟨f0,f1,f2,f3,f4,f5⟩:=hf it (by simp)
   have hl:=rv.length
   exact wpAny_pyNext_list_end (I.ok.hd hc) st p.isList (by simp;omega) λh' eb=>⟨rfl,I.turned (t':=s.toks) (λb o hb e=>eb b o hb e) f0 f1 f3 f4 f5⟩
 self:=λ_ _ _ _ _ st h=>wpAny_pyIter_listiter st h
theorem VJ {P:Program} {w:World} {K:PySem.W.Frag} {tg:Expr} (a it:Addr):WE P w K tg (MB K a) [it] it (λi h=>h.IsTupleIter it a i) where
 mem:=by simp
 obj:=λi h st b hb=>by
   have e:b=it:=by simpa using hb
   subst e
   obtain⟨o,e,c,d⟩:=st
   exact⟨o,e,λv z=>by rw[d]at z;cases z⟩
 keep:=λi h h' st k=>st.at λo e=>k it (by simp) o e
 item:=by
   intro X hP hw hK hc i pins s σ H E I hf st hg
   subst hP hw hK
   obtain⟨xs,x,hq,hx⟩:=hg
   obtain⟨its,rv,p,hz⟩:=I.tuple hq
   obtain⟨u,hu,ru⟩:=rv.get hx
   obtain⟨f0,f1,f2,f3,f4,f5⟩:=hf it (by simp)
   refine wpAny_pyNext_tuple_item st (show s.heap.IsTuple a its.toArray from p) (x:=u) (by simpa using hu) λh' st' sb=>?_
   have I1:qC X pins σ H {s with heap:=h'}:=I.turned (t':=s.toks) (λb o hb e=>(sb.2 b hb).trans e) f0 f1 f3 f4 f5
   obtain⟨o,e,c,d⟩:=id st'
   exact⟨u,rfl,Vo (s:={s with heap:=h'}) e c d (by decide) ⟨x,H,I1,ru,⟨rfl,λys hy=>by rw[I.tuple_inj hy hq];exact hx⟩,st',λb hb=>(hf b hb).1⟩⟩
 done:=by
   intro X hP hw hK hc i pins s σ H E I hf st hg
   subst hP hw hK
   obtain⟨xs,hq,hx⟩:=hg
   obtain⟨its,rv,p,hz⟩:=I.tuple hq
   obtain⟨f0,f1,f2,f3,f4,f5⟩:=hf it (by simp)
   have hl:=rv.length
   exact wpAny_pyNext_tuple_end (I.ok.hd hc) st (show s.heap.IsTuple a its.toArray from p) (by simp;omega) λh' eb=>⟨rfl,I.turned (t':=s.toks) (λb o hb e=>eb b o hb e) f0 f1 f3 f4 f5⟩
 self:=λ_ _ _ _ _ st h=>wpAny_pyIter_tupleiter st h
theorem VL {P:Program} {w:World} {K:PySem.W.Frag} {tg:Expr} (it:Addr) (lo:Int) (n:Nat):WE P w K tg (Mm lo n) [it] it (λi h=>IsRangeIter h it (lo+(i:Nat)*1) ((n:Int) - (i:Nat)) 1) where
 mem:=by simp
 obj:=λi h st b hb=>by
   have e:b=it:=by simpa using hb
   subst e
   exact⟨_,st,λv z=>by
     have z':Data.fields _=Data.cell v:=z
     cases z'⟩
 keep:=λi h h' st k=>k it (by simp) _ st
 item:=by
   intro X hP hw hK hc i pins s σ H E I hf st hg
   subst hP hw hK
   obtain⟨f0,f1,f2,f3,f4,f5⟩:=hf it (by simp)
   have W:=Walks.range (prog:=X.prog) (w:=X.w) (I.ok.hd hc) it lo 1 n
   refine W.item i s _ _ hg st λv h' tk hv st' kk=>?_
   obtain⟨t,rfl⟩:=hv
   have I1:qC X pins σ H {s with heap:=h',toks:=tk}:=I.turned (λb o hb e=>kk b o (by simpa using hb) e) f0 f1 f3 f4 f5
   refine⟨_,rfl,Vo (s:={s with heap:=h',toks:=tk}) (n:="range_iterator") st' rfl rfl (by decide) ⟨.int (lo+i),H,I1,⟨t,?_⟩,⟨rfl,rfl⟩,st',λb hb=>(hf b hb).1⟩⟩
   rw[Int.mul_one]
 done:=by
   intro X hP hw hK hc i pins s σ H E I hf st hg
   subst hP hw hK
   obtain⟨f0,f1,f2,f3,f4,f5⟩:=hf it (by simp)
   exact wpAny_pyNext_range_end (I.ok.hd hc) st (by have:n<=i:=hg;omega) λh' eb=>⟨rfl,I.turned (t':=s.toks) (λb o hb e=>eb b o hb e) f0 f1 f3 f4 f5⟩
 self:=λ_ _ _ _ _ st h=>wpAny_pyIter_rangeiter st h
section
variable {X:Cx} {tg:Expr}
def qaH (K:PySem.W.Frag) (tl:TE):TI:=λσ H R=>tl σ H λx H1=>∃a,x=.ref a/\(∃xs,SqL K H1 a xs)/\R (Mn K a) H1
def qb1 (K:PySem.W.Frag) (tl:TE):TI:=λσ H R=>tl σ H λx H1=>∃a,x=.ref a/\(∃xs,SqT K H1 a xs)/\R (MB K a) H1
theorem qJ {l:Expr} {tl:TE} (hl:JE X l tl):JI X tg l (qaH X.K tl):=.of (by
 have hl:=hl.to
 intro pins s σ H R I h
 refine ji (hl pins s σ H _ I h) λv s1 ⟨x,H1,I1,r1,q1⟩=>?_
 obtain⟨a,e,⟨xs,hq⟩,q⟩:=q1
 subst e
 cases r1
 obtain⟨its,rv,p,hz⟩:=I1.list hq
 refine wpAny_pyIter_list p.isList ?_
 refine⟨s1.heap.objs.size,[s1.heap.objs.size],_,_,H1,rfl,I1.kept (t':=s1.toks) λb o e=>tz _ e,v8 a _,⟨_,tU _ rfl,rfl,rfl⟩,λb hb=>?_,q⟩
 have e:b=s1.heap.objs.size:=by simpa using hb
 subst e
 exact I1.fpOk (tw _) (I1.hok.fresh (tw _)))
theorem YA {l:Expr} {tl:TE} (hl:JE X l tl):JI X tg l (qb1 X.K tl):=.of (by
 have hl:=hl.to
 intro pins s σ H R I h
 refine ji (hl pins s σ H _ I h) λv s1 ⟨x,H1,I1,r1,q1⟩=>?_
 obtain⟨a,e,⟨xs,hq⟩,q⟩:=q1
 subst e
 cases r1
 obtain⟨its,rv,p,hz⟩:=I1.tuple hq
 refine wpAny_pyIter_tuple (show s1.heap.IsTuple a its.toArray from p) ?_
 refine⟨s1.heap.objs.size,[s1.heap.objs.size],_,_,H1,rfl,I1.kept (t':=s1.toks) λb o e=>tz _ e,VJ a _,⟨_,tU _ rfl,rfl,rfl⟩,λb hb=>?_,q⟩
 have e:b=s1.heap.objs.size:=by simpa using hb
 subst e
 exact I1.fpOk (tw _) (I1.hok.fresh (tw _)))
theorem xq {pins:List (Addr×Obj)} {σ:St} {H:Hp} {s:Shared} {R:It->Hp->Prop} {E:Value->Shared->Prop} {lo hi:Int} {t u v:Tok} {tk:Nat} (I:qC X pins σ H s) (h1:-(2^62)<=lo) (h2:lo < 2^62) (h3:-(2^62)<=hi) (h4:hi < 2^62)
   (q:R (Mm lo (hi - lo).toNat) H):wpAny (model X.prog X.w) X.A (pyIter (.ref s.heap.objs.size)) (PIE X pins σ tg R) E {s with heap:=s.heap.push {cls:=.type "range",data:=.fields #[.int lo t,.int hi u,.int 1 v]},toks:=tk}:=by
 refine wpAny_pyIter_range (IsRange.new ..) (small_one h1 h2 h3 h4) ?_
 have I1:qC X pins σ H {s with heap:=s.heap.push {cls:=.type "range",data:=.fields #[.int lo t,.int hi u,.int 1 v]},toks:=tk}:=I.kept λb o e=>tz _ e
 refine⟨(s.heap.push {cls:=.type "range",data:=.fields #[.int lo t,.int hi u,.int 1 v]}).objs.size,[(s.heap.push {cls:=.type "range",data:=.fields #[.int lo t,.int hi u,.int 1 v]}).objs.size],_,_,H,rfl,
   I1.kept (t':=tk) λb o e=>tz _ e,VL _ lo (hi - lo).toNat,?_,λb hb=>?_,q⟩
 . have e1:lo+((0:Nat):Int)*1=lo:=by simp
   have e2:(((hi - lo).toNat:Nat):Int) - ((0:Nat):Int)=Builtin.Range.rangeSize lo hi 1:=by rw[rangeSize_one];split<;>omega
   show IsRangeIter _ _ (lo+((0:Nat):Int)*1) ((((hi - lo).toNat:Nat):Int) - ((0:Nat):Int)) 1
   rw[e1,e2]
   exact tU _ rfl
 . have e:b=(s.heap.push {cls:=.type "range",data:=.fields #[.int lo t,.int hi u,.int 1 v]}).objs.size:=by simpa using hb
   subst e
   exact I1.fpOk (tw _) (I1.hok.fresh (tw _))
def qaG (ta:TA):TI:=λσ H R=>ta σ H λvs H1=>∃j:Int,vs=[.int j]/\-(2^62)<=j/\j < 2^62/\R (Mm 0 j.toNat) H1
theorem jp {a:Expr} {ta:TA} {p pos:Pos} (hg:Gl X "range") (hm:X.mg "range"=none) (ha:JA X [a] ta) (hs:starEach [a] X.env=[(false,eval a X.env)]:=by rfl):JI X tg (.Call (.Name "range" p) [a] [] pos) (qaG ta):=.of (by
 have ha:=ha.to
 intro pins s σ H R I h
 refine Call_ (Qp I hg hm boot_range (PyProof.Rows.callWith_type1 (ji (ha pos pins s σ H _ I h) λus s1 ⟨vs,H1,I1,r1,q1⟩=>?_) hs rfl))
 obtain⟨j,e,q1,q2,q⟩:=q1
 subst e
 cases r1 with
 | cons r rr=>
   cases rr
   obtain⟨t,rfl⟩:=r
   exact call_range_1 (xq I1 (by omega) (by omega) q1 q2 (by simpa using q)))
def qbo (wi:TI) (g:TG) (tb:TS):TS:=λD σ H=>wi σ H λJ H1=>∃W:Nat->Nat->St->Hp->Prop,(∃m,W 0 m σ H1)/\∀i m σ H,W i m σ H->
 (J.stop i H/\D.nx σ H)\/(J.go i H/\∃N:St->Hp->Prop,(∀σ' H',N σ' H'->∃m',m' < m/\W (i+1) m' σ' H')/\∀x H',J.yld i H x H'->g x σ H' λσ2 H2=>tb {D with nx:=N,ct:=N,bk:=D.nx} σ2 H2)
def Yk (fp:List Addr) (h:Heap):List (Addr×Obj):=fp.filterMap λb=>(h.get? b).map λo=>(b,o)
theorem Jm {fp:List Addr} {h:Heap} {b:Addr} {o:Obj} (hb:b∈fp) (e:h.get? b=some o):(b,o)∈Yk fp h:=zbD.mpr ⟨b,hb,by rw[e];rfl⟩
theorem kR {fp:List Addr} {h:Heap} {p:Addr×Obj} (hp:p∈Yk fp h):p.1∈fp/\h.get? p.1=some p.2:=by
 obtain⟨b,hb,e⟩:=zbD.mp hp
 cases q:h.get? b with
 | none=>rw[q]at e;cases e
 | some o=>
   rw[q]at e
   have e':(b,o)=p:=tO.inj e
   subst e'
   exact⟨hb,q⟩
theorem qC.pinned {pins:List (Addr×Obj)} {σ:St} {H:Hp} {s:Shared} {fp:List Addr} (I:qC X pins σ H s) (hf:∀b∈fp,JL X pins H b) (ho:∀b∈fp,∃o,s.heap.get? b=some o/\∀v,o.data≠.cell v):qC X (pins++Yk fp s.heap) σ H s:=
 I.pins_of λp hp=>(zai.mp hp).elim (λz=>I.pin p (zan _ z)) λz=>by
   obtain⟨hb,e⟩:=kR z
   obtain⟨f0,f1,f2,_⟩:=hf p.1 hb
   obtain⟨o,e',d⟩:=ho p.1 hb
   rw[e]at e';cases e'
   exact⟨e,f0,f1,f2,d⟩
theorem qC.unpinned {pins pl:List (Addr×Obj)} {σ:St} {H:Hp} {s:Shared} (I:qC X (pins++pl) σ H s):qC X pins σ H s:=I.pins_of λp hp=>I.pin p (zan _ (zaR _ hp))
theorem ja {iter:Expr} {body:List Stmt} {wi:TI} {g:TG} {tb:TS} {pos:Pos} (hp:PassesOwn (model X.prog X.w) X.A X.env X.xe) (hc:X.calm=true) (hi:JI X tg iter wi) (hg:JG X tg g) (hb:WG X body tb) (hs:∀x,foldedSetIterable iter X.env x=pure x:=by intro _;rfl):JS X (.For tg iter body [] pos) (qbo wi g tb):=.of (by
 have hi:=hi.to
 have hg:=hg.to
 have hb:=hb.to
 intro pins s σ H D I h
 refine wpAny_For (ji (hi pins s σ H _ I h) λv s1 h1=>ji h1 λitv s2 h2=>?_) hs
 obtain⟨it,fp,tn,J,H2,e,I2,T,st2,f2,W,⟨m0,w0⟩,turn⟩:=h2
 subst e
 have stat:∀{H':Hp},(∀b∈fp,H' b=none)->∀b∈fp,JL X pins H' b:=λhn b hb=>⟨hn b hb,(f2 b hb).2⟩
 refine codeAny_forLoop_any (λn s'=>∃i σ' H',qC X pins σ' H' s'/\tn i s'.heap/\(∀b∈fp,H' b=none)/\W i n σ' H') ?_ m0 ⟨0,σ,H2,I2,st2,λb hb=>(f2 b hb).1,w0⟩
 rintro n s3 ⟨i,σ3,H3,I3,st3,fr3,w3⟩
 rcases turn i n σ3 H3 w3 with ⟨stop,qn⟩ | ⟨go,N,hN,step⟩
 . refine wpAny_passesOwn hp (ji (T.done X rfl rfl rfl hc i pins s3 σ3 H3 X.xe I3 (stat fr3) st3 stop) λr s4 ⟨hr,I4⟩=>?_)
   subst hr
   exact wpAny_execs_nil ⟨σ3,H3,I4,qn⟩
 . refine wpAny_passesOwn hp (ji (T.item X rfl rfl rfl hc i pins s3 σ3 H3 X.xe I3 (stat fr3) st3 go) λr s4 ⟨u,hr,h4⟩=>?_)
   subst hr
   refine wpAny_passesOwn hp (ji h4 λ_ s5 ⟨x,H5,I5,r5,y5,st5,fr5⟩=>?_)
   have I5':=I5.pinned (stat fr5) (T.obj _ _ st5)
   refine wpAny_passesOwn hp (ji (hg _ s5 σ3 H5 x u _ I5' r5 (step x H5 y5)) λ_ s6 ⟨σ6,H6,I6,q6⟩=>?_)
   refine wpAny_passesOwn hp (ji (hb _ s6 σ6 H6 _ I6 q6) λf s7 q7=>?_)
   have again:∀{σ7:St} {H7:Hp},qC X (pins++Yk fp s5.heap) σ7 H7 s7->N σ7 H7->∃m,m < n/\∃i σ' H',qC X pins σ' H' s7/\tn i s7.heap/\(∀b∈fp,H' b=none)/\W i m σ' H':=λ{σ7 H7} I7 n7=>by
     obtain⟨m',hm,w7⟩:=hN σ7 H7 n7
     refine⟨m',hm,i+1,σ7,H7,I7.unpinned,T.keep _ _ _ st5 λb hb o e=>(I7.pin (b,o) (zan _ (zan _ (Jm hb e)))).1,λb hb=>?_,w7⟩
     obtain⟨o,e,d⟩:=T.obj _ _ st5 b hb
     exact(I7.pin (b,o) (zan _ (zan _ (Jm hb e)))).2.1
   cases f with
   | next=>obtain⟨σ7,H7,I7,n7⟩:=q7;exact again I7 n7
   | cont=>obtain⟨σ7,H7,I7,n7⟩:=q7;exact again I7 n7
   | brk=>obtain⟨σ7,H7,I7,q7⟩:=q7;exact⟨σ7,H7,I7.unpinned,q7⟩
   | ret v=>obtain⟨x7,σ7,H7,I7,r7,q7⟩:=q7;exact⟨x7,σ7,H7,I7.unpinned,r7,q7⟩)
end
theorem js {K:PySem.W.Frag} {a:Addr} {xs:List V} {g:TG} {tb:TS} {D:Qv} {σ:St} {H:Hp} (Pv:Nat->St->Hp->Prop) (h0:Pv 0 σ H) (hl:∀i σ H,i<=xs.length->Pv i σ H->SqL K H a xs)
   (hs:∀i x σ H,xs[i]?=some x->Pv i σ H->g x σ H λσ2 H2=>tb {D with nx:=Pv (i+1),ct:=Pv (i+1),bk:=D.nx} σ2 H2) (hd:∀σ H,Pv xs.length σ H->D.nx σ H):
   ∃W:Nat->Nat->St->Hp->Prop,(∃m,W 0 m σ H)/\∀i m σ H,W i m σ H->
    ((Mn K a).stop i H/\D.nx σ H)\/((Mn K a).go i H/\∃N:St->Hp->Prop,(∀σ' H',N σ' H'->∃m',m' < m/\W (i+1) m' σ' H')/\∀x H',(Mn K a).yld i H x H'->g x σ H' λσ2 H2=>tb {D with nx:=N,ct:=N,bk:=D.nx} σ2 H2):=by
 refine⟨λi m σ H=>m=xs.length - i/\i<=xs.length/\Pv i σ H,⟨xs.length,by simp,zap _,h0⟩,?_⟩
 rintro i m σ H ⟨rfl,hi,p⟩
 have q:=hl i σ H hi p
 by_cases hlt:i < xs.length
 . refine .inr ⟨⟨xs,xs[i],q,by simp [hlt]⟩,Pv (i+1),λσ' H' p'=>⟨xs.length - (i+1),by omega,rfl,hlt,p'⟩,λx H' y=>?_⟩
   obtain⟨e,y⟩:=y
   subst e
   exact hs i x σ _ (y xs q) p
 . have e:i=xs.length:=by omega
   subst e
   exact .inl ⟨⟨xs,q,tw _⟩,hd σ H p⟩
theorem Gi {K:PySem.W.Frag} {a:Addr} {xs:List V} {g:TG} {tb:TS} {D:Qv} {σ:St} {H:Hp} (Pv:Nat->St->Hp->Prop) (h0:Pv 0 σ H) (hl:∀i σ H,i<=xs.length->Pv i σ H->SqT K H a xs)
   (hs:∀i x σ H,xs[i]?=some x->Pv i σ H->g x σ H λσ2 H2=>tb {D with nx:=Pv (i+1),ct:=Pv (i+1),bk:=D.nx} σ2 H2) (hd:∀σ H,Pv xs.length σ H->D.nx σ H):
   ∃W:Nat->Nat->St->Hp->Prop,(∃m,W 0 m σ H)/\∀i m σ H,W i m σ H->
    ((MB K a).stop i H/\D.nx σ H)\/((MB K a).go i H/\∃N:St->Hp->Prop,(∀σ' H',N σ' H'->∃m',m' < m/\W (i+1) m' σ' H')/\∀x H',(MB K a).yld i H x H'->g x σ H' λσ2 H2=>tb {D with nx:=N,ct:=N,bk:=D.nx} σ2 H2):=by
 refine⟨λi m σ H=>m=xs.length - i/\i<=xs.length/\Pv i σ H,⟨xs.length,by simp,zap _,h0⟩,?_⟩
 rintro i m σ H ⟨rfl,hi,p⟩
 have q:=hl i σ H hi p
 by_cases hlt:i < xs.length
 . refine .inr ⟨⟨xs,xs[i],q,by simp [hlt]⟩,Pv (i+1),λσ' H' p'=>⟨xs.length - (i+1),by omega,rfl,hlt,p'⟩,λx H' y=>?_⟩
   obtain⟨e,y⟩:=y
   subst e
   exact hs i x σ _ (y xs q) p
 . have e:i=xs.length:=by omega
   subst e
   exact .inl ⟨⟨xs,q,tw _⟩,hd σ H p⟩
theorem j0 {lo:Int} {n:Nat} {g:TG} {tb:TS} {D:Qv} {σ:St} {H:Hp} (Pv:Nat->St->Hp->Prop) (h0:Pv 0 σ H)
   (hs:∀i σ H,i < n->Pv i σ H->g (.int (lo+i)) σ H λσ2 H2=>tb {D with nx:=Pv (i+1),ct:=Pv (i+1),bk:=D.nx} σ2 H2) (hd:∀σ H,Pv n σ H->D.nx σ H):
   ∃W:Nat->Nat->St->Hp->Prop,(∃m,W 0 m σ H)/\∀i m σ H,W i m σ H->
    ((Mm lo n).stop i H/\D.nx σ H)\/((Mm lo n).go i H/\∃N:St->Hp->Prop,(∀σ' H',N σ' H'->∃m',m' < m/\W (i+1) m' σ' H')/\∀x H',(Mm lo n).yld i H x H'->g x σ H' λσ2 H2=>tb {D with nx:=N,ct:=N,bk:=D.nx} σ2 H2):=by
 refine⟨λi m σ H=>m=n - i/\i<=n/\Pv i σ H,⟨n,by simp,zap _,h0⟩,?_⟩
 rintro i m σ H ⟨rfl,hi,p⟩
 by_cases hlt:i < n
 . refine .inr ⟨hlt,Pv (i+1),λσ' H' p'=>⟨n - (i+1),by omega,rfl,hlt,p'⟩,λx H' y=>?_⟩
   obtain⟨e,y⟩:=y
   subst e y
   exact hs i σ _ hlt p
 . have e:i=n:=by omega
   subst e
   exact .inl ⟨tw _,hd σ H p⟩
theorem QG {c:TT} {tb:TS} {D:Qv} {σ:St} {H:Hp} (Pv:St->Hp->Prop) (μ:St->Hp->Nat) (h0:Pv σ H)
   (hs:∀σ H,Pv σ H->c σ H λb H1=>if b=true then tb {D with nx:=λσ' H'=>Pv σ' H'/\μ σ' H' < μ σ H,ct:=λσ' H'=>Pv σ' H'/\μ σ' H' < μ σ H,bk:=D.nx} σ H1 else D.nx σ H1)
   (mono:∀σ H Q Q',(∀b H1,Q b H1->Q' b H1)->c σ H Q->c σ H Q'):VP c tb D σ H:=by
 refine⟨λm σ H=>m=μ σ H/\Pv σ H,⟨_,rfl,h0⟩,?_⟩
 rintro m σ H ⟨rfl,p⟩
 refine mono σ H _ _ (λb H1 q=>?_) (hs σ H p)
 cases b with
 | true=>exact⟨_,λσ' H' ⟨p',l⟩=>⟨_,l,rfl,p'⟩,q⟩
 | false=>exact q
abbrev R2:=V->V->Hp->VK->Prop
def Jw (X:Cx) (f:Value->Value->Sem Value) (r:R2):Prop:=
 ∀(pins:List (Addr×Obj)) (s:Shared) (σ:St) (H:Hp) (x y:V) (v u:Value) (Q:VK),qC X pins σ H s->qL x v->qL y u->r x y H Q->
   wpAny (model X.prog X.w) X.A (f v u) (EP X pins σ Q) X.xe s
def j8 (X:Cx) (f:Value) (r:List V->Hp->VK->Prop):Prop:=
 ∀(pins:List (Addr×Obj)) (s:Shared) (σ:St) (H:Hp) (xs:List V) (us:List Value) (Q:VK),qC X pins σ H s->qE xs us->r xs H Q->
   wpAny (model X.prog X.w) X.A (call f us) (EP X pins σ Q) X.xe s
def YY (r:R2) (ta tb:TE):TE:=λσ H Q=>ta σ H λx H1=>tb σ H1 λy H2=>r x y H2 Q
def rI (C:Int->Int->Prop) (g:Int->Int->V):R2:=λx y H Q=>∃i j,x=.int i/\y=.int j/\C i j/\Q (g i j) H
def xu (g:Int->Int->V):R2:=λx y H Q=>∃i j,x=.int i/\y=.int j/\Q (g i j) H
section
variable {X:Cx} {a b c:Expr} {ta tb tc:TE} {pos:Pos}
theorem Mb (ha:PE X a ta) (hb:PE X b tb) {pins:List (Addr×Obj)} {s:Shared} {σ:St} {H:Hp} {R:V->V->Hp->Prop} (I:qC X pins σ H s)
   (h:ta σ H λx H1=>tb σ H1 λy H2=>R x y H2) {Q:Value->Shared->Prop} {f:Value->Value->Sem Value}
   (hf:∀v u s2 x y H2,qC X pins σ H2 s2->qL x v->qL y u->R x y H2->wpAny (model X.prog X.w) X.A (f v u) Q X.xe s2):
   wpAny (model X.prog X.w) X.A (eval a X.env) (λv s₁=>wpAny (model X.prog X.w) X.A (eval b X.env) (λu s₂=>wpAny (model X.prog X.w) X.A (f v u) Q X.xe s₂) X.xe s₁) X.xe s:=by
 refine ji (ha pins s σ H _ I h) λv s1 ⟨x,H1,I1,r1,q1⟩=>?_
 refine ji (hb pins s1 σ H1 _ I1 q1) λu s2 ⟨y,H2,I2,r2,q2⟩=>?_
 exact hf v u s2 x y H2 I2 r1 r2 q2
theorem qO {op:Operator} {r:R2} (ho:Jw X (binaryOp op) r) (ha:JE X a ta) (hb:JE X b tb):JE X (.BinOp a op b pos) (YY r ta tb):=.of (by
 have ha:=ha.to
 have hb:=hb.to
 intro pins s σ H Q I h
 exact wpAny_BinOp (Mb ha hb I h λv u s2 x y H2 I2 rx ry q=>ho pins s2 σ H2 x y v u Q I2 rx ry q))
theorem Nu {f:Value->Value->Sem Value} {C:Int->Int->Prop} {g:Int->Int->Int}
   (rule:∀(i j:Int) (t u:Tok) (s:Shared) (Q:Value->Shared->Prop) (E:Value->Shared->Prop),C i j->Q (.int (g i j) s.toks) {s with toks:=s.toks+1}->wpAny (model X.prog X.w) X.A (f (.int i t) (.int j u)) Q E s):
   Jw X f (rI C λi j=>.int (g i j)):=by
 intro pins s σ H x y v u Q I rx ry h
 obtain⟨i,j,rfl,rfl,hc,q⟩:=h
 obtain⟨t,rfl⟩:=rx
 obtain⟨t',rfl⟩:=ry
 exact rule i j t t' s _ _ hc ⟨.int (g i j),H,I.tok _,⟨_,rfl⟩,q⟩
theorem xK {f:Value->Value->Sem Value} {g:Int->Int->Int}
   (rule:∀(i j:Int) (t u:Tok) (s:Shared) (Q:Value->Shared->Prop) (E:Value->Shared->Prop),Q (.int (g i j) s.toks) {s with toks:=s.toks+1}->wpAny (model X.prog X.w) X.A (f (.int i t) (.int j u)) Q E s):
   Jw X f (xu λi j=>.int (g i j)):=by
 intro pins s σ H x y v u Q I rx ry h
 obtain⟨i,j,rfl,rfl,q⟩:=h
 obtain⟨t,rfl⟩:=rx
 obtain⟨t',rfl⟩:=ry
 exact rule i j t t' s _ _ ⟨.int (g i j),H,I.tok _,⟨_,rfl⟩,q⟩
theorem Kz {f:Value->Value->Sem Value} {g:Int->Int->Bool}
   (rule:∀(i j:Int) (t u:Tok) (s:Shared) (Q:Value->Shared->Prop) (E:Value->Shared->Prop),Q (.bool (g i j)) s->wpAny (model X.prog X.w) X.A (f (.int i t) (.int j u)) Q E s):
   Jw X f (xu λi j=>.bl (g i j)):=by
 intro pins s σ H x y v u Q I rx ry h
 obtain⟨i,j,rfl,rfl,q⟩:=h
 obtain⟨t,rfl⟩:=rx
 obtain⟨t',rfl⟩:=ry
 exact rule i j t t' s _ _ ⟨.bl (g i j),H,I,rfl,q⟩
def qcd (i j:Int):Prop:=0 < j/\j < 1073741824
def qa2 (i j:Int):Prop:=0<=j/\j<=1000000/\i.natAbs < 2^64
def Mp (i j:Int):Prop:=(-(2^64) < i/\i < 2^64)\/(-(2^64) < j/\j < 2^64)
theorem Mp.ok {i j:Int} (h:Mp i j):IntMulOk i j:=by
 rcases h with ⟨h1,h2⟩ | ⟨h1,h2⟩
 . exact .of_left (intBits_le_64 h1 h2)
 . exact .of_right (intBits_le_64 h1 h2)
theorem VI (k:Nat):(0:Int)<=2^k:=by
 rw[two_pow_cast]
 exact zcy _
theorem Qo:Jw X (binaryOp .Add) (xu λi j=>.int (i+j)):=xK λ_ _ _ _ _ _ _ q=>add_int q
theorem V9:Jw X (binaryOp .Sub) (xu λi j=>.int (i - j)):=xK λ_ _ _ _ _ _ _ q=>sub_int q
theorem QY:Jw X (binaryOp .Mult) (rI Mp λi j=>.int (i*j)):=Nu λ_ _ _ _ _ _ _ hc q=>mul_int q hc.ok
theorem Kv:Jw X (binaryOp .FloorDiv) (rI qcd λi j=>.int (i / j)):=Nu λi j _ _ _ _ _ hc q=>by
 have h1:(0:Int) < j:=hc.1
 have h2:j < 1073741824:=hc.2
 exact floordiv_int (by omega) (by rw[zbO i (by omega)];exact q) (.inl (PyProof.noPylong_small (by omega)))
theorem Jk:Jw X (binaryOp .Mod) (rI (λ_ j=>0 < j) λi j=>.int (i % j)):=Nu λi j _ _ _ _ _ hc q=>by
 have h1:(0:Int) < j:=hc
 exact mod_int' (by omega) (by rw[Int.fmod_eq_emod_of_nonneg i (by omega)];exact q)
theorem Nq:Jw X (binaryOp .Pow) (rI qa2 λi j=>.int (i^j.toNat)):=Nu λ_ _ _ _ _ _ _ hc q=>pow_int_small hc.1 hc.2.1 hc.2.2 q
theorem Np:Jw X (binaryOp .LShift) (rI qa2 λi j=>.int (i*2^j.toNat)):=Nu λ_ _ _ _ _ _ _ hc q=>lshift_int_small hc.1 hc.2.1 hc.2.2 q
theorem No:Jw X (binaryOp .RShift) (rI (λ_ j=>0<=j) λi j=>.int (i / 2^j.toNat)):=Nu λi j _ _ _ _ _ hc q=>
 rshift_int hc (by rw[zbO i (VI _)];exact q)
theorem Nt:Jw X (binaryOp .BitAnd) (xu λi j=>.int (Builtin.bitAnd i j)):=xK λ_ _ _ _ _ _ _ q=>and_int q
theorem qah:Jw X (binaryOp .BitOr) (xu λi j=>.int (Builtin.bitOr i j)):=xK λ_ _ _ _ _ _ _ q=>or_int q
theorem V8:Jw X (binaryOp .BitXor) (xu λi j=>.int (Builtin.bitXor i j)):=xK λ_ _ _ _ _ _ _ q=>xor_int q
end
def MU:V->V->Bool
 | .non,.non=>true | .non,.int _=>true | .int _,.non=>true | .non,.bl _=>true | .bl _,.non=>true | .non,.str _=>true | .str _,.non=>true
 | .int _,.int _=>true | .bl _,.bl _=>true | .str _,.str _=>true | .byt _,.byt _=>true
 | .int _,.str _=>true | .str _,.int _=>true | .bl _,.str _=>true | .str _,.bl _=>true
 | _,_=>false
def rEq:R2:=λx y H Q=>MU x y=true/\Q (.bl (decide (x=y))) H
def rNe:R2:=λx y H Q=>MU x y=true/\Q (.bl (!decide (x=y))) H
theorem vO {i j:Int}:decide (V.int i=V.int j)=(i==j):=by
 rw[zaS]
 simp
theorem w9 {i j:Bool}:decide (V.bl i=V.bl j)=(i==j):=by
 rw[zaS]
 simp
theorem vN {i j:Str}:decide (V.str i=V.str j)=(i==j):=by
 rw[zaS]
 simp
theorem vP {i j:Array UInt8}:decide (V.byt i=V.byt j)=(i.toList==j.toList):=by
 rw[zaS]
 cases i
 cases j
 simp
section
variable {X:Cx} {a b c:Expr} {ta tb tc:TE} {pos:Pos}
theorem qT {pins:List (Addr×Obj)} {σ:St} {H:Hp} {s:Shared} {Q:VK} {k k':Bool} (I:qC X pins σ H s) (q:Q (.bl k) H) (e:k=k'):EP X pins σ Q (.bool k') s:=by
 subst e
 exact⟨.bl k,H,I,rfl,q⟩
theorem Qn:Jw X (compareOp .Eq) rEq:=by
 intro pins s σ H x y v u Q I rx ry h
 obtain⟨hs,q⟩:=h
 cases x with
 | non=>
   cases rx
   cases y with
   | non=>cases ry;exact PySem.EqNone.eq_none_none (qT I q (by simp))
   | bl j=>cases ry;exact PySem.EqNone.eq_none_bool (qT I q (by simp))
   | int j=>obtain⟨t',rfl⟩:=ry;exact PySem.EqNone.eq_none_int (qT I q (by simp))
   | str j=>obtain⟨t',rfl⟩:=ry;exact PySem.EqNone.eq_none_str (qT I q (by simp))
   | _=>exact absurd (show false=true from hs) tK
 | bl i=>
   cases rx
   cases y with
   | non=>cases ry;exact PySem.EqNone.eq_bool_none (qT I q (by simp))
   | bl j=>cases ry;exact eq_bool (qT I q w9)
   | str j=>obtain⟨t',rfl⟩:=ry;exact PySem.EqMixed.eq_bool_str (qT I q (by simp))
   | _=>exact absurd (show false=true from hs) tK
 | int i=>
   obtain⟨t,rfl⟩:=rx
   cases y with
   | non=>cases ry;exact PySem.EqNone.eq_int_none (qT I q (by simp))
   | int j=>obtain⟨t',rfl⟩:=ry;exact eq_int (qT I q vO)
   | str j=>obtain⟨t',rfl⟩:=ry;exact PySem.EqMixed.eq_int_str (qT I q (by simp))
   | _=>exact absurd (show false=true from hs) tK
 | str i=>
   obtain⟨t,rfl⟩:=rx
   cases y with
   | non=>cases ry;exact PySem.EqNone.eq_str_none (qT I q (by simp))
   | bl j=>cases ry;exact PySem.EqMixed.eq_str_bool (qT I q (by simp))
   | int j=>obtain⟨t',rfl⟩:=ry;exact PySem.EqMixed.eq_str_int (qT I q (by simp))
   | str j=>obtain⟨t',rfl⟩:=ry;exact eq_str (qT I q vN)
   | _=>exact absurd (show false=true from hs) tK
 | byt i=>
   obtain⟨t,rfl⟩:=rx
   cases y with
   | byt j=>obtain⟨t',rfl⟩:=ry;exact PySem.W.eq_bytes (qT I q vP)
   | _=>exact absurd (show false=true from hs) tK
 | _=>cases y<;>exact absurd (show false=true from hs) tK
theorem Xp:Jw X (compareOp .NotEq) rNe:=by
 intro pins s σ H x y v u Q I rx ry h
 obtain⟨hs,q⟩:=h
 cases x with
 | non=>
   cases rx
   cases y with
   | non=>cases ry;exact PySem.EqNone.ne_none_none (qT I q (by simp))
   | bl j=>cases ry;exact PySem.EqNone.ne_none_bool (qT I q (by simp))
   | int j=>obtain⟨t',rfl⟩:=ry;exact PySem.EqNone.ne_none_int (qT I q (by simp))
   | str j=>obtain⟨t',rfl⟩:=ry;exact PySem.EqNone.ne_none_str (qT I q (by simp))
   | _=>exact absurd (show false=true from hs) tK
 | bl i=>
   cases rx
   cases y with
   | non=>cases ry;exact PySem.EqNone.ne_bool_none (qT I q (by simp))
   | bl j=>cases ry;exact ne_bool (qT I q (congrArg not w9))
   | str j=>obtain⟨t',rfl⟩:=ry;exact PySem.EqMixed.ne_bool_str (qT I q (by simp))
   | _=>exact absurd (show false=true from hs) tK
 | int i=>
   obtain⟨t,rfl⟩:=rx
   cases y with
   | non=>cases ry;exact PySem.EqNone.ne_int_none (qT I q (by simp))
   | int j=>obtain⟨t',rfl⟩:=ry;exact ne_int (qT I q (congrArg not vO))
   | str j=>obtain⟨t',rfl⟩:=ry;exact PySem.EqMixed.ne_int_str (qT I q (by simp))
   | _=>exact absurd (show false=true from hs) tK
 | str i=>
   obtain⟨t,rfl⟩:=rx
   cases y with
   | non=>cases ry;exact PySem.EqNone.ne_str_none (qT I q (by simp))
   | bl j=>cases ry;exact PySem.EqMixed.ne_str_bool (qT I q (by simp))
   | int j=>obtain⟨t',rfl⟩:=ry;exact PySem.EqMixed.ne_str_int (qT I q (by simp))
   | str j=>obtain⟨t',rfl⟩:=ry;exact ne_str (qT I q (congrArg not vN))
   | _=>exact absurd (show false=true from hs) tK
 | byt i=>
   obtain⟨t,rfl⟩:=rx
   cases y with
   | byt j=>obtain⟨t',rfl⟩:=ry;exact PySem.W.ne_bytes (qT I q (congrArg not vP))
   | _=>exact absurd (show false=true from hs) tK
 | _=>cases y<;>exact absurd (show false=true from hs) tK
theorem QJ:Jw X (compareOp .Lt) (xu λi j=>.bl (decide (i < j))):=Kz λ_ _ _ _ _ _ _ q=>lt_int q
theorem vC:Jw X (compareOp .LtE) (xu λi j=>.bl (decide (i<=j))):=Kz λ_ _ _ _ _ _ _ q=>le_int q
theorem zm:Jw X (compareOp .Gt) (xu λi j=>.bl (decide (j < i))):=Kz λ_ _ _ _ _ _ _ q=>gt_int q
theorem xI:Jw X (compareOp .GtE) (xu λi j=>.bl (decide (j<=i))):=Kz λ_ _ _ _ _ _ _ q=>ge_int q
theorem kM:Jw X (compareOp .In) (λx y H Q=>∃i j,x=.str i/\y=.str j/\Q (.bl (!(Builtin.Str.occurrences j i 0 j.length 1).isEmpty)) H):=by
 intro pins s σ H x y v u Q I rx ry h
 obtain⟨i,j,rfl,rfl,q⟩:=h
 obtain⟨t,rfl⟩:=rx
 obtain⟨t',rfl⟩:=ry
 exact in_str (qT I q rfl)
theorem vA:Jw X (compareOp .IsNot) (λx y H Q=>y=.non/\Q (.bl (!decide (x=.non))) H):=by
 intro pins s σ H x y v u Q I rx ry h
 obtain⟨rfl,q⟩:=h
 cases ry
 refine isnot_none_gen (qT I q ?_)
 cases x<;>first
   | (cases rx;rfl)
   | (obtain⟨t,rfl⟩:=rx;rfl)
theorem qA (b:Expr) {op:CmpOp} (h:op≠.In:=by decide) (h2:op≠.NotIn:=by decide):behindInMarks op b=false:=by
 have e1:(op==CmpOp.In)=false:=by cases op<;>first | rfl | exact absurd rfl h
 have e2:(op==CmpOp.NotIn)=false:=by cases op<;>first | rfl | exact absurd rfl h2
 cases b<;>simp [behindInMarks,e1,e2]
theorem jQ {op:CmpOp} {r:R2} (ho:Jw X (compareOp op) r) (ha:JE X a ta) (hb:JE X b tb) (hm:behindInMarks op b=false):JE X (.Compare a [op] [b] pos) (YY r ta tb):=.of (by
 have ha:=ha.to
 have hb:=hb.to
 intro pins s σ H Q I h
 exact wpAny_Compare1 (Mb ha hb I h λv u s2 x y H2 I2 rx ry q=>ho pins s2 σ H2 x y v u Q I2 rx ry q) hm)
def zg (t:TE):TT:=λσ H Q=>t σ H λx H'=>∃k,x=.bl k/\Q k H'
theorem qt {op:CmpOp} {r:R2} (ho:Jw X (compareOp op) r) (ha:JE X a ta) (hb:JE X b tb) (hm:behindInMarks op b=false):JT X (.Compare a [op] [b] pos) (zg (YY r ta tb)):=.of (by
 have ha:=ha.to
 have hb:=hb.to
 intro pins s σ H Q I h
 refine wpAny_isTrue_Compare1 (ji (ha pins s σ H _ I h) λv s1 ⟨x,H1,I1,r1,q1⟩=>ji (hb pins s1 σ H1 _ I1 q1) λu s2 ⟨y,H2,I2,r2,q2⟩=>
   ji (ho pins s2 σ H2 x y v u _ I2 r1 r2 q2) λc s3 ⟨z,H3,I3,r3,k,e,q3⟩=>?_) hm
 subst e
 cases r3
 exact wpAny_truthy_bool ⟨H3,I3,q3⟩)
theorem Z4:(sizeLine:Nat) < 2^63:=by rw[sizeLine_eq];decide
theorem Yq:Jw X (binaryOp .Add) (λx y H Q=>∃i j,x=.str i/\y=.str j/\i.length+j.length<=sizeLine/\Q (.str (i++j)) H):=by
 intro pins s σ H x y v u Q I rx ry h
 obtain⟨i,j,rfl,rfl,hz,q⟩:=h
 obtain⟨t,rfl⟩:=rx
 obtain⟨t',rfl⟩:=ry
 exact add_str (λt' tk=>⟨.str (i++j),H,I.tok _,⟨_,rfl⟩,q⟩) hz
theorem Qm {x:V} {us:List Value} (r:qE [x] us):∃u,us=[u]/\qL x u:=by
 cases r with
 | cons r1 r2=>cases r2;exact⟨_,rfl,r1⟩
theorem UJ {x y:V} {us:List Value} (r:qE [x,y] us):∃u w',us=[u,w']/\qL x u/\qL y w':=by
 cases r with
 | cons r1 r2=>
   cases r2 with
   | cons r3 r4=>cases r4;exact⟨_,_,rfl,r1,r3⟩
theorem XE (hc:X.calm=true):j8 X (.builtin "max") (λxs H Q=>∃i j,xs=[.int i,.int j]/\Q (.int (if j > i then j else i)) H):=by
 intro pins s σ H xs us Q I r h
 obtain⟨i,j,rfl,q⟩:=h
 obtain⟨u,w',rfl,⟨t,rfl⟩,⟨t',rfl⟩⟩:=UJ r
 refine max_two_ints (I.ok.hd hc) λh' tk k=>⟨_,H,I.kept k,?_,q⟩
 by_cases hj:j > i
 . rw[if_pos hj,if_pos hj];exact⟨_,rfl⟩
 . rw[if_neg hj,if_neg hj];exact⟨_,rfl⟩
theorem yv (hc:X.calm=true):j8 X (.builtin "min") (λxs H Q=>∃i j,xs=[.int i,.int j]/\Q (.int (if j < i then j else i)) H):=by
 intro pins s σ H xs us Q I r h
 obtain⟨i,j,rfl,q⟩:=h
 obtain⟨u,w',rfl,⟨t,rfl⟩,⟨t',rfl⟩⟩:=UJ r
 refine min_two_ints (I.ok.hd hc) λh' tk k=>⟨_,H,I.kept k,?_,q⟩
 by_cases hj:j < i
 . rw[if_pos hj,if_pos hj];exact⟨_,rfl⟩
 . rw[if_neg hj,if_neg hj];exact⟨_,rfl⟩
theorem XF:j8 X (.type "int") (λxs H Q=>(∃i,xs=[.int i]/\Q (.int i) H)\/∃k,xs=[.bl k]/\Q (.int (if k then 1 else 0)) H):=by
 intro pins s σ H xs us Q I r h
 rcases h with ⟨i,rfl,q⟩ | ⟨k,rfl,q⟩
 . obtain⟨u,rfl,t,rfl⟩:=Qm r
   exact call_int_int ⟨.int i,H,I,⟨_,rfl⟩,q⟩
 . obtain⟨u,rfl,r1⟩:=Qm r
   cases r1
   exact call_int_bool ⟨.int (if k then 1 else 0),H,I.tok _,⟨_,rfl⟩,q⟩
end
structure UE (h:Heap) (x dx C:Addr) (mA:Str->Option Value):Prop where
 obj:h.get? x=some (zbp C dx)
 ns:h.Ns1 dx mA
 ne:dx≠x
theorem Z3 {h:Heap} {dx:Addr} {mA:Str->Option Value} (n:h.Ns1 dx mA):∃od,h.get? dx=some od/\∀name,zcz name od=some (mA name):=by
 obtain⟨o,es,ep,ho,hd,hk,_,hm⟩:=n
 refine⟨o,ho,λname=>?_⟩
 have e:=hm name
 unfold nsFind findBy at e
 rw[<-Array.find?_toList]at e
 unfold zcz
 rw[hd]
 dsimp only
 split
 . rename_i y q
   rw[q]at e
   exact congrArg some e
 . rename_i q
   rw[q]at e
   have a:es.toList.any (·.refKey)=false:=by
     rw[zdx]
     intro y hy
     obtain⟨z,t,hkey⟩:=hk y (Array.mem_toList_iff.mp hy)
     simp [DictEntry.refKey,hkey]
   have a':¬es.toList.any (·.refKey)=true:=by rw[a];exact tK
   rw[if_neg a']
   exact congrArg some e
theorem UE.look {h:Heap} {x dx C:Addr} {mA:Str->Option Value} (I:UE h x dx C mA):∃od,PySem.W.InstAt h x (zbp C dx) C (some od)/\∀name,zcz name od=some (mA name):=
 let ⟨od,ho,hl⟩:=Z3 I.ns
 ⟨od,⟨I.obj,rfl,rfl,ho⟩,hl⟩
section
variable {prog:Program} {w:World} {A:Around} {E:Value->Shared->Prop} {s:Shared} {K:PySem.W.Frag} {x dx C f:Addr} {mA:Str->Option Value} {name:Str} {v:Value}
theorem Ge {expr:Bool} {Q:Value->Shared->Prop} (X:K.In s.heap) (I:UE s.heap x dx C mA) (hg:zbs K C name=true) (hh:zbd K C=true)
   (ha:tP K (.ref C) name=some none) (hv:mA name=some v) (hv':zdE v=true) (h:Q v {s with toks:=s.toks+1}):
   wpAny (model prog w) A (getAttr (.ref x) name expr) Q E s:=by
 obtain⟨od,J,hl⟩:=I.look
 exact PySem.W.get_value X J (zct hg).1 (PySem.W.findObj_own hh ha rfl (by rw[hl,hv])) hv' h
theorem wM {pl:Sem Bool} {Q:Value×List Value->Shared->Prop} (X:K.In s.heap) (I:UE s.heap x dx C mA) (hg:zbs K C name=true)
   (hf:tP K (.ref C) name=some (some (.ref f))) (ht:zaI K (.ref f)=true) (hv:mA name=none) (h:Q (.ref f,[.ref x]) s):
   wpAny (model prog w) A (getMethod (.ref x) name pl) Q E s:=by
 obtain⟨od,J,hl⟩:=I.look
 exact PySem.W.method_fn X J (zct hg).1 (zct hg).2 hf (beq_iff_eq.mp ht) (by show (zcz name od).map (·.isSome)=some false;rw[hl,hv];rfl) h
theorem uR {ns:List Str} {Q:Unit->Shared->Prop} (X:K.In s.heap) (I:UE s.heap x dx C mA)
   (hs:tP K (.ref C) "__setattr__"=some (some (.builtin "object.__setattr__"))) (hp:zbJ K C=true) (ht:zde K C name=some none) (hh:zbd K C=true)
   (hw:PySem.Within mA ns) (hsz:ns.length<=sizeLine)
   (h:∀h',UE h' x dx C (λy=>if y=name then some v else mA y)->Heap.SameBut dx s.heap h'->Q () {s with heap:=h',toks:=s.toks+2}):
   wpAny (model prog w) A (setAttr (.ref x) name v) Q E s:=by
 obtain⟨od,J,hl⟩:=I.look
 refine PySem.W.set_plain X J hs (PySem.W.osa_open (s:={s with toks:=s.toks+1}) (r:=none) X J hp ht λb=>?_)
 obtain⟨cd,hc,hd'⟩:=PySem.W.any_some hh
 have hx:s.heap.get? x=some ⟨.ref C,some dx,.plain,#[]⟩:=I.obj
 refine wpAny_bind (wpAny_pure (wpAny_bind (wpAny_bind (wpAny_loadPart hx (wpAny_bind (PySem.W.Looks.here (s:={s with toks:=s.toks+1}) (PySem.W.looks_clsIn X hc) ?_))))))
 rw[hd']
 refine wpAny_pure (a:=some dx) (wpAny_bind (wpAny_pure (wpAny_bind ?_)))
 refine wpAny_nsSet1 (s:={s with toks:=s.toks+1}) I.ns λh' hn2 hs2=>?_
 obtain⟨oD,esD,epD,hoD,hdD,hcD⟩:=hn2.count (PySem.Within.cons name v hw)
 refine wpAny_bind (wpAny_lookBehind hoD (by rw[hdD];exact pastItsLine_dict (tV hcD (by rw[zat];omega))) ?_)
 exact wpAny_pure (h _ ⟨(hs2.2 _ (Ne.symm I.ne)).trans I.obj,hn2,I.ne⟩ hs2)
theorem wa {R:Result->Shared->Prop} {vs:List Value} {kw:List (Str×Value)} (X:K.In s.heap) (hm:zbZ K C=true)
   (hi:tP K (.ref C) "__init__"=some (some (.ref f))) (hf:zdH K (.ref f)=some (.type "function"))
   (h:codeAny (model prog w) (A.under (.builtin "type.__call__" ⟨.ref C::vs,kw⟩)) (.call (.ref f) ⟨.ref (s.heap.objs.size+1)::vs,kw⟩) (PySem.W.InitBack (s.heap.objs.size+1) R)
     {s with heap:=(s.heap.push zaP).push (zbp C s.heap.objs.size)}):
   codeAny (model prog w) A (.call (.ref C) ⟨vs,kw⟩) R s:=by
 obtain⟨hh,g,d,t,os⟩:=s
 exact PySem.W.make_core (PySem.W.makes_of X hm) (zdn X hi) (λself=>PySem.W.bind_fn X self hf) (.inl rfl) h
end
def Jj (f:Str) (v:V):List (Str×V)->List (Str×V)
 | []=>[(f,v)]
 | (g,x)::r=>if g=f then (g,v)::r else (g,x)::Jj f v r
theorem zo (f g:Str) (v:V):∀fs:List (Str×V),(Jj f v fs).lookup g=if g=f then some v else fs.lookup g
 | []=>by
   show zbc g [(f,v)]=_
   by_cases h:g=f
   . have hb:(g==f)=true:=beq_iff_eq.mpr h
     simp only[zbc,hb,if_pos h]
   . have hb:(g==f)=false:=beq_eq_false_iff_ne.mpr h
     simp only[zbc,hb,if_neg h]
 | (k,x)::r=>by
   have ih:=zo f g v r
   rw[show Jj f v ((k,x)::r)=(if k=f then (k,v)::r else (k,x)::Jj f v r) from rfl]
   by_cases hk:k=f
   . rw[if_pos hk]
     by_cases h:g=k
     . have hb:(g==k)=true:=beq_iff_eq.mpr h
       simp only[zbc,hb,if_pos (h.trans hk)]
     . have hb:(g==k)=false:=beq_eq_false_iff_ne.mpr h
       simp only[zbc,hb,if_neg (λe:g=f=>h (e.trans hk.symm))]
   . rw[if_neg hk]
     by_cases h:g=k
     . have hb:(g==k)=true:=beq_iff_eq.mpr h
       simp only[zbc,hb,if_neg (λe:g=f=>hk (h.symm.trans e))]
     . have hb:(g==k)=false:=beq_eq_false_iff_ne.mpr h
       simp only[zbc,hb]
       exact ih
theorem Z5 (f:Str) (v:V):∀fs:List (Str×V),f∈(Jj f v fs).map (·.1)/\∀g,g∈fs.map (·.1)->g∈(Jj f v fs).map (·.1)
 | []=>⟨by simp [Jj],λg h=>by simp at h⟩
 | (k,x)::r=>by
   obtain⟨i1,i2⟩:=Z5 f v r
   rw[show Jj f v ((k,x)::r)=(if k=f then (k,v)::r else (k,x)::Jj f v r) from rfl]
   by_cases hk:k=f
   . rw[if_pos hk]
     subst hk
     exact⟨by simp,λg h=>by simpa using h⟩
   . rw[if_neg hk]
     refine⟨?_,λg h=>?_⟩
     . rw[tS]
       exact tW _ i1
     . rw[tS]at h ⊢
       rcases zaa.mp h with e | e
       . exact zaa.mpr (.inl e)
       . exact tW _ (i2 g e)
theorem zp (f:Str) (v:V):∀fs:List (Str×V),(Jj f v fs).length<=fs.length+1
 | []=>by simp [Jj]
 | (k,x)::r=>by
   have ih:=zp f v r
   rw[show Jj f v ((k,x)::r)=(if k=f then (k,v)::r else (k,x)::Jj f v r) from rfl]
   by_cases hk:k=f
   . rw[if_pos hk,zat,zat];omega
   . rw[if_neg hk,zat,zat];omega
theorem Jr.some_of {v:V} {o:Option Value} (r:Jr (some v) o):∃u,o=some u/\qL v u:=by
 cases o with
 | none=>exact(show False from r).elim
 | some u=>exact⟨u,rfl,r⟩
theorem Jr.none_of {o:Option Value} (r:Jr none o):o=none:=by
 cases o with
 | none=>rfl
 | some u=>exact(show False from r).elim
theorem XB {v:V} {u:Value} (r:qL v u):zdE u=true:=by
 cases v with
 | non=>cases (show u=Value.none from r);rfl
 | bl b=>cases (show u=Value.bool b from r);rfl
 | int i=>obtain⟨t,e⟩:=(show ∃t,u=Value.int i t from r);cases e;rfl
 | str x=>obtain⟨t,e⟩:=(show ∃t,u=Value.str x t from r);cases e;rfl
 | byt b=>obtain⟨t,e⟩:=(show ∃t,u=Value.bytes b t from r);cases e;rfl
 | flt b=>obtain⟨t,e⟩:=(show ∃t,u=Value.float b t from r);cases e;rfl
 | ref a=>cases (show u=Value.ref a from r);rfl
 | ty n=>cases (show u=Value.type n from r);rfl
section
variable {P:Program} {w:World} {H H':Hp} {h h':Heap} {a C dx:Addr} {fs fs':List (Str×V)}
theorem zN (hok:Je P w H h) (e:H a=some (.ins C dx fs)):∃mA,UE h a dx C mA/\(∀f,Jr (fs.lookup f) (mA f))/\PySem.Within mA (fs.map (·.1))/\fs.length<=1000/\H dx=some (.own a):=by
 obtain⟨d,z,ne,ob,mA,n,r,q⟩:=(show qM P w H h a (.ins C dx fs) from hok a _ e)
 exact⟨mA,⟨ob,n,ne⟩,r,q,z,d⟩
end
structure YX (K:PySem.W.Frag) (C:Addr):Prop where
 pg:zbs K C Str.empty=true
 hd:zbd K C=true
 po:zbJ K C=true
 sa:tP K (.ref C) "__setattr__"=some (some (.builtin "object.__setattr__"))
theorem YX.get {K:PySem.W.Frag} {C:Addr} (c:YX K C) (f:Str):zbs K C f=true:=c.pg
def j6 (K:PySem.W.Frag) (C:Addr) (f:Str):Prop:=tP K (.ref C) f=some none
theorem j6.taker {K:PySem.W.Frag} {C:Addr} {f:Str} (n:j6 K C f):zde K C f=some none:=by
 unfold zde
 rw[show tP K (.ref C) f=some none from n]
 rfl
structure Con (K:PySem.W.Frag) (C:Addr) (f:Str) (v:V) (u:Value):Prop where
 at_:tP K (.ref C) f=some (some u)
 rel:qL v u
 get:zbv K u "__get__"=some none
 cp:PySem.W.copiedNames.contains f=false
structure Y7 (K:PySem.W.Frag) (C:Addr) (m:Str) (f:Addr):Prop where
 at_:tP K (.ref C) m=some (some (.ref f))
 fn:zaI K (.ref f)=true
 kp:zaD K (.ref f)=true
section
variable {X:Cx} {pins:List (Addr×Obj)} {σ:St} {H:Hp} {s:Shared} {a C dx:Addr} {fs:List (Str×V)} {f:Str} {v:V} {A:Around} {E:Value->Shared->Prop}
theorem Up {b:Bool} {Q:Value->Shared->Prop} (I:qC X pins σ H s) (e:H a=some (.ins C dx fs)) (c:YX X.K C) (n:j6 X.K C f) (l:fs.lookup f=some v)
   (h:∀u s',qC X pins σ H s'->qL v u->Q u s'):wpAny (model X.prog X.w) A (getAttr (.ref a) f b) Q E s:=by
 obtain⟨mA,O,r,_,_,_⟩:=zN I.hok e
 obtain⟨u,hu,ru⟩:=Jr.some_of (v:=v) (o:=mA f) (by rw[<-l];exact r f)
 exact Ge I.kIn O (c.get f) c.hd n hu (XB ru) (h u _ (I.tok _) ru)
theorem Qq {m:Str} {g:Addr} {pl:Sem Bool} {Q:Value×List Value->Shared->Prop} (I:qC X pins σ H s) (e:H a=some (.ins C dx fs)) (c:YX X.K C) (k:Y7 X.K C m g) (l:fs.lookup m=none)
   (h:Q (.ref g,[.ref a]) s):wpAny (model X.prog X.w) A (getMethod (.ref a) m pl) Q E s:=by
 obtain⟨mA,O,r,_,_,_⟩:=zN I.hok e
 have hn:mA m=none:=Jr.none_of (by rw[<-l];exact r m)
 exact wM I.kIn O (c.get m) k.at_ k.fn hn h
theorem VU {y:V} {u:Value} {Q:Unit->Shared->Prop} (I:qC X pins σ H s) (e:H a=some (.ins C dx fs)) (c:YX X.K C) (n:j6 X.K C f) (hl:fs.length < 1000) (ry:qL y u)
   (h:∀s',qC X pins σ (upd H a (.ins C dx (Jj f y fs))) s'->Q () s'):wpAny (model X.prog X.w) A (setAttr (.ref a) f u) Q E s:=by
 obtain⟨mA,O,r,wi,_,ho⟩:=zN I.hok e
 have hz:(fs.map (·.1)).length<=sizeLine:=by rw[tj,sizeLine_eq];omega
 refine uR I.kIn O c.sa c.po n.taker c.hd wi hz λh' O' sb=>h _ ?_
 have hd:∃o,h'.get? dx=some o:=let ⟨o,_,_,e',_⟩:=O'.ns;⟨o,e'⟩
 refine I.write (x:=a) (e:=dx) (by rw[e];exact True.intro) (.inr ho) (λb q hb z=>(sb.2 b hb).trans z) hd ?_
 refine⟨by rw[qi O.ne];exact ho,?_,O.ne,O'.obj,_,O'.ns,λg=>?_,λg hg=>?_⟩
 . have:=zp f y fs;omega
 . show Jr ((Jj f y fs).lookup g) (if g=f then some u else mA g)
   rw[zo]
   by_cases q:g=f
   . rw[if_pos q,if_pos q];exact ry
   . rw[if_neg q,if_neg q];exact r g
 . by_cases q:g=f
   . rw[q];exact(Z5 f y fs).1
   . refine(Z5 f y fs).2 g (wi g λz=>hg ?_)
     show (if g=f then some u else mA g)=none
     rw[if_neg q];exact z
theorem qC.made (I:qC X pins σ H s):qC X pins σ (upd (upd H s.heap.objs.size (.own (s.heap.objs.size+1))) (s.heap.objs.size+1) (.ins C s.heap.objs.size []))
   {s with heap:=(s.heap.push zaP).push (zbp C s.heap.objs.size)}:=by
 have e1:(s.heap.push zaP).get? s.heap.objs.size=some zaP:=tU s.heap rfl
 have e2:((s.heap.push zaP).push (zbp C s.heap.objs.size)).get? (s.heap.objs.size+1)=some (zbp C s.heap.objs.size):=by
   have:=tU (s.heap.push zaP) (o:=zbp C s.heap.objs.size) rfl
   rwa [zbe]at this
 have e3:(s.heap.push zaP).Ns s.heap.objs.size (λ_=>none):=⟨zaP,#[],_,e1,rfl,(λe he=>absurd he (by simp)),λ_=>rfl⟩
 have I1:=I.laid (a:=s.heap.objs.size) (o:=.own (s.heap.objs.size+1)) (h':=s.heap.push zaP) (t':=s.toks) (λb u q=>tz _ q) (tw _) ⟨_,e1⟩
 refine I1.laid (a:=s.heap.objs.size+1) (o:=.ins C s.heap.objs.size []) (t':=s.toks) (λb u q=>tz _ q) (zcZ (zbe _ _)) ?_
 have ne:s.heap.objs.size≠s.heap.objs.size+1:=tR (zaT _)
 refine⟨by rw[qi ne,qe],zap _,ne,e2,λ_=>none,(Heap.Ns1.of_empty e3).at λo q=>tz _ q,λ_=>True.intro,λy hy=>absurd rfl hy⟩
theorem vT {prog:Program} {w:World} {env:Env} {e:Expr} {f:Str} {pos:Pos} {s:Shared} {Q:Value->Shared->Prop} (hb:attributeBase e f env (eval e env)=eval e env)
   (h:wpAny (model prog w) A (eval e env) (λo s₁=>wpAny (model prog w) A (getAttr o f true) Q E s₁) E s):wpAny (model prog w) A (eval (.Attribute e f pos) env) Q E s:=
 Attribute_any_ h (by rw[arm_eval_Attribute,hb])
end
def qbp (K:PySem.W.Frag) (ta:TE) (f:Str):TE:=λσ H Q=>ta σ H λx H1=>∃a C dx fs v,x=.ref a/\H1 a=some (.ins C dx fs)/\YX K C/\j6 K C f/\fs.lookup f=some v/\Q v H1
def qbE (K:PySem.W.Frag) (ta tv:TE) (f:Str):TS:=λD σ H=>tv σ H λy H1=>ta σ H1 λx H2=>∃a C dx fs,x=.ref a/\H2 a=some (.ins C dx fs)/\YX K C/\j6 K C f/\fs.length < 1000/\
 D.nx σ (upd H2 a (.ins C dx (Jj f y fs)))
section
variable {X:Cx} {o e value:Expr} {f:Str} {pos pos' tpos:Pos} {ta tv:TE}
theorem QO (he:JE X e ta) (hb:attributeBase e f X.env (eval e X.env)=eval e X.env):JE X (.Attribute e f pos) (qbp X.K ta f):=.of (by
 have he:=he.to
 intro pins s σ H Q I h
 refine vT hb (ji (he pins s σ H _ I h) λu s1 ⟨x,H1,I1,rx,a,C,dx,fs,v,ex,ea,c,n,l,q⟩=>?_)
 subst ex
 obtain rfl:u=Value.ref a:=rx
 exact Up I1 ea c n l λu' s2 I2 ru=>⟨v,H1,I2,ru,q⟩)
theorem Ws (ha:JE X o ta) (hv:JE X value tv) (hs:swapsWith value (some (.Attribute o f pos')) pos.line X.env=pure false):JS X (.Assign [.Attribute o f pos'] value pos) (qbE X.K ta tv f):=.of (by
 have ha:=ha.to
 have hv:=hv.to
 intro pins s σ H D I h
 refine plainObj_wpAny_Assign_Attribute (ji (hv pins s σ H _ I h) λu s1 ⟨y,H1,I1,ry,q⟩=>ji (ha pins s1 σ H1 _ I1 q) λov s2 ⟨x,H2,I2,rx,a,C,dx,fs,ex,ea,c,n,l,q2⟩=>?_) hs
 subst ex
 obtain rfl:ov=Value.ref a:=rx
 exact VU I2 ea c n l ry λs3 I3=>⟨σ,_,I3,q2⟩)
end
section
variable {X:Cx} {pins:List (Addr×Obj)} {σ:St} {H:Hp} {s:Shared} {A:Around} {E:Value->Shared->Prop} {Q:Value->Shared->Prop} {c:Value} {b:Bool}
inductive Jv (K:PySem.W.Frag) (H:Hp):V->Value->Prop where
 | non:Jv K H .non (.type "NoneType")
 | bl (x:Bool):Jv K H (.bl x) (.type "bool")
 | int (i:Int):Jv K H (.int i) (.type "int")
 | str (x:Str):Jv K H (.str x) (.type "str")
 | flt (x:UInt64):Jv K H (.flt x) (.type "float")
 | lst {a:Addr} {xs:List V} (e:H a=some (.lst xs)):Jv K H (.ref a) (.type "list")
 | frz {a:Addr} {o:Obj} {xs:List V} (e:H a=some (.frz o (.lst xs))):Jv K H (.ref a) (.type "list")
 | tup {a:Addr} {xs:List V} (e:H a=some (.tup xs)):Jv K H (.ref a) (.type "tuple")
 | dK {a:Addr} {kvs:List (qF×V)} (e:H a=some (.dK kvs)):Jv K H (.ref a) (.type "dict")
 | dT {a:Addr} {kvs:List (List qF×V)} (e:H a=some (.dT kvs)):Jv K H (.ref a) (.type "dict")
 | ins {a C dx:Addr} {fs:List (Str×V)} (e:H a=some (.ins C dx fs)) (cl:YX K C) (ha:tP K (.ref C) "__class__"=some (some (.builtin "object.__class__")))
     (hn:zbv K (.builtin "object.__class__") "__get__"=some (some (.builtin "getset_descriptor.__get__"))) (htk:zca K (.builtin "object.__class__")=some true)
     (hm:zbx K C (.type "object")=some true):Jv K H (.ref a) (.ref C)
theorem k9 {x:V} {u t:Value} (I:qC X pins σ H s) (rx:qL x u) (ty:Jv X.K H x t) (e:tZ X.K t c=some b) (h:∀tk,Q (.bool b) {s with toks:=tk}):
   wpAny (model X.prog X.w) A (call (.builtin "isinstance") [u,c]) Q E s:=by
 cases ty with
 | non=>cases (show u=Value.none from rx);exact zaL PySem.W.kitx_none I.kIn True.intro e (λz=>nomatch z) h
 | bl y=>cases (show u=Value.bool y from rx);exact zaL PySem.W.kitx_bool I.kIn True.intro e (λz=>nomatch z) h
 | int i=>obtain⟨t,q⟩:=(show ∃t,u=Value.int i t from rx);cases q;exact zaL PySem.W.kitx_int I.kIn True.intro e (λz=>nomatch z) h
 | str y=>obtain⟨t,q⟩:=(show ∃t,u=Value.str y t from rx);cases q;exact zaL PySem.W.kitx_str I.kIn True.intro e (λz=>nomatch z) h
 | flt y=>obtain⟨t,q⟩:=(show ∃t,u=Value.float y t from rx);cases q;exact zaL PySem.W.kitx_float I.kIn True.intro e (λz=>nomatch z) h
 | @lst a xs ea=>
   cases (show u=Value.ref a from rx)
   obtain⟨_,_,n,_,h1⟩:=(show qM X.prog X.w H s.heap a (.lst xs) from I.hok a _ ea)
   exact zaL zdy I.kIn ⟨_,h1,rfl⟩ e (λz=>nomatch z) h
 | @frz a ob xs ea=>
   cases (show u=Value.ref a from rx)
   obtain⟨_,_,_,n,_,h1⟩:=(show qM X.prog X.w H s.heap a (.frz ob (.lst xs)) from I.hok a _ ea)
   exact zaL zdy I.kIn ⟨_,h1,rfl⟩ e (λz=>nomatch z) h
 | @tup a xs ea=>
   cases (show u=Value.ref a from rx)
   obtain⟨_,_,_,p⟩:=(show qM X.prog X.w H s.heap a (.tup xs) from I.hok a _ ea)
   obtain⟨o,h1,h2,_⟩:=p
   exact zaL PySem.W.kitx_tuple I.kIn ⟨o,h1,h2⟩ e (λz=>nomatch z) h
 | @dK a kvs ea=>
   cases (show u=Value.ref a from rx)
   obtain⟨_,_,vs,_,p⟩:=(show qM X.prog X.w H s.heap a (.dK kvs) from I.hok a _ ea)
   obtain⟨o,es,ep,h1,h2,_⟩:=p
   exact zaL zdz I.kIn ⟨o,h1,h2.1⟩ e (λz=>nomatch z) h
 | @dT a kvs ea=>
   cases (show u=Value.ref a from rx)
   obtain⟨_,_,xs,_,o,es,ep,h1,h2,_⟩:=(show qM X.prog X.w H s.heap a (.dT kvs) from I.hok a _ ea)
   exact zaL zdz I.kIn ⟨o,h1,h2.1⟩ e (λz=>nomatch z) h
 | @ins a C dx fs ea cl ha hn htk hm=>
   cases (show u=Value.ref a from rx)
   obtain⟨mA,O,_⟩:=zN I.hok ea
   obtain⟨od,J,_⟩:=O.look
   exact zaL (PySem.W.kitx_own (cl.get _) cl.hd ha hn htk hm) I.kIn J e (λz=>nomatch z) h
end
structure qN (k:Nat) (A:Around):Prop where
 hd:A.handled=none
 dp:A.depth+3*k+5 < recursionLimit
 un:A.units+16*k+200 < cLine
 gd:A.guards=some []
theorem qN.mono {j k:Nat} {A:Around} (r:qN k A) (h:j<=k):qN j A:=⟨r.hd,by have:=r.dp;omega,by have:=r.un;omega,r.gd⟩
theorem qN.deeper {k:Nat} {A:Around} (r:qN (k+1) A) (env:Env):qN k (A.deeper env):=
 ⟨r.hd,by have:=r.dp;show A.depth+1+3*k+5 < _;omega,by have:=r.un;show A.units+3+16*k+200 < _;omega,r.gd⟩
theorem Uj {A:Around} {C:Addr} {us:List Value} {kw:List (Str×Value)}:(A.under (.builtin "type.__call__" ⟨.ref C::us,kw⟩)).depth=A.depth+1:=by
 first | rfl | simp [Around.under,Code.weight,Code.isCreation,Code.isGuard,Code.isCaller,Code.frames,Code.isFrame,guardIds]
theorem Ui {A:Around} {C:Addr} {us:List Value} {kw:List (Str×Value)}:(A.under (.builtin "type.__call__" ⟨.ref C::us,kw⟩)).units=A.units+1:=by
 first | rfl | simp [Around.under,Code.cUnits,Code.frames,Code.isFrame]
theorem qN.make {k:Nat} {A:Around} (r:qN (k+1) A) (C:Addr) (us:List Value) (kw:List (Str×Value)):qN k (A.under (.builtin "type.__call__" ⟨.ref C::us,kw⟩)):=
 ⟨r.hd,by have:=r.dp;rw[Uj];omega,by have:=r.un;rw[Ui];omega,(by have:=r.gd;first | exact this | simpa [Around.under,Code.isGuard,guardIds] using this)⟩
theorem qN.depth {k:Nat} {A:Around} (r:qN k A):A.depth < recursionLimit:=by have:=r.dp;omega
theorem qN.units {k:Nat} {A:Around} (r:qN k A):A.units+64 < cLine:=by have:=r.un;omega
def QD:TA:=λ_ H Q=>Q [] H
def jA (ta:TE) (tr:TA):TA:=λσ H Q=>ta σ H λx H1=>tr σ H1 λxs H2=>Q (x::xs) H2
section
variable {X:Cx} {e:Expr} {es:List Expr} {te:TE} {t:TA} {pos:Pos}
theorem qf:JA X [] QD:=.of (by
 exact λ_ _ _ _ H Q I h=>Calls.spliced_nil ⟨[],H,I,.nil,h⟩)
theorem qd (ha:JE X e te) (hr:JA X es t) (hs:starEach (e::es) X.env=(false,eval e X.env)::starEach es X.env:=by rfl):JA X (e::es) (jA te t):=.of (by
 have ha:=ha.to
 have hr:=hr.to
 intro pos pins s σ H Q I h
 rw[hs]
 show wpAny _ _ (spliced ((false,eval e X.env)::backTo pos (starEach es X.env))) _ _ s
 refine Calls.spliced_cons (ji (ha pins s σ H _ I h) λu s1 ⟨x,H1,I1,r1,q1⟩=>?_)
 exact ji (hr pos pins s1 σ H1 _ I1 q1) λus s2 ⟨xs,H2,I2,r2,q2⟩=>⟨x::xs,H2,I2,.cons r1 r2,q2⟩)
def yJ (t:TA):TE:=λσ H Q=>t σ H λxs H1=>xs.length<=sizeLine/\∀p,H1 p=none->Q (.ref p) (upd H1 p (.tup xs))
def MH (t:TA):TE:=λσ H Q=>t σ H λxs H1=>xs.length<=sizeLine/\∀p,H1 p=none->Q (.ref p) (upd H1 p (.lst xs))
theorem Qz {x1} (h:JA X es t):JE X (.Tuple es x1 pos) (yJ t):=.of (by
 have h:=h.to
 intro pins s σ H Q I hq
 refine wpAny_Tuple_spliced (ji (h pos pins s σ H _ I hq) λus s1 ⟨xs,H1,I1,r,z,q⟩=>⟨by rw[<-r.length];exact z,?_⟩)
 have hf:H1 s1.heap.objs.size=none:=I1.hok.fresh (tw _)
 refine⟨.ref s1.heap.objs.size,upd H1 s1.heap.objs.size (.tup xs),I1.laid (t':=s1.toks) (λb u e=>tz _ e) (tw _) ?_,rfl,q _ hf⟩
 exact⟨z,us,r,⟨_,tU _ rfl,rfl,_,rfl⟩⟩)
theorem jE (h:JA X es t):JE X (.List es pos) (MH t):=.of (by
 have h:=h.to
 intro pins s σ H Q I hq
 refine wpAny_List_spliced (ji (h pos pins s σ H _ I hq) λus s1 ⟨xs,H1,I1,r,z,q⟩=>⟨by rw[<-r.length];exact z,?_⟩)
 have hf:H1 s1.heap.objs.size=none:=I1.hok.fresh (tw _)
 refine⟨.ref s1.heap.objs.size,upd H1 s1.heap.objs.size (.lst xs),I1.laid (t':=s1.toks) (λb u e=>tz _ e) (tw _) ?_,rfl,q _ hf⟩
 exact⟨z,us,0,r,tU _ rfl⟩)
end
abbrev Sp:=List V->Hp->VK->XK->Prop
abbrev WH:=List Env->Hp->Shared->XK->Value->Shared->Prop
structure UG (P:Program) (w:World) (K:PySem.W.Frag) (mg:Str->Option Value) (base:Heap) (A:Around) (outer:List Env) (s:Shared) (H:Hp):Prop where
 frames:A.frames=some outer
 mod:Mod K mg base
 bs:∀b o,base.get? b=some o->s.heap.get? b=some o/\H b=none
 bsz:base.objs.size<=s.heap.objs.size
 funs:s.heap.FunFrames base outer
 frf:∀b∈YD outer,H b=none
 hok:Je P w H s.heap
 bare:AllBare s.gens
def CE (outer:List Env) (P:Program) (w:World) (H:Hp) (s:Shared) (Q:VK) (u:Value) (s':Shared):Prop:=
 ∃v H',s'.os=s.os/\AllBare s'.gens/\Un (YD outer) [] H H' s.heap s'.heap/\Je P w H' s'.heap/\qL v u/\Q v H'
def CR (CX:WH) (outer:List Env) (P:Program) (w:World) (H:Hp) (s:Shared) (Q:VK) (E:XK) (r:Result) (s':Shared):Prop:=
 match r with
 | .ok (.ret u)=>CE outer P w H s Q u s'
 | .ok _=>False
 | .error e=>CX outer H s E e s'
structure qp (P:Program) (w:World) (K:PySem.W.Frag) (mg:Str->Option Value) (base:Heap) (CX:WH) (k:Nat) (f:Addr) (fd:FuncData) (ps:List Str) (sp:Sp):Prop where
 len:∀vs H Q E,sp vs H Q E->vs.length=ps.length
 run:∀(A:Around) (outer:List Env) (s:Shared) (H:Hp) (args:Args) (us:List Value) (vs:List V) (Q:VK) (E:XK),qN k A->UG P w K mg base A outer s H->BindsTo s fd args (ps.zip us)->qE vs us->sp vs H Q E->
   codeAny (model P w) A (.call (.ref f) args) (CR CX outer P w H s Q E) s
theorem UG.make {P:Program} {w:World} {K:PySem.W.Frag} {mg:Str->Option Value} {base:Heap} {A:Around} {outer:List Env} {s:Shared} {H:Hp} (e:UG P w K mg base A outer s H) (C:Addr) (us:List Value) (kw:List (Str×Value)):
   UG P w K mg base (A.under (.builtin "type.__call__" ⟨.ref C::us,kw⟩)) outer s H:=⟨by first | exact e.frames | (simpa [Around.under,Code.envs,Code.isFrame,pushEnvs] using e.frames),e.mod,e.bs,e.bsz,e.funs,e.frf,e.hok,e.bare⟩
section
variable {X:Cx} {pins:List (Addr×Obj)} {σ:St} {H:Hp} {s s':Shared}
theorem qC.env0 (I:qC X pins σ H s):UG X.prog X.w X.K X.mg X.base X.A X.stack s H:=
 ⟨I.ok.frames,I.ok.mod,I.bs,tV I.ok.bsz I.sz,I.stack,I.stkFree,I.hok,I.bare⟩
theorem qC.after {Q:VK} {u:Value} (I:qC X pins σ H s) (h:CE X.stack X.prog X.w H s Q u s'):EP X pins σ Q u s':=by
 obtain⟨v,H',os,bare,un,hok,r,q⟩:=h
 obtain⟨hh,g,d,t,os'⟩:=s'
 obtain rfl:os'=s.os:=os
 exact⟨v,H',I.call (h':=hh) (g':=g) (d':=d) (t':=t) (ch:=[]) un hok bare (λb z=>absurd z (by simp)),r,q⟩
end
def Xh (sp:Sp) (dvs:List V) (E:XK) (t:TA):TE:=λσ H Q=>t σ H λvs H1=>sp (vs++dvs) H1 Q E
def Xf (C:Addr) (m:Str) (sp:Sp) (dvs:List V) (E:XK) (ta:TE) (t:TA):TE:=λσ H Q=>ta σ H λx H1=>∃a dx fs,x=.ref a/\H1 a=some (.ins C dx fs)/\fs.lookup m=none/\
 t σ H1 λvs H2=>sp (x::(vs++dvs)) H2 Q E
def MG (C:Addr) (sp:Sp) (dvs:List V) (E:XK) (t:TA):TE:=λσ H Q=>t σ H λvs H1=>∀x dx,H1 x=none->H1 dx=none->dx≠x->
 sp (.ref x::(vs++dvs)) (upd (upd H1 dx (.own x)) x (.ins C dx [])) (λv H2=>v=.non/\Q (.ref x) H2) E
def jH (K:PySem.W.Frag) (fd:FuncData) (ps:List Str) (ds:List Value):Prop:=
 ∀(s:Shared) (us:List Value),K.In s.heap->(us++ds).length=ps.length->BindsTo s fd ⟨us,[]⟩ (ps.zip (us++ds))
theorem jH.all {K:PySem.W.Frag} {fd:FuncData} {ps:List Str} (h:∀us:List Value,us.length=ps.length->bindArgs fd ⟨us,[]⟩=pure (ps.zip us)):jH K fd ps []:=λs us _ hl=>by
 rw[zaz]at hl ⊢
 exact .of_eq (h us hl)
def QP (CX:WH) (X:Cx) (E:XK):Prop:=∀(pins:List (Addr×Obj)) (σ:St) (H:Hp) (s:Shared) (e:Value) (s':Shared),qC X pins σ H s->CX X.stack H s E e s'->X.xe e s'
section
variable {X:Cx} {CX:WH} {k:Nat} {f C:Addr} {fd:FuncData} {ps:List Str} {sp:Sp} {dvs:List V} {ds:List Value} {E:XK} {x m:Str} {p pos apos:Pos} {e o:Expr} {es:List Expr} {ta:TE} {t:TA}
theorem Zd {pins:List (Addr×Obj)} {σ:St} {H:Hp} {s:Shared} {Q:VK} {us:List Value} {vs:List V} (F:qp X.prog X.w X.K X.mg X.base CX k f fd ps sp) (hr:qN k X.A) (hb:jH X.K fd ps ds) (hd:qE dvs ds) (hx:QP CX X E)
   (I:qC X pins σ H s) (r:qE vs us) (h:sp (vs++dvs) H Q E):wpAny (model X.prog X.w) X.A (call (.ref f) us) (EP X pins σ Q) X.xe s:=by
 have r2:qE (vs++dvs) (us++ds):=r.append hd
 have hl:(us++ds).length=ps.length:=by rw[<-r2.length];exact F.len _ _ _ _ h
 refine wpAny_call (codeAny_mono (F.run X.A X.stack s H ⟨us,[]⟩ (us++ds) (vs++dvs) Q E hr I.env0 (hb s us I.kIn hl) r2 h) λr s' hq=>?_)
 cases r with
 | error e=>exact hx pins σ H s e s' I hq
 | ok fl=>
   cases fl with
   | ret u=>exact I.after hq
   | next=>exact False.elim hq
   | brk=>exact False.elim hq
   | cont=>exact False.elim hq
theorem Ks (F:qp X.prog X.w X.K X.mg X.base CX k f fd ps sp) (hr:qN k X.A) (hg:Gl X x) (hm:X.mg x=some (.ref f)) (hk:zaD X.K (.ref f)=true) (hb:jH X.K fd ps ds) (hd:qE dvs ds) (hx:QP CX X E)
   (ha:PA X (e::es) t) (hdb:(x==("__debug__":Str))=false:=by decide) (he:starEach (e::es) X.env=(false,eval e X.env)::starEach es X.env:=by rfl) (hpl:(backTo pos (starEach es X.env)).any (·.1)=false:=by rfl):
   PE X (.Call (.Name x p) (e::es) [] pos) (Xh sp dvs E t):=by
 intro pins s σ H Q I h
 refine wpAny_Call_Name_kw (ZD I hg hm ?_ hdb)
 refine zbh (h₀:=X.base) I.ok.mod.kin hk (ji (ha pos pins s σ H _ I h) λus s1 ⟨vs,H1,I1,r,q⟩=>⟨I1.kIn,?_⟩) he hpl
 exact Zd F hr hb hd hx I1 r q
theorem Kr {pl:Sem Bool} (he:PE X o ta) (c:YX X.K C) (hm:Y7 X.K C m f) (F:qp X.prog X.w X.K X.mg X.base CX k f fd ps sp) (hr:qN k X.A) (hb:jH X.K fd ps ds) (hd:qE dvs ds) (hx:QP CX X E) (ha:PA X (e::es) t)
   (hst:starEach (e::es) X.env=(false,eval e X.env)::starEach es X.env:=by rfl) (hpl:(backTo pos (starEach es X.env)).any (·.1)=false:=by rfl)
   (ht:eval (.Call (.Attribute o m apos) (e::es) [] pos) X.env=(do
     let ov <-eval o X.env
     standAt apos.atName
     let (f,first) <-holding [ov] (getMethod ov m pl)
     callWith pos f first (backTo pos (starEach (e::es) X.env)) (backToKw pos (keywordEach [] X.env))):=by rfl):
   PE X (.Call (.Attribute o m apos) (e::es) [] pos) (Xf C m sp dvs E ta t):=by
 intro pins s σ H Q I h
 refine zbG (pl:=pl) (ji (he pins s σ H _ I h) λu s1 ⟨x,H1,I1,rx,a,dx,fs,ex,ea,l,q⟩=>?_) ht
 subst ex
 obtain rfl:u=Value.ref a:=rx
 refine Qq I1 ea c hm l ?_
 refine zbh (first:=[.ref a]) (h₀:=X.base) I.ok.mod.kin hm.kp (ji (ha pos pins s1 σ H1 _ I1 q) λus s2 ⟨vs,H2,I2,r,q2⟩=>⟨I2.kIn,?_⟩) hst hpl
 exact Zd (us:=.ref a::us) (vs:=.ref a::vs) F hr hb hd hx I2 (.cons rfl r) q2
theorem K7 {pl:Sem Bool} (he:JE X o ta) (c:YX X.K C) (hm:Y7 X.K C m f) (F:qp X.prog X.w X.K X.mg X.base CX k f fd ps sp) (hr:qN k X.A) (hb:jH X.K fd ps ds) (hd:qE dvs ds) (hx:QP CX X E) (ha:JA X (e::es) t) (hst:starEach (e::es) X.env=(false,eval e X.env)::starEach es X.env:=by rfl) (hpl:(backTo pos (starEach es X.env)).any (·.1)=false:=by rfl) (ht:eval (.Call (.Attribute o m apos) (e::es) [] pos) X.env=(do
     let ov <-eval o X.env
     standAt apos.atName
     let (f,first) <-holding [ov] (getMethod ov m pl)
     callWith pos f first (backTo pos (starEach (e::es) X.env)) (backToKw pos (keywordEach [] X.env))):=by rfl):JE X (.Call (.Attribute o m apos) (e::es) [] pos) (Xf C m sp dvs E ta t):=.of (Kr he.to c hm F hr hb hd hx ha.to hst hpl ht)
theorem xA {pl:Sem Bool} (he:PE X o ta) (c:YX X.K C) (hm:Y7 X.K C m f) (F:qp X.prog X.w X.K X.mg X.base CX k f fd ps sp) (hr:qN k X.A) (hb:jH X.K fd ps ds) (hd:qE dvs ds) (hx:QP CX X E)
   (ht:eval (.Call (.Attribute o m apos) [] [] pos) X.env=(do
     let ov <-eval o X.env
     standAt apos.atName
     let (f,first) <-holding [ov] (getMethod ov m pl)
     callWith pos f first (backTo pos (starEach [] X.env)) (backToKw pos (keywordEach [] X.env))):=by rfl):
   PE X (.Call (.Attribute o m apos) [] [] pos) (Xf C m sp dvs E ta QD):=by
 intro pins s σ H Q I h
 refine zbG (pl:=pl) (ji (he pins s σ H _ I h) λu s1 ⟨x,H1,I1,rx,a,dx,fs,ex,ea,l,q⟩=>?_) ht
 subst ex
 obtain rfl:u=Value.ref a:=rx
 refine Qq I1 ea c hm l ?_
 exact zcu (first:=[.ref a]) I1.kIn hm.kp (Zd (us:=[.ref a]) (vs:=[.ref a]) F hr hb hd hx I1 (.cons rfl .nil) q)
theorem wx {pl:Sem Bool} (he:JE X o ta) (c:YX X.K C) (hm:Y7 X.K C m f) (F:qp X.prog X.w X.K X.mg X.base CX k f fd ps sp) (hr:qN k X.A) (hb:jH X.K fd ps ds) (hd:qE dvs ds) (hx:QP CX X E) (ht:eval (.Call (.Attribute o m apos) [] [] pos) X.env=(do
     let ov <-eval o X.env
     standAt apos.atName
     let (f,first) <-holding [ov] (getMethod ov m pl)
     callWith pos f first (backTo pos (starEach [] X.env)) (backToKw pos (keywordEach [] X.env))):=by rfl):JE X (.Call (.Attribute o m apos) [] [] pos) (Xf C m sp dvs E ta QD):=.of (xA he.to c hm F hr hb hd hx ht)
structure Mk (K:PySem.W.Frag) (C f:Addr):Prop where
 makes:zbZ K C=true
 init:tP K (.ref C) "__init__"=some (some (.ref f))
 fn:zaI K (.ref f)=true
 kp:zaD K (.ref C)=true
theorem xl {pins:List (Addr×Obj)} {σ:St} {H:Hp} {s:Shared} {Q:VK} {us:List Value} {vs:List V} (M:Mk X.K C f) (F:qp X.prog X.w X.K X.mg X.base CX k f fd ps sp) (hr:qN (k+1) X.A) (hb:jH X.K fd ps ds) (hd:qE dvs ds)
   (hx:QP CX X E) (I:qC X pins σ H s) (r:qE vs us)
   (h:∀x dx,H x=none->H dx=none->dx≠x->sp (.ref x::(vs++dvs)) (upd (upd H dx (.own x)) x (.ins C dx [])) (λv H2=>v=.non/\Q (.ref x) H2) E):
   wpAny (model X.prog X.w) X.A (call (.ref C) us) (EP X pins σ Q) X.xe s:=by
 have hq:=h (s.heap.objs.size+1) s.heap.objs.size (I.hok.fresh (zbw _)) (I.hok.fresh (tw _)) (tR (zaT _))
 have I2:=qC.made (C:=C) I
 have r2:qE (V.ref (s.heap.objs.size+1)::(vs++dvs)) (Value.ref (s.heap.objs.size+1)::(us++ds)):=.cons rfl (r.append hd)
 have hl:(Value.ref (s.heap.objs.size+1)::us++ds).length=ps.length:=by
   have e:=r2.length
   rw[F.len _ _ _ _ hq]at e
   exact e.symm
 refine wpAny_call (wa (f:=f) I.kIn M.makes M.init (beq_iff_eq.mp M.fn) (codeAny_mono (F.run _ X.stack _ _ ⟨Value.ref (s.heap.objs.size+1)::us,[]⟩ (Value.ref (s.heap.objs.size+1)::(us++ds)) _ _ E (hr.make C us [])
   (I2.env0.make C us []) (hb _ (Value.ref (s.heap.objs.size+1)::us) I2.kIn hl) r2 hq) λr s' hq'=>?_))
 cases r with
 | error e=>exact hx pins σ _ _ e s' I2 hq'
 | ok fl=>
   cases fl with
   | ret u=>
     obtain⟨v,H',I3,rv,ev,q3⟩:=I2.after hq'
     subst ev
     exact⟨rv,⟨V.ref (s.heap.objs.size+1),H',I3,rfl,q3⟩⟩
   | next=>exact False.elim hq'
   | brk=>exact False.elim hq'
   | cont=>exact False.elim hq'
theorem QU (M:Mk X.K C f) (F:qp X.prog X.w X.K X.mg X.base CX k f fd ps sp) (hr:qN (k+1) X.A) (hg:Gl X x) (hm:X.mg x=some (.ref C)) (hb:jH X.K fd ps ds) (hd:qE dvs ds) (hx:QP CX X E) (ha:JA X (e::es) t) (hdb:(x==("__debug__":Str))=false:=by decide) (he:starEach (e::es) X.env=(false,eval e X.env)::starEach es X.env:=by rfl) (hpl:(backTo pos (starEach es X.env)).any (·.1)=false:=by rfl):JE X (.Call (.Name x p) (e::es) [] pos) (MG C sp dvs E t):=.of (by
 have ha:=ha.to
 intro pins s σ H Q I h
 refine wpAny_Call_Name_kw (ZD I hg hm ?_ hdb)
 refine zbh (h₀:=X.base) I.ok.mod.kin M.kp (ji (ha pos pins s σ H _ I h) λus s1 ⟨vs,H1,I1,r,q⟩=>⟨I1.kIn,?_⟩) he hpl
 exact xl M F hr hb hd hx I1 r q)
end
section
variable {X:Cx} {CX:WH} {k:Nat} {f C:Addr} {fd:FuncData} {ps ks:List Str} {sp:Sp} {E:XK} {x m:Str} {p pos apos kpos:Pos} {e o:Expr} {es:List Expr} {kws:List Keyword} {te ta:TE} {t tk:TA} {nm:Option Str}
structure qb8 (K:PySem.W.Frag) (fd:FuncData) (ps ks:List Str) (g:List Value->List Value->List Value) (gV:List V->List V->List V):Prop where
 to:∀(s:Shared) (us ws:List Value),K.In s.heap->(g us ws).length=ps.length->BindsTo s fd ⟨us,ks.zip ws⟩ (ps.zip (g us ws))
 rel:∀{vs:List V} {us:List Value} {zs:List V} {ws:List Value},qE vs us->qE zs ws->qE (gV vs zs) (g us ws)
variable {g:List Value->List Value->List Value} {gV:List V->List V->List V}
end
structure qr (N P:List Str) (sc:Scope):Prop where
 kind:sc.kind=.function
 co:sc.isCoroutine=false
 gen:sc.isGenerator=false
 nd:N.Nodup
 pre:N.take P.length=P
 par:∀x∈P,sc.names.lookup x=some .local\/sc.names.lookup x=some .cell
 nofree:∀y∈sc.names,y.2≠.free
theorem XI {kindOf:Str->Option NameKind} {x:Str}:∀{binds:List (Str×Value)} {m:Str->Option Value},(∀v,(x,v)∉binds)->bindL kindOf binds m x=m x
 | [],_,_=>rfl
 | (n,v)::r,m,h=>by
   unfold bindL
   rw[XI λw hw=>h w (tW _ hw)]
   split
   . have:x≠n:=by rintro rfl;exact h v t7
     simp [this]
   . rfl
theorem XL {kindOf:Str->Option NameKind} {x:Str}:∀{binds:List (Str×Value)} {m:Str->Option Value},(∀v,(x,v)∉binds)->bindC kindOf binds m x=m x
 | [],_,_=>rfl
 | (n,v)::r,m,h=>by
   unfold bindC
   rw[XL λw hw=>h w (tW _ hw)]
   split
   . rfl
   . have:x≠n:=by rintro rfl;exact h v t7
     simp [this]
theorem XJ {kindOf:Str->Option NameKind} {x:Str} {v:Value}:∀{P:List Str} {vs:List Value} {i:Nat} {m:Str->Option Value},P.Nodup->P[i]?=some x->vs[i]?=some v->kindOf x=some .local->
   bindL kindOf (P.zip vs) m x=some v
 | [],_,_,_,_,h,_,_=>by simp at h
 | _::_,[],_,_,_,_,h,_=>by simp at h
 | p::P,w::vs,0,m,nd,h1,h2,hk=>by
   simp at h1 h2;subst h1;subst h2
   show bindL kindOf ((p,w)::P.zip vs) m p=_
   unfold bindL
   rw[XI λv hv=>(zaC.mp nd).1 (zdf hv).1,if_pos hk]
   simp
 | p::P,w::vs,i+1,m,nd,h1,h2,hk=>by
   show bindL kindOf ((p,w)::P.zip vs) m x=_
   unfold bindL
   exact XJ (i:=i) (zaC.mp nd).2 (by simpa using h1) (by simpa using h2) hk
theorem XM {kindOf:Str->Option NameKind} {x:Str} {v:Value}:∀{P:List Str} {vs:List Value} {i:Nat} {m:Str->Option Value},P.Nodup->P[i]?=some x->vs[i]?=some v->kindOf x≠some .local->
   bindC kindOf (P.zip vs) m x=some v
 | [],_,_,_,_,h,_,_=>by simp at h
 | _::_,[],_,_,_,_,h,_=>by simp at h
 | p::P,w::vs,0,m,nd,h1,h2,hk=>by
   simp at h1 h2;subst h1;subst h2
   show bindC kindOf ((p,w)::P.zip vs) m p=_
   unfold bindC
   rw[XL λv hv=>(zaC.mp nd).1 (zdf hv).1,if_neg hk]
   simp
 | p::P,w::vs,i+1,m,nd,h1,h2,hk=>by
   show bindC kindOf ((p,w)::P.zip vs) m x=_
   unfold bindC
   exact XM (i:=i) (zaC.mp nd).2 (by simpa using h1) (by simpa using h2) hk
def J5 (N:List Str) (vs:List V):St:=vs.map some++zdo (N.length - vs.length) none
def YK (CX:WH) (P:Program) (w:World) (K:PySem.W.Frag) (mg:Str->Option Value) (base:Heap) (N:List Str) (qual:Str) (scope:Scope) (f:Addr) (cd:Value) (A:Around) (outer:List Env) (s:Shared) (H:Hp) (E:XK):Cx where
 prog:=P
 w:=w
 K:=K
 mg:=mg
 base:=base
 A:=A.deeper (envOfC qual scope s.heap.objs.size f cd)
 N:=N
 s₀:=s
 H₀:=H
 env:=envOfC qual scope s.heap.objs.size f cd
 outer:=outer
 stack:=envOfC qual scope s.heap.objs.size f cd::outer
 ex:=[]
 calm:=true
 fn:=λ_=>true
 pn:=[]
 xe:=λe s'=>wpAny (model P w) (A.deeper (envOfC qual scope s.heap.objs.size f cd)) (leaving (envOfC qual scope s.heap.objs.size f cd) e) (λ_ s''=>CX outer H s E e s'') (λe' s''=>CX outer H s E e' s'') s'
theorem Vz {sc:Scope} {n:Nat} {x:Str} (h:sc.names.lookup x=some .cell):∃c,(cellsFrom n sc.names []).lookup x=some c:=by
 have q:=zda sc.names n [] (.inl h)
 exact zbV.mp q
theorem yc {CX:WH} {P:Program} {w:World} {K:PySem.W.Frag} {mg:Str->Option Value} {base:Heap} {N ps:List Str} {qual:Str} {scope:Scope} {f:Addr} {cd:Value} {A:Around} {outer:List Env} {s s1:Shared} {H:Hp} {E:XK} {us:List Value} {vs:List V}
   (S:qr N ps scope) (hd:A.handled=none) (e0:UG P w K mg base A outer s H) (hl:vs.length=ps.length) (r:qE vs us)
   (x:InCallC s s.heap.objs.size (bindL (envOfC qual scope s.heap.objs.size f cd).kindOf (ps.zip us) λ_=>none) (cellsFrom (s.heap.objs.size+1) scope.names []) (bindC (envOfC qual scope s.heap.objs.size f cd).kindOf (ps.zip us) λ_=>none) s1):
   qC (YK CX P w K mg base N qual scope f cd A outer s H E) [] (J5 N vs) H s1:=by
 have hpl:ps.length<=N.length:=by have:=congrArg zaB S.pre;rw[tJ]at this;omega
 obtain⟨h1,tk,rfl,hk⟩:=x.done
 have noA:∀b:Addr,b∉(YK CX P w K mg base N qual scope f cd A outer s H E).ex:=λb z=>absurd (show b∈([]:List Addr) from z) (by simp)
 refine⟨⟨e0.mod,S.kind,rfl,rfl,tw _,λy z c h1 h2=>?_,λy hy=>?_,λy c _ h=>?_,λ_=>hd,Around.frames_deeper e0.frames,.inr ⟨rfl,rfl⟩,λb z=>absurd z (noA b),e0.bs,e0.bsz,λb _ _=>noA b,λb z=>absurd z (noA b),e0.funs,e0.frf⟩,
   rfl,e0.bare,Un.kept hk,⟨_,x.toInCall.ns,λi y v h1 h2 h3=>?_⟩,λy c h=>⟨_,x.cell y c h⟩,e0.hok.fresh (tw _),λy c h=>?_,λp hp=>absurd (show p∈([]:List (Addr×Obj)) from hp) (by simp),e0.hok.kept hk,?_⟩
 . exact name_of_addr x.apart (PySem.mem_of_lookup h1) (PySem.mem_of_lookup h2)
 . have hy:scope.names.lookup y=some .cell\/scope.names.lookup y=some .free:=hy
   rcases hy with hy | hy
   . exact Vz hy
   . exact absurd rfl (S.nofree _ (PySem.mem_of_lookup hy))
 . exact zak (x.above y c (PySem.mem_of_lookup h))
 . have hi:i < vs.length:=by
     unfold J5 at h2
     by_cases hi:i < vs.length
     . exact hi
     . rw[zab (by simpa using hi)]at h2
       rw[List.getElem?_replicate]at h2
       split at h2<;>cases h2
   have ha:vs[i]?=some v:=by
     unfold J5 at h2
     rw[t8 (by simpa using hi),tH]at h2
     cases e:vs[i]? with
     | none=>rw[e]at h2;cases h2
     | some a=>rw[e]at h2;cases h2;rfl
   obtain⟨u,hu,rv⟩:=r.get ha
   have hp:ps[i]?=some y:=by
     rw[<-S.pre,zbW (by omega)];exact h1
   have ndP:ps.Nodup:=by rw[<-S.pre];exact S.nd.sublist (zbK _ _)
   refine⟨u,rv,?_⟩
   rcases S.par y (tQ hp) with k | k
   . exact .inl ⟨k,XJ ndP hp hu k⟩
   . obtain⟨c,e⟩:=Vz (n:=s.heap.objs.size+1) k
     refine .inr ⟨.inl k,c,e,?_⟩
     have q:=x.cell y c e
     rw[XM ndP hp hu (by show scope.names.lookup y≠_;rw[k];decide)]at q
     exact q
 . exact e0.hok.fresh (zak (x.above y c (PySem.mem_of_lookup h)))
 . unfold J5
   show _=N.length
   rw[tL,tj,zdj]
   omega
theorem RB {CX:WH} {P:Program} {w:World} {K:PySem.W.Frag} {mg:Str->Option Value} {base:Heap} {k:Nat} {f:Addr} {name qual:Str} {params:Arguments} {body:List Stmt} {scope:Scope} {dV kV doc pm cdv ct oc:Value} {an od:Option Addr}
   {osl:Array (Option Value)} {N ps:List Str} {sp:Sp} (lk:K.lookup f=some ⟨oc,od,.func (zbr name qual params body scope dV kV doc pm an cdv ct),osl⟩) (hcd:zbP K cdv qual=true) (S:qr N ps scope)
   (len:∀vs H Q E,sp vs H Q E->vs.length=ps.length)
   (hbody:∀(A:Around) (outer:List Env) (s:Shared) (H:Hp) (vs:List V) (Q:VK) (E:XK),qN k (A.deeper (envOfC qual scope s.heap.objs.size f cdv))->sp vs H Q E->
     ∃t,uu (YK CX P w K mg base N qual scope f cdv A outer s H E) body t/\t {nx:=λ_ H'=>Q .non H',rt:=Q} (J5 N vs) H):
   qp P w K mg base CX (k+1) f (zbr name qual params body scope dV kV doc pm an cdv ct) ps sp:=by
 refine⟨len,λA outer s H args us vs Q E hr e0 hb r hsp=>?_⟩
 have hl:=len _ _ _ _ hsp
 have KX:K.In s.heap:=e0.mod.kin.keeps λb o e=>(e0.bs b o e).1
 have lim:s.heap.NoLimit:=e0.mod.nolimit.keeps λb o e=>(e0.bs b o e).1
 have hkind:∀y∈ps.zip us,scope.names.lookup y.1=some .local\/(scope.names.lookup y.1=some .cell/\((cellsFrom (s.heap.objs.size+1) scope.names []).lookup y.1).isSome=true):=λ⟨n,v⟩ hy=>by
   rcases S.par n (zdf hy).1 with q | q
   . exact .inl q
   . exact .inr ⟨q,zda _ _ _ (.inl q)⟩
 refine codeAny_call_function hr.depth (KX _ _ lk) rfl S.co S.gen rfl (PySem.W.codeRec_of KX hcd) (hb _ _ _ _ ?_)
 refine wpAny_newFunctionEnv_cells S.kind hkind λenv he s1 x=>?_
 subst he
 refine⟨lim.keeps x.toInCall.keep,codeAny_func ?_⟩
 obtain⟨t,ht,hq⟩:=hbody A outer s H vs Q E (hr.deeper _) hsp
 have I:qC (YK CX P w K mg base N qual scope f cdv A outer s H E) [] (J5 N vs) H s1:=yc S hr.hd e0 hl r x
 refine wpAny_mono (ht [] s1 (J5 N vs) H _ I hq) (λfl s' hs=>?_) λe s' hs=>hs
 have fin:∀{σ':St} {H':Hp} {v:V} {u:Value},qC (YK CX P w K mg base N qual scope f cdv A outer s H E) [] σ' H' s'->qL v u->Q v H'->CE outer P w H s Q u s':=
   λ{σ' H' v u} J rv q=>⟨v,H',J.os,J.bare,J.base,J.hok,rv,q⟩
 cases fl with
 | ret u=>
   obtain⟨v,σ',H',J,rv,q⟩:=hs
   exact fin J rv q
 | next=>
   obtain⟨σ',H',J,q⟩:=hs
   exact fin (v:=V.non) (u:=Value.none) J rfl q
 | brk=>
   obtain⟨_,_,_,q⟩:=hs
   exact False.elim q
 | cont=>
   obtain⟨_,_,_,q⟩:=hs
   exact False.elim q
section
variable {X:Cx} {x:Str} {p pos:Pos} {e:Expr} {es:List Expr} {t:TA} {id T:String} {r:List V->Hp->VK->Prop}
def uD (r:List V->Hp->VK->Prop) (t:TA):TE:=λσ H Q=>t σ H λvs H1=>r vs H1 Q
theorem qx (hc:j8 X (.builtin id) r) (hg:Gl X x) (hm:X.mg x=none) (hv:bootBuiltins x=some (.builtin id)) (ha:JA X (e::es) t) (hn:x≠"__name__":=by decide) (hdb:(x==("__debug__":Str))=false:=by decide) (he:starEach (e::es) X.env=(false,eval e X.env)::starEach es X.env:=by rfl) (hpl:(backTo pos (starEach es X.env)).any (·.1)=false:=by rfl):JE X (.Call (.Name x p) (e::es) [] pos) (uD r t):=.of (by
 have ha:=ha.to
 intro pins s σ H Q I h
 refine wpAny_Call_Name_kw (Qp I hg hm hv ?_ hn hdb)
 exact PyProof.Rows.callWith_builtin1 (ji (ha pos pins s σ H _ I h) λus s1 ⟨vs,H1,I1,r1,q1⟩=>hc pins s1 σ H1 vs us Q I1 r1 q1) he hpl)
theorem q5 (hc:j8 X (.type T) r) (hg:Gl X x) (hm:X.mg x=none) (hv:bootBuiltins x=some (.type T)) (ha:JA X (e::es) t) (hn:x≠"__name__":=by decide) (hdb:(x==("__debug__":Str))=false:=by decide) (he:starEach (e::es) X.env=(false,eval e X.env)::starEach es X.env:=by rfl) (hpl:(backTo pos (starEach es X.env)).any (·.1)=false:=by rfl):JE X (.Call (.Name x p) (e::es) [] pos) (uD r t):=.of (by
 have ha:=ha.to
 intro pins s σ H Q I h
 refine wpAny_Call_Name_kw (Qp I hg hm hv ?_ hn hdb)
 exact PyProof.Rows.callWith_type1 (ji (ha pos pins s σ H _ I h) λus s1 ⟨vs,H1,I1,r1,q1⟩=>hc pins s1 σ H1 vs us Q I1 r1 q1) he hpl)
end
end L2
namespace HT
open PySem PyProof.Rows
section
open PySem.SeqAt
open PySem.AutoSeq1 (wpAny_loadPart')
open PySem.MeetsSeq PySem.MeetsSeq2 PySem.MeetsSeq3
end
section
variable {prog:Program} {w:World} {A:Around} {E:Value->Shared->Prop} {s:Shared}
def sIx (n d:Nat):Option Int->Nat
 | none=>d
 | some v=>if v < 0 then (v+(n:Int)).toNat else min v.toNat n
theorem sIx_none (n d:Nat):sIx n d none=d:=rfl
theorem sIx_nat (n d k:Nat):sIx n d (some (k:Int))=min k n:=by
 show (if (k:Int) < 0 then ((k:Int)+(n:Int)).toNat else min (k:Int).toNat n)=min k n
 rw[if_neg (by omega),zaQ]
theorem Na (n d:Nat) (hd:d<=n) (o:Option Int):sIx n d o<=n:=by
 cases o with
 | none=>exact hd
 | some v=>
   show (if v < 0 then (v+(n:Int)).toNat else min v.toNat n)<=n
   by_cases hv:v < 0
   . rw[if_pos hv];omega
   . rw[if_neg hv];exact zcj _ _
theorem vQ (v:Int) (n d:Nat):(if v < 0 then max (v+(n:Int)) 0 else min v (n:Int))=((sIx n d (some v):Nat):Int):=by
 show (if v < 0 then max (v+(n:Int)) 0 else min v (n:Int))=(((if v < 0 then (v+(n:Int)).toNat else min v.toNat n):Nat):Int)
 by_cases hv:v < 0
 . simp only[if_pos hv];omega
 . simp only[if_neg hv];omega
theorem Uz (lo hi:Option Int) (n:Nat):Builtin.Slice.sliceAdjust lo hi 1 (n:Int)=(((sIx n 0 lo:Nat):Int),((sIx n n hi:Nat):Int)):=by
 have h1:¬((1:Int) < 0):=by omega
 unfold Builtin.Slice.sliceAdjust
 simp only[h1,if_false]
 refine Prod.ext ?_ ?_
 . cases lo with
   | none=>rfl
   | some v=>exact vQ v n 0
 . cases hi with
   | none=>rfl
   | some v=>exact vQ v n n
theorem V5 (i j:Nat):Builtin.Slice.slicePlaces (i:Int) (j:Int) 1=j - i:=by
 unfold Builtin.Slice.slicePlaces
 have h1:(1:Int) > 0:=by omega
 simp only[h1,if_true,Int.ediv_one]
 split<;>omega
theorem zW {v:Value} {o:Option Int} {Q:Option Int->Shared->Prop} (p:IsPart v o) (h:Q o s):wpAny (model prog w) A (Builtin.Slice.slicePartIndex v) Q E s:=by
 cases p with
 | none=>exact slicePart_none h
 | int i t=>exact slicePart_int h
theorem ZV {sl:Addr} {vl vu:Value} {lo hi:Option Int} {n:Nat} {Q:Int×Int×Nat->Shared->Prop} (hs:s.heap.IsSliceOf sl vl vu .none) (pl:IsPart vl lo) (pu:IsPart vu hi)
   (h:Q (((sIx n 0 lo:Nat):Int),1,sIx n n hi - sIx n 0 lo) s):wpAny (model prog w) A (Builtin.Slice.sliceApplied (.ref sl) (pure (n:Int))) Q E s:=by
 obtain⟨os,hos,hcs,hds⟩:=id hs
 unfold Builtin.Slice.sliceApplied Builtin.Slice.sliceFields
 refine wpAny_bind (wpAny_bind (wpAny_field hos hds (x:=vl) rfl (wpAny_bind (wpAny_field hos hds (x:=vu) rfl (wpAny_bind (wpAny_field hos hds (x:=.none) rfl (wpAny_pure ?_)))))))
 refine wpAny_bind (slicePart_none ?_)
 show wpAny _ _ (if ((1:Int)==0)=true then _ else _) _ _ s
 rw[if_neg (by decide)]
 refine wpAny_bind (zW pl (wpAny_bind (zW pu (wpAny_bind (wpAny_pure ?_)))))
 show wpAny _ _ (match Builtin.Slice.sliceAdjust lo hi 1 (n:Int) with | (lo,hi)=>pure (lo,(1:Int),Builtin.Slice.slicePlaces lo hi 1)) _ _ s
 rw[Uz lo hi n]
 show wpAny _ _ (pure (((sIx n 0 lo:Nat):Int),(1:Int),Builtin.Slice.slicePlaces ((sIx n 0 lo:Nat):Int) ((sIx n n hi:Nat):Int) 1)) _ _ s
 rw[V5]
 exact wpAny_pure h
theorem xz (xs:Array Value) (i k:Nat):((zae k).filterMap λ(m:Nat)=>xs[((i:Int)+(m:Int)*1).toNat]?).toArray=((xs.toList.drop i).take k).toArray:=by
 have e:(λ(m:Nat)=>xs[((i:Int)+(m:Int)*1).toNat]?)=λm=>xs[i+m]?:=by
   funext m
   have:((i:Int)+(m:Int)*1).toNat=i+m:=by omega
   rw[this]
 rw[e]
 have:=pick_run xs i k
 rw[List.filterMap_map]at this
 have e2:((λx=>xs[x]?) ∘ λx=>i+x)=λm=>xs[i+m]?:=rfl
 rw[e2]at this
 rw[this]
theorem getItem_tuple_cut {t sl:Addr} {items:Array Value} {vl vu:Value} {lo hi:Option Int} {Q:Value->Shared->Prop} (ht:IsTup s.heap t items) (hs:s.heap.IsSliceOf sl vl vu .none) (pl:IsPart vl lo) (pu:IsPart vu hi)
   (hw:¬(sIx items.size 0 lo=0/\sIx items.size items.size hi=items.size))
   (h:Q (.ref s.heap.objs.size) {s with heap:=s.heap.push {cls:=.type "tuple",data:=.seq ((items.toList.drop (sIx items.size 0 lo)).take (sIx items.size items.size hi - sIx items.size 0 lo)).toArray}})
   (hsz:items.size<=sizeLine):wpAny (model prog w) A (getItem (.ref t) (.ref sl)) Q E s:=by
 have htake:sizeOk (.seq ((items.toList.drop (sIx items.size 0 lo)).take (sIx items.size items.size hi - sIx items.size 0 lo)).toArray):=by
   show ((items.toList.drop (sIx items.size 0 lo)).take (sIx items.size items.size hi - sIx items.size 0 lo)).toArray.size<=sizeLine
   rw[tX,tJ,zaU,zaq]
   omega
 have hj:sIx items.size items.size hi<=items.size:=Na _ _ (tw _) hi
 obtain⟨os,hos,hcs,hds⟩:=id hs
 have hTs:s.TypeIs (.ref sl) "slice":=⟨os,hos,hcs⟩
 unfold getItem
 try with_reducible refine wpAny_holding ?_
 first | refine wpAny_bind (wpAny_pure ?_) | skip
 refine wpAny_bind (wpAny_sequenceKey ht.typeIs (by decide) ?_)
 refine wpAny_bind (wpAny_callSpecial?_slot (name:=Str.ofString "__getitem__") ht.typeIs PyProof.Rows.slot_tuple_getitem
   (wpAny_call_entry PyProof.Rows.slot_tuple_getitem ht.typeIs entry_tuple_getitem ?_ (args_tuple_getitem _ _)))
 show wpAny _ _ (Builtin.Tuple.tupleItemsOf (.ref t) >>= _) _ _ s
 refine wpAny_bind (tupleItemsOf_ ht ?_)
 refine wpAny_bind (wpAny_typeOf hTs ?_)
 rw[if_pos (by decide)]
 refine wpAny_bind (ZV hs pl pu ?_)
 have hno:¬((((sIx items.size 0 lo:Nat):Int)==0&&(1:Int)==1&&(sIx items.size items.size hi - sIx items.size 0 lo)==items.size)=true):=by
   intro q
   rw[zam,zam]at q
   have q1:((sIx items.size 0 lo:Nat):Int)=0:=eq_of_beq q.1.1
   have q2:sIx items.size items.size hi - sIx items.size 0 lo=items.size:=eq_of_beq q.2
   exact hw ⟨by omega,by omega⟩
 show wpAny _ _ (if (((sIx items.size 0 lo:Nat):Int)==0&&(1:Int)==1&&(sIx items.size items.size hi - sIx items.size 0 lo)==items.size)=true then _ else _) _ _ s
 rw[if_neg hno,xz]
 first
   | exact wpAny_bind (m:=Builtin.Tuple.tupleExact _) (wpAny_newObj_type (wpAny_pure ⟨_,rfl,wpAny_pure h⟩) htake)
   | exact wpAny_bind (m:=Builtin.Tuple.tupleExact _) (wpAny_newObj_type (wpAny_bind (wpAny_pure (wpAny_pure ⟨_,rfl,wpAny_pure h⟩))) htake)
   | exact wpAny_bind (wpAny_bind (m:=Builtin.Tuple.tupleExact _) (wpAny_newObj_type (wpAny_pure (wpAny_pure ⟨_,rfl,wpAny_pure h⟩)) htake))
   | exact wpAny_bind (wpAny_bind (m:=Builtin.Tuple.tupleExact _) (wpAny_newObj_type (wpAny_pure ⟨_,rfl,wpAny_pure h⟩) htake))
end
end HT
namespace L2
open PySem PySem.Spec PyProof.Rows
abbrev TO:=St->Hp->(Option Int->Hp->Prop)->Prop
def PO (X:Cx) (e:Option Expr) (t:TO):Prop:=
 ∀(pins:List (Addr×Obj)) (s:Shared) (σ:St) (H:Hp) (Q:Option Int->Hp->Prop),qC X pins σ H s->t σ H Q->
   wpAny (model X.prog X.w) X.A (evalPart e X.env) (λu s'=>∃o H',qC X pins σ H' s'/\IsPart u o/\Q o H') X.xe s
@[irreducible] def JO (X:Cx) (e:Option Expr) (t:TO):Prop:=PO X e t
theorem JO.of {X:Cx} {e:Option Expr} {t:TO} (h:PO X e t):JO X e t:=by unfold JO;exact h
theorem JO.to {X:Cx} {e:Option Expr} {t:TO} (h:JO X e t):PO X e t:=by unfold JO at h;exact h
def UR:TO:=λ_ H Q=>Q none H
def GQ (t:TE):TO:=λσ H Q=>t σ H λx H1=>∃i,x=.int i/\Q (some i) H1
theorem Um {ns:List Int}:∀{us:List Value},qE (ns.map V.int) us->IntsAre us ns:=by
 induction ns with
 | nil=>intro us r;rw[zcf]at r;cases r;exact .nil
 | cons n ns ih=>
   intro us r
   rw[tS]at r
   cases r with
   | cons r1 r2=>
     obtain⟨t,e⟩:=r1
     subst e
     exact .cons n t (ih r2)
section
variable {X:Cx} {e:Expr} {te:TE} {lo hi:Option Expr} {tl th:TO} {pos p2:Pos}
theorem QT:JO X none UR:=.of (by
 intro pins s σ H Q I h
 rw[evalPart_none]
 exact wpAny_pure ⟨none,H,I,.none,h⟩)
theorem QS (h:JE X e te):JO X (some e) (GQ te):=.of (by
 have h:=h.to
 intro pins s σ H Q I hw
 rw[evalPart_some]
 refine ji (h pins s σ H _ I hw) λu s1 ⟨x,H1,I1,r1,q1⟩=>?_
 obtain⟨i,rfl,q⟩:=q1
 obtain⟨t,rfl⟩:=r1
 exact⟨some i,H1,I1,.int i t,q⟩)
def SlR (X:Cx) (r:V->Option Int->Option Int->Hp->VK->Prop):Prop:=
 ∀(pins:List (Addr×Obj)) (s:Shared) (σ:St) (H:Hp) (x:V) (v vl vu:Value) (lo hi:Option Int) (sl:Addr) (Q:VK),qC X pins σ H s->qL x v->s.heap.IsSliceOf sl vl vu .none->IsPart vl lo->IsPart vu hi->r x lo hi H Q->
   ∃T id,typeLookup (.type T) "__getitem__"=pure (some (.builtin id))/\s.TypeIs v T/\wpAny (model X.prog X.w) X.A (getItem v (.ref sl)) (EP X pins σ Q) X.xe s
def tSl (r:V->Option Int->Option Int->Hp->VK->Prop) (te:TE) (tl th:TO):TE:=λσ H Q=>te σ H λx H1=>tl σ H1 λl H2=>th σ H2 λu H3=>r x l u H3 Q
theorem Qt {r:V->Option Int->Option Int->Hp->VK->Prop} (hr:SlR X r) (he:JE X e te) (hl:JO X lo tl) (hu:JO X hi th):JE X (.Subscript e (.Slice lo hi none p2) pos) (tSl r te tl th):=.of (by
 have he:=he.to
 have hl:=hl.to
 have hu:=hu.to
 intro pins s σ H Q I h
 refine Subscript_ (ji (he pins s σ H _ I h) λv s1 ⟨x,H1,I1,r1,q1⟩=>?_)
 refine wpAny_Slice (ji (hl pins s1 σ H1 _ I1 q1) λvl s2 ⟨l,H2,I2,pl,q2⟩=>ji (hu pins s2 σ H2 _ I2 q2) λvu s3 ⟨u,H3,I3,pu,q3⟩=>?_)
 rw[evalPart_none]
 refine wpAny_pure ?_
 have I4:qC X pins σ H3 {s3 with heap:=s3.heap.push {cls:=.type "slice",data:=.fields #[vl,vu,.none]}}:=I3.kept (t':=s3.toks) λb ob q=>tz _ q
 obtain⟨T,id,hT,ht,hg⟩:=hr pins {s3 with heap:=s3.heap.push {cls:=.type "slice",data:=.fields #[vl,vu,.none]}} σ H3 x v vl vu l u s3.heap.objs.size Q I4 r1 (Heap.IsSliceOf.new ..) pl pu q3
 show wpAny (model X.prog X.w) X.A (subscriptTail e (.Slice lo hi none p2) v (.ref s3.heap.objs.size)) (EP X pins σ Q) X.xe {s3 with heap:=s3.heap.push {cls:=.type "slice",data:=.fields #[vl,vu,.none]}}
 exact tail_any (ops:=[.ref s3.heap.objs.size,v]) ht hT hg (by with_unfolding_all rfl))
def cutV (xs:List V) (lo hi:Option Int):List V:=(xs.drop (HT.sIx xs.length 0 lo)).take (HT.sIx xs.length xs.length hi - HT.sIx xs.length 0 lo)
theorem zw (xs:List V) (lo hi:Option Int):(cutV xs lo hi).length<=xs.length:=by
 unfold cutV
 rw[tJ,zaU]
 omega
def M8 (K:PySem.W.Frag):V->Option Int->Option Int->Hp->VK->Prop:=λx lo hi H Q=>∃a xs,x=.ref a/\SqT K H a xs/\
 ¬(HT.sIx xs.length 0 lo=0/\HT.sIx xs.length xs.length hi=xs.length)/\∀p,H p=none->Q (.ref p) (upd H p (.tup (cutV xs lo hi)))
theorem RS:SlR X (M8 X.K):=by
 intro pins s σ H x v vl vu lo hi sl Q I rx hs pl pu h
 obtain⟨a,xs,rfl,hx,hw,q⟩:=h
 cases rx
 obtain⟨its,r,ht,hz⟩:=I.tuple hx
 have hlen:its.toArray.size=xs.length:=by rw[tX];exact r.length.symm
 refine⟨"tuple",_,PyProof.Rows.slot_tuple_getitem.lookup,ht.typeIs,?_⟩
 refine HT.getItem_tuple_cut ht hs pl pu (by rw[hlen];exact hw) ?_ (by rw[hlen];exact hz)
 rw[hlen]
 refine⟨.ref s.heap.objs.size,_,I.laid (t':=s.toks) (o:=.tup (cutV xs lo hi)) (λb ob q=>tz _ q) (tw _) ?_,rfl,q _ (I.hok.fresh (tw _))⟩
 exact⟨tV (zw xs lo hi) hz,_,(r.drop (HT.sIx xs.length 0 lo)).take (HT.sIx xs.length xs.length hi - HT.sIx xs.length 0 lo),IsTup.new _ _⟩
end
def Ga (n:Nat) (i:Int):Option Nat:=if 0<=i then (if i < n then some i.toNat else none) else if -(n:Int)<=i then some (i+n).toNat else none
def vU {α:Type} (xs:List α) (i:Int):Option α:=(Ga xs.length i).bind λj=>xs[j]?
theorem vJ {n:Nat} {i:Int} {j:Nat} (h:Ga n i=some j):seqIndex? i n=some j/\j < n/\-(n:Int)<=i/\i < n:=by
 unfold Ga at h
 by_cases h0:0<=i
 . rw[if_pos h0]at h
   by_cases h1:i < n
   . rw[if_pos h1]at h
     have e:i.toNat=j:=tO.inj h
     exact⟨by rw[seqIndex_of h0 h1,e],by omega,by omega,h1⟩
   . rw[if_neg h1]at h;cases h
 . rw[if_neg h0]at h
   by_cases h1:-(n:Int)<=i
   . rw[if_pos h1]at h
     have e:(i+n).toNat=j:=tO.inj h
     exact⟨by rw[seqIndex_neg (by omega) h1,e],by omega,h1,by omega⟩
   . rw[if_neg h1]at h;cases h
theorem atI_get {α:Type} {xs:List α} {i:Int} {v:α} (h:vU xs i=some v):∃j,seqIndex? i xs.length=some j/\xs[j]?=some v/\j < xs.length/\-(xs.length:Int)<=i/\i < xs.length:=by
 unfold vU at h
 cases e:Ga xs.length i with
 | none=>rw[e]at h;cases h
 | some j=>
   rw[e]at h
   obtain⟨h1,h2,h3,h4⟩:=vJ e
   exact⟨j,h1,h,h2,h3,h4⟩
theorem JZ {α:Type} {xs:List α} {j:Nat} {v:α} (h:xs[j]?=some v):vU xs (j:Int)=some v:=by
 have hj:j < xs.length:=(tq.mp h).1
 have e:Ga xs.length (j:Int)=some j:=by
   unfold Ga
   rw[if_pos (by omega),if_pos (by omega)];simp
 unfold vU;rw[e];exact h
def GC (b:Expr):Prop:=∀o i,subscripted b false o i=operate [o,i] (getItem o i)
def IxR (X:Cx) (r:R2):Prop:=
 ∀(value slice:Expr) (pins:List (Addr×Obj)) (s:Shared) (σ:St) (H:Hp) (x y:V) (v u:Value) (Q:VK),qC X pins σ H s->qL x v->qL y u->r x y H Q->
   subscripted slice false v u=operate [v,u] (getItem v u)->wpAny (model X.prog X.w) X.A (subscriptTail value slice v u) (EP X pins σ Q) X.xe s
def Mh (X:Cx) (id:String) (r:V->List V->Hp->VK->Prop):Prop:=
 ∀(pins:List (Addr×Obj)) (s:Shared) (σ:St) (H:Hp) (x:V) (xs:List V) (v:Value) (us:List Value) (Q:VK),qC X pins σ H s->qL x v->qE xs us->r x xs H Q->
   wpAny (model X.prog X.w) X.A (call (.builtin id) (v::us)) (EP X pins σ Q) X.xe s
section
variable {X:Cx} {a b:Expr} {ta tb:TE} {pos:Pos}
theorem jx {r:R2} (hr:IxR X r) (ha:JE X a ta) (hb:JE X b tb) (hs:GC b):JE X (.Subscript a b pos) (YY r ta tb):=.of (by
 have ha:=ha.to
 have hb:=hb.to
 intro pins s σ H Q I h
 exact Subscript_ (Mb ha hb I h λv u s2 x y H2 I2 rx ry q=>hr a b pins s2 σ H2 x y v u Q I2 rx ry q (hs _ _)))
def Ko (K:PySem.W.Frag):R2:=λx y H Q=>∃p xs i v,x=.ref p/\y=.int i/\SqL K H p xs/\vU xs i=some v/\Q v H
def V3 (K:PySem.W.Frag):R2:=λx y H Q=>∃p xs i v,x=.ref p/\y=.int i/\SqT K H p xs/\vU xs i=some v/\Q v H
def qbI:R2:=λx y H Q=>∃z i c,x=.str z/\y=.int i/\z.length<=sizeLine/\vU z.cps.toList i=some c/\Q (.str ⟨#[c]⟩) H
theorem j9:IxR X (Ko X.K):=by
 intro value slice pins s σ H x y v u Q I rx ry h hs
 obtain⟨p,xs,i,z,rfl,rfl,hq,he,q⟩:=h
 cases rx
 obtain⟨t,rfl⟩:=ry
 obtain⟨its,r,pl,hz⟩:=I.list hq
 obtain⟨j,h1,h2,h3,h4,h5⟩:=atI_get he
 obtain⟨w,ew,rw'⟩:=r.get h2
 have hl:=r.length
 have hn:=Z4
 have fin:EP X pins σ Q w s:=⟨z,H,I,rw',q⟩
 by_cases h0:0<=i
 . have hj:i.toNat=j:=by
     rw[seqIndex_of h0 h5]at h1
     exact tO.inj h1
   exact item_listR pl.isList h0 (by omega) (by rw[hj];simpa using ew) fin hs
 . have hj:(i+(its.toArray.size:Int)).toNat=j:=by
     rw[seqIndex_neg (by omega) h4]at h1
     rw[tX,<-hl]
     exact tO.inj h1
   exact subscriptTail_builtinR (x:=w) pl.isList.typeIs slot_list_getitem.lookup
     (wpAny_getItem_list_neg (Q:=λr s'=>r=w/\EP X pins σ Q r s') pl.isList (by omega) (by rw[tX]<;>omega) (by omega) (by rw[hj];simpa using ew) ⟨rfl,fin⟩) hs
theorem j4:IxR X (V3 X.K):=by
 intro value slice pins s σ H x y v u Q I rx ry h hs
 obtain⟨p,xs,i,z,rfl,rfl,hq,he,q⟩:=h
 cases rx
 obtain⟨t,rfl⟩:=ry
 obtain⟨its,r,pl,hz⟩:=I.tuple hq
 obtain⟨j,h1,h2,h3,h4,h5⟩:=atI_get he
 obtain⟨w,ew,rw'⟩:=r.get h2
 have hl:=r.length
 have hn:=Z4
 have fin:EP X pins σ Q w s:=⟨z,H,I,rw',q⟩
 exact subscriptTail_builtinR (x:=w) pl.typeIs slot_tuple_getitem.lookup
   (getItem_tuple (j:=j) (Q:=λr s'=>r=w/\EP X pins σ Q r s') pl (by omega) (by omega) (by rw[tX,<-hl];exact h1) (by simpa using ew) ⟨rfl,fin⟩) hs
theorem wB:IxR X qbI:=by
 intro value slice pins s σ H x y v u Q I rx ry h hs
 obtain⟨z,i,c,rfl,rfl,hz,he,q⟩:=h
 obtain⟨t,rfl⟩:=rx
 obtain⟨t',rfl⟩:=ry
 obtain⟨j,h1,h2,h3,h4,h5⟩:=atI_get he
 have hl:z.cps.toList.length=z.length:=by simp [Str.length]
 rw[hl]at h1 h4 h5
 have hn:=Z4
 exact tail_any (typeIs_str s z t) slot_str_getitem.lookup (getItem_str (c:=c) (by
   have e1:decide (i < -(2^63:Int))=false:=decide_eq_false (by omega)
   have e2:decide (i ≥ 2^63)=false:=decide_eq_false (by omega)
   rw[e1,e2,Bool.or_false]) (by rw[h1];simpa using h2) ⟨.str ⟨#[c]⟩,H,I.tok _,⟨_,rfl⟩,q⟩) hs
theorem Uh (its:List Value) (n j:Nat) (u:Value):Obj.mapSeq (·.setIfInBounds j u) {cls:=.type "list",data:=.seq its.toArray n}={cls:=.type "list",data:=.seq (its.set j u).toArray n}:=by
 simp [Obj.mapSeq]
theorem qC.lst {pins:List (Addr×Obj)} {σ:St} {H:Hp} {s:Shared} {p:Addr} {xs:List V} (I:qC X pins σ H s) (h:H p=some (.lst xs)):
   ∃(its:List Value) (n:Nat),qE xs its/\s.heap.get? p=some {cls:=.type "list",data:=.seq its.toArray n}/\xs.length<=sizeLine:=by
 obtain⟨z,its,n,r,e⟩:=I.hok p _ h
 exact⟨its,n,r,e,z⟩
theorem qC.lstUpd {pins:List (Addr×Obj)} {σ:St} {H:Hp} {s:Shared} {p:Addr} {xs ys:List V} {its its':List Value} {n n':Nat} {f:Obj->Obj} (I:qC X pins σ H s) (h:H p=some (.lst xs))
   (ho:s.heap.get? p=some {cls:=.type "list",data:=.seq its.toArray n}) (hf:f {cls:=.type "list",data:=.seq its.toArray n}={cls:=.type "list",data:=.seq its'.toArray n'}) (r:qE ys its') (hz:ys.length<=sizeLine) (t:Nat):
   qC X pins σ (upd H p (.lst ys)) {s with heap:=s.heap.update p f,toks:=t}:=by
 have e:(s.heap.update p f).get? p=some {cls:=.type "list",data:=.seq its'.toArray n'}:=by
   rw[zaH f ho (by rw[hf]<;>rfl),hf]
 refine I.write (x:=p) (e:=p) (by rw[h];trivial) (.inl rfl) (λb u hb q=>(zal _ _ (Ne.symm hb)).trans q) ⟨_,e⟩ ?_
 exact⟨hz,its',n',r,e⟩
def M9:V->V->V->Hp->(Hp->Prop)->Prop:=λo i v H Q=>∃p xs k j,o=.ref p/\i=.int k/\H p=some (.lst xs)/\Ga xs.length k=some j/\Q (upd H p (.lst (xs.set j v)))
theorem xa:Me X M9:=by
 intro pins s σ H o i v ov iv u Q I ro ri rv h
 obtain⟨p,xs,k,j,rfl,rfl,hp,hj,q⟩:=h
 cases ro
 obtain⟨t,rfl⟩:=ri
 obtain⟨its,n,r,ho,hz⟩:=I.lst hp
 obtain⟨h1,h2,h3,h4⟩:=vJ hj
 have hl:=r.length
 have hn:=Z4
 have I':qC X pins σ (upd H p (.lst (xs.set j v))) {s with heap:=s.heap.update p (Obj.mapSeq (·.setIfInBounds j u))}:=
   I.lstUpd hp ho (Uh its n j u) (r.set rv j) (by rw[List.length_set];exact hz) s.toks
 by_cases h0:0<=k
 . have hk:k.toNat=j:=by
     rw[seqIndex_of h0 h4]at h1
     exact tO.inj h1
   exact PySem.W.ki_setAt ho h0 (by omega) (by rw[tX,<-hl];exact h4) (by rw[hk];exact⟨_,I',q⟩)
 . have hk:(k+(its.toArray.size:Int)).toNat=j:=by
     rw[seqIndex_neg (by omega) h3]at h1
     rw[tX,<-hl]
     exact tO.inj h1
   exact PySem.W.ki_setBack ho (by omega) (by rw[tX,<-hl];exact h3) (by omega) (by rw[hk];exact⟨_,I',q⟩)
theorem XY (lo hi:Option Int) (n:Nat):(sliceBounds lo hi none n).1=((HT.sIx n 0 lo:Nat):Int)/\(sliceBounds lo hi none n).2.1=((HT.sIx n n hi:Nat):Int)/\(sliceBounds lo hi none n).2.2=1:=by
 refine⟨?_,?_,rfl⟩
 . cases lo with
   | none=>simp [sliceBounds,HT.sIx]
   | some i=>
     simp only[sliceBounds,HT.sIx,zdF,show (1:Int) > 0 by decide,if_true]
     by_cases h:i < 0
     . simp only[h,if_true]<;>omega
     . simp only[h,if_false]<;>omega
 . cases hi with
   | none=>simp [sliceBounds,HT.sIx]
   | some i=>
     simp only[sliceBounds,HT.sIx,zdF,show (1:Int) > 0 by decide,if_true]
     by_cases h:i < 0
     . simp only[h,if_true]<;>omega
     . simp only[h,if_false]<;>omega
theorem Y1 (its:List Value) (lo hi:Option Int):slicePick its.toArray lo hi none=((its.drop (HT.sIx its.length 0 lo)).take (HT.sIx its.length its.length hi - HT.sIx its.length 0 lo)).toArray:=by
 obtain⟨h1,h2,h3⟩:=XY lo hi its.toArray.size
 unfold slicePick
 rw[h1,h2,h3]
 simp only[sliceRange_one,pick_run,tX]<;>rfl
def qbH (K:PySem.W.Frag):V->Option Int->Option Int->Hp->VK->Prop:=λx lo hi H Q=>∃a xs,x=.ref a/\SqL K H a xs/\∀p,H p=none->Q (.ref p) (upd H p (.lst (cutV xs lo hi)))
theorem Zu:SlR X (qbH X.K):=by
 intro pins s σ H x v vl vu lo hi sl Q I rx hs pl pu h
 obtain⟨a,xs,rfl,hx,q⟩:=h
 cases rx
 obtain⟨its,r,ht,hz⟩:=I.list hx
 have hlen:=r.length
 refine⟨"list",_,slot_list_getitem.lookup,ht.isList.typeIs,?_⟩
 refine wpAny_getItem_list_slice ht.isList hs pl pu .none (by simp) ?_ (by rw[tX]<;>omega)
 rw[Y1,<-hlen]
 refine⟨.ref s.heap.objs.size,_,I.laid (t':=s.toks) (o:=.lst (cutV xs lo hi)) (λb ob q=>tz _ q) (tw _) ?_,rfl,q _ (I.hok.fresh (tw _))⟩
 exact⟨tV (zw xs lo hi) hz,_,0,(r.drop (HT.sIx xs.length 0 lo)).take (HT.sIx xs.length xs.length hi - HT.sIx xs.length 0 lo),tU _ rfl⟩
def JD:V->Bool
 | .non=>true
 | .bl _=>true
 | .int _=>true
 | .str _=>true
 | _=>false
def Gn:V->V->Bool
 | .non,.non=>true
 | .bl a,.bl b=>a==b
 | .bl a,.int b=>(if a then 1 else 0)==b
 | .int a,.bl b=>a==(if b then 1 else 0)
 | .int a,.int b=>a==b
 | .str a,.str b=>a==b
 | _,_=>false
theorem N6 {A:Around} {s:Shared} {y x:V} {u v:Value} (ry:qL y u) (rx:qL x v) (fy:JD y=true) (fx:JD x=true):SeqAt.EqAt A s u v (Gn y x):=by
 cases y with
 | non=>
   cases ry
   cases x with
   | non=>cases rx;exact SeqAt.EqAt.same _
   | bl b=>cases rx;exact SeqAt.EqAt.none_bool b
   | int b=>obtain⟨t,rfl⟩:=rx;exact SeqAt.EqAt.none_int b t
   | str b=>obtain⟨t,rfl⟩:=rx;exact SeqAt.EqAt.none_str b t
   | _=>exact absurd (show false=true from fx) tK
 | bl a=>
   cases ry
   cases x with
   | non=>cases rx;exact SeqAt.EqAt.bool_none a
   | bl b=>cases rx;exact SeqAt.EqAt.bool_bool a b
   | int b=>obtain⟨t,rfl⟩:=rx;exact SeqAt.EqAt.bool_int a b t
   | str b=>obtain⟨t,rfl⟩:=rx;exact SeqAt.EqAt.bool_str a b t
   | _=>exact absurd (show false=true from fx) tK
 | int a=>
   obtain⟨t',rfl⟩:=ry
   cases x with
   | non=>cases rx;exact SeqAt.EqAt.int_none a t'
   | bl b=>cases rx;exact SeqAt.EqAt.int_bool a t' b
   | int b=>obtain⟨t,rfl⟩:=rx;exact SeqAt.EqAt.int_int a t' b t
   | str b=>obtain⟨t,rfl⟩:=rx;exact SeqAt.EqAt.int_str a t' b t
   | _=>exact absurd (show false=true from fx) tK
 | str a=>
   obtain⟨t',rfl⟩:=ry
   cases x with
   | non=>cases rx;exact SeqAt.EqAt.str_none a t'
   | bl b=>cases rx;exact SeqAt.EqAt.str_bool a t' b
   | int b=>obtain⟨t,rfl⟩:=rx;exact SeqAt.EqAt.str_int a t' b t
   | str b=>obtain⟨t,rfl⟩:=rx;exact SeqAt.EqAt.str_str a t' b t
   | _=>exact absurd (show false=true from fx) tK
 | _=>exact absurd (show false=true from fy) tK
def Us (x:V) (u:Value):Bool:=match u with
 | .none=>Gn .non x
 | .bool b=>Gn (.bl b) x
 | .int i _=>Gn (.int i) x
 | .str z _=>Gn (.str z) x
 | _=>false
theorem wX {x y:V} {u:Value} (r:qL y u) (f:JD y=true):Us x u=Gn y x:=by
 cases y with
 | non=>cases r;rfl
 | bl b=>cases r;rfl
 | int i=>obtain⟨t,rfl⟩:=r;rfl
 | str z=>obtain⟨t,rfl⟩:=r;rfl
 | _=>exact absurd (show false=true from f) tK
theorem ZN {x:V}:∀{xs:List V} {us:List Value},qE xs us->xs.all JD=true->us.any (Us x)=xs.any λy=>Gn y x
 | _,_,.nil,_=>rfl
 | y::xs,u::us,.cons r t,f=>by
   rw[zcM,zam]at f
   rw[zck,zck,wX r f.1,ZN t f.2]
theorem Jz {A:Around} {s:Shared} {x:V} {v:Value} (rx:qL x v) (fx:JD x=true):∀{xs:List V} {us:List Value},qE xs us->xs.all JD=true->∀u∈us,SeqAt.EqAt A s u v (Us x u)
 | _,_,.nil,_=>λu hu=>by cases hu
 | y::xs,u::us,.cons r t,f=>λu' hu=>by
   rw[zcM,zam]at f
   rcases zaa.mp hu with rfl | hu
   . rw[wX r f.1];exact N6 r rx f.1 fx
   . exact Jz rx fx t f.2 u' hu
def Jd (x:V) (xs:List V):Bool:=xs.any λy=>Gn y x
def Nj (K:PySem.W.Frag) (neg:Bool):R2:=λx y H Q=>∃p xs,y=.ref p/\(SqL K H p xs\/SqT K H p xs)/\JD x=true/\xs.all JD=true/\Q (.bl (if neg then !Jd x xs else Jd x xs)) H
theorem JR:Jw X (compareOp .In) (Nj X.K false):=by
 intro pins s σ H x y v u Q I rx ry h
 obtain⟨p,xs,rfl,hq,fx,fs,q⟩:=h
 cases ry
 rcases hq with hq | hq
 . obtain⟨its,r,pl,hz⟩:=I.list hq
   refine SeqAt.in_listAt (Us x) pl.isList (λw hw=>Jz rx fx r fs w (by simpa using hw)) ⟨.bl _,H,I,rfl,?_⟩
   rw[show its.toArray.any (Us x)=its.any (Us x) by simp,ZN r fs]
   exact q
 . obtain⟨its,r,pl,hz⟩:=I.tuple hq
   refine SeqAt.in_tupleAt (Us x) pl (λw hw=>Jz rx fx r fs w (by simpa using hw)) ⟨.bl _,H,I,rfl,?_⟩
   rw[show its.toArray.any (Us x)=its.any (Us x) by simp,ZN r fs]
   exact q
theorem jI:Jw X (compareOp .NotIn) (Nj X.K true):=by
 intro pins s σ H x y v u Q I rx ry h
 obtain⟨p,xs,rfl,hq,fx,fs,q⟩:=h
 cases ry
 rcases hq with hq | hq
 . obtain⟨its,r,pl,hz⟩:=I.list hq
   refine SeqAt.notIn_listAt (Us x) pl.isList (λw hw=>Jz rx fx r fs w (by simpa using hw)) ⟨.bl _,H,I,rfl,?_⟩
   rw[show its.toArray.any (Us x)=its.any (Us x) by simp,ZN r fs]
   exact q
 . obtain⟨its,r,pl,hz⟩:=I.tuple hq
   refine SeqAt.notIn_tupleAt (Us x) pl (λw hw=>Jz rx fx r fs w (by simpa using hw)) ⟨.bl _,H,I,rfl,?_⟩
   rw[show its.toArray.any (Us x)=its.any (Us x) by simp,ZN r fs]
   exact q
theorem qD:j8 X (.builtin "len") (λxs H Q=>∃p ys,xs=[.ref p]/\(SqL X.K H p ys\/SqT X.K H p ys)/\Q (.int ys.length) H):=by
 intro pins s σ H xs us Q I r h
 obtain⟨p,ys,rfl,hq,q⟩:=h
 obtain⟨u,rfl,rx⟩:=Qm r
 cases rx
 have hn:=Z4
 rcases hq with hq | hq
 . obtain⟨its,r',pl,hz⟩:=I.list hq
   have hlen:=r'.length
   exact Calls.call_len_list pl.isList (by simp only[tX]<;>omega) ⟨.int ys.length,H,I.tok _,⟨s.toks+1,by rw[tX,hlen]⟩,q⟩
 . obtain⟨its,r',pl,hz⟩:=I.tuple hq
   have hlen:=r'.length
   exact len_tuple pl (by simp only[tX]<;>omega) ⟨.int ys.length,H,I.tok _,⟨s.toks+1,by rw[tX,hlen]⟩,q⟩
theorem Jq:j8 X (.builtin "len") (λxs H Q=>∃z,xs=[.str z]/\z.length<=sizeLine/\Q (.int z.length) H):=by
 intro pins s σ H xs us Q I r h
 obtain⟨z,rfl,hz,q⟩:=h
 obtain⟨u,rfl,t,rfl⟩:=Qm r
 have hn:=Z4
 exact len_str (by omega) ⟨.int z.length,H,I.tok _,⟨_,rfl⟩,q⟩
theorem j1:j8 X (.type "list") (λxs H Q=>∃p ys,xs=[.ref p]/\(SqL X.K H p ys\/SqT X.K H p ys)/\∀l,H l=none->Q (.ref l) (upd H l (.lst ys))):=by
 intro pins s σ H xs us Q I r h
 obtain⟨p,ys,rfl,hq,q⟩:=h
 obtain⟨u,rfl,rx⟩:=Qm r
 cases rx
 have fin:∀(its:List Value),qE ys its->ys.length<=sizeLine->∀(h':Heap) (c':Nat),(∀b o',s.heap.get? b=some o'->h'.get? b=some o')->
     h'.get? s.heap.objs.size=some {cls:=.type "list",dict:=none,data:=.seq its.toArray c',slots:=#[]}->EP X pins σ Q (.ref s.heap.objs.size) {s with heap:=h'}:=λits r' hz h' c' kp e=>
   ⟨.ref s.heap.objs.size,_,I.laid (t':=s.toks) kp (tw _) (show qM X.prog X.w _ h' _ (.lst ys) from⟨hz,its,c',r',e⟩),rfl,q _ (I.hok.fresh (tw _))⟩
 rcases hq with hq | hq
 . obtain⟨its,r',pl,hz⟩:=I.list hq
   have hlen:=r'.length
   obtain⟨o,ho,hc,n,hd⟩:=pl.isList
   exact call_list_seq p (.inl rfl) ho hc hd (λh' c' kp e=>fin its r' hz h' c' kp e) (by simp only[tX]<;>omega)
 . obtain⟨its,r',pl,hz⟩:=I.tuple hq
   have hlen:=r'.length
   obtain⟨o,ho,hc,n,hd⟩:=pl
   exact call_list_seq p (.inr rfl) ho hc hd (λh' c' kp e=>fin its r' hz h' c' kp e) (by simp only[tX]<;>omega)
theorem J9:j8 X (.type "tuple") (λxs H Q=>∃p ys,xs=[.ref p]/\((SqL X.K H p ys/\∀l,H l=none->Q (.ref l) (upd H l (.tup ys)))\/(SqT X.K H p ys/\Q (.ref p) H))):=by
 intro pins s σ H xs us Q I r h
 obtain⟨p,ys,rfl,h⟩:=h
 obtain⟨u,rfl,rx⟩:=Qm r
 cases rx
 rcases h with ⟨hq,q⟩ | ⟨hq,q⟩
 . obtain⟨its,r',pl,hz⟩:=I.list hq
   have hlen:=r'.length
   refine call_tuple_list pl.isList (λh' kp=>?_) (by simp only[tX]<;>omega)
   have I1:qC X pins σ H {s with heap:=h'}:=I.kept (t':=s.toks) kp
   have I2:qC X pins σ (upd H h'.objs.size (.tup ys)) {s with heap:=h'.push {cls:=.type "tuple",data:=.seq its.toArray}}:=
     I1.laid (t':=s.toks) (λb o e=>tz _ e) (tw _) (show qM X.prog X.w _ _ _ (.tup ys) from⟨hz,its,r',IsTup.new _ _⟩)
   exact⟨.ref h'.objs.size,_,I2,rfl,q _ (I1.hok.fresh (tw _))⟩
 . obtain⟨its,r',pl,hz⟩:=I.tuple hq
   exact call_tuple_same pl ⟨.ref p,H,I,rfl,q⟩
def tyV (K:PySem.W.Frag) (T:String) (x:V) (H:Hp):Prop:=match x with
 | .str _=>T="str"
 | .int _=>T="int"
 | .ref p=>(T="list"/\∃xs,SqL K H p xs)\/(T="tuple"/\∃o,K.lookup p=some o/\o.cls=.type "tuple"/\o.dict=none)\/
     (T="dict"/\((∃kvs,H p=some (.dK kvs))\/∃kvs,H p=some (.dT kvs)))\/(T="set"/\∃S n,H p=some (.set S n))
 | _=>False
theorem yC {pins:List (Addr×Obj)} {σ:St} {H:Hp} {s:Shared} {T:String} {x:V} {v:Value} (I:qC X pins σ H s) (r:qL x v) (ty:tyV X.K T x H):
   s.TypeIs v T/\∀a,v=.ref a->∃ob,s.heap.get? a=some ob/\ob.dict=none:=by
 cases x with
 | str z=>
   obtain⟨t,rfl⟩:=r
   cases (show T="str" from ty)
   exact⟨typeIs_str s z t,λ_ e=>nomatch e⟩
 | int i=>
   obtain⟨t,rfl⟩:=r
   cases (show T="int" from ty)
   exact⟨typeIs_int s i t,λ_ e=>nomatch e⟩
 | ref p=>
   cases r
   rcases ty with ⟨rfl,xs,hq⟩ | ⟨rfl,o,hk,hc,hd⟩ | ⟨rfl,hk⟩ | ⟨rfl,S,n,hk⟩
   . obtain⟨its,_,pl,_⟩:=I.list hq
     refine⟨pl.isList.typeIs,λa e=>?_⟩
     cases e
     obtain⟨o,n,e,c,hd,_⟩:=pl
     exact⟨o,e,hd⟩
   . refine⟨⟨o,I.kIn p o hk,hc⟩,λa e=>?_⟩
     cases e
     exact⟨o,I.kIn _ o hk,hd⟩
   . have z:∃o,s.heap.get? p=some o/\o.ExactDict:=by
       rcases hk with ⟨kvs,hk⟩ | ⟨kvs,hk⟩
       . obtain⟨_,_,_,_,o,_,_,e,ex,_⟩:=I.hok p _ hk
         exact⟨o,e,ex⟩
       . obtain⟨_,_,_,_,o,_,_,e,ex,_⟩:=I.hok p _ hk
         exact⟨o,e,ex⟩
     obtain⟨o,e,ex⟩:=z
     refine⟨⟨o,e,ex.1⟩,λa e2=>?_⟩
     cases e2
     exact⟨o,e,ex.2.1⟩
   . obtain⟨o,_,_,_,e,ex,_⟩:=I.hok p _ hk
     refine⟨⟨o,e,ex.1⟩,λa e2=>?_⟩
     cases e2
     exact⟨o,e,ex.2.1⟩
 | _=>exact False.elim ty
def qbq (K:PySem.W.Frag) (T:String) (r:V->List V->Hp->VK->Prop) (to:TE):TE:=λσ H Q=>to σ H λx H1=>tyV K T x H1/\r x [] H1 Q
def MJ (K:PySem.W.Frag) (T:String) (r:V->List V->Hp->VK->Prop) (to:TE) (t:TA):TE:=λσ H Q=>to σ H λx H1=>tyV K T x H1/\t σ H1 λxs H2=>r x xs H2 Q
variable {o e:Expr} {es:List Expr} {to:TE} {t:TA} {name:Str} {apos cpos:Pos} {T id:String} {r:V->List V->Hp->VK->Prop}
theorem Ul (pa:PlainAttrs T) (slot:Slot T name id) (hty:typeOf (.builtin id)=pure (.type "method_descriptor")) (hm:Mh X id r) (ho:JE X o to) (hbase:attributeBase o name X.env (eval o X.env)=eval o X.env:=by rfl) (hline:(apos.endLine==cpos.line)=true:=by rfl):JE X (.Call (.Attribute o name apos) [] [] cpos) (qbq X.K T r to):=.of (by
 have ho:=ho.to
 intro pins s σ H Q I h
 refine wpAny_Call_method0_late hbase hline (ji (ho pins s σ H _ I h) λv s1 ⟨x,H1,I1,r1,ty,q1⟩=>?_)
 obtain⟨h1,h2⟩:=yC I1 r1 ty
 exact⟨T,id,pa,slot,hty,h1,h2,Calls.callWith_builtin rfl (PySem.evalArgs_none (hm pins s1 σ H1 x [] v [] Q I1 r1 .nil q1))⟩)
theorem qag (pa:PlainAttrs T) (slot:Slot T name id) (hty:typeOf (.builtin id)=pure (.type "method_descriptor")) (hm:Mh X id r) (ho:PE X o to) (ha:PA X (e::es) t)
   (hbase:attributeBase o name X.env (eval o X.env)=eval o X.env:=by rfl)
   (hfew:((backTo cpos (starEach (e::es) X.env)).all (λx=> !x.1)&&(backToKw cpos (keywordEach [] X.env)).all (λx=>x.1.isSome)
     &&decide ((e::es).length+([]:List Keyword).length+(if ([]:List Keyword).isEmpty then 0 else 1) < 30))=true:=by rfl)
   (hline:(apos.endLine==cpos.line)=true:=by rfl) (hs:starEach (e::es) X.env=(false,eval e X.env)::starEach es X.env:=by rfl) (hplain:(backTo cpos (starEach es X.env)).any (·.1)=false:=by rfl):
   PE X (.Call (.Attribute o name apos) (e::es) [] cpos) (MJ X.K T r to t):=by
 intro pins s σ H Q I h
 refine wpAny_Call_method_late hbase hfew hline rfl (ji (ho pins s σ H _ I h) λv s1 ⟨x,H1,I1,r1,ty,q1⟩=>?_)
 obtain⟨h1,h2⟩:=yC I1 r1 ty
 refine⟨T,id,pa,slot,hty,h1,h2,?_⟩
 have hA:=ha cpos pins s1 σ H1 _ I1 q1
 rw[hs]at hA ⊢
 refine Calls.callWith_builtin (by show (false || (backTo cpos (starEach es X.env)).any (·.1))=false;rw[hplain]<;>rfl) (Calls.evalArgs_plain ?_)
 exact ji hA λus s2 ⟨vs,H2,I2,r2,q2⟩=>hm pins s2 σ H2 x vs v us Q I2 r1 r2 q2
theorem QV (pa:PlainAttrs T) (slot:Slot T name id) (hty:typeOf (.builtin id)=pure (.type "method_descriptor")) (hm:Mh X id r) (ho:JE X o to) (ha:JA X (e::es) t) (hbase:attributeBase o name X.env (eval o X.env)=eval o X.env:=by rfl) (hfew:((backTo cpos (starEach (e::es) X.env)).all (λx=> !x.1)&&(backToKw cpos (keywordEach [] X.env)).all (λx=>x.1.isSome)
     &&decide ((e::es).length+([]:List Keyword).length+(if ([]:List Keyword).isEmpty then 0 else 1) < 30))=true:=by rfl) (hline:(apos.endLine==cpos.line)=true:=by rfl) (hs:starEach (e::es) X.env=(false,eval e X.env)::starEach es X.env:=by rfl) (hplain:(backTo cpos (starEach es X.env)).any (·.1)=false:=by rfl):JE X (.Call (.Attribute o name apos) (e::es) [] cpos) (MJ X.K T r to t):=.of (qag pa slot hty hm ho.to ha.to hbase hfew hline hs hplain)
end
def MtM (X:Cx) (id:String) (r:V->List V->Hp->VK->Prop):Prop:=
 ∀(pins:List (Addr×Obj)) (s:Shared) (σ:St) (H:Hp) (x:V) (xs:List V) (v:Value) (us:List Value) (Q:VK),qC X pins σ H s->qL x v->qE xs us->r x xs H Q->
   wpAny (model X.prog X.w) X.A (call (.builtin id) (v::us)) (EP X pins σ Q) X.xe s
theorem qE.one:∀{x:V} {us:List Value},qE [x] us->∃u,us=[u]/\qL x u
 | _,_,.cons r .nil=>⟨_,rfl,r⟩
theorem qE.zero:∀{us:List Value},qE [] us->us=[]
 | _,.nil=>rfl
theorem qE.eraseIdx:∀{xs:List V} {us:List Value} (i:Nat),qE xs us->qE (xs.eraseIdx i) (us.eraseIdx i)
 | _,_,_,.nil=>.nil
 | _,_,0,.cons _ t=>t
 | _,_,i+1,.cons r t=>.cons r (qE.eraseIdx i t)
theorem qE.reverse {xs:List V} {us:List Value} (h:qE xs us):qE xs.reverse us.reverse:=by
 induction h with
 | nil=>exact .nil
 | cons r t ih=>rw[zdA,zdA];exact qE.append ih (.cons r .nil)
theorem Xx {α:Type}:∀(l:List α) (i:Nat),(l.eraseIdx i).length<=l.length
 | [],_=>tw _
 | _::_,0=>zbw _
 | _::r,i+1=>zcP (Xx r i)
section
variable {X:Cx} {pins:List (Addr×Obj)} {σ:St} {H:Hp} {s:Shared} {l b:Addr} {xs ys zs:List V}
theorem qC.lset {its its':List Value} {n:Nat} {f:Array Value->Array Value} {t':Nat} (I:qC X pins σ H s) (hH:H l=some (.lst xs))
   (e:s.heap.get? l=some {cls:=.type "list",data:=.seq its.toArray n}) (hf:f its.toArray=its'.toArray) (hv:qE ys its') (hz:ys.length<=sizeLine):
   qC X pins σ (upd H l (.lst ys)) {s with heap:=s.heap.update l (Obj.mapSeq f),toks:=t'}:=by
 have q:=PySem.IsL.update e f
 rw[hf]at q
 refine I.write (x:=l) (e:=l) (by rw[hH];exact trivial) (.inl rfl) (λb' u hb hu=>(zal s.heap (Obj.mapSeq f) (Ne.symm hb)).trans hu) ⟨_,q⟩ ?_
 exact⟨hz,its',_,hv,q⟩
theorem qC.lstM (I:qC X pins σ H s) (hH:H l=some (.lst xs)):xs.length<=sizeLine/\∃(its:List Value) (n:Nat),qE xs its/\xs.length=its.length/\s.heap.get? l=some {cls:=.type "list",data:=.seq its.toArray n}:=by
 obtain⟨z,its,n,r,e⟩:=I.hok l _ hH
 exact⟨z,its,n,r,r.length,e⟩
theorem x3 {n:Nat} (h:n<=sizeLine):Builtin.List.listTooLong n=false:=by
 unfold Builtin.List.listTooLong
 exact decide_eq_false (by omega)
end
section
variable {X:Cx}
def We:V->List V->Hp->VK->Prop:=λx vs H Q=>∃l xs y,x=.ref l/\vs=[y]/\H l=some (.lst xs)/\xs.length < sizeLine/\Q .non (upd H l (.lst (xs++[y])))
theorem jY:MtM X "list.append" We:=by
 intro pins s σ H x vs v us Q I rx rv h
 obtain⟨l,xs,y,rfl,rfl,hH,hz,q⟩:=h
 cases rx
 obtain⟨u,rfl,ru⟩:=rv.one
 obtain⟨z,its,n,r,hl,e⟩:=I.lstM hH
 refine call_meets F.slot_list_append ⟨_,e,rfl⟩ F.entry_list_append (F.args_list_append_2 _ _) (PySem.list_append l its.toArray n u (by rw[tX];omega)) ⟨e,?_⟩
 refine⟨.non,_,I.lset (its':=its++[u]) hH e (by simp) (r.append (.cons ru .nil)) ?_,rfl,q⟩
 rw[tL,zas]
 omega
def Kp:V->List V->Hp->VK->Prop:=λx vs H Q=>∃l b xs zs,x=.ref l/\vs=[.ref b]/\H l=some (.lst xs)/\H b=some (.lst zs)/\xs.length+zs.length<=sizeLine/\Q .non (upd H l (.lst (xs++zs)))
theorem Z2:MtM X "list.extend" Kp:=by
 intro pins s σ H x vs v us Q I rx rv h
 obtain⟨l,b,xs,zs,rfl,rfl,hH,hB,hz,q⟩:=h
 cases rx
 obtain⟨u,rfl,ru⟩:=rv.one
 cases ru
 obtain⟨z,its,n,r,hl,e⟩:=I.lstM hH
 obtain⟨z2,its2,n2,r2,hl2,e2⟩:=I.lstM hB
 have hsz:its.toArray.size+its2.toArray.size<=sizeLine:=by rw[tX,tX];omega
 have hlong:¬(!its.toArray.isEmpty&&Builtin.List.listTooLong (its.toArray.size+its2.toArray.size))=true:=by
   rw[x3 hsz,Bool.and_false]
   exact tK
 refine call_meets F.slot_list_extend ⟨_,e,rfl⟩ F.entry_list_extend (F.args_list_extend_2 _ _)
   (AutoSeq1.list_extend_list_list_0 l its.toArray n b its2.toArray n2 hlong (by rw[tX];omega) (by omega)) ⟨e,e2,?_⟩
 refine⟨.non,_,I.lset (its':=its++its2) hH e (by simp) (r.append r2) ?_,rfl,q⟩
 rw[tL]
 omega
def xt:V->List V->Hp->VK->Prop:=λx vs H Q=>∃l xs i k y,x=.ref l/\vs=[.int i]/\H l=some (.lst xs)/\-(2^63)<=i/\i < 2^63/\seqIndex? i xs.length=some k/\xs[k]?=some y/\Q y (upd H l (.lst (xs.eraseIdx k)))
theorem x8:MtM X "list.pop" xt:=by
 intro pins s σ H x vs v us Q I rx rv h
 obtain⟨l,xs,i,k,y,rfl,rfl,hH,h1,h2,hk,hy,q⟩:=h
 cases rx
 obtain⟨u,rfl,ru⟩:=rv.one
 obtain⟨t,rfl⟩:=ru
 obtain⟨z,its,n,r,hl,e⟩:=I.lstM hH
 obtain⟨w,hw,rw'⟩:=r.get hy
 refine call_meets F.slot_list_pop ⟨_,e,rfl⟩ F.entry_list_pop (F.args_list_pop_2 _ _)
   (MeetsSeq.list_pop_at l its.toArray n i t k w (fitsIndex_both h1 h2) (by rw[tX,<-hl];exact hk) (by rw[<-zdk];exact hw) (by rw[tX];omega)) ⟨e,?_⟩
 refine⟨y,_,I.lset (its':=its.eraseIdx k) hH e ?_ (r.eraseIdx k) ?_,rw',q⟩
 . show its.toArray.eraseIdxIfInBounds k=(its.eraseIdx k).toArray
   rw[List.eraseIdxIfInBounds_toArray]
 . have:=Xx xs k
   omega
def xr:V->List V->Hp->VK->Prop:=λx vs H Q=>∃l xs,x=.ref l/\vs=[]/\H l=some (.lst xs)/\Q .non (upd H l (.lst xs.reverse))
theorem Uf:MtM X "list.reverse" xr:=by
 intro pins s σ H x vs v us Q I rx rv h
 obtain⟨l,xs,rfl,rfl,hH,q⟩:=h
 cases rx
 have hus:=rv.zero
 subst hus
 obtain⟨z,its,n,r,hl,e⟩:=I.lstM hH
 refine call_meets F.slot_list_reverse ⟨_,e,rfl⟩ F.entry_list_reverse (F.args_list_reverse_1 _) (AutoSeq1.list_reverse_list_0 l its.toArray n (by rw[tX];omega)) ⟨e,?_⟩
 refine⟨.non,_,I.lset (its':=its.reverse) hH e (by simp) r.reverse ?_,rfl,q⟩
 rw[zbU]
 omega
end
section
variable {prog:Program} {w:World} {A:Around} {E:Value->Shared->Prop} {s:Shared}
set_option maxRecDepth 100000 in
end
section
variable {X:Cx}
end
section
variable {κ:Type} [DecidableEq κ]
def qS (kvs:List (κ×V)) (k:κ):Option V:=(kvs.find? λkv=>decide (kv.1=k)).map (·.2)
def jT (kvs:List (κ×V)) (k:κ) (v:V):List (κ×V):=
 if (kvs.any λkv=>decide (kv.1=k))=true then kvs.map (λkv=>if kv.1=k then (kv.1,v) else kv) else kvs++[(k,v)]
def QC (kvs:List (κ×V)) (k:κ):List (κ×V):=kvs.filter λkv=>decide (kv.1≠k)
theorem jn {p:κ×V} {r:List (κ×V)} {k:κ} (e:p.1=k):qS (p::r) k=some p.2:=by simp [qS,zbq,e]
theorem jh {p:κ×V} {r:List (κ×V)} {k:κ} (e:¬p.1=k):qS (p::r) k=qS r k:=by simp [qS,zbq,e]
theorem Qs (k:κ):∀kvs:List (κ×V),(kvs.any λkv=>decide (kv.1=k))=(qS kvs k).isSome
 | []=>rfl
 | p::r=>by
   rw[zck]
   by_cases e:p.1=k
   . simp only[jn e,decide_eq_true e,Bool.true_or,Option.isSome_some]
   . rw[jh e,decide_eq_false e,Bool.false_or];exact Qs k r
theorem WM (k j:κ) (y:V):∀kvs:List (κ×V),qS (kvs.map λkv=>if kv.1=k then (kv.1,y) else kv) j=(qS kvs j).map λx=>if j=k then y else x
 | []=>rfl
 | p::r=>by
   have ih:=WM k j y r
   rw[tS]
   by_cases h:p.1=k
   . rw[if_pos h]
     by_cases e:p.1=j
     . rw[jn (p:=(p.1,y)) e,jn e,zcb,if_pos (e.symm.trans h)]
     . rw[jh (p:=(p.1,y)) e,jh e,ih]
   . rw[if_neg h]
     by_cases e:p.1=j
     . rw[jn (p:=p) e,jn e,zcb,if_neg (λz=>h (e.trans z))]
     . rw[jh (p:=p) e,jh e,ih]
theorem Xd (k j:κ) (y:V):∀kvs:List (κ×V),qS kvs k=none->qS (kvs++[(k,y)]) j=if j=k then some y else qS kvs j
 | [],_=>by
   by_cases e:k=j
   . rw[if_pos e.symm];exact jn (p:=(k,y)) e
   . rw[if_neg (λz=>e z.symm)];exact jh (p:=(k,y)) e
 | p::r,hn=>by
   rw[List.cons_append]
   have hk:¬p.1=k:=λz=>by rw[jn z]at hn;cases hn
   rw[jh hk]at hn
   have ih:=Xd k j y r hn
   by_cases e:p.1=j
   . rw[jn e,jn e,if_neg (λz=>hk (e.trans z))]
   . rw[jh e,jh e,ih]
theorem Q2 (kvs:List (κ×V)) (k j:κ) (y:V):qS (jT kvs k y) j=if j=k then some y else qS kvs j:=by
 unfold jT
 by_cases a:(kvs.any λkv=>decide (kv.1=k))=true
 . rw[if_pos a,WM]
   rw[Qs]at a
   by_cases e:j=k
   . obtain⟨x,hx⟩:=zbV.mp a
     rw[if_pos e,e,hx,zcb,if_pos rfl]
   . rw[if_neg e]
     cases qS kvs j with
     | none=>rfl
     | some x=>rw[zcb,if_neg e]
 . rw[if_neg a]
   refine Xd k j y kvs ?_
   rw[Qs]at a
   cases q:qS kvs k with
   | none=>rfl
   | some x=>rw[q]at a;exact(a rfl).elim
theorem QR (kvs:List (κ×V)) (k:κ) (v:V):(jT kvs k v).length<=kvs.length+1:=by
 unfold jT
 split
 . rw[tj];omega
 . rw[tL,zat,zdg];omega
theorem Q8 {kvs:List (κ×V)} {k:κ} (v:V) (h:qS kvs k=none):jT kvs k v=kvs++[(k,v)]:=by
 unfold jT
 rw[Qs,h]
 exact if_neg (by decide)
theorem Jr.isSome_eq {o:Option V} {u:Option Value} (r:Jr o u):o.isSome=u.isSome:=by
 cases o with
 | none=>cases u with
   | none=>rfl
   | some _=>exact(show False from r).elim
 | some _=>cases u with
   | none=>exact(show False from r).elim
   | some _=>rfl
theorem KV.val {kvs:List (κ×V)} {vs:List (κ×Value)} (r:KV kvs vs) (k:κ):Jr (qS kvs k) (valueAt vs k):=by
 unfold KV at r
 induction r with
 | nil=>exact True.intro
 | @cons p q ps qs h t ih=>
   obtain⟨h1,h2⟩:=h
   by_cases e:p.1=k
   . have e':q.1=k:=h1.symm.trans e
     have b:valueAt (q::qs) k=some q.2:=by simp [valueAt,zbq,e']
     rw[jn e,b];exact h2
   . have e':¬q.1=k:=λz=>e (h1.trans z)
     have b:valueAt (q::qs) k=valueAt qs k:=by simp [valueAt,zbq,e']
     rw[jh e,b];exact ih
theorem KV.any {kvs:List (κ×V)} {vs:List (κ×Value)} (r:KV kvs vs) (k:κ):(kvs.any λkv=>decide (kv.1=k))=vs.any λkv=>decide (kv.1=k):=by
 unfold KV at r
 induction r with
 | nil=>rfl
 | cons h t ih=>rw[zck,zck,ih,h.1]
theorem KV.repl {kvs:List (κ×V)} {vs:List (κ×Value)} (r:KV kvs vs) (k:κ) {y:V} {u:Value} (ry:qL y u):
   KV (kvs.map λkv=>if kv.1=k then (kv.1,y) else kv) (vs.map λkv=>if kv.1=k then (kv.1,u) else kv):=by
 unfold KV at r ⊢
 induction r with
 | nil=>exact .nil
 | @cons p q ps qs h t ih=>
   rw[tS,tS]
   refine .cons ?_ ih
   obtain⟨h1,h2⟩:=h
   by_cases e:p.1=k
   . rw[if_pos e,if_pos (h1.symm.trans e)];exact⟨h1,ry⟩
   . rw[if_neg e,if_neg (λz=>e (h1.trans z))];exact⟨h1,h2⟩
theorem KV.put {kvs:List (κ×V)} {vs:List (κ×Value)} (r:KV kvs vs) (k:κ) {y:V} {u:Value} (ry:qL y u):KV (jT kvs k y) (stored vs k u):=by
 unfold jT stored
 rw[r.any k]
 by_cases e:(vs.any λkv=>decide (kv.1=k))=true
 . rw[if_pos e,if_pos e];exact r.repl k ry
 . rw[if_neg e,if_neg e];exact Paired.snoc r ⟨rfl,ry⟩
theorem KV.drop {kvs:List (κ×V)} {vs:List (κ×Value)} (r:KV kvs vs) (k:κ):KV (QC kvs k) (without vs k):=by
 unfold KV at r ⊢
 unfold QC without
 induction r with
 | nil=>exact .nil
 | @cons p q ps qs h t ih=>
   obtain⟨h1,h2⟩:=h
   rw[zbi,zbi]
   by_cases e:p.1=k
   . have a:¬decide (p.1≠k)=true:=by simp [e]
     have b:¬decide (q.1≠k)=true:=by simp [h1.symm.trans e]
     rw[if_neg a,if_neg b];exact ih
   . have e':¬q.1=k:=λz=>e (h1.trans z)
     have a:decide (p.1≠k)=true:=by simp [e]
     have b:decide (q.1≠k)=true:=by simp [e']
     rw[if_pos a,if_pos b];exact .cons ⟨h1,h2⟩ ih
theorem KV.length {kvs:List (κ×V)} {vs:List (κ×Value)} (r:KV kvs vs):kvs.length=vs.length:=Paired.length r
theorem w6 (kvs:List (κ×V)) (k:κ):(QC kvs k).length<=kvs.length:=zao _ _
end
theorem zq {P:Program} {w:World} {k:qF} {u:Value} (r:qL (kV k) u):(qU P w).is k u=true:=by
 cases k with
 | inl i=>obtain⟨t,e⟩:=(show ∃t,u=Value.int i t from r);subst e;exact Vg P w i t
 | inr x=>obtain⟨t,e⟩:=(show ∃t,u=Value.str x t from r);subst e;exact Vf P w x t
theorem XA {P:Program} {w:World}:∀{ks:List qF} {us:List Value},qE (ks.map kV) us->ItemsAre (qU P w) ks us
 | [],_,r=>by rw[zcf]at r;cases r;exact .nil
 | k::ks,_,r=>by
   rw[tS]at r
   cases r with
   | cons h t=>exact .cons (zq h) (XA t)
abbrev KT (H:Hp):List (List qF×V)->List (List qF×Addr×Value)->Prop:=Paired λp q=>p.1=q.1/\H q.2.1=some (.tup (p.1.map kV))/\qL p.2 q.2.2
theorem KT.val {H:Hp} {kvs:List (List qF×V)} {xs:List (List qF×Addr×Value)} (r:KT H kvs xs) (k:List qF):Jr (qS kvs k) ((atKey xs k).map (·.2)):=by
 induction r with
 | nil=>exact True.intro
 | @cons p q ps qs h t ih=>
   obtain⟨h1,_,h2⟩:=h
   by_cases e:p.1=k
   . have e':q.1=k:=h1.symm.trans e
     have b:atKey (q::qs) k=some q.2:=by simp [atKey,zbq,e']
     rw[jn e,b];exact h2
   . have e':¬q.1=k:=λz=>e (h1.trans z)
     have b:atKey (q::qs) k=atKey qs k:=by simp [atKey,zbq,e']
     rw[jh e,b];exact ih
theorem KT.repl {H:Hp} {kvs:List (List qF×V)} {xs:List (List qF×Addr×Value)} (r:KT H kvs xs) (k:List qF) {y:V} {u:Value} (ry:qL y u):
   KT H (kvs.map λkv=>if kv.1=k then (kv.1,y) else kv) (xs.map (putAt k u)):=by
 induction r with
 | nil=>exact .nil
 | @cons p q ps qs h t ih=>
   rw[tS,tS]
   refine .cons ?_ ih
   obtain⟨h1,h2,h3⟩:=h
   unfold putAt
   by_cases e:p.1=k
   . rw[if_pos e,if_pos (h1.symm.trans e)];exact⟨h1,h2,ry⟩
   . rw[if_neg e,if_neg (λz=>e (h1.trans z))];exact⟨h1,h2,h3⟩
theorem KT.put {H:Hp} {kvs:List (List qF×V)} {xs:List (List qF×Addr×Value)} (r:KT H kvs xs) (k:List qF) {b:Addr} {y:V} {u:Value} (hb:H b=some (.tup (k.map kV))) (ry:qL y u):
   KT H (jT kvs k y) (storedH xs k b u):=by
 have e:(kvs.any λkv=>decide (kv.1=k))=(atKey xs k).isSome:=by
   rw[Qs,(r.val k).isSome_eq,zcJ]
 unfold jT storedH
 rw[e]
 by_cases q:(atKey xs k).isSome=true
 . rw[if_pos q,if_pos q];exact r.repl k ry
 . rw[if_neg q,if_neg q];exact Paired.snoc r ⟨rfl,hb,ry⟩
theorem KT.keeps {H H':Hp} {kvs:List (List qF×V)} {xs:List (List qF×Addr×Value)} (r:KT H kvs xs) (ht:∀b ys,H b=some (.tup ys)->H' b=some (.tup ys)):KT H' kvs xs:=
 Paired.mapP r λ_ _ z=>⟨z.1,ht _ _ z.2.1,z.2.2⟩
section
variable {P:Program} {w:World} {H:Hp} {h:Heap} {a:Addr}
theorem Rl {u:HO} (ok:Je P w H h) (e:Rd H a u):qM P w H h a u:=e.ok ok
theorem YI {kvs:List (qF×V)} (ok:Je P w H h) (e:Rd H a (.dK kvs)):kvs.length<=sizeLine/\(a==sysModules)=false/\∃vs,KV kvs vs/\h.DictOf (qU P w) a vs:=
 show qM P w H h a (.dK kvs) from Rl ok e
theorem zt {kvs:List (qF×V)} (ok:Je P w H h) (e:H a=some (.dK kvs)):kvs.length<=sizeLine/\(a==sysModules)=false/\∃vs,KV kvs vs/\h.DictOf (qU P w) a vs:=YI ok (.inl e)
theorem Yy {ks:List qF} (ok:Je P w H h) (e:H a=some (.tup (ks.map kV))):(tupleKind (qU P w)).is h ks a:=by
 obtain⟨_,its,r,o,h1,h2,n,h3⟩:=(show qM P w H h a (.tup (ks.map kV)) from ok a _ e)
 exact⟨o,its.toArray,n,h1,h2,h3,by simpa using XA r⟩
theorem XC {kvs:List (List qF×V)} (ok:Je P w H h) (e:Rd H a (.dT kvs)):kvs.length<=sizeLine/\(a==sysModules)=false/\
   ∃xs,KT H kvs xs/\h.DictOfH (tupleKind (qU P w)) a xs:=by
 obtain⟨z,y,xs,r,o,es,ep,h1,h2,h3,h4,h5⟩:=(show qM P w H h a (.dT kvs) from Rl ok e)
 refine⟨z,y,xs,r,o,es,ep,h1,h2,h3,h4,λx hx=>?_,h5⟩
 have all:∀{l:List (List qF×V)} {m:List (List qF×Addr×Value)},KT H l m->∀x∈m,(tupleKind (qU P w)).is h x.1 x.2.1:=by
   intro l m q
   induction q with
   | nil=>intro x hx;exact nomatch hx
   | @cons p q ps qs hq t ih=>
     intro x hx
     rcases zaa.mp hx with e | hx
     . subst e
       exact Yy ok (by rw[<-hq.1];exact hq.2.1)
     . exact ih x hx
 exact all r x hx
theorem qaM {kvs:List (List qF×V)} (ok:Je P w H h) (e:H a=some (.dT kvs)):kvs.length<=sizeLine/\(a==sysModules)=false/\
   ∃xs,KT H kvs xs/\h.DictOfH (tupleKind (qU P w)) a xs:=XC ok (.inl e)
end
def jU (H:Hp) (a:Addr) (y:V) (r:Option V):Prop:=
 (∃kvs k,Rd H a (.dK kvs)/\y=kV k/\r=qS kvs k)\/∃kvs k b,Rd H a (.dT kvs)/\y=.ref b/\H b=some (.tup (k.map kV))/\r=qS kvs k
def Jc (H:Hp) (a:Addr) (y v:V) (H':Hp):Prop:=
 (∃kvs k,H a=some (.dK kvs)/\y=kV k/\kvs.length < sizeLine/\H'=upd H a (.dK (jT kvs k v)))\/
 ∃kvs k b,H a=some (.dT kvs)/\y=.ref b/\H b=some (.tup (k.map kV))/\kvs.length < sizeLine/\H'=upd H a (.dT (jT kvs k v))
theorem jU.k {H:Hp} {a:Addr} {kvs:List (qF×V)} {k:qF} (e:H a=some (.dK kvs)):jU H a (kV k) (qS kvs k):=.inl ⟨kvs,k,.inl e,rfl,rfl⟩
theorem Jc.k {H:Hp} {a:Addr} {kvs:List (qF×V)} {k:qF} {v:V} (e:H a=some (.dK kvs)) (hl:kvs.length < sizeLine):Jc H a (kV k) v (upd H a (.dK (jT kvs k v))):=.inl ⟨kvs,k,e,rfl,hl,rfl⟩
theorem Jc.t {H:Hp} {a b:Addr} {kvs:List (List qF×V)} {k:List qF} {v:V} (e:H a=some (.dT kvs)) (eb:H b=some (.tup (k.map kV))) (hl:kvs.length < sizeLine):
   Jc H a (.ref b) v (upd H a (.dT (jT kvs k v))):=.inr ⟨kvs,k,b,e,rfl,eb,hl,rfl⟩
section
variable {X:Cx} {pins:List (Addr×Obj)} {σ:St} {H:Hp} {s:Shared} {a:Addr} {y v:V} {u r:Value} {o:Option V} {A:Around} {E:Value->Shared->Prop}
theorem qC.big (I:qC X pins σ H s):sysModules < s.heap.objs.size:=by
 have h:mainGlobals < s.heap.objs.size:=(I.mod.glob.keeps I.bk).lt
 exact zdb (by decide) h
theorem yq {Q:Value->Shared->Prop} (hu:A.units+1 < cLine) (I:qC X pins σ H s) (g:jU H a y (some v)) (ry:qL y u) (h:∀w' s',qC X pins σ H s'->qL v w'->Q w' s'):
   wpAny (model X.prog X.w) A (getItem (.ref a) u) Q E s:=by
 rcases g with ⟨kvs,k,e,ey,l⟩ | ⟨kvs,k,b,e,ey,eb,l⟩
 . subst ey
   obtain⟨z,hd,vs,rel,dd⟩:=YI I.hok e
   obtain⟨w',hw,rw'⟩:=Jr.some_of (v:=v) (o:=valueAt vs k) (by rw[l];exact rel.val k)
   exact wpAny_getItem_of (zq ry) dd.mapOf hw (h w' _ (I.tok _) rw')
 . subst ey
   cases (show u=Value.ref b from ry)
   obtain⟨z,hd,xs,rel,dd⟩:=XC I.hok e
   obtain⟨w',hw,rw'⟩:=Jr.some_of (v:=v) (o:=(atKey xs k).map (·.2)) (by rw[l];exact rel.val k)
   obtain⟨p,hp,hp2⟩:=zcg.mp hw
   refine wpAny_getItem_heap (tupleKind_room_in1 hu) (Yy I.hok eb) dd hp ?_
   rw[hp2]
   exact h w' _ (I.tok _) rw'
theorem qb4 {Q:Value->Shared->Prop} (hu:A.units+1 < cLine) (I:qC X pins σ H s) (g:jU H a y o) (ry:qL y u) (h:∀s',qC X pins σ H s'->Q (.bool o.isSome) s'):
   wpAny (model X.prog X.w) A (compareOp .In u (.ref a)) Q E s:=by
 rcases g with ⟨kvs,k,e,ey,l⟩ | ⟨kvs,k,b,e,ey,eb,l⟩
 . subst ey
   obtain⟨z,hd,vs,rel,dd⟩:=YI I.hok e
   refine wpAny_in_of (zq ry) hd dd.mapOf ?_
   rw[<-(rel.val k).isSome_eq,<-l]
   exact h _ (I.tok _)
 . subst ey
   cases (show u=Value.ref b from ry)
   obtain⟨z,hd,xs,rel,dd⟩:=XC I.hok e
   refine wpAny_in_heap (tupleKind_room_in1 hu) (Yy I.hok eb) hd dd ?_
   have q:=(rel.val k).isSome_eq
   rw[zcJ]at q
   rw[<-q,<-l]
   exact h _ (I.tok _)
theorem Gp {Q:Value->Shared->Prop} (hu:A.units+1 < cLine) (I:qC X pins σ H s) (g:jU H a y o) (ry:qL y u) (h:∀s',qC X pins σ H s'->Q (.bool (!o.isSome)) s'):
   wpAny (model X.prog X.w) A (compareOp .NotIn u (.ref a)) Q E s:=by
 rcases g with ⟨kvs,k,e,ey,l⟩ | ⟨kvs,k,b,e,ey,eb,l⟩
 . subst ey
   obtain⟨z,hd,vs,rel,dd⟩:=YI I.hok e
   refine wpAny_notIn_of (zq ry) hd dd.mapOf ?_
   rw[<-(rel.val k).isSome_eq,<-l]
   exact h _ (I.tok _)
 . subst ey
   cases (show u=Value.ref b from ry)
   obtain⟨z,hd,xs,rel,dd⟩:=XC I.hok e
   refine wpAny_notIn_heap (tupleKind_room_in1 hu) (Yy I.hok eb) hd dd ?_
   have q:=(rel.val k).isSome_eq
   rw[zcJ]at q
   rw[<-q,<-l]
   exact h _ (I.tok _)
theorem ZL {h':Heap} {t':Nat} {ob:HO} (I:qC X pins σ H s) (mu:Mg (H a)) (hs:Heap.SameBut a s.heap h') (he:∃q,h'.get? a=some q) (new:qM X.prog X.w (upd H a ob) h' a ob):
   qC X pins σ (upd H a ob) {s with heap:=h',toks:=t'}:=
 I.write (x:=a) (e:=a) mu (.inl rfl) (λb q hb z=>(hs.2 b hb).trans z) he new
theorem Z8 {P:Program} {w:World} {H':Hp} {h':Heap} {kvs:List (qF×V)} {vs:List (qF×Value)} (z:kvs.length<=sizeLine) (hd:(a==sysModules)=false) (rel:KV kvs vs) (dd:h'.DictOf (qU P w) a vs):
   qM P w H' h' a (.dK kvs):=⟨z,hd,vs,rel,dd⟩
theorem yp {H':Hp} {Q:Unit->Shared->Prop} (hu:A.units+1 < cLine) (I:qC X pins σ H s) (g:Jc H a y v H') (ry:qL y u) (rv:qL v r) (h:∀s',qC X pins σ H' s'->Q () s'):
   wpAny (model X.prog X.w) A (setItem (.ref a) u r) Q E s:=by
 rcases g with ⟨kvs,k,e,ey,l,eH⟩ | ⟨kvs,k,b,e,ey,eb,l,eH⟩
 . subst ey eH
   obtain⟨z,hd,vs,rel,dd⟩:=zt I.hok e
   have hz:vs.length<=sizeLine:=by rw[<-rel.length];exact z
   have hl:(jT kvs k v).length<=sizeLine:=by have:=QR kvs k v;omega
   refine wpAny_setItem_pairs (hsz:=hz) (zq ry) dd λh' dd' hs=>h _ ?_
   have he:∃q,h'.get? a=some q:=let ⟨q,_,_,hq,_⟩:=dd';⟨q,hq⟩
   exact ZL I (by rw[e];exact True.intro) hs he (Z8 hl hd (rel.put k rv) dd')
 . subst ey eH
   cases (show u=Value.ref b from ry)
   obtain⟨z,hd,xs,rel,dd⟩:=qaM I.hok e
   have hz:xs.length<=sizeLine:=by rw[<-Paired.length rel];exact z
   have hl:(jT kvs k v).length<=sizeLine:=by have:=QR kvs k v;omega
   refine wpAny_setItem_heap (hsz:=hz) (tupleKind_room_in1 hu) (Yy I.hok eb) dd λh' dd' hs=>h _ ?_
   obtain⟨q,es,ep,hq,h2,h3,h4,_,h5⟩:=dd'
   refine ZL I (by rw[e];exact True.intro) hs ⟨q,hq⟩ ⟨hl,hd,_,(rel.put k eb rv).keeps λc ys ec=>?_,q,es,ep,hq,h2,h3,h4,h5⟩
   rw[qi (qat ec e (λz=>nomatch z))]
   exact ec
end
section
variable {X:Cx} {pins:List (Addr×Obj)} {σ:St} {H:Hp} {s:Shared} {a:Addr} {kvs:List (qF×V)} {k:qF} {u:Value} {A:Around} {E:Value->Shared->Prop}
theorem qaN {v:V} {more:List Value} {Q:Value->Shared->Prop} (I:qC X pins σ H s) (e:H a=some (.dK kvs)) (ry:qL (kV k) u) (l:qS kvs k=some v) (hm:more=[]\/∃x,more=[x])
   (h:∀w' s',qC X pins σ (upd H a (.dK (QC kvs k))) s'->qL v w'->Q w' s'):wpAny (model X.prog X.w) A (call (.builtin "dict.pop") (.ref a::u::more)) Q E s:=by
 obtain⟨z,hd,vs,rel,dd⟩:=zt I.hok e
 obtain⟨w',hw,rw'⟩:=Jr.some_of (v:=v) (o:=valueAt vs k) (by rw[<-l];exact rel.val k)
 have hp:(keyPart u).isSome=true:=by
   cases k with
   | inl i=>obtain⟨t,q⟩:=(show ∃t,u=Value.int i t from ry);subst q;rfl
   | inr x=>obtain⟨t,q⟩:=(show ∃t,u=Value.str x t from ry);subst q;rfl
 have ha:argsOk "dict.pop" ⟨.ref a::u::more,[]⟩:=by
   rcases hm with q | ⟨x,q⟩
   . subst q;exact PySem.F.args_dict_pop_2 _ _
   . subst q;exact PySem.F.args_dict_pop_3 _ _ _
 refine call_meetsIn zdl dd.typeIs PySem.F.entry_dict_pop ha (meets_dict_pop_there (qU X.prog X.w) a (zq ry) more hm hp)
   ⟨vs,w',dd,by rw[<-rel.length];exact z,hw,λh' dd' hs=>h w' _ ?_ rw'⟩
 have he:∃q,h'.get? a=some q:=let ⟨q,_,_,hq,_⟩:=dd';⟨q,hq⟩
 exact ZL I (by rw[e];exact True.intro) hs he (Z8 (tV (w6 kvs k) z) hd (rel.drop k) dd')
end
def qaT (i:Expr):Prop:=∀ov iv,subscripted i false ov iv=operate [ov,iv] (getItem ov iv)
theorem uH {prog:Program} {w:World} {A:Around} {E:Value->Shared->Prop} {s:Shared} {env:Env} {value slice:Expr} {pos:Pos} {T id:String} {Q:Value->Shared->Prop}
   (hl:typeLookup (.type T) "__getitem__"=pure (some (.builtin id))) (hs:qaT slice)
   (h:wpAny (model prog w) A (eval value env) (λo s₁=>wpAny (model prog w) A (eval slice env) (λi s₂=>s₂.TypeIs o T/\wpAny (model prog w) A (getItem o i) Q E s₂) E s₁) E s):
   wpAny (model prog w) A (eval (.Subscript value slice pos) env) Q E s:=by
 refine Subscript_ (wpAny_mono h (λo s₁ h₁=>wpAny_mono h₁ (λi s₂ h₂=>?_) λ_ _ x=>x) λ_ _ x=>x)
 obtain⟨hT,h₂⟩:=h₂
 unfold subscriptTail
 refine wpAny_bind ?_
 rw[getitemInPython_of_ne hT.not_modules]
 refine wpAny_bind (wpAny_specialOf hT hl ?_)
 have fin:wpAny (model prog w) A (subscripted slice false o i) (λr s₃=>wpAny (model prog w) A (letTemporaryGo value o r >>= λ_=>pure r) Q E s₃) E s₂:=by
   rw[hs o i]
   exact wpAny_operating (wpAny_mono h₂ (λr s₃ h₃=>wpAny_bind (wpAny_letTemporaryGo (wpAny_pure h₃))) λ_ _ x=>x)
 first
   | exact wpAny_pure (wpAny_bind fin)
   | exact wpAny_bind (wpAny_pure (wpAny_bind fin))
   | exact wpAny_bind fin
theorem Vw {X:Cx} {pins:List (Addr×Obj)} {σ:St} {H:Hp} {s:Shared} {a:Addr} {y:V} {o:Option V} (I:qC X pins σ H s) (g:jU H a y o):s.TypeIs (.ref a) "dict":=by
 rcases g with ⟨kvs,k,e,_,_⟩ | ⟨kvs,k,b,e,_,_,_⟩
 . obtain⟨_,_,vs,_,dd⟩:=YI I.hok e
   exact dd.typeIs
 . obtain⟨_,_,xs,_,dd⟩:=XC I.hok e
   exact dd.typeIs
def Xg (td ty:TE):TE:=λσ H Q=>td σ H λx H1=>ty σ H1 λy H2=>∃a v,x=.ref a/\jU H2 a y (some v)/\Q v H2
def RJ (ty td:TE):TE:=λσ H Q=>ty σ H λy H1=>td σ H1 λx H2=>∃a o,x=.ref a/\jU H2 a y o/\Q (.bl o.isSome) H2
def uC (ty td:TE):TE:=λσ H Q=>ty σ H λy H1=>td σ H1 λx H2=>∃a o,x=.ref a/\jU H2 a y o/\Q (.bl (!o.isSome)) H2
def Rj (td ty tv:TE):TS:=λD σ H=>tv σ H λv H1=>td σ H1 λx H2=>ty σ H2 λy H3=>∃a H4,x=.ref a/\Jc H3 a y v H4/\D.nx σ H4
section
variable {X:Cx} {o i e value:Expr} {pos pos' tpos:Pos} {td ty tv:TE}
theorem jk (hu:X.A.units+1 < cLine) (ho:JE X o td) (hi:JE X i ty) (hs:qaT i):JE X (.Subscript o i pos) (Xg td ty):=.of (by
 have ho:=ho.to
 have hi:=hi.to
 intro pins s σ H Q I h
 refine uH PySem.F.slot_dict_getitem.lookup hs (ji (ho pins s σ H _ I h) λu s1 ⟨x,H1,I1,rx,q1⟩=>ji (hi pins s1 σ H1 _ I1 q1) λiv s2 ⟨y,H2,I2,ry,a,v,ex,g,q2⟩=>?_)
 subst ex
 obtain rfl:u=Value.ref a:=rx
 exact⟨Vw I2 g,yq hu I2 g ry λw' s3 I3 rw'=>⟨v,H2,I3,rw',q2⟩⟩)
theorem Zj (hu:X.A.units+1 < cLine) (hi:JE X i ty) (ho:JE X o td):JC X .In i o (RJ ty td):=.of (by
 have hi:=hi.to
 have ho:=ho.to
 intro pins s σ H Q I h
 refine ji (hi pins s σ H _ I h) λiv s1 ⟨y,H1,I1,ry,q1⟩=>ji (ho pins s1 σ H1 _ I1 q1) λu s2 ⟨x,H2,I2,rx,a,ov,ex,g,q2⟩=>?_
 subst ex
 obtain rfl:u=Value.ref a:=rx
 exact qb4 hu I2 g ry λs3 I3=>⟨.bl ov.isSome,H2,I3,rfl,q2⟩)
theorem JY (hu:X.A.units+1 < cLine) (hi:JE X i ty) (ho:JE X o td):JC X .NotIn i o (uC ty td):=.of (by
 have hi:=hi.to
 have ho:=ho.to
 intro pins s σ H Q I h
 refine ji (hi pins s σ H _ I h) λiv s1 ⟨y,H1,I1,ry,q1⟩=>ji (ho pins s1 σ H1 _ I1 q1) λu s2 ⟨x,H2,I2,rx,a,ov,ex,g,q2⟩=>?_
 subst ex
 obtain rfl:u=Value.ref a:=rx
 exact Gp hu I2 g ry λs3 I3=>⟨.bl (!ov.isSome),H2,I3,rfl,q2⟩)
theorem jC (hu:X.A.units+1 < cLine) (ho:JE X o td) (hi:JE X i ty) (hv:JE X value tv) (hs:swapsWith value (some (.Subscript o i pos')) pos.line X.env=pure false):JS X (.Assign [.Subscript o i pos'] value pos) (Rj td ty tv):=.of (by
 have ho:=ho.to
 have hi:=hi.to
 have hv:=hv.to
 intro pins s σ H D I h
 refine wpAny_Assign_Subscript (ji (hv pins s σ H _ I h) λr s1 ⟨v,H1,I1,rv,q1⟩=>ji (ho pins s1 σ H1 _ I1 q1) λu s2 ⟨x,H2,I2,rx,q2⟩=>ji (hi pins s2 σ H2 _ I2 q2) λiv s3 ⟨y,H3,I3,ry,a,H4,ex,g,q3⟩=>?_) hs
 subst ex
 obtain rfl:u=Value.ref a:=rx
 exact yp hu I3 g ry rv λs4 I4=>⟨σ,H4,I4,q3⟩)
end
theorem Vv {P:Program} {w:World} {H:Hp} (h:Heap) (hb:sysModules < h.objs.size):qM P w H (h.push {cls:=.type "dict",data:=.dict #[]}) h.objs.size (.dK []):=
 ⟨zap _,beq_eq_false_iff_ne.mpr (Ne.symm (tR hb)),[],.nil,Heap.DictOf.new h⟩
theorem w5 {P:Program} {w:World} {H:Hp} (h:Heap) (hb:sysModules < h.objs.size):qM P w H (h.push {cls:=.type "dict",data:=.dict #[]}) h.objs.size (.dT []):=
 ⟨zap _,beq_eq_false_iff_ne.mpr (Ne.symm (tR hb)),[],.nil,_,#[],0,tU _ rfl,⟨rfl,rfl,rfl⟩,rfl,rfl,zaY⟩
def yP:TE:=λ_ H Q=>∀p,H p=none->Q (.ref p) (upd H p (.dK []))
def yO:TE:=λ_ H Q=>∀p,H p=none->Q (.ref p) (upd H p (.dT []))
section
variable {X:Cx} {pos:Pos}
theorem xC:PE X (.Dict [] [] pos) yP:=λpins s σ H Q I h=>
 wpAny_Dict_empty ⟨.ref s.heap.objs.size,_,I.laid (a:=s.heap.objs.size) (o:=.dK []) (t':=s.toks) (λ_ _ q=>tz _ q) (tw _) (Vv s.heap I.big),rfl,h _ (I.hok.fresh (tw _))⟩
theorem Qi:JE X (.Dict [] [] pos) yP:=.of (xC)
theorem xB:PE X (.Dict [] [] pos) yO:=λpins s σ H Q I h=>
 wpAny_Dict_empty ⟨.ref s.heap.objs.size,_,I.laid (a:=s.heap.objs.size) (o:=.dT []) (t':=s.toks) (λ_ _ q=>tz _ q) (tw _) (w5 s.heap I.big),rfl,h _ (I.hok.fresh (tw _))⟩
theorem wA:JE X (.Dict [] [] pos) yO:=.of (xB)
end
def VQ:List (TE×TE)->St->Hp->(List (V×V)->Hp->Prop)->Prop
 | [],_,H,Q=>Q [] H
 | (tk,tv)::r,σ,H,Q=>tk σ H λx H1=>tv σ H1 λy H2=>VQ r σ H2 λps H3=>Q ((x,y)::ps) H3
abbrev VV:List (V×V)->List (Value×Value)->Prop:=Paired λp q=>qL p.1 q.1/\qL p.2 q.2
def PPs (X:Cx) (pos:Pos) (keys:List (Option Expr)) (values:List Expr) (trs:List (TE×TE)):Prop:=
 ∀(pins:List (Addr×Obj)) (s:Shared) (σ:St) (H:Hp) (Q:List (V×V)->Hp->Prop),qC X pins σ H s->VQ trs σ H Q->
   wpAny (model X.prog X.w) X.A (evalPairs (pairTrees keys values X.env pos)) (λvs s'=>∃ps H',qC X pins σ H' s'/\VV ps vs/\Q ps H') X.xe s
@[irreducible] def uw (X:Cx) (pos:Pos) (keys:List (Option Expr)) (values:List Expr) (trs:List (TE×TE)):Prop:=PPs X pos keys values trs
theorem uw.of {X:Cx} {pos:Pos} {keys:List (Option Expr)} {values:List Expr} {trs:List (TE×TE)} (h:PPs X pos keys values trs):uw X pos keys values trs:=by unfold uw;exact h
theorem uw.to {X:Cx} {pos:Pos} {keys:List (Option Expr)} {values:List Expr} {trs:List (TE×TE)} (h:uw X pos keys values trs):PPs X pos keys values trs:=by unfold uw at h;exact h
theorem K3 {X:Cx} {pos:Pos}:uw X pos [] [] []:=.of (by
 exact λpins s σ H Q I h=>pairTrees_nil_walk ⟨[],H,I,.nil,h⟩)
theorem xx {X:Cx} {pos:Pos} {k v:Expr} {ks:List (Option Expr)} {vs:List Expr} {tk tv:TE} {trs:List (TE×TE)} (hk:PE X k tk) (hv:PE X v tv) (hr:PPs X pos ks vs trs):
   PPs X pos (some k::ks) (v::vs) ((tk,tv)::trs):=λpins s σ H Q I h=>
 pairTrees_cons_walk (ji (hk pins s σ H _ I h) λu s1 ⟨x,H1,I1,rx,q1⟩=>ji (hv pins s1 σ H1 _ I1 q1) λw2 s2 ⟨y,H2,I2,ry,q2⟩=>
   ji (hr pins s2 σ H2 _ I2 q2) λws s3 ⟨ps,H3,I3,rel,q3⟩=>⟨(x,y)::ps,H3,I3,.cons ⟨rx,ry⟩ rel,q3⟩)
theorem Yz {X:Cx} {pos:Pos} {k v:Expr} {ks:List (Option Expr)} {vs:List Expr} {tk tv:TE} {trs:List (TE×TE)} (hk:JE X k tk) (hv:JE X v tv) (hr:uw X pos ks vs trs):uw X pos (some k::ks) (v::vs) ((tk,tv)::trs):=.of (xx hk.to hv.to hr.to)
def Qx (kvs more:List (qF×V)):List (qF×V):=more.foldl (λacc kv=>jT acc kv.1 kv.2) kvs
theorem KV.merge:∀{more:List (qF×V)} {rs:List (qF×Value)} {kvs:List (qF×V)} {vs:List (qF×Value)},KV more rs->KV kvs vs->KV (Qx kvs more) (merged vs rs):=by
 intro more rs kvs vs r
 unfold KV at r
 induction r generalizing kvs vs with
 | nil=>intro q;exact q
 | @cons p q ps qs h t ih=>
   intro r0
   have e:KV (jT kvs p.1 p.2) (stored vs q.1 q.2):=by
     have:=r0.put p.1 h.2
     rw[<-h.1];exact this
   exact ih e
theorem QZ:∀(more kvs:List (qF×V)),(Qx kvs more).length<=kvs.length+more.length
 | [],kvs=>by show kvs.length<=kvs.length+0;omega
 | p::r,kvs=>by
   have h1:=QZ r (jT kvs p.1 p.2)
   have h2:=QR kvs p.1 p.2
   show (Qx (jT kvs p.1 p.2) r).length<=_
   rw[zat];omega
theorem YM {P:Program} {w:World}:∀{kvs:List (qF×V)} {ws:List (Value×Value)},VV (kvs.map λkv=>(kV kv.1,kv.2)) ws->∃rs,Carries (qU P w) ws rs/\KV kvs rs
 | [],_,r=>by rw[zcf]at r;cases r;exact⟨[],True.intro,.nil⟩
 | p::kvs,_,r=>by
   rw[tS]at r
   cases r with
   | @cons a b as bs h t=>
     obtain⟨rs,c,q⟩:=YM (P:=P) (w:=w) t
     obtain⟨b1,b2⟩:=b
     exact⟨(p.1,b2)::rs,⟨zq h.1,rfl,c⟩,.cons ⟨rfl,h.2⟩ q⟩
def MI (trs:List (TE×TE)):TE:=λσ H Q=>∀p,H p=none->VQ trs σ (upd H p (.dK [])) λps H2=>H2 p=some (.dK [])/\∃kvs:List (qF×V),ps=kvs.map (λkv=>(kV kv.1,kv.2))/\kvs.length<=15/\Q (.ref p) (upd H2 p (.dK (Qx [] kvs)))
theorem K8 {X:Cx} {pos:Pos} {keys:List (Option Expr)} {values:List Expr} {trs:List (TE×TE)} (h:uw X pos keys values trs) (hall:keys.all (·.isSome)=true) (hl:keys.length=values.length) (h0:keys≠[]) (h15:keys.length<=15):JE X (.Dict keys values pos) (MI trs):=.of (by
 have h:=h.to
 intro pins s σ H Q I q
 have hn:=I.hok.fresh (tw s.heap.objs.size)
 have I1:=I.laid (a:=s.heap.objs.size) (o:=.dK []) (h':=s.heap.push {cls:=.type "dict",data:=.dict #[]}) (t':=s.toks) (λ_ _ q=>tz _ q) (tw _) (Vv s.heap I.big)
 refine wpAny_Dict_walk (knd:=qU X.prog X.w) hall hl h0 h15 (ji (h pins _ σ _ _ I1 (q _ hn)) λws s2 ⟨ps,H2,I2,rel,e,kvs,ep,lk,q2⟩=>?_)
 subst ep
 obtain⟨rs,c,rk⟩:=YM (P:=X.prog) (w:=X.w) rel
 obtain⟨z,hd,vs0,r0,dd⟩:=zt I2.hok e
 cases r0
 refine⟨rs,c,dd,λh' dd' hs=>⟨.ref s.heap.objs.size,_,?_,rfl,q2⟩⟩
 have hz:(Qx [] kvs).length<=sizeLine:=by
   have h1:=QZ kvs []
   rw[zdg]at h1
   rw[sizeLine_eq];omega
 have he:∃q,h'.get? s.heap.objs.size=some q:=let ⟨q,_,_,hq,_⟩:=dd';⟨q,hq⟩
 exact ZL I2 (by rw[e];exact True.intro) hs he (Z8 hz hd (rk.merge .nil) dd'))
structure M1 (X:Cx) (o:Expr) (m:Str) (apos:Pos) (e:Expr) (cpos:Pos):Prop where
 base:attributeBase o m X.env (eval o X.env)=eval o X.env
 few:((backTo cpos (starEach [e] X.env)).all (λx=> !x.1)&&(backToKw cpos (keywordEach [] X.env)).all (λx=>x.1.isSome)
   &&decide (([e]:List Expr).length+([]:List Keyword).length+(if ([]:List Keyword).isEmpty then 0 else 1) < 30))=true
 line:(apos.endLine==cpos.line)=true
 trees:backTo cpos (starEach [e] X.env)=[(false,eval e X.env)]
structure M2 (X:Cx) (o:Expr) (m:Str) (apos:Pos) (e f:Expr) (cpos:Pos):Prop where
 base:attributeBase o m X.env (eval o X.env)=eval o X.env
 few:((backTo cpos (starEach [e,f] X.env)).all (λx=> !x.1)&&(backToKw cpos (keywordEach [] X.env)).all (λx=>x.1.isSome)
   &&decide (([e,f]:List Expr).length+([]:List Keyword).length+(if ([]:List Keyword).isEmpty then 0 else 1) < 30))=true
 line:(apos.endLine==cpos.line)=true
 trees:backTo cpos (starEach [e,f] X.env)=[(false,eval e X.env),(false,eval f X.env)]
def IsD (H:Hp) (a:Addr):Prop:=(∃kvs,Rd H a (.dK kvs))\/∃kvs,Rd H a (.dT kvs)
theorem NZ {X:Cx} {pins:List (Addr×Obj)} {σ:St} {H:Hp} {s:Shared} {a:Addr} (I:qC X pins σ H s) (d:IsD H a):
   s.TypeIs (.ref a) "dict"/\(∀b,Value.ref a=.ref b->∃ob,s.heap.get? b=some ob/\ob.dict=none)/\(a==sysModules)=false:=by
 rcases d with ⟨kvs,e⟩ | ⟨kvs,e⟩
 . obtain⟨_,hd,vs,_,dd⟩:=YI I.hok e
   refine⟨dd.typeIs,λb q=>?_,hd⟩
   cases q
   obtain⟨ob,_,_,h1,h2,_⟩:=dd
   exact⟨ob,h1,h2.2.1⟩
 . obtain⟨_,hd,xs,_,dd⟩:=XC I.hok e
   refine⟨dd.typeIs,λb q=>?_,hd⟩
   cases q
   obtain⟨ob,_,_,h1,h2,_⟩:=dd
   exact⟨ob,h1,h2.2.1⟩
section
variable {X:Cx} {pins:List (Addr×Obj)} {σ:St} {H:Hp} {s:Shared} {a:Addr} {y d:V} {u r:Value} {o:Option V} {A:Around} {E:Value->Shared->Prop}
end
def RI (td ty:TE):TE:=λσ H Q=>td σ H λx H1=>∃a,x=.ref a/\IsD H1 a/\ty σ H1 λy H2=>∃kvs k v,H2 a=some (.dK kvs)/\y=kV k/\qS kvs k=some v/\Q v (upd H2 a (.dK (QC kvs k)))
section
variable {X:Cx} {o e f:Expr} {apos cpos:Pos} {td ty tx:TE}
theorem Vl (ho:JE X o td) (he:JE X e ty) (m:M1 X o "pop" apos e cpos):JE X (.Call (.Attribute o "pop" apos) [e] [] cpos) (RI td ty):=.of (by
 have ho:=ho.to
 have he:=he.to
 intro pins s σ H Q I h
 refine wpAny_Call_method m.base m.few m.line zcQ zdl PySem.F.type_dict_pop (ji (ho pins s σ H _ I h) λu s1 ⟨x,H1,I1,rx,a,ex,d,q1⟩=>?_)
 subst ex
 obtain rfl:u=Value.ref a:=rx
 obtain⟨t1,t2,_⟩:=NZ I1 d
 refine⟨t1,t2,?_⟩
 rw[m.trees]
 refine Calls.callWith_builtin rfl (Calls.evalArgs_plain (Calls.spliced_cons (ji (he pins s1 σ H1 _ I1 q1) λiv s2 ⟨y,H2,I2,ry,kvs,k,v,ea,ey,l,q2⟩=>Calls.spliced_nil ?_)))
 subst ey
 exact qaN I2 ea ry l (.inl rfl) λw' s3 I3 rw'=>⟨v,_,I3,rw',q2⟩)
end
section
variable {X:Cx} {pins:List (Addr×Obj)} {σ:St} {H:Hp} {s:Shared} {a:Addr} {kvs:List (qF×V)} {A:Around} {E:Value->Shared->Prop}
theorem ua {Q:Value->Shared->Prop} (I:qC X pins σ H s) (e:Rd H a (.dK kvs)) (h:∀p s',H p=none->qC X pins σ (upd H p (.dK kvs)) s'->Q (.ref p) s'):wpAny (model X.prog X.w) A (call (.type "dict") [.ref a]) Q E s:=by
 obtain⟨z,hd,vs,rel,dd⟩:=YI I.hok e
 refine kt_call_dict hd dd (by rw[<-rel.length];exact z) λh' dd' hs=>?_
 refine h _ _ (I.hok.fresh (tw _)) (I.laid (a:=s.heap.objs.size) (o:=.dK kvs) (t':=s.toks) (λb q hq=>?_) (tw _) (Z8 z (beq_eq_false_iff_ne.mpr (Ne.symm (tR I.big))) rel dd'))
 exact(hs.2 b (tR (tI hq))).trans (tz _ hq)
end
section
variable {X:Cx} {pins:List (Addr×Obj)} {σ:St} {H:Hp} {s:Shared} {a:Addr} {y:V} {u:Value} {A:Around} {E:Value->Shared->Prop}
end
end L2
namespace Att
open PySem PySem.W PySem.Calls PyProof.Rows
theorem zB {P:Params} {h:Heap}:∀(ns:List Int) (vs:List Value),WellAll P h vs (ns.map WData.int)->IntsAre vs ns:=by
 intro ns
 induction ns with
 | nil=>
   intro vs w
   rw[zcf]at w
   cases w
   exact .nil
 | cons n ns ih=>
   intro vs w
   rw[tS]at w
   cases w with
   | cons a b=>
     cases a
     exact .cons _ _ (ih _ b)
theorem ku {l:OpenLaw} {n:Nat} (hn:l.most=some n) {P:Params} {h:Heap} {args:List WData} {vals:List Value}
   (hpre:l.row.toRowW.claim.pre args=true) (hwl:WellAll P h vals args):
   ∃a vs ns,vals=[Value.ref a]/\args=[WData.list (ns.map WData.int)]/\h.get? a=some {cls:=.type "list",data:=.seq vs.toArray}/\IntsAre vs ns/\ns.length<=n:=by
 have hsh:WShape.hasAll [] args [.list .int]=true:=(pre_splitW hpre).1
 have hc:l.pre.holds [] {args:=args}=true:=(pre_splitW hpre).2
 obtain⟨d,r,rfl,h1,h2⟩:=hasAllW_cons hsh
 obtain rfl:=hasAllW_nil h2
 obtain⟨xs,rfl,h3⟩:=hasW_list h1
 obtain⟨ns,rfl⟩:=items_int h3
 have hlen:ns.length<=n:=by
   unfold OpenLaw.pre at hc
   have h4:(WTm.not (.lt (.lit (.int (n:Int))) (.len (.arg 0)))).holds [] {args:=[.list (ns.map .int)]}=true:=by
     have h4:=(holds_andW hc).1
     rw[hn]at h4
     exact h4
   have h5:=condW_of h4 (w_not (w_lt w_lit (w_len_list (w_arg rfl))))
   rw[tj]at h5
   refine Nat.le_of_not_lt λq=>?_
   have q':(n:Int) < ((ns.length:Nat):Int):=by omega
   first
     | (rw[decide_eq_true q']at h5;exact absurd h5 (by decide))
     | (simp at h5;omega)
 cases hwl with
 | cons w1 w2=>
   cases w2
   cases w1 with
   | list ho hall=>exact⟨_,_,ns,rfl,rfl,ho,zB ns _ hall,hlen⟩
theorem kI (l:OpenLaw) (args:List WData):l.row.toRowW.claim.post args (.bool true) args=true:=
 postW_of (r:=l.row.toRowW) (X:=(true==true))
   (show WShape.has [] (.bool true) .bool=true by first | rfl | decide | simp [WShape.has,WShape.arms,WShape.armsAll])
   (show (WTm.eq .res (.lit (.bool true))).value [] {args:=args,res:=some (.bool true),after:=args}=some (.bool (true==true)) from w_eq_bool (w_res rfl) w_lit) rfl
theorem attach_call {l:OpenLaw} {n:Nat} {q:Program} {loose:List Str} {XP:(Str->Option Value)->Heap->Prop} {YP:World->Heap->Prop} {d:DefRec}
   (hn:l.most=some n) (hdf:d.params.defaults=[])
   (call:∀(w:World) (s₀ s₁:Shared) (mg mb:Str->Option Value) (fa:Addr) (o:Obj) (pm cd doc:Value) (a:Addr) (vs:List Value) (ns:List Int),
     Ground q loose [] XP w s₀ mg mb s₁.heap->YP w s₁.heap->
     s₁.heap.get? fa=some o->o.data=.func (docDef d.name d.params d.body d.scope pm cd doc)->s₁.heap.CodeRec cd d.name->mg d.name=some (.ref fa)->
     s₁.heap.get? a=some {cls:=.type "list",data:=.seq vs.toArray}->IntsAre vs ns->ns.length<=n->s₁.gens=#[]->
     codeAny (model l.prog w) callerA (.call (.ref fa) ⟨[.ref a],[]⟩) (λr s'=>r=.ok (.ret (.bool true))/\OldK s₁.heap s'.heap/\s'.os=s₁.os/\AllBare s'.gens) s₁):
   WalkO q loose XP YP l.row.toRowW d [] (λf vs=>PySem.call f vs):=by
 intro w s₀ s₁ mg mb G Y fa o pm cd doc dV kV ho hd hcd hD hmg hg args vals as hpre hlay hrd hwl hlo
 obtain rfl:dV=.none:=Dflts.none hD hdf
 obtain rfl:kV=.none:=Dflts.noKw hD
 obtain⟨a,vs,ns,rfl,rfl,hobj,hints,hlen⟩:=ku hn hpre hwl
 refine enter_call (codeAny_mono (call w s₀ s₁ mg mb fa o pm cd doc a vs ns G Y ho (fd_plain hd) hcd hmg hobj hints hlen hg) λr s' hq=>?_)
 obtain⟨rfl,h2,h3,h4⟩:=hq
 exact⟨.inl ⟨.bool true,.bool true,[],rfl,λ_=>rfl,.bool true,kI l _,λ_=>⟨zdv.nil,λ_ hm=>(nomatch hm)⟩⟩,h2,h3,h4⟩
section
variable {prog:Program} {w:World} {A:Around} {E:Value->Shared->Prop} {s:Shared} {K:Frag}
end
end Att
namespace L2
open PySem PySem.Spec PyProof.Rows
theorem Xc:∀{vs:List Value} {ns:List Int},IntsAre vs ns->qE (ns.map V.int) vs
 | _,_,.nil=>.nil
 | _,_,.cons n t h=>.cons ⟨t,rfl⟩ (Xc h)
def Mf (H:Hp):Prop:=∀b,H b=none\/∃o xs,H b=some (.frz o (.lst xs))
theorem we {P:Program} {w:World} {K:PySem.W.Frag} {mg mb:Str->Option Value} {CX:WH} {k:Nat} {fa a:Addr} {fd:FuncData} {x:Str} {sp:Sp} {s₁:Shared} {vs:List Value} {ns:List Int}
   (KX:K.In s₁.heap) (hns:s₁.heap.Ns mainGlobals mg) (hb:s₁.heap.Ns builtinsNs mb) (hbb:∀x:Str,x≠"__name__"->mb x=bootBuiltins x) (hlim:s₁.heap.NoLimit) (hg:s₁.gens=#[])
   (ha:s₁.heap.get? a=some {cls:=.type "list",data:=.seq vs.toArray}) (hi:IntsAre vs ns) (hl:ns.length<=sizeLine) (hr:qN k callerA)
   (F:∀base:Heap,K.In base->base.Ns mainGlobals mg->qp P w K mg base CX k fa fd [x] sp) (hbind:∀(s:Shared) (u:Value),BindsTo s fd ⟨[u],[]⟩ [(x,u)])
   (hsp:∀H:Hp,Mf H->SqL K H a (ns.map V.int)->sp [.ref a] H (λv _=>v=.bl true) λ_ _ _=>False)
   (hCX:∀H e s',CX [] H s₁ (λ_ _ _=>False) e s'->False):
   codeAny (model P w) callerA (.call (.ref fa) ⟨[.ref a],[]⟩) (λr s'=>r=.ok (.ret (.bool true))/\OldK s₁.heap s'.heap/\s'.os=s₁.os/\AllBare s'.gens) s₁:=by
 have rv:=Xc hi
 have lenV:=hi.length
 have core:∀H:Hp,Mf H->SqL K H a (ns.map V.int)->Je P w H s₁.heap->(∀b,H b≠none->b=a)->(H a≠none->K.lookup a=none)->
     codeAny (model P w) callerA (.call (.ref fa) ⟨[.ref a],[]⟩) (λr s'=>r=.ok (.ret (.bool true))/\OldK s₁.heap s'.heap/\s'.os=s₁.os/\AllBare s'.gens) s₁:=by
   intro H hO hS hok hA hK
   have base_of:∀{b:Addr} {o:Obj},s₁.heap.get? b=some o->H b=none->(Wy s₁.heap H).get? b=some o:=λe n=>wJ e n
   have noA:∀{b:Addr} {o:Obj} {es:Array DictEntry} {ep:Nat},s₁.heap.get? b=some o->o.data=.dict es ep->H b=none:=λ{b o es ep} e d=>by
     cases q:H b with
     | none=>rfl
     | some u=>
       have e':b=a:=hA b (by rw[q];simp)
       subst e'
       rw[ha]at e;cases e
       have d':Data.seq vs.toArray _=Data.dict es ep:=d
       cases d'
   have nsK:∀{b:Addr} {m:Str->Option Value},s₁.heap.Ns b m->(Wy s₁.heap H).Ns b m:=λ{b m} ⟨o,es,ep,e,d,r⟩=>⟨o,es,ep,base_of e (noA e d),d,r⟩
   have hKb:K.In (Wy s₁.heap H):=λb o e=>base_of (KX b o e) (by
     cases q:H b with
     | none=>rfl
     | some u=>
       have e':b=a:=hA b (by rw[q];simp)
       subst e'
       rw[hK (by rw[q];simp)]at e;cases e)
   have hM:Mod K mg (Wy s₁.heap H):=⟨hKb,nsK hns,⟨mb,nsK hb,hbb⟩,let ⟨mc,h1,h2⟩:=hlim;⟨mc,nsK h1,h2⟩⟩
   have e0:UG P w K mg (Wy s₁.heap H) callerA [] s₁ H:=⟨rfl,hM,λb o e=>KP e,zcZ (ye _ _),trivial,λb hb=>absurd (show b∈([]:List Addr) from hb) (by simp),hok,.of_eq hg⟩
   refine codeAny_mono ((F _ hKb (nsK hns)).run callerA [] s₁ H ⟨[.ref a],[]⟩ [.ref a] [.ref a] _ _ hr e0 (hbind s₁ (.ref a)) (.cons rfl .nil) (hsp H hO hS)) λr s' h=>?_
   cases r with
   | error e=>exact(hCX H e s' h).elim
   | ok fl=>
     cases fl with
     | next=>exact False.elim h
     | brk=>exact False.elim h
     | cont=>exact False.elim h
     | ret u=>
       obtain⟨v,H',os,bare,un,hok',r',q⟩:=h
       have q':v=.bl true:=q
       subst q'
       obtain rfl:u=Value.bool true:=r'
       refine⟨rfl,OldK.of_keep λb o e=>?_,os,bare⟩
       cases q:H b with
       | none=>exact un.keep b o e q (by intro z;exact absurd (show b∈([]:List Addr) from z) (by simp)) (by simp)
       | some u=>
         rcases hO b with z | ⟨ob,xs,z⟩
         . rw[q]at z;cases z
         . have z2:=un.frzs b ob _ z
           obtain⟨e1,_⟩:=hok b _ z
           obtain⟨e2,_⟩:=hok' b _ z2
           rw[e]at e1;cases e1
           exact e2
 cases hk:K.lookup a with
 | some o=>
   have e:=KX a o hk
   rw[ha]at e
   cases e
   refine core (λ_=>none) (λ_=>.inl rfl) (.inr ⟨_,vs.toArray,_,hk,rfl,rfl,rfl,by rw[tX,lenV];exact hl,by simpa using rv⟩) (λb u z=>by have z':(none:Option HO)=some u:=z;cases z') (λb z=>absurd rfl z) λz=>absurd rfl z
 | none=>
   refine core (λb=>if b=a then some (.frz {cls:=.type "list",data:=.seq vs.toArray} (.lst (ns.map V.int))) else none) (λb=>?_) (.inl (.inr ⟨{cls:=.type "list",data:=.seq vs.toArray},if_pos rfl⟩)) (λb u z=>?_) (λb z=>?_) λ_=>hk
   . by_cases hb:b=a
     . exact .inr ⟨_,_,if_pos hb⟩
     . exact .inl (if_neg hb)
   . by_cases hb:b=a
     . have z':=(if_pos hb).symm.trans z
       cases z'
       subst hb
       exact⟨ha,by rw[tj];exact hl,vs,_,rv,ha⟩
     . have z':=(if_neg hb).symm.trans z
       cases z'
   . by_cases hb:b=a
     . exact hb
     . exact absurd (if_neg hb) z
theorem walk_of {l:PySem.W.OpenLaw} {n k:Nat} {q:Program} {loose:List Str} {XP:(Str->Option Value)->Heap->Prop} {YP:World->Heap->Prop} {d:DefRec} {K:Params->PySem.W.Frag} {CX:World->WH} {sp:World->Sp} {x:Str}
   (hn:l.most=some n) (hn2:n<=sizeLine) (hdf:d.params.defaults=[]) (hr:qN k callerA)
   (hY:∀(w:World) (h:Heap),YP w h->(K w.params).In h)
   (F:∀(w:World) (mg:Str->Option Value) (fa:Addr) (h:Heap),(K w.params).In h->h.Ns mainGlobals mg->mg d.name=some (.ref fa)->
     ∃fd:FuncData,(∀(s:Shared) (u:Value),BindsTo s fd ⟨[u],[]⟩ [(x,u)])/\
      ∀base:Heap,(K w.params).In base->base.Ns mainGlobals mg->qp l.prog w (K w.params) mg base (CX w) k fa fd [x] (sp w))
   (hsp:∀(w:World) (H:Hp) (a:Addr) (ns:List Int),ns.length<=n->Mf H->SqL (K w.params) H a (ns.map V.int)->sp w [.ref a] H (λv _=>v=.bl true) λ_ _ _=>False)
   (hCX:∀(w:World) (H:Hp) (s:Shared) (e:Value) (s':Shared),CX w [] H s (λ_ _ _=>False) e s'->False):
   PySem.W.WalkO q loose XP YP l.row.toRowW d [] (λf vs=>PySem.call f vs):=by
 refine Att.attach_call hn hdf λw s₀ s₁ mg mb fa o pm cd doc a vs ns G Y ho hd hcd hmg hobj hints hlen hg=>?_
 have KX:=hY w _ Y
 obtain⟨fd,hb,hF⟩:=F w mg fa _ KX G.T.g hmg
 exact we KX G.T.g G.T.b G.T.builtins G.T.nolimit hg hobj hints (tV hlen hn2) hr hF hb (λH hO hS=>hsp w H a ns hlen hO hS) λH e s'=>hCX w H s₁ e s'
def Qa (s:Stmt) (j:Nat):Stmt:=match s with
 | .ClassDef _ _ _ body _ _ _ _ _ _ _=>body.getD j (.Pass ⟨0,0,0,0⟩)
 | _=>.Pass ⟨0,0,0,0⟩
def QW (s:Stmt):Arguments:=match s with
 | .FunctionDef _ a _ _ _ _ _ _ _ _=>a
 | _=>{posonlyargs:=[],args:=[],vararg:=none,kwonlyargs:=[],kw_defaults:=[],kwarg:=none,defaults:=[]}
def Ql (s:Stmt):List Stmt:=match s with
 | .FunctionDef _ _ b _ _ _ _ _ _ _=>b
 | _=>[]
def ql (s:Stmt):Scope:=match s with
 | .FunctionDef _ _ _ _ _ _ sc _ _ _=>sc
 | _=>{kind:=.function,names:=[],isGenerator:=false,isCoroutine:=false}
abbrev qI:WH:=λ_ _ _ _ _ _=>False
abbrev E0:XK:=λ_ _ _=>False
theorem QB {X:Cx}:QP qI X E0:=λ_ _ _ _ _ _ _ h=>h.elim
structure jG (K:PySem.W.Frag) (x qual:Str) (st:Stmt) (f:Addr) (fd:FuncData):Prop where
 ex:∃(oc:Value) (od:Option Addr) (kV doc pm:Value) (an:Option Addr) (cdv ct:Value) (osl:Array (Option Value)),
   fd=zbr x qual (QW st) (Ql st) (ql st) .none kV doc pm an cdv ct/\K.lookup f=some ⟨oc,od,.func fd,osl⟩/\zbP K cdv qual=true
 kp:zaD K (.ref f)=true
section
variable {P:Program} {w:World} {K:PySem.W.Frag} {mg:Str->Option Value} {base:Heap}
theorem jG.ok {x qual:Str} {st:Stmt} {f:Addr} {fd:FuncData} {N ps:List Str} {k:Nat} {sp:Sp} (F:jG K x qual st f fd) (S:qr N ps (ql st)) (len:∀vs H Q E,sp vs H Q E->vs.length=ps.length)
   (hbody:∀(cdv:Value) (A:Around) (outer:List Env) (s:Shared) (H:Hp) (vs:List V) (Q:VK) (E:XK),qN k (A.deeper (envOfC qual (ql st) s.heap.objs.size f cdv))->sp vs H Q E->
     ∃t,uu (YK qI P w K mg base N qual (ql st) f cdv A outer s H E).nox (Ql st) t/\t {nx:=λ_ H'=>Q .non H',rt:=Q} (J5 N vs) H):qp P w K mg base qI (k+1) f fd ps sp:=by
 obtain⟨oc,od,kV,doc,pm,an,cdv,ct,osl,rfl,lk,hcd⟩:=F.ex
 refine RB lk hcd S len λA outer s H vs Q E hr hsp=>?_
 obtain⟨t,h,q⟩:=hbody cdv A outer s H vs Q E hr hsp
 exact⟨t,h.nox,q⟩
theorem jG.okJ {x qual:Str} {st:Stmt} {f:Addr} {fd:FuncData} {N ps:List Str} {k:Nat} {sp:Sp} (F:jG K x qual st f fd) (S:qr N ps (ql st)) (len:∀vs H Q E,sp vs H Q E->vs.length=ps.length)
   (hbody:∀(cdv:Value) (A:Around) (outer:List Env) (s:Shared) (H:Hp) (vs:List V) (Q:VK) (E:XK),qN k (A.deeper (envOfC qual (ql st) s.heap.objs.size f cdv))->sp vs H Q E->
     ∃t,WG (YK qI P w K mg base N qual (ql st) f cdv A outer s H E).nox (Ql st) t/\t {nx:=λ_ H'=>Q .non H',rt:=Q} (J5 N vs) H):qp P w K mg base qI (k+1) f fd ps sp:=
 F.ok S len λcdv A outer s H vs Q E hr h=>let ⟨t,a,b⟩:=hbody cdv A outer s H vs Q E hr h;⟨t,a.to,b⟩
theorem jG.binds {x qual:Str} {st:Stmt} {f:Addr} {fd:FuncData} {ps:List Str} (F:jG K x qual st f fd)
   (h:∀(kV doc pm:Value) (an:Option Addr) (cdv ct:Value) (us:List Value),us.length=ps.length->bindArgs (zbr x qual (QW st) (Ql st) (ql st) .none kV doc pm an cdv ct) ⟨us,[]⟩=pure (ps.zip us)):jH K fd ps []:=by
 obtain⟨oc,od,kV,doc,pm,an,cdv,ct,osl,rfl,lk,hcd⟩:=F.ex
 exact .all (h kV doc pm an cdv ct)
theorem Uq {x qual:Str} {st:Stmt} {f:Addr} {oc:Value} {od an:Option Addr} {osl:Array (Option Value)} {kV doc pm cdv ct:Value} (l:K.lookup f=some ⟨oc,od,.func (zbr x qual (QW st) (Ql st) (ql st) .none kV doc pm an cdv ct),osl⟩)
   (c:zbP K cdv qual=true) (k:zaD K (.ref f)=true):jG K x qual st f (zbr x qual (QW st) (Ql st) (ql st) .none kV doc pm an cdv ct):=⟨⟨oc,od,kV,doc,pm,an,cdv,ct,osl,rfl,l,c⟩,k⟩
end
theorem jS {A:Around} {k:Nat} (hr:qN k A):A.units+1 < cLine:=zaZ (Nat.add_le_add_left (by decide:1<=64) _) hr.units
theorem qo {n:Nat} (h:n<=1000):n < sizeLine:=zaZ h (by decide)
section
variable {X:Cx}
theorem pv (i:Nat) {x:Str} {pos:Pos} (hN:X.N[i]?=some x:=by rfl) (hv:My X.env.scope x:=by first | exact Or.inl rfl | exact Or.inr (Or.inl rfl) | exact Or.inr (Or.inr rfl)) (hd:(x==("__debug__":Str))=false:=by decide)
   (hcd:(x==("__classdict__":Str))=false:=by decide):PE X (.Name x pos) (qW i):=Nm hN hv hd hcd
theorem jv (i:Nat) {x:Str} {pos:Pos} (hN:X.N[i]?=some x:=by rfl) (hv:My X.env.scope x:=by first | exact Or.inl rfl | exact Or.inr (Or.inl rfl) | exact Or.inr (Or.inr rfl)) (hd:(x==("__debug__":Str))=false:=by decide) (hcd:(x==("__classdict__":Str))=false:=by decide):JE X (.Name x pos) (qW i):=.of (pv i hN hv hd hcd)
end
theorem qV {A B:Prop} (h:B):if false=true then A else B:=by
 rw[if_neg tK]
 exact h
theorem jZ {A B:Prop} (h:A):if true=true then A else B:=by
 rw[if_pos rfl]
 exact h
theorem Y5 {c A B:Prop} [Decidable c] (h1:c->A) (h2:¬c->B):if c then A else B:=by
 by_cases h:c
 . rw[if_pos h]
   exact h1 h
 . rw[if_neg h]
   exact h2 h
def Same (H H':Hp):Prop:=∀b o,H b=some o->H' b=some o
theorem Same.refl (H:Hp):Same H H:=λ_ _ h=>h
theorem Same.trans {H H1 H2:Hp} (a:Same H H1) (b:Same H1 H2):Same H H2:=λc o h=>b c o (a c o h)
theorem Same.seq {K:PySem.W.Frag} {H H':Hp} {a:Addr} {xs:List V} (e:Same H H') (h:SqL K H a xs):SqL K H' a xs:=by
 rcases h with (h | ⟨o,h⟩) | h
 . exact .inl (.inl (e _ _ h))
 . exact .inl (.inr ⟨o,e _ _ h⟩)
 . exact .inr h
section
variable {X:Cx}
end
section
variable {κ:Type} [DecidableEq κ]
theorem UL {kvs:List (κ×V)} {k:κ} {v:V} (h:qS kvs k=some v):k∈kvs.map (·.1):=by
 have q:(kvs.any λkv=>decide (kv.1=k))=true:=by
   rw[Qs,h]
   all_goals rfl
 obtain⟨p,hp,e⟩:=zaV.mp q
 exact tG.mpr ⟨p,hp,of_decide_eq_true e⟩
end
end L2
set_option maxHeartbeats 4000000
namespace L2
open PySem PySem.Spec PyProof.Rows
theorem vL:(NameKind.free==NameKind.free)=true:=rfl
def j5 (env:Env):List (Str×NameKind)->List (Str×Addr)->List (Str×Addr)
 | [],cs=>cs
 | (n,k)::r,cs=>j5 env r (if k==.free then (n,(env.cells.lookup n).getD 0)::cs else cs)
theorem J8 {scope:Scope} {env:Env} (h:∀x∈scope.names,x.2=.free->∃c,env.cells.lookup x.1=some c):closureFor scope env=pure (j5 env scope.names []):=by
 simp only[closureFor]
 have key:∀(l:List (Str×NameKind)) (cs:List (Str×Addr)),(∀x∈l,x.2=.free->∃c,env.cells.lookup x.1=some c)->
     (forIn l cs λx (r:List (Str×Addr))=>if (x.snd==NameKind.free)=true then (do let a <-cellOf env x.fst;pure (ForInStep.yield ((x.fst,a)::r)):Sem (ForInStep (List (Str×Addr)))) else pure (ForInStep.yield r))=(pure (j5 env l cs):Sem (List (Str×Addr))):=by
   intro l
   induction l with
   | nil=>intro cs _;rfl
   | cons x l ih=>
     intro cs hl
     obtain⟨n,k⟩:=x
     have ihl:=λcs'=>ih cs' λy hy=>hl y (tW _ hy)
     rw[List.forIn_cons]
     by_cases hk:k=.free
     . subst hk
       obtain⟨c,hc⟩:=hl (n,.free) t7 rfl
       have e1:cellOf env n=pure c:=by
         unfold cellOf
         have hc':env.cells.lookup n=some c:=hc
         rw[hc']
       have e2:j5 env ((n,NameKind.free)::l) cs=j5 env l ((n,c)::cs):=by
         have hc':env.cells.lookup n=some c:=hc
         show j5 env l (if (NameKind.free==NameKind.free)=true then (n,(env.cells.lookup n).getD 0)::cs else cs)=_
         rw[if_pos vL,hc']
         rfl
       rw[e2,<-ihl]
       dsimp only
       rw[if_pos vL,e1]
       rfl
     . have hb:(k==NameKind.free)=false:=by simpa using hk
       have e2:j5 env ((n,k)::l) cs=j5 env l cs:=by
         show j5 env l (if (k==NameKind.free)=true then (n,(env.cells.lookup n).getD 0)::cs else cs)=_
         rw[if_neg (by rw[hb];decide)]
       rw[e2,<-ihl]
       dsimp only
       rw[if_neg (by rw[hb];decide)]
       rfl
 rw[key scope.names [] h]
 rfl
theorem zx {env:Env} {x:Str} {c:Addr}:∀{l:List (Str×NameKind)} {cs:List (Str×Addr)},(j5 env l cs).lookup x=some c->cs.lookup x=some c\/((x,NameKind.free)∈l/\c=(env.cells.lookup x).getD 0)
 | [],cs,h=>.inl h
 | (n,k)::r,cs,h=>by
   rcases zx (l:=r) h with h | ⟨h1,h2⟩
   . by_cases hk:k=.free
     . subst hk
       rw[if_pos vL,zay]at h
       by_cases hx:x=n
       . subst hx
         simp only[beq_self_eq_true]at h
         exact .inr ⟨t7,(tO.inj h).symm⟩
       . have hb:(x==n)=false:=beq_eq_false_iff_ne.mpr hx
         simp only[hb]at h
         exact .inl h
     . have hb:(k==NameKind.free)=false:=by simpa using hk
       rw[if_neg (by rw[hb];decide)]at h
       exact .inl h
   . exact .inr ⟨tW _ h1,h2⟩
theorem Zo {env:Env} {x:Str}:∀{l:List (Str×NameKind)} {cs:List (Str×Addr)},((x,NameKind.free)∈l\/∃c,cs.lookup x=some c)->∃c,(j5 env l cs).lookup x=some c
 | [],cs,h=>by
   rcases h with h | h
   . cases h
   . exact h
 | (n,k)::r,cs,h=>by
   show ∃c,(j5 env r (if (k==NameKind.free)=true then (n,(env.cells.lookup n).getD 0)::cs else cs)).lookup x=some c
   refine Zo (l:=r) ?_
   rcases h with h | ⟨c,h⟩
   . rcases zaa.mp h with h | h
     . cases h
       refine .inr ⟨(env.cells.lookup x).getD 0,?_⟩
       rw[if_pos vL,zay]
       simp only[beq_self_eq_true]
     . exact .inl h
   . refine .inr ?_
     by_cases hk:(k==NameKind.free)=true
     . rw[if_pos hk,zay]
       cases hx:x==n with
       | true=>exact⟨_,rfl⟩
       | false=>exact⟨c,h⟩
     . rw[if_neg hk]
       exact⟨c,h⟩
theorem Zz {scope:Scope} {env:Env} {x:Str} {k:NameKind}:∀{names:List (Str×NameKind)},names.lookup x=some k->
   ∃k',(names.map λ(n,k)=>if (k==NameKind.free&&env.scope.kind==.function&&env.kindOf n==some .cell) then (n,NameKind.cell) else (n,k)).lookup x=some k'/\(k'=k\/(k=.free/\k'=.cell))
 | [],h=>by simp at h
 | (n,j)::r,h=>by
   rw[tS]
   by_cases hx:x=n
   . subst hx
     rw[zay]at h
     simp only[beq_self_eq_true]at h
     cases h
     dsimp only
     by_cases hc:(k==NameKind.free&&env.scope.kind==.function&&env.kindOf x==some .cell)=true
     . rw[if_pos hc,zay]
       simp only[beq_self_eq_true]
       refine⟨_,rfl,.inr ⟨?_,rfl⟩⟩
       simp only[zam,beq_iff_eq]at hc
       exact hc.1.1
     . rw[if_neg hc,zay]
       simp only[beq_self_eq_true]
       exact⟨_,rfl,.inl rfl⟩
   . have hb:(x==n)=false:=beq_eq_false_iff_ne.mpr hx
     rw[zay]at h
     simp only[hb]at h
     obtain⟨k',h1,h2⟩:=Zz (env:=env) (scope:=scope) h
     refine⟨k',?_,h2⟩
     dsimp only
     by_cases hc:(j==NameKind.free&&env.scope.kind==.function&&env.kindOf n==some .cell)=true
     . rw[if_pos hc,zay]
       simp only[hb]
       exact h1
     . rw[if_neg hc,zay]
       simp only[hb]
       exact h1
theorem mem_of_lookup {x:Str} {k:NameKind}:∀{l:List (Str×NameKind)},l.lookup x=some k->(x,k)∈l
 | [],h=>by simp at h
 | (n,j)::r,h=>by
   rw[zay]at h
   by_cases hx:x=n
   . subst hx
     simp only[beq_self_eq_true]at h
     cases h
     exact t7
   . have hb:(x==n)=false:=beq_eq_false_iff_ne.mpr hx
     simp only[hb]at h
     exact tW _ (mem_of_lookup h)
theorem J7 {f:Str×NameKind->Str×NameKind} (hf:∀p,(f p).1=p.1) {x:Str} {k:NameKind}:∀{l:List (Str×NameKind)},(l.map f).lookup x=some k->∃j,l.lookup x=some j/\(f (x,j)).2=k
 | [],h=>by simp at h
 | (n,j)::r,h=>by
   rw[tS]at h
   have e:f (n,j)=(n,(f (n,j)).2):=by
     have:=hf (n,j)
     exact Prod.ext this rfl
   rw[e,zay]at h
   rw[zay]
   by_cases hx:x=n
   . subst hx
     simp only[beq_self_eq_true]at h ⊢
     exact⟨j,rfl,tO.inj h⟩
   . have hb:(x==n)=false:=beq_eq_false_iff_ne.mpr hx
     simp only[hb]at h ⊢
     exact J7 hf h
def zu (X:Cx) (N:List Str) (scope:Scope) (C:Addr) (s₂:Shared) (H₂:Hp) (fp:List Addr) (pins:List (Addr×Obj)):Cx where
 prog:=X.prog
 w:=X.w
 K:=X.K
 mg:=X.mg
 base:=X.base
 A:=X.A
 N:=N
 s₀:=s₂
 H₀:=H₂
 env:=compEnvC scope (j5 X.env scope.names []) C X.env
 outer:=X.stack
 stack:=X.stack
 ex:=fp
 fn:=λ_=>false
 calm:=X.calm
 pn:=X.pn++pins
 xe:=λ_ _=>False
def RK (ix:List (Option Nat)) (σ:St):St:=ix.map λo=>o.bind λj=>(σ[j]?).join
def K9 (N' N:List Str) (sc esc:Scope) (ix:List (Option Nat)):Bool:=
 ix.length==N'.length&&(ix.zip N').all λp=>match p.1 with
   | none=>true
   | some j=>N[j]?==some p.2&&sc.names.lookup p.2==some .free&&(esc.names.lookup p.2==some .cell || esc.names.lookup p.2==some .free)
structure Qc (X:Cx) (N':List Str) (ix:List (Option Nat)) (scope:Scope):Prop where
 kind:scope.kind=.function
 nocell:(scope.names.all λx=>x.2 != .cell)=true
 locs:(scope.names.all λx=>x.2 != .local || scope.names.lookup x.1==some .local)=true
 frees:(scope.names.all λx=>x.2 != .free || (X.env.scope.names.lookup x.1==some .cell || X.env.scope.names.lookup x.1==some .free))=true
 ixs:K9 N' X.N scope X.env.scope ix=true
section
variable {X:Cx} {N':List Str} {ix:List (Option Nat)} {scope:Scope} {pins:List (Addr×Obj)} {σ:St} {H:Hp} {s:Shared}
theorem Qc.cellH (S:Qc X N' ix scope):∀y∈scope.names,y.2≠.cell:=λy hy e=>by
 have:=zaW.mp S.nocell y hy
 rw[e]at this
 exact absurd this (by decide)
theorem Qc.locH (S:Qc X N' ix scope):∀y∈scope.names,y.2=.local->scope.names.lookup y.1=some .local:=λy hy e=>by
 have:=zaW.mp S.locs y hy
 simp only[e,zdh,bne_self_eq_false,zbj,false_or,beq_iff_eq]at this
 exact this
theorem Qc.freeH (S:Qc X N' ix scope) (ok:X.Ok):∀x∈scope.names,x.2=.free->∃c,X.env.cells.lookup x.1=some c:=λx hx e=>by
 have:=zaW.mp S.frees x hx
 simp only[e,zdh,bne_self_eq_false,zbj,false_or,beq_iff_eq]at this
 exact ok.has x.1 this
theorem Qc.clook (S:Qc X N' ix scope) (ok:X.Ok) {x:Str} {c:Addr} (h:(j5 X.env scope.names []).lookup x=some c):X.env.cells.lookup x=some c/\(x,NameKind.free)∈scope.names:=by
 rcases zx h with h | ⟨h1,h2⟩
 . simp at h
 . obtain⟨c',hc'⟩:=S.freeH ok _ h1 rfl
   have hc2:X.env.cells.lookup x=some c':=hc'
   rw[hc2]at h2
   subst h2
   exact⟨hc2,h1⟩
theorem qaO {C:Addr} {fp:List Addr} (S:Qc X N' ix scope) (I:qC X pins σ H s) (hC:s.heap.objs.size<=C) (hf:∀b∈fp,JL X pins H b) (hfo:∀b∈fp,b < s.heap.objs.size):(zu X N' scope C s H fp pins).Ok where
 mod:=I.ok.mod
 kind:=S.kind
 glob:=I.ok.glob
 blt:=I.ok.blt
 above:=hC
 inj:=λx y c h1 h2=>I.ok.inj x y c (S.clook I.ok h1).1 (S.clook I.ok h2).1
 has:=λx hx=>by
   have hx':(relabel scope X.env).names.lookup x=some .cell\/(relabel scope X.env).names.lookup x=some .free:=hx
   refine Zo (.inl ?_)
   have go:∀k,(k=NameKind.cell\/k=.free)->(relabel scope X.env).names.lookup x=some k->(x,NameKind.free)∈scope.names:=λk hk h=>by
     obtain⟨j,h1,h2⟩:=J7 (f:=λ(n,k)=>if (k==NameKind.free&&X.env.scope.kind==.function&&X.env.kindOf n==some .cell) then (n,NameKind.cell) else (n,k)) (λp=>by dsimp only;split<;>rfl) h
     have hm:=mem_of_lookup h1
     by_cases hj:j=.free
     . subst hj;exact hm
     . exfalso
       have hb:(j==NameKind.free)=false:=by simpa using hj
       dsimp only at h2
       rw[hb,zcx,zcx,if_neg (by decide)]at h2
       have h2':j=k:=h2
       rcases hk with e | e
       . exact S.cellH _ hm (h2'.trans e)
       . exact hj (h2'.trans e)
   rcases hx' with h | h
   . exact go _ (.inl rfl) h
   . exact go _ (.inr rfl) h
 cab:=λx c h _=>by cases h
 hd:=I.ok.hd
 frames:=I.ok.frames
 stk:=.inl rfl
 exf:=λb hb=>⟨tR (tN (hfo b hb) hC),λx c h=>(hf b hb).2.2.2.2.1 x c (S.clook I.ok h).1⟩
 bs:=I.bs
 bsz:=tV I.ok.bsz I.sz
 noex:=λb o e hb=>by
   rcases(hf b hb).2.2.2.1 with h | h
   . exact I.ok.noex b o e h
   . exact absurd (tN (tI e) (tV I.ok.bsz h)) (zaw _)
 exfs:=λb hb hm=>by
   rcases zaa.mp (I.stkSub b hm) with e | e
   . exact(hf b hb).2.1 e
   . exact(hf b hb).2.2.1 e
 funs:=I.stack
 frf:=I.stkFree
theorem yd {C D:Addr} {fp:List Addr} {h₁:Heap} {m:Str->Option Value} {t':Nat} {n₀:Nat} (S:Qc X N' ix scope) (I:qC X pins σ H s) (hf:∀b∈fp,JL X pins H b) (hfo:∀b∈fp,b < s.heap.objs.size)
   (hD:s.heap.objs.size<=D) (hC:s.heap.objs.size<=C) (hDC:D≠C) (kp:∀b o,s.heap.get? b=some o->h₁.get? b=some o) (hn:h₁.Ns C m) (hl:h₁.get? D=some {cls:=.type "list",data:=.seq #[] n₀}):
   qC (zu X N' scope C s H fp pins) [] (RK ix σ) (upd H D (.lst [])) {s with heap:=h₁,toks:=t'} where
 ok:=qaO S I hC hf hfo
 os:=rfl
 bare:=I.bare
 base:=Un.laid kp hD (I.hok.fresh hD)
 loc:=by
   refine⟨m,hn,λi x v e1 e2 e3=>?_⟩
   have hix:=S.ixs
   unfold K9 at hix
   rw[zam]at hix
   obtain⟨hlen,hall⟩:=hix
   have hlen':ix.length=N'.length:=by simpa using hlen
   have e1':N'[i]?=some x:=e1
   unfold RK at e2
   rw[tH]at e2
   cases ho:ix[i]? with
   | none=>rw[ho]at e2;cases e2
   | some o=>
     rw[ho]at e2
     cases o with
     | none=>cases e2
     | some j=>
       have e2':(σ[j]?).join=some v:=tO.inj e2
       have hz:(ix.zip N')[i]?=some (some j,x):=by
         rw[List.getElem?_zip_eq_some]
         exact⟨ho,e1'⟩
       have hm:=zaW.mp hall _ (tQ hz)
       dsimp only at hm
       simp only[zam,beq_iff_eq,zdh]at hm
       obtain⟨⟨hN,hfr⟩,hk⟩:=hm
       have e2'':σ[j]?=some (some v):=by
         cases q:σ[j]? with
         | none=>rw[q]at e2';cases e2'
         | some z=>
           rw[q]at e2'
           have:z=some v:=e2'
           rw[this]
       obtain⟨mX,hnX,hlX⟩:=I.loc
       have hvis:My X.env.scope x:=by
         rcases hk with h | h
         . exact .inr (.inl h)
         . exact .inr (.inr h)
       obtain⟨u,ru,lu⟩:=hlX j x v hN e2'' hvis
       refine⟨u,ru,?_⟩
       rcases lu with ⟨hk',_⟩ | ⟨_,c,hc,hcell⟩
       . exfalso
         have hk'':X.env.scope.names.lookup x=some .local:=hk'
         rcases hk with h | h<;>rw[h]at hk''<;>cases hk''
       . right
         obtain⟨k',r1,r2⟩:=Zz (scope:=scope) (env:=X.env) hfr
         refine⟨?_,?_⟩
         . rcases r2 with z | ⟨_,z⟩
           . right;rw[z]at r1;exact r1
           . left;rw[z]at r1;exact r1
         . obtain⟨c',hc'⟩:=Zo (env:=X.env) (cs:=[]) (.inl (mem_of_lookup hfr))
           have:=(S.clook I.ok hc').1
           rw[hc]at this
           cases this
           obtain⟨o,ho',hd⟩:=hcell
           exact⟨c,hc',o,kp _ _ ho',hd⟩
 cell:=λx c h=>by
   obtain⟨v,o,ho,hd⟩:=I.cell x c (S.clook I.ok h).1
   exact⟨v,o,kp _ _ ho,hd⟩
 free:=by
   show (upd H D _) C=none
   rw[qi (Ne.symm hDC)]
   exact I.hok.fresh hC
 freeC:=λx c h=>by
   have h1:=(S.clook I.ok h).1
   obtain⟨v,o,ho,hd⟩:=I.cell x c h1
   rw[qi (tR (tN (tI ho) hD))]
   exact I.freeC x c h1
 pin:=λp hp=>by
   have hp':p∈X.pn++pins:=by
     have:p∈(X.pn++pins)++[]:=hp
     simpa using this
   obtain⟨e,n,ne,nf,d⟩:=I.pin p hp'
   have hlt:=tI e
   refine⟨kp _ _ e,?_,tR (tN hlt hC),λhm=>?_,d⟩
   . rw[qi (tR (tN hlt hD))];exact n
   . rcases zaa.mp (I.stkSub p.1 hm) with z | z
     . exact ne z
     . exact nf z
 hok:=I.hok.laid kp hD ⟨zap _,[],n₀,.nil,hl⟩
 len:=by
   have hix:=S.ixs
   unfold K9 at hix
   rw[zam]at hix
   have:ix.length=N'.length:=by simpa using hix.1
   show (RK ix σ).length=N'.length
   unfold RK
   rw[tj,this]
theorem wF {C:Addr} {fp:List Addr} {σ':St} {H':Hp} {s':Shared} {pl:List (Addr×Obj)} (I:qC X pins σ H s) (hf:∀b∈fp,JL X pins H b) (J:qC (zu X N' scope C s H fp pins) pl σ' H' s'):qC X pins σ H' s':=
 I.call' (ch:=fp) J.os J.base J.hok J.bare λb hb=>⟨(hf b hb).2.2.2.1,(hf b hb).2.1,(hf b hb).2.2.2.2.1,(hf b hb).2.2.2.2.2⟩
theorem wE {C:Addr} {H':Hp} {s₀ s':Shared} {h':Heap} (I₀:qC X pins σ H s₀) (I:qC X pins σ H' s') (hC:s₀.heap.objs.size<=C) (hn:H' C=none) (sb:Heap.SameBut C s'.heap h'):qC X pins σ H' {s' with heap:=h'}:=by
 refine I.turned (it:=C) (t':=s'.toks) (λb o hb e=>(sb.2 b hb).trans e) hn (zbu (tN I₀.lt hC)) (.inr (tV I₀.sz hC)) (λx c e z=>?_) λp hp z=>?_
 . obtain⟨v,q⟩:=I₀.cell x c e
   exact absurd (tN q.lt (by rw[z];exact hC)) (zaw _)
 . exact absurd (tN (tI (I₀.pin p hp).1) (by rw[z];exact hC)) (zaw _)
end
def Mz (X:Cx) (ifs:List Expr) (t:TT):Prop:=
 ∀(pins:List (Addr×Obj)) (s:Shared) (σ:St) (H:Hp) (Q:Bool->Hp->Prop),qC X pins σ H s->t σ H Q->
   wpAny (model X.prog X.w) X.A (forIn ifs true λc r=>if r=true then do let ok <-isTrue c X.env (eval c X.env);pure (ForInStep.yield ok) else pure (ForInStep.yield r)) (TP X pins σ Q) X.xe s
@[irreducible] def uv (X:Cx) (ifs:List Expr) (t:TT):Prop:=Mz X ifs t
theorem uv.of {X:Cx} {ifs:List Expr} {t:TT} (h:Mz X ifs t):uv X ifs t:=by unfold uv;exact h
theorem uv.to {X:Cx} {ifs:List Expr} {t:TT} (h:uv X ifs t):Mz X ifs t:=by unfold uv at h;exact h
def qbl:TT:=λ_ H Q=>Q true H
theorem jK {X:Cx}:uv X [] qbl:=.of (by
 exact λ_ _ _ H _ I h=>wpAny_tests_nil ⟨H,I,h⟩)
theorem jJ {X:Cx} {c:Expr} {t:TT} (h:JT X c t):uv X [c] t:=.of (by
 have h:=h.to
 exact λpins s σ H Q I hw=>wpAny_tests_one (h pins s σ H Q I hw))
section
variable {prog:Program} {w:World} {A:Around} {R:Result->Shared->Prop} {s:Shared}
theorem WC {elt target iter:Expr} {ifs:List Expr} {scope:Scope} {pos:Pos} {it acc:Value} {env:Env} (I:Nat->Shared->Prop)
   (turn:∀n s,I n s->wpAny (model prog w) A (pyNext it) (λr s₁=>match r with
     | none=>R (.ok .next) s₁
     | some v=>wpAny (model prog w) A (letOwnedTupleGo target it v) (λ_ s₁'=>wpAny (model prog w) A (assign target env v) (λ_ s₂=>
         wpAny (model prog w) A (forIn ifs true λc r=>if r=true then do let ok <-isTrue c env (eval c env);pure (ForInStep.yield ok) else pure (ForInStep.yield r)) (λok s₃=>
           if ok=true then wpAny (model prog w) A (eval elt env) (λx s₄=>
             wpAny (model prog w) A (call (.builtin "list.append") [acc,x]) (λ_ s₅=>∃m,m < n/\I m s₅) (λ_ _=>False) s₄) (λ_ _=>False) s₃
           else ∃m,m < n/\I m s₃) (λ_ _=>False) s₂) (λ_ _=>False) s₁') (λ_ _=>False) s₁) (λ_ _=>False) s)
   (n:Nat) (h:I n s):
   codeAny (model prog w) A (.compLoop (.ListComp elt [⟨target,iter,ifs,0⟩] scope pos) 0 it acc env) R s:=by
 refine codeAny_loop rfl I (λn s hI=>?_) n h
 show wpAny _ A ((compTurn (.ListComp elt [⟨target,iter,ifs,0⟩] scope pos) 0 it acc env).onRaise (λx=>do noteFrame x env;theTreesLotGoes x)) _ _ s
 refine wpAny_noted ?_
 rw[compTurn_list]
 refine wpAny_bind (wpAny_standAt (wpAny_bind (wpAny_mono (turn n s hI) (λr s₁ h₁=>?_) λ_ _ h'=>h'.elim)))
 cases r with
 | none=>exact wpAny_pure h₁
 | some v=>
   refine wpAny_bind (wpAny_mono h₁ (λ_ s₁' h₁'=>?_) λ_ _ h'=>h'.elim)
   refine wpAny_bind (wpAny_mono h₁' (λ_ s₂ h₂=>wpAny_bind (wpAny_mono h₂ (λok s₃ h₃=>?_) λ_ _ h'=>h'.elim)) λ_ _ h'=>h'.elim)
   cases ok with
   | false=>exact wpAny_pure ⟨rfl,h₃⟩
   | true=>
     exact wpAny_bind (wpAny_bind (wpAny_mono h₃ (λx s₄ h₄=>wpAny_bind (wpAny_mono h₄ (λ_ s₅ h₅=>wpAny_pure (wpAny_pure ⟨rfl,h₅⟩)) λ_ _ h'=>h'.elim)) λ_ _ h'=>h'.elim))
end
def YZ (J:It) (g:TG) (tt:TT) (te:TE) (D:Addr) (σ:St) (H:Hp) (Q:Hp->Prop):Prop:=
 ∃W:Nat->Nat->St->Hp->Prop,(∃m,W 0 m σ (upd H D (.lst [])))/\∀i m σ' H',W i m σ' H'->
   (J.stop i H'/\Q H')\/(J.go i H'/\∃N:St->Hp->Prop,(∀σ2 H2,N σ2 H2->∃m',m' < m/\W (i+1) m' σ2 H2)/\∀x H2,J.yld i H' x H2->g x σ' H2 λσ2 H3=>tt σ2 H3 λb H4=>
     if b=true then te σ2 H4 λv H5=>∃ys,H5 D=some (.lst ys)/\ys.length < sizeLine/\N σ2 (upd H5 D (.lst (ys++[v]))) else N σ2 H4)
def tLC (wi:TI) (ix:List (Option Nat)) (g:TG) (tt:TT) (te:TE):TE:=λσ H Q=>wi σ H λJ H1=>∀D,H1 D=none->YZ J g tt te D (RK ix σ) H1 λH2=>Q (.ref D) H2
section
variable {X:Cx} {N':List Str} {ix:List (Option Nat)} {scope:Scope}
theorem XG {elt iter target:Expr} {ifs:List Expr} {pos:Pos} {g:TG} {tt:TT} {te:TE} {pins:List (Addr×Obj)} {σ:St} {H:Hp} {s:Shared} {it:Addr} {fp:List Addr} {tn:Nat->Heap->Prop} {J:It} {E:Value->Shared->Prop}
   {RR:Value->Addr->Result->Shared->Prop} {Q:Addr->Hp->Prop}
   (hc:X.calm=true) (S:Qc X N' ix scope) (I:qC X pins σ H s) (T:WE X.prog X.w X.K target J fp it tn) (st:tn 0 s.heap) (hf:∀b∈fp,JL X pins H b)
   (hb:∀C s₂ H₂ fp pins,PG (zu X N' scope C s₂ H₂ fp pins) target g/\Mz (zu X N' scope C s₂ H₂ fp pins) ifs tt/\PE (zu X N' scope C s₂ H₂ fp pins) elt te)
   (h:∀D,H D=none->YZ J g tt te D (RK ix σ) H (Q D))
   (fin:∀(D C:Addr) (H':Hp) (s':Shared) (m:Str->Option Value),s.heap.objs.size<=C->H' C=none->s'.heap.Ns C m->qC X pins σ H' s'->Q D H'->RR (.ref D) C (.ok .next) s'):
   wpAny (model X.prog X.w) X.A (newList []) (λacc s₃=>wpAny (model X.prog X.w) X.A (newFunctionEnv scope X.env.globals (j5 X.env scope.names []) [] X.env.qual none .none (some X.env)) (λcenv s₄=>
     codeAny (model X.prog X.w) X.A (.compStart (.ListComp elt [⟨target,iter,ifs,0⟩] scope pos) 0 (.ref it) acc {cenv with scope:=relabel scope X.env}) (RR acc cenv.locals) s₄) E s₃) E s:=by
 have hfo:∀b∈fp,b < s.heap.objs.size:=λb hb=>by
   obtain⟨o,e,_⟩:=T.obj _ _ st b hb
   exact tI e
 refine wpAny_newObj_type (wpAny_newFunctionEnv S.cellH (by intro y hy;simp at hy) (λh₁ hns₁ hsb₁=>?_) S.kind)
 dsimp only at hns₁ hsb₁ ⊢
 generalize hH2:s.heap.push {cls:=.type "list",dict:=none,data:=.seq ([]:List Value).toArray}=H2 at hns₁ hsb₁ ⊢
 have hC:H2.objs.size=s.heap.objs.size+1:=by rw[<-hH2,zbe]
 have hDC:s.heap.objs.size≠H2.objs.size:=by rw[hC];exact tR (zaT _)
 have hCle:s.heap.objs.size<=H2.objs.size:=by rw[hC];exact zbw _
 have below:∀b,b < s.heap.objs.size->b≠H2.objs.size:=λb hb=>by rw[hC];exact tR (zbL hb)
 have old:∀b o,s.heap.get? b=some o->h₁.get? b=some o:=λb o e=>hsb₁.extBut b o (below b (tI e)) (tz _ (hH2▸tz _ e))
 have hacc:h₁.get? s.heap.objs.size=some {cls:=.type "list",data:=.seq #[] 0}:=hsb₁.extBut _ _ hDC (tz _ (hH2▸tU _ rfl))
 obtain⟨W,⟨m0,w0⟩,turn⟩:=h s.heap.objs.size (I.hok.fresh (tw _))
 have I1:qC (zu X N' scope H2.objs.size s H fp pins) [] (RK ix σ) (upd H s.heap.objs.size (.lst [])) {s with heap:=h₁,toks:=s.toks+([]:List (Str×Value)).length}:=
   yd S I hf hfo (tw _) hCle hDC old hns₁ hacc
 have st₁:tn 0 h₁:=T.keep _ _ _ st λb hb o e=>old b o e
 have fpn:∀b∈fp,(upd H s.heap.objs.size (.lst [])) b=none:=λb hb=>by
   rw[qi (tR (hfo b hb))]
   exact(hf b hb).1
 obtain⟨hg,htt,hte⟩:=hb H2.objs.size s H fp pins
 have okY:=I1.ok
 have stat:∀{H':Hp},(∀b∈fp,H' b=none)->∀b∈fp,JL (zu X N' scope H2.objs.size s H fp pins) [] H' b:=λ{H'} hn b hb=>
   ⟨hn b hb,(okY.exf b hb).1,okY.exfs b hb,.inl hb,(okY.exf b hb).2,λp hp=>by
     have hp':p∈X.pn++pins:=by
       have:p∈(X.pn++pins)++[]:=hp
       simpa using this
     exact(hf b hb).2.2.2.2.2 p hp'⟩
 have loop:codeAny (model X.prog X.w) X.A (.compLoop (.ListComp elt [⟨target,iter,ifs,0⟩] scope pos) 0 (.ref it) (.ref s.heap.objs.size) (compEnvC scope (j5 X.env scope.names []) H2.objs.size X.env))
     (RR (.ref s.heap.objs.size) H2.objs.size) {s with heap:=h₁,toks:=s.toks+([]:List (Str×Value)).length}:=by
   refine WC (λn s'=>∃i σ' H',qC (zu X N' scope H2.objs.size s H fp pins) [] σ' H' s'/\tn i s'.heap/\(∀b∈fp,H' b=none)/\W i n σ' H') ?_ m0 ⟨0,_,_,I1,st₁,fpn,w0⟩
   rintro n s3 ⟨i,σ3,H3,I3,st3,fr3,w3⟩
   rcases turn i n σ3 H3 w3 with ⟨stop,qn⟩ | ⟨go,NN,hNN,step⟩
   . refine ji (T.done (zu X N' scope H2.objs.size s H fp pins) rfl rfl rfl hc i [] s3 σ3 H3 _ I3 (stat fr3) st3 stop) λr s4 ⟨hr,I4⟩=>?_
     subst hr
     obtain⟨mm,hnm,_⟩:=I4.loc
     exact fin _ _ H3 s4 mm hCle I4.free hnm (wF I hf I4) qn
   . refine ji (T.item (zu X N' scope H2.objs.size s H fp pins) rfl rfl rfl hc i [] s3 σ3 H3 _ I3 (stat fr3) st3 go) λr s4 ⟨u,hr,h4⟩=>?_
     subst hr
     refine ji h4 λ_ s5 ⟨x,H5,I5,r5,y5,st5,fr5⟩=>?_
     have I5':=I5.pinned (stat fr5) (T.obj _ _ st5)
     refine ji (hg _ s5 σ3 H5 x u _ I5' r5 (step x H5 y5)) λ_ s6 ⟨σ6,H6,I6,q6⟩=>?_
     refine ji (htt _ s6 σ6 H6 _ I6 q6) λok s7 ⟨H7,I7,q7⟩=>?_
     have again:∀{σ8:St} {H8:Hp} {s8:Shared},qC (zu X N' scope H2.objs.size s H fp pins) ([]++Yk fp s5.heap) σ8 H8 s8->NN σ8 H8->
         ∃m,m < n/\∃i σ' H',qC (zu X N' scope H2.objs.size s H fp pins) [] σ' H' s8/\tn i s8.heap/\(∀b∈fp,H' b=none)/\W i m σ' H':=λ{σ8 H8 s8} I8 n8=>by
       obtain⟨m',hm,w8⟩:=hNN σ8 H8 n8
       refine⟨m',hm,i+1,σ8,H8,I8.unpinned,T.keep _ _ _ st5 λb hb o e=>(I8.pin (b,o) (zan _ (zan _ (Jm hb e)))).1,λb hb=>?_,w8⟩
       obtain⟨o,e,d⟩:=T.obj _ _ st5 b hb
       exact(I8.pin (b,o) (zan _ (zan _ (Jm hb e)))).2.1
     cases ok with
     | false=>
       rw[if_neg tK]at q7 ⊢
       exact again I7 q7
     | true=>
       rw[if_pos rfl]at q7 ⊢
       refine ji (hte _ s7 σ6 H7 _ I7 q7) λv s8 ⟨y,H8,I8,r8,q8⟩=>?_
       obtain⟨ys,hy,hz,q8⟩:=q8
       refine ji (jY (X:=zu X N' scope H2.objs.size s H fp pins) _ s8 σ6 H8 (.ref s.heap.objs.size) [y] (.ref s.heap.objs.size) [v] (λ_ H9=>NN σ6 H9) I8 rfl (.cons r8 .nil) ⟨_,ys,y,rfl,rfl,hy,hz,q8⟩) λ_ s9 ⟨_,H9,I9,_,q9⟩=>?_
       exact again I9 q9
 exact codeAny_compStart_list loop (T.self X.A 0 _ _ _ st₁ loop)
theorem qaf {elt iter target:Expr} {ifs:List Expr} {pos:Pos} {wi:TI} {g:TG} {tt:TT} {te:TE} (hc:X.calm=true) (S:Qc X N' ix scope) (hi:PI X target iter wi)
   (hb:∀C s₂ H₂ fp pins,PG (zu X N' scope C s₂ H₂ fp pins) target g/\Mz (zu X N' scope C s₂ H₂ fp pins) ifs tt/\PE (zu X N' scope C s₂ H₂ fp pins) elt te)
   (hs:∀x,foldedSetIterable iter X.env x=pure x:=by intro _;rfl):PE X (.ListComp elt [⟨target,iter,ifs,0⟩] scope pos) (tLC wi ix g tt te):=by
 intro pins s σ H Q I h
 rw[eval_ListComp]
 refine wpAny_comprehension_free (use:=none) rfl hs (J8 (S.freeH I.ok)) S.kind S.locH ?_
 refine ji (hi pins s σ H _ I h) λxv s1 h1=>ji h1 λitv s2 h2=>?_
 obtain⟨it,fp,tn,J,H2,e,I2,T,st2,f2,q2⟩:=h2
 subst e
 refine XG (RR:=λacc C=>compPost (model X.prog X.w) X.A X.xe none (EP X pins σ Q) acc C) (Q:=λD H'=>Q (.ref D) H') hc S I2 T st2 f2 hb q2 ?_
 intro D C H' s' m hC hn hm I' q
 exact⟨m,hm,λh' sb=>⟨.ref D,H',wE I2 I' hC hn sb,rfl,q⟩⟩
theorem jX {elt iter target:Expr} {ifs:List Expr} {pos:Pos} {wi:TI} {g:TG} {tt:TT} {te:TE} (hc:X.calm=true) (S:Qc X N' ix scope) (hi:JI X target iter wi) (hb:∀C s₂ H₂ fp pins,JG (zu X N' scope C s₂ H₂ fp pins) target g/\uv (zu X N' scope C s₂ H₂ fp pins) ifs tt/\JE (zu X N' scope C s₂ H₂ fp pins) elt te) (hs:∀x,foldedSetIterable iter X.env x=pure x:=by intro _;rfl):JE X (.ListComp elt [⟨target,iter,ifs,0⟩] scope pos) (tLC wi ix g tt te):=.of (qaf hc S hi.to (λC s₂ H₂ fp pins=>⟨(hb C s₂ H₂ fp pins).1.to,(hb C s₂ H₂ fp pins).2.1.to,(hb C s₂ H₂ fp pins).2.2.to⟩) hs)
theorem xw {i:Nat} {x:Str} {elt iter target:Expr} {ifs:List Expr} {pos spos px:Pos} {wi:TI} {g:TG} {tt:TT} {te:TE} (hN:X.N.Nodup) (hxi:X.N[i]?=some x) (hx:Mi X.env.scope x) (hc:X.calm=true) (S:Qc X N' ix scope) (hi:PI X target iter wi)
   (hb:∀C s₂ H₂ fp pins,PG (zu X N' scope C s₂ H₂ fp pins) target g/\Mz (zu X N' scope C s₂ H₂ fp pins) ifs tt/\PE (zu X N' scope C s₂ H₂ fp pins) elt te)
   (hsw:swapsWith (.ListComp elt [⟨target,iter,ifs,0⟩] scope pos) (some (.Name x px)) spos.line X.env=pure true:=by rfl)
   (hs:∀x,foldedSetIterable iter X.env x=pure x:=by intro _;rfl) (hf:X.fn x=true\/X.env.scope.names.lookup x=some .local:=by first | exact .inl rfl | exact .inr rfl | assumption):
   PS X (.Assign [.Name x px] (.ListComp elt [⟨target,iter,ifs,0⟩] scope pos) spos) (yR (tLC wi ix g tt te) (JB i)):=by
 intro pins s σ H D I h
 rw[exec_Assign_Name_used _ _ _ _ hsw]
 refine wpAny_bind (wpAny_standAt (wpAny_bind ?_))
 show wpAny _ X.A (do let _ <-comprehension (.ListComp elt [⟨target,iter,ifs,0⟩] scope pos) scope X.env _ (newList []) false (eval iter X.env) (some (assign (.Name x px) X.env))) _ _ s
 refine wpAny_bind (ji (wpAny_comprehension_free (use:=some (assign (.Name x px) X.env)) (Q:=λ_ s'=>SP X pins D .next s') rfl hs (J8 (S.freeH I.ok)) S.kind S.locH ?_) λ_ s' hq=>wpAny_pure (wpAny_pure hq))
 refine ji (hi pins s σ H _ I h) λxv s1 h1=>ji h1 λitv s2 h2=>?_
 obtain⟨it,fp,tn,J,H2,e,I2,T,st2,f2,q2⟩:=h2
 subst e
 refine XG (RR:=λacc C=>compPost (model X.prog X.w) X.A X.xe (some (assign (.Name x px) X.env)) (λ_ s'=>SP X pins D .next s') acc C) (Q:=λD' H'=>JB i (.ref D') σ H' D.nx) hc S I2 T st2 f2 hb q2 ?_
 intro D' C H' s' m hC hn hm I' q
 show wpAny _ X.A (assign (.Name x px) X.env (.ref D')) _ _ _
 refine wpAny_assign_Name (Xi I' hN hxi hx (v:=.ref D') rfl (λs'' I'' hch=>?_) hf)
 obtain⟨a,sb,ha⟩:=hch
 have hCa:C≠a:=by
   rcases ha with z | z
   . rw[z];exact zbu (tN I2.lt hC)
   . intro e
     obtain⟨v,qc⟩:=I2.cell x a z
     exact absurd (tN qc.lt (by rw[<-e];exact hC)) (zaw _)
 refine⟨m,hm.sameBut sb hCa,λh' sb'=>?_⟩
 refine⟨_,H',?_,q⟩
 refine I''.turned (it:=C) (t':=s''.toks) (λb o hb e=>(sb'.2 b hb).trans e) hn (zbu (tN I2.lt hC)) (.inr (tV I2.sz hC)) (λy c e z=>?_) λp hp z=>?_
 . obtain⟨v,qc⟩:=I2.cell y c e
   exact absurd (tN qc.lt (by rw[z];exact hC)) (zaw _)
 . exact absurd (tN (tI (I2.pin p hp).1) (by rw[z];exact hC)) (zaw _)
theorem QN {i:Nat} {x:Str} {elt iter target:Expr} {ifs:List Expr} {pos spos px:Pos} {wi:TI} {g:TG} {tt:TT} {te:TE} (hN:X.N.Nodup) (hxi:X.N[i]?=some x) (hx:Mi X.env.scope x) (hc:X.calm=true) (S:Qc X N' ix scope) (hi:JI X target iter wi) (hb:∀C s₂ H₂ fp pins,JG (zu X N' scope C s₂ H₂ fp pins) target g/\uv (zu X N' scope C s₂ H₂ fp pins) ifs tt/\JE (zu X N' scope C s₂ H₂ fp pins) elt te) (hsw:swapsWith (.ListComp elt [⟨target,iter,ifs,0⟩] scope pos) (some (.Name x px)) spos.line X.env=pure true:=by rfl) (hs:∀x,foldedSetIterable iter X.env x=pure x:=by intro _;rfl) (hf:X.fn x=true\/X.env.scope.names.lookup x=some .local:=by first | exact .inl rfl | exact .inr rfl | assumption):JS X (.Assign [.Name x px] (.ListComp elt [⟨target,iter,ifs,0⟩] scope pos) spos) (yR (tLC wi ix g tt te) (JB i)):=.of (xw hN hxi hx hc S hi.to (λC s₂ H₂ fp pins=>⟨(hb C s₂ H₂ fp pins).1.to,(hb C s₂ H₂ fp pins).2.1.to,(hb C s₂ H₂ fp pins).2.2.to⟩) hsw hs hf)
end
def Its (x:Str):It:=⟨λi _=>i < x.cps.size,λi H v H'=>H'=H/\∃c,x.cps[i]?=some c/\v=.str ⟨#[c]⟩,λi _=>i=x.cps.size⟩
theorem WN {P:Program} {w:World} {K:PySem.W.Frag} {tg:Expr} (it:Addr) (x:Str) (t:Tok) (ty:String)
   (hn:["enumerate","zip","dict_itemiterator","dict_reverseitemiterator","odict_iterator","itertools.zip_longest","itertools.pairwise"].contains ty=false)
   (hW:∀A:Around,A.handled=none->Walks P w A it [it] [it] x.cps.size (SignAt x) (λi h=>h.IsStrIter it ty x t i))
   (hself:∀(A:Around) (i:Nat) (s:Shared) (Q:Value->Shared->Prop) (E:Value->Shared->Prop),s.heap.IsStrIter it ty x t i->Q (.ref it) s->wpAny (model P w) A (pyIter (.ref it)) Q E s):
   WE P w K tg (Its x) [it] it (λi h=>h.IsStrIter it ty x t i) where
 mem:=by simp
 obj:=λi h st b hb=>by
   have e:b=it:=by simpa using hb
   subst e
   obtain⟨o,e,c,d⟩:=st
   exact⟨o,e,λv z=>by rw[d]at z;cases z⟩
 keep:=λi h h' st k=>let ⟨o,e,r⟩:=st;⟨o,k it (by simp) o e,r⟩
 item:=by
   intro X hP hw hK hc i pins s σ H E I hf st hg
   subst hP hw hK
   obtain⟨f0,f1,f2,f3,f4,f5⟩:=hf it (by simp)
   refine(hW X.A (I.ok.hd hc)).item i s _ _ hg st λv h' tk hv st' kk=>?_
   obtain⟨c,u,hcu,rfl⟩:=hv
   have I1:qC X pins σ H {s with heap:=h',toks:=tk}:=I.turned (λb o hb e=>kk b o (by simpa using hb) e) f0 f1 f3 f4 f5
   obtain⟨o,e,c1,d1⟩:=id st'
   exact⟨_,rfl,Vo (s:={s with heap:=h',toks:=tk}) e c1 d1 hn ⟨.str ⟨#[c]⟩,H,I1,⟨u,rfl⟩,⟨rfl,c,hcu,rfl⟩,st',λb hb=>(hf b hb).1⟩⟩
 done:=by
   intro X hP hw hK hc i pins s σ H E I hf st hg
   subst hP hw hK
   obtain⟨f0,f1,f2,f3,f4,f5⟩:=hf it (by simp)
   have hi:i=x.cps.size:=hg
   subst hi
   exact(hW X.A (I.ok.hd hc)).done s _ _ st λh' tk kk=>⟨rfl,I.turned (λb o hb e=>kk b o (by simpa using hb) e) f0 f1 f3 f4 f5⟩
 self:=hself
def qb2 (tl:TE):TI:=λσ H R=>tl σ H λx H1=>∃y,x=.str y/\R (Its y) H1
theorem NU {X:Cx} {tg l:Expr} {tl:TE} (hl:JE X l tl):JI X tg l (qb2 tl):=.of (by
 have hl:=hl.to
 intro pins s σ H R I h
 refine ji (hl pins s σ H _ I h) λv s1 ⟨x,H1,I1,r1,q1⟩=>?_
 obtain⟨y,e,q⟩:=q1
 subst e
 obtain⟨t,rfl⟩:=r1
 have fp:∀b∈[s1.heap.objs.size],JL X pins H1 b:=λb hb=>by
   have e:b=s1.heap.objs.size:=by simpa using hb
   subst e
   exact I1.fpOk (tw _) (I1.hok.fresh (tw _))
 cases ha:y.cps.all (· < 128)
 . refine wpAny_pyIter_wide ha ?_
   exact⟨s1.heap.objs.size,[s1.heap.objs.size],_,_,H1,rfl,I1.kept (t':=s1.toks) λb o e=>tz _ e,
     WN _ y t "str_iterator" (by decide) (λA hA=>Walks.strWide hA _ y t) (λA i s Q E st q=>wpAny_pyIter_striter_wide st q),⟨_,tU _ rfl,rfl,rfl⟩,fp,q⟩
 . refine wpAny_pyIter_ascii ha ?_
   exact⟨s1.heap.objs.size,[s1.heap.objs.size],_,_,H1,rfl,I1.kept (t':=s1.toks) λb o e=>tz _ e,
     WN _ y t "str_ascii_iterator" (by decide) (λA hA=>Walks.strAscii hA _ y t) (λA i s Q E st q=>wpAny_pyIter_striter_ascii st q),⟨_,tU _ rfl,rfl,rfl⟩,fp,q⟩)
section
variable {K:PySem.W.Frag} {g:TG} {tt:TT} {te:TE} {D a:Addr} {σ:St} {H:Hp} {Q:Hp->Prop}
def XQ (tt:TT) (te:TE) (D:Addr) (N:St->Hp->Prop):St->Hp->Prop:=λσ2 H3=>tt σ2 H3 λb H4=>
 if b=true then te σ2 H4 λv H5=>∃ys,H5 D=some (.lst ys)/\ys.length < sizeLine/\N σ2 (upd H5 D (.lst (ys++[v]))) else N σ2 H4
theorem YQ {J:It} {n:Nat} (Pv:Nat->St->Hp->Prop) (h0:Pv 0 σ (upd H D (.lst [])))
   (go:∀i σ' H',i < n->Pv i σ' H'->J.go i H'/\∀x H2,J.yld i H' x H2->g x σ' H2 (XQ tt te D (Pv (i+1)))) (stop:∀σ' H',Pv n σ' H'->J.stop n H'/\Q H'):YZ J g tt te D σ H Q:=by
 refine⟨λi m σ' H'=>m=n - i/\i<=n/\Pv i σ' H',⟨n,by simp,zap _,h0⟩,?_⟩
 rintro i m σ' H' ⟨rfl,hi,p⟩
 by_cases hlt:i < n
 . obtain⟨h1,h2⟩:=go i σ' H' hlt p
   exact .inr ⟨h1,Pv (i+1),λσ2 H2 p2=>⟨n - (i+1),by omega,rfl,hlt,p2⟩,h2⟩
 . have e:i=n:=by omega
   subst e
   exact .inl (stop σ' H' p)
theorem Jb {lo:Int} {n:Nat} (Pv:Nat->St->Hp->Prop) (h0:Pv 0 σ (upd H D (.lst [])))
   (hs:∀i σ' H',i < n->Pv i σ' H'->g (.int (lo+i)) σ' H' (XQ tt te D (Pv (i+1)))) (hd:∀σ' H',Pv n σ' H'->Q H'):YZ (Mm lo n) g tt te D σ H Q:=
 YQ (n:=n) Pv h0 (λi σ' H' hi p=>⟨hi,λx H2 y=>by
   obtain⟨e,y⟩:=y
   subst e y
   exact hs i σ' H2 hi p⟩) λσ' H' p=>⟨tw _,hd σ' H' p⟩
theorem jw {xs:List V} (Pv:Nat->St->Hp->Prop) (h0:Pv 0 σ (upd H D (.lst []))) (hl:∀i σ' H',i<=xs.length->Pv i σ' H'->SqL K H' a xs)
   (hs:∀i x σ' H',xs[i]?=some x->Pv i σ' H'->g x σ' H' (XQ tt te D (Pv (i+1)))) (hd:∀σ' H',Pv xs.length σ' H'->Q H'):YZ (Mn K a) g tt te D σ H Q:=
 YQ (n:=xs.length) Pv h0 (λi σ' H' hi p=>⟨⟨xs,xs[i],hl i σ' H' (zak hi) p,by simp [hi]⟩,λx H2 y=>by
   obtain⟨e,y⟩:=y
   subst e
   exact hs i x σ' _ (y xs (hl i σ' _ (zak hi) p)) p⟩) λσ' H' p=>⟨⟨xs,hl _ σ' H' (tw _) p,tw _⟩,hd σ' H' p⟩
theorem zR {xs:List V} (Pv:Nat->St->Hp->Prop) (h0:Pv 0 σ (upd H D (.lst []))) (hl:∀i σ' H',i<=xs.length->Pv i σ' H'->SqT K H' a xs)
   (hs:∀i x σ' H',xs[i]?=some x->Pv i σ' H'->g x σ' H' (XQ tt te D (Pv (i+1)))) (hd:∀σ' H',Pv xs.length σ' H'->Q H'):YZ (MB K a) g tt te D σ H Q:=
 YQ (n:=xs.length) Pv h0 (λi σ' H' hi p=>⟨⟨xs,xs[i],hl i σ' H' (zak hi) p,by simp [hi]⟩,λx H2 y=>by
   obtain⟨e,y⟩:=y
   subst e
   exact hs i x σ' _ (y xs (hl i σ' _ (zak hi) p)) p⟩) λσ' H' p=>⟨⟨xs,hl _ σ' H' (tw _) p,tw _⟩,hd σ' H' p⟩
theorem Gr {x:Str} (Pv:Nat->St->Hp->Prop) (h0:Pv 0 σ (upd H D (.lst [])))
   (hs:∀i c σ' H',x.cps[i]?=some c->Pv i σ' H'->g (.str ⟨#[c]⟩) σ' H' (XQ tt te D (Pv (i+1)))) (hd:∀σ' H',Pv x.cps.size σ' H'->Q H'):YZ (Its x) g tt te D σ H Q:=
 YQ (n:=x.cps.size) Pv h0 (λi σ' H' hi p=>⟨hi,λv H2 y=>by
   obtain⟨e,c,hc,rfl⟩:=y
   subst e
   exact hs i c σ' _ hc p⟩) λσ' H' p=>⟨rfl,hd σ' H' p⟩
end
section
variable {X:Cx}
theorem YS:∀(bs:List Bool),(zae bs.length).all (λi=>bs.getD i false)=bs.all id:=by
 intro bs
 induction bs with
 | nil=>rfl
 | cons b bs ih=>
   rw[zat,List.range_succ_eq_map,zcM,zcw,zcM]
   have:((λi=>(b::bs).getD i false) ∘ zcA)=λi=>bs.getD i false:=by
     funext i
     simp [Function.comp]
   rw[this,ih]
   simp
theorem Z9 (hc:X.calm=true):j8 X (.builtin "all") (λxs H Q=>∃(p:Addr) (bs:List Bool),xs=[.ref p]/\SqL X.K H p (bs.map V.bl)/\Q (.bl (bs.all id)) H):=by
 intro pins s σ H xs us Q I r h
 obtain⟨p,bs,rfl,hq,q⟩:=h
 obtain⟨u,rfl,rx⟩:=Qm r
 cases rx
 obtain⟨its,rv,pl,hz⟩:=I.list hq
 have hlt:p < s.heap.objs.size:=by
   obtain⟨o,n,e,_⟩:=pl
   exact tI e
 have hn:its.toArray.size=bs.length:=by
   have:=rv.length
   rw[tj]at this
   simp only[tX]
   omega
 have hh:X.A.in1.handled=none:=I.ok.hd hc
 refine call_all_walk (wpAny_pyIter_list pl.isList ?_)
 refine⟨s.heap.objs.size,[s.heap.objs.size,p],[s.heap.objs.size],its.toArray.size,λi v=>its.toArray[i]?=some v,_,λi=>bs.getD i false,rfl,Walks.list hh s.heap.objs.size p (tR hlt) its.toArray,
   ⟨⟨_,tU _ rfl,rfl,rfl⟩,pl.isList.at λo e=>tz _ e⟩,?_,λh' tk hk=>?_⟩
 . intro i v s' Q' E' hP hQ
   have hi:its[i]?=some v:=by simpa using hP
   have hb:∃b,bs[i]?=some b/\v=Value.bool b:=by
     cases e:bs[i]? with
     | none=>
       exfalso
       have h1:(bs.map V.bl)[i]?=none:=by rw[tH,e];rfl
       rw[qE.none_of rv h1]at hi
       cases hi
     | some b=>
       have h1:(bs.map V.bl)[i]?=some (V.bl b):=by rw[tH,e];rfl
       obtain⟨u,hu,ru⟩:=rv.get h1
       rw[hi]at hu
       cases hu
       exact⟨b,rfl,ru⟩
   obtain⟨b,e,rfl⟩:=hb
   refine wpAny_truthy_bool ?_
   have e2:bs.getD i false=b:=by rw[zau,e];rfl
   have hQ':Q' (bs.getD i false) s':=hQ
   rw[e2]at hQ'
   exact hQ'
 . rw[hn,YS]
   refine⟨.bl (bs.all id),H,?_,rfl,q⟩
   exact I.kept (h':=h') (t':=tk) λb o e=>hk b o (by
     intro z
     have z':b=s.heap.objs.size:=by simpa using z
     exact absurd (tI e) (by rw[z'];exact zaw _)) (tz _ e)
theorem VR {ys:List Str}:∀{us:List Value},qE (ys.map V.str) us->StrsAre us ys:=by
 induction ys with
 | nil=>
   intro us r
   rw[zcf]at r
   cases r
   exact .nil
 | cons y ys ih=>
   intro us r
   rw[tS]at r
   cases r with
   | cons a b=>
     obtain⟨t,rfl⟩:=a
     exact .cons _ _ (ih b)
def qaa (K:PySem.W.Frag):V->List V->Hp->VK->Prop:=λx xs H Q=>∃(sep:Str) (p:Addr) (ys:List Str),x=.str sep/\xs=[.ref p]/\SqL K H p (ys.map V.str)/\(ys.map (·.length)).sum+ys.length*sep.length<=16777216/\Q (.str (Txt.join sep ys)) H
theorem KW:Mh X "str.join" (qaa X.K):=by
 intro pins s σ H x xs v us Q I rx rv h
 obtain⟨sep,p,ys,rfl,rfl,hq,hz,q⟩:=h
 obtain⟨t,rfl⟩:=rx
 obtain⟨u,rfl,ru⟩:=Qm rv
 cases ru
 obtain⟨its,r',pl,_⟩:=I.list hq
 exact join_list pl.isList (by simpa using VR r') hz λt' k=>⟨.str _,H,I.tok k,⟨t',rfl⟩,q⟩
def Gq:V->Value
 | .ty n=>.type n
 | .ref a=>.ref a
 | _=>.none
def RA:V->Bool
 | .ty _=>true
 | .ref _=>true
 | _=>false
def Ro (K:PySem.W.Frag):List V->Hp->VK->Prop:=λxs H Q=>∃x c t b,xs=[x,c]/\RA c=true/\Jv K H x t/\tZ K t (Gq c)=some b/\Q (.bl b) H
theorem qP:j8 X (.builtin "isinstance") (Ro X.K):=by
 intro pins s σ H xs us Q I r h
 obtain⟨x,c,t,b,rfl,hc,ty,e,q⟩:=h
 obtain⟨u,w',rfl,ru,rw'⟩:=UJ r
 have ew:w'=Gq c:=by
   cases c with
   | ty n=>exact rw'
   | ref a=>exact rw'
   | _=>cases hc
 subst ew
 exact k9 I ru ty e λtk=>⟨.bl b,H,I.tok tk,rfl,q⟩
end
abbrev MC (rest:List Value):Obj:={cls:=.type "tuple",data:=.seq rest.toArray}
abbrev N4 (C t:Addr):Obj:={cls:=.ref C,data:=.fields #[.ref t,.none,.none,.none,.bool false,.none]}
section
variable {prog:Program} {w:World} {A:Around} {E:Value->Shared->Prop} {h:Heap} {g:Array GenState} {d:Drawn} {t:Nat} {os:OsState}
variable {nm q:Str} {C N fI:Addr} {bs bm bmB bmN:List Value} {hdct:Bool} {sn:List Str} {sub:List Value} {ab:Bool} {col:Option Bool} {dd:Option Addr} {k0 k1 k2 k3 k5:Option Value} {B Bn newId nid initId inN:String} {rest:List Value} {oI:Obj}
theorem VO {Q:Fin->Shared->Prop} (Fn:ExcBaseFacts Bn newId inN bmN) (hBn:bmB.contains (.type Bn)=true)
   (F:ExcBaseFacts B nid initId bmB) (T:OwnTail h bmB bm)
   (hC:h.get? C=some (excClassObj nm q C N bs bm hdct sn sub ab col dd k0 k1 k2 k3 k5 newId))
   (hi:PySem.W.Looks (model prog w) h (typeLookup (.ref C) "__init__") (some (.ref fI))) (hfI:h.get? fI=some oI) (hfc:oI.cls=.type "function")
   (hq:∀h' e,h.objs.size<=e->Heap.MadeExcOf h h' e (.ref C) rest->
     wpAny (model prog w) A (call (.ref fI) (.ref e::rest)) (λr s'=>r=.none/\Q (.done (.ret (.ref e))) s') E ⟨h',g,d,t,os⟩)
   (hz:rest.length<=sizeLine):
   wpAny (model prog w) A (Builtin.«type.__call__» ⟨.ref C::rest,[]⟩) Q E ⟨h,g,d,t,os⟩:=by
 repeat (first
   | with_reducible refine wpAny_loadPart_at hC ?_
   | with_reducible refine wpAny_madeBy_exc hC ?_
   | wp_step)
 refine codeAny_call_builtin_code (Code.quiet_builtin _ Fn.quiet) (wpAny_check_new_subU Fn hBn T hC
   (codeAny_exc_new_subU Fn hBn F T hC ?_ hz))
 show wpAny _ _ _ _ _ _
 have k:∀b o,h.get? b=some o->((h.push (MC rest)).push (N4 C h.objs.size)).get? b=some o:=λb o e=>
   tz _ (tz _ e)
 have c1:=k _ _ hC
 have f1:=k _ _ hfI
 have i1:=hi.keeps k
 have e1:((h.push (MC rest)).push (N4 C h.objs.size)).get? (h.objs.size+1)=some (N4 C h.objs.size):=by heap_get
 have hcC:(Value.ref C::bm).contains (.ref C)=true:=by simp
 unfold isInstance
 repeat (first
   | with_reducible refine wpAny_loadPart_at e1 ?_
   | (with_reducible refine wpAny_isSubtype_exc c1 ?_;rw[hcC])
   | wp_step)
 show wpAny _ _ (typeLookup (.ref C) _) _ _ _
 refine i1.at ?_
 refine wpAny_holding (wpAny_bind ?_)
 unfold bindSpecial
 refine wpAny_bind (wpAny_typeOf (T:="function") ⟨_,f1,hfc⟩ ?_)
 rw[if_pos (by decide)]
 refine wpAny_pure (wpAny_bind (ji (hq _ (h.objs.size+1) (zbw _) ⟨k,zcl (zbw _),h.objs.size,e1,zcl (tw _),?_⟩) λr s' hr=>?_))
 . exact tz _ (Heap.get?_push_at rfl rfl)
 . obtain⟨rfl,hQ⟩:=hr
   wp_walk
   exact hQ
theorem yw {Q:Value->Shared->Prop} (Fn:ExcBaseFacts Bn newId inN bmN) (hBn:bmB.contains (.type Bn)=true)
   (F:ExcBaseFacts B nid initId bmB) (T:OwnTail h bmB bm)
   (hC:h.get? C=some (excClassObj nm q C N bs bm hdct sn sub ab col dd k0 k1 k2 k3 k5 newId))
   (hi:PySem.W.Looks (model prog w) h (typeLookup (.ref C) "__init__") (some (.ref fI))) (hfI:h.get? fI=some oI) (hfc:oI.cls=.type "function")
   (hq:∀h' e,h.objs.size<=e->Heap.MadeExcOf h h' e (.ref C) rest->
     wpAny (model prog w) (A.under (.builtin "type.__call__" ⟨.ref C::rest,[]⟩)) (call (.ref fI) (.ref e::rest)) (λr s'=>r=.none/\Q (.ref e) s') E ⟨h',g,d,t,os⟩)
   (hz:rest.length<=sizeLine):
   wpAny (model prog w) A (call (.ref C) rest) Q E ⟨h,g,d,t,os⟩:=by
 have a1:=tc_lookup
 have a2:=tc_bind (.ref C)
 have a3:(⟨h,g,d,t,os⟩:Shared).TypeIs (.ref C) "type":=⟨_,hC,rfl⟩
 refine wpAny_call (codeAny_of_tree ?_)
 show wpAny _ _ (callAny (.ref C) _) _ _ _
 repeat (any_goals (first
   | assumption
   | with_reducible refine wpAny_loadPart_at hC ?_
   | wp_step))
 refine⟨rfl,codeAny_call_builtin_at (Code.quiet_builtin _ (by decide+kernel)) entry_typeCall
   (wpAny_check_type_call_sub hC (VO Fn hBn F T hC hi hfI hfc (λh' e he hm=>?_) hz))⟩
 exact hq h' e he hm
end
open PySem PySem.W PyProof.Rows Builtin Builtin.ObjectAttr
structure zE (K:Frag) (C:Addr) (bm:List Value):Prop where
 ga:findIn K (.ref C) "__getattribute__"=some (some (.builtin "BaseException.__getattribute__"))
 gt:findIn K (.ref C) "__getattr__"=some none
 sa:findIn K (.ref C) "__setattr__"=some (some (.builtin "object.__setattr__"))
 hd:hasDictIn K C=true
 mr:∃cd,clsIn K C=some cd/\cd.mro=.ref C::bm
 mb:mroIn K C (.type "BaseException")=some true
 mo:mroIn K C (.type "object")=some true
 cl:findIn K (.ref C) "__class__"=some (some (.builtin "object.__class__"))
def V6:List Value->Prop
 | .ref _::r=>V6 r
 | l=>l=[.type "ValueError",.type "Exception",.type "BaseException",.type "object"]
theorem vt (self:Value):∀{l:List Value},V6 l->refuseLoop self "__setattr__" l=pure ()
 | .ref c::r,e=>by rw[refuseLoop_ref];exact vt self (l:=r) e
 | [],e=>nomatch (show ([]:List Value)=[.type "ValueError",.type "Exception",.type "BaseException",.type "object"] from e)
 | .type n::r,e=>by
   have e':(Value.type n::r)=[.type "ValueError",.type "Exception",.type "BaseException",.type "object"]:=e
   rw[e'];kernel_rfl
 | .none::r,e=>by have e':(Value.none::r)=[.type "ValueError",.type "Exception",.type "BaseException",.type "object"]:=e;cases e'
 | .bool _::r,e=>by have e':_=[Value.type "ValueError",.type "Exception",.type "BaseException",.type "object"]:=e;cases e'
 | .int _ _::r,e=>by have e':_=[Value.type "ValueError",.type "Exception",.type "BaseException",.type "object"]:=e;cases e'
 | .float _ _::r,e=>by have e':_=[Value.type "ValueError",.type "Exception",.type "BaseException",.type "object"]:=e;cases e'
 | .str _ _::r,e=>by have e':_=[Value.type "ValueError",.type "Exception",.type "BaseException",.type "object"]:=e;cases e'
 | .bytes _ _::r,e=>by have e':_=[Value.type "ValueError",.type "Exception",.type "BaseException",.type "object"]:=e;cases e'
 | .builtin _::r,e=>by have e':_=[Value.type "ValueError",.type "Exception",.type "BaseException",.type "object"]:=e;cases e'
section
variable {prog:Program} {w:World} {A:Around} {E:Value->Shared->Prop} {s:Shared} {K:Frag} {x C:Addr} {ox:Obj} {od:Option Obj} {bm:List Value} {name:Str} {v:Value}
theorem Ku {tk:Tok} {R:Result->Shared->Prop} (X:K.In s.heap) (I:InstAt s.heap x ox C od) (c:zE K C bm) (hb:V6 bm) (ht:findIn K (.ref C) name=some none)
   (h:∀b,wpAny (model prog w) A.in1 (storeInOwnDict (.ref x) (.ref C) (.str name tk) name v b)
     (λfin s'=>match fin with | .done f=>R (.ok f) s' | .again c'=>c'.quiet=true/\codeAny (model prog w) A c' R s') (λe s'=>R (.error e) s') s):
   codeAny (model prog w) A (.call (.builtin "object.__setattr__") ⟨[.ref x,.str name tk,v],[]⟩) R s:=by
 have SF:=PySem.F.store_object
 obtain⟨cd,hc,hm⟩:=c.mr
 have sub:Looks (model prog w) s.heap (isInstance (.ref x) (.type "object")) true:=I.type.andThen (looks_mroIn X c.mo)
 refine codeAny_call_builtin SF.slot.plain SF.entry
   (@check_slot (model prog w) _ _ s "object.__setattr__" "object" "__setattr__" (.ref x) [.str name tk,v] [] _ SF.kind SF.split sub (SF.args (.ref x) (.str name tk) v) ?_)
 have lm:Looks (model prog w) s.heap (mroOf (.ref C)) cd.mro:=(looks_clsIn X hc).andThen .now
 rw[osa_eq,refuse_eq]
 refine wpAny_bind (wpAny_bind (I.type.here (wpAny_bind (lm.here ?_))))
 rw[hm,refuseLoop_ref,vt _ hb]
 refine wpAny_pure (wpAny_bind (I.type.here (wpAny_bind ((looks_findIn X ht).here ?_))))
 exact wpAny_bind (wpAny_pure (h _))
theorem xb {Q:Unit->Shared->Prop} (X:K.In s.heap) (hx:s.heap.get? x=some ox) (hc:ox.cls=.ref C) (hdc:ox.dict=none) (hda:∃fl,ox.data=.fields fl) (c:zE K C bm) (hb:V6 bm) (ht:findIn K (.ref C) name=some none)
   (h:∀h' tk,h'.get? x=some {ox with dict:=some s.heap.objs.size}->h'.Ns1 s.heap.objs.size (λy=>if y=name then some v else none)->
     (∀b o,b≠x->s.heap.get? b=some o->h'.get? b=some o)->Q () {s with heap:=h',toks:=tk}):
   wpAny (model prog w) A (setAttr (.ref x) name v) Q E s:=by
 obtain⟨fl,hfl⟩:=hda
 obtain⟨oc,odi,oda,osl⟩:=ox
 dsimp only at hc hdc hfl
 subst hc hdc hfl
 have I:InstAt s.heap x ⟨.ref C,none,.fields fl,osl⟩ C none:=⟨hx,rfl,rfl,trivial⟩
 refine set_plain X I c.sa (Ku (s:={s with toks:=s.toks+1}) X I c hb ht λb=>?_)
 obtain⟨cd,hcd,hdd⟩:=any_some c.hd
 refine wpAny_bind (wpAny_pure (wpAny_bind (wpAny_bind (wpAny_loadPart hx (wpAny_bind (Looks.here (s:={s with toks:=s.toks+1}) (looks_clsIn X hcd) ?_))))))
 rw[hdd]
 have hne:x≠s.heap.objs.size:=tR (tI hx)
 have h1:=tz zaP hx
 refine wpAny_bind (wpAny_alloc (wpAny_bind (wpAny_update h1 ?_)))
 generalize hh2:(s.heap.push emptyDict).update x (λo=>{o with dict:=some s.heap.objs.size})=h2
 have e2:h2.get? x=some ⟨.ref C,some s.heap.objs.size,.fields fl,osl⟩:=by rw[<-hh2];exact zaH _ h1 rfl
 have k2:∀b o,b≠x->(s.heap.push emptyDict).get? b=some o->h2.get? b=some o:=λb o hb e=>by rw[<-hh2,zal _ _ (Ne.symm hb)];exact e
 have n0:(s.heap.push emptyDict).Ns s.heap.objs.size (λ_=>none):=⟨emptyDict,#[],_,tU s.heap rfl,rfl,(λe he=>absurd he (by simp)),λ_=>rfl⟩
 have n2:h2.Ns1 s.heap.objs.size (λ_=>none):=(Heap.Ns1.of_empty n0).at λo q=>k2 _ o (Ne.symm hne) q
 refine wpAny_pure (a:=some s.heap.objs.size) (wpAny_bind (wpAny_pure (wpAny_bind ?_)))
 refine wpAny_nsSet1 (s:={s with heap:=h2,toks:=s.toks+1}) n2 λh' hn2 hs2=>?_
 obtain⟨oD,esD,epD,hoD,hdD,hcD⟩:=hn2.count (PySem.Within.cons name v PySem.Within.nil)
 refine wpAny_bind (wpAny_lookBehind hoD (by rw[hdD];exact pastItsLine_dict (tV hcD (by show 1<=sizeLine+1;decide))) ?_)
 refine wpAny_pure (h h' (s.toks+1+1) ((hs2.2 x hne).trans e2) hn2 λb o hb e=>?_)
 exact(hs2.2 b (tR (tI e))).trans (k2 b o hb (tz _ e))
theorem vK {fill expr:Bool} {tk:Tok} {Q:Value->Shared->Prop} (X:K.In s.heap) (I:InstAt s.heap x ox C od) (c:zE K C bm)
   (h:wpAny (model prog w) A.in1 (Builtin.«object.__getattribute__» ⟨[.ref x,.str name tk],[]⟩) (λfin s'=>match fin with | .done (.ret u)=>handedIn u=true/\Q u s' | _=>False) (λ_ _=>False) s):
   wpAny (model prog w) A (getAttrBy (.ref x) (.str name tk) fill expr) Q E s:=by
 have ga:=PySem.F.attr_ValueError.ga
 have L1:=looks_findIn (M:=model prog w) X c.ga
 have L2:=looks_findIn (M:=model prog w) X c.gt
 have hk:builtinKind "BaseException.__getattribute__"=some .slot:=by decide+kernel
 have hs:splitId "BaseException.__getattribute__"=some ("BaseException","__getattribute__"):=by decide+kernel
 have sub:Looks (model prog w) s.heap (isInstance (.ref x) (.type "BaseException")) true:=I.type.andThen (looks_mroIn X c.mb)
 unfold getAttrBy
 refine wpAny_holding (wpAny_bind (I.type.here (wpAny_bind (L1.here ?_))))
 dsimp only
 have eb:(Value.builtin "BaseException.__getattribute__"==Value.builtin "object.__getattribute__")=false:=by decide+kernel
 rw[if_neg (by rw[eb,Bool.and_false];decide)]
 unfold getAttrByItsOwn
 refine wpAny_bind (show wpAny _ _ (hookBefore (.ref C)) _ _ _ from L2.here ?_)
 refine wpAny_bind (wpAny_attempt (wpAny_holding ?_))
 unfold callGetattribute
 have e0:(expr&&onTheHeap (Value.builtin "BaseException.__getattribute__"))=false:=by cases expr<;>rfl
 rw[if_neg (by rw[e0];decide)]
 unfold boundAndCalled
 rw[ga.bind]
 refine wpAny_bind (wpAny_pure ?_)
 refine wpAny_call (codeAny_call_builtin ga.plain PySem.F.entry_bexc_ga
   (@check_slot (model prog w) _ _ s "BaseException.__getattribute__" "BaseException" "__getattribute__" (.ref x) [.str name tk] [] _ hk hs sub (PySem.F.args_bexc_ga _ _) ?_))
 refine wpAny_mono h (λfin s' z=>?_) λ_ _ z=>z.elim
 cases fin with
 | again c'=>exact z.elim
 | done f=>
   cases f with
   | next=>exact z.elim
   | brk=>exact z.elim
   | cont=>exact z.elim
   | ret u=>
     obtain⟨hh,q⟩:=z
     show wpAny _ _ (handedOut u) _ _ _
     rw[handedOut_of hh]
     exact wpAny_pure q
theorem Gf {expr:Bool} {Q:Value->Shared->Prop} {odd:Obj} (X:K.In s.heap) (I:InstAt s.heap x ox C (some odd)) (c:zE K C bm) (ha:findIn K (.ref C) name=some none) (hl:lookIn name odd=some (some v)) (hv:handedIn v=true)
   (h:Q v {s with toks:=s.toks+1}):wpAny (model prog w) A (getAttr (.ref x) name expr) Q E s:=by
 have hf:findObj K C (some odd) name=some (.value v):=findObj_own c.hd ha rfl hl
 have LF:=looks_find (M:=model prog w) X I hf
 unfold getAttr
 refine wpAny_bind (wpAny_mkText (vK (s:={s with toks:=s.toks+1}) X I c ?_))
 unfold Builtin.«object.__getattribute__»
 refine wpAny_bind (wpAny_pure (wpAny_bind (wpAny_pure (wpAny_bind (Looks.here (s:={s with toks:=s.toks+1}) I.type (wpAny_bind (Looks.here (s:={s with toks:=s.toks+1}) LF ?_)))))))
 exact wpAny_pure ⟨hv,h⟩
end
open PySem PySem.W PyProof.Rows Builtin Builtin.ObjectAttr
section
variable {K:Frag} {x C:Addr} {ox odd:Obj} {bm:List Value}
theorem wm (c:zE K C bm) (hn:specialIn K (.builtin "object.__class__") "__get__"=some (some (.builtin "getset_descriptor.__get__"))) (htk:takesIn K (.builtin "object.__class__")=some true):
   KitX K (.ref x) (.ref C) (λh=>InstAt h x ox C (some odd)) where
 ty:=λ_ _ _ I=>I.type
 it:=λ_ _ X _=>by
   obtain⟨cd,hcd,_⟩:=any_some c.hd
   unfold clsIn at hcd
   split at hcd
   . rename_i _ _ _ _ ho
     intro A' Q' E' s' k q
     unfold isType loadHead
     exact wpAny_bind (wpAny_loadPart (k _ _ (X _ _ ho)) (wpAny_pure q))
   . cases hcd
 ne:=λh tp dd its n sl X htp=>by
   obtain⟨cd,hcd,_⟩:=any_some c.hd
   refine Bool.eq_false_iff.mpr λq=>?_
   have e:C=tp:=Value.ref.inj (beq_iff_eq.mp q)
   subst e
   unfold clsIn at hcd
   split at hcd
   . rename_i _ _ _ _ ho
     have z:=(X _ _ ho).symm.trans htp
     cases z
   . cases hcd
 ca:=λ{prog w A E Q s} X I k=>by
   have hf:findObj K C (some odd) "__class__"=some (.bind (.builtin "getset_descriptor.__get__") (.builtin "object.__class__")):=
     findObj_data (by obtain⟨cd,hc,_⟩:=any_some c.hd;rw[hc];rfl) c.cl hn htk
   have LF:=looks_find (M:=model prog w) X I hf
   unfold getAttr? getAttrBy?
   refine wpAny_bind (wpAny_mkText (wpAny_bind (wpAny_attempt (vK (s:={s with toks:=s.toks+1}) X I c ?_))))
   unfold Builtin.«object.__getattribute__»
   refine wpAny_bind (wpAny_pure (wpAny_bind (wpAny_pure (wpAny_bind (Looks.here (s:={s with toks:=s.toks+1}) I.type (wpAny_bind (Looks.here (s:={s with toks:=s.toks+1}) LF ?_)))))))
   dsimp only
   unfold bindTo
   dsimp only
   refine wpAny_bind (wpAny_holding (wpAny_call (class_get (s:={s with toks:=s.toks+1}) X I c.mo ?_)))
   exact wpAny_pure ⟨rfl,wpAny_pure k⟩
end
def Z7 (e C:Addr):HO:=.ext λh=>∃fl,h.get? e=some {cls:=.ref C,data:=.fields fl}/\fl[1]?=some Value.none
def Jp (e C dx:Addr) (hd:Value):HO:=.ext λh=>∃fl,h.get? e=some {cls:=.ref C,dict:=some dx,data:=.fields fl}/\fl[1]?=some hd
abbrev J1 (e C dx:Addr):HO:=Jp e C dx .none
def QK:List Value:=[.type "ValueError",.type "Exception",.type "BaseException",.type "object"]
structure EMk (K:PySem.W.Frag) (C f:Addr) (bm:List Value):Prop where
 obj:∃nm q N bs hdct sn sub ab col dd k0 k1 k2 k3 k5,K.lookup C=some (excClassObj nm q C N bs bm hdct sn sub ab col dd k0 k1 k2 k3 k5 "ValueError.__new__")
 tail:∀h:Heap,K.In h->OwnTail h QK bm
 init:tP K (.ref C) "__init__"=some (some (.ref f))
 fn:zaI K (.ref f)=true
 kp:zaD K (.ref C)=true
section
variable {P:Program} {w:World} {H:Hp} {h h':Heap} {e C dx:Addr}
theorem Gj (he:∃fl,h.get? e=some {cls:=.ref C,data:=.fields fl}/\fl[1]?=some Value.none):qM P w H h e (Z7 e C):=by
 obtain⟨fl,q,z⟩:=he
 exact⟨⟨fl,q,z⟩,⟨_,q⟩,λh1 h2 ⟨fl',q',z'⟩ k=>⟨fl',k _ q',z'⟩⟩
theorem WB {hd:Value} (he:∃fl,h.get? e=some {cls:=.ref C,dict:=some dx,data:=.fields fl}/\fl[1]?=some hd):qM P w H h e (Jp e C dx hd):=by
 obtain⟨fl,q,z⟩:=he
 exact⟨⟨fl,q,z⟩,⟨_,q⟩,λh1 h2 ⟨fl',q',z'⟩ k=>⟨fl',k _ q',z'⟩⟩
end
section
variable {X:Cx} {pins:List (Addr×Obj)} {σ:St} {H:Hp} {s:Shared} {e C dx:Addr} {f:Str} {bm:List Value} {y v:V} {u:Value} {A:Around} {E:Value->Shared->Prop}
theorem qC.excSet {h':Heap} {t':Nat} {fs:List (Str×V)} (I:qC X pins σ H s) (hH:H e=some (Z7 e C)) (hd:s.heap.objs.size<=dx)
   (h1:∃fl,h'.get? e=some {cls:=.ref C,dict:=some dx,data:=.fields fl}/\fl[1]?=some Value.none) (h2:∃mA,h'.Ns1 dx mA/\∀f,Jr (fs.lookup f) (mA f))
   (k:∀b o,b≠e->s.heap.get? b=some o->h'.get? b=some o):qC X pins σ (upd (upd H e (J1 e C dx)) dx (.xd fs)) {s with heap:=h',toks:=t'}:=by
 have mu:Mg (H e):=by rw[hH];exact trivial
 have heo:∃u,h'.get? e=some u:=let ⟨_,q,_⟩:=h1;⟨_,q⟩
 have hn:H dx=none:=I.hok.fresh hd
 have ne:dx≠e:=λz=>by rw[z,hH]at hn;cases hn
 have U:Un X.fs [] H (upd H e (J1 e C dx)) s.heap h':=Un.write mu (.inl rfl) k heo
 have W:Je X.prog X.w (upd H e (J1 e C dx)) h':=I.hok.write mu (.inl rfl) k heo (WB h1)
 have hn2:(upd H e (J1 e C dx)) dx=none:=by rw[qi ne];exact hn
 have nb:∀b o,s.heap.get? b=some o->b≠dx:=λb o q=>tR (tN (tI q) hd)
 refine I.un ⟨U.keep,U.slot,λb o q n hx=>?_,U.there,λb xs q=>?_,λb o z q=>?_,λb ps q=>?_⟩ λb o q=>?_
 . rw[qi (nb b o q)];exact U.free b o q n hx
 . have:=U.tups b xs q
   rw[qi (qz this hn2)];exact this
 . have:=U.frzs b o z q
   rw[qi (qz this hn2)];exact this
 . obtain⟨m,q'⟩:=U.tbls b ps q
   exact⟨m,by rw[qi (qz q' hn2)];exact q'⟩
 . by_cases hb:b=dx
   . subst hb
     rw[qe]at q
     cases q
     exact h2
   . rw[qi hb]at q
     exact(W b o q).stay (λ_ _ _ z=>z) (λc z=>by rw[qi (qz z hn2)];exact z) λc xs z=>by rw[qi (qz z hn2)];exact z
theorem kr {Q:Unit->Shared->Prop} (I:qC X pins σ H s) (hH:H e=some (Z7 e C)) (c:zE X.K C bm) (hb:V6 bm) (n:j6 X.K C f) (ry:qL y u)
   (h:∀dx s',H dx=none->qC X pins σ (upd (upd H e (J1 e C dx)) dx (.xd [(f,y)])) s'->Q () s'):wpAny (model X.prog X.w) A (setAttr (.ref e) f u) Q E s:=by
 obtain⟨⟨fl,he,hz⟩,_,_⟩:=(show qM X.prog X.w H s.heap e (Z7 e C) from I.hok e _ hH)
 refine xb I.kIn he rfl rfl ⟨fl,rfl⟩ c hb n λh' tk e1 e2 e3=>?_
 refine h s.heap.objs.size _ (I.hok.fresh (tw _)) (I.excSet hH (tw _) ⟨fl,e1,hz⟩ ⟨_,e2,λg=>?_⟩ e3)
 by_cases hg:g=f
 . subst hg
   rw[zay]
   simp only[beq_self_eq_true,if_true]
   exact ry
 . have hb':(g==f)=false:=beq_eq_false_iff_ne.mpr hg
   rw[zay]
   simp only[hb',hg,if_false]
   exact trivial
theorem yj {b:Bool} {Q:Value->Shared->Prop} {fs:List (Str×V)} {hd:Value} (I:qC X pins σ H s) (hH:H e=some (Jp e C dx hd)) (hx:H dx=some (.xd fs)) (c:zE X.K C bm) (n:j6 X.K C f) (l:fs.lookup f=some v)
   (h:∀u s',qC X pins σ H s'->qL v u->Q u s'):wpAny (model X.prog X.w) A (getAttr (.ref e) f b) Q E s:=by
 obtain⟨⟨fl,he,_⟩,_,_⟩:=(show qM X.prog X.w H s.heap e (Jp e C dx hd) from I.hok e _ hH)
 obtain⟨mA,hn,hr⟩:=(show qM X.prog X.w H s.heap dx (.xd fs) from I.hok dx _ hx)
 obtain⟨od,ho,hl⟩:=Z3 hn
 have r:=hr f
 rw[l]at r
 obtain⟨u,eu,ru⟩:=Jr.some_of r
 exact Gf I.kIn ⟨he,rfl,rfl,ho⟩ c n (by rw[hl,eu]) (XB ru) (h u _ (I.tok _) ru)
theorem wC {cV:Value} {b:Bool} {Q:Value->Shared->Prop} {fs:List (Str×V)} {hd:Value} (I:qC X pins σ H s) (hH:H e=some (Jp e C dx hd)) (hx:H dx=some (.xd fs)) (c:zE X.K C bm)
   (hn:zbv X.K (.builtin "object.__class__") "__get__"=some (some (.builtin "getset_descriptor.__get__"))) (htk:zca X.K (.builtin "object.__class__")=some true)
   (ek:tZ X.K (.ref C) cV=some b) (h:∀tk,Q (.bool b) {s with toks:=tk}):wpAny (model X.prog X.w) A (call (.builtin "isinstance") [.ref e,cV]) Q E s:=by
 obtain⟨⟨fl,he,_⟩,_,_⟩:=(show qM X.prog X.w H s.heap e (Jp e C dx hd) from I.hok e _ hH)
 obtain⟨mA,hns,hr⟩:=(show qM X.prog X.w H s.heap dx (.xd fs) from I.hok dx _ hx)
 obtain⟨od,ho,hl⟩:=Z3 hns
 exact zaL (wm (ox:={cls:=.ref C,dict:=some dx,data:=.fields fl}) (odd:=od) c hn htk) I.kIn ⟨he,rfl,rfl,ho⟩ ek (λz=>nomatch z) h
end
def qbF (K:PySem.W.Frag) (bm:List Value) (ta tv:TE) (f:Str):TS:=λD σ H=>tv σ H λy H1=>ta σ H1 λx H2=>∃a C,x=.ref a/\H2 a=some (Z7 a C)/\zE K C bm/\V6 bm/\j6 K C f/\
 ∀dx,H2 dx=none->D.nx σ (upd (upd H2 a (J1 a C dx)) dx (.xd [(f,y)]))
section
variable {X:Cx} {CX:WH} {k:Nat} {C fI:Addr} {fd:FuncData} {ps:List Str} {sp:Sp} {E:XK} {x f:Str} {o e value:Expr} {es:List Expr} {p pos pos':Pos} {ta tv:TE} {t:TA} {bm:List Value}
theorem NQ (ha:JE X o ta) (hv:JE X value tv) (hs:swapsWith value (some (.Attribute o f pos')) pos.line X.env=pure false):JS X (.Assign [.Attribute o f pos'] value pos) (qbF X.K bm ta tv f):=.of (by
 have ha:=ha.to
 have hv:=hv.to
 intro pins s σ H D I h
 refine plainObj_wpAny_Assign_Attribute (ji (hv pins s σ H _ I h) λu s1 ⟨y,H1,I1,ry,q⟩=>
   ji (ha pins s1 σ H1 _ I1 q) λov s2 ⟨x,H2,I2,rx,a,C,ex,ea,c,hb,n,q2⟩=>?_) hs
 subst ex
 obtain rfl:ov=Value.ref a:=rx
 exact kr I2 ea c hb n ry λdx s3 hdx I3=>⟨σ,_,I3,q2 dx hdx⟩)
theorem kB {pins:List (Addr×Obj)} {σ:St} {H:Hp} {s:Shared} {Q:VK} {us:List Value} {vs:List V} (M:EMk X.K C fI bm) (F:qp X.prog X.w X.K X.mg X.base CX k fI fd ps sp) (hr:qN (k+1) X.A) (hb:jH X.K fd ps [])
   (hx:QP CX X E) (I:qC X pins σ H s) (r:qE vs us) (hz:us.length<=sizeLine)
   (h:∀x,H x=none->sp (.ref x::vs) (upd H x (Z7 x C)) (λv H2=>v=.non/\Q (.ref x) H2) E):
   wpAny (model X.prog X.w) X.A (call (.ref C) us) (EP X pins σ Q) X.xe s:=by
 obtain⟨nm,q,N,bs,hdct,sn,sub,ab,col,dd,k0,k1,k2,k3,k5,hC⟩:=M.obj
 have hfn:zdH X.K (.ref fI)=some (.type "function"):=beq_iff_eq.mp M.fn
 obtain⟨oI,ho,hoc⟩:=zcg.mp hfn
 have KX:=I.kIn
 obtain⟨hp,g,d,tk,os⟩:=s
 refine yw zcB (by decide+kernel) zcB (M.tail _ KX) (KX _ _ hC) (zdn KX M.init) (KX _ _ ho) hoc (λh' ex hle hm=>?_) hz
 obtain⟨t0,ht,_,_⟩:=hm.there
 have I2:qC X pins σ (upd H ex (Z7 ex C)) ⟨h',g,d,tk,os⟩:=I.laid (t':=tk) hm.keeps hle (Gj ⟨_,ht,rfl⟩)
 have hq:=h ex (I.hok.fresh hle)
 have r2:qE (V.ref ex::vs) (Value.ref ex::us):=.cons rfl r
 have hl:(Value.ref ex::us++[]).length=ps.length:=by
   have e:=r2.length
   rw[F.len _ _ _ _ hq]at e
   rw[zaz]
   exact e.symm
 have bb:=hb ⟨h',g,d,tk,os⟩ (Value.ref ex::us) I2.kIn hl
 rw[zaz]at bb
 refine wpAny_call (codeAny_mono (F.run _ X.stack _ _ ⟨Value.ref ex::us,[]⟩ (Value.ref ex::us) _ _ E (hr.make C us []) (I2.env0.make C us []) bb r2 hq) λr s' hq'=>?_)
 cases r with
 | error z=>exact hx pins σ _ _ z s' I2 hq'
 | ok fl=>
   cases fl with
   | ret u=>
     obtain⟨v,H',I3,rv,ev,q3⟩:=I2.after hq'
     subst ev
     exact⟨rv,⟨V.ref ex,H',I3,rfl,q3⟩⟩
   | next=>exact False.elim hq'
   | brk=>exact False.elim hq'
   | cont=>exact False.elim hq'
theorem wy (M:EMk X.K C fI bm) (F:qp X.prog X.w X.K X.mg X.base CX k fI fd ps sp) (hr:qN (k+1) X.A) (hg:Gl X x) (hm:X.mg x=some (.ref C)) (hb:jH X.K fd ps []) (hx:QP CX X E) (ha:JA X (e::es) t) (hz:(e::es).length<=1000:=by decide) (hv:∀vs us,qE vs us->vs.length<=sizeLine->us.length<=sizeLine:=by intro vs us r h;rw[<-r.length];exact h) (hdb:(x==("__debug__":Str))=false:=by decide) (he:starEach (e::es) X.env=(false,eval e X.env)::starEach es X.env:=by rfl) (hpl:(backTo pos (starEach es X.env)).any (·.1)=false:=by rfl):JE X (.Call (.Name x p) (e::es) [] pos) (λσ H Q=>t σ H λvs H1=>vs.length<=sizeLine/\∀x,H1 x=none->sp (.ref x::vs) (upd H1 x (Z7 x C)) (λv H2=>v=.non/\Q (.ref x) H2) E):=.of (by
 have ha:=ha.to
 intro pins s σ H Q I h
 refine wpAny_Call_Name_kw (ZD I hg hm ?_ hdb)
 refine zbh (h₀:=X.base) I.ok.mod.kin M.kp (ji (ha pos pins s σ H _ I h) λus s1 ⟨vs,H1,I1,r,q⟩=>⟨I1.kIn,?_⟩) he hpl
 exact kB M F hr hb hx I1 r (hv vs us r q.1) q.2)
end
def neL (xs ys:List V):Bool:=if xs.length=ys.length then !((zae xs.length).all λj=>Gn (xs.getD j .non) (ys.getD j .non)) else true
mutual
inductive DV (K:PySem.W.Frag) (H:Hp):V->PyData->Prop
 | non:DV K H .non .none
 | bl (b:Bool):DV K H (.bl b) (.bool b)
 | int (i:Int):DV K H (.int i) (.int i)
 | str (x:Str):DV K H (.str x) (.str x)
 | lst {a:Addr} {xs:List V} {ds:List PyData}:SqL K H a xs->DVs K H xs ds->DV K H (.ref a) (.list ds)
 | tup {a:Addr} {xs:List V} {ds:List PyData}:SqT K H a xs->DVs K H xs ds->DV K H (.ref a) (.tuple ds)
inductive DVs (K:PySem.W.Frag) (H:Hp):List V->List PyData->Prop
 | nil:DVs K H [] []
 | cons {x:V} {xs:List V} {d:PyData} {ds:List PyData}:DV K H x d->DVs K H xs ds->DVs K H (x::xs) (d::ds)
end
section
variable {X:Cx} {pins:List (Addr×Obj)} {σ:St} {H:Hp} {s:Shared}
mutual
theorem DV.reads (I:qC X pins σ H s):∀{x:V} {d:PyData},DV X.K H x d->∀{u:Value},qL x u->∃as,Reads s.heap u d as
 | _,_,.non,u,r=>by cases (show u=Value.none from r);exact⟨_,.none⟩
 | _,_,.bl b,u,r=>by cases (show u=Value.bool b from r);exact⟨_,.bool b⟩
 | _,_,.int i,u,r=>by obtain⟨t,q⟩:=(show ∃t,u=Value.int i t from r);subst q;exact⟨_,.int i t⟩
 | _,_,.str x,u,r=>by obtain⟨t,q⟩:=(show ∃t,u=Value.str x t from r);subst q;exact⟨_,.str x t⟩
 | _,_,.lst (a:=a) hq hs,u,r=>by
   cases (show u=Value.ref a from r)
   obtain⟨its,rv,⟨o,n,e,hc,hd,hda⟩,hz⟩:=I.list hq
   obtain⟨as,ra⟩:=DVs.reads I hs rv
   exact⟨_,.list e hc hda (by simpa using ra)⟩
 | _,_,.tup (a:=a) hq hs,u,r=>by
   cases (show u=Value.ref a from r)
   obtain⟨its,rv,⟨o,e,hc,n,hda⟩,hz⟩:=I.tuple hq
   obtain⟨as,ra⟩:=DVs.reads I hs rv
   exact⟨_,.tuple e hc hda (by simpa using ra)⟩
theorem DVs.reads (I:qC X pins σ H s):∀{xs:List V} {ds:List PyData},DVs X.K H xs ds->∀{us:List Value},qE xs us->∃as,ReadsAll s.heap us ds as
 | _,_,.nil,_,.nil=>⟨_,.nil⟩
 | _,_,.cons h hs,_,.cons r rs=>by
   obtain⟨as,a⟩:=DV.reads I h r
   obtain⟨bs,b⟩:=DVs.reads I hs rs
   exact⟨_,.cons a b⟩
end
end
section
variable {X:Cx}
def qad (K:PySem.W.Frag) (k:Bool):R2:=λx y H Q=>∃d,DV K H x d/\DV K H y d/\PySem.SeqAt.shaped d=true/\Q (.bl k) H
theorem YG {d:PyData} (h:PySem.SeqAt.shaped d=true):PyData.eqv d d=true:=PySem.SeqAt.eqv_refl d (PySem.SeqAt.canLay_of_shaped h)
theorem Ua (hu:X.A.units+64 < cLine):Jw X (compareOp .NotEq) (qad X.K false):=by
 intro pins s σ H x y v u Q I rx ry h
 obtain⟨d,h1,h2,hs,q⟩:=h
 obtain⟨as,ra⟩:=h1.reads I rx
 obtain⟨bs,rb⟩:=h2.reads I ry
 refine ne_dataH ra rb hs hs hu ?_
 rw[YG hs]
 exact⟨.bl false,H,I,rfl,q⟩
def qa3 (i j:Int):Prop:=0 < j/\j.natAbs < 2^200
theorem xJ:Jw X (binaryOp .FloorDiv) (rI qa3 λi j=>.int (i / j)):=Nu λi j _ _ _ _ _ hc q=>by
 have h1:(0:Int) < j:=hc.1
 have h3:j.natAbs.log2 < 200:=(Nat.log2_lt (by omega)).mpr hc.2
 exact floordiv_int (by omega) (by rw[zbO i (by omega)];exact q) (.inl (PyProof.noPylong_of_log2 (zdb h3 (by decide))))
theorem kX:Mh X "int.bit_length" (λx xs H Q=>∃i,x=.int i/\xs=[]/\Q (.int (Builtin.Int.intBits i)) H):=by
 intro pins s σ H x xs v us Q I rx rv h
 obtain⟨i,rfl,rfl,q⟩:=h
 obtain⟨t,rfl⟩:=rx
 cases rv
 exact call_int_bit_length ⟨.int _,H,I.tok _,⟨_,rfl⟩,q⟩
end
section
variable {X:Cx} {tg:Expr}
end
section
variable {X:Cx} {st:Stmt} {rest:List Stmt} {t u:TS}
end
end L2
namespace PySem
section
variable {prog:Program} {w:World} {A:Around} {E:Value->Shared->Prop} {s:Shared}
def Yi (x n c:Int):Obj:={cls:=.type "range_iterator",data:=.fields #[rawInt x,rawInt n,rawInt c]}
theorem vo (n:Nat):Builtin.Range.rangeSize 0 n 1=n:=by
 unfold Builtin.Range.rangeSize
 rw[if_pos (by decide)]
 split<;>omega
theorem YN {r:Addr} {a b c:Int} {t u v:Tok} {Q:Value->Shared->Prop} (hr:IsRange s.heap r a b c t u v)
   (hs:(Builtin.Range.rangeFitsLong a&&Builtin.Range.rangeFitsLong b&&Builtin.Range.rangeFitsLong c&&Builtin.Range.rangeFitsLong (-c)&&Builtin.Range.rangeFitsLong (a - c)&&Builtin.Range.rangeFitsLong (Builtin.Range.rangeSize a b c))=true)
   (h:Q (.ref s.heap.objs.size) {s with heap:=s.heap.push (Yi (a+(Builtin.Range.rangeSize a b c - 1)*c) (Builtin.Range.rangeSize a b c) (-c))}):wpAny (model prog w) A (call (.builtin "range.__reversed__") [.ref r]) Q E s:=by
 have ty:s.TypeIs (.ref r) "range":=⟨_,hr,rfl⟩
 refine wpAny_call_entry F.slot_range_reversed ty F.entry_range_reversed ?_ (F.args_range_reversed_1 _)
 unfold Builtin.«range.__reversed__»
 refine wpAny_bind (wpAny_of_eq (a:=Value.ref r) rfl ?_)
 refine wpAny_bind ?_
 unfold Builtin.Range.rangeFields
 refine wpAny_bind (wpAny_field hr rfl (x:=.int a t) rfl ?_)
 refine wpAny_bind (m:=asInt? (.int a t)) (wpAny_pure ?_)
 refine wpAny_bind (wpAny_field hr rfl (x:=.int b u) rfl ?_)
 refine wpAny_bind (m:=asInt? (.int b u)) (wpAny_pure ?_)
 refine wpAny_bind (wpAny_field hr rfl (x:=.int c v) rfl ?_)
 refine wpAny_bind (m:=asInt? (.int c v)) (wpAny_pure ?_)
 refine wpAny_pure ?_
 dsimp only
 rw[hs]
 simp only[Bool.not_true,zbj,if_false,if_true]
 first
 | refine wpAny_bind (wpAny_newObj_type (wpAny_pure ⟨_,rfl,h⟩))
 | refine wpAny_bind (wpAny_pure (wpAny_bind (wpAny_newObj_type (wpAny_pure ⟨_,rfl,h⟩))))
theorem J3 {r:Addr} {n:Nat} {t u v:Tok} {Q:Value->Shared->Prop} (hr:IsRange s.heap r 0 n 1 t u v) (hn:n < 1048576)
   (h:Q (.ref s.heap.objs.size) {s with heap:=s.heap.push (Yi ((n:Int) - 1) n (-1))}):wpAny (model prog w) A (call (.builtin "range.__reversed__") [.ref r]) Q E s:=by
 have f:∀x:Int,-2000000<=x->x<=2000000->Builtin.Range.rangeFitsLong x=true:=λx p q=>by
   unfold Builtin.Range.rangeFitsLong
   simp
   omega
 have e:=vo n
 have hs:(Builtin.Range.rangeFitsLong 0&&Builtin.Range.rangeFitsLong (n:Int)&&Builtin.Range.rangeFitsLong 1&&Builtin.Range.rangeFitsLong (-1)&&Builtin.Range.rangeFitsLong (0 - 1)&&Builtin.Range.rangeFitsLong (Builtin.Range.rangeSize 0 n 1))=true:=by
   rw[e,f 0 (by omega) (by omega),f n (by omega) (by omega),f 1 (by omega) (by omega),f (-1) (by omega) (by omega),f (0 - 1) (by omega) (by omega)]
   rfl
 refine YN hr hs ?_
 have e2:(0:Int)+(Builtin.Range.rangeSize 0 n 1 - 1)*1=(n:Int) - 1:=by rw[e];omega
 rw[e2,e]
 exact h
end
section
variable {prog:Program} {w:World} {A:Around} {E:Value->Shared->Prop} {s:Shared}
theorem Zn {r:Addr} {n:Nat} {t u v:Tok} {Q₁:Value->Shared->Prop} (hr:IsRange s.heap r 0 n 1 t u v) (hn:n < 1048576)
   (h:Q₁ (.ref s.heap.objs.size) {s with heap:=s.heap.push (Yi ((n:Int) - 1) n (-1))}):
   codeAny (model prog w) A (.call (.builtin "reversed.__new__") ⟨[.type "reversed",.ref r],[]⟩) (wants Q₁ E) s:=by
 have ty:s.TypeIs (.ref r) "range":=⟨_,hr,rfl⟩
 have nn:¬((Value.builtin "range.__reversed__"==Value.none)=true):=tK
 refine codeAny_of_tree (show wpAny _ A.in1 (checkBuiltinCall "reversed.__new__" ⟨[.type "reversed",.ref r],[]⟩ >>= λ_=>again (.builtin "reversed.__new__" ⟨[.type "reversed",.ref r],[]⟩)) _ _ s from
   wpAny_bind (wpAny_of_eq (F.newCall_reversed_1 (.ref r)) (wpAny_pure ⟨plainId_quiet F.plain_reversed_new _,codeAny_builtin F.entry_reversed_new ?_⟩)))
 rw[Around.under_plainId F.plain_reversed_new _];unfold Builtin.«reversed.__new__»
 refine wpAny_bind (wpAny_of_eq (newClass_reversed (.ref r)) ?_);dsimp only
 refine wpAny_bind (wpAny_of_eq (a:=()) (by kernel_rfl) (wpAny_bind (wpAny_of_eq (a:=()) (by kernel_rfl) ?_)));try dsimp only
 refine wpAny_bind (wpAny_specialOf ty F.slot_range_reversed.lookup ?_);dsimp only
 refine wpAny_bind (wpAny_of_eq (F.slot_range_reversed.bind _) ?_);dsimp only
 rw[if_neg nn]
 refine wpAny_bind (wpAny_rule (wpAny_bind (m:=runValue (.call (.builtin "range.__reversed__") ⟨[.ref r],[]⟩)) (show wpAny _ _ (call (.builtin "range.__reversed__") [.ref r]) _ _ _ from J3 hr hn ?_)))
 first | exact wpAny_pure h | exact wpAny_bind (wpAny_pure (wpAny_pure h))
theorem zA:isSubtype (.type "range_iterator") (.type "reversed")=pure false:=by rw[isSubtype_type];kernel_rfl
theorem J2 {r:Addr} {n:Nat} {t u v:Tok} {Q:Value->Shared->Prop} (hr:IsRange s.heap r 0 n 1 t u v) (hn:n < 1048576)
   (h:Q (.ref s.heap.objs.size) {s with heap:=s.heap.push (Yi ((n:Int) - 1) n (-1))}):wpAny (model prog w) A (call (.type "reversed") [.ref r]) Q E s:=by
 refine callType_other (U:="range_iterator") (Q₁:=λobj s₁=>obj=.ref s.heap.objs.size/\s₁={s with heap:=s.heap.push (Yi ((n:Int) - 1) n (-1))}) (by decide+kernel) F.create_reversed ⟨_,_,F.mro_reversed⟩ F.made_reversed zA (F.typeCall_reversed_1 _) (Zn hr hn ⟨rfl,rfl⟩) ?_
 rintro obj s₁ ⟨rfl,rfl⟩
 exact⟨⟨_,tU _ rfl,rfl⟩,h⟩
theorem WD {I:Addr} {x left c:Int} {Q:Value->Shared->Prop} (hit:IsRangeIter s.heap I x left c) (h:Q (.int left s.toks) {s with toks:=s.toks+1}):
   wpAny (model prog w) A (call (.builtin "range_iterator.__length_hint__") [.ref I]) Q E s:=by
 have hT:s.TypeIs (.ref I) "range_iterator":=⟨_,hit,rfl⟩
 refine wpAny_call_entry F.slot_range_iterator_length_hint hT F.entry_range_iterator_length_hint ?_ (F.args_range_iterator_length_hint_1 _)
 unfold Builtin.«range_iterator.__length_hint__»
 refine wpAny_bind (wpAny_of_eq (a:=Value.ref I) rfl ?_)
 refine wpAny_bind (wpAny_field hit rfl (x:=rawInt left) rfl ?_)
 show wpAny _ _ (do ret (<-mkInt left)) _ _ _
 exact wpAny_ret_mkInt h
structure UC (P:Program) (w:World) (T:String) (I:Addr) (fp:List Addr) (n:Nat) (V:Nat->Value->Prop) (St:Nat->Heap->Prop):Prop where
 ty:∀z:Shared,St 0 z.heap->z.TypeIs (.ref I) T
 nl:(Value.type T==Value.type "list")=false
 nt:(Value.type T==Value.type "tuple")=false
 walk:∀B:Around,B.handled=none->Walks P w B I fp [I] n V St
 hint:∀(B:Around) (F:Value->Shared->Prop) (z:Shared) (R:Bool->Shared->Prop),St 0 z.heap->(∀k,R false {z with toks:=k})->wpAny (model P w) B (Builtin.List.listLengthHint (.ref I)) R F z
theorem UC.list {P:Program} {T:String} {I:Addr} {fp:List Addr} {n:Nat} {V:Nat->Value->Prop} {St:Nat->Heap->Prop} (J:UC P w T I fp n V St) {B:Around} {F':Value->Shared->Prop} {z:Shared} {R:Value->Shared->Prop}
   (hB:B.handled=none) (st:St 0 z.heap) (mem:I∈fp) (old:∀b∈fp,b < z.heap.objs.size) (hn:n<=1048576)
   (k:∀g tk xs c,(∀b o,b≠I->z.heap.get? b=some o->g.get? b=some o)->g.get? z.heap.objs.size=some (⟨.type "list",none,.seq xs c,#[]⟩:Obj)->ItemsOf V xs n->R (.ref z.heap.objs.size) {z with heap:=g,toks:=tk}):
   wpAny (model P w) B (call (.type "list") [.ref I]) R F' z:=by
 have nI:∀b∈fp,z.heap.objs.size≠b:=λb hb=>zbu (old b hb)
 have sI:Builtin.List.listSameRef (.ref z.heap.objs.size) (.ref I)=false:=by unfold Builtin.List.listSameRef;simp [nI I mem]
 refine callType_codes (Q₁:=λob z1=>z1={z with heap:=z.heap.push {cls:=.type "list",data:=.seq #[]}}/\ob=.ref z.heap.objs.size) F.called_list (F.typeCall_list_1 _) F.entry_list_init (code_list_new _ ⟨rfl,rfl⟩) ?_
 rintro ob z1 ⟨rfl,rfl⟩
 have a0:=tU z.heap (o:=({cls:=.type "list",data:=.seq #[]}:Obj)) rfl
 refine⟨⟨_,a0,rfl⟩,F.args_list_init_2 _ _,?_⟩
 show wpAny _ _ (Builtin.List.listItems (.ref _) >>= λys=>Builtin.List.listUpdate (.ref _) (λ_=>#[]) >>= λ_=>letGo ys.toList.reverse >>= λ_=>Builtin.List.listExtendWith (.ref _) (.ref I) .none) _ _ _
 refine wpAny_bind (show wpAny _ _ (Builtin.List.listItems (.ref _)) _ _ _ from ?_)
 unfold Builtin.List.listItems
 refine wpAny_bind (wpAny_seqItems a0 rfl (wpAny_pure (wpAny_bind ?_)))
 refine wpAny_updateSeq a0 rfl (wpAny_bind (wpAny_letGo ?_))
 have a1:=zaH (Obj.mapSeq (λ_=>(#[]:Array Value))) a0 rfl
 have keep1:∀b o,z.heap.get? b=some o->((z.heap.push {cls:=.type "list",data:=.seq #[]}).update z.heap.objs.size (Obj.mapSeq (λ_=>(#[]:Array Value)))).get? b=some o:=λb o e=>
   (zal _ _ (zbu (tI e))).trans (tz _ e)
 generalize hg1:(z.heap.push {cls:=.type "list",data:=.seq #[]}).update z.heap.objs.size (Obj.mapSeq (λ_=>(#[]:Array Value)))=g1 at a1 keep1
 have st1:St 0 g1:=(J.walk B hB).frame 0 _ _ st λb _ o e=>keep1 b o e
 unfold Builtin.List.listExtendWith
 refine wpAny_bind (wpAny_typeOf (J.ty {z with heap:=g1} st1) ?_)
 simp only[sI,J.nl,J.nt,Bool.or_false,zbj,if_false]
 refine wpAny_bind ((J.walk B.in1.in1 hB).self 0 {z with heap:=g1} _ _ st1 ?_)
 refine wpAny_bind (wpAny_holding (J.hint B.in1.in1 _ {z with heap:=g1} _ st1 λtk=>?_))
 have run:∀(g:Heap) (c tk:Nat),St 0 g->(∀b o,z.heap.get? b=some o->g.get? b=some o)->g.get? z.heap.objs.size=some {cls:=.type "list",data:=.seq #[] c}->
     codeAny (model P w) B.in1 (.builtin "list.extend.loop" ⟨[.ref z.heap.objs.size,.ref I,.none],[]⟩) (wants (λr z2=>r=.none/\R (.ref z.heap.objs.size) z2) F') {z with heap:=g,toks:=tk}:=λg c tk sg kg ag=>
   codeAny_extend_loopS (J.walk B.in1.in1 hB).toS (by rw[sizeLine_eq];omega) _ (λq=>nI _ q rfl) .none n 0 _ #[] c rfl (zap _) sg ag (ItemsOf.nil _) λz3 xs c3 mv a3 it=>by
     rw[Moved.eq_with mv]
     refine⟨rfl,k z3.heap z3.toks xs c3 (λb o hb e=>mv.heap b o (λq=>?_) (kg b o e)) a3 it⟩
     rcases zaa.mp q with q | q
     . exact absurd q (tR (tI e))
     . exact hb (zac.mp q)
 refine wpAny_ite_split (λ_=>?_) (λ_=>wpAny_pure ⟨plainId_quiet F.plain_extend_loop _,run g1 _ tk st1 keep1 a1⟩)
 refine wpAny_bind (wpAny_rule (wpAny_bind (show wpAny _ _ (updateSeq z.heap.objs.size (·.push .none) >>= λ_=>updateSeq z.heap.objs.size (·.pop)) _ _ _ from wpAny_bind (wpAny_updateSeq a1 rfl ?_))))
 have a2:=zaH (Obj.mapSeq (·.push Value.none)) a1 rfl
 refine wpAny_updateSeq (hz:=by seq_fits) a2 rfl ?_
 have keep3:∀b o,b≠z.heap.objs.size->g1.get? b=some o->((g1.update z.heap.objs.size (Obj.mapSeq (·.push Value.none))).update z.heap.objs.size (Obj.mapSeq (·.pop))).get? b=some o:=λb o hb e=>
   (zal _ _ (Ne.symm hb)).trans ((zal _ _ (Ne.symm hb)).trans e)
 exact wpAny_pure ⟨plainId_quiet F.plain_extend_loop _,run _ _ tk ((J.walk B hB).frame 0 _ _ st1 λb hb o e=>keep3 b o (λq=>nI b hb q.symm) e) (λb o e=>keep3 b o (tR (tI e)) (keep1 b o e)) (zaH (Obj.mapSeq (·.pop)) a2 rfl)⟩
theorem kt {P:Program} {I:Addr} {x c:Int} {n:Nat} (hn:n<=1048576):UC P w "range_iterator" I [I] n (λi v=>∃t,v=.int (x+i*c) t) (λi h=>IsRangeIter h I (x+(i:Nat)*c) ((n:Int) - (i:Nat)) c) where
 ty:=λ_ st=>⟨_,st,rfl⟩
 nl:=by decide
 nt:=by decide
 walk:=λ_ hB=>Walks.range hB I x c n
 hint:=λB G z R st k=>by
   have st':IsRangeIter z.heap I x n c:=by
     have e1:x+((0:Nat):Int)*c=x:=by simp
     have e2:(n:Int) - ((0:Nat):Int)=n:=by simp
     rw[<-e1,<-e2]
     exact st
   have ty:z.TypeIs (.ref I) "range_iterator":=⟨_,st',rfl⟩
   have few:Builtin.List.listTooLong ((n:Int).toNat)=false:=by unfold Builtin.List.listTooLong;rw[zaQ];exact decide_eq_false (by rw[sizeLine_eq];omega)
   unfold Builtin.List.listLengthHint
   refine wpAny_bind (wpAny_specialOf ty F.nolen_ra ?_)
   refine(show wpAny _ B (specialOf (.ref I) (Str.ofString "__length_hint__") >>= _) _ _ _ from wpAny_bind (wpAny_specialOf ty F.hint_ra ?_))
   (generalize hq:("range_iterator.__length_hint__":String)=q0;(fail_if_success (clear hq q0));wp_delta;rw[show splitId q0=some ("range_iterator","__length_hint__") from by subst hq;decide+kernel];subst hq)
   refine wpAny_bind (wpAny_isInstance (b:=true) ty (by rw[isSubtype_type];kernel_rfl) ?_)
   refine(show wpAny _ B (call (.builtin "range_iterator.__length_hint__") [.ref I] >>= _) _ _ _ from wpAny_bind (WD st' (wpAny_bind (m:=asInt? (.int (n:Int) _)) (wpAny_pure ?_))))
   dsimp only
   rw[if_neg (by rw[few];decide)]
   exact wpAny_pure (k _)
end
end PySem
namespace L2
open PySem PySem.Spec PyProof.Rows
def ZK (n:Nat):List Nat:=(zae n).reverse
theorem v7 {n:Nat} {acc:Array Value} (h:ItemsOf (λi v=>∃t,v=.int ((n:Int) - 1+i*(-1)) t) acc n):qE ((ZK n).map λi=>V.int (i:Nat)) acc.toList:=by
 obtain⟨hz,hv⟩:=h
 have key:∀(xs:List V) (us:List Value),xs.length=us.length->(∀(i:Nat) (x:V) (u:Value),xs[i]?=some x->us[i]?=some u->qL x u)->qE xs us:=by
   intro xs
   induction xs with
   | nil=>intro us hl _;cases us with | nil=>exact .nil | cons _ _=>cases hl
   | cons x xs ih=>
     intro us hl hp
     cases us with
     | nil=>cases hl
     | cons u us=>exact .cons (hp 0 x u rfl rfl) (ih us (by simpa using hl) λi y w h1 h2=>hp (i+1) y w (by simpa using h1) (by simpa using h2))
 refine key _ _ (by simp [ZK,hz]) λi x u h1 h2=>?_
 have h2':acc[i]?=some u:=by simpa using h2
 obtain⟨t,rfl⟩:=hv i u h2'
 have hi:i < n:=by
   have:=(zaA.mp h2').1
   omega
 rw[tH,ZK,List.getElem?_reverse (by simpa using hi),zav,zbz (by omega)]at h1
 simp at h1
 subst h1
 refine⟨t,?_⟩
 congr 1
 omega
section
variable {X:Cx} {e:Expr} {te:TE} {p1 p2 p3 pos1 pos2 pos3:Pos}
theorem VT {M:Model} {A:Around} {E:Value->Shared->Prop} {s:Shared} {env:Env} {e:Expr} {pos:Pos} {R:List Value->Shared->Prop} (hs:starEach [e] env=[(false,eval e env)]) (h:wpAny M A (eval e env) (λv s1=>R [v] s1) E s):
   wpAny M A (spliced (backTo pos (starEach [e] env))) R E s:=by
 rw[hs]
 show wpAny _ _ (spliced ((false,eval e env)::backTo pos [])) _ _ s
 exact Calls.spliced_cons (ji h λu s1 h1=>Calls.spliced_nil h1)
def qbm (te:TE):TE:=λσ H Q=>te σ H λx H1=>∃n:Nat,x=.int n/\n<=1000/\∀l,H1 l=none->Q (.ref l) (upd H1 l (.lst ((ZK n).map λi=>V.int (i:Nat))))
theorem NX (hc:X.calm=true) (g1:Gl X "list") (m1:X.mg "list"=none) (g2:Gl X "reversed") (m2:X.mg "reversed"=none) (g3:Gl X "range") (m3:X.mg "range"=none) (ha:JE X e te) (hs:starEach [e] X.env=[(false,eval e X.env)]:=by rfl) (hs2:starEach [.Call (.Name "range" p3) [e] [] pos3] X.env=[(false,eval (.Call (.Name "range" p3) [e] [] pos3) X.env)]:=by rfl) (hs3:starEach [.Call (.Name "reversed" p2) [.Call (.Name "range" p3) [e] [] pos3] [] pos2] X.env=[(false,eval (.Call (.Name "reversed" p2) [.Call (.Name "range" p3) [e] [] pos3] [] pos2) X.env)]:=by rfl):JE X (.Call (.Name "list" p1) [.Call (.Name "reversed" p2) [.Call (.Name "range" p3) [e] [] pos3] [] pos2] [] pos1) (qbm te):=.of (by
 have ha:=ha.to
 intro pins s σ H Q I h
 refine Call_ (Qp I g1 m1 boot_list (PyProof.Rows.callWith_type1 (VT hs3 ?_) (by rw[hs3];rfl) rfl))
 refine Call_ (Qp I g2 m2 boot_reversed (PyProof.Rows.callWith_type1 (VT hs2 ?_) (by rw[hs2];rfl) rfl))
 refine Call_ (Qp I g3 m3 boot_range (PyProof.Rows.callWith_type1 (VT hs (ji (ha pins s σ H _ I h) λu s1 ⟨x,H1,I1,r1,q1⟩=>?_)) (by rw[hs];rfl) rfl))
 obtain⟨n,rfl,hn,q⟩:=q1
 obtain⟨t,rfl⟩:=r1
 refine call_range_1 ?_
 refine J2 (IsRange.new ..) (by omega) ?_
 refine(kt (x:=(n:Int) - 1) (c:=-1) (n:=n) (by omega)).list (I1.ok.hd hc) (by
   have e1:(n:Int) - 1+((0:Nat):Int)*(-1)=(n:Int) - 1:=by simp
   have e2:(n:Int) - ((0:Nat):Int)=n:=by simp
   rw[e1,e2]
   exact tU _ rfl) (by simp) (λb hb=>by rw[zac.mp hb,zbe (_:Heap) (Yi _ _ _)];exact zaT _) (by omega) λh' tk acc' c' kp e hi=>?_
 have kk:∀b o,s1.heap.get? b=some o->h'.get? b=some o:=λb o eb=>by
   refine kp b o (tR ?_) (tz _ (tz _ eb))
   rw[zbe]
   exact zbL (tI eb)
 have s1z:s1.heap.objs.size<=((s1.heap.push ({cls:=.type "range",data:=.fields #[.int 0 s1.toks,.int n t,.int 1 (s1.toks+1)]}:Obj)).push (Yi ((n:Int) - 1) n (-1))).objs.size:=by
   rw[zbe,zbe]
   omega
 exact⟨.ref _,_,I1.laid (t':=tk) (o:=.lst ((ZK n).map λi=>V.int (i:Nat))) kk s1z ⟨by simp only[tj,ZK,zbU,zav];exact zak (qo hn),acc'.toList,c',v7 hi,by simpa using e⟩,rfl,q _ (I1.hok.fresh s1z)⟩)
end
end L2
namespace PySem
namespace F
end F
end PySem
namespace L2
open PySem PySem.Spec PyProof.Rows
theorem Z1:∀(xs:List V) (us:List Value),xs.length=us.length->(∀(i:Nat) (x:V) (u:Value),xs[i]?=some x->us[i]?=some u->qL x u)->qE xs us:=by
 intro xs
 induction xs with
 | nil=>intro us hl _;cases us with | nil=>exact .nil | cons _ _=>cases hl
 | cons x xs ih=>
   intro us hl hp
   cases us with
   | nil=>cases hl
   | cons u us=>exact .cons (hp 0 x u rfl rfl) (ih us (by simpa using hl) λi y w h1 h2=>hp (i+1) y w (by simpa using h1) (by simpa using h2))
section
variable {X:Cx} {e:Expr} {te:TE} {p1 p2 pos1 pos2:Pos}
end
section
variable {X:Cx} {pins:List (Addr×Obj)} {σ:St} {H:Hp} {s:Shared} {h':Heap}
theorem qC.turnLaid {L:List Addr} {T:Addr} {o:HO} {t':Nat} (I:qC X pins σ H s) (k:∀b u,b∉L->s.heap.get? b=some u->h'.get? b=some u) (hf:∀b∈L,JL X pins H b) (hp:s.heap.objs.size<=T)
   (new:qM X.prog X.w (upd H T o) h' T o):qC X pins σ (upd H T o) {s with heap:=h',toks:=t'}:=by
 have hn:H T=none:=I.hok.fresh hp
 have up:∀b u,H b=some u->upd H T o b=some u:=λb u e=>by rw[qi (qz e hn)];exact e
 have nL:∀b u,H b=some u->b∉L:=λb u e z=>by rw[(hf b z).1]at e;cases e
 refine I.step (g':=s.gens) (d':=s.drawn) (ch:=L) (λb hb=>?_) (λb o _ _ hc e _=>k b o hc e) (λb o _ _ hc e _=>⟨o.slots,k b o hc e⟩) (λb ob hc e n=>?_)
   (λb o hc e=>⟨o,k b o hc e⟩) (λb xs e=>up b _ e) (λb o u e=>up b _ e) (λb ps e=>⟨#[],by rw[up b _ e];simp⟩) (λm hm=>?_) (λb u e=>?_) I.bare
 . obtain⟨f0,f1,f2,f3,f4,f5⟩:=hf b hb
   exact⟨f3,f1,f4,f5⟩
 . have:b≠T:=tR (tN (tI e) hp)
   rw[qi this]
   exact n
 . obtain⟨o,es,ep,ho,r⟩:=hm
   exact⟨o,es,ep,k _ o (λz=>(hf _ z).2.1 rfl) ho,r⟩
 . by_cases hb:b=T
   . subst hb
     rw[qe]at e
     cases e
     exact new
   . rw[qi hb]at e
     refine(I.hok b u e).stay (λc v hc q=>k c v ?_ q) (λc q=>up c _ q) λc xs q=>up c _ q
     rcases hc with z | z
     . rw[z];exact nL b u e
     . exact nL c _ z
theorem qC.turnedL {L:List Addr} {t':Nat} (I:qC X pins σ H s) (k:∀b u,b∉L->s.heap.get? b=some u->h'.get? b=some u) (hf:∀b∈L,JL X pins H b):qC X pins σ H {s with heap:=h',toks:=t'}:=by
 have nL:∀b u,H b=some u->b∉L:=λb u e z=>by rw[(hf b z).1]at e;cases e
 refine I.step (g':=s.gens) (d':=s.drawn) (ch:=L) (λb hb=>?_) (λb o _ _ hc e _=>k b o hc e) (λb o _ _ hc e _=>⟨o.slots,k b o hc e⟩) (λ_ _ _ _ n=>n)
   (λb o hc e=>⟨o,k b o hc e⟩) (λ_ _ e=>e) (λ_ _ _ e=>e) (λb ps e=>⟨#[],by rw[e];simp⟩) (λm hm=>?_) (λb u e=>?_) I.bare
 . obtain⟨f0,f1,f2,f3,f4,f5⟩:=hf b hb
   exact⟨f3,f1,f4,f5⟩
 . obtain⟨o,es,ep,ho,r⟩:=hm
   exact⟨o,es,ep,k _ o (λz=>(hf _ z).2.1 rfl) ho,r⟩
 . refine(I.hok b u e).stay (λc v hc q=>k c v ?_ q) (λ_ q=>q) λ_ _ q=>q
   rcases hc with z | z
   . rw[z];exact nL b u e
   . exact nL c _ z
end
def Itz (K:PySem.W.Frag) (a b:Addr):It:=⟨λi H=>∃xs ys x y,SqL K H a xs/\SqL K H b ys/\xs[i]?=some x/\ys[i]?=some y,
 λi H v H'=>∃p,H p=none/\v=.ref p/\∀xs ys x y,SqL K H a xs->SqL K H b ys->xs[i]?=some x->ys[i]?=some y->H'=upd H p (.tup [x,y]),
 λi H=>∃xs ys,SqL K H a xs/\SqL K H b ys/\(xs.length<=i\/ys.length<=i)⟩
theorem yD {P:Program} {w:World} {K:PySem.W.Frag} {elts:List Expr} {x1:Nat} {tpos:Pos} (a b z TI TO i1 i2:Addr) (AP:∀l,l≠z->l≠TI->l≠TO->l≠i1->l≠i2->∀l',l'≠z->l'≠TI->l'≠TO->l'≠i1->l'≠i2->ZipApart z TI TO i1 i2 l l'):
   WE P w K (.Tuple elts x1 tpos) (Itz K a b) [z,TI,TO,i1,i2] z (λi h=>IsZip h z TI TO .none/\IsPair h TI (.ref i1) (.ref i2)/\(∃u v,IsPair h TO u v)/\h.IsListIter i1 a i/\h.IsListIter i2 b i) where
 mem:=by simp
 obj:=λi h st c hc=>by
   obtain⟨hz,hTI,⟨u,v,hTO⟩,⟨o1,e1,c1,d1⟩,⟨o2,e2,c2,d2⟩⟩:=st
   simp only[zaa,zaM,or_false]at hc
   rcases hc with rfl | rfl | rfl | rfl | rfl
   . exact⟨_,hz,λv z=>by cases z⟩
   . exact⟨_,hTI,λv z=>by cases z⟩
   . exact⟨_,hTO,λv z=>by cases z⟩
   . exact⟨o1,e1,λv z=>by rw[d1]at z;cases z⟩
   . exact⟨o2,e2,λv z=>by rw[d2]at z;cases z⟩
 keep:=λi h h' st k=>by
   obtain⟨hz,hTI,⟨u,v,hTO⟩,h1,h2⟩:=st
   exact⟨k z (by simp) _ hz,k TI (by simp) _ hTI,⟨u,v,k TO (by simp) _ hTO⟩,h1.at λo e=>k i1 (by simp) o e,h2.at λo e=>k i2 (by simp) o e⟩
 item:=by
   intro X hP hw hK hc i pins s σ H E I hf st hg
   subst hP hw hK
   obtain⟨hz,hTI,⟨u0,v0,hTO⟩,h1,h2⟩:=st
   obtain⟨xs,ys,x,y,qa,qb,hx,hy⟩:=hg
   obtain⟨its,rv,p,_⟩:=I.list qa
   obtain⟨its2,rv2,p2,_⟩:=I.list qb
   obtain⟨u,hu,ru⟩:=rv.get hx
   obtain⟨u2,hu2,ru2⟩:=rv2.get hy
   have ne:∀{l:Addr} {its:Array Value},s.heap.IsList l its->∀{c:Addr} {o:Obj},s.heap.get? c=some o->o.cls≠.type "list"->l≠c:=λq c o e hc z=>by
     subst z
     obtain⟨o1,e1,c1,_⟩:=q
     rw[e1]at e
     cases e
     exact hc c1
   have D:ZipApart z TI TO i1 i2 a b:=by
     obtain⟨o1,e1,c1,_⟩:=id h1
     obtain⟨o2,e2,c2,_⟩:=id h2
     have k1:o1.cls≠.type "list":=by rw[c1];decide
     have k2:o2.cls≠.type "list":=by rw[c2];decide
     exact AP a (ne p.isList hz (by show Value.type "zip"≠_;decide)) (ne p.isList hTI (by show Value.type "tuple"≠_;decide)) (ne p.isList hTO (by show Value.type "tuple"≠_;decide)) (ne p.isList e1 k1) (ne p.isList e2 k2)
       b (ne p2.isList hz (by show Value.type "zip"≠_;decide)) (ne p2.isList hTI (by show Value.type "tuple"≠_;decide)) (ne p2.isList hTO (by show Value.type "tuple"≠_;decide)) (ne p2.isList e1 k1) (ne p2.isList e2 k2)
   refine wpAny_pyNext_zip_item D hz hTI hTO h1 h2 p.isList p2.isList (x:=u) (y:=u2) (by simpa using hu) (by simpa using hu2) λh' z1 z2 z3 z4 z5 z6 kk=>⟨_,rfl,?_⟩
   refine wpAny_letOwnedTupleGo_zip z1 λh'' z1' sb=>?_
   have nT:∀c o,s.heap.get? c=some o->s.heap.objs.size≠c:=λc o e=>zbu (tI e)
   have nTz:s.heap.objs.size≠z:=nT _ _ hz
   have kT:∀c o,c≠z->h'.get? c=some o->h''.get? c=some o:=λc o hc e=>(sb.2 c hc).trans e
   have hf4:∀c∈[z,TI,TO,i1,i2],JL X pins H c:=hf
   have I1:qC X pins σ (upd H s.heap.objs.size (.tup [x,y])) {s with heap:=h''}:=I.turnLaid (L:=[z,TI,TO,i1,i2]) (t':=s.toks)
     (λc o hc e=>kT c o (λz=>hc (by simp [z])) (kk c o (λz=>hc (by simp [z])) (λz=>hc (by simp [z])) (λz=>hc (by simp [z])) (λz=>hc (by simp [z])) e)) hf4 (tw _)
     ⟨by show 2<=sizeLine;decide,[u,u2],.cons ru (.cons ru2 .nil),⟨_,kT _ _ nTz z5,rfl,_,rfl⟩⟩
   refine⟨.ref s.heap.objs.size,_,I1,rfl,⟨s.heap.objs.size,I.hok.fresh (tw _),rfl,λxs' ys' x' y' qa' qb' hx' hy'=>?_⟩,⟨z1',kT _ _ D.TIz (kk _ _ D.TIz D.TITO D.TIi1 D.TIi2 hTI),⟨_,_,kT _ _ D.TOz z2⟩,z3.at λo e=>kT _ o D.i1z e,z4.at λo e=>kT _ o D.i2z e⟩,λc hc=>?_⟩
   . rw[I.list_inj qa' qa,hx]at hx'
     rw[I.list_inj qb' qb,hy]at hy'
     cases hx'
     cases hy'
     rfl
   . have h0:=(hf c hc).1
     by_cases e:c=s.heap.objs.size
     . subst e
       obtain⟨o1,e1,_⟩:=h1
       obtain⟨o2,e2,_⟩:=h2
       simp only[zaa,zaM,or_false]at hc
       rcases hc with e | e | e | e | e
       . exact absurd e nTz
       . exact absurd e (nT _ _ hTI)
       . exact absurd e (nT _ _ hTO)
       . exact absurd e (nT _ _ e1)
       . exact absurd e (nT _ _ e2)
     . rw[qi e];exact h0
 done:=by
   intro X hP hw hK hc i pins s σ H E I hf st hg
   subst hP hw hK
   obtain⟨hz,hTI,⟨u0,v0,hTO⟩,h1,h2⟩:=st
   obtain⟨xs,ys,qa,qb,hl⟩:=hg
   obtain⟨its,rv,p,_⟩:=I.list qa
   obtain⟨its2,rv2,p2,_⟩:=I.list qb
   have l1:=rv.length
   have l2:=rv2.length
   have ne:∀{l:Addr} {its:Array Value},s.heap.IsList l its->∀{c:Addr} {o:Obj},s.heap.get? c=some o->o.cls≠.type "list"->l≠c:=λq c o e hc z=>by
     subst z
     obtain⟨o1,e1,c1,_⟩:=q
     rw[e1]at e
     cases e
     exact hc c1
   have D:ZipApart z TI TO i1 i2 a b:=by
     obtain⟨o1,e1,c1,_⟩:=id h1
     obtain⟨o2,e2,c2,_⟩:=id h2
     have k1:o1.cls≠.type "list":=by rw[c1];decide
     have k2:o2.cls≠.type "list":=by rw[c2];decide
     exact AP a (ne p.isList hz (by show Value.type "zip"≠_;decide)) (ne p.isList hTI (by show Value.type "tuple"≠_;decide)) (ne p.isList hTO (by show Value.type "tuple"≠_;decide)) (ne p.isList e1 k1) (ne p.isList e2 k2)
       b (ne p2.isList hz (by show Value.type "zip"≠_;decide)) (ne p2.isList hTI (by show Value.type "tuple"≠_;decide)) (ne p2.isList hTO (by show Value.type "tuple"≠_;decide)) (ne p2.isList e1 k1) (ne p2.isList e2 k2)
   have hend:its.toArray[i]?=none\/its2.toArray[i]?=none:=by
     rcases hl with z | z
     . left;simp;omega
     . right;simp;omega
   exact wpAny_pyNext_zip_end (I.ok.hd hc) D hz hTI hTO h1 h2 p.isList p2.isList hend λh' kk=>⟨rfl,I.turnedL (L:=[z,TI,TO,i1,i2]) (t':=s.toks) (λc o hc e=>kk c o (λz=>hc (by simp [z])) (λz=>hc (by simp [z])) (λz=>hc (by simp [z])) (λz=>hc (by simp [z])) e) hf⟩
 self:=λ_ _ _ _ _ st h=>wpAny_pyIter_zip st.1 h
section
variable {X:Cx} {elts:List Expr} {x1:Nat} {tpos:Pos}
def qb0 (K:PySem.W.Frag) (ta:TA):TI:=λσ H R=>ta σ H λvs H1=>∃a b,vs=[.ref a,.ref b]/\(∃xs,SqL K H1 a xs)/\(∃ys,SqL K H1 b ys)/\R (Itz K a b) H1
theorem NT {a b:Expr} {ta:TA} {p pos:Pos} (hg:Gl X "zip") (hm:X.mg "zip"=none) (ha:JA X [a,b] ta) (hs:starEach [a,b] X.env=[(false,eval a X.env),(false,eval b X.env)]:=by rfl) (hs2:starEach [b] X.env=[(false,eval b X.env)]:=by rfl):JI X (.Tuple elts x1 tpos) (.Call (.Name "zip" p) [a,b] [] pos) (qb0 X.K ta):=.of (by
 have ha:=ha.to
 intro pins s σ H R I h
 refine Call_ (Qp I hg hm boot_zip (PyProof.Rows.callWith_type1 (ji (ha pos pins s σ H _ I h) λus s1 ⟨vs,H1,I1,r1,q1⟩=>?_) (by rw[hs,hs2]) (by rw[hs2];rfl)))
 obtain⟨l,l',e,⟨xs,qa⟩,⟨ys,qb⟩,q⟩:=q1
 subst e
 cases r1 with
 | cons r rr=>
   cases rr with
   | cons r' rr=>
     cases rr
     cases r
     cases r'
     obtain⟨its,rv,p,_⟩:=I1.list qa
     obtain⟨its2,rv2,p2,_⟩:=I1.list qb
     refine call_zip_2 p.isList p2.isList λh' z1 z2 z3 z4 z5 z6 kk=>?_
     refine wpAny_pyIter_zip z1 ?_
     have I2:qC X pins σ H1 {s1 with heap:=h'}:=I1.kept (t':=s1.toks) kk
     have fr:∀c,s1.heap.objs.size<=c->JL X pins H1 c:=λc hc=>I1.fpOk hc (I1.hok.fresh hc)
     refine⟨s1.heap.objs.size+4,[s1.heap.objs.size+4,s1.heap.objs.size+2,s1.heap.objs.size+3,s1.heap.objs.size,s1.heap.objs.size+1],_,_,H1,rfl,I2,yD l l' (s1.heap.objs.size+4) (s1.heap.objs.size+2) (s1.heap.objs.size+3) s1.heap.objs.size (s1.heap.objs.size+1) ?_,
       ⟨z1,z2,⟨_,_,z3⟩,z4,z5⟩,λc hc=>?_,q⟩
     . intro l n1 n2 n3 n4 n5 l' m1 m2 m3 m4 m5
       have ne:∀i j:Nat,i≠j->s1.heap.objs.size+i≠s1.heap.objs.size+j:=λi j h z=>h (Nat.add_left_cancel z)
       exact⟨ne 2 4 (by decide),ne 3 4 (by decide),ne 0 4 (by decide),ne 1 4 (by decide),ne 2 3 (by decide),ne 2 0 (by decide),ne 2 1 (by decide),ne 3 0 (by decide),ne 3 1 (by decide),ne 0 1 (by decide),n1,n3,n4,n5,m1,m3,m4,m5⟩
     . simp only[zaa,zaM,or_false]at hc
       rcases hc with e | e | e | e | e<;>rw[e]<;>first | exact fr _ (zcR _ _) | exact fr _ (tw _))
end
theorem Gg {K:PySem.W.Frag} {a b:Addr} {xs ys:List V} {g:TG} {tb:TS} {D:Qv} {σ:St} {H:Hp} (hxy:xs.length=ys.length) (Pv:Nat->St->Hp->Prop) (h0:Pv 0 σ H) (hl:∀i σ H,i<=xs.length->Pv i σ H->SqL K H a xs/\SqL K H b ys)
   (hs:∀i x y σ H p,xs[i]?=some x->ys[i]?=some y->H p=none->Pv i σ H->g (.ref p) σ (upd H p (.tup [x,y])) λσ2 H2=>tb {D with nx:=Pv (i+1),ct:=Pv (i+1),bk:=D.nx} σ2 H2) (hd:∀σ H,Pv xs.length σ H->D.nx σ H):
   ∃W:Nat->Nat->St->Hp->Prop,(∃m,W 0 m σ H)/\∀i m σ H,W i m σ H->
    ((Itz K a b).stop i H/\D.nx σ H)\/((Itz K a b).go i H/\∃N:St->Hp->Prop,(∀σ' H',N σ' H'->∃m',m' < m/\W (i+1) m' σ' H')/\∀x H',(Itz K a b).yld i H x H'->g x σ H' λσ2 H2=>tb {D with nx:=N,ct:=N,bk:=D.nx} σ2 H2):=by
 refine⟨λi m σ H=>m=xs.length - i/\i<=xs.length/\Pv i σ H,⟨xs.length,by simp,zap _,h0⟩,?_⟩
 rintro i m σ H ⟨rfl,hi,p⟩
 obtain⟨qa,qb⟩:=hl i σ H hi p
 by_cases hlt:i < xs.length
 . have ex:xs[i]?=some xs[i]:=tu hlt
   have ey:ys[i]?=some (ys[i]'(by omega)):=tu (by omega)
   refine .inr ⟨⟨xs,ys,_,_,qa,qb,ex,ey⟩,Pv (i+1),λσ' H' p'=>⟨xs.length - (i+1),by omega,rfl,hlt,p'⟩,λx H' yl=>?_⟩
   obtain⟨pp,hp,rfl,e⟩:=yl
   rw[e xs ys _ _ qa qb ex ey]
   exact hs i _ _ σ H pp ex ey hp p
 . have e:i=xs.length:=by omega
   subst e
   exact .inl ⟨⟨xs,ys,qa,qb,.inl (tw _)⟩,hd σ H p⟩
section
variable {X:Cx}
theorem Xb:∀{cs:List Addr} {us:List Value},qE (cs.map V.ref) us->us=cs.map Value.ref
 | [],_,.nil=>rfl
 | c::cs,u::us,.cons r t=>by
   obtain rfl:u=Value.ref c:=r
   rw[tS,Xb t]
def qbK (K:PySem.W.Frag):R2:=λx y H Q=>∃d d',DV K H x d/\DV K H y d'/\PySem.SeqAt.shaped d=true/\PySem.SeqAt.shaped d'=true/\Q (.bl (PyData.eqv d d')) H
theorem Yp (hu:X.A.units+64 < cLine):Jw X (compareOp .Eq) (qbK X.K):=by
 intro pins s σ H x y v u Q I rx ry h
 obtain⟨d,d',h1,h2,hs,hs',q⟩:=h
 obtain⟨as,ra⟩:=h1.reads I rx
 obtain⟨bs,rb⟩:=h2.reads I ry
 exact eq_dataH ra rb hs hs' hu ⟨.bl _,H,I,rfl,q⟩
end
section
variable {X:Cx} {o e:Expr} {es:List Expr} {ta:TE} {t:TA} {m:Str} {C C' f f':Addr} {fd fd':FuncData} {ps ps':List Str} {k k':Nat} {sp sp':Sp} {apos pos:Pos}
def yL (C C':Addr) (m:Str) (sp sp':Sp) (ta:TE) (t:TA):TE:=λσ H Q=>ta σ H λx H1=>∃a dx fs,x=.ref a/\fs.lookup m=none/\
 ((H1 a=some (.ins C dx fs)/\t σ H1 λvs H2=>sp (x::vs) H2 Q E0)\/(H1 a=some (.ins C' dx fs)/\t σ H1 λvs H2=>sp' (x::vs) H2 Q E0))
theorem ww {pl:Sem Bool} (he:JE X o ta) (c:YX X.K C) (hm:Y7 X.K C m f) (F:qp X.prog X.w X.K X.mg X.base qI k f fd ps sp) (hr:qN k X.A) (hb:jH X.K fd ps []) (c':YX X.K C') (hm':Y7 X.K C' m f') (F':qp X.prog X.w X.K X.mg X.base qI k' f' fd' ps' sp') (hr':qN k' X.A) (hb':jH X.K fd' ps' []) (ha:JA X (e::es) t) (hst:starEach (e::es) X.env=(false,eval e X.env)::starEach es X.env:=by rfl) (hpl:(backTo pos (starEach es X.env)).any (·.1)=false:=by rfl) (ht:eval (.Call (.Attribute o m apos) (e::es) [] pos) X.env=(eval o X.env >>= λov=>standAt apos.atName >>= λ_=>holding [ov] (getMethod ov m pl) >>= λr=>callWith pos r.1 r.2 (backTo pos (starEach (e::es) X.env)) (backToKw pos (keywordEach [] X.env))):=by rfl):JE X (.Call (.Attribute o m apos) (e::es) [] pos) (yL C C' m sp sp' ta t):=.of (by
 have he:=he.to
 have ha:=ha.to
 intro pins s σ H Q I h
 refine zbG (pl:=pl) (ji (he pins s σ H _ I h) λu s1 ⟨x,H1,I1,rx,a,dx,fs,ex,l,q⟩=>?_) ht
 subst ex
 obtain rfl:u=Value.ref a:=rx
 rcases q with ⟨ea,q⟩ | ⟨ea,q⟩
 . refine Qq I1 ea c hm l (zbh (first:=[.ref a]) (h₀:=X.base) I.ok.mod.kin hm.kp (ji (ha pos pins s1 σ H1 _ I1 q) λus s2 ⟨vs,H2,I2,r,q2⟩=>⟨I2.kIn,?_⟩) hst hpl)
   exact Zd (us:=.ref a::us) (vs:=.ref a::vs) F hr hb .nil QB I2 (.cons rfl r) (by simpa using q2)
 . refine Qq I1 ea c' hm' l (zbh (first:=[.ref a]) (h₀:=X.base) I.ok.mod.kin hm'.kp (ji (ha pos pins s1 σ H1 _ I1 q) λus s2 ⟨vs,H2,I2,r,q2⟩=>⟨I2.kIn,?_⟩) hst hpl)
   exact Zd (us:=.ref a::us) (vs:=.ref a::vs) F' hr' hb' .nil QB I2 (.cons rfl r) (by simpa using q2))
theorem Xy {pl:Sem Bool} (he:JE X o ta) (c:YX X.K C) (hm:Y7 X.K C m f) (F:qp X.prog X.w X.K X.mg X.base qI k f fd ps sp) (hr:qN k X.A) (hb:jH X.K fd ps []) (c':YX X.K C') (hm':Y7 X.K C' m f') (F':qp X.prog X.w X.K X.mg X.base qI k' f' fd' ps' sp') (hr':qN k' X.A) (hb':jH X.K fd' ps' []) (ht:eval (.Call (.Attribute o m apos) [] [] pos) X.env=(eval o X.env >>= λov=>standAt apos.atName >>= λ_=>holding [ov] (getMethod ov m pl) >>= λr=>callWith pos r.1 r.2 (backTo pos (starEach [] X.env)) (backToKw pos (keywordEach [] X.env))):=by rfl):JE X (.Call (.Attribute o m apos) [] [] pos) (yL C C' m sp sp' ta QD):=.of (by
 have he:=he.to
 intro pins s σ H Q I h
 refine zbG (pl:=pl) (ji (he pins s σ H _ I h) λu s1 ⟨x,H1,I1,rx,a,dx,fs,ex,l,q⟩=>?_) ht
 subst ex
 obtain rfl:u=Value.ref a:=rx
 rcases q with ⟨ea,q⟩ | ⟨ea,q⟩
 . exact Qq I1 ea c hm l (zcu (first:=[.ref a]) I1.kIn hm.kp (Zd (us:=[.ref a]) (vs:=[.ref a]) F hr hb .nil QB I1 (.cons rfl .nil) q))
 . exact Qq I1 ea c' hm' l (zcu (first:=[.ref a]) I1.kIn hm'.kp (Zd (us:=[.ref a]) (vs:=[.ref a]) F' hr' hb' .nil QB I1 (.cons rfl .nil) q)))
end
section
variable {X:Cx} {e:Expr} {es:List Expr} {te:TE} {t:TA}
theorem Wv {t':TE} (h:JE X e te) (k:∀σ H Q,t' σ H Q->te σ H Q):JE X e t':=.of (by
 have h:=h.to
 exact λpins s σ H Q I q=>h pins s σ H Q I (k σ H Q q))
def tWk (te:TE):TE:=λσ H Q=>∃G:VK,te σ H G/\∀x H1,G x H1->Q x H1
theorem wu (h:JE X e te):JE X e (tWk te):=.of (by
 have h:=h.to
 intro pins s σ H Q I ⟨G,g,k⟩
 exact ji (h pins s σ H G I g) λv s1 ⟨x,H1,I1,r1,q1⟩=>⟨x,H1,I1,r1,k x H1 q1⟩)
def aWk (t:TA):TA:=λσ H Q=>∃G:List V->Hp->Prop,t σ H G/\∀vs H1,G vs H1->Q vs H1
theorem qaF (h:JA X es t):JA X es (aWk t):=.of (by
 have h:=h.to
 intro pos pins s σ H Q I ⟨G,g,k⟩
 exact ji (h pos pins s σ H G I g) λus s1 ⟨vs,H1,I1,r1,q1⟩=>⟨vs,H1,I1,r1,k vs H1 q1⟩)
end
open PySem PySem.Spec PySem.W PyProof.Rows
theorem Ry:∀(f n r:Nat),r<=1->minRun' f n r<=n+r
 | 0,n,r,_=>tw _
 | f+1,n,r,hr=>by
   rw[minRun'_succ]
   split
   . exact tw _
   . have h1:max r (n % 2)<=1:=Nat.max_le.mpr ⟨hr,by omega⟩
     have:=Ry f (n / 2) (max r (n % 2)) h1
     omega
section
variable {P:Program} {w:World} {B:Around} {F:Value->Shared->Prop} {κ:SortKind} {it:Array Keyed} {z:Shared}
theorem W3 {n:Nat} {R:Nat->Shared->Prop} (hc:∀i,1<=i->i < n->∀C:Bool->Shared->Prop,C false z->kas_cmp P w B κ it i (i - 1) C z) (hR:R n z):
   ∀(f a:Nat),1<=a->a+f=n->(kas_asc (zaX (zae n)) f a).kasWp (kas_cmp P w B κ it) R z
 | 0,a,_,e=>by
   have e':a=n:=by omega
   subst e'
   exact hR
 | f+1,a,h1,e=>by
   have g:∀i,i < n->(zaX (zae n)).getD i 0=i:=λi hi=>by simp [Array.getD,hi]
   show kas_cmp P w B κ it ((zaX (zae n)).getD a 0) ((zaX (zae n)).getD (a - 1) 0) _ z
   rw[g a (by omega),g (a - 1) (by omega)]
   refine hc a h1 (by omega) _ ?_
   show KasT.kasWp _ (if false=true then _ else _) R z
   rw[if_neg tK]
   exact W3 hc hR f (a+1) (by omega) (by omega)
theorem kE {n:Nat} {Q:Unit->SortSt->Shared->Prop} (h2:2<=n) (hc:∀i,1<=i->i < n->∀C:Bool->Shared->Prop,C false z->kas_cmp P w B κ it i (i - 1) C z)
   (hQ:∀st,arrOf st=(zaX (zae n)).map (kas_item it)->failedOf st=none->Q () st z):kasC (model P w) B F sortRuns' Q (kas_st κ it (zaX (zae n))) z:=by
 obtain⟨r,rfl⟩:∃r,n=r+2:=⟨n - 2,by omega⟩
 have sz:(zaX (zae (r+2))).size=r+2:=by simp
 have sa:(arrOf (kas_st κ it (zaX (zae (r+2))))).size=r+2:=(Array.size_map ..).trans sz
 have le:=Ry (r+2) (r+2) 0 (by decide)
 rw[sortRuns'_eq]
 refine kasC_bind (kasC_get ?_)
 dsimp only
 rw[sa]
 generalize minRun' (r+2) (r+2) 0=M at le
 refine kasC_bind (kasC_range (show kasC _ _ _ (forIn (0::1::zdG 2 r) _ _) _ _ _ from kasC_cons ?_))
 dsimp only
 rw[if_neg (by omega)]
 simp only[zdB,zdC]
 refine kasC_bind (kas_count_ (G:=λq z'=>q=(r+2,zaX (zae (r+2)))/\z'=z) (by omega) (by rw[sz];exact tw _) (λm p' z' _ _ _ hg=>?_) ?_)
 . obtain⟨e,rfl⟩:=hg
   cases e
   dsimp only
   rw[if_neg (by omega)]
   refine kasC_bind (kasC_get ?_)
   rw[show (pendingOf (kas_st κ it (zaX (zae (r+2))))).back?=none from rfl]
   dsimp only
   refine kasC_bind (kasC_modify (kasC_pure (show kasC _ _ _ (forIn (1::zdG 2 r) _ _) _ _ _ from kasC_cons ?_)))
   dsimp only
   rw[if_pos (tw _)]
   refine kasC_pure ?_
   dsimp only
   refine kasC_bind (kasC_range (show kasC _ _ _ (forIn (0::1::zdG 2 r) _ _) _ _ _ from kasC_cons (kasC_bind (kasC_get ?_))))
   rw[if_pos (show (pendingOf (setPending (kas_st κ it (zaX (zae (r+2)))) ((pendingOf (kas_st κ it (zaX (zae (r+2))))).push (0,r+2,0)))).size<=1 from tw 1)]
   refine kasC_pure ?_
   dsimp only
   exact kasC_pure (hQ _ rfl rfl)
 . unfold kas_count
   rw[KasT.kasWp_bind]
   refine W3 hc ?_ _ 1 (tw 1) (by omega)
   rw[if_pos (beq_self_eq_true _)]
   exact⟨rfl,rfl⟩
end
def Js (h:Heap) (v:Value) (k:Int×Int):Prop:=∃p o n t u,v=.ref p/\h.get? p=some o/\o.cls=.type "tuple"/\o.data=.seq #[.int k.1 t,.int k.2 u] n
def Yw (a b:Int×Int):Prop:=a.1 < b.1\/(a.1=b.1/\a.2 < b.2)
section
variable {P:Program} {w:World} {B:Around} {F:Value->Shared->Prop} {z:Shared}
theorem W6 {v u:Value} {a b:Int×Int} (hv:Js z.heap v b) (hu:Js z.heap u a) (hlt:Yw a b) {C:Bool->Shared->Prop} (hC:C false z):wpAny (model P w) B (keyLt' (tuples' true) v u) C (λ_ _=>False) z:=by
 obtain⟨p,o,n,t1,t2,rfl,h1,_,d1⟩:=hv
 obtain⟨p',o',n',t1',t2',rfl,h1',_,d1'⟩:=hu
 refine kat_lt h1 d1 h1' d1' ?_
 show KatLex P w B true _ C [(.int b.1 t1,.int a.1 t1'),(.int b.2 t2,.int a.2 t2')] 0 z
 refine kat_cons (SeqAt.EqAt.int_int b.1 t1 a.1 t1' P w _ _ ?_)
 rcases hlt with h | ⟨h,h'⟩
 . have e:(b.1==a.1)=false:=by
     rw[beq_eq_false_iff_ne]
     omega
   rw[e]
   refine kat_no (show wpAny _ _ (oneLt' true _ _) _ _ _ from oneLt_int ?_)
   rw[decide_eq_false (by omega)]
   exact hC
 . have e:(b.1==a.1)=true:=by rw[h];exact beq_self_eq_true _
   rw[e]
   refine kat_yes (kat_cons (SeqAt.EqAt.int_int b.2 t2 a.2 t2' P w _ _ ?_))
   have e2:(b.2==a.2)=false:=by
     rw[beq_eq_false_iff_ne]
     omega
   rw[e2]
   refine kat_no (show wpAny _ _ (oneLt' false _ _) _ _ _ from kat_one _ _ (lt_int ?_))
   show C (decide (b.2 < a.2)) z
   rw[decide_eq_false (by omega)]
   exact hC
theorem Js.keep {h h':Heap} {v:Value} {k:Int×Int} (x:Js h v k) (kp:∀b o,h.get? b=some o->o.cls=.type "tuple"->h'.get? b=some o):Js h' v k:=by
 obtain⟨p,o,n,t,u,e,h1,c,d⟩:=x
 exact⟨p,o,n,t,u,e,kp p o h1 c,c,d⟩
theorem Xo (vs:List Value):(pairsOf vs).map (·.2)=vs.toArray:=by
 apply Array.ext'
 rw[Array.toList_map,pairsOf_toList,List.map_snd_zip (tw _)]
theorem UP {h:Heap}:∀(vs:List Value) (ks:List (Int×Int)),vs.length=ks.length->(∀(i:Nat) (v:Value) (k:Int×Int),vs[i]?=some v->ks[i]?=some k->Js h v k)->∃fs,KatTups h vs fs/\fs.length=vs.length/\∀v∈fs,∃i t,v=Value.int i t
 | [],_,_,_=>⟨[],.nil,rfl,λv hv=>(nomatch hv)⟩
 | v::vs,[],hl,_=>by cases hl
 | v::vs,k::ks,hl,hv=>by
   obtain⟨fs,tf,lf,hf⟩:=UP vs ks (zcA.inj hl) λi u q e1 e2=>hv (i+1) u q (by simpa using e1) (by simpa using e2)
   obtain⟨p,o,n,t,u,rfl,h1,c,d⟩:=hv 0 v k rfl rfl
   refine⟨.int k.1 t::fs,.cons h1 c d rfl tf,by simp [lf],λx hx=>?_⟩
   rcases zaa.mp hx with e | hx
   . exact⟨_,_,e⟩
   . exact hf x hx
theorem ko {a:Addr} {vs:List Value} {ks:List (Int×Int)} {n:Nat} {R:PySem.Fin->Shared->Prop} (ho:z.heap.get? a=some (seqObj "list" vs.toArray n)) (hl:vs.length=ks.length) (hv:∀(i:Nat) (v:Value) (k:Int×Int),vs[i]?=some v->ks[i]?=some k->Js z.heap v k)
   (hr:∀(i:Nat) (k k':Int×Int),ks[i]?=some k->ks[i+1]?=some k'->Yw k k') (hz:vs.length<=100000)
   (k:R (.done (.ret .none)) {z with heap:=sortedHeap z.heap a vs vs.toArray}):wpAny (model P w) B (Builtin.«list.sort» ⟨[.ref a],[]⟩) R F z:=by
 have na:∀b o,z.heap.get? b=some o->o.cls=.type "tuple"->b≠a:=λb o e c q=>by
   rw[q,ho]at e
   cases e
   exact absurd c (show ¬Value.type "list"=Value.type "tuple" by decide)
 rw[list_sort_plain]
 refine wpAny_bind (listItems_at ho rfl (wpAny_bind (listUpdate_at ho rfl ?_)))
 obtain⟨c1,o1⟩:∃c,(z.heap.update a (Obj.mapSeq λ_=>#[])).get? a=some (seqObj "list" #[] c):=⟨_,get?_update_seq ho (λ_=>#[])⟩
 refine wpAny_bind (seqEpoch_at o1 rfl (wpAny_bind (wpAny_newTuple (wpAny_bind (wpAny_newList (wpAny_holding ?_))))))
 have lt:=tI ho
 have o2:(((z.heap.update a (Obj.mapSeq λ_=>#[])).push (seqObj "tuple" vs.toArray 0)).push (seqObj "list" #[] 0)).get? a=some (seqObj "list" #[] c1):=tz _ (tz _ o1)
 have kp:∀b o,z.heap.get? b=some o->o.cls=.type "tuple"->(((z.heap.update a (Obj.mapSeq λ_=>#[])).push (seqObj "tuple" vs.toArray 0)).push (seqObj "list" #[] 0)).get? b=some o:=λb o e c=>
   tz _ (tz _ ((zal _ _ (Ne.symm (na b o e c))).trans e))
 show wpAny (model P w) B _ R F {z with heap:=((z.heap.update a (Obj.mapSeq λ_=>#[])).push (seqObj "tuple" vs.toArray 0)).push (seqObj "list" #[] 0)}
 dsimp only
 have sv:vs.toArray.size=vs.length:=by simp
 have ends:∀st:SortSt,(arrOf st).map (·.2)=vs.toArray->failedOf st=none->wpAny (model P w) B (do
     let touched:=(<-seqEpoch a) != c1
     Builtin.List.listUpdate (.ref a) λ_=>(arrOf st).map (·.2)
     if let some e:=failedOf st then rule "list.sort.comparison-raised";throw e
     if touched then rule "list.sort.modified";raiseError "ValueError" "list modified during sort"
     ret .none) R F {z with heap:=((z.heap.update a (Obj.mapSeq λ_=>#[])).push (seqObj "tuple" vs.toArray 0)).push (seqObj "list" #[] 0)}:=λst e f=>by
   refine wpAny_bind (seqEpoch_at o2 rfl ?_)
   rw[e,f]
   refine wpAny_bind (listUpdate_at o2 rfl ?_ (hsz2:=by rw[sv,sizeLine_eq];omega))
   simp only[bne_self_eq_false,zbj,if_false]
   exact wpAny_pure k
 by_cases h2:vs.toArray.size < 2
 . rw[if_pos h2,if_pos h2]
   refine wpAny_bind (wpAny_pure ?_)
   rw[StateT.run_pure]
   refine wpAny_bind (wpAny_pure ?_)
   exact ends (SortSt.mk' general' (vs.toArray.zip vs.toArray) #[] 7 none) (Xo vs) rfl
 . rw[if_neg h2,if_neg h2]
   have l2:2<=vs.length:=by omega
   have hv':∀(i:Nat) (v:Value) (q:Int×Int),vs[i]?=some v->ks[i]?=some q->Js (((z.heap.update a (Obj.mapSeq λ_=>#[])).push (seqObj "tuple" vs.toArray 0)).push (seqObj "list" #[] 0)) v q:=λi v q e1 e2=>(hv i v q e1 e2).keep kp
   obtain⟨fs,tf,lf,hf⟩:=UP vs ks hl hv'
   refine wpAny_bind (kat_kind (T:=.type "int") tf (by omega) (λv q=>?_) rfl ?_)
   . obtain⟨i,t,rfl⟩:=hf v q
     exact Looks.of_pure rfl
   . have e:vs.toArray.zip vs.toArray=(zaX (zae vs.length)).map (kas_item (pairsOf vs)):=by
       have:=kas_range (pairsOf vs)
       rw[pairsOf_size]at this
       exact this.symm
     rw[e]
     have run:kasC (model P w) B F sortRuns' (λ_ st z'=>z'={z with heap:=((z.heap.update a (Obj.mapSeq λ_=>#[])).push (seqObj "tuple" vs.toArray 0)).push (seqObj "list" #[] 0)}/\(arrOf st).map (·.2)=vs.toArray/\failedOf st=none)
         (kas_st (tuples' true) (pairsOf vs) (zaX (zae vs.length))) {z with heap:=((z.heap.update a (Obj.mapSeq λ_=>#[])).push (seqObj "tuple" vs.toArray 0)).push (seqObj "list" #[] 0)}:=by
       refine kE l2 (λi i1 i2 C hC=>?_) λst e1 e2=>⟨rfl,by rw[e1,<-e];exact Xo vs,e2⟩
       unfold kas_cmp
       rw[kas_item_eq,kas_item_eq]
       have g:∀j,j < vs.length->vs[j]?=some (vs.getD j Value.none):=λj hj=>by simp [hj]
       have gk:∀j,j < vs.length->∃q,ks[j]?=some q:=λj hj=>⟨_,tu (by omega)⟩
       obtain⟨q1,eq1⟩:=gk i i2
       obtain⟨q0,eq0⟩:=gk (i - 1) (by omega)
       have eq1':ks[i - 1+1]?=some q1:=by rw[show i - 1+1=i by omega];exact eq1
       exact W6 (hv' i _ q1 (g i i2) eq1) (hv' (i - 1) _ q0 (g (i - 1) (by omega)) eq0) (hr (i - 1) q0 q1 eq0 eq1') hC
     refine wpAny_bind (wpAny_mono run (λr z' h3=>?_) λ_ _ x=>x)
     obtain⟨⟨⟩,st⟩:=r
     obtain⟨rfl,e1,e2⟩:=h3
     exact ends st e1 e2
end
end L2
namespace PySem
def Y6 (h:Heap) (d:Addr) (es:Array DictEntry) (ep:Nat):Prop:=∃o,h.get? d=some o/\o.ExactDict/\o.data=.dict es ep
theorem Y6.keep {h h':Heap} {d:Addr} {es:Array DictEntry} {ep:Nat} (x:Y6 h d es ep) (k:∀o,h.get? d=some o->h'.get? d=some o):Y6 h' d es ep:=let ⟨o,e,r⟩:=x;⟨o,k o e,r⟩
section
variable {P:Program} {w:World} {B:Around} {F':Value->Shared->Prop} {z:Shared} {d I:Addr} {es:Array DictEntry} {ep i:Nat}
theorem Y6.ty (x:Y6 z.heap d es ep):z.TypeIs (.ref d) "dict":=let ⟨o,e,c,_⟩:=x;⟨o,e,c.1⟩
theorem xp {R:Value->Shared->Prop} (hd:(d==sysModules)=false) (x:Y6 z.heap d es ep)
   (k:R (.ref z.heap.objs.size) {z with heap:=z.heap.push {cls:=.type "dict_keyiterator",data:=.fields #[.ref d,.int 0 0,.int es.size 0,.int ep 0]}}):wpAny (model P w) B (pyIter (.ref d)) R F' z:=by
 have ty:=x.ty
 obtain⟨o,ho,_,dat⟩:=x
 refine wpAny_pyIter_slot ty F.slot_dict_iter (wpAny_call_entry F.slot_dict_iter ty F.entry_dict_iter ?_ (F.args_dict_iter_1 _))
 unfold Builtin.«dict.__iter__»
 refine wpAny_bind (show wpAny _ _ (Builtin.Dict.dictSlotNone _ _) _ _ _ from ?_)
 unfold Builtin.Dict.dictSlotNone
 refine wpAny_bind (wpAny_notOrdered_dict ty (show wpAny _ _ (pure (Value.ref d)) _ _ z from wpAny_pure ?_))
 refine(show wpAny _ _ (Builtin.Dict.showsAll d >>= _) _ _ z from ?_)
 unfold Builtin.Dict.showsAll
 rw[if_neg (by rw[hd];exact tK)]
 refine wpAny_bind (wpAny_pure (wpAny_bind (wpAny_dictEntries ho dat (wpAny_bind (wpAny_dictEpoch ho dat ?_)))))
 exact wpAny_bind (wpAny_newObj_type (wpAny_pure ⟨_,rfl,"dict_keyiterator",_,⟨_,tU _ rfl,rfl⟩,F.slot_dict_keyiterator_next.lookup,by simpa [rawInt] using k⟩))
theorem xo {R:Option Value->Shared->Prop} (hit:z.heap.IsKeyIter I d i es.size ep) (x:Y6 z.heap d es ep) (hi:i < es.size)
   (k:∀h',h'.IsKeyIter I d (i+1) es.size ep->Heap.SameBut I z.heap h'->R (some es[i].key) {z with heap:=h'}):wpAny (model P w) B (pyNext (.ref I)) R F' z:=by
 obtain⟨o,ho,hc,hd⟩:=id hit
 obtain⟨od,hod,_,dat⟩:=x
 have ty:=hit.typeIs
 unfold pyNext
 refine wpAny_bind (wpAny_attempt (wpAny_callSpecial?_slot (name:=Str.ofString "__next__") ty F.slot_dict_keyiterator_next (wpAny_call_entry F.slot_dict_keyiterator_next ty F.entry_dict_keyiterator_next ?_ (F.args_dict_keyiterator_next_1 _))))
 refine wpAny_bind (wpAny_pure (wpAny_bind (wpAny_bind (wpAny_bind ?_))))
 first | refine wpAny_typeNameOfWhole_keyiter ty (wpAny_pure (wpAny_bind (wpAny_fieldsOf ho hd ?_))) | refine wpAny_typeNameOf_keyiter ty (wpAny_pure (wpAny_bind (wpAny_fieldsOf ho hd ?_)))
 have own:Builtin.Dict_items.ownsTuple "dict_keyiterator"=false:=by decide
 simp only[own,zbj,if_false]
 show wpAny _ _ (if (Value.ref d==Value.none)=true then _ else _) _ _ z
 rw[if_neg (show ¬((Value.ref d==Value.none)=true) from tK)]
 refine wpAny_bind (wpAny_pure (wpAny_bind (wpAny_dictEntries hod dat ?_)))
 rw[if_neg (by simp)]
 refine wpAny_bind (wpAny_pure (wpAny_bind (wpAny_dictEpoch hod dat ?_)))
 rw[if_neg (by simp)]
 refine wpAny_pure ?_
 simp only[show ¬((i:Int) < 0) from by omega,if_false,zaQ,zbT hi]
 refine wpAny_bind (wpAny_bind ?_)
 first | refine wpAny_typeNameOfWhole_keyiter ty (wpAny_pure (wpAny_bind (wpAny_isOneOf_keyiter ty ?_))) | refine wpAny_typeNameOf_keyiter ty (wpAny_pure (wpAny_bind (wpAny_isOneOf_keyiter ty ?_)))
 refine(show wpAny _ _ (setField (.ref I) 1 (rawInt ((i:Int)+1)) >>= _) _ _ z from wpAny_bind (wpAny_setField ho hd (by simp) ?_))
 have hit':(z.heap.update I (Obj.mapFields (·.setIfInBounds 1 (rawInt ((i:Int)+1))))).IsKeyIter I d (i+1) es.size ep:=
   ⟨_,zaH _ ho (Obj.isFreed_of_fields (Obj.data_mapFields hd _)),(Obj.cls_mapFields ..).trans hc,by rw[Obj.data_mapFields hd];simp [rawInt]⟩
 refine wpAny_bind (wpAny_holding (wpAny_bind (wpAny_isOneOf_keyiter (s:={z with heap:=z.heap.update I (Obj.mapFields (·.setIfInBounds 1 (rawInt ((i:Int)+1))))}) hit'.typeIs ?_)))
 refine(show wpAny _ _ (pure es[i].key) _ _ _ from wpAny_pure (wpAny_pure ⟨_,rfl,wpAny_pure (k _ hit' (Heap.SameBut.update ..))⟩))
theorem Km {R:Option Value->Shared->Prop} (hB:B.handled=none) (hit:z.heap.IsKeyIter I d i es.size ep) (x:Y6 z.heap d es ep) (hi:es.size<=i)
   (k:∀h',Heap.ExtBut I z.heap h'->R none {z with heap:=h'}):wpAny (model P w) B (pyNext (.ref I)) R F' z:=by
 obtain⟨o,ho,hc,hd⟩:=id hit
 obtain⟨od,hod,_,dat⟩:=x
 have ty:=hit.typeIs
 unfold pyNext
 refine wpAny_bind (wpAny_attempt (wpAny_callSpecial?_slot (name:=Str.ofString "__next__") ty F.slot_dict_keyiterator_next (wpAny_call_entry F.slot_dict_keyiterator_next ty F.entry_dict_keyiterator_next ?_ (F.args_dict_keyiterator_next_1 _))))
 refine wpAny_bind (wpAny_pure (wpAny_bind (wpAny_bind (wpAny_bind ?_))))
 first | refine wpAny_typeNameOfWhole_keyiter ty (wpAny_pure (wpAny_bind (wpAny_fieldsOf ho hd ?_))) | refine wpAny_typeNameOf_keyiter ty (wpAny_pure (wpAny_bind (wpAny_fieldsOf ho hd ?_)))
 have own:Builtin.Dict_items.ownsTuple "dict_keyiterator"=false:=by decide
 simp only[own,zbj,if_false]
 show wpAny _ _ (if (Value.ref d==Value.none)=true then _ else _) _ _ z
 rw[if_neg (show ¬((Value.ref d==Value.none)=true) from tK)]
 refine wpAny_bind (wpAny_pure (wpAny_bind (wpAny_dictEntries hod dat ?_)))
 rw[if_neg (by simp)]
 refine wpAny_bind (wpAny_pure (wpAny_bind (wpAny_dictEpoch hod dat ?_)))
 rw[if_neg (by simp)]
 refine wpAny_pure ?_
 simp only[show ¬((i:Int) < 0) from by omega,if_false,zaQ,Array.getElem?_eq_none hi]
 refine wpAny_bind (wpAny_bind ?_)
 first | refine wpAny_typeNameOfWhole_keyiter ty (wpAny_pure ?_) | refine wpAny_typeNameOf_keyiter ty (wpAny_pure ?_)
 refine(show wpAny _ _ (setField (.ref I) 0 .none >>= _) _ _ z from wpAny_bind (wpAny_setField ho hd (by simp) ?_))
 refine(show wpAny _ _ (newExc (.type "StopIteration") [] >>= _) _ _ _ from wpAny_bind ?_)
 simp only[newExc,newTuple]
 refine wpAny_bind (wpAny_newObj_type (wpAny_bind (m:=firstArgMember _ _) (wpAny_of_eq (a:=Value.none) (by first | rfl | (simp only[firstArgMember];rfl)) (wpAny_newObj_type ?_ (by size_fits)))) (by size_fits))
 simp only[raiseNew]
 refine wpAny_bind (wpAny_handled ?_)
 rw[show B.in1.handled=none from hB]
 refine wpAny_bind (wpAny_pure (wpAny_throw ?_))
 refine wpAny_bind (wpAny_isInstance (T:="StopIteration") (b:=true) ⟨_,tU _ rfl,rfl⟩ isSubtype_stop ?_)
 exact wpAny_pure (k _ ((((Heap.SameBut.update ..).extBut).push _).push _))
end
open PySem.W
section
variable {P:Program} {w:World} {d:Addr} {es:Array DictEntry} {ep:Nat}
theorem kF {B:Around} (hB:B.handled=none) (I:Addr) (hne:d≠I):Walks P w B I [I,d] [I] es.size (λi v=>∃h:i < es.size,v=es[i].key) (λi h=>h.IsKeyIter I d i es.size ep/\Y6 h d es ep) where
 sub:=λb hb=>by simp at hb;simp [hb]
 frame:=λ_ _ _ st k=>⟨st.1.at λo e=>k I (by simp) o e,st.2.keep λo e=>k d (by simp) o e⟩
 item:=λi z R G hi st q=>xo st.1 st.2 hi λh' it' sb=>q _ h' z.toks ⟨hi,rfl⟩ ⟨it',st.2.keep λo e=>sb.extBut d o hne e⟩ λb o hb e=>sb.extBut b o (λx=>hb (by simp [x])) e
 done:=λz R G st q=>Km hB st.1 st.2 (tw _) λh' eb=>q h' z.toks λb o hb e=>eb b o (λx=>hb (by simp [x])) e
 self:=λ_ _ _ _ st q=>wpAny_pyIter_keyiter st.1 q
theorem Kl (hd:(d==sysModules)=false):KdlSrc P w "dict" d d es.size (λi v=>∃h:i < es.size,v=es[i].key) (λh=>Y6 h d es ep) where
 type:=λz x=>x.ty
 there:=λh x=>let ⟨o,e,_⟩:=x;⟨tI e,tI e⟩
 keep:=λh h' x k=>x.keep λo e=>k d (.inl rfl) o e
 notList:=by decide
 notTuple:=by decide
 hint:=λ_ _ _ _ x q=>kdl_hint_dict x.ty q
 iter:=λA z hh x=>⟨_,_,λE Q q=>xp hd x q,kF hh _ (let ⟨o,e,_⟩:=x;tR (tI e)),⟨⟨_,tU _ rfl,rfl,rfl⟩,x.keep λo e=>tz _ e⟩⟩
end
end PySem
namespace L2
open PySem PySem.Spec PySem.W PyProof.Rows
theorem QH {α β:Type} {G:α->β->Prop}:∀{l:List α} {m:List β},Paired G l m->∀{i:Nat} {a:α},l[i]?=some a->∃b,m[i]?=some b/\G a b
 | _,_,.nil,i,a,e=>by simp at e
 | _,_,.cons r t,0,a,e=>by cases e;exact⟨_,rfl,r⟩
 | _,_,.cons r t,i+1,a,e=>by
   obtain⟨b,eb,g⟩:=QH t (by simpa using e)
   exact⟨b,by simpa using eb,g⟩
section
variable {X:Cx}
def zj (k:Int×Int):List qF:=[Sum.inl k.1,Sum.inl k.2]
def Ng:List V->Hp->VK->Prop:=λxs H Q=>∃(a:Addr) (kvs:List (List qF×V)) (ks:List (Int×Int)),xs=[.ref a]/\H a=some (.dT kvs)/\kvs.map (·.1)=ks.map zj/\(∀(i:Nat) (k k':Int×Int),ks[i]?=some k->ks[i+1]?=some k'->Yw k k')/\kvs.length<=1000/\
 ∀(l:Addr) (ps:List Addr),H l=none->ps.length=ks.length->(∀(i:Nat) (p:Addr) (k:Int×Int),ps[i]?=some p->ks[i]?=some k->H p=some (.tup [.int k.1,.int k.2]))->Q (.ref l) (upd H l (.lst (ps.map V.ref)))
theorem WL:∀(ps:List Addr),qE (ps.map V.ref) (ps.map Value.ref)
 | []=>.nil
 | p::ps=>.cons rfl (WL ps)
theorem Ux (hc:X.calm=true):j8 X (.builtin "sorted") Ng:=by
 intro pins s σ H xs us Q I r h
 obtain⟨a,kvs,ks,rfl,ea,eks,hr,hz,q⟩:=h
 obtain⟨u,rfl,ru⟩:=Qm r
 cases ru
 obtain⟨_,hsys,ys,pr,o,es,ep,eo,ex,dat,ents,_⟩:=(show qM X.prog X.w H s.heap a (.dT kvs) from I.hok a _ ea)
 have ly:kvs.length=ys.length:=Paired.length pr
 have lk:kvs.length=ks.length:=by simpa using congrArg zaB eks
 have se:es.size=ys.length:=by rw[<-zaq,ents,tj]
 have key:∀i (hi:i < es.size),es[i].key=.ref ((ys.map (·.2.1)).getD i 0):=λi hi=>by
   have e1:es.toList[i]?=some es[i]:=by simp [hi]
   have hy:i < ys.length:=by omega
   rw[ents,tH,tu hy]at e1
   have e2:=(tO.inj e1).symm
   rw[e2]
   show Value.ref ys[i].2.1=_
   simp [hy]
 have tup:∀(i:Nat) (p:Addr) (k:Int×Int),(ys.map (·.2.1))[i]?=some p->ks[i]?=some k->H p=some (.tup [.int k.1,.int k.2]):=λi p k e1 e2=>by
   rw[tH]at e1
   cases ey:ys[i]? with
   | none=>rw[ey]at e1;cases e1
   | some y=>
     rw[ey]at e1
     have ep':y.2.1=p:=tO.inj e1
     have hi:i < kvs.length:=by
       have:=(tq.mp ey).1
       omega
     obtain⟨y',ey',g1,g2,_⟩:=QH pr (tu hi)
     rw[ey]at ey'
     cases ey'
     have ek:kvs[i].1=zj k:=by
       have h1:(kvs.map (·.1))[i]?=some kvs[i].1:=by rw[tH,tu hi];rfl
       rw[eks,tH,e2]at h1
       exact(tO.inj h1).symm
     rw[ek,ep']at g2
     exact g2
 have hh:X.A.in1.handled=none:=I.ok.hd hc
 refine Calls.call_function_entry kind_sorted plain_sorted entry_sorted (args_sorted1 _) ?_
 unfold Builtin.«sorted»
 refine wpAny_bind (m:=checkCount "sorted" 1 1 _) (wpAny_pure ?_)
 refine wpAny_bind (kdu_collect (Kl (es:=es) (ep:=ep) hsys) hh ⟨o,eo,ex,dat⟩ (by rw[se,sizeLine_eq];omega) λh1 tk acc k1 it=>?_)
 have eacc:acc.toList=(ys.map (·.2.1)).map Value.ref:=by
   refine zcK λi=>?_
   by_cases hi:i < es.size
   . have ha:i < acc.size:=by rw[it.1];exact hi
     have e1:acc[i]?=some acc[i]:=zbT ha
     obtain⟨h',e2⟩:=it.2 i _ e1
     rw[zdk,e1,e2,key i hi,tH]
     have hy:i < (ys.map (·.2.1)).length:=by rw[tj];omega
     rw[tu hy]
     simp [zau,tu hy]
   . rw[zbg (by rw[zaq,it.1];omega),zbg (by rw[tj,tj];omega)]
 rw[eacc]
 generalize hps:ys.map (·.2.1)=ps at eacc tup key
 have lp:ps.length=ks.length:=by rw[<-hps,tj];omega
 refine wpAny_bind (wpAny_newList ?_)
 have I1:qC X pins σ H {s with heap:=h1,toks:=tk}:=I.kept (t':=tk) k1
 show wpAny _ _ _ _ _ {s with heap:=h1.push (seqObj "list" (ps.map Value.ref).toArray 0),toks:=tk}
 have oL:(h1.push (seqObj "list" (ps.map Value.ref).toArray 0)).get? h1.objs.size=some (seqObj "list" (ps.map Value.ref).toArray 0):=tU _ rfl
 have pa:∀(i:Nat) (v:Value) (k:Int×Int),(ps.map Value.ref)[i]?=some v->ks[i]?=some k->Js (h1.push (seqObj "list" (ps.map Value.ref).toArray 0)) v k:=λi v k e1 e2=>by
   rw[tH]at e1
   cases ep1:ps[i]? with
   | none=>rw[ep1]at e1;cases e1
   | some p=>
     rw[ep1]at e1
     obtain rfl:=(tO.inj e1).symm
     obtain⟨its,rv,⟨ob,eb,cb,nb,db⟩,_⟩:=I1.tuple (.of (tup i p k ep1 e2):SqT X.K H p _)
     cases rv with
     | cons r1 rv=>
       cases rv with
       | cons r2 rv=>
         cases rv
         obtain⟨t1,rfl⟩:=r1
         obtain⟨t2,rfl⟩:=r2
         exact⟨p,ob,nb,t1,t2,rfl,tz _ eb,cb,db⟩
 refine wpAny_bind (wpAny_holding (wpAny_call_entry slot_list_sort ⟨_,oL,rfl⟩ entry_list_sort (ko oL (by rw[tj];exact lp) pa hr (by rw[tj];omega) ⟨_,rfl,?_⟩) (args_list_sort _)))
 refine wpAny_pure ⟨_,rfl,?_⟩
 have lne:∀b o,h1.get? b=some o->b≠h1.objs.size:=λb o e=>tR (tI e)
 have kf:∀b o,h1.get? b=some o->(sortedHeap (h1.push (seqObj "list" (ps.map Value.ref).toArray 0)) h1.objs.size (ps.map Value.ref) (ps.map Value.ref).toArray).get? b=some o:=λb o e=>by
   unfold sortedHeap
   rw[zal _ _ (Ne.symm (lne b o e))]
   exact tz _ (tz _ ((zal _ _ (Ne.symm (lne b o e))).trans (tz _ e)))
 obtain⟨c2,o2⟩:∃c,((h1.push (seqObj "list" (ps.map Value.ref).toArray 0)).update h1.objs.size (Obj.mapSeq λ_=>#[])).get? h1.objs.size=some (seqObj "list" #[] c):=⟨_,get?_update_seq oL (λ_=>#[])⟩
 obtain⟨c3,o3⟩:∃c,(sortedHeap (h1.push (seqObj "list" (ps.map Value.ref).toArray 0)) h1.objs.size (ps.map Value.ref) (ps.map Value.ref).toArray).get? h1.objs.size=some (seqObj "list" (ps.map Value.ref).toArray c):=
   ⟨_,get?_update_seq (tz _ (tz _ o2)) (λ_=>(ps.map Value.ref).toArray)⟩
 refine⟨.ref h1.objs.size,_,I1.laid (t':=tk) (o:=.lst (ps.map V.ref)) kf (tw _) ⟨by rw[tj,lp,<-lk];exact zak (qo hz),_,c3,WL ps,o3⟩,rfl,?_⟩
 exact q _ ps (I1.hok.fresh (tw _)) lp tup
end
section
variable {X:Cx}
def qbG:V->Option Int->Option Int->Hp->VK->Prop:=λx lo hi H Q=>∃(z:Str) (j:Int),x=.str z/\lo=none/\hi=some j/\z.length<=1000/\Q (.str (Txt.slice z none (some j))) H
theorem y8:SlR X qbG:=by
 intro pins s σ H x v vl vu lo hi sl Q I rx hs pl pu h
 obtain⟨z,j,rfl,rfl,rfl,hz,q⟩:=h
 obtain⟨t,rfl⟩:=rx
 refine⟨"str",_,PySem.F.slot_str_getitem.lookup,typeIs_str _ _ _,?_⟩
 cases pl
 cases pu
 exact wpAny_getItem_str_slice (l:=none) (u:=some (j,_)) (st:=none) hs rfl (post_val_or_str ⟨tV (Txt.slice_le z none (some j)) (zak (qo hz)),λt' k=>⟨.str _,H,I.tok k,⟨t',rfl⟩,q⟩⟩)
theorem zV (z:Str) (j:Nat):(Txt.slice z none (some (j:Int))).cps.toList=z.cps.toList.take j:=by
 have hl:z.cps.toList.length=z.length:=zaq
 have idx:Builtin.Str.strSliceIndices none (some (j:Int)) 1 z.length=(zae (min j z.length)).map (0+·):=by
   have e:Builtin.Str.strSliceIndices none (some (j:Int)) 1 z.length=sliceRange ((0:Nat):Int) ((min j z.length:Nat):Int) 1:=by
     unfold Builtin.Str.strSliceIndices
     simp only[show (1:Int) > 0 by decide,if_true,show ¬((j:Int) < 0) by omega,if_false]
     congr 1
     omega
   rw[e,sliceRange_one]
   rfl
 unfold Txt.slice
 rw[idx]
 split
 . rename_i h
   have hm:min j z.length=z.length:=by simpa using h
   rw[tF]
   omega
 . rw[pick_run]
   show (z.cps.toList.drop 0).take (min j z.length)=_
   rw[zdp]
   by_cases hj:j<=z.length
   . rw[zcc hj]
   . rw[zcS (by omega),tF (by omega),tF (by omega)]
def GK (n:Nat):List V:=(zae n).map λi=>V.int (i:Nat)
def tLr (te:TE):TE:=λσ H Q=>te σ H λx H1=>∃n:Nat,x=.int n/\n<=1000/\∀l,H1 l=none->Q (.ref l) (upd H1 l (.lst (GK n)))
theorem uy {n:Nat} {acc:Array Value} (h:ItemsOf (λi v=>∃t,v=.int (0+i*1) t) acc n):qE (GK n) acc.toList:=by
 obtain⟨hz,hv⟩:=h
 refine Z1 _ _ (by simp [GK,hz]) λi x u h1 h2=>?_
 have h2':acc[i]?=some u:=by simpa using h2
 obtain⟨t,rfl⟩:=hv i u h2'
 have hi:i < n:=by
   have:=(zaA.mp h2').1
   omega
 unfold GK at h1
 rw[tH,zbz hi]at h1
 obtain rfl:=(tO.inj h1).symm
 refine⟨t,?_⟩
 congr 1
 omega
variable {e:Expr} {te:TE} {p1 p3 pos1 pos3:Pos}
theorem qaC (hc:X.calm=true) (g1:Gl X "list") (m1:X.mg "list"=none) (g3:Gl X "range") (m3:X.mg "range"=none) (ha:JE X e te) (hs:starEach [e] X.env=[(false,eval e X.env)]:=by rfl) (hs2:starEach [.Call (.Name "range" p3) [e] [] pos3] X.env=[(false,eval (.Call (.Name "range" p3) [e] [] pos3) X.env)]:=by rfl):JE X (.Call (.Name "list" p1) [.Call (.Name "range" p3) [e] [] pos3] [] pos1) (tLr te):=.of (by
 have ha:=ha.to
 intro pins s σ H Q I h
 refine Call_ (Qp I g1 m1 boot_list (PyProof.Rows.callWith_type1 (VT hs2 ?_) (by rw[hs2];rfl) rfl))
 refine Call_ (Qp I g3 m3 boot_range (PyProof.Rows.callWith_type1 (VT hs (ji (ha pins s σ H _ I h) λu s1 ⟨x,H1,I1,r1,q1⟩=>?_)) (by rw[hs];rfl) rfl))
 obtain⟨n,rfl,hn,q⟩:=q1
 obtain⟨t,rfl⟩:=r1
 refine call_range_1 ?_
 refine call_list_range (n:=n) (I1.ok.hd hc) (IsRange.new ..) (small_one (by omega) (by omega) (by omega) (by omega)) (vo n) (by omega) λh' tk acc' c' kp e hi=>?_
 have s1z:s1.heap.objs.size<=(s1.heap.push ({cls:=.type "range",data:=.fields #[.int 0 s1.toks,.int n t,.int 1 (s1.toks+1)]}:Obj)).objs.size:=by
   rw[zbe]
   omega
 exact⟨.ref _,_,I1.laid (t':=tk) (o:=.lst (GK n)) (λb o eb=>kp b o (tz _ eb)) s1z ⟨by simp only[GK,tj,zav];exact zak (qo hn),acc'.toList,c',uy hi,by simpa using e⟩,rfl,q _ (I1.hok.fresh s1z)⟩)
theorem yu (hc:X.calm=true):j8 X (.type "set") (λxs H Q=>∃(p:Addr) (ns:List Int),xs=[.ref p]/\SqL X.K H p (ns.map V.int)/\ns.length<=1000/\∀l S,H l=none->Q (.ref l) (upd H l (.set S (firstMet (λi=>ns.getD i 0) ns.length).length))):=by
 intro pins s σ H xs us Q I r h
 obtain⟨p,ns,rfl,hq,hz,q⟩:=h
 obtain⟨u,rfl,ru⟩:=Qm r
 cases ru
 obtain⟨its,rv,pl,_⟩:=I.list hq
 have hl:=rv.length
 rw[tj]at hl
 have hsz:its.toArray.size=ns.length:=by rw[tX,<-hl]
 refine call_set_list (ns:=ns) (I.ok.hd hc) pl.isList (by simpa using Um rv) (by rw[hsz];show ns.length+1 < 4096;omega) λh' tk so kp=>?_
 rw[hsz]at so
 exact⟨.ref s.heap.objs.size,_,I.laid (t':=tk) (o:=.set _ _) (λb o e=>kp b o (tI e) e) (tw _) so,rfl,q _ _ (I.hok.fresh (tw _))⟩
theorem VB:j8 X (.builtin "len") (λxs H Q=>∃a S n,xs=[V.ref a]/\H a=some (.set S n)/\Q (.int (n:Nat)) H):=by
 intro pins s σ H xs us Q I r h
 obtain⟨a,S,n,rfl,ea,q⟩:=h
 obtain⟨u,rfl,ru⟩:=Qm r
 cases ru
 obtain⟨o,es,ep,t,e1,e2,e3,_,_,b,f,rfl⟩:=(show qM X.prog X.w H s.heap a (.set S n) from I.hok a _ ea)
 refine call_len_set e1 e2 e3 f (by have:es.size < 4096:=b;omega) ⟨.int _,H,I.tok _,⟨_,rfl⟩,q⟩
end
open PySem PySem.Spec PyProof.Rows
def Ite (K:PySem.W.Frag) (a:Addr):It:=⟨λi H=>∃xs x,SqL K H a xs/\xs[i]?=some x,
 λi H v H'=>∃p,H p=none/\v=.ref p/\∀xs x,SqL K H a xs->xs[i]?=some x->H'=upd H p (.tup [.int (i:Nat),x]),
 λi H=>∃xs,SqL K H a xs/\xs.length<=i⟩
theorem ka {P:Program} {w:World} {K:PySem.W.Frag} {elts:List Expr} {x1:Nat} {tpos:Pos} (a e it:Addr) (hne:e≠it):
   WE P w K (.Tuple elts x1 tpos) (Ite K a) [e,it] e (λi h=>(∃old,IsEnum h e it i old)/\h.IsListIter it a i) where
 mem:=by simp
 obj:=λi h st c hc=>by
   obtain⟨⟨old,he⟩,⟨o1,e1,c1,d1⟩⟩:=st
   simp only[zaa,zaM,or_false]at hc
   rcases hc with rfl | rfl
   . exact⟨_,he,λv z=>by cases z⟩
   . exact⟨o1,e1,λv z=>by rw[d1]at z;cases z⟩
 keep:=λi h h' st k=>by
   obtain⟨⟨old,he⟩,h1⟩:=st
   exact⟨⟨old,k e (by simp) _ he⟩,h1.at λo e=>k it (by simp) o e⟩
 item:=by
   intro X hP hw hK hc i pins s σ H E I hf st hg
   subst hP hw hK
   obtain⟨⟨old,he⟩,h1⟩:=st
   obtain⟨xs,x,qa,hx⟩:=hg
   obtain⟨its,rv,p,_⟩:=I.list qa
   obtain⟨u,hu,ru⟩:=rv.get hx
   refine wpAny_pyNext_enum_item he h1 p.isList (x:=u) (by simpa using hu) hne λh' z1 z2 z3 z4 kk=>⟨_,rfl,?_⟩
   refine wpAny_letOwnedTupleGo_enum z1 λh'' z1' sb=>?_
   have nT:∀c o,s.heap.get? c=some o->s.heap.objs.size≠c:=λc o e=>zbu (tI e)
   have kT:∀c o,c≠e->h'.get? c=some o->h''.get? c=some o:=λc o hc e=>(sb.2 c hc).trans e
   have I1:qC X pins σ (upd H s.heap.objs.size (.tup [.int (i:Nat),x])) {s with heap:=h'',toks:=s.toks+1}:=I.turnLaid (L:=[e,it]) (t':=s.toks+1)
     (λc o hc e=>kT c o (λz=>hc (by simp [z])) (kk c o (λz=>hc (by simp [z])) (λz=>hc (by simp [z])) e)) hf (tw _)
     ⟨by show 2<=sizeLine;decide,[.int i s.toks,u],.cons ⟨_,rfl⟩ (.cons ru .nil),⟨_,kT _ _ (nT _ _ he) z3,rfl,_,rfl⟩⟩
   refine⟨.ref s.heap.objs.size,_,I1,rfl,⟨s.heap.objs.size,I.hok.fresh (tw _),rfl,λxs' x' qa' hx'=>?_⟩,⟨⟨_,z1'⟩,z2.at λo e=>kT _ o (Ne.symm hne) e⟩,λc hc=>?_⟩
   . rw[I.list_inj qa' qa,hx]at hx'
     cases hx'
     rfl
   . have h0:=(hf c hc).1
     by_cases ec:c=s.heap.objs.size
     . subst ec
       obtain⟨o1,e1,_⟩:=h1
       simp only[zaa,zaM,or_false]at hc
       rcases hc with e | e
       . exact absurd e (nT _ _ he)
       . exact absurd e (nT _ _ e1)
     . rw[qi ec];exact h0
 done:=by
   intro X hP hw hK hc i pins s σ H E I hf st hg
   subst hP hw hK
   obtain⟨⟨old,he⟩,h1⟩:=st
   obtain⟨xs,qa,hl⟩:=hg
   obtain⟨its,rv,p,_⟩:=I.list qa
   have l1:=rv.length
   exact wpAny_pyNext_enum_end (I.ok.hd hc) he h1 p.isList (by simp;omega) λh' kk=>⟨rfl,I.turnedL (L:=[e,it]) (t':=s.toks) (λc o hc e=>kk c o (λz=>hc (by simp [z])) e) hf⟩
 self:=λ_ _ _ _ _ st h=>let ⟨⟨_,he⟩,_⟩:=st;wpAny_pyIter_enum he h
section
variable {X:Cx} {elts:List Expr} {x1:Nat} {tpos:Pos}
def qaI (K:PySem.W.Frag) (ta:TA):TI:=λσ H R=>ta σ H λvs H1=>∃a,vs=[.ref a]/\(∃xs,SqL K H1 a xs)/\R (Ite K a) H1
theorem Wt {a:Expr} {ta:TA} {p pos:Pos} (hg:Gl X "enumerate") (hm:X.mg "enumerate"=none) (ha:JA X [a] ta) (hs:starEach [a] X.env=[(false,eval a X.env)]:=by rfl):JI X (.Tuple elts x1 tpos) (.Call (.Name "enumerate" p) [a] [] pos) (qaI X.K ta):=.of (by
 have ha:=ha.to
 intro pins s σ H R I h
 refine Call_ (Qp I hg hm boot_enumerate (PyProof.Rows.callWith_type1 (ji (ha pos pins s σ H _ I h) λus s1 ⟨vs,H1,I1,r1,q1⟩=>?_) (by rw[hs];rfl) rfl))
 obtain⟨l,e,⟨xs,qa⟩,q⟩:=q1
 subst e
 cases r1 with
 | cons r rr=>
   cases rr
   cases r
   obtain⟨its,rv,p,_⟩:=I1.list qa
   refine call_enumerate_list p.isList λh' z1 z2 z3 kk=>?_
   refine wpAny_pyIter_enum z1 ?_
   have I2:qC X pins σ H1 {s1 with heap:=h'}:=I1.kept (t':=s1.toks) kk
   have fr:∀c,s1.heap.objs.size<=c->JL X pins H1 c:=λc hc=>I1.fpOk hc (I1.hok.fresh hc)
   refine⟨s1.heap.objs.size+1,[s1.heap.objs.size+1,s1.heap.objs.size],_,_,H1,rfl,I2,ka l (s1.heap.objs.size+1) s1.heap.objs.size (Nat.succ_ne_self _),⟨⟨_,z1⟩,z2⟩,λc hc=>?_,q⟩
   simp only[zaa,zaM,or_false]at hc
   rcases hc with e | e<;>rw[e]<;>first | exact fr _ (zcR _ _) | exact fr _ (tw _))
end
theorem YE {K:PySem.W.Frag} {a:Addr} {xs:List V} {g:TG} {tb:TS} {D:Qv} {σ:St} {H:Hp} (Pv:Nat->St->Hp->Prop) (h0:Pv 0 σ H) (hl:∀i σ H,i<=xs.length->Pv i σ H->SqL K H a xs)
   (hs:∀i x σ H p,xs[i]?=some x->H p=none->Pv i σ H->g (.ref p) σ (upd H p (.tup [.int (i:Nat),x])) λσ2 H2=>tb {D with nx:=Pv (i+1),ct:=Pv (i+1),bk:=D.nx} σ2 H2) (hd:∀σ H,Pv xs.length σ H->D.nx σ H):
   ∃W:Nat->Nat->St->Hp->Prop,(∃m,W 0 m σ H)/\∀i m σ H,W i m σ H->
    ((Ite K a).stop i H/\D.nx σ H)\/((Ite K a).go i H/\∃N:St->Hp->Prop,(∀σ' H',N σ' H'->∃m',m' < m/\W (i+1) m' σ' H')/\∀x H',(Ite K a).yld i H x H'->g x σ H' λσ2 H2=>tb {D with nx:=N,ct:=N,bk:=D.nx} σ2 H2):=by
 refine⟨λi m σ H=>m=xs.length - i/\i<=xs.length/\Pv i σ H,⟨xs.length,by simp,zap _,h0⟩,?_⟩
 rintro i m σ H ⟨rfl,hi,p⟩
 have qa:=hl i σ H hi p
 by_cases hlt:i < xs.length
 . have ex:xs[i]?=some xs[i]:=tu hlt
   refine .inr ⟨⟨xs,_,qa,ex⟩,Pv (i+1),λσ' H' p'=>⟨xs.length - (i+1),by omega,rfl,hlt,p'⟩,λx H' yl=>?_⟩
   obtain⟨pp,hp,rfl,e⟩:=yl
   rw[e xs _ qa ex]
   exact hs i _ σ H pp ex hp p
 . have e:i=xs.length:=by omega
   subst e
   exact .inl ⟨⟨xs,qa,tw _⟩,hd σ H p⟩
theorem Jx (ns:List Nat):∀i,i<=ns.length->preSum (λj=>((ns.getD j 0:Nat):Int)) i=(((ns.take i).sum:Nat):Int)
 | 0,_=>by simp [preSum]
 | i+1,h=>by
   have hi:i < ns.length:=h
   show preSum _ i+_=_
   rw[Jx ns i (zak hi),tM,tu hi,zcd]
   simp [zau,tu hi]
theorem zh (ns:List Nat) (i:Nat):(ns.take i).sum<=ns.sum:=by
 have h:(ns.take i++ns.drop i).sum=ns.sum:=by rw[List.take_append_drop]
 rw[zcd]at h
 omega
theorem Vq (ns:List Nat) (i:Nat):ns.getD i 0<=ns.sum:=by
 have h:=zh ns (i+1)
 rw[tM,zcd]at h
 rw[zau]
 cases e:ns[i]? with
 | none=>exact zap _
 | some x=>
   rw[e]at h
   simp at h ⊢
   omega
section
variable {X:Cx}
theorem yr (hc:X.calm=true):j8 X (.builtin "sum") (λxs H Q=>∃(p:Addr) (ns:List Nat),xs=[.ref p]/\SqL X.K H p (ns.map λn=>V.int ((n:Nat):Int))/\ns.sum < 2^62/\Q (.int (ns.sum:Nat)) H):=by
 intro pins s σ H xs us Q I r h
 obtain⟨p,ns,rfl,hq,hs,q⟩:=h
 obtain⟨u,rfl,rx⟩:=Qm r
 cases rx
 obtain⟨its,rv,pl,hz⟩:=I.list hq
 have hlt:p < s.heap.objs.size:=by
   obtain⟨o,n,e,_⟩:=pl
   exact tI e
 have hn:its.toArray.size=ns.length:=by
   have:=rv.length
   rw[tj]at this
   simp only[tX]
   omega
 have hh:X.A.in1.handled=none:=I.ok.hd hc
 refine call_sum_walk (wpAny_pyIter_list pl.isList ?_)
 refine⟨s.heap.objs.size,[s.heap.objs.size,p],[s.heap.objs.size],its.toArray.size,λi v=>its.toArray[i]?=some v,_,λj=>((ns.getD j 0:Nat):Int),rfl,Walks.list hh s.heap.objs.size p (tR hlt) its.toArray,
   ⟨⟨_,tU _ rfl,rfl,rfl⟩,pl.isList.at λo e=>tz _ e⟩,?_,?_,?_,λh' tk t' hk=>?_⟩
 . intro b hb
   show b < (s.heap.push _).objs.size
   rw[zbe]
   simp only[zaa,zaM,or_false]at hb
   rcases hb with e | e
   . rw[e];exact zaT _
   . rw[e];exact zbL hlt
 . intro i v hP
   have hi:its[i]?=some v:=by simpa using hP
   cases e:ns[i]? with
   | none=>
     exfalso
     have h1:(ns.map λn=>V.int ((n:Nat):Int))[i]?=none:=by rw[tH,e];rfl
     rw[qE.none_of rv h1]at hi
     cases hi
   | some b=>
     have h1:(ns.map λn=>V.int ((n:Nat):Int))[i]?=some (V.int b):=by rw[tH,e];rfl
     obtain⟨u,hu,ru⟩:=rv.get h1
     rw[hi]at hu
     cases hu
     obtain⟨t,rfl⟩:=ru
     refine⟨t,?_⟩
     show Value.int b t=.int ((ns.getD i 0:Nat):Int) t
     rw[zau,e]
     rfl
 . intro j hj
   rw[hn]at hj
   have h1:=Vq ns j
   have h2:=zh ns (j+1)
   have h3:=Jx ns (j+1) hj
   refine⟨⟨?_,?_⟩,⟨?_,?_⟩⟩
   . show -(2^63)<=((ns.getD j 0:Nat):Int)
     omega
   . show ((ns.getD j 0:Nat):Int) < 2^63
     omega
   . rw[h3];omega
   . rw[h3];omega
 . rw[hn,Jx ns _ (tw _),tF (tw _)]
   refine⟨.int (ns.sum:Nat),H,?_,⟨_,rfl⟩,q⟩
   exact I.kept (h':=h') (t':=tk) λb o e=>hk b o (by
     intro z
     have z':b=s.heap.objs.size:=by simpa using z
     exact absurd (tI e) (by rw[z'];exact zaw _)) (tz _ e)
end
open PySem PySem.Spec PyProof.Rows
structure yz (fs:List Addr) (ex:List Addr) (h h':Heap):Prop where
 keep:∀b o,b∉fs->b∉ex->h.get? b=some o->h'.get? b=some o
 slot:∀b o,b∈fs->b∉ex->h.get? b=some o->∃sl,h'.get? b=some {o with slots:=sl}
def RE (T:Addr) (fl:Value) (h:Heap):Prop:=∃ts,h.get? T=some {cls:=.type "traceback",data:=.fields ts}/\ts[3]?=some fl
section
variable {M:Model} {A:Around} {E:Value->Shared->Prop} {s:Shared} {base:Heap} {env:Env} {outer:List Env} {L e:Addr} {cl head:Value} {d:Option Addr} {vs:Array Value} {had:Bool} {Q:Unit->Shared->Prop}
theorem yI (fr:A.frames=some (env::outer)) (ff:s.heap.FunFrames base (env::outer)) (fm:env.frame=some L)
   (he:s.heap.get? e=some {cls:=cl,dict:=d,data:=.fields vs}) (sz:1 < vs.size)
   (k:∀h' T,s.heap.objs.size<=T->yz (YD (env::outer)) [e] s.heap h'->h'.get? e=some {cls:=cl,dict:=d,data:=.fields (vs.setIfInBounds 1 (.ref T))}->RE T (rawInt L) h'->Q () {s with heap:=h'}):
   wpAny M A (frameOf env >>= λa=>entryPlaceOf L had >>= λpl=>EntryCells.newEntry head a .none (rawInt L) .none pl >>= λb=>setField (.ref e) 1 b) Q E s:=by
 have out:e∉YD (env::outer):=λz=>by
   obtain⟨_,o,ho,nf⟩:=ff.mem z
   rw[he]at ho
   cases ho
   exact nf vs rfl
 refine wpAny_bind (wpAny_frameOf_fun fr ff fm λh1 so=>?_)
 refine wpAny_bind (wpAny_entryPlaceOf λpl ip=>?_)
 have e1:h1.get? e=some {cls:=cl,dict:=d,data:=.fields vs}:=(so.2.1 e out).trans he
 unfold EntryCells.newEntry newFields
 refine wpAny_bind (wpAny_newObj_type ?_ (ip.sizeOk5 _ _ _ _ _))
 have ne:e≠h1.objs.size:=tR (tI e1)
 refine wpAny_setField (tz _ e1) rfl sz (k _ h1.objs.size (zcZ so.1.symm) ⟨λb o n1 n2 q=>?_,λb o n1 n2 q=>?_⟩ ?_ ⟨_,(zal _ _ ne).trans (tU _ rfl),?_⟩)
 . have n3:b≠e:=λz=>n2 (by simp [z])
   rw[zal _ _ (Ne.symm n3)]
   exact tz _ ((so.2.1 b n1).trans q)
 . have n3:b≠e:=λz=>n2 (by simp [z])
   obtain⟨sl,r⟩:=so.2.2 b o q
   exact⟨sl,by rw[zal _ _ (Ne.symm n3)];exact tz _ r⟩
 . exact zaH _ (tz _ e1) rfl
 . rcases ip with rfl | ⟨_,_,_,_,_,_,_,rfl⟩<;>simp
theorem xZ (fr:A.frames=some (env::outer)) (ff:s.heap.FunFrames base (env::outer)) (fm:env.frame=some L)
   (he:s.heap.get? e=some {cls:=cl,dict:=d,data:=.fields vs}) (h1:vs[1]?=some .none)
   (k:∀h' T,s.heap.objs.size<=T->yz (YD (env::outer)) [e] s.heap h'->h'.get? e=some {cls:=cl,dict:=d,data:=.fields (vs.setIfInBounds 1 (.ref T))}->RE T (rawInt L) h'->Q () {s with heap:=h'}):
   wpAny M A (noteFrame (.ref e) env) Q E s:=by
 unfold noteFrame
 simp only[fm]
 refine wpAny_bind (wpAny_field he rfl h1 ?_)
 rw[if_neg (show ¬((Value.none != Value.none)=true) by decide)]
 exact yI fr ff fm he (zaA.mp h1).1 k
theorem KU {T:Addr} (fr:A.frames=some (env::outer)) (ff:s.heap.FunFrames base (env::outer)) (fm:env.frame=some L)
   (he:s.heap.get? e=some {cls:=cl,dict:=d,data:=.fields vs}) (h1:vs[1]?=some (.ref T)) (st:RE T .none s.heap) (ne:T≠e)
   (k:∀h' T',s.heap.objs.size<=T'->yz (YD (env::outer)) [e,T] s.heap h'->(∃o,h'.get? T=some o)->h'.get? e=some {cls:=cl,dict:=d,data:=.fields (vs.setIfInBounds 1 (.ref T'))}->RE T' (rawInt L) h'->Q () {s with heap:=h'}):
   wpAny M A (noteFrame (.ref e) env) Q E s:=by
 obtain⟨ts,ht,h3⟩:=st
 unfold noteFrame
 simp only[fm]
 refine wpAny_bind (wpAny_field he rfl h1 ?_)
 rw[if_pos (show (Value.ref T != Value.none)=true by simp)]
 refine wpAny_bind (wpAny_field ht rfl h3 ?_)
 rw[if_neg (show ¬((Value.none==rawInt L)=true) by simp [rawInt])]
 refine wpAny_bind (wpAny_setField ht rfl (zaA.mp h3).1 ?_)
 have oth:∀b,b≠T->(s.heap.update T (Obj.mapFields (·.setIfInBounds 3 Value.none))).get? b=s.heap.get? b:=λb n=>zal _ _ (Ne.symm n)
 have tno:T∉YD (env::outer):=λz=>by
   obtain⟨_,o,ho,nf⟩:=ff.mem z
   rw[ht]at ho
   cases ho
   exact nf ts rfl
 refine yI fr (ff.of_keeps λb o hb nf=>⟨o,(oth b λz=>?_).trans hb,rfl⟩) fm ((oth e (Ne.symm ne)).trans he) (zaA.mp h1).1 λh' T' hT F q1 q2=>?_
 . rw[z,ht]at hb
   cases hb
   exact nf ts rfl
 . have upT:=zaH (Obj.mapFields (·.setIfInBounds 3 Value.none)) ht rfl
   refine k h' T' (tV (zcZ (by simp)) hT) ⟨λb o n1 n2 q=>?_,λb o n1 n2 q=>?_⟩ ⟨_,F.keep T _ tno (by simp [ne]) upT⟩ q1 q2
   . simp only[zaa,zbk,or_false,not_or]at n2
     exact F.keep b o n1 (by simp [n2.1]) ((oth b n2.2).trans q)
   . simp only[zaa,zbk,or_false,not_or]at n2
     exact F.slot b o n1 (by simp [n2.1]) ((oth b n2.2).trans q)
theorem Zm {T:Addr} {fl:Value} {fs:List Addr} (he:s.heap.get? e=some {cls:=cl,dict:=d,data:=.fields vs}) (h1:vs[1]?=some (.ref T)) (st:RE T fl s.heap)
   (k:∀h',yz fs [T] s.heap h'->RE T .none h'->Q () {s with heap:=h'}):wpAny M A (setFlight (.ref e) none) Q E s:=by
 obtain⟨ts,ht,h3⟩:=st
 have lt:=(zaA.mp h3).1
 refine wpAny_setFlight_none he rfl h1 ht rfl lt (k _ ⟨λb o _ n q=>?_,λb o _ n q=>⟨o.slots,?_⟩⟩ ⟨_,zaH _ ht rfl,by simp [lt]⟩)
 all_goals
   rw[zal _ _ λz=>n (by simp [z])]
   exact q
end
structure YT (ex:List Addr) (n:Nat) (H H':Hp):Prop where
 ext:∀b∈ex,∃φ,H b=some (.ext φ)
 same:∀b o,b∉ex->H b=some o->H' b=some o
 no:∀b,b < n->H b=none->H' b=none
section
variable {P:Program} {w:World} {fs ex:List Addr} {H H':Hp} {h h':Heap}
theorem YT.out {n:Nat} (t:YT ex n H H') {b:Addr} {o:HO} (q:H b=some o) (hn:∀φ,o≠.ext φ):b∉ex:=λz=>by
 obtain⟨φ,e⟩:=t.ext b z
 rw[q]at e
 cases e
 exact hn φ rfl
theorem YT.out0 {n:Nat} (t:YT ex n H H') {b:Addr} (q:H b=none):b∉ex:=λz=>by
 obtain⟨φ,e⟩:=t.ext b z
 rw[q]at e
 cases e
theorem Un.fly (F:yz fs ex h h') (t:YT ex h.objs.size H H') (th:∀b∈ex,∃o,h'.get? b=some o):Un fs [] H H' h h' where
 keep b o q n hf _:=F.keep b o hf (t.out0 n) q
 slot b o q n hf _:=F.slot b o hf (t.out0 n) q
 free b o q n _:=t.no b (tI q) n
 there b o q _:=by
   by_cases hb:b∈ex
   . exact th b hb
   . by_cases hf:b∈fs
     . obtain⟨sl,r⟩:=F.slot b o hf hb q
       exact⟨_,r⟩
     . exact⟨o,F.keep b o hf hb q⟩
 tups b xs q:=t.same b _ (t.out q (by intro φ z;cases z)) q
 frzs b o u q:=t.same b _ (t.out q (by intro φ z;cases z)) q
 tbls b ps q:=⟨#[],by simpa using t.same b _ (t.out q (by intro φ z;cases z)) q⟩
theorem Je.fly (ok:Je P w H h) (F:yz fs ex h h') (t:YT ex h.objs.size H H') (fr:∀b∈fs,H b=none) (new:∀b o,H' b=some o->(H b=none\/b∈ex)->qM P w H' h' b o):Je P w H' h':=λb o q=>by
 by_cases hb:b∈ex
 . exact new b o q (.inr hb)
 cases e:H b with
 | none=>exact new b o q (.inl e)
 | some u=>
   have r:=t.same b u hb e
   rw[q]at r
   cases r
   refine(ok b o e).stay (λc v hc g=>F.keep c v ?_ ?_ g) (λc z=>t.same c _ (t.out z (by intro φ z;cases z)) z) λc xs z=>t.same c _ (t.out z (by intro φ z;cases z)) z
   . intro z
     have n:=fr c z
     rcases hc with rfl | hc
     . rw[e]at n;cases n
     . rw[hc]at n;cases n
   . rcases hc with rfl | hc
     . exact hb
     . exact t.out hc (by intro φ z;cases z)
end
open PySem PySem.Spec PyProof.Rows
def GU (T:Addr) (fl:Value):HO:=.ext (RE T fl)
theorem VS {P:Program} {w:World} {H:Hp} {h:Heap} {T:Addr} {fl:Value} (x:RE T fl h):qM P w H h T (GU T fl):=by
 obtain⟨ts,q,z⟩:=x
 exact⟨⟨ts,q,z⟩,⟨_,q⟩,λh1 h2 ⟨ts',q',z'⟩ k=>⟨ts',k _ q',z'⟩⟩
def um (P:Program) (w:World):WH:=λouter H s E e s'=>∃a C dx T Hx H',e=.ref a/\s'.os=s.os/\AllBare s'.gens/\Un (YD outer) [] H H' s.heap s'.heap/\Je P w H' s'.heap/\
 H' a=some (Jp a C dx (.ref T))/\H' T=some (GU T .none)/\Hx T=none/\Hx a=some (J1 a C dx)/\(∀b o,b≠a->Hx b=some o->H' b=some o)/\E (.ref C) (some dx) Hx
def ui (X:Cx) (E:XK):Prop:=∀(pins:List (Addr×Obj)) (σ:St) (H:Hp) (s:Shared) (a C dx:Addr),qC X pins σ H s->H a=some (J1 a C dx)->E (.ref C) (some dx) H->X.xe (.ref a) s
section
variable {X:Cx} {pins:List (Addr×Obj)} {σ:St} {H H':Hp} {s:Shared} {h':Heap} {ex:List Addr}
theorem qC.flown (I:qC X pins σ H s) (F:yz (YD X.stack) ex s.heap h') (t:YT ex s.heap.objs.size H H') (th:∀b∈ex,∃o,h'.get? b=some o)
   (new:∀b o,H' b=some o->(H b=none\/b∈ex)->qM X.prog X.w H' h' b o):qC X pins σ H' {s with heap:=h'}:=
 I.call (g':=s.gens) (t':=s.toks) (d':=s.drawn) (ch:=[]) (Un.fly F t th) (Je.fly I.hok F t I.stkFree new) I.bare λb z=>absurd z (by simp)
theorem yz.then {fs ex:List Addr} {h h1 h2:Heap} {T:Addr} (F:yz fs ex h h1) (G:yz fs [T] h1 h2) (hT:h.objs.size<=T):yz fs ex h h2 where
 keep b o n1 n2 q:=G.keep b o n1 (by simp;exact tR (tN (tI q) hT)) (F.keep b o n1 n2 q)
 slot b o n1 n2 q:=by
   obtain⟨sl,r⟩:=F.slot b o n1 n2 q
   obtain⟨sl',r'⟩:=G.slot b _ n1 (by simp;exact tR (tN (tI q) hT)) r
   exact⟨sl',r'⟩
end
section
variable {P:Program} {w:World} {K:PySem.W.Frag} {mg:Str->Option Value} {base:Heap} {N:List Str} {qual:Str} {scope:Scope} {f:Addr} {cd:Value} {A:Around} {outer:List Env} {s₀:Shared} {H₀:Hp} {E:XK}
theorem kG:ui (YK (um P w) P w K mg base N qual scope f cd A outer s₀ H₀ E) E:=by
 intro pins σ H s a C dx I ha hE
 obtain⟨⟨fl,he,hz⟩,_,_⟩:=(show qM P w H s.heap a (Jp a C dx .none) from I.hok a _ ha)
 have fr:=I.ok.frames
 have ff:=I.stack
 show wpAny _ _ (leaving _ _) _ _ s
 unfold leaving
 refine wpAny_bind (xZ fr ff rfl he hz λh1 T hT F q1 q2=>?_)
 have lt:=(zaA.mp hz).1
 have g1:(fl.setIfInBounds 1 (Value.ref T))[1]?=some (.ref T):=by simp [lt]
 have nT:T≠a:=λz=>by
   obtain⟨ts,q,_⟩:=q2
   rw[z,q1]at q
   cases q
 refine Zm (fs:=YD (YK (um P w) P w K mg base N qual scope f cd A outer s₀ H₀ E).stack) q1 g1 q2 λh2 F2 st=>?_
 have anf:a∉YD (YK (um P w) P w K mg base N qual scope f cd A outer s₀ H₀ E).stack:=λz=>by
   have:=I.stkFree a z
   rw[ha]at this
   cases this
 have hTn:H T=none:=I.hok.fresh hT
 have q3:=F2.keep a _ anf (by simp [Ne.symm nT]) q1
 have I2:=I.flown (H':=upd (upd H a (Jp a C dx (.ref T))) T (GU T .none)) (yz.then F F2 hT) ⟨λb hb=>by cases zac.mp hb;exact⟨_,ha⟩,λb o hb q=>by
     rw[qi (qz q hTn),qi λz=>hb (by simp [z])];exact q,λb hb q=>by
     rw[qi (tR (tN hb hT)),qi λz=>by rw[z,ha]at q;cases q];exact q⟩ (λb hb=>by cases zac.mp hb;exact⟨_,q3⟩) λb o q hb=>by
   by_cases e1:b=T
   . subst e1
     rw[qe]at q
     cases q
     exact VS st
   . rw[qi e1]at q
     by_cases e2:b=a
     . subst e2
       rw[qe]at q
       cases q
       exact WB ⟨_,q3,g1⟩
     . rw[qi e2]at q
       rcases hb with hb | hb
       . rw[q]at hb;cases hb
       . exact absurd (zac.mp hb) e2
 exact⟨a,C,dx,T,H,_,rfl,I2.os,I2.bare,I2.base,I2.hok,by rw[qi (Ne.symm nT),qe],qe ..,hTn,ha,λb o nb q=>by rw[qi (qz q hTn),qi nb];exact q,hE⟩
end
open PySem PySem.Spec PyProof.Rows
section
variable {M:Model} {A:Around} {E:Value->Shared->Prop} {s:Shared} {env:Env} {C:Addr}
theorem kH {oC:Obj} {x:Sem Value} {Q:Flow->Shared->Prop} (hh:A.handled=none) (hcl:oC.cls=.type "type")
   (hs:∀(h:Heap) (g d t os) (Q:Bool->Shared->Prop),h.get? C=some oC->Q true ⟨h,g,d,t,os⟩->wpAny M A (isSubtype (.ref C) (.type "BaseException")) Q E ⟨h,g,d,t,os⟩)
   (h:wpAny M A x (λv s₁=>∃e dx fl,v=.ref e/\s₁.heap.get? C=some oC/\s₁.heap.get? e=some {cls:=.ref C,dict:=some dx,data:=.fields fl}/\fl[1]?=some Value.none/\E (.ref e) s₁) E s):
   wpAny M A (raiseStmt env (some x) none) Q E s:=by
 unfold raiseStmt
 refine wpAny_bind (ji h λv s₁ h₁=>?_)
 obtain⟨e,dx,fl,rfl,hC,he,hz,hE⟩:=h₁
 obtain⟨hp,g,d,tk,os⟩:=s₁
 repeat (first | with_reducible refine wpAny_loadPart_at he ?_ | with_reducible refine wpAny_loadPart_at hC ?_ | with_reducible refine hs _ _ _ _ _ _ hC ?_ | wp_step)
 rw[hz]
 refine wpAny_pure ?_
 rw[if_neg (show ¬((Value.none != Value.none)=true) by decide)]
 exact wpAny_pure (wpAny_raiseNew_none hh hE)
end
def yx (K:PySem.W.Frag) (C:Addr):Prop:=∃f bm,EMk K C f bm/\bm.contains (.type "BaseException")=true
def R6 (K:PySem.W.Frag) (E:XK) (te:TE):TS:=λD σ H=>te σ H λv H1=>∃a C dx,v=.ref a/\H1 a=some (J1 a C dx)/\yx K C/\E (.ref C) (some dx) H1
section
variable {X:Cx} {E:XK} {e:Expr} {te:TE} {pos:Pos}
theorem wp (hc:X.calm=true) (hx:ui X E) (he:JE X e te):JS X (.Raise (some e) none pos) (R6 X.K E te):=.of (by
 have he:=he.to
 intro pins s σ H D I h
 have key:∀x:Sem Value,wpAny (model X.prog X.w) X.A x (λu s1=>∃v H1,qC X pins σ H1 s1/\qL v u/\∃a C dx,v=.ref a/\H1 a=some (J1 a C dx)/\yx X.K C/\E (.ref C) (some dx) H1) X.xe s->
     wpAny (model X.prog X.w) X.A (raiseStmt X.env (some x) none) (SP X pins D) X.xe s:=λx hw=>by
   unfold raiseStmt
   refine wpAny_bind (ji hw λu s1 ⟨v,H1,I1,rv,a,C,dx,ev,ha,⟨f,bm,em,hb⟩,hE⟩=>?_)
   subst ev
   obtain rfl:u=Value.ref a:=rv
   obtain⟨nm,q,N,bs,hdct,sn,sub,ab,col,dd,k0,k1,k2,k3,k5,hC⟩:=em.obj
   obtain⟨⟨fl,ho,hz⟩,_,_⟩:=(show qM X.prog X.w H1 s1.heap a (Jp a C dx .none) from I1.hok a _ ha)
   have hC':=I1.kIn _ _ hC
   have r:=kH (M:=model X.prog X.w) (A:=X.A) (E:=X.xe) (s:=s1) (env:=X.env) (C:=C) (x:=pure (.ref a)) (Q:=SP X pins D) (I1.ok.hd hc) rfl (λh g d t os Q z k=>wpAny_isSubtype_exc z (by
     rw[show (Value.ref C::bm).contains (.type "BaseException")=true by rw[zcC,hb,Bool.or_true]];exact k)) (wpAny_pure ⟨a,dx,fl,rfl,hC',ho,hz,hx pins σ H1 s1 a C dx I1 ha hE⟩)
   exact r
 rw[arm_exec_Raise]
 exact wpAny_bind (wpAny_standAt (key _ (wpAny_bind (ji (he pins s σ H _ I h) λu s1 q=>wpAny_bind (wpAny_standAt (wpAny_pure q)))))))
end
open PySem PySem.Spec PyProof.Rows
section
variable {M:Model} {A:Around} {E:Value->Shared->Prop}
theorem yo {h:Heap} {g:Array GenState} {d:Drawn} {t:Nat} {os:OsState} {e C D:Addr} {oe oC:Obj} {ddc:Option Addr} {sld:Array (Option Value)} {cdd} {bC bD:List Value} {Q:Bool->Shared->Prop}
   (he:h.get? e=some oe) (hcls:oe.cls=.ref C) (hC:h.get? C=some oC) (hD:h.get? D=some ⟨.type "type",ddc,.cls cdd,sld⟩)
   (sC:∀(T:Value) (Q:Bool->Shared->Prop),Q (bC.contains T) ⟨h,g,d,t,os⟩->wpAny M A (isSubtype (.ref C) T) Q E ⟨h,g,d,t,os⟩)
   (sD:∀(T:Value) (Q:Bool->Shared->Prop),Q (bD.contains T) ⟨h,g,d,t,os⟩->wpAny M A (isSubtype (.ref D) T) Q E ⟨h,g,d,t,os⟩)
   (hB:bD.contains (.type "BaseException")=true)
   (hq:Q (bC.contains (.ref D)) ⟨h,g,d,t,os⟩):wpAny M A (excMatches (.ref e) (.ref D)) Q E ⟨h,g,d,t,os⟩:=by
 have f:=tc_notTuple
 unfold excMatches
 repeat (first | (with_reducible refine wpAny_loadPart_at he ?_;rw[hcls]) | with_reducible refine wpAny_loadPart_at hD ?_ | (with_reducible refine sC _ _ ?_) | (with_reducible refine sD _ _ ?_;rw[hB]) | wp_step)
 cases hb:bC.contains (.ref D)<;>(rw[hb]at hq;wp_walk;exact hq)
end
open PySem PySem.Spec PyProof.Rows
def ZP (CX:WH) (X:Cx) (E:St->XK):Prop:=∀(pins:List (Addr×Obj)) (σ:St) (H:Hp) (s:Shared) (e:Value) (s':Shared),qC X pins σ H s->CX X.stack H s (E σ) e s'->X.xe e s'
def yQ (sp:Sp) (dvs:List V) (E:St->XK) (t:TA):TE:=λσ H Q=>t σ H λvs H1=>sp (vs++dvs) H1 Q (E σ)
section
variable {X:Cx} {CX:WH} {k:Nat} {f C:Addr} {fd:FuncData} {ps:List Str} {sp:Sp} {dvs:List V} {ds:List Value} {E:St->XK} {x m:Str} {p pos apos:Pos} {e o:Expr} {es:List Expr} {ta:TE} {t:TA}
theorem Kg {pins:List (Addr×Obj)} {σ:St} {H:Hp} {s:Shared} {Q:VK} {us:List Value} {vs:List V} (F:qp X.prog X.w X.K X.mg X.base CX k f fd ps sp) (hr:qN k X.A) (hb:jH X.K fd ps ds) (hd:qE dvs ds) (hx:ZP CX X E)
   (I:qC X pins σ H s) (r:qE vs us) (h:sp (vs++dvs) H Q (E σ)):wpAny (model X.prog X.w) X.A (call (.ref f) us) (EP X pins σ Q) X.xe s:=by
 have rr:qE (vs++dvs) (us++ds):=r.append hd
 have ll:(us++ds).length=ps.length:=rr.length.symm.trans (F.len _ _ _ _ h)
 have run:=F.run X.A X.stack s H ⟨us,[]⟩ (us++ds) (vs++dvs) Q (E σ) hr I.env0 (hb s us I.kIn ll) rr h
 refine wpAny_call (codeAny_mono run λz s' q=>?_)
 match z,q with
 | .error y,q=>exact hx pins σ H s y s' I q
 | .ok (.ret u),q=>exact I.after q
theorem xE (F:qp X.prog X.w X.K X.mg X.base CX k f fd ps sp) (hr:qN k X.A) (hg:Gl X x) (hm:X.mg x=some (.ref f)) (hk:zaD X.K (.ref f)=true) (hb:jH X.K fd ps ds) (hd:qE dvs ds) (hx:ZP CX X E)
   (ha:PA X (e::es) t) (hdb:(x==("__debug__":Str))=false:=by decide) (he:starEach (e::es) X.env=(false,eval e X.env)::starEach es X.env:=by rfl) (hpl:(backTo pos (starEach es X.env)).any (·.1)=false:=by rfl):
   PE X (.Call (.Name x p) (e::es) [] pos) (yQ sp dvs E t):=by
 intro pins s σ H Q I h
 refine wpAny_Call_Name_kw (ZD I hg hm (zbh (h₀:=X.base) I.ok.mod.kin hk (ji (ha pos pins s σ H _ I h) λus s1 ⟨vs,H1,I1,r,q⟩=>⟨I1.kIn,Kg F hr hb hd hx I1 r q⟩) he hpl) hdb)
end
open PySem PySem.Spec PyProof.Rows
section
variable {X:Cx} {pins:List (Addr×Obj)} {σ:St} {H:Hp} {s:Shared} {a b:Addr} {kvs more:List (qF×V)} {A:Around} {E:Value->Shared->Prop}
end
section
variable {X:Cx} {o e:Expr} {apos cpos:Pos} {td ty:TE}
end
theorem KZ {us:List Value} (h:us.length=0):us=[]:=zad h
theorem KY {us:List Value} {n:Nat} (h:us.length=n+1):∃a r,us=a::r/\r.length=n:=by
 cases us with
 | nil=>cases h
 | cons a r=>exact⟨a,r,rfl,zcA.inj h⟩
theorem Qh {us:List Value} (h:us.length=1):∃a,us=[a]:=by
 obtain⟨a,r,rfl,h'⟩:=KY h
 exact⟨a,by rw[KZ h']⟩
theorem Qg {us:List Value} (h:us.length=2):∃a b,us=[a,b]:=by
 obtain⟨a,r,rfl,h'⟩:=KY h
 obtain⟨b,rfl⟩:=Qh h'
 exact⟨a,b,rfl⟩
theorem Vh {us:List Value} (h:us.length=3):∃a b c,us=[a,b,c]:=by
 obtain⟨a,r,rfl,h'⟩:=KY h
 obtain⟨b,c,rfl⟩:=Qg h'
 exact⟨a,b,c,rfl⟩
theorem NJ {us:List Value} (h:us.length=4):∃a b c d,us=[a,b,c,d]:=by
 obtain⟨a,r,rfl,h'⟩:=KY h
 obtain⟨b,c,d,rfl⟩:=Vh h'
 exact⟨a,b,c,d,rfl⟩
open PySem PySem.Spec PyProof.Rows
abbrev Cx.suite (X:Cx) (a:Value) (E:Value->Shared->Prop):Cx:={X with A:=X.A.mark (some a),calm:=false,xe:=E}
abbrev Cx.tried (X:Cx) (pn:List (Addr×Obj)) (E:Value->Shared->Prop):Cx:={X with xe:=E,pn:=pn}
section
variable {X:Cx} {pins:List (Addr×Obj)} {σ:St} {H:Hp} {s:Shared} {E:Value->Shared->Prop} {a:Value}
theorem Cx.Ok.suite (o:X.Ok) (a:Value) (E:Value->Shared->Prop):(X.suite a E).Ok:=⟨o.mod,o.kind,o.glob,o.blt,o.above,o.inj,o.has,o.cab,λz=>Bool.noConfusion z,o.frames,o.stk,o.exf,o.bs,o.bsz,o.noex,o.exfs,o.funs,o.frf⟩
theorem Cx.Ok.tried (o:X.Ok) (pn:List (Addr×Obj)) (E:Value->Shared->Prop):(X.tried pn E).Ok:=⟨o.mod,o.kind,o.glob,o.blt,o.above,o.inj,o.has,o.cab,o.hd,o.frames,o.stk,o.exf,o.bs,o.bsz,o.noex,o.exfs,o.funs,o.frf⟩
theorem qC.suite (I:qC X pins σ H s) (a:Value) (E:Value->Shared->Prop):qC (X.suite a E) pins σ H s:=⟨I.ok.suite a E,I.os,I.bare,I.base,I.loc,I.cell,I.free,I.freeC,I.pin,I.hok,I.len⟩
theorem qC.unsuite {σ0:St} {H0:Hp} {s0:Shared} (I0:qC X pins σ0 H0 s0) (I:qC (X.suite a E) pins σ H s):qC X pins σ H s:=⟨I0.ok,I.os,I.bare,I.base,I.loc,I.cell,I.free,I.freeC,I.pin,I.hok,I.len⟩
theorem qC.tried (I:qC X pins σ H s) (E:Value->Shared->Prop):qC (X.tried (X.pn++pins) E) [] σ H s:=⟨I.ok.tried _ E,I.os,I.bare,I.base,I.loc,I.cell,I.free,I.freeC,λp hp=>I.pin p (by simpa using hp),I.hok,I.len⟩
theorem qC.untried {pins':List (Addr×Obj)} {σ0:St} {H0:Hp} {s0:Shared} (I0:qC X pins σ0 H0 s0) (I:qC (X.tried (X.pn++pins) E) pins' σ H s):qC X pins σ H s:=⟨I0.ok,I.os,I.bare,I.base,I.loc,I.cell,I.free,I.freeC,λp hp=>I.pin p (zaR _ hp),I.hok,I.len⟩
theorem zP {M:Model} {A:Around} {F:Value->Shared->Prop} {i:Nat} {x:Str} {pos:Pos} {Q:Unit->Shared->Prop} (I:qC X pins σ H s) (hN:X.N.Nodup) (hi:X.N[i]?=some x) (hk:X.env.scope.names.lookup x=some .local)
   (h:∀s',qC X pins (σ.set i none) H s'->Q () s'):wpAny M A (do bindName X.env x .none;unbindBehindTheSuite X.env x pos) Q F s:=by
 obtain⟨m,hn,hl⟩:=id I.loc
 have hcls:(X.env.scope.kind==.class || (X.env.scope.kind==.module&&X.env.locals != X.env.globals))=false:=by rw[I.ok.kind];rfl
 have hiσ:i < σ.length:=by rw[I.len];exact(tq.mp hi).1
 have cne:=I.cne
 have tracked:∀{a:Addr} {h':Heap},(∃o,s.heap.get? a=some o/\H a=none)->Heap.SameBut a s.heap h'->Je X.prog X.w H h':=λ{a h'} ha hs b ob e=>by
   obtain⟨_,_,hfree⟩:=ha
   refine(I.hok b ob e).stay (λc w' hc q=>(hs.2 c ?_).trans q) (λ_ q=>q) λ_ _ q=>q
   rintro rfl
   rcases hc with rfl | hc
   . rw[hfree]at e;cases e
   . rw[hfree]at hc;cases hc
 refine wpAny_nameGoes_keeps hk hn hcls λh' v0 hn' hs=>?_
 obtain⟨oL,_,_,hoL,_⟩:=id hn
 refine h _ ⟨I.ok,I.os,I.bare,⟨λb o e n hb hx=>?_,λb o e n hb hx=>?_,I.base.free,λb o e hx=>?_,I.base.tups,I.base.frzs,I.base.tbls⟩,⟨_,hn',λj y v' e1 e2 e3=>?_⟩,λy c e=>?_,I.free,I.freeC,λp hp=>?_,tracked ⟨oL,hoL,I.free⟩ hs,by simpa using I.len⟩
 . exact(hs.2 b (tR (tN (tI e) I.ok.above))).trans (I.base.keep b o e n hb hx)
 . obtain⟨sl,e1⟩:=I.base.slot b o e n hb hx
   exact⟨sl,(hs.2 b (tR (tN (tI e) I.ok.above))).trans e1⟩
 . obtain⟨o',e1⟩:=I.base.there b o e hx
   exact⟨o',(hs.2 b (tR (tN (tI e) I.ok.above))).trans e1⟩
 . by_cases hj:j=i
   . subst hj
     rw[zce hiσ]at e2
     cases e2
   . rw[zcm (Ne.symm hj)]at e2
     obtain⟨u',r',q⟩:=hl j y v' e1 e2 e3
     refine⟨u',r',?_⟩
     rcases q with ⟨k,e⟩ | ⟨k,c,e,z⟩
     . refine .inl ⟨k,?_⟩
       have:y≠x:=λe=>hj (Yt hN e1 (e▸hi))
       simp [this,e]
     . exact .inr ⟨k,c,e,z.sameBut hs (cne y c e)⟩
 . obtain⟨w',z⟩:=I.cell y c e
   exact⟨w',z.sameBut hs (cne y c e)⟩
 . obtain⟨e,n,ne,nf,d⟩:=I.pin p hp
   exact⟨(hs.2 p.1 ne).trans e,n,ne,nf,d⟩
end
abbrev TH:=Addr->Addr->Addr->TS
def PH (X:Cx) (hs:List ExceptHandler) (t:TH):Prop:=
 ∀(pins:List (Addr×Obj)) (s:Shared) (σ:St) (H:Hp) (D:Qv) (a C dx T:Addr),qC X pins σ H s->H a=some (Jp a C dx (.ref T))->H T=some (GU T .none)->t C a dx D σ H->
   wpAny (model X.prog X.w) X.A (handleBy (.ref a) X.env hs) (SP X pins D) X.xe s
def wK:TH:=λ_ _ _ _ _ _=>False
theorem kU {X:Cx} {hs:List ExceptHandler}:PH X hs wK:=λ_ _ _ _ _ _ _ _ _ _ _ _ h=>h.elim
def Qv.gone (D:Qv) (j:Nat):Qv:={nx:=λσ H=>D.nx (σ.set j none) H,rt:=D.rt,bk:=λσ H=>D.bk (σ.set j none) H,ct:=λσ H=>D.ct (σ.set j none) H}
def UT (K:PySem.W.Frag) (Cl:Addr) (j:Nat) (ts:TS) (tr:TH):TH:=λC a dx D σ H=>∃f bm,EMk K C f bm/\
 if (Value.ref C::bm).contains (.ref Cl)=true then ts (D.gone j) (σ.set j (some (.ref a))) H else tr C a dx D σ H
def Mq (K:PySem.W.Frag) (C:Addr):Prop:=∃bm,(∃nm q N bs hdct sn sub ab col dd k0 k1 k2 k3 k5,K.lookup C=some (excClassObj nm q C N bs bm hdct sn sub ab col dd k0 k1 k2 k3 k5 "ValueError.__new__"))/\bm.contains (.type "BaseException")=true
theorem yx.c {K:PySem.W.Frag} {C:Addr} (h:yx K C):Mq K C:=let ⟨_,bm,a,b⟩:=h;⟨bm,a.obj,b⟩
theorem Uu {X:Cx} {x n:Str} {p pos:Pos} {j:Nat} {b₀:Stmt} {suite:List Stmt} {rest:List ExceptHandler} {ts:TS} {tr:TH} {Cl:Addr} (hg:Gl X x) (hm:X.mg x=some (.ref Cl)) (hD:Mq X.K Cl) (hN:X.N.Nodup) (hj:X.N[j]?=some n)
   (hl:X.env.scope.names.lookup n=some .local) (hs:∀v E,uu (X.suite v E) (b₀::suite) ts) (hr:PH X rest tr) (hdb:(x==("__debug__":Str))=false:=by decide):PH X (.ExceptHandler (some (.Name x p)) (some n) (b₀::suite) pos::rest) (UT X.K Cl j ts tr):=by
 intro pins s σ H D a C dx T I ha hT h
 obtain⟨f,bm,em,h⟩:=h
 obtain⟨bm',em',hB⟩:=hD
 refine wpAny_handleBy_cons (codeAny_handlers_test ?_) (by intro q;cases q)
 refine wpAny_mono (vy (X:=X.suite (.ref a) _) (v:=.ref Cl) hg hm rfl hdb pins s σ H (λv H'=>v=.ref Cl/\H'=H) (I.suite _ _) ⟨rfl,rfl⟩) (λc s₁ q=>?_) (λ_ _ z=>z)
 obtain⟨v,H',I1,rv,rfl,rfl⟩:=q
 obtain rfl:c=Value.ref Cl:=rv
 have I2:qC X pins σ H' s₁:=I.unsuite I1
 obtain⟨nm,q,N,bs,hdct,sn,sub,ab,col,dd,k0,k1,k2,k3,k5,hC⟩:=em.obj
 obtain⟨nm',q',N',bs',hdct',sn',sub',ab',col',dd',k0',k1',k2',k3',k5',hC'⟩:=em'
 obtain⟨⟨fl,he,hz⟩,_,_⟩:=(show qM X.prog X.w H' s₁.heap a (Jp a C dx (.ref T)) from I2.hok a _ ha)
 obtain⟨st,_,_⟩:=(show qM X.prog X.w H' s₁.heap T (GU T .none) from I2.hok T _ hT)
 have gC:=I2.kIn _ _ hC
 have gD:=I2.kIn _ _ hC'
 obtain⟨hp,g,d,tk,os⟩:=s₁
 refine yo (bC:=Value.ref C::bm) (bD:=Value.ref Cl::bm') he rfl gC gD (λT Q k=>wpAny_isSubtype_exc gC k) (λT Q k=>wpAny_isSubtype_exc gD k) (by rw[zcC,hB,Bool.or_true]) ?_
 cases hb:(Value.ref C::bm).contains (.ref Cl) with
 | false=>
   rw[hb,if_neg tK]at h
   exact hr pins _ σ H' D a C dx T I2 ha hT h
 | true=>
   rw[hb,if_pos rfl]at h
   refine(show codeAny _ _ _ _ _ from codeAny_handlers_suite_as ?_)
   refine Zm (fs:=YD X.stack) he hz st λh' F st'=>?_
   have I3:qC X pins σ H' {heap:=h',gens:=g,drawn:=d,toks:=tk,os:=os}:=I2.flown (H':=H') F ⟨λb hb'=>by cases zac.mp hb';exact⟨_,hT⟩,λb o _ z=>z,λb _ z=>z⟩ (λb hb'=>by cases zac.mp hb';obtain⟨ts',z,_⟩:=st';exact⟨_,z⟩) λb o z hb'=>by
     rcases hb' with hb' | hb'
     . rw[z]at hb';cases hb'
     . cases zac.mp hb'
       rw[hT]at z
       cases z
       exact VS st'
   refine Zt I3 hN hj (.inl hl) (v:=.ref a) rfl (λs' I4=>?_) (.inr hl)
   refine wpAny_mono (hs (.ref a) _ pins s' _ H' (D.gone j) (I4.suite _ _) h) (λfl s3 q=>?_) (λ_ _ z=>z)
   cases fl with
   | next=>
     obtain⟨σ3,H3,I5,q⟩:=q
     exact zP (I.unsuite I5) hN hj hl λs4 I6=>⟨_,_,I6,q⟩
   | brk=>
     obtain⟨σ3,H3,I5,q⟩:=q
     exact zP (I.unsuite I5) hN hj hl λs4 I6=>⟨_,_,I6,q⟩
   | cont=>
     obtain⟨σ3,H3,I5,q⟩:=q
     exact zP (I.unsuite I5) hN hj hl λs4 I6=>⟨_,_,I6,q⟩
   | ret u=>
     obtain⟨v,σ3,H3,I5,r,q⟩:=q
     exact zP (I.unsuite I5) hN hj hl λs4 I6=>⟨v,_,_,I6,r,q⟩
def MZ (tb:(St->XK)->TS) (th:TH):TS:=λD σ H=>∃R:Addr->Addr->Hp->Prop,tb (λσ' c d Hx=>σ'=σ/\∃C dx,c=.ref C/\d=some dx/\R C dx Hx) D σ H/\
 ∀(a C dx T:Addr) (Hx H':Hp),R C dx Hx->Hx a=some (J1 a C dx)->(∀b o,b≠a->Hx b=some o->H' b=some o)->H' a=some (Jp a C dx (.ref T))->th C a dx D σ H'
theorem uA {X:Cx} {body:List Stmt} {h0:ExceptHandler} {hs:List ExceptHandler} {tb:(St->XK)->TS} {th:TH} {pos:Pos} (hst:X.stack=X.env::X.outer) (hfm:X.env.frame=some X.env.locals)
   (hb:∀(pn:List (Addr×Obj)) (W:Value->Shared->Prop) (E:St->XK),ZP (um X.prog X.w) (X.tried pn W) E->uu (X.tried pn W) body (tb E)) (hh:PH X (h0::hs) th):PS X (.Try body (h0::hs) [] [] pos) (MZ tb th):=by
 intro pins s σ H D I h
 obtain⟨R,hbd,hx⟩:=h
 refine wpAny_Try_except ?_
 refine wpAny_mono (hb (X.pn++pins) (λe s₁=>wpAny (model X.prog X.w) X.A (noteFrame e X.env) (λ_ s₂=>wpAny (model X.prog X.w) X.A (setFlight e none) (λ_ s₃=>wpAny (model X.prog X.w) X.A (handleBy e X.env (h0::hs)) (SP X pins D) X.xe s₃) X.xe s₂) X.xe s₁) _ ?_ [] s σ H D (I.tried _) hbd) (λf s1 q=>?_) (λ_ _ z=>z)
 . intro pins' σ' H1 s1 e s' I1 hc
   obtain⟨a,C,dx,T,Hx,H2,rfl,os,bare,un,hok,ha,ht,hxT,hxa,hxs,rfl,C',dx',eC,eD,hR⟩:=hc
   cases eC
   cases eD
   have I2:qC X pins σ' H2 s':=I.untried (I1.call' os un hok bare λb z=>absurd z (by simp))
   obtain⟨⟨fl,he,hz⟩,_,_⟩:=(show qM X.prog X.w H2 s'.heap a (Jp a C dx (.ref T)) from I2.hok a _ ha)
   obtain⟨st0,_,_⟩:=(show qM X.prog X.w H2 s'.heap T (GU T .none) from I2.hok T _ ht)
   have nT0:T≠a:=λz=>by
     obtain⟨ts,q,_⟩:=st0
     rw[z,he]at q
     cases q
   have fr:=I2.ok.frames
   have ff:=I2.stack
   rw[hst]at fr ff
   refine KU fr ff hfm he hz st0 nT0 λh1 T' hT F tT q1 q2=>?_
   have lt:=(zaA.mp hz).1
   have g1:(fl.setIfInBounds 1 (Value.ref T'))[1]?=some (.ref T'):=by simp [lt]
   have nT:T'≠a:=λz=>by
     obtain⟨ts,q,_⟩:=q2
     rw[z,q1]at q
     cases q
   refine Zm (fs:=YD X.stack) q1 g1 q2 λh2 F2 stt=>?_
   have anf:∀b o,H2 b=some o->b∉YD X.stack:=λb o q z=>by
     have:=I2.stkFree b z
     rw[q]at this
     cases this
   have hTn:H2 T'=none:=I2.hok.fresh hT
   have nTT:T'≠T:=(qz ht hTn).symm
   have q3:=F2.keep a _ (anf a _ ha) (by simp [Ne.symm nT]) q1
   obtain⟨oT,hoT⟩:=tT
   have q4:=F2.keep T _ (anf T _ ht) (by simp [Ne.symm nTT]) hoT
   rw[<-hst]at F
   have I3:=I2.flown (H':=upd (upd (upd H2 a (Jp a C dx (.ref T'))) T (.ext λh=>∃o,h.get? T=some o)) T' (GU T' .none)) (yz.then F F2 hT) ⟨λb hb=>by
       simp only[zaa,zbk,or_false]at hb
       rcases hb with rfl | rfl
       . exact⟨_,ha⟩
       . exact⟨_,ht⟩,λb o hb q=>by
       simp only[zaa,zbk,or_false,not_or]at hb
       rw[qi (qz q hTn),qi hb.2,qi hb.1];exact q,λb hb q=>by
       rw[qi (tR (tN hb hT)),qi (λz=>by rw[z,ht]at q;cases q),qi (λz=>by rw[z,ha]at q;cases q)];exact q⟩ (λb hb=>by
       simp only[zaa,zbk,or_false]at hb
       rcases hb with rfl | rfl
       . exact⟨_,q3⟩
       . exact⟨_,q4⟩) λb o q hb=>by
     by_cases e1:b=T'
     . subst e1
       rw[qe]at q
       cases q
       exact VS stt
     . rw[qi e1]at q
       by_cases e2:b=T
       . subst e2
         rw[qe]at q
         cases q
         exact⟨⟨_,q4⟩,⟨_,q4⟩,λh1 h2 ⟨u,z⟩ k=>⟨u,k u z⟩⟩
       . rw[qi e2]at q
         by_cases e3:b=a
         . subst e3
           rw[qe]at q
           cases q
           exact WB ⟨_,q3,g1⟩
         . rw[qi e3]at q
           rcases hb with hb | hb
           . rw[q]at hb;cases hb
           . simp only[zaa,zbk,or_false]at hb
             exact(hb.elim e3 e2).elim
   have ea:upd (upd (upd H2 a (Jp a C dx (.ref T'))) T (.ext λh=>∃o,h.get? T=some o)) T' (GU T' .none) a=some (Jp a C dx (.ref T')):=by rw[qi (Ne.symm nT),qi (Ne.symm nT0),qe]
   refine hh pins _ σ' _ D a C dx T' I3 ea qe (hx a C dx T' Hx _ hR hxa (λb o nb q=>?_) ea)
   have n1:b≠T:=λz=>by rw[z,hxT]at q;cases q
   have q':=hxs b o nb q
   rw[qi (qz q' hTn),qi n1,qi nb]
   exact q'
 . cases f with
   | next=>
     obtain⟨σ',H',I',q⟩:=q
     exact wpAny_execs_nil ⟨σ',H',I.untried I',q⟩
   | brk=>
     obtain⟨σ',H',I',q⟩:=q
     exact⟨σ',H',I.untried I',q⟩
   | cont=>
     obtain⟨σ',H',I',q⟩:=q
     exact⟨σ',H',I.untried I',q⟩
   | ret u=>
     obtain⟨v,σ',H',I',r,q⟩:=q
     exact⟨v,σ',H',I.untried I',r,q⟩
@[irreducible] def JH (X:Cx) (hs:List ExceptHandler) (t:TH):Prop:=PH X hs t
theorem JH.of {X:Cx} {hs:List ExceptHandler} {t:TH} (h:PH X hs t):JH X hs t:=by unfold JH;exact h
theorem JH.to {X:Cx} {hs:List ExceptHandler} {t:TH} (h:JH X hs t):PH X hs t:=by unfold JH at h;exact h
theorem wt {X:Cx} {hs:List ExceptHandler}:JH X hs wK:=.of kU
theorem K4 {X:Cx} {x n:Str} {p pos:Pos} {j:Nat} {b₀:Stmt} {suite:List Stmt} {rest:List ExceptHandler} {ts:TS} {tr:TH} {Cl:Addr} (hg:Gl X x) (hm:X.mg x=some (.ref Cl)) (hD:yx X.K Cl) (hN:X.N.Nodup) (hj:X.N[j]?=some n)
   (hl:X.env.scope.names.lookup n=some .local) (hs:∀v E,WG (X.suite v E) (b₀::suite) ts) (hr:JH X rest tr) (hdb:(x==("__debug__":Str))=false:=by decide):JH X (.ExceptHandler (some (.Name x p)) (some n) (b₀::suite) pos::rest) (UT X.K Cl j ts tr):=
 .of (Uu hg hm hD.c hN hj hl (λv E=>(hs v E).to) hr.to hdb)
theorem NP {X:Cx} {body:List Stmt} {h0:ExceptHandler} {hs:List ExceptHandler} {tb:(St->XK)->TS} {th:TH} {pos:Pos} (hst:X.stack=X.env::X.outer) (hfm:X.env.frame=some X.env.locals)
   (hb:∀(pn:List (Addr×Obj)) (W:Value->Shared->Prop) (E:St->XK),ZP (um X.prog X.w) (X.tried pn W) E->WG (X.tried pn W) body (tb E)) (hh:JH X (h0::hs) th):JS X (.Try body (h0::hs) [] [] pos) (MZ tb th):=
 .of (uA hst hfm (λpn W E h=>(hb pn W E h).to) hh.to)
def US (K:PySem.W.Frag) (bm:List Value) (ta:TE) (f:Str):TE:=λσ H Q=>ta σ H λx H1=>∃a C dx hd fs v,x=.ref a/\H1 a=some (Jp a C dx hd)/\H1 dx=some (.xd fs)/\zE K C bm/\j6 K C f/\fs.lookup f=some v/\Q v H1
def V4 (K:PySem.W.Frag) (bm:List Value):List V->Hp->VK->Prop:=λxs H Q=>∃a C dx hd fs c b,xs=[.ref a,c]/\RA c=true/\H a=some (Jp a C dx hd)/\H dx=some (.xd fs)/\zE K C bm/\tZ K (.ref C) (Gq c)=some b/\Q (.bl b) H
section
variable {X:Cx} {f:Str} {e:Expr} {pos:Pos} {ta:TE} {bm:List Value}
theorem Wu (he:JE X e ta) (hb:attributeBase e f X.env (eval e X.env)=eval e X.env):JE X (.Attribute e f pos) (US X.K bm ta f):=.of (by
 have he:=he.to
 intro pins s σ H Q I h
 refine vT hb (ji (he pins s σ H _ I h) λu s1 z=>?_)
 obtain⟨x,H1,I1,rx,a,C,dx,hd,fs,v,ex,ea,ed,c,n,l,q⟩:=z
 subst ex
 obtain rfl:u=Value.ref a:=rx
 exact yj I1 ea ed c n l λu' s2 I2 ru=>⟨v,H1,I2,ru,q⟩)
theorem zy (hn:zbv X.K (.builtin "object.__class__") "__get__"=some (some (.builtin "getset_descriptor.__get__"))) (htk:zca X.K (.builtin "object.__class__")=some true):j8 X (.builtin "isinstance") (V4 X.K bm):=by
 intro pins s σ H xs us Q I r h
 obtain⟨a,C,dx,hd,fs,c,b,rfl,hc,ha,hdx,ec,ek,q⟩:=h
 obtain⟨u,w',rfl,ru,rw'⟩:=UJ r
 have ew:w'=Gq c:=by
   cases c with
   | ty n=>exact rw'
   | ref z=>exact rw'
   | _=>cases hc
 subst ew
 cases ru
 exact wC I ha hdx ec hn htk ek λtk=>⟨.bl b,H,I.tok tk,rfl,q⟩
end
end L2
namespace PySem
open PySem.Spec
namespace F
theorem plain_dupd_loop:plainId "dict.update.loop"=true:=by decide+kernel
theorem entry_dupd_loop:entryFor table "dict.update.loop"=some Builtin.«dict.update.loop»:=entryFor_of_fast (by kernel_rfl)
end F
theorem Heap.DictOf.keepsAt {prog:Program} {w:World} {κ:Type} [DecidableEq κ] {knd:KeyKind prog w κ} {h h':Heap} {a:Addr} {kvs:List (κ×Value)} (hm:h.DictOf knd a kvs) (k:∀o,h.get? a=some o->h'.get? a=some o):h'.DictOf knd a kvs:=
 let ⟨o,es,ep,ho,r⟩:=hm;⟨o,es,ep,k o ho,r⟩
section
variable {prog:Program} {w:World} {A:Around} {R:Result->Shared->Prop} {I:Addr} {fp wr:List Addr} {n:Nat} {P:Nat->Value->Prop} {St:Nat->Heap->Prop} {κ:Type} [DecidableEq κ] {knd:KeyKind prog w κ}
def Md (knd:KeyKind prog w κ) (h:Heap) (wr:List Addr) (d:Addr) (v:Value) (kv:κ×Value):Prop:=∃p o c k,v=.ref p/\h.get? p=some o/\o.cls=.type "tuple"/\o.data=.seq #[k,kv.2] c/\knd.is kv.1 k=true/\p∉wr/\p≠d
theorem ZM (W:Walks prog w A.in1 I fp wr n P St) (kv:Nat->κ×Value) (d:Addr) (hdf:d∉fp) (hn:n<=1000):
   ∀(k i:Nat) (s:Shared) (t:Tok) (kvs:List (κ×Value)),n - i=k->i<=n->St i s.heap->s.heap.DictOf knd d kvs->kvs.length<=i->(∀j v,P j v->Md knd s.heap wr d v (kv j))->
   (∀h' tk,h'.DictOf knd d (merged kvs (((zae n).drop i).map kv))->(∀b o,b∉wr->b≠d->s.heap.get? b=some o->h'.get? b=some o)->R (.ok (.ret .none)) {s with heap:=h',toks:=tk})->
   codeAny (model prog w) A (.builtin "dict.update.loop" ⟨[.ref d,.ref I,.int i t,.none],[]⟩) R s:=by
 have hdw:d∉wr:=λh=>hdf (W.sub _ h)
 intro k
 induction k with
 | zero=>
   intro i s t kvs hk hi hst hd hl hp hR
   have hin:i=n:=by omega
   subst hin
   refine codeAny_builtin F.entry_dupd_loop ?_
   rw[Around.under_plainId F.plain_dupd_loop _]
   show wpAny _ A.in1 (pyNext (.ref I) >>= _) _ _ s
   refine wpAny_bind (W.done s _ _ hst λh' tk hk'=>?_)
   show wpAny _ A.in1 (Builtin.Dict.addKeywords d [] >>= _) _ _ _
   refine wpAny_bind (wpAny_pure (wpAny_pure (hR h' tk ?_ λb o hb _ e=>hk' b o hb e)))
   rw[List.drop_of_length_le (by simp)]
   exact hd.keepsAt λo e=>hk' d o hdw e
 | succ k ih=>
   intro i s t kvs hk hi hst hd hl hp hR
   have hlt:i < n:=by omega
   refine codeAny_builtin F.entry_dupd_loop ?_
   rw[Around.under_plainId F.plain_dupd_loop _]
   show wpAny _ A.in1 (pyNext (.ref I) >>= _) _ _ s
   refine wpAny_bind (W.item i s _ _ hlt hst λv h' tk hP hst' hk'=>?_)
   obtain⟨p,o,c,key,rfl,ho,hc,hdat,hkey,hpw,hpd⟩:=hp i v hP
   have ho':=hk' p o hpw ho
   have hd':h'.DictOf knd d kvs:=hd.keepsAt λo e=>hk' d o hdw e
   have ty:(⟨h',s.gens,s.drawn,tk,s.os⟩:Shared).TypeIs (.ref p) "tuple":=⟨o,ho',hc⟩
   refine wpAny_bind (wpAny_holding (wpAny_bind (wpAny_tryCatch ?_)))
   unfold Builtin.Dict.pairItems
   refine wpAny_bind (wpAny_typeOf ty ?_)
   rw[if_pos (by decide)]
   refine wpAny_bind (wpAny_seqItems ho' hdat (wpAny_pure ?_))
   refine(show wpAny _ _ (holding [key,(kv i).2] (dictSet d key (kv i).2)) _ _ _ from wpAny_holding (wpAny_dictSet_pairs hkey hd' (λh'' dd hs=>?_) (by rw[sizeLine_eq];omega)))
   refine wpAny_pure ⟨plainId_quiet F.plain_dupd_loop _,?_⟩
   have keep:∀b o,b∉wr->b≠d->s.heap.get? b=some o->h''.get? b=some o:=λb o hb hbd e=>(hs.2 b hbd).trans (hk' b o hb e)
   have len:(stored kvs (kv i).1 (kv i).2).length<=i+1:=by
     have:=stored_length_le kvs (kv i).1 (kv i).2
     omega
   refine ih (i+1) _ _ (stored kvs (kv i).1 (kv i).2) (by omega) hlt (W.frame _ _ _ hst' λb hb o e=>(hs.2 b (λz=>hdf (z▸hb))).trans e) dd len (λj v hj=>?_) λh3 tk3 d3 k3=>?_
   . obtain⟨p,o,c,k,e1,e2,r⟩:=hp j v hj
     exact⟨p,o,c,k,e1,keep p o r.2.2.2.1 r.2.2.2.2 e2,r⟩
   . refine hR h3 tk3 ?_ λb o hb hbd e=>k3 b o hb hbd (keep b o hb hbd e)
     have e:(zae n).drop i=i::(zae n).drop (i+1):=by
       rw[List.drop_eq_getElem_cons (by simpa using hlt)]
       simp
     rw[e]
     exact d3
end
section
variable {prog:Program} {w:World} {A:Around} {E:Value->Shared->Prop} {s:Shared} {κ:Type} [DecidableEq κ] {knd:KeyKind prog w κ}
theorem Wp:typeLookup (.type "list") "keys"=pure none:=by rw[typeLookup_type,builtinLookup_eq_fast];kernel_rfl
theorem Wr {a:Addr} {o:Obj} {xs:Array Value} {k:Nat} {Q:Option Value->Shared->Prop} (hx:s.heap.get? a=some o) (hc:o.cls=.type "list") (hdat:o.data=.seq xs k) (hd:o.dict=none) (hA:A.handled=none)
   (h:∀h' tk,(∀b o,s.heap.get? b=some o->h'.get? b=some o)->Q none {s with heap:=h',toks:=tk}):wpAny (model prog w) A (getAttr? (.ref a) "keys") Q E s:=by
 obtain⟨c,dct,dat,sl⟩:=o
 simp only at hc hdat hd
 subst hc hdat hd
 obtain⟨hp,g,d,tk,os⟩:=s
 have hT:∀tk',(⟨hp,g,d,tk',os⟩:Shared).TypeIs (.ref a) "list":=λ_=>⟨_,hx,rfl⟩
 have f1:=sub_AttributeError
 have f3:=F.slot_list_getattribute.lookup
 have f4:=F.slot_list_getattribute.bind (.ref a)
 have f5:=am_list_getattr_none
 unfold getAttr? getAttrBy? getAttrBy
 repeat (any_goals (first | assumption | exact hT _ | ((with_reducible show wpAny _ _ (call (Value.builtin "list.__getattribute__") _ _) _ _ _);refine call_meets F.slot_list_getattribute (hT _) am_entry_list_getattribute (F.args_list_getattribute_2 _ _) (meets_getattribute_miss_list a xs k sl "keys" _ Wp (by decide+kernel)) ⟨hx,hA,λh' tk' e hx'=>?_⟩) | wp_step))
 obtain⟨t',u',he⟩:=hx'.there
 show wpAny _ _ (getattributeRaised _ _ _ _ _ _ _) _ _ _
 unfold getattributeRaised
 repeat (any_goals (first | assumption | wp_step))
 exact h _ _ hx'.of.keeps
theorem zD {src:Addr} {items:Array Value} {kv:Nat->κ×Value} {Q:Value->Shared->Prop} (pl:PlainL s.heap src items) (hp:∀j v,items[j]?=some v->∃p o c key,v=.ref p/\s.heap.get? p=some o/\o.cls=.type "tuple"/\o.data=.seq #[key,(kv j).2] c/\knd.is (kv j).1 key=true)
   (hn:items.size<=1000) (hA:A.handled=none)
   (h:∀h' tk,h'.DictOf knd s.heap.objs.size (merged [] ((zae items.size).map kv))->(∀b o,s.heap.get? b=some o->h'.get? b=some o)->Q (.ref s.heap.objs.size) {s with heap:=h',toks:=tk}):
   wpAny (model prog w) A (call (.type "dict") [.ref src]) Q E s:=by
 refine callType_codes (Q₁:=λobj s₁=>obj=.ref s.heap.objs.size/\s₁={s with heap:=s.heap.push {cls:=.type "dict",data:=.dict #[]}}) F.kt_called_dict (F.kt_typeCall_dict_1 _) F.entry_dict_init (kt_code_dict_new _ ⟨rfl,rfl⟩) ?_
 rintro obj s₁ ⟨rfl,rfl⟩
 have hnew:(s.heap.push {cls:=.type "dict",data:=.dict #[]}).DictOf knd s.heap.objs.size []:=Heap.DictOf.new s.heap
 have hp0:∀b o,s.heap.get? b=some o->(s.heap.push {cls:=.type "dict",data:=.dict #[]}).get? b=some o:=λb o e=>tz _ e
 obtain⟨ol,nl,ho,hc,hd,hdat⟩:=id pl
 have ty:(⟨s.heap.push {cls:=.type "dict",data:=.dict #[]},s.gens,s.drawn,s.toks,s.os⟩:Shared).TypeIs (.ref src) "list":=⟨ol,hp0 _ _ ho,hc⟩
 refine⟨hnew.typeIs,F.args_dict_init_2 _ _,?_⟩
 unfold Builtin.«dict.__init__»
 refine wpAny_bind ?_
 unfold Builtin.Dict.selfAndRest
 refine wpAny_bind (wpAny_notOrdered_dict hnew.typeIs ?_)
 show wpAny _ _ (pure (s.heap.objs.size,[Value.ref src])) _ _ _
 refine wpAny_pure ?_
 show wpAny _ _ (Builtin.Dict.updateFrom "dict.__init__" s.heap.objs.size (.ref src) [] .none) _ _ _
 unfold Builtin.Dict.updateFrom
 refine wpAny_bind (wpAny_typeOf ty ?_)
 rw[if_pos (by decide)]
 refine wpAny_bind (Wr (hp0 _ _ ho) hc hdat hd hA λh1 tk1 k1=>?_)
 rw[if_pos (show (none:Option Value).isNone=true from rfl)]
 refine wpAny_bind (wpAny_rule ?_)
 have pl1:PlainL h1 src items:=⟨ol,nl,k1 _ _ (hp0 _ _ ho),hc,hd,hdat⟩
 have hlt:src < h1.objs.size:=tI (k1 _ _ (hp0 _ _ ho))
 have hnew1:h1.DictOf knd s.heap.objs.size []:=hnew.keepsAt λo e=>k1 _ o e
 have hld:s.heap.objs.size < h1.objs.size:=by
   obtain⟨o,_,_,e,_⟩:=hnew1
   exact tI e
 refine wpAny_bind (wpAny_pyIter_list pl1.isList ?_)
 refine wpAny_pure ⟨plainId_quiet F.plain_dupd_loop _,?_⟩
 have W:=Walks.list (prog:=prog) (w:=w) (A:=A.in1.in1) hA h1.objs.size src (tR hlt) items
 have nsrc:s.heap.objs.size≠src:=Ne.symm (tR (tI ho))
 refine ZM (A:=A.in1) W kv s.heap.objs.size (by simp only[zaa,zaM,or_false,not_or];exact⟨tR hld,nsrc⟩) hn items.size 0 _ _ [] (by omega) (zap _)
   ⟨⟨_,tU _ rfl,rfl,rfl⟩,pl1.isList.at λo e=>tz _ e⟩ (hnew1.push _) (zap _) (λj v hj=>?_) λh2 tk2 d2 k2=>⟨rfl,h h2 tk2 d2 λb o e=>?_⟩
 . obtain⟨p,o,c,key,e1,e2,e3,e4,e5⟩:=hp j v hj
   have e2':=k1 _ _ (hp0 _ _ e2)
   refine⟨p,o,c,key,e1,tz _ e2',e3,e4,e5,?_,tR (tI e2)⟩
   simp only[zaa,zaM,or_false]
   exact tR (tI e2')
 . have e':=k1 _ _ (hp0 _ _ e)
   refine k2 b o ?_ (tR (tI e)) (tz _ e')
   simp only[zaa,zaM,or_false]
   exact tR (tI e')
end
end PySem
namespace L2
open PySem PySem.Spec PyProof.Rows
section
variable {X:Cx} {pins:List (Addr×Obj)} {σ:St} {H:Hp} {s:Shared}
def xv (K:PySem.W.Frag):List V->Hp->VK->Prop:=λxs H Q=>∃(p:Addr) (ps:List Addr) (kvs:List (qF×V)),xs=[.ref p]/\SqL K H p (ps.map V.ref)/\ps.length=kvs.length/\(∀(i:Nat) (a:Addr) (kv:qF×V),ps[i]?=some a->kvs[i]?=some kv->SqT K H a [kV kv.1,kv.2])/\kvs.length<=1000/\
 ∀d,H d=none->Q (.ref d) (upd H d (.dK (Qx [] kvs)))
theorem Yl (I:qC X pins σ H s):∀(ps:List Addr) (kvs:List (qF×V)),ps.length=kvs.length->(∀(i:Nat) (a:Addr) (kv:qF×V),ps[i]?=some a->kvs[i]?=some kv->SqT X.K H a [kV kv.1,kv.2])->
   ∃rs:List (qF×Value),KV kvs rs/\rs.length=ps.length/\∀(i:Nat) (a:Addr),ps[i]?=some a->∃kv o c key,rs[i]?=some kv/\s.heap.get? a=some o/\o.cls=.type "tuple"/\o.data=.seq #[key,kv.2] c/\(qU X.prog X.w).is kv.1 key=true
 | [],[],_,_=>⟨[],.nil,rfl,λi a e=>by simp at e⟩
 | [],_::_,h,_=>by cases h
 | _::_,[],h,_=>by cases h
 | a::ps,kv::kvs,h,k=>by
   obtain⟨rs,r1,r2,r3⟩:=Yl I ps kvs (zcA.inj h) λi a' kv' e1 e2=>k (i+1) a' kv' (by simpa using e1) (by simpa using e2)
   obtain⟨its,rv,⟨o,e,c1,n1,d1⟩,_⟩:=I.tuple (k 0 a kv rfl rfl)
   cases rv with
   | cons ra rt=>
     cases rt with
     | cons rb rn=>
       cases rn
       rename_i u1 u2
       refine⟨(kv.1,u2)::rs,.cons ⟨rfl,rb⟩ r1,by simp [r2],λi a' e'=>?_⟩
       cases i with
       | zero=>
         cases e'
         exact⟨_,o,n1,u1,rfl,e,c1,d1,zq ra⟩
       | succ i=>exact r3 i a' (by simpa using e')
theorem Zp (hc:X.calm=true):j8 X (.type "dict") (xv X.K):=by
 intro pins s σ H xs us Q I r h
 obtain⟨p,ps,kvs,rfl,hl,le,hps,hz,q⟩:=h
 obtain⟨u,rfl,ru⟩:=Qm r
 cases ru
 obtain⟨its,rv,pl,_⟩:=I.list hl
 obtain rfl:=Xb rv
 obtain⟨rs,r1,r2,r3⟩:=Yl I ps kvs le hps
 have hsz:(ps.map Value.ref).toArray.size=rs.length:=by simp [r2]
 have hR:(zae (ps.map Value.ref).toArray.size).map (λj=>(rs[j]?).getD (Sum.inl 0,Value.none))=rs:=by
   rw[hsz]
   refine zcK λi=>?_
   rw[tH]
   by_cases hi:i < rs.length
   . rw[zbz hi,tu hi]
     simp [hi]
   . rw[zbg (by rw[zav];omega),zbg (by omega)]
     rfl
 refine zD (knd:=qU X.prog X.w) (kv:=λj=>(rs[j]?).getD (Sum.inl 0,Value.none)) pl (λj v hj=>?_) (by rw[hsz,r2,le];exact hz) (I.ok.hd hc) λh' tk dd kp=>?_
 . have hj':(ps.map Value.ref)[j]?=some v:=by simpa using hj
   rw[tH]at hj'
   cases e:ps[j]? with
   | none=>rw[e]at hj';cases hj'
   | some a=>
     rw[e]at hj'
     obtain⟨kv,o,c,key,f1,f2,f3,f4,f5⟩:=r3 j a e
     refine⟨a,o,c,key,(tO.inj hj').symm,f2,f3,?_,?_⟩
     . show o.data=.seq #[key,((rs[j]?).getD (Sum.inl 0,Value.none)).2] c
       rw[f1]
       exact f4
     . show (qU X.prog X.w).is ((rs[j]?).getD (Sum.inl 0,Value.none)).1 key=true
       rw[f1]
       exact f5
 . rw[hR]at dd
   have hn:=I.hok.fresh (tw s.heap.objs.size)
   have big:(s.heap.objs.size==sysModules)=false:=beq_eq_false_iff_ne.mpr (Ne.symm (tR I.big))
   have hlen:(Qx [] kvs).length<=sizeLine:=by
     have:=QZ kvs []
     rw[zdg]at this
     rw[sizeLine_eq]
     omega
   exact⟨.ref s.heap.objs.size,_,I.laid (a:=s.heap.objs.size) (o:=.dK (Qx [] kvs)) (h':=h') (t':=tk) kp (tw _) (Z8 hlen big (r1.merge .nil) dd),rfl,q _ hn⟩
end
open PySem PySem.Spec PySem.W PyProof.Rows
theorem Yv {α:Type} {l:List α} (nd:l.Nodup) {i j:Nat} {hi:i < l.length} {hj:j < l.length} (e:l[i]=l[j]):i=j:=by
 have h:=zar.mp nd
 rcases zbo i j with c | c | c
 . exact absurd e (h i j hi hj c)
 . exact c
 . exact absurd e.symm (h j i hj hi c)
section
variable {α β:Type} {lt:Nat->Nat->Bool} {n:Nat}
def evT (lt:Nat->Nat->Bool):KasT α->α
 | .ret a=>a
 | .ask i j k=>evT lt (k (lt i j))
end
def ltS (zs:List Str) (i j:Nat):Bool:=decide ((zs.getD i "").cps.toList < (zs.getD j "").cps.toList)
def srt (zs:List Str):List Nat:=if zs.length < 2 then zae zs.length else (evT (ltS zs) (kas_sort zs.length)).toList
section
variable {P:Program} {w:World} {B:Around} {F:Value->Shared->Prop} {z:Shared}
end
section
variable {X:Cx} {o:Expr} {td:TE} {p1 p2 pos1 pos2 ap cp:Pos}
end
section
variable {X:Cx}
def qae (K:PySem.W.Frag):R2:=λx y H Q=>∃a b xs ys,x=.ref a/\y=.ref b/\SqL K H a xs/\SqL K H b ys/\xs.length+ys.length<=sizeLine/\∀l,H l=none->Q (.ref l) (upd H l (.lst (xs++ys)))
theorem Paired.app {α β:Type} {G:α->β->Prop}:∀{l m:List α} {l' m':List β},Paired G l l'->Paired G m m'->Paired G (l++m) (l'++m')
 | _,_,_,_,.nil,h=>h
 | _,_,_,_,.cons a r,h=>.cons a (Paired.app r h)
theorem Ky:Jw X (binaryOp .Add) (qae X.K):=by
 intro pins s σ H x y v u Q I rx ry h
 obtain⟨a,b,xs,ys,rfl,rfl,ha,hb,hz,q⟩:=h
 cases rx
 cases ry
 obtain⟨its,rv,pl,_⟩:=I.list ha
 obtain⟨its2,rv2,pl2,_⟩:=I.list hb
 have l1:=rv.length
 have l2:=rv2.length
 obtain⟨⟨cls,dd,data,sl⟩,ho,hc,n,hd⟩:=id pl.isList
 obtain⟨⟨cls2,dd2,data2,sl2⟩,ho2,hc2,n2,hd2⟩:=id pl2.isList
 simp only at hc hd hc2 hd2
 subst hc hd hc2 hd2
 have e:its.toArray++its2.toArray=(its++its2).toArray:=by simp
 refine concat_meets ⟨_,ho,rfl⟩ ⟨_,ho2,rfl⟩ noFill_list_add seq_list_add PySem.F.slot_list_add PySem.F.entry_list_add (PySem.F.args_list_add_2 _ _) (list_addW a b its.toArray its2.toArray n n2 dd dd2 sl sl2 (by simp only[tX];omega)) ⟨ho,ho2,?_⟩
 rw[e]
 exact⟨.ref s.heap.objs.size,_,I.laid (t':=s.toks) (o:=.lst (xs++ys)) (λb u h=>tz _ h) (tw _) ⟨by rw[tL];exact hz,its++its2,_,Paired.app rv rv2,tU _ rfl⟩,rfl,q _ (I.hok.fresh (tw _))⟩
theorem kW:Mh X "dict.clear" (λx xs H Q=>∃(a:Addr) (kvs:List (qF×V)),x=.ref a/\xs=[]/\H a=some (.dK kvs)/\Q .non (upd H a (.dK []))):=by
 intro pins s σ H x xs v us Q I rx rs h
 obtain⟨a,kvs,rfl,rfl,e,q⟩:=h
 cases rx
 cases rs
 obtain⟨z,hd,vs,rel,dd⟩:=zt I.hok e
 refine call_meetsIn zcT dd.typeIs PySem.F.entry_dict_clear (PySem.F.args_dict_clear_1 _) (meets_dict_clear (qU X.prog X.w) a) ⟨vs,dd,by rw[<-Paired.length rel];exact z,λh' dd' hs=>?_⟩
 have he:∃q,h'.get? a=some q:=let ⟨q,_,_,hq,_⟩:=dd';⟨q,hq⟩
 exact⟨.non,_,ZL (t':=s.toks) I (by rw[e];exact True.intro) hs he (Z8 (zap _) hd .nil dd'),rfl,q⟩
end
open PySem PySem.Spec PySem.W PyProof.Rows
section
variable {X:Cx}
def Nh:List V->Hp->VK->Prop:=λxs H Q=>∃(a:Addr) (kvs:List (qF×V)) (zs:List Str),xs=[.ref a]/\H a=some (.dK kvs)/\kvs.map (·.1)=zs.map Sum.inr/\∀l,H l=none->Q (.ref l) (upd H l (.lst (zs.map V.str)))
theorem YO (hc:X.calm=true):j8 X (.type "list") Nh:=by
 intro pins s σ H xs us Q I r h
 obtain⟨a,kvs,zs,rfl,ea,ek,q⟩:=h
 obtain⟨u,rfl,ru⟩:=Qm r
 cases ru
 obtain⟨zk,hd,vs,rel,dd⟩:=zt I.hok ea
 obtain⟨ep,dat⟩:=dd.dictAt
 have lk:kvs.length=zs.length:=by simpa using congrArg zaB ek
 have lv:kvs.length=vs.length:=Paired.length rel
 refine kdl_call (kdl_dict (knd:=qU X.prog X.w) (kvs:=vs) (ep:=ep) hd) (I.ok.hd hc) dat (by rw[<-lv];exact zk) λh' tk acc c kp e it=>?_
 have vv:qE (zs.map V.str) acc.toList:=by
   refine Z1 _ _ (by have:=it.1;simp only[tj,zaq];omega) λi x u e1 e2=>?_
   have e2':acc[i]?=some u:=by simpa using e2
   obtain⟨k,y,f1,f2⟩:=it.2 i u e2'
   rw[tH]at e1
   cases ez:zs[i]? with
   | none=>rw[ez]at e1;cases e1
   | some z=>
     rw[ez]at e1
     obtain rfl:=(tO.inj e1).symm
     have hi:i < kvs.length:=by
       have:=(tq.mp ez).1
       omega
     obtain⟨q',g1,g2,_⟩:=QH rel (tu hi)
     rw[f1]at g1
     cases g1
     have h1:(kvs.map (·.1))[i]?=some kvs[i].1:=by rw[tH,tu hi];rfl
     rw[ek,tH,ez]at h1
     have e3:k=Sum.inr z:=g2.symm.trans (tO.inj h1).symm
     subst e3
     rcases jf (show ZF (Sum.inr z) u=true from f2) with ⟨_,_,c,_⟩ | ⟨w',t,c,rfl⟩
     . cases c
     . cases c
       exact⟨t,rfl⟩
 exact⟨.ref _,_,I.laid (t':=tk) (o:=.lst (zs.map V.str)) kp (tw _) ⟨by rw[tj,<-lk];exact zk,acc.toList,c,vv,by simpa using e⟩,rfl,q _ (I.hok.fresh (tw _))⟩
def qab:R2:=λx y H Q=>∃(a b:Addr) (kvs:List (qF×V)),x=.ref a/\y=.ref b/\H a=some (.dK kvs)/\H b=some (.dK [])/\Q (.bl kvs.isEmpty) H
theorem Kw (hu:X.A.units < cLine):Jw X (compareOp .Eq) qab:=by
 intro pins s σ H x y v u Q I rx ry h
 obtain⟨a,b,kvs,rfl,rfl,ea,eb,q⟩:=h
 cases rx
 cases ry
 obtain⟨_,hda,va,ra,da⟩:=zt I.hok ea
 obtain⟨_,hdb,vb,rb,db⟩:=zt I.hok eb
 have lb:vb=[]:=zad (Paired.length rb).symm
 subst lb
 refine keq_eq (r:=true) hda hdb da db hu (λe=>?_) ⟨.bl _,H,I,?_,q⟩
 . have:va=[]:=zad e
   subst this
   exact .nil
 . show Value.bool _=Value.bool _
   have l:=Paired.length ra
   cases kvs with
   | nil=>
     have:va=[]:=zad l.symm
     subst this
     rfl
   | cons p r=>
     cases va with
     | nil=>cases l
     | cons p' r'=>rfl
def Rn (K:PySem.W.Frag):R2:=λx y H Q=>∃(a b:Addr) (xs:List V),x=.ref a/\y=.ref b/\SqL K H a xs/\SqL K H b []/\Q (.bl (!xs.isEmpty)) H
theorem vB (hu:X.A.units < cLine):Jw X (compareOp .NotEq) (Rn X.K):=by
 intro pins s σ H x y v u Q I rx ry h
 obtain⟨a,b,xs,rfl,rfl,ha,hb,q⟩:=h
 cases rx
 cases ry
 obtain⟨its,rv,pl,_⟩:=I.list ha
 obtain⟨its2,rv2,pl2,_⟩:=I.list hb
 have l2:its2=[]:=zad rv2.length.symm
 subst l2
 cases xs with
 | nil=>
   have l1:its=[]:=zad rv.length.symm
   subst l1
   exact EqBoolInt.of_rcne (SeqAt.RcNeAt.lists (e:=λ_=>true) pl.isList pl2.isList rfl hu λj h1 h2=>absurd h1 (zcp j)) ⟨.bl _,H,I,rfl,q⟩
 | cons x xs=>
   cases its with
   | nil=>cases rv
   | cons u' us'=>exact EqBoolInt.of_rcne (SeqAt.RcNeAt.lists_lengths pl.isList pl2.isList (by simp) hu) ⟨.bl true,H,I,rfl,q⟩
def Ni (K:PySem.W.Frag):V->List V->Hp->VK->Prop:=λx xs H Q=>∃(a:Addr) (zs:List Str) (z:Str) (j:Nat),x=.ref a/\xs=[.str z]/\SqL K H a (zs.map V.str)/\zs[j]?=some z/\(∀i,i < j->zs[i]?≠some z)/\Q (.int (j:Nat)) H
theorem x9:Mh X "list.index" (Ni X.K):=by
 intro pins s σ H x xs v us Q I rx rs h
 obtain⟨a,zs,z,j,rfl,rfl,hq,ej,hno,q⟩:=h
 cases rx
 obtain⟨u,rfl,ru⟩:=Qm rs
 obtain⟨t,rfl⟩:=ru
 obtain⟨its,rv,pl,hz⟩:=I.list hq
 have ln:its.length=zs.length:=by
   have:=rv.length
   rw[tj]at this
   exact this.symm
 have hj:j < zs.length:=(tq.mp ej).1
 have str:∀i (hi:i < its.toArray.size),∃t',its.toArray[i]=.str (zs[i]'(by simp at hi;omega)) t':=λi hi=>by
   have hi':i < zs.length:=by simp at hi;omega
   have h1:(zs.map V.str)[i]?=some (V.str zs[i]):=by rw[tH,tu hi'];rfl
   obtain⟨w',hw,t',e⟩:=rv.get h1
   refine⟨t',?_⟩
   have:its.toArray[i]?=some w':=by simpa using hw
   rw[zbT hi]at this
   exact(tO.inj this).trans e
 obtain⟨⟨cls,dd,data,sl⟩,ho,hc,n,hd⟩:=id pl.isList
 simp only at hc hd
 subst hc hd
 have hz':zs.length<=sizeLine:=by rwa [tj]at hz
 refine call_meets zcU ⟨_,ho,rfl⟩ PySem.F.entry_list_index (PySem.F.args_list_index_2 _ _) (SeqAt.list_indexAt a its.toArray n dd sl (.str z t) (λy=>match y with | .str x _=>x==z | _=>false) j (by simp;omega) (by rw[sizeLine_eq]at hz';omega) ?_ ?_) ⟨ho,λy hy=>?_,⟨.int _,H,I.tok _,⟨_,rfl⟩,q⟩⟩
 . obtain⟨t',e⟩:=str j (by simp;omega)
   rw[e,(tq.mp ej).2]
   exact beq_self_eq_true z
 . intro m hm lt
   obtain⟨t',e⟩:=str m hm
   rw[e]
   refine beq_eq_false_iff_ne.mpr λc=>hno m lt ?_
   rw[tu (by simp at hm;omega),c]
 . obtain⟨i,hi,rfl⟩:=Array.mem_iff_getElem.mp hy
   obtain⟨t',e⟩:=str i hi
   rw[e]
   exact SeqAt.EqAt.str_str _ t' z t
end
open PySem PySem.Spec PySem.W PyProof.Rows
section
variable {P:Program} {w:World} {B:Around} {F:Value->Shared->Prop} {z:Shared}
end
section
variable {X:Cx}
end
open PySem PySem.Spec PySem.W PyProof.Rows
section
variable {prog:Program} {w:World} {A:Around} {R:Result->Shared->Prop} {I:Addr} {fp wr:List Addr} {G:Array GenState->Array GenState->Prop} {n:Nat} {P:Nat->Value->Prop} {St:Nat->Shared->Prop}
abbrev JK (prog:Program) (w:World) (h:Heap) (S:Addr) (zs:List Str):Prop:=h.SetOf (PySem.strKind prog w) S (λy=>decide (y∈zs)) zs.length
theorem JK.stay {h h':Heap} {S:Addr} {zs:List Str} (x:JK prog w h S zs) (k:∀o,h.get? S=some o->h'.get? S=some o):JK prog w h' S zs:=let ⟨o,es,ep,t,ho,r⟩:=x;⟨o,es,ep,t,k o ho,r⟩
theorem kl (W:WalksS prog w A.in1 I fp wr G n P St) {S:Addr} (hSf:S∉fp) {zs:List Str} (hz:zs.length=n) (nd:zs.Nodup) (hv:∀i v,P i v->∃t,v=.str (zs.getD i "") t) (hb:n+1 < scanBound):
   ∀(k i:Nat) (s:Shared),n - i=k->i<=n->St i s->JK prog w s.heap S (zs.take i)->(∀s',Moved (S::wr) G s s'->JK prog w s'.heap S zs->R (.ok (.ret .none)) s')->
    codeAny (model prog w) A (.builtin "set.update.loop" ⟨[.ref S,.ref I],[]⟩) R s:=by
 have nw:S∉wr:=λh=>hSf (W.sub _ h)
 have up:∀b∈wr,b∈S::wr:=λb h=>tW _ h
 intro k
 induction k with
 | zero=>
   intro i s hk hi hst hS hR
   obtain rfl:i=n:=by omega
   rw[tF (by omega)]at hS
   refine codeAny_builtin F.entry_set_update_loop (by
     rw[Around.under_plainId F.plain_set_update_loop _]
     refine(show wpAny _ A.in1 (pyNext (.ref I) >>= _) _ _ s from wpAny_bind (W.done s _ _ hst λs' hm=>?_))
     exact(show wpAny _ A.in1 (ret Value.none) _ _ s' from wpAny_pure (hR s' (hm.mono up) (hS.stay λo ho=>hm.heap S _ nw ho))))
 | succ k ih=>
   intro i s hk hi hst hS hR
   have lt:i < n:=by omega
   have li:i < zs.length:=by omega
   have ez:zs.getD i ""=zs[i]:=by simp [li]
   have out:zs[i]∉zs.take i:=λm=>by
     obtain⟨j,hj,e⟩:=zcv m
     have hj':j < i:=by rw[tJ]at hj;omega
     rw[List.getElem_take]at e
     exact absurd (Yv nd e) (by omega)
   refine codeAny_builtin F.entry_set_update_loop (by
     rw[Around.under_plainId F.plain_set_update_loop _]
     refine(show wpAny _ A.in1 (pyNext (.ref I) >>= _) _ _ s from wpAny_bind (W.item i s _ _ lt hst λv s' hP hst' hm=>?_))
     obtain⟨t,rfl⟩:=hv i v hP
     rw[ez]
     have hS':=hS.stay λo ho=>hm.heap S _ nw ho
     have iz:(PySem.strKind prog w).is zs[i] (.str zs[i] t)=true:=by
       show Value.isStrOf zs[i] (.str zs[i] t)=true
       simp [Value.isStrOf]
     refine(show wpAny _ A.in1 (holding [Value.str zs[i] t] (setAdd S (.str zs[i] t)) >>= _) _ _ s' from wpAny_bind (wpAny_holding ?_))
     unfold setAdd
     refine wpAny_holding (wpAny_bind ((PySem.strKind prog w).pyHash (k:=zs[i]) iz ?_))
     have lt':(zs.take i).length=i:=by rw[tJ];omega
     refine wpAny_setAddHashed_of (knd:=PySem.strKind prog w) (s:={s' with toks:=s'.toks+1}) iz rfl hS' (by rw[lt'];omega) λh' sb S2=>?_
     have S3:JK prog w h' S (zs.take (i+1)):=SetOf_congr S2 (λy=>by
       rw[tM,tu li,<-Bool.decide_or]
       refine decide_eq_decide.mpr ⟨λh=>?_,λh=>?_⟩
       . rcases h with h | h
         . exact zaR _ h
         . exact zan _ (by rw[h];exact zac.mpr rfl)
       . rcases zai.mp h with h | h
         . exact .inl h
         . exact .inr (zac.mp h)) (by
       rw[decide_eq_false out,lt',if_neg tK,tJ]
       omega)
     refine wpAny_pure ⟨plainId_quiet F.plain_set_update_loop _,ih (i+1) _ (by omega) lt (W.frame _ s' _ _ hst' (zbw _) λb hb o e=>?_) S3 λs2 m2 h2=>hR s2 (Moved.trans W.gtrans ((hm.mono up).then_heap (zbw _) λb o hb e=>?_) m2) h2⟩
     . rw[sb.2 b (λh:b=S=>hSf (h▸hb))]
       exact e
     . rw[sb.2 b (λh:b=S=>hb (h▸t7))]
       exact e)
end
section
variable {prog:Program} {w:World} {A:Around} {E:Value->Shared->Prop} {s:Shared}
abbrev WZ (led:Bool):Obj:={cls:=.type "set",dict:=none,data:=.set #[] 0 (.fresh 0 0 led)}
theorem yt {l:Addr} {items:Array Value} {zs:List Str} {Q:Value->Shared->Prop} (hh:A.handled=none) (hl:s.heap.IsList l items) (hz:zs.length=items.size) (nd:zs.Nodup) (hv:∀(i:Nat) (v:Value),items[i]?=some v->∃t,v=Value.str (zs.getD i "") t) (hb:items.size+1 < scanBound)
   (h:∀(h':Heap) (tk:Nat),JK prog w h' s.heap.objs.size zs->(∀b o,b < s.heap.objs.size->s.heap.get? b=some o->h'.get? b=some o)->Q (.ref s.heap.objs.size) {s with heap:=h',toks:=tk}):
   wpAny (model prog w) A (call (.type "set") [.ref l]) Q E s:=by
 obtain⟨c,tl,hmro⟩:=zba.mro
 have f1:=zba.made
 have f2:=zba.sub
 have f3:=zba.notType
 have f4:=zba.canCreate
 have f5:=PySem.F.typeCall_set_1 (.ref l)
 refine wpAny_call (codeAny_of_tree (show wpAny _ _ (callAny (.type "set") _) _ _ _ from wpAny_pure ⟨Code.quiet_builtin _ (by decide+kernel),codeAny_builtin PySem.F.entry_type_call ?_⟩))
 rw[Around.under_plain (weight_type_call_type "set" [.ref l] []) rfl]
 repeat (any_goals (first | assumption | wp_step))
 refine codeAny_mono (PySem.code_set_new_1 (.ref l) (E:=E) (Q₁:=λobj s₁=>∃led:Bool,obj=.ref s.heap.objs.size/\s₁={s with heap:=s.heap.push (WZ led)}) λled=>⟨led,rfl,rfl⟩) λr s₁ hr=>?_
 rcases r with e | fl
 . exact hr
 cases fl with
 | ret obj=>
   obtain⟨led,rfl,rfl⟩:=hr
   have o0:(s.heap.push (WZ led)).get? s.heap.objs.size=some (WZ led):=tU _ rfl
   have ty:Shared.TypeIs {s with heap:=s.heap.push (WZ led)} (.ref s.heap.objs.size) "set":=⟨_,o0,rfl⟩
   have g1:=zba.init.lookup
   have g2:=zba.init.bind (.ref s.heap.objs.size)
   repeat (any_goals (first | assumption | wp_step))
   refine codeAny_mono (codeAny_call_builtin (R:=wants (λr s₂=>r=.none/\∃h' tk,s₂={s with heap:=h',toks:=tk}/\JK prog w h' s.heap.objs.size zs/\∀b o,b < s.heap.objs.size->s.heap.get? b=some o->h'.get? b=some o) E) zba.init.plain PySem.F.entry_set_init (PySem.check_set_init_1 ty ?_)) λr₂ s₂ hr₂=>?_
   . obtain⟨⟨ocls,odict,odata,oslots⟩,hol,hcl,nl,hdl⟩:=id hl
     simp only at hcl hdl
     subst hcl hdl
     have ltl:l < s.heap.objs.size:=tI hol
     have ol1:(s.heap.push (WZ led)).get? l=some {cls:=.type "list",dict:=odict,data:=.seq items nl,slots:=oslots}:=tz _ hol
     have ls1:(s.heap.push (WZ led)).IsList l items:=⟨_,ol1,rfl,nl,rfl⟩
     have y1:=PySem.F.sub_list_set
     have y2:=PySem.F.sub_list_frozenset
     have y3:(Value.type "list"==Value.type "dict")=false:=by decide
     have sz:(s.heap.push (WZ led)).objs.size=s.heap.objs.size+1:=zbe ..
     unfold Builtin.«set.__init__» noKeywords Builtin.Frozenset.updateFrom
     generalize hPI:pyIter=PI
     wp_walk
     subst hPI
     refine wpAny_pyIter_list ls1 (wpAny_bind (wpAny_runValue ?_))
     refine kl (zs:=zs) ((Walks.list (show A.in1.in1.in1.handled=none by simp [hh]) _ l (show l≠(s.heap.push (WZ led)).objs.size by rw[sz];exact tR (zbL ltl)) items).toS) (S:=s.heap.objs.size) (λm=>?_) hz nd hv hb (items.size - 0) 0 _ (by omega) (zap _)
       ⟨⟨_,tU _ rfl,rfl,rfl⟩,ls1.push _⟩ ?_ λs' hm st=>?_
     . rw[sz]at m
       simp only[zaa,zbk,or_false]at m
       rcases m with m | m
       . exact absurd m (tR (zaT _))
       . exact absurd m (zbu ltl)
     . exact SetOf_congr ((setObjOf_fresh (knd:=PySem.strKind prog w) led).setOf (tz _ o0) (by unfold scanBound;omega)) (λy=>by simp) (by simp)
     . obtain⟨h',g',d',tk',os'⟩:=s'
       have e1:g'=s.gens:=hm.gens
       have e2:d'=s.drawn:=hm.drawn
       have e3:os'=s.os:=hm.os
       subst e1 e2 e3
       refine(show wpAny _ _ _ _ _ _ from wpAny_pure (show wpAny _ _ (ret Value.none) _ _ _ from wpAny_pure ⟨rfl,h',tk',rfl,st,λb o hb' e=>?_⟩))
       refine hm.heap b o (λm=>?_) (tz _ (tz _ e))
       rw[sz]at m
       simp only[zaa,zbk,or_false]at m
       rcases m with m | m
       . exact absurd hb' (by rw[m];exact zaw _)
       . exact absurd hb' (by rw[m];exact Nat.not_lt.mpr (zbw _))
   . rcases r₂ with e | fl₂
     . exact hr₂
     cases fl₂ with
     | ret r=>
       obtain⟨rfl,h',tk,rfl,st,kp⟩:=hr₂
       repeat (any_goals (first | assumption | wp_step))
       exact h _ _ st kp
     | _=>exact hr₂.elim
 | _=>exact hr.elim
end
section
variable {X:Cx} {e:Expr} {te:TE} {p1 p2 pos1 pos2:Pos}
def uB (K:PySem.W.Frag) (te:TE):TE:=λσ H Q=>te σ H λx H1=>∃(a:Addr) (zs:List Str),x=.ref a/\SqL K H1 a (zs.map V.str)/\zs.length<=1000/\zs.Nodup/\Q (.int (zs.length:Nat)) H1
theorem k8 (hc:X.calm=true) (g1:Gl X "len") (m1:X.mg "len"=none) (g2:Gl X "set") (m2:X.mg "set"=none) (ha:JE X e te) (hs:starEach [e] X.env=[(false,eval e X.env)]:=by rfl) (hs3:starEach [.Call (.Name "set" p2) [e] [] pos2] X.env=[(false,eval (.Call (.Name "set" p2) [e] [] pos2) X.env)]:=by rfl):JE X (.Call (.Name "len" p1) [.Call (.Name "set" p2) [e] [] pos2] [] pos1) (uB X.K te):=.of (by
 have ha:=ha.to
 intro pins s σ H Q I h
 refine wpAny_Call_Name_kw (Qp I g1 m1 boot_len (PyProof.Rows.callWith_builtin1 (VT hs3 ?_) (by rw[hs3];rfl) rfl))
 refine wpAny_Call_Name_kw (Qp I g2 m2 boot_set (PyProof.Rows.callWith_type1 (VT hs (ji (ha pins s σ H _ I h) λu s1 ⟨x,H1,I1,r1,a,zs,ex,hq,hz,nd,q⟩=>?_)) (by rw[hs];rfl) rfl))
 subst ex
 cases r1
 obtain⟨its,rv,pl,_⟩:=I1.list hq
 have ln:its.length=zs.length:=by
   have:=rv.length
   rw[tj]at this
   exact this.symm
 refine yt (zs:=zs) (I1.ok.hd hc) pl.isList (by simp [ln]) nd (λi v e=>?_) (by simp only[tX,ln];show zs.length+1 < 4096;omega) λh' tk st kp=>?_
 . have e':its[i]?=some v:=by simpa using e
   have hi:i < zs.length:=by
     have:=(tq.mp e').1
     omega
   have h1:(zs.map V.str)[i]?=some (V.str zs[i]):=by rw[tH,tu hi];rfl
   obtain⟨w',hw,t',e2⟩:=rv.get h1
   rw[e']at hw
   cases hw
   exact⟨t',by rw[e2,zau,tu hi];rfl⟩
 . obtain⟨o,es,ep,t,ho,ex,hd,_,_,hb,hf,hn⟩:=st
   refine call_len_set ho ex hd hf (by have:es.size < 4096:=hb;omega) ⟨.int (zs.length:Nat),H1,(I1.kept (t':=tk) λb o e=>kp b o (tI e) e).tok _,⟨_,by rw[hn]⟩,q⟩)
end
open PySem PyProof.Rows
theorem YR {α:Type} {K:PySem.W.Frag} {a D:Addr} {xs:List α} {enc:α->V} {out:α->Option V} {rest:St} {H:Hp} {tt:TT} {te:TE} {Q:Hp->Prop} (hD:H D=none) (ha:H a=some (.lst (xs.map enc))) (len:xs.length < sizeLine)
   (ht:∀x∈xs,∀G,Same H G->∀R:Bool->Hp->Prop,(∀G',Same G G'->R (out x).isSome G')->tt (some (enc x)::rest) G R)
   (he:∀x∈xs,∀v,out x=some v->∀G,Same H G->∀R:V->Hp->Prop,(∀G',Same G G'->R v G')->te (some (enc x)::rest) G R)
   (k:∀G,Same H G->G D=some (.lst (xs.filterMap out))->Q G):YZ (Mn K a) (JB 0) tt te D (none::rest) H Q:=by
 have sD:Same H (upd H D (.lst [])):=λb o h=>by
   rw[qi (λe=>by rw[e,hD]at h;cases h)]
   exact h
 refine jw (K:=K) (a:=a) (xs:=xs.map enc) (λi σ' G=>(∃v0,σ'=v0::rest)/\Same H G/\G D=some (.lst ((xs.take i).filterMap out))) ⟨⟨none,rfl⟩,sD,qe⟩ (λi σ' G _ ⟨_,s,_⟩=>.of (s _ _ ha)) ?_ ?_
 . rintro i y σ' G hy ⟨⟨v0,rfl⟩,s,hG⟩
   rw[tH]at hy
   cases ex:xs[i]? with
   | none=>rw[ex]at hy;cases hy
   | some x=>
     rw[ex]at hy
     obtain rfl:=(tO.inj hy).symm
     have hx:x∈xs:=tQ ex
     have et:(xs.take (i+1)).filterMap out=(xs.take i).filterMap out++(out x).toList:=by
       rw[tM,ex,zbH]
       cases c:out x<;>simp [c]
     show tt (some (enc x)::rest) G _
     refine ht x hx G s _ λG1 s1=>?_
     cases c:out x with
     | none=>
       show if false=true then _ else _
       rw[if_neg tK]
       refine⟨⟨_,rfl⟩,λb o h=>s1 _ _ (s _ _ h),?_⟩
       rw[et,c]
       simpa using s1 _ _ hG
     | some v=>
       show if true=true then _ else _
       rw[if_pos rfl]
       refine he x hx v c G1 (λb o h=>s1 _ _ (s _ _ h)) _ λG2 s2=>?_
       refine⟨_,s2 _ _ (s1 _ _ hG),?_,⟨_,rfl⟩,?_,?_⟩
       . refine zaZ (zby _ _) ?_
         rw[tJ]
         omega
       . intro b o h
         rw[qi (λe=>by rw[e,hD]at h;cases h)]
         exact s2 _ _ (s1 _ _ (s _ _ h))
       . rw[et,c]
         exact qe
 . rintro σ' G ⟨_,s,hG⟩
   rw[tj,tF (tw _)]at hG
   exact k G s hG
open PySem PyProof.Rows
section
variable {prog:Program} {w:World} {KK:Type} [DecidableEq KK] {kd:HeapKind prog w KK} {A:Around} {E:Value->Shared->Prop} {s:Shared}
end
section
variable {X:Cx} {pins:List (Addr×Obj)} {σ:St} {H:Hp} {s:Shared} {a b:Addr} {v:V} {r:Value} {A:Around} {E:Value->Shared->Prop}
end
section
variable {X:Cx} {o e f:Expr} {apos cpos:Pos} {td ty tx:TE}
end
open PySem PyProof.Rows
section
variable {X:Cx}
end
section
variable {X:Cx} {pins:List (Addr×Obj)} {σ:St} {H:Hp} {s:Shared} {tg:Expr}
def wZ (o:Obj):Nat:=match o.data with
 | .dict _ ep=>ep
 | _=>0
theorem qC.freeze {a:Addr} {kvs:List (qF×V)} (I:qC X pins σ H s) (e:H a=some (.dK kvs)):∃o,qC X pins σ (upd H a (.frz o (.dK kvs))) s:=by
 obtain⟨z,hd,vs,rel,o,es,ep,ho,r⟩:=(show qM X.prog X.w H s.heap a (.dK kvs) from I.hok a _ e)
 have mu:Mg (H a):=by rw[e];exact True.intro
 have un:Un X.fs [] H (upd H a (.frz o (.dK kvs))) s.heap s.heap:=Un.write mu (.inl rfl) (λb u _ q=>q) ⟨o,ho⟩
 have ok:Je X.prog X.w (upd H a (.frz o (.dK kvs))) s.heap:=I.hok.write mu (.inl rfl) (λb u _ q=>q) ⟨o,ho⟩ ⟨ho,z,hd,vs,rel,o,es,ep,ho,r⟩
 exact⟨o,I.un (t':=s.toks) un ok⟩
def Itk (a:Addr) (o:Obj) (kvs:List (qF×V)) (zs:List Str):It:=
 ⟨λi H=>H a=some (.frz o (.dK kvs))/\i < zs.length,λi H x H'=>H'=H/\∃z,zs[i]?=some z/\x=.str z,λi H=>H a=some (.frz o (.dK kvs))/\i=zs.length⟩
theorem Ur {P:Program} {w:World} {h:Heap} {a:Addr} {o:Obj} {kvs:List (qF×V)} (ok:Je P w H h) (e:H a=some (.frz o (.dK kvs))):(a==sysModules)=false/\∃vs,KV kvs vs/\h.DictAt (qU P w) a vs (wZ o):=by
 obtain⟨ho,z,hd,vs,rel,o',es,ep,ho',ex,dat,r⟩:=(show qM P w H h a (.frz o (.dK kvs)) from ok a _ e)
 rw[ho]at ho'
 cases ho'
 refine⟨hd,vs,rel,o,es,ho,ex,?_,r⟩
 unfold wZ
 rw[dat]
theorem K1 {P:Program} {w:World} {kvs:List (qF×V)} {vs:List (qF×Value)} {zs:List Str} (rel:KV kvs vs) (ek:kvs.map (·.1)=zs.map Sum.inr) {i:Nat} {z:Str} {k:qF} {y v:Value} (ez:zs[i]?=some z) (f1:vs[i]?=some (k,y)) (f2:(qU P w).is k v=true):qL (.str z) v:=by
 have hi:i < kvs.length:=by
   have h1:=(tq.mp ez).1
   have h2:kvs.length=zs.length:=by simpa using congrArg zaB ek
   omega
 obtain⟨q',g1,g2,_⟩:=QH rel (tu hi)
 rw[f1]at g1
 cases g1
 have h1:(kvs.map (·.1))[i]?=some kvs[i].1:=by rw[tH,tu hi];rfl
 rw[ek,tH,ez]at h1
 have e3:k=Sum.inr z:=g2.symm.trans (tO.inj h1).symm
 subst e3
 rcases jf (show ZF (Sum.inr z) v=true from f2) with ⟨_,_,c,_⟩ | ⟨w',t,c,rfl⟩
 . cases c
 . cases c
   exact⟨t,rfl⟩
theorem kc {P:Program} {w:World} {K:PySem.W.Frag} (a it:Addr) (o:Obj) (kvs:List (qF×V)) (zs:List Str) (ek:kvs.map (·.1)=zs.map Sum.inr):WE P w K tg (Itk a o kvs zs) [it] it (λi h=>h.IsKeyIter it a i zs.length (wZ o)) where
 mem:=by simp
 obj:=λi h st b hb=>by
   have e:b=it:=by simpa using hb
   subst e
   obtain⟨o,e,c,d⟩:=st
   exact⟨o,e,λv z=>by rw[d]at z;cases z⟩
 keep:=λi h h' st k=>let ⟨o,e,r⟩:=st;⟨o,k it (by simp) o e,r⟩
 item:=by
   intro X hP hw hK hc i pins s σ H E I hf st hg
   subst hP hw hK
   obtain⟨f0,f1,f2,f3,f4,f5⟩:=hf it (by simp)
   obtain⟨ea,hi⟩:=hg
   obtain⟨_,vs,rel,dat⟩:=Ur I.hok ea
   have lv:vs.length=zs.length:=by
     have h1:kvs.length=zs.length:=by simpa using congrArg zaB ek
     rw[<-Paired.length rel,h1]
   have ne:a≠it:=λe=>by rw[e,f0]at ea;cases ea
   rw[<-lv]at st
   refine(Walks.dictKeys (I.ok.hd hc) it a ne vs (wZ o)).item i s _ _ (by omega) ⟨st,dat⟩ λv h' tk hv st' kk=>?_
   have I1:qC X pins σ H {s with heap:=h',toks:=tk}:=I.turned (λb o hb e=>kk b o (by simpa using hb) e) f0 f1 f3 f4 f5
   obtain⟨k,y,g1,g2⟩:=hv
   obtain⟨o2,e2,c2,d2⟩:=id st'.1
   refine⟨_,rfl,Vo (s:={s with heap:=h',toks:=tk}) e2 c2 d2 (by decide) ⟨.str zs[i],H,I1,K1 rel ek (tu hi) g1 g2,⟨rfl,_,tu hi,rfl⟩,?_,λb hb=>(hf b hb).1⟩⟩
   rw[<-lv]
   exact st'.1
 done:=by
   intro X hP hw hK hc i pins s σ H E I hf st hg
   subst hP hw hK
   obtain⟨f0,f1,f2,f3,f4,f5⟩:=hf it (by simp)
   obtain⟨ea,hi⟩:=hg
   obtain⟨_,vs,rel,dat⟩:=Ur I.hok ea
   have lv:vs.length=zs.length:=by
     have h1:kvs.length=zs.length:=by simpa using congrArg zaB ek
     rw[<-Paired.length rel,h1]
   have ne:a≠it:=λe=>by rw[e,f0]at ea;cases ea
   subst hi
   rw[<-lv]at st
   exact(Walks.dictKeys (I.ok.hd hc) it a ne vs (wZ o)).done s _ _ ⟨st,dat⟩ λh' tk kk=>⟨rfl,I.turned (λb o hb e=>kk b o (by simpa using hb) e) f0 f1 f3 f4 f5⟩
 self:=λ_ _ _ _ _ st h=>wpAny_pyIter_keyiter st h
def qb3 (tl:TE):TI:=λσ H R=>tl σ H λx H1=>∃a o kvs zs,x=.ref a/\H1 a=some (.frz o (.dK kvs))/\kvs.map (·.1)=zs.map Sum.inr/\R (Itk a o kvs zs) H1
theorem NV {l:Expr} {tl:TE} (hl:JE X l tl):JI X tg l (qb3 tl):=.of (by
 have hl:=hl.to
 intro pins s σ H R I h
 refine ji (hl pins s σ H _ I h) λv s1 ⟨x,H1,I1,r1,q1⟩=>?_
 obtain⟨a,o,kvs,zs,e,ea,ek,q⟩:=q1
 subst e
 cases r1
 obtain⟨hd,vs,rel,dat⟩:=Ur I1.hok ea
 have lv:vs.length=zs.length:=by
   have h1:kvs.length=zs.length:=by simpa using congrArg zaB ek
   rw[<-Paired.length rel,h1]
 refine wpAny_pyIter_dict hd dat ?_
 refine⟨s1.heap.objs.size,[s1.heap.objs.size],_,_,H1,rfl,I1.kept (t':=s1.toks) λb o e=>tz _ e,kc a _ o kvs zs ek,?_,λb hb=>?_,q⟩
 . rw[<-lv]
   exact⟨_,tU _ rfl,rfl,rfl⟩
 . have e:b=s1.heap.objs.size:=by simpa using hb
   subst e
   exact I1.fpOk (tw _) (I1.hok.fresh (tw _)))
end
section
variable {a:Addr} {o:Obj} {kvs:List (qF×V)} {zs:List Str} {g:TG} {σ:St} {H:Hp}
theorem Gu {tt:TT} {te:TE} {D:Addr} {Q:Hp->Prop} (Pv:Nat->St->Hp->Prop) (h0:Pv 0 σ (upd H D (.lst []))) (hl:∀i σ' H',i<=zs.length->Pv i σ' H'->H' a=some (.frz o (.dK kvs)))
   (hs:∀i z σ' H',zs[i]?=some z->Pv i σ' H'->g (.str z) σ' H' (XQ tt te D (Pv (i+1)))) (hd:∀σ' H',Pv zs.length σ' H'->Q H'):YZ (Itk a o kvs zs) g tt te D σ H Q:=
 YQ (n:=zs.length) Pv h0 (λi σ' H' hi p=>⟨⟨hl i σ' H' (zak hi) p,hi⟩,λx H2 y=>by
   obtain⟨e,z,ez,rfl⟩:=y
   subst e
   exact hs i z σ' _ ez p⟩) λσ' H' p=>⟨⟨hl _ σ' H' (tw _) p,rfl⟩,hd σ' H' p⟩
end
section
variable {P:Program} {w:World} {K:PySem.W.Frag} {mg:Str->Option Value} {base:Heap}
theorem jG.okX {CX:WH} {x qual:Str} {st:Stmt} {f:Addr} {fd:FuncData} {N ps:List Str} {k:Nat} {sp:Sp} (F:jG K x qual st f fd) (S:qr N ps (ql st)) (len:∀vs H Q E,sp vs H Q E->vs.length=ps.length)
   (hbody:∀(cdv:Value) (A:Around) (outer:List Env) (s:Shared) (H:Hp) (vs:List V) (Q:VK) (E:XK),qN k (A.deeper (envOfC qual (ql st) s.heap.objs.size f cdv))->sp vs H Q E->
     ∃t,WG (YK CX P w K mg base N qual (ql st) f cdv A outer s H E) (Ql st) t/\t {nx:=λ_ H'=>Q .non H',rt:=Q} (J5 N vs) H):qp P w K mg base CX (k+1) f fd ps sp:=by
 obtain⟨oc,od,kV,doc,pm,an,cdv,ct,osl,rfl,lk,hcd⟩:=F.ex
 refine RB lk hcd S len λA outer s H vs Q E hr hsp=>?_
 obtain⟨t,h,q⟩:=hbody cdv A outer s H vs Q E hr hsp
 exact⟨t,h.to,q⟩
end
section
variable {X:Cx} {es:List Expr} {t:TA} {pos:Pos}
end
section
variable {X:Cx}
def qbJ (K:PySem.W.Frag) (neg:Bool):R2:=λx y H Q=>∃d ds,DV K H x d/\DV K H y (.list ds)/\d.canLay0=true/\PyData.canLayAll0 ds=true/\d.depth<=40/\Q (.bl (if neg then !(ds.any λz=>PyData.eqv z d) else ds.any λz=>PyData.eqv z d)) H
theorem Nr (hu:X.A.units+64 < cLine):Jw X (compareOp .In) (qbJ X.K false):=by
 intro pins s σ H x y v u Q I rx ry h
 obtain⟨d,ds,h1,h2,c1,c2,dp,q⟩:=h
 obtain⟨as,ra⟩:=h1.reads I rx
 obtain⟨bs,rb⟩:=h2.reads I ry
 refine SeqAt.in_list_reads rb ra c2 c1 ?_ ⟨.bl _,H,I,rfl,q⟩
 have:=zcj (PyData.depthAll ds) d.depth
 omega
end
section
variable {X:Cx} {pins pins0:List (Addr×Obj)} {σ σ0:St} {H H0:Hp} {s s0:Shared}
theorem qC.thaw {a:Addr} {o:Obj} {kvs kvs0:List (qF×V)} (I0:qC X pins0 σ0 H0 s0) (e0:H0 a=some (.dK kvs0)) (I:qC X pins σ H s) (e:H a=some (.frz o (.dK kvs))):qC X pins σ (upd H a (.dK kvs)) s:=by
 have nn:∀b,H b=none->b≠a:=λb q z=>by rw[z,e]at q;cases q
 refine⟨I.ok,I.os,I.bare,⟨I.base.keep,I.base.slot,λb o' q n hx=>?_,I.base.there,λb xs q=>?_,λb o' u q=>?_,λb ps q=>?_⟩,I.loc,I.cell,?_,λx c q=>?_,λp hp=>?_,λb u q=>?_,I.len⟩
 . have:=I.base.free b o' q n hx
   rw[qi (nn b this)];exact this
 . have:=I.base.tups b xs q
   rw[qi (λz=>by rw[z,e]at this;cases this)];exact this
 . have h1:=I.base.frzs b o' u q
   have h2:=I0.base.frzs b o' u q
   rw[qi (λz=>by rw[z,e0]at h2;cases h2)];exact h1
 . obtain⟨m,h1⟩:=I.base.tbls b ps q
   exact⟨m,by rw[qi (λz=>by rw[z,e]at h1;cases h1)];exact h1⟩
 . rw[qi (nn _ I.free)];exact I.free
 . rw[qi (nn _ (I.freeC x c q))];exact I.freeC x c q
 . obtain⟨h1,h2,h3⟩:=I.pin p hp
   exact⟨h1,by rw[qi (nn _ h2)];exact h2,h3⟩
 . have own:∀c y,H c=some (.own y)->upd H a (.dK kvs) c=some (.own y):=λc y z=>by rw[qi (λw=>by rw[w,e]at z;cases z)];exact z
   have tup:∀c xs,H c=some (.tup xs)->upd H a (.dK kvs) c=some (.tup xs):=λc y z=>by rw[qi (λw=>by rw[w,e]at z;cases z)];exact z
   by_cases hb:b=a
   . subst hb
     rw[qe]at q
     cases q
     obtain⟨_,ok⟩:=(show qM X.prog X.w H s.heap b (.frz o (.dK kvs)) from I.hok b _ e)
     exact ok.stay (λc w _ z=>z) (λc z=>own c _ z) tup
   . rw[qi hb]at q
     exact(I.hok b u q).stay (λc w _ z=>z) (λc z=>own c _ z) tup
end
def Qv.thaw (D:Qv) (a:Addr) (o:Obj) (kvs:List (qF×V)):Qv:={nx:=λσ H=>H a=some (.frz o (.dK kvs))/\D.nx σ (upd H a (.dK kvs)),rt:=λv H=>H a=some (.frz o (.dK kvs))/\D.rt v (upd H a (.dK kvs)),bk:=λσ H=>H a=some (.frz o (.dK kvs))/\D.bk σ (upd H a (.dK kvs)),ct:=λσ H=>H a=some (.frz o (.dK kvs))/\D.ct σ (upd H a (.dK kvs))}
def M3 (ts:TS):TS:=λD σ H=>∃a kvs,H a=some (.dK kvs)/\∀o,ts (D.thaw a o kvs) σ (upd H a (.frz o (.dK kvs)))
theorem K2 {X:Cx} {st:Stmt} {ts:TS} (h:JS X st ts):JS X st (M3 ts):=.of (by
 have h:=h.to
 intro pins s σ H D I hw
 obtain⟨a,kvs,ea,q⟩:=hw
 obtain⟨o,I2⟩:=I.freeze ea
 refine wpAny_mono (h pins s σ _ _ I2 (q o)) (λf s1 z=>?_) (λ_ _ z=>z)
 cases f with
 | next=>obtain⟨σ1,H1,I1,e1,q1⟩:=z;exact⟨σ1,_,I.thaw ea I1 e1,q1⟩
 | brk=>obtain⟨σ1,H1,I1,e1,q1⟩:=z;exact⟨σ1,_,I.thaw ea I1 e1,q1⟩
 | cont=>obtain⟨σ1,H1,I1,e1,q1⟩:=z;exact⟨σ1,_,I.thaw ea I1 e1,q1⟩
 | ret u=>obtain⟨v,σ1,H1,I1,r1,e1,q1⟩:=z;exact⟨v,σ1,_,I.thaw ea I1 e1,r1,q1⟩)
section
variable {X:Cx}
theorem Rm {P:Program} {w:World} {H:Hp} {h:Heap} {a:Addr} {kvs:List (qF×V)} (ok:Je P w H h) (e:Rd H a (.dK kvs)):(a==sysModules)=false/\∃vs,KV kvs vs/\h.DictOf (qU P w) a vs:=by
 obtain⟨_,hd,vs,rel,d⟩:=e.ok ok
 exact⟨hd,vs,rel,d⟩
end
open PySem PyProof.Rows
theorem Gs {a D:Addr} {o:Obj} {kvs:List (qF×V)} {zs:List Str} {out:Str->Option V} {rest:St} {H:Hp} {tt:TT} {te:TE} {Q:Hp->Prop} (hD:H D=none) (ha:H a=some (.frz o (.dK kvs))) (len:zs.length < sizeLine)
   (ht:∀x∈zs,∀G,Same H G->∀R:Bool->Hp->Prop,(∀G',Same G G'->R (out x).isSome G')->tt (some (.str x)::rest) G R)
   (he:∀x∈zs,∀v,out x=some v->∀G,Same H G->∀R:V->Hp->Prop,(∀G',Same G G'->R v G')->te (some (.str x)::rest) G R)
   (k:∀G,Same H G->G D=some (.lst (zs.filterMap out))->Q G):YZ (Itk a o kvs zs) (JB 0) tt te D (none::rest) H Q:=by
 have sD:Same H (upd H D (.lst [])):=λb o h=>by
   rw[qi (λe=>by rw[e,hD]at h;cases h)]
   exact h
 refine Gu (λi σ' G=>(∃v0,σ'=v0::rest)/\Same H G/\G D=some (.lst ((zs.take i).filterMap out))) ⟨⟨none,rfl⟩,sD,qe⟩ (λi σ' G _ ⟨_,s,_⟩=>s _ _ ha) ?_ ?_
 . rintro i x σ' G ex ⟨⟨v0,rfl⟩,s,hG⟩
   have hx:x∈zs:=tQ ex
   have et:(zs.take (i+1)).filterMap out=(zs.take i).filterMap out++(out x).toList:=by
     rw[tM,ex,zbH]
     cases c:out x<;>simp [c]
   show tt (some (.str x)::rest) G _
   refine ht x hx G s _ λG1 s1=>?_
   cases c:out x with
   | none=>
     show if false=true then _ else _
     rw[if_neg tK]
     refine⟨⟨_,rfl⟩,λb o h=>s1 _ _ (s _ _ h),?_⟩
     rw[et,c]
     simpa using s1 _ _ hG
   | some v=>
     show if true=true then _ else _
     rw[if_pos rfl]
     refine he x hx v c G1 (λb o h=>s1 _ _ (s _ _ h)) _ λG2 s2=>?_
     refine⟨_,s2 _ _ (s1 _ _ hG),?_,⟨_,rfl⟩,?_,?_⟩
     . refine zaZ (zby _ _) ?_
       rw[tJ]
       omega
     . intro b o h
       rw[qi (λe=>by rw[e,hD]at h;cases h)]
       exact s2 _ _ (s1 _ _ (s _ _ h))
     . rw[et,c]
       exact qe
 . rintro σ' G ⟨_,s,hG⟩
   rw[tF (tw _)]at hG
   exact k G s hG
end L2
namespace HT
open PySem PySem.Spec PyProof.Rows
section
variable {prog:Program} {w:World} {A:Around} {E:Value->Shared->Prop} {s:Shared}
end
end HT
namespace L2
open PySem PySem.Spec PyProof.Rows
section
variable {X:Cx}
end
open PySem PyProof.Rows
section
variable {X:Cx} {CX:WH} {C:Addr->Sp->Prop} {E:St->XK} {x:Str} {p pos:Pos} {e:Expr} {es:List Expr} {t:TA} {i:Nat}
end
section
variable {M:Model} {A:Around} {F:Value->Shared->Prop} {s:Shared} {e:Addr} {cl:Value} {d:Option Addr} {vs:Array Value} {Q:Unit->Shared->Prop}
end
section
variable {X:Cx} {pins:List (Addr×Obj)} {σ:St} {H:Hp} {s:Shared} {M:Model} {F:Value->Shared->Prop} {Q:Unit->Shared->Prop} {a C dx:Addr}
end
section
variable {P:Program} {w:World} {K:PySem.W.Frag} {mg:Str->Option Value} {base:Heap} {N:List Str} {qual:Str} {scope:Scope} {f:Addr} {cd:Value} {A:Around} {outer:List Env} {s₀:Shared} {H₀:Hp} {E:XK}
end
section
variable {X:Cx}
end
def qaQ:Obj:={cls:=.type "cell",data:=.cell none}
structure OwnC (n:Nat) (l:List (Str×NameKind)) (cs cs':List (Str×Addr)) (h h':Heap):Prop where
 kp:∀b o,h.get? b=some o->h'.get? b=some o
 same:∀x,(x,NameKind.cell)∉l->cs'.lookup x=cs.lookup x
 own:∀x,(x,NameKind.cell)∈l->∃c,cs'.lookup x=some c/\n<=c/\h'.get? c=some qaQ
 inj:∀x y c,(x,NameKind.cell)∈l->(y,NameKind.cell)∈l->cs'.lookup x=some c->cs'.lookup y=some c->x=y
structure qcc (X:Cx) (N':List Str) (ix:List (Option Nat)) (scope:Scope):Prop where
 kind:scope.kind=.function
 nd:(scope.names.map (·.1)).Nodup
 frees:(scope.names.all λx=>x.2 != .free || (X.env.scope.names.lookup x.1==some .cell || X.env.scope.names.lookup x.1==some .free))=true
 ixs:K9 N' X.N scope X.env.scope ix=true
section
variable {X:Cx} {N':List Str} {ix:List (Option Nat)} {scope:Scope} {pins:List (Addr×Obj)} {σ:St} {H:Hp} {s:Shared}
end
section
variable {X:Cx} {N':List Str} {ix:List (Option Nat)} {scope:Scope}
end
section
variable {X:Cx} {CX:WH} {k:Nat} {f C:Addr} {fd:FuncData} {ps:List Str} {sp:Sp} {dvs:List V} {ds:List Value} {E:St->XK} {m:Str} {pos apos:Pos} {e o:Expr} {es:List Expr} {ta:TE} {t:TA}
end
theorem UV {zs:List Str}:∀{its:List Value},qE (zs.map V.str) its->StrsAre its zs:=by
 induction zs with
 | nil=>
   intro its h
   cases h
   exact .nil
 | cons z zs ih=>
   intro its h
   cases h with
   | cons a b=>
     obtain⟨t,rfl⟩:=a
     exact .cons z t (ih b)
theorem XT {zs:List Str} {its:List Value} (h:StrsAre its zs):qE (zs.map V.str) its:=by
 induction h with
 | nil=>exact .nil
 | cons x t h ih=>exact .cons ⟨t,rfl⟩ ih
def wc (a b:Str):Prop:=a.cps.toList<=b.cps.toList
theorem k4 {a b c:Str} (h:wc a b) (k:wc b c):wc a c:=List.le_trans h k
theorem wb {a b:Str} (h:wc a b) (k:wc b a):a=b:=by
 have e:a.cps.toList=b.cps.toList:=List.le_antisymm h k
 cases a
 cases b
 congr 1
 exact Array.toList_inj.mp e
theorem vq:∀(l:List Str) (p:Str),risingS p l=true->(∀x∈l,wc p x)/\l.Pairwise wc
 | [],_,_=>⟨λ_ h=>(nomatch h),.nil⟩
 | x::r,p,h=>by
   have h':(!ltCps x.cps.toList p.cps.toList&&risingS x r)=true:=h
   rw[zam]at h'
   obtain⟨h1,h2⟩:=h'
   obtain⟨i1,i2⟩:=vq r x h2
   have px:wc p x:=by
     have:ltCps x.cps.toList p.cps.toList=false:=by simpa using h1
     rw[ltCps_eq]at this
     exact List.not_lt.mp (of_decide_eq_false this)
   refine⟨λy hy=>?_,.cons i1 i2⟩
   rcases zaa.mp hy with rfl | hy
   . exact px
   . exact k4 px (i1 y hy)
theorem Xj:∀{l:List Str},sortedS l=true->l.Pairwise wc
 | [],_=>.nil
 | x::r,h=>let ⟨a,b⟩:=vq r x h;.cons a b
theorem vw:∀{l m:List Str},l.Perm m->l.Pairwise wc->m.Pairwise wc->l=m
 | [],m,p,_,_=>(zdr.nil_eq p)
 | a::l,[],p,_,_=>absurd p.length_eq (by simp)
 | a::l,b::m,p,hl,hm=>by
   rw[zcD]at hl hm
   have e:a=b:=by
     rcases zaa.mp (p.mem_iff.mp (t7 (a:=a) (l:=l))) with e | e
     . exact e
     . rcases zaa.mp (p.mem_iff.mpr (t7 (a:=b) (l:=m))) with e' | e'
       . exact e'.symm
       . exact wb (hl.1 b e') (hm.1 a e)
   subst e
   rw[vw (zdr.cons_inv p) hl.2 hm.2]
theorem kn {a b ys zs:List Str} (ha:a.Perm ys) (hb:b.Perm zs) (p:ys.Perm zs) (sa:sortedS a=true) (sb:sortedS b=true):a=b:=vw (ha.trans (p.trans hb.symm)) (Xj sa) (Xj sb)
section
variable {X:Cx}
def Nd (K:PySem.W.Frag):List V->Hp->VK->Prop:=λxs H Q=>∃(p:Addr) (zs:List Str),xs=[.ref p]/\SqL K H p (zs.map V.str)/\zs.length < 64/\∀l ys,H l=none->ys.Perm zs->sortedS ys=true->Q (.ref l) (upd H l (.lst (ys.map V.str)))
theorem Uv:j8 X (.builtin "sorted") (Nd X.K):=by
 intro pins s σ H xs us Q I r h
 obtain⟨p,zs,rfl,hq,h64,q⟩:=h
 obtain⟨u,rfl,ru⟩:=Qm r
 cases ru
 obtain⟨its,rv,pl,hz⟩:=I.list hq
 have ln:its.length=zs.length:=by
   have:=rv.length
   rw[tj]at this
   exact this.symm
 refine sorted_strs pl.isList (UV rv) (by omega) λout ss' h1 h2 h3=>?_
 obtain⟨e,he⟩:=sortedAll_at s.heap its out
 have lo:out.toList.length=ss'.length:=by
   have:=(XT h1).length
   rw[tj]at this
   exact this.symm
 have ls:ss'.length=zs.length:=h2.length_eq
 refine⟨.ref (s.heap.objs.size+1),_,I.laid (t':=s.toks) (λb o z=>sortedAll_old z) (zbw _) ?_,rfl,q _ ss' (I.hok.fresh (zbw _)) h2 h3⟩
 exact⟨by rw[tj,ls];exact zak (zdb h64 (by decide)),out.toList,e,XT h1,he⟩
end
open PySem PySem.Spec PyProof.Rows PySem.W
section
variable {X:Cx}
def Nf:List V->Hp->VK->Prop:=λxs H Q=>∃(a:Addr) (kvs:List (qF×V)) (zs:List Str),xs=[.ref a]/\H a=some (.dK kvs)/\kvs.map (·.1)=zs.map Sum.inr/\zs.length < 64/\∀l ys,H l=none->ys.Perm zs->sortedS ys=true->Q (.ref l) (upd H l (.lst (ys.map V.str)))
theorem Uw (hc:X.calm=true):j8 X (.builtin "sorted") Nf:=by
 intro pins s σ H xs us Q I r h
 obtain⟨a,kvs,zs,rfl,ea,ek,h64,q⟩:=h
 obtain⟨u,rfl,ru⟩:=Qm r
 cases ru
 obtain⟨zk,hd,vs,rel,dd⟩:=zt I.hok ea
 obtain⟨ep,dat⟩:=dd.dictAt
 have lk:kvs.length=zs.length:=by simpa using congrArg zaB ek
 have lv:kvs.length=vs.length:=Paired.length rel
 have hh:X.A.in1.handled=none:=I.ok.hd hc
 refine Calls.call_function_entry kind_sorted plain_sorted entry_sorted (args_sorted1 _) ?_
 unfold Builtin.«sorted»
 refine wpAny_bind (m:=checkCount "sorted" 1 1 _) (wpAny_pure ?_)
 refine wpAny_bind (kdu_collect (kdl_dict (knd:=qU X.prog X.w) (kvs:=vs) (ep:=ep) hd) hh dat (by rw[<-lv];exact zk) λh1 tk acc k1 it=>?_)
 have vv:qE (zs.map V.str) acc.toList:=by
   refine Z1 _ _ (by have:=it.1;simp only[tj,zaq];omega) λi x u e1 e2=>?_
   have e2':acc[i]?=some u:=by simpa using e2
   obtain⟨k,y,f1,f2⟩:=it.2 i u e2'
   rw[tH]at e1
   cases ez:zs[i]? with
   | none=>rw[ez]at e1;cases e1
   | some z=>
     rw[ez]at e1
     obtain rfl:=(tO.inj e1).symm
     have hi:i < kvs.length:=by
       have:=(tq.mp ez).1
       omega
     obtain⟨q',g1,g2,_⟩:=QH rel (tu hi)
     rw[f1]at g1
     cases g1
     have h1:(kvs.map (·.1))[i]?=some kvs[i].1:=by rw[tH,tu hi];rfl
     rw[ek,tH,ez]at h1
     have e3:k=Sum.inr z:=g2.symm.trans (tO.inj h1).symm
     subst e3
     rcases jf (show ZF (Sum.inr z) u=true from f2) with ⟨_,_,c,_⟩ | ⟨w',t,c,rfl⟩
     . cases c
     . cases c
       exact⟨t,rfl⟩
 have hS:=UV vv
 have la:acc.toList.length=zs.length:=by
   have:=vv.length
   rw[tj]at this
   exact this.symm
 generalize acc.toList=ws at vv hS la
 refine wpAny_bind (wpAny_newList ?_)
 have I1:qC X pins σ H {s with heap:=h1,toks:=tk}:=I.kept (t':=tk) k1
 show wpAny _ _ _ _ _ {s with heap:=h1.push (seqObj "list" ws.toArray 0),toks:=tk}
 have oL:(h1.push (seqObj "list" ws.toArray 0)).get? h1.objs.size=some (seqObj "list" ws.toArray 0):=tU _ rfl
 refine wpAny_bind (wpAny_holding (wpAny_call_entry slot_list_sort ⟨_,oL,rfl⟩ entry_list_sort (list_sort_treeK strKind_oneLt oL hS.keysOf (λv₁ v₂ rest e=>keyKind_strs (by rw[<-e];exact hS)) (by omega) λst' a1 a2=>⟨_,rfl,?_⟩) (args_list_sort _)))
 refine wpAny_pure ⟨_,rfl,?_⟩
 obtain⟨ss',b1,b2,b3⟩:=sorted_out_str hS a1 a2
 generalize (arrOf st').map (λx=>x.2)=out at b1
 have kf:∀b o,h1.get? b=some o->(sortedHeap (h1.push (seqObj "list" ws.toArray 0)) h1.objs.size ws out).get? b=some o:=λb o e=>by
   have lb:=tI e
   rw[sortedHeap_old (tR lb) (tI (tz _ e))]
   exact tz _ e
 obtain⟨c3,o3⟩:=sortedHeap_at (vs:=ws) (out:=out) oL
 have ls:ss'.length=zs.length:=b2.length_eq
 refine⟨.ref h1.objs.size,_,I1.laid (t':=tk) (o:=.lst (ss'.map V.str)) kf (tw _) ⟨by rw[tj,ls];exact zak (zdb h64 (by decide)),_,c3,XT b1,o3⟩,rfl,q _ ss' (I1.hok.fresh (tw _)) b2 b3⟩
end
section
variable {P:Program} {w:World} {K:PySem.W.Frag} {mg:Str->Option Value} {base:Heap} {CX:WH} {k:Nat} {f:Addr} {fd:FuncData} {ps:List Str} {sp sp':Sp}
theorem qp.toX (F:qp P w K mg base qI k f fd ps sp):qp P w K mg base CX k f fd ps sp:=
 ⟨F.len,λA outer s H args us vs Q E a b c d h=>codeAny_mono (F.run A outer s H args us vs Q E a b c d h) λz s' q=>by
   cases z with
   | error y=>exact(show False from q).elim
   | ok r=>
     cases r with
     | ret u=>exact q
     | _=>exact q⟩
theorem qp.either (F:qp P w K mg base CX k f fd ps sp) (G:qp P w K mg base CX k f fd ps sp'):qp P w K mg base CX k f fd ps (λvs H Q E=>sp vs H Q E\/sp' vs H Q E):=
 ⟨λvs H Q E h=>h.elim (F.len vs H Q E) (G.len vs H Q E),λA outer s H args us vs Q E a b c d h=>h.elim (F.run A outer s H args us vs Q E a b c d) (G.run A outer s H args us vs Q E a b c d)⟩
end
open PySem PySem.Spec PyProof.Rows PySem.W
section
variable {X:Cx}
def Nk:List V->Hp->VK->Prop:=λxs H Q=>∃(a:Addr) (kvs:List (qF×V)),xs=[.ref a]/\Rd H a (.dK kvs)/\∀p,H p=none->Q (.ref p) (upd H p (.dK kvs))
theorem Uy:j8 X (.type "dict") Nk:=by
 intro pins s σ H xs us Q I r h
 obtain⟨a,kvs,rfl,ea,q⟩:=h
 obtain⟨u,rfl,ru⟩:=Qm r
 cases ru
 exact ua I ea λp s' hp I'=>⟨.ref p,_,I',rfl,q p hp⟩
def qac (K:PySem.W.Frag):R2:=λx y H Q=>∃(a b:Addr) (kvs kws:List (qF×V)),x=.ref a/\y=.ref b/\Rd H a (.dK kvs)/\Rd H b (.dK kws)/\kvs.length=kws.length/\(∀p∈kvs,∃u d,qS kws p.1=some u/\DV K H p.2 d/\DV K H u d/\PySem.SeqAt.shaped d=true)/\Q (.bl true) H
theorem Kx (hu:X.A.units+70 < cLine):Jw X (compareOp .Eq) (qac X.K):=by
 intro pins s σ H x y v u Q I rx ry h
 obtain⟨a,b,kvs,kws,rfl,rfl,ea,eb,len,all,q⟩:=h
 cases rx
 cases ry
 obtain⟨hda,va,ra,da⟩:=Rm I.hok ea
 obtain⟨hdb,vb,rb,db⟩:=Rm I.hok eb
 have la:=Paired.length ra
 have lb:=Paired.length rb
 have hits:∀(l:List (qF×V)) (m:List (qF×Value)),KV l m->(∀p∈l,p∈kvs)->PySem.W.KeqHits X.A.in1 s vb m true:=by
   intro l m r
   induction r with
   | nil=>intro _;exact .nil
   | @cons p p' l m r1 r2 ih=>
     intro hin
     obtain⟨w1,d,e1,d1,d2,sh⟩:=all p (hin p (t7 ..))
     have rel:=rb.val p.1
     rw[e1]at rel
     obtain⟨k,y⟩:=p'
     obtain⟨ek,rv⟩:=r1
     cases hv:valueAt vb p.1 with
     | none=>rw[hv]at rel;exact rel.elim
     | some y'=>
       rw[hv]at rel
       obtain⟨as,r3⟩:=d1.reads I rv
       obtain⟨bs,r4⟩:=d2.reads I rel
       have e2:=PySem.W.keq_at (A:=X.A) (s:=s) r3 r4 sh sh (by show X.A.units+1+64 < cLine;omega)
       rw[YG sh]at e2
       have:=PySem.W.KeqHits.hit (A:=X.A.in1) (s:=s) (kb:=vb) (k:=k) (v:=y) (r:=m) (e:=true) (b:=true) (by have ek':p.1=k:=ek;rw[<-ek'];exact hv) e2 (ih λp hp=>hin p (tW _ hp))
       exact this
 refine PySem.W.keq_eq (r:=true) hda hdb da db (by omega) (λ_=>hits kvs va ra λ_ h=>h) ⟨.bl _,H,I,?_,q⟩
 show Value.bool _=Value.bool _
 rw[<-la,<-lb,len]
 simp
end
end L2
namespace Rb
def jV (ns:List Nat):Nat:=ns.foldl (·^^^ ·) 0
def setN (ns:List Nat):Nat:=ns.foldl (λb n=>b ||| 2^n) 0
def memN (b n:Nat):List Nat:=(zae n).filter λi=>b.testBit i
def Lacks (r:Nat) (ns:List Nat):Prop:=r∉ns/\∀x,x < r->x∈ns
theorem NH (x:Nat):x % 2=(x.testBit 0).toNat:=by
 rw[Nat.testBit_zero]
 rcases Nat.mod_two_eq_zero_or_one x with h | h<;>simp [h]
theorem or_and_xor (a:Nat):∀b,(a ||| b)=(a&&& b)+(a^^^b):=by
 induction a using zcq with
 | ind a ih=>
   intro b
   by_cases ha:a=0
   . subst ha;simp
   . have i:=ih (a / 2) (by omega) (b / 2)
     have o1:(a ||| b) / 2=(a / 2) ||| (b / 2):=Nat.or_div_two
     have n1:(a&&& b) / 2=(a / 2)&&& (b / 2):=Nat.and_div_two
     have x1:(a^^^b) / 2=(a / 2)^^^ (b / 2):=Nat.xor_div_two
     have m:(a ||| b) % 2=(a&&& b) % 2+(a^^^b) % 2:=by
       rw[NH (a ||| b),NH (a&&& b),NH (a^^^b),Nat.testBit_or,Nat.testBit_and,Nat.testBit_xor]
       cases a.testBit 0<;>cases b.testBit 0<;>rfl
     omega
theorem wQ (ns:List Nat):∀b k,(ns.foldl (λb n=>b ||| 2^n) b).testBit k=(b.testBit k || decide (k∈ns)):=by
 induction ns with
 | nil=>intro b k;simp
 | cons n ns ih=>
   intro b k
   rw[zcr,ih,Nat.testBit_or,Nat.testBit_two_pow]
   by_cases h:n=k
   . subst h;simp
   . have h':¬k=n:=λe=>h e.symm
     simp [h,h']
theorem Zs (ns:List Nat) (k:Nat):(setN ns).testBit k=decide (k∈ns):=by
 unfold setN
 rw[wQ]
 simp
theorem mem_memN {b n i:Nat}:i∈memN b n↔i < n/\b.testBit i=true:=by
 unfold memN
 simp
theorem WP {b k m:Nat} (h:b < 2^m) (hk:m<=k):b.testBit k=false:=Nat.testBit_lt_two_pow (tN h (Nat.pow_le_pow_right (by decide) hk))
theorem Xu {b m:Nat} (h:b < 2^m):∀n,m<=n->memN b n=memN b m:=by
 intro n hn
 obtain⟨k,rfl⟩:=Nat.le.dest hn
 unfold memN
 rw[List.range_add,zaJ]
 have e:((zae k).map (m+·)).filter (λi=>b.testBit i)=[]:=by
   rw[List.filter_eq_nil_iff]
   intro i hi
   obtain⟨j,_,rfl⟩:=tG.mp hi
   rw[WP h (zcR _ _)]
   simp
 rw[e,zaz]
theorem memN_same {b m n:Nat} (hm:b < 2^m) (hn:b < 2^n):memN b n=memN b m:=by
 by_cases h:m<=n
 . exact Xu hm n h
 . exact(Xu hn m (by omega)).symm
theorem vd {ns:List Nat} {m:Nat} (h:∀x∈ns,x < m):setN ns < 2^m:=by
 refine Nat.lt_pow_two_of_testBit _ λi hi=>?_
 rw[Zs]
 refine decide_eq_false λz=>?_
 have:=h i z
 omega
def turnN (b n m:Nat):Nat:=setN ((memN b m).map (·^^^n))
theorem xor_lt {a b m:Nat} (h1:a < 2^m) (h2:b < 2^m):a^^^b < 2^m:=Nat.xor_lt_two_pow h1 h2
theorem UI (a b:Nat):(a^^^b)^^^b=a:=by rw[zdw,Nat.xor_self,Nat.xor_zero]
theorem UN {b n m k:Nat} (hm:m<=2^k) (hn:n < 2^k):turnN b n m < 2^ (2^k):=by
 refine vd λx hx=>?_
 obtain⟨y,hy,rfl⟩:=tG.mp hx
 exact xor_lt (tN (mem_memN.mp hy).1 hm) hn
theorem pigeon:∀(n:Nat) (ns:List Nat),(∀x,x < n->x∈ns)->n<=ns.length:=by
 intro n
 induction n with
 | zero=>intro ns _;exact zap _
 | succ n ih=>
   intro ns h
   have hn:n∈ns:=h n (zaT n)
   have:=ih (ns.erase n) λx hx=>(zcn (by omega)).mpr (h x (zbL hx))
   rw[zcN hn]at this
   have hp:0 < ns.length:=zdc hn
   omega
theorem Lacks.uniq {r s:Nat} {ns:List Nat} (h:Lacks r ns) (g:Lacks s ns):r=s:=by
 rcases zbo r s with z | z | z
 . exact absurd (g.2 r z) h.1
 . exact z
 . exact absurd (h.2 s z) g.1
def Jt (ns:List Nat):Nat->Nat
 | 0=>0
 | i+1=>if Jt ns i∈ns then Jt ns i+1 else Jt ns i
theorem Uk (ns:List Nat):∀i,(∀x,x < Jt ns i->x∈ns)/\Jt ns i<=i/\(Jt ns i < i->Jt ns i∉ns):=by
 intro i
 induction i with
 | zero=>exact⟨λx hx=>absurd hx (zcp _),tw _,λh=>absurd h (zaw _)⟩
 | succ i ih=>
   obtain⟨h1,h2,h3⟩:=ih
   unfold Jt
   by_cases h:Jt ns i∈ns
   . rw[if_pos h]
     refine⟨λx hx=>?_,by omega,λhlt=>absurd h (h3 (by omega))⟩
     by_cases e:x=Jt ns i
     . rw[e];exact h
     . exact h1 x (by omega)
   . rw[if_neg h]
     exact⟨h1,by omega,λ_=>h⟩
theorem lackI_lacks (ns:List Nat):Lacks (Jt ns (ns.length+1)) ns:=by
 obtain⟨h1,h2,h3⟩:=Uk ns (ns.length+1)
 refine⟨h3 ?_,h1⟩
 have:=pigeon _ _ h1
 omega
def lackN (ns:List Nat):Nat:=Jt ns (ns.length+1)
theorem lackN_eq {r:Nat} {ns:List Nat} (h:Lacks r ns):r=lackN ns:=h.uniq (lackI_lacks ns)
theorem memN_succ (b i:Nat):memN b (i+1)=memN b i++(if b.testBit i then [i] else []):=by
 unfold memN
 rw[zcs,zaJ]
 congr 1
 by_cases h:b.testBit i=true
 . simp [h]
 . simp [h]
theorem testBit_div (b i:Nat):b.testBit i=decide (b / 2^i % 2=1):=by
 rw[Nat.testBit_eq_decide_div_mod_eq]
theorem zf (ns:List Nat) (n:Nat):jV (ns++[n])=jV ns^^^n:=by unfold jV;rw[zch];rfl
theorem setN_snoc (ns:List Nat) (n:Nat):setN (ns++[n])=setN ns ||| 2^n:=by unfold setN;rw[zch];rfl
end Rb
namespace MLab
def qbj (ns:List Nat):Nat:=ns.foldr (λa b=>a^^^b) 0
section
variable {α:Type} (G:α->List α)
structure Lab (ok:α->Prop) (num:α->Option Nat) (stp:α->Nat):Prop where
 cl:∀{x y},ok x->y∈G x->ok y
 n1:∀{x n m},ok x->num x=some n->m < n->∃y∈G x,num y=some m/\stp y < stp x
 n2:∀{x y n},ok x->num x=some n->y∈G x->num y≠some n
 n3:∀{x y n},ok x->num x=some n->y∈G x->(∀m,num y=some m->n < m)->∃z∈G y,num z=some n/\stp z < stp x
 n4:∀{x y n m},ok x->num x=some n->y∈G x->num y=some m->m < n->stp y < stp x
 e:∀{x m},ok x->num x=none->(∀j,j < m->∃y∈G x,num y=some j)->(∀y∈G x,num y≠some m)->∃y∈G x,num y=none/\∀z∈G y,num z≠some m
section
variable {β:Type} (M:β->List β)
mutual
inductive qaU:β->Prop
 | mk {a:β} (h:∀b∈M a,Won b):qaU a
inductive Won:β->Prop
 | mk {a b:β} (m:b∈M a) (h:qaU b):Won a
end
end
def mv:List α->List (List α)
 | []=>[]
 | x::h=>(G x).map (λy=>y::h)++(mv h).map (λb=>x::b)
theorem Wo:∀{a b:List α},b∈mv G a↔∃p x y q,a=p++x::q/\y∈G x/\b=p++y::q
 | [],b=>by
   constructor
   . intro h;simp [mv]at h
   . rintro⟨p,x,y,q,e,_⟩;simp at e
 | x::h,b=>by
   unfold mv
   rw[zai,tG,tG]
   constructor
   . rintro(⟨y,hy,rfl⟩ | ⟨b',hb,rfl⟩)
     . exact⟨[],x,y,h,rfl,hy,rfl⟩
     . obtain⟨p,u,y,q,rfl,hy,rfl⟩:=Wo.mp hb
       exact⟨x::p,u,y,q,rfl,hy,rfl⟩
   . rintro⟨p,u,y,q,e,hy,rfl⟩
     cases p with
     | nil=>
       cases e
       exact .inl ⟨y,hy,rfl⟩
     | cons v p=>
       cases e
       exact .inr ⟨p++y::q,Wo.mpr ⟨p,u,y,q,rfl,hy,rfl⟩,rfl⟩
variable {G} {ok:α->Prop} {num:α->Option Nat} {stp:α->Nat}
def qbO (num:α->Option Nat) (h:List α):List Nat:=h.filterMap num
def ends (num:α->Option Nat) (h:List α):Nat:=(h.filter λx=>(num x).isNone).length
def Drawn (G:α->List α) (num:α->Option Nat) (h:List α):Prop:=(∃p x q,h=p++x::q/\num x=none/\ends num (p++q)=0/\∀y∈G x,num y≠some (qbj (qbO num (p++q))))\/2<=ends num h
end
section
variable {α:Type} [DecidableEq α] (G:α->List α) (N:List α)
abbrev Rs (α:Type):=List (Nat×List α)
def jm (rs:Rs α) (z:α):Option Nat:=(rs.find? λr=>decide (z∈r.2)).map (·.1)
def Zc (rs:Rs α) (z:α):Nat:=rs.findIdx λr=>decide (z∈r.2)
def Mo (f:α->Option Nat) (x:α) (n:Nat):Prop:=(∀j,j < n->∃y∈G x,f y=some j)/\(∀y∈G x,f y≠some n)/\∀y∈G x,f y=none->∃z∈G y,f z=some n
structure uh (rs:Rs α) (n:Nat) (ns:List α):Prop where
 iff:∀x,x∈ns↔x∈N/\jm rs x=none/\Mo G (jm rs) x n
 sub:ns.Sublist N
inductive ze (n:Nat):Rs α->Rs α->Prop
 | stop {rs:Rs α} (h:uh G N rs n []):ze n rs rs
 | more {rs rs':Rs α} {ns:List α} (h:uh G N rs n ns) (ne:ns≠[]) (k:ze n (rs++[(n,ns)]) rs'):ze n rs rs'
inductive All:Nat->Rs α->Rs α->Prop
 | stop {n:Nat} {rs:Rs α} (h:uh G N rs n []):All n rs rs
 | more {n:Nat} {rs rs' rs'':Rs α} (h:ze G N n rs rs') (ne:rs'≠rs) (k:All (n+1) rs' rs''):All n rs rs''
variable {G N}
theorem JF {rs:Rs α} {n:Nat} {ns:List α} {z:α}:jm (rs++[(n,ns)]) z=match jm rs z with | some m=>some m | none=>if z∈ns then some n else none:=by
 unfold jm
 rw[List.find?_append]
 cases e:rs.find? (λr=>decide (z∈r.2)) with
 | some r=>rfl
 | none=>
   by_cases c:z∈ns
   . simp [c]
   . simp [c]
theorem zQ {rs:Rs α} {z:α}:jm rs z=none↔∀r∈rs,z∉r.2:=by
 unfold jm
 rw[Option.map_eq_none_iff,List.find?_eq_none]
 simp
theorem Ji {rs:Rs α} {n m:Nat} {ns:List α} {z:α} (h:jm rs z=some m):Zc (rs++[(n,ns)]) z=Zc rs z/\Zc rs z < rs.length:=by
 have ex:∃r∈rs,z∈r.2:=Classical.byContradiction λno=>by
   have:=zQ.mpr λr hr hz=>no ⟨r,hr,hz⟩
   rw[h]at this
   cases this
 obtain⟨r,hr,hz⟩:=ex
 have lt:Zc rs z < rs.length:=List.findIdx_lt_length_of_exists ⟨r,hr,decide_eq_true hz⟩
 refine⟨?_,lt⟩
 unfold Zc at lt ⊢
 rw[zds,if_pos lt]
theorem Kd {rs:Rs α} {n:Nat} {ns:List α} {z:α} (h:jm rs z=none) (hz:z∈ns):Zc (rs++[(n,ns)]) z=rs.length:=by
 have e:Zc rs z=rs.length:=by
   unfold Zc
   rw[List.findIdx_eq_length]
   intro r hr
   exact decide_eq_false (zQ.mp h r hr)
 unfold Zc at e ⊢
 rw[zds,if_neg (by rw[e];exact zaw _)]
 simp [hz,List.findIdx_cons]
variable (G N) in
structure RD (rs:Rs α) (n:Nat):Prop where
 inN:∀{x m},jm rs x=some m->x∈N
 le:∀{x m},jm rs x=some m->m<=n
 n1:∀{x k m},jm rs x=some k->m < k->∃y∈G x,jm rs y=some m/\Zc rs y < Zc rs x
 n2:∀{x y k},jm rs x=some k->y∈G x->jm rs y≠some k
 n3:∀{x y k},jm rs x=some k->y∈G x->(∀m,jm rs y=some m->k < m)->∃z∈G y,jm rs z=some k/\Zc rs z < Zc rs x
 n4:∀{x y k m},jm rs x=some k->y∈G x->jm rs y=some m->m < k->Zc rs y < Zc rs x
theorem ZJ {rs:Rs α} {n m:Nat} {ns:List α} {z:α} (h:jm rs z=some m):jm (rs++[(n,ns)]) z=some m:=by rw[JF,h]
theorem RC {rs:Rs α} {n:Nat} {ns:List α} {z:α} (h:jm rs z=none) (hz:z∈ns):jm (rs++[(n,ns)]) z=some n:=by
 rw[JF,h]
 exact if_pos hz
theorem Qb {rs:Rs α} {n m:Nat} {ns:List α} {z:α} (h:jm (rs++[(n,ns)]) z=some m):(jm rs z=some m/\Zc (rs++[(n,ns)]) z=Zc rs z/\Zc rs z < rs.length)\/(jm rs z=none/\z∈ns/\m=n/\Zc (rs++[(n,ns)]) z=rs.length):=by
 cases e:jm rs z with
 | some k=>
   rw[ZJ e]at h
   cases h
   exact .inl ⟨rfl,Ji e⟩
 | none=>
   rw[JF,e]at h
   by_cases c:z∈ns
   . have h:(if z∈ns then some n else none)=some m:=h
     rw[if_pos c]at h
     cases h
     exact .inr ⟨rfl,c,rfl,Kd e c⟩
   . have h:(if z∈ns then some n else none)=some m:=h
     rw[if_neg c]at h
     cases h
theorem wU {rs:Rs α} {n:Nat} {ns:List α} {z:α} (h:jm (rs++[(n,ns)]) z=none):jm rs z=none:=by
 cases e:jm rs z with
 | none=>rfl
 | some k=>rw[ZJ e]at h;cases h
theorem RD.more {rs:Rs α} {n:Nat} {ns:List α} (v:RD G N rs n) (r:uh G N rs n ns):RD G N (rs++[(n,ns)]) n:=by
 refine⟨λ{x m} h=>?_,λ{x m} h=>?_,λ{x k m} h lt=>?_,λ{x y k} h hy e=>?_,λ{x y k} h hy gt=>?_,λ{x y k m} h hy ey lt=>?_⟩
 . rcases Qb h with ⟨h,_⟩ | ⟨_,h,_⟩
   . exact v.inN h
   . exact((r.iff x).mp h).1
 . rcases Qb h with ⟨h,_⟩ | ⟨_,_,rfl,_⟩
   . exact v.le h
   . exact tw _
 . rcases Qb h with ⟨h,es,_⟩ | ⟨h,hx,rfl,es⟩
   . obtain⟨y,hy,ey,ly⟩:=v.n1 h lt
     exact⟨y,hy,ZJ ey,by rw[es,(Ji ey).1];exact ly⟩
   . obtain⟨y,hy,ey⟩:=((r.iff x).mp hx).2.2.1 m lt
     exact⟨y,hy,ZJ ey,by rw[es,(Ji (n:=k) (ns:=ns) ey).1];exact(Ji (n:=k) (ns:=ns) ey).2⟩
 . rcases Qb h with ⟨h,_⟩ | ⟨h,hx,rfl,_⟩
   . rcases Qb e with ⟨e,_⟩ | ⟨e1,hy',e2,_⟩
     . exact v.n2 h hy e
     . obtain⟨z,hz,ez,_⟩:=v.n3 h hy (λm q=>by rw[e1]at q;cases q)
       rw[e2]at ez
       exact((r.iff y).mp hy').2.2.2.1 z hz ez
   . have g:=((r.iff x).mp hx).2.2
     rcases Qb e with ⟨e,_⟩ | ⟨e,hy',_,_⟩
     . exact g.2.1 y hy e
     . obtain⟨z,hz,ez⟩:=g.2.2 y hy e
       exact((r.iff y).mp hy').2.2.2.1 z hz ez
 . rcases Qb h with ⟨h,es,_⟩ | ⟨h,hx,rfl,es⟩
   . obtain⟨z,hz,ez,lz⟩:=v.n3 h hy (λm q=>gt m (ZJ q))
     exact⟨z,hz,ZJ ez,by rw[es,(Ji ez).1];exact lz⟩
   . have bare:jm rs y=none:=by
       cases e:jm rs y with
       | none=>rfl
       | some m=>
         have:=gt m (ZJ e)
         have:=v.le e
         omega
     obtain⟨z,hz,ez⟩:=((r.iff x).mp hx).2.2.2.2 y hy bare
     exact⟨z,hz,ZJ ez,by rw[es,(Ji (n:=k) (ns:=ns) ez).1];exact(Ji (n:=k) (ns:=ns) ez).2⟩
 . rcases Qb h with ⟨h,es,_⟩ | ⟨h,hx,rfl,es⟩
   . rcases Qb ey with ⟨ey,es',_⟩ | ⟨_,_,em,_⟩
     . rw[es,es']
       exact v.n4 h hy ey lt
     . have:=v.le h
       omega
   . rcases Qb ey with ⟨ey,es',l'⟩ | ⟨_,_,rfl,_⟩
     . rw[es,es']
       exact l'
     . omega
variable (G N) in
def EP (rs:Rs α) (m:Nat):Prop:=∀x∈N,jm rs x=none->(∀j,j < m->∃y∈G x,jm rs y=some j)->(∀y∈G x,jm rs y≠some m)->∃y∈G x,jm rs y=none/\∀z∈G y,jm rs z≠some m
theorem wY {rs:Rs α} {n:Nat} (r:uh G N rs n []):EP G N rs n:=λx hx e lo hi=>Classical.byContradiction λno=>by
 refine absurd ((r.iff x).mpr ⟨hx,e,lo,hi,λy hy ey=>Classical.byContradiction λq=>no ⟨y,hy,ey,λz hz ez=>q ⟨z,hz,ez⟩⟩⟩) (by simp)
theorem Go {rs:Rs α} {n m:Nat} {ns:List α} (v:RD G N rs n) (r:uh G N rs n ns) (lt:m < n) (h:EP G N rs m):EP G N (rs++[(n,ns)]) m:=λx hx e lo hi=>by
 have old:∀{z j},j<=m->jm (rs++[(n,ns)]) z=some j->jm rs z=some j:=λ{z j} hj ez=>by
   rcases Qb ez with ⟨ez,_⟩ | ⟨_,_,rfl,_⟩
   . exact ez
   . omega
 obtain⟨y,hy,ey,ly⟩:=h x hx (wU e) (λj hj=>let ⟨y,hy,ey⟩:=lo j hj;⟨y,hy,old (by omega) ey⟩) (λy hy ey=>hi y hy (ZJ ey))
 refine⟨y,hy,?_,λz hz ez=>ly z hz (old (tw _) ez)⟩
 cases q:jm (rs++[(n,ns)]) y with
 | none=>rfl
 | some k=>
   rcases Qb q with ⟨q,_⟩ | ⟨_,hy',rfl,_⟩
   . rw[ey]at q;cases q
   . obtain⟨z,hz,ez⟩:=((r.iff y).mp hy').2.2.1 m lt
     exact absurd ez (ly z hz)
theorem Gd {n:Nat} {rs rs':Rs α} (g:ze G N n rs rs'):RD G N rs n->(∀m,m < n->EP G N rs m)->RD G N rs' n/\∀m,m<=n->EP G N rs' m:=by
 induction g with
 | stop r=>exact λv h=>⟨v,λm hm=>by
     rcases zbQ m n with c | c
     . exact h m c
     . have:m=n:=by omega
       subst this
       exact wY r⟩
 | more r ne k ih=>exact λv h=>ih (v.more r) λm hm=>Go v r hm (h m hm)
theorem Mc (cl:∀x∈N,∀y∈G x,y∈N) {n:Nat} {rs rs':Rs α} (a:All G N n rs rs'):RD G N rs n->(∀x m,jm rs x=some m->m < n)->(∀m,m < n->EP G N rs m)->Lab G (·∈N) (jm rs') (Zc rs'):=by
 induction a with
 | @stop n rs r=>
   intro v lt h
   refine⟨λ{x y} hx hy=>cl x hx y hy,λ{x n m} _=>v.n1,λ{x y n} _=>v.n2,λ{x y n} _=>v.n3,λ{x y n m} _=>v.n4,λ{x m} hx e lo hi=>?_⟩
   rcases zbo m n with c | rfl | c
   . exact h m c x hx e lo hi
   . exact wY r x hx e lo hi
   . obtain⟨y,_,ey⟩:=lo n c
     have:=lt y n ey
     omega
 | @more n rs rs1 rs2 g ne k ih=>
   intro v lt h
   obtain⟨v',h'⟩:=Gd g v h
   exact ih ⟨v'.inN,λ{x m} e=>Nat.le_succ_of_le (v'.le e),v'.n1,v'.n2,v'.n3,v'.n4⟩ (λx m e=>Nat.lt_succ_of_le (v'.le e)) λm hm=>h' m (by omega)
theorem uz (n:Nat):RD G N ([]:Rs α) n:=⟨λh=>(nomatch h),λh=>(nomatch h),λh=>(nomatch h),λh=>(nomatch h),λh=>(nomatch h),λh=>(nomatch h)⟩
theorem wg (cl:∀x∈N,∀y∈G x,y∈N) {rs:Rs α} (a:All G N 0 [] rs):Lab G (·∈N) (jm rs) (Zc rs):=Mc cl a (uz 0) (λx m h=>(nomatch h)) λm h=>absurd h (zcp m)
end
end MLab
namespace Rb
theorem Jg {b n k:Nat} (hn:n < 16):(turnN b n 16).testBit k=(decide (k < 16)&&b.testBit (k^^^n)):=by
 unfold turnN
 rw[Zs,zaS,decide_eq_true_iff,zam,decide_eq_true_iff,tG]
 constructor
 . rintro⟨y,hy,rfl⟩
   obtain⟨h1,h2⟩:=mem_memN.mp hy
   exact⟨xor_lt (m:=4) h1 hn,by rw[UI];exact h2⟩
 . rintro⟨h1,h2⟩
   exact⟨k^^^n,mem_memN.mpr ⟨xor_lt (m:=4) h1 hn,h2⟩,UI k n⟩
theorem ke {b x y:Nat} (hx:x < 16) (hy:y < 16):turnN (turnN b x 16) y 16=turnN b (x^^^y) 16:=by
 refine Nat.eq_of_testBit_eq λk=>?_
 have hxy:x^^^y < 16:=xor_lt (m:=4) hx hy
 rw[Jg hy,Jg hx,Jg hxy,zdw,Nat.xor_comm y x]
 by_cases hk:k < 16
 . rw[decide_eq_true hk,decide_eq_true (xor_lt (m:=4) hk hy)]
   simp
 . rw[decide_eq_false hk]
   simp
theorem yE (n:Nat):turnN 0 n 16=0:=by
 unfold turnN
 have e:memN 0 16=[]:=by decide
 rw[e]
 rfl
inductive W where
 | num (n:Nat)
 | edl (b:Nat)
deriving DecidableEq
def ZA:W->W->W
 | .num a,.num b=>.num (a^^^b)
 | .num a,.edl b=>.edl (turnN b a 16)
 | .edl b,.num a=>.edl (turnN b a 16)
 | .edl _,.edl _=>.edl 0
def YW:W->Prop
 | .num n=>n < 16
 | .edl b=>b < 65536
def ZC (ws:List W):List Nat:=ws.filterMap λ| .num n=>some n | .edl _=>none
def zX (ws:List W):List Nat:=ws.filterMap λ| .num _=>none | .edl b=>some b
def ZR (ws:List W):W:=match zX ws with
 | []=>.num (jV (ZC ws))
 | [b]=>.edl (turnN b (jV (ZC ws)) 16)
 | _=>.edl 0
theorem yk (ns:List Nat):∀a,ns.foldl (·^^^ ·) a=a^^^jV ns:=by
 induction ns with
 | nil=>intro a;simp [jV]
 | cons n ns ih=>
   intro a
   unfold jV
   rw[zcr,zcr,ih (a^^^n),ih (0^^^n),Nat.zero_xor,zdw]
theorem WK (n:Nat) (ns:List Nat):jV (n::ns)=n^^^jV ns:=by
 show ns.foldl (·^^^ ·) (0^^^n)=_
 rw[yk,Nat.zero_xor]
theorem Xa {ns:List Nat} (h:∀x∈ns,x < 16):jV ns < 16:=by
 induction ns with
 | nil=>decide
 | cons n ns ih=>
   rw[WK]
   exact xor_lt (m:=4) (h n (t7 ..)) (ih λx hx=>h x (tW _ hx))
theorem vD {ws:List W} (h:∀w∈ws,YW w):∀x∈ZC ws,x < 16:=by
 intro x hx
 obtain⟨w,hw,e⟩:=zbD.mp hx
 cases w with
 | num n=>cases e;exact h _ hw
 | edl b=>cases e
theorem kS (ws:List W) (w:W):ZC (ws++[w])=ZC ws++(match w with | .num n=>[n] | .edl _=>[]):=by
 unfold ZC
 rw[zbH]
 cases w<;>rfl
theorem kq (ws:List W) (w:W):zX (ws++[w])=zX ws++(match w with | .num _=>[] | .edl b=>[b]):=by
 unfold zX
 rw[zbH]
 cases w<;>rfl
theorem yF {ws:List W} {w:W} (h:∀w∈ws,YW w) (hw:YW w):ZR (ws++[w])=ZA (ZR ws) w:=by
 have hl:=Xa (vD h)
 unfold ZR
 rw[kq,kS]
 cases w with
 | num n=>
   simp only[zaz]
   have e:jV (ZC ws++[n])=jV (ZC ws)^^^n:=zf _ _
   cases hs:zX ws with
   | nil=>simp only[e];rfl
   | cons b r=>
     cases r with
     | nil=>
       simp only[e]
       show W.edl _=W.edl _
       rw[ke hl hw]
     | cons c r=>
       show W.edl 0=W.edl _
       rw[yE]
 | edl b=>
   simp only[zaz]
   cases hs:zX ws with
   | nil=>rfl
   | cons c r=>
     cases r with
     | nil=>rfl
     | cons c2 r=>rfl
theorem yG {ws:List W} (h:∀w∈ws,YW w):YW (ZR ws):=by
 have hl:=Xa (vD h)
 unfold ZR
 split
 . exact hl
 . exact UN (k:=4) (tw _) hl
 . show 0 < 65536;decide
theorem wR {ws:List W} (h:∀w∈ws,YW w):∀i,i<=ws.length->(ws.take i).foldl ZA (.num 0)=ZR (ws.take i):=by
 intro i
 induction i with
 | zero=>intro _;rfl
 | succ i ih=>
   intro hi
   have hlt:i < ws.length:=hi
   have e:ws.take (i+1)=ws.take i++[ws[i]]:=by rw[tM,tu hlt];rfl
   rw[e,zch,ih (zak hlt),yF (λw hw=>h w (zbn hw)) (h _ (zbA hlt))]
   rfl
theorem Vr {ws:List W} (h:∀w∈ws,YW w):ws.foldl ZA (.num 0)=ZR ws:=by
 have:=wR h ws.length (tw _)
 rw[tF (tw _)]at this
 exact this
end Rb
namespace MLab
section
variable {α:Type} (G:α->List α)
def mvs (b:α×Nat):List (α×Nat):=(G b.1).map (λy=>(y,b.2))++(zae b.2).map λk=>(b.1,k)
def gS:α ⊕ Nat->List (α ⊕ Nat)
 | .inl z=>(G z).map .inl
 | .inr h=>(zae h).map .inr
def Uc (num:α->Option Nat):α ⊕ Nat->Option Nat
 | .inl z=>num z
 | .inr h=>some h
variable {G} {ok:α->Prop} {num:α->Option Nat} {stp:α->Nat}
end
section
variable {β:Type} {M:β->List β}
end
end MLab
namespace MRing
section
variable {α:Type} (G:α->List α)
def UB (T:List α):Prop:=∀z∈T,∃y∈G z,y∈T
structure UD (r:List α):Prop where
 ne:r≠[]
 nd:r.Nodup
 go:∀(i:Nat) (x y:α),r[i]?=some x->(r.drop 1++r.take 1)[i]?=some y->y∈G x
variable {G}
theorem UO {r:List α} {i:Nat} (h:i+1 < r.length):(r.drop 1++r.take 1)[i]?=r[i+1]?:=by
 rw[t8 (by rw[zaU];omega),zaK,Nat.add_comm]
theorem WO {r:List α} {i:Nat} (h:i+1=r.length):(r.drop 1++r.take 1)[i]?=r[0]?:=by
 rw[zab (by rw[zaU];omega),zaU,zbb]
 rw[if_pos (by omega)]
 congr 1
 omega
theorem UD.trap {r:List α} (h:UD G r):UB G r:=λz hz=>by
 obtain⟨i,hi,e⟩:=zcv hz
 have ei:r[i]?=some z:=by rw[tu hi,e]
 by_cases c:i+1 < r.length
 . exact⟨r[i+1],h.go i z _ ei (by rw[UO c,tu c]),zbA c⟩
 . have h0:0 < r.length:=by omega
   exact⟨r[0],h.go i z _ ei (by rw[WO (by omega),tu h0]),zbA h0⟩
theorem Kk {w:List α} {n:α} {j:Nat} (nd:w.Nodup) (chain:∀(i:Nat) (x y:α),w[i]?=some x->w[i+1]?=some y->y∈G x) (last:∀x,w[w.length - 1]?=some x->n∈G x) (hj:w[j]?=some n):UD G (w.drop j):=by
 have jl:j < w.length:=(tq.mp hj).1
 have ld:(w.drop j).length=w.length - j:=zaU
 refine⟨λe=>?_,nd.sublist (List.drop_sublist j w),λi x y ex ey=>?_⟩
 . have:=congrArg zaB e
   rw[ld]at this
   simp at this
   omega
 . have il:i < (w.drop j).length:=(tq.mp ex).1
   have ex':w[j+i]?=some x:=by rw[<-zaK];exact ex
   by_cases c:i+1 < (w.drop j).length
   . rw[UO c,zaK]at ey
     exact chain (j+i) x y ex' (by rw[<-ey];congr 1)
   . rw[WO (by omega),zaK,Nat.add_zero,hj]at ey
     obtain rfl:=tO.inj ey
     exact last x (by rw[<-ex'];congr 1;omega)
theorem VM {T S:List α} {z:α} (t:UB G T) (d:∀y∈T,y∉S) (h:∀y∈G z,y∈S):z∉T:=λhz=>by
 obtain⟨y,hy,hT⟩:=t z hz
 exact d y hT (h y hy)
end
end MRing
namespace MLab
section
variable {α:Type} {G:α->List α}
def Stl (G:α->List α) (zs:List α):Prop:=∀(i:Nat) (z:α),zs[i]?=some z->∀y∈G z,∃j,j < i/\zs[j]?=some y
structure Lst (f:α->Nat) (ys:List α) (n:Nat):Prop where
 lo:∀j,j < n->∃y∈ys,f y=j
 no:∀y∈ys,f y≠n
theorem Lst.uniq {f:α->Nat} {ys:List α} {n m:Nat} (a:Lst f ys n) (b:Lst f ys m):n=m:=by
 rcases zbo n m with c | c | c
 . obtain⟨y,hy,e⟩:=b.lo n c
   exact absurd e (a.no y hy)
 . exact c
 . obtain⟨y,hy,e⟩:=a.lo m c
   exact absurd e (b.no y hy)
theorem Xn {ok:α->Prop} {num:α->Option Nat} {stp:α->Nat} (L:Lab G ok num stp) {zs:List α} {f:α->Nat} (st:Stl G zs) (hok:∀z∈zs,ok z) (hf:∀z∈zs,Lst f (G z) (f z)):
   ∀(i:Nat) (z:α),zs[i]?=some z->num z=some (f z):=by
 intro i
 induction i using zcq with
 | _ i ih=>
   intro z ez
   have hz:=tQ ez
   have nb:∀y∈G z,num y=some (f y):=λy hy=>by
     obtain⟨j,hj,ey⟩:=st i z ez y hy
     exact ih j hj y ey
   have l:=hf z hz
   cases e:num z with
   | none=>
     obtain⟨y,hy,ey,_⟩:=L.e (hok z hz) e (m:=f z) (λj hj=>by
       obtain⟨y,hy,ej⟩:=l.lo j hj
       exact⟨y,hy,by rw[nb y hy,ej]⟩) (λy hy z'=>by
       rw[nb y hy]at z'
       exact l.no y hy (tO.inj z'))
     rw[nb y hy]at ey
     cases ey
   | some n=>
     rcases zbo n (f z) with c | c | c
     . obtain⟨y,hy,ej⟩:=l.lo n c
       exact absurd (by rw[nb y hy,ej]) (L.n2 (hok z hz) e hy)
     . rw[c]
     . obtain⟨y,hy,ey,_⟩:=L.n1 (hok z hz) e c
       rw[nb y hy]at ey
       exact absurd (tO.inj ey) (l.no y hy)
variable [DecidableEq α]
def rk (zs:List α) (z:α):Nat:=zs.idxOf z
theorem Rk {zs:List α} (nd:zs.Nodup) {i:Nat} {z:α} (h:zs[i]?=some z):rk zs z=i:=by
 obtain⟨hi,e⟩:=tq.mp h
 unfold rk
 rw[<-e]
 exact nd.idxOf_getElem i hi
theorem Kj {zs:List α} (nd:zs.Nodup) (st:Stl G zs) {z y:α} (hz:z∈zs) (hy:y∈G z):rk zs y < rk zs z/\y∈zs:=by
 obtain⟨i,hi⟩:=zah hz
 obtain⟨j,hj,ey⟩:=st i z hi y hy
 rw[Rk nd hi,Rk nd ey]
 exact⟨hj,tQ ey⟩
def uo (zs h:List α):Nat:=(h.map (rk zs)).sum
theorem Nb {zs:List α} (nd:zs.Nodup) (st:Stl G zs) {h b:List α} (hk:∀x∈h,x∈zs) (m:b∈mv G h):uo zs b < uo zs h/\∀x∈b,x∈zs:=by
 obtain⟨p,x,y,q,rfl,hy,rfl⟩:=(Wo G).mp m
 obtain⟨l,hyz⟩:=Kj nd st (hk x (by simp)) hy
 refine⟨?_,λw hw=>?_⟩
 . unfold uo
   simp only[tE,tS,zcd,zaN]
   omega
 . rcases zai.mp hw with hw | hw
   . exact hk w (zaR _ hw)
   . rcases zaa.mp hw with rfl | hw
     . exact hyz
     . exact hk w (zan _ (tW _ hw))
theorem Nc {zs h:List α} (hk:∀x∈h,x∈zs):uo zs h<=h.length*(zs.length - 1):=by
 induction h with
 | nil=>exact zap _
 | cons x h ih=>
   have h1:=ih λw hw=>hk w (tW _ hw)
   have h2:rk zs x < zs.length:=List.idxOf_lt_length_of_mem (hk x t7)
   unfold uo at h1 ⊢
   rw[tS,zaN,zat,Nat.add_mul]
   omega
end
end MLab
namespace Rh
open PySem L2
def top (i:Nat):Stmt:=PySem.Challenge.pw_ringheaps_k87_whole_plain_numbers.main.body.getD i (.Pass ⟨0,0,0,0⟩)
abbrev Zx:Stmt:=top 26
abbrev vm:Stmt:=top 69
abbrev zK:Stmt:=top 70
abbrev J6:Stmt:=top 71
abbrev ZZ:Stmt:=top 72
abbrev Yb:Stmt:=top 73
abbrev vf:Stmt:=top 74
abbrev Wb:Stmt:=top 85
open PySem L2 PyProof.Rows
structure qQ (K:PySem.W.Frag) (mg:Str->Option Value) (x:Str) (st:Stmt) (ps:List Str) (f:Addr) (fd:FuncData):Prop where
 fn:jG K x x st f fd
 ns:mg x=some (.ref f)
 bi:jH K fd ps []
theorem qG {X:Cx} {x:Str} {st:Stmt} {ps:List Str} {f:Addr} {fd:FuncData} {k:Nat} {sp:Sp} {e:Expr} {es:List Expr} {t:TA} {p pos:Pos} (h:qQ X.K X.mg x st ps f fd) (G:qp X.prog X.w X.K X.mg X.base qI k f fd ps sp) (hr:qN k X.A)
   (hg:Gl X x) (ha:JA X (e::es) t) (hdb:(x==("__debug__":Str))=false:=by decide) (he:starEach (e::es) X.env=(false,eval e X.env)::starEach es X.env:=by rfl) (hpl:(backTo pos (starEach es X.env)).any (·.1)=false:=by rfl):
   JE X (.Call (.Name x p) (e::es) [] pos) (Xh sp [] E0 t):=.of (Ks G hr hg h.ns h.fn.kp h.bi .nil QB ha.to hdb he hpl)
theorem qj {H:Hp} {b p:Addr} {o o':HO} (h:H b=some o) (hp:H p=none):upd H p o' b=some o:=by
 rw[qi (qz h hp)]
 exact h
theorem qk {H:Hp} {p:Addr} {o:HO} (hp:H p=none):Same H (upd H p o):=λb u h=>qj h hp
theorem Same.upd {H H':Hp} {p:Addr} {o:HO} (s:Same H H') (hp:H p=none):Same H (upd H' p o):=λb u h=>by
 rw[qi (qz h hp)]
 exact s b u h
def src (n s t:Int):List (qF×V):=[(Sum.inr "number",.int n),(Sum.inr "seed",.int s),(Sum.inr "turn",.int t)]
theorem nns:¬(Str.ofString "number")=Str.ofString "seed":=by decide+kernel
theorem nnt:¬(Str.ofString "number")=Str.ofString "turn":=by decide+kernel
theorem nst:¬(Str.ofString "seed")=Str.ofString "turn":=by decide+kernel
theorem nsn:¬(Str.ofString "seed")=Str.ofString "number":=by decide+kernel
theorem ntn:¬(Str.ofString "turn")=Str.ofString "number":=by decide+kernel
theorem nts:¬(Str.ofString "turn")=Str.ofString "seed":=by decide+kernel
theorem wG {a b:Str} (h:¬a=b):¬(Sum.inr a:qF)=Sum.inr b:=λe=>h (Sum.inr.inj e)
section
variable {H:Hp} {d:Addr} {n s t:Int}
theorem gN (h:H d=some (.dK (src n s t))):jU H d (.str "number") (some (.int n)):=by
 have e:qS (src n s t) (Sum.inr "number":qF)=some (.int n):=jn rfl
 have q:=jU.k (k:=(Sum.inr "number":qF)) h
 rw[e]at q
 exact q
theorem gS (h:H d=some (.dK (src n s t))):jU H d (.str "seed") (some (.int s)):=by
 have e:qS (src n s t) (Sum.inr "seed":qF)=some (.int s):=(jh (wG nns)).trans (jn rfl)
 have q:=jU.k (k:=(Sum.inr "seed":qF)) h
 rw[e]at q
 exact q
theorem gT (h:H d=some (.dK (src n s t))):jU H d (.str "turn") (some (.int t)):=by
 have e:qS (src n s t) (Sum.inr "turn":qF)=some (.int t):=(jh (wG nnt)).trans ((jh (wG nst)).trans (jn rfl))
 have q:=jU.k (k:=(Sum.inr "turn":qF)) h
 rw[e]at q
 exact q
theorem MN:(src n s t).length < sizeLine:=qo (by show 3<=1000;decide)
theorem pN (h:H d=some (.dK (src n s t))) (v:Int):Jc H d (.str "number") (.int v) (upd H d (.dK (src v s t))):=by
 have e:jT (src n s t) (Sum.inr "number":qF) (.int v)=src v s t:=by
   unfold jT src
   simp [nsn,ntn]
 have q:=Jc.k (k:=(Sum.inr "number":qF)) (v:=.int v) h MN
 rw[e]at q
 exact q
theorem pT (h:H d=some (.dK (src n s t))) (v:Int):Jc H d (.str "turn") (.int v) (upd H d (.dK (src n s v))):=by
 have e:jT (src n s t) (Sum.inr "turn":qF) (.int v)=src n s v:=by
   unfold jT src
   simp [nnt,nst]
 have q:=Jc.k (k:=(Sum.inr "turn":qF)) (v:=.int v) h MN
 rw[e]at q
 exact q
end
def Jh:Sp:=λvs H Q _=>∃(d:Addr) (m n s t:Int),vs=[.ref d,.int m]/\H d=some (.dK (src n s t))/\0 < m/\m.natAbs < 2^200/\∀r n' t',0<=r->r < m->Q (.int r) (upd H d (.dK (src n' s t')))
def WV:Sp:=λvs H Q _=>∃c:Int,vs=[.int c]/\∀d n s,H d=none->Q (.ref d) (upd H d (.dK (src n s 0)))
def y7 (K:PySem.W.Frag):Sp:=λvs H Q _=>∃(a:Addr) (ns:List Int) (k:Int),vs=[.ref a,.int k]/\SqL K H a (ns.map V.int)/\0<=k/\∀v,Q (.int v) H
section
variable {P:Program} {w:World} {K:PySem.W.Frag} {mg:Str->Option Value} {base:Heap}
theorem XZ:qr ["_law_source_here","_law_many","_law_digit","_law_number"] ["_law_source_here","_law_many"] (ql J6):=⟨rfl,rfl,rfl,by decide+kernel,rfl,by decide+kernel,by decide+kernel⟩
theorem Jl {f:Addr} {fd:FuncData} (F:jG K "_law_take" "_law_take" J6 f fd):qp P w K mg base qI 1 f fd ["_law_source_here","_law_many"] Jh:=by
 refine F.okJ XZ (λvs H Q E h=>?_) (λcdv A outer s H vs Q E hr h=>?_)
 . obtain⟨d,m,n,sd,t,rfl,_⟩:=h
   rfl
 . obtain⟨d,m,n,sd,t,rfl,hd,m0,m1,k⟩:=h
   have hu:=jS hr
   refine⟨_,qg (qK (qt zm (jk hu (jv 0) jr (λ_ _=>rfl)) qm (qA _))
       (qg (qw (i:=2) XZ.nd rfl (Or.inl rfl) (qO Jk (jk hu (jv 0) jr (λ_ _=>rfl)) (jv 1)))
       (qg (jC hu (jv 0) jr (qO xJ (jk hu (jv 0) jr (λ_ _=>rfl)) (jv 1)) rfl)
       (qh (qu (jv 2))))) qB)
     (qg (jC hu (jv 0) jr (qO Qo (jk hu (jv 0) jr (λ_ _=>rfl)) qm) rfl)
     (qg (qw (i:=3) XZ.nd rfl (Or.inl rfl) (qO Jk (qO QY (qO Qo (jk hu (jv 0) jr (λ_ _=>rfl)) (qO QY qm (jk hu (jv 0) jr (λ_ _=>rfl)))) qm) qm))
     (qg (qw (i:=3) XZ.nd rfl (Or.inl rfl) (qO Jk (qO QY (jv 3) (jv 3)) qm))
     (qh (qu (qO Jk (qO Kv (qO Jk (qO QY (qO Qo (jv 3) (jk hu (jv 0) jr (λ_ _=>rfl))) (qO Qo (jv 3) qm)) qm) qm) (jv 1))))))),?_⟩
   refine⟨_,rfl,d,_,rfl,gN hd,_,_,rfl,rfl,_,rfl,?_⟩
   refine Y5 (λ_=>?_) (λ_=>?_)
   . refine⟨_,rfl,d,_,rfl,gN hd,_,rfl,_,_,rfl,rfl,m0,?_⟩
     refine⟨_,rfl,d,_,rfl,gN hd,_,rfl,_,_,rfl,rfl,⟨m0,m1⟩,_,rfl,d,_,rfl,pN hd _,?_⟩
     exact⟨_,rfl,k _ _ _ (zbF _ (by omega)) (zbt _ m0)⟩
   . refine⟨_,rfl,d,_,rfl,gT hd,_,_,rfl,rfl,_,rfl,d,_,rfl,pT hd _,?_⟩
     have h1:upd H d (.dK (src n sd (t+1))) d=some (.dK (src n sd (t+1))):=qe
     refine⟨_,rfl,d,_,rfl,gS h1,_,rfl,d,_,rfl,gT h1,_,_,rfl,rfl,.inl ⟨by decide,by decide⟩,_,_,rfl,rfl,_,_,rfl,rfl,.inr ⟨by decide,by decide⟩,_,_,rfl,rfl,(by show (0:Int) < 2147483647;decide),?_⟩
     generalize ha:((sd+7919*(t+1))*48271) % 2147483647=x
     have x0:0<=x:=by rw[<-ha];exact zbF _ (by decide)
     have x1:x < 2147483647:=by rw[<-ha];exact zbt _ (by decide)
     refine⟨_,rfl,_,rfl,_,_,rfl,rfl,.inl ⟨by omega,by omega⟩,_,_,rfl,rfl,(by show (0:Int) < 2147483629;decide),?_⟩
     generalize hb:(x*x) % 2147483629=y
     have y0:0<=y:=by rw[<-hb];exact zbF _ (by decide)
     have y1:y < 2147483629:=by rw[<-hb];exact zbt _ (by decide)
     refine⟨_,rfl,_,rfl,d,_,rfl,gT h1,_,_,rfl,rfl,_,rfl,_,_,rfl,rfl,_,_,rfl,rfl,.inr ⟨by omega,by omega⟩,_,_,rfl,rfl,(by show (0:Int) < 2147483587;decide),_,_,rfl,rfl,⟨by decide,by decide⟩,_,rfl,_,_,rfl,rfl,m0,?_⟩
     exact k _ _ _ (zbF _ (by omega)) (zbt _ m0)
end
open PySem L2 PyProof.Rows
structure Qe (mg:Str->Option Value):Prop where
 len:mg "len"=none
 max:mg "max"=none
 min:mg "min"=none
 int:mg "int"=none
 rng:mg "range"=none
theorem kY (n s t:Int):Qx [] (src n s t)=src n s t:=by
 unfold Qx src
 simp only[zcr,List.foldl_nil]
 unfold jT
 simp [nns,nnt,nst,nsn,ntn,nts]
section
variable {P:Program} {w:World} {K:PySem.W.Frag} {mg:Str->Option Value} {base:Heap}
theorem xf:qr ["_law_cell"] ["_law_cell"] (ql zK):=⟨rfl,rfl,rfl,by decide+kernel,rfl,by decide+kernel,by decide+kernel⟩
theorem kO {f:Addr} {fd:FuncData} (F:jG K "_law_source" "_law_source" zK f fd) (B:Qe mg):qp P w K mg base qI 1 f fd ["_law_cell"] WV:=by
 refine F.okJ xf (λvs H Q E h=>?_) (λcdv A outer s H vs Q E hr h=>?_)
 . obtain⟨c,rfl,_⟩:=h
   rfl
 . obtain⟨c,rfl,k⟩:=h
   refine⟨_,qh (qu (K8
     (Yz jr (qO QY (qx (XE rfl) (by rfl) B.max boot_max (qd qm (qd (jv 0) qf)))
       (q5 XF (by rfl) B.int boot_int (qd (jQ xI (jv 0) (qO Nq qm qm) (qA _)) qf)))
     (Yz jr (qO Jk (jv 0) qm) (Yz jr qm K3))) rfl rfl (by simp) (by decide))),?_⟩
   intro p hp
   refine⟨_,rfl,_,_,rfl,_,rfl,_,_,rfl,rfl,⟨by decide,by decide,by decide⟩,_,_,rfl,rfl,.inr ⟨_,rfl,_,_,rfl,rfl,.inr ?_,_,rfl,_,_,rfl,rfl,(by show (0:Int) < 2147483629;decide),?_⟩⟩
   . split<;>exact⟨by decide,by decide⟩
   . refine⟨qe,src _ _ 0,rfl,(by show 3<=15;decide),?_⟩
     rw[kY,jd]
     exact k p _ _ hp
theorem R4:qr ["_law_script","_law_k"] ["_law_script","_law_k"] (ql vm):=⟨rfl,rfl,rfl,by decide+kernel,rfl,by decide+kernel,by decide+kernel⟩
theorem KM {f:Addr} {fd:FuncData} (F:jG K "_law_cell_at" "_law_cell_at" vm f fd) (B:Qe mg):qp P w K mg base qI 1 f fd ["_law_script","_law_k"] (y7 K):=by
 refine F.okJ R4 (λvs H Q E h=>?_) (λcdv A outer s H vs Q E hr h=>?_)
 . obtain⟨a,ns,k,rfl,_⟩:=h
   rfl
 . obtain⟨a,ns,k,rfl,hS,k0,q⟩:=h
   refine⟨_,qg (qK (qt QJ (jv 1) (qx qD (by rfl) B.len boot_len (qd (jv 0) qf)) (qA _))
       (qh (qu (jx j9 (jv 0) (jv 1) (λ_ _=>rfl)))) qB)
     (qh (qu (qO Qo (qO QY qm (jv 1)) qm))),?_⟩
   refine⟨_,rfl,_,rfl,a,_,rfl,.inl hS,_,_,rfl,rfl,_,rfl,?_⟩
   refine Y5 (λh=>?_) (λ_=>?_)
   . have h1:k < ((ns.map V.int).length:Int):=of_decide_eq_true h
     rw[tj]at h1
     have h2:k.toNat < ns.length:=by omega
     have h3:(ns.map V.int)[k.toNat]?=some (V.int ns[k.toNat]):=by rw[tH,tu h2];rfl
     have h4:k=((k.toNat:Nat):Int):=by omega
     refine⟨_,rfl,_,rfl,a,_,k,V.int ns[k.toNat],rfl,rfl,hS,?_,q _⟩
     have h5:=JZ h3
     rw[<-h4]at h5
     exact h5
   . exact⟨_,rfl,_,_,rfl,rfl,.inl ⟨by decide,by decide⟩,_,_,rfl,rfl,q _⟩
end
open PySem L2 PyProof.Rows
def Fr (H:Hp) (d:Addr) (H':Hp):Prop:=∀b o,H b=some o->b≠d->H' b=some o
theorem Fr.refl {H:Hp} {d:Addr}:Fr H d H:=λ_ _ h _=>h
theorem Fr.at_d {H H':Hp} {d:Addr} {o:HO} (h:Fr H d H'):Fr H d (upd H' d o):=λb u hb hn=>by
 rw[qi hn]
 exact h b u hb hn
theorem Fr.new {H H':Hp} {d p:Addr} {o:HO} (h:Fr H d H') (hp:H' p=none):Fr H d (upd H' p o):=λb u hb hn=>qj (h b u hb hn) hp
theorem Fr.own {H H':Hp} {d p:Addr} {o:HO} (h:Fr H d H') (hp:H p=none):Fr H d (upd H' p o):=λb u hb hn=>by
 rw[qi (qz hb hp)]
 exact h b u hb hn
theorem Fr.trans {H H' H'':Hp} {d:Addr} (h:Fr H d H') (k:Fr H' d H''):Fr H d H'':=λb u hb hn=>k b u (h b u hb hn) hn
theorem Fr.fresh {H H':Hp} {d p:Addr} {o:HO} (h:Fr H d H') (hd:H' d=some o) (hp:H' p=none):H p=none:=by
 cases e:H p with
 | none=>rfl
 | some u=>
   by_cases n:p=d
   . subst n
     rw[hd]at hp
     cases hp
   . rw[h p u e n]at hp
     cases hp
def jO (c:Nat):Bool:=decide (97<=c)&&decide (c<=122)
def jc (z:Str):Bool:=(decide (1<=z.length)&&decide (z.length<=8))&&z.cps.toList.all jO
def vX:Str:="abcdefghijklmnopqrstuvwxyz"
theorem XR:vX.cps.toList=[97,98,99,100,101,102,103,104,105,106,107,108,109,110,111,112,113,114,115,116,117,118,119,120,121,122]:=by decide+kernel
theorem uf:vX.cps.toList=(zae 26).map (97+·):=by rw[XR];rfl
theorem vW:vX.length<=sizeLine:=by
 show vX.cps.size<=sizeLine
 rw[<-zaq,XR]
 decide
theorem ug {r:Int} (h0:0<=r) (h1:r < 26):vU vX.cps.toList r=some (97+r.toNat):=by
 have h2:vX.cps.toList[r.toNat]?=some (97+r.toNat):=by
   rw[uf,tH,zbz (by omega)]
   rfl
 have h4:=JZ h2
 have h5:r=((r.toNat:Nat):Int):=by omega
 rw[<-h5]at h4
 exact h4
theorem Xw {r:Int} (h0:0<=r) (h1:r < 26):jO (97+r.toNat)=true:=by
 unfold jO
 rw[decide_eq_true (by omega:97<=97+r.toNat),decide_eq_true (by omega:97+r.toNat<=122)]
 rfl
theorem NS (ws:List Nat):(Txt.join (Str.ofString "") (ws.map λk=>(⟨#[k]⟩:Str))).cps.toList=ws:=by
 show (Builtin.Str.glued (Str.ofString "") _).cps.toList=_
 rw[StrLaws.glued_eq_join]
 have e:(Str.ofString "")=⟨#[]⟩:=by decide+kernel
 rw[e,PyProof.Rows.join_ones]
theorem ya {z:Str} {A B:List Nat} {c:Nat} (e:z.cps.toList=A++[c]++B) (hA:A.all jO=true) (hc:jO c=true) (hB:B.all jO=true) (hl:A.length+B.length<=7):jc z=true:=by
 have l:z.length=A.length+1+B.length:=by
   show z.cps.size=_
   rw[<-zaq,e]
   simp
   omega
 unfold jc
 rw[decide_eq_true (by omega:1<=z.length),decide_eq_true (by omega:z.length<=8),e,zdi,zdi,hA,hB]
 simp [hc]
def vE (f s:Int) (k:Nat):Nat:=97+((f+s*(k:Int)) % 26).toNat
theorem KS:∀s∈[(1:Int),3,5,7,9,11],∀k,k < 14->∀j,j < 14->(s*((k:Nat):Int) - s*((j:Nat):Int)) % 26=0->k=j:=by decide+kernel
theorem KR {f s:Int} {k j:Nat} (hs:s=1\/s=3\/s=5\/s=7\/s=9\/s=11) (hk:k < 14) (hj:j < 14) (h:vE f s k=vE f s j):k=j:=by
 unfold vE at h
 refine KS s (by simpa using hs) k hk j hj ?_
 generalize s*(k:Int)=x at h ⊢
 generalize s*(j:Int)=y at h ⊢
 omega
def QX (A:List Nat) (f s:Int) (zs:List Str):Prop:=∀j z,zs[j]?=some z->∃B,z.cps.toList=A++[vE f s j]++B/\B.all jO=true/\A.length+B.length<=7
theorem QX.snoc {A:List Nat} {f s:Int} {zs:List Str} (h:QX A f s zs) {z:Str} {B:List Nat} (e:z.cps.toList=A++[vE f s zs.length]++B) (hB:B.all jO=true) (hl:A.length+B.length<=7):QX A f s (zs++[z]):=by
 intro j y hy
 by_cases hj:j < zs.length
 . rw[t8 hj]at hy
   exact h j y hy
 . have hj':j=zs.length:=by
     have:=(tq.mp hy).1
     rw[tL,zas]at this
     omega
   subst hj'
   rw[zab (tw _),zbR]at hy
   obtain rfl:=(tO.inj hy).symm
   exact⟨B,e,hB,hl⟩
theorem QX.names {A:List Nat} {f s:Int} {zs:List Str} (h:QX A f s zs) (hA:A.all jO=true):∀z∈zs,jc z=true:=λz hz=>by
 obtain⟨j,hj⟩:=zah hz
 obtain⟨B,e,hB,hl⟩:=h j z hj
 refine ya e hA ?_ hB hl
 unfold vE
 exact Xw (zbF _ (by decide)) (zbt _ (by decide))
theorem QX.nodup {A:List Nat} {f s:Int} {zs:List Str} (h:QX A f s zs) (hs:s=1\/s=3\/s=5\/s=7\/s=9\/s=11) (hz:zs.length<=14):zs.Nodup:=by
 refine zar.mpr λi j hi hj hij e=>?_
 obtain⟨B,b1,_⟩:=h j _ (tu hj)
 obtain⟨C,c1,_⟩:=h i _ (tu hi)
 rw[e]at c1
 have e2:(A++[vE f s j]++B)[A.length]?=(A++[vE f s i]++C)[A.length]?:=by rw[<-b1,<-c1]
 rw[zbM,zbM,zab (tw _),zab (tw _),zbR]at e2
 have e3:vE f s j=vE f s i:=tO.inj e2
 exact absurd (KR hs (by omega) (by omega) e3) (by omega)
theorem VC {A:List Nat} (h:A.all jO=true) (n:Nat):(A.take n).all jO=true:=by
 rw[zaW]at h ⊢
 exact λx hx=>h x (zbn hx)
theorem RT {r:Int} (h0:0<=r) (h1:r < 6):∃m:Int,(m=1\/m=3\/m=5\/m=7\/m=9\/m=11)/\vU [V.int 1,V.int 3,V.int 5,V.int 7,V.int 9,V.int 11] r=some (.int m):=by
 have:r=0\/r=1\/r=2\/r=3\/r=4\/r=5:=by omega
 rcases this with rfl | rfl | rfl | rfl | rfl | rfl
 . exact⟨1,by decide,rfl⟩
 . exact⟨3,by decide,rfl⟩
 . exact⟨5,by decide,rfl⟩
 . exact⟨7,by decide,rfl⟩
 . exact⟨9,by decide,rfl⟩
 . exact⟨11,by decide,rfl⟩
def XW:Sp:=λvs H Q _=>∃(d:Addr) (m:Nat) (n s t:Int),vs=[.ref d,.int m]/\H d=some (.dK (src n s t))/\m<=14/\
 ∀(l:Addr) (zs:List Str) (n' t':Int) (H':Hp),H l=none->H' l=some (.lst (zs.map V.str))->zs.length=m->(∀z∈zs,jc z=true)->zs.Nodup->H' d=some (.dK (src n' s t'))->Fr H d H'->Q (.ref l) H'
theorem WR:∀zs:List Str,(zs.map λ_=>1).sum=zs.length
 | []=>rfl
 | z::zs=>by rw[tS,zaN,WR zs,zat];omega
section
variable {P:Program} {w:World} {K:PySem.W.Frag} {mg:Str->Option Value} {base:Heap}
abbrev NE:List Str:=["_law_source_here","_law_many","_law_letters","_law_word","_law_ahead","_law_first","_law_step","_law_names_here","_law_k","_law_behind"]
theorem QE:qr NE ["_law_source_here","_law_many"] (ql ZZ):=⟨rfl,rfl,rfl,by decide+kernel,rfl,by decide+kernel,by decide+kernel⟩
theorem Vb {f fT:Addr} {fd fdT:FuncData} (F:jG K "_law_names" "_law_names" ZZ f fd) (B:Qe mg) (hT:qQ K mg "_law_take" J6 ["_law_source_here","_law_many"] fT fdT):qp P w K mg base qI 2 f fd ["_law_source_here","_law_many"] XW:=by
 have GT:qp P w K mg base qI 1 fT fdT ["_law_source_here","_law_many"] Jh:=Jl hT.fn
 refine F.okJ QE (λvs H Q E h=>?_) (λcdv A outer s H vs Q E hr h=>?_)
 . obtain⟨d,m,n,sd,t,rfl,_⟩:=h
   rfl
 . obtain⟨d,m,n,sd,t,rfl,hd,hm,q⟩:=h
   refine⟨_,qg (qw (i:=2) QE.nd rfl (Or.inr rfl) jr)
     (qg (qw (i:=3) QE.nd rfl (Or.inl rfl) (QV PySem.F.plainAttrs_str PySem.F.slot_str_join PySem.F.type_str_join KW jr (qd
       (jX (N':=["_law_k","_law_letters","_law_source_here"]) (ix:=[none,some 2,some 0]) rfl ⟨rfl,rfl,rfl,rfl,rfl⟩
         (jp (by rfl) B.rng (qd qm qf))
         (λC s2 H2 fp pins=>⟨qv (i:=0) (show (["_law_k","_law_letters","_law_source_here"]:List Str).Nodup by decide+kernel) rfl (Or.inl rfl),jK,
           jx wB (jv 1) (qG hT GT hr (by rfl) (qd (jv 2) (qd qm qf))) (λ_ _=>rfl)⟩)) qf)))
     (qg (qw (i:=4) QE.nd rfl (Or.inl rfl) (Qt y8 (jv 3) QT (QS (qO QY (qG hT GT hr (by rfl) (qd (jv 0) (qd qm qf))) (qG hT GT hr (by rfl) (qd (jv 0) (qd qm qf)))))))
     (qg (qw (i:=5) QE.nd rfl (Or.inl rfl) (qG hT GT hr (by rfl) (qd (jv 0) (qd qm qf))))
     (qg (qw (i:=6) QE.nd rfl (Or.inl rfl) (jx j9 (jE (qd qm (qd qm (qd qm (qd qm (qd qm (qd qm qf))))))) (qG hT GT hr (by rfl) (qd (jv 0) (qd qm qf))) (λ_ _=>rfl)))
     (qg (qw (i:=7) QE.nd rfl (Or.inl rfl) (jE qf))
     (qg (ja PassesOwn.never rfl (jp (by rfl) B.rng (qd (jv 1) qf)) (qv (i:=8) QE.nd rfl (Or.inl rfl))
       (qg (qw (i:=9) QE.nd rfl (Or.inl rfl) (Qt y8 (jv 3) QT (QS (qG hT GT hr (by rfl) (qd (jv 0) (qd (qO V9 qm (qx Jq (by rfl) B.len boot_len (qd (jv 4) qf))) qf))))))
       (qh (je (QV zaj zaE zaF jY (jv 7) (qd
         (qO Yq (qO Yq (jv 4) (jx wB (jv 2) (qO Jk (qO Qo (jv 5) (qO QY (jv 6) (jv 8))) qm) (λ_ _=>rfl))) (jv 9)) qf))))))
     (qh (qu (jv 7))))))))),?_⟩
   refine⟨rfl,7,rfl,by decide,by decide,λD hD=>?_⟩
   have nDd:D≠d:=λe=>by rw[e,hd]at hD;cases hD
   refine Jb (λi σ' H'=>∃(v:Option V) (n' t':Int) (ws:List Nat),σ'=[v,some (.str vX),some (.ref d)]/\H' d=some (.dK (src n' sd t'))/\H' D=some (.lst ((ws.map λk=>(⟨#[k]⟩:Str)).map V.str))/\ws.length=i/\ws.all jO=true/\Fr H d H')
     ⟨none,n,t,[],rfl,qj hd hD,qe,rfl,rfl,Fr.refl.new hD⟩ ?_ ?_
   . rintro i σ' H' hi ⟨v,n',t',ws,rfl,hd',hD',hl,ha,fr⟩
     refine⟨_,rfl,_,rfl,d,26,n',sd,t',rfl,hd',by decide,by decide,λr n3 t3 r0 r1=>?_⟩
     refine⟨vX,r,_,rfl,rfl,vW,ug r0 r1,_,(by rw[qi nDd];exact hD'),?_,?_⟩
     . rw[tj,tj,hl]
       exact qo (by omega)
     . refine⟨_,n3,t3,ws++[97+r.toNat],rfl,?_,?_,?_,?_,?_⟩
       . rw[qi (Ne.symm nDd)];exact qe
       . rw[tE,tE];exact qe
       . rw[tL,hl];rfl
       . rw[zdi,ha]
         simp [Xw r0 r1]
       . exact(fr.at_d).own hD
   rintro σ' H1 ⟨v,n1,t1,ws,rfl,hd1,hD1,hl1,ha1,fr1⟩
   have hl1:ws.length=7:=hl1
   refine⟨Str.ofString "",D,_,rfl,rfl,.of hD1,?_,?_⟩
   . have e1:((ws.map λk=>(⟨#[k]⟩:Str)).map (·.length))=(ws.map λk=>(⟨#[k]⟩:Str)).map λ_=>1:=by
       refine zbf λz hz=>?_
       obtain⟨c,_,rfl⟩:=tG.mp hz
       rfl
     have e2:(Str.ofString "").length=0:=by decide+kernel
     rw[e1,e2,WR,tj,hl1]
     decide
   generalize hw:Txt.join (Str.ofString "") (ws.map λk=>(⟨#[k]⟩:Str))=wd
   have hW:wd.cps.toList=ws:=by rw[<-hw];exact NS ws
   have hWl:wd.length=7:=by
     show wd.cps.size=7
     rw[<-zaq,hW,hl1]
   refine⟨_,rfl,_,rfl,d,2,n1,sd,t1,rfl,hd1,by decide,by decide,λr2 n2 t2 r20 r21=>?_⟩
   refine⟨_,rfl,d,5,n2,sd,t2,rfl,qe,by decide,by decide,λr3 n3 t3 r30 r31=>?_⟩
   rw[jd]
   have e4:∃j:Nat,r2*r3=(j:Int)/\j<=4:=by
     have h2:r2=0\/r2=1:=by omega
     rcases h2 with rfl | rfl
     . exact⟨0,by omega,by omega⟩
     . exact⟨r3.toNat,by omega,by omega⟩
   obtain⟨j,ej,hj⟩:=e4
   refine⟨_,_,rfl,rfl,.inl ⟨by omega,by omega⟩,_,rfl,wd,r2*r3,rfl,rfl,rfl,by omega,?_⟩
   rw[ej]
   generalize ha:Txt.slice wd none (some (j:Int))=ah
   have hA:ah.cps.toList=ws.take j:=by rw[<-ha,zV,hW]
   have hAl:ah.length=j:=by
     show ah.cps.size=j
     rw[<-zaq,hA,tJ,hl1]
     omega
   refine⟨_,rfl,d,26,n3,sd,t3,rfl,qe,by decide,by decide,λf n4 t4 f0 f1=>?_⟩
   rw[jd]
   refine⟨by show 6<=sizeLine;decide,λp hp=>?_⟩
   have npd:p≠d:=λe=>by rw[e,qe]at hp;cases hp
   refine⟨_,rfl,d,6,n4,sd,t4,rfl,(by rw[qi (Ne.symm npd)];exact qe),by decide,by decide,λr5 n5 t5 r50 r51=>?_⟩
   obtain⟨st,hst,hsa⟩:=RT r50 r51
   refine⟨p,_,r5,.int st,rfl,rfl,.of (by rw[qi npd];exact qe),hsa,?_⟩
   have fr5:Fr H d (upd (upd (upd H1 d (.dK (src n4 sd t4))) p (.lst [V.int 1,V.int 3,V.int 5,V.int 7,V.int 9,V.int 11])) d (.dK (src n5 sd t5))):=(fr1.at_d.new hp).at_d
   generalize hH5:upd (upd (upd H1 d (.dK (src n4 sd t4))) p (.lst [V.int 1,V.int 3,V.int 5,V.int 7,V.int 9,V.int 11])) d (.dK (src n5 sd t5))=H5 at fr5
   have hd5:H5 d=some (.dK (src n5 sd t5)):=by rw[<-hH5];exact qe
   refine⟨by show 0<=sizeLine;decide,λl hl=>⟨_,rfl,m,rfl,by omega,by omega,?_⟩⟩
   have hHl:H l=none:=fr5.fresh hd5 hl
   have nld:l≠d:=λe=>by rw[e,hd5]at hl;cases hl
   refine j0 (lo:=0) (n:=m) (λi σ' H'=>∃(v1 v2:Option V) (n' t':Int) (zs:List Str),σ'=[some (.ref d),some (.int m),some (.str vX),some (.str wd),some (.str ah),some (.int f),some (.int st),some (.ref l),v1,v2]/\
     H' d=some (.dK (src n' sd t'))/\H' l=some (.lst (zs.map V.str))/\zs.length=i/\QX (ws.take j) f st zs/\Fr H d H')
     ⟨none,none,n5,t5,[],rfl,qj hd5 hl,qe,rfl,λj z hz=>(nomatch hz),fr5.new hl⟩ ?_ ?_
   . rintro i σ' H' hi ⟨v1,v2,n',t',zs,rfl,hd',hl',hz,hN,fr⟩
     rw[zbS]
     refine⟨_,rfl,_,rfl,_,rfl,ah,rfl,(by rw[hAl];exact zak (qo (by omega))),_,_,rfl,rfl,d,8 - (ah.length:Int),n',sd,t',rfl,hd',by omega,by omega,λr n6 t6 r0 r1=>?_⟩
     have er:r=((r.toNat:Nat):Int):=by omega
     refine⟨_,rfl,wd,r,rfl,rfl,rfl,by omega,?_⟩
     generalize hb:Txt.slice wd none (some r)=bh
     have hB:bh.cps.toList=ws.take r.toNat:=by rw[<-hb,er,zV,hW];rfl
     have hBl:bh.length<=r.toNat:=by
       show bh.cps.size<=r.toNat
       rw[<-zaq,hB,tJ]
       omega
     refine⟨_,rfl,.inl ⟨rfl,_,.of (by rw[qi nld];exact hl')⟩,_,rfl,_,rfl,_,rfl,_,rfl,_,rfl,_,_,rfl,rfl,.inl ⟨by omega,by omega⟩,_,_,rfl,rfl,_,_,rfl,rfl,(by show (0:Int) < 26;decide),?_⟩
     refine⟨vX,_,_,rfl,rfl,vW,ug (zbF _ (by decide)) (zbt _ (by decide)),?_⟩
     have e26:97+((f+st*(i:Int)) % 26).toNat=vE f st i:=rfl
     rw[e26]
     have l1:(ah++(⟨#[vE f st i]⟩:Str)).length=j+1:=by
       show (ah++(⟨#[vE f st i]⟩:Str)).cps.size=_
       rw[Str.cps_append,Array.size_append]
       show ah.length+1=_
       rw[hAl]
     refine⟨_,_,rfl,rfl,zak (qo (by show ah.length+1<=1000;omega)),_,rfl,_,_,rfl,rfl,zak (qo (by rw[l1];omega)),?_⟩
     refine⟨l,_,_,rfl,rfl,(by rw[qi nld];exact hl'),(by rw[tj,hz];exact qo (by omega)),?_⟩
     refine⟨_,_,n6,t6,zs++[ah++(⟨#[vE f st i]⟩:Str)++bh],rfl,?_,?_,?_,?_,?_⟩
     . rw[qi (Ne.symm nld)];exact qe
     . rw[tE];exact qe
     . rw[tL,hz];rfl
     . refine hN.snoc (B:=ws.take r.toNat) ?_ (VC ha1 _) ?_
       . rw[Str.cps_append,Str.cps_append,zdt,zdt,hA,hB,hz]
       . rw[tJ,tJ]
         omega
     . exact fr.at_d.own hHl
   . rintro σ' H' ⟨v1,v2,n',t',zs,rfl,hd',hl',hz,hN,fr⟩
     exact⟨_,rfl,q l zs n' t' H' hHl hl' hz (hN.names (VC ha1 _)) (hN.nodup hst (by omega)) hd' fr⟩
end
open PySem L2 PyProof.Rows
def UA (t:TT) (σ:L2.St) (H:Hp):Prop:=∀Q:Bool->Hp->Prop,(∀b,Q b H)->t σ H Q
theorem UA.and {t u:TT} {σ:L2.St} {H:Hp} (h:UA t σ H) (k:UA u σ H):UA (ML t u) σ H:=λQ q=>h _ λb=>by
 cases b
 . exact qV (q false)
 . exact jZ (k _ q)
theorem UA.or {t u:TT} {σ:L2.St} {H:Hp} (h:UA t σ H) (k:UA u σ H):UA (tOr t u) σ H:=λQ q=>h _ λb=>by
 cases b
 . exact qV (k _ q)
 . exact jZ (q true)
theorem wH {tc:TT} {tp:TS} {D:Qv} {σ:L2.St} {H0:Hp} (G:Hp->Prop) (h:G H0) (ht:UA tc σ H0) (hp:∀D:Qv,(∀H',G H'->D.nx σ H')->tp D σ H0) (k:∀H',G H'->D.nx σ H'):yM tc tp WQ D σ H0:=
 ht _ λb=>by
   cases b
   . exact qV (k _ h)
   . exact jZ (hp D k)
theorem zO {tc:TT} {tp u:TS} {D:Qv} {σ:L2.St} {H0:Hp} (G:Hp->Prop) (h:G H0) (ht:UA tc σ H0) (hp:∀D:Qv,(∀H',G H'->D.nx σ H')->tp D σ H0) (k:∀H',G H'->u D σ H'):yK (yM tc tp WQ) u D σ H0:=wH G h ht hp k
theorem YC {i:Nat} {v:V} {σ:L2.St} {H:Hp} {Q:L2.St->Hp->Prop} (h:Q (σ.set i (some v)) H):JB i v σ H Q:=h
abbrev up (k:Nat×Nat):Int×Int:=((k.1:Int),(k.2:Int))
def Rz (a b:Nat×Nat):Prop:=a.1 < b.1\/(a.1=b.1/\a.2 < b.2)
abbrev keysOf (ks:List (Nat×Nat)):List (List qF):=ks.map λk=>zj (up k)
theorem kK {a b:Nat×Nat} (h:zj (up a)=zj (up b)):a=b:=by
 unfold zj at h
 simp only[List.cons.injEq,Sum.inl.injEq,and_true]at h
 exact Prod.ext (by have:=h.1;omega) (by have:=h.2;omega)
structure Ju (m i j:Nat) (ks:List (Nat×Nat)):Prop where
 ord:ks.Pairwise Rz
 lt:∀x∈ks,x.2 < m/\(x.1 < i\/(x.1=i/\x.2 < j))
 len:ks.length<=i*m+j
theorem Ju.more {m i j:Nat} {ks:List (Nat×Nat)} (h:Ju m i j ks):Ju m i (j+1) ks:=⟨h.ord,λx hx=>by have:=h.lt x hx;omega,by have:=h.len;omega⟩
theorem Ju.snoc {m i j:Nat} {ks:List (Nat×Nat)} (h:Ju m i j ks) (hj:j < m):Ju m i (j+1) (ks++[(i,j)]):=by
 refine⟨zdq.mpr ⟨h.ord,zbB _ _,λa ha b hb=>?_⟩,λx hx=>?_,?_⟩
 . rw[zac.mp hb]
   have:=h.lt a ha
   unfold Rz
   omega
 . rcases zai.mp hx with hx | hx
   . have:=h.lt x hx
     omega
   . rw[zac.mp hx]
     exact⟨hj,.inr ⟨rfl,zaT _⟩⟩
 . rw[tL]
   have:=h.len
   show ks.length+1<=_
   omega
theorem Ju.row {m i:Nat} {ks:List (Nat×Nat)} (h:Ju m i m ks):Ju m (i+1) 0 ks:=⟨h.ord,λx hx=>by have:=h.lt x hx;omega,by have:=h.len;rw[Nat.succ_mul];omega⟩
def MA (m i j:Nat) (kvs:List (List qF×V)):Prop:=∃ks,Ju m i j ks/\(kvs.map (·.1)=keysOf ks\/kvs.map (·.1)=keysOf (ks++[(i,j)]))
theorem vV (kvs:List (List qF×V)) (k:List qF):((kvs.any λkv=>decide (kv.1=k))=true)↔k∈kvs.map (·.1):=by
 rw[zaV,tG]
 simp
theorem K0 {kvs:List (List qF×V)} {k:List qF} (v:V) (h:k∈kvs.map (·.1)):(jT kvs k v).map (·.1)=kvs.map (·.1):=by
 unfold jT
 rw[if_pos ((vV kvs k).mpr h),zbE]
 refine zbf λx _=>?_
 show (if x.1=k then (x.1,v) else x).1=x.1
 split<;>rfl
theorem wo {kvs:List (List qF×V)} {k:List qF} (v:V) (h:¬k∈kvs.map (·.1)):(jT kvs k v).map (·.1)=kvs.map (·.1)++[k]:=by
 unfold jT
 rw[if_neg (λz=>h ((vV kvs k).mp z)),tE]
 rfl
theorem MA.put {m i j:Nat} {kvs:List (List qF×V)} (h:MA m i j kvs) (v:V):MA m i j (jT kvs (zj (up (i,j))) v):=by
 obtain⟨ks,ha,h⟩:=h
 refine⟨ks,ha,.inr ?_⟩
 rcases h with h | h
 . rw[wo,h,keysOf,keysOf,tE]
   . rfl
   . rw[h]
     intro z
     obtain⟨x,hx,e⟩:=tG.mp z
     have e':=kK e
     have:=ha.lt x hx
     rw[e']at this
     omega
 . rw[K0,h]
   rw[h]
   exact tG.mpr ⟨(i,j),by simp,rfl⟩
theorem MA.len {m i j:Nat} {kvs:List (List qF×V)} (h:MA m i j kvs):kvs.length<=i*m+j+1:=by
 obtain⟨ks,ha,h⟩:=h
 have hl:=ha.len
 rcases h with h | h
 . have:=congrArg zaB h
   simp only[tj]at this
   omega
 . have:=congrArg zaB h
   simp only[tj,tL,zas]at this
   omega
theorem GY {i m:Nat} (hi:i<=m) (hm:m<=14):i*m<=196:=tV (zcE (tV hi hm) hm) (by decide)
theorem qaP (xs:List V):cutV xs none (some 40)=xs.take 40:=by
 unfold cutV
 have e1:HT.sIx xs.length 0 none=0:=rfl
 have e2:HT.sIx xs.length xs.length (some 40)=min 40 xs.length:=by
   simp [HT.sIx]
 rw[e1,e2,zdp,zdB]
 by_cases h:40<=xs.length
 . rw[zcc h]
 . rw[zcS (by omega),tF (tw _),tF (by omega)]
def J0 (H:Hp) (ps:List Addr) (ks:List (Nat×Nat)):Prop:=ps.length=ks.length/\∀(i:Nat) (p:Addr) (k:Nat×Nat),ps[i]?=some p->ks[i]?=some k->H p=some (.tup [.int (k.1:Nat),.int (k.2:Nat)])
def U5:Sp:=λvs H Q _=>∃(d:Addr) (m:Nat) (n s t sh lo:Int),vs=[.ref d,.int m,.int sh,.int lo]/\H d=some (.dK (src n s t))/\m<=14/\
 ∀(l:Addr) (ps:List Addr) (ks:List (Nat×Nat)) (n' t':Int) (H':Hp),H l=none->H' l=some (.lst (ps.map V.ref))->J0 H' ps ks->ks.Pairwise Rz->(∀x∈ks,x.1 < m/\x.2 < m)->ks.length<=40->H' d=some (.dK (src n' s t'))->Fr H d H'->Q (.ref l) H'
section
variable {P:Program} {w:World} {K:PySem.W.Frag} {mg:Str->Option Value} {base:Heap}
abbrev NF:List Str:=["_law_source_here","_law_many","_law_shape","_law_low","_law_pairs","_law_k","_law_j","_law_way"]
abbrev Ym:List Str:=["_law_source_here","_law_many","_law_shape","_law_low"]
theorem Zv:qr NF Ym (ql Yb):=⟨rfl,rfl,rfl,by decide+kernel,rfl,by decide+kernel,by decide+kernel⟩
theorem xU {f fT:Addr} {fd fdT:FuncData} (F:jG K "_law_leads" "_law_leads" Yb f fd) (B:Qe mg) (hso:mg "sorted"=none) (hT:qQ K mg "_law_take" J6 ["_law_source_here","_law_many"] fT fdT):qp P w K mg base qI 2 f fd Ym U5:=by
 have GT:qp P w K mg base qI 1 fT fdT ["_law_source_here","_law_many"] Jh:=Jl hT.fn
 refine F.okJ Zv (λvs H Q E h=>?_) (λcdv A outer s H vs Q E hr h=>?_)
 . obtain⟨d,m,n,sd,t,sh,lo,rfl,_⟩:=h
   rfl
 . obtain⟨d,m,n,sd,t,sh,lo,rfl,hd,hm,q⟩:=h
   have hu:=jS hr
   refine⟨_,qg (qw (i:=4) Zv.nd rfl (Or.inl rfl) wA)
     (qg (ja PassesOwn.never rfl (jp (by rfl) B.rng (qd (jv 1) qf)) (qv (i:=5) Zv.nd rfl (Or.inl rfl))
       (qh (ja PassesOwn.never rfl (jp (by rfl) B.rng (qd (jv 1) qf)) (qv (i:=6) Zv.nd rfl (Or.inl rfl))
         (qg (qw (i:=7) Zv.nd rfl (Or.inl rfl) (qG hT GT hr (by rfl) (qd (jv 0) (qd qm qf))))
         (qg (qK (QL (qt Qn (jv 2) qm (qA _)) (Qr (j3 (QL (qt QJ (jv 6) (jv 5) (qA _)) (Qr (qt QJ (jv 7) qm (qA _)))).pt (jW (QL (qt xI (jv 6) (jv 5) (qA _)) (Qr (qt QJ (jv 7) qm (qA _)))).pt)).pt)).pt
           (qh (jC hu (jv 4) (Qz (qd (jv 5) (qd (jv 6) qf))) jy rfl)) qB)
         (qg (qK (QL (qt Qn (jv 2) qm (qA _)) (Qr (qt QJ (jv 7) qm (qA _)))).pt
           (qh (jC hu (jv 4) (Qz (qd (jv 5) (qd (jv 6) qf))) jy rfl)) qB)
         (qg (qK (QL (qt Qn (jv 2) qm (qA _)) (Qr (j3 (QL (qt Qn (jv 6) (qO Jk (qO Qo (jv 5) qm) (jv 1)) (qA _)) (Qr (qt QJ (jv 7) qm (qA _)))).pt (jW (qt QJ (jv 7) qm (qA _)))).pt)).pt
           (qh (jC hu (jv 4) (Qz (qd (jv 5) (qd (jv 6) qf))) jy rfl)) qB)
         (qg (qK (QL (qt Qn (jv 2) qm (qA _)) (QL (qt QJ (jv 6) (jv 5) (qA _)) (Qr (j3 (qt QJ (jv 6) (jv 3) (qA _)) (jW (qt QJ (jv 7) qm (qA _)))).pt))).pt
           (qh (jC hu (jv 4) (Qz (qd (jv 5) (qd (jv 6) qf))) jy rfl)) qB)
         (qh (qK (QL (qt Qn (jv 2) qm (qA _)) (Qr (j3 (QL (qt QJ (jv 6) (jv 3) (qA _)) (Qr (qt QJ (jv 6) (jv 5) (qA _)))).pt (jW (QL (qt xI (jv 5) (jv 3) (qA _)) (Qr (qt QJ (jv 7) qm (qA _)))).pt)).pt)).pt
           (qh (jC hu (jv 4) (Qz (qd (jv 5) (qd (jv 6) qf))) jy rfl)) qB)))))))))
       )
     (qh (qu (Qt Zu (qx (Ux rfl) (by rfl) hso boot_sorted (qd (jv 4) qf)) QT (QS qm))))),?_⟩
   intro D hD
   have nDd:D≠d:=λe=>by rw[e,hd]at hD;cases hD
   refine⟨_,rfl,m,rfl,by omega,by omega,?_⟩
   refine j0 (lo:=0) (n:=m) (λi σ' H'=>∃(v1 v2 v3:Option V) (n' t':Int) (kvs:List (List qF×V)) (ks:List (Nat×Nat)),σ'=[some (.ref d),some (.int m),some (.int sh),some (.int lo),some (.ref D),v1,v2,v3]/\
     H' d=some (.dK (src n' sd t'))/\H' D=some (.dT kvs)/\kvs.map (·.1)=keysOf ks/\Ju m i 0 ks/\Fr H d H')
     ⟨none,none,none,n,t,[],[],rfl,qj hd hD,qe,rfl,⟨.nil,λx hx=>(nomatch hx),zap _⟩,Fr.refl.new hD⟩ ?_ ?_
   . rintro i σ' H' hi ⟨v1,v2,v3,n',t',kvs,ks,rfl,hd',hD',ek,ha,fr⟩
     rw[zbS]
     refine⟨_,rfl,m,rfl,by omega,by omega,?_⟩
     refine j0 (lo:=0) (n:=m) (λj σ' H'=>∃(v2 v3:Option V) (n' t':Int) (kvs:List (List qF×V)) (ks:List (Nat×Nat)),σ'=[some (.ref d),some (.int m),some (.int sh),some (.int lo),some (.ref D),some (.int i),v2,v3]/\
       H' d=some (.dK (src n' sd t'))/\H' D=some (.dT kvs)/\kvs.map (·.1)=keysOf ks/\Ju m i j ks/\Fr H d H')
       ⟨_,_,n',t',kvs,ks,rfl,hd',hD',ek,ha,fr⟩ ?_ ?_
     . rintro j σ' H2 hj ⟨v2,v3,n2,t2,kvs,ks,rfl,hd2,hD2,ek,ha,fr⟩
       rw[zbS]
       refine⟨_,rfl,d,12,n2,sd,t2,rfl,hd2,by decide,by decide,λr n3 t3 r0 r1=>?_⟩
       have hsq:=GY (zak hi) hm
       let G:Hp->Prop:=λH'=>∃(kvs:List (List qF×V)),H' d=some (.dK (src n3 sd t3))/\H' D=some (.dT kvs)/\MA m i j kvs/\Fr H d H'
       have g0:G (upd H2 d (.dK (src n3 sd t3))):=⟨kvs,qe,(by rw[qi nDd];exact hD2),⟨ks,ha,.inl ek⟩,fr.at_d⟩
       have put:∀H',G H'->∀E:Qv,(∀H',G H'->E.nx [some (.ref d),some (.int m),some (.int sh),some (.int lo),some (.ref D),some (.int i),some (.int j),some (.int r)] H')->
           Rj (qW 4) (yJ (jA (qW 5) (jA (qW 6) QD))) (tC (.bl true)) E [some (.ref d),some (.int m),some (.int sh),some (.int lo),some (.ref D),some (.int i),some (.int j),some (.int r)] H':=by
         rintro H' ⟨kvs,h1,h2,h3,h4⟩ E k
         refine⟨_,rfl,_,rfl,_,rfl,by show 2<=sizeLine;decide,λp hp=>?_⟩
         have npd:p≠d:=λe=>by rw[e,h1]at hp;cases hp
         have npD:p≠D:=λe=>by rw[e,h2]at hp;cases hp
         refine⟨D,_,rfl,Jc.t (k:=zj (up (i,j))) (kvs:=kvs) (by rw[qi (Ne.symm npD)];exact h2) qe (qo (by have:=h3.len;omega)),?_⟩
         refine k _ ⟨_,?_,qe,h3.put _,?_⟩
         . rw[qi (Ne.symm nDd),qi (Ne.symm npd)]
           exact h1
         . exact(h4.new hp).own hD
       refine YC ?_
       dsimp only[zdI]
       refine zO G g0 ?_ (put _ g0) λH3 g3=>?_
       . exact UA.and (λQ q=>⟨_,rfl,rfl,_,rfl,q _⟩) (.or (.and (λQ q=>⟨_,rfl,_,rfl,_,_,rfl,rfl,_,rfl,q _⟩) (λQ q=>⟨_,rfl,_,_,rfl,rfl,_,rfl,q _⟩)) (.and (λQ q=>⟨_,rfl,_,rfl,_,_,rfl,rfl,_,rfl,q _⟩) (λQ q=>⟨_,rfl,_,_,rfl,rfl,_,rfl,q _⟩)))
       refine zO G g3 ?_ (put _ g3) λH4 g4=>?_
       . exact UA.and (λQ q=>⟨_,rfl,rfl,_,rfl,q _⟩) (λQ q=>⟨_,rfl,_,_,rfl,rfl,_,rfl,q _⟩)
       refine zO G g4 ?_ (put _ g4) λH5 g5=>?_
       . exact UA.and (λQ q=>⟨_,rfl,rfl,_,rfl,q _⟩) (.or (.and (λQ q=>⟨_,rfl,_,rfl,_,_,rfl,rfl,_,rfl,_,_,rfl,rfl,(by show (0:Int) < m;omega),rfl,_,rfl,q _⟩) (λQ q=>⟨_,rfl,_,_,rfl,rfl,_,rfl,q _⟩)) (λQ q=>⟨_,rfl,_,_,rfl,rfl,_,rfl,q _⟩))
       refine zO G g5 ?_ (put _ g5) λH6 g6=>?_
       . exact UA.and (λQ q=>⟨_,rfl,rfl,_,rfl,q _⟩) (.and (λQ q=>⟨_,rfl,_,rfl,_,_,rfl,rfl,_,rfl,q _⟩) (.or (λQ q=>⟨_,rfl,_,rfl,_,_,rfl,rfl,_,rfl,q _⟩) (λQ q=>⟨_,rfl,_,_,rfl,rfl,_,rfl,q _⟩)))
       refine wH G g6 ?_ (put _ g6) λH7 g7=>?_
       . exact UA.and (λQ q=>⟨_,rfl,rfl,_,rfl,q _⟩) (.or (.and (λQ q=>⟨_,rfl,_,rfl,_,_,rfl,rfl,_,rfl,q _⟩) (λQ q=>⟨_,rfl,_,rfl,_,_,rfl,rfl,_,rfl,q _⟩)) (.and (λQ q=>⟨_,rfl,_,rfl,_,_,rfl,rfl,_,rfl,q _⟩) (λQ q=>⟨_,rfl,_,_,rfl,rfl,_,rfl,q _⟩)))
       obtain⟨kvs,h1,h2,⟨ks,ha,h3⟩,h4⟩:=g7
       rcases h3 with h3 | h3
       . exact⟨_,_,n3,t3,kvs,ks,rfl,h1,h2,h3,ha.more,h4⟩
       . exact⟨_,_,n3,t3,kvs,_,rfl,h1,h2,h3,ha.snoc hj,h4⟩
     . rintro σ' H2 ⟨v2,v3,n2,t2,kvs,ks,rfl,hd2,hD2,ek,ha,fr⟩
       exact⟨_,_,_,n2,t2,kvs,ks,rfl,hd2,hD2,ek,ha.row,fr⟩
   . rintro σ' H1 ⟨v1,v2,v3,n1,t1,kvs,ks,rfl,hd1,hD1,ek,ha,fr⟩
     have hl:kvs.length=ks.length:=by simpa using congrArg zaB ek
     have hsq:=GY (tw m) hm
     have hal:=ha.len
     refine⟨_,rfl,D,kvs,ks.map up,rfl,hD1,?_,?_,by omega,λl ps hfl lps tup=>?_⟩
     . rw[ek,zbE]
       rfl
     . intro i k k' e1 e2
       rw[tH]at e1 e2
       cases e3:ks[i]? with
       | none=>rw[e3]at e1;cases e1
       | some a=>
         cases e4:ks[i+1]? with
         | none=>rw[e4]at e2;cases e2
         | some b=>
           rw[e3]at e1
           rw[e4]at e2
           obtain rfl:=(tO.inj e1).symm
           obtain rfl:=(tO.inj e2).symm
           have h5:=zar.mp ha.ord i (i+1) (tq.mp e3).1 (tq.mp e4).1 (zaT _)
           rw[(tq.mp e3).2,(tq.mp e4).2]at h5
           unfold Rz at h5
           show Yw _ _
           unfold Yw
           show (a.1:Int) < b.1\/((a.1:Int)=b.1/\(a.2:Int) < b.2)
           omega
     . refine⟨40,rfl,l,_,rfl,.of qe,λl2 hl2=>?_⟩
       rw[qaP,<-List.map_take]
       have n2d:l2≠d:=λe=>by
         rw[e,qj hd1 hfl]at hl2
         cases hl2
       have hl1:H1 l2=none:=by
         by_cases e:l2=l
         . rw[e];exact hfl
         . rw[qi e]at hl2;exact hl2
       have fr2:=(fr.new (o:=.lst (ps.map V.ref)) hfl).new (o:=.lst ((ps.take 40).map V.ref)) hl2
       refine q l2 (ps.take 40) (ks.take 40) n1 t1 _ (fr.fresh hd1 hl1) qe ⟨?_,λi p k e1 e2=>?_⟩ ?_ ?_ ?_ ?_ fr2
       . rw[tJ,tJ,lps,tj]
       . have i40:i < 40:=by
           have:=(tq.mp e1).1
           rw[tJ]at this
           omega
         rw[zbW i40]at e1 e2
         have h1:=tup i p (up k) e1 (by rw[tH,e2];rfl)
         exact qj (qj h1 hfl) hl2
       . exact ha.ord.sublist (zbK _ _)
       . intro x hx
         have:=ha.lt x (zbn hx)
         omega
       . rw[tJ]
         omega
       . exact qj (qj hd1 hfl) hl2
end
open PySem L2 PyProof.Rows
structure qy (rs:List (Str×List Str)):Prop where
 nm:∀r∈rs,jc r.1=true
 nd:(rs.map (·.1)).Nodup
 to:∀r∈rs,∀z∈r.2,z∈rs.map (·.1)
 rd:∀r∈rs,r.2.Nodup
 few:(rs.map λr=>r.2.length).sum<=40
def Za (zs:List Str) (j:Nat):Str:=zs.getD j ⟨#[]⟩
theorem XS {zs:List Str} {j:Nat} (h:j < zs.length):Za zs j∈zs:=by
 unfold Za
 rw[zau,tu h]
 exact zbA h
theorem Jf {zs:List Str} {j:Nat} (h:j < zs.length):zs[j]?=some (Za zs j):=by
 unfold Za
 rw[zau,tu h]
 rfl
theorem UH {zs:List Str} (hn:zs.Nodup) {i j:Nat} (hi:i < zs.length) (hj:j < zs.length) (h:Za zs i=Za zs j):i=j:=by
 have h1:=Jf hi
 have h2:=Jf hj
 rw[h,<-h2,tu hi,tu hj]at h1
 have e:zs[i]=zs[j]:=tO.inj h1
 rcases zbo i j with l | l | l
 . exact absurd e (zar.mp hn i j hi hj l)
 . exact l
 . exact absurd e.symm (zar.mp hn j i hj hi l)
theorem Ja {α β:Type} {f:α->β}:∀{l:List α},l.Nodup->(∀a∈l,∀b∈l,f a=f b->a=b)->(l.map f).Nodup
 | [],_,_=>zaY
 | a::l,h,k=>by
   rw[tS,zaC]
   rw[zaC]at h
   refine⟨λz=>?_,Ja h.2 λx hx y hy=>k x (tW _ hx) y (tW _ hy)⟩
   obtain⟨b,hb,e⟩:=tG.mp z
   have:=k b (tW _ hb) a (t7) e
   subst this
   exact h.1 hb
def Xe (ks:List (Nat×Nat)) (k:Nat):List Nat:=(ks.filter λx=>decide (x.1=k)).map (·.2)
theorem ki {ks:List (Nat×Nat)} (h:ks.Pairwise Rz) (k:Nat):(Xe ks k).Nodup:=by
 have h1:(ks.filter λx=>decide (x.1=k)).Pairwise Rz:=h.sublist (zax)
 refine zdD.mpr (zdv.imp_of_mem (λ{a b} ha hb r=>?_) h1)
 have e1:a.1=k:=of_decide_eq_true (tY.mp ha).2
 have e2:b.1=k:=of_decide_eq_true (tY.mp hb).2
 unfold Rz at r
 omega
theorem VN {ks:List (Nat×Nat)} {m:Nat} (h:∀x∈ks,x.1 < m/\x.2 < m) (k:Nat):∀j∈Xe ks k,j < m:=λj hj=>by
 obtain⟨x,hx,e⟩:=tG.mp hj
 have:=(h x (tY.mp hx).1).2
 omega
theorem uG (os:List Nat) (f g:Nat->Nat):(os.map λk=>f k+g k).sum=(os.map f).sum+(os.map g).sum:=by
 induction os with
 | nil=>rfl
 | cons a os ih=>
   simp only[tS,zaN,ih]
   omega
theorem uF {os:List Nat} (h:os.Nodup) (a:Nat):(os.map λk=>if a=k then 1 else 0).sum<=1:=by
 induction os with
 | nil=>exact zap _
 | cons b os ih=>
   rw[zaC]at h
   rw[tS,zaN]
   by_cases e:a=b
   . subst e
     have z:(os.map λk=>if a=k then 1 else 0)=os.map λ_=>0:=zbf λk hk=>by
       rw[if_neg]
       intro e
       subst e
       exact h.1 hk
     rw[z,if_pos rfl]
     have:(os.map λ_=>0).sum=0:=by
       clear z ih h
       induction os with
       | nil=>rfl
       | cons c os ih=>rw[tS,zaN,ih]
     omega
   . rw[if_neg e]
     have:=ih h.2
     omega
theorem UQ {os:List Nat} (h:os.Nodup):∀ks:List (Nat×Nat),(os.map λk=>(Xe ks k).length).sum<=ks.length
 | []=>by
   have:(os.map λk=>(Xe [] k).length).sum=0:=by
     clear h
     induction os with
     | nil=>rfl
     | cons c os ih=>rw[tS,zaN,ih];rfl
   omega
 | x::ks=>by
   have e:(os.map λk=>(Xe (x::ks) k).length)=os.map λk=>(if x.1=k then 1 else 0)+(Xe ks k).length:=zbf λk _=>by
     unfold Xe
     rw[zbi]
     by_cases z:x.1=k
     . rw[if_pos (decide_eq_true z),if_pos z]
       simp only[tS,zat]
       omega
     . rw[if_neg (by simpa using z),if_neg z,zdC]
   rw[e,uG,zat]
   have:=uF h x.1
   have:=UQ h ks
   omega
def Q7 (zs:List Str) (ks:List (Nat×Nat)) (ab:Bool) (k:Nat):Str×List Str:=
 (Za zs k,if ab=true then ((Xe ks k).map (Za zs)).reverse else (Xe ks k).map (Za zs))
theorem kC {zs:List Str} {ks:List (Nat×Nat)} {ab:Bool} {k:Nat} {z:Str}:z∈(Q7 zs ks ab k).2↔z∈(Xe ks k).map (Za zs):=by
 unfold Q7
 cases ab
 . rw[if_neg tK]
 . rw[if_pos rfl,zcV]
theorem kD {zs:List Str} {ks:List (Nat×Nat)} {ab:Bool} {k:Nat}:(Q7 zs ks ab k).2.length=(Xe ks k).length:=by
 unfold Q7
 cases ab
 . rw[if_neg tK,tj]
 . rw[if_pos rfl,zbU,tj]
structure VE (m:Nat) (os:List Nat):Prop where
 len:os.length=m
 nd:os.Nodup
 lt:∀k∈os,k < m
 all:∀j,j < m->j∈os
theorem yf {zs:List Str} {ks:List (Nat×Nat)} {os:List Nat} {m:Nat} (ab:Bool) (hz:zs.length=m) (hN:∀z∈zs,jc z=true) (hd:zs.Nodup) (hk:ks.Pairwise Rz) (hl:∀x∈ks,x.1 < m/\x.2 < m) (h40:ks.length<=40) (ho:VE m os):
   qy (os.map (Q7 zs ks ab)):=by
 have e1:(os.map (Q7 zs ks ab)).map (·.1)=os.map (Za zs):=by rw[zbE];rfl
 have inj:∀a∈os,∀b∈os,Za zs a=Za zs b->a=b:=λa ha b hb e=>UH hd (by rw[hz];exact ho.lt a ha) (by rw[hz];exact ho.lt b hb) e
 refine⟨λr hr=>?_,?_,λr hr z hz'=>?_,λr hr=>?_,?_⟩
 . obtain⟨k,hk',rfl⟩:=tG.mp hr
   exact hN _ (XS (by rw[hz];exact ho.lt k hk'))
 . rw[e1]
   exact Ja ho.nd inj
 . obtain⟨k,hk',rfl⟩:=tG.mp hr
   rw[kC]at hz'
   obtain⟨j,hj,rfl⟩:=tG.mp hz'
   rw[e1]
   exact tG.mpr ⟨j,ho.all j (VN hl k j hj),rfl⟩
 . obtain⟨k,hk',rfl⟩:=tG.mp hr
   have h1:((Xe ks k).map (Za zs)).Nodup:=Ja (ki hk k) λa ha b hb e=>UH hd (by rw[hz];exact VN hl k a ha) (by rw[hz];exact VN hl k b hb) e
   show (if ab=true then _ else _:List Str).Nodup
   cases ab
   . rw[if_neg tK]
     exact h1
   . rw[if_pos rfl]
     exact zdm.mpr (h1.imp λh=>Ne.symm h)
 . have e2:((os.map (Q7 zs ks ab)).map λr=>r.2.length)=os.map λk=>(Xe ks k).length:=by
     rw[zbE]
     exact zbf λk _=>kD
   rw[e2]
   exact tV (UQ ho.nd ks) h40
theorem xH (m:Nat):VE m (zae m):=⟨zav,zcW,λk h=>zbm.mp h,λj h=>zbm.mpr h⟩
theorem V7 (m:Nat):VE m (ZK m):=⟨by rw[ZK,zbU,zav],zdm.mpr (zcW.imp λh=>Ne.symm h),λk h=>zbm.mp (zcV.mp h),λj h=>zcV.mpr (zbm.mpr h)⟩
def zr (m:Nat):List Nat:=(zae m).map λk=>k*5 % m
theorem yn:∀m,m < 15->(zr m).Nodup->∀j,j < m->j∈zr m:=by decide+kernel
theorem W8 {m:Nat} (hm:m<=14) (h0:0 < m) (h:(zr m).Nodup):VE m (zr m):=
 ⟨by rw[zr,tj,zav],h,λk hk=>by obtain⟨x,_,rfl⟩:=tG.mp hk;exact Nat.mod_lt _ h0,yn m (by omega) h⟩
theorem Xs (val:Nat->Int):∀i,(firstMet val i).length=i->((zae i).map val).Nodup
 | 0,_=>zaY
 | i+1,h=>by
   have h1:=firstMet_any val i (val i)
   have h2:=firstMet_length_le val i
   rw[firstMet_succ]at h
   unfold step_dedup at h
   split at h
   . omega
   . rename_i z
     rw[tL,zas]at h
     rw[zcs,tE,zbN]
     refine⟨Xs val i (by omega),by simp,λa ha b hb e=>?_⟩
     have eb:b=val i:=by simpa using hb
     subst eb
     subst e
     refine z ?_
     rw[h1,zaV]
     exact⟨_,ha,by simp⟩
theorem NI {os:List Nat} (h:¬(firstMet (λi=>(os.map λk=>((k:Nat):Int)).getD i 0) (os.map λk=>((k:Nat):Int)).length).length < os.length):os.Nodup:=by
 have h1:=firstMet_length_le (λi=>(os.map λk=>((k:Nat):Int)).getD i 0) (os.map λk=>((k:Nat):Int)).length
 have h2:=Xs (λi=>(os.map λk=>((k:Nat):Int)).getD i 0) (os.map λk=>((k:Nat):Int)).length (by rw[tj]at h1 h ⊢;omega)
 have e:(zae (os.map λk=>((k:Nat):Int)).length).map (λi=>(os.map λk=>((k:Nat):Int)).getD i 0)=os.map λk=>((k:Nat):Int):=by
   refine zcK λi=>?_
   rw[tH]
   by_cases hi:i < (os.map λk=>((k:Nat):Int)).length
   . rw[zbz hi,tu hi]
     simp only[zcb,zau,tu hi,Option.getD_some]
   . rw[zbg (by rw[zav];omega),zbg (by omega)]
     rfl
 rw[e]at h2
 refine(zdD.mp h2).imp λh e=>h (by rw[e])
open PySem L2 PyProof.Rows
def qH (H:Hp) (ps:List Addr) (rs:List (Str×List Str)):Prop:=ps.length=rs.length/\∀(i:Nat) (p:Addr) (r:Str×List Str),ps[i]?=some p->rs[i]?=some r->∃q,H p=some (.tup [.str r.1,.ref q])/\H q=some (.tup (r.2.map V.str))
def yT:Sp:=λvs H Q _=>∃(d:Addr) (mo:Nat) (n s t:Int),vs=[.ref d,.int mo]/\H d=some (.dK (src n s t))/\0 < mo/\mo<=14/\
 ∀(l:Addr) (ps:List Addr) (rs:List (Str×List Str)) (n' t':Int) (H':Hp),H l=none->H' l=some (.lst (ps.map V.ref))->qH H' ps rs->qy rs->0 < rs.length->rs.length<=mo->H' d=some (.dK (src n' s t'))->Fr H d H'->Q (.ref l) H'
structure jF (mg:Str->Option Value):Prop where
 srt:mg "sorted"=none
 lst:mg "list"=none
 rev:mg "reversed"=none
 set:mg "set"=none
 tup:mg "tuple"=none
theorem qH.mono {H H':Hp} {ps:List Addr} {rs:List (Str×List Str)} (h:qH H ps rs) (s:Same H H'):qH H' ps rs:=⟨h.1,λi p r e1 e2=>let ⟨q,a,b⟩:=h.2 i p r e1 e2;⟨q,s _ _ a,s _ _ b⟩⟩
theorem J0.mono {H H':Hp} {ps:List Addr} {ks:List (Nat×Nat)} (h:J0 H ps ks) (s:Same H H'):J0 H' ps ks:=⟨h.1,λi p k e1 e2=>s _ _ (h.2 i p k e1 e2)⟩
theorem Fr.same {H H' H'':Hp} {d:Addr} (h:Fr H d H') (s:Same H' H''):Fr H d H'':=λb u hb hn=>s _ _ (h b u hb hn)
theorem qH.snoc {H:Hp} {ps:List Addr} {rs:List (Str×List Str)} (h:qH H ps rs) {p q:Addr} {r:Str×List Str} (hp:H p=some (.tup [.str r.1,.ref q])) (hq:H q=some (.tup (r.2.map V.str))):qH H (ps++[p]) (rs++[r]):=by
 refine⟨by rw[tL,tL,h.1];rfl,λi p' r' e1 e2=>?_⟩
 by_cases hi:i < ps.length
 . rw[t8 hi]at e1
   rw[t8 (by rw[<-h.1];exact hi)]at e2
   exact h.2 i p' r' e1 e2
 . have hi':i=ps.length:=by
     have:=(tq.mp e1).1
     rw[tL,zas]at this
     omega
   subst hi'
   rw[zab (tw _),zbR]at e1
   rw[h.1,zab (tw _),zbR]at e2
   obtain rfl:=(tO.inj e1).symm
   obtain rfl:=(tO.inj e2).symm
   exact⟨q,hp,hq⟩
theorem qH.upd_lst {H:Hp} {ps:List Addr} {rs:List (Str×List Str)} {l:Addr} {xs:List V} {o:HO} (h:qH H ps rs) (hl:H l=some (.lst xs)):qH (upd H l o) ps rs:=by
 refine⟨h.1,λi p r e1 e2=>?_⟩
 obtain⟨q,a,b⟩:=h.2 i p r e1 e2
 refine⟨q,?_,?_⟩
 . rw[qi (λe=>by rw[e,hl]at a;cases a)]
   exact a
 . rw[qi (λe=>by rw[e,hl]at b;cases b)]
   exact b
theorem Uo {tc:TT} {tp u:TS} {D:Qv} {σ:L2.St} {H0:Hp} (R:Bool->Hp->Prop) (G:L2.St->Hp->Prop) (ht:∀Q:Bool->Hp->Prop,(∀b H1,R b H1->Q b H1)->tc σ H0 Q)
   (hT:∀H1,R true H1->∀D':Qv,(∀σ' H',G σ' H'->D'.nx σ' H')->tp D' σ H1) (hF:∀H1,R false H1->G σ H1) (k:∀σ' H',G σ' H'->u D σ' H'):yK (yM tc tp WQ) u D σ H0:=
 ht _ λb H1 r=>by
   cases b
   . exact qV (k _ _ (hF _ r))
   . exact jZ (hT _ r _ k)
theorem WJ {zs:List Str} {j:Nat} (h:j < zs.length):vU (zs.map V.str) ((j:Nat):Int)=some (V.str (Za zs j)):=JZ (by rw[tH,Jf h];rfl)
theorem yH {ks:List (Nat×Nat)} {j:Nat} {x:Nat×Nat} (k:Nat) (h:ks[j]?=some x):Xe (ks.take (j+1)) k=Xe (ks.take j) k++if x.1=k then [x.2] else []:=by
 unfold Xe
 rw[tM,h,zaJ,tE]
 congr 1
 by_cases e:x.1=k
 . rw[if_pos e]
   simp [e]
 . rw[if_neg e]
   simp [e]
abbrev oL (os:List Nat):List V:=os.map λk=>V.int ((k:Nat):Int)
theorem KQ (os:List Nat):oL os=(os.map λk=>((k:Nat):Int)).map V.int:=by rw[zbE];rfl
section
variable {P:Program} {w:World} {K:PySem.W.Frag} {mg:Str->Option Value} {base:Heap}
abbrev qav:List Str:=["_law_source_here","_law_most","_law_many","_law_names_here","_law_shape","_law_pairs","_law_about","_law_order","_law_rows_here","_law_k","_law_leads_here"]
theorem Qw:qr qav ["_law_source_here","_law_most"] (ql vf):=⟨rfl,rfl,rfl,by decide+kernel,rfl,by decide+kernel,by decide+kernel⟩
abbrev qaR:List Str:=["_law_one","_law_j","_law_k","_law_names_here"]
theorem vR:qaR.Nodup:=by decide+kernel
theorem KB {f fT fN fL:Addr} {fd fdT fdN fdL:FuncData} (F:jG K "_law_rows" "_law_rows" vf f fd) (B:Qe mg) (G:jF mg) (hT:qQ K mg "_law_take" J6 ["_law_source_here","_law_many"] fT fdT)
   (hN:qQ K mg "_law_names" ZZ ["_law_source_here","_law_many"] fN fdN) (hL:qQ K mg "_law_leads" Yb Ym fL fdL):qp P w K mg base qI 3 f fd ["_law_source_here","_law_most"] yT:=by
 have GT:qp P w K mg base qI 1 fT fdT ["_law_source_here","_law_many"] Jh:=Jl hT.fn
 have GN:qp P w K mg base qI 2 fN fdN ["_law_source_here","_law_many"] XW:=Vb hN.fn B hT
 have GL:qp P w K mg base qI 2 fL fdL Ym U5:=xU hL.fn B G.srt hT
 refine F.okJ Qw (λvs H Q E h=>?_) (λcdv A outer s H vs Q E hr h=>?_)
 . obtain⟨d,m,n,sd,t,rfl,_⟩:=h
   rfl
 . obtain⟨d,mo,n,sd,t,rfl,hd,hmo,hm14,q⟩:=h
   have r1:qN 1 _:=hr.mono (by decide)
   refine⟨_,qg (qw (i:=2) Qw.nd rfl (Or.inr rfl) (qO Qo qm (qG hT GT r1 (by rfl) (qd (jv 0) (qd (jv 1) qf)))))
     (qg (qw (i:=3) Qw.nd rfl (Or.inr rfl) (qG hN GN hr (by rfl) (qd (jv 0) (qd (jv 2) qf))))
     (qg (qw (i:=4) Qw.nd rfl (Or.inl rfl) (qG hT GT r1 (by rfl) (qd (jv 0) (qd qm qf))))
     (qg (qw (i:=5) Qw.nd rfl (Or.inl rfl) (qG hL GL hr (by rfl) (qd (jv 0) (qd (jv 2) (qd (jv 4) (qd (qO Qo qm (qG hT GT r1 (by rfl) (qd (jv 0) (qd qm qf)))) qf))))))
     (qg (qw (i:=6) Qw.nd rfl (Or.inl rfl) (jQ Qn (qG hT GT r1 (by rfl) (qd (jv 0) (qd qm qf))) qm (qA _)))
     (qg (qw (i:=7) Qw.nd rfl (Or.inl rfl) (qaC rfl (by rfl) G.lst (by rfl) B.rng (jv 2)))
     (qg (qK (qX (jv 6)) (qh (QN (i:=7) (N':=["_law_k","_law_many"]) (ix:=[none,some 2]) Qw.nd rfl (Or.inl rfl) rfl ⟨rfl,rfl,rfl,rfl,rfl⟩ (jp (by rfl) B.rng (qd (jv 2) qf))
         (λC s2 H2 fp pins=>⟨qv (i:=0) (show (["_law_k","_law_many"]:List Str).Nodup by decide+kernel) rfl (Or.inl rfl),jK,qO Jk (qO QY (jv 0) qm) (jv 1)⟩))) qB)
     (qg (qK (qt QJ (qx VB (by rfl) B.len boot_len (qd (q5 (yu rfl) (by rfl) G.set boot_set (qd (jv 7) qf)) qf)) (jv 2) (qA _))
         (qh (qw (i:=7) Qw.nd rfl (Or.inl rfl) (NX rfl (by rfl) G.lst (by rfl) G.rev (by rfl) B.rng (jv 2)))) qB)
     (qg (qw (i:=8) Qw.nd rfl (Or.inl rfl) (jE qf))
     (qg (ja PassesOwn.never rfl (qJ (jv 7)) (qv (i:=9) Qw.nd rfl (Or.inr rfl))
       (qg (QN (i:=10) (N':=qaR) (ix:=[none,none,some 9,some 3]) (g:=qaJ K 2 (wP (JB 0) (wP (JB 1) qaL))) (te:=YY (Ko K) (qW 3) (qW 1)) Qw.nd rfl (Or.inl rfl) rfl ⟨rfl,rfl,rfl,rfl,rfl⟩ (qJ (jv 5))
           (λC s2 H2 fp pins=>⟨Z6 rfl (jM (qv (i:=0) vR rfl (Or.inl rfl)) (jM (qv (i:=1) vR rfl (Or.inl rfl)) JX)),
             jJ (qt Qn (jv 0) (jv 2) (qA _)),jx j9 (jv 3) (jv 1) (λ_ _=>rfl)⟩))
       (qg (qK (qX (jv 6)) (qh (je (Ul zaj PySem.F.slot_list_reverse PySem.F.type_list_reverse Uf (jv 10)))) qB)
       (qh (je (QV zaj zaE zaF jY (jv 8) (qd
         (Qz (qd (jx j9 (jv 3) (jv 9) (λ_ _=>rfl)) (qd (q5 J9 (by rfl) G.tup boot_tuple (qd (jv 10) qf)) qf))) qf)))))))
     (qh (qu (jv 8)))))))))))),?_⟩
   refine⟨_,rfl,_,rfl,d,mo,n,sd,t,rfl,hd,by omega,by omega,λr n1 t1 r0 r1=>⟨_,_,rfl,rfl,?_⟩⟩
   obtain⟨m,em,m0,m1⟩:∃m:Nat,1+r=(m:Int)/\0 < m/\m<=mo:=⟨(1+r).toNat,by omega,by omega,by omega⟩
   have em':(λi j:Int=>V.int (i+j)) 1 r=V.int (m:Int):=congrArg V.int em
   rw[em']
   refine⟨_,rfl,_,rfl,d,m,n1,sd,t1,rfl,qe,by omega,λlz zs n2 t2 H2 hlz hlz' zl zn znd hd2 fr2=>?_⟩
   have fr2:Fr H d H2:=Fr.refl.at_d.trans fr2
   refine⟨_,rfl,d,5,n2,sd,t2,rfl,hd2,by decide,by decide,λsh n3 t3 _ _=>?_⟩
   refine⟨_,rfl,_,rfl,_,rfl,_,rfl,d,5,n3,sd,t3,rfl,qe,by decide,by decide,λlw n4 t4 _ _=>⟨_,_,rfl,rfl,d,m,n4,sd,t4,sh,1+lw,rfl,qe,by omega,λlp ps ks n5 t5 H5 hlp hlp' pat kord klt k40 hd5 fr5=>?_⟩⟩
   have nzd:lz≠d:=λe=>by rw[e,qe]at hlz;cases hlz
   have hz5:H5 lz=some (.lst (zs.map V.str)):=fr5 _ _ (by rw[qi nzd,qi nzd];exact hlz') nzd
   have fr5:Fr H d H5:=fr2.at_d.at_d.trans fr5
   refine⟨_,rfl,d,2,n5,sd,t5,rfl,hd5,by decide,by decide,λab n6 t6 _ _=>⟨rfl,?_⟩⟩
   generalize decide (V.int ab=V.int 1)=b
   have npd:lp≠d:=λe=>by rw[e,qe]at hlp;cases hlp
   have fr6:Fr H d (upd H5 d (.dK (src n6 sd t6))):=fr5.at_d
   have hd6:upd H5 d (.dK (src n6 sd t6)) d=some (.dK (src n6 sd t6)):=qe
   have hz6:upd H5 d (.dK (src n6 sd t6)) lz=some (.lst (zs.map V.str)):=by rw[qi nzd];exact hz5
   have hp6:upd H5 d (.dK (src n6 sd t6)) lp=some (.lst (ps.map V.ref)):=by rw[qi npd];exact hlp'
   have pat6:J0 (upd H5 d (.dK (src n6 sd t6))) ps ks:=⟨pat.1,λi p k e1 e2=>by
     have h1:=pat.2 i p k e1 e2
     have:p≠d:=λe=>by rw[e,hd5]at h1;cases h1
     rw[qi this]
     exact h1⟩
   generalize upd H5 d (.dK (src n6 sd t6))=H6 at fr6 hd6 hz6 hp6 pat6
   refine⟨_,rfl,m,rfl,by omega,λlo hlo=>?_⟩
   refine YC ?_
   dsimp only[zdI]
   refine Uo (λc H'=>c=b/\H'=upd H6 lo (.lst (GK m))) (λσ' H'=>∃lo os,σ'=[some (.ref d),some (.int mo),some (.int m),some (.ref lz),some (.int sh),some (.ref lp),some (.bl b),some (.ref lo),none,none,none]/\Same H6 H'/\H6 lo=none/\H' lo=some (.lst (oL os))/\(os=zae m\/os=zr m))
     (λQ k=>⟨_,rfl,b,rfl,k _ _ ⟨rfl,rfl⟩⟩) ?_ ?_ ?_
   . rintro H1 ⟨rfl,rfl⟩ D' k
     refine⟨_,rfl,m,rfl,by omega,by omega,λD hD=>?_⟩
     refine Jb (λi σ' H'=>∃v:Option V,σ'=[v,some (.int m)]/\H'=upd (upd H6 lo (.lst (GK m))) D (.lst (oL ((zae i).map λk=>k*5 % m)))) ⟨none,rfl,rfl⟩ ?_ ?_
     . rintro i σ' H' hi ⟨v,rfl,rfl⟩
       rw[zbS]
       have hi:i < m:=by simpa using hi
       refine⟨_,rfl,_,_,rfl,rfl,.inl ⟨by omega,by omega⟩,_,rfl,_,_,rfl,rfl,(by show (0:Int) < m;omega),_,qe,?_,_,rfl,?_⟩
       . rw[tj,tj,zav]
         exact qo (by omega)
       . rw[jd,zcs,tE,oL,oL,tE]
         rfl
     . rintro σ' H' ⟨v,rfl,rfl⟩
       have hD6:H6 D=none:=by
         by_cases e:D=lo
         . rw[e];exact hlo
         . rw[qi e]at hD;exact hD
       exact k _ _ ⟨D,zr m,rfl,λa u h=>qj (qj h hlo) hD,hD6,qe,.inr rfl⟩
   . rintro H1 ⟨rfl,rfl⟩
     exact⟨lo,zae m,rfl,qk hlo,hlo,qe,.inl rfl⟩
   rintro σ' H7 ⟨lo,os,rfl,s7,hlo6,hlo7,hos⟩
   have los:os.length=m:=by
     rcases hos with rfl | rfl
     . exact zav
     . rw[zr,tj,zav]
   refine Uo (λc H'=>Same H7 H'/\(c=true\/os.Nodup)) (λσ' H'=>∃lo os,σ'=[some (.ref d),some (.int mo),some (.int m),some (.ref lz),some (.int sh),some (.ref lp),some (.bl b),some (.ref lo),none,none,none]/\Same H6 H'/\H' lo=some (.lst (oL os))/\VE m os)
     ?_ ?_ ?_ ?_
   . intro Q k
     refine⟨_,rfl,lo,os.map (λk=>((k:Nat):Int)),rfl,.of (by rw[<-KQ];exact hlo7),by rw[tj,los];omega,λl S hl=>?_⟩
     refine⟨l,S,_,rfl,qe,_,rfl,_,_,rfl,rfl,_,rfl,k _ _ ⟨qk hl,?_⟩⟩
     by_cases h:(((firstMet (λi=>(os.map λk=>((k:Nat):Int)).getD i 0) (os.map λk=>((k:Nat):Int)).length).length:Nat):Int) < (m:Int)
     . exact .inl (decide_eq_true h)
     . exact .inr (NI (by rw[los];omega))
   . rintro H1 ⟨s1,_⟩ D' k
     refine⟨_,rfl,m,rfl,by omega,λl hl=>?_⟩
     exact k _ _ ⟨l,ZK m,rfl,λa u h=>qj (s1 _ _ (s7 _ _ h)) hl,qe,V7 m⟩
   . rintro H1 ⟨s1,h⟩
     have h:os.Nodup:=h.resolve_left (by decide)
     refine⟨lo,os,rfl,λa u h=>s1 _ _ (s7 _ _ h),s1 _ _ hlo7,?_⟩
     rcases hos with rfl | rfl
     . exact xH m
     . exact W8 (by omega) m0 h
   rintro σ' H8 ⟨lo,os,rfl,s8,hlo8,ho⟩
   refine⟨by show 0<=sizeLine;decide,λlr hlr=>⟨_,rfl,lo,rfl,⟨_,.of (qj hlo8 hlr)⟩,?_⟩⟩
   refine js (K:=K) (a:=lo) (xs:=oL os) (λi σ' H'=>∃(v9 v10:Option V) (qs:List Addr),σ'=[some (.ref d),some (.int mo),some (.int m),some (.ref lz),some (.int sh),some (.ref lp),some (.bl b),some (.ref lo),some (.ref lr),v9,v10]/\
     Same H8 H'/\H' lr=some (.lst (qs.map V.ref))/\qH H' qs ((os.take i).map (Q7 zs ks b)))
     ⟨none,none,[],rfl,qk hlr,qe,rfl,λi p r e=>(nomatch e)⟩ (λi σ' H' _ ⟨_,_,_,_,s,_⟩=>.of (s _ _ hlo8)) ?_ ?_
   . rintro i x σ' H' hx ⟨v9,v10,qs,rfl,s9,hlr9,rat⟩
     have hix:i < os.length:=by
       have:=(tq.mp hx).1
       rwa [tj]at this
     obtain⟨k,hk⟩:∃k,os[i]?=some k:=⟨_,tu hix⟩
     have ex:x=V.int ((k:Nat):Int):=by
       rw[tH,hk]at hx
       exact(tO.inj hx).symm
     subst ex
     have hkm:k < m:=ho.lt k (tQ hk)
     refine⟨_,rfl,lp,rfl,⟨_,.of (s9 _ _ (s8 _ _ hp6))⟩,λD hD=>?_⟩
     have nDr:D≠lr:=λe=>by rw[e,hlr9]at hD;cases hD
     have hz9:H' lz=some (.lst (zs.map V.str)):=s9 _ _ (s8 _ _ hz6)
     have pat9:J0 H' ps ks:=pat6.mono λa u h=>s9 _ _ (s8 _ _ h)
     refine jw (K:=K) (a:=lp) (xs:=ps.map V.ref) (λj σ'' H''=>∃v0 v1:Option V,σ''=[v0,v1,some (.int k),some (.ref lz)]/\H''=upd H' D (.lst (((Xe (ks.take j) k).map (Za zs)).map V.str))) ⟨none,none,rfl,rfl⟩
       (λj σ'' G _ ⟨_,_,_,e⟩=>e▸.of (qj (s9 _ _ (s8 _ _ hp6)) hD)) ?_ ?_
     . rintro j y σ'' G hy ⟨v0,v1,rfl,rfl⟩
       have hj:j < ps.length:=by
         have:=(tq.mp hy).1
         rwa [tj]at this
       obtain⟨p,hp⟩:∃p,ps[j]?=some p:=⟨_,tu hj⟩
       obtain⟨kk,hkk⟩:∃p,ks[j]?=some p:=⟨_,tu (by rw[<-pat9.1];exact hj)⟩
       have ey:y=V.ref p:=by
         rw[tH,hp]at hy
         exact(tO.inj hy).symm
       subst ey
       have hpt:=pat9.2 j p kk hp hkk
       have hk2:kk.2 < zs.length:=by rw[zl];exact(klt kk (tQ hkk)).2
       refine⟨p,_,rfl,.of (qj hpt hD),rfl,_,_,rfl,_,_,rfl,rfl,_,rfl,_,rfl,rfl,_,rfl,?_⟩
       rw[yH k hkk]
       by_cases e:kk.1=k
       . have e1:decide (V.int ((kk.1:Nat):Int)=V.int ((k:Nat):Int))=true:=decide_eq_true (by rw[e])
         rw[e1,if_pos e]
         refine jZ ⟨_,rfl,_,rfl,lz,_,_,_,rfl,rfl,.of (qj hz9 hD),WJ hk2,_,qe,?_,_,_,rfl,?_⟩
         . rw[tj,tj]
           refine qo ?_
           have h1:(Xe (ks.take j) k).length<=(ks.take j).length:=by
             unfold Xe
             rw[tj]
             exact zao _ _
           rw[tJ]at h1
           omega
         . rw[jd,tE,tE]
           rfl
       . have e1:decide (V.int ((kk.1:Nat):Int)=V.int ((k:Nat):Int))=false:=decide_eq_false (by
           intro z
           have:=V.int.inj z
           omega)
         rw[e1,if_neg e,zaz]
         exact qV ⟨_,_,rfl,rfl⟩
     . rintro σ'' G ⟨v0,v1,rfl,rfl⟩
       rw[tj,pat9.1,tF (tw _)]
       refine YC ?_
       dsimp only[zdI]
       refine Uo (λc G=>c=b/\G=upd H' D (.lst (((Xe ks k).map (Za zs)).map V.str)))
         (λσ' G=>σ'=[some (.ref d),some (.int mo),some (.int m),some (.ref lz),some (.int sh),some (.ref lp),some (.bl b),some (.ref lo),some (.ref lr),some (.int k),some (.ref D)]/\G=upd H' D (.lst ((Q7 zs ks b k).2.map V.str)))
         (λQ k=>⟨_,rfl,b,rfl,k _ _ ⟨rfl,rfl⟩⟩) ?_ ?_ ?_
       . rintro H1 ⟨rfl,rfl⟩ D' kk
         refine⟨_,rfl,.inl ⟨rfl,_,.of qe⟩,D,_,rfl,rfl,qe,?_⟩
         refine kk _ _ ⟨rfl,?_⟩
         rw[jd,Q7,if_pos rfl,List.map_reverse]
       . rintro H1 ⟨rfl,rfl⟩
         exact⟨rfl,rfl⟩
       rintro σ' G ⟨rfl,rfl⟩
       have hlrG:upd H' D (.lst ((Q7 zs ks b k).2.map V.str)) lr=some (.lst (qs.map V.ref)):=by rw[qi (Ne.symm nDr)];exact hlr9
       have sG:Same H' (upd H' D (.lst ((Q7 zs ks b k).2.map V.str))):=qk hD
       refine⟨_,rfl,.inl ⟨rfl,_,.of hlrG⟩,_,rfl,_,rfl,lz,_,_,_,rfl,rfl,.of (sG _ _ hz9),WJ (by rw[zl];exact hkm),_,rfl,D,_,rfl,.inl ⟨.of qe,λlq hq=>⟨by show 2<=sizeLine;decide,λlt hlt=>?_⟩⟩⟩
       have hqlr:=qj (o':=HO.tup ((Q7 zs ks b k).2.map V.str)) hlrG hq
       have htlr:=qj (o':=HO.tup [V.str (Za zs k),V.ref lq]) hqlr hlt
       refine⟨lr,_,_,rfl,rfl,htlr,?_,_,_,qs++[lt],rfl,?_,?_,?_⟩
       . rw[tj,rat.1,tj,tJ]
         refine qo ?_
         have:=ho.len
         omega
       . exact Same.upd (λa u h=>qj (qj (sG _ _ (s9 _ _ h)) hq) hlt) hlr
       . rw[tE]
         exact qe
       . have e:os.take (i+1)=os.take i++[k]:=by rw[tM,hk];rfl
         rw[e,tE]
         refine qH.upd_lst ?_ htlr
         exact qH.snoc (q:=lq) (rat.mono λa u h=>qj (qj (sG _ _ h) hq) hlt) qe (qj qe hlt)
   . rintro σ' H' ⟨v9,v10,qs,rfl,s9,hlr9,rat⟩
     have e:(oL os).length=os.length:=tj ..
     rw[e,tF (tw _)]at rat
     have h8:H6 lr=none:=by
       cases z:H6 lr with
       | none=>rfl
       | some u=>rw[s8 _ _ z]at hlr;cases hlr
     refine⟨_,rfl,q lr qs _ n6 t6 H' (fr6.fresh hd6 h8) hlr9 rat (yf b zl zn znd kord klt k40 ho) ?_ ?_ (s9 _ _ (s8 _ _ hd6)) (fr6.same λa u h=>s9 _ _ (s8 _ _ h))⟩
     . rw[tj,ho.len];exact m0
     . rw[tj,ho.len];exact m1
end
open PySem L2 PyProof.Rows
abbrev Xk:Stmt:=top 30
abbrev Ye:Stmt:=top 31
abbrev vi:Stmt:=top 32
abbrev Kc:Stmt:=top 33
abbrev vj:Stmt:=top 34
abbrev Ke:Stmt:=top 35
abbrev z8:Stmt:=top 36
theorem Mv (x:Str):[x].Nodup:=by simp
structure jP (K:PySem.W.Frag) (mg:Str->Option Value):Prop where
 isi:mg "isinstance"=none
 str:mg "str"=none
 all:mg "all"=none
 enu:mg "enumerate"=none
 sum:mg "sum"=none
 lets:∃t,mg "LETTERS"=some (.str vX t)
 lgst:∃t,mg "LONGEST_NAME"=some (.int 8 t)
 mp:∃t,mg "MOST_PLACES"=some (.int 14 t)
 mr:∃t,mg "MOST_ROADS"=some (.int 40 t)
 kss:tZ K (.type "str") (.type "str")=some true
 ktt:tZ K (.type "tuple") (.type "tuple")=some true
 kll:tZ K (.type "list") (.type "list")=some true
theorem N0 (c:Nat):(!(Builtin.Str.occurrences vX ⟨#[c]⟩ 0 vX.length 1).isEmpty)=jO c:=by
 rw[StrLaws.found_one,uf]
 unfold jO
 rw[zaS]
 simp only[decide_eq_true_eq,zam,tG,zbm]
 constructor
 . rintro⟨k,hk,rfl⟩
   omega
 . intro h
   exact⟨c - 97,by omega,by omega⟩
theorem ue (f:Nat->Bool) (l:List Nat) (i c:Nat) (h:l[i]?=some c):(l.take i).map f++[f c]=(l.take (i+1)).map f:=by
 rw[tM,h]
 simp
def uK:Sp:=λvs H Q _=>∃z,vs=[.str z]/\jc z=true/\∀H',Same H H'->Q (.bl true) H'
def MO:Sp:=λvs H Q _=>∃(q:Addr) (zs:List Str),vs=[.ref q]/\H q=some (.tup (zs.map V.str))/\(∀z∈zs,jc z=true)/\zs.length<=1000/\∀H',Same H H'->Q (.bl true) H'
def G0:Sp:=λvs H Q _=>∃(p q:Addr) (r:Str×List Str),vs=[.ref p]/\H p=some (.tup [.str r.1,.ref q])/\H q=some (.tup (r.2.map V.str))/\jc r.1=true/\(∀z∈r.2,jc z=true)/\r.2.length<=1000/\∀H',Same H H'->Q (.bl true) H'
structure qY (H:Hp) (l:Addr) (ps:List Addr) (rs:List (Str×List Str)):Prop where
 at_:H l=some (.lst (ps.map V.ref))
 rows:qH H ps rs
 good:qy rs
 pos:0 < rs.length
 le:rs.length<=14
theorem qY.mono {H H':Hp} {l:Addr} {ps:List Addr} {rs:List (Str×List Str)} (h:qY H l ps rs) (s:Same H H'):qY H' l ps rs:=⟨s _ _ h.at_,h.rows.mono s,h.good,h.pos,h.le⟩
theorem qy.names {rs:List (Str×List Str)} (h:qy rs):∀r∈rs,∀z∈r.2,jc z=true:=λr hr z hz=>by
 obtain⟨r',hr',rfl⟩:=tG.mp (h.to r hr z hz)
 exact h.nm r' hr'
theorem qy.len {rs:List (Str×List Str)} (h:qy rs):∀r∈rs,r.2.length<=40:=λr hr=>by
 refine tV ?_ h.few
 have:∀(rs:List (Str×List Str)),r∈rs->r.2.length<=(rs.map λr=>r.2.length).sum:=by
   intro rs
   induction rs with
   | nil=>intro h;cases h
   | cons a rs ih=>
     intro h
     rw[tS,zaN]
     rcases zaa.mp h with rfl | h
     . omega
     . have:=ih h
       omega
 exact this rs hr
theorem qH.item {H:Hp} {ps:List Addr} {rs:List (Str×List Str)} (h:qH H ps rs) {i:Nat} {x:V} (hx:(ps.map V.ref)[i]?=some x):∃p q r,x=.ref p/\rs[i]?=some r/\r∈rs/\H p=some (.tup [.str r.1,.ref q])/\H q=some (.tup (r.2.map V.str)):=by
 rw[tH]at hx
 cases e:ps[i]? with
 | none=>rw[e]at hx;cases hx
 | some p=>
   rw[e]at hx
   have hi:i < rs.length:=by
     have:=(tq.mp e).1
     rw[h.1]at this
     exact this
   obtain⟨q,a,b⟩:=h.2 i p _ e (tu hi)
   exact⟨p,q,_,(tO.inj hx).symm,tu hi,zbA hi,a,b⟩
def ZU:Sp:=λvs H Q _=>∃(l:Addr) (ps:List Addr) (rs:List (Str×List Str)),vs=[.ref l]/\qY H l ps rs/\∀H',Same H H'->Q .non H'
def G9:Sp:=λvs H Q _=>∃(l:Addr) (zs:List Str),vs=[.ref l]/\H l=some (.lst (zs.map V.str))/\zs.Nodup/\zs.length<=1000/\∀H',Same H H'->Q .non H'
def y6:Sp:=λvs H Q _=>∃(q l:Addr) (es zs:List Str),vs=[.ref q,.ref l]/\H q=some (.tup (es.map V.str))/\H l=some (.lst (zs.map V.str))/\es.Nodup/\(∀z∈es,z∈zs)/\es.length<=900/\∀H',Same H H'->Q .non H'
theorem Q3 {kvs:List (qF×V)} {k:qF} (h:¬k∈kvs.map (·.1)):qS kvs k=none:=by
 cases e:qS kvs k with
 | none=>rfl
 | some v=>exact absurd (UL e) h
theorem Qd (zs:List Str):(zs.map V.str).all JD=true:=by
 rw[zcw,zaW]
 intro z _
 rfl
theorem Ww {z:Str} {zs:List Str} (h:z∈zs):Jd (.str z) (zs.map V.str)=true:=by
 unfold Jd
 rw[zaV]
 exact⟨.str z,tG.mpr ⟨z,h,rfl⟩,by show (z==z)=true;simp⟩
section
variable {P:Program} {w:World} {K:PySem.W.Frag} {mg:Str->Option Value} {base:Heap}
theorem RX:qr ["thing"] ["thing"] (ql Zx):=⟨rfl,rfl,rfl,by decide+kernel,rfl,by decide+kernel,by decide+kernel⟩
theorem Wi {f:Addr} {fd:FuncData} (F:jG K "is_name" "is_name" Zx f fd) (B:Qe mg) (T:jP K mg):qp P w K mg base qI 1 f fd ["thing"] uK:=by
 refine F.okJ RX (λvs H Q E h=>?_) (λcdv A outer s H vs Q E hr h=>?_)
 . obtain⟨x,rfl,_⟩:=h
   rfl
 . obtain⟨z,rfl,hz,q⟩:=h
   obtain⟨tl,hlets⟩:=T.lets
   obtain⟨tg,hlg⟩:=T.lgst
   refine⟨_,qg (qK (ju (qX (qx qP (by rfl) T.isi boot_isinstance (qd (jv 0) (qd (jL (v:=.ty "str") (by rfl) T.str boot_str rfl) qf))))) (qh (qu jy)) qB)
     (qg (qK (j3 (qt QJ (qx Jq (by rfl) B.len boot_len (qd (jv 0) qf)) qm (qA _))
         (jW (qt zm (qx Jq (by rfl) B.len boot_len (qd (jv 0) qf)) (QF (v:=.int 8) (by rfl) hlg ⟨_,rfl⟩) (qA _)))).pt (qh (qu jy)) qB)
     (qh (qu (qx (Z9 rfl) (by rfl) T.all boot_all (qd (jX (N':=["sign"]) (ix:=[none]) rfl ⟨rfl,rfl,rfl,rfl,rfl⟩ (NU (jv 0)) (λC s2 H2 fp pins=>
       ⟨qv (i:=0) (Mv _) rfl (Or.inl rfl),jK,jQ kM (jv 0) (QF (v:=.str vX) (by rfl) hlets ⟨_,rfl⟩) (by with_unfolding_all rfl)⟩)) qf))))),?_⟩
   have hn:=hz
   unfold jc at hn
   simp only[zam,decide_eq_true_eq]at hn
   obtain⟨⟨n1,n8⟩,na⟩:=hn
   have hz':z.length<=sizeLine:=zak (qo (by omega))
   refine⟨_,rfl,_,_,_,_,rfl,rfl,.str z,T.kss,_,rfl,qV ?_⟩
   refine⟨_,rfl,z,rfl,hz',_,_,rfl,rfl,_,rfl,?_⟩
   refine Y5 (λh=>?_) (λh=>?_)
   . exact absurd (of_decide_eq_true h) (by omega)
   . refine⟨_,rfl,z,rfl,hz',_,_,rfl,rfl,_,rfl,?_⟩
     refine Y5 (λh2=>?_) (λh2=>?_)
     . exact absurd (of_decide_eq_true h2) (by show ¬(8:Int) < (z.length:Int);omega)
     . refine⟨_,rfl,z,rfl,λD hD=>?_⟩
       refine Gr (λi σ' H'=>∃v,σ'=[v]/\H'=upd H D (.lst (((z.cps.toList.take i).map jO).map V.bl))) ⟨none,rfl,rfl⟩ ?_ ?_
       . rintro i c σ' H' hc ⟨v,rfl,rfl⟩
         refine⟨_,rfl,_,_,rfl,rfl,_,qe,?_,?_⟩
         . rw[tj,tj,tJ]
           exact zaZ (zcj _ _) (qo (show z.cps.toList.length<=1000 by rw[zaq];exact tV n8 (by decide)))
         . refine⟨_,rfl,?_⟩
           rw[jd,N0]
           have hc':z.cps.toList[i]?=some c:=by simpa using hc
           rw[<-ue jO z.cps.toList i c hc',tE]
           rfl
       . rintro σ' H' ⟨v,rfl,rfl⟩
         refine⟨D,_,rfl,.of qe,?_⟩
         have e0:z.cps.toList.take z.cps.size=z.cps.toList:=tF (by simp)
         have e1:(z.cps.toList.map jO).all id=true:=by rw[zcw];exact na
         rw[e0,e1]
         exact q _ (qk hD)
theorem RV:qr ["thing"] ["thing"] (ql Xk):=⟨rfl,rfl,rfl,by decide+kernel,rfl,by decide+kernel,by decide+kernel⟩
theorem KA {f fN:Addr} {fd fdN:FuncData} (F:jG K "is_tuple_of_names" "is_tuple_of_names" Xk f fd) (B:Qe mg) (G:jF mg) (T:jP K mg) (hN:qQ K mg "is_name" Zx ["thing"] fN fdN):qp P w K mg base qI 2 f fd ["thing"] MO:=by
 have GN:qp P w K mg base qI 1 fN fdN ["thing"] uK:=Wi hN.fn B T
 refine F.okJ RV (λvs H Q E h=>?_) (λcdv A outer s H vs Q E hr h=>?_)
 . obtain⟨x,zs,rfl,_⟩:=h
   rfl
 . obtain⟨x,zs,rfl,hx,hz,hl,q⟩:=h
   refine⟨_,qh (qu (Jn (qx qP (by rfl) T.isi boot_isinstance (qd (jv 0) (qd (jL (v:=.ty "tuple") (by rfl) G.tup boot_tuple rfl) qf)))
     (Zi (qx (Z9 rfl) (by rfl) T.all boot_all (qd (jX (N':=["part"]) (ix:=[none]) rfl ⟨rfl,rfl,rfl,rfl,rfl⟩ (YA (jv 0)) (λC s2 H2 fp pins=>
       ⟨qv (i:=0) (Mv _) rfl (Or.inl rfl),jK,qG hN GN hr (by rfl) (qd (jv 0) qf)⟩)) qf))))),?_⟩
   refine⟨_,rfl,_,_,_,_,rfl,rfl,.tup hx,T.ktt,_,rfl,jZ ⟨_,rfl,x,rfl,⟨_,.of hx⟩,λD hD=>?_⟩⟩
   refine zR (K:=K) (a:=x) (xs:=zs.map V.str) (λi σ' H'=>∃v,σ'=[v]/\Same H H'/\H' D=some (.lst ((zdo i true).map V.bl))) ⟨none,rfl,qk hD,qe⟩ (λi σ' H' _ ⟨_,_,s,_⟩=>.of (s _ _ hx)) ?_ ?_
   . rintro i y σ' H' hy ⟨v,rfl,s1,hD1⟩
     rw[tH]at hy
     cases e:zs[i]? with
     | none=>rw[e]at hy;cases hy
     | some z=>
       rw[e]at hy
       obtain rfl:=(tO.inj hy).symm
       have hi:=(tq.mp e).1
       refine⟨_,rfl,z,rfl,hz z (tQ e),λH2 s2=>⟨_,s2 _ _ hD1,?_,_,rfl,?_,?_⟩⟩
       . rw[tj,zdj]
         exact qo (by omega)
       . exact Same.upd (s1.trans s2) hD
       . rw[qe,List.replicate_succ',tE]
         rfl
   . rintro σ' H' ⟨v,rfl,s1,hD1⟩
     refine⟨D,_,rfl,.of hD1,?_⟩
     have e:(zdo (zs.map V.str).length true).all id=true:=by simp
     rw[e]
     exact q _ s1
theorem u8:qr ["thing"] ["thing"] (ql Ye):=⟨rfl,rfl,rfl,by decide+kernel,rfl,by decide+kernel,by decide+kernel⟩
theorem xW {f fN fP:Addr} {fd fdN fdP:FuncData} (F:jG K "is_row" "is_row" Ye f fd) (B:Qe mg) (G:jF mg) (T:jP K mg) (hN:qQ K mg "is_name" Zx ["thing"] fN fdN) (hP:qQ K mg "is_tuple_of_names" Xk ["thing"] fP fdP):qp P w K mg base qI 3 f fd ["thing"] G0:=by
 have GN:qp P w K mg base qI 1 fN fdN ["thing"] uK:=Wi hN.fn B T
 have GP:qp P w K mg base qI 2 fP fdP ["thing"] MO:=KA hP.fn B G T hN
 refine F.okJ u8 (λvs H Q E h=>?_) (λcdv A outer s H vs Q E hr h=>?_)
 . obtain⟨p,x,r,rfl,_⟩:=h
   rfl
 . obtain⟨p,x,r,rfl,hp,hx,hn,hz,hl,q⟩:=h
   refine⟨_,qg (qK (j3 (ju (qX (qx qP (by rfl) T.isi boot_isinstance (qd (jv 0) (qd (jL (v:=.ty "tuple") (by rfl) G.tup boot_tuple rfl) qf)))))
       (jW (qt Xp (qx qD (by rfl) B.len boot_len (qd (jv 0) qf)) qm (qA _)))).pt qZ qB)
     (qh (qu (Jn (qG hN GN (hr.mono (by decide)) (by rfl) (qd (jx j4 (jv 0) qm (λ_ _=>rfl)) qf)) (Zi (qG hP GP hr (by rfl) (qd (jx j4 (jv 0) qm (λ_ _=>rfl)) qf)))))),?_⟩
   refine⟨_,rfl,_,_,_,_,rfl,rfl,.tup hp,T.ktt,_,rfl,qV ⟨_,rfl,p,_,rfl,.inr (.of hp),rfl,_,rfl,qV ?_⟩⟩
   refine⟨_,rfl,p,_,0,_,rfl,rfl,.of hp,rfl,r.1,rfl,hn,λH1 s1=>⟨_,rfl,jZ ?_⟩⟩
   exact⟨_,rfl,p,_,1,_,rfl,rfl,.of (s1 _ _ hp),rfl,x,r.2,rfl,s1 _ _ hx,hz,hl,λH2 s2=>q H2 (s1.trans s2)⟩
end
open PySem L2 PyProof.Rows
section
variable {P:Program} {w:World} {K:PySem.W.Frag} {mg:Str->Option Value} {base:Heap}
abbrev qaz:List Str:=["rows","number","row"]
theorem VX:qr qaz ["rows"] (ql vi):=⟨rfl,rfl,rfl,by decide+kernel,rfl,by decide+kernel,by decide+kernel⟩
theorem KI {f fN fP fR:Addr} {fd fdN fdP fdR:FuncData} (F:jG K "need_form" "need_form" vi f fd) (B:Qe mg) (G:jF mg) (T:jP K mg) (hN:qQ K mg "is_name" Zx ["thing"] fN fdN) (hP:qQ K mg "is_tuple_of_names" Xk ["thing"] fP fdP)
   (hR:qQ K mg "is_row" Ye ["thing"] fR fdR):qp P w K mg base qI 4 f fd ["rows"] ZU:=by
 have GR:qp P w K mg base qI 3 fR fdR ["thing"] G0:=xW hR.fn B G T hN hP
 obtain⟨tm,hmp⟩:=T.mp
 refine F.okJ VX (λvs H Q E h=>?_) (λcdv A outer s H vs Q E hr h=>?_)
 . obtain⟨l,ps,rs,rfl,_⟩:=h
   rfl
 . obtain⟨l,ps,rs,rfl,g,q⟩:=h
   refine⟨_,qg (qK (j3 (ju (qX (qx qP (by rfl) T.isi boot_isinstance (qd (jv 0) (qd (jL (v:=.ty "list") (by rfl) G.lst boot_list rfl) qf)))))
       (jW (qt Qn (qx qD (by rfl) B.len boot_len (qd (jv 0) qf)) qm (qA _)))).pt qZ qB)
     (qg (qK (qt zm (qx qD (by rfl) B.len boot_len (qd (jv 0) qf)) (QF (v:=.int 14) (by rfl) hmp ⟨_,rfl⟩) (qA _)) qZ qB)
     (qh (ja PassesOwn.never rfl (Wt (by rfl) T.enu (qd (jv 0) qf)) (Z6 rfl (jM (qv (i:=1) VX.nd rfl (Or.inl rfl)) (jM (qv (i:=2) VX.nd rfl (Or.inl rfl)) JX)))
       (qh (qK (ju (qX (qG hR GR hr (by rfl) (qd (jv 2) qf)))) qZ qB))))),?_⟩
   have lp:(ps.map V.ref).length=rs.length:=by rw[tj,g.rows.1]
   refine⟨_,rfl,_,_,_,_,rfl,rfl,.lst g.at_,T.kll,_,rfl,qV ⟨_,rfl,l,_,rfl,.inl (.of g.at_),rfl,_,rfl,?_⟩⟩
   have e0:decide (V.int (((ps.map V.ref).length:Nat):Int)=V.int 0)=false:=decide_eq_false (by
     intro z
     have:=V.int.inj z
     have:=g.pos
     omega)
   rw[e0]
   refine qV ⟨_,rfl,l,_,rfl,.inl (.of g.at_),_,_,rfl,rfl,_,rfl,?_⟩
   have e1:decide ((14:Int) < (((ps.map V.ref).length:Nat):Int))=false:=decide_eq_false (by
     have:=g.le
     omega)
   refine Y5 (λz=>absurd z (by rw[e1];decide)) (λ_=>?_)
   refine⟨_,rfl,l,rfl,⟨_,.of g.at_⟩,?_⟩
   refine YE (K:=K) (a:=l) (xs:=ps.map V.ref) (λi σ' H'=>∃v1 v2,σ'=[some (.ref l),v1,v2]/\Same H H') ⟨none,none,rfl,Same.refl H⟩ (λi σ' H' _ ⟨_,_,_,s⟩=>.of (s _ _ g.at_)) ?_ ?_
   . rintro i x σ' H' p hx hp ⟨v1,v2,rfl,s1⟩
     have g1:=g.mono (s1.trans (qk (o:=.tup [.int (i:Nat),x]) hp))
     obtain⟨p',q',r,rfl,_,hr',a,b⟩:=g1.rows.item hx
     refine⟨p,_,rfl,.of qe,rfl,_,_,rfl,_,_,rfl,rfl,_,rfl,p',q',r,rfl,a,b,g.good.nm r hr',g.good.names r hr',tV (g.good.len r hr') (by decide),λH2 s2=>⟨_,rfl,qV ⟨_,_,rfl,?_⟩⟩⟩
     exact(s1.trans (qk hp)).trans s2
   . rintro σ' H' ⟨v1,v2,rfl,s1⟩
     exact q H' s1
abbrev qbR:List Str:=["order","ahead","name"]
theorem xg:qr qbR ["order"] (ql Kc):=⟨rfl,rfl,rfl,by decide+kernel,rfl,by decide+kernel,by decide+kernel⟩
theorem JU {zs:List Str} (hn:zs.Nodup) {i:Nat} {z:Str} (e:zs[i]?=some z):¬(Sum.inr z:qF)∈(zs.take i).map Sum.inr:=λh=>by
 obtain⟨y,hy,ey⟩:=tG.mp h
 have ey':y=z:=Sum.inr.inj ey
 subst ey'
 obtain⟨j,hj⟩:=zah hy
 have hj1:=(tq.mp hj).1
 rw[tJ]at hj1
 have hji:j < i:=by omega
 rw[zbW hji]at hj
 have h1:=(tq.mp hj)
 have h2:=(tq.mp e)
 exact absurd (h1.2.trans h2.2.symm) (zar.mp hn j i h1.1 h2.1 hji)
theorem Wf {kvs:List (qF×V)} {k:qF} (v:V) (h:qS kvs k=none):(jT kvs k v).map (·.1)=kvs.map (·.1)++[k]:=by
 rw[Q8 v h,tE]
 rfl
theorem Nx {f:Addr} {fd:FuncData} (F:jG K "need_own_names" "need_own_names" Kc f fd):qp P w K mg base qI 1 f fd ["order"] G9:=by
 refine F.okJ xg (λvs H Q E h=>?_) (λcdv A outer s H vs Q E hr h=>?_)
 . obtain⟨l,zs,rfl,_⟩:=h
   rfl
 . obtain⟨l,zs,rfl,hl,hn,hz,q⟩:=h
   have hu:=jS hr
   refine⟨_,qg (qw (i:=1) xg.nd rfl (Or.inl rfl) Qi)
     (qh (ja PassesOwn.never rfl (qJ (jv 0)) (qv (i:=2) xg.nd rfl (Or.inl rfl))
       (qg (qK (Qy (Zj hu (jv 2) (jv 1))) qZ qB) (qh (jC hu (jv 1) (jv 2) jy rfl))))),?_⟩
   intro D hD
   refine⟨_,rfl,l,rfl,⟨_,.of (qj hl hD)⟩,?_⟩
   refine js (K:=K) (a:=l) (xs:=zs.map V.str) (λi σ' H'=>∃v kvs,σ'=[some (.ref l),some (.ref D),v]/\Same H H'/\H' D=some (.dK kvs)/\kvs.map (·.1)=(zs.take i).map Sum.inr) ⟨none,[],rfl,qk hD,qe,rfl⟩ (λi σ' H' _ ⟨_,_,_,s,_⟩=>.of (s _ _ hl)) ?_ ?_
   . rintro i x σ' H' hx ⟨v,kvs,rfl,s1,hD1,ek⟩
     rw[tH]at hx
     cases e:zs[i]? with
     | none=>rw[e]at hx;cases hx
     | some z=>
       rw[e]at hx
       obtain rfl:=(tO.inj hx).symm
       have hi:=(tq.mp e).1
       have ez:qS kvs (Sum.inr z:qF)=none:=Q3 (by rw[ek];exact JU hn e)
       have gz:jU H' D (.str z) none:=by
         have:=jU.k (k:=(Sum.inr z:qF)) hD1
         rw[ez]at this
         exact this
       have lk:kvs.length < sizeLine:=by
         have:=congrArg zaB ek
         rw[tj,tj,tJ]at this
         exact qo (by omega)
       refine⟨_,rfl,_,rfl,D,none,rfl,gz,_,rfl,qV ?_⟩
       refine⟨_,rfl,_,rfl,D,_,rfl,Jc.k (k:=(Sum.inr z:qF)) hD1 lk,_,_,rfl,Same.upd s1 hD,qe,?_⟩
       rw[Wf _ ez,ek,tM,e,tE]
       rfl
   . rintro σ' H' ⟨v,kvs,rfl,s1,_⟩
     exact q H' s1
abbrev qaA:List Str:=["ends","order","ahead","name"]
theorem VY:qr qaA ["ends","order"] (ql vj):=⟨rfl,rfl,rfl,by decide+kernel,rfl,by decide+kernel,by decide+kernel⟩
theorem KJ {f:Addr} {fd:FuncData} (F:jG K "need_ends" "need_ends" vj f fd):qp P w K mg base qI 1 f fd ["ends","order"] y6:=by
 refine F.okJ VY (λvs H Q E h=>?_) (λcdv A outer s H vs Q E hr h=>?_)
 . obtain⟨x,l,es,zs,rfl,_⟩:=h
   rfl
 . obtain⟨x,l,es,zs,rfl,hx,hl,hn,hin,hz,q⟩:=h
   have hu:=jS hr
   refine⟨_,qg (qw (i:=2) VY.nd rfl (Or.inl rfl) Qi)
     (qh (ja PassesOwn.never rfl (YA (jv 0)) (qv (i:=3) VY.nd rfl (Or.inl rfl))
       (qg (qK (qt jI (jv 3) (jv 1) (by with_unfolding_all rfl)) qZ qB)
       (qg (qK (Qy (Zj hu (jv 3) (jv 2))) qZ qB) (qh (jC hu (jv 2) (jv 3) jy rfl)))))),?_⟩
   intro D hD
   refine⟨_,rfl,x,rfl,⟨_,.of (qj hx hD)⟩,?_⟩
   refine Gi (K:=K) (a:=x) (xs:=es.map V.str) (λi σ' H'=>∃v kvs,σ'=[some (.ref x),some (.ref l),some (.ref D),v]/\Same H H'/\H' D=some (.dK kvs)/\kvs.map (·.1)=(es.take i).map Sum.inr) ⟨none,[],rfl,qk hD,qe,rfl⟩ (λi σ' H' _ ⟨_,_,_,s,_⟩=>.of (s _ _ hx)) ?_ ?_
   . rintro i y σ' H' hy ⟨v,kvs,rfl,s1,hD1,ek⟩
     rw[tH]at hy
     cases e:es[i]? with
     | none=>rw[e]at hy;cases hy
     | some z=>
       rw[e]at hy
       obtain rfl:=(tO.inj hy).symm
       have hi:=(tq.mp e).1
       have ez:qS kvs (Sum.inr z:qF)=none:=Q3 (by rw[ek];exact JU hn e)
       have gz:jU H' D (.str z) none:=by
         have:=jU.k (k:=(Sum.inr z:qF)) hD1
         rw[ez]at this
         exact this
       have lk:kvs.length < sizeLine:=by
         have:=congrArg zaB ek
         rw[tj,tj,tJ]at this
         exact qo (by omega)
       refine⟨_,rfl,_,rfl,l,_,rfl,.inl (.of (s1 _ _ hl)),rfl,Qd zs,_,rfl,?_⟩
       rw[Ww (hin z (tQ e))]
       refine qV ⟨_,rfl,_,rfl,D,none,rfl,gz,_,rfl,qV ?_⟩
       refine⟨_,rfl,_,rfl,D,_,rfl,Jc.k (k:=(Sum.inr z:qF)) hD1 lk,_,_,rfl,Same.upd s1 hD,qe,?_⟩
       rw[Wf _ ez,ek,tM,e,tE]
       rfl
   . rintro σ' H' ⟨v,kvs,rfl,s1,_⟩
     exact q H' s1
abbrev qbV:List Str:=["rows","many"]
theorem Re:qr qbV ["rows"] (ql Ke):=⟨rfl,rfl,rfl,by decide+kernel,rfl,by decide+kernel,by decide+kernel⟩
theorem NA {f:Addr} {fd:FuncData} (F:jG K "need_few_roads" "need_few_roads" Ke f fd) (B:Qe mg) (T:jP K mg):qp P w K mg base qI 1 f fd ["rows"] ZU:=by
 obtain⟨tm,hmr⟩:=T.mr
 refine F.okJ Re (λvs H Q E h=>?_) (λcdv A outer s H vs Q E hr h=>?_)
 . obtain⟨l,ps,rs,rfl,_⟩:=h
   rfl
 . obtain⟨l,ps,rs,rfl,g,q⟩:=h
   refine⟨_,qg (qw (i:=1) Re.nd rfl (Or.inl rfl) (qx (yr rfl) (by rfl) T.sum boot_sum (qd (jX (N':=["row"]) (ix:=[none]) (te:=uD (λxs H Q=>∃p ys,xs=[.ref p]/\(SqL K H p ys\/SqT K H p ys)/\Q (.int ys.length) H) (jA (YY (V3 K) (qW 0) (tC (.int 1))) QD)) rfl ⟨rfl,rfl,rfl,rfl,rfl⟩ (qJ (jv 0)) (λC s2 H2 fp pins=>
       ⟨qv (i:=0) (Mv _) rfl (Or.inl rfl),jK,qx qD (by rfl) B.len boot_len (qd (jx j4 (jv 0) qm (λ_ _=>rfl)) qf)⟩)) qf)))
     (qh (qK (qt zm (jv 1) (QF (v:=.int 40) (by rfl) hmr ⟨_,rfl⟩) (qA _)) qZ qB)),?_⟩
   refine⟨_,rfl,l,rfl,⟨_,.of g.at_⟩,λD hD=>?_⟩
   refine jw (K:=K) (a:=l) (xs:=ps.map V.ref) (λi σ' H'=>∃v,σ'=[v]/\H'=upd H D (.lst (((rs.take i).map λr=>r.2.length).map λn=>V.int ((n:Nat):Int)))) ⟨none,rfl,rfl⟩ (λi σ' H' _ ⟨_,_,e⟩=>e▸.of (qj g.at_ hD)) ?_ ?_
   . rintro i x σ' H' hx ⟨v,rfl,rfl⟩
     obtain⟨p',q',r,rfl,er,hr',a,b⟩:=g.rows.item hx
     have hi:=(tq.mp er).1
     refine⟨_,rfl,p',_,1,_,rfl,rfl,.of (qj a hD),rfl,q',_,rfl,.inr (.of (qj b hD)),_,qe,?_,_,rfl,?_⟩
     . rw[tj,tj,tJ]
       have:=g.le
       exact qo (by omega)
     . rw[jd,tM,er,tE,tE,tj]
       rfl
   . rintro σ' H' ⟨v,rfl,rfl⟩
     have e:rs.take (ps.map V.ref).length=rs:=tF (by rw[tj,g.rows.1];exact tw _)
     rw[e]
     refine⟨D,_,rfl,.of qe,zaZ g.good.few (by decide),?_⟩
     refine⟨_,rfl,_,_,rfl,rfl,_,rfl,?_⟩
     have:=g.good.few
     refine Y5 (λz=>absurd (of_decide_eq_true z) ?_) (λ_=>q _ (qk hD))
     show ¬(40:Int) < _
     omega
abbrev qaw:List Str:=["rows","order","row"]
theorem VW:qr qaw ["rows"] (ql z8):=⟨rfl,rfl,rfl,by decide+kernel,rfl,by decide+kernel,by decide+kernel⟩
structure yy (K:PySem.W.Frag) (mg:Str->Option Value):Prop where
 nm:∃f fd,qQ K mg "is_name" Zx ["thing"] f fd
 tn:∃f fd,qQ K mg "is_tuple_of_names" Xk ["thing"] f fd
 rw:∃f fd,qQ K mg "is_row" Ye ["thing"] f fd
 fo:∃f fd,qQ K mg "need_form" vi ["rows"] f fd
 ow:∃f fd,qQ K mg "need_own_names" Kc ["order"] f fd
 en:∃f fd,qQ K mg "need_ends" vj ["ends","order"] f fd
 fw:∃f fd,qQ K mg "need_few_roads" Ke ["rows"] f fd
theorem KE {f:Addr} {fd:FuncData} (F:jG K "need_rows" "need_rows" z8 f fd) (B:Qe mg) (G:jF mg) (T:jP K mg) (N:yy K mg):qp P w K mg base qI 5 f fd ["rows"] ZU:=by
 obtain⟨fN,fdN,hN⟩:=N.nm
 obtain⟨fP,fdP,hP⟩:=N.tn
 obtain⟨fR,fdR,hR⟩:=N.rw
 obtain⟨fF,fdF,hF⟩:=N.fo
 obtain⟨fO,fdO,hO⟩:=N.ow
 obtain⟨fE,fdE,hE⟩:=N.en
 obtain⟨fW,fdW,hW⟩:=N.fw
 have GF:qp P w K mg base qI 4 fF fdF ["rows"] ZU:=KI hF.fn B G T hN hP hR
 have GO:qp P w K mg base qI 1 fO fdO ["order"] G9:=Nx hO.fn
 have GE:qp P w K mg base qI 1 fE fdE ["ends","order"] y6:=KJ hE.fn
 have GW:qp P w K mg base qI 1 fW fdW ["rows"] ZU:=NA hW.fn B T
 refine F.okJ VW (λvs H Q E h=>?_) (λcdv A outer s H vs Q E hr h=>?_)
 . obtain⟨l,ps,rs,rfl,_⟩:=h
   rfl
 . obtain⟨l,ps,rs,rfl,g,q⟩:=h
   refine⟨_,qg (je (qG hF GF hr (by rfl) (qd (jv 0) qf)))
     (qg (QN (i:=1) (N':=["row"]) (ix:=[none]) (te:=YY (V3 K) (qW 0) (tC (.int 0))) VW.nd rfl (Or.inl rfl) rfl ⟨rfl,rfl,rfl,rfl,rfl⟩ (qJ (jv 0)) (λC s2 H2 fp pins=>
       ⟨qv (i:=0) (Mv _) rfl (Or.inl rfl),jK,jx j4 (jv 0) qm (λ_ _=>rfl)⟩))
     (qg (je (qG hO GO (hr.mono (by decide)) (by rfl) (qd (jv 1) qf)))
     (qg (ja PassesOwn.never rfl (qJ (jv 0)) (qv (i:=2) VW.nd rfl (Or.inl rfl))
       (qh (je (qG hE GE (hr.mono (by decide)) (by rfl) (qd (jx j4 (jv 2) qm (λ_ _=>rfl)) (qd (jv 1) qf))))))
     (qh (je (qG hW GW (hr.mono (by decide)) (by rfl) (qd (jv 0) qf))))))),?_⟩
   refine⟨_,rfl,l,ps,rs,rfl,g,λH1 s1=>?_⟩
   have g1:=g.mono s1
   refine⟨_,rfl,l,rfl,⟨_,.of g1.at_⟩,λD hD=>?_⟩
   refine jw (K:=K) (a:=l) (xs:=ps.map V.ref) (λi σ' H'=>∃v,σ'=[v]/\H'=upd H1 D (.lst (((rs.take i).map (·.1)).map V.str))) ⟨none,rfl,rfl⟩ (λi σ' H' _ ⟨_,_,e⟩=>e▸.of (qj g1.at_ hD)) ?_ ?_
   . rintro i x σ' H' hx ⟨v,rfl,rfl⟩
     obtain⟨p',q',r,rfl,er,hr',a,b⟩:=g1.rows.item hx
     have hi:=(tq.mp er).1
     refine⟨_,rfl,p',_,0,_,rfl,rfl,.of (qj a hD),rfl,_,qe,?_,_,rfl,?_⟩
     . rw[tj,tj,tJ]
       have:=g.le
       exact qo (by omega)
     . rw[jd,tM,er,tE,tE]
       rfl
   . rintro σ' H' ⟨v,rfl,rfl⟩
     have e:rs.take (ps.map V.ref).length=rs:=tF (by rw[tj,g.rows.1];exact tw _)
     rw[e]
     refine⟨_,rfl,D,rs.map (·.1),rfl,qe,g.good.nd,by rw[tj];have:=g.le;omega,λH2 s2=>?_⟩
     have sD:Same H1 H2:=(qk hD).trans s2
     have hD2:H2 D=some (.lst ((rs.map (·.1)).map V.str)):=s2 _ _ qe
     have g2:=g1.mono sD
     refine⟨_,rfl,l,rfl,⟨_,.of g2.at_⟩,?_⟩
     refine js (K:=K) (a:=l) (xs:=ps.map V.ref) (λi σ' H'=>∃v,σ'=[some (.ref l),some (.ref D),v]/\Same H2 H') ⟨none,rfl,Same.refl H2⟩ (λi σ' H' _ ⟨_,_,s⟩=>.of (s _ _ g2.at_)) ?_ ?_
     . rintro i x σ' H' hx ⟨v,rfl,s3⟩
       obtain⟨p',q',r,rfl,er,hr',a,b⟩:=(g2.mono s3).rows.item hx
       refine⟨_,rfl,p',_,1,_,rfl,rfl,.of a,rfl,_,rfl,q',D,r.2,rs.map (·.1),rfl,b,s3 _ _ hD2,g.good.rd r hr',g.good.to r hr',tV (g.good.len r hr') (by decide),λH4 s4=>⟨_,rfl,s3.trans s4⟩⟩
     . rintro σ' H' ⟨v,rfl,s3⟩
       exact⟨_,rfl,l,ps,rs,rfl,g2.mono s3,λH4 s4=>q H4 (((s1.trans sD).trans s3).trans s4)⟩
end
open PySem L2 PyProof.Rows
abbrev V0:Stmt:=Qa (top 37) 0
abbrev Zy:Stmt:=Qa (top 37) 1
abbrev Yg:Stmt:=Qa (top 37) 2
def jg (rs:List (Str×List Str)) (r:Str×List Str):List Str:=(rs.map (·.1)).filter λz=>Jd (.str z) (r.2.map V.str)
def jB (CG:Addr) (H:Hp) (a:Addr) (rs:List (Str×List Str)):Prop:=∃(dx lo rd:Addr) (kvs:List (qF×V)),H a=some (.ins CG dx [("order",.ref lo),("roads",.ref rd)])/\H lo=some (.lst ((rs.map (·.1)).map V.str))/\H rd=some (.dK kvs)/\
 ∀r∈rs,∃q,qS kvs (Sum.inr r.1)=some (.ref q)/\H q=some (.lst ((jg rs r).map V.str))
theorem jB.mono {CG:Addr} {H H':Hp} {a:Addr} {rs:List (Str×List Str)} (h:jB CG H a rs) (s:Same H H'):jB CG H' a rs:=by
 obtain⟨dx,lo,rd,kvs,h1,h2,h3,h4⟩:=h
 exact⟨dx,lo,rd,kvs,s _ _ h1,s _ _ h2,s _ _ h3,λr hr=>let ⟨q,a,b⟩:=h4 r hr;⟨q,a,s _ _ b⟩⟩
theorem qY.fr {H H':Hp} {l x C dx:Addr} {fs:List (Str×V)} {ps:List Addr} {rs:List (Str×List Str)} (h:qY H l ps rs) (hx:H x=some (.ins C dx fs)) (s:Fr H x H'):qY H' l ps rs:=by
 refine⟨s _ _ h.at_ (λe=>?_),⟨h.rows.1,λi p r e1 e2=>?_⟩,h.good,h.pos,h.le⟩
 . have:=h.at_
   rw[e,hx]at this
   cases this
 . obtain⟨q,a,b⟩:=h.rows.2 i p r e1 e2
   exact⟨q,s _ _ a (λe=>by rw[e,hx]at a;cases a),s _ _ b (λe=>by rw[e,hx]at b;cases b)⟩
structure ClG (K:PySem.W.Frag) (mg:Str->Option Value) (CG f:Addr) (fd:FuncData):Prop where
 cl:YX K CG
 mkr:Mk K CG f
 ns:mg "Ground"=some (.ref CG)
 no:j6 K CG "order"
 nr:j6 K CG "roads"
 fn:jG K "__init__" "Ground.__init__" V0 f fd
 bi:jH K fd ["self","rows"] []
theorem nor:¬(Str.ofString "order")=Str.ofString "roads":=by decide+kernel
theorem qbM (v:V):Jj (Str.ofString "order") v []=[(Str.ofString "order",v)]:=rfl
theorem qbL (v u:V):Jj (Str.ofString "roads") u [(Str.ofString "order",v)]=[(Str.ofString "order",v),(Str.ofString "roads",u)]:=by
 unfold Jj
 rw[if_neg nor]
 rfl
theorem lkO (v u:V):([(Str.ofString "order",v),(Str.ofString "roads",u)]:List (Str×V)).lookup (Str.ofString "order")=some v:=by simp [zbc]
theorem lkR (v u:V):([(Str.ofString "order",v),(Str.ofString "roads",u)]:List (Str×V)).lookup (Str.ofString "roads")=some u:=by
 have e:((Str.ofString "roads")==(Str.ofString "order"))=false:=by decide+kernel
 simp [zbc,e]
def zG (CG:Addr):Sp:=λvs H Q _=>∃(x dx l:Addr) (ps:List Addr) (rs:List (Str×List Str)),vs=[.ref x,.ref l]/\qY H l ps rs/\H x=some (.ins CG dx [])/\∀H',jB CG H' x rs->Fr H x H'->Q .non H'
def Q4 (CG:Addr):Sp:=λvs H Q _=>∃(a:Addr) (rs:List (Str×List Str)),vs=[.ref a]/\jB CG H a rs/\∀l,H l=none->Q (.ref l) (upd H l (.lst ((rs.map (·.1)).map V.str)))
def JM (CG:Addr):Sp:=λvs H Q _=>∃(a:Addr) (rs:List (Str×List Str)) (r:Str×List Str),vs=[.ref a,.str r.1]/\jB CG H a rs/\r∈rs/\jc r.1=true/\∀H1 l,Same H H1->H1 l=none->Q (.ref l) (upd H1 l (.lst ((jg rs r).map V.str)))
section
variable {P:Program} {w:World} {K:PySem.W.Frag} {mg:Str->Option Value} {base:Heap}
abbrev nGI:List Str:=["self","rows","row"]
theorem MY:qr nGI ["self","rows"] (ql V0):=⟨rfl,rfl,rfl,by decide+kernel,rfl,by decide+kernel,by decide+kernel⟩
theorem Vc {f fW CG:Addr} {fd fdW:FuncData} (C:ClG K mg CG f fd) (B:Qe mg) (G:jF mg) (T:jP K mg) (N:yy K mg) (hW:qQ K mg "need_rows" z8 ["rows"] fW fdW):qp P w K mg base qI 6 f fd ["self","rows"] (zG CG):=by
 have GW:qp P w K mg base qI 5 fW fdW ["rows"] ZU:=KE hW.fn B G T N
 refine C.fn.okJ MY (λvs H Q E h=>?_) (λcdv A outer s H vs Q E hr h=>?_)
 . obtain⟨x,dx,l,ps,rs,rfl,_⟩:=h
   rfl
 . obtain⟨x,dx,l,ps,rs,rfl,g,hx,q⟩:=h
   have hu:=jS hr
   refine⟨_,qg (je (qG hW GW hr (by rfl) (qd (jv 1) qf)))
     (qg (Ws (jv 0) (jX (N':=["row"]) (ix:=[none]) (te:=YY (V3 K) (qW 0) (tC (.int 0))) rfl ⟨rfl,rfl,rfl,rfl,rfl⟩ (qJ (jv 1)) (λC s2 H2 fp pins=>
       ⟨qv (i:=0) (Mv _) rfl (Or.inl rfl),jK,jx j4 (jv 0) qm (λ_ _=>rfl)⟩)) rfl)
     (qg (Ws (jv 0) Qi rfl)
     (qh (ja PassesOwn.never rfl (qJ (jv 1)) (qv (i:=2) MY.nd rfl (Or.inr rfl))
       (qh (jC hu (QO (jv 0) rfl) (jx j4 (jv 2) qm (λ_ _=>rfl))
         (jX (N':=["name","row"]) (ix:=[none,some 2]) (tt:=zg (YY (Nj K false) (qW 0) (YY (V3 K) (qW 1) (tC (.int 1))))) rfl ⟨rfl,rfl,rfl,rfl,rfl⟩ (qJ (QO (jv 0) rfl)) (λC s2 H2 fp pins=>
           ⟨qv (i:=0) (show (["name","row"]:List Str).Nodup by decide+kernel) rfl (Or.inl rfl),jJ (qt JR (jv 0) (jx j4 (jv 1) qm (λ_ _=>rfl)) (by with_unfolding_all rfl)),jv 0⟩)) rfl)))))),?_⟩
   refine⟨_,rfl,l,ps,rs,rfl,g,λH1 s1=>?_⟩
   have g1:=g.mono s1
   have fr1:Fr H x H1:=λb u h _=>s1 _ _ h
   have hx1:=s1 _ _ hx
   refine⟨_,rfl,l,rfl,⟨_,.of g1.at_⟩,λlo hlo=>?_⟩
   have nlx:lo≠x:=λe=>by rw[e,hx1]at hlo;cases hlo
   refine jw (K:=K) (a:=l) (xs:=ps.map V.ref) (λi σ' H'=>∃v,σ'=[v]/\H'=upd H1 lo (.lst (((rs.take i).map (·.1)).map V.str))) ⟨none,rfl,rfl⟩ (λi σ' H' _ ⟨_,_,e⟩=>e▸.of (qj g1.at_ hlo)) ?_ ?_
   . rintro i y σ' H' hy ⟨v,rfl,rfl⟩
     obtain⟨p',q',r,rfl,er,hr',a,b⟩:=g1.rows.item hy
     have hi:=(tq.mp er).1
     refine⟨_,rfl,p',_,0,_,rfl,rfl,.of (qj a hlo),rfl,_,qe,?_,_,rfl,?_⟩
     . rw[tj,tj,tJ]
       have:=g.le
       exact qo (by omega)
     . rw[jd,tM,er,tE,tE]
       rfl
   rintro σ' H' ⟨v,rfl,rfl⟩
   have e:rs.take (ps.map V.ref).length=rs:=tF (by rw[tj,g.rows.1];exact tw _)
   rw[e]
   have fr2:Fr H x (upd H1 lo (.lst ((rs.map (·.1)).map V.str))):=fr1.new hlo
   have hlo2:upd H1 lo (.lst ((rs.map (·.1)).map V.str)) lo=some (.lst ((rs.map (·.1)).map V.str)):=qe
   have hx2:upd H1 lo (.lst ((rs.map (·.1)).map V.str)) x=some (.ins CG dx []):=qj hx1 hlo
   generalize upd H1 lo (.lst ((rs.map (·.1)).map V.str))=H2 at fr2 hlo2 hx2
   refine⟨_,rfl,x,CG,dx,[],rfl,hx2,C.cl,C.no,by decide,?_⟩
   rw[qbM]
   intro rd hrd
   have nrx:rd≠x:=λe=>by rw[e,qe]at hrd;cases hrd
   have hrd2:H2 rd=none:=by rw[qi nrx]at hrd;exact hrd
   have nrl:rd≠lo:=λe=>by rw[e,hlo2]at hrd2;cases hrd2
   have hHr:H rd=none:=fr2.fresh hx2 hrd2
   refine⟨_,rfl,x,CG,dx,_,rfl,qj qe hrd,C.cl,C.nr,by show 1 < 1000;decide,?_⟩
   rw[qbL]
   have fr5:Fr H x (upd (upd (upd H2 x (.ins CG dx [("order",.ref lo)])) rd (.dK [])) x (.ins CG dx [("order",.ref lo),("roads",.ref rd)])):=((fr2.at_d).own hHr).at_d
   have g5:=g.fr hx fr5
   refine⟨_,rfl,l,rfl,⟨_,.of g5.at_⟩,?_⟩
   refine js (K:=K) (a:=l) (xs:=ps.map V.ref) (λi σ' H'=>∃v kvs,σ'=[some (.ref x),some (.ref l),v]/\H' x=some (.ins CG dx [("order",.ref lo),("roads",.ref rd)])/\H' lo=some (.lst ((rs.map (·.1)).map V.str))/\H' rd=some (.dK kvs)/\
     kvs.map (·.1)=((rs.map (·.1)).take i).map Sum.inr/\(∀r∈rs.take i,∃q,qS kvs (Sum.inr r.1)=some (.ref q)/\H' q=some (.lst ((jg rs r).map V.str)))/\Fr H x H')
     ⟨none,[],rfl,qe,?_,?_,rfl,λr h=>(nomatch h),fr5⟩ (λi σ' H' _ ⟨_,_,_,_,_,_,_,_,fr⟩=>.of (g.fr hx fr).at_) ?_ ?_
   . rw[qi nlx,qi (Ne.symm nrl),qi nlx]
     exact hlo2
   . rw[qi nrx]
     exact qe
   . rintro i y σ' H' hy ⟨v,kvs,rfl,hx',hlo',hrd',ek,hv,fr⟩
     have g':=g.fr hx fr
     obtain⟨p,qq,r,rfl,er,hr',a,b⟩:=g'.rows.item hy
     have hi:=(tq.mp er).1
     have hle:=g.le
     refine⟨_,rfl,x,CG,dx,_,_,rfl,hx',C.cl,C.no,lkO _ _,lo,rfl,⟨_,.of hlo'⟩,λD hD=>?_⟩
     refine jw (K:=K) (a:=lo) (xs:=(rs.map (·.1)).map V.str) (λj σ'' H''=>∃v0,σ''=[v0,some (.ref p)]/\H''=upd H' D (.lst ((((rs.map (·.1)).take j).filter λz=>Jd (.str z) (r.2.map V.str)).map V.str))) ⟨none,rfl,rfl⟩
       (λj σ'' H'' _ ⟨_,_,e⟩=>e▸.of (qj hlo' hD)) ?_ ?_
     . rintro j y σ'' H'' hy ⟨v0,rfl,rfl⟩
       rw[tH]at hy
       cases e:(rs.map (·.1))[j]? with
       | none=>rw[e]at hy;cases hy
       | some z=>
         rw[e]at hy
         obtain rfl:=(tO.inj hy).symm
         refine⟨_,rfl,_,rfl,p,_,1,_,rfl,rfl,.of (qj a hD),rfl,qq,_,rfl,.inr (.of (qj b hD)),rfl,Qd _,_,rfl,?_⟩
         have et:((rs.map (·.1)).take (j+1)).filter (λz=>Jd (.str z) (r.2.map V.str))=((rs.map (·.1)).take j).filter (λz=>Jd (.str z) (r.2.map V.str))++if Jd (.str z) (r.2.map V.str)=true then [z] else []:=by
           rw[tM,e,zaJ]
           congr 1
           cases ei:Jd (.str z) (r.2.map V.str)
           . simp [ei]
           . simp [ei]
         rw[et]
         show if Jd (.str z) (r.2.map V.str)=true then _ else _
         cases ei:Jd (.str z) (r.2.map V.str) with
         | true=>
           refine jZ ⟨_,rfl,_,qe,?_,_,rfl,?_⟩
           . rw[tj]
             refine qo (tV (zao _ _) ?_)
             rw[tJ,tj]
             omega
           . rw[jd,if_pos rfl,tE]
             rfl
         | false=>
           refine qV ⟨_,rfl,?_⟩
           rw[if_neg tK,zaz]
     . rintro σ'' H'' ⟨v0,rfl,rfl⟩
       have ed:((rs.map (·.1)).take ((rs.map (·.1)).map V.str).length).filter (λz=>Jd (.str z) (r.2.map V.str))=jg rs r:=by
         rw[tj,tF (tw _)]
         rfl
       rw[ed]
       have nD:∀{c:Addr} {o:HO},H' c=some o->c≠D:=λh e=>by rw[e,hD]at h;cases h
       have en:(rs.map (·.1))[i]?=some r.1:=by rw[tH,er];rfl
       have ez:qS kvs (Sum.inr r.1:qF)=none:=Q3 (by rw[ek];exact JU g.good.nd en)
       have lk:kvs.length < sizeLine:=by
         have:=congrArg zaB ek
         rw[tj,tj,tJ,tj]at this
         exact qo (by omega)
       refine⟨_,rfl,x,CG,dx,_,_,rfl,qj hx' hD,C.cl,C.nr,lkR _ _,_,rfl,p,_,0,_,rfl,rfl,.of (qj a hD),rfl,rd,_,rfl,Jc.k (k:=(Sum.inr r.1:qF)) (qj hrd' hD) lk,?_⟩
       refine⟨_,jT kvs (Sum.inr r.1) (.ref D),rfl,?_,?_,qe,?_,λr' hr2=>?_,?_⟩
       . rw[qi (Ne.symm nrx)];exact qj hx' hD
       . rw[qi (Ne.symm nrl)];exact qj hlo' hD
       . rw[Wf _ ez,ek,tM,en,tE]
         rfl
       . rw[tM,er]at hr2
         rcases zai.mp hr2 with h | h
         . obtain⟨q1,a1,b1⟩:=hv r' h
           refine⟨q1,?_,?_⟩
           . rw[Q2,if_neg]
             . exact a1
             . intro z
               rw[z,ez]at a1
               cases a1
           . have n1:q1≠rd:=λe=>by rw[e,hrd']at b1;cases b1
             rw[qi n1]
             exact qj b1 hD
         . have er':r'=r:=by simpa using h
           subst er'
           refine⟨D,?_,?_⟩
           . rw[Q2,if_pos rfl]
           . rw[qi (Ne.symm (nD hrd'))]
             exact qe
       . exact(fr.new hD).own hHr
   . rintro σ' H' ⟨v,kvs,rfl,hx',hlo',hrd',ek,hv,fr⟩
     have e:rs.take (ps.map V.ref).length=rs:=tF (by rw[tj,g.rows.1];exact tw _)
     rw[e]at hv
     exact q H' ⟨dx,lo,rd,kvs,hx',hlo',hrd',hv⟩ fr
theorem qbA:qr ["self"] ["self"] (ql Zy):=⟨rfl,rfl,rfl,by decide+kernel,rfl,by decide+kernel,by decide+kernel⟩
theorem Q9 {f fI CG:Addr} {fd fdI:FuncData} (F:jG K "names" "Ground.names" Zy f fd) (C:ClG K mg CG fI fdI) (G:jF mg):qp P w K mg base qI 1 f fd ["self"] (Q4 CG):=by
 refine F.okJ qbA (λvs H Q E h=>?_) (λcdv A outer s H vs Q E hr h=>?_)
 . obtain⟨a,rs,rfl,_⟩:=h
   rfl
 . obtain⟨a,rs,rfl,⟨dx,lo,rd,kvs,h1,h2,h3,h4⟩,q⟩:=h
   refine⟨_,qh (qu (q5 j1 (by rfl) G.lst boot_list (qd (QO (jv 0) rfl) qf))),?_⟩
   exact⟨_,rfl,a,CG,dx,_,_,rfl,h1,C.cl,C.no,lkO _ _,lo,_,rfl,.inl (.of h2),q⟩
abbrev nGF:List Str:=["self","name"]
theorem qbB:qr nGF nGF (ql Yg):=⟨rfl,rfl,rfl,by decide+kernel,rfl,by decide+kernel,by decide+kernel⟩
theorem Jy {f fI fN CG:Addr} {fd fdI fdN:FuncData} (F:jG K "roads_from" "Ground.roads_from" Yg f fd) (C:ClG K mg CG fI fdI) (B:Qe mg) (G:jF mg) (T:jP K mg) (hN:qQ K mg "is_name" Zx ["thing"] fN fdN):qp P w K mg base qI 2 f fd nGF (JM CG):=by
 have GN:qp P w K mg base qI 1 fN fdN ["thing"] uK:=Wi hN.fn B T
 refine F.okJ qbB (λvs H Q E h=>?_) (λcdv A outer s H vs Q E hr h=>?_)
 . obtain⟨a,rs,r,rfl,_⟩:=h
   rfl
 . obtain⟨a,rs,r,rfl,gr,hr',hn,q⟩:=h
   have hu:=jS hr
   refine⟨_,qg (qK (j3 (ju (qX (qG hN GN hr (by rfl) (qd (jv 1) qf)))) (jW (Qy (JY hu (jv 1) (QO (jv 0) rfl))))).pt qZ qB)
     (qh (qu (q5 j1 (by rfl) G.lst boot_list (qd (jk hu (QO (jv 0) rfl) (jv 1) (λ_ _=>rfl)) qf)))),?_⟩
   refine⟨_,rfl,r.1,rfl,hn,λH1 s1=>⟨_,rfl,qV ?_⟩⟩
   obtain⟨dx,lo,rd,kvs,h1,h2,h3,h4⟩:=gr.mono s1
   obtain⟨qq,hv,hq⟩:=h4 r hr'
   have gz:jU H1 rd (.str r.1) (some (.ref qq)):=by
     have:=jU.k (k:=(Sum.inr r.1:qF)) h3
     rw[hv]at this
     exact this
   refine⟨_,rfl,_,rfl,a,CG,dx,_,_,rfl,h1,C.cl,C.nr,lkR _ _,rd,_,rfl,gz,_,rfl,qV ?_⟩
   exact⟨_,rfl,a,CG,dx,_,_,rfl,h1,C.cl,C.nr,lkR _ _,_,rfl,rd,_,rfl,gz,qq,_,rfl,.inl (.of hq),λl hl=>q H1 l s1 hl⟩
end
open PySem L2 PyProof.Rows
abbrev j7:Stmt:=top 2
abbrev ZW:Stmt:=top 3
abbrev qR:=List (Str×List Str)
def jz (rs:qR) (z:Str):List Str:=match rs.find? (λr=>decide (r.1=z)) with
 | some r=>jg rs r
 | none=>[]
theorem Vs:∀{rs:qR} {r:Str×List Str},(rs.map (·.1)).Nodup->r∈rs->rs.find? (λq=>decide (q.1=r.1))=some r
 | a::rs,r,hn,h=>by
   rw[tS,zaC]at hn
   rcases zaa.mp h with rfl | h
   . simp [zbq]
   . have:¬a.1=r.1:=λe=>hn.1 (e▸tG.mpr ⟨r,h,rfl⟩)
     simp only[zbq,decide_eq_false this]
     exact Vs hn.2 h
theorem Qk {rs:qR} {r:Str×List Str} (hn:(rs.map (·.1)).Nodup) (h:r∈rs):jz rs r.1=jg rs r:=by
 unfold jz
 rw[Vs hn h]
theorem W4 {rs:qR} {r:Str×List Str} {y:Str} (h:y∈jg rs r):∃r'∈rs,r'.1=y:=by
 obtain⟨r',h1,h2⟩:=tG.mp (tY.mp h).1
 exact⟨r',h1,h2⟩
theorem Jo {z:Str} {zs:List Str}:Jd (.str z) (zs.map V.str)=true↔z∈zs:=by
 refine⟨λh=>?_,Ww⟩
 unfold Jd at h
 obtain⟨y,hy,e⟩:=zaV.mp h
 obtain⟨x,hx,rfl⟩:=tG.mp hy
 have e':(x==z)=true:=e
 rw[beq_iff_eq]at e'
 exact e'▸hx
theorem Yj {rs:qR} (g:qy rs) {r:Str×List Str} (h:r∈rs) {y:Str}:y∈jg rs r↔y∈r.2:=by
 unfold jg
 rw[tY,Jo]
 exact⟨λz=>z.2,λz=>⟨g.to r h y z,z⟩⟩
theorem Q1 {rs:qR} (hn:(rs.map (·.1)).Nodup):∀z∈rs.map (·.1),∀y∈jz rs z,y∈rs.map (·.1):=λz hz y hy=>by
 obtain⟨r,hr,rfl⟩:=tG.mp hz
 rw[Qk hn hr]at hy
 obtain⟨r',h1,rfl⟩:=W4 hy
 exact tG.mpr ⟨r',h1,rfl⟩
theorem Qf {α:Type}:∀{l m:List α},l.Nodup->(∀z∈l,z∈m)->l.length<=m.length
 | [],m,_,_=>zap _
 | a::l,m,hn,h=>by
   classical
   rw[zaC]at hn
   have ha:=h a t7
   have:=Qf (m:=m.erase a) hn.2 λz hz=>(zcn (λ(e:z=a)=>hn.1 (e▸hz))).mpr (h z (tW _ hz))
   rw[zcN ha]at this
   have:=zdc ha
   rw[zat]
   omega
theorem Xt:∀{more kvs:List (qF×V)},(more.map (·.1)).Nodup->(∀k∈more.map (·.1),¬k∈kvs.map (·.1))->Qx kvs more=kvs++more
 | [],kvs,_,_=>(zaz _).symm
 | p::more,kvs,hn,h=>by
   rw[tS,zaC]at hn
   have e:qS kvs p.1=none:=Q3 (h p.1 (by simp))
   show Qx (jT kvs p.1 p.2) more=_
   rw[Q8 p.2 e,Xt hn.2]
   . rw[zbM]
     rfl
   . intro k hk m
     rw[tE]at m
     rcases zai.mp m with m | m
     . exact h k (by rw[tS];exact tW _ hk) m
     . have:k=p.1:=by simpa using m
       subst this
       exact hn.1 hk
structure WI (K:PySem.W.Frag) (C:Addr) (m qual:Str) (st:Stmt) (ps:List Str) (f:Addr) (fd:FuncData):Prop where
 fn:jG K m qual st f fd
 me:Y7 K C m f
 bi:jH K fd ps []
theorem Vk {X:Cx} {C f:Addr} {fd:FuncData} {m qual:Str} {st:Stmt} {ps:List Str} {k:Nat} {sp:Sp} {o:Expr} {ta:TE} {apos pos:Pos} {pl:Sem Bool} (h:WI X.K C m qual st ps f fd) (c:YX X.K C) (G:qp X.prog X.w X.K X.mg X.base qI k f fd ps sp) (hr:qN k X.A) (he:JE X o ta)
   (ht:eval (.Call (.Attribute o m apos) [] [] pos) X.env=(do
     let ov <-eval o X.env
     standAt apos.atName
     let (f,first) <-holding [ov] (getMethod ov m pl)
     callWith pos f first (backTo pos (starEach [] X.env)) (backToKw pos (keywordEach [] X.env))):=by rfl):
   JE X (.Call (.Attribute o m apos) [] [] pos) (Xf C m sp [] E0 ta QD):=wx he c h.me G hr h.bi .nil QB ht
theorem Xz {X:Cx} {C f:Addr} {fd:FuncData} {m qual:Str} {st:Stmt} {ps:List Str} {k:Nat} {sp:Sp} {o e:Expr} {es:List Expr} {ta:TE} {t:TA} {apos pos:Pos} {pl:Sem Bool} (h:WI X.K C m qual st ps f fd) (c:YX X.K C) (G:qp X.prog X.w X.K X.mg X.base qI k f fd ps sp) (hr:qN k X.A) (he:JE X o ta) (ha:JA X (e::es) t)
   (hst:starEach (e::es) X.env=(false,eval e X.env)::starEach es X.env:=by rfl) (hpl:(backTo pos (starEach es X.env)).any (·.1)=false:=by rfl)
   (ht:eval (.Call (.Attribute o m apos) (e::es) [] pos) X.env=(do
     let ov <-eval o X.env
     standAt apos.atName
     let (f,first) <-holding [ov] (getMethod ov m pl)
     callWith pos f first (backTo pos (starEach (e::es) X.env)) (backToKw pos (keywordEach [] X.env))):=by rfl):
   JE X (.Call (.Attribute o m apos) (e::es) [] pos) (Xf C m sp [] E0 ta t):=K7 he c h.me G hr h.bi .nil QB ha hst hpl ht
structure GM (K:PySem.W.Frag) (mg:Str->Option Value) (CG:Addr):Prop where
 cls:∃f fd,ClG K mg CG f fd
 nm:∃f fd,WI K CG "names" "Ground.names" Zy ["self"] f fd
 fr:∃f fd,WI K CG "roads_from" "Ground.roads_from" Yg ["self","name"] f fd
 isn:∃f fd,qQ K mg "is_name" Zx ["thing"] f fd
theorem jB.ins {CG:Addr} {H:Hp} {a:Addr} {rs:qR} (h:jB CG H a rs):∃dx fs,H a=some (.ins CG dx fs)/\fs.lookup (Str.ofString "names")=none/\fs.lookup (Str.ofString "roads_from")=none:=by
 obtain⟨dx,lo,rd,kvs,h1,_⟩:=h
 refine⟨dx,_,h1,?_,?_⟩
 . have e1:((Str.ofString "names")==(Str.ofString "order"))=false:=by decide+kernel
   have e2:((Str.ofString "names")==(Str.ofString "roads"))=false:=by decide+kernel
   simp only[zbc]
   rw[e1,e2]
 . have e1:((Str.ofString "roads_from")==(Str.ofString "order"))=false:=by decide+kernel
   have e2:((Str.ofString "roads_from")==(Str.ofString "roads"))=false:=by decide+kernel
   simp only[zbc]
   rw[e1,e2]
theorem x6 {rs:qR} {i:Nat} {y:V} (h:((rs.map (·.1)).map V.str)[i]?=some y):∃r,rs[i]?=some r/\r∈rs/\y=.str r.1:=by
 rw[tH,tH]at h
 cases e:rs[i]? with
 | none=>rw[e]at h;cases h
 | some r=>rw[e]at h;exact⟨r,rfl,tQ e,(tO.inj h).symm⟩
theorem jo {zs:List Str} {i:Nat} {y:V} (h:(zs.map V.str)[i]?=some y):∃z,zs[i]?=some z/\z∈zs/\y=.str z:=by
 rw[tH]at h
 cases e:zs[i]? with
 | none=>rw[e]at h;cases h
 | some z=>rw[e]at h;exact⟨z,rfl,tQ e,(tO.inj h).symm⟩
theorem Ze {rs:qR} (r:Str×List Str):(jg rs r).length<=rs.length:=by
 have:=zao (λz=>Jd (.str z) (r.2.map V.str)) (rs.map (·.1))
 rwa [tj]at this
theorem jD {c:Bool} {A B:Prop} (hc:c=false) (h:B):if c=true then A else B:=by
 rw[hc]
 exact qV h
theorem jR {c:Bool} {A B:Prop} (hc:c=true) (h:A):if c=true then A else B:=by
 rw[if_pos hc]
 exact h
theorem UM {kvs:List (qF×V)}:∀{i:Nat} {k:qF} {v:V},(kvs.map (·.1)).Nodup->kvs[i]?=some (k,v)->qS kvs k=some v:=by
 induction kvs with
 | nil=>intro i k v _ e;simp at e
 | cons p r ih=>
   intro i k v hn e
   rw[tS,zaC]at hn
   cases i with
   | zero=>
     rw[List.getElem?_cons_zero]at e
     obtain rfl:=tO.inj e
     exact jn rfl
   | succ i=>
     rw[zbC]at e
     have:¬p.1=k:=λz=>hn.1 (z▸tG.mpr ⟨_,tQ e,rfl⟩)
     rw[jh this]
     exact ih hn.2 e
theorem vp {H:Hp}:∀(ps:List Addr) (rs:qR),qH H ps rs->∃qs:List Addr,qs.length=rs.length/\∀(i:Nat) (p q:Addr) (r:Str×List Str),ps[i]?=some p->rs[i]?=some r->qs[i]?=some q->H p=some (.tup [.str r.1,.ref q])/\H q=some (.tup (r.2.map V.str))
 | [],[],_=>⟨[],rfl,λi p q r e=>by simp at e⟩
 | [],_::_,h=>by cases h.1
 | _::_,[],h=>by cases h.1
 | p::ps,r::rs,h=>by
   obtain⟨qs,l,k⟩:=vp ps rs ⟨zcA.inj h.1,λi a b e1 e2=>h.2 (i+1) a b (by simpa using e1) (by simpa using e2)⟩
   obtain⟨q,a,b⟩:=h.2 0 p r rfl rfl
   refine⟨q::qs,by simp [l],λi p' q' r' e1 e2 e3=>?_⟩
   cases i with
   | zero=>cases e1;cases e2;cases e3;exact⟨a,b⟩
   | succ i=>exact k i p' q' r' (by simpa using e1) (by simpa using e2) (by simpa using e3)
def Vj (rs:qR) (qs:List Addr):List (qF×V):=List.zipWith (λr q=>((Sum.inr r.1:qF),V.ref q)) rs qs
theorem JV:∀{rs:qR} {qs:List Addr},qs.length=rs.length->(Vj rs qs).map (·.1)=(rs.map (·.1)).map Sum.inr
 | [],[],_=>rfl
 | [],_::_,h=>by cases h
 | _::_,[],h=>by cases h
 | r::rs,q::qs,h=>by
   show Sum.inr r.1::(Vj rs qs).map (·.1)=_
   rw[JV (zcA.inj h)]
   rfl
theorem Yx {rs:qR} {qs:List Addr} (h:qs.length=rs.length):(Vj rs qs).length=rs.length:=by
 have:=congrArg zaB (JV h)
 simpa using this
theorem vI {rs:qR} {qs:List Addr} (h:qs.length=rs.length) {i:Nat} {r:Str×List Str} (e:rs[i]?=some r):∃q,qs[i]?=some q/\(Vj rs qs)[i]?=some (Sum.inr r.1,.ref q):=by
 have hi:i < qs.length:=by rw[h];exact(tq.mp e).1
 refine⟨qs[i],tu hi,?_⟩
 unfold Vj
 rw[List.getElem?_zipWith,e,tu hi]
theorem wj {rs:qR} {qs:List Addr} (h:qs.length=rs.length) {i:Nat} {kv:qF×V} (e:(Vj rs qs)[i]?=some kv):∃r q,rs[i]?=some r/\qs[i]?=some q/\kv=(Sum.inr r.1,.ref q):=by
 have hi:i < rs.length:=by rw[<-Yx h];exact(tq.mp e).1
 obtain⟨q,e1,e2⟩:=vI h (tu hi)
 rw[e2]at e
 exact⟨_,q,tu hi,e1,(tO.inj e).symm⟩
theorem ZI {rs:qR} (g:qy rs) {r:Str×List Str} (h:r∈rs) {y:Str}:y∈jz rs r.1↔y∈r.2:=by
 rw[Qk g.nd h]
 exact Yj g h
theorem Ud {σ:L2.St} {H:Hp} {Q:List V->Hp->Prop} (h:Q [] H):QD σ H Q:=h
theorem jN {H H':Hp} {a:Addr} (s:Same H H') (h:H' a=none):H a=none:=by
 cases z:H a with
 | none=>rfl
 | some u=>rw[s _ _ z]at h;cases h
theorem Ue {z:Str} (h:jc z=true):(∀c∈z.cps.toList,c<=122)/\z.length<=8/\1<=z.length:=by
 unfold jc at h
 simp only[zam,decide_eq_true_eq]at h
 refine⟨λc hc=>?_,h.1.2,h.1.1⟩
 have:=zaW.mp h.2 c hc
 unfold jO at this
 simp only[zam,decide_eq_true_eq]at this
 exact this.2
theorem zM {z:Str} (h:jc z=true):PyData.strOk z=true:=by
 unfold PyData.strOk
 rw[Array.all_eq_true_iff_forall_mem]
 intro c hc
 have:=(Ue h).1 c (by simpa using hc)
 exact decide_eq_true (by omega)
def dL (zs:List Str):PyData:=.list (zs.map PyData.str)
theorem YV {K:PySem.W.Frag} {H:Hp}:∀zs:List Str,DVs K H (zs.map V.str) (zs.map PyData.str)
 | []=>.nil
 | z::zs=>.cons (.str z) (YV zs)
theorem Y9 {K:PySem.W.Frag} {H:Hp} {p:Addr} {zs:List Str} (h:H p=some (.lst (zs.map V.str))):DV K H (.ref p) (dL zs):=.lst (.of h) (YV zs)
theorem N9:∀{zs:List Str},(∀z∈zs,jc z=true)->PyData.canLayAll0 (zs.map PyData.str)=true
 | [],_=>rfl
 | z::zs,h=>by
   rw[tS,PyData.canLayAll0,N9 λy hy=>h y (tW _ hy),zcO]
   exact zM (h z t7)
theorem N8:∀zs:List Str,PyData.depthAll (zs.map PyData.str)=0
 | []=>rfl
 | z::zs=>by
   rw[tS]
   simp only[PyData.depthAll,PyData.depth,N8 zs]
   rfl
theorem Ra {zs:List Str} (h:∀z∈zs,jc z=true):PySem.SeqAt.shaped (dL zs)=true:=by
 unfold PySem.SeqAt.shaped
 rw[zam]
 refine⟨N9 h,decide_eq_true ?_⟩
 unfold dL
 simp only[PyData.depth,N8 zs]
 decide
theorem UK {kvs:List (qF×V)} {ls:List Str} (h:kvs.map (·.1)=ls.map Sum.inr) {y:Str}:(qS kvs (Sum.inr y:qF)).isSome=true↔y∈ls:=by
 constructor
 . intro c
   obtain⟨v,e⟩:=zbV.mp c
   have:=UL e
   rw[h]at this
   obtain⟨x,hx,ex⟩:=tG.mp this
   exact Sum.inr.inj ex▸hx
 . intro c
   cases e:qS kvs (Sum.inr y:qF) with
   | some v=>rfl
   | none=>
     exfalso
     have m:(Sum.inr y:qF)∈kvs.map (·.1):=by rw[h];exact tG.mpr ⟨y,c,rfl⟩
     obtain⟨x,hx,ex⟩:=tG.mp m
     have a:(kvs.any λkv=>decide (kv.1=(Sum.inr y:qF)))=true:=zaV.mpr ⟨x,hx,decide_eq_true ex⟩
     rw[Qs,e]at a
     cases a
theorem YJ {K:PySem.W.Frag} {H:Hp} {l:Addr} {ps:List Addr} {rs:qR} (g:qY H l ps rs) {Q:VK}
   (q:∀dd kvs,H dd=none->kvs.map (·.1)=(rs.map (·.1)).map Sum.inr->(∀r∈rs,∃t,qS kvs (Sum.inr r.1:qF)=some (.ref t)/\H t=some (.tup (r.2.map V.str)))->Q (.ref dd) (upd H dd (.dK kvs))):xv K [.ref l] H Q:=by
 obtain⟨qs,lq,hqs⟩:=vp ps rs g.rows
 have le:=g.le
 refine⟨l,ps,Vj rs qs,rfl,.of g.at_,by rw[Yx lq,g.rows.1],λi a kv e1 e2=>?_,by rw[Yx lq];omega,λdd hdd=>?_⟩
 . obtain⟨r',q',f1,f2,rfl⟩:=wj lq e2
   exact .of (hqs i a q' r' e1 f1 f2).1
 have nk:((Vj rs qs).map (·.1)).Nodup:=by
   rw[JV lq]
   exact Ja g.good.nd λa _ b _ e=>Sum.inr.inj e
 rw[Xt nk (λk _ m=>by simp at m),List.nil_append]
 refine q dd _ hdd (JV lq) λr hr=>?_
 obtain⟨i0,hi0⟩:=zah hr
 obtain⟨q0,eq0,ekv⟩:=vI lq hi0
 have hi0':=(tq.mp hi0).1
 exact⟨q0,UM nk ekv,(hqs i0 _ q0 r (tu (by rw[g.rows.1];exact hi0')) hi0 eq0).2⟩
section
variable {P:Program} {w:World} {K:PySem.W.Frag} {mg:Str->Option Value} {base:Heap}
theorem ud (x:Int):Builtin.bitNot (Builtin.bitNot x)=x:=by unfold Builtin.bitNot;omega
theorem bo (a b:Nat):Builtin.bitOr a b=((a ||| b:Nat):Int):=by
 have na:¬(0:Int)<=Builtin.bitNot a:=by unfold Builtin.bitNot;omega
 have nb:¬(0:Int)<=Builtin.bitNot b:=by unfold Builtin.bitNot;omega
 have e:Builtin.bitAnd (Builtin.bitNot a) (Builtin.bitNot b)=Builtin.bitNot (((Builtin.bitNot (Builtin.bitNot a)).toNat ||| (Builtin.bitNot (Builtin.bitNot b)).toNat:Nat):Int):=by
   unfold Builtin.bitAnd
   rw[decide_eq_false na,decide_eq_false nb]
 unfold Builtin.bitOr
 rw[e,ud,ud,ud,zaQ,zaQ]
theorem ba (a b:Nat):Builtin.bitAnd a b=((a&&& b:Nat):Int):=by
 unfold Builtin.bitAnd
 rw[decide_eq_true (zcy a),decide_eq_true (zcy b)]
 rfl
def Q0 (ns:List Nat):List V:=ns.map λn=>V.int (n:Nat)
theorem ZG (ns:List Nat):(Q0 ns).length=ns.length:=tj ..
theorem Wx {ns:List Nat} {i:Nat} {x:V} (h:(Q0 ns)[i]?=some x):∃n:Nat,ns[i]?=some n/\x=.int n:=by
 unfold Q0 at h
 rw[tH]at h
 cases e:ns[i]? with
 | none=>rw[e]at h;cases h
 | some n=>rw[e]at h;exact⟨n,rfl,(tO.inj h).symm⟩
theorem ZS {ns:List Nat} {i n:Nat} (h:ns[i]?=some n):ns.take (i+1)=ns.take i++[n]:=by
 rw[tM,h]
 rfl
theorem Vm (ns:List Nat) (n:Nat):Q0 ns++[V.int (n:Nat)]=Q0 (ns++[n]):=by unfold Q0;rw[tE];rfl
theorem Vn (ns:List Nat):(Q0 ns).all JD=true:=by
 unfold Q0
 rw[zcw]
 exact zaW.mpr λ_ _=>rfl
theorem wI (ns:List Nat) (n:Nat):Jd (.int (n:Nat)) (Q0 ns)=decide (n∈ns):=by
 unfold Jd Q0
 rw[List.any_map,zaS,zaV,decide_eq_true_iff]
 constructor
 . rintro⟨y,hy,e⟩
   have e':((y:Int)==(n:Int))=true:=e
   have:y=n:=by
     have:=eq_of_beq e'
     omega
   exact this▸hy
 . intro h
   refine⟨n,h,?_⟩
   show ((n:Int)==(n:Int))=true
   simp
def ZT (K:PySem.W.Frag):Sp:=λvs H Q _=>∃(a:Addr) (ns:List Nat),vs=[.ref a]/\SqL K H a (Q0 ns)/\ns.length<=1000/\∀H',Same H H'->Q (.int (Rb.lackN ns:Nat)) H'
def XU (K:PySem.W.Frag):Sp:=λvs H Q _=>∃(a:Addr) (ns:List Nat),vs=[.ref a]/\SqL K H a (Q0 ns)/\(∀x∈ns,x < 1000)/\Q (.int (Rb.setN ns:Nat)) H
theorem zI:qr ["numbers","bits","number"] ["numbers"] (ql ZW):=⟨rfl,rfl,rfl,by decide+kernel,rfl,by decide+kernel,by decide+kernel⟩
theorem W9 {f:Addr} {fd:FuncData} (F:jG K "set_of" "set_of" ZW f fd):qp P w K mg base qI 1 f fd ["numbers"] (XU K):=by
 refine F.okJ zI (λvs H Q E h=>?_) (λcdv A outer s H vs Q E hr h=>?_)
 . obtain⟨a,ns,rfl,_⟩:=h
   rfl
 . obtain⟨a,ns,rfl,hS,hb,q⟩:=h
   refine⟨_,qg (qw (i:=1) zI.nd rfl (Or.inl rfl) qm)
     (qg (ja PassesOwn.never rfl (qJ (jv 0)) (qv (i:=2) zI.nd rfl (Or.inl rfl)) (qh (qw (i:=1) zI.nd rfl (Or.inl rfl) (qO qah (jv 1) (qO Np qm (jv 2))))))
     (qh (qu (jv 1)))),?_⟩
   refine⟨_,rfl,a,rfl,⟨_,hS⟩,?_⟩
   refine js (K:=K) (a:=a) (xs:=Q0 ns) (λi σ H'=>∃v,σ=[some (.ref a),some (.int ((Rb.setN (ns.take i):Nat):Int)),v]/\H'=H) ⟨none,rfl,rfl⟩ (λi σ H' _ ⟨_,_,e⟩=>e▸hS) ?_ ?_
   . rintro i x σ H' hx ⟨v,rfl,rfl⟩
     obtain⟨n,hn,rfl⟩:=Wx hx
     have n1:=hb n (tQ hn)
     have e1:(1:Int)*2^ ((n:Nat):Int).toNat=((2^n:Nat):Int):=by rw[zaQ,Int.one_mul];push_cast;rfl
     have e:((Rb.setN (ns.take (i+1)):Nat):Int)=Builtin.bitOr (Rb.setN (ns.take i):Nat) ((1:Int)*2^ ((n:Nat):Int).toNat):=by rw[e1,bo,ZS hn,Rb.setN_snoc]
     refine⟨_,rfl,_,rfl,_,_,rfl,rfl,⟨by omega,by omega,by decide⟩,_,_,rfl,rfl,some (.int n),?_,rfl⟩
     rw[e]
     rfl
   . rintro σ H' ⟨v,rfl,rfl⟩
     refine⟨_,rfl,?_⟩
     rw[ZG,tF (tw _)]
     exact q
theorem Q5:qr ["numbers","there","number","least"] ["numbers"] (ql j7):=⟨rfl,rfl,rfl,by decide+kernel,rfl,by decide+kernel,by decide+kernel⟩
theorem Ys {f:Addr} {fd:FuncData} (F:jG K "lacking" "lacking" j7 f fd):qp P w K mg base qI 1 f fd ["numbers"] (ZT K):=by
 refine F.okJ Q5 (λvs H Q E h=>?_) (λcdv A outer s H vs Q E hr h=>?_)
 . obtain⟨a,ns,rfl,_⟩:=h
   rfl
 . obtain⟨a,ns,rfl,hS,hl,q⟩:=h
   have hu:=jS hr
   refine⟨_,qg (qw (i:=1) Q5.nd rfl (Or.inl rfl) Qi)
     (qg (ja PassesOwn.never rfl (qJ (jv 0)) (qv (i:=2) Q5.nd rfl (Or.inl rfl)) (qh (jC hu (jv 1) (jv 2) jy rfl)))
     (qg (qw (i:=3) Q5.nd rfl (Or.inl rfl) qm)
     (qg (QM PassesOwn.never (Qy (Zj hu (jv 3) (jv 1)) (by with_unfolding_all rfl)) (qh (wq (i:=3) Q5.nd rfl (Or.inl rfl) qm wD)))
     (qh (qu (jv 3)))))),?_⟩
   intro D hD
   refine⟨_,rfl,a,rfl,⟨_,(qk hD).seq hS⟩,?_⟩
   refine js (K:=K) (a:=a) (xs:=Q0 ns) (λi σ H'=>∃v kvs,σ=[some (.ref a),some (.ref D),v,none]/\H'=upd H D (.dK kvs)/\kvs.length<=i/\∀x:Nat,(qS kvs (Sum.inl (x:Int):qF)).isSome=decide (x∈ns.take i)) ⟨none,[],rfl,rfl,tw _,λx=>by simp [qS]⟩
     (λi σ H' _ ⟨_,_,_,e,_⟩=>e▸(qk hD).seq hS) ?_ ?_
   . rintro i x σ H' hx ⟨v,kvs,rfl,rfl,hk,hv⟩
     obtain⟨n,hn,rfl⟩:=Wx hx
     have hi:i < ns.length:=(tq.mp hn).1
     refine⟨_,rfl,_,rfl,D,_,rfl,Jc.k (k:=(Sum.inl (n:Int):qF)) qe (qo (by omega)),?_⟩
     refine⟨some (.int n),jT kvs (Sum.inl (n:Int)) (.bl true),rfl,jd,?_,λx=>?_⟩
     . have:=QR kvs (Sum.inl (n:Int):qF) (.bl true)
       omega
     . rw[Q2,ZS hn]
       by_cases e:x=n
       . subst e;simp
       . have e':¬(Sum.inl (x:Int):qF)=Sum.inl (n:Int):=λz=>e (by have:=Sum.inl.inj z;omega)
         rw[if_neg e',hv x,zaS]
         simp [e]
   . rintro σ H' ⟨v,kvs,rfl,rfl,hk,hv⟩
     rw[ZG,tF (tw _)]at hv
     refine QG (λσ H'=>∃r:Nat,σ=[some (.ref a),some (.ref D),v,some (.int r)]/\H'=upd H D (.dK kvs)/\∀x,x < r->x∈ns) (λσ _=>match σ with | [_,_,_,some (.int r)]=>ns.length - r.toNat | _=>0) ⟨0,rfl,rfl,λx hx=>absurd hx (zcp _)⟩ ?_ ?_
     . rintro σ H' ⟨r,rfl,rfl,hr'⟩
       refine⟨_,rfl,_,rfl,D,_,rfl,jU.k (k:=(Sum.inl (r:Int):qF)) qe,_,rfl,?_⟩
       rw[hv r]
       by_cases hm:r∈ns
       . rw[decide_eq_true hm]
         have hp:=Rb.pigeon (r+1) ns λx hx=>by
           by_cases e:x=r
           . rw[e];exact hm
           . exact hr' x (by omega)
         refine jZ ⟨_,rfl,_,_,rfl,rfl,⟨r+1,rfl,rfl,λx hx=>?_⟩,?_⟩
         . by_cases e:x=r
           . rw[e];exact hm
           . exact hr' x (by omega)
         . show ns.length - ((r:Int)+1).toNat < ns.length - (r:Int).toNat
           omega
       . rw[decide_eq_false hm]
         refine qV ⟨_,rfl,?_⟩
         have e:=Rb.lackN_eq (r:=r) (ns:=ns) ⟨hm,hr'⟩
         have:=q _ (qk (o:=.dK kvs) hD)
         rw[<-e]at this
         exact this
     . rintro σ H Q Q' h1 ⟨v,e,w,e2,a,o,e3,g,k,e4,q⟩
       exact⟨v,e,w,e2,a,o,e3,g,k,e4,h1 _ _ q⟩
end
open PySem L2 PyProof.Rows MLab
abbrev Ri:Stmt:=top 57
abbrev Yf:Stmt:=top 58
abbrev ZX:Stmt:=top 59
abbrev W1:Stmt:=top 60
abbrev Wc:Stmt:=top 61
abbrev zL:Stmt:=top 62
structure jq (N:List Str) (H:Hp) (d:Addr) (f:Str->Option Nat):Prop where
 at_:∃kvs:List (qF×V),H d=some (.dK kvs)/\(∀z:Str,qS kvs (Sum.inr z:qF)=(f z).map λn=>V.int (n:Nat))/\(kvs.map (·.1)).Nodup/\∀k∈kvs.map (·.1),k∈N.map (Sum.inr:Str->qF)
theorem jq.mono {N:List Str} {H H':Hp} {d:Addr} {f:Str->Option Nat} (h:jq N H d f) (s:Same H H'):jq N H' d f:=⟨let ⟨kvs,a,b⟩:=h.at_;⟨kvs,s _ _ a,b⟩⟩
theorem jq.get {N:List Str} {H:Hp} {d:Addr} {f:Str->Option Nat} (h:jq N H d f) (z:Str):jU H d (.str z) ((f z).map λn=>V.int (n:Nat)):=by
 obtain⟨kvs,a,b,_⟩:=h.at_
 rw[<-b z]
 exact jU.k (k:=(Sum.inr z:qF)) a
theorem jq.isd {N:List Str} {H:Hp} {d:Addr} {f:Str->Option Nat} (h:jq N H d f):∃kvs:List (qF×V),H d=some (.dK kvs):=let ⟨kvs,a,_⟩:=h.at_;⟨kvs,a⟩
theorem jq.put {N:List Str} {H:Hp} {d:Addr} {f:Str->Option Nat} (h:jq N H d f) {z:Str} {n:Nat} (hz:z∈N) (hf:f z=none) (le:N.length<=14):∃H',Jc H d (.str z) (.int (n:Nat)) H'/\jq N H' d (λy=>if y=z then some n else f y)/\∃o,H'=upd H d o:=by
 obtain⟨kvs,a,b,nd,sub⟩:=h.at_
 have ln:kvs.length<=14:=by
   have:=Qf nd sub
   rw[tj,tj]at this
   omega
 refine⟨_,Jc.k (k:=(Sum.inr z:qF)) a (qo (by omega)),⟨jT kvs (Sum.inr z) (.int (n:Nat)),qe,λy=>?_,?_,?_⟩,_,rfl⟩
 . rw[Q2]
   by_cases e:y=z
   . subst e;rw[if_pos rfl,if_pos rfl];rfl
   . rw[if_neg e,if_neg (λq=>e (Sum.inr.inj q))];exact b y
 . rw[Q8 _ (by rw[b z,hf];rfl),tE]
   refine zbN.mpr ⟨nd,zbB _ _,λx hx y hy e=>?_⟩
   have ey:y=Sum.inr z:=by simpa using hy
   subst ey
   subst e
   have:(qS kvs (Sum.inr z:qF)).isSome=true:=by
     obtain⟨p,hp,ep⟩:=tG.mp hx
     have an:(kvs.any λkv=>decide (kv.1=(Sum.inr z:qF)))=true:=zaV.mpr ⟨p,hp,decide_eq_true ep⟩
     rw[Qs]at an
     exact an
   rw[b z,hf]at this
   cases this
 . rw[Q8 _ (by rw[b z,hf];rfl),tE]
   intro k hk
   rcases zai.mp hk with hk | hk
   . exact sub k hk
   . have:k=Sum.inr z:=by simpa using hk
     rw[this]
     exact tG.mpr ⟨z,hz,rfl⟩
def Xr (rs:qR) (f:Str->Option Nat) (z:Str):List Nat:=(jz rs z).filterMap f
theorem QQ {rs:qR} {f:Str->Option Nat} {z:Str} {n:Nat}:n∈Xr rs f z↔∃y∈jz rs z,f y=some n:=zbD
theorem Wz {rs:qR} (z:Str):(jz rs z).length<=rs.length:=by
 unfold jz
 split
 . exact Ze _
 . exact zap _
def XN (rs:qR) (f:Str->Option Nat) (z:Str):List Str:=(jz rs z).filter λy=>(f y).isNone
def ZH (rs:qR) (f:Str->Option Nat) (z:Str) (n:Nat):Bool:=decide (Rb.lackN (Xr rs f z)=n)&&(XN rs f z).all λy=>decide (n∈Xr rs f y)
theorem yi {rs:qR} {f:Str->Option Nat} {z:Str} {n:Nat}:ZH rs f z n=true↔Mo (jz rs) f z n:=by
 unfold ZH Mo XN
 rw[zam,decide_eq_true_iff,zaW]
 have lk:Rb.Lacks (Rb.lackN (Xr rs f z)) (Xr rs f z):=Rb.lackI_lacks _
 constructor
 . rintro⟨rfl,h⟩
   refine⟨λj hj=>QQ.mp (lk.2 j hj),λy hy e=>lk.1 (QQ.mpr ⟨y,hy,e⟩),λy hy e=>?_⟩
   exact QQ.mp (of_decide_eq_true (h y (tY.mpr ⟨hy,by rw[e];rfl⟩)))
 . rintro⟨h1,h2,h3⟩
   refine⟨(Rb.lackN_eq ⟨λm=>?_,λx hx=>QQ.mpr (h1 x hx)⟩).symm,λy hy=>decide_eq_true ?_⟩
   . obtain⟨y,hy,e⟩:=QQ.mp m
     exact h2 y hy e
   . obtain⟨hy1,hy2⟩:=tY.mp hy
     exact QQ.mpr (h3 y hy1 (by simpa using hy2))
def xn (rs:qR) (f:Str->Option Nat) (n:Nat):List Str:=((rs.map (·.1)).filter λz=>(f z).isNone).filter λz=>ZH rs f z n
theorem Ki (rs:qR) (R:Rs Str) (n:Nat):uh (jz rs) (rs.map (·.1)) R n (xn rs (jm R) n):=⟨λx=>by
 unfold xn
 rw[tY,tY,yi]
 constructor
 . rintro⟨⟨a,b⟩,c⟩
   exact⟨a,by simpa using b,c⟩
 . rintro⟨a,b,c⟩
   exact⟨⟨a,by rw[b];rfl⟩,c⟩,zax.trans zax⟩
def uM (CG:Addr):Sp:=λvs H Q _=>∃(g d:Addr) (rs:qR) (z:Str) (f:Str->Option Nat),vs=[.ref g,.ref d,.str z]/\jB CG H g rs/\qy rs/\rs.length<=14/\z∈rs.map (·.1)/\jq (rs.map (·.1)) H d f/\
 ∀H' l,Same H H'->H l=none->H' l=some (.lst (Q0 (Xr rs f z)))->Q (.ref l) H'
def y4 (CG:Addr):Sp:=λvs H Q _=>∃(g d:Addr) (rs:qR) (z:Str) (f:Str->Option Nat) (n:Nat),vs=[.ref g,.ref d,.str z,.int (n:Nat)]/\jB CG H g rs/\qy rs/\rs.length<=14/\z∈rs.map (·.1)/\jq (rs.map (·.1)) H d f/\
 ∀H',Same H H'->Q (.bl (ZH rs f z n)) H'
def UY (CG:Addr):Sp:=λvs H Q _=>∃(g d:Addr) (rs:qR) (f:Str->Option Nat) (n:Nat),vs=[.ref g,.ref d,.int (n:Nat)]/\jB CG H g rs/\qy rs/\rs.length<=14/\jq (rs.map (·.1)) H d f/\
 ∀H' l,Same H H'->H l=none->H' l=some (.lst ((xn rs f n).map V.str))->Q (.ref l) H'
theorem Ug {α β:Type} (g:α->Option β) (h:β->V):∀l:List α,(l.filterMap g).map h=l.filterMap λx=>(g x).map h
 | []=>rfl
 | a::l=>by
   rw[zaO,zaO]
   cases g a with
   | none=>exact Ug g h l
   | some b=>rw[tS,Ug g h l];rfl
theorem YF (p:Str->Bool):∀l:List Str,(l.filter p).map V.str=l.filterMap λx=>if p x=true then some (V.str x) else none
 | []=>rfl
 | a::l=>by
   rw[zbi,zaO]
   cases p a with
   | false=>exact YF p l
   | true=>
     rw[if_pos rfl,if_pos rfl,tS,YF p l]
theorem vG {α:Type} (f:α->V):∀l:List α,l.map f=l.filterMap λx=>some (f x)
 | []=>rfl
 | a::l=>by rw[tS,zaO,vG f l]
section
variable {P:Program} {w:World} {K:PySem.W.Frag} {mg:Str->Option Value} {base:Heap}
abbrev uq:List Str:=["ground","numbered","name"]
theorem qbv:qr uq uq (ql Ri):=⟨rfl,rfl,rfl,by decide+kernel,rfl,by decide+kernel,by decide+kernel⟩
theorem Rt {f CG:Addr} {fd:FuncData} (F:jG K "numbers_behind" "numbers_behind" Ri f fd) (B:Qe mg) (G:jF mg) (T:jP K mg) (M:GM K mg CG):qp P w K mg base qI 3 f fd uq (uM CG):=by
 obtain⟨fC,fdC,C⟩:=M.cls
 obtain⟨fR,fdR,hR⟩:=M.fr
 obtain⟨fN,fdN,hN⟩:=M.isn
 have GR:qp P w K mg base qI 2 fR fdR ["self","name"] (JM CG):=Jy hR.fn C B G T hN
 refine F.okJ qbv (λvs H Q E h=>?_) (λcdv A outer s H vs Q E hr h=>?_)
 . obtain⟨g,d,rs,z,nf,rfl,_⟩:=h
   rfl
 . obtain⟨g,d,rs,z,nf,rfl,gr,good,le14,hz,hd,q⟩:=h
   have hu:=jS hr
   refine⟨_,qh (qu (jX (N':=["end","numbered"]) (ix:=[none,some 1]) rfl ⟨rfl,rfl,rfl,rfl,rfl⟩ (qJ (Xz hR C.cl GR hr (jv 0) (qd (jv 2) qf))) (λC s2 H2 fp pins=>
     ⟨qv (i:=0) (show (["end","numbered"]:List Str).Nodup by decide+kernel) rfl (Or.inl rfl),jJ (Qy (Zj hu (jv 0) (jv 1))),jk hu (jv 1) (jv 0) (λ_ _=>rfl)⟩))),?_⟩
   obtain⟨dx,fs,hg,l1,l2⟩:=gr.ins
   obtain⟨r,hr',rfl⟩:=tG.mp hz
   refine⟨_,rfl,g,dx,fs,rfl,hg,l2,_,rfl,g,rs,r,rfl,gr,hr',good.nm r hr',λH1 le s1 hle=>?_⟩
   have s2:Same H (upd H1 le (.lst ((jg rs r).map V.str))):=s1.trans (qk hle)
   have hl2:upd H1 le (.lst ((jg rs r).map V.str)) le=some (.lst ((jg rs r).map V.str)):=qe
   generalize upd H1 le (.lst ((jg rs r).map V.str))=H2 at s2 hl2
   have hd2:=hd.mono s2
   refine⟨le,rfl,⟨_,.of hl2⟩,λW hW=>?_⟩
   refine YR (K:=K) (a:=le) (xs:=jg rs r) (enc:=V.str) (out:=λy=>(nf y).map λn=>V.int (n:Nat)) (rest:=[some (.ref d)]) hW hl2 (qo (tV (Ze r) (by omega))) ?_ ?_ ?_
   . intro x hx G' s3 R k
     refine⟨_,rfl,_,rfl,d,_,rfl,(hd2.mono s3).get x,_,rfl,k G' λ_ _ h=>h⟩
   . intro x hx v ev G' s3 R k
     have gx:=(hd2.mono s3).get x
     rw[ev]at gx
     exact⟨_,rfl,_,rfl,d,_,rfl,gx,k G' λ_ _ h=>h⟩
   . intro G' s3 hG
     refine q _ W (s2.trans s3) (jN s2 hW) ?_
     rw[hG]
     congr 2
     unfold Q0 Xr
     rw[Qk good.nd hr',Ug]
abbrev qay:List Str:=["ground","numbered","name","number","bare"]
abbrev Yn:List Str:=["ground","numbered","name","number"]
theorem xk:qr qay Yn (ql Yf):=⟨rfl,rfl,rfl,by decide+kernel,rfl,by decide+kernel,by decide+kernel⟩
theorem KH {f fB fL CG:Addr} {fd fdB fdL:FuncData} (F:jG K "gets_number" "gets_number" Yf f fd) (B:Qe mg) (G:jF mg) (T:jP K mg) (M:GM K mg CG) (hB:qQ K mg "numbers_behind" Ri uq fB fdB) (hL:qQ K mg "lacking" j7 ["numbers"] fL fdL):qp P w K mg base qI 4 f fd Yn (y4 CG):=by
 have GB:qp P w K mg base qI 3 fB fdB uq (uM CG):=Rt hB.fn B G T M
 have GL:qp P w K mg base qI 1 fL fdL ["numbers"] (ZT K):=Ys hL.fn
 obtain⟨fC,fdC,C⟩:=M.cls
 obtain⟨fR,fdR,hR⟩:=M.fr
 obtain⟨fN,fdN,hN⟩:=M.isn
 have GR:qp P w K mg base qI 2 fR fdR ["self","name"] (JM CG):=Jy hR.fn C B G T hN
 refine F.okJ xk (λvs H Q E h=>?_) (λcdv A outer s H vs Q E hr h=>?_)
 . obtain⟨g,d,rs,z,nf,n,rfl,_⟩:=h
   rfl
 . obtain⟨g,d,rs,z,nf,n,rfl,gr,good,le14,hz,hd,q⟩:=h
   have hu:=jS hr
   have r1:qN 1 _:=hr.mono (by decide)
   have r2:qN 2 _:=hr.mono (by decide)
   refine⟨_,qg (qK (qt Xp (qG hL GL r1 (by rfl) (qd (qG hB GB hr (by rfl) (qd (jv 0) (qd (jv 1) (qd (jv 2) qf)))) qf)) (jv 3) (qA _)) (qh (qu jy)) qB)
     (qg (QN (i:=4) (N':=["end","numbered"]) (ix:=[none,some 1]) xk.nd rfl (Or.inl rfl) rfl ⟨rfl,rfl,rfl,rfl,rfl⟩ (qJ (Xz hR C.cl GR r2 (jv 0) (qd (jv 2) qf))) (λC s2 H2 fp pins=>
       ⟨qv (i:=0) (show (["end","numbered"]:List Str).Nodup by decide+kernel) rfl (Or.inl rfl),jJ (Qy (JY hu (jv 0) (jv 1))),jv 0⟩))
     (qh (qu (qx (Z9 rfl) (by rfl) T.all boot_all (qd (jX (N':=["end","number","ground","numbered"]) (ix:=[none,some 3,some 0,some 1]) (te:=YY (Nj K false) (qW 1) (Xh (uM CG) [] E0 (jA (qW 2) (jA (qW 3) (jA (qW 0) QD))))) rfl ⟨rfl,rfl,rfl,rfl,rfl⟩ (qJ (jv 4)) (λC s2 H2 fp pins=>
       ⟨qv (i:=0) (show (["end","number","ground","numbered"]:List Str).Nodup by decide+kernel) rfl (Or.inl rfl),jK,jQ JR (jv 1) (qG hB GB hr (by rfl) (qd (jv 2) (qd (jv 3) (qd (jv 0) qf)))) (by with_unfolding_all rfl)⟩)) qf))))),?_⟩
   refine⟨_,rfl,_,rfl,_,rfl,g,d,rs,z,nf,rfl,gr,good,le14,hz,hd,λH1 l1 s1 hl1 hl1'=>?_⟩
   have ln:∀y,(Xr rs nf y).length<=14:=λy=>tV (zby _ _) (tV (Wz y) le14)
   refine⟨l1,_,rfl,.of hl1',by have:=ln z;omega,λH2 s2=>⟨_,rfl,rfl,_,rfl,?_⟩⟩
   have s12:=s1.trans s2
   by_cases c:Rb.lackN (Xr rs nf z)=n
   . refine jD (by rw[c];simp) ?_
     obtain⟨dx,fs,hg,e1,e2⟩:=(gr.mono s12).ins
     obtain⟨r,hr',rfl⟩:=tG.mp hz
     refine⟨_,rfl,g,dx,fs,rfl,hg,e2,_,rfl,g,rs,r,rfl,gr.mono s12,hr',good.nm r hr',λH3 le s3 hle=>?_⟩
     have s4:Same H (upd H3 le (.lst ((jg rs r).map V.str))):=s12.trans (s3.trans (qk hle))
     have hl4:upd H3 le (.lst ((jg rs r).map V.str)) le=some (.lst ((jg rs r).map V.str)):=qe
     generalize upd H3 le (.lst ((jg rs r).map V.str))=H4 at s4 hl4
     refine⟨le,rfl,⟨_,.of hl4⟩,λW hW=>?_⟩
     refine YR (K:=K) (a:=le) (xs:=jg rs r) (enc:=V.str) (out:=λy=>if (nf y).isNone=true then some (V.str y) else none) (rest:=[some (.ref d)]) hW hl4 (qo (tV (Ze r) (by omega))) ?_ ?_ ?_
     . intro x hx G' s5 R k
       refine⟨_,rfl,_,rfl,d,_,rfl,((hd.mono s4).mono s5).get x,_,rfl,?_⟩
       have:=k G' λ_ _ h=>h
       cases e:nf x with
       | none=>rw[e]at this;exact this
       | some m=>rw[e]at this;exact this
     . intro x hx v ev G' s5 R k
       have:v=V.str x:=by
         split at ev
         . exact(tO.inj ev).symm
         . cases ev
       subst this
       exact⟨_,rfl,k G' λ_ _ h=>h⟩
     . intro G5 s5 hG
       rw[<-YF (λy=>(nf y).isNone),<-Qk good.nd hr']at hG
       have hb:G5 W=some (.lst ((XN rs nf r.1).map V.str)):=hG
       have s45:=s4.trans s5
       refine⟨_,rfl,W,rfl,⟨_,.of hb⟩,λU hU=>?_⟩
       have bl:(XN rs nf r.1).length<=14:=tV (zao _ _) (tV (Wz r.1) le14)
       refine YR (K:=K) (a:=W) (xs:=XN rs nf r.1) (enc:=V.str) (out:=λy=>some (V.bl (decide (n∈Xr rs nf y)))) (rest:=[some (.int (n:Nat)),some (.ref g),some (.ref d)]) hU hb (qo (by omega)) ?_ ?_ ?_
       . intro x hx G' s6 R k
         exact k G' λ_ _ h=>h
       . intro x hx v ev G' s6 R k
         obtain rfl:=tO.inj ev
         have hxN:x∈rs.map (·.1):=Q1 good.nd _ hz x (tY.mp hx).1
         have sA:=s45.trans s6
         refine⟨_,rfl,_,rfl,_,rfl,_,rfl,g,d,rs,x,nf,rfl,gr.mono sA,good,le14,hxN,hd.mono sA,λH7 l7 s7 hl7 hl7'=>?_⟩
         refine⟨l7,_,rfl,.inl (.of hl7'),rfl,Vn _,?_⟩
         rw[wI]
         exact k H7 s7
       . intro G6 s6 hG6
         rw[<-vG]at hG6
         refine⟨U,(XN rs nf r.1).map λy=>decide (n∈Xr rs nf y),rfl,.of (by rw[hG6,zbE];rfl),?_⟩
         have:=q G6 (s45.trans s6)
         unfold ZH at this
         rw[decide_eq_true c,Bool.true_and]at this
         rw[zcw]
         exact this
   . refine jR (by
       have:¬V.int ((Rb.lackN (Xr rs nf z):Nat):Int)=V.int ((n:Nat):Int):=λe=>c (by have:=V.int.inj e;omega)
       rw[decide_eq_false this];rfl) ?_
     have:=q H2 s12
     unfold ZH at this
     rw[decide_eq_false c,zcx]at this
     exact this
end
open PySem L2 PyProof.Rows MLab
def jt (H:Hp) (ps:List Addr) (ls:List (List Str)):Prop:=ps.length=ls.length/\∀(i:Nat) (p:Addr) (l:List Str),ps[i]?=some p->ls[i]?=some l->H p=some (.lst (l.map V.str))
theorem jt.mono {H H':Hp} {ps:List Addr} {ls:List (List Str)} (h:jt H ps ls) (s:Same H H'):jt H' ps ls:=⟨h.1,λi p l e1 e2=>s _ _ (h.2 i p l e1 e2)⟩
theorem jt.nil {H:Hp}:jt H [] []:=⟨rfl,λi p l e=>(nomatch e)⟩
theorem JN {α:Type} {xs:List α} {x y:α} {i:Nat} (h:(xs++[x])[i]?=some y):(i < xs.length/\xs[i]?=some y)\/(i=xs.length/\y=x):=by
 by_cases hi:i < xs.length
 . rw[t8 hi]at h
   exact .inl ⟨hi,h⟩
 . have hi':i=xs.length:=by
     have:=(tq.mp h).1
     rw[tL,zas]at this
     omega
   subst hi'
   rw[zab (tw _),zbR]at h
   exact .inr ⟨rfl,(tO.inj h).symm⟩
theorem jt.snoc {H:Hp} {ps:List Addr} {ls:List (List Str)} {p:Addr} {l:List Str} (h:jt H ps ls) (hp:H p=some (.lst (l.map V.str))):jt H (ps++[p]) (ls++[l]):=by
 refine⟨by rw[tL,tL,h.1];rfl,λi p' l' e1 e2=>?_⟩
 rcases JN e1 with ⟨i1,e1⟩ | ⟨i1,rfl⟩
 . rcases JN e2 with ⟨_,e2⟩ | ⟨i2,_⟩
   . exact h.2 i p' l' e1 e2
   . have:=h.1;omega
 . rcases JN e2 with ⟨i2,_⟩ | ⟨_,rfl⟩
   . have:=h.1;omega
   . exact hp
theorem jt.app {H:Hp} {ps qs:List Addr} {ls ms:List (List Str)} (h:jt H ps ls) (k:jt H qs ms):jt H (ps++qs) (ls++ms):=by
 refine⟨by rw[tL,tL,h.1,k.1],λi p l e1 e2=>?_⟩
 by_cases c:i < ps.length
 . rw[t8 c]at e1
   rw[t8 (by rw[<-h.1];exact c)]at e2
   exact h.2 i p l e1 e2
 . rw[zab (by omega)]at e1
   rw[zab (by rw[<-h.1];omega)]at e2
   rw[<-h.1]at e2
   exact k.2 _ p l e1 e2
theorem jt.fr {H H':Hp} {ps:List Addr} {ls:List (List Str)} {d:Addr} {kvs:List (qF×V)} (h:jt H ps ls) (hd:H d=some (.dK kvs)) (f:Fr H d H'):jt H' ps ls:=⟨h.1,λi p l e1 e2=>f _ _ (h.2 i p l e1 e2) (λe=>by have:=h.2 i p l e1 e2;rw[e,hd]at this;cases this)⟩
theorem jq.fr {N:List Str} {H H':Hp} {d e:Addr} {f:Str->Option Nat} (h:jq N H d f) (s:Fr H e H') (ne:d≠e):jq N H' d f:=⟨let ⟨kvs,a,b⟩:=h.at_;⟨kvs,s _ _ a ne,b⟩⟩
theorem jq.congr {N:List Str} {H:Hp} {d:Addr} {f g:Str->Option Nat} (h:jq N H d f) (e:∀z,f z=g z):jq N H d g:=⟨let ⟨kvs,a,b,c⟩:=h.at_;⟨kvs,a,λz=>by rw[b z,e z],c⟩⟩
def VG (CG:Addr) (H:Hp) (g d:Addr):Prop:=∀dx lo rd,H g=some (.ins CG dx [("order",.ref lo),("roads",.ref rd)])->rd≠d
theorem jB.fr {CG:Addr} {H H':Hp} {a d:Addr} {rs:qR} (h:jB CG H a rs) (hd:∃kvs:List (qF×V),H d=some (.dK kvs)) (ap:VG CG H a d) (s:Fr H d H'):jB CG H' a rs:=by
 obtain⟨dx,lo,rd,kv,h1,h2,h3,h4⟩:=h
 obtain⟨kvs,hd⟩:=hd
 have ne:∀{b:Addr} {o:HO},H b=some o->(∀kv:List (qF×V),o≠.dK kv)->b≠d:=λhb no e=>by rw[e,hd]at hb;exact no kvs (tO.inj hb).symm
 refine⟨dx,lo,rd,kv,s _ _ h1 (ne h1 (λ_=>by simp)),s _ _ h2 (ne h2 (λ_=>by simp)),s _ _ h3 (ap dx lo rd h1),λr hr=>let ⟨q,a,b⟩:=h4 r hr;⟨q,a,s _ _ b (ne b (λ_=>by simp))⟩⟩
def zC (f:Str->Option Nat) (n:Nat) (ns:List Str):Str->Option Nat:=λz=>if z∈ns then some n else f z
theorem wN {R:Rs Str} {n:Nat} {ns:List Str} (h:∀z∈ns,jm R z=none) (z:Str):zC (jm R) n ns z=jm (R++[(n,ns)]) z:=by
 unfold zC
 rw[JF]
 by_cases c:z∈ns
 . rw[if_pos c,h z c]
   show _=if z∈ns then some n else none
   rw[if_pos c]
 . rw[if_neg c]
   cases jm R z with
   | some m=>rfl
   | none=>
     show none=if z∈ns then some n else none
     rw[if_neg c]
theorem Kh {R:Rs Str} {n:Nat} {ls:List (List Str)} {l:List Str}:R++(ls++[l]).map (λx=>(n,x))=(R++ls.map λx=>(n,x))++[(n,l)]:=by
 rw[tE,zbM]
 rfl
def yZ (CG:Addr):Sp:=λvs H Q _=>∃(g d:Addr) (rs:qR) (R:Rs Str) (n:Nat),vs=[.ref g,.ref d,.int (n:Nat)]/\jB CG H g rs/\qy rs/\rs.length<=14/\jq (rs.map (·.1)) H d (jm R)/\VG CG H g d/\
 ∀H' l ps ls,H l=none->H' l=some (.lst (ps.map V.ref))->jt H' ps ls->(∀p∈ps,H p=none)->jq (rs.map (·.1)) H' d (jm (R++ls.map λx=>(n,x)))->ze (jz rs) (rs.map (·.1)) n R (R++ls.map λx=>(n,x))->Fr H d H'->Q (.ref l) H'
def JJ (rs:qR) (f:Str->Option Nat):Nat:=((rs.map (·.1)).filter λz=>(f z).isNone).length
theorem vS {rs:qR} {R:Rs Str} {n:Nat} {ns:List Str} (h:∀z∈ns,z∈rs.map (·.1)/\jm R z=none) (ne:ns≠[]):JJ rs (jm (R++[(n,ns)])) < JJ rs (jm R):=by
 unfold JJ
 generalize rs.map (·.1)=N at*
 have sub:(N.filter λz=>(jm (R++[(n,ns)]) z).isNone).Sublist (N.filter λz=>(jm R z).isNone):=by
   have e:(N.filter λz=>(jm (R++[(n,ns)]) z).isNone)=(N.filter λz=>(jm R z).isNone).filter λz=>(jm (R++[(n,ns)]) z).isNone:=by
     rw[List.filter_filter]
     refine zcL λz _=>?_
     cases c:(jm (R++[(n,ns)]) z).isNone with
     | false=>simp
     | true=>
       have:=wU (by simpa using c)
       rw[this]
       rfl
   rw[e]
   exact zax
 obtain⟨z0,r,e0⟩:=zcF ne
 have m0:z0∈ns:=by rw[e0];exact t7
 obtain⟨hz,ez⟩:=h z0 m0
 rcases zbQ (N.filter λz=>(jm (R++[(n,ns)]) z).isNone).length (N.filter λz=>(jm R z).isNone).length with c | c
 . exact c
 . have e:=sub.eq_of_length_le c
   have m:z0∈N.filter λz=>(jm R z).isNone:=tY.mpr ⟨hz,by rw[ez];rfl⟩
   rw[<-e]at m
   have:=(tY.mp m).2
   rw[RC ez m0]at this
   cases this
def XO (N:List Str) (H:Hp) (d:Addr):Nat:=match H d with
 | some (.dK kvs)=>(N.filter λz=>(qS kvs (Sum.inr z:qF)).isNone).length
 | _=>0
theorem jq.bare {rs:qR} {H:Hp} {d:Addr} {f:Str->Option Nat} (h:jq (rs.map (·.1)) H d f):XO (rs.map (·.1)) H d=JJ rs f:=by
 obtain⟨kvs,a,b,_⟩:=h.at_
 unfold XO JJ
 rw[a]
 show ((rs.map (·.1)).filter λz=>(qS kvs (Sum.inr z:qF)).isNone).length=_
 congr 1
 refine zcL λz _=>?_
 rw[b z]
 cases f z<;>rfl
section
variable {P:Program} {w:World} {K:PySem.W.Frag} {mg:Str->Option Value} {base:Heap}
abbrev ND:List Str:=["ground","numbered","number","bare"]
abbrev QI:List Str:=["ground","numbered","number"]
theorem ve:qr ND QI (ql ZX):=⟨rfl,rfl,rfl,by decide+kernel,rfl,by decide+kernel,by decide+kernel⟩
theorem xM {f fB fL fG CG:Addr} {fd fdB fdL fdG:FuncData} (F:jG K "round_of" "round_of" ZX f fd) (B:Qe mg) (G:jF mg) (T:jP K mg) (M:GM K mg CG) (hB:qQ K mg "numbers_behind" Ri uq fB fdB) (hL:qQ K mg "lacking" j7 ["numbers"] fL fdL) (hG:qQ K mg "gets_number" Yf Yn fG fdG):qp P w K mg base qI 5 f fd QI (UY CG):=by
 have GG:qp P w K mg base qI 4 fG fdG Yn (y4 CG):=KH hG.fn B G T M hB hL
 obtain⟨fC,fdC,C⟩:=M.cls
 obtain⟨fM,fdM,hM⟩:=M.nm
 have GM:qp P w K mg base qI 1 fM fdM ["self"] (Q4 CG):=Q9 hM.fn C G
 refine F.okJ ve (λvs H Q E h=>?_) (λcdv A outer s H vs Q E hr h=>?_)
 . obtain⟨g,d,rs,nf,n,rfl,_⟩:=h
   rfl
 . obtain⟨g,d,rs,nf,n,rfl,gr,good,le14,hd,q⟩:=h
   have hu:=jS hr
   have r1:qN 1 _:=hr.mono (by decide)
   refine⟨_,qg (QN (i:=3) (N':=["name","numbered"]) (ix:=[none,some 1]) ve.nd rfl (Or.inl rfl) rfl ⟨rfl,rfl,rfl,rfl,rfl⟩ (qJ (Vk hM C.cl GM r1 (jv 0))) (λC s2 H2 fp pins=>
       ⟨qv (i:=0) (show (["name","numbered"]:List Str).Nodup by decide+kernel) rfl (Or.inl rfl),jJ (Qy (JY hu (jv 0) (jv 1))),jv 0⟩))
     (qh (qu (jX (N':=["name","ground","numbered","number"]) (ix:=[none,some 0,some 1,some 2]) rfl ⟨rfl,rfl,rfl,rfl,rfl⟩ (qJ (jv 3)) (λC s2 H2 fp pins=>
       ⟨qv (i:=0) (show (["name","ground","numbered","number"]:List Str).Nodup by decide+kernel) rfl (Or.inl rfl),jJ (qX (qG hG GG hr (by rfl) (qd (jv 1) (qd (jv 2) (qd (jv 0) (qd (jv 3) qf)))))),jv 0⟩)))),?_⟩
   obtain⟨dx,fs,hg,l1,l2⟩:=gr.ins
   refine⟨_,rfl,g,dx,fs,rfl,hg,l1,g,rs,rfl,gr,λln hln=>⟨ln,rfl,⟨_,.of qe⟩,λW hW=>?_⟩⟩
   have s2:Same H (upd H ln (.lst ((rs.map (·.1)).map V.str))):=qk hln
   have hl2:upd H ln (.lst ((rs.map (·.1)).map V.str)) ln=some (.lst ((rs.map (·.1)).map V.str)):=qe
   generalize upd H ln (.lst ((rs.map (·.1)).map V.str))=H2 at s2 hl2 hW
   refine YR (K:=K) (a:=ln) (xs:=rs.map (·.1)) (enc:=V.str) (out:=λy=>if (nf y).isNone=true then some (V.str y) else none) (rest:=[some (.ref d)]) hW hl2 (qo (by rw[tj];omega)) ?_ ?_ ?_
   . intro x hx G' s5 R k
     refine⟨_,rfl,_,rfl,d,_,rfl,((hd.mono s2).mono s5).get x,_,rfl,?_⟩
     have:=k G' λ_ _ h=>h
     cases e:nf x with
     | none=>rw[e]at this;exact this
     | some m=>rw[e]at this;exact this
   . intro x hx v ev G' s5 R k
     have:v=V.str x:=by
       split at ev
       . exact(tO.inj ev).symm
       . cases ev
     subst this
     exact⟨_,rfl,k G' λ_ _ h=>h⟩
   . intro G5 s5 hG5
     rw[<-YF (λy=>(nf y).isNone)]at hG5
     have s25:=s2.trans s5
     refine⟨_,rfl,W,rfl,⟨_,.of hG5⟩,λU hU=>?_⟩
     have bl:((rs.map (·.1)).filter λy=>(nf y).isNone).length<=14:=tV (zao _ _) (by rw[tj];exact le14)
     refine YR (K:=K) (a:=W) (xs:=(rs.map (·.1)).filter λy=>(nf y).isNone) (enc:=V.str) (out:=λy=>if ZH rs nf y n=true then some (V.str y) else none) (rest:=[some (.ref g),some (.ref d),some (.int (n:Nat))]) hU hG5 (qo (by omega)) ?_ ?_ ?_
     . intro x hx G' s6 R k
       have sA:=s25.trans s6
       refine⟨_,rfl,_,rfl,_,rfl,_,rfl,g,d,rs,x,nf,n,rfl,gr.mono sA,good,le14,(tY.mp hx).1,hd.mono sA,λH7 s7=>⟨_,rfl,?_⟩⟩
       have:=k H7 s7
       cases e:ZH rs nf x n with
       | true=>rw[e]at this;exact this
       | false=>rw[e]at this;exact this
     . intro x hx v ev G' s6 R k
       have:v=V.str x:=by
         split at ev
         . exact(tO.inj ev).symm
         . cases ev
       subst this
       exact⟨_,rfl,k G' λ_ _ h=>h⟩
     . intro G6 s6 hG6
       rw[<-YF (λy=>ZH rs nf y n)]at hG6
       exact q G6 U (s25.trans s6) (jN s25 hU) hG6
abbrev qax:List Str:=["ground","numbered","number","rounds","names","name"]
theorem zY:qr qax QI (ql W1):=⟨rfl,rfl,rfl,by decide+kernel,rfl,by decide+kernel,by decide+kernel⟩
theorem KG {f fB fL fG fR CG:Addr} {fd fdB fdL fdG fdR:FuncData} (F:jG K "give_number" "give_number" W1 f fd) (B:Qe mg) (G:jF mg) (T:jP K mg) (M:GM K mg CG) (hB:qQ K mg "numbers_behind" Ri uq fB fdB) (hL:qQ K mg "lacking" j7 ["numbers"] fL fdL) (hG:qQ K mg "gets_number" Yf Yn fG fdG)
   (hR:qQ K mg "round_of" ZX QI fR fdR):qp P w K mg base qI 6 f fd QI (yZ CG):=by
 have GR:qp P w K mg base qI 5 fR fdR QI (UY CG):=xM hR.fn B G T M hB hL hG
 refine F.okJ zY (λvs H Q E h=>?_) (λcdv A outer s H vs Q E hr h=>?_)
 . obtain⟨g,d,rs,R,n,rfl,_⟩:=h
   rfl
 . obtain⟨g,d,rs,R,n,rfl,gr,good,le14,hd,ap,q⟩:=h
   have hu:=jS hr
   refine⟨_,qg (qw (i:=3) zY.nd rfl (Or.inl rfl) (jE qf))
     (qg (qw (i:=4) zY.nd rfl (Or.inl rfl) (qG hR GR hr (by rfl) (qd (jv 0) (qd (jv 1) (qd (jv 2) qf)))))
     (qg (QM PassesOwn.never (qt zm (qx qD (by rfl) B.len boot_len (qd (jv 4) qf)) qm (qA _))
       (qg (ja PassesOwn.never rfl (qJ (jv 4)) (qv (i:=5) zY.nd rfl (Or.inl rfl)) (qh (jC hu (jv 1) (jv 5) (jv 2) rfl)))
       (qg (je (QV zaj zaE zaF jY (jv 3) (qd (jv 4) qf)))
       (qh (qw (i:=4) zY.nd rfl (Or.inl rfl) (qG hR GR hr (by rfl) (qd (jv 0) (qd (jv 1) (qd (jv 2) qf)))))))))
     (qh (qu (jv 3))))),?_⟩
   refine⟨by show 0<=sizeLine;decide,λlr hlr=>?_⟩
   have sr:Same H (upd H lr (.lst [])):=qk hlr
   refine⟨_,rfl,_,rfl,_,rfl,g,d,rs,jm R,n,rfl,gr.mono sr,good,le14,hd.mono sr,λH1 l1 s1 hl1 hl1'=>?_⟩
   obtain⟨kv0,hd0⟩:=hd.isd
   have nrd:lr≠d:=λe=>by rw[e,hd0]at hlr;cases hlr
   refine QG (λσ H'=>∃(v5:Option V) (l:Addr) (ps:List Addr) (ls:List (List Str)),σ=[some (.ref g),some (.ref d),some (.int (n:Nat)),some (.ref lr),some (.ref l),v5]/\Fr H d H'/\H' lr=some (.lst (ps.map V.ref))/\jt H' ps ls/\
       jq (rs.map (·.1)) H' d (jm (R++ls.map λx=>(n,x)))/\H' l=some (.lst ((xn rs (jm (R++ls.map λx=>(n,x))) n).map V.str))/\(∀R',ze (jz rs) (rs.map (·.1)) n (R++ls.map λx=>(n,x)) R'->ze (jz rs) (rs.map (·.1)) n R R')/\l≠lr/\(∀p∈ps,p≠lr)/\H l=none/\(∀p∈ps,H p=none)/\ls.length+JJ rs (jm (R++ls.map λx=>(n,x)))<=14)
     (λ_ H'=>XO (rs.map (·.1)) H' d)
     ⟨none,l1,[],[],rfl,λb u hb _=>s1 _ _ (sr _ _ hb),s1 _ _ qe,.nil,?_,?_,?_,(λe=>by rw[e,qe]at hl1;cases hl1),λp h=>(nomatch h),jN sr hl1,λp h=>(nomatch h),?_⟩ ?_ ?_
   . have:=(hd.mono sr).mono s1
     simpa using this
   . simpa using hl1'
   . intro R' h
     simpa using h
   . show 0+_<=14
     rw[zdC]
     refine tV (zao _ _) ?_
     rw[tj]
     exact le14
   . rintro σ H' ⟨v5,l,ps,ls,rfl,fr,hlr',rnds,num,hl,gv,nl,np,l0,p0,bd⟩
     have grH:jB CG H' g rs:=gr.fr ⟨kv0,hd0⟩ ap fr
     obtain⟨kv1,hd1⟩:=num.isd
     generalize hR1:R++ls.map (λx=>(n,x))=R1 at*
     refine⟨_,rfl,l,_,rfl,.inl (.of hl),_,_,rfl,rfl,_,rfl,?_⟩
     rw[tj]
     generalize hns:xn rs (jm R1) n=ns at*
     have rnd:uh (jz rs) (rs.map (·.1)) R1 n ns:=hns▸Ki rs R1 n
     have nsN:∀z∈ns,z∈rs.map (·.1)/\jm R1 z=none:=λz hz=>let ⟨a,b,_⟩:=(rnd.iff z).mp hz;⟨a,b⟩
     have nsnd:ns.Nodup:=by
       rw[<-hns]
       exact good.nd.sublist (zax.trans zax)
     have nslen:ns.length<=14:=by
       have:=Qf nsnd λz hz=>(nsN z hz).1
       rw[tj]at this
       omega
     cases c:ns with
     | nil=>
       subst c
       refine jD (by decide) ?_
       refine⟨_,rfl,?_⟩
       have:=gv R1 (.stop rnd)
       rw[<-hR1]at this num
       exact q H' lr ps ls hlr hlr' rnds p0 num this fr
     | cons z0 rest=>
       have ne:ns≠[]:=by rw[c];simp
       rw[<-c]
       clear c
       refine jR (decide_eq_true (by have:=zdu.mpr ne;show (0:Int) < (ns.length:Int);omega)) ?_
       have nld:l≠d:=λe=>by rw[e,hd1]at hl;cases hl
       refine⟨_,rfl,l,rfl,⟨_,.of hl⟩,?_⟩
       refine js (K:=K) (a:=l) (xs:=ns.map V.str) (λi σ' G'=>∃v5,σ'=[some (.ref g),some (.ref d),some (.int (n:Nat)),some (.ref lr),some (.ref l),v5]/\jq (rs.map (·.1)) G' d (zC (jm R1) n (ns.take i))/\Fr H' d G')
         ⟨v5,rfl,num.congr λz=>by unfold zC;rw[List.take_zero,if_neg (by simp)],Fr.refl⟩ (λi σ' G' _ ⟨_,_,_,f⟩=>.of (f _ _ hl nld)) ?_ ?_
       . rintro i y σ' G' hy ⟨v5',rfl,numG,frG⟩
         obtain⟨z,ez,hz,rfl⟩:=jo hy
         have il:=(tq.mp ez).1
         have nt:z∉ns.take i:=λm=>by
           obtain⟨j,hj⟩:=zah m
           rw[zbb]at hj
           split at hj
           . have h1:=(tq.mp hj)
             have h2:=(tq.mp ez)
             have:=Yv nsnd (h1.2.trans h2.2.symm)
             omega
           . cases hj
         obtain⟨H2,put,num2,o2,e2⟩:=numG.put (n:=n) (nsN z hz).1 (by unfold zC;rw[if_neg nt];exact(nsN z hz).2) (by rw[tj];exact le14)
         refine⟨_,rfl,_,rfl,_,rfl,d,H2,rfl,put,_,rfl,num2.congr λy=>?_,?_⟩
         . unfold zC
           rw[tM,ez]
           by_cases e:y=z
           . subst e;rw[if_pos rfl,if_pos (by simp)]
           . rw[if_neg e]
             by_cases m:y∈ns.take i
             . rw[if_pos m,if_pos (zaR _ m)]
             . rw[if_neg m,if_neg (by simp [m,e])]
         . rw[e2]
           exact frG.at_d
       . rintro σ' G' ⟨v5',rfl,numG,frG⟩
         rw[tj,tF (tw _)]at numG
         have numG:=numG.congr (wN λz hz=>(nsN z hz).2)
         have lrG:=frG _ _ hlr' nrd
         have lG:=frG _ _ hl nld
         have rG:=rnds.fr hd1 frG
         have fr2:=fr.trans frG
         have blt:=vS (n:=n) nsN ne
         refine⟨_,rfl,.inl ⟨rfl,_,.of lrG⟩,_,rfl,lr,_,_,rfl,rfl,lrG,by rw[tj,rnds.1];exact qo (by omega),?_⟩
         have e5:ps.map V.ref++[V.ref l]=(ps++[l]).map V.ref:=by rw[tE];rfl
         rw[e5]
         have fr3:Fr H d (upd G' lr (.lst ((ps++[l]).map V.ref))):=fr2.own hlr
         have r3:jt (upd G' lr (.lst ((ps++[l]).map V.ref))) (ps++[l]) (ls++[ns]):=by
           refine jt.snoc ⟨rG.1,λi p x e1 e2=>?_⟩ (by rw[qi nl];exact lG)
           rw[qi (np p (tQ e1))]
           exact rG.2 i p x e1 e2
         have lr3:upd G' lr (.lst ((ps++[l]).map V.ref)) lr=some (.lst ((ps++[l]).map V.ref)):=qe
         have num3:jq (rs.map (·.1)) (upd G' lr (.lst ((ps++[l]).map V.ref))) d (jm (R1++[(n,ns)])):=⟨let ⟨kvs,a,b⟩:=numG.at_;⟨kvs,by rw[qi (Ne.symm nrd)];exact a,b⟩⟩
         generalize upd G' lr (.lst ((ps++[l]).map V.ref))=G3 at fr3 r3 lr3 num3 ⊢
         refine⟨_,rfl,_,rfl,_,rfl,g,d,rs,jm (R1++[(n,ns)]),n,rfl,gr.fr ⟨kv0,hd0⟩ ap fr3,good,le14,num3,λH4 l4 s4 hl4 hl4'=>?_⟩
         have eR:R++(ls++[ns]).map (λx=>(n,x))=R1++[(n,ns)]:=by rw[Kh,hR1]
         refine⟨⟨v5',l4,ps++[l],ls++[ns],rfl,fr3.same s4,s4 _ _ lr3,r3.mono s4,?_,?_,?_,(λe=>by rw[e,lr3]at hl4;cases hl4),?_,?_,?_,?_⟩,?_⟩
         . rw[eR];exact num3.mono s4
         . rw[eR];exact hl4'
         . rw[eR];exact λR' h=>gv R' (.more rnd ne h)
         . intro p hp
           rcases zai.mp hp with hp | hp
           . exact np p hp
           . rw[zac.mp hp];exact nl
         . obtain⟨kv3,hd3⟩:=num3.isd
           exact fr3.fresh hd3 hl4
         . intro p hp
           rcases zai.mp hp with hp | hp
           . exact p0 p hp
           . rw[zac.mp hp];exact l0
         . rw[eR,tL,zas]
           omega
         . rw[(num3.mono s4).bare,num.bare]
           exact blt
   . rintro σ H' Q Q' h ⟨v,e,p,ys,e2,h1,i,j,e3,e4,b,e5,h2⟩
     exact⟨v,e,p,ys,e2,h1,i,j,e3,e4,b,e5,h _ _ h2⟩
end
open PySem L2 PyProof.Rows MLab
theorem wL {G:Str->List Str} {N:List Str} {n:Nat} {R R':Rs Str} (h:ze G N n R R'):(R'=R/\uh G N R n [])\/R.length < R'.length:=by
 induction h with
 | stop r=>exact .inl ⟨rfl,r⟩
 | more r ne k ih=>
   right
   rcases ih with ⟨e,_⟩ | lt
   . rw[e,tL];exact zaT _
   . rw[tL]at lt
     exact zci lt
theorem yg {G:Str->List Str} {N:List Str} {n:Nat} {R:Rs Str} (h:ze G N n R R):uh G N R n []:=by
 rcases wL h with ⟨_,r⟩ | lt
 . exact r
 . exact absurd lt (zaw _)
structure vY (N:List Str) (R:Rs Str):Prop where
 sub:∀r∈R,∀z∈r.2,z∈N
 dis:R.Pairwise λr r'=>∀z∈r.2,z∉r'.2
 ne:∀r∈R,r.2≠[]
 srt:∀r∈R,r.2.Sublist N
theorem vY.nil {N:List Str}:vY N []:=⟨λ_ h=>(nomatch h),zdv.nil,λ_ h=>(nomatch h),λ_ h=>(nomatch h)⟩
theorem vY.more {G:Str->List Str} {N:List Str} {R:Rs Str} {n:Nat} {ns:List Str} (o:vY N R) (r:uh G N R n ns) (ne:ns≠[]):vY N (R++[(n,ns)]):=by
 refine⟨λx hx z hz=>?_,zdq.mpr ⟨o.dis,zbB _ _,λa ha b hb z hz hb'=>?_⟩,λx hx=>?_,λx hx=>?_⟩
 . rcases zai.mp hx with hx | hx
   . exact o.sub x hx z hz
   . rw[zac.mp hx]at hz
     exact((r.iff z).mp hz).1
 . rw[zac.mp hb]at hb'
   exact zQ.mp ((r.iff z).mp hb').2.1 a ha hz
 . rcases zai.mp hx with hx | hx
   . exact o.ne x hx
   . rw[zac.mp hx];exact ne
 . rcases zai.mp hx with hx | hx
   . exact o.srt x hx
   . rw[zac.mp hx];exact r.sub
theorem Vp {G:Str->List Str} {N:List Str} {n:Nat} {R R':Rs Str} (h:ze G N n R R'):vY N R->vY N R':=by
 induction h with
 | stop r=>exact id
 | more r ne k ih=>exact λo=>ih (o.more r ne)
theorem Gw {G:Str->List Str} {N:List Str} {n:Nat} {R R':Rs Str} (h:All G N n R R'):vY N R->vY N R':=by
 induction h with
 | stop r=>exact id
 | more g ne k ih=>exact λo=>ih (Vp g o)
theorem yh {rs:qR} {n:Nat} {R R':Rs Str} (h:ze (jz rs) (rs.map (·.1)) n R R'):JJ rs (jm R')<=JJ rs (jm R)/\(R'≠R->JJ rs (jm R') < JJ rs (jm R)):=by
 induction h with
 | stop r=>exact⟨tw _,λe=>absurd rfl e⟩
 | more r ne k ih=>
   have:=vS (λz hz=>let ⟨a,b,_⟩:=(r.iff z).mp hz;⟨a,b⟩) ne (n:=n) (rs:=rs)
   exact⟨by omega,λ_=>by omega⟩
theorem vz {N:List Str}:∀{R:Rs Str},vY N R->R.length<=N.length:=λ{R} o=>by
 have key:∀R:Rs Str,(R.Pairwise λr r'=>∀z∈r.2,z∉r'.2)->(∀r∈R,r.2≠[])->∃zs:List Str,zs.length=R.length/\zs.Nodup/\∀z∈zs,∃r∈R,z∈r.2:=by
   intro R
   induction R with
   | nil=>exact λ_ _=>⟨[],rfl,zaY,λz h=>(nomatch h)⟩
   | cons r R ih=>
     intro p ne
     obtain⟨zs,l,nd,sub⟩:=ih (zcD.mp p).2 (λx hx=>ne x (tW _ hx))
     obtain⟨z,t,e⟩:=zcF (ne r t7)
     have hz:z∈r.2:=by rw[e];exact t7
     refine⟨z::zs,by simp [l],zaC.mpr ⟨λm=>?_,nd⟩,λy hy=>?_⟩
     . obtain⟨r',hr',hz'⟩:=sub z m
       exact(zcD.mp p).1 r' hr' z hz hz'
     . rcases zaa.mp hy with rfl | hy
       . exact⟨r,t7,hz⟩
       . obtain⟨r',hr',h⟩:=sub y hy
         exact⟨r',tW _ hr',h⟩
 obtain⟨zs,l,nd,sub⟩:=key R o.dis o.ne
 rw[<-l]
 exact Qf nd λz hz=>let ⟨r,hr,h⟩:=sub z hz;o.sub r hr z h
def vc (CG:Addr):Sp:=λvs H Q _=>∃(g d:Addr) (rs:qR),vs=[.ref g,.ref d]/\jB CG H g rs/\qy rs/\rs.length<=14/\jq (rs.map (·.1)) H d (jm [])/\VG CG H g d/\
 ∀H' l ps R,H l=none->H' l=some (.lst (ps.map V.ref))->jt H' ps (R.map (·.2))->(∀p∈ps,H p=none)->jq (rs.map (·.1)) H' d (jm R)->All (jz rs) (rs.map (·.1)) 0 [] R->Fr H d H'->Q (.ref l) H'
section
variable {P:Program} {w:World} {K:PySem.W.Frag} {mg:Str->Option Value} {base:Heap}
abbrev NG:List Str:=["ground","numbered","rounds","number","more"]
abbrev Wg:List Str:=["ground","numbered"]
theorem JP:qr NG Wg (ql Wc):=⟨rfl,rfl,rfl,by decide+kernel,rfl,by decide+kernel,by decide+kernel⟩
theorem xX {f fB fL fG fR fV CG:Addr} {fd fdB fdL fdG fdR fdV:FuncData} (F:jG K "give_numbers" "give_numbers" Wc f fd) (B:Qe mg) (G:jF mg) (T:jP K mg) (M:GM K mg CG) (hB:qQ K mg "numbers_behind" Ri uq fB fdB) (hL:qQ K mg "lacking" j7 ["numbers"] fL fdL) (hG:qQ K mg "gets_number" Yf Yn fG fdG)
   (hR:qQ K mg "round_of" ZX QI fR fdR) (hV:qQ K mg "give_number" W1 QI fV fdV):qp P w K mg base qI 7 f fd Wg (vc CG):=by
 have GV:qp P w K mg base qI 6 fV fdV QI (yZ CG):=KG hV.fn B G T M hB hL hG hR
 refine F.okJ JP (λvs H Q E h=>?_) (λcdv A outer s H vs Q E hr h=>?_)
 . obtain⟨g,d,rs,rfl,_⟩:=h
   rfl
 . obtain⟨g,d,rs,rfl,gr,good,le14,hd,ap,q⟩:=h
   have hu:=jS hr
   refine⟨_,qg (qw (i:=2) JP.nd rfl (Or.inl rfl) (jE qf))
     (qg (qw (i:=3) JP.nd rfl (Or.inl rfl) qm)
     (qg (qw (i:=4) JP.nd rfl (Or.inl rfl) (qG hV GV hr (by rfl) (qd (jv 0) (qd (jv 1) (qd (jv 3) qf)))))
     (qg (QM PassesOwn.never (qt zm (qx qD (by rfl) B.len boot_len (qd (jv 4) qf)) qm (qA _))
       (qg (je (QV zaj zbX zbY Z2 (jv 2) (qd (jv 4) qf)))
       (qg (wq (i:=3) JP.nd rfl (Or.inl rfl) qm wD)
       (qh (qw (i:=4) JP.nd rfl (Or.inl rfl) (qG hV GV hr (by rfl) (qd (jv 0) (qd (jv 1) (qd (jv 3) qf)))))))))
     (qh (qu (jv 2)))))),?_⟩
   refine⟨by show 0<=sizeLine;decide,λlr hlr=>?_⟩
   have sr:Same H (upd H lr (.lst [])):=qk hlr
   obtain⟨kv0,hd0⟩:=hd.isd
   have nrd:lr≠d:=λe=>by rw[e,hd0]at hlr;cases hlr
   have apm:∀{H':Hp},Fr H d H'->VG CG H' g d:=λfr dx lo rd h=>by
     obtain⟨dx',lo',rd',kvs',h1,_⟩:=gr
     have:=fr _ _ h1 (λe=>by rw[e,hd0]at h1;cases h1)
     rw[h]at this
     cases this
     exact ap _ _ _ h1
   have fr0:Fr H d (upd H lr (.lst [])):=Fr.refl.own hlr
   refine⟨_,rfl,_,rfl,_,rfl,g,d,rs,[],0,rfl,gr.mono sr,good,le14,hd.mono sr,apm fr0,λH1 l1 ps1 ls1 hl1 hl1' rn1 pn1 num1 gv1 fr1=>?_⟩
   refine QG (λσ H'=>∃(l:Addr) (n:Nat) (ps ps1:List Addr) (R:Rs Str) (ls:List (List Str)),σ=[some (.ref g),some (.ref d),some (.ref lr),some (.int (n:Nat)),some (.ref l)]/\Fr H d H'/\H' lr=some (.lst (ps.map V.ref))/\jt H' ps (R.map (·.2))/\H' l=some (.lst (ps1.map V.ref))/\jt H' ps1 ls/\
       jq (rs.map (·.1)) H' d (jm (R++ls.map λx=>(n,x)))/\ze (jz rs) (rs.map (·.1)) n R (R++ls.map λx=>(n,x))/\(∀R',All (jz rs) (rs.map (·.1)) n R R'->All (jz rs) (rs.map (·.1)) 0 [] R')/\l≠lr/\(∀p∈ps,p≠lr/\H p=none)/\(∀p∈ps1,p≠lr/\H p=none)/\vY (rs.map (·.1)) R)
     (λσ H'=>XO (rs.map (·.1)) H' d*2+(match σ with | [_,_,_,_,some (.ref l)]=>(match H' l with | some (.lst (_::_))=>1 | _=>0) | _=>0))
     ⟨l1,0,[],ps1,[],ls1,rfl,fr0.trans fr1,fr1 _ _ qe nrd,.nil,hl1',rn1,num1,gv1,λR' h=>h,(λe=>by rw[e,qe]at hl1;cases hl1),λp h=>(nomatch h),?_,.nil⟩ ?_ ?_
   . intro p hp
     have h1:=pn1 p hp
     have h2:p≠lr:=λe=>by rw[e,qe]at h1;cases h1
     exact⟨h2,by rw[qi h2]at h1;exact h1⟩
   . rintro σ H' ⟨l,n,ps,ps1,R,ls,rfl,fr,hlr',rnds,hl,rn,num,gv,al,nl,np,np1,od⟩
     obtain⟨kv1,hd1⟩:=num.isd
     have od':=Vp gv od
     have ol:=vz od'
     rw[tL,tj,tj]at ol
     refine⟨_,rfl,l,_,rfl,.inl (.of hl),_,_,rfl,rfl,_,rfl,?_⟩
     rw[tj]
     cases c:ls with
     | nil=>
       subst c
       have e0:ps1=[]:=zad rn.1
       subst e0
       rw[zcf,zaz]at gv num
       refine jD (by decide) ⟨_,rfl,?_⟩
       exact q H' lr ps R hlr hlr' rnds (λp hp=>(np p hp).2) num (al R (.stop (yg gv))) fr
     | cons x0 rest=>
       have ne:ls≠[]:=by rw[c];simp
       clear c
       have lp:ps1.length=ls.length:=rn.1
       have pos:=zdu.mpr ne
       refine jR (decide_eq_true (by show (0:Int) < (ps1.length:Int);omega)) ?_
       refine⟨_,rfl,.inl ⟨rfl,_,.of hlr'⟩,_,rfl,lr,l,_,_,rfl,rfl,hlr',hl,?_,?_⟩
       . rw[tj,tj,rnds.1,tj,lp]
         exact zak (qo (by omega))
       . have e5:ps.map V.ref++ps1.map V.ref=(ps++ps1).map V.ref:=by rw[tE]
         rw[e5]
         have fr3:Fr H d (upd H' lr (.lst ((ps++ps1).map V.ref))):=fr.own hlr
         have lr3:upd H' lr (.lst ((ps++ps1).map V.ref)) lr=some (.lst ((ps++ps1).map V.ref)):=qe
         have r3:jt (upd H' lr (.lst ((ps++ps1).map V.ref))) (ps++ps1) ((R++ls.map λx=>(n,x)).map (·.2)):=by
           have ee:(R++ls.map λx=>(n,x)).map (·.2)=R.map (·.2)++ls:=by
             rw[tE,zbE]
             congr 1
             exact List.map_id ls
           rw[ee]
           refine jt.app ⟨rnds.1,λi p x e1 e2=>?_⟩ ⟨rn.1,λi p x e1 e2=>?_⟩
           . rw[qi (np p (tQ e1)).1]
             exact rnds.2 i p x e1 e2
           . rw[qi (np1 p (tQ e1)).1]
             exact rn.2 i p x e1 e2
         have num3:jq (rs.map (·.1)) (upd H' lr (.lst ((ps++ps1).map V.ref))) d (jm (R++ls.map λx=>(n,x))):=⟨let ⟨kvs,a,b⟩:=num.at_;⟨kvs,by rw[qi (Ne.symm nrd)];exact a,b⟩⟩
         have neR:R++ls.map (λx=>(n,x))≠R:=λe=>by
           have:=congrArg zaB e
           rw[tL,tj]at this
           omega
         generalize R++ls.map (λx=>(n,x))=R1 at*
         generalize upd H' lr (.lst ((ps++ps1).map V.ref))=G3 at fr3 r3 lr3 num3 ⊢
         obtain⟨kv3,hd3⟩:=num3.isd
         refine⟨_,rfl,_,_,rfl,rfl,?_⟩
         refine⟨_,rfl,_,rfl,_,rfl,g,d,rs,R1,n+1,rfl,gr.fr ⟨kv0,hd0⟩ ap fr3,good,le14,num3,apm fr3,λH4 l4 ps4 ls4 hl4 hl4' rn4 pn4 num4 gv4 fr4=>?_⟩
         refine⟨⟨l4,n+1,ps++ps1,ps4,R1,ls4,rfl,fr3.trans fr4,fr4 _ _ lr3 nrd,r3.fr hd3 fr4,hl4',rn4,num4,gv4,λR' h=>al R' (.more gv neR h),(λe=>by rw[e,lr3]at hl4;cases hl4),?_,?_,od'⟩,?_⟩
         . intro p hp
           rcases zai.mp hp with hp | hp
           . exact np p hp
           . exact np1 p hp
         . intro p hp
           have h1:=pn4 p hp
           refine⟨(λe=>by rw[e,lr3]at h1;cases h1),?_⟩
           cases h2:H p with
           | none=>rfl
           | some u=>
             by_cases c:p=d
             . rw[c,hd3]at h1;cases h1
             . rw[fr3 _ _ h2 c]at h1;cases h1
         . show XO (rs.map (·.1)) H4 d*2+(match H4 l4 with | some (.lst (_::_))=>1 | _=>0) < XO (rs.map (·.1)) H' d*2+(match H' l with | some (.lst (_::_))=>1 | _=>0)
           have gb:=yh gv4
           rw[num4.bare,num.bare,hl4',hl]
           obtain⟨p1,t1,e1⟩:=List.exists_cons_of_length_pos (by omega:0 < ps1.length)
           rw[e1]
           show _ < JJ rs (jm R1)*2+1
           cases ls4 with
           | nil=>
             have e0:ps4=[]:=zad rn4.1
             rw[e0]
             show _+0 < _
             have:=gb.1
             omega
           | cons x4 t4=>
             have:=gb.2 λe=>by
               have:=congrArg zaB e
               rw[tL,tj]at this
               simp at this
             have le1:(match (some (HO.lst (ps4.map V.ref)):Option HO) with | some (.lst (_::_))=>1 | _=>0)<=1:=by split<;>omega
             omega
   . rintro σ H' Q Q' h ⟨v,e,p,ys,e2,h1,i,j,e3,e4,b,e5,h2⟩
     exact⟨v,e,p,ys,e2,h1,i,j,e3,e4,b,e5,h _ _ h2⟩
end
open PySem L2 PyProof.Rows MLab
def Y0 (R:Rs Str) (i:Nat):Str->Option Nat:=λz=>(jm (R.take i) z).map λ_=>Zc R z
theorem VZ {N:List Str} {R:Rs Str} (o:vY N R) {i:Nat} {r:Nat×List Str} {z:Str} (hr:R[i]?=some r) (hz:z∈r.2):Zc R z=i:=by
 obtain⟨hi,er⟩:=tq.mp hr
 unfold Zc
 rw[List.findIdx_eq hi]
 refine⟨by rw[er];exact decide_eq_true hz,λj hj=>decide_eq_false λm=>?_⟩
 have:=zar.mp o.dis j i (by omega) hi hj z m
 rw[er]at this
 exact this hz
theorem WT {N:List Str} {R:Rs Str} (o:vY N R) {i:Nat} {r:Nat×List Str} {z:Str} (hr:R[i]?=some r) (hz:z∈r.2):Y0 R i z=none:=by
 unfold Y0
 have:jm (R.take i) z=none:=zQ.mpr λx hx m=>by
   obtain⟨j,hj⟩:=zah hx
   rw[zbb]at hj
   split at hj
   . have h1:=VZ o hj m
     have h2:=VZ o hr hz
     omega
   . cases hj
 rw[this]
 rfl
theorem kj {N:List Str} {R:Rs Str} (o:vY N R) {i:Nat} {r:Nat×List Str} (hr:R[i]?=some r) (z:Str):zC (Y0 R i) i r.2 z=Y0 R (i+1) z:=by
 unfold zC
 by_cases c:z∈r.2
 . rw[if_pos c]
   have n:=WT o hr c
   unfold Y0 at n ⊢
   have n':jm (R.take i) z=none:=by
     cases e:jm (R.take i) z with
     | none=>rfl
     | some m=>rw[e]at n;cases n
   rw[tM,hr]
   show _=(jm (R.take i++[(r.1,r.2)]) z).map _
   rw[RC n' c,VZ o hr c]
   rfl
 . rw[if_neg c]
   unfold Y0
   rw[tM,hr]
   show _=(jm (R.take i++[(r.1,r.2)]) z).map _
   rw[JF]
   cases jm (R.take i) z with
   | some m=>rfl
   | none=>
     show _=Option.map _ (if z∈r.2 then some r.1 else none)
     rw[if_neg c]
theorem yS (R:Rs Str) (z:Str):Y0 R R.length z=(jm R z).map λ_=>Zc R z:=by
 unfold Y0
 rw[tF (tw _)]
def Zh (rs:qR) (R:Rs Str) (z:Str):List V:=match jm R z with
 | some n=>[.str "number",.int (n:Nat),.int (Zc R z:Nat)]
 | none=>[.str "endless",.int (Rb.setN (Xr rs (jm R) z):Nat)]
structure YU (H:Hp) (D:Addr) (rs:qR) (R:Rs Str):Prop where
 at_:∃kvs:List (qF×V),H D=some (.dK kvs)/\kvs.map (·.1)=(rs.map (·.1)).map Sum.inr/\∀r∈rs,∃t,qS kvs (Sum.inr r.1:qF)=some (.ref t)/\H t=some (.tup (Zh rs R r.1))
theorem YU.mono {H H':Hp} {D:Addr} {rs:qR} {R:Rs Str} (h:YU H D rs R) (s:Same H H'):YU H' D rs R:=⟨let ⟨kvs,a,b,c⟩:=h.at_;⟨kvs,s _ _ a,b,λr hr=>let ⟨t,u,v⟩:=c r hr;⟨t,u,s _ _ v⟩⟩⟩
theorem UU:∀(n:Nat) (L:List Nat),(∀m,m<=n->m∈L)->n*(n+1)<=2*L.sum
 | 0,_,_=>by simp
 | n+1,L,h=>by
   have hm:=h (n+1) (tw _)
   have ih:=UU n (L.erase (n+1)) λm hm'=>(zcn (by omega)).mpr (h m (by omega))
   have es:L.sum=(n+1)+(L.erase (n+1)).sum:=by
     have:=(List.perm_cons_erase hm).sum_nat
     rw[this,zaN]
   rw[es]
   have:(n+1)*(n+1+1)=n*(n+1)+2*(n+1):=by
     rw[Nat.mul_comm,<-Nat.add_mul]
   omega
theorem WS {α:Type} {f g:α->Nat}:∀{l:List α},(∀x∈l,f x<=g x)->(l.map f).sum<=(l.map g).sum
 | [],_=>tw _
 | a::l,h=>by
   rw[tS,tS,zaN,zaN]
   have:=h a t7
   have:=WS (l:=l) λx hx=>h x (tW _ hx)
   omega
theorem N1 {rs:qR} (hn:(rs.map (·.1)).Nodup) (z:Str):(jz rs z).Nodup:=by
 unfold jz
 split
 . exact hn.sublist zax
 . exact zaY
theorem Ub {rs:qR} (good:qy rs) {num:Str->Option Nat} {stp:Str->Nat} (L:Lab (jz rs) (·∈rs.map (·.1)) num stp) {x:Str} {n:Nat} (hx:x∈rs.map (·.1)) (e:num x=some n):n<=8:=by
 have h1:∀m,m<=n->m∈rs.map λr=>(num r.1).getD 0:=λm hm=>by
   rcases zbQ m n with c | c
   . obtain⟨y,hy,ey,_⟩:=L.n1 hx e c
     obtain⟨r,hr,rfl⟩:=tG.mp (L.cl hx hy)
     exact tG.mpr ⟨r,hr,by rw[ey];rfl⟩
   . have:m=n:=by omega
     subst this
     obtain⟨r,hr,rfl⟩:=tG.mp hx
     exact tG.mpr ⟨r,hr,by rw[e];rfl⟩
 have h2:=UU n _ h1
 have h3:(rs.map λr=>(num r.1).getD 0).sum<=(rs.map λr=>r.2.length).sum:=WS λr hr=>by
   cases c:num r.1 with
   | none=>exact zap _
   | some m=>
     show m<=_
     have hr':r.1∈rs.map (·.1):=tG.mpr ⟨r,hr,rfl⟩
     have:(zae m).length<=((jz rs r.1).filterMap num).length:=Qf zcW λj hj=>by
       obtain⟨y,hy,ey,_⟩:=L.n1 hr' c (zbm.mp hj)
       exact zbD.mpr ⟨y,hy,ey⟩
     rw[zav]at this
     have h4:=zby num (jz rs r.1)
     have h5:(jz rs r.1).length<=r.2.length:=Qf (N1 good.nd _) λy hy=>(ZI good hr).mp hy
     omega
 have h4:=good.few
 rcases zbQ 8 n with c | c
 . have:9*10<=n*(n+1):=zcE c (by omega)
   omega
 . exact c
def zU (CG:Addr):Sp:=λvs H Q _=>∃(g:Addr) (rs:qR),vs=[.ref g]/\jB CG H g rs/\qy rs/\rs.length<=14/\
 ∀H' D R,Same H H'->H D=none->YU H' D rs R->All (jz rs) (rs.map (·.1)) 0 [] R->Q (.ref D) H'
section
variable {P:Program} {w:World} {K:PySem.W.Frag} {mg:Str->Option Value} {base:Heap}
abbrev nLb:List Str:=["ground","numbered","steps","step","names","name","labels"]
theorem scLb:qr nLb ["ground"] (ql zL):=⟨rfl,rfl,rfl,by decide+kernel,rfl,by decide+kernel,by decide+kernel⟩
structure UF (K:PySem.W.Frag) (mg:Str->Option Value):Prop where
 lack:∃f fd,qQ K mg "lacking" j7 ["numbers"] f fd
 seto:∃f fd,qQ K mg "set_of" ZW ["numbers"] f fd
 nb:∃f fd,qQ K mg "numbers_behind" Ri uq f fd
 gets:∃f fd,qQ K mg "gets_number" Yf Yn f fd
 round:∃f fd,qQ K mg "round_of" ZX QI f fd
 give:∃f fd,qQ K mg "give_number" W1 QI f fd
 gives:∃f fd,qQ K mg "give_numbers" Wc Wg f fd
 labels:∃f fd,qQ K mg "labels_of" zL ["ground"] f fd
theorem Xq {f CG:Addr} {fd:FuncData} (F:jG K "labels_of" "labels_of" zL f fd) (B:Qe mg) (G:jF mg) (T:jP K mg) (M:GM K mg CG) (Y:UF K mg):qp P w K mg base qI 8 f fd ["ground"] (zU CG):=by
 obtain⟨fL,fdL,hL⟩:=Y.lack
 obtain⟨fS,fdS,hS⟩:=Y.seto
 obtain⟨fB,fdB,hB⟩:=Y.nb
 obtain⟨fG,fdG,hG⟩:=Y.gets
 obtain⟨fR,fdR,hR⟩:=Y.round
 obtain⟨fV,fdV,hV⟩:=Y.give
 obtain⟨fW,fdW,hW⟩:=Y.gives
 have GW:qp P w K mg base qI 7 fW fdW Wg (vc CG):=xX hW.fn B G T M hB hL hG hR hV
 have GB:qp P w K mg base qI 3 fB fdB uq (uM CG):=Rt hB.fn B G T M
 have GS:qp P w K mg base qI 1 fS fdS ["numbers"] (XU K):=W9 hS.fn
 obtain⟨fC,fdC,C⟩:=M.cls
 obtain⟨fM,fdM,hM⟩:=M.nm
 have GM:qp P w K mg base qI 1 fM fdM ["self"] (Q4 CG):=Q9 hM.fn C G
 refine F.okJ scLb (λvs H Q E h=>?_) (λcdv A outer s H vs Q E hr h=>?_)
 . obtain⟨g,rs,rfl,_⟩:=h
   rfl
 . obtain⟨g,rs,rfl,gr,good,le14,q⟩:=h
   have hu:=jS hr
   have r1:qN 1 _:=hr.mono (by decide)
   have r3:qN 3 _:=hr.mono (by decide)
   refine⟨_,qg (qw (i:=1) scLb.nd rfl (Or.inl rfl) Qi)
     (qg (qw (i:=2) scLb.nd rfl (Or.inl rfl) Qi)
     (qg (ja PassesOwn.never rfl (Wt (by rfl) T.enu (qd (qG hW GW hr (by rfl) (qd (jv 0) (qd (jv 1) qf))) qf)) (Z6 rfl (jM (qv (i:=3) scLb.nd rfl (Or.inl rfl)) (jM (qv (i:=4) scLb.nd rfl (Or.inl rfl)) JX)))
       (qh (ja PassesOwn.never rfl (qJ (jv 4)) (qv (i:=5) scLb.nd rfl (Or.inl rfl)) (qh (jC hu (jv 2) (jv 5) (jv 3) rfl)))))
     (qg (qw (i:=6) scLb.nd rfl (Or.inl rfl) Qi)
     (qg (ja PassesOwn.never rfl (qJ (Vk hM C.cl GM r1 (jv 0))) (qv (i:=5) scLb.nd rfl (Or.inl rfl))
       (qh (qK (Qy (Zj hu (jv 5) (jv 1)))
         (qh (jC hu (jv 6) (jv 5) (Qz (qd jr (qd (jk hu (jv 1) (jv 5) (λ_ _=>rfl)) (qd (jk hu (jv 2) (jv 5) (λ_ _=>rfl)) qf)))) rfl))
         (qh (jC hu (jv 6) (jv 5) (Qz (qd jr (qd (qG hS GS r1 (by rfl) (qd (qG hB GB r3 (by rfl) (qd (jv 0) (qd (jv 1) (qd (jv 5) qf)))) qf)) qf))) rfl)))))
     (qh (qu (jv 6))))))),?_⟩
   intro d hd st hst
   have s1:Same H (upd H d (.dK [])):=qk hd
   have s2:Same H (upd (upd H d (.dK [])) st (.dK [])):=s1.trans (qk hst)
   have hd2:upd (upd H d (.dK [])) st (.dK []) d=some (.dK []):=qj qe hst
   have hst2:upd (upd H d (.dK [])) st (.dK []) st=some (.dK []):=qe
   have nds:d≠st:=λe=>by rw[<-e,qe]at hst;cases hst
   have hs0:H st=none:=jN s1 hst
   generalize upd (upd H d (.dK [])) st (.dK [])=H2 at s2 hd2 hst2
   have num0:∀{a:Addr},H2 a=some (.dK [])->jq (rs.map (·.1)) H2 a (jm []):=λh=>⟨[],h,λz=>rfl,zaY,λk h=>(nomatch h)⟩
   have ap:∀{H':Hp} {a:Addr},Same H H'->H a=none->VG CG H' g a:=λsH ha dx lo rd h=>by
     obtain⟨dx',lo',rd',kvs',h1,_,h3,_⟩:=gr
     have:=sH _ _ h1
     rw[h]at this
     cases this
     exact λe=>by rw[e,ha]at h3;cases h3
   refine⟨_,rfl,_,rfl,g,d,rs,rfl,gr.mono s2,good,le14,num0 hd2,ap s2 hd,λH3 l3 ps R hl3 hl3' rnds _ num all fr3=>?_⟩
   have od:=Gw all .nil
   have oL:=vz od
   rw[tj]at oL
   have s3:Same H H3:=λb u h=>fr3 b u (s2 _ _ h) (qz h hd)
   have st3:H3 st=some (.dK []):=fr3 _ _ hst2 (Ne.symm nds)
   obtain⟨kvd,hd3⟩:=num.isd
   have nl3:l3≠st:=λe=>by rw[e,hst2]at hl3;cases hl3
   have L:=wg (Q1 good.nd) all
   refine⟨l3,rfl,⟨_,.of hl3'⟩,?_⟩
   refine YE (K:=K) (a:=l3) (xs:=ps.map V.ref) (λi σ' G'=>∃v3 v4 v5,σ'=[some (.ref g),some (.ref d),some (.ref st),v3,v4,v5,none]/\jq (rs.map (·.1)) G' st (Y0 R i)/\Fr H3 st G')
     ⟨none,none,none,rfl,⟨[],st3,λz=>rfl,zaY,λk h=>(nomatch h)⟩,Fr.refl⟩ (λi σ' G' _ ⟨_,_,_,_,_,f⟩=>.of (f _ _ hl3' nl3)) ?_ ?_
   . rintro i x σ' G' p hx hp ⟨v3,v4,v5,rfl,Uc,frS⟩
     rw[tH]at hx
     cases ep:ps[i]? with
     | none=>rw[ep]at hx;cases hx
     | some pi=>
       rw[ep]at hx
       obtain rfl:=(tO.inj hx).symm
       have li:i < R.length:=by
         have:=(tq.mp ep).1
         have:=rnds.1
         rw[tj]at this
         omega
       obtain⟨r,er⟩:∃r,R[i]?=some r:=⟨_,tu li⟩
       have hpi:=rnds.2 i pi r.2 ep (by rw[tH,er];rfl)
       have npi:pi≠st:=λe=>by rw[e,st3]at hpi;cases hpi
       have sp:Same G' (upd G' p (.tup [.int (i:Nat),V.ref pi])):=qk hp
       have frp:Fr H3 st (upd G' p (.tup [.int (i:Nat),V.ref pi])):=frS.same sp
       have rN:∀z∈r.2,z∈rs.map (·.1):=od.sub r (tQ er)
       refine⟨p,_,rfl,.of qe,rfl,_,_,rfl,_,_,rfl,rfl,?_⟩
       have hpp:∀{G2:Hp},Fr H3 st G2->G2 pi=some (.lst (r.2.map V.str)):=λf=>f _ _ hpi npi
       have num1:=Uc.mono sp
       generalize upd G' p (.tup [.int (i:Nat),V.ref pi])=G1 at sp frp num1
       refine⟨_,rfl,pi,rfl,⟨_,.of (hpp frp)⟩,?_⟩
       have rnd:r.2.Nodup:=good.nd.sublist (od.srt r (tQ er))
       refine js (K:=K) (a:=pi) (xs:=r.2.map V.str) (λj σ'' G2=>∃v5,σ''=[some (.ref g),some (.ref d),some (.ref st),some (.int (i:Nat)),some (.ref pi),v5,none]/\jq (rs.map (·.1)) G2 st (zC (Y0 R i) i (r.2.take j))/\Fr H3 st G2)
         ⟨v5,rfl,num1.congr λz=>by unfold zC;rw[List.take_zero,if_neg (by simp)],frp⟩ (λj σ'' G2 _ ⟨_,_,_,f⟩=>.of (hpp f)) ?_ ?_
       . rintro j y σ'' G2 hy ⟨v5',rfl,numG,frG⟩
         obtain⟨z,ez,hz,rfl⟩:=jo hy
         by_cases nt:z∈r.2.take j
         . exfalso
           obtain⟨j',hj⟩:=zah nt
           rw[zbb]at hj
           split at hj
           . have h1:=(tq.mp hj)
             have h2:=(tq.mp ez)
             have:=Yv rnd (h1.2.trans h2.2.symm)
             omega
           . cases hj
         . obtain⟨H4,put,num4,o4,e4⟩:=numG.put (n:=i) (rN z hz) (by unfold zC;rw[if_neg nt];exact WT od er hz) (by rw[tj];exact le14)
           refine⟨_,rfl,_,rfl,_,rfl,st,H4,rfl,put,_,rfl,num4.congr λy=>?_,?_⟩
           . unfold zC
             rw[tM,ez]
             by_cases e:y=z
             . subst e;rw[if_pos rfl,if_pos (by simp)]
             . rw[if_neg e]
               by_cases m:y∈r.2.take j
               . rw[if_pos m,if_pos (zaR _ m)]
               . rw[if_neg m,if_neg (by simp [m,e])]
           . rw[e4]
             exact frG.at_d
       . rintro σ'' G2 ⟨v5',rfl,numG,frG⟩
         rw[tj,tF (tw _)]at numG
         exact⟨_,_,_,rfl,numG.congr (kj od er),frG⟩
   . rintro σ' G' ⟨v3,v4,v5,rfl,Uc,frS⟩
     rw[tj,rnds.1,tj]at Uc
     have Uc:=Uc.congr (yS R)
     have sG:Same H G':=λb u h=>frS _ _ (s3 _ _ h) (qz h hs0)
     have numD:jq (rs.map (·.1)) G' d (jm R):=num.fr frS nds
     intro D hD
     have sD:Same G' (upd G' D (.dK [])):=qk hD
     have hD0:H D=none:=jN sG hD
     have hDD:upd G' D (.dK []) D=some (.dK []):=qe
     generalize upd G' D (.dK [])=G1 at sD hDD
     obtain⟨dx,fs,hg,l1,l2⟩:=((gr.mono sG).mono sD).ins
     refine⟨_,rfl,g,dx,fs,rfl,hg,l1,g,rs,rfl,(gr.mono sG).mono sD,λln hln=>⟨ln,rfl,⟨_,.of qe⟩,?_⟩⟩
     have sL:Same G1 (upd G1 ln (.lst ((rs.map (·.1)).map V.str))):=qk hln
     have hL2:upd G1 ln (.lst ((rs.map (·.1)).map V.str)) ln=some (.lst ((rs.map (·.1)).map V.str)):=qe
     have nDl:ln≠D:=λe=>by rw[e,hDD]at hln;cases hln
     generalize upd G1 ln (.lst ((rs.map (·.1)).map V.str))=G2 at sL hL2
     have sG2:Same G' G2:=sD.trans sL
     refine js (K:=K) (a:=ln) (xs:=(rs.map (·.1)).map V.str) (λi σ' G3=>∃v5 kvs,σ'=[some (.ref g),some (.ref d),some (.ref st),v3,v4,v5,some (.ref D)]/\Fr G2 D G3/\G3 D=some (.dK kvs)/\kvs.map (·.1)=((rs.map (·.1)).take i).map Sum.inr/\
         ∀r∈rs.take i,∃t,qS kvs (Sum.inr r.1:qF)=some (.ref t)/\G3 t=some (.tup (Zh rs R r.1)))
       ⟨v5,[],rfl,Fr.refl,sL _ _ hDD,rfl,λr h=>(nomatch h)⟩ (λi σ' G3 _ ⟨_,_,_,f,_⟩=>.of (f _ _ hL2 nDl)) ?_ ?_
     . rintro i y σ' G3 hy ⟨v5',kvs,rfl,fr,hDk,ek,hv⟩
       obtain⟨r,er,hr',rfl⟩:=x6 hy
       have hi:=(tq.mp er).1
       have s23:Same G' G3:=λb u h=>fr _ _ (sG2 _ _ h) (qz h hD)
       have sA:=sG.trans s23
       have nm:=numD.mono s23
       have ns:=Uc.mono s23
       have lk:kvs.length=i:=by
         have:=congrArg zaB ek
         rw[tj,tj,tJ,tj]at this
         omega
       have eN:(rs.map (·.1))[i]?=some r.1:=by rw[tH,er];rfl
       have new:qS kvs (Sum.inr r.1:qF)=none:=Q3 (by rw[ek];exact JU good.nd eN)
       have fin:∀(G4:Hp) (t:Addr),Fr G2 D G4->G4 D=some (.dK kvs)->Same G3 G4->G4 t=some (.tup (Zh rs R r.1))->∃H5,Jc G4 D (.str r.1) (.ref t) H5/\
           ∃v5 kvs,[some (V.ref g),some (.ref d),some (.ref st),v3,v4,some (.str r.1),some (.ref D)]=[some (.ref g),some (.ref d),some (.ref st),v3,v4,v5,some (.ref D)]/\Fr G2 D H5/\H5 D=some (.dK kvs)/\kvs.map (·.1)=((rs.map (·.1)).take (i+1)).map Sum.inr/\
            ∀r∈rs.take (i+1),∃t,qS kvs (Sum.inr r.1:qF)=some (.ref t)/\H5 t=some (.tup (Zh rs R r.1)):=λG4 t f4 h4 s4 ht=>by
         refine⟨_,Jc.k (k:=(Sum.inr r.1:qF)) h4 (qo (by omega)),some (.str r.1),jT kvs (Sum.inr r.1) (.ref t),rfl,f4.at_d,qe,?_,λr2 hr2=>?_⟩
         . rw[Q8 _ new,tE,ek,tM,eN,tE]
           rfl
         . have tD:∀{b:Addr} {xs:List V},G4 b=some (.tup xs)->b≠D:=λhb e=>by rw[e,h4]at hb;cases hb
           rw[tM,er]at hr2
           rcases zai.mp hr2 with h | h
           . obtain⟨t2,a,b⟩:=hv r2 h
             have ne:r2.1≠r.1:=λe=>by rw[e,new]at a;cases a
             refine⟨t2,?_,?_⟩
             . rw[Q2,if_neg (λq=>ne (Sum.inr.inj q))];exact a
             . rw[qi (tD (s4 _ _ b))];exact s4 _ _ b
           . have:r2=r:=by simpa using h
             subst this
             refine⟨t,?_,?_⟩
             . rw[Q2,if_pos rfl]
             . rw[qi (tD ht)];exact ht
       refine⟨_,rfl,_,rfl,d,_,rfl,nm.get r.1,_,rfl,?_⟩
       cases c:jm R r.1 with
       | some n=>
         have g1:=nm.get r.1
         have g2:=ns.get r.1
         rw[c]at g1 g2
         refine jZ ⟨_,rfl,_,rfl,d,_,rfl,g1,_,rfl,_,rfl,st,_,rfl,g2,by show 3<=sizeLine;decide,λt ht=>?_⟩
         have el:Zh rs R r.1=[.str "number",.int (n:Nat),.int (Zc R r.1:Nat)]:=by unfold Zh;rw[c]
         obtain⟨H5,put,k⟩:=fin (upd G3 t (.tup [.str "number",.int (n:Nat),.int (Zc R r.1:Nat)])) t (fr.same (qk ht)) (qj hDk ht) (qk ht) (by rw[el];exact qe)
         exact⟨_,rfl,_,rfl,D,H5,rfl,put,k⟩
       | none=>
         have gN:=L
         refine qV ⟨_,rfl,_,rfl,_,rfl,g,d,rs,r.1,jm R,rfl,gr.mono sA,good,le14,tG.mpr ⟨r,hr',rfl⟩,nm,λH4 l4 s4 hl4 hl4'=>?_⟩
         refine⟨l4,_,rfl,.of hl4',λx hx=>?_,by show 2<=sizeLine;decide,λt ht=>?_⟩
         . obtain⟨y,hy,ey⟩:=QQ.mp hx
           have:=Ub good L (Q1 good.nd _ (tG.mpr ⟨r,hr',rfl⟩) y hy) ey
           omega
         . have el:Zh rs R r.1=[.str "endless",.int (Rb.setN (Xr rs (jm R) r.1):Nat)]:=by unfold Zh;rw[c]
           obtain⟨H5,put,k⟩:=fin (upd H4 t (.tup [.str "endless",.int (Rb.setN (Xr rs (jm R) r.1):Nat)])) t ((fr.same s4).same (qk ht)) (qj (s4 _ _ hDk) ht) (s4.trans (qk ht)) (by rw[el];exact qe)
           exact⟨_,rfl,_,rfl,D,H5,rfl,put,k⟩
     . rintro σ' G3 ⟨v5',kvs,rfl,fr,hDk,ek,hv⟩
       rw[tj,tF (tw _)]at ek
       rw[tj,tj,tF (tw _)]at hv
       exact⟨_,rfl,q G3 D R (λb u h=>fr _ _ (sG2 _ _ (sG _ _ h)) (qz h hD0)) hD0 ⟨kvs,hDk,ek,hv⟩ all⟩
end
open PySem L2 PyProof.Rows Rb
abbrev z7:Stmt:=top 4
abbrev zJ:Stmt:=top 5
abbrev sWhole:Stmt:=top 25
abbrev Zw:Stmt:=top 50
abbrev Yd:Stmt:=top 51
abbrev zZ:Stmt:=top 55
abbrev z9:Stmt:=Qa (top 53) 0
abbrev Wa:Stmt:=Qa (top 53) 3
abbrev vg:Stmt:=Qa (top 53) 4
abbrev W0:Stmt:=Qa (top 53) 5
abbrev Yh:Stmt:=Qa (top 54) 0
abbrev Wd:Stmt:=Qa (top 54) 3
abbrev vk:Stmt:=Qa (top 54) 4
abbrev W2:Stmt:=Qa (top 54) 5
section
variable {P:Program} {w:World} {K:PySem.W.Frag} {mg:Str->Option Value} {base:Heap}
theorem bx (a b:Nat):Builtin.bitXor a b=((a^^^b:Nat):Int):=by
 unfold Builtin.bitXor
 rw[bo,ba]
 have:=Rb.or_and_xor a b
 omega
def XV:Sp:=λvs H Q _=>∃b:Nat,vs=[.int b]/\b < 65536/\∀l,H l=none->Q (.ref l) (upd H l (.lst (Q0 (Rb.memN b 16))))
def WU:Sp:=λvs H Q _=>∃b n:Nat,vs=[.int b,.int n]/\b < 65536/\n < 16/\∀H',Same H H'->Q (.int (Rb.turnN b n 16:Nat)) H'
theorem Gv (b:Nat):b < 2^ (Builtin.Int.intBits (b:Nat)):=by
 unfold Builtin.Int.intBits
 by_cases h:b=0
 . subst h;simp
 . rw[if_neg (by simpa using h)]
   exact Nat.lt_log2_self
theorem XH {b:Nat} (h:b < 65536):Builtin.Int.intBits (b:Nat)<=16:=by
 unfold Builtin.Int.intBits
 by_cases h0:b=0
 . subst h0;simp
 . rw[if_neg (by simpa using h0)]
   have:b.log2 < 16:=(Nat.log2_lt h0).mpr h
   exact this
theorem uP (b i:Nat):Builtin.bitAnd ((b:Int) / 2^ ((i:Nat):Int).toNat) 1=(((b.testBit i).toNat:Nat):Int):=by
 have e1:(b:Int) / 2^ ((i:Nat):Int).toNat=((b / 2^i:Nat):Int):=by rw[zaQ];push_cast;rfl
 have e2:Builtin.bitAnd ((b / 2^i:Nat):Int) 1=(((b / 2^i)&&& 1:Nat):Int):=ba (b / 2^i) 1
 rw[e1,e2,Nat.and_one_is_mod,Rb.testBit_div]
 by_cases h:b / 2^i % 2=1
 . rw[h];rfl
 . have h':b / 2^i % 2=0:=by omega
   rw[h'];rfl
theorem uW:qr ["bits"] ["bits"] (ql z7):=⟨rfl,rfl,rfl,by decide+kernel,rfl,by decide+kernel,by decide+kernel⟩
theorem Va {f:Addr} {fd:FuncData} (F:jG K "numbers_in" "numbers_in" z7 f fd) (B:Qe mg):qp P w K mg base qI 1 f fd ["bits"] XV:=by
 refine F.okJ uW (λvs H Q E h=>?_) (λcdv A outer s H vs Q E hr h=>?_)
 . obtain⟨b,rfl,_⟩:=h
   rfl
 . obtain⟨b,rfl,hb,q⟩:=h
   refine⟨_,qh (qu (jX (N':=["number","bits"]) (ix:=[none,some 0]) rfl ⟨rfl,rfl,rfl,rfl,rfl⟩
     (jp (by rfl) B.rng (qd (Ul PySem.F.plainAttrs_int PySem.F.slot_int_bit_length PySem.F.type_int_bit_length kX (jv 0)) qf))
     (λC s2 H2 fp pins=>⟨qv (i:=0) (show (["number","bits"]:List Str).Nodup by decide+kernel) rfl (Or.inl rfl),jJ (qt Qn (qO Nt (qO No (jv 1) (jv 0)) qm) qm (qA _)),jv 0⟩))),?_⟩
   refine⟨_,rfl,rfl,_,rfl,rfl,_,rfl,by omega,?_,λD hD=>?_⟩
   . have:=XH hb
     omega
   . rw[zaQ]
     refine Jb (λi σ' H'=>∃v,σ'=[v,some (.int b)]/\H'=upd H D (.lst (Q0 (Rb.memN b i)))) ⟨none,rfl,rfl⟩ ?_ ?_
     . rintro i σ' H' hi ⟨v,rfl,rfl⟩
       rw[zbS]
       refine⟨_,rfl,_,rfl,_,_,rfl,rfl,by omega,_,_,rfl,rfl,rfl,_,rfl,?_⟩
       have e:decide (V.int (Builtin.bitAnd ((b:Int) / 2^ ((i:Nat):Int).toNat) 1)=V.int 1)=b.testBit i:=by
         rw[uP]
         cases b.testBit i<;>decide
       rw[e]
       have l:(Q0 (Rb.memN b i)).length < sizeLine:=by
         rw[ZG]
         refine qo ?_
         have:=XH hb
         have h1:(Rb.memN b i).length<=(zae i).length:=zao _ _
         rw[zav]at h1
         omega
       cases hb':b.testBit i with
       | true=>
         refine jZ ⟨_,rfl,_,qe,l,some (.int i),rfl,?_⟩
         rw[jd,Vm,Rb.memN_succ,hb']
         rfl
       | false=>
         refine qV ⟨some (.int i),rfl,?_⟩
         rw[Rb.memN_succ,hb']
         simp
     . rintro σ' H' ⟨v,rfl,rfl⟩
       rw[Rb.memN_same (m:=16) hb (Gv b)]
       exact q D hD
theorem xc:qr ["bits","number"] ["bits","number"] (ql zJ):=⟨rfl,rfl,rfl,by decide+kernel,rfl,by decide+kernel,by decide+kernel⟩
theorem kN {f fN fS:Addr} {fd fdN fdS:FuncData} (F:jG K "set_turned" "set_turned" zJ f fd) (B:Qe mg) (hN:qQ K mg "numbers_in" z7 ["bits"] fN fdN) (hS:qQ K mg "set_of" ZW ["numbers"] fS fdS):
   qp P w K mg base qI 2 f fd ["bits","number"] WU:=by
 have GN:qp P w K mg base qI 1 fN fdN ["bits"] XV:=Va hN.fn B
 have GS:qp P w K mg base qI 1 fS fdS ["numbers"] (XU K):=W9 hS.fn
 refine F.okJ xc (λvs H Q E h=>?_) (λcdv A outer s H vs Q E hr h=>?_)
 . obtain⟨b,n,rfl,_⟩:=h
   rfl
 . obtain⟨b,n,rfl,hb,hn,q⟩:=h
   refine⟨_,qh (qu (qG hS GS hr (by rfl) (qd (jX (N':=["other","number"]) (ix:=[none,some 1]) rfl ⟨rfl,rfl,rfl,rfl,rfl⟩
     (qJ (qG hN GN hr (by rfl) (qd (jv 0) qf)))
     (λC s2 H2 fp pins=>⟨qv (i:=0) (show (["other","number"]:List Str).Nodup by decide+kernel) rfl (Or.inl rfl),jK,qO V8 (jv 0) (jv 1)⟩)) qf))),?_⟩
   refine⟨_,rfl,b,rfl,hb,λl hl=>⟨l,rfl,⟨_,.of qe⟩,λD hD=>?_⟩⟩
   have nlD:l≠D:=λe=>by rw[e,qe]at hD;cases hD
   have HD:H D=none:=by rw[<-hD,qi (Ne.symm nlD)]
   refine jw (K:=K) (a:=l) (xs:=Q0 (Rb.memN b 16)) (λi σ' H'=>∃v,σ'=[v,some (.int n)]/\H'=upd (upd H l (.lst (Q0 (Rb.memN b 16)))) D (.lst (Q0 (((Rb.memN b 16).take i).map (·^^^n))))) ⟨none,rfl,rfl⟩
     (λi σ' H' _ ⟨_,_,e⟩=>.of (by rw[e,qi nlD];exact qe)) ?_ ?_
   . rintro i x σ' H' hx ⟨v,rfl,rfl⟩
     obtain⟨m,hm,rfl⟩:=Wx hx
     refine⟨_,rfl,_,rfl,_,_,rfl,rfl,_,qe,?_,some (.int m),rfl,?_⟩
     . rw[ZG,tj,tJ]
       refine qo (tV (zcj _ _) ?_)
       have h1:(Rb.memN b 16).length<=(zae 16).length:=zao _ _
       rw[zav]at h1
       omega
     . rw[jd]
       dsimp only
       rw[bx,Vm,ZS hm,tE]
       rfl
   . rintro σ' H' ⟨v,rfl,rfl⟩
     rw[ZG,tF (tw _)]
     refine⟨D,(Rb.memN b 16).map (·^^^n),rfl,.of qe,λx hx=>?_,?_⟩
     . obtain⟨y,hy,rfl⟩:=tG.mp hx
       have:=Rb.xor_lt (m:=4) (Rb.mem_memN.mp hy).1 hn
       omega
     . exact q _ (Same.upd (qk hl) HD)
end
structure Cl (K:PySem.W.Frag) (mg:Str->Option Value) (x qual fld:Str) (st:Stmt) (C f:Addr) (fd:FuncData):Prop where
 cl:YX K C
 mkr:Mk K C f
 ns:mg x=some (.ref C)
 na:j6 K C fld
 fn:jG K "__init__" qual st f fd
 bi:jH K fd ["self",fld] []
 ca:tP K (.ref C) "__class__"=some (some (.builtin "object.__class__"))
 ob:zbx K C (.type "object")=some true
structure Wk (K:PySem.W.Frag) (mg:Str->Option Value):Prop where
 isi:mg "isinstance"=none
 bool:mg "bool"=none
 kii:tZ K (.type "int") (.type "int")=some true
 kib:tZ K (.type "int") (.type "bool")=some false
 most:∃t,mg "MOST_NUMBER"=some (.int 15 t)
 mset:∃t,mg "MOST_BITS"=some (.int 65535 t)
theorem Mx {f:Str} {v:V}:[(f,v)].lookup f=some v:=by simp [zbc]
def J4 (CN CE:Addr) (H:Hp) (a:Addr):W->Prop
 | .num n=>∃dx,H a=some (.ins CN dx [("number",.int (n:Nat))])
 | .edl b=>∃dx,H a=some (.ins CE dx [("bits",.int (b:Nat))])
theorem J4.same {CN CE:Addr} {H H':Hp} {a:Addr} {w:W} (h:J4 CN CE H a w) (s:Same H H'):J4 CN CE H' a w:=by
 cases w with
 | num n=>obtain⟨dx,e⟩:=h;exact⟨dx,s _ _ e⟩
 | edl b=>obtain⟨dx,e⟩:=h;exact⟨dx,s _ _ e⟩
section
variable {P:Program} {w:World} {K:PySem.W.Frag} {mg:Str->Option Value} {base:Heap}
def zT:Sp:=λvs H Q _=>∃i:Int,vs=[.int i]/\Q (.bl true) H
def WW:Sp:=λvs H Q _=>∃i:Int,vs=[.int i]/\0<=i/\i<=15/\Q (.bl true) H
def U9:Sp:=λvs H Q _=>∃i:Int,vs=[.int i]/\0<=i/\i<=65535/\Q (.bl true) H
theorem uS:qr ["thing"] ["thing"] (ql sWhole):=⟨rfl,rfl,rfl,by decide+kernel,rfl,by decide+kernel,by decide+kernel⟩
theorem ok_whole {f:Addr} {fd:FuncData} (F:jG K "is_whole" "is_whole" sWhole f fd) (B:Qe mg) (T:Wk K mg):qp P w K mg base qI 1 f fd ["thing"] zT:=by
 refine F.okJ uS (λvs H Q E h=>?_) (λcdv A outer s H vs Q E hr h=>?_)
 . obtain⟨i,rfl,_⟩:=h
   rfl
 . obtain⟨i,rfl,q⟩:=h
   refine⟨_,qh (qu (Jn (qx qP (by rfl) T.isi boot_isinstance (qd (jv 0) (qd (jL (v:=.ty "int") (by rfl) B.int boot_int rfl) qf)))
     (Zi (wv (qx qP (by rfl) T.isi boot_isinstance (qd (jv 0) (qd (jL (v:=.ty "bool") (by rfl) T.bool boot_bool rfl) qf))))))),?_⟩
   exact⟨_,rfl,_,_,_,_,rfl,rfl,.int i,T.kii,_,rfl,jZ ⟨_,rfl,_,_,_,_,rfl,rfl,.int i,T.kib,_,rfl,q⟩⟩
theorem xh:qr ["thing"] ["thing"] (ql Zw):=⟨rfl,rfl,rfl,by decide+kernel,rfl,by decide+kernel,by decide+kernel⟩
theorem kP {f fW:Addr} {fd fdW:FuncData} (F:jG K "is_number" "is_number" Zw f fd) (B:Qe mg) (T:Wk K mg) (hW:qQ K mg "is_whole" sWhole ["thing"] fW fdW):qp P w K mg base qI 2 f fd ["thing"] WW:=by
 have GW:qp P w K mg base qI 1 fW fdW ["thing"] zT:=ok_whole hW.fn B T
 obtain⟨t,hm⟩:=T.most
 refine F.okJ xh (λvs H Q E h=>?_) (λcdv A outer s H vs Q E hr h=>?_)
 . obtain⟨i,rfl,_⟩:=h
   rfl
 . obtain⟨i,rfl,h0,h1,q⟩:=h
   refine⟨_,qh (qu (Jn (qG hW GW hr (by rfl) (qd (jv 0) qf)) (Jn (jQ vC qm (jv 0) (qA _)) (Zi (jQ vC (jv 0) (QF (v:=.int 15) (by rfl) hm ⟨_,rfl⟩) (qA _)))))),?_⟩
   refine⟨_,rfl,i,rfl,_,rfl,jZ ⟨_,rfl,_,_,rfl,rfl,_,rfl,?_⟩⟩
   rw[decide_eq_true h0]
   refine jZ ⟨_,rfl,_,_,rfl,rfl,?_⟩
   have e:decide (i<=15)=true:=decide_eq_true h1
   show Q (.bl (decide (i<=15))) H
   rw[e]
   exact q
theorem u7:qr ["thing"] ["thing"] (ql Yd):=⟨rfl,rfl,rfl,by decide+kernel,rfl,by decide+kernel,by decide+kernel⟩
theorem xV {f fW:Addr} {fd fdW:FuncData} (F:jG K "is_set" "is_set" Yd f fd) (B:Qe mg) (T:Wk K mg) (hW:qQ K mg "is_whole" sWhole ["thing"] fW fdW):qp P w K mg base qI 2 f fd ["thing"] U9:=by
 have GW:qp P w K mg base qI 1 fW fdW ["thing"] zT:=ok_whole hW.fn B T
 obtain⟨t,hm⟩:=T.mset
 refine F.okJ u7 (λvs H Q E h=>?_) (λcdv A outer s H vs Q E hr h=>?_)
 . obtain⟨i,rfl,_⟩:=h
   rfl
 . obtain⟨i,rfl,h0,h1,q⟩:=h
   refine⟨_,qh (qu (Jn (qG hW GW hr (by rfl) (qd (jv 0) qf)) (Jn (jQ vC qm (jv 0) (qA _)) (Zi (jQ vC (jv 0) (QF (v:=.int 65535) (by rfl) hm ⟨_,rfl⟩) (qA _)))))),?_⟩
   refine⟨_,rfl,i,rfl,_,rfl,jZ ⟨_,rfl,_,_,rfl,rfl,_,rfl,?_⟩⟩
   rw[decide_eq_true h0]
   refine jZ ⟨_,rfl,_,_,rfl,rfl,?_⟩
   have e:decide (i<=65535)=true:=decide_eq_true h1
   show Q (.bl (decide (i<=65535))) H
   rw[e]
   exact q
def XX (C:Addr) (fld:Str) (hi:Int):Sp:=λvs H Q _=>∃(x dx:Addr) (n:Int),vs=[.ref x,.int n]/\0<=n/\n<=hi/\H x=some (.ins C dx [])/\Q .non (upd H x (.ins C dx [(fld,.int n)]))
theorem uZ:qr ["self","number"] ["self","number"] (ql z9):=⟨rfl,rfl,rfl,by decide+kernel,rfl,by decide+kernel,by decide+kernel⟩
theorem xP {f fB fW CN:Addr} {fd fdB fdW:FuncData} (F:jG K "__init__" "Numbered.__init__" z9 f fd) (B:Qe mg) (T:Wk K mg) (hW:qQ K mg "is_whole" sWhole ["thing"] fW fdW) (hB:qQ K mg "is_number" Zw ["thing"] fB fdB) (cl:YX K CN) (na:j6 K CN "number"):
   qp P w K mg base qI 3 f fd ["self","number"] (XX CN "number" 15):=by
 have GB:qp P w K mg base qI 2 fB fdB ["thing"] WW:=kP hB.fn B T hW
 refine F.okJ uZ (λvs H Q E h=>?_) (λcdv A outer s H vs Q E hr h=>?_)
 . obtain⟨x,dx,n,rfl,_⟩:=h
   rfl
 . obtain⟨x,dx,n,rfl,h0,h1,hx,q⟩:=h
   refine⟨_,qg (qK (ju (qX (qG hB GB hr (by rfl) (qd (jv 1) qf)))) qZ qB) (qh (Ws (jv 0) (jv 1) rfl)),?_⟩
   exact⟨_,rfl,n,rfl,h0,h1,_,rfl,qV ⟨_,rfl,_,rfl,x,CN,dx,[],rfl,hx,cl,na,by decide,q⟩⟩
theorem Ka:qr ["self","bits"] ["self","bits"] (ql Yh):=⟨rfl,rfl,rfl,by decide+kernel,rfl,by decide+kernel,by decide+kernel⟩
theorem xY {f fB fW CE:Addr} {fd fdB fdW:FuncData} (F:jG K "__init__" "Endless.__init__" Yh f fd) (B:Qe mg) (T:Wk K mg) (hW:qQ K mg "is_whole" sWhole ["thing"] fW fdW) (hB:qQ K mg "is_set" Yd ["thing"] fB fdB) (cl:YX K CE) (na:j6 K CE "bits"):
   qp P w K mg base qI 3 f fd ["self","bits"] (XX CE "bits" 65535):=by
 have GB:qp P w K mg base qI 2 fB fdB ["thing"] U9:=xV hB.fn B T hW
 refine F.okJ Ka (λvs H Q E h=>?_) (λcdv A outer s H vs Q E hr h=>?_)
 . obtain⟨x,dx,n,rfl,_⟩:=h
   rfl
 . obtain⟨x,dx,n,rfl,h0,h1,hx,q⟩:=h
   refine⟨_,qg (qK (ju (qX (qG hB GB hr (by rfl) (qd (jv 1) qf)))) qZ qB) (qh (Ws (jv 0) (jv 1) rfl)),?_⟩
   exact⟨_,rfl,n,rfl,h0,h1,_,rfl,qV ⟨_,rfl,_,rfl,x,CE,dx,[],rfl,hx,cl,na,by decide,q⟩⟩
def km (b:Bool):Sp:=λvs H Q _=>∃a,vs=[.ref a]/\Q (.bl b) H
theorem RZ:qr ["self"] ["self"] (ql W0):=⟨rfl,rfl,rfl,by decide+kernel,rfl,by decide+kernel,by decide+kernel⟩
theorem KD {f:Addr} {fd:FuncData} (F:jG K "is_endless" "Numbered.is_endless" W0 f fd):qp P w K mg base qI 1 f fd ["self"] (km false):=by
 refine F.okJ RZ (λvs H Q E h=>?_) (λcdv A outer s H vs Q E hr h=>?_)
 . obtain⟨a,rfl,_⟩:=h
   rfl
 . obtain⟨a,rfl,q⟩:=h
   exact⟨_,qh (qu jy),q⟩
theorem R3:qr ["self"] ["self"] (ql W2):=⟨rfl,rfl,rfl,by decide+kernel,rfl,by decide+kernel,by decide+kernel⟩
theorem KL {f:Addr} {fd:FuncData} (F:jG K "is_endless" "Endless.is_endless" W2 f fd):qp P w K mg base qI 1 f fd ["self"] (km true):=by
 refine F.okJ R3 (λvs H Q E h=>?_) (λcdv A outer s H vs Q E hr h=>?_)
 . obtain⟨a,rfl,_⟩:=h
   rfl
 . obtain⟨a,rfl,q⟩:=h
   exact⟨_,qh (qu jy),q⟩
end
structure WF (K:PySem.W.Frag) (mg:Str->Option Value) where
 (CN CE fNI fEI fNO fEO fNP fEP fNE fEE fW fB fS fT fN fO:Addr)
 (dNI dEI dNO dEO dNP dEP dNE dEE dW dB dS dT dN dO:FuncData)
 ne:CN≠CE
 cN:Cl K mg "Numbered" "Numbered.__init__" "number" z9 CN fNI dNI
 cE:Cl K mg "Endless" "Endless.__init__" "bits" Yh CE fEI dEI
 nO:WI K CN "outcome" "Numbered.outcome" vg ["self"] fNO dNO
 eO:WI K CE "outcome" "Endless.outcome" vk ["self"] fEO dEO
 nP:WI K CN "plus" "Numbered.plus" Wa ["self","other"] fNP dNP
 eP:WI K CE "plus" "Endless.plus" Wd ["self","other"] fEP dEP
 nE:WI K CN "is_endless" "Numbered.is_endless" W0 ["self"] fNE dNE
 eE:WI K CE "is_endless" "Endless.is_endless" W2 ["self"] fEE dEE
 hW:qQ K mg "is_whole" sWhole ["thing"] fW dW
 hB:qQ K mg "is_number" Zw ["thing"] fB dB
 hS:qQ K mg "is_set" Yd ["thing"] fS dS
 hT:qQ K mg "set_turned" zJ ["bits","number"] fT dT
 hN:qQ K mg "numbers_in" z7 ["bits"] fN dN
 hO:qQ K mg "set_of" ZW ["numbers"] fO dO
section
variable {P:Program} {w:World} {K:PySem.W.Frag} {mg:Str->Option Value} {base:Heap}
def isE:W->Bool
 | .num _=>false
 | .edl _=>true
theorem WF.gNI (h:WF K mg) (B:Qe mg) (T:Wk K mg):qp P w K mg base qI 3 h.fNI h.dNI ["self","number"] (XX h.CN "number" 15):=xP h.cN.fn B T h.hW h.hB h.cN.cl h.cN.na
theorem WF.gEI (h:WF K mg) (B:Qe mg) (T:Wk K mg):qp P w K mg base qI 3 h.fEI h.dEI ["self","bits"] (XX h.CE "bits" 65535):=xY h.cE.fn B T h.hW h.hS h.cE.cl h.cE.na
theorem WF.gNE (h:WF K mg):qp P w K mg base qI 1 h.fNE h.dNE ["self"] (km false):=KD h.nE.fn
theorem WF.gEE (h:WF K mg):qp P w K mg base qI 1 h.fEE h.dEE ["self"] (km true):=KL h.eE.fn
theorem WF.gT (h:WF K mg) (B:Qe mg):qp P w K mg base qI 2 h.fT h.dT ["bits","number"] WU:=kN h.hT.fn B h.hN h.hO
theorem NC {f g:Str} {v:V} (h:(g==f)=false):[(f,v)].lookup g=none:=by simp [zbc,h]
theorem n1:((Str.ofString "is_endless")==(Str.ofString "number"))=false:=by decide+kernel
theorem n2:((Str.ofString "is_endless")==(Str.ofString "bits"))=false:=by decide+kernel
theorem n5:((Str.ofString "plus")==(Str.ofString "number"))=false:=by decide+kernel
theorem n6:((Str.ofString "plus")==(Str.ofString "bits"))=false:=by decide+kernel
theorem N7 {CN CE a:Addr} {H:Hp} {w:W} {Q:VK} (h:J4 CN CE H a w) (q:Q (.bl (isE w)) H):∃a' dx fs,V.ref a=.ref a'/\fs.lookup (Str.ofString "is_endless")=none/\((H a'=some (.ins CN dx fs)/\km false [V.ref a] H Q E0)\/(H a'=some (.ins CE dx fs)/\km true [V.ref a] H Q E0)):=by
 cases w with
 | num n=>obtain⟨dx,e⟩:=h;exact⟨a,dx,_,rfl,NC n1,.inl ⟨e,a,rfl,q⟩⟩
 | edl b=>obtain⟨dx,e⟩:=h;exact⟨a,dx,_,rfl,NC n2,.inr ⟨e,a,rfl,q⟩⟩
theorem wz {X:Cx} (h:WF X.K X.mg) (hr:qN 1 X.A) {o:Expr} {ta:TE} {apos pos:Pos} {pl:Sem Bool} (he:JE X o ta)
   (ht:eval (.Call (.Attribute o "is_endless" apos) [] [] pos) X.env=(eval o X.env >>= λov=>standAt apos.atName >>= λ_=>holding [ov] (getMethod ov "is_endless" pl) >>= λr=>callWith pos r.1 r.2 (backTo pos (starEach [] X.env)) (backToKw pos (keywordEach [] X.env))):=by rfl):
   JE X (.Call (.Attribute o "is_endless" apos) [] [] pos) (λσ H Q=>ta σ H λx H1=>∃a u,x=.ref a/\J4 h.CN h.CE H1 a u/\Q (.bl (isE u)) H1):=
 Wv (Xy (wu he) h.cN.cl h.nE.me h.gNE hr h.nE.bi h.cE.cl h.eE.me h.gEE hr h.eE.bi ht) λσ H Q q=>⟨_,q,λx H1 ⟨a,u,e,i,q1⟩=>by subst e;exact N7 i q1⟩
def UZ (CN CE:Addr):Sp:=λvs H Q _=>∃a o n v,vs=[.ref a,.ref o]/\J4 CN CE H a (.num n)/\J4 CN CE H o v/\n < 16/\YW v/\∀H' r,Same H H'->J4 CN CE H' r (ZA (.num n) v)->Q (.ref r) H'
def U0 (CN CE:Addr):Sp:=λvs H Q _=>∃a o b v,vs=[.ref a,.ref o]/\J4 CN CE H a (.edl b)/\J4 CN CE H o v/\b < 65536/\YW v/\∀H' r,Same H H'->J4 CN CE H' r (ZA (.edl b) v)->Q (.ref r) H'
theorem Wj {CN CE:Addr} {H:Hp} {x dx:Addr} {n:Nat} (hx:H x=none) (hd:H dx=none) (hne:dx≠x):Same H (upd (upd (upd H dx (.own x)) x (.ins CN dx [])) x (.ins CN dx [("number",.int (n:Nat))]))/\J4 CN CE (upd (upd (upd H dx (.own x)) x (.ins CN dx [])) x (.ins CN dx [("number",.int (n:Nat))])) x (.num n):=
 ⟨λb o hb=>by rw[qi (qz hb hx),qi (qz hb hx),qi (qz hb hd)];exact hb,dx,qe⟩
theorem Wm {CN CE:Addr} {H:Hp} {x dx:Addr} {b:Nat} (hx:H x=none) (hd:H dx=none) (hne:dx≠x):Same H (upd (upd (upd H dx (.own x)) x (.ins CE dx [])) x (.ins CE dx [("bits",.int (b:Nat))]))/\J4 CN CE (upd (upd (upd H dx (.own x)) x (.ins CE dx [])) x (.ins CE dx [("bits",.int (b:Nat))])) x (.edl b):=
 ⟨λb o hb=>by rw[qi (qz hb hx),qi (qz hb hx),qi (qz hb hd)];exact hb,dx,qe⟩
theorem u9:qr ["self","other"] ["self","other"] (ql Wd):=⟨rfl,rfl,rfl,by decide+kernel,rfl,by decide+kernel,by decide+kernel⟩
theorem WF.gEP (h:WF K mg) (B:Qe mg) (T:Wk K mg):qp P w K mg base qI 5 h.fEP h.dEP ["self","other"] (U0 h.CN h.CE):=by
 refine h.eP.fn.okJ u9 (λvs H Q E z=>?_) (λcdv A outer s H vs Q E hr z=>?_)
 . obtain⟨a,o,b,v,rfl,_⟩:=z
   rfl
 . obtain⟨a,o,b,v,rfl,ha,ho,hb,hv,q⟩:=z
   refine⟨_,qg (qK (qX (wz h (hr.mono (by decide)) (jv 1))) (qh (qu (QU h.cE.mkr (h.gEI B T) hr (by rfl) h.cE.ns h.cE.bi .nil QB (qd qm qf)))) qB)
     (qh (qu (QU h.cE.mkr (h.gEI B T) hr (by rfl) h.cE.ns h.cE.bi .nil QB (qd (qG h.hT (h.gT B) (hr.mono (by decide)) (by rfl) (qd (QO (jv 0) rfl) (qd (QO (jv 1) rfl) qf))) qf)))),?_⟩
   refine⟨_,rfl,o,v,rfl,ho,_,rfl,?_⟩
   cases v with
   | edl c=>
     refine jZ (λx dx hx hd hne=>⟨x,dx,0,rfl,by decide,by decide,qe,rfl,?_⟩)
     obtain⟨s1,i1⟩:=Wm (CN:=h.CN) (CE:=h.CE) (b:=0) hx hd hne
     exact q _ _ s1 i1
   | num n=>
     obtain⟨dx0,e0⟩:=id ha
     obtain⟨dx1,e1⟩:=id ho
     refine qV ⟨_,rfl,a,h.CE,dx0,_,_,rfl,e0,h.cE.cl,h.cE.na,Mx,_,rfl,o,h.CN,dx1,_,_,rfl,e1,h.cN.cl,h.cN.na,Mx,b,n,rfl,hb,hv,λH1 s1 x dx hx hd hne=>?_⟩
     have lt:=UN (k:=4) (b:=b) (tw _) hv
     refine⟨x,dx,_,rfl,by omega,?_,qe,rfl,?_⟩
     . have:turnN b n 16 < 65536:=lt
       omega
     . obtain⟨s2,i2⟩:=Wm (CN:=h.CN) (CE:=h.CE) (b:=turnN b n 16) hx hd hne
       exact q _ _ (s1.trans s2) i2
theorem uY:qr ["self","other"] ["self","other"] (ql Wa):=⟨rfl,rfl,rfl,by decide+kernel,rfl,by decide+kernel,by decide+kernel⟩
theorem WF.gNP (h:WF K mg) (B:Qe mg) (T:Wk K mg):qp P w K mg base qI 6 h.fNP h.dNP ["self","other"] (UZ h.CN h.CE):=by
 refine h.nP.fn.okJ uY (λvs H Q E z=>?_) (λcdv A outer s H vs Q E hr z=>?_)
 . obtain⟨a,o,b,v,rfl,_⟩:=z
   rfl
 . obtain⟨a,o,n,v,rfl,ha,ho,hn,hv,q⟩:=z
   refine⟨_,qg (qK (qX (wz h (hr.mono (by decide)) (jv 1))) (qh (qu (Xz h.eP h.cE.cl (h.gEP B T) hr (jv 1) (qd (jv 0) qf)))) qB)
     (qh (qu (QU h.cN.mkr (h.gNI B T) (hr.mono (by decide)) (by rfl) h.cN.ns h.cN.bi .nil QB (qd (qO V8 (QO (jv 0) rfl) (QO (jv 1) rfl)) qf)))),?_⟩
   refine⟨_,rfl,o,v,rfl,ho,_,rfl,?_⟩
   cases v with
   | edl c=>
     obtain⟨dx1,e1⟩:=id ho
     exact jZ ⟨_,rfl,o,dx1,_,rfl,e1,NC n6,_,rfl,o,a,c,.num n,rfl,ho,ha,hv,hn,λH' r s i=>q H' r s i⟩
   | num m=>
     obtain⟨dx0,e0⟩:=id ha
     obtain⟨dx1,e1⟩:=id ho
     refine qV ⟨_,rfl,a,h.CN,dx0,_,_,rfl,e0,h.cN.cl,h.cN.na,Mx,_,rfl,o,h.CN,dx1,_,_,rfl,e1,h.cN.cl,h.cN.na,Mx,_,_,rfl,rfl,λx dx hx hd hne=>?_⟩
     have lt:n^^^m < 16:=xor_lt (m:=4) hn hv
     refine⟨x,dx,((n^^^m:Nat):Int),by rw[<-bx];rfl,by omega,by omega,qe,rfl,?_⟩
     obtain⟨s2,i2⟩:=Wj (CN:=h.CN) (CE:=h.CE) (n:=n^^^m) hx hd hne
     exact q _ _ s2 i2
theorem Kq {CN CE a:Addr} {H:Hp} {u:W} {Q:VK} {t:TA} {σ:L2.St} (h:J4 CN CE H a u) (hu:YW u) (ht:t σ H λvs H2=>∃o v,vs=[.ref o]/\J4 CN CE H2 a u/\J4 CN CE H2 o v/\YW v/\∀H' r,Same H2 H'->J4 CN CE H' r (ZA u v)->Q (.ref r) H')
   (mono:∀R R':List V->Hp->Prop,(∀vs H,R vs H->R' vs H)->t σ H R->t σ H R'):
   ∃a' dx fs,V.ref a=.ref a'/\fs.lookup (Str.ofString "plus")=none/\((H a'=some (.ins CN dx fs)/\t σ H λvs H2=>UZ CN CE (V.ref a::vs) H2 Q E0)\/(H a'=some (.ins CE dx fs)/\t σ H λvs H2=>U0 CN CE (V.ref a::vs) H2 Q E0)):=by
 cases u with
 | num n=>
   obtain⟨dx,e⟩:=id h
   exact⟨a,dx,_,rfl,NC n5,.inl ⟨e,mono _ _ (λvs H2 ⟨o,v,e1,h1,h2,h3,h4⟩=>⟨a,o,n,v,by rw[e1],h1,h2,hu,h3,h4⟩) ht⟩⟩
 | edl b=>
   obtain⟨dx,e⟩:=id h
   exact⟨a,dx,_,rfl,NC n6,.inr ⟨e,mono _ _ (λvs H2 ⟨o,v,e1,h1,h2,h3,h4⟩=>⟨a,o,b,v,by rw[e1],h1,h2,hu,h3,h4⟩) ht⟩⟩
theorem K5 {X:Cx} (h:WF X.K X.mg) (B:Qe X.mg) (T:Wk X.K X.mg) (hr:qN 6 X.A) {o e:Expr} {ta:TE} {t:TA} {apos pos:Pos} {pl:Sem Bool} (he:JE X o ta) (ha:JA X [e] t) (hst:starEach [e] X.env=(false,eval e X.env)::starEach [] X.env:=by rfl)
   (ht:eval (.Call (.Attribute o "plus" apos) [e] [] pos) X.env=(eval o X.env >>= λov=>standAt apos.atName >>= λ_=>holding [ov] (getMethod ov "plus" pl) >>= λr=>callWith pos r.1 r.2 (backTo pos (starEach [e] X.env)) (backToKw pos (keywordEach [] X.env))):=by rfl):
   JE X (.Call (.Attribute o "plus" apos) [e] [] pos) (λσ H Q=>ta σ H λx H1=>∃a u,x=.ref a/\J4 h.CN h.CE H1 a u/\YW u/\t σ H1 λvs H2=>∃o v,vs=[.ref o]/\J4 h.CN h.CE H2 a u/\J4 h.CN h.CE H2 o v/\YW v/\∀H' r,Same H2 H'->J4 h.CN h.CE H' r (ZA u v)->Q (.ref r) H'):=
 Wv (ww (wu he) h.cN.cl h.nP.me (h.gNP B T) hr h.nP.bi h.cE.cl h.eP.me (h.gEP B T) (hr.mono (by decide)) h.eP.bi (qaF ha) hst rfl ht) λσ H Q q=>⟨_,q,λx H1 ⟨a,u,e,i,hu,q1⟩=>by
   subst e
   exact Kq (t:=aWk t) i hu ⟨_,q1,λvs H2 z=>z⟩ λR R' k ⟨G,g,z⟩=>⟨G,g,λvs H2 y=>k vs H2 (z vs H2 y)⟩⟩
def Wl (CN CE:Addr) (H:Hp) (as:List Addr) (ws:List W):Prop:=as.length=ws.length/\∀(i:Nat) (a:Addr) (u:W),as[i]?=some a->ws[i]?=some u->J4 CN CE H a u
def UX (K:PySem.W.Frag) (CN CE:Addr):Sp:=λvs H Q _=>∃(l:Addr) (as:List Addr) (ws:List W),vs=[.ref l]/\SqL K H l (as.map V.ref)/\Wl CN CE H as ws/\(∀u∈ws,YW u)/\∀H' r,Same H H'->J4 CN CE H' r (ZR ws)->Q (.ref r) H'
theorem zH:qr ["worths","total","worth"] ["worths"] (ql zZ):=⟨rfl,rfl,rfl,by decide+kernel,rfl,by decide+kernel,by decide+kernel⟩
theorem WA {ws:List W} (h:∀u∈ws,YW u) (i:Nat):YW ((ws.take i).foldl ZA (.num 0)):=by
 have h':∀u∈ws.take i,YW u:=λu hu=>h u (zbn hu)
 rw[Vr h']
 exact yG h'
theorem xL {f:Addr} {fd:FuncData} (F:jG K "sum_of" "sum_of" zZ f fd) (h:WF K mg) (B:Qe mg) (T:Wk K mg):qp P w K mg base qI 7 f fd ["worths"] (UX K h.CN h.CE):=by
 refine F.okJ zH (λvs H Q E z=>?_) (λcdv A outer s H vs Q E hr z=>?_)
 . obtain⟨l,as,ws,rfl,_⟩:=z
   rfl
 . obtain⟨l,as,ws,rfl,hS,hW,hok,q⟩:=z
   refine⟨_,qg (qw (i:=1) zH.nd rfl (Or.inl rfl) (QU h.cN.mkr (h.gNI B T) (hr.mono (by decide)) (by rfl) h.cN.ns h.cN.bi .nil QB (qd qm qf)))
     (qg (ja PassesOwn.never rfl (qJ (jv 0)) (qv (i:=2) zH.nd rfl (Or.inl rfl)) (qh (qw (i:=1) zH.nd rfl (Or.inl rfl) (K5 h B T hr (jv 1) (qd (jv 2) qf)))))
     (qh (qu (jv 1)))),?_⟩
   intro x dx hx hd hne
   refine⟨x,dx,0,rfl,by decide,by decide,qe,rfl,?_⟩
   obtain⟨s1,i1⟩:=Wj (CN:=h.CN) (CE:=h.CE) (n:=0) hx hd hne
   refine⟨_,rfl,l,rfl,⟨_,s1.seq hS⟩,?_⟩
   refine js (K:=K) (a:=l) (xs:=as.map V.ref) (λi σ H'=>∃r v,σ=[some (.ref l),some (.ref r),v]/\Same H H'/\J4 h.CN h.CE H' r ((ws.take i).foldl ZA (.num 0))) ⟨x,none,rfl,s1,i1⟩ (λi σ H' _ ⟨_,_,_,e,_⟩=>e.seq hS) ?_ ?_
   . rintro i y σ H' hy ⟨r,v,rfl,s2,i2⟩
     rw[tH]at hy
     cases ea:as[i]? with
     | none=>rw[ea]at hy;cases hy
     | some o=>
       rw[ea]at hy
       obtain rfl:=(tO.inj hy).symm
       have hi:i < ws.length:=by
         have:=(tq.mp ea).1
         rw[hW.1]at this
         exact this
       have ew:ws[i]?=some ws[i]:=tu hi
       have io:=(hW.2 i o _ ea ew).same s2
       have et:ws.take (i+1)=ws.take i++[ws[i]]:=by rw[tM,ew];rfl
       refine⟨_,rfl,r,_,rfl,i2,WA hok i,_,rfl,o,_,rfl,i2,io,hok _ (zbA hi),λH3 r3 s3 i3=>?_⟩
       refine⟨r3,_,rfl,s2.trans s3,?_⟩
       rw[et,zch]
       exact i3
   . rintro σ H' ⟨r,v,rfl,s2,i2⟩
     refine⟨_,rfl,q _ _ s2 ?_⟩
     rw[tj,hW.1,tF (tw _),Vr hok]at i2
     exact i2
def kL:W->Str
 | .num n=>if n=0 then "lost" else "won"
 | .edl b=>if b.testBit 0=true then "won" else "drawn"
def yX (CN CE:Addr):Sp:=λvs H Q _=>∃a n,vs=[.ref a]/\J4 CN CE H a (.num n)/\Q (.str (kL (.num n))) H
def yY (CN CE:Addr):Sp:=λvs H Q _=>∃a b,vs=[.ref a]/\J4 CN CE H a (.edl b)/\b < 65536/\∀H',Same H H'->Q (.str (kL (.edl b))) H'
theorem RY:qr ["self"] ["self"] (ql vg):=⟨rfl,rfl,rfl,by decide+kernel,rfl,by decide+kernel,by decide+kernel⟩
theorem R0:qr ["self"] ["self"] (ql vk):=⟨rfl,rfl,rfl,by decide+kernel,rfl,by decide+kernel,by decide+kernel⟩
theorem WF.gNO (h:WF K mg):qp P w K mg base qI 1 h.fNO h.dNO ["self"] (yX h.CN h.CE):=by
 refine h.nO.fn.okJ RY (λvs H Q E z=>?_) (λcdv A outer s H vs Q E hr z=>?_)
 . obtain⟨a,n,rfl,_⟩:=z
   rfl
 . obtain⟨a,n,rfl,⟨dx,e⟩,q⟩:=z
   refine⟨_,qg (qK (qt Qn (QO (jv 0) rfl) qm (qA _)) (qh (qu jr)) qB) (qh (qu jr)),?_⟩
   refine⟨_,rfl,a,h.CN,dx,_,_,rfl,e,h.cN.cl,h.cN.na,Mx,rfl,_,rfl,?_⟩
   have q:Q (.str (if n=0 then "lost" else "won")) H:=q
   by_cases c:n=0
   . subst c
     rw[if_pos rfl]at q
     exact jR (by decide) q
   . rw[if_neg c]at q
     exact jD (decide_eq_false λz=>c (by have:=V.int.inj z;omega)) q
theorem WF.gEO (h:WF K mg) (B:Qe mg):qp P w K mg base qI 2 h.fEO h.dEO ["self"] (yY h.CN h.CE):=by
 have GN:qp P w K mg base qI 1 h.fN h.dN ["bits"] XV:=Va h.hN.fn B
 refine h.eO.fn.okJ R0 (λvs H Q E z=>?_) (λcdv A outer s H vs Q E hr z=>?_)
 . obtain⟨a,b,rfl,_⟩:=z
   rfl
 . obtain⟨a,b,rfl,⟨dx,e⟩,hb,q⟩:=z
   refine⟨_,qg (qK (qt JR qm (qG h.hN GN hr (by rfl) (qd (QO (jv 0) rfl) qf)) (by with_unfolding_all rfl)) (qh (qu jr)) qB) (qh (qu jr)),?_⟩
   refine⟨_,rfl,a,h.CE,dx,_,_,rfl,e,h.cE.cl,h.cE.na,Mx,b,rfl,hb,λl hl=>?_⟩
   refine⟨l,_,rfl,.inl (.of qe),rfl,Vn _,_,rfl,?_⟩
   have e0:Jd (.int ((0:Nat):Int)) (Q0 (memN b 16))=b.testBit 0:=by
     rw[wI]
     unfold memN
     rw[zaS,decide_eq_true_iff,tY]
     exact⟨λh=>h.2,λh=>⟨by decide,h⟩⟩
   have q:=q _ (qk (o:=HO.lst (Q0 (memN b 16))) hl)
   have q:Q (.str (if b.testBit 0=true then "won" else "drawn")) (upd H l (HO.lst (Q0 (memN b 16)))):=q
   show if Jd (.int ((0:Nat):Int)) (Q0 (memN b 16))=true then _ else _
   rw[e0]
   cases c:b.testBit 0 with
   | true=>rw[if_pos c]at q;exact jZ q
   | false=>rw[if_neg (by rw[c];exact tK)]at q;exact qV q
theorem n7:((Str.ofString "outcome")==(Str.ofString "number"))=false:=by decide+kernel
theorem n8:((Str.ofString "outcome")==(Str.ofString "bits"))=false:=by decide+kernel
theorem Kt {CN CE a:Addr} {H:Hp} {w:W} {Q:VK} (h:J4 CN CE H a w) (ok:YW w) (q:∀H',Same H H'->Q (.str (kL w)) H'):
   ∃a' dx fs,V.ref a=.ref a'/\fs.lookup (Str.ofString "outcome")=none/\((H a'=some (.ins CN dx fs)/\yX CN CE [V.ref a] H Q E0)\/(H a'=some (.ins CE dx fs)/\yY CN CE [V.ref a] H Q E0)):=by
 cases w with
 | num n=>obtain⟨dx,e⟩:=id h;exact⟨a,dx,_,rfl,NC n7,.inl ⟨e,a,n,rfl,h,q H λ_ _ z=>z⟩⟩
 | edl b=>obtain⟨dx,e⟩:=id h;exact⟨a,dx,_,rfl,NC n8,.inr ⟨e,a,b,rfl,h,ok,q⟩⟩
theorem K6 {X:Cx} (h:WF X.K X.mg) (B:Qe X.mg) (hr:qN 2 X.A) {o:Expr} {ta:TE} {apos pos:Pos} {pl:Sem Bool} (he:JE X o ta)
   (ht:eval (.Call (.Attribute o "outcome" apos) [] [] pos) X.env=(eval o X.env >>= λov=>standAt apos.atName >>= λ_=>holding [ov] (getMethod ov "outcome" pl) >>= λr=>callWith pos r.1 r.2 (backTo pos (starEach [] X.env)) (backToKw pos (keywordEach [] X.env))):=by rfl):
   JE X (.Call (.Attribute o "outcome" apos) [] [] pos) (λσ H Q=>ta σ H λx H1=>∃a u,x=.ref a/\J4 h.CN h.CE H1 a u/\YW u/\∀H',Same H1 H'->Q (.str (kL u)) H'):=
 Wv (Xy (wu he) h.cN.cl h.nO.me h.gNO (hr.mono (by decide)) h.nO.bi h.cE.cl h.eO.me (h.gEO B) hr h.eO.bi ht) λσ H Q q=>⟨_,q,λx H1 ⟨a,u,e,i,k,q1⟩=>by subst e;exact Kt i k q1⟩
end
open PySem L2 PyProof.Rows MLab Rb
abbrev Zb:Stmt:=top 38
abbrev Z0:Stmt:=top 41
abbrev M7:Stmt:=top 63
abbrev Kb:Stmt:=top 65
abbrev sHW:Stmt:=top 66
abbrev Xl:Stmt:=top 67
structure QA (H:Hp) (h:Addr) (rs:qR) (hs:List Str):Prop where
 at_:H h=some (.lst (hs.map V.str))
 le:hs.length<=8
 in_:∀z∈hs,∃r∈rs,r.1=z
theorem QA.mono {H H':Hp} {h:Addr} {rs:qR} {hs:List Str} (x:QA H h rs hs) (s:Same H H'):QA H' h rs hs:=⟨s _ _ x.at_,x.le,x.in_⟩
def U1 (CG:Addr):Sp:=λvs H Q _=>∃(g:Addr) (rs:qR) (z:Str),vs=[.ref g,.str z]/\jB CG H g rs/\(∃r∈rs,r.1=z)/\∀H',Same H H'->Q .non H'
def zF (CG:Addr):Sp:=λvs H Q _=>∃(g h:Addr) (rs:qR) (hs:List Str),vs=[.ref g,.ref h]/\jB CG H g rs/\QA H h rs hs/\∀H',Same H H'->Q .non H'
section
variable {P:Program} {w:World} {K:PySem.W.Frag} {mg:Str->Option Value} {base:Heap}
abbrev Rw:List Str:=["ground","thing"]
theorem qbt:qr Rw Rw (ql Zb):=⟨rfl,rfl,rfl,by decide+kernel,rfl,by decide+kernel,by decide+kernel⟩
theorem xO {f CG:Addr} {fd:FuncData} (F:jG K "need_place" "need_place" Zb f fd) (G:jF mg) (M:GM K mg CG):qp P w K mg base qI 2 f fd Rw (U1 CG):=by
 obtain⟨fC,fdC,C⟩:=M.cls
 obtain⟨fN,fdN,hN⟩:=M.nm
 have GN:qp P w K mg base qI 1 fN fdN ["self"] (Q4 CG):=Q9 hN.fn C G
 refine F.okJ qbt (λvs H Q E h=>?_) (λcdv A outer s H vs Q E hr h=>?_)
 . obtain⟨g,rs,z,rfl,_⟩:=h
   rfl
 . obtain⟨g,rs,z,rfl,gr,hz,q⟩:=h
   refine⟨_,qh (qK (qt jI (jv 1) (Vk hN C.cl GN hr (jv 0)) (by with_unfolding_all rfl)) qZ qB),?_⟩
   obtain⟨dx,fs,hg,l1,l2⟩:=gr.ins
   refine⟨_,rfl,_,rfl,g,dx,fs,rfl,hg,l1,g,rs,rfl,gr,λl hl=>⟨l,_,rfl,.inl (.of qe),rfl,Qd _,_,rfl,?_⟩⟩
   have e:Jd (.str z) ((rs.map (·.1)).map V.str)=true:=Ww (by obtain⟨r,hr',rfl⟩:=hz;exact tG.mpr ⟨r,hr',rfl⟩)
   show if (!Jd (.str z) ((rs.map (·.1)).map V.str))=true then _ else _
   rw[e]
   exact qV (q _ (qk hl))
abbrev nNH:List Str:=["ground","heap","thing"]
theorem MX:qr nNH ["ground","heap"] (ql Z0):=⟨rfl,rfl,rfl,by decide+kernel,rfl,by decide+kernel,by decide+kernel⟩
theorem Yr {f fP CG:Addr} {fd fdP:FuncData} (F:jG K "need_heap" "need_heap" Z0 f fd) (B:Qe mg) (G:jF mg) (T:jP K mg) (M:GM K mg CG) (hP:qQ K mg "need_place" Zb Rw fP fdP) (mt:∃t,mg "MOST_TOKENS"=some (.int 8 t)):qp P w K mg base qI 3 f fd ["ground","heap"] (zF CG):=by
 have GP:qp P w K mg base qI 2 fP fdP Rw (U1 CG):=xO hP.fn G M
 obtain⟨tk,hmt⟩:=mt
 refine F.okJ MX (λvs H Q E h=>?_) (λcdv A outer s H vs Q E hr h=>?_)
 . obtain⟨g,h',rs,hs,rfl,_⟩:=h
   rfl
 . obtain⟨g,h',rs,hs,rfl,gr,hh,q⟩:=h
   refine⟨_,qg (qK (ju (qX (qx qP (by rfl) T.isi boot_isinstance (qd (jv 1) (qd (jL (v:=.ty "list") (by rfl) G.lst boot_list rfl) qf))))) qZ qB)
     (qg (qK (qt zm (qx qD (by rfl) B.len boot_len (qd (jv 1) qf)) (QF (v:=.int 8) (by rfl) hmt ⟨_,rfl⟩) (qA _)) qZ qB)
     (qh (ja PassesOwn.never rfl (qJ (jv 1)) (qv (i:=2) MX.nd rfl (Or.inl rfl)) (qh (je (qG hP GP hr (by rfl) (qd (jv 0) (qd (jv 2) qf)))))))),?_⟩
   refine⟨_,rfl,_,_,_,_,rfl,rfl,.lst hh.at_,T.kll,_,rfl,qV ?_⟩
   refine⟨_,rfl,h',_,rfl,.inl (.of hh.at_),_,_,rfl,rfl,_,rfl,jD (decide_eq_false ?_) ?_⟩
   . have:=hh.le
     rw[tj]
     omega
   refine⟨_,rfl,h',rfl,⟨_,.of hh.at_⟩,?_⟩
   refine js (K:=K) (a:=h') (xs:=hs.map V.str) (λi σ' G=>∃v,σ'=[some (.ref g),some (.ref h'),v]/\Same H G) ⟨_,rfl,Same.refl H⟩ (λi σ' G _ ⟨_,_,s⟩=>.of (s _ _ hh.at_)) ?_ ?_
   . rintro i y σ' G hy ⟨v,rfl,sG⟩
     obtain⟨z,ez,hz,rfl⟩:=jo hy
     exact⟨_,rfl,_,rfl,g,rs,z,rfl,gr.mono sG,hh.in_ z hz,λH' s'=>⟨_,rfl,sG.trans s'⟩⟩
   . rintro σ' G ⟨v,rfl,sG⟩
     exact q G sG
end
def wT (rs:qR) (R:Rs Str) (z:Str):W:=match jm R z with
 | some n=>.num n
 | none=>.edl (setN (Xr rs (jm R) z))
theorem VH {rs:qR} {R:Rs Str} {z:Str} {n:Nat} (e:jm R z=some n):wT rs R z=.num n:=by unfold wT;rw[e]
theorem yB {rs:qR} {R:Rs Str} {z:Str} (e:jm R z=none):wT rs R z=.edl (setN (Xr rs (jm R) z)):=by unfold wT;rw[e]
theorem GJ {rs:qR} (good:qy rs) {R:Rs Str} (L:Lab (jz rs) (·∈rs.map (·.1)) (jm R) (Zc R)) {z:Str} (hz:z∈rs.map (·.1)):YW (wT rs R z):=by
 cases e:jm R z with
 | some n=>
   rw[VH e]
   have:=Ub good L hz e
   show n < 16
   omega
 | none=>
   rw[yB e]
   show setN _ < 65536
   refine vd (m:=16) λx hx=>?_
   obtain⟨y,hy,ey⟩:=QQ.mp hx
   have:=Ub good L (L.cl hz hy) ey
   omega
def RP (CN CE:Addr):Sp:=λvs H Q _=>∃(t:Addr) (rs:qR) (R:Rs Str) (z:Str),vs=[.ref t]/\H t=some (.tup (Zh rs R z))/\YW (wT rs R z)/\∀a H',Same H H'->J4 CN CE H' a (wT rs R z)->Q (.ref a) H'
def GZ (CN CE:Addr):Sp:=λvs H Q _=>∃(D h:Addr) (rs:qR) (R:Rs Str) (hs:List Str),vs=[.ref D,.ref h]/\YU H D rs R/\QA H h rs hs/\(∀z∈hs,YW (wT rs R z))/\∀a H',Same H H'->J4 CN CE H' a (ZR (hs.map (wT rs R)))->Q (.ref a) H'
def MS (CG CN CE:Addr):Sp:=λvs H Q _=>∃(g h:Addr) (rs:qR) (hs:List Str),vs=[.ref g,.ref h]/\jB CG H g rs/\qy rs/\rs.length<=14/\QA H h rs hs/\
 ∀a H' R,Same H H'->All (jz rs) (rs.map (·.1)) 0 [] R->J4 CN CE H' a (ZR (hs.map (wT rs R)))->Q (.ref a) H'
section
variable {P:Program} {w:World} {K:PySem.W.Frag} {mg:Str->Option Value} {base:Heap}
theorem qbw:qr ["label"] ["label"] (ql M7):=⟨rfl,rfl,rfl,by decide+kernel,rfl,by decide+kernel,by decide+kernel⟩
theorem qap {f:Addr} {fd:FuncData} (F:jG K "label_worth" "label_worth" M7 f fd) (h:WF K mg) (B:Qe mg) (T:Wk K mg):qp P w K mg base qI 5 f fd ["label"] (RP h.CN h.CE):=by
 refine F.okJ qbw (λvs H Q E z=>?_) (λcdv A outer s H vs Q E hr z=>?_)
 . obtain⟨t,rs,R,z,rfl,_⟩:=z
   rfl
 . obtain⟨t,rs,R,z,rfl,ht,ok,q⟩:=z
   refine⟨_,qg (qK (qt Qn (jx j4 (jv 0) qm (λ_ _=>rfl)) jr (qA _)) (qh (qu (QU h.cN.mkr (h.gNI B T) hr (by rfl) h.cN.ns h.cN.bi .nil QB (qd (jx j4 (jv 0) qm (λ_ _=>rfl)) qf)))) qB)
     (qh (qu (QU h.cE.mkr (h.gEI B T) hr (by rfl) h.cE.ns h.cE.bi .nil QB (qd (jx j4 (jv 0) qm (λ_ _=>rfl)) qf)))),?_⟩
   cases e:jm R z with
   | some n=>
     rw[VH e]at ok q
     have el:Zh rs R z=[.str "number",.int (n:Nat),.int (Zc R z:Nat)]:=by unfold Zh;rw[e]
     rw[el]at ht
     refine⟨_,rfl,t,_,0,_,rfl,rfl,.of ht,rfl,rfl,_,rfl,jR (by decide+kernel) ?_⟩
     refine⟨_,rfl,t,_,1,_,rfl,rfl,.of ht,rfl,λx dx hx hd hne=>⟨x,dx,_,rfl,by omega,?_,qe,rfl,?_⟩⟩
     . have:n < 16:=ok
       omega
     . obtain⟨s1,i1⟩:=Wj (CN:=h.CN) (CE:=h.CE) (n:=n) hx hd hne
       exact q _ _ s1 i1
   | none=>
     rw[yB e]at ok q
     have el:Zh rs R z=[.str "endless",.int (setN (Xr rs (jm R) z):Nat)]:=by unfold Zh;rw[e]
     rw[el]at ht
     refine⟨_,rfl,t,_,0,_,rfl,rfl,.of ht,rfl,rfl,_,rfl,jD (by decide+kernel) ?_⟩
     refine⟨_,rfl,t,_,1,_,rfl,rfl,.of ht,rfl,λx dx hx hd hne=>⟨x,dx,_,rfl,by omega,?_,qe,rfl,?_⟩⟩
     . have:setN (Xr rs (jm R) z) < 65536:=ok
       omega
     . obtain⟨s1,i1⟩:=Wm (CN:=h.CN) (CE:=h.CE) (b:=setN (Xr rs (jm R) z)) hx hd hne
       exact q _ _ s1 i1
theorem MV:qr ["labels","heap"] ["labels","heap"] (ql Kb):=⟨rfl,rfl,rfl,by decide+kernel,rfl,by decide+kernel,by decide+kernel⟩
theorem Nv {f fL fS:Addr} {fd fdL fdS:FuncData} (F:jG K "worth_by" "worth_by" Kb f fd) (h:WF K mg) (B:Qe mg) (T:Wk K mg) (hL:qQ K mg "label_worth" M7 ["label"] fL fdL) (hS:qQ K mg "sum_of" zZ ["worths"] fS fdS):qp P w K mg base qI 8 f fd ["labels","heap"] (GZ h.CN h.CE):=by
 have GL:qp P w K mg base qI 5 fL fdL ["label"] (RP h.CN h.CE):=qap hL.fn h B T
 have GS:qp P w K mg base qI 7 fS fdS ["worths"] (UX K h.CN h.CE):=xL hS.fn h B T
 refine F.okJ MV (λvs H Q E z=>?_) (λcdv A outer s H vs Q E hr z=>?_)
 . obtain⟨D,h',rs,R,hs,rfl,_⟩:=z
   rfl
 . obtain⟨D,h',rs,R,hs,rfl,lb,hh,ok,q⟩:=z
   have hu:=jS hr
   have r4:qN 5 _:=hr.mono (by decide)
   refine⟨_,qh (qu (qG hS GS hr (by rfl) (qd (jX (N':=["place","labels"]) (ix:=[none,some 0]) (te:=Xh (RP h.CN h.CE) [] E0 (jA (Xg (qW 1) (qW 0)) QD)) rfl ⟨rfl,rfl,rfl,rfl,rfl⟩ (qJ (jv 1)) (λC s2 H2 fp pins=>
       ⟨qv (i:=0) (show (["place","labels"]:List Str).Nodup by decide+kernel) rfl (Or.inl rfl),jK,qG hL GL r4 (by rfl) (qd (jk hu (jv 1) (jv 0) (λ_ _=>rfl)) qf)⟩)) qf))),?_⟩
   refine⟨_,rfl,h',rfl,⟨_,.of hh.at_⟩,λW hW=>?_⟩
   refine jw (K:=K) (a:=h') (xs:=hs.map V.str) (λj σ'' G=>∃(v0:Option V) (as:List Addr),σ''=[v0,some (.ref D)]/\Same H G/\G W=some (.lst (as.map V.ref))/\Wl h.CN h.CE G as ((hs.take j).map (wT rs R)))
     ⟨none,[],rfl,qk hW,qe,rfl,λi a u e=>(nomatch e)⟩ (λj σ'' G _ ⟨_,_,_,s,_⟩=>.of (s _ _ hh.at_)) ?_ ?_
   . rintro j y σ'' G hy ⟨v0,as,rfl,sG,hG,wl⟩
     obtain⟨z,ez,hz,rfl⟩:=jo hy
     obtain⟨kvs,hD,_,hv⟩:=(lb.mono sG).at_
     obtain⟨r,hr',er⟩:=hh.in_ z hz
     obtain⟨t,et,ht⟩:=hv r hr'
     rw[er]at et ht
     refine⟨_,rfl,_,rfl,D,_,rfl,by rw[<-et];exact jU.k (k:=(Sum.inr z:qF)) hD,t,rs,R,z,rfl,ht,ok z hz,λa G1 s1 ia=>?_⟩
     have l8:=hh.le
     have lw:=wl.1
     rw[tj,tJ]at lw
     have nW:H W=none:=hW
     refine⟨_,s1 _ _ hG,by rw[tj];exact qo (by omega),_,as++[a],rfl,Same.upd (sG.trans s1) hW,by rw[tE];exact qe,?_⟩
     have up:∀{b:Addr} {u:Rb.W},J4 h.CN h.CE G1 b u->J4 h.CN h.CE (upd G1 W (.lst (as.map V.ref++[V.ref a]))) b u:=λ{b u} hb=>by
       have hW1:=s1 _ _ hG
       cases u with
       | num n=>obtain⟨dx,e⟩:=hb;exact⟨dx,by rw[qi (λq=>by rw[q,hW1]at e;cases e)];exact e⟩
       | edl n=>obtain⟨dx,e⟩:=hb;exact⟨dx,by rw[qi (λq=>by rw[q,hW1]at e;cases e)];exact e⟩
     rw[tM,ez,tE]
     refine⟨by rw[tL,tL,wl.1];rfl,λi b u e1 e2=>?_⟩
     rcases JN e1 with ⟨i1,e1⟩ | ⟨i1,rfl⟩
     . rcases JN (show (zdJ (wT rs R) (hs.take j)++[wT rs R z])[i]?=some u from e2) with ⟨_,e2⟩ | ⟨i2,_⟩
       . exact up ((wl.2 i b u e1 e2).same s1)
       . have:=wl.1;omega
     . rcases JN (show (zdJ (wT rs R) (hs.take j)++[wT rs R z])[i]?=some u from e2) with ⟨i2,_⟩ | ⟨_,rfl⟩
       . have:=wl.1;omega
       . exact up ia
   . rintro σ'' G ⟨v0,as,rfl,sG,hG,wl⟩
     rw[tj,tF (tw _)]at wl
     refine⟨W,as,_,rfl,.of hG,wl,λu hu=>?_,λH' r s' i'=>q r H' (sG.trans s') i'⟩
     obtain⟨z,hz,rfl⟩:=tG.mp hu
     exact ok z hz
structure uk (K:PySem.W.Frag) (mg:Str->Option Value):Prop where
 place:∃f fd,qQ K mg "need_place" Zb Rw f fd
 heap:∃f fd,qQ K mg "need_heap" Z0 ["ground","heap"] f fd
 lw:∃f fd,qQ K mg "label_worth" M7 ["label"] f fd
 sum:∃f fd,qQ K mg "sum_of" zZ ["worths"] f fd
 wby:∃f fd,qQ K mg "worth_by" Kb ["labels","heap"] f fd
 hw:∃f fd,qQ K mg "heap_worth" sHW ["ground","heap"] f fd
 outc:∃f fd,qQ K mg "outcome" Xl ["ground","heap"] f fd
 most:∃t,mg "MOST_TOKENS"=some (.int 8 t)
theorem qbz:qr ["ground","heap"] ["ground","heap"] (ql sHW):=⟨rfl,rfl,rfl,by decide+kernel,rfl,by decide+kernel,by decide+kernel⟩
theorem qar {f CG:Addr} {fd:FuncData} (F:jG K "heap_worth" "heap_worth" sHW f fd) (h:WF K mg) (B:Qe mg) (Z:Wk K mg) (G:jF mg) (T:jP K mg) (M:GM K mg CG) (Y:UF K mg) (O:uk K mg):qp P w K mg base qI 9 f fd ["ground","heap"] (MS CG h.CN h.CE):=by
 obtain⟨fP,fdP,hP⟩:=O.place
 obtain⟨fH,fdH,hH⟩:=O.heap
 obtain⟨fL,fdL,hL⟩:=O.lw
 obtain⟨fS,fdS,hS⟩:=O.sum
 obtain⟨fW,fdW,hW⟩:=O.wby
 obtain⟨fB,fdB,hB⟩:=Y.labels
 have GH:qp P w K mg base qI 3 fH fdH ["ground","heap"] (zF CG):=Yr hH.fn B G T M hP O.most
 have GW:qp P w K mg base qI 8 fW fdW ["labels","heap"] (GZ h.CN h.CE):=Nv hW.fn h B Z hL hS
 have GB:qp P w K mg base qI 8 fB fdB ["ground"] (zU CG):=Xq hB.fn B G T M Y
 refine F.okJ qbz (λvs H Q E z=>?_) (λcdv A outer s H vs Q E hr z=>?_)
 . obtain⟨g,h',rs,hs,rfl,_⟩:=z
   rfl
 . obtain⟨g,h',rs,hs,rfl,gr,good,le,hh,q⟩:=z
   refine⟨_,qg (je (qG hH GH (hr.mono (by decide)) (by rfl) (qd (jv 0) (qd (jv 1) qf))))
     (qh (qu (qG hW GW hr (by rfl) (qd (qG hB GB hr (by rfl) (qd (jv 0) qf)) (qd (jv 1) qf))))),?_⟩
   refine⟨_,rfl,_,rfl,g,h',rs,hs,rfl,gr,hh,λH1 s1=>?_⟩
   refine⟨_,rfl,g,rs,rfl,gr.mono s1,good,le,λH2 D R s2 hD lb all=>?_⟩
   have L:=wg (Q1 good.nd) all
   refine⟨_,rfl,D,h',rs,R,hs,rfl,lb,(hh.mono s1).mono s2,λz hz=>?_,λa H3 s3 i3=>q a H3 R (s1.trans (s2.trans s3)) all i3⟩
   obtain⟨r,hr',e⟩:=hh.in_ z hz
   exact GJ good L (tG.mpr ⟨r,hr',e⟩)
theorem RW:qr ["ground","heap"] ["ground","heap"] (ql Xl):=⟨rfl,rfl,rfl,by decide+kernel,rfl,by decide+kernel,by decide+kernel⟩
end
open PySem L2 PyProof.Rows MLab Rb
abbrev Q6:Stmt:=top 42
abbrev vh:Stmt:=top 45
abbrev Yc:Stmt:=top 75
def mvT (rs:qR) (j:Nat) (z:Str):List (Nat×Str):=(jz rs z).map λe=>(j,e)
def mvs (rs:qR) (hs:List Str) (n:Nat):List (Nat×Str):=(zae n).flatMap λj=>mvT rs j (Za hs j)
theorem Vd (rs:qR) (hs:List Str) (n:Nat):mvs rs hs (n+1)=mvs rs hs n++mvT rs n (Za hs n):=by
 unfold mvs
 rw[zcs,List.flatMap_append]
 simp
def Rx (m:Nat×Str):List V:=[.int (m.1:Int),.str m.2]
def Qu (H:Hp) (ps:List Addr) (ms:List (Nat×Str)):Prop:=ps.length=ms.length/\∀(i:Nat) (p:Addr) (m:Nat×Str),ps[i]?=some p->ms[i]?=some m->H p=some (.tup (Rx m))
theorem Qu.mono {H H':Hp} {ps:List Addr} {ms:List (Nat×Str)} (h:Qu H ps ms) (s:Same H H'):Qu H' ps ms:=⟨h.1,λi p m e1 e2=>s _ _ (h.2 i p m e1 e2)⟩
theorem Qu.nil (H:Hp):Qu H [] []:=⟨rfl,λi p m e=>by simp at e⟩
theorem Qu.app {H:Hp} {ps qs:List Addr} {ms ns:List (Nat×Str)} (h:Qu H ps ms) (k:Qu H qs ns):Qu H (ps++qs) (ms++ns):=by
 refine⟨by rw[tL,tL,h.1,k.1],λi p m e1 e2=>?_⟩
 by_cases hi:i < ps.length
 . rw[t8 hi]at e1
   rw[t8 (by rw[<-h.1];exact hi)]at e2
   exact h.2 i p m e1 e2
 . have hi':ps.length<=i:=Nat.le_of_not_lt hi
   rw[zab hi']at e1
   rw[zab (by rw[<-h.1];exact hi'),<-h.1]at e2
   exact k.2 _ p m e1 e2
theorem Qu.one {H:Hp} {p:Addr} {m:Nat×Str} (h:H p=some (.tup (Rx m))):Qu H [p] [m]:=by
 refine⟨rfl,λi p' m' e1 e2=>?_⟩
 cases i with
 | zero=>cases e1;cases e2;exact h
 | succ i=>simp at e1
theorem Wn {rs:qR} {hs:List Str} (g:qy rs) (le:rs.length<=14) (hi:∀z∈hs,∃r∈rs,r.1=z):∀n,n<=hs.length->(mvs rs hs n).length<=n*14
 | 0,_=>tw _
 | n+1,h=>by
   rw[Vd,tL]
   have h1:=Wn g le hi n (zak h)
   obtain⟨r,hr,e⟩:=hi _ (XS h)
   have h2:=Wz (rs:=rs) (Za hs n)
   unfold mvT
   rw[tj]
   omega
theorem yb {rs:qR} (g:qy rs) {z:Str} (h:∃r∈rs,r.1=z):jc z=true:=by
 obtain⟨r,hr,rfl⟩:=h
 exact g.nm r hr
def U3 (CG:Addr):Sp:=λvs H Q _=>∃(g h:Addr) (rs:qR) (hs:List Str),vs=[.ref g,.ref h]/\jB CG H g rs/\qy rs/\rs.length<=14/\QA H h rs hs/\
 ∀H' l ps,Same H H'->H l=none->H' l=some (.lst (ps.map V.ref))->Qu H' ps (mvs rs hs hs.length)->Q (.ref l) H'
def mD (m:Nat×Str):PyData:=.tuple [.int (m.1:Int),.str m.2]
theorem Qu.tail {H:Hp} {p:Addr} {ps:List Addr} {m:Nat×Str} {ms:List (Nat×Str)} (h:Qu H (p::ps) (m::ms)):Qu H ps ms:=⟨zcA.inj h.1,λi a b e1 e2=>h.2 (i+1) a b (by simpa using e1) (by simpa using e2)⟩
theorem mvs_mem {rs:qR} {hs:List Str} {n:Nat} {m:Nat×Str} (h:m∈mvs rs hs n):m.1 < n/\m.2∈jz rs (Za hs m.1):=by
 unfold mvs at h
 obtain⟨j,hj,h2⟩:=List.mem_flatMap.mp h
 obtain⟨e,he,rfl⟩:=tG.mp h2
 exact⟨zbm.mp hj,he⟩
def spLeft:Sp:=λvs H Q _=>∃(h p:Addr) (hs:List Str) (m:Nat×Str),vs=[.ref h,.ref p]/\H h=some (.lst (hs.map V.str))/\H p=some (.tup (Rx m))/\m.1 < hs.length/\∀l,H l=none->Q (.ref l) (upd H l (.lst ((hs.set m.1 m.2).map V.str)))
theorem atI_get {xs:List V} {r:Int} (h0:0<=r) (h1:r < (xs.length:Int)):∃v,vU xs r=some v/\xs[r.toNat]?=some v:=by
 have:r.toNat < xs.length:=by omega
 refine⟨xs[r.toNat],?_,tu this⟩
 unfold vU Ga
 rw[if_pos h0,if_pos h1]
 exact tu this
def U8:Sp:=λvs H Q _=>∃(d l:Addr) (mo:Nat) (n s t:Int) (ps:List Addr) (rs:qR),vs=[.ref d,.ref l,.int (mo:Int)]/\H d=some (.dK (src n s t))/\qY H l ps rs/\mo<=8/\
 ∀(D:Addr) (hs:List Str) (n' t':Int) (H':Hp),H D=none->H' D=some (.lst (hs.map V.str))->hs.length<=mo->(∀z∈hs,∃r∈rs,r.1=z)->H' d=some (.dK (src n' s t'))->Fr H d H'->Q (.ref D) H'
theorem qY.fr' {H H':Hp} {l d:Addr} {ps:List Addr} {rs:qR} {kv:List (qF×V)} (h:qY H l ps rs) (hd:H d=some (.dK kv)) (s:Fr H d H'):qY H' l ps rs:=by
 refine⟨s _ _ h.at_ (λe=>?_),⟨h.rows.1,λi p r e1 e2=>?_⟩,h.good,h.pos,h.le⟩
 . have:=h.at_
   rw[e,hd]at this
   cases this
 . obtain⟨q,a,b⟩:=h.rows.2 i p r e1 e2
   exact⟨q,s _ _ a (λe=>by rw[e,hd]at a;cases a),s _ _ b (λe=>by rw[e,hd]at b;cases b)⟩
section
variable {P:Program} {w:World} {K:PySem.W.Frag} {mg:Str->Option Value} {base:Heap}
abbrev nMo:List Str:=["ground","heap","moves","token","place"]
theorem u6:qr nMo ["ground","heap"] (ql Q6):=⟨rfl,rfl,rfl,by decide+kernel,rfl,by decide+kernel,by decide+kernel⟩
theorem xQ {f fH fP CG:Addr} {fd fdH fdP:FuncData} (F:jG K "moves_of" "moves_of" Q6 f fd) (B:Qe mg) (G:jF mg) (T:jP K mg) (M:GM K mg CG) (hP:qQ K mg "need_place" Zb Rw fP fdP) (mt:∃t,mg "MOST_TOKENS"=some (.int 8 t))
   (hH:qQ K mg "need_heap" Z0 ["ground","heap"] fH fdH):qp P w K mg base qI 4 f fd ["ground","heap"] (U3 CG):=by
 obtain⟨fC,fdC,C⟩:=M.cls
 obtain⟨fR,fdR,hR⟩:=M.fr
 obtain⟨fN,fdN,hN⟩:=M.isn
 have GH:qp P w K mg base qI 3 fH fdH ["ground","heap"] (zF CG):=Yr hH.fn B G T M hP mt
 have GR:qp P w K mg base qI 2 fR fdR ["self","name"] (JM CG):=Jy hR.fn C B G T hN
 refine F.okJ u6 (λvs H Q E h=>?_) (λcdv A outer s H vs Q E hr h=>?_)
 . obtain⟨g,h',rs,hs,rfl,_⟩:=h
   rfl
 . obtain⟨g,h',rs,hs,rfl,gr,gd,le,hh,q⟩:=h
   have r2:qN 2 (A.deeper (envOfC "moves_of" (ql Q6) s.heap.objs.size f cdv)):=hr.mono (by decide)
   refine⟨_,qg (je (qG hH GH hr (by rfl) (qd (jv 0) (qd (jv 1) qf))))
     (qg (qw (i:=2) u6.nd rfl (Or.inl rfl) (jE qf))
     (qg (ja PassesOwn.never rfl (Wt (by rfl) T.enu (qd (jv 1) qf)) (Z6 rfl (jM (qv (i:=3) u6.nd rfl (Or.inr rfl)) (jM (qv (i:=4) u6.nd rfl (Or.inl rfl)) JX)))
       (qh (je (QV zaj zbX zbY Z2 (jv 2) (qd
         (jX (N':=["end","token"]) (ix:=[none,some 3]) (te:=yJ (jA (qW 1) (jA (qW 0) QD))) rfl ⟨rfl,rfl,rfl,rfl,rfl⟩ (qJ (Xz hR C.cl GR r2 (jv 0) (qd (jv 4) qf))) (λC s2 H2 fp pins=>
           ⟨qv (i:=0) (show (["end","token"]:List Str).Nodup by decide+kernel) rfl (Or.inl rfl),jK,Qz (qd (jv 1) (qd (jv 0) qf))⟩)) qf)))))
     (qh (qu (jv 2))))),?_⟩
   refine⟨_,rfl,_,rfl,g,h',rs,hs,rfl,gr,hh,λH1 s1=>?_⟩
   refine⟨by show 0<=sizeLine;decide,λl hl=>?_⟩
   have hl0:H l=none:=by
     cases z:H l with
     | none=>rfl
     | some u=>rw[s1 _ _ z]at hl;cases hl
   have s2:Same H (upd H1 l (.lst [])):=s1.trans (qk hl)
   have hl2:upd H1 l (.lst []) l=some (.lst []):=qe
   generalize upd H1 l (.lst [])=H2 at s2 hl2
   refine⟨_,rfl,h',rfl,⟨_,.of (s2 _ _ hh.at_)⟩,?_⟩
   refine YE (K:=K) (a:=h') (xs:=hs.map V.str) (λi σ' G=>∃v3 v4 ps,σ'=[some (.ref g),some (.ref h'),some (.ref l),v3,v4]/\Same H G/\G l=some (.lst (ps.map V.ref))/\Qu G ps (mvs rs hs i))
     ⟨_,_,[],rfl,s2,hl2,Qu.nil _⟩ (λi σ' G _ ⟨_,_,_,_,s,_⟩=>.of (s _ _ hh.at_)) ?_ ?_
   . rintro i y σ' G p hy hp ⟨v3,v4,ps,rfl,sG,hlG,mv⟩
     obtain⟨z,ez,hz,rfl⟩:=jo hy
     have hi:=(tq.mp ez).1
     have ezz:Za hs i=z:=by
       have:=Jf hi
       rw[ez]at this
       exact(tO.inj this).symm
     refine⟨p,_,rfl,.of qe,rfl,_,_,rfl,_,_,rfl,rfl,?_⟩
     have sP:Same G (upd G p (.tup [.int (i:Nat),.str z])):=qk hp
     have sGP:=sG.trans sP
     have hlP:=sP _ _ hlG
     have mvP:=mv.mono sP
     generalize upd G p (.tup [.int (i:Nat),.str z])=G1 at sP sGP hlP mvP
     obtain⟨r,hr',er⟩:=hh.in_ z hz
     obtain⟨dx,fs,hg,l1,l2⟩:=(gr.mono sGP).ins
     refine⟨_,rfl,.inl ⟨rfl,_,.of hlP⟩,_,rfl,g,dx,fs,rfl,hg,l2,_,rfl,g,rs,r,by rw[er];rfl,gr.mono sGP,hr',gd.nm r hr',λG2 e s2' he=>?_⟩
     have sE:Same G1 (upd G2 e (.lst ((jg rs r).map V.str))):=s2'.trans (qk he)
     have hE:upd G2 e (.lst ((jg rs r).map V.str)) e=some (.lst ((jg rs r).map V.str)):=qe
     generalize upd G2 e (.lst ((jg rs r).map V.str))=G3 at sE hE
     refine⟨e,rfl,⟨_,.of hE⟩,λD hD=>?_⟩
     refine jw (K:=K) (a:=e) (xs:=(jg rs r).map V.str) (λj σ'' G4=>∃v0 qs,σ''=[v0,some (.int (i:Nat))]/\Same G3 G4/\G4 D=some (.lst (qs.map V.ref))/\Qu G4 qs (((jg rs r).take j).map λy=>(i,y)))
       ⟨none,[],rfl,qk hD,qe,Qu.nil _⟩ (λj σ'' G4 _ ⟨_,_,_,s,_⟩=>.of (s _ _ hE)) ?_ ?_
     . rintro j y σ'' G4 hy ⟨v0,qs,rfl,s4,hD4,mq⟩
       obtain⟨x,ex,hx,rfl⟩:=jo hy
       have hj:=(tq.mp ex).1
       refine⟨_,rfl,_,rfl,by show 2<=sizeLine;decide,λt ht=>⟨_,qj hD4 ht,?_,_,qs++[t],rfl,?_,?_,?_⟩⟩
       . rw[tj,mq.1,tj,tJ]
         have:=Ze (rs:=rs) r
         exact qo (by omega)
       . exact Same.upd (s4.trans (qk ht)) hD
       . rw[qe,tE]
         rfl
       . have nt:t≠D:=λz=>by rw[z,hD4]at ht;cases ht
         have e1:Qu (upd (upd G4 t (.tup [.int (i:Nat),.str x])) D (.lst (qs.map V.ref++[.ref t]))) qs (((jg rs r).take j).map λy=>(i,y)):=⟨mq.1,λk p' m a b=>by
           have z:=mq.2 k p' m a b
           have n1:p'≠D:=λe=>by rw[e,hD4]at z;cases z
           rw[qi n1]
           exact qj z ht⟩
         rw[tM,ex,tE]
         exact e1.app (Qu.one (by rw[qi nt];exact qe))
     . rintro σ'' G4 ⟨v0,qs,rfl,s4,hD4,mq⟩
       rw[tj,tF (tw _)]at mq
       have sHG:Same H G4:=(sGP.trans sE).trans s4
       have hl4:=s4 _ _ (sE _ _ hlP)
       have mv4:=(mvP.mono sE).mono s4
       have ml:=Wn gd le hh.in_ i (zak hi)
       have l8:=hh.le
       have rl:=Ze (rs:=rs) r
       refine⟨l,D,_,_,rfl,rfl,hl4,hD4,?_,?_⟩
       . rw[tj,tj,mv4.1,mq.1,tj]
         exact zak (qo (by omega))
       . refine⟨_,_,ps++qs,rfl,Same.upd sHG hl0,by rw[qe,tE],?_⟩
         rw[Vd,ezz,mvT,<-er,Qk gd.nd hr']
         have ne:∀{p':Addr} {m:Nat×Str},G4 p'=some (.tup (Rx m))->p'≠l:=λh e=>by rw[e,hl4]at h;cases h
         have up:∀{ps:List Addr} {ms:List (Nat×Str)},Qu G4 ps ms->Qu (upd G4 l (.lst (zdJ V.ref ps++zdJ V.ref qs))) ps ms:=λh=>⟨h.1,λk p' m a b=>by
           have z:=h.2 k p' m a b
           rw[qi (ne z)]
           exact z⟩
         refine Qu.app ?_ ?_
         . exact⟨mv4.1,λk p' m a b=>by
             have z:=mv4.2 k p' m a b
             rw[qi (ne z)]
             exact z⟩
         . exact⟨mq.1,λk p' m a b=>by
             have z:=mq.2 k p' m a b
             rw[qi (ne z)]
             exact z⟩
   . rintro σ' G ⟨v3,v4,ps,rfl,sG,hlG,mv⟩
     rw[tj]at mv
     exact⟨_,rfl,q G l ps sG hl0 hlG mv⟩
abbrev Mw:List Str:=["_law_source_here","_law_rows_here","_law_most"]
theorem qbx:qr Mw Mw (ql Yc):=⟨rfl,rfl,rfl,by decide+kernel,rfl,by decide+kernel,by decide+kernel⟩
theorem xS {f fT:Addr} {fd fdT:FuncData} (F:jG K "_law_heap" "_law_heap" Yc f fd) (B:Qe mg) (hT:qQ K mg "_law_take" J6 ["_law_source_here","_law_many"] fT fdT):qp P w K mg base qI 2 f fd Mw U8:=by
 have GT:qp P w K mg base qI 1 fT fdT ["_law_source_here","_law_many"] Jh:=Jl hT.fn
 refine F.okJ qbx (λvs H Q E h=>?_) (λcdv A outer s H vs Q E hr h=>?_)
 . obtain⟨d,l,mo,n,sd,t,ps,rs,rfl,_⟩:=h
   rfl
 . obtain⟨d,l,mo,n,sd,t,ps,rs,rfl,hd,g,mo8,q⟩:=h
   refine⟨_,qh (qu (jX (N':=["_law_k","_law_rows_here","_law_source_here"]) (ix:=[none,some 1,some 0])
     (te:=YY (V3 K) (YY (Ko K) (qW 1) (Xh Jh [] E0 (jA (qW 2) (jA (uD (λxs H Q=>∃p ys,xs=[.ref p]/\(SqL K H p ys\/SqT K H p ys)/\Q (.int ys.length) H) (jA (qW 1) QD)) QD)))) (tC (.int 0))) rfl ⟨rfl,rfl,rfl,rfl,rfl⟩
     (jp (by rfl) B.rng (qd (qG hT GT hr (by rfl) (qd (jv 0) (qd (qO Qo (jv 2) qm) qf))) qf))
     (λC s2 H2 fp pins=>⟨qv (i:=0) (show (["_law_k","_law_rows_here","_law_source_here"]:List Str).Nodup by decide+kernel) rfl (Or.inl rfl),jK,
       jx j4 (jx j9 (jv 1) (qG hT GT hr (by rfl) (qd (jv 2) (qd (qx qD (by rfl) B.len boot_len (qd (jv 1) qf)) qf))) (λ_ _=>rfl)) qm (λ_ _=>rfl)⟩))),?_⟩
   refine⟨_,rfl,_,rfl,_,_,rfl,rfl,d,(mo:Int)+1,n,sd,t,rfl,hd,by omega,by omega,λr n1 t1 r0 r1=>⟨r,rfl,by omega,by omega,λD hD=>?_⟩⟩
   have nDd:D≠d:=λe=>by rw[e,qe]at hD;cases hD
   have hD0:H D=none:=by rw[qi nDd]at hD;exact hD
   refine Jb (λi σ' H'=>∃(v:Option V) (n' t':Int) (hs:List Str),σ'=[v,some (.ref l),some (.ref d)]/\H' d=some (.dK (src n' sd t'))/\H' D=some (.lst (hs.map V.str))/\hs.length=i/\(∀z∈hs,∃r∈rs,r.1=z)/\Fr H d H')
     ⟨none,n1,t1,[],rfl,?_,qe,rfl,λ_ h=>(nomatch h),(Fr.refl.at_d).new hD⟩ ?_ ?_
   . rw[qi (Ne.symm nDd)]
     exact qe
   . rintro i σ' H' hi ⟨v,n',t',hs,rfl,hd',hD',hl,ha,fr⟩
     have g':=g.fr' hd fr
     have pl:(ps.map V.ref).length=rs.length:=by rw[tj,g.rows.1]
     have le:=g.le
     have ps0:=g.pos
     refine⟨_,rfl,_,rfl,_,rfl,l,_,rfl,.inl (.of g'.at_),d,((ps.map V.ref).length:Nat),n',sd,t',rfl,hd',by rw[pl];omega,?_,λr n3 t3 r0 r1=>?_⟩
     . rw[pl]
       have:rs.length < 2^200:=zaZ le (by decide)
       omega
     obtain⟨x,ex,gx⟩:=atI_get r0 r1
     obtain⟨p,qq,r',rfl,er,hr',ea,eb⟩:=g'.rows.item gx
     have ndl:l≠d:=λe=>by
       have:=g'.at_
       rw[e,hd']at this
       cases this
     have ndp:p≠d:=λe=>by rw[e,hd']at ea;cases ea
     refine⟨l,_,r,_,rfl,rfl,.of (by rw[qi ndl];exact g'.at_),ex,p,_,0,_,rfl,rfl,.of (by rw[qi ndp];exact ea),rfl,_,by rw[qi nDd];exact hD',?_,_,n3,t3,hs++[r'.1],rfl,?_,?_,?_,?_,?_⟩
     . rw[tj,hl]
       exact qo (by omega)
     . rw[qi (Ne.symm nDd)];exact qe
     . rw[qe,tE];rfl
     . rw[tL,hl];rfl
     . intro z hz
       rcases zai.mp hz with h | h
       . exact ha z h
       . obtain rfl:=zac.mp h
         exact⟨r',hr',rfl⟩
     . exact(fr.at_d).own hD0
   . rintro σ' H' ⟨v,n',t',hs,rfl,hd',hD',hl,ha,fr⟩
     exact q D hs n' t' H' hD0 hD' (by omega) ha hd' fr
end
open PySem L2 PyProof.Rows MRing
abbrev Kf:Stmt:=top 17
abbrev Rf:Stmt:=top 18
abbrev R8:Stmt:=top 19
abbrev R7:Stmt:=top 20
def out (zs l:List Str):List Str:=l.filter λy=> !Jd (.str y) (zs.map V.str)
theorem Qj {zs l:List Str} {y:Str}:y∈out zs l↔y∈l/\y∉zs:=by
 unfold out
 rw[tY,Bool.not_eq_true',<-Bool.not_eq_true,Jo]
theorem Yo {zs l:List Str} {i:Nat} {z:Str} (e:l[i]?=some z):out zs (l.take (i+1))=out zs (l.take i)++if (!Jd (.str z) (zs.map V.str))=true then [z] else []:=by
 unfold out
 rw[tM,e,zaJ]
 congr 1
 cases c:(!Jd (.str z) (zs.map V.str))
 . simp [c]
 . simp [c]
theorem Wh (zs l:List Str):(out zs l).length<=l.length:=zao _ _
def uN (CG:Addr):Sp:=λvs H Q _=>∃(g S:Addr) (rs:qR) (r:Str×List Str) (zs:List Str),vs=[.ref g,.ref S,.str r.1]/\jB CG H g rs/\r∈rs/\jc r.1=true/\rs.length<=14/\H S=some (.lst (zs.map V.str))/\
 ∀H' l,Same H H'->H l=none->H' l=some (.lst ((out zs (jg rs r)).map V.str))->Q (.ref l) H'
def Y4 (rs:qR) (zs:List Str):List Str:=(out zs (rs.map (·.1))).filter λz=>(out zs (jz rs z)).isEmpty
def MP (CG:Addr):Sp:=λvs H Q _=>∃(g S:Addr) (rs:qR) (zs:List Str),vs=[.ref g,.ref S]/\jB CG H g rs/\qy rs/\rs.length<=14/\H S=some (.lst (zs.map V.str))/\
 ∀H' l,Same H H'->H l=none->H' l=some (.lst ((Y4 rs zs).map V.str))->Q (.ref l) H'
section
variable {P:Program} {w:World} {K:PySem.W.Frag} {mg:Str->Option Value} {base:Heap}
abbrev xF:List Str:=["ground","settled","name"]
theorem qbC:qr xF xF (ql Kf):=⟨rfl,rfl,rfl,by decide+kernel,rfl,by decide+kernel,by decide+kernel⟩
theorem Ru {f CG:Addr} {fd:FuncData} (F:jG K "ends_left" "ends_left" Kf f fd) (B:Qe mg) (G:jF mg) (T:jP K mg) (M:GM K mg CG):qp P w K mg base qI 3 f fd xF (uN CG):=by
 obtain⟨fC,fdC,C⟩:=M.cls
 obtain⟨fR,fdR,hR⟩:=M.fr
 obtain⟨fN,fdN,hN⟩:=M.isn
 have GR:qp P w K mg base qI 2 fR fdR ["self","name"] (JM CG):=Jy hR.fn C B G T hN
 refine F.okJ qbC (λvs H Q E h=>?_) (λcdv A outer s H vs Q E hr h=>?_)
 . obtain⟨g,S,rs,r,zs,rfl,_⟩:=h
   rfl
 . obtain⟨g,S,rs,r,zs,rfl,gr,hr',hn,le14,hS,q⟩:=h
   refine⟨_,qh (qu (jX (N':=["end","settled"]) (ix:=[none,some 1]) (tt:=zg (YY (Nj K true) (qW 0) (qW 1))) (te:=qW 0) rfl ⟨rfl,rfl,rfl,rfl,rfl⟩ (qJ (Xz hR C.cl GR hr (jv 0) (qd (jv 2) qf))) (λC s2 H2 fp pins=>
     ⟨qv (i:=0) (show (["end","settled"]:List Str).Nodup by decide+kernel) rfl (Or.inl rfl),jJ (qt jI (jv 0) (jv 1) (by with_unfolding_all rfl)),jv 0⟩))),?_⟩
   obtain⟨dx,fs,hg,l1,l2⟩:=gr.ins
   refine⟨_,rfl,g,dx,fs,rfl,hg,l2,_,rfl,g,rs,r,rfl,gr,hr',hn,λH1 le s1 hle=>?_⟩
   have s2:Same H (upd H1 le (.lst ((jg rs r).map V.str))):=s1.trans (qk hle)
   have hl2:upd H1 le (.lst ((jg rs r).map V.str)) le=some (.lst ((jg rs r).map V.str)):=qe
   generalize upd H1 le (.lst ((jg rs r).map V.str))=H2 at s2 hl2
   have hS2:=s2 _ _ hS
   refine⟨le,rfl,⟨_,.of hl2⟩,λW hW=>?_⟩
   have lR:=Ze (rs:=rs) r
   refine jw (K:=K) (a:=le) (xs:=(jg rs r).map V.str) (λj σ'' H''=>∃v0,σ''=[v0,some (.ref S)]/\H''=upd H2 W (.lst ((out zs ((jg rs r).take j)).map V.str))) ⟨none,rfl,rfl⟩ (λj σ'' H'' _ ⟨_,_,e⟩=>e▸.of (qj hl2 hW)) ?_ ?_
   . rintro j y σ'' H'' hy ⟨v0,rfl,rfl⟩
     obtain⟨z,ez,hz,rfl⟩:=jo hy
     refine⟨_,rfl,_,rfl,S,_,rfl,.inl (.of (qj hS2 hW)),rfl,Qd _,_,rfl,?_⟩
     rw[Yo ez]
     show if (!Jd (.str z) (zs.map V.str))=true then _ else _
     cases c:(!Jd (.str z) (zs.map V.str)) with
     | true=>
       refine jZ ⟨_,rfl,_,qe,?_,_,rfl,?_⟩
       . rw[tj]
         refine qo (tV (Wh _ _) ?_)
         rw[tJ]
         omega
       . rw[jd,if_pos rfl,tE]
         rfl
     | false=>
       refine qV ⟨_,rfl,?_⟩
       rw[if_neg tK,zaz]
   . rintro σ'' H'' ⟨v0,rfl,rfl⟩
     rw[tj,tF (tw _)]
     exact q _ W (s2.trans (qk hW)) (jN s2 hW) qe
abbrev nSN:List Str:=["ground","settled","left"]
abbrev Rp:List Str:=["ground","settled"]
theorem MW:qr nSN Rp (ql Rf):=⟨rfl,rfl,rfl,by decide+kernel,rfl,by decide+kernel,by decide+kernel⟩
theorem qai {f fE CG:Addr} {fd fdE:FuncData} (F:jG K "settled_next" "settled_next" Rf f fd) (B:Qe mg) (G:jF mg) (T:jP K mg) (M:GM K mg CG) (hE:qQ K mg "ends_left" Kf xF fE fdE):qp P w K mg base qI 4 f fd Rp (MP CG):=by
 have GE:qp P w K mg base qI 3 fE fdE xF (uN CG):=Ru hE.fn B G T M
 obtain⟨fC,fdC,C⟩:=M.cls
 obtain⟨fM,fdM,hM⟩:=M.nm
 have GM:qp P w K mg base qI 1 fM fdM ["self"] (Q4 CG):=Q9 hM.fn C G
 refine F.okJ MW (λvs H Q E h=>?_) (λcdv A outer s H vs Q E hr h=>?_)
 . obtain⟨g,S,rs,zs,rfl,_⟩:=h
   rfl
 . obtain⟨g,S,rs,zs,rfl,gr,good,le14,hS,q⟩:=h
   have r1:qN 1 _:=hr.mono (by decide)
   refine⟨_,qg (QN (i:=2) (N':=["name","settled"]) (ix:=[none,some 1]) (tt:=zg (YY (Nj K true) (qW 0) (qW 1))) (te:=qW 0) MW.nd rfl (Or.inl rfl) rfl ⟨rfl,rfl,rfl,rfl,rfl⟩ (qJ (Vk hM C.cl GM r1 (jv 0))) (λC s2 H2 fp pins=>
       ⟨qv (i:=0) (show (["name","settled"]:List Str).Nodup by decide+kernel) rfl (Or.inl rfl),jJ (qt jI (jv 0) (jv 1) (by with_unfolding_all rfl)),jv 0⟩))
     (qh (qu (jX (N':=["name","ground","settled"]) (ix:=[none,some 0,some 1]) (tt:=zg (YY rEq (uD (λxs H Q=>∃p ys,xs=[.ref p]/\(SqL K H p ys\/SqT K H p ys)/\Q (.int ys.length) H) (jA (Xh (uN CG) [] E0 (jA (qW 1) (jA (qW 2) (jA (qW 0) QD)))) QD)) (tC (.int 0)))) (te:=qW 0) rfl ⟨rfl,rfl,rfl,rfl,rfl⟩ (qJ (jv 2)) (λC s2 H2 fp pins=>
       ⟨qv (i:=0) (show (["name","ground","settled"]:List Str).Nodup by decide+kernel) rfl (Or.inl rfl),jJ (qt Qn (qx qD (by rfl) B.len boot_len (qd (qG hE GE hr (by rfl) (qd (jv 1) (qd (jv 2) (qd (jv 0) qf)))) qf)) qm (qA _)),jv 0⟩)))),?_⟩
   obtain⟨dx,fs,hg,l1,l2⟩:=gr.ins
   refine⟨_,rfl,g,dx,fs,rfl,hg,l1,g,rs,rfl,gr,λln hln=>⟨ln,rfl,⟨_,.of qe⟩,λW hW=>?_⟩⟩
   have s2:Same H (upd H ln (.lst ((rs.map (·.1)).map V.str))):=qk hln
   have hl2:upd H ln (.lst ((rs.map (·.1)).map V.str)) ln=some (.lst ((rs.map (·.1)).map V.str)):=qe
   generalize upd H ln (.lst ((rs.map (·.1)).map V.str))=H2 at s2 hl2 hW
   have hS2:=s2 _ _ hS
   refine jw (K:=K) (a:=ln) (xs:=(rs.map (·.1)).map V.str) (λj σ'' H''=>∃v0,σ''=[v0,some (.ref S)]/\H''=upd H2 W (.lst ((out zs ((rs.map (·.1)).take j)).map V.str))) ⟨none,rfl,rfl⟩ (λj σ'' H'' _ ⟨_,_,e⟩=>e▸.of (qj hl2 hW)) ?_ ?_
   . rintro j y σ'' H'' hy ⟨v0,rfl,rfl⟩
     obtain⟨z,ez,hz,rfl⟩:=jo hy
     refine⟨_,rfl,_,rfl,S,_,rfl,.inl (.of (qj hS2 hW)),rfl,Qd _,_,rfl,?_⟩
     rw[Yo ez]
     show if (!Jd (.str z) (zs.map V.str))=true then _ else _
     cases c:(!Jd (.str z) (zs.map V.str)) with
     | true=>
       refine jZ ⟨_,rfl,_,qe,?_,_,rfl,?_⟩
       . rw[tj]
         refine qo (tV (Wh _ _) ?_)
         rw[tJ,tj]
         omega
       . rw[jd,if_pos rfl,tE]
         rfl
     | false=>
       refine qV ⟨_,rfl,?_⟩
       rw[if_neg tK,zaz]
   . rintro σ'' H'' ⟨v0,rfl,rfl⟩
     rw[tj,tF (tw _)]
     have s3:Same H (upd H2 W (.lst ((out zs (rs.map (·.1))).map V.str))):=s2.trans (qk hW)
     have h3:upd H2 W (.lst ((out zs (rs.map (·.1))).map V.str)) W=some (.lst ((out zs (rs.map (·.1))).map V.str)):=qe
     generalize upd H2 W (.lst ((out zs (rs.map (·.1))).map V.str))=H3 at s3 h3
     refine⟨_,rfl,W,rfl,⟨_,.of h3⟩,λV2 hV=>?_⟩
     have lo:(out zs (rs.map (·.1))).length<=14:=by
       refine tV (Wh _ _) ?_
       rw[tj]
       exact le14
     refine jw (K:=K) (a:=W) (xs:=(out zs (rs.map (·.1))).map V.str) (λj σ'' H''=>∃v0,σ''=[v0,some (.ref g),some (.ref S)]/\Same H3 H''/\H'' V2=some (.lst ((((out zs (rs.map (·.1))).take j).filter λz=>(out zs (jz rs z)).isEmpty).map V.str))) ⟨none,rfl,qk hV,qe⟩ (λj σ'' H'' _ ⟨_,_,s,_⟩=>.of (s _ _ h3)) ?_ ?_
     . rintro j y σ'' H'' hy ⟨v0,rfl,s4,hV4⟩
       obtain⟨z,ez,hz,rfl⟩:=jo hy
       obtain⟨r,hr',rfl⟩:=tG.mp (Qj.mp hz).1
       have s5:=s3.trans s4
       refine⟨_,rfl,_,rfl,_,rfl,g,S,rs,r,zs,rfl,gr.mono s5,hr',good.nm r hr',le14,s5 _ _ hS,λH6 l6 s6 hl6 hl6'=>?_⟩
       refine⟨l6,_,rfl,.inl (.of hl6'),rfl,_,rfl,?_⟩
       have et:((out zs (rs.map (·.1))).take (j+1)).filter (λz=>(out zs (jz rs z)).isEmpty)=((out zs (rs.map (·.1))).take j).filter (λz=>(out zs (jz rs z)).isEmpty)++if (out zs (jz rs r.1)).isEmpty=true then [r.1] else []:=by
         rw[tM,ez,zaJ]
         congr 1
         cases c:(out zs (jz rs r.1)).isEmpty
         . simp [c]
         . simp [c]
       have ee:decide (V.int (((out zs (jg rs r)).map V.str).length:Nat)=V.int 0)=(out zs (jz rs r.1)).isEmpty:=by
         rw[Qk good.nd hr',tj]
         cases out zs (jg rs r) with
         | nil=>exact decide_eq_true rfl
         | cons a b=>
           refine decide_eq_false λe=>?_
           have:=V.int.inj e
           rw[zat]at this
           omega
       rw[et]
       show if decide (V.int (((out zs (jg rs r)).map V.str).length:Nat)=V.int 0)=true then _ else _
       rw[ee]
       have hV6:=s6 _ _ hV4
       cases c:(out zs (jz rs r.1)).isEmpty with
       | true=>
         refine jZ ⟨_,rfl,_,hV6,?_,_,rfl,Same.upd (s4.trans s6) hV,?_⟩
         . rw[tj]
           refine qo (tV (zao _ _) ?_)
           rw[tJ]
           omega
         . rw[qe,if_pos rfl,tE]
           rfl
       | false=>
         refine qV ⟨_,rfl,s4.trans s6,?_⟩
         rw[if_neg tK,zaz]
         exact hV6
     . rintro σ'' H'' ⟨v0,rfl,s4,hV4⟩
       rw[tj,tF (tw _)]at hV4
       exact q _ V2 (s3.trans s4) (jN s3 hV) hV4
end
open PySem L2 PyProof.Rows MRing
theorem Zl {rs:qR} {zs:List Str} {z:Str}:z∈Y4 rs zs↔z∈rs.map (·.1)/\z∉zs/\∀y∈jz rs z,y∈zs:=by
 unfold Y4
 rw[tY,Qj,zcX]
 constructor
 . rintro⟨⟨a,b⟩,c⟩
   refine⟨a,b,λy hy=>Classical.byContradiction λn=>?_⟩
   have:y∈out zs (jz rs z):=Qj.mpr ⟨hy,n⟩
   rw[c]at this
   cases this
 . rintro⟨a,b,c⟩
   refine⟨⟨a,b⟩,zbl.mpr λy hy=>?_⟩
   exact(Qj.mp hy).2 (c y (Qj.mp hy).1)
theorem NB {rs:qR} (hn:(rs.map (·.1)).Nodup) (zs:List Str):(Y4 rs zs).Nodup:=hn.sublist (zax.trans zax)
theorem Zg {rs:qR} {zs:List Str} (h:∀z∈zs,z∈rs.map (·.1)) (nd:zs.Nodup):zs.length<=rs.length:=by
 have:=Qf nd h
 rwa [tj]at this
structure za (rs:qR) (zs:List Str):Prop where
 sub:∀z∈zs,z∈rs.map (·.1)
 nd:zs.Nodup
 far:∀T,UB (jz rs) T->∀y∈T,y∉zs
 st:MLab.Stl (jz rs) zs
theorem za.nil (rs:qR):za rs []:=⟨λ_ h=>(nomatch h),zaY,λ_ _ _ _ h=>(nomatch h),λ_ _ h=>(nomatch h)⟩
theorem za.more {rs:qR} (hn:(rs.map (·.1)).Nodup) {zs:List Str} (h:za rs zs):za rs (zs++Y4 rs zs):=by
 refine⟨λz hz=>?_,zbN.mpr ⟨h.nd,NB hn zs,λa ha b hb e=>?_⟩,λT t y hy m=>?_,λi z ez y hy=>?_⟩
 . rcases zai.mp hz with hz | hz
   . exact h.sub z hz
   . exact(Zl.mp hz).1
 . exact(Zl.mp hb).2.1 (e▸ha)
 . rcases zai.mp m with m | m
   . exact h.far T t y hy m
   . exact VM t (h.far T t) (Zl.mp m).2.2 hy
 . by_cases hi:i < zs.length
   . rw[t8 hi]at ez
     obtain⟨j,hj,ej⟩:=h.st i z ez y hy
     exact⟨j,hj,by rw[t8 (by omega)];exact ej⟩
   . rw[zab (by omega)]at ez
     have m:=(Zl.mp (tQ ez)).2.2 y hy
     obtain⟨j,ej⟩:=zah m
     have hj:=(tq.mp ej).1
     exact⟨j,by omega,by rw[t8 hj];exact ej⟩
def RM (CG:Addr):Sp:=λvs H Q _=>∃(g:Addr) (rs:qR),vs=[.ref g]/\jB CG H g rs/\qy rs/\rs.length<=14/\
 ∀H' l zs,Same H H'->H l=none->H' l=some (.lst (zs.map V.str))->za rs zs->Y4 rs zs=[]->Q (.ref l) H'
section
variable {P:Program} {w:World} {K:PySem.W.Frag} {mg:Str->Option Value} {base:Heap}
abbrev nPR:List Str:=["ground","settled","more"]
theorem uV:qr nPR ["ground"] (ql R8):=⟨rfl,rfl,rfl,by decide+kernel,rfl,by decide+kernel,by decide+kernel⟩
theorem Rr {f fE fS CG:Addr} {fd fdE fdS:FuncData} (F:jG K "places_to_no_ring" "places_to_no_ring" R8 f fd) (B:Qe mg) (G:jF mg) (T:jP K mg) (M:GM K mg CG) (hE:qQ K mg "ends_left" Kf xF fE fdE) (hS:qQ K mg "settled_next" Rf Rp fS fdS):qp P w K mg base qI 5 f fd ["ground"] (RM CG):=by
 have GS:qp P w K mg base qI 4 fS fdS Rp (MP CG):=qai hS.fn B G T M hE
 refine F.okJ uV (λvs H Q E h=>?_) (λcdv A outer s H vs Q E hr h=>?_)
 . obtain⟨g,rs,rfl,_⟩:=h
   rfl
 . obtain⟨g,rs,rfl,gr,good,le14,q⟩:=h
   refine⟨_,qg (qw (i:=1) uV.nd rfl (Or.inl rfl) (jE qf))
     (qg (qw (i:=2) uV.nd rfl (Or.inl rfl) (qG hS GS hr (by rfl) (qd (jv 0) (qd (jv 1) qf))))
     (qg (QM PassesOwn.never (qt zm (qx qD (by rfl) B.len boot_len (qd (jv 2) qf)) qm (qA _))
       (qg (je (QV zaj zbX zbY Z2 (jv 1) (qd (jv 2) qf)))
       (qh (qw (i:=2) uV.nd rfl (Or.inl rfl) (qG hS GS hr (by rfl) (qd (jv 0) (qd (jv 1) qf)))))))
     (qh (qu (jv 1))))),?_⟩
   refine⟨by show 0<=sizeLine;decide,λS0 hS0=>?_⟩
   refine⟨_,rfl,_,rfl,g,S0,rs,[],rfl,gr.mono (qk hS0),good,le14,qe,λH1 M1 s1 hM1 hM1'=>?_⟩
   refine QG (λσ H'=>∃(M0:Addr) (zs:List Str),σ=[some (.ref g),some (.ref S0),some (.ref M0)]/\Same H H'/\H' S0=some (.lst (zs.map V.str))/\H' M0=some (.lst ((Y4 rs zs).map V.str))/\za rs zs/\S0≠M0)
     (λσ H'=>15 - (match H' S0 with | some (.lst xs)=>xs.length | _=>0))
     ⟨M1,[],rfl,(qk hS0).trans s1,s1 _ _ qe,hM1',.nil rs,λe=>by rw[<-e,qe]at hM1;cases hM1⟩ ?_ ?_
   . rintro σ H' ⟨M0,zs,rfl,sH,hZ,hMo,st,ne⟩
     have st2:=st.more good.nd
     have l2:=Zg st2.sub st2.nd
     rw[tL]at l2
     refine⟨_,rfl,M0,_,rfl,.inl (.of hMo),_,_,rfl,rfl,_,rfl,?_⟩
     rw[tj]
     refine Y5 (λc=>?_) (λc=>?_)
     . have c':(0:Int) < (((Y4 rs zs).length:Nat):Int):=of_decide_eq_true c
       refine⟨_,rfl,.inl ⟨rfl,_,.of hZ⟩,_,rfl,S0,M0,_,_,rfl,rfl,hZ,hMo,by rw[tj,tj];exact zak (qo (by omega)),?_⟩
       rw[<-tE]
       have sT:Same H (upd H' S0 (.lst ((zs++Y4 rs zs).map V.str))):=Same.upd sH hS0
       refine⟨_,rfl,_,rfl,g,S0,rs,zs++Y4 rs zs,rfl,gr.mono sT,good,le14,qe,λH2 M2 s2 hM2 hM2'=>?_⟩
       have z2:=s2 _ _ (qe (H:=H') (a:=S0) (o:=HO.lst ((zs++Y4 rs zs).map V.str)))
       refine⟨⟨M2,zs++Y4 rs zs,rfl,sT.trans s2,z2,hM2',st2,λe=>by rw[<-e,qe]at hM2;cases hM2⟩,?_⟩
       show 15 - (match H2 S0 with | some (.lst xs)=>xs.length | _=>0) < 15 - (match H' S0 with | some (.lst xs)=>xs.length | _=>0)
       rw[z2,hZ]
       show 15 - ((zs++Y4 rs zs).map V.str).length < 15 - (zs.map V.str).length
       rw[tj,tj,tL]
       omega
     . have c':¬(0:Int) < (((Y4 rs zs).length:Nat):Int):=λz=>c (decide_eq_true z)
       exact⟨_,rfl,q H' S0 zs sH hS0 hZ st (zad (by omega))⟩
   . rintro σ H' Q Q' f ⟨v,e,a,ys,e1,h1,i,j,e2,e3,b,e4,h2⟩
     exact⟨v,e,a,ys,e1,h1,i,j,e2,e3,b,e4,f _ _ h2⟩
end
open PySem L2 PyProof.Rows MRing
structure Wlk (rs:qR) (zs ws:List Str) (z:Str):Prop where
 nd:ws.Nodup
 chain:∀(i:Nat) (x y:Str),ws[i]?=some x->ws[i+1]?=some y->y∈jz rs x
 last:∀x,ws[ws.length - 1]?=some x->z∈jz rs x
 sub:∀y∈ws,y∈rs.map (·.1)
 at_:z∈out zs (rs.map (·.1))
theorem Wlk.go {rs:qR} (hn:(rs.map (·.1)).Nodup) {zs ws:List Str} {z:Str} (h:Wlk rs zs ws z) (nw:z∉ws) (e:Y4 rs zs=[]):∃y r,out zs (jz rs z)=y::r/\Wlk rs zs (ws++[z]) y:=by
 have hz:=Qj.mp h.at_
 cases c:out zs (jz rs z) with
 | nil=>
   have:z∈Y4 rs zs:=Zl.mpr ⟨hz.1,hz.2,λy hy=>Classical.byContradiction λn=>by
     have:y∈out zs (jz rs z):=Qj.mpr ⟨hy,n⟩
     rw[c]at this
     cases this⟩
   rw[e]at this
   cases this
 | cons y r=>
   have hy:y∈out zs (jz rs z):=by rw[c];exact t7
   obtain⟨y1,y2⟩:=Qj.mp hy
   refine⟨y,r,rfl,⟨?_,λi x u ex eu=>?_,λx ex=>?_,λu hu=>?_,Qj.mpr ⟨Q1 hn z hz.1 y y1,y2⟩⟩⟩
   . refine zbN.mpr ⟨h.nd,zbB _ _,λa ha b hb e'=>nw ?_⟩
     rw[<-zac.mp hb,<-e']
     exact ha
   . have li:i < (ws++[z]).length:=(tq.mp ex).1
     have lu:i+1 < (ws++[z]).length:=(tq.mp eu).1
     rw[tL,zas]at li lu
     rw[t8 (by omega)]at ex
     by_cases d:i+1 < ws.length
     . rw[t8 d]at eu
       exact h.chain i x u ex eu
     . rw[zab (by omega)]at eu
       have:i+1 - ws.length=0:=by omega
       rw[this]at eu
       obtain rfl:=tO.inj eu
       exact h.last x (by rw[<-ex];congr 1;omega)
   . rw[tL,zas,Nat.add_sub_cancel,zab (tw _),zbR]at ex
     obtain rfl:=tO.inj ex
     exact y1
   . rcases zai.mp hu with hu | hu
     . exact h.sub u hu
     . rw[zac.mp hu]
       exact hz.1
theorem wS {ws:List Str} {z:Str} (nd:ws.Nodup) (h:z∈ws):∃j:Nat,ws[j]?=some z/\∀i:Nat,i < j->ws[i]?≠some z:=by
 obtain⟨j,hj,e⟩:=zcv h
 refine⟨j,by rw[tu hj,e],λi hi e'=>?_⟩
 obtain⟨hi',e''⟩:=tq.mp e'
 have:=Yv nd (e''.trans e.symm)
 omega
theorem ub (ws:List Str) {j:Nat} (h:j < ws.length):L2.cutV (ws.map V.str) (some (j:Int)) none=(ws.drop j).map V.str:=by
 unfold L2.cutV
 rw[HT.sIx_none,HT.sIx_nat,tj,zcc (zak h),List.map_drop]
 exact tF (by rw[zaU,tj];exact tw _)
def Zr (zs:List Str) (G:Str->List Str) (z0:Str):Nat->List Str×Str
 | 0=>([],z0)
 | n+1=>if (Zr zs G z0 n).2∈(Zr zs G z0 n).1 then Zr zs G z0 n else ((Zr zs G z0 n).1++[(Zr zs G z0 n).2],(out zs (G (Zr zs G z0 n).2)).headD (Zr zs G z0 n).2)
theorem ZQ {zs:List Str} {G:Str->List Str} {z0:Str} {n:Nat} (h:(Zr zs G z0 n).2∈(Zr zs G z0 n).1):∀m,Zr zs G z0 (n+m)=Zr zs G z0 n
 | 0=>rfl
 | m+1=>by
   show Zr zs G z0 ((n+m)+1)=_
   rw[Zr,ZQ h m,if_pos h]
theorem yA {zs:List Str} {G:Str->List Str} {z0:Str} {n m:Nat} (h:(Zr zs G z0 n).2∈(Zr zs G z0 n).1) (h':(Zr zs G z0 m).2∈(Zr zs G z0 m).1):Zr zs G z0 n=Zr zs G z0 m:=by
 rcases Nat.le_total n m with c | c
 . obtain⟨k,rfl⟩:=zcY c
   exact(ZQ h k).symm
 . obtain⟨k,rfl⟩:=zcY c
   exact ZQ h' k
theorem zS {zs zs':List Str} (e:∀l,out zs l=out zs' l) (G:Str->List Str) (z0:Str):∀n,Zr zs G z0 n=Zr zs' G z0 n
 | 0=>rfl
 | n+1=>by rw[Zr,Zr,zS e G z0 n,e]
def zc (rs:qR) (r:List Str):Prop:=∃(zs ws:List Str) (z z0:Str) (rest:List Str) (j n:Nat),za rs zs/\Y4 rs zs=[]/\out zs (rs.map (·.1))=z0::rest/\Zr zs (jz rs) z0 n=(ws,z)/\ws.Nodup/\ws[j]?=some z/\r=ws.drop j
theorem WY {rs:qR} (hn:(rs.map (·.1)).Nodup) {zs zs':List Str} (a:za rs zs) (a':za rs zs') (e':Y4 rs zs'=[]):∀z∈zs,z∈zs':=λz hz=>Classical.byContradiction λn=>by
 have t:UB (jz rs) (out zs' (rs.map (·.1))):=λy hy=>by
   obtain⟨y1,y2⟩:=Qj.mp hy
   have ny:y∉Y4 rs zs':=by rw[e'];exact λh=>nomatch h
   have:¬∀x∈jz rs y,x∈zs':=λh=>ny (Zl.mpr ⟨y1,y2,h⟩)
   obtain⟨x,hx⟩:=Classical.not_forall.mp this
   obtain⟨x1,x2⟩:=Classical.not_imp.mp hx
   exact⟨x,x1,Qj.mpr ⟨Q1 hn y y1 x x1,x2⟩⟩
 exact a.far _ t z (Qj.mpr ⟨a.sub z hz,n⟩) hz
theorem xG {zs zs':List Str} (h:∀z,z∈zs↔z∈zs') (l:List Str):out zs l=out zs' l:=by
 unfold out
 refine zcL λy _=>?_
 have:Jd (.str y) (zs.map V.str)=Jd (.str y) (zs'.map V.str):=by rw[zaS,Jo,Jo];exact h y
 rw[this]
theorem zc.uniq {rs:qR} (hn:(rs.map (·.1)).Nodup) {r r':List Str} (h:zc rs r) (h':zc rs r'):r=r':=by
 obtain⟨zs,ws,z,z0,rest,j,n,a,e,o,wk,nd,ej,rfl⟩:=h
 obtain⟨zs',ws',z',z0',rest',j',n',a',e',o',wk',nd',ej',rfl⟩:=h'
 have eo:∀l,out zs l=out zs' l:=xG λy=>⟨WY hn a a' e' y,WY hn a' a e y⟩
 rw[eo,o']at o
 obtain⟨rfl,_⟩:=List.cons.inj o
 rw[zS eo]at wk
 have m1:(Zr zs' (jz rs) z0' n).2∈(Zr zs' (jz rs) z0' n).1:=by rw[wk];exact tQ ej
 have m2:(Zr zs' (jz rs) z0' n').2∈(Zr zs' (jz rs) z0' n').1:=by rw[wk'];exact tQ ej'
 have:=yA m1 m2
 rw[wk,wk']at this
 obtain⟨rfl,rfl⟩:=Prod.mk.inj this
 obtain⟨i1,i2⟩:=tq.mp ej
 obtain⟨k1,k2⟩:=tq.mp ej'
 rw[Yv nd (i2.trans k2.symm)]
def Zq (rs:qR):Prop:=∀T,(∀z∈T,z∈rs.map (·.1))->UB (jz rs) T->T=[]
def yU (CG:Addr):Sp:=λvs H Q _=>∃(g:Addr) (rs:qR),vs=[.ref g]/\jB CG H g rs/\qy rs/\rs.length<=14/\
 ∀H' v,Same H H'->((v=.non/\Zq rs)\/∃l r,v=.ref l/\H l=none/\H' l=some (.lst (r.map V.str))/\UD (jz rs) r/\(∀z∈r,z∈rs.map (·.1))/\zc rs r)->Q v H'
section
variable {P:Program} {w:World} {K:PySem.W.Frag} {mg:Str->Option Value} {base:Heap}
abbrev nRI:List Str:=["ground","settled","left","walked","name"]
theorem kx:qr nRI ["ground"] (ql R7):=⟨rfl,rfl,rfl,by decide+kernel,rfl,by decide+kernel,by decide+kernel⟩
theorem xN {f fE fS fP CG:Addr} {fd fdE fdS fdP:FuncData} (F:jG K "ring_in" "ring_in" R7 f fd) (B:Qe mg) (G:jF mg) (T:jP K mg) (M:GM K mg CG) (hE:qQ K mg "ends_left" Kf xF fE fdE) (hS:qQ K mg "settled_next" Rf Rp fS fdS)
   (hP:qQ K mg "places_to_no_ring" R8 ["ground"] fP fdP):qp P w K mg base qI 6 f fd ["ground"] (yU CG):=by
 have GE:qp P w K mg base qI 3 fE fdE xF (uN CG):=Ru hE.fn B G T M
 have GP:qp P w K mg base qI 5 fP fdP ["ground"] (RM CG):=Rr hP.fn B G T M hE hS
 obtain⟨fC,fdC,C⟩:=M.cls
 obtain⟨fM,fdM,hM⟩:=M.nm
 have GM:qp P w K mg base qI 1 fM fdM ["self"] (Q4 CG):=Q9 hM.fn C G
 refine F.okJ kx (λvs H Q E h=>?_) (λcdv A outer s H vs Q E hr h=>?_)
 . obtain⟨g,rs,rfl,_⟩:=h
   rfl
 . obtain⟨g,rs,rfl,gr,good,le14,q⟩:=h
   have r1:qN 1 _:=hr.mono (by decide)
   have r3:qN 3 _:=hr.mono (by decide)
   refine⟨_,qg (qw (i:=1) kx.nd rfl (Or.inr rfl) (qG hP GP hr (by rfl) (qd (jv 0) qf)))
     (qg (QN (i:=2) (N':=["name","settled"]) (ix:=[none,some 1]) (tt:=zg (YY (Nj K true) (qW 0) (qW 1))) (te:=qW 0) kx.nd rfl (Or.inl rfl) rfl ⟨rfl,rfl,rfl,rfl,rfl⟩ (qJ (Vk hM C.cl GM r1 (jv 0))) (λC s2 H2 fp pins=>
       ⟨qv (i:=0) (show (["name","settled"]:List Str).Nodup by decide+kernel) rfl (Or.inl rfl),jJ (qt jI (jv 0) (jv 1) (by with_unfolding_all rfl)),jv 0⟩))
     (qg (qK (qt Qn (qx qD (by rfl) B.len boot_len (qd (jv 2) qf)) qm (qA _)) (qh (qu YB)) qB)
     (qg (qw (i:=3) kx.nd rfl (Or.inl rfl) (jE qf))
     (qg (qw (i:=4) kx.nd rfl (Or.inl rfl) (jx j9 (jv 2) qm (λ_ _=>rfl)))
     (qg (QM PassesOwn.never (qt jI (jv 4) (jv 3) (by with_unfolding_all rfl))
       (qg (je (QV zaj zaE zaF jY (jv 3) (qd (jv 4) qf)))
       (qh (qw (i:=4) kx.nd rfl (Or.inl rfl) (jx j9 (qG hE GE r3 (by rfl) (qd (jv 0) (qd (jv 1) (qd (jv 4) qf)))) qm (λ_ _=>rfl))))))
     (qh (qu (Qt Zu (jv 3) (QS (QV zaj zcU PySem.F.type_list_index x9 (jv 3) (qd (jv 4) qf))) QT)))))))),?_⟩
   refine⟨_,rfl,g,rs,rfl,gr,good,le14,λH1 S zs s1 hS hS1 st en=>?_⟩
   obtain⟨dx,fs,hg,l1,l2⟩:=(gr.mono s1).ins
   refine⟨_,rfl,g,dx,fs,rfl,hg,l1,g,rs,rfl,gr.mono s1,λln hln=>⟨ln,rfl,⟨_,.of qe⟩,λW hW=>?_⟩⟩
   have s2:Same H (upd H1 ln (.lst ((rs.map (·.1)).map V.str))):=s1.trans (qk hln)
   have hl2:upd H1 ln (.lst ((rs.map (·.1)).map V.str)) ln=some (.lst ((rs.map (·.1)).map V.str)):=qe
   have hS2:upd H1 ln (.lst ((rs.map (·.1)).map V.str)) S=some (.lst (zs.map V.str)):=qj hS1 hln
   generalize upd H1 ln (.lst ((rs.map (·.1)).map V.str))=H2 at s2 hl2 hW hS2
   refine jw (K:=K) (a:=ln) (xs:=(rs.map (·.1)).map V.str) (λj σ'' H''=>∃v0,σ''=[v0,some (.ref S)]/\H''=upd H2 W (.lst ((out zs ((rs.map (·.1)).take j)).map V.str))) ⟨none,rfl,rfl⟩ (λj σ'' H'' _ ⟨_,_,e⟩=>e▸.of (qj hl2 hW)) ?_ ?_
   . rintro j y σ'' H'' hy ⟨v0,rfl,rfl⟩
     obtain⟨z,ez,hz,rfl⟩:=jo hy
     refine⟨_,rfl,_,rfl,S,_,rfl,.inl (.of (qj hS2 hW)),rfl,Qd _,_,rfl,?_⟩
     rw[Yo ez]
     show if (!Jd (.str z) (zs.map V.str))=true then _ else _
     cases c:(!Jd (.str z) (zs.map V.str)) with
     | true=>
       refine jZ ⟨_,rfl,_,qe,?_,_,rfl,?_⟩
       . rw[tj]
         refine qo (tV (Wh _ _) ?_)
         rw[tJ,tj]
         omega
       . rw[jd,if_pos rfl,tE]
         rfl
     | false=>
       refine qV ⟨_,rfl,?_⟩
       rw[if_neg tK,zaz]
   . rintro σ'' H'' ⟨v0,rfl,rfl⟩
     rw[tj,tF (tw _)]
     have s3:Same H (upd H2 W (.lst ((out zs (rs.map (·.1))).map V.str))):=s2.trans (qk hW)
     have h3:upd H2 W (.lst ((out zs (rs.map (·.1))).map V.str)) W=some (.lst ((out zs (rs.map (·.1))).map V.str)):=qe
     have hS3:upd H2 W (.lst ((out zs (rs.map (·.1))).map V.str)) S=some (.lst (zs.map V.str)):=qj hS2 hW
     generalize upd H2 W (.lst ((out zs (rs.map (·.1))).map V.str))=H3 at s3 h3 hS3
     refine⟨_,rfl,W,_,rfl,.inl (.of h3),rfl,_,rfl,?_⟩
     rw[tj]
     cases c:out zs (rs.map (·.1)) with
     | nil=>
       refine jR (decide_eq_true rfl) (q _ _ s3 (.inl ⟨rfl,λT0 sub t=>zbl.mpr λy hy=>?_⟩))
       have:y∈out zs (rs.map (·.1)):=Qj.mpr ⟨sub y hy,st.far T0 t y hy⟩
       rw[c]at this
       cases this
     | cons z0 rest=>
       rw[c]at h3
       refine jD (decide_eq_false λe=>by have:=V.int.inj e;rw[zat]at this;omega) ?_
       refine⟨by show 0<=sizeLine;decide,λD hD=>?_⟩
       refine⟨_,rfl,W,_,0,_,rfl,rfl,.of (qj h3 hD),JZ (j:=0) (rfl:(V.str z0::rest.map V.str)[0]?=some (V.str z0)),?_⟩
       have hD0:H D=none:=jN s3 hD
       refine QG (λσ H'=>∃(z:Str) (ws:List Str),σ=[some (.ref g),some (.ref S),some (.ref W),some (.ref D),some (.str z)]/\Same H3 H'/\H' D=some (.lst (ws.map V.str))/\Wlk rs zs ws z/\∃n,Zr zs (jz rs) z0 n=(ws,z))
         (λσ H'=>15 - (match H' D with | some (.lst xs)=>xs.length | _=>0))
         ⟨z0,[],rfl,qk hD,qe,⟨zaY,λi x y e=>by simp at e,λx e=>by simp at e,λy h=>(nomatch h),by rw[c];exact t7⟩,0,rfl⟩ ?_ ?_
       . rintro σ H' ⟨z,ws,rfl,sH,hDw,wk,n,wn⟩
         have lw:=Zg wk.sub wk.nd
         refine⟨_,rfl,_,rfl,D,_,rfl,.inl (.of hDw),rfl,Qd _,_,rfl,?_⟩
         show if (!Jd (.str z) (ws.map V.str))=true then _ else _
         refine Y5 (λcc=>?_) (λcc=>?_)
         . have nw:z∉ws:=λm=>by
             rw[Jo.mpr m]at cc
             cases cc
           obtain⟨y,r,eo,wk2⟩:=wk.go good.nd nw en
           have lw2:=Zg wk2.sub wk2.nd
           rw[tL,zas]at lw2
           refine⟨_,rfl,.inl ⟨rfl,_,.of hDw⟩,_,rfl,D,_,_,rfl,rfl,hDw,by rw[tj];exact qo (by omega),?_⟩
           have em:ws.map V.str++[V.str z]=(ws++[z]).map V.str:=by rw[tE];rfl
           rw[em]
           have sT:Same H3 (upd H' D (.lst ((ws++[z]).map V.str))):=Same.upd sH hD
           obtain⟨rz,hrz,erz⟩:=tG.mp (Qj.mp wk.at_).1
           subst erz
           have sA:=s3.trans sT
           refine⟨_,rfl,_,rfl,_,rfl,g,S,rs,rz,zs,rfl,gr.mono sA,hrz,good.nm rz hrz,le14,sT _ _ hS3,λH5 l5 s5 hl5 hl5'=>?_⟩
           rw[<-Qk good.nd hrz,eo]at hl5'
           refine⟨l5,_,0,_,rfl,rfl,.of hl5',JZ (j:=0) (rfl:(V.str y::r.map V.str)[0]?=some (V.str y)),?_⟩
           have d5:=s5 _ _ (qe (H:=H') (a:=D) (o:=HO.lst ((ws++[rz.1]).map V.str)))
           refine⟨⟨y,ws++[rz.1],rfl,sT.trans s5,d5,wk2,n+1,by rw[Zr,wn,if_neg nw];show (_,(out zs (jz rs rz.1)).headD rz.1)=_;rw[eo];rfl⟩,?_⟩
           show 15 - (match H5 D with | some (.lst xs)=>xs.length | _=>0) < 15 - (match H' D with | some (.lst xs)=>xs.length | _=>0)
           rw[d5,hDw]
           show 15 - ((ws++[rz.1]).map V.str).length < 15 - (ws.map V.str).length
           rw[tj,tj,tL,zas]
           omega
         . have iw:z∈ws:=Classical.byContradiction λn=>cc (by
             cases e:Jd (.str z) (ws.map V.str) with
             | false=>rfl
             | true=>exact absurd (Jo.mp e) n)
           obtain⟨j,ej,fj⟩:=wS wk.nd iw
           have jl:=(tq.mp ej).1
           refine⟨_,rfl,_,rfl,.inl ⟨rfl,_,.of hDw⟩,_,rfl,D,ws,z,j,rfl,rfl,.of hDw,ej,fj,_,rfl,D,_,rfl,.of hDw,λp hp=>?_⟩
           rw[ub ws jl]
           have sF:=s3.trans sH
           refine q _ _ (sF.trans (qk hp)) (.inr ⟨p,ws.drop j,rfl,jN sF hp,qe,Kk wk.nd wk.chain wk.last ej,λy hy=>wk.sub y (List.mem_of_mem_drop hy),zs,ws,z,z0,rest,j,n,st,en,c,wn,wk.nd,ej,rfl⟩)
       . rintro σ H' Q Q' f ⟨v,e,v2,e2,p,xs,e3,h1,h2,h3,b,e4,h4⟩
         exact⟨v,e,v2,e2,p,xs,e3,h1,h2,h3,b,e4,f _ _ h4⟩
end
open PySem L2 PyProof.Rows MRing
theorem YH (zs:List Str):PyData.eqv (dL zs) (dL [])=zs.isEmpty:=by cases zs<;>rfl
abbrev M4:Stmt:=top 81
def RL:Sp:=λvs H Q _=>∃(l lr:Addr) (ps:List Addr) (rs:qR) (r:List Str),vs=[.ref l,.ref lr]/\qY H l ps rs/\H lr=some (.lst (r.map V.str))/\UD (jz rs) r/\(∀z∈r,z∈rs.map (·.1))/\∀H',Same H H'->Q (.bl true) H'
theorem YL (ws:List Str) (j:Nat):L2.cutV (ws.map V.str) none (some (j:Int))=(ws.take j).map V.str:=by
 unfold L2.cutV
 rw[HT.sIx_none,HT.sIx_nat,tj,List.map_take]
 show ((ws.map V.str).drop 0).take (min j ws.length - 0)=_
 rw[zdp,zdB]
 rcases Nat.le_total j ws.length with h | h
 . rw[zcc h]
 . rw[zcS h,tF (by rw[tj];exact tw _),tF (by rw[tj];exact h)]
theorem Vy (ws:List Str) (j:Nat) (h:j<=ws.length):L2.cutV (ws.map V.str) (some (j:Int)) none=(ws.drop j).map V.str:=by
 unfold L2.cutV
 rw[HT.sIx_none,HT.sIx_nat,tj,zcc h,List.map_drop]
 exact tF (by rw[zaU,tj];exact tw _)
section
variable {P:Program} {w:World} {K:PySem.W.Frag} {mg:Str->Option Value} {base:Heap}
abbrev nRG:List Str:=["_law_rows_here","_law_ring","_law_leads_here","_law_name","_law_other"]
abbrev Ms:List Str:=["_law_rows_here","_law_ring"]
theorem uU:qr nRG Ms (ql M4):=⟨rfl,rfl,rfl,by decide+kernel,rfl,by decide+kernel,by decide+kernel⟩
theorem qak {f:Addr} {fd:FuncData} (F:jG K "_law_ring_good" "_law_ring_good" M4 f fd) (B:Qe mg) (G:jF mg) (T:jP K mg) (hdi:mg "dict"=none) (hzi:mg "zip"=none):qp P w K mg base qI 1 f fd Ms RL:=by
 refine F.okJ uU (λvs H Q E h=>?_) (λcdv A outer s H vs Q E hr h=>?_)
 . obtain⟨l,lr,ps,rs,r,rfl,_⟩:=h
   rfl
 . obtain⟨l,lr,ps,rs,r,rfl,g,hlr,ring,sub,q⟩:=h
   have hu:=jS hr
   refine⟨_,qg (qw (i:=2) uU.nd rfl (Or.inl rfl) (q5 (Zp rfl) (by rfl) hdi boot_dict (qd (jv 0) qf)))
     (qg (qK (j3 (ju (qX (qx qP (by rfl) T.isi boot_isinstance (qd (jv 1) (qd (jL (v:=.ty "list") (by rfl) G.lst boot_list rfl) qf)))))
         (j3 (qt (Yp hr.units) (jv 1) (jE qf) (qA _))
         (jW (qt Xp (k8 rfl (by rfl) B.len (by rfl) G.set (jv 1)) (qx qD (by rfl) B.len boot_len (qd (jv 1) qf)) (qA _))))).pt (qh (qu jy)) qB)
     (qg (ja PassesOwn.never rfl (NT (by rfl) hzi (qd (jv 1) (qd (qO Ky (Qt Zu (jv 1) (QS qm) QT) (Qt Zu (jv 1) QT (QS qm))) qf)))
         (Z6 rfl (jM (qv (i:=3) uU.nd rfl (Or.inl rfl)) (jM (qv (i:=4) uU.nd rfl (Or.inl rfl)) JX)))
       (qh (qK (j3 (Qy (JY hu (jv 3) (jv 2))) (jW (qt jI (jv 4) (jk hu (jv 2) (jv 3) (λ_ _=>rfl)) (by with_unfolding_all rfl)))).pt (qh (qu jy)) qB)))
     (qh (qu jy)))),?_⟩
   refine⟨_,rfl,Ud ?_⟩
   refine YJ g λd kv0 hd ek0 hv0=>?_
   have s1:Same H (upd H d (.dK kv0)):=qk hd
   have hd1:upd H d (.dK kv0) d=some (.dK kv0):=qe
   have hv1:∀x∈rs,∃t,qS kv0 (Sum.inr x.1:qF)=some (.ref t)/\upd H d (.dK kv0) t=some (.tup (x.2.map V.str)):=λx hx=>let ⟨t,a,b⟩:=hv0 x hx;⟨t,a,s1 _ _ b⟩
   generalize upd H d (.dK kv0)=H1 at s1 hd1 hv1
   have hlr1:=s1 _ _ hlr
   have le:=g.le
   have lr14:r.length<=14:=by
     have:=Qf ring.nd sub
     rw[tj]at this
     omega
   have nmr:∀z∈r,jc z=true:=λz hz=>by
     obtain⟨x,hx,rfl⟩:=tG.mp (sub z hz)
     exact g.good.nm x hx
   refine⟨_,rfl,_,_,_,_,rfl,rfl,.lst hlr1,T.kll,_,rfl,qV ?_⟩
   refine⟨_,rfl,by show 0<=sizeLine;decide,λl0 hl0=>?_⟩
   refine⟨dL r,dL [],Y9 (qj hlr1 hl0),Y9 qe,Ra nmr,Ra (λy h=>(nomatch h)),_,rfl,?_⟩
   rw[YH]
   have ne:r.isEmpty=false:=by
     cases r with
     | nil=>exact absurd rfl ring.ne
     | cons a b=>rfl
   refine jD ne ?_
   have s2:Same H1 (upd H1 l0 (.lst [])):=qk hl0
   generalize upd H1 l0 (.lst [])=H2 at s2
   have hlr2:=s2 _ _ hlr1
   refine⟨_,rfl,lr,r,rfl,.of hlr2,by omega,ring.nd,_,rfl,lr,_,rfl,.inl (.of hlr2),rfl,?_⟩
   rw[tj]
   refine⟨_,rfl,jD (by simp) ?_⟩
   refine⟨_,rfl,_,rfl,_,rfl,lr,_,rfl,.of hlr2,λp1 hp1=>?_⟩
   have s3:=qk (o:=HO.lst (L2.cutV (r.map V.str) (some 1) none)) hp1
   refine⟨_,rfl,_,rfl,lr,_,rfl,.of (s3 _ _ hlr2),λp2 hp2=>?_⟩
   have s4:=qk (o:=HO.lst (L2.cutV (r.map V.str) none (some 1))) hp2
   refine⟨p1,p2,_,_,rfl,rfl,.of (s4 _ _ qe),.of qe,?_,λlz hlz=>?_⟩
   . have c1:=Vy r 1 (by cases r with | nil=>exact absurd rfl ring.ne | cons a b=>exact zcP (zap _))
     have c2:=YL r 1
     have e1:L2.cutV (r.map V.str) (some 1) none=(r.drop 1).map V.str:=c1
     have e2:L2.cutV (r.map V.str) none (some 1)=(r.take 1).map V.str:=c2
     rw[e1,e2,tj,tj,zaU,tJ]
     exact zak (qo (by omega))
   have c1:=Vy r 1 (by cases r with | nil=>exact absurd rfl ring.ne | cons a b=>exact zcP (zap _))
   have c2:=YL r 1
   have e1:L2.cutV (r.map V.str) (some 1) none=(r.drop 1).map V.str:=c1
   have e2:L2.cutV (r.map V.str) none (some 1)=(r.take 1).map V.str:=c2
   rw[e1]at s3 s4 hp2 hlz
   rw[e2]at s4 hlz
   rw[e1,e2,<-tE]
   have s24:=s3.trans s4
   generalize upd (upd H2 p1 (.lst ((r.drop 1).map V.str))) p2 (.lst ((r.take 1).map V.str))=H4 at s4 s24 hlz
   have lt:(r.drop 1++r.take 1).length=r.length:=by
     rw[tL,zaU,tJ]
     omega
   refine⟨lr,lz,rfl,⟨_,.of (qj (s24 _ _ hlr2) hlz)⟩,⟨_,.of qe⟩,?_⟩
   have hd4:=s24 _ _ (s2 _ _ hd1)
   refine Gg (K:=K) (a:=lr) (b:=lz) (xs:=r.map V.str) (ys:=(r.drop 1++r.take 1).map V.str) (by rw[tj,tj,lt]) (λi σ H'=>∃v3 v4,σ=[some (.ref l),some (.ref lr),some (.ref d),v3,v4]/\Same H4 H'/\H' lz=some (.lst ((r.drop 1++r.take 1).map V.str)))
     ⟨none,none,rfl,qk hlz,qe⟩ (λi σ H' _ ⟨_,_,_,a,b⟩=>⟨.of (a _ _ (s24 _ _ hlr2)),.of b⟩) ?_ ?_
   . rintro i x y σ H' p hx hy hp ⟨v3,v4,rfl,sH,hz⟩
     obtain⟨z,ez,hz1,rfl⟩:=jo hx
     obtain⟨z2,ez2,hz2,rfl⟩:=jo hy
     have go:=ring.go i z z2 ez ez2
     obtain⟨rz,hrz,erz⟩:=tG.mp (sub z hz1)
     subst erz
     obtain⟨t,ev,ht⟩:=hv1 rz hrz
     have sp:=sH.trans (qk (o:=HO.tup [V.str rz.1,V.str z2]) hp)
     have gz:=jU.k (k:=(Sum.inr rz.1:qF)) (sp _ _ hd4)
     rw[ev]at gz
     refine⟨p,_,rfl,.of qe,rfl,_,_,rfl,_,_,rfl,rfl,?_⟩
     refine⟨_,rfl,_,rfl,d,_,rfl,gz,_,rfl,qV ?_⟩
     refine⟨_,rfl,_,rfl,_,rfl,d,_,rfl,gz,t,_,rfl,.inr (.of (sp _ _ (s24 _ _ (s2 _ _ ht)))),rfl,Qd _,_,rfl,?_⟩
     have iv:Jd (.str z2) (rz.2.map V.str)=true:=Jo.mpr ((ZI g.good hrz).mp go)
     refine jD (by show (!Jd (.str z2) (rz.2.map V.str))=false;rw[iv];rfl) ?_
     exact⟨_,_,rfl,sp,qj hz hp⟩
   . rintro σ H' ⟨v3,v4,rfl,sH,hz⟩
     exact q _ ((s1.trans s2).trans (s24.trans sH))
end
open PySem L2 PyProof.Rows MRing
abbrev R9:Stmt:=top 21
theorem Vi {f:Str->Nat} {ys:List Str}:MLab.Lst f ys (Rb.lackN (ys.map f)):=by
 have h:Rb.Lacks (Rb.lackN (ys.map f)) (ys.map f):=Rb.lackI_lacks _
 refine⟨λj hj=>?_,λy hy e=>?_⟩
 . obtain⟨y,hy,e⟩:=tG.mp (h.2 j hj)
   exact⟨y,hy,e⟩
 . exact h.1 (by rw[<-e];exact tG.mpr ⟨y,hy,rfl⟩)
theorem _root_.MLab.Lst.congr {f f':Str->Nat} {ys:List Str} {n:Nat} (h:MLab.Lst f ys n) (e:∀y∈ys,f' y=f y):MLab.Lst f' ys n:=⟨λj hj=>let ⟨y,hy,z⟩:=h.lo j hj;⟨y,hy,(e y hy).trans z⟩,λy hy z=>h.no y hy ((e y hy).symm.trans z)⟩
theorem y9 {rs:qR} (nt:Zq rs) {zs:List Str} (en:Y4 rs zs=[]) (cl:∀z∈rs.map (·.1),∀y∈jz rs z,y∈rs.map (·.1)):∀z∈rs.map (·.1),z∈zs:=λz hz=>Classical.byContradiction λn=>by
 have t:UB (jz rs) ((rs.map (·.1)).filter λz=>decide (z∉zs)):=λx hx=>by
   obtain⟨a,b⟩:=tY.mp hx
   have b:=of_decide_eq_true b
   have:x∉Y4 rs zs:=by rw[en];exact λh=>nomatch h
   have:¬∀y∈jz rs x,y∈zs:=λc=>this (Zl.mpr ⟨a,b,c⟩)
   obtain⟨y,hy⟩:=Classical.not_forall.mp this
   obtain⟨hy,ny⟩:=Classical.not_imp.mp hy
   exact⟨y,hy,tY.mpr ⟨cl x a y hy,decide_eq_true ny⟩⟩
 have e:=nt _ (λz hz=>(tY.mp hz).1) t
 have m:z∈(rs.map (·.1)).filter λz=>decide (z∉zs):=tY.mpr ⟨hz,decide_eq_true n⟩
 rw[e]at m
 cases m
def Zf (f:Str->Nat) (zs:List Str):List (qF×V):=zs.map λz=>((Sum.inr z:qF),V.int (f z:Nat))
theorem ZB (f:Str->Nat) (zs:List Str):(Zf f zs).map (·.1)=zs.map Sum.inr:=by
 unfold Zf
 rw[zbE]
 rfl
theorem JQ {f:Str->Nat} {zs:List Str} (nd:zs.Nodup) {z:Str} (h:z∈zs):qS (Zf f zs) (Sum.inr z:qF)=some (.int (f z:Nat)):=by
 obtain⟨i,ei⟩:=zah h
 refine UM (i:=i) ?_ ?_
 . rw[ZB]
   exact Ja nd λa _ b _ e=>Sum.inr.inj e
 . unfold Zf
   rw[tH,ei]
   rfl
def yV (CG:Addr):Sp:=λvs H Q _=>∃(g:Addr) (rs:qR),vs=[.ref g]/\jB CG H g rs/\qy rs/\rs.length<=14/\Zq rs/\
 ∀H' D zs f,Same H H'->H D=none->H' D=some (.dK (Zf f zs))->za rs zs->(∀z∈rs.map (·.1),z∈zs)->(∀z∈zs,MLab.Lst f (jz rs z) (f z))->Q (.ref D) H'
section
variable {P:Program} {w:World} {K:PySem.W.Frag} {mg:Str->Option Value} {base:Heap}
abbrev nPN:List Str:=["ground","found","numbers","name"]
theorem ky:qr nPN ["ground"] (ql R9):=⟨rfl,rfl,rfl,by decide+kernel,rfl,by decide+kernel,by decide+kernel⟩
theorem qal {f fE fS fP fR fL CG:Addr} {fd fdE fdS fdP fdR fdL:FuncData} (F:jG K "plain_numbers" "plain_numbers" R9 f fd) (B:Qe mg) (G:jF mg) (T:jP K mg) (M:GM K mg CG) (hE:qQ K mg "ends_left" Kf xF fE fdE) (hS:qQ K mg "settled_next" Rf Rp fS fdS)
   (hP:qQ K mg "places_to_no_ring" R8 ["ground"] fP fdP) (hR:qQ K mg "ring_in" R7 ["ground"] fR fdR) (hL:qQ K mg "lacking" j7 ["numbers"] fL fdL):qp P w K mg base qI 7 f fd ["ground"] (yV CG):=by
 obtain⟨fC,fdC,C⟩:=M.cls
 obtain⟨fF,fdF,hF⟩:=M.fr
 obtain⟨fN,fdN,hN⟩:=M.isn
 have GF:qp P w K mg base qI 2 fF fdF ["self","name"] (JM CG):=Jy hF.fn C B G T hN
 have GP:qp P w K mg base qI 5 fP fdP ["ground"] (RM CG):=Rr hP.fn B G T M hE hS
 have GR:qp P w K mg base qI 6 fR fdR ["ground"] (yU CG):=xN hR.fn B G T M hE hS hP
 have GL:qp P w K mg base qI 1 fL fdL ["numbers"] (ZT K):=Ys hL.fn
 refine F.okJ ky (λvs H Q E h=>?_) (λcdv A outer s H vs Q E hr h=>?_)
 . obtain⟨g,rs,rfl,_⟩:=h
   rfl
 . obtain⟨g,rs,rfl,gr,good,le14,nt,q⟩:=h
   have hu:=jS hr
   have r1:qN 1 _:=hr.mono (by decide)
   have r2:qN 2 _:=hr.mono (by decide)
   have r5:qN 5 _:=hr.mono (by decide)
   refine⟨_,qg (qw (i:=1) ky.nd rfl (Or.inl rfl) (qG hR GR hr (by rfl) (qd (jv 0) qf)))
     (qg (qK (qt vA (jv 1) YB (qA _)) qZ qB)
     (qg (qw (i:=2) ky.nd rfl (Or.inr rfl) Qi)
     (qg (ja PassesOwn.never rfl (qJ (qG hP GP r5 (by rfl) (qd (jv 0) qf))) (qv (i:=3) ky.nd rfl (Or.inl rfl))
       (qh (jC hu (jv 2) (jv 3) (qG hL GL r1 (by rfl) (qd (jX (N':=["end","numbers"]) (ix:=[none,some 2]) (te:=Xg (qW 1) (qW 0)) rfl ⟨rfl,rfl,rfl,rfl,rfl⟩ (qJ (Xz hF C.cl GF r2 (jv 0) (qd (jv 3) qf))) (λC s2 H2 fp pins=>
         ⟨qv (i:=0) (show (["end","numbers"]:List Str).Nodup by decide+kernel) rfl (Or.inl rfl),jK,jk hu (jv 1) (jv 0) (λ_ _=>rfl)⟩)) qf)) rfl)))
     (qh (qu (jv 2)))))),?_⟩
   have cl:=Q1 good.nd
   obtain⟨dx,fs,hg,l1,l2⟩:=gr.ins
   refine⟨_,rfl,g,rs,rfl,gr,good,le14,λH1 v s1 hv=>?_⟩
   have vn:v=.non:=by
     rcases hv with ⟨e,_⟩ | ⟨l,r,_,_,_,ring,inr,_⟩
     . exact e
     . exact absurd (nt r inr ring.trap) ring.ne
   subst vn
   refine⟨_,rfl,rfl,_,rfl,?_⟩
   rw[decide_eq_true rfl]
   refine qV λD hD=>?_
   have s2:Same H1 (upd H1 D (.dK [])):=qk hD
   have h2:upd H1 D (.dK []) D=some (.dK []):=qe
   have nD:H D=none:=jN s1 hD
   generalize upd H1 D (.dK [])=H2 at s2 h2
   have s02:=s1.trans s2
   refine⟨_,rfl,g,rs,rfl,gr.mono s02,good,le14,λH3 lz zs s3 nlz hlz st en=>⟨lz,rfl,⟨_,.of hlz⟩,?_⟩⟩
   have s03:=s02.trans s3
   have nlD:lz≠D:=λe=>by rw[e,h2]at nlz;cases nlz
   have lzs:=Zg st.sub st.nd
   refine js (K:=K) (a:=lz) (xs:=zs.map V.str) (λi σ' X=>∃(v3:Option V) (f:Str->Nat),σ'=[some (.ref g),some .non,some (.ref D),v3]/\Same H X/\X lz=some (.lst (zs.map V.str))/\X D=some (.dK (Zf f (zs.take i)))/\∀z∈zs.take i,MLab.Lst f (jz rs z) (f z))
     ⟨_,λ_=>0,rfl,s03,hlz,s3 _ _ h2,λz h=>(nomatch h)⟩ (λi σ' X _ ⟨_,_,_,_,h,_⟩=>.of h) ?_ ?_
   . rintro i y σ' X hy ⟨v3,f,rfl,sX,xlz,xD,lst⟩
     obtain⟨z,ez,hz,rfl⟩:=jo hy
     have hi:=(tq.mp ez).1
     obtain⟨r,hr',rfl⟩:=tG.mp (st.sub z hz)
     have eg:jz rs r.1=jg rs r:=Qk good.nd hr'
     have ahead:∀y∈jg rs r,y∈zs.take i:=λy hy=>by
       rw[<-eg]at hy
       obtain⟨j,hj,ej⟩:=st.st i r.1 ez y hy
       refine tQ (i:=j) ?_
       rw[zbb]
       rw[if_pos hj]
       exact ej
     have ndt:(zs.take i).Nodup:=st.nd.sublist (zbK _ _)
     have lrd:=Ze (rs:=rs) (r:=r)
     refine⟨_,rfl,g,dx,fs,rfl,sX _ _ hg,l2,_,rfl,g,rs,r,rfl,gr.mono sX,hr',good.nm r hr',λX1 le sX1 hle=>⟨le,rfl,⟨_,.of qe⟩,λU hU=>?_⟩⟩
     have sA:Same X (upd X1 le (.lst ((jg rs r).map V.str))):=sX1.trans (qk hle)
     have hA:upd X1 le (.lst ((jg rs r).map V.str)) le=some (.lst ((jg rs r).map V.str)):=qe
     generalize upd X1 le (.lst ((jg rs r).map V.str))=X2 at sA hA hU
     have xD2:=sA _ _ xD
     refine jw (K:=K) (a:=le) (xs:=(jg rs r).map V.str) (λj σ'' Y=>∃v0:Option V,σ''=[v0,some (.ref D)]/\Y=upd X2 U (.lst (Q0 (((jg rs r).take j).map f)))) ⟨none,rfl,rfl⟩ (λj σ'' Y _ ⟨_,_,e⟩=>e▸.of (qj hA hU)) ?_ ?_
     . rintro j y σ'' Y hy ⟨v0,rfl,rfl⟩
       obtain⟨z,ezz,hzz,rfl⟩:=jo hy
       have hj:=(tq.mp ezz).1
       have gd:=jU.k (k:=(Sum.inr z:qF)) (qj (o':=HO.lst (Q0 (((jg rs r).take j).map f))) xD2 hU)
       rw[JQ ndt (ahead z hzz)]at gd
       refine⟨_,rfl,_,rfl,D,_,rfl,gd,_,qe,?_,_,rfl,?_⟩
       . unfold Q0
         rw[tj,tj,tJ]
         exact qo (by omega)
       . unfold Q0
         rw[jd,tM,ezz,tE,tE]
         rfl
     . rintro σ'' Y ⟨v0,rfl,rfl⟩
       rw[tj,tF (tw _)]
       have sU:Same X2 (upd X2 U (.lst (Q0 ((jg rs r).map f)))):=qk hU
       have hU1:upd X2 U (.lst (Q0 ((jg rs r).map f))) U=some (.lst (Q0 ((jg rs r).map f))):=qe
       generalize upd X2 U (.lst (Q0 ((jg rs r).map f)))=X3 at sU hU1
       refine⟨U,(jg rs r).map f,rfl,.of hU1,by rw[tj];omega,λX4 s4=>?_⟩
       have sX4:Same X X4:=sA.trans (sU.trans s4)
       have xD4:=sX4 _ _ xD
       have nz:r.1∉zs.take i:=λm=>by
         obtain⟨j,ej⟩:=zah m
         rw[zbb]at ej
         by_cases c:j < i
         . rw[if_pos c]at ej
           obtain⟨a1,b1⟩:=tq.mp ej
           obtain⟨a2,b2⟩:=tq.mp ez
           exact zar.mp st.nd j i a1 a2 c (by rw[b1,b2])
         . rw[if_neg c]at ej
           cases ej
       have ek:qS (Zf f (zs.take i)) (Sum.inr r.1:qF)=none:=Q3 (by
         rw[ZB]
         exact λm=>by obtain⟨y,hy,e⟩:=tG.mp m;exact nz (Sum.inr.inj e▸hy))
       have lk:(Zf f (zs.take i)).length < sizeLine:=by
         unfold Zf
         rw[tj,tJ]
         exact qo (by omega)
       refine⟨_,rfl,_,rfl,D,_,rfl,Jc.k (k:=(Sum.inr r.1:qF)) xD4 lk,?_⟩
       have fz:∀y∈zs.take i,(λx=>if x=r.1 then Rb.lackN ((jg rs r).map f) else f x) y=f y:=λy hy=>by
         show (if y=r.1 then _ else f y)=f y
         rw[if_neg (λe=>nz (by rw[<-e];exact hy))]
       have gz:(λx=>if x=r.1 then Rb.lackN ((jg rs r).map f) else f x) r.1=Rb.lackN ((jg rs r).map f):=if_pos rfl
       refine⟨_,λx=>if x=r.1 then Rb.lackN ((jg rs r).map f) else f x,rfl,Same.upd (sX.trans sX4) nD,?_,?_,?_⟩
       . rw[qi nlD];exact sX4 _ _ xlz
       . rw[qe,Q8 _ ek,tM,ez]
         congr 2
         unfold Zf
         rw[tE]
         congr 1
         . exact zbf λy hy=>by rw[fz y hy]
         . show _=[((Sum.inr r.1:qF),V.int (((λx=>if x=r.1 then Rb.lackN ((jg rs r).map f) else f x) r.1:Nat):Int))]
           rw[gz]
       . intro y hy
         rw[tM,ez]at hy
         rcases zai.mp hy with hy | hy
         . have hyz:=zbn hy
           obtain⟨j,ej⟩:=zah hy
           rw[zbb]at ej
           by_cases c:j < i
           . rw[if_pos c]at ej
             have:=(lst y hy).congr (f':=λx=>if x=r.1 then Rb.lackN ((jg rs r).map f) else f x) λu hu=>fz u (by
               obtain⟨j2,hj2,ej2⟩:=st.st j y ej u hu
               refine tQ (i:=j2) ?_
               rw[zbb,if_pos (by omega)]
               exact ej2)
             rw[fz y hy]
             exact this
           . rw[if_neg c]at ej
             cases ej
         . have:y=r.1:=by simpa using hy
           subst this
           rw[gz,eg]
           exact Vi.congr λu hu=>fz u (ahead u hu)
   . rintro σ' X ⟨v3,f,rfl,sX,xlz,xD,lst⟩
     rw[tj,tF (tw _)]at xD lst
     exact⟨_,rfl,q X D zs f sX nD xD st (y9 nt en cl) lst⟩
end
open PySem L2 PyProof.Rows MRing
abbrev Ya:Stmt:=top 77
theorem Gb {n:Nat} {ns:List Nat}:Jd (.int (n:Nat)) (Q0 ns)=decide (n∈ns):=by
 rw[zaS,decide_eq_true_iff]
 unfold Jd Q0
 rw[zaV]
 constructor
 . rintro⟨y,hy,e⟩
   obtain⟨m,hm,rfl⟩:=tG.mp hy
   have e':decide ((m:Int)=(n:Int))=true:=e
   have:(m:Int)=(n:Int):=of_decide_eq_true e'
   have:m=n:=by omega
   exact this▸hm
 . intro h
   exact⟨_,tG.mpr ⟨n,h,rfl⟩,(decide_eq_true rfl:decide ((n:Int)=(n:Int))=true)⟩
theorem ym (ns:List Nat):(Q0 ns).all JD=true:=by
 rw[zaW]
 intro x hx
 obtain⟨n,_,rfl⟩:=tG.mp hx
 rfl
def U4:Sp:=λvs H Q _=>∃(a:Addr) (ns:List Nat),vs=[.ref a]/\H a=some (.lst (Q0 ns))/\ns.length<=1000/\Q (.int (Rb.lackN ns:Nat)) H
section
variable {P:Program} {w:World} {K:PySem.W.Frag} {mg:Str->Option Value} {base:Heap}
theorem xi:qr ["_law_numbers","_law_least_here"] ["_law_numbers"] (ql Ya):=⟨rfl,rfl,rfl,by decide+kernel,rfl,by decide+kernel,by decide+kernel⟩
theorem xT {f:Addr} {fd:FuncData} (F:jG K "_law_least" "_law_least" Ya f fd):qp P w K mg base qI 1 f fd ["_law_numbers"] U4:=by
 refine F.okJ xi (λvs H Q E h=>?_) (λcdv A outer s H vs Q E hr h=>?_)
 . obtain⟨a,ns,rfl,_⟩:=h
   rfl
 . obtain⟨a,ns,rfl,ha,len,q⟩:=h
   refine⟨_,qg (qw (i:=1) xi.nd rfl (Or.inl rfl) qm)
     (qg (QM PassesOwn.never (qt JR (jv 1) (jv 0) (by with_unfolding_all rfl))
       (qh (qw (i:=1) xi.nd rfl (Or.inl rfl) (qO Qo (jv 1) qm))))
     (qh (qu (jv 1)))),?_⟩
   have lk:Rb.Lacks (Rb.lackN ns) ns:=Rb.lackI_lacks _
   refine QG (λσ X=>∃n:Nat,σ=[some (.ref a),some (.int (n:Nat))]/\X=H/\n<=Rb.lackN ns) (λσ X=>match σ with | [_,some (.int n)]=>Rb.lackN ns - n.toNat | _=>0) ⟨0,rfl,rfl,zap _⟩ ?_ ?_
   . rintro σ X ⟨n,rfl,rfl,hn⟩
     refine⟨_,rfl,_,rfl,a,_,rfl,.inl (.of ha),rfl,ym ns,_,rfl,?_⟩
     show if Jd (.int (n:Nat)) (Q0 ns)=true then _ else _
     rw[Gb]
     by_cases c:n∈ns
     . rw[decide_eq_true c]
       have hn':n < Rb.lackN ns:=by
         rcases zbQ n (Rb.lackN ns) with h | h
         . exact h
         . have e:n=Rb.lackN ns:=by omega
           rw[e]at c
           exact absurd c lk.1
       refine jZ ⟨_,rfl,_,_,rfl,rfl,⟨n+1,rfl,rfl,by omega⟩,?_⟩
       show Rb.lackN ns - ((n:Int)+1).toNat < Rb.lackN ns - ((n:Int)).toNat
       omega
     . rw[decide_eq_false c]
       have e:n=Rb.lackN ns:=by
         rcases zbQ n (Rb.lackN ns) with h | h
         . exact absurd (lk.2 n h) c
         . omega
       refine qV ⟨_,rfl,?_⟩
       rw[e]
       exact q
   . rintro σ X Q Q' k ⟨v,e,u,e2,p,ys,e3,h1,h2,h3,b,e4,h4⟩
     exact⟨v,e,u,e2,p,ys,e3,h1,h2,h3,b,e4,k _ _ h4⟩
end
open PySem L2 PyProof.Rows MRing MLab
abbrev kA:Stmt:=top 79
theorem MT (n:Nat):PySem.SeqAt.shaped (.tuple [.str (Str.ofString "number"),.int (n:Nat)])=true:=by
 have h:PyData.strOk (Str.ofString "number")=true:=by decide+kernel
 unfold PySem.SeqAt.shaped
 simp only[PyData.canLay0,PyData.canLayAll0,h,PyData.depth,PyData.depthAll]
 rfl
structure Gz (rs:qR) (zs:List Str) (f:Str->Nat):Prop where
 sub:∀z∈zs,z∈rs.map (·.1)
 nd:zs.Nodup
 st:Stl (jz rs) zs
 lst:∀z∈zs,Lst f (jz rs z) (f z)
def U6 (CG:Addr):Sp:=λvs H Q _=>∃(g D:Addr) (rs:qR) (zs:List Str) (f:Str->Nat),vs=[.ref g,.ref D]/\jB CG H g rs/\qy rs/\rs.length<=14/\H D=some (.dK (Zf f zs))/\Gz rs zs f/\∀H',Same H H'->Q (.bl true) H'
section
variable {P:Program} {w:World} {K:PySem.W.Frag} {mg:Str->Option Value} {base:Heap}
abbrev qbS:List Str:=["_law_ground","_law_told","_law_labels"]
abbrev W7:List Str:=["_law_ground","_law_told"]
theorem Rc:qr qbS W7 (ql kA):=⟨rfl,rfl,rfl,by decide+kernel,rfl,by decide+kernel,by decide+kernel⟩
theorem qau:(["_law_name","_law_labels","_law_told"]:List Str).Nodup:=by decide+kernel
theorem Ny {f CG:Addr} {fd:FuncData} (F:jG K "_law_labels_good" "_law_labels_good" kA f fd) (B:Qe mg) (G:jF mg) (T:jP K mg) (M:GM K mg CG) (Y:UF K mg):qp P w K mg base qI 9 f fd W7 (U6 CG):=by
 obtain⟨fB,fdB,hB⟩:=Y.labels
 have GB:qp P w K mg base qI 8 fB fdB ["ground"] (zU CG):=Xq hB.fn B G T M Y
 refine F.okJ Rc (λvs H Q E h=>?_) (λcdv A outer s H vs Q E hr h=>?_)
 . obtain⟨g,D,rs,zs,f,rfl,_⟩:=h
   rfl
 . obtain⟨g,D,rs,zs,f,rfl,gr,good,le14,hD,pl,q⟩:=h
   have hu:=jS hr
   refine⟨_,qg (qw (i:=2) Rc.nd rfl (Or.inr rfl) (qG hB GB hr (by rfl) (qd (jv 0) qf)))
     (qh (K2 (qu (jQ (Yp hr.units) (jX (N':=["_law_name","_law_labels","_law_told"]) (ix:=[none,some 2,some 1]) (tt:=zg (YY (qad K false) (tSl (M8 K) (Xg (qW 1) (qW 0)) UR (GQ (tC (.int 2)))) (yJ (jA (tC (.str (Str.ofString "number"))) (jA (Xg (qW 2) (qW 0)) QD))))) (te:=qW 0) rfl ⟨rfl,rfl,rfl,rfl,rfl⟩ (NV (jv 1)) (λC s2 H2 fp pins=>
       ⟨qv (i:=0) qau rfl (Or.inl rfl),jJ (qt (Ua hr.units) (Qt RS (jk hu (jv 1) (jv 0) (λ_ _=>rfl)) QT (QS qm)) (Qz (qd jr (qd (jk hu (jv 2) (jv 0) (λ_ _=>rfl)) qf))) (qA _)),jv 0⟩)) (jE qf) (qA _))))),?_⟩
   refine⟨_,rfl,g,rs,rfl,gr,good,le14,λH1 DL R s1 nDL lb all=>?_⟩
   have La:=wg (Q1 good.nd) all
   obtain⟨kvs,aL,ekL,cL⟩:=lb.at_
   have hD1:=s1 _ _ hD
   have nDD:DL≠D:=λe=>by rw[e,hD]at nDL;cases nDL
   refine⟨D,Zf f zs,hD1,λo=>?_⟩
   have hF:upd H1 D (.frz o (.dK (Zf f zs))) D=some (.frz o (.dK (Zf f zs))):=qe
   have f1:∀b u,H1 b=some u->b≠D->upd H1 D (.frz o (.dK (Zf f zs))) b=some u:=λb u h n=>by rw[qi n];exact h
   generalize upd H1 D (.frz o (.dK (Zf f zs)))=H2 at hF f1
   have aL2:=f1 _ _ aL nDD
   have lz:zs.length<=14:=tV (Zg pl.sub pl.nd) le14
   refine⟨_,rfl,D,o,Zf f zs,zs,rfl,hF,ZB f zs,λU hU=>?_⟩
   refine Gs (zs:=zs) (out:=λ_=>none) (rest:=[some (.ref DL),some (.ref D)]) hU hF (qo (by omega)) ?_ ?_ ?_
   . intro z hz G5 s5 R5 kk
     obtain⟨i,ei⟩:=zah hz
     have en:=Xn La pl.st pl.sub pl.lst i z ei
     obtain⟨r,hr',er⟩:=tG.mp (pl.sub z hz)
     obtain⟨t,et,ht⟩:=cL r hr'
     rw[er]at et ht
     have elb:Zh rs R z=[.str (Str.ofString "number"),.int (f z:Nat),.int (Zc R z:Nat)]:=by
       unfold Zh
       rw[en]
     rw[elb]at ht
     have ht5:=s5 _ _ (f1 _ _ ht λe=>by rw[e,hD1]at ht;cases ht)
     have gd:=jU.k (k:=(Sum.inr z:qF)) (s5 _ _ aL2)
     rw[et]at gd
     have gd2:∀{G6:Hp},Same G5 G6->jU G6 D (.str z) (some (.int (f z:Nat))):=λ{G6} s6=>by
       rw[<-JQ (f:=f) pl.nd hz]
       exact .inl ⟨Zf f zs,Sum.inr z,.inr ⟨o,s6 _ _ (s5 _ _ hF)⟩,rfl,rfl⟩
     refine⟨_,rfl,_,rfl,DL,_,rfl,gd,2,rfl,t,_,rfl,.of ht5,(show ¬(HT.sIx 3 0 none=0/\HT.sIx 3 3 (some 2)=3) by decide+kernel),λp hp=>?_⟩
     have s6:Same G5 (upd G5 p (.tup [.str (Str.ofString "number"),.int (f z:Nat)])):=qk hp
     have h6:upd G5 p (.tup [.str (Str.ofString "number"),.int (f z:Nat)]) p=some (.tup [.str (Str.ofString "number"),.int (f z:Nat)]):=qe
     show (yJ _) _ (upd G5 p (.tup [.str (Str.ofString "number"),.int (f z:Nat)])) _
     generalize upd G5 p (.tup [.str (Str.ofString "number"),.int (f z:Nat)])=G6 at s6 h6
     refine⟨_,rfl,_,rfl,D,_,rfl,gd2 s6,by show 2<=sizeLine;decide,λp2 hp2=>?_⟩
     refine⟨.tuple [.str (Str.ofString "number"),.int (f z:Nat)],.tup (.of (qj h6 hp2)) (.cons (.str _) (.cons (.int _) .nil)),.tup (.of qe) (.cons (.str _) (.cons (.int _) .nil)),MT _,_,rfl,?_⟩
     exact kk _ (s6.trans (qk hp2))
   . intro z hz v ev
     cases ev
   . intro G5 s5 hU5
     have e0:zs.filterMap (λ_=>(none:Option V))=[]:=by rw[List.filterMap_eq_nil_iff];exact λ_ _=>rfl
     rw[e0]at hU5
     refine⟨by show 0<=sizeLine;decide,λl0 hl0=>?_⟩
     refine⟨.list [],.list [],.lst (.of (qj hU5 hl0)) .nil,.lst (.of qe) .nil,by decide+kernel,by decide+kernel,qj (s5 _ _ hF) hl0,?_⟩
     refine q _ λb u hb=>?_
     by_cases e:b=D
     . subst e
       rw[hD]at hb
       cases hb
       exact qe
     . rw[qi e]
       exact qj (s5 _ _ (f1 _ _ (s1 _ _ hb) e)) hl0
end
open PySem L2 PyProof.Rows MRing MLab
abbrev Mr:Stmt:=top 78
theorem vZ {f:Str->Nat} {ys ys':List Str} {n:Nat} (h:Lst f ys n) (e:∀y,y∈ys↔y∈ys'):Lst f ys' n:=⟨λj hj=>let ⟨y,hy,z⟩:=h.lo j hj;⟨y,(e y).mp hy,z⟩,λy hy=>h.no y ((e y).mpr hy)⟩
theorem vx {a b:List Str} (na:a.Nodup) (nb:b.Nodup) (h:∀z,z∈a↔z∈b):a.Perm b:=(zcG na nb).mpr h
structure Mj (K:PySem.W.Frag):Prop where
 dd:tZ K (.type "dict") (.type "dict")=some true
 ii:tZ K (.type "int") (.type "int")=some true
 ib:tZ K (.type "int") (.type "bool")=some false
def uL:Sp:=λvs H Q _=>∃(l D:Addr) (ps:List Addr) (rs:qR) (zs:List Str) (f:Str->Nat),vs=[.ref l,.ref D]/\qY H l ps rs/\H D=some (.dK (Zf f zs))/\Gz rs zs f/\(∀z∈rs.map (·.1),z∈zs)/\∀H',Same H H'->Q (.bl true) H'
section
variable {P:Program} {w:World} {K:PySem.W.Frag} {mg:Str->Option Value} {base:Heap}
abbrev nNG:List Str:=["_law_rows_here","_law_told","_law_name","_law_leads_here","_law_number"]
abbrev Rq:List Str:=["_law_rows_here","_law_told"]
theorem u5:qr nNG Rq (ql Mr):=⟨rfl,rfl,rfl,by decide+kernel,rfl,by decide+kernel,by decide+kernel⟩
theorem qao {f fL:Addr} {fd fdL:FuncData} (F:jG K "_law_numbers_good" "_law_numbers_good" Mr f fd) (G:jF mg) (T:jP K mg) (N:Mj K) (zd:mg "dict"=none) (zi:mg "int"=none) (zb:mg "bool"=none) (hL:qQ K mg "_law_least" Ya ["_law_numbers"] fL fdL):qp P w K mg base qI 2 f fd Rq uL:=by
 have GL:qp P w K mg base qI 1 fL fdL ["_law_numbers"] U4:=xT hL.fn
 refine F.okJ u5 (λvs H Q E h=>?_) (λcdv A outer s H vs Q E hr h=>?_)
 . obtain⟨l,D,ps,rs,zs,f,rfl,_⟩:=h
   rfl
 . obtain⟨l,D,ps,rs,zs,f,rfl,ga,hD,pl,all,q⟩:=h
   have hu:=jS hr
   refine⟨_,qg (qK (JW.pt (j3 (ju (qX (qx qP (by rfl) T.isi boot_isinstance (qd (jv 1) (qd (jL (v:=.ty "dict") (by rfl) zd boot_dict rfl) qf))))) (jW (qt (Ua hr.units) (qx (Uw rfl) (by rfl) G.srt boot_sorted (qd (jv 1) qf)) (qx Uv (by rfl) G.srt boot_sorted (qd (jX (N':=["_law_row"]) (ix:=[none]) (te:=YY (V3 K) (qW 0) (tC (.int 0))) rfl ⟨rfl,rfl,rfl,rfl,rfl⟩ (qJ (jv 0)) (λC s2 H2 fp pins=>
         ⟨qv (i:=0) (Mv _) rfl (Or.inl rfl),jK,jx j4 (jv 0) qm (λ_ _=>rfl)⟩)) qf)) (qA _))))) (qh (qu jy)) qB)
     (qg (ja PassesOwn.never rfl (qJ (jv 0)) (Z6 rfl (jM (qv (i:=2) u5.nd rfl (Or.inl rfl)) (jM (qv (i:=3) u5.nd rfl (Or.inl rfl)) JX)))
       (qg (qw (i:=4) u5.nd rfl (Or.inl rfl) (jk hu (jv 1) (jv 2) (λ_ _=>rfl)))
       (qg (qK (JW.pt (j3 (ju (qX (qx qP (by rfl) T.isi boot_isinstance (qd (jv 4) (qd (jL (v:=.ty "int") (by rfl) zi boot_int rfl) qf))))) (jW (qX (qx qP (by rfl) T.isi boot_isinstance (qd (jv 4) (qd (jL (v:=.ty "bool") (by rfl) zb boot_bool rfl) qf))))))) (qh (qu jy)) qB)
       (qh (qK (qt Xp (jv 4) (qG hL GL hr (by rfl) (qd (jX (N':=["_law_other","_law_told"]) (ix:=[none,some 1]) (te:=Xg (qW 1) (qW 0)) rfl ⟨rfl,rfl,rfl,rfl,rfl⟩ (YA (jv 3)) (λC s2 H2 fp pins=>
         ⟨qv (i:=0) (show (["_law_other","_law_told"]:List Str).Nodup by decide+kernel) rfl (Or.inl rfl),jK,jk hu (jv 1) (jv 0) (λ_ _=>rfl)⟩)) qf)) (qA _)) (qh (qu jy)) qB)))))
     (qh (qu jy))),?_⟩
   have good:=ga.good
   have le14:=ga.le
   have lz:zs.length<=14:=tV (Zg pl.sub pl.nd) le14
   have nmz:∀z∈rs.map (·.1),jc z=true:=λz hz=>by
     obtain⟨r',hr',rfl⟩:=tG.mp hz
     exact good.nm r' hr'
   refine⟨_,rfl,_,_,_,_,rfl,rfl,.dK hD,N.dd,_,rfl,qV ?_⟩
   refine⟨_,rfl,D,_,zs,rfl,hD,ZB f zs,by omega,λl1 ys1 hl1 p1 so1=>?_⟩
   have s1:Same H (upd H l1 (.lst (ys1.map V.str))):=qk hl1
   have h1:upd H l1 (.lst (ys1.map V.str)) l1=some (.lst (ys1.map V.str)):=qe
   generalize upd H l1 (.lst (ys1.map V.str))=H1 at s1 h1
   have ga1:=ga.mono s1
   refine⟨_,rfl,l,rfl,⟨_,.of ga1.at_⟩,λln hln=>?_⟩
   refine jw (K:=K) (a:=l) (xs:=ps.map V.ref) (λj σ' X=>∃v,σ'=[v]/\X=upd H1 ln (.lst (((rs.take j).map (·.1)).map V.str))) ⟨none,rfl,rfl⟩ (λj σ' X _ ⟨_,_,e⟩=>e▸.of (qj ga1.at_ hln)) ?_ ?_
   . rintro j y σ' X hy ⟨v,rfl,rfl⟩
     obtain⟨p',q',r',rfl,er,hr',ea,eb⟩:=ga1.rows.item hy
     have hi:=(tq.mp er).1
     refine⟨_,rfl,p',_,0,_,rfl,rfl,.of (qj ea hln),rfl,_,qe,?_,_,rfl,?_⟩
     . rw[tj,tj,tJ]
       exact qo (by omega)
     . rw[jd,tM,er,tE,tE]
       rfl
   rintro σ' X ⟨v,rfl,rfl⟩
   have e0:rs.take (ps.map V.ref).length=rs:=tF (by rw[tj,ga.rows.1];exact tw _)
   rw[e0]
   have s2:Same H1 (upd H1 ln (.lst ((rs.map (·.1)).map V.str))):=qk hln
   have h2:upd H1 ln (.lst ((rs.map (·.1)).map V.str)) ln=some (.lst ((rs.map (·.1)).map V.str)):=qe
   generalize upd H1 ln (.lst ((rs.map (·.1)).map V.str))=H2 at s2 h2
   refine⟨ln,rs.map (·.1),rfl,.of h2,by rw[tj];omega,λl2 ys2 hl2 p2 so2=>?_⟩
   have eq:ys1=ys2:=kn p1 p2 (vx pl.nd good.nd λz=>⟨pl.sub z,all z⟩) so1 so2
   subst eq
   have s3:Same H2 (upd H2 l2 (.lst (ys1.map V.str))):=qk hl2
   refine⟨dL ys1,Y9 (s3 _ _ (s2 _ _ h1)),Y9 qe,Ra λz hz=>nmz z (p2.mem_iff.mp hz),_,rfl,qV ?_⟩
   have s03:Same H (upd H2 l2 (.lst (ys1.map V.str))):=s1.trans (s2.trans s3)
   generalize upd H2 l2 (.lst (ys1.map V.str))=H3 at s03
   refine⟨_,rfl,l,rfl,⟨_,.of (s03 _ _ ga.at_)⟩,?_⟩
   refine js (K:=K) (a:=l) (xs:=ps.map V.ref) (λi σ' X=>∃(v2 v3 v4:Option V),σ'=[some (.ref l),some (.ref D),v2,v3,v4]/\Same H X) ⟨_,_,_,rfl,s03⟩ (λi σ' X _ ⟨_,_,_,_,s⟩=>.of (s _ _ ga.at_)) ?_ ?_
   . rintro i y σ' X hy ⟨v2,v3,v4,rfl,sX⟩
     obtain⟨p',q',r,rfl,er,hr',ea,eb⟩:=(ga.rows.mono sX).item hy
     have hz:=all r.1 (tG.mpr ⟨r,hr',rfl⟩)
     have xD:=sX _ _ hD
     have gd:=jU.k (k:=(Sum.inr r.1:qF)) xD
     rw[JQ pl.nd hz]at gd
     refine⟨p',_,rfl,.of ea,rfl,_,_,rfl,_,_,rfl,rfl,?_⟩
     refine⟨_,rfl,_,rfl,D,_,rfl,gd,?_⟩
     refine⟨_,rfl,_,_,_,_,rfl,rfl,.int _,N.ii,_,rfl,qV ?_⟩
     refine⟨_,rfl,_,_,_,_,rfl,rfl,.int _,N.ib,_,rfl,qV ?_⟩
     have l40:=good.len r hr'
     refine⟨_,rfl,_,rfl,q',rfl,⟨_,.of eb⟩,λU hU=>?_⟩
     refine zR (K:=K) (a:=q') (xs:=r.2.map V.str) (λj σ'' Y=>∃v0:Option V,σ''=[v0,some (.ref D)]/\Y=upd X U (.lst (Q0 ((r.2.take j).map f)))) ⟨none,rfl,rfl⟩ (λj σ'' Y _ ⟨_,_,e⟩=>e▸.of (qj eb hU)) ?_ ?_
     . rintro j y σ'' Y hy ⟨v0,rfl,rfl⟩
       obtain⟨z,ezz,hzz,rfl⟩:=jo hy
       have hj:=(tq.mp ezz).1
       have gd2:=jU.k (k:=(Sum.inr z:qF)) (qj (o':=HO.lst (Q0 ((r.2.take j).map f))) xD hU)
       rw[JQ pl.nd (all z (good.to r hr' z hzz))]at gd2
       refine⟨_,rfl,_,rfl,D,_,rfl,gd2,_,qe,?_,_,rfl,?_⟩
       . unfold Q0
         rw[tj,tj,tJ]
         exact qo (by omega)
       . unfold Q0
         rw[jd,tM,ezz,tE,tE]
         rfl
     . rintro σ'' Y ⟨v0,rfl,rfl⟩
       rw[tj,tF (tw _)]
       refine⟨U,r.2.map f,rfl,qe,by rw[tj];omega,rfl,_,rfl,?_⟩
       have en:f r.1=Rb.lackN (r.2.map f):=(pl.lst r.1 hz).uniq (vZ Vi λy=>by rw[Qk good.nd hr'];exact(Yj good hr').symm)
       rw[<-en,decide_eq_true rfl]
       exact qV ⟨_,_,_,rfl,sX.trans (qk hU)⟩
   . rintro σ' X ⟨v2,v3,v4,rfl,sX⟩
     exact q X sX
end
open PySem L2 PyProof.Rows
def Y8 (H H':Hp):Prop:=∀b o,H b=some o->(∀φ,o≠.ext φ)->H' b=some o
theorem _root_.L2.Same.keep {H H':Hp} (s:Same H H'):Y8 H H':=λb o h _=>s b o h
theorem _root_.L2.SqT.keep {K:PySem.W.Frag} {H H':Hp} {p:Addr} {xs:List V} (h:SqT K H p xs) (s:Y8 H H'):SqT K H' p xs:=by
 rcases h with (h | ⟨o,h⟩) | h
 . exact .inl (.inl (s _ _ h (λ_ z=>nomatch z)))
 . exact .inl (.inr ⟨o,s _ _ h (λ_ z=>nomatch z)⟩)
 . exact .inr h
theorem _root_.L2.SqL.keep {K:PySem.W.Frag} {H H':Hp} {p:Addr} {xs:List V} (h:SqL K H p xs) (s:Y8 H H'):SqL K H' p xs:=by
 rcases h with (h | ⟨o,h⟩) | h
 . exact .inl (.inl (s _ _ h (λ_ z=>nomatch z)))
 . exact .inl (.inr ⟨o,s _ _ h (λ_ z=>nomatch z)⟩)
 . exact .inr h
theorem jB.keep {CG:Addr} {H H':Hp} {a:Addr} {rs:qR} (h:jB CG H a rs) (s:Y8 H H'):jB CG H' a rs:=by
 obtain⟨dx,lo,rd,kvs,h1,h2,h3,h4⟩:=h
 exact⟨dx,lo,rd,kvs,s _ _ h1 (λ_ z=>nomatch z),s _ _ h2 (λ_ z=>nomatch z),s _ _ h3 (λ_ z=>nomatch z),λr hr=>let ⟨q,a,b⟩:=h4 r hr;⟨q,a,s _ _ b (λ_ z=>nomatch z)⟩⟩
theorem qH.keep {H H':Hp} {ps:List Addr} {rs:qR} (h:qH H ps rs) (s:Y8 H H'):qH H' ps rs:=⟨h.1,λi p r e1 e2=>let ⟨q,a,b⟩:=h.2 i p r e1 e2;⟨q,s _ _ a (λ_ z=>nomatch z),s _ _ b (λ_ z=>nomatch z)⟩⟩
mutual
theorem vM {K:PySem.W.Frag} {H H':Hp} (s:Y8 H H'):∀{x:V} {d:PyData},DV K H x d->DV K H' x d
 | _,_,.non=>.non
 | _,_,.bl b=>.bl b
 | _,_,.int i=>.int i
 | _,_,.str x=>.str x
 | _,_,.lst h hs=>.lst (h.keep s) (dvs_keep s hs)
 | _,_,.tup h hs=>.tup (h.keep s) (dvs_keep s hs)
theorem dvs_keep {K:PySem.W.Frag} {H H':Hp} (s:Y8 H H'):∀{x:List V} {d:List PyData},DVs K H x d->DVs K H' x d
 | _,_,.nil=>.nil
 | _,_,.cons h hs=>.cons (vM s h) (dvs_keep s hs)
end
namespace Hv
abbrev sOver:Stmt:=top 43
abbrev sIsMove:Stmt:=top 44
abbrev sAfter:Stmt:=top 46
abbrev sWhole:Stmt:=top 25
def spOver (CG:Addr):Sp:=λvs H Q _=>∃(g h:Addr) (rs:qR) (hs:List Str),vs=[.ref g,.ref h]/\jB CG H g rs/\qy rs/\rs.length<=14/\QA H h rs hs/\
 ∀H',Same H H'->Q (.bl (mvs rs hs hs.length).isEmpty) H'
theorem qbY (K:PySem.W.Frag):tZ K (.type "int") (.type "int")=some true:=by kernel_rfl
theorem qbZ (K:PySem.W.Frag):tZ K (.type "int") (.type "bool")=some false:=by kernel_rfl
def mD (m:Nat×Str):PyData:=.tuple [.int (m.1:Int),.str m.2]
theorem qa0 {K:PySem.W.Frag} {H:Hp} {p:Addr} {m:Nat×Str} (h:H p=some (.tup (Rx m))):DV K H (.ref p) (mD m):=.tup (.of h) (.cons (.int _) (.cons (.str _) .nil))
theorem ul {K:PySem.W.Frag} {H:Hp}:∀{ps:List Addr} {ms:List (Nat×Str)},Qu H ps ms->DVs K H (ps.map V.ref) (ms.map mD)
 | [],[],_=>.nil
 | [],_::_,h=>by cases h.1
 | _::_,[],h=>by cases h.1
 | p::ps,m::ms,h=>.cons (qa0 (h.2 0 p m rfl rfl)) (ul h.tail)
theorem uc:∀{ms:List (Nat×Str)},(∀m∈ms,jc m.2=true)->PyData.canLayAll0 (ms.map mD)=true
 | [],_=>rfl
 | m::ms,h=>by
   rw[tS,PyData.canLayAll0,uc λy hy=>h y (tW _ hy),zcO]
   show (true&&(PyData.strOk m.2&&true))=true
   rw[zM (h m t7)]
   rfl
theorem mvs_mem {rs:qR} {hs:List Str} {n:Nat} {m:Nat×Str} (h:m∈mvs rs hs n):m.1 < n/\m.2∈jz rs (Za hs m.1):=by
 unfold mvs at h
 obtain⟨j,hj,h2⟩:=List.mem_flatMap.mp h
 obtain⟨e,he,rfl⟩:=tG.mp h2
 exact⟨zbm.mp hj,he⟩
theorem Ve {rs:qR} {hs:List Str} (g:qy rs) (hi:∀z∈hs,∃r∈rs,r.1=z):∀m∈mvs rs hs hs.length,jc m.2=true:=λm hm=>by
 obtain⟨h1,h2⟩:=mvs_mem hm
 obtain⟨r,hr,e⟩:=hi _ (XS h1)
 rw[<-e,Qk g.nd hr]at h2
 exact yb g (W4 h2)
theorem Gm {z:Str} {d:PyData} (h:PyData.eqv (.str z) d=true):d=.str z:=by
 cases d with
 | str y=>
   have e:(z==y)=true:=h
   rw[beq_iff_eq]at e
   rw[e]
 | _=>cases h
theorem N5 {m:Nat×Str} {i:Int} {d:PyData} (h:PyData.eqv (mD m) (.tuple [.int i,d])=true):(m.1:Int)=i/\d=.str m.2:=by
 have h1:(((m.1:Int)==i)&&(PyData.eqv (.str m.2) d&&true))=true:=h
 rw[zcO,zam,beq_iff_eq]at h1
 exact⟨h1.1,Gm h1.2⟩
theorem wV (m:Nat×Str):PyData.eqv (mD m) (mD m)=true:=by
 show (((m.1:Int)==(m.1:Int))&&((m.2==m.2)&&true))=true
 simp
inductive uj (K:PySem.W.Frag) (H:Hp) (ms:List (Nat×Str)):V->Prop
 | ty {v:V} {t:Value}:Jv K H v t->tZ K t (.type "tuple")=some false->uj K H ms v
 | len {p:Addr} {xs:List V}:H p=some (.tup xs)->xs.length≠2->uj K H ms (.ref p)
 | who {p:Addr} {x y:V} {t:Value}:H p=some (.tup [x,y])->Jv K H x t->(tZ K t (.type "int")=some false\/(tZ K t (.type "int")=some true/\tZ K t (.type "bool")=some true))->uj K H ms (.ref p)
 | out {p:Addr} {i:Int} {y:V} {d:PyData}:H p=some (.tup [.int i,y])->DV K H y d->d.canLay0=true->d.depth<=30->(∀m∈ms,¬((m.1:Int)=i/\d=.str m.2))->uj K H ms (.ref p)
def qca (K:PySem.W.Frag) (H:Hp) (ms:List (Nat×Str)) (v:V) (b:Bool):Prop:=(b=true/\∃p m,v=.ref p/\H p=some (.tup (Rx m))/\m∈ms)\/(b=false/\uj K H ms v)
def UW (K:PySem.W.Frag):Sp:=λvs H Q _=>∃x t,vs=[x]/\Jv K H x t/\((tZ K t (.type "int")=some false/\Q (.bl false) H)\/(tZ K t (.type "int")=some true/\∃b,tZ K t (.type "bool")=some b/\Q (.bl (!b)) H))
def WX (K:PySem.W.Frag) (CG:Addr):Sp:=λvs H Q _=>∃(g h:Addr) (rs:qR) (hs:List Str) (v:V) (b:Bool),vs=[.ref g,.ref h,v]/\jB CG H g rs/\qy rs/\rs.length<=14/\QA H h rs hs/\qca K H (mvs rs hs hs.length) v b/\∀H',Same H H'->Q (.bl b) H'
def spLeft:Sp:=λvs H Q _=>∃(h p:Addr) (hs:List Str) (m:Nat×Str),vs=[.ref h,.ref p]/\H h=some (.lst (hs.map V.str))/\H p=some (.tup (Rx m))/\m.1 < hs.length/\∀l,H l=none->Q (.ref l) (upd H l (.lst ((hs.set m.1 m.2).map V.str)))
def spAfter (CG:Addr):Sp:=λvs H Q _=>∃(g h p:Addr) (rs:qR) (hs:List Str) (m:Nat×Str),vs=[.ref g,.ref h,.ref p]/\jB CG H g rs/\qy rs/\rs.length<=14/\QA H h rs hs/\H p=some (.tup (Rx m))/\m∈mvs rs hs hs.length/\
 ∀H' l,Same H H'->H l=none->H' l=some (.lst ((hs.set m.1 m.2).map V.str))->Q (.ref l) H'
structure HM (K:PySem.W.Frag) (mg:Str->Option Value):Prop where
 mt:∃t,mg "MOST_TOKENS"=some (.int 8 t)
 pl:∃f fd,qQ K mg "need_place" Zb Rw f fd
 nh:∃f fd,qQ K mg "need_heap" Z0 ["ground","heap"] f fd
 mo:∃f fd,qQ K mg "moves_of" Q6 ["ground","heap"] f fd
 wh:∃f fd,qQ K mg "is_whole" sWhole ["thing"] f fd
 im:∃f fd,qQ K mg "is_move" sIsMove ["ground","heap","thing"] f fd
 lb:∃f fd,qQ K mg "left_by" vh ["heap","move"] f fd
 bool:mg "bool"=none
section
variable {P:Program} {w:World} {K:PySem.W.Frag} {mg:Str->Option Value} {base:Heap}
abbrev nOv:List Str:=["ground","heap"]
theorem qbu:qr nOv nOv (ql sOver):=⟨rfl,rfl,rfl,by decide+kernel,rfl,by decide+kernel,by decide+kernel⟩
theorem HM.moves {CG:Addr} (Z:HM K mg) (B:Qe mg) (G:jF mg) (T:jP K mg) (M:GM K mg CG):∃f fd,qQ K mg "moves_of" Q6 ["ground","heap"] f fd/\qp P w K mg base qI 4 f fd ["ground","heap"] (U3 CG):=by
 obtain⟨fP,fdP,hP⟩:=Z.pl
 obtain⟨fH,fdH,hH⟩:=Z.nh
 obtain⟨f,fd,h⟩:=Z.mo
 exact⟨f,fd,h,xQ h.fn B G T M hP Z.mt hH⟩
theorem ok_over {f CG:Addr} {fd:FuncData} (F:jG K "is_over" "is_over" sOver f fd) (B:Qe mg) (G:jF mg) (T:jP K mg) (M:GM K mg CG) (Z:HM K mg):qp P w K mg base qI 5 f fd nOv (spOver CG):=by
 obtain⟨fM,fdM,hM,GMv⟩:=Z.moves (P:=P) (w:=w) (base:=base) B G T M
 refine F.okJ qbu (λvs H Q E h=>?_) (λcdv A outer s H vs Q E hr h=>?_)
 . obtain⟨g,h',rs,hs,rfl,_⟩:=h
   rfl
 . obtain⟨g,h',rs,hs,rfl,gr,gd,le,hh,q⟩:=h
   refine⟨_,qh (qu (jQ Qn (qx qD (by rfl) B.len boot_len (qd (qG hM GMv hr (by rfl) (qd (jv 0) (qd (jv 1) qf))) qf)) qm (qA _))),?_⟩
   refine⟨_,rfl,_,rfl,g,h',rs,hs,rfl,gr,gd,le,hh,λH1 l ps s1 hl hl1 mv=>⟨l,_,rfl,.inl (.of hl1),rfl,?_⟩⟩
   have e:decide (V.int ((ps.map V.ref).length:Nat)=V.int 0)=(mvs rs hs hs.length).isEmpty:=by
     rw[tj,mv.1]
     cases mvs rs hs hs.length with
     | nil=>rfl
     | cons a l=>
       refine decide_eq_false λz=>?_
       have:=V.int.inj z
       rw[zat]at this
       omega
   rw[e]
   exact q H1 s1
theorem qbs:qr ["thing"] ["thing"] (ql sWhole):=⟨rfl,rfl,rfl,by decide+kernel,rfl,by decide+kernel,by decide+kernel⟩
theorem ok_whole {f:Addr} {fd:FuncData} (F:jG K "is_whole" "is_whole" sWhole f fd) (B:Qe mg) (T:jP K mg) (hb:mg "bool"=none):qp P w K mg base qI 1 f fd ["thing"] (UW K):=by
 refine F.okJ qbs (λvs H Q E h=>?_) (λcdv A outer s H vs Q E hr h=>?_)
 . obtain⟨x,t,rfl,_⟩:=h
   rfl
 . obtain⟨x,t,rfl,ty,h⟩:=h
   refine⟨_,qh (qu (Jn (qx qP (by rfl) T.isi boot_isinstance (qd (jv 0) (qd (jL (v:=.ty "int") (by rfl) B.int boot_int rfl) qf)))
     (Zi (wv (qx qP (by rfl) T.isi boot_isinstance (qd (jv 0) (qd (jL (v:=.ty "bool") (by rfl) hb boot_bool rfl) qf))))))),?_⟩
   rcases h with ⟨k,q⟩ | ⟨k,b,k2,q⟩
   . exact⟨_,rfl,_,_,_,_,rfl,rfl,ty,k,_,rfl,qV q⟩
   . exact⟨_,rfl,_,_,_,_,rfl,rfl,ty,k,_,rfl,jZ ⟨_,rfl,_,_,_,_,rfl,rfl,ty,k2,_,rfl,q⟩⟩
abbrev nIM:List Str:=["ground","heap","thing"]
theorem qby:qr nIM nIM (ql sIsMove):=⟨rfl,rfl,rfl,by decide+kernel,rfl,by decide+kernel,by decide+kernel⟩
theorem kQ {f CG:Addr} {fd:FuncData} (F:jG K "is_move" "is_move" sIsMove f fd) (B:Qe mg) (G:jF mg) (T:jP K mg) (M:GM K mg CG) (Z:HM K mg):qp P w K mg base qI 5 f fd nIM (WX K CG):=by
 obtain⟨fM,fdM,hM,GMv⟩:=Z.moves (P:=P) (w:=w) (base:=base) B G T M
 obtain⟨fW,fdW,hW⟩:=Z.wh
 have GW:qp P w K mg base qI 1 fW fdW ["thing"] (UW K):=ok_whole hW.fn B T Z.bool
 refine F.okJ qby (λvs H Q E h=>?_) (λcdv A outer s H vs Q E hr h=>?_)
 . obtain⟨g,h',rs,hs,v,b,rfl,_⟩:=h
   rfl
 . obtain⟨g,h',rs,hs,v,b,rfl,gr,gd,le,hh,im,q⟩:=h
   refine⟨_,qg (qK (j3 (ju (qX (qx qP (by rfl) T.isi boot_isinstance (qd (jv 2) (qd (jL (v:=.ty "tuple") (by rfl) G.tup boot_tuple rfl) qf)))))
       (j3 (qt Xp (qx qD (by rfl) B.len boot_len (qd (jv 2) qf)) qm (qA _))
       (jW (ju (qX (qG hW GW (hr.mono (by decide)) (by rfl) (qd (jx j4 (jv 2) qm (λ_ _=>rfl)) qf))))))).pt (qh (qu jy)) qB)
     (qh (qu (jQ (Nr hr.units) (jv 2) (qG hM GMv hr (by rfl) (qd (jv 0) (qd (jv 1) qf))) (by with_unfolding_all rfl)))),?_⟩
   have key:(b=false/\((∃t,Jv K H v t/\tZ K t (.type "tuple")=some false)\/(∃p xs,v=.ref p/\H p=some (.tup xs)/\xs.length≠2)\/(∃p x y t,v=.ref p/\H p=some (.tup [x,y])/\Jv K H x t/\(tZ K t (.type "int")=some false\/(tZ K t (.type "int")=some true/\tZ K t (.type "bool")=some true)))))\/
       (∃p i y d,v=.ref p/\H p=some (.tup [.int i,y])/\DV K H y d/\d.canLay0=true/\d.depth<=30/\((mvs rs hs hs.length).map mD).any (λz=>PyData.eqv z (.tuple [.int i,d]))=b):=by
     rcases im with ⟨rfl,p,m,rfl,hp,hm⟩ | ⟨rfl,nm⟩
     . refine .inr ⟨p,_,_,.str m.2,rfl,hp,.str _,zM (Ve gd hh.in_ m hm),zap _,?_⟩
       exact zaV.mpr ⟨mD m,tG.mpr ⟨m,hm,rfl⟩,wV m⟩
     . cases nm with
       | ty a c=>exact .inl ⟨rfl,.inl ⟨_,a,c⟩⟩
       | len a c=>exact .inl ⟨rfl,.inr (.inl ⟨_,_,rfl,a,c⟩)⟩
       | who a c e=>exact .inl ⟨rfl,.inr (.inr ⟨_,_,_,_,rfl,a,c,e⟩)⟩
       | out a c e f k=>
         refine .inr ⟨_,_,_,_,rfl,a,c,e,f,?_⟩
         rw[zdx]
         intro z hz h
         obtain⟨m,hm,rfl⟩:=tG.mp hz
         exact k m hm (N5 h)
   rcases key with ⟨rfl,⟨t,ty,k⟩ | ⟨p,xs,rfl,hp,hx⟩ | ⟨p,x,y,t,rfl,hp,ty,k⟩⟩ | ⟨p,i,y,d,rfl,hp,dv,cl,dp,an⟩
   . refine⟨_,rfl,_,_,_,_,rfl,rfl,ty,k,_,rfl,jZ (jZ ?_)⟩
     exact q H (Same.refl H)
   . refine⟨_,rfl,_,_,_,_,rfl,rfl,.tup hp,T.ktt,_,rfl,qV ⟨_,rfl,p,_,rfl,.inr (.of hp),rfl,_,rfl,jR ?_ (jZ (q H (Same.refl H)))⟩⟩
     show (!decide (V.int (xs.length:Nat)=V.int 2))=true
     rw[decide_eq_false λz=>hx (by have:=V.int.inj z;omega)]
     rfl
   . refine⟨_,rfl,_,_,_,_,rfl,rfl,.tup hp,T.ktt,_,rfl,qV ⟨_,rfl,p,_,rfl,.inr (.of hp),rfl,_,rfl,jD rfl ?_⟩⟩
     refine⟨_,rfl,p,_,0,_,rfl,rfl,.of hp,rfl,x,t,rfl,ty,?_⟩
     rcases k with k | ⟨k1,k2⟩
     . exact .inl ⟨k,_,rfl,jZ (q H (Same.refl H))⟩
     . exact .inr ⟨k1,_,k2,_,rfl,jZ (q H (Same.refl H))⟩
   . refine⟨_,rfl,_,_,_,_,rfl,rfl,.tup hp,T.ktt,_,rfl,qV ⟨_,rfl,p,_,rfl,.inr (.of hp),rfl,_,rfl,jD rfl ?_⟩⟩
     refine⟨_,rfl,p,_,0,_,rfl,rfl,.of hp,rfl,.int i,_,rfl,.int i,.inr ⟨qbY K,_,qbZ K,_,rfl,qV ?_⟩⟩
     refine⟨_,rfl,_,rfl,_,rfl,g,h',rs,hs,rfl,gr,gd,le,hh,λH1 l ps s1 hl hl1 mv=>?_⟩
     refine⟨.tuple [.int i,d],(mvs rs hs hs.length).map mD,.tup (.of (s1 _ _ hp)) (.cons (.int i) (.cons (vM s1.keep dv) .nil)),.lst (.of hl1) (ul mv),?_,uc (Ve gd hh.in_),?_,?_⟩
     . show (true&&(d.canLay0&&true))=true
       rw[cl]
       rfl
     . simp only[PyData.depth,PyData.depthAll]
       omega
     . show Q (.bl (((mvs rs hs hs.length).map mD).any λz=>PyData.eqv z (.tuple [.int i,d]))) H1
       rw[an]
       exact q H1 s1
abbrev nLb:List Str:=["heap","move","left"]
theorem scLb:qr nLb ["heap","move"] (ql vh):=⟨rfl,rfl,rfl,by decide+kernel,rfl,by decide+kernel,by decide+kernel⟩
theorem KF {f:Addr} {fd:FuncData} (F:jG K "left_by" "left_by" vh f fd) (G:jF mg):qp P w K mg base qI 1 f fd ["heap","move"] spLeft:=by
 refine F.okJ scLb (λvs H Q E h=>?_) (λcdv A outer s H vs Q E hr h=>?_)
 . obtain⟨h',p,hs,m,rfl,_⟩:=h
   rfl
 . obtain⟨h',p,hs,m,rfl,hh,hp,hm,q⟩:=h
   refine⟨_,qg (qw (i:=2) scLb.nd rfl (Or.inl rfl) (q5 j1 (by rfl) G.lst boot_list (qd (jv 0) qf)))
     (qg (NR (jx j4 (jv 1) qm (λ_ _=>rfl)) (NW (jv 2) (jx j4 (jv 1) qm (λ_ _=>rfl)) xa))
     (qh (qu (jv 2)))),?_⟩
   refine⟨_,rfl,h',_,rfl,.inl (.of hh),λl hl=>?_⟩
   refine⟨_,rfl,p,_,1,_,rfl,rfl,.of (qj hp hl),rfl,_,rfl,_,rfl,p,_,0,_,rfl,rfl,.of (qj hp hl),rfl,l,_,(m.1:Int),m.1,rfl,rfl,qe,?_,_,rfl,?_⟩
   . unfold Ga
     rw[if_pos (by omega),if_pos (by rw[tj];omega)]
     rfl
   . have e:(hs.map V.str).set m.1 (.str m.2)=(hs.set m.1 m.2).map V.str:=by rw[List.map_set]
     rw[jd,e]
     exact q l hl
abbrev nAf:List Str:=["ground","heap","move"]
theorem qbD:qr nAf nAf (ql sAfter):=⟨rfl,rfl,rfl,by decide+kernel,rfl,by decide+kernel,by decide+kernel⟩
theorem ok_after {f CG:Addr} {fd:FuncData} (F:jG K "after" "after" sAfter f fd) (B:Qe mg) (G:jF mg) (T:jP K mg) (M:GM K mg CG) (Z:HM K mg):qp P w K mg base qI 6 f fd nAf (spAfter CG):=by
 obtain⟨fP,fdP,hP⟩:=Z.pl
 obtain⟨fH,fdH,hH⟩:=Z.nh
 obtain⟨fI,fdI,hI⟩:=Z.im
 obtain⟨fL,fdL,hL⟩:=Z.lb
 have GH:qp P w K mg base qI 3 fH fdH ["ground","heap"] (zF CG):=Yr hH.fn B G T M hP Z.mt
 have GI:qp P w K mg base qI 5 fI fdI nIM (WX K CG):=kQ hI.fn B G T M Z
 have GL:qp P w K mg base qI 1 fL fdL ["heap","move"] spLeft:=KF hL.fn G
 refine F.okJ qbD (λvs H Q E h=>?_) (λcdv A outer s H vs Q E hr h=>?_)
 . obtain⟨g,h',p,rs,hs,m,rfl,_⟩:=h
   rfl
 . obtain⟨g,h',p,rs,hs,m,rfl,gr,gd,le,hh,hp,hm,q⟩:=h
   refine⟨_,qg (je (qG hH GH (hr.mono (by decide)) (by rfl) (qd (jv 0) (qd (jv 1) qf))))
     (qg (qK (ju (qX (qG hI GI hr (by rfl) (qd (jv 0) (qd (jv 1) (qd (jv 2) qf)))))) qZ qB)
     (qh (qu (qG hL GL (hr.mono (by decide)) (by rfl) (qd (jv 1) (qd (jv 2) qf)))))),?_⟩
   refine⟨_,rfl,_,rfl,g,h',rs,hs,rfl,gr,hh,λH1 s1=>?_⟩
   refine⟨_,rfl,_,rfl,_,rfl,g,h',rs,hs,_,true,rfl,gr.mono s1,gd,le,hh.mono s1,.inl ⟨rfl,p,m,rfl,s1 _ _ hp,hm⟩,λH2 s2=>⟨_,rfl,qV ?_⟩⟩
   have s12:=s1.trans s2
   refine⟨_,rfl,_,rfl,h',p,hs,m,rfl,(hh.mono s12).at_,s12 _ _ hp,(mvs_mem hm).1,λl hl=>?_⟩
   have hl0:H l=none:=by
     cases z:H l with
     | none=>rfl
     | some u=>rw[s12 _ _ z]at hl;cases hl
   exact q _ l (s12.trans (qk hl)) hl0 qe
end
end Hv
open PySem L2 PyProof.Rows MRing MLab Rb
theorem kh {rs:qR} {R:Rs Str} {zs:List Str} {f:Str->Nat} (good:qy rs) (all:All (jz rs) (rs.map (·.1)) 0 [] R) (pl:Gz rs zs f) {hs:List Str} (hk:∀z∈hs,z∈zs):ZR (hs.map (wT rs R))=.num (jV (hs.map f)):=by
 have La:=wg (Q1 good.nd) all
 have e:hs.map (wT rs R)=hs.map λz=>W.num (f z):=zbf λz hz=>by
   obtain⟨i,ei⟩:=zah (hk z hz)
   exact VH (Xn La pl.st pl.sub pl.lst i z ei)
 rw[e]
 have s0:∀l:List Str,zX (l.map λz=>W.num (f z))=[]:=λl=>by
   induction l with
   | nil=>rfl
   | cons a l ih=>
     show (List.filterMap _ (W.num (f a)::l.map λz=>W.num (f z)))=[]
     rw[zaO]
     exact ih
 have n0:∀l:List Str,ZC (l.map λz=>W.num (f z))=l.map f:=λl=>by
   induction l with
   | nil=>rfl
   | cons a l ih=>
     show (List.filterMap _ (W.num (f a)::l.map λz=>W.num (f z)))=_
     rw[zaO]
     show f a::_=f a::l.map f
     exact congrArg (f a::·) ih
 unfold ZR
 rw[s0,n0]
theorem RU {rs:qR} {hs:List Str} {m:Nat×Str} (h:m∈mvs rs hs hs.length):hs.set m.1 m.2∈mv (jz rs) hs:=by
 obtain⟨lt,hy⟩:=mvs_mem h
 refine(Wo (jz rs)).mpr ⟨hs.take m.1,Za hs m.1,m.2,hs.drop (m.1+1),?_,hy,?_⟩
 . have e:=Jf lt
   obtain⟨_,e2⟩:=tq.mp e
   rw[<-e2]
   simp
 . rw[List.set_eq_take_append_cons_drop,if_pos lt]
theorem Xm {rs:qR} {zs:List Str} {f:Str->Nat} (pl:Gz rs zs f) {hs:List Str} (hk:∀z∈hs,z∈zs) {m:Nat×Str} (h:m∈mvs rs hs hs.length):uo zs (hs.set m.1 m.2) < uo zs hs/\∀z∈hs.set m.1 m.2,z∈zs:=Nb pl.nd pl.st hk (RU h)
theorem kJ {rs:qR} {zs:List Str} {f:Str->Nat} (pl:Gz rs zs f) {hs:List Str} (hk:∀z∈hs,z∈zs) (z0:uo zs hs=0):mvs rs hs hs.length=[]:=by
 cases e:mvs rs hs hs.length with
 | nil=>rfl
 | cons m ms=>
   have:=(Xm pl hk (m:=m) (by rw[e];exact t7)).1
   omega
open PySem L2 PyProof.Rows MRing MLab Rb
abbrev sHG:Stmt:=top 80
theorem uJ {n s t:Int} {k:qF} {v:V} (h:qS (src n s t) k=some v):∃i,v=.int i:=by
 obtain⟨p,hp,e⟩:=zcg.mp h
 have:=List.mem_of_find?_eq_some hp
 unfold src at this
 simp only[zaa,zaM,or_false]at this
 rcases this with rfl | rfl | rfl<;>exact⟨_,e.symm⟩
theorem jB.src {CG:Addr} {H H':Hp} {a d:Addr} {rs:qR} {n s t:Int} (h:jB CG H a rs) (pos:0 < rs.length) (hd:H d=some (.dK (src n s t))) (f:Fr H d H'):jB CG H' a rs:=by
 obtain⟨dx,lo,rd,kvs,e1,e2,e3,e4⟩:=h
 refine⟨dx,lo,rd,kvs,f _ _ e1 (λz=>by rw[z,hd]at e1;cases e1),f _ _ e2 (λz=>by rw[z,hd]at e2;cases e2),f _ _ e3 (λz=>?_),λr hr=>let ⟨q,a1,a2⟩:=e4 r hr;⟨q,a1,f _ _ a2 (λz=>by rw[z,hd]at a2;cases a2)⟩⟩
 rw[z,hd]at e3
 have e5:=HO.dK.inj (tO.inj e3)
 obtain⟨r0,er⟩:∃r,rs[0]?=some r:=⟨_,tu pos⟩
 obtain⟨q,a1,_⟩:=e4 r0 (tQ er)
 rw[<-e5]at a1
 obtain⟨i,e6⟩:=uJ a1
 cases e6
def yW (CG:Addr):Sp:=λvs H Q _=>∃(g h:Addr) (rs:qR) (hs:List Str),vs=[.ref g,.ref h]/\jB CG H g rs/\qy rs/\rs.length<=14/\QA H h rs hs/\
 ∀H' R,Same H H'->All (jz rs) (rs.map (·.1)) 0 [] R->Q (.str (kL (ZR (hs.map (wT rs R))))) H'
def RQ (CG:Addr):Sp:=λvs H Q _=>∃(g l D d:Addr) (ps:List Addr) (rs:qR) (zs:List Str) (f:Str->Nat) (n s t:Int),vs=[.ref g,.ref l,.ref D,.ref d]/\jB CG H g rs/\qY H l ps rs/\H D=some (.dK (Zf f zs))/\D≠d/\Gz rs zs f/\(∀z∈rs.map (·.1),z∈zs)/\H d=some (.dK (src n s t))/\
 ∀H' n' t',Fr H d H'->H' d=some (.dK (src n' s t'))->Q (.bl true) H'
section
variable {P:Program} {w:World} {K:PySem.W.Frag} {mg:Str->Option Value} {base:Heap}
theorem KC {f CG:Addr} {fd:FuncData} (F:jG K "outcome" "outcome" Xl f fd) (h:WF K mg) (B:Qe mg) (Z:Wk K mg) (G:jF mg) (T:jP K mg) (M:GM K mg CG) (Y:UF K mg) (O:uk K mg):qp P w K mg base qI 10 f fd ["ground","heap"] (yW CG):=by
 obtain⟨fW,fdW,hW⟩:=O.hw
 have GW:qp P w K mg base qI 9 fW fdW ["ground","heap"] (MS CG h.CN h.CE):=qar hW.fn h B Z G T M Y O
 refine F.okJ RW (λvs H Q E z=>?_) (λcdv A outer s H vs Q E hr z=>?_)
 . obtain⟨g,h',rs,hs,rfl,_⟩:=z
   rfl
 . obtain⟨g,h',rs,hs,rfl,gr,good,le,hh,q⟩:=z
   refine⟨_,qh (qu (K6 h B (hr.mono (by decide)) (qG hW GW hr (by rfl) (qd (jv 0) (qd (jv 1) qf))))),?_⟩
   refine⟨_,rfl,_,rfl,g,h',rs,hs,rfl,gr,good,le,hh,λa H1 R s1 all i1=>⟨a,_,rfl,i1,?_,λH2 s2=>q H2 R (s1.trans s2) all⟩⟩
   refine yG λu hu=>?_
   obtain⟨z,hz,rfl⟩:=tG.mp hu
   obtain⟨r,hr',e⟩:=hh.in_ z hz
   exact GJ good (wg (Q1 good.nd) all) (tG.mpr ⟨r,hr',e⟩)
abbrev nHG:List Str:=["_law_ground","_law_rows_here","_law_told","_law_source_here","_law_heap_here","_law_total","_law_place","_law_here","_law_most","_law_turn","_law_moves"]
abbrev Mu:List Str:=["_law_ground","_law_rows_here","_law_told","_law_source_here"]
theorem Y3:qr nHG Mu (ql sHG):=⟨rfl,rfl,rfl,by decide+kernel,rfl,by decide+kernel,by decide+kernel⟩
theorem qas {f fh fT fO fM fA fV CG:Addr} {fd fdh fdT fdO fdM fdA fdV:FuncData} (F:jG K "_law_heap_good" "_law_heap_good" sHG f fd) (h:WF K mg) (B:Qe mg) (Zk:Wk K mg) (G:jF mg) (T:jP K mg) (M:GM K mg CG) (Y:UF K mg) (O:uk K mg) (Z:Hv.HM K mg)
   (hT:qQ K mg "_law_take" J6 ["_law_source_here","_law_many"] fT fdT) (hh:qQ K mg "_law_heap" Yc Mw fh fdh) (hO:qQ K mg "outcome" Xl ["ground","heap"] fO fdO) (hA:qQ K mg "after" Hv.sAfter Hv.nAf fA fdA) (hV:qQ K mg "is_over" Hv.sOver Hv.nOv fV fdV):qp P w K mg base qI 11 f fd Mu (RQ CG):=by
 obtain⟨fM,fdM,hM,GM⟩:=Z.moves (P:=P) (w:=w) (base:=base) B G T M
 have GT:qp P w K mg base qI 1 fT fdT ["_law_source_here","_law_many"] Jh:=Jl hT.fn
 have Gh:qp P w K mg base qI 2 fh fdh Mw U8:=xS hh.fn B hT
 have GO:qp P w K mg base qI 10 fO fdO ["ground","heap"] (yW CG):=KC hO.fn h B Zk G T M Y O
 have GA:qp P w K mg base qI 6 fA fdA Hv.nAf (Hv.spAfter CG):=Hv.ok_after hA.fn B G T M Z
 have GV:qp P w K mg base qI 5 fV fdV Hv.nOv (Hv.spOver CG):=Hv.ok_over hV.fn B G T M Z
 refine F.okJ Y3 (λvs H Q E z=>?_) (λcdv A outer s H vs Q E hr z=>?_)
 . obtain⟨g,l,D,d,ps,rs,zs,f,n,sd,t,rfl,_⟩:=z
   rfl
 . obtain⟨g,l,D,d,ps,rs,zs,f,n,sd,t,rfl,gr,ga,hD,nDd,pl,all,hd,q⟩:=z
   have hu:=jS hr
   have r1:qN 1 _:=hr.mono (by decide)
   have r2:qN 2 _:=hr.mono (by decide)
   have r4:qN 4 _:=hr.mono (by decide)
   have r5:qN 5 _:=hr.mono (by decide)
   have r6:qN 6 _:=hr.mono (by decide)
   refine⟨_,qg (qw (i:=4) Y3.nd rfl (Or.inl rfl) (qG hh Gh r2 (by rfl) (qd (jv 3) (qd (jv 1) (qd qm qf)))))
     (qg (qw (i:=5) Y3.nd rfl (Or.inl rfl) qm)
     (qg (ja PassesOwn.never rfl (qJ (jv 4)) (qv (i:=6) Y3.nd rfl (Or.inl rfl)) (qh (qw (i:=5) Y3.nd rfl (Or.inl rfl) (qO V8 (jv 5) (jk hu (jv 2) (jv 6) (λ_ _=>rfl))))))
     (qg (qK (qt Xp (qG hO GO hr (by rfl) (qd (jv 0) (qd (jv 4) qf))) (jx j9 (jE (qd jr (qd jr qf))) (q5 XF (by rfl) B.int boot_int (qd (jQ Qn (jv 5) qm (qA _)) qf)) (λ_ _=>rfl)) (qA _)) (qh (qu jy)) qB)
     (qg (qw (i:=7) Y3.nd rfl (Or.inl rfl) (q5 j1 (by rfl) G.lst boot_list (qd (jv 4) qf)))
     (qg (qw (i:=8) Y3.nd rfl (Or.inl rfl) (qO QY (qx qD (by rfl) B.len boot_len (qd (jv 4) qf)) (qO V9 (qx qD (by rfl) B.len boot_len (qd (jv 1) qf)) qm)))
     (qg (ja PassesOwn.never rfl (jp (by rfl) B.rng (qd (jv 8) qf)) (qv (i:=9) Y3.nd rfl (Or.inl rfl))
       (qg (qw (i:=10) Y3.nd rfl (Or.inl rfl) (qG hM GM r4 (by rfl) (qd (jv 0) (qd (jv 7) qf))))
       (qh (qK (qt (vB (zci hu)) (jv 10) (jE qf) (qA _)) (qh (qw (i:=7) Y3.nd rfl (Or.inl rfl) (qG hA GA r6 (by rfl) (qd (jv 0) (qd (jv 7) (qd (jx j9 (jv 10) (qG hT GT r1 (by rfl) (qd (jv 3) (qd (qx qD (by rfl) B.len boot_len (qd (jv 10) qf)) qf))) (λ_ _=>rfl)) qf)))))) qB))))
     (qh (qu (qG hV GV r5 (by rfl) (qd (jv 0) (qd (jv 7) qf))))))))))),?_⟩
   have good:=ga.good
   have le14:=ga.le
   have pos:=ga.pos
   have st:∀{X:Hp},Fr H d X->jB CG X g rs/\qY X l ps rs/\X D=some (.dK (Zf f zs)):=λ{X} fr=>⟨gr.src pos hd fr,ga.fr' hd fr,fr _ _ hD nDd⟩
   refine⟨_,rfl,_,rfl,d,l,4,n,sd,t,ps,rs,rfl,hd,ga,by decide,λh' hs n1 t1 H1 _ hh1 hl4 hin hd1 fr1=>?_⟩
   have hk:∀z∈hs,z∈zs:=λz hz=>by
     obtain⟨r,hr',e⟩:=hin z hz
     exact all z (tG.mpr ⟨r,hr',e⟩)
   obtain⟨gr1,ga1,hD1⟩:=st fr1
   refine⟨_,rfl,h',rfl,⟨_,.of hh1⟩,?_⟩
   refine js (K:=K) (a:=h') (xs:=hs.map V.str) (λi σ' X=>∃v6:Option V,σ'=[some (.ref g),some (.ref l),some (.ref D),some (.ref d),some (.ref h'),some (.int (jV ((hs.take i).map f):Nat)),v6,none,none,none,none]/\X=H1) ⟨_,rfl,rfl⟩ (λi σ' X _ ⟨_,_,e⟩=>e▸.of hh1) ?_ ?_
   . rintro i y σ' X hy ⟨v6,rfl,rfl⟩
     obtain⟨z,ez,hz,rfl⟩:=jo hy
     have gd:=jU.k (k:=(Sum.inr z:qF)) hD1
     rw[JQ pl.nd (hk z hz)]at gd
     refine⟨_,rfl,_,rfl,_,rfl,D,_,rfl,gd,_,_,rfl,rfl,some (.str z),?_,rfl⟩
     rw[tM,ez,tE]
     show _=[_,_,_,_,_,some (V.int ((jV ((hs.take i).map f++[f z]):Nat):Int)),_,_,_,_,_]
     rw[zf,<-bx]
     rfl
   rintro σ' X ⟨v6,rfl,rfl⟩
   rw[tj,tF (tw _)]
   refine⟨_,rfl,_,rfl,g,h',rs,hs,rfl,gr1,good,le14,⟨hh1,by omega,hin⟩,λH2 R s2 allR=>?_⟩
   rw[kh good allR pl hk]
   generalize jV (hs.map f)=tt
   refine⟨by show 2<=sizeLine;decide,λpw hpw=>⟨_,rfl,rfl,.inr ⟨_,rfl,?_⟩⟩⟩
   have s3:Same X (upd H2 pw (.lst [.str (Str.ofString "won"),.str (Str.ofString "lost")])):=s2.trans (qk hpw)
   have h3:upd H2 pw (.lst [.str (Str.ofString "won"),.str (Str.ofString "lost")]) pw=some (.lst [.str (Str.ofString "won"),.str (Str.ofString "lost")]):=qe
   generalize upd H2 pw (.lst [.str (Str.ofString "won"),.str (Str.ofString "lost")])=H3 at s3 h3
   have out:∃i v,(if decide (V.int (tt:Nat)=V.int 0)=true then (1:Int) else 0)=i/\vU [V.str (Str.ofString "won"),.str (Str.ofString "lost")] i=some (.str v)/\v=kL (.num tt):=by
     by_cases c:tt=0
     . subst c
       exact⟨1,_,rfl,rfl,rfl⟩
     . rw[if_neg (by simpa using c)]
       exact⟨0,_,rfl,rfl,(if_neg c).symm⟩
   obtain⟨i0,v0,e1,e2,rfl⟩:=out
   refine⟨pw,_,i0,_,rfl,congrArg V.int e1,.of h3,e2,rfl,_,rfl,?_⟩
   rw[decide_eq_true rfl]
   refine qV ?_
   have fr3:Fr H d H3:=fr1.same s3
   have hh3:=s3 _ _ hh1
   have hd3:=s3 _ _ hd1
   refine⟨_,rfl,h',_,rfl,.inl (.of hh3),λh2 hh2=>?_⟩
   have s4:Same H3 (upd H3 h2 (.lst (hs.map V.str))):=qk hh2
   have h4:upd H3 h2 (.lst (hs.map V.str)) h2=some (.lst (hs.map V.str)):=qe
   generalize upd H3 h2 (.lst (hs.map V.str))=H4 at s4 h4
   have fr4:Fr H d H4:=fr3.same s4
   have hd4:=s4 _ _ hd3
   obtain⟨gr4,ga4,hD4⟩:=st fr4
   have lps:=ga.rows.1
   have eM:((hs.map V.str).length:Int)*(((ps.map V.ref).length:Int) - 1)=((hs.length*(rs.length - 1):Nat):Int):=by
     rw[tj,tj,lps,Int.natCast_mul,Int.natCast_sub pos]
     rfl
   refine⟨_,rfl,h',_,rfl,.inl (.of (s4 _ _ hh3)),_,rfl,l,_,rfl,.inl (.of ga4.at_),_,_,rfl,rfl,_,_,rfl,rfl,.inl ⟨by rw[tj];omega,by rw[tj];omega⟩,?_⟩
   have bM:hs.length*(rs.length - 1)<=52:=zcE (show hs.length<=4 by omega) (show rs.length - 1<=13 by omega)
   refine⟨_,rfl,((hs.length*(rs.length - 1):Nat):Int),(by show [V.int _]=_;rw[eM]),by omega,by omega,?_⟩
   have lzr:zs.length<=rs.length:=Zg pl.sub pl.nd
   have rk0:uo zs hs<=hs.length*(rs.length - 1):=tV (Nc hk) (zcE (tw _) (by omega))
   generalize hs.length*(rs.length - 1)=M at bM rk0 eM
   refine j0 (λi σ' X=>∃(v9 v10:Option V) (hn:Addr) (hs':List Str) (n' t':Int),σ'=[some (.ref g),some (.ref l),some (.ref D),some (.ref d),some (.ref h'),some (.int (tt:Nat)),v6,some (.ref hn),some (.int (M:Nat)),v9,v10]/\Fr H d X/\X d=some (.dK (src n' sd t'))/\X hn=some (.lst (hs'.map V.str))/\hs'.length<=8/\(∀z∈hs',z∈zs)/\(mvs rs hs' hs'.length=[]\/uo zs hs'<=M - i)) ⟨_,_,h2,hs,n1,t1,by simp only[zdI,eM];rfl,fr4,hd4,h4,by omega,hk,.inr rk0⟩ ?_ ?_
   . rintro i σ' X5 hi ⟨v9,v10,hn,hs',n',t',rfl,fr,hdX,hnX,l8,hk',step⟩
     obtain⟨grX,gaX,hDX⟩:=st fr
     have in':∀z∈hs',∃r∈rs,r.1=z:=λz hz=>tG.mp (pl.sub z (hk' z hz))
     have hpX:QA X5 hn rs hs':=⟨hnX,l8,in'⟩
     refine⟨_,rfl,_,rfl,g,hn,rs,hs',rfl,grX,good,le14,hpX,λX6 lm pm s6 nlm hlm mat=>?_⟩
     refine⟨_,rfl,by show 0<=sizeLine;decide,λl0 hl0=>⟨lm,l0,_,rfl,rfl,.of (qj hlm hl0),.of qe,_,rfl,?_⟩⟩
     have s67:Same X6 (upd X6 l0 (.lst [])):=qk hl0
     generalize upd X6 l0 (.lst [])=X7 at s67
     have s7:=s6.trans s67
     have hlm7:=s67 _ _ hlm
     have fr7:Fr H d X7:=fr.same s7
     have hd7:=s7 _ _ hdX
     have mat7:Qu X7 pm (mvs rs hs' hs'.length):=mat.mono s67
     cases em:mvs rs hs' hs'.length with
     | nil=>
       rw[em]at mat
       have e0:pm=[]:=zad mat.1
       subst e0
       refine qV ⟨_,_,hn,hs',n',t',rfl,fr7,hd7,s7 _ _ hnX,l8,hk',.inl em⟩
     | cons m0 ms0=>
       have lpm:pm.length=(mvs rs hs' hs'.length).length:=mat.1
       have pp:0 < pm.length:=by rw[lpm,em];exact zdd _
       have l112:=Wn good le14 in' hs'.length (tw _)
       refine jR (by cases pm with | nil=>exact absurd pp (zaw 0) | cons a b=>rfl) ?_
       refine⟨_,rfl,_,rfl,_,rfl,_,rfl,_,rfl,lm,_,rfl,.inl (.of hlm7),d,_,n',sd,t',rfl,hd7,by rw[tj];omega,?_,λr n2 t2 r0 r1'=>?_⟩
       . rw[tj]
         exact zaZ (show _<=1000 by omega) (by decide)
       rw[tj]at r1'
       have fr78:Fr X7 d (upd X7 d (.dK (src n2 sd t2))):=Fr.refl.at_d
       have hd8:upd X7 d (.dK (src n2 sd t2)) d=some (.dK (src n2 sd t2)):=qe
       generalize upd X7 d (.dK (src n2 sd t2))=X8 at fr78 hd8
       have kp:∀{b:Addr} {u:HO},X7 b=some u->(∀kvs,u≠.dK kvs)->X8 b=some u:=λ{b u} hb nu=>fr78 _ _ hb λe=>by rw[e,hd7]at hb;exact nu _ (tO.inj hb).symm
       have fr8:Fr H d X8:=fr7.trans fr78
       obtain⟨gr8,ga8,hD8⟩:=st fr8
       have hn8:=kp (s7 _ _ hnX) (λ_ e=>nomatch e)
       obtain⟨p0,ep⟩:∃p,pm[r.toNat]?=some p:=⟨_,tu (by omega)⟩
       obtain⟨m1,em1⟩:∃m,(mvs rs hs' hs'.length)[r.toNat]?=some m:=⟨_,tu (by omega)⟩
       have hm1:=tQ em1
       have hp8:=kp (mat7.2 _ p0 m1 ep em1) (λ_ e=>nomatch e)
       have er:r=((r.toNat:Nat):Int):=by omega
       refine⟨lm,_,r,.ref p0,rfl,rfl,.of (kp hlm7 (λ_ e=>nomatch e)),by rw[er];exact JZ (by rw[tH,ep];rfl),g,hn,p0,rs,hs',m1,rfl,gr8,good,le14,⟨hn8,l8,in'⟩,hp8,hm1,λX9 l9 s9 nl9 hl9=>?_⟩
       obtain⟨ls1,ls2⟩:=Xm pl hk' hm1
       refine⟨_,_,l9,hs'.set m1.1 m1.2,n2,t2,rfl,fr8.same s9,s9 _ _ hd8,hl9,by rw[List.length_set];exact l8,ls2,.inr ?_⟩
       rcases step with e | e
       . rw[e]at em;cases em
       . omega
   . rintro σ' X5 ⟨v9,v10,hn,hs',n',t',rfl,fr,hdX,hnX,l8,hk',step⟩
     obtain⟨grX,gaX,hDX⟩:=st fr
     have in':∀z∈hs',∃r∈rs,r.1=z:=λz hz=>tG.mp (pl.sub z (hk' z hz))
     refine⟨_,rfl,_,rfl,g,hn,rs,hs',rfl,grX,good,le14,⟨hnX,l8,in'⟩,λX6 s6=>?_⟩
     have ov:mvs rs hs' hs'.length=[]:=by
       rcases step with e | e
       . exact e
       . exact kJ pl hk' (by omega)
     rw[ov]
     exact q X6 n' t' (fr.same s6) (s6 _ _ hdX)
end
open PySem L2 PyProof.Rows MRing
abbrev ZY:Stmt:=Qa (top 14) 0
structure RF (K:PySem.W.Frag) (mg:Str->Option Value) (D:Addr) (x qual:Str) (st:Stmt) (fld:Str) (C f:Addr) (fd:FuncData):Prop where
 cls:zE K C (.ref D::QK)
 mkr:EMk K C f (.ref D::QK)
 ns:mg x=some (.ref C)
 na:j6 K C fld
 fn:jG K "__init__" qual st f fd
 bi:jH K fd ["self",fld] []
theorem qbN (D:Addr):V6 (.ref D::QK):=rfl
theorem kZ (D:Addr):(Value.ref D::QK).contains (.type "BaseException")=true:=rfl
theorem RF.rcls {K:PySem.W.Frag} {mg:Str->Option Value} {D C f:Addr} {x qual fld:Str} {st:Stmt} {fd:FuncData} (h:RF K mg D x qual st fld C f fd):yx K C:=⟨f,_,h.mkr,kZ D⟩
def spE (C:Addr) (fld:Str):Sp:=λvs H Q _=>∃e y,vs=[.ref e,y]/\H e=some (Z7 e C)/\∀dx,H dx=none->Q .non (upd (upd H e (J1 e C dx)) dx (.xd [(fld,y)]))
theorem vH {H:Hp} {e dx C:Addr} {fs:List (Str×V)} (h1:H e=none) (h2:upd H e (Z7 e C) dx=none):
   Same H (upd (upd (upd H e (Z7 e C)) e (J1 e C dx)) dx (.xd fs))/\upd (upd (upd H e (Z7 e C)) e (J1 e C dx)) dx (.xd fs) e=some (J1 e C dx)/\upd (upd (upd H e (Z7 e C)) e (J1 e C dx)) dx (.xd fs) dx=some (.xd fs):=by
 have ne:e≠dx:=λz=>by rw[<-z,qe]at h2;cases h2
 refine⟨λb o hb=>?_,?_,qe⟩
 . have b1:b≠e:=qz hb h1
   have b2:b≠dx:=λz=>by rw[<-z,qi b1,hb]at h2;cases h2
   rw[qi b2,qi b1,qi b1];exact hb
 . rw[qi ne];exact qe
def U2 (CG CR:Addr):Sp:=λvs H Q E=>∃(g:Addr) (rs:qR),vs=[.ref g]/\jB CG H g rs/\qy rs/\rs.length<=14/\¬Zq rs/\
 ∀H1 dx l r,Same H H1->H1 dx=some (.xd [(Str.ofString "places",.ref l)])->H l=none->H1 l=some (.lst (r.map V.str))->UD (jz rs) r->(∀z∈r,z∈rs.map (·.1))->zc rs r->E (.ref CR) (some dx) H1
section
variable {P:Program} {w:World} {K:PySem.W.Frag} {mg:Str->Option Value} {base:Heap}
theorem uT:qr ["self","places"] ["self","places"] (ql ZY):=⟨rfl,rfl,rfl,by decide+kernel,rfl,by decide+kernel,by decide+kernel⟩
theorem KO {D C f:Addr} {fd:FuncData} (x:RF K mg D "Ring" "Ring.__init__" ZY "places" C f fd):qp P w K mg base qI 1 f fd ["self","places"] (spE C "places"):=by
 refine x.fn.okJ uT (λvs H Q E h=>?_) (λcdv A outer s H vs Q E hr h=>?_)
 . obtain⟨e,y,rfl,_⟩:=h
   rfl
 . obtain⟨e,y,rfl,hH,k⟩:=h
   exact⟨_,qh (NQ (bm:=.ref D::QK) (jv 0) (jv 1) rfl),_,rfl,_,rfl,e,C,rfl,hH,x.cls,qbN D,x.na,λdx hdx=>k dx hdx⟩
theorem Nw {f fE fS fP fR D CR fX CG:Addr} {fd fdE fdS fdP fdR fdX:FuncData} (F:jG K "plain_numbers" "plain_numbers" R9 f fd) (B:Qe mg) (G:jF mg) (T:jP K mg) (M:GM K mg CG) (hE:qQ K mg "ends_left" Kf xF fE fdE) (hS:qQ K mg "settled_next" Rf Rp fS fdS)
   (hP:qQ K mg "places_to_no_ring" R8 ["ground"] fP fdP) (hR:qQ K mg "ring_in" R7 ["ground"] fR fdR) (xR:RF K mg D "Ring" "Ring.__init__" ZY "places" CR fX fdX):qp P w K mg base (um P w) 7 f fd ["ground"] (U2 CG CR):=by
 have GR:qp P w K mg base qI 6 fR fdR ["ground"] (yU CG):=xN hR.fn B G T M hE hS hP
 have GX:qp P w K mg base qI 1 fX fdX ["self","places"] (spE CR "places"):=KO xR
 refine F.okX ky (λvs H Q E h=>?_) (λcdv A outer s H vs Q E hr h=>?_)
 . obtain⟨g,rs,rfl,_⟩:=h
   rfl
 . obtain⟨g,rs,rfl,gr,good,le14,nt,q⟩:=h
   refine⟨_,qg (qw (i:=1) ky.nd rfl (Or.inl rfl) (qG hR GR hr (by rfl) (qd (jv 0) qf)))
     (qg (qK (qt vA (jv 1) YB (qA _)) (qh (wp rfl kG (wy xR.mkr GX (hr.mono (by decide)) (by rfl) xR.ns xR.bi QB (qd (jv 1) qf)))) qB) qZ),?_⟩
   refine⟨_,rfl,g,rs,rfl,gr,good,le14,λH1 v s1 hv=>?_⟩
   rcases hv with ⟨_,h⟩ | ⟨l,r,rfl,nl,hl,ring,inr,rof⟩
   . exact absurd h nt
   . refine⟨_,rfl,rfl,_,rfl,jR (by rfl) ?_⟩
     refine⟨_,rfl,by show 1<=sizeLine;decide,λe he=>⟨e,.ref l,rfl,qe,λdx hdx=>⟨rfl,e,CR,dx,rfl,?_,xR.rcls,?_⟩⟩⟩
     . exact(vH he hdx).2.1
     . obtain⟨m1,m2,m3⟩:=vH (fs:=[(Str.ofString "places",V.ref l)]) he hdx
       exact q _ dx l r (s1.trans m1) m3 nl (m1 _ _ hl) ring inr rof
end
open PySem L2 PyProof.Rows MRing
abbrev M6:Stmt:=top 82
theorem XD {z:Str}:∀{kvs:List (qF×V)} {ls:List Str},kvs.map (·.1)=ls.map Sum.inr->(QC kvs (Sum.inr z)).map (·.1)=(ls.filter λy=>decide (y≠z)).map Sum.inr
 | [],[],_=>rfl
 | [],_::_,h=>by cases h
 | _::_,[],h=>by cases h
 | p::kvs,y::ls,h=>by
   obtain⟨e1,e2⟩:=List.cons.inj h
   have ih:=XD (z:=z) e2
   unfold QC at ih ⊢
   rw[zbi,zbi]
   have e1':p.1=Sum.inr y:=e1
   by_cases c:y=z
   . rw[if_neg (by rw[e1',c];simp),if_neg (by simp [c])]
     exact ih
   . rw[if_pos (by rw[e1'];simp [c]),if_pos (by simp [c]),tS,tS,ih,e1']
theorem Vu {k j:qF} (h:j≠k):∀kvs:List (qF×V),qS (QC kvs k) j=qS kvs j
 | []=>rfl
 | p::kvs=>by
   have ih:=Vu h kvs
   unfold QC at ih ⊢
   rw[zbi]
   by_cases c:p.1=k
   . rw[if_neg (by simp [c]),ih,jh (by rw[c];exact Ne.symm h)]
   . rw[if_pos (by simp [c])]
     by_cases d:p.1=j
     . rw[jn d,jn d]
     . rw[jh d,jh d]
       exact ih
structure Lf (rs:qR) (H:Hp) (d:Addr) (ls:List Str):Prop where
 at_:∃kvs,H d=some (.dK kvs)/\kvs.map (·.1)=ls.map Sum.inr/\∀r∈rs,r.1∈ls->∃t,qS kvs (Sum.inr r.1:qF)=some (.ref t)/\H t=some (.tup (r.2.map V.str))
 sub:∀z∈ls,z∈rs.map (·.1)
 nd:ls.Nodup
 far:∀T,(∀z∈T,z∈rs.map (·.1))->UB (jz rs) T->∀y∈T,y∈ls
theorem Lf.mono {rs:qR} {H H':Hp} {d:Addr} {ls:List Str} (h:Lf rs H d ls) (s:Same H H'):Lf rs H' d ls:=⟨let ⟨kvs,a,b,c⟩:=h.at_;⟨kvs,s _ _ a,b,λr hr hl=>let ⟨t,u,v⟩:=c r hr hl;⟨t,u,s _ _ v⟩⟩,h.sub,h.nd,h.far⟩
theorem Lf.pop {rs:qR} {H:Hp} {d:Addr} {ls:List Str} {z:Str} {kvs:List (qF×V)} (h:Lf rs H d ls) (e:H d=some (.dK kvs)) (no:∀y∈jz rs z,y∉ls):Lf rs (upd H d (.dK (QC kvs (Sum.inr z)))) d (ls.filter λy=>decide (y≠z)):=by
 obtain⟨kv',a,b,c⟩:=h.at_
 rw[e]at a
 cases a
 refine⟨⟨_,qe,XD b,λr hr hl=>?_⟩,λy hy=>h.sub y (tY.mp hy).1,h.nd.sublist zax,λT sub t y hy=>?_⟩
 . obtain⟨m1,m2⟩:=tY.mp hl
   obtain⟨t,u,v⟩:=c r hr m1
   refine⟨t,?_,?_⟩
   . rw[Vu (λq=>of_decide_eq_true m2 (Sum.inr.inj q))]
     exact u
   . rw[qi (λq=>by rw[q,e]at v;cases v)]
     exact v
 . refine tY.mpr ⟨h.far T sub t y hy,decide_eq_true λq=>?_⟩
   subst q
   obtain⟨x,hx,hT⟩:=t y hy
   exact no x hx (h.far T sub t x hT)
theorem N2 {ls:List Str} {z:Str} (h:z∈ls):(ls.filter λy=>decide (y≠z)).length < ls.length:=by
 rcases zbQ (ls.filter λy=>decide (y≠z)).length ls.length with c | c
 . exact c
 . have e:=(zax (p:=λy=>decide (y≠z)) (l:=ls)).eq_of_length_le c
   rw[<-e]at h
   have:=(tY.mp h).2
   simp at this
def RO:Sp:=λvs H Q _=>∃(l:Addr) (ps:List Addr) (rs:qR),vs=[.ref l]/\qY H l ps rs/\∀H' b,Same H H'->(b=true↔Zq rs)->Q (.bl b) H'
theorem wO {rs:qR} (g:qy rs) {r:Str×List Str} (h:r∈rs) {y:Str}:y∈jz rs r.1↔y∈r.2:=by rw[Qk g.nd h];exact Yj g h
theorem Rv {l:List Str} (nd:l.Nodup) {i j:Nat} {hi:i < l.length} {hj:j < l.length} (e:l[i]=l[j]):i=j:=by
 rcases zbo i j with c | c | c
 . exact absurd e (zar.mp nd i j hi hj c)
 . exact c
 . exact absurd e.symm (zar.mp nd j i hj hi c)
section
variable {P:Program} {w:World} {K:PySem.W.Frag} {mg:Str->Option Value} {base:Heap}
abbrev nNR:List Str:=["_law_rows_here","_law_left","_law_turn","_law_name"]
theorem uX:qr nNR ["_law_rows_here"] (ql M6):=⟨rfl,rfl,rfl,by decide+kernel,rfl,by decide+kernel,by decide+kernel⟩
theorem qan {f:Addr} {fd:FuncData} (F:jG K "_law_no_ring" "_law_no_ring" M6 f fd) (B:Qe mg) (G:jF mg) (hdi:mg "dict"=none):qp P w K mg base qI 1 f fd ["_law_rows_here"] RO:=by
 refine F.okJ uX (λvs H Q E h=>?_) (λcdv A outer s H vs Q E hr h=>?_)
 . obtain⟨l,ps,rs,rfl,_⟩:=h
   rfl
 . obtain⟨l,ps,rs,rfl,g,q⟩:=h
   have hu:=jS hr
   refine⟨_,qg (qw (i:=1) uX.nd rfl (Or.inr rfl) (q5 (Zp rfl) (by rfl) hdi boot_dict (qd (jv 0) qf)))
     (qg (ja PassesOwn.never rfl (jp (by rfl) B.rng (qd (qx qD (by rfl) B.len boot_len (qd (jv 0) qf)) qf)) (qv (i:=2) uX.nd rfl (Or.inl rfl))
       (qh (ja PassesOwn.never rfl (qJ (q5 (YO rfl) (by rfl) G.lst boot_list (qd (jv 1) qf))) (qv (i:=3) uX.nd rfl (Or.inl rfl))
         (qh (qK (qt (Yp hr.units) (jX (N':=["_law_other","_law_left"]) (ix:=[none,some 1]) (tt:=tB (RJ (qW 0) (qW 1))) (te:=qW 0) rfl ⟨rfl,rfl,rfl,rfl,rfl⟩ (YA (jk hu (jv 1) (jv 3) (λ_ _=>rfl))) (λC s2 H2 fp pins=>
             ⟨qv (i:=0) (show (["_law_other","_law_left"]:List Str).Nodup by decide+kernel) rfl (Or.inl rfl),jJ (Qy (Zj hu (jv 0) (jv 1))),jv 0⟩)) (jE qf) (qA _))
           (qh (je (Vl (jv 1) (jv 3) ⟨rfl,rfl,rfl,rfl⟩))) qB)))))
     (qh (qu (jQ (Kw (zci hu)) (jv 1) Qi (qA _))))),?_⟩
   refine⟨_,rfl,Ud ?_⟩
   refine YJ g λd kv0 hd ek0 hv0=>?_
   have le:=g.le
   have lps:=g.rows.1
   have L0:Lf rs (upd H d (.dK kv0)) d (rs.map (·.1)):=⟨⟨kv0,qe,ek0,λr hr' _=>let ⟨t,a,b⟩:=hv0 r hr';⟨t,a,qj b hd⟩⟩,λz h=>h,g.good.nd,λT sub _ y hy=>sub y hy⟩
   refine⟨_,rfl,l,_,rfl,.inl (.of (qj g.at_ hd)),_,rfl,by omega,by rw[tj];omega,?_⟩
   refine j0 (λi σ H'=>∃(v2 v3:Option V) (ls:List Str),σ=[some (.ref l),some (.ref d),v2,v3]/\Same H H'/\Lf rs H' d ls/\((∀z∈ls,∃y∈jz rs z,y∈ls)\/ls.length+i<=rs.length))
     ⟨none,none,_,rfl,qk hd,L0,.inr (by rw[tj];exact tw _)⟩ ?_ ?_
   . rintro i0 σ H' hi0 ⟨v2,v3,ls0,rfl,sH,lf0,stb⟩
     obtain⟨k0,a0,b0,c0⟩:=lf0.at_
     refine⟨_,rfl,d,k0,ls0,rfl,a0,b0,λlz hlz=>⟨lz,rfl,⟨_,.of qe⟩,?_⟩⟩
     have nz:lz≠d:=λe=>by rw[e,a0]at hlz;cases hlz
     refine js (K:=K) (a:=lz) (xs:=ls0.map V.str) (λj σ' G=>∃(v3:Option V) (b:Bool) (ls:List Str),σ'=[some (.ref l),some (.ref d),some (.int (0+(i0:Int))),v3]/\Same H G/\G lz=some (.lst (ls0.map V.str))/\Lf rs G d ls/\(∀z∈ls0.drop j,z∈ls)/\
           (b=false->ls=ls0/\∀z∈ls0.take j,∃y∈jz rs z,y∈ls0)/\(b=true->ls.length < ls0.length)/\((∀z∈ls0,∃y∈jz rs z,y∈ls0)->b=false))
         ⟨_,false,ls0,rfl,sH.trans (qk hlz),qe,lf0.mono (qk hlz),λz h=>h,λ_=>⟨rfl,λz h=>(nomatch h)⟩,(λe=>by cases e),λ_=>rfl⟩ (λj σ' G _ ⟨_,_,_,_,_,h,_⟩=>.of h) ?_ ?_
     . rintro j y σ' G hy ⟨v3,b,ls,rfl,sG,hz,lf,dr,f0,f1,f2⟩
       obtain⟨z,ez,hzz,rfl⟩:=jo hy
       have jl:=(tq.mp ez).1
       have zin:z∈ls:=dr z (by
         rw[zbI]
         exact⟨0,by rw[zaK];exact ez⟩)
       obtain⟨rz,hrz,erz⟩:=tG.mp (lf.sub z zin)
       subst erz
       obtain⟨kvs,a,bk,c⟩:=lf.at_
       obtain⟨t,ev,ht⟩:=c rz hrz zin
       have gz:=jU.k (k:=(Sum.inr rz.1:qF)) a
       rw[ev]at gz
       have l40:=g.good.len rz hrz
       refine⟨_,rfl,_,rfl,d,_,rfl,gz,t,rfl,⟨_,.of ht⟩,λW hW=>?_⟩
       refine zR (K:=K) (a:=t) (xs:=rz.2.map V.str) (λi σ'' H''=>∃v0,σ''=[v0,some (.ref d)]/\H''=upd G W (.lst (((rz.2.take i).filter λy=>(qS kvs (Sum.inr y:qF)).isSome).map V.str)))
         ⟨none,rfl,rfl⟩ (λi σ'' H'' _ ⟨_,_,e⟩=>e▸.of (qj ht hW)) ?_ ?_
       . rintro i y σ'' H'' hy ⟨v0,rfl,rfl⟩
         obtain⟨x,ex,hx,rfl⟩:=jo hy
         have gx:=jU.k (k:=(Sum.inr x:qF)) (qj (o':=HO.lst (((rz.2.take i).filter λy=>(qS kvs (Sum.inr y:qF)).isSome).map V.str)) a hW)
         refine⟨_,rfl,_,rfl,d,_,rfl,gx,_,rfl,?_⟩
         cases cc:(qS kvs (Sum.inr x:qF)).isSome with
         | true=>
           refine jZ ⟨_,rfl,_,qe,?_,_,rfl,?_⟩
           . rw[tj]
             refine qo (tV (zao _ _) ?_)
             rw[tJ]
             omega
           . rw[jd,tM,ex,zaJ,tE]
             simp [cc]
         | false=>
           refine qV ⟨_,rfl,?_⟩
           rw[tM,ex,zaJ]
           simp [cc]
       . rintro σ'' H'' ⟨v0,rfl,rfl⟩
         rw[tj,tF (tw _)]
         generalize hfl:rz.2.filter (λy=>(qS kvs (Sum.inr y:qF)).isSome)=fl
         have ifl:∀y,y∈fl↔y∈jz rs rz.1/\y∈ls:=λy=>by
           rw[<-hfl,tY,UK bk,wO g.good hrz]
         have nfl:∀y∈fl,jc y=true:=λy hy=>g.good.names rz hrz y ((wO g.good hrz).mp ((ifl y).mp hy).1)
         refine⟨by show 0<=sizeLine;decide,λl0 hl0=>?_⟩
         have sW:Same G (upd G W (.lst (fl.map V.str))):=qk hW
         have sE:Same G (upd (upd G W (.lst (fl.map V.str))) l0 (.lst [])):=sW.trans (qk hl0)
         refine⟨dL fl,dL [],Y9 (qj qe hl0),Y9 qe,Ra nfl,Ra (λy h=>(nomatch h)),_,rfl,?_⟩
         rw[YH]
         generalize upd (upd G W (.lst (fl.map V.str))) l0 (.lst [])=G2 at sE
         have dr':∀x∈ls0.drop (j+1),x∈ls/\x≠rz.1:=λx hx=>by
           obtain⟨i,ei⟩:=zah hx
           rw[zaK]at ei
           refine⟨dr x ?_,λe=>?_⟩
           . rw[zbI]
             exact⟨i+1,by rw[zaK,<-ei];congr 1;omega⟩
           . obtain⟨h1,h2⟩:=tq.mp ei
             obtain⟨h3,h4⟩:=tq.mp ez
             have:=Rv lf0.nd (h2.trans (e.trans h4.symm))
             omega
         cases fl with
         | nil=>
           refine jR rfl ⟨_,rfl,d,rfl,.inl ⟨_,.inl (sE _ _ a)⟩,_,rfl,kvs,Sum.inr rz.1,_,sE _ _ a,rfl,ev,?_⟩
           refine⟨_,true,ls.filter (λy=>decide (y≠rz.1)),rfl,Same.upd (sG.trans sE) hd,?_,(lf.mono sE).pop (sE _ _ a) (λy hy hl=>by have:=(ifl y).mpr ⟨hy,hl⟩;cases this),λx hx=>tY.mpr ⟨(dr' x hx).1,decide_eq_true (dr' x hx).2⟩,(λe=>by cases e),λ_=>?_,λS0=>?_⟩
           . rw[qi nz]
             exact sE _ _ hz
           . have:=N2 zin
             cases b with
             | false=>rw[(f0 rfl).1]at this ⊢;exact this
             | true=>have:=f1 rfl;omega
           . have eb:=f2 S0
             obtain⟨y,hy,hyl⟩:=S0 rz.1 hzz
             have:=(ifl y).mpr ⟨hy,by rw[(f0 eb).1];exact hyl⟩
             cases this
         | cons x0 r0=>
           refine jD rfl ⟨_,b,ls,rfl,sG.trans sE,sE _ _ hz,lf.mono sE,λx hx=>(dr' x hx).1,λe=>⟨(f0 e).1,λx hx=>?_⟩,f1,f2⟩
           rw[tM,ez]at hx
           rcases zai.mp hx with hx | hx
           . exact(f0 e).2 x hx
           . have:x=rz.1:=by simpa using hx
             subst this
             obtain⟨m1,m2⟩:=(ifl x0).mp t7
             exact⟨x0,m1,(f0 e).1▸m2⟩
     . rintro σ' G ⟨v3,b,ls,rfl,sG,hz,lf,dr,f0,f1,f2⟩
       rw[tj,tF (tw _)]at f0
       refine⟨_,v3,ls,rfl,sG,lf,?_⟩
       cases b with
       | false=>exact .inl (by rw[(f0 rfl).1];exact(f0 rfl).2)
       | true=>
         rcases stb with e | e
         . exact absurd (f2 e) (by decide)
         . have:=f1 rfl
           exact .inr (by omega)
   . rintro σ H' ⟨v2,v3,ls0,rfl,sH,lf0,stb⟩
     obtain⟨k0,a0,b0,c0⟩:=lf0.at_
     have KZ:k0.length=ls0.length:=by simpa using congrArg zaB b0
     have stb:∀z∈ls0,∃y∈jz rs z,y∈ls0:=by
       rcases stb with e | e
       . exact e
       . have e0:ls0=[]:=zad (by
           have:(((ps.map V.ref).length:Int)).toNat=rs.length:=by rw[tj,lps];exact zaQ _
           omega)
         rw[e0]
         exact λ_ h=>nomatch h
     refine⟨_,rfl,λd2 hd2=>⟨d,d2,k0,rfl,rfl,qj a0 hd2,qe,?_⟩⟩
     refine q _ _ (sH.trans (qk hd2)) ⟨λe T sub t=>zbl.mpr λy hy=>?_,λnt=>?_⟩
     . have:ls0=[]:=zad (by rw[<-KZ,zcX.mp e];rfl)
       have:=lf0.far T sub t y hy
       simp [‹ls0=[]›]at this
     . have:ls0=[]:=nt ls0 lf0.sub (stb)
       rw[zcX]
       exact zad (by rw[KZ,this];rfl)
end
open PySem L2 PyProof.Rows MRing
abbrev sLD:Stmt:=top 76
theorem W5 {α:Type}:∀{ws:List α} {k:Nat} {x:α},ws[k]?=some x->(x::ws.eraseIdx k).Perm ws
 | [],_,_,h=>by simp at h
 | a::ws,0,x,h=>by
   obtain rfl:=tO.inj h
   exact zdr.refl _
 | a::ws,k+1,x,h=>by
   have ih:=W5 (ws:=ws) (k:=k) (x:=x) (by simpa using h)
   exact(zdr.swap a x _).trans (ih.cons a)
theorem qy.perm {rs us:qR} (g:qy rs) (p:us.Perm rs):qy us:=by
 have m:∀r,r∈us↔r∈rs:=λr=>p.mem_iff
 refine⟨λr hr=>g.nm r ((m r).mp hr),(p.map (·.1)).nodup_iff.mpr g.nd,λr hr z hz=>(p.map (·.1)).mem_iff.mpr (g.to r ((m r).mp hr) z hz),λr hr=>g.rd r ((m r).mp hr),?_⟩
 rw[(p.map λr=>r.2.length).sum_nat]
 exact g.few
theorem Vt {α:Type}:∀(l:List α) (k i:Nat),(l.eraseIdx k)[i]?=if i < k then l[i]? else l[i+1]?
 | [],k,i=>by simp
 | a::l,0,i=>by simp
 | a::l,k+1,0=>by simp
 | a::l,k+1,i+1=>by
   rw[List.eraseIdx_cons_succ,zbC,zbC,zbC,Vt l k i]
   by_cases h:i < k
   . rw[if_pos h,if_pos (by omega)]
   . rw[if_neg h,if_neg (by omega)]
theorem Xv {α β:Type} {f:α->β}:∀(l:List α) (k:Nat),(l.map f).eraseIdx k=(l.eraseIdx k).map f
 | [],_=>rfl
 | _::_,0=>rfl
 | a::l,k+1=>by
   show f a::(l.map f).eraseIdx k=f a::(l.eraseIdx k).map f
   rw[Xv l k]
theorem qH.erase {H:Hp} {ps:List Addr} {rs:qR} (h:qH H ps rs) {k:Nat} (hk:k < rs.length):qH H (ps.eraseIdx k) (rs.eraseIdx k):=by
 refine⟨by rw[zco,zco,h.1],λi p r e1 e2=>?_⟩
 rw[Vt]at e1 e2
 split at e1
 . exact h.2 i p r e1 (by rwa [if_pos ‹_›]at e2)
 . exact h.2 (i+1) p r e1 (by rwa [if_neg ‹_›]at e2)
theorem qH.fr {H H':Hp} {ps:List Addr} {rs:qR} {d:Addr} {kvs:List (qF×V)} (h:qH H ps rs) (hd:H d=some (.dK kvs)) (f:Fr H d H'):qH H' ps rs:=⟨h.1,λi p r e1 e2=>by
 obtain⟨q,a,b⟩:=h.2 i p r e1 e2
 exact⟨q,f _ _ a (λe=>by rw[e,hd]at a;cases a),f _ _ b (λe=>by rw[e,hd]at b;cases b)⟩⟩
theorem uO {K:PySem.W.Frag} {σ:L2.St} {f:Nat} {d lr lf:Addr} {sd n t:Int} {H0 H:Hp} {D:Qv} {rs0:qR} {qs:List Addr} {tt:TE}
   (h3:σ[3]?=some (some (.ref lr))) (hf:σ[f]?=some (some (.ref lf)))
   (ht:∀(H:Hp) (xs:List V) (n t:Int) (Q:VK),H d=some (.dK (src n sd t))->H lr=some (.lst xs)->0 < xs.length->xs.length<=14->(∀r n' t',0<=r->r < (xs.length:Int)->Q (.int r) (upd H d (.dK (src n' sd t'))))->tt σ H Q)
   (hd:H d=some (.dK (src n sd t))) (hr:H lr=some (.lst (qs.map V.ref))) (rat:qH H qs rs0) (hfl:H lf=some (.lst [])) (fr:Fr H0 d H) (lr0:H0 lr=none) (lf0:H0 lf=none) (nrf:lr≠lf) (le:rs0.length<=14)
   (q:∀H' ps rs n' t',H' lf=some (.lst (ps.map V.ref))->qH H' ps rs->rs.Perm rs0->H' d=some (.dK (src n' sd t'))->Fr H0 d H'->D.nx σ H'):
   VP (zg (YY (Rn K) (qW 3) (MH QD))) (yN (MJ K "list" We (qW f) (jA (MJ K "list" xt (qW 3) (jA tt QD)) QD))) D σ H:=by
 refine QG (λσ' H'=>σ'=σ/\∃(n' t':Int) (as bs:List Addr) (ws us:qR),H' d=some (.dK (src n' sd t'))/\H' lr=some (.lst (as.map V.ref))/\qH H' as ws/\H' lf=some (.lst (bs.map V.ref))/\qH H' bs us/\(us++ws).Perm rs0/\Fr H0 d H')
   (λ_ H'=>match H' lr with | some (.lst xs)=>xs.length | _=>0) ⟨rfl,n,t,qs,[],rs0,[],hd,hr,rat,hfl,⟨rfl,λi p r e=>(nomatch e)⟩,zdr.refl _,fr⟩ ?_ ?_
 . rintro σ' H1 ⟨rfl,n1,t1,as,bs,ws,us,hd1,hr1,wat,hf1,uat,pm,fr1⟩
   have ln:=pm.length_eq
   rw[tL]at ln
   refine⟨_,h3,by show 0<=sizeLine;decide,λl0 hl0=>?_⟩
   have s1:Same H1 (upd H1 l0 (.lst [])):=qk hl0
   refine⟨lr,l0,_,rfl,rfl,.of (s1 _ _ hr1),.of qe,_,rfl,?_⟩
   have hl00:H0 l0=none:=fr1.fresh hd1 hl0
   have fr2:Fr H0 d (upd H1 l0 (.lst [])):=fr1.own hl00
   generalize upd H1 l0 (.lst [])=H2 at s1 fr2
   have hr2:=s1 _ _ hr1
   have hf2:=s1 _ _ hf1
   have hd2:=s1 _ _ hd1
   cases ws with
   | nil=>
     have as0:as=[]:=zad wat.1
     subst as0
     refine qV ?_
     rw[zaz]at pm
     exact q H2 bs us n1 t1 hf2 (uat.mono s1) pm hd2 fr2
   | cons w0 wr=>
     have la:as.length=(w0::wr).length:=wat.1
     have lp:0 < (w0::wr).length:=zdd _
     refine jR ?_ ?_
     . cases as with
       | nil=>rw[<-la]at lp;exact absurd lp (zaw _)
       | cons a b=>rfl
     generalize w0::wr=ws at*
     refine⟨_,hf,.inl ⟨rfl,_,.of hf2⟩,_,h3,.inl ⟨rfl,_,.of hr2⟩,?_⟩
     refine ht H2 (as.map V.ref) n1 t1 _ hd2 hr2 (by rw[tj,la];exact lp) (by rw[tj,la];omega) λr n3 t3 r0 r1=>?_
     rw[tj]at r1
     obtain⟨k,rfl⟩:∃k:Nat,r=(k:Int):=⟨r.toNat,by omega⟩
     have hk:k < ws.length:=by omega
     have hka:k < as.length:=by omega
     have ea:(as.map V.ref)[k]?=some (V.ref as[k]):=by rw[tH,tu hka];rfl
     have nrd:lr≠d:=λe=>by rw[e,hd2]at hr2;cases hr2
     have nfd:lf≠d:=λe=>by rw[e,hd2]at hf2;cases hf2
     have fr3:Fr H2 d (upd H2 d (.dK (src n3 sd t3))):=Fr.refl.at_d
     have hr3:=fr3 _ _ hr2 nrd
     have hf3:=fr3 _ _ hf2 nfd
     have w3:=(wat.mono s1).fr hd2 fr3
     have u3:=(uat.mono s1).fr hd2 fr3
     have fr03:Fr H0 d (upd H2 d (.dK (src n3 sd t3))):=fr2.at_d
     have hd3:upd H2 d (.dK (src n3 sd t3)) d=some (.dK (src n3 sd t3)):=qe
     generalize upd H2 d (.dK (src n3 sd t3))=H3 at hr3 hf3 w3 u3 fr03 hd3 ⊢
     refine⟨lr,_,(k:Int),k,_,rfl,rfl,hr3,by omega,by omega,?_,ea,?_⟩
     . rw[tj]
       have:=seqIndex_of (k:=(k:Int)) (n:=as.length) (by omega) (by omega)
       rw[this]
       rfl
     have eer:(as.map V.ref).eraseIdx k=(as.eraseIdx k).map V.ref:=Xv _ _
     rw[eer]
     have w4:qH (upd H3 lr (.lst ((as.eraseIdx k).map V.ref))) (as.eraseIdx k) (ws.eraseIdx k):=(w3.erase hk).upd_lst hr3
     have u4:qH (upd H3 lr (.lst ((as.eraseIdx k).map V.ref))) bs us:=u3.upd_lst hr3
     have hf4:upd H3 lr (.lst ((as.eraseIdx k).map V.ref)) lf=some (.lst (bs.map V.ref)):=by rw[qi (Ne.symm nrf)];exact hf3
     have hd4:upd H3 lr (.lst ((as.eraseIdx k).map V.ref)) d=some (.dK (src n3 sd t3)):=by rw[qi (Ne.symm nrd)];exact hd3
     have hr4:upd H3 lr (.lst ((as.eraseIdx k).map V.ref)) lr=some (.lst ((as.eraseIdx k).map V.ref)):=qe
     have fr4:Fr H0 d (upd H3 lr (.lst ((as.eraseIdx k).map V.ref))):=fr03.own lr0
     obtain⟨q0,a0,b0⟩:=w3.2 k _ _ (tu hka) (tu hk)
     have a4:upd H3 lr (.lst ((as.eraseIdx k).map V.ref)) as[k]=some (.tup [.str ws[k].1,.ref q0]):=by rw[qi (λe=>by rw[e,hr3]at a0;cases a0)];exact a0
     have b4:upd H3 lr (.lst ((as.eraseIdx k).map V.ref)) q0=some (.tup (ws[k].2.map V.str)):=by rw[qi (λe=>by rw[e,hr3]at b0;cases b0)];exact b0
     generalize upd H3 lr (.lst ((as.eraseIdx k).map V.ref))=H4 at w4 u4 hf4 hd4 hr4 fr4 a4 b4 ⊢
     have lb:=uat.1
     refine⟨lf,_,_,rfl,rfl,hf4,?_,⟨rfl,n3,t3,as.eraseIdx k,bs++[as[k]],ws.eraseIdx k,us++[ws[k]],?_,?_,w4.upd_lst hf4,?_,(u4.snoc a4 b4).upd_lst hf4,?_,fr4.own lf0⟩,?_⟩
     . rw[tj]
       exact qo (by omega)
     . rw[qi (Ne.symm nfd)];exact hd4
     . rw[qi nrf];exact hr4
     . rw[tE];exact qe
     . rw[zbM]
       exact((W5 (tu hk)).append_left us).trans pm
     . show (match upd H4 lf (.lst (bs.map V.ref++[V.ref as[k]])) lr with | some (.lst xs)=>xs.length | _=>0) < (match H1 lr with | some (.lst xs)=>xs.length | _=>0)
       rw[qi nrf,hr4,hr1]
       show ((as.eraseIdx k).map V.ref).length < (as.map V.ref).length
       rw[tj,tj,zco,if_pos hka]
       omega
 . rintro σ' H' Q Q' g ⟨v,e,z,h⟩
   exact⟨v,e,z,λp hp=>let ⟨a,b,xs,e1,e2,s1,s2,k,e3,w⟩:=h p hp;⟨a,b,xs,e1,e2,s1,s2,k,e3,g _ _ w⟩⟩
def MR:Sp:=λvs H Q _=>∃(d:Addr) (n s t:Int),vs=[.ref d]/\H d=some (.dK (src n s t))/\
 ∀(l:Addr) (ps:List Addr) (rs:qR) (n' t':Int) (H':Hp),H l=none->H' l=some (.lst (ps.map V.ref))->qH H' ps rs->qy rs->0 < rs.length->rs.length<=14->H' d=some (.dK (src n' s t'))->Fr H d H'->Q (.ref l) H'
theorem Gc {rs:qR} {zs:List Str} (e:rs.map (·.1)=zs) (hn:∀z∈zs,jc z=true) (nd:zs.Nodup) (h:∀r∈rs,r.2.Nodup/\∀z∈r.2,z∈zs) (few:(rs.map λr=>r.2.length).sum<=40):qy rs:=
 ⟨λr hr=>hn _ (by rw[<-e];exact tG.mpr ⟨r,hr,rfl⟩),by rw[e];exact nd,λr hr z hz=>by rw[e];exact(h r hr).2 z hz,λr hr=>(h r hr).1,few⟩
theorem xm {H:Hp} {lr p q:Addr} {qs:List Addr} {rs:qR} {r:Str×List Str} (hl:H lr=some (.lst (qs.map V.ref))) (rat:qH H qs rs) (hq:H q=none) (hp:upd H q (.tup (r.2.map V.str)) p=none):
   qH (upd (upd (upd H q (.tup (r.2.map V.str))) p (.tup [.str r.1,.ref q])) lr (.lst ((qs++[p]).map V.ref))) (qs++[p]) (rs++[r]):=by
 have s:Same H (upd (upd H q (.tup (r.2.map V.str))) p (.tup [.str r.1,.ref q])):=(qk hq).trans (qk hp)
 exact qH.upd_lst ((rat.mono s).snoc qe (qj qe hp)) (s _ _ hl)
section
variable {P:Program} {w:World} {K:PySem.W.Frag} {mg:Str->Option Value} {base:Heap}
abbrev nLD:List Str:=["_law_source_here","_law_many","_law_names_here","_law_rows_here","_law_roads","_law_all_of","_law_k","_law_leads_here","_law_found"]
theorem Y2:qr nLD ["_law_source_here"] (ql sLD):=⟨rfl,rfl,rfl,by decide+kernel,rfl,by decide+kernel,by decide+kernel⟩
abbrev cLD:List Str:=["_law_j","_law_all_of","_law_source_here","_law_names_here"]
theorem Ma:cLD.Nodup:=by decide+kernel
theorem qaq {f fT fN:Addr} {fd fdT fdN:FuncData} (F:jG K "_law_ladder" "_law_ladder" sLD f fd) (B:Qe mg) (G:jF mg) (hT:qQ K mg "_law_take" J6 ["_law_source_here","_law_many"] fT fdT)
   (hN:qQ K mg "_law_names" ZZ ["_law_source_here","_law_many"] fN fdN):qp P w K mg base qI 3 f fd ["_law_source_here"] MR:=by
 have GT:qp P w K mg base qI 1 fT fdT ["_law_source_here","_law_many"] Jh:=Jl hT.fn
 have GN:qp P w K mg base qI 2 fN fdN ["_law_source_here","_law_many"] XW:=Vb hN.fn B hT
 refine F.okJ Y2 (λvs H Q E h=>?_) (λcdv A outer s H vs Q E hr h=>?_)
 . obtain⟨d,n,sd,t,rfl,_⟩:=h
   rfl
 . obtain⟨d,n,sd,t,rfl,hd,q⟩:=h
   have hu:=jS hr
   have r1:qN 1 _:=hr.mono (by decide)
   refine⟨_,qg (qw (i:=1) Y2.nd rfl (Or.inl rfl) (qO Qo qm (qG hT GT r1 (by rfl) (qd (jv 0) (qd qm qf)))))
     (qg (qw (i:=2) Y2.nd rfl (Or.inr rfl) (qG hN GN hr (by rfl) (qd (jv 0) (qd (jv 1) qf))))
     (qg (qw (i:=3) Y2.nd rfl (Or.inl rfl) (jE qf))
     (qg (qw (i:=4) Y2.nd rfl (Or.inl rfl) qm)
     (qg (qw (i:=5) Y2.nd rfl (Or.inr rfl) (qG hT GT r1 (by rfl) (qd (jv 0) (qd qm qf))))
     (qg (ja PassesOwn.never rfl (jp (by rfl) B.rng (qd (jv 1) qf)) (qv (i:=6) Y2.nd rfl (Or.inl rfl))
       (qg (qw (i:=7) Y2.nd rfl (Or.inl rfl) (Qt Zu (jX (N':=cLD) (ix:=[none,some 5,some 0,some 2]) (te:=YY (Ko K) (qW 3) (qW 0)) rfl ⟨rfl,rfl,rfl,rfl,rfl⟩ (jp (by rfl) B.rng (qd (jv 6) qf))
           (λC s2 H2 fp pins=>⟨qv (i:=0) Ma rfl (Or.inl rfl),jJ (JW.pt (j3 (qt Qn (jv 1) qm (qA _)) (jW (qt Qn (qG hT GT r1 (by rfl) (qd (jv 2) (qd qm qf))) qm (qA _))))),jx j9 (jv 3) (jv 0) (λ_ _=>rfl)⟩)) QT (QS (qO V9 qm (jv 4)))))
       (qg (qw (i:=4) Y2.nd rfl (Or.inl rfl) (qO Qo (jv 4) (qx qD (by rfl) B.len boot_len (qd (jv 7) qf))))
       (qh (je (QV zaj zaE zaF jY (jv 3) (qd
         (Qz (qd (jx j9 (jv 2) (jv 6) (λ_ _=>rfl)) (qd (q5 J9 (by rfl) G.tup boot_tuple (qd (jv 7) qf)) qf))) qf)))))))
     (qg (qw (i:=8) Y2.nd rfl (Or.inl rfl) (jE qf))
     (qg (QM PassesOwn.never (qt (vB (zci hu)) (jv 3) (jE qf) (qA _))
       (qh (je (QV zaj zaE zaF jY (jv 8) (qd
         (QV zaj PySem.F.slot_list_pop PySem.F.type_list_pop x8 (jv 3) (qd (qG hT GT r1 (by rfl) (qd (jv 0) (qd (qx qD (by rfl) B.len boot_len (qd (jv 3) qf)) qf))) qf)) qf)))))
     (qh (qu (jv 8)))))))))),?_⟩
   refine⟨_,rfl,d,14,n,sd,t,rfl,hd,by decide,by decide,λr n1 t1 r0 r1=>⟨_,_,rfl,rfl,?_⟩⟩
   obtain⟨m,em,m0,m1⟩:∃m:Nat,1+r=(m:Int)/\0 < m/\m<=14:=⟨(1+r).toNat,by omega,by omega,by omega⟩
   have em':(λi j:Int=>V.int (i+j)) 1 r=V.int (m:Int):=congrArg V.int em
   rw[em']
   refine⟨_,rfl,_,rfl,d,m,n1,sd,t1,rfl,qe,by omega,λlz zs n2 t2 H2 hlz hlz' zl zn znd hd2 fr2=>?_⟩
   have fr2:Fr H d H2:=Fr.refl.at_d.trans fr2
   have nzd:lz≠d:=λe=>by rw[e,hd2]at hlz';cases hlz'
   refine⟨by show 0<=sizeLine;decide,λlr hlr=>?_⟩
   have hlr0:H lr=none:=fr2.fresh hd2 hlr
   have nrd:lr≠d:=λe=>by rw[e,hd2]at hlr;cases hlr
   have nrz:lr≠lz:=λe=>by rw[e,hlz']at hlr;cases hlr
   refine⟨_,rfl,d,3,n2,sd,t2,rfl,qj hd2 hlr,by decide,by decide,λal n9 t9 _ _=>⟨_,rfl,m,rfl,by omega,by omega,?_⟩⟩
   refine j0 (lo:=0) (n:=m) (λi σ' H'=>∃(v5 v6:Option V) (n' t':Int) (qs:List Addr) (rs:qR) (rd:Nat),σ'=[some (.ref d),some (.int m),some (.ref lz),some (.ref lr),some (.int (rd:Int)),some (.int al),v5,v6,none]/\
       H' d=some (.dK (src n' sd t'))/\H' lz=some (.lst (zs.map V.str))/\H' lr=some (.lst (qs.map V.ref))/\qH H' qs rs/\rs.map (·.1)=zs.take i/\(∀r∈rs,r.2.Nodup/\∀z∈r.2,z∈zs)/\rd=(rs.map λr=>r.2.length).sum/\rd<=40/\Fr H d H')
     ⟨none,none,n9,t9,[],[],0,rfl,qe,by rw[qi nzd];exact qj hlz' hlr,by rw[qi nrd];exact qe,⟨rfl,λi p r e=>(nomatch e)⟩,rfl,λr h=>(nomatch h),rfl,by decide,(fr2.own hlr0).at_d⟩ ?_ ?_
   . rintro i σ' H' hi ⟨v5,v6,n',t',qs,rs,rd,rfl,hd',hz',hr',rat,em2,per,erd,rd40,fr⟩
     rw[zbS]
     refine⟨_,rfl,i,rfl,by omega,by omega,λW hW=>?_⟩
     have hW0:H W=none:=fr.fresh hd' hW
     have nWd:W≠d:=λe=>by rw[e,hd']at hW;cases hW
     have nWz:W≠lz:=λe=>by rw[e,hz']at hW;cases hW
     have nWr:W≠lr:=λe=>by rw[e,hr']at hW;cases hW
     refine Jb (λj σ'' G=>∃(v0:Option V) (n3 t3:Int) (ys:List Str),σ''=[v0,some (.int al),some (.ref d),some (.ref lz)]/\G d=some (.dK (src n3 sd t3))/\G W=some (.lst (ys.map V.str))/\ys.Sublist (zs.take j)/\Fr H' d G)
       ⟨none,n',t',[],rfl,qj hd' hW,qe,List.nil_sublist _,Fr.refl.own hW⟩ ?_ ?_
     . rintro j σ'' G hj ⟨v0,n3,t3,ys,rfl,hdG,hWG,sub,frG⟩
       rw[zbS]
       have hj:j < i:=by simpa using hj
       have lj:=sub.length_le
       rw[tJ]at lj
       have e2:zs.take (j+1)=zs.take j++[Za zs j]:=by rw[tM,Jf (by omega)];rfl
       refine⟨_,rfl,rfl,_,rfl,?_⟩
       refine Y5 (λ_=>?_) (λ_=>?_)
       . refine jZ ⟨_,rfl,_,rfl,lz,_,_,_,rfl,rfl,.of (frG _ _ hz' nzd),WJ (by omega),_,hWG,by rw[tj];exact qo (by omega),_,n3,t3,ys++[Za zs j],rfl,?_,?_,?_,frG.own hW⟩
         . rw[qi (Ne.symm nWd)];exact hdG
         . rw[tE];exact qe
         . rw[e2];exact sub.append (List.Sublist.refl _)
       refine⟨_,rfl,d,3,n3,sd,t3,rfl,hdG,by decide,by decide,λr n4 t4 _ _=>⟨rfl,_,rfl,?_⟩⟩
       have hz4:upd G d (.dK (src n4 sd t4)) lz=some (.lst (zs.map V.str)):=by rw[qi nzd];exact frG _ _ hz' nzd
       have hW4:upd G d (.dK (src n4 sd t4)) W=some (.lst (ys.map V.str)):=by rw[qi nWd];exact hWG
       have fr4:Fr H' d (upd G d (.dK (src n4 sd t4))):=frG.at_d
       have hd4:upd G d (.dK (src n4 sd t4)) d=some (.dK (src n4 sd t4)):=qe
       generalize upd G d (.dK (src n4 sd t4))=G4 at hz4 hW4 fr4 hd4 ⊢
       refine Y5 (λ_=>?_) (λ_=>?_)
       . refine⟨_,rfl,_,rfl,lz,_,_,_,rfl,rfl,.of hz4,WJ (by omega),_,hW4,by rw[tj];exact qo (by omega),_,n4,t4,ys++[Za zs j],rfl,?_,?_,?_,fr4.own hW⟩
         . rw[qi (Ne.symm nWd)];exact hd4
         . rw[tE];exact qe
         . rw[e2];exact sub.append (List.Sublist.refl _)
       . refine⟨_,n4,t4,ys,rfl,hd4,hW4,?_,fr4⟩
         rw[e2]
         exact sub.trans (List.sublist_append_left _ _)
     . rintro σ'' G ⟨v0,n3,t3,ys,rfl,hdG,hWG,sub,frG⟩
       refine⟨_,rfl,_,_,rfl,rfl,_,rfl,W,_,rfl,.of hWG,λp hp=>?_⟩
       have e40:(40:Int) - (rd:Int)=((40 - rd:Nat):Int):=by omega
       have ecut:L2.cutV (ys.map V.str) none (some ((40:Int) - (rd:Int)))=(ys.take (40 - rd)).map V.str:=by rw[e40,YL]
       rw[ecut]
       have sub':(ys.take (40 - rd)).Sublist (zs.take i):=(zbK _ _).trans sub
       have l40:(ys.take (40 - rd)).length<=40 - rd:=by rw[tJ];omega
       generalize ys.take (40 - rd)=xs at sub' l40 ⊢
       have lx:=sub'.length_le
       rw[tJ]at lx
       have sp:Same G (upd G p (.lst (xs.map V.str))):=qk hp
       have hp1:upd G p (.lst (xs.map V.str)) p=some (.lst (xs.map V.str)):=qe
       have fr1:Fr H' d (upd G p (.lst (xs.map V.str))):=frG.same sp
       have hd1:=sp _ _ hdG
       generalize upd G p (.lst (xs.map V.str))=G1 at sp hp1 fr1 hd1 ⊢
       have hz1:=fr1 _ _ hz' nzd
       have hr1:=fr1 _ _ hr' nrd
       have rat1:=rat.fr hd' fr1
       have li:i < zs.length:=by omega
       have lr1:qs.length=i:=by
         have:=rat.1
         have l2:=congrArg zaB em2
         rw[tj,tJ]at l2
         omega
       refine⟨_,rfl,_,rfl,p,_,rfl,.inl (.of hp1),_,_,rfl,rfl,?_⟩
       refine⟨_,rfl,.inl ⟨rfl,_,.of hr1⟩,_,rfl,_,rfl,lz,_,_,_,rfl,rfl,.of hz1,WJ li,_,rfl,p,_,rfl,.inl ⟨.of hp1,λq2 hq2=>⟨by show 2<=sizeLine;decide,λp2 hp2=>?_⟩⟩⟩
       have s2:=(qk (o:=HO.tup (xs.map V.str)) hq2).trans (qk (o:=HO.tup [V.str (Za zs i),V.ref q2]) hp2)
       refine⟨lr,_,_,rfl,rfl,s2 _ _ hr1,by rw[tj,lr1];exact qo (by omega),?_⟩
       have rm:=xm (r:=(Za zs i,xs)) hr1 rat1 hq2 hp2
       refine⟨some (.int (i:Int)),some (.ref p),n3,t3,qs++[p2],rs++[(Za zs i,xs)],rd+xs.length,?_,?_,?_,?_,?_,?_,λr hr2=>?_,?_,by omega,?_⟩
       . rw[tj]
         rfl
       . rw[qi (Ne.symm nrd)];exact s2 _ _ hd1
       . rw[qi (Ne.symm nrz)];exact s2 _ _ hz1
       . rw[tE];exact qe
       . rw[tE]at rm
         exact rm
       . rw[tE,em2,tM,Jf li]
         rfl
       . rcases zai.mp hr2 with hr2 | hr2
         . exact per r hr2
         . rw[zac.mp hr2]
           exact⟨(znd.sublist (zbK _ _)).sublist sub',λz hz=>zbn (sub'.subset hz)⟩
       . rw[tE,zcd,<-erd]
         simp
       . exact(((fr.trans fr1).same s2)).own hlr0
   . rintro σ' H' ⟨v5,v6,n',t',qs,rs,rd,rfl,hd',hz',hr',rat,em2,per,erd,rd40,fr⟩
     rw[tF (by omega)]at em2
     have good:qy rs:=Gc em2 zn znd per (by omega)
     have len:rs.length=m:=by rw[<-zl,<-em2,tj]
     refine⟨by show 0<=sizeLine;decide,λlf hlf=>?_⟩
     have lf0:H lf=none:=fr.fresh hd' hlf
     refine uO (K:=K) (d:=d) (lr:=lr) (lf:=lf) (sd:=sd) (n:=n') (t:=t') (H0:=H) (rs0:=rs) (qs:=qs) rfl rfl ?_ (qj hd' hlf) (qj hr' hlf) (rat.mono (qk hlf)) qe (fr.own lf0) hlr0 lf0 (λe=>by rw[<-e,hr']at hlf;cases hlf) (by omega) ?_
     . intro H' xs n' t' Q' h1 h2 h3 h4 k
       exact⟨_,rfl,_,rfl,lr,_,rfl,.inl (.of h2),d,(xs.length:Int),n',sd,t',rfl,h1,by omega,by omega,k⟩
     . intro H' ps rs' n' t' h1 h2 pm h3 h4
       exact⟨_,rfl,q lf ps rs' n' t' H' lf0 h1 h2 (good.perm pm) (by rw[pm.length_eq,len];omega) (by rw[pm.length_eq,len];omega) h3 h4⟩
end
open PySem L2 PyProof.Rows MRing MLab
structure VD (rs us:qR):Prop where
 sub:∀u∈us,u∈rs
 nd:(us.map (·.1)).Nodup
 bk:∀(i:Nat) (u:Str×List Str),us[i]?=some u->∀y∈u.2,∃(j:Nat) (v:Str×List Str),j < i/\us[j]?=some v/\v.1=y
theorem VD.nil (rs:qR):VD rs []:=⟨λ_ h=>(nomatch h),zaY,λ_ _ h=>(nomatch h)⟩
theorem VD.more {rs us:qR} (p:VD rs us) {r:Str×List Str} (hr:r∈rs) (new:r.1∉us.map (·.1)) (beh:∀y∈r.2,y∈us.map (·.1)):VD rs (us++[r]):=by
 refine⟨λu hu=>?_,?_,λi u e y hy=>?_⟩
 . rcases zai.mp hu with h | h
   . exact p.sub u h
   . rw[zac.mp h];exact hr
 . rw[tE,zbN]
   exact⟨p.nd,by simp,λa ha b hb e=>new (by
     have:b=r.1:=by simpa using hb
     rw[<-this,<-e];exact ha)⟩
 . by_cases hi:i < us.length
   . rw[t8 hi]at e
     obtain⟨j,v,h1,h2,h3⟩:=p.bk i u e y hy
     exact⟨j,v,h1,by rw[t8 (by omega)];exact h2,h3⟩
   . have hi':i=us.length:=by
       have:=(tq.mp e).1
       rw[tL,zas]at this
       omega
     rw[hi',zab (tw _),zbR]at e
     obtain rfl:=(tO.inj e).symm
     obtain⟨v,hv,e2⟩:=tG.mp (beh y hy)
     obtain⟨j,ej⟩:=zah hv
     have hj:=(tq.mp ej).1
     exact⟨j,v,by omega,by rw[t8 hj];exact ej,e2⟩
theorem uE {us rs:qR} (nu:us.Nodup) (nr:rs.Nodup) (h:∀u∈us,u∈rs):(us.map λr=>r.2.length).sum<=(rs.map λr=>r.2.length).sum:=by
 have p:us.Perm (rs.filter λr=>decide (r∈us)):=(zcG nu (nr.sublist zax)).mpr λr=>by
   rw[tY,decide_eq_true_iff]
   exact⟨λz=>⟨h r z,z⟩,λz=>z.2⟩
 have e:(us.map λr=>r.2.length).sum=((rs.filter λr=>decide (r∈us)).map λr=>r.2.length).sum:=(p.map _).sum_nat
 rw[e]
 have:∀(l:qR) (q:Str×List Str->Bool),((l.filter q).map λr=>r.2.length).sum<=(l.map λr=>r.2.length).sum:=λl q=>by
   induction l with
   | nil=>exact tw _
   | cons a l ih=>
     rw[zbi]
     split
     . rw[tS,tS,zaN,zaN]
       omega
     . rw[tS,zaN]
       omega
 exact this rs _
theorem vF {us:qR} (h:(us.map (·.1)).Nodup):us.Nodup:=by
 induction us with
 | nil=>exact zaY
 | cons a l ih=>
   rw[tS,zaC]at h
   rw[zaC]
   exact⟨λm=>h.1 (tG.mpr ⟨a,m,rfl⟩),ih h.2⟩
theorem VD.good {rs us:qR} (g:qy rs) (p:VD rs us):qy us:=by
 refine⟨λr hr=>g.nm r (p.sub r hr),p.nd,λr hr z hz=>?_,λr hr=>g.rd r (p.sub r hr),tV (uE (vF p.nd) (vF g.nd) p.sub) g.few⟩
 obtain⟨i,ei⟩:=zah hr
 obtain⟨j,v,_,ej,e⟩:=p.bk i r ei z hz
 exact tG.mpr ⟨v,tQ ej,e⟩
theorem VD.trap {rs us:qR} (g:qy rs) (p:VD rs us):Zq us:=λT sub t=>by
 have key:∀(i:Nat) (u:Str×List Str),us[i]?=some u->u.1∉T:=λi=>by
   induction i using zcq with
   | _ i ih=>
     intro u eu m
     obtain⟨y,hy,hT⟩:=t u.1 m
     have hy2:=(ZI (p.good g) (tQ eu)).mp hy
     obtain⟨j,v,hj,ej,e⟩:=p.bk i u eu y hy2
     exact ih j hj v ej (e▸hT)
 refine zbl.mpr λz hz=>?_
 obtain⟨u,hu,rfl⟩:=tG.mp (sub z hz)
 obtain⟨i,ei⟩:=zah hu
 exact key i u ei hz
theorem VD.same {rs us:qR} (g:qy rs) (p:VD rs us) {z:Str} (hz:z∈us.map (·.1)) (y:Str):y∈jz us z↔y∈jz rs z:=by
 obtain⟨u,hu,rfl⟩:=tG.mp hz
 rw[ZI (p.good g) hu,ZI g (p.sub u hu)]
theorem VD.pln {rs us:qR} (g:qy rs) (p:VD rs us) {zs:List Str} {f:Str->Nat} (st:za us zs) (lst:∀z∈zs,Lst f (jz us z) (f z)):Gz rs zs f:=by
 refine⟨λz hz=>?_,st.nd,λi z ez y hy=>?_,λz hz=>vZ (lst z hz) λy=>p.same g (st.sub z hz) y⟩
 . obtain⟨u,hu,rfl⟩:=tG.mp (st.sub z hz)
   exact tG.mpr ⟨u,p.sub u hu,rfl⟩
 . exact st.st i z ez y ((p.same g (st.sub z (tQ ez)) y).mpr hy)
theorem VD.plnU {rs us:qR} (g:qy rs) (p:VD rs us) {zs:List Str} {f:Str->Nat} (st:za us zs) (lst:∀z∈zs,Lst f (jz us z) (f z)):Gz us zs f:=⟨st.sub,st.nd,st.st,lst⟩
open PySem L2 PyProof.Rows MRing MLab
abbrev M5:Stmt:=top 83
def Ut (r:Str×List Str):PyData:=.tuple [.str r.1,.tuple (r.2.map PyData.str)]
theorem qH.tail {H:Hp} {p:Addr} {ps:List Addr} {r:Str×List Str} {rs:qR} (h:qH H (p::ps) (r::rs)):qH H ps rs:=⟨zcA.inj h.1,λi a b e1 e2=>h.2 (i+1) a b (by simpa using e1) (by simpa using e2)⟩
theorem VF {K:PySem.W.Frag} {H:Hp}:∀{ps:List Addr} {rs:qR},qH H ps rs->DVs K H (ps.map V.ref) (rs.map Ut)
 | [],[],_=>.nil
 | [],_::_,h=>by cases h.1
 | _::_,[],h=>by cases h.1
 | p::ps,r::rs,h=>by
   obtain⟨q,a,b⟩:=h.2 0 p r rfl rfl
   exact .cons (.tup (.of a) (.cons (.str _) (.cons (.tup (.of b) (YV _)) .nil))) (VF h.tail)
theorem VA:∀{rs:qR},(∀r∈rs,jc r.1=true/\∀z∈r.2,jc z=true)->PyData.canLayAll0 (rs.map Ut)=true
 | [],_=>rfl
 | r::rs,h=>by
   rw[tS,PyData.canLayAll0,VA λy hy=>h y (tW _ hy),zcO]
   obtain⟨h1,h2⟩:=h r t7
   show (PyData.strOk r.1&&(PyData.canLayAll0 (r.2.map PyData.str)&&true))=true
   rw[zM h1,N9 h2]
   rfl
theorem Vx:∀(rs:qR),PyData.depthAll (rs.map Ut)<=2
 | []=>by decide
 | r::rs=>by
   have:=Vx rs
   rw[tS]
   simp only[PyData.depthAll,PyData.depth,Ut,N8]
   omega
theorem uQ {rs:qR} (g:qy rs):PySem.SeqAt.shaped (.list (rs.map Ut))=true:=by
 unfold PySem.SeqAt.shaped
 rw[zam]
 refine⟨VA λr hr=>⟨g.nm r hr,g.names r hr⟩,decide_eq_true ?_⟩
 have:=Vx rs
 simp only[PyData.depth]
 omega
theorem wW (rs:qR):PyData.eqv (.list (rs.map Ut)) (.list [])=rs.isEmpty:=by cases rs<;>rfl
theorem qH.off {H:Hp} {ps:List Addr} {rs:qR} {d:Addr} {kvs:List (qF×V)} {o:HO} (h:qH H ps rs) (hd:H d=some (.dK kvs)):qH (upd H d o) ps rs:=⟨h.1,λi p r e1 e2=>by
 obtain⟨q,a,b⟩:=h.2 i p r e1 e2
 exact⟨q,by rw[qi (λe=>by rw[e,hd]at a;cases a)];exact a,by rw[qi (λe=>by rw[e,hd]at b;cases b)];exact b⟩⟩
theorem Lf.offL {rs:qR} {H:Hp} {d lo:Addr} {ls:List Str} {xs:List V} {o:HO} (h:Lf rs H d ls) (hl:H lo=some (.lst xs)):Lf rs (upd H lo o) d ls:=by
 obtain⟨kvs,a,b,c⟩:=h.at_
 refine⟨⟨kvs,by rw[qi (λe=>by rw[e,hl]at a;cases a)];exact a,b,λr hr hl'=>?_⟩,h.sub,h.nd,h.far⟩
 obtain⟨t,u,v⟩:=c r hr hl'
 exact⟨t,u,by rw[qi (λe=>by rw[e,hl]at v;cases v)];exact v⟩
theorem Yu {X:Hp} {l2:Addr} {ps:List Addr} {rs:qR} {CG:Addr} {R:Hp->Prop} (hl:X l2=some (.lst (ps.map V.ref))) (rat:qH X ps rs) (good:qy rs) (pos:0 < rs.length) (le14:rs.length<=14)
   {x dx:Addr} (hx:X x=none) (hdx:X dx=none) (ndx:dx≠x) {E:XK} (k:∀H4,Same X H4->jB CG H4 x rs->R H4):
   zG CG [.ref x,.ref l2] (upd (upd X dx (.own x)) x (.ins CG dx [])) (λv H'=>v=.non/\R H') E:=by
 have s3:Same X (upd (upd X dx (.own x)) x (.ins CG dx [])):=λb u hb=>by
   rw[qi (qz hb hx),qi (qz hb hdx)]
   exact hb
 refine⟨x,dx,l2,ps,rs,rfl,⟨s3 _ _ hl,rat.mono s3,good,pos,le14⟩,qe,λH4 gr fr4=>⟨rfl,k H4 (λb u hb=>fr4 b u (s3 _ _ hb) (qz hb hx)) gr⟩⟩
def RN (CG:Addr):Sp:=λvs H Q _=>∃(g l:Addr) (ps:List Addr) (rs:qR),vs=[.ref g,.ref l]/\jB CG H g rs/\qY H l ps rs/\∀H',Same H H'->Q (.bl true) H'
section
variable {P:Program} {w:World} {K:PySem.W.Frag} {mg:Str->Option Value} {base:Heap}
abbrev nOG:List Str:=["_law_ground","_law_rows_here","_law_left","_law_out","_law_turn","_law_name","_law_told"]
abbrev Mt:List Str:=["_law_ground","_law_rows_here"]
theorem kz:qr nOG Mt (ql M5):=⟨rfl,rfl,rfl,by decide+kernel,rfl,by decide+kernel,by decide+kernel⟩
theorem qam {f CG f1 f2 f3 fW:Addr} {fd fd1 fd2 fd3 fdW:FuncData} (F:jG K "_law_out_good" "_law_out_good" M5 f fd) (B:Qe mg) (G:jF mg) (T:jP K mg) (N:yy K mg) (M:GM K mg CG) (hdi:mg "dict"=none) (hW:qQ K mg "need_rows" z8 ["rows"] fW fdW)
   (h1:qQ K mg "plain_numbers" R9 ["ground"] f1 fd1) (G1:qp P w K mg base qI 7 f1 fd1 ["ground"] (yV CG)) (h2:qQ K mg "_law_numbers_good" Mr Rq f2 fd2) (G2:qp P w K mg base qI 2 f2 fd2 Rq uL) (h3:qQ K mg "_law_labels_good" kA W7 f3 fd3) (G3:qp P w K mg base qI 9 f3 fd3 W7 (U6 CG)):qp P w K mg base qI 10 f fd Mt (RN CG):=by
 obtain⟨fI,fdI,C⟩:=M.cls
 have GI:qp P w K mg base qI 6 fI fdI ["self","rows"] (zG CG):=Vc C B G T N hW
 refine F.okJ kz (λvs H Q E h=>?_) (λcdv A outer s H vs Q E hr h=>?_)
 . obtain⟨g,l,ps,rs,rfl,_⟩:=h
   rfl
 . obtain⟨g,l,ps,rs,rfl,gr,ga,q⟩:=h
   have hu:=jS hr
   have r2:qN 2 _:=hr.mono (by decide)
   have r7:qN 7 _:=hr.mono (by decide)
   refine⟨_,qg (qw (i:=2) kz.nd rfl (Or.inr rfl) (q5 (Zp rfl) (by rfl) hdi boot_dict (qd (jv 1) qf)))
     (qg (qw (i:=3) kz.nd rfl (Or.inl rfl) (jE qf))
     (qg (ja PassesOwn.never rfl (jp (by rfl) B.rng (qd (qx qD (by rfl) B.len boot_len (qd (jv 1) qf)) qf)) (qv (i:=4) kz.nd rfl (Or.inl rfl))
       (qh (ja PassesOwn.never rfl (qJ (q5 (YO rfl) (by rfl) G.lst boot_list (qd (jv 2) qf))) (qv (i:=5) kz.nd rfl (Or.inl rfl))
         (qh (qK (qt (Yp hr.units) (jX (N':=["_law_other","_law_left"]) (ix:=[none,some 2]) (tt:=tB (RJ (qW 0) (qW 1))) (te:=qW 0) rfl ⟨rfl,rfl,rfl,rfl,rfl⟩ (YA (jk hu (jv 2) (jv 5) (λ_ _=>rfl))) (λC s2 H2 fp pins=>
             ⟨qv (i:=0) (show (["_law_other","_law_left"]:List Str).Nodup by decide+kernel) rfl (Or.inl rfl),jJ (Qy (Zj hu (jv 0) (jv 1))),jv 0⟩)) (jE qf) (qA _))
           (qh (je (QV zaj zaE zaF jY (jv 3) (qd (Qz (qd (jv 5) (qd (Vl (jv 2) (jv 5) ⟨rfl,rfl,rfl,rfl⟩) qf))) qf)))) qB)))))
     (qg (qK (qt (Yp hr.units) (jv 3) (jE qf) (qA _)) (qh (qu jy)) qB)
     (qg (qw (i:=6) kz.nd rfl (Or.inl rfl) (qG h1 G1 r7 (by rfl) (qd (QU C.mkr GI r7 (by rfl) C.ns C.bi .nil QB (qd (jv 3) qf)) qf)))
     (qh (qu (Jn (qG h2 G2 r2 (by rfl) (qd (jv 3) (qd (jv 6) qf))) (Zi (qG h3 G3 hr (by rfl) (qd (jv 0) (qd (jv 6) qf))))))))))),?_⟩
   refine⟨_,rfl,Ud ?_⟩
   refine YJ ga λd kv0 hd ek0 hv0=>?_
   have le:=ga.le
   have lps:=ga.rows.1
   have L0:Lf rs (upd H d (.dK kv0)) d (rs.map (·.1)):=⟨⟨kv0,qe,ek0,λr hr' _=>let ⟨t,a,b⟩:=hv0 r hr';⟨t,a,qj b hd⟩⟩,λz h=>h,ga.good.nd,λT sub _ y hy=>sub y hy⟩
   refine⟨by show 0<=sizeLine;decide,λlo hlo=>?_⟩
   have nlod:lo≠d:=λe=>by rw[e,qe]at hlo;cases hlo
   have hloH:H lo=none:=by rw[qi nlod]at hlo;exact hlo
   refine⟨_,rfl,l,_,rfl,.inl (.of (qj (qj ga.at_ hd) hlo)),_,rfl,by omega,by rw[tj];omega,?_⟩
   have dis0:True:=trivial
   refine j0 (λi σ H'=>∃(v4 v5:Option V) (ls:List Str) (us:qR) (os:List Addr),σ=[some (.ref g),some (.ref l),some (.ref d),some (.ref lo),v4,v5,none]/\Same H H'/\Lf rs H' d ls/\VD rs us/\(∀z∈rs.map (·.1),z∉ls->z∈us.map (·.1))/\H' lo=some (.lst (os.map V.ref))/\qH H' os us/\∀z∈us.map (·.1),z∉ls)
     ⟨none,none,_,[],[],rfl,(qk hd).trans (qk hlo),L0.mono (qk hlo),.nil rs,λz h n=>absurd h n,qe,⟨rfl,λi p r e=>(nomatch e)⟩,λz h=>(nomatch h)⟩ ?_ ?_
   . rintro i0 σ H' hi0 ⟨v4,v5,ls0,us0,os0,rfl,sH,lf0,pop0,cov0,hlo0,rat0,dis1⟩
     obtain⟨k0,a0,b0,c0⟩:=lf0.at_
     refine⟨_,rfl,d,k0,ls0,rfl,a0,b0,λlz hlz=>⟨lz,rfl,⟨_,.of qe⟩,?_⟩⟩
     have nz:lz≠d:=λe=>by rw[e,a0]at hlz;cases hlz
     have nzo:lz≠lo:=λe=>by rw[e,hlo0]at hlz;cases hlz
     have sz:Same H' (upd H' lz (.lst (ls0.map V.str))):=qk hlz
     refine js (K:=K) (a:=lz) (xs:=ls0.map V.str) (λj σ' X=>∃(v5:Option V) (ls:List Str) (us:qR) (os:List Addr),σ'=[some (.ref g),some (.ref l),some (.ref d),some (.ref lo),some (.int (0+(i0:Int))),v5,none]/\Same H X/\X lz=some (.lst (ls0.map V.str))/\Lf rs X d ls/\(∀z∈ls0.drop j,z∈ls)/\VD rs us/\(∀z∈rs.map (·.1),z∉ls->z∈us.map (·.1))/\X lo=some (.lst (os.map V.ref))/\qH X os us/\∀z∈us.map (·.1),z∉ls)
         ⟨_,ls0,us0,os0,rfl,sH.trans sz,qe,lf0.mono sz,λz h=>h,pop0,cov0,sz _ _ hlo0,rat0.mono sz,dis1⟩ (λj σ' X _ ⟨_,_,_,_,_,_,h,_⟩=>.of h) ?_ ?_
     . rintro j y σ' X5 hy ⟨v5,ls,us,os,rfl,sG,hz,lf,dr,pop,cov,hlo5,rat,dis⟩
       obtain⟨z,ez,hzz,rfl⟩:=jo hy
       have jl:=(tq.mp ez).1
       have zin:z∈ls:=dr z (by
         rw[zbI]
         exact⟨0,by rw[zaK];exact ez⟩)
       obtain⟨rz,hrz,erz⟩:=tG.mp (lf.sub z zin)
       subst erz
       obtain⟨kvs,a,bk,c⟩:=lf.at_
       obtain⟨t,ev,ht⟩:=c rz hrz zin
       have gz:=jU.k (k:=(Sum.inr rz.1:qF)) a
       rw[ev]at gz
       have l40:=ga.good.len rz hrz
       refine⟨_,rfl,_,rfl,d,_,rfl,gz,t,rfl,⟨_,.of ht⟩,λW hW=>?_⟩
       refine zR (K:=K) (a:=t) (xs:=rz.2.map V.str) (λi σ'' H''=>∃v0,σ''=[v0,some (.ref d)]/\H''=upd X5 W (.lst (((rz.2.take i).filter λy=>(qS kvs (Sum.inr y:qF)).isSome).map V.str)))
         ⟨none,rfl,rfl⟩ (λi σ'' H'' _ ⟨_,_,e⟩=>e▸.of (qj ht hW)) ?_ ?_
       . rintro i y σ'' H'' hy ⟨v0,rfl,rfl⟩
         obtain⟨x,ex,hx,rfl⟩:=jo hy
         have gx:=jU.k (k:=(Sum.inr x:qF)) (qj (o':=HO.lst (((rz.2.take i).filter λy=>(qS kvs (Sum.inr y:qF)).isSome).map V.str)) a hW)
         refine⟨_,rfl,_,rfl,d,_,rfl,gx,_,rfl,?_⟩
         cases cc:(qS kvs (Sum.inr x:qF)).isSome with
         | true=>
           refine jZ ⟨_,rfl,_,qe,?_,_,rfl,?_⟩
           . rw[tj]
             refine qo (tV (zao _ _) ?_)
             rw[tJ]
             omega
           . rw[jd,tM,ex,zaJ,tE]
             simp [cc]
         | false=>
           refine qV ⟨_,rfl,?_⟩
           rw[tM,ex,zaJ]
           simp [cc]
       . rintro σ'' H'' ⟨v0,rfl,rfl⟩
         rw[tj,tF (tw _)]
         generalize hfl:rz.2.filter (λy=>(qS kvs (Sum.inr y:qF)).isSome)=fl
         have ifl:∀y,y∈fl↔y∈jz rs rz.1/\y∈ls:=λy=>by
           rw[<-hfl,tY,UK bk,wO ga.good hrz]
         have nfl:∀y∈fl,jc y=true:=λy hy=>ga.good.names rz hrz y ((wO ga.good hrz).mp ((ifl y).mp hy).1)
         refine⟨by show 0<=sizeLine;decide,λl0 hl0=>?_⟩
         have sW:Same X5 (upd X5 W (.lst (fl.map V.str))):=qk hW
         have sE:Same X5 (upd (upd X5 W (.lst (fl.map V.str))) l0 (.lst [])):=sW.trans (qk hl0)
         refine⟨dL fl,dL [],Y9 (qj qe hl0),Y9 qe,Ra nfl,Ra (λy h=>(nomatch h)),_,rfl,?_⟩
         rw[YH]
         generalize upd (upd X5 W (.lst (fl.map V.str))) l0 (.lst [])=X7 at sE
         have dr':∀x∈ls0.drop (j+1),x∈ls/\x≠rz.1:=λx hx=>by
           obtain⟨i,ei⟩:=zah hx
           rw[zaK]at ei
           refine⟨dr x ?_,λe=>?_⟩
           . rw[zbI]
             exact⟨i+1,by rw[zaK,<-ei];congr 1;omega⟩
           . obtain⟨h1,h2⟩:=tq.mp ei
             obtain⟨h3,h4⟩:=tq.mp ez
             have:=Rv lf0.nd (h2.trans (e.trans h4.symm))
             omega
         cases fl with
         | nil=>
           have beh:∀y∈rz.2,y∈us.map (·.1):=λy hy=>cov y (ga.good.to rz hrz y hy) λm=>by
             have:=(ifl y).mpr ⟨(wO ga.good hrz).mpr hy,m⟩
             cases this
           have new:rz.1∉us.map (·.1):=λm=>dis rz.1 m zin
           refine jR rfl ⟨_,rfl,.inl ⟨rfl,_,.of (sE _ _ hlo5)⟩,_,rfl,_,rfl,d,rfl,.inl ⟨_,.inl (sE _ _ a)⟩,_,rfl,kvs,Sum.inr rz.1,_,sE _ _ a,rfl,ev,by show 2<=sizeLine;decide,λp2 hp2=>?_⟩
           have lf8:=(lf.mono sE).pop (sE _ _ a) (z:=rz.1) (λy hy hl=>by have:=(ifl y).mpr ⟨hy,hl⟩;cases this)
           have rat8:=(rat.mono sE).off (o:=.dK (QC kvs (Sum.inr rz.1))) (sE _ _ a)
           have s8:Same H (upd X7 d (.dK (QC kvs (Sum.inr rz.1)))):=Same.upd (sG.trans sE) hd
           have hlo8:upd X7 d (.dK (QC kvs (Sum.inr rz.1))) lo=some (.lst (os.map V.ref)):=by rw[qi nlod];exact sE _ _ hlo5
           have hz8:upd X7 d (.dK (QC kvs (Sum.inr rz.1))) lz=some (.lst (ls0.map V.str)):=by rw[qi nz];exact sE _ _ hz
           have ht8:upd X7 d (.dK (QC kvs (Sum.inr rz.1))) t=some (.tup (rz.2.map V.str)):=by rw[qi (λe=>by rw[e,a]at ht;cases ht)];exact sE _ _ ht
           generalize upd X7 d (.dK (QC kvs (Sum.inr rz.1)))=X8 at lf8 rat8 s8 hlo8 hz8 ht8 hp2
           have s9:Same X8 (upd X8 p2 (.tup [.str rz.1,.ref t])):=qk hp2
           have h9:upd X8 p2 (.tup [.str rz.1,.ref t]) p2=some (.tup [.str rz.1,.ref t]):=qe
           generalize upd X8 p2 (.tup [.str rz.1,.ref t])=X9 at s9 h9
           have hlo9:=s9 _ _ hlo8
           have lus:us.length<=14:=tV (by
             have:=Qf pop.nd (m:=rs.map (·.1)) λz hz=>by
               obtain⟨u,hu,rfl⟩:=tG.mp hz
               exact tG.mpr ⟨u,pop.sub u hu,rfl⟩
             rw[tj,tj]at this
             exact this) le
           have los:=rat.1
           refine⟨lo,_,_,rfl,rfl,hlo9,by rw[tj];exact qo (by omega),_,ls.filter (λy=>decide (y≠rz.1)),us++[rz],os++[p2],rfl,Same.upd (s8.trans s9) hloH,by rw[qi nzo];exact s9 _ _ hz8,(lf8.mono s9).offL hlo9,λx hx=>tY.mpr ⟨(dr' x hx).1,decide_eq_true (dr' x hx).2⟩,pop.more hrz new beh,λx hx nx=>?_,by rw[tE];exact qe,((rat8.mono s9).snoc (r:=rz) h9 (s9 _ _ ht8)).upd_lst hlo9,λx hx mx=>?_⟩
           . rw[tE]
             by_cases e:x=rz.1
             . exact zan _ (by rw[e];exact zac.mpr rfl)
             . exact zaR _ (cov x hx λm=>nx (tY.mpr ⟨m,decide_eq_true e⟩))
           . obtain⟨m1,m2⟩:=tY.mp mx
             rw[tE]at hx
             rcases zai.mp hx with hx | hx
             . exact dis x hx m1
             . exact of_decide_eq_true m2 (by simpa using hx)
         | cons x0 r0=>
           exact jD rfl ⟨_,ls,us,os,rfl,sG.trans sE,sE _ _ hz,lf.mono sE,λx hx=>(dr' x hx).1,pop,cov,sE _ _ hlo5,rat.mono sE,dis⟩
     . rintro σ' X ⟨v5,ls,us,os,rfl,sX,hz,lf,dr,pop,cov,hlo5,rat,dis⟩
       exact⟨_,v5,ls,us,os,rfl,sX,lf,pop,cov,hlo5,rat,dis⟩
   . rintro σ H' ⟨v4,v5,ls,us,os,rfl,sH,lf,pop,cov,hlo5,rat,dis⟩
     have goodu:=pop.good ga.good
     have lus:us.length<=14:=tV (by
       have:=Qf pop.nd (m:=rs.map (·.1)) λz hz=>by
         obtain⟨u,hu,rfl⟩:=tG.mp hz
         exact tG.mpr ⟨u,pop.sub u hu,rfl⟩
       rw[tj,tj]at this
       exact this) le
     refine⟨_,rfl,by show 0<=sizeLine;decide,λl0 hl0=>?_⟩
     have s1:Same H' (upd H' l0 (.lst [])):=qk hl0
     refine⟨.list (us.map Ut),.list [],.lst (.of (s1 _ _ hlo5)) (VF (rat.mono s1)),.lst (.of qe) .nil,uQ goodu,by decide+kernel,_,rfl,?_⟩
     rw[wW]
     generalize upd H' l0 (.lst [])=X1 at s1
     have s01:=sH.trans s1
     cases us with
     | nil=>exact jR rfl (q X1 s01)
     | cons u0 us1=>
       refine jD rfl ?_
       have hlo1:=s1 _ _ hlo5
       have rat1:=rat.mono s1
       refine⟨_,rfl,λx dx hx hdx ndx=>?_⟩
       refine Yu hlo1 rat1 goodu (zdd _) lus hx hdx ndx λX3 s3 gr3=>?_
       refine⟨x,_,rfl,gr3,goodu,lus,pop.trap ga.good,λX4 D zs f s4 nD hD st all lst=>?_⟩
       have s14:=s3.trans s4
       refine⟨_,rfl,_,rfl,lo,D,os,_,zs,f,rfl,⟨s14 _ _ hlo1,rat1.mono s14,goodu,zdd _,lus⟩,hD,pop.plnU ga.good st lst,all,λX5 s5=>⟨_,rfl,jZ ?_⟩⟩
       have s05:=s01.trans (s14.trans s5)
       exact⟨_,rfl,_,rfl,g,D,rs,zs,f,rfl,gr.mono s05,ga.good,le,s5 _ _ hD,pop.pln ga.good st lst,λX6 s6=>q X6 (s05.trans s6)⟩
end
open PySem L2 PyProof.Rows MRing MLab
abbrev sRt:Stmt:=top 84
structure Ml (K:PySem.W.Frag) (mg:Str->Option Value) (D CR CN:Addr):Prop where
 nD:mg "HeapError"=some (.ref D)
 nN:mg "NoGround"=some (.ref CN)
 k1:tZ K (.ref CR) (.ref D)=some true
 k2:tZ K (.ref CR) (.ref CN)=some false
 spc:zbv K (.builtin "object.__class__") "__get__"=some (some (.builtin "getset_descriptor.__get__"))
 tks:zca K (.builtin "object.__class__")=some true
theorem qaD {X:Cx} {x:Str} {st:Stmt} {ps:List Str} {f:Addr} {fd:FuncData} {k:Nat} {sp:Sp} {E:L2.St->XK} {e:Expr} {es:List Expr} {t:TA} {p pos:Pos} (h:qQ X.K X.mg x st ps f fd) (G:qp X.prog X.w X.K X.mg X.base (um X.prog X.w) k f fd ps sp) (hr:qN k X.A) (hx:ZP (um X.prog X.w) X E)
   (hg:Gl X x) (ha:JA X (e::es) t) (hdb:(x==("__debug__":Str))=false:=by decide) (he:starEach (e::es) X.env=(false,eval e X.env)::starEach es X.env:=by rfl) (hpl:(backTo pos (starEach es X.env)).any (·.1)=false:=by rfl):
   JE X (.Call (.Name x p) (e::es) [] pos) (yQ sp [] E t):=.of (xE G hr hg h.ns h.fn.kp h.bi .nil hx ha.to hdb he hpl)
theorem xy {rs:qR} {zs:List Str} {f f':Str->Nat} (st:Stl (jz rs) zs) (h:∀z∈zs,Lst f (jz rs z) (f z)) (h':∀z∈zs,Lst f' (jz rs z) (f' z)):∀(i:Nat) (z:Str),zs[i]?=some z->f z=f' z:=by
 intro i
 induction i using zcq with
 | _ i ih=>
   intro z ez
   have m:=tQ ez
   exact(h z m).uniq ((h' z m).congr λy hy=>by
     obtain⟨j,hj,ej⟩:=st i z ez y hy
     exact ih j hj y ej)
abbrev Kn (K:PySem.W.Frag):List V->Hp->VK->Prop:=λxs H Q=>∃p ys,xs=[.ref p]/\(SqL K H p ys\/SqT K H p ys)/\∀l,H l=none->Q (.ref l) (upd H l (.lst ys))
def FrK (H:Hp) (d:Addr) (H':Hp):Prop:=∀b o,H b=some o->(∀φ,o≠.ext φ)->b≠d->H' b=some o
def MQ (CG:Addr):Sp:=λvs H Q _=>∃(l d:Addr) (ps:List Addr) (rs:qR) (n s t:Int),vs=[.ref l,.ref d]/\qY H l ps rs/\H d=some (.dK (src n s t))/\∀H' n' t',FrK H d H'->H' d=some (.dK (src n' s t'))->Q (.bl true) H'
theorem qY.keep {H H':Hp} {l:Addr} {ps:List Addr} {rs:qR} (h:qY H l ps rs) (s:Y8 H H'):qY H' l ps rs:=⟨s _ _ h.at_ (λ_ z=>nomatch z),h.rows.keep s,h.good,h.pos,h.le⟩
theorem qY.frD {H H':Hp} {l d:Addr} {ps:List Addr} {rs:qR} {kvs:List (qF×V)} (h:qY H l ps rs) (hd:H d=some (.dK kvs)) (f:Fr H d H'):qY H' l ps rs:=⟨f _ _ h.at_ (λe=>by have:=h.at_;rw[e,hd]at this;cases this),h.rows.fr hd f,h.good,h.pos,h.le⟩
section
variable {P:Program} {w:World} {K:PySem.W.Frag} {mg:Str->Option Value} {base:Heap}
abbrev nRt:List Str:=["_law_rows_here","_law_source_here","_law_ground","_law_ring","_law_told","e","_law_turn","_law_kept"]
abbrev pRt:List Str:=["_law_rows_here","_law_source_here"]
theorem X0:qr nRt pRt (ql sRt):=⟨rfl,rfl,rfl,by decide+kernel,rfl,by decide+kernel,by decide+kernel⟩
abbrev ur (D:Addr):List Value:=.ref D::QK
theorem qaj {f CG D CR CN fW f1 f2 f3 f4 f5 f6 f7 f8 fX:Addr} {fd fdW fd1 fd2 fd3 fd4 fd5 fd6 fd7 fd8 fdX:FuncData} (F:jG K "_law_right" "_law_right" sRt f fd) (B:Qe mg) (G:jF mg) (T:jP K mg) (N:yy K mg) (M:GM K mg CG) (hdi:mg "dict"=none) (hW:qQ K mg "need_rows" z8 ["rows"] fW fdW)
   (xR:RF K mg D "Ring" "Ring.__init__" ZY "places" CR fX fdX) (ZE:Ml K mg D CR CN)
   (h1:qQ K mg "plain_numbers" R9 ["ground"] f1 fd1) (G1:qp P w K mg base qI 7 f1 fd1 ["ground"] (yV CG)) (G1x:qp P w K mg base (um P w) 7 f1 fd1 ["ground"] (U2 CG CR))
   (h2:qQ K mg "_law_numbers_good" Mr Rq f2 fd2) (G2:qp P w K mg base qI 2 f2 fd2 Rq uL) (h3:qQ K mg "_law_labels_good" kA W7 f3 fd3) (G3:qp P w K mg base qI 9 f3 fd3 W7 (U6 CG))
   (h4:qQ K mg "_law_no_ring" M6 ["_law_rows_here"] f4 fd4) (G4:qp P w K mg base qI 1 f4 fd4 ["_law_rows_here"] RO)
   (h5:qQ K mg "_law_ring_good" M4 Ms f5 fd5) (G5:qp P w K mg base qI 1 f5 fd5 Ms RL)
   (h6:qQ K mg "ring_in" R7 ["ground"] f6 fd6) (G6:qp P w K mg base qI 6 f6 fd6 ["ground"] (yU CG))
   (h7:qQ K mg "_law_out_good" M5 Mt f7 fd7) (G7:qp P w K mg base qI 10 f7 fd7 Mt (RN CG))
   (h8:qQ K mg "_law_heap_good" sHG Mu f8 fd8) (G8:qp P w K mg base qI 11 f8 fd8 Mu (RQ CG)):qp P w K mg base qI 12 f fd pRt (MQ CG):=by
 obtain⟨fI,fdI,C⟩:=M.cls
 have GI:qp P w K mg base qI 6 fI fdI ["self","rows"] (zG CG):=Vc C B G T N hW
 have GP:qp P w K mg base (um P w) 7 f1 fd1 ["ground"] (λvs H Q E=>yV CG vs H Q E\/U2 CG CR vs H Q E):=G1.toX.either G1x
 refine F.okJ X0 (λvs H Q E z=>?_) (λcdv A outer s H vs Q E hr z=>?_)
 . obtain⟨l,d,ps,rs,n,sd,t,rfl,_⟩:=z
   rfl
 . obtain⟨l,d,ps,rs,n,sd,t,rfl,ga,hd,q⟩:=z
   have hu:=jS hr
   have r1:qN 1 _:=hr.mono (by decide)
   have r2:qN 2 _:=hr.mono (by decide)
   have r6:qN 6 _:=hr.mono (by decide)
   have r7:qN 7 _:=hr.mono (by decide)
   have r9:qN 9 _:=hr.mono (by decide)
   have r10:qN 10 _:=hr.mono (by decide)
   have r11:qN 11 _:=hr.mono (by decide)
   refine⟨_,qg (qw (i:=2) X0.nd rfl (Or.inl rfl) (QU C.mkr GI r7 (by rfl) C.ns C.bi .nil QB (qd (q5 j1 (by rfl) G.lst boot_list (qd (jv 0) qf)) qf)))
     (qg (qw (i:=3) X0.nd rfl (Or.inl rfl) YB)
     (qg (qw (i:=4) X0.nd rfl (Or.inl rfl) YB)
     (qg (NP rfl rfl (λpn W E hE=>qh (qw (i:=4) X0.nd rfl (Or.inl rfl) (qaD h1 GP r7 hE (by rfl) (qd (jv 2) qf))))
       (K4 (j:=5) (ts:=yK (yM (tOr (RG (tB (uD (V4 K (ur D)) (jA (qW 5) (jA (tC (.ref D)) QD)))))
             (tOr (tB (uD (V4 K (ur D)) (jA (qW 5) (jA (tC (.ref CN)) QD)))) (RG (tB (uD (Ro K) (jA (US K (ur D) (qW 5) "places") (jA (tC (.ty "list")) QD))))))) (MD (tC (.bl false))) WQ)
           (yK (yR (uD (Kn K) (jA (US K (ur D) (qW 5) "places") QD)) (JB 3)) (yN (MJ K "list" We (US K (ur D) (qW 5) "places") (jA (tC (.str "zz")) QD)))))
         (by rfl) xR.ns xR.rcls X0.nd rfl rfl
         (λv E=>qg (qK (JW.pt (j3 (ju (qX (qx (zy (bm:=ur D) ZE.spc ZE.tks) (by rfl) T.isi boot_isinstance (qd (jv 5) (qd (QF (v:=.ref D) (by rfl) ZE.nD rfl) qf)))))
             (j3 (qX (qx (zy (bm:=ur D) ZE.spc ZE.tks) (by rfl) T.isi boot_isinstance (qd (jv 5) (qd (QF (v:=.ref CN) (by rfl) ZE.nN rfl) qf))))
             (jW (ju (qX (qx qP (by rfl) T.isi boot_isinstance (qd (Wu (bm:=ur D) (jv 5) rfl) (qd (jL (v:=.ty "list") (by rfl) G.lst boot_list rfl) qf))))))))) (qh (qu jy)) qB)
           (qg (qw (i:=3) X0.nd rfl (Or.inl rfl) (q5 j1 (by rfl) G.lst boot_list (qd (Wu (bm:=ur D) (jv 5) rfl) qf)))
           (qh (je (QV zaj zaE zaF jY (Wu (bm:=ur D) (jv 5) rfl) (qd jr qf))))))
         wt))
     (qg (qK (Qy (NY (jv 4)))
       (qg (qK (JW.pt (j3 (qX (qG h4 G4 r1 (by rfl) (qd (jv 0) qf))) (j3 (ju (qX (qG h5 G5 r1 (by rfl) (qd (jv 0) (qd (jv 3) qf))))) (jW (qt (Ua hr.units) (jv 3) (qG h6 G6 r6 (by rfl) (qd (jv 2) qf)) (qA _)))))) (qh (qu jy)) qB)
       (qh (qu (qG h7 G7 r10 (by rfl) (qd (jv 2) (qd (jv 0) qf)))))) qB)
     (qg (qK (JW.pt (j3 (ju (qX (qG h4 G4 r1 (by rfl) (qd (jv 0) qf)))) (j3 (ju (qX (qG h2 G2 r2 (by rfl) (qd (jv 0) (qd (jv 4) qf))))) (jW (ju (qX (qG h3 G3 r9 (by rfl) (qd (jv 2) (qd (jv 4) qf))))))))) (qh (qu jy)) qB)
     (qg (ja PassesOwn.never rfl (jp (by rfl) B.rng (qd qm qf)) (qv (i:=6) X0.nd rfl (Or.inl rfl))
       (qh (qK (ju (qX (qG h8 G8 r11 (by rfl) (qd (jv 2) (qd (jv 0) (qd (jv 4) (qd (jv 1) qf))))))) (qh (qu jy)) qB)))
     (qg (qw (i:=7) X0.nd rfl (Or.inl rfl) (q5 Uy (by rfl) hdi boot_dict (qd (jv 4) qf)))
     (qg (je (Ul zcQ zcT PySem.F.type_dict_clear kW (jv 4)))
     (qh (qu (jQ (Kx (show (A.deeper _).units+70 < cLine by have:=hr.un;omega)) (qG h1 G1 r7 (by rfl) (qd (jv 2) qf)) (jv 7) (qA _)))))))))))),?_⟩
   refine⟨_,rfl,l,_,rfl,.inl (.of ga.at_),λl2 hl2 x dx hx hdx ndx=>?_⟩
   have s1:Same H (upd H l2 (.lst (ps.map V.ref))):=qk hl2
   refine Yu (X:=upd H l2 (.lst (ps.map V.ref))) qe (ga.rows.mono s1) ga.good ga.pos ga.le hx hdx ndx λH4 s4 gr=>?_
   have s04:=s1.trans s4
   have ga4:qY H4 l ps rs:=⟨s04 _ _ ga.at_,ga.rows.mono s04,ga.good,ga.pos,ga.le⟩
   have hd4:=s04 _ _ hd
   by_cases nt:Zq rs
   . refine⟨λ_ _ _=>False,⟨_,rfl,.inl ⟨x,rs,rfl,gr,ga.good,ga.le,nt,λH5 D5 zs f5 s5 nD hD st all lst=>?_⟩⟩,λ_ _ _ _ _ _ h=>h.elim⟩
     have pl:Gz rs zs f5:=⟨st.sub,st.nd,st.st,lst⟩
     refine⟨_,rfl,_,rfl,jD (decide_eq_false λe=>nomatch e) ?_⟩
     have s05:=s04.trans s5
     have ga5:qY H5 l ps rs:=⟨s05 _ _ ga.at_,ga.rows.mono s05,ga.good,ga.pos,ga.le⟩
     refine⟨_,rfl,l,ps,rs,rfl,ga5,λH6 b s6 hb=>?_⟩
     cases hb.mpr nt
     have ga6:qY H6 l ps rs:=⟨s6 _ _ ga5.at_,ga5.rows.mono s6,ga.good,ga.pos,ga.le⟩
     refine⟨_,rfl,qV ?_⟩
     refine⟨_,rfl,_,rfl,l,D5,ps,rs,zs,f5,rfl,ga6,s6 _ _ hD,pl,all,λH7 s7=>⟨_,rfl,qV ?_⟩⟩
     have s67:=s6.trans s7
     refine⟨_,rfl,_,rfl,x,D5,rs,zs,f5,rfl,(gr.mono s5).mono s67,ga.good,ga.le,s67 _ _ hD,pl,λH8 s8=>⟨_,rfl,qV ?_⟩⟩
     have s58:=s67.trans s8
     have nDd:D5≠d:=λe=>by rw[e,hd4]at nD;cases nD
     have ga8:qY H8 l ps rs:=⟨s58 _ _ ga5.at_,ga5.rows.mono s58,ga.good,ga.pos,ga.le⟩
     have gr8:=(gr.mono s5).mono s58
     have hd8:=s58 _ _ (s5 _ _ hd4)
     have hD8:=s58 _ _ hD
     refine⟨3,rfl,by decide,by decide,?_⟩
     refine j0 (λi σ Y=>∃(v6:Option V) (n' t':Int),σ=[some (.ref l),some (.ref d),some (.ref x),some .non,some (.ref D5),none,v6,none]/\Fr H8 d Y/\Y d=some (.dK (src n' sd t'))) ⟨_,_,_,rfl,.refl,hd8⟩ ?_ ?_
     . rintro i σ Y hi ⟨v6,n',t',rfl,fr,hdY⟩
       refine⟨_,rfl,_,rfl,_,rfl,_,rfl,x,l,D5,d,ps,rs,zs,f5,n',sd,t',rfl,gr8.src ga.pos hd8 fr,ga8.frD hd8 fr,fr _ _ hD8 nDd,nDd,pl,all,hdY,λY2 n2 t2 fr2 hd2=>⟨_,rfl,qV ⟨_,n2,t2,rfl,λb o hb nb=>fr2 b o (fr b o hb nb) nb,hd2⟩⟩⟩
     . rintro σ Y ⟨v6,n',t',rfl,fr,hdY⟩
       have hDY:=fr _ _ hD8 nDd
       have grY:=gr8.src ga.pos hd8 fr
       refine⟨_,rfl,D5,_,rfl,.of hDY,λp hp=>?_⟩
       have npD:p≠D5:=λe=>by rw[e,hDY]at hp;cases hp
       have npd:p≠d:=λe=>by rw[e,hdY]at hp;cases hp
       have hD9:upd Y p (.dK (Zf f5 zs)) D5=some (.dK (Zf f5 zs)):=qj hDY hp
       refine⟨_,rfl,.inr (.inr (.inl ⟨rfl,.inl ⟨_,hD9⟩⟩)),D5,_,rfl,rfl,hD9,?_⟩
       have frZ:Fr H4 d (upd (upd Y p (.dK (Zf f5 zs))) D5 (.dK [])):=λb o hb nb=>by
         have hY:=fr b o (s58 _ _ (s5 _ _ hb)) nb
         rw[qi (qz hb nD)]
         exact qj hY hp
       have hdZ:upd (upd Y p (.dK (Zf f5 zs))) D5 (.dK []) d=some (.dK (src n' sd t')):=by
         rw[qi (Ne.symm nDd)]
         exact qj hdY hp
       have hpZ:upd (upd Y p (.dK (Zf f5 zs))) D5 (.dK []) p=some (.dK (Zf f5 zs)):=by
         rw[qi npD]
         exact qe
       generalize upd (upd Y p (.dK (Zf f5 zs))) D5 (.dK [])=Z at frZ hdZ hpZ
       refine⟨_,rfl,x,rs,rfl,gr.src ga.pos hd4 frZ,ga.good,ga.le,nt,λH9 D6 zs6 f6 s9 nD6 hD6 st6 all6 lst6=>?_⟩
       have pm:zs6.Perm zs:=vx st6.nd st.nd λz=>⟨λh=>all z (st6.sub z h),λh=>all6 z (st.sub z h)⟩
       refine⟨_,rfl,D6,p,Zf f6 zs6,Zf f5 zs,rfl,rfl,.of hD6,.of (s9 _ _ hpZ),?_,λu hu'=>?_,?_⟩
       . unfold Zf
         rw[tj,tj]
         exact pm.length_eq
       . obtain⟨z,hz,rfl⟩:=tG.mp hu'
         have hz':=pm.mem_iff.mp hz
         obtain⟨j,ej⟩:=zah hz'
         have e:f5 z=f6 z:=xy st.st lst (λy hy=>lst6 y (pm.mem_iff.mpr hy)) j z ej
         refine⟨_,.int (f6 z:Nat),JQ st.nd hz',.int _,?_,?_⟩
         . rw[e]
           exact .int _
         . rfl
       . refine q H9 n' t' (λb o hb _ nb=>s9 _ _ (frZ b o (s04 _ _ hb) nb)) (s9 _ _ hdZ)
   . refine⟨λC' dx' Hx=>C'=CR/\∃l' r,Same H4 Hx/\Hx dx'=some (.xd [(Str.ofString "places",.ref l')])/\H4 l'=none/\Hx l'=some (.lst (r.map V.str))/\UD (jz rs) r/\(∀z∈r,z∈rs.map (·.1))/\zc rs r,
       ⟨_,rfl,.inr ⟨x,rs,rfl,gr,ga.good,ga.le,nt,λH5 dx' l' r s5 hx5 nl hl5 ring sub rof=>⟨rfl,CR,dx',rfl,rfl,rfl,l',r,s5,hx5,nl,hl5,ring,sub,rof⟩⟩⟩,?_⟩
     rintro a C' dx' T' Hx H' ⟨rfl,l',r,sx,hdx',nl,hl',ring,sub,rof⟩ ha kp ha'
     have nda:dx'≠a:=λz=>by
       rw[z,ha]at hdx'
       cases hdx'
     have nla:l'≠a:=λz=>by
       rw[z,ha]at hl'
       cases hl'
     have hdx2:=kp dx' _ nda hdx'
     have hl2':=kp l' _ nla hl'
     have k1:Y8 H4 H':=λb o hb nx=>kp b o (λz=>by
       rw[z]at hb
       have:=sx _ _ hb
       rw[ha]at this
       exact nx _ (tO.inj this).symm) (sx _ _ hb)
     have lk:([(Str.ofString "places",V.ref l')]:List (Str×V)).lookup (Str.ofString "places")=some (.ref l'):=by simp [zbc]
     refine⟨fX,_,xR.mkr,?_⟩
     rw[if_pos (by simp [zcC])]
     refine⟨_,rfl,a,C',dx',_,_,.ref D,true,rfl,rfl,ha',hdx2,xR.cls,ZE.k1,_,rfl,qV ?_⟩
     refine⟨_,rfl,a,C',dx',_,_,.ref CN,false,rfl,rfl,ha',hdx2,xR.cls,ZE.k2,_,rfl,qV ?_⟩
     refine⟨_,rfl,a,C',dx',_,_,.ref l',rfl,ha',hdx2,xR.cls,xR.na,lk,_,_,_,_,rfl,rfl,.lst hl2',T.kll,_,rfl,qV ?_⟩
     refine⟨_,rfl,a,C',dx',_,_,.ref l',rfl,ha',hdx2,xR.cls,xR.na,lk,l',_,rfl,.inl (.of hl2'),λlr hlr=>?_⟩
     have nrl:lr≠l':=λe=>by rw[e,hl2']at hlr;cases hlr
     have nra:a≠lr:=λe=>by rw[<-e,ha']at hlr;cases hlr
     have nrd:dx'≠lr:=λe=>by rw[<-e,hdx2]at hlr;cases hlr
     have lr14:r.length<=14:=by
       have:=Qf ring.nd sub
       rw[tj]at this
       have:=ga.le
       omega
     have nmr:∀z∈r,jc z=true:=λz hz=>by
       obtain⟨u,hu',rfl⟩:=tG.mp (sub z hz)
       exact ga.good.nm u hu'
     have hl3:upd H' lr (.lst (r.map V.str)) l'=some (.lst (r.map V.str)):=qj hl2' hlr
     refine⟨_,rfl,a,C',dx',_,_,.ref l',rfl,qj ha' hlr,qj hdx2 hlr,xR.cls,xR.na,lk,.inl ⟨rfl,_,.of hl3⟩,l',_,_,rfl,rfl,hl3,by rw[tj];exact qo (by omega),?_⟩
     have k2:Y8 H4 (upd (upd H' lr (.lst (r.map V.str))) l' (.lst (r.map V.str++[.str "zz"]))):=λb o hb nx=>by
       rw[qi (qz hb nl)]
       exact qj (k1 b o hb nx) hlr
     have hlr2:upd (upd H' lr (.lst (r.map V.str))) l' (.lst (r.map V.str++[.str "zz"])) lr=some (.lst (r.map V.str)):=by
       rw[qi nrl]
       exact qe
     generalize upd (upd H' lr (.lst (r.map V.str))) l' (.lst (r.map V.str++[.str "zz"]))=Z at k2 hlr2
     have gaZ:=ga4.keep k2
     have grZ:=gr.keep k2
     refine⟨_,rfl,_,rfl,jR (decide_eq_true rfl) ?_⟩
     refine⟨_,rfl,l,ps,rs,rfl,gaZ,λH6 b s6 hb=>?_⟩
     have hb':b=false:=by
       cases b with
       | false=>rfl
       | true=>exact absurd (hb.mp rfl) nt
     subst hb'
     have ga6:qY H6 l ps rs:=⟨s6 _ _ gaZ.at_,gaZ.rows.mono s6,ga.good,ga.pos,ga.le⟩
     refine⟨_,rfl,qV ?_⟩
     refine⟨_,rfl,_,rfl,l,lr,ps,rs,r,rfl,ga6,s6 _ _ hlr2,ring,sub,λH7 s7=>⟨_,rfl,qV ?_⟩⟩
     have s67:=s6.trans s7
     refine⟨_,rfl,_,rfl,x,rs,rfl,grZ.mono s67,ga.good,ga.le,λH8 v s8 hv=>?_⟩
     rcases hv with ⟨_,h⟩ | ⟨l8,r8,rfl,_,hl8,_,_,rof8⟩
     . exact absurd h nt
     have er:=rof8.uniq ga.good.nd rof
     subst er
     have s68:=s67.trans s8
     refine⟨dL r8,Y9 (s68 _ _ hlr2),Y9 hl8,Ra nmr,_,rfl,qV ?_⟩
     refine⟨_,rfl,_,rfl,x,l,ps,rs,rfl,grZ.mono s68,⟨s68 _ _ gaZ.at_,gaZ.rows.mono s68,ga.good,ga.pos,ga.le⟩,λH9 s9=>?_⟩
     refine q H9 n t (λb o hb nx _=>s9 _ _ (s68 _ _ (k2 b o (s04 _ _ hb) nx))) (s9 _ _ (s68 _ _ (k2 _ _ hd4 (λ_ z=>nomatch z))))
end
open PySem L2 PyProof.Rows MRing MLab
def U7 (K:PySem.W.Frag):Sp:=λvs H Q _=>∃(a:Addr) (ns:List Int),vs=[.ref a]/\SqL K H a (ns.map V.int)/\ns.length<=63/\∀H',Q (.bl true) H'
theorem qaB {r:Int} (h0:0<=r) (h1:r < 4):∃mo:Nat,vU [V.int 2,.int 5,.int 9,.int 14] r=some (.int (mo:Int))/\0 < mo/\mo<=14:=by
 have:r=0\/r=1\/r=2\/r=3:=by omega
 rcases this with rfl | rfl | rfl | rfl
 . exact⟨2,rfl,by decide,by decide⟩
 . exact⟨5,rfl,by decide,by decide⟩
 . exact⟨9,rfl,by decide,by decide⟩
 . exact⟨14,rfl,by decide,by decide⟩
theorem qaE {n jj:Int} (h0:0<=n) (h:(if (if (12:Int) < n then (12:Int) else n) > 3 then (if (12:Int) < n then (12:Int) else n) else 3)=jj):-(2^62)<=jj/\jj < 2^62:=by
 subst h
 split<;>split<;>omega
theorem ZO {K:PySem.W.Frag} {H H':Hp} {p d:Addr} {ns:List Int} {kvs:List (qF×V)} (h:SqL K H p (ns.map V.int)) (hd:H d=some (.dK kvs)) (f:FrK H d H'):SqL K H' p (ns.map V.int):=by
 rcases h with (h | ⟨o,h⟩) | h
 . exact .inl (.inl (f _ _ h (λ_ z=>nomatch z) (λe=>by rw[e,hd]at h;cases h)))
 . exact .inl (.inr ⟨o,f _ _ h (λ_ z=>nomatch z) (λe=>by rw[e,hd]at h;cases h)⟩)
 . exact .inr h
theorem Fr.frk {H H':Hp} {d:Addr} (h:Fr H d H'):FrK H d H':=λb o hb _ nb=>h b o hb nb
section
variable {P:Program} {w:World} {K:PySem.W.Frag} {mg:Str->Option Value} {base:Heap}
abbrev qbT:List Str:=["_law_script","_law_k","_law_source_here"]
theorem xj:qr qbT ["_law_script"] (ql Wb):=⟨rfl,rfl,rfl,by decide+kernel,rfl,by decide+kernel,by decide+kernel⟩
structure qaY (K:PySem.W.Frag) (mg:Str->Option Value):Prop where
 cell:∃f fd,qQ K mg "_law_cell_at" vm ["_law_script","_law_k"] f fd
 source:∃f fd,qQ K mg "_law_source" zK ["_law_cell"] f fd
 take:∃f fd,qQ K mg "_law_take" J6 ["_law_source_here","_law_many"] f fd
 names:∃f fd,qQ K mg "_law_names" ZZ ["_law_source_here","_law_many"] f fd
 leads:∃f fd,qQ K mg "_law_leads" Yb Ym f fd
 rows:∃f fd,qQ K mg "_law_rows" vf ["_law_source_here","_law_most"] f fd
 need:∃f fd,qQ K mg "need_rows" z8 ["rows"] f fd
 heap:∃f fd,qQ K mg "_law_heap" Yc Mw f fd
 ladder:∃f fd,qQ K mg "_law_ladder" sLD ["_law_source_here"] f fd
 least:∃f fd,qQ K mg "_law_least" Ya ["_law_numbers"] f fd
 numg:∃f fd,qQ K mg "_law_numbers_good" Mr Rq f fd
 labg:∃f fd,qQ K mg "_law_labels_good" kA W7 f fd
 heapg:∃f fd,qQ K mg "_law_heap_good" sHG Mu f fd
 ringg:∃f fd,qQ K mg "_law_ring_good" M4 Ms f fd
 noring:∃f fd,qQ K mg "_law_no_ring" M6 ["_law_rows_here"] f fd
 outg:∃f fd,qQ K mg "_law_out_good" M5 Mt f fd
 right:∃f fd,qQ K mg "_law_right" sRt pRt f fd
 el:∃f fd,qQ K mg "ends_left" Kf xF f fd
 sn:∃f fd,qQ K mg "settled_next" Rf Rp f fd
 pr:∃f fd,qQ K mg "places_to_no_ring" R8 ["ground"] f fd
 ri:∃f fd,qQ K mg "ring_in" R7 ["ground"] f fd
 pn:∃f fd,qQ K mg "plain_numbers" R9 ["ground"] f fd
 lack:∃f fd,qQ K mg "lacking" j7 ["numbers"] f fd
 outc:∃f fd,qQ K mg "outcome" Xl ["ground","heap"] f fd
 after:∃f fd,qQ K mg "after" Hv.sAfter Hv.nAf f fd
 over:∃f fd,qQ K mg "is_over" Hv.sOver Hv.nOv f fd
theorem Nz {f CG D CR CN fX:Addr} {fd fdX:FuncData} (F:jG K "law" "law" Wb f fd) (h:WF K mg) (B:Qe mg) (Zk:Wk K mg) (G:jF mg) (T:jP K mg) (N:yy K mg) (M:GM K mg CG) (Y:UF K mg) (O:uk K mg) (V1:Hv.HM K mg) (Z:qaY K mg) (KN:Mj K)
   (zd:mg "dict"=none) (zi:mg "int"=none) (zb:mg "bool"=none) (zz:mg "zip"=none) (xR:RF K mg D "Ring" "Ring.__init__" ZY "places" CR fX fdX) (ZE:Ml K mg D CR CN):qp P w K mg base qI 13 f fd ["_law_script"] (U7 K):=by
 obtain⟨fO,fdO,hO⟩:=Z.cell
 obtain⟨fL,fdL,hL⟩:=Z.source
 obtain⟨fT,fdT,hT⟩:=Z.take
 obtain⟨fN,fdN,hN⟩:=Z.names
 obtain⟨fD,fdD,hD⟩:=Z.leads
 obtain⟨fR,fdR,hR⟩:=Z.rows
 obtain⟨fW,fdW,hW⟩:=Z.need
 obtain⟨a1,b1,hH⟩:=Z.heap
 obtain⟨a2,b2,hLd⟩:=Z.ladder
 obtain⟨a3,b3,hLe⟩:=Z.least
 obtain⟨a4,b4,hNg⟩:=Z.numg
 obtain⟨a5,b5,hLg⟩:=Z.labg
 obtain⟨a6,b6,hHg⟩:=Z.heapg
 obtain⟨a7,b7,hRg⟩:=Z.ringg
 obtain⟨a8,b8,hNr⟩:=Z.noring
 obtain⟨a9,b9,hOg⟩:=Z.outg
 obtain⟨c1,d1,hRt⟩:=Z.right
 obtain⟨c2,d2,hEl⟩:=Z.el
 obtain⟨c3,d3,hSn⟩:=Z.sn
 obtain⟨c4,d4,hPr⟩:=Z.pr
 obtain⟨c5,d5,hRi⟩:=Z.ri
 obtain⟨c6,d6,hPn⟩:=Z.pn
 obtain⟨c7,d7,hLk⟩:=Z.lack
 obtain⟨c8,d8,hOu⟩:=Z.outc
 obtain⟨c9,d9,hAf⟩:=Z.after
 obtain⟨c10,d10,hOv⟩:=Z.over
 have GO:qp P w K mg base qI 1 fO fdO ["_law_script","_law_k"] (y7 K):=KM hO.fn B
 have GL:qp P w K mg base qI 1 fL fdL ["_law_cell"] WV:=kO hL.fn B
 have GT:qp P w K mg base qI 1 fT fdT ["_law_source_here","_law_many"] Jh:=Jl hT.fn
 have GR:qp P w K mg base qI 3 fR fdR ["_law_source_here","_law_most"] yT:=KB hR.fn B G hT hN hD
 have GD:qp P w K mg base qI 3 a2 b2 ["_law_source_here"] MR:=qaq hLd.fn B G hT hN
 have GPn:qp P w K mg base qI 7 c6 d6 ["ground"] (yV CG):=qal hPn.fn B G T M hEl hSn hPr hRi hLk
 have GPx:qp P w K mg base (um P w) 7 c6 d6 ["ground"] (U2 CG CR):=Nw hPn.fn B G T M hEl hSn hPr hRi xR
 have GNg:qp P w K mg base qI 2 a4 b4 Rq uL:=qao hNg.fn G T KN zd zi zb hLe
 have GLg:qp P w K mg base qI 9 a5 b5 W7 (U6 CG):=Ny hLg.fn B G T M Y
 have GNr:qp P w K mg base qI 1 a8 b8 ["_law_rows_here"] RO:=qan hNr.fn B G zd
 have GRg:qp P w K mg base qI 1 a7 b7 Ms RL:=qak hRg.fn B G T zd zz
 have GRi:qp P w K mg base qI 6 c5 d5 ["ground"] (yU CG):=xN hRi.fn B G T M hEl hSn hPr
 have GOg:qp P w K mg base qI 10 a9 b9 Mt (RN CG):=qam hOg.fn B G T N M zd hW hPn GPn hNg GNg hLg GLg
 have GHg:qp P w K mg base qI 11 a6 b6 Mu (RQ CG):=qas (fM:=a1) (fdM:=b1) hHg.fn h B Zk G T M Y O V1 hT hH hOu hAf hOv
 have GRt:qp P w K mg base qI 12 c1 d1 pRt (MQ CG):=qaj hRt.fn B G T N M zd hW xR ZE hPn GPn GPx hNg GNg hLg GLg hNr GNr hRg GRg hRi GRi hOg GOg hHg GHg
 refine F.okJ xj (λvs H Q E z=>?_) (λcdv A outer s H vs Q E hr z=>?_)
 . obtain⟨a,ns,rfl,_⟩:=z
   rfl
 . obtain⟨a,ns,rfl,hq,hlen,k⟩:=z
   have hu:=jS hr
   have r1:qN 1 _:=hr.mono (by decide)
   have r3:qN 3 _:=hr.mono (by decide)
   refine⟨_,qg (ja PassesOwn.never rfl (jp (by rfl) B.rng (qd (qx (XE rfl) (by rfl) B.max boot_max (qd qm (qd (qx (yv rfl) (by rfl) B.min boot_min (qd (qx qD (by rfl) B.len boot_len (qd (jv 0) qf)) (qd qm qf))) qf))) qf))
       (qv (i:=1) xj.nd rfl (Or.inl rfl))
       (qg (qw (i:=2) xj.nd rfl (Or.inl rfl) (qG hL GL r1 (by rfl) (qd (qG hO GO r1 (by rfl) (qd (jv 0) (qd (jv 1) qf))) qf)))
       (qg (qK (ju (qX (qG hRt GRt hr (by rfl) (qd (qG hLd GD r3 (by rfl) (qd (jv 2) qf)) (qd (jv 2) qf))))) (qh (qu jy)) qB)
       (qh (qK (ju (qX (qG hRt GRt hr (by rfl) (qd (qG hR GR r3 (by rfl) (qd (jv 2) (qd (jx j9 (jE (qd qm (qd qm (qd qm (qd qm qf))))) (qG hT GT r1 (by rfl) (qd (jv 2) (qd qm qf))) (λ_ _=>rfl)) qf))) (qd (jv 2) qf))))) (qh (qu jy)) qB)))))
     (qh (qu jy)),?_⟩
   refine⟨_,rfl,a,_,rfl,.inl hq,_,_,rfl,_,_,rfl,?_⟩
   generalize hj:(if (if (12:Int) < ((ns.map V.int).length:Int) then (12:Int) else ((ns.map V.int).length:Int)) > 3 then (if (12:Int) < ((ns.map V.int).length:Int) then (12:Int) else ((ns.map V.int).length:Int)) else 3)=jj
   have jb:=qaE (by omega) hj
   refine⟨jj,rfl,jb.1,jb.2,?_⟩
   refine j0 (λi σ H'=>∃v1 v2,σ=[some (.ref a),v1,v2]/\SqL K H' a (ns.map V.int)) ⟨_,_,rfl,hq⟩ ?_ ?_
   . rintro i σ H' hi ⟨v1,v2,rfl,hq2⟩
     refine⟨_,rfl,_,rfl,a,ns,_,rfl,hq2,by omega,λc=>⟨c,rfl,λd n sd hd=>?_⟩⟩
     have hq3:=hq2.keep (qk (o:=.dK (src n sd 0)) hd).keep
     have hd3:upd H' d (.dK (src n sd 0)) d=some (.dK (src n sd 0)):=qe
     generalize upd H' d (.dK (src n sd 0))=H3 at hq3 hd3
     refine⟨_,rfl,d,n,sd,0,rfl,hd3,λl ps rs n1 t1 H4 hl hl4 rat good pos le hd4 fr4=>?_⟩
     have hq4:=ZO hq3 hd3 fr4.frk
     refine⟨_,rfl,l,d,ps,rs,n1,sd,t1,rfl,⟨hl4,rat,good,pos,le⟩,hd4,λH5 n2 t2 fr5 hd5=>⟨_,rfl,qV ?_⟩⟩
     have hq5:=ZO hq4 hd4 fr5
     refine⟨_,rfl,by show 4<=sizeLine;decide,λlp hlp=>?_⟩
     have ndp:lp≠d:=λe=>by rw[e,hd5]at hlp;cases hlp
     have hq6:=hq5.keep (qk (o:=.lst [.int 2,.int 5,.int 9,.int 14]) hlp).keep
     have hd6:=qj (o':=HO.lst [.int 2,.int 5,.int 9,.int 14]) hd5 hlp
     refine⟨_,rfl,d,4,n2,sd,t2,rfl,hd6,by decide,by decide,λr' n3 t3 r0' r1'=>?_⟩
     obtain⟨mo,em,m0,m14⟩:=qaB r0' r1'
     have hq7:SqL K (upd (upd H5 lp (.lst [.int 2,.int 5,.int 9,.int 14])) d (.dK (src n3 sd t3))) a (ns.map V.int):=ZO hq6 hd6 (λb o hb _ nb=>by rw[qi nb];exact hb)
     refine⟨lp,_,r',_,rfl,rfl,.of (by rw[qi ndp];exact qe),em,d,mo,n3,sd,t3,rfl,qe,m0,m14,λl ps rs n' t' H7 hl hl7 rat good pos le hd7 fr7=>?_⟩
     have hq8:=ZO hq7 qe fr7.frk
     refine⟨_,rfl,l,d,ps,rs,n',sd,t',rfl,⟨hl7,rat,good,pos,tV le m14⟩,hd7,λH9 n9 t9 fr9 hd9=>⟨_,rfl,qV ⟨_,_,rfl,ZO hq8 hd7 fr9⟩⟩⟩
   . rintro σ H' ⟨v1,v2,rfl,hq2⟩
     exact k _
end
open PySem L2 PyProof.Rows MLab
abbrev Rg:Stmt:=ZY
theorem kss {K:PySem.W.Frag}:tZ K (.type "str") (.type "str")=some true:=by kernel_rfl
theorem ktt {K:PySem.W.Frag}:tZ K (.type "tuple") (.type "tuple")=some true:=by kernel_rfl
theorem kll {K:PySem.W.Frag}:tZ K (.type "list") (.type "list")=some true:=by kernel_rfl
theorem kii {K:PySem.W.Frag}:tZ K (.type "int") (.type "int")=some true:=by kernel_rfl
theorem kib {K:PySem.W.Frag}:tZ K (.type "int") (.type "bool")=some false:=by kernel_rfl
theorem kdd {K:PySem.W.Frag}:tZ K (.type "dict") (.type "dict")=some true:=by kernel_rfl
section
variable {K:PySem.W.Frag}
def MF (K:PySem.W.Frag) (n q:Str) (s:Stmt) (f:Addr):Prop:=∃fd,jG K n q s f fd
theorem MF.mk' {x qual:Str} {st:Stmt} {f:Addr} {oc:Value} {od an:Option Addr} {osl:Array (Option Value)} {kV doc pm cdv ct:Value} (l:K.lookup f=some ⟨oc,od,.func (zbr x qual (QW st) (Ql st) (ql st) .none kV doc pm an cdv ct),osl⟩) (c:zbP K cdv qual=true) (k:zaD K (.ref f)=true):MF K x qual st f:=⟨_,Uq l c k⟩
def HF (K:PySem.W.Frag) (n:Str) (s:Stmt) (f:Addr):Prop:=zag K mainGlobals n=some (some (.ref f))/\MF K n n s f
theorem HF.mk' {x:Str} {st:Stmt} {f:Addr} {oc:Value} {od an:Option Addr} {osl:Array (Option Value)} {kV doc pm cdv ct:Value} (a:zag K mainGlobals x=some (some (.ref f))) (l:K.lookup f=some ⟨oc,od,.func (zbr x x (QW st) (Ql st) (ql st) .none kV doc pm an cdv ct),osl⟩) (c:zbP K cdv x=true) (k:zaD K (.ref f)=true):HF K x st f:=⟨a,_,Uq l c k⟩
theorem HF.has {h:Heap} {mg:Str->Option Value} {n:Str} {s:Stmt} {f:Addr} {ps:List Str} (l:HF K n s f) (X:K.In h) (G:h.Ns mainGlobals mg) (b:∀{fd},jG K n n s f fd->jH K fd ps []):∃fd,qQ K mg n s ps f fd:=let ⟨a,fd,F⟩:=l;⟨fd,F,zaG X G a,b F⟩
end
def MM (es:Array DictEntry):Bool:=es.all λe=>match e.key with | .str _ _=>true | _=>false
theorem uI {es:Array DictEntry} (h:MM es=true):StrKeys es:=by
 intro e he
 have q:=Array.all_eq_true'.mp h e he
 revert q
 cases hk:e.key<;>intro q<;>first | exact⟨_,_,rfl⟩ | (dsimp only at q;cases q)
section
variable {K:PySem.W.Frag} {mg:Str->Option Value} {D C f:Addr} {x qual fld:Str} {st:Stmt}
theorem N3 {h:Heap} {fd:FuncData} {nm q:Str} {N:Addr} {bs:List Value} {hdct:Bool} {sn:List Str} {sub:List Value} {ab:Bool} {col:Option Bool} {dd:Option Addr} {k0 k1 k2 k3 k5:Option Value}
   (X:K.In h) (G:h.Ns mainGlobals mg) (tl:∀h:Heap,K.In h->OwnTail h QK (.ref D::QK)) (F:jG K "__init__" qual st f fd) (b:jH K fd ["self",fld] [])
   (a1:zag K mainGlobals x=some (some (.ref C)))
   (a2:K.lookup C=some (excClassObj nm q C N bs (.ref D::QK) hdct sn sub ab col dd k0 k1 k2 k3 k5 "ValueError.__new__"))
   (a3:tP K (.ref C) "__init__"=some (some (.ref f))) (a4:zaI K (.ref f)=true) (a5:zaD K (.ref C)=true)
   (a6:tP K (.ref C) "__getattribute__"=some (some (.builtin "BaseException.__getattribute__"))) (a7:tP K (.ref C) "__getattr__"=some none)
   (a8:tP K (.ref C) "__setattr__"=some (some (.builtin "object.__setattr__"))) (a9:zbd K C=true)
   (a10:zbx K C (.type "BaseException")=some true) (a11:zbx K C (.type "object")=some true)
   (a12:tP K (.ref C) "__class__"=some (some (.builtin "object.__class__"))) (a13:tP K (.ref C) fld=some none):RF K mg D x qual st fld C f fd:=
 ⟨⟨a6,a7,a8,a9,⟨_,by unfold PySem.W.clsIn;rw[a2],rfl⟩,a10,a11,a12⟩,⟨⟨nm,q,N,bs,hdct,sn,sub,ab,col,dd,k0,k1,k2,k3,k5,a2⟩,tl,a3,a4,a5⟩,zaG X G a1,a13,F,b⟩
end
theorem all_mk {l:PySem.W.OpenLaw} {w:World} {K:PySem.W.Frag} {h:Heap} {mg:Str->Option Value} {fa:Addr} (X:K.In h) (G:h.Ns mainGlobals mg) (hfa:mg "law"=some (.ref fa))
   {fO fL fT fN fD fR fA1 fA2 fA3 fA4 fA5 fA6 fA7 fA8 fB1 fB2 fB3 fB4 fB5 fB6 fB7 fB8 fW1 fW2 fW3 fW4 fW5 fW6 fP1 fP2 fP3 fP4 fP5 fP6 fQ1 fQ2 fQ3 fQ4 fQ5 fR1 fR2 fR3 fR4 fR5 fC1 fC2 fC3 fC4 fC5 fC6 fC7 fC8 fC9 fC0 fCGi fCGM fCGF fCNi fCNO fCNP fCNE fCEi fCEO fCEP fCEE CRing fRing:Addr}
   {fLAW:Addr} {odLAW anLAW:Option Addr} {slLAW:Array (Option Value)} {ocLAW kVLAW dcLAW pmLAW cdLAW ctLAW:Value}
   {CG:Addr}
   {CN:Addr}
   {CE:Addr}
   {tm1:Tok}
   {tm2:Tok}
   {tm3:Tok}
   {tm4:Tok}
   {tm5:Tok}
   {tm6:Tok}
   {tm7:Tok}
   {D:Addr} {nmHE qHE:Str} {NHE:Addr} {bsHE subHE:List Value} {hdctHE abHE:Bool} {snHE:List Str} {colHE:Option Bool} {ddHE:Option Addr} {kaHE kbHE kcHE kdHE keHE:Option Value} {oHN:Value} {dHN:Option Addr} {es:Array DictEntry} {ep:Nat} {slHN:Array (Option Value)}
   {nmRing qRing:Str} {NRing:Addr} {bsRing subRing:List Value} {hdctRing abRing:Bool} {snRing:List Str} {colRing:Option Bool} {ddRing:Option Addr} {kaRing kbRing kcRing kdRing keRing:Option Value}
   {CZ:Addr}
   (lO:HF K "_law_cell_at" vm fO)
   (lL:HF K "_law_source" zK fL)
   (lT:HF K "_law_take" J6 fT)
   (lN:HF K "_law_names" ZZ fN)
   (lD:HF K "_law_leads" Yb fD)
   (lR:HF K "_law_rows" vf fR)
   (lA1:HF K "is_name" Zx fA1)
   (lA2:HF K "is_tuple_of_names" Xk fA2)
   (lA3:HF K "is_row" Ye fA3)
   (lA4:HF K "need_form" vi fA4)
   (lA5:HF K "need_own_names" Kc fA5)
   (lA6:HF K "need_ends" vj fA6)
   (lA7:HF K "need_few_roads" Ke fA7)
   (lA8:HF K "need_rows" z8 fA8)
   (lB1:HF K "lacking" j7 fB1)
   (lB2:HF K "set_of" ZW fB2)
   (lB3:HF K "numbers_behind" Ri fB3)
   (lB4:HF K "gets_number" Yf fB4)
   (lB5:HF K "round_of" ZX fB5)
   (lB6:HF K "give_number" W1 fB6)
   (lB7:HF K "give_numbers" Wc fB7)
   (lB8:HF K "labels_of" zL fB8)
   (lW1:HF K "is_whole" sWhole fW1)
   (lW2:HF K "is_number" Zw fW2)
   (lW3:HF K "is_set" Yd fW3)
   (lW4:HF K "set_turned" zJ fW4)
   (lW5:HF K "numbers_in" z7 fW5)
   (lW6:HF K "sum_of" zZ fW6)
   (lP1:HF K "need_place" Zb fP1)
   (lP2:HF K "need_heap" Z0 fP2)
   (lP3:HF K "label_worth" M7 fP3)
   (lP4:HF K "worth_by" Kb fP4)
   (lP5:HF K "heap_worth" sHW fP5)
   (lP6:HF K "outcome" Xl fP6)
   (lQ1:HF K "moves_of" Q6 fQ1)
   (lQ2:HF K "left_by" vh fQ2)
   (lQ3:HF K "is_move" Hv.sIsMove fQ3)
   (lQ4:HF K "after" Hv.sAfter fQ4)
   (lQ5:HF K "is_over" Hv.sOver fQ5)
   (lR1:HF K "ends_left" Kf fR1)
   (lR2:HF K "settled_next" Rf fR2)
   (lR3:HF K "places_to_no_ring" R8 fR3)
   (lR4:HF K "ring_in" R7 fR4)
   (lR5:HF K "plain_numbers" R9 fR5)
   (lC1:HF K "_law_heap" Yc fC1)
   (lC2:HF K "_law_ladder" sLD fC2)
   (lC3:HF K "_law_least" Ya fC3)
   (lC4:HF K "_law_numbers_good" Mr fC4)
   (lC5:HF K "_law_labels_good" kA fC5)
   (lC6:HF K "_law_heap_good" sHG fC6)
   (lC7:HF K "_law_ring_good" M4 fC7)
   (lC8:HF K "_law_no_ring" M6 fC8)
   (lC9:HF K "_law_out_good" M5 fC9)
   (lC0:HF K "_law_right" sRt fC0)
   (aLAW:zag K mainGlobals "law"=some (some (.ref fLAW)))
   (lLAW:K.lookup fLAW=some ⟨ocLAW,odLAW,.func (zbr "law" "law" (QW Wb) (Ql Wb) (ql Wb) .none kVLAW dcLAW pmLAW anLAW cdLAW ctLAW),slLAW⟩)
   (cLAW:zbP K cdLAW "law"=true)
   (kLAW:zaD K (.ref fLAW)=true)
   (nCG:zag K mainGlobals "Ground"=some (some (.ref CG)))
   (pgCG:zbs K CG Str.empty=true)
   (hdCG:zbd K CG=true)
   (poCG:zbJ K CG=true)
   (saCG:tP K (.ref CG) "__setattr__"=some (some (.builtin "object.__setattr__")))
   (mkCG:zbZ K CG=true)
   (inCG:tP K (.ref CG) "__init__"=some (some (.ref fCGi)))
   (fiCG:zaI K (.ref fCGi)=true)
   (kcCG:zaD K (.ref CG)=true)
   (noCG:tP K (.ref CG) "order"=some none)
   (nrCG:tP K (.ref CG) "roads"=some none)
   (lCGi:MF K "__init__" "Ground.__init__" V0 fCGi)
   (atCGM:tP K (.ref CG) "names"=some (some (.ref fCGM)))
   (fnCGM:zaI K (.ref fCGM)=true)
   (lCGM:MF K "names" "Ground.names" Zy fCGM)
   (atCGF:tP K (.ref CG) "roads_from"=some (some (.ref fCGF)))
   (fnCGF:zaI K (.ref fCGF)=true)
   (lCGF:MF K "roads_from" "Ground.roads_from" Yg fCGF)
   (nCN:zag K mainGlobals "Numbered"=some (some (.ref CN)))
   (pgCN:zbs K CN Str.empty=true)
   (hdCN:zbd K CN=true)
   (poCN:zbJ K CN=true)
   (saCN:tP K (.ref CN) "__setattr__"=some (some (.builtin "object.__setattr__")))
   (mkCN:zbZ K CN=true)
   (inCN:tP K (.ref CN) "__init__"=some (some (.ref fCNi)))
   (fiCN:zaI K (.ref fCNi)=true)
   (kcCN:zaD K (.ref CN)=true)
   (naCN:tP K (.ref CN) "number"=some none)
   (lCNi:MF K "__init__" "Numbered.__init__" z9 fCNi)
   (caCN:tP K (.ref CN) "__class__"=some (some (.builtin "object.__class__")))
   (obCN:zbx K CN (.type "object")=some true)
   (atCNO:tP K (.ref CN) "outcome"=some (some (.ref fCNO)))
   (fnCNO:zaI K (.ref fCNO)=true)
   (lCNO:MF K "outcome" "Numbered.outcome" vg fCNO)
   (atCNP:tP K (.ref CN) "plus"=some (some (.ref fCNP)))
   (fnCNP:zaI K (.ref fCNP)=true)
   (lCNP:MF K "plus" "Numbered.plus" Wa fCNP)
   (atCNE:tP K (.ref CN) "is_endless"=some (some (.ref fCNE)))
   (fnCNE:zaI K (.ref fCNE)=true)
   (lCNE:MF K "is_endless" "Numbered.is_endless" W0 fCNE)
   (nCE:zag K mainGlobals "Endless"=some (some (.ref CE)))
   (pgCE:zbs K CE Str.empty=true)
   (hdCE:zbd K CE=true)
   (poCE:zbJ K CE=true)
   (saCE:tP K (.ref CE) "__setattr__"=some (some (.builtin "object.__setattr__")))
   (mkCE:zbZ K CE=true)
   (inCE:tP K (.ref CE) "__init__"=some (some (.ref fCEi)))
   (fiCE:zaI K (.ref fCEi)=true)
   (kcCE:zaD K (.ref CE)=true)
   (naCE:tP K (.ref CE) "bits"=some none)
   (lCEi:MF K "__init__" "Endless.__init__" Yh fCEi)
   (caCE:tP K (.ref CE) "__class__"=some (some (.builtin "object.__class__")))
   (obCE:zbx K CE (.type "object")=some true)
   (atCEO:tP K (.ref CE) "outcome"=some (some (.ref fCEO)))
   (fnCEO:zaI K (.ref fCEO)=true)
   (lCEO:MF K "outcome" "Endless.outcome" vk fCEO)
   (atCEP:tP K (.ref CE) "plus"=some (some (.ref fCEP)))
   (fnCEP:zaI K (.ref fCEP)=true)
   (lCEP:MF K "plus" "Endless.plus" Wd fCEP)
   (atCEE:tP K (.ref CE) "is_endless"=some (some (.ref fCEE)))
   (fnCEE:zaI K (.ref fCEE)=true)
   (lCEE:MF K "is_endless" "Endless.is_endless" W2 fCEE)
   (zlen:zag K mainGlobals "len"=some none)
   (zmax:zag K mainGlobals "max"=some none)
   (zmin:zag K mainGlobals "min"=some none)
   (zint:zag K mainGlobals "int"=some none)
   (zrange:zag K mainGlobals "range"=some none)
   (zisinstance:zag K mainGlobals "isinstance"=some none)
   (zstr:zag K mainGlobals "str"=some none)
   (zall:zag K mainGlobals "all"=some none)
   (zenumerate:zag K mainGlobals "enumerate"=some none)
   (zsum:zag K mainGlobals "sum"=some none)
   (zsorted:zag K mainGlobals "sorted"=some none)
   (zlist:zag K mainGlobals "list"=some none)
   (zreversed:zag K mainGlobals "reversed"=some none)
   (zset:zag K mainGlobals "set"=some none)
   (ztuple:zag K mainGlobals "tuple"=some none)
   (zdict:zag K mainGlobals "dict"=some none)
   (zbool:zag K mainGlobals "bool"=some none)
   (zzip:zag K mainGlobals "zip"=some none)
   (m1:zag K mainGlobals "LETTERS"=some (some (.str "abcdefghijklmnopqrstuvwxyz" tm1)))
   (m2:zag K mainGlobals "LONGEST_NAME"=some (some (.int 8 tm2)))
   (m3:zag K mainGlobals "MOST_PLACES"=some (some (.int 14 tm3)))
   (m4:zag K mainGlobals "MOST_ROADS"=some (some (.int 40 tm4)))
   (m5:zag K mainGlobals "MOST_NUMBER"=some (some (.int 15 tm5)))
   (m6:zag K mainGlobals "MOST_BITS"=some (some (.int 65535 tm6)))
   (m7:zag K mainGlobals "MOST_TOKENS"=some (some (.int 8 tm7)))
   (aHE:zag K mainGlobals "HeapError"=some (some (.ref D)))
   (oHE:K.lookup D=some (excClassObj nmHE qHE D NHE bsHE QK hdctHE snHE subHE abHE colHE ddHE kaHE kbHE kcHE kdHE keHE "ValueError.__new__"))
   (nHE:K.lookup NHE=some ⟨oHN,dHN,.dict es ep,slHN⟩)
   (skHE:MM es=true)
   (niHE:nsFind es (Str.ofString "__init__")=none)
   (a1Ring:zag K mainGlobals "Ring"=some (some (.ref CRing)))
   (a2Ring:K.lookup CRing=some (excClassObj nmRing qRing CRing NRing bsRing (.ref D::QK) hdctRing snRing subRing abRing colRing ddRing kaRing kbRing kcRing kdRing keRing "ValueError.__new__"))
   (a3Ring:tP K (.ref CRing) "__init__"=some (some (.ref fRing)))
   (a4Ring:zaI K (.ref fRing)=true)
   (lRing:MF K "__init__" "Ring.__init__" Rg fRing)
   (a5Ring:zaD K (.ref CRing)=true)
   (a6Ring:tP K (.ref CRing) "__getattribute__"=some (some (.builtin "BaseException.__getattribute__")))
   (a7Ring:tP K (.ref CRing) "__getattr__"=some none)
   (a8Ring:tP K (.ref CRing) "__setattr__"=some (some (.builtin "object.__setattr__")))
   (a9Ring:zbd K CRing=true)
   (a10Ring:zbx K CRing (.type "BaseException")=some true)
   (a11Ring:zbx K CRing (.type "object")=some true)
   (a12Ring:tP K (.ref CRing) "__class__"=some (some (.builtin "object.__class__")))
   (a13Ring:tP K (.ref CRing) "places"=some none)
   (spc:zbv K (.builtin "object.__class__") "__get__"=some (some (.builtin "getset_descriptor.__get__")))
   (tks:zca K (.builtin "object.__class__")=some true)
   (ne:CN≠CE)
   (nCZ:zag K mainGlobals "NoGround"=some (some (.ref CZ)))
   (kt1:tZ K (.ref CRing) (.ref D)=some true)
   (kt2:tZ K (.ref CRing) (.ref CZ)=some false)
   :
   ∃fd:FuncData,(∀(s:Shared) (v:Value),BindsTo s fd ⟨[v],[]⟩ [("_law_script",v)])/\∀base:Heap,K.In base->base.Ns mainGlobals mg->qp l.prog w K mg base qI 13 fa fd ["_law_script"] (U7 K):=by
 have e:=hfa.symm.trans (zaG X G aLAW)
 cases e
 obtain⟨_,hO⟩:=lO.has (ps:=["_law_script","_law_k"]) X G λF=>F.binds λ_ _ _ _ _ _ us hl=>by obtain⟨_,_,rfl⟩:=Qg hl;rfl
 obtain⟨_,hL⟩:=lL.has (ps:=["_law_cell"]) X G λF=>F.binds λ_ _ _ _ _ _ us hl=>by obtain⟨_,rfl⟩:=Qh hl;rfl
 obtain⟨_,hT⟩:=lT.has (ps:=["_law_source_here","_law_many"]) X G λF=>F.binds λ_ _ _ _ _ _ us hl=>by obtain⟨_,_,rfl⟩:=Qg hl;rfl
 obtain⟨_,hN⟩:=lN.has (ps:=["_law_source_here","_law_many"]) X G λF=>F.binds λ_ _ _ _ _ _ us hl=>by obtain⟨_,_,rfl⟩:=Qg hl;rfl
 obtain⟨_,hD⟩:=lD.has (ps:=["_law_source_here","_law_many","_law_shape","_law_low"]) X G λF=>F.binds λ_ _ _ _ _ _ us hl=>by obtain⟨_,_,_,_,rfl⟩:=NJ hl;rfl
 obtain⟨_,hR⟩:=lR.has (ps:=["_law_source_here","_law_most"]) X G λF=>F.binds λ_ _ _ _ _ _ us hl=>by obtain⟨_,_,rfl⟩:=Qg hl;rfl
 obtain⟨_,hA1⟩:=lA1.has (ps:=["thing"]) X G λF=>F.binds λ_ _ _ _ _ _ us hl=>by obtain⟨_,rfl⟩:=Qh hl;rfl
 obtain⟨_,hA2⟩:=lA2.has (ps:=["thing"]) X G λF=>F.binds λ_ _ _ _ _ _ us hl=>by obtain⟨_,rfl⟩:=Qh hl;rfl
 obtain⟨_,hA3⟩:=lA3.has (ps:=["thing"]) X G λF=>F.binds λ_ _ _ _ _ _ us hl=>by obtain⟨_,rfl⟩:=Qh hl;rfl
 obtain⟨_,hA4⟩:=lA4.has (ps:=["rows"]) X G λF=>F.binds λ_ _ _ _ _ _ us hl=>by obtain⟨_,rfl⟩:=Qh hl;rfl
 obtain⟨_,hA5⟩:=lA5.has (ps:=["order"]) X G λF=>F.binds λ_ _ _ _ _ _ us hl=>by obtain⟨_,rfl⟩:=Qh hl;rfl
 obtain⟨_,hA6⟩:=lA6.has (ps:=["ends","order"]) X G λF=>F.binds λ_ _ _ _ _ _ us hl=>by obtain⟨_,_,rfl⟩:=Qg hl;rfl
 obtain⟨_,hA7⟩:=lA7.has (ps:=["rows"]) X G λF=>F.binds λ_ _ _ _ _ _ us hl=>by obtain⟨_,rfl⟩:=Qh hl;rfl
 obtain⟨_,hA8⟩:=lA8.has (ps:=["rows"]) X G λF=>F.binds λ_ _ _ _ _ _ us hl=>by obtain⟨_,rfl⟩:=Qh hl;rfl
 obtain⟨_,hB1⟩:=lB1.has (ps:=["numbers"]) X G λF=>F.binds λ_ _ _ _ _ _ us hl=>by obtain⟨_,rfl⟩:=Qh hl;rfl
 obtain⟨_,hB2⟩:=lB2.has (ps:=["numbers"]) X G λF=>F.binds λ_ _ _ _ _ _ us hl=>by obtain⟨_,rfl⟩:=Qh hl;rfl
 obtain⟨_,hB3⟩:=lB3.has (ps:=["ground","numbered","name"]) X G λF=>F.binds λ_ _ _ _ _ _ us hl=>by obtain⟨_,_,_,rfl⟩:=Vh hl;rfl
 obtain⟨_,hB4⟩:=lB4.has (ps:=["ground","numbered","name","number"]) X G λF=>F.binds λ_ _ _ _ _ _ us hl=>by obtain⟨_,_,_,_,rfl⟩:=NJ hl;rfl
 obtain⟨_,hB5⟩:=lB5.has (ps:=["ground","numbered","number"]) X G λF=>F.binds λ_ _ _ _ _ _ us hl=>by obtain⟨_,_,_,rfl⟩:=Vh hl;rfl
 obtain⟨_,hB6⟩:=lB6.has (ps:=["ground","numbered","number"]) X G λF=>F.binds λ_ _ _ _ _ _ us hl=>by obtain⟨_,_,_,rfl⟩:=Vh hl;rfl
 obtain⟨_,hB7⟩:=lB7.has (ps:=["ground","numbered"]) X G λF=>F.binds λ_ _ _ _ _ _ us hl=>by obtain⟨_,_,rfl⟩:=Qg hl;rfl
 obtain⟨_,hB8⟩:=lB8.has (ps:=["ground"]) X G λF=>F.binds λ_ _ _ _ _ _ us hl=>by obtain⟨_,rfl⟩:=Qh hl;rfl
 obtain⟨_,hW1⟩:=lW1.has (ps:=["thing"]) X G λF=>F.binds λ_ _ _ _ _ _ us hl=>by obtain⟨_,rfl⟩:=Qh hl;rfl
 obtain⟨_,hW2⟩:=lW2.has (ps:=["thing"]) X G λF=>F.binds λ_ _ _ _ _ _ us hl=>by obtain⟨_,rfl⟩:=Qh hl;rfl
 obtain⟨_,hW3⟩:=lW3.has (ps:=["thing"]) X G λF=>F.binds λ_ _ _ _ _ _ us hl=>by obtain⟨_,rfl⟩:=Qh hl;rfl
 obtain⟨_,hW4⟩:=lW4.has (ps:=["bits","number"]) X G λF=>F.binds λ_ _ _ _ _ _ us hl=>by obtain⟨_,_,rfl⟩:=Qg hl;rfl
 obtain⟨_,hW5⟩:=lW5.has (ps:=["bits"]) X G λF=>F.binds λ_ _ _ _ _ _ us hl=>by obtain⟨_,rfl⟩:=Qh hl;rfl
 obtain⟨_,hW6⟩:=lW6.has (ps:=["worths"]) X G λF=>F.binds λ_ _ _ _ _ _ us hl=>by obtain⟨_,rfl⟩:=Qh hl;rfl
 obtain⟨_,hP1⟩:=lP1.has (ps:=["ground","thing"]) X G λF=>F.binds λ_ _ _ _ _ _ us hl=>by obtain⟨_,_,rfl⟩:=Qg hl;rfl
 obtain⟨_,hP2⟩:=lP2.has (ps:=["ground","heap"]) X G λF=>F.binds λ_ _ _ _ _ _ us hl=>by obtain⟨_,_,rfl⟩:=Qg hl;rfl
 obtain⟨_,hP3⟩:=lP3.has (ps:=["label"]) X G λF=>F.binds λ_ _ _ _ _ _ us hl=>by obtain⟨_,rfl⟩:=Qh hl;rfl
 obtain⟨_,hP4⟩:=lP4.has (ps:=["labels","heap"]) X G λF=>F.binds λ_ _ _ _ _ _ us hl=>by obtain⟨_,_,rfl⟩:=Qg hl;rfl
 obtain⟨_,hP5⟩:=lP5.has (ps:=["ground","heap"]) X G λF=>F.binds λ_ _ _ _ _ _ us hl=>by obtain⟨_,_,rfl⟩:=Qg hl;rfl
 obtain⟨_,hP6⟩:=lP6.has (ps:=["ground","heap"]) X G λF=>F.binds λ_ _ _ _ _ _ us hl=>by obtain⟨_,_,rfl⟩:=Qg hl;rfl
 obtain⟨_,hQ1⟩:=lQ1.has (ps:=["ground","heap"]) X G λF=>F.binds λ_ _ _ _ _ _ us hl=>by obtain⟨_,_,rfl⟩:=Qg hl;rfl
 obtain⟨_,hQ2⟩:=lQ2.has (ps:=["heap","move"]) X G λF=>F.binds λ_ _ _ _ _ _ us hl=>by obtain⟨_,_,rfl⟩:=Qg hl;rfl
 obtain⟨_,hQ3⟩:=lQ3.has (ps:=["ground","heap","thing"]) X G λF=>F.binds λ_ _ _ _ _ _ us hl=>by obtain⟨_,_,_,rfl⟩:=Vh hl;rfl
 obtain⟨_,hQ4⟩:=lQ4.has (ps:=["ground","heap","move"]) X G λF=>F.binds λ_ _ _ _ _ _ us hl=>by obtain⟨_,_,_,rfl⟩:=Vh hl;rfl
 obtain⟨_,hQ5⟩:=lQ5.has (ps:=["ground","heap"]) X G λF=>F.binds λ_ _ _ _ _ _ us hl=>by obtain⟨_,_,rfl⟩:=Qg hl;rfl
 obtain⟨_,hR1⟩:=lR1.has (ps:=["ground","settled","name"]) X G λF=>F.binds λ_ _ _ _ _ _ us hl=>by obtain⟨_,_,_,rfl⟩:=Vh hl;rfl
 obtain⟨_,hR2⟩:=lR2.has (ps:=["ground","settled"]) X G λF=>F.binds λ_ _ _ _ _ _ us hl=>by obtain⟨_,_,rfl⟩:=Qg hl;rfl
 obtain⟨_,hR3⟩:=lR3.has (ps:=["ground"]) X G λF=>F.binds λ_ _ _ _ _ _ us hl=>by obtain⟨_,rfl⟩:=Qh hl;rfl
 obtain⟨_,hR4⟩:=lR4.has (ps:=["ground"]) X G λF=>F.binds λ_ _ _ _ _ _ us hl=>by obtain⟨_,rfl⟩:=Qh hl;rfl
 obtain⟨_,hR5⟩:=lR5.has (ps:=["ground"]) X G λF=>F.binds λ_ _ _ _ _ _ us hl=>by obtain⟨_,rfl⟩:=Qh hl;rfl
 obtain⟨_,hC1⟩:=lC1.has (ps:=["_law_source_here","_law_rows_here","_law_most"]) X G λF=>F.binds λ_ _ _ _ _ _ us hl=>by obtain⟨_,_,_,rfl⟩:=Vh hl;rfl
 obtain⟨_,hC2⟩:=lC2.has (ps:=["_law_source_here"]) X G λF=>F.binds λ_ _ _ _ _ _ us hl=>by obtain⟨_,rfl⟩:=Qh hl;rfl
 obtain⟨_,hC3⟩:=lC3.has (ps:=["_law_numbers"]) X G λF=>F.binds λ_ _ _ _ _ _ us hl=>by obtain⟨_,rfl⟩:=Qh hl;rfl
 obtain⟨_,hC4⟩:=lC4.has (ps:=["_law_rows_here","_law_told"]) X G λF=>F.binds λ_ _ _ _ _ _ us hl=>by obtain⟨_,_,rfl⟩:=Qg hl;rfl
 obtain⟨_,hC5⟩:=lC5.has (ps:=["_law_ground","_law_told"]) X G λF=>F.binds λ_ _ _ _ _ _ us hl=>by obtain⟨_,_,rfl⟩:=Qg hl;rfl
 obtain⟨_,hC6⟩:=lC6.has (ps:=["_law_ground","_law_rows_here","_law_told","_law_source_here"]) X G λF=>F.binds λ_ _ _ _ _ _ us hl=>by obtain⟨_,_,_,_,rfl⟩:=NJ hl;rfl
 obtain⟨_,hC7⟩:=lC7.has (ps:=["_law_rows_here","_law_ring"]) X G λF=>F.binds λ_ _ _ _ _ _ us hl=>by obtain⟨_,_,rfl⟩:=Qg hl;rfl
 obtain⟨_,hC8⟩:=lC8.has (ps:=["_law_rows_here"]) X G λF=>F.binds λ_ _ _ _ _ _ us hl=>by obtain⟨_,rfl⟩:=Qh hl;rfl
 obtain⟨_,hC9⟩:=lC9.has (ps:=["_law_ground","_law_rows_here"]) X G λF=>F.binds λ_ _ _ _ _ _ us hl=>by obtain⟨_,_,rfl⟩:=Qg hl;rfl
 obtain⟨_,hC0⟩:=lC0.has (ps:=["_law_rows_here","_law_source_here"]) X G λF=>F.binds λ_ _ _ _ _ _ us hl=>by obtain⟨_,_,rfl⟩:=Qg hl;rfl
 have FLAW:=Uq (st:=Wb) lLAW cLAW kLAW
 obtain⟨_,FiCG⟩:=lCGi
 have clCG:ClG K mg CG fCGi _:=⟨⟨pgCG,hdCG,poCG,saCG⟩,⟨mkCG,inCG,fiCG,kcCG⟩,zaG X G nCG,noCG,nrCG,FiCG,FiCG.binds (ps:=["self","rows"]) λ_ _ _ _ _ _ us hl=>by obtain⟨_,_,rfl⟩:=Qg hl;rfl⟩
 obtain⟨_,FCGM⟩:=lCGM
 have mCGM:WI K CG "names" "Ground.names" Zy ["self"] fCGM _:=⟨FCGM,⟨atCGM,fnCGM,FCGM.kp⟩,FCGM.binds (ps:=["self"]) λ_ _ _ _ _ _ us hl=>by obtain⟨_,rfl⟩:=Qh hl;rfl⟩
 obtain⟨_,FCGF⟩:=lCGF
 have mCGF:WI K CG "roads_from" "Ground.roads_from" Yg ["self","name"] fCGF _:=⟨FCGF,⟨atCGF,fnCGF,FCGF.kp⟩,FCGF.binds (ps:=["self","name"]) λ_ _ _ _ _ _ us hl=>by obtain⟨_,_,rfl⟩:=Qg hl;rfl⟩
 obtain⟨_,FiCN⟩:=lCNi
 have clCN:Cl K mg "Numbered" "Numbered.__init__" "number" z9 CN fCNi _:=⟨⟨pgCN,hdCN,poCN,saCN⟩,⟨mkCN,inCN,fiCN,kcCN⟩,zaG X G nCN,naCN,FiCN,FiCN.binds (ps:=["self","number"]) λ_ _ _ _ _ _ us hl=>by obtain⟨_,_,rfl⟩:=Qg hl;rfl,caCN,obCN⟩
 obtain⟨_,FCNO⟩:=lCNO
 have mCNO:WI K CN "outcome" "Numbered.outcome" vg ["self"] fCNO _:=⟨FCNO,⟨atCNO,fnCNO,FCNO.kp⟩,FCNO.binds (ps:=["self"]) λ_ _ _ _ _ _ us hl=>by obtain⟨_,rfl⟩:=Qh hl;rfl⟩
 obtain⟨_,FCNP⟩:=lCNP
 have mCNP:WI K CN "plus" "Numbered.plus" Wa ["self","other"] fCNP _:=⟨FCNP,⟨atCNP,fnCNP,FCNP.kp⟩,FCNP.binds (ps:=["self","other"]) λ_ _ _ _ _ _ us hl=>by obtain⟨_,_,rfl⟩:=Qg hl;rfl⟩
 obtain⟨_,FCNE⟩:=lCNE
 have mCNE:WI K CN "is_endless" "Numbered.is_endless" W0 ["self"] fCNE _:=⟨FCNE,⟨atCNE,fnCNE,FCNE.kp⟩,FCNE.binds (ps:=["self"]) λ_ _ _ _ _ _ us hl=>by obtain⟨_,rfl⟩:=Qh hl;rfl⟩
 obtain⟨_,FiCE⟩:=lCEi
 have clCE:Cl K mg "Endless" "Endless.__init__" "bits" Yh CE fCEi _:=⟨⟨pgCE,hdCE,poCE,saCE⟩,⟨mkCE,inCE,fiCE,kcCE⟩,zaG X G nCE,naCE,FiCE,FiCE.binds (ps:=["self","bits"]) λ_ _ _ _ _ _ us hl=>by obtain⟨_,_,rfl⟩:=Qg hl;rfl,caCE,obCE⟩
 obtain⟨_,FCEO⟩:=lCEO
 have mCEO:WI K CE "outcome" "Endless.outcome" vk ["self"] fCEO _:=⟨FCEO,⟨atCEO,fnCEO,FCEO.kp⟩,FCEO.binds (ps:=["self"]) λ_ _ _ _ _ _ us hl=>by obtain⟨_,rfl⟩:=Qh hl;rfl⟩
 obtain⟨_,FCEP⟩:=lCEP
 have mCEP:WI K CE "plus" "Endless.plus" Wd ["self","other"] fCEP _:=⟨FCEP,⟨atCEP,fnCEP,FCEP.kp⟩,FCEP.binds (ps:=["self","other"]) λ_ _ _ _ _ _ us hl=>by obtain⟨_,_,rfl⟩:=Qg hl;rfl⟩
 obtain⟨_,FCEE⟩:=lCEE
 have mCEE:WI K CE "is_endless" "Endless.is_endless" W2 ["self"] fCEE _:=⟨FCEE,⟨atCEE,fnCEE,FCEE.kp⟩,FCEE.binds (ps:=["self"]) λ_ _ _ _ _ _ us hl=>by obtain⟨_,rfl⟩:=Qh hl;rfl⟩
 have tl:∀h:Heap,K.In h->OwnTail h QK (.ref D::QK):=λh X=>.own (X _ _ oHE) ⟨_,es,ep,X _ _ nHE,rfl,uI skHE,λ_=>rfl⟩ niHE .base
 have ccD:Mq K D:=⟨QK,⟨_,_,_,_,_,_,_,_,_,_,_,_,_,_,_,oHE⟩,rfl⟩
 obtain⟨_,FRing⟩:=lRing
 have xRing:RF K mg D "Ring" "Ring.__init__" Rg "places" CRing fRing _:=N3 X G tl FRing (FRing.binds (ps:=["self","places"]) λ_ _ _ _ _ _ us hl=>by obtain⟨_,_,rfl⟩:=Qg hl;rfl) a1Ring a2Ring a3Ring a4Ring a5Ring a6Ring a7Ring a8Ring a9Ring a10Ring a11Ring a12Ring a13Ring
 have B:Qe mg:=⟨zaf X G zlen,zaf X G zmax,zaf X G zmin,zaf X G zint,zaf X G zrange⟩
 have Gk:jF mg:=⟨zaf X G zsorted,zaf X G zlist,zaf X G zreversed,zaf X G zset,zaf X G ztuple⟩
 have T:jP K mg:=⟨zaf X G zisinstance,zaf X G zstr,zaf X G zall,zaf X G zenumerate,zaf X G zsum,⟨_,zaG X G m1⟩,⟨_,zaG X G m2⟩,⟨_,zaG X G m3⟩,⟨_,zaG X G m4⟩,kss,ktt,kll⟩
 have Nn:yy K mg:=⟨⟨_,_,hA1⟩,⟨_,_,hA2⟩,⟨_,_,hA3⟩,⟨_,_,hA4⟩,⟨_,_,hA5⟩,⟨_,_,hA6⟩,⟨_,_,hA7⟩⟩
 have M:GM K mg CG:=⟨⟨_,_,clCG⟩,⟨_,_,mCGM⟩,⟨_,_,mCGF⟩,⟨_,_,hA1⟩⟩
 have Y:UF K mg:=⟨⟨_,_,hB1⟩,⟨_,_,hB2⟩,⟨_,_,hB3⟩,⟨_,_,hB4⟩,⟨_,_,hB5⟩,⟨_,_,hB6⟩,⟨_,_,hB7⟩,⟨_,_,hB8⟩⟩
 have Wq:Wk K mg:=⟨zaf X G zisinstance,zaf X G zbool,kii,kib,⟨_,zaG X G m5⟩,⟨_,zaG X G m6⟩⟩
 let wf:WF K mg:=⟨CN,CE,fCNi,fCEi,fCNO,fCEO,fCNP,fCEP,fCNE,fCEE,fW1,fW2,fW3,fW4,fW5,fB2,_,_,_,_,_,_,_,_,_,_,_,_,_,_,ne,clCN,clCE,mCNO,mCEO,mCNP,mCEP,mCNE,mCEE,hW1,hW2,hW3,hW4,hW5,hB2⟩
 have O:uk K mg:=⟨⟨_,_,hP1⟩,⟨_,_,hP2⟩,⟨_,_,hP3⟩,⟨_,_,hW6⟩,⟨_,_,hP4⟩,⟨_,_,hP5⟩,⟨_,_,hP6⟩,⟨_,zaG X G m7⟩⟩
 have V1:Hv.HM K mg:=⟨⟨_,zaG X G m7⟩,⟨_,_,hP1⟩,⟨_,_,hP2⟩,⟨_,_,hQ1⟩,⟨_,_,hW1⟩,⟨_,_,hQ3⟩,⟨_,_,hQ2⟩,zaf X G zbool⟩
 have Z:qaY K mg:=⟨⟨_,_,hO⟩,⟨_,_,hL⟩,⟨_,_,hT⟩,⟨_,_,hN⟩,⟨_,_,hD⟩,⟨_,_,hR⟩,⟨_,_,hA8⟩,⟨_,_,hC1⟩,⟨_,_,hC2⟩,⟨_,_,hC3⟩,⟨_,_,hC4⟩,⟨_,_,hC5⟩,⟨_,_,hC6⟩,⟨_,_,hC7⟩,⟨_,_,hC8⟩,⟨_,_,hC9⟩,⟨_,_,hC0⟩,⟨_,_,hR1⟩,⟨_,_,hR2⟩,⟨_,_,hR3⟩,⟨_,_,hR4⟩,⟨_,_,hR5⟩,⟨_,_,hB1⟩,⟨_,_,hP6⟩,⟨_,_,hQ4⟩,⟨_,_,hQ5⟩⟩
 have KN:Mj K:=⟨kdd,kii,kib⟩
 have ZE:Ml K mg D CRing CZ:=⟨zaG X G aHE,zaG X G nCZ,kt1,kt2,spc,tks⟩
 exact⟨zbr "law" "law" (QW Wb) (Ql Wb) (ql Wb) .none kVLAW dcLAW pmLAW anLAW cdLAW ctLAW,λs v=>.of_eq rfl,λbase _ _=>Nz FLAW wf B Wq Gk T Nn M Y O V1 Z KN (zaf X G zdict) (zaf X G zint) (zaf X G zbool) (zaf X G zzip) xRing ZE⟩
theorem walk {l:PySem.W.OpenLaw} {q:Program} {loose:List Str} {XP:(Str->Option Value)->Heap->Prop} {YP:World->Heap->Prop} {d:DefRec} {K:Params->PySem.W.Frag} (hn:l.most=some 63) (hdf:d.params.defaults=[])
   (hY:∀(w:World) (h:Heap),YP w h->(K w.params).In h)
   (F:∀(w:World) (mg:Str->Option Value) (fa:Addr) (h:Heap),(K w.params).In h->h.Ns mainGlobals mg->mg d.name=some (.ref fa)->
     ∃fd:FuncData,(∀(s:Shared) (u:Value),BindsTo s fd ⟨[u],[]⟩ [("_law_script",u)])/\∀base:Heap,(K w.params).In base->base.Ns mainGlobals mg->qp l.prog w (K w.params) mg base qI 13 fa fd ["_law_script"] (U7 (K w.params))):
   PySem.W.WalkO q loose XP YP l.row.toRowW d [] (λf vs=>PySem.call f vs):=
 L2.walk_of (n:=63) (k:=13) (x:="_law_script") (CX:=λ_=>qI) (sp:=λw=>U7 (K w.params)) hn (by decide) hdf ⟨rfl,by decide,by decide,rfl⟩ hY F (λ_ _ a ns hl _ hS=>⟨a,ns,rfl,hS,hl,λ_=>rfl⟩) λ_ _ _ _ _ z=>z
end Rh
open PySem PySem.W PyProof.Rows
def PySem.W.Fast.tw17110400954466175107 : Unit := ()
def PySem.W.Fast.tw9915424983033767989 : Unit := ()
def PySem.W.Fast.tw17755456524704518848 : Unit := ()
def PySem.W.Fast.tw861502493610598483 : Unit := ()
def PySem.W.Fast.tw13735283127264966035 : Unit := ()
def PySem.W.Fast.tw6830661539357928910 : Unit := ()
def PySem.W.Fast.tw17071660069713835940 : Unit := ()
def PySem.W.Fast.tw6010092931893058622 : Unit := ()
def PySem.W.Fast.tw7774113678449685934 : Unit := ()
def PySem.W.Fast.tw13587151598080963022 : Unit := ()
def PySem.W.Fast.tw82614278388352929 : Unit := ()
def PySem.W.Fast.tw5660693792873045834 : Unit := ()
def PySem.W.Fast.tw8490095065718275380 : Unit := ()
def PySem.W.Fast.tw2369294140325686055 : Unit := ()
def PySem.W.Fast.tw16153686074110841394 : Unit := ()
def PySem.W.Fast.tw15230161518521224266 : Unit := ()
def PySem.W.Fast.tw13797355535440723964 : Unit := ()
def PySem.W.Fast.tw5617726103321767126 : Unit := ()
def PySem.W.Fast.tw13366278800048369731 : Unit := ()
def PySem.W.Fast.tw7050804516273991350 : Unit := ()
def PySem.W.Fast.tw16046435833275179198 : Unit := ()
def PySem.W.Fast.tw9385439782273163706 : Unit := ()
def PySem.W.Fast.tw1378205811072252300 : Unit := ()
def PySem.W.Fast.tw6474689817104897974 : Unit := ()
def PySem.W.Fast.tw5188249020564956088 : Unit := ()
def PySem.W.Fast.tw15166322114958858414 : Unit := ()
def PySem.W.Fast.tw17267597263503486738 : Unit := ()
def PySem.W.Fast.tw14993981098963755598 : Unit := ()
def PySem.W.Fast.tw2786648768249225349 : Unit := ()
def PySem.W.Fast.tw15752536640612570366 : Unit := ()
def PySem.W.Fast.tw14564555370662651082 : Unit := ()
def PySem.W.Fast.tw6548459193220583526 : Unit := ()
def PySem.W.Fast.tw14720441539969030944 : Unit := ()
def PySem.W.Fast.tw12884060626414724322 : Unit := ()
def PySem.W.Fast.tw9057035906848192889 : Unit := ()
def PySem.W.Fast.tw15254633091992210921 : Unit := ()
def PySem.W.Fast.tw506581581156960101 : Unit := ()
def PySem.W.Fast.tw8736506791609843793 : Unit := ()
def PySem.W.Fast.tw5233118043267047457 : Unit := ()
def PySem.W.Fast.tw2237833844302104130 : Unit := ()
def PySem.W.Fast.tw14329579894275425762 : Unit := ()
def PySem.W.Fast.tw14334995849660946996 : Unit := ()
def PySem.W.Fast.tw18400553757987027518 : Unit := ()
def PySem.W.Fast.tw10470340158578859262 : Unit := ()
def PySem.W.Fast.tw8428246938381088814 : Unit := ()
def PySem.W.Fast.tw16132249320637822498 : Unit := ()
def PySem.W.Fast.tw5037459499596335280 : Unit := ()
def PySem.W.Fast.tw12715800853834201459 : Unit := ()
def PySem.W.Fast.tw16563755786747866690 : Unit := ()
def PySem.W.Fast.tw3676754643040562684 : Unit := ()
def PySem.W.Fast.tw4026147355466621588 : Unit := ()
def PySem.W.Fast.tw10698057553749749337 : Unit := ()
def PySem.W.Fast.tw8122695690928665766 : Unit := ()
def PySem.W.Fast.tw14553807712399142462 : Unit := ()
def PySem.W.Fast.tw6125853113672642322 : Unit := ()
def PySem.W.Fast.tw5694767641087392711 : Unit := ()
def PySem.W.Fast.tw15797354312348517276 : Unit := ()
def PySem.W.Fast.tw8997383693586321770 : Unit := ()
def PySem.W.Fast.tw17590876675597686902 : Unit := ()
def PySem.W.Fast.tw5634867526602368427 : Unit := ()
def PySem.W.Fast.tw54454478416044229 : Unit := ()
def PySem.W.Fast.tw12917704675397863716 : Unit := ()
def PySem.W.Fast.tw12003660372656728261 : Unit := ()
def PySem.W.Fast.tw11907897558876765624 : Unit := ()
def PySem.W.Fast.tw8115137120850386438 : Unit := ()
def PySem.W.Fast.tw8185220541750880888 : Unit := ()
def PySem.W.Fast.tw447263597446747957 : Unit := ()
def PySem.W.Fast.tw13444670453868202053 : Unit := ()
def PySem.W.Fast.tw9969077435446430640 : Unit := ()
def PySem.W.Fast.tw4562827626845409882 : Unit := ()
def PySem.W.Fast.tw4859391219904099992 : Unit := ()
def PySem.W.Fast.tw1630143524128594353 : Unit := ()
def PySem.W.Fast.tw5522115075389312692 : Unit := ()
def PySem.W.Fast.tw4699756791338806529 : Unit := ()
def PySem.W.Fast.tw7164969610272591079 : Unit := ()
def PySem.W.Fast.tw12770481643036789091 : Unit := ()
def PySem.W.Fast.tw13421457143807847188 : Unit := ()
def PySem.W.Fast.tw547895379624588593 : Unit := ()
def PySem.W.Fast.tw5890639436620234070 : Unit := ()
def PySem.W.Fast.tw16864618592142003386 : Unit := ()
def PySem.W.Fast.tw16101134707931498060 : Unit := ()
def PySem.W.Fast.tw15861351967447197489 : Unit := ()
def PySem.W.Fast.tw11692469974320434101 : Unit := ()
def PySem.W.Fast.tw14243238205550065757 : Unit := ()
def PySem.W.Fast.tw5002640475654186023 : Unit := ()
def PySem.W.Fast.tw13367274342830030513 : Unit := ()
def PySem.W.Fast.tw694261584828832409 : Unit := ()
def PySem.W.Fast.tw14537775516033599862 : Unit := ()
def PySem.W.Fast.tw18367749455379333440 : Unit := ()
def PySem.W.Fast.tw5444512763150141072 : Unit := ()
def PySem.W.Fast.tw17318462890700432884 : Unit := ()
def PySem.W.Fast.tw3075201292733833056 : Unit := ()
def PySem.W.Fast.tw6030501089693204938 : Unit := ()
def PySem.W.Fast.tw11373181179767321252 : Unit := ()
def PySem.W.Fast.tw16412085850373738351 : Unit := ()
def PySem.W.Fast.tw5010956058597451964 : Unit := ()
def PySem.W.Fast.tw6631347999910079877 : Unit := ()
def PySem.W.Fast.tw10295913840692754127 : Unit := ()
def PySem.W.Fast.tw14441679199631801671 : Unit := ()
def PySem.W.Fast.tw4096438862311573950 : Unit := ()
def PySem.W.Fast.tw9104974531708491489 : Unit := ()
def PySem.W.Fast.tw9461873434466728008 : Unit := ()
def PySem.W.Fast.tw14391293386007564604 : Unit := ()
def PySem.W.Fast.tw8356303796347215682 : Unit := ()
def PySem.W.Fast.tw6880980288501444468 : Unit := ()
def PySem.W.Fast.tw14849461344987154502 : Unit := ()
def PySem.W.Fast.tw3953844824629472508 : Unit := ()
def PySem.W.Fast.tw8737599933303070863 : Unit := ()
def PySem.W.Fast.tw384561282630992784 : Unit := ()
def PySem.W.Fast.tw12843764043397292189 : Unit := ()
def PySem.W.Fast.tw17986951261819808105 : Unit := ()
def PySem.W.Fast.tw16728255500844073214 : Unit := ()
def PySem.W.Fast.tw17410218998227585676 : Unit := ()
def PySem.W.Fast.tw11502921971960690029 : Unit := ()
def PySem.W.Fast.tw13956191218907399338 : Unit := ()
def PySem.W.Fast.tw9399754086935153974 : Unit := ()
def PySem.W.Fast.tw12954591660760965231 : Unit := ()
def PySem.W.Fast.tw9387514328989991554 : Unit := ()
def PySem.W.Fast.tw3671519592330383864 : Unit := ()
def PySem.W.Fast.tw15433366417846715934 : Unit := ()
def PySem.W.Fast.tw7485256538410118956 : Unit := ()
def PySem.W.Fast.tw12669407529647801677 : Unit := ()
def PySem.W.Fast.tw14424681132571578402 : Unit := ()
def PySem.W.Fast.tw2827255003249426055 : Unit := ()
def PySem.W.Fast.tw17435391645217708394 : Unit := ()
def PySem.W.Fast.tw8080008513338510535 : Unit := ()
def PySem.W.Fast.tw866652123128751154 : Unit := ()
def PySem.W.Fast.tw11033627544408312984 : Unit := ()
def PySem.W.Fast.tw3374319085511977134 : Unit := ()
def PySem.W.Fast.tw17334828202450815106 : Unit := ()
def PySem.W.Fast.tw14859695947638507448 : Unit := ()
def PySem.W.Fast.tw12768989823518198380 : Unit := ()
def PySem.W.Fast.tw14226173905949225808 : Unit := ()
def PySem.W.Fast.tw8222940686941784037 : Unit := ()
def PySem.W.Fast.tw13674586047789940208 : Unit := ()
def PySem.W.Fast.tw8752102160057688731 : Unit := ()
def PySem.W.Fast.tw8319933024895762948 : Unit := ()
def PySem.W.Fast.tw17817366049700826239 : Unit := ()
def PySem.W.Fast.tw15831126876759372255 : Unit := ()
def PySem.W.Fast.tw3520257249291928256 : Unit := ()
def PySem.W.Fast.tw6549852094080907030 : Unit := ()
def PySem.W.Fast.tw14196522196718054806 : Unit := ()
def PySem.W.Fast.tw14219159868682941630 : Unit := ()
def PySem.W.Fast.tw12740759652641322565 : Unit := ()
def PySem.W.Fast.tw17916429707943930468 : Unit := ()
def PySem.W.Fast.tw4313010194945074917 : Unit := ()
def PySem.W.Fast.tw2576523973992343609 : Unit := ()
def PySem.W.Fast.tw354308444213283272 : Unit := ()
def PySem.W.Fast.tw9630203353718772412 : Unit := ()
def PySem.W.Fast.tw9304451534382375720 : Unit := ()
def PySem.W.Fast.tw12147665669636231765 : Unit := ()
def PySem.W.Fast.tw1401067106901849026 : Unit := ()
def PySem.W.Fast.tw2527701527901579348 : Unit := ()
def PySem.W.Fast.tw16493865465440409018 : Unit := ()
def PySem.W.Fast.tw561727478393794602 : Unit := ()
def PySem.W.Fast.tw8919978131948313185 : Unit := ()
def PySem.W.Fast.tw6472337539984862722 : Unit := ()
def PySem.W.Fast.tw9757595895972200118 : Unit := ()
def PySem.W.Fast.tw5622701340561072331 : Unit := ()
def PySem.W.Fast.tw4290864757253303354 : Unit := ()
def PySem.W.Fast.tw5217270863462422736 : Unit := ()
def PySem.W.Fast.tw12798174099139212305 : Unit := ()
def PySem.W.Fast.tw15577281813014381367 : Unit := ()
def PySem.W.Fast.tw15142666989864626641 : Unit := ()
def PySem.W.Fast.tw14611616552423853409 : Unit := ()
def PySem.W.Fast.tw16822532161544500889 : Unit := ()
def PySem.W.Fast.tw9806118890596472461 : Unit := ()
def PySem.W.Fast.tw9317495090193701157 : Unit := ()
def PySem.W.Fast.tw18328257000508772394 : Unit := ()
def PySem.W.Fast.tw12020253756985099128 : Unit := ()
def PySem.W.Fast.tw1142673529048489019 : Unit := ()
def PySem.W.Fast.tw890339118813698166 : Unit := ()
def PySem.W.Fast.tw12652081859355081885 : Unit := ()
def PySem.W.Fast.tw10792498714594961201 : Unit := ()
def PySem.W.Fast.tw8739830900816887780 : Unit := ()
def PySem.W.Fast.tw4309217394794523951 : Unit := ()
def PySem.W.Fast.tw17137270108147033825 : Unit := ()
def PySem.W.Fast.tw17980500129456985241 : Unit := ()
def PySem.W.Fast.tw16925712312323332580 : Unit := ()
def PySem.W.Fast.tw14170518179582410385 : Unit := ()
def PySem.W.Fast.tw14261769069557060686 : Unit := ()
def PySem.W.Fast.tw463774138113389760 : Unit := ()
def PySem.W.Fast.tw11401859456886640639 : Unit := ()
def PySem.W.Fast.tw15590096980072825465 : Unit := ()
def PySem.W.Fast.tw15621415185263527259 : Unit := ()
def PySem.W.Fast.tw4075453323654395381 : Unit := ()
def PySem.W.Fast.tw4884199854448574 : Unit := ()
def PySem.W.Fast.tw18310463660012746435 : Unit := ()
def PySem.W.Fast.tw9113380124883318265 : Unit := ()
def PySem.W.Fast.tw16902440903046159558 : Unit := ()
def PySem.W.Fast.tw18094105663378112561 : Unit := ()
def PySem.W.Fast.tw14607143338591219252 : Unit := ()
set_option maxHeartbeats 0
open_top hd for PySem.Challenge.rw_ringheaps_k87_whole_plain_numbers
set_option maxRecDepth 100000 in
set_option maxHeartbeats 0 in
theorem PySem.Challenge.cw_ringheaps_k87_whole_plain_numbers_holds : PySem.Challenge.rw_ringheaps_k87_whole_plain_numbers.Holds := by
 refine hd ?_
 k_fill
 refine Rh.walk (l:=PySem.Challenge.rw_ringheaps_k87_whole_plain_numbers) rfl rfl (λw h Y=>PySem.W.kIn_of Y) ?F
 case F=>
   intro w mg fa h KX G hmg
   refine' Rh.all_mk KX G hmg ?_ ?_ ?_ ?_ ?_ ?_ ?_ ?_ ?_ ?_ ?_ ?_ ?_ ?_ ?_ ?_ ?_ ?_ ?_ ?_ ?_ ?_ ?_ ?_ ?_ ?_ ?_ ?_ ?_ ?_ ?_ ?_ ?_ ?_ ?_ ?_ ?_ ?_ ?_ ?_ ?_ ?_ ?_ ?_ ?_ ?_ ?_ ?_ ?_ ?_ ?_ ?_ ?_ ?_ ?_ ?_ ?_ ?_ ?_ ?_ ?_ ?_ ?_ ?_ ?_ ?_ ?_ ?_ ?_ ?_ ?_ ?_ ?_ ?_ ?_ ?_ ?_ ?_ ?_ ?_ ?_ ?_ ?_ ?_ ?_ ?_ ?_ ?_ ?_ ?_ ?_ ?_ ?_ ?_ ?_ ?_ ?_ ?_ ?_ ?_ ?_ ?_ ?_ ?_ ?_ ?_ ?_ ?_ ?_ ?_ ?_ ?_ ?_ ?_ ?_ ?_ ?_ ?_ ?_ ?_ ?_ ?_ ?_ ?_ ?_ ?_ ?_ ?_ ?_ ?_ ?_ ?_ ?_ ?_ ?_ ?_ ?_ ?_ ?_ ?_ ?_ ?_ ?_ ?_ ?_ ?_ ?_ ?_ ?_ ?_ ?_ ?_ ?_ ?_ ?_ ?_ ?_ ?_ ?_ ?_ ?_ ?_ ?_ ?_ ?_ ?_ ?_ ?_ ?_ ?_
   any_goals first | (apply Rh.HF.mk'<;>k_is) | (apply Rh.MF.mk'<;>k_is) | k_is | kernel_rfl | rfl | decide
