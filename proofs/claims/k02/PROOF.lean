import PyProof.Rows.All
import Wide.All
import OpenK.AllK
import Wide.FinOn
import Lean
import PyProof.EqAt
import PyProof.EqKinds
import PyProof.TupleCall
import PySem.Challenge.RW_ringheaps_k02_grounds_told
set_option Elab.async false
set_option linter.all false
set_option maxRecDepth 100000
namespace L2
open PySem PySem.Spec PyProof.Rows
abbrev qO:=Sum Int Str
def Z6:qO->Value->Bool
 | .inl k,v=>Value.isInt k v
 | .inr x,v=>Value.isStrOf x v
def wt (w:World):qO->Int
 | .inl k=>hashInt k
 | .inr x=>hashStr w x
theorem q5:∀{k:qO} {v:Value},Z6 k v=true->(∃i t,k=Sum.inl i/\v=Value.int i t)\/(∃x t,k=Sum.inr x/\v=Value.str x t)
 | .inl i,v,h=>by
   obtain⟨t,e⟩:=Value.isInt_shape (k:=i) (v:=v) h
   exact .inl ⟨i,t,rfl,e⟩
 | .inr x,v,h=>by
   obtain⟨t,e⟩:=Value.isStrOf_shape (x:=x) (v:=v) h
   exact .inr ⟨x,t,rfl,e⟩
theorem Ww (i:Int) (t:Tok):Z6 (.inl i) (.int i t)=true:=by simp [Z6,Value.isInt]
theorem Wv (x:Str) (t:Tok):Z6 (.inr x) (.str x t)=true:=by simp [Z6,Value.isStrOf]
theorem yk (a b:Int):decide ((Sum.inl a:qO)=Sum.inl b)=(a==b):=by
 by_cases e:a=b
 . subst e;simp
 . have h:¬(Sum.inl a:qO)=Sum.inl b:=λq=>e (Sum.inl.inj q)
   rw[decide_eq_false h]
   exact(beq_eq_false_iff_ne.mpr e).symm
theorem yh (a b:Str):decide ((Sum.inr a:qO)=Sum.inr b)=decide (a=b):=by
 by_cases e:a=b
 . subst e;simp
 . have h:¬(Sum.inr a:qO)=Sum.inr b:=λq=>e (Sum.inr.inj q)
   rw[decide_eq_false h,decide_eq_false e]
theorem yj (a:Int) (b:Str):decide ((Sum.inl a:qO)=Sum.inr b)=false:=decide_eq_false (λq=>nomatch q)
theorem yi (a:Str) (b:Int):decide ((Sum.inr a:qO)=Sum.inl b)=false:=decide_eq_false (λq=>nomatch q)
def je (prog:Program) (w:World):PySem.KeyKind prog w qO where
 is:=Z6
 hash:=wt w
 inj:=λv a b ha hb=>by
   rcases q5 ha with ⟨i,t,rfl,rfl⟩ | ⟨x,t,rfl,rfl⟩
   . rcases q5 hb with ⟨j,u,rfl,e⟩ | ⟨y,u,rfl,e⟩
     . injection e with e1 _;rw[e1]
     . exact nomatch e
   . rcases q5 hb with ⟨j,u,rfl,e⟩ | ⟨y,u,rfl,e⟩
     . exact nomatch e
     . injection e with e1 _;rw[e1]
 byValue:=λk v h=>by
   rcases q5 h with ⟨i,t,rfl,rfl⟩ | ⟨x,t,rfl,rfl⟩<;>rfl
 pyHash:=λhv h=>by
   rcases q5 hv with ⟨i,t,rfl,rfl⟩ | ⟨x,t,rfl,rfl⟩
   . exact wpAny_pyHash_int h
   . exact wpAny_pyHash_str h
 eqBool:=λhu hv h=>by
   rcases q5 hu with ⟨i,t,rfl,rfl⟩ | ⟨x,t,rfl,rfl⟩
   . rcases q5 hv with ⟨j,u,rfl,rfl⟩ | ⟨y,u,rfl,rfl⟩
     . rw[yk]at h;exact wpAny_eqBool_int h
     . rw[yj]at h;exact SeqAt.EqAt.int_str i t y u _ _ _ _ h
   . rcases q5 hv with ⟨j,u,rfl,rfl⟩ | ⟨y,u,rfl,rfl⟩
     . rw[yi]at h;exact SeqAt.EqAt.str_int x t j u _ _ _ _ h
     . rw[yh]at h;exact wpAny_eqBool_str h
 «strs»:=λk x t v h=>by
   rcases q5 h with ⟨i,u,rfl,e⟩ | ⟨y,u,rfl,e⟩
   . exact nomatch e
   . injection e with e1 _
     subst e1
     cases v<;>rfl
theorem z9 (prog:Program) (w:World) (i:Int) (t:Tok):(je prog w).is (.inl i) (.int i t)=true:=Ww i t
theorem z8 (prog:Program) (w:World) (x:Str) (t:Tok):(je prog w).is (.inr x) (.str x t)=true:=Wv x t
end L2
namespace L2
open PySem PySem.Spec PyProof.Rows
inductive V where
 | non | bl (b:Bool) | int (i:Int) | str (x:Str) | byt (b:Array UInt8) | flt (b:UInt64) | ref (a:Addr) | ty (n:String)
 deriving DecidableEq
def qG:V->Value->Prop
 | .non,u=>u=Value.none
 | .bl b,u=>u=Value.bool b
 | .int i,u=>∃t,u=Value.int i t
 | .str x,u=>∃t,u=Value.str x t
 | .byt b,u=>∃t,u=Value.bytes b t
 | .flt b,u=>∃t,u=Value.float b t
 | .ref a,u=>u=Value.ref a
 | .ty n,u=>u=Value.type n
abbrev qw:List V->List Value->Prop:=Paired qG
theorem qw.length {xs:List V} {us:List Value} (r:qw xs us):xs.length=us.length:=Paired.length r
theorem qw.get:∀{xs:List V} {us:List Value} {i:Nat} {x:V},qw xs us->xs[i]?=some x->∃u,us[i]?=some u/\qG x u
 | _,_,_,_,.nil,e=>by simp at e
 | _,_,0,_,.cons r _,e=>by simp at e;subst e;exact⟨_,rfl,r⟩
 | _,_,i+1,x,.cons _ t,e=>by
   obtain⟨u,h1,h2⟩:=qw.get (i:=i) (x:=x) t (by simpa using e)
   exact⟨u,by simpa using h1,h2⟩
theorem qw.append:∀{xs ys:List V} {us ws:List Value},qw xs us->qw ys ws->qw (xs++ys) (us++ws)
 | _,_,_,_,.nil,s=>s
 | _,_,_,_,.cons r t,s=>.cons r (qw.append t s)
theorem qw.take:∀{xs:List V} {us:List Value} (n:Nat),qw xs us->qw (xs.take n) (us.take n)
 | _,_,0,_=>.nil
 | _,_,_+1,.nil=>.nil
 | _,_,n+1,.cons r t=>.cons r (qw.take n t)
theorem qw.drop:∀{xs:List V} {us:List Value} (n:Nat),qw xs us->qw (xs.drop n) (us.drop n)
 | _,_,0,r=>r
 | _,_,_+1,.nil=>.nil
 | _,_,n+1,.cons _ t=>qw.drop n t
theorem qw.none_of:∀{xs:List V} {us:List Value} {i:Nat},qw xs us->xs[i]?=none->us[i]?=none:=λ{xs us i} r e=>by
 have h1:=r.length
 have h2:xs.length<=i:=List.getElem?_eq_none_iff.mp e
 exact List.getElem?_eq_none_iff.mpr (by omega)
def QJ:Option V->Option Value->Prop
 | some v,some u=>qG v u
 | none,none=>True
 | _,_=>False
def KV {κ:Type}:List (κ×V)->List (κ×Value)->Prop:=Paired λ(p:κ×V) (q:κ×Value)=>p.1=q.1/\qG p.2 q.2
def kV:qO->V
 | .inl i=>.int i
 | .inr x=>.str x
inductive HO where
 | lst (xs:List V)
 | tup (xs:List V)
 | dK (kvs:List (qO×V)) | dT (kvs:List (List qO×V))
 | set (S:Int->Bool) (n:Nat)
 | ins (C dx:Addr) (fs:List (Str×V))
 | own (x:Addr)
 | xd (fs:List (Str×V))
 | met (f x:Addr)
 | rng (lo hi:Int)
 | frz (o:Obj) (u:HO)
 | tbl (ps:Array Value)
 | ext (φ:Heap->Prop)
abbrev Hp:=Addr->Option HO
def upd (H:Hp) (a:Addr) (o:HO):Hp:=λb=>if b=a then some o else H b
theorem qd {H:Hp} {a:Addr} {o:HO}:upd H a o a=some o:=by unfold upd;rw[if_pos rfl]
theorem qg {H:Hp} {a b:Addr} {o:HO} (h:b≠a):upd H a o b=H b:=by unfold upd;rw[if_neg h]
theorem qR {H:Hp} {a:Addr} {o u:HO}:upd (upd H a o) a u=upd H a u:=by
 funext b;unfold upd;split<;>rfl
theorem xk {H:Hp} {a b:Addr} {o u:HO} (h:H a=some o) (h':H b=some u) (d:o≠u):a≠b:=by
 intro e;subst e;rw[h]at h';exact d (Option.some.inj h')
theorem qu {H:Hp} {a b:Addr} {o:HO} (h:H a=some o) (h':H b=none):a≠b:=by
 intro e;subst e;rw[h]at h';cases h'
section
variable (P:Program) (w:World)
def qE (H:Hp) (h:Heap) (a:Addr):HO->Prop
 | .lst xs=>xs.length<=sizeLine/\∃(its:List Value) (n:Nat),qw xs its/\h.get? a=some {cls:=.type "list",data:=.seq its.toArray n}
 | .tup xs=>xs.length<=sizeLine/\∃its:List Value,qw xs its/\IsTup h a its.toArray
 | .dK kvs=>kvs.length<=sizeLine/\(a==sysModules)=false/\∃vs,KV kvs vs/\h.DictOf (je P w) a vs
 | .dT kvs=>kvs.length<=sizeLine/\(a==sysModules)=false/\∃xs:List (List qO×Addr×Value),
     Paired (λ(p:List qO×V) (q:List qO×Addr×Value)=>p.1=q.1/\H q.2.1=some (.tup (p.1.map kV))/\qG p.2 q.2.2) kvs xs/\
     ∃o es ep,h.get? a=some o/\o.ExactDict/\o.data=.dict es ep/\es.toList=xs.map (entryOfKey (tupleKind (je P w)))/\(xs.map (·.1)).Nodup
 | .set S n=>h.SetOf (intKind P w) a S n
 | .ins C dx fs=>H dx=some (.own a)/\fs.length<=1000/\dx≠a/\h.get? a=some (PySem.W.instObj C dx)/\
     ∃mA,h.Ns1 dx mA/\(∀f,QJ (fs.lookup f) (mA f))/\PySem.Within mA (fs.map (·.1))
 | .own _=>∃o,h.get? a=some o
 | .xd fs=>∃mA,h.Ns1 a mA/\∀f,QJ (fs.lookup f) (mA f)
 | .rng lo hi=>∃t u v,h.get? a=some {cls:=.type "range",data:=.fields #[.int lo t,.int hi u,.int 1 v]}
 | .frz o u=>h.get? a=some o/\qE H h a u
 | .tbl ps=>h.get? a=some {cls:=.none,data:=.fields ps}
 | .met f x=>h.get? a=some (PySem.W.methodObj (.ref f) (.ref x))
 | .ext φ=>φ h/\(∃o,h.get? a=some o)/\∀h1 h2:Heap,φ h1->(∀o,h1.get? a=some o->h2.get? a=some o)->φ h2
def QK (H:Hp) (h:Heap):Prop:=∀a o,H a=some o->qE P w H h a o
end
section
variable {P:Program} {w:World} {H H':Hp} {h h':Heap} {a:Addr} {o:HO}
theorem qE.lt (x:qE P w H h a o):a < h.objs.size:=by
 cases o with
 | lst xs=>obtain⟨_,_,_,_,e⟩:=x;exact Heap.lt_size e
 | tup xs=>obtain⟨_,_,_,p⟩:=x;exact p.lt
 | dK kvs=>obtain⟨_,_,_,_,o,_,_,e,_⟩:=x;exact Heap.lt_size e
 | dT kvs=>obtain⟨_,_,_,_,o,_,_,e,_⟩:=x;exact Heap.lt_size e
 | set S n=>obtain⟨o,_,_,_,e,_⟩:=x;exact Heap.lt_size e
 | ins C dx fs=>obtain⟨_,_,_,e,_⟩:=x;exact Heap.lt_size e
 | own y=>obtain⟨_,e⟩:=x;exact Heap.lt_size e
 | xd fs=>obtain⟨_,⟨_,_,_,e,_⟩,_⟩:=x;exact Heap.lt_size e
 | rng lo hi=>obtain⟨_,_,_,e⟩:=x;exact Heap.lt_size e
 | frz ob u=>obtain⟨e,_⟩:=x;exact Heap.lt_size e
 | tbl ps=>exact Heap.lt_size (show h.get? a=some _ from x)
 | met f y=>exact Heap.lt_size (show h.get? a=some _ from x)
 | ext φ=>obtain⟨_,⟨_,e⟩,_⟩:=x;exact Heap.lt_size e
theorem Paired.mapP {α β:Type} {F G:α->β->Prop}:∀{l₁:List α} {l₂:List β},Paired F l₁ l₂->(∀a b,F a b->G a b)->Paired G l₁ l₂
 | _,_,.nil,_=>.nil
 | _,_,.cons r t,f=>.cons (f _ _ r) (Paired.mapP t f)
theorem qE.stay (x:qE P w H h a o) (k:∀b u,(b=a\/H b=some (.own a))->h.get? b=some u->h'.get? b=some u)
   (ho:∀b,H b=some (.own a)->H' b=some (.own a)) (ht:∀b xs,H b=some (.tup xs)->H' b=some (.tup xs)):qE P w H' h' a o:=by
 induction o with
 | lst xs=>obtain⟨z,its,n,r,e⟩:=x;exact⟨z,its,n,r,k _ _ (.inl rfl) e⟩
 | tup xs=>obtain⟨z,its,r,ob,e,c⟩:=x;exact⟨z,its,r,ob,k _ _ (.inl rfl) e,c⟩
 | dK kvs=>obtain⟨z,y,vs,r,ob,es,ep,e,c⟩:=x;exact⟨z,y,vs,r,ob,es,ep,k _ _ (.inl rfl) e,c⟩
 | dT kvs=>
   obtain⟨z,y,xs,r,ob,es,ep,e,c⟩:=x
   exact⟨z,y,xs,Paired.mapP r λp q z=>⟨z.1,ht _ _ z.2.1,z.2.2⟩,ob,es,ep,k _ _ (.inl rfl) e,c⟩
 | set S n=>obtain⟨ob,es,ep,t,e,c⟩:=x;exact⟨ob,es,ep,t,k _ _ (.inl rfl) e,c⟩
 | ins C dx fs=>
   obtain⟨d,z,ne,e,mA,⟨od,es,ep,e2,c⟩,r⟩:=x
   exact⟨ho _ d,z,ne,k _ _ (.inl rfl) e,mA,⟨od,es,ep,k _ _ (.inr d) e2,c⟩,r⟩
 | own y=>obtain⟨ob,e⟩:=x;exact⟨ob,k _ _ (.inl rfl) e⟩
 | xd fs=>obtain⟨mA,⟨od,es,ep,e,c⟩,r⟩:=x;exact⟨mA,⟨od,es,ep,k _ _ (.inl rfl) e,c⟩,r⟩
 | rng lo hi=>obtain⟨t,u,v,e⟩:=x;exact⟨t,u,v,k _ _ (.inl rfl) e⟩
 | frz ob u ih=>obtain⟨e,q⟩:=x;exact⟨k _ _ (.inl rfl) e,ih q⟩
 | tbl ps=>
   have e:h.get? a=some {cls:=.none,data:=.fields ps}:=x
   show h'.get? a=some {cls:=.none,data:=.fields ps}
   exact k a _ (.inl rfl) e
 | met f y=>
   have e:h.get? a=some (PySem.W.methodObj (.ref f) (.ref y)):=x
   show h'.get? a=some (PySem.W.methodObj (.ref f) (.ref y))
   exact k a _ (.inl rfl) e
 | ext φ=>obtain⟨p,⟨o,e⟩,st⟩:=x;exact⟨st _ _ p λo q=>k _ _ (.inl rfl) q,⟨o,k _ _ (.inl rfl) e⟩,st⟩
theorem QK.lt (x:QK P w H h) (e:H a=some o):a < h.objs.size:=(x a o e).lt
theorem QK.fresh (x:QK P w H h) (e:h.objs.size<=a):H a=none:=by
 cases q:H a with
 | none=>rfl
 | some u=>exact absurd (Nat.lt_of_lt_of_le (x.lt q) e) (Nat.lt_irrefl _)
theorem QK.kept (x:QK P w H h) (k:∀b u,h.get? b=some u->h'.get? b=some u):QK P w H h':=λa o e=>
 (x a o e).stay (λb u _ q=>k b u q) (λ_ q=>q) λ_ _ q=>q
theorem QK.laid (x:QK P w H h) (k:∀b u,h.get? b=some u->h'.get? b=some u) (hp:h.objs.size<=a) (new:qE P w (upd H a o) h' a o):QK P w (upd H a o) h':=λb u e=>by
 have hn:=x.fresh hp
 by_cases hb:b=a
 . subst hb;rw[qd]at e;cases e;exact new
 . rw[qg hb]at e
   exact(x b u e).stay (λc v _ q=>k c v q) (λc q=>by rw[qg (qu q hn)];exact q) λc xs q=>by rw[qg (qu q hn)];exact q
end
def Rd (H:Hp) (a:Addr) (u:HO):Prop:=H a=some u\/∃o,H a=some (.frz o u)
theorem Rd.ok {P:Program} {w:World} {H:Hp} {h:Heap} {a:Addr} {u:HO} (r:Rd H a u) (x:QK P w H h):qE P w H h a u:=by
 rcases r with r | ⟨o,r⟩
 . exact x a u r
 . obtain⟨_,q⟩:=x a _ r
   exact q
def yH:Option HO->Prop
 | some (.lst _)=>True
 | some (.dK _)=>True
 | some (.dT _)=>True
 | some (.set _ _)=>True
 | some (.ins _ _ _)=>True
 | some (.ext _)=>True
 | _=>False
section
variable {P:Program} {w:World} {H:Hp} {h h':Heap} {x e:Addr} {o':HO}
theorem QK.write (ok:QK P w H h) (mu:yH (H x)) (he:e=x\/H e=some (.own x)) (k:∀b u,b≠e->h.get? b=some u->h'.get? b=some u) (heo:∃u,h'.get? e=some u)
   (new:qE P w (upd H x o') h' x o'):QK P w (upd H x o') h':=λb u q=>by
 have nown:∀c y,H c=some (.own y)->c≠x:=λc y r z=>by subst z;rw[r]at mu;exact mu
 have ntup:∀c xs,H c=some (.tup xs)->c≠x:=λc xs r z=>by subst z;rw[r]at mu;exact mu
 by_cases hb:b=x
 . subst hb;rw[qd]at q;cases q;exact new
 . rw[qg hb]at q
   by_cases hbe:b=e
   . have q':H b=some (.own x):=by
       rcases he with z | z
       . exact absurd (hbe.trans z) hb
       . rw[hbe];exact z
     rw[q]at q';cases q'
     obtain⟨v,hv⟩:=heo
     exact⟨v,by rw[hbe];exact hv⟩
   . refine(ok b u q).stay (λc v hc r=>k c v ?_ r) (λc r=>by rw[qg (nown c b r)];exact r) λc xs r=>by rw[qg (ntup c xs r)];exact r
     rcases hc with rfl | hc
     . exact hbe
     . rintro rfl
       rcases he with z | z
       . exact nown c b hc z
       . rw[hc]at z;cases z;exact hb rfl
end
structure Un (fs ex:List Addr) (H H':Hp) (h h':Heap):Prop where
 keep:∀b o,h.get? b=some o->H b=none->b∉fs->b∉ex->h'.get? b=some o
 slot:∀b o,h.get? b=some o->H b=none->b∈fs->b∉ex->∃sl,h'.get? b=some {o with slots:=sl}
 free:∀b o,h.get? b=some o->H b=none->b∉ex->H' b=none
 there:∀b o,h.get? b=some o->b∉ex->∃o',h'.get? b=some o'
 tups:∀b xs,H b=some (.tup xs)->H' b=some (.tup xs)
 frzs:∀b o u,H b=some (.frz o u)->H' b=some (.frz o u)
 tbls:∀b ps,H b=some (.tbl ps)->∃more,H' b=some (.tbl (ps++more))
section
variable {fs fs' ex ex':List Addr} {H H1 H2:Hp} {h h1 h2 h':Heap} {a x e:Addr} {o:HO}
theorem Un.any (u:Un fs ex H H1 h h1) {b:Addr} {ob:Obj} (q:h.get? b=some ob) (n:H b=none) (hx:b∉ex):∃sl,h1.get? b=some {ob with slots:=sl}:=by
 by_cases hb:b∈fs
 . exact u.slot b ob q n hb hx
 . exact⟨ob.slots,u.keep b ob q n hb hx⟩
theorem Un.kept (k:∀b u,h.get? b=some u->h'.get? b=some u):Un fs ex H H h h':=
 ⟨λb ob q _ _ _=>k b ob q,λb ob q _ _ _=>⟨ob.slots,k b ob q⟩,λ_ _ _ n _=>n,λb ob q _=>⟨ob,k b ob q⟩,λ_ _ q=>q,λ_ _ _ q=>q,λ_ ps q=>⟨#[],by rw[q];simp⟩⟩
theorem Un.refl:Un fs ex H H h h:=Un.kept λ_ _ q=>q
theorem Un.laid (k:∀b u,h.get? b=some u->h'.get? b=some u) (hp:h.objs.size<=a) (hn:H a=none):Un fs ex H (upd H a o) h h' where
 keep:=λb u q _ _ _=>k b u q
 slot:=λb u q _ _ _=>⟨u.slots,k b u q⟩
 free:=λb u q n _=>by rw[qg (Nat.ne_of_lt (Nat.lt_of_lt_of_le (Heap.lt_size q) hp))];exact n
 there:=λb u q _=>⟨u,k b u q⟩
 tups:=λb xs q=>by rw[qg (qu q hn)];exact q
 frzs:=λb u xs q=>by rw[qg (qu q hn)];exact q
 tbls:=λb ps q=>⟨#[],by rw[qg (qu q hn),q];simp⟩
theorem Un.write (mu:yH (H x)) (he:e=x\/H e=some (.own x)) (k:∀b u,b≠e->h.get? b=some u->h'.get? b=some u) (heo:∃u,h'.get? e=some u):Un fs ex H (upd H x o) h h':=by
 have hx:∀b,H b=none->b≠x:=λb n z=>by subst z;rw[n]at mu;exact mu
 have hb:∀b,H b=none->b≠e:=λb n z=>by
   subst z
   rcases he with r | r
   . exact hx b n r
   . rw[n]at r;cases r
 have hm:∀b u,H b=some u->¬yH (some u)->b≠x:=λb u q nm z=>by subst z;rw[q]at mu;exact nm mu
 refine⟨λb u q n _ _=>k b u (hb b n) q,λb u q n _ _=>⟨u.slots,k b u (hb b n) q⟩,λb u q n _=>by rw[qg (hx b n)];exact n,λb u q _=>?_,
   λb xs q=>by rw[qg (hm b _ q λz=>z)];exact q,λb u xs q=>by rw[qg (hm b _ q λz=>z)];exact q,λb ps q=>⟨#[],by rw[qg (hm b _ q λz=>z),q];simp⟩⟩
 by_cases hbe:b=e
 . subst hbe;exact heo
 . exact⟨u,k b u hbe q⟩
end
def xJ (h:Heap) (H:Hp):List Addr:=(List.range h.objs.size).filter λa=>(H a).isSome
def zC (h:Heap) (H:Hp):Heap:=PySem.W.hideAll h (xJ h H)
theorem WD (h:Heap) (H:Hp):(zC h H).objs.size=h.objs.size:=PySem.W.hideAll_size _ _
theorem Uh {h:Heap} {H:Hp} {b:Addr} {o:Obj} (e:h.get? b=some o) (n:H b=none):(zC h H).get? b=some o:=
 PySem.W.hideAll_get _ e λhm=>by
   have q:(H b).isSome=true:=(List.mem_filter.mp hm).2
   rw[n]at q;simp at q
theorem vg {h:Heap} {H:Hp} {b:Addr} {o:Obj} (e:(zC h H).get? b=some o):h.get? b=some o/\H b=none:=by
 have e':h.get? b=some o:=PySem.W.of_hideAll (xJ h H) e
 refine⟨e',?_⟩
 cases q:H b with
 | none=>rfl
 | some x=>
   have hm:b∈xJ h H:=List.mem_filter.mpr ⟨List.mem_range.mpr (Heap.lt_size e'),by simp [q]⟩
   have z:(zC h H).get? b=none:=PySem.W.hideAll_none (xJ h H) hm
   rw[z]at e;cases e
def vO (g h:Heap) (L:Addr):List (Addr×Obj):=(List.range h.objs.size).filterMap λa=>if a=L\/(g.get? a).isSome=true then none else (h.get? a).map λo=>(a,o)
def rest (g h:Heap) (L d:Addr):List (Addr×Obj):=(vO g h L).filter λp=>decide (p.1≠d)
end L2
namespace L2
open PySem PySem.Spec PyProof.Rows
structure Mod (K:PySem.W.Frag) (mg:Str->Option Value) (base:Heap):Prop where
 kin:K.In base
 glob:base.Ns mainGlobals mg
 blt:∃mb,base.Ns builtinsNs mb/\∀x:Str,x≠"__name__"->mb x=bootBuiltins x
 nolimit:base.NoLimit
structure Cx where
 prog:Program
 w:World
 K:PySem.W.Frag
 mg:Str->Option Value
 base:Heap
 A:Around
 N:List Str
 s₀:Shared
 H₀:Hp
 env:Env
 outer:List Env
 stack:List Env
 ex:List Addr
 fn:Str->Bool
 calm:Bool
 pn:List (Addr×Obj)
 xe:Value->Shared->Prop
def ZG (l:List Env):List Addr:=l.filterMap (·.frame)
abbrev Cx.fs (X:Cx):List Addr:=ZG X.outer
def yF (sc:Scope) (x:Str):Prop:=sc.names.lookup x=some .local\/sc.names.lookup x=some .cell\/sc.names.lookup x=some .free
def yJ (sc:Scope) (x:Str):Prop:=sc.names.lookup x=some .local\/sc.names.lookup x=some .cell
def wC (env:Env) (h:Heap) (m:Str->Option Value) (x:Str) (u:Value):Prop:=
 (env.kindOf x=some .local/\m x=some u)\/((env.kindOf x=some .cell\/env.kindOf x=some .free)/\∃c,env.cells.lookup x=some c/\h.IsCell c (some u))
structure Cx.Ok (X:Cx):Prop where
 mod:Mod X.K X.mg X.base
 kind:X.env.scope.kind=.function
 glob:X.env.globals=mainGlobals
 blt:X.env.builtins=builtinsNs
 above:X.s₀.heap.objs.size<=X.env.locals
 inj:∀x y c,X.env.cells.lookup x=some c->X.env.cells.lookup y=some c->x=y
 has:∀x,(X.env.kindOf x=some .cell\/X.env.kindOf x=some .free)->∃c,X.env.cells.lookup x=some c
 cab:∀x c,X.fn x=true->X.env.cells.lookup x=some c->X.s₀.heap.objs.size<=c
 hd:X.calm=true->X.A.handled=none
 frames:X.A.frames=some X.stack
 stk:X.stack=X.outer\/(X.stack=X.env::X.outer/\X.env.frame=some X.env.locals)
 exf:∀b∈X.ex,b≠X.env.locals/\∀x c,X.env.cells.lookup x=some c->c≠b
 bs:∀b o,X.base.get? b=some o->X.s₀.heap.get? b=some o/\X.H₀ b=none
 bsz:X.base.objs.size<=X.s₀.heap.objs.size
 noex:∀b o,X.base.get? b=some o->b∉X.ex
 exfs:∀b∈X.ex,b∉X.fs
 funs:X.s₀.heap.FunFrames X.base X.outer
 frf:∀b∈X.fs,X.H₀ b=none
structure qp (X:Cx) (pins:List (Addr×Obj)) (σ:List (Option V)) (H:Hp) (s:Shared):Prop where
 ok:X.Ok
 os:s.os=X.s₀.os
 bare:AllBare s.gens
 base:Un X.fs X.ex X.H₀ H X.s₀.heap s.heap
 loc:∃m,s.heap.Ns X.env.locals m/\∀(i:Nat) (x:Str) (v:V),X.N[i]?=some x->σ[i]?=some (some v)->yF X.env.scope x->∃u,qG v u/\wC X.env s.heap m x u
 cell:∀x c,X.env.cells.lookup x=some c->∃v,s.heap.IsCell c v
 free:H X.env.locals=none
 freeC:∀x c,X.env.cells.lookup x=some c->H c=none
 pin:∀p∈X.pn++pins,s.heap.get? p.1=some p.2/\H p.1=none/\p.1≠X.env.locals/\p.1∉X.fs/\∀v,p.2.data≠.cell v
 hok:QK X.prog X.w H s.heap
 len:σ.length=X.N.length
section
variable {X:Cx} {pins:List (Addr×Obj)} {σ:List (Option V)} {H H':Hp} {s:Shared} {h':Heap}
theorem Cx.Ok.nofr (ok:X.Ok) {b:Addr} {o:Obj} (e:X.base.get? b=some o):b∉X.fs:=λhb=>by
 have:=(ok.funs.mem hb).1
 rw[e]at this;cases this
theorem qp.bs (I:qp X pins σ H s):∀b o,X.base.get? b=some o->s.heap.get? b=some o/\H b=none:=λb o e=>
 ⟨I.base.keep b o (I.ok.bs b o e).1 (I.ok.bs b o e).2 (I.ok.nofr e) (I.ok.noex b o e),I.base.free b o (I.ok.bs b o e).1 (I.ok.bs b o e).2 (I.ok.noex b o e)⟩
theorem qp.bk (I:qp X pins σ H s):∀b o,X.base.get? b=some o->s.heap.get? b=some o:=λb o e=>(I.bs b o e).1
theorem qp.mod (I:qp X pins σ H s):Mod X.K X.mg X.base:=I.ok.mod
theorem qp.kIn (I:qp X pins σ H s):X.K.In s.heap:=I.ok.mod.kin.keeps I.bk
theorem qp.lt (I:qp X pins σ H s):X.env.locals < s.heap.objs.size:=let ⟨_,hn,_⟩:=I.loc;hn.lt
theorem qp.sz (I:qp X pins σ H s):X.s₀.heap.objs.size<=s.heap.objs.size:=Nat.le_trans I.ok.above (Nat.le_of_lt I.lt)
theorem qp.nofs (I:qp X pins σ H s) {a:Addr} (h:s.heap.objs.size<=a):a∉X.fs:=λhb=>by
 obtain⟨_,o,ho,_⟩:=I.ok.funs.mem hb
 exact absurd (Nat.lt_of_lt_of_le (Heap.lt_size ho) (Nat.le_trans I.sz h)) (Nat.lt_irrefl _)
theorem qp.cne (I:qp X pins σ H s):∀x c,X.env.cells.lookup x=some c->c≠X.env.locals:=λx c e z=>by
 obtain⟨v,o,ho,hd⟩:=I.cell x c e
 obtain⟨m,⟨o',es,ep,ho',hd',_⟩,_⟩:=I.loc
 rw[z,ho']at ho;cases ho;rw[hd']at hd;cases hd
theorem qp.funs (I:qp X pins σ H s):s.heap.FunFrames X.base X.outer:=by
 have all:∀(l:List Env),(∀b∈ZG l,b∈X.fs)->X.s₀.heap.FunFrames X.base l->s.heap.FunFrames X.base l:=by
   intro l
   induction l with
   | nil=>intro _ _;trivial
   | cons env r ih=>
     intro hs hl
     obtain⟨hk,⟨L,o,hf,hn,ho,hd⟩,hr⟩:=hl
     have hL:L∈X.fs:=hs L (by unfold ZG;rw[List.filterMap_cons,hf];exact List.mem_cons_self)
     obtain⟨sl,e⟩:=I.base.slot L o ho (I.ok.frf L hL) hL λz=>I.ok.exfs L z hL
     exact⟨hk,⟨L,_,hf,hn,e,hd⟩,ih (λb hb=>hs b (by unfold ZG;rw[List.filterMap_cons,hf];exact List.mem_cons_of_mem _ hb)) hr⟩
 exact all X.outer (λ_ hb=>hb) I.ok.funs
theorem qp.stack (I:qp X pins σ H s):s.heap.FunFrames X.base X.stack:=by
 rcases I.ok.stk with e | ⟨e,hf⟩
 . rw[e];exact I.funs
 . rw[e]
   obtain⟨m,hn,_⟩:=I.loc
   refine .cons (by rw[I.ok.kind];decide) hf hn ?_ I.funs
   exact Heap.get?_none_of_le (Nat.le_trans I.ok.bsz I.ok.above)
theorem qp.stkSub (I:qp X pins σ H s):∀b∈ZG X.stack,b∈X.env.locals::X.fs:=λb hb=>by
 rcases I.ok.stk with e | ⟨e,hf⟩
 . rw[e]at hb;exact List.mem_cons_of_mem _ hb
 . rw[e]at hb
   unfold ZG at hb
   rw[List.filterMap_cons,hf]at hb
   exact hb
theorem qp.stkFree (I:qp X pins σ H s):∀b∈ZG X.stack,H b=none:=λb hb=>by
 rcases List.mem_cons.mp (I.stkSub b hb) with e | hb
 . rw[e];exact I.free
 . obtain⟨_,o,ho,_⟩:=I.ok.funs.mem hb
   exact I.base.free b o ho (I.ok.frf b hb) λz=>I.ok.exfs b z hb
theorem qp.step {g':Array GenState} {t':Nat} {d':Drawn} {ch:List Addr} (I:qp X pins σ H s)
   (hch:∀b∈ch,(b∈X.ex\/X.s₀.heap.objs.size<=b)/\b≠X.env.locals/\(∀x c,X.env.cells.lookup x=some c->c≠b)/\∀p∈X.pn++pins,p.1≠b)
   (keep:∀b o,b≠X.env.locals->b∉X.fs->b∉ch->s.heap.get? b=some o->H b=none->h'.get? b=some o)
   (slot:∀b o,b≠X.env.locals->b∈X.fs->b∉ch->s.heap.get? b=some o->H b=none->∃sl,h'.get? b=some {o with slots:=sl}) (free:∀b o,b∉ch->s.heap.get? b=some o->H b=none->H' b=none)
   (there:∀b o,b∉ch->s.heap.get? b=some o->∃o',h'.get? b=some o')
   (tups:∀b xs,H b=some (.tup xs)->H' b=some (.tup xs)) (frzs:∀b o u,H b=some (.frz o u)->H' b=some (.frz o u)) (tbls:∀b ps,H b=some (.tbl ps)->∃more,H' b=some (.tbl (ps++more)))
   (ns:∀m,s.heap.Ns X.env.locals m->h'.Ns X.env.locals m) (hok:QK X.prog X.w H' h') (hg:AllBare g'):
   qp X pins σ H' {s with heap:=h',gens:=g',drawn:=d',toks:=t'}:=by
 have neL:∀b o,X.s₀.heap.get? b=some o->b≠X.env.locals:=λb o e=>Nat.ne_of_lt (Nat.lt_of_lt_of_le (Heap.lt_size e) I.ok.above)
 have neC:∀b o,X.s₀.heap.get? b=some o->b∉X.ex->b∉ch:=λb o e hx hb=>by
   rcases(hch b hb).1 with z | z
   . exact hx z
   . exact absurd (Nat.lt_of_lt_of_le (Heap.lt_size e) z) (Nat.lt_irrefl _)
 have cellK:∀x c,X.env.cells.lookup x=some c->∀v,s.heap.IsCell c v->h'.IsCell c v:=λx c e v ⟨o,ho,hd⟩=>by
   have nch:c∉ch:=λz=>(hch c z).2.2.1 x c e rfl
   by_cases hc:c∈X.fs
   . obtain⟨sl,q⟩:=slot c o (I.cne x c e) hc nch ho (I.freeC x c e)
     exact⟨_,q,hd⟩
   . exact⟨o,keep c o (I.cne x c e) hc nch ho (I.freeC x c e),hd⟩
 refine⟨I.ok,I.os,hg,⟨λb o e n hb hx=>?_,λb o e n hb hx=>?_,λb o e n hx=>?_,λb o e hx=>?_,λb xs e=>tups b xs (I.base.tups b xs e),λb o xs e=>frzs b o xs (I.base.frzs b o xs e),λb ps e=>?_⟩,?_,λx c e=>?_,?_,λx c e=>?_,λp hp=>?_,hok,I.len⟩
 . exact keep b o (neL b o e) hb (neC b o e hx) (I.base.keep b o e n hb hx) (I.base.free b o e n hx)
 . obtain⟨sl,e1⟩:=I.base.slot b o e n hb hx
   obtain⟨sl',e2⟩:=slot b _ (neL b o e) hb (neC b o e hx) e1 (I.base.free b o e n hx)
   exact⟨sl',e2⟩
 . obtain⟨o',e1⟩:=I.base.there b o e hx
   exact free b o' (neC b o e hx) e1 (I.base.free b o e n hx)
 . obtain⟨o',e1⟩:=I.base.there b o e hx
   exact there b o' (neC b o e hx) e1
 . obtain⟨m1,e1⟩:=I.base.tbls b ps e
   obtain⟨m2,e2⟩:=tbls b _ e1
   exact⟨m1++m2,by rw[e2,Array.append_assoc]⟩
 . obtain⟨m,hn,hl⟩:=I.loc
   refine⟨m,ns m hn,λi x v e1 e2 e3=>?_⟩
   obtain⟨u,r,l⟩:=hl i x v e1 e2 e3
   refine⟨u,r,?_⟩
   rcases l with l | ⟨k,c,e,z⟩
   . exact .inl l
   . exact .inr ⟨k,c,e,cellK x c e _ z⟩
 . obtain⟨v,z⟩:=I.cell x c e
   exact⟨v,cellK x c e v z⟩
 . obtain⟨m,⟨o,_,_,ho,_⟩,_⟩:=I.loc
   exact free _ o (λz=>(hch _ z).2.1 rfl) ho I.free
 . obtain⟨v,o,ho,hd⟩:=I.cell x c e
   exact free c o (λz=>(hch c z).2.2.1 x c e rfl) ho (I.freeC x c e)
 . obtain⟨e,n,ne,nf,d⟩:=I.pin p hp
   have nch:p.1∉ch:=λz=>(hch p.1 z).2.2.2 p hp rfl
   exact⟨keep p.1 p.2 ne nf nch e n,free p.1 p.2 nch e n,ne,nf,d⟩
theorem qp.un {t':Nat} (I:qp X pins σ H s) (u:Un X.fs [] H H' s.heap h') (hok:QK X.prog X.w H' h'):qp X pins σ H' {s with heap:=h',toks:=t'}:=by
 obtain⟨m,⟨o,es,ep,ho,r⟩,_⟩:=id I.loc
 obtain⟨sl,hL⟩:=u.any ho I.free (by simp)
 exact I.step (g':=s.gens) (d':=s.drawn) (ch:=[]) (λ_ z=>nomatch z) (λb o _ hb _ e n=>u.keep b o e n hb (by simp)) (λb o _ hb _ e n=>u.slot b o e n hb (by simp)) (λb o _ e n=>u.free b o e n (by simp)) (λb o _ e=>u.there b o e (by simp)) u.tups u.frzs u.tbls (λm' hm=>by
   obtain⟨o',es',ep',ho',r'⟩:=hm
   rw[ho]at ho';cases ho'
   exact⟨_,es',ep',hL,r'⟩) hok I.bare
theorem qp.call {g':Array GenState} {t':Nat} {d':Drawn} {ch:List Addr} (I:qp X pins σ H s) (u:Un (ZG X.stack) ch H H' s.heap h') (hok:QK X.prog X.w H' h') (hg:AllBare g')
   (hch:∀b∈ch,(b∈X.ex\/X.s₀.heap.objs.size<=b)/\b≠X.env.locals/\(∀x c,X.env.cells.lookup x=some c->c≠b)/\∀p∈X.pn++pins,p.1≠b):
   qp X pins σ H' {s with heap:=h',gens:=g',drawn:=d',toks:=t'}:=by
 obtain⟨m,⟨o,es,ep,ho,r⟩,_⟩:=id I.loc
 obtain⟨sl,hL⟩:=u.any ho I.free λz=>(hch _ z).2.1 rfl
 exact I.step (ch:=ch) hch (λb o hL hb hc e n=>u.keep b o e n (λz=>(List.mem_cons.mp (I.stkSub b z)).elim hL hb) hc) (λb o _ _ hc e n=>u.any e n hc) (λb o hc e n=>u.free b o e n hc) (λb o hc e=>u.there b o e hc) u.tups u.frzs u.tbls (λm' hm=>by
   obtain⟨o',es',ep',ho',r'⟩:=hm
   rw[ho]at ho';cases ho'
   exact⟨_,es',ep',hL,r'⟩) hok hg
theorem qp.turned {t':Nat} {it:Addr} (I:qp X pins σ H s) (k:∀b o,b≠it->s.heap.get? b=some o->h'.get? b=some o) (hn:H it=none) (hL:it≠X.env.locals)
   (h1:it∈X.ex\/X.s₀.heap.objs.size<=it) (h2:∀x c,X.env.cells.lookup x=some c->c≠it) (h3:∀p∈X.pn++pins,p.1≠it):qp X pins σ H {s with heap:=h',toks:=t'}:=by
 have nit:∀b u,H b=some u->b≠it:=λb u e z=>by rw[z,hn]at e;cases e
 refine I.step (g':=s.gens) (d':=s.drawn) (ch:=[it]) (λb hb=>?_) (λb o _ _ hc e _=>k b o (λz=>hc (by simp [z])) e) (λb o _ _ hc e _=>⟨o.slots,k b o (λz=>hc (by simp [z])) e⟩) (λ_ _ _ _ n=>n)
   (λb o hc e=>⟨o,k b o (λz=>hc (by simp [z])) e⟩) (λ_ _ e=>e) (λ_ _ _ e=>e) (λb ps e=>⟨#[],by rw[e];simp⟩) (λm hm=>?_) (λb u e=>?_) I.bare
 . have e:b=it:=by simpa using hb
   subst e
   exact⟨h1,hL,h2,h3⟩
 . obtain⟨o,es,ep,ho,r⟩:=hm
   exact⟨o,es,ep,k _ o (Ne.symm hL) ho,r⟩
 . refine(I.hok b u e).stay (λc v hc q=>k c v ?_ q) (λ_ q=>q) λ_ _ q=>q
   rcases hc with z | z
   . rw[z];exact nit b u e
   . exact nit c _ z
theorem qp.tok (I:qp X pins σ H s) (t:Nat):qp X pins σ H {s with toks:=t}:=I.un (h':=s.heap) (t':=t) Un.refl I.hok
theorem qp.kept {t':Nat} (I:qp X pins σ H s) (k:∀b u,s.heap.get? b=some u->h'.get? b=some u):qp X pins σ H {s with heap:=h',toks:=t'}:=I.un (Un.kept k) (I.hok.kept k)
theorem qp.laid {a:Addr} {o:HO} {t':Nat} (I:qp X pins σ H s) (k:∀b u,s.heap.get? b=some u->h'.get? b=some u) (hp:s.heap.objs.size<=a) (new:qE X.prog X.w (upd H a o) h' a o):
   qp X pins σ (upd H a o) {s with heap:=h',toks:=t'}:=I.un (Un.laid k hp (I.hok.fresh hp)) (I.hok.laid k hp new)
theorem qp.write {x e:Addr} {o:HO} {t':Nat} (I:qp X pins σ H s) (mu:yH (H x)) (he:e=x\/H e=some (.own x)) (k:∀b u,b≠e->s.heap.get? b=some u->h'.get? b=some u) (heo:∃u,h'.get? e=some u)
   (new:qE X.prog X.w (upd H x o) h' x o):qp X pins σ (upd H x o) {s with heap:=h',toks:=t'}:=I.un (Un.write mu he k heo) (I.hok.write mu he k heo new)
theorem qp.pins_of {pins':List (Addr×Obj)} (I:qp X pins σ H s) (h:∀p∈pins',s.heap.get? p.1=some p.2/\H p.1=none/\p.1≠X.env.locals/\p.1∉X.fs/\∀v,p.2.data≠.cell v):qp X pins' σ H s:=
 ⟨I.ok,I.os,I.bare,I.base,I.loc,I.cell,I.free,I.freeC,λp hp=>(List.mem_append.mp hp).elim (λz=>I.pin p (List.mem_append_left _ z)) (h p),I.hok,I.len⟩
theorem Zw {N:List Str} (hN:N.Nodup) {i j:Nat} {x:Str} (a:N[i]?=some x) (b:N[j]?=some x):i=j:=by
 obtain⟨h1,e1⟩:=List.getElem?_eq_some_iff.mp a
 obtain⟨h2,e2⟩:=List.getElem?_eq_some_iff.mp b
 exact(List.getElem_inj hN).mp (e1.trans e2.symm)
theorem ZY {M:Model} {A:Around} {E:Value->Shared->Prop} {i:Nat} {x:Str} {v:V} {u:Value} {Q:Unit->Shared->Prop} (I:qp X pins σ H s) (hN:X.N.Nodup) (hi:X.N[i]?=some x) (hx:yJ X.env.scope x) (r:qG v u)
   (h:∀s',qp X pins (σ.set i (some v)) H s'->(∃a,Heap.SameBut a s.heap s'.heap/\(a=X.env.locals\/X.env.cells.lookup x=some a))->Q () s') (hf:X.fn x=true\/X.env.scope.names.lookup x=some .local:=by first | exact .inl rfl | exact .inr rfl | assumption):wpAny M A (storeName X.env x u) Q E s:=by
 obtain⟨m,hn,hl⟩:=id I.loc
 have hcls:(X.env.scope.kind==.class || (X.env.scope.kind==.module&&X.env.locals != X.env.globals))=false:=by rw[I.ok.kind];rfl
 have hiσ:i < σ.length:=by rw[I.len];exact(List.getElem?_eq_some_iff.mp hi).1
 have cne:=I.cne
 have tracked:∀{a:Addr} {h':Heap},(∃o,s.heap.get? a=some o/\H a=none)->Heap.SameBut a s.heap h'->QK X.prog X.w H h':=λ{a h'} ha hs b ob e=>by
   obtain⟨_,_,hfree⟩:=ha
   refine(I.hok b ob e).stay (λc w' hc q=>(hs.2 c ?_).trans q) (λ_ q=>q) λ_ _ q=>q
   rintro rfl
   rcases hc with rfl | hc
   . rw[hfree]at e;cases e
   . rw[hfree]at hc;cases hc
 rcases hx with hk | hk
 . refine wpAny_storeName_local hk hn (λh' hn' hs=>?_) hcls
   obtain⟨oL,_,_,hoL,_⟩:=id hn
   refine h _ ⟨I.ok,I.os,I.bare,⟨λb o e n hb hx=>?_,λb o e n hb hx=>?_,I.base.free,λb o e hx=>?_,I.base.tups,I.base.frzs,I.base.tbls⟩,⟨_,hn',λj y v' e1 e2 e3=>?_⟩,λy c e=>?_,I.free,I.freeC,λp hp=>?_,tracked ⟨oL,hoL,I.free⟩ hs,by simpa using I.len⟩ ⟨_,hs,.inl rfl⟩
   . exact(hs.2 b (Nat.ne_of_lt (Nat.lt_of_lt_of_le (Heap.lt_size e) I.ok.above))).trans (I.base.keep b o e n hb hx)
   . obtain⟨sl,e1⟩:=I.base.slot b o e n hb hx
     exact⟨sl,(hs.2 b (Nat.ne_of_lt (Nat.lt_of_lt_of_le (Heap.lt_size e) I.ok.above))).trans e1⟩
   . obtain⟨o',e1⟩:=I.base.there b o e hx
     exact⟨o',(hs.2 b (Nat.ne_of_lt (Nat.lt_of_lt_of_le (Heap.lt_size e) I.ok.above))).trans e1⟩
   . by_cases hj:j=i
     . subst hj
       rw[hi]at e1;cases e1
       rw[List.getElem?_set_self hiσ]at e2
       cases e2
       exact⟨u,r,.inl ⟨hk,by simp⟩⟩
     . rw[List.getElem?_set_ne (Ne.symm hj)]at e2
       obtain⟨u',r',q⟩:=hl j y v' e1 e2 e3
       refine⟨u',r',?_⟩
       rcases q with ⟨k,e⟩ | ⟨k,c,e,z⟩
       . refine .inl ⟨k,?_⟩
         have:y≠x:=λe=>hj (Zw hN e1 (e▸hi))
         simp [this,e]
       . exact .inr ⟨k,c,e,z.sameBut hs (cne y c e)⟩
   . obtain⟨w',z⟩:=I.cell y c e
     exact⟨w',z.sameBut hs (cne y c e)⟩
   . obtain⟨e,n,ne,nf,d⟩:=I.pin p hp
     exact⟨(hs.2 p.1 ne).trans e,n,ne,nf,d⟩
 . have hfn:X.fn x=true:=by
     rcases hf with z | z
     . exact z
     . rw[z]at hk;cases hk
   obtain⟨c,hc⟩:=I.ok.has x (.inl hk)
   obtain⟨w',z⟩:=I.cell x c hc
   refine wpAny_storeName_cell I.ok.kind hk hc z (λh' hc' hs=>?_)
   obtain⟨oc,hoc,hocd⟩:=id z
   refine h {s with heap:=h'} ⟨I.ok,I.os,I.bare,⟨λb o e n hb hx=>?_,λb o e n hb hx=>?_,I.base.free,λb o e hx=>?_,I.base.tups,I.base.frzs,I.base.tbls⟩,⟨m,hn.sameBut hs (Ne.symm (cne x c hc)),λj y v' e1 e2 e3=>?_⟩,λy c' e=>?_,I.free,I.freeC,λp hp=>?_,tracked ⟨oc,hoc,I.freeC x c hc⟩ hs,by simpa using I.len⟩ ⟨c,hs,.inr hc⟩
   . exact(hs.2 b (Nat.ne_of_lt (Nat.lt_of_lt_of_le (Heap.lt_size e) (I.ok.cab x c hfn hc)))).trans (I.base.keep b o e n hb hx)
   . obtain⟨sl,e1⟩:=I.base.slot b o e n hb hx
     exact⟨sl,(hs.2 b (Nat.ne_of_lt (Nat.lt_of_lt_of_le (Heap.lt_size e) (I.ok.cab x c hfn hc)))).trans e1⟩
   . obtain⟨o',e1⟩:=I.base.there b o e hx
     exact⟨o',(hs.2 b (Nat.ne_of_lt (Nat.lt_of_lt_of_le (Heap.lt_size e) (I.ok.cab x c hfn hc)))).trans e1⟩
   . by_cases hj:j=i
     . subst hj
       rw[hi]at e1;cases e1
       rw[List.getElem?_set_self hiσ]at e2
       cases e2
       exact⟨u,r,.inr ⟨.inl hk,c,hc,hc'⟩⟩
     . rw[List.getElem?_set_ne (Ne.symm hj)]at e2
       obtain⟨u',r',q⟩:=hl j y v' e1 e2 e3
       refine⟨u',r',?_⟩
       rcases q with q | ⟨k,c',e,z'⟩
       . exact .inl q
       . refine .inr ⟨k,c',e,z'.sameBut hs ?_⟩
         rintro rfl
         exact hj (Zw hN e1 (I.ok.inj _ _ _ e hc▸hi))
   . by_cases hcc:c'=c
     . subst hcc;exact⟨_,hc'⟩
     . obtain⟨w2,z2⟩:=I.cell y c' e
       exact⟨w2,z2.sameBut hs hcc⟩
   . obtain⟨e,n,ne,nf,d⟩:=I.pin p hp
     refine⟨(hs.2 p.1 ?_).trans e,n,ne,nf,d⟩
     intro q
     rw[q,hoc]at e
     have q':oc=p.2:=Option.some.inj e
     exact d w' (by rw[<-q'];exact hocd)
theorem Zi {M:Model} {A:Around} {E:Value->Shared->Prop} {i:Nat} {x:Str} {v:V} {u:Value} {Q:Unit->Shared->Prop} (I:qp X pins σ H s) (hN:X.N.Nodup) (hi:X.N[i]?=some x) (hx:yJ X.env.scope x) (r:qG v u)
   (h:∀s',qp X pins (σ.set i (some v)) H s'->Q () s') (hf:X.fn x=true\/X.env.scope.names.lookup x=some .local:=by first | exact .inl rfl | exact .inr rfl | assumption):wpAny M A (storeName X.env x u) Q E s:=
 ZY I hN hi hx r (λs' I' _=>h s' I') hf
theorem qp.call' {s':Shared} {ch:List Addr} (I:qp X pins σ H s) (ho:s'.os=s.os) (u:Un (ZG X.stack) ch H H' s.heap s'.heap) (hok:QK X.prog X.w H' s'.heap) (hg:AllBare s'.gens)
   (hch:∀b∈ch,(b∈X.ex\/X.s₀.heap.objs.size<=b)/\b≠X.env.locals/\(∀x c,X.env.cells.lookup x=some c->c≠b)/\∀p∈X.pn++pins,p.1≠b):qp X pins σ H' s':=by
 obtain⟨h',g',d',t',o'⟩:=s'
 have e:o'=s.os:=ho
 subst e
 exact I.call (g':=g') (t':=t') (d':=d') u hok hg hch
end
abbrev XK:=Value->Option Addr->Hp->Prop
abbrev St:=List (Option V)
abbrev VK:=V->Hp->Prop
abbrev TE:=St->Hp->VK->Prop
abbrev TT:=St->Hp->(Bool->Hp->Prop)->Prop
abbrev TA:=St->Hp->(List V->Hp->Prop)->Prop
structure Qq where
 nx:St->Hp->Prop
 rt:VK
 bk:St->Hp->Prop:=λ_ _=>False
 ct:St->Hp->Prop:=λ_ _=>False
abbrev TS:=Qq->St->Hp->Prop
def EP (X:Cx) (pins:List (Addr×Obj)) (σ:St) (Q:VK) (u:Value) (s':Shared):Prop:=∃v H',qp X pins σ H' s'/\qG v u/\Q v H'
def TP (X:Cx) (pins:List (Addr×Obj)) (σ:St) (Q:Bool->Hp->Prop) (b:Bool) (s':Shared):Prop:=∃H',qp X pins σ H' s'/\Q b H'
def AP (X:Cx) (pins:List (Addr×Obj)) (σ:St) (Q:List V->Hp->Prop) (us:List Value) (s':Shared):Prop:=∃vs H',qp X pins σ H' s'/\qw vs us/\Q vs H'
def SP (X:Cx) (pins:List (Addr×Obj)) (D:Qq) (f:Flow) (s':Shared):Prop:=
 match f with
 | .next=>∃σ' H',qp X pins σ' H' s'/\D.nx σ' H'
 | .brk=>∃σ' H',qp X pins σ' H' s'/\D.bk σ' H'
 | .cont=>∃σ' H',qp X pins σ' H' s'/\D.ct σ' H'
 | .ret u=>∃v σ' H',qp X pins σ' H' s'/\qG v u/\D.rt v H'
def PE (X:Cx) (e:Expr) (t:TE):Prop:=
 ∀(pins:List (Addr×Obj)) (s:Shared) (σ:St) (H:Hp) (Q:VK),qp X pins σ H s->t σ H Q->wpAny (model X.prog X.w) X.A (eval e X.env) (EP X pins σ Q) X.xe s
@[irreducible] def JE (X:Cx) (e:Expr) (t:TE):Prop:=PE X e t
theorem JE.of {X:Cx} {e:Expr} {t:TE} (h:PE X e t):JE X e t:=by unfold JE;exact h
theorem JE.to {X:Cx} {e:Expr} {t:TE} (h:JE X e t):PE X e t:=by unfold JE at h;exact h
def PT (X:Cx) (e:Expr) (t:TT):Prop:=
 ∀(pins:List (Addr×Obj)) (s:Shared) (σ:St) (H:Hp) (Q:Bool->Hp->Prop),qp X pins σ H s->t σ H Q->wpAny (model X.prog X.w) X.A (isTrue e X.env (eval e X.env)) (TP X pins σ Q) X.xe s
@[irreducible] def JT (X:Cx) (e:Expr) (t:TT):Prop:=PT X e t
theorem JT.of {X:Cx} {e:Expr} {t:TT} (h:PT X e t):JT X e t:=by unfold JT;exact h
theorem JT.to {X:Cx} {e:Expr} {t:TT} (h:JT X e t):PT X e t:=by unfold JT at h;exact h
def PW (X:Cx) (e:Expr) (t:TT):Prop:=
 ∀(whole:Sem Value) (pins:List (Addr×Obj)) (s:Shared) (σ:St) (H:Hp) (Q:Bool->Hp->Prop),qp X pins σ H s->t σ H Q->wpAny (model X.prog X.w) X.A (isTrue e X.env whole) (TP X pins σ Q) X.xe s
theorem PW.pt {X:Cx} {e:Expr} {t:TT} (h:PW X e t):PT X e t:=h _
@[irreducible] def JW (X:Cx) (e:Expr) (t:TT):Prop:=PW X e t
theorem JW.of {X:Cx} {e:Expr} {t:TT} (h:PW X e t):JW X e t:=by unfold JW;exact h
theorem JW.to {X:Cx} {e:Expr} {t:TT} (h:JW X e t):PW X e t:=by unfold JW at h;exact h
theorem JW.pt {X:Cx} {e:Expr} {t:TT} (h:JW X e t):JT X e t:=.of h.to.pt
def PA (X:Cx) (es:List Expr) (t:TA):Prop:=
 ∀(pos:Pos) (pins:List (Addr×Obj)) (s:Shared) (σ:St) (H:Hp) (Q:List V->Hp->Prop),qp X pins σ H s->t σ H Q->wpAny (model X.prog X.w) X.A (spliced (backTo pos (starEach es X.env))) (AP X pins σ Q) X.xe s
@[irreducible] def JA (X:Cx) (es:List Expr) (t:TA):Prop:=PA X es t
theorem JA.of {X:Cx} {es:List Expr} {t:TA} (h:PA X es t):JA X es t:=by unfold JA;exact h
theorem JA.to {X:Cx} {es:List Expr} {t:TA} (h:JA X es t):PA X es t:=by unfold JA at h;exact h
def PS (X:Cx) (st:Stmt) (t:TS):Prop:=
 ∀(pins:List (Addr×Obj)) (s:Shared) (σ:St) (H:Hp) (D:Qq),qp X pins σ H s->t D σ H->wpAny (model X.prog X.w) X.A (exec st X.env) (SP X pins D) X.xe s
@[irreducible] def JS (X:Cx) (st:Stmt) (t:TS):Prop:=PS X st t
theorem JS.of {X:Cx} {st:Stmt} {t:TS} (h:PS X st t):JS X st t:=by unfold JS;exact h
theorem JS.to {X:Cx} {st:Stmt} {t:TS} (h:JS X st t):PS X st t:=by unfold JS at h;exact h
def UA (X:Cx) (st:List Stmt) (t:TS):Prop:=
 ∀(pins:List (Addr×Obj)) (s:Shared) (σ:St) (H:Hp) (D:Qq),qp X pins σ H s->t D σ H->wpAny (model X.prog X.w) X.A (execs st X.env) (SP X pins D) X.xe s
@[irreducible] def zM (X:Cx) (st:List Stmt) (t:TS):Prop:=UA X st t
theorem zM.of {X:Cx} {st:List Stmt} {t:TS} (h:UA X st t):zM X st t:=by unfold zM;exact h
theorem zM.to {X:Cx} {st:List Stmt} {t:TS} (h:zM X st t):UA X st t:=by unfold zM at h;exact h
theorem qP {α:Type} {t:Sem α} {Q Q':α->Shared->Prop} {M:Model} {A:Around} {E:Value->Shared->Prop} {s:Shared} (h:wpAny M A t Q E s) (hQ:∀a s,Q a s->Q' a s):wpAny M A t Q' E s:=wpAny_mono h hQ λ_ _ x=>x
end L2
namespace L2
open PySem PySem.Spec PyProof.Rows
section
variable {X:Cx}
def qV (i:Nat):TE:=λσ H Q=>∃v,σ[i]?=some (some v)/\Q v H
def tC (v:V):TE:=λ_ H Q=>Q v H
theorem kU {i:Nat} {x:Str} {pos:Pos} (hN:X.N[i]?=some x) (hv:yF X.env.scope x) (hd:(x==("__debug__":Str))=false:=by decide) (hcd:(x==("__classdict__":Str))=false:=by decide):PE X (.Name x pos) (qV i):=by
 intro pins s σ H Q I h
 obtain⟨v,e,h⟩:=h
 obtain⟨m,hn,hl⟩:=I.loc
 obtain⟨u,r,l⟩:=hl i x v hN e hv
 have fin:EP X pins σ Q u s:=⟨v,H,I,r,h⟩
 rcases l with ⟨hk,hm⟩ | ⟨hk,c,hc,hcell⟩
 . exact wpAny_Name (wpAny_loadName_local I.ok.kind hk hn hm fin) hd
 . rcases hk with hk | hk
   . exact wpAny_Name (wpAny_loadName_cell I.ok.kind hk hc hcell fin) hd
   . exact wpAny_Name (wpAny_loadName_free I.ok.kind hk hc hcell fin hcd) hd
theorem ql {i j pos}:JE X (.Constant (.int i) j pos) (tC (.int i)):=.of (by
 exact λ_ _ _ H _ I h=>wpAny_Constant_int ⟨.int i,H,I.tok _,⟨_,rfl⟩,h⟩)
theorem jh {b j pos}:JE X (.Constant (.bool b) j pos) (tC (.bl b)):=.of (by
 exact λ_ _ _ H _ I h=>Constant_bool ⟨.bl b,H,I,rfl,h⟩)
theorem V2 {j pos}:JE X (.Constant .none j pos) (tC .non):=.of (by
 exact λ_ _ _ H _ I h=>Constant_none ⟨.non,H,I,rfl,h⟩)
theorem qL {x j pos}:JE X (.Constant (.str x) j pos) (tC (.str x)):=.of (by
 exact λ_ _ _ H _ I h=>Calls.Constant_str ⟨.str x,H,I.tok _,⟨_,rfl⟩,h⟩)
def Gl (X:Cx) (x:Str):Prop:=X.env.kindOf x=some .globalImplicit
theorem Za {E:Value->Shared->Prop} {pins:List (Addr×Obj)} {s:Shared} {σ:St} {H:Hp} {x:Str} {u:Value} {pos:Pos} {Q:Value->Shared->Prop} (I:qp X pins σ H s) (hg:Gl X x) (hm:X.mg x=some u) (h:Q u s)
   (hd:(x==("__debug__":Str))=false:=by decide):wpAny (model X.prog X.w) X.A (eval (.Name x pos) X.env) Q E s:=
 Calls.Name_function_global I.ok.kind hg (Calls.loadGlobal_global (by rw[I.ok.glob];exact I.mod.glob.keeps I.bk) hm h) hd
theorem Qk {E:Value->Shared->Prop} {pins:List (Addr×Obj)} {s:Shared} {σ:St} {H:Hp} {x:Str} {u:Value} {pos:Pos} {Q:Value->Shared->Prop} (I:qp X pins σ H s) (hg:Gl X x) (hm:X.mg x=none) (hv:bootBuiltins x=some u) (h:Q u s)
   (hn:x≠"__name__":=by decide) (hd:(x==("__debug__":Str))=false:=by decide):wpAny (model X.prog X.w) X.A (eval (.Name x pos) X.env) Q E s:=by
 obtain⟨mb,h1,h2⟩:=I.mod.blt
 exact Calls.Name_function_global I.ok.kind hg (Calls.loadGlobal_builtin (by rw[I.ok.glob];exact I.mod.glob.keeps I.bk) hm (by rw[I.ok.blt];exact h1.keeps I.bk) ((h2 x hn).trans hv) h) hd
theorem XC {x:Str} {v:V} {u:Value} {pos:Pos} (hg:Gl X x) (hm:X.mg x=some u) (r:qG v u) (hd:(x==("__debug__":Str))=false:=by decide):PE X (.Name x pos) (tC v):=
 λ_ _ _ H _ I h=>Za I hg hm ⟨v,H,I,r,h⟩ hd
theorem Qd {x:Str} {v:V} {u:Value} {pos:Pos} (hg:Gl X x) (hm:X.mg x=some u) (r:qG v u) (hd:(x==("__debug__":Str))=false:=by decide):JE X (.Name x pos) (tC v):=.of (XC hg hm r hd)
theorem Qe {x:Str} {v:V} {u:Value} {pos:Pos} (hg:Gl X x) (hm:X.mg x=none) (hv:bootBuiltins x=some u) (r:qG v u) (hn:x≠"__name__":=by decide) (hd:(x==("__debug__":Str))=false:=by decide):JE X (.Name x pos) (tC v):=.of (by
 exact λ_ _ _ H _ I h=>Qk I hg hm hv ⟨v,H,I,r,h⟩ hn hd)
variable {a b:Expr} {ta tb:TE} {pos:Pos}
def PC (X:Cx) (op:CmpOp) (a b:Expr) (t:TE):Prop:=
 ∀(pins:List (Addr×Obj)) (s:Shared) (σ:St) (H:Hp) (Q:VK),qp X pins σ H s->t σ H Q->
   wpAny (model X.prog X.w) X.A (eval a X.env) (λv s₁=>wpAny (model X.prog X.w) X.A (eval b X.env) (λu s₂=>wpAny (model X.prog X.w) X.A (compareOp op v u) (EP X pins σ Q) X.xe s₂) X.xe s₁) X.xe s
@[irreducible] def JC (X:Cx) (op:CmpOp) (a b:Expr) (t:TE):Prop:=PC X op a b t
theorem JC.of {X:Cx} {op:CmpOp} {a b:Expr} {t:TE} (h:PC X op a b t):JC X op a b t:=by unfold JC;exact h
theorem JC.to {X:Cx} {op:CmpOp} {a b:Expr} {t:TE} (h:JC X op a b t):PC X op a b t:=by unfold JC at h;exact h
def tB (t:TE):TT:=λσ H Q=>t σ H λx H1=>∃c,x=.bl c/\Q c H1
theorem zy {op:CmpOp} {t:TE} (h:JC X op a b t) (h1:behindInMarks op b=false:=by first | exact nobehind _ (by decide) (by decide) | rfl):JT X (.Compare a [op] [b] pos) (tB t):=.of (by
 have h:=h.to
 intro pins s σ H Q I hw
 refine wpAny_isTrue_Compare1 (qP (h pins s σ H _ I hw) λv s1 h1=>qP h1 λu s2 h2=>qP h2 λc s3 ⟨x,H1,I1,r1,q1⟩=>?_) h1
 obtain⟨d,rfl,q⟩:=q1
 cases r1
 exact wpAny_truthy_bool ⟨H1,I1,q⟩)
theorem jp {e:Expr} {t:TE} (h:JE X e t) (he:∀whole,isTrue e X.env whole=(do let v <-whole;standAt e.pos;holding [v] (truthy v)):=by intro _;rfl):JT X e (tB t):=.of (by
 have h:=h.to
 intro pins s σ H Q I hw
 refine isTrue_plain (qP (h pins s σ H _ I hw) λv s1 ⟨x,H1,I1,r1,q1⟩=>?_) (he _)
 obtain⟨d,rfl,q⟩:=q1
 cases r1
 exact wpAny_truthy_bool ⟨H1,I1,q⟩)
variable {tA tB':TT} {rest:List Expr}
def yT (t u:TT):TT:=λσ H Q=>t σ H λc H1=>if c=true then u σ H1 Q else Q false H1
def tOr (t u:TT):TT:=λσ H Q=>t σ H λc H1=>if c=true then Q true H1 else u σ H1 Q
def xW (t:TT):TT:=λσ H Q=>t σ H λc H1=>Q (!c) H1
theorem jP (ha:JT X a tA):JW X (.BoolOp .And [a] pos) tA:=.of (by
 have ha:=ha.to
 intro wh pins s σ H Q I h
 refine isTrue_and (qP (ha pins s σ H Q I h) λc s1 e=>?_)
 cases c with
 | true=>exact isTrue_and_nil e
 | false=>exact e)
theorem jE (ha:JT X a tA):JW X (.BoolOp .Or [a] pos) tA:=.of (by
 have ha:=ha.to
 intro wh pins s σ H Q I h
 refine isTrue_or (qP (ha pins s σ H Q I h) λc s1 e=>?_)
 cases c with
 | false=>exact isTrue_or_nil e
 | true=>exact e)
theorem j7 (ha:JT X a tA) (hb:JW X (.BoolOp .And (b::rest) pos) tB'):JW X (.BoolOp .And (a::b::rest) pos) (yT tA tB'):=.of (by
 have ha:=ha.to
 have hb:=hb.to
 intro wh pins s σ H Q I h
 refine isTrue_and (qP (ha pins s σ H _ I h) λc s1 ⟨H1,I1,q1⟩=>?_)
 cases c with
 | true=>exact hb wh pins s1 σ H1 Q I1 q1
 | false=>exact⟨H1,I1,q1⟩)
theorem j6 (ha:JT X a tA) (hb:JW X (.BoolOp .Or (b::rest) pos) tB'):JW X (.BoolOp .Or (a::b::rest) pos) (tOr tA tB'):=.of (by
 have ha:=ha.to
 have hb:=hb.to
 intro wh pins s σ H Q I h
 refine isTrue_or (qP (ha pins s σ H _ I h) λc s1 ⟨H1,I1,q1⟩=>?_)
 cases c with
 | true=>exact⟨H1,I1,q1⟩
 | false=>exact hb wh pins s1 σ H1 Q I1 q1)
theorem jz (ha:JT X a tA):JT X (.UnaryOp .Not a pos) (xW tA):=.of (by
 have ha:=ha.to
 intro pins s σ H Q I h
 exact isTrue_not (ha pins s σ H (λc H1=>Q (!c) H1) I h))
def yS (ta tb:TE):TE:=λσ H Q=>ta σ H λx H1=>∃c,x=.bl c/\if c=true then tb σ H1 Q else Q (.bl false) H1
theorem V1 {op} {t:TE} (h:JE X a t):JE X (.BoolOp op [a] pos) t:=.of (by
 have h:=h.to
 exact λpins s σ H Q I hw=>BoolOp_one (h pins s σ H Q I hw))
theorem V9 (ha:JE X a ta) (hb:JE X (.BoolOp .And (b::rest) pos) tb):JE X (.BoolOp .And (a::b::rest) pos) (yS ta tb):=.of (by
 have ha:=ha.to
 have hb:=hb.to
 intro pins s σ H Q I h
 refine BoolOp_and (qP (ha pins s σ H _ I h) λv s1 ⟨x,H1,I1,r1,q1⟩=>?_)
 obtain⟨c,rfl,q1⟩:=q1
 cases r1
 refine wpAny_truthy_bool ?_
 cases c with
 | true=>exact hb pins s1 σ H1 Q I1 q1
 | false=>exact⟨.bl false,H1,I1,rfl,q1⟩)
def tIf (t:TT) (ta tb:TE):TE:=λσ H Q=>t σ H λc H1=>if c=true then ta σ H1 Q else tb σ H1 Q
theorem V7 {c:Expr} (hc:JT X c tA) (ha:JE X a ta) (hb:JE X b tb):JE X (.IfExp c a b pos) (tIf tA ta tb):=.of (by
 have hc:=hc.to
 have ha:=ha.to
 have hb:=hb.to
 intro pins s σ H Q I h
 refine wpAny_IfExp (qP (hc pins s σ H _ I h) λd s1 ⟨H1,I1,q1⟩=>?_)
 cases d with
 | true=>exact ha pins s1 σ H1 Q I1 q1
 | false=>exact hb pins s1 σ H1 Q I1 q1)
end
end L2
namespace L2
open PySem PySem.Spec PyProof.Rows
def SqL (K:PySem.W.Frag) (H:Hp) (a:Addr) (xs:List V):Prop:=
 Rd H a (.lst xs)\/
   ∃(o:Obj) (its:Array Value) (n:Nat),K.lookup a=some o/\o.cls=.type "list"/\o.dict=none/\o.data=.seq its n/\its.size<=sizeLine/\qw xs its.toList
def SqT (K:PySem.W.Frag) (H:Hp) (a:Addr) (xs:List V):Prop:=
 Rd H a (.tup xs)\/
   ∃(o:Obj) (its:Array Value) (n:Nat),K.lookup a=some o/\o.cls=.type "tuple"/\o.data=.seq its n/\its.size<=sizeLine/\qw xs its.toList
def wy:Value->Option V
 | .none=>some .non
 | .bool b=>some (.bl b)
 | .int i _=>some (.int i)
 | .str x _=>some (.str x)
 | .bytes b _=>some (.byt b)
 | .float b _=>some (.flt b)
 | .ref a=>some (.ref a)
 | .type n=>some (.ty n)
 | _=>none
theorem qG.abs {x:V} {u:Value} (r:qG x u):wy u=some x:=by
 cases x with
 | non=>cases r;rfl
 | bl _=>cases r;rfl
 | int _=>obtain⟨t,rfl⟩:=r;rfl
 | str _=>obtain⟨t,rfl⟩:=r;rfl
 | byt _=>obtain⟨t,rfl⟩:=r;rfl
 | flt _=>obtain⟨t,rfl⟩:=r;rfl
 | ref _=>cases r;rfl
 | ty _=>cases r;rfl
theorem qG.inj {x y:V} {u:Value} (r:qG x u) (q:qG y u):x=y:=Option.some.inj (r.abs.symm.trans q.abs)
theorem qw.inj:∀{xs ys:List V} {us:List Value},qw xs us->qw ys us->xs=ys
 | _,_,_,.nil,.nil=>rfl
 | _,_,_,.cons r t,.cons r' t'=>by rw[r.inj r',qw.inj t t']
section
variable {X:Cx} {pins:List (Addr×Obj)} {σ:St} {H:Hp} {s:Shared} {a:Addr} {xs ys:List V}
theorem SqL.of {K:PySem.W.Frag} (h:H a=some (.lst xs)):SqL K H a xs:=.inl (.inl h)
theorem SqT.of {K:PySem.W.Frag} (h:H a=some (.tup xs)):SqT K H a xs:=.inl (.inl h)
theorem qp.list (I:qp X pins σ H s) (h:SqL X.K H a xs):∃its:List Value,qw xs its/\PlainL s.heap a its.toArray/\xs.length<=sizeLine:=by
 rcases h with h | ⟨o,its,n,hk,hc,hd,hs,hz,r⟩
 . obtain⟨z,its,n,r,e⟩:=h.ok I.hok
   exact⟨its,r,⟨_,n,e,rfl,rfl,rfl⟩,z⟩
 . refine⟨its.toList,r,⟨o,n,I.kIn a o hk,hc,hd,by simpa using hs⟩,?_⟩
   have e:=r.length
   simp only[Array.length_toList]at e
   omega
theorem qp.tuple (I:qp X pins σ H s) (h:SqT X.K H a xs):∃its:List Value,qw xs its/\IsTup s.heap a its.toArray/\xs.length<=sizeLine:=by
 rcases h with h | ⟨o,its,n,hk,hc,hs,hz,r⟩
 . obtain⟨z,its,r,p⟩:=h.ok I.hok
   exact⟨its,r,p,z⟩
 . refine⟨its.toList,r,⟨o,I.kIn a o hk,hc,n,by simpa using hs⟩,?_⟩
   have e:=r.length
   simp only[Array.length_toList]at e
   omega
theorem qp.list_inj (I:qp X pins σ H s) (h:SqL X.K H a xs) (h':SqL X.K H a ys):xs=ys:=by
 obtain⟨its,r,⟨o,n,e,_,_,d⟩,_⟩:=I.list h
 obtain⟨its',r',⟨o',n',e',_,_,d'⟩,_⟩:=I.list h'
 rw[e]at e';cases e'
 rw[d]at d'
 injection d' with d1 _
 have:its=its':=by simpa using congrArg Array.toList d1
 subst this
 exact r.inj r'
theorem qp.tuple_inj (I:qp X pins σ H s) (h:SqT X.K H a xs) (h':SqT X.K H a ys):xs=ys:=by
 obtain⟨its,r,⟨o,e,_,n,d⟩,_⟩:=I.tuple h
 obtain⟨its',r',⟨o',e',_,n',d'⟩,_⟩:=I.tuple h'
 rw[e]at e';cases e'
 rw[d]at d'
 injection d' with d1 _
 have:its=its':=by simpa using congrArg Array.toList d1
 subst this
 exact r.inj r'
end
abbrev Cx.wish (X:Cx) (E:Value->Shared->Prop):Cx:={X with xe:=E}
abbrev Cx.nox (X:Cx):Cx:=X.wish λ_ _=>False
theorem Cx.Ok.wish {X:Cx} (ok:X.Ok) (E:Value->Shared->Prop):(X.wish E).Ok:=
 ⟨ok.mod,ok.kind,ok.glob,ok.blt,ok.above,ok.inj,ok.has,ok.cab,ok.hd,ok.frames,ok.stk,ok.exf,ok.bs,ok.bsz,ok.noex,ok.exfs,ok.funs,ok.frf⟩
theorem Cx.Ok.unwish {X:Cx} {E:Value->Shared->Prop} (ok:(X.wish E).Ok):X.Ok:=
 ⟨ok.mod,ok.kind,ok.glob,ok.blt,ok.above,ok.inj,ok.has,ok.cab,ok.hd,ok.frames,ok.stk,ok.exf,ok.bs,ok.bsz,ok.noex,ok.exfs,ok.funs,ok.frf⟩
section
variable {X:Cx} {pins:List (Addr×Obj)} {σ:St} {H:Hp} {s:Shared} {E:Value->Shared->Prop}
theorem qp.wish (I:qp X pins σ H s) (E:Value->Shared->Prop):qp (X.wish E) pins σ H s:=⟨I.ok.wish E,I.os,I.bare,I.base,I.loc,I.cell,I.free,I.freeC,I.pin,I.hok,I.len⟩
theorem qp.unwish (I:qp (X.wish E) pins σ H s):qp X pins σ H s:=⟨I.ok.unwish,I.os,I.bare,I.base,I.loc,I.cell,I.free,I.freeC,I.pin,I.hok,I.len⟩
theorem SP.unwish {D:Qq} {f:Flow} {s':Shared} (h:SP (X.wish E) pins D f s'):SP X pins D f s':=by
 cases f with
 | next=>obtain⟨σ',H',I,q⟩:=h;exact⟨σ',H',I.unwish,q⟩
 | brk=>obtain⟨σ',H',I,q⟩:=h;exact⟨σ',H',I.unwish,q⟩
 | cont=>obtain⟨σ',H',I,q⟩:=h;exact⟨σ',H',I.unwish,q⟩
 | ret u=>obtain⟨v,σ',H',I,r,q⟩:=h;exact⟨v,σ',H',I.unwish,r,q⟩
theorem UA.nox {st:List Stmt} {t:TS} (h:UA X.nox st t):UA X st t:=λpins s σ H D I hw=>
 wpAny_mono (h pins s σ H D (I.wish _) hw) (λ_ _ q=>q.unwish) λ_ _ z=>False.elim z
end
section
variable {X:Cx} {st:Stmt} {rest:List Stmt} {t u:TS} {e:Expr} {te:TE} {pos:Pos}
def Xk:TS:=λD σ H=>D.nx σ H
def kB (t u:TS):TS:=λD σ H=>t {D with nx:=u D} σ H
theorem qz:zM X [] Xk:=.of (by
 exact λ_ _ σ H _ I h=>wpAny_execs_nil ⟨σ,H,I,h⟩)
theorem qe (h1:JS X st t) (h2:zM X rest u):zM X (st::rest) (kB t u):=.of (by
 have h1:=h1.to
 have h2:=h2.to
 intro pins s σ H D I h
 refine wpAny_execs_cons (qP (h1 pins s σ H {D with nx:=u D} I h) λf s1 q=>?_)
 cases f with
 | next=>
   obtain⟨σ',H',I',q⟩:=q
   exact h2 pins s1 σ' H' D I' q
 | ret v=>exact q
 | brk=>exact q
 | cont=>exact q)
theorem qk (h1:JS X st t):zM X [st] t:=.of (by
 have h1:=h1.to
 intro pins s σ H D I h
 refine wpAny_execs_cons (qP (h1 pins s σ H D I h) λf s1 q=>?_)
 cases f with
 | next=>exact wpAny_execs_nil q
 | ret v=>exact q
 | brk=>exact q
 | cont=>exact q)
theorem qp.quiet {pins:List (Addr×Obj)} {σ:St} {H:Hp} {s:Shared} (I:qp X pins σ H s):interactive X.env=false:=by simp [interactive,I.ok.kind]
def yQ (te:TE):TS:=λD σ H=>te σ H λ_ H1=>D.nx σ H1
theorem qX (he:JE X e te) (hs:swapsWith e none pos.line X.env=pure false:=by rfl):JS X (.Expr e pos) (yQ te):=.of (by
 have he:=he.to
 intro pins s σ H D I h
 exact wpAny_Expr_any (qP (he pins s σ H _ I h) λv s1 ⟨x,H1,I1,r1,q1⟩=>⟨σ,H1,I1,q1⟩) I.quiet hs)
def xV (te:TE):TS:=λD σ H=>te σ H D.rt
theorem qC (he:JE X e te):JS X (.Return (some e) pos) (xV te):=.of (by
 have he:=he.to
 intro pins s σ H D I h
 exact wpAny_Return_some (qP (he pins s σ H _ I h) λv s1 ⟨x,H1,I1,r1,q1⟩=>⟨x,σ,H1,I1,r1,q1⟩))
def UH (c:TT) (t u:TS):TS:=λD σ H=>c σ H λb H1=>if b=true then t D σ H1 else u D σ H1
theorem qQ {c:Expr} {a b:List Stmt} {tc:TT} (hc:JT X c tc) (ha:zM X a t) (hb:zM X b u):JS X (.If c a b pos) (UH tc t u):=.of (by
 have hc:=hc.to
 have ha:=ha.to
 have hb:=hb.to
 intro pins s σ H D I h
 refine wpAny_If (qP (hc pins s σ H _ I h) λd s1 ⟨H1,I1,q1⟩=>?_)
 cases d with
 | true=>exact ha pins s1 σ H1 D I1 q1
 | false=>exact hb pins s1 σ H1 D I1 q1)
def kC:TS:=λ_ _ _=>False
theorem jl {sts:List Stmt}:zM X sts kC:=.of (by
 exact λ_ _ _ _ _ _ h=>h.elim)
end
abbrev TG:=V->St->Hp->(St->Hp->Prop)->Prop
abbrev Uz:=List V->St->Hp->(St->Hp->Prop)->Prop
def PG (X:Cx) (target:Expr) (t:TG):Prop:=
 ∀(pins:List (Addr×Obj)) (s:Shared) (σ:St) (H:Hp) (v:V) (u:Value) (Q:St->Hp->Prop),qp X pins σ H s->qG v u->t v σ H Q->
   wpAny (model X.prog X.w) X.A (assign target X.env u) (λ_ s'=>∃σ' H',qp X pins σ' H' s'/\Q σ' H') X.xe s
@[irreducible] def JG (X:Cx) (target:Expr) (t:TG):Prop:=PG X target t
theorem JG.of {X:Cx} {target:Expr} {t:TG} (h:PG X target t):JG X target t:=by unfold JG;exact h
theorem JG.to {X:Cx} {target:Expr} {t:TG} (h:JG X target t):PG X target t:=by unfold JG at h;exact h
def wA (X:Cx) (ts:List Expr) (t:Uz):Prop:=
 ∀(pins:List (Addr×Obj)) (s:Shared) (σ:St) (H:Hp) (vs:List V) (us:List Value) (Q:St->Hp->Prop),qp X pins σ H s->qw vs us->t vs σ H Q->
   wpAny (model X.prog X.w) X.A (assignInOrder ((assignEach ts X.env).map (·.2)) us) (λ_ s'=>∃σ' H',qp X pins σ' H' s'/\Q σ' H') X.xe s
@[irreducible] def UC (X:Cx) (ts:List Expr) (t:Uz):Prop:=wA X ts t
theorem UC.of {X:Cx} {ts:List Expr} {t:Uz} (h:wA X ts t):UC X ts t:=by unfold UC;exact h
theorem UC.to {X:Cx} {ts:List Expr} {t:Uz} (h:UC X ts t):wA X ts t:=by unfold UC at h;exact h
section
variable {X:Cx} {pos:Pos}
def qT (i:Nat):TG:=λv σ H Q=>Q (σ.set i (some v)) H
theorem qm {i:Nat} {x:Str} (hN:X.N.Nodup) (hi:X.N[i]?=some x) (hx:yJ X.env.scope x) (hf:X.fn x=true\/X.env.scope.names.lookup x=some .local:=by first | exact .inl rfl | exact .inr rfl | assumption):JG X (.Name x pos) (qT i):=.of (by
 intro pins s σ H v u Q I r h
 exact wpAny_assign_Name (Zi I hN hi hx r (λs' I'=>⟨_,H,I',h⟩) hf))
def JD:Uz:=λvs σ H Q=>vs=[]/\Q σ H
def ji (t:TG) (u:Uz):Uz:=λvs σ H Q=>∃v r,vs=v::r/\t v σ H λσ' H'=>u r σ' H' Q
theorem jn:UC X [] JD:=.of (by
 intro pins s σ H vs us Q I r h
 obtain⟨e,h⟩:=h
 subst e
 cases r
 exact assignInOrder_nil ⟨σ,H,I,h⟩)
theorem qy {e:Expr} {es:List Expr} {t:TG} {u:Uz} (h1:JG X e t) (h2:UC X es u) (hs:(assignEach (e::es) X.env).map (·.2)=assign e X.env::(assignEach es X.env).map (·.2):=by rfl):UC X (e::es) (ji t u):=.of (by
 have h1:=h1.to
 have h2:=h2.to
 intro pins s σ H vs us Q I r h
 obtain⟨v,vr,e1,h⟩:=h
 subst e1
 cases r with
 | cons r rr=>
   rw[hs]
   refine assignInOrder_cons (qP (h1 pins s σ H _ _ _ I r h) λ_ s1 ⟨σ1,H1,I1,q1⟩=>?_)
   exact h2 pins s1 σ1 H1 _ _ Q I1 rr q1)
def JB (K:PySem.W.Frag) (n:Nat) (t:Uz):TG:=λv σ H Q=>∃a xs,v=.ref a/\SqT K H a xs/\xs.length=n/\t xs σ H Q
theorem jF {es:List Expr} {k:Nat} {t:Uz} {n:Nat} (hc:X.calm=true) (h:UC X es t) (hn:(assignEach es X.env).length=n:=by rfl) (hst:(assignEach es X.env).findIdx? (·.1)=none:=by rfl):JG X (.Tuple es k pos) (JB X.K n t):=.of (by
 have h:=h.to
 intro pins s σ H v u Q I r hw
 obtain⟨a,xs,e1,hq,hl,hw⟩:=hw
 subst e1
 cases r
 obtain⟨its,rv,ht,hz⟩:=I.tuple hq
 refine assign_Tuple_tuple (I.ok.hd hc) ht (by simp [hn,<-hl,rv.length]) hst λh' hx=>?_
 have I1:qp X pins σ H {s with heap:=h'}:=I.kept (t':=s.toks) λb o e=>hx b o (Nat.ne_of_lt (Heap.lt_size e)) e
 exact h pins _ σ H xs _ Q I1 (by simpa using rv) hw)
def UJ (te:TE) (g:TG):TS:=λD σ H=>te σ H λx H1=>g x σ H1 D.nx
theorem qB {i:Nat} {x:Str} {e:Expr} {te:TE} {pos':Pos} (hN:X.N.Nodup) (hi:X.N[i]?=some x) (hx:yJ X.env.scope x) (he:JE X e te) (hs:swapsWith e (some (.Name x pos')) pos.line X.env=pure false:=by rfl) (hf:X.fn x=true\/X.env.scope.names.lookup x=some .local:=by first | exact .inl rfl | exact .inr rfl | assumption):JS X (.Assign [.Name x pos'] e pos) (UJ te (qT i)):=.of (by
 have he:=he.to
 intro pins s σ H D I h
 refine wpAny_Assign_Name (qP (he pins s σ H _ I h) λv s1 ⟨y,H1,I1,r1,q1⟩=>?_) hs
 exact Zi I1 hN hi hx r1 (λs2 I2=>⟨_,H1,I2,q1⟩) hf)
end
section
variable {X:Cx} {pos:Pos}
end
structure It where
 go:Nat->Hp->Prop
 yld:Nat->Hp->V->Hp->Prop
 stop:Nat->Hp->Prop
def Qp (X:Cx) (pins:List (Addr×Obj)) (H:Hp) (b:Addr):Prop:=
 H b=none/\b≠X.env.locals/\b∉X.fs/\(b∈X.ex\/X.s₀.heap.objs.size<=b)/\(∀x c,X.env.cells.lookup x=some c->c≠b)/\∀p∈X.pn++pins,p.1≠b
theorem qp.fpOk {X:Cx} {pins:List (Addr×Obj)} {σ:St} {H H':Hp} {s:Shared} {b:Addr} (I:qp X pins σ H s) (hb:s.heap.objs.size<=b) (hn:H' b=none):Qp X pins H' b:=by
 refine⟨hn,Nat.ne_of_gt (Nat.lt_of_lt_of_le I.lt hb),I.nofs hb,.inr (Nat.le_trans I.sz hb),λx c e z=>?_,λp hp z=>?_⟩
 . obtain⟨v,q⟩:=I.cell x c e
   exact absurd (Nat.lt_of_lt_of_le q.lt (by rw[z];exact hb)) (Nat.lt_irrefl _)
 . exact absurd (Nat.lt_of_lt_of_le (Heap.lt_size (I.pin p hp).1) (by rw[z];exact hb)) (Nat.lt_irrefl _)
structure Yt (P:Program) (w:World) (K:PySem.W.Frag) (tg:Expr) (J:It) (fp:List Addr) (it:Addr) (tn:Nat->Heap->Prop):Prop where
 mem:it∈fp
 obj:∀i h,tn i h->∀b∈fp,∃o,h.get? b=some o/\∀v,o.data≠.cell v
 keep:∀i h h',tn i h->(∀b∈fp,∀o,h.get? b=some o->h'.get? b=some o)->tn i h'
 item:∀(X:Cx),X.prog=P->X.w=w->X.K=K->X.calm=true->∀(i:Nat) (pins:List (Addr×Obj)) (s:Shared) (σ:St) (H:Hp) (E:Value->Shared->Prop),qp X pins σ H s->(∀b∈fp,Qp X pins H b)->tn i s.heap->J.go i H->
   wpAny (model P w) X.A (pyNext (.ref it)) (λr s1=>∃u,r=some u/\
     wpAny (model P w) X.A (letOwnedTupleGo tg (.ref it) u) (λ_ s2=>∃x H',qp X pins σ H' s2/\qG x u/\J.yld i H x H'/\tn (i+1) s2.heap/\∀b∈fp,H' b=none) E s1) E s
 done:∀(X:Cx),X.prog=P->X.w=w->X.K=K->X.calm=true->∀(i:Nat) (pins:List (Addr×Obj)) (s:Shared) (σ:St) (H:Hp) (E:Value->Shared->Prop),qp X pins σ H s->(∀b∈fp,Qp X pins H b)->tn i s.heap->J.stop i H->
   wpAny (model P w) X.A (pyNext (.ref it)) (λr s1=>r=none/\qp X pins σ H s1) E s
 self:∀(A:Around) (i:Nat) (s:Shared) (Q:Value->Shared->Prop) (E:Value->Shared->Prop),tn i s.heap->Q (.ref it) s->wpAny (model P w) A (pyIter (.ref it)) Q E s
abbrev TI:=St->Hp->(It->Hp->Prop)->Prop
def PIE (X:Cx) (pins:List (Addr×Obj)) (σ:St) (tg:Expr) (R:It->Hp->Prop) (itv:Value) (s2:Shared):Prop:=
 ∃(it:Addr) (fp:List Addr) (tn:Nat->Heap->Prop) (J:It) (H':Hp),itv=.ref it/\qp X pins σ H' s2/\Yt X.prog X.w X.K tg J fp it tn/\tn 0 s2.heap/\(∀b∈fp,Qp X pins H' b)/\R J H'
def PI (X:Cx) (tg iter:Expr) (wi:TI):Prop:=
 ∀(pins:List (Addr×Obj)) (s:Shared) (σ:St) (H:Hp) (R:It->Hp->Prop),qp X pins σ H s->wi σ H R->
   wpAny (model X.prog X.w) X.A (eval iter X.env) (λv s1=>wpAny (model X.prog X.w) X.A (pyIter v) (PIE X pins σ tg R) X.xe s1) X.xe s
@[irreducible] def JI (X:Cx) (tg iter:Expr) (wi:TI):Prop:=PI X tg iter wi
theorem JI.of {X:Cx} {tg iter:Expr} {wi:TI} (h:PI X tg iter wi):JI X tg iter wi:=by unfold JI;exact h
theorem JI.to {X:Cx} {tg iter:Expr} {wi:TI} (h:JI X tg iter wi):PI X tg iter wi:=by unfold JI at h;exact h
theorem XH {M:Model} {A:Around} {E:Value->Shared->Prop} {s:Shared} {tg:Expr} {it:Addr} {u:Value} {o:Obj} {n:String} {vs:Array Value} {Q:Unit->Shared->Prop} (ho:s.heap.get? it=some o) (hc:o.cls=.type n) (hd:o.data=.fields vs)
   (hn:["enumerate","zip","dict_itemiterator","dict_reverseitemiterator","odict_iterator","itertools.zip_longest","itertools.pairwise"].contains n=false) (hQ:Q () s):wpAny M A (letOwnedTupleGo tg (.ref it) u) Q E s:=by
 unfold letOwnedTupleGo
 cases tg<;>first
   | exact wpAny_pure hQ
   | (cases u<;>first
       | exact wpAny_pure hQ
       | (refine wpAny_bind (wpAny_load ho ?_)
          rw[hc,hd]
          show wpAny M A (if (["enumerate","zip","dict_itemiterator","dict_reverseitemiterator","odict_iterator","itertools.zip_longest","itertools.pairwise"].contains n&&vs[0]?==some (rawInt _))=true then _ else _) Q E s
          rw[if_neg (by intro h;rw[hn,Bool.false_and]at h;cases h)]
          exact wpAny_pure hQ))
def kz (K:PySem.W.Frag) (a:Addr):It:=
 ⟨λi H=>∃xs x,SqL K H a xs/\xs[i]?=some x,λi H x H'=>H'=H/\∀xs,SqL K H a xs->xs[i]?=some x,λi H=>∃xs,SqL K H a xs/\xs.length<=i⟩
def yK (K:PySem.W.Frag) (a:Addr):It:=
 ⟨λi H=>∃xs x,SqT K H a xs/\xs[i]?=some x,λi H x H'=>H'=H/\∀xs,SqT K H a xs->xs[i]?=some x,λi H=>∃xs,SqT K H a xs/\xs.length<=i⟩
def yy (lo:Int) (n:Nat):It:=⟨λi _=>i < n,λi H x H'=>H'=H/\x=.int (lo+i),λi _=>n<=i⟩
theorem XW {P:Program} {w:World} {K:PySem.W.Frag} {tg:Expr} (a it:Addr):Yt P w K tg (kz K a) [it] it (λi h=>h.IsListIter it a i) where
 mem:=by simp
 obj:=λi h st b hb=>by
   have e:b=it:=by simpa using hb
   subst e
   obtain⟨o,e,c,d⟩:=st
   exact⟨o,e,λv z=>by rw[d]at z;cases z⟩
 keep:=λi h h' st k=>st.at λo e=>k it (by simp) o e
 item:=by
   intro X hP hw hK hc i pins s σ H E I hf st hg
   subst hP hw hK
   obtain⟨xs,x,hq,hx⟩:=hg
   obtain⟨its,rv,p,hz⟩:=I.list hq
   obtain⟨u,hu,ru⟩:=rv.get hx
   obtain⟨f0,f1,f2,f3,f4,f5⟩:=hf it (by simp)
   refine wpAny_pyNext_list_item st p.isList (x:=u) (by simpa using hu) λh' st' sb=>?_
   have I1:qp X pins σ H {s with heap:=h'}:=I.turned (t':=s.toks) (λb o hb e=>(sb.2 b hb).trans e) f0 f1 f3 f4 f5
   obtain⟨o,e,c,d⟩:=id st'
   exact⟨u,rfl,XH (s:={s with heap:=h'}) e c d (by decide) ⟨x,H,I1,ru,⟨rfl,λys hy=>by rw[I.list_inj hy hq];exact hx⟩,st',λb hb=>(hf b hb).1⟩⟩
 done:=by
   intro X hP hw hK hc i pins s σ H E I hf st hg
   subst hP hw hK
   obtain⟨xs,hq,hx⟩:=hg
   obtain⟨its,rv,p,hz⟩:=I.list hq
   obtain⟨f0,f1,f2,f3,f4,f5⟩:=hf it (by simp)
   have hl:=rv.length
   exact wpAny_pyNext_list_end (I.ok.hd hc) st p.isList (by simp;omega) λh' eb=>⟨rfl,I.turned (t':=s.toks) (λb o hb e=>eb b o hb e) f0 f1 f3 f4 f5⟩
 self:=λ_ _ _ _ _ st h=>wpAny_pyIter_listiter st h
theorem Yy {P:Program} {w:World} {K:PySem.W.Frag} {tg:Expr} (a it:Addr):Yt P w K tg (yK K a) [it] it (λi h=>h.IsTupleIter it a i) where
 mem:=by simp
 obj:=λi h st b hb=>by
   have e:b=it:=by simpa using hb
   subst e
   obtain⟨o,e,c,d⟩:=st
   exact⟨o,e,λv z=>by rw[d]at z;cases z⟩
 keep:=λi h h' st k=>st.at λo e=>k it (by simp) o e
 item:=by
   intro X hP hw hK hc i pins s σ H E I hf st hg
   subst hP hw hK
   obtain⟨xs,x,hq,hx⟩:=hg
   obtain⟨its,rv,p,hz⟩:=I.tuple hq
   obtain⟨u,hu,ru⟩:=rv.get hx
   obtain⟨f0,f1,f2,f3,f4,f5⟩:=hf it (by simp)
   refine wpAny_pyNext_tuple_item st (show s.heap.IsTuple a its.toArray from p) (x:=u) (by simpa using hu) λh' st' sb=>?_
   have I1:qp X pins σ H {s with heap:=h'}:=I.turned (t':=s.toks) (λb o hb e=>(sb.2 b hb).trans e) f0 f1 f3 f4 f5
   obtain⟨o,e,c,d⟩:=id st'
   exact⟨u,rfl,XH (s:={s with heap:=h'}) e c d (by decide) ⟨x,H,I1,ru,⟨rfl,λys hy=>by rw[I.tuple_inj hy hq];exact hx⟩,st',λb hb=>(hf b hb).1⟩⟩
 done:=by
   intro X hP hw hK hc i pins s σ H E I hf st hg
   subst hP hw hK
   obtain⟨xs,hq,hx⟩:=hg
   obtain⟨its,rv,p,hz⟩:=I.tuple hq
   obtain⟨f0,f1,f2,f3,f4,f5⟩:=hf it (by simp)
   have hl:=rv.length
   exact wpAny_pyNext_tuple_end (I.ok.hd hc) st (show s.heap.IsTuple a its.toArray from p) (by simp;omega) λh' eb=>⟨rfl,I.turned (t':=s.toks) (λb o hb e=>eb b o hb e) f0 f1 f3 f4 f5⟩
 self:=λ_ _ _ _ _ st h=>wpAny_pyIter_tupleiter st h
theorem Yz {P:Program} {w:World} {K:PySem.W.Frag} {tg:Expr} (it:Addr) (lo:Int) (n:Nat):Yt P w K tg (yy lo n) [it] it (λi h=>IsRangeIter h it (lo+(i:Nat)*1) ((n:Int) - (i:Nat)) 1) where
 mem:=by simp
 obj:=λi h st b hb=>by
   have e:b=it:=by simpa using hb
   subst e
   exact⟨_,st,λv z=>by
     have z':Data.fields _=Data.cell v:=z
     cases z'⟩
 keep:=λi h h' st k=>k it (by simp) _ st
 item:=by
   intro X hP hw hK hc i pins s σ H E I hf st hg
   subst hP hw hK
   obtain⟨f0,f1,f2,f3,f4,f5⟩:=hf it (by simp)
   have W:=Walks.range (prog:=X.prog) (w:=X.w) (I.ok.hd hc) it lo 1 n
   refine W.item i s _ _ hg st λv h' tk hv st' kk=>?_
   obtain⟨t,rfl⟩:=hv
   have I1:qp X pins σ H {s with heap:=h',toks:=tk}:=I.turned (λb o hb e=>kk b o (by simpa using hb) e) f0 f1 f3 f4 f5
   refine⟨_,rfl,XH (s:={s with heap:=h',toks:=tk}) (n:="range_iterator") st' rfl rfl (by decide) ⟨.int (lo+i),H,I1,⟨t,?_⟩,⟨rfl,rfl⟩,st',λb hb=>(hf b hb).1⟩⟩
   rw[Int.mul_one]
 done:=by
   intro X hP hw hK hc i pins s σ H E I hf st hg
   subst hP hw hK
   obtain⟨f0,f1,f2,f3,f4,f5⟩:=hf it (by simp)
   exact wpAny_pyNext_range_end (I.ok.hd hc) st (by have:n<=i:=hg;omega) λh' eb=>⟨rfl,I.turned (t':=s.toks) (λb o hb e=>eb b o hb e) f0 f1 f3 f4 f5⟩
 self:=λ_ _ _ _ _ st h=>wpAny_pyIter_rangeiter st h
end L2
namespace L2
open PySem PySem.Spec PyProof.Rows
section
variable {X:Cx} {tg:Expr}
def kq (K:PySem.W.Frag) (tl:TE):TI:=λσ H R=>tl σ H λx H1=>∃a,x=.ref a/\(∃xs,SqL K H1 a xs)/\R (kz K a) H1
def wv (K:PySem.W.Frag) (tl:TE):TI:=λσ H R=>tl σ H λx H1=>∃a,x=.ref a/\(∃xs,SqT K H1 a xs)/\R (yK K a) H1
theorem qA {l:Expr} {tl:TE} (hl:JE X l tl):JI X tg l (kq X.K tl):=.of (by
 have hl:=hl.to
 intro pins s σ H R I h
 refine qP (hl pins s σ H _ I h) λv s1 ⟨x,H1,I1,r1,q1⟩=>?_
 obtain⟨a,e,⟨xs,hq⟩,q⟩:=q1
 subst e
 cases r1
 obtain⟨its,rv,p,hz⟩:=I1.list hq
 refine wpAny_pyIter_list p.isList ?_
 refine⟨s1.heap.objs.size,[s1.heap.objs.size],_,_,H1,rfl,I1.kept (t':=s1.toks) λb o e=>Heap.get?_push_of_some _ e,XW a _,⟨_,Heap.get?_push_size _ rfl,rfl,rfl⟩,λb hb=>?_,q⟩
 have e:b=s1.heap.objs.size:=by simpa using hb
 subst e
 exact I1.fpOk (Nat.le_refl _) (I1.hok.fresh (Nat.le_refl _)))
theorem VY {l:Expr} {tl:TE} (hl:JE X l tl):JI X tg l (wv X.K tl):=.of (by
 have hl:=hl.to
 intro pins s σ H R I h
 refine qP (hl pins s σ H _ I h) λv s1 ⟨x,H1,I1,r1,q1⟩=>?_
 obtain⟨a,e,⟨xs,hq⟩,q⟩:=q1
 subst e
 cases r1
 obtain⟨its,rv,p,hz⟩:=I1.tuple hq
 refine wpAny_pyIter_tuple (show s1.heap.IsTuple a its.toArray from p) ?_
 refine⟨s1.heap.objs.size,[s1.heap.objs.size],_,_,H1,rfl,I1.kept (t':=s1.toks) λb o e=>Heap.get?_push_of_some _ e,Yy a _,⟨_,Heap.get?_push_size _ rfl,rfl,rfl⟩,λb hb=>?_,q⟩
 have e:b=s1.heap.objs.size:=by simpa using hb
 subst e
 exact I1.fpOk (Nat.le_refl _) (I1.hok.fresh (Nat.le_refl _)))
theorem Vq {pins:List (Addr×Obj)} {σ:St} {H:Hp} {s:Shared} {R:It->Hp->Prop} {E:Value->Shared->Prop} {lo hi:Int} {t u v:Tok} {tk:Nat} (I:qp X pins σ H s) (h1:-(2^62)<=lo) (h2:lo < 2^62) (h3:-(2^62)<=hi) (h4:hi < 2^62)
   (q:R (yy lo (hi - lo).toNat) H):wpAny (model X.prog X.w) X.A (pyIter (.ref s.heap.objs.size)) (PIE X pins σ tg R) E {s with heap:=s.heap.push {cls:=.type "range",data:=.fields #[.int lo t,.int hi u,.int 1 v]},toks:=tk}:=by
 refine wpAny_pyIter_range (IsRange.new ..) (small_one h1 h2 h3 h4) ?_
 have I1:qp X pins σ H {s with heap:=s.heap.push {cls:=.type "range",data:=.fields #[.int lo t,.int hi u,.int 1 v]},toks:=tk}:=I.kept λb o e=>Heap.get?_push_of_some _ e
 refine⟨(s.heap.push {cls:=.type "range",data:=.fields #[.int lo t,.int hi u,.int 1 v]}).objs.size,[(s.heap.push {cls:=.type "range",data:=.fields #[.int lo t,.int hi u,.int 1 v]}).objs.size],_,_,H,rfl,
   I1.kept (t':=tk) λb o e=>Heap.get?_push_of_some _ e,Yz _ lo (hi - lo).toNat,?_,λb hb=>?_,q⟩
 . have e1:lo+((0:Nat):Int)*1=lo:=by simp
   have e2:(((hi - lo).toNat:Nat):Int) - ((0:Nat):Int)=Builtin.Range.rangeSize lo hi 1:=by rw[rangeSize_one];split<;>omega
   show IsRangeIter _ _ (lo+((0:Nat):Int)*1) ((((hi - lo).toNat:Nat):Int) - ((0:Nat):Int)) 1
   rw[e1,e2]
   exact Heap.get?_push_size _ rfl
 . have e:b=(s.heap.push {cls:=.type "range",data:=.fields #[.int lo t,.int hi u,.int 1 v]}).objs.size:=by simpa using hb
   subst e
   exact I1.fpOk (Nat.le_refl _) (I1.hok.fresh (Nat.le_refl _))
def xw (ta:TA):TI:=λσ H R=>ta σ H λvs H1=>∃j:Int,vs=[.int j]/\-(2^62)<=j/\j < 2^62/\R (yy 0 j.toNat) H1
theorem j2 {a:Expr} {ta:TA} {p pos:Pos} (hg:Gl X "range") (hm:X.mg "range"=none) (ha:JA X [a] ta) (hs:starEach [a] X.env=[(false,eval a X.env)]:=by rfl):JI X tg (.Call (.Name "range" p) [a] [] pos) (xw ta):=.of (by
 have ha:=ha.to
 intro pins s σ H R I h
 refine Call_ (Qk I hg hm boot_range (PyProof.Rows.callWith_type1 (qP (ha pos pins s σ H _ I h) λus s1 ⟨vs,H1,I1,r1,q1⟩=>?_) hs rfl))
 obtain⟨j,e,q1,q2,q⟩:=q1
 subst e
 cases r1 with
 | cons r rr=>
   cases rr
   obtain⟨t,rfl⟩:=r
   exact call_range_1 (Vq I1 (by omega) (by omega) q1 q2 (by simpa using q)))
def xY (wi:TI) (g:TG) (tb:TS):TS:=λD σ H=>wi σ H λJ H1=>∃W:Nat->Nat->St->Hp->Prop,(∃m,W 0 m σ H1)/\∀i m σ H,W i m σ H->
 (J.stop i H/\D.nx σ H)\/(J.go i H/\∃N:St->Hp->Prop,(∀σ' H',N σ' H'->∃m',m' < m/\W (i+1) m' σ' H')/\∀x H',J.yld i H x H'->g x σ H' λσ2 H2=>tb {D with nx:=N,ct:=N,bk:=D.nx} σ2 H2)
def Js (fp:List Addr) (h:Heap):List (Addr×Obj):=fp.filterMap λb=>(h.get? b).map λo=>(b,o)
theorem jN {fp:List Addr} {h:Heap} {b:Addr} {o:Obj} (hb:b∈fp) (e:h.get? b=some o):(b,o)∈Js fp h:=List.mem_filterMap.mpr ⟨b,hb,by rw[e];rfl⟩
theorem Wp {fp:List Addr} {h:Heap} {p:Addr×Obj} (hp:p∈Js fp h):p.1∈fp/\h.get? p.1=some p.2:=by
 obtain⟨b,hb,e⟩:=List.mem_filterMap.mp hp
 cases q:h.get? b with
 | none=>rw[q]at e;cases e
 | some o=>
   rw[q]at e
   have e':(b,o)=p:=Option.some.inj e
   subst e'
   exact⟨hb,q⟩
theorem qp.pinned {pins:List (Addr×Obj)} {σ:St} {H:Hp} {s:Shared} {fp:List Addr} (I:qp X pins σ H s) (hf:∀b∈fp,Qp X pins H b) (ho:∀b∈fp,∃o,s.heap.get? b=some o/\∀v,o.data≠.cell v):qp X (pins++Js fp s.heap) σ H s:=
 I.pins_of λp hp=>(List.mem_append.mp hp).elim (λz=>I.pin p (List.mem_append_right _ z)) λz=>by
   obtain⟨hb,e⟩:=Wp z
   obtain⟨f0,f1,f2,_⟩:=hf p.1 hb
   obtain⟨o,e',d⟩:=ho p.1 hb
   rw[e]at e';cases e'
   exact⟨e,f0,f1,f2,d⟩
theorem qp.unpinned {pins pl:List (Addr×Obj)} {σ:St} {H:Hp} {s:Shared} (I:qp X (pins++pl) σ H s):qp X pins σ H s:=I.pins_of λp hp=>I.pin p (List.mem_append_right _ (List.mem_append_left _ hp))
theorem jt {iter:Expr} {body:List Stmt} {wi:TI} {g:TG} {tb:TS} {pos:Pos} (hp:PassesOwn (model X.prog X.w) X.A X.env X.xe) (hc:X.calm=true) (hi:JI X tg iter wi) (hg:JG X tg g) (hb:zM X body tb) (hs:∀x,foldedSetIterable iter X.env x=pure x:=by intro _;rfl):JS X (.For tg iter body [] pos) (xY wi g tb):=.of (by
 have hi:=hi.to
 have hg:=hg.to
 have hb:=hb.to
 intro pins s σ H D I h
 refine wpAny_For (qP (hi pins s σ H _ I h) λv s1 h1=>qP h1 λitv s2 h2=>?_) hs
 obtain⟨it,fp,tn,J,H2,e,I2,T,st2,f2,W,⟨m0,w0⟩,turn⟩:=h2
 subst e
 have stat:∀{H':Hp},(∀b∈fp,H' b=none)->∀b∈fp,Qp X pins H' b:=λhn b hb=>⟨hn b hb,(f2 b hb).2⟩
 refine codeAny_forLoop_any (λn s'=>∃i σ' H',qp X pins σ' H' s'/\tn i s'.heap/\(∀b∈fp,H' b=none)/\W i n σ' H') ?_ m0 ⟨0,σ,H2,I2,st2,λb hb=>(f2 b hb).1,w0⟩
 rintro n s3 ⟨i,σ3,H3,I3,st3,fr3,w3⟩
 rcases turn i n σ3 H3 w3 with ⟨stop,qn⟩ | ⟨go,N,hN,step⟩
 . refine wpAny_passesOwn hp (qP (T.done X rfl rfl rfl hc i pins s3 σ3 H3 X.xe I3 (stat fr3) st3 stop) λr s4 ⟨hr,I4⟩=>?_)
   subst hr
   exact wpAny_execs_nil ⟨σ3,H3,I4,qn⟩
 . refine wpAny_passesOwn hp (qP (T.item X rfl rfl rfl hc i pins s3 σ3 H3 X.xe I3 (stat fr3) st3 go) λr s4 ⟨u,hr,h4⟩=>?_)
   subst hr
   refine wpAny_passesOwn hp (qP h4 λ_ s5 ⟨x,H5,I5,r5,y5,st5,fr5⟩=>?_)
   have I5':=I5.pinned (stat fr5) (T.obj _ _ st5)
   refine wpAny_passesOwn hp (qP (hg _ s5 σ3 H5 x u _ I5' r5 (step x H5 y5)) λ_ s6 ⟨σ6,H6,I6,q6⟩=>?_)
   refine wpAny_passesOwn hp (qP (hb _ s6 σ6 H6 _ I6 q6) λf s7 q7=>?_)
   have again:∀{σ7:St} {H7:Hp},qp X (pins++Js fp s5.heap) σ7 H7 s7->N σ7 H7->∃m,m < n/\∃i σ' H',qp X pins σ' H' s7/\tn i s7.heap/\(∀b∈fp,H' b=none)/\W i m σ' H':=λ{σ7 H7} I7 n7=>by
     obtain⟨m',hm,w7⟩:=hN σ7 H7 n7
     refine⟨m',hm,i+1,σ7,H7,I7.unpinned,T.keep _ _ _ st5 λb hb o e=>(I7.pin (b,o) (List.mem_append_right _ (List.mem_append_right _ (jN hb e)))).1,λb hb=>?_,w7⟩
     obtain⟨o,e,d⟩:=T.obj _ _ st5 b hb
     exact(I7.pin (b,o) (List.mem_append_right _ (List.mem_append_right _ (jN hb e)))).2.1
   cases f with
   | next=>obtain⟨σ7,H7,I7,n7⟩:=q7;exact again I7 n7
   | cont=>obtain⟨σ7,H7,I7,n7⟩:=q7;exact again I7 n7
   | brk=>obtain⟨σ7,H7,I7,q7⟩:=q7;exact⟨σ7,H7,I7.unpinned,q7⟩
   | ret v=>obtain⟨x7,σ7,H7,I7,r7,q7⟩:=q7;exact⟨x7,σ7,H7,I7.unpinned,r7,q7⟩)
end
theorem jw {K:PySem.W.Frag} {a:Addr} {xs:List V} {g:TG} {tb:TS} {D:Qq} {σ:St} {H:Hp} (Pv:Nat->St->Hp->Prop) (h0:Pv 0 σ H) (hl:∀i σ H,i<=xs.length->Pv i σ H->SqL K H a xs)
   (hs:∀i x σ H,xs[i]?=some x->Pv i σ H->g x σ H λσ2 H2=>tb {D with nx:=Pv (i+1),ct:=Pv (i+1),bk:=D.nx} σ2 H2) (hd:∀σ H,Pv xs.length σ H->D.nx σ H):
   ∃W:Nat->Nat->St->Hp->Prop,(∃m,W 0 m σ H)/\∀i m σ H,W i m σ H->
    ((kz K a).stop i H/\D.nx σ H)\/((kz K a).go i H/\∃N:St->Hp->Prop,(∀σ' H',N σ' H'->∃m',m' < m/\W (i+1) m' σ' H')/\∀x H',(kz K a).yld i H x H'->g x σ H' λσ2 H2=>tb {D with nx:=N,ct:=N,bk:=D.nx} σ2 H2):=by
 refine⟨λi m σ H=>m=xs.length - i/\i<=xs.length/\Pv i σ H,⟨xs.length,by simp,Nat.zero_le _,h0⟩,?_⟩
 rintro i m σ H ⟨rfl,hi,p⟩
 have q:=hl i σ H hi p
 by_cases hlt:i < xs.length
 . refine .inr ⟨⟨xs,xs[i],q,by simp [hlt]⟩,Pv (i+1),λσ' H' p'=>⟨xs.length - (i+1),by omega,rfl,hlt,p'⟩,λx H' y=>?_⟩
   obtain⟨e,y⟩:=y
   subst e
   exact hs i x σ _ (y xs q) p
 . have e:i=xs.length:=by omega
   subst e
   exact .inl ⟨⟨xs,q,Nat.le_refl _⟩,hd σ H p⟩
theorem vI {K:PySem.W.Frag} {a:Addr} {xs:List V} {g:TG} {tb:TS} {D:Qq} {σ:St} {H:Hp} (Pv:Nat->St->Hp->Prop) (h0:Pv 0 σ H) (hl:∀i σ H,i<=xs.length->Pv i σ H->SqT K H a xs)
   (hs:∀i x σ H,xs[i]?=some x->Pv i σ H->g x σ H λσ2 H2=>tb {D with nx:=Pv (i+1),ct:=Pv (i+1),bk:=D.nx} σ2 H2) (hd:∀σ H,Pv xs.length σ H->D.nx σ H):
   ∃W:Nat->Nat->St->Hp->Prop,(∃m,W 0 m σ H)/\∀i m σ H,W i m σ H->
    ((yK K a).stop i H/\D.nx σ H)\/((yK K a).go i H/\∃N:St->Hp->Prop,(∀σ' H',N σ' H'->∃m',m' < m/\W (i+1) m' σ' H')/\∀x H',(yK K a).yld i H x H'->g x σ H' λσ2 H2=>tb {D with nx:=N,ct:=N,bk:=D.nx} σ2 H2):=by
 refine⟨λi m σ H=>m=xs.length - i/\i<=xs.length/\Pv i σ H,⟨xs.length,by simp,Nat.zero_le _,h0⟩,?_⟩
 rintro i m σ H ⟨rfl,hi,p⟩
 have q:=hl i σ H hi p
 by_cases hlt:i < xs.length
 . refine .inr ⟨⟨xs,xs[i],q,by simp [hlt]⟩,Pv (i+1),λσ' H' p'=>⟨xs.length - (i+1),by omega,rfl,hlt,p'⟩,λx H' y=>?_⟩
   obtain⟨e,y⟩:=y
   subst e
   exact hs i x σ _ (y xs q) p
 . have e:i=xs.length:=by omega
   subst e
   exact .inl ⟨⟨xs,q,Nat.le_refl _⟩,hd σ H p⟩
theorem QV {lo:Int} {n:Nat} {g:TG} {tb:TS} {D:Qq} {σ:St} {H:Hp} (Pv:Nat->St->Hp->Prop) (h0:Pv 0 σ H)
   (hs:∀i σ H,i < n->Pv i σ H->g (.int (lo+i)) σ H λσ2 H2=>tb {D with nx:=Pv (i+1),ct:=Pv (i+1),bk:=D.nx} σ2 H2) (hd:∀σ H,Pv n σ H->D.nx σ H):
   ∃W:Nat->Nat->St->Hp->Prop,(∃m,W 0 m σ H)/\∀i m σ H,W i m σ H->
    ((yy lo n).stop i H/\D.nx σ H)\/((yy lo n).go i H/\∃N:St->Hp->Prop,(∀σ' H',N σ' H'->∃m',m' < m/\W (i+1) m' σ' H')/\∀x H',(yy lo n).yld i H x H'->g x σ H' λσ2 H2=>tb {D with nx:=N,ct:=N,bk:=D.nx} σ2 H2):=by
 refine⟨λi m σ H=>m=n - i/\i<=n/\Pv i σ H,⟨n,by simp,Nat.zero_le _,h0⟩,?_⟩
 rintro i m σ H ⟨rfl,hi,p⟩
 by_cases hlt:i < n
 . refine .inr ⟨hlt,Pv (i+1),λσ' H' p'=>⟨n - (i+1),by omega,rfl,hlt,p'⟩,λx H' y=>?_⟩
   obtain⟨e,y⟩:=y
   subst e y
   exact hs i σ _ hlt p
 . have e:i=n:=by omega
   subst e
   exact .inl ⟨Nat.le_refl _,hd σ H p⟩
end L2
namespace L2
open PySem PySem.Spec PyProof.Rows
abbrev R2:=V->V->Hp->VK->Prop
def JZ (X:Cx) (f:Value->Value->Sem Value) (r:R2):Prop:=
 ∀(pins:List (Addr×Obj)) (s:Shared) (σ:St) (H:Hp) (x y:V) (v u:Value) (Q:VK),qp X pins σ H s->qG x v->qG y u->r x y H Q->
   wpAny (model X.prog X.w) X.A (f v u) (EP X pins σ Q) X.xe s
def jU (X:Cx) (f:Value) (r:List V->Hp->VK->Prop):Prop:=
 ∀(pins:List (Addr×Obj)) (s:Shared) (σ:St) (H:Hp) (xs:List V) (us:List Value) (Q:VK),qp X pins σ H s->qw xs us->r xs H Q->
   wpAny (model X.prog X.w) X.A (call f us) (EP X pins σ Q) X.xe s
def YE (r:R2) (ta tb:TE):TE:=λσ H Q=>ta σ H λx H1=>tb σ H1 λy H2=>r x y H2 Q
def rI (C:Int->Int->Prop) (g:Int->Int->V):R2:=λx y H Q=>∃i j,x=.int i/\y=.int j/\C i j/\Q (g i j) H
def kR (g:Int->Int->V):R2:=λx y H Q=>∃i j,x=.int i/\y=.int j/\Q (g i j) H
section
variable {X:Cx} {a b c:Expr} {ta tb tc:TE} {pos:Pos}
theorem yw (ha:PE X a ta) (hb:PE X b tb) {pins:List (Addr×Obj)} {s:Shared} {σ:St} {H:Hp} {R:V->V->Hp->Prop} (I:qp X pins σ H s)
   (h:ta σ H λx H1=>tb σ H1 λy H2=>R x y H2) {Q:Value->Shared->Prop} {f:Value->Value->Sem Value}
   (hf:∀v u s2 x y H2,qp X pins σ H2 s2->qG x v->qG y u->R x y H2->wpAny (model X.prog X.w) X.A (f v u) Q X.xe s2):
   wpAny (model X.prog X.w) X.A (eval a X.env) (λv s₁=>wpAny (model X.prog X.w) X.A (eval b X.env) (λu s₂=>wpAny (model X.prog X.w) X.A (f v u) Q X.xe s₂) X.xe s₁) X.xe s:=by
 refine qP (ha pins s σ H _ I h) λv s1 ⟨x,H1,I1,r1,q1⟩=>?_
 refine qP (hb pins s1 σ H1 _ I1 q1) λu s2 ⟨y,H2,I2,r2,q2⟩=>?_
 exact hf v u s2 x y H2 I2 r1 r2 q2
theorem qH {op:Operator} {r:R2} (ho:JZ X (binaryOp op) r) (ha:JE X a ta) (hb:JE X b tb):JE X (.BinOp a op b pos) (YE r ta tb):=.of (by
 have ha:=ha.to
 have hb:=hb.to
 intro pins s σ H Q I h
 exact wpAny_BinOp (yw ha hb I h λv u s2 x y H2 I2 rx ry q=>ho pins s2 σ H2 x y v u Q I2 rx ry q))
theorem xh {f:Value->Value->Sem Value} {C:Int->Int->Prop} {g:Int->Int->Int}
   (rule:∀(i j:Int) (t u:Tok) (s:Shared) (Q:Value->Shared->Prop) (E:Value->Shared->Prop),C i j->Q (.int (g i j) s.toks) {s with toks:=s.toks+1}->wpAny (model X.prog X.w) X.A (f (.int i t) (.int j u)) Q E s):
   JZ X f (rI C λi j=>.int (g i j)):=by
 intro pins s σ H x y v u Q I rx ry h
 obtain⟨i,j,rfl,rfl,hc,q⟩:=h
 obtain⟨t,rfl⟩:=rx
 obtain⟨t',rfl⟩:=ry
 exact rule i j t t' s _ _ hc ⟨.int (g i j),H,I.tok _,⟨_,rfl⟩,q⟩
theorem xg {f:Value->Value->Sem Value} {g:Int->Int->Int}
   (rule:∀(i j:Int) (t u:Tok) (s:Shared) (Q:Value->Shared->Prop) (E:Value->Shared->Prop),Q (.int (g i j) s.toks) {s with toks:=s.toks+1}->wpAny (model X.prog X.w) X.A (f (.int i t) (.int j u)) Q E s):
   JZ X f (kR λi j=>.int (g i j)):=by
 intro pins s σ H x y v u Q I rx ry h
 obtain⟨i,j,rfl,rfl,q⟩:=h
 obtain⟨t,rfl⟩:=rx
 obtain⟨t',rfl⟩:=ry
 exact rule i j t t' s _ _ ⟨.int (g i j),H,I.tok _,⟨_,rfl⟩,q⟩
theorem k4 {f:Value->Value->Sem Value} {g:Int->Int->Bool}
   (rule:∀(i j:Int) (t u:Tok) (s:Shared) (Q:Value->Shared->Prop) (E:Value->Shared->Prop),Q (.bool (g i j)) s->wpAny (model X.prog X.w) X.A (f (.int i t) (.int j u)) Q E s):
   JZ X f (kR λi j=>.bl (g i j)):=by
 intro pins s σ H x y v u Q I rx ry h
 obtain⟨i,j,rfl,rfl,q⟩:=h
 obtain⟨t,rfl⟩:=rx
 obtain⟨t',rfl⟩:=ry
 exact rule i j t t' s _ _ ⟨.bl (g i j),H,I,rfl,q⟩
def wI (i j:Int):Prop:=0 < j/\j < 1073741824
def wH (i j:Int):Prop:=0<=j/\j<=1000000/\i.natAbs < 2^64
def yC (i j:Int):Prop:=(-(2^64) < i/\i < 2^64)\/(-(2^64) < j/\j < 2^64)
theorem yC.ok {i j:Int} (h:yC i j):IntMulOk i j:=by
 rcases h with ⟨h1,h2⟩ | ⟨h1,h2⟩
 . exact .of_left (intBits_le_64 h1 h2)
 . exact .of_right (intBits_le_64 h1 h2)
theorem Qy:JZ X (binaryOp .Add) (kR λi j=>.int (i+j)):=xg λ_ _ _ _ _ _ _ q=>add_int q
theorem VB:JZ X (binaryOp .Sub) (kR λi j=>.int (i - j)):=xg λ_ _ _ _ _ _ _ q=>sub_int q
theorem Qv:JZ X (binaryOp .Mult) (rI yC λi j=>.int (i*j)):=xh λ_ _ _ _ _ _ _ hc q=>mul_int q hc.ok
theorem U8:JZ X (binaryOp .FloorDiv) (rI wI λi j=>.int (i / j)):=xh λi j _ _ _ _ _ hc q=>by
 have h1:(0:Int) < j:=hc.1
 have h2:j < 1073741824:=hc.2
 exact floordiv_int (by omega) (by rw[Int.fdiv_eq_ediv_of_nonneg i (by omega)];exact q) (.inl (PyProof.noPylong_small (by omega)))
theorem Qw:JZ X (binaryOp .Mod) (rI (λ_ j=>0 < j) λi j=>.int (i % j)):=xh λi j _ _ _ _ _ hc q=>by
 have h1:(0:Int) < j:=hc
 exact mod_int' (by omega) (by rw[Int.fmod_eq_emod_of_nonneg i (by omega)];exact q)
theorem kX:JZ X (binaryOp .Pow) (rI wH λi j=>.int (i^j.toNat)):=xh λ_ _ _ _ _ _ _ hc q=>pow_int_small hc.1 hc.2.1 hc.2.2 q
end
def yY:V->V->Bool
 | .non,.non=>true | .non,.int _=>true | .int _,.non=>true | .non,.bl _=>true | .bl _,.non=>true | .non,.str _=>true | .str _,.non=>true
 | .int _,.int _=>true | .bl _,.bl _=>true | .str _,.str _=>true | .byt _,.byt _=>true
 | .int _,.str _=>true | .str _,.int _=>true | .bl _,.str _=>true | .str _,.bl _=>true
 | _,_=>false
def rEq:R2:=λx y H Q=>yY x y=true/\Q (.bl (decide (x=y))) H
def rNe:R2:=λx y H Q=>yY x y=true/\Q (.bl (!decide (x=y))) H
theorem XN {i j:Int}:decide (V.int i=V.int j)=(i==j):=by
 rw[Bool.eq_iff_iff]
 simp
theorem Uq {i j:Bool}:decide (V.bl i=V.bl j)=(i==j):=by
 rw[Bool.eq_iff_iff]
 simp
theorem XM {i j:Str}:decide (V.str i=V.str j)=(i==j):=by
 rw[Bool.eq_iff_iff]
 simp
theorem XO {i j:Array UInt8}:decide (V.byt i=V.byt j)=(i.toList==j.toList):=by
 rw[Bool.eq_iff_iff]
 cases i
 cases j
 simp
section
variable {X:Cx} {a b c:Expr} {ta tb tc:TE} {pos:Pos}
theorem qI {pins:List (Addr×Obj)} {σ:St} {H:Hp} {s:Shared} {Q:VK} {k k':Bool} (I:qp X pins σ H s) (q:Q (.bl k) H) (e:k=k'):EP X pins σ Q (.bool k') s:=by
 subst e
 exact⟨.bl k,H,I,rfl,q⟩
theorem QF:JZ X (compareOp .Eq) rEq:=by
 intro pins s σ H x y v u Q I rx ry h
 obtain⟨hs,q⟩:=h
 cases x with
 | non=>
   cases rx
   cases y with
   | non=>cases ry;exact PySem.EqNone.eq_none_none (qI I q (by simp))
   | bl j=>cases ry;exact PySem.EqNone.eq_none_bool (qI I q (by simp))
   | int j=>obtain⟨t',rfl⟩:=ry;exact PySem.EqNone.eq_none_int (qI I q (by simp))
   | str j=>obtain⟨t',rfl⟩:=ry;exact PySem.EqNone.eq_none_str (qI I q (by simp))
   | _=>exact absurd (show false=true from hs) Bool.false_ne_true
 | bl i=>
   cases rx
   cases y with
   | non=>cases ry;exact PySem.EqNone.eq_bool_none (qI I q (by simp))
   | bl j=>cases ry;exact eq_bool (qI I q Uq)
   | str j=>obtain⟨t',rfl⟩:=ry;exact PySem.EqMixed.eq_bool_str (qI I q (by simp))
   | _=>exact absurd (show false=true from hs) Bool.false_ne_true
 | int i=>
   obtain⟨t,rfl⟩:=rx
   cases y with
   | non=>cases ry;exact PySem.EqNone.eq_int_none (qI I q (by simp))
   | int j=>obtain⟨t',rfl⟩:=ry;exact eq_int (qI I q XN)
   | str j=>obtain⟨t',rfl⟩:=ry;exact PySem.EqMixed.eq_int_str (qI I q (by simp))
   | _=>exact absurd (show false=true from hs) Bool.false_ne_true
 | str i=>
   obtain⟨t,rfl⟩:=rx
   cases y with
   | non=>cases ry;exact PySem.EqNone.eq_str_none (qI I q (by simp))
   | bl j=>cases ry;exact PySem.EqMixed.eq_str_bool (qI I q (by simp))
   | int j=>obtain⟨t',rfl⟩:=ry;exact PySem.EqMixed.eq_str_int (qI I q (by simp))
   | str j=>obtain⟨t',rfl⟩:=ry;exact eq_str (qI I q XM)
   | _=>exact absurd (show false=true from hs) Bool.false_ne_true
 | byt i=>
   obtain⟨t,rfl⟩:=rx
   cases y with
   | byt j=>obtain⟨t',rfl⟩:=ry;exact PySem.W.eq_bytes (qI I q XO)
   | _=>exact absurd (show false=true from hs) Bool.false_ne_true
 | _=>cases y<;>exact absurd (show false=true from hs) Bool.false_ne_true
theorem VC:JZ X (compareOp .NotEq) rNe:=by
 intro pins s σ H x y v u Q I rx ry h
 obtain⟨hs,q⟩:=h
 cases x with
 | non=>
   cases rx
   cases y with
   | non=>cases ry;exact PySem.EqNone.ne_none_none (qI I q (by simp))
   | bl j=>cases ry;exact PySem.EqNone.ne_none_bool (qI I q (by simp))
   | int j=>obtain⟨t',rfl⟩:=ry;exact PySem.EqNone.ne_none_int (qI I q (by simp))
   | str j=>obtain⟨t',rfl⟩:=ry;exact PySem.EqNone.ne_none_str (qI I q (by simp))
   | _=>exact absurd (show false=true from hs) Bool.false_ne_true
 | bl i=>
   cases rx
   cases y with
   | non=>cases ry;exact PySem.EqNone.ne_bool_none (qI I q (by simp))
   | bl j=>cases ry;exact ne_bool (qI I q (congrArg not Uq))
   | str j=>obtain⟨t',rfl⟩:=ry;exact PySem.EqMixed.ne_bool_str (qI I q (by simp))
   | _=>exact absurd (show false=true from hs) Bool.false_ne_true
 | int i=>
   obtain⟨t,rfl⟩:=rx
   cases y with
   | non=>cases ry;exact PySem.EqNone.ne_int_none (qI I q (by simp))
   | int j=>obtain⟨t',rfl⟩:=ry;exact ne_int (qI I q (congrArg not XN))
   | str j=>obtain⟨t',rfl⟩:=ry;exact PySem.EqMixed.ne_int_str (qI I q (by simp))
   | _=>exact absurd (show false=true from hs) Bool.false_ne_true
 | str i=>
   obtain⟨t,rfl⟩:=rx
   cases y with
   | non=>cases ry;exact PySem.EqNone.ne_str_none (qI I q (by simp))
   | bl j=>cases ry;exact PySem.EqMixed.ne_str_bool (qI I q (by simp))
   | int j=>obtain⟨t',rfl⟩:=ry;exact PySem.EqMixed.ne_str_int (qI I q (by simp))
   | str j=>obtain⟨t',rfl⟩:=ry;exact ne_str (qI I q (congrArg not XM))
   | _=>exact absurd (show false=true from hs) Bool.false_ne_true
 | byt i=>
   obtain⟨t,rfl⟩:=rx
   cases y with
   | byt j=>obtain⟨t',rfl⟩:=ry;exact PySem.W.ne_bytes (qI I q (congrArg not XO))
   | _=>exact absurd (show false=true from hs) Bool.false_ne_true
 | _=>cases y<;>exact absurd (show false=true from hs) Bool.false_ne_true
theorem jX:JZ X (compareOp .Lt) (kR λi j=>.bl (decide (i < j))):=k4 λ_ _ _ _ _ _ _ q=>lt_int q
theorem z5:JZ X (compareOp .Gt) (kR λi j=>.bl (decide (j < i))):=k4 λ_ _ _ _ _ _ _ q=>gt_int q
theorem VD:JZ X (compareOp .GtE) (kR λi j=>.bl (decide (j<=i))):=k4 λ_ _ _ _ _ _ _ q=>ge_int q
theorem Z3:JZ X (compareOp .In) (λx y H Q=>∃i j,x=.str i/\y=.str j/\Q (.bl (!(Builtin.Str.occurrences j i 0 j.length 1).isEmpty)) H):=by
 intro pins s σ H x y v u Q I rx ry h
 obtain⟨i,j,rfl,rfl,q⟩:=h
 obtain⟨t,rfl⟩:=rx
 obtain⟨t',rfl⟩:=ry
 exact in_str (qI I q rfl)
theorem qv (b:Expr) {op:CmpOp} (h:op≠.In:=by decide) (h2:op≠.NotIn:=by decide):behindInMarks op b=false:=by
 have e1:(op==CmpOp.In)=false:=by cases op<;>first | rfl | exact absurd rfl h
 have e2:(op==CmpOp.NotIn)=false:=by cases op<;>first | rfl | exact absurd rfl h2
 cases b<;>simp [behindInMarks,e1,e2]
theorem j0 {op:CmpOp} {r:R2} (ho:JZ X (compareOp op) r) (ha:JE X a ta) (hb:JE X b tb) (hm:behindInMarks op b=false):JE X (.Compare a [op] [b] pos) (YE r ta tb):=.of (by
 have ha:=ha.to
 have hb:=hb.to
 intro pins s σ H Q I h
 exact wpAny_Compare1 (yw ha hb I h λv u s2 x y H2 I2 rx ry q=>ho pins s2 σ H2 x y v u Q I2 rx ry q) hm)
def zR (t:TE):TT:=λσ H Q=>t σ H λx H'=>∃k,x=.bl k/\Q k H'
theorem qt {op:CmpOp} {r:R2} (ho:JZ X (compareOp op) r) (ha:JE X a ta) (hb:JE X b tb) (hm:behindInMarks op b=false):JT X (.Compare a [op] [b] pos) (zR (YE r ta tb)):=.of (by
 have ha:=ha.to
 have hb:=hb.to
 intro pins s σ H Q I h
 refine wpAny_isTrue_Compare1 (qP (ha pins s σ H _ I h) λv s1 ⟨x,H1,I1,r1,q1⟩=>qP (hb pins s1 σ H1 _ I1 q1) λu s2 ⟨y,H2,I2,r2,q2⟩=>
   qP (ho pins s2 σ H2 x y v u _ I2 r1 r2 q2) λc s3 ⟨z,H3,I3,r3,k,e,q3⟩=>?_) hm
 subst e
 cases r3
 exact wpAny_truthy_bool ⟨H3,I3,q3⟩)
theorem Zy:(sizeLine:Nat) < 2^63:=by rw[sizeLine_eq];decide
theorem Qx:JZ X (binaryOp .Add) (λx y H Q=>∃i j,x=.str i/\y=.str j/\i.length+j.length<=sizeLine/\Q (.str (i++j)) H):=by
 intro pins s σ H x y v u Q I rx ry h
 obtain⟨i,j,rfl,rfl,hz,q⟩:=h
 obtain⟨t,rfl⟩:=rx
 obtain⟨t',rfl⟩:=ry
 exact add_str (λt' tk=>⟨.str (i++j),H,I.tok _,⟨_,rfl⟩,q⟩) hz
theorem Qc {x:V} {us:List Value} (r:qw [x] us):∃u,us=[u]/\qG x u:=by
 cases r with
 | cons r1 r2=>cases r2;exact⟨_,rfl,r1⟩
theorem WW {x y:V} {us:List Value} (r:qw [x,y] us):∃u w',us=[u,w']/\qG x u/\qG y w':=by
 cases r with
 | cons r1 r2=>
   cases r2 with
   | cons r3 r4=>cases r4;exact⟨_,_,rfl,r1,r3⟩
theorem WN (hc:X.calm=true):jU X (.builtin "max") (λxs H Q=>∃i j,xs=[.int i,.int j]/\Q (.int (if j > i then j else i)) H):=by
 intro pins s σ H xs us Q I r h
 obtain⟨i,j,rfl,q⟩:=h
 obtain⟨u,w',rfl,⟨t,rfl⟩,⟨t',rfl⟩⟩:=WW r
 refine max_two_ints (I.ok.hd hc) λh' tk k=>⟨_,H,I.kept k,?_,q⟩
 by_cases hj:j > i
 . rw[if_pos hj,if_pos hj];exact⟨_,rfl⟩
 . rw[if_neg hj,if_neg hj];exact⟨_,rfl⟩
theorem zd:jU X (.type "int") (λxs H Q=>(∃i,xs=[.int i]/\Q (.int i) H)\/∃k,xs=[.bl k]/\Q (.int (if k then 1 else 0)) H):=by
 intro pins s σ H xs us Q I r h
 rcases h with ⟨i,rfl,q⟩ | ⟨k,rfl,q⟩
 . obtain⟨u,rfl,t,rfl⟩:=Qc r
   exact call_int_int ⟨.int i,H,I,⟨_,rfl⟩,q⟩
 . obtain⟨u,rfl,r1⟩:=Qc r
   cases r1
   exact call_int_bool ⟨.int (if k then 1 else 0),H,I.tok _,⟨_,rfl⟩,q⟩
end
end L2
namespace L2
open PySem PySem.Spec PyProof.Rows
structure Xd (h:Heap) (x dx C:Addr) (mA:Str->Option Value):Prop where
 obj:h.get? x=some (PySem.W.instObj C dx)
 ns:h.Ns1 dx mA
 ne:dx≠x
theorem Jx {h:Heap} {dx:Addr} {mA:Str->Option Value} (n:h.Ns1 dx mA):∃od,h.get? dx=some od/\∀name,PySem.W.lookIn name od=some (mA name):=by
 obtain⟨o,es,ep,ho,hd,hk,_,hm⟩:=n
 refine⟨o,ho,λname=>?_⟩
 have e:=hm name
 unfold nsFind findBy at e
 rw[<-Array.find?_toList]at e
 unfold PySem.W.lookIn
 rw[hd]
 dsimp only
 split
 . rename_i y q
   rw[q]at e
   exact congrArg some e
 . rename_i q
   rw[q]at e
   have a:es.toList.any (·.refKey)=false:=by
     rw[List.any_eq_false]
     intro y hy
     obtain⟨z,t,hkey⟩:=hk y (Array.mem_toList_iff.mp hy)
     simp [DictEntry.refKey,hkey]
   have a':¬es.toList.any (·.refKey)=true:=by rw[a];exact Bool.false_ne_true
   rw[if_neg a']
   exact congrArg some e
theorem Xd.look {h:Heap} {x dx C:Addr} {mA:Str->Option Value} (I:Xd h x dx C mA):∃od,PySem.W.InstAt h x (PySem.W.instObj C dx) C (some od)/\∀name,PySem.W.lookIn name od=some (mA name):=
 let ⟨od,ho,hl⟩:=Jx I.ns
 ⟨od,⟨I.obj,rfl,rfl,ho⟩,hl⟩
section
variable {prog:Program} {w:World} {A:Around} {E:Value->Shared->Prop} {s:Shared} {K:PySem.W.Frag} {x dx C f:Addr} {mA:Str->Option Value} {name:Str} {v:Value}
theorem vG {expr:Bool} {Q:Value->Shared->Prop} (X:K.In s.heap) (I:Xd s.heap x dx C mA) (hg:PySem.W.plainGet K C name=true) (hh:PySem.W.hasDictIn K C=true)
   (ha:PySem.W.findIn K (.ref C) name=some none) (hv:mA name=some v) (hv':PySem.W.handedIn v=true) (h:Q v {s with toks:=s.toks+1}):
   wpAny (model prog w) A (getAttr (.ref x) name expr) Q E s:=by
 obtain⟨od,J,hl⟩:=I.look
 exact PySem.W.get_value X J (PySem.W.plainGet_of hg).1 (PySem.W.findObj_own hh ha rfl (by rw[hl,hv])) hv' h
theorem Uj {pl:Sem Bool} {Q:Value×List Value->Shared->Prop} (X:K.In s.heap) (I:Xd s.heap x dx C mA) (hg:PySem.W.plainGet K C name=true)
   (hf:PySem.W.findIn K (.ref C) name=some (some (.ref f))) (ht:PySem.W.isFn K (.ref f)=true) (hv:mA name=none) (h:Q (.ref f,[.ref x]) s):
   wpAny (model prog w) A (getMethod (.ref x) name pl) Q E s:=by
 obtain⟨od,J,hl⟩:=I.look
 exact PySem.W.method_fn X J (PySem.W.plainGet_of hg).1 (PySem.W.plainGet_of hg).2 hf (beq_iff_eq.mp ht) (by show (PySem.W.lookIn name od).map (·.isSome)=some false;rw[hl,hv];rfl) h
theorem US {ns:List Str} {Q:Unit->Shared->Prop} (X:K.In s.heap) (I:Xd s.heap x dx C mA)
   (hs:PySem.W.findIn K (.ref C) "__setattr__"=some (some (.builtin "object.__setattr__"))) (hp:PySem.W.plainOver K C=true) (ht:PySem.W.takerIn K C name=some none) (hh:PySem.W.hasDictIn K C=true)
   (hw:PySem.Within mA ns) (hsz:ns.length<=sizeLine)
   (h:∀h',Xd h' x dx C (λy=>if y=name then some v else mA y)->Heap.SameBut dx s.heap h'->Q () {s with heap:=h',toks:=s.toks+2}):
   wpAny (model prog w) A (setAttr (.ref x) name v) Q E s:=by
 obtain⟨od,J,hl⟩:=I.look
 refine PySem.W.set_plain X J hs (PySem.W.osa_open (s:={s with toks:=s.toks+1}) (r:=none) X J hp ht λb=>?_)
 obtain⟨cd,hc,hd'⟩:=PySem.W.any_some hh
 have hx:s.heap.get? x=some ⟨.ref C,some dx,.plain,#[]⟩:=I.obj
 refine wpAny_bind (wpAny_pure (wpAny_bind (wpAny_bind (wpAny_loadPart hx (wpAny_bind (PySem.W.Looks.here (s:={s with toks:=s.toks+1}) (PySem.W.looks_clsIn X hc) ?_))))))
 rw[hd']
 refine wpAny_pure (a:=some dx) (wpAny_bind (wpAny_pure (wpAny_bind ?_)))
 refine wpAny_nsSet1 (s:={s with toks:=s.toks+1}) I.ns λh' hn2 hs2=>?_
 obtain⟨oD,esD,epD,hoD,hdD,hcD⟩:=hn2.count (PySem.Within.cons name v hw)
 refine wpAny_bind (wpAny_lookBehind hoD (by rw[hdD];exact pastItsLine_dict (Nat.le_trans hcD (by rw[List.length_cons];omega))) ?_)
 exact wpAny_pure (h _ ⟨(hs2.2 _ (Ne.symm I.ne)).trans I.obj,hn2,I.ne⟩ hs2)
theorem VR {R:Result->Shared->Prop} {vs:List Value} {kw:List (Str×Value)} (X:K.In s.heap) (hm:PySem.W.makesIn K C=true)
   (hi:PySem.W.findIn K (.ref C) "__init__"=some (some (.ref f))) (hf:PySem.W.typeIn K (.ref f)=some (.type "function"))
   (h:codeAny (model prog w) (A.under (.builtin "type.__call__" ⟨.ref C::vs,kw⟩)) (.call (.ref f) ⟨.ref (s.heap.objs.size+1)::vs,kw⟩) (PySem.W.InitBack (s.heap.objs.size+1) R)
     {s with heap:=(s.heap.push PySem.W.emptyDict).push (PySem.W.instObj C s.heap.objs.size)}):
   codeAny (model prog w) A (.call (.ref C) ⟨vs,kw⟩) R s:=by
 obtain⟨hh,g,d,t,os⟩:=s
 exact PySem.W.make_core (PySem.W.makes_of X hm) (PySem.W.looks_findIn X hi) (λself=>PySem.W.bind_fn X self hf) (.inl rfl) h
end
def Qu (f:Str) (v:V):List (Str×V)->List (Str×V)
 | []=>[(f,v)]
 | (g,x)::r=>if g=f then (g,v)::r else (g,x)::Qu f v r
theorem JN (f g:Str) (v:V):∀fs:List (Str×V),(Qu f v fs).lookup g=if g=f then some v else fs.lookup g
 | []=>by
   show List.lookup g [(f,v)]=_
   by_cases h:g=f
   . have hb:(g==f)=true:=beq_iff_eq.mpr h
     simp only[List.lookup,hb,if_pos h]
   . have hb:(g==f)=false:=beq_eq_false_iff_ne.mpr h
     simp only[List.lookup,hb,if_neg h]
 | (k,x)::r=>by
   have ih:=JN f g v r
   rw[show Qu f v ((k,x)::r)=(if k=f then (k,v)::r else (k,x)::Qu f v r) from rfl]
   by_cases hk:k=f
   . rw[if_pos hk]
     by_cases h:g=k
     . have hb:(g==k)=true:=beq_iff_eq.mpr h
       simp only[List.lookup,hb,if_pos (h.trans hk)]
     . have hb:(g==k)=false:=beq_eq_false_iff_ne.mpr h
       simp only[List.lookup,hb,if_neg (λe:g=f=>h (e.trans hk.symm))]
   . rw[if_neg hk]
     by_cases h:g=k
     . have hb:(g==k)=true:=beq_iff_eq.mpr h
       simp only[List.lookup,hb,if_neg (λe:g=f=>hk (h.symm.trans e))]
     . have hb:(g==k)=false:=beq_eq_false_iff_ne.mpr h
       simp only[List.lookup,hb]
       exact ih
theorem Jy (f:Str) (v:V):∀fs:List (Str×V),f∈(Qu f v fs).map (·.1)/\∀g,g∈fs.map (·.1)->g∈(Qu f v fs).map (·.1)
 | []=>⟨by simp [Qu],λg h=>by simp at h⟩
 | (k,x)::r=>by
   obtain⟨i1,i2⟩:=Jy f v r
   rw[show Qu f v ((k,x)::r)=(if k=f then (k,v)::r else (k,x)::Qu f v r) from rfl]
   by_cases hk:k=f
   . rw[if_pos hk]
     subst hk
     exact⟨by simp,λg h=>by simpa using h⟩
   . rw[if_neg hk]
     refine⟨?_,λg h=>?_⟩
     . rw[List.map_cons]
       exact List.mem_cons_of_mem _ i1
     . rw[List.map_cons]at h ⊢
       rcases List.mem_cons.mp h with e | e
       . exact List.mem_cons.mpr (.inl e)
       . exact List.mem_cons_of_mem _ (i2 g e)
theorem JP (f:Str) (v:V):∀fs:List (Str×V),(Qu f v fs).length<=fs.length+1
 | []=>by simp [Qu]
 | (k,x)::r=>by
   have ih:=JP f v r
   rw[show Qu f v ((k,x)::r)=(if k=f then (k,v)::r else (k,x)::Qu f v r) from rfl]
   by_cases hk:k=f
   . rw[if_pos hk,List.length_cons,List.length_cons];omega
   . rw[if_neg hk,List.length_cons,List.length_cons];omega
theorem QJ.some_of {v:V} {o:Option Value} (r:QJ (some v) o):∃u,o=some u/\qG v u:=by
 cases o with
 | none=>exact(show False from r).elim
 | some u=>exact⟨u,rfl,r⟩
theorem QJ.none_of {o:Option Value} (r:QJ none o):o=none:=by
 cases o with
 | none=>rfl
 | some u=>exact(show False from r).elim
theorem za {v:V} {u:Value} (r:qG v u):PySem.W.handedIn u=true:=by
 cases v with
 | non=>cases (show u=Value.none from r);rfl
 | bl b=>cases (show u=Value.bool b from r);rfl
 | int i=>obtain⟨t,e⟩:=(show ∃t,u=Value.int i t from r);cases e;rfl
 | str x=>obtain⟨t,e⟩:=(show ∃t,u=Value.str x t from r);cases e;rfl
 | byt b=>obtain⟨t,e⟩:=(show ∃t,u=Value.bytes b t from r);cases e;rfl
 | flt b=>obtain⟨t,e⟩:=(show ∃t,u=Value.float b t from r);cases e;rfl
 | ref a=>cases (show u=Value.ref a from r);rfl
 | ty n=>cases (show u=Value.type n from r);rfl
section
variable {P:Program} {w:World} {H H':Hp} {h h':Heap} {a C dx:Addr} {fs fs':List (Str×V)}
theorem Zc (hok:QK P w H h) (e:H a=some (.ins C dx fs)):∃mA,Xd h a dx C mA/\(∀f,QJ (fs.lookup f) (mA f))/\PySem.Within mA (fs.map (·.1))/\fs.length<=1000/\H dx=some (.own a):=by
 obtain⟨d,z,ne,ob,mA,n,r,q⟩:=(show qE P w H h a (.ins C dx fs) from hok a _ e)
 exact⟨mA,⟨ob,n,ne⟩,r,q,z,d⟩
end
structure Yw (K:PySem.W.Frag) (C:Addr):Prop where
 pg:PySem.W.plainGet K C Str.empty=true
 hd:PySem.W.hasDictIn K C=true
 po:PySem.W.plainOver K C=true
 sa:PySem.W.findIn K (.ref C) "__setattr__"=some (some (.builtin "object.__setattr__"))
theorem Yw.get {K:PySem.W.Frag} {C:Addr} (c:Yw K C) (f:Str):PySem.W.plainGet K C f=true:=c.pg
def jO (K:PySem.W.Frag) (C:Addr) (f:Str):Prop:=PySem.W.findIn K (.ref C) f=some none
theorem jO.taker {K:PySem.W.Frag} {C:Addr} {f:Str} (n:jO K C f):PySem.W.takerIn K C f=some none:=by
 unfold PySem.W.takerIn
 rw[show PySem.W.findIn K (.ref C) f=some none from n]
 rfl
structure Con (K:PySem.W.Frag) (C:Addr) (f:Str) (v:V) (u:Value):Prop where
 at_:PySem.W.findIn K (.ref C) f=some (some u)
 rel:qG v u
 get:PySem.W.specialIn K u "__get__"=some none
 cp:PySem.W.copiedNames.contains f=false
structure Yv (K:PySem.W.Frag) (C:Addr) (m:Str) (f:Addr):Prop where
 at_:PySem.W.findIn K (.ref C) m=some (some (.ref f))
 fn:PySem.W.isFn K (.ref f)=true
 kp:PySem.W.keepIn K (.ref f)=true
section
variable {X:Cx} {pins:List (Addr×Obj)} {σ:St} {H:Hp} {s:Shared} {a C dx:Addr} {fs:List (Str×V)} {f:Str} {v:V} {A:Around} {E:Value->Shared->Prop}
theorem Y1 {b:Bool} {Q:Value->Shared->Prop} (I:qp X pins σ H s) (e:H a=some (.ins C dx fs)) (c:Yw X.K C) (n:jO X.K C f) (l:fs.lookup f=some v)
   (h:∀u s',qp X pins σ H s'->qG v u->Q u s'):wpAny (model X.prog X.w) A (getAttr (.ref a) f b) Q E s:=by
 obtain⟨mA,O,r,_,_,_⟩:=Zc I.hok e
 obtain⟨u,hu,ru⟩:=QJ.some_of (v:=v) (o:=mA f) (by rw[<-l];exact r f)
 exact vG I.kIn O (c.get f) c.hd n hu (za ru) (h u _ (I.tok _) ru)
theorem Q4 {m:Str} {g:Addr} {pl:Sem Bool} {Q:Value×List Value->Shared->Prop} (I:qp X pins σ H s) (e:H a=some (.ins C dx fs)) (c:Yw X.K C) (k:Yv X.K C m g) (l:fs.lookup m=none)
   (h:Q (.ref g,[.ref a]) s):wpAny (model X.prog X.w) A (getMethod (.ref a) m pl) Q E s:=by
 obtain⟨mA,O,r,_,_,_⟩:=Zc I.hok e
 have hn:mA m=none:=QJ.none_of (by rw[<-l];exact r m)
 exact Uj I.kIn O (c.get m) k.at_ k.fn hn h
theorem YL {y:V} {u:Value} {Q:Unit->Shared->Prop} (I:qp X pins σ H s) (e:H a=some (.ins C dx fs)) (c:Yw X.K C) (n:jO X.K C f) (hl:fs.length < 1000) (ry:qG y u)
   (h:∀s',qp X pins σ (upd H a (.ins C dx (Qu f y fs))) s'->Q () s'):wpAny (model X.prog X.w) A (setAttr (.ref a) f u) Q E s:=by
 obtain⟨mA,O,r,wi,_,ho⟩:=Zc I.hok e
 have hz:(fs.map (·.1)).length<=sizeLine:=by rw[List.length_map,sizeLine_eq];omega
 refine US I.kIn O c.sa c.po n.taker c.hd wi hz λh' O' sb=>h _ ?_
 have hd:∃o,h'.get? dx=some o:=let ⟨o,_,_,e',_⟩:=O'.ns;⟨o,e'⟩
 refine I.write (x:=a) (e:=dx) (by rw[e];exact True.intro) (.inr ho) (λb q hb z=>(sb.2 b hb).trans z) hd ?_
 refine⟨by rw[qg O.ne];exact ho,?_,O.ne,O'.obj,_,O'.ns,λg=>?_,λg hg=>?_⟩
 . have:=JP f y fs;omega
 . show QJ ((Qu f y fs).lookup g) (if g=f then some u else mA g)
   rw[JN]
   by_cases q:g=f
   . rw[if_pos q,if_pos q];exact ry
   . rw[if_neg q,if_neg q];exact r g
 . by_cases q:g=f
   . rw[q];exact(Jy f y fs).1
   . refine(Jy f y fs).2 g (wi g λz=>hg ?_)
     show (if g=f then some u else mA g)=none
     rw[if_neg q];exact z
theorem qp.made (I:qp X pins σ H s):qp X pins σ (upd (upd H s.heap.objs.size (.own (s.heap.objs.size+1))) (s.heap.objs.size+1) (.ins C s.heap.objs.size []))
   {s with heap:=(s.heap.push PySem.W.emptyDict).push (PySem.W.instObj C s.heap.objs.size)}:=by
 have e1:(s.heap.push PySem.W.emptyDict).get? s.heap.objs.size=some PySem.W.emptyDict:=Heap.get?_push_size s.heap rfl
 have e2:((s.heap.push PySem.W.emptyDict).push (PySem.W.instObj C s.heap.objs.size)).get? (s.heap.objs.size+1)=some (PySem.W.instObj C s.heap.objs.size):=by
   have:=Heap.get?_push_size (s.heap.push PySem.W.emptyDict) (o:=PySem.W.instObj C s.heap.objs.size) rfl
   rwa [Heap.size_push]at this
 have e3:(s.heap.push PySem.W.emptyDict).Ns s.heap.objs.size (λ_=>none):=⟨PySem.W.emptyDict,#[],_,e1,rfl,(λe he=>absurd he (by simp)),λ_=>rfl⟩
 have I1:=I.laid (a:=s.heap.objs.size) (o:=.own (s.heap.objs.size+1)) (h':=s.heap.push PySem.W.emptyDict) (t':=s.toks) (λb u q=>Heap.get?_push_of_some _ q) (Nat.le_refl _) ⟨_,e1⟩
 refine I1.laid (a:=s.heap.objs.size+1) (o:=.ins C s.heap.objs.size []) (t':=s.toks) (λb u q=>Heap.get?_push_of_some _ q) (Nat.le_of_eq (Heap.size_push _ _)) ?_
 have ne:s.heap.objs.size≠s.heap.objs.size+1:=Nat.ne_of_lt (Nat.lt_succ_self _)
 refine⟨by rw[qg ne,qd],Nat.zero_le _,ne,e2,λ_=>none,(Heap.Ns1.of_empty e3).at λo q=>Heap.get?_push_of_some _ q,λ_=>True.intro,λy hy=>absurd rfl hy⟩
theorem XS {prog:Program} {w:World} {env:Env} {e:Expr} {f:Str} {pos:Pos} {s:Shared} {Q:Value->Shared->Prop} (hb:attributeBase e f env (eval e env)=eval e env)
   (h:wpAny (model prog w) A (eval e env) (λo s₁=>wpAny (model prog w) A (getAttr o f true) Q E s₁) E s):wpAny (model prog w) A (eval (.Attribute e f pos) env) Q E s:=
 Attribute_any_ h (by rw[arm_eval_Attribute,hb])
end
def yP (K:PySem.W.Frag) (ta:TE) (f:Str):TE:=λσ H Q=>ta σ H λx H1=>∃a C dx fs v,x=.ref a/\H1 a=some (.ins C dx fs)/\Yw K C/\jO K C f/\fs.lookup f=some v/\Q v H1
def x6 (K:PySem.W.Frag) (ta tv:TE) (f:Str):TS:=λD σ H=>tv σ H λy H1=>ta σ H1 λx H2=>∃a C dx fs,x=.ref a/\H2 a=some (.ins C dx fs)/\Yw K C/\jO K C f/\fs.length < 1000/\
 D.nx σ (upd H2 a (.ins C dx (Qu f y fs)))
section
variable {X:Cx} {o e value:Expr} {f:Str} {pos pos' tpos:Pos} {ta tv:TE}
theorem QQ (he:JE X e ta) (hb:attributeBase e f X.env (eval e X.env)=eval e X.env):JE X (.Attribute e f pos) (yP X.K ta f):=.of (by
 have he:=he.to
 intro pins s σ H Q I h
 refine XS hb (qP (he pins s σ H _ I h) λu s1 ⟨x,H1,I1,rx,a,C,dx,fs,v,ex,ea,c,n,l,q⟩=>?_)
 subst ex
 obtain rfl:u=Value.ref a:=rx
 exact Y1 I1 ea c n l λu' s2 I2 ru=>⟨v,H1,I2,ru,q⟩)
theorem VX (ha:JE X o ta) (hv:JE X value tv) (hs:swapsWith value (some (.Attribute o f pos')) pos.line X.env=pure false):JS X (.Assign [.Attribute o f pos'] value pos) (x6 X.K ta tv f):=.of (by
 have ha:=ha.to
 have hv:=hv.to
 intro pins s σ H D I h
 refine plainObj_wpAny_Assign_Attribute (qP (hv pins s σ H _ I h) λu s1 ⟨y,H1,I1,ry,q⟩=>qP (ha pins s1 σ H1 _ I1 q) λov s2 ⟨x,H2,I2,rx,a,C,dx,fs,ex,ea,c,n,l,q2⟩=>?_) hs
 subst ex
 obtain rfl:ov=Value.ref a:=rx
 exact YL I2 ea c n l ry λs3 I3=>⟨σ,_,I3,q2⟩)
end
section
variable {X:Cx} {pins:List (Addr×Obj)} {σ:St} {H:Hp} {s:Shared} {A:Around} {E:Value->Shared->Prop} {Q:Value->Shared->Prop} {c:Value} {b:Bool}
inductive TyOf (K:PySem.W.Frag) (H:Hp):V->Value->Prop where
 | non:TyOf K H .non (.type "NoneType")
 | bl (x:Bool):TyOf K H (.bl x) (.type "bool")
 | int (i:Int):TyOf K H (.int i) (.type "int")
 | str (x:Str):TyOf K H (.str x) (.type "str")
 | flt (x:UInt64):TyOf K H (.flt x) (.type "float")
 | lst {a:Addr} {xs:List V} (e:H a=some (.lst xs)):TyOf K H (.ref a) (.type "list")
 | frz {a:Addr} {o:Obj} {xs:List V} (e:H a=some (.frz o (.lst xs))):TyOf K H (.ref a) (.type "list")
 | tup {a:Addr} {xs:List V} (e:H a=some (.tup xs)):TyOf K H (.ref a) (.type "tuple")
 | dK {a:Addr} {kvs:List (qO×V)} (e:H a=some (.dK kvs)):TyOf K H (.ref a) (.type "dict")
 | dT {a:Addr} {kvs:List (List qO×V)} (e:H a=some (.dT kvs)):TyOf K H (.ref a) (.type "dict")
 | ins {a C dx:Addr} {fs:List (Str×V)} (e:H a=some (.ins C dx fs)) (cl:Yw K C) (ha:PySem.W.findIn K (.ref C) "__class__"=some (some (.builtin "object.__class__")))
     (hn:PySem.W.specialIn K (.builtin "object.__class__") "__get__"=some (some (.builtin "getset_descriptor.__get__"))) (htk:PySem.W.takesIn K (.builtin "object.__class__")=some true)
     (hm:PySem.W.mroIn K C (.type "object")=some true):TyOf K H (.ref a) (.ref C)
theorem Wy {x:V} {u t:Value} (I:qp X pins σ H s) (rx:qG x u) (ty:TyOf X.K H x t) (e:PySem.W.kitOne X.K t c=some b) (h:∀tk,Q (.bool b) {s with toks:=tk}):
   wpAny (model X.prog X.w) A (call (.builtin "isinstance") [u,c]) Q E s:=by
 cases ty with
 | non=>cases (show u=Value.none from rx);exact PySem.W.kia_one PySem.W.kitx_none I.kIn True.intro e (λz=>nomatch z) h
 | bl y=>cases (show u=Value.bool y from rx);exact PySem.W.kia_one PySem.W.kitx_bool I.kIn True.intro e (λz=>nomatch z) h
 | int i=>obtain⟨t,q⟩:=(show ∃t,u=Value.int i t from rx);cases q;exact PySem.W.kia_one PySem.W.kitx_int I.kIn True.intro e (λz=>nomatch z) h
 | str y=>obtain⟨t,q⟩:=(show ∃t,u=Value.str y t from rx);cases q;exact PySem.W.kia_one PySem.W.kitx_str I.kIn True.intro e (λz=>nomatch z) h
 | flt y=>obtain⟨t,q⟩:=(show ∃t,u=Value.float y t from rx);cases q;exact PySem.W.kia_one PySem.W.kitx_float I.kIn True.intro e (λz=>nomatch z) h
 | @lst a xs ea=>
   cases (show u=Value.ref a from rx)
   obtain⟨_,_,n,_,h1⟩:=(show qE X.prog X.w H s.heap a (.lst xs) from I.hok a _ ea)
   exact PySem.W.kia_one PySem.W.kitx_list I.kIn ⟨_,h1,rfl⟩ e (λz=>nomatch z) h
 | @frz a ob xs ea=>
   cases (show u=Value.ref a from rx)
   obtain⟨_,_,_,n,_,h1⟩:=(show qE X.prog X.w H s.heap a (.frz ob (.lst xs)) from I.hok a _ ea)
   exact PySem.W.kia_one PySem.W.kitx_list I.kIn ⟨_,h1,rfl⟩ e (λz=>nomatch z) h
 | @tup a xs ea=>
   cases (show u=Value.ref a from rx)
   obtain⟨_,_,_,p⟩:=(show qE X.prog X.w H s.heap a (.tup xs) from I.hok a _ ea)
   obtain⟨o,h1,h2,_⟩:=p
   exact PySem.W.kia_one PySem.W.kitx_tuple I.kIn ⟨o,h1,h2⟩ e (λz=>nomatch z) h
 | @dK a kvs ea=>
   cases (show u=Value.ref a from rx)
   obtain⟨_,_,vs,_,p⟩:=(show qE X.prog X.w H s.heap a (.dK kvs) from I.hok a _ ea)
   obtain⟨o,es,ep,h1,h2,_⟩:=p
   exact PySem.W.kia_one PySem.W.kitx_dict I.kIn ⟨o,h1,h2.1⟩ e (λz=>nomatch z) h
 | @dT a kvs ea=>
   cases (show u=Value.ref a from rx)
   obtain⟨_,_,xs,_,o,es,ep,h1,h2,_⟩:=(show qE X.prog X.w H s.heap a (.dT kvs) from I.hok a _ ea)
   exact PySem.W.kia_one PySem.W.kitx_dict I.kIn ⟨o,h1,h2.1⟩ e (λz=>nomatch z) h
 | @ins a C dx fs ea cl ha hn htk hm=>
   cases (show u=Value.ref a from rx)
   obtain⟨mA,O,_⟩:=Zc I.hok ea
   obtain⟨od,J,_⟩:=O.look
   exact PySem.W.kia_one (PySem.W.kitx_own (cl.get _) cl.hd ha hn htk hm) I.kIn J e (λz=>nomatch z) h
end
end L2
namespace L2
open PySem PySem.Spec PyProof.Rows
structure qU (k:Nat) (A:Around):Prop where
 hd:A.handled=none
 dp:A.depth+3*k+5 < recursionLimit
 un:A.units+16*k+200 < cLine
 gd:A.guards=some []
theorem qU.mono {j k:Nat} {A:Around} (r:qU k A) (h:j<=k):qU j A:=⟨r.hd,by have:=r.dp;omega,by have:=r.un;omega,r.gd⟩
theorem qU.deeper {k:Nat} {A:Around} (r:qU (k+1) A) (env:Env):qU k (A.deeper env):=
 ⟨r.hd,by have:=r.dp;show A.depth+1+3*k+5 < _;omega,by have:=r.un;show A.units+3+16*k+200 < _;omega,r.gd⟩
theorem YX {A:Around} {C:Addr} {us:List Value} {kw:List (Str×Value)}:(A.under (.builtin "type.__call__" ⟨.ref C::us,kw⟩)).depth=A.depth+1:=by
 first | rfl | simp [Around.under,Code.weight,Code.isCreation,Code.isGuard,Code.isCaller,Code.frames,Code.isFrame,guardIds]
theorem YW {A:Around} {C:Addr} {us:List Value} {kw:List (Str×Value)}:(A.under (.builtin "type.__call__" ⟨.ref C::us,kw⟩)).units=A.units+1:=by
 first | rfl | simp [Around.under,Code.cUnits,Code.frames,Code.isFrame]
theorem qU.make {k:Nat} {A:Around} (r:qU (k+1) A) (C:Addr) (us:List Value) (kw:List (Str×Value)):qU k (A.under (.builtin "type.__call__" ⟨.ref C::us,kw⟩)):=
 ⟨r.hd,by have:=r.dp;rw[YX];omega,by have:=r.un;rw[YW];omega,(by have:=r.gd;first | exact this | simpa [Around.under,Code.isGuard,guardIds] using this)⟩
theorem qU.depth {k:Nat} {A:Around} (r:qU k A):A.depth < recursionLimit:=by have:=r.dp;omega
theorem qU.units {k:Nat} {A:Around} (r:qU k A):A.units+64 < cLine:=by have:=r.un;omega
def j4:TA:=λ_ H Q=>Q [] H
def qS (ta:TE) (tr:TA):TA:=λσ H Q=>ta σ H λx H1=>tr σ H1 λxs H2=>Q (x::xs) H2
section
variable {X:Cx} {e:Expr} {es:List Expr} {te:TE} {t:TA} {pos:Pos}
theorem qf:JA X [] j4:=.of (by
 exact λ_ _ _ _ H Q I h=>Calls.spliced_nil ⟨[],H,I,.nil,h⟩)
theorem qb (ha:JE X e te) (hr:JA X es t) (hs:starEach (e::es) X.env=(false,eval e X.env)::starEach es X.env:=by rfl):JA X (e::es) (qS te t):=.of (by
 have ha:=ha.to
 have hr:=hr.to
 intro pos pins s σ H Q I h
 rw[hs]
 show wpAny _ _ (spliced ((false,eval e X.env)::backTo pos (starEach es X.env))) _ _ s
 refine Calls.spliced_cons (qP (ha pins s σ H _ I h) λu s1 ⟨x,H1,I1,r1,q1⟩=>?_)
 exact qP (hr pos pins s1 σ H1 _ I1 q1) λus s2 ⟨xs,H2,I2,r2,q2⟩=>⟨x::xs,H2,I2,.cons r1 r2,q2⟩)
def YC (t:TA):TE:=λσ H Q=>t σ H λxs H1=>xs.length<=sizeLine/\∀p,H1 p=none->Q (.ref p) (upd H1 p (.tup xs))
def yO (t:TA):TE:=λσ H Q=>t σ H λxs H1=>xs.length<=sizeLine/\∀p,H1 p=none->Q (.ref p) (upd H1 p (.lst xs))
theorem jG {x1} (h:JA X es t):JE X (.Tuple es x1 pos) (YC t):=.of (by
 have h:=h.to
 intro pins s σ H Q I hq
 refine wpAny_Tuple_spliced (qP (h pos pins s σ H _ I hq) λus s1 ⟨xs,H1,I1,r,z,q⟩=>⟨by rw[<-r.length];exact z,?_⟩)
 have hf:H1 s1.heap.objs.size=none:=I1.hok.fresh (Nat.le_refl _)
 refine⟨.ref s1.heap.objs.size,upd H1 s1.heap.objs.size (.tup xs),I1.laid (t':=s1.toks) (λb u e=>Heap.get?_push_of_some _ e) (Nat.le_refl _) ?_,rfl,q _ hf⟩
 exact⟨z,us,r,⟨_,Heap.get?_push_size _ rfl,rfl,_,rfl⟩⟩)
theorem jH (h:JA X es t):JE X (.List es pos) (yO t):=.of (by
 have h:=h.to
 intro pins s σ H Q I hq
 refine wpAny_List_spliced (qP (h pos pins s σ H _ I hq) λus s1 ⟨xs,H1,I1,r,z,q⟩=>⟨by rw[<-r.length];exact z,?_⟩)
 have hf:H1 s1.heap.objs.size=none:=I1.hok.fresh (Nat.le_refl _)
 refine⟨.ref s1.heap.objs.size,upd H1 s1.heap.objs.size (.lst xs),I1.laid (t':=s1.toks) (λb u e=>Heap.get?_push_of_some _ e) (Nat.le_refl _) ?_,rfl,q _ hf⟩
 exact⟨z,us,0,r,Heap.get?_push_size _ rfl⟩)
end
abbrev Sp:=List V->Hp->VK->XK->Prop
abbrev zK:=List Env->Hp->Shared->XK->Value->Shared->Prop
structure Xe (P:Program) (w:World) (K:PySem.W.Frag) (mg:Str->Option Value) (base:Heap) (A:Around) (outer:List Env) (s:Shared) (H:Hp):Prop where
 frames:A.frames=some outer
 mod:Mod K mg base
 bs:∀b o,base.get? b=some o->s.heap.get? b=some o/\H b=none
 bsz:base.objs.size<=s.heap.objs.size
 funs:s.heap.FunFrames base outer
 frf:∀b∈ZG outer,H b=none
 hok:QK P w H s.heap
 bare:AllBare s.gens
def CE (outer:List Env) (P:Program) (w:World) (H:Hp) (s:Shared) (Q:VK) (u:Value) (s':Shared):Prop:=
 ∃v H',s'.os=s.os/\AllBare s'.gens/\Un (ZG outer) [] H H' s.heap s'.heap/\QK P w H' s'.heap/\qG v u/\Q v H'
def CR (CX:zK) (outer:List Env) (P:Program) (w:World) (H:Hp) (s:Shared) (Q:VK) (E:XK) (r:Result) (s':Shared):Prop:=
 match r with
 | .ok (.ret u)=>CE outer P w H s Q u s'
 | .ok _=>False
 | .error e=>CX outer H s E e s'
structure FnOk (P:Program) (w:World) (K:PySem.W.Frag) (mg:Str->Option Value) (base:Heap) (CX:zK) (k:Nat) (f:Addr) (fd:FuncData) (ps:List Str) (sp:Sp):Prop where
 len:∀vs H Q E,sp vs H Q E->vs.length=ps.length
 run:∀(A:Around) (outer:List Env) (s:Shared) (H:Hp) (args:Args) (us:List Value) (vs:List V) (Q:VK) (E:XK),qU k A->Xe P w K mg base A outer s H->BindsTo s fd args (ps.zip us)->qw vs us->sp vs H Q E->
   codeAny (model P w) A (.call (.ref f) args) (CR CX outer P w H s Q E) s
theorem Xe.make {P:Program} {w:World} {K:PySem.W.Frag} {mg:Str->Option Value} {base:Heap} {A:Around} {outer:List Env} {s:Shared} {H:Hp} (e:Xe P w K mg base A outer s H) (C:Addr) (us:List Value) (kw:List (Str×Value)):
   Xe P w K mg base (A.under (.builtin "type.__call__" ⟨.ref C::us,kw⟩)) outer s H:=⟨by first | exact e.frames | (simpa [Around.under,Code.envs,Code.isFrame,pushEnvs] using e.frames),e.mod,e.bs,e.bsz,e.funs,e.frf,e.hok,e.bare⟩
section
variable {X:Cx} {pins:List (Addr×Obj)} {σ:St} {H:Hp} {s s':Shared}
theorem qp.env0 (I:qp X pins σ H s):Xe X.prog X.w X.K X.mg X.base X.A X.stack s H:=
 ⟨I.ok.frames,I.ok.mod,I.bs,Nat.le_trans I.ok.bsz I.sz,I.stack,I.stkFree,I.hok,I.bare⟩
theorem qp.after {Q:VK} {u:Value} (I:qp X pins σ H s) (h:CE X.stack X.prog X.w H s Q u s'):EP X pins σ Q u s':=by
 obtain⟨v,H',os,bare,un,hok,r,q⟩:=h
 obtain⟨hh,g,d,t,os'⟩:=s'
 obtain rfl:os'=s.os:=os
 exact⟨v,H',I.call (h':=hh) (g':=g) (d':=d) (t':=t) (ch:=[]) un hok bare (λb z=>absurd z (by simp)),r,q⟩
end
def W3 (sp:Sp) (dvs:List V) (E:XK) (t:TA):TE:=λσ H Q=>t σ H λvs H1=>sp (vs++dvs) H1 Q E
def ZX (C:Addr) (m:Str) (sp:Sp) (dvs:List V) (E:XK) (ta:TE) (t:TA):TE:=λσ H Q=>ta σ H λx H1=>∃a dx fs,x=.ref a/\H1 a=some (.ins C dx fs)/\fs.lookup m=none/\
 t σ H1 λvs H2=>sp (x::(vs++dvs)) H2 Q E
def vU (C:Addr) (sp:Sp) (dvs:List V) (E:XK) (t:TA):TE:=λσ H Q=>t σ H λvs H1=>∀x dx,H1 x=none->H1 dx=none->dx≠x->
 sp (.ref x::(vs++dvs)) (upd (upd H1 dx (.own x)) x (.ins C dx [])) (λv H2=>v=.non/\Q (.ref x) H2) E
def js (K:PySem.W.Frag) (fd:FuncData) (ps:List Str) (ds:List Value):Prop:=
 ∀(s:Shared) (us:List Value),K.In s.heap->(us++ds).length=ps.length->BindsTo s fd ⟨us,[]⟩ (ps.zip (us++ds))
theorem js.all {K:PySem.W.Frag} {fd:FuncData} {ps:List Str} (h:∀us:List Value,us.length=ps.length->bindArgs fd ⟨us,[]⟩=pure (ps.zip us)):js K fd ps []:=λs us _ hl=>by
 rw[List.append_nil]at hl ⊢
 exact .of_eq (h us hl)
def Qa (CX:zK) (X:Cx) (E:XK):Prop:=∀(pins:List (Addr×Obj)) (σ:St) (H:Hp) (s:Shared) (e:Value) (s':Shared),qp X pins σ H s->CX X.stack H s E e s'->X.xe e s'
section
variable {X:Cx} {CX:zK} {k:Nat} {f C:Addr} {fd:FuncData} {ps:List Str} {sp:Sp} {dvs:List V} {ds:List Value} {E:XK} {x m:Str} {p pos apos:Pos} {e o:Expr} {es:List Expr} {ta:TE} {t:TA}
theorem YR {pins:List (Addr×Obj)} {σ:St} {H:Hp} {s:Shared} {Q:VK} {us:List Value} {vs:List V} (F:FnOk X.prog X.w X.K X.mg X.base CX k f fd ps sp) (hr:qU k X.A) (hb:js X.K fd ps ds) (hd:qw dvs ds) (hx:Qa CX X E)
   (I:qp X pins σ H s) (r:qw vs us) (h:sp (vs++dvs) H Q E):wpAny (model X.prog X.w) X.A (call (.ref f) us) (EP X pins σ Q) X.xe s:=by
 have r2:qw (vs++dvs) (us++ds):=r.append hd
 have hl:(us++ds).length=ps.length:=by rw[<-r2.length];exact F.len _ _ _ _ h
 refine wpAny_call (codeAny_mono (F.run X.A X.stack s H ⟨us,[]⟩ (us++ds) (vs++dvs) Q E hr I.env0 (hb s us I.kIn hl) r2 h) λr s' hq=>?_)
 cases r with
 | error e=>exact hx pins σ H s e s' I hq
 | ok fl=>
   cases fl with
   | ret u=>exact I.after hq
   | next=>exact False.elim hq
   | brk=>exact False.elim hq
   | cont=>exact False.elim hq
theorem U6 (F:FnOk X.prog X.w X.K X.mg X.base CX k f fd ps sp) (hr:qU k X.A) (hg:Gl X x) (hm:X.mg x=some (.ref f)) (hk:PySem.W.keepIn X.K (.ref f)=true) (hb:js X.K fd ps ds) (hd:qw dvs ds) (hx:Qa CX X E)
   (ha:PA X (e::es) t) (hdb:(x==("__debug__":Str))=false:=by decide) (he:starEach (e::es) X.env=(false,eval e X.env)::starEach es X.env:=by rfl) (hpl:(backTo pos (starEach es X.env)).any (·.1)=false:=by rfl):
   PE X (.Call (.Name x p) (e::es) [] pos) (W3 sp dvs E t):=by
 intro pins s σ H Q I h
 refine wpAny_Call_Name_kw (Za I hg hm ?_ hdb)
 refine PySem.W.callWith_K (h₀:=X.base) I.ok.mod.kin hk (qP (ha pos pins s σ H _ I h) λus s1 ⟨vs,H1,I1,r,q⟩=>⟨I1.kIn,?_⟩) he hpl
 exact YR F hr hb hd hx I1 r q
theorem U5 {pl:Sem Bool} (he:PE X o ta) (c:Yw X.K C) (hm:Yv X.K C m f) (F:FnOk X.prog X.w X.K X.mg X.base CX k f fd ps sp) (hr:qU k X.A) (hb:js X.K fd ps ds) (hd:qw dvs ds) (hx:Qa CX X E) (ha:PA X (e::es) t)
   (hst:starEach (e::es) X.env=(false,eval e X.env)::starEach es X.env:=by rfl) (hpl:(backTo pos (starEach es X.env)).any (·.1)=false:=by rfl)
   (ht:eval (.Call (.Attribute o m apos) (e::es) [] pos) X.env=(do
     let ov <-eval o X.env
     standAt apos.atName
     let (f,first) <-holding [ov] (getMethod ov m pl)
     callWith pos f first (backTo pos (starEach (e::es) X.env)) (backToKw pos (keywordEach [] X.env))):=by rfl):
   PE X (.Call (.Attribute o m apos) (e::es) [] pos) (ZX C m sp dvs E ta t):=by
 intro pins s σ H Q I h
 refine PySem.W.methodCall_KW (pl:=pl) (qP (he pins s σ H _ I h) λu s1 ⟨x,H1,I1,rx,a,dx,fs,ex,ea,l,q⟩=>?_) ht
 subst ex
 obtain rfl:u=Value.ref a:=rx
 refine Q4 I1 ea c hm l ?_
 refine PySem.W.callWith_K (first:=[.ref a]) (h₀:=X.base) I.ok.mod.kin hm.kp (qP (ha pos pins s1 σ H1 _ I1 q) λus s2 ⟨vs,H2,I2,r,q2⟩=>⟨I2.kIn,?_⟩) hst hpl
 exact YR (us:=.ref a::us) (vs:=.ref a::vs) F hr hb hd hx I2 (.cons rfl r) q2
theorem vB {pl:Sem Bool} (he:JE X o ta) (c:Yw X.K C) (hm:Yv X.K C m f) (F:FnOk X.prog X.w X.K X.mg X.base CX k f fd ps sp) (hr:qU k X.A) (hb:js X.K fd ps ds) (hd:qw dvs ds) (hx:Qa CX X E) (ha:JA X (e::es) t) (hst:starEach (e::es) X.env=(false,eval e X.env)::starEach es X.env:=by rfl) (hpl:(backTo pos (starEach es X.env)).any (·.1)=false:=by rfl) (ht:eval (.Call (.Attribute o m apos) (e::es) [] pos) X.env=(do
     let ov <-eval o X.env
     standAt apos.atName
     let (f,first) <-holding [ov] (getMethod ov m pl)
     callWith pos f first (backTo pos (starEach (e::es) X.env)) (backToKw pos (keywordEach [] X.env))):=by rfl):JE X (.Call (.Attribute o m apos) (e::es) [] pos) (ZX C m sp dvs E ta t):=.of (U5 he.to c hm F hr hb hd hx ha.to hst hpl ht)
theorem Vx {pl:Sem Bool} (he:PE X o ta) (c:Yw X.K C) (hm:Yv X.K C m f) (F:FnOk X.prog X.w X.K X.mg X.base CX k f fd ps sp) (hr:qU k X.A) (hb:js X.K fd ps ds) (hd:qw dvs ds) (hx:Qa CX X E)
   (ht:eval (.Call (.Attribute o m apos) [] [] pos) X.env=(do
     let ov <-eval o X.env
     standAt apos.atName
     let (f,first) <-holding [ov] (getMethod ov m pl)
     callWith pos f first (backTo pos (starEach [] X.env)) (backToKw pos (keywordEach [] X.env))):=by rfl):
   PE X (.Call (.Attribute o m apos) [] [] pos) (ZX C m sp dvs E ta j4):=by
 intro pins s σ H Q I h
 refine PySem.W.methodCall_KW (pl:=pl) (qP (he pins s σ H _ I h) λu s1 ⟨x,H1,I1,rx,a,dx,fs,ex,ea,l,q⟩=>?_) ht
 subst ex
 obtain rfl:u=Value.ref a:=rx
 refine Q4 I1 ea c hm l ?_
 exact PySem.W.callWith_K0 (first:=[.ref a]) I1.kIn hm.kp (YR (us:=[.ref a]) (vs:=[.ref a]) F hr hb hd hx I1 (.cons rfl .nil) q)
theorem V4 {pl:Sem Bool} (he:JE X o ta) (c:Yw X.K C) (hm:Yv X.K C m f) (F:FnOk X.prog X.w X.K X.mg X.base CX k f fd ps sp) (hr:qU k X.A) (hb:js X.K fd ps ds) (hd:qw dvs ds) (hx:Qa CX X E) (ht:eval (.Call (.Attribute o m apos) [] [] pos) X.env=(do
     let ov <-eval o X.env
     standAt apos.atName
     let (f,first) <-holding [ov] (getMethod ov m pl)
     callWith pos f first (backTo pos (starEach [] X.env)) (backToKw pos (keywordEach [] X.env))):=by rfl):JE X (.Call (.Attribute o m apos) [] [] pos) (ZX C m sp dvs E ta j4):=.of (Vx he.to c hm F hr hb hd hx ht)
structure Mk (K:PySem.W.Frag) (C f:Addr):Prop where
 makes:PySem.W.makesIn K C=true
 init:PySem.W.findIn K (.ref C) "__init__"=some (some (.ref f))
 fn:PySem.W.isFn K (.ref f)=true
 kp:PySem.W.keepIn K (.ref C)=true
theorem Vl {pins:List (Addr×Obj)} {σ:St} {H:Hp} {s:Shared} {Q:VK} {us:List Value} {vs:List V} (M:Mk X.K C f) (F:FnOk X.prog X.w X.K X.mg X.base CX k f fd ps sp) (hr:qU (k+1) X.A) (hb:js X.K fd ps ds) (hd:qw dvs ds)
   (hx:Qa CX X E) (I:qp X pins σ H s) (r:qw vs us)
   (h:∀x dx,H x=none->H dx=none->dx≠x->sp (.ref x::(vs++dvs)) (upd (upd H dx (.own x)) x (.ins C dx [])) (λv H2=>v=.non/\Q (.ref x) H2) E):
   wpAny (model X.prog X.w) X.A (call (.ref C) us) (EP X pins σ Q) X.xe s:=by
 have hq:=h (s.heap.objs.size+1) s.heap.objs.size (I.hok.fresh (Nat.le_succ _)) (I.hok.fresh (Nat.le_refl _)) (Nat.ne_of_lt (Nat.lt_succ_self _))
 have I2:=qp.made (C:=C) I
 have r2:qw (V.ref (s.heap.objs.size+1)::(vs++dvs)) (Value.ref (s.heap.objs.size+1)::(us++ds)):=.cons rfl (r.append hd)
 have hl:(Value.ref (s.heap.objs.size+1)::us++ds).length=ps.length:=by
   have e:=r2.length
   rw[F.len _ _ _ _ hq]at e
   exact e.symm
 refine wpAny_call (VR (f:=f) I.kIn M.makes M.init (beq_iff_eq.mp M.fn) (codeAny_mono (F.run _ X.stack _ _ ⟨Value.ref (s.heap.objs.size+1)::us,[]⟩ (Value.ref (s.heap.objs.size+1)::(us++ds)) _ _ E (hr.make C us [])
   (I2.env0.make C us []) (hb _ (Value.ref (s.heap.objs.size+1)::us) I2.kIn hl) r2 hq) λr s' hq'=>?_))
 cases r with
 | error e=>exact hx pins σ _ _ e s' I2 hq'
 | ok fl=>
   cases fl with
   | ret u=>
     obtain⟨v,H',I3,rv,ev,q3⟩:=I2.after hq'
     subst ev
     exact⟨rv,⟨V.ref (s.heap.objs.size+1),H',I3,rfl,q3⟩⟩
   | next=>exact False.elim hq'
   | brk=>exact False.elim hq'
   | cont=>exact False.elim hq'
theorem vC (M:Mk X.K C f) (F:FnOk X.prog X.w X.K X.mg X.base CX k f fd ps sp) (hr:qU (k+1) X.A) (hg:Gl X x) (hm:X.mg x=some (.ref C)) (hb:js X.K fd ps ds) (hd:qw dvs ds) (hx:Qa CX X E) (ha:JA X (e::es) t) (hdb:(x==("__debug__":Str))=false:=by decide) (he:starEach (e::es) X.env=(false,eval e X.env)::starEach es X.env:=by rfl) (hpl:(backTo pos (starEach es X.env)).any (·.1)=false:=by rfl):JE X (.Call (.Name x p) (e::es) [] pos) (vU C sp dvs E t):=.of (by
 have ha:=ha.to
 intro pins s σ H Q I h
 refine wpAny_Call_Name_kw (Za I hg hm ?_ hdb)
 refine PySem.W.callWith_K (h₀:=X.base) I.ok.mod.kin M.kp (qP (ha pos pins s σ H _ I h) λus s1 ⟨vs,H1,I1,r,q⟩=>⟨I1.kIn,?_⟩) he hpl
 exact Vl M F hr hb hd hx I1 r q)
end
section
variable {X:Cx} {CX:zK} {k:Nat} {f C:Addr} {fd:FuncData} {ps ks:List Str} {sp:Sp} {E:XK} {x m:Str} {p pos apos kpos:Pos} {e o:Expr} {es:List Expr} {kws:List Keyword} {te ta:TE} {t tk:TA} {nm:Option Str}
structure wD (K:PySem.W.Frag) (fd:FuncData) (ps ks:List Str) (g:List Value->List Value->List Value) (gV:List V->List V->List V):Prop where
 to:∀(s:Shared) (us ws:List Value),K.In s.heap->(g us ws).length=ps.length->BindsTo s fd ⟨us,ks.zip ws⟩ (ps.zip (g us ws))
 rel:∀{vs:List V} {us:List Value} {zs:List V} {ws:List Value},qw vs us->qw zs ws->qw (gV vs zs) (g us ws)
variable {g:List Value->List Value->List Value} {gV:List V->List V->List V}
end
structure qx (N P:List Str) (sc:Scope):Prop where
 kind:sc.kind=.function
 co:sc.isCoroutine=false
 gen:sc.isGenerator=false
 nd:N.Nodup
 pre:N.take P.length=P
 par:∀x∈P,sc.names.lookup x=some .local\/sc.names.lookup x=some .cell
 nofree:∀y∈sc.names,y.2≠.free
theorem zg {kindOf:Str->Option NameKind} {x:Str}:∀{binds:List (Str×Value)} {m:Str->Option Value},(∀v,(x,v)∉binds)->bindL kindOf binds m x=m x
 | [],_,_=>rfl
 | (n,v)::r,m,h=>by
   unfold bindL
   rw[zg λw hw=>h w (List.mem_cons_of_mem _ hw)]
   split
   . have:x≠n:=by rintro rfl;exact h v List.mem_cons_self
     simp [this]
   . rfl
theorem zi {kindOf:Str->Option NameKind} {x:Str}:∀{binds:List (Str×Value)} {m:Str->Option Value},(∀v,(x,v)∉binds)->bindC kindOf binds m x=m x
 | [],_,_=>rfl
 | (n,v)::r,m,h=>by
   unfold bindC
   rw[zi λw hw=>h w (List.mem_cons_of_mem _ hw)]
   split
   . rfl
   . have:x≠n:=by rintro rfl;exact h v List.mem_cons_self
     simp [this]
theorem zh {kindOf:Str->Option NameKind} {x:Str} {v:Value}:∀{P:List Str} {vs:List Value} {i:Nat} {m:Str->Option Value},P.Nodup->P[i]?=some x->vs[i]?=some v->kindOf x=some .local->
   bindL kindOf (P.zip vs) m x=some v
 | [],_,_,_,_,h,_,_=>by simp at h
 | _::_,[],_,_,_,_,h,_=>by simp at h
 | p::P,w::vs,0,m,nd,h1,h2,hk=>by
   simp at h1 h2;subst h1;subst h2
   show bindL kindOf ((p,w)::P.zip vs) m p=_
   unfold bindL
   rw[zg λv hv=>(List.nodup_cons.mp nd).1 (List.of_mem_zip hv).1,if_pos hk]
   simp
 | p::P,w::vs,i+1,m,nd,h1,h2,hk=>by
   show bindL kindOf ((p,w)::P.zip vs) m x=_
   unfold bindL
   exact zh (i:=i) (List.nodup_cons.mp nd).2 (by simpa using h1) (by simpa using h2) hk
theorem zj {kindOf:Str->Option NameKind} {x:Str} {v:Value}:∀{P:List Str} {vs:List Value} {i:Nat} {m:Str->Option Value},P.Nodup->P[i]?=some x->vs[i]?=some v->kindOf x≠some .local->
   bindC kindOf (P.zip vs) m x=some v
 | [],_,_,_,_,h,_,_=>by simp at h
 | _::_,[],_,_,_,_,h,_=>by simp at h
 | p::P,w::vs,0,m,nd,h1,h2,hk=>by
   simp at h1 h2;subst h1;subst h2
   show bindC kindOf ((p,w)::P.zip vs) m p=_
   unfold bindC
   rw[zi λv hv=>(List.nodup_cons.mp nd).1 (List.of_mem_zip hv).1,if_neg hk]
   simp
 | p::P,w::vs,i+1,m,nd,h1,h2,hk=>by
   show bindC kindOf ((p,w)::P.zip vs) m x=_
   unfold bindC
   exact zj (i:=i) (List.nodup_cons.mp nd).2 (by simpa using h1) (by simpa using h2) hk
def Q1 (N:List Str) (vs:List V):St:=vs.map some++List.replicate (N.length - vs.length) none
def ZJ (CX:zK) (P:Program) (w:World) (K:PySem.W.Frag) (mg:Str->Option Value) (base:Heap) (N:List Str) (qual:Str) (scope:Scope) (f:Addr) (cd:Value) (A:Around) (outer:List Env) (s:Shared) (H:Hp) (E:XK):Cx where
 prog:=P
 w:=w
 K:=K
 mg:=mg
 base:=base
 A:=A.deeper (envOfC qual scope s.heap.objs.size f cd)
 N:=N
 s₀:=s
 H₀:=H
 env:=envOfC qual scope s.heap.objs.size f cd
 outer:=outer
 stack:=envOfC qual scope s.heap.objs.size f cd::outer
 ex:=[]
 calm:=true
 fn:=λ_=>true
 pn:=[]
 xe:=λe s'=>wpAny (model P w) (A.deeper (envOfC qual scope s.heap.objs.size f cd)) (leaving (envOfC qual scope s.heap.objs.size f cd) e) (λ_ s''=>CX outer H s E e s'') (λe' s''=>CX outer H s E e' s'') s'
theorem Ym {sc:Scope} {n:Nat} {x:Str} (h:sc.names.lookup x=some .cell):∃c,(cellsFrom n sc.names []).lookup x=some c:=by
 have q:=PySem.W.cellsFrom_some sc.names n [] (.inl h)
 exact Option.isSome_iff_exists.mp q
theorem WA {CX:zK} {P:Program} {w:World} {K:PySem.W.Frag} {mg:Str->Option Value} {base:Heap} {N ps:List Str} {qual:Str} {scope:Scope} {f:Addr} {cd:Value} {A:Around} {outer:List Env} {s s1:Shared} {H:Hp} {E:XK} {us:List Value} {vs:List V}
   (S:qx N ps scope) (hd:A.handled=none) (e0:Xe P w K mg base A outer s H) (hl:vs.length=ps.length) (r:qw vs us)
   (x:InCallC s s.heap.objs.size (bindL (envOfC qual scope s.heap.objs.size f cd).kindOf (ps.zip us) λ_=>none) (cellsFrom (s.heap.objs.size+1) scope.names []) (bindC (envOfC qual scope s.heap.objs.size f cd).kindOf (ps.zip us) λ_=>none) s1):
   qp (ZJ CX P w K mg base N qual scope f cd A outer s H E) [] (Q1 N vs) H s1:=by
 have hpl:ps.length<=N.length:=by have:=congrArg List.length S.pre;rw[List.length_take]at this;omega
 obtain⟨h1,tk,rfl,hk⟩:=x.done
 have noA:∀b:Addr,b∉(ZJ CX P w K mg base N qual scope f cd A outer s H E).ex:=λb z=>absurd (show b∈([]:List Addr) from z) (by simp)
 refine⟨⟨e0.mod,S.kind,rfl,rfl,Nat.le_refl _,λy z c h1 h2=>?_,λy hy=>?_,λy c _ h=>?_,λ_=>hd,Around.frames_deeper e0.frames,.inr ⟨rfl,rfl⟩,λb z=>absurd z (noA b),e0.bs,e0.bsz,λb _ _=>noA b,λb z=>absurd z (noA b),e0.funs,e0.frf⟩,
   rfl,e0.bare,Un.kept hk,⟨_,x.toInCall.ns,λi y v h1 h2 h3=>?_⟩,λy c h=>⟨_,x.cell y c h⟩,e0.hok.fresh (Nat.le_refl _),λy c h=>?_,λp hp=>absurd (show p∈([]:List (Addr×Obj)) from hp) (by simp),e0.hok.kept hk,?_⟩
 . exact name_of_addr x.apart (PySem.mem_of_lookup h1) (PySem.mem_of_lookup h2)
 . have hy:scope.names.lookup y=some .cell\/scope.names.lookup y=some .free:=hy
   rcases hy with hy | hy
   . exact Ym hy
   . exact absurd rfl (S.nofree _ (PySem.mem_of_lookup hy))
 . exact Nat.le_of_lt (x.above y c (PySem.mem_of_lookup h))
 . have hi:i < vs.length:=by
     unfold Q1 at h2
     by_cases hi:i < vs.length
     . exact hi
     . rw[List.getElem?_append_right (by simpa using hi)]at h2
       rw[List.getElem?_replicate]at h2
       split at h2<;>cases h2
   have ha:vs[i]?=some v:=by
     unfold Q1 at h2
     rw[List.getElem?_append_left (by simpa using hi),List.getElem?_map]at h2
     cases e:vs[i]? with
     | none=>rw[e]at h2;cases h2
     | some a=>rw[e]at h2;cases h2;rfl
   obtain⟨u,hu,rv⟩:=r.get ha
   have hp:ps[i]?=some y:=by
     rw[<-S.pre,List.getElem?_take_of_lt (by omega)];exact h1
   have ndP:ps.Nodup:=by rw[<-S.pre];exact S.nd.sublist (List.take_sublist _ _)
   refine⟨u,rv,?_⟩
   rcases S.par y (List.mem_of_getElem? hp) with k | k
   . exact .inl ⟨k,zh ndP hp hu k⟩
   . obtain⟨c,e⟩:=Ym (n:=s.heap.objs.size+1) k
     refine .inr ⟨.inl k,c,e,?_⟩
     have q:=x.cell y c e
     rw[zj ndP hp hu (by show scope.names.lookup y≠_;rw[k];decide)]at q
     exact q
 . exact e0.hok.fresh (Nat.le_of_lt (x.above y c (PySem.mem_of_lookup h)))
 . unfold Q1
   show _=N.length
   rw[List.length_append,List.length_map,List.length_replicate]
   omega
theorem kr {CX:zK} {P:Program} {w:World} {K:PySem.W.Frag} {mg:Str->Option Value} {base:Heap} {k:Nat} {f:Addr} {name qual:Str} {params:Arguments} {body:List Stmt} {scope:Scope} {dV kV doc pm cdv ct oc:Value} {an od:Option Addr}
   {osl:Array (Option Value)} {N ps:List Str} {sp:Sp} (lk:K.lookup f=some ⟨oc,od,.func (PySem.W.fnOf name qual params body scope dV kV doc pm an cdv ct),osl⟩) (hcd:PySem.W.codeIn K cdv qual=true) (S:qx N ps scope)
   (len:∀vs H Q E,sp vs H Q E->vs.length=ps.length)
   (hbody:∀(A:Around) (outer:List Env) (s:Shared) (H:Hp) (vs:List V) (Q:VK) (E:XK),qU k (A.deeper (envOfC qual scope s.heap.objs.size f cdv))->sp vs H Q E->
     ∃t,UA (ZJ CX P w K mg base N qual scope f cdv A outer s H E) body t/\t {nx:=λ_ H'=>Q .non H',rt:=Q} (Q1 N vs) H):
   FnOk P w K mg base CX (k+1) f (PySem.W.fnOf name qual params body scope dV kV doc pm an cdv ct) ps sp:=by
 refine⟨len,λA outer s H args us vs Q E hr e0 hb r hsp=>?_⟩
 have hl:=len _ _ _ _ hsp
 have KX:K.In s.heap:=e0.mod.kin.keeps λb o e=>(e0.bs b o e).1
 have lim:s.heap.NoLimit:=e0.mod.nolimit.keeps λb o e=>(e0.bs b o e).1
 have hkind:∀y∈ps.zip us,scope.names.lookup y.1=some .local\/(scope.names.lookup y.1=some .cell/\((cellsFrom (s.heap.objs.size+1) scope.names []).lookup y.1).isSome=true):=λ⟨n,v⟩ hy=>by
   rcases S.par n (List.of_mem_zip hy).1 with q | q
   . exact .inl q
   . exact .inr ⟨q,PySem.W.cellsFrom_some _ _ _ (.inl q)⟩
 refine codeAny_call_function hr.depth (KX _ _ lk) rfl S.co S.gen rfl (PySem.W.codeRec_of KX hcd) (hb _ _ _ _ ?_)
 refine wpAny_newFunctionEnv_cells S.kind hkind λenv he s1 x=>?_
 subst he
 refine⟨lim.keeps x.toInCall.keep,codeAny_func ?_⟩
 obtain⟨t,ht,hq⟩:=hbody A outer s H vs Q E (hr.deeper _) hsp
 have I:qp (ZJ CX P w K mg base N qual scope f cdv A outer s H E) [] (Q1 N vs) H s1:=WA S hr.hd e0 hl r x
 refine wpAny_mono (ht [] s1 (Q1 N vs) H _ I hq) (λfl s' hs=>?_) λe s' hs=>hs
 have fin:∀{σ':St} {H':Hp} {v:V} {u:Value},qp (ZJ CX P w K mg base N qual scope f cdv A outer s H E) [] σ' H' s'->qG v u->Q v H'->CE outer P w H s Q u s':=
   λ{σ' H' v u} J rv q=>⟨v,H',J.os,J.bare,J.base,J.hok,rv,q⟩
 cases fl with
 | ret u=>
   obtain⟨v,σ',H',J,rv,q⟩:=hs
   exact fin J rv q
 | next=>
   obtain⟨σ',H',J,q⟩:=hs
   exact fin (v:=V.non) (u:=Value.none) J rfl q
 | brk=>
   obtain⟨_,_,_,q⟩:=hs
   exact False.elim q
 | cont=>
   obtain⟨_,_,_,q⟩:=hs
   exact False.elim q
end L2
namespace L2
open PySem PySem.Spec PyProof.Rows
section
variable {X:Cx} {x:Str} {p pos:Pos} {e:Expr} {es:List Expr} {t:TA} {id T:String} {r:List V->Hp->VK->Prop}
def W4 (r:List V->Hp->VK->Prop) (t:TA):TE:=λσ H Q=>t σ H λvs H1=>r vs H1 Q
theorem qr (hc:jU X (.builtin id) r) (hg:Gl X x) (hm:X.mg x=none) (hv:bootBuiltins x=some (.builtin id)) (ha:JA X (e::es) t) (hn:x≠"__name__":=by decide) (hdb:(x==("__debug__":Str))=false:=by decide) (he:starEach (e::es) X.env=(false,eval e X.env)::starEach es X.env:=by rfl) (hpl:(backTo pos (starEach es X.env)).any (·.1)=false:=by rfl):JE X (.Call (.Name x p) (e::es) [] pos) (W4 r t):=.of (by
 have ha:=ha.to
 intro pins s σ H Q I h
 refine wpAny_Call_Name_kw (Qk I hg hm hv ?_ hn hdb)
 exact PyProof.Rows.callWith_builtin1 (qP (ha pos pins s σ H _ I h) λus s1 ⟨vs,H1,I1,r1,q1⟩=>hc pins s1 σ H1 vs us Q I1 r1 q1) he hpl)
theorem jc (hc:jU X (.type T) r) (hg:Gl X x) (hm:X.mg x=none) (hv:bootBuiltins x=some (.type T)) (ha:JA X (e::es) t) (hn:x≠"__name__":=by decide) (hdb:(x==("__debug__":Str))=false:=by decide) (he:starEach (e::es) X.env=(false,eval e X.env)::starEach es X.env:=by rfl) (hpl:(backTo pos (starEach es X.env)).any (·.1)=false:=by rfl):JE X (.Call (.Name x p) (e::es) [] pos) (W4 r t):=.of (by
 have ha:=ha.to
 intro pins s σ H Q I h
 refine wpAny_Call_Name_kw (Qk I hg hm hv ?_ hn hdb)
 exact PyProof.Rows.callWith_type1 (qP (ha pos pins s σ H _ I h) λus s1 ⟨vs,H1,I1,r1,q1⟩=>hc pins s1 σ H1 vs us Q I1 r1 q1) he hpl)
end
end L2
namespace HT
open PySem PyProof.Rows
section
open PySem.SeqAt
open PySem.AutoSeq1 (wpAny_loadPart')
open PySem.MeetsSeq PySem.MeetsSeq2 PySem.MeetsSeq3
end
section
variable {prog:Program} {w:World} {A:Around} {E:Value->Shared->Prop} {s:Shared}
def sIx (n d:Nat):Option Int->Nat
 | none=>d
 | some v=>if v < 0 then (v+(n:Int)).toNat else min v.toNat n
end
end HT
namespace L2
open PySem PySem.Spec PyProof.Rows
abbrev TO:=St->Hp->(Option Int->Hp->Prop)->Prop
def PO (X:Cx) (e:Option Expr) (t:TO):Prop:=
 ∀(pins:List (Addr×Obj)) (s:Shared) (σ:St) (H:Hp) (Q:Option Int->Hp->Prop),qp X pins σ H s->t σ H Q->
   wpAny (model X.prog X.w) X.A (evalPart e X.env) (λu s'=>∃o H',qp X pins σ H' s'/\IsPart u o/\Q o H') X.xe s
@[irreducible] def JO (X:Cx) (e:Option Expr) (t:TO):Prop:=PO X e t
theorem JO.of {X:Cx} {e:Option Expr} {t:TO} (h:PO X e t):JO X e t:=by unfold JO;exact h
theorem JO.to {X:Cx} {e:Option Expr} {t:TO} (h:JO X e t):PO X e t:=by unfold JO at h;exact h
def UG:TO:=λ_ H Q=>Q none H
def yN (t:TE):TO:=λσ H Q=>t σ H λx H1=>∃i,x=.int i/\Q (some i) H1
theorem YZ {ns:List Int}:∀{us:List Value},qw (ns.map V.int) us->IntsAre us ns:=by
 induction ns with
 | nil=>intro us r;rw[List.map_nil]at r;cases r;exact .nil
 | cons n ns ih=>
   intro us r
   rw[List.map_cons]at r
   cases r with
   | cons r1 r2=>
     obtain⟨t,e⟩:=r1
     subst e
     exact .cons n t (ih r2)
section
variable {X:Cx} {e:Expr} {te:TE} {lo hi:Option Expr} {tl th:TO} {pos p2:Pos}
theorem zA:JO X none UG:=.of (by
 intro pins s σ H Q I h
 rw[evalPart_none]
 exact wpAny_pure ⟨none,H,I,.none,h⟩)
theorem zz (h:JE X e te):JO X (some e) (yN te):=.of (by
 have h:=h.to
 intro pins s σ H Q I hw
 rw[evalPart_some]
 refine qP (h pins s σ H _ I hw) λu s1 ⟨x,H1,I1,r1,q1⟩=>?_
 obtain⟨i,rfl,q⟩:=q1
 obtain⟨t,rfl⟩:=r1
 exact⟨some i,H1,I1,.int i t,q⟩)
def wz (X:Cx) (r:V->Option Int->Option Int->Hp->VK->Prop):Prop:=
 ∀(pins:List (Addr×Obj)) (s:Shared) (σ:St) (H:Hp) (x:V) (v vl vu:Value) (lo hi:Option Int) (sl:Addr) (Q:VK),qp X pins σ H s->qG x v->s.heap.IsSliceOf sl vl vu .none->IsPart vl lo->IsPart vu hi->r x lo hi H Q->
   ∃T id,typeLookup (.type T) "__getitem__"=pure (some (.builtin id))/\s.TypeIs v T/\wpAny (model X.prog X.w) X.A (getItem v (.ref sl)) (EP X pins σ Q) X.xe s
def tSl (r:V->Option Int->Option Int->Hp->VK->Prop) (te:TE) (tl th:TO):TE:=λσ H Q=>te σ H λx H1=>tl σ H1 λl H2=>th σ H2 λu H3=>r x l u H3 Q
theorem ZC {r:V->Option Int->Option Int->Hp->VK->Prop} (hr:wz X r) (he:JE X e te) (hl:JO X lo tl) (hu:JO X hi th):JE X (.Subscript e (.Slice lo hi none p2) pos) (tSl r te tl th):=.of (by
 have he:=he.to
 have hl:=hl.to
 have hu:=hu.to
 intro pins s σ H Q I h
 refine Subscript_ (qP (he pins s σ H _ I h) λv s1 ⟨x,H1,I1,r1,q1⟩=>?_)
 refine wpAny_Slice (qP (hl pins s1 σ H1 _ I1 q1) λvl s2 ⟨l,H2,I2,pl,q2⟩=>qP (hu pins s2 σ H2 _ I2 q2) λvu s3 ⟨u,H3,I3,pu,q3⟩=>?_)
 rw[evalPart_none]
 refine wpAny_pure ?_
 have I4:qp X pins σ H3 {s3 with heap:=s3.heap.push {cls:=.type "slice",data:=.fields #[vl,vu,.none]}}:=I3.kept (t':=s3.toks) λb ob q=>Heap.get?_push_of_some _ q
 obtain⟨T,id,hT,ht,hg⟩:=hr pins {s3 with heap:=s3.heap.push {cls:=.type "slice",data:=.fields #[vl,vu,.none]}} σ H3 x v vl vu l u s3.heap.objs.size Q I4 r1 (Heap.IsSliceOf.new ..) pl pu q3
 show wpAny (model X.prog X.w) X.A (subscriptTail e (.Slice lo hi none p2) v (.ref s3.heap.objs.size)) (EP X pins σ Q) X.xe {s3 with heap:=s3.heap.push {cls:=.type "slice",data:=.fields #[vl,vu,.none]}}
 exact tail_any (ops:=[.ref s3.heap.objs.size,v]) ht hT hg (by with_unfolding_all rfl))
def WK (xs:List V) (lo hi:Option Int):List V:=(xs.drop (HT.sIx xs.length 0 lo)).take (HT.sIx xs.length xs.length hi - HT.sIx xs.length 0 lo)
theorem Yl (xs:List V) (lo hi:Option Int):(WK xs lo hi).length<=xs.length:=by
 unfold WK
 rw[List.length_take,List.length_drop]
 omega
end
end L2
namespace L2
open PySem PySem.Spec PyProof.Rows
def yE (n:Nat) (i:Int):Option Nat:=if 0<=i then (if i < n then some i.toNat else none) else if -(n:Int)<=i then some (i+n).toNat else none
def Y9 {α:Type} (xs:List α) (i:Int):Option α:=(yE xs.length i).bind λj=>xs[j]?
theorem vF {n:Nat} {i:Int} {j:Nat} (h:yE n i=some j):seqIndex? i n=some j/\j < n/\-(n:Int)<=i/\i < n:=by
 unfold yE at h
 by_cases h0:0<=i
 . rw[if_pos h0]at h
   by_cases h1:i < n
   . rw[if_pos h1]at h
     have e:i.toNat=j:=Option.some.inj h
     exact⟨by rw[seqIndex_of h0 h1,e],by omega,by omega,h1⟩
   . rw[if_neg h1]at h;cases h
 . rw[if_neg h0]at h
   by_cases h1:-(n:Int)<=i
   . rw[if_pos h1]at h
     have e:(i+n).toNat=j:=Option.some.inj h
     exact⟨by rw[seqIndex_neg (by omega) h1,e],by omega,h1,by omega⟩
   . rw[if_neg h1]at h;cases h
theorem zI {α:Type} {xs:List α} {i:Int} {v:α} (h:Y9 xs i=some v):∃j,seqIndex? i xs.length=some j/\xs[j]?=some v/\j < xs.length/\-(xs.length:Int)<=i/\i < xs.length:=by
 unfold Y9 at h
 cases e:yE xs.length i with
 | none=>rw[e]at h;cases h
 | some j=>
   rw[e]at h
   obtain⟨h1,h2,h3,h4⟩:=vF e
   exact⟨j,h1,h,h2,h3,h4⟩
theorem j1 {α:Type} {xs:List α} {j:Nat} {v:α} (h:xs[j]?=some v):Y9 xs (j:Int)=some v:=by
 have hj:j < xs.length:=(List.getElem?_eq_some_iff.mp h).1
 have e:yE xs.length (j:Int)=some j:=by
   unfold yE
   rw[if_pos (by omega),if_pos (by omega)];simp
 unfold Y9;rw[e];exact h
def vP (b:Expr):Prop:=∀o i,subscripted b false o i=operate [o,i] (getItem o i)
def xT (X:Cx) (r:R2):Prop:=
 ∀(value slice:Expr) (pins:List (Addr×Obj)) (s:Shared) (σ:St) (H:Hp) (x y:V) (v u:Value) (Q:VK),qp X pins σ H s->qG x v->qG y u->r x y H Q->
   subscripted slice false v u=operate [v,u] (getItem v u)->wpAny (model X.prog X.w) X.A (subscriptTail value slice v u) (EP X pins σ Q) X.xe s
def xS (X:Cx) (id:String) (r:V->List V->Hp->VK->Prop):Prop:=
 ∀(pins:List (Addr×Obj)) (s:Shared) (σ:St) (H:Hp) (x:V) (xs:List V) (v:Value) (us:List Value) (Q:VK),qp X pins σ H s->qG x v->qw xs us->r x xs H Q->
   wpAny (model X.prog X.w) X.A (call (.builtin id) (v::us)) (EP X pins σ Q) X.xe s
section
variable {X:Cx} {a b:Expr} {ta tb:TE} {pos:Pos}
theorem jq {r:R2} (hr:xT X r) (ha:JE X a ta) (hb:JE X b tb) (hs:vP b):JE X (.Subscript a b pos) (YE r ta tb):=.of (by
 have ha:=ha.to
 have hb:=hb.to
 intro pins s σ H Q I h
 exact Subscript_ (yw ha hb I h λv u s2 x y H2 I2 rx ry q=>hr a b pins s2 σ H2 x y v u Q I2 rx ry q (hs _ _)))
def U3 (K:PySem.W.Frag):R2:=λx y H Q=>∃p xs i v,x=.ref p/\y=.int i/\SqL K H p xs/\Y9 xs i=some v/\Q v H
def Vs (K:PySem.W.Frag):R2:=λx y H Q=>∃p xs i v,x=.ref p/\y=.int i/\SqT K H p xs/\Y9 xs i=some v/\Q v H
def wb:R2:=λx y H Q=>∃z i c,x=.str z/\y=.int i/\z.length<=sizeLine/\Y9 z.cps.toList i=some c/\Q (.str ⟨#[c]⟩) H
theorem jr:xT X (U3 X.K):=by
 intro value slice pins s σ H x y v u Q I rx ry h hs
 obtain⟨p,xs,i,z,rfl,rfl,hq,he,q⟩:=h
 cases rx
 obtain⟨t,rfl⟩:=ry
 obtain⟨its,r,pl,hz⟩:=I.list hq
 obtain⟨j,h1,h2,h3,h4,h5⟩:=zI he
 obtain⟨w,ew,rw'⟩:=r.get h2
 have hl:=r.length
 have hn:=Zy
 have fin:EP X pins σ Q w s:=⟨z,H,I,rw',q⟩
 by_cases h0:0<=i
 . have hj:i.toNat=j:=by
     rw[seqIndex_of h0 h5]at h1
     exact Option.some.inj h1
   exact item_listR pl.isList h0 (by omega) (by rw[hj];simpa using ew) fin hs
 . have hj:(i+(its.toArray.size:Int)).toNat=j:=by
     rw[seqIndex_neg (by omega) h4]at h1
     rw[List.size_toArray,<-hl]
     exact Option.some.inj h1
   exact subscriptTail_builtinR (x:=w) pl.isList.typeIs slot_list_getitem.lookup
     (wpAny_getItem_list_neg (Q:=λr s'=>r=w/\EP X pins σ Q r s') pl.isList (by omega) (by rw[List.size_toArray]<;>omega) (by omega) (by rw[hj];simpa using ew) ⟨rfl,fin⟩) hs
theorem QR:xT X (Vs X.K):=by
 intro value slice pins s σ H x y v u Q I rx ry h hs
 obtain⟨p,xs,i,z,rfl,rfl,hq,he,q⟩:=h
 cases rx
 obtain⟨t,rfl⟩:=ry
 obtain⟨its,r,pl,hz⟩:=I.tuple hq
 obtain⟨j,h1,h2,h3,h4,h5⟩:=zI he
 obtain⟨w,ew,rw'⟩:=r.get h2
 have hl:=r.length
 have hn:=Zy
 have fin:EP X pins σ Q w s:=⟨z,H,I,rw',q⟩
 exact subscriptTail_builtinR (x:=w) pl.typeIs slot_tuple_getitem.lookup
   (getItem_tuple (j:=j) (Q:=λr s'=>r=w/\EP X pins σ Q r s') pl (by omega) (by omega) (by rw[List.size_toArray,<-hl];exact h1) (by simpa using ew) ⟨rfl,fin⟩) hs
theorem Ub:xT X wb:=by
 intro value slice pins s σ H x y v u Q I rx ry h hs
 obtain⟨z,i,c,rfl,rfl,hz,he,q⟩:=h
 obtain⟨t,rfl⟩:=rx
 obtain⟨t',rfl⟩:=ry
 obtain⟨j,h1,h2,h3,h4,h5⟩:=zI he
 have hl:z.cps.toList.length=z.length:=by simp [Str.length]
 rw[hl]at h1 h4 h5
 have hn:=Zy
 exact tail_any (typeIs_str s z t) slot_str_getitem.lookup (getItem_str (c:=c) (by
   have e1:decide (i < -(2^63:Int))=false:=decide_eq_false (by omega)
   have e2:decide (i ≥ 2^63)=false:=decide_eq_false (by omega)
   rw[e1,e2,Bool.or_false]) (by rw[h1];simpa using h2) ⟨.str ⟨#[c]⟩,H,I.tok _,⟨_,rfl⟩,q⟩) hs
theorem zq (lo hi:Option Int) (n:Nat):(sliceBounds lo hi none n).1=((HT.sIx n 0 lo:Nat):Int)/\(sliceBounds lo hi none n).2.1=((HT.sIx n n hi:Nat):Int)/\(sliceBounds lo hi none n).2.2=1:=by
 refine⟨?_,?_,rfl⟩
 . cases lo with
   | none=>simp [sliceBounds,HT.sIx]
   | some i=>
     simp only[sliceBounds,HT.sIx,Option.getD_none,show (1:Int) > 0 by decide,if_true]
     by_cases h:i < 0
     . simp only[h,if_true]<;>omega
     . simp only[h,if_false]<;>omega
 . cases hi with
   | none=>simp [sliceBounds,HT.sIx]
   | some i=>
     simp only[sliceBounds,HT.sIx,Option.getD_none,show (1:Int) > 0 by decide,if_true]
     by_cases h:i < 0
     . simp only[h,if_true]<;>omega
     . simp only[h,if_false]<;>omega
theorem ZR (its:List Value) (lo hi:Option Int):slicePick its.toArray lo hi none=((its.drop (HT.sIx its.length 0 lo)).take (HT.sIx its.length its.length hi - HT.sIx its.length 0 lo)).toArray:=by
 obtain⟨h1,h2,h3⟩:=zq lo hi its.toArray.size
 unfold slicePick
 rw[h1,h2,h3]
 simp only[sliceRange_one,pick_run,List.size_toArray]<;>rfl
def wa (K:PySem.W.Frag):V->Option Int->Option Int->Hp->VK->Prop:=λx lo hi H Q=>∃a xs,x=.ref a/\SqL K H a xs/\∀p,H p=none->Q (.ref p) (upd H p (.lst (WK xs lo hi)))
theorem UQ:wz X (wa X.K):=by
 intro pins s σ H x v vl vu lo hi sl Q I rx hs pl pu h
 obtain⟨a,xs,rfl,hx,q⟩:=h
 cases rx
 obtain⟨its,r,ht,hz⟩:=I.list hx
 have hlen:=r.length
 refine⟨"list",_,slot_list_getitem.lookup,ht.isList.typeIs,?_⟩
 refine wpAny_getItem_list_slice ht.isList hs pl pu .none (by simp) ?_ (by rw[List.size_toArray]<;>omega)
 rw[ZR,<-hlen]
 refine⟨.ref s.heap.objs.size,_,I.laid (t':=s.toks) (o:=.lst (WK xs lo hi)) (λb ob q=>Heap.get?_push_of_some _ q) (Nat.le_refl _) ?_,rfl,q _ (I.hok.fresh (Nat.le_refl _))⟩
 exact⟨Nat.le_trans (Yl xs lo hi) hz,_,0,(r.drop (HT.sIx xs.length 0 lo)).take (HT.sIx xs.length xs.length hi - HT.sIx xs.length 0 lo),Heap.get?_push_size _ rfl⟩
def Jj:V->Bool
 | .non=>true
 | .bl _=>true
 | .int _=>true
 | .str _=>true
 | _=>false
def vK:V->V->Bool
 | .non,.non=>true
 | .bl a,.bl b=>a==b
 | .bl a,.int b=>(if a then 1 else 0)==b
 | .int a,.bl b=>a==(if b then 1 else 0)
 | .int a,.int b=>a==b
 | .str a,.str b=>a==b
 | _,_=>false
theorem yt {A:Around} {s:Shared} {y x:V} {u v:Value} (ry:qG y u) (rx:qG x v) (fy:Jj y=true) (fx:Jj x=true):SeqAt.EqAt A s u v (vK y x):=by
 cases y with
 | non=>
   cases ry
   cases x with
   | non=>cases rx;exact SeqAt.EqAt.same _
   | bl b=>cases rx;exact SeqAt.EqAt.none_bool b
   | int b=>obtain⟨t,rfl⟩:=rx;exact SeqAt.EqAt.none_int b t
   | str b=>obtain⟨t,rfl⟩:=rx;exact SeqAt.EqAt.none_str b t
   | _=>exact absurd (show false=true from fx) Bool.false_ne_true
 | bl a=>
   cases ry
   cases x with
   | non=>cases rx;exact SeqAt.EqAt.bool_none a
   | bl b=>cases rx;exact SeqAt.EqAt.bool_bool a b
   | int b=>obtain⟨t,rfl⟩:=rx;exact SeqAt.EqAt.bool_int a b t
   | str b=>obtain⟨t,rfl⟩:=rx;exact SeqAt.EqAt.bool_str a b t
   | _=>exact absurd (show false=true from fx) Bool.false_ne_true
 | int a=>
   obtain⟨t',rfl⟩:=ry
   cases x with
   | non=>cases rx;exact SeqAt.EqAt.int_none a t'
   | bl b=>cases rx;exact SeqAt.EqAt.int_bool a t' b
   | int b=>obtain⟨t,rfl⟩:=rx;exact SeqAt.EqAt.int_int a t' b t
   | str b=>obtain⟨t,rfl⟩:=rx;exact SeqAt.EqAt.int_str a t' b t
   | _=>exact absurd (show false=true from fx) Bool.false_ne_true
 | str a=>
   obtain⟨t',rfl⟩:=ry
   cases x with
   | non=>cases rx;exact SeqAt.EqAt.str_none a t'
   | bl b=>cases rx;exact SeqAt.EqAt.str_bool a t' b
   | int b=>obtain⟨t,rfl⟩:=rx;exact SeqAt.EqAt.str_int a t' b t
   | str b=>obtain⟨t,rfl⟩:=rx;exact SeqAt.EqAt.str_str a t' b t
   | _=>exact absurd (show false=true from fx) Bool.false_ne_true
 | _=>exact absurd (show false=true from fy) Bool.false_ne_true
def Y3 (x:V) (u:Value):Bool:=match u with
 | .none=>vK .non x
 | .bool b=>vK (.bl b) x
 | .int i _=>vK (.int i) x
 | .str z _=>vK (.str z) x
 | _=>false
theorem Ul {x y:V} {u:Value} (r:qG y u) (f:Jj y=true):Y3 x u=vK y x:=by
 cases y with
 | non=>cases r;rfl
 | bl b=>cases r;rfl
 | int i=>obtain⟨t,rfl⟩:=r;rfl
 | str z=>obtain⟨t,rfl⟩:=r;rfl
 | _=>exact absurd (show false=true from f) Bool.false_ne_true
theorem Jm {x:V}:∀{xs:List V} {us:List Value},qw xs us->xs.all Jj=true->us.any (Y3 x)=xs.any λy=>vK y x
 | _,_,.nil,_=>rfl
 | y::xs,u::us,.cons r t,f=>by
   rw[List.all_cons,Bool.and_eq_true]at f
   rw[List.any_cons,List.any_cons,Ul r f.1,Jm t f.2]
theorem QO {A:Around} {s:Shared} {x:V} {v:Value} (rx:qG x v) (fx:Jj x=true):∀{xs:List V} {us:List Value},qw xs us->xs.all Jj=true->∀u∈us,SeqAt.EqAt A s u v (Y3 x u)
 | _,_,.nil,_=>λu hu=>by cases hu
 | y::xs,u::us,.cons r t,f=>λu' hu=>by
   rw[List.all_cons,Bool.and_eq_true]at f
   rcases List.mem_cons.mp hu with rfl | hu
   . rw[Ul r f.1];exact yt r rx f.1 fx
   . exact QO rx fx t f.2 u' hu
def QI (x:V) (xs:List V):Bool:=xs.any λy=>vK y x
def kQ (K:PySem.W.Frag) (neg:Bool):R2:=λx y H Q=>∃p xs,y=.ref p/\(SqL K H p xs\/SqT K H p xs)/\Jj x=true/\xs.all Jj=true/\Q (.bl (if neg then !QI x xs else QI x xs)) H
theorem QU:JZ X (compareOp .In) (kQ X.K false):=by
 intro pins s σ H x y v u Q I rx ry h
 obtain⟨p,xs,rfl,hq,fx,fs,q⟩:=h
 cases ry
 rcases hq with hq | hq
 . obtain⟨its,r,pl,hz⟩:=I.list hq
   refine SeqAt.in_listAt (Y3 x) pl.isList (λw hw=>QO rx fx r fs w (by simpa using hw)) ⟨.bl _,H,I,rfl,?_⟩
   rw[show its.toArray.any (Y3 x)=its.any (Y3 x) by simp,Jm r fs]
   exact q
 . obtain⟨its,r,pl,hz⟩:=I.tuple hq
   refine SeqAt.in_tupleAt (Y3 x) pl (λw hw=>QO rx fx r fs w (by simpa using hw)) ⟨.bl _,H,I,rfl,?_⟩
   rw[show its.toArray.any (Y3 x)=its.any (Y3 x) by simp,Jm r fs]
   exact q
theorem Jd:JZ X (compareOp .NotIn) (kQ X.K true):=by
 intro pins s σ H x y v u Q I rx ry h
 obtain⟨p,xs,rfl,hq,fx,fs,q⟩:=h
 cases ry
 rcases hq with hq | hq
 . obtain⟨its,r,pl,hz⟩:=I.list hq
   refine SeqAt.notIn_listAt (Y3 x) pl.isList (λw hw=>QO rx fx r fs w (by simpa using hw)) ⟨.bl _,H,I,rfl,?_⟩
   rw[show its.toArray.any (Y3 x)=its.any (Y3 x) by simp,Jm r fs]
   exact q
 . obtain⟨its,r,pl,hz⟩:=I.tuple hq
   refine SeqAt.notIn_tupleAt (Y3 x) pl (λw hw=>QO rx fx r fs w (by simpa using hw)) ⟨.bl _,H,I,rfl,?_⟩
   rw[show its.toArray.any (Y3 x)=its.any (Y3 x) by simp,Jm r fs]
   exact q
theorem jL:jU X (.builtin "len") (λxs H Q=>∃p ys,xs=[.ref p]/\(SqL X.K H p ys\/SqT X.K H p ys)/\Q (.int ys.length) H):=by
 intro pins s σ H xs us Q I r h
 obtain⟨p,ys,rfl,hq,q⟩:=h
 obtain⟨u,rfl,rx⟩:=Qc r
 cases rx
 have hn:=Zy
 rcases hq with hq | hq
 . obtain⟨its,r',pl,hz⟩:=I.list hq
   have hlen:=r'.length
   exact Calls.call_len_list pl.isList (by simp only[List.size_toArray]<;>omega) ⟨.int ys.length,H,I.tok _,⟨s.toks+1,by rw[List.size_toArray,hlen]⟩,q⟩
 . obtain⟨its,r',pl,hz⟩:=I.tuple hq
   have hlen:=r'.length
   exact len_tuple pl (by simp only[List.size_toArray]<;>omega) ⟨.int ys.length,H,I.tok _,⟨s.toks+1,by rw[List.size_toArray,hlen]⟩,q⟩
theorem jK:jU X (.builtin "len") (λxs H Q=>∃z,xs=[.str z]/\z.length<=sizeLine/\Q (.int z.length) H):=by
 intro pins s σ H xs us Q I r h
 obtain⟨z,rfl,hz,q⟩:=h
 obtain⟨u,rfl,t,rfl⟩:=Qc r
 have hn:=Zy
 exact len_str (by omega) ⟨.int z.length,H,I.tok _,⟨_,rfl⟩,q⟩
theorem QA:jU X (.type "list") (λxs H Q=>∃p ys,xs=[.ref p]/\(SqL X.K H p ys\/SqT X.K H p ys)/\∀l,H l=none->Q (.ref l) (upd H l (.lst ys))):=by
 intro pins s σ H xs us Q I r h
 obtain⟨p,ys,rfl,hq,q⟩:=h
 obtain⟨u,rfl,rx⟩:=Qc r
 cases rx
 have fin:∀(its:List Value),qw ys its->ys.length<=sizeLine->∀(h':Heap) (c':Nat),(∀b o',s.heap.get? b=some o'->h'.get? b=some o')->
     h'.get? s.heap.objs.size=some {cls:=.type "list",dict:=none,data:=.seq its.toArray c',slots:=#[]}->EP X pins σ Q (.ref s.heap.objs.size) {s with heap:=h'}:=λits r' hz h' c' kp e=>
   ⟨.ref s.heap.objs.size,_,I.laid (t':=s.toks) kp (Nat.le_refl _) (show qE X.prog X.w _ h' _ (.lst ys) from⟨hz,its,c',r',e⟩),rfl,q _ (I.hok.fresh (Nat.le_refl _))⟩
 rcases hq with hq | hq
 . obtain⟨its,r',pl,hz⟩:=I.list hq
   have hlen:=r'.length
   obtain⟨o,ho,hc,n,hd⟩:=pl.isList
   exact call_list_seq p (.inl rfl) ho hc hd (λh' c' kp e=>fin its r' hz h' c' kp e) (by simp only[List.size_toArray]<;>omega)
 . obtain⟨its,r',pl,hz⟩:=I.tuple hq
   have hlen:=r'.length
   obtain⟨o,ho,hc,n,hd⟩:=pl
   exact call_list_seq p (.inr rfl) ho hc hd (λh' c' kp e=>fin its r' hz h' c' kp e) (by simp only[List.size_toArray]<;>omega)
theorem jx:jU X (.type "tuple") (λxs H Q=>∃p ys,xs=[.ref p]/\((SqL X.K H p ys/\∀l,H l=none->Q (.ref l) (upd H l (.tup ys)))\/(SqT X.K H p ys/\Q (.ref p) H))):=by
 intro pins s σ H xs us Q I r h
 obtain⟨p,ys,rfl,h⟩:=h
 obtain⟨u,rfl,rx⟩:=Qc r
 cases rx
 rcases h with ⟨hq,q⟩ | ⟨hq,q⟩
 . obtain⟨its,r',pl,hz⟩:=I.list hq
   have hlen:=r'.length
   refine call_tuple_list pl.isList (λh' kp=>?_) (by simp only[List.size_toArray]<;>omega)
   have I1:qp X pins σ H {s with heap:=h'}:=I.kept (t':=s.toks) kp
   have I2:qp X pins σ (upd H h'.objs.size (.tup ys)) {s with heap:=h'.push {cls:=.type "tuple",data:=.seq its.toArray}}:=
     I1.laid (t':=s.toks) (λb o e=>Heap.get?_push_of_some _ e) (Nat.le_refl _) (show qE X.prog X.w _ _ _ (.tup ys) from⟨hz,its,r',IsTup.new _ _⟩)
   exact⟨.ref h'.objs.size,_,I2,rfl,q _ (I1.hok.fresh (Nat.le_refl _))⟩
 . obtain⟨its,r',pl,hz⟩:=I.tuple hq
   exact call_tuple_same pl ⟨.ref p,H,I,rfl,q⟩
def xU (K:PySem.W.Frag) (T:String) (x:V) (H:Hp):Prop:=match x with
 | .str _=>T="str"
 | .int _=>T="int"
 | .ref p=>(T="list"/\∃xs,SqL K H p xs)\/(T="tuple"/\∃o,K.lookup p=some o/\o.cls=.type "tuple"/\o.dict=none)\/
     (T="dict"/\((∃kvs,H p=some (.dK kvs))\/∃kvs,H p=some (.dT kvs)))\/(T="set"/\∃S n,H p=some (.set S n))
 | _=>False
theorem WX {pins:List (Addr×Obj)} {σ:St} {H:Hp} {s:Shared} {T:String} {x:V} {v:Value} (I:qp X pins σ H s) (r:qG x v) (ty:xU X.K T x H):
   s.TypeIs v T/\∀a,v=.ref a->∃ob,s.heap.get? a=some ob/\ob.dict=none:=by
 cases x with
 | str z=>
   obtain⟨t,rfl⟩:=r
   cases (show T="str" from ty)
   exact⟨typeIs_str s z t,λ_ e=>nomatch e⟩
 | int i=>
   obtain⟨t,rfl⟩:=r
   cases (show T="int" from ty)
   exact⟨typeIs_int s i t,λ_ e=>nomatch e⟩
 | ref p=>
   cases r
   rcases ty with ⟨rfl,xs,hq⟩ | ⟨rfl,o,hk,hc,hd⟩ | ⟨rfl,hk⟩ | ⟨rfl,S,n,hk⟩
   . obtain⟨its,_,pl,_⟩:=I.list hq
     refine⟨pl.isList.typeIs,λa e=>?_⟩
     cases e
     obtain⟨o,n,e,c,hd,_⟩:=pl
     exact⟨o,e,hd⟩
   . refine⟨⟨o,I.kIn p o hk,hc⟩,λa e=>?_⟩
     cases e
     exact⟨o,I.kIn _ o hk,hd⟩
   . have z:∃o,s.heap.get? p=some o/\o.ExactDict:=by
       rcases hk with ⟨kvs,hk⟩ | ⟨kvs,hk⟩
       . obtain⟨_,_,_,_,o,_,_,e,ex,_⟩:=I.hok p _ hk
         exact⟨o,e,ex⟩
       . obtain⟨_,_,_,_,o,_,_,e,ex,_⟩:=I.hok p _ hk
         exact⟨o,e,ex⟩
     obtain⟨o,e,ex⟩:=z
     refine⟨⟨o,e,ex.1⟩,λa e2=>?_⟩
     cases e2
     exact⟨o,e,ex.2.1⟩
   . obtain⟨o,_,_,_,e,ex,_⟩:=I.hok p _ hk
     refine⟨⟨o,e,ex.1⟩,λa e2=>?_⟩
     cases e2
     exact⟨o,e,ex.2.1⟩
 | _=>exact False.elim ty
def x2 (K:PySem.W.Frag) (T:String) (r:V->List V->Hp->VK->Prop) (to:TE):TE:=λσ H Q=>to σ H λx H1=>xU K T x H1/\r x [] H1 Q
def tBM (K:PySem.W.Frag) (T:String) (r:V->List V->Hp->VK->Prop) (to:TE) (t:TA):TE:=λσ H Q=>to σ H λx H1=>xU K T x H1/\t σ H1 λxs H2=>r x xs H2 Q
variable {o e:Expr} {es:List Expr} {to:TE} {t:TA} {name:Str} {apos cpos:Pos} {T id:String} {r:V->List V->Hp->VK->Prop}
theorem zB (pa:PlainAttrs T) (slot:Slot T name id) (hty:typeOf (.builtin id)=pure (.type "method_descriptor")) (hm:xS X id r) (ho:JE X o to) (hbase:attributeBase o name X.env (eval o X.env)=eval o X.env:=by rfl) (hline:(apos.endLine==cpos.line)=true:=by rfl):JE X (.Call (.Attribute o name apos) [] [] cpos) (x2 X.K T r to):=.of (by
 have ho:=ho.to
 intro pins s σ H Q I h
 refine wpAny_Call_method0_late hbase hline (qP (ho pins s σ H _ I h) λv s1 ⟨x,H1,I1,r1,ty,q1⟩=>?_)
 obtain⟨h1,h2⟩:=WX I1 r1 ty
 exact⟨T,id,pa,slot,hty,h1,h2,Calls.callWith_builtin rfl (PySem.evalArgs_none (hm pins s1 σ H1 x [] v [] Q I1 r1 .nil q1))⟩)
theorem xf (pa:PlainAttrs T) (slot:Slot T name id) (hty:typeOf (.builtin id)=pure (.type "method_descriptor")) (hm:xS X id r) (ho:PE X o to) (ha:PA X (e::es) t)
   (hbase:attributeBase o name X.env (eval o X.env)=eval o X.env:=by rfl)
   (hfew:((backTo cpos (starEach (e::es) X.env)).all (λx=> !x.1)&&(backToKw cpos (keywordEach [] X.env)).all (λx=>x.1.isSome)
     &&decide ((e::es).length+([]:List Keyword).length+(if ([]:List Keyword).isEmpty then 0 else 1) < 30))=true:=by rfl)
   (hline:(apos.endLine==cpos.line)=true:=by rfl) (hs:starEach (e::es) X.env=(false,eval e X.env)::starEach es X.env:=by rfl) (hplain:(backTo cpos (starEach es X.env)).any (·.1)=false:=by rfl):
   PE X (.Call (.Attribute o name apos) (e::es) [] cpos) (tBM X.K T r to t):=by
 intro pins s σ H Q I h
 refine wpAny_Call_method_late hbase hfew hline rfl (qP (ho pins s σ H _ I h) λv s1 ⟨x,H1,I1,r1,ty,q1⟩=>?_)
 obtain⟨h1,h2⟩:=WX I1 r1 ty
 refine⟨T,id,pa,slot,hty,h1,h2,?_⟩
 have hA:=ha cpos pins s1 σ H1 _ I1 q1
 rw[hs]at hA ⊢
 refine Calls.callWith_builtin (by show (false || (backTo cpos (starEach es X.env)).any (·.1))=false;rw[hplain]<;>rfl) (Calls.evalArgs_plain ?_)
 exact qP hA λus s2 ⟨vs,H2,I2,r2,q2⟩=>hm pins s2 σ H2 x vs v us Q I2 r1 r2 q2
theorem Jh (pa:PlainAttrs T) (slot:Slot T name id) (hty:typeOf (.builtin id)=pure (.type "method_descriptor")) (hm:xS X id r) (ho:JE X o to) (ha:JA X (e::es) t) (hbase:attributeBase o name X.env (eval o X.env)=eval o X.env:=by rfl) (hfew:((backTo cpos (starEach (e::es) X.env)).all (λx=> !x.1)&&(backToKw cpos (keywordEach [] X.env)).all (λx=>x.1.isSome)
     &&decide ((e::es).length+([]:List Keyword).length+(if ([]:List Keyword).isEmpty then 0 else 1) < 30))=true:=by rfl) (hline:(apos.endLine==cpos.line)=true:=by rfl) (hs:starEach (e::es) X.env=(false,eval e X.env)::starEach es X.env:=by rfl) (hplain:(backTo cpos (starEach es X.env)).any (·.1)=false:=by rfl):JE X (.Call (.Attribute o name apos) (e::es) [] cpos) (tBM X.K T r to t):=.of (xf pa slot hty hm ho.to ha.to hbase hfew hline hs hplain)
end
end L2
namespace L2
open PySem PySem.Spec PyProof.Rows
def wB (X:Cx) (id:String) (r:V->List V->Hp->VK->Prop):Prop:=
 ∀(pins:List (Addr×Obj)) (s:Shared) (σ:St) (H:Hp) (x:V) (xs:List V) (v:Value) (us:List Value) (Q:VK),qp X pins σ H s->qG x v->qw xs us->r x xs H Q->
   wpAny (model X.prog X.w) X.A (call (.builtin id) (v::us)) (EP X pins σ Q) X.xe s
theorem qw.one:∀{x:V} {us:List Value},qw [x] us->∃u,us=[u]/\qG x u
 | _,_,.cons r .nil=>⟨_,rfl,r⟩
theorem qw.zero:∀{us:List Value},qw [] us->us=[]
 | _,.nil=>rfl
theorem qw.reverse {xs:List V} {us:List Value} (h:qw xs us):qw xs.reverse us.reverse:=by
 induction h with
 | nil=>exact .nil
 | cons r t ih=>rw[List.reverse_cons,List.reverse_cons];exact qw.append ih (.cons r .nil)
section
variable {X:Cx} {pins:List (Addr×Obj)} {σ:St} {H:Hp} {s:Shared} {l b:Addr} {xs ys zs:List V}
theorem qp.lset {its its':List Value} {n:Nat} {f:Array Value->Array Value} {t':Nat} (I:qp X pins σ H s) (hH:H l=some (.lst xs))
   (e:s.heap.get? l=some {cls:=.type "list",data:=.seq its.toArray n}) (hf:f its.toArray=its'.toArray) (hv:qw ys its') (hz:ys.length<=sizeLine):
   qp X pins σ (upd H l (.lst ys)) {s with heap:=s.heap.update l (Obj.mapSeq f),toks:=t'}:=by
 have q:=PySem.IsL.update e f
 rw[hf]at q
 refine I.write (x:=l) (e:=l) (by rw[hH];exact trivial) (.inl rfl) (λb' u hb hu=>(Heap.get?_update_other s.heap (Obj.mapSeq f) (Ne.symm hb)).trans hu) ⟨_,q⟩ ?_
 exact⟨hz,its',_,hv,q⟩
theorem qp.lnew {its:List Value} {t':Nat} (I:qp X pins σ H s) (hv:qw ys its) (hz:ys.length<=sizeLine):
   qp X pins σ (upd H s.heap.objs.size (.lst ys)) {s with heap:=s.heap.push {cls:=.type "list",data:=.seq its.toArray},toks:=t'}:=
 I.laid (λ_ _ q=>Heap.get?_push_of_some _ q) (Nat.le_refl _) ⟨hz,its,0,hv,Heap.get?_push_size _ rfl⟩
theorem qp.fresh (I:qp X pins σ H s):H s.heap.objs.size=none:=I.hok.fresh (Nat.le_refl _)
theorem qp.lstM (I:qp X pins σ H s) (hH:H l=some (.lst xs)):xs.length<=sizeLine/\∃(its:List Value) (n:Nat),qw xs its/\xs.length=its.length/\s.heap.get? l=some {cls:=.type "list",data:=.seq its.toArray n}:=by
 obtain⟨z,its,n,r,e⟩:=I.hok l _ hH
 exact⟨z,its,n,r,r.length,e⟩
end
section
variable {X:Cx}
def U4:V->List V->Hp->VK->Prop:=λx vs H Q=>∃l xs y,x=.ref l/\vs=[y]/\H l=some (.lst xs)/\xs.length < sizeLine/\Q .non (upd H l (.lst (xs++[y])))
theorem jk:wB X "list.append" U4:=by
 intro pins s σ H x vs v us Q I rx rv h
 obtain⟨l,xs,y,rfl,rfl,hH,hz,q⟩:=h
 cases rx
 obtain⟨u,rfl,ru⟩:=rv.one
 obtain⟨z,its,n,r,hl,e⟩:=I.lstM hH
 refine call_meets F.slot_list_append ⟨_,e,rfl⟩ F.entry_list_append (F.args_list_append_2 _ _) (PySem.list_append l its.toArray n u (by rw[List.size_toArray];omega)) ⟨e,?_⟩
 refine⟨.non,_,I.lset (its':=its++[u]) hH e (by simp) (r.append (.cons ru .nil)) ?_,rfl,q⟩
 rw[List.length_append,List.length_singleton]
 omega
def Vr:V->List V->Hp->VK->Prop:=λx vs H Q=>∃l xs,x=.ref l/\vs=[]/\H l=some (.lst xs)/\Q .non (upd H l (.lst xs.reverse))
theorem Zx:wB X "list.reverse" Vr:=by
 intro pins s σ H x vs v us Q I rx rv h
 obtain⟨l,xs,rfl,rfl,hH,q⟩:=h
 cases rx
 have hus:=rv.zero
 subst hus
 obtain⟨z,its,n,r,hl,e⟩:=I.lstM hH
 refine call_meets F.slot_list_reverse ⟨_,e,rfl⟩ F.entry_list_reverse (F.args_list_reverse_1 _) (AutoSeq1.list_reverse_list_0 l its.toArray n (by rw[List.size_toArray];omega)) ⟨e,?_⟩
 refine⟨.non,_,I.lset (its':=its.reverse) hH e (by simp) r.reverse ?_,rfl,q⟩
 rw[List.length_reverse]
 omega
def kS:V->List V->Hp->VK->Prop:=λx vs H Q=>∃l xs,x=.ref l/\vs=[]/\H l=some (.lst xs)/\Q .non (upd H l (.lst []))
theorem z7:wB X "list.clear" kS:=by
 intro pins s σ H x vs v us Q I rx rv h
 obtain⟨l,xs,rfl,rfl,hH,q⟩:=h
 cases rx
 have hus:=rv.zero
 subst hus
 obtain⟨z,its,n,r,hl,e⟩:=I.lstM hH
 refine call_meets F.slot_list_clear ⟨_,e,rfl⟩ F.entry_list_clear (F.args_list_clear_1 _) (AutoSeq1.list_clear_list_0 l its.toArray n (by rw[List.size_toArray];omega)) ⟨e,?_⟩
 exact⟨.non,_,I.lset (its':=[]) (ys:=[]) hH e rfl .nil (Nat.zero_le _),rfl,q⟩
def wc:R2:=λx y H Q=>∃l b xs zs,x=.ref l/\y=.ref b/\H l=some (.lst xs)/\H b=some (.lst zs)/\xs.length+zs.length<=sizeLine/\∀p,H p=none->Q (.ref p) (upd H p (.lst (xs++zs)))
theorem Jt:JZ X (binaryOp .Add) wc:=by
 intro pins s σ H x y v u Q I rx ry h
 obtain⟨l,b,xs,zs,rfl,rfl,hH,hB,hz,q⟩:=h
 cases rx
 cases ry
 obtain⟨z,its,n,r,hl,e⟩:=I.lstM hH
 obtain⟨z2,its2,n2,r2,hl2,e2⟩:=I.lstM hB
 refine PySem.P.add_list e e2 ?_ (by rw[List.size_toArray,List.size_toArray];omega)
 have ea:its.toArray++its2.toArray=(its++its2).toArray:=by simp
 rw[ea]
 exact⟨.ref _,_,I.lnew (t':=s.toks) (r.append r2) (by rw[List.length_append];omega),rfl,q _ I.fresh⟩
end
section
variable {prog:Program} {w:World} {A:Around} {E:Value->Shared->Prop} {s:Shared}
set_option maxRecDepth 100000 in
end
section
variable {X:Cx}
end
end L2
namespace L2
open PySem PySem.Spec PyProof.Rows
section
variable {κ:Type} [DecidableEq κ]
def jo (kvs:List (κ×V)) (k:κ):Option V:=(kvs.find? λkv=>decide (kv.1=k)).map (·.2)
def ju (kvs:List (κ×V)) (k:κ) (v:V):List (κ×V):=
 if (kvs.any λkv=>decide (kv.1=k))=true then kvs.map (λkv=>if kv.1=k then (kv.1,v) else kv) else kvs++[(k,v)]
theorem qY {p:κ×V} {r:List (κ×V)} {k:κ} (e:p.1=k):jo (p::r) k=some p.2:=by simp [jo,List.find?_cons,e]
theorem qZ {p:κ×V} {r:List (κ×V)} {k:κ} (e:¬p.1=k):jo (p::r) k=jo r k:=by simp [jo,List.find?_cons,e]
theorem Qm (k:κ):∀kvs:List (κ×V),(kvs.any λkv=>decide (kv.1=k))=(jo kvs k).isSome
 | []=>rfl
 | p::r=>by
   rw[List.any_cons]
   by_cases e:p.1=k
   . simp only[qY e,decide_eq_true e,Bool.true_or,Option.isSome_some]
   . rw[qZ e,decide_eq_false e,Bool.false_or];exact Qm k r
theorem zP (k j:κ) (y:V):∀kvs:List (κ×V),jo (kvs.map λkv=>if kv.1=k then (kv.1,y) else kv) j=(jo kvs j).map λx=>if j=k then y else x
 | []=>rfl
 | p::r=>by
   have ih:=zP k j y r
   rw[List.map_cons]
   by_cases h:p.1=k
   . rw[if_pos h]
     by_cases e:p.1=j
     . rw[qY (p:=(p.1,y)) e,qY e,Option.map_some,if_pos (e.symm.trans h)]
     . rw[qZ (p:=(p.1,y)) e,qZ e,ih]
   . rw[if_neg h]
     by_cases e:p.1=j
     . rw[qY (p:=p) e,qY e,Option.map_some,if_neg (λz=>h (e.trans z))]
     . rw[qZ (p:=p) e,qZ e,ih]
theorem ZV (k j:κ) (y:V):∀kvs:List (κ×V),jo kvs k=none->jo (kvs++[(k,y)]) j=if j=k then some y else jo kvs j
 | [],_=>by
   by_cases e:k=j
   . rw[if_pos e.symm];exact qY (p:=(k,y)) e
   . rw[if_neg (λz=>e z.symm)];exact qZ (p:=(k,y)) e
 | p::r,hn=>by
   rw[List.cons_append]
   have hk:¬p.1=k:=λz=>by rw[qY z]at hn;cases hn
   rw[qZ hk]at hn
   have ih:=ZV k j y r hn
   by_cases e:p.1=j
   . rw[qY e,qY e,if_neg (λz=>hk (e.trans z))]
   . rw[qZ e,qZ e,ih]
theorem zO (kvs:List (κ×V)) (k j:κ) (y:V):jo (ju kvs k y) j=if j=k then some y else jo kvs j:=by
 unfold ju
 by_cases a:(kvs.any λkv=>decide (kv.1=k))=true
 . rw[if_pos a,zP]
   rw[Qm]at a
   by_cases e:j=k
   . obtain⟨x,hx⟩:=Option.isSome_iff_exists.mp a
     rw[if_pos e,e,hx,Option.map_some,if_pos rfl]
   . rw[if_neg e]
     cases jo kvs j with
     | none=>rfl
     | some x=>rw[Option.map_some,if_neg e]
 . rw[if_neg a]
   refine ZV k j y kvs ?_
   rw[Qm]at a
   cases q:jo kvs k with
   | none=>rfl
   | some x=>rw[q]at a;exact(a rfl).elim
theorem QP (kvs:List (κ×V)) (k:κ) (v:V):(ju kvs k v).length<=kvs.length+1:=by
 unfold ju
 split
 . rw[List.length_map];omega
 . rw[List.length_append,List.length_cons,List.length_nil];omega
theorem Vt {kvs:List (κ×V)} {k:κ} (v:V) (h:jo kvs k=none):ju kvs k v=kvs++[(k,v)]:=by
 unfold ju
 rw[Qm,h]
 exact if_neg (by decide)
theorem QJ.isSome_eq {o:Option V} {u:Option Value} (r:QJ o u):o.isSome=u.isSome:=by
 cases o with
 | none=>cases u with
   | none=>rfl
   | some _=>exact(show False from r).elim
 | some _=>cases u with
   | none=>exact(show False from r).elim
   | some _=>rfl
theorem KV.val {kvs:List (κ×V)} {vs:List (κ×Value)} (r:KV kvs vs) (k:κ):QJ (jo kvs k) (valueAt vs k):=by
 unfold KV at r
 induction r with
 | nil=>exact True.intro
 | @cons p q ps qs h t ih=>
   obtain⟨h1,h2⟩:=h
   by_cases e:p.1=k
   . have e':q.1=k:=h1.symm.trans e
     have b:valueAt (q::qs) k=some q.2:=by simp [valueAt,List.find?_cons,e']
     rw[qY e,b];exact h2
   . have e':¬q.1=k:=λz=>e (h1.trans z)
     have b:valueAt (q::qs) k=valueAt qs k:=by simp [valueAt,List.find?_cons,e']
     rw[qZ e,b];exact ih
theorem KV.any {kvs:List (κ×V)} {vs:List (κ×Value)} (r:KV kvs vs) (k:κ):(kvs.any λkv=>decide (kv.1=k))=vs.any λkv=>decide (kv.1=k):=by
 unfold KV at r
 induction r with
 | nil=>rfl
 | cons h t ih=>rw[List.any_cons,List.any_cons,ih,h.1]
theorem KV.repl {kvs:List (κ×V)} {vs:List (κ×Value)} (r:KV kvs vs) (k:κ) {y:V} {u:Value} (ry:qG y u):
   KV (kvs.map λkv=>if kv.1=k then (kv.1,y) else kv) (vs.map λkv=>if kv.1=k then (kv.1,u) else kv):=by
 unfold KV at r ⊢
 induction r with
 | nil=>exact .nil
 | @cons p q ps qs h t ih=>
   rw[List.map_cons,List.map_cons]
   refine .cons ?_ ih
   obtain⟨h1,h2⟩:=h
   by_cases e:p.1=k
   . rw[if_pos e,if_pos (h1.symm.trans e)];exact⟨h1,ry⟩
   . rw[if_neg e,if_neg (λz=>e (h1.trans z))];exact⟨h1,h2⟩
theorem KV.put {kvs:List (κ×V)} {vs:List (κ×Value)} (r:KV kvs vs) (k:κ) {y:V} {u:Value} (ry:qG y u):KV (ju kvs k y) (stored vs k u):=by
 unfold ju stored
 rw[r.any k]
 by_cases e:(vs.any λkv=>decide (kv.1=k))=true
 . rw[if_pos e,if_pos e];exact r.repl k ry
 . rw[if_neg e,if_neg e];exact Paired.snoc r ⟨rfl,ry⟩
theorem KV.length {kvs:List (κ×V)} {vs:List (κ×Value)} (r:KV kvs vs):kvs.length=vs.length:=Paired.length r
end
theorem Z7 {P:Program} {w:World} {k:qO} {u:Value} (r:qG (kV k) u):(je P w).is k u=true:=by
 cases k with
 | inl i=>obtain⟨t,e⟩:=(show ∃t,u=Value.int i t from r);subst e;exact z9 P w i t
 | inr x=>obtain⟨t,e⟩:=(show ∃t,u=Value.str x t from r);subst e;exact z8 P w x t
theorem Z9 {P:Program} {w:World}:∀{ks:List qO} {us:List Value},qw (ks.map kV) us->ItemsAre (je P w) ks us
 | [],_,r=>by rw[List.map_nil]at r;cases r;exact .nil
 | k::ks,_,r=>by
   rw[List.map_cons]at r
   cases r with
   | cons h t=>exact .cons (Z7 h) (Z9 t)
abbrev KT (H:Hp):List (List qO×V)->List (List qO×Addr×Value)->Prop:=Paired λp q=>p.1=q.1/\H q.2.1=some (.tup (p.1.map kV))/\qG p.2 q.2.2
theorem KT.val {H:Hp} {kvs:List (List qO×V)} {xs:List (List qO×Addr×Value)} (r:KT H kvs xs) (k:List qO):QJ (jo kvs k) ((atKey xs k).map (·.2)):=by
 induction r with
 | nil=>exact True.intro
 | @cons p q ps qs h t ih=>
   obtain⟨h1,_,h2⟩:=h
   by_cases e:p.1=k
   . have e':q.1=k:=h1.symm.trans e
     have b:atKey (q::qs) k=some q.2:=by simp [atKey,List.find?_cons,e']
     rw[qY e,b];exact h2
   . have e':¬q.1=k:=λz=>e (h1.trans z)
     have b:atKey (q::qs) k=atKey qs k:=by simp [atKey,List.find?_cons,e']
     rw[qZ e,b];exact ih
theorem KT.repl {H:Hp} {kvs:List (List qO×V)} {xs:List (List qO×Addr×Value)} (r:KT H kvs xs) (k:List qO) {y:V} {u:Value} (ry:qG y u):
   KT H (kvs.map λkv=>if kv.1=k then (kv.1,y) else kv) (xs.map (putAt k u)):=by
 induction r with
 | nil=>exact .nil
 | @cons p q ps qs h t ih=>
   rw[List.map_cons,List.map_cons]
   refine .cons ?_ ih
   obtain⟨h1,h2,h3⟩:=h
   unfold putAt
   by_cases e:p.1=k
   . rw[if_pos e,if_pos (h1.symm.trans e)];exact⟨h1,h2,ry⟩
   . rw[if_neg e,if_neg (λz=>e (h1.trans z))];exact⟨h1,h2,h3⟩
theorem KT.put {H:Hp} {kvs:List (List qO×V)} {xs:List (List qO×Addr×Value)} (r:KT H kvs xs) (k:List qO) {b:Addr} {y:V} {u:Value} (hb:H b=some (.tup (k.map kV))) (ry:qG y u):
   KT H (ju kvs k y) (storedH xs k b u):=by
 have e:(kvs.any λkv=>decide (kv.1=k))=(atKey xs k).isSome:=by
   rw[Qm,(r.val k).isSome_eq,Option.isSome_map]
 unfold ju storedH
 rw[e]
 by_cases q:(atKey xs k).isSome=true
 . rw[if_pos q,if_pos q];exact r.repl k ry
 . rw[if_neg q,if_neg q];exact Paired.snoc r ⟨rfl,hb,ry⟩
theorem KT.keeps {H H':Hp} {kvs:List (List qO×V)} {xs:List (List qO×Addr×Value)} (r:KT H kvs xs) (ht:∀b ys,H b=some (.tup ys)->H' b=some (.tup ys)):KT H' kvs xs:=
 Paired.mapP r λ_ _ z=>⟨z.1,ht _ _ z.2.1,z.2.2⟩
section
variable {P:Program} {w:World} {H:Hp} {h:Heap} {a:Addr}
theorem ki {u:HO} (ok:QK P w H h) (e:Rd H a u):qE P w H h a u:=e.ok ok
theorem Yf {kvs:List (qO×V)} (ok:QK P w H h) (e:Rd H a (.dK kvs)):kvs.length<=sizeLine/\(a==sysModules)=false/\∃vs,KV kvs vs/\h.DictOf (je P w) a vs:=
 show qE P w H h a (.dK kvs) from ki ok e
theorem kt {kvs:List (qO×V)} (ok:QK P w H h) (e:H a=some (.dK kvs)):kvs.length<=sizeLine/\(a==sysModules)=false/\∃vs,KV kvs vs/\h.DictOf (je P w) a vs:=Yf ok (.inl e)
theorem ZA {ks:List qO} (ok:QK P w H h) (e:H a=some (.tup (ks.map kV))):(tupleKind (je P w)).is h ks a:=by
 obtain⟨_,its,r,o,h1,h2,n,h3⟩:=(show qE P w H h a (.tup (ks.map kV)) from ok a _ e)
 exact⟨o,its.toArray,n,h1,h2,h3,by simpa using Z9 r⟩
theorem Ye {kvs:List (List qO×V)} (ok:QK P w H h) (e:Rd H a (.dT kvs)):kvs.length<=sizeLine/\(a==sysModules)=false/\
   ∃xs,KT H kvs xs/\h.DictOfH (tupleKind (je P w)) a xs:=by
 obtain⟨z,y,xs,r,o,es,ep,h1,h2,h3,h4,h5⟩:=(show qE P w H h a (.dT kvs) from ki ok e)
 refine⟨z,y,xs,r,o,es,ep,h1,h2,h3,h4,λx hx=>?_,h5⟩
 have all:∀{l:List (List qO×V)} {m:List (List qO×Addr×Value)},KT H l m->∀x∈m,(tupleKind (je P w)).is h x.1 x.2.1:=by
   intro l m q
   induction q with
   | nil=>intro x hx;exact nomatch hx
   | @cons p q ps qs hq t ih=>
     intro x hx
     rcases List.mem_cons.mp hx with e | hx
     . subst e
       exact ZA ok (by rw[<-hq.1];exact hq.2.1)
     . exact ih x hx
 exact all r x hx
theorem xy {kvs:List (List qO×V)} (ok:QK P w H h) (e:H a=some (.dT kvs)):kvs.length<=sizeLine/\(a==sysModules)=false/\
   ∃xs,KT H kvs xs/\h.DictOfH (tupleKind (je P w)) a xs:=Ye ok (.inl e)
end
def jW (H:Hp) (a:Addr) (y:V) (r:Option V):Prop:=
 (∃kvs k,Rd H a (.dK kvs)/\y=kV k/\r=jo kvs k)\/∃kvs k b,Rd H a (.dT kvs)/\y=.ref b/\H b=some (.tup (k.map kV))/\r=jo kvs k
def Jp (H:Hp) (a:Addr) (y v:V) (H':Hp):Prop:=
 (∃kvs k,H a=some (.dK kvs)/\y=kV k/\kvs.length < sizeLine/\H'=upd H a (.dK (ju kvs k v)))\/
 ∃kvs k b,H a=some (.dT kvs)/\y=.ref b/\H b=some (.tup (k.map kV))/\kvs.length < sizeLine/\H'=upd H a (.dT (ju kvs k v))
theorem jW.k {H:Hp} {a:Addr} {kvs:List (qO×V)} {k:qO} (e:H a=some (.dK kvs)):jW H a (kV k) (jo kvs k):=.inl ⟨kvs,k,.inl e,rfl,rfl⟩
theorem Jp.k {H:Hp} {a:Addr} {kvs:List (qO×V)} {k:qO} {v:V} (e:H a=some (.dK kvs)) (hl:kvs.length < sizeLine):Jp H a (kV k) v (upd H a (.dK (ju kvs k v))):=.inl ⟨kvs,k,e,rfl,hl,rfl⟩
theorem Jp.t {H:Hp} {a b:Addr} {kvs:List (List qO×V)} {k:List qO} {v:V} (e:H a=some (.dT kvs)) (eb:H b=some (.tup (k.map kV))) (hl:kvs.length < sizeLine):
   Jp H a (.ref b) v (upd H a (.dT (ju kvs k v))):=.inr ⟨kvs,k,b,e,rfl,eb,hl,rfl⟩
section
variable {X:Cx} {pins:List (Addr×Obj)} {σ:St} {H:Hp} {s:Shared} {a:Addr} {y v:V} {u r:Value} {o:Option V} {A:Around} {E:Value->Shared->Prop}
theorem qp.big (I:qp X pins σ H s):sysModules < s.heap.objs.size:=by
 have h:mainGlobals < s.heap.objs.size:=(I.mod.glob.keeps I.bk).lt
 exact Nat.lt_trans (by decide) h
theorem WJ {Q:Value->Shared->Prop} (hu:A.units+1 < cLine) (I:qp X pins σ H s) (g:jW H a y (some v)) (ry:qG y u) (h:∀w' s',qp X pins σ H s'->qG v w'->Q w' s'):
   wpAny (model X.prog X.w) A (getItem (.ref a) u) Q E s:=by
 rcases g with ⟨kvs,k,e,ey,l⟩ | ⟨kvs,k,b,e,ey,eb,l⟩
 . subst ey
   obtain⟨z,hd,vs,rel,dd⟩:=Yf I.hok e
   obtain⟨w',hw,rw'⟩:=QJ.some_of (v:=v) (o:=valueAt vs k) (by rw[l];exact rel.val k)
   exact wpAny_getItem_of (Z7 ry) dd.mapOf hw (h w' _ (I.tok _) rw')
 . subst ey
   cases (show u=Value.ref b from ry)
   obtain⟨z,hd,xs,rel,dd⟩:=Ye I.hok e
   obtain⟨w',hw,rw'⟩:=QJ.some_of (v:=v) (o:=(atKey xs k).map (·.2)) (by rw[l];exact rel.val k)
   obtain⟨p,hp,hp2⟩:=Option.map_eq_some_iff.mp hw
   refine wpAny_getItem_heap (tupleKind_room_in1 hu) (ZA I.hok eb) dd hp ?_
   rw[hp2]
   exact h w' _ (I.tok _) rw'
theorem wx {Q:Value->Shared->Prop} (hu:A.units+1 < cLine) (I:qp X pins σ H s) (g:jW H a y o) (ry:qG y u) (h:∀s',qp X pins σ H s'->Q (.bool o.isSome) s'):
   wpAny (model X.prog X.w) A (compareOp .In u (.ref a)) Q E s:=by
 rcases g with ⟨kvs,k,e,ey,l⟩ | ⟨kvs,k,b,e,ey,eb,l⟩
 . subst ey
   obtain⟨z,hd,vs,rel,dd⟩:=Yf I.hok e
   refine wpAny_in_of (Z7 ry) hd dd.mapOf ?_
   rw[<-(rel.val k).isSome_eq,<-l]
   exact h _ (I.tok _)
 . subst ey
   cases (show u=Value.ref b from ry)
   obtain⟨z,hd,xs,rel,dd⟩:=Ye I.hok e
   refine wpAny_in_heap (tupleKind_room_in1 hu) (ZA I.hok eb) hd dd ?_
   have q:=(rel.val k).isSome_eq
   rw[Option.isSome_map]at q
   rw[<-q,<-l]
   exact h _ (I.tok _)
theorem vL {Q:Value->Shared->Prop} (hu:A.units+1 < cLine) (I:qp X pins σ H s) (g:jW H a y o) (ry:qG y u) (h:∀s',qp X pins σ H s'->Q (.bool (!o.isSome)) s'):
   wpAny (model X.prog X.w) A (compareOp .NotIn u (.ref a)) Q E s:=by
 rcases g with ⟨kvs,k,e,ey,l⟩ | ⟨kvs,k,b,e,ey,eb,l⟩
 . subst ey
   obtain⟨z,hd,vs,rel,dd⟩:=Yf I.hok e
   refine wpAny_notIn_of (Z7 ry) hd dd.mapOf ?_
   rw[<-(rel.val k).isSome_eq,<-l]
   exact h _ (I.tok _)
 . subst ey
   cases (show u=Value.ref b from ry)
   obtain⟨z,hd,xs,rel,dd⟩:=Ye I.hok e
   refine wpAny_notIn_heap (tupleKind_room_in1 hu) (ZA I.hok eb) hd dd ?_
   have q:=(rel.val k).isSome_eq
   rw[Option.isSome_map]at q
   rw[<-q,<-l]
   exact h _ (I.tok _)
theorem zF {h':Heap} {t':Nat} {ob:HO} (I:qp X pins σ H s) (mu:yH (H a)) (hs:Heap.SameBut a s.heap h') (he:∃q,h'.get? a=some q) (new:qE X.prog X.w (upd H a ob) h' a ob):
   qp X pins σ (upd H a ob) {s with heap:=h',toks:=t'}:=
 I.write (x:=a) (e:=a) mu (.inl rfl) (λb q hb z=>(hs.2 b hb).trans z) he new
theorem Uo {P:Program} {w:World} {H':Hp} {h':Heap} {kvs:List (qO×V)} {vs:List (qO×Value)} (z:kvs.length<=sizeLine) (hd:(a==sysModules)=false) (rel:KV kvs vs) (dd:h'.DictOf (je P w) a vs):
   qE P w H' h' a (.dK kvs):=⟨z,hd,vs,rel,dd⟩
theorem WI {H':Hp} {Q:Unit->Shared->Prop} (hu:A.units+1 < cLine) (I:qp X pins σ H s) (g:Jp H a y v H') (ry:qG y u) (rv:qG v r) (h:∀s',qp X pins σ H' s'->Q () s'):
   wpAny (model X.prog X.w) A (setItem (.ref a) u r) Q E s:=by
 rcases g with ⟨kvs,k,e,ey,l,eH⟩ | ⟨kvs,k,b,e,ey,eb,l,eH⟩
 . subst ey eH
   obtain⟨z,hd,vs,rel,dd⟩:=kt I.hok e
   have hz:vs.length<=sizeLine:=by rw[<-rel.length];exact z
   have hl:(ju kvs k v).length<=sizeLine:=by have:=QP kvs k v;omega
   refine wpAny_setItem_pairs (hsz:=hz) (Z7 ry) dd λh' dd' hs=>h _ ?_
   have he:∃q,h'.get? a=some q:=let ⟨q,_,_,hq,_⟩:=dd';⟨q,hq⟩
   exact zF I (by rw[e];exact True.intro) hs he (Uo hl hd (rel.put k rv) dd')
 . subst ey eH
   cases (show u=Value.ref b from ry)
   obtain⟨z,hd,xs,rel,dd⟩:=xy I.hok e
   have hz:xs.length<=sizeLine:=by rw[<-Paired.length rel];exact z
   have hl:(ju kvs k v).length<=sizeLine:=by have:=QP kvs k v;omega
   refine wpAny_setItem_heap (hsz:=hz) (tupleKind_room_in1 hu) (ZA I.hok eb) dd λh' dd' hs=>h _ ?_
   obtain⟨q,es,ep,hq,h2,h3,h4,_,h5⟩:=dd'
   refine zF I (by rw[e];exact True.intro) hs ⟨q,hq⟩ ⟨hl,hd,_,(rel.put k eb rv).keeps λc ys ec=>?_,q,es,ep,hq,h2,h3,h4,h5⟩
   rw[qg (xk ec e (λz=>nomatch z))]
   exact ec
end
section
variable {X:Cx} {pins:List (Addr×Obj)} {σ:St} {H:Hp} {s:Shared} {a:Addr} {kvs:List (qO×V)} {k:qO} {u:Value} {A:Around} {E:Value->Shared->Prop}
end
def xD (i:Expr):Prop:=∀ov iv,subscripted i false ov iv=operate [ov,iv] (getItem ov iv)
theorem UM {prog:Program} {w:World} {A:Around} {E:Value->Shared->Prop} {s:Shared} {env:Env} {value slice:Expr} {pos:Pos} {T id:String} {Q:Value->Shared->Prop}
   (hl:typeLookup (.type T) "__getitem__"=pure (some (.builtin id))) (hs:xD slice)
   (h:wpAny (model prog w) A (eval value env) (λo s₁=>wpAny (model prog w) A (eval slice env) (λi s₂=>s₂.TypeIs o T/\wpAny (model prog w) A (getItem o i) Q E s₂) E s₁) E s):
   wpAny (model prog w) A (eval (.Subscript value slice pos) env) Q E s:=by
 refine Subscript_ (wpAny_mono h (λo s₁ h₁=>wpAny_mono h₁ (λi s₂ h₂=>?_) λ_ _ x=>x) λ_ _ x=>x)
 obtain⟨hT,h₂⟩:=h₂
 unfold subscriptTail
 refine wpAny_bind ?_
 rw[getitemInPython_of_ne hT.not_modules]
 refine wpAny_bind (wpAny_specialOf hT hl ?_)
 have fin:wpAny (model prog w) A (subscripted slice false o i) (λr s₃=>wpAny (model prog w) A (letTemporaryGo value o r >>= λ_=>pure r) Q E s₃) E s₂:=by
   rw[hs o i]
   exact wpAny_operating (wpAny_mono h₂ (λr s₃ h₃=>wpAny_bind (wpAny_letTemporaryGo (wpAny_pure h₃))) λ_ _ x=>x)
 first
   | exact wpAny_pure (wpAny_bind fin)
   | exact wpAny_bind (wpAny_pure (wpAny_bind fin))
   | exact wpAny_bind fin
theorem Yh {X:Cx} {pins:List (Addr×Obj)} {σ:St} {H:Hp} {s:Shared} {a:Addr} {y:V} {o:Option V} (I:qp X pins σ H s) (g:jW H a y o):s.TypeIs (.ref a) "dict":=by
 rcases g with ⟨kvs,k,e,_,_⟩ | ⟨kvs,k,b,e,_,_,_⟩
 . obtain⟨_,_,vs,_,dd⟩:=Yf I.hok e
   exact dd.typeIs
 . obtain⟨_,_,xs,_,dd⟩:=Ye I.hok e
   exact dd.typeIs
def vX (td ty:TE):TE:=λσ H Q=>td σ H λx H1=>ty σ H1 λy H2=>∃a v,x=.ref a/\jW H2 a y (some v)/\Q v H2
def xZ (ty td:TE):TE:=λσ H Q=>ty σ H λy H1=>td σ H1 λx H2=>∃a o,x=.ref a/\jW H2 a y o/\Q (.bl o.isSome) H2
def UI (ty td:TE):TE:=λσ H Q=>ty σ H λy H1=>td σ H1 λx H2=>∃a o,x=.ref a/\jW H2 a y o/\Q (.bl (!o.isSome)) H2
def kh (td ty tv:TE):TS:=λD σ H=>tv σ H λv H1=>td σ H1 λx H2=>ty σ H2 λy H3=>∃a H4,x=.ref a/\Jp H3 a y v H4/\D.nx σ H4
section
variable {X:Cx} {o i e value:Expr} {pos pos' tpos:Pos} {td ty tv:TE}
theorem jZ (hu:X.A.units+1 < cLine) (ho:JE X o td) (hi:JE X i ty) (hs:xD i):JE X (.Subscript o i pos) (vX td ty):=.of (by
 have ho:=ho.to
 have hi:=hi.to
 intro pins s σ H Q I h
 refine UM PySem.F.slot_dict_getitem.lookup hs (qP (ho pins s σ H _ I h) λu s1 ⟨x,H1,I1,rx,q1⟩=>qP (hi pins s1 σ H1 _ I1 q1) λiv s2 ⟨y,H2,I2,ry,a,v,ex,g,q2⟩=>?_)
 subst ex
 obtain rfl:u=Value.ref a:=rx
 exact⟨Yh I2 g,WJ hu I2 g ry λw' s3 I3 rw'=>⟨v,H2,I3,rw',q2⟩⟩)
theorem Ua (hu:X.A.units+1 < cLine) (hi:JE X i ty) (ho:JE X o td):JC X .In i o (xZ ty td):=.of (by
 have hi:=hi.to
 have ho:=ho.to
 intro pins s σ H Q I h
 refine qP (hi pins s σ H _ I h) λiv s1 ⟨y,H1,I1,ry,q1⟩=>qP (ho pins s1 σ H1 _ I1 q1) λu s2 ⟨x,H2,I2,rx,a,ov,ex,g,q2⟩=>?_
 subst ex
 obtain rfl:u=Value.ref a:=rx
 exact wx hu I2 g ry λs3 I3=>⟨.bl ov.isSome,H2,I3,rfl,q2⟩)
theorem Z8 (hu:X.A.units+1 < cLine) (hi:JE X i ty) (ho:JE X o td):JC X .NotIn i o (UI ty td):=.of (by
 have hi:=hi.to
 have ho:=ho.to
 intro pins s σ H Q I h
 refine qP (hi pins s σ H _ I h) λiv s1 ⟨y,H1,I1,ry,q1⟩=>qP (ho pins s1 σ H1 _ I1 q1) λu s2 ⟨x,H2,I2,rx,a,ov,ex,g,q2⟩=>?_
 subst ex
 obtain rfl:u=Value.ref a:=rx
 exact vL hu I2 g ry λs3 I3=>⟨.bl (!ov.isSome),H2,I3,rfl,q2⟩)
theorem jQ (hu:X.A.units+1 < cLine) (ho:JE X o td) (hi:JE X i ty) (hv:JE X value tv) (hs:swapsWith value (some (.Subscript o i pos')) pos.line X.env=pure false):JS X (.Assign [.Subscript o i pos'] value pos) (kh td ty tv):=.of (by
 have ho:=ho.to
 have hi:=hi.to
 have hv:=hv.to
 intro pins s σ H D I h
 refine wpAny_Assign_Subscript (qP (hv pins s σ H _ I h) λr s1 ⟨v,H1,I1,rv,q1⟩=>qP (ho pins s1 σ H1 _ I1 q1) λu s2 ⟨x,H2,I2,rx,q2⟩=>qP (hi pins s2 σ H2 _ I2 q2) λiv s3 ⟨y,H3,I3,ry,a,H4,ex,g,q3⟩=>?_) hs
 subst ex
 obtain rfl:u=Value.ref a:=rx
 exact WI hu I3 g ry rv λs4 I4=>⟨σ,H4,I4,q3⟩)
end
theorem Yg {P:Program} {w:World} {H:Hp} (h:Heap) (hb:sysModules < h.objs.size):qE P w H (h.push {cls:=.type "dict",data:=.dict #[]}) h.objs.size (.dK []):=
 ⟨Nat.zero_le _,beq_eq_false_iff_ne.mpr (Ne.symm (Nat.ne_of_lt hb)),[],.nil,Heap.DictOf.new h⟩
theorem Um {P:Program} {w:World} {H:Hp} (h:Heap) (hb:sysModules < h.objs.size):qE P w H (h.push {cls:=.type "dict",data:=.dict #[]}) h.objs.size (.dT []):=
 ⟨Nat.zero_le _,beq_eq_false_iff_ne.mpr (Ne.symm (Nat.ne_of_lt hb)),[],.nil,_,#[],0,Heap.get?_push_size _ rfl,⟨rfl,rfl,rfl⟩,rfl,rfl,List.nodup_nil⟩
def W2:TE:=λ_ H Q=>∀p,H p=none->Q (.ref p) (upd H p (.dK []))
def W1:TE:=λ_ H Q=>∀p,H p=none->Q (.ref p) (upd H p (.dT []))
section
variable {X:Cx} {pos:Pos}
theorem Vz:PE X (.Dict [] [] pos) W2:=λpins s σ H Q I h=>
 wpAny_Dict_empty ⟨.ref s.heap.objs.size,_,I.laid (a:=s.heap.objs.size) (o:=.dK []) (t':=s.toks) (λ_ _ q=>Heap.get?_push_of_some _ q) (Nat.le_refl _) (Yg s.heap I.big),rfl,h _ (I.hok.fresh (Nat.le_refl _))⟩
theorem Jg:JE X (.Dict [] [] pos) W2:=.of (Vz)
theorem Vy:PE X (.Dict [] [] pos) W1:=λpins s σ H Q I h=>
 wpAny_Dict_empty ⟨.ref s.heap.objs.size,_,I.laid (a:=s.heap.objs.size) (o:=.dT []) (t':=s.toks) (λ_ _ q=>Heap.get?_push_of_some _ q) (Nat.le_refl _) (Um s.heap I.big),rfl,h _ (I.hok.fresh (Nat.le_refl _))⟩
theorem V8:JE X (.Dict [] [] pos) W1:=.of (Vy)
end
def YD:List (TE×TE)->St->Hp->(List (V×V)->Hp->Prop)->Prop
 | [],_,H,Q=>Q [] H
 | (tk,tv)::r,σ,H,Q=>tk σ H λx H1=>tv σ H1 λy H2=>YD r σ H2 λps H3=>Q ((x,y)::ps) H3
abbrev VV:List (V×V)->List (Value×Value)->Prop:=Paired λp q=>qG p.1 q.1/\qG p.2 q.2
def xC (X:Cx) (pos:Pos) (keys:List (Option Expr)) (values:List Expr) (trs:List (TE×TE)):Prop:=
 ∀(pins:List (Addr×Obj)) (s:Shared) (σ:St) (H:Hp) (Q:List (V×V)->Hp->Prop),qp X pins σ H s->YD trs σ H Q->
   wpAny (model X.prog X.w) X.A (evalPairs (pairTrees keys values X.env pos)) (λvs s'=>∃ps H',qp X pins σ H' s'/\VV ps vs/\Q ps H') X.xe s
@[irreducible] def UB (X:Cx) (pos:Pos) (keys:List (Option Expr)) (values:List Expr) (trs:List (TE×TE)):Prop:=xC X pos keys values trs
theorem UB.of {X:Cx} {pos:Pos} {keys:List (Option Expr)} {values:List Expr} {trs:List (TE×TE)} (h:xC X pos keys values trs):UB X pos keys values trs:=by unfold UB;exact h
theorem UB.to {X:Cx} {pos:Pos} {keys:List (Option Expr)} {values:List Expr} {trs:List (TE×TE)} (h:UB X pos keys values trs):xC X pos keys values trs:=by unfold UB at h;exact h
theorem vy {X:Cx} {pos:Pos}:UB X pos [] [] []:=.of (by
 exact λpins s σ H Q I h=>pairTrees_nil_walk ⟨[],H,I,.nil,h⟩)
theorem Vv {X:Cx} {pos:Pos} {k v:Expr} {ks:List (Option Expr)} {vs:List Expr} {tk tv:TE} {trs:List (TE×TE)} (hk:PE X k tk) (hv:PE X v tv) (hr:xC X pos ks vs trs):
   xC X pos (some k::ks) (v::vs) ((tk,tv)::trs):=λpins s σ H Q I h=>
 pairTrees_cons_walk (qP (hk pins s σ H _ I h) λu s1 ⟨x,H1,I1,rx,q1⟩=>qP (hv pins s1 σ H1 _ I1 q1) λw2 s2 ⟨y,H2,I2,ry,q2⟩=>
   qP (hr pins s2 σ H2 _ I2 q2) λws s3 ⟨ps,H3,I3,rel,q3⟩=>⟨(x,y)::ps,H3,I3,.cons ⟨rx,ry⟩ rel,q3⟩)
theorem ZB {X:Cx} {pos:Pos} {k v:Expr} {ks:List (Option Expr)} {vs:List Expr} {tk tv:TE} {trs:List (TE×TE)} (hk:JE X k tk) (hv:JE X v tv) (hr:UB X pos ks vs trs):UB X pos (some k::ks) (v::vs) ((tk,tv)::trs):=.of (Vv hk.to hv.to hr.to)
def Q3 (kvs more:List (qO×V)):List (qO×V):=more.foldl (λacc kv=>ju acc kv.1 kv.2) kvs
theorem KV.merge:∀{more:List (qO×V)} {rs:List (qO×Value)} {kvs:List (qO×V)} {vs:List (qO×Value)},KV more rs->KV kvs vs->KV (Q3 kvs more) (merged vs rs):=by
 intro more rs kvs vs r
 unfold KV at r
 induction r generalizing kvs vs with
 | nil=>intro q;exact q
 | @cons p q ps qs h t ih=>
   intro r0
   have e:KV (ju kvs p.1 p.2) (stored vs q.1 q.2):=by
     have:=r0.put p.1 h.2
     rw[<-h.1];exact this
   exact ih e
theorem Q2:∀(more kvs:List (qO×V)),(Q3 kvs more).length<=kvs.length+more.length
 | [],kvs=>by show kvs.length<=kvs.length+0;omega
 | p::r,kvs=>by
   have h1:=Q2 r (ju kvs p.1 p.2)
   have h2:=QP kvs p.1 p.2
   show (Q3 (ju kvs p.1 p.2) r).length<=_
   rw[List.length_cons];omega
theorem ZK {P:Program} {w:World}:∀{kvs:List (qO×V)} {ws:List (Value×Value)},VV (kvs.map λkv=>(kV kv.1,kv.2)) ws->∃rs,Carries (je P w) ws rs/\KV kvs rs
 | [],_,r=>by rw[List.map_nil]at r;cases r;exact⟨[],True.intro,.nil⟩
 | p::kvs,_,r=>by
   rw[List.map_cons]at r
   cases r with
   | @cons a b as bs h t=>
     obtain⟨rs,c,q⟩:=ZK (P:=P) (w:=w) t
     obtain⟨b1,b2⟩:=b
     exact⟨(p.1,b2)::rs,⟨Z7 h.1,rfl,c⟩,.cons ⟨rfl,h.2⟩ q⟩
def yR (trs:List (TE×TE)):TE:=λσ H Q=>∀p,H p=none->YD trs σ (upd H p (.dK [])) λps H2=>H2 p=some (.dK [])/\∃kvs:List (qO×V),ps=kvs.map (λkv=>(kV kv.1,kv.2))/\kvs.length<=15/\Q (.ref p) (upd H2 p (.dK (Q3 [] kvs)))
theorem vE {X:Cx} {pos:Pos} {keys:List (Option Expr)} {values:List Expr} {trs:List (TE×TE)} (h:UB X pos keys values trs) (hall:keys.all (·.isSome)=true) (hl:keys.length=values.length) (h0:keys≠[]) (h15:keys.length<=15):JE X (.Dict keys values pos) (yR trs):=.of (by
 have h:=h.to
 intro pins s σ H Q I q
 have hn:=I.hok.fresh (Nat.le_refl s.heap.objs.size)
 have I1:=I.laid (a:=s.heap.objs.size) (o:=.dK []) (h':=s.heap.push {cls:=.type "dict",data:=.dict #[]}) (t':=s.toks) (λ_ _ q=>Heap.get?_push_of_some _ q) (Nat.le_refl _) (Yg s.heap I.big)
 refine wpAny_Dict_walk (knd:=je X.prog X.w) hall hl h0 h15 (qP (h pins _ σ _ _ I1 (q _ hn)) λws s2 ⟨ps,H2,I2,rel,e,kvs,ep,lk,q2⟩=>?_)
 subst ep
 obtain⟨rs,c,rk⟩:=ZK (P:=X.prog) (w:=X.w) rel
 obtain⟨z,hd,vs0,r0,dd⟩:=kt I2.hok e
 cases r0
 refine⟨rs,c,dd,λh' dd' hs=>⟨.ref s.heap.objs.size,_,?_,rfl,q2⟩⟩
 have hz:(Q3 [] kvs).length<=sizeLine:=by
   have h1:=Q2 kvs []
   rw[List.length_nil]at h1
   rw[sizeLine_eq];omega
 have he:∃q,h'.get? s.heap.objs.size=some q:=let ⟨q,_,_,hq,_⟩:=dd';⟨q,hq⟩
 exact zF I2 (by rw[e];exact True.intro) hs he (Uo hz hd (rk.merge .nil) dd'))
structure M1 (X:Cx) (o:Expr) (m:Str) (apos:Pos) (e:Expr) (cpos:Pos):Prop where
 base:attributeBase o m X.env (eval o X.env)=eval o X.env
 few:((backTo cpos (starEach [e] X.env)).all (λx=> !x.1)&&(backToKw cpos (keywordEach [] X.env)).all (λx=>x.1.isSome)
   &&decide (([e]:List Expr).length+([]:List Keyword).length+(if ([]:List Keyword).isEmpty then 0 else 1) < 30))=true
 line:(apos.endLine==cpos.line)=true
 trees:backTo cpos (starEach [e] X.env)=[(false,eval e X.env)]
structure M2 (X:Cx) (o:Expr) (m:Str) (apos:Pos) (e f:Expr) (cpos:Pos):Prop where
 base:attributeBase o m X.env (eval o X.env)=eval o X.env
 few:((backTo cpos (starEach [e,f] X.env)).all (λx=> !x.1)&&(backToKw cpos (keywordEach [] X.env)).all (λx=>x.1.isSome)
   &&decide (([e,f]:List Expr).length+([]:List Keyword).length+(if ([]:List Keyword).isEmpty then 0 else 1) < 30))=true
 line:(apos.endLine==cpos.line)=true
 trees:backTo cpos (starEach [e,f] X.env)=[(false,eval e X.env),(false,eval f X.env)]
section
variable {X:Cx} {pins:List (Addr×Obj)} {σ:St} {H:Hp} {s:Shared} {a:Addr} {y d:V} {u r:Value} {o:Option V} {A:Around} {E:Value->Shared->Prop}
end
section
variable {X:Cx} {o e f:Expr} {apos cpos:Pos} {td ty tx:TE}
end
section
variable {X:Cx} {pins:List (Addr×Obj)} {σ:St} {H:Hp} {s:Shared} {a:Addr} {kvs:List (qO×V)} {A:Around} {E:Value->Shared->Prop}
end
section
variable {X:Cx} {pins:List (Addr×Obj)} {σ:St} {H:Hp} {s:Shared} {a:Addr} {y:V} {u:Value} {A:Around} {E:Value->Shared->Prop}
end
end L2
namespace Att
open PySem PySem.W PySem.Calls PyProof.Rows
theorem JY {P:Params} {h:Heap}:∀(ns:List Int) (vs:List Value),WellAll P h vs (ns.map WData.int)->IntsAre vs ns:=by
 intro ns
 induction ns with
 | nil=>
   intro vs w
   rw[List.map_nil]at w
   cases w
   exact .nil
 | cons n ns ih=>
   intro vs w
   rw[List.map_cons]at w
   cases w with
   | cons a b=>
     cases a
     exact .cons _ _ (ih _ b)
theorem X9 {l:OpenLaw} {n:Nat} (hn:l.most=some n) {P:Params} {h:Heap} {args:List WData} {vals:List Value}
   (hpre:l.row.toRowW.claim.pre args=true) (hwl:WellAll P h vals args):
   ∃a vs ns,vals=[Value.ref a]/\args=[WData.list (ns.map WData.int)]/\h.get? a=some {cls:=.type "list",data:=.seq vs.toArray}/\IntsAre vs ns/\ns.length<=n:=by
 have hsh:WShape.hasAll [] args [.list .int]=true:=(pre_splitW hpre).1
 have hc:l.pre.holds [] {args:=args}=true:=(pre_splitW hpre).2
 obtain⟨d,r,rfl,h1,h2⟩:=hasAllW_cons hsh
 obtain rfl:=hasAllW_nil h2
 obtain⟨xs,rfl,h3⟩:=hasW_list h1
 obtain⟨ns,rfl⟩:=items_int h3
 have hlen:ns.length<=n:=by
   unfold OpenLaw.pre at hc
   have h4:(WTm.not (.lt (.lit (.int (n:Int))) (.len (.arg 0)))).holds [] {args:=[.list (ns.map .int)]}=true:=by
     have h4:=(holds_andW hc).1
     rw[hn]at h4
     exact h4
   have h5:=condW_of h4 (w_not (w_lt w_lit (w_len_list (w_arg rfl))))
   rw[List.length_map]at h5
   refine Nat.le_of_not_lt λq=>?_
   have q':(n:Int) < ((ns.length:Nat):Int):=by omega
   first
     | (rw[decide_eq_true q']at h5;exact absurd h5 (by decide))
     | (simp at h5;omega)
 cases hwl with
 | cons w1 w2=>
   cases w2
   cases w1 with
   | list ho hall=>exact⟨_,_,ns,rfl,rfl,ho,JY ns _ hall,hlen⟩
theorem Wi (l:OpenLaw) (args:List WData):l.row.toRowW.claim.post args (.bool true) args=true:=
 postW_of (r:=l.row.toRowW) (X:=(true==true))
   (show WShape.has [] (.bool true) .bool=true by first | rfl | decide | simp [WShape.has,WShape.arms,WShape.armsAll])
   (show (WTm.eq .res (.lit (.bool true))).value [] {args:=args,res:=some (.bool true),after:=args}=some (.bool (true==true)) from w_eq_bool (w_res rfl) w_lit) rfl
theorem attach_call {l:OpenLaw} {n:Nat} {q:Program} {loose:List Str} {XP:(Str->Option Value)->Heap->Prop} {YP:World->Heap->Prop} {d:DefRec}
   (hn:l.most=some n) (hdf:d.params.defaults=[])
   (call:∀(w:World) (s₀ s₁:Shared) (mg mb:Str->Option Value) (fa:Addr) (o:Obj) (pm cd doc:Value) (a:Addr) (vs:List Value) (ns:List Int),
     Ground q loose [] XP w s₀ mg mb s₁.heap->YP w s₁.heap->
     s₁.heap.get? fa=some o->o.data=.func (docDef d.name d.params d.body d.scope pm cd doc)->s₁.heap.CodeRec cd d.name->mg d.name=some (.ref fa)->
     s₁.heap.get? a=some {cls:=.type "list",data:=.seq vs.toArray}->IntsAre vs ns->ns.length<=n->s₁.gens=#[]->
     codeAny (model l.prog w) callerA (.call (.ref fa) ⟨[.ref a],[]⟩) (λr s'=>r=.ok (.ret (.bool true))/\OldK s₁.heap s'.heap/\s'.os=s₁.os/\AllBare s'.gens) s₁):
   WalkO q loose XP YP l.row.toRowW d [] (λf vs=>PySem.call f vs):=by
 intro w s₀ s₁ mg mb G Y fa o pm cd doc dV kV ho hd hcd hD hmg hg args vals as hpre hlay hrd hwl hlo
 obtain rfl:dV=.none:=Dflts.none hD hdf
 obtain rfl:kV=.none:=Dflts.noKw hD
 obtain⟨a,vs,ns,rfl,rfl,hobj,hints,hlen⟩:=X9 hn hpre hwl
 refine enter_call (codeAny_mono (call w s₀ s₁ mg mb fa o pm cd doc a vs ns G Y ho (fd_plain hd) hcd hmg hobj hints hlen hg) λr s' hq=>?_)
 obtain⟨rfl,h2,h3,h4⟩:=hq
 exact⟨.inl ⟨.bool true,.bool true,[],rfl,λ_=>rfl,.bool true,Wi l _,λ_=>⟨List.Pairwise.nil,λ_ hm=>(nomatch hm)⟩⟩,h2,h3,h4⟩
section
variable {prog:Program} {w:World} {A:Around} {E:Value->Shared->Prop} {s:Shared} {K:Frag}
end
end Att
namespace L2
open PySem PySem.Spec PyProof.Rows
theorem ZU:∀{vs:List Value} {ns:List Int},IntsAre vs ns->qw (ns.map V.int) vs
 | _,_,.nil=>.nil
 | _,_,.cons n t h=>.cons ⟨t,rfl⟩ (ZU h)
def yx (H:Hp):Prop:=∀b,H b=none\/∃o xs,H b=some (.frz o (.lst xs))
theorem VS {P:Program} {w:World} {K:PySem.W.Frag} {mg mb:Str->Option Value} {CX:zK} {k:Nat} {fa a:Addr} {fd:FuncData} {x:Str} {sp:Sp} {s₁:Shared} {vs:List Value} {ns:List Int}
   (KX:K.In s₁.heap) (hns:s₁.heap.Ns mainGlobals mg) (hb:s₁.heap.Ns builtinsNs mb) (hbb:∀x:Str,x≠"__name__"->mb x=bootBuiltins x) (hlim:s₁.heap.NoLimit) (hg:s₁.gens=#[])
   (ha:s₁.heap.get? a=some {cls:=.type "list",data:=.seq vs.toArray}) (hi:IntsAre vs ns) (hl:ns.length<=sizeLine) (hr:qU k callerA)
   (F:∀base:Heap,K.In base->base.Ns mainGlobals mg->FnOk P w K mg base CX k fa fd [x] sp) (hbind:∀(s:Shared) (u:Value),BindsTo s fd ⟨[u],[]⟩ [(x,u)])
   (hsp:∀H:Hp,yx H->SqL K H a (ns.map V.int)->sp [.ref a] H (λv _=>v=.bl true) λ_ _ _=>False)
   (hCX:∀H e s',CX [] H s₁ (λ_ _ _=>False) e s'->False):
   codeAny (model P w) callerA (.call (.ref fa) ⟨[.ref a],[]⟩) (λr s'=>r=.ok (.ret (.bool true))/\OldK s₁.heap s'.heap/\s'.os=s₁.os/\AllBare s'.gens) s₁:=by
 have rv:=ZU hi
 have lenV:=hi.length
 have core:∀H:Hp,yx H->SqL K H a (ns.map V.int)->QK P w H s₁.heap->(∀b,H b≠none->b=a)->(H a≠none->K.lookup a=none)->
     codeAny (model P w) callerA (.call (.ref fa) ⟨[.ref a],[]⟩) (λr s'=>r=.ok (.ret (.bool true))/\OldK s₁.heap s'.heap/\s'.os=s₁.os/\AllBare s'.gens) s₁:=by
   intro H hO hS hok hA hK
   have base_of:∀{b:Addr} {o:Obj},s₁.heap.get? b=some o->H b=none->(zC s₁.heap H).get? b=some o:=λe n=>Uh e n
   have noA:∀{b:Addr} {o:Obj} {es:Array DictEntry} {ep:Nat},s₁.heap.get? b=some o->o.data=.dict es ep->H b=none:=λ{b o es ep} e d=>by
     cases q:H b with
     | none=>rfl
     | some u=>
       have e':b=a:=hA b (by rw[q];simp)
       subst e'
       rw[ha]at e;cases e
       have d':Data.seq vs.toArray _=Data.dict es ep:=d
       cases d'
   have nsK:∀{b:Addr} {m:Str->Option Value},s₁.heap.Ns b m->(zC s₁.heap H).Ns b m:=λ{b m} ⟨o,es,ep,e,d,r⟩=>⟨o,es,ep,base_of e (noA e d),d,r⟩
   have hKb:K.In (zC s₁.heap H):=λb o e=>base_of (KX b o e) (by
     cases q:H b with
     | none=>rfl
     | some u=>
       have e':b=a:=hA b (by rw[q];simp)
       subst e'
       rw[hK (by rw[q];simp)]at e;cases e)
   have hM:Mod K mg (zC s₁.heap H):=⟨hKb,nsK hns,⟨mb,nsK hb,hbb⟩,let ⟨mc,h1,h2⟩:=hlim;⟨mc,nsK h1,h2⟩⟩
   have e0:Xe P w K mg (zC s₁.heap H) callerA [] s₁ H:=⟨rfl,hM,λb o e=>vg e,Nat.le_of_eq (WD _ _),trivial,λb hb=>absurd (show b∈([]:List Addr) from hb) (by simp),hok,.of_eq hg⟩
   refine codeAny_mono ((F _ hKb (nsK hns)).run callerA [] s₁ H ⟨[.ref a],[]⟩ [.ref a] [.ref a] _ _ hr e0 (hbind s₁ (.ref a)) (.cons rfl .nil) (hsp H hO hS)) λr s' h=>?_
   cases r with
   | error e=>exact(hCX H e s' h).elim
   | ok fl=>
     cases fl with
     | next=>exact False.elim h
     | brk=>exact False.elim h
     | cont=>exact False.elim h
     | ret u=>
       obtain⟨v,H',os,bare,un,hok',r',q⟩:=h
       have q':v=.bl true:=q
       subst q'
       obtain rfl:u=Value.bool true:=r'
       refine⟨rfl,OldK.of_keep λb o e=>?_,os,bare⟩
       cases q:H b with
       | none=>exact un.keep b o e q (by intro z;exact absurd (show b∈([]:List Addr) from z) (by simp)) (by simp)
       | some u=>
         rcases hO b with z | ⟨ob,xs,z⟩
         . rw[q]at z;cases z
         . have z2:=un.frzs b ob _ z
           obtain⟨e1,_⟩:=hok b _ z
           obtain⟨e2,_⟩:=hok' b _ z2
           rw[e]at e1;cases e1
           exact e2
 cases hk:K.lookup a with
 | some o=>
   have e:=KX a o hk
   rw[ha]at e
   cases e
   refine core (λ_=>none) (λ_=>.inl rfl) (.inr ⟨_,vs.toArray,_,hk,rfl,rfl,rfl,by rw[List.size_toArray,lenV];exact hl,by simpa using rv⟩) (λb u z=>by have z':(none:Option HO)=some u:=z;cases z') (λb z=>absurd rfl z) λz=>absurd rfl z
 | none=>
   refine core (λb=>if b=a then some (.frz {cls:=.type "list",data:=.seq vs.toArray} (.lst (ns.map V.int))) else none) (λb=>?_) (.inl (.inr ⟨{cls:=.type "list",data:=.seq vs.toArray},if_pos rfl⟩)) (λb u z=>?_) (λb z=>?_) λ_=>hk
   . by_cases hb:b=a
     . exact .inr ⟨_,_,if_pos hb⟩
     . exact .inl (if_neg hb)
   . by_cases hb:b=a
     . have z':=(if_pos hb).symm.trans z
       cases z'
       subst hb
       exact⟨ha,by rw[List.length_map];exact hl,vs,_,rv,ha⟩
     . have z':=(if_neg hb).symm.trans z
       cases z'
   . by_cases hb:b=a
     . exact hb
     . exact absurd (if_neg hb) z
end L2
namespace L2
open PySem PySem.Spec PyProof.Rows
theorem walk_of {l:PySem.W.OpenLaw} {n k:Nat} {q:Program} {loose:List Str} {XP:(Str->Option Value)->Heap->Prop} {YP:World->Heap->Prop} {d:DefRec} {K:Params->PySem.W.Frag} {CX:World->zK} {sp:World->Sp} {x:Str}
   (hn:l.most=some n) (hn2:n<=sizeLine) (hdf:d.params.defaults=[]) (hr:qU k callerA)
   (hY:∀(w:World) (h:Heap),YP w h->(K w.params).In h)
   (F:∀(w:World) (mg:Str->Option Value) (fa:Addr) (h:Heap),(K w.params).In h->h.Ns mainGlobals mg->mg d.name=some (.ref fa)->
     ∃fd:FuncData,(∀(s:Shared) (u:Value),BindsTo s fd ⟨[u],[]⟩ [(x,u)])/\
      ∀base:Heap,(K w.params).In base->base.Ns mainGlobals mg->FnOk l.prog w (K w.params) mg base (CX w) k fa fd [x] (sp w))
   (hsp:∀(w:World) (H:Hp) (a:Addr) (ns:List Int),ns.length<=n->yx H->SqL (K w.params) H a (ns.map V.int)->sp w [.ref a] H (λv _=>v=.bl true) λ_ _ _=>False)
   (hCX:∀(w:World) (H:Hp) (s:Shared) (e:Value) (s':Shared),CX w [] H s (λ_ _ _=>False) e s'->False):
   PySem.W.WalkO q loose XP YP l.row.toRowW d [] (λf vs=>PySem.call f vs):=by
 refine Att.attach_call hn hdf λw s₀ s₁ mg mb fa o pm cd doc a vs ns G Y ho hd hcd hmg hobj hints hlen hg=>?_
 have KX:=hY w _ Y
 obtain⟨fd,hb,hF⟩:=F w mg fa _ KX G.T.g hmg
 exact VS KX G.T.g G.T.b G.T.builtins G.T.nolimit hg hobj hints (Nat.le_trans hlen hn2) hr hF hb (λH hO hS=>hsp w H a ns hlen hO hS) λH e s'=>hCX w H s₁ e s'
end L2
namespace L2
open PySem PySem.Spec PyProof.Rows
def Ji (s:Stmt) (j:Nat):Stmt:=match s with
 | .ClassDef _ _ _ body _ _ _ _ _ _ _=>body.getD j (.Pass ⟨0,0,0,0⟩)
 | _=>.Pass ⟨0,0,0,0⟩
def Qf (s:Stmt):Arguments:=match s with
 | .FunctionDef _ a _ _ _ _ _ _ _ _=>a
 | _=>{posonlyargs:=[],args:=[],vararg:=none,kwonlyargs:=[],kw_defaults:=[],kwarg:=none,defaults:=[]}
def jJ (s:Stmt):List Stmt:=match s with
 | .FunctionDef _ _ b _ _ _ _ _ _ _=>b
 | _=>[]
def qo (s:Stmt):Scope:=match s with
 | .FunctionDef _ _ _ _ _ _ sc _ _ _=>sc
 | _=>{kind:=.function,names:=[],isGenerator:=false,isCoroutine:=false}
abbrev jf:zK:=λ_ _ _ _ _ _=>False
abbrev E0:XK:=λ_ _ _=>False
theorem zX {X:Cx}:Qa jf X E0:=λ_ _ _ _ _ _ _ h=>h.elim
structure Qb (K:PySem.W.Frag) (x qual:Str) (st:Stmt) (f:Addr) (fd:FuncData):Prop where
 ex:∃(oc:Value) (od:Option Addr) (kV doc pm:Value) (an:Option Addr) (cdv ct:Value) (osl:Array (Option Value)),
   fd=PySem.W.fnOf x qual (Qf st) (jJ st) (qo st) .none kV doc pm an cdv ct/\K.lookup f=some ⟨oc,od,.func fd,osl⟩/\PySem.W.codeIn K cdv qual=true
 kp:PySem.W.keepIn K (.ref f)=true
section
variable {P:Program} {w:World} {K:PySem.W.Frag} {mg:Str->Option Value} {base:Heap}
theorem Qb.ok {x qual:Str} {st:Stmt} {f:Addr} {fd:FuncData} {N ps:List Str} {k:Nat} {sp:Sp} (F:Qb K x qual st f fd) (S:qx N ps (qo st)) (len:∀vs H Q E,sp vs H Q E->vs.length=ps.length)
   (hbody:∀(cdv:Value) (A:Around) (outer:List Env) (s:Shared) (H:Hp) (vs:List V) (Q:VK) (E:XK),qU k (A.deeper (envOfC qual (qo st) s.heap.objs.size f cdv))->sp vs H Q E->
     ∃t,UA (ZJ jf P w K mg base N qual (qo st) f cdv A outer s H E).nox (jJ st) t/\t {nx:=λ_ H'=>Q .non H',rt:=Q} (Q1 N vs) H):FnOk P w K mg base jf (k+1) f fd ps sp:=by
 obtain⟨oc,od,kV,doc,pm,an,cdv,ct,osl,rfl,lk,hcd⟩:=F.ex
 refine kr lk hcd S len λA outer s H vs Q E hr hsp=>?_
 obtain⟨t,h,q⟩:=hbody cdv A outer s H vs Q E hr hsp
 exact⟨t,h.nox,q⟩
theorem Qb.okJ {x qual:Str} {st:Stmt} {f:Addr} {fd:FuncData} {N ps:List Str} {k:Nat} {sp:Sp} (F:Qb K x qual st f fd) (S:qx N ps (qo st)) (len:∀vs H Q E,sp vs H Q E->vs.length=ps.length)
   (hbody:∀(cdv:Value) (A:Around) (outer:List Env) (s:Shared) (H:Hp) (vs:List V) (Q:VK) (E:XK),qU k (A.deeper (envOfC qual (qo st) s.heap.objs.size f cdv))->sp vs H Q E->
     ∃t,zM (ZJ jf P w K mg base N qual (qo st) f cdv A outer s H E).nox (jJ st) t/\t {nx:=λ_ H'=>Q .non H',rt:=Q} (Q1 N vs) H):FnOk P w K mg base jf (k+1) f fd ps sp:=
 F.ok S len λcdv A outer s H vs Q E hr h=>let ⟨t,a,b⟩:=hbody cdv A outer s H vs Q E hr h;⟨t,a.to,b⟩
theorem Qb.binds {x qual:Str} {st:Stmt} {f:Addr} {fd:FuncData} {ps:List Str} (F:Qb K x qual st f fd)
   (h:∀(kV doc pm:Value) (an:Option Addr) (cdv ct:Value) (us:List Value),us.length=ps.length->bindArgs (PySem.W.fnOf x qual (Qf st) (jJ st) (qo st) .none kV doc pm an cdv ct) ⟨us,[]⟩=pure (ps.zip us)):js K fd ps []:=by
 obtain⟨oc,od,kV,doc,pm,an,cdv,ct,osl,rfl,lk,hcd⟩:=F.ex
 exact .all (h kV doc pm an cdv ct)
theorem Y2 {x qual:Str} {st:Stmt} {f:Addr} {oc:Value} {od an:Option Addr} {osl:Array (Option Value)} {kV doc pm cdv ct:Value} (l:K.lookup f=some ⟨oc,od,.func (PySem.W.fnOf x qual (Qf st) (jJ st) (qo st) .none kV doc pm an cdv ct),osl⟩)
   (c:PySem.W.codeIn K cdv qual=true) (k:PySem.W.keepIn K (.ref f)=true):Qb K x qual st f (PySem.W.fnOf x qual (Qf st) (jJ st) (qo st) .none kV doc pm an cdv ct):=⟨⟨oc,od,kV,doc,pm,an,cdv,ct,osl,rfl,l,c⟩,k⟩
end
theorem JQ {A:Around} {k:Nat} (hr:qU k A):A.units+1 < cLine:=Nat.lt_of_le_of_lt (Nat.add_le_add_left (by decide:1<=64) _) hr.units
theorem qj {n:Nat} (h:n<=1000):n < sizeLine:=Nat.lt_of_le_of_lt h (by decide)
section
variable {X:Cx}
theorem pv (i:Nat) {x:Str} {pos:Pos} (hN:X.N[i]?=some x:=by rfl) (hv:yF X.env.scope x:=by first | exact Or.inl rfl | exact Or.inr (Or.inl rfl) | exact Or.inr (Or.inr rfl)) (hd:(x==("__debug__":Str))=false:=by decide)
   (hcd:(x==("__classdict__":Str))=false:=by decide):PE X (.Name x pos) (qV i):=kU hN hv hd hcd
theorem jv (i:Nat) {x:Str} {pos:Pos} (hN:X.N[i]?=some x:=by rfl) (hv:yF X.env.scope x:=by first | exact Or.inl rfl | exact Or.inr (Or.inl rfl) | exact Or.inr (Or.inr rfl)) (hd:(x==("__debug__":Str))=false:=by decide) (hcd:(x==("__classdict__":Str))=false:=by decide):JE X (.Name x pos) (qV i):=.of (pv i hN hv hd hcd)
end
theorem jm {A B:Prop} (h:B):if false=true then A else B:=by
 rw[if_neg Bool.false_ne_true]
 exact h
theorem QX {A B:Prop} (h:A):if true=true then A else B:=by
 rw[if_pos rfl]
 exact h
theorem Ya {c A B:Prop} [Decidable c] (h1:c->A) (h2:¬c->B):if c then A else B:=by
 by_cases h:c
 . rw[if_pos h]
   exact h1 h
 . rw[if_neg h]
   exact h2 h
def Same (H H':Hp):Prop:=∀b o,H b=some o->H' b=some o
theorem Same.refl (H:Hp):Same H H:=λ_ _ h=>h
theorem Same.trans {H H1 H2:Hp} (a:Same H H1) (b:Same H1 H2):Same H H2:=λc o h=>b c o (a c o h)
theorem Same.seq {K:PySem.W.Frag} {H H':Hp} {a:Addr} {xs:List V} (e:Same H H') (h:SqL K H a xs):SqL K H' a xs:=by
 rcases h with (h | ⟨o,h⟩) | h
 . exact .inl (.inl (e _ _ h))
 . exact .inl (.inr ⟨o,e _ _ h⟩)
 . exact .inr h
section
variable {X:Cx}
end
section
variable {κ:Type} [DecidableEq κ]
theorem UE {kvs:List (κ×V)} {k:κ} {v:V} (h:jo kvs k=some v):k∈kvs.map (·.1):=by
 have q:(kvs.any λkv=>decide (kv.1=k))=true:=by
   rw[Qm,h]
   all_goals rfl
 obtain⟨p,hp,e⟩:=List.any_eq_true.mp q
 exact List.mem_map.mpr ⟨p,hp,of_decide_eq_true e⟩
end
end L2
set_option Elab.async false
set_option linter.all false
set_option maxRecDepth 100000
set_option maxHeartbeats 4000000
namespace L2
open PySem PySem.Spec PyProof.Rows
theorem XJ:(NameKind.free==NameKind.free)=true:=rfl
def qJ (env:Env):List (Str×NameKind)->List (Str×Addr)->List (Str×Addr)
 | [],cs=>cs
 | (n,k)::r,cs=>qJ env r (if k==.free then (n,(env.cells.lookup n).getD 0)::cs else cs)
theorem Ql {scope:Scope} {env:Env} (h:∀x∈scope.names,x.2=.free->∃c,env.cells.lookup x.1=some c):closureFor scope env=pure (qJ env scope.names []):=by
 simp only[closureFor]
 have key:∀(l:List (Str×NameKind)) (cs:List (Str×Addr)),(∀x∈l,x.2=.free->∃c,env.cells.lookup x.1=some c)->
     (forIn l cs λx (r:List (Str×Addr))=>if (x.snd==NameKind.free)=true then (do let a <-cellOf env x.fst;pure (ForInStep.yield ((x.fst,a)::r)):Sem (ForInStep (List (Str×Addr)))) else pure (ForInStep.yield r))=(pure (qJ env l cs):Sem (List (Str×Addr))):=by
   intro l
   induction l with
   | nil=>intro cs _;rfl
   | cons x l ih=>
     intro cs hl
     obtain⟨n,k⟩:=x
     have ihl:=λcs'=>ih cs' λy hy=>hl y (List.mem_cons_of_mem _ hy)
     rw[List.forIn_cons]
     by_cases hk:k=.free
     . subst hk
       obtain⟨c,hc⟩:=hl (n,.free) List.mem_cons_self rfl
       have e1:cellOf env n=pure c:=by
         unfold cellOf
         have hc':env.cells.lookup n=some c:=hc
         rw[hc']
       have e2:qJ env ((n,NameKind.free)::l) cs=qJ env l ((n,c)::cs):=by
         have hc':env.cells.lookup n=some c:=hc
         show qJ env l (if (NameKind.free==NameKind.free)=true then (n,(env.cells.lookup n).getD 0)::cs else cs)=_
         rw[if_pos XJ,hc']
         rfl
       rw[e2,<-ihl]
       dsimp only
       rw[if_pos XJ,e1]
       rfl
     . have hb:(k==NameKind.free)=false:=by simpa using hk
       have e2:qJ env ((n,k)::l) cs=qJ env l cs:=by
         show qJ env l (if (k==NameKind.free)=true then (n,(env.cells.lookup n).getD 0)::cs else cs)=_
         rw[if_neg (by rw[hb];decide)]
       rw[e2,<-ihl]
       dsimp only
       rw[if_neg (by rw[hb];decide)]
       rfl
 rw[key scope.names [] h]
 rfl
theorem QS {env:Env} {x:Str} {c:Addr}:∀{l:List (Str×NameKind)} {cs:List (Str×Addr)},(qJ env l cs).lookup x=some c->cs.lookup x=some c\/((x,NameKind.free)∈l/\c=(env.cells.lookup x).getD 0)
 | [],cs,h=>.inl h
 | (n,k)::r,cs,h=>by
   rcases QS (l:=r) h with h | ⟨h1,h2⟩
   . by_cases hk:k=.free
     . subst hk
       rw[if_pos XJ,List.lookup_cons]at h
       by_cases hx:x=n
       . subst hx
         simp only[beq_self_eq_true]at h
         exact .inr ⟨List.mem_cons_self,(Option.some.inj h).symm⟩
       . have hb:(x==n)=false:=beq_eq_false_iff_ne.mpr hx
         simp only[hb]at h
         exact .inl h
     . have hb:(k==NameKind.free)=false:=by simpa using hk
       rw[if_neg (by rw[hb];decide)]at h
       exact .inl h
   . exact .inr ⟨List.mem_cons_of_mem _ h1,h2⟩
theorem j8 {env:Env} {x:Str}:∀{l:List (Str×NameKind)} {cs:List (Str×Addr)},((x,NameKind.free)∈l\/∃c,cs.lookup x=some c)->∃c,(qJ env l cs).lookup x=some c
 | [],cs,h=>by
   rcases h with h | h
   . cases h
   . exact h
 | (n,k)::r,cs,h=>by
   show ∃c,(qJ env r (if (k==NameKind.free)=true then (n,(env.cells.lookup n).getD 0)::cs else cs)).lookup x=some c
   refine j8 (l:=r) ?_
   rcases h with h | ⟨c,h⟩
   . rcases List.mem_cons.mp h with h | h
     . cases h
       refine .inr ⟨(env.cells.lookup x).getD 0,?_⟩
       rw[if_pos XJ,List.lookup_cons]
       simp only[beq_self_eq_true]
     . exact .inl h
   . refine .inr ?_
     by_cases hk:(k==NameKind.free)=true
     . rw[if_pos hk,List.lookup_cons]
       cases hx:x==n with
       | true=>exact⟨_,rfl⟩
       | false=>exact⟨c,h⟩
     . rw[if_neg hk]
       exact⟨c,h⟩
theorem Qt {scope:Scope} {env:Env} {x:Str} {k:NameKind}:∀{names:List (Str×NameKind)},names.lookup x=some k->
   ∃k',(names.map λ(n,k)=>if (k==NameKind.free&&env.scope.kind==.function&&env.kindOf n==some .cell) then (n,NameKind.cell) else (n,k)).lookup x=some k'/\(k'=k\/(k=.free/\k'=.cell))
 | [],h=>by simp at h
 | (n,j)::r,h=>by
   rw[List.map_cons]
   by_cases hx:x=n
   . subst hx
     rw[List.lookup_cons]at h
     simp only[beq_self_eq_true]at h
     cases h
     dsimp only
     by_cases hc:(k==NameKind.free&&env.scope.kind==.function&&env.kindOf x==some .cell)=true
     . rw[if_pos hc,List.lookup_cons]
       simp only[beq_self_eq_true]
       refine⟨_,rfl,.inr ⟨?_,rfl⟩⟩
       simp only[Bool.and_eq_true,beq_iff_eq]at hc
       exact hc.1.1
     . rw[if_neg hc,List.lookup_cons]
       simp only[beq_self_eq_true]
       exact⟨_,rfl,.inl rfl⟩
   . have hb:(x==n)=false:=beq_eq_false_iff_ne.mpr hx
     rw[List.lookup_cons]at h
     simp only[hb]at h
     obtain⟨k',h1,h2⟩:=Qt (env:=env) (scope:=scope) h
     refine⟨k',?_,h2⟩
     dsimp only
     by_cases hc:(j==NameKind.free&&env.scope.kind==.function&&env.kindOf n==some .cell)=true
     . rw[if_pos hc,List.lookup_cons]
       simp only[hb]
       exact h1
     . rw[if_neg hc,List.lookup_cons]
       simp only[hb]
       exact h1
theorem mem_of_lookup {x:Str} {k:NameKind}:∀{l:List (Str×NameKind)},l.lookup x=some k->(x,k)∈l
 | [],h=>by simp at h
 | (n,j)::r,h=>by
   rw[List.lookup_cons]at h
   by_cases hx:x=n
   . subst hx
     simp only[beq_self_eq_true]at h
     cases h
     exact List.mem_cons_self
   . have hb:(x==n)=false:=beq_eq_false_iff_ne.mpr hx
     simp only[hb]at h
     exact List.mem_cons_of_mem _ (mem_of_lookup h)
theorem Qj {f:Str×NameKind->Str×NameKind} (hf:∀p,(f p).1=p.1) {x:Str} {k:NameKind}:∀{l:List (Str×NameKind)},(l.map f).lookup x=some k->∃j,l.lookup x=some j/\(f (x,j)).2=k
 | [],h=>by simp at h
 | (n,j)::r,h=>by
   rw[List.map_cons]at h
   have e:f (n,j)=(n,(f (n,j)).2):=by
     have:=hf (n,j)
     exact Prod.ext this rfl
   rw[e,List.lookup_cons]at h
   rw[List.lookup_cons]
   by_cases hx:x=n
   . subst hx
     simp only[beq_self_eq_true]at h ⊢
     exact⟨j,rfl,Option.some.inj h⟩
   . have hb:(x==n)=false:=beq_eq_false_iff_ne.mpr hx
     simp only[hb]at h ⊢
     exact Qj hf h
def JU (X:Cx) (N:List Str) (scope:Scope) (C:Addr) (s₂:Shared) (H₂:Hp) (fp:List Addr) (pins:List (Addr×Obj)):Cx where
 prog:=X.prog
 w:=X.w
 K:=X.K
 mg:=X.mg
 base:=X.base
 A:=X.A
 N:=N
 s₀:=s₂
 H₀:=H₂
 env:=compEnvC scope (qJ X.env scope.names []) C X.env
 outer:=X.stack
 stack:=X.stack
 ex:=fp
 fn:=λ_=>false
 calm:=X.calm
 pn:=X.pn++pins
 xe:=λ_ _=>False
def XZ (ix:List (Option Nat)) (σ:St):St:=ix.map λo=>o.bind λj=>(σ[j]?).join
def Wx (N' N:List Str) (sc esc:Scope) (ix:List (Option Nat)):Bool:=
 ix.length==N'.length&&(ix.zip N').all λp=>match p.1 with
   | none=>true
   | some j=>N[j]?==some p.2&&sc.names.lookup p.2==some .free&&(esc.names.lookup p.2==some .cell || esc.names.lookup p.2==some .free)
structure jB (X:Cx) (N':List Str) (ix:List (Option Nat)) (scope:Scope):Prop where
 kind:scope.kind=.function
 nocell:(scope.names.all λx=>x.2 != .cell)=true
 locs:(scope.names.all λx=>x.2 != .local || scope.names.lookup x.1==some .local)=true
 frees:(scope.names.all λx=>x.2 != .free || (X.env.scope.names.lookup x.1==some .cell || X.env.scope.names.lookup x.1==some .free))=true
 ixs:Wx N' X.N scope X.env.scope ix=true
section
variable {X:Cx} {N':List Str} {ix:List (Option Nat)} {scope:Scope} {pins:List (Addr×Obj)} {σ:St} {H:Hp} {s:Shared}
theorem jB.cellH (S:jB X N' ix scope):∀y∈scope.names,y.2≠.cell:=λy hy e=>by
 have:=List.all_eq_true.mp S.nocell y hy
 rw[e]at this
 exact absurd this (by decide)
theorem jB.locH (S:jB X N' ix scope):∀y∈scope.names,y.2=.local->scope.names.lookup y.1=some .local:=λy hy e=>by
 have:=List.all_eq_true.mp S.locs y hy
 simp only[e,Bool.or_eq_true,bne_self_eq_false,Bool.false_eq_true,false_or,beq_iff_eq]at this
 exact this
theorem jB.freeH (S:jB X N' ix scope) (ok:X.Ok):∀x∈scope.names,x.2=.free->∃c,X.env.cells.lookup x.1=some c:=λx hx e=>by
 have:=List.all_eq_true.mp S.frees x hx
 simp only[e,Bool.or_eq_true,bne_self_eq_false,Bool.false_eq_true,false_or,beq_iff_eq]at this
 exact ok.has x.1 this
theorem jB.clook (S:jB X N' ix scope) (ok:X.Ok) {x:Str} {c:Addr} (h:(qJ X.env scope.names []).lookup x=some c):X.env.cells.lookup x=some c/\(x,NameKind.free)∈scope.names:=by
 rcases QS h with h | ⟨h1,h2⟩
 . simp at h
 . obtain⟨c',hc'⟩:=S.freeH ok _ h1 rfl
   have hc2:X.env.cells.lookup x=some c':=hc'
   rw[hc2]at h2
   subst h2
   exact⟨hc2,h1⟩
theorem xz {C:Addr} {fp:List Addr} (S:jB X N' ix scope) (I:qp X pins σ H s) (hC:s.heap.objs.size<=C) (hf:∀b∈fp,Qp X pins H b) (hfo:∀b∈fp,b < s.heap.objs.size):(JU X N' scope C s H fp pins).Ok where
 mod:=I.ok.mod
 kind:=S.kind
 glob:=I.ok.glob
 blt:=I.ok.blt
 above:=hC
 inj:=λx y c h1 h2=>I.ok.inj x y c (S.clook I.ok h1).1 (S.clook I.ok h2).1
 has:=λx hx=>by
   have hx':(relabel scope X.env).names.lookup x=some .cell\/(relabel scope X.env).names.lookup x=some .free:=hx
   refine j8 (.inl ?_)
   have go:∀k,(k=NameKind.cell\/k=.free)->(relabel scope X.env).names.lookup x=some k->(x,NameKind.free)∈scope.names:=λk hk h=>by
     obtain⟨j,h1,h2⟩:=Qj (f:=λ(n,k)=>if (k==NameKind.free&&X.env.scope.kind==.function&&X.env.kindOf n==some .cell) then (n,NameKind.cell) else (n,k)) (λp=>by dsimp only;split<;>rfl) h
     have hm:=mem_of_lookup h1
     by_cases hj:j=.free
     . subst hj;exact hm
     . exfalso
       have hb:(j==NameKind.free)=false:=by simpa using hj
       dsimp only at h2
       rw[hb,Bool.false_and,Bool.false_and,if_neg (by decide)]at h2
       have h2':j=k:=h2
       rcases hk with e | e
       . exact S.cellH _ hm (h2'.trans e)
       . exact hj (h2'.trans e)
   rcases hx' with h | h
   . exact go _ (.inl rfl) h
   . exact go _ (.inr rfl) h
 cab:=λx c h _=>by cases h
 hd:=I.ok.hd
 frames:=I.ok.frames
 stk:=.inl rfl
 exf:=λb hb=>⟨Nat.ne_of_lt (Nat.lt_of_lt_of_le (hfo b hb) hC),λx c h=>(hf b hb).2.2.2.2.1 x c (S.clook I.ok h).1⟩
 bs:=I.bs
 bsz:=Nat.le_trans I.ok.bsz I.sz
 noex:=λb o e hb=>by
   rcases(hf b hb).2.2.2.1 with h | h
   . exact I.ok.noex b o e h
   . exact absurd (Nat.lt_of_lt_of_le (Heap.lt_size e) (Nat.le_trans I.ok.bsz h)) (Nat.lt_irrefl _)
 exfs:=λb hb hm=>by
   rcases List.mem_cons.mp (I.stkSub b hm) with e | e
   . exact(hf b hb).2.1 e
   . exact(hf b hb).2.2.1 e
 funs:=I.stack
 frf:=I.stkFree
theorem WB {C D:Addr} {fp:List Addr} {h₁:Heap} {m:Str->Option Value} {t':Nat} {n₀:Nat} (S:jB X N' ix scope) (I:qp X pins σ H s) (hf:∀b∈fp,Qp X pins H b) (hfo:∀b∈fp,b < s.heap.objs.size)
   (hD:s.heap.objs.size<=D) (hC:s.heap.objs.size<=C) (hDC:D≠C) (kp:∀b o,s.heap.get? b=some o->h₁.get? b=some o) (hn:h₁.Ns C m) (hl:h₁.get? D=some {cls:=.type "list",data:=.seq #[] n₀}):
   qp (JU X N' scope C s H fp pins) [] (XZ ix σ) (upd H D (.lst [])) {s with heap:=h₁,toks:=t'} where
 ok:=xz S I hC hf hfo
 os:=rfl
 bare:=I.bare
 base:=Un.laid kp hD (I.hok.fresh hD)
 loc:=by
   refine⟨m,hn,λi x v e1 e2 e3=>?_⟩
   have hix:=S.ixs
   unfold Wx at hix
   rw[Bool.and_eq_true]at hix
   obtain⟨hlen,hall⟩:=hix
   have hlen':ix.length=N'.length:=by simpa using hlen
   have e1':N'[i]?=some x:=e1
   unfold XZ at e2
   rw[List.getElem?_map]at e2
   cases ho:ix[i]? with
   | none=>rw[ho]at e2;cases e2
   | some o=>
     rw[ho]at e2
     cases o with
     | none=>cases e2
     | some j=>
       have e2':(σ[j]?).join=some v:=Option.some.inj e2
       have hz:(ix.zip N')[i]?=some (some j,x):=by
         rw[List.getElem?_zip_eq_some]
         exact⟨ho,e1'⟩
       have hm:=List.all_eq_true.mp hall _ (List.mem_of_getElem? hz)
       dsimp only at hm
       simp only[Bool.and_eq_true,beq_iff_eq,Bool.or_eq_true]at hm
       obtain⟨⟨hN,hfr⟩,hk⟩:=hm
       have e2'':σ[j]?=some (some v):=by
         cases q:σ[j]? with
         | none=>rw[q]at e2';cases e2'
         | some z=>
           rw[q]at e2'
           have:z=some v:=e2'
           rw[this]
       obtain⟨mX,hnX,hlX⟩:=I.loc
       have hvis:yF X.env.scope x:=by
         rcases hk with h | h
         . exact .inr (.inl h)
         . exact .inr (.inr h)
       obtain⟨u,ru,lu⟩:=hlX j x v hN e2'' hvis
       refine⟨u,ru,?_⟩
       rcases lu with ⟨hk',_⟩ | ⟨_,c,hc,hcell⟩
       . exfalso
         have hk'':X.env.scope.names.lookup x=some .local:=hk'
         rcases hk with h | h<;>rw[h]at hk''<;>cases hk''
       . right
         obtain⟨k',r1,r2⟩:=Qt (scope:=scope) (env:=X.env) hfr
         refine⟨?_,?_⟩
         . rcases r2 with z | ⟨_,z⟩
           . right;rw[z]at r1;exact r1
           . left;rw[z]at r1;exact r1
         . obtain⟨c',hc'⟩:=j8 (env:=X.env) (cs:=[]) (.inl (mem_of_lookup hfr))
           have:=(S.clook I.ok hc').1
           rw[hc]at this
           cases this
           obtain⟨o,ho',hd⟩:=hcell
           exact⟨c,hc',o,kp _ _ ho',hd⟩
 cell:=λx c h=>by
   obtain⟨v,o,ho,hd⟩:=I.cell x c (S.clook I.ok h).1
   exact⟨v,o,kp _ _ ho,hd⟩
 free:=by
   show (upd H D _) C=none
   rw[qg (Ne.symm hDC)]
   exact I.hok.fresh hC
 freeC:=λx c h=>by
   have h1:=(S.clook I.ok h).1
   obtain⟨v,o,ho,hd⟩:=I.cell x c h1
   rw[qg (Nat.ne_of_lt (Nat.lt_of_lt_of_le (Heap.lt_size ho) hD))]
   exact I.freeC x c h1
 pin:=λp hp=>by
   have hp':p∈X.pn++pins:=by
     have:p∈(X.pn++pins)++[]:=hp
     simpa using this
   obtain⟨e,n,ne,nf,d⟩:=I.pin p hp'
   have hlt:=Heap.lt_size e
   refine⟨kp _ _ e,?_,Nat.ne_of_lt (Nat.lt_of_lt_of_le hlt hC),λhm=>?_,d⟩
   . rw[qg (Nat.ne_of_lt (Nat.lt_of_lt_of_le hlt hD))];exact n
   . rcases List.mem_cons.mp (I.stkSub p.1 hm) with z | z
     . exact ne z
     . exact nf z
 hok:=I.hok.laid kp hD ⟨Nat.zero_le _,[],n₀,.nil,hl⟩
 len:=by
   have hix:=S.ixs
   unfold Wx at hix
   rw[Bool.and_eq_true]at hix
   have:ix.length=N'.length:=by simpa using hix.1
   show (XZ ix σ).length=N'.length
   unfold XZ
   rw[List.length_map,this]
theorem Ud {C:Addr} {fp:List Addr} {σ':St} {H':Hp} {s':Shared} {pl:List (Addr×Obj)} (I:qp X pins σ H s) (hf:∀b∈fp,Qp X pins H b) (J:qp (JU X N' scope C s H fp pins) pl σ' H' s'):qp X pins σ H' s':=
 I.call' (ch:=fp) J.os J.base J.hok J.bare λb hb=>⟨(hf b hb).2.2.2.1,(hf b hb).2.1,(hf b hb).2.2.2.2.1,(hf b hb).2.2.2.2.2⟩
theorem Yb {C:Addr} {H':Hp} {s₀ s':Shared} {h':Heap} (I₀:qp X pins σ H s₀) (I:qp X pins σ H' s') (hC:s₀.heap.objs.size<=C) (hn:H' C=none) (sb:Heap.SameBut C s'.heap h'):qp X pins σ H' {s' with heap:=h'}:=by
 refine I.turned (it:=C) (t':=s'.toks) (λb o hb e=>(sb.2 b hb).trans e) hn (Nat.ne_of_gt (Nat.lt_of_lt_of_le I₀.lt hC)) (.inr (Nat.le_trans I₀.sz hC)) (λx c e z=>?_) λp hp z=>?_
 . obtain⟨v,q⟩:=I₀.cell x c e
   exact absurd (Nat.lt_of_lt_of_le q.lt (by rw[z];exact hC)) (Nat.lt_irrefl _)
 . exact absurd (Nat.lt_of_lt_of_le (Heap.lt_size (I₀.pin p hp).1) (by rw[z];exact hC)) (Nat.lt_irrefl _)
end
def kx (X:Cx) (ifs:List Expr) (t:TT):Prop:=
 ∀(pins:List (Addr×Obj)) (s:Shared) (σ:St) (H:Hp) (Q:Bool->Hp->Prop),qp X pins σ H s->t σ H Q->
   wpAny (model X.prog X.w) X.A (forIn ifs true λc r=>if r=true then do let ok <-isTrue c X.env (eval c X.env);pure (ForInStep.yield ok) else pure (ForInStep.yield r)) (TP X pins σ Q) X.xe s
@[irreducible] def Ux (X:Cx) (ifs:List Expr) (t:TT):Prop:=kx X ifs t
theorem Ux.of {X:Cx} {ifs:List Expr} {t:TT} (h:kx X ifs t):Ux X ifs t:=by unfold Ux;exact h
theorem Ux.to {X:Cx} {ifs:List Expr} {t:TT} (h:Ux X ifs t):kx X ifs t:=by unfold Ux at h;exact h
def kA:TT:=λ_ H Q=>Q true H
theorem qM {X:Cx}:Ux X [] kA:=.of (by
 exact λ_ _ _ H _ I h=>wpAny_tests_nil ⟨H,I,h⟩)
theorem Zb {X:Cx} {c:Expr} {t:TT} (h:JT X c t):Ux X [c] t:=.of (by
 have h:=h.to
 exact λpins s σ H Q I hw=>wpAny_tests_one (h pins s σ H Q I hw))
section
variable {prog:Program} {w:World} {A:Around} {R:Result->Shared->Prop} {s:Shared}
theorem Jl {elt target iter:Expr} {ifs:List Expr} {scope:Scope} {pos:Pos} {it acc:Value} {env:Env} (I:Nat->Shared->Prop)
   (turn:∀n s,I n s->wpAny (model prog w) A (pyNext it) (λr s₁=>match r with
     | none=>R (.ok .next) s₁
     | some v=>wpAny (model prog w) A (letOwnedTupleGo target it v) (λ_ s₁'=>wpAny (model prog w) A (assign target env v) (λ_ s₂=>
         wpAny (model prog w) A (forIn ifs true λc r=>if r=true then do let ok <-isTrue c env (eval c env);pure (ForInStep.yield ok) else pure (ForInStep.yield r)) (λok s₃=>
           if ok=true then wpAny (model prog w) A (eval elt env) (λx s₄=>
             wpAny (model prog w) A (call (.builtin "list.append") [acc,x]) (λ_ s₅=>∃m,m < n/\I m s₅) (λ_ _=>False) s₄) (λ_ _=>False) s₃
           else ∃m,m < n/\I m s₃) (λ_ _=>False) s₂) (λ_ _=>False) s₁') (λ_ _=>False) s₁) (λ_ _=>False) s)
   (n:Nat) (h:I n s):
   codeAny (model prog w) A (.compLoop (.ListComp elt [⟨target,iter,ifs,0⟩] scope pos) 0 it acc env) R s:=by
 refine codeAny_loop rfl I (λn s hI=>?_) n h
 show wpAny _ A ((compTurn (.ListComp elt [⟨target,iter,ifs,0⟩] scope pos) 0 it acc env).onRaise (λx=>do noteFrame x env;theTreesLotGoes x)) _ _ s
 refine wpAny_noted ?_
 rw[compTurn_list]
 refine wpAny_bind (wpAny_standAt (wpAny_bind (wpAny_mono (turn n s hI) (λr s₁ h₁=>?_) λ_ _ h'=>h'.elim)))
 cases r with
 | none=>exact wpAny_pure h₁
 | some v=>
   refine wpAny_bind (wpAny_mono h₁ (λ_ s₁' h₁'=>?_) λ_ _ h'=>h'.elim)
   refine wpAny_bind (wpAny_mono h₁' (λ_ s₂ h₂=>wpAny_bind (wpAny_mono h₂ (λok s₃ h₃=>?_) λ_ _ h'=>h'.elim)) λ_ _ h'=>h'.elim)
   cases ok with
   | false=>exact wpAny_pure ⟨rfl,h₃⟩
   | true=>
     exact wpAny_bind (wpAny_bind (wpAny_mono h₃ (λx s₄ h₄=>wpAny_bind (wpAny_mono h₄ (λ_ s₅ h₅=>wpAny_pure (wpAny_pure ⟨rfl,h₅⟩)) λ_ _ h'=>h'.elim)) λ_ _ h'=>h'.elim))
end
def ZQ (J:It) (g:TG) (tt:TT) (te:TE) (D:Addr) (σ:St) (H:Hp) (Q:Hp->Prop):Prop:=
 ∃W:Nat->Nat->St->Hp->Prop,(∃m,W 0 m σ (upd H D (.lst [])))/\∀i m σ' H',W i m σ' H'->
   (J.stop i H'/\Q H')\/(J.go i H'/\∃N:St->Hp->Prop,(∀σ2 H2,N σ2 H2->∃m',m' < m/\W (i+1) m' σ2 H2)/\∀x H2,J.yld i H' x H2->g x σ' H2 λσ2 H3=>tt σ2 H3 λb H4=>
     if b=true then te σ2 H4 λv H5=>∃ys,H5 D=some (.lst ys)/\ys.length < sizeLine/\N σ2 (upd H5 D (.lst (ys++[v]))) else N σ2 H4)
def kD (wi:TI) (ix:List (Option Nat)) (g:TG) (tt:TT) (te:TE):TE:=λσ H Q=>wi σ H λJ H1=>∀D,H1 D=none->ZQ J g tt te D (XZ ix σ) H1 λH2=>Q (.ref D) H2
section
variable {X:Cx} {N':List Str} {ix:List (Option Nat)} {scope:Scope}
theorem ze {elt iter target:Expr} {ifs:List Expr} {pos:Pos} {g:TG} {tt:TT} {te:TE} {pins:List (Addr×Obj)} {σ:St} {H:Hp} {s:Shared} {it:Addr} {fp:List Addr} {tn:Nat->Heap->Prop} {J:It} {E:Value->Shared->Prop}
   {RR:Value->Addr->Result->Shared->Prop} {Q:Addr->Hp->Prop}
   (hc:X.calm=true) (S:jB X N' ix scope) (I:qp X pins σ H s) (T:Yt X.prog X.w X.K target J fp it tn) (st:tn 0 s.heap) (hf:∀b∈fp,Qp X pins H b)
   (hb:∀C s₂ H₂ fp pins,PG (JU X N' scope C s₂ H₂ fp pins) target g/\kx (JU X N' scope C s₂ H₂ fp pins) ifs tt/\PE (JU X N' scope C s₂ H₂ fp pins) elt te)
   (h:∀D,H D=none->ZQ J g tt te D (XZ ix σ) H (Q D))
   (fin:∀(D C:Addr) (H':Hp) (s':Shared) (m:Str->Option Value),s.heap.objs.size<=C->H' C=none->s'.heap.Ns C m->qp X pins σ H' s'->Q D H'->RR (.ref D) C (.ok .next) s'):
   wpAny (model X.prog X.w) X.A (newList []) (λacc s₃=>wpAny (model X.prog X.w) X.A (newFunctionEnv scope X.env.globals (qJ X.env scope.names []) [] X.env.qual none .none (some X.env)) (λcenv s₄=>
     codeAny (model X.prog X.w) X.A (.compStart (.ListComp elt [⟨target,iter,ifs,0⟩] scope pos) 0 (.ref it) acc {cenv with scope:=relabel scope X.env}) (RR acc cenv.locals) s₄) E s₃) E s:=by
 have hfo:∀b∈fp,b < s.heap.objs.size:=λb hb=>by
   obtain⟨o,e,_⟩:=T.obj _ _ st b hb
   exact Heap.lt_size e
 refine wpAny_newObj_type (wpAny_newFunctionEnv S.cellH (by intro y hy;simp at hy) (λh₁ hns₁ hsb₁=>?_) S.kind)
 dsimp only at hns₁ hsb₁ ⊢
 generalize hH2:s.heap.push {cls:=.type "list",dict:=none,data:=.seq ([]:List Value).toArray}=H2 at hns₁ hsb₁ ⊢
 have hC:H2.objs.size=s.heap.objs.size+1:=by rw[<-hH2,Heap.size_push]
 have hDC:s.heap.objs.size≠H2.objs.size:=by rw[hC];exact Nat.ne_of_lt (Nat.lt_succ_self _)
 have hCle:s.heap.objs.size<=H2.objs.size:=by rw[hC];exact Nat.le_succ _
 have below:∀b,b < s.heap.objs.size->b≠H2.objs.size:=λb hb=>by rw[hC];exact Nat.ne_of_lt (Nat.lt_succ_of_lt hb)
 have old:∀b o,s.heap.get? b=some o->h₁.get? b=some o:=λb o e=>hsb₁.extBut b o (below b (Heap.lt_size e)) (Heap.get?_push_of_some _ (hH2▸Heap.get?_push_of_some _ e))
 have hacc:h₁.get? s.heap.objs.size=some {cls:=.type "list",data:=.seq #[] 0}:=hsb₁.extBut _ _ hDC (Heap.get?_push_of_some _ (hH2▸Heap.get?_push_size _ rfl))
 obtain⟨W,⟨m0,w0⟩,turn⟩:=h s.heap.objs.size (I.hok.fresh (Nat.le_refl _))
 have I1:qp (JU X N' scope H2.objs.size s H fp pins) [] (XZ ix σ) (upd H s.heap.objs.size (.lst [])) {s with heap:=h₁,toks:=s.toks+([]:List (Str×Value)).length}:=
   WB S I hf hfo (Nat.le_refl _) hCle hDC old hns₁ hacc
 have st₁:tn 0 h₁:=T.keep _ _ _ st λb hb o e=>old b o e
 have fpn:∀b∈fp,(upd H s.heap.objs.size (.lst [])) b=none:=λb hb=>by
   rw[qg (Nat.ne_of_lt (hfo b hb))]
   exact(hf b hb).1
 obtain⟨hg,htt,hte⟩:=hb H2.objs.size s H fp pins
 have okY:=I1.ok
 have stat:∀{H':Hp},(∀b∈fp,H' b=none)->∀b∈fp,Qp (JU X N' scope H2.objs.size s H fp pins) [] H' b:=λ{H'} hn b hb=>
   ⟨hn b hb,(okY.exf b hb).1,okY.exfs b hb,.inl hb,(okY.exf b hb).2,λp hp=>by
     have hp':p∈X.pn++pins:=by
       have:p∈(X.pn++pins)++[]:=hp
       simpa using this
     exact(hf b hb).2.2.2.2.2 p hp'⟩
 have loop:codeAny (model X.prog X.w) X.A (.compLoop (.ListComp elt [⟨target,iter,ifs,0⟩] scope pos) 0 (.ref it) (.ref s.heap.objs.size) (compEnvC scope (qJ X.env scope.names []) H2.objs.size X.env))
     (RR (.ref s.heap.objs.size) H2.objs.size) {s with heap:=h₁,toks:=s.toks+([]:List (Str×Value)).length}:=by
   refine Jl (λn s'=>∃i σ' H',qp (JU X N' scope H2.objs.size s H fp pins) [] σ' H' s'/\tn i s'.heap/\(∀b∈fp,H' b=none)/\W i n σ' H') ?_ m0 ⟨0,_,_,I1,st₁,fpn,w0⟩
   rintro n s3 ⟨i,σ3,H3,I3,st3,fr3,w3⟩
   rcases turn i n σ3 H3 w3 with ⟨stop,qn⟩ | ⟨go,NN,hNN,step⟩
   . refine qP (T.done (JU X N' scope H2.objs.size s H fp pins) rfl rfl rfl hc i [] s3 σ3 H3 _ I3 (stat fr3) st3 stop) λr s4 ⟨hr,I4⟩=>?_
     subst hr
     obtain⟨mm,hnm,_⟩:=I4.loc
     exact fin _ _ H3 s4 mm hCle I4.free hnm (Ud I hf I4) qn
   . refine qP (T.item (JU X N' scope H2.objs.size s H fp pins) rfl rfl rfl hc i [] s3 σ3 H3 _ I3 (stat fr3) st3 go) λr s4 ⟨u,hr,h4⟩=>?_
     subst hr
     refine qP h4 λ_ s5 ⟨x,H5,I5,r5,y5,st5,fr5⟩=>?_
     have I5':=I5.pinned (stat fr5) (T.obj _ _ st5)
     refine qP (hg _ s5 σ3 H5 x u _ I5' r5 (step x H5 y5)) λ_ s6 ⟨σ6,H6,I6,q6⟩=>?_
     refine qP (htt _ s6 σ6 H6 _ I6 q6) λok s7 ⟨H7,I7,q7⟩=>?_
     have again:∀{σ8:St} {H8:Hp} {s8:Shared},qp (JU X N' scope H2.objs.size s H fp pins) ([]++Js fp s5.heap) σ8 H8 s8->NN σ8 H8->
         ∃m,m < n/\∃i σ' H',qp (JU X N' scope H2.objs.size s H fp pins) [] σ' H' s8/\tn i s8.heap/\(∀b∈fp,H' b=none)/\W i m σ' H':=λ{σ8 H8 s8} I8 n8=>by
       obtain⟨m',hm,w8⟩:=hNN σ8 H8 n8
       refine⟨m',hm,i+1,σ8,H8,I8.unpinned,T.keep _ _ _ st5 λb hb o e=>(I8.pin (b,o) (List.mem_append_right _ (List.mem_append_right _ (jN hb e)))).1,λb hb=>?_,w8⟩
       obtain⟨o,e,d⟩:=T.obj _ _ st5 b hb
       exact(I8.pin (b,o) (List.mem_append_right _ (List.mem_append_right _ (jN hb e)))).2.1
     cases ok with
     | false=>
       rw[if_neg Bool.false_ne_true]at q7 ⊢
       exact again I7 q7
     | true=>
       rw[if_pos rfl]at q7 ⊢
       refine qP (hte _ s7 σ6 H7 _ I7 q7) λv s8 ⟨y,H8,I8,r8,q8⟩=>?_
       obtain⟨ys,hy,hz,q8⟩:=q8
       refine qP (jk (X:=JU X N' scope H2.objs.size s H fp pins) _ s8 σ6 H8 (.ref s.heap.objs.size) [y] (.ref s.heap.objs.size) [v] (λ_ H9=>NN σ6 H9) I8 rfl (.cons r8 .nil) ⟨_,ys,y,rfl,rfl,hy,hz,q8⟩) λ_ s9 ⟨_,H9,I9,_,q9⟩=>?_
       exact again I9 q9
 exact codeAny_compStart_list loop (T.self X.A 0 _ _ _ st₁ loop)
theorem xc {elt iter target:Expr} {ifs:List Expr} {pos:Pos} {wi:TI} {g:TG} {tt:TT} {te:TE} (hc:X.calm=true) (S:jB X N' ix scope) (hi:PI X target iter wi)
   (hb:∀C s₂ H₂ fp pins,PG (JU X N' scope C s₂ H₂ fp pins) target g/\kx (JU X N' scope C s₂ H₂ fp pins) ifs tt/\PE (JU X N' scope C s₂ H₂ fp pins) elt te)
   (hs:∀x,foldedSetIterable iter X.env x=pure x:=by intro _;rfl):PE X (.ListComp elt [⟨target,iter,ifs,0⟩] scope pos) (kD wi ix g tt te):=by
 intro pins s σ H Q I h
 rw[eval_ListComp]
 refine wpAny_comprehension_free (use:=none) rfl hs (Ql (S.freeH I.ok)) S.kind S.locH ?_
 refine qP (hi pins s σ H _ I h) λxv s1 h1=>qP h1 λitv s2 h2=>?_
 obtain⟨it,fp,tn,J,H2,e,I2,T,st2,f2,q2⟩:=h2
 subst e
 refine ze (RR:=λacc C=>compPost (model X.prog X.w) X.A X.xe none (EP X pins σ Q) acc C) (Q:=λD H'=>Q (.ref D) H') hc S I2 T st2 f2 hb q2 ?_
 intro D C H' s' m hC hn hm I' q
 exact⟨m,hm,λh' sb=>⟨.ref D,H',Yb I2 I' hC hn sb,rfl,q⟩⟩
theorem jI {elt iter target:Expr} {ifs:List Expr} {pos:Pos} {wi:TI} {g:TG} {tt:TT} {te:TE} (hc:X.calm=true) (S:jB X N' ix scope) (hi:JI X target iter wi) (hb:∀C s₂ H₂ fp pins,JG (JU X N' scope C s₂ H₂ fp pins) target g/\Ux (JU X N' scope C s₂ H₂ fp pins) ifs tt/\JE (JU X N' scope C s₂ H₂ fp pins) elt te) (hs:∀x,foldedSetIterable iter X.env x=pure x:=by intro _;rfl):JE X (.ListComp elt [⟨target,iter,ifs,0⟩] scope pos) (kD wi ix g tt te):=.of (xc hc S hi.to (λC s₂ H₂ fp pins=>⟨(hb C s₂ H₂ fp pins).1.to,(hb C s₂ H₂ fp pins).2.1.to,(hb C s₂ H₂ fp pins).2.2.to⟩) hs)
theorem Vu {i:Nat} {x:Str} {elt iter target:Expr} {ifs:List Expr} {pos spos px:Pos} {wi:TI} {g:TG} {tt:TT} {te:TE} (hN:X.N.Nodup) (hxi:X.N[i]?=some x) (hx:yJ X.env.scope x) (hc:X.calm=true) (S:jB X N' ix scope) (hi:PI X target iter wi)
   (hb:∀C s₂ H₂ fp pins,PG (JU X N' scope C s₂ H₂ fp pins) target g/\kx (JU X N' scope C s₂ H₂ fp pins) ifs tt/\PE (JU X N' scope C s₂ H₂ fp pins) elt te)
   (hsw:swapsWith (.ListComp elt [⟨target,iter,ifs,0⟩] scope pos) (some (.Name x px)) spos.line X.env=pure true:=by rfl)
   (hs:∀x,foldedSetIterable iter X.env x=pure x:=by intro _;rfl) (hf:X.fn x=true\/X.env.scope.names.lookup x=some .local:=by first | exact .inl rfl | exact .inr rfl | assumption):
   PS X (.Assign [.Name x px] (.ListComp elt [⟨target,iter,ifs,0⟩] scope pos) spos) (UJ (kD wi ix g tt te) (qT i)):=by
 intro pins s σ H D I h
 rw[exec_Assign_Name_used _ _ _ _ hsw]
 refine wpAny_bind (wpAny_standAt (wpAny_bind ?_))
 show wpAny _ X.A (do let _ <-comprehension (.ListComp elt [⟨target,iter,ifs,0⟩] scope pos) scope X.env _ (newList []) false (eval iter X.env) (some (assign (.Name x px) X.env))) _ _ s
 refine wpAny_bind (qP (wpAny_comprehension_free (use:=some (assign (.Name x px) X.env)) (Q:=λ_ s'=>SP X pins D .next s') rfl hs (Ql (S.freeH I.ok)) S.kind S.locH ?_) λ_ s' hq=>wpAny_pure (wpAny_pure hq))
 refine qP (hi pins s σ H _ I h) λxv s1 h1=>qP h1 λitv s2 h2=>?_
 obtain⟨it,fp,tn,J,H2,e,I2,T,st2,f2,q2⟩:=h2
 subst e
 refine ze (RR:=λacc C=>compPost (model X.prog X.w) X.A X.xe (some (assign (.Name x px) X.env)) (λ_ s'=>SP X pins D .next s') acc C) (Q:=λD' H'=>qT i (.ref D') σ H' D.nx) hc S I2 T st2 f2 hb q2 ?_
 intro D' C H' s' m hC hn hm I' q
 show wpAny _ X.A (assign (.Name x px) X.env (.ref D')) _ _ _
 refine wpAny_assign_Name (ZY I' hN hxi hx (v:=.ref D') rfl (λs'' I'' hch=>?_) hf)
 obtain⟨a,sb,ha⟩:=hch
 have hCa:C≠a:=by
   rcases ha with z | z
   . rw[z];exact Nat.ne_of_gt (Nat.lt_of_lt_of_le I2.lt hC)
   . intro e
     obtain⟨v,qc⟩:=I2.cell x a z
     exact absurd (Nat.lt_of_lt_of_le qc.lt (by rw[<-e];exact hC)) (Nat.lt_irrefl _)
 refine⟨m,hm.sameBut sb hCa,λh' sb'=>?_⟩
 refine⟨_,H',?_,q⟩
 refine I''.turned (it:=C) (t':=s''.toks) (λb o hb e=>(sb'.2 b hb).trans e) hn (Nat.ne_of_gt (Nat.lt_of_lt_of_le I2.lt hC)) (.inr (Nat.le_trans I2.sz hC)) (λy c e z=>?_) λp hp z=>?_
 . obtain⟨v,qc⟩:=I2.cell y c e
   exact absurd (Nat.lt_of_lt_of_le qc.lt (by rw[z];exact hC)) (Nat.lt_irrefl _)
 . exact absurd (Nat.lt_of_lt_of_le (Heap.lt_size (I2.pin p hp).1) (by rw[z];exact hC)) (Nat.lt_irrefl _)
theorem Qo {i:Nat} {x:Str} {elt iter target:Expr} {ifs:List Expr} {pos spos px:Pos} {wi:TI} {g:TG} {tt:TT} {te:TE} (hN:X.N.Nodup) (hxi:X.N[i]?=some x) (hx:yJ X.env.scope x) (hc:X.calm=true) (S:jB X N' ix scope) (hi:JI X target iter wi) (hb:∀C s₂ H₂ fp pins,JG (JU X N' scope C s₂ H₂ fp pins) target g/\Ux (JU X N' scope C s₂ H₂ fp pins) ifs tt/\JE (JU X N' scope C s₂ H₂ fp pins) elt te) (hsw:swapsWith (.ListComp elt [⟨target,iter,ifs,0⟩] scope pos) (some (.Name x px)) spos.line X.env=pure true:=by rfl) (hs:∀x,foldedSetIterable iter X.env x=pure x:=by intro _;rfl) (hf:X.fn x=true\/X.env.scope.names.lookup x=some .local:=by first | exact .inl rfl | exact .inr rfl | assumption):JS X (.Assign [.Name x px] (.ListComp elt [⟨target,iter,ifs,0⟩] scope pos) spos) (UJ (kD wi ix g tt te) (qT i)):=.of (Vu hN hxi hx hc S hi.to (λC s₂ H₂ fp pins=>⟨(hb C s₂ H₂ fp pins).1.to,(hb C s₂ H₂ fp pins).2.1.to,(hb C s₂ H₂ fp pins).2.2.to⟩) hsw hs hf)
end
end L2
set_option Elab.async false
set_option linter.all false
set_option maxRecDepth 100000
set_option maxHeartbeats 4000000
namespace L2
open PySem PySem.Spec PyProof.Rows
def wE (x:Str):It:=⟨λi _=>i < x.cps.size,λi H v H'=>H'=H/\∃c,x.cps[i]?=some c/\v=.str ⟨#[c]⟩,λi _=>i=x.cps.size⟩
theorem zQ {P:Program} {w:World} {K:PySem.W.Frag} {tg:Expr} (it:Addr) (x:Str) (t:Tok) (ty:String)
   (hn:["enumerate","zip","dict_itemiterator","dict_reverseitemiterator","odict_iterator","itertools.zip_longest","itertools.pairwise"].contains ty=false)
   (hW:∀A:Around,A.handled=none->Walks P w A it [it] [it] x.cps.size (SignAt x) (λi h=>h.IsStrIter it ty x t i))
   (hself:∀(A:Around) (i:Nat) (s:Shared) (Q:Value->Shared->Prop) (E:Value->Shared->Prop),s.heap.IsStrIter it ty x t i->Q (.ref it) s->wpAny (model P w) A (pyIter (.ref it)) Q E s):
   Yt P w K tg (wE x) [it] it (λi h=>h.IsStrIter it ty x t i) where
 mem:=by simp
 obj:=λi h st b hb=>by
   have e:b=it:=by simpa using hb
   subst e
   obtain⟨o,e,c,d⟩:=st
   exact⟨o,e,λv z=>by rw[d]at z;cases z⟩
 keep:=λi h h' st k=>let ⟨o,e,r⟩:=st;⟨o,k it (by simp) o e,r⟩
 item:=by
   intro X hP hw hK hc i pins s σ H E I hf st hg
   subst hP hw hK
   obtain⟨f0,f1,f2,f3,f4,f5⟩:=hf it (by simp)
   refine(hW X.A (I.ok.hd hc)).item i s _ _ hg st λv h' tk hv st' kk=>?_
   obtain⟨c,u,hcu,rfl⟩:=hv
   have I1:qp X pins σ H {s with heap:=h',toks:=tk}:=I.turned (λb o hb e=>kk b o (by simpa using hb) e) f0 f1 f3 f4 f5
   obtain⟨o,e,c1,d1⟩:=id st'
   exact⟨_,rfl,XH (s:={s with heap:=h',toks:=tk}) e c1 d1 hn ⟨.str ⟨#[c]⟩,H,I1,⟨u,rfl⟩,⟨rfl,c,hcu,rfl⟩,st',λb hb=>(hf b hb).1⟩⟩
 done:=by
   intro X hP hw hK hc i pins s σ H E I hf st hg
   subst hP hw hK
   obtain⟨f0,f1,f2,f3,f4,f5⟩:=hf it (by simp)
   have hi:i=x.cps.size:=hg
   subst hi
   exact(hW X.A (I.ok.hd hc)).done s _ _ st λh' tk kk=>⟨rfl,I.turned (λb o hb e=>kk b o (by simpa using hb) e) f0 f1 f3 f4 f5⟩
 self:=hself
def ww (tl:TE):TI:=λσ H R=>tl σ H λx H1=>∃y,x=.str y/\R (wE y) H1
theorem VZ {X:Cx} {tg l:Expr} {tl:TE} (hl:JE X l tl):JI X tg l (ww tl):=.of (by
 have hl:=hl.to
 intro pins s σ H R I h
 refine qP (hl pins s σ H _ I h) λv s1 ⟨x,H1,I1,r1,q1⟩=>?_
 obtain⟨y,e,q⟩:=q1
 subst e
 obtain⟨t,rfl⟩:=r1
 have fp:∀b∈[s1.heap.objs.size],Qp X pins H1 b:=λb hb=>by
   have e:b=s1.heap.objs.size:=by simpa using hb
   subst e
   exact I1.fpOk (Nat.le_refl _) (I1.hok.fresh (Nat.le_refl _))
 cases ha:y.cps.all (· < 128)
 . refine wpAny_pyIter_wide ha ?_
   exact⟨s1.heap.objs.size,[s1.heap.objs.size],_,_,H1,rfl,I1.kept (t':=s1.toks) λb o e=>Heap.get?_push_of_some _ e,
     zQ _ y t "str_iterator" (by decide) (λA hA=>Walks.strWide hA _ y t) (λA i s Q E st q=>wpAny_pyIter_striter_wide st q),⟨_,Heap.get?_push_size _ rfl,rfl,rfl⟩,fp,q⟩
 . refine wpAny_pyIter_ascii ha ?_
   exact⟨s1.heap.objs.size,[s1.heap.objs.size],_,_,H1,rfl,I1.kept (t':=s1.toks) λb o e=>Heap.get?_push_of_some _ e,
     zQ _ y t "str_ascii_iterator" (by decide) (λA hA=>Walks.strAscii hA _ y t) (λA i s Q E st q=>wpAny_pyIter_striter_ascii st q),⟨_,Heap.get?_push_size _ rfl,rfl,rfl⟩,fp,q⟩)
section
variable {K:PySem.W.Frag} {g:TG} {tt:TT} {te:TE} {D a:Addr} {σ:St} {H:Hp} {Q:Hp->Prop}
def Yq (tt:TT) (te:TE) (D:Addr) (N:St->Hp->Prop):St->Hp->Prop:=λσ2 H3=>tt σ2 H3 λb H4=>
 if b=true then te σ2 H4 λv H5=>∃ys,H5 D=some (.lst ys)/\ys.length < sizeLine/\N σ2 (upd H5 D (.lst (ys++[v]))) else N σ2 H4
theorem zH {J:It} {n:Nat} (Pv:Nat->St->Hp->Prop) (h0:Pv 0 σ (upd H D (.lst [])))
   (go:∀i σ' H',i < n->Pv i σ' H'->J.go i H'/\∀x H2,J.yld i H' x H2->g x σ' H2 (Yq tt te D (Pv (i+1)))) (stop:∀σ' H',Pv n σ' H'->J.stop n H'/\Q H'):ZQ J g tt te D σ H Q:=by
 refine⟨λi m σ' H'=>m=n - i/\i<=n/\Pv i σ' H',⟨n,by simp,Nat.zero_le _,h0⟩,?_⟩
 rintro i m σ' H' ⟨rfl,hi,p⟩
 by_cases hlt:i < n
 . obtain⟨h1,h2⟩:=go i σ' H' hlt p
   exact .inr ⟨h1,Pv (i+1),λσ2 H2 p2=>⟨n - (i+1),by omega,rfl,hlt,p2⟩,h2⟩
 . have e:i=n:=by omega
   subst e
   exact .inl (stop σ' H' p)
theorem zf {lo:Int} {n:Nat} (Pv:Nat->St->Hp->Prop) (h0:Pv 0 σ (upd H D (.lst [])))
   (hs:∀i σ' H',i < n->Pv i σ' H'->g (.int (lo+i)) σ' H' (Yq tt te D (Pv (i+1)))) (hd:∀σ' H',Pv n σ' H'->Q H'):ZQ (yy lo n) g tt te D σ H Q:=
 zH (n:=n) Pv h0 (λi σ' H' hi p=>⟨hi,λx H2 y=>by
   obtain⟨e,y⟩:=y
   subst e y
   exact hs i σ' H2 hi p⟩) λσ' H' p=>⟨Nat.le_refl _,hd σ' H' p⟩
theorem qK {xs:List V} (Pv:Nat->St->Hp->Prop) (h0:Pv 0 σ (upd H D (.lst []))) (hl:∀i σ' H',i<=xs.length->Pv i σ' H'->SqL K H' a xs)
   (hs:∀i x σ' H',xs[i]?=some x->Pv i σ' H'->g x σ' H' (Yq tt te D (Pv (i+1)))) (hd:∀σ' H',Pv xs.length σ' H'->Q H'):ZQ (kz K a) g tt te D σ H Q:=
 zH (n:=xs.length) Pv h0 (λi σ' H' hi p=>⟨⟨xs,xs[i],hl i σ' H' (Nat.le_of_lt hi) p,by simp [hi]⟩,λx H2 y=>by
   obtain⟨e,y⟩:=y
   subst e
   exact hs i x σ' _ (y xs (hl i σ' _ (Nat.le_of_lt hi) p)) p⟩) λσ' H' p=>⟨⟨xs,hl _ σ' H' (Nat.le_refl _) p,Nat.le_refl _⟩,hd σ' H' p⟩
theorem vN {xs:List V} (Pv:Nat->St->Hp->Prop) (h0:Pv 0 σ (upd H D (.lst []))) (hl:∀i σ' H',i<=xs.length->Pv i σ' H'->SqT K H' a xs)
   (hs:∀i x σ' H',xs[i]?=some x->Pv i σ' H'->g x σ' H' (Yq tt te D (Pv (i+1)))) (hd:∀σ' H',Pv xs.length σ' H'->Q H'):ZQ (yK K a) g tt te D σ H Q:=
 zH (n:=xs.length) Pv h0 (λi σ' H' hi p=>⟨⟨xs,xs[i],hl i σ' H' (Nat.le_of_lt hi) p,by simp [hi]⟩,λx H2 y=>by
   obtain⟨e,y⟩:=y
   subst e
   exact hs i x σ' _ (y xs (hl i σ' _ (Nat.le_of_lt hi) p)) p⟩) λσ' H' p=>⟨⟨xs,hl _ σ' H' (Nat.le_refl _) p,Nat.le_refl _⟩,hd σ' H' p⟩
theorem XR {x:Str} (Pv:Nat->St->Hp->Prop) (h0:Pv 0 σ (upd H D (.lst [])))
   (hs:∀i c σ' H',x.cps[i]?=some c->Pv i σ' H'->g (.str ⟨#[c]⟩) σ' H' (Yq tt te D (Pv (i+1)))) (hd:∀σ' H',Pv x.cps.size σ' H'->Q H'):ZQ (wE x) g tt te D σ H Q:=
 zH (n:=x.cps.size) Pv h0 (λi σ' H' hi p=>⟨hi,λv H2 y=>by
   obtain⟨e,c,hc,rfl⟩:=y
   subst e
   exact hs i c σ' _ hc p⟩) λσ' H' p=>⟨rfl,hd σ' H' p⟩
end
section
variable {X:Cx}
theorem ZN:∀(bs:List Bool),(List.range bs.length).all (λi=>bs.getD i false)=bs.all id:=by
 intro bs
 induction bs with
 | nil=>rfl
 | cons b bs ih=>
   rw[List.length_cons,List.range_succ_eq_map,List.all_cons,List.all_map,List.all_cons]
   have:((λi=>(b::bs).getD i false) ∘ Nat.succ)=λi=>bs.getD i false:=by
     funext i
     simp [Function.comp]
   rw[this,ih]
   simp
theorem JJ (hc:X.calm=true):jU X (.builtin "all") (λxs H Q=>∃(p:Addr) (bs:List Bool),xs=[.ref p]/\SqL X.K H p (bs.map V.bl)/\Q (.bl (bs.all id)) H):=by
 intro pins s σ H xs us Q I r h
 obtain⟨p,bs,rfl,hq,q⟩:=h
 obtain⟨u,rfl,rx⟩:=Qc r
 cases rx
 obtain⟨its,rv,pl,hz⟩:=I.list hq
 have hlt:p < s.heap.objs.size:=by
   obtain⟨o,n,e,_⟩:=pl
   exact Heap.lt_size e
 have hn:its.toArray.size=bs.length:=by
   have:=rv.length
   rw[List.length_map]at this
   simp only[List.size_toArray]
   omega
 have hh:X.A.in1.handled=none:=I.ok.hd hc
 refine call_all_walk (wpAny_pyIter_list pl.isList ?_)
 refine⟨s.heap.objs.size,[s.heap.objs.size,p],[s.heap.objs.size],its.toArray.size,λi v=>its.toArray[i]?=some v,_,λi=>bs.getD i false,rfl,Walks.list hh s.heap.objs.size p (Nat.ne_of_lt hlt) its.toArray,
   ⟨⟨_,Heap.get?_push_size _ rfl,rfl,rfl⟩,pl.isList.at λo e=>Heap.get?_push_of_some _ e⟩,?_,λh' tk hk=>?_⟩
 . intro i v s' Q' E' hP hQ
   have hi:its[i]?=some v:=by simpa using hP
   have hb:∃b,bs[i]?=some b/\v=Value.bool b:=by
     cases e:bs[i]? with
     | none=>
       exfalso
       have h1:(bs.map V.bl)[i]?=none:=by rw[List.getElem?_map,e];rfl
       rw[qw.none_of rv h1]at hi
       cases hi
     | some b=>
       have h1:(bs.map V.bl)[i]?=some (V.bl b):=by rw[List.getElem?_map,e];rfl
       obtain⟨u,hu,ru⟩:=rv.get h1
       rw[hi]at hu
       cases hu
       exact⟨b,rfl,ru⟩
   obtain⟨b,e,rfl⟩:=hb
   refine wpAny_truthy_bool ?_
   have e2:bs.getD i false=b:=by rw[List.getD_eq_getElem?_getD,e];rfl
   have hQ':Q' (bs.getD i false) s':=hQ
   rw[e2]at hQ'
   exact hQ'
 . rw[hn,ZN]
   refine⟨.bl (bs.all id),H,?_,rfl,q⟩
   exact I.kept (h':=h') (t':=tk) λb o e=>hk b o (by
     intro z
     have z':b=s.heap.objs.size:=by simpa using z
     exact absurd (Heap.lt_size e) (by rw[z'];exact Nat.lt_irrefl _)) (Heap.get?_push_of_some _ e)
theorem YF {ys:List Str}:∀{us:List Value},qw (ys.map V.str) us->StrsAre us ys:=by
 induction ys with
 | nil=>
   intro us r
   rw[List.map_nil]at r
   cases r
   exact .nil
 | cons y ys ih=>
   intro us r
   rw[List.map_cons]at r
   cases r with
   | cons a b=>
     obtain⟨t,rfl⟩:=a
     exact .cons _ _ (ih b)
def y8 (K:PySem.W.Frag):V->List V->Hp->VK->Prop:=λx xs H Q=>∃(sep:Str) (p:Addr) (ys:List Str),x=.str sep/\xs=[.ref p]/\SqL K H p (ys.map V.str)/\(ys.map (·.length)).sum+ys.length*sep.length<=16777216/\Q (.str (Txt.join sep ys)) H
theorem vv:xS X "str.join" (y8 X.K):=by
 intro pins s σ H x xs v us Q I rx rv h
 obtain⟨sep,p,ys,rfl,rfl,hq,hz,q⟩:=h
 obtain⟨t,rfl⟩:=rx
 obtain⟨u,rfl,ru⟩:=Qc rv
 cases ru
 obtain⟨its,r',pl,_⟩:=I.list hq
 exact join_list pl.isList (by simpa using YF r') hz λt' k=>⟨.str _,H,I.tok k,⟨t',rfl⟩,q⟩
def vM:V->Value
 | .ty n=>.type n
 | .ref a=>.ref a
 | _=>.none
def ko:V->Bool
 | .ty _=>true
 | .ref _=>true
 | _=>false
def xa (K:PySem.W.Frag):List V->Hp->VK->Prop:=λxs H Q=>∃x c t b,xs=[x,c]/\ko c=true/\TyOf K H x t/\PySem.W.kitOne K t (vM c)=some b/\Q (.bl b) H
theorem jd:jU X (.builtin "isinstance") (xa X.K):=by
 intro pins s σ H xs us Q I r h
 obtain⟨x,c,t,b,rfl,hc,ty,e,q⟩:=h
 obtain⟨u,w',rfl,ru,rw'⟩:=WW r
 have ew:w'=vM c:=by
   cases c with
   | ty n=>exact rw'
   | ref a=>exact rw'
   | _=>cases hc
 subst ew
 exact Wy I ru ty e λtk=>⟨.bl b,H,I.tok tk,rfl,q⟩
end
end L2
namespace L2
open PySem PySem.Spec PyProof.Rows
end L2
set_option Elab.async false
set_option linter.all false
set_option maxRecDepth 100000
set_option maxHeartbeats 4000000
namespace L2
open PySem PySem.Spec PyProof.Rows
abbrev yM (rest:List Value):Obj:={cls:=.type "tuple",data:=.seq rest.toArray}
abbrev yr (C t:Addr):Obj:={cls:=.ref C,data:=.fields #[.ref t,.none,.none,.none,.bool false,.none]}
section
variable {prog:Program} {w:World} {A:Around} {E:Value->Shared->Prop} {h:Heap} {g:Array GenState} {d:Drawn} {t:Nat} {os:OsState}
variable {nm q:Str} {C N fI:Addr} {bs bm bmB bmN:List Value} {hdct:Bool} {sn:List Str} {sub:List Value} {ab:Bool} {col:Option Bool} {dd:Option Addr} {k0 k1 k2 k3 k5:Option Value} {B Bn newId nid initId inN:String} {rest:List Value} {oI:Obj}
theorem YB {Q:Fin->Shared->Prop} (Fn:ExcBaseFacts Bn newId inN bmN) (hBn:bmB.contains (.type Bn)=true)
   (F:ExcBaseFacts B nid initId bmB) (T:OwnTail h bmB bm)
   (hC:h.get? C=some (excClassObj nm q C N bs bm hdct sn sub ab col dd k0 k1 k2 k3 k5 newId))
   (hi:PySem.W.Looks (model prog w) h (typeLookup (.ref C) "__init__") (some (.ref fI))) (hfI:h.get? fI=some oI) (hfc:oI.cls=.type "function")
   (hq:∀h' e,h.objs.size<=e->Heap.MadeExcOf h h' e (.ref C) rest->
     wpAny (model prog w) A (call (.ref fI) (.ref e::rest)) (λr s'=>r=.none/\Q (.done (.ret (.ref e))) s') E ⟨h',g,d,t,os⟩)
   (hz:rest.length<=sizeLine):
   wpAny (model prog w) A (Builtin.«type.__call__» ⟨.ref C::rest,[]⟩) Q E ⟨h,g,d,t,os⟩:=by
 repeat (first
   | with_reducible refine wpAny_loadPart_at hC ?_
   | with_reducible refine wpAny_madeBy_exc hC ?_
   | wp_step)
 refine codeAny_call_builtin_code (Code.quiet_builtin _ Fn.quiet) (wpAny_check_new_subU Fn hBn T hC
   (codeAny_exc_new_subU Fn hBn F T hC ?_ hz))
 show wpAny _ _ _ _ _ _
 have k:∀b o,h.get? b=some o->((h.push (yM rest)).push (yr C h.objs.size)).get? b=some o:=λb o e=>
   Heap.get?_push_of_some _ (Heap.get?_push_of_some _ e)
 have c1:=k _ _ hC
 have f1:=k _ _ hfI
 have i1:=hi.keeps k
 have e1:((h.push (yM rest)).push (yr C h.objs.size)).get? (h.objs.size+1)=some (yr C h.objs.size):=by heap_get
 have hcC:(Value.ref C::bm).contains (.ref C)=true:=by simp
 unfold isInstance
 repeat (first
   | with_reducible refine wpAny_loadPart_at e1 ?_
   | (with_reducible refine wpAny_isSubtype_exc c1 ?_;rw[hcC])
   | wp_step)
 show wpAny _ _ (typeLookup (.ref C) _) _ _ _
 refine i1.at ?_
 refine wpAny_holding (wpAny_bind ?_)
 unfold bindSpecial
 refine wpAny_bind (wpAny_typeOf (T:="function") ⟨_,f1,hfc⟩ ?_)
 rw[if_pos (by decide)]
 refine wpAny_pure (wpAny_bind (qP (hq _ (h.objs.size+1) (Nat.le_succ _) ⟨k,Heap.get?_none_of_le (Nat.le_succ _),h.objs.size,e1,Heap.get?_none_of_le (Nat.le_refl _),?_⟩) λr s' hr=>?_))
 . exact Heap.get?_push_of_some _ (Heap.get?_push_at rfl rfl)
 . obtain⟨rfl,hQ⟩:=hr
   wp_walk
   exact hQ
theorem WO {Q:Value->Shared->Prop} (Fn:ExcBaseFacts Bn newId inN bmN) (hBn:bmB.contains (.type Bn)=true)
   (F:ExcBaseFacts B nid initId bmB) (T:OwnTail h bmB bm)
   (hC:h.get? C=some (excClassObj nm q C N bs bm hdct sn sub ab col dd k0 k1 k2 k3 k5 newId))
   (hi:PySem.W.Looks (model prog w) h (typeLookup (.ref C) "__init__") (some (.ref fI))) (hfI:h.get? fI=some oI) (hfc:oI.cls=.type "function")
   (hq:∀h' e,h.objs.size<=e->Heap.MadeExcOf h h' e (.ref C) rest->
     wpAny (model prog w) (A.under (.builtin "type.__call__" ⟨.ref C::rest,[]⟩)) (call (.ref fI) (.ref e::rest)) (λr s'=>r=.none/\Q (.ref e) s') E ⟨h',g,d,t,os⟩)
   (hz:rest.length<=sizeLine):
   wpAny (model prog w) A (call (.ref C) rest) Q E ⟨h,g,d,t,os⟩:=by
 have a1:=tc_lookup
 have a2:=tc_bind (.ref C)
 have a3:(⟨h,g,d,t,os⟩:Shared).TypeIs (.ref C) "type":=⟨_,hC,rfl⟩
 refine wpAny_call (codeAny_of_tree ?_)
 show wpAny _ _ (callAny (.ref C) _) _ _ _
 repeat (any_goals (first
   | assumption
   | with_reducible refine wpAny_loadPart_at hC ?_
   | wp_step))
 refine⟨rfl,codeAny_call_builtin_at (Code.quiet_builtin _ (by decide+kernel)) entry_typeCall
   (wpAny_check_type_call_sub hC (YB Fn hBn F T hC hi hfI hfc (λh' e he hm=>?_) hz))⟩
 exact hq h' e he hm
end
end L2
namespace L2
open PySem PySem.W PyProof.Rows Builtin Builtin.ObjectAttr
structure J0 (K:Frag) (C:Addr) (bm:List Value):Prop where
 ga:findIn K (.ref C) "__getattribute__"=some (some (.builtin "BaseException.__getattribute__"))
 gt:findIn K (.ref C) "__getattr__"=some none
 sa:findIn K (.ref C) "__setattr__"=some (some (.builtin "object.__setattr__"))
 hd:hasDictIn K C=true
 mr:∃cd,clsIn K C=some cd/\cd.mro=.ref C::bm
 mb:mroIn K C (.type "BaseException")=some true
 mo:mroIn K C (.type "object")=some true
 cl:findIn K (.ref C) "__class__"=some (some (.builtin "object.__class__"))
def YT:List Value->Prop
 | .ref _::r=>YT r
 | l=>l=[.type "ValueError",.type "Exception",.type "BaseException",.type "object"]
theorem XA (self:Value):∀{l:List Value},YT l->refuseLoop self "__setattr__" l=pure ()
 | .ref c::r,e=>by rw[refuseLoop_ref];exact XA self (l:=r) e
 | [],e=>nomatch (show ([]:List Value)=[.type "ValueError",.type "Exception",.type "BaseException",.type "object"] from e)
 | .type n::r,e=>by
   have e':(Value.type n::r)=[.type "ValueError",.type "Exception",.type "BaseException",.type "object"]:=e
   rw[e'];kernel_rfl
 | .none::r,e=>by have e':(Value.none::r)=[.type "ValueError",.type "Exception",.type "BaseException",.type "object"]:=e;cases e'
 | .bool _::r,e=>by have e':_=[Value.type "ValueError",.type "Exception",.type "BaseException",.type "object"]:=e;cases e'
 | .int _ _::r,e=>by have e':_=[Value.type "ValueError",.type "Exception",.type "BaseException",.type "object"]:=e;cases e'
 | .float _ _::r,e=>by have e':_=[Value.type "ValueError",.type "Exception",.type "BaseException",.type "object"]:=e;cases e'
 | .str _ _::r,e=>by have e':_=[Value.type "ValueError",.type "Exception",.type "BaseException",.type "object"]:=e;cases e'
 | .bytes _ _::r,e=>by have e':_=[Value.type "ValueError",.type "Exception",.type "BaseException",.type "object"]:=e;cases e'
 | .builtin _::r,e=>by have e':_=[Value.type "ValueError",.type "Exception",.type "BaseException",.type "object"]:=e;cases e'
section
variable {prog:Program} {w:World} {A:Around} {E:Value->Shared->Prop} {s:Shared} {K:Frag} {x C:Addr} {ox:Obj} {od:Option Obj} {bm:List Value} {name:Str} {v:Value}
theorem U7 {tk:Tok} {R:Result->Shared->Prop} (X:K.In s.heap) (I:InstAt s.heap x ox C od) (c:J0 K C bm) (hb:YT bm) (ht:findIn K (.ref C) name=some none)
   (h:∀b,wpAny (model prog w) A.in1 (storeInOwnDict (.ref x) (.ref C) (.str name tk) name v b)
     (λfin s'=>match fin with | .done f=>R (.ok f) s' | .again c'=>c'.quiet=true/\codeAny (model prog w) A c' R s') (λe s'=>R (.error e) s') s):
   codeAny (model prog w) A (.call (.builtin "object.__setattr__") ⟨[.ref x,.str name tk,v],[]⟩) R s:=by
 have SF:=PySem.F.store_object
 obtain⟨cd,hc,hm⟩:=c.mr
 have sub:Looks (model prog w) s.heap (isInstance (.ref x) (.type "object")) true:=I.type.andThen (looks_mroIn X c.mo)
 refine codeAny_call_builtin SF.slot.plain SF.entry
   (@check_slot (model prog w) _ _ s "object.__setattr__" "object" "__setattr__" (.ref x) [.str name tk,v] [] _ SF.kind SF.split sub (SF.args (.ref x) (.str name tk) v) ?_)
 have lm:Looks (model prog w) s.heap (mroOf (.ref C)) cd.mro:=(looks_clsIn X hc).andThen .now
 rw[osa_eq,refuse_eq]
 refine wpAny_bind (wpAny_bind (I.type.here (wpAny_bind (lm.here ?_))))
 rw[hm,refuseLoop_ref,XA _ hb]
 refine wpAny_pure (wpAny_bind (I.type.here (wpAny_bind ((looks_findIn X ht).here ?_))))
 exact wpAny_bind (wpAny_pure (h _))
theorem Vd {Q:Unit->Shared->Prop} (X:K.In s.heap) (hx:s.heap.get? x=some ox) (hc:ox.cls=.ref C) (hdc:ox.dict=none) (hda:∃fl,ox.data=.fields fl) (c:J0 K C bm) (hb:YT bm) (ht:findIn K (.ref C) name=some none)
   (h:∀h' tk,h'.get? x=some {ox with dict:=some s.heap.objs.size}->h'.Ns1 s.heap.objs.size (λy=>if y=name then some v else none)->
     (∀b o,b≠x->s.heap.get? b=some o->h'.get? b=some o)->Q () {s with heap:=h',toks:=tk}):
   wpAny (model prog w) A (setAttr (.ref x) name v) Q E s:=by
 obtain⟨fl,hfl⟩:=hda
 obtain⟨oc,odi,oda,osl⟩:=ox
 dsimp only at hc hdc hfl
 subst hc hdc hfl
 have I:InstAt s.heap x ⟨.ref C,none,.fields fl,osl⟩ C none:=⟨hx,rfl,rfl,trivial⟩
 refine set_plain X I c.sa (U7 (s:={s with toks:=s.toks+1}) X I c hb ht λb=>?_)
 obtain⟨cd,hcd,hdd⟩:=any_some c.hd
 refine wpAny_bind (wpAny_pure (wpAny_bind (wpAny_bind (wpAny_loadPart hx (wpAny_bind (Looks.here (s:={s with toks:=s.toks+1}) (looks_clsIn X hcd) ?_))))))
 rw[hdd]
 have hne:x≠s.heap.objs.size:=Nat.ne_of_lt (Heap.lt_size hx)
 have h1:=Heap.get?_push_of_some PySem.W.emptyDict hx
 refine wpAny_bind (wpAny_alloc (wpAny_bind (wpAny_update h1 ?_)))
 generalize hh2:(s.heap.push emptyDict).update x (λo=>{o with dict:=some s.heap.objs.size})=h2
 have e2:h2.get? x=some ⟨.ref C,some s.heap.objs.size,.fields fl,osl⟩:=by rw[<-hh2];exact Heap.get?_update_self _ h1 rfl
 have k2:∀b o,b≠x->(s.heap.push emptyDict).get? b=some o->h2.get? b=some o:=λb o hb e=>by rw[<-hh2,Heap.get?_update_other _ _ (Ne.symm hb)];exact e
 have n0:(s.heap.push emptyDict).Ns s.heap.objs.size (λ_=>none):=⟨emptyDict,#[],_,Heap.get?_push_size s.heap rfl,rfl,(λe he=>absurd he (by simp)),λ_=>rfl⟩
 have n2:h2.Ns1 s.heap.objs.size (λ_=>none):=(Heap.Ns1.of_empty n0).at λo q=>k2 _ o (Ne.symm hne) q
 refine wpAny_pure (a:=some s.heap.objs.size) (wpAny_bind (wpAny_pure (wpAny_bind ?_)))
 refine wpAny_nsSet1 (s:={s with heap:=h2,toks:=s.toks+1}) n2 λh' hn2 hs2=>?_
 obtain⟨oD,esD,epD,hoD,hdD,hcD⟩:=hn2.count (PySem.Within.cons name v PySem.Within.nil)
 refine wpAny_bind (wpAny_lookBehind hoD (by rw[hdD];exact pastItsLine_dict (Nat.le_trans hcD (by show 1<=sizeLine+1;decide))) ?_)
 refine wpAny_pure (h h' (s.toks+1+1) ((hs2.2 x hne).trans e2) hn2 λb o hb e=>?_)
 exact(hs2.2 b (Nat.ne_of_lt (Heap.lt_size e))).trans (k2 b o hb (Heap.get?_push_of_some _ e))
theorem XI {fill expr:Bool} {tk:Tok} {Q:Value->Shared->Prop} (X:K.In s.heap) (I:InstAt s.heap x ox C od) (c:J0 K C bm)
   (h:wpAny (model prog w) A.in1 (Builtin.«object.__getattribute__» ⟨[.ref x,.str name tk],[]⟩) (λfin s'=>match fin with | .done (.ret u)=>handedIn u=true/\Q u s' | _=>False) (λ_ _=>False) s):
   wpAny (model prog w) A (getAttrBy (.ref x) (.str name tk) fill expr) Q E s:=by
 have ga:=PySem.F.attr_ValueError.ga
 have L1:=looks_findIn (M:=model prog w) X c.ga
 have L2:=looks_findIn (M:=model prog w) X c.gt
 have hk:builtinKind "BaseException.__getattribute__"=some .slot:=by decide+kernel
 have hs:splitId "BaseException.__getattribute__"=some ("BaseException","__getattribute__"):=by decide+kernel
 have sub:Looks (model prog w) s.heap (isInstance (.ref x) (.type "BaseException")) true:=I.type.andThen (looks_mroIn X c.mb)
 unfold getAttrBy
 refine wpAny_holding (wpAny_bind (I.type.here (wpAny_bind (L1.here ?_))))
 dsimp only
 have eb:(Value.builtin "BaseException.__getattribute__"==Value.builtin "object.__getattribute__")=false:=by decide+kernel
 rw[if_neg (by rw[eb,Bool.and_false];decide)]
 unfold getAttrByItsOwn
 refine wpAny_bind (show wpAny _ _ (hookBefore (.ref C)) _ _ _ from L2.here ?_)
 refine wpAny_bind (wpAny_attempt (wpAny_holding ?_))
 unfold callGetattribute
 have e0:(expr&&onTheHeap (Value.builtin "BaseException.__getattribute__"))=false:=by cases expr<;>rfl
 rw[if_neg (by rw[e0];decide)]
 unfold boundAndCalled
 rw[ga.bind]
 refine wpAny_bind (wpAny_pure ?_)
 refine wpAny_call (codeAny_call_builtin ga.plain PySem.F.entry_bexc_ga
   (@check_slot (model prog w) _ _ s "BaseException.__getattribute__" "BaseException" "__getattribute__" (.ref x) [.str name tk] [] _ hk hs sub (PySem.F.args_bexc_ga _ _) ?_))
 refine wpAny_mono h (λfin s' z=>?_) λ_ _ z=>z.elim
 cases fin with
 | again c'=>exact z.elim
 | done f=>
   cases f with
   | next=>exact z.elim
   | brk=>exact z.elim
   | cont=>exact z.elim
   | ret u=>
     obtain⟨hh,q⟩:=z
     show wpAny _ _ (handedOut u) _ _ _
     rw[handedOut_of hh]
     exact wpAny_pure q
theorem vH {expr:Bool} {Q:Value->Shared->Prop} {odd:Obj} (X:K.In s.heap) (I:InstAt s.heap x ox C (some odd)) (c:J0 K C bm) (ha:findIn K (.ref C) name=some none) (hl:lookIn name odd=some (some v)) (hv:handedIn v=true)
   (h:Q v {s with toks:=s.toks+1}):wpAny (model prog w) A (getAttr (.ref x) name expr) Q E s:=by
 have hf:findObj K C (some odd) name=some (.value v):=findObj_own c.hd ha rfl hl
 have LF:=looks_find (M:=model prog w) X I hf
 unfold getAttr
 refine wpAny_bind (wpAny_mkText (XI (s:={s with toks:=s.toks+1}) X I c ?_))
 unfold Builtin.«object.__getattribute__»
 refine wpAny_bind (wpAny_pure (wpAny_bind (wpAny_pure (wpAny_bind (Looks.here (s:={s with toks:=s.toks+1}) I.type (wpAny_bind (Looks.here (s:={s with toks:=s.toks+1}) LF ?_)))))))
 exact wpAny_pure ⟨hv,h⟩
end
end L2
namespace L2
open PySem PySem.W PyProof.Rows Builtin Builtin.ObjectAttr
section
variable {K:Frag} {x C:Addr} {ox odd:Obj} {bm:List Value}
theorem VT (c:J0 K C bm) (hn:specialIn K (.builtin "object.__class__") "__get__"=some (some (.builtin "getset_descriptor.__get__"))) (htk:takesIn K (.builtin "object.__class__")=some true):
   KitX K (.ref x) (.ref C) (λh=>InstAt h x ox C (some odd)) where
 ty:=λ_ _ _ I=>I.type
 it:=λ_ _ X _=>by
   obtain⟨cd,hcd,_⟩:=any_some c.hd
   unfold clsIn at hcd
   split at hcd
   . rename_i _ _ _ _ ho
     intro A' Q' E' s' k q
     unfold isType loadHead
     exact wpAny_bind (wpAny_loadPart (k _ _ (X _ _ ho)) (wpAny_pure q))
   . cases hcd
 ne:=λh tp dd its n sl X htp=>by
   obtain⟨cd,hcd,_⟩:=any_some c.hd
   refine Bool.eq_false_iff.mpr λq=>?_
   have e:C=tp:=Value.ref.inj (beq_iff_eq.mp q)
   subst e
   unfold clsIn at hcd
   split at hcd
   . rename_i _ _ _ _ ho
     have z:=(X _ _ ho).symm.trans htp
     cases z
   . cases hcd
 ca:=λ{prog w A E Q s} X I k=>by
   have hf:findObj K C (some odd) "__class__"=some (.bind (.builtin "getset_descriptor.__get__") (.builtin "object.__class__")):=
     findObj_data (by obtain⟨cd,hc,_⟩:=any_some c.hd;rw[hc];rfl) c.cl hn htk
   have LF:=looks_find (M:=model prog w) X I hf
   unfold getAttr? getAttrBy?
   refine wpAny_bind (wpAny_mkText (wpAny_bind (wpAny_attempt (XI (s:={s with toks:=s.toks+1}) X I c ?_))))
   unfold Builtin.«object.__getattribute__»
   refine wpAny_bind (wpAny_pure (wpAny_bind (wpAny_pure (wpAny_bind (Looks.here (s:={s with toks:=s.toks+1}) I.type (wpAny_bind (Looks.here (s:={s with toks:=s.toks+1}) LF ?_)))))))
   dsimp only
   unfold bindTo
   dsimp only
   refine wpAny_bind (wpAny_holding (wpAny_call (class_get (s:={s with toks:=s.toks+1}) X I c.mo ?_)))
   exact wpAny_pure ⟨rfl,wpAny_pure k⟩
end
end L2
set_option Elab.async false
set_option linter.all false
set_option maxRecDepth 100000
set_option maxHeartbeats 4000000
namespace L2
open PySem PySem.Spec PyProof.Rows
def JF (e C:Addr):HO:=.ext λh=>∃fl,h.get? e=some {cls:=.ref C,data:=.fields fl}/\fl[1]?=some Value.none
def Qz (e C dx:Addr) (hd:Value):HO:=.ext λh=>∃fl,h.get? e=some {cls:=.ref C,dict:=some dx,data:=.fields fl}/\fl[1]?=some hd
abbrev QY (e C dx:Addr):HO:=Qz e C dx .none
def jC:List Value:=[.type "ValueError",.type "Exception",.type "BaseException",.type "object"]
structure xH (K:PySem.W.Frag) (C f:Addr) (bm:List Value):Prop where
 obj:∃nm q N bs hdct sn sub ab col dd k0 k1 k2 k3 k5,K.lookup C=some (excClassObj nm q C N bs bm hdct sn sub ab col dd k0 k1 k2 k3 k5 "ValueError.__new__")
 tail:∀h:Heap,K.In h->OwnTail h jC bm
 init:PySem.W.findIn K (.ref C) "__init__"=some (some (.ref f))
 fn:PySem.W.isFn K (.ref f)=true
 kp:PySem.W.keepIn K (.ref C)=true
section
variable {P:Program} {w:World} {H:Hp} {h h':Heap} {e C dx:Addr}
theorem vJ (he:∃fl,h.get? e=some {cls:=.ref C,data:=.fields fl}/\fl[1]?=some Value.none):qE P w H h e (JF e C):=by
 obtain⟨fl,q,z⟩:=he
 exact⟨⟨fl,q,z⟩,⟨_,q⟩,λh1 h2 ⟨fl',q',z'⟩ k=>⟨fl',k _ q',z'⟩⟩
theorem zD {hd:Value} (he:∃fl,h.get? e=some {cls:=.ref C,dict:=some dx,data:=.fields fl}/\fl[1]?=some hd):qE P w H h e (Qz e C dx hd):=by
 obtain⟨fl,q,z⟩:=he
 exact⟨⟨fl,q,z⟩,⟨_,q⟩,λh1 h2 ⟨fl',q',z'⟩ k=>⟨fl',k _ q',z'⟩⟩
end
section
variable {X:Cx} {pins:List (Addr×Obj)} {σ:St} {H:Hp} {s:Shared} {e C dx:Addr} {f:Str} {bm:List Value} {y v:V} {u:Value} {A:Around} {E:Value->Shared->Prop}
theorem qp.excSet {h':Heap} {t':Nat} {fs:List (Str×V)} (I:qp X pins σ H s) (hH:H e=some (JF e C)) (hd:s.heap.objs.size<=dx)
   (h1:∃fl,h'.get? e=some {cls:=.ref C,dict:=some dx,data:=.fields fl}/\fl[1]?=some Value.none) (h2:∃mA,h'.Ns1 dx mA/\∀f,QJ (fs.lookup f) (mA f))
   (k:∀b o,b≠e->s.heap.get? b=some o->h'.get? b=some o):qp X pins σ (upd (upd H e (QY e C dx)) dx (.xd fs)) {s with heap:=h',toks:=t'}:=by
 have mu:yH (H e):=by rw[hH];exact trivial
 have heo:∃u,h'.get? e=some u:=let ⟨_,q,_⟩:=h1;⟨_,q⟩
 have hn:H dx=none:=I.hok.fresh hd
 have ne:dx≠e:=λz=>by rw[z,hH]at hn;cases hn
 have U:Un X.fs [] H (upd H e (QY e C dx)) s.heap h':=Un.write mu (.inl rfl) k heo
 have W:QK X.prog X.w (upd H e (QY e C dx)) h':=I.hok.write mu (.inl rfl) k heo (zD h1)
 have hn2:(upd H e (QY e C dx)) dx=none:=by rw[qg ne];exact hn
 have nb:∀b o,s.heap.get? b=some o->b≠dx:=λb o q=>Nat.ne_of_lt (Nat.lt_of_lt_of_le (Heap.lt_size q) hd)
 refine I.un ⟨U.keep,U.slot,λb o q n hx=>?_,U.there,λb xs q=>?_,λb o z q=>?_,λb ps q=>?_⟩ λb o q=>?_
 . rw[qg (nb b o q)];exact U.free b o q n hx
 . have:=U.tups b xs q
   rw[qg (qu this hn2)];exact this
 . have:=U.frzs b o z q
   rw[qg (qu this hn2)];exact this
 . obtain⟨m,q'⟩:=U.tbls b ps q
   exact⟨m,by rw[qg (qu q' hn2)];exact q'⟩
 . by_cases hb:b=dx
   . subst hb
     rw[qd]at q
     cases q
     exact h2
   . rw[qg hb]at q
     exact(W b o q).stay (λ_ _ _ z=>z) (λc z=>by rw[qg (qu z hn2)];exact z) λc xs z=>by rw[qg (qu z hn2)];exact z
theorem X7 {Q:Unit->Shared->Prop} (I:qp X pins σ H s) (hH:H e=some (JF e C)) (c:J0 X.K C bm) (hb:YT bm) (n:jO X.K C f) (ry:qG y u)
   (h:∀dx s',H dx=none->qp X pins σ (upd (upd H e (QY e C dx)) dx (.xd [(f,y)])) s'->Q () s'):wpAny (model X.prog X.w) A (setAttr (.ref e) f u) Q E s:=by
 obtain⟨⟨fl,he,hz⟩,_,_⟩:=(show qE X.prog X.w H s.heap e (JF e C) from I.hok e _ hH)
 refine Vd I.kIn he rfl rfl ⟨fl,rfl⟩ c hb n λh' tk e1 e2 e3=>?_
 refine h s.heap.objs.size _ (I.hok.fresh (Nat.le_refl _)) (I.excSet hH (Nat.le_refl _) ⟨fl,e1,hz⟩ ⟨_,e2,λg=>?_⟩ e3)
 by_cases hg:g=f
 . subst hg
   rw[List.lookup_cons]
   simp only[beq_self_eq_true,if_true]
   exact ry
 . have hb':(g==f)=false:=beq_eq_false_iff_ne.mpr hg
   rw[List.lookup_cons]
   simp only[hb',hg,if_false]
   exact trivial
theorem WF {b:Bool} {Q:Value->Shared->Prop} {fs:List (Str×V)} {hd:Value} (I:qp X pins σ H s) (hH:H e=some (Qz e C dx hd)) (hx:H dx=some (.xd fs)) (c:J0 X.K C bm) (n:jO X.K C f) (l:fs.lookup f=some v)
   (h:∀u s',qp X pins σ H s'->qG v u->Q u s'):wpAny (model X.prog X.w) A (getAttr (.ref e) f b) Q E s:=by
 obtain⟨⟨fl,he,_⟩,_,_⟩:=(show qE X.prog X.w H s.heap e (Qz e C dx hd) from I.hok e _ hH)
 obtain⟨mA,hn,hr⟩:=(show qE X.prog X.w H s.heap dx (.xd fs) from I.hok dx _ hx)
 obtain⟨od,ho,hl⟩:=Jx hn
 have r:=hr f
 rw[l]at r
 obtain⟨u,eu,ru⟩:=QJ.some_of r
 exact vH I.kIn ⟨he,rfl,rfl,ho⟩ c n (by rw[hl,eu]) (za ru) (h u _ (I.tok _) ru)
theorem Uc {cV:Value} {b:Bool} {Q:Value->Shared->Prop} {fs:List (Str×V)} {hd:Value} (I:qp X pins σ H s) (hH:H e=some (Qz e C dx hd)) (hx:H dx=some (.xd fs)) (c:J0 X.K C bm)
   (hn:PySem.W.specialIn X.K (.builtin "object.__class__") "__get__"=some (some (.builtin "getset_descriptor.__get__"))) (htk:PySem.W.takesIn X.K (.builtin "object.__class__")=some true)
   (ek:PySem.W.kitOne X.K (.ref C) cV=some b) (h:∀tk,Q (.bool b) {s with toks:=tk}):wpAny (model X.prog X.w) A (call (.builtin "isinstance") [.ref e,cV]) Q E s:=by
 obtain⟨⟨fl,he,_⟩,_,_⟩:=(show qE X.prog X.w H s.heap e (Qz e C dx hd) from I.hok e _ hH)
 obtain⟨mA,hns,hr⟩:=(show qE X.prog X.w H s.heap dx (.xd fs) from I.hok dx _ hx)
 obtain⟨od,ho,hl⟩:=Jx hns
 exact PySem.W.kia_one (VT (ox:={cls:=.ref C,dict:=some dx,data:=.fields fl}) (odd:=od) c hn htk) I.kIn ⟨he,rfl,rfl,ho⟩ ek (λz=>nomatch z) h
end
end L2
namespace L2
open PySem PySem.Spec PyProof.Rows
def x8 (K:PySem.W.Frag) (bm:List Value) (ta tv:TE) (f:Str):TS:=λD σ H=>tv σ H λy H1=>ta σ H1 λx H2=>∃a C,x=.ref a/\H2 a=some (JF a C)/\J0 K C bm/\YT bm/\jO K C f/\
 ∀dx,H2 dx=none->D.nx σ (upd (upd H2 a (QY a C dx)) dx (.xd [(f,y)]))
section
variable {X:Cx} {CX:zK} {k:Nat} {C fI:Addr} {fd:FuncData} {ps:List Str} {sp:Sp} {E:XK} {x f:Str} {o e value:Expr} {es:List Expr} {p pos pos':Pos} {ta tv:TE} {t:TA} {bm:List Value}
theorem yn (ha:JE X o ta) (hv:JE X value tv) (hs:swapsWith value (some (.Attribute o f pos')) pos.line X.env=pure false):JS X (.Assign [.Attribute o f pos'] value pos) (x8 X.K bm ta tv f):=.of (by
 have ha:=ha.to
 have hv:=hv.to
 intro pins s σ H D I h
 refine plainObj_wpAny_Assign_Attribute (qP (hv pins s σ H _ I h) λu s1 ⟨y,H1,I1,ry,q⟩=>
   qP (ha pins s1 σ H1 _ I1 q) λov s2 ⟨x,H2,I2,rx,a,C,ex,ea,c,hb,n,q2⟩=>?_) hs
 subst ex
 obtain rfl:ov=Value.ref a:=rx
 exact X7 I2 ea c hb n ry λdx s3 hdx I3=>⟨σ,_,I3,q2 dx hdx⟩)
theorem Wb {pins:List (Addr×Obj)} {σ:St} {H:Hp} {s:Shared} {Q:VK} {us:List Value} {vs:List V} (M:xH X.K C fI bm) (F:FnOk X.prog X.w X.K X.mg X.base CX k fI fd ps sp) (hr:qU (k+1) X.A) (hb:js X.K fd ps [])
   (hx:Qa CX X E) (I:qp X pins σ H s) (r:qw vs us) (hz:us.length<=sizeLine)
   (h:∀x,H x=none->sp (.ref x::vs) (upd H x (JF x C)) (λv H2=>v=.non/\Q (.ref x) H2) E):
   wpAny (model X.prog X.w) X.A (call (.ref C) us) (EP X pins σ Q) X.xe s:=by
 obtain⟨nm,q,N,bs,hdct,sn,sub,ab,col,dd,k0,k1,k2,k3,k5,hC⟩:=M.obj
 have hfn:PySem.W.typeIn X.K (.ref fI)=some (.type "function"):=beq_iff_eq.mp M.fn
 obtain⟨oI,ho,hoc⟩:=Option.map_eq_some_iff.mp hfn
 have KX:=I.kIn
 obtain⟨hp,g,d,tk,os⟩:=s
 refine WO PySem.F.excBase_ValueError (by decide+kernel) PySem.F.excBase_ValueError (M.tail _ KX) (KX _ _ hC) (PySem.W.looks_findIn KX M.init) (KX _ _ ho) hoc (λh' ex hle hm=>?_) hz
 obtain⟨t0,ht,_,_⟩:=hm.there
 have I2:qp X pins σ (upd H ex (JF ex C)) ⟨h',g,d,tk,os⟩:=I.laid (t':=tk) hm.keeps hle (vJ ⟨_,ht,rfl⟩)
 have hq:=h ex (I.hok.fresh hle)
 have r2:qw (V.ref ex::vs) (Value.ref ex::us):=.cons rfl r
 have hl:(Value.ref ex::us++[]).length=ps.length:=by
   have e:=r2.length
   rw[F.len _ _ _ _ hq]at e
   rw[List.append_nil]
   exact e.symm
 have bb:=hb ⟨h',g,d,tk,os⟩ (Value.ref ex::us) I2.kIn hl
 rw[List.append_nil]at bb
 refine wpAny_call (codeAny_mono (F.run _ X.stack _ _ ⟨Value.ref ex::us,[]⟩ (Value.ref ex::us) _ _ E (hr.make C us []) (I2.env0.make C us []) bb r2 hq) λr s' hq'=>?_)
 cases r with
 | error z=>exact hx pins σ _ _ z s' I2 hq'
 | ok fl=>
   cases fl with
   | ret u=>
     obtain⟨v,H',I3,rv,ev,q3⟩:=I2.after hq'
     subst ev
     exact⟨rv,⟨V.ref ex,H',I3,rfl,q3⟩⟩
   | next=>exact False.elim hq'
   | brk=>exact False.elim hq'
   | cont=>exact False.elim hq'
theorem V5 (M:xH X.K C fI bm) (F:FnOk X.prog X.w X.K X.mg X.base CX k fI fd ps sp) (hr:qU (k+1) X.A) (hg:Gl X x) (hm:X.mg x=some (.ref C)) (hb:js X.K fd ps []) (hx:Qa CX X E) (ha:JA X (e::es) t) (hz:(e::es).length<=1000:=by decide) (hv:∀vs us,qw vs us->vs.length<=sizeLine->us.length<=sizeLine:=by intro vs us r h;rw[<-r.length];exact h) (hdb:(x==("__debug__":Str))=false:=by decide) (he:starEach (e::es) X.env=(false,eval e X.env)::starEach es X.env:=by rfl) (hpl:(backTo pos (starEach es X.env)).any (·.1)=false:=by rfl):JE X (.Call (.Name x p) (e::es) [] pos) (λσ H Q=>t σ H λvs H1=>vs.length<=sizeLine/\∀x,H1 x=none->sp (.ref x::vs) (upd H1 x (JF x C)) (λv H2=>v=.non/\Q (.ref x) H2) E):=.of (by
 have ha:=ha.to
 intro pins s σ H Q I h
 refine wpAny_Call_Name_kw (Za I hg hm ?_ hdb)
 refine PySem.W.callWith_K (h₀:=X.base) I.ok.mod.kin M.kp (qP (ha pos pins s σ H _ I h) λus s1 ⟨vs,H1,I1,r,q⟩=>⟨I1.kIn,?_⟩) he hpl
 exact Wb M F hr hb hx I1 r (hv vs us r q.1) q.2)
end
end L2
set_option Elab.async false
set_option linter.all false
set_option maxRecDepth 100000
set_option maxHeartbeats 4000000
namespace L2
open PySem PySem.Spec PyProof.Rows
def neL (xs ys:List V):Bool:=if xs.length=ys.length then !((List.range xs.length).all λj=>vK (xs.getD j .non) (ys.getD j .non)) else true
mutual
inductive DV (K:PySem.W.Frag) (H:Hp):V->PyData->Prop
 | non:DV K H .non .none
 | bl (b:Bool):DV K H (.bl b) (.bool b)
 | int (i:Int):DV K H (.int i) (.int i)
 | str (x:Str):DV K H (.str x) (.str x)
 | lst {a:Addr} {xs:List V} {ds:List PyData}:SqL K H a xs->DVs K H xs ds->DV K H (.ref a) (.list ds)
 | tup {a:Addr} {xs:List V} {ds:List PyData}:SqT K H a xs->DVs K H xs ds->DV K H (.ref a) (.tuple ds)
inductive DVs (K:PySem.W.Frag) (H:Hp):List V->List PyData->Prop
 | nil:DVs K H [] []
 | cons {x:V} {xs:List V} {d:PyData} {ds:List PyData}:DV K H x d->DVs K H xs ds->DVs K H (x::xs) (d::ds)
end
section
variable {X:Cx} {pins:List (Addr×Obj)} {σ:St} {H:Hp} {s:Shared}
mutual
theorem DV.reads (I:qp X pins σ H s):∀{x:V} {d:PyData},DV X.K H x d->∀{u:Value},qG x u->∃as,Reads s.heap u d as
 | _,_,.non,u,r=>by cases (show u=Value.none from r);exact⟨_,.none⟩
 | _,_,.bl b,u,r=>by cases (show u=Value.bool b from r);exact⟨_,.bool b⟩
 | _,_,.int i,u,r=>by obtain⟨t,q⟩:=(show ∃t,u=Value.int i t from r);subst q;exact⟨_,.int i t⟩
 | _,_,.str x,u,r=>by obtain⟨t,q⟩:=(show ∃t,u=Value.str x t from r);subst q;exact⟨_,.str x t⟩
 | _,_,.lst (a:=a) hq hs,u,r=>by
   cases (show u=Value.ref a from r)
   obtain⟨its,rv,⟨o,n,e,hc,hd,hda⟩,hz⟩:=I.list hq
   obtain⟨as,ra⟩:=DVs.reads I hs rv
   exact⟨_,.list e hc hda (by simpa using ra)⟩
 | _,_,.tup (a:=a) hq hs,u,r=>by
   cases (show u=Value.ref a from r)
   obtain⟨its,rv,⟨o,e,hc,n,hda⟩,hz⟩:=I.tuple hq
   obtain⟨as,ra⟩:=DVs.reads I hs rv
   exact⟨_,.tuple e hc hda (by simpa using ra)⟩
theorem DVs.reads (I:qp X pins σ H s):∀{xs:List V} {ds:List PyData},DVs X.K H xs ds->∀{us:List Value},qw xs us->∃as,ReadsAll s.heap us ds as
 | _,_,.nil,_,.nil=>⟨_,.nil⟩
 | _,_,.cons h hs,_,.cons r rs=>by
   obtain⟨as,a⟩:=DV.reads I h r
   obtain⟨bs,b⟩:=DVs.reads I hs rs
   exact⟨_,.cons a b⟩
end
end
def y6 (K:PySem.W.Frag):List V->Hp->VK->Prop:=λxs H Q=>∃a d,xs=[.ref a]/\DV K H (.ref a) d/\d.showable=true/\d.hasDict=false/\d.depth<=60/\d.shown.length<=sizeLine/\Q (.str d.shown) H
theorem jD {X:Cx} (hg:X.A.guards=some []) (hu:X.A.units+64 < cLine):jU X (.builtin "repr") (y6 X.K):=by
 intro pins s σ H xs us Q I r h
 obtain⟨a,d,rfl,hd,h1,h2,h3,h4,q⟩:=h
 obtain⟨u,rfl,ru⟩:=Qc r
 cases ru
 obtain⟨as,ra⟩:=hd.reads I (u:=.ref a) rfl
 exact repr_of_reads' ra h1 (λz=>by rw[h2]at z;cases z) hg (by omega) (λ_ _ e=>e) (λh' t tk k=>⟨.str d.shown,H,I.kept (t':=tk) k,⟨t,rfl⟩,q⟩) h4
end L2
namespace L2
open PySem PySem.Spec PyProof.Rows
end L2
set_option Elab.async false
set_option linter.all false
set_option maxRecDepth 100000
set_option maxHeartbeats 4000000
namespace L2
open PySem PySem.Spec PyProof.Rows
structure WT (fs:List Addr) (ex:List Addr) (h h':Heap):Prop where
 keep:∀b o,b∉fs->b∉ex->h.get? b=some o->h'.get? b=some o
 slot:∀b o,b∈fs->b∉ex->h.get? b=some o->∃sl,h'.get? b=some {o with slots:=sl}
def ku (T:Addr) (fl:Value) (h:Heap):Prop:=∃ts,h.get? T=some {cls:=.type "traceback",data:=.fields ts}/\ts[3]?=some fl
section
variable {M:Model} {A:Around} {E:Value->Shared->Prop} {s:Shared} {base:Heap} {env:Env} {outer:List Env} {L e:Addr} {cl head:Value} {d:Option Addr} {vs:Array Value} {had:Bool} {Q:Unit->Shared->Prop}
theorem WZ (fr:A.frames=some (env::outer)) (ff:s.heap.FunFrames base (env::outer)) (fm:env.frame=some L)
   (he:s.heap.get? e=some {cls:=cl,dict:=d,data:=.fields vs}) (sz:1 < vs.size)
   (k:∀h' T,s.heap.objs.size<=T->WT (ZG (env::outer)) [e] s.heap h'->h'.get? e=some {cls:=cl,dict:=d,data:=.fields (vs.setIfInBounds 1 (.ref T))}->ku T (rawInt L) h'->Q () {s with heap:=h'}):
   wpAny M A (frameOf env >>= λa=>entryPlaceOf L had >>= λpl=>EntryCells.newEntry head a .none (rawInt L) .none pl >>= λb=>setField (.ref e) 1 b) Q E s:=by
 have out:e∉ZG (env::outer):=λz=>by
   obtain⟨_,o,ho,nf⟩:=ff.mem z
   rw[he]at ho
   cases ho
   exact nf vs rfl
 refine wpAny_bind (wpAny_frameOf_fun fr ff fm λh1 so=>?_)
 refine wpAny_bind (wpAny_entryPlaceOf λpl ip=>?_)
 have e1:h1.get? e=some {cls:=cl,dict:=d,data:=.fields vs}:=(so.2.1 e out).trans he
 unfold EntryCells.newEntry newFields
 refine wpAny_bind (wpAny_newObj_type ?_ (ip.sizeOk5 _ _ _ _ _))
 have ne:e≠h1.objs.size:=Nat.ne_of_lt (Heap.lt_size e1)
 refine wpAny_setField (Heap.get?_push_of_some _ e1) rfl sz (k _ h1.objs.size (Nat.le_of_eq so.1.symm) ⟨λb o n1 n2 q=>?_,λb o n1 n2 q=>?_⟩ ?_ ⟨_,(Heap.get?_update_other _ _ ne).trans (Heap.get?_push_size _ rfl),?_⟩)
 . have n3:b≠e:=λz=>n2 (by simp [z])
   rw[Heap.get?_update_other _ _ (Ne.symm n3)]
   exact Heap.get?_push_of_some _ ((so.2.1 b n1).trans q)
 . have n3:b≠e:=λz=>n2 (by simp [z])
   obtain⟨sl,r⟩:=so.2.2 b o q
   exact⟨sl,by rw[Heap.get?_update_other _ _ (Ne.symm n3)];exact Heap.get?_push_of_some _ r⟩
 . exact Heap.get?_update_self _ (Heap.get?_push_of_some _ e1) rfl
 . rcases ip with rfl | ⟨_,_,_,_,_,_,_,rfl⟩<;>simp
theorem VQ (fr:A.frames=some (env::outer)) (ff:s.heap.FunFrames base (env::outer)) (fm:env.frame=some L)
   (he:s.heap.get? e=some {cls:=cl,dict:=d,data:=.fields vs}) (h1:vs[1]?=some .none)
   (k:∀h' T,s.heap.objs.size<=T->WT (ZG (env::outer)) [e] s.heap h'->h'.get? e=some {cls:=cl,dict:=d,data:=.fields (vs.setIfInBounds 1 (.ref T))}->ku T (rawInt L) h'->Q () {s with heap:=h'}):
   wpAny M A (noteFrame (.ref e) env) Q E s:=by
 unfold noteFrame
 simp only[fm]
 refine wpAny_bind (wpAny_field he rfl h1 ?_)
 rw[if_neg (show ¬((Value.none != Value.none)=true) by decide)]
 exact WZ fr ff fm he (Array.getElem?_eq_some_iff.mp h1).1 k
theorem vt {T:Addr} (fr:A.frames=some (env::outer)) (ff:s.heap.FunFrames base (env::outer)) (fm:env.frame=some L)
   (he:s.heap.get? e=some {cls:=cl,dict:=d,data:=.fields vs}) (h1:vs[1]?=some (.ref T)) (st:ku T .none s.heap) (ne:T≠e)
   (k:∀h' T',s.heap.objs.size<=T'->WT (ZG (env::outer)) [e,T] s.heap h'->(∃o,h'.get? T=some o)->h'.get? e=some {cls:=cl,dict:=d,data:=.fields (vs.setIfInBounds 1 (.ref T'))}->ku T' (rawInt L) h'->Q () {s with heap:=h'}):
   wpAny M A (noteFrame (.ref e) env) Q E s:=by
 obtain⟨ts,ht,h3⟩:=st
 unfold noteFrame
 simp only[fm]
 refine wpAny_bind (wpAny_field he rfl h1 ?_)
 rw[if_pos (show (Value.ref T != Value.none)=true by simp)]
 refine wpAny_bind (wpAny_field ht rfl h3 ?_)
 rw[if_neg (show ¬((Value.none==rawInt L)=true) by simp [rawInt])]
 refine wpAny_bind (wpAny_setField ht rfl (Array.getElem?_eq_some_iff.mp h3).1 ?_)
 have oth:∀b,b≠T->(s.heap.update T (Obj.mapFields (·.setIfInBounds 3 Value.none))).get? b=s.heap.get? b:=λb n=>Heap.get?_update_other _ _ (Ne.symm n)
 have tno:T∉ZG (env::outer):=λz=>by
   obtain⟨_,o,ho,nf⟩:=ff.mem z
   rw[ht]at ho
   cases ho
   exact nf ts rfl
 refine WZ fr (ff.of_keeps λb o hb nf=>⟨o,(oth b λz=>?_).trans hb,rfl⟩) fm ((oth e (Ne.symm ne)).trans he) (Array.getElem?_eq_some_iff.mp h1).1 λh' T' hT F q1 q2=>?_
 . rw[z,ht]at hb
   cases hb
   exact nf ts rfl
 . have upT:=Heap.get?_update_self (Obj.mapFields (·.setIfInBounds 3 Value.none)) ht rfl
   refine k h' T' (Nat.le_trans (Nat.le_of_eq (by simp)) hT) ⟨λb o n1 n2 q=>?_,λb o n1 n2 q=>?_⟩ ⟨_,F.keep T _ tno (by simp [ne]) upT⟩ q1 q2
   . simp only[List.mem_cons,List.not_mem_nil,or_false,not_or]at n2
     exact F.keep b o n1 (by simp [n2.1]) ((oth b n2.2).trans q)
   . simp only[List.mem_cons,List.not_mem_nil,or_false,not_or]at n2
     exact F.slot b o n1 (by simp [n2.1]) ((oth b n2.2).trans q)
theorem Q5 {T:Addr} {fl:Value} {fs:List Addr} (he:s.heap.get? e=some {cls:=cl,dict:=d,data:=.fields vs}) (h1:vs[1]?=some (.ref T)) (st:ku T fl s.heap)
   (k:∀h',WT fs [T] s.heap h'->ku T .none h'->Q () {s with heap:=h'}):wpAny M A (setFlight (.ref e) none) Q E s:=by
 obtain⟨ts,ht,h3⟩:=st
 have lt:=(Array.getElem?_eq_some_iff.mp h3).1
 refine wpAny_setFlight_none he rfl h1 ht rfl lt (k _ ⟨λb o _ n q=>?_,λb o _ n q=>⟨o.slots,?_⟩⟩ ⟨_,Heap.get?_update_self _ ht rfl,by simp [lt]⟩)
 all_goals
   rw[Heap.get?_update_other _ _ λz=>n (by simp [z])]
   exact q
end
structure ZO (ex:List Addr) (n:Nat) (H H':Hp):Prop where
 ext:∀b∈ex,∃φ,H b=some (.ext φ)
 same:∀b o,b∉ex->H b=some o->H' b=some o
 no:∀b,b < n->H b=none->H' b=none
section
variable {P:Program} {w:World} {fs ex:List Addr} {H H':Hp} {h h':Heap}
theorem ZO.out {n:Nat} (t:ZO ex n H H') {b:Addr} {o:HO} (q:H b=some o) (hn:∀φ,o≠.ext φ):b∉ex:=λz=>by
 obtain⟨φ,e⟩:=t.ext b z
 rw[q]at e
 cases e
 exact hn φ rfl
theorem ZO.out0 {n:Nat} (t:ZO ex n H H') {b:Addr} (q:H b=none):b∉ex:=λz=>by
 obtain⟨φ,e⟩:=t.ext b z
 rw[q]at e
 cases e
theorem Un.fly (F:WT fs ex h h') (t:ZO ex h.objs.size H H') (th:∀b∈ex,∃o,h'.get? b=some o):Un fs [] H H' h h' where
 keep b o q n hf _:=F.keep b o hf (t.out0 n) q
 slot b o q n hf _:=F.slot b o hf (t.out0 n) q
 free b o q n _:=t.no b (Heap.lt_size q) n
 there b o q _:=by
   by_cases hb:b∈ex
   . exact th b hb
   . by_cases hf:b∈fs
     . obtain⟨sl,r⟩:=F.slot b o hf hb q
       exact⟨_,r⟩
     . exact⟨o,F.keep b o hf hb q⟩
 tups b xs q:=t.same b _ (t.out q (by intro φ z;cases z)) q
 frzs b o u q:=t.same b _ (t.out q (by intro φ z;cases z)) q
 tbls b ps q:=⟨#[],by simpa using t.same b _ (t.out q (by intro φ z;cases z)) q⟩
theorem QK.fly (ok:QK P w H h) (F:WT fs ex h h') (t:ZO ex h.objs.size H H') (fr:∀b∈fs,H b=none) (new:∀b o,H' b=some o->(H b=none\/b∈ex)->qE P w H' h' b o):QK P w H' h':=λb o q=>by
 by_cases hb:b∈ex
 . exact new b o q (.inr hb)
 cases e:H b with
 | none=>exact new b o q (.inl e)
 | some u=>
   have r:=t.same b u hb e
   rw[q]at r
   cases r
   refine(ok b o e).stay (λc v hc g=>F.keep c v ?_ ?_ g) (λc z=>t.same c _ (t.out z (by intro φ z;cases z)) z) λc xs z=>t.same c _ (t.out z (by intro φ z;cases z)) z
   . intro z
     have n:=fr c z
     rcases hc with rfl | hc
     . rw[e]at n;cases n
     . rw[hc]at n;cases n
   . rcases hc with rfl | hc
     . exact hb
     . exact t.out hc (by intro φ z;cases z)
end
end L2
namespace L2
open PySem PySem.Spec PyProof.Rows
def vY (T:Addr) (fl:Value):HO:=.ext (ku T fl)
theorem YG {P:Program} {w:World} {H:Hp} {h:Heap} {T:Addr} {fl:Value} (x:ku T fl h):qE P w H h T (vY T fl):=by
 obtain⟨ts,q,z⟩:=x
 exact⟨⟨ts,q,z⟩,⟨_,q⟩,λh1 h2 ⟨ts',q',z'⟩ k=>⟨ts',k _ q',z'⟩⟩
def yB (P:Program) (w:World):zK:=λouter H s E e s'=>∃a C dx T Hx H',e=.ref a/\s'.os=s.os/\AllBare s'.gens/\Un (ZG outer) [] H H' s.heap s'.heap/\QK P w H' s'.heap/\
 H' a=some (Qz a C dx (.ref T))/\H' T=some (vY T .none)/\Hx T=none/\Hx a=some (QY a C dx)/\(∀b o,b≠a->Hx b=some o->H' b=some o)/\E (.ref C) (some dx) Hx
def Uu (X:Cx) (E:XK):Prop:=∀(pins:List (Addr×Obj)) (σ:St) (H:Hp) (s:Shared) (a C dx:Addr),qp X pins σ H s->H a=some (QY a C dx)->E (.ref C) (some dx) H->X.xe (.ref a) s
section
variable {X:Cx} {pins:List (Addr×Obj)} {σ:St} {H H':Hp} {s:Shared} {h':Heap} {ex:List Addr}
theorem qp.flown (I:qp X pins σ H s) (F:WT (ZG X.stack) ex s.heap h') (t:ZO ex s.heap.objs.size H H') (th:∀b∈ex,∃o,h'.get? b=some o)
   (new:∀b o,H' b=some o->(H b=none\/b∈ex)->qE X.prog X.w H' h' b o):qp X pins σ H' {s with heap:=h'}:=
 I.call (g':=s.gens) (t':=s.toks) (d':=s.drawn) (ch:=[]) (Un.fly F t th) (QK.fly I.hok F t I.stkFree new) I.bare λb z=>absurd z (by simp)
theorem WT.then {fs ex:List Addr} {h h1 h2:Heap} {T:Addr} (F:WT fs ex h h1) (G:WT fs [T] h1 h2) (hT:h.objs.size<=T):WT fs ex h h2 where
 keep b o n1 n2 q:=G.keep b o n1 (by simp;exact Nat.ne_of_lt (Nat.lt_of_lt_of_le (Heap.lt_size q) hT)) (F.keep b o n1 n2 q)
 slot b o n1 n2 q:=by
   obtain⟨sl,r⟩:=F.slot b o n1 n2 q
   obtain⟨sl',r'⟩:=G.slot b _ n1 (by simp;exact Nat.ne_of_lt (Nat.lt_of_lt_of_le (Heap.lt_size q) hT)) r
   exact⟨sl',r'⟩
end
section
variable {P:Program} {w:World} {K:PySem.W.Frag} {mg:Str->Option Value} {base:Heap} {N:List Str} {qual:Str} {scope:Scope} {f:Addr} {cd:Value} {A:Around} {outer:List Env} {s₀:Shared} {H₀:Hp} {E:XK}
theorem Wg:Uu (ZJ (yB P w) P w K mg base N qual scope f cd A outer s₀ H₀ E) E:=by
 intro pins σ H s a C dx I ha hE
 obtain⟨⟨fl,he,hz⟩,_,_⟩:=(show qE P w H s.heap a (Qz a C dx .none) from I.hok a _ ha)
 have fr:=I.ok.frames
 have ff:=I.stack
 show wpAny _ _ (leaving _ _) _ _ s
 unfold leaving
 refine wpAny_bind (VQ fr ff rfl he hz λh1 T hT F q1 q2=>?_)
 have lt:=(Array.getElem?_eq_some_iff.mp hz).1
 have g1:(fl.setIfInBounds 1 (Value.ref T))[1]?=some (.ref T):=by simp [lt]
 have nT:T≠a:=λz=>by
   obtain⟨ts,q,_⟩:=q2
   rw[z,q1]at q
   cases q
 refine Q5 (fs:=ZG (ZJ (yB P w) P w K mg base N qual scope f cd A outer s₀ H₀ E).stack) q1 g1 q2 λh2 F2 st=>?_
 have anf:a∉ZG (ZJ (yB P w) P w K mg base N qual scope f cd A outer s₀ H₀ E).stack:=λz=>by
   have:=I.stkFree a z
   rw[ha]at this
   cases this
 have hTn:H T=none:=I.hok.fresh hT
 have q3:=F2.keep a _ anf (by simp [Ne.symm nT]) q1
 have I2:=I.flown (H':=upd (upd H a (Qz a C dx (.ref T))) T (vY T .none)) (WT.then F F2 hT) ⟨λb hb=>by cases List.mem_singleton.mp hb;exact⟨_,ha⟩,λb o hb q=>by
     rw[qg (qu q hTn),qg λz=>hb (by simp [z])];exact q,λb hb q=>by
     rw[qg (Nat.ne_of_lt (Nat.lt_of_lt_of_le hb hT)),qg λz=>by rw[z,ha]at q;cases q];exact q⟩ (λb hb=>by cases List.mem_singleton.mp hb;exact⟨_,q3⟩) λb o q hb=>by
   by_cases e1:b=T
   . subst e1
     rw[qd]at q
     cases q
     exact YG st
   . rw[qg e1]at q
     by_cases e2:b=a
     . subst e2
       rw[qd]at q
       cases q
       exact zD ⟨_,q3,g1⟩
     . rw[qg e2]at q
       rcases hb with hb | hb
       . rw[q]at hb;cases hb
       . exact absurd (List.mem_singleton.mp hb) e2
 exact⟨a,C,dx,T,H,_,rfl,I2.os,I2.bare,I2.base,I2.hok,by rw[qg (Ne.symm nT),qd],qd ..,hTn,ha,λb o nb q=>by rw[qg (qu q hTn),qg nb];exact q,hE⟩
end
end L2
set_option Elab.async false
set_option linter.all false
set_option maxRecDepth 100000
set_option maxHeartbeats 4000000
namespace L2
open PySem PySem.Spec PyProof.Rows
section
variable {M:Model} {A:Around} {E:Value->Shared->Prop} {s:Shared} {env:Env} {C:Addr}
theorem Wh {oC:Obj} {x:Sem Value} {Q:Flow->Shared->Prop} (hh:A.handled=none) (hcl:oC.cls=.type "type")
   (hs:∀(h:Heap) (g d t os) (Q:Bool->Shared->Prop),h.get? C=some oC->Q true ⟨h,g,d,t,os⟩->wpAny M A (isSubtype (.ref C) (.type "BaseException")) Q E ⟨h,g,d,t,os⟩)
   (h:wpAny M A x (λv s₁=>∃e dx fl,v=.ref e/\s₁.heap.get? C=some oC/\s₁.heap.get? e=some {cls:=.ref C,dict:=some dx,data:=.fields fl}/\fl[1]?=some Value.none/\E (.ref e) s₁) E s):
   wpAny M A (raiseStmt env (some x) none) Q E s:=by
 unfold raiseStmt
 refine wpAny_bind (qP h λv s₁ h₁=>?_)
 obtain⟨e,dx,fl,rfl,hC,he,hz,hE⟩:=h₁
 obtain⟨hp,g,d,tk,os⟩:=s₁
 repeat (first | with_reducible refine wpAny_loadPart_at he ?_ | with_reducible refine wpAny_loadPart_at hC ?_ | with_reducible refine hs _ _ _ _ _ _ hC ?_ | wp_step)
 rw[hz]
 refine wpAny_pure ?_
 rw[if_neg (show ¬((Value.none != Value.none)=true) by decide)]
 exact wpAny_pure (wpAny_raiseNew_none hh hE)
end
def WP (K:PySem.W.Frag) (C:Addr):Prop:=∃f bm,xH K C f bm/\bm.contains (.type "BaseException")=true
def kM (K:PySem.W.Frag) (E:XK) (te:TE):TS:=λD σ H=>te σ H λv H1=>∃a C dx,v=.ref a/\H1 a=some (QY a C dx)/\WP K C/\E (.ref C) (some dx) H1
section
variable {X:Cx} {E:XK} {e:Expr} {te:TE} {pos:Pos}
theorem VW (hc:X.calm=true) (hx:Uu X E) (he:JE X e te):JS X (.Raise (some e) none pos) (kM X.K E te):=.of (by
 have he:=he.to
 intro pins s σ H D I h
 have key:∀x:Sem Value,wpAny (model X.prog X.w) X.A x (λu s1=>∃v H1,qp X pins σ H1 s1/\qG v u/\∃a C dx,v=.ref a/\H1 a=some (QY a C dx)/\WP X.K C/\E (.ref C) (some dx) H1) X.xe s->
     wpAny (model X.prog X.w) X.A (raiseStmt X.env (some x) none) (SP X pins D) X.xe s:=λx hw=>by
   unfold raiseStmt
   refine wpAny_bind (qP hw λu s1 ⟨v,H1,I1,rv,a,C,dx,ev,ha,⟨f,bm,em,hb⟩,hE⟩=>?_)
   subst ev
   obtain rfl:u=Value.ref a:=rv
   obtain⟨nm,q,N,bs,hdct,sn,sub,ab,col,dd,k0,k1,k2,k3,k5,hC⟩:=em.obj
   obtain⟨⟨fl,ho,hz⟩,_,_⟩:=(show qE X.prog X.w H1 s1.heap a (Qz a C dx .none) from I1.hok a _ ha)
   have hC':=I1.kIn _ _ hC
   have r:=Wh (M:=model X.prog X.w) (A:=X.A) (E:=X.xe) (s:=s1) (env:=X.env) (C:=C) (x:=pure (.ref a)) (Q:=SP X pins D) (I1.ok.hd hc) rfl (λh g d t os Q z k=>wpAny_isSubtype_exc z (by
     rw[show (Value.ref C::bm).contains (.type "BaseException")=true by rw[List.contains_cons,hb,Bool.or_true]];exact k)) (wpAny_pure ⟨a,dx,fl,rfl,hC',ho,hz,hx pins σ H1 s1 a C dx I1 ha hE⟩)
   exact r
 rw[arm_exec_Raise]
 exact wpAny_bind (wpAny_standAt (key _ (wpAny_bind (qP (he pins s σ H _ I h) λu s1 q=>wpAny_bind (wpAny_standAt (wpAny_pure q)))))))
end
end L2
set_option Elab.async false
set_option linter.all false
set_option maxRecDepth 100000
set_option maxHeartbeats 4000000
namespace L2
open PySem PySem.Spec PyProof.Rows
section
variable {M:Model} {A:Around} {E:Value->Shared->Prop}
theorem WH {h:Heap} {g:Array GenState} {d:Drawn} {t:Nat} {os:OsState} {e C D:Addr} {oe oC:Obj} {ddc:Option Addr} {sld:Array (Option Value)} {cdd} {bC bD:List Value} {Q:Bool->Shared->Prop}
   (he:h.get? e=some oe) (hcls:oe.cls=.ref C) (hC:h.get? C=some oC) (hD:h.get? D=some ⟨.type "type",ddc,.cls cdd,sld⟩)
   (sC:∀(T:Value) (Q:Bool->Shared->Prop),Q (bC.contains T) ⟨h,g,d,t,os⟩->wpAny M A (isSubtype (.ref C) T) Q E ⟨h,g,d,t,os⟩)
   (sD:∀(T:Value) (Q:Bool->Shared->Prop),Q (bD.contains T) ⟨h,g,d,t,os⟩->wpAny M A (isSubtype (.ref D) T) Q E ⟨h,g,d,t,os⟩)
   (hB:bD.contains (.type "BaseException")=true)
   (hq:Q (bC.contains (.ref D)) ⟨h,g,d,t,os⟩):wpAny M A (excMatches (.ref e) (.ref D)) Q E ⟨h,g,d,t,os⟩:=by
 have f:=tc_notTuple
 unfold excMatches
 repeat (first | (with_reducible refine wpAny_loadPart_at he ?_;rw[hcls]) | with_reducible refine wpAny_loadPart_at hD ?_ | (with_reducible refine sC _ _ ?_) | (with_reducible refine sD _ _ ?_;rw[hB]) | wp_step)
 cases hb:bC.contains (.ref D)<;>(rw[hb]at hq;wp_walk;exact hq)
end
end L2
set_option Elab.async false
set_option linter.all false
set_option maxRecDepth 100000
set_option maxHeartbeats 4000000
namespace L2
open PySem PySem.Spec PyProof.Rows
def Jn (CX:zK) (X:Cx) (E:St->XK):Prop:=∀(pins:List (Addr×Obj)) (σ:St) (H:Hp) (s:Shared) (e:Value) (s':Shared),qp X pins σ H s->CX X.stack H s (E σ) e s'->X.xe e s'
def W0 (C:Addr) (m:Str) (sp:Sp) (dvs:List V) (E:St->XK) (ta:TE) (t:TA):TE:=λσ H Q=>ta σ H λx H1=>∃a dx fs,x=.ref a/\H1 a=some (.ins C dx fs)/\fs.lookup m=none/\
 t σ H1 λvs H2=>sp (x::(vs++dvs)) H2 Q (E σ)
section
variable {X:Cx} {CX:zK} {k:Nat} {f C:Addr} {fd:FuncData} {ps:List Str} {sp:Sp} {dvs:List V} {ds:List Value} {E:St->XK} {x m:Str} {p pos apos:Pos} {e o:Expr} {es:List Expr} {ta:TE} {t:TA}
theorem U0 {pins:List (Addr×Obj)} {σ:St} {H:Hp} {s:Shared} {Q:VK} {us:List Value} {vs:List V} (F:FnOk X.prog X.w X.K X.mg X.base CX k f fd ps sp) (hr:qU k X.A) (hb:js X.K fd ps ds) (hd:qw dvs ds) (hx:Jn CX X E)
   (I:qp X pins σ H s) (r:qw vs us) (h:sp (vs++dvs) H Q (E σ)):wpAny (model X.prog X.w) X.A (call (.ref f) us) (EP X pins σ Q) X.xe s:=by
 have rr:qw (vs++dvs) (us++ds):=r.append hd
 have ll:(us++ds).length=ps.length:=rr.length.symm.trans (F.len _ _ _ _ h)
 have run:=F.run X.A X.stack s H ⟨us,[]⟩ (us++ds) (vs++dvs) Q (E σ) hr I.env0 (hb s us I.kIn ll) rr h
 refine wpAny_call (codeAny_mono run λz s' q=>?_)
 match z,q with
 | .error y,q=>exact hx pins σ H s y s' I q
 | .ok (.ret u),q=>exact I.after q
end
end L2
set_option Elab.async false
set_option linter.all false
set_option maxRecDepth 100000
set_option maxHeartbeats 4000000
namespace L2
open PySem PySem.Spec PyProof.Rows
section
variable {X:Cx}
def xb (K:PySem.W.Frag) (k:Bool):R2:=λx y H Q=>∃d,DV K H x d/\DV K H y d/\PySem.SeqAt.shaped d=true/\Q (.bl k) H
theorem ZH {d:PyData} (h:PySem.SeqAt.shaped d=true):PyData.eqv d d=true:=PySem.SeqAt.eqv_refl d (PySem.SeqAt.canLay_of_shaped h)
theorem kZ (hu:X.A.units+64 < cLine):JZ X (compareOp .Eq) (xb X.K true):=by
 intro pins s σ H x y v u Q I rx ry h
 obtain⟨d,h1,h2,hs,q⟩:=h
 obtain⟨as,ra⟩:=h1.reads I rx
 obtain⟨bs,rb⟩:=h2.reads I ry
 refine eq_dataH ra rb hs hs hu ?_
 rw[ZH hs]
 exact⟨.bl true,H,I,rfl,q⟩
theorem zx (hu:X.A.units+64 < cLine):JZ X (compareOp .NotEq) (xb X.K false):=by
 intro pins s σ H x y v u Q I rx ry h
 obtain⟨d,h1,h2,hs,q⟩:=h
 obtain⟨as,ra⟩:=h1.reads I rx
 obtain⟨bs,rb⟩:=h2.reads I ry
 refine ne_dataH ra rb hs hs hu ?_
 rw[ZH hs]
 exact⟨.bl false,H,I,rfl,q⟩
def xI (i j:Int):Prop:=0 < j/\j.natAbs < 2^200
theorem VE:JZ X (binaryOp .FloorDiv) (rI xI λi j=>.int (i / j)):=xh λi j _ _ _ _ _ hc q=>by
 have h1:(0:Int) < j:=hc.1
 have h3:j.natAbs.log2 < 200:=(Nat.log2_lt (by omega)).mpr hc.2
 exact floordiv_int (by omega) (by rw[Int.fdiv_eq_ediv_of_nonneg i (by omega)];exact q) (.inl (PyProof.noPylong_of_log2 (Nat.lt_trans h3 (by decide))))
end
section
variable {X:Cx} {tg:Expr}
end
section
variable {X:Cx} {st:Stmt} {rest:List Stmt} {t u:TS}
end
end L2
set_option Elab.async false
set_option linter.all false
set_option maxRecDepth 100000
set_option maxHeartbeats 4000000
namespace PySem
section
variable {prog:Program} {w:World} {A:Around} {E:Value->Shared->Prop} {s:Shared}
def Zs (x n c:Int):Obj:={cls:=.type "range_iterator",data:=.fields #[rawInt x,rawInt n,rawInt c]}
theorem Xy (n:Nat):Builtin.Range.rangeSize 0 n 1=n:=by
 unfold Builtin.Range.rangeSize
 rw[if_pos (by decide)]
 split<;>omega
theorem ZM {r:Addr} {a b c:Int} {t u v:Tok} {Q:Value->Shared->Prop} (hr:IsRange s.heap r a b c t u v)
   (hs:(Builtin.Range.rangeFitsLong a&&Builtin.Range.rangeFitsLong b&&Builtin.Range.rangeFitsLong c&&Builtin.Range.rangeFitsLong (-c)&&Builtin.Range.rangeFitsLong (a - c)&&Builtin.Range.rangeFitsLong (Builtin.Range.rangeSize a b c))=true)
   (h:Q (.ref s.heap.objs.size) {s with heap:=s.heap.push (Zs (a+(Builtin.Range.rangeSize a b c - 1)*c) (Builtin.Range.rangeSize a b c) (-c))}):wpAny (model prog w) A (call (.builtin "range.__reversed__") [.ref r]) Q E s:=by
 have ty:s.TypeIs (.ref r) "range":=⟨_,hr,rfl⟩
 refine wpAny_call_entry F.slot_range_reversed ty F.entry_range_reversed ?_ (F.args_range_reversed_1 _)
 unfold Builtin.«range.__reversed__»
 refine wpAny_bind (wpAny_of_eq (a:=Value.ref r) rfl ?_)
 refine wpAny_bind ?_
 unfold Builtin.Range.rangeFields
 refine wpAny_bind (wpAny_field hr rfl (x:=.int a t) rfl ?_)
 refine wpAny_bind (m:=asInt? (.int a t)) (wpAny_pure ?_)
 refine wpAny_bind (wpAny_field hr rfl (x:=.int b u) rfl ?_)
 refine wpAny_bind (m:=asInt? (.int b u)) (wpAny_pure ?_)
 refine wpAny_bind (wpAny_field hr rfl (x:=.int c v) rfl ?_)
 refine wpAny_bind (m:=asInt? (.int c v)) (wpAny_pure ?_)
 refine wpAny_pure ?_
 dsimp only
 rw[hs]
 simp only[Bool.not_true,Bool.false_eq_true,if_false,if_true]
 first
 | refine wpAny_bind (wpAny_newObj_type (wpAny_pure ⟨_,rfl,h⟩))
 | refine wpAny_bind (wpAny_pure (wpAny_bind (wpAny_newObj_type (wpAny_pure ⟨_,rfl,h⟩))))
theorem Q0 {r:Addr} {n:Nat} {t u v:Tok} {Q:Value->Shared->Prop} (hr:IsRange s.heap r 0 n 1 t u v) (hn:n < 1048576)
   (h:Q (.ref s.heap.objs.size) {s with heap:=s.heap.push (Zs ((n:Int) - 1) n (-1))}):wpAny (model prog w) A (call (.builtin "range.__reversed__") [.ref r]) Q E s:=by
 have f:∀x:Int,-2000000<=x->x<=2000000->Builtin.Range.rangeFitsLong x=true:=λx p q=>by
   unfold Builtin.Range.rangeFitsLong
   simp
   omega
 have e:=Xy n
 have hs:(Builtin.Range.rangeFitsLong 0&&Builtin.Range.rangeFitsLong (n:Int)&&Builtin.Range.rangeFitsLong 1&&Builtin.Range.rangeFitsLong (-1)&&Builtin.Range.rangeFitsLong (0 - 1)&&Builtin.Range.rangeFitsLong (Builtin.Range.rangeSize 0 n 1))=true:=by
   rw[e,f 0 (by omega) (by omega),f n (by omega) (by omega),f 1 (by omega) (by omega),f (-1) (by omega) (by omega),f (0 - 1) (by omega) (by omega)]
   rfl
 refine ZM hr hs ?_
 have e2:(0:Int)+(Builtin.Range.rangeSize 0 n 1 - 1)*1=(n:Int) - 1:=by rw[e];omega
 rw[e2,e]
 exact h
end
end PySem
namespace PySem
section
variable {prog:Program} {w:World} {A:Around} {E:Value->Shared->Prop} {s:Shared}
theorem Q6 {r:Addr} {n:Nat} {t u v:Tok} {Q₁:Value->Shared->Prop} (hr:IsRange s.heap r 0 n 1 t u v) (hn:n < 1048576)
   (h:Q₁ (.ref s.heap.objs.size) {s with heap:=s.heap.push (Zs ((n:Int) - 1) n (-1))}):
   codeAny (model prog w) A (.call (.builtin "reversed.__new__") ⟨[.type "reversed",.ref r],[]⟩) (wants Q₁ E) s:=by
 have ty:s.TypeIs (.ref r) "range":=⟨_,hr,rfl⟩
 have nn:¬((Value.builtin "range.__reversed__"==Value.none)=true):=Bool.false_ne_true
 refine codeAny_of_tree (show wpAny _ A.in1 (checkBuiltinCall "reversed.__new__" ⟨[.type "reversed",.ref r],[]⟩ >>= λ_=>again (.builtin "reversed.__new__" ⟨[.type "reversed",.ref r],[]⟩)) _ _ s from
   wpAny_bind (wpAny_of_eq (F.newCall_reversed_1 (.ref r)) (wpAny_pure ⟨plainId_quiet F.plain_reversed_new _,codeAny_builtin F.entry_reversed_new ?_⟩)))
 rw[Around.under_plainId F.plain_reversed_new _];unfold Builtin.«reversed.__new__»
 refine wpAny_bind (wpAny_of_eq (newClass_reversed (.ref r)) ?_);dsimp only
 refine wpAny_bind (wpAny_of_eq (a:=()) (by kernel_rfl) (wpAny_bind (wpAny_of_eq (a:=()) (by kernel_rfl) ?_)));try dsimp only
 refine wpAny_bind (wpAny_specialOf ty F.slot_range_reversed.lookup ?_);dsimp only
 refine wpAny_bind (wpAny_of_eq (F.slot_range_reversed.bind _) ?_);dsimp only
 rw[if_neg nn]
 refine wpAny_bind (wpAny_rule (wpAny_bind (m:=runValue (.call (.builtin "range.__reversed__") ⟨[.ref r],[]⟩)) (show wpAny _ _ (call (.builtin "range.__reversed__") [.ref r]) _ _ _ from Q0 hr hn ?_)))
 first | exact wpAny_pure h | exact wpAny_bind (wpAny_pure (wpAny_pure h))
theorem JX:isSubtype (.type "range_iterator") (.type "reversed")=pure false:=by rw[isSubtype_type];kernel_rfl
theorem QZ {r:Addr} {n:Nat} {t u v:Tok} {Q:Value->Shared->Prop} (hr:IsRange s.heap r 0 n 1 t u v) (hn:n < 1048576)
   (h:Q (.ref s.heap.objs.size) {s with heap:=s.heap.push (Zs ((n:Int) - 1) n (-1))}):wpAny (model prog w) A (call (.type "reversed") [.ref r]) Q E s:=by
 refine callType_other (U:="range_iterator") (Q₁:=λobj s₁=>obj=.ref s.heap.objs.size/\s₁={s with heap:=s.heap.push (Zs ((n:Int) - 1) n (-1))}) (by decide+kernel) F.create_reversed ⟨_,_,F.mro_reversed⟩ F.made_reversed JX (F.typeCall_reversed_1 _) (Q6 hr hn ⟨rfl,rfl⟩) ?_
 rintro obj s₁ ⟨rfl,rfl⟩
 exact⟨⟨_,Heap.get?_push_size _ rfl,rfl⟩,h⟩
theorem zG {I:Addr} {x left c:Int} {Q:Value->Shared->Prop} (hit:IsRangeIter s.heap I x left c) (h:Q (.int left s.toks) {s with toks:=s.toks+1}):
   wpAny (model prog w) A (call (.builtin "range_iterator.__length_hint__") [.ref I]) Q E s:=by
 have hT:s.TypeIs (.ref I) "range_iterator":=⟨_,hit,rfl⟩
 refine wpAny_call_entry F.slot_range_iterator_length_hint hT F.entry_range_iterator_length_hint ?_ (F.args_range_iterator_length_hint_1 _)
 unfold Builtin.«range_iterator.__length_hint__»
 refine wpAny_bind (wpAny_of_eq (a:=Value.ref I) rfl ?_)
 refine wpAny_bind (wpAny_field hit rfl (x:=rawInt left) rfl ?_)
 show wpAny _ _ (do ret (<-mkInt left)) _ _ _
 exact wpAny_ret_mkInt h
structure Xc (P:Program) (w:World) (T:String) (I:Addr) (fp:List Addr) (n:Nat) (V:Nat->Value->Prop) (St:Nat->Heap->Prop):Prop where
 ty:∀z:Shared,St 0 z.heap->z.TypeIs (.ref I) T
 nl:(Value.type T==Value.type "list")=false
 nt:(Value.type T==Value.type "tuple")=false
 walk:∀B:Around,B.handled=none->Walks P w B I fp [I] n V St
 hint:∀(B:Around) (F:Value->Shared->Prop) (z:Shared) (R:Bool->Shared->Prop),St 0 z.heap->(∀k,R false {z with toks:=k})->wpAny (model P w) B (Builtin.List.listLengthHint (.ref I)) R F z
theorem Xc.list {P:Program} {T:String} {I:Addr} {fp:List Addr} {n:Nat} {V:Nat->Value->Prop} {St:Nat->Heap->Prop} (J:Xc P w T I fp n V St) {B:Around} {F':Value->Shared->Prop} {z:Shared} {R:Value->Shared->Prop}
   (hB:B.handled=none) (st:St 0 z.heap) (mem:I∈fp) (old:∀b∈fp,b < z.heap.objs.size) (hn:n<=1048576)
   (k:∀g tk xs c,(∀b o,b≠I->z.heap.get? b=some o->g.get? b=some o)->g.get? z.heap.objs.size=some (⟨.type "list",none,.seq xs c,#[]⟩:Obj)->ItemsOf V xs n->R (.ref z.heap.objs.size) {z with heap:=g,toks:=tk}):
   wpAny (model P w) B (call (.type "list") [.ref I]) R F' z:=by
 have nI:∀b∈fp,z.heap.objs.size≠b:=λb hb=>Nat.ne_of_gt (old b hb)
 have sI:Builtin.List.listSameRef (.ref z.heap.objs.size) (.ref I)=false:=by unfold Builtin.List.listSameRef;simp [nI I mem]
 refine callType_codes (Q₁:=λob z1=>z1={z with heap:=z.heap.push {cls:=.type "list",data:=.seq #[]}}/\ob=.ref z.heap.objs.size) F.called_list (F.typeCall_list_1 _) F.entry_list_init (code_list_new _ ⟨rfl,rfl⟩) ?_
 rintro ob z1 ⟨rfl,rfl⟩
 have a0:=Heap.get?_push_size z.heap (o:=({cls:=.type "list",data:=.seq #[]}:Obj)) rfl
 refine⟨⟨_,a0,rfl⟩,F.args_list_init_2 _ _,?_⟩
 show wpAny _ _ (Builtin.List.listItems (.ref _) >>= λys=>Builtin.List.listUpdate (.ref _) (λ_=>#[]) >>= λ_=>letGo ys.toList.reverse >>= λ_=>Builtin.List.listExtendWith (.ref _) (.ref I) .none) _ _ _
 refine wpAny_bind (show wpAny _ _ (Builtin.List.listItems (.ref _)) _ _ _ from ?_)
 unfold Builtin.List.listItems
 refine wpAny_bind (wpAny_seqItems a0 rfl (wpAny_pure (wpAny_bind ?_)))
 refine wpAny_updateSeq a0 rfl (wpAny_bind (wpAny_letGo ?_))
 have a1:=Heap.get?_update_self (Obj.mapSeq (λ_=>(#[]:Array Value))) a0 rfl
 have keep1:∀b o,z.heap.get? b=some o->((z.heap.push {cls:=.type "list",data:=.seq #[]}).update z.heap.objs.size (Obj.mapSeq (λ_=>(#[]:Array Value)))).get? b=some o:=λb o e=>
   (Heap.get?_update_other _ _ (Nat.ne_of_gt (Heap.lt_size e))).trans (Heap.get?_push_of_some _ e)
 generalize hg1:(z.heap.push {cls:=.type "list",data:=.seq #[]}).update z.heap.objs.size (Obj.mapSeq (λ_=>(#[]:Array Value)))=g1 at a1 keep1
 have st1:St 0 g1:=(J.walk B hB).frame 0 _ _ st λb _ o e=>keep1 b o e
 unfold Builtin.List.listExtendWith
 refine wpAny_bind (wpAny_typeOf (J.ty {z with heap:=g1} st1) ?_)
 simp only[sI,J.nl,J.nt,Bool.or_false,Bool.false_eq_true,if_false]
 refine wpAny_bind ((J.walk B.in1.in1 hB).self 0 {z with heap:=g1} _ _ st1 ?_)
 refine wpAny_bind (wpAny_holding (J.hint B.in1.in1 _ {z with heap:=g1} _ st1 λtk=>?_))
 have run:∀(g:Heap) (c tk:Nat),St 0 g->(∀b o,z.heap.get? b=some o->g.get? b=some o)->g.get? z.heap.objs.size=some {cls:=.type "list",data:=.seq #[] c}->
     codeAny (model P w) B.in1 (.builtin "list.extend.loop" ⟨[.ref z.heap.objs.size,.ref I,.none],[]⟩) (wants (λr z2=>r=.none/\R (.ref z.heap.objs.size) z2) F') {z with heap:=g,toks:=tk}:=λg c tk sg kg ag=>
   codeAny_extend_loopS (J.walk B.in1.in1 hB).toS (by rw[sizeLine_eq];omega) _ (λq=>nI _ q rfl) .none n 0 _ #[] c rfl (Nat.zero_le _) sg ag (ItemsOf.nil _) λz3 xs c3 mv a3 it=>by
     rw[Moved.eq_with mv]
     refine⟨rfl,k z3.heap z3.toks xs c3 (λb o hb e=>mv.heap b o (λq=>?_) (kg b o e)) a3 it⟩
     rcases List.mem_cons.mp q with q | q
     . exact absurd q (Nat.ne_of_lt (Heap.lt_size e))
     . exact hb (List.mem_singleton.mp q)
 refine wpAny_ite_split (λ_=>?_) (λ_=>wpAny_pure ⟨plainId_quiet F.plain_extend_loop _,run g1 _ tk st1 keep1 a1⟩)
 refine wpAny_bind (wpAny_rule (wpAny_bind (show wpAny _ _ (updateSeq z.heap.objs.size (·.push .none) >>= λ_=>updateSeq z.heap.objs.size (·.pop)) _ _ _ from wpAny_bind (wpAny_updateSeq a1 rfl ?_))))
 have a2:=Heap.get?_update_self (Obj.mapSeq (·.push Value.none)) a1 rfl
 refine wpAny_updateSeq (hz:=by seq_fits) a2 rfl ?_
 have keep3:∀b o,b≠z.heap.objs.size->g1.get? b=some o->((g1.update z.heap.objs.size (Obj.mapSeq (·.push Value.none))).update z.heap.objs.size (Obj.mapSeq (·.pop))).get? b=some o:=λb o hb e=>
   (Heap.get?_update_other _ _ (Ne.symm hb)).trans ((Heap.get?_update_other _ _ (Ne.symm hb)).trans e)
 exact wpAny_pure ⟨plainId_quiet F.plain_extend_loop _,run _ _ tk ((J.walk B hB).frame 0 _ _ st1 λb hb o e=>keep3 b o (λq=>nI b hb q.symm) e) (λb o e=>keep3 b o (Nat.ne_of_lt (Heap.lt_size e)) (keep1 b o e)) (Heap.get?_update_self (Obj.mapSeq (·.pop)) a2 rfl)⟩
theorem X8 {P:Program} {I:Addr} {x c:Int} {n:Nat} (hn:n<=1048576):Xc P w "range_iterator" I [I] n (λi v=>∃t,v=.int (x+i*c) t) (λi h=>IsRangeIter h I (x+(i:Nat)*c) ((n:Int) - (i:Nat)) c) where
 ty:=λ_ st=>⟨_,st,rfl⟩
 nl:=by decide
 nt:=by decide
 walk:=λ_ hB=>Walks.range hB I x c n
 hint:=λB G z R st k=>by
   have st':IsRangeIter z.heap I x n c:=by
     have e1:x+((0:Nat):Int)*c=x:=by simp
     have e2:(n:Int) - ((0:Nat):Int)=n:=by simp
     rw[<-e1,<-e2]
     exact st
   have ty:z.TypeIs (.ref I) "range_iterator":=⟨_,st',rfl⟩
   have few:Builtin.List.listTooLong ((n:Int).toNat)=false:=by unfold Builtin.List.listTooLong;rw[Int.toNat_natCast];exact decide_eq_false (by rw[sizeLine_eq];omega)
   unfold Builtin.List.listLengthHint
   refine wpAny_bind (wpAny_specialOf ty F.nolen_ra ?_)
   refine(show wpAny _ B (specialOf (.ref I) (Str.ofString "__length_hint__") >>= _) _ _ _ from wpAny_bind (wpAny_specialOf ty F.hint_ra ?_))
   (generalize hq:("range_iterator.__length_hint__":String)=q0;(fail_if_success (clear hq q0));wp_delta;rw[show splitId q0=some ("range_iterator","__length_hint__") from by subst hq;decide+kernel];subst hq)
   refine wpAny_bind (wpAny_isInstance (b:=true) ty (by rw[isSubtype_type];kernel_rfl) ?_)
   refine(show wpAny _ B (call (.builtin "range_iterator.__length_hint__") [.ref I] >>= _) _ _ _ from wpAny_bind (zG st' (wpAny_bind (m:=asInt? (.int (n:Int) _)) (wpAny_pure ?_))))
   dsimp only
   rw[if_neg (by rw[few];decide)]
   exact wpAny_pure (k _)
end
end PySem
namespace L2
open PySem PySem.Spec PyProof.Rows
def Jk (n:Nat):List Nat:=(List.range n).reverse
theorem XV {n:Nat} {acc:Array Value} (h:ItemsOf (λi v=>∃t,v=.int ((n:Int) - 1+i*(-1)) t) acc n):qw ((Jk n).map λi=>V.int (i:Nat)) acc.toList:=by
 obtain⟨hz,hv⟩:=h
 have key:∀(xs:List V) (us:List Value),xs.length=us.length->(∀(i:Nat) (x:V) (u:Value),xs[i]?=some x->us[i]?=some u->qG x u)->qw xs us:=by
   intro xs
   induction xs with
   | nil=>intro us hl _;cases us with | nil=>exact .nil | cons _ _=>cases hl
   | cons x xs ih=>
     intro us hl hp
     cases us with
     | nil=>cases hl
     | cons u us=>exact .cons (hp 0 x u rfl rfl) (ih us (by simpa using hl) λi y w h1 h2=>hp (i+1) y w (by simpa using h1) (by simpa using h2))
 refine key _ _ (by simp [Jk,hz]) λi x u h1 h2=>?_
 have h2':acc[i]?=some u:=by simpa using h2
 obtain⟨t,rfl⟩:=hv i u h2'
 have hi:i < n:=by
   have:=(Array.getElem?_eq_some_iff.mp h2').1
   omega
 rw[List.getElem?_map,Jk,List.getElem?_reverse (by simpa using hi),List.length_range,List.getElem?_range (by omega)]at h1
 simp at h1
 subst h1
 refine⟨t,?_⟩
 congr 1
 omega
section
variable {X:Cx} {e:Expr} {te:TE} {p1 p2 p3 pos1 pos2 pos3:Pos}
theorem W5 {M:Model} {A:Around} {E:Value->Shared->Prop} {s:Shared} {env:Env} {e:Expr} {pos:Pos} {R:List Value->Shared->Prop} (hs:starEach [e] env=[(false,eval e env)]) (h:wpAny M A (eval e env) (λv s1=>R [v] s1) E s):
   wpAny M A (spliced (backTo pos (starEach [e] env))) R E s:=by
 rw[hs]
 show wpAny _ _ (spliced ((false,eval e env)::backTo pos [])) _ _ s
 exact Calls.spliced_cons (qP h λu s1 h1=>Calls.spliced_nil h1)
def xX (te:TE):TE:=λσ H Q=>te σ H λx H1=>∃n:Nat,x=.int n/\n<=1000/\∀l,H1 l=none->Q (.ref l) (upd H1 l (.lst ((Jk n).map λi=>V.int (i:Nat))))
theorem yp (hc:X.calm=true) (g1:Gl X "list") (m1:X.mg "list"=none) (g2:Gl X "reversed") (m2:X.mg "reversed"=none) (g3:Gl X "range") (m3:X.mg "range"=none) (ha:JE X e te) (hs:starEach [e] X.env=[(false,eval e X.env)]:=by rfl) (hs2:starEach [.Call (.Name "range" p3) [e] [] pos3] X.env=[(false,eval (.Call (.Name "range" p3) [e] [] pos3) X.env)]:=by rfl) (hs3:starEach [.Call (.Name "reversed" p2) [.Call (.Name "range" p3) [e] [] pos3] [] pos2] X.env=[(false,eval (.Call (.Name "reversed" p2) [.Call (.Name "range" p3) [e] [] pos3] [] pos2) X.env)]:=by rfl):JE X (.Call (.Name "list" p1) [.Call (.Name "reversed" p2) [.Call (.Name "range" p3) [e] [] pos3] [] pos2] [] pos1) (xX te):=.of (by
 have ha:=ha.to
 intro pins s σ H Q I h
 refine Call_ (Qk I g1 m1 boot_list (PyProof.Rows.callWith_type1 (W5 hs3 ?_) (by rw[hs3];rfl) rfl))
 refine Call_ (Qk I g2 m2 boot_reversed (PyProof.Rows.callWith_type1 (W5 hs2 ?_) (by rw[hs2];rfl) rfl))
 refine Call_ (Qk I g3 m3 boot_range (PyProof.Rows.callWith_type1 (W5 hs (qP (ha pins s σ H _ I h) λu s1 ⟨x,H1,I1,r1,q1⟩=>?_)) (by rw[hs];rfl) rfl))
 obtain⟨n,rfl,hn,q⟩:=q1
 obtain⟨t,rfl⟩:=r1
 refine call_range_1 ?_
 refine QZ (IsRange.new ..) (by omega) ?_
 refine(X8 (x:=(n:Int) - 1) (c:=-1) (n:=n) (by omega)).list (I1.ok.hd hc) (by
   have e1:(n:Int) - 1+((0:Nat):Int)*(-1)=(n:Int) - 1:=by simp
   have e2:(n:Int) - ((0:Nat):Int)=n:=by simp
   rw[e1,e2]
   exact Heap.get?_push_size _ rfl) (by simp) (λb hb=>by rw[List.mem_singleton.mp hb,Heap.size_push (_:Heap) (Zs _ _ _)];exact Nat.lt_succ_self _) (by omega) λh' tk acc' c' kp e hi=>?_
 have kk:∀b o,s1.heap.get? b=some o->h'.get? b=some o:=λb o eb=>by
   refine kp b o (Nat.ne_of_lt ?_) (Heap.get?_push_of_some _ (Heap.get?_push_of_some _ eb))
   rw[Heap.size_push]
   exact Nat.lt_succ_of_lt (Heap.lt_size eb)
 have s1z:s1.heap.objs.size<=((s1.heap.push ({cls:=.type "range",data:=.fields #[.int 0 s1.toks,.int n t,.int 1 (s1.toks+1)]}:Obj)).push (Zs ((n:Int) - 1) n (-1))).objs.size:=by
   rw[Heap.size_push,Heap.size_push]
   omega
 exact⟨.ref _,_,I1.laid (t':=tk) (o:=.lst ((Jk n).map λi=>V.int (i:Nat))) kk s1z ⟨by simp only[List.length_map,Jk,List.length_reverse,List.length_range];exact Nat.le_of_lt (qj hn),acc'.toList,c',XV hi,by simpa using e⟩,rfl,q _ (I1.hok.fresh s1z)⟩)
end
end L2
set_option Elab.async false
set_option linter.all false
set_option maxRecDepth 100000
set_option maxHeartbeats 4000000
namespace PySem
namespace F
end F
end PySem
namespace L2
open PySem PySem.Spec PyProof.Rows
theorem Wj:∀(xs:List V) (us:List Value),xs.length=us.length->(∀(i:Nat) (x:V) (u:Value),xs[i]?=some x->us[i]?=some u->qG x u)->qw xs us:=by
 intro xs
 induction xs with
 | nil=>intro us hl _;cases us with | nil=>exact .nil | cons _ _=>cases hl
 | cons x xs ih=>
   intro us hl hp
   cases us with
   | nil=>cases hl
   | cons u us=>exact .cons (hp 0 x u rfl rfl) (ih us (by simpa using hl) λi y w h1 h2=>hp (i+1) y w (by simpa using h1) (by simpa using h2))
section
variable {X:Cx} {e:Expr} {te:TE} {p1 p2 pos1 pos2:Pos}
end
end L2
set_option Elab.async false
set_option linter.all false
set_option maxRecDepth 100000
set_option maxHeartbeats 4000000
namespace L2
open PySem PySem.Spec PyProof.Rows
section
variable {X:Cx} {pins:List (Addr×Obj)} {σ:St} {H:Hp} {s:Shared} {h':Heap}
theorem qp.turnLaid {L:List Addr} {T:Addr} {o:HO} {t':Nat} (I:qp X pins σ H s) (k:∀b u,b∉L->s.heap.get? b=some u->h'.get? b=some u) (hf:∀b∈L,Qp X pins H b) (hp:s.heap.objs.size<=T)
   (new:qE X.prog X.w (upd H T o) h' T o):qp X pins σ (upd H T o) {s with heap:=h',toks:=t'}:=by
 have hn:H T=none:=I.hok.fresh hp
 have up:∀b u,H b=some u->upd H T o b=some u:=λb u e=>by rw[qg (qu e hn)];exact e
 have nL:∀b u,H b=some u->b∉L:=λb u e z=>by rw[(hf b z).1]at e;cases e
 refine I.step (g':=s.gens) (d':=s.drawn) (ch:=L) (λb hb=>?_) (λb o _ _ hc e _=>k b o hc e) (λb o _ _ hc e _=>⟨o.slots,k b o hc e⟩) (λb ob hc e n=>?_)
   (λb o hc e=>⟨o,k b o hc e⟩) (λb xs e=>up b _ e) (λb o u e=>up b _ e) (λb ps e=>⟨#[],by rw[up b _ e];simp⟩) (λm hm=>?_) (λb u e=>?_) I.bare
 . obtain⟨f0,f1,f2,f3,f4,f5⟩:=hf b hb
   exact⟨f3,f1,f4,f5⟩
 . have:b≠T:=Nat.ne_of_lt (Nat.lt_of_lt_of_le (Heap.lt_size e) hp)
   rw[qg this]
   exact n
 . obtain⟨o,es,ep,ho,r⟩:=hm
   exact⟨o,es,ep,k _ o (λz=>(hf _ z).2.1 rfl) ho,r⟩
 . by_cases hb:b=T
   . subst hb
     rw[qd]at e
     cases e
     exact new
   . rw[qg hb]at e
     refine(I.hok b u e).stay (λc v hc q=>k c v ?_ q) (λc q=>up c _ q) λc xs q=>up c _ q
     rcases hc with z | z
     . rw[z];exact nL b u e
     . exact nL c _ z
theorem qp.turnedL {L:List Addr} {t':Nat} (I:qp X pins σ H s) (k:∀b u,b∉L->s.heap.get? b=some u->h'.get? b=some u) (hf:∀b∈L,Qp X pins H b):qp X pins σ H {s with heap:=h',toks:=t'}:=by
 have nL:∀b u,H b=some u->b∉L:=λb u e z=>by rw[(hf b z).1]at e;cases e
 refine I.step (g':=s.gens) (d':=s.drawn) (ch:=L) (λb hb=>?_) (λb o _ _ hc e _=>k b o hc e) (λb o _ _ hc e _=>⟨o.slots,k b o hc e⟩) (λ_ _ _ _ n=>n)
   (λb o hc e=>⟨o,k b o hc e⟩) (λ_ _ e=>e) (λ_ _ _ e=>e) (λb ps e=>⟨#[],by rw[e];simp⟩) (λm hm=>?_) (λb u e=>?_) I.bare
 . obtain⟨f0,f1,f2,f3,f4,f5⟩:=hf b hb
   exact⟨f3,f1,f4,f5⟩
 . obtain⟨o,es,ep,ho,r⟩:=hm
   exact⟨o,es,ep,k _ o (λz=>(hf _ z).2.1 rfl) ho,r⟩
 . refine(I.hok b u e).stay (λc v hc q=>k c v ?_ q) (λ_ q=>q) λ_ _ q=>q
   rcases hc with z | z
   . rw[z];exact nL b u e
   . exact nL c _ z
end
section
variable {X:Cx} {elts:List Expr} {x1:Nat} {tpos:Pos}
end
end L2
set_option Elab.async false
set_option linter.all false
set_option maxRecDepth 100000
set_option maxHeartbeats 4000000
namespace L2
open PySem PySem.Spec PyProof.Rows
section
variable {X:Cx}
end
section
variable {X:Cx} {o e:Expr} {es:List Expr} {ta:TE} {t:TA} {m:Str} {C C' f f':Addr} {fd fd':FuncData} {ps ps':List Str} {k k':Nat} {sp sp':Sp} {apos pos:Pos}
end
section
variable {X:Cx} {e:Expr} {es:List Expr} {te:TE} {t:TA}
end
end L2
set_option Elab.async false
set_option linter.all false
set_option maxRecDepth 100000
set_option maxHeartbeats 4000000
namespace L2
open PySem PySem.Spec PySem.W PyProof.Rows
theorem km:∀(f n r:Nat),r<=1->minRun' f n r<=n+r
 | 0,n,r,_=>Nat.le_refl _
 | f+1,n,r,hr=>by
   rw[minRun'_succ]
   split
   . exact Nat.le_refl _
   . have h1:max r (n % 2)<=1:=Nat.max_le.mpr ⟨hr,by omega⟩
     have:=km f (n / 2) (max r (n % 2)) h1
     omega
section
variable {P:Program} {w:World} {B:Around} {F:Value->Shared->Prop} {κ:SortKind} {it:Array Keyed} {z:Shared}
theorem zW {n:Nat} {R:Nat->Shared->Prop} (hc:∀i,1<=i->i < n->∀C:Bool->Shared->Prop,C false z->kas_cmp P w B κ it i (i - 1) C z) (hR:R n z):
   ∀(f a:Nat),1<=a->a+f=n->(kas_asc (List.toArray (List.range n)) f a).kasWp (kas_cmp P w B κ it) R z
 | 0,a,_,e=>by
   have e':a=n:=by omega
   subst e'
   exact hR
 | f+1,a,h1,e=>by
   have g:∀i,i < n->(List.toArray (List.range n)).getD i 0=i:=λi hi=>by simp [Array.getD,hi]
   show kas_cmp P w B κ it ((List.toArray (List.range n)).getD a 0) ((List.toArray (List.range n)).getD (a - 1) 0) _ z
   rw[g a (by omega),g (a - 1) (by omega)]
   refine hc a h1 (by omega) _ ?_
   show KasT.kasWp _ (if false=true then _ else _) R z
   rw[if_neg Bool.false_ne_true]
   exact zW hc hR f (a+1) (by omega) (by omega)
theorem We {n:Nat} {Q:Unit->SortSt->Shared->Prop} (h2:2<=n) (hc:∀i,1<=i->i < n->∀C:Bool->Shared->Prop,C false z->kas_cmp P w B κ it i (i - 1) C z)
   (hQ:∀st,arrOf st=(List.toArray (List.range n)).map (kas_item it)->failedOf st=none->Q () st z):kasC (model P w) B F sortRuns' Q (kas_st κ it (List.toArray (List.range n))) z:=by
 obtain⟨r,rfl⟩:∃r,n=r+2:=⟨n - 2,by omega⟩
 have sz:(List.toArray (List.range (r+2))).size=r+2:=by simp
 have sa:(arrOf (kas_st κ it (List.toArray (List.range (r+2))))).size=r+2:=(Array.size_map ..).trans sz
 have le:=km (r+2) (r+2) 0 (by decide)
 rw[sortRuns'_eq]
 refine kasC_bind (kasC_get ?_)
 dsimp only
 rw[sa]
 generalize minRun' (r+2) (r+2) 0=M at le
 refine kasC_bind (kasC_range (show kasC _ _ _ (forIn (0::1::List.range' 2 r) _ _) _ _ _ from kasC_cons ?_))
 dsimp only
 rw[if_neg (by omega)]
 simp only[Nat.sub_zero,Nat.zero_add]
 refine kasC_bind (kas_count_ (G:=λq z'=>q=(r+2,List.toArray (List.range (r+2)))/\z'=z) (by omega) (by rw[sz];exact Nat.le_refl _) (λm p' z' _ _ _ hg=>?_) ?_)
 . obtain⟨e,rfl⟩:=hg
   cases e
   dsimp only
   rw[if_neg (by omega)]
   refine kasC_bind (kasC_get ?_)
   rw[show (pendingOf (kas_st κ it (List.toArray (List.range (r+2))))).back?=none from rfl]
   dsimp only
   refine kasC_bind (kasC_modify (kasC_pure (show kasC _ _ _ (forIn (1::List.range' 2 r) _ _) _ _ _ from kasC_cons ?_)))
   dsimp only
   rw[if_pos (Nat.le_refl _)]
   refine kasC_pure ?_
   dsimp only
   refine kasC_bind (kasC_range (show kasC _ _ _ (forIn (0::1::List.range' 2 r) _ _) _ _ _ from kasC_cons (kasC_bind (kasC_get ?_))))
   rw[if_pos (show (pendingOf (setPending (kas_st κ it (List.toArray (List.range (r+2)))) ((pendingOf (kas_st κ it (List.toArray (List.range (r+2))))).push (0,r+2,0)))).size<=1 from Nat.le_refl 1)]
   refine kasC_pure ?_
   dsimp only
   exact kasC_pure (hQ _ rfl rfl)
 . unfold kas_count
   rw[KasT.kasWp_bind]
   refine zW hc ?_ _ 1 (Nat.le_refl 1) (by omega)
   rw[if_pos (beq_self_eq_true _)]
   exact⟨rfl,rfl⟩
end
def QB (h:Heap) (v:Value) (k:Int×Int):Prop:=∃p o n t u,v=.ref p/\h.get? p=some o/\o.cls=.type "tuple"/\o.data=.seq #[.int k.1 t,.int k.2 u] n
def Zz (a b:Int×Int):Prop:=a.1 < b.1\/(a.1=b.1/\a.2 < b.2)
section
variable {P:Program} {w:World} {B:Around} {F:Value->Shared->Prop} {z:Shared}
theorem zY {v u:Value} {a b:Int×Int} (hv:QB z.heap v b) (hu:QB z.heap u a) (hlt:Zz a b) {C:Bool->Shared->Prop} (hC:C false z):wpAny (model P w) B (keyLt' (tuples' true) v u) C (λ_ _=>False) z:=by
 obtain⟨p,o,n,t1,t2,rfl,h1,_,d1⟩:=hv
 obtain⟨p',o',n',t1',t2',rfl,h1',_,d1'⟩:=hu
 refine kat_lt h1 d1 h1' d1' ?_
 show KatLex P w B true _ C [(.int b.1 t1,.int a.1 t1'),(.int b.2 t2,.int a.2 t2')] 0 z
 refine kat_cons (SeqAt.EqAt.int_int b.1 t1 a.1 t1' P w _ _ ?_)
 rcases hlt with h | ⟨h,h'⟩
 . have e:(b.1==a.1)=false:=by
     rw[beq_eq_false_iff_ne]
     omega
   rw[e]
   refine kat_no (show wpAny _ _ (oneLt' true _ _) _ _ _ from oneLt_int ?_)
   rw[decide_eq_false (by omega)]
   exact hC
 . have e:(b.1==a.1)=true:=by rw[h];exact beq_self_eq_true _
   rw[e]
   refine kat_yes (kat_cons (SeqAt.EqAt.int_int b.2 t2 a.2 t2' P w _ _ ?_))
   have e2:(b.2==a.2)=false:=by
     rw[beq_eq_false_iff_ne]
     omega
   rw[e2]
   refine kat_no (show wpAny _ _ (oneLt' false _ _) _ _ _ from kat_one _ _ (lt_int ?_))
   show C (decide (b.2 < a.2)) z
   rw[decide_eq_false (by omega)]
   exact hC
theorem QB.keep {h h':Heap} {v:Value} {k:Int×Int} (x:QB h v k) (kp:∀b o,h.get? b=some o->o.cls=.type "tuple"->h'.get? b=some o):QB h' v k:=by
 obtain⟨p,o,n,t,u,e,h1,c,d⟩:=x
 exact⟨p,o,n,t,u,e,kp p o h1 c,c,d⟩
theorem Z2 (vs:List Value):(pairsOf vs).map (·.2)=vs.toArray:=by
 apply Array.ext'
 rw[Array.toList_map,pairsOf_toList,List.map_snd_zip (Nat.le_refl _)]
theorem Xi {h:Heap}:∀(vs:List Value) (ks:List (Int×Int)),vs.length=ks.length->(∀(i:Nat) (v:Value) (k:Int×Int),vs[i]?=some v->ks[i]?=some k->QB h v k)->∃fs,KatTups h vs fs/\fs.length=vs.length/\∀v∈fs,∃i t,v=Value.int i t
 | [],_,_,_=>⟨[],.nil,rfl,λv hv=>(nomatch hv)⟩
 | v::vs,[],hl,_=>by cases hl
 | v::vs,k::ks,hl,hv=>by
   obtain⟨fs,tf,lf,hf⟩:=Xi vs ks (Nat.succ.inj hl) λi u q e1 e2=>hv (i+1) u q (by simpa using e1) (by simpa using e2)
   obtain⟨p,o,n,t,u,rfl,h1,c,d⟩:=hv 0 v k rfl rfl
   refine⟨.int k.1 t::fs,.cons h1 c d rfl tf,by simp [lf],λx hx=>?_⟩
   rcases List.mem_cons.mp hx with e | hx
   . exact⟨_,_,e⟩
   . exact hf x hx
theorem X0 {a:Addr} {vs:List Value} {ks:List (Int×Int)} {n:Nat} {R:PySem.Fin->Shared->Prop} (ho:z.heap.get? a=some (seqObj "list" vs.toArray n)) (hl:vs.length=ks.length) (hv:∀(i:Nat) (v:Value) (k:Int×Int),vs[i]?=some v->ks[i]?=some k->QB z.heap v k)
   (hr:∀(i:Nat) (k k':Int×Int),ks[i]?=some k->ks[i+1]?=some k'->Zz k k') (hz:vs.length<=100000)
   (k:R (.done (.ret .none)) {z with heap:=sortedHeap z.heap a vs vs.toArray}):wpAny (model P w) B (Builtin.«list.sort» ⟨[.ref a],[]⟩) R F z:=by
 have na:∀b o,z.heap.get? b=some o->o.cls=.type "tuple"->b≠a:=λb o e c q=>by
   rw[q,ho]at e
   cases e
   exact absurd c (show ¬Value.type "list"=Value.type "tuple" by decide)
 rw[list_sort_plain]
 refine wpAny_bind (listItems_at ho rfl (wpAny_bind (listUpdate_at ho rfl ?_)))
 obtain⟨c1,o1⟩:∃c,(z.heap.update a (Obj.mapSeq λ_=>#[])).get? a=some (seqObj "list" #[] c):=⟨_,get?_update_seq ho (λ_=>#[])⟩
 refine wpAny_bind (seqEpoch_at o1 rfl (wpAny_bind (wpAny_newTuple (wpAny_bind (wpAny_newList (wpAny_holding ?_))))))
 have lt:=Heap.lt_size ho
 have o2:(((z.heap.update a (Obj.mapSeq λ_=>#[])).push (seqObj "tuple" vs.toArray 0)).push (seqObj "list" #[] 0)).get? a=some (seqObj "list" #[] c1):=Heap.get?_push_of_some _ (Heap.get?_push_of_some _ o1)
 have kp:∀b o,z.heap.get? b=some o->o.cls=.type "tuple"->(((z.heap.update a (Obj.mapSeq λ_=>#[])).push (seqObj "tuple" vs.toArray 0)).push (seqObj "list" #[] 0)).get? b=some o:=λb o e c=>
   Heap.get?_push_of_some _ (Heap.get?_push_of_some _ ((Heap.get?_update_other _ _ (Ne.symm (na b o e c))).trans e))
 show wpAny (model P w) B _ R F {z with heap:=((z.heap.update a (Obj.mapSeq λ_=>#[])).push (seqObj "tuple" vs.toArray 0)).push (seqObj "list" #[] 0)}
 dsimp only
 have sv:vs.toArray.size=vs.length:=by simp
 have ends:∀st:SortSt,(arrOf st).map (·.2)=vs.toArray->failedOf st=none->wpAny (model P w) B (do
     let touched:=(<-seqEpoch a) != c1
     Builtin.List.listUpdate (.ref a) λ_=>(arrOf st).map (·.2)
     if let some e:=failedOf st then rule "list.sort.comparison-raised";throw e
     if touched then rule "list.sort.modified";raiseError "ValueError" "list modified during sort"
     ret .none) R F {z with heap:=((z.heap.update a (Obj.mapSeq λ_=>#[])).push (seqObj "tuple" vs.toArray 0)).push (seqObj "list" #[] 0)}:=λst e f=>by
   refine wpAny_bind (seqEpoch_at o2 rfl ?_)
   rw[e,f]
   refine wpAny_bind (listUpdate_at o2 rfl ?_ (hsz2:=by rw[sv,sizeLine_eq];omega))
   simp only[bne_self_eq_false,Bool.false_eq_true,if_false]
   exact wpAny_pure k
 by_cases h2:vs.toArray.size < 2
 . rw[if_pos h2,if_pos h2]
   refine wpAny_bind (wpAny_pure ?_)
   rw[StateT.run_pure]
   refine wpAny_bind (wpAny_pure ?_)
   exact ends (SortSt.mk' general' (vs.toArray.zip vs.toArray) #[] 7 none) (Z2 vs) rfl
 . rw[if_neg h2,if_neg h2]
   have l2:2<=vs.length:=by omega
   have hv':∀(i:Nat) (v:Value) (q:Int×Int),vs[i]?=some v->ks[i]?=some q->QB (((z.heap.update a (Obj.mapSeq λ_=>#[])).push (seqObj "tuple" vs.toArray 0)).push (seqObj "list" #[] 0)) v q:=λi v q e1 e2=>(hv i v q e1 e2).keep kp
   obtain⟨fs,tf,lf,hf⟩:=Xi vs ks hl hv'
   refine wpAny_bind (kat_kind (T:=.type "int") tf (by omega) (λv q=>?_) rfl ?_)
   . obtain⟨i,t,rfl⟩:=hf v q
     exact Looks.of_pure rfl
   . have e:vs.toArray.zip vs.toArray=(List.toArray (List.range vs.length)).map (kas_item (pairsOf vs)):=by
       have:=kas_range (pairsOf vs)
       rw[pairsOf_size]at this
       exact this.symm
     rw[e]
     have run:kasC (model P w) B F sortRuns' (λ_ st z'=>z'={z with heap:=((z.heap.update a (Obj.mapSeq λ_=>#[])).push (seqObj "tuple" vs.toArray 0)).push (seqObj "list" #[] 0)}/\(arrOf st).map (·.2)=vs.toArray/\failedOf st=none)
         (kas_st (tuples' true) (pairsOf vs) (List.toArray (List.range vs.length))) {z with heap:=((z.heap.update a (Obj.mapSeq λ_=>#[])).push (seqObj "tuple" vs.toArray 0)).push (seqObj "list" #[] 0)}:=by
       refine We l2 (λi i1 i2 C hC=>?_) λst e1 e2=>⟨rfl,by rw[e1,<-e];exact Z2 vs,e2⟩
       unfold kas_cmp
       rw[kas_item_eq,kas_item_eq]
       have g:∀j,j < vs.length->vs[j]?=some (vs.getD j Value.none):=λj hj=>by simp [hj]
       have gk:∀j,j < vs.length->∃q,ks[j]?=some q:=λj hj=>⟨_,List.getElem?_eq_getElem (by omega)⟩
       obtain⟨q1,eq1⟩:=gk i i2
       obtain⟨q0,eq0⟩:=gk (i - 1) (by omega)
       have eq1':ks[i - 1+1]?=some q1:=by rw[show i - 1+1=i by omega];exact eq1
       exact zY (hv' i _ q1 (g i i2) eq1) (hv' (i - 1) _ q0 (g (i - 1) (by omega)) eq0) (hr (i - 1) q0 q1 eq0 eq1') hC
     refine wpAny_bind (wpAny_mono run (λr z' h3=>?_) λ_ _ x=>x)
     obtain⟨⟨⟩,st⟩:=r
     obtain⟨rfl,e1,e2⟩:=h3
     exact ends st e1 e2
end
end L2
set_option Elab.async false
set_option linter.all false
set_option maxRecDepth 100000
set_option maxHeartbeats 4000000
namespace PySem
def ZS (h:Heap) (d:Addr) (es:Array DictEntry) (ep:Nat):Prop:=∃o,h.get? d=some o/\o.ExactDict/\o.data=.dict es ep
theorem ZS.keep {h h':Heap} {d:Addr} {es:Array DictEntry} {ep:Nat} (x:ZS h d es ep) (k:∀o,h.get? d=some o->h'.get? d=some o):ZS h' d es ep:=let ⟨o,e,r⟩:=x;⟨o,k o e,r⟩
section
variable {P:Program} {w:World} {B:Around} {F':Value->Shared->Prop} {z:Shared} {d I:Addr} {es:Array DictEntry} {ep i:Nat}
theorem ZS.ty (x:ZS z.heap d es ep):z.TypeIs (.ref d) "dict":=let ⟨o,e,c,_⟩:=x;⟨o,e,c.1⟩
theorem Vp {R:Value->Shared->Prop} (hd:(d==sysModules)=false) (x:ZS z.heap d es ep)
   (k:R (.ref z.heap.objs.size) {z with heap:=z.heap.push {cls:=.type "dict_keyiterator",data:=.fields #[.ref d,.int 0 0,.int es.size 0,.int ep 0]}}):wpAny (model P w) B (pyIter (.ref d)) R F' z:=by
 have ty:=x.ty
 obtain⟨o,ho,_,dat⟩:=x
 refine wpAny_pyIter_slot ty F.slot_dict_iter (wpAny_call_entry F.slot_dict_iter ty F.entry_dict_iter ?_ (F.args_dict_iter_1 _))
 unfold Builtin.«dict.__iter__»
 refine wpAny_bind (show wpAny _ _ (Builtin.Dict.dictSlotNone _ _) _ _ _ from ?_)
 unfold Builtin.Dict.dictSlotNone
 refine wpAny_bind (wpAny_notOrdered_dict ty (show wpAny _ _ (pure (Value.ref d)) _ _ z from wpAny_pure ?_))
 refine(show wpAny _ _ (Builtin.Dict.showsAll d >>= _) _ _ z from ?_)
 unfold Builtin.Dict.showsAll
 rw[if_neg (by rw[hd];exact Bool.false_ne_true)]
 refine wpAny_bind (wpAny_pure (wpAny_bind (wpAny_dictEntries ho dat (wpAny_bind (wpAny_dictEpoch ho dat ?_)))))
 exact wpAny_bind (wpAny_newObj_type (wpAny_pure ⟨_,rfl,"dict_keyiterator",_,⟨_,Heap.get?_push_size _ rfl,rfl⟩,F.slot_dict_keyiterator_next.lookup,by simpa [rawInt] using k⟩))
theorem Vo {R:Option Value->Shared->Prop} (hit:z.heap.IsKeyIter I d i es.size ep) (x:ZS z.heap d es ep) (hi:i < es.size)
   (k:∀h',h'.IsKeyIter I d (i+1) es.size ep->Heap.SameBut I z.heap h'->R (some es[i].key) {z with heap:=h'}):wpAny (model P w) B (pyNext (.ref I)) R F' z:=by
 obtain⟨o,ho,hc,hd⟩:=id hit
 obtain⟨od,hod,_,dat⟩:=x
 have ty:=hit.typeIs
 unfold pyNext
 refine wpAny_bind (wpAny_attempt (wpAny_callSpecial?_slot (name:=Str.ofString "__next__") ty F.slot_dict_keyiterator_next (wpAny_call_entry F.slot_dict_keyiterator_next ty F.entry_dict_keyiterator_next ?_ (F.args_dict_keyiterator_next_1 _))))
 refine wpAny_bind (wpAny_pure (wpAny_bind (wpAny_bind (wpAny_bind ?_))))
 first | refine wpAny_typeNameOfWhole_keyiter ty (wpAny_pure (wpAny_bind (wpAny_fieldsOf ho hd ?_))) | refine wpAny_typeNameOf_keyiter ty (wpAny_pure (wpAny_bind (wpAny_fieldsOf ho hd ?_)))
 have own:Builtin.Dict_items.ownsTuple "dict_keyiterator"=false:=by decide
 simp only[own,Bool.false_eq_true,if_false]
 show wpAny _ _ (if (Value.ref d==Value.none)=true then _ else _) _ _ z
 rw[if_neg (show ¬((Value.ref d==Value.none)=true) from Bool.false_ne_true)]
 refine wpAny_bind (wpAny_pure (wpAny_bind (wpAny_dictEntries hod dat ?_)))
 rw[if_neg (by simp)]
 refine wpAny_bind (wpAny_pure (wpAny_bind (wpAny_dictEpoch hod dat ?_)))
 rw[if_neg (by simp)]
 refine wpAny_pure ?_
 simp only[show ¬((i:Int) < 0) from by omega,if_false,Int.toNat_natCast,Array.getElem?_eq_getElem hi]
 refine wpAny_bind (wpAny_bind ?_)
 first | refine wpAny_typeNameOfWhole_keyiter ty (wpAny_pure (wpAny_bind (wpAny_isOneOf_keyiter ty ?_))) | refine wpAny_typeNameOf_keyiter ty (wpAny_pure (wpAny_bind (wpAny_isOneOf_keyiter ty ?_)))
 refine(show wpAny _ _ (setField (.ref I) 1 (rawInt ((i:Int)+1)) >>= _) _ _ z from wpAny_bind (wpAny_setField ho hd (by simp) ?_))
 have hit':(z.heap.update I (Obj.mapFields (·.setIfInBounds 1 (rawInt ((i:Int)+1))))).IsKeyIter I d (i+1) es.size ep:=
   ⟨_,Heap.get?_update_self _ ho (Obj.isFreed_of_fields (Obj.data_mapFields hd _)),(Obj.cls_mapFields ..).trans hc,by rw[Obj.data_mapFields hd];simp [rawInt]⟩
 refine wpAny_bind (wpAny_holding (wpAny_bind (wpAny_isOneOf_keyiter (s:={z with heap:=z.heap.update I (Obj.mapFields (·.setIfInBounds 1 (rawInt ((i:Int)+1))))}) hit'.typeIs ?_)))
 refine(show wpAny _ _ (pure es[i].key) _ _ _ from wpAny_pure (wpAny_pure ⟨_,rfl,wpAny_pure (k _ hit' (Heap.SameBut.update ..))⟩))
theorem U2 {R:Option Value->Shared->Prop} (hB:B.handled=none) (hit:z.heap.IsKeyIter I d i es.size ep) (x:ZS z.heap d es ep) (hi:es.size<=i)
   (k:∀h',Heap.ExtBut I z.heap h'->R none {z with heap:=h'}):wpAny (model P w) B (pyNext (.ref I)) R F' z:=by
 obtain⟨o,ho,hc,hd⟩:=id hit
 obtain⟨od,hod,_,dat⟩:=x
 have ty:=hit.typeIs
 unfold pyNext
 refine wpAny_bind (wpAny_attempt (wpAny_callSpecial?_slot (name:=Str.ofString "__next__") ty F.slot_dict_keyiterator_next (wpAny_call_entry F.slot_dict_keyiterator_next ty F.entry_dict_keyiterator_next ?_ (F.args_dict_keyiterator_next_1 _))))
 refine wpAny_bind (wpAny_pure (wpAny_bind (wpAny_bind (wpAny_bind ?_))))
 first | refine wpAny_typeNameOfWhole_keyiter ty (wpAny_pure (wpAny_bind (wpAny_fieldsOf ho hd ?_))) | refine wpAny_typeNameOf_keyiter ty (wpAny_pure (wpAny_bind (wpAny_fieldsOf ho hd ?_)))
 have own:Builtin.Dict_items.ownsTuple "dict_keyiterator"=false:=by decide
 simp only[own,Bool.false_eq_true,if_false]
 show wpAny _ _ (if (Value.ref d==Value.none)=true then _ else _) _ _ z
 rw[if_neg (show ¬((Value.ref d==Value.none)=true) from Bool.false_ne_true)]
 refine wpAny_bind (wpAny_pure (wpAny_bind (wpAny_dictEntries hod dat ?_)))
 rw[if_neg (by simp)]
 refine wpAny_bind (wpAny_pure (wpAny_bind (wpAny_dictEpoch hod dat ?_)))
 rw[if_neg (by simp)]
 refine wpAny_pure ?_
 simp only[show ¬((i:Int) < 0) from by omega,if_false,Int.toNat_natCast,Array.getElem?_eq_none hi]
 refine wpAny_bind (wpAny_bind ?_)
 first | refine wpAny_typeNameOfWhole_keyiter ty (wpAny_pure ?_) | refine wpAny_typeNameOf_keyiter ty (wpAny_pure ?_)
 refine(show wpAny _ _ (setField (.ref I) 0 .none >>= _) _ _ z from wpAny_bind (wpAny_setField ho hd (by simp) ?_))
 refine(show wpAny _ _ (newExc (.type "StopIteration") [] >>= _) _ _ _ from wpAny_bind ?_)
 simp only[newExc,newTuple]
 refine wpAny_bind (wpAny_newObj_type (wpAny_bind (m:=firstArgMember _ _) (wpAny_of_eq (a:=Value.none) (by first | rfl | (simp only[firstArgMember];rfl)) (wpAny_newObj_type ?_ (by size_fits)))) (by size_fits))
 simp only[raiseNew]
 refine wpAny_bind (wpAny_handled ?_)
 rw[show B.in1.handled=none from hB]
 refine wpAny_bind (wpAny_pure (wpAny_throw ?_))
 refine wpAny_bind (wpAny_isInstance (T:="StopIteration") (b:=true) ⟨_,Heap.get?_push_size _ rfl,rfl⟩ isSubtype_stop ?_)
 exact wpAny_pure (k _ ((((Heap.SameBut.update ..).extBut).push _).push _))
end
end PySem
namespace PySem
open PySem.W
section
variable {P:Program} {w:World} {d:Addr} {es:Array DictEntry} {ep:Nat}
theorem Wf {B:Around} (hB:B.handled=none) (I:Addr) (hne:d≠I):Walks P w B I [I,d] [I] es.size (λi v=>∃h:i < es.size,v=es[i].key) (λi h=>h.IsKeyIter I d i es.size ep/\ZS h d es ep) where
 sub:=λb hb=>by simp at hb;simp [hb]
 frame:=λ_ _ _ st k=>⟨st.1.at λo e=>k I (by simp) o e,st.2.keep λo e=>k d (by simp) o e⟩
 item:=λi z R G hi st q=>Vo st.1 st.2 hi λh' it' sb=>q _ h' z.toks ⟨hi,rfl⟩ ⟨it',st.2.keep λo e=>sb.extBut d o hne e⟩ λb o hb e=>sb.extBut b o (λx=>hb (by simp [x])) e
 done:=λz R G st q=>U2 hB st.1 st.2 (Nat.le_refl _) λh' eb=>q h' z.toks λb o hb e=>eb b o (λx=>hb (by simp [x])) e
 self:=λ_ _ _ _ st q=>wpAny_pyIter_keyiter st.1 q
theorem U1 (hd:(d==sysModules)=false):KdlSrc P w "dict" d d es.size (λi v=>∃h:i < es.size,v=es[i].key) (λh=>ZS h d es ep) where
 type:=λz x=>x.ty
 there:=λh x=>let ⟨o,e,_⟩:=x;⟨Heap.lt_size e,Heap.lt_size e⟩
 keep:=λh h' x k=>x.keep λo e=>k d (.inl rfl) o e
 notList:=by decide
 notTuple:=by decide
 hint:=λ_ _ _ _ x q=>kdl_hint_dict x.ty q
 iter:=λA z hh x=>⟨_,_,λE Q q=>Vp hd x q,Wf hh _ (let ⟨o,e,_⟩:=x;Nat.ne_of_lt (Heap.lt_size e)),⟨⟨_,Heap.get?_push_size _ rfl,rfl,rfl⟩,x.keep λo e=>Heap.get?_push_of_some _ e⟩⟩
end
end PySem
namespace L2
open PySem PySem.Spec PySem.W PyProof.Rows
theorem Zt {α β:Type} {G:α->β->Prop}:∀{l:List α} {m:List β},Paired G l m->∀{i:Nat} {a:α},l[i]?=some a->∃b,m[i]?=some b/\G a b
 | _,_,.nil,i,a,e=>by simp at e
 | _,_,.cons r t,0,a,e=>by cases e;exact⟨_,rfl,r⟩
 | _,_,.cons r t,i+1,a,e=>by
   obtain⟨b,eb,g⟩:=Zt t (by simpa using e)
   exact⟨b,by simpa using eb,g⟩
section
variable {X:Cx}
def JM (k:Int×Int):List qO:=[Sum.inl k.1,Sum.inl k.2]
def kO:List V->Hp->VK->Prop:=λxs H Q=>∃(a:Addr) (kvs:List (List qO×V)) (ks:List (Int×Int)),xs=[.ref a]/\H a=some (.dT kvs)/\kvs.map (·.1)=ks.map JM/\(∀(i:Nat) (k k':Int×Int),ks[i]?=some k->ks[i+1]?=some k'->Zz k k')/\kvs.length<=1000/\
 ∀(l:Addr) (ps:List Addr),H l=none->ps.length=ks.length->(∀(i:Nat) (p:Addr) (k:Int×Int),ps[i]?=some p->ks[i]?=some k->H p=some (.tup [.int k.1,.int k.2]))->Q (.ref l) (upd H l (.lst (ps.map V.ref)))
theorem zN:∀(ps:List Addr),qw (ps.map V.ref) (ps.map Value.ref)
 | []=>.nil
 | p::ps=>.cons rfl (zN ps)
theorem Y5 (hc:X.calm=true):jU X (.builtin "sorted") kO:=by
 intro pins s σ H xs us Q I r h
 obtain⟨a,kvs,ks,rfl,ea,eks,hr,hz,q⟩:=h
 obtain⟨u,rfl,ru⟩:=Qc r
 cases ru
 obtain⟨_,hsys,ys,pr,o,es,ep,eo,ex,dat,ents,_⟩:=(show qE X.prog X.w H s.heap a (.dT kvs) from I.hok a _ ea)
 have ly:kvs.length=ys.length:=Paired.length pr
 have lk:kvs.length=ks.length:=by simpa using congrArg List.length eks
 have se:es.size=ys.length:=by rw[<-Array.length_toList,ents,List.length_map]
 have key:∀i (hi:i < es.size),es[i].key=.ref ((ys.map (·.2.1)).getD i 0):=λi hi=>by
   have e1:es.toList[i]?=some es[i]:=by simp [hi]
   have hy:i < ys.length:=by omega
   rw[ents,List.getElem?_map,List.getElem?_eq_getElem hy]at e1
   have e2:=(Option.some.inj e1).symm
   rw[e2]
   show Value.ref ys[i].2.1=_
   simp [hy]
 have tup:∀(i:Nat) (p:Addr) (k:Int×Int),(ys.map (·.2.1))[i]?=some p->ks[i]?=some k->H p=some (.tup [.int k.1,.int k.2]):=λi p k e1 e2=>by
   rw[List.getElem?_map]at e1
   cases ey:ys[i]? with
   | none=>rw[ey]at e1;cases e1
   | some y=>
     rw[ey]at e1
     have ep':y.2.1=p:=Option.some.inj e1
     have hi:i < kvs.length:=by
       have:=(List.getElem?_eq_some_iff.mp ey).1
       omega
     obtain⟨y',ey',g1,g2,_⟩:=Zt pr (List.getElem?_eq_getElem hi)
     rw[ey]at ey'
     cases ey'
     have ek:kvs[i].1=JM k:=by
       have h1:(kvs.map (·.1))[i]?=some kvs[i].1:=by rw[List.getElem?_map,List.getElem?_eq_getElem hi];rfl
       rw[eks,List.getElem?_map,e2]at h1
       exact(Option.some.inj h1).symm
     rw[ek,ep']at g2
     exact g2
 have hh:X.A.in1.handled=none:=I.ok.hd hc
 refine Calls.call_function_entry kind_sorted plain_sorted entry_sorted (args_sorted1 _) ?_
 unfold Builtin.«sorted»
 refine wpAny_bind (m:=checkCount "sorted" 1 1 _) (wpAny_pure ?_)
 refine wpAny_bind (kdu_collect (U1 (es:=es) (ep:=ep) hsys) hh ⟨o,eo,ex,dat⟩ (by rw[se,sizeLine_eq];omega) λh1 tk acc k1 it=>?_)
 have eacc:acc.toList=(ys.map (·.2.1)).map Value.ref:=by
   refine List.ext_getElem? λi=>?_
   by_cases hi:i < es.size
   . have ha:i < acc.size:=by rw[it.1];exact hi
     have e1:acc[i]?=some acc[i]:=Array.getElem?_eq_getElem ha
     obtain⟨h',e2⟩:=it.2 i _ e1
     rw[Array.getElem?_toList,e1,e2,key i hi,List.getElem?_map]
     have hy:i < (ys.map (·.2.1)).length:=by rw[List.length_map];omega
     rw[List.getElem?_eq_getElem hy]
     simp [List.getD_eq_getElem?_getD,List.getElem?_eq_getElem hy]
   . rw[List.getElem?_eq_none (by rw[Array.length_toList,it.1];omega),List.getElem?_eq_none (by rw[List.length_map,List.length_map];omega)]
 rw[eacc]
 generalize hps:ys.map (·.2.1)=ps at eacc tup key
 have lp:ps.length=ks.length:=by rw[<-hps,List.length_map];omega
 refine wpAny_bind (wpAny_newList ?_)
 have I1:qp X pins σ H {s with heap:=h1,toks:=tk}:=I.kept (t':=tk) k1
 show wpAny _ _ _ _ _ {s with heap:=h1.push (seqObj "list" (ps.map Value.ref).toArray 0),toks:=tk}
 have oL:(h1.push (seqObj "list" (ps.map Value.ref).toArray 0)).get? h1.objs.size=some (seqObj "list" (ps.map Value.ref).toArray 0):=Heap.get?_push_size _ rfl
 have pa:∀(i:Nat) (v:Value) (k:Int×Int),(ps.map Value.ref)[i]?=some v->ks[i]?=some k->QB (h1.push (seqObj "list" (ps.map Value.ref).toArray 0)) v k:=λi v k e1 e2=>by
   rw[List.getElem?_map]at e1
   cases ep1:ps[i]? with
   | none=>rw[ep1]at e1;cases e1
   | some p=>
     rw[ep1]at e1
     obtain rfl:=(Option.some.inj e1).symm
     obtain⟨its,rv,⟨ob,eb,cb,nb,db⟩,_⟩:=I1.tuple (.of (tup i p k ep1 e2):SqT X.K H p _)
     cases rv with
     | cons r1 rv=>
       cases rv with
       | cons r2 rv=>
         cases rv
         obtain⟨t1,rfl⟩:=r1
         obtain⟨t2,rfl⟩:=r2
         exact⟨p,ob,nb,t1,t2,rfl,Heap.get?_push_of_some _ eb,cb,db⟩
 refine wpAny_bind (wpAny_holding (wpAny_call_entry slot_list_sort ⟨_,oL,rfl⟩ entry_list_sort (X0 oL (by rw[List.length_map];exact lp) pa hr (by rw[List.length_map];omega) ⟨_,rfl,?_⟩) (args_list_sort _)))
 refine wpAny_pure ⟨_,rfl,?_⟩
 have lne:∀b o,h1.get? b=some o->b≠h1.objs.size:=λb o e=>Nat.ne_of_lt (Heap.lt_size e)
 have kf:∀b o,h1.get? b=some o->(sortedHeap (h1.push (seqObj "list" (ps.map Value.ref).toArray 0)) h1.objs.size (ps.map Value.ref) (ps.map Value.ref).toArray).get? b=some o:=λb o e=>by
   unfold sortedHeap
   rw[Heap.get?_update_other _ _ (Ne.symm (lne b o e))]
   exact Heap.get?_push_of_some _ (Heap.get?_push_of_some _ ((Heap.get?_update_other _ _ (Ne.symm (lne b o e))).trans (Heap.get?_push_of_some _ e)))
 obtain⟨c2,o2⟩:∃c,((h1.push (seqObj "list" (ps.map Value.ref).toArray 0)).update h1.objs.size (Obj.mapSeq λ_=>#[])).get? h1.objs.size=some (seqObj "list" #[] c):=⟨_,get?_update_seq oL (λ_=>#[])⟩
 obtain⟨c3,o3⟩:∃c,(sortedHeap (h1.push (seqObj "list" (ps.map Value.ref).toArray 0)) h1.objs.size (ps.map Value.ref) (ps.map Value.ref).toArray).get? h1.objs.size=some (seqObj "list" (ps.map Value.ref).toArray c):=
   ⟨_,get?_update_seq (Heap.get?_push_of_some _ (Heap.get?_push_of_some _ o2)) (λ_=>(ps.map Value.ref).toArray)⟩
 refine⟨.ref h1.objs.size,_,I1.laid (t':=tk) (o:=.lst (ps.map V.ref)) kf (Nat.le_refl _) ⟨by rw[List.length_map,lp,<-lk];exact Nat.le_of_lt (qj hz),_,c3,zN ps,o3⟩,rfl,?_⟩
 exact q _ ps (I1.hok.fresh (Nat.le_refl _)) lp tup
end
end L2
set_option Elab.async false
set_option linter.all false
set_option maxRecDepth 100000
set_option maxHeartbeats 4000000
namespace L2
open PySem PySem.Spec PySem.W PyProof.Rows
section
variable {X:Cx}
def x9:V->Option Int->Option Int->Hp->VK->Prop:=λx lo hi H Q=>∃(z:Str) (j:Int),x=.str z/\lo=none/\hi=some j/\z.length<=1000/\Q (.str (Txt.slice z none (some j))) H
theorem Vb:wz X x9:=by
 intro pins s σ H x v vl vu lo hi sl Q I rx hs pl pu h
 obtain⟨z,j,rfl,rfl,rfl,hz,q⟩:=h
 obtain⟨t,rfl⟩:=rx
 refine⟨"str",_,PySem.F.slot_str_getitem.lookup,typeIs_str _ _ _,?_⟩
 cases pl
 cases pu
 exact wpAny_getItem_str_slice (l:=none) (u:=some (j,_)) (st:=none) hs rfl (post_val_or_str ⟨Nat.le_trans (Txt.slice_le z none (some j)) (Nat.le_of_lt (qj hz)),λt' k=>⟨.str _,H,I.tok k,⟨t',rfl⟩,q⟩⟩)
theorem Zk (z:Str) (j:Nat):(Txt.slice z none (some (j:Int))).cps.toList=z.cps.toList.take j:=by
 have hl:z.cps.toList.length=z.length:=Array.length_toList
 have idx:Builtin.Str.strSliceIndices none (some (j:Int)) 1 z.length=(List.range (min j z.length)).map (0+·):=by
   have e:Builtin.Str.strSliceIndices none (some (j:Int)) 1 z.length=sliceRange ((0:Nat):Int) ((min j z.length:Nat):Int) 1:=by
     unfold Builtin.Str.strSliceIndices
     simp only[show (1:Int) > 0 by decide,if_true,show ¬((j:Int) < 0) by omega,if_false]
     congr 1
     omega
   rw[e,sliceRange_one]
   rfl
 unfold Txt.slice
 rw[idx]
 split
 . rename_i h
   have hm:min j z.length=z.length:=by simpa using h
   rw[List.take_of_length_le]
   omega
 . rw[pick_run]
   show (z.cps.toList.drop 0).take (min j z.length)=_
   rw[List.drop_zero]
   by_cases hj:j<=z.length
   . rw[Nat.min_eq_left hj]
   . rw[Nat.min_eq_right (by omega),List.take_of_length_le (by omega),List.take_of_length_le (by omega)]
def vT (n:Nat):List V:=(List.range n).map λi=>V.int (i:Nat)
def tLr (te:TE):TE:=λσ H Q=>te σ H λx H1=>∃n:Nat,x=.int n/\n<=1000/\∀l,H1 l=none->Q (.ref l) (upd H1 l (.lst (vT n)))
theorem UD {n:Nat} {acc:Array Value} (h:ItemsOf (λi v=>∃t,v=.int (0+i*1) t) acc n):qw (vT n) acc.toList:=by
 obtain⟨hz,hv⟩:=h
 refine Wj _ _ (by simp [vT,hz]) λi x u h1 h2=>?_
 have h2':acc[i]?=some u:=by simpa using h2
 obtain⟨t,rfl⟩:=hv i u h2'
 have hi:i < n:=by
   have:=(Array.getElem?_eq_some_iff.mp h2').1
   omega
 unfold vT at h1
 rw[List.getElem?_map,List.getElem?_range hi]at h1
 obtain rfl:=(Option.some.inj h1).symm
 refine⟨t,?_⟩
 congr 1
 omega
variable {e:Expr} {te:TE} {p1 p3 pos1 pos3:Pos}
theorem xv (hc:X.calm=true) (g1:Gl X "list") (m1:X.mg "list"=none) (g3:Gl X "range") (m3:X.mg "range"=none) (ha:JE X e te) (hs:starEach [e] X.env=[(false,eval e X.env)]:=by rfl) (hs2:starEach [.Call (.Name "range" p3) [e] [] pos3] X.env=[(false,eval (.Call (.Name "range" p3) [e] [] pos3) X.env)]:=by rfl):JE X (.Call (.Name "list" p1) [.Call (.Name "range" p3) [e] [] pos3] [] pos1) (tLr te):=.of (by
 have ha:=ha.to
 intro pins s σ H Q I h
 refine Call_ (Qk I g1 m1 boot_list (PyProof.Rows.callWith_type1 (W5 hs2 ?_) (by rw[hs2];rfl) rfl))
 refine Call_ (Qk I g3 m3 boot_range (PyProof.Rows.callWith_type1 (W5 hs (qP (ha pins s σ H _ I h) λu s1 ⟨x,H1,I1,r1,q1⟩=>?_)) (by rw[hs];rfl) rfl))
 obtain⟨n,rfl,hn,q⟩:=q1
 obtain⟨t,rfl⟩:=r1
 refine call_range_1 ?_
 refine call_list_range (n:=n) (I1.ok.hd hc) (IsRange.new ..) (small_one (by omega) (by omega) (by omega) (by omega)) (Xy n) (by omega) λh' tk acc' c' kp e hi=>?_
 have s1z:s1.heap.objs.size<=(s1.heap.push ({cls:=.type "range",data:=.fields #[.int 0 s1.toks,.int n t,.int 1 (s1.toks+1)]}:Obj)).objs.size:=by
   rw[Heap.size_push]
   omega
 exact⟨.ref _,_,I1.laid (t':=tk) (o:=.lst (vT n)) (λb o eb=>kp b o (Heap.get?_push_of_some _ eb)) s1z ⟨by simp only[vT,List.length_map,List.length_range];exact Nat.le_of_lt (qj hn),acc'.toList,c',UD hi,by simpa using e⟩,rfl,q _ (I1.hok.fresh s1z)⟩)
theorem WM (hc:X.calm=true):jU X (.type "set") (λxs H Q=>∃(p:Addr) (ns:List Int),xs=[.ref p]/\SqL X.K H p (ns.map V.int)/\ns.length<=1000/\∀l S,H l=none->Q (.ref l) (upd H l (.set S (firstMet (λi=>ns.getD i 0) ns.length).length))):=by
 intro pins s σ H xs us Q I r h
 obtain⟨p,ns,rfl,hq,hz,q⟩:=h
 obtain⟨u,rfl,ru⟩:=Qc r
 cases ru
 obtain⟨its,rv,pl,_⟩:=I.list hq
 have hl:=rv.length
 rw[List.length_map]at hl
 have hsz:its.toArray.size=ns.length:=by rw[List.size_toArray,<-hl]
 refine call_set_list (ns:=ns) (I.ok.hd hc) pl.isList (by simpa using YZ rv) (by rw[hsz];show ns.length+1 < 4096;omega) λh' tk so kp=>?_
 rw[hsz]at so
 exact⟨.ref s.heap.objs.size,_,I.laid (t':=tk) (o:=.set _ _) (λb o e=>kp b o (Heap.lt_size e) e) (Nat.le_refl _) so,rfl,q _ _ (I.hok.fresh (Nat.le_refl _))⟩
theorem Yp:jU X (.builtin "len") (λxs H Q=>∃a S n,xs=[V.ref a]/\H a=some (.set S n)/\Q (.int (n:Nat)) H):=by
 intro pins s σ H xs us Q I r h
 obtain⟨a,S,n,rfl,ea,q⟩:=h
 obtain⟨u,rfl,ru⟩:=Qc r
 cases ru
 obtain⟨o,es,ep,t,e1,e2,e3,_,_,b,f,rfl⟩:=(show qE X.prog X.w H s.heap a (.set S n) from I.hok a _ ea)
 refine call_len_set e1 e2 e3 f (by have:es.size < 4096:=b;omega) ⟨.int _,H,I.tok _,⟨_,rfl⟩,q⟩
end
end L2
set_option Elab.async false
set_option linter.all false
set_option maxRecDepth 100000
set_option maxHeartbeats 4000000
namespace L2
open PySem PySem.Spec PyProof.Rows
def xF (K:PySem.W.Frag) (a:Addr):It:=⟨λi H=>∃xs x,SqL K H a xs/\xs[i]?=some x,
 λi H v H'=>∃p,H p=none/\v=.ref p/\∀xs x,SqL K H a xs->xs[i]?=some x->H'=upd H p (.tup [.int (i:Nat),x]),
 λi H=>∃xs,SqL K H a xs/\xs.length<=i⟩
theorem XX {P:Program} {w:World} {K:PySem.W.Frag} {elts:List Expr} {x1:Nat} {tpos:Pos} (a e it:Addr) (hne:e≠it):
   Yt P w K (.Tuple elts x1 tpos) (xF K a) [e,it] e (λi h=>(∃old,IsEnum h e it i old)/\h.IsListIter it a i) where
 mem:=by simp
 obj:=λi h st c hc=>by
   obtain⟨⟨old,he⟩,⟨o1,e1,c1,d1⟩⟩:=st
   simp only[List.mem_cons,List.mem_nil_iff,or_false]at hc
   rcases hc with rfl | rfl
   . exact⟨_,he,λv z=>by cases z⟩
   . exact⟨o1,e1,λv z=>by rw[d1]at z;cases z⟩
 keep:=λi h h' st k=>by
   obtain⟨⟨old,he⟩,h1⟩:=st
   exact⟨⟨old,k e (by simp) _ he⟩,h1.at λo e=>k it (by simp) o e⟩
 item:=by
   intro X hP hw hK hc i pins s σ H E I hf st hg
   subst hP hw hK
   obtain⟨⟨old,he⟩,h1⟩:=st
   obtain⟨xs,x,qa,hx⟩:=hg
   obtain⟨its,rv,p,_⟩:=I.list qa
   obtain⟨u,hu,ru⟩:=rv.get hx
   refine wpAny_pyNext_enum_item he h1 p.isList (x:=u) (by simpa using hu) hne λh' z1 z2 z3 z4 kk=>⟨_,rfl,?_⟩
   refine wpAny_letOwnedTupleGo_enum z1 λh'' z1' sb=>?_
   have nT:∀c o,s.heap.get? c=some o->s.heap.objs.size≠c:=λc o e=>Nat.ne_of_gt (Heap.lt_size e)
   have kT:∀c o,c≠e->h'.get? c=some o->h''.get? c=some o:=λc o hc e=>(sb.2 c hc).trans e
   have I1:qp X pins σ (upd H s.heap.objs.size (.tup [.int (i:Nat),x])) {s with heap:=h'',toks:=s.toks+1}:=I.turnLaid (L:=[e,it]) (t':=s.toks+1)
     (λc o hc e=>kT c o (λz=>hc (by simp [z])) (kk c o (λz=>hc (by simp [z])) (λz=>hc (by simp [z])) e)) hf (Nat.le_refl _)
     ⟨by show 2<=sizeLine;decide,[.int i s.toks,u],.cons ⟨_,rfl⟩ (.cons ru .nil),⟨_,kT _ _ (nT _ _ he) z3,rfl,_,rfl⟩⟩
   refine⟨.ref s.heap.objs.size,_,I1,rfl,⟨s.heap.objs.size,I.hok.fresh (Nat.le_refl _),rfl,λxs' x' qa' hx'=>?_⟩,⟨⟨_,z1'⟩,z2.at λo e=>kT _ o (Ne.symm hne) e⟩,λc hc=>?_⟩
   . rw[I.list_inj qa' qa,hx]at hx'
     cases hx'
     rfl
   . have h0:=(hf c hc).1
     by_cases ec:c=s.heap.objs.size
     . subst ec
       obtain⟨o1,e1,_⟩:=h1
       simp only[List.mem_cons,List.mem_nil_iff,or_false]at hc
       rcases hc with e | e
       . exact absurd e (nT _ _ he)
       . exact absurd e (nT _ _ e1)
     . rw[qg ec];exact h0
 done:=by
   intro X hP hw hK hc i pins s σ H E I hf st hg
   subst hP hw hK
   obtain⟨⟨old,he⟩,h1⟩:=st
   obtain⟨xs,qa,hl⟩:=hg
   obtain⟨its,rv,p,_⟩:=I.list qa
   have l1:=rv.length
   exact wpAny_pyNext_enum_end (I.ok.hd hc) he h1 p.isList (by simp;omega) λh' kk=>⟨rfl,I.turnedL (L:=[e,it]) (t':=s.toks) (λc o hc e=>kk c o (λz=>hc (by simp [z])) e) hf⟩
 self:=λ_ _ _ _ _ st h=>let ⟨⟨_,he⟩,_⟩:=st;wpAny_pyIter_enum he h
section
variable {X:Cx} {elts:List Expr} {x1:Nat} {tpos:Pos}
def xx (K:PySem.W.Frag) (ta:TA):TI:=λσ H R=>ta σ H λvs H1=>∃a,vs=[.ref a]/\(∃xs,SqL K H1 a xs)/\R (xF K a) H1
theorem vz {a:Expr} {ta:TA} {p pos:Pos} (hg:Gl X "enumerate") (hm:X.mg "enumerate"=none) (ha:JA X [a] ta) (hs:starEach [a] X.env=[(false,eval a X.env)]:=by rfl):JI X (.Tuple elts x1 tpos) (.Call (.Name "enumerate" p) [a] [] pos) (xx X.K ta):=.of (by
 have ha:=ha.to
 intro pins s σ H R I h
 refine Call_ (Qk I hg hm boot_enumerate (PyProof.Rows.callWith_type1 (qP (ha pos pins s σ H _ I h) λus s1 ⟨vs,H1,I1,r1,q1⟩=>?_) (by rw[hs];rfl) rfl))
 obtain⟨l,e,⟨xs,qa⟩,q⟩:=q1
 subst e
 cases r1 with
 | cons r rr=>
   cases rr
   cases r
   obtain⟨its,rv,p,_⟩:=I1.list qa
   refine call_enumerate_list p.isList λh' z1 z2 z3 kk=>?_
   refine wpAny_pyIter_enum z1 ?_
   have I2:qp X pins σ H1 {s1 with heap:=h'}:=I1.kept (t':=s1.toks) kk
   have fr:∀c,s1.heap.objs.size<=c->Qp X pins H1 c:=λc hc=>I1.fpOk hc (I1.hok.fresh hc)
   refine⟨s1.heap.objs.size+1,[s1.heap.objs.size+1,s1.heap.objs.size],_,_,H1,rfl,I2,XX l (s1.heap.objs.size+1) s1.heap.objs.size (Nat.succ_ne_self _),⟨⟨_,z1⟩,z2⟩,λc hc=>?_,q⟩
   simp only[List.mem_cons,List.mem_nil_iff,or_false]at hc
   rcases hc with e | e<;>rw[e]<;>first | exact fr _ (Nat.le_add_right _ _) | exact fr _ (Nat.le_refl _))
end
theorem Uk {K:PySem.W.Frag} {a:Addr} {xs:List V} {g:TG} {tb:TS} {D:Qq} {σ:St} {H:Hp} (Pv:Nat->St->Hp->Prop) (h0:Pv 0 σ H) (hl:∀i σ H,i<=xs.length->Pv i σ H->SqL K H a xs)
   (hs:∀i x σ H p,xs[i]?=some x->H p=none->Pv i σ H->g (.ref p) σ (upd H p (.tup [.int (i:Nat),x])) λσ2 H2=>tb {D with nx:=Pv (i+1),ct:=Pv (i+1),bk:=D.nx} σ2 H2) (hd:∀σ H,Pv xs.length σ H->D.nx σ H):
   ∃W:Nat->Nat->St->Hp->Prop,(∃m,W 0 m σ H)/\∀i m σ H,W i m σ H->
    ((xF K a).stop i H/\D.nx σ H)\/((xF K a).go i H/\∃N:St->Hp->Prop,(∀σ' H',N σ' H'->∃m',m' < m/\W (i+1) m' σ' H')/\∀x H',(xF K a).yld i H x H'->g x σ H' λσ2 H2=>tb {D with nx:=N,ct:=N,bk:=D.nx} σ2 H2):=by
 refine⟨λi m σ H=>m=xs.length - i/\i<=xs.length/\Pv i σ H,⟨xs.length,by simp,Nat.zero_le _,h0⟩,?_⟩
 rintro i m σ H ⟨rfl,hi,p⟩
 have qa:=hl i σ H hi p
 by_cases hlt:i < xs.length
 . have ex:xs[i]?=some xs[i]:=List.getElem?_eq_getElem hlt
   refine .inr ⟨⟨xs,_,qa,ex⟩,Pv (i+1),λσ' H' p'=>⟨xs.length - (i+1),by omega,rfl,hlt,p'⟩,λx H' yl=>?_⟩
   obtain⟨pp,hp,rfl,e⟩:=yl
   rw[e xs _ qa ex]
   exact hs i _ σ H pp ex hp p
 . have e:i=xs.length:=by omega
   subst e
   exact .inl ⟨⟨xs,qa,Nat.le_refl _⟩,hd σ H p⟩
theorem QN (ns:List Nat):∀i,i<=ns.length->preSum (λj=>((ns.getD j 0:Nat):Int)) i=(((ns.take i).sum:Nat):Int)
 | 0,_=>by simp [preSum]
 | i+1,h=>by
   have hi:i < ns.length:=h
   show preSum _ i+_=_
   rw[QN ns i (Nat.le_of_lt hi),List.take_add_one,List.getElem?_eq_getElem hi,List.sum_append]
   simp [List.getD_eq_getElem?_getD,List.getElem?_eq_getElem hi]
theorem JK (ns:List Nat) (i:Nat):(ns.take i).sum<=ns.sum:=by
 have h:(ns.take i++ns.drop i).sum=ns.sum:=by rw[List.take_append_drop]
 rw[List.sum_append]at h
 omega
theorem Yc (ns:List Nat) (i:Nat):ns.getD i 0<=ns.sum:=by
 have h:=JK ns (i+1)
 rw[List.take_add_one,List.sum_append]at h
 rw[List.getD_eq_getElem?_getD]
 cases e:ns[i]? with
 | none=>exact Nat.zero_le _
 | some x=>
   rw[e]at h
   simp at h ⊢
   omega
section
variable {X:Cx}
theorem WL (hc:X.calm=true):jU X (.builtin "sum") (λxs H Q=>∃(p:Addr) (ns:List Nat),xs=[.ref p]/\SqL X.K H p (ns.map λn=>V.int ((n:Nat):Int))/\ns.sum < 2^62/\Q (.int (ns.sum:Nat)) H):=by
 intro pins s σ H xs us Q I r h
 obtain⟨p,ns,rfl,hq,hs,q⟩:=h
 obtain⟨u,rfl,rx⟩:=Qc r
 cases rx
 obtain⟨its,rv,pl,hz⟩:=I.list hq
 have hlt:p < s.heap.objs.size:=by
   obtain⟨o,n,e,_⟩:=pl
   exact Heap.lt_size e
 have hn:its.toArray.size=ns.length:=by
   have:=rv.length
   rw[List.length_map]at this
   simp only[List.size_toArray]
   omega
 have hh:X.A.in1.handled=none:=I.ok.hd hc
 refine call_sum_walk (wpAny_pyIter_list pl.isList ?_)
 refine⟨s.heap.objs.size,[s.heap.objs.size,p],[s.heap.objs.size],its.toArray.size,λi v=>its.toArray[i]?=some v,_,λj=>((ns.getD j 0:Nat):Int),rfl,Walks.list hh s.heap.objs.size p (Nat.ne_of_lt hlt) its.toArray,
   ⟨⟨_,Heap.get?_push_size _ rfl,rfl,rfl⟩,pl.isList.at λo e=>Heap.get?_push_of_some _ e⟩,?_,?_,?_,λh' tk t' hk=>?_⟩
 . intro b hb
   show b < (s.heap.push _).objs.size
   rw[Heap.size_push]
   simp only[List.mem_cons,List.mem_nil_iff,or_false]at hb
   rcases hb with e | e
   . rw[e];exact Nat.lt_succ_self _
   . rw[e];exact Nat.lt_succ_of_lt hlt
 . intro i v hP
   have hi:its[i]?=some v:=by simpa using hP
   cases e:ns[i]? with
   | none=>
     exfalso
     have h1:(ns.map λn=>V.int ((n:Nat):Int))[i]?=none:=by rw[List.getElem?_map,e];rfl
     rw[qw.none_of rv h1]at hi
     cases hi
   | some b=>
     have h1:(ns.map λn=>V.int ((n:Nat):Int))[i]?=some (V.int b):=by rw[List.getElem?_map,e];rfl
     obtain⟨u,hu,ru⟩:=rv.get h1
     rw[hi]at hu
     cases hu
     obtain⟨t,rfl⟩:=ru
     refine⟨t,?_⟩
     show Value.int b t=.int ((ns.getD i 0:Nat):Int) t
     rw[List.getD_eq_getElem?_getD,e]
     rfl
 . intro j hj
   rw[hn]at hj
   have h1:=Yc ns j
   have h2:=JK ns (j+1)
   have h3:=QN ns (j+1) hj
   refine⟨⟨?_,?_⟩,⟨?_,?_⟩⟩
   . show -(2^63)<=((ns.getD j 0:Nat):Int)
     omega
   . show ((ns.getD j 0:Nat):Int) < 2^63
     omega
   . rw[h3];omega
   . rw[h3];omega
 . rw[hn,QN ns _ (Nat.le_refl _),List.take_of_length_le (Nat.le_refl _)]
   refine⟨.int (ns.sum:Nat),H,?_,⟨_,rfl⟩,q⟩
   exact I.kept (h':=h') (t':=tk) λb o e=>hk b o (by
     intro z
     have z':b=s.heap.objs.size:=by simpa using z
     exact absurd (Heap.lt_size e) (by rw[z'];exact Nat.lt_irrefl _)) (Heap.get?_push_of_some _ e)
end
end L2
set_option Elab.async false
set_option linter.all false
set_option maxRecDepth 100000
set_option maxHeartbeats 4000000
namespace L2
open PySem PySem.Spec PyProof.Rows
section
variable {X:Cx} {pins:List (Addr×Obj)} {σ:St} {H:Hp} {s:Shared} {a b:Addr} {kvs more:List (qO×V)} {A:Around} {E:Value->Shared->Prop}
end
section
variable {X:Cx} {o e:Expr} {apos cpos:Pos} {td ty:TE}
end
theorem wq {us:List Value} (h:us.length=0):us=[]:=List.eq_nil_of_length_eq_zero h
theorem vw {us:List Value} {n:Nat} (h:us.length=n+1):∃a r,us=a::r/\r.length=n:=by
 cases us with
 | nil=>cases h
 | cons a r=>exact⟨a,r,rfl,Nat.succ.inj h⟩
theorem Jf {us:List Value} (h:us.length=1):∃a,us=[a]:=by
 obtain⟨a,r,rfl,h'⟩:=vw h
 exact⟨a,by rw[wq h']⟩
theorem Je {us:List Value} (h:us.length=2):∃a b,us=[a,b]:=by
 obtain⟨a,r,rfl,h'⟩:=vw h
 obtain⟨b,rfl⟩:=Jf h'
 exact⟨a,b,rfl⟩
theorem xu {us:List Value} (h:us.length=3):∃a b c,us=[a,b,c]:=by
 obtain⟨a,r,rfl,h'⟩:=vw h
 obtain⟨b,c,rfl⟩:=Je h'
 exact⟨a,b,c,rfl⟩
theorem wp {us:List Value} (h:us.length=4):∃a b c d,us=[a,b,c,d]:=by
 obtain⟨a,r,rfl,h'⟩:=vw h
 obtain⟨b,c,d,rfl⟩:=xu h'
 exact⟨a,b,c,d,rfl⟩
end L2
set_option Elab.async false
set_option linter.all false
set_option maxRecDepth 100000
set_option maxHeartbeats 4000000
namespace L2
open PySem PySem.Spec PyProof.Rows
abbrev Cx.suite (X:Cx) (a:Value) (E:Value->Shared->Prop):Cx:={X with A:=X.A.mark (some a),calm:=false,xe:=E}
abbrev Cx.tried (X:Cx) (pn:List (Addr×Obj)) (E:Value->Shared->Prop):Cx:={X with xe:=E,pn:=pn}
section
variable {X:Cx} {pins:List (Addr×Obj)} {σ:St} {H:Hp} {s:Shared} {E:Value->Shared->Prop} {a:Value}
theorem Cx.Ok.suite (o:X.Ok) (a:Value) (E:Value->Shared->Prop):(X.suite a E).Ok:=⟨o.mod,o.kind,o.glob,o.blt,o.above,o.inj,o.has,o.cab,λz=>Bool.noConfusion z,o.frames,o.stk,o.exf,o.bs,o.bsz,o.noex,o.exfs,o.funs,o.frf⟩
theorem Cx.Ok.tried (o:X.Ok) (pn:List (Addr×Obj)) (E:Value->Shared->Prop):(X.tried pn E).Ok:=⟨o.mod,o.kind,o.glob,o.blt,o.above,o.inj,o.has,o.cab,o.hd,o.frames,o.stk,o.exf,o.bs,o.bsz,o.noex,o.exfs,o.funs,o.frf⟩
theorem qp.suite (I:qp X pins σ H s) (a:Value) (E:Value->Shared->Prop):qp (X.suite a E) pins σ H s:=⟨I.ok.suite a E,I.os,I.bare,I.base,I.loc,I.cell,I.free,I.freeC,I.pin,I.hok,I.len⟩
theorem qp.unsuite {σ0:St} {H0:Hp} {s0:Shared} (I0:qp X pins σ0 H0 s0) (I:qp (X.suite a E) pins σ H s):qp X pins σ H s:=⟨I0.ok,I.os,I.bare,I.base,I.loc,I.cell,I.free,I.freeC,I.pin,I.hok,I.len⟩
theorem qp.tried (I:qp X pins σ H s) (E:Value->Shared->Prop):qp (X.tried (X.pn++pins) E) [] σ H s:=⟨I.ok.tried _ E,I.os,I.bare,I.base,I.loc,I.cell,I.free,I.freeC,λp hp=>I.pin p (by simpa using hp),I.hok,I.len⟩
theorem qp.untried {pins':List (Addr×Obj)} {σ0:St} {H0:Hp} {s0:Shared} (I0:qp X pins σ0 H0 s0) (I:qp (X.tried (X.pn++pins) E) pins' σ H s):qp X pins σ H s:=⟨I0.ok,I.os,I.bare,I.base,I.loc,I.cell,I.free,I.freeC,λp hp=>I.pin p (List.mem_append_left _ hp),I.hok,I.len⟩
theorem Zf {M:Model} {A:Around} {F:Value->Shared->Prop} {i:Nat} {x:Str} {pos:Pos} {Q:Unit->Shared->Prop} (I:qp X pins σ H s) (hN:X.N.Nodup) (hi:X.N[i]?=some x) (hk:X.env.scope.names.lookup x=some .local)
   (h:∀s',qp X pins (σ.set i none) H s'->Q () s'):wpAny M A (do bindName X.env x .none;unbindBehindTheSuite X.env x pos) Q F s:=by
 obtain⟨m,hn,hl⟩:=id I.loc
 have hcls:(X.env.scope.kind==.class || (X.env.scope.kind==.module&&X.env.locals != X.env.globals))=false:=by rw[I.ok.kind];rfl
 have hiσ:i < σ.length:=by rw[I.len];exact(List.getElem?_eq_some_iff.mp hi).1
 have cne:=I.cne
 have tracked:∀{a:Addr} {h':Heap},(∃o,s.heap.get? a=some o/\H a=none)->Heap.SameBut a s.heap h'->QK X.prog X.w H h':=λ{a h'} ha hs b ob e=>by
   obtain⟨_,_,hfree⟩:=ha
   refine(I.hok b ob e).stay (λc w' hc q=>(hs.2 c ?_).trans q) (λ_ q=>q) λ_ _ q=>q
   rintro rfl
   rcases hc with rfl | hc
   . rw[hfree]at e;cases e
   . rw[hfree]at hc;cases hc
 refine wpAny_nameGoes_keeps hk hn hcls λh' v0 hn' hs=>?_
 obtain⟨oL,_,_,hoL,_⟩:=id hn
 refine h _ ⟨I.ok,I.os,I.bare,⟨λb o e n hb hx=>?_,λb o e n hb hx=>?_,I.base.free,λb o e hx=>?_,I.base.tups,I.base.frzs,I.base.tbls⟩,⟨_,hn',λj y v' e1 e2 e3=>?_⟩,λy c e=>?_,I.free,I.freeC,λp hp=>?_,tracked ⟨oL,hoL,I.free⟩ hs,by simpa using I.len⟩
 . exact(hs.2 b (Nat.ne_of_lt (Nat.lt_of_lt_of_le (Heap.lt_size e) I.ok.above))).trans (I.base.keep b o e n hb hx)
 . obtain⟨sl,e1⟩:=I.base.slot b o e n hb hx
   exact⟨sl,(hs.2 b (Nat.ne_of_lt (Nat.lt_of_lt_of_le (Heap.lt_size e) I.ok.above))).trans e1⟩
 . obtain⟨o',e1⟩:=I.base.there b o e hx
   exact⟨o',(hs.2 b (Nat.ne_of_lt (Nat.lt_of_lt_of_le (Heap.lt_size e) I.ok.above))).trans e1⟩
 . by_cases hj:j=i
   . subst hj
     rw[List.getElem?_set_self hiσ]at e2
     cases e2
   . rw[List.getElem?_set_ne (Ne.symm hj)]at e2
     obtain⟨u',r',q⟩:=hl j y v' e1 e2 e3
     refine⟨u',r',?_⟩
     rcases q with ⟨k,e⟩ | ⟨k,c,e,z⟩
     . refine .inl ⟨k,?_⟩
       have:y≠x:=λe=>hj (Zw hN e1 (e▸hi))
       simp [this,e]
     . exact .inr ⟨k,c,e,z.sameBut hs (cne y c e)⟩
 . obtain⟨w',z⟩:=I.cell y c e
   exact⟨w',z.sameBut hs (cne y c e)⟩
 . obtain⟨e,n,ne,nf,d⟩:=I.pin p hp
   exact⟨(hs.2 p.1 ne).trans e,n,ne,nf,d⟩
end
abbrev TH:=Addr->Addr->Addr->TS
def PH (X:Cx) (hs:List ExceptHandler) (t:TH):Prop:=
 ∀(pins:List (Addr×Obj)) (s:Shared) (σ:St) (H:Hp) (D:Qq) (a C dx T:Addr),qp X pins σ H s->H a=some (Qz a C dx (.ref T))->H T=some (vY T .none)->t C a dx D σ H->
   wpAny (model X.prog X.w) X.A (handleBy (.ref a) X.env hs) (SP X pins D) X.xe s
def Ui:TH:=λ_ _ _ _ _ _=>False
theorem Wr {X:Cx} {hs:List ExceptHandler}:PH X hs Ui:=λ_ _ _ _ _ _ _ _ _ _ _ _ h=>h.elim
def Qq.gone (D:Qq) (j:Nat):Qq:={nx:=λσ H=>D.nx (σ.set j none) H,rt:=D.rt,bk:=λσ H=>D.bk (σ.set j none) H,ct:=λσ H=>D.ct (σ.set j none) H}
def Xl (K:PySem.W.Frag) (Cl:Addr) (j:Nat) (ts:TS) (tr:TH):TH:=λC a dx D σ H=>∃f bm,xH K C f bm/\
 if (Value.ref C::bm).contains (.ref Cl)=true then ts (D.gone j) (σ.set j (some (.ref a))) H else tr C a dx D σ H
def yD (K:PySem.W.Frag) (C:Addr):Prop:=∃bm,(∃nm q N bs hdct sn sub ab col dd k0 k1 k2 k3 k5,K.lookup C=some (excClassObj nm q C N bs bm hdct sn sub ab col dd k0 k1 k2 k3 k5 "ValueError.__new__"))/\bm.contains (.type "BaseException")=true
theorem WP.c {K:PySem.W.Frag} {C:Addr} (h:WP K C):yD K C:=let ⟨_,bm,a,b⟩:=h;⟨bm,a.obj,b⟩
theorem Y4 {X:Cx} {x n:Str} {p pos:Pos} {j:Nat} {b₀:Stmt} {suite:List Stmt} {rest:List ExceptHandler} {ts:TS} {tr:TH} {Cl:Addr} (hg:Gl X x) (hm:X.mg x=some (.ref Cl)) (hD:yD X.K Cl) (hN:X.N.Nodup) (hj:X.N[j]?=some n)
   (hl:X.env.scope.names.lookup n=some .local) (hs:∀v E,UA (X.suite v E) (b₀::suite) ts) (hr:PH X rest tr) (hdb:(x==("__debug__":Str))=false:=by decide):PH X (.ExceptHandler (some (.Name x p)) (some n) (b₀::suite) pos::rest) (Xl X.K Cl j ts tr):=by
 intro pins s σ H D a C dx T I ha hT h
 obtain⟨f,bm,em,h⟩:=h
 obtain⟨bm',em',hB⟩:=hD
 refine wpAny_handleBy_cons (codeAny_handlers_test ?_) (by intro q;cases q)
 refine wpAny_mono (XC (X:=X.suite (.ref a) _) (v:=.ref Cl) hg hm rfl hdb pins s σ H (λv H'=>v=.ref Cl/\H'=H) (I.suite _ _) ⟨rfl,rfl⟩) (λc s₁ q=>?_) (λ_ _ z=>z)
 obtain⟨v,H',I1,rv,rfl,rfl⟩:=q
 obtain rfl:c=Value.ref Cl:=rv
 have I2:qp X pins σ H' s₁:=I.unsuite I1
 obtain⟨nm,q,N,bs,hdct,sn,sub,ab,col,dd,k0,k1,k2,k3,k5,hC⟩:=em.obj
 obtain⟨nm',q',N',bs',hdct',sn',sub',ab',col',dd',k0',k1',k2',k3',k5',hC'⟩:=em'
 obtain⟨⟨fl,he,hz⟩,_,_⟩:=(show qE X.prog X.w H' s₁.heap a (Qz a C dx (.ref T)) from I2.hok a _ ha)
 obtain⟨st,_,_⟩:=(show qE X.prog X.w H' s₁.heap T (vY T .none) from I2.hok T _ hT)
 have gC:=I2.kIn _ _ hC
 have gD:=I2.kIn _ _ hC'
 obtain⟨hp,g,d,tk,os⟩:=s₁
 refine WH (bC:=Value.ref C::bm) (bD:=Value.ref Cl::bm') he rfl gC gD (λT Q k=>wpAny_isSubtype_exc gC k) (λT Q k=>wpAny_isSubtype_exc gD k) (by rw[List.contains_cons,hB,Bool.or_true]) ?_
 cases hb:(Value.ref C::bm).contains (.ref Cl) with
 | false=>
   rw[hb,if_neg Bool.false_ne_true]at h
   exact hr pins _ σ H' D a C dx T I2 ha hT h
 | true=>
   rw[hb,if_pos rfl]at h
   refine(show codeAny _ _ _ _ _ from codeAny_handlers_suite_as ?_)
   refine Q5 (fs:=ZG X.stack) he hz st λh' F st'=>?_
   have I3:qp X pins σ H' {heap:=h',gens:=g,drawn:=d,toks:=tk,os:=os}:=I2.flown (H':=H') F ⟨λb hb'=>by cases List.mem_singleton.mp hb';exact⟨_,hT⟩,λb o _ z=>z,λb _ z=>z⟩ (λb hb'=>by cases List.mem_singleton.mp hb';obtain⟨ts',z,_⟩:=st';exact⟨_,z⟩) λb o z hb'=>by
     rcases hb' with hb' | hb'
     . rw[z]at hb';cases hb'
     . cases List.mem_singleton.mp hb'
       rw[hT]at z
       cases z
       exact YG st'
   refine Zi I3 hN hj (.inl hl) (v:=.ref a) rfl (λs' I4=>?_) (.inr hl)
   refine wpAny_mono (hs (.ref a) _ pins s' _ H' (D.gone j) (I4.suite _ _) h) (λfl s3 q=>?_) (λ_ _ z=>z)
   cases fl with
   | next=>
     obtain⟨σ3,H3,I5,q⟩:=q
     exact Zf (I.unsuite I5) hN hj hl λs4 I6=>⟨_,_,I6,q⟩
   | brk=>
     obtain⟨σ3,H3,I5,q⟩:=q
     exact Zf (I.unsuite I5) hN hj hl λs4 I6=>⟨_,_,I6,q⟩
   | cont=>
     obtain⟨σ3,H3,I5,q⟩:=q
     exact Zf (I.unsuite I5) hN hj hl λs4 I6=>⟨_,_,I6,q⟩
   | ret u=>
     obtain⟨v,σ3,H3,I5,r,q⟩:=q
     exact Zf (I.unsuite I5) hN hj hl λs4 I6=>⟨v,_,_,I6,r,q⟩
def y4 (tb:(St->XK)->TS) (th:TH):TS:=λD σ H=>∃R:Addr->Addr->Hp->Prop,tb (λσ' c d Hx=>σ'=σ/\∃C dx,c=.ref C/\d=some dx/\R C dx Hx) D σ H/\
 ∀(a C dx T:Addr) (Hx H':Hp),R C dx Hx->Hx a=some (QY a C dx)->(∀b o,b≠a->Hx b=some o->H' b=some o)->H' a=some (Qz a C dx (.ref T))->th C a dx D σ H'
theorem UF {X:Cx} {body:List Stmt} {h0:ExceptHandler} {hs:List ExceptHandler} {tb:(St->XK)->TS} {th:TH} {pos:Pos} (hst:X.stack=X.env::X.outer) (hfm:X.env.frame=some X.env.locals)
   (hb:∀(pn:List (Addr×Obj)) (W:Value->Shared->Prop) (E:St->XK),Jn (yB X.prog X.w) (X.tried pn W) E->UA (X.tried pn W) body (tb E)) (hh:PH X (h0::hs) th):PS X (.Try body (h0::hs) [] [] pos) (y4 tb th):=by
 intro pins s σ H D I h
 obtain⟨R,hbd,hx⟩:=h
 refine wpAny_Try_except ?_
 refine wpAny_mono (hb (X.pn++pins) (λe s₁=>wpAny (model X.prog X.w) X.A (noteFrame e X.env) (λ_ s₂=>wpAny (model X.prog X.w) X.A (setFlight e none) (λ_ s₃=>wpAny (model X.prog X.w) X.A (handleBy e X.env (h0::hs)) (SP X pins D) X.xe s₃) X.xe s₂) X.xe s₁) _ ?_ [] s σ H D (I.tried _) hbd) (λf s1 q=>?_) (λ_ _ z=>z)
 . intro pins' σ' H1 s1 e s' I1 hc
   obtain⟨a,C,dx,T,Hx,H2,rfl,os,bare,un,hok,ha,ht,hxT,hxa,hxs,rfl,C',dx',eC,eD,hR⟩:=hc
   cases eC
   cases eD
   have I2:qp X pins σ' H2 s':=I.untried (I1.call' os un hok bare λb z=>absurd z (by simp))
   obtain⟨⟨fl,he,hz⟩,_,_⟩:=(show qE X.prog X.w H2 s'.heap a (Qz a C dx (.ref T)) from I2.hok a _ ha)
   obtain⟨st0,_,_⟩:=(show qE X.prog X.w H2 s'.heap T (vY T .none) from I2.hok T _ ht)
   have nT0:T≠a:=λz=>by
     obtain⟨ts,q,_⟩:=st0
     rw[z,he]at q
     cases q
   have fr:=I2.ok.frames
   have ff:=I2.stack
   rw[hst]at fr ff
   refine vt fr ff hfm he hz st0 nT0 λh1 T' hT F tT q1 q2=>?_
   have lt:=(Array.getElem?_eq_some_iff.mp hz).1
   have g1:(fl.setIfInBounds 1 (Value.ref T'))[1]?=some (.ref T'):=by simp [lt]
   have nT:T'≠a:=λz=>by
     obtain⟨ts,q,_⟩:=q2
     rw[z,q1]at q
     cases q
   refine Q5 (fs:=ZG X.stack) q1 g1 q2 λh2 F2 stt=>?_
   have anf:∀b o,H2 b=some o->b∉ZG X.stack:=λb o q z=>by
     have:=I2.stkFree b z
     rw[q]at this
     cases this
   have hTn:H2 T'=none:=I2.hok.fresh hT
   have nTT:T'≠T:=(qu ht hTn).symm
   have q3:=F2.keep a _ (anf a _ ha) (by simp [Ne.symm nT]) q1
   obtain⟨oT,hoT⟩:=tT
   have q4:=F2.keep T _ (anf T _ ht) (by simp [Ne.symm nTT]) hoT
   rw[<-hst]at F
   have I3:=I2.flown (H':=upd (upd (upd H2 a (Qz a C dx (.ref T'))) T (.ext λh=>∃o,h.get? T=some o)) T' (vY T' .none)) (WT.then F F2 hT) ⟨λb hb=>by
       simp only[List.mem_cons,List.not_mem_nil,or_false]at hb
       rcases hb with rfl | rfl
       . exact⟨_,ha⟩
       . exact⟨_,ht⟩,λb o hb q=>by
       simp only[List.mem_cons,List.not_mem_nil,or_false,not_or]at hb
       rw[qg (qu q hTn),qg hb.2,qg hb.1];exact q,λb hb q=>by
       rw[qg (Nat.ne_of_lt (Nat.lt_of_lt_of_le hb hT)),qg (λz=>by rw[z,ht]at q;cases q),qg (λz=>by rw[z,ha]at q;cases q)];exact q⟩ (λb hb=>by
       simp only[List.mem_cons,List.not_mem_nil,or_false]at hb
       rcases hb with rfl | rfl
       . exact⟨_,q3⟩
       . exact⟨_,q4⟩) λb o q hb=>by
     by_cases e1:b=T'
     . subst e1
       rw[qd]at q
       cases q
       exact YG stt
     . rw[qg e1]at q
       by_cases e2:b=T
       . subst e2
         rw[qd]at q
         cases q
         exact⟨⟨_,q4⟩,⟨_,q4⟩,λh1 h2 ⟨u,z⟩ k=>⟨u,k u z⟩⟩
       . rw[qg e2]at q
         by_cases e3:b=a
         . subst e3
           rw[qd]at q
           cases q
           exact zD ⟨_,q3,g1⟩
         . rw[qg e3]at q
           rcases hb with hb | hb
           . rw[q]at hb;cases hb
           . simp only[List.mem_cons,List.not_mem_nil,or_false]at hb
             exact(hb.elim e3 e2).elim
   have ea:upd (upd (upd H2 a (Qz a C dx (.ref T'))) T (.ext λh=>∃o,h.get? T=some o)) T' (vY T' .none) a=some (Qz a C dx (.ref T')):=by rw[qg (Ne.symm nT),qg (Ne.symm nT0),qd]
   refine hh pins _ σ' _ D a C dx T' I3 ea qd (hx a C dx T' Hx _ hR hxa (λb o nb q=>?_) ea)
   have n1:b≠T:=λz=>by rw[z,hxT]at q;cases q
   have q':=hxs b o nb q
   rw[qg (qu q' hTn),qg n1,qg nb]
   exact q'
 . cases f with
   | next=>
     obtain⟨σ',H',I',q⟩:=q
     exact wpAny_execs_nil ⟨σ',H',I.untried I',q⟩
   | brk=>
     obtain⟨σ',H',I',q⟩:=q
     exact⟨σ',H',I.untried I',q⟩
   | cont=>
     obtain⟨σ',H',I',q⟩:=q
     exact⟨σ',H',I.untried I',q⟩
   | ret u=>
     obtain⟨v,σ',H',I',r,q⟩:=q
     exact⟨v,σ',H',I.untried I',r,q⟩
@[irreducible] def JH (X:Cx) (hs:List ExceptHandler) (t:TH):Prop:=PH X hs t
theorem JH.of {X:Cx} {hs:List ExceptHandler} {t:TH} (h:PH X hs t):JH X hs t:=by unfold JH;exact h
theorem JH.to {X:Cx} {hs:List ExceptHandler} {t:TH} (h:JH X hs t):PH X hs t:=by unfold JH at h;exact h
theorem V0 {X:Cx} {hs:List ExceptHandler}:JH X hs Ui:=.of Wr
theorem vA {X:Cx} {x n:Str} {p pos:Pos} {j:Nat} {b₀:Stmt} {suite:List Stmt} {rest:List ExceptHandler} {ts:TS} {tr:TH} {Cl:Addr} (hg:Gl X x) (hm:X.mg x=some (.ref Cl)) (hD:WP X.K Cl) (hN:X.N.Nodup) (hj:X.N[j]?=some n)
   (hl:X.env.scope.names.lookup n=some .local) (hs:∀v E,zM (X.suite v E) (b₀::suite) ts) (hr:JH X rest tr) (hdb:(x==("__debug__":Str))=false:=by decide):JH X (.ExceptHandler (some (.Name x p)) (some n) (b₀::suite) pos::rest) (Xl X.K Cl j ts tr):=
 .of (Y4 hg hm hD.c hN hj hl (λv E=>(hs v E).to) hr.to hdb)
theorem ym {X:Cx} {body:List Stmt} {h0:ExceptHandler} {hs:List ExceptHandler} {tb:(St->XK)->TS} {th:TH} {pos:Pos} (hst:X.stack=X.env::X.outer) (hfm:X.env.frame=some X.env.locals)
   (hb:∀(pn:List (Addr×Obj)) (W:Value->Shared->Prop) (E:St->XK),Jn (yB X.prog X.w) (X.tried pn W) E->zM (X.tried pn W) body (tb E)) (hh:JH X (h0::hs) th):JS X (.Try body (h0::hs) [] [] pos) (y4 tb th):=
 .of (UF hst hfm (λpn W E h=>(hb pn W E h).to) hh.to)
def vW (K:PySem.W.Frag) (bm:List Value) (ta:TE) (f:Str):TE:=λσ H Q=>ta σ H λx H1=>∃a C dx hd fs v,x=.ref a/\H1 a=some (Qz a C dx hd)/\H1 dx=some (.xd fs)/\J0 K C bm/\jO K C f/\fs.lookup f=some v/\Q v H1
def YS (K:PySem.W.Frag) (bm:List Value):List V->Hp->VK->Prop:=λxs H Q=>∃a C dx hd fs c b,xs=[.ref a,c]/\ko c=true/\H a=some (Qz a C dx hd)/\H dx=some (.xd fs)/\J0 K C bm/\PySem.W.kitOne K (.ref C) (vM c)=some b/\Q (.bl b) H
section
variable {X:Cx} {f:Str} {e:Expr} {pos:Pos} {ta:TE} {bm:List Value}
theorem vD (he:JE X e ta) (hb:attributeBase e f X.env (eval e X.env)=eval e X.env):JE X (.Attribute e f pos) (vW X.K bm ta f):=.of (by
 have he:=he.to
 intro pins s σ H Q I h
 refine XS hb (qP (he pins s σ H _ I h) λu s1 z=>?_)
 obtain⟨x,H1,I1,rx,a,C,dx,hd,fs,v,ex,ea,ed,c,n,l,q⟩:=z
 subst ex
 obtain rfl:u=Value.ref a:=rx
 exact WF I1 ea ed c n l λu' s2 I2 ru=>⟨v,H1,I2,ru,q⟩)
theorem JV (hn:PySem.W.specialIn X.K (.builtin "object.__class__") "__get__"=some (some (.builtin "getset_descriptor.__get__"))) (htk:PySem.W.takesIn X.K (.builtin "object.__class__")=some true):jU X (.builtin "isinstance") (YS X.K bm):=by
 intro pins s σ H xs us Q I r h
 obtain⟨a,C,dx,hd,fs,c,b,rfl,hc,ha,hdx,ec,ek,q⟩:=h
 obtain⟨u,w',rfl,ru,rw'⟩:=WW r
 have ew:w'=vM c:=by
   cases c with
   | ty n=>exact rw'
   | ref z=>exact rw'
   | _=>cases hc
 subst ew
 cases ru
 exact Uc I ha hdx ec hn htk ek λtk=>⟨.bl b,H,I.tok tk,rfl,q⟩
end
end L2
set_option Elab.async false
set_option linter.all false
set_option maxRecDepth 100000
set_option maxHeartbeats 4000000
namespace PySem
open PySem.Spec
namespace F
end F
section
variable {prog:Program} {w:World} {A:Around} {R:Result->Shared->Prop} {I:Addr} {fp wr:List Addr} {n:Nat} {P:Nat->Value->Prop} {St:Nat->Heap->Prop} {κ:Type} [DecidableEq κ] {knd:KeyKind prog w κ}
end
section
variable {prog:Program} {w:World} {A:Around} {E:Value->Shared->Prop} {s:Shared} {κ:Type} [DecidableEq κ] {knd:KeyKind prog w κ}
end
end PySem
namespace L2
open PySem PySem.Spec PyProof.Rows
section
variable {X:Cx} {pins:List (Addr×Obj)} {σ:St} {H:Hp} {s:Shared}
end
end L2
set_option Elab.async false
set_option linter.all false
set_option maxRecDepth 100000
set_option maxHeartbeats 4000000
namespace L2
open PySem PySem.Spec PyProof.Rows
section
variable {P:Program} {w:World} {K:PySem.W.Frag} {mg:Str->Option Value} {base:Heap}
theorem Qb.okX {CX:zK} {x qual:Str} {st:Stmt} {f:Addr} {fd:FuncData} {N ps:List Str} {k:Nat} {sp:Sp} (F:Qb K x qual st f fd) (S:qx N ps (qo st)) (len:∀vs H Q E,sp vs H Q E->vs.length=ps.length)
   (hbody:∀(cdv:Value) (A:Around) (outer:List Env) (s:Shared) (H:Hp) (vs:List V) (Q:VK) (E:XK),qU k (A.deeper (envOfC qual (qo st) s.heap.objs.size f cdv))->sp vs H Q E->
     ∃t,zM (ZJ CX P w K mg base N qual (qo st) f cdv A outer s H E) (jJ st) t/\t {nx:=λ_ H'=>Q .non H',rt:=Q} (Q1 N vs) H):FnOk P w K mg base CX (k+1) f fd ps sp:=by
 obtain⟨oc,od,kV,doc,pm,an,cdv,ct,osl,rfl,lk,hcd⟩:=F.ex
 refine kr lk hcd S len λA outer s H vs Q E hr hsp=>?_
 obtain⟨t,h,q⟩:=hbody cdv A outer s H vs Q E hr hsp
 exact⟨t,h.to,q⟩
end
mutual
theorem DV.noDict {K:PySem.W.Frag} {H:Hp}:∀{x:V} {d:PyData},DV K H x d->d.hasDict=false
 | _,_,.non=>rfl
 | _,_,.bl b=>rfl
 | _,_,.int i=>rfl
 | _,_,.str x=>rfl
 | _,_,.lst h hs=>DVs.noDict hs
 | _,_,.tup h hs=>DVs.noDict hs
theorem DVs.noDict {K:PySem.W.Frag} {H:Hp}:∀{xs:List V} {ds:List PyData},DVs K H xs ds->PyData.hasDictAll ds=false
 | _,_,.nil=>rfl
 | _,_,.cons h hs=>by rw[PyData.hasDictAll,DV.noDict h,DVs.noDict hs];rfl
end
def vV (t:TA):TE:=λσ H Q=>t σ H λxs H1=>xs.length<=sizeLine/\∀p,H1 p=none->p≠sysModules->Q (.ref p) (upd H1 p (.lst xs))
section
variable {X:Cx} {es:List Expr} {t:TA} {pos:Pos}
theorem XF (h:JA X es t):JE X (.List es pos) (vV t):=.of (by
 have h:=h.to
 intro pins s σ H Q I hq
 refine wpAny_List_spliced (qP (h pos pins s σ H _ I hq) λus s1 ⟨xs,H1,I1,r,z,q⟩=>⟨by rw[<-r.length];exact z,?_⟩)
 have hf:H1 s1.heap.objs.size=none:=I1.hok.fresh (Nat.le_refl _)
 refine⟨.ref s1.heap.objs.size,upd H1 s1.heap.objs.size (.lst xs),I1.laid (t':=s1.toks) (λb u e=>Heap.get?_push_of_some _ e) (Nat.le_refl _) ?_,rfl,q _ hf (Ne.symm (Nat.ne_of_lt I1.big))⟩
 exact⟨z,us,0,r,Heap.get?_push_size _ rfl⟩)
end
def DX (K:PySem.W.Frag) (H:Hp) (v:V) (d:PyData):Prop:=DV K H v d\/∃a,v=.ref a/\H a=some (.dK [])/\d=.dict []
def kP (K:PySem.W.Frag):List V->Hp->VK->Prop:=λxs H Q=>∃l v d b c,xs=[.ref l]/\l≠sysModules/\H l=some (.lst [v,.bl b,.bl c])/\DX K H v d/\d.showable=true/\d.depth<=50/\(PyData.list [d,.bool b,.bool c]).shown.length<=sizeLine/\Q (.str (PyData.list [d,.bool b,.bool c]).shown) H
theorem ZL {X:Cx} (hg:X.A.guards=some []) (hu:X.A.units+64 < cLine):jU X (.builtin "repr") (kP X.K):=by
 intro pins s σ H xs us Q I r h
 obtain⟨l,v,d,b,c,rfl,nsl,hl,hd,h1,h3,h4,q⟩:=h
 obtain⟨u,rfl,ru⟩:=Qc r
 cases ru
 have sh:(PyData.list [d,.bool b,.bool c]).showable=true:=by
   show (d.showable&&(true&&(true&&true)))=true
   rw[h1]
   rfl
 have dp:(PyData.list [d,.bool b,.bool c]).depth<=60:=by
   simp only[PyData.depth,PyData.depthAll]
   omega
 rcases hd with hd | ⟨a,rfl,ha,rfl⟩
 . have hd':DV X.K H (.ref l) (.list [d,.bool b,.bool c]):=.lst (.of hl) (.cons hd (.cons (.bl b) (.cons (.bl c) .nil)))
   obtain⟨as,ra⟩:=hd'.reads I (u:=.ref l) rfl
   exact repr_of_reads' ra sh (λz=>by rw[hd'.noDict]at z;cases z) hg (by omega) (λ_ _ e=>e) (λh' t tk k=>⟨.str _,H,I.kept (t':=tk) k,⟨t,rfl⟩,q⟩) h4
 . obtain⟨_,its,n,rv,e⟩:=(show qE X.prog X.w H s.heap l (.lst [.ref a,.bl b,.bl c]) from I.hok l _ hl)
   obtain⟨_,hna,vs,kv,dd⟩:=(show qE X.prog X.w H s.heap a (.dK []) from I.hok a _ ha)
   cases kv
   obtain⟨o,es,ep,ho,hc,hdat,hk,hp,hn⟩:=dd
   have e0:es=#[]:=by
     have e1:=hp.length
     have e2:es.toList.length=es.size:=by simp
     exact Array.eq_empty_of_size_eq_zero (by rw[<-e2,e1];rfl)
   subst e0
   cases rv with
   | cons r1 rv=>
     cases rv with
     | cons r2 rv=>
       cases rv with
       | cons r3 rv=>
         cases rv
         obtain rfl:=r1
         obtain rfl:=r2
         obtain rfl:=r3
         have ra:Reads s.heap (.ref l) (.list [.dict [],.bool b,.bool c]) _:=.list e rfl rfl (.cons (.dict ho hc.1 hdat .nil .nil) (.cons (.bool b) (.cons (.bool c) .nil)))
         have n1:sysModules≠l:=Ne.symm nsl
         have n2:sysModules≠a:=λz=>by rw[<-z]at hna;exact absurd hna (by simp)
         exact repr_of_reads' ra sh (λ_=>by simp [n1,n2]) hg (by omega) (λ_ _ e=>e) (λh' t tk k=>⟨.str _,H,I.kept (t':=tk) k,⟨t,rfl⟩,q⟩) h4
end L2
set_option Elab.async false
set_option linter.all false
set_option maxRecDepth 100000
set_option maxHeartbeats 4000000
namespace L2
open PySem PySem.Spec PyProof.Rows
section
variable {X:Cx}
end
end L2
namespace L2
open PySem PySem.Spec PyProof.Rows
end L2
set_option Elab.async false
set_option linter.all false
set_option maxRecDepth 100000
set_option maxHeartbeats 4000000
namespace L2
open PySem PySem.Spec PySem.W PyProof.Rows
section
variable {α β:Type} {lt:Nat->Nat->Bool} {n:Nat}
def evT (lt:Nat->Nat->Bool):KasT α->α
 | .ret a=>a
 | .ask i j k=>evT lt (k (lt i j))
end
def ltS (zs:List Str) (i j:Nat):Bool:=decide ((zs.getD i "").cps.toList < (zs.getD j "").cps.toList)
def srt (zs:List Str):List Nat:=if zs.length < 2 then List.range zs.length else (evT (ltS zs) (kas_sort zs.length)).toList
section
variable {P:Program} {w:World} {B:Around} {F:Value->Shared->Prop} {z:Shared}
end
section
variable {X:Cx} {o:Expr} {td:TE} {p1 p2 pos1 pos2 ap cp:Pos}
end
section
variable {X:Cx}
end
end L2
set_option Elab.async false
set_option linter.all false
set_option maxRecDepth 100000
set_option maxHeartbeats 4000000
namespace L2
open PySem PySem.Spec PySem.W PyProof.Rows
section
variable {X:Cx}
end
end L2
set_option Elab.async false
set_option linter.all false
set_option maxRecDepth 100000
set_option maxHeartbeats 4000000
namespace L2
open PySem PySem.Spec PySem.W PyProof.Rows
section
variable {P:Program} {w:World} {B:Around} {F:Value->Shared->Prop} {z:Shared}
end
section
variable {X:Cx}
end
end L2
set_option Elab.async false
set_option linter.all false
set_option maxRecDepth 100000
set_option maxHeartbeats 4000000
namespace L2
open PySem PySem.Spec PySem.W PyProof.Rows
section
variable {prog:Program} {w:World} {A:Around} {R:Result->Shared->Prop} {I:Addr} {fp wr:List Addr} {G:Array GenState->Array GenState->Prop} {n:Nat} {P:Nat->Value->Prop} {St:Nat->Shared->Prop}
end
section
variable {prog:Program} {w:World} {A:Around} {E:Value->Shared->Prop} {s:Shared}
end
section
variable {X:Cx} {e:Expr} {te:TE} {p1 p2 pos1 pos2:Pos}
end
end L2
set_option Elab.async false
set_option linter.all false
set_option maxRecDepth 100000
set_option maxHeartbeats 4000000
namespace L2
open PySem PyProof.Rows
end L2
set_option Elab.async false
set_option linter.all false
set_option maxRecDepth 100000
set_option maxHeartbeats 4000000
namespace L2
open PySem PyProof.Rows
section
variable {prog:Program} {w:World} {KK:Type} [DecidableEq KK] {kd:HeapKind prog w KK} {A:Around} {E:Value->Shared->Prop} {s:Shared}
end
section
variable {X:Cx} {pins:List (Addr×Obj)} {σ:St} {H:Hp} {s:Shared} {a b:Addr} {v:V} {r:Value} {A:Around} {E:Value->Shared->Prop}
end
section
variable {X:Cx} {o e f:Expr} {apos cpos:Pos} {td ty tx:TE}
end
end L2
set_option Elab.async false
set_option linter.all false
set_option maxRecDepth 100000
set_option maxHeartbeats 4000000
namespace L2
open PySem PyProof.Rows
section
variable {X:Cx}
end
end L2
set_option Elab.async false
set_option linter.all false
set_option maxRecDepth 100000
set_option maxHeartbeats 4000000
namespace L2
open PySem PySem.Spec PyProof.Rows
section
variable {X:Cx} {pins:List (Addr×Obj)} {σ:St} {H:Hp} {s:Shared} {tg:Expr}
end
section
variable {a:Addr} {o:Obj} {kvs:List (qO×V)} {zs:List Str} {g:TG} {σ:St} {H:Hp}
end
end L2
set_option Elab.async false
set_option linter.all false
set_option maxRecDepth 100000
set_option maxHeartbeats 4000000
namespace L2
open PySem PySem.Spec PyProof.Rows
section
variable {X:Cx} {pins pins0:List (Addr×Obj)} {σ σ0:St} {H H0:Hp} {s s0:Shared}
end
section
variable {X:Cx}
end
end L2
namespace L2
open PySem PyProof.Rows
end L2
set_option Elab.async false
set_option linter.all false
set_option maxRecDepth 100000
set_option maxHeartbeats 4000000
namespace HT
open PySem PySem.Spec PyProof.Rows
section
variable {prog:Program} {w:World} {A:Around} {E:Value->Shared->Prop} {s:Shared}
end
end HT
namespace L2
open PySem PySem.Spec PyProof.Rows
section
variable {X:Cx}
end
end L2
namespace L2
open PySem PyProof.Rows
end L2
set_option Elab.async false
set_option linter.all false
set_option maxRecDepth 100000
set_option maxHeartbeats 4000000
namespace L2
open PySem PySem.Spec PyProof.Rows
section
variable {X:Cx} {CX:zK} {C:Addr->Sp->Prop} {E:St->XK} {x:Str} {p pos:Pos} {e:Expr} {es:List Expr} {t:TA} {i:Nat}
end
end L2
set_option Elab.async false
set_option linter.all false
set_option maxRecDepth 100000
set_option maxHeartbeats 4000000
namespace L2
open PySem PySem.Spec PyProof.Rows
section
variable {M:Model} {A:Around} {F:Value->Shared->Prop} {s:Shared} {e:Addr} {cl:Value} {d:Option Addr} {vs:Array Value} {Q:Unit->Shared->Prop}
end
section
variable {X:Cx} {pins:List (Addr×Obj)} {σ:St} {H:Hp} {s:Shared} {M:Model} {F:Value->Shared->Prop} {Q:Unit->Shared->Prop} {a C dx:Addr}
end
section
variable {P:Program} {w:World} {K:PySem.W.Frag} {mg:Str->Option Value} {base:Heap} {N:List Str} {qual:Str} {scope:Scope} {f:Addr} {cd:Value} {A:Around} {outer:List Env} {s₀:Shared} {H₀:Hp} {E:XK}
end
end L2
set_option Elab.async false
set_option linter.all false
set_option maxRecDepth 100000
set_option maxHeartbeats 4000000
namespace L2
open PySem PySem.Spec PyProof.Rows
section
variable {X:Cx}
end
end L2
set_option Elab.async false
set_option linter.all false
set_option maxRecDepth 100000
set_option maxHeartbeats 4000000
namespace L2
open PySem PySem.Spec PyProof.Rows
def Qi:Nat->List (Str×NameKind)->List (Str×Addr)->List (Str×Addr)
 | _,[],cs=>cs
 | n,(x,k)::r,cs=>if k==.cell then Qi (n+1) r ((x,n)::cs) else Qi n r cs
def Ur:Obj:={cls:=.type "cell",data:=.cell none}
structure WQ (n:Nat) (l:List (Str×NameKind)) (cs cs':List (Str×Addr)) (h h':Heap):Prop where
 kp:∀b o,h.get? b=some o->h'.get? b=some o
 same:∀x,(x,NameKind.cell)∉l->cs'.lookup x=cs.lookup x
 own:∀x,(x,NameKind.cell)∈l->∃c,cs'.lookup x=some c/\n<=c/\h'.get? c=some Ur
 inj:∀x y c,(x,NameKind.cell)∈l->(y,NameKind.cell)∈l->cs'.lookup x=some c->cs'.lookup y=some c->x=y
theorem Zg {M:Model} {A:Around} {E:Value->Shared->Prop}:∀(l:List (Str×NameKind)) (cs:List (Str×Addr)) (s:Shared) (Q:List (Str×Addr)->Shared->Prop),
   (∀h',WQ s.heap.objs.size l cs (Qi s.heap.objs.size l cs) s.heap h'->Q (Qi s.heap.objs.size l cs) {s with heap:=h'})->
   wpAny M A (forIn l cs λx (r:List (Str×Addr))=>if (x.snd==NameKind.cell)=true then (do let a <-alloc {cls:=.type "cell",data:=.cell none};pure (ForInStep.yield ((x.fst,a)::r)):Sem (ForInStep (List (Str×Addr)))) else pure (ForInStep.yield r)) Q E s
 | [],cs,s,Q,k=>by
   rw[List.forIn_nil]
   exact wpAny_pure (k s.heap ⟨λ_ _ e=>e,λ_ _=>rfl,(λ_ h=>nomatch h),(λ_ _ _ h=>nomatch h)⟩)
 | (x,k)::l,cs,s,Q,q=>by
   rw[List.forIn_cons]
   by_cases hk:k=.cell
   . subst hk
     have cb:(NameKind.cell==NameKind.cell)=true:=rfl
     have eo:Qi s.heap.objs.size ((x,NameKind.cell)::l) cs=Qi (s.heap.objs.size+1) l ((x,s.heap.objs.size)::cs):=by
       show (if (NameKind.cell==NameKind.cell)=true then _ else _)=_
       rw[if_pos cb]
     rw[eo]at q
     dsimp only
     rw[if_pos cb]
     refine wpAny_bind (wpAny_bind (wpAny_alloc (wpAny_pure ?_)))
     refine Zg l _ _ Q λh' o=>?_
     have sz:(s.heap.push {cls:=.type "cell",data:=.cell none}).objs.size=s.heap.objs.size+1:=Heap.size_push ..
     dsimp only at o ⊢
     rw[sz]at o ⊢
     refine q h' ⟨λb u e=>o.kp b u (Heap.get?_push_of_some _ e),λy hy=>?_,λy hy=>?_,λy z c hy hz e1 e2=>?_⟩
     . have n1:(y,NameKind.cell)∉l:=λz=>hy (List.mem_cons_of_mem _ z)
       have n2:y≠x:=λz=>hy (by rw[z];exact List.mem_cons_self)
       rw[o.same y n1,List.lookup_cons]
       have:(y==x)=false:=beq_eq_false_iff_ne.mpr n2
       simp only[this]
     . by_cases m:(y,NameKind.cell)∈l
       . obtain⟨c,e1,e2,e3⟩:=o.own y m
         exact⟨c,e1,by omega,e3⟩
       . have e:y=x:=by
           rcases List.mem_cons.mp hy with z | z
           . exact(Prod.mk.inj z).1
           . exact absurd z m
         subst e
         refine⟨s.heap.objs.size,?_,Nat.le_refl _,o.kp _ _ (Heap.get?_push_size _ rfl)⟩
         rw[o.same y m,List.lookup_cons]
         simp only[beq_self_eq_true]
     . have at_x:∀{u:Str},(u,NameKind.cell)∈(x,NameKind.cell)::l->(u,NameKind.cell)∉l->u=x:=λ{u} h n=>by
         rcases List.mem_cons.mp h with z | z
         . exact(Prod.mk.inj z).1
         . exact absurd z n
       have val_x:∀{u:Str},(u,NameKind.cell)∉l->u=x->∀{c},(Qi (s.heap.objs.size+1) l ((x,s.heap.objs.size)::cs)).lookup u=some c->c=s.heap.objs.size:=λ{u} n e {c} h=>by
         rw[o.same u n,e,List.lookup_cons]at h
         simp only[beq_self_eq_true]at h
         exact(Option.some.inj h).symm
       by_cases m1:(y,NameKind.cell)∈l
       . by_cases m2:(z,NameKind.cell)∈l
         . exact o.inj y z c m1 m2 e1 e2
         . exfalso
           obtain⟨c',a1,a2,_⟩:=o.own y m1
           rw[e1]at a1
           rw[<-Option.some.inj a1,val_x m2 (at_x hz m2) e2]at a2
           exact absurd a2 (Nat.not_succ_le_self _)
       . by_cases m2:(z,NameKind.cell)∈l
         . exfalso
           obtain⟨c',a1,a2,_⟩:=o.own z m2
           rw[e2]at a1
           rw[<-Option.some.inj a1,val_x m1 (at_x hy m1) e1]at a2
           exact absurd a2 (Nat.not_succ_le_self _)
         . rw[at_x hy m1,at_x hz m2]
   . have cb:(k==NameKind.cell)=false:=by simpa using hk
     have eo:Qi s.heap.objs.size ((x,k)::l) cs=Qi s.heap.objs.size l cs:=by
       show (if (k==NameKind.cell)=true then _ else _)=_
       rw[cb,if_neg (by decide)]
     rw[eo]at q
     dsimp only
     rw[cb,if_neg (by decide)]
     refine wpAny_bind (wpAny_pure ?_)
     refine Zg l _ _ Q λh' o=>q h' ?_
     have nx:∀{y:Str},(y,NameKind.cell)∈(x,k)::l->(y,NameKind.cell)∈l:=λ{y} h=>by
       rcases List.mem_cons.mp h with z | z
       . exact absurd (Prod.mk.inj z).2.symm hk
       . exact z
     exact⟨o.kp,λy hy=>o.same y λz=>hy (List.mem_cons_of_mem _ z),λy hy=>o.own y (nx hy),λy z c h1 h2=>o.inj y z c (nx h1) (nx h2)⟩
theorem Yx {M:Model} {A:Around} {E:Value->Shared->Prop} {s:Shared} {scope:Scope} {g:Addr} {cs:List (Str×Addr)} {q:Str} {env:Env} {Q:Env->Shared->Prop}
   (k:∀h',WQ (s.heap.objs.size+1) scope.names cs (Qi (s.heap.objs.size+1) scope.names cs) (s.heap.push {cls:=.type "dict",data:=.dict #[]}) h'->
     Q {scope:=scope,locals:=s.heap.objs.size,globals:=g,cells:=Qi (s.heap.objs.size+1) scope.names cs,qual:=q,func:=none,code:=env.code,frame:=env.frame,builtins:=env.builtins} {s with heap:=h'}):
   wpAny M A (newFunctionEnv scope g cs [] q none .none (some env)) Q E s:=by
 unfold newFunctionEnv
 refine wpAny_bind (wpAny_alloc ?_)
 dsimp only
 have sz:(s.heap.push {cls:=.type "dict",data:=.dict #[]}).objs.size=s.heap.objs.size+1:=Heap.size_push ..
 refine wpAny_bind (Zg scope.names cs _ _ λh' o=>?_)
 dsimp only at o ⊢
 have o':WQ (s.heap.objs.size+1) scope.names cs (Qi (s.heap.objs.size+1) scope.names cs) (s.heap.push {cls:=.type "dict",data:=.dict #[]}) h':=by
   rw[<-sz];exact o
 rw[List.forIn_nil]
 refine wpAny_bind (wpAny_pure (wpAny_pure ?_))
 have:=k h' o'
 rw[<-sz]at this
 exact this
def zc (X:Cx) (N:List Str) (scope:Scope) (C:Addr) (s₂:Shared) (H₂:Hp) (fp:List Addr) (pins:List (Addr×Obj)):Cx where
 prog:=X.prog
 w:=X.w
 K:=X.K
 mg:=X.mg
 base:=X.base
 A:=X.A
 N:=N
 s₀:=s₂
 H₀:=H₂
 env:=compEnvC scope (Qi (C+1) scope.names (qJ X.env scope.names [])) C X.env
 outer:=X.stack
 stack:=X.stack
 ex:=fp
 fn:=λx=>scope.names.lookup x==some .cell
 calm:=X.calm
 pn:=X.pn++pins
 xe:=λ_ _=>False
structure jA (X:Cx) (N':List Str) (ix:List (Option Nat)) (scope:Scope):Prop where
 kind:scope.kind=.function
 nd:(scope.names.map (·.1)).Nodup
 frees:(scope.names.all λx=>x.2 != .free || (X.env.scope.names.lookup x.1==some .cell || X.env.scope.names.lookup x.1==some .free))=true
 ixs:Wx N' X.N scope X.env.scope ix=true
theorem J9 {x:Str} {k:NameKind}:∀{l:List (Str×NameKind)},(l.map (·.1)).Nodup->(x,k)∈l->l.lookup x=some k
 | [],_,h=>nomatch h
 | (n,j)::r,hn,h=>by
   rw[List.map_cons,List.nodup_cons]at hn
   rw[List.lookup_cons]
   rcases List.mem_cons.mp h with e | e
   . cases e
     simp only[beq_self_eq_true]
   . have:x≠n:=λz=>hn.1 (List.mem_map.mpr ⟨_,e,z⟩)
     have hb:(x==n)=false:=beq_eq_false_iff_ne.mpr this
     simp only[hb]
     exact J9 hn.2 e
section
variable {X:Cx} {N':List Str} {ix:List (Option Nat)} {scope:Scope} {pins:List (Addr×Obj)} {σ:St} {H:Hp} {s:Shared}
theorem jA.locH (S:jA X N' ix scope):∀y∈scope.names,y.2=.local->scope.names.lookup y.1=some .local:=λy hy e=>J9 S.nd (by rw[<-e];exact hy)
theorem jA.freeH (S:jA X N' ix scope) (ok:X.Ok):∀x∈scope.names,x.2=.free->∃c,X.env.cells.lookup x.1=some c:=λx hx e=>by
 have:=List.all_eq_true.mp S.frees x hx
 simp only[e,Bool.or_eq_true,bne_self_eq_false,Bool.false_eq_true,false_or,beq_iff_eq]at this
 exact ok.has x.1 this
theorem jA.clook (S:jA X N' ix scope) (ok:X.Ok) {x:Str} {c:Addr} (h:(qJ X.env scope.names []).lookup x=some c):X.env.cells.lookup x=some c/\(x,NameKind.free)∈scope.names:=by
 rcases QS h with h | ⟨h1,h2⟩
 . simp at h
 . obtain⟨c',hc'⟩:=S.freeH ok _ h1 rfl
   have hc2:X.env.cells.lookup x=some c':=hc'
   rw[hc2]at h2
   subst h2
   exact⟨hc2,h1⟩
theorem jA.notOwn (S:jA X N' ix scope) {x:Str} (h:(x,NameKind.free)∈scope.names):(x,NameKind.cell)∉scope.names:=λh2=>by
 have e1:=J9 S.nd h
 rw[J9 S.nd h2]at e1
 cases e1
theorem jA.either {C:Addr} {h0 h₁:Heap} (S:jA X N' ix scope) (I:qp X pins σ H s) (o:WQ (C+1) scope.names (qJ X.env scope.names []) (Qi (C+1) scope.names (qJ X.env scope.names [])) h0 h₁) {x:Str} {c:Addr}
   (h:(Qi (C+1) scope.names (qJ X.env scope.names [])).lookup x=some c):(X.env.cells.lookup x=some c/\(x,NameKind.free)∈scope.names/\c < s.heap.objs.size)\/((x,NameKind.cell)∈scope.names/\C+1<=c/\h₁.get? c=some Ur):=by
 by_cases m:(x,NameKind.cell)∈scope.names
 . obtain⟨c',e1,e2,e3⟩:=o.own x m
   rw[h]at e1
   cases e1
   exact .inr ⟨m,e2,e3⟩
 . rw[o.same x m]at h
   obtain⟨a,b⟩:=S.clook I.ok h
   obtain⟨v,q⟩:=I.cell x c a
   exact .inl ⟨a,b,q.lt⟩
theorem yu {C:Addr} {fp:List Addr} {h0 h₁:Heap} (S:jA X N' ix scope) (I:qp X pins σ H s) (hC:s.heap.objs.size<=C) (o:WQ (C+1) scope.names (qJ X.env scope.names []) (Qi (C+1) scope.names (qJ X.env scope.names [])) h0 h₁) (hf:∀b∈fp,Qp X pins H b) (hfo:∀b∈fp,b < s.heap.objs.size):(zc X N' scope C s H fp pins).Ok where
 mod:=I.ok.mod
 kind:=S.kind
 glob:=I.ok.glob
 blt:=I.ok.blt
 above:=hC
 inj:=λx y c h1 h2=>by
   rcases S.either I o h1 with ⟨a1,a2,a3⟩ | ⟨a1,a2,a3⟩
   . rcases S.either I o h2 with ⟨b1,b2,b3⟩ | ⟨b1,b2,b3⟩
     . exact I.ok.inj x y c a1 b1
     . exact absurd (Nat.lt_of_lt_of_le a3 (Nat.le_trans (Nat.le_succ_of_le hC) b2)) (Nat.lt_irrefl _)
   . rcases S.either I o h2 with ⟨b1,b2,b3⟩ | ⟨b1,b2,b3⟩
     . exact absurd (Nat.lt_of_lt_of_le b3 (Nat.le_trans (Nat.le_succ_of_le hC) a2)) (Nat.lt_irrefl _)
     . exact o.inj x y c a1 b1 h1 h2
 has:=λx hx=>by
   have hx':(relabel scope X.env).names.lookup x=some .cell\/(relabel scope X.env).names.lookup x=some .free:=hx
   show ∃c,(Qi (C+1) scope.names (qJ X.env scope.names [])).lookup x=some c
   have go:∀k,(k=NameKind.cell\/k=.free)->(relabel scope X.env).names.lookup x=some k->(x,NameKind.free)∈scope.names\/(x,NameKind.cell)∈scope.names:=λk hk h=>by
     obtain⟨j,h1,h2⟩:=Qj (f:=λ(n,k)=>if (k==NameKind.free&&X.env.scope.kind==.function&&X.env.kindOf n==some .cell) then (n,NameKind.cell) else (n,k)) (λp=>by dsimp only;split<;>rfl) h
     have hm:=mem_of_lookup h1
     by_cases hj:j=.free
     . subst hj;exact .inl hm
     . have hb:(j==NameKind.free)=false:=by simpa using hj
       dsimp only at h2
       rw[hb,Bool.false_and,Bool.false_and,if_neg (by decide)]at h2
       have h2':j=k:=h2
       rcases hk with e | e
       . rw[h2',e]at hm;exact .inr hm
       . exact absurd (h2'.trans e) hj
   have fin:(x,NameKind.free)∈scope.names\/(x,NameKind.cell)∈scope.names->∃c,(Qi (C+1) scope.names (qJ X.env scope.names [])).lookup x=some c:=λh=>by
     rcases h with h | h
     . rw[o.same x (S.notOwn h)]
       exact j8 (.inl h)
     . obtain⟨c,e,_⟩:=o.own x h
       exact⟨c,e⟩
   rcases hx' with h | h
   . exact fin (go _ (.inl rfl) h)
   . exact fin (go _ (.inr rfl) h)
 cab:=λx c h h2=>by
   have h':(scope.names.lookup x==some NameKind.cell)=true:=h
   have hm:=mem_of_lookup (beq_iff_eq.mp h')
   obtain⟨c',e1,e2,_⟩:=o.own x hm
   have h3:(Qi (C+1) scope.names (qJ X.env scope.names [])).lookup x=some c:=h2
   rw[e1]at h3
   cases h3
   exact Nat.le_trans (Nat.le_succ_of_le hC) e2
 hd:=I.ok.hd
 frames:=I.ok.frames
 stk:=.inl rfl
 exf:=λb hb=>⟨Nat.ne_of_lt (Nat.lt_of_lt_of_le (hfo b hb) hC),λx c h=>by
   rcases S.either I o h with ⟨a1,a2,a3⟩ | ⟨a1,a2,a3⟩
   . exact(hf b hb).2.2.2.2.1 x c a1
   . exact Nat.ne_of_gt (Nat.lt_of_lt_of_le (hfo b hb) (Nat.le_trans (Nat.le_succ_of_le hC) a2))⟩
 bs:=I.bs
 bsz:=Nat.le_trans I.ok.bsz I.sz
 noex:=λb o e hb=>by
   rcases(hf b hb).2.2.2.1 with h | h
   . exact I.ok.noex b o e h
   . exact absurd (Nat.lt_of_lt_of_le (Heap.lt_size e) (Nat.le_trans I.ok.bsz h)) (Nat.lt_irrefl _)
 exfs:=λb hb hm=>by
   rcases List.mem_cons.mp (I.stkSub b hm) with e | e
   . exact(hf b hb).2.1 e
   . exact(hf b hb).2.2.1 e
 funs:=I.stack
 frf:=I.stkFree
theorem YY {C D:Addr} {fp:List Addr} {h₁:Heap} {m:Str->Option Value} {t':Nat} {n₀:Nat} {h0:Heap} (S:jA X N' ix scope) (I:qp X pins σ H s) (ow:WQ (C+1) scope.names (qJ X.env scope.names []) (Qi (C+1) scope.names (qJ X.env scope.names [])) h0 h₁) (hf:∀b∈fp,Qp X pins H b) (hfo:∀b∈fp,b < s.heap.objs.size)
   (hD:s.heap.objs.size<=D) (hC:s.heap.objs.size<=C) (hDC:D < C) (kp:∀b o,s.heap.get? b=some o->h₁.get? b=some o) (hn:h₁.Ns C m) (hl:h₁.get? D=some {cls:=.type "list",data:=.seq #[] n₀}):
   qp (zc X N' scope C s H fp pins) [] (XZ ix σ) (upd H D (.lst [])) {s with heap:=h₁,toks:=t'} where
 ok:=yu S I hC ow hf hfo
 os:=rfl
 bare:=I.bare
 base:=Un.laid kp hD (I.hok.fresh hD)
 loc:=by
   refine⟨m,hn,λi x v e1 e2 e3=>?_⟩
   have hix:=S.ixs
   unfold Wx at hix
   rw[Bool.and_eq_true]at hix
   obtain⟨hlen,hall⟩:=hix
   have hlen':ix.length=N'.length:=by simpa using hlen
   have e1':N'[i]?=some x:=e1
   unfold XZ at e2
   rw[List.getElem?_map]at e2
   cases ho:ix[i]? with
   | none=>rw[ho]at e2;cases e2
   | some o=>
     rw[ho]at e2
     cases o with
     | none=>cases e2
     | some j=>
       have e2':(σ[j]?).join=some v:=Option.some.inj e2
       have hz:(ix.zip N')[i]?=some (some j,x):=by
         rw[List.getElem?_zip_eq_some]
         exact⟨ho,e1'⟩
       have hm:=List.all_eq_true.mp hall _ (List.mem_of_getElem? hz)
       dsimp only at hm
       simp only[Bool.and_eq_true,beq_iff_eq,Bool.or_eq_true]at hm
       obtain⟨⟨hN,hfr⟩,hk⟩:=hm
       have e2'':σ[j]?=some (some v):=by
         cases q:σ[j]? with
         | none=>rw[q]at e2';cases e2'
         | some z=>
           rw[q]at e2'
           have:z=some v:=e2'
           rw[this]
       obtain⟨mX,hnX,hlX⟩:=I.loc
       have hvis:yF X.env.scope x:=by
         rcases hk with h | h
         . exact .inr (.inl h)
         . exact .inr (.inr h)
       obtain⟨u,ru,lu⟩:=hlX j x v hN e2'' hvis
       refine⟨u,ru,?_⟩
       rcases lu with ⟨hk',_⟩ | ⟨_,c,hc,hcell⟩
       . exfalso
         have hk'':X.env.scope.names.lookup x=some .local:=hk'
         rcases hk with h | h<;>rw[h]at hk''<;>cases hk''
       . right
         obtain⟨k',r1,r2⟩:=Qt (scope:=scope) (env:=X.env) hfr
         refine⟨?_,?_⟩
         . rcases r2 with z | ⟨_,z⟩
           . right;rw[z]at r1;exact r1
           . left;rw[z]at r1;exact r1
         . obtain⟨c',hc'⟩:=j8 (env:=X.env) (cs:=[]) (.inl (mem_of_lookup hfr))
           have:=(S.clook I.ok hc').1
           rw[hc]at this
           cases this
           obtain⟨o,ho',hd⟩:=hcell
           exact⟨c,(ow.same x (S.notOwn (mem_of_lookup hfr))).trans hc',o,kp _ _ ho',hd⟩
 cell:=λx c h=>by
   rcases S.either I ow h with ⟨a1,a2,a3⟩ | ⟨a1,a2,a3⟩
   . obtain⟨v,o,ho,hd⟩:=I.cell x c a1
     exact⟨v,o,kp _ _ ho,hd⟩
   . exact⟨none,Ur,a3,rfl⟩
 free:=by
   show (upd H D _) C=none
   rw[qg (Nat.ne_of_gt hDC)]
   exact I.hok.fresh hC
 freeC:=λx c h=>by
   rcases S.either I ow h with ⟨h1,a2,a3⟩ | ⟨a1,a2,a3⟩
   . rw[qg (Nat.ne_of_lt (Nat.lt_of_lt_of_le a3 hD))]
     exact I.freeC x c h1
   . rw[qg (Nat.ne_of_gt (Nat.lt_of_lt_of_le hDC (Nat.le_trans (Nat.le_succ C) a2)))]
     exact I.hok.fresh (Nat.le_trans (Nat.le_succ_of_le hC) a2)
 pin:=λp hp=>by
   have hp':p∈X.pn++pins:=by
     have:p∈(X.pn++pins)++[]:=hp
     simpa using this
   obtain⟨e,n,ne,nf,d⟩:=I.pin p hp'
   have hlt:=Heap.lt_size e
   refine⟨kp _ _ e,?_,Nat.ne_of_lt (Nat.lt_of_lt_of_le hlt hC),λhm=>?_,d⟩
   . rw[qg (Nat.ne_of_lt (Nat.lt_of_lt_of_le hlt hD))];exact n
   . rcases List.mem_cons.mp (I.stkSub p.1 hm) with z | z
     . exact ne z
     . exact nf z
 hok:=I.hok.laid kp hD ⟨Nat.zero_le _,[],n₀,.nil,hl⟩
 len:=by
   have hix:=S.ixs
   unfold Wx at hix
   rw[Bool.and_eq_true]at hix
   have:ix.length=N'.length:=by simpa using hix.1
   show (XZ ix σ).length=N'.length
   unfold XZ
   rw[List.length_map,this]
theorem WC {C:Addr} {fp:List Addr} {σ':St} {H':Hp} {s':Shared} {pl:List (Addr×Obj)} (I:qp X pins σ H s) (hf:∀b∈fp,Qp X pins H b) (J:qp (zc X N' scope C s H fp pins) pl σ' H' s'):qp X pins σ H' s':=
 I.call' (ch:=fp) J.os J.base J.hok J.bare λb hb=>⟨(hf b hb).2.2.2.1,(hf b hb).2.1,(hf b hb).2.2.2.2.1,(hf b hb).2.2.2.2.2⟩
end
section
variable {X:Cx} {N':List Str} {ix:List (Option Nat)} {scope:Scope}
theorem Y8 {elt iter target:Expr} {ifs:List Expr} {pos:Pos} {g:TG} {tt:TT} {te:TE} {pins:List (Addr×Obj)} {σ:St} {H:Hp} {s:Shared} {it:Addr} {fp:List Addr} {tn:Nat->Heap->Prop} {J:It} {E:Value->Shared->Prop}
   {RR:Value->Addr->Result->Shared->Prop} {Q:Addr->Hp->Prop}
   (hc:X.calm=true) (S:jA X N' ix scope) (I:qp X pins σ H s) (T:Yt X.prog X.w X.K target J fp it tn) (st:tn 0 s.heap) (hf:∀b∈fp,Qp X pins H b)
   (hb:∀C s₂ H₂ fp pins,PG (zc X N' scope C s₂ H₂ fp pins) target g/\kx (zc X N' scope C s₂ H₂ fp pins) ifs tt/\PE (zc X N' scope C s₂ H₂ fp pins) elt te)
   (h:∀D,H D=none->ZQ J g tt te D (XZ ix σ) H (Q D))
   (fin:∀(D C:Addr) (H':Hp) (s':Shared) (m:Str->Option Value),s.heap.objs.size<=C->H' C=none->s'.heap.Ns C m->qp X pins σ H' s'->Q D H'->RR (.ref D) C (.ok .next) s'):
   wpAny (model X.prog X.w) X.A (newList []) (λacc s₃=>wpAny (model X.prog X.w) X.A (newFunctionEnv scope X.env.globals (qJ X.env scope.names []) [] X.env.qual none .none (some X.env)) (λcenv s₄=>
     codeAny (model X.prog X.w) X.A (.compStart (.ListComp elt [⟨target,iter,ifs,0⟩] scope pos) 0 (.ref it) acc {cenv with scope:=relabel scope X.env}) (RR acc cenv.locals) s₄) E s₃) E s:=by
 have hfo:∀b∈fp,b < s.heap.objs.size:=λb hb=>by
   obtain⟨o,e,_⟩:=T.obj _ _ st b hb
   exact Heap.lt_size e
 refine wpAny_newObj_type (Yx λh₁ ow=>?_)
 dsimp only at ow ⊢
 generalize hH2:s.heap.push {cls:=.type "list",dict:=none,data:=.seq ([]:List Value).toArray}=H2 at ow ⊢
 have hC:H2.objs.size=s.heap.objs.size+1:=by rw[<-hH2,Heap.size_push]
 have hDC:s.heap.objs.size < H2.objs.size:=by rw[hC];exact Nat.lt_succ_self _
 have hCle:s.heap.objs.size<=H2.objs.size:=by rw[hC];exact Nat.le_succ _
 have old:∀b o,s.heap.get? b=some o->h₁.get? b=some o:=λb o e=>ow.kp b o (Heap.get?_push_of_some _ (hH2▸Heap.get?_push_of_some _ e))
 have hacc:h₁.get? s.heap.objs.size=some {cls:=.type "list",data:=.seq #[] 0}:=ow.kp _ _ (Heap.get?_push_of_some _ (hH2▸Heap.get?_push_size _ rfl))
 have hns₁:h₁.Ns H2.objs.size (λ_=>none):=⟨_,#[],_,ow.kp _ _ (Heap.get?_push_size _ rfl),rfl,(λe he=>by simp at he),λ_=>rfl⟩
 obtain⟨W,⟨m0,w0⟩,turn⟩:=h s.heap.objs.size (I.hok.fresh (Nat.le_refl _))
 have I1:qp (zc X N' scope H2.objs.size s H fp pins) [] (XZ ix σ) (upd H s.heap.objs.size (.lst [])) {s with heap:=h₁}:=
   YY S I ow hf hfo (Nat.le_refl _) hCle hDC old hns₁ hacc
 have st₁:tn 0 h₁:=T.keep _ _ _ st λb hb o e=>old b o e
 have fpn:∀b∈fp,(upd H s.heap.objs.size (.lst [])) b=none:=λb hb=>by
   rw[qg (Nat.ne_of_lt (hfo b hb))]
   exact(hf b hb).1
 obtain⟨hg,htt,hte⟩:=hb H2.objs.size s H fp pins
 have okY:=I1.ok
 have stat:∀{H':Hp},(∀b∈fp,H' b=none)->∀b∈fp,Qp (zc X N' scope H2.objs.size s H fp pins) [] H' b:=λ{H'} hn b hb=>
   ⟨hn b hb,(okY.exf b hb).1,okY.exfs b hb,.inl hb,(okY.exf b hb).2,λp hp=>by
     have hp':p∈X.pn++pins:=by
       have:p∈(X.pn++pins)++[]:=hp
       simpa using this
     exact(hf b hb).2.2.2.2.2 p hp'⟩
 have loop:codeAny (model X.prog X.w) X.A (.compLoop (.ListComp elt [⟨target,iter,ifs,0⟩] scope pos) 0 (.ref it) (.ref s.heap.objs.size) (compEnvC scope (Qi (H2.objs.size+1) scope.names (qJ X.env scope.names [])) H2.objs.size X.env))
     (RR (.ref s.heap.objs.size) H2.objs.size) {s with heap:=h₁}:=by
   refine Jl (λn s'=>∃i σ' H',qp (zc X N' scope H2.objs.size s H fp pins) [] σ' H' s'/\tn i s'.heap/\(∀b∈fp,H' b=none)/\W i n σ' H') ?_ m0 ⟨0,_,_,I1,st₁,fpn,w0⟩
   rintro n s3 ⟨i,σ3,H3,I3,st3,fr3,w3⟩
   rcases turn i n σ3 H3 w3 with ⟨stop,qn⟩ | ⟨go,NN,hNN,step⟩
   . refine qP (T.done (zc X N' scope H2.objs.size s H fp pins) rfl rfl rfl hc i [] s3 σ3 H3 _ I3 (stat fr3) st3 stop) λr s4 ⟨hr,I4⟩=>?_
     subst hr
     obtain⟨mm,hnm,_⟩:=I4.loc
     exact fin _ _ H3 s4 mm hCle I4.free hnm (WC I hf I4) qn
   . refine qP (T.item (zc X N' scope H2.objs.size s H fp pins) rfl rfl rfl hc i [] s3 σ3 H3 _ I3 (stat fr3) st3 go) λr s4 ⟨u,hr,h4⟩=>?_
     subst hr
     refine qP h4 λ_ s5 ⟨x,H5,I5,r5,y5,st5,fr5⟩=>?_
     have I5':=I5.pinned (stat fr5) (T.obj _ _ st5)
     refine qP (hg _ s5 σ3 H5 x u _ I5' r5 (step x H5 y5)) λ_ s6 ⟨σ6,H6,I6,q6⟩=>?_
     refine qP (htt _ s6 σ6 H6 _ I6 q6) λok s7 ⟨H7,I7,q7⟩=>?_
     have again:∀{σ8:St} {H8:Hp} {s8:Shared},qp (zc X N' scope H2.objs.size s H fp pins) ([]++Js fp s5.heap) σ8 H8 s8->NN σ8 H8->
         ∃m,m < n/\∃i σ' H',qp (zc X N' scope H2.objs.size s H fp pins) [] σ' H' s8/\tn i s8.heap/\(∀b∈fp,H' b=none)/\W i m σ' H':=λ{σ8 H8 s8} I8 n8=>by
       obtain⟨m',hm,w8⟩:=hNN σ8 H8 n8
       refine⟨m',hm,i+1,σ8,H8,I8.unpinned,T.keep _ _ _ st5 λb hb o e=>(I8.pin (b,o) (List.mem_append_right _ (List.mem_append_right _ (jN hb e)))).1,λb hb=>?_,w8⟩
       obtain⟨o,e,d⟩:=T.obj _ _ st5 b hb
       exact(I8.pin (b,o) (List.mem_append_right _ (List.mem_append_right _ (jN hb e)))).2.1
     cases ok with
     | false=>
       rw[if_neg Bool.false_ne_true]at q7 ⊢
       exact again I7 q7
     | true=>
       rw[if_pos rfl]at q7 ⊢
       refine qP (hte _ s7 σ6 H7 _ I7 q7) λv s8 ⟨y,H8,I8,r8,q8⟩=>?_
       obtain⟨ys,hy,hz,q8⟩:=q8
       refine qP (jk (X:=zc X N' scope H2.objs.size s H fp pins) _ s8 σ6 H8 (.ref s.heap.objs.size) [y] (.ref s.heap.objs.size) [v] (λ_ H9=>NN σ6 H9) I8 rfl (.cons r8 .nil) ⟨_,ys,y,rfl,rfl,hy,hz,q8⟩) λ_ s9 ⟨_,H9,I9,_,q9⟩=>?_
       exact again I9 q9
 exact codeAny_compStart_list loop (T.self X.A 0 _ _ _ st₁ loop)
theorem kW {elt iter target:Expr} {ifs:List Expr} {pos:Pos} {wi:TI} {g:TG} {tt:TT} {te:TE} (hc:X.calm=true) (S:jA X N' ix scope) (hi:PI X target iter wi)
   (hb:∀C s₂ H₂ fp pins,PG (zc X N' scope C s₂ H₂ fp pins) target g/\kx (zc X N' scope C s₂ H₂ fp pins) ifs tt/\PE (zc X N' scope C s₂ H₂ fp pins) elt te)
   (hs:∀x,foldedSetIterable iter X.env x=pure x:=by intro _;rfl):PE X (.ListComp elt [⟨target,iter,ifs,0⟩] scope pos) (kD wi ix g tt te):=by
 intro pins s σ H Q I h
 rw[eval_ListComp]
 refine wpAny_comprehension_free (use:=none) rfl hs (Ql (S.freeH I.ok)) S.kind S.locH ?_
 refine qP (hi pins s σ H _ I h) λxv s1 h1=>qP h1 λitv s2 h2=>?_
 obtain⟨it,fp,tn,J,H2,e,I2,T,st2,f2,q2⟩:=h2
 subst e
 refine Y8 (RR:=λacc C=>compPost (model X.prog X.w) X.A X.xe none (EP X pins σ Q) acc C) (Q:=λD H'=>Q (.ref D) H') hc S I2 T st2 f2 hb q2 ?_
 intro D C H' s' m hC hn hm I' q
 exact⟨m,hm,λh' sb=>⟨.ref D,H',Yb I2 I' hC hn sb,rfl,q⟩⟩
theorem wu {elt iter target:Expr} {ifs:List Expr} {pos:Pos} {wi:TI} {g:TG} {tt:TT} {te:TE} (hc:X.calm=true) (S:jA X N' ix scope) (hi:JI X target iter wi)
   (hb:∀C s₂ H₂ fp pins,JG (zc X N' scope C s₂ H₂ fp pins) target g/\Ux (zc X N' scope C s₂ H₂ fp pins) ifs tt/\JE (zc X N' scope C s₂ H₂ fp pins) elt te)
   (hs:∀x,foldedSetIterable iter X.env x=pure x:=by intro _;rfl):JE X (.ListComp elt [⟨target,iter,ifs,0⟩] scope pos) (kD wi ix g tt te):=
 .of (kW hc S hi.to (λC s₂ H₂ fp pins=>⟨(hb C s₂ H₂ fp pins).1.to,(hb C s₂ H₂ fp pins).2.1.to,(hb C s₂ H₂ fp pins).2.2.to⟩) hs)
end
end L2
set_option Elab.async false
set_option linter.all false
set_option maxRecDepth 100000
set_option maxHeartbeats 4000000
namespace L2
open PySem PySem.Spec PyProof.Rows
section
variable {X:Cx} {CX:zK} {k:Nat} {f C:Addr} {fd:FuncData} {ps:List Str} {sp:Sp} {dvs:List V} {ds:List Value} {E:St->XK} {m:Str} {pos apos:Pos} {e o:Expr} {es:List Expr} {ta:TE} {t:TA}
theorem Vw {pl:Sem Bool} (he:PE X o ta) (c:Yw X.K C) (hm:Yv X.K C m f) (F:FnOk X.prog X.w X.K X.mg X.base CX k f fd ps sp) (hr:qU k X.A) (hb:js X.K fd ps ds) (hd:qw dvs ds) (hx:Jn CX X E) (ha:PA X (e::es) t)
   (hst:starEach (e::es) X.env=(false,eval e X.env)::starEach es X.env:=by rfl) (hpl:(backTo pos (starEach es X.env)).any (·.1)=false:=by rfl)
   (ht:eval (.Call (.Attribute o m apos) (e::es) [] pos) X.env=(do
     let ov <-eval o X.env
     standAt apos.atName
     let (f,first) <-holding [ov] (getMethod ov m pl)
     callWith pos f first (backTo pos (starEach (e::es) X.env)) (backToKw pos (keywordEach [] X.env))):=by rfl):
   PE X (.Call (.Attribute o m apos) (e::es) [] pos) (W0 C m sp dvs E ta t):=by
 intro pins s σ H Q I h
 refine PySem.W.methodCall_KW (pl:=pl) (qP (he pins s σ H _ I h) λu s1 ⟨x,H1,I1,rx,a,dx,fs,ex,ea,l,q⟩=>?_) ht
 subst ex
 obtain rfl:u=Value.ref a:=rx
 refine Q4 I1 ea c hm l ?_
 refine PySem.W.callWith_K (first:=[.ref a]) (h₀:=X.base) I.ok.mod.kin hm.kp (qP (ha pos pins s1 σ H1 _ I1 q) λus s2 ⟨vs,H2,I2,r,q2⟩=>⟨I2.kIn,?_⟩) hst hpl
 exact U0 (us:=.ref a::us) (vs:=.ref a::vs) F hr hb hd hx I2 (.cons rfl r) q2
theorem V3 {pl:Sem Bool} (he:JE X o ta) (c:Yw X.K C) (hm:Yv X.K C m f) (F:FnOk X.prog X.w X.K X.mg X.base CX k f fd ps sp) (hr:qU k X.A) (hb:js X.K fd ps ds) (hd:qw dvs ds) (hx:Jn CX X E) (ha:JA X (e::es) t) (hst:starEach (e::es) X.env=(false,eval e X.env)::starEach es X.env:=by rfl) (hpl:(backTo pos (starEach es X.env)).any (·.1)=false:=by rfl) (ht:eval (.Call (.Attribute o m apos) (e::es) [] pos) X.env=(do
     let ov <-eval o X.env
     standAt apos.atName
     let (f,first) <-holding [ov] (getMethod ov m pl)
     callWith pos f first (backTo pos (starEach (e::es) X.env)) (backToKw pos (keywordEach [] X.env))):=by rfl):JE X (.Call (.Attribute o m apos) (e::es) [] pos) (W0 C m sp dvs E ta t):=.of (Vw he.to c hm F hr hb hd hx ha.to hst hpl ht)
end
end L2
set_option Elab.async false
set_option linter.all false
set_option maxRecDepth 100000
set_option maxHeartbeats 4000000
namespace Rh
open PySem L2
def top (i:Nat):Stmt:=PySem.Challenge.pw_ringheaps_k02_grounds_told.main.body.getD i (.Pass ⟨0,0,0,0⟩)
abbrev QM:Stmt:=top 9
abbrev Xx:Stmt:=top 25
abbrev J4:Stmt:=top 26
abbrev Zl:Stmt:=top 27
abbrev Zn:Stmt:=top 28
abbrev Zo:Stmt:=top 29
abbrev Xu:Stmt:=top 30
abbrev zu:Stmt:=top 38
end Rh
namespace Rh
open PySem L2 PyProof.Rows
structure Qh (K:PySem.W.Frag) (mg:Str->Option Value) (x:Str) (st:Stmt) (ps:List Str) (f:Addr) (fd:FuncData):Prop where
 fn:Qb K x x st f fd
 ns:mg x=some (.ref f)
 bi:js K fd ps []
theorem jg {X:Cx} {x:Str} {st:Stmt} {ps:List Str} {f:Addr} {fd:FuncData} {k:Nat} {sp:Sp} {e:Expr} {es:List Expr} {t:TA} {p pos:Pos} (h:Qh X.K X.mg x st ps f fd) (G:FnOk X.prog X.w X.K X.mg X.base jf k f fd ps sp) (hr:qU k X.A)
   (hg:Gl X x) (ha:JA X (e::es) t) (hdb:(x==("__debug__":Str))=false:=by decide) (he:starEach (e::es) X.env=(false,eval e X.env)::starEach es X.env:=by rfl) (hpl:(backTo pos (starEach es X.env)).any (·.1)=false:=by rfl):
   JE X (.Call (.Name x p) (e::es) [] pos) (W3 sp [] E0 t):=.of (U6 G hr hg h.ns h.fn.kp h.bi .nil zX ha.to hdb he hpl)
theorem qh {H:Hp} {b p:Addr} {o o':HO} (h:H b=some o) (hp:H p=none):upd H p o' b=some o:=by
 rw[qg (qu h hp)]
 exact h
theorem qi {H:Hp} {p:Addr} {o:HO} (hp:H p=none):Same H (upd H p o):=λb u h=>qh h hp
theorem Same.upd {H H':Hp} {p:Addr} {o:HO} (s:Same H H') (hp:H p=none):Same H (upd H' p o):=λb u h=>by
 rw[qg (qu h hp)]
 exact s b u h
def jR (n s t:Int):List (qO×V):=[(Sum.inr "number",.int n),(Sum.inr "seed",.int s),(Sum.inr "turn",.int t)]
theorem nns:¬(Str.ofString "number")=Str.ofString "seed":=by decide+kernel
theorem wk:¬(Str.ofString "number")=Str.ofString "turn":=by decide+kernel
theorem wj:¬(Str.ofString "seed")=Str.ofString "turn":=by decide+kernel
theorem nsn:¬(Str.ofString "seed")=Str.ofString "number":=by decide+kernel
theorem ntn:¬(Str.ofString "turn")=Str.ofString "number":=by decide+kernel
theorem nts:¬(Str.ofString "turn")=Str.ofString "seed":=by decide+kernel
theorem Ue {a b:Str} (h:¬a=b):¬(Sum.inr a:qO)=Sum.inr b:=λe=>h (Sum.inr.inj e)
section
variable {H:Hp} {d:Addr} {n s t:Int}
theorem gN (h:H d=some (.dK (jR n s t))):jW H d (.str "number") (some (.int n)):=by
 have e:jo (jR n s t) (Sum.inr "number":qO)=some (.int n):=qY rfl
 have q:=jW.k (k:=(Sum.inr "number":qO)) h
 rw[e]at q
 exact q
theorem gS (h:H d=some (.dK (jR n s t))):jW H d (.str "seed") (some (.int s)):=by
 have e:jo (jR n s t) (Sum.inr "seed":qO)=some (.int s):=(qZ (Ue nns)).trans (qY rfl)
 have q:=jW.k (k:=(Sum.inr "seed":qO)) h
 rw[e]at q
 exact q
theorem gT (h:H d=some (.dK (jR n s t))):jW H d (.str "turn") (some (.int t)):=by
 have e:jo (jR n s t) (Sum.inr "turn":qO)=some (.int t):=(qZ (Ue wk)).trans ((qZ (Ue wj)).trans (qY rfl))
 have q:=jW.k (k:=(Sum.inr "turn":qO)) h
 rw[e]at q
 exact q
theorem yV:(jR n s t).length < sizeLine:=qj (by show 3<=1000;decide)
theorem pN (h:H d=some (.dK (jR n s t))) (v:Int):Jp H d (.str "number") (.int v) (upd H d (.dK (jR v s t))):=by
 have e:ju (jR n s t) (Sum.inr "number":qO) (.int v)=jR v s t:=by
   unfold ju jR
   simp [nsn,ntn]
 have q:=Jp.k (k:=(Sum.inr "number":qO)) (v:=.int v) h yV
 rw[e]at q
 exact q
theorem pT (h:H d=some (.dK (jR n s t))) (v:Int):Jp H d (.str "turn") (.int v) (upd H d (.dK (jR n s v))):=by
 have e:ju (jR n s t) (Sum.inr "turn":qO) (.int v)=jR n s v:=by
   unfold ju jR
   simp [wk,wj]
 have q:=Jp.k (k:=(Sum.inr "turn":qO)) (v:=.int v) h yV
 rw[e]at q
 exact q
end
def Zj:Sp:=λvs H Q _=>∃(d:Addr) (m n s t:Int),vs=[.ref d,.int m]/\H d=some (.dK (jR n s t))/\0 < m/\m.natAbs < 2^200/\∀r n' t',0<=r->r < m->Q (.int r) (upd H d (.dK (jR n' s t')))
def zT:Sp:=λvs H Q _=>∃c:Int,vs=[.int c]/\∀d n s,H d=none->Q (.ref d) (upd H d (.dK (jR n s 0)))
def Va (K:PySem.W.Frag):Sp:=λvs H Q _=>∃(a:Addr) (ns:List Int) (k:Int),vs=[.ref a,.int k]/\SqL K H a (ns.map V.int)/\0<=k/\∀v,Q (.int v) H
section
variable {P:Program} {w:World} {K:PySem.W.Frag} {mg:Str->Option Value} {base:Heap}
theorem zr:qx ["_law_source_here","_law_many","_law_digit","_law_number"] ["_law_source_here","_law_many"] (qo Zl):=⟨rfl,rfl,rfl,by decide+kernel,rfl,by decide+kernel,by decide+kernel⟩
theorem J5 {f:Addr} {fd:FuncData} (F:Qb K "_law_take" "_law_take" Zl f fd):FnOk P w K mg base jf 1 f fd ["_law_source_here","_law_many"] Zj:=by
 refine F.okJ zr (λvs H Q E h=>?_) (λcdv A outer s H vs Q E hr h=>?_)
 . obtain⟨d,m,n,sd,t,rfl,_⟩:=h
   rfl
 . obtain⟨d,m,n,sd,t,rfl,hd,m0,m1,k⟩:=h
   have hu:=JQ hr
   refine⟨_,qe (qQ (qt z5 (jZ hu (jv 0) qL (λ_ _=>rfl)) ql (qv _))
       (qe (qB (i:=2) zr.nd rfl (Or.inl rfl) (qH Qw (jZ hu (jv 0) qL (λ_ _=>rfl)) (jv 1)))
       (qe (jQ hu (jv 0) qL (qH VE (jZ hu (jv 0) qL (λ_ _=>rfl)) (jv 1)) rfl)
       (qk (qC (jv 2))))) qz)
     (qe (jQ hu (jv 0) qL (qH Qy (jZ hu (jv 0) qL (λ_ _=>rfl)) ql) rfl)
     (qe (qB (i:=3) zr.nd rfl (Or.inl rfl) (qH Qw (qH Qv (qH Qy (jZ hu (jv 0) qL (λ_ _=>rfl)) (qH Qv ql (jZ hu (jv 0) qL (λ_ _=>rfl)))) ql) ql))
     (qe (qB (i:=3) zr.nd rfl (Or.inl rfl) (qH Qw (qH Qv (jv 3) (jv 3)) ql))
     (qk (qC (qH Qw (qH U8 (qH Qw (qH Qv (qH Qy (jv 3) (jZ hu (jv 0) qL (λ_ _=>rfl))) (qH Qy (jv 3) ql)) ql) ql) (jv 1))))))),?_⟩
   refine⟨_,rfl,d,_,rfl,gN hd,_,_,rfl,rfl,_,rfl,?_⟩
   refine Ya (λ_=>?_) (λ_=>?_)
   . refine⟨_,rfl,d,_,rfl,gN hd,_,rfl,_,_,rfl,rfl,m0,?_⟩
     refine⟨_,rfl,d,_,rfl,gN hd,_,rfl,_,_,rfl,rfl,⟨m0,m1⟩,_,rfl,d,_,rfl,pN hd _,?_⟩
     exact⟨_,rfl,k _ _ _ (Int.emod_nonneg _ (by omega)) (Int.emod_lt_of_pos _ m0)⟩
   . refine⟨_,rfl,d,_,rfl,gT hd,_,_,rfl,rfl,_,rfl,d,_,rfl,pT hd _,?_⟩
     have h1:upd H d (.dK (jR n sd (t+1))) d=some (.dK (jR n sd (t+1))):=qd
     refine⟨_,rfl,d,_,rfl,gS h1,_,rfl,d,_,rfl,gT h1,_,_,rfl,rfl,.inl ⟨by decide,by decide⟩,_,_,rfl,rfl,_,_,rfl,rfl,.inr ⟨by decide,by decide⟩,_,_,rfl,rfl,(by show (0:Int) < 2147483647;decide),?_⟩
     generalize ha:((sd+7919*(t+1))*48271) % 2147483647=x
     have x0:0<=x:=by rw[<-ha];exact Int.emod_nonneg _ (by decide)
     have x1:x < 2147483647:=by rw[<-ha];exact Int.emod_lt_of_pos _ (by decide)
     refine⟨_,rfl,_,rfl,_,_,rfl,rfl,.inl ⟨by omega,by omega⟩,_,_,rfl,rfl,(by show (0:Int) < 2147483629;decide),?_⟩
     generalize hb:(x*x) % 2147483629=y
     have y0:0<=y:=by rw[<-hb];exact Int.emod_nonneg _ (by decide)
     have y1:y < 2147483629:=by rw[<-hb];exact Int.emod_lt_of_pos _ (by decide)
     refine⟨_,rfl,_,rfl,d,_,rfl,gT h1,_,_,rfl,rfl,_,rfl,_,_,rfl,rfl,_,_,rfl,rfl,.inr ⟨by omega,by omega⟩,_,_,rfl,rfl,(by show (0:Int) < 2147483587;decide),_,_,rfl,rfl,⟨by decide,by decide⟩,_,rfl,_,_,rfl,rfl,m0,?_⟩
     exact k _ _ _ (Int.emod_nonneg _ (by omega)) (Int.emod_lt_of_pos _ m0)
end
end Rh
namespace Rh
open PySem L2 PyProof.Rows
structure J1 (mg:Str->Option Value):Prop where
 len:mg "len"=none
 max:mg "max"=none
 min:mg "min"=none
 int:mg "int"=none
 rng:mg "range"=none
theorem Ws (n s t:Int):Q3 [] (jR n s t)=jR n s t:=by
 unfold Q3 jR
 simp only[List.foldl_cons,List.foldl_nil]
 unfold ju
 simp [nns,wk,wj,nsn,ntn,nts]
section
variable {P:Program} {w:World} {K:PySem.W.Frag} {mg:Str->Option Value} {base:Heap}
theorem Vf:qx ["_law_cell"] ["_law_cell"] (qo J4):=⟨rfl,rfl,rfl,by decide+kernel,rfl,by decide+kernel,by decide+kernel⟩
theorem Wl {f:Addr} {fd:FuncData} (F:Qb K "_law_source" "_law_source" J4 f fd) (B:J1 mg):FnOk P w K mg base jf 1 f fd ["_law_cell"] zT:=by
 refine F.okJ Vf (λvs H Q E h=>?_) (λcdv A outer s H vs Q E hr h=>?_)
 . obtain⟨c,rfl,_⟩:=h
   rfl
 . obtain⟨c,rfl,k⟩:=h
   refine⟨_,qk (qC (vE
     (ZB qL (qH Qv (qr (WN rfl) (by rfl) B.max boot_max (qb ql (qb (jv 0) qf)))
       (jc zd (by rfl) B.int boot_int (qb (j0 VD (jv 0) (qH kX ql ql) (qv _)) qf)))
     (ZB qL (qH Qw (jv 0) ql) (ZB qL ql vy))) rfl rfl (by simp) (by decide))),?_⟩
   intro p hp
   refine⟨_,rfl,_,_,rfl,_,rfl,_,_,rfl,rfl,⟨by decide,by decide,by decide⟩,_,_,rfl,rfl,.inr ⟨_,rfl,_,_,rfl,rfl,.inr ?_,_,rfl,_,_,rfl,rfl,(by show (0:Int) < 2147483629;decide),?_⟩⟩
   . split<;>exact⟨by decide,by decide⟩
   . refine⟨qd,jR _ _ 0,rfl,(by show 3<=15;decide),?_⟩
     rw[Ws,qR]
     exact k p _ _ hp
theorem kL:qx ["_law_script","_law_k"] ["_law_script","_law_k"] (qo Xx):=⟨rfl,rfl,rfl,by decide+kernel,rfl,by decide+kernel,by decide+kernel⟩
theorem vf {f:Addr} {fd:FuncData} (F:Qb K "_law_cell_at" "_law_cell_at" Xx f fd) (B:J1 mg):FnOk P w K mg base jf 1 f fd ["_law_script","_law_k"] (Va K):=by
 refine F.okJ kL (λvs H Q E h=>?_) (λcdv A outer s H vs Q E hr h=>?_)
 . obtain⟨a,ns,k,rfl,_⟩:=h
   rfl
 . obtain⟨a,ns,k,rfl,hS,k0,q⟩:=h
   refine⟨_,qe (qQ (qt jX (jv 1) (qr jL (by rfl) B.len boot_len (qb (jv 0) qf)) (qv _))
       (qk (qC (jq jr (jv 0) (jv 1) (λ_ _=>rfl)))) qz)
     (qk (qC (qH Qy (qH Qv ql (jv 1)) ql))),?_⟩
   refine⟨_,rfl,_,rfl,a,_,rfl,.inl hS,_,_,rfl,rfl,_,rfl,?_⟩
   refine Ya (λh=>?_) (λ_=>?_)
   . have h1:k < ((ns.map V.int).length:Int):=of_decide_eq_true h
     rw[List.length_map]at h1
     have h2:k.toNat < ns.length:=by omega
     have h3:(ns.map V.int)[k.toNat]?=some (V.int ns[k.toNat]):=by rw[List.getElem?_map,List.getElem?_eq_getElem h2];rfl
     have h4:k=((k.toNat:Nat):Int):=by omega
     refine⟨_,rfl,_,rfl,a,_,k,V.int ns[k.toNat],rfl,rfl,hS,?_,q _⟩
     have h5:=j1 h3
     rw[<-h4]at h5
     exact h5
   . exact⟨_,rfl,_,_,rfl,rfl,.inl ⟨by decide,by decide⟩,_,_,rfl,rfl,q _⟩
end
end Rh
set_option Elab.async false
set_option linter.all false
set_option maxRecDepth 100000
set_option maxHeartbeats 4000000
namespace Rh
open PySem L2 PyProof.Rows
def Fr (H:Hp) (d:Addr) (H':Hp):Prop:=∀b o,H b=some o->b≠d->H' b=some o
theorem Fr.refl {H:Hp} {d:Addr}:Fr H d H:=λ_ _ h _=>h
theorem Fr.at_d {H H':Hp} {d:Addr} {o:HO} (h:Fr H d H'):Fr H d (upd H' d o):=λb u hb hn=>by
 rw[qg hn]
 exact h b u hb hn
theorem Fr.new {H H':Hp} {d p:Addr} {o:HO} (h:Fr H d H') (hp:H' p=none):Fr H d (upd H' p o):=λb u hb hn=>qh (h b u hb hn) hp
theorem Fr.own {H H':Hp} {d p:Addr} {o:HO} (h:Fr H d H') (hp:H p=none):Fr H d (upd H' p o):=λb u hb hn=>by
 rw[qg (qu hb hp)]
 exact h b u hb hn
theorem Fr.trans {H H' H'':Hp} {d:Addr} (h:Fr H d H') (k:Fr H' d H''):Fr H d H'':=λb u hb hn=>k b u (h b u hb hn) hn
theorem Fr.fresh {H H':Hp} {d p:Addr} {o:HO} (h:Fr H d H') (hd:H' d=some o) (hp:H' p=none):H p=none:=by
 cases e:H p with
 | none=>rfl
 | some u=>
   by_cases n:p=d
   . subst n
     rw[hd]at hp
     cases hp
   . rw[h p u e n]at hp
     cases hp
def qW (c:Nat):Bool:=decide (97<=c)&&decide (c<=122)
def qD (z:Str):Bool:=(decide (1<=z.length)&&decide (z.length<=8))&&z.cps.toList.all qW
def Xa:Str:="abcdefghijklmnopqrstuvwxyz"
theorem zk:Xa.cps.toList=[97,98,99,100,101,102,103,104,105,106,107,108,109,110,111,112,113,114,115,116,117,118,119,120,121,122]:=by decide+kernel
theorem Us:Xa.cps.toList=(List.range 26).map (97+·):=by rw[zk];rfl
theorem XU:Xa.length<=sizeLine:=by
 show Xa.cps.size<=sizeLine
 rw[<-Array.length_toList,zk]
 decide
theorem Ut {r:Int} (h0:0<=r) (h1:r < 26):Y9 Xa.cps.toList r=some (97+r.toNat):=by
 have h2:Xa.cps.toList[r.toNat]?=some (97+r.toNat):=by
   rw[Us,List.getElem?_map,List.getElem?_range (by omega)]
   rfl
 have h4:=j1 h2
 have h5:r=((r.toNat:Nat):Int):=by omega
 rw[<-h5]at h4
 exact h4
theorem Z5 {r:Int} (h0:0<=r) (h1:r < 26):qW (97+r.toNat)=true:=by
 unfold qW
 rw[decide_eq_true (by omega:97<=97+r.toNat),decide_eq_true (by omega:97+r.toNat<=122)]
 rfl
theorem yo (ws:List Nat):(Txt.join (Str.ofString "") (ws.map λk=>(⟨#[k]⟩:Str))).cps.toList=ws:=by
 show (Builtin.Str.glued (Str.ofString "") _).cps.toList=_
 rw[StrLaws.glued_eq_join]
 have e:(Str.ofString "")=⟨#[]⟩:=by decide+kernel
 rw[e,PyProof.Rows.join_ones]
theorem Wz {z:Str} {A B:List Nat} {c:Nat} (e:z.cps.toList=A++[c]++B) (hA:A.all qW=true) (hc:qW c=true) (hB:B.all qW=true) (hl:A.length+B.length<=7):qD z=true:=by
 have l:z.length=A.length+1+B.length:=by
   show z.cps.size=_
   rw[<-Array.length_toList,e]
   simp
   omega
 unfold qD
 rw[decide_eq_true (by omega:1<=z.length),decide_eq_true (by omega:z.length<=8),e,List.all_append,List.all_append,hA,hB]
 simp [hc]
def XD (f s:Int) (k:Nat):Nat:=97+((f+s*(k:Int)) % 26).toNat
theorem vq:∀s∈[(1:Int),3,5,7,9,11],∀k,k < 14->∀j,j < 14->(s*((k:Nat):Int) - s*((j:Nat):Int)) % 26=0->k=j:=by decide+kernel
theorem vp {f s:Int} {k j:Nat} (hs:s=1\/s=3\/s=5\/s=7\/s=9\/s=11) (hk:k < 14) (hj:j < 14) (h:XD f s k=XD f s j):k=j:=by
 unfold XD at h
 refine vq s (by simpa using hs) k hk j hj ?_
 generalize s*(k:Int)=x at h ⊢
 generalize s*(j:Int)=y at h ⊢
 omega
def Qg (A:List Nat) (f s:Int) (zs:List Str):Prop:=∀j z,zs[j]?=some z->∃B,z.cps.toList=A++[XD f s j]++B/\B.all qW=true/\A.length+B.length<=7
theorem Qg.snoc {A:List Nat} {f s:Int} {zs:List Str} (h:Qg A f s zs) {z:Str} {B:List Nat} (e:z.cps.toList=A++[XD f s zs.length]++B) (hB:B.all qW=true) (hl:A.length+B.length<=7):Qg A f s (zs++[z]):=by
 intro j y hy
 by_cases hj:j < zs.length
 . rw[List.getElem?_append_left hj]at hy
   exact h j y hy
 . have hj':j=zs.length:=by
     have:=(List.getElem?_eq_some_iff.mp hy).1
     rw[List.length_append,List.length_singleton]at this
     omega
   subst hj'
   rw[List.getElem?_append_right (Nat.le_refl _),Nat.sub_self]at hy
   obtain rfl:=(Option.some.inj hy).symm
   exact⟨B,e,hB,hl⟩
theorem Qg.names {A:List Nat} {f s:Int} {zs:List Str} (h:Qg A f s zs) (hA:A.all qW=true):∀z∈zs,qD z=true:=λz hz=>by
 obtain⟨j,hj⟩:=List.getElem?_of_mem hz
 obtain⟨B,e,hB,hl⟩:=h j z hj
 refine Wz e hA ?_ hB hl
 unfold XD
 exact Z5 (Int.emod_nonneg _ (by decide)) (Int.emod_lt_of_pos _ (by decide))
theorem Qg.nodup {A:List Nat} {f s:Int} {zs:List Str} (h:Qg A f s zs) (hs:s=1\/s=3\/s=5\/s=7\/s=9\/s=11) (hz:zs.length<=14):zs.Nodup:=by
 refine List.pairwise_iff_getElem.mpr λi j hi hj hij e=>?_
 obtain⟨B,b1,_⟩:=h j _ (List.getElem?_eq_getElem hj)
 obtain⟨C,c1,_⟩:=h i _ (List.getElem?_eq_getElem hi)
 rw[e]at c1
 have e2:(A++[XD f s j]++B)[A.length]?=(A++[XD f s i]++C)[A.length]?:=by rw[<-b1,<-c1]
 rw[List.append_assoc,List.append_assoc,List.getElem?_append_right (Nat.le_refl _),List.getElem?_append_right (Nat.le_refl _),Nat.sub_self]at e2
 have e3:XD f s j=XD f s i:=Option.some.inj e2
 exact absurd (vp hs (by omega) (by omega) e3) (by omega)
theorem Yr {A:List Nat} (h:A.all qW=true) (n:Nat):(A.take n).all qW=true:=by
 rw[List.all_eq_true]at h ⊢
 exact λx hx=>h x (List.mem_of_mem_take hx)
theorem kI {r:Int} (h0:0<=r) (h1:r < 6):∃m:Int,(m=1\/m=3\/m=5\/m=7\/m=9\/m=11)/\Y9 [V.int 1,V.int 3,V.int 5,V.int 7,V.int 9,V.int 11] r=some (.int m):=by
 have:r=0\/r=1\/r=2\/r=3\/r=4\/r=5:=by omega
 rcases this with rfl | rfl | rfl | rfl | rfl | rfl
 . exact⟨1,by decide,rfl⟩
 . exact⟨3,by decide,rfl⟩
 . exact⟨5,by decide,rfl⟩
 . exact⟨7,by decide,rfl⟩
 . exact⟨9,by decide,rfl⟩
 . exact⟨11,by decide,rfl⟩
def Xp:Sp:=λvs H Q _=>∃(d:Addr) (m:Nat) (n s t:Int),vs=[.ref d,.int m]/\H d=some (.dK (jR n s t))/\m<=14/\
 ∀(l:Addr) (zs:List Str) (n' t':Int) (H':Hp),H l=none->H' l=some (.lst (zs.map V.str))->zs.length=m->(∀z∈zs,qD z=true)->zs.Nodup->H' d=some (.dK (jR n' s t'))->Fr H d H'->Q (.ref l) H'
theorem zS:∀zs:List Str,(zs.map λ_=>1).sum=zs.length
 | []=>rfl
 | z::zs=>by rw[List.map_cons,List.sum_cons,zS zs,List.length_cons];omega
section
variable {P:Program} {w:World} {K:PySem.W.Frag} {mg:Str->Option Value} {base:Heap}
abbrev ye:List Str:=["_law_source_here","_law_many","_law_letters","_law_word","_law_ahead","_law_first","_law_step","_law_names_here","_law_k","_law_behind"]
theorem jY:qx ye ["_law_source_here","_law_many"] (qo Zn):=⟨rfl,rfl,rfl,by decide+kernel,rfl,by decide+kernel,by decide+kernel⟩
theorem VH {f fT:Addr} {fd fdT:FuncData} (F:Qb K "_law_names" "_law_names" Zn f fd) (B:J1 mg) (hT:Qh K mg "_law_take" Zl ["_law_source_here","_law_many"] fT fdT):FnOk P w K mg base jf 2 f fd ["_law_source_here","_law_many"] Xp:=by
 have GT:FnOk P w K mg base jf 1 fT fdT ["_law_source_here","_law_many"] Zj:=J5 hT.fn
 refine F.okJ jY (λvs H Q E h=>?_) (λcdv A outer s H vs Q E hr h=>?_)
 . obtain⟨d,m,n,sd,t,rfl,_⟩:=h
   rfl
 . obtain⟨d,m,n,sd,t,rfl,hd,hm,q⟩:=h
   refine⟨_,qe (qB (i:=2) jY.nd rfl (Or.inr rfl) qL)
     (qe (qB (i:=3) jY.nd rfl (Or.inl rfl) (Jh PySem.F.plainAttrs_str PySem.F.slot_str_join PySem.F.type_str_join vv qL (qb
       (jI (N':=["_law_k","_law_letters","_law_source_here"]) (ix:=[none,some 2,some 0]) rfl ⟨rfl,rfl,rfl,rfl,rfl⟩
         (j2 (by rfl) B.rng (qb ql qf))
         (λC s2 H2 fp pins=>⟨qm (i:=0) (show (["_law_k","_law_letters","_law_source_here"]:List Str).Nodup by decide+kernel) rfl (Or.inl rfl),qM,
           jq Ub (jv 1) (jg hT GT hr (by rfl) (qb (jv 2) (qb ql qf))) (λ_ _=>rfl)⟩)) qf)))
     (qe (qB (i:=4) jY.nd rfl (Or.inl rfl) (ZC Vb (jv 3) zA (zz (qH Qv (jg hT GT hr (by rfl) (qb (jv 0) (qb ql qf))) (jg hT GT hr (by rfl) (qb (jv 0) (qb ql qf)))))))
     (qe (qB (i:=5) jY.nd rfl (Or.inl rfl) (jg hT GT hr (by rfl) (qb (jv 0) (qb ql qf))))
     (qe (qB (i:=6) jY.nd rfl (Or.inl rfl) (jq jr (jH (qb ql (qb ql (qb ql (qb ql (qb ql (qb ql qf))))))) (jg hT GT hr (by rfl) (qb (jv 0) (qb ql qf))) (λ_ _=>rfl)))
     (qe (qB (i:=7) jY.nd rfl (Or.inl rfl) (jH qf))
     (qe (jt PassesOwn.never rfl (j2 (by rfl) B.rng (qb (jv 1) qf)) (qm (i:=8) jY.nd rfl (Or.inl rfl))
       (qe (qB (i:=9) jY.nd rfl (Or.inl rfl) (ZC Vb (jv 3) zA (zz (jg hT GT hr (by rfl) (qb (jv 0) (qb (qH VB ql (qr jK (by rfl) B.len boot_len (qb (jv 4) qf))) qf))))))
       (qk (qX (Jh PySem.F.plainAttrs_list PySem.F.slot_list_append PySem.F.type_list_append jk (jv 7) (qb
         (qH Qx (qH Qx (jv 4) (jq Ub (jv 2) (qH Qw (qH Qy (jv 5) (qH Qv (jv 6) (jv 8))) ql) (λ_ _=>rfl))) (jv 9)) qf))))))
     (qk (qC (jv 7))))))))),?_⟩
   refine⟨rfl,7,rfl,by decide,by decide,λD hD=>?_⟩
   have nDd:D≠d:=λe=>by rw[e,hd]at hD;cases hD
   refine zf (λi σ' H'=>∃(v:Option V) (n' t':Int) (ws:List Nat),σ'=[v,some (.str Xa),some (.ref d)]/\H' d=some (.dK (jR n' sd t'))/\H' D=some (.lst ((ws.map λk=>(⟨#[k]⟩:Str)).map V.str))/\ws.length=i/\ws.all qW=true/\Fr H d H')
     ⟨none,n,t,[],rfl,qh hd hD,qd,rfl,rfl,Fr.refl.new hD⟩ ?_ ?_
   . rintro i σ' H' hi ⟨v,n',t',ws,rfl,hd',hD',hl,ha,fr⟩
     refine⟨_,rfl,_,rfl,d,26,n',sd,t',rfl,hd',by decide,by decide,λr n3 t3 r0 r1=>?_⟩
     refine⟨Xa,r,_,rfl,rfl,XU,Ut r0 r1,_,(by rw[qg nDd];exact hD'),?_,?_⟩
     . rw[List.length_map,List.length_map,hl]
       exact qj (by omega)
     . refine⟨_,n3,t3,ws++[97+r.toNat],rfl,?_,?_,?_,?_,?_⟩
       . rw[qg (Ne.symm nDd)];exact qd
       . rw[List.map_append,List.map_append];exact qd
       . rw[List.length_append,hl];rfl
       . rw[List.all_append,ha]
         simp [Z5 r0 r1]
       . exact(fr.at_d).own hD
   rintro σ' H1 ⟨v,n1,t1,ws,rfl,hd1,hD1,hl1,ha1,fr1⟩
   have hl1:ws.length=7:=hl1
   refine⟨Str.ofString "",D,_,rfl,rfl,.of hD1,?_,?_⟩
   . have e1:((ws.map λk=>(⟨#[k]⟩:Str)).map (·.length))=(ws.map λk=>(⟨#[k]⟩:Str)).map λ_=>1:=by
       refine List.map_congr_left λz hz=>?_
       obtain⟨c,_,rfl⟩:=List.mem_map.mp hz
       rfl
     have e2:(Str.ofString "").length=0:=by decide+kernel
     rw[e1,e2,zS,List.length_map,hl1]
     decide
   generalize hw:Txt.join (Str.ofString "") (ws.map λk=>(⟨#[k]⟩:Str))=wd
   have hW:wd.cps.toList=ws:=by rw[<-hw];exact yo ws
   have hWl:wd.length=7:=by
     show wd.cps.size=7
     rw[<-Array.length_toList,hW,hl1]
   refine⟨_,rfl,_,rfl,d,2,n1,sd,t1,rfl,hd1,by decide,by decide,λr2 n2 t2 r20 r21=>?_⟩
   refine⟨_,rfl,d,5,n2,sd,t2,rfl,qd,by decide,by decide,λr3 n3 t3 r30 r31=>?_⟩
   rw[qR]
   have e4:∃j:Nat,r2*r3=(j:Int)/\j<=4:=by
     have h2:r2=0\/r2=1:=by omega
     rcases h2 with rfl | rfl
     . exact⟨0,by omega,by omega⟩
     . exact⟨r3.toNat,by omega,by omega⟩
   obtain⟨j,ej,hj⟩:=e4
   refine⟨_,_,rfl,rfl,.inl ⟨by omega,by omega⟩,_,rfl,wd,r2*r3,rfl,rfl,rfl,by omega,?_⟩
   rw[ej]
   generalize ha:Txt.slice wd none (some (j:Int))=ah
   have hA:ah.cps.toList=ws.take j:=by rw[<-ha,Zk,hW]
   have hAl:ah.length=j:=by
     show ah.cps.size=j
     rw[<-Array.length_toList,hA,List.length_take,hl1]
     omega
   refine⟨_,rfl,d,26,n3,sd,t3,rfl,qd,by decide,by decide,λf n4 t4 f0 f1=>?_⟩
   rw[qR]
   refine⟨by show 6<=sizeLine;decide,λp hp=>?_⟩
   have npd:p≠d:=λe=>by rw[e,qd]at hp;cases hp
   refine⟨_,rfl,d,6,n4,sd,t4,rfl,(by rw[qg (Ne.symm npd)];exact qd),by decide,by decide,λr5 n5 t5 r50 r51=>?_⟩
   obtain⟨st,hst,hsa⟩:=kI r50 r51
   refine⟨p,_,r5,.int st,rfl,rfl,.of (by rw[qg npd];exact qd),hsa,?_⟩
   have fr5:Fr H d (upd (upd (upd H1 d (.dK (jR n4 sd t4))) p (.lst [V.int 1,V.int 3,V.int 5,V.int 7,V.int 9,V.int 11])) d (.dK (jR n5 sd t5))):=(fr1.at_d.new hp).at_d
   generalize hH5:upd (upd (upd H1 d (.dK (jR n4 sd t4))) p (.lst [V.int 1,V.int 3,V.int 5,V.int 7,V.int 9,V.int 11])) d (.dK (jR n5 sd t5))=H5 at fr5
   have hd5:H5 d=some (.dK (jR n5 sd t5)):=by rw[<-hH5];exact qd
   refine⟨by show 0<=sizeLine;decide,λl hl=>⟨_,rfl,m,rfl,by omega,by omega,?_⟩⟩
   have hHl:H l=none:=fr5.fresh hd5 hl
   have nld:l≠d:=λe=>by rw[e,hd5]at hl;cases hl
   refine QV (lo:=0) (n:=m) (λi σ' H'=>∃(v1 v2:Option V) (n' t':Int) (zs:List Str),σ'=[some (.ref d),some (.int m),some (.str Xa),some (.str wd),some (.str ah),some (.int f),some (.int st),some (.ref l),v1,v2]/\
     H' d=some (.dK (jR n' sd t'))/\H' l=some (.lst (zs.map V.str))/\zs.length=i/\Qg (ws.take j) f st zs/\Fr H d H')
     ⟨none,none,n5,t5,[],rfl,qh hd5 hl,qd,rfl,λj z hz=>(nomatch hz),fr5.new hl⟩ ?_ ?_
   . rintro i σ' H' hi ⟨v1,v2,n',t',zs,rfl,hd',hl',hz,hN,fr⟩
     rw[Int.zero_add]
     refine⟨_,rfl,_,rfl,_,rfl,ah,rfl,(by rw[hAl];exact Nat.le_of_lt (qj (by omega))),_,_,rfl,rfl,d,8 - (ah.length:Int),n',sd,t',rfl,hd',by omega,by omega,λr n6 t6 r0 r1=>?_⟩
     have er:r=((r.toNat:Nat):Int):=by omega
     refine⟨_,rfl,wd,r,rfl,rfl,rfl,by omega,?_⟩
     generalize hb:Txt.slice wd none (some r)=bh
     have hB:bh.cps.toList=ws.take r.toNat:=by rw[<-hb,er,Zk,hW];rfl
     have hBl:bh.length<=r.toNat:=by
       show bh.cps.size<=r.toNat
       rw[<-Array.length_toList,hB,List.length_take]
       omega
     refine⟨_,rfl,.inl ⟨rfl,_,.of (by rw[qg nld];exact hl')⟩,_,rfl,_,rfl,_,rfl,_,rfl,_,rfl,_,_,rfl,rfl,.inl ⟨by omega,by omega⟩,_,_,rfl,rfl,_,_,rfl,rfl,(by show (0:Int) < 26;decide),?_⟩
     refine⟨Xa,_,_,rfl,rfl,XU,Ut (Int.emod_nonneg _ (by decide)) (Int.emod_lt_of_pos _ (by decide)),?_⟩
     have e26:97+((f+st*(i:Int)) % 26).toNat=XD f st i:=rfl
     rw[e26]
     have l1:(ah++(⟨#[XD f st i]⟩:Str)).length=j+1:=by
       show (ah++(⟨#[XD f st i]⟩:Str)).cps.size=_
       rw[Str.cps_append,Array.size_append]
       show ah.length+1=_
       rw[hAl]
     refine⟨_,_,rfl,rfl,Nat.le_of_lt (qj (by show ah.length+1<=1000;omega)),_,rfl,_,_,rfl,rfl,Nat.le_of_lt (qj (by rw[l1];omega)),?_⟩
     refine⟨l,_,_,rfl,rfl,(by rw[qg nld];exact hl'),(by rw[List.length_map,hz];exact qj (by omega)),?_⟩
     refine⟨_,_,n6,t6,zs++[ah++(⟨#[XD f st i]⟩:Str)++bh],rfl,?_,?_,?_,?_,?_⟩
     . rw[qg (Ne.symm nld)];exact qd
     . rw[List.map_append];exact qd
     . rw[List.length_append,hz];rfl
     . refine hN.snoc (B:=ws.take r.toNat) ?_ (Yr ha1 _) ?_
       . rw[Str.cps_append,Str.cps_append,Array.toList_append,Array.toList_append,hA,hB,hz]
       . rw[List.length_take,List.length_take]
         omega
     . exact fr.at_d.own hHl
   . rintro σ' H' ⟨v1,v2,n',t',zs,rfl,hd',hl',hz,hN,fr⟩
     exact⟨_,rfl,q l zs n' t' H' hHl hl' hz (hN.names (Yr ha1 _)) (hN.nodup hst (by omega)) hd' fr⟩
end
end Rh
set_option Elab.async false
set_option linter.all false
set_option maxRecDepth 100000
set_option maxHeartbeats 4000000
namespace Rh
open PySem L2 PyProof.Rows
def Xb (t:TT) (σ:L2.St) (H:Hp):Prop:=∀Q:Bool->Hp->Prop,(∀b,Q b H)->t σ H Q
theorem Xb.and {t u:TT} {σ:L2.St} {H:Hp} (h:Xb t σ H) (k:Xb u σ H):Xb (yT t u) σ H:=λQ q=>h _ λb=>by
 cases b
 . exact jm (q false)
 . exact QX (k _ q)
theorem Xb.or {t u:TT} {σ:L2.St} {H:Hp} (h:Xb t σ H) (k:Xb u σ H):Xb (tOr t u) σ H:=λQ q=>h _ λb=>by
 cases b
 . exact jm (k _ q)
 . exact QX (q true)
theorem Ug {tc:TT} {tp:TS} {D:Qq} {σ:L2.St} {H0:Hp} (G:Hp->Prop) (h:G H0) (ht:Xb tc σ H0) (hp:∀D:Qq,(∀H',G H'->D.nx σ H')->tp D σ H0) (k:∀H',G H'->D.nx σ H'):UH tc tp Xk D σ H0:=
 ht _ λb=>by
   cases b
   . exact jm (k _ h)
   . exact QX (hp D k)
theorem Ze {tc:TT} {tp u:TS} {D:Qq} {σ:L2.St} {H0:Hp} (G:Hp->Prop) (h:G H0) (ht:Xb tc σ H0) (hp:∀D:Qq,(∀H',G H'->D.nx σ H')->tp D σ H0) (k:∀H',G H'->u D σ H'):kB (UH tc tp Xk) u D σ H0:=Ug G h ht hp k
theorem ZF {i:Nat} {v:V} {σ:L2.St} {H:Hp} {Q:L2.St->Hp->Prop} (h:Q (σ.set i (some v)) H):qT i v σ H Q:=h
abbrev up (k:Nat×Nat):Int×Int:=((k.1:Int),(k.2:Int))
def kn (a b:Nat×Nat):Prop:=a.1 < b.1\/(a.1=b.1/\a.2 < b.2)
abbrev Jz (ks:List (Nat×Nat)):List (List qO):=ks.map λk=>JM (up k)
theorem Wk {a b:Nat×Nat} (h:JM (up a)=JM (up b)):a=b:=by
 unfold JM at h
 simp only[List.cons.injEq,Sum.inl.injEq,and_true]at h
 exact Prod.ext (by have:=h.1;omega) (by have:=h.2;omega)
structure QG (m i j:Nat) (ks:List (Nat×Nat)):Prop where
 ord:ks.Pairwise kn
 lt:∀x∈ks,x.2 < m/\(x.1 < i\/(x.1=i/\x.2 < j))
 len:ks.length<=i*m+j
theorem QG.more {m i j:Nat} {ks:List (Nat×Nat)} (h:QG m i j ks):QG m i (j+1) ks:=⟨h.ord,λx hx=>by have:=h.lt x hx;omega,by have:=h.len;omega⟩
theorem QG.snoc {m i j:Nat} {ks:List (Nat×Nat)} (h:QG m i j ks) (hj:j < m):QG m i (j+1) (ks++[(i,j)]):=by
 refine⟨List.pairwise_append.mpr ⟨h.ord,List.pairwise_singleton _ _,λa ha b hb=>?_⟩,λx hx=>?_,?_⟩
 . rw[List.mem_singleton.mp hb]
   have:=h.lt a ha
   unfold kn
   omega
 . rcases List.mem_append.mp hx with hx | hx
   . have:=h.lt x hx
     omega
   . rw[List.mem_singleton.mp hx]
     exact⟨hj,.inr ⟨rfl,Nat.lt_succ_self _⟩⟩
 . rw[List.length_append]
   have:=h.len
   show ks.length+1<=_
   omega
theorem QG.row {m i:Nat} {ks:List (Nat×Nat)} (h:QG m i m ks):QG m (i+1) 0 ks:=⟨h.ord,λx hx=>by have:=h.lt x hx;omega,by have:=h.len;rw[Nat.succ_mul];omega⟩
def yI (m i j:Nat) (kvs:List (List qO×V)):Prop:=∃ks,QG m i j ks/\(kvs.map (·.1)=Jz ks\/kvs.map (·.1)=Jz (ks++[(i,j)]))
theorem XT (kvs:List (List qO×V)) (k:List qO):((kvs.any λkv=>decide (kv.1=k))=true)↔k∈kvs.map (·.1):=by
 rw[List.any_eq_true,List.mem_map]
 simp
theorem vx {kvs:List (List qO×V)} {k:List qO} (v:V) (h:k∈kvs.map (·.1)):(ju kvs k v).map (·.1)=kvs.map (·.1):=by
 unfold ju
 rw[if_pos ((XT kvs k).mpr h),List.map_map]
 refine List.map_congr_left λx _=>?_
 show (if x.1=k then (x.1,v) else x).1=x.1
 split<;>rfl
theorem VU {kvs:List (List qO×V)} {k:List qO} (v:V) (h:¬k∈kvs.map (·.1)):(ju kvs k v).map (·.1)=kvs.map (·.1)++[k]:=by
 unfold ju
 rw[if_neg (λz=>h ((XT kvs k).mp z)),List.map_append]
 rfl
theorem yI.put {m i j:Nat} {kvs:List (List qO×V)} (h:yI m i j kvs) (v:V):yI m i j (ju kvs (JM (up (i,j))) v):=by
 obtain⟨ks,ha,h⟩:=h
 refine⟨ks,ha,.inr ?_⟩
 rcases h with h | h
 . rw[VU,h,Jz,Jz,List.map_append]
   . rfl
   . rw[h]
     intro z
     obtain⟨x,hx,e⟩:=List.mem_map.mp z
     have e':=Wk e
     have:=ha.lt x hx
     rw[e']at this
     omega
 . rw[vx,h]
   rw[h]
   exact List.mem_map.mpr ⟨(i,j),by simp,rfl⟩
theorem yI.len {m i j:Nat} {kvs:List (List qO×V)} (h:yI m i j kvs):kvs.length<=i*m+j+1:=by
 obtain⟨ks,ha,h⟩:=h
 have hl:=ha.len
 rcases h with h | h
 . have:=congrArg List.length h
   simp only[List.length_map]at this
   omega
 . have:=congrArg List.length h
   simp only[List.length_map,List.length_append,List.length_singleton]at this
   omega
theorem vZ {i m:Nat} (hi:i<=m) (hm:m<=14):i*m<=196:=Nat.le_trans (Nat.mul_le_mul (Nat.le_trans hi hm) hm) (by decide)
theorem xA (xs:List V):WK xs none (some 40)=xs.take 40:=by
 unfold WK
 have e1:HT.sIx xs.length 0 none=0:=rfl
 have e2:HT.sIx xs.length xs.length (some 40)=min 40 xs.length:=by
   simp [HT.sIx]
 rw[e1,e2,List.drop_zero,Nat.sub_zero]
 by_cases h:40<=xs.length
 . rw[Nat.min_eq_left h]
 . rw[Nat.min_eq_right (by omega),List.take_of_length_le (Nat.le_refl _),List.take_of_length_le (by omega)]
def QW (H:Hp) (ps:List Addr) (ks:List (Nat×Nat)):Prop:=ps.length=ks.length/\∀(i:Nat) (p:Addr) (k:Nat×Nat),ps[i]?=some p->ks[i]?=some k->H p=some (.tup [.int (k.1:Nat),.int (k.2:Nat)])
def Xq:Sp:=λvs H Q _=>∃(d:Addr) (m:Nat) (n s t sh lo:Int),vs=[.ref d,.int m,.int sh,.int lo]/\H d=some (.dK (jR n s t))/\m<=14/\
 ∀(l:Addr) (ps:List Addr) (ks:List (Nat×Nat)) (n' t':Int) (H':Hp),H l=none->H' l=some (.lst (ps.map V.ref))->QW H' ps ks->ks.Pairwise kn->(∀x∈ks,x.1 < m/\x.2 < m)->ks.length<=40->H' d=some (.dK (jR n' s t'))->Fr H d H'->Q (.ref l) H'
section
variable {P:Program} {w:World} {K:PySem.W.Frag} {mg:Str->Option Value} {base:Heap}
abbrev yf:List Str:=["_law_source_here","_law_many","_law_shape","_law_low","_law_pairs","_law_k","_law_j","_law_way"]
abbrev Zu:List Str:=["_law_source_here","_law_many","_law_shape","_law_low"]
theorem Ja:qx yf Zu (qo Zo):=⟨rfl,rfl,rfl,by decide+kernel,rfl,by decide+kernel,by decide+kernel⟩
theorem VI {f fT:Addr} {fd fdT:FuncData} (F:Qb K "_law_leads" "_law_leads" Zo f fd) (B:J1 mg) (hso:mg "sorted"=none) (hT:Qh K mg "_law_take" Zl ["_law_source_here","_law_many"] fT fdT):FnOk P w K mg base jf 2 f fd Zu Xq:=by
 have GT:FnOk P w K mg base jf 1 fT fdT ["_law_source_here","_law_many"] Zj:=J5 hT.fn
 refine F.okJ Ja (λvs H Q E h=>?_) (λcdv A outer s H vs Q E hr h=>?_)
 . obtain⟨d,m,n,sd,t,sh,lo,rfl,_⟩:=h
   rfl
 . obtain⟨d,m,n,sd,t,sh,lo,rfl,hd,hm,q⟩:=h
   have hu:=JQ hr
   refine⟨_,qe (qB (i:=4) Ja.nd rfl (Or.inl rfl) V8)
     (qe (jt PassesOwn.never rfl (j2 (by rfl) B.rng (qb (jv 1) qf)) (qm (i:=5) Ja.nd rfl (Or.inl rfl))
       (qk (jt PassesOwn.never rfl (j2 (by rfl) B.rng (qb (jv 1) qf)) (qm (i:=6) Ja.nd rfl (Or.inl rfl))
         (qe (qB (i:=7) Ja.nd rfl (Or.inl rfl) (jg hT GT hr (by rfl) (qb (jv 0) (qb ql qf))))
         (qe (qQ (j7 (qt QF (jv 2) ql (qv _)) (jP (j6 (j7 (qt jX (jv 6) (jv 5) (qv _)) (jP (qt jX (jv 7) ql (qv _)))).pt (jE (j7 (qt VD (jv 6) (jv 5) (qv _)) (jP (qt jX (jv 7) ql (qv _)))).pt)).pt)).pt
           (qk (jQ hu (jv 4) (jG (qb (jv 5) (qb (jv 6) qf))) jh rfl)) qz)
         (qe (qQ (j7 (qt QF (jv 2) ql (qv _)) (jP (qt jX (jv 7) ql (qv _)))).pt
           (qk (jQ hu (jv 4) (jG (qb (jv 5) (qb (jv 6) qf))) jh rfl)) qz)
         (qe (qQ (j7 (qt QF (jv 2) ql (qv _)) (jP (j6 (j7 (qt QF (jv 6) (qH Qw (qH Qy (jv 5) ql) (jv 1)) (qv _)) (jP (qt jX (jv 7) ql (qv _)))).pt (jE (qt jX (jv 7) ql (qv _)))).pt)).pt
           (qk (jQ hu (jv 4) (jG (qb (jv 5) (qb (jv 6) qf))) jh rfl)) qz)
         (qe (qQ (j7 (qt QF (jv 2) ql (qv _)) (j7 (qt jX (jv 6) (jv 5) (qv _)) (jP (j6 (qt jX (jv 6) (jv 3) (qv _)) (jE (qt jX (jv 7) ql (qv _)))).pt))).pt
           (qk (jQ hu (jv 4) (jG (qb (jv 5) (qb (jv 6) qf))) jh rfl)) qz)
         (qk (qQ (j7 (qt QF (jv 2) ql (qv _)) (jP (j6 (j7 (qt jX (jv 6) (jv 3) (qv _)) (jP (qt jX (jv 6) (jv 5) (qv _)))).pt (jE (j7 (qt VD (jv 5) (jv 3) (qv _)) (jP (qt jX (jv 7) ql (qv _)))).pt)).pt)).pt
           (qk (jQ hu (jv 4) (jG (qb (jv 5) (qb (jv 6) qf))) jh rfl)) qz)))))))))
       )
     (qk (qC (ZC UQ (qr (Y5 rfl) (by rfl) hso boot_sorted (qb (jv 4) qf)) zA (zz ql))))),?_⟩
   intro D hD
   have nDd:D≠d:=λe=>by rw[e,hd]at hD;cases hD
   refine⟨_,rfl,m,rfl,by omega,by omega,?_⟩
   refine QV (lo:=0) (n:=m) (λi σ' H'=>∃(v1 v2 v3:Option V) (n' t':Int) (kvs:List (List qO×V)) (ks:List (Nat×Nat)),σ'=[some (.ref d),some (.int m),some (.int sh),some (.int lo),some (.ref D),v1,v2,v3]/\
     H' d=some (.dK (jR n' sd t'))/\H' D=some (.dT kvs)/\kvs.map (·.1)=Jz ks/\QG m i 0 ks/\Fr H d H')
     ⟨none,none,none,n,t,[],[],rfl,qh hd hD,qd,rfl,⟨.nil,λx hx=>(nomatch hx),Nat.zero_le _⟩,Fr.refl.new hD⟩ ?_ ?_
   . rintro i σ' H' hi ⟨v1,v2,v3,n',t',kvs,ks,rfl,hd',hD',ek,ha,fr⟩
     rw[Int.zero_add]
     refine⟨_,rfl,m,rfl,by omega,by omega,?_⟩
     refine QV (lo:=0) (n:=m) (λj σ' H'=>∃(v2 v3:Option V) (n' t':Int) (kvs:List (List qO×V)) (ks:List (Nat×Nat)),σ'=[some (.ref d),some (.int m),some (.int sh),some (.int lo),some (.ref D),some (.int i),v2,v3]/\
       H' d=some (.dK (jR n' sd t'))/\H' D=some (.dT kvs)/\kvs.map (·.1)=Jz ks/\QG m i j ks/\Fr H d H')
       ⟨_,_,n',t',kvs,ks,rfl,hd',hD',ek,ha,fr⟩ ?_ ?_
     . rintro j σ' H2 hj ⟨v2,v3,n2,t2,kvs,ks,rfl,hd2,hD2,ek,ha,fr⟩
       rw[Int.zero_add]
       refine⟨_,rfl,d,12,n2,sd,t2,rfl,hd2,by decide,by decide,λr n3 t3 r0 r1=>?_⟩
       have hsq:=vZ (Nat.le_of_lt hi) hm
       let G:Hp->Prop:=λH'=>∃(kvs:List (List qO×V)),H' d=some (.dK (jR n3 sd t3))/\H' D=some (.dT kvs)/\yI m i j kvs/\Fr H d H'
       have g0:G (upd H2 d (.dK (jR n3 sd t3))):=⟨kvs,qd,(by rw[qg nDd];exact hD2),⟨ks,ha,.inl ek⟩,fr.at_d⟩
       have put:∀H',G H'->∀E:Qq,(∀H',G H'->E.nx [some (.ref d),some (.int m),some (.int sh),some (.int lo),some (.ref D),some (.int i),some (.int j),some (.int r)] H')->
           kh (qV 4) (YC (qS (qV 5) (qS (qV 6) j4))) (tC (.bl true)) E [some (.ref d),some (.int m),some (.int sh),some (.int lo),some (.ref D),some (.int i),some (.int j),some (.int r)] H':=by
         rintro H' ⟨kvs,h1,h2,h3,h4⟩ E k
         refine⟨_,rfl,_,rfl,_,rfl,by show 2<=sizeLine;decide,λp hp=>?_⟩
         have npd:p≠d:=λe=>by rw[e,h1]at hp;cases hp
         have npD:p≠D:=λe=>by rw[e,h2]at hp;cases hp
         refine⟨D,_,rfl,Jp.t (k:=JM (up (i,j))) (kvs:=kvs) (by rw[qg (Ne.symm npD)];exact h2) qd (qj (by have:=h3.len;omega)),?_⟩
         refine k _ ⟨_,?_,qd,h3.put _,?_⟩
         . rw[qg (Ne.symm nDd),qg (Ne.symm npd)]
           exact h1
         . exact(h4.new hp).own hD
       refine ZF ?_
       dsimp only[List.set]
       refine Ze G g0 ?_ (put _ g0) λH3 g3=>?_
       . exact Xb.and (λQ q=>⟨_,rfl,rfl,_,rfl,q _⟩) (.or (.and (λQ q=>⟨_,rfl,_,rfl,_,_,rfl,rfl,_,rfl,q _⟩) (λQ q=>⟨_,rfl,_,_,rfl,rfl,_,rfl,q _⟩)) (.and (λQ q=>⟨_,rfl,_,rfl,_,_,rfl,rfl,_,rfl,q _⟩) (λQ q=>⟨_,rfl,_,_,rfl,rfl,_,rfl,q _⟩)))
       refine Ze G g3 ?_ (put _ g3) λH4 g4=>?_
       . exact Xb.and (λQ q=>⟨_,rfl,rfl,_,rfl,q _⟩) (λQ q=>⟨_,rfl,_,_,rfl,rfl,_,rfl,q _⟩)
       refine Ze G g4 ?_ (put _ g4) λH5 g5=>?_
       . exact Xb.and (λQ q=>⟨_,rfl,rfl,_,rfl,q _⟩) (.or (.and (λQ q=>⟨_,rfl,_,rfl,_,_,rfl,rfl,_,rfl,_,_,rfl,rfl,(by show (0:Int) < m;omega),rfl,_,rfl,q _⟩) (λQ q=>⟨_,rfl,_,_,rfl,rfl,_,rfl,q _⟩)) (λQ q=>⟨_,rfl,_,_,rfl,rfl,_,rfl,q _⟩))
       refine Ze G g5 ?_ (put _ g5) λH6 g6=>?_
       . exact Xb.and (λQ q=>⟨_,rfl,rfl,_,rfl,q _⟩) (.and (λQ q=>⟨_,rfl,_,rfl,_,_,rfl,rfl,_,rfl,q _⟩) (.or (λQ q=>⟨_,rfl,_,rfl,_,_,rfl,rfl,_,rfl,q _⟩) (λQ q=>⟨_,rfl,_,_,rfl,rfl,_,rfl,q _⟩)))
       refine Ug G g6 ?_ (put _ g6) λH7 g7=>?_
       . exact Xb.and (λQ q=>⟨_,rfl,rfl,_,rfl,q _⟩) (.or (.and (λQ q=>⟨_,rfl,_,rfl,_,_,rfl,rfl,_,rfl,q _⟩) (λQ q=>⟨_,rfl,_,rfl,_,_,rfl,rfl,_,rfl,q _⟩)) (.and (λQ q=>⟨_,rfl,_,rfl,_,_,rfl,rfl,_,rfl,q _⟩) (λQ q=>⟨_,rfl,_,_,rfl,rfl,_,rfl,q _⟩)))
       obtain⟨kvs,h1,h2,⟨ks,ha,h3⟩,h4⟩:=g7
       rcases h3 with h3 | h3
       . exact⟨_,_,n3,t3,kvs,ks,rfl,h1,h2,h3,ha.more,h4⟩
       . exact⟨_,_,n3,t3,kvs,_,rfl,h1,h2,h3,ha.snoc hj,h4⟩
     . rintro σ' H2 ⟨v2,v3,n2,t2,kvs,ks,rfl,hd2,hD2,ek,ha,fr⟩
       exact⟨_,_,_,n2,t2,kvs,ks,rfl,hd2,hD2,ek,ha.row,fr⟩
   . rintro σ' H1 ⟨v1,v2,v3,n1,t1,kvs,ks,rfl,hd1,hD1,ek,ha,fr⟩
     have hl:kvs.length=ks.length:=by simpa using congrArg List.length ek
     have hsq:=vZ (Nat.le_refl m) hm
     have hal:=ha.len
     refine⟨_,rfl,D,kvs,ks.map up,rfl,hD1,?_,?_,by omega,λl ps hfl lps tup=>?_⟩
     . rw[ek,List.map_map]
       rfl
     . intro i k k' e1 e2
       rw[List.getElem?_map]at e1 e2
       cases e3:ks[i]? with
       | none=>rw[e3]at e1;cases e1
       | some a=>
         cases e4:ks[i+1]? with
         | none=>rw[e4]at e2;cases e2
         | some b=>
           rw[e3]at e1
           rw[e4]at e2
           obtain rfl:=(Option.some.inj e1).symm
           obtain rfl:=(Option.some.inj e2).symm
           have h5:=List.pairwise_iff_getElem.mp ha.ord i (i+1) (List.getElem?_eq_some_iff.mp e3).1 (List.getElem?_eq_some_iff.mp e4).1 (Nat.lt_succ_self _)
           rw[(List.getElem?_eq_some_iff.mp e3).2,(List.getElem?_eq_some_iff.mp e4).2]at h5
           unfold kn at h5
           show Zz _ _
           unfold Zz
           show (a.1:Int) < b.1\/((a.1:Int)=b.1/\(a.2:Int) < b.2)
           omega
     . refine⟨40,rfl,l,_,rfl,.of qd,λl2 hl2=>?_⟩
       rw[xA,<-List.map_take]
       have n2d:l2≠d:=λe=>by
         rw[e,qh hd1 hfl]at hl2
         cases hl2
       have hl1:H1 l2=none:=by
         by_cases e:l2=l
         . rw[e];exact hfl
         . rw[qg e]at hl2;exact hl2
       have fr2:=(fr.new (o:=.lst (ps.map V.ref)) hfl).new (o:=.lst ((ps.take 40).map V.ref)) hl2
       refine q l2 (ps.take 40) (ks.take 40) n1 t1 _ (fr.fresh hd1 hl1) qd ⟨?_,λi p k e1 e2=>?_⟩ ?_ ?_ ?_ ?_ fr2
       . rw[List.length_take,List.length_take,lps,List.length_map]
       . have i40:i < 40:=by
           have:=(List.getElem?_eq_some_iff.mp e1).1
           rw[List.length_take]at this
           omega
         rw[List.getElem?_take_of_lt i40]at e1 e2
         have h1:=tup i p (up k) e1 (by rw[List.getElem?_map,e2];rfl)
         exact qh (qh h1 hfl) hl2
       . exact ha.ord.sublist (List.take_sublist _ _)
       . intro x hx
         have:=ha.lt x (List.mem_of_mem_take hx)
         omega
       . rw[List.length_take]
         omega
       . exact qh (qh hd1 hfl) hl2
end
end Rh
set_option Elab.async false
set_option linter.all false
set_option maxRecDepth 100000
set_option maxHeartbeats 4000000
namespace Rh
open PySem L2 PyProof.Rows
structure qN (rs:List (Str×List Str)):Prop where
 nm:∀r∈rs,qD r.1=true
 nd:(rs.map (·.1)).Nodup
 to:∀r∈rs,∀z∈r.2,z∈rs.map (·.1)
 rd:∀r∈rs,r.2.Nodup
 few:(rs.map λr=>r.2.length).sum<=40
def QL (zs:List Str) (j:Nat):Str:=zs.getD j ⟨#[]⟩
theorem Xg {zs:List Str} {j:Nat} (h:j < zs.length):QL zs j∈zs:=by
 unfold QL
 rw[List.getD_eq_getElem?_getD,List.getElem?_eq_getElem h]
 exact List.getElem_mem h
theorem zm {zs:List Str} {j:Nat} (h:j < zs.length):zs[j]?=some (QL zs j):=by
 unfold QL
 rw[List.getD_eq_getElem?_getD,List.getElem?_eq_getElem h]
 rfl
theorem Xh {zs:List Str} (hn:zs.Nodup) {i j:Nat} (hi:i < zs.length) (hj:j < zs.length) (h:QL zs i=QL zs j):i=j:=by
 have h1:=zm hi
 have h2:=zm hj
 rw[h,<-h2,List.getElem?_eq_getElem hi,List.getElem?_eq_getElem hj]at h1
 have e:zs[i]=zs[j]:=Option.some.inj h1
 rcases Nat.lt_trichotomy i j with l | l | l
 . exact absurd e (List.pairwise_iff_getElem.mp hn i j hi hj l)
 . exact l
 . exact absurd e.symm (List.pairwise_iff_getElem.mp hn j i hj hi l)
theorem Jw {α β:Type} {f:α->β}:∀{l:List α},l.Nodup->(∀a∈l,∀b∈l,f a=f b->a=b)->(l.map f).Nodup
 | [],_,_=>List.nodup_nil
 | a::l,h,k=>by
   rw[List.map_cons,List.nodup_cons]
   rw[List.nodup_cons]at h
   refine⟨λz=>?_,Jw h.2 λx hx y hy=>k x (List.mem_cons_of_mem _ hx) y (List.mem_cons_of_mem _ hy)⟩
   obtain⟨b,hb,e⟩:=List.mem_map.mp z
   have:=k b (List.mem_cons_of_mem _ hb) a (List.mem_cons_self) e
   subst this
   exact h.1 hb
def ZW (ks:List (Nat×Nat)) (k:Nat):List Nat:=(ks.filter λx=>decide (x.1=k)).map (·.2)
theorem XY {ks:List (Nat×Nat)} (h:ks.Pairwise kn) (k:Nat):(ZW ks k).Nodup:=by
 have h1:(ks.filter λx=>decide (x.1=k)).Pairwise kn:=h.sublist (List.filter_sublist)
 refine List.pairwise_map.mpr (List.Pairwise.imp_of_mem (λ{a b} ha hb r=>?_) h1)
 have e1:a.1=k:=of_decide_eq_true (List.mem_filter.mp ha).2
 have e2:b.1=k:=of_decide_eq_true (List.mem_filter.mp hb).2
 unfold kn at r
 omega
theorem YA {ks:List (Nat×Nat)} {m:Nat} (h:∀x∈ks,x.1 < m/\x.2 < m) (k:Nat):∀j∈ZW ks k,j < m:=λj hj=>by
 obtain⟨x,hx,e⟩:=List.mem_map.mp hj
 have:=(h x (List.mem_filter.mp hx).1).2
 omega
theorem UL (os:List Nat) (f g:Nat->Nat):(os.map λk=>f k+g k).sum=(os.map f).sum+(os.map g).sum:=by
 induction os with
 | nil=>rfl
 | cons a os ih=>
   simp only[List.map_cons,List.sum_cons,ih]
   omega
theorem UK {os:List Nat} (h:os.Nodup) (a:Nat):(os.map λk=>if a=k then 1 else 0).sum<=1:=by
 induction os with
 | nil=>exact Nat.zero_le _
 | cons b os ih=>
   rw[List.nodup_cons]at h
   rw[List.map_cons,List.sum_cons]
   by_cases e:a=b
   . subst e
     have z:(os.map λk=>if a=k then 1 else 0)=os.map λ_=>0:=List.map_congr_left λk hk=>by
       rw[if_neg]
       intro e
       subst e
       exact h.1 hk
     rw[z,if_pos rfl]
     have:(os.map λ_=>0).sum=0:=by
       clear z ih h
       induction os with
       | nil=>rfl
       | cons c os ih=>rw[List.map_cons,List.sum_cons,ih]
     omega
   . rw[if_neg e]
     have:=ih h.2
     omega
theorem Xj {os:List Nat} (h:os.Nodup):∀ks:List (Nat×Nat),(os.map λk=>(ZW ks k).length).sum<=ks.length
 | []=>by
   have:(os.map λk=>(ZW [] k).length).sum=0:=by
     clear h
     induction os with
     | nil=>rfl
     | cons c os ih=>rw[List.map_cons,List.sum_cons,ih];rfl
   omega
 | x::ks=>by
   have e:(os.map λk=>(ZW (x::ks) k).length)=os.map λk=>(if x.1=k then 1 else 0)+(ZW ks k).length:=List.map_congr_left λk _=>by
     unfold ZW
     rw[List.filter_cons]
     by_cases z:x.1=k
     . rw[if_pos (decide_eq_true z),if_pos z]
       simp only[List.map_cons,List.length_cons]
       omega
     . rw[if_neg (by simpa using z),if_neg z,Nat.zero_add]
   rw[e,UL,List.length_cons]
   have:=UK h x.1
   have:=Xj h ks
   omega
def Qn (zs:List Str) (ks:List (Nat×Nat)) (ab:Bool) (k:Nat):Str×List Str:=
 (QL zs k,if ab=true then ((ZW ks k).map (QL zs)).reverse else (ZW ks k).map (QL zs))
theorem Wc {zs:List Str} {ks:List (Nat×Nat)} {ab:Bool} {k:Nat} {z:Str}:z∈(Qn zs ks ab k).2↔z∈(ZW ks k).map (QL zs):=by
 unfold Qn
 cases ab
 . rw[if_neg Bool.false_ne_true]
 . rw[if_pos rfl,List.mem_reverse]
theorem Wd {zs:List Str} {ks:List (Nat×Nat)} {ab:Bool} {k:Nat}:(Qn zs ks ab k).2.length=(ZW ks k).length:=by
 unfold Qn
 cases ab
 . rw[if_neg Bool.false_ne_true,List.length_map]
 . rw[if_pos rfl,List.length_reverse,List.length_map]
structure Yu (m:Nat) (os:List Nat):Prop where
 len:os.length=m
 nd:os.Nodup
 lt:∀k∈os,k < m
 all:∀j,j < m->j∈os
theorem WE {zs:List Str} {ks:List (Nat×Nat)} {os:List Nat} {m:Nat} (ab:Bool) (hz:zs.length=m) (hN:∀z∈zs,qD z=true) (hd:zs.Nodup) (hk:ks.Pairwise kn) (hl:∀x∈ks,x.1 < m/\x.2 < m) (h40:ks.length<=40) (ho:Yu m os):
   qN (os.map (Qn zs ks ab)):=by
 have e1:(os.map (Qn zs ks ab)).map (·.1)=os.map (QL zs):=by rw[List.map_map];rfl
 have inj:∀a∈os,∀b∈os,QL zs a=QL zs b->a=b:=λa ha b hb e=>Xh hd (by rw[hz];exact ho.lt a ha) (by rw[hz];exact ho.lt b hb) e
 refine⟨λr hr=>?_,?_,λr hr z hz'=>?_,λr hr=>?_,?_⟩
 . obtain⟨k,hk',rfl⟩:=List.mem_map.mp hr
   exact hN _ (Xg (by rw[hz];exact ho.lt k hk'))
 . rw[e1]
   exact Jw ho.nd inj
 . obtain⟨k,hk',rfl⟩:=List.mem_map.mp hr
   rw[Wc]at hz'
   obtain⟨j,hj,rfl⟩:=List.mem_map.mp hz'
   rw[e1]
   exact List.mem_map.mpr ⟨j,ho.all j (YA hl k j hj),rfl⟩
 . obtain⟨k,hk',rfl⟩:=List.mem_map.mp hr
   have h1:((ZW ks k).map (QL zs)).Nodup:=Jw (XY hk k) λa ha b hb e=>Xh hd (by rw[hz];exact YA hl k a ha) (by rw[hz];exact YA hl k b hb) e
   show (if ab=true then _ else _:List Str).Nodup
   cases ab
   . rw[if_neg Bool.false_ne_true]
     exact h1
   . rw[if_pos rfl]
     exact List.pairwise_reverse.mpr (h1.imp λh=>Ne.symm h)
 . have e2:((os.map (Qn zs ks ab)).map λr=>r.2.length)=os.map λk=>(ZW ks k).length:=by
     rw[List.map_map]
     exact List.map_congr_left λk _=>Wd
   rw[e2]
   exact Nat.le_trans (Xj ho.nd ks) h40
theorem VA (m:Nat):Yu m (List.range m):=⟨List.length_range,List.nodup_range,λk h=>List.mem_range.mp h,λj h=>List.mem_range.mpr h⟩
theorem YU (m:Nat):Yu m (Jk m):=⟨by rw[Jk,List.length_reverse,List.length_range],List.pairwise_reverse.mpr (List.nodup_range.imp λh=>Ne.symm h),λk h=>List.mem_range.mp (List.mem_reverse.mp h),λj h=>List.mem_reverse.mpr (List.mem_range.mpr h)⟩
def JR (m:Nat):List Nat:=(List.range m).map λk=>k*5 % m
theorem WG:∀m,m < 15->(JR m).Nodup->∀j,j < m->j∈JR m:=by decide+kernel
theorem zZ {m:Nat} (hm:m<=14) (h0:0 < m) (h:(JR m).Nodup):Yu m (JR m):=
 ⟨by rw[JR,List.length_map,List.length_range],h,λk hk=>by obtain⟨x,_,rfl⟩:=List.mem_map.mp hk;exact Nat.mod_lt _ h0,WG m (by omega) h⟩
theorem Z4 (val:Nat->Int):∀i,(firstMet val i).length=i->((List.range i).map val).Nodup
 | 0,_=>List.nodup_nil
 | i+1,h=>by
   have h1:=firstMet_any val i (val i)
   have h2:=firstMet_length_le val i
   rw[firstMet_succ]at h
   unfold step_dedup at h
   split at h
   . omega
   . rename_i z
     rw[List.length_append,List.length_singleton]at h
     rw[List.range_succ,List.map_append,List.nodup_append]
     refine⟨Z4 val i (by omega),by simp,λa ha b hb e=>?_⟩
     have eb:b=val i:=by simpa using hb
     subst eb
     subst e
     refine z ?_
     rw[h1,List.any_eq_true]
     exact⟨_,ha,by simp⟩
theorem yg {os:List Nat} (h:¬(firstMet (λi=>(os.map λk=>((k:Nat):Int)).getD i 0) (os.map λk=>((k:Nat):Int)).length).length < os.length):os.Nodup:=by
 have h1:=firstMet_length_le (λi=>(os.map λk=>((k:Nat):Int)).getD i 0) (os.map λk=>((k:Nat):Int)).length
 have h2:=Z4 (λi=>(os.map λk=>((k:Nat):Int)).getD i 0) (os.map λk=>((k:Nat):Int)).length (by rw[List.length_map]at h1 h ⊢;omega)
 have e:(List.range (os.map λk=>((k:Nat):Int)).length).map (λi=>(os.map λk=>((k:Nat):Int)).getD i 0)=os.map λk=>((k:Nat):Int):=by
   refine List.ext_getElem? λi=>?_
   rw[List.getElem?_map]
   by_cases hi:i < (os.map λk=>((k:Nat):Int)).length
   . rw[List.getElem?_range hi,List.getElem?_eq_getElem hi]
     simp only[Option.map_some,List.getD_eq_getElem?_getD,List.getElem?_eq_getElem hi,Option.getD_some]
   . rw[List.getElem?_eq_none (by rw[List.length_range];omega),List.getElem?_eq_none (by omega)]
     rfl
 rw[e]at h2
 refine(List.pairwise_map.mp h2).imp λh e=>h (by rw[e])
end Rh
set_option Elab.async false
set_option linter.all false
set_option maxRecDepth 100000
set_option maxHeartbeats 4000000
namespace Rh
open PySem L2 PyProof.Rows
def qF (H:Hp) (ps:List Addr) (rs:List (Str×List Str)):Prop:=ps.length=rs.length/\∀(i:Nat) (p:Addr) (r:Str×List Str),ps[i]?=some p->rs[i]?=some r->∃q,H p=some (.tup [.str r.1,.ref q])/\H q=some (.tup (r.2.map V.str))
def W7:Sp:=λvs H Q _=>∃(d:Addr) (mo:Nat) (n s t:Int),vs=[.ref d,.int mo]/\H d=some (.dK (jR n s t))/\0 < mo/\mo<=14/\
 ∀(l:Addr) (ps:List Addr) (rs:List (Str×List Str)) (n' t':Int) (H':Hp),H l=none->H' l=some (.lst (ps.map V.ref))->qF H' ps rs->qN rs->0 < rs.length->rs.length<=mo->H' d=some (.dK (jR n' s t'))->Fr H d H'->Q (.ref l) H'
structure QE (mg:Str->Option Value):Prop where
 srt:mg "sorted"=none
 lst:mg "list"=none
 rev:mg "reversed"=none
 set:mg "set"=none
 tup:mg "tuple"=none
theorem qF.mono {H H':Hp} {ps:List Addr} {rs:List (Str×List Str)} (h:qF H ps rs) (s:Same H H'):qF H' ps rs:=⟨h.1,λi p r e1 e2=>let ⟨q,a,b⟩:=h.2 i p r e1 e2;⟨q,s _ _ a,s _ _ b⟩⟩
theorem QW.mono {H H':Hp} {ps:List Addr} {ks:List (Nat×Nat)} (h:QW H ps ks) (s:Same H H'):QW H' ps ks:=⟨h.1,λi p k e1 e2=>s _ _ (h.2 i p k e1 e2)⟩
theorem Fr.same {H H' H'':Hp} {d:Addr} (h:Fr H d H') (s:Same H' H''):Fr H d H'':=λb u hb hn=>s _ _ (h b u hb hn)
theorem qF.snoc {H:Hp} {ps:List Addr} {rs:List (Str×List Str)} (h:qF H ps rs) {p q:Addr} {r:Str×List Str} (hp:H p=some (.tup [.str r.1,.ref q])) (hq:H q=some (.tup (r.2.map V.str))):qF H (ps++[p]) (rs++[r]):=by
 refine⟨by rw[List.length_append,List.length_append,h.1];rfl,λi p' r' e1 e2=>?_⟩
 by_cases hi:i < ps.length
 . rw[List.getElem?_append_left hi]at e1
   rw[List.getElem?_append_left (by rw[<-h.1];exact hi)]at e2
   exact h.2 i p' r' e1 e2
 . have hi':i=ps.length:=by
     have:=(List.getElem?_eq_some_iff.mp e1).1
     rw[List.length_append,List.length_singleton]at this
     omega
   subst hi'
   rw[List.getElem?_append_right (Nat.le_refl _),Nat.sub_self]at e1
   rw[h.1,List.getElem?_append_right (Nat.le_refl _),Nat.sub_self]at e2
   obtain rfl:=(Option.some.inj e1).symm
   obtain rfl:=(Option.some.inj e2).symm
   exact⟨q,hp,hq⟩
theorem qF.upd_lst {H:Hp} {ps:List Addr} {rs:List (Str×List Str)} {l:Addr} {xs:List V} {o:HO} (h:qF H ps rs) (hl:H l=some (.lst xs)):qF (upd H l o) ps rs:=by
 refine⟨h.1,λi p r e1 e2=>?_⟩
 obtain⟨q,a,b⟩:=h.2 i p r e1 e2
 refine⟨q,?_,?_⟩
 . rw[qg (λe=>by rw[e,hl]at a;cases a)]
   exact a
 . rw[qg (λe=>by rw[e,hl]at b;cases b)]
   exact b
theorem Y0 {tc:TT} {tp u:TS} {D:Qq} {σ:L2.St} {H0:Hp} (R:Bool->Hp->Prop) (G:L2.St->Hp->Prop) (ht:∀Q:Bool->Hp->Prop,(∀b H1,R b H1->Q b H1)->tc σ H0 Q)
   (hT:∀H1,R true H1->∀D':Qq,(∀σ' H',G σ' H'->D'.nx σ' H')->tp D' σ H1) (hF:∀H1,R false H1->G σ H1) (k:∀σ' H',G σ' H'->u D σ' H'):kB (UH tc tp Xk) u D σ H0:=
 ht _ λb H1 r=>by
   cases b
   . exact jm (k _ _ (hF _ r))
   . exact QX (hT _ r _ k)
theorem Xf {zs:List Str} {j:Nat} (h:j < zs.length):Y9 (zs.map V.str) ((j:Nat):Int)=some (V.str (QL zs j)):=j1 (by rw[List.getElem?_map,zm h];rfl)
theorem WY {ks:List (Nat×Nat)} {j:Nat} {x:Nat×Nat} (k:Nat) (h:ks[j]?=some x):ZW (ks.take (j+1)) k=ZW (ks.take j) k++if x.1=k then [x.2] else []:=by
 unfold ZW
 rw[List.take_add_one,h,List.filter_append,List.map_append]
 congr 1
 by_cases e:x.1=k
 . rw[if_pos e]
   simp [e]
 . rw[if_neg e]
   simp [e]
abbrev oL (os:List Nat):List V:=os.map λk=>V.int ((k:Nat):Int)
theorem vo (os:List Nat):oL os=(os.map λk=>((k:Nat):Int)).map V.int:=by rw[List.map_map];rfl
section
variable {P:Program} {w:World} {K:PySem.W.Frag} {mg:Str->Option Value} {base:Heap}
abbrev xn:List Str:=["_law_source_here","_law_most","_law_many","_law_names_here","_law_shape","_law_pairs","_law_about","_law_order","_law_rows_here","_law_k","_law_leads_here"]
theorem jV:qx xn ["_law_source_here","_law_most"] (qo Xu):=⟨rfl,rfl,rfl,by decide+kernel,rfl,by decide+kernel,by decide+kernel⟩
abbrev xB:List Str:=["_law_one","_law_j","_law_k","_law_names_here"]
theorem XQ:xB.Nodup:=by decide+kernel
theorem va {f fT fN fL:Addr} {fd fdT fdN fdL:FuncData} (F:Qb K "_law_rows" "_law_rows" Xu f fd) (B:J1 mg) (G:QE mg) (hT:Qh K mg "_law_take" Zl ["_law_source_here","_law_many"] fT fdT)
   (hN:Qh K mg "_law_names" Zn ["_law_source_here","_law_many"] fN fdN) (hL:Qh K mg "_law_leads" Zo Zu fL fdL):FnOk P w K mg base jf 3 f fd ["_law_source_here","_law_most"] W7:=by
 have GT:FnOk P w K mg base jf 1 fT fdT ["_law_source_here","_law_many"] Zj:=J5 hT.fn
 have GN:FnOk P w K mg base jf 2 fN fdN ["_law_source_here","_law_many"] Xp:=VH hN.fn B hT
 have GL:FnOk P w K mg base jf 2 fL fdL Zu Xq:=VI hL.fn B G.srt hT
 refine F.okJ jV (λvs H Q E h=>?_) (λcdv A outer s H vs Q E hr h=>?_)
 . obtain⟨d,m,n,sd,t,rfl,_⟩:=h
   rfl
 . obtain⟨d,mo,n,sd,t,rfl,hd,hmo,hm14,q⟩:=h
   have r1:qU 1 _:=hr.mono (by decide)
   refine⟨_,qe (qB (i:=2) jV.nd rfl (Or.inr rfl) (qH Qy ql (jg hT GT r1 (by rfl) (qb (jv 0) (qb (jv 1) qf)))))
     (qe (qB (i:=3) jV.nd rfl (Or.inr rfl) (jg hN GN hr (by rfl) (qb (jv 0) (qb (jv 2) qf))))
     (qe (qB (i:=4) jV.nd rfl (Or.inl rfl) (jg hT GT r1 (by rfl) (qb (jv 0) (qb ql qf))))
     (qe (qB (i:=5) jV.nd rfl (Or.inl rfl) (jg hL GL hr (by rfl) (qb (jv 0) (qb (jv 2) (qb (jv 4) (qb (qH Qy ql (jg hT GT r1 (by rfl) (qb (jv 0) (qb ql qf)))) qf))))))
     (qe (qB (i:=6) jV.nd rfl (Or.inl rfl) (j0 QF (jg hT GT r1 (by rfl) (qb (jv 0) (qb ql qf))) ql (qv _)))
     (qe (qB (i:=7) jV.nd rfl (Or.inl rfl) (xv rfl (by rfl) G.lst (by rfl) B.rng (jv 2)))
     (qe (qQ (jp (jv 6)) (qk (Qo (i:=7) (N':=["_law_k","_law_many"]) (ix:=[none,some 2]) jV.nd rfl (Or.inl rfl) rfl ⟨rfl,rfl,rfl,rfl,rfl⟩ (j2 (by rfl) B.rng (qb (jv 2) qf))
         (λC s2 H2 fp pins=>⟨qm (i:=0) (show (["_law_k","_law_many"]:List Str).Nodup by decide+kernel) rfl (Or.inl rfl),qM,qH Qw (qH Qv (jv 0) ql) (jv 1)⟩))) qz)
     (qe (qQ (qt jX (qr Yp (by rfl) B.len boot_len (qb (jc (WM rfl) (by rfl) G.set boot_set (qb (jv 7) qf)) qf)) (jv 2) (qv _))
         (qk (qB (i:=7) jV.nd rfl (Or.inl rfl) (yp rfl (by rfl) G.lst (by rfl) G.rev (by rfl) B.rng (jv 2)))) qz)
     (qe (qB (i:=8) jV.nd rfl (Or.inl rfl) (jH qf))
     (qe (jt PassesOwn.never rfl (qA (jv 7)) (qm (i:=9) jV.nd rfl (Or.inr rfl))
       (qe (Qo (i:=10) (N':=xB) (ix:=[none,none,some 9,some 3]) (g:=JB K 2 (ji (qT 0) (ji (qT 1) JD))) (te:=YE (U3 K) (qV 3) (qV 1)) jV.nd rfl (Or.inl rfl) rfl ⟨rfl,rfl,rfl,rfl,rfl⟩ (qA (jv 5))
           (λC s2 H2 fp pins=>⟨jF rfl (qy (qm (i:=0) XQ rfl (Or.inl rfl)) (qy (qm (i:=1) XQ rfl (Or.inl rfl)) jn)),
             Zb (qt QF (jv 0) (jv 2) (qv _)),jq jr (jv 3) (jv 1) (λ_ _=>rfl)⟩))
       (qe (qQ (jp (jv 6)) (qk (qX (zB PySem.F.plainAttrs_list PySem.F.slot_list_reverse PySem.F.type_list_reverse Zx (jv 10)))) qz)
       (qk (qX (Jh PySem.F.plainAttrs_list PySem.F.slot_list_append PySem.F.type_list_append jk (jv 8) (qb
         (jG (qb (jq jr (jv 3) (jv 9) (λ_ _=>rfl)) (qb (jc jx (by rfl) G.tup boot_tuple (qb (jv 10) qf)) qf))) qf)))))))
     (qk (qC (jv 8)))))))))))),?_⟩
   refine⟨_,rfl,_,rfl,d,mo,n,sd,t,rfl,hd,by omega,by omega,λr n1 t1 r0 r1=>⟨_,_,rfl,rfl,?_⟩⟩
   obtain⟨m,em,m0,m1⟩:∃m:Nat,1+r=(m:Int)/\0 < m/\m<=mo:=⟨(1+r).toNat,by omega,by omega,by omega⟩
   have em':(λi j:Int=>V.int (i+j)) 1 r=V.int (m:Int):=congrArg V.int em
   rw[em']
   refine⟨_,rfl,_,rfl,d,m,n1,sd,t1,rfl,qd,by omega,λlz zs n2 t2 H2 hlz hlz' zl zn znd hd2 fr2=>?_⟩
   have fr2:Fr H d H2:=Fr.refl.at_d.trans fr2
   refine⟨_,rfl,d,5,n2,sd,t2,rfl,hd2,by decide,by decide,λsh n3 t3 _ _=>?_⟩
   refine⟨_,rfl,_,rfl,_,rfl,_,rfl,d,5,n3,sd,t3,rfl,qd,by decide,by decide,λlw n4 t4 _ _=>⟨_,_,rfl,rfl,d,m,n4,sd,t4,sh,1+lw,rfl,qd,by omega,λlp ps ks n5 t5 H5 hlp hlp' pat kord klt k40 hd5 fr5=>?_⟩⟩
   have nzd:lz≠d:=λe=>by rw[e,qd]at hlz;cases hlz
   have hz5:H5 lz=some (.lst (zs.map V.str)):=fr5 _ _ (by rw[qg nzd,qg nzd];exact hlz') nzd
   have fr5:Fr H d H5:=fr2.at_d.at_d.trans fr5
   refine⟨_,rfl,d,2,n5,sd,t5,rfl,hd5,by decide,by decide,λab n6 t6 _ _=>⟨rfl,?_⟩⟩
   generalize decide (V.int ab=V.int 1)=b
   have npd:lp≠d:=λe=>by rw[e,qd]at hlp;cases hlp
   have fr6:Fr H d (upd H5 d (.dK (jR n6 sd t6))):=fr5.at_d
   have hd6:upd H5 d (.dK (jR n6 sd t6)) d=some (.dK (jR n6 sd t6)):=qd
   have hz6:upd H5 d (.dK (jR n6 sd t6)) lz=some (.lst (zs.map V.str)):=by rw[qg nzd];exact hz5
   have hp6:upd H5 d (.dK (jR n6 sd t6)) lp=some (.lst (ps.map V.ref)):=by rw[qg npd];exact hlp'
   have pat6:QW (upd H5 d (.dK (jR n6 sd t6))) ps ks:=⟨pat.1,λi p k e1 e2=>by
     have h1:=pat.2 i p k e1 e2
     have:p≠d:=λe=>by rw[e,hd5]at h1;cases h1
     rw[qg this]
     exact h1⟩
   generalize upd H5 d (.dK (jR n6 sd t6))=H6 at fr6 hd6 hz6 hp6 pat6
   refine⟨_,rfl,m,rfl,by omega,λlo hlo=>?_⟩
   refine ZF ?_
   dsimp only[List.set]
   refine Y0 (λc H'=>c=b/\H'=upd H6 lo (.lst (vT m))) (λσ' H'=>∃lo os,σ'=[some (.ref d),some (.int mo),some (.int m),some (.ref lz),some (.int sh),some (.ref lp),some (.bl b),some (.ref lo),none,none,none]/\Same H6 H'/\H6 lo=none/\H' lo=some (.lst (oL os))/\(os=List.range m\/os=JR m))
     (λQ k=>⟨_,rfl,b,rfl,k _ _ ⟨rfl,rfl⟩⟩) ?_ ?_ ?_
   . rintro H1 ⟨rfl,rfl⟩ D' k
     refine⟨_,rfl,m,rfl,by omega,by omega,λD hD=>?_⟩
     refine zf (λi σ' H'=>∃v:Option V,σ'=[v,some (.int m)]/\H'=upd (upd H6 lo (.lst (vT m))) D (.lst (oL ((List.range i).map λk=>k*5 % m)))) ⟨none,rfl,rfl⟩ ?_ ?_
     . rintro i σ' H' hi ⟨v,rfl,rfl⟩
       rw[Int.zero_add]
       have hi:i < m:=by simpa using hi
       refine⟨_,rfl,_,_,rfl,rfl,.inl ⟨by omega,by omega⟩,_,rfl,_,_,rfl,rfl,(by show (0:Int) < m;omega),_,qd,?_,_,rfl,?_⟩
       . rw[List.length_map,List.length_map,List.length_range]
         exact qj (by omega)
       . rw[qR,List.range_succ,List.map_append,oL,oL,List.map_append]
         rfl
     . rintro σ' H' ⟨v,rfl,rfl⟩
       have hD6:H6 D=none:=by
         by_cases e:D=lo
         . rw[e];exact hlo
         . rw[qg e]at hD;exact hD
       exact k _ _ ⟨D,JR m,rfl,λa u h=>qh (qh h hlo) hD,hD6,qd,.inr rfl⟩
   . rintro H1 ⟨rfl,rfl⟩
     exact⟨lo,List.range m,rfl,qi hlo,hlo,qd,.inl rfl⟩
   rintro σ' H7 ⟨lo,os,rfl,s7,hlo6,hlo7,hos⟩
   have los:os.length=m:=by
     rcases hos with rfl | rfl
     . exact List.length_range
     . rw[JR,List.length_map,List.length_range]
   refine Y0 (λc H'=>Same H7 H'/\(c=true\/os.Nodup)) (λσ' H'=>∃lo os,σ'=[some (.ref d),some (.int mo),some (.int m),some (.ref lz),some (.int sh),some (.ref lp),some (.bl b),some (.ref lo),none,none,none]/\Same H6 H'/\H' lo=some (.lst (oL os))/\Yu m os)
     ?_ ?_ ?_ ?_
   . intro Q k
     refine⟨_,rfl,lo,os.map (λk=>((k:Nat):Int)),rfl,.of (by rw[<-vo];exact hlo7),by rw[List.length_map,los];omega,λl S hl=>?_⟩
     refine⟨l,S,_,rfl,qd,_,rfl,_,_,rfl,rfl,_,rfl,k _ _ ⟨qi hl,?_⟩⟩
     by_cases h:(((firstMet (λi=>(os.map λk=>((k:Nat):Int)).getD i 0) (os.map λk=>((k:Nat):Int)).length).length:Nat):Int) < (m:Int)
     . exact .inl (decide_eq_true h)
     . exact .inr (yg (by rw[los];omega))
   . rintro H1 ⟨s1,_⟩ D' k
     refine⟨_,rfl,m,rfl,by omega,λl hl=>?_⟩
     exact k _ _ ⟨l,Jk m,rfl,λa u h=>qh (s1 _ _ (s7 _ _ h)) hl,qd,YU m⟩
   . rintro H1 ⟨s1,h⟩
     have h:os.Nodup:=h.resolve_left (by decide)
     refine⟨lo,os,rfl,λa u h=>s1 _ _ (s7 _ _ h),s1 _ _ hlo7,?_⟩
     rcases hos with rfl | rfl
     . exact VA m
     . exact zZ (by omega) m0 h
   rintro σ' H8 ⟨lo,os,rfl,s8,hlo8,ho⟩
   refine⟨by show 0<=sizeLine;decide,λlr hlr=>⟨_,rfl,lo,rfl,⟨_,.of (qh hlo8 hlr)⟩,?_⟩⟩
   refine jw (K:=K) (a:=lo) (xs:=oL os) (λi σ' H'=>∃(v9 v10:Option V) (qs:List Addr),σ'=[some (.ref d),some (.int mo),some (.int m),some (.ref lz),some (.int sh),some (.ref lp),some (.bl b),some (.ref lo),some (.ref lr),v9,v10]/\
     Same H8 H'/\H' lr=some (.lst (qs.map V.ref))/\qF H' qs ((os.take i).map (Qn zs ks b)))
     ⟨none,none,[],rfl,qi hlr,qd,rfl,λi p r e=>(nomatch e)⟩ (λi σ' H' _ ⟨_,_,_,_,s,_⟩=>.of (s _ _ hlo8)) ?_ ?_
   . rintro i x σ' H' hx ⟨v9,v10,qs,rfl,s9,hlr9,rat⟩
     have hix:i < os.length:=by
       have:=(List.getElem?_eq_some_iff.mp hx).1
       rwa [List.length_map]at this
     obtain⟨k,hk⟩:∃k,os[i]?=some k:=⟨_,List.getElem?_eq_getElem hix⟩
     have ex:x=V.int ((k:Nat):Int):=by
       rw[List.getElem?_map,hk]at hx
       exact(Option.some.inj hx).symm
     subst ex
     have hkm:k < m:=ho.lt k (List.mem_of_getElem? hk)
     refine⟨_,rfl,lp,rfl,⟨_,.of (s9 _ _ (s8 _ _ hp6))⟩,λD hD=>?_⟩
     have nDr:D≠lr:=λe=>by rw[e,hlr9]at hD;cases hD
     have hz9:H' lz=some (.lst (zs.map V.str)):=s9 _ _ (s8 _ _ hz6)
     have pat9:QW H' ps ks:=pat6.mono λa u h=>s9 _ _ (s8 _ _ h)
     refine qK (K:=K) (a:=lp) (xs:=ps.map V.ref) (λj σ'' H''=>∃v0 v1:Option V,σ''=[v0,v1,some (.int k),some (.ref lz)]/\H''=upd H' D (.lst (((ZW (ks.take j) k).map (QL zs)).map V.str))) ⟨none,none,rfl,rfl⟩
       (λj σ'' G _ ⟨_,_,_,e⟩=>e▸.of (qh (s9 _ _ (s8 _ _ hp6)) hD)) ?_ ?_
     . rintro j y σ'' G hy ⟨v0,v1,rfl,rfl⟩
       have hj:j < ps.length:=by
         have:=(List.getElem?_eq_some_iff.mp hy).1
         rwa [List.length_map]at this
       obtain⟨p,hp⟩:∃p,ps[j]?=some p:=⟨_,List.getElem?_eq_getElem hj⟩
       obtain⟨kk,hkk⟩:∃p,ks[j]?=some p:=⟨_,List.getElem?_eq_getElem (by rw[<-pat9.1];exact hj)⟩
       have ey:y=V.ref p:=by
         rw[List.getElem?_map,hp]at hy
         exact(Option.some.inj hy).symm
       subst ey
       have hpt:=pat9.2 j p kk hp hkk
       have hk2:kk.2 < zs.length:=by rw[zl];exact(klt kk (List.mem_of_getElem? hkk)).2
       refine⟨p,_,rfl,.of (qh hpt hD),rfl,_,_,rfl,_,_,rfl,rfl,_,rfl,_,rfl,rfl,_,rfl,?_⟩
       rw[WY k hkk]
       by_cases e:kk.1=k
       . have e1:decide (V.int ((kk.1:Nat):Int)=V.int ((k:Nat):Int))=true:=decide_eq_true (by rw[e])
         rw[e1,if_pos e]
         refine QX ⟨_,rfl,_,rfl,lz,_,_,_,rfl,rfl,.of (qh hz9 hD),Xf hk2,_,qd,?_,_,_,rfl,?_⟩
         . rw[List.length_map,List.length_map]
           refine qj ?_
           have h1:(ZW (ks.take j) k).length<=(ks.take j).length:=by
             unfold ZW
             rw[List.length_map]
             exact List.length_filter_le _ _
           rw[List.length_take]at h1
           omega
         . rw[qR,List.map_append,List.map_append]
           rfl
       . have e1:decide (V.int ((kk.1:Nat):Int)=V.int ((k:Nat):Int))=false:=decide_eq_false (by
           intro z
           have:=V.int.inj z
           omega)
         rw[e1,if_neg e,List.append_nil]
         exact jm ⟨_,_,rfl,rfl⟩
     . rintro σ'' G ⟨v0,v1,rfl,rfl⟩
       rw[List.length_map,pat9.1,List.take_of_length_le (Nat.le_refl _)]
       refine ZF ?_
       dsimp only[List.set]
       refine Y0 (λc G=>c=b/\G=upd H' D (.lst (((ZW ks k).map (QL zs)).map V.str)))
         (λσ' G=>σ'=[some (.ref d),some (.int mo),some (.int m),some (.ref lz),some (.int sh),some (.ref lp),some (.bl b),some (.ref lo),some (.ref lr),some (.int k),some (.ref D)]/\G=upd H' D (.lst ((Qn zs ks b k).2.map V.str)))
         (λQ k=>⟨_,rfl,b,rfl,k _ _ ⟨rfl,rfl⟩⟩) ?_ ?_ ?_
       . rintro H1 ⟨rfl,rfl⟩ D' kk
         refine⟨_,rfl,.inl ⟨rfl,_,.of qd⟩,D,_,rfl,rfl,qd,?_⟩
         refine kk _ _ ⟨rfl,?_⟩
         rw[qR,Qn,if_pos rfl,List.map_reverse]
       . rintro H1 ⟨rfl,rfl⟩
         exact⟨rfl,rfl⟩
       rintro σ' G ⟨rfl,rfl⟩
       have hlrG:upd H' D (.lst ((Qn zs ks b k).2.map V.str)) lr=some (.lst (qs.map V.ref)):=by rw[qg (Ne.symm nDr)];exact hlr9
       have sG:Same H' (upd H' D (.lst ((Qn zs ks b k).2.map V.str))):=qi hD
       refine⟨_,rfl,.inl ⟨rfl,_,.of hlrG⟩,_,rfl,_,rfl,lz,_,_,_,rfl,rfl,.of (sG _ _ hz9),Xf (by rw[zl];exact hkm),_,rfl,D,_,rfl,.inl ⟨.of qd,λlq hq=>⟨by show 2<=sizeLine;decide,λlt hlt=>?_⟩⟩⟩
       have hqlr:=qh (o':=HO.tup ((Qn zs ks b k).2.map V.str)) hlrG hq
       have htlr:=qh (o':=HO.tup [V.str (QL zs k),V.ref lq]) hqlr hlt
       refine⟨lr,_,_,rfl,rfl,htlr,?_,_,_,qs++[lt],rfl,?_,?_,?_⟩
       . rw[List.length_map,rat.1,List.length_map,List.length_take]
         refine qj ?_
         have:=ho.len
         omega
       . exact Same.upd (λa u h=>qh (qh (sG _ _ (s9 _ _ h)) hq) hlt) hlr
       . rw[List.map_append]
         exact qd
       . have e:os.take (i+1)=os.take i++[k]:=by rw[List.take_add_one,hk];rfl
         rw[e,List.map_append]
         refine qF.upd_lst ?_ htlr
         exact qF.snoc (q:=lq) (rat.mono λa u h=>qh (qh (sG _ _ h) hq) hlt) qd (qh qd hlt)
   . rintro σ' H' ⟨v9,v10,qs,rfl,s9,hlr9,rat⟩
     have e:(oL os).length=os.length:=List.length_map ..
     rw[e,List.take_of_length_le (Nat.le_refl _)]at rat
     have h8:H6 lr=none:=by
       cases z:H6 lr with
       | none=>rfl
       | some u=>rw[s8 _ _ z]at hlr;cases hlr
     refine⟨_,rfl,q lr qs _ n6 t6 H' (fr6.fresh hd6 h8) hlr9 rat (WE b zl zn znd kord klt k40 ho) ?_ ?_ (s9 _ _ (s8 _ _ hd6)) (fr6.same λa u h=>s9 _ _ (s8 _ _ h))⟩
     . rw[List.length_map,ho.len];exact m0
     . rw[List.length_map,ho.len];exact m1
end
end Rh
set_option Elab.async false
set_option linter.all false
set_option maxRecDepth 100000
set_option maxHeartbeats 4000000
namespace Rh
open PySem L2 PyProof.Rows
abbrev Z0:Stmt:=top 13
abbrev Zp:Stmt:=top 14
abbrev Xv:Stmt:=top 15
abbrev UW:Stmt:=top 16
abbrev Xw:Stmt:=top 17
abbrev UX:Stmt:=top 18
abbrev zV:Stmt:=top 19
theorem kl (x:Str):[x].Nodup:=by simp
structure QD (K:PySem.W.Frag) (mg:Str->Option Value):Prop where
 isi:mg "isinstance"=none
 str:mg "str"=none
 all:mg "all"=none
 enu:mg "enumerate"=none
 sum:mg "sum"=none
 lets:∃t,mg "LETTERS"=some (.str Xa t)
 lgst:∃t,mg "LONGEST_NAME"=some (.int 8 t)
 mp:∃t,mg "MOST_PLACES"=some (.int 14 t)
 mr:∃t,mg "MOST_ROADS"=some (.int 40 t)
 kss:PySem.W.kitOne K (.type "str") (.type "str")=some true
 ktt:PySem.W.kitOne K (.type "tuple") (.type "tuple")=some true
 kll:PySem.W.kitOne K (.type "list") (.type "list")=some true
theorem Uf (c:Nat):(!(Builtin.Str.occurrences Xa ⟨#[c]⟩ 0 Xa.length 1).isEmpty)=qW c:=by
 rw[StrLaws.found_one,Us]
 unfold qW
 rw[Bool.eq_iff_iff]
 simp only[decide_eq_true_eq,Bool.and_eq_true,List.mem_map,List.mem_range]
 constructor
 . rintro⟨k,hk,rfl⟩
   omega
 . intro h
   exact⟨c - 97,by omega,by omega⟩
theorem Ys (f:Nat->Bool) (l:List Nat) (i c:Nat) (h:l[i]?=some c):(l.take i).map f++[f c]=(l.take (i+1)).map f:=by
 rw[List.take_add_one,h]
 simp
def W8:Sp:=λvs H Q _=>∃z,vs=[.str z]/\qD z=true/\∀H',Same H H'->Q (.bl true) H'
def yW:Sp:=λvs H Q _=>∃(q:Addr) (zs:List Str),vs=[.ref q]/\H q=some (.tup (zs.map V.str))/\(∀z∈zs,qD z=true)/\zs.length<=1000/\∀H',Same H H'->Q (.bl true) H'
def v7:Sp:=λvs H Q _=>∃(p q:Addr) (r:Str×List Str),vs=[.ref p]/\H p=some (.tup [.str r.1,.ref q])/\H q=some (.tup (r.2.map V.str))/\qD r.1=true/\(∀z∈r.2,qD z=true)/\r.2.length<=1000/\∀H',Same H H'->Q (.bl true) H'
structure ja (H:Hp) (l:Addr) (ps:List Addr) (rs:List (Str×List Str)):Prop where
 at_:H l=some (.lst (ps.map V.ref))
 rows:qF H ps rs
 good:qN rs
 pos:0 < rs.length
 le:rs.length<=14
theorem ja.mono {H H':Hp} {l:Addr} {ps:List Addr} {rs:List (Str×List Str)} (h:ja H l ps rs) (s:Same H H'):ja H' l ps rs:=⟨s _ _ h.at_,h.rows.mono s,h.good,h.pos,h.le⟩
theorem qN.names {rs:List (Str×List Str)} (h:qN rs):∀r∈rs,∀z∈r.2,qD z=true:=λr hr z hz=>by
 obtain⟨r',hr',rfl⟩:=List.mem_map.mp (h.to r hr z hz)
 exact h.nm r' hr'
theorem qN.len {rs:List (Str×List Str)} (h:qN rs):∀r∈rs,r.2.length<=40:=λr hr=>by
 refine Nat.le_trans ?_ h.few
 have:∀(rs:List (Str×List Str)),r∈rs->r.2.length<=(rs.map λr=>r.2.length).sum:=by
   intro rs
   induction rs with
   | nil=>intro h;cases h
   | cons a rs ih=>
     intro h
     rw[List.map_cons,List.sum_cons]
     rcases List.mem_cons.mp h with rfl | h
     . omega
     . have:=ih h
       omega
 exact this rs hr
theorem qF.item {H:Hp} {ps:List Addr} {rs:List (Str×List Str)} (h:qF H ps rs) {i:Nat} {x:V} (hx:(ps.map V.ref)[i]?=some x):∃p q r,x=.ref p/\rs[i]?=some r/\r∈rs/\H p=some (.tup [.str r.1,.ref q])/\H q=some (.tup (r.2.map V.str)):=by
 rw[List.getElem?_map]at hx
 cases e:ps[i]? with
 | none=>rw[e]at hx;cases hx
 | some p=>
   rw[e]at hx
   have hi:i < rs.length:=by
     have:=(List.getElem?_eq_some_iff.mp e).1
     rw[h.1]at this
     exact this
   obtain⟨q,a,b⟩:=h.2 i p _ e (List.getElem?_eq_getElem hi)
   exact⟨p,q,_,(Option.some.inj hx).symm,List.getElem?_eq_getElem hi,List.getElem_mem hi,a,b⟩
def Jq:Sp:=λvs H Q _=>∃(l:Addr) (ps:List Addr) (rs:List (Str×List Str)),vs=[.ref l]/\ja H l ps rs/\∀H',Same H H'->Q .non H'
def v8:Sp:=λvs H Q _=>∃(l:Addr) (zs:List Str),vs=[.ref l]/\H l=some (.lst (zs.map V.str))/\zs.Nodup/\zs.length<=1000/\∀H',Same H H'->Q .non H'
def W9:Sp:=λvs H Q _=>∃(q l:Addr) (es zs:List Str),vs=[.ref q,.ref l]/\H q=some (.tup (es.map V.str))/\H l=some (.lst (zs.map V.str))/\es.Nodup/\(∀z∈es,z∈zs)/\es.length<=900/\∀H',Same H H'->Q .non H'
theorem Q7 {kvs:List (qO×V)} {k:qO} (h:¬k∈kvs.map (·.1)):jo kvs k=none:=by
 cases e:jo kvs k with
 | none=>rfl
 | some v=>exact absurd (UE e) h
theorem j3 (zs:List Str):(zs.map V.str).all Jj=true:=by
 rw[List.all_map,List.all_eq_true]
 intro z _
 rfl
theorem XG {z:Str} {zs:List Str} (h:z∈zs):QI (.str z) (zs.map V.str)=true:=by
 unfold QI
 rw[List.any_eq_true]
 exact⟨.str z,List.mem_map.mpr ⟨z,h,rfl⟩,by show (z==z)=true;simp⟩
section
variable {P:Program} {w:World} {K:PySem.W.Frag} {mg:Str->Option Value} {base:Heap}
theorem Vi:qx ["thing"] ["thing"] (qo QM):=⟨rfl,rfl,rfl,by decide+kernel,rfl,by decide+kernel,by decide+kernel⟩
theorem J6 {f:Addr} {fd:FuncData} (F:Qb K "is_name" "is_name" QM f fd) (B:J1 mg) (T:QD K mg):FnOk P w K mg base jf 1 f fd ["thing"] W8:=by
 refine F.okJ Vi (λvs H Q E h=>?_) (λcdv A outer s H vs Q E hr h=>?_)
 . obtain⟨x,rfl,_⟩:=h
   rfl
 . obtain⟨z,rfl,hz,q⟩:=h
   obtain⟨tl,hlets⟩:=T.lets
   obtain⟨tg,hlg⟩:=T.lgst
   refine⟨_,qe (qQ (jz (jp (qr jd (by rfl) T.isi boot_isinstance (qb (jv 0) (qb (Qe (v:=.ty "str") (by rfl) T.str boot_str rfl) qf))))) (qk (qC jh)) qz)
     (qe (qQ (j6 (qt jX (qr jK (by rfl) B.len boot_len (qb (jv 0) qf)) ql (qv _))
         (jE (qt z5 (qr jK (by rfl) B.len boot_len (qb (jv 0) qf)) (Qd (v:=.int 8) (by rfl) hlg ⟨_,rfl⟩) (qv _)))).pt (qk (qC jh)) qz)
     (qk (qC (qr (JJ rfl) (by rfl) T.all boot_all (qb (jI (N':=["sign"]) (ix:=[none]) rfl ⟨rfl,rfl,rfl,rfl,rfl⟩ (VZ (jv 0)) (λC s2 H2 fp pins=>
       ⟨qm (i:=0) (kl _) rfl (Or.inl rfl),qM,j0 Z3 (jv 0) (Qd (v:=.str Xa) (by rfl) hlets ⟨_,rfl⟩) (by with_unfolding_all rfl)⟩)) qf))))),?_⟩
   have hn:=hz
   unfold qD at hn
   simp only[Bool.and_eq_true,decide_eq_true_eq]at hn
   obtain⟨⟨n1,n8⟩,na⟩:=hn
   have hz':z.length<=sizeLine:=Nat.le_of_lt (qj (by omega))
   refine⟨_,rfl,_,_,_,_,rfl,rfl,.str z,T.kss,_,rfl,jm ?_⟩
   refine⟨_,rfl,z,rfl,hz',_,_,rfl,rfl,_,rfl,?_⟩
   refine Ya (λh=>?_) (λh=>?_)
   . exact absurd (of_decide_eq_true h) (by omega)
   . refine⟨_,rfl,z,rfl,hz',_,_,rfl,rfl,_,rfl,?_⟩
     refine Ya (λh2=>?_) (λh2=>?_)
     . exact absurd (of_decide_eq_true h2) (by show ¬(8:Int) < (z.length:Int);omega)
     . refine⟨_,rfl,z,rfl,λD hD=>?_⟩
       refine XR (λi σ' H'=>∃v,σ'=[v]/\H'=upd H D (.lst (((z.cps.toList.take i).map qW).map V.bl))) ⟨none,rfl,rfl⟩ ?_ ?_
       . rintro i c σ' H' hc ⟨v,rfl,rfl⟩
         refine⟨_,rfl,_,_,rfl,rfl,_,qd,?_,?_⟩
         . rw[List.length_map,List.length_map,List.length_take]
           exact Nat.lt_of_le_of_lt (Nat.min_le_right _ _) (qj (show z.cps.toList.length<=1000 by rw[Array.length_toList];exact Nat.le_trans n8 (by decide)))
         . refine⟨_,rfl,?_⟩
           rw[qR,Uf]
           have hc':z.cps.toList[i]?=some c:=by simpa using hc
           rw[<-Ys qW z.cps.toList i c hc',List.map_append]
           rfl
       . rintro σ' H' ⟨v,rfl,rfl⟩
         refine⟨D,_,rfl,.of qd,?_⟩
         have e0:z.cps.toList.take z.cps.size=z.cps.toList:=List.take_of_length_le (by simp)
         have e1:(z.cps.toList.map qW).all id=true:=by rw[List.all_map];exact na
         rw[e0,e1]
         exact q _ (qi hD)
theorem kK:qx ["thing"] ["thing"] (qo Z0):=⟨rfl,rfl,rfl,by decide+kernel,rfl,by decide+kernel,by decide+kernel⟩
theorem U9 {f fN:Addr} {fd fdN:FuncData} (F:Qb K "is_tuple_of_names" "is_tuple_of_names" Z0 f fd) (B:J1 mg) (G:QE mg) (T:QD K mg) (hN:Qh K mg "is_name" QM ["thing"] fN fdN):FnOk P w K mg base jf 2 f fd ["thing"] yW:=by
 have GN:FnOk P w K mg base jf 1 fN fdN ["thing"] W8:=J6 hN.fn B T
 refine F.okJ kK (λvs H Q E h=>?_) (λcdv A outer s H vs Q E hr h=>?_)
 . obtain⟨x,zs,rfl,_⟩:=h
   rfl
 . obtain⟨x,zs,rfl,hx,hz,hl,q⟩:=h
   refine⟨_,qk (qC (V9 (qr jd (by rfl) T.isi boot_isinstance (qb (jv 0) (qb (Qe (v:=.ty "tuple") (by rfl) G.tup boot_tuple rfl) qf)))
     (V1 (qr (JJ rfl) (by rfl) T.all boot_all (qb (jI (N':=["part"]) (ix:=[none]) rfl ⟨rfl,rfl,rfl,rfl,rfl⟩ (VY (jv 0)) (λC s2 H2 fp pins=>
       ⟨qm (i:=0) (kl _) rfl (Or.inl rfl),qM,jg hN GN hr (by rfl) (qb (jv 0) qf)⟩)) qf))))),?_⟩
   refine⟨_,rfl,_,_,_,_,rfl,rfl,.tup hx,T.ktt,_,rfl,QX ⟨_,rfl,x,rfl,⟨_,.of hx⟩,λD hD=>?_⟩⟩
   refine vN (K:=K) (a:=x) (xs:=zs.map V.str) (λi σ' H'=>∃v,σ'=[v]/\Same H H'/\H' D=some (.lst ((List.replicate i true).map V.bl))) ⟨none,rfl,qi hD,qd⟩ (λi σ' H' _ ⟨_,_,s,_⟩=>.of (s _ _ hx)) ?_ ?_
   . rintro i y σ' H' hy ⟨v,rfl,s1,hD1⟩
     rw[List.getElem?_map]at hy
     cases e:zs[i]? with
     | none=>rw[e]at hy;cases hy
     | some z=>
       rw[e]at hy
       obtain rfl:=(Option.some.inj hy).symm
       have hi:=(List.getElem?_eq_some_iff.mp e).1
       refine⟨_,rfl,z,rfl,hz z (List.mem_of_getElem? e),λH2 s2=>⟨_,s2 _ _ hD1,?_,_,rfl,?_,?_⟩⟩
       . rw[List.length_map,List.length_replicate]
         exact qj (by omega)
       . exact Same.upd (s1.trans s2) hD
       . rw[qd,List.replicate_succ',List.map_append]
         rfl
   . rintro σ' H' ⟨v,rfl,s1,hD1⟩
     refine⟨D,_,rfl,.of hD1,?_⟩
     have e:(List.replicate (zs.map V.str).length true).all id=true:=by simp
     rw[e]
     exact q _ s1
theorem UV:qx ["thing"] ["thing"] (qo Zp):=⟨rfl,rfl,rfl,by decide+kernel,rfl,by decide+kernel,by decide+kernel⟩
theorem VJ {f fN fP:Addr} {fd fdN fdP:FuncData} (F:Qb K "is_row" "is_row" Zp f fd) (B:J1 mg) (G:QE mg) (T:QD K mg) (hN:Qh K mg "is_name" QM ["thing"] fN fdN) (hP:Qh K mg "is_tuple_of_names" Z0 ["thing"] fP fdP):FnOk P w K mg base jf 3 f fd ["thing"] v7:=by
 have GN:FnOk P w K mg base jf 1 fN fdN ["thing"] W8:=J6 hN.fn B T
 have GP:FnOk P w K mg base jf 2 fP fdP ["thing"] yW:=U9 hP.fn B G T hN
 refine F.okJ UV (λvs H Q E h=>?_) (λcdv A outer s H vs Q E hr h=>?_)
 . obtain⟨p,x,r,rfl,_⟩:=h
   rfl
 . obtain⟨p,x,r,rfl,hp,hx,hn,hz,hl,q⟩:=h
   refine⟨_,qe (qQ (j6 (jz (jp (qr jd (by rfl) T.isi boot_isinstance (qb (jv 0) (qb (Qe (v:=.ty "tuple") (by rfl) G.tup boot_tuple rfl) qf)))))
       (jE (qt VC (qr jL (by rfl) B.len boot_len (qb (jv 0) qf)) ql (qv _)))).pt jl qz)
     (qk (qC (V9 (jg hN GN (hr.mono (by decide)) (by rfl) (qb (jq QR (jv 0) ql (λ_ _=>rfl)) qf)) (V1 (jg hP GP hr (by rfl) (qb (jq QR (jv 0) ql (λ_ _=>rfl)) qf)))))),?_⟩
   refine⟨_,rfl,_,_,_,_,rfl,rfl,.tup hp,T.ktt,_,rfl,jm ⟨_,rfl,p,_,rfl,.inr (.of hp),rfl,_,rfl,jm ?_⟩⟩
   refine⟨_,rfl,p,_,0,_,rfl,rfl,.of hp,rfl,r.1,rfl,hn,λH1 s1=>⟨_,rfl,QX ?_⟩⟩
   exact⟨_,rfl,p,_,1,_,rfl,rfl,.of (s1 _ _ hp),rfl,x,r.2,rfl,s1 _ _ hx,hz,hl,λH2 s2=>q H2 (s1.trans s2)⟩
end
end Rh
set_option Elab.async false
set_option linter.all false
set_option maxRecDepth 100000
set_option maxHeartbeats 4000000
namespace Rh
open PySem L2 PyProof.Rows
section
variable {P:Program} {w:World} {K:PySem.W.Frag} {mg:Str->Option Value} {base:Heap}
abbrev xp:List Str:=["rows","number","row"]
theorem YN:qx xp ["rows"] (qo Xv):=⟨rfl,rfl,rfl,by decide+kernel,rfl,by decide+kernel,by decide+kernel⟩
theorem vc {f fN fP fR:Addr} {fd fdN fdP fdR:FuncData} (F:Qb K "need_form" "need_form" Xv f fd) (B:J1 mg) (G:QE mg) (T:QD K mg) (hN:Qh K mg "is_name" QM ["thing"] fN fdN) (hP:Qh K mg "is_tuple_of_names" Z0 ["thing"] fP fdP)
   (hR:Qh K mg "is_row" Zp ["thing"] fR fdR):FnOk P w K mg base jf 4 f fd ["rows"] Jq:=by
 have GR:FnOk P w K mg base jf 3 fR fdR ["thing"] v7:=VJ hR.fn B G T hN hP
 obtain⟨tm,hmp⟩:=T.mp
 refine F.okJ YN (λvs H Q E h=>?_) (λcdv A outer s H vs Q E hr h=>?_)
 . obtain⟨l,ps,rs,rfl,_⟩:=h
   rfl
 . obtain⟨l,ps,rs,rfl,g,q⟩:=h
   refine⟨_,qe (qQ (j6 (jz (jp (qr jd (by rfl) T.isi boot_isinstance (qb (jv 0) (qb (Qe (v:=.ty "list") (by rfl) G.lst boot_list rfl) qf)))))
       (jE (qt QF (qr jL (by rfl) B.len boot_len (qb (jv 0) qf)) ql (qv _)))).pt jl qz)
     (qe (qQ (qt z5 (qr jL (by rfl) B.len boot_len (qb (jv 0) qf)) (Qd (v:=.int 14) (by rfl) hmp ⟨_,rfl⟩) (qv _)) jl qz)
     (qk (jt PassesOwn.never rfl (vz (by rfl) T.enu (qb (jv 0) qf)) (jF rfl (qy (qm (i:=1) YN.nd rfl (Or.inl rfl)) (qy (qm (i:=2) YN.nd rfl (Or.inl rfl)) jn)))
       (qk (qQ (jz (jp (jg hR GR hr (by rfl) (qb (jv 2) qf)))) jl qz))))),?_⟩
   have lp:(ps.map V.ref).length=rs.length:=by rw[List.length_map,g.rows.1]
   refine⟨_,rfl,_,_,_,_,rfl,rfl,.lst g.at_,T.kll,_,rfl,jm ⟨_,rfl,l,_,rfl,.inl (.of g.at_),rfl,_,rfl,?_⟩⟩
   have e0:decide (V.int (((ps.map V.ref).length:Nat):Int)=V.int 0)=false:=decide_eq_false (by
     intro z
     have:=V.int.inj z
     have:=g.pos
     omega)
   rw[e0]
   refine jm ⟨_,rfl,l,_,rfl,.inl (.of g.at_),_,_,rfl,rfl,_,rfl,?_⟩
   have e1:decide ((14:Int) < (((ps.map V.ref).length:Nat):Int))=false:=decide_eq_false (by
     have:=g.le
     omega)
   refine Ya (λz=>absurd z (by rw[e1];decide)) (λ_=>?_)
   refine⟨_,rfl,l,rfl,⟨_,.of g.at_⟩,?_⟩
   refine Uk (K:=K) (a:=l) (xs:=ps.map V.ref) (λi σ' H'=>∃v1 v2,σ'=[some (.ref l),v1,v2]/\Same H H') ⟨none,none,rfl,Same.refl H⟩ (λi σ' H' _ ⟨_,_,_,s⟩=>.of (s _ _ g.at_)) ?_ ?_
   . rintro i x σ' H' p hx hp ⟨v1,v2,rfl,s1⟩
     have g1:=g.mono (s1.trans (qi (o:=.tup [.int (i:Nat),x]) hp))
     obtain⟨p',q',r,rfl,_,hr',a,b⟩:=g1.rows.item hx
     refine⟨p,_,rfl,.of qd,rfl,_,_,rfl,_,_,rfl,rfl,_,rfl,p',q',r,rfl,a,b,g.good.nm r hr',g.good.names r hr',Nat.le_trans (g.good.len r hr') (by decide),λH2 s2=>⟨_,rfl,jm ⟨_,_,rfl,?_⟩⟩⟩
     exact(s1.trans (qi hp)).trans s2
   . rintro σ' H' ⟨v1,v2,rfl,s1⟩
     exact q H' s1
abbrev wl:List Str:=["order","ahead","name"]
theorem Vh:qx wl ["order"] (qo UW):=⟨rfl,rfl,rfl,by decide+kernel,rfl,by decide+kernel,by decide+kernel⟩
theorem Jv {zs:List Str} (hn:zs.Nodup) {i:Nat} {z:Str} (e:zs[i]?=some z):¬(Sum.inr z:qO)∈(zs.take i).map Sum.inr:=λh=>by
 obtain⟨y,hy,ey⟩:=List.mem_map.mp h
 have ey':y=z:=Sum.inr.inj ey
 subst ey'
 obtain⟨j,hj⟩:=List.getElem?_of_mem hy
 have hj1:=(List.getElem?_eq_some_iff.mp hj).1
 rw[List.length_take]at hj1
 have hji:j < i:=by omega
 rw[List.getElem?_take_of_lt hji]at hj
 have h1:=(List.getElem?_eq_some_iff.mp hj)
 have h2:=(List.getElem?_eq_some_iff.mp e)
 exact absurd (h1.2.trans h2.2.symm) (List.pairwise_iff_getElem.mp hn j i h1.1 h2.1 hji)
theorem zw {kvs:List (qO×V)} {k:qO} (v:V) (h:jo kvs k=none):(ju kvs k v).map (·.1)=kvs.map (·.1)++[k]:=by
 rw[Vt v h,List.map_append]
 rfl
theorem k6 {f:Addr} {fd:FuncData} (F:Qb K "need_own_names" "need_own_names" UW f fd):FnOk P w K mg base jf 1 f fd ["order"] v8:=by
 refine F.okJ Vh (λvs H Q E h=>?_) (λcdv A outer s H vs Q E hr h=>?_)
 . obtain⟨l,zs,rfl,_⟩:=h
   rfl
 . obtain⟨l,zs,rfl,hl,hn,hz,q⟩:=h
   have hu:=JQ hr
   refine⟨_,qe (qB (i:=1) Vh.nd rfl (Or.inl rfl) Jg)
     (qk (jt PassesOwn.never rfl (qA (jv 0)) (qm (i:=2) Vh.nd rfl (Or.inl rfl))
       (qe (qQ (zy (Ua hu (jv 2) (jv 1))) jl qz) (qk (jQ hu (jv 1) (jv 2) jh rfl))))),?_⟩
   intro D hD
   refine⟨_,rfl,l,rfl,⟨_,.of (qh hl hD)⟩,?_⟩
   refine jw (K:=K) (a:=l) (xs:=zs.map V.str) (λi σ' H'=>∃v kvs,σ'=[some (.ref l),some (.ref D),v]/\Same H H'/\H' D=some (.dK kvs)/\kvs.map (·.1)=(zs.take i).map Sum.inr) ⟨none,[],rfl,qi hD,qd,rfl⟩ (λi σ' H' _ ⟨_,_,_,s,_⟩=>.of (s _ _ hl)) ?_ ?_
   . rintro i x σ' H' hx ⟨v,kvs,rfl,s1,hD1,ek⟩
     rw[List.getElem?_map]at hx
     cases e:zs[i]? with
     | none=>rw[e]at hx;cases hx
     | some z=>
       rw[e]at hx
       obtain rfl:=(Option.some.inj hx).symm
       have hi:=(List.getElem?_eq_some_iff.mp e).1
       have ez:jo kvs (Sum.inr z:qO)=none:=Q7 (by rw[ek];exact Jv hn e)
       have gz:jW H' D (.str z) none:=by
         have:=jW.k (k:=(Sum.inr z:qO)) hD1
         rw[ez]at this
         exact this
       have lk:kvs.length < sizeLine:=by
         have:=congrArg List.length ek
         rw[List.length_map,List.length_map,List.length_take]at this
         exact qj (by omega)
       refine⟨_,rfl,_,rfl,D,none,rfl,gz,_,rfl,jm ?_⟩
       refine⟨_,rfl,_,rfl,D,_,rfl,Jp.k (k:=(Sum.inr z:qO)) hD1 lk,_,_,rfl,Same.upd s1 hD,qd,?_⟩
       rw[zw _ ez,ek,List.take_add_one,e,List.map_append]
       rfl
   . rintro σ' H' ⟨v,kvs,rfl,s1,_⟩
     exact q H' s1
abbrev xq:List Str:=["ends","order","ahead","name"]
theorem YO:qx xq ["ends","order"] (qo Xw):=⟨rfl,rfl,rfl,by decide+kernel,rfl,by decide+kernel,by decide+kernel⟩
theorem vd {f:Addr} {fd:FuncData} (F:Qb K "need_ends" "need_ends" Xw f fd):FnOk P w K mg base jf 1 f fd ["ends","order"] W9:=by
 refine F.okJ YO (λvs H Q E h=>?_) (λcdv A outer s H vs Q E hr h=>?_)
 . obtain⟨x,l,es,zs,rfl,_⟩:=h
   rfl
 . obtain⟨x,l,es,zs,rfl,hx,hl,hn,hin,hz,q⟩:=h
   have hu:=JQ hr
   refine⟨_,qe (qB (i:=2) YO.nd rfl (Or.inl rfl) Jg)
     (qk (jt PassesOwn.never rfl (VY (jv 0)) (qm (i:=3) YO.nd rfl (Or.inl rfl))
       (qe (qQ (qt Jd (jv 3) (jv 1) (by with_unfolding_all rfl)) jl qz)
       (qe (qQ (zy (Ua hu (jv 3) (jv 2))) jl qz) (qk (jQ hu (jv 2) (jv 3) jh rfl)))))),?_⟩
   intro D hD
   refine⟨_,rfl,x,rfl,⟨_,.of (qh hx hD)⟩,?_⟩
   refine vI (K:=K) (a:=x) (xs:=es.map V.str) (λi σ' H'=>∃v kvs,σ'=[some (.ref x),some (.ref l),some (.ref D),v]/\Same H H'/\H' D=some (.dK kvs)/\kvs.map (·.1)=(es.take i).map Sum.inr) ⟨none,[],rfl,qi hD,qd,rfl⟩ (λi σ' H' _ ⟨_,_,_,s,_⟩=>.of (s _ _ hx)) ?_ ?_
   . rintro i y σ' H' hy ⟨v,kvs,rfl,s1,hD1,ek⟩
     rw[List.getElem?_map]at hy
     cases e:es[i]? with
     | none=>rw[e]at hy;cases hy
     | some z=>
       rw[e]at hy
       obtain rfl:=(Option.some.inj hy).symm
       have hi:=(List.getElem?_eq_some_iff.mp e).1
       have ez:jo kvs (Sum.inr z:qO)=none:=Q7 (by rw[ek];exact Jv hn e)
       have gz:jW H' D (.str z) none:=by
         have:=jW.k (k:=(Sum.inr z:qO)) hD1
         rw[ez]at this
         exact this
       have lk:kvs.length < sizeLine:=by
         have:=congrArg List.length ek
         rw[List.length_map,List.length_map,List.length_take]at this
         exact qj (by omega)
       refine⟨_,rfl,_,rfl,l,_,rfl,.inl (.of (s1 _ _ hl)),rfl,j3 zs,_,rfl,?_⟩
       rw[XG (hin z (List.mem_of_getElem? e))]
       refine jm ⟨_,rfl,_,rfl,D,none,rfl,gz,_,rfl,jm ?_⟩
       refine⟨_,rfl,_,rfl,D,_,rfl,Jp.k (k:=(Sum.inr z:qO)) hD1 lk,_,_,rfl,Same.upd s1 hD,qd,?_⟩
       rw[zw _ ez,ek,List.take_add_one,e,List.map_append]
       rfl
   . rintro σ' H' ⟨v,kvs,rfl,s1,_⟩
     exact q H' s1
abbrev wn:List Str:=["rows","many"]
theorem kc:qx wn ["rows"] (qo UX):=⟨rfl,rfl,rfl,by decide+kernel,rfl,by decide+kernel,by decide+kernel⟩
theorem k8 {f:Addr} {fd:FuncData} (F:Qb K "need_few_roads" "need_few_roads" UX f fd) (B:J1 mg) (T:QD K mg):FnOk P w K mg base jf 1 f fd ["rows"] Jq:=by
 obtain⟨tm,hmr⟩:=T.mr
 refine F.okJ kc (λvs H Q E h=>?_) (λcdv A outer s H vs Q E hr h=>?_)
 . obtain⟨l,ps,rs,rfl,_⟩:=h
   rfl
 . obtain⟨l,ps,rs,rfl,g,q⟩:=h
   refine⟨_,qe (qB (i:=1) kc.nd rfl (Or.inl rfl) (qr (WL rfl) (by rfl) T.sum boot_sum (qb (jI (N':=["row"]) (ix:=[none]) (te:=W4 (λxs H Q=>∃p ys,xs=[.ref p]/\(SqL K H p ys\/SqT K H p ys)/\Q (.int ys.length) H) (qS (YE (Vs K) (qV 0) (tC (.int 1))) j4)) rfl ⟨rfl,rfl,rfl,rfl,rfl⟩ (qA (jv 0)) (λC s2 H2 fp pins=>
       ⟨qm (i:=0) (kl _) rfl (Or.inl rfl),qM,qr jL (by rfl) B.len boot_len (qb (jq QR (jv 0) ql (λ_ _=>rfl)) qf)⟩)) qf)))
     (qk (qQ (qt z5 (jv 1) (Qd (v:=.int 40) (by rfl) hmr ⟨_,rfl⟩) (qv _)) jl qz)),?_⟩
   refine⟨_,rfl,l,rfl,⟨_,.of g.at_⟩,λD hD=>?_⟩
   refine qK (K:=K) (a:=l) (xs:=ps.map V.ref) (λi σ' H'=>∃v,σ'=[v]/\H'=upd H D (.lst (((rs.take i).map λr=>r.2.length).map λn=>V.int ((n:Nat):Int)))) ⟨none,rfl,rfl⟩ (λi σ' H' _ ⟨_,_,e⟩=>e▸.of (qh g.at_ hD)) ?_ ?_
   . rintro i x σ' H' hx ⟨v,rfl,rfl⟩
     obtain⟨p',q',r,rfl,er,hr',a,b⟩:=g.rows.item hx
     have hi:=(List.getElem?_eq_some_iff.mp er).1
     refine⟨_,rfl,p',_,1,_,rfl,rfl,.of (qh a hD),rfl,q',_,rfl,.inr (.of (qh b hD)),_,qd,?_,_,rfl,?_⟩
     . rw[List.length_map,List.length_map,List.length_take]
       have:=g.le
       exact qj (by omega)
     . rw[qR,List.take_add_one,er,List.map_append,List.map_append,List.length_map]
       rfl
   . rintro σ' H' ⟨v,rfl,rfl⟩
     have e:rs.take (ps.map V.ref).length=rs:=List.take_of_length_le (by rw[List.length_map,g.rows.1];exact Nat.le_refl _)
     rw[e]
     refine⟨D,_,rfl,.of qd,Nat.lt_of_le_of_lt g.good.few (by decide),?_⟩
     refine⟨_,rfl,_,_,rfl,rfl,_,rfl,?_⟩
     have:=g.good.few
     refine Ya (λz=>absurd (of_decide_eq_true z) ?_) (λ_=>q _ (qi hD))
     show ¬(40:Int) < _
     omega
abbrev xo:List Str:=["rows","order","row"]
theorem YM:qx xo ["rows"] (qo zV):=⟨rfl,rfl,rfl,by decide+kernel,rfl,by decide+kernel,by decide+kernel⟩
structure vR (K:PySem.W.Frag) (mg:Str->Option Value):Prop where
 nm:∃f fd,Qh K mg "is_name" QM ["thing"] f fd
 tn:∃f fd,Qh K mg "is_tuple_of_names" Z0 ["thing"] f fd
 rw:∃f fd,Qh K mg "is_row" Zp ["thing"] f fd
 fo:∃f fd,Qh K mg "need_form" Xv ["rows"] f fd
 ow:∃f fd,Qh K mg "need_own_names" UW ["order"] f fd
 en:∃f fd,Qh K mg "need_ends" Xw ["ends","order"] f fd
 fw:∃f fd,Qh K mg "need_few_roads" UX ["rows"] f fd
theorem vb {f:Addr} {fd:FuncData} (F:Qb K "need_rows" "need_rows" zV f fd) (B:J1 mg) (G:QE mg) (T:QD K mg) (N:vR K mg):FnOk P w K mg base jf 5 f fd ["rows"] Jq:=by
 obtain⟨fN,fdN,hN⟩:=N.nm
 obtain⟨fP,fdP,hP⟩:=N.tn
 obtain⟨fR,fdR,hR⟩:=N.rw
 obtain⟨fF,fdF,hF⟩:=N.fo
 obtain⟨fO,fdO,hO⟩:=N.ow
 obtain⟨fE,fdE,hE⟩:=N.en
 obtain⟨fW,fdW,hW⟩:=N.fw
 have GF:FnOk P w K mg base jf 4 fF fdF ["rows"] Jq:=vc hF.fn B G T hN hP hR
 have GO:FnOk P w K mg base jf 1 fO fdO ["order"] v8:=k6 hO.fn
 have GE:FnOk P w K mg base jf 1 fE fdE ["ends","order"] W9:=vd hE.fn
 have GW:FnOk P w K mg base jf 1 fW fdW ["rows"] Jq:=k8 hW.fn B T
 refine F.okJ YM (λvs H Q E h=>?_) (λcdv A outer s H vs Q E hr h=>?_)
 . obtain⟨l,ps,rs,rfl,_⟩:=h
   rfl
 . obtain⟨l,ps,rs,rfl,g,q⟩:=h
   refine⟨_,qe (qX (jg hF GF hr (by rfl) (qb (jv 0) qf)))
     (qe (Qo (i:=1) (N':=["row"]) (ix:=[none]) (te:=YE (Vs K) (qV 0) (tC (.int 0))) YM.nd rfl (Or.inl rfl) rfl ⟨rfl,rfl,rfl,rfl,rfl⟩ (qA (jv 0)) (λC s2 H2 fp pins=>
       ⟨qm (i:=0) (kl _) rfl (Or.inl rfl),qM,jq QR (jv 0) ql (λ_ _=>rfl)⟩))
     (qe (qX (jg hO GO (hr.mono (by decide)) (by rfl) (qb (jv 1) qf)))
     (qe (jt PassesOwn.never rfl (qA (jv 0)) (qm (i:=2) YM.nd rfl (Or.inl rfl))
       (qk (qX (jg hE GE (hr.mono (by decide)) (by rfl) (qb (jq QR (jv 2) ql (λ_ _=>rfl)) (qb (jv 1) qf))))))
     (qk (qX (jg hW GW (hr.mono (by decide)) (by rfl) (qb (jv 0) qf))))))),?_⟩
   refine⟨_,rfl,l,ps,rs,rfl,g,λH1 s1=>?_⟩
   have g1:=g.mono s1
   refine⟨_,rfl,l,rfl,⟨_,.of g1.at_⟩,λD hD=>?_⟩
   refine qK (K:=K) (a:=l) (xs:=ps.map V.ref) (λi σ' H'=>∃v,σ'=[v]/\H'=upd H1 D (.lst (((rs.take i).map (·.1)).map V.str))) ⟨none,rfl,rfl⟩ (λi σ' H' _ ⟨_,_,e⟩=>e▸.of (qh g1.at_ hD)) ?_ ?_
   . rintro i x σ' H' hx ⟨v,rfl,rfl⟩
     obtain⟨p',q',r,rfl,er,hr',a,b⟩:=g1.rows.item hx
     have hi:=(List.getElem?_eq_some_iff.mp er).1
     refine⟨_,rfl,p',_,0,_,rfl,rfl,.of (qh a hD),rfl,_,qd,?_,_,rfl,?_⟩
     . rw[List.length_map,List.length_map,List.length_take]
       have:=g.le
       exact qj (by omega)
     . rw[qR,List.take_add_one,er,List.map_append,List.map_append]
       rfl
   . rintro σ' H' ⟨v,rfl,rfl⟩
     have e:rs.take (ps.map V.ref).length=rs:=List.take_of_length_le (by rw[List.length_map,g.rows.1];exact Nat.le_refl _)
     rw[e]
     refine⟨_,rfl,D,rs.map (·.1),rfl,qd,g.good.nd,by rw[List.length_map];have:=g.le;omega,λH2 s2=>?_⟩
     have sD:Same H1 H2:=(qi hD).trans s2
     have hD2:H2 D=some (.lst ((rs.map (·.1)).map V.str)):=s2 _ _ qd
     have g2:=g1.mono sD
     refine⟨_,rfl,l,rfl,⟨_,.of g2.at_⟩,?_⟩
     refine jw (K:=K) (a:=l) (xs:=ps.map V.ref) (λi σ' H'=>∃v,σ'=[some (.ref l),some (.ref D),v]/\Same H2 H') ⟨none,rfl,Same.refl H2⟩ (λi σ' H' _ ⟨_,_,s⟩=>.of (s _ _ g2.at_)) ?_ ?_
     . rintro i x σ' H' hx ⟨v,rfl,s3⟩
       obtain⟨p',q',r,rfl,er,hr',a,b⟩:=(g2.mono s3).rows.item hx
       refine⟨_,rfl,p',_,1,_,rfl,rfl,.of a,rfl,_,rfl,q',D,r.2,rs.map (·.1),rfl,b,s3 _ _ hD2,g.good.rd r hr',g.good.to r hr',Nat.le_trans (g.good.len r hr') (by decide),λH4 s4=>⟨_,rfl,s3.trans s4⟩⟩
     . rintro σ' H' ⟨v,rfl,s3⟩
       exact⟨_,rfl,l,ps,rs,rfl,g2.mono s3,λH4 s4=>q H4 (((s1.trans sD).trans s3).trans s4)⟩
end
end Rh
set_option Elab.async false
set_option linter.all false
set_option maxRecDepth 100000
set_option maxHeartbeats 4000000
namespace Rh
open PySem L2 PyProof.Rows
abbrev YQ:Stmt:=Ji (top 20) 0
abbrev Jc:Stmt:=Ji (top 20) 1
abbrev Jr:Stmt:=Ji (top 20) 2
def jb (rs:List (Str×List Str)) (r:Str×List Str):List Str:=(rs.map (·.1)).filter λz=>QI (.str z) (r.2.map V.str)
def jT (CG:Addr) (H:Hp) (a:Addr) (rs:List (Str×List Str)):Prop:=∃(dx lo rd:Addr) (kvs:List (qO×V)),H a=some (.ins CG dx [("order",.ref lo),("roads",.ref rd)])/\H lo=some (.lst ((rs.map (·.1)).map V.str))/\(H rd=some (.dK kvs)/\kvs.map (·.1)=(rs.map (·.1)).map Sum.inr)/\
 ∀r∈rs,∃q,jo kvs (Sum.inr r.1)=some (.ref q)/\H q=some (.lst ((jb rs r).map V.str))
theorem jT.mono {CG:Addr} {H H':Hp} {a:Addr} {rs:List (Str×List Str)} (h:jT CG H a rs) (s:Same H H'):jT CG H' a rs:=by
 obtain⟨dx,lo,rd,kvs,h1,h2,h3,h4⟩:=h
 exact⟨dx,lo,rd,kvs,s _ _ h1,s _ _ h2,⟨s _ _ h3.1,h3.2⟩,λr hr=>let ⟨q,a,b⟩:=h4 r hr;⟨q,a,s _ _ b⟩⟩
theorem ja.fr {H H':Hp} {l x C dx:Addr} {fs:List (Str×V)} {ps:List Addr} {rs:List (Str×List Str)} (h:ja H l ps rs) (hx:H x=some (.ins C dx fs)) (s:Fr H x H'):ja H' l ps rs:=by
 refine⟨s _ _ h.at_ (λe=>?_),⟨h.rows.1,λi p r e1 e2=>?_⟩,h.good,h.pos,h.le⟩
 . have:=h.at_
   rw[e,hx]at this
   cases this
 . obtain⟨q,a,b⟩:=h.rows.2 i p r e1 e2
   exact⟨q,s _ _ a (λe=>by rw[e,hx]at a;cases a),s _ _ b (λe=>by rw[e,hx]at b;cases b)⟩
structure yA (K:PySem.W.Frag) (mg:Str->Option Value) (CG f:Addr) (fd:FuncData):Prop where
 cl:Yw K CG
 mkr:Mk K CG f
 ns:mg "Ground"=some (.ref CG)
 no:jO K CG "order"
 nr:jO K CG "roads"
 fn:Qb K "__init__" "Ground.__init__" YQ f fd
 bi:js K fd ["self","rows"] []
theorem nor:¬(Str.ofString "order")=Str.ofString "roads":=by decide+kernel
theorem wf (v:V):Qu (Str.ofString "order") v []=[(Str.ofString "order",v)]:=rfl
theorem we (v u:V):Qu (Str.ofString "roads") u [(Str.ofString "order",v)]=[(Str.ofString "order",v),(Str.ofString "roads",u)]:=by
 unfold Qu
 rw[if_neg nor]
 rfl
theorem wo (v u:V):([(Str.ofString "order",v),(Str.ofString "roads",u)]:List (Str×V)).lookup (Str.ofString "order")=some v:=by simp [List.lookup]
theorem xt (v u:V):([(Str.ofString "order",v),(Str.ofString "roads",u)]:List (Str×V)).lookup (Str.ofString "roads")=some u:=by
 have e:((Str.ofString "roads")==(Str.ofString "order"))=false:=by decide+kernel
 simp [List.lookup,e]
def wF (CG:Addr) (H0 H:Hp) (a:Addr) (rs:List (Str×List Str)):Prop:=∃(dx lo rd:Addr) (kvs:List (qO×V)),H a=some (.ins CG dx [("order",.ref lo),("roads",.ref rd)])/\H lo=some (.lst ((rs.map (·.1)).map V.str))/\(H rd=some (.dK kvs)/\kvs.map (·.1)=(rs.map (·.1)).map Sum.inr)/\
 (∀r∈rs,∃q,jo kvs (Sum.inr r.1)=some (.ref q)/\H q=some (.lst ((jb rs r).map V.str))/\H0 q=none)/\H0 lo=none/\H0 rd=none
def J2 (CG:Addr):Sp:=λvs H Q _=>∃(x dx l:Addr) (ps:List Addr) (rs:List (Str×List Str)),vs=[.ref x,.ref l]/\ja H l ps rs/\H x=some (.ins CG dx [])/\∀H',wF CG H H' x rs->Fr H x H'->Q .non H'
def Q8 (CG:Addr):Sp:=λvs H Q _=>∃(a:Addr) (rs:List (Str×List Str)),vs=[.ref a]/\jT CG H a rs/\∀l,H l=none->Q (.ref l) (upd H l (.lst ((rs.map (·.1)).map V.str)))
def J3 (CG:Addr):Sp:=λvs H Q _=>∃(a:Addr) (rs:List (Str×List Str)) (r:Str×List Str),vs=[.ref a,.str r.1]/\jT CG H a rs/\r∈rs/\qD r.1=true/\∀H1 l,Same H H1->H1 l=none->Q (.ref l) (upd H1 l (.lst ((jb rs r).map V.str)))
section
variable {P:Program} {w:World} {K:PySem.W.Frag} {mg:Str->Option Value} {base:Heap}
abbrev nGI:List Str:=["self","rows","row"]
theorem yZ:qx nGI ["self","rows"] (qo YQ):=⟨rfl,rfl,rfl,by decide+kernel,rfl,by decide+kernel,by decide+kernel⟩
theorem VM {f fW CG:Addr} {fd fdW:FuncData} (C:yA K mg CG f fd) (B:J1 mg) (G:QE mg) (T:QD K mg) (N:vR K mg) (hW:Qh K mg "need_rows" zV ["rows"] fW fdW):FnOk P w K mg base jf 6 f fd ["self","rows"] (J2 CG):=by
 have GW:FnOk P w K mg base jf 5 fW fdW ["rows"] Jq:=vb hW.fn B G T N
 refine C.fn.okJ yZ (λvs H Q E h=>?_) (λcdv A outer s H vs Q E hr h=>?_)
 . obtain⟨x,dx,l,ps,rs,rfl,_⟩:=h
   rfl
 . obtain⟨x,dx,l,ps,rs,rfl,g,hx,q⟩:=h
   have hu:=JQ hr
   refine⟨_,qe (qX (jg hW GW hr (by rfl) (qb (jv 1) qf)))
     (qe (VX (jv 0) (jI (N':=["row"]) (ix:=[none]) (te:=YE (Vs K) (qV 0) (tC (.int 0))) rfl ⟨rfl,rfl,rfl,rfl,rfl⟩ (qA (jv 1)) (λC s2 H2 fp pins=>
       ⟨qm (i:=0) (kl _) rfl (Or.inl rfl),qM,jq QR (jv 0) ql (λ_ _=>rfl)⟩)) rfl)
     (qe (VX (jv 0) Jg rfl)
     (qk (jt PassesOwn.never rfl (qA (jv 1)) (qm (i:=2) yZ.nd rfl (Or.inr rfl))
       (qk (jQ hu (QQ (jv 0) rfl) (jq QR (jv 2) ql (λ_ _=>rfl))
         (jI (N':=["name","row"]) (ix:=[none,some 2]) (tt:=zR (YE (kQ K false) (qV 0) (YE (Vs K) (qV 1) (tC (.int 1))))) rfl ⟨rfl,rfl,rfl,rfl,rfl⟩ (qA (QQ (jv 0) rfl)) (λC s2 H2 fp pins=>
           ⟨qm (i:=0) (show (["name","row"]:List Str).Nodup by decide+kernel) rfl (Or.inl rfl),Zb (qt QU (jv 0) (jq QR (jv 1) ql (λ_ _=>rfl)) (by with_unfolding_all rfl)),jv 0⟩)) rfl)))))),?_⟩
   refine⟨_,rfl,l,ps,rs,rfl,g,λH1 s1=>?_⟩
   have g1:=g.mono s1
   have fr1:Fr H x H1:=λb u h _=>s1 _ _ h
   have hx1:=s1 _ _ hx
   refine⟨_,rfl,l,rfl,⟨_,.of g1.at_⟩,λlo hlo=>?_⟩
   have nlx:lo≠x:=λe=>by rw[e,hx1]at hlo;cases hlo
   refine qK (K:=K) (a:=l) (xs:=ps.map V.ref) (λi σ' H'=>∃v,σ'=[v]/\H'=upd H1 lo (.lst (((rs.take i).map (·.1)).map V.str))) ⟨none,rfl,rfl⟩ (λi σ' H' _ ⟨_,_,e⟩=>e▸.of (qh g1.at_ hlo)) ?_ ?_
   . rintro i y σ' H' hy ⟨v,rfl,rfl⟩
     obtain⟨p',q',r,rfl,er,hr',a,b⟩:=g1.rows.item hy
     have hi:=(List.getElem?_eq_some_iff.mp er).1
     refine⟨_,rfl,p',_,0,_,rfl,rfl,.of (qh a hlo),rfl,_,qd,?_,_,rfl,?_⟩
     . rw[List.length_map,List.length_map,List.length_take]
       have:=g.le
       exact qj (by omega)
     . rw[qR,List.take_add_one,er,List.map_append,List.map_append]
       rfl
   rintro σ' H' ⟨v,rfl,rfl⟩
   have e:rs.take (ps.map V.ref).length=rs:=List.take_of_length_le (by rw[List.length_map,g.rows.1];exact Nat.le_refl _)
   rw[e]
   have fr2:Fr H x (upd H1 lo (.lst ((rs.map (·.1)).map V.str))):=fr1.new hlo
   have hlo2:upd H1 lo (.lst ((rs.map (·.1)).map V.str)) lo=some (.lst ((rs.map (·.1)).map V.str)):=qd
   have hx2:upd H1 lo (.lst ((rs.map (·.1)).map V.str)) x=some (.ins CG dx []):=qh hx1 hlo
   generalize upd H1 lo (.lst ((rs.map (·.1)).map V.str))=H2 at fr2 hlo2 hx2
   refine⟨_,rfl,x,CG,dx,[],rfl,hx2,C.cl,C.no,by decide,?_⟩
   rw[wf]
   intro rd hrd
   have nrx:rd≠x:=λe=>by rw[e,qd]at hrd;cases hrd
   have hrd2:H2 rd=none:=by rw[qg nrx]at hrd;exact hrd
   have nrl:rd≠lo:=λe=>by rw[e,hlo2]at hrd2;cases hrd2
   have hHr:H rd=none:=fr2.fresh hx2 hrd2
   refine⟨_,rfl,x,CG,dx,_,rfl,qh qd hrd,C.cl,C.nr,by show 1 < 1000;decide,?_⟩
   rw[we]
   have fr5:Fr H x (upd (upd (upd H2 x (.ins CG dx [("order",.ref lo)])) rd (.dK [])) x (.ins CG dx [("order",.ref lo),("roads",.ref rd)])):=((fr2.at_d).own hHr).at_d
   have g5:=g.fr hx fr5
   refine⟨_,rfl,l,rfl,⟨_,.of g5.at_⟩,?_⟩
   refine jw (K:=K) (a:=l) (xs:=ps.map V.ref) (λi σ' H'=>∃v kvs,σ'=[some (.ref x),some (.ref l),v]/\H' x=some (.ins CG dx [("order",.ref lo),("roads",.ref rd)])/\H' lo=some (.lst ((rs.map (·.1)).map V.str))/\H' rd=some (.dK kvs)/\
     kvs.map (·.1)=((rs.map (·.1)).take i).map Sum.inr/\(∀r∈rs.take i,∃q,jo kvs (Sum.inr r.1)=some (.ref q)/\H' q=some (.lst ((jb rs r).map V.str))/\H q=none)/\Fr H x H')
     ⟨none,[],rfl,qd,?_,?_,rfl,λr h=>(nomatch h),fr5⟩ (λi σ' H' _ ⟨_,_,_,_,_,_,_,_,fr⟩=>.of (g.fr hx fr).at_) ?_ ?_
   . rw[qg nlx,qg (Ne.symm nrl),qg nlx]
     exact hlo2
   . rw[qg nrx]
     exact qd
   . rintro i y σ' H' hy ⟨v,kvs,rfl,hx',hlo',hrd',ek,hv,fr⟩
     have g':=g.fr hx fr
     obtain⟨p,qq,r,rfl,er,hr',a,b⟩:=g'.rows.item hy
     have hi:=(List.getElem?_eq_some_iff.mp er).1
     have hle:=g.le
     refine⟨_,rfl,x,CG,dx,_,_,rfl,hx',C.cl,C.no,wo _ _,lo,rfl,⟨_,.of hlo'⟩,λD hD=>?_⟩
     refine qK (K:=K) (a:=lo) (xs:=(rs.map (·.1)).map V.str) (λj σ'' H''=>∃v0,σ''=[v0,some (.ref p)]/\H''=upd H' D (.lst ((((rs.map (·.1)).take j).filter λz=>QI (.str z) (r.2.map V.str)).map V.str))) ⟨none,rfl,rfl⟩
       (λj σ'' H'' _ ⟨_,_,e⟩=>e▸.of (qh hlo' hD)) ?_ ?_
     . rintro j y σ'' H'' hy ⟨v0,rfl,rfl⟩
       rw[List.getElem?_map]at hy
       cases e:(rs.map (·.1))[j]? with
       | none=>rw[e]at hy;cases hy
       | some z=>
         rw[e]at hy
         obtain rfl:=(Option.some.inj hy).symm
         refine⟨_,rfl,_,rfl,p,_,1,_,rfl,rfl,.of (qh a hD),rfl,qq,_,rfl,.inr (.of (qh b hD)),rfl,j3 _,_,rfl,?_⟩
         have et:((rs.map (·.1)).take (j+1)).filter (λz=>QI (.str z) (r.2.map V.str))=((rs.map (·.1)).take j).filter (λz=>QI (.str z) (r.2.map V.str))++if QI (.str z) (r.2.map V.str)=true then [z] else []:=by
           rw[List.take_add_one,e,List.filter_append]
           congr 1
           cases ei:QI (.str z) (r.2.map V.str)
           . simp [ei]
           . simp [ei]
         rw[et]
         show if QI (.str z) (r.2.map V.str)=true then _ else _
         cases ei:QI (.str z) (r.2.map V.str) with
         | true=>
           refine QX ⟨_,rfl,_,qd,?_,_,rfl,?_⟩
           . rw[List.length_map]
             refine qj (Nat.le_trans (List.length_filter_le _ _) ?_)
             rw[List.length_take,List.length_map]
             omega
           . rw[qR,if_pos rfl,List.map_append]
             rfl
         | false=>
           refine jm ⟨_,rfl,?_⟩
           rw[if_neg Bool.false_ne_true,List.append_nil]
     . rintro σ'' H'' ⟨v0,rfl,rfl⟩
       have ed:((rs.map (·.1)).take ((rs.map (·.1)).map V.str).length).filter (λz=>QI (.str z) (r.2.map V.str))=jb rs r:=by
         rw[List.length_map,List.take_of_length_le (Nat.le_refl _)]
         rfl
       rw[ed]
       have nD:∀{c:Addr} {o:HO},H' c=some o->c≠D:=λh e=>by rw[e,hD]at h;cases h
       have en:(rs.map (·.1))[i]?=some r.1:=by rw[List.getElem?_map,er];rfl
       have ez:jo kvs (Sum.inr r.1:qO)=none:=Q7 (by rw[ek];exact Jv g.good.nd en)
       have lk:kvs.length < sizeLine:=by
         have:=congrArg List.length ek
         rw[List.length_map,List.length_map,List.length_take,List.length_map]at this
         exact qj (by omega)
       refine⟨_,rfl,x,CG,dx,_,_,rfl,qh hx' hD,C.cl,C.nr,xt _ _,_,rfl,p,_,0,_,rfl,rfl,.of (qh a hD),rfl,rd,_,rfl,Jp.k (k:=(Sum.inr r.1:qO)) (qh hrd' hD) lk,?_⟩
       refine⟨_,ju kvs (Sum.inr r.1) (.ref D),rfl,?_,?_,qd,?_,λr' hr2=>?_,?_⟩
       . rw[qg (Ne.symm nrx)];exact qh hx' hD
       . rw[qg (Ne.symm nrl)];exact qh hlo' hD
       . rw[zw _ ez,ek,List.take_add_one,en,List.map_append]
         rfl
       . rw[List.take_add_one,er]at hr2
         rcases List.mem_append.mp hr2 with h | h
         . obtain⟨q1,a1,b1,c1⟩:=hv r' h
           refine⟨q1,?_,?_,c1⟩
           . rw[zO,if_neg]
             . exact a1
             . intro z
               rw[z,ez]at a1
               cases a1
           . have n1:q1≠rd:=λe=>by rw[e,hrd']at b1;cases b1
             rw[qg n1]
             exact qh b1 hD
         . have er':r'=r:=by simpa using h
           subst er'
           refine⟨D,?_,?_,fr.fresh hx' hD⟩
           . rw[zO,if_pos rfl]
           . rw[qg (Ne.symm (nD hrd'))]
             exact qd
       . exact(fr.new hD).own hHr
   . rintro σ' H' ⟨v,kvs,rfl,hx',hlo',hrd',ek,hv,fr⟩
     have e:rs.take (ps.map V.ref).length=rs:=List.take_of_length_le (by rw[List.length_map,g.rows.1];exact Nat.le_refl _)
     rw[e]at hv
     have e2:(rs.map (·.1)).take (ps.map V.ref).length=rs.map (·.1):=List.take_of_length_le (by rw[List.length_map,List.length_map,g.rows.1];exact Nat.le_refl _)
     rw[e2]at ek
     exact q H' ⟨dx,lo,rd,kvs,hx',hlo',⟨hrd',ek⟩,hv,fr1.fresh hx1 hlo,hHr⟩ fr
theorem x4:qx ["self"] ["self"] (qo Jc):=⟨rfl,rfl,rfl,by decide+kernel,rfl,by decide+kernel,by decide+kernel⟩
theorem Ju {f fI CG:Addr} {fd fdI:FuncData} (F:Qb K "names" "Ground.names" Jc f fd) (C:yA K mg CG fI fdI) (G:QE mg):FnOk P w K mg base jf 1 f fd ["self"] (Q8 CG):=by
 refine F.okJ x4 (λvs H Q E h=>?_) (λcdv A outer s H vs Q E hr h=>?_)
 . obtain⟨a,rs,rfl,_⟩:=h
   rfl
 . obtain⟨a,rs,rfl,⟨dx,lo,rd,kvs,h1,h2,h3,h4⟩,q⟩:=h
   refine⟨_,qk (qC (jc QA (by rfl) G.lst boot_list (qb (QQ (jv 0) rfl) qf))),?_⟩
   exact⟨_,rfl,a,CG,dx,_,_,rfl,h1,C.cl,C.no,wo _ _,lo,_,rfl,.inl (.of h2),q⟩
abbrev xR:List Str:=["self","name"]
theorem y2:qx xR xR (qo Jr):=⟨rfl,rfl,rfl,by decide+kernel,rfl,by decide+kernel,by decide+kernel⟩
theorem Zv {f fI fN CG:Addr} {fd fdI fdN:FuncData} (F:Qb K "roads_from" "Ground.roads_from" Jr f fd) (C:yA K mg CG fI fdI) (B:J1 mg) (G:QE mg) (T:QD K mg) (hN:Qh K mg "is_name" QM ["thing"] fN fdN):FnOk P w K mg base jf 2 f fd xR (J3 CG):=by
 have GN:FnOk P w K mg base jf 1 fN fdN ["thing"] W8:=J6 hN.fn B T
 refine F.okJ y2 (λvs H Q E h=>?_) (λcdv A outer s H vs Q E hr h=>?_)
 . obtain⟨a,rs,r,rfl,_⟩:=h
   rfl
 . obtain⟨a,rs,r,rfl,gr,hr',hn,q⟩:=h
   have hu:=JQ hr
   refine⟨_,qe (qQ (j6 (jz (jp (jg hN GN hr (by rfl) (qb (jv 1) qf)))) (jE (zy (Z8 hu (jv 1) (QQ (jv 0) rfl))))).pt jl qz)
     (qk (qC (jc QA (by rfl) G.lst boot_list (qb (jZ hu (QQ (jv 0) rfl) (jv 1) (λ_ _=>rfl)) qf)))),?_⟩
   refine⟨_,rfl,r.1,rfl,hn,λH1 s1=>⟨_,rfl,jm ?_⟩⟩
   obtain⟨dx,lo,rd,kvs,h1,h2,h3,h4⟩:=gr.mono s1
   obtain⟨qq,hv,hq⟩:=h4 r hr'
   have gz:jW H1 rd (.str r.1) (some (.ref qq)):=by
     have:=jW.k (k:=(Sum.inr r.1:qO)) h3.1
     rw[hv]at this
     exact this
   refine⟨_,rfl,_,rfl,a,CG,dx,_,_,rfl,h1,C.cl,C.nr,xt _ _,rd,_,rfl,gz,_,rfl,jm ?_⟩
   exact⟨_,rfl,a,CG,dx,_,_,rfl,h1,C.cl,C.nr,xt _ _,_,rfl,rd,_,rfl,gz,qq,_,rfl,.inl (.of hq),λl hl=>q H1 l s1 hl⟩
end
end Rh
set_option Elab.async false
set_option linter.all false
set_option maxRecDepth 100000
set_option maxHeartbeats 4000000
namespace Rh
open PySem L2 PyProof.Rows
abbrev j9:=List (Str×List Str)
theorem Vm {rs:j9} {r:Str×List Str} {y:Str} (h:y∈jb rs r):∃r'∈rs,r'.1=y:=by
 obtain⟨r',h1,h2⟩:=List.mem_map.mp (List.mem_filter.mp h).1
 exact⟨r',h1,h2⟩
theorem Zd {z:Str} {zs:List Str}:QI (.str z) (zs.map V.str)=true↔z∈zs:=by
 refine⟨λh=>?_,XG⟩
 unfold QI at h
 obtain⟨y,hy,e⟩:=List.any_eq_true.mp h
 obtain⟨x,hx,rfl⟩:=List.mem_map.mp hy
 have e':(x==z)=true:=e
 rw[beq_iff_eq]at e'
 exact e'▸hx
theorem Vn {rs:j9} (g:qN rs) {r:Str×List Str} (h:r∈rs) {y:Str}:y∈jb rs r↔y∈r.2:=by
 unfold jb
 rw[List.mem_filter,Zd]
 exact⟨λz=>z.2,λz=>⟨g.to r h y z,z⟩⟩
theorem jj {H H':Hp} {a:Addr} (s:Same H H') (h:H' a=none):H a=none:=by
 cases z:H a with
 | none=>rfl
 | some u=>rw[s _ _ z]at h;cases h
theorem jy {z:Str} (h:qD z=true):(∀c∈z.cps.toList,c<=122)/\z.length<=8/\1<=z.length:=by
 unfold qD at h
 simp only[Bool.and_eq_true,decide_eq_true_eq]at h
 refine⟨λc hc=>?_,h.1.2,h.1.1⟩
 have:=List.all_eq_true.mp h.2 c hc
 unfold qW at this
 simp only[Bool.and_eq_true,decide_eq_true_eq]at this
 exact this.2
theorem XE {z:Str} (h:qD z=true):PyData.strOk z=true:=by
 unfold PyData.strOk
 rw[Array.all_eq_true_iff_forall_mem]
 intro c hc
 have:=(jy h).1 c (by simpa using hc)
 exact decide_eq_true (by omega)
def dL (zs:List Str):PyData:=.list (zs.map PyData.str)
theorem Jo {K:PySem.W.Frag} {H:Hp}:∀zs:List Str,DVs K H (zs.map V.str) (zs.map PyData.str)
 | []=>.nil
 | z::zs=>.cons (.str z) (Jo zs)
theorem ZT {K:PySem.W.Frag} {H:Hp} {p:Addr} {zs:List Str} (h:H p=some (.lst (zs.map V.str))):DV K H (.ref p) (dL zs):=.lst (.of h) (Jo zs)
theorem yv:∀{zs:List Str},(∀z∈zs,qD z=true)->PyData.canLayAll0 (zs.map PyData.str)=true
 | [],_=>rfl
 | z::zs,h=>by
   rw[List.map_cons,PyData.canLayAll0,yv λy hy=>h y (List.mem_cons_of_mem _ hy),Bool.and_true]
   exact XE (h z List.mem_cons_self)
theorem Up:∀zs:List Str,PyData.depthAll (zs.map PyData.str)=0
 | []=>rfl
 | z::zs=>by
   rw[List.map_cons]
   simp only[PyData.depthAll,PyData.depth,Up zs]
   rfl
theorem xK {zs:List Str} (h:∀z∈zs,qD z=true):PySem.SeqAt.shaped (dL zs)=true:=by
 unfold PySem.SeqAt.shaped
 rw[Bool.and_eq_true]
 refine⟨yv h,decide_eq_true ?_⟩
 unfold dL
 simp only[PyData.depth,Up zs]
 decide
structure ky (K:PySem.W.Frag) (C:Addr) (m qual:Str) (st:Stmt) (ps:List Str) (f:Addr) (fd:FuncData):Prop where
 fn:Qb K m qual st f fd
 me:Yv K C m f
 bi:js K fd ps []
theorem ZD {X:Cx} {C f:Addr} {fd:FuncData} {m qual:Str} {st:Stmt} {ps:List Str} {k:Nat} {sp:Sp} {o:Expr} {ta:TE} {apos pos:Pos} {pl:Sem Bool} (h:ky X.K C m qual st ps f fd) (c:Yw X.K C) (G:FnOk X.prog X.w X.K X.mg X.base jf k f fd ps sp) (hr:qU k X.A) (he:JE X o ta)
   (ht:eval (.Call (.Attribute o m apos) [] [] pos) X.env=(do
     let ov <-eval o X.env
     standAt apos.atName
     let (f,first) <-holding [ov] (getMethod ov m pl)
     callWith pos f first (backTo pos (starEach [] X.env)) (backToKw pos (keywordEach [] X.env))):=by rfl):
   JE X (.Call (.Attribute o m apos) [] [] pos) (ZX C m sp [] E0 ta j4):=V4 he c h.me G hr h.bi .nil zX ht
theorem V6 {X:Cx} {C f:Addr} {fd:FuncData} {m qual:Str} {st:Stmt} {ps:List Str} {k:Nat} {sp:Sp} {o e:Expr} {es:List Expr} {ta:TE} {t:TA} {apos pos:Pos} {pl:Sem Bool} (h:ky X.K C m qual st ps f fd) (c:Yw X.K C) (G:FnOk X.prog X.w X.K X.mg X.base jf k f fd ps sp) (hr:qU k X.A) (he:JE X o ta) (ha:JA X (e::es) t)
   (hst:starEach (e::es) X.env=(false,eval e X.env)::starEach es X.env:=by rfl) (hpl:(backTo pos (starEach es X.env)).any (·.1)=false:=by rfl)
   (ht:eval (.Call (.Attribute o m apos) (e::es) [] pos) X.env=(do
     let ov <-eval o X.env
     standAt apos.atName
     let (f,first) <-holding [ov] (getMethod ov m pl)
     callWith pos f first (backTo pos (starEach (e::es) X.env)) (backToKw pos (keywordEach [] X.env))):=by rfl):
   JE X (.Call (.Attribute o m apos) (e::es) [] pos) (ZX C m sp [] E0 ta t):=vB he c h.me G hr h.bi .nil zX ha hst hpl ht
structure GM (K:PySem.W.Frag) (mg:Str->Option Value) (CG:Addr):Prop where
 cls:∃f fd,yA K mg CG f fd
 nm:∃f fd,ky K CG "names" "Ground.names" Jc ["self"] f fd
 fr:∃f fd,ky K CG "roads_from" "Ground.roads_from" Jr ["self","name"] f fd
 isn:∃f fd,Qh K mg "is_name" QM ["thing"] f fd
theorem jT.ins {CG:Addr} {H:Hp} {a:Addr} {rs:j9} (h:jT CG H a rs):∃dx fs,H a=some (.ins CG dx fs)/\fs.lookup (Str.ofString "names")=none/\fs.lookup (Str.ofString "roads_from")=none:=by
 obtain⟨dx,lo,rd,kvs,h1,_⟩:=h
 refine⟨dx,_,h1,?_,?_⟩
 . have e1:((Str.ofString "names")==(Str.ofString "order"))=false:=by decide+kernel
   have e2:((Str.ofString "names")==(Str.ofString "roads"))=false:=by decide+kernel
   simp only[List.lookup]
   rw[e1,e2]
 . have e1:((Str.ofString "roads_from")==(Str.ofString "order"))=false:=by decide+kernel
   have e2:((Str.ofString "roads_from")==(Str.ofString "roads"))=false:=by decide+kernel
   simp only[List.lookup]
   rw[e1,e2]
structure vS (K:PySem.W.Frag) (mg:Str->Option Value) (D:Addr) (x qual:Str) (st:Stmt) (fld:Str) (C f:Addr) (fd:FuncData):Prop where
 cls:J0 K C (.ref D::jC)
 mkr:xH K C f (.ref D::jC)
 ns:mg x=some (.ref C)
 na:jO K C fld
 fn:Qb K "__init__" qual st f fd
 bi:js K fd ["self",fld] []
theorem wg (D:Addr):YT (.ref D::jC):=rfl
theorem Wu (D:Addr):(Value.ref D::jC).contains (.type "BaseException")=true:=rfl
theorem vS.rcls {K:PySem.W.Frag} {mg:Str->Option Value} {D C f:Addr} {x qual fld:Str} {st:Stmt} {fd:FuncData} (h:vS K mg D x qual st fld C f fd):WP K C:=⟨f,_,h.mkr,Wu D⟩
def spE (C:Addr) (fld:Str):Sp:=λvs H Q _=>∃e y,vs=[.ref e,y]/\H e=some (JF e C)/\∀dx,H dx=none->Q .non (upd (upd H e (QY e C dx)) dx (.xd [(fld,y)]))
theorem J8 {H:Hp} {e dx C:Addr} {fs:List (Str×V)} (h1:H e=none) (h2:upd H e (JF e C) dx=none):
   Same H (upd (upd (upd H e (JF e C)) e (QY e C dx)) dx (.xd fs))/\upd (upd (upd H e (JF e C)) e (QY e C dx)) dx (.xd fs) e=some (QY e C dx)/\upd (upd (upd H e (JF e C)) e (QY e C dx)) dx (.xd fs) dx=some (.xd fs):=by
 have ne:e≠dx:=λz=>by rw[<-z,qd]at h2;cases h2
 refine⟨λb o hb=>?_,?_,qd⟩
 . have b1:b≠e:=qu hb h1
   have b2:b≠dx:=λz=>by rw[<-z,qg b1,hb]at h2;cases h2
   rw[qg b2,qg b1,qg b1];exact hb
 . rw[qg ne];exact qd
def jM (H H':Hp):Prop:=∀b o,H b=some o->(∀φ,o≠.ext φ)->H' b=some o
theorem _root_.L2.Same.keep {H H':Hp} (s:Same H H'):jM H H':=λb o h _=>s b o h
theorem jM.trans {H H' H'':Hp} (a:jM H H') (b:jM H' H''):jM H H'':=λc o h n=>b c o (a c o h n) n
theorem jM.refl (H:Hp):jM H H:=λ_ _ h _=>h
theorem _root_.L2.SqT.keep {K:PySem.W.Frag} {H H':Hp} {p:Addr} {xs:List V} (h:SqT K H p xs) (s:jM H H'):SqT K H' p xs:=by
 rcases h with (h | ⟨o,h⟩) | h
 . exact .inl (.inl (s _ _ h (λ_ z=>nomatch z)))
 . exact .inl (.inr ⟨o,s _ _ h (λ_ z=>nomatch z)⟩)
 . exact .inr h
theorem _root_.L2.SqL.keep {K:PySem.W.Frag} {H H':Hp} {p:Addr} {xs:List V} (h:SqL K H p xs) (s:jM H H'):SqL K H' p xs:=by
 rcases h with (h | ⟨o,h⟩) | h
 . exact .inl (.inl (s _ _ h (λ_ z=>nomatch z)))
 . exact .inl (.inr ⟨o,s _ _ h (λ_ z=>nomatch z)⟩)
 . exact .inr h
theorem qF.keep {H H':Hp} {ps:List Addr} {rs:j9} (h:qF H ps rs) (s:jM H H'):qF H' ps rs:=⟨h.1,λi p r e1 e2=>let ⟨q,a,b⟩:=h.2 i p r e1 e2;⟨q,s _ _ a (λ_ z=>nomatch z),s _ _ b (λ_ z=>nomatch z)⟩⟩
theorem TyOf.keep {K:PySem.W.Frag} {H H':Hp} {v:V} {t:Value} (h:TyOf K H v t) (s:jM H H'):TyOf K H' v t:=by
 cases h with
 | non=>exact .non
 | bl x=>exact .bl x
 | int i=>exact .int i
 | str x=>exact .str x
 | flt x=>exact .flt x
 | lst e=>exact .lst (s _ _ e (λ_ z=>nomatch z))
 | frz e=>exact .frz (s _ _ e (λ_ z=>nomatch z))
 | tup e=>exact .tup (s _ _ e (λ_ z=>nomatch z))
 | dK e=>exact .dK (s _ _ e (λ_ z=>nomatch z))
 | dT e=>exact .dT (s _ _ e (λ_ z=>nomatch z))
 | ins e a b c d f=>exact .ins (s _ _ e (λ_ z=>nomatch z)) a b c d f
theorem jT.keep {CG:Addr} {H H':Hp} {a:Addr} {rs:j9} (h:jT CG H a rs) (s:jM H H'):jT CG H' a rs:=by
 obtain⟨dx,lo,rd,kvs,h1,h2,h3,h4⟩:=h
 exact⟨dx,lo,rd,kvs,s _ _ h1 (λ_ z=>nomatch z),s _ _ h2 (λ_ z=>nomatch z),⟨s _ _ h3.1 (λ_ z=>nomatch z),h3.2⟩,λr hr=>let ⟨q,a,b⟩:=h4 r hr;⟨q,a,s _ _ b (λ_ z=>nomatch z)⟩⟩
mutual
theorem XL {K:PySem.W.Frag} {H H':Hp} (s:jM H H'):∀{x:V} {d:PyData},DV K H x d->DV K H' x d
 | _,_,.non=>.non
 | _,_,.bl b=>.bl b
 | _,_,.int i=>.int i
 | _,_,.str x=>.str x
 | _,_,.lst h hs=>.lst (h.keep s) (dvs_keep s hs)
 | _,_,.tup h hs=>.tup (h.keep s) (dvs_keep s hs)
theorem dvs_keep {K:PySem.W.Frag} {H H':Hp} (s:jM H H'):∀{x:List V} {d:List PyData},DVs K H x d->DVs K H' x d
 | _,_,.nil=>.nil
 | _,_,.cons h hs=>.cons (XL s h) (dvs_keep s hs)
end
abbrev jS:Stmt:=Ji (top 3) 0
section
variable {P:Program} {w:World} {K:PySem.W.Frag} {mg:Str->Option Value} {base:Heap}
theorem Wa:qx ["self","found"] ["self","found"] (qo jS):=⟨rfl,rfl,rfl,by decide+kernel,rfl,by decide+kernel,by decide+kernel⟩
theorem Wo {D C f:Addr} {fd:FuncData} (x:vS K mg D "NoPlace" "NoPlace.__init__" jS "found" C f fd):FnOk P w K mg base jf 1 f fd ["self","found"] (spE C "found"):=by
 refine x.fn.okJ Wa (λvs H Q E h=>?_) (λcdv A outer s H vs Q E hr h=>?_)
 . obtain⟨e,y,rfl,_⟩:=h
   rfl
 . obtain⟨e,y,rfl,hH,k⟩:=h
   exact⟨_,qk (yn (bm:=.ref D::jC) (jv 0) (jv 1) rfl),_,rfl,_,rfl,e,C,rfl,hH,x.cls,wg D,x.na,λdx hdx=>k dx hdx⟩
end
end Rh
set_option Elab.async false
set_option linter.all false
set_option maxRecDepth 100000
set_option maxHeartbeats 4000000
namespace Rh
open PySem L2 PyProof.Rows
abbrev Zq:Stmt:=Ji (top 20) 3
abbrev Z1:Stmt:=top 22
abbrev Zr:Stmt:=top 23
def WS (K:PySem.W.Frag) (H:Hp) (v:V):Prop:=(∃z,v=.str z/\z.length<=1000/\qD z=false)\/∃t,TyOf K H v t/\PySem.W.kitOne K t (.type "str")=some false
def yX (K:PySem.W.Frag):Sp:=λvs H Q _=>∃x,vs=[x]/\WS K H x/\∀H',Same H H'->Q (.bl false) H'
theorem WS.keep {K:PySem.W.Frag} {H H':Hp} {v:V} (h:WS K H v) (s:jM H H'):WS K H' v:=by
 rcases h with h | ⟨t,a,b⟩
 . exact .inl h
 . exact .inr ⟨t,Rh.TyOf.keep a s,b⟩
def Uv (K:PySem.W.Frag) (H:Hp) (N:List Str) (v:V):Prop:=WS K H v\/∃z,v=.str z/\qD z=true/\z∉N
theorem Uv.keep {K:PySem.W.Frag} {H H':Hp} {N:List Str} {v:V} (h:Uv K H N v) (s:jM H H'):Uv K H' N v:=h.imp (·.keep s) id
def zU (K:PySem.W.Frag) (CG CP:Addr):Sp:=λvs H Q E=>∃(a:Addr) (rs:j9) (v:V),vs=[.ref a,v]/\jT CG H a rs/\Uv K H (rs.map (·.1)) v/\∀H1 dx,Same H H1->H1 dx=some (.xd [(Str.ofString "found",v)])->E (.ref CP) (some dx) H1
theorem _root_.L2.FnOk.or {P:Program} {w:World} {K:PySem.W.Frag} {mg:Str->Option Value} {base:Heap} {CX:zK} {k:Nat} {f:Addr} {fd:FuncData} {ps:List Str} {sp sp':Sp} (F:FnOk P w K mg base CX k f fd ps sp) (G:FnOk P w K mg base CX k f fd ps sp'):FnOk P w K mg base CX k f fd ps (λvs H Q E=>sp vs H Q E\/sp' vs H Q E):=
 ⟨λvs H Q E h=>h.elim (F.len vs H Q E) (G.len vs H Q E),λA outer s H args us vs Q E a b c d h=>h.elim (F.run A outer s H args us vs Q E a b c d) (G.run A outer s H args us vs Q E a b c d)⟩
section
variable {P:Program} {w:World} {K:PySem.W.Frag} {mg:Str->Option Value} {base:Heap}
theorem Wm {f:Addr} {fd:FuncData} (F:Qb K "is_name" "is_name" QM f fd) (B:J1 mg) (T:QD K mg):FnOk P w K mg base jf 1 f fd ["thing"] (yX K):=by
 refine F.okJ Vi (λvs H Q E h=>?_) (λcdv A outer s H vs Q E hr h=>?_)
 . obtain⟨x,rfl,_⟩:=h
   rfl
 . obtain⟨x,rfl,h,q⟩:=h
   obtain⟨tl,hlets⟩:=T.lets
   obtain⟨tg,hlg⟩:=T.lgst
   refine⟨_,qe (qQ (jz (jp (qr jd (by rfl) T.isi boot_isinstance (qb (jv 0) (qb (Qe (v:=.ty "str") (by rfl) T.str boot_str rfl) qf))))) (qk (qC jh)) qz)
     (qe (qQ (j6 (qt jX (qr jK (by rfl) B.len boot_len (qb (jv 0) qf)) ql (qv _))
         (jE (qt z5 (qr jK (by rfl) B.len boot_len (qb (jv 0) qf)) (Qd (v:=.int 8) (by rfl) hlg ⟨_,rfl⟩) (qv _)))).pt (qk (qC jh)) qz)
     (qk (qC (qr (JJ rfl) (by rfl) T.all boot_all (qb (jI (N':=["sign"]) (ix:=[none]) rfl ⟨rfl,rfl,rfl,rfl,rfl⟩ (VZ (jv 0)) (λC s2 H2 fp pins=>
       ⟨qm (i:=0) (kl _) rfl (Or.inl rfl),qM,j0 Z3 (jv 0) (Qd (v:=.str Xa) (by rfl) hlets ⟨_,rfl⟩) (by with_unfolding_all rfl)⟩)) qf))))),?_⟩
   rcases h with ⟨z,rfl,hz,hn⟩ | ⟨t,ty,e⟩
   . have hz':z.length<=sizeLine:=Nat.le_of_lt (qj hz)
     refine⟨_,rfl,_,_,_,_,rfl,rfl,.str z,T.kss,_,rfl,jm ?_⟩
     refine⟨_,rfl,z,rfl,hz',_,_,rfl,rfl,_,rfl,?_⟩
     refine Ya (λh=>?_) (λh=>?_)
     . exact QX (q H (Same.refl H))
     . have h1:¬(z.length:Int) < 1:=λz=>h (decide_eq_true z)
       refine⟨_,rfl,z,rfl,hz',_,_,rfl,rfl,_,rfl,?_⟩
       refine Ya (λh2=>q H (Same.refl H)) (λh2=>?_)
       have h3:¬(8:Int) < (z.length:Int):=λz=>h2 (decide_eq_true z)
       refine⟨_,rfl,z,rfl,λD hD=>?_⟩
       refine XR (λi σ' H'=>∃v,σ'=[v]/\H'=upd H D (.lst (((z.cps.toList.take i).map qW).map V.bl))) ⟨none,rfl,rfl⟩ ?_ ?_
       . rintro i c σ' H' hc ⟨v,rfl,rfl⟩
         refine⟨_,rfl,_,_,rfl,rfl,_,qd,?_,?_⟩
         . rw[List.length_map,List.length_map,List.length_take]
           exact Nat.lt_of_le_of_lt (Nat.min_le_right _ _) (qj (show z.cps.toList.length<=1000 by rw[Array.length_toList];exact hz))
         . refine⟨_,rfl,?_⟩
           rw[qR,Uf]
           have hc':z.cps.toList[i]?=some c:=by simpa using hc
           rw[<-Ys qW z.cps.toList i c hc',List.map_append]
           rfl
       . rintro σ' H' ⟨v,rfl,rfl⟩
         refine⟨D,_,rfl,.of qd,?_⟩
         have e0:z.cps.toList.take z.cps.size=z.cps.toList:=List.take_of_length_le (by simp)
         rw[e0]
         have e1:(z.cps.toList.map qW).all id=false:=by
           rw[<-hn]
           unfold qD
           rw[decide_eq_true (by omega:1<=z.length),decide_eq_true (by omega:z.length<=8),List.all_map]
           rfl
         rw[e1]
         exact q _ (qi hD)
   . refine⟨_,rfl,_,_,_,_,rfl,rfl,ty,e,_,rfl,QX ?_⟩
     exact q H (Same.refl H)
theorem Wn {f fI fN CG D CP fP:Addr} {fd fdI fdN fdP:FuncData} (F:Qb K "roads_from" "Ground.roads_from" Jr f fd) (C:yA K mg CG fI fdI) (B:J1 mg) (G:QE mg) (T:QD K mg) (hN:Qh K mg "is_name" QM ["thing"] fN fdN)
   (xP:vS K mg D "NoPlace" "NoPlace.__init__" jS "found" CP fP fdP):FnOk P w K mg base (yB P w) 3 f fd xR (zU K CG CP):=by
 have GN:FnOk P w K mg base jf 1 fN fdN ["thing"] (λvs H Q E=>yX K vs H Q E\/W8 vs H Q E):=(Wm hN.fn B T).or (J6 hN.fn B T)
 have GP:FnOk P w K mg base jf 1 fP fdP ["self","found"] (spE CP "found"):=Wo xP
 refine F.okX y2 (λvs H Q E h=>?_) (λcdv A outer s H vs Q E hr h=>?_)
 . obtain⟨a,rs,v,rfl,_⟩:=h
   rfl
 . obtain⟨a,rs,v,rfl,gr,hn,q⟩:=h
   have hu:=JQ hr
   refine⟨_,qe (qQ (j6 (jz (jp (jg hN GN (hr.mono (by decide)) (by rfl) (qb (jv 1) qf)))) (jE (zy (Z8 hu (jv 1) (QQ (jv 0) rfl))))).pt
       (qk (VW rfl Wg (V5 xP.mkr GP hr (by rfl) xP.ns xP.bi zX (qb (jv 1) qf)))) qz)
     jl,?_⟩
   rcases hn with hn | ⟨z,rfl,hz,nz⟩
   . refine⟨_,rfl,.inl ⟨v,rfl,hn,λH1 s1=>⟨_,rfl,QX ?_⟩⟩⟩
     refine QX ⟨_,rfl,by show 1<=sizeLine;decide,λe he=>⟨e,v,rfl,qd,λdx hdx=>⟨rfl,e,CP,dx,rfl,?_,xP.rcls,?_⟩⟩⟩
     . exact(J8 he hdx).2.1
     . obtain⟨m1,m2,m3⟩:=J8 (fs:=[(Str.ofString "found",v)]) he hdx
       exact q _ dx (s1.trans m1) m3
   . refine⟨_,rfl,.inr ⟨z,rfl,hz,λH1 s1=>⟨_,rfl,jm ?_⟩⟩⟩
     obtain⟨dx0,lo,rd,kvs,h1,h2,h3,h4⟩:=gr.mono s1
     have ez:jo kvs (Sum.inr z:qO)=none:=Q7 (by rw[h3.2];exact λm=>by obtain⟨y,hy,e⟩:=List.mem_map.mp m;exact nz (Sum.inr.inj e▸hy))
     have gz:jW H1 rd (.str z) none:=by
       have:=jW.k (k:=(Sum.inr z:qO)) h3.1
       rw[ez]at this
       exact this
     refine⟨_,rfl,_,rfl,a,CG,dx0,_,_,rfl,h1,C.cl,C.nr,xt _ _,rd,_,rfl,gz,_,rfl,QX ?_⟩
     refine⟨_,rfl,by show 1<=sizeLine;decide,λe he=>⟨e,.str z,rfl,qd,λdx hdx=>⟨rfl,e,CP,dx,rfl,?_,xP.rcls,?_⟩⟩⟩
     . exact(J8 he hdx).2.1
     . obtain⟨m1,m2,m3⟩:=J8 (fs:=[(Str.ofString "found",V.str z)]) he hdx
       exact q _ dx (s1.trans m1) m3
end
end Rh
set_option Elab.async false
set_option linter.all false
set_option maxRecDepth 100000
set_option maxHeartbeats 4000000
namespace Rh
open PySem L2 PyProof.Rows
def QH (rs:j9):j9:=rs.map λr=>(r.1,jb rs r)
def zL (b:Bool):Str:=if b=true then "x" else "."
def dr (rs:j9) (r:Str×List Str):List Str:=r.1::(rs.map (·.1)).map λz=>zL (decide (z∈r.2))
def tab (rs:j9):List (List Str):=(Str.ofString ""::rs.map (·.1))::rs.map (dr rs)
def QC (H:Hp) (ps:List Addr) (zss:List (List Str)):Prop:=ps.length=zss.length/\∀(i:Nat) (p:Addr) (zs:List Str),ps[i]?=some p->zss[i]?=some zs->H p=some (.lst (zs.map V.str))
theorem QC.mono {H H':Hp} {ps:List Addr} {zss:List (List Str)} (h:QC H ps zss) (s:Same H H'):QC H' ps zss:=⟨h.1,λi p zs e1 e2=>s _ _ (h.2 i p zs e1 e2)⟩
theorem QC.snoc {H:Hp} {ps:List Addr} {zss:List (List Str)} {p:Addr} {zs:List Str} (h:QC H ps zss) (hp:H p=some (.lst (zs.map V.str))):QC H (ps++[p]) (zss++[zs]):=by
 refine⟨by rw[List.length_append,List.length_append,h.1];rfl,λi p' zs' e1 e2=>?_⟩
 by_cases hi:i < ps.length
 . rw[List.getElem?_append_left hi]at e1
   rw[List.getElem?_append_left (by rw[<-h.1];exact hi)]at e2
   exact h.2 i p' zs' e1 e2
 . have hi':i=ps.length:=by
     have:=(List.getElem?_eq_some_iff.mp e1).1
     rw[List.length_append,List.length_singleton]at this
     omega
   subst hi'
   rw[List.getElem?_append_right (Nat.le_refl _),Nat.sub_self]at e1
   rw[h.1,List.getElem?_append_right (Nat.le_refl _),Nat.sub_self]at e2
   obtain rfl:=(Option.some.inj e1).symm
   obtain rfl:=(Option.some.inj e2).symm
   exact hp
theorem QC.off {H:Hp} {ps:List Addr} {zss:List (List Str)} {l:Addr} {o:HO} (h:QC H ps zss) (n:l∉ps):QC (upd H l o) ps zss:=⟨h.1,λi p zs e1 e2=>by
 have np:p≠l:=λe=>n (by rw[<-e];exact List.mem_of_getElem? e1)
 rw[qg np]
 exact h.2 i p zs e1 e2⟩
theorem Zh {zs:List Str} {i:Nat} {y:V} (h:(zs.map V.str)[i]?=some y):∃z,zs[i]?=some z/\z∈zs/\y=.str z:=by
 rw[List.getElem?_map]at h
 cases e:zs[i]? with
 | none=>rw[e]at h;cases h
 | some z=>rw[e]at h;exact⟨z,rfl,List.mem_of_getElem? e,(Option.some.inj h).symm⟩
abbrev XB (K:PySem.W.Frag):List V->Hp->VK->Prop:=λxs H Q=>∃p ys,xs=[.ref p]/\((SqL K H p ys/\∀l,H l=none->Q (.ref l) (upd H l (.tup ys)))\/(SqT K H p ys/\Q (.ref p) H))
def Xs (CG:Addr):Sp:=λvs H Q _=>∃(a:Addr) (rs:j9),vs=[.ref a]/\jT CG H a rs/\rs.length<=14/\∀l ps H',Same H H'->H l=none->H' l=some (.lst (ps.map V.ref))->qF H' ps (QH rs)->Q (.ref l) H'
def YH (CG:Addr):Sp:=λvs H Q _=>∃(g:Addr) (rs:j9) (r:Str×List Str),vs=[.ref g,.str r.1]/\jT CG H g rs/\qN rs/\rs.length<=14/\r∈rs/\∀l H',Same H H'->H l=none->H' l=some (.lst ((dr rs r).map V.str))->Q (.ref l) H'
def Xt (CG:Addr):Sp:=λvs H Q _=>∃(g:Addr) (rs:j9),vs=[.ref g]/\jT CG H g rs/\qN rs/\rs.length<=14/\∀l ps H',Same H H'->H l=none->H' l=some (.lst (ps.map V.ref))->QC H' ps (tab rs)->(∀p∈ps,H p=none)->ps.Nodup->Q (.ref l) H'
section
variable {P:Program} {w:World} {K:PySem.W.Frag} {mg:Str->Option Value} {base:Heap}
theorem x3:qx ["self"] ["self"] (qo Zq):=⟨rfl,rfl,rfl,by decide+kernel,rfl,by decide+kernel,by decide+kernel⟩
theorem VL {f fI CG:Addr} {fd fdI:FuncData} (F:Qb K "rows" "Ground.rows" Zq f fd) (C:yA K mg CG fI fdI) (G:QE mg):FnOk P w K mg base jf 1 f fd ["self"] (Xs CG):=by
 refine F.okJ x3 (λvs H Q E h=>?_) (λcdv A outer s H vs Q E hr h=>?_)
 . obtain⟨a,rs,rfl,_⟩:=h
   rfl
 . obtain⟨a,rs,rfl,gr,le14,q⟩:=h
   have hu:=JQ hr
   refine⟨_,qk (qC (jI (N':=["name","self"]) (ix:=[none,some 0]) (te:=YC (qS (qV 0) (qS (W4 (XB K) (qS (vX (yP K (qV 1) "roads") (qV 0)) j4)) j4))) rfl ⟨rfl,rfl,rfl,rfl,rfl⟩ (qA (QQ (jv 0) rfl)) (λC s2 H2 fp pins=>
       ⟨qm (i:=0) (show (["name","self"]:List Str).Nodup by decide+kernel) rfl (Or.inl rfl),qM,jG (qb (jv 0) (qb (jc jx (by rfl) G.tup boot_tuple (qb (jZ hu (QQ (jv 1) rfl) (jv 0) (λ_ _=>rfl)) qf)) qf))⟩))),?_⟩
   obtain⟨dx,lo,rd,kvs,h1,h2,h3,h4⟩:=gr
   refine⟨_,rfl,a,CG,dx,_,_,rfl,h1,C.cl,C.no,wo _ _,lo,rfl,⟨_,.of h2⟩,λD hD=>?_⟩
   refine qK (K:=K) (a:=lo) (xs:=(rs.map (·.1)).map V.str) (λi σ' X=>∃(v:Option V) (ps:List Addr),σ'=[v,some (.ref a)]/\Same H X/\X D=some (.lst (ps.map V.ref))/\qF X ps ((rs.take i).map λr=>(r.1,jb rs r)))
     ⟨none,[],rfl,qi hD,qd,rfl,λi p r e=>(nomatch e)⟩ (λi σ' X _ ⟨_,_,_,s,_⟩=>.of (s _ _ h2)) ?_ ?_
   . rintro i y σ' X hy ⟨v,ps,rfl,sX,hX,rat⟩
     rw[List.getElem?_map,List.getElem?_map]at hy
     cases er:rs[i]? with
     | none=>rw[er]at hy;cases hy
     | some r=>
       rw[er]at hy
       obtain rfl:=(Option.some.inj hy).symm
       have hr':=List.mem_of_getElem? er
       have hi:=(List.getElem?_eq_some_iff.mp er).1
       obtain⟨qq,hv,hq⟩:=h4 r hr'
       have gz:jW X rd (.str r.1) (some (.ref qq)):=by
         have:=jW.k (k:=(Sum.inr r.1:qO)) (sX _ _ h3.1)
         rw[hv]at this
         exact this
       refine⟨_,rfl,_,rfl,a,CG,dx,_,_,rfl,sX _ _ h1,C.cl,C.nr,xt _ _,_,rfl,rd,_,rfl,gz,qq,_,rfl,.inl ⟨.of (sX _ _ hq),λp2 hp2=>⟨by show 2<=sizeLine;decide,λp3 hp3=>?_⟩⟩⟩
       have a3:Same X (upd (upd X p2 (.tup ((jb rs r).map V.str))) p3 (.tup [.str r.1,.ref p2])):=(qi hp2).trans (qi hp3)
       have b2:upd (upd X p2 (.tup ((jb rs r).map V.str))) p3 (.tup [.str r.1,.ref p2]) p2=some (.tup ((jb rs r).map V.str)):=qh qd hp3
       have b3:upd (upd X p2 (.tup ((jb rs r).map V.str))) p3 (.tup [.str r.1,.ref p2]) p3=some (.tup [.str r.1,.ref p2]):=qd
       generalize upd (upd X p2 (.tup ((jb rs r).map V.str))) p3 (.tup [.str r.1,.ref p2])=X3 at a3 b2 b3
       have hX3:=a3 _ _ hX
       have lps:=rat.1
       rw[List.length_map,List.length_take]at lps
       refine⟨_,hX3,by rw[List.length_map];exact qj (by omega),_,ps++[p3],rfl,Same.upd (sX.trans a3) hD,by rw[List.map_append];exact qd,?_⟩
       rw[List.take_add_one,er,List.map_append]
       refine qF.upd_lst ?_ hX3
       exact qF.snoc (q:=p2) (rat.mono a3) b3 b2
   . rintro σ' X ⟨v,ps,rfl,sX,hX,rat⟩
     have e0:rs.take ((rs.map (·.1)).map V.str).length=rs:=List.take_of_length_le (by rw[List.length_map,List.length_map];exact Nat.le_refl _)
     rw[e0]at rat
     exact q D ps X sX hD hX rat
theorem y3:qx ["ground","name","ends"] ["ground","name"] (qo Z1):=⟨rfl,rfl,rfl,by decide+kernel,rfl,by decide+kernel,by decide+kernel⟩
theorem ve {f CG:Addr} {fd:FuncData} (F:Qb K "drawn_row" "drawn_row" Z1 f fd) (B:J1 mg) (G:QE mg) (T:QD K mg) (M:GM K mg CG):FnOk P w K mg base jf 3 f fd ["ground","name"] (YH CG):=by
 obtain⟨fC,fdC,C⟩:=M.cls
 obtain⟨fN,fdN,hN⟩:=M.nm
 obtain⟨fF,fdF,hF⟩:=M.fr
 obtain⟨fS,fdS,hS⟩:=M.isn
 have GN:FnOk P w K mg base jf 1 fN fdN ["self"] (Q8 CG):=Ju hN.fn C G
 have GF:FnOk P w K mg base jf 2 fF fdF ["self","name"] (J3 CG):=Zv hF.fn C B G T hS
 refine F.okJ y3 (λvs H Q E h=>?_) (λcdv A outer s H vs Q E hr h=>?_)
 . obtain⟨g,rs,r,rfl,_⟩:=h
   rfl
 . obtain⟨g,rs,r,rfl,gr,good,le14,hr',q⟩:=h
   refine⟨_,qe (qB (i:=2) y3.nd rfl (Or.inr rfl) (V6 hF C.cl GF hr (jv 0) (qb (jv 1) qf)))
     (qk (qC (qH Jt (jH (qb (jv 1) qf)) (jI (N':=["other","ends"]) (ix:=[none,some 2]) (te:=tIf (zR (YE (kQ K false) (qV 0) (qV 1))) (tC (.str (Str.ofString "x"))) (tC (.str (Str.ofString ".")))) rfl ⟨rfl,rfl,rfl,rfl,rfl⟩ (qA (ZD hN C.cl GN (hr.mono (by decide)) (jv 0))) (λC s2 H2 fp pins=>
       ⟨qm (i:=0) (show (["other","ends"]:List Str).Nodup by decide+kernel) rfl (Or.inl rfl),qM,V7 (qt QU (jv 0) (jv 1) (by with_unfolding_all rfl)) qL qL⟩))))),?_⟩
   obtain⟨dx,fs,hg,l1,l2⟩:=gr.ins
   refine⟨_,rfl,g,dx,fs,rfl,hg,l2,_,rfl,g,rs,r,rfl,gr,hr',good.nm r hr',λH1 le s1 hle=>?_⟩
   have s2:Same H (upd H1 le (.lst ((jb rs r).map V.str))):=s1.trans (qi hle)
   have h2:upd H1 le (.lst ((jb rs r).map V.str)) le=some (.lst ((jb rs r).map V.str)):=qd
   generalize upd H1 le (.lst ((jb rs r).map V.str))=H2 at s2 h2
   refine⟨_,rfl,by show 1<=sizeLine;decide,λp1 hp1=>?_⟩
   have s3:Same H2 (upd H2 p1 (.lst [.str r.1])):=qi hp1
   have h3:upd H2 p1 (.lst [.str r.1]) p1=some (.lst [.str r.1]):=qd
   generalize upd H2 p1 (.lst [.str r.1])=H3 at s3 h3
   have s03:=s2.trans s3
   refine⟨_,rfl,g,dx,fs,rfl,s03 _ _ hg,l1,g,rs,rfl,gr.mono s03,λln hln=>?_⟩
   have s4:Same H3 (upd H3 ln (.lst ((rs.map (·.1)).map V.str))):=qi hln
   have h4:upd H3 ln (.lst ((rs.map (·.1)).map V.str)) ln=some (.lst ((rs.map (·.1)).map V.str)):=qd
   generalize upd H3 ln (.lst ((rs.map (·.1)).map V.str))=H4 at s4 h4
   refine⟨ln,rfl,⟨_,.of h4⟩,λD hD=>?_⟩
   refine qK (K:=K) (a:=ln) (xs:=(rs.map (·.1)).map V.str) (λj σ' X=>∃v:Option V,σ'=[v,some (.ref le)]/\X=upd H4 D (.lst ((((rs.map (·.1)).take j).map λz=>zL (decide (z∈r.2))).map V.str))) ⟨none,rfl,rfl⟩ (λj σ' X _ ⟨_,_,e⟩=>e▸.of (qh h4 hD)) ?_ ?_
   . rintro j y σ' X hy ⟨v,rfl,rfl⟩
     obtain⟨z,ez,hz,rfl⟩:=Zh hy
     have hi:=(List.getElem?_eq_some_iff.mp ez).1
     rw[List.length_map]at hi
     refine⟨_,rfl,_,rfl,le,_,rfl,.inl (.of (qh (s4 _ _ (s3 _ _ h2)) hD)),rfl,j3 _,_,rfl,?_⟩
     have fin:∀b:Bool,b=decide (z∈r.2)->∃ys,upd H4 D (.lst ((((rs.map (·.1)).take j).map λz=>zL (decide (z∈r.2))).map V.str)) D=some (.lst ys)/\ys.length < sizeLine/\∃v:Option V,[some (V.str z),some (.ref le)]=[v,some (.ref le)]/\upd (upd H4 D (.lst ((((rs.map (·.1)).take j).map λz=>zL (decide (z∈r.2))).map V.str))) D (.lst (ys++[V.str (zL b)]))=upd H4 D (.lst ((((rs.map (·.1)).take (j+1)).map λz=>zL (decide (z∈r.2))).map V.str)):=λb eb=>by
       refine⟨_,qd,?_,_,rfl,?_⟩
       . rw[List.length_map,List.length_map,List.length_take,List.length_map]
         exact qj (by omega)
       . rw[qR,List.take_add_one,ez,List.map_append,List.map_append,eb]
         rfl
     have ei:QI (.str z) ((jb rs r).map V.str)=decide (z∈r.2):=by
       rw[Bool.eq_iff_iff,Zd,decide_eq_true_iff]
       exact Vn good hr'
     show if QI (.str z) ((jb rs r).map V.str)=true then _ else _
     rw[ei]
     cases c:decide (z∈r.2) with
     | true=>exact QX (fin true c.symm)
     | false=>exact jm (fin false c.symm)
   . rintro σ' X ⟨v,rfl,rfl⟩
     rw[List.length_map,List.take_of_length_le (Nat.le_refl _)]
     have s5:Same H4 (upd H4 D (.lst (((rs.map (·.1)).map λz=>zL (decide (z∈r.2))).map V.str))):=qi hD
     have h5:upd H4 D (.lst (((rs.map (·.1)).map λz=>zL (decide (z∈r.2))).map V.str)) D=some (.lst (((rs.map (·.1)).map λz=>zL (decide (z∈r.2))).map V.str)):=qd
     generalize upd H4 D (.lst (((rs.map (·.1)).map λz=>zL (decide (z∈r.2))).map V.str))=H5 at s5 h5
     refine⟨p1,D,_,_,rfl,rfl,s5 _ _ (s4 _ _ h3),h5,Nat.le_of_lt (qj (by rw[List.length_map,List.length_map,List.length_map];show 1+rs.length<=1000;omega)),λp2 hp2=>?_⟩
     have s05:=s03.trans (s4.trans s5)
     exact q p2 _ (s05.trans (qi hp2)) (jj s05 hp2) qd
theorem x5:qx ["ground"] ["ground"] (qo Zr):=⟨rfl,rfl,rfl,by decide+kernel,rfl,by decide+kernel,by decide+kernel⟩
theorem VN {f fR CG:Addr} {fd fdR:FuncData} (F:Qb K "drawn" "drawn" Zr f fd) (B:J1 mg) (G:QE mg) (T:QD K mg) (M:GM K mg CG) (hR:Qh K mg "drawn_row" Z1 ["ground","name"] fR fdR):FnOk P w K mg base jf 4 f fd ["ground"] (Xt CG):=by
 obtain⟨fC,fdC,C⟩:=M.cls
 obtain⟨fN,fdN,hN⟩:=M.nm
 have GN:FnOk P w K mg base jf 1 fN fdN ["self"] (Q8 CG):=Ju hN.fn C G
 have GR:FnOk P w K mg base jf 3 fR fdR ["ground","name"] (YH CG):=ve hR.fn B G T M
 refine F.okJ x5 (λvs H Q E h=>?_) (λcdv A outer s H vs Q E hr h=>?_)
 . obtain⟨g,rs,rfl,_⟩:=h
   rfl
 . obtain⟨g,rs,rfl,gr,good,le14,q⟩:=h
   have r1:qU 1 _:=hr.mono (by decide)
   refine⟨_,qk (qC (qH Jt (jH (qb (qH Jt (jH (qb qL qf)) (ZD hN C.cl GN r1 (jv 0))) qf)) (jI (N':=["name","ground"]) (ix:=[none,some 0]) (te:=W3 (YH CG) [] E0 (qS (qV 1) (qS (qV 0) j4))) rfl ⟨rfl,rfl,rfl,rfl,rfl⟩ (qA (ZD hN C.cl GN r1 (jv 0))) (λC s2 H2 fp pins=>
       ⟨qm (i:=0) (show (["name","ground"]:List Str).Nodup by decide+kernel) rfl (Or.inl rfl),qM,jg hR GR hr (by rfl) (qb (jv 1) (qb (jv 0) qf))⟩)))),?_⟩
   obtain⟨dx,fs,hg,l1,l2⟩:=gr.ins
   refine⟨by show 1<=sizeLine;decide,λp1 hp1=>?_⟩
   have s1:Same H (upd H p1 (.lst [.str (Str.ofString "")])):=qi hp1
   have h1:upd H p1 (.lst [.str (Str.ofString "")]) p1=some (.lst [.str (Str.ofString "")]):=qd
   generalize upd H p1 (.lst [.str (Str.ofString "")])=H1 at s1 h1
   refine⟨_,rfl,g,dx,fs,rfl,s1 _ _ hg,l1,g,rs,rfl,gr.mono s1,λp2 hp2=>?_⟩
   have s2:Same H1 (upd H1 p2 (.lst ((rs.map (·.1)).map V.str))):=qi hp2
   have h2:upd H1 p2 (.lst ((rs.map (·.1)).map V.str)) p2=some (.lst ((rs.map (·.1)).map V.str)):=qd
   generalize upd H1 p2 (.lst ((rs.map (·.1)).map V.str))=H2 at s2 h2
   refine⟨p1,p2,_,_,rfl,rfl,s2 _ _ h1,h2,Nat.le_of_lt (qj (by rw[List.length_map,List.length_map];show 1+rs.length<=1000;omega)),λp3 hp3=>?_⟩
   have s02:=s1.trans s2
   have s3:Same H2 (upd H2 p3 (.lst ([.str (Str.ofString "")]++(rs.map (·.1)).map V.str))):=qi hp3
   have h3:upd H2 p3 (.lst ([.str (Str.ofString "")]++(rs.map (·.1)).map V.str)) p3=some (.lst ((Str.ofString ""::rs.map (·.1)).map V.str)):=qd
   have n3:H p3=none:=jj s02 hp3
   generalize upd H2 p3 (.lst ([.str (Str.ofString "")]++(rs.map (·.1)).map V.str))=H3 at s3 h3
   refine⟨by show 1<=sizeLine;decide,λp4 hp4=>?_⟩
   have s4:Same H3 (upd H3 p4 (.lst [.ref p3])):=qi hp4
   have h4:upd H3 p4 (.lst [.ref p3]) p4=some (.lst [.ref p3]):=qd
   generalize upd H3 p4 (.lst [.ref p3])=H4 at s4 h4
   have s04:=s02.trans (s3.trans s4)
   refine⟨_,rfl,g,dx,fs,rfl,s04 _ _ hg,l1,g,rs,rfl,gr.mono s04,λln hln=>?_⟩
   have s5:Same H4 (upd H4 ln (.lst ((rs.map (·.1)).map V.str))):=qi hln
   have h5:upd H4 ln (.lst ((rs.map (·.1)).map V.str)) ln=some (.lst ((rs.map (·.1)).map V.str)):=qd
   generalize upd H4 ln (.lst ((rs.map (·.1)).map V.str))=H5 at s5 h5
   have s05:=s04.trans s5
   have h35:=s5 _ _ (s4 _ _ h3)
   refine⟨ln,rfl,⟨_,.of h5⟩,λD hD=>?_⟩
   refine qK (K:=K) (a:=ln) (xs:=(rs.map (·.1)).map V.str) (λi σ' X=>∃(v:Option V) (ps:List Addr),σ'=[v,some (.ref g)]/\Same H5 X/\X D=some (.lst (ps.map V.ref))/\QC X ps ((rs.take i).map (dr rs))/\(∀p∈ps,H5 p=none/\p≠D)/\ps.Nodup)
     ⟨none,[],rfl,qi hD,qd,⟨rfl,λi p r e=>(nomatch e)⟩,(λ_ h=>nomatch h),List.nodup_nil⟩ (λi σ' X _ ⟨_,_,_,s,_⟩=>.of (s _ _ h5)) ?_ ?_
   . rintro i y σ' X hy ⟨v,ps,rfl,sX,hX,lat,fr,nd⟩
     rw[List.getElem?_map,List.getElem?_map]at hy
     cases er:rs[i]? with
     | none=>rw[er]at hy;cases hy
     | some r=>
       rw[er]at hy
       obtain rfl:=(Option.some.inj hy).symm
       have hr':=List.mem_of_getElem? er
       have hi:=(List.getElem?_eq_some_iff.mp er).1
       refine⟨_,rfl,_,rfl,g,rs,r,rfl,(gr.mono s05).mono sX,good,le14,hr',λp5 X1 sX1 np hp5=>?_⟩
       have hX1:=sX1 _ _ hX
       have n5:H5 p5=none:=jj sX np
       have nD:p5≠D:=λe=>by rw[e,hX]at np;cases np
       have lps:=lat.1
       rw[List.length_map,List.length_take]at lps
       have nin:p5∉ps:=λm=>by
         obtain⟨j,hj⟩:=List.getElem?_of_mem m
         have hj':=(List.getElem?_eq_some_iff.mp hj).1
         have:=lat.2 j p5 _ hj (List.getElem?_eq_getElem (by rw[<-lat.1];exact hj'))
         rw[np]at this
         cases this
       refine⟨_,hX1,by rw[List.length_map];exact qj (by omega),_,ps++[p5],rfl,Same.upd (sX.trans sX1) hD,by rw[List.map_append];exact qd,?_,?_,?_⟩
       . rw[List.take_add_one,er,List.map_append]
         refine QC.off ((lat.mono sX1).snoc hp5) λm=>?_
         rcases List.mem_append.mp m with m | m
         . exact(fr D m).2 rfl
         . exact nD (List.mem_singleton.mp m).symm
       . intro p hp
         rcases List.mem_append.mp hp with hp | hp
         . exact fr p hp
         . rw[List.mem_singleton.mp hp];exact⟨n5,nD⟩
       . rw[List.nodup_append]
         exact⟨nd,by simp,λa ha b hb e=>nin (by rw[<-List.mem_singleton.mp hb,<-e];exact ha)⟩
   . rintro σ' X ⟨v,ps,rfl,sX,hX,lat,fr,nd⟩
     have e0:rs.take ((rs.map (·.1)).map V.str).length=rs:=List.take_of_length_le (by rw[List.length_map,List.length_map];exact Nat.le_refl _)
     rw[e0]at lat
     have lps:=lat.1
     rw[List.length_map]at lps
     refine⟨p4,D,_,_,rfl,rfl,sX _ _ (s5 _ _ h4),hX,Nat.le_of_lt (qj (by rw[List.length_map];show 1+ps.length<=1000;omega)),λp6 hp6=>?_⟩
     have sA:=s05.trans sX
     refine q p6 (p3::ps) _ (sA.trans (qi hp6)) (jj sA hp6) qd ?_ ?_ ?_
     . refine⟨by rw[List.length_cons,lat.1];rfl,λj p zs e1 e2=>?_⟩
       cases j with
       | zero=>
         cases e1
         cases e2
         exact qh (sX _ _ h35) hp6
       | succ j=>exact qh (lat.2 j p zs (by simpa using e1) (by simpa [tab] using e2)) hp6
     . intro p hp
       rcases List.mem_cons.mp hp with rfl | hp
       . exact n3
       . exact jj s05 (fr p hp).1
     . rw[List.nodup_cons]
       refine⟨λm=>?_,nd⟩
       have:=(fr p3 m).1
       rw[h35]at this
       cases this
end
end Rh
set_option Elab.async false
set_option linter.all false
set_option maxRecDepth 100000
set_option maxHeartbeats 4000000
namespace Rh
open PySem L2 PyProof.Rows
abbrev UY:Stmt:=top 31
abbrev Zm:Stmt:=top 32
def QT (H:Hp) (ps:List Addr) (rs:j9):Prop:=ps.length=rs.length/\∀(i:Nat) (p:Addr) (r:Str×List Str),ps[i]?=some p->rs[i]?=some r->∃q,H p=some (.tup [.str r.1,.ref q])/\H q=some (.lst (r.2.map V.str))
theorem QT.mono {H H':Hp} {ps:List Addr} {rs:j9} (h:QT H ps rs) (s:Same H H'):QT H' ps rs:=⟨h.1,λi p r e1 e2=>let ⟨q,a,b⟩:=h.2 i p r e1 e2;⟨q,s _ _ a,s _ _ b⟩⟩
theorem QT.snoc {H:Hp} {ps:List Addr} {rs:j9} (h:QT H ps rs) {p q:Addr} {r:Str×List Str} (hp:H p=some (.tup [.str r.1,.ref q])) (hq:H q=some (.lst (r.2.map V.str))):QT H (ps++[p]) (rs++[r]):=by
 refine⟨by rw[List.length_append,List.length_append,h.1];rfl,λi p' r' e1 e2=>?_⟩
 by_cases hi:i < ps.length
 . rw[List.getElem?_append_left hi]at e1
   rw[List.getElem?_append_left (by rw[<-h.1];exact hi)]at e2
   exact h.2 i p' r' e1 e2
 . have hi':i=ps.length:=by
     have:=(List.getElem?_eq_some_iff.mp e1).1
     rw[List.length_append,List.length_singleton]at this
     omega
   subst hi'
   rw[List.getElem?_append_right (Nat.le_refl _),Nat.sub_self]at e1
   rw[h.1,List.getElem?_append_right (Nat.le_refl _),Nat.sub_self]at e2
   obtain rfl:=(Option.some.inj e1).symm
   obtain rfl:=(Option.some.inj e2).symm
   exact⟨q,hp,hq⟩
theorem QT.own {H H1:Hp} {ps:List Addr} {rs:j9} {D:Addr} {xs:List V} (h:QT H1 ps rs) (hD:H1 D=some (.lst xs)) (n:∀(i:Nat) (p q:Addr),ps[i]?=some p->∀x,H1 p=some (.tup [x,.ref q])->q≠D) {o:HO}:QT (upd H1 D o) ps rs:=⟨h.1,λi p r e1 e2=>by
 obtain⟨q,a,b⟩:=h.2 i p r e1 e2
 have n1:p≠D:=λe=>by rw[e,hD]at a;cases a
 have n2:q≠D:=n i p q e1 _ a
 exact⟨q,by rw[qg n1];exact a,by rw[qg n2];exact b⟩⟩
theorem QT.item {H:Hp} {ps:List Addr} {rs:j9} (h:QT H ps rs) {i:Nat} {y:V} (e:(ps.map V.ref)[i]?=some y):∃p q r,y=.ref p/\ps[i]?=some p/\rs[i]?=some r/\r∈rs/\H p=some (.tup [.str r.1,.ref q])/\H q=some (.lst (r.2.map V.str)):=by
 rw[List.getElem?_map]at e
 cases ep:ps[i]? with
 | none=>rw[ep]at e;cases e
 | some p=>
   rw[ep]at e
   have hi:i < rs.length:=by rw[<-h.1];exact(List.getElem?_eq_some_iff.mp ep).1
   obtain⟨q,a,b⟩:=h.2 i p _ ep (List.getElem?_eq_getElem hi)
   exact⟨p,q,_,(Option.some.inj e).symm,rfl,List.getElem?_eq_getElem hi,List.getElem_mem hi,a,b⟩
def ka:Sp:=λvs H Q _=>∃(l:Addr) (ps:List Addr) (rs:j9),vs=[.ref l]/\ja H l ps rs/\∀L qs H',Same H H'->H L=none->H' L=some (.lst (qs.map V.ref))->QT H' qs (QH rs)->Q (.ref L) H'
def Xn:Sp:=λvs H Q _=>∃(l:Addr) (ps:List Addr) (rs:j9),vs=[.ref l]/\ja H l ps rs/\∀L qs H',Same H H'->H L=none->H' L=some (.lst (qs.map V.ref))->QC H' qs (tab rs)->Q (.ref L) H'
abbrev y9:List V->Hp->VK->Prop:=λxs H Q=>(∃i,xs=[.int i]/\Q (.int i) H)\/∃k,xs=[.bl k]/\Q (.int (if k then 1 else 0)) H
section
variable {P:Program} {w:World} {K:PySem.W.Frag} {mg:Str->Option Value} {base:Heap}
theorem ke:qx ["_law_rows_here","_law_order"] ["_law_rows_here"] (qo UY):=⟨rfl,rfl,rfl,by decide+kernel,rfl,by decide+kernel,by decide+kernel⟩
theorem WU:(["_law_name","_law_others"]:List Str).Nodup:=by decide+kernel
theorem nd3:(["_law_name","_law_others","_law_order"]:List Str).Nodup:=by decide+kernel
theorem k9 {f:Addr} {fd:FuncData} (F:Qb K "_law_due" "_law_due" UY f fd):FnOk P w K mg base jf 1 f fd ["_law_rows_here"] ka:=by
 refine F.okJ ke (λvs H Q E h=>?_) (λcdv A outer s H vs Q E hr h=>?_)
 . obtain⟨l,ps,rs,rfl,_⟩:=h
   rfl
 . obtain⟨l,ps,rs,rfl,g,q⟩:=h
   refine⟨_,qe (qB (i:=1) ke.nd rfl (Or.inr rfl) (jI (N':=["_law_name","_law_others"]) (ix:=[none,none]) (g:=JB K 2 (ji (qT 0) (ji (qT 1) JD))) (te:=qV 0) rfl ⟨rfl,rfl,rfl,rfl,rfl⟩ (qA (jv 0)) (λC s2 H2 fp pins=>
       ⟨jF rfl (qy (qm (i:=0) WU rfl (Or.inl rfl)) (qy (qm (i:=1) WU rfl (Or.inl rfl)) jn)),qM,jv 0⟩)))
     (qk (qC (wu (N':=["_law_name","_law_others","_law_order"]) (ix:=[none,none,some 1]) (g:=JB K 2 (ji (qT 0) (ji (qT 1) JD)))
         (te:=YC (qS (qV 0) (qS (kD (kq K (qV 2)) [none,some 1] (qT 0) (zR (YE (kQ K false) (qV 0) (qV 1))) (qV 0)) j4))) rfl ⟨rfl,by decide+kernel,rfl,rfl⟩ (qA (jv 0)) (λC s2 H2 fp pins=>
       ⟨jF rfl (qy (qm (i:=0) nd3 rfl (Or.inl rfl)) (qy (qm (i:=1) nd3 rfl (Or.inr rfl)) jn)),qM,jG (qb (jv 0) (qb
         (jI (N':=["_law_other","_law_others"]) (ix:=[none,some 1]) rfl ⟨rfl,rfl,rfl,rfl,rfl⟩ (qA (jv 2)) (λC' s3 H3 fp' pins'=>
           ⟨qm (i:=0) (show (["_law_other","_law_others"]:List Str).Nodup by decide+kernel) rfl (Or.inl rfl),Zb (qt QU (jv 0) (jv 1) (by with_unfolding_all rfl)),jv 0⟩)) qf))⟩)))),?_⟩
   have good:=g.good
   have le14:=g.le
   refine⟨_,rfl,l,rfl,⟨_,.of g.at_⟩,λlo hlo=>?_⟩
   refine qK (K:=K) (a:=l) (xs:=ps.map V.ref) (λj σ' X=>∃v0 v1,σ'=[v0,v1]/\X=upd H lo (.lst (((rs.take j).map (·.1)).map V.str))) ⟨none,none,rfl,rfl⟩ (λj σ' X _ ⟨_,_,_,e⟩=>e▸.of (qh g.at_ hlo)) ?_ ?_
   . rintro j y σ' X hy ⟨v0,v1,rfl,rfl⟩
     obtain⟨p',q',r',rfl,er,hr',ea,eb⟩:=g.rows.item hy
     have hi:=(List.getElem?_eq_some_iff.mp er).1
     refine⟨p',_,rfl,.of (qh ea hlo),rfl,_,_,rfl,_,_,rfl,rfl,_,rfl,_,qd,?_,_,_,rfl,?_⟩
     . rw[List.length_map,List.length_map,List.length_take]
       exact qj (by omega)
     . rw[qR,List.take_add_one,er,List.map_append,List.map_append]
       rfl
   rintro σ' X ⟨v0,v1,rfl,rfl⟩
   have e0:rs.take (ps.map V.ref).length=rs:=List.take_of_length_le (by rw[List.length_map,g.rows.1];exact Nat.le_refl _)
   rw[e0]
   have s1:Same H (upd H lo (.lst ((rs.map (·.1)).map V.str))):=qi hlo
   have h1:upd H lo (.lst ((rs.map (·.1)).map V.str)) lo=some (.lst ((rs.map (·.1)).map V.str)):=qd
   generalize upd H lo (.lst ((rs.map (·.1)).map V.str))=H1 at s1 h1
   have g1:=g.mono s1
   refine⟨_,rfl,l,rfl,⟨_,.of g1.at_⟩,λD hD=>?_⟩
   refine qK (K:=K) (a:=l) (xs:=ps.map V.ref) (λj σ' X=>∃(v0 v1:Option V) (qs:List Addr),σ'=[v0,v1,some (.ref lo)]/\Same H1 X/\X D=some (.lst (qs.map V.ref))/\QT X qs ((rs.take j).map λr=>(r.1,jb rs r))/\∀(i:Nat) (p q:Addr),qs[i]?=some p->∀x,X p=some (.tup [x,.ref q])->q≠D)
     ⟨none,none,[],rfl,qi hD,qd,⟨rfl,λi p r e=>(nomatch e)⟩,λi p q e=>(nomatch e)⟩ (λj σ' X _ ⟨_,_,_,_,s,_⟩=>.of (s _ _ g1.at_)) ?_ ?_
   . rintro j y σ' X hy ⟨v0,v1,qs,rfl,sX,hX,dat,nq⟩
     obtain⟨p',q',r,rfl,er,hr',ea,eb⟩:=(g1.rows.mono sX).item hy
     have hi:=(List.getElem?_eq_some_iff.mp er).1
     have hlX:=sX _ _ h1
     refine⟨p',_,rfl,.of ea,rfl,_,_,rfl,_,_,rfl,rfl,_,rfl,_,rfl,lo,rfl,⟨_,.of hlX⟩,λU hU=>?_⟩
     refine qK (K:=K) (a:=lo) (xs:=(rs.map (·.1)).map V.str) (λi σ'' Y=>∃v:Option V,σ''=[v,some (.ref q')]/\Y=upd X U (.lst ((((rs.map (·.1)).take i).filter λz=>QI (.str z) (r.2.map V.str)).map V.str))) ⟨none,rfl,rfl⟩ (λi σ'' Y _ ⟨_,_,e⟩=>e▸.of (qh hlX hU)) ?_ ?_
     . rintro i y σ'' Y hy ⟨v,rfl,rfl⟩
       obtain⟨z,ez,hz,rfl⟩:=Zh hy
       have hi2:=(List.getElem?_eq_some_iff.mp ez).1
       rw[List.length_map]at hi2
       refine⟨_,rfl,_,rfl,q',_,rfl,.inr (.of (qh eb hU)),rfl,j3 _,_,rfl,?_⟩
       have et:((rs.map (·.1)).take (i+1)).filter (λz=>QI (.str z) (r.2.map V.str))=((rs.map (·.1)).take i).filter (λz=>QI (.str z) (r.2.map V.str))++if QI (.str z) (r.2.map V.str)=true then [z] else []:=by
         rw[List.take_add_one,ez,List.filter_append]
         congr 1
         cases ei:QI (.str z) (r.2.map V.str)
         . simp [ei]
         . simp [ei]
       rw[et]
       show if QI (.str z) (r.2.map V.str)=true then _ else _
       cases ei:QI (.str z) (r.2.map V.str) with
       | true=>
         refine QX ⟨_,rfl,_,qd,?_,_,rfl,?_⟩
         . rw[List.length_map]
           refine qj (Nat.le_trans (List.length_filter_le _ _) ?_)
           rw[List.length_take,List.length_map]
           omega
         . rw[qR,if_pos rfl,List.map_append]
           rfl
       | false=>
         refine jm ⟨_,rfl,?_⟩
         rw[if_neg Bool.false_ne_true,List.append_nil]
     . rintro σ'' Y ⟨v,rfl,rfl⟩
       have ed:((rs.map (·.1)).take ((rs.map (·.1)).map V.str).length).filter (λz=>QI (.str z) (r.2.map V.str))=jb rs r:=by
         rw[List.length_map,List.take_of_length_le (Nat.le_refl _)]
         rfl
       rw[ed]
       refine⟨by show 2<=sizeLine;decide,λp3 hp3=>?_⟩
       have a3:Same X (upd (upd X U (.lst ((jb rs r).map V.str))) p3 (.tup [.str r.1,.ref U])):=(qi hU).trans (qi hp3)
       have b2:upd (upd X U (.lst ((jb rs r).map V.str))) p3 (.tup [.str r.1,.ref U]) U=some (.lst ((jb rs r).map V.str)):=qh qd hp3
       have b3:upd (upd X U (.lst ((jb rs r).map V.str))) p3 (.tup [.str r.1,.ref U]) p3=some (.tup [.str r.1,.ref U]):=qd
       generalize upd (upd X U (.lst ((jb rs r).map V.str))) p3 (.tup [.str r.1,.ref U])=X3 at a3 b2 b3
       have hX3:=a3 _ _ hX
       have nUD:U≠D:=λe=>by rw[e,hX]at hU;cases hU
       have lqs:=dat.1
       rw[List.length_map,List.length_take]at lqs
       have nq3:∀(i:Nat) (p q:Addr),(qs++[p3])[i]?=some p->∀x,X3 p=some (.tup [x,.ref q])->q≠D:=λi p qq e x hp=>by
         by_cases hi':i < qs.length
         . rw[List.getElem?_append_left hi']at e
           obtain⟨q0,a,b⟩:=dat.2 i p _ e (List.getElem?_eq_getElem (by rw[<-dat.1];exact hi'))
           have:=a3 _ _ a
           rw[hp]at this
           exact nq i p qq e x (by rw[<-hp]at this;rw[a];rw[hp]at this;exact this.symm)
         . have hi'':i=qs.length:=by
             have:=(List.getElem?_eq_some_iff.mp e).1
             rw[List.length_append,List.length_singleton]at this
             omega
           rw[hi'',List.getElem?_append_right (Nat.le_refl _),Nat.sub_self]at e
           obtain rfl:=(Option.some.inj e).symm
           rw[b3]at hp
           have:=(List.cons.inj (List.cons.inj (HO.tup.inj (Option.some.inj hp))).2).1
           exact(V.ref.inj this)▸nUD
       refine⟨_,hX3,by rw[List.length_map];exact qj (by omega),_,_,qs++[p3],rfl,Same.upd (sX.trans a3) hD,by rw[List.map_append];exact qd,?_,?_⟩
       . rw[List.take_add_one,er,List.map_append]
         exact QT.own (H:=H) ((dat.mono a3).snoc (r:=(r.1,jb rs r)) b3 b2) hX3 nq3
       . intro i p qq e x hp
         have n1:p≠D:=λz=>by rw[z,qd]at hp;cases hp
         rw[qg n1]at hp
         exact nq3 i p qq e x hp
   . rintro σ' X ⟨v0,v1,qs,rfl,sX,hX,dat,nq⟩
     rw[e0]at dat
     exact q D qs X (s1.trans sX) (jj s1 hD) hX dat
end
end Rh
set_option Elab.async false
set_option linter.all false
set_option maxRecDepth 100000
set_option maxHeartbeats 4000000
namespace Rh
open PySem L2 PyProof.Rows
section
variable {P:Program} {w:World} {K:PySem.W.Frag} {mg:Str->Option Value} {base:Heap}
abbrev nTb:List Str:=["_law_rows_here","_law_order","_law_found","_law_name","_law_others"]
theorem Ve:qx nTb ["_law_rows_here"] (qo Zm):=⟨rfl,rfl,rfl,by decide+kernel,rfl,by decide+kernel,by decide+kernel⟩
theorem VF {f:Addr} {fd:FuncData} (F:Qb K "_law_table" "_law_table" Zm f fd) (B:J1 mg):FnOk P w K mg base jf 1 f fd ["_law_rows_here"] Xn:=by
 refine F.okJ Ve (λvs H Q E h=>?_) (λcdv A outer s H vs Q E hr h=>?_)
 . obtain⟨l,ps,rs,rfl,_⟩:=h
   rfl
 . obtain⟨l,ps,rs,rfl,g,q⟩:=h
   refine⟨_,qe (Qo (i:=1) (N':=["_law_name","_law_others"]) (ix:=[none,none]) (g:=JB K 2 (ji (qT 0) (ji (qT 1) JD))) (te:=qV 0) Ve.nd rfl (Or.inl rfl) rfl ⟨rfl,rfl,rfl,rfl,rfl⟩ (qA (jv 0)) (λC s2 H2 fp pins=>
       ⟨jF rfl (qy (qm (i:=0) WU rfl (Or.inl rfl)) (qy (qm (i:=1) WU rfl (Or.inl rfl)) jn)),qM,jv 0⟩))
     (qe (qB (i:=2) Ve.nd rfl (Or.inl rfl) (jH (qb (qH Jt (jH (qb qL qf)) (jv 1)) qf)))
     (qe (jt PassesOwn.never rfl (qA (jv 0)) (jF rfl (qy (qm (i:=3) Ve.nd rfl (Or.inl rfl)) (qy (qm (i:=4) Ve.nd rfl (Or.inr rfl)) jn)))
       (qk (qX (Jh PySem.F.plainAttrs_list PySem.F.slot_list_append PySem.F.type_list_append jk (jv 2) (qb (qH Jt (jH (qb (jv 3) qf))
         (jI (N':=["_law_other","_law_others"]) (ix:=[none,some 4]) (te:=YE (U3 K) (yO (qS (tC (.str (Str.ofString "."))) (qS (tC (.str (Str.ofString "x"))) j4))) (W4 y9 (qS (YE (kQ K false) (qV 0) (qV 1)) j4))) rfl ⟨rfl,rfl,rfl,rfl,rfl⟩ (qA (jv 1)) (λC s2 H2 fp pins=>
           ⟨qm (i:=0) (show (["_law_other","_law_others"]:List Str).Nodup by decide+kernel) rfl (Or.inl rfl),qM,jq jr (jH (qb qL (qb qL qf))) (jc zd (by rfl) B.int boot_int (qb (j0 QU (jv 0) (jv 1) (by with_unfolding_all rfl)) qf)) (λ_ _=>rfl)⟩))) qf)))))
     (qk (qC (jv 2))))),?_⟩
   have good:=g.good
   have le14:=g.le
   refine⟨_,rfl,l,rfl,⟨_,.of g.at_⟩,λlo hlo=>?_⟩
   refine qK (K:=K) (a:=l) (xs:=ps.map V.ref) (λj σ' X=>∃v0 v1,σ'=[v0,v1]/\X=upd H lo (.lst (((rs.take j).map (·.1)).map V.str))) ⟨none,none,rfl,rfl⟩ (λj σ' X _ ⟨_,_,_,e⟩=>e▸.of (qh g.at_ hlo)) ?_ ?_
   . rintro j y σ' X hy ⟨v0,v1,rfl,rfl⟩
     obtain⟨p',q',r',rfl,er,hr',ea,eb⟩:=g.rows.item hy
     have hi:=(List.getElem?_eq_some_iff.mp er).1
     refine⟨p',_,rfl,.of (qh ea hlo),rfl,_,_,rfl,_,_,rfl,rfl,_,rfl,_,qd,?_,_,_,rfl,?_⟩
     . rw[List.length_map,List.length_map,List.length_take]
       exact qj (by omega)
     . rw[qR,List.take_add_one,er,List.map_append,List.map_append]
       rfl
   rintro σ' X ⟨v0,v1,rfl,rfl⟩
   have e0:rs.take (ps.map V.ref).length=rs:=List.take_of_length_le (by rw[List.length_map,g.rows.1];exact Nat.le_refl _)
   rw[e0]
   have s1:Same H (upd H lo (.lst ((rs.map (·.1)).map V.str))):=qi hlo
   have h1:upd H lo (.lst ((rs.map (·.1)).map V.str)) lo=some (.lst ((rs.map (·.1)).map V.str)):=qd
   generalize upd H lo (.lst ((rs.map (·.1)).map V.str))=H1 at s1 h1
   refine⟨by show 1<=sizeLine;decide,λp1 hp1=>?_⟩
   have s2:Same H1 (upd H1 p1 (.lst [.str (Str.ofString "")])):=qi hp1
   have h2:upd H1 p1 (.lst [.str (Str.ofString "")]) p1=some (.lst [.str (Str.ofString "")]):=qd
   generalize upd H1 p1 (.lst [.str (Str.ofString "")])=H2 at s2 h2
   refine⟨_,rfl,p1,lo,_,_,rfl,rfl,h2,s2 _ _ h1,Nat.le_of_lt (qj (by rw[List.length_map,List.length_map];show 1+rs.length<=1000;omega)),λp3 hp3=>?_⟩
   have s3:Same H2 (upd H2 p3 (.lst ([.str (Str.ofString "")]++(rs.map (·.1)).map V.str))):=qi hp3
   have h3:upd H2 p3 (.lst ([.str (Str.ofString "")]++(rs.map (·.1)).map V.str)) p3=some (.lst ((Str.ofString ""::rs.map (·.1)).map V.str)):=qd
   generalize upd H2 p3 (.lst ([.str (Str.ofString "")]++(rs.map (·.1)).map V.str))=H3 at s3 h3
   refine⟨by show 1<=sizeLine;decide,λfo hfo=>?_⟩
   have n3:p3≠fo:=λe=>by rw[<-e,h3]at hfo;cases hfo
   have s03:Same H H3:=s1.trans (s2.trans s3)
   have nfo:H fo=none:=jj s03 hfo
   have g3:=g.mono s03
   have hlo3:=(s2.trans s3) _ _ h1
   refine⟨_,rfl,l,rfl,⟨_,.of (qh g3.at_ hfo)⟩,?_⟩
   refine jw (K:=K) (a:=l) (xs:=ps.map V.ref) (λi σ' X=>∃(v3 v4:Option V) (qs:List Addr),σ'=[some (.ref l),some (.ref lo),some (.ref fo),v3,v4]/\Same H3 X/\X fo=some (.lst (qs.map V.ref))/\QC X qs ((Str.ofString ""::rs.map (·.1))::(rs.take i).map (dr rs))/\fo∉qs)
     ⟨none,none,[p3],rfl,qi hfo,qd,⟨rfl,λi p zs a1 a2=>?_⟩,λm=>n3 (List.mem_singleton.mp m).symm⟩ (λi σ' X _ ⟨_,_,_,_,s,_⟩=>.of (s _ _ g3.at_)) ?_ ?_
   . cases i with
     | zero=>cases a1;cases a2;exact qh h3 hfo
     | succ i=>simp at a1
   . rintro i y σ' X hy ⟨v3,v4,qs,rfl,sX,hX,lat,nf⟩
     obtain⟨p',q',r,rfl,er,hr',ea,eb⟩:=(g3.rows.mono sX).item hy
     have hi:=(List.getElem?_eq_some_iff.mp er).1
     refine⟨p',_,rfl,.of ea,rfl,_,_,rfl,_,_,rfl,rfl,?_⟩
     refine⟨_,rfl,.inl ⟨rfl,_,.of hX⟩,_,rfl,by show 1<=sizeLine;decide,λp5 hp5=>?_⟩
     have s5:Same X (upd X p5 (.lst [.str r.1])):=qi hp5
     have h5:upd X p5 (.lst [.str r.1]) p5=some (.lst [.str r.1]):=qd
     generalize upd X p5 (.lst [.str r.1])=X5 at s5 h5
     have hlo5:=s5 _ _ (sX _ _ hlo3)
     have eb5:=s5 _ _ eb
     refine⟨_,rfl,lo,rfl,⟨_,.of hlo5⟩,λU hU=>?_⟩
     refine qK (K:=K) (a:=lo) (xs:=(rs.map (·.1)).map V.str) (λj σ'' Y=>∃v:Option V,σ''=[v,some (.ref q')]/\Same X5 Y/\Y U=some (.lst ((((rs.map (·.1)).take j).map λz=>zL (decide (z∈r.2))).map V.str))) ⟨none,rfl,qi hU,qd⟩ (λj σ'' Y _ ⟨_,_,s,_⟩=>.of (s _ _ hlo5)) ?_ ?_
     . rintro j y σ'' Y hy ⟨v,rfl,sY,hY⟩
       obtain⟨z,ez,hz,rfl⟩:=Zh hy
       have hi2:=(List.getElem?_eq_some_iff.mp ez).1
       rw[List.length_map]at hi2
       refine⟨by show 2<=sizeLine;decide,λpl hpl=>?_⟩
       have s6:Same Y (upd Y pl (.lst [.str (Str.ofString "."),.str (Str.ofString "x")])):=qi hpl
       have h6:upd Y pl (.lst [.str (Str.ofString "."),.str (Str.ofString "x")]) pl=some (.lst [.str (Str.ofString "."),.str (Str.ofString "x")]):=qd
       generalize upd Y pl (.lst [.str (Str.ofString "."),.str (Str.ofString "x")])=Y6 at s6 h6
       refine⟨_,rfl,_,rfl,q',_,rfl,.inr (.of (s6 _ _ (sY _ _ eb5))),rfl,j3 _,.inr ⟨_,rfl,?_⟩⟩
       have fin:∃ys,Y6 U=some (.lst ys)/\ys.length < sizeLine/\∃v:Option V,[some (V.str z),some (.ref q')]=[v,some (.ref q')]/\Same X5 (upd Y6 U (.lst (ys++[V.str (zL (decide (z∈r.2)))])))/\upd Y6 U (.lst (ys++[V.str (zL (decide (z∈r.2)))])) U=some (.lst ((((rs.map (·.1)).take (j+1)).map λz=>zL (decide (z∈r.2))).map V.str)):=by
         refine⟨_,s6 _ _ hY,?_,_,rfl,Same.upd (sY.trans s6) hU,?_⟩
         . rw[List.length_map,List.length_map,List.length_take,List.length_map]
           exact qj (by omega)
         . rw[qd,List.take_add_one,ez,List.map_append,List.map_append]
           rfl
       have ei:QI (.str z) (r.2.map V.str)=decide (z∈r.2):=by
         rw[Bool.eq_iff_iff,Zd,decide_eq_true_iff]
       show (U3 K) _ (V.int (if QI (.str z) (r.2.map V.str)=true then 1 else 0)) Y6 _
       rw[ei]
       cases c:decide (z∈r.2) with
       | true=>rw[c]at fin;exact⟨pl,_,1,_,rfl,rfl,.of h6,rfl,fin⟩
       | false=>rw[c]at fin;exact⟨pl,_,0,_,rfl,rfl,.of h6,rfl,fin⟩
     . rintro σ'' Y ⟨v,rfl,sY,hY⟩
       rw[List.length_map,List.take_of_length_le (Nat.le_refl _)]at hY
       refine⟨p5,U,_,_,rfl,rfl,sY _ _ h5,hY,Nat.le_of_lt (qj (by rw[List.length_map,List.length_map,List.length_map];show 1+rs.length<=1000;omega)),λp6 hp6=>?_⟩
       have sXY:=s5.trans sY
       have s7:Same X (upd Y p6 (.lst ([V.str r.1]++((rs.map (·.1)).map λz=>zL (decide (z∈r.2))).map V.str))):=sXY.trans (qi hp6)
       have h7:upd Y p6 (.lst ([V.str r.1]++((rs.map (·.1)).map λz=>zL (decide (z∈r.2))).map V.str)) p6=some (.lst ((dr rs r).map V.str)):=qd
       have n6:X p6=none:=jj sXY hp6
       generalize upd Y p6 (.lst ([V.str r.1]++((rs.map (·.1)).map λz=>zL (decide (z∈r.2))).map V.str))=Y7 at s7 h7
       have n6f:p6≠fo:=λe=>by rw[e,hX]at n6;cases n6
       have hX7:=s7 _ _ hX
       have lq:=lat.1
       rw[List.length_cons,List.length_map,List.length_take]at lq
       refine⟨fo,_,_,rfl,rfl,hX7,by rw[List.length_map];exact qj (by omega),_,_,qs++[p6],rfl,Same.upd (sX.trans s7) hfo,by rw[List.map_append];exact qd,?_,λm=>?_⟩
       . have e8:(Str.ofString ""::rs.map (·.1))::(rs.take (i+1)).map (dr rs)=((Str.ofString ""::rs.map (·.1))::(rs.take i).map (dr rs))++[dr rs r]:=by
           rw[List.take_add_one,er,List.map_append]
           rfl
         rw[e8]
         refine QC.off ((lat.mono s7).snoc h7) λm=>?_
         rcases List.mem_append.mp m with m | m
         . exact nf m
         . exact n6f (List.mem_singleton.mp m).symm
       . rcases List.mem_append.mp m with m | m
         . exact nf m
         . exact n6f (List.mem_singleton.mp m).symm
   . rintro σ' X ⟨v3,v4,qs,rfl,sX,hX,lat,nf⟩
     rw[e0]at lat
     exact⟨_,rfl,q fo qs X (s03.trans sX) nfo hX lat⟩
end
end Rh
set_option Elab.async false
set_option linter.all false
set_option maxRecDepth 100000
set_option maxHeartbeats 4000000
namespace Rh
open PySem L2 PyProof.Rows
abbrev xN:Stmt:=top 33
abbrev xM:Stmt:=top 34
abbrev UZ:Stmt:=top 35
structure Sm (d:PyData) (k L:Nat):Prop where
 sh:d.showable=true
 nd:d.hasDict=false
 dp:d.depth<=k
 ln:d.shown.length<=L
theorem kE {d e:PyData} {k L M:Nat} (a:Sm d k L) (b:Sm e k M):Sm (.tuple [d,e]) (k+1) (L+M+7):=by
 refine⟨?_,?_,?_,?_⟩
 . show (d.showable&&(e.showable&&true))=true
   rw[a.sh,b.sh];rfl
 . show (d.hasDict || (e.hasDict || false))=false
   rw[a.nd,b.nd];rfl
 . have:=a.dp
   have:=b.dp
   simp only[PyData.depth,PyData.depthAll]
   omega
 . show (tupleText [d.shown,e.shown]).length<=_
   have h1:=tupleText_len_le [d.shown,e.shown]
   have:=a.ln
   have:=b.ln
   simp only[List.map_cons,List.map_nil,List.sum_cons,List.sum_nil,List.length_cons,List.length_nil]at h1
   omega
theorem YJ {k L:Nat}:∀{ds:List PyData},(∀d∈ds,Sm d k L)->PyData.showableAll ds=true/\PyData.hasDictAll ds=false/\PyData.depthAll ds<=k/\((PyData.shownAll ds).map (·.length)).sum<=L*ds.length/\(PyData.shownAll ds).length=ds.length
 | [],_=>⟨rfl,rfl,Nat.zero_le _,Nat.zero_le _,rfl⟩
 | d::ds,h=>by
   obtain⟨a,b,c,e,f⟩:=YJ λy hy=>h y (List.mem_cons_of_mem _ hy)
   have g:=h d List.mem_cons_self
   refine⟨?_,?_,?_,?_,?_⟩
   . rw[PyData.showableAll,g.sh,a];rfl
   . rw[PyData.hasDictAll,g.nd,b];rfl
   . rw[PyData.depthAll]
     have:=g.dp
     omega
   . rw[PyData.shownAll,List.map_cons,List.sum_cons,List.length_cons,Nat.mul_add]
     have:=g.ln
     omega
   . rw[PyData.shownAll,List.length_cons,List.length_cons,f]
theorem YI {k L:Nat} {ds:List PyData} (h:∀d∈ds,Sm d k L):Sm (.list ds) (k+1) (L*ds.length+2*ds.length+3):=by
 obtain⟨a,b,c,e,f⟩:=YJ h
 refine⟨a,b,?_,?_⟩
 . simp only[PyData.depth]
   omega
 . show (listText (PyData.shownAll ds)).length<=_
   have h1:=listText_len_le (PyData.shownAll ds)
   rw[f]at h1
   omega
theorem kF {k L:Nat} {ds:List PyData} (h:∀d∈ds,Sm d k L):Sm (.tuple ds) (k+1) (L*ds.length+2*ds.length+3):=by
 obtain⟨a,b,c,e,f⟩:=YJ h
 refine⟨a,b,?_,?_⟩
 . simp only[PyData.depth]
   omega
 . show (tupleText (PyData.shownAll ds)).length<=_
   have h1:=tupleText_len_le (PyData.shownAll ds)
   rw[f]at h1
   omega
theorem Sm.more {d:PyData} {k L k' L':Nat} (h:Sm d k L) (a:k<=k') (b:L<=L'):Sm d k' L':=⟨h.sh,h.nd,Nat.le_trans h.dp a,Nat.le_trans h.ln b⟩
theorem zp {z:Str} (h:∀c∈z.cps.toList,c<=122) (l:z.length<=8):Sm (.str z) 0 82:=by
 refine⟨rfl,rfl,Nat.le_refl _,?_⟩
 have h1:=StrLaws.reprText_len z λc hc=>Nat.lt_of_le_of_lt (h c hc) (by decide)
 show (reprText z).length<=82
 omega
theorem Q9 {z:Str} (h:qD z=true):Sm (.str z) 0 82:=zp (jy h).1 (jy h).2.1
def Yk (r:Str×List Str):PyData:=.tuple [.str r.1,.tuple (r.2.map PyData.str)]
theorem qF.tail {H:Hp} {p:Addr} {ps:List Addr} {r:Str×List Str} {rs:j9} (h:qF H (p::ps) (r::rs)):qF H ps rs:=⟨Nat.succ.inj h.1,λi a b e1 e2=>h.2 (i+1) a b (by simpa using e1) (by simpa using e2)⟩
theorem Qr {K:PySem.W.Frag} {H:Hp}:∀{ps:List Addr} {rs:j9},qF H ps rs->DVs K H (ps.map V.ref) (rs.map Yk)
 | [],[],_=>.nil
 | [],_::_,h=>by cases h.1
 | _::_,[],h=>by cases h.1
 | p::ps,r::rs,h=>by
   obtain⟨q,a,b⟩:=h.2 0 p r rfl rfl
   exact .cons (.tup (.of a) (.cons (.str _) (.cons (.tup (.of b) (Jo _)) .nil))) (Qr h.tail)
theorem QC.tail {H:Hp} {p:Addr} {ps:List Addr} {z:List Str} {zss:List (List Str)} (h:QC H (p::ps) (z::zss)):QC H ps zss:=⟨Nat.succ.inj h.1,λi a b e1 e2=>h.2 (i+1) a b (by simpa using e1) (by simpa using e2)⟩
theorem Qs {K:PySem.W.Frag} {H:Hp}:∀{ps:List Addr} {zss:List (List Str)},QC H ps zss->DVs K H (ps.map V.ref) (zss.map dL)
 | [],[],_=>.nil
 | [],_::_,h=>by cases h.1
 | _::_,[],h=>by cases h.1
 | p::ps,z::zss,h=>.cons (ZT (h.2 0 p z rfl rfl)) (Qs h.tail)
theorem kN {rs:j9} (r:Str×List Str):(jb rs r).length<=rs.length:=by
 unfold jb
 refine Nat.le_trans (List.length_filter_le _ _) ?_
 rw[List.length_map]
 exact Nat.le_refl _
theorem zv {rs:j9} (g:qN rs) {r:Str×List Str}:∀z∈jb rs r,qD z=true:=λz hz=>by
 obtain⟨r',h1,h2⟩:=Vm hz
 rw[<-h2];exact g.nm r' h1
theorem UP {rs:j9} (g:qN rs) (le:rs.length<=14):Sm (.list ((QH rs).map Yk)) 3 30000:=by
 have h1:∀d∈(QH rs).map Yk,Sm d 2 1500:=λd hd=>by
   obtain⟨r,hr,rfl⟩:=List.mem_map.mp hd
   obtain⟨r0,hr0,rfl⟩:=List.mem_map.mp hr
   have l1:=kN (rs:=rs) r0
   have a:=kF (k:=0) (L:=82) (ds:=(jb rs r0).map PyData.str) λd hd=>by
     obtain⟨z,hz,rfl⟩:=List.mem_map.mp hd
     exact Q9 (zv g z hz)
   rw[List.length_map]at a
   exact(kE (k:=1) ((Q9 (g.nm r0 hr0)).more (by omega) (Nat.le_refl _)) (a.more (by omega) (show _<=1400 by omega))).more (by omega) (by omega)
 have h2:=YI h1
 have l2:((QH rs).map Yk).length=rs.length:=by
   unfold QH
   rw[List.length_map,List.length_map]
 rw[l2]at h2
 exact h2.more (by omega) (by omega)
theorem kJ (b:Bool):Sm (.str (zL b)) 0 82:=by
 cases b
 . exact zp (by decide+kernel) (by decide+kernel)
 . exact zp (by decide+kernel) (by decide+kernel)
theorem kH {rs:j9} (g:qN rs) (le:rs.length<=14):Sm (.list ((tab rs).map dL)) 3 30000:=by
 have h0:∀zs:List Str,(∀z∈zs,Sm (.str z) 0 82)->zs.length<=15->Sm (dL zs) 2 1500:=λzs h l=>by
   have a:=YI (k:=0) (L:=82) (ds:=zs.map PyData.str) λd hd=>by
     obtain⟨z,hz,rfl⟩:=List.mem_map.mp hd
     exact h z hz
   rw[List.length_map]at a
   exact a.more (by omega) (by omega)
 have h1:∀d∈(tab rs).map dL,Sm d 2 1500:=λd hd=>by
   obtain⟨zs,hz,rfl⟩:=List.mem_map.mp hd
   unfold tab at hz
   rcases List.mem_cons.mp hz with rfl | hz
   . refine h0 _ (λz hz=>?_) (by rw[List.length_cons,List.length_map];omega)
     rcases List.mem_cons.mp hz with rfl | hz
     . exact zp (by decide+kernel) (by decide+kernel)
     . obtain⟨r,hr,rfl⟩:=List.mem_map.mp hz
       exact Q9 (g.nm r hr)
   . obtain⟨r,hr,rfl⟩:=List.mem_map.mp hz
     refine h0 _ (λz hz=>?_) (by unfold dr;rw[List.length_cons,List.length_map,List.length_map];omega)
     unfold dr at hz
     rcases List.mem_cons.mp hz with rfl | hz
     . exact Q9 (g.nm r hr)
     . obtain⟨y,hy,rfl⟩:=List.mem_map.mp hz
       exact kJ _
 have h2:=YI h1
 have l2:((tab rs).map dL).length=rs.length+1:=by
   unfold tab
   rw[List.length_map,List.length_cons,List.length_map]
 rw[l2]at h2
 exact h2.more (by omega) (by omega)
theorem Sm.d60 {d:PyData} (h:Sm d 3 30000):d.depth<=60:=Nat.le_trans h.dp (by decide)
theorem Sm.l24 {d:PyData} (h:Sm d 3 30000):d.shown.length<=sizeLine:=Nat.le_trans h.ln (Nat.le_of_lt (by decide))
theorem zo {rs:j9} {i:Nat} {r:Str×List Str} (e:(QH rs)[i]?=some r):∃r0,rs[i]?=some r0/\r0∈rs/\r=(r0.1,jb rs r0):=by
 unfold QH at e
 rw[List.getElem?_map]at e
 cases e0:rs[i]? with
 | none=>rw[e0]at e;cases e
 | some r0=>rw[e0]at e;exact⟨r0,rfl,List.mem_of_getElem? e0,(Option.some.inj e).symm⟩
def UO (CG:Addr):Sp:=λvs H Q _=>∃(g L:Addr) (qs:List Addr) (rs:j9),vs=[.ref g,.ref L]/\jT CG H g rs/\qN rs/\rs.length<=14/\H L=some (.lst (qs.map V.ref))/\QT H qs (QH rs)/\∀H',Same H H'->Q (.bl true) H'
section
variable {P:Program} {w:World} {K:PySem.W.Frag} {mg:Str->Option Value} {base:Heap}
abbrev nNR:List Str:=["_law_ground","_law_due_here","_law_names_here","_law_name","_law_others","_law_found"]
abbrev kj:List Str:=["_law_ground","_law_due_here"]
theorem Vj:qx nNR kj (qo xN):=⟨rfl,rfl,rfl,by decide+kernel,rfl,by decide+kernel,by decide+kernel⟩
theorem zb {L:Addr} {qs:List Addr} {rs:j9} {H:Hp} {D:Addr} {R:Hp->Prop} (hL:H L=some (.lst (qs.map V.ref))) (dat:QT H qs (QH rs)) (le14:rs.length<=14) (hD:H D=none) (k:R (upd H D (.lst ((rs.map (·.1)).map V.str)))):
   ZQ (kz K L) (JB K 2 (ji (qT 0) (ji (qT 1) JD))) kA (qV 0) D [none,none] H R:=by
 refine qK (K:=K) (a:=L) (xs:=qs.map V.ref) (λj σ' X=>∃v0 v1,σ'=[v0,v1]/\X=upd H D (.lst (((rs.take j).map (·.1)).map V.str))) ⟨none,none,rfl,rfl⟩ (λj σ' X _ ⟨_,_,_,e⟩=>e▸.of (qh hL hD)) ?_ ?_
 . rintro j y σ' X hy ⟨v0,v1,rfl,rfl⟩
   obtain⟨p,q,r,rfl,ep,er,hr,ea,eb⟩:=dat.item hy
   obtain⟨r0,er0,hr0,rfl⟩:=zo er
   have hi:=(List.getElem?_eq_some_iff.mp er0).1
   refine⟨p,_,rfl,.of (qh ea hD),rfl,_,_,rfl,_,_,rfl,rfl,_,rfl,_,qd,?_,_,_,rfl,?_⟩
   . rw[List.length_map,List.length_map,List.length_take]
     exact qj (by omega)
   . rw[qR,List.take_add_one,er0,List.map_append,List.map_append]
     rfl
 . rintro σ' X ⟨v0,v1,rfl,rfl⟩
   have e0:rs.take (qs.map V.ref).length=rs:=List.take_of_length_le (by rw[List.length_map,dat.1];unfold QH;rw[List.length_map];exact Nat.le_refl _)
   rw[e0]
   exact k
theorem xj {f CG:Addr} {fd:FuncData} (F:Qb K "_law_names_right" "_law_names_right" xN f fd) (B:J1 mg) (G:QE mg) (T:QD K mg) (M:GM K mg CG):FnOk P w K mg base jf 3 f fd kj (UO CG):=by
 obtain⟨fC,fdC,C⟩:=M.cls
 obtain⟨fN,fdN,hN⟩:=M.nm
 obtain⟨fF,fdF,hF⟩:=M.fr
 obtain⟨fS,fdS,hS⟩:=M.isn
 have GN:FnOk P w K mg base jf 1 fN fdN ["self"] (Q8 CG):=Ju hN.fn C G
 have GF:FnOk P w K mg base jf 2 fF fdF ["self","name"] (J3 CG):=Zv hF.fn C B G T hS
 refine F.okJ Vj (λvs H Q E h=>?_) (λcdv A outer s H vs Q E hr h=>?_)
 . obtain⟨g,L,qs,rs,rfl,_⟩:=h
   rfl
 . obtain⟨g,L,qs,rs,rfl,gr,good,le14,hL,dat,q⟩:=h
   have r1:qU 1 _:=hr.mono (by decide)
   refine⟨_,qe (qB (i:=2) Vj.nd rfl (Or.inl rfl) (ZD hN C.cl GN r1 (jv 0)))
     (qe (qQ (JW.pt (j6 (jz (jp (qr jd (by rfl) T.isi boot_isinstance (qb (jv 2) (qb (Qe (v:=.ty "list") (by rfl) G.lst boot_list rfl) qf))))) (jE (qt (zx hr.units) (jv 2) (jI (N':=["_law_name","_law_others"]) (ix:=[none,none]) (g:=JB K 2 (ji (qT 0) (ji (qT 1) JD))) (te:=qV 0) rfl ⟨rfl,rfl,rfl,rfl,rfl⟩ (qA (jv 1)) (λC s2 H2 fp pins=>
       ⟨jF rfl (qy (qm (i:=0) WU rfl (Or.inl rfl)) (qy (qm (i:=1) WU rfl (Or.inl rfl)) jn)),qM,jv 0⟩)) (qv _))))) (qk (qC jh)) qz)
     (qe (qX (Jh PySem.F.plainAttrs_list PySem.F.slot_list_append PySem.F.type_list_append jk (jv 2) (qb qL qf)))
     (qe (jt PassesOwn.never rfl (qA (jv 1)) (jF rfl (qy (qm (i:=3) Vj.nd rfl (Or.inl rfl)) (qy (qm (i:=4) Vj.nd rfl (Or.inl rfl)) jn)))
       (qe (qB (i:=5) Vj.nd rfl (Or.inl rfl) (V6 hF C.cl GF hr (jv 0) (qb (jv 3) qf)))
       (qe (qQ (JW.pt (j6 (jz (jp (qr jd (by rfl) T.isi boot_isinstance (qb (jv 5) (qb (Qe (v:=.ty "list") (by rfl) G.lst boot_list rfl) qf))))) (jE (qt (zx hr.units) (jv 5) (jv 4) (qv _))))) (qk (qC jh)) qz)
       (qk (qX (zB PySem.F.plainAttrs_list PySem.F.slot_list_clear PySem.F.type_list_clear z7 (jv 5)))))))
     (qk (qC (j0 (kZ hr.units) (ZD hN C.cl GN r1 (jv 0)) (jI (N':=["_law_name","_law_others"]) (ix:=[none,none]) (g:=JB K 2 (ji (qT 0) (ji (qT 1) JD))) (te:=qV 0) rfl ⟨rfl,rfl,rfl,rfl,rfl⟩ (qA (jv 1)) (λC s2 H2 fp pins=>
       ⟨jF rfl (qy (qm (i:=0) WU rfl (Or.inl rfl)) (qy (qm (i:=1) WU rfl (Or.inl rfl)) jn)),qM,jv 0⟩)) (qv _))))))),?_⟩
   obtain⟨dx,fs,hg,l1,l2⟩:=gr.ins
   have nmz:∀z∈rs.map (·.1),qD z=true:=λz hz=>by
     obtain⟨r,hr',rfl⟩:=List.mem_map.mp hz
     exact good.nm r hr'
   refine⟨_,rfl,g,dx,fs,rfl,hg,l1,g,rs,rfl,gr,λln hln=>?_⟩
   have s1:Same H (upd H ln (.lst ((rs.map (·.1)).map V.str))):=qi hln
   have h1:upd H ln (.lst ((rs.map (·.1)).map V.str)) ln=some (.lst ((rs.map (·.1)).map V.str)):=qd
   generalize upd H ln (.lst ((rs.map (·.1)).map V.str))=H1 at s1 h1
   refine⟨_,rfl,_,_,_,_,rfl,rfl,.lst h1,T.kll,_,rfl,jm ?_⟩
   refine⟨_,rfl,_,rfl,L,rfl,⟨_,.of (s1 _ _ hL)⟩,λD hD=>?_⟩
   refine zb (s1 _ _ hL) (dat.mono s1) le14 hD ?_
   have s2:Same H1 (upd H1 D (.lst ((rs.map (·.1)).map V.str))):=qi hD
   have h2:upd H1 D (.lst ((rs.map (·.1)).map V.str)) D=some (.lst ((rs.map (·.1)).map V.str)):=qd
   generalize upd H1 D (.lst ((rs.map (·.1)).map V.str))=H2 at s2 h2
   refine⟨dL (rs.map (·.1)),ZT (s2 _ _ h1),ZT h2,xK nmz,_,rfl,jm ?_⟩
   refine⟨_,rfl,.inl ⟨rfl,_,.of (s2 _ _ h1)⟩,ln,_,_,rfl,rfl,s2 _ _ h1,by rw[List.length_map,List.length_map];exact qj (by omega),?_⟩
   have s3:Same H (upd H2 ln (.lst ((rs.map (·.1)).map V.str++[.str (Str.ofString "zz")]))):=Same.upd (s1.trans s2) hln
   generalize upd H2 ln (.lst ((rs.map (·.1)).map V.str++[.str (Str.ofString "zz")]))=H3 at s3
   refine⟨_,rfl,L,rfl,⟨_,.of (s3 _ _ hL)⟩,?_⟩
   refine jw (K:=K) (a:=L) (xs:=qs.map V.ref) (λi σ' X=>∃(v3 v4 v5:Option V),σ'=[some (.ref g),some (.ref L),some (.ref ln),v3,v4,v5]/\Same H X) ⟨_,_,_,rfl,s3⟩ (λi σ' X _ ⟨_,_,_,_,s⟩=>.of (s _ _ hL)) ?_ ?_
   . rintro i y σ' X hy ⟨v3,v4,v5,rfl,sX⟩
     obtain⟨p,qq,r,rfl,ep,er,hr',ea,eb⟩:=(dat.mono sX).item hy
     obtain⟨r0,er0,hr0,rfl⟩:=zo er
     refine⟨p,_,rfl,.of ea,rfl,_,_,rfl,_,_,rfl,rfl,?_⟩
     refine⟨_,rfl,g,dx,fs,rfl,sX _ _ hg,l2,_,rfl,g,rs,r0,rfl,gr.mono sX,hr0,good.nm r0 hr0,λX1 le sX1 hle=>?_⟩
     have s5:Same X (upd X1 le (.lst ((jb rs r0).map V.str))):=sX1.trans (qi hle)
     have h5:upd X1 le (.lst ((jb rs r0).map V.str)) le=some (.lst ((jb rs r0).map V.str)):=qd
     have nle:X le=none:=jj sX1 hle
     generalize upd X1 le (.lst ((jb rs r0).map V.str))=X5 at s5 h5
     refine⟨_,rfl,_,_,_,_,rfl,rfl,.lst h5,T.kll,_,rfl,jm ?_⟩
     refine⟨_,rfl,_,rfl,dL (jb rs r0),ZT h5,ZT (s5 _ _ eb),xK (zv good),_,rfl,jm ?_⟩
     refine⟨_,rfl,.inl ⟨rfl,_,.of h5⟩,le,_,rfl,rfl,h5,?_⟩
     exact⟨_,_,_,rfl,sX.trans (Same.upd s5 nle)⟩
   . rintro σ' X ⟨v3,v4,v5,rfl,sX⟩
     refine⟨_,rfl,g,dx,fs,rfl,sX _ _ hg,l1,g,rs,rfl,gr.mono sX,λlm hlm=>?_⟩
     have s6:Same X (upd X lm (.lst ((rs.map (·.1)).map V.str))):=qi hlm
     have h6:upd X lm (.lst ((rs.map (·.1)).map V.str)) lm=some (.lst ((rs.map (·.1)).map V.str)):=qd
     generalize upd X lm (.lst ((rs.map (·.1)).map V.str))=X6 at s6 h6
     have s06:=sX.trans s6
     refine⟨_,rfl,L,rfl,⟨_,.of (s06 _ _ hL)⟩,λD2 hD2=>?_⟩
     refine zb (s06 _ _ hL) (dat.mono s06) le14 hD2 ?_
     refine⟨dL (rs.map (·.1)),ZT (qh h6 hD2),ZT qd,xK nmz,?_⟩
     exact q _ (s06.trans (qi hD2))
end
end Rh
set_option Elab.async false
set_option linter.all false
set_option maxRecDepth 100000
set_option maxHeartbeats 4000000
namespace Rh
open PySem L2 PyProof.Rows
structure xE (K:PySem.W.Frag) (mg:Str->Option Value) (CG:Addr):Prop where
 rw:∃f fd,ky K CG "rows" "Ground.rows" Zq ["self"] f fd
 rep:mg "repr"=none
theorem jT.insR {CG:Addr} {H:Hp} {a:Addr} {rs:j9} (h:jT CG H a rs):∃dx fs,H a=some (.ins CG dx fs)/\fs.lookup (Str.ofString "rows")=none/\fs.lookup (Str.ofString "roads_from")=none:=by
 obtain⟨dx,lo,rd,kvs,h1,_⟩:=h
 refine⟨dx,_,h1,?_,?_⟩
 . have e1:((Str.ofString "rows")==(Str.ofString "order"))=false:=by decide+kernel
   have e2:((Str.ofString "rows")==(Str.ofString "roads"))=false:=by decide+kernel
   simp only[List.lookup]
   rw[e1,e2]
 . have e1:((Str.ofString "roads_from")==(Str.ofString "order"))=false:=by decide+kernel
   have e2:((Str.ofString "roads_from")==(Str.ofString "roads"))=false:=by decide+kernel
   simp only[List.lookup]
   rw[e1,e2]
def kb (CG:Addr):Sp:=λvs H Q _=>∃(g l:Addr) (ps:List Addr) (rs:j9),vs=[.ref g,.ref l]/\jT CG H g rs/\ja H l ps rs/\∀H',Same H H'->Q (.bl true) H'
section
variable {P:Program} {w:World} {K:PySem.W.Frag} {mg:Str->Option Value} {base:Heap}
abbrev nRR:List Str:=["_law_ground","_law_due_here","_law_found","_law_name","_law_others"]
theorem UU:qx nRR kj (qo xM):=⟨rfl,rfl,rfl,by decide+kernel,rfl,by decide+kernel,by decide+kernel⟩
theorem Yd {L:Addr} {qs:List Addr} {rs:j9} {H:Hp} {D:Addr} {R:Hp->Prop} (hL:H L=some (.lst (qs.map V.ref))) (dat:QT H qs (QH rs)) (le14:rs.length<=14) (hD:H D=none) (k:∀H' ps,Same H H'->H' D=some (.lst (ps.map V.ref))->qF H' ps (QH rs)->R H'):
   ZQ (kz K L) (JB K 2 (ji (qT 0) (ji (qT 1) JD))) kA (YC (qS (qV 0) (qS (W4 (XB K) (qS (qV 1) j4)) j4))) D [none,none] H R:=by
 refine qK (K:=K) (a:=L) (xs:=qs.map V.ref) (λj σ' X=>∃(v0 v1:Option V) (ps:List Addr),σ'=[v0,v1]/\Same H X/\X D=some (.lst (ps.map V.ref))/\qF X ps ((QH rs).take j)) ⟨none,none,[],rfl,qi hD,qd,rfl,λi p r e=>(nomatch e)⟩ (λj σ' X _ ⟨_,_,_,_,s,_⟩=>.of (s _ _ hL)) ?_ ?_
 . rintro j y σ' X hy ⟨v0,v1,ps,rfl,sX,hX,rat⟩
   obtain⟨p,q,r,rfl,ep,er,hr,ea,eb⟩:=(dat.mono sX).item hy
   have hi:=(List.getElem?_eq_some_iff.mp er).1
   have lt:(QH rs).length=rs.length:=List.length_map ..
   refine⟨p,_,rfl,.of ea,rfl,_,_,rfl,_,_,rfl,rfl,_,rfl,_,rfl,q,_,rfl,.inl ⟨.of eb,λp2 hp2=>⟨by show 2<=sizeLine;decide,λp3 hp3=>?_⟩⟩⟩
   have a3:Same X (upd (upd X p2 (.tup (r.2.map V.str))) p3 (.tup [.str r.1,.ref p2])):=(qi hp2).trans (qi hp3)
   have b2:upd (upd X p2 (.tup (r.2.map V.str))) p3 (.tup [.str r.1,.ref p2]) p2=some (.tup (r.2.map V.str)):=qh qd hp3
   have b3:upd (upd X p2 (.tup (r.2.map V.str))) p3 (.tup [.str r.1,.ref p2]) p3=some (.tup [.str r.1,.ref p2]):=qd
   generalize upd (upd X p2 (.tup (r.2.map V.str))) p3 (.tup [.str r.1,.ref p2])=X3 at a3 b2 b3
   have hX3:=a3 _ _ hX
   have lps:=rat.1
   rw[List.length_take]at lps
   refine⟨_,hX3,by rw[List.length_map];exact qj (by omega),_,_,ps++[p3],rfl,Same.upd (sX.trans a3) hD,by rw[List.map_append];exact qd,?_⟩
   rw[List.take_add_one,er]
   refine qF.upd_lst ?_ hX3
   exact qF.snoc (q:=p2) (rat.mono a3) b3 b2
 . rintro σ' X ⟨v0,v1,ps,rfl,sX,hX,rat⟩
   have e0:(QH rs).take (qs.map V.ref).length=QH rs:=List.take_of_length_le (by rw[List.length_map,dat.1];exact Nat.le_refl _)
   rw[e0]at rat
   exact k X ps sX hX rat
theorem xi {f CG:Addr} {fd:FuncData} (F:Qb K "_law_rows_right" "_law_rows_right" xM f fd) (B:J1 mg) (G:QE mg) (T:QD K mg) (M:GM K mg CG) (R3:xE K mg CG):FnOk P w K mg base jf 3 f fd kj (UO CG):=by
 obtain⟨fC,fdC,C⟩:=M.cls
 obtain⟨fR,fdR,hR⟩:=R3.rw
 obtain⟨fF,fdF,hF⟩:=M.fr
 obtain⟨fS,fdS,hS⟩:=M.isn
 have GR:FnOk P w K mg base jf 1 fR fdR ["self"] (Xs CG):=VL hR.fn C G
 have GF:FnOk P w K mg base jf 2 fF fdF ["self","name"] (J3 CG):=Zv hF.fn C B G T hS
 refine F.okJ UU (λvs H Q E h=>?_) (λcdv A outer s H vs Q E hr h=>?_)
 . obtain⟨g,L,qs,rs,rfl,_⟩:=h
   rfl
 . obtain⟨g,L,qs,rs,rfl,gr,good,le14,hL,dat,q⟩:=h
   have r1:qU 1 _:=hr.mono (by decide)
   refine⟨_,qe (qB (i:=2) UU.nd rfl (Or.inl rfl) (ZD hR C.cl GR r1 (jv 0)))
     (qe (qQ (qt VC (qr (jD hr.gd hr.units) (by rfl) R3.rep boot_repr (qb (jv 2) qf)) (qr (jD hr.gd hr.units) (by rfl) R3.rep boot_repr (qb (jI (N':=["_law_name","_law_others"]) (ix:=[none,none]) (g:=JB K 2 (ji (qT 0) (ji (qT 1) JD))) (te:=YC (qS (qV 0) (qS (W4 (XB K) (qS (qV 1) j4)) j4))) rfl ⟨rfl,rfl,rfl,rfl,rfl⟩ (qA (jv 1)) (λC s2 H2 fp pins=>
       ⟨jF rfl (qy (qm (i:=0) WU rfl (Or.inl rfl)) (qy (qm (i:=1) WU rfl (Or.inl rfl)) jn)),qM,jG (qb (jv 0) (qb (jc jx (by rfl) G.tup boot_tuple (qb (jv 1) qf)) qf))⟩)) qf)) (qv _)) (qk (qC jh)) qz)
     (qe (qX (zB PySem.F.plainAttrs_list PySem.F.slot_list_reverse PySem.F.type_list_reverse Zx (jv 2)))
     (qe (qX (Jh PySem.F.plainAttrs_list PySem.F.slot_list_append PySem.F.type_list_append jk (jv 2) (qb (jG (qb qL (qb (jG qf) qf))) qf)))
     (qe (jt PassesOwn.never rfl (qA (jv 1)) (jF rfl (qy (qm (i:=3) UU.nd rfl (Or.inl rfl)) (qy (qm (i:=4) UU.nd rfl (Or.inl rfl)) jn)))
       (qk (qQ (qt (zx hr.units) (V6 hF C.cl GF hr (jv 0) (qb (jv 3) qf)) (jv 4) (qv _)) (qk (qC jh)) qz)))
     (qk (qC (j0 QF (qr (jD hr.gd hr.units) (by rfl) R3.rep boot_repr (qb (ZD hR C.cl GR r1 (jv 0)) qf)) (qr (jD hr.gd hr.units) (by rfl) R3.rep boot_repr (qb (jI (N':=["_law_name","_law_others"]) (ix:=[none,none]) (g:=JB K 2 (ji (qT 0) (ji (qT 1) JD))) (te:=YC (qS (qV 0) (qS (W4 (XB K) (qS (qV 1) j4)) j4))) rfl ⟨rfl,rfl,rfl,rfl,rfl⟩ (qA (jv 1)) (λC s2 H2 fp pins=>
       ⟨jF rfl (qy (qm (i:=0) WU rfl (Or.inl rfl)) (qy (qm (i:=1) WU rfl (Or.inl rfl)) jn)),qM,jG (qb (jv 0) (qb (jc jx (by rfl) G.tup boot_tuple (qb (jv 1) qf)) qf))⟩)) qf)) (qv _)))))))),?_⟩
   obtain⟨dx,fs,hg,l1,l2⟩:=gr.insR
   have sm:=UP good le14
   refine⟨_,rfl,g,dx,fs,rfl,hg,l1,g,rs,rfl,gr,le14,λlf ps1 H1 s1 nlf h1 rat1=>?_⟩
   refine⟨_,rfl,⟨_,_,rfl,.lst (.of h1) (Qr rat1),sm.sh,sm.nd,sm.d60,sm.l24,?_⟩⟩
   refine⟨_,rfl,L,rfl,⟨_,.of (s1 _ _ hL)⟩,λD hD=>?_⟩
   refine Yd (s1 _ _ hL) (dat.mono s1) le14 hD λH2 ps2 s2 h2 rat2=>?_
   refine⟨_,_,rfl,.lst (.of h2) (Qr rat2),sm.sh,sm.nd,sm.d60,sm.l24,rfl,_,rfl,?_⟩
   rw[decide_eq_true rfl]
   refine jm ?_
   have h12:=s2 _ _ h1
   refine⟨_,rfl,.inl ⟨rfl,_,.of h12⟩,lf,_,rfl,rfl,h12,?_⟩
   have s3:Same H (upd H2 lf (.lst (ps1.map V.ref).reverse)):=Same.upd (s1.trans s2) nlf
   have h3:upd H2 lf (.lst (ps1.map V.ref).reverse) lf=some (.lst (ps1.map V.ref).reverse):=qd
   generalize upd H2 lf (.lst (ps1.map V.ref).reverse)=H3 at s3 h3
   refine⟨_,rfl,.inl ⟨rfl,_,.of h3⟩,by show 0<=sizeLine;decide,λe0 he0=>⟨by show 2<=sizeLine;decide,λe1 he1=>?_⟩⟩
   have s4:Same H3 (upd (upd H3 e0 (.tup [])) e1 (.tup [.str (Str.ofString "zz"),.ref e0])):=(qi he0).trans (qi he1)
   generalize upd (upd H3 e0 (.tup [])) e1 (.tup [.str (Str.ofString "zz"),.ref e0])=H4 at s4
   have lr:=rat1.1
   have lt:(QH rs).length=rs.length:=List.length_map ..
   refine⟨lf,_,_,rfl,rfl,s4 _ _ h3,by rw[List.length_reverse,List.length_map];exact qj (by omega),?_⟩
   have s5:Same H (upd H4 lf (.lst ((ps1.map V.ref).reverse++[.ref e1]))):=Same.upd (s3.trans s4) nlf
   generalize upd H4 lf (.lst ((ps1.map V.ref).reverse++[.ref e1]))=H5 at s5
   refine⟨_,rfl,L,rfl,⟨_,.of (s5 _ _ hL)⟩,?_⟩
   refine jw (K:=K) (a:=L) (xs:=qs.map V.ref) (λi σ' X=>∃(v3 v4:Option V),σ'=[some (.ref g),some (.ref L),some (.ref lf),v3,v4]/\Same H X) ⟨_,_,rfl,s5⟩ (λi σ' X _ ⟨_,_,_,s⟩=>.of (s _ _ hL)) ?_ ?_
   . rintro i y σ' X hy ⟨v3,v4,rfl,sX⟩
     obtain⟨p,qq,r,rfl,ep,er,hr',ea,eb⟩:=(dat.mono sX).item hy
     obtain⟨r0,er0,hr0,rfl⟩:=zo er
     refine⟨p,_,rfl,.of ea,rfl,_,_,rfl,_,_,rfl,rfl,?_⟩
     refine⟨_,rfl,g,dx,fs,rfl,sX _ _ hg,l2,_,rfl,g,rs,r0,rfl,gr.mono sX,hr0,good.nm r0 hr0,λX1 le sX1 hle=>?_⟩
     have s6:Same X (upd X1 le (.lst ((jb rs r0).map V.str))):=sX1.trans (qi hle)
     refine⟨_,rfl,dL (jb rs r0),ZT qd,ZT (s6 _ _ eb),xK (zv good),_,rfl,jm ?_⟩
     exact⟨_,_,rfl,sX.trans s6⟩
   . rintro σ' X ⟨v3,v4,rfl,sX⟩
     refine⟨_,rfl,g,dx,fs,rfl,sX _ _ hg,l1,g,rs,rfl,gr.mono sX,le14,λlg ps3 X1 sX1 nlg h6 rat6=>?_⟩
     refine⟨_,_,rfl,.lst (.of h6) (Qr rat6),sm.sh,sm.nd,sm.d60,sm.l24,?_⟩
     have s01:=sX.trans sX1
     refine⟨_,rfl,L,rfl,⟨_,.of (s01 _ _ hL)⟩,λD2 hD2=>?_⟩
     refine Yd (s01 _ _ hL) (dat.mono s01) le14 hD2 λX2 ps4 s7 h7 rat7=>?_
     refine⟨_,_,rfl,.lst (.of h7) (Qr rat7),sm.sh,sm.nd,sm.d60,sm.l24,rfl,?_⟩
     rw[decide_eq_true rfl]
     exact q X2 (s01.trans s7)
abbrev nDR:List Str:=["_law_ground","_law_rows_here","_law_due_here","_law_found"]
abbrev xQ:List Str:=["_law_ground","_law_rows_here"]
theorem Vk:qx nDR xQ (qo UZ):=⟨rfl,rfl,rfl,by decide+kernel,rfl,by decide+kernel,by decide+kernel⟩
theorem ya {f CG fT fD fW:Addr} {fd fdT fdD fdW:FuncData} (F:Qb K "_law_drawn_right" "_law_drawn_right" UZ f fd) (B:J1 mg) (G:QE mg) (T:QD K mg) (M:GM K mg CG) (R3:xE K mg CG) (hT:Qh K mg "_law_table" Zm ["_law_rows_here"] fT fdT) (hD:Qh K mg "drawn" Zr ["ground"] fD fdD) (hW:Qh K mg "drawn_row" Z1 ["ground","name"] fW fdW):FnOk P w K mg base jf 5 f fd xQ (kb CG):=by
 have GT:FnOk P w K mg base jf 1 fT fdT ["_law_rows_here"] Xn:=VF hT.fn B
 have GD:FnOk P w K mg base jf 4 fD fdD ["ground"] (Xt CG):=VN hD.fn B G T M hW
 refine F.okJ Vk (λvs H Q E h=>?_) (λcdv A outer s H vs Q E hr h=>?_)
 . obtain⟨g,l,ps,rs,rfl,_⟩:=h
   rfl
 . obtain⟨g,l,ps,rs,rfl,gr,ga,q⟩:=h
   have r1:qU 1 _:=hr.mono (by decide)
   refine⟨_,qe (qB (i:=2) Vk.nd rfl (Or.inl rfl) (jg hT GT r1 (by rfl) (qb (jv 1) qf)))
     (qe (qB (i:=3) Vk.nd rfl (Or.inl rfl) (jg hD GD hr (by rfl) (qb (jv 0) qf)))
     (qe (qQ (JW.pt (j6 (jz (jp (qr jd (by rfl) T.isi boot_isinstance (qb (jv 3) (qb (Qe (v:=.ty "list") (by rfl) G.lst boot_list rfl) qf))))) (jE (qt VC (qr (jD hr.gd hr.units) (by rfl) R3.rep boot_repr (qb (jv 3) qf)) (qr (jD hr.gd hr.units) (by rfl) R3.rep boot_repr (qb (jv 2) qf)) (qv _))))) (qk (qC jh)) qz)
     (qe (qX (Jh PySem.F.plainAttrs_list PySem.F.slot_list_append PySem.F.type_list_append jk (jq jr (jv 3) ql (λ_ _=>rfl)) (qb qL qf)))
     (qe (qX (zB PySem.F.plainAttrs_list PySem.F.slot_list_clear PySem.F.type_list_clear z7 (jq jr (jv 3) ql (λ_ _=>rfl))))
     (qk (qC (j0 QF (qr (jD hr.gd hr.units) (by rfl) R3.rep boot_repr (qb (jg hD GD hr (by rfl) (qb (jv 0) qf)) qf)) (qr (jD hr.gd hr.units) (by rfl) R3.rep boot_repr (qb (jv 2) qf)) (qv _)))))))),?_⟩
   have good:=ga.good
   have le14:=ga.le
   have pos:=ga.pos
   have sm:=kH good le14
   have lt:(tab rs).length=rs.length+1:=by unfold tab;rw[List.length_cons,List.length_map]
   refine⟨_,rfl,l,ps,rs,rfl,ga,λL qs H1 s1 nL h1 lat1=>?_⟩
   refine⟨_,rfl,g,rs,rfl,gr.mono s1,good,le14,λlf ps2 H2 s2 nlf h2 lat2 fr nd=>?_⟩
   refine⟨_,rfl,_,_,_,_,rfl,rfl,.lst h2,T.kll,_,rfl,jm ?_⟩
   refine⟨_,rfl,⟨_,_,rfl,.lst (.of h2) (Qs lat2),sm.sh,sm.nd,sm.d60,sm.l24,_,rfl,⟨_,_,rfl,.lst (.of (s2 _ _ h1)) (Qs (lat1.mono s2)),sm.sh,sm.nd,sm.d60,sm.l24,rfl,_,rfl,?_⟩⟩⟩
   rw[decide_eq_true rfl]
   refine jm ?_
   have lp:=lat2.1
   rw[lt]at lp
   obtain⟨p0,e0⟩:∃p,ps2[0]?=some p:=⟨_,List.getElem?_eq_getElem (by omega)⟩
   obtain⟨p1,e1⟩:∃p,ps2[1]?=some p:=⟨_,List.getElem?_eq_getElem (by omega)⟩
   have n0:=fr p0 (List.mem_of_getElem? e0)
   have n1:=fr p1 (List.mem_of_getElem? e1)
   have ne:p1≠p0:=λe=>by
     have a0:=(List.getElem?_eq_some_iff.mp e0)
     have a1:=(List.getElem?_eq_some_iff.mp e1)
     obtain⟨b0,c0⟩:=a0
     obtain⟨b1,c1⟩:=a1
     exact List.pairwise_iff_getElem.mp nd 0 1 b0 b1 (by decide) (by rw[c0,c1,e])
   have t0:=lat2.2 0 p0 _ e0 (List.getElem?_eq_getElem (by omega))
   have t1:=lat2.2 1 p1 _ e1 (List.getElem?_eq_getElem (by omega))
   generalize ez0:(tab rs)[0]=z0 at t0
   generalize (tab rs)[1]=z1 at t1
   have lz0:z0.length<=15:=by
     rw[<-ez0]
     show (Str.ofString ""::rs.map (·.1)).length<=15
     rw[List.length_cons,List.length_map]
     omega
   refine⟨_,rfl,lf,_,0,V.ref p0,rfl,rfl,.of h2,j1 (j:=0) (by rw[List.getElem?_map,e0];rfl),.inl ⟨rfl,_,.of t0⟩,p0,_,_,rfl,rfl,t0,by rw[List.length_map];exact qj (by omega),?_⟩
   have s3:Same H1 (upd H2 p0 (.lst (z0.map V.str++[.str (Str.ofString "zz")]))):=Same.upd s2 n0
   have nf0:lf≠p0:=λe=>by rw[e,t0]at h2;have:=HO.lst.inj (Option.some.inj h2);cases z0 with | nil=>(have l2:=congrArg List.length this;rw[List.length_map,List.length_map]at l2;simp at l2;omega) | cons a b=>(cases ps2 with | nil=>cases this | cons c d=>cases (List.cons.inj this).1)
   have h3:upd H2 p0 (.lst (z0.map V.str++[.str (Str.ofString "zz")])) lf=some (.lst (ps2.map V.ref)):=by rw[qg nf0];exact h2
   have t3:upd H2 p0 (.lst (z0.map V.str++[.str (Str.ofString "zz")])) p1=some (.lst (z1.map V.str)):=by rw[qg ne];exact t1
   generalize upd H2 p0 (.lst (z0.map V.str++[.str (Str.ofString "zz")]))=H3 at s3 h3 t3
   refine⟨_,rfl,lf,_,1,V.ref p1,rfl,rfl,.of h3,j1 (j:=1) (by rw[List.getElem?_map,e1];rfl),.inl ⟨rfl,_,.of t3⟩,p1,_,rfl,rfl,t3,?_⟩
   have s4:Same H1 (upd H3 p1 (.lst [])):=Same.upd s3 n1
   generalize upd H3 p1 (.lst [])=H4 at s4
   have s04:=s1.trans s4
   refine⟨_,rfl,g,rs,rfl,gr.mono s04,good,le14,λlg ps5 H5 s5 nlg h5 lat5 _ _=>?_⟩
   refine⟨_,_,rfl,.lst (.of h5) (Qs lat5),sm.sh,sm.nd,sm.d60,sm.l24,_,rfl,⟨_,_,rfl,.lst (.of (s5 _ _ (s4 _ _ h1))) (Qs (lat1.mono (s4.trans s5))),sm.sh,sm.nd,sm.d60,sm.l24,rfl,?_⟩⟩
   rw[decide_eq_true rfl]
   exact q H5 (s04.trans s5)
end
end Rh
set_option Elab.async false
set_option linter.all false
set_option maxRecDepth 100000
set_option maxHeartbeats 4000000
namespace Rh
open PySem L2 PyProof.Rows
abbrev Jb:Stmt:=top 36
abbrev zt:Stmt:=top 37
theorem zE {K:PySem.W.Frag} {H H':Hp} {v:V} {d:PyData} (s:jM H H') (h:DX K H v d):DX K H' v d:=by
 rcases h with h | ⟨a,e1,e2,e3⟩
 . exact .inl (XL s h)
 . exact .inr ⟨a,e1,s _ _ e2 (λ_ z=>nomatch z),e3⟩
structure vQ (K:PySem.W.Frag) (mg:Str->Option Value) (D CP CH:Addr):Prop where
 nD:mg "HeapError"=some (.ref D)
 nH:mg "NoGround"=some (.ref CH)
 k1:PySem.W.kitOne K (.ref CP) (.ref D)=some true
 k2:PySem.W.kitOne K (.ref CP) (.ref CH)=some false
 spc:PySem.W.specialIn K (.builtin "object.__class__") "__get__"=some (some (.builtin "getset_descriptor.__get__"))
 tks:PySem.W.takesIn K (.builtin "object.__class__")=some true
 rep:mg "repr"=none
def dP (zs:List Str):PyData:=.tuple (zs.map PyData.str)
theorem wG {K:PySem.W.Frag} {H:Hp} {p:Addr} {zs:List Str} (h:H p=some (.tup (zs.map V.str))):DV K H (.ref p) (dP zs):=.tup (.of h) (Jo zs)
theorem Vc:∀zs:List Str,PyData.showableAll (zs.map PyData.str)=true
 | []=>rfl
 | z::zs=>by rw[List.map_cons,PyData.showableAll,Vc zs];rfl
theorem YK:∀zs:List Str,PyData.shownAll (zs.map PyData.str)=zs.map reprText
 | []=>rfl
 | z::zs=>by rw[List.map_cons,PyData.shownAll,YK zs];rfl
theorem Xz {z:Str} (h:∀c∈z.cps.toList,c<=122):(reprText z).length<=10*z.length+2:=StrLaws.reprText_len z λc hc=>Nat.lt_of_le_of_lt (h c hc) (by decide)
theorem Xm {zs:List Str} (h:∀z∈zs,qD z=true):((zs.map reprText).map (·.length)).sum<=82*zs.length:=by
 induction zs with
 | nil=>exact Nat.le_refl _
 | cons z zs ih=>
   rw[List.map_cons,List.map_cons,List.sum_cons,List.length_cons]
   have h1:=ih λy hy=>h y (List.mem_cons_of_mem _ hy)
   have h2:=jy (h z List.mem_cons_self)
   have h3:=Xz h2.1
   omega
def WR (K:PySem.W.Frag) (H:Hp) (v:V):Prop:=WS K H v/\∃d,DX K H v d/\d.showable=true/\d.depth<=40/\d.shown.length<=4000
theorem vk {d:PyData} (h:d.shown.length<=4000):(PyData.list [d,.bool true,.bool false]).shown.length<=sizeLine:=by
 show (listText [d.shown,Str.ofString "True",Str.ofString "False"]).length<=sizeLine
 have h1:=listText_len_le [d.shown,Str.ofString "True",Str.ofString "False"]
 have e1:(Str.ofString "True").length=4:=by decide+kernel
 have e2:(Str.ofString "False").length=5:=by decide+kernel
 simp only[List.map_cons,List.map_nil,List.sum_cons,List.sum_nil,List.length_cons,List.length_nil,e1,e2]at h1
 exact Nat.le_trans h1 (Nat.le_of_lt (Nat.lt_of_le_of_lt (by omega:d.shown.length+(4+(5+0))+2*(0+1+1+1)+3<=5000) (by decide)))
structure zJ (K:PySem.W.Frag):Prop where
 n:PySem.W.kitOne K (.type "NoneType") (.type "str")=some false
 b:PySem.W.kitOne K (.type "bool") (.type "str")=some false
 i:PySem.W.kitOne K (.type "int") (.type "str")=some false
 l:PySem.W.kitOne K (.type "list") (.type "str")=some false
 t:PySem.W.kitOne K (.type "tuple") (.type "str")=some false
 d:PySem.W.kitOne K (.type "dict") (.type "str")=some false
theorem J7 {K:PySem.W.Frag} {H:Hp} {z:Str} (h:qD z=false) (hl:z.length<=20) (hc:∀c∈z.cps.toList,c<=122):WR K H (.str z):=by
 refine⟨.inl ⟨z,rfl,by omega,h⟩,.str z,.inl (.str z),rfl,Nat.zero_le _,?_⟩
 have:=Xz hc
 show (reprText z).length<=4000
 omega
theorem vj {K:PySem.W.Frag} {H:Hp} {p:Addr} {zs:List Str} (S:zJ K) (h:H p=some (.lst (zs.map V.str))) (hz:∀z∈zs,qD z=true) (hl:zs.length<=14):WR K H (.ref p):=by
 refine⟨.inr ⟨_,.lst h,S.l⟩,dL zs,.inl (ZT h),Vc zs,?_,?_⟩
 . unfold dL
   simp only[PyData.depth,Up zs]
   decide
 . show (listText (PyData.shownAll (zs.map PyData.str))).length<=4000
   rw[YK]
   have h1:=listText_len_le (zs.map reprText)
   have h2:=Xm hz
   rw[List.length_map]at h1
   omega
theorem vh {K:PySem.W.Frag} {H:Hp} {p:Addr} {zs:List Str} (S:zJ K) (h:H p=some (.tup (zs.map V.str))) (hz:∀z∈zs,qD z=true) (hl:zs.length<=14):WR K H (.ref p):=by
 refine⟨.inr ⟨_,.tup h,S.t⟩,dP zs,.inl (wG h),Vc zs,?_,?_⟩
 . unfold dP
   simp only[PyData.depth,Up zs]
   decide
 . show (tupleText (PyData.shownAll (zs.map PyData.str))).length<=4000
   rw[YK]
   have h1:=tupleText_len_le (zs.map reprText)
   have h2:=Xm hz
   rw[List.length_map]at h1
   omega
theorem vm {K:PySem.W.Frag} {H:Hp} {p:Addr} (S:zJ K) (h:H p=some (.dK [])):WR K H (.ref p):=
 ⟨.inr ⟨_,.dK h,S.d⟩,.dict [],.inr ⟨p,rfl,h,rfl⟩,rfl,by decide+kernel,by decide+kernel⟩
theorem vi {K:PySem.W.Frag} {H:Hp} (S:zJ K):WR K H .non:=⟨.inr ⟨_,.non,S.n⟩,.none,.inl .non,rfl,Nat.zero_le _,by decide+kernel⟩
theorem VO {K:PySem.W.Frag} {H:Hp} (S:zJ K):WR K H (.int 0):=⟨.inr ⟨_,.int 0,S.i⟩,.int 0,.inl (.int 0),by decide+kernel,Nat.zero_le _,by decide+kernel⟩
theorem VP {K:PySem.W.Frag} {H:Hp} (S:zJ K):WR K H (.bl true):=⟨.inr ⟨_,.bl true,S.b⟩,.bool true,.inl (.bl true),rfl,Nat.zero_le _,by decide+kernel⟩
theorem WV:(Str.ofString "zzzzzzzz").cps.toList=[122,122,122,122,122,122,122,122]:=by decide+kernel
theorem yb {K:PySem.W.Frag} {H:Hp} {z:Str} (h:qD z=true):WR K H (.str (z++Str.ofString "zzzzzzzz")):=by
 obtain⟨hc,h8,h1⟩:=jy h
 have e:(z++Str.ofString "zzzzzzzz").cps.toList=z.cps.toList++[122,122,122,122,122,122,122,122]:=by
   rw[<-WV,PySem.Str.cps_append,Array.toList_append]
 have el:(z++Str.ofString "zzzzzzzz").length=z.length+8:=by
   show (z++Str.ofString "zzzzzzzz").cps.size=_
   rw[<-Array.length_toList,e,List.length_append]
   rfl
 refine J7 ?_ (by omega) λc hc'=>?_
 . unfold qD
   rw[el,decide_eq_false (by omega:¬z.length+8<=8),Bool.and_false]
   rfl
 . rw[e]at hc'
   rcases List.mem_append.mp hc' with q | q
   . exact hc c q
   . simp only[List.mem_cons,List.mem_nil_iff,or_false,or_self]at q
     omega
theorem Wq {K:PySem.W.Frag} {H:Hp}:WR K H (.str (Str.ofString "")):=J7 (by decide+kernel) (by decide+kernel) (by decide+kernel)
theorem yd {K:PySem.W.Frag} {H:Hp}:WR K H (.str (Str.ofString "Aa")):=J7 (by decide+kernel) (by decide+kernel) (by decide+kernel)
theorem W6:(Str.ofString " ").cps.toList=[32]:=by decide+kernel
theorem yc {K:PySem.W.Frag} {H:Hp} {z:Str} (h:qD z=true):WR K H (.str (z++Str.ofString " ")):=by
 obtain⟨hc,h8,h1⟩:=jy h
 have e:(z++Str.ofString " ").cps.toList=z.cps.toList++[32]:=by
   rw[<-W6,PySem.Str.cps_append,Array.toList_append]
 have el:(z++Str.ofString " ").length=z.length+1:=by
   show (z++Str.ofString " ").cps.size=_
   rw[<-Array.length_toList,e,List.length_append]
   rfl
 refine J7 ?_ (by omega) λc hc'=>?_
 . unfold qD
   have:(z++Str.ofString " ").cps.toList.all qW=false:=by
     rw[e,List.all_append]
     have:[32].all qW=false:=by decide
     rw[this,Bool.and_false]
   rw[this,Bool.and_false]
 . rw[e]at hc'
   rcases List.mem_append.mp hc' with q | q
   . exact hc c q
   . rw[List.mem_singleton.mp q]
     decide
def Od (K:PySem.W.Frag) (H:Hp) (N:List Str) (v:V):Prop:=Uv K H N v/\∃d,DX K H v d/\d.showable=true/\d.depth<=40/\d.shown.length<=4000
theorem Od.keep {K:PySem.W.Frag} {H H':Hp} {N:List Str} {v:V} (h:Od K H N v) (s:jM H H'):Od K H' N v:=let ⟨a,d,b,c⟩:=h;⟨a.keep s,d,zE s b,c⟩
theorem WR.od {K:PySem.W.Frag} {H:Hp} {N:List Str} {v:V} (h:WR K H v):Od K H N v:=⟨.inl h.1,h.2⟩
theorem vn {K:PySem.W.Frag} {H:Hp} {N:List Str} {z:Str} (h:qD z=true) (n:z∉N):Od K H N (.str z):=⟨.inr ⟨z,rfl,h,n⟩,.str z,.inl (.str z),rfl,Nat.zero_le _,Nat.le_trans (Q9 h).ln (by decide)⟩
def ZZ (K:PySem.W.Frag) (CG:Addr):Sp:=λvs H Q _=>∃(g:Addr) (rs:j9) (v:V),vs=[.ref g,v]/\jT CG H g rs/\Od K H (rs.map (·.1)) v/\∀H',jM H H'->Q (.bl true) H'
section
variable {P:Program} {w:World} {K:PySem.W.Frag} {mg:Str->Option Value} {base:Heap}
abbrev nRf:List Str:=["_law_ground","_law_thing","_law_found","e"]
theorem UT:qx nRf ["_law_ground","_law_thing"] (qo Jb):=⟨rfl,rfl,rfl,by decide+kernel,rfl,by decide+kernel,by decide+kernel⟩
theorem YV {f CG D CP fP CH:Addr} {fd fdP:FuncData} (F:Qb K "_law_refused" "_law_refused" Jb f fd) (B:J1 mg) (G:QE mg) (T:QD K mg) (M:GM K mg CG)
   (xP:vS K mg D "NoPlace" "NoPlace.__init__" jS "found" CP fP fdP) (Z:vQ K mg D CP CH):FnOk P w K mg base jf 4 f fd ["_law_ground","_law_thing"] (ZZ K CG):=by
 obtain⟨fC,fdC,C⟩:=M.cls
 obtain⟨fF,fdF,hF⟩:=M.fr
 obtain⟨fS,fdS,hS⟩:=M.isn
 have GF:FnOk P w K mg base (yB P w) 3 fF fdF ["self","name"] (zU K CG CP):=Wn hF.fn C B G T hS xP
 refine F.okJ UT (λvs H Q E h=>?_) (λcdv A outer s H vs Q E hr h=>?_)
 . obtain⟨g,rs,v,rfl,_⟩:=h
   rfl
 . obtain⟨g,rs,v,rfl,gr,⟨hn,d,hd,sh,dp,ln4⟩,q⟩:=h
   have ln:=vk ln4
   refine⟨_,qe (qB (i:=2) UT.nd rfl (Or.inl rfl) V2)
     (qe (ym rfl rfl (λpn W E hE=>qk (qX (V3 (jv 0) C.cl hF.me GF hr hF.bi .nil hE (qb (jv 1) qf))))
       (vA (j:=3) (ts:=UJ (vV (qS (vW K (.ref D::jC) (qV 3) "found") (qS (W4 (YS K (.ref D::jC)) (qS (qV 3) (qS (tC (.ref D)) j4))) (qS (W4 (YS K (.ref D::jC)) (qS (qV 3) (qS (tC (.ref CH)) j4))) j4)))) (qT 2))
         (by rfl) xP.ns xP.rcls UT.nd rfl rfl
         (λv E=>qk (qB (i:=2) UT.nd rfl (Or.inl rfl) (XF (qb (vD (bm:=.ref D::jC) (jv 3) rfl) (qb (qr (JV (bm:=.ref D::jC) Z.spc Z.tks) (by rfl) T.isi boot_isinstance (qb (jv 3) (qb (Qd (v:=.ref D) (by rfl) Z.nD rfl) qf)))
           (qb (qr (JV (bm:=.ref D::jC) Z.spc Z.tks) (by rfl) T.isi boot_isinstance (qb (jv 3) (qb (Qd (v:=.ref CH) (by rfl) Z.nH rfl) qf))) qf))))))
         V0))
     (qk (qC (j0 QF (qr (ZL hr.gd hr.units) (by rfl) Z.rep boot_repr (qb (jv 2) qf)) (qr (ZL hr.gd hr.units) (by rfl) Z.rep boot_repr (qb (XF (qb (jv 1) (qb jh (qb jh qf)))) qf)) (qv _))))),?_⟩
   obtain⟨dxg,fs,hg,l1,l2⟩:=gr.ins
   refine⟨λC dx Hx=>C=CP/\Same H Hx/\Hx dx=some (.xd [(Str.ofString "found",v)]),⟨_,rfl,g,dxg,fs,rfl,hg,l2,_,rfl,g,rs,v,rfl,gr,hn,λH1 dx s1 h1=>⟨rfl,CP,dx,rfl,rfl,rfl,s1,h1⟩⟩,?_⟩
   rintro a C dx T' Hx H' ⟨rfl,sx,hdx⟩ ha kp ha'
   have nda:dx≠a:=λz=>by
     rw[z,ha]at hdx
     cases hdx
   have hdx':=kp dx _ nda hdx
   have k1:jM H H':=λb o hb nx=>kp b o (λz=>by
     rw[z]at hb
     have:=sx _ _ hb
     rw[ha]at this
     exact nx _ (Option.some.inj this).symm) (sx _ _ hb)
   have lk:([(Str.ofString "found",v)]:List (Str×V)).lookup (Str.ofString "found")=some v:=by simp [List.lookup]
   refine⟨fP,_,xP.mkr,?_⟩
   rw[if_pos (by simp [List.contains_cons])]
   refine⟨_,rfl,a,C,dx,_,_,v,rfl,ha',hdx',xP.cls,xP.na,lk,_,rfl,a,C,dx,_,_,.ref D,true,rfl,rfl,ha',hdx',xP.cls,Z.k1,_,rfl,a,C,dx,_,_,.ref CH,false,rfl,rfl,ha',hdx',xP.cls,Z.k2,by show 3<=sizeLine;decide,λl hl nl=>?_⟩
   have k2:jM H (upd H' l (.lst [v,.bl true,.bl false])):=k1.trans (qi hl).keep
   refine⟨_,rfl,l,v,d,true,false,rfl,nl,qd,zE k2 hd,sh,by omega,ln,_,rfl,by show 3<=sizeLine;decide,λl2 hl2 nl2=>?_⟩
   have k3:jM H (upd (upd H' l (.lst [v,.bl true,.bl false])) l2 (.lst [v,.bl true,.bl false])):=k2.trans (qi hl2).keep
   refine⟨l2,v,d,true,false,rfl,nl2,qd,zE k3 hd,sh,by omega,ln,rfl,?_⟩
   have e:∀x:Str,decide (V.str x=V.str x)=true:=λx=>decide_eq_true rfl
   rw[e]
   exact q _ k3
end
end Rh
set_option Elab.async false
set_option linter.all false
set_option maxRecDepth 100000
set_option maxHeartbeats 4000000
namespace Rh
open PySem L2 PyProof.Rows
theorem ja.keep {H H':Hp} {l:Addr} {ps:List Addr} {rs:j9} (h:ja H l ps rs) (s:jM H H'):ja H' l ps rs:=⟨s _ _ h.at_ (λ_ z=>nomatch z),h.rows.keep s,h.good,h.pos,h.le⟩
def Xo (CG:Addr):Sp:=λvs H Q _=>∃(g l m:Addr) (ps ps':List Addr) (rs rs':j9),vs=[.ref g,.ref l,.ref m]/\jT CG H g rs/\ja H l ps rs/\ja H m ps' rs'/\∀H',jM H H'->Q (.bl true) H'
structure yz (K:PySem.W.Frag) (mg:Str->Option Value):Prop where
 due:∃f fd,Qh K mg "_law_due" UY ["_law_rows_here"] f fd
 tab:∃f fd,Qh K mg "_law_table" Zm ["_law_rows_here"] f fd
 nr:∃f fd,Qh K mg "_law_names_right" xN kj f fd
 rr:∃f fd,Qh K mg "_law_rows_right" xM kj f fd
 dr:∃f fd,Qh K mg "_law_drawn_right" UZ xQ f fd
 rf:∃f fd,Qh K mg "_law_refused" Jb ["_law_ground","_law_thing"] f fd
 dw:∃f fd,Qh K mg "drawn" Zr ["ground"] f fd
 dwr:∃f fd,Qh K mg "drawn_row" Z1 ["ground","name"] f fd
section
variable {P:Program} {w:World} {K:PySem.W.Frag} {mg:Str->Option Value} {base:Heap}
abbrev nRt:List Str:=["_law_ground","_law_rows_here","_law_others","_law_due_here","_law_names_here","_law_odd","_law_thing"]
abbrev xO:List Str:=["_law_ground","_law_rows_here","_law_others"]
theorem Vg:qx nRt xO (qo zt):=⟨rfl,rfl,rfl,by decide+kernel,rfl,by decide+kernel,by decide+kernel⟩
theorem xm:(["_law_name","_law_leads_here"]:List Str).Nodup:=by decide+kernel
theorem xl:(["_law_name","_law_leads_here","_law_names_here"]:List Str).Nodup:=by decide+kernel
theorem VG {f CG D CP fP CH:Addr} {fd fdP:FuncData} (F:Qb K "_law_right" "_law_right" zt f fd) (B:J1 mg) (G:QE mg) (T:QD K mg) (S:zJ K) (M:GM K mg CG) (R3:xE K mg CG) (R:yz K mg)
   (xP:vS K mg D "NoPlace" "NoPlace.__init__" jS "found" CP fP fdP) (Z:vQ K mg D CP CH):FnOk P w K mg base jf 6 f fd xO (Xo CG):=by
 obtain⟨f1,fd1,h1⟩:=R.due
 obtain⟨f2,fd2,h2⟩:=R.tab
 obtain⟨f3,fd3,h3⟩:=R.nr
 obtain⟨f4,fd4,h4⟩:=R.rr
 obtain⟨f5,fd5,h5⟩:=R.dr
 obtain⟨f6,fd6,h6⟩:=R.rf
 obtain⟨f7,fd7,h7⟩:=R.dw
 obtain⟨f8,fd8,h8⟩:=R.dwr
 have G1:FnOk P w K mg base jf 1 f1 fd1 ["_law_rows_here"] ka:=k9 h1.fn
 have G3:FnOk P w K mg base jf 3 f3 fd3 kj (UO CG):=xj h3.fn B G T M
 have G4:FnOk P w K mg base jf 3 f4 fd4 kj (UO CG):=xi h4.fn B G T M R3
 have G5:FnOk P w K mg base jf 5 f5 fd5 xQ (kb CG):=ya h5.fn B G T M R3 h2 h7 h8
 have G6:FnOk P w K mg base jf 4 f6 fd6 ["_law_ground","_law_thing"] (ZZ K CG):=YV h6.fn B G T M xP Z
 refine F.okJ Vg (λvs H Q E h=>?_) (λcdv A outer s H vs Q E hr h=>?_)
 . obtain⟨g,l,m,ps,ps',rs,rs',rfl,_⟩:=h
   rfl
 . obtain⟨g,l,m,ps,ps',rs,rs',rfl,gr,ga,gm,q⟩:=h
   have r1:qU 1 _:=hr.mono (by decide)
   have r3:qU 3 _:=hr.mono (by decide)
   have r4:qU 4 _:=hr.mono (by decide)
   refine⟨_,qe (qB (i:=3) Vg.nd rfl (Or.inl rfl) (jg h1 G1 r1 (by rfl) (qb (jv 1) qf)))
     (qe (qQ (JW.pt (j6 (jz (jp (jg h3 G3 r3 (by rfl) (qb (jv 0) (qb (jv 3) qf))))) (j6 (jz (jp (jg h4 G4 r3 (by rfl) (qb (jv 0) (qb (jv 3) qf))))) (jE (jz (jp (jg h5 G5 hr (by rfl) (qb (jv 0) (qb (jv 1) qf))))))))) (qk (qC jh)) qz)
     (qe (qB (i:=4) Vg.nd rfl (Or.inr rfl) (jI (N':=["_law_name","_law_leads_here"]) (ix:=[none,none]) (g:=JB K 2 (ji (qT 0) (ji (qT 1) JD))) (te:=qV 0) rfl ⟨rfl,rfl,rfl,rfl,rfl⟩ (qA (jv 1)) (λC s2 H2 fp pins=>
       ⟨jF rfl (qy (qm (i:=0) xm rfl (Or.inl rfl)) (qy (qm (i:=1) xm rfl (Or.inl rfl)) jn)),qM,jv 0⟩)))
     (qe (qB (i:=5) Vg.nd rfl (Or.inl rfl) (jH (qb V2 (qb ql (qb jh (qb qL (qb qL (qb (jv 4) (qb (jc jx (by rfl) G.tup boot_tuple (qb (jv 4) qf)) (qb Jg (qb (qH Qx (jq jr (jv 4) ql (λ_ _=>rfl)) qL) (qb (qH Qx (jq jr (jv 4) ql (λ_ _=>rfl)) qL) qf))))))))))))
     (qe (jt PassesOwn.never rfl (qA (qH Jt (jv 5) (jI (N':=["_law_name","_law_leads_here","_law_names_here"]) (ix:=[none,none,some 4]) (g:=JB K 2 (ji (qT 0) (ji (qT 1) JD))) (tt:=zR (YE (kQ K true) (qV 0) (qV 2))) (te:=qV 0) rfl ⟨rfl,rfl,rfl,rfl,rfl⟩ (qA (jv 2)) (λC s2 H2 fp pins=>
       ⟨jF rfl (qy (qm (i:=0) xl rfl (Or.inl rfl)) (qy (qm (i:=1) xl rfl (Or.inl rfl)) jn)),Zb (qt Jd (jv 0) (jv 2) (by with_unfolding_all rfl)),jv 0⟩)))) (qm (i:=6) Vg.nd rfl (Or.inl rfl))
       (qk (qQ (jz (jp (jg h6 G6 r4 (by rfl) (qb (jv 0) (qb (jv 6) qf))))) (qk (qC jh)) qz)))
     (qk (qC jh)))))),?_⟩
   have good:=ga.good
   have le14:=ga.le
   have pos:=ga.pos
   have nmz:∀z∈rs.map (·.1),qD z=true:=λz hz=>by
     obtain⟨r',hr',rfl⟩:=List.mem_map.mp hz
     exact good.nm r' hr'
   refine⟨_,rfl,l,ps,rs,rfl,ga,λL qs H1 s1 nL hL1 dat=>?_⟩
   refine⟨_,rfl,_,rfl,g,L,qs,rs,rfl,gr.mono s1,good,le14,hL1,dat,λH2 s2=>⟨_,rfl,jm ?_⟩⟩
   refine⟨_,rfl,_,rfl,g,L,qs,rs,rfl,(gr.mono s1).mono s2,good,le14,s2 _ _ hL1,dat.mono s2,λH3 s3=>⟨_,rfl,jm ?_⟩⟩
   have s03:Same H H3:=s1.trans (s2.trans s3)
   refine⟨_,rfl,_,rfl,g,l,ps,rs,rfl,gr.mono s03,ga.mono s03,λH4 s4=>⟨_,rfl,jm ?_⟩⟩
   have s04:=s03.trans s4
   have ga4:=ga.mono s04
   refine⟨_,rfl,l,rfl,⟨_,.of ga4.at_⟩,λln hln=>?_⟩
   refine qK (K:=K) (a:=l) (xs:=ps.map V.ref) (λj σ' X=>∃v0 v1,σ'=[v0,v1]/\X=upd H4 ln (.lst (((rs.take j).map (·.1)).map V.str))) ⟨none,none,rfl,rfl⟩ (λj σ' X _ ⟨_,_,_,e⟩=>e▸.of (qh ga4.at_ hln)) ?_ ?_
   . rintro j y σ' X hy ⟨v0,v1,rfl,rfl⟩
     obtain⟨p',q',r',rfl,er,hr',ea,eb⟩:=ga4.rows.item hy
     have hi:=(List.getElem?_eq_some_iff.mp er).1
     refine⟨p',_,rfl,.of (qh ea hln),rfl,_,_,rfl,_,_,rfl,rfl,_,rfl,_,qd,?_,_,_,rfl,?_⟩
     . rw[List.length_map,List.length_map,List.length_take]
       exact qj (by omega)
     . rw[qR,List.take_add_one,er,List.map_append,List.map_append]
       rfl
   rintro σ' X ⟨v0,v1,rfl,rfl⟩
   have e0:rs.take (ps.map V.ref).length=rs:=List.take_of_length_le (by rw[List.length_map,ga.rows.1];exact Nat.le_refl _)
   rw[e0]
   have sN:Same H (upd H4 ln (.lst ((rs.map (·.1)).map V.str))):=s04.trans (qi hln)
   have hN:upd H4 ln (.lst ((rs.map (·.1)).map V.str)) ln=some (.lst ((rs.map (·.1)).map V.str)):=qd
   generalize upd H4 ln (.lst ((rs.map (·.1)).map V.str))=GN at sN hN
   have l14:(rs.map (·.1)).length<=14:=by rw[List.length_map];exact le14
   have h0:0 < (rs.map (·.1)).length:=by rw[List.length_map];exact pos
   have nz0:=nmz _ (Xg h0)
   have z08:=(jy nz0).2.1
   refine⟨_,rfl,_,rfl,ln,_,rfl,.inl ⟨.of hN,λlt hlt de hde=>?_⟩⟩
   have sT:Same GN (upd (upd GN lt (.tup ((rs.map (·.1)).map V.str))) de (.dK [])):=(qi hlt).trans (qi hde)
   have hT:upd (upd GN lt (.tup ((rs.map (·.1)).map V.str))) de (.dK []) lt=some (.tup ((rs.map (·.1)).map V.str)):=qh qd hde
   have hE:upd (upd GN lt (.tup ((rs.map (·.1)).map V.str))) de (.dK []) de=some (.dK []):=qd
   generalize upd (upd GN lt (.tup ((rs.map (·.1)).map V.str))) de (.dK [])=GT' at sT hT hE
   have e8:(Str.ofString "zzzzzzzz").length=8:=by decide+kernel
   have e1:(Str.ofString " ").length=1:=by decide+kernel
   refine⟨_,rfl,ln,_,0,.str (QL (rs.map (·.1)) 0),rfl,rfl,.of (sT _ _ hN),Xf h0,_,_,rfl,rfl,by rw[e1];exact Nat.le_of_lt (qj (by omega)),_,rfl,ln,_,0,.str (QL (rs.map (·.1)) 0),rfl,rfl,.of (sT _ _ hN),Xf h0,_,_,rfl,rfl,by rw[e8];exact Nat.le_of_lt (qj (by omega)),by show 10<=sizeLine;decide,λlo hlo=>?_⟩
   have sO:Same GN (upd GT' lo (.lst [.non,.int 0,.bl true,.str (Str.ofString ""),.str (Str.ofString "Aa"),.ref ln,.ref lt,.ref de,.str (QL (rs.map (·.1)) 0++Str.ofString " "),.str (QL (rs.map (·.1)) 0++Str.ofString "zzzzzzzz")])):=sT.trans (qi hlo)
   have sO2:Same GT' (upd GT' lo (.lst [.non,.int 0,.bl true,.str (Str.ofString ""),.str (Str.ofString "Aa"),.ref ln,.ref lt,.ref de,.str (QL (rs.map (·.1)) 0++Str.ofString " "),.str (QL (rs.map (·.1)) 0++Str.ofString "zzzzzzzz")])):=qi hlo
   have hO':upd GT' lo (.lst [.non,.int 0,.bl true,.str (Str.ofString ""),.str (Str.ofString "Aa"),.ref ln,.ref lt,.ref de,.str (QL (rs.map (·.1)) 0++Str.ofString " "),.str (QL (rs.map (·.1)) 0++Str.ofString "zzzzzzzz")]) lo=some (.lst [.non,.int 0,.bl true,.str (Str.ofString ""),.str (Str.ofString "Aa"),.ref ln,.ref lt,.ref de,.str (QL (rs.map (·.1)) 0++Str.ofString " "),.str (QL (rs.map (·.1)) 0++Str.ofString "zzzzzzzz")]):=qd
   generalize upd GT' lo (.lst [.non,.int 0,.bl true,.str (Str.ofString ""),.str (Str.ofString "Aa"),.ref ln,.ref lt,.ref de,.str (QL (rs.map (·.1)) 0++Str.ofString " "),.str (QL (rs.map (·.1)) 0++Str.ofString "zzzzzzzz")])=GO' at sO sO2 hO'
   have hT2:=sO2 _ _ hT
   have hE2:=sO2 _ _ hE
   have odd:∀y∈[V.non,.int 0,.bl true,.str (Str.ofString ""),.str (Str.ofString "Aa"),.ref ln,.ref lt,.ref de,.str (QL (rs.map (·.1)) 0++Str.ofString " "),.str (QL (rs.map (·.1)) 0++Str.ofString "zzzzzzzz")],Od K GO' (rs.map (·.1)) y:=λy hy=>by
     simp only[List.mem_cons,List.mem_nil_iff,or_false]at hy
     rcases hy with rfl | rfl | rfl | rfl | rfl | rfl | rfl | rfl | rfl | rfl
     . exact(vi S).od
     . exact(VO S).od
     . exact(VP S).od
     . exact Wq.od
     . exact yd.od
     . exact(vj S (sO _ _ hN) nmz l14).od
     . exact(vh S hT2 nmz l14).od
     . exact(vm S hE2).od
     . exact(yc nz0).od
     . exact(yb nz0).od
   have l10:[V.non,.int 0,.bl true,.str (Str.ofString ""),.str (Str.ofString "Aa"),.ref ln,.ref lt,.ref de,.str (QL (rs.map (·.1)) 0++Str.ofString " "),.str (QL (rs.map (·.1)) 0++Str.ofString "zzzzzzzz")].length=10:=rfl
   generalize [V.non,.int 0,.bl true,.str (Str.ofString ""),.str (Str.ofString "Aa"),.ref ln,.ref lt,.ref de,.str (QL (rs.map (·.1)) 0++Str.ofString " "),.str (QL (rs.map (·.1)) 0++Str.ofString "zzzzzzzz")]=xs at hO' odd l10
   have s0O:=sN.trans sO
   have gm5:=gm.mono s0O
   have hNO:=sO _ _ hN
   have goodm:=gm.good
   have lm14:=gm.le
   refine⟨_,rfl,_,rfl,m,rfl,⟨_,.of gm5.at_⟩,λU hU=>?_⟩
   refine qK (K:=K) (a:=m) (xs:=ps'.map V.ref) (λj σ' X=>∃v0 v1,σ'=[v0,v1,some (.ref ln)]/\X=upd GO' U (.lst ((((rs'.take j).map (·.1)).filter λz=> !QI (.str z) ((rs.map (·.1)).map V.str)).map V.str))) ⟨none,none,rfl,rfl⟩ (λj σ' X _ ⟨_,_,_,e⟩=>e▸.of (qh gm5.at_ hU)) ?_ ?_
   . rintro j y σ' X hy ⟨v0,v1,rfl,rfl⟩
     obtain⟨p',q',r,rfl,er,hr',ea,eb⟩:=gm5.rows.item hy
     have hi:=(List.getElem?_eq_some_iff.mp er).1
     refine⟨p',_,rfl,.of (qh ea hU),rfl,_,_,rfl,_,_,rfl,rfl,_,rfl,_,rfl,ln,_,rfl,.inl (.of (qh hNO hU)),rfl,j3 _,_,rfl,?_⟩
     have et:((rs'.take (j+1)).map (·.1)).filter (λz=> !QI (.str z) ((rs.map (·.1)).map V.str))=((rs'.take j).map (·.1)).filter (λz=> !QI (.str z) ((rs.map (·.1)).map V.str))++if (!QI (.str r.1) ((rs.map (·.1)).map V.str))=true then [r.1] else []:=by
       rw[List.take_add_one,er,List.map_append,List.filter_append]
       congr 1
       show [r.1].filter (λz=> !QI (.str z) ((rs.map (·.1)).map V.str))=_
       rw[List.filter_cons]
       rfl
     rw[et]
     show if (!QI (.str r.1) ((rs.map (·.1)).map V.str))=true then _ else _
     cases ei: !QI (.str r.1) ((rs.map (·.1)).map V.str) with
     | true=>
       refine QX ⟨_,rfl,_,qd,?_,_,_,rfl,?_⟩
       . rw[List.length_map]
         refine qj (Nat.le_trans (List.length_filter_le _ _) ?_)
         rw[List.length_map,List.length_take]
         omega
       . rw[qR,if_pos rfl,List.map_append]
         rfl
     | false=>
       refine jm ⟨_,_,rfl,?_⟩
       rw[if_neg Bool.false_ne_true,List.append_nil]
   . rintro σ' X ⟨v0,v1,rfl,rfl⟩
     have e2:rs'.take (ps'.map V.ref).length=rs':=List.take_of_length_le (by rw[List.length_map,gm.rows.1];exact Nat.le_refl _)
     rw[e2]
     have lfl:((rs'.map (·.1)).filter λz=> !QI (.str z) ((rs.map (·.1)).map V.str)).length<=14:=Nat.le_trans (List.length_filter_le _ _) (by rw[List.length_map];exact lm14)
     have inF:∀z∈(rs'.map (·.1)).filter (λz=> !QI (.str z) ((rs.map (·.1)).map V.str)),qD z=true/\z∉rs.map (·.1):=λz hz=>by
       obtain⟨a,b⟩:=List.mem_filter.mp hz
       obtain⟨r,hr',rfl⟩:=List.mem_map.mp a
       refine⟨goodm.nm r hr',λc=>?_⟩
       rw[Zd.mpr c]at b
       cases b
     generalize (rs'.map (·.1)).filter (λz=> !QI (.str z) ((rs.map (·.1)).map V.str))=es at lfl inF
     have sU:Same GO' (upd GO' U (.lst (es.map V.str))):=qi hU
     have hU1:upd GO' U (.lst (es.map V.str)) U=some (.lst (es.map V.str)):=qd
     generalize upd GO' U (.lst (es.map V.str))=GU at sU hU1
     refine⟨lo,U,_,_,rfl,rfl,sU _ _ hO',hU1,Nat.le_of_lt (qj (by rw[List.length_map];omega)),λlx hlx=>⟨lx,rfl,⟨_,.of qd⟩,?_⟩⟩
     have sX:Same GO' (upd GU lx (.lst (xs++es.map V.str))):=sU.trans (qi hlx)
     have hX:upd GU lx (.lst (xs++es.map V.str)) lx=some (.lst (xs++es.map V.str)):=qd
     generalize upd GU lx (.lst (xs++es.map V.str))=GX at sX hX
     have all:∀y∈xs++es.map V.str,Od K GX (rs.map (·.1)) y:=λy hy=>by
       rcases List.mem_append.mp hy with hy | hy
       . exact(odd y hy).keep sX.keep
       . obtain⟨z,hz,rfl⟩:=List.mem_map.mp hy
         obtain⟨a,b⟩:=inF z hz
         exact vn a b
     have grX:jT CG GX g rs:=(gr.mono s0O).mono sX
     refine jw (K:=K) (a:=lx) (xs:=xs++es.map V.str) (λj σ' G'=>∃w6,σ'=[some (.ref g),some (.ref l),some (.ref m),some (.ref L),some (.ref ln),some (.ref lo),w6]/\jM GX G') ⟨_,rfl,jM.refl _⟩ (λj σ' G' _ ⟨_,_,k⟩=>.of (k _ _ hX (λ_ z=>nomatch z))) ?_ ?_
     . rintro j y σ' G' hy ⟨w6,rfl,kG⟩
       refine⟨_,rfl,_,rfl,g,rs,y,rfl,grX.keep kG,(all y (List.mem_of_getElem? hy)).keep kG,λG'' kG'=>⟨_,rfl,jm ?_⟩⟩
       exact⟨_,rfl,kG.trans kG'⟩
     . rintro σ' G' ⟨w6,rfl,kG⟩
       exact q G' ((s0O.trans sX).keep.trans kG)
end
end Rh
set_option Elab.async false
set_option linter.all false
set_option maxRecDepth 100000
set_option maxHeartbeats 4000000
namespace Rh
open PySem L2 PyProof.Rows
def Xr (K:PySem.W.Frag):Sp:=λvs H Q _=>∃(a:Addr) (ns:List Int),vs=[.ref a]/\SqL K H a (ns.map V.int)/\ns.length<=63/\∀H',Q (.bl true) H'
structure xG (K:PySem.W.Frag) (mg:Str->Option Value):Prop where
 cell:∃f fd,Qh K mg "_law_cell_at" Xx ["_law_script","_law_k"] f fd
 source:∃f fd,Qh K mg "_law_source" J4 ["_law_cell"] f fd
 take:∃f fd,Qh K mg "_law_take" Zl ["_law_source_here","_law_many"] f fd
 names:∃f fd,Qh K mg "_law_names" Zn ["_law_source_here","_law_many"] f fd
 leads:∃f fd,Qh K mg "_law_leads" Zo Zu f fd
 rows:∃f fd,Qh K mg "_law_rows" Xu ["_law_source_here","_law_most"] f fd
 need:∃f fd,Qh K mg "need_rows" zV ["rows"] f fd
 right:∃f fd,Qh K mg "_law_right" zt xO f fd
theorem xr {r:Int} (h0:0<=r) (h1:r < 4):∃mo:Nat,Y9 [V.int 5,.int 9,.int 14,.int 14] r=some (.int (mo:Int))/\0 < mo/\mo<=14:=by
 have:r=0\/r=1\/r=2\/r=3:=by omega
 rcases this with rfl | rfl | rfl | rfl
 . exact⟨5,rfl,by decide,by decide⟩
 . exact⟨9,rfl,by decide,by decide⟩
 . exact⟨14,rfl,by decide,by decide⟩
 . exact⟨14,rfl,by decide,by decide⟩
def Uy (CG D:Addr) (H:Hp) (a:Addr) (rs:j9):Prop:=∃(dx lo rd:Addr) (kvs:List (qO×V)),H a=some (.ins CG dx [("order",.ref lo),("roads",.ref rd)])/\H lo=some (.lst ((rs.map (·.1)).map V.str))/\(H rd=some (.dK kvs)/\kvs.map (·.1)=(rs.map (·.1)).map Sum.inr)/\
 (∀r∈rs,∃q,jo kvs (Sum.inr r.1)=some (.ref q)/\H q=some (.lst ((jb rs r).map V.str))/\q≠D)/\lo≠D/\rd≠D
theorem Uy.gr {CG D:Addr} {H:Hp} {a:Addr} {rs:j9} (h:Uy CG D H a rs):jT CG H a rs:=let ⟨dx,lo,rd,kvs,h1,h2,h3,h4,_⟩:=h;⟨dx,lo,rd,kvs,h1,h2,h3,λr hr=>let ⟨q,a,b,_⟩:=h4 r hr;⟨q,a,b⟩⟩
theorem Uy.mono {CG D:Addr} {H H':Hp} {a:Addr} {rs:j9} (h:Uy CG D H a rs) (s:Same H H'):Uy CG D H' a rs:=let ⟨dx,lo,rd,kvs,h1,h2,h3,h4,h5⟩:=h;⟨dx,lo,rd,kvs,s _ _ h1,s _ _ h2,⟨s _ _ h3.1,h3.2⟩,λr hr=>let ⟨q,a,b,c⟩:=h4 r hr;⟨q,a,s _ _ b,c⟩,h5⟩
theorem Uy.off {CG D:Addr} {H:Hp} {a:Addr} {rs:j9} {o:HO} (h:Uy CG D H a rs) (na:a≠D):Uy CG D (upd H D o) a rs:=by
 obtain⟨dx,lo,rd,kvs,h1,h2,h3,h4,h5,h6⟩:=h
 exact⟨dx,lo,rd,kvs,by rw[qg na];exact h1,by rw[qg h5];exact h2,⟨by rw[qg h6];exact h3.1,h3.2⟩,λr hr=>let ⟨q,a,b,c⟩:=h4 r hr;⟨q,a,by rw[qg c];exact b,c⟩,h5,h6⟩
theorem wF.off {CG D:Addr} {H0 H:Hp} {a:Addr} {rs:j9} {u:HO} (h:wF CG H0 H a rs) (hD:H0 D=some u):Uy CG D H a rs:=by
 obtain⟨dx,lo,rd,kvs,h1,h2,h3,h4,h5,h6⟩:=h
 have n:∀{b:Addr},H0 b=none->b≠D:=λ{b} hb e=>by rw[e,hD]at hb;cases hb
 exact⟨dx,lo,rd,kvs,h1,h2,h3,λr hr=>let ⟨q,a,b,c⟩:=h4 r hr;⟨q,a,b,n c⟩,n h5,n h6⟩
theorem jT.offL {CG h p:Addr} {H:Hp} {a:Addr} {rs:j9} {t:List V} {o:HO} (g:jT CG H a rs) (hh:H h=some (.lst (.ref p::t))):jT CG (upd H h o) a rs:=by
 obtain⟨dx,lo,rd,kvs,h1,h2,h3,h4⟩:=g
 have n:∀{b:Addr} {zs:List Str},H b=some (.lst (zs.map V.str))->b≠h:=λ{b zs} hb e=>by
   rw[e,hh]at hb
   have:=HO.lst.inj (Option.some.inj hb)
   cases zs with
   | nil=>cases this
   | cons z zs=>cases (List.cons.inj this).1
 refine⟨dx,lo,rd,kvs,?_,?_,⟨?_,h3.2⟩,λr hr=>?_⟩
 . rw[qg (λe=>by rw[e,hh]at h1;cases h1)];exact h1
 . rw[qg (n h2)];exact h2
 . rw[qg (λe=>by have:=h3.1;rw[e,hh]at this;cases this)];exact h3.1
 . obtain⟨q,a,b⟩:=h4 r hr
   exact⟨q,a,by rw[qg (n b)];exact b⟩
abbrev Md:=Addr×List Addr×j9
def Uw (H:Hp) (ts:List Md):Prop:=∀t∈ts,ja H t.1 t.2.1 t.2.2
theorem Uw.mono {H H':Hp} {ts:List Md} (h:Uw H ts) (s:Same H H'):Uw H' ts:=λt ht=>(h t ht).mono s
theorem ja.off {H:Hp} {l D:Addr} {ps:List Addr} {rs:j9} {xs:List V} {o:HO} (h:ja H l ps rs) (hD:H D=some (.lst xs)) (n:l≠D):ja (upd H D o) l ps rs:=⟨by rw[qg n];exact h.at_,h.rows.upd_lst hD,h.good,h.pos,h.le⟩
def j5 (ts:List Md):List V:=ts.map λt=>V.ref t.1
def ZI (rs:j9):PyData:=.list (rs.map Yk)
theorem ZP {K:PySem.W.Frag} {H:Hp}:∀{ts:List Md} {hs:List Addr},hs.length=ts.length->(∀(i:Nat) (h:Addr) (t:Md),hs[i]?=some h->ts[i]?=some t->H h=some (.lst (t.2.1.map V.ref))/\qF H t.2.1 t.2.2)->DVs K H (hs.map V.ref) (ts.map λt=>ZI t.2.2)
 | [],[],_,_=>.nil
 | [],_::_,h,_=>by cases h
 | _::_,[],h,_=>by cases h
 | t::ts,h::hs,l,k=>by
   obtain⟨a,b⟩:=k 0 h t rfl rfl
   exact .cons (.lst (.of a) (Qr b)) (ZP (Nat.succ.inj l) λi h' t' e1 e2=>k (i+1) h' t' (by simpa using e1) (by simpa using e2))
theorem Yn:∀{rs:j9},(∀r∈rs,qD r.1=true/\∀z∈r.2,qD z=true)->PyData.canLayAll0 (rs.map Yk)=true
 | [],_=>rfl
 | r::rs,h=>by
   rw[List.map_cons,PyData.canLayAll0,Yn λy hy=>h y (List.mem_cons_of_mem _ hy),Bool.and_true]
   obtain⟨h1,h2⟩:=h r List.mem_cons_self
   show (PyData.strOk r.1&&(PyData.canLayAll0 (r.2.map PyData.str)&&true))=true
   rw[XE h1,yv h2]
   rfl
theorem Yi:∀(rs:j9),PyData.depthAll (rs.map Yk)<=2
 | []=>by decide
 | r::rs=>by
   have:=Yi rs
   rw[List.map_cons]
   simp only[PyData.depthAll,PyData.depth,Yk,Up]
   omega
theorem Yo:∀{ts:List Md},(∀t∈ts,qN t.2.2)->PyData.canLayAll0 (ts.map λt=>ZI t.2.2)=true
 | [],_=>rfl
 | t::ts,h=>by
   rw[List.map_cons,PyData.canLayAll0,Yo λy hy=>h y (List.mem_cons_of_mem _ hy),Bool.and_true]
   have g:=h t List.mem_cons_self
   exact Yn λr hr=>⟨g.nm r hr,g.names r hr⟩
theorem Yj:∀(ts:List Md),PyData.depthAll (ts.map λt=>ZI t.2.2)<=3
 | []=>by decide
 | t::ts=>by
   have h1:=Yj ts
   have h2:(ZI t.2.2).depth<=3:=by
     have:=Yi t.2.2
     unfold ZI
     simp only[PyData.depth]
     omega
   rw[List.map_cons,PyData.depthAll]
   omega
theorem UR {ts:List Md} (h:∀t∈ts,qN t.2.2):PySem.SeqAt.shaped (.list (ts.map λt=>ZI t.2.2))=true:=by
 unfold PySem.SeqAt.shaped
 rw[Bool.and_eq_true]
 refine⟨Yo h,decide_eq_true ?_⟩
 have:=Yj ts
 simp only[PyData.depth]
 omega
abbrev y7 (K:PySem.W.Frag):List V->Hp->VK->Prop:=λxs H Q=>∃p ys,xs=[.ref p]/\(SqL K H p ys\/SqT K H p ys)/\∀l,H l=none->Q (.ref l) (upd H l (.lst ys))
theorem Wt {ts:List Md} {i:Nat} {y:V} (h:(j5 ts)[i]?=some y):∃t,ts[i]?=some t/\t∈ts/\y=.ref t.1:=by
 unfold j5 at h
 rw[List.getElem?_map]at h
 cases e:ts[i]? with
 | none=>rw[e]at h;cases h
 | some t=>rw[e]at h;exact⟨t,rfl,List.mem_of_getElem? e,(Option.some.inj h).symm⟩
theorem z6 {X:Hp} {l2 D:Addr} {ps:List Addr} {rs:j9} {CG:Addr} {R:Hp->Prop} {u:HO} (hl:X l2=some (.lst (ps.map V.ref))) (rat:qF X ps rs) (good:qN rs) (pos:0 < rs.length) (le14:rs.length<=14) (hD:X D=some u)
   {x dx:Addr} (hx:X x=none) (hdx:X dx=none) (ndx:dx≠x) {E:XK} (k:∀H4,Same X H4->Uy CG D H4 x rs->R H4):
   J2 CG [.ref x,.ref l2] (upd (upd X dx (.own x)) x (.ins CG dx [])) (λv H'=>v=.non/\R H') E:=by
 have s3:Same X (upd (upd X dx (.own x)) x (.ins CG dx [])):=λb u hb=>by
   rw[qg (qu hb hx),qg (qu hb hdx)]
   exact hb
 refine⟨x,dx,l2,ps,rs,rfl,⟨s3 _ _ hl,rat.mono s3,good,pos,le14⟩,qd,λH4 gr fr4=>⟨rfl,k H4 (λb u hb=>fr4 b u (s3 _ _ hb) (qu hb hx)) (gr.off (s3 _ _ hD))⟩⟩
section
variable {P:Program} {w:World} {K:PySem.W.Frag} {mg:Str->Option Value} {base:Heap}
abbrev wm:List Str:=["_law_script","_law_made","_law_k","_law_source_here","_law_handed","_law_grounds","_law_rows_here"]
theorem JL:qx wm ["_law_script"] (qo zu):=⟨rfl,rfl,rfl,by decide+kernel,rfl,by decide+kernel,by decide+kernel⟩
theorem k7 {f CG D CP fP CH:Addr} {fd fdP:FuncData} (F:Qb K "law" "law" zu f fd) (B:J1 mg) (G:QE mg) (T:QD K mg) (S:zJ K) (N:vR K mg) (M:GM K mg CG) (R3:xE K mg CG) (R:yz K mg) (Z:xG K mg)
   (xP:vS K mg D "NoPlace" "NoPlace.__init__" jS "found" CP fP fdP) (ZE:vQ K mg D CP CH):FnOk P w K mg base jf 8 f fd ["_law_script"] (Xr K):=by
 obtain⟨fO,fdO,hO⟩:=Z.cell
 obtain⟨fL,fdL,hL⟩:=Z.source
 obtain⟨fT,fdT,hT⟩:=Z.take
 obtain⟨fN,fdN,hN⟩:=Z.names
 obtain⟨fD,fdD,hD⟩:=Z.leads
 obtain⟨fR,fdR,hR⟩:=Z.rows
 obtain⟨fW,fdW,hW⟩:=Z.need
 obtain⟨fr,fdr,hrt⟩:=Z.right
 obtain⟨fI,fdI,C⟩:=M.cls
 have GO:FnOk P w K mg base jf 1 fO fdO ["_law_script","_law_k"] (Va K):=vf hO.fn B
 have GL:FnOk P w K mg base jf 1 fL fdL ["_law_cell"] zT:=Wl hL.fn B
 have GT:FnOk P w K mg base jf 1 fT fdT ["_law_source_here","_law_many"] Zj:=J5 hT.fn
 have GR:FnOk P w K mg base jf 3 fR fdR ["_law_source_here","_law_most"] W7:=va hR.fn B G hT hN hD
 have GI:FnOk P w K mg base jf 6 fI fdI ["self","rows"] (J2 CG):=VM C B G T N hW
 have Gr:FnOk P w K mg base jf 6 fr fdr xO (Xo CG):=VG hrt.fn B G T S M R3 R xP ZE
 refine F.okJ JL (λvs H Q E z=>?_) (λcdv A outer s H vs Q E hr z=>?_)
 . obtain⟨a,ns,rfl,_⟩:=z
   rfl
 . obtain⟨a,ns,rfl,hq,hlen,k⟩:=z
   have r1:qU 1 _:=hr.mono (by decide)
   have r3:qU 3 _:=hr.mono (by decide)
   have r6:qU 6 _:=hr.mono (by decide)
   refine⟨_,qe (qB (i:=1) JL.nd rfl (Or.inl rfl) (jH qf))
     (qe (jt PassesOwn.never rfl (j2 (by rfl) B.rng (qb ql qf)) (qm (i:=2) JL.nd rfl (Or.inl rfl))
       (qe (qB (i:=3) JL.nd rfl (Or.inl rfl) (jg hL GL r1 (by rfl) (qb (jg hO GO r1 (by rfl) (qb (jv 0) (qb (jv 2) qf))) qf)))
       (qk (qX (Jh PySem.F.plainAttrs_list PySem.F.slot_list_append PySem.F.type_list_append jk (jv 1) (qb (jg hR GR r3 (by rfl) (qb (jv 3) (qb (jq jr (jH (qb ql (qb ql (qb ql (qb ql qf))))) (jg hT GT r1 (by rfl) (qb (jv 3) (qb ql qf))) (λ_ _=>rfl)) qf))) qf))))))
     (qe (Qo (i:=4) (N':=["_law_rows_here"]) (ix:=[none]) (te:=W4 (y7 K) (qS (qV 0) j4)) JL.nd rfl (Or.inl rfl) rfl ⟨rfl,rfl,rfl,rfl,rfl⟩ (qA (jv 1)) (λC s2 H2 fp pins=>
         ⟨qm (i:=0) (kl _) rfl (Or.inl rfl),qM,jc QA (by rfl) G.lst boot_list (qb (jv 0) qf)⟩))
     (qe (Qo (i:=5) (N':=["_law_rows_here"]) (ix:=[none]) (te:=vU CG (J2 CG) [] E0 (qS (qV 0) j4)) JL.nd rfl (Or.inl rfl) rfl ⟨rfl,rfl,rfl,rfl,rfl⟩ (qA (jv 4)) (λC' s2 H2 fp pins=>
         ⟨qm (i:=0) (kl _) rfl (Or.inl rfl),qM,vC C.mkr GI hr (by rfl) C.ns C.bi .nil zX (qb (jv 0) qf)⟩))
     (qe (qQ (qt (zx hr.units) (jv 4) (jv 1) (qv _)) (qk (qC jh)) qz)
     (qe (jt PassesOwn.never rfl (qA (jv 4)) (qm (i:=6) JL.nd rfl (Or.inl rfl))
       (qk (qX (Jh PySem.F.plainAttrs_list PySem.F.slot_list_append PySem.F.type_list_append jk (jv 6) (qb (jG (qb qL (qb (jG qf) qf))) qf)))))
     (qe (jt PassesOwn.never rfl (qA (jH (qb ql (qb ql (qb ql qf))))) (qm (i:=2) JL.nd rfl (Or.inl rfl))
       (qk (qQ (jz (jp (jg hrt Gr r6 (by rfl) (qb (jq jr (jv 5) (jv 2) (λ_ _=>rfl)) (qb (jq jr (jv 1) (jv 2) (λ_ _=>rfl)) (qb (jq jr (jv 1) (qH VB ql (jv 2)) (λ_ _=>rfl)) qf)))))) (qk (qC jh)) qz)))
     (qk (qC jh)))))))),?_⟩
   refine⟨by show 0<=sizeLine;decide,λL hLn=>?_⟩
   have sL0:Same H (upd H L (.lst [])):=qi hLn
   have keepA:∀(X:Hp) (o:HO),SqL K X a (ns.map V.int)->SqL K (upd X L o) a (ns.map V.int):=by
     have off:a≠L->∀(X:Hp) (o:HO),SqL K X a (ns.map V.int)->SqL K (upd X L o) a (ns.map V.int):=λn X o h=>by
       rcases h with (h | ⟨o',h⟩) | h
       . exact .inl (.inl (by rw[qg n];exact h))
       . exact .inl (.inr ⟨o',by rw[qg n];exact h⟩)
       . exact .inr h
     rcases hq with (h | ⟨o,h⟩) | h
     . exact off λe=>by rw[e,hLn]at h;cases h
     . exact off λe=>by rw[e,hLn]at h;cases h
     . exact λ_ _ _=>.inr h
   refine⟨2,rfl,by decide,by decide,?_⟩
   refine QV (λi σ X=>∃(v2 v3:Option V) (ts:List Md),σ=[some (.ref a),some (.ref L),v2,v3,none,none,none]/\ts.length=i/\SqL K X a (ns.map V.int)/\X L=some (.lst (j5 ts))/\Uw X ts/\∀t∈ts,t.1≠L) ⟨_,_,[],rfl,rfl,sL0.seq hq,qd,(λ_ h=>nomatch h),(λ_ h=>nomatch h)⟩ ?_ ?_
   . rintro i σ H' hi ⟨v2,v3,ts,rfl,lts,hq2,hL1,md,nL⟩
     have hi:i < 2:=by simpa using hi
     refine⟨_,rfl,_,rfl,a,ns,_,rfl,hq2,by omega,λc=>⟨c,rfl,λd n sd hd=>?_⟩⟩
     have sd0:Same H' (upd H' d (.dK (jR n sd 0))):=qi hd
     refine⟨_,rfl,.inl ⟨rfl,_,.of (sd0 _ _ hL1)⟩,_,rfl,by show 4<=sizeLine;decide,λlp hlp=>?_⟩
     have ndp:lp≠d:=λe=>by rw[e,qd]at hlp;cases hlp
     refine⟨_,rfl,d,4,n,sd,0,rfl,qh qd hlp,by decide,by decide,λr n1 t1 r0 r1'=>?_⟩
     obtain⟨mo,em,m0,m14⟩:=xr r0 r1'
     refine⟨lp,_,r,_,rfl,rfl,.of (by rw[qg ndp];exact qd),em,d,mo,n1,sd,t1,rfl,qd,m0,m14,λl ps rs n2 t2 H2 hl hl2 rat good pos le hd2 fr2=>?_⟩
     have hlp':H' lp=none:=by rw[qg ndp]at hlp;exact hlp
     have keep:∀b u,H' b=some u->upd (upd (upd H' d (.dK (jR n sd 0))) lp (.lst [.int 5,.int 9,.int 14,.int 14])) d (.dK (jR n1 sd t1)) b=some u:=λb u hb=>by
       have nb:b≠d:=qu hb hd
       rw[qg nb,qg (qu hb hlp'),qg nb]
       exact hb
     have sm:Same H' H2:=λb u hb=>fr2 b u (keep b u hb) (qu hb hd)
     have nlL:l≠L:=λe=>by rw[e,keep _ _ hL1]at hl;cases hl
     have hL2:=sm _ _ hL1
     have g2:ja H2 l ps rs:=⟨hl2,rat,good,pos,Nat.le_trans le m14⟩
     refine⟨L,_,_,rfl,rfl,hL2,by show (j5 ts).length < sizeLine;unfold j5;rw[List.length_map];exact qj (by omega),?_⟩
     refine⟨_,_,ts++[(l,ps,rs)],rfl,by rw[List.length_append,lts];rfl,?_,?_,?_,?_⟩
     . exact keepA _ _ (sm.seq hq2)
     . unfold j5
       rw[List.map_append]
       exact qd
     . intro t ht
       rcases List.mem_append.mp ht with ht | ht
       . exact((md t ht).mono sm).off hL2 (nL t ht)
       . rw[List.mem_singleton.mp ht]
         exact g2.off hL2 nlL
     . intro t ht
       rcases List.mem_append.mp ht with ht | ht
       . exact nL t ht
       . rw[List.mem_singleton.mp ht]
         exact nlL
   . rintro σ H1 ⟨v2,v3,ts,rfl,lts,_,hL1,md,nL⟩
     have lts:ts.length=2:=lts
     have gd:∀t∈ts,qN t.2.2:=λt ht=>(md t ht).good
     refine⟨_,rfl,L,rfl,⟨_,.of hL1⟩,λLd hLd=>?_⟩
     refine qK (K:=K) (a:=L) (xs:=j5 ts) (λj σ' X=>∃(v:Option V) (hs:List Addr),σ'=[v]/\Same H1 X/\X Ld=some (.lst (hs.map V.ref))/\hs.length=j/\∀(i:Nat) (h:Addr) (t:Md),hs[i]?=some h->ts[i]?=some t->X h=some (.lst (t.2.1.map V.ref))/\H1 h=none/\h≠Ld)
       ⟨none,[],rfl,qi hLd,qd,rfl,λi h t e=>(nomatch e)⟩ (λj σ' X _ ⟨_,_,_,s,_⟩=>.of (s _ _ hL1)) ?_ ?_
     . rintro j y σ' X hy ⟨v,hs,rfl,sX,hX,lhs,ah⟩
       obtain⟨t,et,ht,rfl⟩:=Wt hy
       have hj:=(List.getElem?_eq_some_iff.mp et).1
       refine⟨_,rfl,t.1,_,rfl,.inl (.of (sX _ _ (md t ht).at_)),λh hh=>?_⟩
       have s1:Same X (upd X h (.lst (t.2.1.map V.ref))):=qi hh
       have h1:upd X h (.lst (t.2.1.map V.ref)) h=some (.lst (t.2.1.map V.ref)):=qd
       have nh:H1 h=none:=jj sX hh
       have nhd:h≠Ld:=λe=>by rw[e,hX]at hh;cases hh
       generalize upd X h (.lst (t.2.1.map V.ref))=X1 at s1 h1
       refine⟨_,s1 _ _ hX,by rw[List.length_map];exact qj (by omega),_,hs++[h],rfl,Same.upd (sX.trans s1) hLd,by rw[List.map_append];exact qd,by rw[List.length_append,lhs];rfl,λi h' t' e1 e2=>?_⟩
       by_cases hi:i < hs.length
       . rw[List.getElem?_append_left hi]at e1
         obtain⟨a1,a2,a3⟩:=ah i h' t' e1 e2
         exact⟨by rw[qg a3];exact s1 _ _ a1,a2,a3⟩
       . have hi':i=hs.length:=by
           have:=(List.getElem?_eq_some_iff.mp e1).1
           rw[List.length_append,List.length_singleton]at this
           omega
         rw[hi',List.getElem?_append_right (Nat.le_refl _),Nat.sub_self]at e1
         obtain rfl:=(Option.some.inj e1).symm
         rw[hi',lhs,et]at e2
         obtain rfl:=(Option.some.inj e2).symm
         exact⟨by rw[qg nhd];exact h1,nh,nhd⟩
     rintro σ' H2 ⟨v,hs,rfl,s12,hLd2,lhs,ah⟩
     have lhs:hs.length=2:=by rw[lhs];unfold j5;rw[List.length_map,lts]
     have hit:∀{i:Nat} {h:Addr},hs[i]?=some h->∃t,ts[i]?=some t/\t∈ts:=λ{i h} e=>by
       have:=(List.getElem?_eq_some_iff.mp e).1
       have hi:i < ts.length:=by omega
       exact⟨_,List.getElem?_eq_getElem hi,List.getElem_mem hi⟩
     refine⟨_,rfl,Ld,rfl,⟨_,.of hLd2⟩,λLg hLg=>?_⟩
     refine qK (K:=K) (a:=Ld) (xs:=hs.map V.ref) (λj σ' X=>∃(v:Option V) (gs:List Addr),σ'=[v]/\Same H2 X/\X Lg=some (.lst (gs.map V.ref))/\gs.length=j/\∀(i:Nat) (g:Addr) (t:Md),gs[i]?=some g->ts[i]?=some t->Uy CG Lg X g t.2.2/\g≠Lg)
       ⟨none,[],rfl,qi hLg,qd,rfl,λi g t e=>(nomatch e)⟩ (λj σ' X _ ⟨_,_,_,s,_⟩=>.of (s _ _ hLd2)) ?_ ?_
     . rintro j y σ' X hy ⟨v,gs,rfl,sX,hX,lgs,ag⟩
       rw[List.getElem?_map]at hy
       cases eh:hs[j]? with
       | none=>rw[eh]at hy;cases hy
       | some h=>
         rw[eh]at hy
         obtain rfl:=(Option.some.inj hy).symm
         obtain⟨t,et,ht⟩:=hit eh
         have hj:=(List.getElem?_eq_some_iff.mp et).1
         have gt:=((md t ht).mono s12).mono sX
         refine⟨_,rfl,λx dx hx hdx ndx=>?_⟩
         have nxg:x≠Lg:=λe=>by rw[e,hX]at hx;cases hx
         refine z6 (D:=Lg) (sX _ _ (ah j h t eh et).1) gt.rows gt.good gt.pos gt.le hX hx hdx ndx λX4 s4 gn=>?_
         refine⟨_,s4 _ _ hX,by rw[List.length_map];exact qj (by omega),_,gs++[x],rfl,Same.upd (sX.trans s4) hLg,by rw[List.map_append];exact qd,by rw[List.length_append,lgs];rfl,λi g' t' e1 e2=>?_⟩
         by_cases hi:i < gs.length
         . rw[List.getElem?_append_left hi]at e1
           obtain⟨a1,a2⟩:=ag i g' t' e1 e2
           exact⟨(a1.mono s4).off a2,a2⟩
         . have hi':i=gs.length:=by
             have:=(List.getElem?_eq_some_iff.mp e1).1
             rw[List.length_append,List.length_singleton]at this
             omega
           rw[hi',List.getElem?_append_right (Nat.le_refl _),Nat.sub_self]at e1
           obtain rfl:=(Option.some.inj e1).symm
           rw[hi',lgs,et]at e2
           obtain rfl:=(Option.some.inj e2).symm
           exact⟨gn.off nxg,nxg⟩
     rintro σ' H3 ⟨v,gs,rfl,s23,hLg3,lgs,ag⟩
     have lgs:gs.length=2:=by rw[lgs,List.length_map,lhs]
     have s13:=s12.trans s23
     have hL3:=s13 _ _ hL1
     have hLd3:=s23 _ _ hLd2
     have md3:=md.mono s13
     have eM:j5 ts=(ts.map (·.1)).map V.ref:=by unfold j5;rw[List.map_map];rfl
     refine⟨_,rfl,_,rfl,.list (ts.map λt=>ZI t.2.2),.lst (.of hLd3) (ZP (by omega) λi h t e1 e2=>⟨s23 _ _ (ah i h t e1 e2).1,(md3 t (List.mem_of_getElem? e2)).rows⟩),.lst (.of (by rw[<-eM];exact hL3)) (ZP (List.length_map ..) λi h t e1 e2=>by
       rw[List.getElem?_map,e2]at e1
       obtain rfl:=(Option.some.inj e1).symm
       have g:=md3 t (List.mem_of_getElem? e2)
       exact⟨g.at_,g.rows⟩),UR gd,_,rfl,jm ?_⟩
     have nLg:∀{i:Nat} {h:Addr},hs[i]?=some h->h≠Lg/\h≠L/\h≠Ld/\∀t∈ts,t.1≠h:=λ{i h} e=>by
       obtain⟨t,et,ht⟩:=hit e
       obtain⟨a1,a2,a3⟩:=ah i h t e et
       refine⟨λz=>(by rw[z,hLg]at a1;cases a1),λz=>(by rw[z,hL1]at a2;cases a2),a3,λt' ht' z=>?_⟩
       have:=(md t' ht').at_
       rw[z,a2]at this
       cases this
     refine⟨_,rfl,Ld,rfl,⟨_,.of hLd3⟩,?_⟩
     refine jw (K:=K) (a:=Ld) (xs:=hs.map V.ref) (λj σ' X=>∃v6:Option V,σ'=[some (.ref a),some (.ref L),v2,v3,some (.ref Ld),some (.ref Lg),v6]/\X L=some (.lst (j5 ts))/\X Ld=some (.lst (hs.map V.ref))/\X Lg=some (.lst (gs.map V.ref))/\Uw X ts/\(∀(i:Nat) (g:Addr) (t:Md),gs[i]?=some g->ts[i]?=some t->jT CG X g t.2.2)/\∀(i:Nat) (h:Addr) (t:Md),hs[i]?=some h->ts[i]?=some t->∃tl:List V,tl.length<=j/\X h=some (.lst (t.2.1.map V.ref++tl)))
       ⟨_,rfl,hL3,hLd3,hLg3,md3,λi g t e1 e2=>(ag i g t e1 e2).1.gr,λi h t e1 e2=>⟨[],Nat.zero_le _,by rw[List.append_nil];exact s23 _ _ (ah i h t e1 e2).1⟩⟩ (λj σ' X _ ⟨_,_,_,h,_⟩=>.of h) ?_ ?_
     . rintro j y σ' X hy ⟨v6,rfl,xL,xLd,xLg,mdX,grX,hX⟩
       rw[List.getElem?_map]at hy
       cases eh:hs[j]? with
       | none=>rw[eh]at hy;cases hy
       | some h=>
         rw[eh]at hy
         obtain rfl:=(Option.some.inj hy).symm
         obtain⟨t,et,ht⟩:=hit eh
         obtain⟨n1,n2,n3,n4⟩:=nLg eh
         obtain⟨tl,ltl,hh⟩:=hX j h t eh et
         have hj:=(List.getElem?_eq_some_iff.mp eh).1
         refine⟨_,rfl,.inl ⟨rfl,_,.of hh⟩,by show 0<=sizeLine;decide,λe0 he0=>⟨by show 2<=sizeLine;decide,λe1 he1=>?_⟩⟩
         have s4:Same X (upd (upd X e0 (.tup [])) e1 (.tup [.str (Str.ofString "zz"),.ref e0])):=(qi he0).trans (qi he1)
         generalize upd (upd X e0 (.tup [])) e1 (.tup [.str (Str.ofString "zz"),.ref e0])=X4 at s4
         have hh4:=s4 _ _ hh
         have gt:=md t ht
         obtain⟨p0,pt,ep⟩:∃p0 pt,t.2.1=p0::pt:=by
           have q1:=gt.rows.1
           have q2:=gt.pos
           cases e:t.2.1 with
           | nil=>
             rw[e,List.length_nil]at q1
             omega
           | cons p0 pt=>exact⟨p0,pt,rfl⟩
         have hhp:X4 h=some (.lst (.ref p0::(pt.map V.ref++tl))):=by rw[hh4,ep];rfl
         have lps:=gt.rows.1
         have le:=gt.le
         refine⟨h,_,_,rfl,rfl,hh4,by rw[List.length_append,List.length_map];exact qj (by omega),_,rfl,?_,?_,?_,?_,?_,?_⟩
         . rw[qg (Ne.symm n2)];exact s4 _ _ xL
         . rw[qg (Ne.symm n3)];exact s4 _ _ xLd
         . rw[qg (Ne.symm n1)];exact s4 _ _ xLg
         . exact λt' ht'=>((mdX t' ht').mono s4).off hh4 (n4 t' ht')
         . exact λi g t' a1 a2=>((grX i g t' a1 a2).mono s4).offL hhp
         . intro i h' t' a1 a2
           obtain⟨tl',ltl',hh'⟩:=hX i h' t' a1 a2
           by_cases e:h'=h
           . subst e
             rw[hh]at hh'
             have ee:=HO.lst.inj (Option.some.inj hh')
             refine⟨tl'++[.ref e1],by rw[List.length_append];show _+1<=j+1;omega,?_⟩
             rw[qd,ee,List.append_assoc]
           . exact⟨tl',by omega,by rw[qg e];exact s4 _ _ hh'⟩
     . rintro σ' H5 ⟨v6,rfl,xL,xLd,xLg,mdX,grX,hX⟩
       obtain⟨t0,et0⟩:∃t,ts[0]?=some t:=⟨_,List.getElem?_eq_getElem (by omega)⟩
       obtain⟨t1,et1⟩:∃t,ts[1]?=some t:=⟨_,List.getElem?_eq_getElem (by omega)⟩
       obtain⟨g0,eg0⟩:∃t,gs[0]?=some t:=⟨_,List.getElem?_eq_getElem (by omega)⟩
       obtain⟨g1,eg1⟩:∃t,gs[1]?=some t:=⟨_,List.getElem?_eq_getElem (by omega)⟩
       have aM0:Y9 (j5 ts) 0=some (V.ref t0.1):=j1 (j:=0) (by unfold j5;rw[List.getElem?_map,et0];rfl)
       have aM1:Y9 (j5 ts) 1=some (V.ref t1.1):=j1 (j:=1) (by unfold j5;rw[List.getElem?_map,et1];rfl)
       have aG0:Y9 (gs.map V.ref) 0=some (V.ref g0):=j1 (j:=0) (by rw[List.getElem?_map,eg0];rfl)
       have aG1:Y9 (gs.map V.ref) 1=some (V.ref g1):=j1 (j:=1) (by rw[List.getElem?_map,eg1];rfl)
       have gt0:=mdX t0 (List.mem_of_getElem? et0)
       have gt1:=mdX t1 (List.mem_of_getElem? et1)
       have gg0:=grX 0 g0 t0 eg0 et0
       have gg1:=grX 1 g1 t1 eg1 et1
       refine⟨by show 3<=sizeLine;decide,λlc hlc=>⟨lc,rfl,⟨_,.of qd⟩,?_⟩⟩
       have sC:Same H5 (upd H5 lc (.lst [.int 0,.int 1,.int 0])):=qi hlc
       have hC:upd H5 lc (.lst [.int 0,.int 1,.int 0]) lc=some (.lst [.int 0,.int 1,.int 0]):=qd
       generalize upd H5 lc (.lst [.int 0,.int 1,.int 0])=HC at sC hC
       refine jw (K:=K) (a:=lc) (xs:=[.int 0,.int 1,.int 0]) (λm σ' Y=>∃w2:Option V,σ'=[some (.ref a),some (.ref L),w2,v3,some (.ref Ld),some (.ref Lg),v6]/\jM HC Y) ⟨_,rfl,jM.refl _⟩ (λm σ' Y _ ⟨_,_,kp⟩=>.of (kp _ _ hC (λ_ e=>nomatch e))) ?_ ?_
       . rintro m u σ' Y hu' ⟨w2,rfl,kp⟩
         have kY:=sC.keep.trans kp
         have yL:=kY _ _ xL (λ_ e=>nomatch e)
         have yG:=kY _ _ xLg (λ_ e=>nomatch e)
         have two:u=.int 0\/u=.int 1:=by
           match m,hu' with
           | 0,e=>cases e;exact .inl rfl
           | 1,e=>cases e;exact .inr rfl
           | 2,e=>cases e;exact .inl rfl
           | n+3,e=>simp at e
         rcases two with rfl | rfl
         . refine⟨_,rfl,_,rfl,Lg,_,0,_,rfl,rfl,.of yG,aG0,_,rfl,_,rfl,L,_,0,_,rfl,rfl,.of yL,aM0,_,rfl,_,rfl,_,_,rfl,rfl,L,_,1,_,rfl,rfl,.of yL,aM1,g0,t0.1,t1.1,t0.2.1,t1.2.1,t0.2.2,t1.2.2,rfl,gg0.keep kY,gt0.keep kY,gt1.keep kY,λY1 k1=>⟨_,rfl,jm ?_⟩⟩
           exact⟨_,rfl,kp.trans k1⟩
         . refine⟨_,rfl,_,rfl,Lg,_,1,_,rfl,rfl,.of yG,aG1,_,rfl,_,rfl,L,_,1,_,rfl,rfl,.of yL,aM1,_,rfl,_,rfl,_,_,rfl,rfl,L,_,0,_,rfl,rfl,.of yL,aM0,g1,t1.1,t0.1,t1.2.1,t0.2.1,t1.2.2,t0.2.2,rfl,gg1.keep kY,gt1.keep kY,gt0.keep kY,λY1 k1=>⟨_,rfl,jm ?_⟩⟩
           exact⟨_,rfl,kp.trans k1⟩
       . rintro σ' Y ⟨w2,rfl,kp⟩
         exact k Y
end
end Rh
set_option Elab.async false
set_option linter.all false
set_option maxRecDepth 100000
set_option maxHeartbeats 4000000
namespace Rh
open PySem L2 PyProof.Rows 
theorem kss {K:PySem.W.Frag}:PySem.W.kitOne K (.type "str") (.type "str")=some true:=by kernel_rfl
theorem ktt {K:PySem.W.Frag}:PySem.W.kitOne K (.type "tuple") (.type "tuple")=some true:=by kernel_rfl
theorem kll {K:PySem.W.Frag}:PySem.W.kitOne K (.type "list") (.type "list")=some true:=by kernel_rfl
theorem kNs {K:PySem.W.Frag}:PySem.W.kitOne K (.type "NoneType") (.type "str")=some false:=by kernel_rfl
theorem kBs {K:PySem.W.Frag}:PySem.W.kitOne K (.type "bool") (.type "str")=some false:=by kernel_rfl
theorem kIs {K:PySem.W.Frag}:PySem.W.kitOne K (.type "int") (.type "str")=some false:=by kernel_rfl
theorem kLs {K:PySem.W.Frag}:PySem.W.kitOne K (.type "list") (.type "str")=some false:=by kernel_rfl
theorem kTs {K:PySem.W.Frag}:PySem.W.kitOne K (.type "tuple") (.type "str")=some false:=by kernel_rfl
theorem kDs {K:PySem.W.Frag}:PySem.W.kitOne K (.type "dict") (.type "str")=some false:=by kernel_rfl
section
variable {K:PySem.W.Frag}
def MF (K:PySem.W.Frag) (n q:Str) (s:Stmt) (f:Addr):Prop:=∃fd,Qb K n q s f fd
theorem MF.mk' {x qual:Str} {st:Stmt} {f:Addr} {oc:Value} {od an:Option Addr} {osl:Array (Option Value)} {kV doc pm cdv ct:Value} (l:K.lookup f=some ⟨oc,od,.func (PySem.W.fnOf x qual (Qf st) (jJ st) (qo st) .none kV doc pm an cdv ct),osl⟩) (c:PySem.W.codeIn K cdv qual=true) (k:PySem.W.keepIn K (.ref f)=true):MF K x qual st f:=⟨_,Y2 l c k⟩
def HF (K:PySem.W.Frag) (n:Str) (s:Stmt) (f:Addr):Prop:=PySem.W.nsIn K mainGlobals n=some (some (.ref f))/\MF K n n s f
theorem HF.mk' {x:Str} {st:Stmt} {f:Addr} {oc:Value} {od an:Option Addr} {osl:Array (Option Value)} {kV doc pm cdv ct:Value} (a:PySem.W.nsIn K mainGlobals x=some (some (.ref f))) (l:K.lookup f=some ⟨oc,od,.func (PySem.W.fnOf x x (Qf st) (jJ st) (qo st) .none kV doc pm an cdv ct),osl⟩) (c:PySem.W.codeIn K cdv x=true) (k:PySem.W.keepIn K (.ref f)=true):HF K x st f:=⟨a,_,Y2 l c k⟩
theorem HF.has {h:Heap} {mg:Str->Option Value} {n:Str} {s:Stmt} {f:Addr} {ps:List Str} (l:HF K n s f) (X:K.In h) (G:h.Ns mainGlobals mg) (b:∀{fd},Qb K n n s f fd->js K fd ps []):∃fd,Qh K mg n s ps f fd:=let ⟨a,fd,F⟩:=l;⟨fd,F,PySem.W.mg_of X G a,b F⟩
end
def yU (es:Array DictEntry):Bool:=es.all λe=>match e.key with | .str _ _=>true | _=>false
theorem UN {es:Array DictEntry} (h:yU es=true):StrKeys es:=by
 intro e he
 have q:=Array.all_eq_true'.mp h e he
 revert q
 cases hk:e.key<;>intro q<;>first | exact⟨_,_,rfl⟩ | (dsimp only at q;cases q)
section
variable {K:PySem.W.Frag} {mg:Str->Option Value} {D C f:Addr} {x qual fld:Str} {st:Stmt}
theorem yq {h:Heap} {fd:FuncData} {nm q:Str} {N:Addr} {bs:List Value} {hdct:Bool} {sn:List Str} {sub:List Value} {ab:Bool} {col:Option Bool} {dd:Option Addr} {k0 k1 k2 k3 k5:Option Value}
   (X:K.In h) (G:h.Ns mainGlobals mg) (tl:∀h:Heap,K.In h->OwnTail h jC (.ref D::jC)) (F:Qb K "__init__" qual st f fd) (b:js K fd ["self",fld] [])
   (a1:PySem.W.nsIn K mainGlobals x=some (some (.ref C)))
   (a2:K.lookup C=some (excClassObj nm q C N bs (.ref D::jC) hdct sn sub ab col dd k0 k1 k2 k3 k5 "ValueError.__new__"))
   (a3:PySem.W.findIn K (.ref C) "__init__"=some (some (.ref f))) (a4:PySem.W.isFn K (.ref f)=true) (a5:PySem.W.keepIn K (.ref C)=true)
   (a6:PySem.W.findIn K (.ref C) "__getattribute__"=some (some (.builtin "BaseException.__getattribute__"))) (a7:PySem.W.findIn K (.ref C) "__getattr__"=some none)
   (a8:PySem.W.findIn K (.ref C) "__setattr__"=some (some (.builtin "object.__setattr__"))) (a9:PySem.W.hasDictIn K C=true)
   (a10:PySem.W.mroIn K C (.type "BaseException")=some true) (a11:PySem.W.mroIn K C (.type "object")=some true)
   (a12:PySem.W.findIn K (.ref C) "__class__"=some (some (.builtin "object.__class__"))) (a13:PySem.W.findIn K (.ref C) fld=some none):vS K mg D x qual st fld C f fd:=
 ⟨⟨a6,a7,a8,a9,⟨_,by unfold PySem.W.clsIn;rw[a2],rfl⟩,a10,a11,a12⟩,⟨⟨nm,q,N,bs,hdct,sn,sub,ab,col,dd,k0,k1,k2,k3,k5,a2⟩,tl,a3,a4,a5⟩,PySem.W.mg_of X G a1,a13,F,b⟩
end
theorem all_mk {l:PySem.W.OpenLaw} {w:World} {K:PySem.W.Frag} {h:Heap} {mg:Str->Option Value} {fa:Addr} (X:K.In h) (G:h.Ns mainGlobals mg) (hfa:mg "law"=some (.ref fa))
   {fO fL fT fN fD fR fA1 fA2 fA3 fA4 fA5 fA6 fA7 fA8 fP1 fP2 fC1 fC2 fC3 fC4 fC5 fC6 fC7 fCGi fCGM fCGF fCGW CNoPlace fNoPlace:Addr}
   {fLAW:Addr} {odLAW anLAW:Option Addr} {slLAW:Array (Option Value)} {ocLAW kVLAW dcLAW pmLAW cdLAW ctLAW:Value}
   {CG:Addr}
   {tm1:Tok}
   {tm2:Tok}
   {tm3:Tok}
   {tm4:Tok}
   {D:Addr} {nmHE qHE:Str} {NHE:Addr} {bsHE subHE:List Value} {hdctHE abHE:Bool} {snHE:List Str} {colHE:Option Bool} {ddHE:Option Addr} {kaHE kbHE kcHE kdHE keHE:Option Value} {oHN:Value} {dHN:Option Addr} {es:Array DictEntry} {ep:Nat} {slHN:Array (Option Value)}
   {nmNoPlace qNoPlace:Str} {NNoPlace:Addr} {bsNoPlace subNoPlace:List Value} {hdctNoPlace abNoPlace:Bool} {snNoPlace:List Str} {colNoPlace:Option Bool} {ddNoPlace:Option Addr} {kaNoPlace kbNoPlace kcNoPlace kdNoPlace keNoPlace:Option Value}
   {CH:Addr}
   (lO:HF K "_law_cell_at" Xx fO)
   (lL:HF K "_law_source" J4 fL)
   (lT:HF K "_law_take" Zl fT)
   (lN:HF K "_law_names" Zn fN)
   (lD:HF K "_law_leads" Zo fD)
   (lR:HF K "_law_rows" Xu fR)
   (lA1:HF K "is_name" QM fA1)
   (lA2:HF K "is_tuple_of_names" Z0 fA2)
   (lA3:HF K "is_row" Zp fA3)
   (lA4:HF K "need_form" Xv fA4)
   (lA5:HF K "need_own_names" UW fA5)
   (lA6:HF K "need_ends" Xw fA6)
   (lA7:HF K "need_few_roads" UX fA7)
   (lA8:HF K "need_rows" zV fA8)
   (lP1:HF K "drawn_row" Z1 fP1)
   (lP2:HF K "drawn" Zr fP2)
   (lC1:HF K "_law_due" UY fC1)
   (lC2:HF K "_law_table" Zm fC2)
   (lC3:HF K "_law_names_right" xN fC3)
   (lC4:HF K "_law_rows_right" xM fC4)
   (lC5:HF K "_law_drawn_right" UZ fC5)
   (lC6:HF K "_law_refused" Jb fC6)
   (lC7:HF K "_law_right" zt fC7)
   (aLAW:PySem.W.nsIn K mainGlobals "law"=some (some (.ref fLAW)))
   (lLAW:K.lookup fLAW=some ⟨ocLAW,odLAW,.func (PySem.W.fnOf "law" "law" (Qf zu) (jJ zu) (qo zu) .none kVLAW dcLAW pmLAW anLAW cdLAW ctLAW),slLAW⟩)
   (cLAW:PySem.W.codeIn K cdLAW "law"=true)
   (kLAW:PySem.W.keepIn K (.ref fLAW)=true)
   (nCG:PySem.W.nsIn K mainGlobals "Ground"=some (some (.ref CG)))
   (pgCG:PySem.W.plainGet K CG Str.empty=true)
   (hdCG:PySem.W.hasDictIn K CG=true)
   (poCG:PySem.W.plainOver K CG=true)
   (saCG:PySem.W.findIn K (.ref CG) "__setattr__"=some (some (.builtin "object.__setattr__")))
   (mkCG:PySem.W.makesIn K CG=true)
   (inCG:PySem.W.findIn K (.ref CG) "__init__"=some (some (.ref fCGi)))
   (fiCG:PySem.W.isFn K (.ref fCGi)=true)
   (kcCG:PySem.W.keepIn K (.ref CG)=true)
   (noCG:PySem.W.findIn K (.ref CG) "order"=some none)
   (nrCG:PySem.W.findIn K (.ref CG) "roads"=some none)
   (lCGi:MF K "__init__" "Ground.__init__" YQ fCGi)
   (atCGM:PySem.W.findIn K (.ref CG) "names"=some (some (.ref fCGM)))
   (fnCGM:PySem.W.isFn K (.ref fCGM)=true)
   (lCGM:MF K "names" "Ground.names" Jc fCGM)
   (atCGF:PySem.W.findIn K (.ref CG) "roads_from"=some (some (.ref fCGF)))
   (fnCGF:PySem.W.isFn K (.ref fCGF)=true)
   (lCGF:MF K "roads_from" "Ground.roads_from" Jr fCGF)
   (atCGW:PySem.W.findIn K (.ref CG) "rows"=some (some (.ref fCGW)))
   (fnCGW:PySem.W.isFn K (.ref fCGW)=true)
   (lCGW:MF K "rows" "Ground.rows" Zq fCGW)
   (zlen:PySem.W.nsIn K mainGlobals "len"=some none)
   (zmax:PySem.W.nsIn K mainGlobals "max"=some none)
   (zmin:PySem.W.nsIn K mainGlobals "min"=some none)
   (zint:PySem.W.nsIn K mainGlobals "int"=some none)
   (zrange:PySem.W.nsIn K mainGlobals "range"=some none)
   (zisinstance:PySem.W.nsIn K mainGlobals "isinstance"=some none)
   (zstr:PySem.W.nsIn K mainGlobals "str"=some none)
   (zall:PySem.W.nsIn K mainGlobals "all"=some none)
   (zenumerate:PySem.W.nsIn K mainGlobals "enumerate"=some none)
   (zsum:PySem.W.nsIn K mainGlobals "sum"=some none)
   (zsorted:PySem.W.nsIn K mainGlobals "sorted"=some none)
   (zlist:PySem.W.nsIn K mainGlobals "list"=some none)
   (zreversed:PySem.W.nsIn K mainGlobals "reversed"=some none)
   (zset:PySem.W.nsIn K mainGlobals "set"=some none)
   (ztuple:PySem.W.nsIn K mainGlobals "tuple"=some none)
   (zdict:PySem.W.nsIn K mainGlobals "dict"=some none)
   (zbool:PySem.W.nsIn K mainGlobals "bool"=some none)
   (zrepr:PySem.W.nsIn K mainGlobals "repr"=some none)
   (m1:PySem.W.nsIn K mainGlobals "LETTERS"=some (some (.str "abcdefghijklmnopqrstuvwxyz" tm1)))
   (m2:PySem.W.nsIn K mainGlobals "LONGEST_NAME"=some (some (.int 8 tm2)))
   (m3:PySem.W.nsIn K mainGlobals "MOST_PLACES"=some (some (.int 14 tm3)))
   (m4:PySem.W.nsIn K mainGlobals "MOST_ROADS"=some (some (.int 40 tm4)))
   (aHE:PySem.W.nsIn K mainGlobals "HeapError"=some (some (.ref D)))
   (oHE:K.lookup D=some (excClassObj nmHE qHE D NHE bsHE jC hdctHE snHE subHE abHE colHE ddHE kaHE kbHE kcHE kdHE keHE "ValueError.__new__"))
   (nHE:K.lookup NHE=some ⟨oHN,dHN,.dict es ep,slHN⟩)
   (skHE:yU es=true)
   (niHE:nsFind es (Str.ofString "__init__")=none)
   (a1NoPlace:PySem.W.nsIn K mainGlobals "NoPlace"=some (some (.ref CNoPlace)))
   (a2NoPlace:K.lookup CNoPlace=some (excClassObj nmNoPlace qNoPlace CNoPlace NNoPlace bsNoPlace (.ref D::jC) hdctNoPlace snNoPlace subNoPlace abNoPlace colNoPlace ddNoPlace kaNoPlace kbNoPlace kcNoPlace kdNoPlace keNoPlace "ValueError.__new__"))
   (a3NoPlace:PySem.W.findIn K (.ref CNoPlace) "__init__"=some (some (.ref fNoPlace)))
   (a4NoPlace:PySem.W.isFn K (.ref fNoPlace)=true)
   (lNoPlace:MF K "__init__" "NoPlace.__init__" jS fNoPlace)
   (a5NoPlace:PySem.W.keepIn K (.ref CNoPlace)=true)
   (a6NoPlace:PySem.W.findIn K (.ref CNoPlace) "__getattribute__"=some (some (.builtin "BaseException.__getattribute__")))
   (a7NoPlace:PySem.W.findIn K (.ref CNoPlace) "__getattr__"=some none)
   (a8NoPlace:PySem.W.findIn K (.ref CNoPlace) "__setattr__"=some (some (.builtin "object.__setattr__")))
   (a9NoPlace:PySem.W.hasDictIn K CNoPlace=true)
   (a10NoPlace:PySem.W.mroIn K CNoPlace (.type "BaseException")=some true)
   (a11NoPlace:PySem.W.mroIn K CNoPlace (.type "object")=some true)
   (a12NoPlace:PySem.W.findIn K (.ref CNoPlace) "__class__"=some (some (.builtin "object.__class__")))
   (a13NoPlace:PySem.W.findIn K (.ref CNoPlace) "found"=some none)
   (spc:PySem.W.specialIn K (.builtin "object.__class__") "__get__"=some (some (.builtin "getset_descriptor.__get__")))
   (tks:PySem.W.takesIn K (.builtin "object.__class__")=some true)
   (aNG:PySem.W.nsIn K mainGlobals "NoGround"=some (some (.ref CH)))
   (w1:PySem.W.kitOne K (.ref CNoPlace) (.ref D)=some true)
   (w2:PySem.W.kitOne K (.ref CNoPlace) (.ref CH)=some false)
   :
   ∃fd:FuncData,(∀(s:Shared) (v:Value),BindsTo s fd ⟨[v],[]⟩ [("_law_script",v)])/\∀base:Heap,K.In base->base.Ns mainGlobals mg->FnOk l.prog w K mg base jf 8 fa fd ["_law_script"] (Xr K):=by
 have e:=hfa.symm.trans (PySem.W.mg_of X G aLAW)
 cases e
 obtain⟨_,hO⟩:=lO.has (ps:=["_law_script","_law_k"]) X G λF=>F.binds λ_ _ _ _ _ _ us hl=>by obtain⟨_,_,rfl⟩:=Je hl;rfl
 obtain⟨_,hL⟩:=lL.has (ps:=["_law_cell"]) X G λF=>F.binds λ_ _ _ _ _ _ us hl=>by obtain⟨_,rfl⟩:=Jf hl;rfl
 obtain⟨_,hT⟩:=lT.has (ps:=["_law_source_here","_law_many"]) X G λF=>F.binds λ_ _ _ _ _ _ us hl=>by obtain⟨_,_,rfl⟩:=Je hl;rfl
 obtain⟨_,hN⟩:=lN.has (ps:=["_law_source_here","_law_many"]) X G λF=>F.binds λ_ _ _ _ _ _ us hl=>by obtain⟨_,_,rfl⟩:=Je hl;rfl
 obtain⟨_,hD⟩:=lD.has (ps:=["_law_source_here","_law_many","_law_shape","_law_low"]) X G λF=>F.binds λ_ _ _ _ _ _ us hl=>by obtain⟨_,_,_,_,rfl⟩:=wp hl;rfl
 obtain⟨_,hR⟩:=lR.has (ps:=["_law_source_here","_law_most"]) X G λF=>F.binds λ_ _ _ _ _ _ us hl=>by obtain⟨_,_,rfl⟩:=Je hl;rfl
 obtain⟨_,hA1⟩:=lA1.has (ps:=["thing"]) X G λF=>F.binds λ_ _ _ _ _ _ us hl=>by obtain⟨_,rfl⟩:=Jf hl;rfl
 obtain⟨_,hA2⟩:=lA2.has (ps:=["thing"]) X G λF=>F.binds λ_ _ _ _ _ _ us hl=>by obtain⟨_,rfl⟩:=Jf hl;rfl
 obtain⟨_,hA3⟩:=lA3.has (ps:=["thing"]) X G λF=>F.binds λ_ _ _ _ _ _ us hl=>by obtain⟨_,rfl⟩:=Jf hl;rfl
 obtain⟨_,hA4⟩:=lA4.has (ps:=["rows"]) X G λF=>F.binds λ_ _ _ _ _ _ us hl=>by obtain⟨_,rfl⟩:=Jf hl;rfl
 obtain⟨_,hA5⟩:=lA5.has (ps:=["order"]) X G λF=>F.binds λ_ _ _ _ _ _ us hl=>by obtain⟨_,rfl⟩:=Jf hl;rfl
 obtain⟨_,hA6⟩:=lA6.has (ps:=["ends","order"]) X G λF=>F.binds λ_ _ _ _ _ _ us hl=>by obtain⟨_,_,rfl⟩:=Je hl;rfl
 obtain⟨_,hA7⟩:=lA7.has (ps:=["rows"]) X G λF=>F.binds λ_ _ _ _ _ _ us hl=>by obtain⟨_,rfl⟩:=Jf hl;rfl
 obtain⟨_,hA8⟩:=lA8.has (ps:=["rows"]) X G λF=>F.binds λ_ _ _ _ _ _ us hl=>by obtain⟨_,rfl⟩:=Jf hl;rfl
 obtain⟨_,hP1⟩:=lP1.has (ps:=["ground","name"]) X G λF=>F.binds λ_ _ _ _ _ _ us hl=>by obtain⟨_,_,rfl⟩:=Je hl;rfl
 obtain⟨_,hP2⟩:=lP2.has (ps:=["ground"]) X G λF=>F.binds λ_ _ _ _ _ _ us hl=>by obtain⟨_,rfl⟩:=Jf hl;rfl
 obtain⟨_,hC1⟩:=lC1.has (ps:=["_law_rows_here"]) X G λF=>F.binds λ_ _ _ _ _ _ us hl=>by obtain⟨_,rfl⟩:=Jf hl;rfl
 obtain⟨_,hC2⟩:=lC2.has (ps:=["_law_rows_here"]) X G λF=>F.binds λ_ _ _ _ _ _ us hl=>by obtain⟨_,rfl⟩:=Jf hl;rfl
 obtain⟨_,hC3⟩:=lC3.has (ps:=["_law_ground","_law_due_here"]) X G λF=>F.binds λ_ _ _ _ _ _ us hl=>by obtain⟨_,_,rfl⟩:=Je hl;rfl
 obtain⟨_,hC4⟩:=lC4.has (ps:=["_law_ground","_law_due_here"]) X G λF=>F.binds λ_ _ _ _ _ _ us hl=>by obtain⟨_,_,rfl⟩:=Je hl;rfl
 obtain⟨_,hC5⟩:=lC5.has (ps:=["_law_ground","_law_rows_here"]) X G λF=>F.binds λ_ _ _ _ _ _ us hl=>by obtain⟨_,_,rfl⟩:=Je hl;rfl
 obtain⟨_,hC6⟩:=lC6.has (ps:=["_law_ground","_law_thing"]) X G λF=>F.binds λ_ _ _ _ _ _ us hl=>by obtain⟨_,_,rfl⟩:=Je hl;rfl
 obtain⟨_,hC7⟩:=lC7.has (ps:=["_law_ground","_law_rows_here","_law_others"]) X G λF=>F.binds λ_ _ _ _ _ _ us hl=>by obtain⟨_,_,_,rfl⟩:=xu hl;rfl
 have FLAW:=Y2 (st:=zu) lLAW cLAW kLAW
 obtain⟨_,FiCG⟩:=lCGi
 have clCG:yA K mg CG fCGi _:=⟨⟨pgCG,hdCG,poCG,saCG⟩,⟨mkCG,inCG,fiCG,kcCG⟩,PySem.W.mg_of X G nCG,noCG,nrCG,FiCG,FiCG.binds (ps:=["self","rows"]) λ_ _ _ _ _ _ us hl=>by obtain⟨_,_,rfl⟩:=Je hl;rfl⟩
 obtain⟨_,FCGM⟩:=lCGM
 have mCGM:ky K CG "names" "Ground.names" Jc ["self"] fCGM _:=⟨FCGM,⟨atCGM,fnCGM,FCGM.kp⟩,FCGM.binds (ps:=["self"]) λ_ _ _ _ _ _ us hl=>by obtain⟨_,rfl⟩:=Jf hl;rfl⟩
 obtain⟨_,FCGF⟩:=lCGF
 have mCGF:ky K CG "roads_from" "Ground.roads_from" Jr ["self","name"] fCGF _:=⟨FCGF,⟨atCGF,fnCGF,FCGF.kp⟩,FCGF.binds (ps:=["self","name"]) λ_ _ _ _ _ _ us hl=>by obtain⟨_,_,rfl⟩:=Je hl;rfl⟩
 obtain⟨_,FCGW⟩:=lCGW
 have mCGW:ky K CG "rows" "Ground.rows" Zq ["self"] fCGW _:=⟨FCGW,⟨atCGW,fnCGW,FCGW.kp⟩,FCGW.binds (ps:=["self"]) λ_ _ _ _ _ _ us hl=>by obtain⟨_,rfl⟩:=Jf hl;rfl⟩
 have tl:∀h:Heap,K.In h->OwnTail h jC (.ref D::jC):=λh X=>.own (X _ _ oHE) ⟨_,es,ep,X _ _ nHE,rfl,UN skHE,λ_=>rfl⟩ niHE .base
 have ccD:yD K D:=⟨jC,⟨_,_,_,_,_,_,_,_,_,_,_,_,_,_,_,oHE⟩,rfl⟩
 obtain⟨_,FNoPlace⟩:=lNoPlace
 have xNoPlace:vS K mg D "NoPlace" "NoPlace.__init__" jS "found" CNoPlace fNoPlace _:=yq X G tl FNoPlace (FNoPlace.binds (ps:=["self","found"]) λ_ _ _ _ _ _ us hl=>by obtain⟨_,_,rfl⟩:=Je hl;rfl) a1NoPlace a2NoPlace a3NoPlace a4NoPlace a5NoPlace a6NoPlace a7NoPlace a8NoPlace a9NoPlace a10NoPlace a11NoPlace a12NoPlace a13NoPlace
 have B:J1 mg:=⟨PySem.W.mg_none_of X G zlen,PySem.W.mg_none_of X G zmax,PySem.W.mg_none_of X G zmin,PySem.W.mg_none_of X G zint,PySem.W.mg_none_of X G zrange⟩
 have Gk:QE mg:=⟨PySem.W.mg_none_of X G zsorted,PySem.W.mg_none_of X G zlist,PySem.W.mg_none_of X G zreversed,PySem.W.mg_none_of X G zset,PySem.W.mg_none_of X G ztuple⟩
 have T:QD K mg:=⟨PySem.W.mg_none_of X G zisinstance,PySem.W.mg_none_of X G zstr,PySem.W.mg_none_of X G zall,PySem.W.mg_none_of X G zenumerate,PySem.W.mg_none_of X G zsum,⟨_,PySem.W.mg_of X G m1⟩,⟨_,PySem.W.mg_of X G m2⟩,⟨_,PySem.W.mg_of X G m3⟩,⟨_,PySem.W.mg_of X G m4⟩,kss,ktt,kll⟩
 have Nn:vR K mg:=⟨⟨_,_,hA1⟩,⟨_,_,hA2⟩,⟨_,_,hA3⟩,⟨_,_,hA4⟩,⟨_,_,hA5⟩,⟨_,_,hA6⟩,⟨_,_,hA7⟩⟩
 have M:GM K mg CG:=⟨⟨_,_,clCG⟩,⟨_,_,mCGM⟩,⟨_,_,mCGF⟩,⟨_,_,hA1⟩⟩
 have S:zJ K:=⟨kNs,kBs,kIs,kLs,kTs,kDs⟩
 have R3:xE K mg CG:=⟨⟨_,_,mCGW⟩,PySem.W.mg_none_of X G zrepr⟩
 have R:yz K mg:=⟨⟨_,_,hC1⟩,⟨_,_,hC2⟩,⟨_,_,hC3⟩,⟨_,_,hC4⟩,⟨_,_,hC5⟩,⟨_,_,hC6⟩,⟨_,_,hP2⟩,⟨_,_,hP1⟩⟩
 have Z:xG K mg:=⟨⟨_,_,hO⟩,⟨_,_,hL⟩,⟨_,_,hT⟩,⟨_,_,hN⟩,⟨_,_,hD⟩,⟨_,_,hR⟩,⟨_,_,hA8⟩,⟨_,_,hC7⟩⟩
 have ZE:vQ K mg D CNoPlace CH:=⟨PySem.W.mg_of X G aHE,PySem.W.mg_of X G aNG,w1,w2,spc,tks,PySem.W.mg_none_of X G zrepr⟩
 exact⟨PySem.W.fnOf "law" "law" (Qf zu) (jJ zu) (qo zu) .none kVLAW dcLAW pmLAW anLAW cdLAW ctLAW,λs v=>.of_eq rfl,λbase _ _=>k7 FLAW B Gk T S Nn M R3 R Z xNoPlace ZE⟩
theorem walk {l:PySem.W.OpenLaw} {q:Program} {loose:List Str} {XP:(Str->Option Value)->Heap->Prop} {YP:World->Heap->Prop} {d:DefRec} {K:Params->PySem.W.Frag} (hn:l.most=some 63) (hdf:d.params.defaults=[])
   (hY:∀(w:World) (h:Heap),YP w h->(K w.params).In h)
   (F:∀(w:World) (mg:Str->Option Value) (fa:Addr) (h:Heap),(K w.params).In h->h.Ns mainGlobals mg->mg d.name=some (.ref fa)->
     ∃fd:FuncData,(∀(s:Shared) (u:Value),BindsTo s fd ⟨[u],[]⟩ [("_law_script",u)])/\∀base:Heap,(K w.params).In base->base.Ns mainGlobals mg->FnOk l.prog w (K w.params) mg base jf 8 fa fd ["_law_script"] (Xr (K w.params))):
   PySem.W.WalkO q loose XP YP l.row.toRowW d [] (λf vs=>PySem.call f vs):=
 L2.walk_of (n:=63) (k:=8) (x:="_law_script") (CX:=λ_=>jf) (sp:=λw=>Xr (K w.params)) hn (by decide) hdf ⟨rfl,by decide,by decide,rfl⟩ hY F (λ_ _ a ns hl _ hS=>⟨a,ns,rfl,hS,hl,λ_=>rfl⟩) λ_ _ _ _ _ z=>z
end Rh
open PySem PySem.W PyProof.Rows
def PySem.W.Fast.tw17948646859887798682 : Unit := ()
def PySem.W.Fast.tw861502493610598483 : Unit := ()
def PySem.W.Fast.tw164352185463013549 : Unit := ()
def PySem.W.Fast.tw2709838616617092952 : Unit := ()
def PySem.W.Fast.tw7774113678449685934 : Unit := ()
def PySem.W.Fast.tw206582138325595820 : Unit := ()
def PySem.W.Fast.tw11489657468027745950 : Unit := ()
def PySem.W.Fast.tw10338398162516547025 : Unit := ()
def PySem.W.Fast.tw17724038513149304489 : Unit := ()
def PySem.W.Fast.tw12103309309050226592 : Unit := ()
def PySem.W.Fast.tw14564479935002850509 : Unit := ()
def PySem.W.Fast.tw11384182702204212275 : Unit := ()
def PySem.W.Fast.tw4171853373547519906 : Unit := ()
def PySem.W.Fast.tw8492135340293348127 : Unit := ()
def PySem.W.Fast.tw13034982811429478159 : Unit := ()
def PySem.W.Fast.tw11962351593759143498 : Unit := ()
def PySem.W.Fast.tw6512149657230936976 : Unit := ()
def PySem.W.Fast.tw10167646349310259628 : Unit := ()
def PySem.W.Fast.tw1708089923452030704 : Unit := ()
def PySem.W.Fast.tw12200699767478067731 : Unit := ()
def PySem.W.Fast.tw5890639436620234070 : Unit := ()
def PySem.W.Fast.tw6968137755033780318 : Unit := ()
def PySem.W.Fast.tw12770481643036789091 : Unit := ()
def PySem.W.Fast.tw13462424878891718212 : Unit := ()
def PySem.W.Fast.tw18328257000508772394 : Unit := ()
def PySem.W.Fast.tw7322748291113730364 : Unit := ()
def PySem.W.Fast.tw1070438729232803039 : Unit := ()
def PySem.W.Fast.tw209982475168477708 : Unit := ()
def PySem.W.Fast.tw5622701340561072331 : Unit := ()
def PySem.W.Fast.tw11373181179767321252 : Unit := ()
def PySem.W.Fast.tw12652081859355081885 : Unit := ()
def PySem.W.Fast.tw9461873434466728008 : Unit := ()
def PySem.W.Fast.tw4096438862311573950 : Unit := ()
def PySem.W.Fast.tw3945831679567021610 : Unit := ()
def PySem.W.Fast.tw6522051377940421278 : Unit := ()
def PySem.W.Fast.tw18146532975450069615 : Unit := ()
def PySem.W.Fast.tw12459912946257978736 : Unit := ()
def PySem.W.Fast.tw12431713363859531893 : Unit := ()
def PySem.W.Fast.tw12954591660760965231 : Unit := ()
def PySem.W.Fast.tw9116068151291705539 : Unit := ()
def PySem.W.Fast.tw15621415185263527259 : Unit := ()
def PySem.W.Fast.tw772564365185477556 : Unit := ()
def PySem.W.Fast.tw2135409205425526673 : Unit := ()
def PySem.W.Fast.tw5832305185047221409 : Unit := ()
def PySem.W.Fast.tw2107523057676978006 : Unit := ()
def PySem.W.Fast.tw16919654943277366748 : Unit := ()
def PySem.W.Fast.tw16298917771340976007 : Unit := ()
def PySem.W.Fast.tw2314633323536394700 : Unit := ()
def PySem.W.Fast.tw1915925776726481438 : Unit := ()
def PySem.W.Fast.tw9784134513789038367 : Unit := ()
def PySem.W.Fast.tw4321966507151631593 : Unit := ()
def PySem.W.Fast.tw11266997524610791606 : Unit := ()
def PySem.W.Fast.tw10624116801336726872 : Unit := ()
def PySem.W.Fast.tw6822071536725586909 : Unit := ()
def PySem.W.Fast.tw15402603294489630176 : Unit := ()
def PySem.W.Fast.tw12727641955093265886 : Unit := ()
def PySem.W.Fast.tw10510056951384868246 : Unit := ()
def PySem.W.Fast.tw7164969610272591079 : Unit := ()
def PySem.W.Fast.tw3919386906821981792 : Unit := ()
def PySem.W.Fast.tw10519837036962490867 : Unit := ()
def PySem.W.Fast.tw15925456577456769635 : Unit := ()
def PySem.W.Fast.tw17963105932079019327 : Unit := ()
def PySem.W.Fast.tw10042083083395451092 : Unit := ()
def PySem.W.Fast.tw15685335758407661847 : Unit := ()
def PySem.W.Fast.tw17518593693041627797 : Unit := ()
def PySem.W.Fast.tw12917704675397863716 : Unit := ()
def PySem.W.Fast.tw1000662321505670351 : Unit := ()
def PySem.W.Fast.tw5217270863462422736 : Unit := ()
def PySem.W.Fast.tw17292613610259460706 : Unit := ()
def PySem.W.Fast.tw10698057553749749337 : Unit := ()
def PySem.W.Fast.tw10295913840692754127 : Unit := ()
def PySem.W.Fast.tw8733291241859026926 : Unit := ()
def PySem.W.Fast.tw17483705464198625004 : Unit := ()
def PySem.W.Fast.tw443766864951011646 : Unit := ()
def PySem.W.Fast.tw15227483606004533461 : Unit := ()
def PySem.W.Fast.tw14172470266813156586 : Unit := ()
def PySem.W.Fast.tw11401859456886640639 : Unit := ()
def PySem.W.Fast.tw6798380500665416597 : Unit := ()
def PySem.W.Fast.tw15401437161963490237 : Unit := ()
def PySem.W.Fast.tw2144661209622563809 : Unit := ()
def PySem.W.Fast.tw13769103115541136327 : Unit := ()
def PySem.W.Fast.tw3215387988796971590 : Unit := ()
def PySem.W.Fast.tw9582823730064241283 : Unit := ()
def PySem.W.Fast.tw4480162626587320490 : Unit := ()
def PySem.W.Fast.tw1840220198017710270 : Unit := ()
def PySem.W.Fast.tw12330612334027959195 : Unit := ()
def PySem.W.Fast.tw15042883488752021643 : Unit := ()
set_option maxRecDepth 100000
set_option maxHeartbeats 0
open_top hd for PySem.Challenge.rw_ringheaps_k02_grounds_told
set_option maxRecDepth 100000 in
set_option maxHeartbeats 0 in
theorem PySem.Challenge.cw_ringheaps_k02_grounds_told_holds : PySem.Challenge.rw_ringheaps_k02_grounds_told.Holds := by
 refine hd ?_
 k_fill
 refine Rh.walk (l:=PySem.Challenge.rw_ringheaps_k02_grounds_told) rfl rfl (λw h Y=>PySem.W.kIn_of Y) ?F
 case F=>
   intro w mg fa h KX G hmg
   refine' Rh.all_mk KX G hmg ?_ ?_ ?_ ?_ ?_ ?_ ?_ ?_ ?_ ?_ ?_ ?_ ?_ ?_ ?_ ?_ ?_ ?_ ?_ ?_ ?_ ?_ ?_ ?_ ?_ ?_ ?_ ?_ ?_ ?_ ?_ ?_ ?_ ?_ ?_ ?_ ?_ ?_ ?_ ?_ ?_ ?_ ?_ ?_ ?_ ?_ ?_ ?_ ?_ ?_ ?_ ?_ ?_ ?_ ?_ ?_ ?_ ?_ ?_ ?_ ?_ ?_ ?_ ?_ ?_ ?_ ?_ ?_ ?_ ?_ ?_ ?_ ?_ ?_ ?_ ?_ ?_ ?_ ?_ ?_ ?_ ?_ ?_ ?_ ?_ ?_ ?_ ?_ ?_ ?_ ?_ ?_ ?_ ?_
   any_goals first | (apply Rh.HF.mk'<;>k_is) | (apply Rh.MF.mk'<;>k_is) | k_is | kernel_rfl | rfl | decide
