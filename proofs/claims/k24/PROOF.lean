import PyProof.Rows.All
import Wide.All
import OpenK.AllK
import Wide.FinOn
import Lean
import PyProof.EqAt
import PyProof.EqKinds
import PyProof.TupleCall
import PySem.Challenge.RW_ringheaps_k24_whole_moves_walked
set_option Elab.async false
set_option linter.all false
set_option maxRecDepth 100000
namespace L2
open PySem PySem.Spec PyProof.Rows
abbrev qS:=Sum Int Str
def zD:qS->Value->Bool
 | .inl k,v=>Value.isInt k v
 | .inr x,v=>Value.isStrOf x v
def GY (w:World):qS->Int
 | .inl k=>hashInt k
 | .inr x=>hashStr w x
theorem jf:∀{k:qS} {v:Value},zD k v=true->(∃i t,k=Sum.inl i/\v=Value.int i t)\/(∃x t,k=Sum.inr x/\v=Value.str x t)
 | .inl i,v,h=>by
   obtain⟨t,e⟩:=Value.isInt_shape (k:=i) (v:=v) h
   exact .inl ⟨i,t,rfl,e⟩
 | .inr x,v,h=>by
   obtain⟨t,e⟩:=Value.isStrOf_shape (x:=x) (v:=v) h
   exact .inr ⟨x,t,rfl,e⟩
theorem Uj (i:Int) (t:Tok):zD (.inl i) (.int i t)=true:=by simp [zD,Value.isInt]
theorem Ui (x:Str) (t:Tok):zD (.inr x) (.str x t)=true:=by simp [zD,Value.isStrOf]
theorem wP (a b:Int):decide ((Sum.inl a:qS)=Sum.inl b)=(a==b):=by
 by_cases e:a=b
 . subst e;simp
 . have h:¬(Sum.inl a:qS)=Sum.inl b:=λq=>e (Sum.inl.inj q)
   rw[decide_eq_false h]
   exact(beq_eq_false_iff_ne.mpr e).symm
theorem wM (a b:Str):decide ((Sum.inr a:qS)=Sum.inr b)=decide (a=b):=by
 by_cases e:a=b
 . subst e;simp
 . have h:¬(Sum.inr a:qS)=Sum.inr b:=λq=>e (Sum.inr.inj q)
   rw[decide_eq_false h,decide_eq_false e]
theorem wO (a:Int) (b:Str):decide ((Sum.inl a:qS)=Sum.inr b)=false:=decide_eq_false (λq=>nomatch q)
theorem wN (a:Str) (b:Int):decide ((Sum.inr a:qS)=Sum.inl b)=false:=decide_eq_false (λq=>nomatch q)
def jh (prog:Program) (w:World):PySem.KeyKind prog w qS where
 is:=zD
 hash:=GY w
 inj:=λv a b ha hb=>by
   rcases jf ha with ⟨i,t,rfl,rfl⟩ | ⟨x,t,rfl,rfl⟩
   . rcases jf hb with ⟨j,u,rfl,e⟩ | ⟨y,u,rfl,e⟩
     . injection e with e1 _;rw[e1]
     . exact nomatch e
   . rcases jf hb with ⟨j,u,rfl,e⟩ | ⟨y,u,rfl,e⟩
     . exact nomatch e
     . injection e with e1 _;rw[e1]
 byValue:=λk v h=>by
   rcases jf h with ⟨i,t,rfl,rfl⟩ | ⟨x,t,rfl,rfl⟩<;>rfl
 pyHash:=λhv h=>by
   rcases jf hv with ⟨i,t,rfl,rfl⟩ | ⟨x,t,rfl,rfl⟩
   . exact wpAny_pyHash_int h
   . exact wpAny_pyHash_str h
 eqBool:=λhu hv h=>by
   rcases jf hu with ⟨i,t,rfl,rfl⟩ | ⟨x,t,rfl,rfl⟩
   . rcases jf hv with ⟨j,u,rfl,rfl⟩ | ⟨y,u,rfl,rfl⟩
     . rw[wP]at h;exact wpAny_eqBool_int h
     . rw[wO]at h;exact SeqAt.EqAt.int_str i t y u _ _ _ _ h
   . rcases jf hv with ⟨j,u,rfl,rfl⟩ | ⟨y,u,rfl,rfl⟩
     . rw[wN]at h;exact SeqAt.EqAt.str_int x t j u _ _ _ _ h
     . rw[wM]at h;exact wpAny_eqBool_str h
 «strs»:=λk x t v h=>by
   rcases jf h with ⟨i,u,rfl,e⟩ | ⟨y,u,rfl,e⟩
   . exact nomatch e
   . injection e with e1 _
     subst e1
     cases v<;>rfl
theorem Xv (prog:Program) (w:World) (i:Int) (t:Tok):(jh prog w).is (.inl i) (.int i t)=true:=Uj i t
theorem Xu (prog:Program) (w:World) (x:Str) (t:Tok):(jh prog w).is (.inr x) (.str x t)=true:=Ui x t
end L2
namespace L2
open PySem PySem.Spec PyProof.Rows
inductive V where
 | non | bl (b:Bool) | int (i:Int) | str (x:Str) | byt (b:Array UInt8) | flt (b:UInt64) | ref (a:Addr) | ty (n:String)
 deriving DecidableEq
def qH:V->Value->Prop
 | .non,u=>u=Value.none
 | .bl b,u=>u=Value.bool b
 | .int i,u=>∃t,u=Value.int i t
 | .str x,u=>∃t,u=Value.str x t
 | .byt b,u=>∃t,u=Value.bytes b t
 | .flt b,u=>∃t,u=Value.float b t
 | .ref a,u=>u=Value.ref a
 | .ty n,u=>u=Value.type n
abbrev qB:List V->List Value->Prop:=Paired qH
theorem qB.length {xs:List V} {us:List Value} (r:qB xs us):xs.length=us.length:=Paired.length r
theorem qB.get:∀{xs:List V} {us:List Value} {i:Nat} {x:V},qB xs us->xs[i]?=some x->∃u,us[i]?=some u/\qH x u
 | _,_,_,_,.nil,e=>by simp at e
 | _,_,0,_,.cons r _,e=>by simp at e;subst e;exact⟨_,rfl,r⟩
 | _,_,i+1,x,.cons _ t,e=>by
   obtain⟨u,h1,h2⟩:=qB.get (i:=i) (x:=x) t (by simpa using e)
   exact⟨u,by simpa using h1,h2⟩
theorem qB.set {x:V} {u:Value} (r:qH x u):∀{xs:List V} {us:List Value} (i:Nat),qB xs us->qB (xs.set i x) (us.set i u)
 | _,_,_,.nil=>.nil
 | _,_,0,.cons _ t=>.cons r t
 | _,_,i+1,.cons q t=>.cons q (qB.set r i t)
theorem qB.append:∀{xs ys:List V} {us ws:List Value},qB xs us->qB ys ws->qB (xs++ys) (us++ws)
 | _,_,_,_,.nil,s=>s
 | _,_,_,_,.cons r t,s=>.cons r (qB.append t s)
theorem qB.take:∀{xs:List V} {us:List Value} (n:Nat),qB xs us->qB (xs.take n) (us.take n)
 | _,_,0,_=>.nil
 | _,_,_+1,.nil=>.nil
 | _,_,n+1,.cons r t=>.cons r (qB.take n t)
theorem qB.drop:∀{xs:List V} {us:List Value} (n:Nat),qB xs us->qB (xs.drop n) (us.drop n)
 | _,_,0,r=>r
 | _,_,_+1,.nil=>.nil
 | _,_,n+1,.cons _ t=>qB.drop n t
theorem qB.none_of:∀{xs:List V} {us:List Value} {i:Nat},qB xs us->xs[i]?=none->us[i]?=none:=λ{xs us i} r e=>by
 have h1:=r.length
 have h2:xs.length<=i:=List.getElem?_eq_none_iff.mp e
 exact List.getElem?_eq_none_iff.mpr (by omega)
def Q7:Option V->Option Value->Prop
 | some v,some u=>qH v u
 | none,none=>True
 | _,_=>False
def KV {κ:Type}:List (κ×V)->List (κ×Value)->Prop:=Paired λ(p:κ×V) (q:κ×Value)=>p.1=q.1/\qH p.2 q.2
def kV:qS->V
 | .inl i=>.int i
 | .inr x=>.str x
inductive HO where
 | lst (xs:List V)
 | tup (xs:List V)
 | dK (kvs:List (qS×V)) | dT (kvs:List (List qS×V))
 | set (S:Int->Bool) (n:Nat)
 | ins (C dx:Addr) (fs:List (Str×V))
 | own (x:Addr)
 | xd (fs:List (Str×V))
 | met (f x:Addr)
 | rng (lo hi:Int)
 | frz (o:Obj) (u:HO)
 | tbl (ps:Array Value)
 | ext (φ:Heap->Prop)
abbrev Hp:=Addr->Option HO
def upd (H:Hp) (a:Addr) (o:HO):Hp:=λb=>if b=a then some o else H b
theorem qd {H:Hp} {a:Addr} {o:HO}:upd H a o a=some o:=by unfold upd;rw[if_pos rfl]
theorem qe {H:Hp} {a b:Addr} {o:HO} (h:b≠a):upd H a o b=H b:=by unfold upd;rw[if_neg h]
theorem jJ {H:Hp} {a:Addr} {o u:HO}:upd (upd H a o) a u=upd H a u:=by
 funext b;unfold upd;split<;>rfl
theorem Kc {H:Hp} {a b:Addr} {o u:HO} (h:H a=some o) (h':H b=some u) (d:o≠u):a≠b:=by
 intro e;subst e;rw[h]at h';exact d (Option.some.inj h')
theorem qo {H:Hp} {a b:Addr} {o:HO} (h:H a=some o) (h':H b=none):a≠b:=by
 intro e;subst e;rw[h]at h';cases h'
def KN (ps:Array Value) (oc:Obj):Prop:=∃(q:Str) (t:Tok) (vs:Array Value) (t':Tok),ps[0]?=some (.str q t)/\oc.data=.fields vs/\vs[1]?=some (.str q t')
section
variable (P:Program) (w:World)
def qA (H:Hp) (h:Heap) (a:Addr):HO->Prop
 | .lst xs=>xs.length<=sizeLine/\∃(its:List Value) (n:Nat),qB xs its/\h.get? a=some {cls:=.type "list",data:=.seq its.toArray n}
 | .tup xs=>xs.length<=sizeLine/\∃its:List Value,qB xs its/\IsTup h a its.toArray
 | .dK kvs=>kvs.length<=sizeLine/\(a==sysModules)=false/\∃vs,KV kvs vs/\h.DictOf (jh P w) a vs
 | .dT kvs=>kvs.length<=sizeLine/\(a==sysModules)=false/\∃xs:List (List qS×Addr×Value),
     Paired (λ(p:List qS×V) (q:List qS×Addr×Value)=>p.1=q.1/\H q.2.1=some (.tup (p.1.map kV))/\qH p.2 q.2.2) kvs xs/\
     ∃o es ep,h.get? a=some o/\o.ExactDict/\o.data=.dict es ep/\es.toList=xs.map (entryOfKey (tupleKind (jh P w)))/\(xs.map (·.1)).Nodup
 | .set S n=>h.SetOf (intKind P w) a S n
 | .ins C dx fs=>H dx=some (.own a)/\fs.length<=1000/\dx≠a/\h.get? a=some (PySem.W.instObj C dx)/\
     ∃mA,h.Ns1 dx mA/\(∀f,Q7 (fs.lookup f) (mA f))/\PySem.Within mA (fs.map (·.1))
 | .own _=>∃o,h.get? a=some o
 | .xd fs=>∃mA,h.Ns1 a mA/\∀f,Q7 (fs.lookup f) (mA f)
 | .rng lo hi=>∃t u v,h.get? a=some {cls:=.type "range",data:=.fields #[.int lo t,.int hi u,.int 1 v]}
 | .frz o u=>h.get? a=some o/\qA H h a u
 | .tbl ps=>∃ts:Array Value,h.get? a=some {cls:=.none,data:=.fields ts}/\TriplesOk ts.toList/\∀pos cv,codeAmong pos ts.toList=some cv->∃c oc,cv=.ref c/\H c=some (.frz oc (.own a))/\KN ps oc
 | .met f x=>h.get? a=some (PySem.W.methodObj (.ref f) (.ref x))
 | .ext φ=>φ h/\(∃o,h.get? a=some o)/\∀h1 h2:Heap,φ h1->(∀o,h1.get? a=some o->h2.get? a=some o)->φ h2
def Q4 (H:Hp) (h:Heap):Prop:=∀a o,H a=some o->qA P w H h a o
end
section
variable {P:Program} {w:World} {H H':Hp} {h h':Heap} {a:Addr} {o:HO}
theorem qA.lt (x:qA P w H h a o):a < h.objs.size:=by
 cases o with
 | lst xs=>obtain⟨_,_,_,_,e⟩:=x;exact Heap.lt_size e
 | tup xs=>obtain⟨_,_,_,p⟩:=x;exact p.lt
 | dK kvs=>obtain⟨_,_,_,_,o,_,_,e,_⟩:=x;exact Heap.lt_size e
 | dT kvs=>obtain⟨_,_,_,_,o,_,_,e,_⟩:=x;exact Heap.lt_size e
 | set S n=>obtain⟨o,_,_,_,e,_⟩:=x;exact Heap.lt_size e
 | ins C dx fs=>obtain⟨_,_,_,e,_⟩:=x;exact Heap.lt_size e
 | own y=>obtain⟨_,e⟩:=x;exact Heap.lt_size e
 | xd fs=>obtain⟨_,⟨_,_,_,e,_⟩,_⟩:=x;exact Heap.lt_size e
 | rng lo hi=>obtain⟨_,_,_,e⟩:=x;exact Heap.lt_size e
 | frz ob u=>obtain⟨e,_⟩:=x;exact Heap.lt_size e
 | tbl ps=>obtain⟨_,e,_⟩:=x;exact Heap.lt_size e
 | met f y=>exact Heap.lt_size (show h.get? a=some _ from x)
 | ext φ=>obtain⟨_,⟨_,e⟩,_⟩:=x;exact Heap.lt_size e
theorem Paired.mapP {α β:Type} {F G:α->β->Prop}:∀{l₁:List α} {l₂:List β},Paired F l₁ l₂->(∀a b,F a b->G a b)->Paired G l₁ l₂
 | _,_,.nil,_=>.nil
 | _,_,.cons r t,f=>.cons (f _ _ r) (Paired.mapP t f)
theorem qA.stay (x:qA P w H h a o) (k:∀b u,(b=a\/H b=some (.own a))->h.get? b=some u->h'.get? b=some u)
   (ho:∀b,H b=some (.own a)->H' b=some (.own a)) (ht:∀b xs,H b=some (.tup xs)->H' b=some (.tup xs)) (hf:∀b o,H b=some (.frz o (.own a))->H' b=some (.frz o (.own a)):=by exact λ_ _ q=>q):qA P w H' h' a o:=by
 induction o with
 | lst xs=>obtain⟨z,its,n,r,e⟩:=x;exact⟨z,its,n,r,k _ _ (.inl rfl) e⟩
 | tup xs=>obtain⟨z,its,r,ob,e,c⟩:=x;exact⟨z,its,r,ob,k _ _ (.inl rfl) e,c⟩
 | dK kvs=>obtain⟨z,y,vs,r,ob,es,ep,e,c⟩:=x;exact⟨z,y,vs,r,ob,es,ep,k _ _ (.inl rfl) e,c⟩
 | dT kvs=>
   obtain⟨z,y,xs,r,ob,es,ep,e,c⟩:=x
   exact⟨z,y,xs,Paired.mapP r λp q z=>⟨z.1,ht _ _ z.2.1,z.2.2⟩,ob,es,ep,k _ _ (.inl rfl) e,c⟩
 | set S n=>obtain⟨ob,es,ep,t,e,c⟩:=x;exact⟨ob,es,ep,t,k _ _ (.inl rfl) e,c⟩
 | ins C dx fs=>
   obtain⟨d,z,ne,e,mA,⟨od,es,ep,e2,c⟩,r⟩:=x
   exact⟨ho _ d,z,ne,k _ _ (.inl rfl) e,mA,⟨od,es,ep,k _ _ (.inr d) e2,c⟩,r⟩
 | own y=>obtain⟨ob,e⟩:=x;exact⟨ob,k _ _ (.inl rfl) e⟩
 | xd fs=>obtain⟨mA,⟨od,es,ep,e,c⟩,r⟩:=x;exact⟨mA,⟨od,es,ep,k _ _ (.inl rfl) e,c⟩,r⟩
 | rng lo hi=>obtain⟨t,u,v,e⟩:=x;exact⟨t,u,v,k _ _ (.inl rfl) e⟩
 | frz ob u ih=>obtain⟨e,q⟩:=x;exact⟨k _ _ (.inl rfl) e,ih q⟩
 | tbl ps=>
   obtain⟨ts,e,tr,cs⟩:=x
   exact⟨ts,k a _ (.inl rfl) e,tr,λpos cv q=>let ⟨c,oc,e1,e2,e3⟩:=cs pos cv q;⟨c,oc,e1,hf c oc e2,e3⟩⟩
 | met f y=>
   have e:h.get? a=some (PySem.W.methodObj (.ref f) (.ref y)):=x
   show h'.get? a=some (PySem.W.methodObj (.ref f) (.ref y))
   exact k a _ (.inl rfl) e
 | ext φ=>obtain⟨p,⟨o,e⟩,st⟩:=x;exact⟨st _ _ p λo q=>k _ _ (.inl rfl) q,⟨o,k _ _ (.inl rfl) e⟩,st⟩
theorem Q4.lt (x:Q4 P w H h) (e:H a=some o):a < h.objs.size:=(x a o e).lt
theorem Q4.fresh (x:Q4 P w H h) (e:h.objs.size<=a):H a=none:=by
 cases q:H a with
 | none=>rfl
 | some u=>exact absurd (Nat.lt_of_lt_of_le (x.lt q) e) (Nat.lt_irrefl _)
theorem Q4.kept (x:Q4 P w H h) (k:∀b u,h.get? b=some u->h'.get? b=some u):Q4 P w H h':=λa o e=>
 (x a o e).stay (λb u _ q=>k b u q) (λ_ q=>q) λ_ _ q=>q
theorem Q4.laid (x:Q4 P w H h) (k:∀b u,h.get? b=some u->h'.get? b=some u) (hp:h.objs.size<=a) (new:qA P w (upd H a o) h' a o):Q4 P w (upd H a o) h':=λb u e=>by
 have hn:=x.fresh hp
 by_cases hb:b=a
 . subst hb;rw[qd]at e;cases e;exact new
 . rw[qe hb]at e
   exact(x b u e).stay (λc v _ q=>k c v q) (λc q=>by rw[qe (qo q hn)];exact q) (λc xs q=>by rw[qe (qo q hn)];exact q) (λc o q=>by rw[qe (qo q hn)];exact q)
end
def Rd (H:Hp) (a:Addr) (u:HO):Prop:=H a=some u\/∃o,H a=some (.frz o u)
theorem Rd.ok {P:Program} {w:World} {H:Hp} {h:Heap} {a:Addr} {u:HO} (r:Rd H a u) (x:Q4 P w H h):qA P w H h a u:=by
 rcases r with r | ⟨o,r⟩
 . exact x a u r
 . obtain⟨_,q⟩:=x a _ r
   exact q
def uv:Option HO->Prop
 | some (.lst _)=>True
 | some (.dK _)=>True
 | some (.dT _)=>True
 | some (.set _ _)=>True
 | some (.ins _ _ _)=>True
 | some (.ext _)=>True
 | _=>False
section
variable {P:Program} {w:World} {H:Hp} {h h':Heap} {x e:Addr} {o':HO}
theorem Q4.write (ok:Q4 P w H h) (mu:uv (H x)) (he:e=x\/H e=some (.own x)) (k:∀b u,b≠e->h.get? b=some u->h'.get? b=some u) (heo:∃u,h'.get? e=some u)
   (new:qA P w (upd H x o') h' x o'):Q4 P w (upd H x o') h':=λb u q=>by
 have nown:∀c y,H c=some (.own y)->c≠x:=λc y r z=>by subst z;rw[r]at mu;exact mu
 have ntup:∀c xs,H c=some (.tup xs)->c≠x:=λc xs r z=>by subst z;rw[r]at mu;exact mu
 by_cases hb:b=x
 . subst hb;rw[qd]at q;cases q;exact new
 . rw[qe hb]at q
   by_cases hbe:b=e
   . have q':H b=some (.own x):=by
       rcases he with z | z
       . exact absurd (hbe.trans z) hb
       . rw[hbe];exact z
     rw[q]at q';cases q'
     obtain⟨v,hv⟩:=heo
     exact⟨v,by rw[hbe];exact hv⟩
   . refine(ok b u q).stay (λc v hc r=>k c v ?_ r) (λc r=>by rw[qe (nown c b r)];exact r) (λc xs r=>by rw[qe (ntup c xs r)];exact r) (λc o r=>by rw[qe (λz=>by subst z;rw[r]at mu;exact mu)];exact r)
     rcases hc with rfl | hc
     . exact hbe
     . rintro rfl
       rcases he with z | z
       . exact nown c b hc z
       . rw[hc]at z;cases z;exact hb rfl
end
structure Un (fs ex:List Addr) (H H':Hp) (h h':Heap):Prop where
 keep:∀b o,h.get? b=some o->H b=none->b∉fs->b∉ex->h'.get? b=some o
 slot:∀b o,h.get? b=some o->H b=none->b∈fs->b∉ex->∃sl,h'.get? b=some {o with slots:=sl}
 free:∀b o,h.get? b=some o->H b=none->b∉ex->H' b=none
 there:∀b o,h.get? b=some o->b∉ex->∃o',h'.get? b=some o'
 tups:∀b xs,H b=some (.tup xs)->H' b=some (.tup xs)
 frzs:∀b o u,H b=some (.frz o u)->H' b=some (.frz o u)
 tbls:∀b ps,H b=some (.tbl ps)->∃more,H' b=some (.tbl (ps++more))
section
variable {fs fs' ex ex':List Addr} {H H1 H2:Hp} {h h1 h2 h':Heap} {a x e:Addr} {o:HO}
theorem Un.any (u:Un fs ex H H1 h h1) {b:Addr} {ob:Obj} (q:h.get? b=some ob) (n:H b=none) (hx:b∉ex):∃sl,h1.get? b=some {ob with slots:=sl}:=by
 by_cases hb:b∈fs
 . exact u.slot b ob q n hb hx
 . exact⟨ob.slots,u.keep b ob q n hb hx⟩
theorem Un.kept (k:∀b u,h.get? b=some u->h'.get? b=some u):Un fs ex H H h h':=
 ⟨λb ob q _ _ _=>k b ob q,λb ob q _ _ _=>⟨ob.slots,k b ob q⟩,λ_ _ _ n _=>n,λb ob q _=>⟨ob,k b ob q⟩,λ_ _ q=>q,λ_ _ _ q=>q,λ_ ps q=>⟨#[],by rw[q];simp⟩⟩
theorem Un.refl:Un fs ex H H h h:=Un.kept λ_ _ q=>q
theorem Un.laid (k:∀b u,h.get? b=some u->h'.get? b=some u) (hp:h.objs.size<=a) (hn:H a=none):Un fs ex H (upd H a o) h h' where
 keep:=λb u q _ _ _=>k b u q
 slot:=λb u q _ _ _=>⟨u.slots,k b u q⟩
 free:=λb u q n _=>by rw[qe (Nat.ne_of_lt (Nat.lt_of_lt_of_le (Heap.lt_size q) hp))];exact n
 there:=λb u q _=>⟨u,k b u q⟩
 tups:=λb xs q=>by rw[qe (qo q hn)];exact q
 frzs:=λb u xs q=>by rw[qe (qo q hn)];exact q
 tbls:=λb ps q=>⟨#[],by rw[qe (qo q hn),q];simp⟩
theorem Un.write (mu:uv (H x)) (he:e=x\/H e=some (.own x)) (k:∀b u,b≠e->h.get? b=some u->h'.get? b=some u) (heo:∃u,h'.get? e=some u):Un fs ex H (upd H x o) h h':=by
 have hx:∀b,H b=none->b≠x:=λb n z=>by subst z;rw[n]at mu;exact mu
 have hb:∀b,H b=none->b≠e:=λb n z=>by
   subst z
   rcases he with r | r
   . exact hx b n r
   . rw[n]at r;cases r
 have hm:∀b u,H b=some u->¬uv (some u)->b≠x:=λb u q nm z=>by subst z;rw[q]at mu;exact nm mu
 refine⟨λb u q n _ _=>k b u (hb b n) q,λb u q n _ _=>⟨u.slots,k b u (hb b n) q⟩,λb u q n _=>by rw[qe (hx b n)];exact n,λb u q _=>?_,
   λb xs q=>by rw[qe (hm b _ q λz=>z)];exact q,λb u xs q=>by rw[qe (hm b _ q λz=>z)];exact q,λb ps q=>⟨#[],by rw[qe (hm b _ q λz=>z),q];simp⟩⟩
 by_cases hbe:b=e
 . subst hbe;exact heo
 . exact⟨u,k b u hbe q⟩
end
def KQ (h:Heap) (H:Hp):List Addr:=(List.range h.objs.size).filter λa=>(H a).isSome
def zY (h:Heap) (H:Hp):Heap:=PySem.W.hideAll h (KQ h H)
theorem Ur (h:Heap) (H:Hp):(zY h H).objs.size=h.objs.size:=PySem.W.hideAll_size _ _
theorem kh {h:Heap} {H:Hp} {b:Addr} {o:Obj} (e:h.get? b=some o) (n:H b=none):(zY h H).get? b=some o:=
 PySem.W.hideAll_get _ e λhm=>by
   have q:(H b).isSome=true:=(List.mem_filter.mp hm).2
   rw[n]at q;simp at q
theorem yF {h:Heap} {H:Hp} {b:Addr} {o:Obj} (e:(zY h H).get? b=some o):h.get? b=some o/\H b=none:=by
 have e':h.get? b=some o:=PySem.W.of_hideAll (KQ h H) e
 refine⟨e',?_⟩
 cases q:H b with
 | none=>rfl
 | some x=>
   have hm:b∈KQ h H:=List.mem_filter.mpr ⟨List.mem_range.mpr (Heap.lt_size e'),by simp [q]⟩
   have z:(zY h H).get? b=none:=PySem.W.hideAll_none (KQ h H) hm
   rw[z]at e;cases e
def xg (g h:Heap) (L:Addr):List (Addr×Obj):=(List.range h.objs.size).filterMap λa=>if a=L\/(g.get? a).isSome=true then none else (h.get? a).map λo=>(a,o)
def rest (g h:Heap) (L d:Addr):List (Addr×Obj):=(xg g h L).filter λp=>decide (p.1≠d)
end L2
namespace L2
open PySem PySem.Spec PyProof.Rows
structure Mod (K:PySem.W.Frag) (mg:Str->Option Value) (base:Heap):Prop where
 kin:K.In base
 glob:base.Ns mainGlobals mg
 blt:∃mb,base.Ns builtinsNs mb/\∀x:Str,x≠"__name__"->mb x=bootBuiltins x
 nolimit:base.NoLimit
structure Cx where
 prog:Program
 w:World
 K:PySem.W.Frag
 mg:Str->Option Value
 base:Heap
 A:Around
 N:List Str
 s₀:Shared
 H₀:Hp
 env:Env
 outer:List Env
 stack:List Env
 ex:List Addr
 fn:Str->Bool
 calm:Bool
 pn:List (Addr×Obj)
 xe:Value->Shared->Prop
def ZO (l:List Env):List Addr:=l.filterMap (·.frame)
abbrev Cx.fs (X:Cx):List Addr:=ZO X.outer
def ut (sc:Scope) (x:Str):Prop:=sc.names.lookup x=some .local\/sc.names.lookup x=some .cell\/sc.names.lookup x=some .free
def uy (sc:Scope) (x:Str):Prop:=sc.names.lookup x=some .local\/sc.names.lookup x=some .cell
def Rw (env:Env) (h:Heap) (m:Str->Option Value) (x:Str) (u:Value):Prop:=
 (env.kindOf x=some .local/\m x=some u)\/((env.kindOf x=some .cell\/env.kindOf x=some .free)/\∃c,env.cells.lookup x=some c/\h.IsCell c (some u))
structure Cx.Ok (X:Cx):Prop where
 mod:Mod X.K X.mg X.base
 kind:X.env.scope.kind=.function
 glob:X.env.globals=mainGlobals
 blt:X.env.builtins=builtinsNs
 above:X.s₀.heap.objs.size<=X.env.locals
 inj:∀x y c,X.env.cells.lookup x=some c->X.env.cells.lookup y=some c->x=y
 has:∀x,(X.env.kindOf x=some .cell\/X.env.kindOf x=some .free)->∃c,X.env.cells.lookup x=some c
 cab:∀x c,X.fn x=true->X.env.cells.lookup x=some c->X.s₀.heap.objs.size<=c
 hd:X.calm=true->X.A.handled=none
 frames:X.A.frames=some X.stack
 stk:X.stack=X.outer\/(X.stack=X.env::X.outer/\X.env.frame=some X.env.locals)
 exf:∀b∈X.ex,b≠X.env.locals/\∀x c,X.env.cells.lookup x=some c->c≠b
 bs:∀b o,X.base.get? b=some o->X.s₀.heap.get? b=some o/\X.H₀ b=none
 bsz:X.base.objs.size<=X.s₀.heap.objs.size
 noex:∀b o,X.base.get? b=some o->b∉X.ex
 exfs:∀b∈X.ex,b∉X.fs
 funs:X.s₀.heap.FunFrames X.base X.outer
 frf:∀b∈X.fs,X.H₀ b=none
structure qu (X:Cx) (pins:List (Addr×Obj)) (σ:List (Option V)) (H:Hp) (s:Shared):Prop where
 ok:X.Ok
 os:s.os=X.s₀.os
 bare:AllBare s.gens
 base:Un X.fs X.ex X.H₀ H X.s₀.heap s.heap
 loc:∃m,s.heap.Ns X.env.locals m/\∀(i:Nat) (x:Str) (v:V),X.N[i]?=some x->σ[i]?=some (some v)->ut X.env.scope x->∃u,qH v u/\Rw X.env s.heap m x u
 cell:∀x c,X.env.cells.lookup x=some c->∃v,s.heap.IsCell c v
 free:H X.env.locals=none
 freeC:∀x c,X.env.cells.lookup x=some c->H c=none\/(X.fn x=false/\∃o,H c=some (.frz o (.frz o (.own 0))))
 pin:∀p∈X.pn++pins,s.heap.get? p.1=some p.2/\H p.1=none/\p.1≠X.env.locals/\p.1∉X.fs/\∀v,p.2.data≠.cell v
 hok:Q4 X.prog X.w H s.heap
 len:σ.length=X.N.length
section
variable {X:Cx} {pins:List (Addr×Obj)} {σ:List (Option V)} {H H':Hp} {s:Shared} {h':Heap}
theorem Cx.Ok.nofr (ok:X.Ok) {b:Addr} {o:Obj} (e:X.base.get? b=some o):b∉X.fs:=λhb=>by
 have:=(ok.funs.mem hb).1
 rw[e]at this;cases this
theorem qu.bs (I:qu X pins σ H s):∀b o,X.base.get? b=some o->s.heap.get? b=some o/\H b=none:=λb o e=>
 ⟨I.base.keep b o (I.ok.bs b o e).1 (I.ok.bs b o e).2 (I.ok.nofr e) (I.ok.noex b o e),I.base.free b o (I.ok.bs b o e).1 (I.ok.bs b o e).2 (I.ok.noex b o e)⟩
theorem qu.bk (I:qu X pins σ H s):∀b o,X.base.get? b=some o->s.heap.get? b=some o:=λb o e=>(I.bs b o e).1
theorem qu.mod (I:qu X pins σ H s):Mod X.K X.mg X.base:=I.ok.mod
theorem qu.kIn (I:qu X pins σ H s):X.K.In s.heap:=I.ok.mod.kin.keeps I.bk
theorem qu.lt (I:qu X pins σ H s):X.env.locals < s.heap.objs.size:=let ⟨_,hn,_⟩:=I.loc;hn.lt
theorem qu.sz (I:qu X pins σ H s):X.s₀.heap.objs.size<=s.heap.objs.size:=Nat.le_trans I.ok.above (Nat.le_of_lt I.lt)
theorem qu.nofs (I:qu X pins σ H s) {a:Addr} (h:s.heap.objs.size<=a):a∉X.fs:=λhb=>by
 obtain⟨_,o,ho,_⟩:=I.ok.funs.mem hb
 exact absurd (Nat.lt_of_lt_of_le (Heap.lt_size ho) (Nat.le_trans I.sz h)) (Nat.lt_irrefl _)
theorem qu.cne (I:qu X pins σ H s):∀x c,X.env.cells.lookup x=some c->c≠X.env.locals:=λx c e z=>by
 obtain⟨v,o,ho,hd⟩:=I.cell x c e
 obtain⟨m,⟨o',es,ep,ho',hd',_⟩,_⟩:=I.loc
 rw[z,ho']at ho;cases ho;rw[hd']at hd;cases hd
theorem qu.funs (I:qu X pins σ H s):s.heap.FunFrames X.base X.outer:=by
 have all:∀(l:List Env),(∀b∈ZO l,b∈X.fs)->X.s₀.heap.FunFrames X.base l->s.heap.FunFrames X.base l:=by
   intro l
   induction l with
   | nil=>intro _ _;trivial
   | cons env r ih=>
     intro hs hl
     obtain⟨hk,⟨L,o,hf,hn,ho,hd⟩,hr⟩:=hl
     have hL:L∈X.fs:=hs L (by unfold ZO;rw[List.filterMap_cons,hf];exact List.mem_cons_self)
     obtain⟨sl,e⟩:=I.base.slot L o ho (I.ok.frf L hL) hL λz=>I.ok.exfs L z hL
     exact⟨hk,⟨L,_,hf,hn,e,hd⟩,ih (λb hb=>hs b (by unfold ZO;rw[List.filterMap_cons,hf];exact List.mem_cons_of_mem _ hb)) hr⟩
 exact all X.outer (λ_ hb=>hb) I.ok.funs
theorem qu.stack (I:qu X pins σ H s):s.heap.FunFrames X.base X.stack:=by
 rcases I.ok.stk with e | ⟨e,hf⟩
 . rw[e];exact I.funs
 . rw[e]
   obtain⟨m,hn,_⟩:=I.loc
   refine .cons (by rw[I.ok.kind];decide) hf hn ?_ I.funs
   exact Heap.get?_none_of_le (Nat.le_trans I.ok.bsz I.ok.above)
theorem qu.stkSub (I:qu X pins σ H s):∀b∈ZO X.stack,b∈X.env.locals::X.fs:=λb hb=>by
 rcases I.ok.stk with e | ⟨e,hf⟩
 . rw[e]at hb;exact List.mem_cons_of_mem _ hb
 . rw[e]at hb
   unfold ZO at hb
   rw[List.filterMap_cons,hf]at hb
   exact hb
theorem qu.stkFree (I:qu X pins σ H s):∀b∈ZO X.stack,H b=none:=λb hb=>by
 rcases List.mem_cons.mp (I.stkSub b hb) with e | hb
 . rw[e];exact I.free
 . obtain⟨_,o,ho,_⟩:=I.ok.funs.mem hb
   exact I.base.free b o ho (I.ok.frf b hb) λz=>I.ok.exfs b z hb
theorem qu.step {g':Array GenState} {t':Nat} {d':Drawn} {ch:List Addr} (I:qu X pins σ H s)
   (hch:∀b∈ch,(b∈X.ex\/X.s₀.heap.objs.size<=b)/\b≠X.env.locals/\(∀x c,X.env.cells.lookup x=some c->c≠b)/\∀p∈X.pn++pins,p.1≠b)
   (keep:∀b o,b≠X.env.locals->b∉X.fs->b∉ch->s.heap.get? b=some o->H b=none->h'.get? b=some o)
   (slot:∀b o,b≠X.env.locals->b∈X.fs->b∉ch->s.heap.get? b=some o->H b=none->∃sl,h'.get? b=some {o with slots:=sl}) (free:∀b o,b∉ch->s.heap.get? b=some o->H b=none->H' b=none)
   (there:∀b o,b∉ch->s.heap.get? b=some o->∃o',h'.get? b=some o')
   (tups:∀b xs,H b=some (.tup xs)->H' b=some (.tup xs)) (frzs:∀b o u,H b=some (.frz o u)->H' b=some (.frz o u)) (tbls:∀b ps,H b=some (.tbl ps)->∃more,H' b=some (.tbl (ps++more)))
   (ns:∀m,s.heap.Ns X.env.locals m->h'.Ns X.env.locals m) (hok:Q4 X.prog X.w H' h') (hg:AllBare g'):
   qu X pins σ H' {s with heap:=h',gens:=g',drawn:=d',toks:=t'}:=by
 have neL:∀b o,X.s₀.heap.get? b=some o->b≠X.env.locals:=λb o e=>Nat.ne_of_lt (Nat.lt_of_lt_of_le (Heap.lt_size e) I.ok.above)
 have neC:∀b o,X.s₀.heap.get? b=some o->b∉X.ex->b∉ch:=λb o e hx hb=>by
   rcases(hch b hb).1 with z | z
   . exact hx z
   . exact absurd (Nat.lt_of_lt_of_le (Heap.lt_size e) z) (Nat.lt_irrefl _)
 have cellK:∀x c,X.env.cells.lookup x=some c->∀v,s.heap.IsCell c v->h'.IsCell c v:=λx c e v ⟨o,ho,hd⟩=>by
   have nch:c∉ch:=λz=>(hch c z).2.2.1 x c e rfl
   rcases I.freeC x c e with fc | ⟨_,oc,fc⟩
   . by_cases hc:c∈X.fs
     . obtain⟨sl,q⟩:=slot c o (I.cne x c e) hc nch ho fc
       exact⟨_,q,hd⟩
     . exact⟨o,keep c o (I.cne x c e) hc nch ho fc,hd⟩
   . obtain⟨e1,_⟩:=(show qA X.prog X.w H s.heap c (.frz oc (.frz oc (.own 0))) from I.hok c _ fc)
     obtain⟨e2,_⟩:=(show qA X.prog X.w H' h' c (.frz oc (.frz oc (.own 0))) from hok c _ (frzs c oc _ fc))
     rw[ho]at e1
     cases e1
     exact⟨o,e2,hd⟩
 refine⟨I.ok,I.os,hg,⟨λb o e n hb hx=>?_,λb o e n hb hx=>?_,λb o e n hx=>?_,λb o e hx=>?_,λb xs e=>tups b xs (I.base.tups b xs e),λb o xs e=>frzs b o xs (I.base.frzs b o xs e),λb ps e=>?_⟩,?_,λx c e=>?_,?_,λx c e=>?_,λp hp=>?_,hok,I.len⟩
 . exact keep b o (neL b o e) hb (neC b o e hx) (I.base.keep b o e n hb hx) (I.base.free b o e n hx)
 . obtain⟨sl,e1⟩:=I.base.slot b o e n hb hx
   obtain⟨sl',e2⟩:=slot b _ (neL b o e) hb (neC b o e hx) e1 (I.base.free b o e n hx)
   exact⟨sl',e2⟩
 . obtain⟨o',e1⟩:=I.base.there b o e hx
   exact free b o' (neC b o e hx) e1 (I.base.free b o e n hx)
 . obtain⟨o',e1⟩:=I.base.there b o e hx
   exact there b o' (neC b o e hx) e1
 . obtain⟨m1,e1⟩:=I.base.tbls b ps e
   obtain⟨m2,e2⟩:=tbls b _ e1
   exact⟨m1++m2,by rw[e2,Array.append_assoc]⟩
 . obtain⟨m,hn,hl⟩:=I.loc
   refine⟨m,ns m hn,λi x v e1 e2 e3=>?_⟩
   obtain⟨u,r,l⟩:=hl i x v e1 e2 e3
   refine⟨u,r,?_⟩
   rcases l with l | ⟨k,c,e,z⟩
   . exact .inl l
   . exact .inr ⟨k,c,e,cellK x c e _ z⟩
 . obtain⟨v,z⟩:=I.cell x c e
   exact⟨v,cellK x c e v z⟩
 . obtain⟨m,⟨o,_,_,ho,_⟩,_⟩:=I.loc
   exact free _ o (λz=>(hch _ z).2.1 rfl) ho I.free
 . obtain⟨v,o,ho,hd⟩:=I.cell x c e
   rcases I.freeC x c e with fc | ⟨fx,oc,fc⟩
   . exact .inl (free c o (λz=>(hch c z).2.2.1 x c e rfl) ho fc)
   . exact .inr ⟨fx,oc,frzs c oc _ fc⟩
 . obtain⟨e,n,ne,nf,d⟩:=I.pin p hp
   have nch:p.1∉ch:=λz=>(hch p.1 z).2.2.2 p hp rfl
   exact⟨keep p.1 p.2 ne nf nch e n,free p.1 p.2 nch e n,ne,nf,d⟩
theorem qu.un {t':Nat} (I:qu X pins σ H s) (u:Un X.fs [] H H' s.heap h') (hok:Q4 X.prog X.w H' h'):qu X pins σ H' {s with heap:=h',toks:=t'}:=by
 obtain⟨m,⟨o,es,ep,ho,r⟩,_⟩:=id I.loc
 obtain⟨sl,hL⟩:=u.any ho I.free (by simp)
 exact I.step (g':=s.gens) (d':=s.drawn) (ch:=[]) (λ_ z=>nomatch z) (λb o _ hb _ e n=>u.keep b o e n hb (by simp)) (λb o _ hb _ e n=>u.slot b o e n hb (by simp)) (λb o _ e n=>u.free b o e n (by simp)) (λb o _ e=>u.there b o e (by simp)) u.tups u.frzs u.tbls (λm' hm=>by
   obtain⟨o',es',ep',ho',r'⟩:=hm
   rw[ho]at ho';cases ho'
   exact⟨_,es',ep',hL,r'⟩) hok I.bare
theorem qu.call {g':Array GenState} {t':Nat} {d':Drawn} {ch:List Addr} (I:qu X pins σ H s) (u:Un (ZO X.stack) ch H H' s.heap h') (hok:Q4 X.prog X.w H' h') (hg:AllBare g')
   (hch:∀b∈ch,(b∈X.ex\/X.s₀.heap.objs.size<=b)/\b≠X.env.locals/\(∀x c,X.env.cells.lookup x=some c->c≠b)/\∀p∈X.pn++pins,p.1≠b):
   qu X pins σ H' {s with heap:=h',gens:=g',drawn:=d',toks:=t'}:=by
 obtain⟨m,⟨o,es,ep,ho,r⟩,_⟩:=id I.loc
 obtain⟨sl,hL⟩:=u.any ho I.free λz=>(hch _ z).2.1 rfl
 exact I.step (ch:=ch) hch (λb o hL hb hc e n=>u.keep b o e n (λz=>(List.mem_cons.mp (I.stkSub b z)).elim hL hb) hc) (λb o _ _ hc e n=>u.any e n hc) (λb o hc e n=>u.free b o e n hc) (λb o hc e=>u.there b o e hc) u.tups u.frzs u.tbls (λm' hm=>by
   obtain⟨o',es',ep',ho',r'⟩:=hm
   rw[ho]at ho';cases ho'
   exact⟨_,es',ep',hL,r'⟩) hok hg
theorem qu.turned {t':Nat} {it:Addr} (I:qu X pins σ H s) (k:∀b o,b≠it->s.heap.get? b=some o->h'.get? b=some o) (hn:H it=none) (hL:it≠X.env.locals)
   (h1:it∈X.ex\/X.s₀.heap.objs.size<=it) (h2:∀x c,X.env.cells.lookup x=some c->c≠it) (h3:∀p∈X.pn++pins,p.1≠it):qu X pins σ H {s with heap:=h',toks:=t'}:=by
 have nit:∀b u,H b=some u->b≠it:=λb u e z=>by rw[z,hn]at e;cases e
 refine I.step (g':=s.gens) (d':=s.drawn) (ch:=[it]) (λb hb=>?_) (λb o _ _ hc e _=>k b o (λz=>hc (by simp [z])) e) (λb o _ _ hc e _=>⟨o.slots,k b o (λz=>hc (by simp [z])) e⟩) (λ_ _ _ _ n=>n)
   (λb o hc e=>⟨o,k b o (λz=>hc (by simp [z])) e⟩) (λ_ _ e=>e) (λ_ _ _ e=>e) (λb ps e=>⟨#[],by rw[e];simp⟩) (λm hm=>?_) (λb u e=>?_) I.bare
 . have e:b=it:=by simpa using hb
   subst e
   exact⟨h1,hL,h2,h3⟩
 . obtain⟨o,es,ep,ho,r⟩:=hm
   exact⟨o,es,ep,k _ o (Ne.symm hL) ho,r⟩
 . refine(I.hok b u e).stay (λc v hc q=>k c v ?_ q) (λ_ q=>q) λ_ _ q=>q
   rcases hc with z | z
   . rw[z];exact nit b u e
   . exact nit c _ z
theorem qu.tok (I:qu X pins σ H s) (t:Nat):qu X pins σ H {s with toks:=t}:=I.un (h':=s.heap) (t':=t) Un.refl I.hok
theorem qu.kept {t':Nat} (I:qu X pins σ H s) (k:∀b u,s.heap.get? b=some u->h'.get? b=some u):qu X pins σ H {s with heap:=h',toks:=t'}:=I.un (Un.kept k) (I.hok.kept k)
theorem qu.laid {a:Addr} {o:HO} {t':Nat} (I:qu X pins σ H s) (k:∀b u,s.heap.get? b=some u->h'.get? b=some u) (hp:s.heap.objs.size<=a) (new:qA X.prog X.w (upd H a o) h' a o):
   qu X pins σ (upd H a o) {s with heap:=h',toks:=t'}:=I.un (Un.laid k hp (I.hok.fresh hp)) (I.hok.laid k hp new)
theorem qu.write {x e:Addr} {o:HO} {t':Nat} (I:qu X pins σ H s) (mu:uv (H x)) (he:e=x\/H e=some (.own x)) (k:∀b u,b≠e->s.heap.get? b=some u->h'.get? b=some u) (heo:∃u,h'.get? e=some u)
   (new:qA X.prog X.w (upd H x o) h' x o):qu X pins σ (upd H x o) {s with heap:=h',toks:=t'}:=I.un (Un.write mu he k heo) (I.hok.write mu he k heo new)
theorem qu.pins_of {pins':List (Addr×Obj)} (I:qu X pins σ H s) (h:∀p∈pins',s.heap.get? p.1=some p.2/\H p.1=none/\p.1≠X.env.locals/\p.1∉X.fs/\∀v,p.2.data≠.cell v):qu X pins' σ H s:=
 ⟨I.ok,I.os,I.bare,I.base,I.loc,I.cell,I.free,I.freeC,λp hp=>(List.mem_append.mp hp).elim (λz=>I.pin p (List.mem_append_left _ z)) (h p),I.hok,I.len⟩
theorem zy {N:List Str} (hN:N.Nodup) {i j:Nat} {x:Str} (a:N[i]?=some x) (b:N[j]?=some x):i=j:=by
 obtain⟨h1,e1⟩:=List.getElem?_eq_some_iff.mp a
 obtain⟨h2,e2⟩:=List.getElem?_eq_some_iff.mp b
 exact(List.getElem_inj hN).mp (e1.trans e2.symm)
theorem Zu {M:Model} {A:Around} {E:Value->Shared->Prop} {i:Nat} {x:Str} {v:V} {u:Value} {Q:Unit->Shared->Prop} (I:qu X pins σ H s) (hN:X.N.Nodup) (hi:X.N[i]?=some x) (hx:uy X.env.scope x) (r:qH v u)
   (h:∀s',qu X pins (σ.set i (some v)) H s'->(∃a,Heap.SameBut a s.heap s'.heap/\(a=X.env.locals\/X.env.cells.lookup x=some a))->Q () s') (hf:X.fn x=true\/X.env.scope.names.lookup x=some .local:=by first | exact .inl rfl | exact .inr rfl | assumption):wpAny M A (storeName X.env x u) Q E s:=by
 obtain⟨m,hn,hl⟩:=id I.loc
 have hcls:(X.env.scope.kind==.class || (X.env.scope.kind==.module&&X.env.locals != X.env.globals))=false:=by rw[I.ok.kind];rfl
 have hiσ:i < σ.length:=by rw[I.len];exact(List.getElem?_eq_some_iff.mp hi).1
 have cne:=I.cne
 have tracked:∀{a:Addr} {h':Heap},(∃o,s.heap.get? a=some o/\H a=none)->Heap.SameBut a s.heap h'->Q4 X.prog X.w H h':=λ{a h'} ha hs b ob e=>by
   obtain⟨_,_,hfree⟩:=ha
   refine(I.hok b ob e).stay (λc w' hc q=>(hs.2 c ?_).trans q) (λ_ q=>q) λ_ _ q=>q
   rintro rfl
   rcases hc with rfl | hc
   . rw[hfree]at e;cases e
   . rw[hfree]at hc;cases hc
 rcases hx with hk | hk
 . refine wpAny_storeName_local hk hn (λh' hn' hs=>?_) hcls
   obtain⟨oL,_,_,hoL,_⟩:=id hn
   refine h _ ⟨I.ok,I.os,I.bare,⟨λb o e n hb hx=>?_,λb o e n hb hx=>?_,I.base.free,λb o e hx=>?_,I.base.tups,I.base.frzs,I.base.tbls⟩,⟨_,hn',λj y v' e1 e2 e3=>?_⟩,λy c e=>?_,I.free,I.freeC,λp hp=>?_,tracked ⟨oL,hoL,I.free⟩ hs,by simpa using I.len⟩ ⟨_,hs,.inl rfl⟩
   . exact(hs.2 b (Nat.ne_of_lt (Nat.lt_of_lt_of_le (Heap.lt_size e) I.ok.above))).trans (I.base.keep b o e n hb hx)
   . obtain⟨sl,e1⟩:=I.base.slot b o e n hb hx
     exact⟨sl,(hs.2 b (Nat.ne_of_lt (Nat.lt_of_lt_of_le (Heap.lt_size e) I.ok.above))).trans e1⟩
   . obtain⟨o',e1⟩:=I.base.there b o e hx
     exact⟨o',(hs.2 b (Nat.ne_of_lt (Nat.lt_of_lt_of_le (Heap.lt_size e) I.ok.above))).trans e1⟩
   . by_cases hj:j=i
     . subst hj
       rw[hi]at e1;cases e1
       rw[List.getElem?_set_self hiσ]at e2
       cases e2
       exact⟨u,r,.inl ⟨hk,by simp⟩⟩
     . rw[List.getElem?_set_ne (Ne.symm hj)]at e2
       obtain⟨u',r',q⟩:=hl j y v' e1 e2 e3
       refine⟨u',r',?_⟩
       rcases q with ⟨k,e⟩ | ⟨k,c,e,z⟩
       . refine .inl ⟨k,?_⟩
         have:y≠x:=λe=>hj (zy hN e1 (e▸hi))
         simp [this,e]
       . exact .inr ⟨k,c,e,z.sameBut hs (cne y c e)⟩
   . obtain⟨w',z⟩:=I.cell y c e
     exact⟨w',z.sameBut hs (cne y c e)⟩
   . obtain⟨e,n,ne,nf,d⟩:=I.pin p hp
     exact⟨(hs.2 p.1 ne).trans e,n,ne,nf,d⟩
 . have hfn:X.fn x=true:=by
     rcases hf with z | z
     . exact z
     . rw[z]at hk;cases hk
   obtain⟨c,hc⟩:=I.ok.has x (.inl hk)
   obtain⟨w',z⟩:=I.cell x c hc
   refine wpAny_storeName_cell I.ok.kind hk hc z (λh' hc' hs=>?_)
   obtain⟨oc,hoc,hocd⟩:=id z
   have fcn:H c=none:=(I.freeC x c hc).elim id λz=>by rw[hfn]at z;cases z.1
   refine h {s with heap:=h'} ⟨I.ok,I.os,I.bare,⟨λb o e n hb hx=>?_,λb o e n hb hx=>?_,I.base.free,λb o e hx=>?_,I.base.tups,I.base.frzs,I.base.tbls⟩,⟨m,hn.sameBut hs (Ne.symm (cne x c hc)),λj y v' e1 e2 e3=>?_⟩,λy c' e=>?_,I.free,I.freeC,λp hp=>?_,tracked ⟨oc,hoc,fcn⟩ hs,by simpa using I.len⟩ ⟨c,hs,.inr hc⟩
   . exact(hs.2 b (Nat.ne_of_lt (Nat.lt_of_lt_of_le (Heap.lt_size e) (I.ok.cab x c hfn hc)))).trans (I.base.keep b o e n hb hx)
   . obtain⟨sl,e1⟩:=I.base.slot b o e n hb hx
     exact⟨sl,(hs.2 b (Nat.ne_of_lt (Nat.lt_of_lt_of_le (Heap.lt_size e) (I.ok.cab x c hfn hc)))).trans e1⟩
   . obtain⟨o',e1⟩:=I.base.there b o e hx
     exact⟨o',(hs.2 b (Nat.ne_of_lt (Nat.lt_of_lt_of_le (Heap.lt_size e) (I.ok.cab x c hfn hc)))).trans e1⟩
   . by_cases hj:j=i
     . subst hj
       rw[hi]at e1;cases e1
       rw[List.getElem?_set_self hiσ]at e2
       cases e2
       exact⟨u,r,.inr ⟨.inl hk,c,hc,hc'⟩⟩
     . rw[List.getElem?_set_ne (Ne.symm hj)]at e2
       obtain⟨u',r',q⟩:=hl j y v' e1 e2 e3
       refine⟨u',r',?_⟩
       rcases q with q | ⟨k,c',e,z'⟩
       . exact .inl q
       . refine .inr ⟨k,c',e,z'.sameBut hs ?_⟩
         rintro rfl
         exact hj (zy hN e1 (I.ok.inj _ _ _ e hc▸hi))
   . by_cases hcc:c'=c
     . subst hcc;exact⟨_,hc'⟩
     . obtain⟨w2,z2⟩:=I.cell y c' e
       exact⟨w2,z2.sameBut hs hcc⟩
   . obtain⟨e,n,ne,nf,d⟩:=I.pin p hp
     refine⟨(hs.2 p.1 ?_).trans e,n,ne,nf,d⟩
     intro q
     rw[q,hoc]at e
     have q':oc=p.2:=Option.some.inj e
     exact d w' (by rw[<-q'];exact hocd)
theorem zb {M:Model} {A:Around} {E:Value->Shared->Prop} {i:Nat} {x:Str} {v:V} {u:Value} {Q:Unit->Shared->Prop} (I:qu X pins σ H s) (hN:X.N.Nodup) (hi:X.N[i]?=some x) (hx:uy X.env.scope x) (r:qH v u)
   (h:∀s',qu X pins (σ.set i (some v)) H s'->Q () s') (hf:X.fn x=true\/X.env.scope.names.lookup x=some .local:=by first | exact .inl rfl | exact .inr rfl | assumption):wpAny M A (storeName X.env x u) Q E s:=
 Zu I hN hi hx r (λs' I' _=>h s' I') hf
theorem qu.call' {s':Shared} {ch:List Addr} (I:qu X pins σ H s) (ho:s'.os=s.os) (u:Un (ZO X.stack) ch H H' s.heap s'.heap) (hok:Q4 X.prog X.w H' s'.heap) (hg:AllBare s'.gens)
   (hch:∀b∈ch,(b∈X.ex\/X.s₀.heap.objs.size<=b)/\b≠X.env.locals/\(∀x c,X.env.cells.lookup x=some c->c≠b)/\∀p∈X.pn++pins,p.1≠b):qu X pins σ H' s':=by
 obtain⟨h',g',d',t',o'⟩:=s'
 have e:o'=s.os:=ho
 subst e
 exact I.call (g':=g') (t':=t') (d':=d') u hok hg hch
end
abbrev XK:=Value->Option Addr->Hp->Prop
abbrev St:=List (Option V)
abbrev VK:=V->Hp->Prop
abbrev TE:=St->Hp->VK->Prop
abbrev TT:=St->Hp->(Bool->Hp->Prop)->Prop
abbrev TA:=St->Hp->(List V->Hp->Prop)->Prop
structure QB where
 nx:St->Hp->Prop
 rt:VK
 bk:St->Hp->Prop:=λ_ _=>False
 ct:St->Hp->Prop:=λ_ _=>False
abbrev TS:=QB->St->Hp->Prop
def EP (X:Cx) (pins:List (Addr×Obj)) (σ:St) (Q:VK) (u:Value) (s':Shared):Prop:=∃v H',qu X pins σ H' s'/\qH v u/\Q v H'
def TP (X:Cx) (pins:List (Addr×Obj)) (σ:St) (Q:Bool->Hp->Prop) (b:Bool) (s':Shared):Prop:=∃H',qu X pins σ H' s'/\Q b H'
def AP (X:Cx) (pins:List (Addr×Obj)) (σ:St) (Q:List V->Hp->Prop) (us:List Value) (s':Shared):Prop:=∃vs H',qu X pins σ H' s'/\qB vs us/\Q vs H'
def SP (X:Cx) (pins:List (Addr×Obj)) (D:QB) (f:Flow) (s':Shared):Prop:=
 match f with
 | .next=>∃σ' H',qu X pins σ' H' s'/\D.nx σ' H'
 | .brk=>∃σ' H',qu X pins σ' H' s'/\D.bk σ' H'
 | .cont=>∃σ' H',qu X pins σ' H' s'/\D.ct σ' H'
 | .ret u=>∃v σ' H',qu X pins σ' H' s'/\qH v u/\D.rt v H'
def PE (X:Cx) (e:Expr) (t:TE):Prop:=
 ∀(pins:List (Addr×Obj)) (s:Shared) (σ:St) (H:Hp) (Q:VK),qu X pins σ H s->t σ H Q->wpAny (model X.prog X.w) X.A (eval e X.env) (EP X pins σ Q) X.xe s
@[irreducible] def JE (X:Cx) (e:Expr) (t:TE):Prop:=PE X e t
theorem JE.of {X:Cx} {e:Expr} {t:TE} (h:PE X e t):JE X e t:=by unfold JE;exact h
theorem JE.to {X:Cx} {e:Expr} {t:TE} (h:JE X e t):PE X e t:=by unfold JE at h;exact h
def PT (X:Cx) (e:Expr) (t:TT):Prop:=
 ∀(pins:List (Addr×Obj)) (s:Shared) (σ:St) (H:Hp) (Q:Bool->Hp->Prop),qu X pins σ H s->t σ H Q->wpAny (model X.prog X.w) X.A (isTrue e X.env (eval e X.env)) (TP X pins σ Q) X.xe s
@[irreducible] def JT (X:Cx) (e:Expr) (t:TT):Prop:=PT X e t
theorem JT.of {X:Cx} {e:Expr} {t:TT} (h:PT X e t):JT X e t:=by unfold JT;exact h
theorem JT.to {X:Cx} {e:Expr} {t:TT} (h:JT X e t):PT X e t:=by unfold JT at h;exact h
def PW (X:Cx) (e:Expr) (t:TT):Prop:=
 ∀(whole:Sem Value) (pins:List (Addr×Obj)) (s:Shared) (σ:St) (H:Hp) (Q:Bool->Hp->Prop),qu X pins σ H s->t σ H Q->wpAny (model X.prog X.w) X.A (isTrue e X.env whole) (TP X pins σ Q) X.xe s
theorem PW.pt {X:Cx} {e:Expr} {t:TT} (h:PW X e t):PT X e t:=h _
@[irreducible] def JW (X:Cx) (e:Expr) (t:TT):Prop:=PW X e t
theorem JW.of {X:Cx} {e:Expr} {t:TT} (h:PW X e t):JW X e t:=by unfold JW;exact h
theorem JW.to {X:Cx} {e:Expr} {t:TT} (h:JW X e t):PW X e t:=by unfold JW at h;exact h
theorem JW.pt {X:Cx} {e:Expr} {t:TT} (h:JW X e t):JT X e t:=.of h.to.pt
def PA (X:Cx) (es:List Expr) (t:TA):Prop:=
 ∀(pos:Pos) (pins:List (Addr×Obj)) (s:Shared) (σ:St) (H:Hp) (Q:List V->Hp->Prop),qu X pins σ H s->t σ H Q->wpAny (model X.prog X.w) X.A (spliced (backTo pos (starEach es X.env))) (AP X pins σ Q) X.xe s
@[irreducible] def JA (X:Cx) (es:List Expr) (t:TA):Prop:=PA X es t
theorem JA.of {X:Cx} {es:List Expr} {t:TA} (h:PA X es t):JA X es t:=by unfold JA;exact h
theorem JA.to {X:Cx} {es:List Expr} {t:TA} (h:JA X es t):PA X es t:=by unfold JA at h;exact h
def PS (X:Cx) (st:Stmt) (t:TS):Prop:=
 ∀(pins:List (Addr×Obj)) (s:Shared) (σ:St) (H:Hp) (D:QB),qu X pins σ H s->t D σ H->wpAny (model X.prog X.w) X.A (exec st X.env) (SP X pins D) X.xe s
@[irreducible] def JS (X:Cx) (st:Stmt) (t:TS):Prop:=PS X st t
theorem JS.of {X:Cx} {st:Stmt} {t:TS} (h:PS X st t):JS X st t:=by unfold JS;exact h
theorem JS.to {X:Cx} {st:Stmt} {t:TS} (h:JS X st t):PS X st t:=by unfold JS at h;exact h
def kI (X:Cx) (st:List Stmt) (t:TS):Prop:=
 ∀(pins:List (Addr×Obj)) (s:Shared) (σ:St) (H:Hp) (D:QB),qu X pins σ H s->t D σ H->wpAny (model X.prog X.w) X.A (execs st X.env) (SP X pins D) X.xe s
@[irreducible] def zZ (X:Cx) (st:List Stmt) (t:TS):Prop:=kI X st t
theorem zZ.of {X:Cx} {st:List Stmt} {t:TS} (h:kI X st t):zZ X st t:=by unfold zZ;exact h
theorem zZ.to {X:Cx} {st:List Stmt} {t:TS} (h:zZ X st t):kI X st t:=by unfold zZ at h;exact h
theorem jc {α:Type} {t:Sem α} {Q Q':α->Shared->Prop} {M:Model} {A:Around} {E:Value->Shared->Prop} {s:Shared} (h:wpAny M A t Q E s) (hQ:∀a s,Q a s->Q' a s):wpAny M A t Q' E s:=wpAny_mono h hQ λ_ _ x=>x
end L2
namespace L2
open PySem PySem.Spec PyProof.Rows
section
variable {X:Cx}
def jH (i:Nat):TE:=λσ H Q=>∃v,σ[i]?=some (some v)/\Q v H
def tC (v:V):TE:=λ_ H Q=>Q v H
theorem vg {i:Nat} {x:Str} {pos:Pos} (hN:X.N[i]?=some x) (hv:ut X.env.scope x) (hd:(x==("__debug__":Str))=false:=by decide) (hcd:(x==("__classdict__":Str))=false:=by decide):PE X (.Name x pos) (jH i):=by
 intro pins s σ H Q I h
 obtain⟨v,e,h⟩:=h
 obtain⟨m,hn,hl⟩:=I.loc
 obtain⟨u,r,l⟩:=hl i x v hN e hv
 have fin:EP X pins σ Q u s:=⟨v,H,I,r,h⟩
 rcases l with ⟨hk,hm⟩ | ⟨hk,c,hc,hcell⟩
 . exact wpAny_Name (wpAny_loadName_local I.ok.kind hk hn hm fin) hd
 . rcases hk with hk | hk
   . exact wpAny_Name (wpAny_loadName_cell I.ok.kind hk hc hcell fin) hd
   . exact wpAny_Name (wpAny_loadName_free I.ok.kind hk hc hcell fin hcd) hd
theorem ql {i j pos}:JE X (.Constant (.int i) j pos) (tC (.int i)):=.of (by
 exact λ_ _ _ H _ I h=>wpAny_Constant_int ⟨.int i,H,I.tok _,⟨_,rfl⟩,h⟩)
theorem Q3 {b j pos}:JE X (.Constant (.bool b) j pos) (tC (.bl b)):=.of (by
 exact λ_ _ _ H _ I h=>Constant_bool ⟨.bl b,H,I,rfl,h⟩)
theorem zG {j pos}:JE X (.Constant .none j pos) (tC .non):=.of (by
 exact λ_ _ _ H _ I h=>Constant_none ⟨.non,H,I,rfl,h⟩)
theorem je {x j pos}:JE X (.Constant (.str x) j pos) (tC (.str x)):=.of (by
 exact λ_ _ _ H _ I h=>Calls.Constant_str ⟨.str x,H,I.tok _,⟨_,rfl⟩,h⟩)
def Gl (X:Cx) (x:Str):Prop:=X.env.kindOf x=some .globalImplicit
theorem Ze {E:Value->Shared->Prop} {pins:List (Addr×Obj)} {s:Shared} {σ:St} {H:Hp} {x:Str} {u:Value} {pos:Pos} {Q:Value->Shared->Prop} (I:qu X pins σ H s) (hg:Gl X x) (hm:X.mg x=some u) (h:Q u s)
   (hd:(x==("__debug__":Str))=false:=by decide):wpAny (model X.prog X.w) X.A (eval (.Name x pos) X.env) Q E s:=
 Calls.Name_function_global I.ok.kind hg (Calls.loadGlobal_global (by rw[I.ok.glob];exact I.mod.glob.keeps I.bk) hm h) hd
theorem Qx {E:Value->Shared->Prop} {pins:List (Addr×Obj)} {s:Shared} {σ:St} {H:Hp} {x:Str} {u:Value} {pos:Pos} {Q:Value->Shared->Prop} (I:qu X pins σ H s) (hg:Gl X x) (hm:X.mg x=none) (hv:bootBuiltins x=some u) (h:Q u s)
   (hn:x≠"__name__":=by decide) (hd:(x==("__debug__":Str))=false:=by decide):wpAny (model X.prog X.w) X.A (eval (.Name x pos) X.env) Q E s:=by
 obtain⟨mb,h1,h2⟩:=I.mod.blt
 exact Calls.Name_function_global I.ok.kind hg (Calls.loadGlobal_builtin (by rw[I.ok.glob];exact I.mod.glob.keeps I.bk) hm (by rw[I.ok.blt];exact h1.keeps I.bk) ((h2 x hn).trans hv) h) hd
theorem Vh {x:Str} {v:V} {u:Value} {pos:Pos} (hg:Gl X x) (hm:X.mg x=some u) (r:qH v u) (hd:(x==("__debug__":Str))=false:=by decide):PE X (.Name x pos) (tC v):=
 λ_ _ _ H _ I h=>Ze I hg hm ⟨v,H,I,r,h⟩ hd
theorem QU {x:Str} {v:V} {u:Value} {pos:Pos} (hg:Gl X x) (hm:X.mg x=some u) (r:qH v u) (hd:(x==("__debug__":Str))=false:=by decide):JE X (.Name x pos) (tC v):=.of (Vh hg hm r hd)
theorem j2 {x:Str} {v:V} {u:Value} {pos:Pos} (hg:Gl X x) (hm:X.mg x=none) (hv:bootBuiltins x=some u) (r:qH v u) (hn:x≠"__name__":=by decide) (hd:(x==("__debug__":Str))=false:=by decide):JE X (.Name x pos) (tC v):=.of (by
 exact λ_ _ _ H _ I h=>Qx I hg hm hv ⟨v,H,I,r,h⟩ hn hd)
variable {a b:Expr} {ta tb:TE} {pos:Pos}
def PC (X:Cx) (op:CmpOp) (a b:Expr) (t:TE):Prop:=
 ∀(pins:List (Addr×Obj)) (s:Shared) (σ:St) (H:Hp) (Q:VK),qu X pins σ H s->t σ H Q->
   wpAny (model X.prog X.w) X.A (eval a X.env) (λv s₁=>wpAny (model X.prog X.w) X.A (eval b X.env) (λu s₂=>wpAny (model X.prog X.w) X.A (compareOp op v u) (EP X pins σ Q) X.xe s₂) X.xe s₁) X.xe s
@[irreducible] def JC (X:Cx) (op:CmpOp) (a b:Expr) (t:TE):Prop:=PC X op a b t
theorem JC.of {X:Cx} {op:CmpOp} {a b:Expr} {t:TE} (h:PC X op a b t):JC X op a b t:=by unfold JC;exact h
theorem JC.to {X:Cx} {op:CmpOp} {a b:Expr} {t:TE} (h:JC X op a b t):PC X op a b t:=by unfold JC at h;exact h
def tB (t:TE):TT:=λσ H Q=>t σ H λx H1=>∃c,x=.bl c/\Q c H1
theorem WA {op:CmpOp} {t:TE} (h:JC X op a b t) (h1:behindInMarks op b=false:=by first | exact nobehind _ (by decide) (by decide) | rfl):JT X (.Compare a [op] [b] pos) (tB t):=.of (by
 have h:=h.to
 intro pins s σ H Q I hw
 refine wpAny_isTrue_Compare1 (jc (h pins s σ H _ I hw) λv s1 h1=>jc h1 λu s2 h2=>jc h2 λc s3 ⟨x,H1,I1,r1,q1⟩=>?_) h1
 obtain⟨d,rfl,q⟩:=q1
 cases r1
 exact wpAny_truthy_bool ⟨H1,I1,q⟩)
theorem jq {e:Expr} {t:TE} (h:JE X e t) (he:∀whole,isTrue e X.env whole=(do let v <-whole;standAt e.pos;holding [v] (truthy v)):=by intro _;rfl):JT X e (tB t):=.of (by
 have h:=h.to
 intro pins s σ H Q I hw
 refine isTrue_plain (jc (h pins s σ H _ I hw) λv s1 ⟨x,H1,I1,r1,q1⟩=>?_) (he _)
 obtain⟨d,rfl,q⟩:=q1
 cases r1
 exact wpAny_truthy_bool ⟨H1,I1,q⟩)
variable {tA tB':TT} {rest:List Expr}
def uG (t u:TT):TT:=λσ H Q=>t σ H λc H1=>if c=true then u σ H1 Q else Q false H1
def tOr (t u:TT):TT:=λσ H Q=>t σ H λc H1=>if c=true then Q true H1 else u σ H1 Q
def K2 (t:TT):TT:=λσ H Q=>t σ H λc H1=>Q (!c) H1
theorem jS (ha:JT X a tA):JW X (.BoolOp .And [a] pos) tA:=.of (by
 have ha:=ha.to
 intro wh pins s σ H Q I h
 refine isTrue_and (jc (ha pins s σ H Q I h) λc s1 e=>?_)
 cases c with
 | true=>exact isTrue_and_nil e
 | false=>exact e)
theorem Qm (ha:JT X a tA):JW X (.BoolOp .Or [a] pos) tA:=.of (by
 have ha:=ha.to
 intro wh pins s σ H Q I h
 refine isTrue_or (jc (ha pins s σ H Q I h) λc s1 e=>?_)
 cases c with
 | false=>exact isTrue_or_nil e
 | true=>exact e)
theorem Qb (ha:JT X a tA) (hb:JW X (.BoolOp .And (b::rest) pos) tB'):JW X (.BoolOp .And (a::b::rest) pos) (uG tA tB'):=.of (by
 have ha:=ha.to
 have hb:=hb.to
 intro wh pins s σ H Q I h
 refine isTrue_and (jc (ha pins s σ H _ I h) λc s1 ⟨H1,I1,q1⟩=>?_)
 cases c with
 | true=>exact hb wh pins s1 σ H1 Q I1 q1
 | false=>exact⟨H1,I1,q1⟩)
theorem Q2 (ha:JT X a tA) (hb:JW X (.BoolOp .Or (b::rest) pos) tB'):JW X (.BoolOp .Or (a::b::rest) pos) (tOr tA tB'):=.of (by
 have ha:=ha.to
 have hb:=hb.to
 intro wh pins s σ H Q I h
 refine isTrue_or (jc (ha pins s σ H _ I h) λc s1 ⟨H1,I1,q1⟩=>?_)
 cases c with
 | true=>exact⟨H1,I1,q1⟩
 | false=>exact hb wh pins s1 σ H1 Q I1 q1)
theorem jM (ha:JT X a tA):JT X (.UnaryOp .Not a pos) (K2 tA):=.of (by
 have ha:=ha.to
 intro pins s σ H Q I h
 exact isTrue_not (ha pins s σ H (λc H1=>Q (!c) H1) I h))
def xu (ta tb:TE):TE:=λσ H Q=>ta σ H λx H1=>∃c,x=.bl c/\if c=true then tb σ H1 Q else Q (.bl false) H1
def xp (ta:TE):TE:=λσ H Q=>ta σ H λx H1=>∃c,x=.bl c/\Q (.bl (!c)) H1
theorem YN {op} {t:TE} (h:JE X a t):JE X (.BoolOp op [a] pos) t:=.of (by
 have h:=h.to
 exact λpins s σ H Q I hw=>BoolOp_one (h pins s σ H Q I hw))
theorem YQ (ha:JE X a ta) (hb:JE X (.BoolOp .And (b::rest) pos) tb):JE X (.BoolOp .And (a::b::rest) pos) (xu ta tb):=.of (by
 have ha:=ha.to
 have hb:=hb.to
 intro pins s σ H Q I h
 refine BoolOp_and (jc (ha pins s σ H _ I h) λv s1 ⟨x,H1,I1,r1,q1⟩=>?_)
 obtain⟨c,rfl,q1⟩:=q1
 cases r1
 refine wpAny_truthy_bool ?_
 cases c with
 | true=>exact hb pins s1 σ H1 Q I1 q1
 | false=>exact⟨.bl false,H1,I1,rfl,q1⟩)
theorem vQ (ha:JE X a ta):JE X (.UnaryOp .Not a pos) (xp ta):=.of (by
 have ha:=ha.to
 intro pins s σ H Q I h
 refine UnaryOp_ (jc (ha pins s σ H _ I h) λv s1 ⟨x,H1,I1,r1,q1⟩=>?_)
 obtain⟨c,rfl,q1⟩:=q1
 cases r1
 exact not_of (wpAny_truthy_bool ⟨.bl (!c),H1,I1,rfl,q1⟩))
def tIf (t:TT) (ta tb:TE):TE:=λσ H Q=>t σ H λc H1=>if c=true then ta σ H1 Q else tb σ H1 Q
theorem vS {c:Expr} (hc:JT X c tA) (ha:JE X a ta) (hb:JE X b tb):JE X (.IfExp c a b pos) (tIf tA ta tb):=.of (by
 have hc:=hc.to
 have ha:=ha.to
 have hb:=hb.to
 intro pins s σ H Q I h
 refine wpAny_IfExp (jc (hc pins s σ H _ I h) λd s1 ⟨H1,I1,q1⟩=>?_)
 cases d with
 | true=>exact ha pins s1 σ H1 Q I1 q1
 | false=>exact hb pins s1 σ H1 Q I1 q1)
end
end L2
namespace L2
open PySem PySem.Spec PyProof.Rows
def SqL (K:PySem.W.Frag) (H:Hp) (a:Addr) (xs:List V):Prop:=
 Rd H a (.lst xs)\/
   ∃(o:Obj) (its:Array Value) (n:Nat),K.lookup a=some o/\o.cls=.type "list"/\o.dict=none/\o.data=.seq its n/\its.size<=sizeLine/\qB xs its.toList
def SqT (K:PySem.W.Frag) (H:Hp) (a:Addr) (xs:List V):Prop:=
 Rd H a (.tup xs)\/
   ∃(o:Obj) (its:Array Value) (n:Nat),K.lookup a=some o/\o.cls=.type "tuple"/\o.data=.seq its n/\its.size<=sizeLine/\qB xs its.toList
def Rq:Value->Option V
 | .none=>some .non
 | .bool b=>some (.bl b)
 | .int i _=>some (.int i)
 | .str x _=>some (.str x)
 | .bytes b _=>some (.byt b)
 | .float b _=>some (.flt b)
 | .ref a=>some (.ref a)
 | .type n=>some (.ty n)
 | _=>none
theorem qH.abs {x:V} {u:Value} (r:qH x u):Rq u=some x:=by
 cases x with
 | non=>cases r;rfl
 | bl _=>cases r;rfl
 | int _=>obtain⟨t,rfl⟩:=r;rfl
 | str _=>obtain⟨t,rfl⟩:=r;rfl
 | byt _=>obtain⟨t,rfl⟩:=r;rfl
 | flt _=>obtain⟨t,rfl⟩:=r;rfl
 | ref _=>cases r;rfl
 | ty _=>cases r;rfl
theorem qH.inj {x y:V} {u:Value} (r:qH x u) (q:qH y u):x=y:=Option.some.inj (r.abs.symm.trans q.abs)
theorem qB.inj:∀{xs ys:List V} {us:List Value},qB xs us->qB ys us->xs=ys
 | _,_,_,.nil,.nil=>rfl
 | _,_,_,.cons r t,.cons r' t'=>by rw[r.inj r',qB.inj t t']
section
variable {X:Cx} {pins:List (Addr×Obj)} {σ:St} {H:Hp} {s:Shared} {a:Addr} {xs ys:List V}
theorem SqL.of {K:PySem.W.Frag} (h:H a=some (.lst xs)):SqL K H a xs:=.inl (.inl h)
theorem SqT.of {K:PySem.W.Frag} (h:H a=some (.tup xs)):SqT K H a xs:=.inl (.inl h)
theorem qu.list (I:qu X pins σ H s) (h:SqL X.K H a xs):∃its:List Value,qB xs its/\PlainL s.heap a its.toArray/\xs.length<=sizeLine:=by
 rcases h with h | ⟨o,its,n,hk,hc,hd,hs,hz,r⟩
 . obtain⟨z,its,n,r,e⟩:=h.ok I.hok
   exact⟨its,r,⟨_,n,e,rfl,rfl,rfl⟩,z⟩
 . refine⟨its.toList,r,⟨o,n,I.kIn a o hk,hc,hd,by simpa using hs⟩,?_⟩
   have e:=r.length
   simp only[Array.length_toList]at e
   omega
theorem qu.tuple (I:qu X pins σ H s) (h:SqT X.K H a xs):∃its:List Value,qB xs its/\IsTup s.heap a its.toArray/\xs.length<=sizeLine:=by
 rcases h with h | ⟨o,its,n,hk,hc,hs,hz,r⟩
 . obtain⟨z,its,r,p⟩:=h.ok I.hok
   exact⟨its,r,p,z⟩
 . refine⟨its.toList,r,⟨o,I.kIn a o hk,hc,n,by simpa using hs⟩,?_⟩
   have e:=r.length
   simp only[Array.length_toList]at e
   omega
theorem qu.list_inj (I:qu X pins σ H s) (h:SqL X.K H a xs) (h':SqL X.K H a ys):xs=ys:=by
 obtain⟨its,r,⟨o,n,e,_,_,d⟩,_⟩:=I.list h
 obtain⟨its',r',⟨o',n',e',_,_,d'⟩,_⟩:=I.list h'
 rw[e]at e';cases e'
 rw[d]at d'
 injection d' with d1 _
 have:its=its':=by simpa using congrArg Array.toList d1
 subst this
 exact r.inj r'
theorem qu.tuple_inj (I:qu X pins σ H s) (h:SqT X.K H a xs) (h':SqT X.K H a ys):xs=ys:=by
 obtain⟨its,r,⟨o,e,_,n,d⟩,_⟩:=I.tuple h
 obtain⟨its',r',⟨o',e',_,n',d'⟩,_⟩:=I.tuple h'
 rw[e]at e';cases e'
 rw[d]at d'
 injection d' with d1 _
 have:its=its':=by simpa using congrArg Array.toList d1
 subst this
 exact r.inj r'
end
abbrev Cx.wish (X:Cx) (E:Value->Shared->Prop):Cx:={X with xe:=E}
abbrev Cx.nox (X:Cx):Cx:=X.wish λ_ _=>False
theorem Cx.Ok.wish {X:Cx} (ok:X.Ok) (E:Value->Shared->Prop):(X.wish E).Ok:=
 ⟨ok.mod,ok.kind,ok.glob,ok.blt,ok.above,ok.inj,ok.has,ok.cab,ok.hd,ok.frames,ok.stk,ok.exf,ok.bs,ok.bsz,ok.noex,ok.exfs,ok.funs,ok.frf⟩
theorem Cx.Ok.unwish {X:Cx} {E:Value->Shared->Prop} (ok:(X.wish E).Ok):X.Ok:=
 ⟨ok.mod,ok.kind,ok.glob,ok.blt,ok.above,ok.inj,ok.has,ok.cab,ok.hd,ok.frames,ok.stk,ok.exf,ok.bs,ok.bsz,ok.noex,ok.exfs,ok.funs,ok.frf⟩
section
variable {X:Cx} {pins:List (Addr×Obj)} {σ:St} {H:Hp} {s:Shared} {E:Value->Shared->Prop}
theorem qu.wish (I:qu X pins σ H s) (E:Value->Shared->Prop):qu (X.wish E) pins σ H s:=⟨I.ok.wish E,I.os,I.bare,I.base,I.loc,I.cell,I.free,I.freeC,I.pin,I.hok,I.len⟩
theorem qu.unwish (I:qu (X.wish E) pins σ H s):qu X pins σ H s:=⟨I.ok.unwish,I.os,I.bare,I.base,I.loc,I.cell,I.free,I.freeC,I.pin,I.hok,I.len⟩
theorem SP.unwish {D:QB} {f:Flow} {s':Shared} (h:SP (X.wish E) pins D f s'):SP X pins D f s':=by
 cases f with
 | next=>obtain⟨σ',H',I,q⟩:=h;exact⟨σ',H',I.unwish,q⟩
 | brk=>obtain⟨σ',H',I,q⟩:=h;exact⟨σ',H',I.unwish,q⟩
 | cont=>obtain⟨σ',H',I,q⟩:=h;exact⟨σ',H',I.unwish,q⟩
 | ret u=>obtain⟨v,σ',H',I,r,q⟩:=h;exact⟨v,σ',H',I.unwish,r,q⟩
theorem kI.nox {st:List Stmt} {t:TS} (h:kI X.nox st t):kI X st t:=λpins s σ H D I hw=>
 wpAny_mono (h pins s σ H D (I.wish _) hw) (λ_ _ q=>q.unwish) λ_ _ z=>False.elim z
end
section
variable {X:Cx} {st:Stmt} {rest:List Stmt} {t u:TS} {e:Expr} {te:TE} {pos:Pos}
def WX:TS:=λD σ H=>D.nx σ H
def kR (t u:TS):TS:=λD σ H=>t {D with nx:=u D} σ H
theorem qE:zZ X [] WX:=.of (by
 exact λ_ _ σ H _ I h=>wpAny_execs_nil ⟨σ,H,I,h⟩)
theorem qh (h1:JS X st t) (h2:zZ X rest u):zZ X (st::rest) (kR t u):=.of (by
 have h1:=h1.to
 have h2:=h2.to
 intro pins s σ H D I h
 refine wpAny_execs_cons (jc (h1 pins s σ H {D with nx:=u D} I h) λf s1 q=>?_)
 cases f with
 | next=>
   obtain⟨σ',H',I',q⟩:=q
   exact h2 pins s1 σ' H' D I' q
 | ret v=>exact q
 | brk=>exact q
 | cont=>exact q)
theorem qm (h1:JS X st t):zZ X [st] t:=.of (by
 have h1:=h1.to
 intro pins s σ H D I h
 refine wpAny_execs_cons (jc (h1 pins s σ H D I h) λf s1 q=>?_)
 cases f with
 | next=>exact wpAny_execs_nil q
 | ret v=>exact q
 | brk=>exact q
 | cont=>exact q)
theorem qu.quiet {pins:List (Addr×Obj)} {σ:St} {H:Hp} {s:Shared} (I:qu X pins σ H s):interactive X.env=false:=by simp [interactive,I.ok.kind]
def xt (te:TE):TS:=λD σ H=>te σ H λ_ H1=>D.nx σ H1
theorem qV (he:JE X e te) (hs:swapsWith e none pos.line X.env=pure false:=by rfl):JS X (.Expr e pos) (xt te):=.of (by
 have he:=he.to
 intro pins s σ H D I h
 exact wpAny_Expr_any (jc (he pins s σ H _ I h) λv s1 ⟨x,H1,I1,r1,q1⟩=>⟨σ,H1,I1,q1⟩) I.quiet hs)
def K1 (te:TE):TS:=λD σ H=>te σ H D.rt
theorem qJ (he:JE X e te):JS X (.Return (some e) pos) (K1 te):=.of (by
 have he:=he.to
 intro pins s σ H D I h
 exact wpAny_Return_some (jc (he pins s σ H _ I h) λv s1 ⟨x,H1,I1,r1,q1⟩=>⟨x,σ,H1,I1,r1,q1⟩))
def kU (c:TT) (t u:TS):TS:=λD σ H=>c σ H λb H1=>if b=true then t D σ H1 else u D σ H1
theorem q5 {c:Expr} {a b:List Stmt} {tc:TT} (hc:JT X c tc) (ha:zZ X a t) (hb:zZ X b u):JS X (.If c a b pos) (kU tc t u):=.of (by
 have hc:=hc.to
 have ha:=ha.to
 have hb:=hb.to
 intro pins s σ H D I h
 refine wpAny_If (jc (hc pins s σ H _ I h) λd s1 ⟨H1,I1,q1⟩=>?_)
 cases d with
 | true=>exact ha pins s1 σ H1 D I1 q1
 | false=>exact hb pins s1 σ H1 D I1 q1)
def xR:TS:=λ_ _ _=>False
theorem qL {sts:List Stmt}:zZ X sts xR:=.of (by
 exact λ_ _ _ _ _ _ h=>h.elim)
end
abbrev TG:=V->St->Hp->(St->Hp->Prop)->Prop
abbrev UH:=List V->St->Hp->(St->Hp->Prop)->Prop
def PG (X:Cx) (target:Expr) (t:TG):Prop:=
 ∀(pins:List (Addr×Obj)) (s:Shared) (σ:St) (H:Hp) (v:V) (u:Value) (Q:St->Hp->Prop),qu X pins σ H s->qH v u->t v σ H Q->
   wpAny (model X.prog X.w) X.A (assign target X.env u) (λ_ s'=>∃σ' H',qu X pins σ' H' s'/\Q σ' H') X.xe s
@[irreducible] def JG (X:Cx) (target:Expr) (t:TG):Prop:=PG X target t
theorem JG.of {X:Cx} {target:Expr} {t:TG} (h:PG X target t):JG X target t:=by unfold JG;exact h
theorem JG.to {X:Cx} {target:Expr} {t:TG} (h:JG X target t):PG X target t:=by unfold JG at h;exact h
def Rt (X:Cx) (ts:List Expr) (t:UH):Prop:=
 ∀(pins:List (Addr×Obj)) (s:Shared) (σ:St) (H:Hp) (vs:List V) (us:List Value) (Q:St->Hp->Prop),qu X pins σ H s->qB vs us->t vs σ H Q->
   wpAny (model X.prog X.w) X.A (assignInOrder ((assignEach ts X.env).map (·.2)) us) (λ_ s'=>∃σ' H',qu X pins σ' H' s'/\Q σ' H') X.xe s
@[irreducible] def kF (X:Cx) (ts:List Expr) (t:UH):Prop:=Rt X ts t
theorem kF.of {X:Cx} {ts:List Expr} {t:UH} (h:Rt X ts t):kF X ts t:=by unfold kF;exact h
theorem kF.to {X:Cx} {ts:List Expr} {t:UH} (h:kF X ts t):Rt X ts t:=by unfold kF at h;exact h
abbrev xh:=V->V->V->Hp->(Hp->Prop)->Prop
def ug (X:Cx) (t:xh):Prop:=
 ∀(pins:List (Addr×Obj)) (s:Shared) (σ:St) (H:Hp) (o i v:V) (ov iv u:Value) (Q:Hp->Prop),qu X pins σ H s->qH o ov->qH i iv->qH v u->t o i v H Q->
   wpAny (model X.prog X.w) X.A (setItem ov iv u) (λ_ s'=>∃H',qu X pins σ H' s'/\Q H') X.xe s
section
variable {X:Cx} {pos:Pos}
def QH (i:Nat):TG:=λv σ H Q=>Q (σ.set i (some v)) H
theorem qz {i:Nat} {x:Str} (hN:X.N.Nodup) (hi:X.N[i]?=some x) (hx:uy X.env.scope x) (hf:X.fn x=true\/X.env.scope.names.lookup x=some .local:=by first | exact .inl rfl | exact .inr rfl | assumption):JG X (.Name x pos) (QH i):=.of (by
 intro pins s σ H v u Q I r h
 exact wpAny_assign_Name (zb I hN hi hx r (λs' I'=>⟨_,H,I',h⟩) hf))
def wX:UH:=λvs σ H Q=>vs=[]/\Q σ H
def XB (t:TG) (u:UH):UH:=λvs σ H Q=>∃v r,vs=v::r/\t v σ H λσ' H'=>u r σ' H' Q
theorem Qg:kF X [] wX:=.of (by
 intro pins s σ H vs us Q I r h
 obtain⟨e,h⟩:=h
 subst e
 cases r
 exact assignInOrder_nil ⟨σ,H,I,h⟩)
theorem qZ {e:Expr} {es:List Expr} {t:TG} {u:UH} (h1:JG X e t) (h2:kF X es u) (hs:(assignEach (e::es) X.env).map (·.2)=assign e X.env::(assignEach es X.env).map (·.2):=by rfl):kF X (e::es) (XB t u):=.of (by
 have h1:=h1.to
 have h2:=h2.to
 intro pins s σ H vs us Q I r h
 obtain⟨v,vr,e1,h⟩:=h
 subst e1
 cases r with
 | cons r rr=>
   rw[hs]
   refine assignInOrder_cons (jc (h1 pins s σ H _ _ _ I r h) λ_ s1 ⟨σ1,H1,I1,q1⟩=>?_)
   exact h2 pins s1 σ1 H1 _ _ Q I1 rr q1)
def wW (K:PySem.W.Frag) (n:Nat) (t:UH):TG:=λv σ H Q=>∃a xs,v=.ref a/\SqT K H a xs/\xs.length=n/\t xs σ H Q
theorem JK {es:List Expr} {k:Nat} {t:UH} {n:Nat} (hc:X.calm=true) (h:kF X es t) (hn:(assignEach es X.env).length=n:=by rfl) (hst:(assignEach es X.env).findIdx? (·.1)=none:=by rfl):JG X (.Tuple es k pos) (wW X.K n t):=.of (by
 have h:=h.to
 intro pins s σ H v u Q I r hw
 obtain⟨a,xs,e1,hq,hl,hw⟩:=hw
 subst e1
 cases r
 obtain⟨its,rv,ht,hz⟩:=I.tuple hq
 refine assign_Tuple_tuple (I.ok.hd hc) ht (by simp [hn,<-hl,rv.length]) hst λh' hx=>?_
 have I1:qu X pins σ H {s with heap:=h'}:=I.kept (t':=s.toks) λb o e=>hx b o (Nat.ne_of_lt (Heap.lt_size e)) e
 exact h pins _ σ H xs _ Q I1 (by simpa using rv) hw)
def Kx (to ti:TE) (t:xh):TG:=λv σ H Q=>to σ H λo H1=>ti σ H1 λi H2=>t o i v H2 λH3=>Q σ H3
theorem wl {o i:Expr} {to ti:TE} {t:xh} (ho:PE X o to) (hi:PE X i ti) (hs:ug X t)
   (ha:∀v,assign (.Subscript o i pos) X.env v=(do
     let ov <-holding [v] (eval o X.env)
     let iv <-holding [v,ov] (eval i X.env)
     standAt pos
     holding [v,ov,iv] (setItem ov iv v)
     release [v,ov,iv] []):=by intro _;rfl):PG X (.Subscript o i pos) (Kx to ti t):=by
 intro pins s σ H v u Q I r h
 rw[ha]
 refine wpAny_bind (wpAny_holding (jc (ho pins s σ H _ I h) λov s1 ⟨x,H1,I1,r1,q1⟩=>?_))
 refine wpAny_bind (wpAny_holding (jc (hi pins s1 σ H1 _ I1 q1) λiv s2 ⟨y,H2,I2,r2,q2⟩=>?_))
 refine wpAny_bind (wpAny_standAt (wpAny_bind (wpAny_holding (jc (hs pins s2 σ H2 x y v ov iv u _ I2 r1 r2 r q2) λ_ s3 ⟨H3,I3,q3⟩=>?_))))
 exact wpAny_release ⟨σ,H3,I3,q3⟩
theorem vP {o i:Expr} {to ti:TE} {t:xh} (ho:JE X o to) (hi:JE X i ti) (hs:ug X t) (ha:∀v,assign (.Subscript o i pos) X.env v=(do
     let ov <-holding [v] (eval o X.env)
     let iv <-holding [v,ov] (eval i X.env)
     standAt pos
     holding [v,ov,iv] (setItem ov iv v)
     release [v,ov,iv] []):=by intro _;rfl):JG X (.Subscript o i pos) (Kx to ti t):=.of (wl ho.to hi.to hs ha)
def UO (te:TE) (g:TG):TS:=λD σ H=>te σ H λx H1=>g x σ H1 D.nx
theorem YL {tg e:Expr} {te:TE} {g:TG} (he:JE X e te) (hg:JG X tg g) (hs:swapsWithSole [tg] e pos.line X.env=pure false:=by rfl) (hw:swappedStores [tg] e X.env=pure none:=by rfl) (h1:(assignEach [tg] X.env).map (·.2)=[assign tg X.env]:=by rfl):JS X (.Assign [tg] e pos) (UO te g):=.of (by
 have he:=he.to
 have hg:=hg.to
 intro pins s σ H D I h
 refine wpAny_Assign_stores (jc (he pins s σ H _ I h) λv s1 ⟨x,H1,I1,r1,q1⟩=>?_) hs hw
 rw[h1]
 exact jc (hg pins s1 σ H1 x v _ I1 r1 q1) λ_ s2 q=>q)
theorem qx {i:Nat} {x:Str} {e:Expr} {te:TE} {pos':Pos} (hN:X.N.Nodup) (hi:X.N[i]?=some x) (hx:uy X.env.scope x) (he:JE X e te) (hs:swapsWith e (some (.Name x pos')) pos.line X.env=pure false:=by rfl) (hf:X.fn x=true\/X.env.scope.names.lookup x=some .local:=by first | exact .inl rfl | exact .inr rfl | assumption):JS X (.Assign [.Name x pos'] e pos) (UO te (QH i)):=.of (by
 have he:=he.to
 intro pins s σ H D I h
 refine wpAny_Assign_Name (jc (he pins s σ H _ I h) λv s1 ⟨y,H1,I1,r1,q1⟩=>?_) hs
 exact zb I1 hN hi hx r1 (λs2 I2=>⟨_,H1,I2,q1⟩) hf)
end
section
variable {X:Cx} {pos:Pos}
def xQ (c:TT) (tb:TS):TS:=λD σ H=>∃W:Nat->St->Hp->Prop,(∃m,W m σ H)/\∀m σ H,W m σ H->
 c σ H λb H1=>if b=true then ∃N:St->Hp->Prop,(∀σ' H',N σ' H'->∃m',m' < m/\W m' σ' H')/\tb {D with nx:=N,ct:=N,bk:=D.nx} σ H1 else D.nx σ H1
theorem vL {c:Expr} {body:List Stmt} {tc:TT} {tb:TS} (hp:PassesOwn (model X.prog X.w) X.A X.env X.xe) (hc:JT X c tc) (hb:zZ X body tb):JS X (.While c body [] pos) (xQ tc tb):=.of (by
 have hc:=hc.to
 have hb:=hb.to
 intro pins s σ H D I h
 obtain⟨W,⟨m0,w0⟩,turn⟩:=h
 refine wpAny_While (codeAny_whileLoop (λn s'=>∃σ' H',qu X pins σ' H' s'/\W n σ' H') ?_ m0 ⟨σ,H,I,w0⟩)
 rintro n s1 ⟨σ1,H1,I1,w1⟩
 refine wpAny_passesOwn hp (jc (hc pins s1 σ1 H1 _ I1 (turn n σ1 H1 w1)) λb s2 ⟨H2,I2,q2⟩=>?_)
 cases b with
 | true=>
   obtain⟨N,hN,q2⟩:=q2
   rw[if_pos rfl]
   refine wpAny_passesOwn hp (jc (hb pins s2 σ1 H2 _ I2 q2) λf s3 q3=>?_)
   cases f with
   | next=>
     obtain⟨σ3,H3,I3,n3⟩:=q3
     obtain⟨m',hm,w3⟩:=hN σ3 H3 n3
     exact⟨m',hm,σ3,H3,I3,w3⟩
   | cont=>
     obtain⟨σ3,H3,I3,n3⟩:=q3
     obtain⟨m',hm,w3⟩:=hN σ3 H3 n3
     exact⟨m',hm,σ3,H3,I3,w3⟩
   | brk=>exact q3
   | ret v=>exact q3
 | false=>
   rw[if_neg Bool.false_ne_true]
   exact wpAny_execs_nil ⟨σ1,H2,I2,q2⟩)
end
structure It where
 go:Nat->Hp->Prop
 yld:Nat->Hp->V->Hp->Prop
 stop:Nat->Hp->Prop
def JM (X:Cx) (pins:List (Addr×Obj)) (H:Hp) (b:Addr):Prop:=
 H b=none/\b≠X.env.locals/\b∉X.fs/\(b∈X.ex\/X.s₀.heap.objs.size<=b)/\(∀x c,X.env.cells.lookup x=some c->c≠b)/\∀p∈X.pn++pins,p.1≠b
theorem qu.fpOk {X:Cx} {pins:List (Addr×Obj)} {σ:St} {H H':Hp} {s:Shared} {b:Addr} (I:qu X pins σ H s) (hb:s.heap.objs.size<=b) (hn:H' b=none):JM X pins H' b:=by
 refine⟨hn,Nat.ne_of_gt (Nat.lt_of_lt_of_le I.lt hb),I.nofs hb,.inr (Nat.le_trans I.sz hb),λx c e z=>?_,λp hp z=>?_⟩
 . obtain⟨v,q⟩:=I.cell x c e
   exact absurd (Nat.lt_of_lt_of_le q.lt (by rw[z];exact hb)) (Nat.lt_irrefl _)
 . exact absurd (Nat.lt_of_lt_of_le (Heap.lt_size (I.pin p hp).1) (by rw[z];exact hb)) (Nat.lt_irrefl _)
structure WL (P:Program) (w:World) (K:PySem.W.Frag) (tg:Expr) (J:It) (fp:List Addr) (it:Addr) (tn:Nat->Heap->Prop):Prop where
 mem:it∈fp
 obj:∀i h,tn i h->∀b∈fp,∃o,h.get? b=some o/\∀v,o.data≠.cell v
 keep:∀i h h',tn i h->(∀b∈fp,∀o,h.get? b=some o->h'.get? b=some o)->tn i h'
 item:∀(X:Cx),X.prog=P->X.w=w->X.K=K->X.calm=true->∀(i:Nat) (pins:List (Addr×Obj)) (s:Shared) (σ:St) (H:Hp) (E:Value->Shared->Prop),qu X pins σ H s->(∀b∈fp,JM X pins H b)->tn i s.heap->J.go i H->
   wpAny (model P w) X.A (pyNext (.ref it)) (λr s1=>∃u,r=some u/\
     wpAny (model P w) X.A (letOwnedTupleGo tg (.ref it) u) (λ_ s2=>∃x H',qu X pins σ H' s2/\qH x u/\J.yld i H x H'/\tn (i+1) s2.heap/\∀b∈fp,H' b=none) E s1) E s
 done:∀(X:Cx),X.prog=P->X.w=w->X.K=K->X.calm=true->∀(i:Nat) (pins:List (Addr×Obj)) (s:Shared) (σ:St) (H:Hp) (E:Value->Shared->Prop),qu X pins σ H s->(∀b∈fp,JM X pins H b)->tn i s.heap->J.stop i H->
   wpAny (model P w) X.A (pyNext (.ref it)) (λr s1=>r=none/\qu X pins σ H s1) E s
 self:∀(A:Around) (i:Nat) (s:Shared) (Q:Value->Shared->Prop) (E:Value->Shared->Prop),tn i s.heap->Q (.ref it) s->wpAny (model P w) A (pyIter (.ref it)) Q E s
abbrev TI:=St->Hp->(It->Hp->Prop)->Prop
def PIE (X:Cx) (pins:List (Addr×Obj)) (σ:St) (tg:Expr) (R:It->Hp->Prop) (itv:Value) (s2:Shared):Prop:=
 ∃(it:Addr) (fp:List Addr) (tn:Nat->Heap->Prop) (J:It) (H':Hp),itv=.ref it/\qu X pins σ H' s2/\WL X.prog X.w X.K tg J fp it tn/\tn 0 s2.heap/\(∀b∈fp,JM X pins H' b)/\R J H'
def PI (X:Cx) (tg iter:Expr) (wi:TI):Prop:=
 ∀(pins:List (Addr×Obj)) (s:Shared) (σ:St) (H:Hp) (R:It->Hp->Prop),qu X pins σ H s->wi σ H R->
   wpAny (model X.prog X.w) X.A (eval iter X.env) (λv s1=>wpAny (model X.prog X.w) X.A (pyIter v) (PIE X pins σ tg R) X.xe s1) X.xe s
@[irreducible] def JI (X:Cx) (tg iter:Expr) (wi:TI):Prop:=PI X tg iter wi
theorem JI.of {X:Cx} {tg iter:Expr} {wi:TI} (h:PI X tg iter wi):JI X tg iter wi:=by unfold JI;exact h
theorem JI.to {X:Cx} {tg iter:Expr} {wi:TI} (h:JI X tg iter wi):PI X tg iter wi:=by unfold JI at h;exact h
theorem Vs {M:Model} {A:Around} {E:Value->Shared->Prop} {s:Shared} {tg:Expr} {it:Addr} {u:Value} {o:Obj} {n:String} {vs:Array Value} {Q:Unit->Shared->Prop} (ho:s.heap.get? it=some o) (hc:o.cls=.type n) (hd:o.data=.fields vs)
   (hn:["enumerate","zip","dict_itemiterator","dict_reverseitemiterator","odict_iterator","itertools.zip_longest","itertools.pairwise"].contains n=false) (hQ:Q () s):wpAny M A (letOwnedTupleGo tg (.ref it) u) Q E s:=by
 unfold letOwnedTupleGo
 cases tg<;>first
   | exact wpAny_pure hQ
   | (cases u<;>first
       | exact wpAny_pure hQ
       | (refine wpAny_bind (wpAny_load ho ?_)
          rw[hc,hd]
          show wpAny M A (if (["enumerate","zip","dict_itemiterator","dict_reverseitemiterator","odict_iterator","itertools.zip_longest","itertools.pairwise"].contains n&&vs[0]?==some (rawInt _))=true then _ else _) Q E s
          rw[if_neg (by intro h;rw[hn,Bool.false_and]at h;cases h)]
          exact wpAny_pure hQ))
def uj (K:PySem.W.Frag) (a:Addr):It:=
 ⟨λi H=>∃xs x,SqL K H a xs/\xs[i]?=some x,λi H x H'=>H'=H/\∀xs,SqL K H a xs->xs[i]?=some x,λi H=>∃xs,SqL K H a xs/\xs.length<=i⟩
def uz (K:PySem.W.Frag) (a:Addr):It:=
 ⟨λi H=>∃xs x,SqT K H a xs/\xs[i]?=some x,λi H x H'=>H'=H/\∀xs,SqT K H a xs->xs[i]?=some x,λi H=>∃xs,SqT K H a xs/\xs.length<=i⟩
def ui (lo:Int) (n:Nat):It:=⟨λi _=>i < n,λi H x H'=>H'=H/\x=.int (lo+i),λi _=>n<=i⟩
theorem VH {P:Program} {w:World} {K:PySem.W.Frag} {tg:Expr} (a it:Addr):WL P w K tg (uj K a) [it] it (λi h=>h.IsListIter it a i) where
 mem:=by simp
 obj:=λi h st b hb=>by
   have e:b=it:=by simpa using hb
   subst e
   obtain⟨o,e,c,d⟩:=st
   exact⟨o,e,λv z=>by rw[d]at z;cases z⟩
 keep:=λi h h' st k=>st.at λo e=>k it (by simp) o e
 item:=by
   intro X hP hw hK hc i pins s σ H E I hf st hg
   subst hP hw hK
   obtain⟨xs,x,hq,hx⟩:=hg
   obtain⟨its,rv,p,hz⟩:=I.list hq
   obtain⟨u,hu,ru⟩:=rv.get hx
   obtain⟨f0,f1,f2,f3,f4,f5⟩:=hf it (by simp)
   refine wpAny_pyNext_list_item st p.isList (x:=u) (by simpa using hu) λh' st' sb=>?_
   have I1:qu X pins σ H {s with heap:=h'}:=I.turned (t':=s.toks) (λb o hb e=>(sb.2 b hb).trans e) f0 f1 f3 f4 f5
   obtain⟨o,e,c,d⟩:=id st'
   exact⟨u,rfl,Vs (s:={s with heap:=h'}) e c d (by decide) ⟨x,H,I1,ru,⟨rfl,λys hy=>by rw[I.list_inj hy hq];exact hx⟩,st',λb hb=>(hf b hb).1⟩⟩
 done:=by
   intro X hP hw hK hc i pins s σ H E I hf st hg
   subst hP hw hK
   obtain⟨xs,hq,hx⟩:=hg
   obtain⟨its,rv,p,hz⟩:=I.list hq
   obtain⟨f0,f1,f2,f3,f4,f5⟩:=hf it (by simp)
   have hl:=rv.length
   exact wpAny_pyNext_list_end (I.ok.hd hc) st p.isList (by simp;omega) λh' eb=>⟨rfl,I.turned (t':=s.toks) (λb o hb e=>eb b o hb e) f0 f1 f3 f4 f5⟩
 self:=λ_ _ _ _ _ st h=>wpAny_pyIter_listiter st h
theorem XZ {P:Program} {w:World} {K:PySem.W.Frag} {tg:Expr} (a it:Addr):WL P w K tg (uz K a) [it] it (λi h=>h.IsTupleIter it a i) where
 mem:=by simp
 obj:=λi h st b hb=>by
   have e:b=it:=by simpa using hb
   subst e
   obtain⟨o,e,c,d⟩:=st
   exact⟨o,e,λv z=>by rw[d]at z;cases z⟩
 keep:=λi h h' st k=>st.at λo e=>k it (by simp) o e
 item:=by
   intro X hP hw hK hc i pins s σ H E I hf st hg
   subst hP hw hK
   obtain⟨xs,x,hq,hx⟩:=hg
   obtain⟨its,rv,p,hz⟩:=I.tuple hq
   obtain⟨u,hu,ru⟩:=rv.get hx
   obtain⟨f0,f1,f2,f3,f4,f5⟩:=hf it (by simp)
   refine wpAny_pyNext_tuple_item st (show s.heap.IsTuple a its.toArray from p) (x:=u) (by simpa using hu) λh' st' sb=>?_
   have I1:qu X pins σ H {s with heap:=h'}:=I.turned (t':=s.toks) (λb o hb e=>(sb.2 b hb).trans e) f0 f1 f3 f4 f5
   obtain⟨o,e,c,d⟩:=id st'
   exact⟨u,rfl,Vs (s:={s with heap:=h'}) e c d (by decide) ⟨x,H,I1,ru,⟨rfl,λys hy=>by rw[I.tuple_inj hy hq];exact hx⟩,st',λb hb=>(hf b hb).1⟩⟩
 done:=by
   intro X hP hw hK hc i pins s σ H E I hf st hg
   subst hP hw hK
   obtain⟨xs,hq,hx⟩:=hg
   obtain⟨its,rv,p,hz⟩:=I.tuple hq
   obtain⟨f0,f1,f2,f3,f4,f5⟩:=hf it (by simp)
   have hl:=rv.length
   exact wpAny_pyNext_tuple_end (I.ok.hd hc) st (show s.heap.IsTuple a its.toArray from p) (by simp;omega) λh' eb=>⟨rfl,I.turned (t':=s.toks) (λb o hb e=>eb b o hb e) f0 f1 f3 f4 f5⟩
 self:=λ_ _ _ _ _ st h=>wpAny_pyIter_tupleiter st h
theorem X0 {P:Program} {w:World} {K:PySem.W.Frag} {tg:Expr} (it:Addr) (lo:Int) (n:Nat):WL P w K tg (ui lo n) [it] it (λi h=>IsRangeIter h it (lo+(i:Nat)*1) ((n:Int) - (i:Nat)) 1) where
 mem:=by simp
 obj:=λi h st b hb=>by
   have e:b=it:=by simpa using hb
   subst e
   exact⟨_,st,λv z=>by
     have z':Data.fields _=Data.cell v:=z
     cases z'⟩
 keep:=λi h h' st k=>k it (by simp) _ st
 item:=by
   intro X hP hw hK hc i pins s σ H E I hf st hg
   subst hP hw hK
   obtain⟨f0,f1,f2,f3,f4,f5⟩:=hf it (by simp)
   have W:=Walks.range (prog:=X.prog) (w:=X.w) (I.ok.hd hc) it lo 1 n
   refine W.item i s _ _ hg st λv h' tk hv st' kk=>?_
   obtain⟨t,rfl⟩:=hv
   have I1:qu X pins σ H {s with heap:=h',toks:=tk}:=I.turned (λb o hb e=>kk b o (by simpa using hb) e) f0 f1 f3 f4 f5
   refine⟨_,rfl,Vs (s:={s with heap:=h',toks:=tk}) (n:="range_iterator") st' rfl rfl (by decide) ⟨.int (lo+i),H,I1,⟨t,?_⟩,⟨rfl,rfl⟩,st',λb hb=>(hf b hb).1⟩⟩
   rw[Int.mul_one]
 done:=by
   intro X hP hw hK hc i pins s σ H E I hf st hg
   subst hP hw hK
   obtain⟨f0,f1,f2,f3,f4,f5⟩:=hf it (by simp)
   exact wpAny_pyNext_range_end (I.ok.hd hc) st (by have:n<=i:=hg;omega) λh' eb=>⟨rfl,I.turned (t':=s.toks) (λb o hb e=>eb b o hb e) f0 f1 f3 f4 f5⟩
 self:=λ_ _ _ _ _ st h=>wpAny_pyIter_rangeiter st h
end L2
namespace L2
open PySem PySem.Spec PyProof.Rows
section
variable {X:Cx} {tg:Expr}
def xK (K:PySem.W.Frag) (tl:TE):TI:=λσ H R=>tl σ H λx H1=>∃a,x=.ref a/\(∃xs,SqL K H1 a xs)/\R (uj K a) H1
def Rm (K:PySem.W.Frag) (tl:TE):TI:=λσ H R=>tl σ H λx H1=>∃a,x=.ref a/\(∃xs,SqT K H1 a xs)/\R (uz K a) H1
theorem jk {l:Expr} {tl:TE} (hl:JE X l tl):JI X tg l (xK X.K tl):=.of (by
 have hl:=hl.to
 intro pins s σ H R I h
 refine jc (hl pins s σ H _ I h) λv s1 ⟨x,H1,I1,r1,q1⟩=>?_
 obtain⟨a,e,⟨xs,hq⟩,q⟩:=q1
 subst e
 cases r1
 obtain⟨its,rv,p,hz⟩:=I1.list hq
 refine wpAny_pyIter_list p.isList ?_
 refine⟨s1.heap.objs.size,[s1.heap.objs.size],_,_,H1,rfl,I1.kept (t':=s1.toks) λb o e=>Heap.get?_push_of_some _ e,VH a _,⟨_,Heap.get?_push_size _ rfl,rfl,rfl⟩,λb hb=>?_,q⟩
 have e:b=s1.heap.objs.size:=by simpa using hb
 subst e
 exact I1.fpOk (Nat.le_refl _) (I1.hok.fresh (Nat.le_refl _)))
theorem vN {l:Expr} {tl:TE} (hl:JE X l tl):JI X tg l (Rm X.K tl):=.of (by
 have hl:=hl.to
 intro pins s σ H R I h
 refine jc (hl pins s σ H _ I h) λv s1 ⟨x,H1,I1,r1,q1⟩=>?_
 obtain⟨a,e,⟨xs,hq⟩,q⟩:=q1
 subst e
 cases r1
 obtain⟨its,rv,p,hz⟩:=I1.tuple hq
 refine wpAny_pyIter_tuple (show s1.heap.IsTuple a its.toArray from p) ?_
 refine⟨s1.heap.objs.size,[s1.heap.objs.size],_,_,H1,rfl,I1.kept (t':=s1.toks) λb o e=>Heap.get?_push_of_some _ e,XZ a _,⟨_,Heap.get?_push_size _ rfl,rfl,rfl⟩,λb hb=>?_,q⟩
 have e:b=s1.heap.objs.size:=by simpa using hb
 subst e
 exact I1.fpOk (Nat.le_refl _) (I1.hok.fresh (Nat.le_refl _)))
theorem vc {pins:List (Addr×Obj)} {σ:St} {H:Hp} {s:Shared} {R:It->Hp->Prop} {E:Value->Shared->Prop} {lo hi:Int} {t u v:Tok} {tk:Nat} (I:qu X pins σ H s) (h1:-(2^62)<=lo) (h2:lo < 2^62) (h3:-(2^62)<=hi) (h4:hi < 2^62)
   (q:R (ui lo (hi - lo).toNat) H):wpAny (model X.prog X.w) X.A (pyIter (.ref s.heap.objs.size)) (PIE X pins σ tg R) E {s with heap:=s.heap.push {cls:=.type "range",data:=.fields #[.int lo t,.int hi u,.int 1 v]},toks:=tk}:=by
 refine wpAny_pyIter_range (IsRange.new ..) (small_one h1 h2 h3 h4) ?_
 have I1:qu X pins σ H {s with heap:=s.heap.push {cls:=.type "range",data:=.fields #[.int lo t,.int hi u,.int 1 v]},toks:=tk}:=I.kept λb o e=>Heap.get?_push_of_some _ e
 refine⟨(s.heap.push {cls:=.type "range",data:=.fields #[.int lo t,.int hi u,.int 1 v]}).objs.size,[(s.heap.push {cls:=.type "range",data:=.fields #[.int lo t,.int hi u,.int 1 v]}).objs.size],_,_,H,rfl,
   I1.kept (t':=tk) λb o e=>Heap.get?_push_of_some _ e,X0 _ lo (hi - lo).toNat,?_,λb hb=>?_,q⟩
 . have e1:lo+((0:Nat):Int)*1=lo:=by simp
   have e2:(((hi - lo).toNat:Nat):Int) - ((0:Nat):Int)=Builtin.Range.rangeSize lo hi 1:=by rw[rangeSize_one];split<;>omega
   show IsRangeIter _ _ (lo+((0:Nat):Int)*1) ((((hi - lo).toNat:Nat):Int) - ((0:Nat):Int)) 1
   rw[e1,e2]
   exact Heap.get?_push_size _ rfl
 . have e:b=(s.heap.push {cls:=.type "range",data:=.fields #[.int lo t,.int hi u,.int 1 v]}).objs.size:=by simpa using hb
   subst e
   exact I1.fpOk (Nat.le_refl _) (I1.hok.fresh (Nat.le_refl _))
def Ku (ta:TA):TI:=λσ H R=>ta σ H λvs H1=>∃j:Int,vs=[.int j]/\-(2^62)<=j/\j < 2^62/\R (ui 0 j.toNat) H1
theorem jQ {a:Expr} {ta:TA} {p pos:Pos} (hg:Gl X "range") (hm:X.mg "range"=none) (ha:JA X [a] ta) (hs:starEach [a] X.env=[(false,eval a X.env)]:=by rfl):JI X tg (.Call (.Name "range" p) [a] [] pos) (Ku ta):=.of (by
 have ha:=ha.to
 intro pins s σ H R I h
 refine Call_ (Qx I hg hm boot_range (PyProof.Rows.callWith_type1 (jc (ha pos pins s σ H _ I h) λus s1 ⟨vs,H1,I1,r1,q1⟩=>?_) hs rfl))
 obtain⟨j,e,q1,q2,q⟩:=q1
 subst e
 cases r1 with
 | cons r rr=>
   cases rr
   obtain⟨t,rfl⟩:=r
   exact call_range_1 (vc I1 (by omega) (by omega) q1 q2 (by simpa using q)))
def uD (wi:TI) (g:TG) (tb:TS):TS:=λD σ H=>wi σ H λJ H1=>∃W:Nat->Nat->St->Hp->Prop,(∃m,W 0 m σ H1)/\∀i m σ H,W i m σ H->
 (J.stop i H/\D.nx σ H)\/(J.go i H/\∃N:St->Hp->Prop,(∀σ' H',N σ' H'->∃m',m' < m/\W (i+1) m' σ' H')/\∀x H',J.yld i H x H'->g x σ H' λσ2 H2=>tb {D with nx:=N,ct:=N,bk:=D.nx} σ2 H2)
def zp (fp:List Addr) (h:Heap):List (Addr×Obj):=fp.filterMap λb=>(h.get? b).map λo=>(b,o)
theorem QR {fp:List Addr} {h:Heap} {b:Addr} {o:Obj} (hb:b∈fp) (e:h.get? b=some o):(b,o)∈zp fp h:=List.mem_filterMap.mpr ⟨b,hb,by rw[e];rfl⟩
theorem Ua {fp:List Addr} {h:Heap} {p:Addr×Obj} (hp:p∈zp fp h):p.1∈fp/\h.get? p.1=some p.2:=by
 obtain⟨b,hb,e⟩:=List.mem_filterMap.mp hp
 cases q:h.get? b with
 | none=>rw[q]at e;cases e
 | some o=>
   rw[q]at e
   have e':(b,o)=p:=Option.some.inj e
   subst e'
   exact⟨hb,q⟩
theorem qu.pinned {pins:List (Addr×Obj)} {σ:St} {H:Hp} {s:Shared} {fp:List Addr} (I:qu X pins σ H s) (hf:∀b∈fp,JM X pins H b) (ho:∀b∈fp,∃o,s.heap.get? b=some o/\∀v,o.data≠.cell v):qu X (pins++zp fp s.heap) σ H s:=
 I.pins_of λp hp=>(List.mem_append.mp hp).elim (λz=>I.pin p (List.mem_append_right _ z)) λz=>by
   obtain⟨hb,e⟩:=Ua z
   obtain⟨f0,f1,f2,_⟩:=hf p.1 hb
   obtain⟨o,e',d⟩:=ho p.1 hb
   rw[e]at e';cases e'
   exact⟨e,f0,f1,f2,d⟩
theorem qu.unpinned {pins pl:List (Addr×Obj)} {σ:St} {H:Hp} {s:Shared} (I:qu X (pins++pl) σ H s):qu X pins σ H s:=I.pins_of λp hp=>I.pin p (List.mem_append_right _ (List.mem_append_left _ hp))
theorem jr {iter:Expr} {body:List Stmt} {wi:TI} {g:TG} {tb:TS} {pos:Pos} (hp:PassesOwn (model X.prog X.w) X.A X.env X.xe) (hc:X.calm=true) (hi:JI X tg iter wi) (hg:JG X tg g) (hb:zZ X body tb) (hs:∀x,foldedSetIterable iter X.env x=pure x:=by intro _;rfl):JS X (.For tg iter body [] pos) (uD wi g tb):=.of (by
 have hi:=hi.to
 have hg:=hg.to
 have hb:=hb.to
 intro pins s σ H D I h
 refine wpAny_For (jc (hi pins s σ H _ I h) λv s1 h1=>jc h1 λitv s2 h2=>?_) hs
 obtain⟨it,fp,tn,J,H2,e,I2,T,st2,f2,W,⟨m0,w0⟩,turn⟩:=h2
 subst e
 have stat:∀{H':Hp},(∀b∈fp,H' b=none)->∀b∈fp,JM X pins H' b:=λhn b hb=>⟨hn b hb,(f2 b hb).2⟩
 refine codeAny_forLoop_any (λn s'=>∃i σ' H',qu X pins σ' H' s'/\tn i s'.heap/\(∀b∈fp,H' b=none)/\W i n σ' H') ?_ m0 ⟨0,σ,H2,I2,st2,λb hb=>(f2 b hb).1,w0⟩
 rintro n s3 ⟨i,σ3,H3,I3,st3,fr3,w3⟩
 rcases turn i n σ3 H3 w3 with ⟨stop,qn⟩ | ⟨go,N,hN,step⟩
 . refine wpAny_passesOwn hp (jc (T.done X rfl rfl rfl hc i pins s3 σ3 H3 X.xe I3 (stat fr3) st3 stop) λr s4 ⟨hr,I4⟩=>?_)
   subst hr
   exact wpAny_execs_nil ⟨σ3,H3,I4,qn⟩
 . refine wpAny_passesOwn hp (jc (T.item X rfl rfl rfl hc i pins s3 σ3 H3 X.xe I3 (stat fr3) st3 go) λr s4 ⟨u,hr,h4⟩=>?_)
   subst hr
   refine wpAny_passesOwn hp (jc h4 λ_ s5 ⟨x,H5,I5,r5,y5,st5,fr5⟩=>?_)
   have I5':=I5.pinned (stat fr5) (T.obj _ _ st5)
   refine wpAny_passesOwn hp (jc (hg _ s5 σ3 H5 x u _ I5' r5 (step x H5 y5)) λ_ s6 ⟨σ6,H6,I6,q6⟩=>?_)
   refine wpAny_passesOwn hp (jc (hb _ s6 σ6 H6 _ I6 q6) λf s7 q7=>?_)
   have again:∀{σ7:St} {H7:Hp},qu X (pins++zp fp s5.heap) σ7 H7 s7->N σ7 H7->∃m,m < n/\∃i σ' H',qu X pins σ' H' s7/\tn i s7.heap/\(∀b∈fp,H' b=none)/\W i m σ' H':=λ{σ7 H7} I7 n7=>by
     obtain⟨m',hm,w7⟩:=hN σ7 H7 n7
     refine⟨m',hm,i+1,σ7,H7,I7.unpinned,T.keep _ _ _ st5 λb hb o e=>(I7.pin (b,o) (List.mem_append_right _ (List.mem_append_right _ (QR hb e)))).1,λb hb=>?_,w7⟩
     obtain⟨o,e,d⟩:=T.obj _ _ st5 b hb
     exact(I7.pin (b,o) (List.mem_append_right _ (List.mem_append_right _ (QR hb e)))).2.1
   cases f with
   | next=>obtain⟨σ7,H7,I7,n7⟩:=q7;exact again I7 n7
   | cont=>obtain⟨σ7,H7,I7,n7⟩:=q7;exact again I7 n7
   | brk=>obtain⟨σ7,H7,I7,q7⟩:=q7;exact⟨σ7,H7,I7.unpinned,q7⟩
   | ret v=>obtain⟨x7,σ7,H7,I7,r7,q7⟩:=q7;exact⟨x7,σ7,H7,I7.unpinned,r7,q7⟩)
end
theorem jT {K:PySem.W.Frag} {a:Addr} {xs:List V} {g:TG} {tb:TS} {D:QB} {σ:St} {H:Hp} (Pv:Nat->St->Hp->Prop) (h0:Pv 0 σ H) (hl:∀i σ H,i<=xs.length->Pv i σ H->SqL K H a xs)
   (hs:∀i x σ H,xs[i]?=some x->Pv i σ H->g x σ H λσ2 H2=>tb {D with nx:=Pv (i+1),ct:=Pv (i+1),bk:=D.nx} σ2 H2) (hd:∀σ H,Pv xs.length σ H->D.nx σ H):
   ∃W:Nat->Nat->St->Hp->Prop,(∃m,W 0 m σ H)/\∀i m σ H,W i m σ H->
    ((uj K a).stop i H/\D.nx σ H)\/((uj K a).go i H/\∃N:St->Hp->Prop,(∀σ' H',N σ' H'->∃m',m' < m/\W (i+1) m' σ' H')/\∀x H',(uj K a).yld i H x H'->g x σ H' λσ2 H2=>tb {D with nx:=N,ct:=N,bk:=D.nx} σ2 H2):=by
 refine⟨λi m σ H=>m=xs.length - i/\i<=xs.length/\Pv i σ H,⟨xs.length,by simp,Nat.zero_le _,h0⟩,?_⟩
 rintro i m σ H ⟨rfl,hi,p⟩
 have q:=hl i σ H hi p
 by_cases hlt:i < xs.length
 . refine .inr ⟨⟨xs,xs[i],q,by simp [hlt]⟩,Pv (i+1),λσ' H' p'=>⟨xs.length - (i+1),by omega,rfl,hlt,p'⟩,λx H' y=>?_⟩
   obtain⟨e,y⟩:=y
   subst e
   exact hs i x σ _ (y xs q) p
 . have e:i=xs.length:=by omega
   subst e
   exact .inl ⟨⟨xs,q,Nat.le_refl _⟩,hd σ H p⟩
theorem yZ {K:PySem.W.Frag} {a:Addr} {xs:List V} {g:TG} {tb:TS} {D:QB} {σ:St} {H:Hp} (Pv:Nat->St->Hp->Prop) (h0:Pv 0 σ H) (hl:∀i σ H,i<=xs.length->Pv i σ H->SqT K H a xs)
   (hs:∀i x σ H,xs[i]?=some x->Pv i σ H->g x σ H λσ2 H2=>tb {D with nx:=Pv (i+1),ct:=Pv (i+1),bk:=D.nx} σ2 H2) (hd:∀σ H,Pv xs.length σ H->D.nx σ H):
   ∃W:Nat->Nat->St->Hp->Prop,(∃m,W 0 m σ H)/\∀i m σ H,W i m σ H->
    ((uz K a).stop i H/\D.nx σ H)\/((uz K a).go i H/\∃N:St->Hp->Prop,(∀σ' H',N σ' H'->∃m',m' < m/\W (i+1) m' σ' H')/\∀x H',(uz K a).yld i H x H'->g x σ H' λσ2 H2=>tb {D with nx:=N,ct:=N,bk:=D.nx} σ2 H2):=by
 refine⟨λi m σ H=>m=xs.length - i/\i<=xs.length/\Pv i σ H,⟨xs.length,by simp,Nat.zero_le _,h0⟩,?_⟩
 rintro i m σ H ⟨rfl,hi,p⟩
 have q:=hl i σ H hi p
 by_cases hlt:i < xs.length
 . refine .inr ⟨⟨xs,xs[i],q,by simp [hlt]⟩,Pv (i+1),λσ' H' p'=>⟨xs.length - (i+1),by omega,rfl,hlt,p'⟩,λx H' y=>?_⟩
   obtain⟨e,y⟩:=y
   subst e
   exact hs i x σ _ (y xs q) p
 . have e:i=xs.length:=by omega
   subst e
   exact .inl ⟨⟨xs,q,Nat.le_refl _⟩,hd σ H p⟩
theorem QI {lo:Int} {n:Nat} {g:TG} {tb:TS} {D:QB} {σ:St} {H:Hp} (Pv:Nat->St->Hp->Prop) (h0:Pv 0 σ H)
   (hs:∀i σ H,i < n->Pv i σ H->g (.int (lo+i)) σ H λσ2 H2=>tb {D with nx:=Pv (i+1),ct:=Pv (i+1),bk:=D.nx} σ2 H2) (hd:∀σ H,Pv n σ H->D.nx σ H):
   ∃W:Nat->Nat->St->Hp->Prop,(∃m,W 0 m σ H)/\∀i m σ H,W i m σ H->
    ((ui lo n).stop i H/\D.nx σ H)\/((ui lo n).go i H/\∃N:St->Hp->Prop,(∀σ' H',N σ' H'->∃m',m' < m/\W (i+1) m' σ' H')/\∀x H',(ui lo n).yld i H x H'->g x σ H' λσ2 H2=>tb {D with nx:=N,ct:=N,bk:=D.nx} σ2 H2):=by
 refine⟨λi m σ H=>m=n - i/\i<=n/\Pv i σ H,⟨n,by simp,Nat.zero_le _,h0⟩,?_⟩
 rintro i m σ H ⟨rfl,hi,p⟩
 by_cases hlt:i < n
 . refine .inr ⟨hlt,Pv (i+1),λσ' H' p'=>⟨n - (i+1),by omega,rfl,hlt,p'⟩,λx H' y=>?_⟩
   obtain⟨e,y⟩:=y
   subst e y
   exact hs i σ _ hlt p
 . have e:i=n:=by omega
   subst e
   exact .inl ⟨Nat.le_refl _,hd σ H p⟩
end L2
namespace L2
open PySem PySem.Spec PyProof.Rows
abbrev R2:=V->V->Hp->VK->Prop
def Zq (X:Cx) (f:Value->Value->Sem Value) (r:R2):Prop:=
 ∀(pins:List (Addr×Obj)) (s:Shared) (σ:St) (H:Hp) (x y:V) (v u:Value) (Q:VK),qu X pins σ H s->qH x v->qH y u->r x y H Q->
   wpAny (model X.prog X.w) X.A (f v u) (EP X pins σ Q) X.xe s
def Rr (X:Cx) (f:Value->Sem Value) (r:V->Hp->VK->Prop):Prop:=
 ∀(pins:List (Addr×Obj)) (s:Shared) (σ:St) (H:Hp) (x:V) (v:Value) (Q:VK),qu X pins σ H s->qH x v->r x H Q->
   wpAny (model X.prog X.w) X.A (f v) (EP X pins σ Q) X.xe s
def jU (X:Cx) (f:Value) (r:List V->Hp->VK->Prop):Prop:=
 ∀(pins:List (Addr×Obj)) (s:Shared) (σ:St) (H:Hp) (xs:List V) (us:List Value) (Q:VK),qu X pins σ H s->qB xs us->r xs H Q->
   wpAny (model X.prog X.w) X.A (call f us) (EP X pins σ Q) X.xe s
def XY (r:R2) (ta tb:TE):TE:=λσ H Q=>ta σ H λx H1=>tb σ H1 λy H2=>r x y H2 Q
def tUn (r:V->Hp->VK->Prop) (ta:TE):TE:=λσ H Q=>ta σ H λx H1=>r x H1 Q
def rI (C:Int->Int->Prop) (g:Int->Int->V):R2:=λx y H Q=>∃i j,x=.int i/\y=.int j/\C i j/\Q (g i j) H
def xG (g:Int->Int->V):R2:=λx y H Q=>∃i j,x=.int i/\y=.int j/\Q (g i j) H
def rU (g:Int->V):V->Hp->VK->Prop:=λx H Q=>∃i,x=.int i/\Q (g i) H
section
variable {X:Cx} {a b c:Expr} {ta tb tc:TE} {pos:Pos}
theorem ue (ha:PE X a ta) (hb:PE X b tb) {pins:List (Addr×Obj)} {s:Shared} {σ:St} {H:Hp} {R:V->V->Hp->Prop} (I:qu X pins σ H s)
   (h:ta σ H λx H1=>tb σ H1 λy H2=>R x y H2) {Q:Value->Shared->Prop} {f:Value->Value->Sem Value}
   (hf:∀v u s2 x y H2,qu X pins σ H2 s2->qH x v->qH y u->R x y H2->wpAny (model X.prog X.w) X.A (f v u) Q X.xe s2):
   wpAny (model X.prog X.w) X.A (eval a X.env) (λv s₁=>wpAny (model X.prog X.w) X.A (eval b X.env) (λu s₂=>wpAny (model X.prog X.w) X.A (f v u) Q X.xe s₂) X.xe s₁) X.xe s:=by
 refine jc (ha pins s σ H _ I h) λv s1 ⟨x,H1,I1,r1,q1⟩=>?_
 refine jc (hb pins s1 σ H1 _ I1 q1) λu s2 ⟨y,H2,I2,r2,q2⟩=>?_
 exact hf v u s2 x y H2 I2 r1 r2 q2
theorem qN {op:Operator} {r:R2} (ho:Zq X (binaryOp op) r) (ha:JE X a ta) (hb:JE X b tb):JE X (.BinOp a op b pos) (XY r ta tb):=.of (by
 have ha:=ha.to
 have hb:=hb.to
 intro pins s σ H Q I h
 exact wpAny_BinOp (ue ha hb I h λv u s2 x y H2 I2 rx ry q=>ho pins s2 σ H2 x y v u Q I2 rx ry q))
theorem Vo {op:UnaryOp} {r:V->Hp->VK->Prop} (ho:Rr X (unaryOp op) r) (ha:JE X a ta):JE X (.UnaryOp op a pos) (tUn r ta):=.of (by
 have ha:=ha.to
 intro pins s σ H Q I h
 exact UnaryOp_ (jc (ha pins s σ H _ I h) λv s1 ⟨x,H1,I1,r1,q1⟩=>ho pins s1 σ H1 x v Q I1 r1 q1))
theorem Kb {f:Value->Value->Sem Value} {C:Int->Int->Prop} {g:Int->Int->Int}
   (rule:∀(i j:Int) (t u:Tok) (s:Shared) (Q:Value->Shared->Prop) (E:Value->Shared->Prop),C i j->Q (.int (g i j) s.toks) {s with toks:=s.toks+1}->wpAny (model X.prog X.w) X.A (f (.int i t) (.int j u)) Q E s):
   Zq X f (rI C λi j=>.int (g i j)):=by
 intro pins s σ H x y v u Q I rx ry h
 obtain⟨i,j,rfl,rfl,hc,q⟩:=h
 obtain⟨t,rfl⟩:=rx
 obtain⟨t',rfl⟩:=ry
 exact rule i j t t' s _ _ hc ⟨.int (g i j),H,I.tok _,⟨_,rfl⟩,q⟩
theorem Ka {f:Value->Value->Sem Value} {g:Int->Int->Int}
   (rule:∀(i j:Int) (t u:Tok) (s:Shared) (Q:Value->Shared->Prop) (E:Value->Shared->Prop),Q (.int (g i j) s.toks) {s with toks:=s.toks+1}->wpAny (model X.prog X.w) X.A (f (.int i t) (.int j u)) Q E s):
   Zq X f (xG λi j=>.int (g i j)):=by
 intro pins s σ H x y v u Q I rx ry h
 obtain⟨i,j,rfl,rfl,q⟩:=h
 obtain⟨t,rfl⟩:=rx
 obtain⟨t',rfl⟩:=ry
 exact rule i j t t' s _ _ ⟨.int (g i j),H,I.tok _,⟨_,rfl⟩,q⟩
theorem wx {f:Value->Value->Sem Value} {g:Int->Int->Bool}
   (rule:∀(i j:Int) (t u:Tok) (s:Shared) (Q:Value->Shared->Prop) (E:Value->Shared->Prop),Q (.bool (g i j)) s->wpAny (model X.prog X.w) X.A (f (.int i t) (.int j u)) Q E s):
   Zq X f (xG λi j=>.bl (g i j)):=by
 intro pins s σ H x y v u Q I rx ry h
 obtain⟨i,j,rfl,rfl,q⟩:=h
 obtain⟨t,rfl⟩:=rx
 obtain⟨t',rfl⟩:=ry
 exact rule i j t t' s _ _ ⟨.bl (g i j),H,I,rfl,q⟩
def RC (i j:Int):Prop:=0 < j/\j < 1073741824
def RB (i j:Int):Prop:=0<=j/\j<=1000000/\i.natAbs < 2^64
def um (i j:Int):Prop:=(-(2^64) < i/\i < 2^64)\/(-(2^64) < j/\j < 2^64)
theorem um.ok {i j:Int} (h:um i j):IntMulOk i j:=by
 rcases h with ⟨h1,h2⟩ | ⟨h1,h2⟩
 . exact .of_left (intBits_le_64 h1 h2)
 . exact .of_right (intBits_le_64 h1 h2)
theorem j9:Zq X (binaryOp .Add) (xG λi j=>.int (i+j)):=Ka λ_ _ _ _ _ _ _ q=>add_int q
theorem wp:Zq X (binaryOp .Sub) (xG λi j=>.int (i - j)):=Ka λ_ _ _ _ _ _ _ q=>sub_int q
theorem QP:Zq X (binaryOp .Mult) (rI um λi j=>.int (i*j)):=Kb λ_ _ _ _ _ _ _ hc q=>mul_int q hc.ok
theorem yu:Zq X (binaryOp .FloorDiv) (rI RC λi j=>.int (i / j)):=Kb λi j _ _ _ _ _ hc q=>by
 have h1:(0:Int) < j:=hc.1
 have h2:j < 1073741824:=hc.2
 exact floordiv_int (by omega) (by rw[Int.fdiv_eq_ediv_of_nonneg i (by omega)];exact q) (.inl (PyProof.noPylong_small (by omega)))
theorem Ql:Zq X (binaryOp .Mod) (rI (λ_ j=>0 < j) λi j=>.int (i % j)):=Kb λi j _ _ _ _ _ hc q=>by
 have h1:(0:Int) < j:=hc
 exact mod_int' (by omega) (by rw[Int.fmod_eq_emod_of_nonneg i (by omega)];exact q)
theorem wq:Zq X (binaryOp .Pow) (rI RB λi j=>.int (i^j.toNat)):=Kb λ_ _ _ _ _ _ _ hc q=>pow_int_small hc.1 hc.2.1 hc.2.2 q
theorem unI {f:Value->Sem Value} {g:Int->Int}
   (rule:∀(i:Int) (t:Tok) (s:Shared) (Q:Value->Shared->Prop) (E:Value->Shared->Prop),Q (.int (g i) s.toks) {s with toks:=s.toks+1}->wpAny (model X.prog X.w) X.A (f (.int i t)) Q E s):
   Rr X f (rU λi=>.int (g i)):=by
 intro pins s σ H x v Q I rx h
 obtain⟨i,rfl,q⟩:=h
 obtain⟨t,rfl⟩:=rx
 exact rule i t s _ _ ⟨.int (g i),H,I.tok _,⟨_,rfl⟩,q⟩
theorem Yx:Rr X (unaryOp .USub) (rU λi=>.int (-i)):=unI λ_ _ _ _ _ q=>neg_int q
end
def uM:V->V->Bool
 | .non,.non=>true | .non,.int _=>true | .int _,.non=>true | .non,.bl _=>true | .bl _,.non=>true | .non,.str _=>true | .str _,.non=>true
 | .int _,.int _=>true | .bl _,.bl _=>true | .str _,.str _=>true | .byt _,.byt _=>true
 | .int _,.str _=>true | .str _,.int _=>true | .bl _,.str _=>true | .str _,.bl _=>true
 | _,_=>false
def rEq:R2:=λx y H Q=>uM x y=true/\Q (.bl (decide (x=y))) H
def rNe:R2:=λx y H Q=>uM x y=true/\Q (.bl (!decide (x=y))) H
theorem Vx {i j:Int}:decide (V.int i=V.int j)=(i==j):=by
 rw[Bool.eq_iff_iff]
 simp
theorem ku {i j:Bool}:decide (V.bl i=V.bl j)=(i==j):=by
 rw[Bool.eq_iff_iff]
 simp
theorem Vw {i j:Str}:decide (V.str i=V.str j)=(i==j):=by
 rw[Bool.eq_iff_iff]
 simp
theorem Vy {i j:Array UInt8}:decide (V.byt i=V.byt j)=(i.toList==j.toList):=by
 rw[Bool.eq_iff_iff]
 cases i
 cases j
 simp
section
variable {X:Cx} {a b c:Expr} {ta tb tc:TE} {pos:Pos}
theorem qR {pins:List (Addr×Obj)} {σ:St} {H:Hp} {s:Shared} {Q:VK} {k k':Bool} (I:qu X pins σ H s) (q:Q (.bl k) H) (e:k=k'):EP X pins σ Q (.bool k') s:=by
 subst e
 exact⟨.bl k,H,I,rfl,q⟩
theorem Qr:Zq X (compareOp .Eq) rEq:=by
 intro pins s σ H x y v u Q I rx ry h
 obtain⟨hs,q⟩:=h
 cases x with
 | non=>
   cases rx
   cases y with
   | non=>cases ry;exact PySem.EqNone.eq_none_none (qR I q (by simp))
   | bl j=>cases ry;exact PySem.EqNone.eq_none_bool (qR I q (by simp))
   | int j=>obtain⟨t',rfl⟩:=ry;exact PySem.EqNone.eq_none_int (qR I q (by simp))
   | str j=>obtain⟨t',rfl⟩:=ry;exact PySem.EqNone.eq_none_str (qR I q (by simp))
   | _=>exact absurd (show false=true from hs) Bool.false_ne_true
 | bl i=>
   cases rx
   cases y with
   | non=>cases ry;exact PySem.EqNone.eq_bool_none (qR I q (by simp))
   | bl j=>cases ry;exact eq_bool (qR I q ku)
   | str j=>obtain⟨t',rfl⟩:=ry;exact PySem.EqMixed.eq_bool_str (qR I q (by simp))
   | _=>exact absurd (show false=true from hs) Bool.false_ne_true
 | int i=>
   obtain⟨t,rfl⟩:=rx
   cases y with
   | non=>cases ry;exact PySem.EqNone.eq_int_none (qR I q (by simp))
   | int j=>obtain⟨t',rfl⟩:=ry;exact eq_int (qR I q Vx)
   | str j=>obtain⟨t',rfl⟩:=ry;exact PySem.EqMixed.eq_int_str (qR I q (by simp))
   | _=>exact absurd (show false=true from hs) Bool.false_ne_true
 | str i=>
   obtain⟨t,rfl⟩:=rx
   cases y with
   | non=>cases ry;exact PySem.EqNone.eq_str_none (qR I q (by simp))
   | bl j=>cases ry;exact PySem.EqMixed.eq_str_bool (qR I q (by simp))
   | int j=>obtain⟨t',rfl⟩:=ry;exact PySem.EqMixed.eq_str_int (qR I q (by simp))
   | str j=>obtain⟨t',rfl⟩:=ry;exact eq_str (qR I q Vw)
   | _=>exact absurd (show false=true from hs) Bool.false_ne_true
 | byt i=>
   obtain⟨t,rfl⟩:=rx
   cases y with
   | byt j=>obtain⟨t',rfl⟩:=ry;exact PySem.W.eq_bytes (qR I q Vy)
   | _=>exact absurd (show false=true from hs) Bool.false_ne_true
 | _=>cases y<;>exact absurd (show false=true from hs) Bool.false_ne_true
theorem Vj:Zq X (compareOp .NotEq) rNe:=by
 intro pins s σ H x y v u Q I rx ry h
 obtain⟨hs,q⟩:=h
 cases x with
 | non=>
   cases rx
   cases y with
   | non=>cases ry;exact PySem.EqNone.ne_none_none (qR I q (by simp))
   | bl j=>cases ry;exact PySem.EqNone.ne_none_bool (qR I q (by simp))
   | int j=>obtain⟨t',rfl⟩:=ry;exact PySem.EqNone.ne_none_int (qR I q (by simp))
   | str j=>obtain⟨t',rfl⟩:=ry;exact PySem.EqNone.ne_none_str (qR I q (by simp))
   | _=>exact absurd (show false=true from hs) Bool.false_ne_true
 | bl i=>
   cases rx
   cases y with
   | non=>cases ry;exact PySem.EqNone.ne_bool_none (qR I q (by simp))
   | bl j=>cases ry;exact ne_bool (qR I q (congrArg not ku))
   | str j=>obtain⟨t',rfl⟩:=ry;exact PySem.EqMixed.ne_bool_str (qR I q (by simp))
   | _=>exact absurd (show false=true from hs) Bool.false_ne_true
 | int i=>
   obtain⟨t,rfl⟩:=rx
   cases y with
   | non=>cases ry;exact PySem.EqNone.ne_int_none (qR I q (by simp))
   | int j=>obtain⟨t',rfl⟩:=ry;exact ne_int (qR I q (congrArg not Vx))
   | str j=>obtain⟨t',rfl⟩:=ry;exact PySem.EqMixed.ne_int_str (qR I q (by simp))
   | _=>exact absurd (show false=true from hs) Bool.false_ne_true
 | str i=>
   obtain⟨t,rfl⟩:=rx
   cases y with
   | non=>cases ry;exact PySem.EqNone.ne_str_none (qR I q (by simp))
   | bl j=>cases ry;exact PySem.EqMixed.ne_str_bool (qR I q (by simp))
   | int j=>obtain⟨t',rfl⟩:=ry;exact PySem.EqMixed.ne_str_int (qR I q (by simp))
   | str j=>obtain⟨t',rfl⟩:=ry;exact ne_str (qR I q (congrArg not Vw))
   | _=>exact absurd (show false=true from hs) Bool.false_ne_true
 | byt i=>
   obtain⟨t,rfl⟩:=rx
   cases y with
   | byt j=>obtain⟨t',rfl⟩:=ry;exact PySem.W.ne_bytes (qR I q (congrArg not Vy))
   | _=>exact absurd (show false=true from hs) Bool.false_ne_true
 | _=>cases y<;>exact absurd (show false=true from hs) Bool.false_ne_true
theorem j4:Zq X (compareOp .Lt) (xG λi j=>.bl (decide (i < j))):=wx λ_ _ _ _ _ _ _ q=>lt_int q
theorem Xq:Zq X (compareOp .Gt) (xG λi j=>.bl (decide (j < i))):=wx λ_ _ _ _ _ _ _ q=>gt_int q
theorem vn:Zq X (compareOp .GtE) (xG λi j=>.bl (decide (j<=i))):=wx λ_ _ _ _ _ _ _ q=>ge_int q
theorem V5:Zq X (compareOp .In) (λx y H Q=>∃i j,x=.str i/\y=.str j/\Q (.bl (!(Builtin.Str.occurrences j i 0 j.length 1).isEmpty)) H):=by
 intro pins s σ H x y v u Q I rx ry h
 obtain⟨i,j,rfl,rfl,q⟩:=h
 obtain⟨t,rfl⟩:=rx
 obtain⟨t',rfl⟩:=ry
 exact in_str (qR I q rfl)
theorem qD (b:Expr) {op:CmpOp} (h:op≠.In:=by decide) (h2:op≠.NotIn:=by decide):behindInMarks op b=false:=by
 have e1:(op==CmpOp.In)=false:=by cases op<;>first | rfl | exact absurd rfl h
 have e2:(op==CmpOp.NotIn)=false:=by cases op<;>first | rfl | exact absurd rfl h2
 cases b<;>simp [behindInMarks,e1,e2]
theorem Qt {op:CmpOp} {r:R2} (ho:Zq X (compareOp op) r) (ha:JE X a ta) (hb:JE X b tb) (hm:behindInMarks op b=false):JE X (.Compare a [op] [b] pos) (XY r ta tb):=.of (by
 have ha:=ha.to
 have hb:=hb.to
 intro pins s σ H Q I h
 exact wpAny_Compare1 (ue ha hb I h λv u s2 x y H2 I2 rx ry q=>ho pins s2 σ H2 x y v u Q I2 rx ry q) hm)
def WW (t:TE):TT:=λσ H Q=>t σ H λx H'=>∃k,x=.bl k/\Q k H'
theorem qw {op:CmpOp} {r:R2} (ho:Zq X (compareOp op) r) (ha:JE X a ta) (hb:JE X b tb) (hm:behindInMarks op b=false):JT X (.Compare a [op] [b] pos) (WW (XY r ta tb)):=.of (by
 have ha:=ha.to
 have hb:=hb.to
 intro pins s σ H Q I h
 refine wpAny_isTrue_Compare1 (jc (ha pins s σ H _ I h) λv s1 ⟨x,H1,I1,r1,q1⟩=>jc (hb pins s1 σ H1 _ I1 q1) λu s2 ⟨y,H2,I2,r2,q2⟩=>
   jc (ho pins s2 σ H2 x y v u _ I2 r1 r2 q2) λc s3 ⟨z,H3,I3,r3,k,e,q3⟩=>?_) hm
 subst e
 cases r3
 exact wpAny_truthy_bool ⟨H3,I3,q3⟩)
theorem Zz:(sizeLine:Nat) < 2^63:=by rw[sizeLine_eq];decide
theorem zw:Zq X (binaryOp .Add) (λx y H Q=>∃i j,x=.str i/\y=.str j/\i.length+j.length<=sizeLine/\Q (.str (i++j)) H):=by
 intro pins s σ H x y v u Q I rx ry h
 obtain⟨i,j,rfl,rfl,hz,q⟩:=h
 obtain⟨t,rfl⟩:=rx
 obtain⟨t',rfl⟩:=ry
 exact add_str (λt' tk=>⟨.str (i++j),H,I.tok _,⟨_,rfl⟩,q⟩) hz
theorem Qj {x:V} {us:List Value} (r:qB [x] us):∃u,us=[u]/\qH x u:=by
 cases r with
 | cons r1 r2=>cases r2;exact⟨_,rfl,r1⟩
theorem WT {x y:V} {us:List Value} (r:qB [x,y] us):∃u w',us=[u,w']/\qH x u/\qH y w':=by
 cases r with
 | cons r1 r2=>
   cases r2 with
   | cons r3 r4=>cases r4;exact⟨_,_,rfl,r1,r3⟩
theorem Yo (hc:X.calm=true):jU X (.builtin "max") (λxs H Q=>∃i j,xs=[.int i,.int j]/\Q (.int (if j > i then j else i)) H):=by
 intro pins s σ H xs us Q I r h
 obtain⟨i,j,rfl,q⟩:=h
 obtain⟨u,w',rfl,⟨t,rfl⟩,⟨t',rfl⟩⟩:=WT r
 refine max_two_ints (I.ok.hd hc) λh' tk k=>⟨_,H,I.kept k,?_,q⟩
 by_cases hj:j > i
 . rw[if_pos hj,if_pos hj];exact⟨_,rfl⟩
 . rw[if_neg hj,if_neg hj];exact⟨_,rfl⟩
theorem UA (hc:X.calm=true):jU X (.builtin "min") (λxs H Q=>∃i j,xs=[.int i,.int j]/\Q (.int (if j < i then j else i)) H):=by
 intro pins s σ H xs us Q I r h
 obtain⟨i,j,rfl,q⟩:=h
 obtain⟨u,w',rfl,⟨t,rfl⟩,⟨t',rfl⟩⟩:=WT r
 refine min_two_ints (I.ok.hd hc) λh' tk k=>⟨_,H,I.kept k,?_,q⟩
 by_cases hj:j < i
 . rw[if_pos hj,if_pos hj];exact⟨_,rfl⟩
 . rw[if_neg hj,if_neg hj];exact⟨_,rfl⟩
theorem UB:jU X (.type "int") (λxs H Q=>(∃i,xs=[.int i]/\Q (.int i) H)\/∃k,xs=[.bl k]/\Q (.int (if k then 1 else 0)) H):=by
 intro pins s σ H xs us Q I r h
 rcases h with ⟨i,rfl,q⟩ | ⟨k,rfl,q⟩
 . obtain⟨u,rfl,t,rfl⟩:=Qj r
   exact call_int_int ⟨.int i,H,I,⟨_,rfl⟩,q⟩
 . obtain⟨u,rfl,r1⟩:=Qj r
   cases r1
   exact call_int_bool ⟨.int (if k then 1 else 0),H,I.tok _,⟨_,rfl⟩,q⟩
end
end L2
namespace L2
open PySem PySem.Spec PyProof.Rows
structure WO (h:Heap) (x dx C:Addr) (mA:Str->Option Value):Prop where
 obj:h.get? x=some (PySem.W.instObj C dx)
 ns:h.Ns1 dx mA
 ne:dx≠x
theorem Zy {h:Heap} {dx:Addr} {mA:Str->Option Value} (n:h.Ns1 dx mA):∃od,h.get? dx=some od/\∀name,PySem.W.lookIn name od=some (mA name):=by
 obtain⟨o,es,ep,ho,hd,hk,_,hm⟩:=n
 refine⟨o,ho,λname=>?_⟩
 have e:=hm name
 unfold nsFind findBy at e
 rw[<-Array.find?_toList]at e
 unfold PySem.W.lookIn
 rw[hd]
 dsimp only
 split
 . rename_i y q
   rw[q]at e
   exact congrArg some e
 . rename_i q
   rw[q]at e
   have a:es.toList.any (·.refKey)=false:=by
     rw[List.any_eq_false]
     intro y hy
     obtain⟨z,t,hkey⟩:=hk y (Array.mem_toList_iff.mp hy)
     simp [DictEntry.refKey,hkey]
   have a':¬es.toList.any (·.refKey)=true:=by rw[a];exact Bool.false_ne_true
   rw[if_neg a']
   exact congrArg some e
theorem WO.look {h:Heap} {x dx C:Addr} {mA:Str->Option Value} (I:WO h x dx C mA):∃od,PySem.W.InstAt h x (PySem.W.instObj C dx) C (some od)/\∀name,PySem.W.lookIn name od=some (mA name):=
 let ⟨od,ho,hl⟩:=Zy I.ns
 ⟨od,⟨I.obj,rfl,rfl,ho⟩,hl⟩
section
variable {prog:Program} {w:World} {A:Around} {E:Value->Shared->Prop} {s:Shared} {K:PySem.W.Frag} {x dx C f:Addr} {mA:Str->Option Value} {name:Str} {v:Value}
theorem yW {expr:Bool} {Q:Value->Shared->Prop} (X:K.In s.heap) (I:WO s.heap x dx C mA) (hg:PySem.W.plainGet K C name=true) (hh:PySem.W.hasDictIn K C=true)
   (ha:PySem.W.findIn K (.ref C) name=some none) (hv:mA name=some v) (hv':PySem.W.handedIn v=true) (h:Q v {s with toks:=s.toks+1}):
   wpAny (model prog w) A (getAttr (.ref x) name expr) Q E s:=by
 obtain⟨od,J,hl⟩:=I.look
 exact PySem.W.get_value X J (PySem.W.plainGet_of hg).1 (PySem.W.findObj_own hh ha rfl (by rw[hl,hv])) hv' h
theorem kj {pl:Sem Bool} {Q:Value×List Value->Shared->Prop} (X:K.In s.heap) (I:WO s.heap x dx C mA) (hg:PySem.W.plainGet K C name=true)
   (hf:PySem.W.findIn K (.ref C) name=some (some (.ref f))) (ht:PySem.W.isFn K (.ref f)=true) (hv:mA name=none) (h:Q (.ref f,[.ref x]) s):
   wpAny (model prog w) A (getMethod (.ref x) name pl) Q E s:=by
 obtain⟨od,J,hl⟩:=I.look
 exact PySem.W.method_fn X J (PySem.W.plainGet_of hg).1 (PySem.W.plainGet_of hg).2 hf (beq_iff_eq.mp ht) (by show (PySem.W.lookIn name od).map (·.isSome)=some false;rw[hl,hv];rfl) h
theorem yb {ns:List Str} {Q:Unit->Shared->Prop} (X:K.In s.heap) (I:WO s.heap x dx C mA)
   (hs:PySem.W.findIn K (.ref C) "__setattr__"=some (some (.builtin "object.__setattr__"))) (hp:PySem.W.plainOver K C=true) (ht:PySem.W.takerIn K C name=some none) (hh:PySem.W.hasDictIn K C=true)
   (hw:PySem.Within mA ns) (hsz:ns.length<=sizeLine)
   (h:∀h',WO h' x dx C (λy=>if y=name then some v else mA y)->Heap.SameBut dx s.heap h'->Q () {s with heap:=h',toks:=s.toks+2}):
   wpAny (model prog w) A (setAttr (.ref x) name v) Q E s:=by
 obtain⟨od,J,hl⟩:=I.look
 refine PySem.W.set_plain X J hs (PySem.W.osa_open (s:={s with toks:=s.toks+1}) (r:=none) X J hp ht λb=>?_)
 obtain⟨cd,hc,hd'⟩:=PySem.W.any_some hh
 have hx:s.heap.get? x=some ⟨.ref C,some dx,.plain,#[]⟩:=I.obj
 refine wpAny_bind (wpAny_pure (wpAny_bind (wpAny_bind (wpAny_loadPart hx (wpAny_bind (PySem.W.Looks.here (s:={s with toks:=s.toks+1}) (PySem.W.looks_clsIn X hc) ?_))))))
 rw[hd']
 refine wpAny_pure (a:=some dx) (wpAny_bind (wpAny_pure (wpAny_bind ?_)))
 refine wpAny_nsSet1 (s:={s with toks:=s.toks+1}) I.ns λh' hn2 hs2=>?_
 obtain⟨oD,esD,epD,hoD,hdD,hcD⟩:=hn2.count (PySem.Within.cons name v hw)
 refine wpAny_bind (wpAny_lookBehind hoD (by rw[hdD];exact pastItsLine_dict (Nat.le_trans hcD (by rw[List.length_cons];omega))) ?_)
 exact wpAny_pure (h _ ⟨(hs2.2 _ (Ne.symm I.ne)).trans I.obj,hn2,I.ne⟩ hs2)
theorem vF {R:Result->Shared->Prop} {vs:List Value} {kw:List (Str×Value)} (X:K.In s.heap) (hm:PySem.W.makesIn K C=true)
   (hi:PySem.W.findIn K (.ref C) "__init__"=some (some (.ref f))) (hf:PySem.W.typeIn K (.ref f)=some (.type "function"))
   (h:codeAny (model prog w) (A.under (.builtin "type.__call__" ⟨.ref C::vs,kw⟩)) (.call (.ref f) ⟨.ref (s.heap.objs.size+1)::vs,kw⟩) (PySem.W.InitBack (s.heap.objs.size+1) R)
     {s with heap:=(s.heap.push PySem.W.emptyDict).push (PySem.W.instObj C s.heap.objs.size)}):
   codeAny (model prog w) A (.call (.ref C) ⟨vs,kw⟩) R s:=by
 obtain⟨hh,g,d,t,os⟩:=s
 exact PySem.W.make_core (PySem.W.makes_of X hm) (PySem.W.looks_findIn X hi) (λself=>PySem.W.bind_fn X self hf) (.inl rfl) h
end
def QO (f:Str) (v:V):List (Str×V)->List (Str×V)
 | []=>[(f,v)]
 | (g,x)::r=>if g=f then (g,v)::r else (g,x)::QO f v r
theorem ZM (f g:Str) (v:V):∀fs:List (Str×V),(QO f v fs).lookup g=if g=f then some v else fs.lookup g
 | []=>by
   show List.lookup g [(f,v)]=_
   by_cases h:g=f
   . have hb:(g==f)=true:=beq_iff_eq.mpr h
     simp only[List.lookup,hb,if_pos h]
   . have hb:(g==f)=false:=beq_eq_false_iff_ne.mpr h
     simp only[List.lookup,hb,if_neg h]
 | (k,x)::r=>by
   have ih:=ZM f g v r
   rw[show QO f v ((k,x)::r)=(if k=f then (k,v)::r else (k,x)::QO f v r) from rfl]
   by_cases hk:k=f
   . rw[if_pos hk]
     by_cases h:g=k
     . have hb:(g==k)=true:=beq_iff_eq.mpr h
       simp only[List.lookup,hb,if_pos (h.trans hk)]
     . have hb:(g==k)=false:=beq_eq_false_iff_ne.mpr h
       simp only[List.lookup,hb,if_neg (λe:g=f=>h (e.trans hk.symm))]
   . rw[if_neg hk]
     by_cases h:g=k
     . have hb:(g==k)=true:=beq_iff_eq.mpr h
       simp only[List.lookup,hb,if_neg (λe:g=f=>hk (h.symm.trans e))]
     . have hb:(g==k)=false:=beq_eq_false_iff_ne.mpr h
       simp only[List.lookup,hb]
       exact ih
theorem ZC (f:Str) (v:V):∀fs:List (Str×V),f∈(QO f v fs).map (·.1)/\∀g,g∈fs.map (·.1)->g∈(QO f v fs).map (·.1)
 | []=>⟨by simp [QO],λg h=>by simp at h⟩
 | (k,x)::r=>by
   obtain⟨i1,i2⟩:=ZC f v r
   rw[show QO f v ((k,x)::r)=(if k=f then (k,v)::r else (k,x)::QO f v r) from rfl]
   by_cases hk:k=f
   . rw[if_pos hk]
     subst hk
     exact⟨by simp,λg h=>by simpa using h⟩
   . rw[if_neg hk]
     refine⟨?_,λg h=>?_⟩
     . rw[List.map_cons]
       exact List.mem_cons_of_mem _ i1
     . rw[List.map_cons]at h ⊢
       rcases List.mem_cons.mp h with e | e
       . exact List.mem_cons.mpr (.inl e)
       . exact List.mem_cons_of_mem _ (i2 g e)
theorem ZN (f:Str) (v:V):∀fs:List (Str×V),(QO f v fs).length<=fs.length+1
 | []=>by simp [QO]
 | (k,x)::r=>by
   have ih:=ZN f v r
   rw[show QO f v ((k,x)::r)=(if k=f then (k,v)::r else (k,x)::QO f v r) from rfl]
   by_cases hk:k=f
   . rw[if_pos hk,List.length_cons,List.length_cons];omega
   . rw[if_neg hk,List.length_cons,List.length_cons];omega
theorem Q7.some_of {v:V} {o:Option Value} (r:Q7 (some v) o):∃u,o=some u/\qH v u:=by
 cases o with
 | none=>exact(show False from r).elim
 | some u=>exact⟨u,rfl,r⟩
theorem Q7.none_of {o:Option Value} (r:Q7 none o):o=none:=by
 cases o with
 | none=>rfl
 | some u=>exact(show False from r).elim
theorem Ym {v:V} {u:Value} (r:qH v u):PySem.W.handedIn u=true:=by
 cases v with
 | non=>cases (show u=Value.none from r);rfl
 | bl b=>cases (show u=Value.bool b from r);rfl
 | int i=>obtain⟨t,e⟩:=(show ∃t,u=Value.int i t from r);cases e;rfl
 | str x=>obtain⟨t,e⟩:=(show ∃t,u=Value.str x t from r);cases e;rfl
 | byt b=>obtain⟨t,e⟩:=(show ∃t,u=Value.bytes b t from r);cases e;rfl
 | flt b=>obtain⟨t,e⟩:=(show ∃t,u=Value.float b t from r);cases e;rfl
 | ref a=>cases (show u=Value.ref a from r);rfl
 | ty n=>cases (show u=Value.type n from r);rfl
section
variable {P:Program} {w:World} {H H':Hp} {h h':Heap} {a C dx:Addr} {fs fs':List (Str×V)}
theorem Z5 (hok:Q4 P w H h) (e:H a=some (.ins C dx fs)):∃mA,WO h a dx C mA/\(∀f,Q7 (fs.lookup f) (mA f))/\PySem.Within mA (fs.map (·.1))/\fs.length<=1000/\H dx=some (.own a):=by
 obtain⟨d,z,ne,ob,mA,n,r,q⟩:=(show qA P w H h a (.ins C dx fs) from hok a _ e)
 exact⟨mA,⟨ob,n,ne⟩,r,q,z,d⟩
end
structure WR (K:PySem.W.Frag) (C:Addr):Prop where
 pg:PySem.W.plainGet K C Str.empty=true
 hd:PySem.W.hasDictIn K C=true
 po:PySem.W.plainOver K C=true
 sa:PySem.W.findIn K (.ref C) "__setattr__"=some (some (.builtin "object.__setattr__"))
theorem WR.get {K:PySem.W.Frag} {C:Addr} (c:WR K C) (f:Str):PySem.W.plainGet K C f=true:=c.pg
def jY (K:PySem.W.Frag) (C:Addr) (f:Str):Prop:=PySem.W.findIn K (.ref C) f=some none
theorem jY.taker {K:PySem.W.Frag} {C:Addr} {f:Str} (n:jY K C f):PySem.W.takerIn K C f=some none:=by
 unfold PySem.W.takerIn
 rw[show PySem.W.findIn K (.ref C) f=some none from n]
 rfl
structure Con (K:PySem.W.Frag) (C:Addr) (f:Str) (v:V) (u:Value):Prop where
 at_:PySem.W.findIn K (.ref C) f=some (some u)
 rel:qH v u
 get:PySem.W.specialIn K u "__get__"=some none
 cp:PySem.W.copiedNames.contains f=false
structure UE (K:PySem.W.Frag) (C:Addr) (m:Str) (f:Addr):Prop where
 at_:PySem.W.findIn K (.ref C) m=some (some (.ref f))
 fn:PySem.W.isFn K (.ref f)=true
 kp:PySem.W.keepIn K (.ref f)=true
section
variable {X:Cx} {pins:List (Addr×Obj)} {σ:St} {H:Hp} {s:Shared} {a C dx:Addr} {fs:List (Str×V)} {f:Str} {v:V} {A:Around} {E:Value->Shared->Prop}
theorem WE {b:Bool} {Q:Value->Shared->Prop} (I:qu X pins σ H s) (e:H a=some (.ins C dx fs)) (c:WR X.K C) (n:jY X.K C f) (l:fs.lookup f=some v)
   (h:∀u s',qu X pins σ H s'->qH v u->Q u s'):wpAny (model X.prog X.w) A (getAttr (.ref a) f b) Q E s:=by
 obtain⟨mA,O,r,_,_,_⟩:=Z5 I.hok e
 obtain⟨u,hu,ru⟩:=Q7.some_of (v:=v) (o:=mA f) (by rw[<-l];exact r f)
 exact yW I.kIn O (c.get f) c.hd n hu (Ym ru) (h u _ (I.tok _) ru)
theorem zJ {m:Str} {g:Addr} {pl:Sem Bool} {Q:Value×List Value->Shared->Prop} (I:qu X pins σ H s) (e:H a=some (.ins C dx fs)) (c:WR X.K C) (k:UE X.K C m g) (l:fs.lookup m=none)
   (h:Q (.ref g,[.ref a]) s):wpAny (model X.prog X.w) A (getMethod (.ref a) m pl) Q E s:=by
 obtain⟨mA,O,r,_,_,_⟩:=Z5 I.hok e
 have hn:mA m=none:=Q7.none_of (by rw[<-l];exact r m)
 exact kj I.kIn O (c.get m) k.at_ k.fn hn h
theorem Wh {y:V} {u:Value} {Q:Unit->Shared->Prop} (I:qu X pins σ H s) (e:H a=some (.ins C dx fs)) (c:WR X.K C) (n:jY X.K C f) (hl:fs.length < 1000) (ry:qH y u)
   (h:∀s',qu X pins σ (upd H a (.ins C dx (QO f y fs))) s'->Q () s'):wpAny (model X.prog X.w) A (setAttr (.ref a) f u) Q E s:=by
 obtain⟨mA,O,r,wi,_,ho⟩:=Z5 I.hok e
 have hz:(fs.map (·.1)).length<=sizeLine:=by rw[List.length_map,sizeLine_eq];omega
 refine yb I.kIn O c.sa c.po n.taker c.hd wi hz λh' O' sb=>h _ ?_
 have hd:∃o,h'.get? dx=some o:=let ⟨o,_,_,e',_⟩:=O'.ns;⟨o,e'⟩
 refine I.write (x:=a) (e:=dx) (by rw[e];exact True.intro) (.inr ho) (λb q hb z=>(sb.2 b hb).trans z) hd ?_
 refine⟨by rw[qe O.ne];exact ho,?_,O.ne,O'.obj,_,O'.ns,λg=>?_,λg hg=>?_⟩
 . have:=ZN f y fs;omega
 . show Q7 ((QO f y fs).lookup g) (if g=f then some u else mA g)
   rw[ZM]
   by_cases q:g=f
   . rw[if_pos q,if_pos q];exact ry
   . rw[if_neg q,if_neg q];exact r g
 . by_cases q:g=f
   . rw[q];exact(ZC f y fs).1
   . refine(ZC f y fs).2 g (wi g λz=>hg ?_)
     show (if g=f then some u else mA g)=none
     rw[if_neg q];exact z
theorem qu.made (I:qu X pins σ H s):qu X pins σ (upd (upd H s.heap.objs.size (.own (s.heap.objs.size+1))) (s.heap.objs.size+1) (.ins C s.heap.objs.size []))
   {s with heap:=(s.heap.push PySem.W.emptyDict).push (PySem.W.instObj C s.heap.objs.size)}:=by
 have e1:(s.heap.push PySem.W.emptyDict).get? s.heap.objs.size=some PySem.W.emptyDict:=Heap.get?_push_size s.heap rfl
 have e2:((s.heap.push PySem.W.emptyDict).push (PySem.W.instObj C s.heap.objs.size)).get? (s.heap.objs.size+1)=some (PySem.W.instObj C s.heap.objs.size):=by
   have:=Heap.get?_push_size (s.heap.push PySem.W.emptyDict) (o:=PySem.W.instObj C s.heap.objs.size) rfl
   rwa [Heap.size_push]at this
 have e3:(s.heap.push PySem.W.emptyDict).Ns s.heap.objs.size (λ_=>none):=⟨PySem.W.emptyDict,#[],_,e1,rfl,(λe he=>absurd he (by simp)),λ_=>rfl⟩
 have I1:=I.laid (a:=s.heap.objs.size) (o:=.own (s.heap.objs.size+1)) (h':=s.heap.push PySem.W.emptyDict) (t':=s.toks) (λb u q=>Heap.get?_push_of_some _ q) (Nat.le_refl _) ⟨_,e1⟩
 refine I1.laid (a:=s.heap.objs.size+1) (o:=.ins C s.heap.objs.size []) (t':=s.toks) (λb u q=>Heap.get?_push_of_some _ q) (Nat.le_of_eq (Heap.size_push _ _)) ?_
 have ne:s.heap.objs.size≠s.heap.objs.size+1:=Nat.ne_of_lt (Nat.lt_succ_self _)
 refine⟨by rw[qe ne,qd],Nat.zero_le _,ne,e2,λ_=>none,(Heap.Ns1.of_empty e3).at λo q=>Heap.get?_push_of_some _ q,λ_=>True.intro,λy hy=>absurd rfl hy⟩
theorem VB {prog:Program} {w:World} {env:Env} {e:Expr} {f:Str} {pos:Pos} {s:Shared} {Q:Value->Shared->Prop} (hb:attributeBase e f env (eval e env)=eval e env)
   (h:wpAny (model prog w) A (eval e env) (λo s₁=>wpAny (model prog w) A (getAttr o f true) Q E s₁) E s):wpAny (model prog w) A (eval (.Attribute e f pos) env) Q E s:=
 Attribute_any_ h (by rw[arm_eval_Attribute,hb])
end
def K5 (K:PySem.W.Frag) (ta:TE) (f:Str):TE:=λσ H Q=>ta σ H λx H1=>∃a C dx fs v,x=.ref a/\H1 a=some (.ins C dx fs)/\WR K C/\jY K C f/\fs.lookup f=some v/\Q v H1
def Gj (K:PySem.W.Frag) (ta tv:TE) (f:Str):TS:=λD σ H=>tv σ H λy H1=>ta σ H1 λx H2=>∃a C dx fs,x=.ref a/\H2 a=some (.ins C dx fs)/\WR K C/\jY K C f/\fs.length < 1000/\
 D.nx σ (upd H2 a (.ins C dx (QO f y fs)))
section
variable {X:Cx} {o e value:Expr} {f:Str} {pos pos' tpos:Pos} {ta tv:TE}
theorem zH (he:JE X e ta) (hb:attributeBase e f X.env (eval e X.env)=eval e X.env):JE X (.Attribute e f pos) (K5 X.K ta f):=.of (by
 have he:=he.to
 intro pins s σ H Q I h
 refine VB hb (jc (he pins s σ H _ I h) λu s1 ⟨x,H1,I1,rx,a,C,dx,fs,v,ex,ea,c,n,l,q⟩=>?_)
 subst ex
 obtain rfl:u=Value.ref a:=rx
 exact WE I1 ea c n l λu' s2 I2 ru=>⟨v,H1,I2,ru,q⟩)
theorem vM (ha:JE X o ta) (hv:JE X value tv) (hs:swapsWith value (some (.Attribute o f pos')) pos.line X.env=pure false):JS X (.Assign [.Attribute o f pos'] value pos) (Gj X.K ta tv f):=.of (by
 have ha:=ha.to
 have hv:=hv.to
 intro pins s σ H D I h
 refine plainObj_wpAny_Assign_Attribute (jc (hv pins s σ H _ I h) λu s1 ⟨y,H1,I1,ry,q⟩=>jc (ha pins s1 σ H1 _ I1 q) λov s2 ⟨x,H2,I2,rx,a,C,dx,fs,ex,ea,c,n,l,q2⟩=>?_) hs
 subst ex
 obtain rfl:ov=Value.ref a:=rx
 exact Wh I2 ea c n l ry λs3 I3=>⟨σ,_,I3,q2⟩)
end
section
variable {X:Cx} {pins:List (Addr×Obj)} {σ:St} {H:Hp} {s:Shared} {A:Around} {E:Value->Shared->Prop} {Q:Value->Shared->Prop} {c:Value} {b:Bool}
inductive TyOf (K:PySem.W.Frag) (H:Hp):V->Value->Prop where
 | non:TyOf K H .non (.type "NoneType")
 | bl (x:Bool):TyOf K H (.bl x) (.type "bool")
 | int (i:Int):TyOf K H (.int i) (.type "int")
 | str (x:Str):TyOf K H (.str x) (.type "str")
 | flt (x:UInt64):TyOf K H (.flt x) (.type "float")
 | lst {a:Addr} {xs:List V} (e:H a=some (.lst xs)):TyOf K H (.ref a) (.type "list")
 | frz {a:Addr} {o:Obj} {xs:List V} (e:H a=some (.frz o (.lst xs))):TyOf K H (.ref a) (.type "list")
 | tup {a:Addr} {xs:List V} (e:H a=some (.tup xs)):TyOf K H (.ref a) (.type "tuple")
 | dK {a:Addr} {kvs:List (qS×V)} (e:H a=some (.dK kvs)):TyOf K H (.ref a) (.type "dict")
 | dT {a:Addr} {kvs:List (List qS×V)} (e:H a=some (.dT kvs)):TyOf K H (.ref a) (.type "dict")
 | ins {a C dx:Addr} {fs:List (Str×V)} (e:H a=some (.ins C dx fs)) (cl:WR K C) (ha:PySem.W.findIn K (.ref C) "__class__"=some (some (.builtin "object.__class__")))
     (hn:PySem.W.specialIn K (.builtin "object.__class__") "__get__"=some (some (.builtin "getset_descriptor.__get__"))) (htk:PySem.W.takesIn K (.builtin "object.__class__")=some true)
     (hm:PySem.W.mroIn K C (.type "object")=some true):TyOf K H (.ref a) (.ref C)
theorem Ul {x:V} {u t:Value} (I:qu X pins σ H s) (rx:qH x u) (ty:TyOf X.K H x t) (e:PySem.W.kitOne X.K t c=some b) (h:∀tk,Q (.bool b) {s with toks:=tk}):
   wpAny (model X.prog X.w) A (call (.builtin "isinstance") [u,c]) Q E s:=by
 cases ty with
 | non=>cases (show u=Value.none from rx);exact PySem.W.kia_one PySem.W.kitx_none I.kIn True.intro e (λz=>nomatch z) h
 | bl y=>cases (show u=Value.bool y from rx);exact PySem.W.kia_one PySem.W.kitx_bool I.kIn True.intro e (λz=>nomatch z) h
 | int i=>obtain⟨t,q⟩:=(show ∃t,u=Value.int i t from rx);cases q;exact PySem.W.kia_one PySem.W.kitx_int I.kIn True.intro e (λz=>nomatch z) h
 | str y=>obtain⟨t,q⟩:=(show ∃t,u=Value.str y t from rx);cases q;exact PySem.W.kia_one PySem.W.kitx_str I.kIn True.intro e (λz=>nomatch z) h
 | flt y=>obtain⟨t,q⟩:=(show ∃t,u=Value.float y t from rx);cases q;exact PySem.W.kia_one PySem.W.kitx_float I.kIn True.intro e (λz=>nomatch z) h
 | @lst a xs ea=>
   cases (show u=Value.ref a from rx)
   obtain⟨_,_,n,_,h1⟩:=(show qA X.prog X.w H s.heap a (.lst xs) from I.hok a _ ea)
   exact PySem.W.kia_one PySem.W.kitx_list I.kIn ⟨_,h1,rfl⟩ e (λz=>nomatch z) h
 | @frz a ob xs ea=>
   cases (show u=Value.ref a from rx)
   obtain⟨_,_,_,n,_,h1⟩:=(show qA X.prog X.w H s.heap a (.frz ob (.lst xs)) from I.hok a _ ea)
   exact PySem.W.kia_one PySem.W.kitx_list I.kIn ⟨_,h1,rfl⟩ e (λz=>nomatch z) h
 | @tup a xs ea=>
   cases (show u=Value.ref a from rx)
   obtain⟨_,_,_,p⟩:=(show qA X.prog X.w H s.heap a (.tup xs) from I.hok a _ ea)
   obtain⟨o,h1,h2,_⟩:=p
   exact PySem.W.kia_one PySem.W.kitx_tuple I.kIn ⟨o,h1,h2⟩ e (λz=>nomatch z) h
 | @dK a kvs ea=>
   cases (show u=Value.ref a from rx)
   obtain⟨_,_,vs,_,p⟩:=(show qA X.prog X.w H s.heap a (.dK kvs) from I.hok a _ ea)
   obtain⟨o,es,ep,h1,h2,_⟩:=p
   exact PySem.W.kia_one PySem.W.kitx_dict I.kIn ⟨o,h1,h2.1⟩ e (λz=>nomatch z) h
 | @dT a kvs ea=>
   cases (show u=Value.ref a from rx)
   obtain⟨_,_,xs,_,o,es,ep,h1,h2,_⟩:=(show qA X.prog X.w H s.heap a (.dT kvs) from I.hok a _ ea)
   exact PySem.W.kia_one PySem.W.kitx_dict I.kIn ⟨o,h1,h2.1⟩ e (λz=>nomatch z) h
 | @ins a C dx fs ea cl ha hn htk hm=>
   cases (show u=Value.ref a from rx)
   obtain⟨mA,O,_⟩:=Z5 I.hok ea
   obtain⟨od,J,_⟩:=O.look
   exact PySem.W.kia_one (PySem.W.kitx_own (cl.get _) cl.hd ha hn htk hm) I.kIn J e (λz=>nomatch z) h
end
end L2
namespace L2
open PySem PySem.Spec PyProof.Rows
structure ja (k:Nat) (A:Around):Prop where
 hd:A.handled=none
 dp:A.depth+3*k+5 < recursionLimit
 un:A.units+16*k+200 < cLine
 gd:A.guards=some []
theorem ja.mono {j k:Nat} {A:Around} (r:ja k A) (h:j<=k):ja j A:=⟨r.hd,by have:=r.dp;omega,by have:=r.un;omega,r.gd⟩
theorem ja.deeper {k:Nat} {A:Around} (r:ja (k+1) A) (env:Env):ja k (A.deeper env):=
 ⟨r.hd,by have:=r.dp;show A.depth+1+3*k+5 < _;omega,by have:=r.un;show A.units+3+16*k+200 < _;omega,r.gd⟩
theorem Wy {A:Around} {C:Addr} {us:List Value} {kw:List (Str×Value)}:(A.under (.builtin "type.__call__" ⟨.ref C::us,kw⟩)).depth=A.depth+1:=by
 first | rfl | simp [Around.under,Code.weight,Code.isCreation,Code.isGuard,Code.isCaller,Code.frames,Code.isFrame,guardIds]
theorem Wx {A:Around} {C:Addr} {us:List Value} {kw:List (Str×Value)}:(A.under (.builtin "type.__call__" ⟨.ref C::us,kw⟩)).units=A.units+1:=by
 first | rfl | simp [Around.under,Code.cUnits,Code.frames,Code.isFrame]
theorem ja.make {k:Nat} {A:Around} (r:ja (k+1) A) (C:Addr) (us:List Value) (kw:List (Str×Value)):ja k (A.under (.builtin "type.__call__" ⟨.ref C::us,kw⟩)):=
 ⟨r.hd,by have:=r.dp;rw[Wy];omega,by have:=r.un;rw[Wx];omega,(by have:=r.gd;first | exact this | simpa [Around.under,Code.isGuard,guardIds] using this)⟩
theorem ja.depth {k:Nat} {A:Around} (r:ja k A):A.depth < recursionLimit:=by have:=r.dp;omega
theorem ja.units {k:Nat} {A:Around} (r:ja k A):A.units+64 < cLine:=by have:=r.un;omega
theorem ja.units0 {k:Nat} {A:Around} (r:ja k A):A.units < cLine:=by have:=r.un;omega
def JB:TA:=λ_ H Q=>Q [] H
def jC (ta:TE) (tr:TA):TA:=λσ H Q=>ta σ H λx H1=>tr σ H1 λxs H2=>Q (x::xs) H2
section
variable {X:Cx} {e:Expr} {es:List Expr} {te:TE} {t:TA} {pos:Pos}
theorem qg:JA X [] JB:=.of (by
 exact λ_ _ _ _ H Q I h=>Calls.spliced_nil ⟨[],H,I,.nil,h⟩)
theorem qb (ha:JE X e te) (hr:JA X es t) (hs:starEach (e::es) X.env=(false,eval e X.env)::starEach es X.env:=by rfl):JA X (e::es) (jC te t):=.of (by
 have ha:=ha.to
 have hr:=hr.to
 intro pos pins s σ H Q I h
 rw[hs]
 show wpAny _ _ (spliced ((false,eval e X.env)::backTo pos (starEach es X.env))) _ _ s
 refine Calls.spliced_cons (jc (ha pins s σ H _ I h) λu s1 ⟨x,H1,I1,r1,q1⟩=>?_)
 exact jc (hr pos pins s1 σ H1 _ I1 q1) λus s2 ⟨xs,H2,I2,r2,q2⟩=>⟨x::xs,H2,I2,.cons r1 r2,q2⟩)
def kQ (t:TA):TE:=λσ H Q=>t σ H λxs H1=>xs.length<=sizeLine/\∀p,H1 p=none->Q (.ref p) (upd H1 p (.tup xs))
def K3 (t:TA):TE:=λσ H Q=>t σ H λxs H1=>xs.length<=sizeLine/\∀p,H1 p=none->Q (.ref p) (upd H1 p (.lst xs))
theorem jm {x1} (h:JA X es t):JE X (.Tuple es x1 pos) (kQ t):=.of (by
 have h:=h.to
 intro pins s σ H Q I hq
 refine wpAny_Tuple_spliced (jc (h pos pins s σ H _ I hq) λus s1 ⟨xs,H1,I1,r,z,q⟩=>⟨by rw[<-r.length];exact z,?_⟩)
 have hf:H1 s1.heap.objs.size=none:=I1.hok.fresh (Nat.le_refl _)
 refine⟨.ref s1.heap.objs.size,upd H1 s1.heap.objs.size (.tup xs),I1.laid (t':=s1.toks) (λb u e=>Heap.get?_push_of_some _ e) (Nat.le_refl _) ?_,rfl,q _ hf⟩
 exact⟨z,us,r,⟨_,Heap.get?_push_size _ rfl,rfl,_,rfl⟩⟩)
theorem jl (h:JA X es t):JE X (.List es pos) (K3 t):=.of (by
 have h:=h.to
 intro pins s σ H Q I hq
 refine wpAny_List_spliced (jc (h pos pins s σ H _ I hq) λus s1 ⟨xs,H1,I1,r,z,q⟩=>⟨by rw[<-r.length];exact z,?_⟩)
 have hf:H1 s1.heap.objs.size=none:=I1.hok.fresh (Nat.le_refl _)
 refine⟨.ref s1.heap.objs.size,upd H1 s1.heap.objs.size (.lst xs),I1.laid (t':=s1.toks) (λb u e=>Heap.get?_push_of_some _ e) (Nat.le_refl _) ?_,rfl,q _ hf⟩
 exact⟨z,us,0,r,Heap.get?_push_size _ rfl⟩)
end
abbrev Sp:=List V->Hp->VK->XK->Prop
abbrev ZJ:=List Env->Hp->Shared->XK->Value->Shared->Prop
structure XV (P:Program) (w:World) (K:PySem.W.Frag) (mg:Str->Option Value) (base:Heap) (A:Around) (outer:List Env) (s:Shared) (H:Hp):Prop where
 frames:A.frames=some outer
 mod:Mod K mg base
 bs:∀b o,base.get? b=some o->s.heap.get? b=some o/\H b=none
 bsz:base.objs.size<=s.heap.objs.size
 funs:s.heap.FunFrames base outer
 frf:∀b∈ZO outer,H b=none
 hok:Q4 P w H s.heap
 bare:AllBare s.gens
def CE (outer:List Env) (P:Program) (w:World) (H:Hp) (s:Shared) (Q:VK) (u:Value) (s':Shared):Prop:=
 ∃v H',s'.os=s.os/\AllBare s'.gens/\Un (ZO outer) [] H H' s.heap s'.heap/\Q4 P w H' s'.heap/\qH v u/\Q v H'
def CR (CX:ZJ) (outer:List Env) (P:Program) (w:World) (H:Hp) (s:Shared) (Q:VK) (E:XK) (r:Result) (s':Shared):Prop:=
 match r with
 | .ok (.ret u)=>CE outer P w H s Q u s'
 | .ok _=>False
 | .error e=>CX outer H s E e s'
structure qv (P:Program) (w:World) (K:PySem.W.Frag) (mg:Str->Option Value) (base:Heap) (CX:ZJ) (k:Nat) (f:Addr) (fd:FuncData) (ps:List Str) (sp:Sp):Prop where
 len:∀vs H Q E,sp vs H Q E->vs.length=ps.length
 run:∀(A:Around) (outer:List Env) (s:Shared) (H:Hp) (args:Args) (us:List Value) (vs:List V) (Q:VK) (E:XK),ja k A->XV P w K mg base A outer s H->BindsTo s fd args (ps.zip us)->qB vs us->sp vs H Q E->
   codeAny (model P w) A (.call (.ref f) args) (CR CX outer P w H s Q E) s
theorem qv.imp {P:Program} {w:World} {K:PySem.W.Frag} {mg:Str->Option Value} {base:Heap} {CX:ZJ} {k:Nat} {f:Addr} {fd:FuncData} {ps:List Str} {sp sp':Sp} (F:qv P w K mg base CX k f fd ps sp)
   (h:∀vs H Q E,sp' vs H Q E->sp vs H Q E):qv P w K mg base CX k f fd ps sp':=
 ⟨λvs H Q E q=>F.len vs H Q E (h _ _ _ _ q),λA outer s H args us vs Q E hr he hb hv hs=>F.run A outer s H args us vs Q E hr he hb hv (h _ _ _ _ hs)⟩
theorem XV.make {P:Program} {w:World} {K:PySem.W.Frag} {mg:Str->Option Value} {base:Heap} {A:Around} {outer:List Env} {s:Shared} {H:Hp} (e:XV P w K mg base A outer s H) (C:Addr) (us:List Value) (kw:List (Str×Value)):
   XV P w K mg base (A.under (.builtin "type.__call__" ⟨.ref C::us,kw⟩)) outer s H:=⟨by first | exact e.frames | (simpa [Around.under,Code.envs,Code.isFrame,pushEnvs] using e.frames),e.mod,e.bs,e.bsz,e.funs,e.frf,e.hok,e.bare⟩
section
variable {X:Cx} {pins:List (Addr×Obj)} {σ:St} {H:Hp} {s s':Shared}
theorem qu.env0 (I:qu X pins σ H s):XV X.prog X.w X.K X.mg X.base X.A X.stack s H:=
 ⟨I.ok.frames,I.ok.mod,I.bs,Nat.le_trans I.ok.bsz I.sz,I.stack,I.stkFree,I.hok,I.bare⟩
theorem qu.after {Q:VK} {u:Value} (I:qu X pins σ H s) (h:CE X.stack X.prog X.w H s Q u s'):EP X pins σ Q u s':=by
 obtain⟨v,H',os,bare,un,hok,r,q⟩:=h
 obtain⟨hh,g,d,t,os'⟩:=s'
 obtain rfl:os'=s.os:=os
 exact⟨v,H',I.call (h':=hh) (g':=g) (d':=d) (t':=t) (ch:=[]) un hok bare (λb z=>absurd z (by simp)),r,q⟩
end
def Xb (sp:Sp) (dvs:List V) (E:XK) (t:TA):TE:=λσ H Q=>t σ H λvs H1=>sp (vs++dvs) H1 Q E
def z8 (C:Addr) (m:Str) (sp:Sp) (dvs:List V) (E:XK) (ta:TE) (t:TA):TE:=λσ H Q=>ta σ H λx H1=>∃a dx fs,x=.ref a/\H1 a=some (.ins C dx fs)/\fs.lookup m=none/\
 t σ H1 λvs H2=>sp (x::(vs++dvs)) H2 Q E
def uC (C:Addr) (sp:Sp) (dvs:List V) (E:XK) (t:TA):TE:=λσ H Q=>t σ H λvs H1=>∀x dx,H1 x=none->H1 dx=none->dx≠x->
 sp (.ref x::(vs++dvs)) (upd (upd H1 dx (.own x)) x (.ins C dx [])) (λv H2=>v=.non/\Q (.ref x) H2) E
def jz (K:PySem.W.Frag) (fd:FuncData) (ps:List Str) (ds:List Value):Prop:=
 ∀(s:Shared) (us:List Value),K.In s.heap->(us++ds).length=ps.length->BindsTo s fd ⟨us,[]⟩ (ps.zip (us++ds))
theorem jz.all {K:PySem.W.Frag} {fd:FuncData} {ps:List Str} (h:∀us:List Value,us.length=ps.length->bindArgs fd ⟨us,[]⟩=pure (ps.zip us)):jz K fd ps []:=λs us _ hl=>by
 rw[List.append_nil]at hl ⊢
 exact .of_eq (h us hl)
def jw (CX:ZJ) (X:Cx) (E:XK):Prop:=∀(pins:List (Addr×Obj)) (σ:St) (H:Hp) (s:Shared) (e:Value) (s':Shared),qu X pins σ H s->CX X.stack H s E e s'->X.xe e s'
section
variable {X:Cx} {CX:ZJ} {k:Nat} {f C:Addr} {fd:FuncData} {ps:List Str} {sp:Sp} {dvs:List V} {ds:List Value} {E:XK} {x m:Str} {p pos apos:Pos} {e o:Expr} {es:List Expr} {ta:TE} {t:TA}
theorem Wp {pins:List (Addr×Obj)} {σ:St} {H:Hp} {s:Shared} {Q:VK} {us:List Value} {vs:List V} (F:qv X.prog X.w X.K X.mg X.base CX k f fd ps sp) (hr:ja k X.A) (hb:jz X.K fd ps ds) (hd:qB dvs ds) (hx:jw CX X E)
   (I:qu X pins σ H s) (r:qB vs us) (h:sp (vs++dvs) H Q E):wpAny (model X.prog X.w) X.A (call (.ref f) us) (EP X pins σ Q) X.xe s:=by
 have r2:qB (vs++dvs) (us++ds):=r.append hd
 have hl:(us++ds).length=ps.length:=by rw[<-r2.length];exact F.len _ _ _ _ h
 refine wpAny_call (codeAny_mono (F.run X.A X.stack s H ⟨us,[]⟩ (us++ds) (vs++dvs) Q E hr I.env0 (hb s us I.kIn hl) r2 h) λr s' hq=>?_)
 cases r with
 | error e=>exact hx pins σ H s e s' I hq
 | ok fl=>
   cases fl with
   | ret u=>exact I.after hq
   | next=>exact False.elim hq
   | brk=>exact False.elim hq
   | cont=>exact False.elim hq
theorem Vi (F:qv X.prog X.w X.K X.mg X.base CX k f fd ps sp) (hr:ja k X.A) (hg:Gl X x) (hm:X.mg x=some (.ref f)) (hk:PySem.W.keepIn X.K (.ref f)=true) (hb:jz X.K fd ps ds) (hd:qB dvs ds) (hx:jw CX X E)
   (ha:PA X (e::es) t) (hdb:(x==("__debug__":Str))=false:=by decide) (he:starEach (e::es) X.env=(false,eval e X.env)::starEach es X.env:=by rfl) (hpl:(backTo pos (starEach es X.env)).any (·.1)=false:=by rfl):
   PE X (.Call (.Name x p) (e::es) [] pos) (Xb sp dvs E t):=by
 intro pins s σ H Q I h
 refine wpAny_Call_Name_kw (Ze I hg hm ?_ hdb)
 refine PySem.W.callWith_K (h₀:=X.base) I.ok.mod.kin hk (jc (ha pos pins s σ H _ I h) λus s1 ⟨vs,H1,I1,r,q⟩=>⟨I1.kIn,?_⟩) he hpl
 exact Wp F hr hb hd hx I1 r q
theorem yn {pl:Sem Bool} (he:PE X o ta) (c:WR X.K C) (hm:UE X.K C m f) (F:qv X.prog X.w X.K X.mg X.base CX k f fd ps sp) (hr:ja k X.A) (hb:jz X.K fd ps ds) (hd:qB dvs ds) (hx:jw CX X E) (ha:PA X (e::es) t)
   (hst:starEach (e::es) X.env=(false,eval e X.env)::starEach es X.env:=by rfl) (hpl:(backTo pos (starEach es X.env)).any (·.1)=false:=by rfl)
   (ht:eval (.Call (.Attribute o m apos) (e::es) [] pos) X.env=(do
     let ov <-eval o X.env
     standAt apos.atName
     let (f,first) <-holding [ov] (getMethod ov m pl)
     callWith pos f first (backTo pos (starEach (e::es) X.env)) (backToKw pos (keywordEach [] X.env))):=by rfl):
   PE X (.Call (.Attribute o m apos) (e::es) [] pos) (z8 C m sp dvs E ta t):=by
 intro pins s σ H Q I h
 refine PySem.W.methodCall_KW (pl:=pl) (jc (he pins s σ H _ I h) λu s1 ⟨x,H1,I1,rx,a,dx,fs,ex,ea,l,q⟩=>?_) ht
 subst ex
 obtain rfl:u=Value.ref a:=rx
 refine zJ I1 ea c hm l ?_
 refine PySem.W.callWith_K (first:=[.ref a]) (h₀:=X.base) I.ok.mod.kin hm.kp (jc (ha pos pins s1 σ H1 _ I1 q) λus s2 ⟨vs,H2,I2,r,q2⟩=>⟨I2.kIn,?_⟩) hst hpl
 exact Wp (us:=.ref a::us) (vs:=.ref a::vs) F hr hb hd hx I2 (.cons rfl r) q2
theorem yQ {pl:Sem Bool} (he:JE X o ta) (c:WR X.K C) (hm:UE X.K C m f) (F:qv X.prog X.w X.K X.mg X.base CX k f fd ps sp) (hr:ja k X.A) (hb:jz X.K fd ps ds) (hd:qB dvs ds) (hx:jw CX X E) (ha:JA X (e::es) t) (hst:starEach (e::es) X.env=(false,eval e X.env)::starEach es X.env:=by rfl) (hpl:(backTo pos (starEach es X.env)).any (·.1)=false:=by rfl) (ht:eval (.Call (.Attribute o m apos) (e::es) [] pos) X.env=(do
     let ov <-eval o X.env
     standAt apos.atName
     let (f,first) <-holding [ov] (getMethod ov m pl)
     callWith pos f first (backTo pos (starEach (e::es) X.env)) (backToKw pos (keywordEach [] X.env))):=by rfl):JE X (.Call (.Attribute o m apos) (e::es) [] pos) (z8 C m sp dvs E ta t):=.of (yn he.to c hm F hr hb hd hx ha.to hst hpl ht)
theorem vh {pl:Sem Bool} (he:PE X o ta) (c:WR X.K C) (hm:UE X.K C m f) (F:qv X.prog X.w X.K X.mg X.base CX k f fd ps sp) (hr:ja k X.A) (hb:jz X.K fd ps ds) (hd:qB dvs ds) (hx:jw CX X E)
   (ht:eval (.Call (.Attribute o m apos) [] [] pos) X.env=(do
     let ov <-eval o X.env
     standAt apos.atName
     let (f,first) <-holding [ov] (getMethod ov m pl)
     callWith pos f first (backTo pos (starEach [] X.env)) (backToKw pos (keywordEach [] X.env))):=by rfl):
   PE X (.Call (.Attribute o m apos) [] [] pos) (z8 C m sp dvs E ta JB):=by
 intro pins s σ H Q I h
 refine PySem.W.methodCall_KW (pl:=pl) (jc (he pins s σ H _ I h) λu s1 ⟨x,H1,I1,rx,a,dx,fs,ex,ea,l,q⟩=>?_) ht
 subst ex
 obtain rfl:u=Value.ref a:=rx
 refine zJ I1 ea c hm l ?_
 exact PySem.W.callWith_K0 (first:=[.ref a]) I1.kIn hm.kp (Wp (us:=[.ref a]) (vs:=[.ref a]) F hr hb hd hx I1 (.cons rfl .nil) q)
theorem vR {pl:Sem Bool} (he:JE X o ta) (c:WR X.K C) (hm:UE X.K C m f) (F:qv X.prog X.w X.K X.mg X.base CX k f fd ps sp) (hr:ja k X.A) (hb:jz X.K fd ps ds) (hd:qB dvs ds) (hx:jw CX X E) (ht:eval (.Call (.Attribute o m apos) [] [] pos) X.env=(do
     let ov <-eval o X.env
     standAt apos.atName
     let (f,first) <-holding [ov] (getMethod ov m pl)
     callWith pos f first (backTo pos (starEach [] X.env)) (backToKw pos (keywordEach [] X.env))):=by rfl):JE X (.Call (.Attribute o m apos) [] [] pos) (z8 C m sp dvs E ta JB):=.of (vh he.to c hm F hr hb hd hx ht)
structure Mk (K:PySem.W.Frag) (C f:Addr):Prop where
 makes:PySem.W.makesIn K C=true
 init:PySem.W.findIn K (.ref C) "__init__"=some (some (.ref f))
 fn:PySem.W.isFn K (.ref f)=true
 kp:PySem.W.keepIn K (.ref C)=true
theorem U9 {pins:List (Addr×Obj)} {σ:St} {H:Hp} {s:Shared} {Q:VK} {us:List Value} {vs:List V} (M:Mk X.K C f) (F:qv X.prog X.w X.K X.mg X.base CX k f fd ps sp) (hr:ja (k+1) X.A) (hb:jz X.K fd ps ds) (hd:qB dvs ds)
   (hx:jw CX X E) (I:qu X pins σ H s) (r:qB vs us)
   (h:∀x dx,H x=none->H dx=none->dx≠x->sp (.ref x::(vs++dvs)) (upd (upd H dx (.own x)) x (.ins C dx [])) (λv H2=>v=.non/\Q (.ref x) H2) E):
   wpAny (model X.prog X.w) X.A (call (.ref C) us) (EP X pins σ Q) X.xe s:=by
 have hq:=h (s.heap.objs.size+1) s.heap.objs.size (I.hok.fresh (Nat.le_succ _)) (I.hok.fresh (Nat.le_refl _)) (Nat.ne_of_lt (Nat.lt_succ_self _))
 have I2:=qu.made (C:=C) I
 have r2:qB (V.ref (s.heap.objs.size+1)::(vs++dvs)) (Value.ref (s.heap.objs.size+1)::(us++ds)):=.cons rfl (r.append hd)
 have hl:(Value.ref (s.heap.objs.size+1)::us++ds).length=ps.length:=by
   have e:=r2.length
   rw[F.len _ _ _ _ hq]at e
   exact e.symm
 refine wpAny_call (vF (f:=f) I.kIn M.makes M.init (beq_iff_eq.mp M.fn) (codeAny_mono (F.run _ X.stack _ _ ⟨Value.ref (s.heap.objs.size+1)::us,[]⟩ (Value.ref (s.heap.objs.size+1)::(us++ds)) _ _ E (hr.make C us [])
   (I2.env0.make C us []) (hb _ (Value.ref (s.heap.objs.size+1)::us) I2.kIn hl) r2 hq) λr s' hq'=>?_))
 cases r with
 | error e=>exact hx pins σ _ _ e s' I2 hq'
 | ok fl=>
   cases fl with
   | ret u=>
     obtain⟨v,H',I3,rv,ev,q3⟩:=I2.after hq'
     subst ev
     exact⟨rv,⟨V.ref (s.heap.objs.size+1),H',I3,rfl,q3⟩⟩
   | next=>exact False.elim hq'
   | brk=>exact False.elim hq'
   | cont=>exact False.elim hq'
theorem yR (M:Mk X.K C f) (F:qv X.prog X.w X.K X.mg X.base CX k f fd ps sp) (hr:ja (k+1) X.A) (hg:Gl X x) (hm:X.mg x=some (.ref C)) (hb:jz X.K fd ps ds) (hd:qB dvs ds) (hx:jw CX X E) (ha:JA X (e::es) t) (hdb:(x==("__debug__":Str))=false:=by decide) (he:starEach (e::es) X.env=(false,eval e X.env)::starEach es X.env:=by rfl) (hpl:(backTo pos (starEach es X.env)).any (·.1)=false:=by rfl):JE X (.Call (.Name x p) (e::es) [] pos) (uC C sp dvs E t):=.of (by
 have ha:=ha.to
 intro pins s σ H Q I h
 refine wpAny_Call_Name_kw (Ze I hg hm ?_ hdb)
 refine PySem.W.callWith_K (h₀:=X.base) I.ok.mod.kin M.kp (jc (ha pos pins s σ H _ I h) λus s1 ⟨vs,H1,I1,r,q⟩=>⟨I1.kIn,?_⟩) he hpl
 exact U9 M F hr hb hd hx I1 r q)
end
section
variable {X:Cx} {CX:ZJ} {k:Nat} {f C:Addr} {fd:FuncData} {ps ks:List Str} {sp:Sp} {E:XK} {x m:Str} {p pos apos kpos:Pos} {e o:Expr} {es:List Expr} {kws:List Keyword} {te ta:TE} {t tk:TA} {nm:Option Str}
structure Rx (K:PySem.W.Frag) (fd:FuncData) (ps ks:List Str) (g:List Value->List Value->List Value) (gV:List V->List V->List V):Prop where
 to:∀(s:Shared) (us ws:List Value),K.In s.heap->(g us ws).length=ps.length->BindsTo s fd ⟨us,ks.zip ws⟩ (ps.zip (g us ws))
 rel:∀{vs:List V} {us:List Value} {zs:List V} {ws:List Value},qB vs us->qB zs ws->qB (gV vs zs) (g us ws)
variable {g:List Value->List Value->List Value} {gV:List V->List V->List V}
end
structure qy (N P:List Str) (sc:Scope):Prop where
 kind:sc.kind=.function
 co:sc.isCoroutine=false
 gen:sc.isGenerator=false
 nd:N.Nodup
 pre:N.take P.length=P
 par:∀x∈P,sc.names.lookup x=some .local\/sc.names.lookup x=some .cell
 nofree:∀y∈sc.names,y.2≠.free
theorem Yr {kindOf:Str->Option NameKind} {x:Str}:∀{binds:List (Str×Value)} {m:Str->Option Value},(∀v,(x,v)∉binds)->bindL kindOf binds m x=m x
 | [],_,_=>rfl
 | (n,v)::r,m,h=>by
   unfold bindL
   rw[Yr λw hw=>h w (List.mem_cons_of_mem _ hw)]
   split
   . have:x≠n:=by rintro rfl;exact h v List.mem_cons_self
     simp [this]
   . rfl
theorem Yt {kindOf:Str->Option NameKind} {x:Str}:∀{binds:List (Str×Value)} {m:Str->Option Value},(∀v,(x,v)∉binds)->bindC kindOf binds m x=m x
 | [],_,_=>rfl
 | (n,v)::r,m,h=>by
   unfold bindC
   rw[Yt λw hw=>h w (List.mem_cons_of_mem _ hw)]
   split
   . rfl
   . have:x≠n:=by rintro rfl;exact h v List.mem_cons_self
     simp [this]
theorem Ys {kindOf:Str->Option NameKind} {x:Str} {v:Value}:∀{P:List Str} {vs:List Value} {i:Nat} {m:Str->Option Value},P.Nodup->P[i]?=some x->vs[i]?=some v->kindOf x=some .local->
   bindL kindOf (P.zip vs) m x=some v
 | [],_,_,_,_,h,_,_=>by simp at h
 | _::_,[],_,_,_,_,h,_=>by simp at h
 | p::P,w::vs,0,m,nd,h1,h2,hk=>by
   simp at h1 h2;subst h1;subst h2
   show bindL kindOf ((p,w)::P.zip vs) m p=_
   unfold bindL
   rw[Yr λv hv=>(List.nodup_cons.mp nd).1 (List.of_mem_zip hv).1,if_pos hk]
   simp
 | p::P,w::vs,i+1,m,nd,h1,h2,hk=>by
   show bindL kindOf ((p,w)::P.zip vs) m x=_
   unfold bindL
   exact Ys (i:=i) (List.nodup_cons.mp nd).2 (by simpa using h1) (by simpa using h2) hk
theorem Yu {kindOf:Str->Option NameKind} {x:Str} {v:Value}:∀{P:List Str} {vs:List Value} {i:Nat} {m:Str->Option Value},P.Nodup->P[i]?=some x->vs[i]?=some v->kindOf x≠some .local->
   bindC kindOf (P.zip vs) m x=some v
 | [],_,_,_,_,h,_,_=>by simp at h
 | _::_,[],_,_,_,_,h,_=>by simp at h
 | p::P,w::vs,0,m,nd,h1,h2,hk=>by
   simp at h1 h2;subst h1;subst h2
   show bindC kindOf ((p,w)::P.zip vs) m p=_
   unfold bindC
   rw[Yt λv hv=>(List.nodup_cons.mp nd).1 (List.of_mem_zip hv).1,if_neg hk]
   simp
 | p::P,w::vs,i+1,m,nd,h1,h2,hk=>by
   show bindC kindOf ((p,w)::P.zip vs) m x=_
   unfold bindC
   exact Yu (i:=i) (List.nodup_cons.mp nd).2 (by simpa using h1) (by simpa using h2) hk
def jO (N:List Str) (vs:List V):St:=vs.map some++List.replicate (N.length - vs.length) none
def jF (CX:ZJ) (P:Program) (w:World) (K:PySem.W.Frag) (mg:Str->Option Value) (base:Heap) (N:List Str) (qual:Str) (scope:Scope) (f:Addr) (cd:Value) (A:Around) (outer:List Env) (s:Shared) (H:Hp) (E:XK):Cx where
 prog:=P
 w:=w
 K:=K
 mg:=mg
 base:=base
 A:=A.deeper (envOfC qual scope s.heap.objs.size f cd)
 N:=N
 s₀:=s
 H₀:=H
 env:=envOfC qual scope s.heap.objs.size f cd
 outer:=outer
 stack:=envOfC qual scope s.heap.objs.size f cd::outer
 ex:=[]
 calm:=true
 fn:=λ_=>true
 pn:=[]
 xe:=λe s'=>wpAny (model P w) (A.deeper (envOfC qual scope s.heap.objs.size f cd)) (leaving (envOfC qual scope s.heap.objs.size f cd) e) (λ_ s''=>CX outer H s E e s'') (λe' s''=>CX outer H s E e' s'') s'
theorem XL {sc:Scope} {n:Nat} {x:Str} (h:sc.names.lookup x=some .cell):∃c,(cellsFrom n sc.names []).lookup x=some c:=by
 have q:=PySem.W.cellsFrom_some sc.names n [] (.inl h)
 exact Option.isSome_iff_exists.mp q
theorem Yk {CX:ZJ} {P:Program} {w:World} {K:PySem.W.Frag} {mg:Str->Option Value} {base:Heap} {N ps:List Str} {qual:Str} {scope:Scope} {f:Addr} {cd:Value} {A:Around} {outer:List Env} {s s1:Shared} {H:Hp} {E:XK} {us:List Value} {vs:List V}
   (S:qy N ps scope) (hd:A.handled=none) (e0:XV P w K mg base A outer s H) (hl:vs.length=ps.length) (r:qB vs us)
   (x:InCallC s s.heap.objs.size (bindL (envOfC qual scope s.heap.objs.size f cd).kindOf (ps.zip us) λ_=>none) (cellsFrom (s.heap.objs.size+1) scope.names []) (bindC (envOfC qual scope s.heap.objs.size f cd).kindOf (ps.zip us) λ_=>none) s1):
   qu (jF CX P w K mg base N qual scope f cd A outer s H E) [] (jO N vs) H s1:=by
 have hpl:ps.length<=N.length:=by have:=congrArg List.length S.pre;rw[List.length_take]at this;omega
 obtain⟨h1,tk,rfl,hk⟩:=x.done
 have noA:∀b:Addr,b∉(jF CX P w K mg base N qual scope f cd A outer s H E).ex:=λb z=>absurd (show b∈([]:List Addr) from z) (by simp)
 refine⟨⟨e0.mod,S.kind,rfl,rfl,Nat.le_refl _,λy z c h1 h2=>?_,λy hy=>?_,λy c _ h=>?_,λ_=>hd,Around.frames_deeper e0.frames,.inr ⟨rfl,rfl⟩,λb z=>absurd z (noA b),e0.bs,e0.bsz,λb _ _=>noA b,λb z=>absurd z (noA b),e0.funs,e0.frf⟩,
   rfl,e0.bare,Un.kept hk,⟨_,x.toInCall.ns,λi y v h1 h2 h3=>?_⟩,λy c h=>⟨_,x.cell y c h⟩,e0.hok.fresh (Nat.le_refl _),λy c h=>?_,λp hp=>absurd (show p∈([]:List (Addr×Obj)) from hp) (by simp),e0.hok.kept hk,?_⟩
 . exact name_of_addr x.apart (PySem.mem_of_lookup h1) (PySem.mem_of_lookup h2)
 . have hy:scope.names.lookup y=some .cell\/scope.names.lookup y=some .free:=hy
   rcases hy with hy | hy
   . exact XL hy
   . exact absurd rfl (S.nofree _ (PySem.mem_of_lookup hy))
 . exact Nat.le_of_lt (x.above y c (PySem.mem_of_lookup h))
 . have hi:i < vs.length:=by
     unfold jO at h2
     by_cases hi:i < vs.length
     . exact hi
     . rw[List.getElem?_append_right (by simpa using hi)]at h2
       rw[List.getElem?_replicate]at h2
       split at h2<;>cases h2
   have ha:vs[i]?=some v:=by
     unfold jO at h2
     rw[List.getElem?_append_left (by simpa using hi),List.getElem?_map]at h2
     cases e:vs[i]? with
     | none=>rw[e]at h2;cases h2
     | some a=>rw[e]at h2;cases h2;rfl
   obtain⟨u,hu,rv⟩:=r.get ha
   have hp:ps[i]?=some y:=by
     rw[<-S.pre,List.getElem?_take_of_lt (by omega)];exact h1
   have ndP:ps.Nodup:=by rw[<-S.pre];exact S.nd.sublist (List.take_sublist _ _)
   refine⟨u,rv,?_⟩
   rcases S.par y (List.mem_of_getElem? hp) with k | k
   . exact .inl ⟨k,Ys ndP hp hu k⟩
   . obtain⟨c,e⟩:=XL (n:=s.heap.objs.size+1) k
     refine .inr ⟨.inl k,c,e,?_⟩
     have q:=x.cell y c e
     rw[Yu ndP hp hu (by show scope.names.lookup y≠_;rw[k];decide)]at q
     exact q
 . exact .inl (e0.hok.fresh (Nat.le_of_lt (x.above y c (PySem.mem_of_lookup h))))
 . unfold jO
   show _=N.length
   rw[List.length_append,List.length_map,List.length_replicate]
   omega
theorem xL {CX:ZJ} {P:Program} {w:World} {K:PySem.W.Frag} {mg:Str->Option Value} {base:Heap} {k:Nat} {f:Addr} {name qual:Str} {params:Arguments} {body:List Stmt} {scope:Scope} {dV kV doc pm cdv ct oc:Value} {an od:Option Addr}
   {osl:Array (Option Value)} {N ps:List Str} {sp:Sp} (lk:K.lookup f=some ⟨oc,od,.func (PySem.W.fnOf name qual params body scope dV kV doc pm an cdv ct),osl⟩) (hcd:PySem.W.codeIn K cdv qual=true) (S:qy N ps scope)
   (len:∀vs H Q E,sp vs H Q E->vs.length=ps.length)
   (hbody:∀(A:Around) (outer:List Env) (s:Shared) (H:Hp) (vs:List V) (Q:VK) (E:XK),ja k (A.deeper (envOfC qual scope s.heap.objs.size f cdv))->sp vs H Q E->
     ∃t,kI (jF CX P w K mg base N qual scope f cdv A outer s H E) body t/\t {nx:=λ_ H'=>Q .non H',rt:=Q} (jO N vs) H):
   qv P w K mg base CX (k+1) f (PySem.W.fnOf name qual params body scope dV kV doc pm an cdv ct) ps sp:=by
 refine⟨len,λA outer s H args us vs Q E hr e0 hb r hsp=>?_⟩
 have hl:=len _ _ _ _ hsp
 have KX:K.In s.heap:=e0.mod.kin.keeps λb o e=>(e0.bs b o e).1
 have lim:s.heap.NoLimit:=e0.mod.nolimit.keeps λb o e=>(e0.bs b o e).1
 have hkind:∀y∈ps.zip us,scope.names.lookup y.1=some .local\/(scope.names.lookup y.1=some .cell/\((cellsFrom (s.heap.objs.size+1) scope.names []).lookup y.1).isSome=true):=λ⟨n,v⟩ hy=>by
   rcases S.par n (List.of_mem_zip hy).1 with q | q
   . exact .inl q
   . exact .inr ⟨q,PySem.W.cellsFrom_some _ _ _ (.inl q)⟩
 refine codeAny_call_function hr.depth (KX _ _ lk) rfl S.co S.gen rfl (PySem.W.codeRec_of KX hcd) (hb _ _ _ _ ?_)
 refine wpAny_newFunctionEnv_cells S.kind hkind λenv he s1 x=>?_
 subst he
 refine⟨lim.keeps x.toInCall.keep,codeAny_func ?_⟩
 obtain⟨t,ht,hq⟩:=hbody A outer s H vs Q E (hr.deeper _) hsp
 have I:qu (jF CX P w K mg base N qual scope f cdv A outer s H E) [] (jO N vs) H s1:=Yk S hr.hd e0 hl r x
 refine wpAny_mono (ht [] s1 (jO N vs) H _ I hq) (λfl s' hs=>?_) λe s' hs=>hs
 have fin:∀{σ':St} {H':Hp} {v:V} {u:Value},qu (jF CX P w K mg base N qual scope f cdv A outer s H E) [] σ' H' s'->qH v u->Q v H'->CE outer P w H s Q u s':=
   λ{σ' H' v u} J rv q=>⟨v,H',J.os,J.bare,J.base,J.hok,rv,q⟩
 cases fl with
 | ret u=>
   obtain⟨v,σ',H',J,rv,q⟩:=hs
   exact fin J rv q
 | next=>
   obtain⟨σ',H',J,q⟩:=hs
   exact fin (v:=V.non) (u:=Value.none) J rfl q
 | brk=>
   obtain⟨_,_,_,q⟩:=hs
   exact False.elim q
 | cont=>
   obtain⟨_,_,_,q⟩:=hs
   exact False.elim q
end L2
namespace L2
open PySem PySem.Spec PyProof.Rows
section
variable {X:Cx} {x:Str} {p pos:Pos} {e:Expr} {es:List Expr} {t:TA} {id T:String} {r:List V->Hp->VK->Prop}
def uq (r:List V->Hp->VK->Prop) (t:TA):TE:=λσ H Q=>t σ H λvs H1=>r vs H1 Q
theorem qr (hc:jU X (.builtin id) r) (hg:Gl X x) (hm:X.mg x=none) (hv:bootBuiltins x=some (.builtin id)) (ha:JA X (e::es) t) (hn:x≠"__name__":=by decide) (hdb:(x==("__debug__":Str))=false:=by decide) (he:starEach (e::es) X.env=(false,eval e X.env)::starEach es X.env:=by rfl) (hpl:(backTo pos (starEach es X.env)).any (·.1)=false:=by rfl):JE X (.Call (.Name x p) (e::es) [] pos) (uq r t):=.of (by
 have ha:=ha.to
 intro pins s σ H Q I h
 refine wpAny_Call_Name_kw (Qx I hg hm hv ?_ hn hdb)
 exact PyProof.Rows.callWith_builtin1 (jc (ha pos pins s σ H _ I h) λus s1 ⟨vs,H1,I1,r1,q1⟩=>hc pins s1 σ H1 vs us Q I1 r1 q1) he hpl)
theorem qM (hc:jU X (.type T) r) (hg:Gl X x) (hm:X.mg x=none) (hv:bootBuiltins x=some (.type T)) (ha:JA X (e::es) t) (hn:x≠"__name__":=by decide) (hdb:(x==("__debug__":Str))=false:=by decide) (he:starEach (e::es) X.env=(false,eval e X.env)::starEach es X.env:=by rfl) (hpl:(backTo pos (starEach es X.env)).any (·.1)=false:=by rfl):JE X (.Call (.Name x p) (e::es) [] pos) (uq r t):=.of (by
 have ha:=ha.to
 intro pins s σ H Q I h
 refine wpAny_Call_Name_kw (Qx I hg hm hv ?_ hn hdb)
 exact PyProof.Rows.callWith_type1 (jc (ha pos pins s σ H _ I h) λus s1 ⟨vs,H1,I1,r1,q1⟩=>hc pins s1 σ H1 vs us Q I1 r1 q1) he hpl)
end
end L2
namespace HT
open PySem PyProof.Rows
section
open PySem.SeqAt
open PySem.AutoSeq1 (wpAny_loadPart')
open PySem.MeetsSeq PySem.MeetsSeq2 PySem.MeetsSeq3
end
section
variable {prog:Program} {w:World} {A:Around} {E:Value->Shared->Prop} {s:Shared}
def sIx (n d:Nat):Option Int->Nat
 | none=>d
 | some v=>if v < 0 then (v+(n:Int)).toNat else min v.toNat n
theorem sIx_none (n d:Nat):sIx n d none=d:=rfl
theorem sIx_nat (n d k:Nat):sIx n d (some (k:Int))=min k n:=by
 show (if (k:Int) < 0 then ((k:Int)+(n:Int)).toNat else min (k:Int).toNat n)=min k n
 rw[if_neg (by omega),Int.toNat_natCast]
end
end HT
namespace L2
open PySem PySem.Spec PyProof.Rows
abbrev TO:=St->Hp->(Option Int->Hp->Prop)->Prop
def PO (X:Cx) (e:Option Expr) (t:TO):Prop:=
 ∀(pins:List (Addr×Obj)) (s:Shared) (σ:St) (H:Hp) (Q:Option Int->Hp->Prop),qu X pins σ H s->t σ H Q->
   wpAny (model X.prog X.w) X.A (evalPart e X.env) (λu s'=>∃o H',qu X pins σ H' s'/\IsPart u o/\Q o H') X.xe s
@[irreducible] def JO (X:Cx) (e:Option Expr) (t:TO):Prop:=PO X e t
theorem JO.of {X:Cx} {e:Option Expr} {t:TO} (h:PO X e t):JO X e t:=by unfold JO;exact h
theorem JO.to {X:Cx} {e:Option Expr} {t:TO} (h:JO X e t):PO X e t:=by unfold JO at h;exact h
def kS:TO:=λ_ H Q=>Q none H
def uB (t:TE):TO:=λσ H Q=>t σ H λx H1=>∃i,x=.int i/\Q (some i) H1
theorem WB {ns:List Int}:∀{us:List Value},qB (ns.map V.int) us->IntsAre us ns:=by
 induction ns with
 | nil=>intro us r;rw[List.map_nil]at r;cases r;exact .nil
 | cons n ns ih=>
   intro us r
   rw[List.map_cons]at r
   cases r with
   | cons r1 r2=>
     obtain⟨t,e⟩:=r1
     subst e
     exact .cons n t (ih r2)
section
variable {X:Cx} {e:Expr} {te:TE} {lo hi:Option Expr} {tl th:TO} {pos p2:Pos}
theorem QT:JO X none kS:=.of (by
 intro pins s σ H Q I h
 rw[evalPart_none]
 exact wpAny_pure ⟨none,H,I,.none,h⟩)
theorem QS (h:JE X e te):JO X (some e) (uB te):=.of (by
 have h:=h.to
 intro pins s σ H Q I hw
 rw[evalPart_some]
 refine jc (h pins s σ H _ I hw) λu s1 ⟨x,H1,I1,r1,q1⟩=>?_
 obtain⟨i,rfl,q⟩:=q1
 obtain⟨t,rfl⟩:=r1
 exact⟨some i,H1,I1,.int i t,q⟩)
def Rs (X:Cx) (r:V->Option Int->Option Int->Hp->VK->Prop):Prop:=
 ∀(pins:List (Addr×Obj)) (s:Shared) (σ:St) (H:Hp) (x:V) (v vl vu:Value) (lo hi:Option Int) (sl:Addr) (Q:VK),qu X pins σ H s->qH x v->s.heap.IsSliceOf sl vl vu .none->IsPart vl lo->IsPart vu hi->r x lo hi H Q->
   ∃T id,typeLookup (.type T) "__getitem__"=pure (some (.builtin id))/\s.TypeIs v T/\wpAny (model X.prog X.w) X.A (getItem v (.ref sl)) (EP X pins σ Q) X.xe s
def tSl (r:V->Option Int->Option Int->Hp->VK->Prop) (te:TE) (tl th:TO):TE:=λσ H Q=>te σ H λx H1=>tl σ H1 λl H2=>th σ H2 λu H3=>r x l u H3 Q
theorem Qn {r:V->Option Int->Option Int->Hp->VK->Prop} (hr:Rs X r) (he:JE X e te) (hl:JO X lo tl) (hu:JO X hi th):JE X (.Subscript e (.Slice lo hi none p2) pos) (tSl r te tl th):=.of (by
 have he:=he.to
 have hl:=hl.to
 have hu:=hu.to
 intro pins s σ H Q I h
 refine Subscript_ (jc (he pins s σ H _ I h) λv s1 ⟨x,H1,I1,r1,q1⟩=>?_)
 refine wpAny_Slice (jc (hl pins s1 σ H1 _ I1 q1) λvl s2 ⟨l,H2,I2,pl,q2⟩=>jc (hu pins s2 σ H2 _ I2 q2) λvu s3 ⟨u,H3,I3,pu,q3⟩=>?_)
 rw[evalPart_none]
 refine wpAny_pure ?_
 have I4:qu X pins σ H3 {s3 with heap:=s3.heap.push {cls:=.type "slice",data:=.fields #[vl,vu,.none]}}:=I3.kept (t':=s3.toks) λb ob q=>Heap.get?_push_of_some _ q
 obtain⟨T,id,hT,ht,hg⟩:=hr pins {s3 with heap:=s3.heap.push {cls:=.type "slice",data:=.fields #[vl,vu,.none]}} σ H3 x v vl vu l u s3.heap.objs.size Q I4 r1 (Heap.IsSliceOf.new ..) pl pu q3
 show wpAny (model X.prog X.w) X.A (subscriptTail e (.Slice lo hi none p2) v (.ref s3.heap.objs.size)) (EP X pins σ Q) X.xe {s3 with heap:=s3.heap.push {cls:=.type "slice",data:=.fields #[vl,vu,.none]}}
 exact tail_any (ops:=[.ref s3.heap.objs.size,v]) ht hT hg (by with_unfolding_all rfl))
def Ju (xs:List V) (lo hi:Option Int):List V:=(xs.drop (HT.sIx xs.length 0 lo)).take (HT.sIx xs.length xs.length hi - HT.sIx xs.length 0 lo)
theorem Ji (xs:List V) (lo hi:Option Int):(Ju xs lo hi).length<=xs.length:=by
 unfold Ju
 rw[List.length_take,List.length_drop]
 omega
end
end L2
namespace L2
open PySem PySem.Spec PyProof.Rows
def vY (n:Nat) (i:Int):Option Nat:=if 0<=i then (if i < n then some i.toNat else none) else if -(n:Int)<=i then some (i+n).toNat else none
def Y2 {α:Type} (xs:List α) (i:Int):Option α:=(vY xs.length i).bind λj=>xs[j]?
theorem Vp {n:Nat} {i:Int} {j:Nat} (h:vY n i=some j):seqIndex? i n=some j/\j < n/\-(n:Int)<=i/\i < n:=by
 unfold vY at h
 by_cases h0:0<=i
 . rw[if_pos h0]at h
   by_cases h1:i < n
   . rw[if_pos h1]at h
     have e:i.toNat=j:=Option.some.inj h
     exact⟨by rw[seqIndex_of h0 h1,e],by omega,by omega,h1⟩
   . rw[if_neg h1]at h;cases h
 . rw[if_neg h0]at h
   by_cases h1:-(n:Int)<=i
   . rw[if_pos h1]at h
     have e:(i+n).toNat=j:=Option.some.inj h
     exact⟨by rw[seqIndex_neg (by omega) h1,e],by omega,h1,by omega⟩
   . rw[if_neg h1]at h;cases h
theorem atI_get {α:Type} {xs:List α} {i:Int} {v:α} (h:Y2 xs i=some v):∃j,seqIndex? i xs.length=some j/\xs[j]?=some v/\j < xs.length/\-(xs.length:Int)<=i/\i < xs.length:=by
 unfold Y2 at h
 cases e:vY xs.length i with
 | none=>rw[e]at h;cases h
 | some j=>
   rw[e]at h
   obtain⟨h1,h2,h3,h4⟩:=Vp e
   exact⟨j,h1,h,h2,h3,h4⟩
theorem Qu {α:Type} {xs:List α} {j:Nat} {v:α} (h:xs[j]?=some v):Y2 xs (j:Int)=some v:=by
 have hj:j < xs.length:=(List.getElem?_eq_some_iff.mp h).1
 have e:vY xs.length (j:Int)=some j:=by
   unfold vY
   rw[if_pos (by omega),if_pos (by omega)];simp
 unfold Y2;rw[e];exact h
def xi (b:Expr):Prop:=∀o i,subscripted b false o i=operate [o,i] (getItem o i)
def KY (X:Cx) (r:R2):Prop:=
 ∀(value slice:Expr) (pins:List (Addr×Obj)) (s:Shared) (σ:St) (H:Hp) (x y:V) (v u:Value) (Q:VK),qu X pins σ H s->qH x v->qH y u->r x y H Q->
   subscripted slice false v u=operate [v,u] (getItem v u)->wpAny (model X.prog X.w) X.A (subscriptTail value slice v u) (EP X pins σ Q) X.xe s
def KW (X:Cx) (id:String) (r:V->List V->Hp->VK->Prop):Prop:=
 ∀(pins:List (Addr×Obj)) (s:Shared) (σ:St) (H:Hp) (x:V) (xs:List V) (v:Value) (us:List Value) (Q:VK),qu X pins σ H s->qH x v->qB xs us->r x xs H Q->
   wpAny (model X.prog X.w) X.A (call (.builtin id) (v::us)) (EP X pins σ Q) X.xe s
section
variable {X:Cx} {a b:Expr} {ta tb:TE} {pos:Pos}
theorem qP {r:R2} (hr:KY X r) (ha:JE X a ta) (hb:JE X b tb) (hs:xi b):JE X (.Subscript a b pos) (XY r ta tb):=.of (by
 have ha:=ha.to
 have hb:=hb.to
 intro pins s σ H Q I h
 exact Subscript_ (ue ha hb I h λv u s2 x y H2 I2 rx ry q=>hr a b pins s2 σ H2 x y v u Q I2 rx ry q (hs _ _)))
def yk (K:PySem.W.Frag):R2:=λx y H Q=>∃p xs i v,x=.ref p/\y=.int i/\SqL K H p xs/\Y2 xs i=some v/\Q v H
def VX (K:PySem.W.Frag):R2:=λx y H Q=>∃p xs i v,x=.ref p/\y=.int i/\SqT K H p xs/\Y2 xs i=some v/\Q v H
def Gp:R2:=λx y H Q=>∃z i c,x=.str z/\y=.int i/\z.length<=sizeLine/\Y2 z.cps.toList i=some c/\Q (.str ⟨#[c]⟩) H
theorem qW:KY X (yk X.K):=by
 intro value slice pins s σ H x y v u Q I rx ry h hs
 obtain⟨p,xs,i,z,rfl,rfl,hq,he,q⟩:=h
 cases rx
 obtain⟨t,rfl⟩:=ry
 obtain⟨its,r,pl,hz⟩:=I.list hq
 obtain⟨j,h1,h2,h3,h4,h5⟩:=atI_get he
 obtain⟨w,ew,rw'⟩:=r.get h2
 have hl:=r.length
 have hn:=Zz
 have fin:EP X pins σ Q w s:=⟨z,H,I,rw',q⟩
 by_cases h0:0<=i
 . have hj:i.toNat=j:=by
     rw[seqIndex_of h0 h5]at h1
     exact Option.some.inj h1
   exact item_listR pl.isList h0 (by omega) (by rw[hj];simpa using ew) fin hs
 . have hj:(i+(its.toArray.size:Int)).toNat=j:=by
     rw[seqIndex_neg (by omega) h4]at h1
     rw[List.size_toArray,<-hl]
     exact Option.some.inj h1
   exact subscriptTail_builtinR (x:=w) pl.isList.typeIs slot_list_getitem.lookup
     (wpAny_getItem_list_neg (Q:=λr s'=>r=w/\EP X pins σ Q r s') pl.isList (by omega) (by rw[List.size_toArray]<;>omega) (by omega) (by rw[hj];simpa using ew) ⟨rfl,fin⟩) hs
theorem jt:KY X (VX X.K):=by
 intro value slice pins s σ H x y v u Q I rx ry h hs
 obtain⟨p,xs,i,z,rfl,rfl,hq,he,q⟩:=h
 cases rx
 obtain⟨t,rfl⟩:=ry
 obtain⟨its,r,pl,hz⟩:=I.tuple hq
 obtain⟨j,h1,h2,h3,h4,h5⟩:=atI_get he
 obtain⟨w,ew,rw'⟩:=r.get h2
 have hl:=r.length
 have hn:=Zz
 have fin:EP X pins σ Q w s:=⟨z,H,I,rw',q⟩
 exact subscriptTail_builtinR (x:=w) pl.typeIs slot_tuple_getitem.lookup
   (getItem_tuple (j:=j) (Q:=λr s'=>r=w/\EP X pins σ Q r s') pl (by omega) (by omega) (by rw[List.size_toArray,<-hl];exact h1) (by simpa using ew) ⟨rfl,fin⟩) hs
theorem vX:KY X Gp:=by
 intro value slice pins s σ H x y v u Q I rx ry h hs
 obtain⟨z,i,c,rfl,rfl,hz,he,q⟩:=h
 obtain⟨t,rfl⟩:=rx
 obtain⟨t',rfl⟩:=ry
 obtain⟨j,h1,h2,h3,h4,h5⟩:=atI_get he
 have hl:z.cps.toList.length=z.length:=by simp [Str.length]
 rw[hl]at h1 h4 h5
 have hn:=Zz
 exact tail_any (typeIs_str s z t) slot_str_getitem.lookup (getItem_str (c:=c) (by
   have e1:decide (i < -(2^63:Int))=false:=decide_eq_false (by omega)
   have e2:decide (i ≥ 2^63)=false:=decide_eq_false (by omega)
   rw[e1,e2,Bool.or_false]) (by rw[h1];simpa using h2) ⟨.str ⟨#[c]⟩,H,I.tok _,⟨_,rfl⟩,q⟩) hs
theorem Ww (its:List Value) (n j:Nat) (u:Value):Obj.mapSeq (·.setIfInBounds j u) {cls:=.type "list",data:=.seq its.toArray n}={cls:=.type "list",data:=.seq (its.set j u).toArray n}:=by
 simp [Obj.mapSeq]
theorem qu.lst {pins:List (Addr×Obj)} {σ:St} {H:Hp} {s:Shared} {p:Addr} {xs:List V} (I:qu X pins σ H s) (h:H p=some (.lst xs)):
   ∃(its:List Value) (n:Nat),qB xs its/\s.heap.get? p=some {cls:=.type "list",data:=.seq its.toArray n}/\xs.length<=sizeLine:=by
 obtain⟨z,its,n,r,e⟩:=I.hok p _ h
 exact⟨its,n,r,e,z⟩
theorem qu.lstUpd {pins:List (Addr×Obj)} {σ:St} {H:Hp} {s:Shared} {p:Addr} {xs ys:List V} {its its':List Value} {n n':Nat} {f:Obj->Obj} (I:qu X pins σ H s) (h:H p=some (.lst xs))
   (ho:s.heap.get? p=some {cls:=.type "list",data:=.seq its.toArray n}) (hf:f {cls:=.type "list",data:=.seq its.toArray n}={cls:=.type "list",data:=.seq its'.toArray n'}) (r:qB ys its') (hz:ys.length<=sizeLine) (t:Nat):
   qu X pins σ (upd H p (.lst ys)) {s with heap:=s.heap.update p f,toks:=t}:=by
 have e:(s.heap.update p f).get? p=some {cls:=.type "list",data:=.seq its'.toArray n'}:=by
   rw[Heap.get?_update_self f ho (by rw[hf]<;>rfl),hf]
 refine I.write (x:=p) (e:=p) (by rw[h];trivial) (.inl rfl) (λb u hb q=>(Heap.get?_update_other _ _ (Ne.symm hb)).trans q) ⟨_,e⟩ ?_
 exact⟨hz,its',n',r,e⟩
def uU:V->V->V->Hp->(Hp->Prop)->Prop:=λo i v H Q=>∃p xs k j,o=.ref p/\i=.int k/\H p=some (.lst xs)/\vY xs.length k=some j/\Q (upd H p (.lst (xs.set j v)))
theorem Xg:ug X uU:=by
 intro pins s σ H o i v ov iv u Q I ro ri rv h
 obtain⟨p,xs,k,j,rfl,rfl,hp,hj,q⟩:=h
 cases ro
 obtain⟨t,rfl⟩:=ri
 obtain⟨its,n,r,ho,hz⟩:=I.lst hp
 obtain⟨h1,h2,h3,h4⟩:=Vp hj
 have hl:=r.length
 have hn:=Zz
 have I':qu X pins σ (upd H p (.lst (xs.set j v))) {s with heap:=s.heap.update p (Obj.mapSeq (·.setIfInBounds j u))}:=
   I.lstUpd hp ho (Ww its n j u) (r.set rv j) (by rw[List.length_set];exact hz) s.toks
 by_cases h0:0<=k
 . have hk:k.toNat=j:=by
     rw[seqIndex_of h0 h4]at h1
     exact Option.some.inj h1
   exact PySem.W.ki_setAt ho h0 (by omega) (by rw[List.size_toArray,<-hl];exact h4) (by rw[hk];exact⟨_,I',q⟩)
 . have hk:(k+(its.toArray.size:Int)).toNat=j:=by
     rw[seqIndex_neg (by omega) h3]at h1
     rw[List.size_toArray,<-hl]
     exact Option.some.inj h1
   exact PySem.W.ki_setBack ho (by omega) (by rw[List.size_toArray,<-hl];exact h3) (by omega) (by rw[hk];exact⟨_,I',q⟩)
theorem YA (lo hi:Option Int) (n:Nat):(sliceBounds lo hi none n).1=((HT.sIx n 0 lo:Nat):Int)/\(sliceBounds lo hi none n).2.1=((HT.sIx n n hi:Nat):Int)/\(sliceBounds lo hi none n).2.2=1:=by
 refine⟨?_,?_,rfl⟩
 . cases lo with
   | none=>simp [sliceBounds,HT.sIx]
   | some i=>
     simp only[sliceBounds,HT.sIx,Option.getD_none,show (1:Int) > 0 by decide,if_true]
     by_cases h:i < 0
     . simp only[h,if_true]<;>omega
     . simp only[h,if_false]<;>omega
 . cases hi with
   | none=>simp [sliceBounds,HT.sIx]
   | some i=>
     simp only[sliceBounds,HT.sIx,Option.getD_none,show (1:Int) > 0 by decide,if_true]
     by_cases h:i < 0
     . simp only[h,if_true]<;>omega
     . simp only[h,if_false]<;>omega
theorem zV (its:List Value) (lo hi:Option Int):slicePick its.toArray lo hi none=((its.drop (HT.sIx its.length 0 lo)).take (HT.sIx its.length its.length hi - HT.sIx its.length 0 lo)).toArray:=by
 obtain⟨h1,h2,h3⟩:=YA lo hi its.toArray.size
 unfold slicePick
 rw[h1,h2,h3]
 simp only[sliceRange_one,pick_run,List.size_toArray]<;>rfl
def Go (K:PySem.W.Frag):V->Option Int->Option Int->Hp->VK->Prop:=λx lo hi H Q=>∃a xs,x=.ref a/\SqL K H a xs/\∀p,H p=none->Q (.ref p) (upd H p (.lst (Ju xs lo hi)))
theorem JV:Rs X (Go X.K):=by
 intro pins s σ H x v vl vu lo hi sl Q I rx hs pl pu h
 obtain⟨a,xs,rfl,hx,q⟩:=h
 cases rx
 obtain⟨its,r,ht,hz⟩:=I.list hx
 have hlen:=r.length
 refine⟨"list",_,slot_list_getitem.lookup,ht.isList.typeIs,?_⟩
 refine wpAny_getItem_list_slice ht.isList hs pl pu .none (by simp) ?_ (by rw[List.size_toArray]<;>omega)
 rw[zV,<-hlen]
 refine⟨.ref s.heap.objs.size,_,I.laid (t':=s.toks) (o:=.lst (Ju xs lo hi)) (λb ob q=>Heap.get?_push_of_some _ q) (Nat.le_refl _) ?_,rfl,q _ (I.hok.fresh (Nat.le_refl _))⟩
 exact⟨Nat.le_trans (Ji xs lo hi) hz,_,0,(r.drop (HT.sIx xs.length 0 lo)).take (HT.sIx xs.length xs.length hi - HT.sIx xs.length 0 lo),Heap.get?_push_size _ rfl⟩
def Zk:V->Bool
 | .non=>true
 | .bl _=>true
 | .int _=>true
 | .str _=>true
 | _=>false
def y9:V->V->Bool
 | .non,.non=>true
 | .bl a,.bl b=>a==b
 | .bl a,.int b=>(if a then 1 else 0)==b
 | .int a,.bl b=>a==(if b then 1 else 0)
 | .int a,.int b=>a==b
 | .str a,.str b=>a==b
 | _,_=>false
theorem ub {A:Around} {s:Shared} {y x:V} {u v:Value} (ry:qH y u) (rx:qH x v) (fy:Zk y=true) (fx:Zk x=true):SeqAt.EqAt A s u v (y9 y x):=by
 cases y with
 | non=>
   cases ry
   cases x with
   | non=>cases rx;exact SeqAt.EqAt.same _
   | bl b=>cases rx;exact SeqAt.EqAt.none_bool b
   | int b=>obtain⟨t,rfl⟩:=rx;exact SeqAt.EqAt.none_int b t
   | str b=>obtain⟨t,rfl⟩:=rx;exact SeqAt.EqAt.none_str b t
   | _=>exact absurd (show false=true from fx) Bool.false_ne_true
 | bl a=>
   cases ry
   cases x with
   | non=>cases rx;exact SeqAt.EqAt.bool_none a
   | bl b=>cases rx;exact SeqAt.EqAt.bool_bool a b
   | int b=>obtain⟨t,rfl⟩:=rx;exact SeqAt.EqAt.bool_int a b t
   | str b=>obtain⟨t,rfl⟩:=rx;exact SeqAt.EqAt.bool_str a b t
   | _=>exact absurd (show false=true from fx) Bool.false_ne_true
 | int a=>
   obtain⟨t',rfl⟩:=ry
   cases x with
   | non=>cases rx;exact SeqAt.EqAt.int_none a t'
   | bl b=>cases rx;exact SeqAt.EqAt.int_bool a t' b
   | int b=>obtain⟨t,rfl⟩:=rx;exact SeqAt.EqAt.int_int a t' b t
   | str b=>obtain⟨t,rfl⟩:=rx;exact SeqAt.EqAt.int_str a t' b t
   | _=>exact absurd (show false=true from fx) Bool.false_ne_true
 | str a=>
   obtain⟨t',rfl⟩:=ry
   cases x with
   | non=>cases rx;exact SeqAt.EqAt.str_none a t'
   | bl b=>cases rx;exact SeqAt.EqAt.str_bool a t' b
   | int b=>obtain⟨t,rfl⟩:=rx;exact SeqAt.EqAt.str_int a t' b t
   | str b=>obtain⟨t,rfl⟩:=rx;exact SeqAt.EqAt.str_str a t' b t
   | _=>exact absurd (show false=true from fx) Bool.false_ne_true
 | _=>exact absurd (show false=true from fy) Bool.false_ne_true
def WG (x:V) (u:Value):Bool:=match u with
 | .none=>y9 .non x
 | .bool b=>y9 (.bl b) x
 | .int i _=>y9 (.int i) x
 | .str z _=>y9 (.str z) x
 | _=>false
theorem kq {x y:V} {u:Value} (r:qH y u) (f:Zk y=true):WG x u=y9 y x:=by
 cases y with
 | non=>cases r;rfl
 | bl b=>cases r;rfl
 | int i=>obtain⟨t,rfl⟩:=r;rfl
 | str z=>obtain⟨t,rfl⟩:=r;rfl
 | _=>exact absurd (show false=true from f) Bool.false_ne_true
theorem Zo {x:V}:∀{xs:List V} {us:List Value},qB xs us->xs.all Zk=true->us.any (WG x)=xs.any λy=>y9 y x
 | _,_,.nil,_=>rfl
 | y::xs,u::us,.cons r t,f=>by
   rw[List.all_cons,Bool.and_eq_true]at f
   rw[List.any_cons,List.any_cons,kq r f.1,Zo t f.2]
theorem Je {A:Around} {s:Shared} {x:V} {v:Value} (rx:qH x v) (fx:Zk x=true):∀{xs:List V} {us:List Value},qB xs us->xs.all Zk=true->∀u∈us,SeqAt.EqAt A s u v (WG x u)
 | _,_,.nil,_=>λu hu=>by cases hu
 | y::xs,u::us,.cons r t,f=>λu' hu=>by
   rw[List.all_cons,Bool.and_eq_true]at f
   rcases List.mem_cons.mp hu with rfl | hu
   . rw[kq r f.1];exact ub r rx f.1 fx
   . exact Je rx fx t f.2 u' hu
def Z6 (x:V) (xs:List V):Bool:=xs.any λy=>y9 y x
def Gq (K:PySem.W.Frag) (neg:Bool):R2:=λx y H Q=>∃p xs,y=.ref p/\(SqL K H p xs\/SqT K H p xs)/\Zk x=true/\xs.all Zk=true/\Q (.bl (if neg then !Z6 x xs else Z6 x xs)) H
theorem Yb:Zq X (compareOp .In) (Gq X.K false):=by
 intro pins s σ H x y v u Q I rx ry h
 obtain⟨p,xs,rfl,hq,fx,fs,q⟩:=h
 cases ry
 rcases hq with hq | hq
 . obtain⟨its,r,pl,hz⟩:=I.list hq
   refine SeqAt.in_listAt (WG x) pl.isList (λw hw=>Je rx fx r fs w (by simpa using hw)) ⟨.bl _,H,I,rfl,?_⟩
   rw[show its.toArray.any (WG x)=its.any (WG x) by simp,Zo r fs]
   exact q
 . obtain⟨its,r,pl,hz⟩:=I.tuple hq
   refine SeqAt.in_tupleAt (WG x) pl (λw hw=>Je rx fx r fs w (by simpa using hw)) ⟨.bl _,H,I,rfl,?_⟩
   rw[show its.toArray.any (WG x)=its.any (WG x) by simp,Zo r fs]
   exact q
theorem Zd:Zq X (compareOp .NotIn) (Gq X.K true):=by
 intro pins s σ H x y v u Q I rx ry h
 obtain⟨p,xs,rfl,hq,fx,fs,q⟩:=h
 cases ry
 rcases hq with hq | hq
 . obtain⟨its,r,pl,hz⟩:=I.list hq
   refine SeqAt.notIn_listAt (WG x) pl.isList (λw hw=>Je rx fx r fs w (by simpa using hw)) ⟨.bl _,H,I,rfl,?_⟩
   rw[show its.toArray.any (WG x)=its.any (WG x) by simp,Zo r fs]
   exact q
 . obtain⟨its,r,pl,hz⟩:=I.tuple hq
   refine SeqAt.notIn_tupleAt (WG x) pl (λw hw=>Je rx fx r fs w (by simpa using hw)) ⟨.bl _,H,I,rfl,?_⟩
   rw[show its.toArray.any (WG x)=its.any (WG x) by simp,Zo r fs]
   exact q
theorem qC:jU X (.builtin "len") (λxs H Q=>∃p ys,xs=[.ref p]/\(SqL X.K H p ys\/SqT X.K H p ys)/\Q (.int ys.length) H):=by
 intro pins s σ H xs us Q I r h
 obtain⟨p,ys,rfl,hq,q⟩:=h
 obtain⟨u,rfl,rx⟩:=Qj r
 cases rx
 have hn:=Zz
 rcases hq with hq | hq
 . obtain⟨its,r',pl,hz⟩:=I.list hq
   have hlen:=r'.length
   exact Calls.call_len_list pl.isList (by simp only[List.size_toArray]<;>omega) ⟨.int ys.length,H,I.tok _,⟨s.toks+1,by rw[List.size_toArray,hlen]⟩,q⟩
 . obtain⟨its,r',pl,hz⟩:=I.tuple hq
   have hlen:=r'.length
   exact len_tuple pl (by simp only[List.size_toArray]<;>omega) ⟨.int ys.length,H,I.tok _,⟨s.toks+1,by rw[List.size_toArray,hlen]⟩,q⟩
theorem QZ:jU X (.builtin "len") (λxs H Q=>∃z,xs=[.str z]/\z.length<=sizeLine/\Q (.int z.length) H):=by
 intro pins s σ H xs us Q I r h
 obtain⟨z,rfl,hz,q⟩:=h
 obtain⟨u,rfl,t,rfl⟩:=Qj r
 have hn:=Zz
 exact len_str (by omega) ⟨.int z.length,H,I.tok _,⟨_,rfl⟩,q⟩
theorem qO:jU X (.type "list") (λxs H Q=>∃p ys,xs=[.ref p]/\(SqL X.K H p ys\/SqT X.K H p ys)/\∀l,H l=none->Q (.ref l) (upd H l (.lst ys))):=by
 intro pins s σ H xs us Q I r h
 obtain⟨p,ys,rfl,hq,q⟩:=h
 obtain⟨u,rfl,rx⟩:=Qj r
 cases rx
 have fin:∀(its:List Value),qB ys its->ys.length<=sizeLine->∀(h':Heap) (c':Nat),(∀b o',s.heap.get? b=some o'->h'.get? b=some o')->
     h'.get? s.heap.objs.size=some {cls:=.type "list",dict:=none,data:=.seq its.toArray c',slots:=#[]}->EP X pins σ Q (.ref s.heap.objs.size) {s with heap:=h'}:=λits r' hz h' c' kp e=>
   ⟨.ref s.heap.objs.size,_,I.laid (t':=s.toks) kp (Nat.le_refl _) (show qA X.prog X.w _ h' _ (.lst ys) from⟨hz,its,c',r',e⟩),rfl,q _ (I.hok.fresh (Nat.le_refl _))⟩
 rcases hq with hq | hq
 . obtain⟨its,r',pl,hz⟩:=I.list hq
   have hlen:=r'.length
   obtain⟨o,ho,hc,n,hd⟩:=pl.isList
   exact call_list_seq p (.inl rfl) ho hc hd (λh' c' kp e=>fin its r' hz h' c' kp e) (by simp only[List.size_toArray]<;>omega)
 . obtain⟨its,r',pl,hz⟩:=I.tuple hq
   have hlen:=r'.length
   obtain⟨o,ho,hc,n,hd⟩:=pl
   exact call_list_seq p (.inr rfl) ho hc hd (λh' c' kp e=>fin its r' hz h' c' kp e) (by simp only[List.size_toArray]<;>omega)
theorem QA:jU X (.type "tuple") (λxs H Q=>∃p ys,xs=[.ref p]/\((SqL X.K H p ys/\∀l,H l=none->Q (.ref l) (upd H l (.tup ys)))\/(SqT X.K H p ys/\Q (.ref p) H))):=by
 intro pins s σ H xs us Q I r h
 obtain⟨p,ys,rfl,h⟩:=h
 obtain⟨u,rfl,rx⟩:=Qj r
 cases rx
 rcases h with ⟨hq,q⟩ | ⟨hq,q⟩
 . obtain⟨its,r',pl,hz⟩:=I.list hq
   have hlen:=r'.length
   refine call_tuple_list pl.isList (λh' kp=>?_) (by simp only[List.size_toArray]<;>omega)
   have I1:qu X pins σ H {s with heap:=h'}:=I.kept (t':=s.toks) kp
   have I2:qu X pins σ (upd H h'.objs.size (.tup ys)) {s with heap:=h'.push {cls:=.type "tuple",data:=.seq its.toArray}}:=
     I1.laid (t':=s.toks) (λb o e=>Heap.get?_push_of_some _ e) (Nat.le_refl _) (show qA X.prog X.w _ _ _ (.tup ys) from⟨hz,its,r',IsTup.new _ _⟩)
   exact⟨.ref h'.objs.size,_,I2,rfl,q _ (I1.hok.fresh (Nat.le_refl _))⟩
 . obtain⟨its,r',pl,hz⟩:=I.tuple hq
   exact call_tuple_same pl ⟨.ref p,H,I,rfl,q⟩
def KZ (K:PySem.W.Frag) (T:String) (x:V) (H:Hp):Prop:=match x with
 | .str _=>T="str"
 | .int _=>T="int"
 | .ref p=>(T="list"/\∃xs,SqL K H p xs)\/(T="tuple"/\∃o,K.lookup p=some o/\o.cls=.type "tuple"/\o.dict=none)\/
     (T="dict"/\((∃kvs,H p=some (.dK kvs))\/∃kvs,H p=some (.dT kvs)))\/(T="set"/\∃S n,H p=some (.set S n))
 | _=>False
theorem UI {pins:List (Addr×Obj)} {σ:St} {H:Hp} {s:Shared} {T:String} {x:V} {v:Value} (I:qu X pins σ H s) (r:qH x v) (ty:KZ X.K T x H):
   s.TypeIs v T/\∀a,v=.ref a->∃ob,s.heap.get? a=some ob/\ob.dict=none:=by
 cases x with
 | str z=>
   obtain⟨t,rfl⟩:=r
   cases (show T="str" from ty)
   exact⟨typeIs_str s z t,λ_ e=>nomatch e⟩
 | int i=>
   obtain⟨t,rfl⟩:=r
   cases (show T="int" from ty)
   exact⟨typeIs_int s i t,λ_ e=>nomatch e⟩
 | ref p=>
   cases r
   rcases ty with ⟨rfl,xs,hq⟩ | ⟨rfl,o,hk,hc,hd⟩ | ⟨rfl,hk⟩ | ⟨rfl,S,n,hk⟩
   . obtain⟨its,_,pl,_⟩:=I.list hq
     refine⟨pl.isList.typeIs,λa e=>?_⟩
     cases e
     obtain⟨o,n,e,c,hd,_⟩:=pl
     exact⟨o,e,hd⟩
   . refine⟨⟨o,I.kIn p o hk,hc⟩,λa e=>?_⟩
     cases e
     exact⟨o,I.kIn _ o hk,hd⟩
   . have z:∃o,s.heap.get? p=some o/\o.ExactDict:=by
       rcases hk with ⟨kvs,hk⟩ | ⟨kvs,hk⟩
       . obtain⟨_,_,_,_,o,_,_,e,ex,_⟩:=I.hok p _ hk
         exact⟨o,e,ex⟩
       . obtain⟨_,_,_,_,o,_,_,e,ex,_⟩:=I.hok p _ hk
         exact⟨o,e,ex⟩
     obtain⟨o,e,ex⟩:=z
     refine⟨⟨o,e,ex.1⟩,λa e2=>?_⟩
     cases e2
     exact⟨o,e,ex.2.1⟩
   . obtain⟨o,_,_,_,e,ex,_⟩:=I.hok p _ hk
     refine⟨⟨o,e,ex.1⟩,λa e2=>?_⟩
     cases e2
     exact⟨o,e,ex.2.1⟩
 | _=>exact False.elim ty
def K8 (K:PySem.W.Frag) (T:String) (r:V->List V->Hp->VK->Prop) (to:TE):TE:=λσ H Q=>to σ H λx H1=>KZ K T x H1/\r x [] H1 Q
def K9 (K:PySem.W.Frag) (T:String) (r:V->List V->Hp->VK->Prop) (to:TE) (t:TA):TE:=λσ H Q=>to σ H λx H1=>KZ K T x H1/\t σ H1 λxs H2=>r x xs H2 Q
variable {o e:Expr} {es:List Expr} {to:TE} {t:TA} {name:Str} {apos cpos:Pos} {T id:String} {r:V->List V->Hp->VK->Prop}
theorem vV (pa:PlainAttrs T) (slot:Slot T name id) (hty:typeOf (.builtin id)=pure (.type "method_descriptor")) (hm:KW X id r) (ho:JE X o to) (hbase:attributeBase o name X.env (eval o X.env)=eval o X.env:=by rfl) (hline:(apos.endLine==cpos.line)=true:=by rfl):JE X (.Call (.Attribute o name apos) [] [] cpos) (K8 X.K T r to):=.of (by
 have ho:=ho.to
 intro pins s σ H Q I h
 refine wpAny_Call_method0_late hbase hline (jc (ho pins s σ H _ I h) λv s1 ⟨x,H1,I1,r1,ty,q1⟩=>?_)
 obtain⟨h1,h2⟩:=UI I1 r1 ty
 exact⟨T,id,pa,slot,hty,h1,h2,Calls.callWith_builtin rfl (PySem.evalArgs_none (hm pins s1 σ H1 x [] v [] Q I1 r1 .nil q1))⟩)
theorem u7 (pa:PlainAttrs T) (slot:Slot T name id) (hty:typeOf (.builtin id)=pure (.type "method_descriptor")) (hm:KW X id r) (ho:PE X o to) (ha:PA X (e::es) t)
   (hbase:attributeBase o name X.env (eval o X.env)=eval o X.env:=by rfl)
   (hfew:((backTo cpos (starEach (e::es) X.env)).all (λx=> !x.1)&&(backToKw cpos (keywordEach [] X.env)).all (λx=>x.1.isSome)
     &&decide ((e::es).length+([]:List Keyword).length+(if ([]:List Keyword).isEmpty then 0 else 1) < 30))=true:=by rfl)
   (hline:(apos.endLine==cpos.line)=true:=by rfl) (hs:starEach (e::es) X.env=(false,eval e X.env)::starEach es X.env:=by rfl) (hplain:(backTo cpos (starEach es X.env)).any (·.1)=false:=by rfl):
   PE X (.Call (.Attribute o name apos) (e::es) [] cpos) (K9 X.K T r to t):=by
 intro pins s σ H Q I h
 refine wpAny_Call_method_late hbase hfew hline rfl (jc (ho pins s σ H _ I h) λv s1 ⟨x,H1,I1,r1,ty,q1⟩=>?_)
 obtain⟨h1,h2⟩:=UI I1 r1 ty
 refine⟨T,id,pa,slot,hty,h1,h2,?_⟩
 have hA:=ha cpos pins s1 σ H1 _ I1 q1
 rw[hs]at hA ⊢
 refine Calls.callWith_builtin (by show (false || (backTo cpos (starEach es X.env)).any (·.1))=false;rw[hplain]<;>rfl) (Calls.evalArgs_plain ?_)
 exact jc hA λus s2 ⟨vs,H2,I2,r2,q2⟩=>hm pins s2 σ H2 x vs v us Q I2 r1 r2 q2
theorem Jh (pa:PlainAttrs T) (slot:Slot T name id) (hty:typeOf (.builtin id)=pure (.type "method_descriptor")) (hm:KW X id r) (ho:JE X o to) (ha:JA X (e::es) t) (hbase:attributeBase o name X.env (eval o X.env)=eval o X.env:=by rfl) (hfew:((backTo cpos (starEach (e::es) X.env)).all (λx=> !x.1)&&(backToKw cpos (keywordEach [] X.env)).all (λx=>x.1.isSome)
     &&decide ((e::es).length+([]:List Keyword).length+(if ([]:List Keyword).isEmpty then 0 else 1) < 30))=true:=by rfl) (hline:(apos.endLine==cpos.line)=true:=by rfl) (hs:starEach (e::es) X.env=(false,eval e X.env)::starEach es X.env:=by rfl) (hplain:(backTo cpos (starEach es X.env)).any (·.1)=false:=by rfl):JE X (.Call (.Attribute o name apos) (e::es) [] cpos) (K9 X.K T r to t):=.of (u7 pa slot hty hm ho.to ha.to hbase hfew hline hs hplain)
end
end L2
namespace L2
open PySem PySem.Spec PyProof.Rows
def KI (X:Cx) (id:String) (r:V->List V->Hp->VK->Prop):Prop:=
 ∀(pins:List (Addr×Obj)) (s:Shared) (σ:St) (H:Hp) (x:V) (xs:List V) (v:Value) (us:List Value) (Q:VK),qu X pins σ H s->qH x v->qB xs us->r x xs H Q->
   wpAny (model X.prog X.w) X.A (call (.builtin id) (v::us)) (EP X pins σ Q) X.xe s
theorem qB.one:∀{x:V} {us:List Value},qB [x] us->∃u,us=[u]/\qH x u
 | _,_,.cons r .nil=>⟨_,rfl,r⟩
theorem qB.zero:∀{us:List Value},qB [] us->us=[]
 | _,.nil=>rfl
theorem qB.eraseIdx:∀{xs:List V} {us:List Value} (i:Nat),qB xs us->qB (xs.eraseIdx i) (us.eraseIdx i)
 | _,_,_,.nil=>.nil
 | _,_,0,.cons _ t=>t
 | _,_,i+1,.cons r t=>.cons r (qB.eraseIdx i t)
theorem qB.reverse {xs:List V} {us:List Value} (h:qB xs us):qB xs.reverse us.reverse:=by
 induction h with
 | nil=>exact .nil
 | cons r t ih=>rw[List.reverse_cons,List.reverse_cons];exact qB.append ih (.cons r .nil)
theorem Yh {α:Type}:∀(l:List α) (i:Nat),(l.eraseIdx i).length<=l.length
 | [],_=>Nat.le_refl _
 | _::_,0=>Nat.le_succ _
 | _::r,i+1=>Nat.succ_le_succ (Yh r i)
section
variable {X:Cx} {pins:List (Addr×Obj)} {σ:St} {H:Hp} {s:Shared} {l b:Addr} {xs ys zs:List V}
theorem qu.lset {its its':List Value} {n:Nat} {f:Array Value->Array Value} {t':Nat} (I:qu X pins σ H s) (hH:H l=some (.lst xs))
   (e:s.heap.get? l=some {cls:=.type "list",data:=.seq its.toArray n}) (hf:f its.toArray=its'.toArray) (hv:qB ys its') (hz:ys.length<=sizeLine):
   qu X pins σ (upd H l (.lst ys)) {s with heap:=s.heap.update l (Obj.mapSeq f),toks:=t'}:=by
 have q:=PySem.IsL.update e f
 rw[hf]at q
 refine I.write (x:=l) (e:=l) (by rw[hH];exact trivial) (.inl rfl) (λb' u hb hu=>(Heap.get?_update_other s.heap (Obj.mapSeq f) (Ne.symm hb)).trans hu) ⟨_,q⟩ ?_
 exact⟨hz,its',_,hv,q⟩
theorem qu.lnew {its:List Value} {t':Nat} (I:qu X pins σ H s) (hv:qB ys its) (hz:ys.length<=sizeLine):
   qu X pins σ (upd H s.heap.objs.size (.lst ys)) {s with heap:=s.heap.push {cls:=.type "list",data:=.seq its.toArray},toks:=t'}:=
 I.laid (λ_ _ q=>Heap.get?_push_of_some _ q) (Nat.le_refl _) ⟨hz,its,0,hv,Heap.get?_push_size _ rfl⟩
theorem qu.fresh (I:qu X pins σ H s):H s.heap.objs.size=none:=I.hok.fresh (Nat.le_refl _)
theorem qu.lstM (I:qu X pins σ H s) (hH:H l=some (.lst xs)):xs.length<=sizeLine/\∃(its:List Value) (n:Nat),qB xs its/\xs.length=its.length/\s.heap.get? l=some {cls:=.type "list",data:=.seq its.toArray n}:=by
 obtain⟨z,its,n,r,e⟩:=I.hok l _ hH
 exact⟨z,its,n,r,r.length,e⟩
theorem vB {n:Nat} (h:n<=sizeLine):Builtin.List.listTooLong n=false:=by
 unfold Builtin.List.listTooLong
 exact decide_eq_false (by omega)
end
section
variable {X:Cx}
def Vg:V->List V->Hp->VK->Prop:=λx vs H Q=>∃l xs y,x=.ref l/\vs=[y]/\H l=some (.lst xs)/\xs.length < sizeLine/\Q .non (upd H l (.lst (xs++[y])))
theorem jA:KI X "list.append" Vg:=by
 intro pins s σ H x vs v us Q I rx rv h
 obtain⟨l,xs,y,rfl,rfl,hH,hz,q⟩:=h
 cases rx
 obtain⟨u,rfl,ru⟩:=rv.one
 obtain⟨z,its,n,r,hl,e⟩:=I.lstM hH
 refine call_meets F.slot_list_append ⟨_,e,rfl⟩ F.entry_list_append (F.args_list_append_2 _ _) (PySem.list_append l its.toArray n u (by rw[List.size_toArray];omega)) ⟨e,?_⟩
 refine⟨.non,_,I.lset (its':=its++[u]) hH e (by simp) (r.append (.cons ru .nil)) ?_,rfl,q⟩
 rw[List.length_append,List.length_singleton]
 omega
def ym:V->List V->Hp->VK->Prop:=λx vs H Q=>∃l b xs zs,x=.ref l/\vs=[.ref b]/\H l=some (.lst xs)/\H b=some (.lst zs)/\xs.length+zs.length<=sizeLine/\Q .non (upd H l (.lst (xs++zs)))
theorem Ud:KI X "list.extend" ym:=by
 intro pins s σ H x vs v us Q I rx rv h
 obtain⟨l,b,xs,zs,rfl,rfl,hH,hB,hz,q⟩:=h
 cases rx
 obtain⟨u,rfl,ru⟩:=rv.one
 cases ru
 obtain⟨z,its,n,r,hl,e⟩:=I.lstM hH
 obtain⟨z2,its2,n2,r2,hl2,e2⟩:=I.lstM hB
 have hsz:its.toArray.size+its2.toArray.size<=sizeLine:=by rw[List.size_toArray,List.size_toArray];omega
 have hlong:¬(!its.toArray.isEmpty&&Builtin.List.listTooLong (its.toArray.size+its2.toArray.size))=true:=by
   rw[vB hsz,Bool.and_false]
   exact Bool.false_ne_true
 refine call_meets F.slot_list_extend ⟨_,e,rfl⟩ F.entry_list_extend (F.args_list_extend_2 _ _)
   (AutoSeq1.list_extend_list_list_0 l its.toArray n b its2.toArray n2 hlong (by rw[List.size_toArray];omega) (by omega)) ⟨e,e2,?_⟩
 refine⟨.non,_,I.lset (its':=its++its2) hH e (by simp) (r.append r2) ?_,rfl,q⟩
 rw[List.length_append]
 omega
def we:V->List V->Hp->VK->Prop:=λx vs H Q=>∃l xs i k y,x=.ref l/\vs=[.int i]/\H l=some (.lst xs)/\-(2^63)<=i/\i < 2^63/\seqIndex? i xs.length=some k/\xs[k]?=some y/\Q y (upd H l (.lst (xs.eraseIdx k)))
theorem vD:KI X "list.pop" we:=by
 intro pins s σ H x vs v us Q I rx rv h
 obtain⟨l,xs,i,k,y,rfl,rfl,hH,h1,h2,hk,hy,q⟩:=h
 cases rx
 obtain⟨u,rfl,ru⟩:=rv.one
 obtain⟨t,rfl⟩:=ru
 obtain⟨z,its,n,r,hl,e⟩:=I.lstM hH
 obtain⟨w,hw,rw'⟩:=r.get hy
 refine call_meets F.slot_list_pop ⟨_,e,rfl⟩ F.entry_list_pop (F.args_list_pop_2 _ _)
   (MeetsSeq.list_pop_at l its.toArray n i t k w (fitsIndex_both h1 h2) (by rw[List.size_toArray,<-hl];exact hk) (by rw[<-Array.getElem?_toList];exact hw) (by rw[List.size_toArray];omega)) ⟨e,?_⟩
 refine⟨y,_,I.lset (its':=its.eraseIdx k) hH e ?_ (r.eraseIdx k) ?_,rw',q⟩
 . show its.toArray.eraseIdxIfInBounds k=(its.eraseIdx k).toArray
   rw[List.eraseIdxIfInBounds_toArray]
 . have:=Yh xs k
   omega
def vd:V->List V->Hp->VK->Prop:=λx vs H Q=>∃l xs,x=.ref l/\vs=[]/\H l=some (.lst xs)/\Q .non (upd H l (.lst xs.reverse))
theorem Wv:KI X "list.reverse" vd:=by
 intro pins s σ H x vs v us Q I rx rv h
 obtain⟨l,xs,rfl,rfl,hH,q⟩:=h
 cases rx
 have hus:=rv.zero
 subst hus
 obtain⟨z,its,n,r,hl,e⟩:=I.lstM hH
 refine call_meets F.slot_list_reverse ⟨_,e,rfl⟩ F.entry_list_reverse (F.args_list_reverse_1 _) (AutoSeq1.list_reverse_list_0 l its.toArray n (by rw[List.size_toArray];omega)) ⟨e,?_⟩
 refine⟨.non,_,I.lset (its':=its.reverse) hH e (by simp) r.reverse ?_,rfl,q⟩
 rw[List.length_reverse]
 omega
def wj:V->List V->Hp->VK->Prop:=λx vs H Q=>∃l xs,x=.ref l/\vs=[]/\H l=some (.lst xs)/\Q .non (upd H l (.lst []))
theorem vE:KI X "list.clear" wj:=by
 intro pins s σ H x vs v us Q I rx rv h
 obtain⟨l,xs,rfl,rfl,hH,q⟩:=h
 cases rx
 have hus:=rv.zero
 subst hus
 obtain⟨z,its,n,r,hl,e⟩:=I.lstM hH
 refine call_meets F.slot_list_clear ⟨_,e,rfl⟩ F.entry_list_clear (F.args_list_clear_1 _) (AutoSeq1.list_clear_list_0 l its.toArray n (by rw[List.size_toArray];omega)) ⟨e,?_⟩
 exact⟨.non,_,I.lset (its':=[]) (ys:=[]) hH e rfl .nil (Nat.zero_le _),rfl,q⟩
def Gr:R2:=λx y H Q=>∃l b xs zs,x=.ref l/\y=.ref b/\H l=some (.lst xs)/\H b=some (.lst zs)/\xs.length+zs.length<=sizeLine/\∀p,H p=none->Q (.ref p) (upd H p (.lst (xs++zs)))
theorem zv:Zq X (binaryOp .Add) Gr:=by
 intro pins s σ H x y v u Q I rx ry h
 obtain⟨l,b,xs,zs,rfl,rfl,hH,hB,hz,q⟩:=h
 cases rx
 cases ry
 obtain⟨z,its,n,r,hl,e⟩:=I.lstM hH
 obtain⟨z2,its2,n2,r2,hl2,e2⟩:=I.lstM hB
 refine PySem.P.add_list e e2 ?_ (by rw[List.size_toArray,List.size_toArray];omega)
 have ea:its.toArray++its2.toArray=(its++its2).toArray:=by simp
 rw[ea]
 exact⟨.ref _,_,I.lnew (t':=s.toks) (r.append r2) (by rw[List.length_append];omega),rfl,q _ I.fresh⟩
end
section
variable {prog:Program} {w:World} {A:Around} {E:Value->Shared->Prop} {s:Shared}
set_option maxRecDepth 100000 in
end
section
variable {X:Cx}
end
end L2
namespace L2
open PySem PySem.Spec PyProof.Rows
section
variable {κ:Type} [DecidableEq κ]
def jy (kvs:List (κ×V)) (k:κ):Option V:=(kvs.find? λkv=>decide (kv.1=k)).map (·.2)
def jD (kvs:List (κ×V)) (k:κ) (v:V):List (κ×V):=
 if (kvs.any λkv=>decide (kv.1=k))=true then kvs.map (λkv=>if kv.1=k then (kv.1,v) else kv) else kvs++[(k,v)]
theorem qX {p:κ×V} {r:List (κ×V)} {k:κ} (e:p.1=k):jy (p::r) k=some p.2:=by simp [jy,List.find?_cons,e]
theorem qY {p:κ×V} {r:List (κ×V)} {k:κ} (e:¬p.1=k):jy (p::r) k=jy r k:=by simp [jy,List.find?_cons,e]
theorem QC (k:κ):∀kvs:List (κ×V),(kvs.any λkv=>decide (kv.1=k))=(jy kvs k).isSome
 | []=>rfl
 | p::r=>by
   rw[List.any_cons]
   by_cases e:p.1=k
   . simp only[qX e,decide_eq_true e,Bool.true_or,Option.isSome_some]
   . rw[qY e,decide_eq_false e,Bool.false_or];exact QC k r
theorem Y9 (k j:κ) (y:V):∀kvs:List (κ×V),jy (kvs.map λkv=>if kv.1=k then (kv.1,y) else kv) j=(jy kvs j).map λx=>if j=k then y else x
 | []=>rfl
 | p::r=>by
   have ih:=Y9 k j y r
   rw[List.map_cons]
   by_cases h:p.1=k
   . rw[if_pos h]
     by_cases e:p.1=j
     . rw[qX (p:=(p.1,y)) e,qX e,Option.map_some,if_pos (e.symm.trans h)]
     . rw[qY (p:=(p.1,y)) e,qY e,ih]
   . rw[if_neg h]
     by_cases e:p.1=j
     . rw[qX (p:=p) e,qX e,Option.map_some,if_neg (λz=>h (e.trans z))]
     . rw[qY (p:=p) e,qY e,ih]
theorem z6 (k j:κ) (y:V):∀kvs:List (κ×V),jy kvs k=none->jy (kvs++[(k,y)]) j=if j=k then some y else jy kvs j
 | [],_=>by
   by_cases e:k=j
   . rw[if_pos e.symm];exact qX (p:=(k,y)) e
   . rw[if_neg (λz=>e z.symm)];exact qY (p:=(k,y)) e
 | p::r,hn=>by
   rw[List.cons_append]
   have hk:¬p.1=k:=λz=>by rw[qX z]at hn;cases hn
   rw[qY hk]at hn
   have ih:=z6 k j y r hn
   by_cases e:p.1=j
   . rw[qX e,qX e,if_neg (λz=>hk (e.trans z))]
   . rw[qY e,qY e,ih]
theorem Y8 (kvs:List (κ×V)) (k j:κ) (y:V):jy (jD kvs k y) j=if j=k then some y else jy kvs j:=by
 unfold jD
 by_cases a:(kvs.any λkv=>decide (kv.1=k))=true
 . rw[if_pos a,Y9]
   rw[QC]at a
   by_cases e:j=k
   . obtain⟨x,hx⟩:=Option.isSome_iff_exists.mp a
     rw[if_pos e,e,hx,Option.map_some,if_pos rfl]
   . rw[if_neg e]
     cases jy kvs j with
     | none=>rfl
     | some x=>rw[Option.map_some,if_neg e]
 . rw[if_neg a]
   refine z6 k j y kvs ?_
   rw[QC]at a
   cases q:jy kvs k with
   | none=>rfl
   | some x=>rw[q]at a;exact(a rfl).elim
theorem Jf (kvs:List (κ×V)) (k:κ) (v:V):(jD kvs k v).length<=kvs.length+1:=by
 unfold jD
 split
 . rw[List.length_map];omega
 . rw[List.length_append,List.length_cons,List.length_nil];omega
theorem Xn {kvs:List (κ×V)} {k:κ} (v:V) (h:jy kvs k=none):jD kvs k v=kvs++[(k,v)]:=by
 unfold jD
 rw[QC,h]
 exact if_neg (by decide)
theorem Q7.isSome_eq {o:Option V} {u:Option Value} (r:Q7 o u):o.isSome=u.isSome:=by
 cases o with
 | none=>cases u with
   | none=>rfl
   | some _=>exact(show False from r).elim
 | some _=>cases u with
   | none=>exact(show False from r).elim
   | some _=>rfl
theorem KV.val {kvs:List (κ×V)} {vs:List (κ×Value)} (r:KV kvs vs) (k:κ):Q7 (jy kvs k) (valueAt vs k):=by
 unfold KV at r
 induction r with
 | nil=>exact True.intro
 | @cons p q ps qs h t ih=>
   obtain⟨h1,h2⟩:=h
   by_cases e:p.1=k
   . have e':q.1=k:=h1.symm.trans e
     have b:valueAt (q::qs) k=some q.2:=by simp [valueAt,List.find?_cons,e']
     rw[qX e,b];exact h2
   . have e':¬q.1=k:=λz=>e (h1.trans z)
     have b:valueAt (q::qs) k=valueAt qs k:=by simp [valueAt,List.find?_cons,e']
     rw[qY e,b];exact ih
theorem KV.any {kvs:List (κ×V)} {vs:List (κ×Value)} (r:KV kvs vs) (k:κ):(kvs.any λkv=>decide (kv.1=k))=vs.any λkv=>decide (kv.1=k):=by
 unfold KV at r
 induction r with
 | nil=>rfl
 | cons h t ih=>rw[List.any_cons,List.any_cons,ih,h.1]
theorem KV.repl {kvs:List (κ×V)} {vs:List (κ×Value)} (r:KV kvs vs) (k:κ) {y:V} {u:Value} (ry:qH y u):
   KV (kvs.map λkv=>if kv.1=k then (kv.1,y) else kv) (vs.map λkv=>if kv.1=k then (kv.1,u) else kv):=by
 unfold KV at r ⊢
 induction r with
 | nil=>exact .nil
 | @cons p q ps qs h t ih=>
   rw[List.map_cons,List.map_cons]
   refine .cons ?_ ih
   obtain⟨h1,h2⟩:=h
   by_cases e:p.1=k
   . rw[if_pos e,if_pos (h1.symm.trans e)];exact⟨h1,ry⟩
   . rw[if_neg e,if_neg (λz=>e (h1.trans z))];exact⟨h1,h2⟩
theorem KV.put {kvs:List (κ×V)} {vs:List (κ×Value)} (r:KV kvs vs) (k:κ) {y:V} {u:Value} (ry:qH y u):KV (jD kvs k y) (stored vs k u):=by
 unfold jD stored
 rw[r.any k]
 by_cases e:(vs.any λkv=>decide (kv.1=k))=true
 . rw[if_pos e,if_pos e];exact r.repl k ry
 . rw[if_neg e,if_neg e];exact Paired.snoc r ⟨rfl,ry⟩
theorem KV.length {kvs:List (κ×V)} {vs:List (κ×Value)} (r:KV kvs vs):kvs.length=vs.length:=Paired.length r
end
theorem zE {P:Program} {w:World} {k:qS} {u:Value} (r:qH (kV k) u):(jh P w).is k u=true:=by
 cases k with
 | inl i=>obtain⟨t,e⟩:=(show ∃t,u=Value.int i t from r);subst e;exact Xv P w i t
 | inr x=>obtain⟨t,e⟩:=(show ∃t,u=Value.str x t from r);subst e;exact Xu P w x t
theorem Yi {P:Program} {w:World}:∀{ks:List qS} {us:List Value},qB (ks.map kV) us->ItemsAre (jh P w) ks us
 | [],_,r=>by rw[List.map_nil]at r;cases r;exact .nil
 | k::ks,_,r=>by
   rw[List.map_cons]at r
   cases r with
   | cons h t=>exact .cons (zE h) (Yi t)
abbrev KT (H:Hp):List (List qS×V)->List (List qS×Addr×Value)->Prop:=Paired λp q=>p.1=q.1/\H q.2.1=some (.tup (p.1.map kV))/\qH p.2 q.2.2
theorem KT.val {H:Hp} {kvs:List (List qS×V)} {xs:List (List qS×Addr×Value)} (r:KT H kvs xs) (k:List qS):Q7 (jy kvs k) ((atKey xs k).map (·.2)):=by
 induction r with
 | nil=>exact True.intro
 | @cons p q ps qs h t ih=>
   obtain⟨h1,_,h2⟩:=h
   by_cases e:p.1=k
   . have e':q.1=k:=h1.symm.trans e
     have b:atKey (q::qs) k=some q.2:=by simp [atKey,List.find?_cons,e']
     rw[qX e,b];exact h2
   . have e':¬q.1=k:=λz=>e (h1.trans z)
     have b:atKey (q::qs) k=atKey qs k:=by simp [atKey,List.find?_cons,e']
     rw[qY e,b];exact ih
theorem KT.repl {H:Hp} {kvs:List (List qS×V)} {xs:List (List qS×Addr×Value)} (r:KT H kvs xs) (k:List qS) {y:V} {u:Value} (ry:qH y u):
   KT H (kvs.map λkv=>if kv.1=k then (kv.1,y) else kv) (xs.map (putAt k u)):=by
 induction r with
 | nil=>exact .nil
 | @cons p q ps qs h t ih=>
   rw[List.map_cons,List.map_cons]
   refine .cons ?_ ih
   obtain⟨h1,h2,h3⟩:=h
   unfold putAt
   by_cases e:p.1=k
   . rw[if_pos e,if_pos (h1.symm.trans e)];exact⟨h1,h2,ry⟩
   . rw[if_neg e,if_neg (λz=>e (h1.trans z))];exact⟨h1,h2,h3⟩
theorem KT.put {H:Hp} {kvs:List (List qS×V)} {xs:List (List qS×Addr×Value)} (r:KT H kvs xs) (k:List qS) {b:Addr} {y:V} {u:Value} (hb:H b=some (.tup (k.map kV))) (ry:qH y u):
   KT H (jD kvs k y) (storedH xs k b u):=by
 have e:(kvs.any λkv=>decide (kv.1=k))=(atKey xs k).isSome:=by
   rw[QC,(r.val k).isSome_eq,Option.isSome_map]
 unfold jD storedH
 rw[e]
 by_cases q:(atKey xs k).isSome=true
 . rw[if_pos q,if_pos q];exact r.repl k ry
 . rw[if_neg q,if_neg q];exact Paired.snoc r ⟨rfl,hb,ry⟩
theorem KT.keeps {H H':Hp} {kvs:List (List qS×V)} {xs:List (List qS×Addr×Value)} (r:KT H kvs xs) (ht:∀b ys,H b=some (.tup ys)->H' b=some (.tup ys)):KT H' kvs xs:=
 Paired.mapP r λ_ _ z=>⟨z.1,ht _ _ z.2.1,z.2.2⟩
section
variable {P:Program} {w:World} {H:Hp} {h:Heap} {a:Addr}
theorem xF {u:HO} (ok:Q4 P w H h) (e:Rd H a u):qA P w H h a u:=e.ok ok
theorem XG {kvs:List (qS×V)} (ok:Q4 P w H h) (e:Rd H a (.dK kvs)):kvs.length<=sizeLine/\(a==sysModules)=false/\∃vs,KV kvs vs/\h.DictOf (jh P w) a vs:=
 show qA P w H h a (.dK kvs) from xF ok e
theorem xN {kvs:List (qS×V)} (ok:Q4 P w H h) (e:H a=some (.dK kvs)):kvs.length<=sizeLine/\(a==sysModules)=false/\∃vs,KV kvs vs/\h.DictOf (jh P w) a vs:=XG ok (.inl e)
theorem zC {ks:List qS} (ok:Q4 P w H h) (e:H a=some (.tup (ks.map kV))):(tupleKind (jh P w)).is h ks a:=by
 obtain⟨_,its,r,o,h1,h2,n,h3⟩:=(show qA P w H h a (.tup (ks.map kV)) from ok a _ e)
 exact⟨o,its.toArray,n,h1,h2,h3,by simpa using Yi r⟩
theorem XF {kvs:List (List qS×V)} (ok:Q4 P w H h) (e:Rd H a (.dT kvs)):kvs.length<=sizeLine/\(a==sysModules)=false/\
   ∃xs,KT H kvs xs/\h.DictOfH (tupleKind (jh P w)) a xs:=by
 obtain⟨z,y,xs,r,o,es,ep,h1,h2,h3,h4,h5⟩:=(show qA P w H h a (.dT kvs) from xF ok e)
 refine⟨z,y,xs,r,o,es,ep,h1,h2,h3,h4,λx hx=>?_,h5⟩
 have all:∀{l:List (List qS×V)} {m:List (List qS×Addr×Value)},KT H l m->∀x∈m,(tupleKind (jh P w)).is h x.1 x.2.1:=by
   intro l m q
   induction q with
   | nil=>intro x hx;exact nomatch hx
   | @cons p q ps qs hq t ih=>
     intro x hx
     rcases List.mem_cons.mp hx with e | hx
     . subst e
       exact zC ok (by rw[<-hq.1];exact hq.2.1)
     . exact ih x hx
 exact all r x hx
theorem Kz {kvs:List (List qS×V)} (ok:Q4 P w H h) (e:H a=some (.dT kvs)):kvs.length<=sizeLine/\(a==sysModules)=false/\
   ∃xs,KT H kvs xs/\h.DictOfH (tupleKind (jh P w)) a xs:=XF ok (.inl e)
end
def Qp (H:Hp) (a:Addr) (y:V) (r:Option V):Prop:=
 (∃kvs k,Rd H a (.dK kvs)/\y=kV k/\r=jy kvs k)\/∃kvs k b,Rd H a (.dT kvs)/\y=.ref b/\H b=some (.tup (k.map kV))/\r=jy kvs k
def Zp (H:Hp) (a:Addr) (y v:V) (H':Hp):Prop:=
 (∃kvs k,H a=some (.dK kvs)/\y=kV k/\kvs.length < sizeLine/\H'=upd H a (.dK (jD kvs k v)))\/
 ∃kvs k b,H a=some (.dT kvs)/\y=.ref b/\H b=some (.tup (k.map kV))/\kvs.length < sizeLine/\H'=upd H a (.dT (jD kvs k v))
theorem Qp.k {H:Hp} {a:Addr} {kvs:List (qS×V)} {k:qS} (e:H a=some (.dK kvs)):Qp H a (kV k) (jy kvs k):=.inl ⟨kvs,k,.inl e,rfl,rfl⟩
theorem Zp.k {H:Hp} {a:Addr} {kvs:List (qS×V)} {k:qS} {v:V} (e:H a=some (.dK kvs)) (hl:kvs.length < sizeLine):Zp H a (kV k) v (upd H a (.dK (jD kvs k v))):=.inl ⟨kvs,k,e,rfl,hl,rfl⟩
theorem Zp.t {H:Hp} {a b:Addr} {kvs:List (List qS×V)} {k:List qS} {v:V} (e:H a=some (.dT kvs)) (eb:H b=some (.tup (k.map kV))) (hl:kvs.length < sizeLine):
   Zp H a (.ref b) v (upd H a (.dT (jD kvs k v))):=.inr ⟨kvs,k,b,e,rfl,eb,hl,rfl⟩
section
variable {X:Cx} {pins:List (Addr×Obj)} {σ:St} {H:Hp} {s:Shared} {a:Addr} {y v:V} {u r:Value} {o:Option V} {A:Around} {E:Value->Shared->Prop}
theorem qu.big (I:qu X pins σ H s):sysModules < s.heap.objs.size:=by
 have h:mainGlobals < s.heap.objs.size:=(I.mod.glob.keeps I.bk).lt
 exact Nat.lt_trans (by decide) h
theorem Ux {Q:Value->Shared->Prop} (hu:A.units+1 < cLine) (I:qu X pins σ H s) (g:Qp H a y (some v)) (ry:qH y u) (h:∀w' s',qu X pins σ H s'->qH v w'->Q w' s'):
   wpAny (model X.prog X.w) A (getItem (.ref a) u) Q E s:=by
 rcases g with ⟨kvs,k,e,ey,l⟩ | ⟨kvs,k,b,e,ey,eb,l⟩
 . subst ey
   obtain⟨z,hd,vs,rel,dd⟩:=XG I.hok e
   obtain⟨w',hw,rw'⟩:=Q7.some_of (v:=v) (o:=valueAt vs k) (by rw[l];exact rel.val k)
   exact wpAny_getItem_of (zE ry) dd.mapOf hw (h w' _ (I.tok _) rw')
 . subst ey
   cases (show u=Value.ref b from ry)
   obtain⟨z,hd,xs,rel,dd⟩:=XF I.hok e
   obtain⟨w',hw,rw'⟩:=Q7.some_of (v:=v) (o:=(atKey xs k).map (·.2)) (by rw[l];exact rel.val k)
   obtain⟨p,hp,hp2⟩:=Option.map_eq_some_iff.mp hw
   refine wpAny_getItem_heap (tupleKind_room_in1 hu) (zC I.hok eb) dd hp ?_
   rw[hp2]
   exact h w' _ (I.tok _) rw'
theorem Rp {Q:Value->Shared->Prop} (hu:A.units+1 < cLine) (I:qu X pins σ H s) (g:Qp H a y o) (ry:qH y u) (h:∀s',qu X pins σ H s'->Q (.bool o.isSome) s'):
   wpAny (model X.prog X.w) A (compareOp .In u (.ref a)) Q E s:=by
 rcases g with ⟨kvs,k,e,ey,l⟩ | ⟨kvs,k,b,e,ey,eb,l⟩
 . subst ey
   obtain⟨z,hd,vs,rel,dd⟩:=XG I.hok e
   refine wpAny_in_of (zE ry) hd dd.mapOf ?_
   rw[<-(rel.val k).isSome_eq,<-l]
   exact h _ (I.tok _)
 . subst ey
   cases (show u=Value.ref b from ry)
   obtain⟨z,hd,xs,rel,dd⟩:=XF I.hok e
   refine wpAny_in_heap (tupleKind_room_in1 hu) (zC I.hok eb) hd dd ?_
   have q:=(rel.val k).isSome_eq
   rw[Option.isSome_map]at q
   rw[<-q,<-l]
   exact h _ (I.tok _)
theorem xa {Q:Value->Shared->Prop} (hu:A.units+1 < cLine) (I:qu X pins σ H s) (g:Qp H a y o) (ry:qH y u) (h:∀s',qu X pins σ H s'->Q (.bool (!o.isSome)) s'):
   wpAny (model X.prog X.w) A (compareOp .NotIn u (.ref a)) Q E s:=by
 rcases g with ⟨kvs,k,e,ey,l⟩ | ⟨kvs,k,b,e,ey,eb,l⟩
 . subst ey
   obtain⟨z,hd,vs,rel,dd⟩:=XG I.hok e
   refine wpAny_notIn_of (zE ry) hd dd.mapOf ?_
   rw[<-(rel.val k).isSome_eq,<-l]
   exact h _ (I.tok _)
 . subst ey
   cases (show u=Value.ref b from ry)
   obtain⟨z,hd,xs,rel,dd⟩:=XF I.hok e
   refine wpAny_notIn_heap (tupleKind_room_in1 hu) (zC I.hok eb) hd dd ?_
   have q:=(rel.val k).isSome_eq
   rw[Option.isSome_map]at q
   rw[<-q,<-l]
   exact h _ (I.tok _)
theorem YV {h':Heap} {t':Nat} {ob:HO} (I:qu X pins σ H s) (mu:uv (H a)) (hs:Heap.SameBut a s.heap h') (he:∃q,h'.get? a=some q) (new:qA X.prog X.w (upd H a ob) h' a ob):
   qu X pins σ (upd H a ob) {s with heap:=h',toks:=t'}:=
 I.write (x:=a) (e:=a) mu (.inl rfl) (λb q hb z=>(hs.2 b hb).trans z) he new
theorem WH {P:Program} {w:World} {H':Hp} {h':Heap} {kvs:List (qS×V)} {vs:List (qS×Value)} (z:kvs.length<=sizeLine) (hd:(a==sysModules)=false) (rel:KV kvs vs) (dd:h'.DictOf (jh P w) a vs):
   qA P w H' h' a (.dK kvs):=⟨z,hd,vs,rel,dd⟩
theorem Uw {H':Hp} {Q:Unit->Shared->Prop} (hu:A.units+1 < cLine) (I:qu X pins σ H s) (g:Zp H a y v H') (ry:qH y u) (rv:qH v r) (h:∀s',qu X pins σ H' s'->Q () s'):
   wpAny (model X.prog X.w) A (setItem (.ref a) u r) Q E s:=by
 rcases g with ⟨kvs,k,e,ey,l,eH⟩ | ⟨kvs,k,b,e,ey,eb,l,eH⟩
 . subst ey eH
   obtain⟨z,hd,vs,rel,dd⟩:=xN I.hok e
   have hz:vs.length<=sizeLine:=by rw[<-rel.length];exact z
   have hl:(jD kvs k v).length<=sizeLine:=by have:=Jf kvs k v;omega
   refine wpAny_setItem_pairs (hsz:=hz) (zE ry) dd λh' dd' hs=>h _ ?_
   have he:∃q,h'.get? a=some q:=let ⟨q,_,_,hq,_⟩:=dd';⟨q,hq⟩
   exact YV I (by rw[e];exact True.intro) hs he (WH hl hd (rel.put k rv) dd')
 . subst ey eH
   cases (show u=Value.ref b from ry)
   obtain⟨z,hd,xs,rel,dd⟩:=Kz I.hok e
   have hz:xs.length<=sizeLine:=by rw[<-Paired.length rel];exact z
   have hl:(jD kvs k v).length<=sizeLine:=by have:=Jf kvs k v;omega
   refine wpAny_setItem_heap (hsz:=hz) (tupleKind_room_in1 hu) (zC I.hok eb) dd λh' dd' hs=>h _ ?_
   obtain⟨q,es,ep,hq,h2,h3,h4,_,h5⟩:=dd'
   refine YV I (by rw[e];exact True.intro) hs ⟨q,hq⟩ ⟨hl,hd,_,(rel.put k eb rv).keeps λc ys ec=>?_,q,es,ep,hq,h2,h3,h4,h5⟩
   rw[qe (Kc ec e (λz=>nomatch z))]
   exact ec
end
section
variable {X:Cx} {pins:List (Addr×Obj)} {σ:St} {H:Hp} {s:Shared} {a:Addr} {kvs:List (qS×V)} {k:qS} {u:Value} {A:Around} {E:Value->Shared->Prop}
end
def KH (i:Expr):Prop:=∀ov iv,subscripted i false ov iv=operate [ov,iv] (getItem ov iv)
theorem k7 {prog:Program} {w:World} {A:Around} {E:Value->Shared->Prop} {s:Shared} {env:Env} {value slice:Expr} {pos:Pos} {T id:String} {Q:Value->Shared->Prop}
   (hl:typeLookup (.type T) "__getitem__"=pure (some (.builtin id))) (hs:KH slice)
   (h:wpAny (model prog w) A (eval value env) (λo s₁=>wpAny (model prog w) A (eval slice env) (λi s₂=>s₂.TypeIs o T/\wpAny (model prog w) A (getItem o i) Q E s₂) E s₁) E s):
   wpAny (model prog w) A (eval (.Subscript value slice pos) env) Q E s:=by
 refine Subscript_ (wpAny_mono h (λo s₁ h₁=>wpAny_mono h₁ (λi s₂ h₂=>?_) λ_ _ x=>x) λ_ _ x=>x)
 obtain⟨hT,h₂⟩:=h₂
 unfold subscriptTail
 refine wpAny_bind ?_
 rw[getitemInPython_of_ne hT.not_modules]
 refine wpAny_bind (wpAny_specialOf hT hl ?_)
 have fin:wpAny (model prog w) A (subscripted slice false o i) (λr s₃=>wpAny (model prog w) A (letTemporaryGo value o r >>= λ_=>pure r) Q E s₃) E s₂:=by
   rw[hs o i]
   exact wpAny_operating (wpAny_mono h₂ (λr s₃ h₃=>wpAny_bind (wpAny_letTemporaryGo (wpAny_pure h₃))) λ_ _ x=>x)
 first
   | exact wpAny_pure (wpAny_bind fin)
   | exact wpAny_bind (wpAny_pure (wpAny_bind fin))
   | exact wpAny_bind fin
theorem XI {X:Cx} {pins:List (Addr×Obj)} {σ:St} {H:Hp} {s:Shared} {a:Addr} {y:V} {o:Option V} (I:qu X pins σ H s) (g:Qp H a y o):s.TypeIs (.ref a) "dict":=by
 rcases g with ⟨kvs,k,e,_,_⟩ | ⟨kvs,k,b,e,_,_,_⟩
 . obtain⟨_,_,vs,_,dd⟩:=XG I.hok e
   exact dd.typeIs
 . obtain⟨_,_,xs,_,dd⟩:=XF I.hok e
   exact dd.typeIs
def uF (td ty:TE):TE:=λσ H Q=>td σ H λx H1=>ty σ H1 λy H2=>∃a v,x=.ref a/\Qp H2 a y (some v)/\Q v H2
def K7 (ty td:TE):TE:=λσ H Q=>ty σ H λy H1=>td σ H1 λx H2=>∃a o,x=.ref a/\Qp H2 a y o/\Q (.bl o.isSome) H2
def kW (ty td:TE):TE:=λσ H Q=>ty σ H λy H1=>td σ H1 λx H2=>∃a o,x=.ref a/\Qp H2 a y o/\Q (.bl (!o.isSome)) H2
def xE (td ty tv:TE):TS:=λD σ H=>tv σ H λv H1=>td σ H1 λx H2=>ty σ H2 λy H3=>∃a H4,x=.ref a/\Zp H3 a y v H4/\D.nx σ H4
section
variable {X:Cx} {o i e value:Expr} {pos pos' tpos:Pos} {td ty tv:TE}
theorem Qh (hu:X.A.units+1 < cLine) (ho:JE X o td) (hi:JE X i ty) (hs:KH i):JE X (.Subscript o i pos) (uF td ty):=.of (by
 have ho:=ho.to
 have hi:=hi.to
 intro pins s σ H Q I h
 refine k7 PySem.F.slot_dict_getitem.lookup hs (jc (ho pins s σ H _ I h) λu s1 ⟨x,H1,I1,rx,q1⟩=>jc (hi pins s1 σ H1 _ I1 q1) λiv s2 ⟨y,H2,I2,ry,a,v,ex,g,q2⟩=>?_)
 subst ex
 obtain rfl:u=Value.ref a:=rx
 exact⟨XI I2 g,Ux hu I2 g ry λw' s3 I3 rw'=>⟨v,H2,I3,rw',q2⟩⟩)
theorem vW (hu:X.A.units+1 < cLine) (hi:JE X i ty) (ho:JE X o td):JC X .In i o (K7 ty td):=.of (by
 have hi:=hi.to
 have ho:=ho.to
 intro pins s σ H Q I h
 refine jc (hi pins s σ H _ I h) λiv s1 ⟨y,H1,I1,ry,q1⟩=>jc (ho pins s1 σ H1 _ I1 q1) λu s2 ⟨x,H2,I2,rx,a,ov,ex,g,q2⟩=>?_
 subst ex
 obtain rfl:u=Value.ref a:=rx
 exact Rp hu I2 g ry λs3 I3=>⟨.bl ov.isSome,H2,I3,rfl,q2⟩)
theorem Uk (hu:X.A.units+1 < cLine) (hi:JE X i ty) (ho:JE X o td):JC X .NotIn i o (kW ty td):=.of (by
 have hi:=hi.to
 have ho:=ho.to
 intro pins s σ H Q I h
 refine jc (hi pins s σ H _ I h) λiv s1 ⟨y,H1,I1,ry,q1⟩=>jc (ho pins s1 σ H1 _ I1 q1) λu s2 ⟨x,H2,I2,rx,a,ov,ex,g,q2⟩=>?_
 subst ex
 obtain rfl:u=Value.ref a:=rx
 exact xa hu I2 g ry λs3 I3=>⟨.bl (!ov.isSome),H2,I3,rfl,q2⟩)
theorem jZ (hu:X.A.units+1 < cLine) (ho:JE X o td) (hi:JE X i ty) (hv:JE X value tv) (hs:swapsWith value (some (.Subscript o i pos')) pos.line X.env=pure false):JS X (.Assign [.Subscript o i pos'] value pos) (xE td ty tv):=.of (by
 have ho:=ho.to
 have hi:=hi.to
 have hv:=hv.to
 intro pins s σ H D I h
 refine wpAny_Assign_Subscript (jc (hv pins s σ H _ I h) λr s1 ⟨v,H1,I1,rv,q1⟩=>jc (ho pins s1 σ H1 _ I1 q1) λu s2 ⟨x,H2,I2,rx,q2⟩=>jc (hi pins s2 σ H2 _ I2 q2) λiv s3 ⟨y,H3,I3,ry,a,H4,ex,g,q3⟩=>?_) hs
 subst ex
 obtain rfl:u=Value.ref a:=rx
 exact Uw hu I3 g ry rv λs4 I4=>⟨σ,H4,I4,q3⟩)
end
theorem XH {P:Program} {w:World} {H:Hp} (h:Heap) (hb:sysModules < h.objs.size):qA P w H (h.push {cls:=.type "dict",data:=.dict #[]}) h.objs.size (.dK []):=
 ⟨Nat.zero_le _,beq_eq_false_iff_ne.mpr (Ne.symm (Nat.ne_of_lt hb)),[],.nil,Heap.DictOf.new h⟩
theorem kr {P:Program} {w:World} {H:Hp} (h:Heap) (hb:sysModules < h.objs.size):qA P w H (h.push {cls:=.type "dict",data:=.dict #[]}) h.objs.size (.dT []):=
 ⟨Nat.zero_le _,beq_eq_false_iff_ne.mpr (Ne.symm (Nat.ne_of_lt hb)),[],.nil,_,#[],0,Heap.get?_push_size _ rfl,⟨rfl,rfl,rfl⟩,rfl,rfl,List.nodup_nil⟩
def UM:TE:=λ_ H Q=>∀p,H p=none->Q (.ref p) (upd H p (.dK []))
def UL:TE:=λ_ H Q=>∀p,H p=none->Q (.ref p) (upd H p (.dT []))
section
variable {X:Cx} {pos:Pos}
theorem vj:PE X (.Dict [] [] pos) UM:=λpins s σ H Q I h=>
 wpAny_Dict_empty ⟨.ref s.heap.objs.size,_,I.laid (a:=s.heap.objs.size) (o:=.dK []) (t':=s.toks) (λ_ _ q=>Heap.get?_push_of_some _ q) (Nat.le_refl _) (XH s.heap I.big),rfl,h _ (I.hok.fresh (Nat.le_refl _))⟩
theorem Jg:JE X (.Dict [] [] pos) UM:=.of (vj)
theorem vi:PE X (.Dict [] [] pos) UL:=λpins s σ H Q I h=>
 wpAny_Dict_empty ⟨.ref s.heap.objs.size,_,I.laid (a:=s.heap.objs.size) (o:=.dT []) (t':=s.toks) (λ_ _ q=>Heap.get?_push_of_some _ q) (Nat.le_refl _) (kr s.heap I.big),rfl,h _ (I.hok.fresh (Nat.le_refl _))⟩
theorem vT:JE X (.Dict [] [] pos) UL:=.of (vi)
end
def Wc:List (TE×TE)->St->Hp->(List (V×V)->Hp->Prop)->Prop
 | [],_,H,Q=>Q [] H
 | (tk,tv)::r,σ,H,Q=>tk σ H λx H1=>tv σ H1 λy H2=>Wc r σ H2 λps H3=>Q ((x,y)::ps) H3
abbrev VV:List (V×V)->List (Value×Value)->Prop:=Paired λp q=>qH p.1 q.1/\qH p.2 q.2
def KG (X:Cx) (pos:Pos) (keys:List (Option Expr)) (values:List Expr) (trs:List (TE×TE)):Prop:=
 ∀(pins:List (Addr×Obj)) (s:Shared) (σ:St) (H:Hp) (Q:List (V×V)->Hp->Prop),qu X pins σ H s->Wc trs σ H Q->
   wpAny (model X.prog X.w) X.A (evalPairs (pairTrees keys values X.env pos)) (λvs s'=>∃ps H',qu X pins σ H' s'/\VV ps vs/\Q ps H') X.xe s
@[irreducible] def kK (X:Cx) (pos:Pos) (keys:List (Option Expr)) (values:List Expr) (trs:List (TE×TE)):Prop:=KG X pos keys values trs
theorem kK.of {X:Cx} {pos:Pos} {keys:List (Option Expr)} {values:List Expr} {trs:List (TE×TE)} (h:KG X pos keys values trs):kK X pos keys values trs:=by unfold kK;exact h
theorem kK.to {X:Cx} {pos:Pos} {keys:List (Option Expr)} {values:List Expr} {trs:List (TE×TE)} (h:kK X pos keys values trs):KG X pos keys values trs:=by unfold kK at h;exact h
theorem yO {X:Cx} {pos:Pos}:kK X pos [] [] []:=.of (by
 exact λpins s σ H Q I h=>pairTrees_nil_walk ⟨[],H,I,.nil,h⟩)
theorem vf {X:Cx} {pos:Pos} {k v:Expr} {ks:List (Option Expr)} {vs:List Expr} {tk tv:TE} {trs:List (TE×TE)} (hk:PE X k tk) (hv:PE X v tv) (hr:KG X pos ks vs trs):
   KG X pos (some k::ks) (v::vs) ((tk,tv)::trs):=λpins s σ H Q I h=>
 pairTrees_cons_walk (jc (hk pins s σ H _ I h) λu s1 ⟨x,H1,I1,rx,q1⟩=>jc (hv pins s1 σ H1 _ I1 q1) λw2 s2 ⟨y,H2,I2,ry,q2⟩=>
   jc (hr pins s2 σ H2 _ I2 q2) λws s3 ⟨ps,H3,I3,rel,q3⟩=>⟨(x,y)::ps,H3,I3,.cons ⟨rx,ry⟩ rel,q3⟩)
theorem zF {X:Cx} {pos:Pos} {k v:Expr} {ks:List (Option Expr)} {vs:List Expr} {tk tv:TE} {trs:List (TE×TE)} (hk:JE X k tk) (hv:JE X v tv) (hr:kK X pos ks vs trs):kK X pos (some k::ks) (v::vs) ((tk,tv)::trs):=.of (vf hk.to hv.to hr.to)
def Qa (kvs more:List (qS×V)):List (qS×V):=more.foldl (λacc kv=>jD acc kv.1 kv.2) kvs
theorem KV.merge:∀{more:List (qS×V)} {rs:List (qS×Value)} {kvs:List (qS×V)} {vs:List (qS×Value)},KV more rs->KV kvs vs->KV (Qa kvs more) (merged vs rs):=by
 intro more rs kvs vs r
 unfold KV at r
 induction r generalizing kvs vs with
 | nil=>intro q;exact q
 | @cons p q ps qs h t ih=>
   intro r0
   have e:KV (jD kvs p.1 p.2) (stored vs q.1 q.2):=by
     have:=r0.put p.1 h.2
     rw[<-h.1];exact this
   exact ih e
theorem Qw:∀(more kvs:List (qS×V)),(Qa kvs more).length<=kvs.length+more.length
 | [],kvs=>by show kvs.length<=kvs.length+0;omega
 | p::r,kvs=>by
   have h1:=Qw r (jD kvs p.1 p.2)
   have h2:=Jf kvs p.1 p.2
   show (Qa (jD kvs p.1 p.2) r).length<=_
   rw[List.length_cons];omega
theorem zO {P:Program} {w:World}:∀{kvs:List (qS×V)} {ws:List (Value×Value)},VV (kvs.map λkv=>(kV kv.1,kv.2)) ws->∃rs,Carries (jh P w) ws rs/\KV kvs rs
 | [],_,r=>by rw[List.map_nil]at r;cases r;exact⟨[],True.intro,.nil⟩
 | p::kvs,_,r=>by
   rw[List.map_cons]at r
   cases r with
   | @cons a b as bs h t=>
     obtain⟨rs,c,q⟩:=zO (P:=P) (w:=w) t
     obtain⟨b1,b2⟩:=b
     exact⟨(p.1,b2)::rs,⟨zE h.1,rfl,c⟩,.cons ⟨rfl,h.2⟩ q⟩
def uE (trs:List (TE×TE)):TE:=λσ H Q=>∀p,H p=none->Wc trs σ (upd H p (.dK [])) λps H2=>H2 p=some (.dK [])/\∃kvs:List (qS×V),ps=kvs.map (λkv=>(kV kv.1,kv.2))/\kvs.length<=15/\Q (.ref p) (upd H2 p (.dK (Qa [] kvs)))
theorem yT {X:Cx} {pos:Pos} {keys:List (Option Expr)} {values:List Expr} {trs:List (TE×TE)} (h:kK X pos keys values trs) (hall:keys.all (·.isSome)=true) (hl:keys.length=values.length) (h0:keys≠[]) (h15:keys.length<=15):JE X (.Dict keys values pos) (uE trs):=.of (by
 have h:=h.to
 intro pins s σ H Q I q
 have hn:=I.hok.fresh (Nat.le_refl s.heap.objs.size)
 have I1:=I.laid (a:=s.heap.objs.size) (o:=.dK []) (h':=s.heap.push {cls:=.type "dict",data:=.dict #[]}) (t':=s.toks) (λ_ _ q=>Heap.get?_push_of_some _ q) (Nat.le_refl _) (XH s.heap I.big)
 refine wpAny_Dict_walk (knd:=jh X.prog X.w) hall hl h0 h15 (jc (h pins _ σ _ _ I1 (q _ hn)) λws s2 ⟨ps,H2,I2,rel,e,kvs,ep,lk,q2⟩=>?_)
 subst ep
 obtain⟨rs,c,rk⟩:=zO (P:=X.prog) (w:=X.w) rel
 obtain⟨z,hd,vs0,r0,dd⟩:=xN I2.hok e
 cases r0
 refine⟨rs,c,dd,λh' dd' hs=>⟨.ref s.heap.objs.size,_,?_,rfl,q2⟩⟩
 have hz:(Qa [] kvs).length<=sizeLine:=by
   have h1:=Qw kvs []
   rw[List.length_nil]at h1
   rw[sizeLine_eq];omega
 have he:∃q,h'.get? s.heap.objs.size=some q:=let ⟨q,_,_,hq,_⟩:=dd';⟨q,hq⟩
 exact YV I2 (by rw[e];exact True.intro) hs he (WH hz hd (rk.merge .nil) dd'))
structure M1 (X:Cx) (o:Expr) (m:Str) (apos:Pos) (e:Expr) (cpos:Pos):Prop where
 base:attributeBase o m X.env (eval o X.env)=eval o X.env
 few:((backTo cpos (starEach [e] X.env)).all (λx=> !x.1)&&(backToKw cpos (keywordEach [] X.env)).all (λx=>x.1.isSome)
   &&decide (([e]:List Expr).length+([]:List Keyword).length+(if ([]:List Keyword).isEmpty then 0 else 1) < 30))=true
 line:(apos.endLine==cpos.line)=true
 trees:backTo cpos (starEach [e] X.env)=[(false,eval e X.env)]
structure M2 (X:Cx) (o:Expr) (m:Str) (apos:Pos) (e f:Expr) (cpos:Pos):Prop where
 base:attributeBase o m X.env (eval o X.env)=eval o X.env
 few:((backTo cpos (starEach [e,f] X.env)).all (λx=> !x.1)&&(backToKw cpos (keywordEach [] X.env)).all (λx=>x.1.isSome)
   &&decide (([e,f]:List Expr).length+([]:List Keyword).length+(if ([]:List Keyword).isEmpty then 0 else 1) < 30))=true
 line:(apos.endLine==cpos.line)=true
 trees:backTo cpos (starEach [e,f] X.env)=[(false,eval e X.env),(false,eval f X.env)]
section
variable {X:Cx} {pins:List (Addr×Obj)} {σ:St} {H:Hp} {s:Shared} {a:Addr} {y d:V} {u r:Value} {o:Option V} {A:Around} {E:Value->Shared->Prop}
end
section
variable {X:Cx} {o e f:Expr} {apos cpos:Pos} {td ty tx:TE}
end
section
variable {X:Cx} {pins:List (Addr×Obj)} {σ:St} {H:Hp} {s:Shared} {a:Addr} {kvs:List (qS×V)} {A:Around} {E:Value->Shared->Prop}
end
section
variable {X:Cx} {pins:List (Addr×Obj)} {σ:St} {H:Hp} {s:Shared} {a:Addr} {y:V} {u:Value} {A:Around} {E:Value->Shared->Prop}
end
end L2
namespace Att
open PySem PySem.W PySem.Calls PyProof.Rows
theorem ZT {P:Params} {h:Heap}:∀(ns:List Int) (vs:List Value),WellAll P h vs (ns.map WData.int)->IntsAre vs ns:=by
 intro ns
 induction ns with
 | nil=>
   intro vs w
   rw[List.map_nil]at w
   cases w
   exact .nil
 | cons n ns ih=>
   intro vs w
   rw[List.map_cons]at w
   cases w with
   | cons a b=>
     cases a
     exact .cons _ _ (ih _ b)
theorem VO {l:OpenLaw} {n:Nat} (hn:l.most=some n) {P:Params} {h:Heap} {args:List WData} {vals:List Value}
   (hpre:l.row.toRowW.claim.pre args=true) (hwl:WellAll P h vals args):
   ∃a vs ns,vals=[Value.ref a]/\args=[WData.list (ns.map WData.int)]/\h.get? a=some {cls:=.type "list",data:=.seq vs.toArray}/\IntsAre vs ns/\ns.length<=n:=by
 have hsh:WShape.hasAll [] args [.list .int]=true:=(pre_splitW hpre).1
 have hc:l.pre.holds [] {args:=args}=true:=(pre_splitW hpre).2
 obtain⟨d,r,rfl,h1,h2⟩:=hasAllW_cons hsh
 obtain rfl:=hasAllW_nil h2
 obtain⟨xs,rfl,h3⟩:=hasW_list h1
 obtain⟨ns,rfl⟩:=items_int h3
 have hlen:ns.length<=n:=by
   unfold OpenLaw.pre at hc
   have h4:(WTm.not (.lt (.lit (.int (n:Int))) (.len (.arg 0)))).holds [] {args:=[.list (ns.map .int)]}=true:=by
     have h4:=(holds_andW hc).1
     rw[hn]at h4
     exact h4
   have h5:=condW_of h4 (w_not (w_lt w_lit (w_len_list (w_arg rfl))))
   rw[List.length_map]at h5
   refine Nat.le_of_not_lt λq=>?_
   have q':(n:Int) < ((ns.length:Nat):Int):=by omega
   first
     | (rw[decide_eq_true q']at h5;exact absurd h5 (by decide))
     | (simp at h5;omega)
 cases hwl with
 | cons w1 w2=>
   cases w2
   cases w1 with
   | list ho hall=>exact⟨_,_,ns,rfl,rfl,ho,ZT ns _ hall,hlen⟩
theorem VY (l:OpenLaw) (args:List WData):l.row.toRowW.claim.post args (.bool true) args=true:=
 postW_of (r:=l.row.toRowW) (X:=(true==true))
   (show WShape.has [] (.bool true) .bool=true by first | rfl | decide | simp [WShape.has,WShape.arms,WShape.armsAll])
   (show (WTm.eq .res (.lit (.bool true))).value [] {args:=args,res:=some (.bool true),after:=args}=some (.bool (true==true)) from w_eq_bool (w_res rfl) w_lit) rfl
theorem attach_call {l:OpenLaw} {n:Nat} {q:Program} {loose:List Str} {XP:(Str->Option Value)->Heap->Prop} {YP:World->Heap->Prop} {d:DefRec}
   (hn:l.most=some n) (hdf:d.params.defaults=[])
   (call:∀(w:World) (s₀ s₁:Shared) (mg mb:Str->Option Value) (fa:Addr) (o:Obj) (pm cd doc:Value) (a:Addr) (vs:List Value) (ns:List Int),
     Ground q loose [] XP w s₀ mg mb s₁.heap->YP w s₁.heap->
     s₁.heap.get? fa=some o->o.data=.func (docDef d.name d.params d.body d.scope pm cd doc)->s₁.heap.CodeRec cd d.name->mg d.name=some (.ref fa)->
     s₁.heap.get? a=some {cls:=.type "list",data:=.seq vs.toArray}->IntsAre vs ns->ns.length<=n->s₁.gens=#[]->
     codeAny (model l.prog w) callerA (.call (.ref fa) ⟨[.ref a],[]⟩) (λr s'=>r=.ok (.ret (.bool true))/\OldK s₁.heap s'.heap/\s'.os=s₁.os/\AllBare s'.gens) s₁):
   WalkO q loose XP YP l.row.toRowW d [] (λf vs=>PySem.call f vs):=by
 intro w s₀ s₁ mg mb G Y fa o pm cd doc dV kV ho hd hcd hD hmg hg args vals as hpre hlay hrd hwl hlo
 obtain rfl:dV=.none:=Dflts.none hD hdf
 obtain rfl:kV=.none:=Dflts.noKw hD
 obtain⟨a,vs,ns,rfl,rfl,hobj,hints,hlen⟩:=VO hn hpre hwl
 refine enter_call (codeAny_mono (call w s₀ s₁ mg mb fa o pm cd doc a vs ns G Y ho (fd_plain hd) hcd hmg hobj hints hlen hg) λr s' hq=>?_)
 obtain⟨rfl,h2,h3,h4⟩:=hq
 exact⟨.inl ⟨.bool true,.bool true,[],rfl,λ_=>rfl,.bool true,VY l _,λ_=>⟨List.Pairwise.nil,λ_ hm=>(nomatch hm)⟩⟩,h2,h3,h4⟩
section
variable {prog:Program} {w:World} {A:Around} {E:Value->Shared->Prop} {s:Shared} {K:Frag}
end
end Att
namespace L2
open PySem PySem.Spec PyProof.Rows
theorem z5:∀{vs:List Value} {ns:List Int},IntsAre vs ns->qB (ns.map V.int) vs
 | _,_,.nil=>.nil
 | _,_,.cons n t h=>.cons ⟨t,rfl⟩ (z5 h)
def Ru (H:Hp):Prop:=∀b,H b=none\/∃o xs,H b=some (.frz o (.lst xs))
end L2
namespace L2
open PySem PySem.Spec PyProof.Rows
end L2
namespace L2
open PySem PySem.Spec PyProof.Rows
def Z7 (s:Stmt) (j:Nat):Stmt:=match s with
 | .ClassDef _ _ _ body _ _ _ _ _ _ _=>body.getD j (.Pass ⟨0,0,0,0⟩)
 | _=>.Pass ⟨0,0,0,0⟩
def jK (s:Stmt):Arguments:=match s with
 | .FunctionDef _ a _ _ _ _ _ _ _ _=>a
 | _=>{posonlyargs:=[],args:=[],vararg:=none,kwonlyargs:=[],kw_defaults:=[],kwarg:=none,defaults:=[]}
def ji (s:Stmt):List Stmt:=match s with
 | .FunctionDef _ _ b _ _ _ _ _ _ _=>b
 | _=>[]
def qi (s:Stmt):Scope:=match s with
 | .FunctionDef _ _ _ _ _ _ sc _ _ _=>sc
 | _=>{kind:=.function,names:=[],isGenerator:=false,isCoroutine:=false}
abbrev jd:ZJ:=λ_ _ _ _ _ _=>False
abbrev E0:XK:=λ_ _ _=>False
theorem zq {X:Cx}:jw jd X E0:=λ_ _ _ _ _ _ _ h=>h.elim
structure j3 (K:PySem.W.Frag) (x qual:Str) (st:Stmt) (f:Addr) (fd:FuncData):Prop where
 ex:∃(oc:Value) (od:Option Addr) (kV doc pm:Value) (an:Option Addr) (cdv ct:Value) (osl:Array (Option Value)),
   fd=PySem.W.fnOf x qual (jK st) (ji st) (qi st) .none kV doc pm an cdv ct/\K.lookup f=some ⟨oc,od,.func fd,osl⟩/\PySem.W.codeIn K cdv qual=true
 kp:PySem.W.keepIn K (.ref f)=true
section
variable {P:Program} {w:World} {K:PySem.W.Frag} {mg:Str->Option Value} {base:Heap}
theorem j3.ok {x qual:Str} {st:Stmt} {f:Addr} {fd:FuncData} {N ps:List Str} {k:Nat} {sp:Sp} (F:j3 K x qual st f fd) (S:qy N ps (qi st)) (len:∀vs H Q E,sp vs H Q E->vs.length=ps.length)
   (hbody:∀(cdv:Value) (A:Around) (outer:List Env) (s:Shared) (H:Hp) (vs:List V) (Q:VK) (E:XK),ja k (A.deeper (envOfC qual (qi st) s.heap.objs.size f cdv))->sp vs H Q E->
     ∃t,kI (jF jd P w K mg base N qual (qi st) f cdv A outer s H E).nox (ji st) t/\t {nx:=λ_ H'=>Q .non H',rt:=Q} (jO N vs) H):qv P w K mg base jd (k+1) f fd ps sp:=by
 obtain⟨oc,od,kV,doc,pm,an,cdv,ct,osl,rfl,lk,hcd⟩:=F.ex
 refine xL lk hcd S len λA outer s H vs Q E hr hsp=>?_
 obtain⟨t,h,q⟩:=hbody cdv A outer s H vs Q E hr hsp
 exact⟨t,h.nox,q⟩
theorem j3.okJ {x qual:Str} {st:Stmt} {f:Addr} {fd:FuncData} {N ps:List Str} {k:Nat} {sp:Sp} (F:j3 K x qual st f fd) (S:qy N ps (qi st)) (len:∀vs H Q E,sp vs H Q E->vs.length=ps.length)
   (hbody:∀(cdv:Value) (A:Around) (outer:List Env) (s:Shared) (H:Hp) (vs:List V) (Q:VK) (E:XK),ja k (A.deeper (envOfC qual (qi st) s.heap.objs.size f cdv))->sp vs H Q E->
     ∃t,zZ (jF jd P w K mg base N qual (qi st) f cdv A outer s H E).nox (ji st) t/\t {nx:=λ_ H'=>Q .non H',rt:=Q} (jO N vs) H):qv P w K mg base jd (k+1) f fd ps sp:=
 F.ok S len λcdv A outer s H vs Q E hr h=>let ⟨t,a,b⟩:=hbody cdv A outer s H vs Q E hr h;⟨t,a.to,b⟩
theorem j3.binds {x qual:Str} {st:Stmt} {f:Addr} {fd:FuncData} {ps:List Str} (F:j3 K x qual st f fd)
   (h:∀(kV doc pm:Value) (an:Option Addr) (cdv ct:Value) (us:List Value),us.length=ps.length->bindArgs (PySem.W.fnOf x qual (jK st) (ji st) (qi st) .none kV doc pm an cdv ct) ⟨us,[]⟩=pure (ps.zip us)):jz K fd ps []:=by
 obtain⟨oc,od,kV,doc,pm,an,cdv,ct,osl,rfl,lk,hcd⟩:=F.ex
 exact .all (h kV doc pm an cdv ct)
theorem YS {x qual:Str} {st:Stmt} {f:Addr} {oc:Value} {od an:Option Addr} {osl:Array (Option Value)} {kV doc pm cdv ct:Value} (l:K.lookup f=some ⟨oc,od,.func (PySem.W.fnOf x qual (jK st) (ji st) (qi st) .none kV doc pm an cdv ct),osl⟩)
   (c:PySem.W.codeIn K cdv qual=true) (k:PySem.W.keepIn K (.ref f)=true):j3 K x qual st f (PySem.W.fnOf x qual (jK st) (ji st) (qi st) .none kV doc pm an cdv ct):=⟨⟨oc,od,kV,doc,pm,an,cdv,ct,osl,rfl,l,c⟩,k⟩
end
theorem zI {A:Around} {k:Nat} (hr:ja k A):A.units+1 < cLine:=Nat.lt_of_le_of_lt (Nat.add_le_add_left (by decide:1<=64) _) hr.units
theorem qt {n:Nat} (h:n<=1000):n < sizeLine:=Nat.lt_of_le_of_lt h (by decide)
section
variable {X:Cx}
theorem pv (i:Nat) {x:Str} {pos:Pos} (hN:X.N[i]?=some x:=by rfl) (hv:ut X.env.scope x:=by first | exact Or.inl rfl | exact Or.inr (Or.inl rfl) | exact Or.inr (Or.inr rfl)) (hd:(x==("__debug__":Str))=false:=by decide)
   (hcd:(x==("__classdict__":Str))=false:=by decide):PE X (.Name x pos) (jH i):=vg hN hv hd hcd
theorem jv (i:Nat) {x:Str} {pos:Pos} (hN:X.N[i]?=some x:=by rfl) (hv:ut X.env.scope x:=by first | exact Or.inl rfl | exact Or.inr (Or.inl rfl) | exact Or.inr (Or.inr rfl)) (hd:(x==("__debug__":Str))=false:=by decide) (hcd:(x==("__classdict__":Str))=false:=by decide):JE X (.Name x pos) (jH i):=.of (pv i hN hv hd hcd)
end
theorem jI {A B:Prop} (h:B):if false=true then A else B:=by
 rw[if_neg Bool.false_ne_true]
 exact h
theorem Q6 {A B:Prop} (h:A):if true=true then A else B:=by
 rw[if_pos rfl]
 exact h
theorem zX {c A B:Prop} [Decidable c] (h1:c->A) (h2:¬c->B):if c then A else B:=by
 by_cases h:c
 . rw[if_pos h]
   exact h1 h
 . rw[if_neg h]
   exact h2 h
def Same (H H':Hp):Prop:=∀b o,H b=some o->H' b=some o
theorem Same.refl (H:Hp):Same H H:=λ_ _ h=>h
theorem Same.trans {H H1 H2:Hp} (a:Same H H1) (b:Same H1 H2):Same H H2:=λc o h=>b c o (a c o h)
section
variable {X:Cx}
end
section
variable {κ:Type} [DecidableEq κ]
theorem kM {kvs:List (κ×V)} {k:κ} {v:V} (h:jy kvs k=some v):k∈kvs.map (·.1):=by
 have q:(kvs.any λkv=>decide (kv.1=k))=true:=by
   rw[QC,h]
   all_goals rfl
 obtain⟨p,hp,e⟩:=List.any_eq_true.mp q
 exact List.mem_map.mpr ⟨p,hp,of_decide_eq_true e⟩
end
end L2
set_option Elab.async false
set_option linter.all false
set_option maxRecDepth 100000
set_option maxHeartbeats 4000000
namespace L2
open PySem PySem.Spec PyProof.Rows
theorem Vu:(NameKind.free==NameKind.free)=true:=rfl
def qT (env:Env):List (Str×NameKind)->List (Str×Addr)->List (Str×Addr)
 | [],cs=>cs
 | (n,k)::r,cs=>qT env r (if k==.free then (n,(env.cells.lookup n).getD 0)::cs else cs)
theorem Qy {scope:Scope} {env:Env} (h:∀x∈scope.names,x.2=.free->∃c,env.cells.lookup x.1=some c):closureFor scope env=pure (qT env scope.names []):=by
 simp only[closureFor]
 have key:∀(l:List (Str×NameKind)) (cs:List (Str×Addr)),(∀x∈l,x.2=.free->∃c,env.cells.lookup x.1=some c)->
     (forIn l cs λx (r:List (Str×Addr))=>if (x.snd==NameKind.free)=true then (do let a <-cellOf env x.fst;pure (ForInStep.yield ((x.fst,a)::r)):Sem (ForInStep (List (Str×Addr)))) else pure (ForInStep.yield r))=(pure (qT env l cs):Sem (List (Str×Addr))):=by
   intro l
   induction l with
   | nil=>intro cs _;rfl
   | cons x l ih=>
     intro cs hl
     obtain⟨n,k⟩:=x
     have ihl:=λcs'=>ih cs' λy hy=>hl y (List.mem_cons_of_mem _ hy)
     rw[List.forIn_cons]
     by_cases hk:k=.free
     . subst hk
       obtain⟨c,hc⟩:=hl (n,.free) List.mem_cons_self rfl
       have e1:cellOf env n=pure c:=by
         unfold cellOf
         have hc':env.cells.lookup n=some c:=hc
         rw[hc']
       have e2:qT env ((n,NameKind.free)::l) cs=qT env l ((n,c)::cs):=by
         have hc':env.cells.lookup n=some c:=hc
         show qT env l (if (NameKind.free==NameKind.free)=true then (n,(env.cells.lookup n).getD 0)::cs else cs)=_
         rw[if_pos Vu,hc']
         rfl
       rw[e2,<-ihl]
       dsimp only
       rw[if_pos Vu,e1]
       rfl
     . have hb:(k==NameKind.free)=false:=by simpa using hk
       have e2:qT env ((n,k)::l) cs=qT env l cs:=by
         show qT env l (if (k==NameKind.free)=true then (n,(env.cells.lookup n).getD 0)::cs else cs)=_
         rw[if_neg (by rw[hb];decide)]
       rw[e2,<-ihl]
       dsimp only
       rw[if_neg (by rw[hb];decide)]
       rfl
 rw[key scope.names [] h]
 rfl
theorem j5 {env:Env} {x:Str} {c:Addr}:∀{l:List (Str×NameKind)} {cs:List (Str×Addr)},(qT env l cs).lookup x=some c->cs.lookup x=some c\/((x,NameKind.free)∈l/\c=(env.cells.lookup x).getD 0)
 | [],cs,h=>.inl h
 | (n,k)::r,cs,h=>by
   rcases j5 (l:=r) h with h | ⟨h1,h2⟩
   . by_cases hk:k=.free
     . subst hk
       rw[if_pos Vu,List.lookup_cons]at h
       by_cases hx:x=n
       . subst hx
         simp only[beq_self_eq_true]at h
         exact .inr ⟨List.mem_cons_self,(Option.some.inj h).symm⟩
       . have hb:(x==n)=false:=beq_eq_false_iff_ne.mpr hx
         simp only[hb]at h
         exact .inl h
     . have hb:(k==NameKind.free)=false:=by simpa using hk
       rw[if_neg (by rw[hb];decide)]at h
       exact .inl h
   . exact .inr ⟨List.mem_cons_of_mem _ h1,h2⟩
theorem QX {env:Env} {x:Str}:∀{l:List (Str×NameKind)} {cs:List (Str×Addr)},((x,NameKind.free)∈l\/∃c,cs.lookup x=some c)->∃c,(qT env l cs).lookup x=some c
 | [],cs,h=>by
   rcases h with h | h
   . cases h
   . exact h
 | (n,k)::r,cs,h=>by
   show ∃c,(qT env r (if (k==NameKind.free)=true then (n,(env.cells.lookup n).getD 0)::cs else cs)).lookup x=some c
   refine QX (l:=r) ?_
   rcases h with h | ⟨c,h⟩
   . rcases List.mem_cons.mp h with h | h
     . cases h
       refine .inr ⟨(env.cells.lookup x).getD 0,?_⟩
       rw[if_pos Vu,List.lookup_cons]
       simp only[beq_self_eq_true]
     . exact .inl h
   . refine .inr ?_
     by_cases hk:(k==NameKind.free)=true
     . rw[if_pos hk,List.lookup_cons]
       cases hx:x==n with
       | true=>exact⟨_,rfl⟩
       | false=>exact⟨c,h⟩
     . rw[if_neg hk]
       exact⟨c,h⟩
theorem Zc {scope:Scope} {env:Env} {x:Str} {k:NameKind}:∀{names:List (Str×NameKind)},names.lookup x=some k->
   ∃k',(names.map λ(n,k)=>if (k==NameKind.free&&env.scope.kind==.function&&env.kindOf n==some .cell) then (n,NameKind.cell) else (n,k)).lookup x=some k'/\(k'=k\/(k=.free/\k'=.cell))
 | [],h=>by simp at h
 | (n,j)::r,h=>by
   rw[List.map_cons]
   by_cases hx:x=n
   . subst hx
     rw[List.lookup_cons]at h
     simp only[beq_self_eq_true]at h
     cases h
     dsimp only
     by_cases hc:(k==NameKind.free&&env.scope.kind==.function&&env.kindOf x==some .cell)=true
     . rw[if_pos hc,List.lookup_cons]
       simp only[beq_self_eq_true]
       refine⟨_,rfl,.inr ⟨?_,rfl⟩⟩
       simp only[Bool.and_eq_true,beq_iff_eq]at hc
       exact hc.1.1
     . rw[if_neg hc,List.lookup_cons]
       simp only[beq_self_eq_true]
       exact⟨_,rfl,.inl rfl⟩
   . have hb:(x==n)=false:=beq_eq_false_iff_ne.mpr hx
     rw[List.lookup_cons]at h
     simp only[hb]at h
     obtain⟨k',h1,h2⟩:=Zc (env:=env) (scope:=scope) h
     refine⟨k',?_,h2⟩
     dsimp only
     by_cases hc:(j==NameKind.free&&env.scope.kind==.function&&env.kindOf n==some .cell)=true
     . rw[if_pos hc,List.lookup_cons]
       simp only[hb]
       exact h1
     . rw[if_neg hc,List.lookup_cons]
       simp only[hb]
       exact h1
theorem mem_of_lookup {x:Str} {k:NameKind}:∀{l:List (Str×NameKind)},l.lookup x=some k->(x,k)∈l
 | [],h=>by simp at h
 | (n,j)::r,h=>by
   rw[List.lookup_cons]at h
   by_cases hx:x=n
   . subst hx
     simp only[beq_self_eq_true]at h
     cases h
     exact List.mem_cons_self
   . have hb:(x==n)=false:=beq_eq_false_iff_ne.mpr hx
     simp only[hb]at h
     exact List.mem_cons_of_mem _ (mem_of_lookup h)
theorem Jy {f:Str×NameKind->Str×NameKind} (hf:∀p,(f p).1=p.1) {x:Str} {k:NameKind}:∀{l:List (Str×NameKind)},(l.map f).lookup x=some k->∃j,l.lookup x=some j/\(f (x,j)).2=k
 | [],h=>by simp at h
 | (n,j)::r,h=>by
   rw[List.map_cons]at h
   have e:f (n,j)=(n,(f (n,j)).2):=by
     have:=hf (n,j)
     exact Prod.ext this rfl
   rw[e,List.lookup_cons]at h
   rw[List.lookup_cons]
   by_cases hx:x=n
   . subst hx
     simp only[beq_self_eq_true]at h ⊢
     exact⟨j,rfl,Option.some.inj h⟩
   . have hb:(x==n)=false:=beq_eq_false_iff_ne.mpr hx
     simp only[hb]at h ⊢
     exact Jy hf h
def ZQ (X:Cx) (N:List Str) (scope:Scope) (C:Addr) (s₂:Shared) (H₂:Hp) (fp:List Addr) (pins:List (Addr×Obj)):Cx where
 prog:=X.prog
 w:=X.w
 K:=X.K
 mg:=X.mg
 base:=X.base
 A:=X.A
 N:=N
 s₀:=s₂
 H₀:=H₂
 env:=compEnvC scope (qT X.env scope.names []) C X.env
 outer:=X.stack
 stack:=X.stack
 ex:=fp
 fn:=λ_=>false
 calm:=X.calm
 pn:=X.pn++pins
 xe:=λ_ _=>False
def xT (ix:List (Option Nat)) (σ:St):St:=ix.map λo=>o.bind λj=>(σ[j]?).join
def yU (N' N:List Str) (sc esc:Scope) (ix:List (Option Nat)):Bool:=
 ix.length==N'.length&&(ix.zip N').all λp=>match p.1 with
   | none=>true
   | some j=>N[j]?==some p.2&&sc.names.lookup p.2==some .free&&(esc.names.lookup p.2==some .cell || esc.names.lookup p.2==some .free)
structure jN (X:Cx) (N':List Str) (ix:List (Option Nat)) (scope:Scope):Prop where
 kind:scope.kind=.function
 nocell:(scope.names.all λx=>x.2 != .cell)=true
 locs:(scope.names.all λx=>x.2 != .local || scope.names.lookup x.1==some .local)=true
 frees:(scope.names.all λx=>x.2 != .free || (X.env.scope.names.lookup x.1==some .cell || X.env.scope.names.lookup x.1==some .free))=true
 ixs:yU N' X.N scope X.env.scope ix=true
section
variable {X:Cx} {N':List Str} {ix:List (Option Nat)} {scope:Scope} {pins:List (Addr×Obj)} {σ:St} {H:Hp} {s:Shared}
theorem jN.cellH (S:jN X N' ix scope):∀y∈scope.names,y.2≠.cell:=λy hy e=>by
 have:=List.all_eq_true.mp S.nocell y hy
 rw[e]at this
 exact absurd this (by decide)
theorem jN.locH (S:jN X N' ix scope):∀y∈scope.names,y.2=.local->scope.names.lookup y.1=some .local:=λy hy e=>by
 have:=List.all_eq_true.mp S.locs y hy
 simp only[e,Bool.or_eq_true,bne_self_eq_false,Bool.false_eq_true,false_or,beq_iff_eq]at this
 exact this
theorem jN.freeH (S:jN X N' ix scope) (ok:X.Ok):∀x∈scope.names,x.2=.free->∃c,X.env.cells.lookup x.1=some c:=λx hx e=>by
 have:=List.all_eq_true.mp S.frees x hx
 simp only[e,Bool.or_eq_true,bne_self_eq_false,Bool.false_eq_true,false_or,beq_iff_eq]at this
 exact ok.has x.1 this
theorem jN.clook (S:jN X N' ix scope) (ok:X.Ok) {x:Str} {c:Addr} (h:(qT X.env scope.names []).lookup x=some c):X.env.cells.lookup x=some c/\(x,NameKind.free)∈scope.names:=by
 rcases j5 h with h | ⟨h1,h2⟩
 . simp at h
 . obtain⟨c',hc'⟩:=S.freeH ok _ h1 rfl
   have hc2:X.env.cells.lookup x=some c':=hc'
   rw[hc2]at h2
   subst h2
   exact⟨hc2,h1⟩
theorem KB {C:Addr} {fp:List Addr} (S:jN X N' ix scope) (I:qu X pins σ H s) (hC:s.heap.objs.size<=C) (hf:∀b∈fp,JM X pins H b) (hfo:∀b∈fp,b < s.heap.objs.size):(ZQ X N' scope C s H fp pins).Ok where
 mod:=I.ok.mod
 kind:=S.kind
 glob:=I.ok.glob
 blt:=I.ok.blt
 above:=hC
 inj:=λx y c h1 h2=>I.ok.inj x y c (S.clook I.ok h1).1 (S.clook I.ok h2).1
 has:=λx hx=>by
   have hx':(relabel scope X.env).names.lookup x=some .cell\/(relabel scope X.env).names.lookup x=some .free:=hx
   refine QX (.inl ?_)
   have go:∀k,(k=NameKind.cell\/k=.free)->(relabel scope X.env).names.lookup x=some k->(x,NameKind.free)∈scope.names:=λk hk h=>by
     obtain⟨j,h1,h2⟩:=Jy (f:=λ(n,k)=>if (k==NameKind.free&&X.env.scope.kind==.function&&X.env.kindOf n==some .cell) then (n,NameKind.cell) else (n,k)) (λp=>by dsimp only;split<;>rfl) h
     have hm:=mem_of_lookup h1
     by_cases hj:j=.free
     . subst hj;exact hm
     . exfalso
       have hb:(j==NameKind.free)=false:=by simpa using hj
       dsimp only at h2
       rw[hb,Bool.false_and,Bool.false_and,if_neg (by decide)]at h2
       have h2':j=k:=h2
       rcases hk with e | e
       . exact S.cellH _ hm (h2'.trans e)
       . exact hj (h2'.trans e)
   rcases hx' with h | h
   . exact go _ (.inl rfl) h
   . exact go _ (.inr rfl) h
 cab:=λx c h _=>by cases h
 hd:=I.ok.hd
 frames:=I.ok.frames
 stk:=.inl rfl
 exf:=λb hb=>⟨Nat.ne_of_lt (Nat.lt_of_lt_of_le (hfo b hb) hC),λx c h=>(hf b hb).2.2.2.2.1 x c (S.clook I.ok h).1⟩
 bs:=I.bs
 bsz:=Nat.le_trans I.ok.bsz I.sz
 noex:=λb o e hb=>by
   rcases(hf b hb).2.2.2.1 with h | h
   . exact I.ok.noex b o e h
   . exact absurd (Nat.lt_of_lt_of_le (Heap.lt_size e) (Nat.le_trans I.ok.bsz h)) (Nat.lt_irrefl _)
 exfs:=λb hb hm=>by
   rcases List.mem_cons.mp (I.stkSub b hm) with e | e
   . exact(hf b hb).2.1 e
   . exact(hf b hb).2.2.1 e
 funs:=I.stack
 frf:=I.stkFree
theorem Uo {C D:Addr} {fp:List Addr} {h₁:Heap} {m:Str->Option Value} {t':Nat} {n₀:Nat} (S:jN X N' ix scope) (I:qu X pins σ H s) (hf:∀b∈fp,JM X pins H b) (hfo:∀b∈fp,b < s.heap.objs.size)
   (hD:s.heap.objs.size<=D) (hC:s.heap.objs.size<=C) (hDC:D≠C) (kp:∀b o,s.heap.get? b=some o->h₁.get? b=some o) (hn:h₁.Ns C m) (hl:h₁.get? D=some {cls:=.type "list",data:=.seq #[] n₀}):
   qu (ZQ X N' scope C s H fp pins) [] (xT ix σ) (upd H D (.lst [])) {s with heap:=h₁,toks:=t'} where
 ok:=KB S I hC hf hfo
 os:=rfl
 bare:=I.bare
 base:=Un.laid kp hD (I.hok.fresh hD)
 loc:=by
   refine⟨m,hn,λi x v e1 e2 e3=>?_⟩
   have hix:=S.ixs
   unfold yU at hix
   rw[Bool.and_eq_true]at hix
   obtain⟨hlen,hall⟩:=hix
   have hlen':ix.length=N'.length:=by simpa using hlen
   have e1':N'[i]?=some x:=e1
   unfold xT at e2
   rw[List.getElem?_map]at e2
   cases ho:ix[i]? with
   | none=>rw[ho]at e2;cases e2
   | some o=>
     rw[ho]at e2
     cases o with
     | none=>cases e2
     | some j=>
       have e2':(σ[j]?).join=some v:=Option.some.inj e2
       have hz:(ix.zip N')[i]?=some (some j,x):=by
         rw[List.getElem?_zip_eq_some]
         exact⟨ho,e1'⟩
       have hm:=List.all_eq_true.mp hall _ (List.mem_of_getElem? hz)
       dsimp only at hm
       simp only[Bool.and_eq_true,beq_iff_eq,Bool.or_eq_true]at hm
       obtain⟨⟨hN,hfr⟩,hk⟩:=hm
       have e2'':σ[j]?=some (some v):=by
         cases q:σ[j]? with
         | none=>rw[q]at e2';cases e2'
         | some z=>
           rw[q]at e2'
           have:z=some v:=e2'
           rw[this]
       obtain⟨mX,hnX,hlX⟩:=I.loc
       have hvis:ut X.env.scope x:=by
         rcases hk with h | h
         . exact .inr (.inl h)
         . exact .inr (.inr h)
       obtain⟨u,ru,lu⟩:=hlX j x v hN e2'' hvis
       refine⟨u,ru,?_⟩
       rcases lu with ⟨hk',_⟩ | ⟨_,c,hc,hcell⟩
       . exfalso
         have hk'':X.env.scope.names.lookup x=some .local:=hk'
         rcases hk with h | h<;>rw[h]at hk''<;>cases hk''
       . right
         obtain⟨k',r1,r2⟩:=Zc (scope:=scope) (env:=X.env) hfr
         refine⟨?_,?_⟩
         . rcases r2 with z | ⟨_,z⟩
           . right;rw[z]at r1;exact r1
           . left;rw[z]at r1;exact r1
         . obtain⟨c',hc'⟩:=QX (env:=X.env) (cs:=[]) (.inl (mem_of_lookup hfr))
           have:=(S.clook I.ok hc').1
           rw[hc]at this
           cases this
           obtain⟨o,ho',hd⟩:=hcell
           exact⟨c,hc',o,kp _ _ ho',hd⟩
 cell:=λx c h=>by
   obtain⟨v,o,ho,hd⟩:=I.cell x c (S.clook I.ok h).1
   exact⟨v,o,kp _ _ ho,hd⟩
 free:=by
   show (upd H D _) C=none
   rw[qe (Ne.symm hDC)]
   exact I.hok.fresh hC
 freeC:=λx c h=>by
   have h1:=(S.clook I.ok h).1
   obtain⟨v,o,ho,hd⟩:=I.cell x c h1
   rw[qe (Nat.ne_of_lt (Nat.lt_of_lt_of_le (Heap.lt_size ho) hD))]
   exact(I.freeC x c h1).imp id λz=>⟨rfl,z.2⟩
 pin:=λp hp=>by
   have hp':p∈X.pn++pins:=by
     have:p∈(X.pn++pins)++[]:=hp
     simpa using this
   obtain⟨e,n,ne,nf,d⟩:=I.pin p hp'
   have hlt:=Heap.lt_size e
   refine⟨kp _ _ e,?_,Nat.ne_of_lt (Nat.lt_of_lt_of_le hlt hC),λhm=>?_,d⟩
   . rw[qe (Nat.ne_of_lt (Nat.lt_of_lt_of_le hlt hD))];exact n
   . rcases List.mem_cons.mp (I.stkSub p.1 hm) with z | z
     . exact ne z
     . exact nf z
 hok:=I.hok.laid kp hD ⟨Nat.zero_le _,[],n₀,.nil,hl⟩
 len:=by
   have hix:=S.ixs
   unfold yU at hix
   rw[Bool.and_eq_true]at hix
   have:ix.length=N'.length:=by simpa using hix.1
   show (xT ix σ).length=N'.length
   unfold xT
   rw[List.length_map,this]
theorem kb {C:Addr} {fp:List Addr} {σ':St} {H':Hp} {s':Shared} {pl:List (Addr×Obj)} (I:qu X pins σ H s) (hf:∀b∈fp,JM X pins H b) (J:qu (ZQ X N' scope C s H fp pins) pl σ' H' s'):qu X pins σ H' s':=
 I.call' (ch:=fp) J.os J.base J.hok J.bare λb hb=>⟨(hf b hb).2.2.2.1,(hf b hb).2.1,(hf b hb).2.2.2.2.1,(hf b hb).2.2.2.2.2⟩
theorem ka {C:Addr} {H':Hp} {s₀ s':Shared} {h':Heap} (I₀:qu X pins σ H s₀) (I:qu X pins σ H' s') (hC:s₀.heap.objs.size<=C) (hn:H' C=none) (sb:Heap.SameBut C s'.heap h'):qu X pins σ H' {s' with heap:=h'}:=by
 refine I.turned (it:=C) (t':=s'.toks) (λb o hb e=>(sb.2 b hb).trans e) hn (Nat.ne_of_gt (Nat.lt_of_lt_of_le I₀.lt hC)) (.inr (Nat.le_trans I₀.sz hC)) (λx c e z=>?_) λp hp z=>?_
 . obtain⟨v,q⟩:=I₀.cell x c e
   exact absurd (Nat.lt_of_lt_of_le q.lt (by rw[z];exact hC)) (Nat.lt_irrefl _)
 . exact absurd (Nat.lt_of_lt_of_le (Heap.lt_size (I₀.pin p hp).1) (by rw[z];exact hC)) (Nat.lt_irrefl _)
end
def uu (X:Cx) (ifs:List Expr) (t:TT):Prop:=
 ∀(pins:List (Addr×Obj)) (s:Shared) (σ:St) (H:Hp) (Q:Bool->Hp->Prop),qu X pins σ H s->t σ H Q->
   wpAny (model X.prog X.w) X.A (forIn ifs true λc r=>if r=true then do let ok <-isTrue c X.env (eval c X.env);pure (ForInStep.yield ok) else pure (ForInStep.yield r)) (TP X pins σ Q) X.xe s
@[irreducible] def kJ (X:Cx) (ifs:List Expr) (t:TT):Prop:=uu X ifs t
theorem kJ.of {X:Cx} {ifs:List Expr} {t:TT} (h:uu X ifs t):kJ X ifs t:=by unfold kJ;exact h
theorem kJ.to {X:Cx} {ifs:List Expr} {t:TT} (h:kJ X ifs t):uu X ifs t:=by unfold kJ at h;exact h
def K0:TT:=λ_ H Q=>Q true H
theorem Qf {X:Cx}:kJ X [] K0:=.of (by
 exact λ_ _ _ H _ I h=>wpAny_tests_nil ⟨H,I,h⟩)
theorem Z3 {X:Cx} {c:Expr} {t:TT} (h:JT X c t):kJ X [c] t:=.of (by
 have h:=h.to
 exact λpins s σ H Q I hw=>wpAny_tests_one (h pins s σ H Q I hw))
section
variable {prog:Program} {w:World} {A:Around} {R:Result->Shared->Prop} {s:Shared}
theorem YW {elt target iter:Expr} {ifs:List Expr} {scope:Scope} {pos:Pos} {it acc:Value} {env:Env} (I:Nat->Shared->Prop)
   (turn:∀n s,I n s->wpAny (model prog w) A (pyNext it) (λr s₁=>match r with
     | none=>R (.ok .next) s₁
     | some v=>wpAny (model prog w) A (letOwnedTupleGo target it v) (λ_ s₁'=>wpAny (model prog w) A (assign target env v) (λ_ s₂=>
         wpAny (model prog w) A (forIn ifs true λc r=>if r=true then do let ok <-isTrue c env (eval c env);pure (ForInStep.yield ok) else pure (ForInStep.yield r)) (λok s₃=>
           if ok=true then wpAny (model prog w) A (eval elt env) (λx s₄=>
             wpAny (model prog w) A (call (.builtin "list.append") [acc,x]) (λ_ s₅=>∃m,m < n/\I m s₅) (λ_ _=>False) s₄) (λ_ _=>False) s₃
           else ∃m,m < n/\I m s₃) (λ_ _=>False) s₂) (λ_ _=>False) s₁') (λ_ _=>False) s₁) (λ_ _=>False) s)
   (n:Nat) (h:I n s):
   codeAny (model prog w) A (.compLoop (.ListComp elt [⟨target,iter,ifs,0⟩] scope pos) 0 it acc env) R s:=by
 refine codeAny_loop rfl I (λn s hI=>?_) n h
 show wpAny _ A ((compTurn (.ListComp elt [⟨target,iter,ifs,0⟩] scope pos) 0 it acc env).onRaise (λx=>do noteFrame x env;theTreesLotGoes x)) _ _ s
 refine wpAny_noted ?_
 rw[compTurn_list]
 refine wpAny_bind (wpAny_standAt (wpAny_bind (wpAny_mono (turn n s hI) (λr s₁ h₁=>?_) λ_ _ h'=>h'.elim)))
 cases r with
 | none=>exact wpAny_pure h₁
 | some v=>
   refine wpAny_bind (wpAny_mono h₁ (λ_ s₁' h₁'=>?_) λ_ _ h'=>h'.elim)
   refine wpAny_bind (wpAny_mono h₁' (λ_ s₂ h₂=>wpAny_bind (wpAny_mono h₂ (λok s₃ h₃=>?_) λ_ _ h'=>h'.elim)) λ_ _ h'=>h'.elim)
   cases ok with
   | false=>exact wpAny_pure ⟨rfl,h₃⟩
   | true=>
     exact wpAny_bind (wpAny_bind (wpAny_mono h₃ (λx s₄ h₄=>wpAny_bind (wpAny_mono h₄ (λ_ s₅ h₅=>wpAny_pure (wpAny_pure ⟨rfl,h₅⟩)) λ_ _ h'=>h'.elim)) λ_ _ h'=>h'.elim))
end
def Xc (J:It) (g:TG) (tt:TT) (te:TE) (D:Addr) (σ:St) (H:Hp) (Q:Hp->Prop):Prop:=
 ∃W:Nat->Nat->St->Hp->Prop,(∃m,W 0 m σ (upd H D (.lst [])))/\∀i m σ' H',W i m σ' H'->
   (J.stop i H'/\Q H')\/(J.go i H'/\∃N:St->Hp->Prop,(∀σ2 H2,N σ2 H2->∃m',m' < m/\W (i+1) m' σ2 H2)/\∀x H2,J.yld i H' x H2->g x σ' H2 λσ2 H3=>tt σ2 H3 λb H4=>
     if b=true then te σ2 H4 λv H5=>∃ys,H5 D=some (.lst ys)/\ys.length < sizeLine/\N σ2 (upd H5 D (.lst (ys++[v]))) else N σ2 H4)
def KR (wi:TI) (ix:List (Option Nat)) (g:TG) (tt:TT) (te:TE):TE:=λσ H Q=>wi σ H λJ H1=>∀D,H1 D=none->Xc J g tt te D (xT ix σ) H1 λH2=>Q (.ref D) H2
section
variable {X:Cx} {N':List Str} {ix:List (Option Nat)} {scope:Scope}
theorem Yq {elt iter target:Expr} {ifs:List Expr} {pos:Pos} {g:TG} {tt:TT} {te:TE} {pins:List (Addr×Obj)} {σ:St} {H:Hp} {s:Shared} {it:Addr} {fp:List Addr} {tn:Nat->Heap->Prop} {J:It} {E:Value->Shared->Prop}
   {RR:Value->Addr->Result->Shared->Prop} {Q:Addr->Hp->Prop}
   (hc:X.calm=true) (S:jN X N' ix scope) (I:qu X pins σ H s) (T:WL X.prog X.w X.K target J fp it tn) (st:tn 0 s.heap) (hf:∀b∈fp,JM X pins H b)
   (hb:∀C s₂ H₂ fp pins,PG (ZQ X N' scope C s₂ H₂ fp pins) target g/\uu (ZQ X N' scope C s₂ H₂ fp pins) ifs tt/\PE (ZQ X N' scope C s₂ H₂ fp pins) elt te)
   (h:∀D,H D=none->Xc J g tt te D (xT ix σ) H (Q D))
   (fin:∀(D C:Addr) (H':Hp) (s':Shared) (m:Str->Option Value),s.heap.objs.size<=C->H' C=none->s'.heap.Ns C m->qu X pins σ H' s'->Q D H'->RR (.ref D) C (.ok .next) s'):
   wpAny (model X.prog X.w) X.A (newList []) (λacc s₃=>wpAny (model X.prog X.w) X.A (newFunctionEnv scope X.env.globals (qT X.env scope.names []) [] X.env.qual none .none (some X.env)) (λcenv s₄=>
     codeAny (model X.prog X.w) X.A (.compStart (.ListComp elt [⟨target,iter,ifs,0⟩] scope pos) 0 (.ref it) acc {cenv with scope:=relabel scope X.env}) (RR acc cenv.locals) s₄) E s₃) E s:=by
 have hfo:∀b∈fp,b < s.heap.objs.size:=λb hb=>by
   obtain⟨o,e,_⟩:=T.obj _ _ st b hb
   exact Heap.lt_size e
 refine wpAny_newObj_type (wpAny_newFunctionEnv S.cellH (by intro y hy;simp at hy) (λh₁ hns₁ hsb₁=>?_) S.kind)
 dsimp only at hns₁ hsb₁ ⊢
 generalize hH2:s.heap.push {cls:=.type "list",dict:=none,data:=.seq ([]:List Value).toArray}=H2 at hns₁ hsb₁ ⊢
 have hC:H2.objs.size=s.heap.objs.size+1:=by rw[<-hH2,Heap.size_push]
 have hDC:s.heap.objs.size≠H2.objs.size:=by rw[hC];exact Nat.ne_of_lt (Nat.lt_succ_self _)
 have hCle:s.heap.objs.size<=H2.objs.size:=by rw[hC];exact Nat.le_succ _
 have below:∀b,b < s.heap.objs.size->b≠H2.objs.size:=λb hb=>by rw[hC];exact Nat.ne_of_lt (Nat.lt_succ_of_lt hb)
 have old:∀b o,s.heap.get? b=some o->h₁.get? b=some o:=λb o e=>hsb₁.extBut b o (below b (Heap.lt_size e)) (Heap.get?_push_of_some _ (hH2▸Heap.get?_push_of_some _ e))
 have hacc:h₁.get? s.heap.objs.size=some {cls:=.type "list",data:=.seq #[] 0}:=hsb₁.extBut _ _ hDC (Heap.get?_push_of_some _ (hH2▸Heap.get?_push_size _ rfl))
 obtain⟨W,⟨m0,w0⟩,turn⟩:=h s.heap.objs.size (I.hok.fresh (Nat.le_refl _))
 have I1:qu (ZQ X N' scope H2.objs.size s H fp pins) [] (xT ix σ) (upd H s.heap.objs.size (.lst [])) {s with heap:=h₁,toks:=s.toks+([]:List (Str×Value)).length}:=
   Uo S I hf hfo (Nat.le_refl _) hCle hDC old hns₁ hacc
 have st₁:tn 0 h₁:=T.keep _ _ _ st λb hb o e=>old b o e
 have fpn:∀b∈fp,(upd H s.heap.objs.size (.lst [])) b=none:=λb hb=>by
   rw[qe (Nat.ne_of_lt (hfo b hb))]
   exact(hf b hb).1
 obtain⟨hg,htt,hte⟩:=hb H2.objs.size s H fp pins
 have okY:=I1.ok
 have stat:∀{H':Hp},(∀b∈fp,H' b=none)->∀b∈fp,JM (ZQ X N' scope H2.objs.size s H fp pins) [] H' b:=λ{H'} hn b hb=>
   ⟨hn b hb,(okY.exf b hb).1,okY.exfs b hb,.inl hb,(okY.exf b hb).2,λp hp=>by
     have hp':p∈X.pn++pins:=by
       have:p∈(X.pn++pins)++[]:=hp
       simpa using this
     exact(hf b hb).2.2.2.2.2 p hp'⟩
 have loop:codeAny (model X.prog X.w) X.A (.compLoop (.ListComp elt [⟨target,iter,ifs,0⟩] scope pos) 0 (.ref it) (.ref s.heap.objs.size) (compEnvC scope (qT X.env scope.names []) H2.objs.size X.env))
     (RR (.ref s.heap.objs.size) H2.objs.size) {s with heap:=h₁,toks:=s.toks+([]:List (Str×Value)).length}:=by
   refine YW (λn s'=>∃i σ' H',qu (ZQ X N' scope H2.objs.size s H fp pins) [] σ' H' s'/\tn i s'.heap/\(∀b∈fp,H' b=none)/\W i n σ' H') ?_ m0 ⟨0,_,_,I1,st₁,fpn,w0⟩
   rintro n s3 ⟨i,σ3,H3,I3,st3,fr3,w3⟩
   rcases turn i n σ3 H3 w3 with ⟨stop,qn⟩ | ⟨go,NN,hNN,step⟩
   . refine jc (T.done (ZQ X N' scope H2.objs.size s H fp pins) rfl rfl rfl hc i [] s3 σ3 H3 _ I3 (stat fr3) st3 stop) λr s4 ⟨hr,I4⟩=>?_
     subst hr
     obtain⟨mm,hnm,_⟩:=I4.loc
     exact fin _ _ H3 s4 mm hCle I4.free hnm (kb I hf I4) qn
   . refine jc (T.item (ZQ X N' scope H2.objs.size s H fp pins) rfl rfl rfl hc i [] s3 σ3 H3 _ I3 (stat fr3) st3 go) λr s4 ⟨u,hr,h4⟩=>?_
     subst hr
     refine jc h4 λ_ s5 ⟨x,H5,I5,r5,y5,st5,fr5⟩=>?_
     have I5':=I5.pinned (stat fr5) (T.obj _ _ st5)
     refine jc (hg _ s5 σ3 H5 x u _ I5' r5 (step x H5 y5)) λ_ s6 ⟨σ6,H6,I6,q6⟩=>?_
     refine jc (htt _ s6 σ6 H6 _ I6 q6) λok s7 ⟨H7,I7,q7⟩=>?_
     have again:∀{σ8:St} {H8:Hp} {s8:Shared},qu (ZQ X N' scope H2.objs.size s H fp pins) ([]++zp fp s5.heap) σ8 H8 s8->NN σ8 H8->
         ∃m,m < n/\∃i σ' H',qu (ZQ X N' scope H2.objs.size s H fp pins) [] σ' H' s8/\tn i s8.heap/\(∀b∈fp,H' b=none)/\W i m σ' H':=λ{σ8 H8 s8} I8 n8=>by
       obtain⟨m',hm,w8⟩:=hNN σ8 H8 n8
       refine⟨m',hm,i+1,σ8,H8,I8.unpinned,T.keep _ _ _ st5 λb hb o e=>(I8.pin (b,o) (List.mem_append_right _ (List.mem_append_right _ (QR hb e)))).1,λb hb=>?_,w8⟩
       obtain⟨o,e,d⟩:=T.obj _ _ st5 b hb
       exact(I8.pin (b,o) (List.mem_append_right _ (List.mem_append_right _ (QR hb e)))).2.1
     cases ok with
     | false=>
       rw[if_neg Bool.false_ne_true]at q7 ⊢
       exact again I7 q7
     | true=>
       rw[if_pos rfl]at q7 ⊢
       refine jc (hte _ s7 σ6 H7 _ I7 q7) λv s8 ⟨y,H8,I8,r8,q8⟩=>?_
       obtain⟨ys,hy,hz,q8⟩:=q8
       refine jc (jA (X:=ZQ X N' scope H2.objs.size s H fp pins) _ s8 σ6 H8 (.ref s.heap.objs.size) [y] (.ref s.heap.objs.size) [v] (λ_ H9=>NN σ6 H9) I8 rfl (.cons r8 .nil) ⟨_,ys,y,rfl,rfl,hy,hz,q8⟩) λ_ s9 ⟨_,H9,I9,_,q9⟩=>?_
       exact again I9 q9
 exact codeAny_compStart_list loop (T.self X.A 0 _ _ _ st₁ loop)
theorem u6 {elt iter target:Expr} {ifs:List Expr} {pos:Pos} {wi:TI} {g:TG} {tt:TT} {te:TE} (hc:X.calm=true) (S:jN X N' ix scope) (hi:PI X target iter wi)
   (hb:∀C s₂ H₂ fp pins,PG (ZQ X N' scope C s₂ H₂ fp pins) target g/\uu (ZQ X N' scope C s₂ H₂ fp pins) ifs tt/\PE (ZQ X N' scope C s₂ H₂ fp pins) elt te)
   (hs:∀x,foldedSetIterable iter X.env x=pure x:=by intro _;rfl):PE X (.ListComp elt [⟨target,iter,ifs,0⟩] scope pos) (KR wi ix g tt te):=by
 intro pins s σ H Q I h
 rw[eval_ListComp]
 refine wpAny_comprehension_free (use:=none) rfl hs (Qy (S.freeH I.ok)) S.kind S.locH ?_
 refine jc (hi pins s σ H _ I h) λxv s1 h1=>jc h1 λitv s2 h2=>?_
 obtain⟨it,fp,tn,J,H2,e,I2,T,st2,f2,q2⟩:=h2
 subst e
 refine Yq (RR:=λacc C=>compPost (model X.prog X.w) X.A X.xe none (EP X pins σ Q) acc C) (Q:=λD H'=>Q (.ref D) H') hc S I2 T st2 f2 hb q2 ?_
 intro D C H' s' m hC hn hm I' q
 exact⟨m,hm,λh' sb=>⟨.ref D,H',ka I2 I' hC hn sb,rfl,q⟩⟩
theorem Zh {elt iter target:Expr} {ifs:List Expr} {pos:Pos} {wi:TI} {g:TG} {tt:TT} {te:TE} (hc:X.calm=true) (S:jN X N' ix scope) (hi:JI X target iter wi) (hb:∀C s₂ H₂ fp pins,JG (ZQ X N' scope C s₂ H₂ fp pins) target g/\kJ (ZQ X N' scope C s₂ H₂ fp pins) ifs tt/\JE (ZQ X N' scope C s₂ H₂ fp pins) elt te) (hs:∀x,foldedSetIterable iter X.env x=pure x:=by intro _;rfl):JE X (.ListComp elt [⟨target,iter,ifs,0⟩] scope pos) (KR wi ix g tt te):=.of (u6 hc S hi.to (λC s₂ H₂ fp pins=>⟨(hb C s₂ H₂ fp pins).1.to,(hb C s₂ H₂ fp pins).2.1.to,(hb C s₂ H₂ fp pins).2.2.to⟩) hs)
theorem ve {i:Nat} {x:Str} {elt iter target:Expr} {ifs:List Expr} {pos spos px:Pos} {wi:TI} {g:TG} {tt:TT} {te:TE} (hN:X.N.Nodup) (hxi:X.N[i]?=some x) (hx:uy X.env.scope x) (hc:X.calm=true) (S:jN X N' ix scope) (hi:PI X target iter wi)
   (hb:∀C s₂ H₂ fp pins,PG (ZQ X N' scope C s₂ H₂ fp pins) target g/\uu (ZQ X N' scope C s₂ H₂ fp pins) ifs tt/\PE (ZQ X N' scope C s₂ H₂ fp pins) elt te)
   (hsw:swapsWith (.ListComp elt [⟨target,iter,ifs,0⟩] scope pos) (some (.Name x px)) spos.line X.env=pure true:=by rfl)
   (hs:∀x,foldedSetIterable iter X.env x=pure x:=by intro _;rfl) (hf:X.fn x=true\/X.env.scope.names.lookup x=some .local:=by first | exact .inl rfl | exact .inr rfl | assumption):
   PS X (.Assign [.Name x px] (.ListComp elt [⟨target,iter,ifs,0⟩] scope pos) spos) (UO (KR wi ix g tt te) (QH i)):=by
 intro pins s σ H D I h
 rw[exec_Assign_Name_used _ _ _ _ hsw]
 refine wpAny_bind (wpAny_standAt (wpAny_bind ?_))
 show wpAny _ X.A (do let _ <-comprehension (.ListComp elt [⟨target,iter,ifs,0⟩] scope pos) scope X.env _ (newList []) false (eval iter X.env) (some (assign (.Name x px) X.env))) _ _ s
 refine wpAny_bind (jc (wpAny_comprehension_free (use:=some (assign (.Name x px) X.env)) (Q:=λ_ s'=>SP X pins D .next s') rfl hs (Qy (S.freeH I.ok)) S.kind S.locH ?_) λ_ s' hq=>wpAny_pure (wpAny_pure hq))
 refine jc (hi pins s σ H _ I h) λxv s1 h1=>jc h1 λitv s2 h2=>?_
 obtain⟨it,fp,tn,J,H2,e,I2,T,st2,f2,q2⟩:=h2
 subst e
 refine Yq (RR:=λacc C=>compPost (model X.prog X.w) X.A X.xe (some (assign (.Name x px) X.env)) (λ_ s'=>SP X pins D .next s') acc C) (Q:=λD' H'=>QH i (.ref D') σ H' D.nx) hc S I2 T st2 f2 hb q2 ?_
 intro D' C H' s' m hC hn hm I' q
 show wpAny _ X.A (assign (.Name x px) X.env (.ref D')) _ _ _
 refine wpAny_assign_Name (Zu I' hN hxi hx (v:=.ref D') rfl (λs'' I'' hch=>?_) hf)
 obtain⟨a,sb,ha⟩:=hch
 have hCa:C≠a:=by
   rcases ha with z | z
   . rw[z];exact Nat.ne_of_gt (Nat.lt_of_lt_of_le I2.lt hC)
   . intro e
     obtain⟨v,qc⟩:=I2.cell x a z
     exact absurd (Nat.lt_of_lt_of_le qc.lt (by rw[<-e];exact hC)) (Nat.lt_irrefl _)
 refine⟨m,hm.sameBut sb hCa,λh' sb'=>?_⟩
 refine⟨_,H',?_,q⟩
 refine I''.turned (it:=C) (t':=s''.toks) (λb o hb e=>(sb'.2 b hb).trans e) hn (Nat.ne_of_gt (Nat.lt_of_lt_of_le I2.lt hC)) (.inr (Nat.le_trans I2.sz hC)) (λy c e z=>?_) λp hp z=>?_
 . obtain⟨v,qc⟩:=I2.cell y c e
   exact absurd (Nat.lt_of_lt_of_le qc.lt (by rw[z];exact hC)) (Nat.lt_irrefl _)
 . exact absurd (Nat.lt_of_lt_of_le (Heap.lt_size (I2.pin p hp).1) (by rw[z];exact hC)) (Nat.lt_irrefl _)
theorem Zg {i:Nat} {x:Str} {elt iter target:Expr} {ifs:List Expr} {pos spos px:Pos} {wi:TI} {g:TG} {tt:TT} {te:TE} (hN:X.N.Nodup) (hxi:X.N[i]?=some x) (hx:uy X.env.scope x) (hc:X.calm=true) (S:jN X N' ix scope) (hi:JI X target iter wi) (hb:∀C s₂ H₂ fp pins,JG (ZQ X N' scope C s₂ H₂ fp pins) target g/\kJ (ZQ X N' scope C s₂ H₂ fp pins) ifs tt/\JE (ZQ X N' scope C s₂ H₂ fp pins) elt te) (hsw:swapsWith (.ListComp elt [⟨target,iter,ifs,0⟩] scope pos) (some (.Name x px)) spos.line X.env=pure true:=by rfl) (hs:∀x,foldedSetIterable iter X.env x=pure x:=by intro _;rfl) (hf:X.fn x=true\/X.env.scope.names.lookup x=some .local:=by first | exact .inl rfl | exact .inr rfl | assumption):JS X (.Assign [.Name x px] (.ListComp elt [⟨target,iter,ifs,0⟩] scope pos) spos) (UO (KR wi ix g tt te) (QH i)):=.of (ve hN hxi hx hc S hi.to (λC s₂ H₂ fp pins=>⟨(hb C s₂ H₂ fp pins).1.to,(hb C s₂ H₂ fp pins).2.1.to,(hb C s₂ H₂ fp pins).2.2.to⟩) hsw hs hf)
end
end L2
set_option Elab.async false
set_option linter.all false
set_option maxRecDepth 100000
set_option maxHeartbeats 4000000
namespace L2
open PySem PySem.Spec PyProof.Rows
def Ry (x:Str):It:=⟨λi _=>i < x.cps.size,λi H v H'=>H'=H/\∃c,x.cps[i]?=some c/\v=.str ⟨#[c]⟩,λi _=>i=x.cps.size⟩
theorem Xa {P:Program} {w:World} {K:PySem.W.Frag} {tg:Expr} (it:Addr) (x:Str) (t:Tok) (ty:String)
   (hn:["enumerate","zip","dict_itemiterator","dict_reverseitemiterator","odict_iterator","itertools.zip_longest","itertools.pairwise"].contains ty=false)
   (hW:∀A:Around,A.handled=none->Walks P w A it [it] [it] x.cps.size (SignAt x) (λi h=>h.IsStrIter it ty x t i))
   (hself:∀(A:Around) (i:Nat) (s:Shared) (Q:Value->Shared->Prop) (E:Value->Shared->Prop),s.heap.IsStrIter it ty x t i->Q (.ref it) s->wpAny (model P w) A (pyIter (.ref it)) Q E s):
   WL P w K tg (Ry x) [it] it (λi h=>h.IsStrIter it ty x t i) where
 mem:=by simp
 obj:=λi h st b hb=>by
   have e:b=it:=by simpa using hb
   subst e
   obtain⟨o,e,c,d⟩:=st
   exact⟨o,e,λv z=>by rw[d]at z;cases z⟩
 keep:=λi h h' st k=>let ⟨o,e,r⟩:=st;⟨o,k it (by simp) o e,r⟩
 item:=by
   intro X hP hw hK hc i pins s σ H E I hf st hg
   subst hP hw hK
   obtain⟨f0,f1,f2,f3,f4,f5⟩:=hf it (by simp)
   refine(hW X.A (I.ok.hd hc)).item i s _ _ hg st λv h' tk hv st' kk=>?_
   obtain⟨c,u,hcu,rfl⟩:=hv
   have I1:qu X pins σ H {s with heap:=h',toks:=tk}:=I.turned (λb o hb e=>kk b o (by simpa using hb) e) f0 f1 f3 f4 f5
   obtain⟨o,e,c1,d1⟩:=id st'
   exact⟨_,rfl,Vs (s:={s with heap:=h',toks:=tk}) e c1 d1 hn ⟨.str ⟨#[c]⟩,H,I1,⟨u,rfl⟩,⟨rfl,c,hcu,rfl⟩,st',λb hb=>(hf b hb).1⟩⟩
 done:=by
   intro X hP hw hK hc i pins s σ H E I hf st hg
   subst hP hw hK
   obtain⟨f0,f1,f2,f3,f4,f5⟩:=hf it (by simp)
   have hi:i=x.cps.size:=hg
   subst hi
   exact(hW X.A (I.ok.hd hc)).done s _ _ st λh' tk kk=>⟨rfl,I.turned (λb o hb e=>kk b o (by simpa using hb) e) f0 f1 f3 f4 f5⟩
 self:=hself
def Rn (tl:TE):TI:=λσ H R=>tl σ H λx H1=>∃y,x=.str y/\R (Ry y) H1
theorem wT {X:Cx} {tg l:Expr} {tl:TE} (hl:JE X l tl):JI X tg l (Rn tl):=.of (by
 have hl:=hl.to
 intro pins s σ H R I h
 refine jc (hl pins s σ H _ I h) λv s1 ⟨x,H1,I1,r1,q1⟩=>?_
 obtain⟨y,e,q⟩:=q1
 subst e
 obtain⟨t,rfl⟩:=r1
 have fp:∀b∈[s1.heap.objs.size],JM X pins H1 b:=λb hb=>by
   have e:b=s1.heap.objs.size:=by simpa using hb
   subst e
   exact I1.fpOk (Nat.le_refl _) (I1.hok.fresh (Nat.le_refl _))
 cases ha:y.cps.all (· < 128)
 . refine wpAny_pyIter_wide ha ?_
   exact⟨s1.heap.objs.size,[s1.heap.objs.size],_,_,H1,rfl,I1.kept (t':=s1.toks) λb o e=>Heap.get?_push_of_some _ e,
     Xa _ y t "str_iterator" (by decide) (λA hA=>Walks.strWide hA _ y t) (λA i s Q E st q=>wpAny_pyIter_striter_wide st q),⟨_,Heap.get?_push_size _ rfl,rfl,rfl⟩,fp,q⟩
 . refine wpAny_pyIter_ascii ha ?_
   exact⟨s1.heap.objs.size,[s1.heap.objs.size],_,_,H1,rfl,I1.kept (t':=s1.toks) λb o e=>Heap.get?_push_of_some _ e,
     Xa _ y t "str_ascii_iterator" (by decide) (λA hA=>Walks.strAscii hA _ y t) (λA i s Q E st q=>wpAny_pyIter_striter_ascii st q),⟨_,Heap.get?_push_size _ rfl,rfl,rfl⟩,fp,q⟩)
section
variable {K:PySem.W.Frag} {g:TG} {tt:TT} {te:TE} {D a:Addr} {σ:St} {H:Hp} {Q:Hp->Prop}
def XN (tt:TT) (te:TE) (D:Addr) (N:St->Hp->Prop):St->Hp->Prop:=λσ2 H3=>tt σ2 H3 λb H4=>
 if b=true then te σ2 H4 λv H5=>∃ys,H5 D=some (.lst ys)/\ys.length < sizeLine/\N σ2 (upd H5 D (.lst (ys++[v]))) else N σ2 H4
theorem Y0 {J:It} {n:Nat} (Pv:Nat->St->Hp->Prop) (h0:Pv 0 σ (upd H D (.lst [])))
   (go:∀i σ' H',i < n->Pv i σ' H'->J.go i H'/\∀x H2,J.yld i H' x H2->g x σ' H2 (XN tt te D (Pv (i+1)))) (stop:∀σ' H',Pv n σ' H'->J.stop n H'/\Q H'):Xc J g tt te D σ H Q:=by
 refine⟨λi m σ' H'=>m=n - i/\i<=n/\Pv i σ' H',⟨n,by simp,Nat.zero_le _,h0⟩,?_⟩
 rintro i m σ' H' ⟨rfl,hi,p⟩
 by_cases hlt:i < n
 . obtain⟨h1,h2⟩:=go i σ' H' hlt p
   exact .inr ⟨h1,Pv (i+1),λσ2 H2 p2=>⟨n - (i+1),by omega,rfl,hlt,p2⟩,h2⟩
 . have e:i=n:=by omega
   subst e
   exact .inl (stop σ' H' p)
theorem ZH {lo:Int} {n:Nat} (Pv:Nat->St->Hp->Prop) (h0:Pv 0 σ (upd H D (.lst [])))
   (hs:∀i σ' H',i < n->Pv i σ' H'->g (.int (lo+i)) σ' H' (XN tt te D (Pv (i+1)))) (hd:∀σ' H',Pv n σ' H'->Q H'):Xc (ui lo n) g tt te D σ H Q:=
 Y0 (n:=n) Pv h0 (λi σ' H' hi p=>⟨hi,λx H2 y=>by
   obtain⟨e,y⟩:=y
   subst e y
   exact hs i σ' H2 hi p⟩) λσ' H' p=>⟨Nat.le_refl _,hd σ' H' p⟩
theorem j6 {xs:List V} (Pv:Nat->St->Hp->Prop) (h0:Pv 0 σ (upd H D (.lst []))) (hl:∀i σ' H',i<=xs.length->Pv i σ' H'->SqL K H' a xs)
   (hs:∀i x σ' H',xs[i]?=some x->Pv i σ' H'->g x σ' H' (XN tt te D (Pv (i+1)))) (hd:∀σ' H',Pv xs.length σ' H'->Q H'):Xc (uj K a) g tt te D σ H Q:=
 Y0 (n:=xs.length) Pv h0 (λi σ' H' hi p=>⟨⟨xs,xs[i],hl i σ' H' (Nat.le_of_lt hi) p,by simp [hi]⟩,λx H2 y=>by
   obtain⟨e,y⟩:=y
   subst e
   exact hs i x σ' _ (y xs (hl i σ' _ (Nat.le_of_lt hi) p)) p⟩) λσ' H' p=>⟨⟨xs,hl _ σ' H' (Nat.le_refl _) p,Nat.le_refl _⟩,hd σ' H' p⟩
theorem xc {xs:List V} (Pv:Nat->St->Hp->Prop) (h0:Pv 0 σ (upd H D (.lst []))) (hl:∀i σ' H',i<=xs.length->Pv i σ' H'->SqT K H' a xs)
   (hs:∀i x σ' H',xs[i]?=some x->Pv i σ' H'->g x σ' H' (XN tt te D (Pv (i+1)))) (hd:∀σ' H',Pv xs.length σ' H'->Q H'):Xc (uz K a) g tt te D σ H Q:=
 Y0 (n:=xs.length) Pv h0 (λi σ' H' hi p=>⟨⟨xs,xs[i],hl i σ' H' (Nat.le_of_lt hi) p,by simp [hi]⟩,λx H2 y=>by
   obtain⟨e,y⟩:=y
   subst e
   exact hs i x σ' _ (y xs (hl i σ' _ (Nat.le_of_lt hi) p)) p⟩) λσ' H' p=>⟨⟨xs,hl _ σ' H' (Nat.le_refl _) p,Nat.le_refl _⟩,hd σ' H' p⟩
theorem xf {x:Str} (Pv:Nat->St->Hp->Prop) (h0:Pv 0 σ (upd H D (.lst [])))
   (hs:∀i c σ' H',x.cps[i]?=some c->Pv i σ' H'->g (.str ⟨#[c]⟩) σ' H' (XN tt te D (Pv (i+1)))) (hd:∀σ' H',Pv x.cps.size σ' H'->Q H'):Xc (Ry x) g tt te D σ H Q:=
 Y0 (n:=x.cps.size) Pv h0 (λi σ' H' hi p=>⟨hi,λv H2 y=>by
   obtain⟨e,c,hc,rfl⟩:=y
   subst e
   exact hs i c σ' _ hc p⟩) λσ' H' p=>⟨rfl,hd σ' H' p⟩
end
section
variable {X:Cx}
theorem zR:∀(bs:List Bool),(List.range bs.length).all (λi=>bs.getD i false)=bs.all id:=by
 intro bs
 induction bs with
 | nil=>rfl
 | cons b bs ih=>
   rw[List.length_cons,List.range_succ_eq_map,List.all_cons,List.all_map,List.all_cons]
   have:((λi=>(b::bs).getD i false) ∘ Nat.succ)=λi=>bs.getD i false:=by
     funext i
     simp [Function.comp]
   rw[this,ih]
   simp
theorem Yp (hc:X.calm=true):jU X (.builtin "all") (λxs H Q=>∃(p:Addr) (bs:List Bool),xs=[.ref p]/\SqL X.K H p (bs.map V.bl)/\Q (.bl (bs.all id)) H):=by
 intro pins s σ H xs us Q I r h
 obtain⟨p,bs,rfl,hq,q⟩:=h
 obtain⟨u,rfl,rx⟩:=Qj r
 cases rx
 obtain⟨its,rv,pl,hz⟩:=I.list hq
 have hlt:p < s.heap.objs.size:=by
   obtain⟨o,n,e,_⟩:=pl
   exact Heap.lt_size e
 have hn:its.toArray.size=bs.length:=by
   have:=rv.length
   rw[List.length_map]at this
   simp only[List.size_toArray]
   omega
 have hh:X.A.in1.handled=none:=I.ok.hd hc
 refine call_all_walk (wpAny_pyIter_list pl.isList ?_)
 refine⟨s.heap.objs.size,[s.heap.objs.size,p],[s.heap.objs.size],its.toArray.size,λi v=>its.toArray[i]?=some v,_,λi=>bs.getD i false,rfl,Walks.list hh s.heap.objs.size p (Nat.ne_of_lt hlt) its.toArray,
   ⟨⟨_,Heap.get?_push_size _ rfl,rfl,rfl⟩,pl.isList.at λo e=>Heap.get?_push_of_some _ e⟩,?_,λh' tk hk=>?_⟩
 . intro i v s' Q' E' hP hQ
   have hi:its[i]?=some v:=by simpa using hP
   have hb:∃b,bs[i]?=some b/\v=Value.bool b:=by
     cases e:bs[i]? with
     | none=>
       exfalso
       have h1:(bs.map V.bl)[i]?=none:=by rw[List.getElem?_map,e];rfl
       rw[qB.none_of rv h1]at hi
       cases hi
     | some b=>
       have h1:(bs.map V.bl)[i]?=some (V.bl b):=by rw[List.getElem?_map,e];rfl
       obtain⟨u,hu,ru⟩:=rv.get h1
       rw[hi]at hu
       cases hu
       exact⟨b,rfl,ru⟩
   obtain⟨b,e,rfl⟩:=hb
   refine wpAny_truthy_bool ?_
   have e2:bs.getD i false=b:=by rw[List.getD_eq_getElem?_getD,e];rfl
   have hQ':Q' (bs.getD i false) s':=hQ
   rw[e2]at hQ'
   exact hQ'
 . rw[hn,zR]
   refine⟨.bl (bs.all id),H,?_,rfl,q⟩
   exact I.kept (h':=h') (t':=tk) λb o e=>hk b o (by
     intro z
     have z':b=s.heap.objs.size:=by simpa using z
     exact absurd (Heap.lt_size e) (by rw[z'];exact Nat.lt_irrefl _)) (Heap.get?_push_of_some _ e)
theorem Wd {ys:List Str}:∀{us:List Value},qB (ys.map V.str) us->StrsAre us ys:=by
 induction ys with
 | nil=>
   intro us r
   rw[List.map_nil]at r
   cases r
   exact .nil
 | cons y ys ih=>
   intro us r
   rw[List.map_cons]at r
   cases r with
   | cons a b=>
     obtain⟨t,rfl⟩:=a
     exact .cons _ _ (ih b)
def uX (K:PySem.W.Frag):V->List V->Hp->VK->Prop:=λx xs H Q=>∃(sep:Str) (p:Addr) (ys:List Str),x=.str sep/\xs=[.ref p]/\SqL K H p (ys.map V.str)/\(ys.map (·.length)).sum+ys.length*sep.length<=16777216/\Q (.str (Txt.join sep ys)) H
theorem yJ:KW X "str.join" (uX X.K):=by
 intro pins s σ H x xs v us Q I rx rv h
 obtain⟨sep,p,ys,rfl,rfl,hq,hz,q⟩:=h
 obtain⟨t,rfl⟩:=rx
 obtain⟨u,rfl,ru⟩:=Qj rv
 cases ru
 obtain⟨its,r',pl,_⟩:=I.list hq
 exact join_list pl.isList (by simpa using Wd r') hz λt' k=>⟨.str _,H,I.tok k,⟨t',rfl⟩,q⟩
def xb:V->Value
 | .ty n=>.type n
 | .ref a=>.ref a
 | _=>.none
def xJ:V->Bool
 | .ty _=>true
 | .ref _=>true
 | _=>false
def uY (K:PySem.W.Frag):List V->Hp->VK->Prop:=λxs H Q=>∃x c t b,xs=[x,c]/\xJ c=true/\TyOf K H x t/\PySem.W.kitOne K t (xb c)=some b/\Q (.bl b) H
theorem jg:jU X (.builtin "isinstance") (uY X.K):=by
 intro pins s σ H xs us Q I r h
 obtain⟨x,c,t,b,rfl,hc,ty,e,q⟩:=h
 obtain⟨u,w',rfl,ru,rw'⟩:=WT r
 have ew:w'=xb c:=by
   cases c with
   | ty n=>exact rw'
   | ref a=>exact rw'
   | _=>cases hc
 subst ew
 exact Ul I ru ty e λtk=>⟨.bl b,H,I.tok tk,rfl,q⟩
end
end L2
namespace L2
open PySem PySem.Spec PyProof.Rows
end L2
set_option Elab.async false
set_option linter.all false
set_option maxRecDepth 100000
set_option maxHeartbeats 4000000
namespace L2
open PySem PySem.Spec PyProof.Rows
abbrev uA (rest:List Value):Obj:={cls:=.type "tuple",data:=.seq rest.toArray}
abbrev w9 (C t:Addr):Obj:={cls:=.ref C,data:=.fields #[.ref t,.none,.none,.none,.bool false,.none]}
section
variable {prog:Program} {w:World} {A:Around} {E:Value->Shared->Prop} {h:Heap} {g:Array GenState} {d:Drawn} {t:Nat} {os:OsState}
variable {nm q:Str} {C N fI:Addr} {bs bm bmB bmN:List Value} {hdct:Bool} {sn:List Str} {sub:List Value} {ab:Bool} {col:Option Bool} {dd:Option Addr} {k0 k1 k2 k3 k5:Option Value} {B Bn newId nid initId inN:String} {rest:List Value} {oI:Obj}
theorem Wb {Q:Fin->Shared->Prop} (Fn:ExcBaseFacts Bn newId inN bmN) (hBn:bmB.contains (.type Bn)=true)
   (F:ExcBaseFacts B nid initId bmB) (T:OwnTail h bmB bm)
   (hC:h.get? C=some (excClassObj nm q C N bs bm hdct sn sub ab col dd k0 k1 k2 k3 k5 newId))
   (hi:PySem.W.Looks (model prog w) h (typeLookup (.ref C) "__init__") (some (.ref fI))) (hfI:h.get? fI=some oI) (hfc:oI.cls=.type "function")
   (hq:∀h' e,h.objs.size<=e->Heap.MadeExcOf h h' e (.ref C) rest->
     wpAny (model prog w) A (call (.ref fI) (.ref e::rest)) (λr s'=>r=.none/\Q (.done (.ret (.ref e))) s') E ⟨h',g,d,t,os⟩)
   (hz:rest.length<=sizeLine):
   wpAny (model prog w) A (Builtin.«type.__call__» ⟨.ref C::rest,[]⟩) Q E ⟨h,g,d,t,os⟩:=by
 repeat (first
   | with_reducible refine wpAny_loadPart_at hC ?_
   | with_reducible refine wpAny_madeBy_exc hC ?_
   | wp_step)
 refine codeAny_call_builtin_code (Code.quiet_builtin _ Fn.quiet) (wpAny_check_new_subU Fn hBn T hC
   (codeAny_exc_new_subU Fn hBn F T hC ?_ hz))
 show wpAny _ _ _ _ _ _
 have k:∀b o,h.get? b=some o->((h.push (uA rest)).push (w9 C h.objs.size)).get? b=some o:=λb o e=>
   Heap.get?_push_of_some _ (Heap.get?_push_of_some _ e)
 have c1:=k _ _ hC
 have f1:=k _ _ hfI
 have i1:=hi.keeps k
 have e1:((h.push (uA rest)).push (w9 C h.objs.size)).get? (h.objs.size+1)=some (w9 C h.objs.size):=by heap_get
 have hcC:(Value.ref C::bm).contains (.ref C)=true:=by simp
 unfold isInstance
 repeat (first
   | with_reducible refine wpAny_loadPart_at e1 ?_
   | (with_reducible refine wpAny_isSubtype_exc c1 ?_;rw[hcC])
   | wp_step)
 show wpAny _ _ (typeLookup (.ref C) _) _ _ _
 refine i1.at ?_
 refine wpAny_holding (wpAny_bind ?_)
 unfold bindSpecial
 refine wpAny_bind (wpAny_typeOf (T:="function") ⟨_,f1,hfc⟩ ?_)
 rw[if_pos (by decide)]
 refine wpAny_pure (wpAny_bind (jc (hq _ (h.objs.size+1) (Nat.le_succ _) ⟨k,Heap.get?_none_of_le (Nat.le_succ _),h.objs.size,e1,Heap.get?_none_of_le (Nat.le_refl _),?_⟩) λr s' hr=>?_))
 . exact Heap.get?_push_of_some _ (Heap.get?_push_at rfl rfl)
 . obtain⟨rfl,hQ⟩:=hr
   wp_walk
   exact hQ
theorem UC {Q:Value->Shared->Prop} (Fn:ExcBaseFacts Bn newId inN bmN) (hBn:bmB.contains (.type Bn)=true)
   (F:ExcBaseFacts B nid initId bmB) (T:OwnTail h bmB bm)
   (hC:h.get? C=some (excClassObj nm q C N bs bm hdct sn sub ab col dd k0 k1 k2 k3 k5 newId))
   (hi:PySem.W.Looks (model prog w) h (typeLookup (.ref C) "__init__") (some (.ref fI))) (hfI:h.get? fI=some oI) (hfc:oI.cls=.type "function")
   (hq:∀h' e,h.objs.size<=e->Heap.MadeExcOf h h' e (.ref C) rest->
     wpAny (model prog w) (A.under (.builtin "type.__call__" ⟨.ref C::rest,[]⟩)) (call (.ref fI) (.ref e::rest)) (λr s'=>r=.none/\Q (.ref e) s') E ⟨h',g,d,t,os⟩)
   (hz:rest.length<=sizeLine):
   wpAny (model prog w) A (call (.ref C) rest) Q E ⟨h,g,d,t,os⟩:=by
 have a1:=tc_lookup
 have a2:=tc_bind (.ref C)
 have a3:(⟨h,g,d,t,os⟩:Shared).TypeIs (.ref C) "type":=⟨_,hC,rfl⟩
 refine wpAny_call (codeAny_of_tree ?_)
 show wpAny _ _ (callAny (.ref C) _) _ _ _
 repeat (any_goals (first
   | assumption
   | with_reducible refine wpAny_loadPart_at hC ?_
   | wp_step))
 refine⟨rfl,codeAny_call_builtin_at (Code.quiet_builtin _ (by decide+kernel)) entry_typeCall
   (wpAny_check_type_call_sub hC (Wb Fn hBn F T hC hi hfI hfc (λh' e he hm=>?_) hz))⟩
 exact hq h' e he hm
end
end L2
namespace L2
open PySem PySem.W PyProof.Rows Builtin Builtin.ObjectAttr
structure ZW (K:Frag) (C:Addr) (bm:List Value):Prop where
 ga:findIn K (.ref C) "__getattribute__"=some (some (.builtin "BaseException.__getattribute__"))
 gt:findIn K (.ref C) "__getattr__"=some none
 sa:findIn K (.ref C) "__setattr__"=some (some (.builtin "object.__setattr__"))
 hd:hasDictIn K C=true
 mr:∃cd,clsIn K C=some cd/\cd.mro=.ref C::bm
 mb:mroIn K C (.type "BaseException")=some true
 mo:mroIn K C (.type "object")=some true
 cl:findIn K (.ref C) "__class__"=some (some (.builtin "object.__class__"))
def Ws:List Value->Prop
 | .ref _::r=>Ws r
 | l=>l=[.type "ValueError",.type "Exception",.type "BaseException",.type "object"]
theorem Vf (self:Value):∀{l:List Value},Ws l->refuseLoop self "__setattr__" l=pure ()
 | .ref c::r,e=>by rw[refuseLoop_ref];exact Vf self (l:=r) e
 | [],e=>nomatch (show ([]:List Value)=[.type "ValueError",.type "Exception",.type "BaseException",.type "object"] from e)
 | .type n::r,e=>by
   have e':(Value.type n::r)=[.type "ValueError",.type "Exception",.type "BaseException",.type "object"]:=e
   rw[e'];kernel_rfl
 | .none::r,e=>by have e':(Value.none::r)=[.type "ValueError",.type "Exception",.type "BaseException",.type "object"]:=e;cases e'
 | .bool _::r,e=>by have e':_=[Value.type "ValueError",.type "Exception",.type "BaseException",.type "object"]:=e;cases e'
 | .int _ _::r,e=>by have e':_=[Value.type "ValueError",.type "Exception",.type "BaseException",.type "object"]:=e;cases e'
 | .float _ _::r,e=>by have e':_=[Value.type "ValueError",.type "Exception",.type "BaseException",.type "object"]:=e;cases e'
 | .str _ _::r,e=>by have e':_=[Value.type "ValueError",.type "Exception",.type "BaseException",.type "object"]:=e;cases e'
 | .bytes _ _::r,e=>by have e':_=[Value.type "ValueError",.type "Exception",.type "BaseException",.type "object"]:=e;cases e'
 | .builtin _::r,e=>by have e':_=[Value.type "ValueError",.type "Exception",.type "BaseException",.type "object"]:=e;cases e'
section
variable {prog:Program} {w:World} {A:Around} {E:Value->Shared->Prop} {s:Shared} {K:Frag} {x C:Addr} {ox:Obj} {od:Option Obj} {bm:List Value} {name:Str} {v:Value}
theorem yr {tk:Tok} {R:Result->Shared->Prop} (X:K.In s.heap) (I:InstAt s.heap x ox C od) (c:ZW K C bm) (hb:Ws bm) (ht:findIn K (.ref C) name=some none)
   (h:∀b,wpAny (model prog w) A.in1 (storeInOwnDict (.ref x) (.ref C) (.str name tk) name v b)
     (λfin s'=>match fin with | .done f=>R (.ok f) s' | .again c'=>c'.quiet=true/\codeAny (model prog w) A c' R s') (λe s'=>R (.error e) s') s):
   codeAny (model prog w) A (.call (.builtin "object.__setattr__") ⟨[.ref x,.str name tk,v],[]⟩) R s:=by
 have SF:=PySem.F.store_object
 obtain⟨cd,hc,hm⟩:=c.mr
 have sub:Looks (model prog w) s.heap (isInstance (.ref x) (.type "object")) true:=I.type.andThen (looks_mroIn X c.mo)
 refine codeAny_call_builtin SF.slot.plain SF.entry
   (@check_slot (model prog w) _ _ s "object.__setattr__" "object" "__setattr__" (.ref x) [.str name tk,v] [] _ SF.kind SF.split sub (SF.args (.ref x) (.str name tk) v) ?_)
 have lm:Looks (model prog w) s.heap (mroOf (.ref C)) cd.mro:=(looks_clsIn X hc).andThen .now
 rw[osa_eq,refuse_eq]
 refine wpAny_bind (wpAny_bind (I.type.here (wpAny_bind (lm.here ?_))))
 rw[hm,refuseLoop_ref,Vf _ hb]
 refine wpAny_pure (wpAny_bind (I.type.here (wpAny_bind ((looks_findIn X ht).here ?_))))
 exact wpAny_bind (wpAny_pure (h _))
theorem U0 {Q:Unit->Shared->Prop} (X:K.In s.heap) (hx:s.heap.get? x=some ox) (hc:ox.cls=.ref C) (hdc:ox.dict=none) (hda:∃fl,ox.data=.fields fl) (c:ZW K C bm) (hb:Ws bm) (ht:findIn K (.ref C) name=some none)
   (h:∀h' tk,h'.get? x=some {ox with dict:=some s.heap.objs.size}->h'.Ns1 s.heap.objs.size (λy=>if y=name then some v else none)->
     (∀b o,b≠x->s.heap.get? b=some o->h'.get? b=some o)->Q () {s with heap:=h',toks:=tk}):
   wpAny (model prog w) A (setAttr (.ref x) name v) Q E s:=by
 obtain⟨fl,hfl⟩:=hda
 obtain⟨oc,odi,oda,osl⟩:=ox
 dsimp only at hc hdc hfl
 subst hc hdc hfl
 have I:InstAt s.heap x ⟨.ref C,none,.fields fl,osl⟩ C none:=⟨hx,rfl,rfl,trivial⟩
 refine set_plain X I c.sa (yr (s:={s with toks:=s.toks+1}) X I c hb ht λb=>?_)
 obtain⟨cd,hcd,hdd⟩:=any_some c.hd
 refine wpAny_bind (wpAny_pure (wpAny_bind (wpAny_bind (wpAny_loadPart hx (wpAny_bind (Looks.here (s:={s with toks:=s.toks+1}) (looks_clsIn X hcd) ?_))))))
 rw[hdd]
 have hne:x≠s.heap.objs.size:=Nat.ne_of_lt (Heap.lt_size hx)
 have h1:=Heap.get?_push_of_some PySem.W.emptyDict hx
 refine wpAny_bind (wpAny_alloc (wpAny_bind (wpAny_update h1 ?_)))
 generalize hh2:(s.heap.push emptyDict).update x (λo=>{o with dict:=some s.heap.objs.size})=h2
 have e2:h2.get? x=some ⟨.ref C,some s.heap.objs.size,.fields fl,osl⟩:=by rw[<-hh2];exact Heap.get?_update_self _ h1 rfl
 have k2:∀b o,b≠x->(s.heap.push emptyDict).get? b=some o->h2.get? b=some o:=λb o hb e=>by rw[<-hh2,Heap.get?_update_other _ _ (Ne.symm hb)];exact e
 have n0:(s.heap.push emptyDict).Ns s.heap.objs.size (λ_=>none):=⟨emptyDict,#[],_,Heap.get?_push_size s.heap rfl,rfl,(λe he=>absurd he (by simp)),λ_=>rfl⟩
 have n2:h2.Ns1 s.heap.objs.size (λ_=>none):=(Heap.Ns1.of_empty n0).at λo q=>k2 _ o (Ne.symm hne) q
 refine wpAny_pure (a:=some s.heap.objs.size) (wpAny_bind (wpAny_pure (wpAny_bind ?_)))
 refine wpAny_nsSet1 (s:={s with heap:=h2,toks:=s.toks+1}) n2 λh' hn2 hs2=>?_
 obtain⟨oD,esD,epD,hoD,hdD,hcD⟩:=hn2.count (PySem.Within.cons name v PySem.Within.nil)
 refine wpAny_bind (wpAny_lookBehind hoD (by rw[hdD];exact pastItsLine_dict (Nat.le_trans hcD (by show 1<=sizeLine+1;decide))) ?_)
 refine wpAny_pure (h h' (s.toks+1+1) ((hs2.2 x hne).trans e2) hn2 λb o hb e=>?_)
 exact(hs2.2 b (Nat.ne_of_lt (Heap.lt_size e))).trans (k2 b o hb (Heap.get?_push_of_some _ e))
theorem Vt {fill expr:Bool} {tk:Tok} {Q:Value->Shared->Prop} (X:K.In s.heap) (I:InstAt s.heap x ox C od) (c:ZW K C bm)
   (h:wpAny (model prog w) A.in1 (Builtin.«object.__getattribute__» ⟨[.ref x,.str name tk],[]⟩) (λfin s'=>match fin with | .done (.ret u)=>handedIn u=true/\Q u s' | _=>False) (λ_ _=>False) s):
   wpAny (model prog w) A (getAttrBy (.ref x) (.str name tk) fill expr) Q E s:=by
 have ga:=PySem.F.attr_ValueError.ga
 have L1:=looks_findIn (M:=model prog w) X c.ga
 have L2:=looks_findIn (M:=model prog w) X c.gt
 have hk:builtinKind "BaseException.__getattribute__"=some .slot:=by decide+kernel
 have hs:splitId "BaseException.__getattribute__"=some ("BaseException","__getattribute__"):=by decide+kernel
 have sub:Looks (model prog w) s.heap (isInstance (.ref x) (.type "BaseException")) true:=I.type.andThen (looks_mroIn X c.mb)
 unfold getAttrBy
 refine wpAny_holding (wpAny_bind (I.type.here (wpAny_bind (L1.here ?_))))
 dsimp only
 have eb:(Value.builtin "BaseException.__getattribute__"==Value.builtin "object.__getattribute__")=false:=by decide+kernel
 rw[if_neg (by rw[eb,Bool.and_false];decide)]
 unfold getAttrByItsOwn
 refine wpAny_bind (show wpAny _ _ (hookBefore (.ref C)) _ _ _ from L2.here ?_)
 refine wpAny_bind (wpAny_attempt (wpAny_holding ?_))
 unfold callGetattribute
 have e0:(expr&&onTheHeap (Value.builtin "BaseException.__getattribute__"))=false:=by cases expr<;>rfl
 rw[if_neg (by rw[e0];decide)]
 unfold boundAndCalled
 rw[ga.bind]
 refine wpAny_bind (wpAny_pure ?_)
 refine wpAny_call (codeAny_call_builtin ga.plain PySem.F.entry_bexc_ga
   (@check_slot (model prog w) _ _ s "BaseException.__getattribute__" "BaseException" "__getattribute__" (.ref x) [.str name tk] [] _ hk hs sub (PySem.F.args_bexc_ga _ _) ?_))
 refine wpAny_mono h (λfin s' z=>?_) λ_ _ z=>z.elim
 cases fin with
 | again c'=>exact z.elim
 | done f=>
   cases f with
   | next=>exact z.elim
   | brk=>exact z.elim
   | cont=>exact z.elim
   | ret u=>
     obtain⟨hh,q⟩:=z
     show wpAny _ _ (handedOut u) _ _ _
     rw[handedOut_of hh]
     exact wpAny_pure q
theorem yX {expr:Bool} {Q:Value->Shared->Prop} {odd:Obj} (X:K.In s.heap) (I:InstAt s.heap x ox C (some odd)) (c:ZW K C bm) (ha:findIn K (.ref C) name=some none) (hl:lookIn name odd=some (some v)) (hv:handedIn v=true)
   (h:Q v {s with toks:=s.toks+1}):wpAny (model prog w) A (getAttr (.ref x) name expr) Q E s:=by
 have hf:findObj K C (some odd) name=some (.value v):=findObj_own c.hd ha rfl hl
 have LF:=looks_find (M:=model prog w) X I hf
 unfold getAttr
 refine wpAny_bind (wpAny_mkText (Vt (s:={s with toks:=s.toks+1}) X I c ?_))
 unfold Builtin.«object.__getattribute__»
 refine wpAny_bind (wpAny_pure (wpAny_bind (wpAny_pure (wpAny_bind (Looks.here (s:={s with toks:=s.toks+1}) I.type (wpAny_bind (Looks.here (s:={s with toks:=s.toks+1}) LF ?_)))))))
 exact wpAny_pure ⟨hv,h⟩
end
end L2
namespace L2
open PySem PySem.W PyProof.Rows Builtin Builtin.ObjectAttr
section
variable {K:Frag} {x C:Addr} {ox odd:Obj} {bm:List Value}
theorem vJ (c:ZW K C bm) (hn:specialIn K (.builtin "object.__class__") "__get__"=some (some (.builtin "getset_descriptor.__get__"))) (htk:takesIn K (.builtin "object.__class__")=some true):
   KitX K (.ref x) (.ref C) (λh=>InstAt h x ox C (some odd)) where
 ty:=λ_ _ _ I=>I.type
 it:=λ_ _ X _=>by
   obtain⟨cd,hcd,_⟩:=any_some c.hd
   unfold clsIn at hcd
   split at hcd
   . rename_i _ _ _ _ ho
     intro A' Q' E' s' k q
     unfold isType loadHead
     exact wpAny_bind (wpAny_loadPart (k _ _ (X _ _ ho)) (wpAny_pure q))
   . cases hcd
 ne:=λh tp dd its n sl X htp=>by
   obtain⟨cd,hcd,_⟩:=any_some c.hd
   refine Bool.eq_false_iff.mpr λq=>?_
   have e:C=tp:=Value.ref.inj (beq_iff_eq.mp q)
   subst e
   unfold clsIn at hcd
   split at hcd
   . rename_i _ _ _ _ ho
     have z:=(X _ _ ho).symm.trans htp
     cases z
   . cases hcd
 ca:=λ{prog w A E Q s} X I k=>by
   have hf:findObj K C (some odd) "__class__"=some (.bind (.builtin "getset_descriptor.__get__") (.builtin "object.__class__")):=
     findObj_data (by obtain⟨cd,hc,_⟩:=any_some c.hd;rw[hc];rfl) c.cl hn htk
   have LF:=looks_find (M:=model prog w) X I hf
   unfold getAttr? getAttrBy?
   refine wpAny_bind (wpAny_mkText (wpAny_bind (wpAny_attempt (Vt (s:={s with toks:=s.toks+1}) X I c ?_))))
   unfold Builtin.«object.__getattribute__»
   refine wpAny_bind (wpAny_pure (wpAny_bind (wpAny_pure (wpAny_bind (Looks.here (s:={s with toks:=s.toks+1}) I.type (wpAny_bind (Looks.here (s:={s with toks:=s.toks+1}) LF ?_)))))))
   dsimp only
   unfold bindTo
   dsimp only
   refine wpAny_bind (wpAny_holding (wpAny_call (class_get (s:={s with toks:=s.toks+1}) X I c.mo ?_)))
   exact wpAny_pure ⟨rfl,wpAny_pure k⟩
end
end L2
set_option Elab.async false
set_option linter.all false
set_option maxRecDepth 100000
set_option maxHeartbeats 4000000
namespace L2
open PySem PySem.Spec PyProof.Rows
def ZF (e C:Addr):HO:=.ext λh=>∃fl,h.get? e=some {cls:=.ref C,data:=.fields fl}/\fl[1]?=some Value.none
def jE (e C dx:Addr) (hd:Value):HO:=.ext λh=>∃fl,h.get? e=some {cls:=.ref C,dict:=some dx,data:=.fields fl}/\fl[1]?=some hd
abbrev QJ (e C dx:Addr):HO:=jE e C dx .none
def jP:List Value:=[.type "ValueError",.type "Exception",.type "BaseException",.type "object"]
structure KM (K:PySem.W.Frag) (C f:Addr) (bm:List Value):Prop where
 obj:∃nm q N bs hdct sn sub ab col dd k0 k1 k2 k3 k5,K.lookup C=some (excClassObj nm q C N bs bm hdct sn sub ab col dd k0 k1 k2 k3 k5 "ValueError.__new__")
 tail:∀h:Heap,K.In h->OwnTail h jP bm
 init:PySem.W.findIn K (.ref C) "__init__"=some (some (.ref f))
 fn:PySem.W.isFn K (.ref f)=true
 kp:PySem.W.keepIn K (.ref C)=true
section
variable {P:Program} {w:World} {H:Hp} {h h':Heap} {e C dx:Addr}
theorem y7 (he:∃fl,h.get? e=some {cls:=.ref C,data:=.fields fl}/\fl[1]?=some Value.none):qA P w H h e (ZF e C):=by
 obtain⟨fl,q,z⟩:=he
 exact⟨⟨fl,q,z⟩,⟨_,q⟩,λh1 h2 ⟨fl',q',z'⟩ k=>⟨fl',k _ q',z'⟩⟩
theorem Jq {hd:Value} (he:∃fl,h.get? e=some {cls:=.ref C,dict:=some dx,data:=.fields fl}/\fl[1]?=some hd):qA P w H h e (jE e C dx hd):=by
 obtain⟨fl,q,z⟩:=he
 exact⟨⟨fl,q,z⟩,⟨_,q⟩,λh1 h2 ⟨fl',q',z'⟩ k=>⟨fl',k _ q',z'⟩⟩
end
section
variable {X:Cx} {pins:List (Addr×Obj)} {σ:St} {H:Hp} {s:Shared} {e C dx:Addr} {f:Str} {bm:List Value} {y v:V} {u:Value} {A:Around} {E:Value->Shared->Prop}
theorem qu.excSet {h':Heap} {t':Nat} {fs:List (Str×V)} (I:qu X pins σ H s) (hH:H e=some (ZF e C)) (hd:s.heap.objs.size<=dx)
   (h1:∃fl,h'.get? e=some {cls:=.ref C,dict:=some dx,data:=.fields fl}/\fl[1]?=some Value.none) (h2:∃mA,h'.Ns1 dx mA/\∀f,Q7 (fs.lookup f) (mA f))
   (k:∀b o,b≠e->s.heap.get? b=some o->h'.get? b=some o):qu X pins σ (upd (upd H e (QJ e C dx)) dx (.xd fs)) {s with heap:=h',toks:=t'}:=by
 have mu:uv (H e):=by rw[hH];exact trivial
 have heo:∃u,h'.get? e=some u:=let ⟨_,q,_⟩:=h1;⟨_,q⟩
 have hn:H dx=none:=I.hok.fresh hd
 have ne:dx≠e:=λz=>by rw[z,hH]at hn;cases hn
 have U:Un X.fs [] H (upd H e (QJ e C dx)) s.heap h':=Un.write mu (.inl rfl) k heo
 have W:Q4 X.prog X.w (upd H e (QJ e C dx)) h':=I.hok.write mu (.inl rfl) k heo (Jq h1)
 have hn2:(upd H e (QJ e C dx)) dx=none:=by rw[qe ne];exact hn
 have nb:∀b o,s.heap.get? b=some o->b≠dx:=λb o q=>Nat.ne_of_lt (Nat.lt_of_lt_of_le (Heap.lt_size q) hd)
 refine I.un ⟨U.keep,U.slot,λb o q n hx=>?_,U.there,λb xs q=>?_,λb o z q=>?_,λb ps q=>?_⟩ λb o q=>?_
 . rw[qe (nb b o q)];exact U.free b o q n hx
 . have:=U.tups b xs q
   rw[qe (qo this hn2)];exact this
 . have:=U.frzs b o z q
   rw[qe (qo this hn2)];exact this
 . obtain⟨m,q'⟩:=U.tbls b ps q
   exact⟨m,by rw[qe (qo q' hn2)];exact q'⟩
 . by_cases hb:b=dx
   . subst hb
     rw[qd]at q
     cases q
     exact h2
   . rw[qe hb]at q
     exact(W b o q).stay (λ_ _ _ z=>z) (λc z=>by rw[qe (qo z hn2)];exact z) (λc xs z=>by rw[qe (qo z hn2)];exact z) (λc o z=>by rw[qe (qo z hn2)];exact z)
theorem VM {Q:Unit->Shared->Prop} (I:qu X pins σ H s) (hH:H e=some (ZF e C)) (c:ZW X.K C bm) (hb:Ws bm) (n:jY X.K C f) (ry:qH y u)
   (h:∀dx s',H dx=none->qu X pins σ (upd (upd H e (QJ e C dx)) dx (.xd [(f,y)])) s'->Q () s'):wpAny (model X.prog X.w) A (setAttr (.ref e) f u) Q E s:=by
 obtain⟨⟨fl,he,hz⟩,_,_⟩:=(show qA X.prog X.w H s.heap e (ZF e C) from I.hok e _ hH)
 refine U0 I.kIn he rfl rfl ⟨fl,rfl⟩ c hb n λh' tk e1 e2 e3=>?_
 refine h s.heap.objs.size _ (I.hok.fresh (Nat.le_refl _)) (I.excSet hH (Nat.le_refl _) ⟨fl,e1,hz⟩ ⟨_,e2,λg=>?_⟩ e3)
 by_cases hg:g=f
 . subst hg
   rw[List.lookup_cons]
   simp only[beq_self_eq_true,if_true]
   exact ry
 . have hb':(g==f)=false:=beq_eq_false_iff_ne.mpr hg
   rw[List.lookup_cons]
   simp only[hb',hg,if_false]
   exact trivial
theorem Ut {b:Bool} {Q:Value->Shared->Prop} {fs:List (Str×V)} {hd:Value} (I:qu X pins σ H s) (hH:H e=some (jE e C dx hd)) (hx:H dx=some (.xd fs)) (c:ZW X.K C bm) (n:jY X.K C f) (l:fs.lookup f=some v)
   (h:∀u s',qu X pins σ H s'->qH v u->Q u s'):wpAny (model X.prog X.w) A (getAttr (.ref e) f b) Q E s:=by
 obtain⟨⟨fl,he,_⟩,_,_⟩:=(show qA X.prog X.w H s.heap e (jE e C dx hd) from I.hok e _ hH)
 obtain⟨mA,hn,hr⟩:=(show qA X.prog X.w H s.heap dx (.xd fs) from I.hok dx _ hx)
 obtain⟨od,ho,hl⟩:=Zy hn
 have r:=hr f
 rw[l]at r
 obtain⟨u,eu,ru⟩:=Q7.some_of r
 exact yX I.kIn ⟨he,rfl,rfl,ho⟩ c n (by rw[hl,eu]) (Ym ru) (h u _ (I.tok _) ru)
theorem vZ {cV:Value} {b:Bool} {Q:Value->Shared->Prop} {fs:List (Str×V)} {hd:Value} (I:qu X pins σ H s) (hH:H e=some (jE e C dx hd)) (hx:H dx=some (.xd fs)) (c:ZW X.K C bm)
   (hn:PySem.W.specialIn X.K (.builtin "object.__class__") "__get__"=some (some (.builtin "getset_descriptor.__get__"))) (htk:PySem.W.takesIn X.K (.builtin "object.__class__")=some true)
   (ek:PySem.W.kitOne X.K (.ref C) cV=some b) (h:∀tk,Q (.bool b) {s with toks:=tk}):wpAny (model X.prog X.w) A (call (.builtin "isinstance") [.ref e,cV]) Q E s:=by
 obtain⟨⟨fl,he,_⟩,_,_⟩:=(show qA X.prog X.w H s.heap e (jE e C dx hd) from I.hok e _ hH)
 obtain⟨mA,hns,hr⟩:=(show qA X.prog X.w H s.heap dx (.xd fs) from I.hok dx _ hx)
 obtain⟨od,ho,hl⟩:=Zy hns
 exact PySem.W.kia_one (vJ (ox:={cls:=.ref C,dict:=some dx,data:=.fields fl}) (odd:=od) c hn htk) I.kIn ⟨he,rfl,rfl,ho⟩ ek (λz=>nomatch z) h
end
end L2
namespace L2
open PySem PySem.Spec PyProof.Rows
def Gm (K:PySem.W.Frag) (bm:List Value) (ta tv:TE) (f:Str):TS:=λD σ H=>tv σ H λy H1=>ta σ H1 λx H2=>∃a C,x=.ref a/\H2 a=some (ZF a C)/\ZW K C bm/\Ws bm/\jY K C f/\
 ∀dx,H2 dx=none->D.nx σ (upd (upd H2 a (QJ a C dx)) dx (.xd [(f,y)]))
section
variable {X:Cx} {CX:ZJ} {k:Nat} {C fI:Addr} {fd:FuncData} {ps:List Str} {sp:Sp} {E:XK} {x f:Str} {o e value:Expr} {es:List Expr} {p pos pos':Pos} {ta tv:TE} {t:TA} {bm:List Value}
theorem wR (ha:JE X o ta) (hv:JE X value tv) (hs:swapsWith value (some (.Attribute o f pos')) pos.line X.env=pure false):JS X (.Assign [.Attribute o f pos'] value pos) (Gm X.K bm ta tv f):=.of (by
 have ha:=ha.to
 have hv:=hv.to
 intro pins s σ H D I h
 refine plainObj_wpAny_Assign_Attribute (jc (hv pins s σ H _ I h) λu s1 ⟨y,H1,I1,ry,q⟩=>
   jc (ha pins s1 σ H1 _ I1 q) λov s2 ⟨x,H2,I2,rx,a,C,ex,ea,c,hb,n,q2⟩=>?_) hs
 subst ex
 obtain rfl:ov=Value.ref a:=rx
 exact VM I2 ea c hb n ry λdx s3 hdx I3=>⟨σ,_,I3,q2 dx hdx⟩)
theorem VQ {pins:List (Addr×Obj)} {σ:St} {H:Hp} {s:Shared} {Q:VK} {us:List Value} {vs:List V} (M:KM X.K C fI bm) (F:qv X.prog X.w X.K X.mg X.base CX k fI fd ps sp) (hr:ja (k+1) X.A) (hb:jz X.K fd ps [])
   (hx:jw CX X E) (I:qu X pins σ H s) (r:qB vs us) (hz:us.length<=sizeLine)
   (h:∀x,H x=none->sp (.ref x::vs) (upd H x (ZF x C)) (λv H2=>v=.non/\Q (.ref x) H2) E):
   wpAny (model X.prog X.w) X.A (call (.ref C) us) (EP X pins σ Q) X.xe s:=by
 obtain⟨nm,q,N,bs,hdct,sn,sub,ab,col,dd,k0,k1,k2,k3,k5,hC⟩:=M.obj
 have hfn:PySem.W.typeIn X.K (.ref fI)=some (.type "function"):=beq_iff_eq.mp M.fn
 obtain⟨oI,ho,hoc⟩:=Option.map_eq_some_iff.mp hfn
 have KX:=I.kIn
 obtain⟨hp,g,d,tk,os⟩:=s
 refine UC PySem.F.excBase_ValueError (by decide+kernel) PySem.F.excBase_ValueError (M.tail _ KX) (KX _ _ hC) (PySem.W.looks_findIn KX M.init) (KX _ _ ho) hoc (λh' ex hle hm=>?_) hz
 obtain⟨t0,ht,_,_⟩:=hm.there
 have I2:qu X pins σ (upd H ex (ZF ex C)) ⟨h',g,d,tk,os⟩:=I.laid (t':=tk) hm.keeps hle (y7 ⟨_,ht,rfl⟩)
 have hq:=h ex (I.hok.fresh hle)
 have r2:qB (V.ref ex::vs) (Value.ref ex::us):=.cons rfl r
 have hl:(Value.ref ex::us++[]).length=ps.length:=by
   have e:=r2.length
   rw[F.len _ _ _ _ hq]at e
   rw[List.append_nil]
   exact e.symm
 have bb:=hb ⟨h',g,d,tk,os⟩ (Value.ref ex::us) I2.kIn hl
 rw[List.append_nil]at bb
 refine wpAny_call (codeAny_mono (F.run _ X.stack _ _ ⟨Value.ref ex::us,[]⟩ (Value.ref ex::us) _ _ E (hr.make C us []) (I2.env0.make C us []) bb r2 hq) λr s' hq'=>?_)
 cases r with
 | error z=>exact hx pins σ _ _ z s' I2 hq'
 | ok fl=>
   cases fl with
   | ret u=>
     obtain⟨v,H',I3,rv,ev,q3⟩:=I2.after hq'
     subst ev
     exact⟨rv,⟨V.ref ex,H',I3,rfl,q3⟩⟩
   | next=>exact False.elim hq'
   | brk=>exact False.elim hq'
   | cont=>exact False.elim hq'
theorem Xz (M:KM X.K C fI bm) (F:qv X.prog X.w X.K X.mg X.base CX k fI fd ps sp) (hr:ja (k+1) X.A) (hg:Gl X x) (hm:X.mg x=some (.ref C)) (hb:jz X.K fd ps []) (hx:jw CX X E) (ha:JA X (e::es) t) (hz:(e::es).length<=1000:=by decide) (hv:∀vs us,qB vs us->vs.length<=sizeLine->us.length<=sizeLine:=by intro vs us r h;rw[<-r.length];exact h) (hdb:(x==("__debug__":Str))=false:=by decide) (he:starEach (e::es) X.env=(false,eval e X.env)::starEach es X.env:=by rfl) (hpl:(backTo pos (starEach es X.env)).any (·.1)=false:=by rfl):JE X (.Call (.Name x p) (e::es) [] pos) (λσ H Q=>t σ H λvs H1=>vs.length<=sizeLine/\∀x,H1 x=none->sp (.ref x::vs) (upd H1 x (ZF x C)) (λv H2=>v=.non/\Q (.ref x) H2) E):=.of (by
 have ha:=ha.to
 intro pins s σ H Q I h
 refine wpAny_Call_Name_kw (Ze I hg hm ?_ hdb)
 refine PySem.W.callWith_K (h₀:=X.base) I.ok.mod.kin M.kp (jc (ha pos pins s σ H _ I h) λus s1 ⟨vs,H1,I1,r,q⟩=>⟨I1.kIn,?_⟩) he hpl
 exact VQ M F hr hb hx I1 r (hv vs us r q.1) q.2)
end
end L2
set_option Elab.async false
set_option linter.all false
set_option maxRecDepth 100000
set_option maxHeartbeats 4000000
namespace L2
open PySem PySem.Spec PyProof.Rows
def neL (xs ys:List V):Bool:=if xs.length=ys.length then !((List.range xs.length).all λj=>y9 (xs.getD j .non) (ys.getD j .non)) else true
mutual
inductive DV (K:PySem.W.Frag) (H:Hp):V->PyData->Prop
 | non:DV K H .non .none
 | bl (b:Bool):DV K H (.bl b) (.bool b)
 | int (i:Int):DV K H (.int i) (.int i)
 | str (x:Str):DV K H (.str x) (.str x)
 | lst {a:Addr} {xs:List V} {ds:List PyData}:SqL K H a xs->DVs K H xs ds->DV K H (.ref a) (.list ds)
 | tup {a:Addr} {xs:List V} {ds:List PyData}:SqT K H a xs->DVs K H xs ds->DV K H (.ref a) (.tuple ds)
inductive DVs (K:PySem.W.Frag) (H:Hp):List V->List PyData->Prop
 | nil:DVs K H [] []
 | cons {x:V} {xs:List V} {d:PyData} {ds:List PyData}:DV K H x d->DVs K H xs ds->DVs K H (x::xs) (d::ds)
end
section
variable {X:Cx} {pins:List (Addr×Obj)} {σ:St} {H:Hp} {s:Shared}
mutual
theorem DV.reads (I:qu X pins σ H s):∀{x:V} {d:PyData},DV X.K H x d->∀{u:Value},qH x u->∃as,Reads s.heap u d as
 | _,_,.non,u,r=>by cases (show u=Value.none from r);exact⟨_,.none⟩
 | _,_,.bl b,u,r=>by cases (show u=Value.bool b from r);exact⟨_,.bool b⟩
 | _,_,.int i,u,r=>by obtain⟨t,q⟩:=(show ∃t,u=Value.int i t from r);subst q;exact⟨_,.int i t⟩
 | _,_,.str x,u,r=>by obtain⟨t,q⟩:=(show ∃t,u=Value.str x t from r);subst q;exact⟨_,.str x t⟩
 | _,_,.lst (a:=a) hq hs,u,r=>by
   cases (show u=Value.ref a from r)
   obtain⟨its,rv,⟨o,n,e,hc,hd,hda⟩,hz⟩:=I.list hq
   obtain⟨as,ra⟩:=DVs.reads I hs rv
   exact⟨_,.list e hc hda (by simpa using ra)⟩
 | _,_,.tup (a:=a) hq hs,u,r=>by
   cases (show u=Value.ref a from r)
   obtain⟨its,rv,⟨o,e,hc,n,hda⟩,hz⟩:=I.tuple hq
   obtain⟨as,ra⟩:=DVs.reads I hs rv
   exact⟨_,.tuple e hc hda (by simpa using ra)⟩
theorem DVs.reads (I:qu X pins σ H s):∀{xs:List V} {ds:List PyData},DVs X.K H xs ds->∀{us:List Value},qB xs us->∃as,ReadsAll s.heap us ds as
 | _,_,.nil,_,.nil=>⟨_,.nil⟩
 | _,_,.cons h hs,_,.cons r rs=>by
   obtain⟨as,a⟩:=DV.reads I h r
   obtain⟨bs,b⟩:=DVs.reads I hs rs
   exact⟨_,.cons a b⟩
end
end
def uV (K:PySem.W.Frag):List V->Hp->VK->Prop:=λxs H Q=>∃a d,xs=[.ref a]/\DV K H (.ref a) d/\d.showable=true/\d.hasDict=false/\d.depth<=60/\d.shown.length<=sizeLine/\Q (.str d.shown) H
theorem Jr {X:Cx} (hg:X.A.guards=some []) (hu:X.A.units+64 < cLine):jU X (.builtin "repr") (uV X.K):=by
 intro pins s σ H xs us Q I r h
 obtain⟨a,d,rfl,hd,h1,h2,h3,h4,q⟩:=h
 obtain⟨u,rfl,ru⟩:=Qj r
 cases ru
 obtain⟨as,ra⟩:=hd.reads I (u:=.ref a) rfl
 exact repr_of_reads' ra h1 (λz=>by rw[h2]at z;cases z) hg (by omega) (λ_ _ e=>e) (λh' t tk k=>⟨.str d.shown,H,I.kept (t':=tk) k,⟨t,rfl⟩,q⟩) h4
end L2
namespace L2
open PySem PySem.Spec PyProof.Rows
end L2
set_option Elab.async false
set_option linter.all false
set_option maxRecDepth 100000
set_option maxHeartbeats 4000000
namespace L2
open PySem PySem.Spec PyProof.Rows
section
variable {X:Cx}
def uZ (K:PySem.W.Frag) (k:Bool):R2:=λx y H Q=>∃d,DV K H x d/\DV K H y d/\PySem.SeqAt.shaped d=true/\Q (.bl k) H
theorem zM {d:PyData} (h:PySem.SeqAt.shaped d=true):PyData.eqv d d=true:=PySem.SeqAt.eqv_refl d (PySem.SeqAt.canLay_of_shaped h)
theorem wv (hu:X.A.units+64 < cLine):Zq X (compareOp .Eq) (uZ X.K true):=by
 intro pins s σ H x y v u Q I rx ry h
 obtain⟨d,h1,h2,hs,q⟩:=h
 obtain⟨as,ra⟩:=h1.reads I rx
 obtain⟨bs,rb⟩:=h2.reads I ry
 refine eq_dataH ra rb hs hs hu ?_
 rw[zM hs]
 exact⟨.bl true,H,I,rfl,q⟩
theorem wt (hu:X.A.units+64 < cLine):Zq X (compareOp .NotEq) (uZ X.K false):=by
 intro pins s σ H x y v u Q I rx ry h
 obtain⟨d,h1,h2,hs,q⟩:=h
 obtain⟨as,ra⟩:=h1.reads I rx
 obtain⟨bs,rb⟩:=h2.reads I ry
 refine ne_dataH ra rb hs hs hu ?_
 rw[zM hs]
 exact⟨.bl false,H,I,rfl,q⟩
def KP (i j:Int):Prop:=0 < j/\j.natAbs < 2^200
theorem vo:Zq X (binaryOp .FloorDiv) (rI KP λi j=>.int (i / j)):=Kb λi j _ _ _ _ _ hc q=>by
 have h1:(0:Int) < j:=hc.1
 have h3:j.natAbs.log2 < 200:=(Nat.log2_lt (by omega)).mpr hc.2
 exact floordiv_int (by omega) (by rw[Int.fdiv_eq_ediv_of_nonneg i (by omega)];exact q) (.inl (PyProof.noPylong_of_log2 (Nat.lt_trans h3 (by decide))))
end
section
variable {X:Cx} {tg:Expr}
end
section
variable {X:Cx} {st:Stmt} {rest:List Stmt} {t u:TS}
end
end L2
set_option Elab.async false
set_option linter.all false
set_option maxRecDepth 100000
set_option maxHeartbeats 4000000
namespace PySem
section
variable {prog:Program} {w:World} {A:Around} {E:Value->Shared->Prop} {s:Shared}
def zm (x n c:Int):Obj:={cls:=.type "range_iterator",data:=.fields #[rawInt x,rawInt n,rawInt c]}
theorem Vd (n:Nat):Builtin.Range.rangeSize 0 n 1=n:=by
 unfold Builtin.Range.rangeSize
 rw[if_pos (by decide)]
 split<;>omega
theorem zQ {r:Addr} {a b c:Int} {t u v:Tok} {Q:Value->Shared->Prop} (hr:IsRange s.heap r a b c t u v)
   (hs:(Builtin.Range.rangeFitsLong a&&Builtin.Range.rangeFitsLong b&&Builtin.Range.rangeFitsLong c&&Builtin.Range.rangeFitsLong (-c)&&Builtin.Range.rangeFitsLong (a - c)&&Builtin.Range.rangeFitsLong (Builtin.Range.rangeSize a b c))=true)
   (h:Q (.ref s.heap.objs.size) {s with heap:=s.heap.push (zm (a+(Builtin.Range.rangeSize a b c - 1)*c) (Builtin.Range.rangeSize a b c) (-c))}):wpAny (model prog w) A (call (.builtin "range.__reversed__") [.ref r]) Q E s:=by
 have ty:s.TypeIs (.ref r) "range":=⟨_,hr,rfl⟩
 refine wpAny_call_entry F.slot_range_reversed ty F.entry_range_reversed ?_ (F.args_range_reversed_1 _)
 unfold Builtin.«range.__reversed__»
 refine wpAny_bind (wpAny_of_eq (a:=Value.ref r) rfl ?_)
 refine wpAny_bind ?_
 unfold Builtin.Range.rangeFields
 refine wpAny_bind (wpAny_field hr rfl (x:=.int a t) rfl ?_)
 refine wpAny_bind (m:=asInt? (.int a t)) (wpAny_pure ?_)
 refine wpAny_bind (wpAny_field hr rfl (x:=.int b u) rfl ?_)
 refine wpAny_bind (m:=asInt? (.int b u)) (wpAny_pure ?_)
 refine wpAny_bind (wpAny_field hr rfl (x:=.int c v) rfl ?_)
 refine wpAny_bind (m:=asInt? (.int c v)) (wpAny_pure ?_)
 refine wpAny_pure ?_
 dsimp only
 rw[hs]
 simp only[Bool.not_true,Bool.false_eq_true,if_false,if_true]
 first
 | refine wpAny_bind (wpAny_newObj_type (wpAny_pure ⟨_,rfl,h⟩))
 | refine wpAny_bind (wpAny_pure (wpAny_bind (wpAny_newObj_type (wpAny_pure ⟨_,rfl,h⟩))))
theorem Jw {r:Addr} {n:Nat} {t u v:Tok} {Q:Value->Shared->Prop} (hr:IsRange s.heap r 0 n 1 t u v) (hn:n < 1048576)
   (h:Q (.ref s.heap.objs.size) {s with heap:=s.heap.push (zm ((n:Int) - 1) n (-1))}):wpAny (model prog w) A (call (.builtin "range.__reversed__") [.ref r]) Q E s:=by
 have f:∀x:Int,-2000000<=x->x<=2000000->Builtin.Range.rangeFitsLong x=true:=λx p q=>by
   unfold Builtin.Range.rangeFitsLong
   simp
   omega
 have e:=Vd n
 have hs:(Builtin.Range.rangeFitsLong 0&&Builtin.Range.rangeFitsLong (n:Int)&&Builtin.Range.rangeFitsLong 1&&Builtin.Range.rangeFitsLong (-1)&&Builtin.Range.rangeFitsLong (0 - 1)&&Builtin.Range.rangeFitsLong (Builtin.Range.rangeSize 0 n 1))=true:=by
   rw[e,f 0 (by omega) (by omega),f n (by omega) (by omega),f 1 (by omega) (by omega),f (-1) (by omega) (by omega),f (0 - 1) (by omega) (by omega)]
   rfl
 refine zQ hr hs ?_
 have e2:(0:Int)+(Builtin.Range.rangeSize 0 n 1 - 1)*1=(n:Int) - 1:=by rw[e];omega
 rw[e2,e]
 exact h
end
end PySem
namespace PySem
section
variable {prog:Program} {w:World} {A:Around} {E:Value->Shared->Prop} {s:Shared}
theorem JL {r:Addr} {n:Nat} {t u v:Tok} {Q₁:Value->Shared->Prop} (hr:IsRange s.heap r 0 n 1 t u v) (hn:n < 1048576)
   (h:Q₁ (.ref s.heap.objs.size) {s with heap:=s.heap.push (zm ((n:Int) - 1) n (-1))}):
   codeAny (model prog w) A (.call (.builtin "reversed.__new__") ⟨[.type "reversed",.ref r],[]⟩) (wants Q₁ E) s:=by
 have ty:s.TypeIs (.ref r) "range":=⟨_,hr,rfl⟩
 have nn:¬((Value.builtin "range.__reversed__"==Value.none)=true):=Bool.false_ne_true
 refine codeAny_of_tree (show wpAny _ A.in1 (checkBuiltinCall "reversed.__new__" ⟨[.type "reversed",.ref r],[]⟩ >>= λ_=>again (.builtin "reversed.__new__" ⟨[.type "reversed",.ref r],[]⟩)) _ _ s from
   wpAny_bind (wpAny_of_eq (F.newCall_reversed_1 (.ref r)) (wpAny_pure ⟨plainId_quiet F.plain_reversed_new _,codeAny_builtin F.entry_reversed_new ?_⟩)))
 rw[Around.under_plainId F.plain_reversed_new _];unfold Builtin.«reversed.__new__»
 refine wpAny_bind (wpAny_of_eq (newClass_reversed (.ref r)) ?_);dsimp only
 refine wpAny_bind (wpAny_of_eq (a:=()) (by kernel_rfl) (wpAny_bind (wpAny_of_eq (a:=()) (by kernel_rfl) ?_)));try dsimp only
 refine wpAny_bind (wpAny_specialOf ty F.slot_range_reversed.lookup ?_);dsimp only
 refine wpAny_bind (wpAny_of_eq (F.slot_range_reversed.bind _) ?_);dsimp only
 rw[if_neg nn]
 refine wpAny_bind (wpAny_rule (wpAny_bind (m:=runValue (.call (.builtin "range.__reversed__") ⟨[.ref r],[]⟩)) (show wpAny _ _ (call (.builtin "range.__reversed__") [.ref r]) _ _ _ from Jw hr hn ?_)))
 first | exact wpAny_pure h | exact wpAny_bind (wpAny_pure (wpAny_pure h))
theorem ZS:isSubtype (.type "range_iterator") (.type "reversed")=pure false:=by rw[isSubtype_type];kernel_rfl
theorem Jv {r:Addr} {n:Nat} {t u v:Tok} {Q:Value->Shared->Prop} (hr:IsRange s.heap r 0 n 1 t u v) (hn:n < 1048576)
   (h:Q (.ref s.heap.objs.size) {s with heap:=s.heap.push (zm ((n:Int) - 1) n (-1))}):wpAny (model prog w) A (call (.type "reversed") [.ref r]) Q E s:=by
 refine callType_other (U:="range_iterator") (Q₁:=λobj s₁=>obj=.ref s.heap.objs.size/\s₁={s with heap:=s.heap.push (zm ((n:Int) - 1) n (-1))}) (by decide+kernel) F.create_reversed ⟨_,_,F.mro_reversed⟩ F.made_reversed ZS (F.typeCall_reversed_1 _) (JL hr hn ⟨rfl,rfl⟩) ?_
 rintro obj s₁ ⟨rfl,rfl⟩
 exact⟨⟨_,Heap.get?_push_size _ rfl,rfl⟩,h⟩
theorem YZ {I:Addr} {x left c:Int} {Q:Value->Shared->Prop} (hit:IsRangeIter s.heap I x left c) (h:Q (.int left s.toks) {s with toks:=s.toks+1}):
   wpAny (model prog w) A (call (.builtin "range_iterator.__length_hint__") [.ref I]) Q E s:=by
 have hT:s.TypeIs (.ref I) "range_iterator":=⟨_,hit,rfl⟩
 refine wpAny_call_entry F.slot_range_iterator_length_hint hT F.entry_range_iterator_length_hint ?_ (F.args_range_iterator_length_hint_1 _)
 unfold Builtin.«range_iterator.__length_hint__»
 refine wpAny_bind (wpAny_of_eq (a:=Value.ref I) rfl ?_)
 refine wpAny_bind (wpAny_field hit rfl (x:=rawInt left) rfl ?_)
 show wpAny _ _ (do ret (<-mkInt left)) _ _ _
 exact wpAny_ret_mkInt h
structure WN (P:Program) (w:World) (T:String) (I:Addr) (fp:List Addr) (n:Nat) (V:Nat->Value->Prop) (St:Nat->Heap->Prop):Prop where
 ty:∀z:Shared,St 0 z.heap->z.TypeIs (.ref I) T
 nl:(Value.type T==Value.type "list")=false
 nt:(Value.type T==Value.type "tuple")=false
 walk:∀B:Around,B.handled=none->Walks P w B I fp [I] n V St
 hint:∀(B:Around) (F:Value->Shared->Prop) (z:Shared) (R:Bool->Shared->Prop),St 0 z.heap->(∀k,R false {z with toks:=k})->wpAny (model P w) B (Builtin.List.listLengthHint (.ref I)) R F z
theorem WN.list {P:Program} {T:String} {I:Addr} {fp:List Addr} {n:Nat} {V:Nat->Value->Prop} {St:Nat->Heap->Prop} (J:WN P w T I fp n V St) {B:Around} {F':Value->Shared->Prop} {z:Shared} {R:Value->Shared->Prop}
   (hB:B.handled=none) (st:St 0 z.heap) (mem:I∈fp) (old:∀b∈fp,b < z.heap.objs.size) (hn:n<=1048576)
   (k:∀g tk xs c,(∀b o,b≠I->z.heap.get? b=some o->g.get? b=some o)->g.get? z.heap.objs.size=some (⟨.type "list",none,.seq xs c,#[]⟩:Obj)->ItemsOf V xs n->R (.ref z.heap.objs.size) {z with heap:=g,toks:=tk}):
   wpAny (model P w) B (call (.type "list") [.ref I]) R F' z:=by
 have nI:∀b∈fp,z.heap.objs.size≠b:=λb hb=>Nat.ne_of_gt (old b hb)
 have sI:Builtin.List.listSameRef (.ref z.heap.objs.size) (.ref I)=false:=by unfold Builtin.List.listSameRef;simp [nI I mem]
 refine callType_codes (Q₁:=λob z1=>z1={z with heap:=z.heap.push {cls:=.type "list",data:=.seq #[]}}/\ob=.ref z.heap.objs.size) F.called_list (F.typeCall_list_1 _) F.entry_list_init (code_list_new _ ⟨rfl,rfl⟩) ?_
 rintro ob z1 ⟨rfl,rfl⟩
 have a0:=Heap.get?_push_size z.heap (o:=({cls:=.type "list",data:=.seq #[]}:Obj)) rfl
 refine⟨⟨_,a0,rfl⟩,F.args_list_init_2 _ _,?_⟩
 show wpAny _ _ (Builtin.List.listItems (.ref _) >>= λys=>Builtin.List.listUpdate (.ref _) (λ_=>#[]) >>= λ_=>letGo ys.toList.reverse >>= λ_=>Builtin.List.listExtendWith (.ref _) (.ref I) .none) _ _ _
 refine wpAny_bind (show wpAny _ _ (Builtin.List.listItems (.ref _)) _ _ _ from ?_)
 unfold Builtin.List.listItems
 refine wpAny_bind (wpAny_seqItems a0 rfl (wpAny_pure (wpAny_bind ?_)))
 refine wpAny_updateSeq a0 rfl (wpAny_bind (wpAny_letGo ?_))
 have a1:=Heap.get?_update_self (Obj.mapSeq (λ_=>(#[]:Array Value))) a0 rfl
 have keep1:∀b o,z.heap.get? b=some o->((z.heap.push {cls:=.type "list",data:=.seq #[]}).update z.heap.objs.size (Obj.mapSeq (λ_=>(#[]:Array Value)))).get? b=some o:=λb o e=>
   (Heap.get?_update_other _ _ (Nat.ne_of_gt (Heap.lt_size e))).trans (Heap.get?_push_of_some _ e)
 generalize hg1:(z.heap.push {cls:=.type "list",data:=.seq #[]}).update z.heap.objs.size (Obj.mapSeq (λ_=>(#[]:Array Value)))=g1 at a1 keep1
 have st1:St 0 g1:=(J.walk B hB).frame 0 _ _ st λb _ o e=>keep1 b o e
 unfold Builtin.List.listExtendWith
 refine wpAny_bind (wpAny_typeOf (J.ty {z with heap:=g1} st1) ?_)
 simp only[sI,J.nl,J.nt,Bool.or_false,Bool.false_eq_true,if_false]
 refine wpAny_bind ((J.walk B.in1.in1 hB).self 0 {z with heap:=g1} _ _ st1 ?_)
 refine wpAny_bind (wpAny_holding (J.hint B.in1.in1 _ {z with heap:=g1} _ st1 λtk=>?_))
 have run:∀(g:Heap) (c tk:Nat),St 0 g->(∀b o,z.heap.get? b=some o->g.get? b=some o)->g.get? z.heap.objs.size=some {cls:=.type "list",data:=.seq #[] c}->
     codeAny (model P w) B.in1 (.builtin "list.extend.loop" ⟨[.ref z.heap.objs.size,.ref I,.none],[]⟩) (wants (λr z2=>r=.none/\R (.ref z.heap.objs.size) z2) F') {z with heap:=g,toks:=tk}:=λg c tk sg kg ag=>
   codeAny_extend_loopS (J.walk B.in1.in1 hB).toS (by rw[sizeLine_eq];omega) _ (λq=>nI _ q rfl) .none n 0 _ #[] c rfl (Nat.zero_le _) sg ag (ItemsOf.nil _) λz3 xs c3 mv a3 it=>by
     rw[Moved.eq_with mv]
     refine⟨rfl,k z3.heap z3.toks xs c3 (λb o hb e=>mv.heap b o (λq=>?_) (kg b o e)) a3 it⟩
     rcases List.mem_cons.mp q with q | q
     . exact absurd q (Nat.ne_of_lt (Heap.lt_size e))
     . exact hb (List.mem_singleton.mp q)
 refine wpAny_ite_split (λ_=>?_) (λ_=>wpAny_pure ⟨plainId_quiet F.plain_extend_loop _,run g1 _ tk st1 keep1 a1⟩)
 refine wpAny_bind (wpAny_rule (wpAny_bind (show wpAny _ _ (updateSeq z.heap.objs.size (·.push .none) >>= λ_=>updateSeq z.heap.objs.size (·.pop)) _ _ _ from wpAny_bind (wpAny_updateSeq a1 rfl ?_))))
 have a2:=Heap.get?_update_self (Obj.mapSeq (·.push Value.none)) a1 rfl
 refine wpAny_updateSeq (hz:=by seq_fits) a2 rfl ?_
 have keep3:∀b o,b≠z.heap.objs.size->g1.get? b=some o->((g1.update z.heap.objs.size (Obj.mapSeq (·.push Value.none))).update z.heap.objs.size (Obj.mapSeq (·.pop))).get? b=some o:=λb o hb e=>
   (Heap.get?_update_other _ _ (Ne.symm hb)).trans ((Heap.get?_update_other _ _ (Ne.symm hb)).trans e)
 exact wpAny_pure ⟨plainId_quiet F.plain_extend_loop _,run _ _ tk ((J.walk B hB).frame 0 _ _ st1 λb hb o e=>keep3 b o (λq=>nI b hb q.symm) e) (λb o e=>keep3 b o (Nat.ne_of_lt (Heap.lt_size e)) (keep1 b o e)) (Heap.get?_update_self (Obj.mapSeq (·.pop)) a2 rfl)⟩
theorem VN {P:Program} {I:Addr} {x c:Int} {n:Nat} (hn:n<=1048576):WN P w "range_iterator" I [I] n (λi v=>∃t,v=.int (x+i*c) t) (λi h=>IsRangeIter h I (x+(i:Nat)*c) ((n:Int) - (i:Nat)) c) where
 ty:=λ_ st=>⟨_,st,rfl⟩
 nl:=by decide
 nt:=by decide
 walk:=λ_ hB=>Walks.range hB I x c n
 hint:=λB G z R st k=>by
   have st':IsRangeIter z.heap I x n c:=by
     have e1:x+((0:Nat):Int)*c=x:=by simp
     have e2:(n:Int) - ((0:Nat):Int)=n:=by simp
     rw[<-e1,<-e2]
     exact st
   have ty:z.TypeIs (.ref I) "range_iterator":=⟨_,st',rfl⟩
   have few:Builtin.List.listTooLong ((n:Int).toNat)=false:=by unfold Builtin.List.listTooLong;rw[Int.toNat_natCast];exact decide_eq_false (by rw[sizeLine_eq];omega)
   unfold Builtin.List.listLengthHint
   refine wpAny_bind (wpAny_specialOf ty F.nolen_ra ?_)
   refine(show wpAny _ B (specialOf (.ref I) (Str.ofString "__length_hint__") >>= _) _ _ _ from wpAny_bind (wpAny_specialOf ty F.hint_ra ?_))
   (generalize hq:("range_iterator.__length_hint__":String)=q0;(fail_if_success (clear hq q0));wp_delta;rw[show splitId q0=some ("range_iterator","__length_hint__") from by subst hq;decide+kernel];subst hq)
   refine wpAny_bind (wpAny_isInstance (b:=true) ty (by rw[isSubtype_type];kernel_rfl) ?_)
   refine(show wpAny _ B (call (.builtin "range_iterator.__length_hint__") [.ref I] >>= _) _ _ _ from wpAny_bind (YZ st' (wpAny_bind (m:=asInt? (.int (n:Int) _)) (wpAny_pure ?_))))
   dsimp only
   rw[if_neg (by rw[few];decide)]
   exact wpAny_pure (k _)
end
end PySem
namespace L2
open PySem PySem.Spec PyProof.Rows
def Zl (n:Nat):List Nat:=(List.range n).reverse
theorem VG {n:Nat} {acc:Array Value} (h:ItemsOf (λi v=>∃t,v=.int ((n:Int) - 1+i*(-1)) t) acc n):qB ((Zl n).map λi=>V.int (i:Nat)) acc.toList:=by
 obtain⟨hz,hv⟩:=h
 have key:∀(xs:List V) (us:List Value),xs.length=us.length->(∀(i:Nat) (x:V) (u:Value),xs[i]?=some x->us[i]?=some u->qH x u)->qB xs us:=by
   intro xs
   induction xs with
   | nil=>intro us hl _;cases us with | nil=>exact .nil | cons _ _=>cases hl
   | cons x xs ih=>
     intro us hl hp
     cases us with
     | nil=>cases hl
     | cons u us=>exact .cons (hp 0 x u rfl rfl) (ih us (by simpa using hl) λi y w h1 h2=>hp (i+1) y w (by simpa using h1) (by simpa using h2))
 refine key _ _ (by simp [Zl,hz]) λi x u h1 h2=>?_
 have h2':acc[i]?=some u:=by simpa using h2
 obtain⟨t,rfl⟩:=hv i u h2'
 have hi:i < n:=by
   have:=(Array.getElem?_eq_some_iff.mp h2').1
   omega
 rw[List.getElem?_map,Zl,List.getElem?_reverse (by simpa using hi),List.length_range,List.getElem?_range (by omega)]at h1
 simp at h1
 subst h1
 refine⟨t,?_⟩
 congr 1
 omega
section
variable {X:Cx} {e:Expr} {te:TE} {p1 p2 p3 pos1 pos2 pos3:Pos}
theorem UP {M:Model} {A:Around} {E:Value->Shared->Prop} {s:Shared} {env:Env} {e:Expr} {pos:Pos} {R:List Value->Shared->Prop} (hs:starEach [e] env=[(false,eval e env)]) (h:wpAny M A (eval e env) (λv s1=>R [v] s1) E s):
   wpAny M A (spliced (backTo pos (starEach [e] env))) R E s:=by
 rw[hs]
 show wpAny _ _ (spliced ((false,eval e env)::backTo pos [])) _ _ s
 exact Calls.spliced_cons (jc h λu s1 h1=>Calls.spliced_nil h1)
def K4 (te:TE):TE:=λσ H Q=>te σ H λx H1=>∃n:Nat,x=.int n/\n<=1000/\∀l,H1 l=none->Q (.ref l) (upd H1 l (.lst ((Zl n).map λi=>V.int (i:Nat))))
theorem wU (hc:X.calm=true) (g1:Gl X "list") (m1:X.mg "list"=none) (g2:Gl X "reversed") (m2:X.mg "reversed"=none) (g3:Gl X "range") (m3:X.mg "range"=none) (ha:JE X e te) (hs:starEach [e] X.env=[(false,eval e X.env)]:=by rfl) (hs2:starEach [.Call (.Name "range" p3) [e] [] pos3] X.env=[(false,eval (.Call (.Name "range" p3) [e] [] pos3) X.env)]:=by rfl) (hs3:starEach [.Call (.Name "reversed" p2) [.Call (.Name "range" p3) [e] [] pos3] [] pos2] X.env=[(false,eval (.Call (.Name "reversed" p2) [.Call (.Name "range" p3) [e] [] pos3] [] pos2) X.env)]:=by rfl):JE X (.Call (.Name "list" p1) [.Call (.Name "reversed" p2) [.Call (.Name "range" p3) [e] [] pos3] [] pos2] [] pos1) (K4 te):=.of (by
 have ha:=ha.to
 intro pins s σ H Q I h
 refine Call_ (Qx I g1 m1 boot_list (PyProof.Rows.callWith_type1 (UP hs3 ?_) (by rw[hs3];rfl) rfl))
 refine Call_ (Qx I g2 m2 boot_reversed (PyProof.Rows.callWith_type1 (UP hs2 ?_) (by rw[hs2];rfl) rfl))
 refine Call_ (Qx I g3 m3 boot_range (PyProof.Rows.callWith_type1 (UP hs (jc (ha pins s σ H _ I h) λu s1 ⟨x,H1,I1,r1,q1⟩=>?_)) (by rw[hs];rfl) rfl))
 obtain⟨n,rfl,hn,q⟩:=q1
 obtain⟨t,rfl⟩:=r1
 refine call_range_1 ?_
 refine Jv (IsRange.new ..) (by omega) ?_
 refine(VN (x:=(n:Int) - 1) (c:=-1) (n:=n) (by omega)).list (I1.ok.hd hc) (by
   have e1:(n:Int) - 1+((0:Nat):Int)*(-1)=(n:Int) - 1:=by simp
   have e2:(n:Int) - ((0:Nat):Int)=n:=by simp
   rw[e1,e2]
   exact Heap.get?_push_size _ rfl) (by simp) (λb hb=>by rw[List.mem_singleton.mp hb,Heap.size_push (_:Heap) (zm _ _ _)];exact Nat.lt_succ_self _) (by omega) λh' tk acc' c' kp e hi=>?_
 have kk:∀b o,s1.heap.get? b=some o->h'.get? b=some o:=λb o eb=>by
   refine kp b o (Nat.ne_of_lt ?_) (Heap.get?_push_of_some _ (Heap.get?_push_of_some _ eb))
   rw[Heap.size_push]
   exact Nat.lt_succ_of_lt (Heap.lt_size eb)
 have s1z:s1.heap.objs.size<=((s1.heap.push ({cls:=.type "range",data:=.fields #[.int 0 s1.toks,.int n t,.int 1 (s1.toks+1)]}:Obj)).push (zm ((n:Int) - 1) n (-1))).objs.size:=by
   rw[Heap.size_push,Heap.size_push]
   omega
 exact⟨.ref _,_,I1.laid (t':=tk) (o:=.lst ((Zl n).map λi=>V.int (i:Nat))) kk s1z ⟨by simp only[List.length_map,Zl,List.length_reverse,List.length_range];exact Nat.le_of_lt (qt hn),acc'.toList,c',VG hi,by simpa using e⟩,rfl,q _ (I1.hok.fresh s1z)⟩)
end
end L2
set_option Elab.async false
set_option linter.all false
set_option maxRecDepth 100000
set_option maxHeartbeats 4000000
namespace PySem
namespace F
end F
end PySem
namespace L2
open PySem PySem.Spec PyProof.Rows
theorem V0:∀(xs:List V) (us:List Value),xs.length=us.length->(∀(i:Nat) (x:V) (u:Value),xs[i]?=some x->us[i]?=some u->qH x u)->qB xs us:=by
 intro xs
 induction xs with
 | nil=>intro us hl _;cases us with | nil=>exact .nil | cons _ _=>cases hl
 | cons x xs ih=>
   intro us hl hp
   cases us with
   | nil=>cases hl
   | cons u us=>exact .cons (hp 0 x u rfl rfl) (ih us (by simpa using hl) λi y w h1 h2=>hp (i+1) y w (by simpa using h1) (by simpa using h2))
section
variable {X:Cx} {e:Expr} {te:TE} {p1 p2 pos1 pos2:Pos}
end
end L2
set_option Elab.async false
set_option linter.all false
set_option maxRecDepth 100000
set_option maxHeartbeats 4000000
namespace L2
open PySem PySem.Spec PyProof.Rows
section
variable {X:Cx} {pins:List (Addr×Obj)} {σ:St} {H:Hp} {s:Shared} {h':Heap}
theorem qu.turnLaid {L:List Addr} {T:Addr} {o:HO} {t':Nat} (I:qu X pins σ H s) (k:∀b u,b∉L->s.heap.get? b=some u->h'.get? b=some u) (hf:∀b∈L,JM X pins H b) (hp:s.heap.objs.size<=T)
   (new:qA X.prog X.w (upd H T o) h' T o):qu X pins σ (upd H T o) {s with heap:=h',toks:=t'}:=by
 have hn:H T=none:=I.hok.fresh hp
 have up:∀b u,H b=some u->upd H T o b=some u:=λb u e=>by rw[qe (qo e hn)];exact e
 have nL:∀b u,H b=some u->b∉L:=λb u e z=>by rw[(hf b z).1]at e;cases e
 refine I.step (g':=s.gens) (d':=s.drawn) (ch:=L) (λb hb=>?_) (λb o _ _ hc e _=>k b o hc e) (λb o _ _ hc e _=>⟨o.slots,k b o hc e⟩) (λb ob hc e n=>?_)
   (λb o hc e=>⟨o,k b o hc e⟩) (λb xs e=>up b _ e) (λb o u e=>up b _ e) (λb ps e=>⟨#[],by rw[up b _ e];simp⟩) (λm hm=>?_) (λb u e=>?_) I.bare
 . obtain⟨f0,f1,f2,f3,f4,f5⟩:=hf b hb
   exact⟨f3,f1,f4,f5⟩
 . have:b≠T:=Nat.ne_of_lt (Nat.lt_of_lt_of_le (Heap.lt_size e) hp)
   rw[qe this]
   exact n
 . obtain⟨o,es,ep,ho,r⟩:=hm
   exact⟨o,es,ep,k _ o (λz=>(hf _ z).2.1 rfl) ho,r⟩
 . by_cases hb:b=T
   . subst hb
     rw[qd]at e
     cases e
     exact new
   . rw[qe hb]at e
     refine(I.hok b u e).stay (λc v hc q=>k c v ?_ q) (λc q=>up c _ q) (λc xs q=>up c _ q) (λc o q=>up c _ q)
     rcases hc with z | z
     . rw[z];exact nL b u e
     . exact nL c _ z
theorem qu.turnedL {L:List Addr} {t':Nat} (I:qu X pins σ H s) (k:∀b u,b∉L->s.heap.get? b=some u->h'.get? b=some u) (hf:∀b∈L,JM X pins H b):qu X pins σ H {s with heap:=h',toks:=t'}:=by
 have nL:∀b u,H b=some u->b∉L:=λb u e z=>by rw[(hf b z).1]at e;cases e
 refine I.step (g':=s.gens) (d':=s.drawn) (ch:=L) (λb hb=>?_) (λb o _ _ hc e _=>k b o hc e) (λb o _ _ hc e _=>⟨o.slots,k b o hc e⟩) (λ_ _ _ _ n=>n)
   (λb o hc e=>⟨o,k b o hc e⟩) (λ_ _ e=>e) (λ_ _ _ e=>e) (λb ps e=>⟨#[],by rw[e];simp⟩) (λm hm=>?_) (λb u e=>?_) I.bare
 . obtain⟨f0,f1,f2,f3,f4,f5⟩:=hf b hb
   exact⟨f3,f1,f4,f5⟩
 . obtain⟨o,es,ep,ho,r⟩:=hm
   exact⟨o,es,ep,k _ o (λz=>(hf _ z).2.1 rfl) ho,r⟩
 . refine(I.hok b u e).stay (λc v hc q=>k c v ?_ q) (λ_ q=>q) λ_ _ q=>q
   rcases hc with z | z
   . rw[z];exact nL b u e
   . exact nL c _ z
end
section
variable {X:Cx} {elts:List Expr} {x1:Nat} {tpos:Pos}
end
end L2
set_option Elab.async false
set_option linter.all false
set_option maxRecDepth 100000
set_option maxHeartbeats 4000000
namespace L2
open PySem PySem.Spec PyProof.Rows
section
variable {X:Cx}
theorem z0:∀{cs:List Addr} {us:List Value},qB (cs.map V.ref) us->us=cs.map Value.ref
 | [],_,.nil=>rfl
 | c::cs,u::us,.cons r t=>by
   obtain rfl:u=Value.ref c:=r
   rw[List.map_cons,z0 t]
end
section
variable {X:Cx} {o e:Expr} {es:List Expr} {ta:TE} {t:TA} {m:Str} {C C' f f':Addr} {fd fd':FuncData} {ps ps':List Str} {k k':Nat} {sp sp':Sp} {apos pos:Pos}
end
section
variable {X:Cx} {e:Expr} {es:List Expr} {te:TE} {t:TA}
end
end L2
set_option Elab.async false
set_option linter.all false
set_option maxRecDepth 100000
set_option maxHeartbeats 4000000
namespace L2
open PySem PySem.Spec PySem.W PyProof.Rows
theorem xH:∀(f n r:Nat),r<=1->minRun' f n r<=n+r
 | 0,n,r,_=>Nat.le_refl _
 | f+1,n,r,hr=>by
   rw[minRun'_succ]
   split
   . exact Nat.le_refl _
   . have h1:max r (n % 2)<=1:=Nat.max_le.mpr ⟨hr,by omega⟩
     have:=xH f (n / 2) (max r (n % 2)) h1
     omega
section
variable {P:Program} {w:World} {B:Around} {F:Value->Shared->Prop} {κ:SortKind} {it:Array Keyed} {z:Shared}
theorem Xl {n:Nat} {R:Nat->Shared->Prop} (hc:∀i,1<=i->i < n->∀C:Bool->Shared->Prop,C false z->kas_cmp P w B κ it i (i - 1) C z) (hR:R n z):
   ∀(f a:Nat),1<=a->a+f=n->(kas_asc (List.toArray (List.range n)) f a).kasWp (kas_cmp P w B κ it) R z
 | 0,a,_,e=>by
   have e':a=n:=by omega
   subst e'
   exact hR
 | f+1,a,h1,e=>by
   have g:∀i,i < n->(List.toArray (List.range n)).getD i 0=i:=λi hi=>by simp [Array.getD,hi]
   show kas_cmp P w B κ it ((List.toArray (List.range n)).getD a 0) ((List.toArray (List.range n)).getD (a - 1) 0) _ z
   rw[g a (by omega),g (a - 1) (by omega)]
   refine hc a h1 (by omega) _ ?_
   show KasT.kasWp _ (if false=true then _ else _) R z
   rw[if_neg Bool.false_ne_true]
   exact Xl hc hR f (a+1) (by omega) (by omega)
theorem VT {n:Nat} {Q:Unit->SortSt->Shared->Prop} (h2:2<=n) (hc:∀i,1<=i->i < n->∀C:Bool->Shared->Prop,C false z->kas_cmp P w B κ it i (i - 1) C z)
   (hQ:∀st,arrOf st=(List.toArray (List.range n)).map (kas_item it)->failedOf st=none->Q () st z):kasC (model P w) B F sortRuns' Q (kas_st κ it (List.toArray (List.range n))) z:=by
 obtain⟨r,rfl⟩:∃r,n=r+2:=⟨n - 2,by omega⟩
 have sz:(List.toArray (List.range (r+2))).size=r+2:=by simp
 have sa:(arrOf (kas_st κ it (List.toArray (List.range (r+2))))).size=r+2:=(Array.size_map ..).trans sz
 have le:=xH (r+2) (r+2) 0 (by decide)
 rw[sortRuns'_eq]
 refine kasC_bind (kasC_get ?_)
 dsimp only
 rw[sa]
 generalize minRun' (r+2) (r+2) 0=M at le
 refine kasC_bind (kasC_range (show kasC _ _ _ (forIn (0::1::List.range' 2 r) _ _) _ _ _ from kasC_cons ?_))
 dsimp only
 rw[if_neg (by omega)]
 simp only[Nat.sub_zero,Nat.zero_add]
 refine kasC_bind (kas_count_ (G:=λq z'=>q=(r+2,List.toArray (List.range (r+2)))/\z'=z) (by omega) (by rw[sz];exact Nat.le_refl _) (λm p' z' _ _ _ hg=>?_) ?_)
 . obtain⟨e,rfl⟩:=hg
   cases e
   dsimp only
   rw[if_neg (by omega)]
   refine kasC_bind (kasC_get ?_)
   rw[show (pendingOf (kas_st κ it (List.toArray (List.range (r+2))))).back?=none from rfl]
   dsimp only
   refine kasC_bind (kasC_modify (kasC_pure (show kasC _ _ _ (forIn (1::List.range' 2 r) _ _) _ _ _ from kasC_cons ?_)))
   dsimp only
   rw[if_pos (Nat.le_refl _)]
   refine kasC_pure ?_
   dsimp only
   refine kasC_bind (kasC_range (show kasC _ _ _ (forIn (0::1::List.range' 2 r) _ _) _ _ _ from kasC_cons (kasC_bind (kasC_get ?_))))
   rw[if_pos (show (pendingOf (setPending (kas_st κ it (List.toArray (List.range (r+2)))) ((pendingOf (kas_st κ it (List.toArray (List.range (r+2))))).push (0,r+2,0)))).size<=1 from Nat.le_refl 1)]
   refine kasC_pure ?_
   dsimp only
   exact kasC_pure (hQ _ rfl rfl)
 . unfold kas_count
   rw[KasT.kasWp_bind]
   refine Xl hc ?_ _ 1 (Nat.le_refl 1) (by omega)
   rw[if_pos (beq_self_eq_true _)]
   exact⟨rfl,rfl⟩
end
def Q1 (h:Heap) (v:Value) (k:Int×Int):Prop:=∃p o n t u,v=.ref p/\h.get? p=some o/\o.cls=.type "tuple"/\o.data=.seq #[.int k.1 t,.int k.2 u] n
def zA (a b:Int×Int):Prop:=a.1 < b.1\/(a.1=b.1/\a.2 < b.2)
section
variable {P:Program} {w:World} {B:Around} {F:Value->Shared->Prop} {z:Shared}
theorem Xo {v u:Value} {a b:Int×Int} (hv:Q1 z.heap v b) (hu:Q1 z.heap u a) (hlt:zA a b) {C:Bool->Shared->Prop} (hC:C false z):wpAny (model P w) B (keyLt' (tuples' true) v u) C (λ_ _=>False) z:=by
 obtain⟨p,o,n,t1,t2,rfl,h1,_,d1⟩:=hv
 obtain⟨p',o',n',t1',t2',rfl,h1',_,d1'⟩:=hu
 refine kat_lt h1 d1 h1' d1' ?_
 show KatLex P w B true _ C [(.int b.1 t1,.int a.1 t1'),(.int b.2 t2,.int a.2 t2')] 0 z
 refine kat_cons (SeqAt.EqAt.int_int b.1 t1 a.1 t1' P w _ _ ?_)
 rcases hlt with h | ⟨h,h'⟩
 . have e:(b.1==a.1)=false:=by
     rw[beq_eq_false_iff_ne]
     omega
   rw[e]
   refine kat_no (show wpAny _ _ (oneLt' true _ _) _ _ _ from oneLt_int ?_)
   rw[decide_eq_false (by omega)]
   exact hC
 . have e:(b.1==a.1)=true:=by rw[h];exact beq_self_eq_true _
   rw[e]
   refine kat_yes (kat_cons (SeqAt.EqAt.int_int b.2 t2 a.2 t2' P w _ _ ?_))
   have e2:(b.2==a.2)=false:=by
     rw[beq_eq_false_iff_ne]
     omega
   rw[e2]
   refine kat_no (show wpAny _ _ (oneLt' false _ _) _ _ _ from kat_one _ _ (lt_int ?_))
   show C (decide (b.2 < a.2)) z
   rw[decide_eq_false (by omega)]
   exact hC
theorem Q1.keep {h h':Heap} {v:Value} {k:Int×Int} (x:Q1 h v k) (kp:∀b o,h.get? b=some o->o.cls=.type "tuple"->h'.get? b=some o):Q1 h' v k:=by
 obtain⟨p,o,n,t,u,e,h1,c,d⟩:=x
 exact⟨p,o,n,t,u,e,kp p o h1 c,c,d⟩
theorem Ya (vs:List Value):(pairsOf vs).map (·.2)=vs.toArray:=by
 apply Array.ext'
 rw[Array.toList_map,pairsOf_toList,List.map_snd_zip (Nat.le_refl _)]
theorem WU {h:Heap}:∀(vs:List Value) (ks:List (Int×Int)),vs.length=ks.length->(∀(i:Nat) (v:Value) (k:Int×Int),vs[i]?=some v->ks[i]?=some k->Q1 h v k)->∃fs,KatTups h vs fs/\fs.length=vs.length/\∀v∈fs,∃i t,v=Value.int i t
 | [],_,_,_=>⟨[],.nil,rfl,λv hv=>(nomatch hv)⟩
 | v::vs,[],hl,_=>by cases hl
 | v::vs,k::ks,hl,hv=>by
   obtain⟨fs,tf,lf,hf⟩:=WU vs ks (Nat.succ.inj hl) λi u q e1 e2=>hv (i+1) u q (by simpa using e1) (by simpa using e2)
   obtain⟨p,o,n,t,u,rfl,h1,c,d⟩:=hv 0 v k rfl rfl
   refine⟨.int k.1 t::fs,.cons h1 c d rfl tf,by simp [lf],λx hx=>?_⟩
   rcases List.mem_cons.mp hx with e | hx
   . exact⟨_,_,e⟩
   . exact hf x hx
theorem VL {a:Addr} {vs:List Value} {ks:List (Int×Int)} {n:Nat} {R:PySem.Fin->Shared->Prop} (ho:z.heap.get? a=some (seqObj "list" vs.toArray n)) (hl:vs.length=ks.length) (hv:∀(i:Nat) (v:Value) (k:Int×Int),vs[i]?=some v->ks[i]?=some k->Q1 z.heap v k)
   (hr:∀(i:Nat) (k k':Int×Int),ks[i]?=some k->ks[i+1]?=some k'->zA k k') (hz:vs.length<=100000)
   (k:R (.done (.ret .none)) {z with heap:=sortedHeap z.heap a vs vs.toArray}):wpAny (model P w) B (Builtin.«list.sort» ⟨[.ref a],[]⟩) R F z:=by
 have na:∀b o,z.heap.get? b=some o->o.cls=.type "tuple"->b≠a:=λb o e c q=>by
   rw[q,ho]at e
   cases e
   exact absurd c (show ¬Value.type "list"=Value.type "tuple" by decide)
 rw[list_sort_plain]
 refine wpAny_bind (listItems_at ho rfl (wpAny_bind (listUpdate_at ho rfl ?_)))
 obtain⟨c1,o1⟩:∃c,(z.heap.update a (Obj.mapSeq λ_=>#[])).get? a=some (seqObj "list" #[] c):=⟨_,get?_update_seq ho (λ_=>#[])⟩
 refine wpAny_bind (seqEpoch_at o1 rfl (wpAny_bind (wpAny_newTuple (wpAny_bind (wpAny_newList (wpAny_holding ?_))))))
 have lt:=Heap.lt_size ho
 have o2:(((z.heap.update a (Obj.mapSeq λ_=>#[])).push (seqObj "tuple" vs.toArray 0)).push (seqObj "list" #[] 0)).get? a=some (seqObj "list" #[] c1):=Heap.get?_push_of_some _ (Heap.get?_push_of_some _ o1)
 have kp:∀b o,z.heap.get? b=some o->o.cls=.type "tuple"->(((z.heap.update a (Obj.mapSeq λ_=>#[])).push (seqObj "tuple" vs.toArray 0)).push (seqObj "list" #[] 0)).get? b=some o:=λb o e c=>
   Heap.get?_push_of_some _ (Heap.get?_push_of_some _ ((Heap.get?_update_other _ _ (Ne.symm (na b o e c))).trans e))
 show wpAny (model P w) B _ R F {z with heap:=((z.heap.update a (Obj.mapSeq λ_=>#[])).push (seqObj "tuple" vs.toArray 0)).push (seqObj "list" #[] 0)}
 dsimp only
 have sv:vs.toArray.size=vs.length:=by simp
 have ends:∀st:SortSt,(arrOf st).map (·.2)=vs.toArray->failedOf st=none->wpAny (model P w) B (do
     let touched:=(<-seqEpoch a) != c1
     Builtin.List.listUpdate (.ref a) λ_=>(arrOf st).map (·.2)
     if let some e:=failedOf st then rule "list.sort.comparison-raised";throw e
     if touched then rule "list.sort.modified";raiseError "ValueError" "list modified during sort"
     ret .none) R F {z with heap:=((z.heap.update a (Obj.mapSeq λ_=>#[])).push (seqObj "tuple" vs.toArray 0)).push (seqObj "list" #[] 0)}:=λst e f=>by
   refine wpAny_bind (seqEpoch_at o2 rfl ?_)
   rw[e,f]
   refine wpAny_bind (listUpdate_at o2 rfl ?_ (hsz2:=by rw[sv,sizeLine_eq];omega))
   simp only[bne_self_eq_false,Bool.false_eq_true,if_false]
   exact wpAny_pure k
 by_cases h2:vs.toArray.size < 2
 . rw[if_pos h2,if_pos h2]
   refine wpAny_bind (wpAny_pure ?_)
   rw[StateT.run_pure]
   refine wpAny_bind (wpAny_pure ?_)
   exact ends (SortSt.mk' general' (vs.toArray.zip vs.toArray) #[] 7 none) (Ya vs) rfl
 . rw[if_neg h2,if_neg h2]
   have l2:2<=vs.length:=by omega
   have hv':∀(i:Nat) (v:Value) (q:Int×Int),vs[i]?=some v->ks[i]?=some q->Q1 (((z.heap.update a (Obj.mapSeq λ_=>#[])).push (seqObj "tuple" vs.toArray 0)).push (seqObj "list" #[] 0)) v q:=λi v q e1 e2=>(hv i v q e1 e2).keep kp
   obtain⟨fs,tf,lf,hf⟩:=WU vs ks hl hv'
   refine wpAny_bind (kat_kind (T:=.type "int") tf (by omega) (λv q=>?_) rfl ?_)
   . obtain⟨i,t,rfl⟩:=hf v q
     exact Looks.of_pure rfl
   . have e:vs.toArray.zip vs.toArray=(List.toArray (List.range vs.length)).map (kas_item (pairsOf vs)):=by
       have:=kas_range (pairsOf vs)
       rw[pairsOf_size]at this
       exact this.symm
     rw[e]
     have run:kasC (model P w) B F sortRuns' (λ_ st z'=>z'={z with heap:=((z.heap.update a (Obj.mapSeq λ_=>#[])).push (seqObj "tuple" vs.toArray 0)).push (seqObj "list" #[] 0)}/\(arrOf st).map (·.2)=vs.toArray/\failedOf st=none)
         (kas_st (tuples' true) (pairsOf vs) (List.toArray (List.range vs.length))) {z with heap:=((z.heap.update a (Obj.mapSeq λ_=>#[])).push (seqObj "tuple" vs.toArray 0)).push (seqObj "list" #[] 0)}:=by
       refine VT l2 (λi i1 i2 C hC=>?_) λst e1 e2=>⟨rfl,by rw[e1,<-e];exact Ya vs,e2⟩
       unfold kas_cmp
       rw[kas_item_eq,kas_item_eq]
       have g:∀j,j < vs.length->vs[j]?=some (vs.getD j Value.none):=λj hj=>by simp [hj]
       have gk:∀j,j < vs.length->∃q,ks[j]?=some q:=λj hj=>⟨_,List.getElem?_eq_getElem (by omega)⟩
       obtain⟨q1,eq1⟩:=gk i i2
       obtain⟨q0,eq0⟩:=gk (i - 1) (by omega)
       have eq1':ks[i - 1+1]?=some q1:=by rw[show i - 1+1=i by omega];exact eq1
       exact Xo (hv' i _ q1 (g i i2) eq1) (hv' (i - 1) _ q0 (g (i - 1) (by omega)) eq0) (hr (i - 1) q0 q1 eq0 eq1') hC
     refine wpAny_bind (wpAny_mono run (λr z' h3=>?_) λ_ _ x=>x)
     obtain⟨⟨⟩,st⟩:=r
     obtain⟨rfl,e1,e2⟩:=h3
     exact ends st e1 e2
end
end L2
set_option Elab.async false
set_option linter.all false
set_option maxRecDepth 100000
set_option maxHeartbeats 4000000
namespace PySem
def RawD (h:Heap) (d:Addr) (es:Array DictEntry) (ep:Nat):Prop:=∃o,h.get? d=some o/\o.ExactDict/\o.data=.dict es ep
theorem RawD.keep {h h':Heap} {d:Addr} {es:Array DictEntry} {ep:Nat} (x:RawD h d es ep) (k:∀o,h.get? d=some o->h'.get? d=some o):RawD h' d es ep:=let ⟨o,e,r⟩:=x;⟨o,k o e,r⟩
section
variable {P:Program} {w:World} {B:Around} {F':Value->Shared->Prop} {z:Shared} {d I:Addr} {es:Array DictEntry} {ep i:Nat}
theorem RawD.ty (x:RawD z.heap d es ep):z.TypeIs (.ref d) "dict":=let ⟨o,e,c,_⟩:=x;⟨o,e,c.1⟩
theorem vb {R:Value->Shared->Prop} (hd:(d==sysModules)=false) (x:RawD z.heap d es ep)
   (k:R (.ref z.heap.objs.size) {z with heap:=z.heap.push {cls:=.type "dict_keyiterator",data:=.fields #[.ref d,.int 0 0,.int es.size 0,.int ep 0]}}):wpAny (model P w) B (pyIter (.ref d)) R F' z:=by
 have ty:=x.ty
 obtain⟨o,ho,_,dat⟩:=x
 refine wpAny_pyIter_slot ty F.slot_dict_iter (wpAny_call_entry F.slot_dict_iter ty F.entry_dict_iter ?_ (F.args_dict_iter_1 _))
 unfold Builtin.«dict.__iter__»
 refine wpAny_bind (show wpAny _ _ (Builtin.Dict.dictSlotNone _ _) _ _ _ from ?_)
 unfold Builtin.Dict.dictSlotNone
 refine wpAny_bind (wpAny_notOrdered_dict ty (show wpAny _ _ (pure (Value.ref d)) _ _ z from wpAny_pure ?_))
 refine(show wpAny _ _ (Builtin.Dict.showsAll d >>= _) _ _ z from ?_)
 unfold Builtin.Dict.showsAll
 rw[if_neg (by rw[hd];exact Bool.false_ne_true)]
 refine wpAny_bind (wpAny_pure (wpAny_bind (wpAny_dictEntries ho dat (wpAny_bind (wpAny_dictEpoch ho dat ?_)))))
 exact wpAny_bind (wpAny_newObj_type (wpAny_pure ⟨_,rfl,"dict_keyiterator",_,⟨_,Heap.get?_push_size _ rfl,rfl⟩,F.slot_dict_keyiterator_next.lookup,by simpa [rawInt] using k⟩))
theorem va {R:Option Value->Shared->Prop} (hit:z.heap.IsKeyIter I d i es.size ep) (x:RawD z.heap d es ep) (hi:i < es.size)
   (k:∀h',h'.IsKeyIter I d (i+1) es.size ep->Heap.SameBut I z.heap h'->R (some es[i].key) {z with heap:=h'}):wpAny (model P w) B (pyNext (.ref I)) R F' z:=by
 obtain⟨o,ho,hc,hd⟩:=id hit
 obtain⟨od,hod,_,dat⟩:=x
 have ty:=hit.typeIs
 unfold pyNext
 refine wpAny_bind (wpAny_attempt (wpAny_callSpecial?_slot (name:=Str.ofString "__next__") ty F.slot_dict_keyiterator_next (wpAny_call_entry F.slot_dict_keyiterator_next ty F.entry_dict_keyiterator_next ?_ (F.args_dict_keyiterator_next_1 _))))
 refine wpAny_bind (wpAny_pure (wpAny_bind (wpAny_bind (wpAny_bind ?_))))
 first | refine wpAny_typeNameOfWhole_keyiter ty (wpAny_pure (wpAny_bind (wpAny_fieldsOf ho hd ?_))) | refine wpAny_typeNameOf_keyiter ty (wpAny_pure (wpAny_bind (wpAny_fieldsOf ho hd ?_)))
 have own:Builtin.Dict_items.ownsTuple "dict_keyiterator"=false:=by decide
 simp only[own,Bool.false_eq_true,if_false]
 show wpAny _ _ (if (Value.ref d==Value.none)=true then _ else _) _ _ z
 rw[if_neg (show ¬((Value.ref d==Value.none)=true) from Bool.false_ne_true)]
 refine wpAny_bind (wpAny_pure (wpAny_bind (wpAny_dictEntries hod dat ?_)))
 rw[if_neg (by simp)]
 refine wpAny_bind (wpAny_pure (wpAny_bind (wpAny_dictEpoch hod dat ?_)))
 rw[if_neg (by simp)]
 refine wpAny_pure ?_
 simp only[show ¬((i:Int) < 0) from by omega,if_false,Int.toNat_natCast,Array.getElem?_eq_getElem hi]
 refine wpAny_bind (wpAny_bind ?_)
 first | refine wpAny_typeNameOfWhole_keyiter ty (wpAny_pure (wpAny_bind (wpAny_isOneOf_keyiter ty ?_))) | refine wpAny_typeNameOf_keyiter ty (wpAny_pure (wpAny_bind (wpAny_isOneOf_keyiter ty ?_)))
 refine(show wpAny _ _ (setField (.ref I) 1 (rawInt ((i:Int)+1)) >>= _) _ _ z from wpAny_bind (wpAny_setField ho hd (by simp) ?_))
 have hit':(z.heap.update I (Obj.mapFields (·.setIfInBounds 1 (rawInt ((i:Int)+1))))).IsKeyIter I d (i+1) es.size ep:=
   ⟨_,Heap.get?_update_self _ ho (Obj.isFreed_of_fields (Obj.data_mapFields hd _)),(Obj.cls_mapFields ..).trans hc,by rw[Obj.data_mapFields hd];simp [rawInt]⟩
 refine wpAny_bind (wpAny_holding (wpAny_bind (wpAny_isOneOf_keyiter (s:={z with heap:=z.heap.update I (Obj.mapFields (·.setIfInBounds 1 (rawInt ((i:Int)+1))))}) hit'.typeIs ?_)))
 refine(show wpAny _ _ (pure es[i].key) _ _ _ from wpAny_pure (wpAny_pure ⟨_,rfl,wpAny_pure (k _ hit' (Heap.SameBut.update ..))⟩))
theorem yj {R:Option Value->Shared->Prop} (hB:B.handled=none) (hit:z.heap.IsKeyIter I d i es.size ep) (x:RawD z.heap d es ep) (hi:es.size<=i)
   (k:∀h',Heap.ExtBut I z.heap h'->R none {z with heap:=h'}):wpAny (model P w) B (pyNext (.ref I)) R F' z:=by
 obtain⟨o,ho,hc,hd⟩:=id hit
 obtain⟨od,hod,_,dat⟩:=x
 have ty:=hit.typeIs
 unfold pyNext
 refine wpAny_bind (wpAny_attempt (wpAny_callSpecial?_slot (name:=Str.ofString "__next__") ty F.slot_dict_keyiterator_next (wpAny_call_entry F.slot_dict_keyiterator_next ty F.entry_dict_keyiterator_next ?_ (F.args_dict_keyiterator_next_1 _))))
 refine wpAny_bind (wpAny_pure (wpAny_bind (wpAny_bind (wpAny_bind ?_))))
 first | refine wpAny_typeNameOfWhole_keyiter ty (wpAny_pure (wpAny_bind (wpAny_fieldsOf ho hd ?_))) | refine wpAny_typeNameOf_keyiter ty (wpAny_pure (wpAny_bind (wpAny_fieldsOf ho hd ?_)))
 have own:Builtin.Dict_items.ownsTuple "dict_keyiterator"=false:=by decide
 simp only[own,Bool.false_eq_true,if_false]
 show wpAny _ _ (if (Value.ref d==Value.none)=true then _ else _) _ _ z
 rw[if_neg (show ¬((Value.ref d==Value.none)=true) from Bool.false_ne_true)]
 refine wpAny_bind (wpAny_pure (wpAny_bind (wpAny_dictEntries hod dat ?_)))
 rw[if_neg (by simp)]
 refine wpAny_bind (wpAny_pure (wpAny_bind (wpAny_dictEpoch hod dat ?_)))
 rw[if_neg (by simp)]
 refine wpAny_pure ?_
 simp only[show ¬((i:Int) < 0) from by omega,if_false,Int.toNat_natCast,Array.getElem?_eq_none hi]
 refine wpAny_bind (wpAny_bind ?_)
 first | refine wpAny_typeNameOfWhole_keyiter ty (wpAny_pure ?_) | refine wpAny_typeNameOf_keyiter ty (wpAny_pure ?_)
 refine(show wpAny _ _ (setField (.ref I) 0 .none >>= _) _ _ z from wpAny_bind (wpAny_setField ho hd (by simp) ?_))
 refine(show wpAny _ _ (newExc (.type "StopIteration") [] >>= _) _ _ _ from wpAny_bind ?_)
 simp only[newExc,newTuple]
 refine wpAny_bind (wpAny_newObj_type (wpAny_bind (m:=firstArgMember _ _) (wpAny_of_eq (a:=Value.none) (by first | rfl | (simp only[firstArgMember];rfl)) (wpAny_newObj_type ?_ (by size_fits)))) (by size_fits))
 simp only[raiseNew]
 refine wpAny_bind (wpAny_handled ?_)
 rw[show B.in1.handled=none from hB]
 refine wpAny_bind (wpAny_pure (wpAny_throw ?_))
 refine wpAny_bind (wpAny_isInstance (T:="StopIteration") (b:=true) ⟨_,Heap.get?_push_size _ rfl,rfl⟩ isSubtype_stop ?_)
 exact wpAny_pure (k _ ((((Heap.SameBut.update ..).extBut).push _).push _))
end
end PySem
namespace PySem
open PySem.W
section
variable {P:Program} {w:World} {d:Addr} {es:Array DictEntry} {ep:Nat}
theorem VU {B:Around} (hB:B.handled=none) (I:Addr) (hne:d≠I):Walks P w B I [I,d] [I] es.size (λi v=>∃h:i < es.size,v=es[i].key) (λi h=>h.IsKeyIter I d i es.size ep/\RawD h d es ep) where
 sub:=λb hb=>by simp at hb;simp [hb]
 frame:=λ_ _ _ st k=>⟨st.1.at λo e=>k I (by simp) o e,st.2.keep λo e=>k d (by simp) o e⟩
 item:=λi z R G hi st q=>va st.1 st.2 hi λh' it' sb=>q _ h' z.toks ⟨hi,rfl⟩ ⟨it',st.2.keep λo e=>sb.extBut d o hne e⟩ λb o hb e=>sb.extBut b o (λx=>hb (by simp [x])) e
 done:=λz R G st q=>yj hB st.1 st.2 (Nat.le_refl _) λh' eb=>q h' z.toks λb o hb e=>eb b o (λx=>hb (by simp [x])) e
 self:=λ_ _ _ _ st q=>wpAny_pyIter_keyiter st.1 q
theorem yi (hd:(d==sysModules)=false):KdlSrc P w "dict" d d es.size (λi v=>∃h:i < es.size,v=es[i].key) (λh=>RawD h d es ep) where
 type:=λz x=>x.ty
 there:=λh x=>let ⟨o,e,_⟩:=x;⟨Heap.lt_size e,Heap.lt_size e⟩
 keep:=λh h' x k=>x.keep λo e=>k d (.inl rfl) o e
 notList:=by decide
 notTuple:=by decide
 hint:=λ_ _ _ _ x q=>kdl_hint_dict x.ty q
 iter:=λA z hh x=>⟨_,_,λE Q q=>vb hd x q,VU hh _ (let ⟨o,e,_⟩:=x;Nat.ne_of_lt (Heap.lt_size e)),⟨⟨_,Heap.get?_push_size _ rfl,rfl,rfl⟩,x.keep λo e=>Heap.get?_push_of_some _ e⟩⟩
end
end PySem
namespace L2
open PySem PySem.Spec PySem.W PyProof.Rows
theorem zt {α β:Type} {G:α->β->Prop}:∀{l:List α} {m:List β},Paired G l m->∀{i:Nat} {a:α},l[i]?=some a->∃b,m[i]?=some b/\G a b
 | _,_,.nil,i,a,e=>by simp at e
 | _,_,.cons r t,0,a,e=>by cases e;exact⟨_,rfl,r⟩
 | _,_,.cons r t,i+1,a,e=>by
   obtain⟨b,eb,g⟩:=zt t (by simpa using e)
   exact⟨b,by simpa using eb,g⟩
section
variable {X:Cx}
def ZL (k:Int×Int):List qS:=[Sum.inl k.1,Sum.inl k.2]
def wb:List V->Hp->VK->Prop:=λxs H Q=>∃(a:Addr) (kvs:List (List qS×V)) (ks:List (Int×Int)),xs=[.ref a]/\H a=some (.dT kvs)/\kvs.map (·.1)=ks.map ZL/\(∀(i:Nat) (k k':Int×Int),ks[i]?=some k->ks[i+1]?=some k'->zA k k')/\kvs.length<=1000/\
 ∀(l:Addr) (ps:List Addr),H l=none->ps.length=ks.length->(∀(i:Nat) (p:Addr) (k:Int×Int),ps[i]?=some p->ks[i]?=some k->H p=some (.tup [.int k.1,.int k.2]))->Q (.ref l) (upd H l (.lst (ps.map V.ref)))
theorem Y7:∀(ps:List Addr),qB (ps.map V.ref) (ps.map Value.ref)
 | []=>.nil
 | p::ps=>.cons rfl (Y7 ps)
theorem WJ (hc:X.calm=true):jU X (.builtin "sorted") wb:=by
 intro pins s σ H xs us Q I r h
 obtain⟨a,kvs,ks,rfl,ea,eks,hr,hz,q⟩:=h
 obtain⟨u,rfl,ru⟩:=Qj r
 cases ru
 obtain⟨_,hsys,ys,pr,o,es,ep,eo,ex,dat,ents,_⟩:=(show qA X.prog X.w H s.heap a (.dT kvs) from I.hok a _ ea)
 have ly:kvs.length=ys.length:=Paired.length pr
 have lk:kvs.length=ks.length:=by simpa using congrArg List.length eks
 have se:es.size=ys.length:=by rw[<-Array.length_toList,ents,List.length_map]
 have key:∀i (hi:i < es.size),es[i].key=.ref ((ys.map (·.2.1)).getD i 0):=λi hi=>by
   have e1:es.toList[i]?=some es[i]:=by simp [hi]
   have hy:i < ys.length:=by omega
   rw[ents,List.getElem?_map,List.getElem?_eq_getElem hy]at e1
   have e2:=(Option.some.inj e1).symm
   rw[e2]
   show Value.ref ys[i].2.1=_
   simp [hy]
 have tup:∀(i:Nat) (p:Addr) (k:Int×Int),(ys.map (·.2.1))[i]?=some p->ks[i]?=some k->H p=some (.tup [.int k.1,.int k.2]):=λi p k e1 e2=>by
   rw[List.getElem?_map]at e1
   cases ey:ys[i]? with
   | none=>rw[ey]at e1;cases e1
   | some y=>
     rw[ey]at e1
     have ep':y.2.1=p:=Option.some.inj e1
     have hi:i < kvs.length:=by
       have:=(List.getElem?_eq_some_iff.mp ey).1
       omega
     obtain⟨y',ey',g1,g2,_⟩:=zt pr (List.getElem?_eq_getElem hi)
     rw[ey]at ey'
     cases ey'
     have ek:kvs[i].1=ZL k:=by
       have h1:(kvs.map (·.1))[i]?=some kvs[i].1:=by rw[List.getElem?_map,List.getElem?_eq_getElem hi];rfl
       rw[eks,List.getElem?_map,e2]at h1
       exact(Option.some.inj h1).symm
     rw[ek,ep']at g2
     exact g2
 have hh:X.A.in1.handled=none:=I.ok.hd hc
 refine Calls.call_function_entry kind_sorted plain_sorted entry_sorted (args_sorted1 _) ?_
 unfold Builtin.«sorted»
 refine wpAny_bind (m:=checkCount "sorted" 1 1 _) (wpAny_pure ?_)
 refine wpAny_bind (kdu_collect (yi (es:=es) (ep:=ep) hsys) hh ⟨o,eo,ex,dat⟩ (by rw[se,sizeLine_eq];omega) λh1 tk acc k1 it=>?_)
 have eacc:acc.toList=(ys.map (·.2.1)).map Value.ref:=by
   refine List.ext_getElem? λi=>?_
   by_cases hi:i < es.size
   . have ha:i < acc.size:=by rw[it.1];exact hi
     have e1:acc[i]?=some acc[i]:=Array.getElem?_eq_getElem ha
     obtain⟨h',e2⟩:=it.2 i _ e1
     rw[Array.getElem?_toList,e1,e2,key i hi,List.getElem?_map]
     have hy:i < (ys.map (·.2.1)).length:=by rw[List.length_map];omega
     rw[List.getElem?_eq_getElem hy]
     simp [List.getD_eq_getElem?_getD,List.getElem?_eq_getElem hy]
   . rw[List.getElem?_eq_none (by rw[Array.length_toList,it.1];omega),List.getElem?_eq_none (by rw[List.length_map,List.length_map];omega)]
 rw[eacc]
 generalize hps:ys.map (·.2.1)=ps at eacc tup key
 have lp:ps.length=ks.length:=by rw[<-hps,List.length_map];omega
 refine wpAny_bind (wpAny_newList ?_)
 have I1:qu X pins σ H {s with heap:=h1,toks:=tk}:=I.kept (t':=tk) k1
 show wpAny _ _ _ _ _ {s with heap:=h1.push (seqObj "list" (ps.map Value.ref).toArray 0),toks:=tk}
 have oL:(h1.push (seqObj "list" (ps.map Value.ref).toArray 0)).get? h1.objs.size=some (seqObj "list" (ps.map Value.ref).toArray 0):=Heap.get?_push_size _ rfl
 have pa:∀(i:Nat) (v:Value) (k:Int×Int),(ps.map Value.ref)[i]?=some v->ks[i]?=some k->Q1 (h1.push (seqObj "list" (ps.map Value.ref).toArray 0)) v k:=λi v k e1 e2=>by
   rw[List.getElem?_map]at e1
   cases ep1:ps[i]? with
   | none=>rw[ep1]at e1;cases e1
   | some p=>
     rw[ep1]at e1
     obtain rfl:=(Option.some.inj e1).symm
     obtain⟨its,rv,⟨ob,eb,cb,nb,db⟩,_⟩:=I1.tuple (.of (tup i p k ep1 e2):SqT X.K H p _)
     cases rv with
     | cons r1 rv=>
       cases rv with
       | cons r2 rv=>
         cases rv
         obtain⟨t1,rfl⟩:=r1
         obtain⟨t2,rfl⟩:=r2
         exact⟨p,ob,nb,t1,t2,rfl,Heap.get?_push_of_some _ eb,cb,db⟩
 refine wpAny_bind (wpAny_holding (wpAny_call_entry slot_list_sort ⟨_,oL,rfl⟩ entry_list_sort (VL oL (by rw[List.length_map];exact lp) pa hr (by rw[List.length_map];omega) ⟨_,rfl,?_⟩) (args_list_sort _)))
 refine wpAny_pure ⟨_,rfl,?_⟩
 have lne:∀b o,h1.get? b=some o->b≠h1.objs.size:=λb o e=>Nat.ne_of_lt (Heap.lt_size e)
 have kf:∀b o,h1.get? b=some o->(sortedHeap (h1.push (seqObj "list" (ps.map Value.ref).toArray 0)) h1.objs.size (ps.map Value.ref) (ps.map Value.ref).toArray).get? b=some o:=λb o e=>by
   unfold sortedHeap
   rw[Heap.get?_update_other _ _ (Ne.symm (lne b o e))]
   exact Heap.get?_push_of_some _ (Heap.get?_push_of_some _ ((Heap.get?_update_other _ _ (Ne.symm (lne b o e))).trans (Heap.get?_push_of_some _ e)))
 obtain⟨c2,o2⟩:∃c,((h1.push (seqObj "list" (ps.map Value.ref).toArray 0)).update h1.objs.size (Obj.mapSeq λ_=>#[])).get? h1.objs.size=some (seqObj "list" #[] c):=⟨_,get?_update_seq oL (λ_=>#[])⟩
 obtain⟨c3,o3⟩:∃c,(sortedHeap (h1.push (seqObj "list" (ps.map Value.ref).toArray 0)) h1.objs.size (ps.map Value.ref) (ps.map Value.ref).toArray).get? h1.objs.size=some (seqObj "list" (ps.map Value.ref).toArray c):=
   ⟨_,get?_update_seq (Heap.get?_push_of_some _ (Heap.get?_push_of_some _ o2)) (λ_=>(ps.map Value.ref).toArray)⟩
 refine⟨.ref h1.objs.size,_,I1.laid (t':=tk) (o:=.lst (ps.map V.ref)) kf (Nat.le_refl _) ⟨by rw[List.length_map,lp,<-lk];exact Nat.le_of_lt (qt hz),_,c3,Y7 ps,o3⟩,rfl,?_⟩
 exact q _ ps (I1.hok.fresh (Nat.le_refl _)) lp tup
end
end L2
set_option Elab.async false
set_option linter.all false
set_option maxRecDepth 100000
set_option maxHeartbeats 4000000
namespace L2
open PySem PySem.Spec PySem.W PyProof.Rows
section
variable {X:Cx}
def Gn:V->Option Int->Option Int->Hp->VK->Prop:=λx lo hi H Q=>∃(z:Str) (j:Int),x=.str z/\lo=none/\hi=some j/\z.length<=1000/\Q (.str (Txt.slice z none (some j))) H
theorem UZ:Rs X Gn:=by
 intro pins s σ H x v vl vu lo hi sl Q I rx hs pl pu h
 obtain⟨z,j,rfl,rfl,rfl,hz,q⟩:=h
 obtain⟨t,rfl⟩:=rx
 refine⟨"str",_,PySem.F.slot_str_getitem.lookup,typeIs_str _ _ _,?_⟩
 cases pl
 cases pu
 exact wpAny_getItem_str_slice (l:=none) (u:=some (j,_)) (st:=none) hs rfl (post_val_or_str ⟨Nat.le_trans (Txt.slice_le z none (some j)) (Nat.le_of_lt (qt hz)),λt' k=>⟨.str _,H,I.tok k,⟨t',rfl⟩,q⟩⟩)
theorem zg (z:Str) (j:Nat):(Txt.slice z none (some (j:Int))).cps.toList=z.cps.toList.take j:=by
 have hl:z.cps.toList.length=z.length:=Array.length_toList
 have idx:Builtin.Str.strSliceIndices none (some (j:Int)) 1 z.length=(List.range (min j z.length)).map (0+·):=by
   have e:Builtin.Str.strSliceIndices none (some (j:Int)) 1 z.length=sliceRange ((0:Nat):Int) ((min j z.length:Nat):Int) 1:=by
     unfold Builtin.Str.strSliceIndices
     simp only[show (1:Int) > 0 by decide,if_true,show ¬((j:Int) < 0) by omega,if_false]
     congr 1
     omega
   rw[e,sliceRange_one]
   rfl
 unfold Txt.slice
 rw[idx]
 split
 . rename_i h
   have hm:min j z.length=z.length:=by simpa using h
   rw[List.take_of_length_le]
   omega
 . rw[pick_run]
   show (z.cps.toList.drop 0).take (min j z.length)=_
   rw[List.drop_zero]
   by_cases hj:j<=z.length
   . rw[Nat.min_eq_left hj]
   . rw[Nat.min_eq_right (by omega),List.take_of_length_le (by omega),List.take_of_length_le (by omega)]
def xo (n:Nat):List V:=(List.range n).map λi=>V.int (i:Nat)
def tLr (te:TE):TE:=λσ H Q=>te σ H λx H1=>∃n:Nat,x=.int n/\n<=1000/\∀l,H1 l=none->Q (.ref l) (upd H1 l (.lst (xo n)))
theorem kL {n:Nat} {acc:Array Value} (h:ItemsOf (λi v=>∃t,v=.int (0+i*1) t) acc n):qB (xo n) acc.toList:=by
 obtain⟨hz,hv⟩:=h
 refine V0 _ _ (by simp [xo,hz]) λi x u h1 h2=>?_
 have h2':acc[i]?=some u:=by simpa using h2
 obtain⟨t,rfl⟩:=hv i u h2'
 have hi:i < n:=by
   have:=(Array.getElem?_eq_some_iff.mp h2').1
   omega
 unfold xo at h1
 rw[List.getElem?_map,List.getElem?_range hi]at h1
 obtain rfl:=(Option.some.inj h1).symm
 refine⟨t,?_⟩
 congr 1
 omega
variable {e:Expr} {te:TE} {p1 p3 pos1 pos3:Pos}
theorem Kq (hc:X.calm=true) (g1:Gl X "list") (m1:X.mg "list"=none) (g3:Gl X "range") (m3:X.mg "range"=none) (ha:JE X e te) (hs:starEach [e] X.env=[(false,eval e X.env)]:=by rfl) (hs2:starEach [.Call (.Name "range" p3) [e] [] pos3] X.env=[(false,eval (.Call (.Name "range" p3) [e] [] pos3) X.env)]:=by rfl):JE X (.Call (.Name "list" p1) [.Call (.Name "range" p3) [e] [] pos3] [] pos1) (tLr te):=.of (by
 have ha:=ha.to
 intro pins s σ H Q I h
 refine Call_ (Qx I g1 m1 boot_list (PyProof.Rows.callWith_type1 (UP hs2 ?_) (by rw[hs2];rfl) rfl))
 refine Call_ (Qx I g3 m3 boot_range (PyProof.Rows.callWith_type1 (UP hs (jc (ha pins s σ H _ I h) λu s1 ⟨x,H1,I1,r1,q1⟩=>?_)) (by rw[hs];rfl) rfl))
 obtain⟨n,rfl,hn,q⟩:=q1
 obtain⟨t,rfl⟩:=r1
 refine call_range_1 ?_
 refine call_list_range (n:=n) (I1.ok.hd hc) (IsRange.new ..) (small_one (by omega) (by omega) (by omega) (by omega)) (Vd n) (by omega) λh' tk acc' c' kp e hi=>?_
 have s1z:s1.heap.objs.size<=(s1.heap.push ({cls:=.type "range",data:=.fields #[.int 0 s1.toks,.int n t,.int 1 (s1.toks+1)]}:Obj)).objs.size:=by
   rw[Heap.size_push]
   omega
 exact⟨.ref _,_,I1.laid (t':=tk) (o:=.lst (xo n)) (λb o eb=>kp b o (Heap.get?_push_of_some _ eb)) s1z ⟨by simp only[xo,List.length_map,List.length_range];exact Nat.le_of_lt (qt hn),acc'.toList,c',kL hi,by simpa using e⟩,rfl,q _ (I1.hok.fresh s1z)⟩)
theorem Uz (hc:X.calm=true):jU X (.type "set") (λxs H Q=>∃(p:Addr) (ns:List Int),xs=[.ref p]/\SqL X.K H p (ns.map V.int)/\ns.length<=1000/\∀l S,H l=none->Q (.ref l) (upd H l (.set S (firstMet (λi=>ns.getD i 0) ns.length).length))):=by
 intro pins s σ H xs us Q I r h
 obtain⟨p,ns,rfl,hq,hz,q⟩:=h
 obtain⟨u,rfl,ru⟩:=Qj r
 cases ru
 obtain⟨its,rv,pl,_⟩:=I.list hq
 have hl:=rv.length
 rw[List.length_map]at hl
 have hsz:its.toArray.size=ns.length:=by rw[List.size_toArray,<-hl]
 refine call_set_list (ns:=ns) (I.ok.hd hc) pl.isList (by simpa using WB rv) (by rw[hsz];show ns.length+1 < 4096;omega) λh' tk so kp=>?_
 rw[hsz]at so
 exact⟨.ref s.heap.objs.size,_,I.laid (t':=tk) (o:=.set _ _) (λb o e=>kp b o (Heap.lt_size e) e) (Nat.le_refl _) so,rfl,q _ _ (I.hok.fresh (Nat.le_refl _))⟩
theorem XM:jU X (.builtin "len") (λxs H Q=>∃a S n,xs=[V.ref a]/\H a=some (.set S n)/\Q (.int (n:Nat)) H):=by
 intro pins s σ H xs us Q I r h
 obtain⟨a,S,n,rfl,ea,q⟩:=h
 obtain⟨u,rfl,ru⟩:=Qj r
 cases ru
 obtain⟨o,es,ep,t,e1,e2,e3,_,_,b,f,rfl⟩:=(show qA X.prog X.w H s.heap a (.set S n) from I.hok a _ ea)
 refine call_len_set e1 e2 e3 f (by have:es.size < 4096:=b;omega) ⟨.int _,H,I.tok _,⟨_,rfl⟩,q⟩
end
end L2
set_option Elab.async false
set_option linter.all false
set_option maxRecDepth 100000
set_option maxHeartbeats 4000000
namespace L2
open PySem PySem.Spec PyProof.Rows
def KJ (K:PySem.W.Frag) (a:Addr):It:=⟨λi H=>∃xs x,SqL K H a xs/\xs[i]?=some x,
 λi H v H'=>∃p,H p=none/\v=.ref p/\∀xs x,SqL K H a xs->xs[i]?=some x->H'=upd H p (.tup [.int (i:Nat),x]),
 λi H=>∃xs,SqL K H a xs/\xs.length<=i⟩
theorem VI {P:Program} {w:World} {K:PySem.W.Frag} {elts:List Expr} {x1:Nat} {tpos:Pos} (a e it:Addr) (hne:e≠it):
   WL P w K (.Tuple elts x1 tpos) (KJ K a) [e,it] e (λi h=>(∃old,IsEnum h e it i old)/\h.IsListIter it a i) where
 mem:=by simp
 obj:=λi h st c hc=>by
   obtain⟨⟨old,he⟩,⟨o1,e1,c1,d1⟩⟩:=st
   simp only[List.mem_cons,List.mem_nil_iff,or_false]at hc
   rcases hc with rfl | rfl
   . exact⟨_,he,λv z=>by cases z⟩
   . exact⟨o1,e1,λv z=>by rw[d1]at z;cases z⟩
 keep:=λi h h' st k=>by
   obtain⟨⟨old,he⟩,h1⟩:=st
   exact⟨⟨old,k e (by simp) _ he⟩,h1.at λo e=>k it (by simp) o e⟩
 item:=by
   intro X hP hw hK hc i pins s σ H E I hf st hg
   subst hP hw hK
   obtain⟨⟨old,he⟩,h1⟩:=st
   obtain⟨xs,x,qa,hx⟩:=hg
   obtain⟨its,rv,p,_⟩:=I.list qa
   obtain⟨u,hu,ru⟩:=rv.get hx
   refine wpAny_pyNext_enum_item he h1 p.isList (x:=u) (by simpa using hu) hne λh' z1 z2 z3 z4 kk=>⟨_,rfl,?_⟩
   refine wpAny_letOwnedTupleGo_enum z1 λh'' z1' sb=>?_
   have nT:∀c o,s.heap.get? c=some o->s.heap.objs.size≠c:=λc o e=>Nat.ne_of_gt (Heap.lt_size e)
   have kT:∀c o,c≠e->h'.get? c=some o->h''.get? c=some o:=λc o hc e=>(sb.2 c hc).trans e
   have I1:qu X pins σ (upd H s.heap.objs.size (.tup [.int (i:Nat),x])) {s with heap:=h'',toks:=s.toks+1}:=I.turnLaid (L:=[e,it]) (t':=s.toks+1)
     (λc o hc e=>kT c o (λz=>hc (by simp [z])) (kk c o (λz=>hc (by simp [z])) (λz=>hc (by simp [z])) e)) hf (Nat.le_refl _)
     ⟨by show 2<=sizeLine;decide,[.int i s.toks,u],.cons ⟨_,rfl⟩ (.cons ru .nil),⟨_,kT _ _ (nT _ _ he) z3,rfl,_,rfl⟩⟩
   refine⟨.ref s.heap.objs.size,_,I1,rfl,⟨s.heap.objs.size,I.hok.fresh (Nat.le_refl _),rfl,λxs' x' qa' hx'=>?_⟩,⟨⟨_,z1'⟩,z2.at λo e=>kT _ o (Ne.symm hne) e⟩,λc hc=>?_⟩
   . rw[I.list_inj qa' qa,hx]at hx'
     cases hx'
     rfl
   . have h0:=(hf c hc).1
     by_cases ec:c=s.heap.objs.size
     . subst ec
       obtain⟨o1,e1,_⟩:=h1
       simp only[List.mem_cons,List.mem_nil_iff,or_false]at hc
       rcases hc with e | e
       . exact absurd e (nT _ _ he)
       . exact absurd e (nT _ _ e1)
     . rw[qe ec];exact h0
 done:=by
   intro X hP hw hK hc i pins s σ H E I hf st hg
   subst hP hw hK
   obtain⟨⟨old,he⟩,h1⟩:=st
   obtain⟨xs,qa,hl⟩:=hg
   obtain⟨its,rv,p,_⟩:=I.list qa
   have l1:=rv.length
   exact wpAny_pyNext_enum_end (I.ok.hd hc) he h1 p.isList (by simp;omega) λh' kk=>⟨rfl,I.turnedL (L:=[e,it]) (t':=s.toks) (λc o hc e=>kk c o (λz=>hc (by simp [z])) e) hf⟩
 self:=λ_ _ _ _ _ st h=>let ⟨⟨_,he⟩,_⟩:=st;wpAny_pyIter_enum he h
section
variable {X:Cx} {elts:List Expr} {x1:Nat} {tpos:Pos}
def Kv (K:PySem.W.Frag) (ta:TA):TI:=λσ H R=>ta σ H λvs H1=>∃a,vs=[.ref a]/\(∃xs,SqL K H1 a xs)/\R (KJ K a) H1
theorem YM {a:Expr} {ta:TA} {p pos:Pos} (hg:Gl X "enumerate") (hm:X.mg "enumerate"=none) (ha:JA X [a] ta) (hs:starEach [a] X.env=[(false,eval a X.env)]:=by rfl):JI X (.Tuple elts x1 tpos) (.Call (.Name "enumerate" p) [a] [] pos) (Kv X.K ta):=.of (by
 have ha:=ha.to
 intro pins s σ H R I h
 refine Call_ (Qx I hg hm boot_enumerate (PyProof.Rows.callWith_type1 (jc (ha pos pins s σ H _ I h) λus s1 ⟨vs,H1,I1,r1,q1⟩=>?_) (by rw[hs];rfl) rfl))
 obtain⟨l,e,⟨xs,qa⟩,q⟩:=q1
 subst e
 cases r1 with
 | cons r rr=>
   cases rr
   cases r
   obtain⟨its,rv,p,_⟩:=I1.list qa
   refine call_enumerate_list p.isList λh' z1 z2 z3 kk=>?_
   refine wpAny_pyIter_enum z1 ?_
   have I2:qu X pins σ H1 {s1 with heap:=h'}:=I1.kept (t':=s1.toks) kk
   have fr:∀c,s1.heap.objs.size<=c->JM X pins H1 c:=λc hc=>I1.fpOk hc (I1.hok.fresh hc)
   refine⟨s1.heap.objs.size+1,[s1.heap.objs.size+1,s1.heap.objs.size],_,_,H1,rfl,I2,VI l (s1.heap.objs.size+1) s1.heap.objs.size (Nat.succ_ne_self _),⟨⟨_,z1⟩,z2⟩,λc hc=>?_,q⟩
   simp only[List.mem_cons,List.mem_nil_iff,or_false]at hc
   rcases hc with e | e<;>rw[e]<;>first | exact fr _ (Nat.le_add_right _ _) | exact fr _ (Nat.le_refl _))
end
theorem zL {K:PySem.W.Frag} {a:Addr} {xs:List V} {g:TG} {tb:TS} {D:QB} {σ:St} {H:Hp} (Pv:Nat->St->Hp->Prop) (h0:Pv 0 σ H) (hl:∀i σ H,i<=xs.length->Pv i σ H->SqL K H a xs)
   (hs:∀i x σ H p,xs[i]?=some x->H p=none->Pv i σ H->g (.ref p) σ (upd H p (.tup [.int (i:Nat),x])) λσ2 H2=>tb {D with nx:=Pv (i+1),ct:=Pv (i+1),bk:=D.nx} σ2 H2) (hd:∀σ H,Pv xs.length σ H->D.nx σ H):
   ∃W:Nat->Nat->St->Hp->Prop,(∃m,W 0 m σ H)/\∀i m σ H,W i m σ H->
    ((KJ K a).stop i H/\D.nx σ H)\/((KJ K a).go i H/\∃N:St->Hp->Prop,(∀σ' H',N σ' H'->∃m',m' < m/\W (i+1) m' σ' H')/\∀x H',(KJ K a).yld i H x H'->g x σ H' λσ2 H2=>tb {D with nx:=N,ct:=N,bk:=D.nx} σ2 H2):=by
 refine⟨λi m σ H=>m=xs.length - i/\i<=xs.length/\Pv i σ H,⟨xs.length,by simp,Nat.zero_le _,h0⟩,?_⟩
 rintro i m σ H ⟨rfl,hi,p⟩
 have qa:=hl i σ H hi p
 by_cases hlt:i < xs.length
 . have ex:xs[i]?=some xs[i]:=List.getElem?_eq_getElem hlt
   refine .inr ⟨⟨xs,_,qa,ex⟩,Pv (i+1),λσ' H' p'=>⟨xs.length - (i+1),by omega,rfl,hlt,p'⟩,λx H' yl=>?_⟩
   obtain⟨pp,hp,rfl,e⟩:=yl
   rw[e xs _ qa ex]
   exact hs i _ σ H pp ex hp p
 . have e:i=xs.length:=by omega
   subst e
   exact .inl ⟨⟨xs,qa,Nat.le_refl _⟩,hd σ H p⟩
theorem Jb (ns:List Nat):∀i,i<=ns.length->preSum (λj=>((ns.getD j 0:Nat):Int)) i=(((ns.take i).sum:Nat):Int)
 | 0,_=>by simp [preSum]
 | i+1,h=>by
   have hi:i < ns.length:=h
   show preSum _ i+_=_
   rw[Jb ns i (Nat.le_of_lt hi),List.take_add_one,List.getElem?_eq_getElem hi,List.sum_append]
   simp [List.getD_eq_getElem?_getD,List.getElem?_eq_getElem hi]
theorem ZK (ns:List Nat) (i:Nat):(ns.take i).sum<=ns.sum:=by
 have h:(ns.take i++ns.drop i).sum=ns.sum:=by rw[List.take_append_drop]
 rw[List.sum_append]at h
 omega
theorem XA (ns:List Nat) (i:Nat):ns.getD i 0<=ns.sum:=by
 have h:=ZK ns (i+1)
 rw[List.take_add_one,List.sum_append]at h
 rw[List.getD_eq_getElem?_getD]
 cases e:ns[i]? with
 | none=>exact Nat.zero_le _
 | some x=>
   rw[e]at h
   simp at h ⊢
   omega
section
variable {X:Cx}
theorem Uy (hc:X.calm=true):jU X (.builtin "sum") (λxs H Q=>∃(p:Addr) (ns:List Nat),xs=[.ref p]/\SqL X.K H p (ns.map λn=>V.int ((n:Nat):Int))/\ns.sum < 2^62/\Q (.int (ns.sum:Nat)) H):=by
 intro pins s σ H xs us Q I r h
 obtain⟨p,ns,rfl,hq,hs,q⟩:=h
 obtain⟨u,rfl,rx⟩:=Qj r
 cases rx
 obtain⟨its,rv,pl,hz⟩:=I.list hq
 have hlt:p < s.heap.objs.size:=by
   obtain⟨o,n,e,_⟩:=pl
   exact Heap.lt_size e
 have hn:its.toArray.size=ns.length:=by
   have:=rv.length
   rw[List.length_map]at this
   simp only[List.size_toArray]
   omega
 have hh:X.A.in1.handled=none:=I.ok.hd hc
 refine call_sum_walk (wpAny_pyIter_list pl.isList ?_)
 refine⟨s.heap.objs.size,[s.heap.objs.size,p],[s.heap.objs.size],its.toArray.size,λi v=>its.toArray[i]?=some v,_,λj=>((ns.getD j 0:Nat):Int),rfl,Walks.list hh s.heap.objs.size p (Nat.ne_of_lt hlt) its.toArray,
   ⟨⟨_,Heap.get?_push_size _ rfl,rfl,rfl⟩,pl.isList.at λo e=>Heap.get?_push_of_some _ e⟩,?_,?_,?_,λh' tk t' hk=>?_⟩
 . intro b hb
   show b < (s.heap.push _).objs.size
   rw[Heap.size_push]
   simp only[List.mem_cons,List.mem_nil_iff,or_false]at hb
   rcases hb with e | e
   . rw[e];exact Nat.lt_succ_self _
   . rw[e];exact Nat.lt_succ_of_lt hlt
 . intro i v hP
   have hi:its[i]?=some v:=by simpa using hP
   cases e:ns[i]? with
   | none=>
     exfalso
     have h1:(ns.map λn=>V.int ((n:Nat):Int))[i]?=none:=by rw[List.getElem?_map,e];rfl
     rw[qB.none_of rv h1]at hi
     cases hi
   | some b=>
     have h1:(ns.map λn=>V.int ((n:Nat):Int))[i]?=some (V.int b):=by rw[List.getElem?_map,e];rfl
     obtain⟨u,hu,ru⟩:=rv.get h1
     rw[hi]at hu
     cases hu
     obtain⟨t,rfl⟩:=ru
     refine⟨t,?_⟩
     show Value.int b t=.int ((ns.getD i 0:Nat):Int) t
     rw[List.getD_eq_getElem?_getD,e]
     rfl
 . intro j hj
   rw[hn]at hj
   have h1:=XA ns j
   have h2:=ZK ns (j+1)
   have h3:=Jb ns (j+1) hj
   refine⟨⟨?_,?_⟩,⟨?_,?_⟩⟩
   . show -(2^63)<=((ns.getD j 0:Nat):Int)
     omega
   . show ((ns.getD j 0:Nat):Int) < 2^63
     omega
   . rw[h3];omega
   . rw[h3];omega
 . rw[hn,Jb ns _ (Nat.le_refl _),List.take_of_length_le (Nat.le_refl _)]
   refine⟨.int (ns.sum:Nat),H,?_,⟨_,rfl⟩,q⟩
   exact I.kept (h':=h') (t':=tk) λb o e=>hk b o (by
     intro z
     have z':b=s.heap.objs.size:=by simpa using z
     exact absurd (Heap.lt_size e) (by rw[z'];exact Nat.lt_irrefl _)) (Heap.get?_push_of_some _ e)
end
end L2
set_option Elab.async false
set_option linter.all false
set_option maxRecDepth 100000
set_option maxHeartbeats 4000000
namespace L2
open PySem PySem.Spec PyProof.Rows
structure WP (fs:List Addr) (ex:List Addr) (h h':Heap):Prop where
 keep:∀b o,b∉fs->b∉ex->h.get? b=some o->h'.get? b=some o
 slot:∀b o,b∈fs->b∉ex->h.get? b=some o->∃sl,h'.get? b=some {o with slots:=sl}
def kD (T:Addr) (fl:Value) (h:Heap):Prop:=∃ts,h.get? T=some {cls:=.type "traceback",data:=.fields ts}/\ts[3]?=some fl
section
variable {M:Model} {A:Around} {E:Value->Shared->Prop} {s:Shared} {base:Heap} {env:Env} {outer:List Env} {L e:Addr} {cl head:Value} {d:Option Addr} {vs:Array Value} {had:Bool} {Q:Unit->Shared->Prop}
theorem UK (fr:A.frames=some (env::outer)) (ff:s.heap.FunFrames base (env::outer)) (fm:env.frame=some L)
   (he:s.heap.get? e=some {cls:=cl,dict:=d,data:=.fields vs}) (sz:1 < vs.size)
   (k:∀h' T,s.heap.objs.size<=T->WP (ZO (env::outer)) [e] s.heap h'->h'.get? e=some {cls:=cl,dict:=d,data:=.fields (vs.setIfInBounds 1 (.ref T))}->kD T (rawInt L) h'->Q () {s with heap:=h'}):
   wpAny M A (frameOf env >>= λa=>entryPlaceOf L had >>= λpl=>EntryCells.newEntry head a .none (rawInt L) .none pl >>= λb=>setField (.ref e) 1 b) Q E s:=by
 have out:e∉ZO (env::outer):=λz=>by
   obtain⟨_,o,ho,nf⟩:=ff.mem z
   rw[he]at ho
   cases ho
   exact nf vs rfl
 refine wpAny_bind (wpAny_frameOf_fun fr ff fm λh1 so=>?_)
 refine wpAny_bind (wpAny_entryPlaceOf λpl ip=>?_)
 have e1:h1.get? e=some {cls:=cl,dict:=d,data:=.fields vs}:=(so.2.1 e out).trans he
 unfold EntryCells.newEntry newFields
 refine wpAny_bind (wpAny_newObj_type ?_ (ip.sizeOk5 _ _ _ _ _))
 have ne:e≠h1.objs.size:=Nat.ne_of_lt (Heap.lt_size e1)
 refine wpAny_setField (Heap.get?_push_of_some _ e1) rfl sz (k _ h1.objs.size (Nat.le_of_eq so.1.symm) ⟨λb o n1 n2 q=>?_,λb o n1 n2 q=>?_⟩ ?_ ⟨_,(Heap.get?_update_other _ _ ne).trans (Heap.get?_push_size _ rfl),?_⟩)
 . have n3:b≠e:=λz=>n2 (by simp [z])
   rw[Heap.get?_update_other _ _ (Ne.symm n3)]
   exact Heap.get?_push_of_some _ ((so.2.1 b n1).trans q)
 . have n3:b≠e:=λz=>n2 (by simp [z])
   obtain⟨sl,r⟩:=so.2.2 b o q
   exact⟨sl,by rw[Heap.get?_update_other _ _ (Ne.symm n3)];exact Heap.get?_push_of_some _ r⟩
 . exact Heap.get?_update_self _ (Heap.get?_push_of_some _ e1) rfl
 . rcases ip with rfl | ⟨_,_,_,_,_,_,_,rfl⟩<;>simp
theorem Xt (fr:A.frames=some (env::outer)) (ff:s.heap.FunFrames base (env::outer)) (fm:env.frame=some L)
   (he:s.heap.get? e=some {cls:=cl,dict:=d,data:=.fields vs}) (h1:vs[1]?=some .none)
   (k:∀h' T,s.heap.objs.size<=T->WP (ZO (env::outer)) [e] s.heap h'->h'.get? e=some {cls:=cl,dict:=d,data:=.fields (vs.setIfInBounds 1 (.ref T))}->kD T (rawInt L) h'->Q () {s with heap:=h'}):
   wpAny M A (noteFrame (.ref e) env) Q E s:=by
 unfold noteFrame
 simp only[fm]
 refine wpAny_bind (wpAny_field he rfl h1 ?_)
 rw[if_neg (show ¬((Value.none != Value.none)=true) by decide)]
 exact UK fr ff fm he (Array.getElem?_eq_some_iff.mp h1).1 k
theorem Ub {T:Addr} (fm:env.frame=some L) (he:s.heap.get? e=some {cls:=cl,dict:=d,data:=.fields vs}) (h1:vs[1]?=some (.ref T)) (st:kD T (rawInt L) s.heap) (k:Q () s):
   wpAny M A (noteFrame (.ref e) env) Q E s:=by
 obtain⟨ts,ht,h3⟩:=st
 unfold noteFrame
 simp only[fm]
 refine wpAny_bind (wpAny_field he rfl h1 ?_)
 rw[if_pos (show (Value.ref T != Value.none)=true by simp)]
 refine wpAny_bind (wpAny_field ht rfl h3 ?_)
 rw[if_pos (show (rawInt L==rawInt L)=true by simp [rawInt])]
 exact wpAny_pure k
theorem YI {T:Addr} (fr:A.frames=some (env::outer)) (ff:s.heap.FunFrames base (env::outer)) (fm:env.frame=some L)
   (he:s.heap.get? e=some {cls:=cl,dict:=d,data:=.fields vs}) (h1:vs[1]?=some (.ref T)) (st:kD T .none s.heap) (ne:T≠e)
   (k:∀h' T',s.heap.objs.size<=T'->WP (ZO (env::outer)) [e,T] s.heap h'->(∃o,h'.get? T=some o)->h'.get? e=some {cls:=cl,dict:=d,data:=.fields (vs.setIfInBounds 1 (.ref T'))}->kD T' (rawInt L) h'->Q () {s with heap:=h'}):
   wpAny M A (noteFrame (.ref e) env) Q E s:=by
 obtain⟨ts,ht,h3⟩:=st
 unfold noteFrame
 simp only[fm]
 refine wpAny_bind (wpAny_field he rfl h1 ?_)
 rw[if_pos (show (Value.ref T != Value.none)=true by simp)]
 refine wpAny_bind (wpAny_field ht rfl h3 ?_)
 rw[if_neg (show ¬((Value.none==rawInt L)=true) by simp [rawInt])]
 refine wpAny_bind (wpAny_setField ht rfl (Array.getElem?_eq_some_iff.mp h3).1 ?_)
 have oth:∀b,b≠T->(s.heap.update T (Obj.mapFields (·.setIfInBounds 3 Value.none))).get? b=s.heap.get? b:=λb n=>Heap.get?_update_other _ _ (Ne.symm n)
 have tno:T∉ZO (env::outer):=λz=>by
   obtain⟨_,o,ho,nf⟩:=ff.mem z
   rw[ht]at ho
   cases ho
   exact nf ts rfl
 refine UK fr (ff.of_keeps λb o hb nf=>⟨o,(oth b λz=>?_).trans hb,rfl⟩) fm ((oth e (Ne.symm ne)).trans he) (Array.getElem?_eq_some_iff.mp h1).1 λh' T' hT F q1 q2=>?_
 . rw[z,ht]at hb
   cases hb
   exact nf ts rfl
 . have upT:=Heap.get?_update_self (Obj.mapFields (·.setIfInBounds 3 Value.none)) ht rfl
   refine k h' T' (Nat.le_trans (Nat.le_of_eq (by simp)) hT) ⟨λb o n1 n2 q=>?_,λb o n1 n2 q=>?_⟩ ⟨_,F.keep T _ tno (by simp [ne]) upT⟩ q1 q2
   . simp only[List.mem_cons,List.not_mem_nil,or_false,not_or]at n2
     exact F.keep b o n1 (by simp [n2.1]) ((oth b n2.2).trans q)
   . simp only[List.mem_cons,List.not_mem_nil,or_false,not_or]at n2
     exact F.slot b o n1 (by simp [n2.1]) ((oth b n2.2).trans q)
theorem QW {T:Addr} {fl:Value} {fs:List Addr} (he:s.heap.get? e=some {cls:=cl,dict:=d,data:=.fields vs}) (h1:vs[1]?=some (.ref T)) (st:kD T fl s.heap)
   (k:∀h',WP fs [T] s.heap h'->kD T .none h'->Q () {s with heap:=h'}):wpAny M A (setFlight (.ref e) none) Q E s:=by
 obtain⟨ts,ht,h3⟩:=st
 have lt:=(Array.getElem?_eq_some_iff.mp h3).1
 refine wpAny_setFlight_none he rfl h1 ht rfl lt (k _ ⟨λb o _ n q=>?_,λb o _ n q=>⟨o.slots,?_⟩⟩ ⟨_,Heap.get?_update_self _ ht rfl,by simp [lt]⟩)
 all_goals
   rw[Heap.get?_update_other _ _ λz=>n (by simp [z])]
   exact q
end
structure zS (ex:List Addr) (n:Nat) (H H':Hp):Prop where
 ext:∀b∈ex,∃φ,H b=some (.ext φ)
 same:∀b o,b∉ex->H b=some o->H' b=some o
 no:∀b,b < n->H b=none->H' b=none
section
variable {P:Program} {w:World} {fs ex:List Addr} {H H':Hp} {h h':Heap}
theorem zS.out {n:Nat} (t:zS ex n H H') {b:Addr} {o:HO} (q:H b=some o) (hn:∀φ,o≠.ext φ):b∉ex:=λz=>by
 obtain⟨φ,e⟩:=t.ext b z
 rw[q]at e
 cases e
 exact hn φ rfl
theorem zS.out0 {n:Nat} (t:zS ex n H H') {b:Addr} (q:H b=none):b∉ex:=λz=>by
 obtain⟨φ,e⟩:=t.ext b z
 rw[q]at e
 cases e
theorem Un.fly (F:WP fs ex h h') (t:zS ex h.objs.size H H') (th:∀b∈ex,∃o,h'.get? b=some o):Un fs [] H H' h h' where
 keep b o q n hf _:=F.keep b o hf (t.out0 n) q
 slot b o q n hf _:=F.slot b o hf (t.out0 n) q
 free b o q n _:=t.no b (Heap.lt_size q) n
 there b o q _:=by
   by_cases hb:b∈ex
   . exact th b hb
   . by_cases hf:b∈fs
     . obtain⟨sl,r⟩:=F.slot b o hf hb q
       exact⟨_,r⟩
     . exact⟨o,F.keep b o hf hb q⟩
 tups b xs q:=t.same b _ (t.out q (by intro φ z;cases z)) q
 frzs b o u q:=t.same b _ (t.out q (by intro φ z;cases z)) q
 tbls b ps q:=⟨#[],by simpa using t.same b _ (t.out q (by intro φ z;cases z)) q⟩
theorem Q4.fly (ok:Q4 P w H h) (F:WP fs ex h h') (t:zS ex h.objs.size H H') (fr:∀b∈fs,H b=none) (new:∀b o,H' b=some o->(H b=none\/b∈ex)->qA P w H' h' b o):Q4 P w H' h':=λb o q=>by
 by_cases hb:b∈ex
 . exact new b o q (.inr hb)
 cases e:H b with
 | none=>exact new b o q (.inl e)
 | some u=>
   have r:=t.same b u hb e
   rw[q]at r
   cases r
   refine(ok b o e).stay (λc v hc g=>F.keep c v ?_ ?_ g) (λc z=>t.same c _ (t.out z (by intro φ z;cases z)) z) (λc xs z=>t.same c _ (t.out z (by intro φ z;cases z)) z) (λc o z=>t.same c _ (t.out z (by intro φ z;cases z)) z)
   . intro z
     have n:=fr c z
     rcases hc with rfl | hc
     . rw[e]at n;cases n
     . rw[hc]at n;cases n
   . rcases hc with rfl | hc
     . exact hb
     . exact t.out hc (by intro φ z;cases z)
end
end L2
namespace L2
open PySem PySem.Spec PyProof.Rows
def zU (T:Addr) (fl:Value):HO:=.ext (kD T fl)
theorem JD {P:Program} {w:World} {H:Hp} {h:Heap} {T:Addr} {fl:Value} (x:kD T fl h):qA P w H h T (zU T fl):=by
 obtain⟨ts,q,z⟩:=x
 exact⟨⟨ts,q,z⟩,⟨_,q⟩,λh1 h2 ⟨ts',q',z'⟩ k=>⟨ts',k _ q',z'⟩⟩
def Jt (P:Program) (w:World):ZJ:=λouter H s E e s'=>∃a C dx T Hx H',e=.ref a/\s'.os=s.os/\AllBare s'.gens/\Un (ZO outer) [] H H' s.heap s'.heap/\Q4 P w H' s'.heap/\
 H' a=some (jE a C dx (.ref T))/\H' T=some (zU T .none)/\Hx T=none/\Hx a=some (QJ a C dx)/\(∀b o,b≠a->Hx b=some o->H' b=some o)/\E (.ref C) (some dx) Hx
def Y3 (X:Cx) (E:XK):Prop:=∀(pins:List (Addr×Obj)) (σ:St) (H:Hp) (s:Shared) (a C dx:Addr),qu X pins σ H s->H a=some (QJ a C dx)->E (.ref C) (some dx) H->X.xe (.ref a) s
section
variable {X:Cx} {pins:List (Addr×Obj)} {σ:St} {H H':Hp} {s:Shared} {h':Heap} {ex:List Addr}
theorem qu.flown (I:qu X pins σ H s) (F:WP (ZO X.stack) ex s.heap h') (t:zS ex s.heap.objs.size H H') (th:∀b∈ex,∃o,h'.get? b=some o)
   (new:∀b o,H' b=some o->(H b=none\/b∈ex)->qA X.prog X.w H' h' b o):qu X pins σ H' {s with heap:=h'}:=
 I.call (g':=s.gens) (t':=s.toks) (d':=s.drawn) (ch:=[]) (Un.fly F t th) (Q4.fly I.hok F t I.stkFree new) I.bare λb z=>absurd z (by simp)
theorem WP.then {fs ex:List Addr} {h h1 h2:Heap} {T:Addr} (F:WP fs ex h h1) (G:WP fs [T] h1 h2) (hT:h.objs.size<=T):WP fs ex h h2 where
 keep b o n1 n2 q:=G.keep b o n1 (by simp;exact Nat.ne_of_lt (Nat.lt_of_lt_of_le (Heap.lt_size q) hT)) (F.keep b o n1 n2 q)
 slot b o n1 n2 q:=by
   obtain⟨sl,r⟩:=F.slot b o n1 n2 q
   obtain⟨sl',r'⟩:=G.slot b _ n1 (by simp;exact Nat.ne_of_lt (Nat.lt_of_lt_of_le (Heap.lt_size q) hT)) r
   exact⟨sl',r'⟩
end
section
variable {P:Program} {w:World} {K:PySem.W.Frag} {mg:Str->Option Value} {base:Heap} {N:List Str} {qual:Str} {scope:Scope} {f:Addr} {cd:Value} {A:Around} {outer:List Env} {s₀:Shared} {H₀:Hp} {E:XK}
theorem Zw:Y3 (jF (Jt P w) P w K mg base N qual scope f cd A outer s₀ H₀ E) E:=by
 intro pins σ H s a C dx I ha hE
 obtain⟨⟨fl,he,hz⟩,_,_⟩:=(show qA P w H s.heap a (jE a C dx .none) from I.hok a _ ha)
 have fr:=I.ok.frames
 have ff:=I.stack
 show wpAny _ _ (leaving _ _) _ _ s
 unfold leaving
 refine wpAny_bind (Xt fr ff rfl he hz λh1 T hT F q1 q2=>?_)
 have lt:=(Array.getElem?_eq_some_iff.mp hz).1
 have g1:(fl.setIfInBounds 1 (Value.ref T))[1]?=some (.ref T):=by simp [lt]
 have nT:T≠a:=λz=>by
   obtain⟨ts,q,_⟩:=q2
   rw[z,q1]at q
   cases q
 refine QW (fs:=ZO (jF (Jt P w) P w K mg base N qual scope f cd A outer s₀ H₀ E).stack) q1 g1 q2 λh2 F2 st=>?_
 have anf:a∉ZO (jF (Jt P w) P w K mg base N qual scope f cd A outer s₀ H₀ E).stack:=λz=>by
   have:=I.stkFree a z
   rw[ha]at this
   cases this
 have hTn:H T=none:=I.hok.fresh hT
 have q3:=F2.keep a _ anf (by simp [Ne.symm nT]) q1
 have I2:=I.flown (H':=upd (upd H a (jE a C dx (.ref T))) T (zU T .none)) (WP.then F F2 hT) ⟨λb hb=>by cases List.mem_singleton.mp hb;exact⟨_,ha⟩,λb o hb q=>by
     rw[qe (qo q hTn),qe λz=>hb (by simp [z])];exact q,λb hb q=>by
     rw[qe (Nat.ne_of_lt (Nat.lt_of_lt_of_le hb hT)),qe λz=>by rw[z,ha]at q;cases q];exact q⟩ (λb hb=>by cases List.mem_singleton.mp hb;exact⟨_,q3⟩) λb o q hb=>by
   by_cases e1:b=T
   . subst e1
     rw[qd]at q
     cases q
     exact JD st
   . rw[qe e1]at q
     by_cases e2:b=a
     . subst e2
       rw[qd]at q
       cases q
       exact Jq ⟨_,q3,g1⟩
     . rw[qe e2]at q
       rcases hb with hb | hb
       . rw[q]at hb;cases hb
       . exact absurd (List.mem_singleton.mp hb) e2
 exact⟨a,C,dx,T,H,_,rfl,I2.os,I2.bare,I2.base,I2.hok,by rw[qe (Ne.symm nT),qd],qd ..,hTn,ha,λb o nb q=>by rw[qe (qo q hTn),qe nb];exact q,hE⟩
theorem VZ:jw (Jt P w) (jF (Jt P w) P w K mg base N qual scope f cd A outer s₀ H₀ E) E:=by
 intro pins σ H s e s' I0 hc
 obtain⟨a,C,dx,T,Hx,H1,rfl,os,bare,un,hok,ha,ht,hxT,hxa,hx,hE⟩:=hc
 have I:qu (jF (Jt P w) P w K mg base N qual scope f cd A outer s₀ H₀ E) pins σ H1 s':=I0.call' os un hok bare λb z=>absurd z (by simp)
 obtain⟨⟨fl,he,hz⟩,_,_⟩:=(show qA P w H1 s'.heap a (jE a C dx (.ref T)) from I.hok a _ ha)
 obtain⟨st0,_,_⟩:=(show qA P w H1 s'.heap T (zU T .none) from I.hok T _ ht)
 have fr:=I.ok.frames
 have ff:=I.stack
 have nT0:T≠a:=λz=>by
   obtain⟨ts,q,_⟩:=st0
   rw[z,he]at q
   cases q
 show wpAny _ _ (leaving _ _) _ _ s'
 unfold leaving
 refine wpAny_bind (YI fr ff rfl he hz st0 nT0 λh1 T' hT F tT q1 q2=>?_)
 have lt:=(Array.getElem?_eq_some_iff.mp hz).1
 have g1:(fl.setIfInBounds 1 (Value.ref T'))[1]?=some (.ref T'):=by simp [lt]
 have nT:T'≠a:=λz=>by
   obtain⟨ts,q,_⟩:=q2
   rw[z,q1]at q
   cases q
 refine QW (fs:=ZO (jF (Jt P w) P w K mg base N qual scope f cd A outer s₀ H₀ E).stack) q1 g1 q2 λh2 F2 st=>?_
 have anf:∀b o,H1 b=some o->b∉ZO (jF (Jt P w) P w K mg base N qual scope f cd A outer s₀ H₀ E).stack:=λb o q z=>by
   have:=I.stkFree b z
   rw[q]at this
   cases this
 have hTn:H1 T'=none:=I.hok.fresh hT
 have nTT:T'≠T:=(qo ht hTn).symm
 have q3:=F2.keep a _ (anf a _ ha) (by simp [Ne.symm nT]) q1
 obtain⟨oT,hoT⟩:=tT
 have q4:=F2.keep T _ (anf T _ ht) (by simp [Ne.symm nTT]) hoT
 have I2:=I.flown (H':=upd (upd (upd H1 a (jE a C dx (.ref T'))) T (.ext λh=>∃o,h.get? T=some o)) T' (zU T' .none)) (WP.then F F2 hT) ⟨λb hb=>by
     simp only[List.mem_cons,List.not_mem_nil,or_false]at hb
     rcases hb with rfl | rfl
     . exact⟨_,ha⟩
     . exact⟨_,ht⟩,λb o hb q=>by
     simp only[List.mem_cons,List.not_mem_nil,or_false,not_or]at hb
     rw[qe (qo q hTn),qe hb.2,qe hb.1];exact q,λb hb q=>by
     rw[qe (Nat.ne_of_lt (Nat.lt_of_lt_of_le hb hT)),qe (λz=>by rw[z,ht]at q;cases q),qe (λz=>by rw[z,ha]at q;cases q)];exact q⟩ (λb hb=>by
     simp only[List.mem_cons,List.not_mem_nil,or_false]at hb
     rcases hb with rfl | rfl
     . exact⟨_,q3⟩
     . exact⟨_,q4⟩) λb o q hb=>by
   by_cases e1:b=T'
   . subst e1
     rw[qd]at q
     cases q
     exact JD st
   . rw[qe e1]at q
     by_cases e2:b=T
     . subst e2
       rw[qd]at q
       cases q
       exact⟨⟨_,q4⟩,⟨_,q4⟩,λh1 h2 ⟨u,z⟩ k=>⟨u,k u z⟩⟩
     . rw[qe e2]at q
       by_cases e3:b=a
       . subst e3
         rw[qd]at q
         cases q
         exact Jq ⟨_,q3,g1⟩
       . rw[qe e3]at q
         rcases hb with hb | hb
         . rw[q]at hb;cases hb
         . simp only[List.mem_cons,List.not_mem_nil,or_false]at hb
           exact(hb.elim e3 e2).elim
 refine⟨a,C,dx,T',Hx,_,rfl,I2.os,I2.bare,I2.base,I2.hok,by rw[qe (Ne.symm nT),qe (Ne.symm nT0),qd],qd ..,?_,hxa,λb o nb q=>?_,hE⟩
 . cases e:Hx T' with
   | none=>rfl
   | some o=>
     have:=hx T' o nT e
     rw[hTn]at this
     cases this
 . have n1:b≠T:=λz=>by rw[z,hxT]at q;cases q
   have q':=hx b o nb q
   rw[qe (qo q' hTn),qe n1,qe nb]
   exact q'
end
end L2
set_option Elab.async false
set_option linter.all false
set_option maxRecDepth 100000
set_option maxHeartbeats 4000000
namespace L2
open PySem PySem.Spec PyProof.Rows
section
variable {M:Model} {A:Around} {E:Value->Shared->Prop} {s:Shared} {env:Env} {C:Addr}
theorem VW {oC:Obj} {x:Sem Value} {Q:Flow->Shared->Prop} (hh:A.handled=none) (hcl:oC.cls=.type "type")
   (hs:∀(h:Heap) (g d t os) (Q:Bool->Shared->Prop),h.get? C=some oC->Q true ⟨h,g,d,t,os⟩->wpAny M A (isSubtype (.ref C) (.type "BaseException")) Q E ⟨h,g,d,t,os⟩)
   (h:wpAny M A x (λv s₁=>∃e dx fl,v=.ref e/\s₁.heap.get? C=some oC/\s₁.heap.get? e=some {cls:=.ref C,dict:=some dx,data:=.fields fl}/\fl[1]?=some Value.none/\E (.ref e) s₁) E s):
   wpAny M A (raiseStmt env (some x) none) Q E s:=by
 unfold raiseStmt
 refine wpAny_bind (jc h λv s₁ h₁=>?_)
 obtain⟨e,dx,fl,rfl,hC,he,hz,hE⟩:=h₁
 obtain⟨hp,g,d,tk,os⟩:=s₁
 repeat (first | with_reducible refine wpAny_loadPart_at he ?_ | with_reducible refine wpAny_loadPart_at hC ?_ | with_reducible refine hs _ _ _ _ _ _ hC ?_ | wp_step)
 rw[hz]
 refine wpAny_pure ?_
 rw[if_neg (show ¬((Value.none != Value.none)=true) by decide)]
 exact wpAny_pure (wpAny_raiseNew_none hh hE)
end
def UD (K:PySem.W.Frag) (C:Addr):Prop:=∃f bm,KM K C f bm/\bm.contains (.type "BaseException")=true
def wa (K:PySem.W.Frag) (E:XK) (te:TE):TS:=λD σ H=>te σ H λv H1=>∃a C dx,v=.ref a/\H1 a=some (QJ a C dx)/\UD K C/\E (.ref C) (some dx) H1
section
variable {X:Cx} {E:XK} {e:Expr} {te:TE} {pos:Pos}
theorem Xy (hc:X.calm=true) (hx:Y3 X E) (he:JE X e te):JS X (.Raise (some e) none pos) (wa X.K E te):=.of (by
 have he:=he.to
 intro pins s σ H D I h
 have key:∀x:Sem Value,wpAny (model X.prog X.w) X.A x (λu s1=>∃v H1,qu X pins σ H1 s1/\qH v u/\∃a C dx,v=.ref a/\H1 a=some (QJ a C dx)/\UD X.K C/\E (.ref C) (some dx) H1) X.xe s->
     wpAny (model X.prog X.w) X.A (raiseStmt X.env (some x) none) (SP X pins D) X.xe s:=λx hw=>by
   unfold raiseStmt
   refine wpAny_bind (jc hw λu s1 ⟨v,H1,I1,rv,a,C,dx,ev,ha,⟨f,bm,em,hb⟩,hE⟩=>?_)
   subst ev
   obtain rfl:u=Value.ref a:=rv
   obtain⟨nm,q,N,bs,hdct,sn,sub,ab,col,dd,k0,k1,k2,k3,k5,hC⟩:=em.obj
   obtain⟨⟨fl,ho,hz⟩,_,_⟩:=(show qA X.prog X.w H1 s1.heap a (jE a C dx .none) from I1.hok a _ ha)
   have hC':=I1.kIn _ _ hC
   have r:=VW (M:=model X.prog X.w) (A:=X.A) (E:=X.xe) (s:=s1) (env:=X.env) (C:=C) (x:=pure (.ref a)) (Q:=SP X pins D) (I1.ok.hd hc) rfl (λh g d t os Q z k=>wpAny_isSubtype_exc z (by
     rw[show (Value.ref C::bm).contains (.type "BaseException")=true by rw[List.contains_cons,hb,Bool.or_true]];exact k)) (wpAny_pure ⟨a,dx,fl,rfl,hC',ho,hz,hx pins σ H1 s1 a C dx I1 ha hE⟩)
   exact r
 rw[arm_exec_Raise]
 exact wpAny_bind (wpAny_standAt (key _ (wpAny_bind (jc (he pins s σ H _ I h) λu s1 q=>wpAny_bind (wpAny_standAt (wpAny_pure q)))))))
end
end L2
set_option Elab.async false
set_option linter.all false
set_option maxRecDepth 100000
set_option maxHeartbeats 4000000
namespace L2
open PySem PySem.Spec PyProof.Rows
section
variable {M:Model} {A:Around} {E:Value->Shared->Prop}
theorem Uv {h:Heap} {g:Array GenState} {d:Drawn} {t:Nat} {os:OsState} {e C D:Addr} {oe oC:Obj} {ddc:Option Addr} {sld:Array (Option Value)} {cdd} {bC bD:List Value} {Q:Bool->Shared->Prop}
   (he:h.get? e=some oe) (hcls:oe.cls=.ref C) (hC:h.get? C=some oC) (hD:h.get? D=some ⟨.type "type",ddc,.cls cdd,sld⟩)
   (sC:∀(T:Value) (Q:Bool->Shared->Prop),Q (bC.contains T) ⟨h,g,d,t,os⟩->wpAny M A (isSubtype (.ref C) T) Q E ⟨h,g,d,t,os⟩)
   (sD:∀(T:Value) (Q:Bool->Shared->Prop),Q (bD.contains T) ⟨h,g,d,t,os⟩->wpAny M A (isSubtype (.ref D) T) Q E ⟨h,g,d,t,os⟩)
   (hB:bD.contains (.type "BaseException")=true)
   (hq:Q (bC.contains (.ref D)) ⟨h,g,d,t,os⟩):wpAny M A (excMatches (.ref e) (.ref D)) Q E ⟨h,g,d,t,os⟩:=by
 have f:=tc_notTuple
 unfold excMatches
 repeat (first | (with_reducible refine wpAny_loadPart_at he ?_;rw[hcls]) | with_reducible refine wpAny_loadPart_at hD ?_ | (with_reducible refine sC _ _ ?_) | (with_reducible refine sD _ _ ?_;rw[hB]) | wp_step)
 cases hb:bC.contains (.ref D)<;>(rw[hb]at hq;wp_walk;exact hq)
end
end L2
set_option Elab.async false
set_option linter.all false
set_option maxRecDepth 100000
set_option maxHeartbeats 4000000
namespace L2
open PySem PySem.Spec PyProof.Rows
def Q0 (CX:ZJ) (X:Cx) (E:St->XK):Prop:=∀(pins:List (Addr×Obj)) (σ:St) (H:Hp) (s:Shared) (e:Value) (s':Shared),qu X pins σ H s->CX X.stack H s (E σ) e s'->X.xe e s'
theorem jw.s {CX:ZJ} {X:Cx} {E:XK} (h:jw CX X E):Q0 CX X λ_=>E:=h
def UN (sp:Sp) (dvs:List V) (E:St->XK) (t:TA):TE:=λσ H Q=>t σ H λvs H1=>sp (vs++dvs) H1 Q (E σ)
section
variable {X:Cx} {CX:ZJ} {k:Nat} {f C:Addr} {fd:FuncData} {ps:List Str} {sp:Sp} {dvs:List V} {ds:List Value} {E:St->XK} {x m:Str} {p pos apos:Pos} {e o:Expr} {es:List Expr} {ta:TE} {t:TA}
theorem Vc {pins:List (Addr×Obj)} {σ:St} {H:Hp} {s:Shared} {Q:VK} {us:List Value} {vs:List V} (F:qv X.prog X.w X.K X.mg X.base CX k f fd ps sp) (hr:ja k X.A) (hb:jz X.K fd ps ds) (hd:qB dvs ds) (hx:Q0 CX X E)
   (I:qu X pins σ H s) (r:qB vs us) (h:sp (vs++dvs) H Q (E σ)):wpAny (model X.prog X.w) X.A (call (.ref f) us) (EP X pins σ Q) X.xe s:=by
 have rr:qB (vs++dvs) (us++ds):=r.append hd
 have ll:(us++ds).length=ps.length:=rr.length.symm.trans (F.len _ _ _ _ h)
 have run:=F.run X.A X.stack s H ⟨us,[]⟩ (us++ds) (vs++dvs) Q (E σ) hr I.env0 (hb s us I.kIn ll) rr h
 refine wpAny_call (codeAny_mono run λz s' q=>?_)
 match z,q with
 | .error y,q=>exact hx pins σ H s y s' I q
 | .ok (.ret u),q=>exact I.after q
theorem vk (F:qv X.prog X.w X.K X.mg X.base CX k f fd ps sp) (hr:ja k X.A) (hg:Gl X x) (hm:X.mg x=some (.ref f)) (hk:PySem.W.keepIn X.K (.ref f)=true) (hb:jz X.K fd ps ds) (hd:qB dvs ds) (hx:Q0 CX X E)
   (ha:PA X (e::es) t) (hdb:(x==("__debug__":Str))=false:=by decide) (he:starEach (e::es) X.env=(false,eval e X.env)::starEach es X.env:=by rfl) (hpl:(backTo pos (starEach es X.env)).any (·.1)=false:=by rfl):
   PE X (.Call (.Name x p) (e::es) [] pos) (UN sp dvs E t):=by
 intro pins s σ H Q I h
 refine wpAny_Call_Name_kw (Ze I hg hm (PySem.W.callWith_K (h₀:=X.base) I.ok.mod.kin hk (jc (ha pos pins s σ H _ I h) λus s1 ⟨vs,H1,I1,r,q⟩=>⟨I1.kIn,Vc F hr hb hd hx I1 r q⟩) he hpl) hdb)
end
end L2
set_option Elab.async false
set_option linter.all false
set_option maxRecDepth 100000
set_option maxHeartbeats 4000000
namespace L2
open PySem PySem.Spec PyProof.Rows
section
variable {X:Cx} {pins:List (Addr×Obj)} {σ:St} {H:Hp} {s:Shared} {a b:Addr} {kvs more:List (qS×V)} {A:Around} {E:Value->Shared->Prop}
end
section
variable {X:Cx} {o e:Expr} {apos cpos:Pos} {td ty:TE}
end
theorem GV {us:List Value} (h:us.length=0):us=[]:=List.eq_nil_of_length_eq_zero h
theorem vH {us:List Value} {n:Nat} (h:us.length=n+1):∃a r,us=a::r/\r.length=n:=by
 cases us with
 | nil=>cases h
 | cons a r=>exact⟨a,r,rfl,Nat.succ.inj h⟩
theorem ZA {us:List Value} (h:us.length=1):∃a,us=[a]:=by
 obtain⟨a,r,rfl,h'⟩:=vH h
 exact⟨a,by rw[GV h']⟩
theorem JJ {us:List Value} (h:us.length=2):∃a b,us=[a,b]:=by
 obtain⟨a,r,rfl,h'⟩:=vH h
 obtain⟨b,rfl⟩:=ZA h'
 exact⟨a,b,rfl⟩
theorem Xx {us:List Value} (h:us.length=3):∃a b c,us=[a,b,c]:=by
 obtain⟨a,r,rfl,h'⟩:=vH h
 obtain⟨b,c,rfl⟩:=JJ h'
 exact⟨a,b,c,rfl⟩
theorem yL {us:List Value} (h:us.length=4):∃a b c d,us=[a,b,c,d]:=by
 obtain⟨a,r,rfl,h'⟩:=vH h
 obtain⟨b,c,d,rfl⟩:=Xx h'
 exact⟨a,b,c,d,rfl⟩
theorem GU {us:List Value} (h:us.length=5):∃a b c d e,us=[a,b,c,d,e]:=by
 obtain⟨a,r,rfl,h'⟩:=vH h
 obtain⟨b,c,d,e,rfl⟩:=yL h'
 exact⟨a,b,c,d,e,rfl⟩
end L2
set_option Elab.async false
set_option linter.all false
set_option maxRecDepth 100000
set_option maxHeartbeats 4000000
namespace L2
open PySem PySem.Spec PyProof.Rows
abbrev Cx.suite (X:Cx) (a:Value) (E:Value->Shared->Prop):Cx:={X with A:=X.A.mark (some a),calm:=false,xe:=E}
abbrev Cx.tried (X:Cx) (pn:List (Addr×Obj)) (E:Value->Shared->Prop):Cx:={X with xe:=E,pn:=pn}
section
variable {X:Cx} {pins:List (Addr×Obj)} {σ:St} {H:Hp} {s:Shared} {E:Value->Shared->Prop} {a:Value}
theorem Cx.Ok.suite (o:X.Ok) (a:Value) (E:Value->Shared->Prop):(X.suite a E).Ok:=⟨o.mod,o.kind,o.glob,o.blt,o.above,o.inj,o.has,o.cab,λz=>Bool.noConfusion z,o.frames,o.stk,o.exf,o.bs,o.bsz,o.noex,o.exfs,o.funs,o.frf⟩
theorem Cx.Ok.tried (o:X.Ok) (pn:List (Addr×Obj)) (E:Value->Shared->Prop):(X.tried pn E).Ok:=⟨o.mod,o.kind,o.glob,o.blt,o.above,o.inj,o.has,o.cab,o.hd,o.frames,o.stk,o.exf,o.bs,o.bsz,o.noex,o.exfs,o.funs,o.frf⟩
theorem qu.suite (I:qu X pins σ H s) (a:Value) (E:Value->Shared->Prop):qu (X.suite a E) pins σ H s:=⟨I.ok.suite a E,I.os,I.bare,I.base,I.loc,I.cell,I.free,I.freeC,I.pin,I.hok,I.len⟩
theorem qu.unsuite {σ0:St} {H0:Hp} {s0:Shared} (I0:qu X pins σ0 H0 s0) (I:qu (X.suite a E) pins σ H s):qu X pins σ H s:=⟨I0.ok,I.os,I.bare,I.base,I.loc,I.cell,I.free,I.freeC,I.pin,I.hok,I.len⟩
theorem qu.tried (I:qu X pins σ H s) (E:Value->Shared->Prop):qu (X.tried (X.pn++pins) E) [] σ H s:=⟨I.ok.tried _ E,I.os,I.bare,I.base,I.loc,I.cell,I.free,I.freeC,λp hp=>I.pin p (by simpa using hp),I.hok,I.len⟩
theorem qu.untried {pins':List (Addr×Obj)} {σ0:St} {H0:Hp} {s0:Shared} (I0:qu X pins σ0 H0 s0) (I:qu (X.tried (X.pn++pins) E) pins' σ H s):qu X pins σ H s:=⟨I0.ok,I.os,I.bare,I.base,I.loc,I.cell,I.free,I.freeC,λp hp=>I.pin p (List.mem_append_left _ hp),I.hok,I.len⟩
theorem Z9 {M:Model} {A:Around} {F:Value->Shared->Prop} {i:Nat} {x:Str} {pos:Pos} {Q:Unit->Shared->Prop} (I:qu X pins σ H s) (hN:X.N.Nodup) (hi:X.N[i]?=some x) (hk:X.env.scope.names.lookup x=some .local)
   (h:∀s',qu X pins (σ.set i none) H s'->Q () s'):wpAny M A (do bindName X.env x .none;unbindBehindTheSuite X.env x pos) Q F s:=by
 obtain⟨m,hn,hl⟩:=id I.loc
 have hcls:(X.env.scope.kind==.class || (X.env.scope.kind==.module&&X.env.locals != X.env.globals))=false:=by rw[I.ok.kind];rfl
 have hiσ:i < σ.length:=by rw[I.len];exact(List.getElem?_eq_some_iff.mp hi).1
 have cne:=I.cne
 have tracked:∀{a:Addr} {h':Heap},(∃o,s.heap.get? a=some o/\H a=none)->Heap.SameBut a s.heap h'->Q4 X.prog X.w H h':=λ{a h'} ha hs b ob e=>by
   obtain⟨_,_,hfree⟩:=ha
   refine(I.hok b ob e).stay (λc w' hc q=>(hs.2 c ?_).trans q) (λ_ q=>q) λ_ _ q=>q
   rintro rfl
   rcases hc with rfl | hc
   . rw[hfree]at e;cases e
   . rw[hfree]at hc;cases hc
 refine wpAny_nameGoes_keeps hk hn hcls λh' v0 hn' hs=>?_
 obtain⟨oL,_,_,hoL,_⟩:=id hn
 refine h _ ⟨I.ok,I.os,I.bare,⟨λb o e n hb hx=>?_,λb o e n hb hx=>?_,I.base.free,λb o e hx=>?_,I.base.tups,I.base.frzs,I.base.tbls⟩,⟨_,hn',λj y v' e1 e2 e3=>?_⟩,λy c e=>?_,I.free,I.freeC,λp hp=>?_,tracked ⟨oL,hoL,I.free⟩ hs,by simpa using I.len⟩
 . exact(hs.2 b (Nat.ne_of_lt (Nat.lt_of_lt_of_le (Heap.lt_size e) I.ok.above))).trans (I.base.keep b o e n hb hx)
 . obtain⟨sl,e1⟩:=I.base.slot b o e n hb hx
   exact⟨sl,(hs.2 b (Nat.ne_of_lt (Nat.lt_of_lt_of_le (Heap.lt_size e) I.ok.above))).trans e1⟩
 . obtain⟨o',e1⟩:=I.base.there b o e hx
   exact⟨o',(hs.2 b (Nat.ne_of_lt (Nat.lt_of_lt_of_le (Heap.lt_size e) I.ok.above))).trans e1⟩
 . by_cases hj:j=i
   . subst hj
     rw[List.getElem?_set_self hiσ]at e2
     cases e2
   . rw[List.getElem?_set_ne (Ne.symm hj)]at e2
     obtain⟨u',r',q⟩:=hl j y v' e1 e2 e3
     refine⟨u',r',?_⟩
     rcases q with ⟨k,e⟩ | ⟨k,c,e,z⟩
     . refine .inl ⟨k,?_⟩
       have:y≠x:=λe=>hj (zy hN e1 (e▸hi))
       simp [this,e]
     . exact .inr ⟨k,c,e,z.sameBut hs (cne y c e)⟩
 . obtain⟨w',z⟩:=I.cell y c e
   exact⟨w',z.sameBut hs (cne y c e)⟩
 . obtain⟨e,n,ne,nf,d⟩:=I.pin p hp
   exact⟨(hs.2 p.1 ne).trans e,n,ne,nf,d⟩
end
abbrev TH:=Addr->Addr->Addr->TS
def PH (X:Cx) (hs:List ExceptHandler) (t:TH):Prop:=
 ∀(pins:List (Addr×Obj)) (s:Shared) (σ:St) (H:Hp) (D:QB) (a C dx T:Addr),qu X pins σ H s->H a=some (jE a C dx (.ref T))->H T=some (zU T .none)->t C a dx D σ H->
   wpAny (model X.prog X.w) X.A (handleBy (.ref a) X.env hs) (SP X pins D) X.xe s
def ki:TH:=λ_ _ _ _ _ _=>False
theorem Uc {X:Cx} {hs:List ExceptHandler}:PH X hs ki:=λ_ _ _ _ _ _ _ _ _ _ _ _ h=>h.elim
def QB.gone (D:QB) (j:Nat):QB:={nx:=λσ H=>D.nx (σ.set j none) H,rt:=D.rt,bk:=λσ H=>D.bk (σ.set j none) H,ct:=λσ H=>D.ct (σ.set j none) H}
def WY (K:PySem.W.Frag) (Cl:Addr) (j:Nat) (ts:TS) (tr:TH):TH:=λC a dx D σ H=>∃f bm,KM K C f bm/\
 if (Value.ref C::bm).contains (.ref Cl)=true then ts (D.gone j) (σ.set j (some (.ref a))) H else tr C a dx D σ H
def uo (K:PySem.W.Frag) (C:Addr):Prop:=∃bm,(∃nm q N bs hdct sn sub ab col dd k0 k1 k2 k3 k5,K.lookup C=some (excClassObj nm q C N bs bm hdct sn sub ab col dd k0 k1 k2 k3 k5 "ValueError.__new__"))/\bm.contains (.type "BaseException")=true
theorem UD.c {K:PySem.W.Frag} {C:Addr} (h:UD K C):uo K C:=let ⟨_,bm,a,b⟩:=h;⟨bm,a.obj,b⟩
theorem WI {X:Cx} {x n:Str} {p pos:Pos} {j:Nat} {b₀:Stmt} {suite:List Stmt} {rest:List ExceptHandler} {ts:TS} {tr:TH} {Cl:Addr} (hg:Gl X x) (hm:X.mg x=some (.ref Cl)) (hD:uo X.K Cl) (hN:X.N.Nodup) (hj:X.N[j]?=some n)
   (hl:X.env.scope.names.lookup n=some .local) (hs:∀v E,kI (X.suite v E) (b₀::suite) ts) (hr:PH X rest tr) (hdb:(x==("__debug__":Str))=false:=by decide):PH X (.ExceptHandler (some (.Name x p)) (some n) (b₀::suite) pos::rest) (WY X.K Cl j ts tr):=by
 intro pins s σ H D a C dx T I ha hT h
 obtain⟨f,bm,em,h⟩:=h
 obtain⟨bm',em',hB⟩:=hD
 refine wpAny_handleBy_cons (codeAny_handlers_test ?_) (by intro q;cases q)
 refine wpAny_mono (Vh (X:=X.suite (.ref a) _) (v:=.ref Cl) hg hm rfl hdb pins s σ H (λv H'=>v=.ref Cl/\H'=H) (I.suite _ _) ⟨rfl,rfl⟩) (λc s₁ q=>?_) (λ_ _ z=>z)
 obtain⟨v,H',I1,rv,rfl,rfl⟩:=q
 obtain rfl:c=Value.ref Cl:=rv
 have I2:qu X pins σ H' s₁:=I.unsuite I1
 obtain⟨nm,q,N,bs,hdct,sn,sub,ab,col,dd,k0,k1,k2,k3,k5,hC⟩:=em.obj
 obtain⟨nm',q',N',bs',hdct',sn',sub',ab',col',dd',k0',k1',k2',k3',k5',hC'⟩:=em'
 obtain⟨⟨fl,he,hz⟩,_,_⟩:=(show qA X.prog X.w H' s₁.heap a (jE a C dx (.ref T)) from I2.hok a _ ha)
 obtain⟨st,_,_⟩:=(show qA X.prog X.w H' s₁.heap T (zU T .none) from I2.hok T _ hT)
 have gC:=I2.kIn _ _ hC
 have gD:=I2.kIn _ _ hC'
 obtain⟨hp,g,d,tk,os⟩:=s₁
 refine Uv (bC:=Value.ref C::bm) (bD:=Value.ref Cl::bm') he rfl gC gD (λT Q k=>wpAny_isSubtype_exc gC k) (λT Q k=>wpAny_isSubtype_exc gD k) (by rw[List.contains_cons,hB,Bool.or_true]) ?_
 cases hb:(Value.ref C::bm).contains (.ref Cl) with
 | false=>
   rw[hb,if_neg Bool.false_ne_true]at h
   exact hr pins _ σ H' D a C dx T I2 ha hT h
 | true=>
   rw[hb,if_pos rfl]at h
   refine(show codeAny _ _ _ _ _ from codeAny_handlers_suite_as ?_)
   refine QW (fs:=ZO X.stack) he hz st λh' F st'=>?_
   have I3:qu X pins σ H' {heap:=h',gens:=g,drawn:=d,toks:=tk,os:=os}:=I2.flown (H':=H') F ⟨λb hb'=>by cases List.mem_singleton.mp hb';exact⟨_,hT⟩,λb o _ z=>z,λb _ z=>z⟩ (λb hb'=>by cases List.mem_singleton.mp hb';obtain⟨ts',z,_⟩:=st';exact⟨_,z⟩) λb o z hb'=>by
     rcases hb' with hb' | hb'
     . rw[z]at hb';cases hb'
     . cases List.mem_singleton.mp hb'
       rw[hT]at z
       cases z
       exact JD st'
   refine zb I3 hN hj (.inl hl) (v:=.ref a) rfl (λs' I4=>?_) (.inr hl)
   refine wpAny_mono (hs (.ref a) _ pins s' _ H' (D.gone j) (I4.suite _ _) h) (λfl s3 q=>?_) (λ_ _ z=>z)
   cases fl with
   | next=>
     obtain⟨σ3,H3,I5,q⟩:=q
     exact Z9 (I.unsuite I5) hN hj hl λs4 I6=>⟨_,_,I6,q⟩
   | brk=>
     obtain⟨σ3,H3,I5,q⟩:=q
     exact Z9 (I.unsuite I5) hN hj hl λs4 I6=>⟨_,_,I6,q⟩
   | cont=>
     obtain⟨σ3,H3,I5,q⟩:=q
     exact Z9 (I.unsuite I5) hN hj hl λs4 I6=>⟨_,_,I6,q⟩
   | ret u=>
     obtain⟨v,σ3,H3,I5,r,q⟩:=q
     exact Z9 (I.unsuite I5) hN hj hl λs4 I6=>⟨v,_,_,I6,r,q⟩
def uT (tb:(St->XK)->TS) (th:TH):TS:=λD σ H=>∃R:Addr->Addr->Hp->Prop,tb (λσ' c d Hx=>σ'=σ/\∃C dx,c=.ref C/\d=some dx/\R C dx Hx) D σ H/\
 ∀(a C dx T:Addr) (Hx H':Hp),R C dx Hx->Hx a=some (QJ a C dx)->(∀b o,b≠a->Hx b=some o->H' b=some o)->H' a=some (jE a C dx (.ref T))->th C a dx D σ H'
theorem kO {X:Cx} {body:List Stmt} {h0:ExceptHandler} {hs:List ExceptHandler} {tb:(St->XK)->TS} {th:TH} {pos:Pos} (hst:X.stack=X.env::X.outer) (hfm:X.env.frame=some X.env.locals)
   (hb:∀(pn:List (Addr×Obj)) (W:Value->Shared->Prop) (E:St->XK),Q0 (Jt X.prog X.w) (X.tried pn W) E->kI (X.tried pn W) body (tb E)) (hh:PH X (h0::hs) th):PS X (.Try body (h0::hs) [] [] pos) (uT tb th):=by
 intro pins s σ H D I h
 obtain⟨R,hbd,hx⟩:=h
 refine wpAny_Try_except ?_
 refine wpAny_mono (hb (X.pn++pins) (λe s₁=>wpAny (model X.prog X.w) X.A (noteFrame e X.env) (λ_ s₂=>wpAny (model X.prog X.w) X.A (setFlight e none) (λ_ s₃=>wpAny (model X.prog X.w) X.A (handleBy e X.env (h0::hs)) (SP X pins D) X.xe s₃) X.xe s₂) X.xe s₁) _ ?_ [] s σ H D (I.tried _) hbd) (λf s1 q=>?_) (λ_ _ z=>z)
 . intro pins' σ' H1 s1 e s' I1 hc
   obtain⟨a,C,dx,T,Hx,H2,rfl,os,bare,un,hok,ha,ht,hxT,hxa,hxs,rfl,C',dx',eC,eD,hR⟩:=hc
   cases eC
   cases eD
   have I2:qu X pins σ' H2 s':=I.untried (I1.call' os un hok bare λb z=>absurd z (by simp))
   obtain⟨⟨fl,he,hz⟩,_,_⟩:=(show qA X.prog X.w H2 s'.heap a (jE a C dx (.ref T)) from I2.hok a _ ha)
   obtain⟨st0,_,_⟩:=(show qA X.prog X.w H2 s'.heap T (zU T .none) from I2.hok T _ ht)
   have nT0:T≠a:=λz=>by
     obtain⟨ts,q,_⟩:=st0
     rw[z,he]at q
     cases q
   have fr:=I2.ok.frames
   have ff:=I2.stack
   rw[hst]at fr ff
   refine YI fr ff hfm he hz st0 nT0 λh1 T' hT F tT q1 q2=>?_
   have lt:=(Array.getElem?_eq_some_iff.mp hz).1
   have g1:(fl.setIfInBounds 1 (Value.ref T'))[1]?=some (.ref T'):=by simp [lt]
   have nT:T'≠a:=λz=>by
     obtain⟨ts,q,_⟩:=q2
     rw[z,q1]at q
     cases q
   refine QW (fs:=ZO X.stack) q1 g1 q2 λh2 F2 stt=>?_
   have anf:∀b o,H2 b=some o->b∉ZO X.stack:=λb o q z=>by
     have:=I2.stkFree b z
     rw[q]at this
     cases this
   have hTn:H2 T'=none:=I2.hok.fresh hT
   have nTT:T'≠T:=(qo ht hTn).symm
   have q3:=F2.keep a _ (anf a _ ha) (by simp [Ne.symm nT]) q1
   obtain⟨oT,hoT⟩:=tT
   have q4:=F2.keep T _ (anf T _ ht) (by simp [Ne.symm nTT]) hoT
   rw[<-hst]at F
   have I3:=I2.flown (H':=upd (upd (upd H2 a (jE a C dx (.ref T'))) T (.ext λh=>∃o,h.get? T=some o)) T' (zU T' .none)) (WP.then F F2 hT) ⟨λb hb=>by
       simp only[List.mem_cons,List.not_mem_nil,or_false]at hb
       rcases hb with rfl | rfl
       . exact⟨_,ha⟩
       . exact⟨_,ht⟩,λb o hb q=>by
       simp only[List.mem_cons,List.not_mem_nil,or_false,not_or]at hb
       rw[qe (qo q hTn),qe hb.2,qe hb.1];exact q,λb hb q=>by
       rw[qe (Nat.ne_of_lt (Nat.lt_of_lt_of_le hb hT)),qe (λz=>by rw[z,ht]at q;cases q),qe (λz=>by rw[z,ha]at q;cases q)];exact q⟩ (λb hb=>by
       simp only[List.mem_cons,List.not_mem_nil,or_false]at hb
       rcases hb with rfl | rfl
       . exact⟨_,q3⟩
       . exact⟨_,q4⟩) λb o q hb=>by
     by_cases e1:b=T'
     . subst e1
       rw[qd]at q
       cases q
       exact JD stt
     . rw[qe e1]at q
       by_cases e2:b=T
       . subst e2
         rw[qd]at q
         cases q
         exact⟨⟨_,q4⟩,⟨_,q4⟩,λh1 h2 ⟨u,z⟩ k=>⟨u,k u z⟩⟩
       . rw[qe e2]at q
         by_cases e3:b=a
         . subst e3
           rw[qd]at q
           cases q
           exact Jq ⟨_,q3,g1⟩
         . rw[qe e3]at q
           rcases hb with hb | hb
           . rw[q]at hb;cases hb
           . simp only[List.mem_cons,List.not_mem_nil,or_false]at hb
             exact(hb.elim e3 e2).elim
   have ea:upd (upd (upd H2 a (jE a C dx (.ref T'))) T (.ext λh=>∃o,h.get? T=some o)) T' (zU T' .none) a=some (jE a C dx (.ref T')):=by rw[qe (Ne.symm nT),qe (Ne.symm nT0),qd]
   refine hh pins _ σ' _ D a C dx T' I3 ea qd (hx a C dx T' Hx _ hR hxa (λb o nb q=>?_) ea)
   have n1:b≠T:=λz=>by rw[z,hxT]at q;cases q
   have q':=hxs b o nb q
   rw[qe (qo q' hTn),qe n1,qe nb]
   exact q'
 . cases f with
   | next=>
     obtain⟨σ',H',I',q⟩:=q
     exact wpAny_execs_nil ⟨σ',H',I.untried I',q⟩
   | brk=>
     obtain⟨σ',H',I',q⟩:=q
     exact⟨σ',H',I.untried I',q⟩
   | cont=>
     obtain⟨σ',H',I',q⟩:=q
     exact⟨σ',H',I.untried I',q⟩
   | ret u=>
     obtain⟨v,σ',H',I',r,q⟩:=q
     exact⟨v,σ',H',I.untried I',r,q⟩
@[irreducible] def JH (X:Cx) (hs:List ExceptHandler) (t:TH):Prop:=PH X hs t
theorem JH.of {X:Cx} {hs:List ExceptHandler} {t:TH} (h:PH X hs t):JH X hs t:=by unfold JH;exact h
theorem JH.to {X:Cx} {hs:List ExceptHandler} {t:TH} (h:JH X hs t):PH X hs t:=by unfold JH at h;exact h
theorem vO {X:Cx} {hs:List ExceptHandler}:JH X hs ki:=.of Uc
theorem yP {X:Cx} {x n:Str} {p pos:Pos} {j:Nat} {b₀:Stmt} {suite:List Stmt} {rest:List ExceptHandler} {ts:TS} {tr:TH} {Cl:Addr} (hg:Gl X x) (hm:X.mg x=some (.ref Cl)) (hD:UD X.K Cl) (hN:X.N.Nodup) (hj:X.N[j]?=some n)
   (hl:X.env.scope.names.lookup n=some .local) (hs:∀v E,zZ (X.suite v E) (b₀::suite) ts) (hr:JH X rest tr) (hdb:(x==("__debug__":Str))=false:=by decide):JH X (.ExceptHandler (some (.Name x p)) (some n) (b₀::suite) pos::rest) (WY X.K Cl j ts tr):=
 .of (WI hg hm hD.c hN hj hl (λv E=>(hs v E).to) hr.to hdb)
theorem wQ {X:Cx} {body:List Stmt} {h0:ExceptHandler} {hs:List ExceptHandler} {tb:(St->XK)->TS} {th:TH} {pos:Pos} (hst:X.stack=X.env::X.outer) (hfm:X.env.frame=some X.env.locals)
   (hb:∀(pn:List (Addr×Obj)) (W:Value->Shared->Prop) (E:St->XK),Q0 (Jt X.prog X.w) (X.tried pn W) E->zZ (X.tried pn W) body (tb E)) (hh:JH X (h0::hs) th):JS X (.Try body (h0::hs) [] [] pos) (uT tb th):=
 .of (kO hst hfm (λpn W E h=>(hb pn W E h).to) hh.to)
def xr (K:PySem.W.Frag) (bm:List Value) (ta:TE) (f:Str):TE:=λσ H Q=>ta σ H λx H1=>∃a C dx hd fs v,x=.ref a/\H1 a=some (jE a C dx hd)/\H1 dx=some (.xd fs)/\ZW K C bm/\jY K C f/\fs.lookup f=some v/\Q v H1
def Wr (K:PySem.W.Frag) (bm:List Value):List V->Hp->VK->Prop:=λxs H Q=>∃a C dx hd fs c b,xs=[.ref a,c]/\xJ c=true/\H a=some (jE a C dx hd)/\H dx=some (.xd fs)/\ZW K C bm/\PySem.W.kitOne K (.ref C) (xb c)=some b/\Q (.bl b) H
section
variable {X:Cx} {f:Str} {e:Expr} {pos:Pos} {ta:TE} {bm:List Value}
theorem yS (he:JE X e ta) (hb:attributeBase e f X.env (eval e X.env)=eval e X.env):JE X (.Attribute e f pos) (xr X.K bm ta f):=.of (by
 have he:=he.to
 intro pins s σ H Q I h
 refine VB hb (jc (he pins s σ H _ I h) λu s1 z=>?_)
 obtain⟨x,H1,I1,rx,a,C,dx,hd,fs,v,ex,ea,ed,c,n,l,q⟩:=z
 subst ex
 obtain rfl:u=Value.ref a:=rx
 exact Ut I1 ea ed c n l λu' s2 I2 ru=>⟨v,H1,I2,ru,q⟩)
theorem ZR (hn:PySem.W.specialIn X.K (.builtin "object.__class__") "__get__"=some (some (.builtin "getset_descriptor.__get__"))) (htk:PySem.W.takesIn X.K (.builtin "object.__class__")=some true):jU X (.builtin "isinstance") (Wr X.K bm):=by
 intro pins s σ H xs us Q I r h
 obtain⟨a,C,dx,hd,fs,c,b,rfl,hc,ha,hdx,ec,ek,q⟩:=h
 obtain⟨u,w',rfl,ru,rw'⟩:=WT r
 have ew:w'=xb c:=by
   cases c with
   | ty n=>exact rw'
   | ref z=>exact rw'
   | _=>cases hc
 subst ew
 cases ru
 exact vZ I ha hdx ec hn htk ek λtk=>⟨.bl b,H,I.tok tk,rfl,q⟩
theorem qv.cx {P:Program} {w:World} {K:PySem.W.Frag} {mg:Str->Option Value} {base:Heap} {CX:ZJ} {k:Nat} {f:Addr} {fd:FuncData} {ps:List Str} {sp:Sp} (F:qv P w K mg base jd k f fd ps sp):qv P w K mg base CX k f fd ps sp:=
 ⟨F.len,λA outer s H args us vs Q E hr he hb hv hs=>codeAny_mono (F.run A outer s H args us vs Q E hr he hb hv hs) λr s' q=>by
   match r,q with
   | .ok (.ret u),q=>exact q
   | .ok .next,q=>exact q
   | .ok .brk,q=>exact q
   | .ok .cont,q=>exact q
   | .error e,q=>exact q.elim⟩
end
end L2
set_option Elab.async false
set_option linter.all false
set_option maxRecDepth 100000
set_option maxHeartbeats 4000000
namespace PySem
open PySem.Spec
namespace F
theorem plain_dupd_loop:plainId "dict.update.loop"=true:=by decide+kernel
theorem entry_dupd_loop:entryFor table "dict.update.loop"=some Builtin.«dict.update.loop»:=entryFor_of_fast (by kernel_rfl)
end F
theorem Heap.DictOf.keepsAt {prog:Program} {w:World} {κ:Type} [DecidableEq κ] {knd:KeyKind prog w κ} {h h':Heap} {a:Addr} {kvs:List (κ×Value)} (hm:h.DictOf knd a kvs) (k:∀o,h.get? a=some o->h'.get? a=some o):h'.DictOf knd a kvs:=
 let ⟨o,es,ep,ho,r⟩:=hm;⟨o,es,ep,k o ho,r⟩
section
variable {prog:Program} {w:World} {A:Around} {R:Result->Shared->Prop} {I:Addr} {fp wr:List Addr} {n:Nat} {P:Nat->Value->Prop} {St:Nat->Heap->Prop} {κ:Type} [DecidableEq κ] {knd:KeyKind prog w κ}
def uf (knd:KeyKind prog w κ) (h:Heap) (wr:List Addr) (d:Addr) (v:Value) (kv:κ×Value):Prop:=∃p o c k,v=.ref p/\h.get? p=some o/\o.cls=.type "tuple"/\o.data=.seq #[k,kv.2] c/\knd.is kv.1 k=true/\p∉wr/\p≠d
theorem Zm (W:Walks prog w A.in1 I fp wr n P St) (kv:Nat->κ×Value) (d:Addr) (hdf:d∉fp) (hn:n<=1000):
   ∀(k i:Nat) (s:Shared) (t:Tok) (kvs:List (κ×Value)),n - i=k->i<=n->St i s.heap->s.heap.DictOf knd d kvs->kvs.length<=i->(∀j v,P j v->uf knd s.heap wr d v (kv j))->
   (∀h' tk,h'.DictOf knd d (merged kvs (((List.range n).drop i).map kv))->(∀b o,b∉wr->b≠d->s.heap.get? b=some o->h'.get? b=some o)->R (.ok (.ret .none)) {s with heap:=h',toks:=tk})->
   codeAny (model prog w) A (.builtin "dict.update.loop" ⟨[.ref d,.ref I,.int i t,.none],[]⟩) R s:=by
 have hdw:d∉wr:=λh=>hdf (W.sub _ h)
 intro k
 induction k with
 | zero=>
   intro i s t kvs hk hi hst hd hl hp hR
   have hin:i=n:=by omega
   subst hin
   refine codeAny_builtin F.entry_dupd_loop ?_
   rw[Around.under_plainId F.plain_dupd_loop _]
   show wpAny _ A.in1 (pyNext (.ref I) >>= _) _ _ s
   refine wpAny_bind (W.done s _ _ hst λh' tk hk'=>?_)
   show wpAny _ A.in1 (Builtin.Dict.addKeywords d [] >>= _) _ _ _
   refine wpAny_bind (wpAny_pure (wpAny_pure (hR h' tk ?_ λb o hb _ e=>hk' b o hb e)))
   rw[List.drop_of_length_le (by simp)]
   exact hd.keepsAt λo e=>hk' d o hdw e
 | succ k ih=>
   intro i s t kvs hk hi hst hd hl hp hR
   have hlt:i < n:=by omega
   refine codeAny_builtin F.entry_dupd_loop ?_
   rw[Around.under_plainId F.plain_dupd_loop _]
   show wpAny _ A.in1 (pyNext (.ref I) >>= _) _ _ s
   refine wpAny_bind (W.item i s _ _ hlt hst λv h' tk hP hst' hk'=>?_)
   obtain⟨p,o,c,key,rfl,ho,hc,hdat,hkey,hpw,hpd⟩:=hp i v hP
   have ho':=hk' p o hpw ho
   have hd':h'.DictOf knd d kvs:=hd.keepsAt λo e=>hk' d o hdw e
   have ty:(⟨h',s.gens,s.drawn,tk,s.os⟩:Shared).TypeIs (.ref p) "tuple":=⟨o,ho',hc⟩
   refine wpAny_bind (wpAny_holding (wpAny_bind (wpAny_tryCatch ?_)))
   unfold Builtin.Dict.pairItems
   refine wpAny_bind (wpAny_typeOf ty ?_)
   rw[if_pos (by decide)]
   refine wpAny_bind (wpAny_seqItems ho' hdat (wpAny_pure ?_))
   refine(show wpAny _ _ (holding [key,(kv i).2] (dictSet d key (kv i).2)) _ _ _ from wpAny_holding (wpAny_dictSet_pairs hkey hd' (λh'' dd hs=>?_) (by rw[sizeLine_eq];omega)))
   refine wpAny_pure ⟨plainId_quiet F.plain_dupd_loop _,?_⟩
   have keep:∀b o,b∉wr->b≠d->s.heap.get? b=some o->h''.get? b=some o:=λb o hb hbd e=>(hs.2 b hbd).trans (hk' b o hb e)
   have len:(stored kvs (kv i).1 (kv i).2).length<=i+1:=by
     have:=stored_length_le kvs (kv i).1 (kv i).2
     omega
   refine ih (i+1) _ _ (stored kvs (kv i).1 (kv i).2) (by omega) hlt (W.frame _ _ _ hst' λb hb o e=>(hs.2 b (λz=>hdf (z▸hb))).trans e) dd len (λj v hj=>?_) λh3 tk3 d3 k3=>?_
   . obtain⟨p,o,c,k,e1,e2,r⟩:=hp j v hj
     exact⟨p,o,c,k,e1,keep p o r.2.2.2.1 r.2.2.2.2 e2,r⟩
   . refine hR h3 tk3 ?_ λb o hb hbd e=>k3 b o hb hbd (keep b o hb hbd e)
     have e:(List.range n).drop i=i::(List.range n).drop (i+1):=by
       rw[List.drop_eq_getElem_cons (by simpa using hlt)]
       simp
     rw[e]
     exact d3
end
section
variable {prog:Program} {w:World} {A:Around} {E:Value->Shared->Prop} {s:Shared} {κ:Type} [DecidableEq κ] {knd:KeyKind prog w κ}
theorem YJ:typeLookup (.type "list") "keys"=pure none:=by rw[typeLookup_type,builtinLookup_eq_fast];kernel_rfl
theorem YK {a:Addr} {o:Obj} {xs:Array Value} {k:Nat} {Q:Option Value->Shared->Prop} (hx:s.heap.get? a=some o) (hc:o.cls=.type "list") (hdat:o.data=.seq xs k) (hd:o.dict=none) (hA:A.handled=none)
   (h:∀h' tk,(∀b o,s.heap.get? b=some o->h'.get? b=some o)->Q none {s with heap:=h',toks:=tk}):wpAny (model prog w) A (getAttr? (.ref a) "keys") Q E s:=by
 obtain⟨c,dct,dat,sl⟩:=o
 simp only at hc hdat hd
 subst hc hdat hd
 obtain⟨hp,g,d,tk,os⟩:=s
 have hT:∀tk',(⟨hp,g,d,tk',os⟩:Shared).TypeIs (.ref a) "list":=λ_=>⟨_,hx,rfl⟩
 have f1:=sub_AttributeError
 have f3:=F.slot_list_getattribute.lookup
 have f4:=F.slot_list_getattribute.bind (.ref a)
 have f5:=am_list_getattr_none
 unfold getAttr? getAttrBy? getAttrBy
 repeat (any_goals (first | assumption | exact hT _ | ((with_reducible show wpAny _ _ (call (Value.builtin "list.__getattribute__") _ _) _ _ _);refine call_meets F.slot_list_getattribute (hT _) am_entry_list_getattribute (F.args_list_getattribute_2 _ _) (meets_getattribute_miss_list a xs k sl "keys" _ YJ (by decide+kernel)) ⟨hx,hA,λh' tk' e hx'=>?_⟩) | wp_step))
 obtain⟨t',u',he⟩:=hx'.there
 show wpAny _ _ (getattributeRaised _ _ _ _ _ _ _) _ _ _
 unfold getattributeRaised
 repeat (any_goals (first | assumption | wp_step))
 exact h _ _ hx'.of.keeps
theorem ZU {src:Addr} {items:Array Value} {kv:Nat->κ×Value} {Q:Value->Shared->Prop} (pl:PlainL s.heap src items) (hp:∀j v,items[j]?=some v->∃p o c key,v=.ref p/\s.heap.get? p=some o/\o.cls=.type "tuple"/\o.data=.seq #[key,(kv j).2] c/\knd.is (kv j).1 key=true)
   (hn:items.size<=1000) (hA:A.handled=none)
   (h:∀h' tk,h'.DictOf knd s.heap.objs.size (merged [] ((List.range items.size).map kv))->(∀b o,s.heap.get? b=some o->h'.get? b=some o)->Q (.ref s.heap.objs.size) {s with heap:=h',toks:=tk}):
   wpAny (model prog w) A (call (.type "dict") [.ref src]) Q E s:=by
 refine callType_codes (Q₁:=λobj s₁=>obj=.ref s.heap.objs.size/\s₁={s with heap:=s.heap.push {cls:=.type "dict",data:=.dict #[]}}) F.kt_called_dict (F.kt_typeCall_dict_1 _) F.entry_dict_init (kt_code_dict_new _ ⟨rfl,rfl⟩) ?_
 rintro obj s₁ ⟨rfl,rfl⟩
 have hnew:(s.heap.push {cls:=.type "dict",data:=.dict #[]}).DictOf knd s.heap.objs.size []:=Heap.DictOf.new s.heap
 have hp0:∀b o,s.heap.get? b=some o->(s.heap.push {cls:=.type "dict",data:=.dict #[]}).get? b=some o:=λb o e=>Heap.get?_push_of_some _ e
 obtain⟨ol,nl,ho,hc,hd,hdat⟩:=id pl
 have ty:(⟨s.heap.push {cls:=.type "dict",data:=.dict #[]},s.gens,s.drawn,s.toks,s.os⟩:Shared).TypeIs (.ref src) "list":=⟨ol,hp0 _ _ ho,hc⟩
 refine⟨hnew.typeIs,F.args_dict_init_2 _ _,?_⟩
 unfold Builtin.«dict.__init__»
 refine wpAny_bind ?_
 unfold Builtin.Dict.selfAndRest
 refine wpAny_bind (wpAny_notOrdered_dict hnew.typeIs ?_)
 show wpAny _ _ (pure (s.heap.objs.size,[Value.ref src])) _ _ _
 refine wpAny_pure ?_
 show wpAny _ _ (Builtin.Dict.updateFrom "dict.__init__" s.heap.objs.size (.ref src) [] .none) _ _ _
 unfold Builtin.Dict.updateFrom
 refine wpAny_bind (wpAny_typeOf ty ?_)
 rw[if_pos (by decide)]
 refine wpAny_bind (YK (hp0 _ _ ho) hc hdat hd hA λh1 tk1 k1=>?_)
 rw[if_pos (show (none:Option Value).isNone=true from rfl)]
 refine wpAny_bind (wpAny_rule ?_)
 have pl1:PlainL h1 src items:=⟨ol,nl,k1 _ _ (hp0 _ _ ho),hc,hd,hdat⟩
 have hlt:src < h1.objs.size:=Heap.lt_size (k1 _ _ (hp0 _ _ ho))
 have hnew1:h1.DictOf knd s.heap.objs.size []:=hnew.keepsAt λo e=>k1 _ o e
 have hld:s.heap.objs.size < h1.objs.size:=by
   obtain⟨o,_,_,e,_⟩:=hnew1
   exact Heap.lt_size e
 refine wpAny_bind (wpAny_pyIter_list pl1.isList ?_)
 refine wpAny_pure ⟨plainId_quiet F.plain_dupd_loop _,?_⟩
 have W:=Walks.list (prog:=prog) (w:=w) (A:=A.in1.in1) hA h1.objs.size src (Nat.ne_of_lt hlt) items
 have nsrc:s.heap.objs.size≠src:=Ne.symm (Nat.ne_of_lt (Heap.lt_size ho))
 refine Zm (A:=A.in1) W kv s.heap.objs.size (by simp only[List.mem_cons,List.mem_nil_iff,or_false,not_or];exact⟨Nat.ne_of_lt hld,nsrc⟩) hn items.size 0 _ _ [] (by omega) (Nat.zero_le _)
   ⟨⟨_,Heap.get?_push_size _ rfl,rfl,rfl⟩,pl1.isList.at λo e=>Heap.get?_push_of_some _ e⟩ (hnew1.push _) (Nat.zero_le _) (λj v hj=>?_) λh2 tk2 d2 k2=>⟨rfl,h h2 tk2 d2 λb o e=>?_⟩
 . obtain⟨p,o,c,key,e1,e2,e3,e4,e5⟩:=hp j v hj
   have e2':=k1 _ _ (hp0 _ _ e2)
   refine⟨p,o,c,key,e1,Heap.get?_push_of_some _ e2',e3,e4,e5,?_,Nat.ne_of_lt (Heap.lt_size e2)⟩
   simp only[List.mem_cons,List.mem_nil_iff,or_false]
   exact Nat.ne_of_lt (Heap.lt_size e2')
 . have e':=k1 _ _ (hp0 _ _ e)
   refine k2 b o ?_ (Nat.ne_of_lt (Heap.lt_size e)) (Heap.get?_push_of_some _ e')
   simp only[List.mem_cons,List.mem_nil_iff,or_false]
   exact Nat.ne_of_lt (Heap.lt_size e')
end
end PySem
namespace L2
open PySem PySem.Spec PyProof.Rows
section
variable {X:Cx} {pins:List (Addr×Obj)} {σ:St} {H:Hp} {s:Shared}
def wg (K:PySem.W.Frag):List V->Hp->VK->Prop:=λxs H Q=>∃(p:Addr) (ps:List Addr) (kvs:List (qS×V)),xs=[.ref p]/\SqL K H p (ps.map V.ref)/\ps.length=kvs.length/\(∀(i:Nat) (a:Addr) (kv:qS×V),ps[i]?=some a->kvs[i]?=some kv->SqT K H a [kV kv.1,kv.2])/\kvs.length<=1000/\
 ∀d,H d=none->Q (.ref d) (upd H d (.dK (Qa [] kvs)))
theorem zr (I:qu X pins σ H s):∀(ps:List Addr) (kvs:List (qS×V)),ps.length=kvs.length->(∀(i:Nat) (a:Addr) (kv:qS×V),ps[i]?=some a->kvs[i]?=some kv->SqT X.K H a [kV kv.1,kv.2])->
   ∃rs:List (qS×Value),KV kvs rs/\rs.length=ps.length/\∀(i:Nat) (a:Addr),ps[i]?=some a->∃kv o c key,rs[i]?=some kv/\s.heap.get? a=some o/\o.cls=.type "tuple"/\o.data=.seq #[key,kv.2] c/\(jh X.prog X.w).is kv.1 key=true
 | [],[],_,_=>⟨[],.nil,rfl,λi a e=>by simp at e⟩
 | [],_::_,h,_=>by cases h
 | _::_,[],h,_=>by cases h
 | a::ps,kv::kvs,h,k=>by
   obtain⟨rs,r1,r2,r3⟩:=zr I ps kvs (Nat.succ.inj h) λi a' kv' e1 e2=>k (i+1) a' kv' (by simpa using e1) (by simpa using e2)
   obtain⟨its,rv,⟨o,e,c1,n1,d1⟩,_⟩:=I.tuple (k 0 a kv rfl rfl)
   cases rv with
   | cons ra rt=>
     cases rt with
     | cons rb rn=>
       cases rn
       rename_i u1 u2
       refine⟨(kv.1,u2)::rs,.cons ⟨rfl,rb⟩ r1,by simp [r2],λi a' e'=>?_⟩
       cases i with
       | zero=>
         cases e'
         exact⟨_,o,n1,u1,rfl,e,c1,d1,zE ra⟩
       | succ i=>exact r3 i a' (by simpa using e')
theorem WK (hc:X.calm=true):jU X (.type "dict") (wg X.K):=by
 intro pins s σ H xs us Q I r h
 obtain⟨p,ps,kvs,rfl,hl,le,hps,hz,q⟩:=h
 obtain⟨u,rfl,ru⟩:=Qj r
 cases ru
 obtain⟨its,rv,pl,_⟩:=I.list hl
 obtain rfl:=z0 rv
 obtain⟨rs,r1,r2,r3⟩:=zr I ps kvs le hps
 have hsz:(ps.map Value.ref).toArray.size=rs.length:=by simp [r2]
 have hR:(List.range (ps.map Value.ref).toArray.size).map (λj=>(rs[j]?).getD (Sum.inl 0,Value.none))=rs:=by
   rw[hsz]
   refine List.ext_getElem? λi=>?_
   rw[List.getElem?_map]
   by_cases hi:i < rs.length
   . rw[List.getElem?_range hi,List.getElem?_eq_getElem hi]
     simp [hi]
   . rw[List.getElem?_eq_none (by rw[List.length_range];omega),List.getElem?_eq_none (by omega)]
     rfl
 refine ZU (knd:=jh X.prog X.w) (kv:=λj=>(rs[j]?).getD (Sum.inl 0,Value.none)) pl (λj v hj=>?_) (by rw[hsz,r2,le];exact hz) (I.ok.hd hc) λh' tk dd kp=>?_
 . have hj':(ps.map Value.ref)[j]?=some v:=by simpa using hj
   rw[List.getElem?_map]at hj'
   cases e:ps[j]? with
   | none=>rw[e]at hj';cases hj'
   | some a=>
     rw[e]at hj'
     obtain⟨kv,o,c,key,f1,f2,f3,f4,f5⟩:=r3 j a e
     refine⟨a,o,c,key,(Option.some.inj hj').symm,f2,f3,?_,?_⟩
     . show o.data=.seq #[key,((rs[j]?).getD (Sum.inl 0,Value.none)).2] c
       rw[f1]
       exact f4
     . show (jh X.prog X.w).is ((rs[j]?).getD (Sum.inl 0,Value.none)).1 key=true
       rw[f1]
       exact f5
 . rw[hR]at dd
   have hn:=I.hok.fresh (Nat.le_refl s.heap.objs.size)
   have big:(s.heap.objs.size==sysModules)=false:=beq_eq_false_iff_ne.mpr (Ne.symm (Nat.ne_of_lt I.big))
   have hlen:(Qa [] kvs).length<=sizeLine:=by
     have:=Qw kvs []
     rw[List.length_nil]at this
     rw[sizeLine_eq]
     omega
   exact⟨.ref s.heap.objs.size,_,I.laid (a:=s.heap.objs.size) (o:=.dK (Qa [] kvs)) (h':=h') (t':=tk) kp (Nat.le_refl _) (WH hlen big (r1.merge .nil) dd),rfl,q _ hn⟩
end
end L2
set_option Elab.async false
set_option linter.all false
set_option maxRecDepth 100000
set_option maxHeartbeats 4000000
namespace L2
open PySem PySem.Spec PyProof.Rows
section
variable {P:Program} {w:World} {K:PySem.W.Frag} {mg:Str->Option Value} {base:Heap}
theorem j3.okX {CX:ZJ} {x qual:Str} {st:Stmt} {f:Addr} {fd:FuncData} {N ps:List Str} {k:Nat} {sp:Sp} (F:j3 K x qual st f fd) (S:qy N ps (qi st)) (len:∀vs H Q E,sp vs H Q E->vs.length=ps.length)
   (hbody:∀(cdv:Value) (A:Around) (outer:List Env) (s:Shared) (H:Hp) (vs:List V) (Q:VK) (E:XK),ja k (A.deeper (envOfC qual (qi st) s.heap.objs.size f cdv))->sp vs H Q E->
     ∃t,zZ (jF CX P w K mg base N qual (qi st) f cdv A outer s H E) (ji st) t/\t {nx:=λ_ H'=>Q .non H',rt:=Q} (jO N vs) H):qv P w K mg base CX (k+1) f fd ps sp:=by
 obtain⟨oc,od,kV,doc,pm,an,cdv,ct,osl,rfl,lk,hcd⟩:=F.ex
 refine xL lk hcd S len λA outer s H vs Q E hr hsp=>?_
 obtain⟨t,h,q⟩:=hbody cdv A outer s H vs Q E hr hsp
 exact⟨t,h.to,q⟩
end
def xq (t:TA):TE:=λσ H Q=>t σ H λxs H1=>xs.length<=sizeLine/\∀p,H1 p=none->p≠sysModules->Q (.ref p) (upd H1 p (.lst xs))
section
variable {X:Cx} {es:List Expr} {t:TA} {pos:Pos}
theorem YO (h:JA X es t):JE X (.List es pos) (xq t):=.of (by
 have h:=h.to
 intro pins s σ H Q I hq
 refine wpAny_List_spliced (jc (h pos pins s σ H _ I hq) λus s1 ⟨xs,H1,I1,r,z,q⟩=>⟨by rw[<-r.length];exact z,?_⟩)
 have hf:H1 s1.heap.objs.size=none:=I1.hok.fresh (Nat.le_refl _)
 refine⟨.ref s1.heap.objs.size,upd H1 s1.heap.objs.size (.lst xs),I1.laid (t':=s1.toks) (λb u e=>Heap.get?_push_of_some _ e) (Nat.le_refl _) ?_,rfl,q _ hf (Ne.symm (Nat.ne_of_lt I1.big))⟩
 exact⟨z,us,0,r,Heap.get?_push_size _ rfl⟩)
end
end L2
set_option Elab.async false
set_option linter.all false
set_option maxRecDepth 100000
set_option maxHeartbeats 4000000
namespace L2
open PySem PySem.Spec PyProof.Rows
section
variable {X:Cx}
def wf (K:PySem.W.Frag) (neg:Bool):R2:=λx y H Q=>∃d ds,DV K H x d/\DV K H y (.list ds)/\d.canLay0=true/\PyData.canLayAll0 ds=true/\d.depth<=40/\Q (.bl (if neg then !(ds.any λz=>PyData.eqv z d) else ds.any λz=>PyData.eqv z d)) H
theorem wu (hu:X.A.units+64 < cLine):Zq X (compareOp .In) (wf X.K false):=by
 intro pins s σ H x y v u Q I rx ry h
 obtain⟨d,ds,h1,h2,c1,c2,dp,q⟩:=h
 obtain⟨as,ra⟩:=h1.reads I rx
 obtain⟨bs,rb⟩:=h2.reads I ry
 refine SeqAt.in_list_reads rb ra c2 c1 ?_ ⟨.bl _,H,I,rfl,q⟩
 have:=Nat.min_le_right (PyData.depthAll ds) d.depth
 omega
theorem V4 (hu:X.A.units+64 < cLine):Zq X (compareOp .NotIn) (wf X.K true):=by
 intro pins s σ H x y v u Q I rx ry h
 obtain⟨d,ds,h1,h2,c1,c2,dp,q⟩:=h
 obtain⟨as,ra⟩:=h1.reads I rx
 obtain⟨bs,rb⟩:=h2.reads I ry
 refine SeqAt.notIn_list_reads rb ra c2 c1 ?_ ⟨.bl _,H,I,rfl,q⟩
 have:=Nat.min_le_right (PyData.depthAll ds) d.depth
 omega
end
end L2
namespace L2
open PySem PySem.Spec PyProof.Rows
end L2
set_option Elab.async false
set_option linter.all false
set_option maxRecDepth 100000
set_option maxHeartbeats 4000000
namespace L2
open PySem PySem.Spec PySem.W PyProof.Rows
section
variable {α β:Type} {lt:Nat->Nat->Bool} {n:Nat}
def evT (lt:Nat->Nat->Bool):KasT α->α
 | .ret a=>a
 | .ask i j k=>evT lt (k (lt i j))
end
def ltS (zs:List Str) (i j:Nat):Bool:=decide ((zs.getD i "").cps.toList < (zs.getD j "").cps.toList)
def srt (zs:List Str):List Nat:=if zs.length < 2 then List.range zs.length else (evT (ltS zs) (kas_sort zs.length)).toList
section
variable {P:Program} {w:World} {B:Around} {F:Value->Shared->Prop} {z:Shared}
end
section
variable {X:Cx} {o:Expr} {td:TE} {p1 p2 pos1 pos2 ap cp:Pos}
end
section
variable {X:Cx}
end
end L2
set_option Elab.async false
set_option linter.all false
set_option maxRecDepth 100000
set_option maxHeartbeats 4000000
namespace L2
open PySem PySem.Spec PySem.W PyProof.Rows
section
variable {X:Cx}
def uW (K:PySem.W.Frag):R2:=λx y H Q=>∃(a b:Addr) (xs:List V),x=.ref a/\y=.ref b/\SqL K H a xs/\SqL K H b []/\Q (.bl (!xs.isEmpty)) H
theorem yt (hu:X.A.units < cLine):Zq X (compareOp .NotEq) (uW X.K):=by
 intro pins s σ H x y v u Q I rx ry h
 obtain⟨a,b,xs,rfl,rfl,ha,hb,q⟩:=h
 cases rx
 cases ry
 obtain⟨its,rv,pl,_⟩:=I.list ha
 obtain⟨its2,rv2,pl2,_⟩:=I.list hb
 have l2:its2=[]:=List.eq_nil_of_length_eq_zero rv2.length.symm
 subst l2
 cases xs with
 | nil=>
   have l1:its=[]:=List.eq_nil_of_length_eq_zero rv.length.symm
   subst l1
   exact EqBoolInt.of_rcne (SeqAt.RcNeAt.lists (e:=λ_=>true) pl.isList pl2.isList rfl hu λj h1 h2=>absurd h1 (Nat.not_lt_zero j)) ⟨.bl _,H,I,rfl,q⟩
 | cons x xs=>
   cases its with
   | nil=>cases rv
   | cons u' us'=>exact EqBoolInt.of_rcne (SeqAt.RcNeAt.lists_lengths pl.isList pl2.isList (by simp) hu) ⟨.bl true,H,I,rfl,q⟩
end
end L2
set_option Elab.async false
set_option linter.all false
set_option maxRecDepth 100000
set_option maxHeartbeats 4000000
namespace L2
open PySem PySem.Spec PySem.W PyProof.Rows
section
variable {P:Program} {w:World} {B:Around} {F:Value->Shared->Prop} {z:Shared}
end
section
variable {X:Cx}
end
end L2
set_option Elab.async false
set_option linter.all false
set_option maxRecDepth 100000
set_option maxHeartbeats 4000000
namespace L2
open PySem PySem.Spec PySem.W PyProof.Rows
section
variable {prog:Program} {w:World} {A:Around} {R:Result->Shared->Prop} {I:Addr} {fp wr:List Addr} {G:Array GenState->Array GenState->Prop} {n:Nat} {P:Nat->Value->Prop} {St:Nat->Shared->Prop}
end
section
variable {prog:Program} {w:World} {A:Around} {E:Value->Shared->Prop} {s:Shared}
end
section
variable {X:Cx} {e:Expr} {te:TE} {p1 p2 pos1 pos2:Pos}
end
end L2
set_option Elab.async false
set_option linter.all false
set_option maxRecDepth 100000
set_option maxHeartbeats 4000000
namespace L2
open PySem PyProof.Rows
theorem ud {α:Type} {K:PySem.W.Frag} {a D:Addr} {xs:List α} {enc:α->V} {out:α->Option V} {rest:St} {H:Hp} {tt:TT} {te:TE} {Q:Hp->Prop} (hD:H D=none) (ha:H a=some (.lst (xs.map enc))) (len:xs.length < sizeLine)
   (ht:∀x∈xs,∀G,Same H G->∀R:Bool->Hp->Prop,(∀G',Same G G'->R (out x).isSome G')->tt (some (enc x)::rest) G R)
   (he:∀x∈xs,∀v,out x=some v->∀G,Same H G->∀R:V->Hp->Prop,(∀G',Same G G'->R v G')->te (some (enc x)::rest) G R)
   (k:∀G,Same H G->G D=some (.lst (xs.filterMap out))->Q G):Xc (uj K a) (QH 0) tt te D (none::rest) H Q:=by
 have sD:Same H (upd H D (.lst [])):=λb o h=>by
   rw[qe (λe=>by rw[e,hD]at h;cases h)]
   exact h
 refine j6 (K:=K) (a:=a) (xs:=xs.map enc) (λi σ' G=>(∃v0,σ'=v0::rest)/\Same H G/\G D=some (.lst ((xs.take i).filterMap out))) ⟨⟨none,rfl⟩,sD,qd⟩ (λi σ' G _ ⟨_,s,_⟩=>.of (s _ _ ha)) ?_ ?_
 . rintro i y σ' G hy ⟨⟨v0,rfl⟩,s,hG⟩
   rw[List.getElem?_map]at hy
   cases ex:xs[i]? with
   | none=>rw[ex]at hy;cases hy
   | some x=>
     rw[ex]at hy
     obtain rfl:=(Option.some.inj hy).symm
     have hx:x∈xs:=List.mem_of_getElem? ex
     have et:(xs.take (i+1)).filterMap out=(xs.take i).filterMap out++(out x).toList:=by
       rw[List.take_add_one,ex,List.filterMap_append]
       cases c:out x<;>simp [c]
     show tt (some (enc x)::rest) G _
     refine ht x hx G s _ λG1 s1=>?_
     cases c:out x with
     | none=>
       show if false=true then _ else _
       rw[if_neg Bool.false_ne_true]
       refine⟨⟨_,rfl⟩,λb o h=>s1 _ _ (s _ _ h),?_⟩
       rw[et,c]
       simpa using s1 _ _ hG
     | some v=>
       show if true=true then _ else _
       rw[if_pos rfl]
       refine he x hx v c G1 (λb o h=>s1 _ _ (s _ _ h)) _ λG2 s2=>?_
       refine⟨_,s2 _ _ (s1 _ _ hG),?_,⟨_,rfl⟩,?_,?_⟩
       . refine Nat.lt_of_le_of_lt (List.length_filterMap_le _ _) ?_
         rw[List.length_take]
         omega
       . intro b o h
         rw[qe (λe=>by rw[e,hD]at h;cases h)]
         exact s2 _ _ (s1 _ _ (s _ _ h))
       . rw[et,c]
         exact qd
 . rintro σ' G ⟨_,s,hG⟩
   rw[List.length_map,List.take_of_length_le (Nat.le_refl _)]at hG
   exact k G s hG
end L2
set_option Elab.async false
set_option linter.all false
set_option maxRecDepth 100000
set_option maxHeartbeats 4000000
namespace L2
open PySem PyProof.Rows
section
variable {prog:Program} {w:World} {KK:Type} [DecidableEq KK] {kd:HeapKind prog w KK} {A:Around} {E:Value->Shared->Prop} {s:Shared}
end
section
variable {X:Cx} {pins:List (Addr×Obj)} {σ:St} {H:Hp} {s:Shared} {a b:Addr} {v:V} {r:Value} {A:Around} {E:Value->Shared->Prop}
end
section
variable {X:Cx} {o e f:Expr} {apos cpos:Pos} {td ty tx:TE}
end
end L2
set_option Elab.async false
set_option linter.all false
set_option maxRecDepth 100000
set_option maxHeartbeats 4000000
namespace L2
open PySem PyProof.Rows
section
variable {X:Cx}
end
end L2
set_option Elab.async false
set_option linter.all false
set_option maxRecDepth 100000
set_option maxHeartbeats 4000000
namespace L2
open PySem PySem.Spec PyProof.Rows
section
variable {X:Cx} {pins:List (Addr×Obj)} {σ:St} {H:Hp} {s:Shared} {tg:Expr}
end
section
variable {a:Addr} {o:Obj} {kvs:List (qS×V)} {zs:List Str} {g:TG} {σ:St} {H:Hp}
end
end L2
set_option Elab.async false
set_option linter.all false
set_option maxRecDepth 100000
set_option maxHeartbeats 4000000
namespace L2
open PySem PySem.Spec PyProof.Rows
section
variable {X:Cx} {pins pins0:List (Addr×Obj)} {σ σ0:St} {H H0:Hp} {s s0:Shared}
end
section
variable {X:Cx}
end
end L2
namespace L2
open PySem PyProof.Rows
end L2
set_option Elab.async false
set_option linter.all false
set_option maxRecDepth 100000
set_option maxHeartbeats 4000000
namespace HT
open PySem PySem.Spec PyProof.Rows
section
variable {prog:Program} {w:World} {A:Around} {E:Value->Shared->Prop} {s:Shared}
end
end HT
namespace L2
open PySem PySem.Spec PyProof.Rows
section
variable {X:Cx}
end
end L2
namespace L2
open PySem PyProof.Rows
end L2
set_option Elab.async false
set_option linter.all false
set_option maxRecDepth 100000
set_option maxHeartbeats 4000000
namespace L2
open PySem PySem.Spec PyProof.Rows
section
variable {X:Cx} {CX:ZJ} {C:Addr->Sp->Prop} {E:St->XK} {x:Str} {p pos:Pos} {e:Expr} {es:List Expr} {t:TA} {i:Nat}
end
end L2
set_option Elab.async false
set_option linter.all false
set_option maxRecDepth 100000
set_option maxHeartbeats 4000000
namespace L2
open PySem PySem.Spec PyProof.Rows
section
variable {M:Model} {A:Around} {F:Value->Shared->Prop} {s:Shared} {e:Addr} {cl:Value} {d:Option Addr} {vs:Array Value} {Q:Unit->Shared->Prop}
theorem WF {T:Addr} {fl:Value} {fs:List Addr} {fr:Option Addr} (he:s.heap.get? e=some {cls:=cl,dict:=d,data:=.fields vs}) (h1:vs[1]?=some (.ref T)) (st:kD T fl s.heap)
   (k:∀h',WP fs [T] s.heap h'->kD T (fr.elim .none λf=>rawInt f) h'->Q () {s with heap:=h'}):wpAny M A (setFlight (.ref e) fr) Q F s:=by
 obtain⟨ts,ht,h3⟩:=st
 have lt:=(Array.getElem?_eq_some_iff.mp h3).1
 unfold setFlight
 refine wpAny_bind (wpAny_field he rfl h1 ?_)
 rw[if_pos (show (Value.ref T != Value.none)=true from by simp)]
 refine wpAny_setField ht rfl lt (k _ ⟨λb o _ n q=>?_,λb o _ n q=>⟨o.slots,?_⟩⟩ ⟨_,Heap.get?_update_self _ ht rfl,by simp [lt]⟩)
 all_goals
   rw[Heap.get?_update_other _ _ λz=>n (by simp [z])]
   exact q
end
section
variable {X:Cx} {pins:List (Addr×Obj)} {σ:St} {H:Hp} {s:Shared} {M:Model} {F:Value->Shared->Prop} {Q:Unit->Shared->Prop} {a C dx:Addr}
theorem y6 (I:qu X pins σ H s) (hst:X.stack=X.env::X.outer) (hfm:X.env.frame=some X.env.locals) (ha:H a=some (QJ a C dx))
   (k:∀T h',H T=none->T≠a->qu X pins σ (upd (upd H a (jE a C dx (.ref T))) T (zU T (rawInt X.env.locals))) {s with heap:=h'}->Q () {s with heap:=h'}):wpAny M X.A (noteFrame (.ref a) X.env) Q F s:=by
 obtain⟨⟨fl,he,hz⟩,_,_⟩:=(show qA X.prog X.w H s.heap a (jE a C dx .none) from I.hok a _ ha)
 have fr:=I.ok.frames
 have ff:=I.stack
 rw[hst]at fr ff
 refine Xt fr ff hfm he hz λh1 T hT F1 q1 q2=>?_
 rw[<-hst]at F1
 have lt:=(Array.getElem?_eq_some_iff.mp hz).1
 have g1:(fl.setIfInBounds 1 (Value.ref T))[1]?=some (.ref T):=by simp [lt]
 have nT:T≠a:=λz=>by
   obtain⟨ts,q,_⟩:=q2
   rw[z,q1]at q
   cases q
 have hTn:H T=none:=I.hok.fresh hT
 refine k T h1 hTn nT (I.flown F1 ⟨λb hb=>by cases List.mem_singleton.mp hb;exact⟨_,ha⟩,λb o hb q=>by
     rw[qe (qo q hTn),qe λz=>hb (by simp [z])];exact q,λb hb q=>by
     rw[qe (Nat.ne_of_lt (Nat.lt_of_lt_of_le hb hT)),qe λz=>by rw[z,ha]at q;cases q];exact q⟩ (λb hb=>by cases List.mem_singleton.mp hb;exact⟨_,q1⟩) λb o q hb=>?_)
 by_cases e1:b=T
 . subst e1
   rw[qd]at q
   cases q
   exact JD q2
 . rw[qe e1]at q
   by_cases e2:b=a
   . subst e2
     rw[qd]at q
     cases q
     exact Jq ⟨_,q1,g1⟩
   . rw[qe e2]at q
     rcases hb with hb | hb
     . rw[q]at hb;cases hb
     . exact absurd (List.mem_singleton.mp hb) e2
theorem wY {T:Addr} (I:qu X pins σ H s) (hst:X.stack=X.env::X.outer) (hfm:X.env.frame=some X.env.locals) (ha:H a=some (jE a C dx (.ref T))) (ht:H T=some (zU T .none))
   (k:∀T' h',H T'=none->T'≠a->qu X pins σ (upd (upd (upd H a (jE a C dx (.ref T'))) T (.ext λh=>∃o,h.get? T=some o)) T' (zU T' (rawInt X.env.locals))) {s with heap:=h'}->Q () {s with heap:=h'}):wpAny M X.A (noteFrame (.ref a) X.env) Q F s:=by
 obtain⟨⟨fl,he,hz⟩,_,_⟩:=(show qA X.prog X.w H s.heap a (jE a C dx (.ref T)) from I.hok a _ ha)
 obtain⟨st0,_,_⟩:=(show qA X.prog X.w H s.heap T (zU T .none) from I.hok T _ ht)
 have nT0:T≠a:=λz=>by
   obtain⟨ts,q,_⟩:=st0
   rw[z,he]at q
   cases q
 have fr:=I.ok.frames
 have ff:=I.stack
 rw[hst]at fr ff
 refine YI fr ff hfm he hz st0 nT0 λh1 T' hT F1 tT q1 q2=>?_
 rw[<-hst]at F1
 have lt:=(Array.getElem?_eq_some_iff.mp hz).1
 have g1:(fl.setIfInBounds 1 (Value.ref T'))[1]?=some (.ref T'):=by simp [lt]
 have nT:T'≠a:=λz=>by
   obtain⟨ts,q,_⟩:=q2
   rw[z,q1]at q
   cases q
 have hTn:H T'=none:=I.hok.fresh hT
 obtain⟨oT,hoT⟩:=tT
 refine k T' h1 hTn nT (I.flown F1 ⟨λb hb=>by
     simp only[List.mem_cons,List.not_mem_nil,or_false]at hb
     rcases hb with rfl | rfl
     . exact⟨_,ha⟩
     . exact⟨_,ht⟩,λb o hb q=>by
     simp only[List.mem_cons,List.not_mem_nil,or_false,not_or]at hb
     rw[qe (qo q hTn),qe hb.2,qe hb.1];exact q,λb hb q=>by
     rw[qe (Nat.ne_of_lt (Nat.lt_of_lt_of_le hb hT)),qe (λz=>by rw[z,ht]at q;cases q),qe (λz=>by rw[z,ha]at q;cases q)];exact q⟩ (λb hb=>by
     simp only[List.mem_cons,List.not_mem_nil,or_false]at hb
     rcases hb with rfl | rfl
     . exact⟨_,q1⟩
     . exact⟨_,hoT⟩) λb o q hb=>?_)
 by_cases e1:b=T'
 . subst e1
   rw[qd]at q
   cases q
   exact JD q2
 . rw[qe e1]at q
   by_cases e2:b=T
   . subst e2
     rw[qd]at q
     cases q
     exact⟨⟨_,hoT⟩,⟨_,hoT⟩,λh1 h2 ⟨u,z⟩ k=>⟨u,k u z⟩⟩
   . rw[qe e2]at q
     by_cases e3:b=a
     . subst e3
       rw[qd]at q
       cases q
       exact Jq ⟨_,q1,g1⟩
     . rw[qe e3]at q
       rcases hb with hb | hb
       . rw[q]at hb;cases hb
       . simp only[List.mem_cons,List.not_mem_nil,or_false]at hb
         exact(hb.elim e3 e2).elim
theorem XC {T:Addr} (I:qu X pins σ H s) (hfm:X.env.frame=some X.env.locals) (ha:H a=some (jE a C dx (.ref T))) (ht:H T=some (zU T (rawInt X.env.locals))) (k:Q () s):wpAny M X.A (noteFrame (.ref a) X.env) Q F s:=by
 obtain⟨⟨fl,he,hz⟩,_,_⟩:=(show qA X.prog X.w H s.heap a (jE a C dx (.ref T)) from I.hok a _ ha)
 obtain⟨st0,_,_⟩:=(show qA X.prog X.w H s.heap T (zU T (rawInt X.env.locals)) from I.hok T _ ht)
 exact Ub hfm he hz st0 k
theorem YT {T:Addr} {fl:Value} {fr:Option Addr} (I:qu X pins σ H s) (ha:H a=some (jE a C dx (.ref T))) (ht:H T=some (zU T fl))
   (k:∀h',qu X pins σ (upd H T (zU T (fr.elim .none λf=>rawInt f))) {s with heap:=h'}->Q () {s with heap:=h'}):wpAny M X.A (setFlight (.ref a) fr) Q F s:=by
 obtain⟨⟨fs,he,hz⟩,_,_⟩:=(show qA X.prog X.w H s.heap a (jE a C dx (.ref T)) from I.hok a _ ha)
 obtain⟨st0,_,_⟩:=(show qA X.prog X.w H s.heap T (zU T fl) from I.hok T _ ht)
 refine WF (fs:=ZO X.stack) he hz st0 λh1 F1 st=>?_
 obtain⟨ts,q,z⟩:=id st
 refine k h1 (I.flown F1 ⟨λb hb=>by cases List.mem_singleton.mp hb;exact⟨_,ht⟩,λb o hb q=>by rw[qe (λz=>hb (by simp [z]))];exact q,λb hb q=>by rw[qe (λz=>by rw[z,ht]at q;cases q)];exact q⟩ (λb hb=>by cases List.mem_singleton.mp hb;exact⟨_,q⟩) λb o q hb=>?_)
 by_cases e1:b=T
 . subst e1
   rw[qd]at q
   cases q
   exact JD st
 . rw[qe e1]at q
   rcases hb with hb | hb
   . rw[q]at hb;cases hb
   . exact absurd (List.mem_singleton.mp hb) e1
end
def VF (X:Cx) (pins:List (Addr×Obj)) (E:XK):Value->Shared->Prop:=λe s=>
 (∃(a C dx:Addr) (H:Hp) (σ:St),e=.ref a/\qu X pins σ H s/\H a=some (QJ a C dx)/\E (.ref C) (some dx) H)\/
 ∃(a C dx T:Addr) (fl:Value) (Hx H:Hp) (σ:St),e=.ref a/\qu X pins σ H s/\(fl=.none\/fl=rawInt X.env.locals)/\H a=some (jE a C dx (.ref T))/\H T=some (zU T fl)/\Hx T=none/\Hx a=some (QJ a C dx)/\(∀b o,b≠a->Hx b=some o->H b=some o)/\E (.ref C) (some dx) Hx
theorem Up {X:Cx} {pins:List (Addr×Obj)} {E:XK} (hst:X.stack=X.env::X.outer) (hfm:X.env.frame=some X.env.locals):PassesOwn (model X.prog X.w) X.A X.env (VF X pins E):=by
 intro e s h
 have back:∀{a C dx T:Addr} {fl:Value} {H Hx:Hp} {σ:St} {s':Shared},qu X pins σ H s'->H a=some (jE a C dx (.ref T))->H T=some (zU T fl)->T≠a->Hx T=none->Hx a=some (QJ a C dx)->(∀b o,b≠a->Hx b=some o->H b=some o)->E (.ref C) (some dx) Hx->cameBackBy (model X.prog X.w) X.A X.env (VF X pins E) (.ref a) s':=λ{a C dx T fl H Hx σ s'} I ha ht nT h1 h2 h3 hE=>by
   obtain⟨⟨fs,he,hz⟩,_,_⟩:=(show qA X.prog X.w H s'.heap a (jE a C dx (.ref T)) from I.hok a _ ha)
   unfold cameBackBy
   refine wpAny_bind (wpAny_field he rfl hz ?_)
   rw[if_neg (show ¬((Value.ref T==Value.none)=true) by simp)]
   first
     | refine YT I ha ht λh' I2=>?_
     | refine wpAny_bind (wpAny_pure (YT I ha ht λh' I2=>?_))
   refine .inr ⟨a,C,dx,T,_,Hx,_,σ,rfl,I2,.inr (by rw[hfm];rfl),by rw[qe (Ne.symm nT)];exact ha,qd,h1,h2,λb o nb q=>?_,hE⟩
   rw[qe (λz=>by rw[z,h1]at q;cases q)]
   exact h3 b o nb q
 rcases h with ⟨a,C,dx,H,σ,rfl,I,ha,hE⟩ | ⟨a,C,dx,T,fl,Hx,H,σ,rfl,I,hfl,ha,ht,h1,h2,h3,hE⟩
 . refine y6 I hst hfm ha λT h' hT nT I2=>?_
   exact back (Hx:=H) I2 (by rw[qe (Ne.symm nT)];exact qd) qd nT hT ha (λb o nb q=>by rw[qe (qo q hT),qe nb];exact q) hE
 . have nT:T≠a:=λz=>by rw[z,h2]at h1;cases h1
   rcases hfl with rfl | rfl
   . refine wY I hst hfm ha ht λT' h' hT nT' I2=>?_
     refine back (Hx:=Hx) I2 (by rw[qe (Ne.symm nT'),qe (Ne.symm nT)];exact qd) qd nT' ?_ h2 (λb o nb q=>?_) hE
     . cases q:Hx T' with
       | none=>rfl
       | some o=>rw[h3 T' o nT' q]at hT;cases hT
     . have n1:b≠T:=λz=>by rw[z,h1]at q;cases q
       have q':=h3 b o nb q
       rw[qe (qo q' hT),qe n1,qe nb]
       exact q'
   . exact XC I hfm ha ht (back I ha ht nT h1 h2 h3 hE)
section
variable {P:Program} {w:World} {K:PySem.W.Frag} {mg:Str->Option Value} {base:Heap} {N:List Str} {qual:Str} {scope:Scope} {f:Addr} {cd:Value} {A:Around} {outer:List Env} {s₀:Shared} {H₀:Hp} {E:XK}
theorem Uq {pins:List (Addr×Obj)} {e:Value} {s:Shared} (h:VF (jF (Jt P w) P w K mg base N qual scope f cd A outer s₀ H₀ E) pins E e s):(jF (Jt P w) P w K mg base N qual scope f cd A outer s₀ H₀ E).xe e s:=by
 rcases h with ⟨a,C,dx,H,σ,rfl,I,ha,hE⟩ | ⟨a,C,dx,T,fl,Hx,H,σ,rfl,I,hfl,ha,ht,h1,h2,h3,hE⟩
 . exact Zw pins σ H s a C dx I ha hE
 . rcases hfl with rfl | rfl
   . exact VZ pins σ H s _ s I ⟨a,C,dx,T,Hx,H,rfl,rfl,I.bare,Un.refl,I.hok,ha,ht,h1,h2,h3,hE⟩
   . show wpAny _ _ (leaving _ _) _ _ s
     unfold leaving
     refine wpAny_bind (XC I rfl ha ht ?_)
     have nT:T≠a:=λz=>by rw[z,h2]at h1;cases h1
     refine YT (fr:=none) I ha ht λh' I2=>?_
     refine⟨a,C,dx,T,Hx,_,rfl,I2.os,I2.bare,I2.base,I2.hok,by rw[qe (Ne.symm nT)];exact ha,qd,h1,h2,λb o nb q=>?_,hE⟩
     rw[qe (λz=>by rw[z,h1]at q;cases q)]
     exact h3 b o nb q
theorem vG {st:Stmt} {t:TS} (h:∀(pn:List (Addr×Obj)) (W:Value->Shared->Prop),PassesOwn (model P w) (jF (Jt P w) P w K mg base N qual scope f cd A outer s₀ H₀ E).A (jF (Jt P w) P w K mg base N qual scope f cd A outer s₀ H₀ E).env W->
     jw (Jt P w) ((jF (Jt P w) P w K mg base N qual scope f cd A outer s₀ H₀ E).tried pn W) E->Y3 ((jF (Jt P w) P w K mg base N qual scope f cd A outer s₀ H₀ E).tried pn W) E->JS ((jF (Jt P w) P w K mg base N qual scope f cd A outer s₀ H₀ E).tried pn W) st t):
   PS (jF (Jt P w) P w K mg base N qual scope f cd A outer s₀ H₀ E) st t:=by
 intro pins s σ H D I hw
 refine wpAny_mono ((h _ (VF _ pins E) (Up rfl rfl) ?_ ?_).to [] s σ H D (I.tried _) hw) (λfl s1 q=>?_) (λe s1 z=>Uq z)
 . intro pins' σ' H1 s1 e s' I1 hc
   obtain⟨a,C,dx,T,Hx,H2,rfl,os,bare,un,hok,ha,ht,hxT,hxa,hxs,hE⟩:=hc
   have I2:=I.untried (I1.call' os un hok bare λb z=>absurd z (by simp))
   exact .inr ⟨a,C,dx,T,.none,Hx,H2,σ',rfl,I2,.inl rfl,ha,ht,hxT,hxa,hxs,hE⟩
 . intro pins' σ' H1 s1 a C dx I1 ha hE
   exact .inl ⟨a,C,dx,H1,σ',rfl,I.untried I1,ha,hE⟩
 . cases fl with
   | next=>obtain⟨σ',H',I',q⟩:=q;exact⟨σ',H',I.untried I',q⟩
   | brk=>obtain⟨σ',H',I',q⟩:=q;exact⟨σ',H',I.untried I',q⟩
   | cont=>obtain⟨σ',H',I',q⟩:=q;exact⟨σ',H',I.untried I',q⟩
   | ret u=>obtain⟨v,σ',H',I',r,q⟩:=q;exact⟨v,σ',H',I.untried I',r,q⟩
theorem yN {st:Stmt} {t:TS} (h:∀(pn:List (Addr×Obj)) (W:Value->Shared->Prop),PassesOwn (model P w) (jF (Jt P w) P w K mg base N qual scope f cd A outer s₀ H₀ E).A (jF (Jt P w) P w K mg base N qual scope f cd A outer s₀ H₀ E).env W->
     jw (Jt P w) ((jF (Jt P w) P w K mg base N qual scope f cd A outer s₀ H₀ E).tried pn W) E->Y3 ((jF (Jt P w) P w K mg base N qual scope f cd A outer s₀ H₀ E).tried pn W) E->JS ((jF (Jt P w) P w K mg base N qual scope f cd A outer s₀ H₀ E).tried pn W) st t):
   JS (jF (Jt P w) P w K mg base N qual scope f cd A outer s₀ H₀ E) st t:=.of (vG h)
end
end L2
set_option Elab.async false
set_option linter.all false
set_option maxRecDepth 100000
set_option maxHeartbeats 4000000
namespace L2
open PySem PySem.Spec PyProof.Rows
section
variable {X:Cx}
end
end L2
set_option Elab.async false
set_option linter.all false
set_option maxRecDepth 100000
set_option maxHeartbeats 4000000
namespace L2
open PySem PySem.Spec PyProof.Rows
def KD:Obj:={cls:=.type "cell",data:=.cell none}
structure OwnC (n:Nat) (l:List (Str×NameKind)) (cs cs':List (Str×Addr)) (h h':Heap):Prop where
 kp:∀b o,h.get? b=some o->h'.get? b=some o
 same:∀x,(x,NameKind.cell)∉l->cs'.lookup x=cs.lookup x
 own:∀x,(x,NameKind.cell)∈l->∃c,cs'.lookup x=some c/\n<=c/\h'.get? c=some KD
 inj:∀x y c,(x,NameKind.cell)∈l->(y,NameKind.cell)∈l->cs'.lookup x=some c->cs'.lookup y=some c->x=y
structure RA (X:Cx) (N':List Str) (ix:List (Option Nat)) (scope:Scope):Prop where
 kind:scope.kind=.function
 nd:(scope.names.map (·.1)).Nodup
 frees:(scope.names.all λx=>x.2 != .free || (X.env.scope.names.lookup x.1==some .cell || X.env.scope.names.lookup x.1==some .free))=true
 ixs:yU N' X.N scope X.env.scope ix=true
section
variable {X:Cx} {N':List Str} {ix:List (Option Nat)} {scope:Scope} {pins:List (Addr×Obj)} {σ:St} {H:Hp} {s:Shared}
end
section
variable {X:Cx} {N':List Str} {ix:List (Option Nat)} {scope:Scope}
end
end L2
set_option Elab.async false
set_option linter.all false
set_option maxRecDepth 100000
set_option maxHeartbeats 4000000
namespace L2
open PySem PySem.Spec PyProof.Rows
section
variable {X:Cx} {CX:ZJ} {k:Nat} {f C:Addr} {fd:FuncData} {ps:List Str} {sp:Sp} {dvs:List V} {ds:List Value} {E:St->XK} {m:Str} {pos apos:Pos} {e o:Expr} {es:List Expr} {ta:TE} {t:TA}
end
end L2
set_option Elab.async false
set_option linter.all false
set_option maxRecDepth 100000
set_option maxHeartbeats 4000000
namespace L2
open PySem PySem.Spec PyProof.Rows
section
variable {X:Cx}
end
end L2
set_option Elab.async false
set_option linter.all false
set_option maxRecDepth 100000
set_option maxHeartbeats 4000000
namespace L2
open PySem PySem.Spec PyProof.Rows PySem.W
section
variable {X:Cx}
end
end L2
set_option Elab.async false
set_option linter.all false
set_option maxRecDepth 100000
set_option maxHeartbeats 4000000
namespace L2
open PySem PySem.Spec PyProof.Rows
section
variable {P:Program} {w:World} {K:PySem.W.Frag} {mg:Str->Option Value} {base:Heap} {CX:ZJ} {k:Nat} {f:Addr} {fd:FuncData} {ps:List Str} {sp sp':Sp}
end
end L2
set_option Elab.async false
set_option linter.all false
set_option maxRecDepth 100000
set_option maxHeartbeats 4000000
namespace L2
open PySem PySem.Spec PyProof.Rows PySem.W
section
variable {X:Cx}
end
end L2
set_option Elab.async false
set_option linter.all false
set_option maxRecDepth 100000
set_option maxHeartbeats 4000000
namespace L2
open PySem PySem.Spec PyProof.Rows
def RawD (h:Heap) (d:Addr) (es:Array DictEntry) (ep:Nat):Prop:=∃o,h.get? d=some o/\o.ExactDict/\o.data=.dict es ep
section
variable {prog:Program} {w:World} {A:Around} {E:Value->Shared->Prop} {s:Shared} {it d:Addr} {es:Array DictEntry} {i ep:Nat}
end
end L2
set_option Elab.async false
set_option linter.all false
set_option maxRecDepth 100000
set_option maxHeartbeats 4000000
namespace L2
open PySem PySem.Spec PyProof.Rows
def Pr (H:Hp) (u:HO) (i:Nat) (x y:V):Prop:=match u with
 | .dK kvs=>∃z,kvs[i]?=some (Sum.inr z,y)/\x=.str z
 | .dT kvs=>∃k b,kvs[i]?=some (k,y)/\x=.ref b/\H b=some (.tup (k.map kV))
 | _=>False
section
variable {X:Cx} {pins:List (Addr×Obj)} {σ:St} {H:Hp} {s:Shared} {tg:Expr}
end
section
variable {a:Addr} {o:Obj} {u:HO} {g:TG} {σ:St} {H:Hp}
end
end L2
set_option Elab.async false
set_option linter.all false
set_option maxRecDepth 100000
set_option maxHeartbeats 4000000
namespace L2
open PySem PySem.Spec PyProof.Rows PySem.W
section
variable {X:Cx}
end
end L2
set_option Elab.async false
set_option linter.all false
set_option maxRecDepth 100000
set_option maxHeartbeats 4000000
namespace L2
open PySem PySem.Spec PyProof.Rows
section
variable {prog:Program} {w:World} {KK:Type} [DecidableEq KK] {kd:HeapKind prog w KK} {A:Around} {E:Value->Shared->Prop} {s:Shared}
end
section
variable {X:Cx}
end
end L2
set_option Elab.async false
set_option linter.all false
set_option maxRecDepth 100000
set_option maxHeartbeats 4000000
namespace L2
open PySem PySem.Spec PyProof.Rows
structure FnLd (P:Program) (w:World) (K:PySem.W.Frag) (mg:Str->Option Value) (base:Heap) (k:Nat) (f:Addr) (fd:FuncData) (ps:List Str) (sp:Sp):Prop where
 len:∀vs H Q E,sp vs H Q E->vs.length=ps.length
 run:∀(A:Around) (a:Value) (outer:List Env) (s:Shared) (H:Hp) (args:Args) (us:List Value) (vs:List V) (Q:VK) (E:XK),ja k A->XV P w K mg base (A.mark (some a)) outer s H->BindsTo s fd args (ps.zip us)->qB vs us->sp vs H Q E->
   codeAny (model P w) (A.mark (some a)) (.call (.ref f) args) (CR jd outer P w H s Q E) s
section
variable {P:Program} {w:World} {K:PySem.W.Frag} {mg:Str->Option Value} {base:Heap}
end
section
variable {X:Cx} {k:Nat} {f:Addr} {fd:FuncData} {ps:List Str} {sp:Sp} {x:Str} {p pos:Pos} {e:Expr} {es:List Expr} {t:TA} {a:Value} {E:Value->Shared->Prop}
end
end L2
set_option Elab.async false
set_option linter.all false
set_option maxRecDepth 100000
set_option maxHeartbeats 4000000
namespace L2
open PySem PySem.Spec PyProof.Rows
section
variable {X:Cx}
end
end L2
set_option Elab.async false
set_option linter.all false
set_option maxRecDepth 100000
set_option maxHeartbeats 4000000
namespace L2
open PySem PySem.Spec PyProof.Rows
section
variable {X:Cx} {CX:ZJ} {k:Nat} {f C:Addr} {fd:FuncData} {ps:List Str} {sp:Sp} {dvs:List V} {ds:List Value} {E:St->XK} {x m:Str} {p pos apos:Pos} {e o:Expr} {es:List Expr} {ta:TE} {t:TA}
end
section
variable {X:Cx}
end
section
variable {X:Cx} {pins:List (Addr×Obj)} {σ:St} {H:Hp} {s:Shared}
end
end L2
set_option Elab.async false
set_option linter.all false
set_option maxRecDepth 100000
set_option maxHeartbeats 4000000
namespace L2
open PySem PySem.Spec PyProof.Rows
section
variable {prog:Program} {w:World} {A:Around} {E:Value->Shared->Prop} {s:Shared}
theorem Yn {it t:Addr} {items:Array Value} (hne:t≠it):∀(n i:Nat) (s:Shared) (Q:List Value->Shared->Prop),s.heap.IsListIter it t i->s.heap.IsList t items->i+n<=items.size->
   (∀h',h'.IsListIter it t (i+n)->Heap.SameBut it s.heap h'->Q ((items.toList.drop i).take n) {s with heap:=h'})->wpAny (model prog w) A (draw (.ref it) n) Q E s
 | 0,i,s,Q,hit,_,_,hQ=>by
   show wpAny _ _ (pure []) Q E s
   exact wpAny_pure (by simpa using hQ s.heap hit (Heap.SameBut.refl ..))
 | n+1,i,s,Q,hit,ht,hle,hQ=>by
   have hlt:i < items.size:=by omega
   show wpAny _ _ (pyNext (.ref it) >>= _) Q E s
   refine wpAny_bind (wpAny_pyNext_list_item hit ht (x:=items[i]) (by simp [hlt]) λh₁ hit₁ hs₁=>?_)
   refine wpAny_bind (wpAny_holding (Yn hne n (i+1) _ _ hit₁ (ht.extBut hs₁.extBut hne) (by omega) λh₂ hit₂ hs₂=>wpAny_pure ?_))
   have hd:items.toList.drop i=items[i]::items.toList.drop (i+1):=by simp [List.drop_eq_getElem_cons,hlt]
   have:=hQ h₂ (by rw[show i+(n+1)=i+1+n by omega];exact hit₂) (hs₁.trans hs₂)
   rw[hd,List.take_succ_cons]at this
   exact this
theorem Zr {t:Addr} {items:Array Value} {Q:List Value->Shared->Prop} (hh:A.handled=none) (ht:s.heap.IsList t items)
   (hQ:∀h',Heap.ExtBut s.heap.objs.size s.heap h'->Q items.toList {s with heap:=h'}):wpAny (model prog w) A (unpackItems (.ref t) items.size none) Q E s:=by
 have hlt:t≠s.heap.objs.size:=by obtain⟨o,ho,_⟩:=ht;exact Nat.ne_of_lt (Heap.lt_size ho)
 unfold unpackItems
 refine wpAny_bind ?_
 unfold notIterableAtAll
 refine wpAny_bind (wpAny_specialOf ht.typeIs slot_list_iter.lookup ?_)
 refine wpAny_pure ?_
 simp only[Bool.false_eq_true,if_false]
 refine wpAny_bind (wpAny_holding (wpAny_pyIter_list ht ?_))
 refine wpAny_bind (wpAny_holding (Yn hlt items.size 0 _ _ ⟨_,Heap.get?_push_size _ rfl,rfl,rfl⟩ (ht.push _) (by omega) λh₁ hit₁ hs₁=>?_))
 have hall:List.take items.size (List.drop 0 items.toList)=items.toList:=by
   rw[List.drop_zero];exact List.take_of_length_le (by simp)
 rw[hall]
 rw[if_neg (by simp)]
 have ht₁:h₁.IsList t items:=(ht.push _).extBut hs₁.extBut hlt
 refine wpAny_bind (wpAny_holding (wpAny_pyNext_list_end hh hit₁ ht₁ (by simp) λh₂ he₂=>?_))
 simp only[Option.isSome_none,Bool.false_eq_true,if_false]
 exact wpAny_pure (hQ h₂ λb o hb e=>he₂ b o hb (hs₁.extBut b o hb (Heap.get?_push_of_some _ e)))
theorem Zn {env:Env} {elts:List Expr} {x1} {pos:Pos} {t:Addr} {items:Array Value} {Q:Unit->Shared->Prop} (hh:A.handled=none) (ht:s.heap.IsList t items)
   (hn:(assignEach elts env).length=items.size) (hstar:(assignEach elts env).findIdx? (·.1)=none)
   (h:∀h',Heap.ExtBut s.heap.objs.size s.heap h'->wpAny (model prog w) A (assignInOrder ((assignEach elts env).map (·.2)) items.toList) Q E {s with heap:=h'}):
   wpAny (model prog w) A (assign (.Tuple elts x1 pos) env (.ref t)) Q E s:=by
 rw[assign_Tuple]
 refine wpAny_bind (wpAny_standAt ?_)
 unfold unpack
 rw[hn,hstar]
 exact wpAny_bind (wpAny_holding (Zr hh ht h))
end
section
variable {X:Cx} {pos:Pos}
def Kw (K:PySem.W.Frag) (n:Nat) (t:UH):TG:=λv σ H Q=>∃a xs,v=.ref a/\SqL K H a xs/\xs.length=n/\t xs σ H Q
theorem Vn {es:List Expr} {k:Nat} {t:UH} {n:Nat} (hc:X.calm=true) (h:kF X es t) (hn:(assignEach es X.env).length=n:=by rfl) (hst:(assignEach es X.env).findIdx? (·.1)=none:=by rfl):JG X (.Tuple es k pos) (Kw X.K n t):=.of (by
 have h:=h.to
 intro pins s σ H v u Q I r hw
 obtain⟨a,xs,e1,hq,hl,hw⟩:=hw
 subst e1
 cases r
 obtain⟨its,rv,ht,hz⟩:=I.list hq
 refine Zn (I.ok.hd hc) ht.isList (by simp [hn,<-hl,rv.length]) hst λh' hx=>?_
 have I1:qu X pins σ H {s with heap:=h'}:=I.kept (t':=s.toks) λb o e=>hx b o (Nat.ne_of_lt (Heap.lt_size e)) e
 exact h pins _ σ H xs _ Q I1 (by simpa using rv) hw)
end
end L2
set_option Elab.async false
set_option linter.all false
set_option maxRecDepth 100000
set_option maxHeartbeats 4000000
namespace L2
open PySem PySem.Spec PyProof.Rows
section
variable {X:Cx}
end
end L2
set_option Elab.async false
set_option linter.all false
set_option maxRecDepth 100000
set_option maxHeartbeats 4000000
namespace L2
open PySem PySem.Spec PyProof.Rows
section
variable {X:Cx} {N':List Str} {ix:List (Option Nat)} {scope:Scope}
end
end L2
set_option Elab.async false
set_option linter.all false
set_option maxRecDepth 100000
set_option maxHeartbeats 4000000
namespace L2
open PySem PySem.Spec PyProof.Rows
abbrev Y6 (o:Obj):HO:=.frz o (.frz o (.own 0))
def xm (q:Str) (oc:Obj):Prop:=∃(vs:Array Value) (t:Tok),oc.data=.fields vs/\vs[1]?=some (.str q t)
structure XR (mg:Str->Option Value) (base:Heap) (c P:Addr):Prop where
 code:PySem.W.CodeHd base c P
 blt:base.BuiltinsAt mg P
abbrev Cx.shut (X:Cx):Cx:={X with fn:=λ_=>false}
theorem YX {pos:Pos} {a b:Int} {c cv:Value} (l:List Value) (h:TriplesOk l) (e:codeAmong pos (l++[rawInt a,rawInt b,c])=some cv):codeAmong pos l=some cv\/cv=c:=by
 fun_induction TriplesOk l with
 | case1=>
   simp only[List.nil_append,codeAmong,rawInt]at e
   split at e
   . exact .inr (Option.some.inj e).symm
   . cases e
 | case2 a t b u x rest ih=>
   simp only[List.cons_append,codeAmong]at e ⊢
   split at e
   . rename_i hc;rw[if_pos hc];exact .inl e
   . rename_i hc;rw[if_neg hc];exact ih h e
 | case3 l h1 h2=>exact h.elim
section
variable {X:Cx} {pins:List (Addr×Obj)} {σ:St} {H:Hp} {s:Shared}
theorem Cx.Ok.shut (o:X.Ok):X.shut.Ok:=⟨o.mod,o.kind,o.glob,o.blt,o.above,o.inj,o.has,λ_ _ z=>Bool.noConfusion z,o.hd,o.frames,o.stk,o.exf,o.bs,o.bsz,o.noex,o.exfs,o.funs,o.frf⟩
def Qz (cs:Addr->Option Obj) (H:Hp):Hp:=λb=>match cs b with
 | some o=>some (Y6 o)
 | none=>H b
theorem QY {cs:Addr->Option Obj} (hn:∀b o,cs b=some o->H b=none) {b:Addr} {u:HO} (e:H b=some u):Qz cs H b=some u:=by
 unfold Qz
 cases q:cs b with
 | none=>exact e
 | some o=>rw[hn b o q]at e;cases e
theorem Jj {cs:Addr->Option Obj} {b:Addr} (n:∀o,cs b≠some o):Qz cs H b=H b:=by
 unfold Qz
 cases q:cs b with
 | none=>rfl
 | some o=>exact absurd q (n o)
theorem zN {cs:Addr->Option Obj} {b:Addr} {o:Obj} (e:cs b=some o):Qz cs H b=some (Y6 o):=by unfold Qz;rw[e]
theorem qu.catchN (I:qu X pins σ H s) {cs:Addr->Option Obj} (hc:∀b o,cs b=some o->∃x v,X.env.cells.lookup x=some b/\X.fn x=true/\s.heap.get? b=some o/\o.data=.cell v):∀b o,cs b=some o->H b=none:=λb o e=>by
 obtain⟨x,v,h1,h2,_⟩:=hc b o e
 rcases I.freeC x b h1 with q | ⟨q,_⟩
 . exact q
 . rw[h2]at q;cases q
theorem qu.catch (I:qu X pins σ H s) (cs:Addr->Option Obj) (hc:∀b o,cs b=some o->∃x v,X.env.cells.lookup x=some b/\X.fn x=true/\s.heap.get? b=some o/\o.data=.cell v):qu X.shut pins σ (Qz cs H) s:=by
 have hn:=I.catchN hc
 have same:∀{b:Addr} {u:HO},H b=some u->Qz cs H b=some u:=λe=>QY hn e
 refine⟨I.ok.shut,I.os,I.bare,⟨I.base.keep,I.base.slot,λb o e n hx=>?_,I.base.there,λb xs e=>same (I.base.tups b xs e),λb o u e=>same (I.base.frzs b o u e),λb ps e=>?_⟩,I.loc,I.cell,?_,λx c e=>?_,λp hp=>?_,λb u e=>?_,I.len⟩
 . rw[Jj λo' q=>?_]
   . exact I.base.free b o e n hx
   . obtain⟨x,v,h1,h2,_⟩:=hc b o' q
     exact absurd (Nat.lt_of_lt_of_le (Heap.lt_size e) (I.ok.cab x b h2 h1)) (Nat.lt_irrefl _)
 . obtain⟨m,q⟩:=I.base.tbls b ps e
   exact⟨m,same q⟩
 . show Qz cs H X.env.locals=none
   rw[Jj λo' q=>?_]
   . exact I.free
   . obtain⟨x,v,h1,_⟩:=hc _ o' q
     exact I.cne x _ h1 rfl
 . cases q:cs c with
   | some o=>exact .inr ⟨rfl,o,zN q⟩
   | none=>
     have e2:Qz cs H c=H c:=Jj λo z=>by rw[q]at z;cases z
     rw[e2]
     exact(I.freeC x c e).imp id λz=>⟨rfl,z.2⟩
 . obtain⟨e,n,ne,nf,d⟩:=I.pin p hp
   refine⟨e,?_,ne,nf,d⟩
   rw[Jj λo' q=>?_]
   . exact n
   . obtain⟨x,v,h1,h2,h3,h4⟩:=hc _ o' q
     rw[e]at h3
     cases h3
     exact d v h4
 . cases q:cs b with
   | some o=>
     rw[zN q]at e
     cases e
     obtain⟨x,v,h1,h2,h3,h4⟩:=hc b o q
     exact⟨h3,h3,o,h3⟩
   | none=>
     rw[Jj λo z=>by rw[q]at z;cases z]at e
     exact(I.hok b u e).stay (λ_ _ _ z=>z) (λ_ z=>same z) (λ_ _ z=>same z) (λ_ _ z=>same z)
structure Rv (X:Cx) (σ:St) (H H':Hp) (P:Addr) (name qual:Str) (params:Arguments) (body:List Stmt) (scope:Scope) (f c':Addr) (doc pm ctv:Value) (oc:Obj):Prop where
 same:Same H H'
 new:H f=none
 fn:H' f=some (Y6 (PySem.W.fnMade name qual params body scope (qT X.env scope.names []) doc pm c' ctv))
 cd:H' c'=some (.frz oc (.own P))
 cq:xm qual oc
 cells:∀x,(x,NameKind.free)∈scope.names->∃ca co v,(qT X.env scope.names []).lookup x=some ca/\H' ca=some (Y6 co)/\co.data=.cell v/\∀(i:Nat) (y:V),X.N[i]?=some x->σ[i]?=some (some y)->∃u,v=some u/\qH y u
 inj:∀x y c,(qT X.env scope.names []).lookup x=some c->(qT X.env scope.names []).lookup y=some c->x=y
def PB (X:Cx) (st:List Stmt) (t:TS):Prop:=
 ∀(pins:List (Addr×Obj)) (s:Shared) (σ:St) (H:Hp) (D:QB),qu X pins σ H s->t D σ H->wpAny (model X.prog X.w) X.A (execs st X.env) (λfl s'=>∃g,SP {X with fn:=g} pins D fl s') X.xe s
theorem u8 {st:List Stmt} {t:TS} (h:zZ X st t):PB X st t:=λpins s σ H D I q=>jc (h.to pins s σ H D I q) λfl s' z=>⟨X.fn,z⟩
theorem yo {st:Stmt} {rest:List Stmt} {t u:TS} (h1:JS X st t) (h2:PB X rest u):PB X (st::rest) (kR t u):=by
 intro pins s σ H D I h
 refine wpAny_execs_cons (jc (h1.to pins s σ H {D with nx:=u D} I h) λf s1 q=>?_)
 cases f with
 | next=>
   obtain⟨σ',H',I',q⟩:=q
   exact h2 pins s1 σ' H' D I' q
 | ret v=>exact⟨X.fn,q⟩
 | brk=>exact⟨X.fn,q⟩
 | cont=>exact⟨X.fn,q⟩
theorem qu.made_def {h':Heap} {P c':Addr} {ts:Array Value} {tk tq:Nat} {qual:Str} {pos:Pos} {oc fo:Obj} (I:qu X pins σ H s) (hP:H P=some (.tbl #[.str qual tq])) (eP:s.heap.get? P=some (PySem.W.tabObj ts)) (tr:TriplesOk ts.toList)
   (cs:∀pos cv,codeAmong pos ts.toList=some cv->∃c oc,cv=.ref c/\H c=some (.frz oc (.own P))/\KN #[.str qual tq] oc) (hx:Heap.ExtBut P s.heap h') (hge:s.heap.objs.size<=c') (hlt:c' < h'.objs.size) (hoc:h'.get? c'=some oc) (hq:xm qual oc)
   (htb:h'.get? P=some (PySem.W.tabObj (ts++#[rawInt pos.line,rawInt pos.col,.ref c']))) (hfo:fo.isFreed=false):qu X pins σ (upd (upd H c' (.frz oc (.own P))) h'.objs.size (Y6 fo)) {s with heap:=h'.push fo,toks:=tk}:=by
 have hc0:H c'=none:=I.hok.fresh hge
 have hf0:H h'.objs.size=none:=I.hok.fresh (Nat.le_of_lt (Nat.lt_of_le_of_lt hge hlt))
 have up:∀{b:Addr} {u:HO},H b=some u->upd (upd H c' (.frz oc (.own P))) h'.objs.size (Y6 fo) b=some u:=λ{b u} e=>by
   rw[qe (qo e hf0),qe (qo e hc0)]
   exact e
 have nP:∀{b:Addr},H b=none->b≠P:=λn z=>by rw[z,hP]at n;cases n
 have old:∀b o,b≠P->s.heap.get? b=some o->(h'.push fo).get? b=some o:=λb o n e=>Heap.get?_push_of_some _ (hx b o n e)
 have lt:∀{b:Addr} {o:Obj},s.heap.get? b=some o->b≠h'.objs.size/\b≠c':=λe=>⟨Nat.ne_of_lt (Nat.lt_trans (Nat.lt_of_lt_of_le (Heap.lt_size e) hge) hlt),Nat.ne_of_lt (Nat.lt_of_lt_of_le (Heap.lt_size e) hge)⟩
 refine I.step (g':=s.gens) (d':=s.drawn) (ch:=[]) (λ_ z=>nomatch z) (λb o _ _ _ e n=>old b o (nP n) e) (λb o _ _ _ e n=>⟨o.slots,old b o (nP n) e⟩) (λb o _ e n=>?_) (λb o _ e=>?_) (λb xs e=>up e) (λb o u e=>up e) (λb ps e=>⟨#[],by rw[up e];simp⟩) (λm hm=>(hm.extBut hx (nP I.free)).push _) (λb u e=>?_) I.bare
 . rw[qe (lt e).1,qe (lt e).2]
   exact n
 . rcases Decidable.em (b=P) with z | z
   . rw[z];exact⟨_,Heap.get?_push_of_some _ htb⟩
   . exact⟨o,old b o z e⟩
 . rcases Decidable.em (b=h'.objs.size) with z | z
   . subst z
     rw[qd]at e
     cases e
     have:=Heap.get?_push_size h' hfo
     exact⟨this,this,_,this⟩
   rw[qe z]at e
   rcases Decidable.em (b=c') with z2 | z2
   . subst z2
     rw[qd]at e
     cases e
     have:=Heap.get?_push_of_some fo hoc
     exact⟨this,_,this⟩
   rw[qe z2]at e
   rcases Decidable.em (b=P) with z3 | z3
   . subst z3
     rw[hP]at e
     cases e
     refine⟨_,Heap.get?_push_of_some _ htb,?_,λpos' cv q=>?_⟩
     . rw[Array.toList_append]
       exact TriplesOk_snoc _ _ _ _ tr
     . rw[Array.toList_append]at q
       rcases YX _ tr q with q | q
       . obtain⟨c,oc',e1,e2,e3⟩:=cs pos' cv q
         exact⟨c,oc',e1,up e2,e3⟩
       . obtain⟨vs,t,h1,h2⟩:=hq
         exact⟨c',oc,q,by rw[qe (Nat.ne_of_lt hlt),qd],qual,tq,vs,t,rfl,h1,h2⟩
   . refine(I.hok b u e).stay (λc v hc g=>old c v ?_ g) (λ_ z=>up z) (λ_ _ z=>up z) (λ_ _ z=>up z)
     rcases hc with z | z
     . rw[z];exact z3
     . intro z'
       rw[z',hP]at z
       cases z
def K6 (X:Cx) (P:Addr) (i:Nat) (name qual:Str) (params:Arguments) (body:List Stmt) (scope:Scope) (u:TS):TS:=λD σ H=>(∃tq,H P=some (.tbl #[.str qual tq]))/\∀f c' doc pm ctv oc H',Rv X (σ.set i (some (.ref f))) H H' P name qual params body scope f c' doc pm ctv oc->u D (σ.set i (some (.ref f))) H'
open Classical in
theorem wm {i:Nat} {c P:Addr} {name qual:Str} {params:Arguments} {body rest:List Stmt} {scope:Scope} {pos:Pos} {u:TS} (TM:XR X.mg X.base c P) (hN:X.N.Nodup) (hxi:X.N[i]?=some name) (hloc:X.env.scope.names.lookup name=some .local) (hcode:X.env.code=.ref c) (hq:qualnameIn X.env name name=qual)
   (hfr:(scope.names.all λx=>x.2 != .free || X.env.scope.names.lookup x.1==some .cell)=true) (hfn:∀x,X.fn x=true) (hd0:params.defaults=[]) (hk0:params.kw_defaults=[]) (ha:annTrees params none X.env=[]) (h2:PB X.shut rest u):
   PB X (.FunctionDef name params body [] none [] scope none name pos::rest) (K6 X P i name qual params body scope u):=by
 intro pins s σ H D I h
 obtain⟨⟨tq,hP⟩,h⟩:=h
 obtain⟨ts,eP,tr,cs⟩:=(show qA X.prog X.w H s.heap P (.tbl #[.str qual tq]) from I.hok P _ hP)
 refine wpAny_execs_cons (PySem.W.nestDef_K hd0 hk0 ha ?_)
 rw[hq]
 have hg:s.heap.Ns mainGlobals X.mg:=I.ok.mod.glob.keeps I.bk
 have CH:=TM.code.keeps I.bk
 have hb:s.heap.BuiltinsAt X.mg P:=by
   obtain⟨bm,o,b1,b2,b3,b4,b5,b6⟩:=TM.blt
   exact⟨bm,o,b1,b2,b3,b4,I.bk _ _ b5,b6⟩
 have hgP:mainGlobals≠P:=λz=>by
   obtain⟨o,es,ep,e,_⟩:=I.ok.mod.glob
   have:=(I.bs _ _ e).2
   rw[z,hP]at this
   cases this
 have frc:∀x,(x,NameKind.free)∈scope.names->X.env.scope.names.lookup x=some .cell:=λx hx=>by
   have:=List.all_eq_true.mp hfr _ hx
   simpa using this
 have frc':∀x,(x,NameKind.free)∈scope.names->∃c,X.env.cells.lookup x=some c:=λx hx=>I.ok.has x (.inl (frc x hx))
 have hcl:closureFor scope X.env=pure (qT X.env scope.names []):=Qy λx hx e=>frc' x.1 (by rw[<-e];exact hx)
 have clo:∀x,(x,NameKind.free)∈scope.names->∀ca,X.env.cells.lookup x=some ca->(qT X.env scope.names []).lookup x=some ca:=λx hx ca e=>by
   obtain⟨c2,hc2⟩:=QX (env:=X.env) (cs:=[]) (.inl hx)
   rcases j5 hc2 with z | ⟨_,z⟩
   . simp at z
   . rw[e]at z
     rw[hc2,z]
     rfl
 have look:∀x c,(qT X.env scope.names []).lookup x=some c->X.env.cells.lookup x=some c:=λx c e=>by
   rcases j5 e with z | ⟨z1,z2⟩
   . simp at z
   . obtain⟨c2,h2⟩:=frc' x z1
     rw[h2]at z2
     rw[h2,z2]
     rfl
 have inj:∀x y c,(qT X.env scope.names []).lookup x=some c->(qT X.env scope.names []).lookup y=some c->x=y:=λx y c h1 h2=>I.ok.inj x y c (look x c h1) (look y c h2)
 have fin:∀{f c':Addr} {doc pm ctv:Value} {oc:Obj} {H1:Hp} {s1:Shared},qu X pins σ H1 s1->Same H H1->H f=none->H1 f=some (Y6 (PySem.W.fnMade name qual params body scope (qT X.env scope.names []) doc pm c' ctv))->H1 c'=some (.frz oc (.own P))->xm qual oc->
     wpAny (model X.prog X.w) X.A (storeName X.env name (.ref f)) (λ_ s''=>wpAny (model X.prog X.w) X.A (execs rest X.env) (λfl s'=>∃g,SP {X with fn:=g} pins D fl s') X.xe s'') X.xe s1:=λ{f c' doc pm ctv oc H1 s1} I1 sm nf e1 e2 e3=>by
   refine Zu I1 hN hxi (.inl hloc) (v:=.ref f) rfl (λs2 I2 _=>?_) (.inr hloc)
   let cc:Addr->Option Obj:=λb=>if ∃x,(x,NameKind.free)∈scope.names/\X.env.cells.lookup x=some b then s2.heap.get? b else none
   have hc:∀b o,cc b=some o->∃x v,X.env.cells.lookup x=some b/\X.fn x=true/\s2.heap.get? b=some o/\o.data=.cell v:=λb o e=>by
     rcases Classical.em (∃x,(x,NameKind.free)∈scope.names/\X.env.cells.lookup x=some b) with z | z
     . have e':s2.heap.get? b=some o:=(if_pos z).symm.trans e
       obtain⟨x,hx,hxb⟩:=z
       obtain⟨v,o',ho,hd⟩:=I2.cell x b hxb
       rw[e']at ho
       cases ho
       exact⟨x,v,hxb,hfn x,e',hd⟩
     . have:cc b=none:=if_neg z
       rw[this]at e
       cases e
   have hn:=I2.catchN hc
   refine h2 pins s2 _ _ D (I2.catch cc hc) (h f c' doc pm ctv oc _ ⟨λb u e=>QY hn (sm _ _ e),nf,QY hn e1,QY hn e2,e3,λx hx=>?_,inj⟩)
   obtain⟨ca,hca⟩:=frc' x hx
   obtain⟨v,o,ho,hd⟩:=I2.cell x ca hca
   have ecc:cc ca=some o:=(if_pos ⟨x,hx,hca⟩).trans ho
   refine⟨ca,o,v,clo x hx ca hca,zN ecc,hd,λj y e1 e2=>?_⟩
   obtain⟨m,_,hl⟩:=I2.loc
   obtain⟨w',rw',lk⟩:=hl j x y e1 e2 (.inr (.inl (frc x hx)))
   rcases lk with ⟨k,_⟩ | ⟨_,c2,ec2,o2,ho2,hd2⟩
   . have k':X.env.scope.names.lookup x=some .local:=k
     rw[frc x hx]at k'
     cases k'
   . rw[hca]at ec2
     cases ec2
     rw[ho]at ho2
     cases ho2
     rw[hd]at hd2
     exact⟨w',Data.cell.inj hd2,rw'⟩
 cases hh:codeAmong pos ts.toList with
 | none=>
   refine PySem.W.makeFunction_K (mg:=X.mg) hcl I.ok.glob hg hcode CH eP tr hh hgP hb λc' ctv doc h' tk hx hge hlt hrec htb=>?_
   obtain⟨c2,oc,vs,t,e2,hoc,hd,hv⟩:=hrec
   cases e2
   have hc0:H c'=none:=I.hok.fresh hge
   have hf0:H h'.objs.size=none:=I.hok.fresh (Nat.le_of_lt (Nat.lt_of_le_of_lt hge hlt))
   refine fin (I.made_def hP eP tr cs hx hge hlt hoc ⟨vs,t,hd,hv⟩ htb rfl) (λb u e=>?_) hf0 qd ?_ ⟨vs,t,hd,hv⟩
   . rw[qe (qo e hf0),qe (qo e hc0)]
     exact e
   . rw[qe (Nat.ne_of_lt hlt),qd]
 | some cv=>
   obtain⟨c',oc,rfl,ec,q,t,vs,t',hq1,hd,hv⟩:=cs pos cv hh
   cases hq1
   refine PySem.W.makeFunction_hit (mg:=X.mg) hcl I.ok.glob hg hcode CH eP tr hh hb λctv doc h' tk hk hsz=>?_
   have hf0:H h'.objs.size=none:=I.hok.fresh hsz
   have e1:(h'.push (PySem.W.fnMade name qual params body scope (qT X.env scope.names []) doc ((X.mg "__name__").getD .none) c' ctv)).get? h'.objs.size=some (PySem.W.fnMade name qual params body scope (qT X.env scope.names []) doc ((X.mg "__name__").getD .none) c' ctv):=Heap.get?_push_size h' rfl
   refine fin (oc:=oc) (I.laid (t':=tk) (o:=Y6 (PySem.W.fnMade name qual params body scope (qT X.env scope.names []) doc ((X.mg "__name__").getD .none) c' ctv)) (λb o e=>Heap.get?_push_of_some _ (hk b o e)) hsz ⟨e1,e1,_,e1⟩) (λb u e=>by rw[qe (qo e hf0)];exact e) hf0 qd ?_ ⟨vs,t',hd,hv⟩
   rw[qe (qo ec hf0)]
   exact ec
end
end L2
set_option Elab.async false
set_option linter.all false
set_option maxRecDepth 100000
set_option maxHeartbeats 4000000
namespace L2
open PySem PySem.Spec PyProof.Rows
section
variable {P:Program} {w:World} {K:PySem.W.Frag} {mg:Str->Option Value} {base:Heap} {N:List Str} {qual:Str} {scope:Scope} {f:Addr} {cd:Value} {A:Around} {outer:List Env} {s₀:Shared} {H₀:Hp} {E:XK}
end
section
variable {P:Program} {w:World} {K:PySem.W.Frag} {mg:Str->Option Value} {base:Heap}
theorem j3.okB {CX:ZJ} {x qual:Str} {st:Stmt} {f c:Addr} {fd:FuncData} {N ps:List Str} {k:Nat} {sp:Sp} (F:j3 K x qual st f fd) (hc:fd.code=.ref c) (S:qy N ps (qi st)) (len:∀vs H Q E,sp vs H Q E->vs.length=ps.length)
   (hbody:∀(A:Around) (outer:List Env) (s:Shared) (H:Hp) (vs:List V) (Q:VK) (E:XK),ja k (A.deeper (envOfC qual (qi st) s.heap.objs.size f (.ref c)))->sp vs H Q E->
     ∃t,PB (jF CX P w K mg base N qual (qi st) f (.ref c) A outer s H E) (ji st) t/\t {nx:=λ_ H'=>Q .non H',rt:=Q} (jO N vs) H):qv P w K mg base CX (k+1) f fd ps sp:=by
 obtain⟨oc,od,kV,doc,pm,an,cdv,ct,osl,rfl,lk,hcd⟩:=F.ex
 have hc':cdv=.ref c:=hc
 subst hc'
 refine⟨len,λA outer s H args us vs Q E hr e0 hb r hsp=>?_⟩
 have hl:=len _ _ _ _ hsp
 have KX:K.In s.heap:=e0.mod.kin.keeps λb o e=>(e0.bs b o e).1
 have lim:s.heap.NoLimit:=e0.mod.nolimit.keeps λb o e=>(e0.bs b o e).1
 have hkind:∀y∈ps.zip us,(qi st).names.lookup y.1=some .local\/((qi st).names.lookup y.1=some .cell/\((cellsFrom (s.heap.objs.size+1) (qi st).names []).lookup y.1).isSome=true):=λ⟨n,v⟩ hy=>by
   rcases S.par n (List.of_mem_zip hy).1 with q | q
   . exact .inl q
   . exact .inr ⟨q,PySem.W.cellsFrom_some _ _ _ (.inl q)⟩
 refine codeAny_call_function hr.depth (KX _ _ lk) rfl S.co S.gen rfl (PySem.W.codeRec_of KX hcd) (hb _ _ _ _ ?_)
 refine wpAny_newFunctionEnv_cells S.kind hkind λenv he s1 x=>?_
 subst he
 refine⟨lim.keeps x.toInCall.keep,codeAny_func ?_⟩
 obtain⟨t,ht,hq⟩:=hbody A outer s H vs Q E (hr.deeper _) hsp
 have I:qu (jF CX P w K mg base N qual (qi st) f (.ref c) A outer s H E) [] (jO N vs) H s1:=Yk S hr.hd e0 hl r x
 refine wpAny_mono (ht [] s1 (jO N vs) H _ I hq) (λfl s' hs=>?_) λe s' hs=>hs
 obtain⟨g,hs⟩:=hs
 have fin:∀{σ':St} {H':Hp} {v:V} {u:Value},qu {jF CX P w K mg base N qual (qi st) f (.ref c) A outer s H E with fn:=g} [] σ' H' s'->qH v u->Q v H'->CE outer P w H s Q u s':=
   λ{σ' H' v u} J rv q=>⟨v,H',J.os,J.bare,J.base,J.hok,rv,q⟩
 cases fl with
 | ret u=>
   obtain⟨v,σ',H',J,rv,q⟩:=hs
   exact fin J rv q
 | next=>
   obtain⟨σ',H',J,q⟩:=hs
   exact fin (v:=V.non) (u:=Value.none) J rfl q
 | brk=>
   obtain⟨_,_,_,q⟩:=hs
   exact False.elim q
 | cont=>
   obtain⟨_,_,_,q⟩:=hs
   exact False.elim q
end
structure XX (N ps fr:List Str) (sc:Scope):Prop where
 kind:sc.kind=.function
 co:sc.isCoroutine=false
 gen:sc.isGenerator=false
 nd:N.Nodup
 pre:N.take (ps++fr).length=ps++fr
 par:∀x∈ps,sc.names.lookup x=some .local
 free:∀x∈fr,sc.names.lookup x=some .free
 frees:∀y∈sc.names,y.2=.free->y.1∈fr
 nocell:∀y∈sc.names,y.2≠.cell
structure ul (H:Hp) (P f:Addr) (name qual:Str) (st:Stmt) (fd:FuncData) (ws:List (Str×V)):Prop where
 ex:∃(doc pm ctv:Value) (c':Addr) (cl:List (Str×Addr)) (oc:Obj),fd=PySem.W.fnX name qual (jK st) (ji st) (qi st) cl .none .none doc pm none (.ref c') ctv/\H f=some (Y6 {cls:=.type "function",data:=.func fd})/\H c'=some (.frz oc (.own P))/\xm qual oc/\
   (∀x y c,cl.lookup x=some c->cl.lookup y=some c->x=y)/\(∀x c,cl.lookup x=some c->x∈ws.map (·.1))/\
   ∀x v,(x,v)∈ws->∃c o u,cl.lookup x=some c/\H c=some (Y6 o)/\o.data=.cell (some u)/\qH v u
theorem ul.mono {H H':Hp} {P f:Addr} {name qual:Str} {st:Stmt} {fd:FuncData} {ws:List (Str×V)} (h:ul H P f name qual st fd ws) (k:∀b o u,H b=some (.frz o u)->H' b=some (.frz o u)):ul H' P f name qual st fd ws:=by
 obtain⟨doc,pm,ctv,c',cl,oc,h1,h2,h3,h4,h5,h6,h7⟩:=h.ex
 exact⟨doc,pm,ctv,c',cl,oc,h1,k _ _ _ h2,k _ _ _ h3,h4,h5,h6,λx v hx=>let ⟨c,o,u,a,b,d,e⟩:=h7 x v hx;⟨c,o,u,a,k _ _ _ b,d,e⟩⟩
def Vz (CX:ZJ) (P:Program) (w:World) (K:PySem.W.Frag) (mg:Str->Option Value) (base:Heap) (N:List Str) (qual:Str) (scope:Scope) (f:Addr) (cd:Value) (cl:List (Str×Addr)) (A:Around) (outer:List Env) (s:Shared) (H:Hp) (E:XK):Cx where
 prog:=P
 w:=w
 K:=K
 mg:=mg
 base:=base
 A:=A.deeper (PySem.W.envX qual scope s.heap.objs.size f cd cl)
 N:=N
 s₀:=s
 H₀:=H
 env:=PySem.W.envX qual scope s.heap.objs.size f cd cl
 outer:=outer
 stack:=PySem.W.envX qual scope s.heap.objs.size f cd cl::outer
 ex:=[]
 calm:=true
 fn:=λ_=>false
 pn:=[]
 xe:=λe s'=>wpAny (model P w) (A.deeper (PySem.W.envX qual scope s.heap.objs.size f cd cl)) (leaving (PySem.W.envX qual scope s.heap.objs.size f cd cl) e) (λ_ s''=>CX outer H s E e s'') (λe' s''=>CX outer H s E e' s'') s'
theorem Wz {x:Str} {u:Value}:∀{ps:List Str} {us:List Value} {i:Nat},ps.Nodup->ps[i]?=some x->us[i]?=some u->(ps.zip us).reverse.lookup x=some u:=by
 intro ps
 induction ps with
 | nil=>intro us i _ h;cases h
 | cons p ps ih=>
   intro us i nd h1 h2
   cases us with
   | nil=>cases h2
   | cons v us=>
     rw[List.zip_cons_cons,List.reverse_cons]
     obtain⟨np,nd⟩:=List.nodup_cons.mp nd
     cases i with
     | zero=>
       obtain rfl:p=x:=by simpa using h1
       obtain rfl:v=u:=by simpa using h2
       have:(ps.zip us).reverse.lookup p=none:=by
         rw[List.lookup_eq_none_iff]
         intro q hq
         have:=(List.of_mem_zip (List.mem_reverse.mp hq)).1
         simp only[beq_eq_false_iff_ne,ne_eq,Bool.not_eq_true,bne_iff_ne]
         intro z
         rw[z]at np
         exact np this
       rw[List.lookup_append,this]
       simp
     | succ i=>
       have:=ih nd (by simpa using h1) (by simpa using h2)
       rw[List.lookup_append,this]
       rfl
section
variable {P:Program} {w:World} {K:PySem.W.Frag} {mg:Str->Option Value} {base:Heap}
theorem uc {CX:ZJ} {PT f:Addr} {name qual:Str} {st:Stmt} {fd:FuncData} {N ps fr:List Str} {k:Nat} {sp:List (Str×V)->Sp} (S:XX N ps fr (qi st)) (len:∀ws vs H Q E,sp ws vs H Q E->vs.length=ps.length/\ws.map (·.1)=fr)
   (hbody:∀(c':Addr) (cl:List (Str×Addr)) (A:Around) (outer:List Env) (s:Shared) (H:Hp) (ws:List (Str×V)) (vs:List V) (Q:VK) (E:XK),ja k (A.deeper (PySem.W.envX qual (qi st) s.heap.objs.size f (.ref c') cl))->sp ws vs H Q E->
     ∃t,zZ (Vz CX P w K mg base N qual (qi st) f (.ref c') cl A outer s H E) (ji st) t/\t {nx:=λ_ H'=>Q .non H',rt:=Q} (jO N (vs++ws.map (·.2))) H):
   qv P w K mg base CX (k+1) f fd ps (λvs H Q E=>∃ws,ul H PT f name qual st fd ws/\sp ws vs H Q E):=by
 refine⟨λvs H Q E ⟨ws,_,h⟩=>(len _ _ _ _ _ h).1,λA outer s H args us vs Q E hr e0 hb r ⟨ws,C,hsp⟩=>?_⟩
 obtain⟨hl,hw⟩:=len _ _ _ _ _ hsp
 obtain⟨doc,pm,ctv,c',cl,oc,rfl,hf,hcd,⟨vs',t',hd',hv'⟩,inj,clw,cells⟩:=C.ex
 have ef:=(show qA P w H s.heap f (Y6 _) from e0.hok f _ hf).1
 have ec:=(show qA P w H s.heap c' (.frz oc (.own PT)) from e0.hok c' _ hcd).1
 have lim:s.heap.NoLimit:=e0.mod.nolimit.keeps λb o e=>(e0.bs b o e).1
 refine codeAny_call_function hr.depth ef rfl S.co S.gen rfl ⟨c',oc,vs',t',rfl,ec,hd',hv'⟩ (hb _ _ _ _ ?_)
 refine wpAny_newFunctionEnv S.nocell (λy hy=>S.par y.1 (List.of_mem_zip hy).1) (λh1 hns hsb=>?_) S.kind
 have hk:∀b o,s.heap.get? b=some o->h1.get? b=some o:=λb o e=>hsb.extBut b o (Nat.ne_of_lt (Heap.lt_size e)) (Heap.get?_push_of_some _ e)
 refine⟨lim.keeps hk,codeAny_func ?_⟩
 obtain⟨t,ht,hq⟩:=hbody c' cl A outer s H ws vs Q E (hr.deeper _) hsp
 have noA:∀b:Addr,b∉(Vz CX P w K mg base N qual (qi st) f (.ref c') cl A outer s H E).ex:=λb z=>absurd (show b∈([]:List Addr) from z) (by simp)
 have lw:ws.length=fr.length:=by have:=congrArg List.length hw;simpa using this
 have hN:ps.length+fr.length<=N.length:=by
   have:=congrArg List.length S.pre
   rw[List.length_take,List.length_append]at this
   omega
 have kn:∀x c,cl.lookup x=some c->∃o u,H c=some (Y6 o)/\o.data=.cell (some u):=λx c e=>by
   obtain⟨⟨y,v⟩,hy,rfl⟩:=List.mem_map.mp (clw x c e)
   obtain⟨c2,o,u,a,b,d,_⟩:=cells y v hy
   rw[e]at a
   cases a
   exact⟨o,u,b,d⟩
 have I:qu (Vz CX P w K mg base N qual (qi st) f (.ref c') cl A outer s H E) [] (jO N (vs++ws.map (·.2))) H {s with heap:=h1,toks:=s.toks+(ps.zip us).length}:=by
   refine⟨⟨e0.mod,S.kind,rfl,rfl,Nat.le_refl _,inj,λy hy=>?_,λ_ _ z=>Bool.noConfusion z,λ_=>hr.hd,Around.frames_deeper e0.frames,.inr ⟨rfl,rfl⟩,λb z=>absurd z (noA b),e0.bs,e0.bsz,λb _ _=>noA b,λb z=>absurd z (noA b),e0.funs,e0.frf⟩,
     rfl,e0.bare,Un.kept hk,⟨_,hns,λi y v q1 q2 q3=>?_⟩,λy c h=>?_,e0.hok.fresh (Nat.le_refl _),λy c h=>?_,λp hp=>absurd (show p∈([]:List (Addr×Obj)) from hp) (by simp),e0.hok.kept hk,?_⟩
   . have hy:(qi st).names.lookup y=some .cell\/(qi st).names.lookup y=some .free:=hy
     rcases hy with hy | hy
     . exact absurd rfl (S.nocell _ (PySem.mem_of_lookup hy))
     . have:=S.frees _ (PySem.mem_of_lookup hy) rfl
       rw[<-hw]at this
       obtain⟨⟨z,v⟩,hz,ez⟩:=List.mem_map.mp this
       obtain⟨c2,o,u,a,_⟩:=cells z v hz
       exact⟨c2,by rw[<-show z=y from ez];exact a⟩
   . have hi:i < (vs++ws.map (·.2)).length:=by
       rcases Nat.lt_or_ge i (vs++ws.map (·.2)).length with z | z
       . exact z
       . unfold jO at q2
         rw[List.getElem?_append_right (by simpa using z),List.getElem?_replicate]at q2
         split at q2<;>cases q2
     have q2':(vs++ws.map (·.2))[i]?=some v:=by
       unfold jO at q2
       rw[List.getElem?_append_left (by simpa using hi),List.getElem?_map]at q2
       cases e:(vs++ws.map (·.2))[i]? with
       | none=>rw[e]at q2;cases q2
       | some z=>rw[e]at q2;cases q2;rfl
     rw[List.length_append,List.length_map]at hi
     have q1':(ps++fr)[i]?=some y:=by
       rw[<-S.pre,List.getElem?_take_of_lt (by rw[List.length_append];omega)]
       exact q1
     rcases Nat.lt_or_ge i vs.length with z | z
     . rw[List.getElem?_append_left z]at q2'
       rw[List.getElem?_append_left (by omega)]at q1'
       obtain⟨u,hu,rv⟩:=r.get q2'
       have ndP:ps.Nodup:=by
         have:=S.nd.sublist (List.take_sublist (ps++fr).length N)
         rw[S.pre]at this
         exact(List.nodup_append.mp this).1
       exact⟨u,rv,.inl ⟨S.par y (List.mem_of_getElem? q1'),Wz ndP q1' hu⟩⟩
     . rw[List.getElem?_append_right z,List.getElem?_map]at q2'
       rw[List.getElem?_append_right (by omega),<-hl]at q1'
       rw[<-hw,List.getElem?_map]at q1'
       cases e:ws[i - vs.length]? with
       | none=>rw[e]at q2';cases q2'
       | some yv=>
         rw[e]at q2' q1'
         obtain rfl:yv.1=y:=Option.some.inj q1'
         obtain rfl:yv.2=v:=Option.some.inj q2'
         have hm:yv∈ws:=List.mem_of_getElem? e
         obtain⟨c2,o,u,a,b,d,rv⟩:=cells yv.1 yv.2 hm
         have fy:(qi st).names.lookup yv.1=some .free:=S.free _ (by rw[<-hw];exact List.mem_map.mpr ⟨yv,hm,rfl⟩)
         exact⟨u,rv,.inr ⟨.inr fy,c2,a,o,hk _ _ (show qA P w H s.heap c2 (Y6 o) from e0.hok c2 _ b).1,d⟩⟩
   . obtain⟨o,u,b,d⟩:=kn y c h
     exact⟨some u,o,hk _ _ (show qA P w H s.heap c (Y6 o) from e0.hok c _ b).1,d⟩
   . obtain⟨o,u,b,d⟩:=kn y c h
     exact .inr ⟨rfl,o,b⟩
   . show (jO N (vs++ws.map (·.2))).length=N.length
     unfold jO
     rw[List.length_append,List.length_map,List.length_replicate,List.length_append,List.length_map]
     omega
 refine wpAny_mono (ht.to [] _ (jO N (vs++ws.map (·.2))) H _ I hq) (λfl s' hs=>?_) λe s' hs=>hs
 have fin:∀{σ':St} {H':Hp} {v:V} {u:Value},qu (Vz CX P w K mg base N qual (qi st) f (.ref c') cl A outer s H E) [] σ' H' s'->qH v u->Q v H'->CE outer P w H s Q u s':=
   λ{σ' H' v u} J rv q=>⟨v,H',J.os,J.bare,J.base,J.hok,rv,q⟩
 cases fl with
 | ret u=>
   obtain⟨v,σ',H',J,rv,q⟩:=hs
   exact fin J rv q
 | next=>
   obtain⟨σ',H',J,q⟩:=hs
   exact fin (v:=V.non) (u:=Value.none) J rfl q
 | brk=>
   obtain⟨_,_,_,q⟩:=hs
   exact False.elim q
 | cont=>
   obtain⟨_,_,_,q⟩:=hs
   exact False.elim q
end
def xS (i:Nat) (C:Addr->FuncData->Sp->Prop) (E:St->XK) (t:TA):TE:=λσ H Q=>∃f fd sp,σ[i]?=some (some (.ref f))/\C f fd sp/\H f=some (Y6 {cls:=.type "function",data:=.func fd})/\t σ H λvs H1=>H1 f=some (Y6 {cls:=.type "function",data:=.func fd})/\sp vs H1 Q (E σ)
section
variable {X:Cx} {CX:ZJ} {C:Addr->FuncData->Sp->Prop} {E:St->XK} {x:Str} {p pos:Pos} {e:Expr} {es:List Expr} {t:TA} {i:Nat}
theorem vU (hN:X.N[i]?=some x) (hv:ut X.env.scope x) (hC:∀f fd sp,C f fd sp->∃(k:Nat) (ps:List Str),qv X.prog X.w X.K X.mg X.base CX k f fd ps sp/\ja k X.A/\jz X.K fd ps []) (hx:Q0 CX X E) (ha:JA X (e::es) t) (hdb:(x==("__debug__":Str))=false:=by decide) (hcd:(x==("__classdict__":Str))=false:=by decide) (he:starEach (e::es) X.env=(false,eval e X.env)::starEach es X.env:=by rfl) (hpl:(backTo pos (starEach es X.env)).any (·.1)=false:=by rfl):JE X (.Call (.Name x p) (e::es) [] pos) (xS i C E t):=.of (by
 have ha:=ha.to
 intro pins s σ H Q I h
 obtain⟨f,fd,sp,eσ,c,hf,h⟩:=h
 obtain⟨k,ps,F,hr,hb⟩:=hC f fd sp c
 refine wpAny_Call_Name_kw (jc (vg hN hv hdb hcd pins s σ H (λv H'=>v=.ref f/\H'=H) I ⟨_,eσ,rfl,rfl⟩) λu s1 ⟨v,H1,I1,r1,e1,e2⟩=>?_)
 subst e1 e2
 cases r1
 have at_:∀{H2:Hp} {s2:Shared},qu X pins σ H2 s2->H2 f=some (Y6 {cls:=.type "function",data:=.func fd})->PySem.W.FnAt f s2.heap:=λI2 q=>⟨_,_,fd,_,(show qA X.prog X.w _ _ f (Y6 _) from I2.hok f _ q).1⟩
 exact PySem.W.callWith_F (at_ I1 hf) (jc (ha pos pins s1 σ _ _ I1 h) λus s2 ⟨vs,H2,I2,r,q0,q⟩=>⟨at_ I2 q0,Vc F hr hb .nil hx I2 r (by simpa using q)⟩) he hpl)
end
end L2
set_option Elab.async false
set_option linter.all false
set_option maxRecDepth 100000
set_option maxHeartbeats 4000000
namespace L2
open PySem PySem.Spec PyProof.Rows
structure XS where
 x:Str
 c:Addr
 P:Addr
 q:Str
def Qk (tabs:List XS) (H:Hp):Hp:=λb=>match tabs.find? λq=>q.P==b with
 | some q=>some (.tbl #[.str q.q 0])
 | none=>H b
theorem JR {tabs:List XS} {H:Hp} {b:Addr} (h:∀q∈tabs,q.P≠b):Qk tabs H b=H b:=by
 unfold Qk
 cases e:tabs.find? λq=>q.P==b with
 | none=>rfl
 | some q=>exact absurd (beq_iff_eq.mp (List.find?_some (p:=λq:XS=>q.P==b) e)) (h q (List.mem_of_find?_eq_some e))
theorem Zs {tabs:List XS} {H:Hp} {b:Addr} {q:XS} (h:q∈tabs) (e:q.P=b):∃q'∈tabs,q'.P=b/\Qk tabs H b=some (.tbl #[.str q'.q 0]):=by
 unfold Qk
 cases e2:tabs.find? λq=>q.P==b with
 | none=>exact absurd (beq_iff_eq.mpr e) (by simpa using List.find?_eq_none.mp e2 q h)
 | some q'=>exact⟨q',List.mem_of_find?_eq_some e2,beq_iff_eq.mp (List.find?_some (p:=λq:XS=>q.P==b) e2),rfl⟩
theorem kP {tabs:List XS} {H:Hp} (nd:(tabs.map (·.P)).Nodup) {q:XS} (h:q∈tabs):Qk tabs H q.P=some (.tbl #[.str q.q 0]):=by
 obtain⟨q',h',e,r⟩:=Zs (H:=H) h rfl
 have:q'=q:=by
   have inj:∀{l:List XS},(l.map (·.P)).Nodup->∀{a b:XS},a∈l->b∈l->a.P=b.P->a=b:=by
     intro l
     induction l with
     | nil=>intro _ a b h;cases h
     | cons z l ih=>
       intro n a b ha hb e
       rw[List.map_cons,List.nodup_cons]at n
       rcases List.mem_cons.mp ha with ea | ha
       . rcases List.mem_cons.mp hb with eb | hb
         . rw[ea,eb]
         . exact absurd (List.mem_map.mpr ⟨b,hb,by rw[<-e,ea]⟩) n.1
       . rcases List.mem_cons.mp hb with eb | hb
         . exact absurd (List.mem_map.mpr ⟨a,ha,by rw[e,eb]⟩) n.1
         . exact ih n.2 ha hb e
   exact inj nd h' h e
 rw[r,this]
theorem Ug {P:Program} {w:World} {K:PySem.W.Frag} {mg mb:Str->Option Value} {CX:ZJ} {k:Nat} {fa a:Addr} {fd:FuncData} {x:Str} {sp:Sp} {s₁:Shared} {vs:List Value} {ns:List Int} {tabs:List XS}
   (KX:K.In s₁.heap) (hns:s₁.heap.Ns mainGlobals mg) (hb:s₁.heap.Ns builtinsNs mb) (hbb:∀x:Str,x≠"__name__"->mb x=bootBuiltins x) (hlim:s₁.heap.NoLimit) (hg:s₁.gens=#[])
   (ha:s₁.heap.get? a=some {cls:=.type "list",data:=.seq vs.toArray}) (hi:IntsAre vs ns) (hl:ns.length<=sizeLine) (hr:ja k callerA)
   (hT:∀q∈tabs,PySem.W.CodeHd s₁.heap q.c q.P/\s₁.heap.get? q.P=some (PySem.W.tabObj #[])) (nd:(tabs.map (·.P)).Nodup) (hbl:∃bm o,mg "__builtins__"=some (.ref bm)/\bm≠builtinsNs/\bm≠mainGlobals/\s₁.heap.get? bm=some o/\o.cls=.type "module"/\o.dict=some builtinsNs/\o.data=.plain) (hnt:PySem.W.noTabs K=true)
   (F:∀base:Heap,K.In base->base.Ns mainGlobals mg->(∀q∈tabs,XR mg base q.c q.P)->qv P w K mg base CX k fa fd [x] sp) (hbind:∀(s:Shared) (u:Value),BindsTo s fd ⟨[u],[]⟩ [(x,u)])
   (hsp:∀H:Hp,SqL K H a (ns.map V.int)->(∀q∈tabs,H q.P=some (.tbl #[.str q.q 0]))->sp [.ref a] H (λv _=>v=.bl true) λ_ _ _=>False)
   (hCX:∀H e s',CX [] H s₁ (λ_ _ _=>False) e s'->False):
   codeAny (model P w) callerA (.call (.ref fa) ⟨[.ref a],[]⟩) (λr s'=>r=.ok (.ret (.bool true))/\OldK s₁.heap s'.heap/\s'.os=s₁.os/\AllBare s'.gens) s₁:=by
 have rv:=z5 hi
 have lenV:=hi.length
 have naP:∀q∈tabs,q.P≠a:=λq hq z=>by
   have:=(hT q hq).2
   rw[z,ha]at this
   cases this
 have core:∀H0:Hp,Ru H0->SqL K H0 a (ns.map V.int)->Q4 P w H0 s₁.heap->(∀b,H0 b≠none->b=a)->(H0 a≠none->K.lookup a=none)->
     codeAny (model P w) callerA (.call (.ref fa) ⟨[.ref a],[]⟩) (λr s'=>r=.ok (.ret (.bool true))/\OldK s₁.heap s'.heap/\s'.os=s₁.os/\AllBare s'.gens) s₁:=by
   intro H0 hO hS0 hok0 hA hK
   have hS:SqL K (Qk tabs H0) a (ns.map V.int):=by
     have e:Qk tabs H0 a=H0 a:=JR naP
     rcases hS0 with (h | ⟨o,h⟩) | h
     . exact .inl (.inl (e.trans h))
     . exact .inl (.inr ⟨o,e.trans h⟩)
     . exact .inr h
   have cases_:∀b,Qk tabs H0 b≠none->b=a\/∃q∈tabs,q.P=b:=λb z=>by
     rcases Classical.em (∃q∈tabs,q.P=b) with h | h
     . exact .inr h
     . rw[JR λq hq e=>h ⟨q,hq,e⟩]at z
       exact .inl (hA b z)
   have hok:Q4 P w (Qk tabs H0) s₁.heap:=λb u e=>by
     rcases Classical.em (∃q∈tabs,q.P=b) with ⟨q,hq,eq⟩ | h
     . obtain⟨q',hq',e',r⟩:=Zs (H:=H0) hq eq
       rw[r]at e
       cases e
       exact⟨#[],by rw[<-e'];exact(hT q' hq').2,True.intro,λpos cv z=>nomatch z⟩
     . rw[JR λq hq e=>h ⟨q,hq,e⟩]at e
       have hb':b=a:=hA b (by rw[e];exact λz=>nomatch z)
       rcases hO b with z | ⟨o,xs,z⟩
       . rw[z]at e;cases e
       . rw[z]at e
         cases e
         obtain⟨h1,h2,its,n,h3,h4⟩:=(show qA P w H0 s₁.heap b (.frz o (.lst xs)) from hok0 b _ z)
         exact⟨h1,h2,its,n,h3,h4⟩
   have noT:∀{b:Addr} {o:Obj},s₁.heap.get? b=some o->o≠PySem.W.tabObj #[]->o≠{cls:=.type "list",data:=.seq vs.toArray}->Qk tabs H0 b=none:=λ{b o} e n1 n2=>by
     cases q:Qk tabs H0 b with
     | none=>rfl
     | some u=>
       rcases cases_ b (by rw[q];exact λz=>nomatch z) with z | ⟨t,ht,z⟩
       . rw[z,ha]at e
         exact absurd (Option.some.inj e).symm n2
       . have:=(hT t ht).2
         rw[z,e]at this
         exact absurd (Option.some.inj this) n1
   have base_of:∀{b:Addr} {o:Obj},s₁.heap.get? b=some o->Qk tabs H0 b=none->(zY s₁.heap (Qk tabs H0)).get? b=some o:=λe n=>kh e n
   have nsK:∀{b:Addr} {m:Str->Option Value},s₁.heap.Ns b m->(zY s₁.heap (Qk tabs H0)).Ns b m:=λ{b m} ⟨o,es,ep,e,d,r⟩=>⟨o,es,ep,base_of e (noT e (λz=>by rw[z]at d;cases d) (λz=>by rw[z]at d;cases d)),d,r⟩
   have hKb:K.In (zY s₁.heap (Qk tabs H0)):=λb o e=>base_of (KX b o e) (by
     cases q:Qk tabs H0 b with
     | none=>rfl
     | some u=>
       rcases cases_ b (by rw[q];exact λz=>nomatch z) with z | ⟨t,ht,z⟩
       . have e1:Qk tabs H0 a=H0 a:=JR naP
         rw[z,e1]at q
         rw[z,hK (by rw[q];exact λz=>nomatch z)]at e
         cases e
       . have:=(hT t ht).2
         rw[z,KX b o e]at this
         have h2:=List.all_eq_true.mp hnt (b,o) (PySem.W.mem_of_lookupK e)
         rw[Option.some.inj this]at h2
         exact absurd (show false=true from h2) Bool.false_ne_true)
   have hM:Mod K mg (zY s₁.heap (Qk tabs H0)):=⟨hKb,nsK hns,⟨mb,nsK hb,hbb⟩,let ⟨mc,h1,h2⟩:=hlim;⟨mc,nsK h1,h2⟩⟩
   have hTM:∀q∈tabs,XR mg (zY s₁.heap (Qk tabs H0)) q.c q.P:=λq hq=>by
     refine⟨?_,?_⟩
     . obtain⟨o,vs',file,tf,flags,tg,inF,text,tt,e1,e2,r⟩:=(hT q hq).1
       exact⟨o,vs',file,tf,flags,tg,inF,text,tt,base_of e1 (noT e1 (λz=>by rw[z]at e2;cases e2) (λz=>by rw[z]at e2;exact absurd (show Value.type "list"=Value.type "code" from e2) (by decide))),e2,r⟩
     . obtain⟨bm,o,b1,b2,b3,b4,b5,b6,b7⟩:=hbl
       refine⟨bm,o,b1,b2,b3,λz=>?_,base_of b4 (noT b4 (λz=>by rw[z]at b5;cases b5) (λz=>by rw[z]at b5;exact absurd (show Value.type "list"=Value.type "module" from b5) (by decide))),b5,b6,b7⟩
       have:=(hT q hq).2
       rw[<-z,b4]at this
       cases this
       cases b5
   have e0:XV P w K mg (zY s₁.heap (Qk tabs H0)) callerA [] s₁ (Qk tabs H0):=⟨rfl,hM,λb o e=>yF e,Nat.le_of_eq (Ur _ _),trivial,λb hb=>absurd (show b∈([]:List Addr) from hb) (by simp),hok,.of_eq hg⟩
   refine codeAny_mono ((F _ hKb (nsK hns) hTM).run callerA [] s₁ (Qk tabs H0) ⟨[.ref a],[]⟩ [.ref a] [.ref a] _ _ hr e0 (hbind s₁ (.ref a)) (.cons rfl .nil) (hsp _ hS λq hq=>kP nd hq)) λr s' h=>?_
   cases r with
   | error e=>exact(hCX _ e s' h).elim
   | ok fl=>
     cases fl with
     | next=>exact False.elim h
     | brk=>exact False.elim h
     | cont=>exact False.elim h
     | ret u=>
       obtain⟨v,H',os,bare,un,hok',r',q⟩:=h
       have q':v=.bl true:=q
       subst q'
       obtain rfl:u=Value.bool true:=r'
       have all:∀b o,s₁.heap.get? b=some o->s'.heap.get? b=some o\/∃t∈tabs,t.P=b/\∃ts,s'.heap.get? b=some (PySem.W.tabObj ts):=λb o e=>by
         rcases Classical.em (∃q∈tabs,q.P=b) with ⟨t,ht,et⟩ | h
         . obtain⟨t',ht',e',r⟩:=Zs (H:=H0) ht et
           obtain⟨m,z⟩:=un.tbls b _ r
           obtain⟨ts,z2,_⟩:=(show qA P w H' s'.heap b (.tbl _) from hok' b _ z)
           exact .inr ⟨t,ht,et,ts,z2⟩
         . have e1:Qk tabs H0 b=H0 b:=JR λq hq e=>h ⟨q,hq,e⟩
           cases q:H0 b with
           | none=>exact .inl (un.keep b o e (e1.trans q) (by intro z;exact absurd (show b∈([]:List Addr) from z) (by simp)) (by simp))
           | some u=>
             rcases hO b with z | ⟨ob,xs,z⟩
             . rw[q]at z;cases z
             . have z2:=un.frzs b ob _ (e1.trans z)
               obtain⟨h1,_⟩:=hok0 b _ z
               obtain⟨h2,_⟩:=hok' b _ z2
               rw[e]at h1;cases h1
               exact .inl h2
       refine⟨rfl,⟨λb o e=>?_,λb o e=>?_⟩,os,bare⟩
       . rcases all b o e with z | ⟨t,ht,et,ts,z⟩
         . exact .inl z
         . have e2:=(hT t ht).2
           rw[et,e]at e2
           cases e2
           subst et
           exact .inr (.inl ⟨((hT t ht).1.tab (hT t ht).2).isCodeTable,rfl,#[],ts,rfl,by rw[Array.empty_append];exact z⟩)
       . rcases all b o e with z | ⟨t,ht,et,ts,z⟩
         . exact⟨_,z⟩
         . exact⟨_,z⟩
 cases hk:K.lookup a with
 | some o=>
   have e:=KX a o hk
   rw[ha]at e
   cases e
   refine core (λ_=>none) (λ_=>.inl rfl) (.inr ⟨_,vs.toArray,_,hk,rfl,rfl,rfl,by rw[List.size_toArray,lenV];exact hl,by simpa using rv⟩) (λb u z=>by have z':(none:Option HO)=some u:=z;cases z') (λb z=>absurd rfl z) λz=>absurd rfl z
 | none=>
   refine core (λb=>if b=a then some (.frz {cls:=.type "list",data:=.seq vs.toArray} (.lst (ns.map V.int))) else none) (λb=>?_) (.inl (.inr ⟨{cls:=.type "list",data:=.seq vs.toArray},if_pos rfl⟩)) (λb u z=>?_) (λb z=>?_) λ_=>hk
   . by_cases hb:b=a
     . exact .inr ⟨_,_,if_pos hb⟩
     . exact .inl (if_neg hb)
   . by_cases hb:b=a
     . have z':=(if_pos hb).symm.trans z
       cases z'
       subst hb
       exact⟨ha,by rw[List.length_map];exact hl,vs,_,rv,ha⟩
     . have z':=(if_neg hb).symm.trans z
       cases z'
   . by_cases hb:b=a
     . exact hb
     . exact absurd (if_neg hb) z
theorem walk_ofT {l:PySem.W.OpenLaw} {n k:Nat} {q:Program} {loose:List Str} {XP:(Str->Option Value)->Heap->Prop} {YP:World->Heap->Prop} {d:DefRec} {K:Params->PySem.W.Frag} {sp:PySem.W.Frag->List XS->Sp} {x:Str} {ts:List Addr}
   (hn:l.most=some n) (hn2:n<=sizeLine) (hdf:d.params.defaults=[]) (hr:ja k callerA)
   (hY:∀(w:World) (h:Heap),YP w h->(K w.params).In h) (hTs:∀(w:World) (h:Heap),YP w h->∀P∈ts,h.get? P=some (PySem.W.tabObj #[])) (hnt:∀w:World,PySem.W.noTabs (K w.params)=true)
   (F:∀(w:World) (mg:Str->Option Value) (fa:Addr) (h:Heap),(K w.params).In h->h.Ns mainGlobals mg->mg d.name=some (.ref fa)->
     ∃(tabs:List XS) (fd:FuncData),(tabs.map (·.P)).Nodup/\(∀t∈tabs,t.P∈ts/\PySem.W.codeHdIn (K w.params) t.c t.P=true)/\(∀(s:Shared) (u:Value),BindsTo s fd ⟨[u],[]⟩ [(x,u)])/\
      ∀base:Heap,(K w.params).In base->base.Ns mainGlobals mg->(∀t∈tabs,XR mg base t.c t.P)->qv l.prog w (K w.params) mg base jd k fa fd [x] (sp (K w.params) tabs))
   (hsp:∀(K:PySem.W.Frag) (tabs:List XS) (H:Hp) (a:Addr) (ns:List Int),ns.length<=n->SqL K H a (ns.map V.int)->(∀q∈tabs,H q.P=some (.tbl #[.str q.q 0]))->sp K tabs [.ref a] H (λv _=>v=.bl true) λ_ _ _=>False):
   PySem.W.WalkO q loose XP YP l.row.toRowW d [] (λf vs=>PySem.call f vs):=by
 refine Att.attach_call hn hdf λw s₀ s₁ mg mb fa o pm cd doc a vs ns G Y ho hd hcd hmg hobj hints hlen hg=>?_
 have KX:=hY w _ Y
 obtain⟨tabs,fd,nd,ht,hb,hF⟩:=F w mg fa _ KX G.T.g hmg
 refine Ug KX G.T.g G.T.b G.T.builtins G.T.nolimit hg hobj hints (Nat.le_trans hlen hn2) hr (tabs:=tabs) (λt hm=>⟨PySem.W.codeHd_of_K KX (ht t hm).2,hTs w _ Y _ (ht t hm).1⟩) nd ?_ (hnt w) hF hb (λH hS hP=>hsp _ _ H a ns hlen hS hP) λH e s' z=>z
 obtain⟨bm,ob,a1,a2,a3,a4,a5,a6⟩:=G.T.bmain
 refine⟨bm,ob,a1,a2,λz=>?_,a3,a4,a5,a6⟩
 obtain⟨o',es,ep,e,hd',_⟩:=G.T.g
 rw[z,e]at a3
 cases a3
 rw[hd']at a6
 cases a6
end L2
set_option Elab.async false
set_option linter.all false
set_option maxRecDepth 100000
set_option maxHeartbeats 4000000
namespace L2
open PySem PySem.Spec PyProof.Rows
mutual
inductive DG (H:Hp):V->PyData->Prop
 | non:DG H .non .none
 | bl (b:Bool):DG H (.bl b) (.bool b)
 | int (i:Int):DG H (.int i) (.int i)
 | str (x:Str):DG H (.str x) (.str x)
 | lst {a:Addr} {xs:List V} {ds:List PyData}:H a=some (.lst xs)->a≠sysModules->DGs H xs ds->DG H (.ref a) (.list ds)
 | tup {a:Addr} {xs:List V} {ds:List PyData}:H a=some (.tup xs)->DGs H xs ds->DG H (.ref a) (.tuple ds)
 | dct0 {a:Addr}:H a=some (.dK [])->DG H (.ref a) (.dict [])
 | dct1 {a:Addr} {z:Str} {i:Int}:H a=some (.dK [(Sum.inr z,.int i)])->DG H (.ref a) (.dict [(.str z,.int i)])
inductive DGs (H:Hp):List V->List PyData->Prop
 | nil:DGs H [] []
 | cons {x:V} {xs:List V} {d:PyData} {ds:List PyData}:DG H x d->DGs H xs ds->DGs H (x::xs) (d::ds)
end
mutual
theorem DG.keepX {H H':Hp} (k:∀b o,H b=some o->(∀φ,o≠.ext φ)->H' b=some o):∀{x:V} {d:PyData},DG H x d->DG H' x d
 | _,_,.non=>.non
 | _,_,.bl b=>.bl b
 | _,_,.int i=>.int i
 | _,_,.str x=>.str x
 | _,_,.lst q n hs=>.lst (k _ _ q (λ_ z=>nomatch z)) n (DGs.keepX k hs)
 | _,_,.tup q hs=>.tup (k _ _ q (λ_ z=>nomatch z)) (DGs.keepX k hs)
 | _,_,.dct0 q=>.dct0 (k _ _ q (λ_ z=>nomatch z))
 | _,_,.dct1 q=>.dct1 (k _ _ q (λ_ z=>nomatch z))
theorem DGs.keepX {H H':Hp} (k:∀b o,H b=some o->(∀φ,o≠.ext φ)->H' b=some o):∀{xs:List V} {ds:List PyData},DGs H xs ds->DGs H' xs ds
 | _,_,.nil=>.nil
 | _,_,.cons h hs=>.cons (DG.keepX k h) (DGs.keepX k hs)
end
section
variable {X:Cx} {pins:List (Addr×Obj)} {σ:St} {H:Hp} {s:Shared}
mutual
theorem DG.reads (I:qu X pins σ H s):∀{x:V} {d:PyData},DG H x d->∀{u:Value},qH x u->∃as,Reads s.heap u d as/\sysModules∉as
 | _,_,.non,u,r=>by cases (show u=Value.none from r);exact⟨_,.none,by simp⟩
 | _,_,.bl b,u,r=>by cases (show u=Value.bool b from r);exact⟨_,.bool b,by simp⟩
 | _,_,.int i,u,r=>by obtain⟨t,q⟩:=(show ∃t,u=Value.int i t from r);subst q;exact⟨_,.int i t,by simp⟩
 | _,_,.str x,u,r=>by obtain⟨t,q⟩:=(show ∃t,u=Value.str x t from r);subst q;exact⟨_,.str x t,by simp⟩
 | _,_,.lst (a:=a) (xs:=xs) hq n hs,u,r=>by
   cases (show u=Value.ref a from r)
   obtain⟨_,its,k,rv,e⟩:=(show qA X.prog X.w H s.heap a (.lst xs) from I.hok a _ hq)
   obtain⟨as,ra,na⟩:=DGs.reads I hs rv
   exact⟨_,.list e rfl rfl (by simpa using ra),by simp [Ne.symm n,na]⟩
 | _,_,.tup (a:=a) (xs:=xs) hq hs,u,r=>by
   cases (show u=Value.ref a from r)
   obtain⟨its,rv,⟨o,e,hc,k,hda⟩,hz⟩:=I.tuple (.of hq)
   obtain⟨as,ra,na⟩:=DGs.reads I hs rv
   exact⟨_,.tuple e hc hda (by simpa using ra),na⟩
 | _,_,.dct0 (a:=a) ha,u,r=>by
   cases (show u=Value.ref a from r)
   obtain⟨_,hna,vs,kv,dd⟩:=(show qA X.prog X.w H s.heap a (.dK []) from I.hok a _ ha)
   cases kv
   obtain⟨o,es,ep,ho,hc,hdat,hk,hp,hn⟩:=dd
   generalize e0:es.toList=l0 at hp
   cases hp
   have n2:sysModules≠a:=λz=>by rw[<-z]at hna;exact absurd hna (by simp)
   exact⟨_,.dict ho hc.1 hdat (by rw[e0];exact .nil) (by rw[e0];exact .nil),by simp [n2]⟩
 | _,_,.dct1 (a:=a) (z:=z) (i:=i) ha,u,r=>by
   cases (show u=Value.ref a from r)
   obtain⟨_,hna,vs,kv,dd⟩:=(show qA X.prog X.w H s.heap a (.dK [(Sum.inr z,.int i)]) from I.hok a _ ha)
   cases kv with
   | cons h1 kv=>
     cases kv
     obtain⟨e1,t,e2⟩:=h1
     obtain⟨o,es,ep,ho,hc,hdat,hk,hp,hn⟩:=dd
     have n2:sysModules≠a:=λz=>by rw[<-z]at hna;exact absurd hna (by simp)
     generalize hl:es.toList=l at hp
     cases hp with
     | cons k1 k2 hp=>
       cases hp
       rename_i kv2 e
       rw[<-e1]at k1
       have k1':zD (Sum.inr z) e.key=true:=k1
       rcases jf k1' with ⟨j,t2,q1,q2⟩ | ⟨y,t2,q1,q2⟩
       . cases q1
       . cases q1
         refine⟨_,.dict ho hc.1 hdat (as:=[]++[]) (bs:=[]++[]) ?_ ?_,by simp [n2]⟩
         . rw[hl]
           show ReadsAll s.heap [e.key] [.str z] _
           rw[q2]
           exact .cons (.str z t2) .nil
         . rw[hl]
           show ReadsAll s.heap [e.val] [.int i] _
           rw[k2,e2]
           exact .cons (.int i t) .nil
theorem DGs.reads (I:qu X pins σ H s):∀{xs:List V} {ds:List PyData},DGs H xs ds->∀{us:List Value},qB xs us->∃as,ReadsAll s.heap us ds as/\sysModules∉as
 | _,_,.nil,_,.nil=>⟨_,.nil,by simp⟩
 | _,_,.cons h hs,_,.cons r rs=>by
   obtain⟨as,a,na⟩:=DG.reads I h r
   obtain⟨bs,b,nb⟩:=DGs.reads I hs rs
   exact⟨_,.cons a b,by simp [na,nb]⟩
end
end
def wc:List V->Hp->VK->Prop:=λxs H Q=>∃v d,xs=[v]/\DG H v d/\d.showable=true/\d.depth<=60/\d.shown.length<=sizeLine/\(∀i,d=.int i->i.natAbs.log2 < 1920)/\Q (.str d.shown) H
theorem zP {X:Cx} (hg:X.A.guards=some []) (hu:X.A.units+64 < cLine):jU X (.builtin "repr") wc:=by
 intro pins s σ H xs us Q I r h
 obtain⟨v,d,rfl,dg,h1,h2,h3,h4,q⟩:=h
 obtain⟨u,rfl,ru⟩:=Qj r
 have heap:∀{a:Addr},v=.ref a->wpAny (model X.prog X.w) X.A (call (.builtin "repr") [u]) (EP X pins σ Q) X.xe s:=λ{a} e=>by
   subst e
   obtain⟨as,rd,na⟩:=dg.reads I ru
   cases (show u=Value.ref a from ru)
   exact repr_of_reads' rd h1 (λ_=>na) hg (by omega) (λ_ _ e=>e) (λh' t tk k=>⟨.str d.shown,H,I.kept (t':=tk) k,⟨t,rfl⟩,q⟩) h3
 cases dg with
 | non=>
   cases (show u=Value.none from ru)
   exact PySem.P.repr_of_none ⟨.str _,H,I.tok _,⟨_,rfl⟩,q⟩
 | bl b=>
   cases (show u=Value.bool b from ru)
   exact PySem.P.repr_of_bool ⟨.str _,H,I.tok _,⟨_,rfl⟩,q⟩
 | int i=>
   obtain⟨t,e⟩:=(show ∃t,u=Value.int i t from ru)
   subst e
   exact PySem.P.repr_of_int (h4 i rfl) ⟨.str _,H,I.tok _,⟨_,rfl⟩,q⟩
 | str x=>
   obtain⟨t,e⟩:=(show ∃t,u=Value.str x t from ru)
   subst e
   exact PySem.P.repr_of_str ⟨.str _,H,I.tok _,⟨_,rfl⟩,q⟩ h3
 | lst _ _ _=>exact heap rfl
 | tup _ _=>exact heap rfl
 | dct0 _=>exact heap rfl
 | dct1 _=>exact heap rfl
section
variable {X:Cx}
end
end L2
set_option Elab.async false
set_option linter.all false
set_option maxRecDepth 100000
set_option maxHeartbeats 4000000
namespace Rh
open PySem L2
def top (i:Nat):Stmt:=PySem.Challenge.pw_ringheaps_k24_whole_moves_walked.main.body.getD i (.Pass ⟨0,0,0,0⟩)
abbrev Za:Stmt:=top 12
abbrev Vb:Stmt:=top 38
abbrev ZZ:Stmt:=top 39
abbrev Jx:Stmt:=top 40
abbrev zh:Stmt:=top 41
abbrev zi:Stmt:=top 42
abbrev W7:Stmt:=top 43
abbrev YD:Stmt:=top 51
end Rh
namespace Rh
open PySem L2 PyProof.Rows
structure jx (K:PySem.W.Frag) (mg:Str->Option Value) (x:Str) (st:Stmt) (ps:List Str) (f:Addr) (fd:FuncData):Prop where
 fn:j3 K x x st f fd
 ns:mg x=some (.ref f)
 bi:jz K fd ps []
theorem qQ {X:Cx} {x:Str} {st:Stmt} {ps:List Str} {f:Addr} {fd:FuncData} {k:Nat} {sp:Sp} {e:Expr} {es:List Expr} {t:TA} {p pos:Pos} (h:jx X.K X.mg x st ps f fd) (G:qv X.prog X.w X.K X.mg X.base jd k f fd ps sp) (hr:ja k X.A)
   (hg:Gl X x) (ha:JA X (e::es) t) (hdb:(x==("__debug__":Str))=false:=by decide) (he:starEach (e::es) X.env=(false,eval e X.env)::starEach es X.env:=by rfl) (hpl:(backTo pos (starEach es X.env)).any (·.1)=false:=by rfl):
   JE X (.Call (.Name x p) (e::es) [] pos) (Xb sp [] E0 t):=.of (Vi G hr hg h.ns h.fn.kp h.bi .nil zq ha.to hdb he hpl)
theorem qp {H:Hp} {b p:Addr} {o o':HO} (h:H b=some o) (hp:H p=none):upd H p o' b=some o:=by
 rw[qe (qo h hp)]
 exact h
theorem qj {H:Hp} {p:Addr} {o:HO} (hp:H p=none):Same H (upd H p o):=λb u h=>qp h hp
theorem Same.upd {H H':Hp} {p:Addr} {o:HO} (s:Same H H') (hp:H p=none):Same H (upd H' p o):=λb u h=>by
 rw[qe (qo h hp)]
 exact s b u h
def src (n s t:Int):List (qS×V):=[(Sum.inr "number",.int n),(Sum.inr "seed",.int s),(Sum.inr "turn",.int t)]
theorem nns:¬(Str.ofString "number")=Str.ofString "seed":=by decide+kernel
theorem Gx:¬(Str.ofString "number")=Str.ofString "turn":=by decide+kernel
theorem Gw:¬(Str.ofString "seed")=Str.ofString "turn":=by decide+kernel
theorem nsn:¬(Str.ofString "seed")=Str.ofString "number":=by decide+kernel
theorem ntn:¬(Str.ofString "turn")=Str.ofString "number":=by decide+kernel
theorem nts:¬(Str.ofString "turn")=Str.ofString "seed":=by decide+kernel
theorem kc {a b:Str} (h:¬a=b):¬(Sum.inr a:qS)=Sum.inr b:=λe=>h (Sum.inr.inj e)
section
variable {H:Hp} {d:Addr} {n s t:Int}
theorem gN (h:H d=some (.dK (src n s t))):Qp H d (.str "number") (some (.int n)):=by
 have e:jy (src n s t) (Sum.inr "number":qS)=some (.int n):=qX rfl
 have q:=Qp.k (k:=(Sum.inr "number":qS)) h
 rw[e]at q
 exact q
theorem gS (h:H d=some (.dK (src n s t))):Qp H d (.str "seed") (some (.int s)):=by
 have e:jy (src n s t) (Sum.inr "seed":qS)=some (.int s):=(qY (kc nns)).trans (qX rfl)
 have q:=Qp.k (k:=(Sum.inr "seed":qS)) h
 rw[e]at q
 exact q
theorem gT (h:H d=some (.dK (src n s t))):Qp H d (.str "turn") (some (.int t)):=by
 have e:jy (src n s t) (Sum.inr "turn":qS)=some (.int t):=(qY (kc Gx)).trans ((qY (kc Gw)).trans (qX rfl))
 have q:=Qp.k (k:=(Sum.inr "turn":qS)) h
 rw[e]at q
 exact q
theorem uI:(src n s t).length < sizeLine:=qt (by show 3<=1000;decide)
theorem pN (h:H d=some (.dK (src n s t))) (v:Int):Zp H d (.str "number") (.int v) (upd H d (.dK (src v s t))):=by
 have e:jD (src n s t) (Sum.inr "number":qS) (.int v)=src v s t:=by
   unfold jD src
   simp [nsn,ntn]
 have q:=Zp.k (k:=(Sum.inr "number":qS)) (v:=.int v) h uI
 rw[e]at q
 exact q
theorem pT (h:H d=some (.dK (src n s t))) (v:Int):Zp H d (.str "turn") (.int v) (upd H d (.dK (src n s v))):=by
 have e:jD (src n s t) (Sum.inr "turn":qS) (.int v)=src n s v:=by
   unfold jD src
   simp [Gx,Gw]
 have q:=Zp.k (k:=(Sum.inr "turn":qS)) (v:=.int v) h uI
 rw[e]at q
 exact q
end
def QL:Sp:=λvs H Q _=>∃(d:Addr) (m n s t:Int),vs=[.ref d,.int m]/\H d=some (.dK (src n s t))/\0 < m/\m.natAbs < 2^200/\∀r n' t',0<=r->r < m->Q (.int r) (upd H d (.dK (src n' s t')))
def Xe:Sp:=λvs H Q _=>∃c:Int,vs=[.int c]/\∀d n s,H d=none->Q (.ref d) (upd H d (.dK (src n s 0)))
def UX (K:PySem.W.Frag):Sp:=λvs H Q _=>∃(a:Addr) (ns:List Int) (k:Int),vs=[.ref a,.int k]/\SqL K H a (ns.map V.int)/\0<=k/\∀v,Q (.int v) H
section
variable {P:Program} {w:World} {K:PySem.W.Frag} {mg:Str->Option Value} {base:Heap}
theorem YB:qy ["_law_source_here","_law_many","_law_digit","_law_number"] ["_law_source_here","_law_many"] (qi Jx):=⟨rfl,rfl,rfl,by decide+kernel,rfl,by decide+kernel,by decide+kernel⟩
theorem QQ {f:Addr} {fd:FuncData} (F:j3 K "_law_take" "_law_take" Jx f fd):qv P w K mg base jd 1 f fd ["_law_source_here","_law_many"] QL:=by
 refine F.okJ YB (λvs H Q E h=>?_) (λcdv A outer s H vs Q E hr h=>?_)
 . obtain⟨d,m,n,sd,t,rfl,_⟩:=h
   rfl
 . obtain⟨d,m,n,sd,t,rfl,hd,m0,m1,k⟩:=h
   have hu:=zI hr
   refine⟨_,qh (q5 (qw Xq (Qh hu (jv 0) je (λ_ _=>rfl)) ql (qD _))
       (qh (qx (i:=2) YB.nd rfl (Or.inl rfl) (qN Ql (Qh hu (jv 0) je (λ_ _=>rfl)) (jv 1)))
       (qh (jZ hu (jv 0) je (qN vo (Qh hu (jv 0) je (λ_ _=>rfl)) (jv 1)) rfl)
       (qm (qJ (jv 2))))) qE)
     (qh (jZ hu (jv 0) je (qN j9 (Qh hu (jv 0) je (λ_ _=>rfl)) ql) rfl)
     (qh (qx (i:=3) YB.nd rfl (Or.inl rfl) (qN Ql (qN QP (qN j9 (Qh hu (jv 0) je (λ_ _=>rfl)) (qN QP ql (Qh hu (jv 0) je (λ_ _=>rfl)))) ql) ql))
     (qh (qx (i:=3) YB.nd rfl (Or.inl rfl) (qN Ql (qN QP (jv 3) (jv 3)) ql))
     (qm (qJ (qN Ql (qN yu (qN Ql (qN QP (qN j9 (jv 3) (Qh hu (jv 0) je (λ_ _=>rfl))) (qN j9 (jv 3) ql)) ql) ql) (jv 1))))))),?_⟩
   refine⟨_,rfl,d,_,rfl,gN hd,_,_,rfl,rfl,_,rfl,?_⟩
   refine zX (λ_=>?_) (λ_=>?_)
   . refine⟨_,rfl,d,_,rfl,gN hd,_,rfl,_,_,rfl,rfl,m0,?_⟩
     refine⟨_,rfl,d,_,rfl,gN hd,_,rfl,_,_,rfl,rfl,⟨m0,m1⟩,_,rfl,d,_,rfl,pN hd _,?_⟩
     exact⟨_,rfl,k _ _ _ (Int.emod_nonneg _ (by omega)) (Int.emod_lt_of_pos _ m0)⟩
   . refine⟨_,rfl,d,_,rfl,gT hd,_,_,rfl,rfl,_,rfl,d,_,rfl,pT hd _,?_⟩
     have h1:upd H d (.dK (src n sd (t+1))) d=some (.dK (src n sd (t+1))):=qd
     refine⟨_,rfl,d,_,rfl,gS h1,_,rfl,d,_,rfl,gT h1,_,_,rfl,rfl,.inl ⟨by decide,by decide⟩,_,_,rfl,rfl,_,_,rfl,rfl,.inr ⟨by decide,by decide⟩,_,_,rfl,rfl,(by show (0:Int) < 2147483647;decide),?_⟩
     generalize ha:((sd+7919*(t+1))*48271) % 2147483647=x
     have x0:0<=x:=by rw[<-ha];exact Int.emod_nonneg _ (by decide)
     have x1:x < 2147483647:=by rw[<-ha];exact Int.emod_lt_of_pos _ (by decide)
     refine⟨_,rfl,_,rfl,_,_,rfl,rfl,.inl ⟨by omega,by omega⟩,_,_,rfl,rfl,(by show (0:Int) < 2147483629;decide),?_⟩
     generalize hb:(x*x) % 2147483629=y
     have y0:0<=y:=by rw[<-hb];exact Int.emod_nonneg _ (by decide)
     have y1:y < 2147483629:=by rw[<-hb];exact Int.emod_lt_of_pos _ (by decide)
     refine⟨_,rfl,_,rfl,d,_,rfl,gT h1,_,_,rfl,rfl,_,rfl,_,_,rfl,rfl,_,_,rfl,rfl,.inr ⟨by omega,by omega⟩,_,_,rfl,rfl,(by show (0:Int) < 2147483587;decide),_,_,rfl,rfl,⟨by decide,by decide⟩,_,rfl,_,_,rfl,rfl,m0,?_⟩
     exact k _ _ _ (Int.emod_nonneg _ (by omega)) (Int.emod_lt_of_pos _ m0)
end
end Rh
namespace Rh
open PySem L2 PyProof.Rows
structure JN (mg:Str->Option Value):Prop where
 len:mg "len"=none
 max:mg "max"=none
 min:mg "min"=none
 int:mg "int"=none
 rng:mg "range"=none
theorem Ue (n s t:Int):Qa [] (src n s t)=src n s t:=by
 unfold Qa src
 simp only[List.foldl_cons,List.foldl_nil]
 unfold jD
 simp [nns,Gx,Gw,nsn,ntn,nts]
section
variable {P:Program} {w:World} {K:PySem.W.Frag} {mg:Str->Option Value} {base:Heap}
theorem U1:qy ["_law_cell"] ["_law_cell"] (qi ZZ):=⟨rfl,rfl,rfl,by decide+kernel,rfl,by decide+kernel,by decide+kernel⟩
theorem V6 {f:Addr} {fd:FuncData} (F:j3 K "_law_source" "_law_source" ZZ f fd) (B:JN mg):qv P w K mg base jd 1 f fd ["_law_cell"] Xe:=by
 refine F.okJ U1 (λvs H Q E h=>?_) (λcdv A outer s H vs Q E hr h=>?_)
 . obtain⟨c,rfl,_⟩:=h
   rfl
 . obtain⟨c,rfl,k⟩:=h
   refine⟨_,qm (qJ (yT
     (zF je (qN QP (qr (Yo rfl) (by rfl) B.max boot_max (qb ql (qb (jv 0) qg)))
       (qM UB (by rfl) B.int boot_int (qb (Qt vn (jv 0) (qN wq ql ql) (qD _)) qg)))
     (zF je (qN Ql (jv 0) ql) (zF je ql yO))) rfl rfl (by simp) (by decide))),?_⟩
   intro p hp
   refine⟨_,rfl,_,_,rfl,_,rfl,_,_,rfl,rfl,⟨by decide,by decide,by decide⟩,_,_,rfl,rfl,.inr ⟨_,rfl,_,_,rfl,rfl,.inr ?_,_,rfl,_,_,rfl,rfl,(by show (0:Int) < 2147483629;decide),?_⟩⟩
   . split<;>exact⟨by decide,by decide⟩
   . refine⟨qd,src _ _ 0,rfl,(by show 3<=15;decide),?_⟩
     rw[Ue,jJ]
     exact k p _ _ hp
theorem x9:qy ["_law_script","_law_k"] ["_law_script","_law_k"] (qi Vb):=⟨rfl,rfl,rfl,by decide+kernel,rfl,by decide+kernel,by decide+kernel⟩
theorem yE {f:Addr} {fd:FuncData} (F:j3 K "_law_cell_at" "_law_cell_at" Vb f fd) (B:JN mg):qv P w K mg base jd 1 f fd ["_law_script","_law_k"] (UX K):=by
 refine F.okJ x9 (λvs H Q E h=>?_) (λcdv A outer s H vs Q E hr h=>?_)
 . obtain⟨a,ns,k,rfl,_⟩:=h
   rfl
 . obtain⟨a,ns,k,rfl,hS,k0,q⟩:=h
   refine⟨_,qh (q5 (qw j4 (jv 1) (qr qC (by rfl) B.len boot_len (qb (jv 0) qg)) (qD _))
       (qm (qJ (qP qW (jv 0) (jv 1) (λ_ _=>rfl)))) qE)
     (qm (qJ (qN j9 (qN QP ql (jv 1)) ql))),?_⟩
   refine⟨_,rfl,_,rfl,a,_,rfl,.inl hS,_,_,rfl,rfl,_,rfl,?_⟩
   refine zX (λh=>?_) (λ_=>?_)
   . have h1:k < ((ns.map V.int).length:Int):=of_decide_eq_true h
     rw[List.length_map]at h1
     have h2:k.toNat < ns.length:=by omega
     have h3:(ns.map V.int)[k.toNat]?=some (V.int ns[k.toNat]):=by rw[List.getElem?_map,List.getElem?_eq_getElem h2];rfl
     have h4:k=((k.toNat:Nat):Int):=by omega
     refine⟨_,rfl,_,rfl,a,_,k,V.int ns[k.toNat],rfl,rfl,hS,?_,q _⟩
     have h5:=Qu h3
     rw[<-h4]at h5
     exact h5
   . exact⟨_,rfl,_,_,rfl,rfl,.inl ⟨by decide,by decide⟩,_,_,rfl,rfl,q _⟩
end
end Rh
set_option Elab.async false
set_option linter.all false
set_option maxRecDepth 100000
set_option maxHeartbeats 4000000
namespace Rh
open PySem L2 PyProof.Rows
def Fr (H:Hp) (d:Addr) (H':Hp):Prop:=∀b o,H b=some o->b≠d->H' b=some o
theorem Fr.refl {H:Hp} {d:Addr}:Fr H d H:=λ_ _ h _=>h
theorem Fr.at_d {H H':Hp} {d:Addr} {o:HO} (h:Fr H d H'):Fr H d (upd H' d o):=λb u hb hn=>by
 rw[qe hn]
 exact h b u hb hn
theorem Fr.new {H H':Hp} {d p:Addr} {o:HO} (h:Fr H d H') (hp:H' p=none):Fr H d (upd H' p o):=λb u hb hn=>qp (h b u hb hn) hp
theorem Fr.own {H H':Hp} {d p:Addr} {o:HO} (h:Fr H d H') (hp:H p=none):Fr H d (upd H' p o):=λb u hb hn=>by
 rw[qe (qo hb hp)]
 exact h b u hb hn
theorem Fr.trans {H H' H'':Hp} {d:Addr} (h:Fr H d H') (k:Fr H' d H''):Fr H d H'':=λb u hb hn=>k b u (h b u hb hn) hn
theorem Fr.fresh {H H':Hp} {d p:Addr} {o:HO} (h:Fr H d H') (hd:H' d=some o) (hp:H' p=none):H p=none:=by
 cases e:H p with
 | none=>rfl
 | some u=>
   by_cases n:p=d
   . subst n
     rw[hd]at hp
     cases hp
   . rw[h p u e n]at hp
     cases hp
def jp (c:Nat):Bool:=decide (97<=c)&&decide (c<=122)
def qK (z:Str):Bool:=(decide (1<=z.length)&&decide (z.length<=8))&&z.cps.toList.all jp
def VE:Str:="abcdefghijklmnopqrstuvwxyz"
theorem Yv:VE.cps.toList=[97,98,99,100,101,102,103,104,105,106,107,108,109,110,111,112,113,114,115,116,117,118,119,120,121,122]:=by decide+kernel
theorem kB:VE.cps.toList=(List.range 26).map (97+·):=by rw[Yv];rfl
theorem VD:VE.length<=sizeLine:=by
 show VE.cps.size<=sizeLine
 rw[<-Array.length_toList,Yv]
 decide
theorem kC {r:Int} (h0:0<=r) (h1:r < 26):Y2 VE.cps.toList r=some (97+r.toNat):=by
 have h2:VE.cps.toList[r.toNat]?=some (97+r.toNat):=by
   rw[kB,List.getElem?_map,List.getElem?_range (by omega)]
   rfl
 have h4:=Qu h2
 have h5:r=((r.toNat:Nat):Int):=by omega
 rw[<-h5]at h4
 exact h4
theorem Yg {r:Int} (h0:0<=r) (h1:r < 26):jp (97+r.toNat)=true:=by
 unfold jp
 rw[decide_eq_true (by omega:97<=97+r.toNat),decide_eq_true (by omega:97+r.toNat<=122)]
 rfl
theorem wS (ws:List Nat):(Txt.join (Str.ofString "") (ws.map λk=>(⟨#[k]⟩:Str))).cps.toList=ws:=by
 show (Builtin.Str.glued (Str.ofString "") _).cps.toList=_
 rw[StrLaws.glued_eq_join]
 have e:(Str.ofString "")=⟨#[]⟩:=by decide+kernel
 rw[e,PyProof.Rows.join_ones]
theorem Um {z:Str} {A B:List Nat} {c:Nat} (e:z.cps.toList=A++[c]++B) (hA:A.all jp=true) (hc:jp c=true) (hB:B.all jp=true) (hl:A.length+B.length<=7):qK z=true:=by
 have l:z.length=A.length+1+B.length:=by
   show z.cps.size=_
   rw[<-Array.length_toList,e]
   simp
   omega
 unfold qK
 rw[decide_eq_true (by omega:1<=z.length),decide_eq_true (by omega:z.length<=8),e,List.all_append,List.all_append,hA,hB]
 simp [hc]
def Vk (f s:Int) (k:Nat):Nat:=97+((f+s*(k:Int)) % 26).toNat
theorem yI:∀s∈[(1:Int),3,5,7,9,11],∀k,k < 14->∀j,j < 14->(s*((k:Nat):Int) - s*((j:Nat):Int)) % 26=0->k=j:=by decide+kernel
theorem yH {f s:Int} {k j:Nat} (hs:s=1\/s=3\/s=5\/s=7\/s=9\/s=11) (hk:k < 14) (hj:j < 14) (h:Vk f s k=Vk f s j):k=j:=by
 unfold Vk at h
 refine yI s (by simpa using hs) k hk j hj ?_
 generalize s*(k:Int)=x at h ⊢
 generalize s*(j:Int)=y at h ⊢
 omega
def Qv (A:List Nat) (f s:Int) (zs:List Str):Prop:=∀j z,zs[j]?=some z->∃B,z.cps.toList=A++[Vk f s j]++B/\B.all jp=true/\A.length+B.length<=7
theorem Qv.snoc {A:List Nat} {f s:Int} {zs:List Str} (h:Qv A f s zs) {z:Str} {B:List Nat} (e:z.cps.toList=A++[Vk f s zs.length]++B) (hB:B.all jp=true) (hl:A.length+B.length<=7):Qv A f s (zs++[z]):=by
 intro j y hy
 by_cases hj:j < zs.length
 . rw[List.getElem?_append_left hj]at hy
   exact h j y hy
 . have hj':j=zs.length:=by
     have:=(List.getElem?_eq_some_iff.mp hy).1
     rw[List.length_append,List.length_singleton]at this
     omega
   subst hj'
   rw[List.getElem?_append_right (Nat.le_refl _),Nat.sub_self]at hy
   obtain rfl:=(Option.some.inj hy).symm
   exact⟨B,e,hB,hl⟩
theorem Qv.names {A:List Nat} {f s:Int} {zs:List Str} (h:Qv A f s zs) (hA:A.all jp=true):∀z∈zs,qK z=true:=λz hz=>by
 obtain⟨j,hj⟩:=List.getElem?_of_mem hz
 obtain⟨B,e,hB,hl⟩:=h j z hj
 refine Um e hA ?_ hB hl
 unfold Vk
 exact Yg (Int.emod_nonneg _ (by decide)) (Int.emod_lt_of_pos _ (by decide))
theorem Qv.nodup {A:List Nat} {f s:Int} {zs:List Str} (h:Qv A f s zs) (hs:s=1\/s=3\/s=5\/s=7\/s=9\/s=11) (hz:zs.length<=14):zs.Nodup:=by
 refine List.pairwise_iff_getElem.mpr λi j hi hj hij e=>?_
 obtain⟨B,b1,_⟩:=h j _ (List.getElem?_eq_getElem hj)
 obtain⟨C,c1,_⟩:=h i _ (List.getElem?_eq_getElem hi)
 rw[e]at c1
 have e2:(A++[Vk f s j]++B)[A.length]?=(A++[Vk f s i]++C)[A.length]?:=by rw[<-b1,<-c1]
 rw[List.append_assoc,List.append_assoc,List.getElem?_append_right (Nat.le_refl _),List.getElem?_append_right (Nat.le_refl _),Nat.sub_self]at e2
 have e3:Vk f s j=Vk f s i:=Option.some.inj e2
 exact absurd (yH hs (by omega) (by omega) e3) (by omega)
theorem XO {A:List Nat} (h:A.all jp=true) (n:Nat):(A.take n).all jp=true:=by
 rw[List.all_eq_true]at h ⊢
 exact λx hx=>h x (List.mem_of_mem_take hx)
theorem xY {r:Int} (h0:0<=r) (h1:r < 6):∃m:Int,(m=1\/m=3\/m=5\/m=7\/m=9\/m=11)/\Y2 [V.int 1,V.int 3,V.int 5,V.int 7,V.int 9,V.int 11] r=some (.int m):=by
 have:r=0\/r=1\/r=2\/r=3\/r=4\/r=5:=by omega
 rcases this with rfl | rfl | rfl | rfl | rfl | rfl
 . exact⟨1,by decide,rfl⟩
 . exact⟨3,by decide,rfl⟩
 . exact⟨5,by decide,rfl⟩
 . exact⟨7,by decide,rfl⟩
 . exact⟨9,by decide,rfl⟩
 . exact⟨11,by decide,rfl⟩
def W2:Sp:=λvs H Q _=>∃(d:Addr) (m:Nat) (n s t:Int),vs=[.ref d,.int m]/\H d=some (.dK (src n s t))/\m<=14/\
 ∀(l:Addr) (zs:List Str) (n' t':Int) (H':Hp),H l=none->H' l=some (.lst (zs.map V.str))->zs.length=m->(∀z∈zs,qK z=true)->zs.Nodup->H' d=some (.dK (src n' s t'))->Fr H d H'->Q (.ref l) H'
theorem Xd:∀zs:List Str,(zs.map λ_=>1).sum=zs.length
 | []=>rfl
 | z::zs=>by rw[List.map_cons,List.sum_cons,Xd zs,List.length_cons];omega
section
variable {P:Program} {w:World} {K:PySem.W.Frag} {mg:Str->Option Value} {base:Heap}
abbrev wI:List Str:=["_law_source_here","_law_many","_law_letters","_law_word","_law_ahead","_law_first","_law_step","_law_names_here","_law_k","_law_behind"]
theorem Qe:qy wI ["_law_source_here","_law_many"] (qi zh):=⟨rfl,rfl,rfl,by decide+kernel,rfl,by decide+kernel,by decide+kernel⟩
theorem vt {f fT:Addr} {fd fdT:FuncData} (F:j3 K "_law_names" "_law_names" zh f fd) (B:JN mg) (hT:jx K mg "_law_take" Jx ["_law_source_here","_law_many"] fT fdT):qv P w K mg base jd 2 f fd ["_law_source_here","_law_many"] W2:=by
 have GT:qv P w K mg base jd 1 fT fdT ["_law_source_here","_law_many"] QL:=QQ hT.fn
 refine F.okJ Qe (λvs H Q E h=>?_) (λcdv A outer s H vs Q E hr h=>?_)
 . obtain⟨d,m,n,sd,t,rfl,_⟩:=h
   rfl
 . obtain⟨d,m,n,sd,t,rfl,hd,hm,q⟩:=h
   refine⟨_,qh (qx (i:=2) Qe.nd rfl (Or.inr rfl) je)
     (qh (qx (i:=3) Qe.nd rfl (Or.inl rfl) (Jh PySem.F.plainAttrs_str PySem.F.slot_str_join PySem.F.type_str_join yJ je (qb
       (Zh (N':=["_law_k","_law_letters","_law_source_here"]) (ix:=[none,some 2,some 0]) rfl ⟨rfl,rfl,rfl,rfl,rfl⟩
         (jQ (by rfl) B.rng (qb ql qg))
         (λC s2 H2 fp pins=>⟨qz (i:=0) (show (["_law_k","_law_letters","_law_source_here"]:List Str).Nodup by decide+kernel) rfl (Or.inl rfl),Qf,
           qP vX (jv 1) (qQ hT GT hr (by rfl) (qb (jv 2) (qb ql qg))) (λ_ _=>rfl)⟩)) qg)))
     (qh (qx (i:=4) Qe.nd rfl (Or.inl rfl) (Qn UZ (jv 3) QT (QS (qN QP (qQ hT GT hr (by rfl) (qb (jv 0) (qb ql qg))) (qQ hT GT hr (by rfl) (qb (jv 0) (qb ql qg)))))))
     (qh (qx (i:=5) Qe.nd rfl (Or.inl rfl) (qQ hT GT hr (by rfl) (qb (jv 0) (qb ql qg))))
     (qh (qx (i:=6) Qe.nd rfl (Or.inl rfl) (qP qW (jl (qb ql (qb ql (qb ql (qb ql (qb ql (qb ql qg))))))) (qQ hT GT hr (by rfl) (qb (jv 0) (qb ql qg))) (λ_ _=>rfl)))
     (qh (qx (i:=7) Qe.nd rfl (Or.inl rfl) (jl qg))
     (qh (jr PassesOwn.never rfl (jQ (by rfl) B.rng (qb (jv 1) qg)) (qz (i:=8) Qe.nd rfl (Or.inl rfl))
       (qh (qx (i:=9) Qe.nd rfl (Or.inl rfl) (Qn UZ (jv 3) QT (QS (qQ hT GT hr (by rfl) (qb (jv 0) (qb (qN wp ql (qr QZ (by rfl) B.len boot_len (qb (jv 4) qg))) qg))))))
       (qm (qV (Jh PySem.F.plainAttrs_list PySem.F.slot_list_append PySem.F.type_list_append jA (jv 7) (qb
         (qN zw (qN zw (jv 4) (qP vX (jv 2) (qN Ql (qN j9 (jv 5) (qN QP (jv 6) (jv 8))) ql) (λ_ _=>rfl))) (jv 9)) qg))))))
     (qm (qJ (jv 7))))))))),?_⟩
   refine⟨rfl,7,rfl,by decide,by decide,λD hD=>?_⟩
   have nDd:D≠d:=λe=>by rw[e,hd]at hD;cases hD
   refine ZH (λi σ' H'=>∃(v:Option V) (n' t':Int) (ws:List Nat),σ'=[v,some (.str VE),some (.ref d)]/\H' d=some (.dK (src n' sd t'))/\H' D=some (.lst ((ws.map λk=>(⟨#[k]⟩:Str)).map V.str))/\ws.length=i/\ws.all jp=true/\Fr H d H')
     ⟨none,n,t,[],rfl,qp hd hD,qd,rfl,rfl,Fr.refl.new hD⟩ ?_ ?_
   . rintro i σ' H' hi ⟨v,n',t',ws,rfl,hd',hD',hl,ha,fr⟩
     refine⟨_,rfl,_,rfl,d,26,n',sd,t',rfl,hd',by decide,by decide,λr n3 t3 r0 r1=>?_⟩
     refine⟨VE,r,_,rfl,rfl,VD,kC r0 r1,_,(by rw[qe nDd];exact hD'),?_,?_⟩
     . rw[List.length_map,List.length_map,hl]
       exact qt (by omega)
     . refine⟨_,n3,t3,ws++[97+r.toNat],rfl,?_,?_,?_,?_,?_⟩
       . rw[qe (Ne.symm nDd)];exact qd
       . rw[List.map_append,List.map_append];exact qd
       . rw[List.length_append,hl];rfl
       . rw[List.all_append,ha]
         simp [Yg r0 r1]
       . exact(fr.at_d).own hD
   rintro σ' H1 ⟨v,n1,t1,ws,rfl,hd1,hD1,hl1,ha1,fr1⟩
   have hl1:ws.length=7:=hl1
   refine⟨Str.ofString "",D,_,rfl,rfl,.of hD1,?_,?_⟩
   . have e1:((ws.map λk=>(⟨#[k]⟩:Str)).map (·.length))=(ws.map λk=>(⟨#[k]⟩:Str)).map λ_=>1:=by
       refine List.map_congr_left λz hz=>?_
       obtain⟨c,_,rfl⟩:=List.mem_map.mp hz
       rfl
     have e2:(Str.ofString "").length=0:=by decide+kernel
     rw[e1,e2,Xd,List.length_map,hl1]
     decide
   generalize hw:Txt.join (Str.ofString "") (ws.map λk=>(⟨#[k]⟩:Str))=wd
   have hW:wd.cps.toList=ws:=by rw[<-hw];exact wS ws
   have hWl:wd.length=7:=by
     show wd.cps.size=7
     rw[<-Array.length_toList,hW,hl1]
   refine⟨_,rfl,_,rfl,d,2,n1,sd,t1,rfl,hd1,by decide,by decide,λr2 n2 t2 r20 r21=>?_⟩
   refine⟨_,rfl,d,5,n2,sd,t2,rfl,qd,by decide,by decide,λr3 n3 t3 r30 r31=>?_⟩
   rw[jJ]
   have e4:∃j:Nat,r2*r3=(j:Int)/\j<=4:=by
     have h2:r2=0\/r2=1:=by omega
     rcases h2 with rfl | rfl
     . exact⟨0,by omega,by omega⟩
     . exact⟨r3.toNat,by omega,by omega⟩
   obtain⟨j,ej,hj⟩:=e4
   refine⟨_,_,rfl,rfl,.inl ⟨by omega,by omega⟩,_,rfl,wd,r2*r3,rfl,rfl,rfl,by omega,?_⟩
   rw[ej]
   generalize ha:Txt.slice wd none (some (j:Int))=ah
   have hA:ah.cps.toList=ws.take j:=by rw[<-ha,zg,hW]
   have hAl:ah.length=j:=by
     show ah.cps.size=j
     rw[<-Array.length_toList,hA,List.length_take,hl1]
     omega
   refine⟨_,rfl,d,26,n3,sd,t3,rfl,qd,by decide,by decide,λf n4 t4 f0 f1=>?_⟩
   rw[jJ]
   refine⟨by show 6<=sizeLine;decide,λp hp=>?_⟩
   have npd:p≠d:=λe=>by rw[e,qd]at hp;cases hp
   refine⟨_,rfl,d,6,n4,sd,t4,rfl,(by rw[qe (Ne.symm npd)];exact qd),by decide,by decide,λr5 n5 t5 r50 r51=>?_⟩
   obtain⟨st,hst,hsa⟩:=xY r50 r51
   refine⟨p,_,r5,.int st,rfl,rfl,.of (by rw[qe npd];exact qd),hsa,?_⟩
   have fr5:Fr H d (upd (upd (upd H1 d (.dK (src n4 sd t4))) p (.lst [V.int 1,V.int 3,V.int 5,V.int 7,V.int 9,V.int 11])) d (.dK (src n5 sd t5))):=(fr1.at_d.new hp).at_d
   generalize hH5:upd (upd (upd H1 d (.dK (src n4 sd t4))) p (.lst [V.int 1,V.int 3,V.int 5,V.int 7,V.int 9,V.int 11])) d (.dK (src n5 sd t5))=H5 at fr5
   have hd5:H5 d=some (.dK (src n5 sd t5)):=by rw[<-hH5];exact qd
   refine⟨by show 0<=sizeLine;decide,λl hl=>⟨_,rfl,m,rfl,by omega,by omega,?_⟩⟩
   have hHl:H l=none:=fr5.fresh hd5 hl
   have nld:l≠d:=λe=>by rw[e,hd5]at hl;cases hl
   refine QI (lo:=0) (n:=m) (λi σ' H'=>∃(v1 v2:Option V) (n' t':Int) (zs:List Str),σ'=[some (.ref d),some (.int m),some (.str VE),some (.str wd),some (.str ah),some (.int f),some (.int st),some (.ref l),v1,v2]/\
     H' d=some (.dK (src n' sd t'))/\H' l=some (.lst (zs.map V.str))/\zs.length=i/\Qv (ws.take j) f st zs/\Fr H d H')
     ⟨none,none,n5,t5,[],rfl,qp hd5 hl,qd,rfl,λj z hz=>(nomatch hz),fr5.new hl⟩ ?_ ?_
   . rintro i σ' H' hi ⟨v1,v2,n',t',zs,rfl,hd',hl',hz,hN,fr⟩
     rw[Int.zero_add]
     refine⟨_,rfl,_,rfl,_,rfl,ah,rfl,(by rw[hAl];exact Nat.le_of_lt (qt (by omega))),_,_,rfl,rfl,d,8 - (ah.length:Int),n',sd,t',rfl,hd',by omega,by omega,λr n6 t6 r0 r1=>?_⟩
     have er:r=((r.toNat:Nat):Int):=by omega
     refine⟨_,rfl,wd,r,rfl,rfl,rfl,by omega,?_⟩
     generalize hb:Txt.slice wd none (some r)=bh
     have hB:bh.cps.toList=ws.take r.toNat:=by rw[<-hb,er,zg,hW];rfl
     have hBl:bh.length<=r.toNat:=by
       show bh.cps.size<=r.toNat
       rw[<-Array.length_toList,hB,List.length_take]
       omega
     refine⟨_,rfl,.inl ⟨rfl,_,.of (by rw[qe nld];exact hl')⟩,_,rfl,_,rfl,_,rfl,_,rfl,_,rfl,_,_,rfl,rfl,.inl ⟨by omega,by omega⟩,_,_,rfl,rfl,_,_,rfl,rfl,(by show (0:Int) < 26;decide),?_⟩
     refine⟨VE,_,_,rfl,rfl,VD,kC (Int.emod_nonneg _ (by decide)) (Int.emod_lt_of_pos _ (by decide)),?_⟩
     have e26:97+((f+st*(i:Int)) % 26).toNat=Vk f st i:=rfl
     rw[e26]
     have l1:(ah++(⟨#[Vk f st i]⟩:Str)).length=j+1:=by
       show (ah++(⟨#[Vk f st i]⟩:Str)).cps.size=_
       rw[Str.cps_append,Array.size_append]
       show ah.length+1=_
       rw[hAl]
     refine⟨_,_,rfl,rfl,Nat.le_of_lt (qt (by show ah.length+1<=1000;omega)),_,rfl,_,_,rfl,rfl,Nat.le_of_lt (qt (by rw[l1];omega)),?_⟩
     refine⟨l,_,_,rfl,rfl,(by rw[qe nld];exact hl'),(by rw[List.length_map,hz];exact qt (by omega)),?_⟩
     refine⟨_,_,n6,t6,zs++[ah++(⟨#[Vk f st i]⟩:Str)++bh],rfl,?_,?_,?_,?_,?_⟩
     . rw[qe (Ne.symm nld)];exact qd
     . rw[List.map_append];exact qd
     . rw[List.length_append,hz];rfl
     . refine hN.snoc (B:=ws.take r.toNat) ?_ (XO ha1 _) ?_
       . rw[Str.cps_append,Str.cps_append,Array.toList_append,Array.toList_append,hA,hB,hz]
       . rw[List.length_take,List.length_take]
         omega
     . exact fr.at_d.own hHl
   . rintro σ' H' ⟨v1,v2,n',t',zs,rfl,hd',hl',hz,hN,fr⟩
     exact⟨_,rfl,q l zs n' t' H' hHl hl' hz (hN.names (XO ha1 _)) (hN.nodup hst (by omega)) hd' fr⟩
end
end Rh
set_option Elab.async false
set_option linter.all false
set_option maxRecDepth 100000
set_option maxHeartbeats 4000000
namespace Rh
open PySem L2 PyProof.Rows
def WM (t:TT) (σ:L2.St) (H:Hp):Prop:=∀Q:Bool->Hp->Prop,(∀b,Q b H)->t σ H Q
theorem WM.and {t u:TT} {σ:L2.St} {H:Hp} (h:WM t σ H) (k:WM u σ H):WM (uG t u) σ H:=λQ q=>h _ λb=>by
 cases b
 . exact jI (q false)
 . exact Q6 (k _ q)
theorem WM.or {t u:TT} {σ:L2.St} {H:Hp} (h:WM t σ H) (k:WM u σ H):WM (tOr t u) σ H:=λQ q=>h _ λb=>by
 cases b
 . exact jI (k _ q)
 . exact Q6 (q true)
theorem ke {tc:TT} {tp:TS} {D:QB} {σ:L2.St} {H0:Hp} (G:Hp->Prop) (h:G H0) (ht:WM tc σ H0) (hp:∀D:QB,(∀H',G H'->D.nx σ H')->tp D σ H0) (k:∀H',G H'->D.nx σ H'):kU tc tp WX D σ H0:=
 ht _ λb=>by
   cases b
   . exact jI (k _ h)
   . exact Q6 (hp D k)
theorem Z8 {tc:TT} {tp u:TS} {D:QB} {σ:L2.St} {H0:Hp} (G:Hp->Prop) (h:G H0) (ht:WM tc σ H0) (hp:∀D:QB,(∀H',G H'->D.nx σ H')->tp D σ H0) (k:∀H',G H'->u D σ H'):kR (kU tc tp WX) u D σ H0:=ke G h ht hp k
theorem zK {i:Nat} {v:V} {σ:L2.St} {H:Hp} {Q:L2.St->Hp->Prop} (h:Q (σ.set i (some v)) H):QH i v σ H Q:=h
abbrev up (k:Nat×Nat):Int×Int:=((k.1:Int),(k.2:Int))
def xI (a b:Nat×Nat):Prop:=a.1 < b.1\/(a.1=b.1/\a.2 < b.2)
abbrev ZD (ks:List (Nat×Nat)):List (List qS):=ks.map λk=>ZL (up k)
theorem V1 {a b:Nat×Nat} (h:ZL (up a)=ZL (up b)):a=b:=by
 unfold ZL at h
 simp only[List.cons.injEq,Sum.inl.injEq,and_true]at h
 exact Prod.ext (by have:=h.1;omega) (by have:=h.2;omega)
structure Q5 (m i j:Nat) (ks:List (Nat×Nat)):Prop where
 ord:ks.Pairwise xI
 lt:∀x∈ks,x.2 < m/\(x.1 < i\/(x.1=i/\x.2 < j))
 len:ks.length<=i*m+j
theorem Q5.more {m i j:Nat} {ks:List (Nat×Nat)} (h:Q5 m i j ks):Q5 m i (j+1) ks:=⟨h.ord,λx hx=>by have:=h.lt x hx;omega,by have:=h.len;omega⟩
theorem Q5.snoc {m i j:Nat} {ks:List (Nat×Nat)} (h:Q5 m i j ks) (hj:j < m):Q5 m i (j+1) (ks++[(i,j)]):=by
 refine⟨List.pairwise_append.mpr ⟨h.ord,List.pairwise_singleton _ _,λa ha b hb=>?_⟩,λx hx=>?_,?_⟩
 . rw[List.mem_singleton.mp hb]
   have:=h.lt a ha
   unfold xI
   omega
 . rcases List.mem_append.mp hx with hx | hx
   . have:=h.lt x hx
     omega
   . rw[List.mem_singleton.mp hx]
     exact⟨hj,.inr ⟨rfl,Nat.lt_succ_self _⟩⟩
 . rw[List.length_append]
   have:=h.len
   show ks.length+1<=_
   omega
theorem Q5.row {m i:Nat} {ks:List (Nat×Nat)} (h:Q5 m i m ks):Q5 m (i+1) 0 ks:=⟨h.ord,λx hx=>by have:=h.lt x hx;omega,by have:=h.len;rw[Nat.succ_mul];omega⟩
def ux (m i j:Nat) (kvs:List (List qS×V)):Prop:=∃ks,Q5 m i j ks/\(kvs.map (·.1)=ZD ks\/kvs.map (·.1)=ZD (ks++[(i,j)]))
theorem VC (kvs:List (List qS×V)) (k:List qS):((kvs.any λkv=>decide (kv.1=k))=true)↔k∈kvs.map (·.1):=by
 rw[List.any_eq_true,List.mem_map]
 simp
theorem yM {kvs:List (List qS×V)} {k:List qS} (v:V) (h:k∈kvs.map (·.1)):(jD kvs k v).map (·.1)=kvs.map (·.1):=by
 unfold jD
 rw[if_pos ((VC kvs k).mpr h),List.map_map]
 refine List.map_congr_left λx _=>?_
 show (if x.1=k then (x.1,v) else x).1=x.1
 split<;>rfl
theorem vK {kvs:List (List qS×V)} {k:List qS} (v:V) (h:¬k∈kvs.map (·.1)):(jD kvs k v).map (·.1)=kvs.map (·.1)++[k]:=by
 unfold jD
 rw[if_neg (λz=>h ((VC kvs k).mp z)),List.map_append]
 rfl
theorem ux.put {m i j:Nat} {kvs:List (List qS×V)} (h:ux m i j kvs) (v:V):ux m i j (jD kvs (ZL (up (i,j))) v):=by
 obtain⟨ks,ha,h⟩:=h
 refine⟨ks,ha,.inr ?_⟩
 rcases h with h | h
 . rw[vK,h,ZD,ZD,List.map_append]
   . rfl
   . rw[h]
     intro z
     obtain⟨x,hx,e⟩:=List.mem_map.mp z
     have e':=V1 e
     have:=ha.lt x hx
     rw[e']at this
     omega
 . rw[yM,h]
   rw[h]
   exact List.mem_map.mpr ⟨(i,j),by simp,rfl⟩
theorem ux.len {m i j:Nat} {kvs:List (List qS×V)} (h:ux m i j kvs):kvs.length<=i*m+j+1:=by
 obtain⟨ks,ha,h⟩:=h
 have hl:=ha.len
 rcases h with h | h
 . have:=congrArg List.length h
   simp only[List.length_map]at this
   omega
 . have:=congrArg List.length h
   simp only[List.length_map,List.length_append,List.length_singleton]at this
   omega
theorem xv {i m:Nat} (hi:i<=m) (hm:m<=14):i*m<=196:=Nat.le_trans (Nat.mul_le_mul (Nat.le_trans hi hm) hm) (by decide)
theorem KC (xs:List V):Ju xs none (some 40)=xs.take 40:=by
 unfold Ju
 have e1:HT.sIx xs.length 0 none=0:=rfl
 have e2:HT.sIx xs.length xs.length (some 40)=min 40 xs.length:=by
   simp [HT.sIx]
 rw[e1,e2,List.drop_zero,Nat.sub_zero]
 by_cases h:40<=xs.length
 . rw[Nat.min_eq_left h]
 . rw[Nat.min_eq_right (by omega),List.take_of_length_le (Nat.le_refl _),List.take_of_length_le (by omega)]
def Js (H:Hp) (ps:List Addr) (ks:List (Nat×Nat)):Prop:=ps.length=ks.length/\∀(i:Nat) (p:Addr) (k:Nat×Nat),ps[i]?=some p->ks[i]?=some k->H p=some (.tup [.int (k.1:Nat),.int (k.2:Nat)])
def W4:Sp:=λvs H Q _=>∃(d:Addr) (m:Nat) (n s t sh lo:Int),vs=[.ref d,.int m,.int sh,.int lo]/\H d=some (.dK (src n s t))/\m<=14/\
 ∀(l:Addr) (ps:List Addr) (ks:List (Nat×Nat)) (n' t':Int) (H':Hp),H l=none->H' l=some (.lst (ps.map V.ref))->Js H' ps ks->ks.Pairwise xI->(∀x∈ks,x.1 < m/\x.2 < m)->ks.length<=40->H' d=some (.dK (src n' s t'))->Fr H d H'->Q (.ref l) H'
section
variable {P:Program} {w:World} {K:PySem.W.Frag} {mg:Str->Option Value} {base:Heap}
abbrev wJ:List Str:=["_law_source_here","_law_many","_law_shape","_law_low","_law_pairs","_law_k","_law_j","_law_way"]
abbrev zu:List Str:=["_law_source_here","_law_many","_law_shape","_law_low"]
theorem JX:qy wJ zu (qi zi):=⟨rfl,rfl,rfl,by decide+kernel,rfl,by decide+kernel,by decide+kernel⟩
theorem vx {f fT:Addr} {fd fdT:FuncData} (F:j3 K "_law_leads" "_law_leads" zi f fd) (B:JN mg) (hso:mg "sorted"=none) (hT:jx K mg "_law_take" Jx ["_law_source_here","_law_many"] fT fdT):qv P w K mg base jd 2 f fd zu W4:=by
 have GT:qv P w K mg base jd 1 fT fdT ["_law_source_here","_law_many"] QL:=QQ hT.fn
 refine F.okJ JX (λvs H Q E h=>?_) (λcdv A outer s H vs Q E hr h=>?_)
 . obtain⟨d,m,n,sd,t,sh,lo,rfl,_⟩:=h
   rfl
 . obtain⟨d,m,n,sd,t,sh,lo,rfl,hd,hm,q⟩:=h
   have hu:=zI hr
   refine⟨_,qh (qx (i:=4) JX.nd rfl (Or.inl rfl) vT)
     (qh (jr PassesOwn.never rfl (jQ (by rfl) B.rng (qb (jv 1) qg)) (qz (i:=5) JX.nd rfl (Or.inl rfl))
       (qm (jr PassesOwn.never rfl (jQ (by rfl) B.rng (qb (jv 1) qg)) (qz (i:=6) JX.nd rfl (Or.inl rfl))
         (qh (qx (i:=7) JX.nd rfl (Or.inl rfl) (qQ hT GT hr (by rfl) (qb (jv 0) (qb ql qg))))
         (qh (q5 (Qb (qw Qr (jv 2) ql (qD _)) (jS (Q2 (Qb (qw j4 (jv 6) (jv 5) (qD _)) (jS (qw j4 (jv 7) ql (qD _)))).pt (Qm (Qb (qw vn (jv 6) (jv 5) (qD _)) (jS (qw j4 (jv 7) ql (qD _)))).pt)).pt)).pt
           (qm (jZ hu (jv 4) (jm (qb (jv 5) (qb (jv 6) qg))) Q3 rfl)) qE)
         (qh (q5 (Qb (qw Qr (jv 2) ql (qD _)) (jS (qw j4 (jv 7) ql (qD _)))).pt
           (qm (jZ hu (jv 4) (jm (qb (jv 5) (qb (jv 6) qg))) Q3 rfl)) qE)
         (qh (q5 (Qb (qw Qr (jv 2) ql (qD _)) (jS (Q2 (Qb (qw Qr (jv 6) (qN Ql (qN j9 (jv 5) ql) (jv 1)) (qD _)) (jS (qw j4 (jv 7) ql (qD _)))).pt (Qm (qw j4 (jv 7) ql (qD _)))).pt)).pt
           (qm (jZ hu (jv 4) (jm (qb (jv 5) (qb (jv 6) qg))) Q3 rfl)) qE)
         (qh (q5 (Qb (qw Qr (jv 2) ql (qD _)) (Qb (qw j4 (jv 6) (jv 5) (qD _)) (jS (Q2 (qw j4 (jv 6) (jv 3) (qD _)) (Qm (qw j4 (jv 7) ql (qD _)))).pt))).pt
           (qm (jZ hu (jv 4) (jm (qb (jv 5) (qb (jv 6) qg))) Q3 rfl)) qE)
         (qm (q5 (Qb (qw Qr (jv 2) ql (qD _)) (jS (Q2 (Qb (qw j4 (jv 6) (jv 3) (qD _)) (jS (qw j4 (jv 6) (jv 5) (qD _)))).pt (Qm (Qb (qw vn (jv 5) (jv 3) (qD _)) (jS (qw j4 (jv 7) ql (qD _)))).pt)).pt)).pt
           (qm (jZ hu (jv 4) (jm (qb (jv 5) (qb (jv 6) qg))) Q3 rfl)) qE)))))))))
       )
     (qm (qJ (Qn JV (qr (WJ rfl) (by rfl) hso boot_sorted (qb (jv 4) qg)) QT (QS ql))))),?_⟩
   intro D hD
   have nDd:D≠d:=λe=>by rw[e,hd]at hD;cases hD
   refine⟨_,rfl,m,rfl,by omega,by omega,?_⟩
   refine QI (lo:=0) (n:=m) (λi σ' H'=>∃(v1 v2 v3:Option V) (n' t':Int) (kvs:List (List qS×V)) (ks:List (Nat×Nat)),σ'=[some (.ref d),some (.int m),some (.int sh),some (.int lo),some (.ref D),v1,v2,v3]/\
     H' d=some (.dK (src n' sd t'))/\H' D=some (.dT kvs)/\kvs.map (·.1)=ZD ks/\Q5 m i 0 ks/\Fr H d H')
     ⟨none,none,none,n,t,[],[],rfl,qp hd hD,qd,rfl,⟨.nil,λx hx=>(nomatch hx),Nat.zero_le _⟩,Fr.refl.new hD⟩ ?_ ?_
   . rintro i σ' H' hi ⟨v1,v2,v3,n',t',kvs,ks,rfl,hd',hD',ek,ha,fr⟩
     rw[Int.zero_add]
     refine⟨_,rfl,m,rfl,by omega,by omega,?_⟩
     refine QI (lo:=0) (n:=m) (λj σ' H'=>∃(v2 v3:Option V) (n' t':Int) (kvs:List (List qS×V)) (ks:List (Nat×Nat)),σ'=[some (.ref d),some (.int m),some (.int sh),some (.int lo),some (.ref D),some (.int i),v2,v3]/\
       H' d=some (.dK (src n' sd t'))/\H' D=some (.dT kvs)/\kvs.map (·.1)=ZD ks/\Q5 m i j ks/\Fr H d H')
       ⟨_,_,n',t',kvs,ks,rfl,hd',hD',ek,ha,fr⟩ ?_ ?_
     . rintro j σ' H2 hj ⟨v2,v3,n2,t2,kvs,ks,rfl,hd2,hD2,ek,ha,fr⟩
       rw[Int.zero_add]
       refine⟨_,rfl,d,12,n2,sd,t2,rfl,hd2,by decide,by decide,λr n3 t3 r0 r1=>?_⟩
       have hsq:=xv (Nat.le_of_lt hi) hm
       let G:Hp->Prop:=λH'=>∃(kvs:List (List qS×V)),H' d=some (.dK (src n3 sd t3))/\H' D=some (.dT kvs)/\ux m i j kvs/\Fr H d H'
       have g0:G (upd H2 d (.dK (src n3 sd t3))):=⟨kvs,qd,(by rw[qe nDd];exact hD2),⟨ks,ha,.inl ek⟩,fr.at_d⟩
       have put:∀H',G H'->∀E:QB,(∀H',G H'->E.nx [some (.ref d),some (.int m),some (.int sh),some (.int lo),some (.ref D),some (.int i),some (.int j),some (.int r)] H')->
           xE (jH 4) (kQ (jC (jH 5) (jC (jH 6) JB))) (tC (.bl true)) E [some (.ref d),some (.int m),some (.int sh),some (.int lo),some (.ref D),some (.int i),some (.int j),some (.int r)] H':=by
         rintro H' ⟨kvs,h1,h2,h3,h4⟩ E k
         refine⟨_,rfl,_,rfl,_,rfl,by show 2<=sizeLine;decide,λp hp=>?_⟩
         have npd:p≠d:=λe=>by rw[e,h1]at hp;cases hp
         have npD:p≠D:=λe=>by rw[e,h2]at hp;cases hp
         refine⟨D,_,rfl,Zp.t (k:=ZL (up (i,j))) (kvs:=kvs) (by rw[qe (Ne.symm npD)];exact h2) qd (qt (by have:=h3.len;omega)),?_⟩
         refine k _ ⟨_,?_,qd,h3.put _,?_⟩
         . rw[qe (Ne.symm nDd),qe (Ne.symm npd)]
           exact h1
         . exact(h4.new hp).own hD
       refine zK ?_
       dsimp only[List.set]
       refine Z8 G g0 ?_ (put _ g0) λH3 g3=>?_
       . exact WM.and (λQ q=>⟨_,rfl,rfl,_,rfl,q _⟩) (.or (.and (λQ q=>⟨_,rfl,_,rfl,_,_,rfl,rfl,_,rfl,q _⟩) (λQ q=>⟨_,rfl,_,_,rfl,rfl,_,rfl,q _⟩)) (.and (λQ q=>⟨_,rfl,_,rfl,_,_,rfl,rfl,_,rfl,q _⟩) (λQ q=>⟨_,rfl,_,_,rfl,rfl,_,rfl,q _⟩)))
       refine Z8 G g3 ?_ (put _ g3) λH4 g4=>?_
       . exact WM.and (λQ q=>⟨_,rfl,rfl,_,rfl,q _⟩) (λQ q=>⟨_,rfl,_,_,rfl,rfl,_,rfl,q _⟩)
       refine Z8 G g4 ?_ (put _ g4) λH5 g5=>?_
       . exact WM.and (λQ q=>⟨_,rfl,rfl,_,rfl,q _⟩) (.or (.and (λQ q=>⟨_,rfl,_,rfl,_,_,rfl,rfl,_,rfl,_,_,rfl,rfl,(by show (0:Int) < m;omega),rfl,_,rfl,q _⟩) (λQ q=>⟨_,rfl,_,_,rfl,rfl,_,rfl,q _⟩)) (λQ q=>⟨_,rfl,_,_,rfl,rfl,_,rfl,q _⟩))
       refine Z8 G g5 ?_ (put _ g5) λH6 g6=>?_
       . exact WM.and (λQ q=>⟨_,rfl,rfl,_,rfl,q _⟩) (.and (λQ q=>⟨_,rfl,_,rfl,_,_,rfl,rfl,_,rfl,q _⟩) (.or (λQ q=>⟨_,rfl,_,rfl,_,_,rfl,rfl,_,rfl,q _⟩) (λQ q=>⟨_,rfl,_,_,rfl,rfl,_,rfl,q _⟩)))
       refine ke G g6 ?_ (put _ g6) λH7 g7=>?_
       . exact WM.and (λQ q=>⟨_,rfl,rfl,_,rfl,q _⟩) (.or (.and (λQ q=>⟨_,rfl,_,rfl,_,_,rfl,rfl,_,rfl,q _⟩) (λQ q=>⟨_,rfl,_,rfl,_,_,rfl,rfl,_,rfl,q _⟩)) (.and (λQ q=>⟨_,rfl,_,rfl,_,_,rfl,rfl,_,rfl,q _⟩) (λQ q=>⟨_,rfl,_,_,rfl,rfl,_,rfl,q _⟩)))
       obtain⟨kvs,h1,h2,⟨ks,ha,h3⟩,h4⟩:=g7
       rcases h3 with h3 | h3
       . exact⟨_,_,n3,t3,kvs,ks,rfl,h1,h2,h3,ha.more,h4⟩
       . exact⟨_,_,n3,t3,kvs,_,rfl,h1,h2,h3,ha.snoc hj,h4⟩
     . rintro σ' H2 ⟨v2,v3,n2,t2,kvs,ks,rfl,hd2,hD2,ek,ha,fr⟩
       exact⟨_,_,_,n2,t2,kvs,ks,rfl,hd2,hD2,ek,ha.row,fr⟩
   . rintro σ' H1 ⟨v1,v2,v3,n1,t1,kvs,ks,rfl,hd1,hD1,ek,ha,fr⟩
     have hl:kvs.length=ks.length:=by simpa using congrArg List.length ek
     have hsq:=xv (Nat.le_refl m) hm
     have hal:=ha.len
     refine⟨_,rfl,D,kvs,ks.map up,rfl,hD1,?_,?_,by omega,λl ps hfl lps tup=>?_⟩
     . rw[ek,List.map_map]
       rfl
     . intro i k k' e1 e2
       rw[List.getElem?_map]at e1 e2
       cases e3:ks[i]? with
       | none=>rw[e3]at e1;cases e1
       | some a=>
         cases e4:ks[i+1]? with
         | none=>rw[e4]at e2;cases e2
         | some b=>
           rw[e3]at e1
           rw[e4]at e2
           obtain rfl:=(Option.some.inj e1).symm
           obtain rfl:=(Option.some.inj e2).symm
           have h5:=List.pairwise_iff_getElem.mp ha.ord i (i+1) (List.getElem?_eq_some_iff.mp e3).1 (List.getElem?_eq_some_iff.mp e4).1 (Nat.lt_succ_self _)
           rw[(List.getElem?_eq_some_iff.mp e3).2,(List.getElem?_eq_some_iff.mp e4).2]at h5
           unfold xI at h5
           show zA _ _
           unfold zA
           show (a.1:Int) < b.1\/((a.1:Int)=b.1/\(a.2:Int) < b.2)
           omega
     . refine⟨40,rfl,l,_,rfl,.of qd,λl2 hl2=>?_⟩
       rw[KC,<-List.map_take]
       have n2d:l2≠d:=λe=>by
         rw[e,qp hd1 hfl]at hl2
         cases hl2
       have hl1:H1 l2=none:=by
         by_cases e:l2=l
         . rw[e];exact hfl
         . rw[qe e]at hl2;exact hl2
       have fr2:=(fr.new (o:=.lst (ps.map V.ref)) hfl).new (o:=.lst ((ps.take 40).map V.ref)) hl2
       refine q l2 (ps.take 40) (ks.take 40) n1 t1 _ (fr.fresh hd1 hl1) qd ⟨?_,λi p k e1 e2=>?_⟩ ?_ ?_ ?_ ?_ fr2
       . rw[List.length_take,List.length_take,lps,List.length_map]
       . have i40:i < 40:=by
           have:=(List.getElem?_eq_some_iff.mp e1).1
           rw[List.length_take]at this
           omega
         rw[List.getElem?_take_of_lt i40]at e1 e2
         have h1:=tup i p (up k) e1 (by rw[List.getElem?_map,e2];rfl)
         exact qp (qp h1 hfl) hl2
       . exact ha.ord.sublist (List.take_sublist _ _)
       . intro x hx
         have:=ha.lt x (List.mem_of_mem_take hx)
         omega
       . rw[List.length_take]
         omega
       . exact qp (qp hd1 hfl) hl2
end
end Rh
set_option Elab.async false
set_option linter.all false
set_option maxRecDepth 100000
set_option maxHeartbeats 4000000
namespace Rh
open PySem L2 PyProof.Rows
structure qF (rs:List (Str×List Str)):Prop where
 nm:∀r∈rs,qK r.1=true
 nd:(rs.map (·.1)).Nodup
 to:∀r∈rs,∀z∈r.2,z∈rs.map (·.1)
 rd:∀r∈rs,r.2.Nodup
 few:(rs.map λr=>r.2.length).sum<=40
def za (zs:List Str) (j:Nat):Str:=zs.getD j ⟨#[]⟩
theorem ZX {zs:List Str} {j:Nat} (h:j < zs.length):za zs j∈zs:=by
 unfold za
 rw[List.getD_eq_getElem?_getD,List.getElem?_eq_getElem h]
 exact List.getElem_mem h
theorem JP {zs:List Str} {j:Nat} (h:j < zs.length):zs[j]?=some (za zs j):=by
 unfold za
 rw[List.getD_eq_getElem?_getD,List.getElem?_eq_getElem h]
 rfl
theorem WS {zs:List Str} (hn:zs.Nodup) {i j:Nat} (hi:i < zs.length) (hj:j < zs.length) (h:za zs i=za zs j):i=j:=by
 have h1:=JP hi
 have h2:=JP hj
 rw[h,<-h2,List.getElem?_eq_getElem hi,List.getElem?_eq_getElem hj]at h1
 have e:zs[i]=zs[j]:=Option.some.inj h1
 rcases Nat.lt_trichotomy i j with l | l | l
 . exact absurd e (List.pairwise_iff_getElem.mp hn i j hi hj l)
 . exact l
 . exact absurd e.symm (List.pairwise_iff_getElem.mp hn j i hj hi l)
theorem Jn {α β:Type} {f:α->β}:∀{l:List α},l.Nodup->(∀a∈l,∀b∈l,f a=f b->a=b)->(l.map f).Nodup
 | [],_,_=>List.nodup_nil
 | a::l,h,k=>by
   rw[List.map_cons,List.nodup_cons]
   rw[List.nodup_cons]at h
   refine⟨λz=>?_,Jn h.2 λx hx y hy=>k x (List.mem_cons_of_mem _ hx) y (List.mem_cons_of_mem _ hy)⟩
   obtain⟨b,hb,e⟩:=List.mem_map.mp z
   have:=k b (List.mem_cons_of_mem _ hb) a (List.mem_cons_self) e
   subst this
   exact h.1 hb
def z7 (ks:List (Nat×Nat)) (k:Nat):List Nat:=(ks.filter λx=>decide (x.1=k)).map (·.2)
theorem VJ {ks:List (Nat×Nat)} (h:ks.Pairwise xI) (k:Nat):(z7 ks k).Nodup:=by
 have h1:(ks.filter λx=>decide (x.1=k)).Pairwise xI:=h.sublist (List.filter_sublist)
 refine List.pairwise_map.mpr (List.Pairwise.imp_of_mem (λ{a b} ha hb r=>?_) h1)
 have e1:a.1=k:=of_decide_eq_true (List.mem_filter.mp ha).2
 have e2:b.1=k:=of_decide_eq_true (List.mem_filter.mp hb).2
 unfold xI at r
 omega
theorem Wa {ks:List (Nat×Nat)} {m:Nat} (h:∀x∈ks,x.1 < m/\x.2 < m) (k:Nat):∀j∈z7 ks k,j < m:=λj hj=>by
 obtain⟨x,hx,e⟩:=List.mem_map.mp hj
 have:=(h x (List.mem_filter.mp hx).1).2
 omega
theorem kZ (os:List Nat) (f g:Nat->Nat):(os.map λk=>f k+g k).sum=(os.map f).sum+(os.map g).sum:=by
 induction os with
 | nil=>rfl
 | cons a os ih=>
   simp only[List.map_cons,List.sum_cons,ih]
   omega
theorem kY {os:List Nat} (h:os.Nodup) (a:Nat):(os.map λk=>if a=k then 1 else 0).sum<=1:=by
 induction os with
 | nil=>exact Nat.zero_le _
 | cons b os ih=>
   rw[List.nodup_cons]at h
   rw[List.map_cons,List.sum_cons]
   by_cases e:a=b
   . subst e
     have z:(os.map λk=>if a=k then 1 else 0)=os.map λ_=>0:=List.map_congr_left λk hk=>by
       rw[if_neg]
       intro e
       subst e
       exact h.1 hk
     rw[z,if_pos rfl]
     have:(os.map λ_=>0).sum=0:=by
       clear z ih h
       induction os with
       | nil=>rfl
       | cons c os ih=>rw[List.map_cons,List.sum_cons,ih]
     omega
   . rw[if_neg e]
     have:=ih h.2
     omega
theorem WV {os:List Nat} (h:os.Nodup):∀ks:List (Nat×Nat),(os.map λk=>(z7 ks k).length).sum<=ks.length
 | []=>by
   have:(os.map λk=>(z7 [] k).length).sum=0:=by
     clear h
     induction os with
     | nil=>rfl
     | cons c os ih=>rw[List.map_cons,List.sum_cons,ih];rfl
   omega
 | x::ks=>by
   have e:(os.map λk=>(z7 (x::ks) k).length)=os.map λk=>(if x.1=k then 1 else 0)+(z7 ks k).length:=List.map_congr_left λk _=>by
     unfold z7
     rw[List.filter_cons]
     by_cases z:x.1=k
     . rw[if_pos (decide_eq_true z),if_pos z]
       simp only[List.map_cons,List.length_cons]
       omega
     . rw[if_neg (by simpa using z),if_neg z,Nat.zero_add]
   rw[e,kZ,List.length_cons]
   have:=kY h x.1
   have:=WV h ks
   omega
def QF (zs:List Str) (ks:List (Nat×Nat)) (ab:Bool) (k:Nat):Str×List Str:=
 (za zs k,if ab=true then ((z7 ks k).map (za zs)).reverse else (z7 ks k).map (za zs))
theorem VR {zs:List Str} {ks:List (Nat×Nat)} {ab:Bool} {k:Nat} {z:Str}:z∈(QF zs ks ab k).2↔z∈(z7 ks k).map (za zs):=by
 unfold QF
 cases ab
 . rw[if_neg Bool.false_ne_true]
 . rw[if_pos rfl,List.mem_reverse]
theorem VS {zs:List Str} {ks:List (Nat×Nat)} {ab:Bool} {k:Nat}:(QF zs ks ab k).2.length=(z7 ks k).length:=by
 unfold QF
 cases ab
 . rw[if_neg Bool.false_ne_true,List.length_map]
 . rw[if_pos rfl,List.length_reverse,List.length_map]
structure XU (m:Nat) (os:List Nat):Prop where
 len:os.length=m
 nd:os.Nodup
 lt:∀k∈os,k < m
 all:∀j,j < m->j∈os
theorem Us {zs:List Str} {ks:List (Nat×Nat)} {os:List Nat} {m:Nat} (ab:Bool) (hz:zs.length=m) (hN:∀z∈zs,qK z=true) (hd:zs.Nodup) (hk:ks.Pairwise xI) (hl:∀x∈ks,x.1 < m/\x.2 < m) (h40:ks.length<=40) (ho:XU m os):
   qF (os.map (QF zs ks ab)):=by
 have e1:(os.map (QF zs ks ab)).map (·.1)=os.map (za zs):=by rw[List.map_map];rfl
 have inj:∀a∈os,∀b∈os,za zs a=za zs b->a=b:=λa ha b hb e=>WS hd (by rw[hz];exact ho.lt a ha) (by rw[hz];exact ho.lt b hb) e
 refine⟨λr hr=>?_,?_,λr hr z hz'=>?_,λr hr=>?_,?_⟩
 . obtain⟨k,hk',rfl⟩:=List.mem_map.mp hr
   exact hN _ (ZX (by rw[hz];exact ho.lt k hk'))
 . rw[e1]
   exact Jn ho.nd inj
 . obtain⟨k,hk',rfl⟩:=List.mem_map.mp hr
   rw[VR]at hz'
   obtain⟨j,hj,rfl⟩:=List.mem_map.mp hz'
   rw[e1]
   exact List.mem_map.mpr ⟨j,ho.all j (Wa hl k j hj),rfl⟩
 . obtain⟨k,hk',rfl⟩:=List.mem_map.mp hr
   have h1:((z7 ks k).map (za zs)).Nodup:=Jn (VJ hk k) λa ha b hb e=>WS hd (by rw[hz];exact Wa hl k a ha) (by rw[hz];exact Wa hl k b hb) e
   show (if ab=true then _ else _:List Str).Nodup
   cases ab
   . rw[if_neg Bool.false_ne_true]
     exact h1
   . rw[if_pos rfl]
     exact List.pairwise_reverse.mpr (h1.imp λh=>Ne.symm h)
 . have e2:((os.map (QF zs ks ab)).map λr=>r.2.length)=os.map λk=>(z7 ks k).length:=by
     rw[List.map_map]
     exact List.map_congr_left λk _=>VS
   rw[e2]
   exact Nat.le_trans (WV ho.nd ks) h40
theorem vm (m:Nat):XU m (List.range m):=⟨List.length_range,List.nodup_range,λk h=>List.mem_range.mp h,λj h=>List.mem_range.mpr h⟩
theorem Wt (m:Nat):XU m (Zl m):=⟨by rw[Zl,List.length_reverse,List.length_range],List.pairwise_reverse.mpr (List.nodup_range.imp λh=>Ne.symm h),λk h=>List.mem_range.mp (List.mem_reverse.mp h),λj h=>List.mem_reverse.mpr (List.mem_range.mpr h)⟩
def ZP (m:Nat):List Nat:=(List.range m).map λk=>k*5 % m
theorem Uu:∀m,m < 15->(ZP m).Nodup->∀j,j < m->j∈ZP m:=by decide+kernel
theorem Xp {m:Nat} (hm:m<=14) (h0:0 < m) (h:(ZP m).Nodup):XU m (ZP m):=
 ⟨by rw[ZP,List.length_map,List.length_range],h,λk hk=>by obtain⟨x,_,rfl⟩:=List.mem_map.mp hk;exact Nat.mod_lt _ h0,Uu m (by omega) h⟩
theorem Ye (val:Nat->Int):∀i,(firstMet val i).length=i->((List.range i).map val).Nodup
 | 0,_=>List.nodup_nil
 | i+1,h=>by
   have h1:=firstMet_any val i (val i)
   have h2:=firstMet_length_le val i
   rw[firstMet_succ]at h
   unfold step_dedup at h
   split at h
   . omega
   . rename_i z
     rw[List.length_append,List.length_singleton]at h
     rw[List.range_succ,List.map_append,List.nodup_append]
     refine⟨Ye val i (by omega),by simp,λa ha b hb e=>?_⟩
     have eb:b=val i:=by simpa using hb
     subst eb
     subst e
     refine z ?_
     rw[h1,List.any_eq_true]
     exact⟨_,ha,by simp⟩
theorem wL {os:List Nat} (h:¬(firstMet (λi=>(os.map λk=>((k:Nat):Int)).getD i 0) (os.map λk=>((k:Nat):Int)).length).length < os.length):os.Nodup:=by
 have h1:=firstMet_length_le (λi=>(os.map λk=>((k:Nat):Int)).getD i 0) (os.map λk=>((k:Nat):Int)).length
 have h2:=Ye (λi=>(os.map λk=>((k:Nat):Int)).getD i 0) (os.map λk=>((k:Nat):Int)).length (by rw[List.length_map]at h1 h ⊢;omega)
 have e:(List.range (os.map λk=>((k:Nat):Int)).length).map (λi=>(os.map λk=>((k:Nat):Int)).getD i 0)=os.map λk=>((k:Nat):Int):=by
   refine List.ext_getElem? λi=>?_
   rw[List.getElem?_map]
   by_cases hi:i < (os.map λk=>((k:Nat):Int)).length
   . rw[List.getElem?_range hi,List.getElem?_eq_getElem hi]
     simp only[Option.map_some,List.getD_eq_getElem?_getD,List.getElem?_eq_getElem hi,Option.getD_some]
   . rw[List.getElem?_eq_none (by rw[List.length_range];omega),List.getElem?_eq_none (by omega)]
     rfl
 rw[e]at h2
 refine(List.pairwise_map.mp h2).imp λh e=>h (by rw[e])
end Rh
set_option Elab.async false
set_option linter.all false
set_option maxRecDepth 100000
set_option maxHeartbeats 4000000
namespace Rh
open PySem L2 PyProof.Rows
def ju (H:Hp) (ps:List Addr) (rs:List (Str×List Str)):Prop:=ps.length=rs.length/\∀(i:Nat) (p:Addr) (r:Str×List Str),ps[i]?=some p->rs[i]?=some r->∃q,H p=some (.tup [.str r.1,.ref q])/\H q=some (.tup (r.2.map V.str))
def UR:Sp:=λvs H Q _=>∃(d:Addr) (mo:Nat) (n s t:Int),vs=[.ref d,.int mo]/\H d=some (.dK (src n s t))/\0 < mo/\mo<=14/\
 ∀(l:Addr) (ps:List Addr) (rs:List (Str×List Str)) (n' t':Int) (H':Hp),H l=none->H' l=some (.lst (ps.map V.ref))->ju H' ps rs->qF rs->0 < rs.length->rs.length<=mo->H' d=some (.dK (src n' s t'))->Fr H d H'->Q (.ref l) H'
structure Qd (mg:Str->Option Value):Prop where
 srt:mg "sorted"=none
 lst:mg "list"=none
 rev:mg "reversed"=none
 set:mg "set"=none
 tup:mg "tuple"=none
theorem ju.mono {H H':Hp} {ps:List Addr} {rs:List (Str×List Str)} (h:ju H ps rs) (s:Same H H'):ju H' ps rs:=⟨h.1,λi p r e1 e2=>let ⟨q,a,b⟩:=h.2 i p r e1 e2;⟨q,s _ _ a,s _ _ b⟩⟩
theorem Js.mono {H H':Hp} {ps:List Addr} {ks:List (Nat×Nat)} (h:Js H ps ks) (s:Same H H'):Js H' ps ks:=⟨h.1,λi p k e1 e2=>s _ _ (h.2 i p k e1 e2)⟩
theorem Fr.same {H H' H'':Hp} {d:Addr} (h:Fr H d H') (s:Same H' H''):Fr H d H'':=λb u hb hn=>s _ _ (h b u hb hn)
theorem ju.snoc {H:Hp} {ps:List Addr} {rs:List (Str×List Str)} (h:ju H ps rs) {p q:Addr} {r:Str×List Str} (hp:H p=some (.tup [.str r.1,.ref q])) (hq:H q=some (.tup (r.2.map V.str))):ju H (ps++[p]) (rs++[r]):=by
 refine⟨by rw[List.length_append,List.length_append,h.1];rfl,λi p' r' e1 e2=>?_⟩
 by_cases hi:i < ps.length
 . rw[List.getElem?_append_left hi]at e1
   rw[List.getElem?_append_left (by rw[<-h.1];exact hi)]at e2
   exact h.2 i p' r' e1 e2
 . have hi':i=ps.length:=by
     have:=(List.getElem?_eq_some_iff.mp e1).1
     rw[List.length_append,List.length_singleton]at this
     omega
   subst hi'
   rw[List.getElem?_append_right (Nat.le_refl _),Nat.sub_self]at e1
   rw[h.1,List.getElem?_append_right (Nat.le_refl _),Nat.sub_self]at e2
   obtain rfl:=(Option.some.inj e1).symm
   obtain rfl:=(Option.some.inj e2).symm
   exact⟨q,hp,hq⟩
theorem ju.upd_lst {H:Hp} {ps:List Addr} {rs:List (Str×List Str)} {l:Addr} {xs:List V} {o:HO} (h:ju H ps rs) (hl:H l=some (.lst xs)):ju (upd H l o) ps rs:=by
 refine⟨h.1,λi p r e1 e2=>?_⟩
 obtain⟨q,a,b⟩:=h.2 i p r e1 e2
 refine⟨q,?_,?_⟩
 . rw[qe (λe=>by rw[e,hl]at a;cases a)]
   exact a
 . rw[qe (λe=>by rw[e,hl]at b;cases b)]
   exact b
theorem WC {tc:TT} {tp u:TS} {D:QB} {σ:L2.St} {H0:Hp} (R:Bool->Hp->Prop) (G:L2.St->Hp->Prop) (ht:∀Q:Bool->Hp->Prop,(∀b H1,R b H1->Q b H1)->tc σ H0 Q)
   (hT:∀H1,R true H1->∀D':QB,(∀σ' H',G σ' H'->D'.nx σ' H')->tp D' σ H1) (hF:∀H1,R false H1->G σ H1) (k:∀σ' H',G σ' H'->u D σ' H'):kR (kU tc tp WX) u D σ H0:=
 ht _ λb H1 r=>by
   cases b
   . exact jI (k _ _ (hF _ r))
   . exact Q6 (hT _ r _ k)
theorem xn {zs:List Str} {j:Nat} (h:j < zs.length):Y2 (zs.map V.str) ((j:Nat):Int)=some (V.str (za zs j)):=Qu (by rw[List.getElem?_map,JP h];rfl)
theorem UJ {ks:List (Nat×Nat)} {j:Nat} {x:Nat×Nat} (k:Nat) (h:ks[j]?=some x):z7 (ks.take (j+1)) k=z7 (ks.take j) k++if x.1=k then [x.2] else []:=by
 unfold z7
 rw[List.take_add_one,h,List.filter_append,List.map_append]
 congr 1
 by_cases e:x.1=k
 . rw[if_pos e]
   simp [e]
 . rw[if_neg e]
   simp [e]
abbrev oL (os:List Nat):List V:=os.map λk=>V.int ((k:Nat):Int)
theorem yG (os:List Nat):oL os=(os.map λk=>((k:Nat):Int)).map V.int:=by rw[List.map_map];rfl
section
variable {P:Program} {w:World} {K:PySem.W.Frag} {mg:Str->Option Value} {base:Heap}
abbrev Ke:List Str:=["_law_source_here","_law_most","_law_many","_law_names_here","_law_shape","_law_pairs","_law_about","_law_order","_law_rows_here","_law_k","_law_leads_here"]
theorem j8:qy Ke ["_law_source_here","_law_most"] (qi W7):=⟨rfl,rfl,rfl,by decide+kernel,rfl,by decide+kernel,by decide+kernel⟩
abbrev KF:List Str:=["_law_one","_law_j","_law_k","_law_names_here"]
theorem VA:KF.Nodup:=by decide+kernel
theorem yy {f fT fN fL:Addr} {fd fdT fdN fdL:FuncData} (F:j3 K "_law_rows" "_law_rows" W7 f fd) (B:JN mg) (G:Qd mg) (hT:jx K mg "_law_take" Jx ["_law_source_here","_law_many"] fT fdT)
   (hN:jx K mg "_law_names" zh ["_law_source_here","_law_many"] fN fdN) (hL:jx K mg "_law_leads" zi zu fL fdL):qv P w K mg base jd 3 f fd ["_law_source_here","_law_most"] UR:=by
 have GT:qv P w K mg base jd 1 fT fdT ["_law_source_here","_law_many"] QL:=QQ hT.fn
 have GN:qv P w K mg base jd 2 fN fdN ["_law_source_here","_law_many"] W2:=vt hN.fn B hT
 have GL:qv P w K mg base jd 2 fL fdL zu W4:=vx hL.fn B G.srt hT
 refine F.okJ j8 (λvs H Q E h=>?_) (λcdv A outer s H vs Q E hr h=>?_)
 . obtain⟨d,m,n,sd,t,rfl,_⟩:=h
   rfl
 . obtain⟨d,mo,n,sd,t,rfl,hd,hmo,hm14,q⟩:=h
   have r1:ja 1 _:=hr.mono (by decide)
   refine⟨_,qh (qx (i:=2) j8.nd rfl (Or.inr rfl) (qN j9 ql (qQ hT GT r1 (by rfl) (qb (jv 0) (qb (jv 1) qg)))))
     (qh (qx (i:=3) j8.nd rfl (Or.inr rfl) (qQ hN GN hr (by rfl) (qb (jv 0) (qb (jv 2) qg))))
     (qh (qx (i:=4) j8.nd rfl (Or.inl rfl) (qQ hT GT r1 (by rfl) (qb (jv 0) (qb ql qg))))
     (qh (qx (i:=5) j8.nd rfl (Or.inl rfl) (qQ hL GL hr (by rfl) (qb (jv 0) (qb (jv 2) (qb (jv 4) (qb (qN j9 ql (qQ hT GT r1 (by rfl) (qb (jv 0) (qb ql qg)))) qg))))))
     (qh (qx (i:=6) j8.nd rfl (Or.inl rfl) (Qt Qr (qQ hT GT r1 (by rfl) (qb (jv 0) (qb ql qg))) ql (qD _)))
     (qh (qx (i:=7) j8.nd rfl (Or.inl rfl) (Kq rfl (by rfl) G.lst (by rfl) B.rng (jv 2)))
     (qh (q5 (jq (jv 6)) (qm (Zg (i:=7) (N':=["_law_k","_law_many"]) (ix:=[none,some 2]) j8.nd rfl (Or.inl rfl) rfl ⟨rfl,rfl,rfl,rfl,rfl⟩ (jQ (by rfl) B.rng (qb (jv 2) qg))
         (λC s2 H2 fp pins=>⟨qz (i:=0) (show (["_law_k","_law_many"]:List Str).Nodup by decide+kernel) rfl (Or.inl rfl),Qf,qN Ql (qN QP (jv 0) ql) (jv 1)⟩))) qE)
     (qh (q5 (qw j4 (qr XM (by rfl) B.len boot_len (qb (qM (Uz rfl) (by rfl) G.set boot_set (qb (jv 7) qg)) qg)) (jv 2) (qD _))
         (qm (qx (i:=7) j8.nd rfl (Or.inl rfl) (wU rfl (by rfl) G.lst (by rfl) G.rev (by rfl) B.rng (jv 2)))) qE)
     (qh (qx (i:=8) j8.nd rfl (Or.inl rfl) (jl qg))
     (qh (jr PassesOwn.never rfl (jk (jv 7)) (qz (i:=9) j8.nd rfl (Or.inr rfl))
       (qh (Zg (i:=10) (N':=KF) (ix:=[none,none,some 9,some 3]) (g:=wW K 2 (XB (QH 0) (XB (QH 1) wX))) (te:=XY (yk K) (jH 3) (jH 1)) j8.nd rfl (Or.inl rfl) rfl ⟨rfl,rfl,rfl,rfl,rfl⟩ (jk (jv 5))
           (λC s2 H2 fp pins=>⟨JK rfl (qZ (qz (i:=0) VA rfl (Or.inl rfl)) (qZ (qz (i:=1) VA rfl (Or.inl rfl)) Qg)),
             Z3 (qw Qr (jv 0) (jv 2) (qD _)),qP qW (jv 3) (jv 1) (λ_ _=>rfl)⟩))
       (qh (q5 (jq (jv 6)) (qm (qV (vV PySem.F.plainAttrs_list PySem.F.slot_list_reverse PySem.F.type_list_reverse Wv (jv 10)))) qE)
       (qm (qV (Jh PySem.F.plainAttrs_list PySem.F.slot_list_append PySem.F.type_list_append jA (jv 8) (qb
         (jm (qb (qP qW (jv 3) (jv 9) (λ_ _=>rfl)) (qb (qM QA (by rfl) G.tup boot_tuple (qb (jv 10) qg)) qg))) qg)))))))
     (qm (qJ (jv 8)))))))))))),?_⟩
   refine⟨_,rfl,_,rfl,d,mo,n,sd,t,rfl,hd,by omega,by omega,λr n1 t1 r0 r1=>⟨_,_,rfl,rfl,?_⟩⟩
   obtain⟨m,em,m0,m1⟩:∃m:Nat,1+r=(m:Int)/\0 < m/\m<=mo:=⟨(1+r).toNat,by omega,by omega,by omega⟩
   have em':(λi j:Int=>V.int (i+j)) 1 r=V.int (m:Int):=congrArg V.int em
   rw[em']
   refine⟨_,rfl,_,rfl,d,m,n1,sd,t1,rfl,qd,by omega,λlz zs n2 t2 H2 hlz hlz' zl zn znd hd2 fr2=>?_⟩
   have fr2:Fr H d H2:=Fr.refl.at_d.trans fr2
   refine⟨_,rfl,d,5,n2,sd,t2,rfl,hd2,by decide,by decide,λsh n3 t3 _ _=>?_⟩
   refine⟨_,rfl,_,rfl,_,rfl,_,rfl,d,5,n3,sd,t3,rfl,qd,by decide,by decide,λlw n4 t4 _ _=>⟨_,_,rfl,rfl,d,m,n4,sd,t4,sh,1+lw,rfl,qd,by omega,λlp ps ks n5 t5 H5 hlp hlp' pat kord klt k40 hd5 fr5=>?_⟩⟩
   have nzd:lz≠d:=λe=>by rw[e,qd]at hlz;cases hlz
   have hz5:H5 lz=some (.lst (zs.map V.str)):=fr5 _ _ (by rw[qe nzd,qe nzd];exact hlz') nzd
   have fr5:Fr H d H5:=fr2.at_d.at_d.trans fr5
   refine⟨_,rfl,d,2,n5,sd,t5,rfl,hd5,by decide,by decide,λab n6 t6 _ _=>⟨rfl,?_⟩⟩
   generalize decide (V.int ab=V.int 1)=b
   have npd:lp≠d:=λe=>by rw[e,qd]at hlp;cases hlp
   have fr6:Fr H d (upd H5 d (.dK (src n6 sd t6))):=fr5.at_d
   have hd6:upd H5 d (.dK (src n6 sd t6)) d=some (.dK (src n6 sd t6)):=qd
   have hz6:upd H5 d (.dK (src n6 sd t6)) lz=some (.lst (zs.map V.str)):=by rw[qe nzd];exact hz5
   have hp6:upd H5 d (.dK (src n6 sd t6)) lp=some (.lst (ps.map V.ref)):=by rw[qe npd];exact hlp'
   have pat6:Js (upd H5 d (.dK (src n6 sd t6))) ps ks:=⟨pat.1,λi p k e1 e2=>by
     have h1:=pat.2 i p k e1 e2
     have:p≠d:=λe=>by rw[e,hd5]at h1;cases h1
     rw[qe this]
     exact h1⟩
   generalize upd H5 d (.dK (src n6 sd t6))=H6 at fr6 hd6 hz6 hp6 pat6
   refine⟨_,rfl,m,rfl,by omega,λlo hlo=>?_⟩
   refine zK ?_
   dsimp only[List.set]
   refine WC (λc H'=>c=b/\H'=upd H6 lo (.lst (xo m))) (λσ' H'=>∃lo os,σ'=[some (.ref d),some (.int mo),some (.int m),some (.ref lz),some (.int sh),some (.ref lp),some (.bl b),some (.ref lo),none,none,none]/\Same H6 H'/\H6 lo=none/\H' lo=some (.lst (oL os))/\(os=List.range m\/os=ZP m))
     (λQ k=>⟨_,rfl,b,rfl,k _ _ ⟨rfl,rfl⟩⟩) ?_ ?_ ?_
   . rintro H1 ⟨rfl,rfl⟩ D' k
     refine⟨_,rfl,m,rfl,by omega,by omega,λD hD=>?_⟩
     refine ZH (λi σ' H'=>∃v:Option V,σ'=[v,some (.int m)]/\H'=upd (upd H6 lo (.lst (xo m))) D (.lst (oL ((List.range i).map λk=>k*5 % m)))) ⟨none,rfl,rfl⟩ ?_ ?_
     . rintro i σ' H' hi ⟨v,rfl,rfl⟩
       rw[Int.zero_add]
       have hi:i < m:=by simpa using hi
       refine⟨_,rfl,_,_,rfl,rfl,.inl ⟨by omega,by omega⟩,_,rfl,_,_,rfl,rfl,(by show (0:Int) < m;omega),_,qd,?_,_,rfl,?_⟩
       . rw[List.length_map,List.length_map,List.length_range]
         exact qt (by omega)
       . rw[jJ,List.range_succ,List.map_append,oL,oL,List.map_append]
         rfl
     . rintro σ' H' ⟨v,rfl,rfl⟩
       have hD6:H6 D=none:=by
         by_cases e:D=lo
         . rw[e];exact hlo
         . rw[qe e]at hD;exact hD
       exact k _ _ ⟨D,ZP m,rfl,λa u h=>qp (qp h hlo) hD,hD6,qd,.inr rfl⟩
   . rintro H1 ⟨rfl,rfl⟩
     exact⟨lo,List.range m,rfl,qj hlo,hlo,qd,.inl rfl⟩
   rintro σ' H7 ⟨lo,os,rfl,s7,hlo6,hlo7,hos⟩
   have los:os.length=m:=by
     rcases hos with rfl | rfl
     . exact List.length_range
     . rw[ZP,List.length_map,List.length_range]
   refine WC (λc H'=>Same H7 H'/\(c=true\/os.Nodup)) (λσ' H'=>∃lo os,σ'=[some (.ref d),some (.int mo),some (.int m),some (.ref lz),some (.int sh),some (.ref lp),some (.bl b),some (.ref lo),none,none,none]/\Same H6 H'/\H' lo=some (.lst (oL os))/\XU m os)
     ?_ ?_ ?_ ?_
   . intro Q k
     refine⟨_,rfl,lo,os.map (λk=>((k:Nat):Int)),rfl,.of (by rw[<-yG];exact hlo7),by rw[List.length_map,los];omega,λl S hl=>?_⟩
     refine⟨l,S,_,rfl,qd,_,rfl,_,_,rfl,rfl,_,rfl,k _ _ ⟨qj hl,?_⟩⟩
     by_cases h:(((firstMet (λi=>(os.map λk=>((k:Nat):Int)).getD i 0) (os.map λk=>((k:Nat):Int)).length).length:Nat):Int) < (m:Int)
     . exact .inl (decide_eq_true h)
     . exact .inr (wL (by rw[los];omega))
   . rintro H1 ⟨s1,_⟩ D' k
     refine⟨_,rfl,m,rfl,by omega,λl hl=>?_⟩
     exact k _ _ ⟨l,Zl m,rfl,λa u h=>qp (s1 _ _ (s7 _ _ h)) hl,qd,Wt m⟩
   . rintro H1 ⟨s1,h⟩
     have h:os.Nodup:=h.resolve_left (by decide)
     refine⟨lo,os,rfl,λa u h=>s1 _ _ (s7 _ _ h),s1 _ _ hlo7,?_⟩
     rcases hos with rfl | rfl
     . exact vm m
     . exact Xp (by omega) m0 h
   rintro σ' H8 ⟨lo,os,rfl,s8,hlo8,ho⟩
   refine⟨by show 0<=sizeLine;decide,λlr hlr=>⟨_,rfl,lo,rfl,⟨_,.of (qp hlo8 hlr)⟩,?_⟩⟩
   refine jT (K:=K) (a:=lo) (xs:=oL os) (λi σ' H'=>∃(v9 v10:Option V) (qs:List Addr),σ'=[some (.ref d),some (.int mo),some (.int m),some (.ref lz),some (.int sh),some (.ref lp),some (.bl b),some (.ref lo),some (.ref lr),v9,v10]/\
     Same H8 H'/\H' lr=some (.lst (qs.map V.ref))/\ju H' qs ((os.take i).map (QF zs ks b)))
     ⟨none,none,[],rfl,qj hlr,qd,rfl,λi p r e=>(nomatch e)⟩ (λi σ' H' _ ⟨_,_,_,_,s,_⟩=>.of (s _ _ hlo8)) ?_ ?_
   . rintro i x σ' H' hx ⟨v9,v10,qs,rfl,s9,hlr9,rat⟩
     have hix:i < os.length:=by
       have:=(List.getElem?_eq_some_iff.mp hx).1
       rwa [List.length_map]at this
     obtain⟨k,hk⟩:∃k,os[i]?=some k:=⟨_,List.getElem?_eq_getElem hix⟩
     have ex:x=V.int ((k:Nat):Int):=by
       rw[List.getElem?_map,hk]at hx
       exact(Option.some.inj hx).symm
     subst ex
     have hkm:k < m:=ho.lt k (List.mem_of_getElem? hk)
     refine⟨_,rfl,lp,rfl,⟨_,.of (s9 _ _ (s8 _ _ hp6))⟩,λD hD=>?_⟩
     have nDr:D≠lr:=λe=>by rw[e,hlr9]at hD;cases hD
     have hz9:H' lz=some (.lst (zs.map V.str)):=s9 _ _ (s8 _ _ hz6)
     have pat9:Js H' ps ks:=pat6.mono λa u h=>s9 _ _ (s8 _ _ h)
     refine j6 (K:=K) (a:=lp) (xs:=ps.map V.ref) (λj σ'' H''=>∃v0 v1:Option V,σ''=[v0,v1,some (.int k),some (.ref lz)]/\H''=upd H' D (.lst (((z7 (ks.take j) k).map (za zs)).map V.str))) ⟨none,none,rfl,rfl⟩
       (λj σ'' G _ ⟨_,_,_,e⟩=>e▸.of (qp (s9 _ _ (s8 _ _ hp6)) hD)) ?_ ?_
     . rintro j y σ'' G hy ⟨v0,v1,rfl,rfl⟩
       have hj:j < ps.length:=by
         have:=(List.getElem?_eq_some_iff.mp hy).1
         rwa [List.length_map]at this
       obtain⟨p,hp⟩:∃p,ps[j]?=some p:=⟨_,List.getElem?_eq_getElem hj⟩
       obtain⟨kk,hkk⟩:∃p,ks[j]?=some p:=⟨_,List.getElem?_eq_getElem (by rw[<-pat9.1];exact hj)⟩
       have ey:y=V.ref p:=by
         rw[List.getElem?_map,hp]at hy
         exact(Option.some.inj hy).symm
       subst ey
       have hpt:=pat9.2 j p kk hp hkk
       have hk2:kk.2 < zs.length:=by rw[zl];exact(klt kk (List.mem_of_getElem? hkk)).2
       refine⟨p,_,rfl,.of (qp hpt hD),rfl,_,_,rfl,_,_,rfl,rfl,_,rfl,_,rfl,rfl,_,rfl,?_⟩
       rw[UJ k hkk]
       by_cases e:kk.1=k
       . have e1:decide (V.int ((kk.1:Nat):Int)=V.int ((k:Nat):Int))=true:=decide_eq_true (by rw[e])
         rw[e1,if_pos e]
         refine Q6 ⟨_,rfl,_,rfl,lz,_,_,_,rfl,rfl,.of (qp hz9 hD),xn hk2,_,qd,?_,_,_,rfl,?_⟩
         . rw[List.length_map,List.length_map]
           refine qt ?_
           have h1:(z7 (ks.take j) k).length<=(ks.take j).length:=by
             unfold z7
             rw[List.length_map]
             exact List.length_filter_le _ _
           rw[List.length_take]at h1
           omega
         . rw[jJ,List.map_append,List.map_append]
           rfl
       . have e1:decide (V.int ((kk.1:Nat):Int)=V.int ((k:Nat):Int))=false:=decide_eq_false (by
           intro z
           have:=V.int.inj z
           omega)
         rw[e1,if_neg e,List.append_nil]
         exact jI ⟨_,_,rfl,rfl⟩
     . rintro σ'' G ⟨v0,v1,rfl,rfl⟩
       rw[List.length_map,pat9.1,List.take_of_length_le (Nat.le_refl _)]
       refine zK ?_
       dsimp only[List.set]
       refine WC (λc G=>c=b/\G=upd H' D (.lst (((z7 ks k).map (za zs)).map V.str)))
         (λσ' G=>σ'=[some (.ref d),some (.int mo),some (.int m),some (.ref lz),some (.int sh),some (.ref lp),some (.bl b),some (.ref lo),some (.ref lr),some (.int k),some (.ref D)]/\G=upd H' D (.lst ((QF zs ks b k).2.map V.str)))
         (λQ k=>⟨_,rfl,b,rfl,k _ _ ⟨rfl,rfl⟩⟩) ?_ ?_ ?_
       . rintro H1 ⟨rfl,rfl⟩ D' kk
         refine⟨_,rfl,.inl ⟨rfl,_,.of qd⟩,D,_,rfl,rfl,qd,?_⟩
         refine kk _ _ ⟨rfl,?_⟩
         rw[jJ,QF,if_pos rfl,List.map_reverse]
       . rintro H1 ⟨rfl,rfl⟩
         exact⟨rfl,rfl⟩
       rintro σ' G ⟨rfl,rfl⟩
       have hlrG:upd H' D (.lst ((QF zs ks b k).2.map V.str)) lr=some (.lst (qs.map V.ref)):=by rw[qe (Ne.symm nDr)];exact hlr9
       have sG:Same H' (upd H' D (.lst ((QF zs ks b k).2.map V.str))):=qj hD
       refine⟨_,rfl,.inl ⟨rfl,_,.of hlrG⟩,_,rfl,_,rfl,lz,_,_,_,rfl,rfl,.of (sG _ _ hz9),xn (by rw[zl];exact hkm),_,rfl,D,_,rfl,.inl ⟨.of qd,λlq hq=>⟨by show 2<=sizeLine;decide,λlt hlt=>?_⟩⟩⟩
       have hqlr:=qp (o':=HO.tup ((QF zs ks b k).2.map V.str)) hlrG hq
       have htlr:=qp (o':=HO.tup [V.str (za zs k),V.ref lq]) hqlr hlt
       refine⟨lr,_,_,rfl,rfl,htlr,?_,_,_,qs++[lt],rfl,?_,?_,?_⟩
       . rw[List.length_map,rat.1,List.length_map,List.length_take]
         refine qt ?_
         have:=ho.len
         omega
       . exact Same.upd (λa u h=>qp (qp (sG _ _ (s9 _ _ h)) hq) hlt) hlr
       . rw[List.map_append]
         exact qd
       . have e:os.take (i+1)=os.take i++[k]:=by rw[List.take_add_one,hk];rfl
         rw[e,List.map_append]
         refine ju.upd_lst ?_ htlr
         exact ju.snoc (q:=lq) (rat.mono λa u h=>qp (qp (sG _ _ h) hq) hlt) qd (qp qd hlt)
   . rintro σ' H' ⟨v9,v10,qs,rfl,s9,hlr9,rat⟩
     have e:(oL os).length=os.length:=List.length_map ..
     rw[e,List.take_of_length_le (Nat.le_refl _)]at rat
     have h8:H6 lr=none:=by
       cases z:H6 lr with
       | none=>rfl
       | some u=>rw[s8 _ _ z]at hlr;cases hlr
     refine⟨_,rfl,q lr qs _ n6 t6 H' (fr6.fresh hd6 h8) hlr9 rat (Us b zl zn znd kord klt k40 ho) ?_ ?_ (s9 _ _ (s8 _ _ hd6)) (fr6.same λa u h=>s9 _ _ (s8 _ _ h))⟩
     . rw[List.length_map,ho.len];exact m0
     . rw[List.length_map,ho.len];exact m1
end
end Rh
set_option Elab.async false
set_option linter.all false
set_option maxRecDepth 100000
set_option maxHeartbeats 4000000
namespace Rh
open PySem L2 PyProof.Rows
abbrev z9:Stmt:=top 16
abbrev zj:Stmt:=top 17
abbrev W9:Stmt:=top 18
abbrev ye:Stmt:=top 19
abbrev Va:Stmt:=top 20
abbrev yh:Stmt:=top 21
abbrev Xk:Stmt:=top 22
theorem Kd (x:Str):[x].Nodup:=by simp
structure Qc (K:PySem.W.Frag) (mg:Str->Option Value):Prop where
 isi:mg "isinstance"=none
 str:mg "str"=none
 all:mg "all"=none
 enu:mg "enumerate"=none
 sum:mg "sum"=none
 lets:∃t,mg "LETTERS"=some (.str VE t)
 lgst:∃t,mg "LONGEST_NAME"=some (.int 8 t)
 mp:∃t,mg "MOST_PLACES"=some (.int 14 t)
 mr:∃t,mg "MOST_ROADS"=some (.int 40 t)
 kss:PySem.W.kitOne K (.type "str") (.type "str")=some true
 ktt:PySem.W.kitOne K (.type "tuple") (.type "tuple")=some true
 kll:PySem.W.kitOne K (.type "list") (.type "list")=some true
theorem wV (c:Nat):(!(Builtin.Str.occurrences VE ⟨#[c]⟩ 0 VE.length 1).isEmpty)=jp c:=by
 rw[StrLaws.found_one,kB]
 unfold jp
 rw[Bool.eq_iff_iff]
 simp only[decide_eq_true_eq,Bool.and_eq_true,List.mem_map,List.mem_range]
 constructor
 . rintro⟨k,hk,rfl⟩
   omega
 . intro h
   exact⟨c - 97,by omega,by omega⟩
theorem kA (f:Nat->Bool) (l:List Nat) (i c:Nat) (h:l[i]?=some c):(l.take i).map f++[f c]=(l.take (i+1)).map f:=by
 rw[List.take_add_one,h]
 simp
def ya:Sp:=λvs H Q _=>∃z,vs=[.str z]/\qK z=true/\∀H',Same H H'->Q (.bl true) H'
def uJ:Sp:=λvs H Q _=>∃(q:Addr) (zs:List Str),vs=[.ref q]/\H q=some (.tup (zs.map V.str))/\(∀z∈zs,qK z=true)/\zs.length<=1000/\∀H',Same H H'->Q (.bl true) H'
def xx:Sp:=λvs H Q _=>∃(p q:Addr) (r:Str×List Str),vs=[.ref p]/\H p=some (.tup [.str r.1,.ref q])/\H q=some (.tup (r.2.map V.str))/\qK r.1=true/\(∀z∈r.2,qK z=true)/\r.2.length<=1000/\∀H',Same H H'->Q (.bl true) H'
structure jG (H:Hp) (l:Addr) (ps:List Addr) (rs:List (Str×List Str)):Prop where
 at_:H l=some (.lst (ps.map V.ref))
 rows:ju H ps rs
 good:qF rs
 pos:0 < rs.length
 le:rs.length<=14
theorem jG.mono {H H':Hp} {l:Addr} {ps:List Addr} {rs:List (Str×List Str)} (h:jG H l ps rs) (s:Same H H'):jG H' l ps rs:=⟨s _ _ h.at_,h.rows.mono s,h.good,h.pos,h.le⟩
theorem qF.names {rs:List (Str×List Str)} (h:qF rs):∀r∈rs,∀z∈r.2,qK z=true:=λr hr z hz=>by
 obtain⟨r',hr',rfl⟩:=List.mem_map.mp (h.to r hr z hz)
 exact h.nm r' hr'
theorem qF.len {rs:List (Str×List Str)} (h:qF rs):∀r∈rs,r.2.length<=40:=λr hr=>by
 refine Nat.le_trans ?_ h.few
 have:∀(rs:List (Str×List Str)),r∈rs->r.2.length<=(rs.map λr=>r.2.length).sum:=by
   intro rs
   induction rs with
   | nil=>intro h;cases h
   | cons a rs ih=>
     intro h
     rw[List.map_cons,List.sum_cons]
     rcases List.mem_cons.mp h with rfl | h
     . omega
     . have:=ih h
       omega
 exact this rs hr
theorem ju.item {H:Hp} {ps:List Addr} {rs:List (Str×List Str)} (h:ju H ps rs) {i:Nat} {x:V} (hx:(ps.map V.ref)[i]?=some x):∃p q r,x=.ref p/\rs[i]?=some r/\r∈rs/\H p=some (.tup [.str r.1,.ref q])/\H q=some (.tup (r.2.map V.str)):=by
 rw[List.getElem?_map]at hx
 cases e:ps[i]? with
 | none=>rw[e]at hx;cases hx
 | some p=>
   rw[e]at hx
   have hi:i < rs.length:=by
     have:=(List.getElem?_eq_some_iff.mp e).1
     rw[h.1]at this
     exact this
   obtain⟨q,a,b⟩:=h.2 i p _ e (List.getElem?_eq_getElem hi)
   exact⟨p,q,_,(Option.some.inj hx).symm,List.getElem?_eq_getElem hi,List.getElem_mem hi,a,b⟩
def Zv:Sp:=λvs H Q _=>∃(l:Addr) (ps:List Addr) (rs:List (Str×List Str)),vs=[.ref l]/\jG H l ps rs/\∀H',Same H H'->Q .non H'
def xz:Sp:=λvs H Q _=>∃(l:Addr) (zs:List Str),vs=[.ref l]/\H l=some (.lst (zs.map V.str))/\zs.Nodup/\zs.length<=1000/\∀H',Same H H'->Q .non H'
def UW:Sp:=λvs H Q _=>∃(q l:Addr) (es zs:List Str),vs=[.ref q,.ref l]/\H q=some (.tup (es.map V.str))/\H l=some (.lst (zs.map V.str))/\es.Nodup/\(∀z∈es,z∈zs)/\es.length<=900/\∀H',Same H H'->Q .non H'
theorem JQ {kvs:List (qS×V)} {k:qS} (h:¬k∈kvs.map (·.1)):jy kvs k=none:=by
 cases e:jy kvs k with
 | none=>rfl
 | some v=>exact absurd (kM e) h
theorem Jp (zs:List Str):(zs.map V.str).all Zk=true:=by
 rw[List.all_map,List.all_eq_true]
 intro z _
 rfl
theorem Vq {z:Str} {zs:List Str} (h:z∈zs):Z6 (.str z) (zs.map V.str)=true:=by
 unfold Z6
 rw[List.any_eq_true]
 exact⟨.str z,List.mem_map.mpr ⟨z,h,rfl⟩,by show (z==z)=true;simp⟩
section
variable {P:Program} {w:World} {K:PySem.W.Frag} {mg:Str->Option Value} {base:Heap}
theorem x8:qy ["thing"] ["thing"] (qi Za):=⟨rfl,rfl,rfl,by decide+kernel,rfl,by decide+kernel,by decide+kernel⟩
theorem YH {f:Addr} {fd:FuncData} (F:j3 K "is_name" "is_name" Za f fd) (B:JN mg) (T:Qc K mg):qv P w K mg base jd 1 f fd ["thing"] ya:=by
 refine F.okJ x8 (λvs H Q E h=>?_) (λcdv A outer s H vs Q E hr h=>?_)
 . obtain⟨x,rfl,_⟩:=h
   rfl
 . obtain⟨z,rfl,hz,q⟩:=h
   obtain⟨tl,hlets⟩:=T.lets
   obtain⟨tg,hlg⟩:=T.lgst
   refine⟨_,qh (q5 (jM (jq (qr jg (by rfl) T.isi boot_isinstance (qb (jv 0) (qb (j2 (v:=.ty "str") (by rfl) T.str boot_str rfl) qg))))) (qm (qJ Q3)) qE)
     (qh (q5 (Q2 (qw j4 (qr QZ (by rfl) B.len boot_len (qb (jv 0) qg)) ql (qD _))
         (Qm (qw Xq (qr QZ (by rfl) B.len boot_len (qb (jv 0) qg)) (QU (v:=.int 8) (by rfl) hlg ⟨_,rfl⟩) (qD _)))).pt (qm (qJ Q3)) qE)
     (qm (qJ (qr (Yp rfl) (by rfl) T.all boot_all (qb (Zh (N':=["sign"]) (ix:=[none]) rfl ⟨rfl,rfl,rfl,rfl,rfl⟩ (wT (jv 0)) (λC s2 H2 fp pins=>
       ⟨qz (i:=0) (Kd _) rfl (Or.inl rfl),Qf,Qt V5 (jv 0) (QU (v:=.str VE) (by rfl) hlets ⟨_,rfl⟩) (by with_unfolding_all rfl)⟩)) qg))))),?_⟩
   have hn:=hz
   unfold qK at hn
   simp only[Bool.and_eq_true,decide_eq_true_eq]at hn
   obtain⟨⟨n1,n8⟩,na⟩:=hn
   have hz':z.length<=sizeLine:=Nat.le_of_lt (qt (by omega))
   refine⟨_,rfl,_,_,_,_,rfl,rfl,.str z,T.kss,_,rfl,jI ?_⟩
   refine⟨_,rfl,z,rfl,hz',_,_,rfl,rfl,_,rfl,?_⟩
   refine zX (λh=>?_) (λh=>?_)
   . exact absurd (of_decide_eq_true h) (by omega)
   . refine⟨_,rfl,z,rfl,hz',_,_,rfl,rfl,_,rfl,?_⟩
     refine zX (λh2=>?_) (λh2=>?_)
     . exact absurd (of_decide_eq_true h2) (by show ¬(8:Int) < (z.length:Int);omega)
     . refine⟨_,rfl,z,rfl,λD hD=>?_⟩
       refine xf (λi σ' H'=>∃v,σ'=[v]/\H'=upd H D (.lst (((z.cps.toList.take i).map jp).map V.bl))) ⟨none,rfl,rfl⟩ ?_ ?_
       . rintro i c σ' H' hc ⟨v,rfl,rfl⟩
         refine⟨_,rfl,_,_,rfl,rfl,_,qd,?_,?_⟩
         . rw[List.length_map,List.length_map,List.length_take]
           exact Nat.lt_of_le_of_lt (Nat.min_le_right _ _) (qt (show z.cps.toList.length<=1000 by rw[Array.length_toList];exact Nat.le_trans n8 (by decide)))
         . refine⟨_,rfl,?_⟩
           rw[jJ,wV]
           have hc':z.cps.toList[i]?=some c:=by simpa using hc
           rw[<-kA jp z.cps.toList i c hc',List.map_append]
           rfl
       . rintro σ' H' ⟨v,rfl,rfl⟩
         refine⟨D,_,rfl,.of qd,?_⟩
         have e0:z.cps.toList.take z.cps.size=z.cps.toList:=List.take_of_length_le (by simp)
         have e1:(z.cps.toList.map jp).all id=true:=by rw[List.all_map];exact na
         rw[e0,e1]
         exact q _ (qj hD)
theorem x6:qy ["thing"] ["thing"] (qi z9):=⟨rfl,rfl,rfl,by decide+kernel,rfl,by decide+kernel,by decide+kernel⟩
theorem yx {f fN:Addr} {fd fdN:FuncData} (F:j3 K "is_tuple_of_names" "is_tuple_of_names" z9 f fd) (B:JN mg) (G:Qd mg) (T:Qc K mg) (hN:jx K mg "is_name" Za ["thing"] fN fdN):qv P w K mg base jd 2 f fd ["thing"] uJ:=by
 have GN:qv P w K mg base jd 1 fN fdN ["thing"] ya:=YH hN.fn B T
 refine F.okJ x6 (λvs H Q E h=>?_) (λcdv A outer s H vs Q E hr h=>?_)
 . obtain⟨x,zs,rfl,_⟩:=h
   rfl
 . obtain⟨x,zs,rfl,hx,hz,hl,q⟩:=h
   refine⟨_,qm (qJ (YQ (qr jg (by rfl) T.isi boot_isinstance (qb (jv 0) (qb (j2 (v:=.ty "tuple") (by rfl) G.tup boot_tuple rfl) qg)))
     (YN (qr (Yp rfl) (by rfl) T.all boot_all (qb (Zh (N':=["part"]) (ix:=[none]) rfl ⟨rfl,rfl,rfl,rfl,rfl⟩ (vN (jv 0)) (λC s2 H2 fp pins=>
       ⟨qz (i:=0) (Kd _) rfl (Or.inl rfl),Qf,qQ hN GN hr (by rfl) (qb (jv 0) qg)⟩)) qg))))),?_⟩
   refine⟨_,rfl,_,_,_,_,rfl,rfl,.tup hx,T.ktt,_,rfl,Q6 ⟨_,rfl,x,rfl,⟨_,.of hx⟩,λD hD=>?_⟩⟩
   refine xc (K:=K) (a:=x) (xs:=zs.map V.str) (λi σ' H'=>∃v,σ'=[v]/\Same H H'/\H' D=some (.lst ((List.replicate i true).map V.bl))) ⟨none,rfl,qj hD,qd⟩ (λi σ' H' _ ⟨_,_,s,_⟩=>.of (s _ _ hx)) ?_ ?_
   . rintro i y σ' H' hy ⟨v,rfl,s1,hD1⟩
     rw[List.getElem?_map]at hy
     cases e:zs[i]? with
     | none=>rw[e]at hy;cases hy
     | some z=>
       rw[e]at hy
       obtain rfl:=(Option.some.inj hy).symm
       have hi:=(List.getElem?_eq_some_iff.mp e).1
       refine⟨_,rfl,z,rfl,hz z (List.mem_of_getElem? e),λH2 s2=>⟨_,s2 _ _ hD1,?_,_,rfl,?_,?_⟩⟩
       . rw[List.length_map,List.length_replicate]
         exact qt (by omega)
       . exact Same.upd (s1.trans s2) hD
       . rw[qd,List.replicate_succ',List.map_append]
         rfl
   . rintro σ' H' ⟨v,rfl,s1,hD1⟩
     refine⟨D,_,rfl,.of hD1,?_⟩
     have e:(List.replicate (zs.map V.str).length true).all id=true:=by simp
     rw[e]
     exact q _ s1
theorem yd:qy ["thing"] ["thing"] (qi zj):=⟨rfl,rfl,rfl,by decide+kernel,rfl,by decide+kernel,by decide+kernel⟩
theorem vy {f fN fP:Addr} {fd fdN fdP:FuncData} (F:j3 K "is_row" "is_row" zj f fd) (B:JN mg) (G:Qd mg) (T:Qc K mg) (hN:jx K mg "is_name" Za ["thing"] fN fdN) (hP:jx K mg "is_tuple_of_names" z9 ["thing"] fP fdP):qv P w K mg base jd 3 f fd ["thing"] xx:=by
 have GN:qv P w K mg base jd 1 fN fdN ["thing"] ya:=YH hN.fn B T
 have GP:qv P w K mg base jd 2 fP fdP ["thing"] uJ:=yx hP.fn B G T hN
 refine F.okJ yd (λvs H Q E h=>?_) (λcdv A outer s H vs Q E hr h=>?_)
 . obtain⟨p,x,r,rfl,_⟩:=h
   rfl
 . obtain⟨p,x,r,rfl,hp,hx,hn,hz,hl,q⟩:=h
   refine⟨_,qh (q5 (Q2 (jM (jq (qr jg (by rfl) T.isi boot_isinstance (qb (jv 0) (qb (j2 (v:=.ty "tuple") (by rfl) G.tup boot_tuple rfl) qg)))))
       (Qm (qw Vj (qr qC (by rfl) B.len boot_len (qb (jv 0) qg)) ql (qD _)))).pt qL qE)
     (qm (qJ (YQ (qQ hN GN (hr.mono (by decide)) (by rfl) (qb (qP jt (jv 0) ql (λ_ _=>rfl)) qg)) (YN (qQ hP GP hr (by rfl) (qb (qP jt (jv 0) ql (λ_ _=>rfl)) qg)))))),?_⟩
   refine⟨_,rfl,_,_,_,_,rfl,rfl,.tup hp,T.ktt,_,rfl,jI ⟨_,rfl,p,_,rfl,.inr (.of hp),rfl,_,rfl,jI ?_⟩⟩
   refine⟨_,rfl,p,_,0,_,rfl,rfl,.of hp,rfl,r.1,rfl,hn,λH1 s1=>⟨_,rfl,Q6 ?_⟩⟩
   exact⟨_,rfl,p,_,1,_,rfl,rfl,.of (s1 _ _ hp),rfl,x,r.2,rfl,s1 _ _ hx,hz,hl,λH2 s2=>q H2 (s1.trans s2)⟩
end
end Rh
set_option Elab.async false
set_option linter.all false
set_option maxRecDepth 100000
set_option maxHeartbeats 4000000
namespace Rh
open PySem L2 PyProof.Rows
section
variable {P:Program} {w:World} {K:PySem.W.Frag} {mg:Str->Option Value} {base:Heap}
abbrev Kj:List Str:=["rows","number","row"]
theorem Wm:qy Kj ["rows"] (qi W9):=⟨rfl,rfl,rfl,by decide+kernel,rfl,by decide+kernel,by decide+kernel⟩
theorem yC {f fN fP fR:Addr} {fd fdN fdP fdR:FuncData} (F:j3 K "need_form" "need_form" W9 f fd) (B:JN mg) (G:Qd mg) (T:Qc K mg) (hN:jx K mg "is_name" Za ["thing"] fN fdN) (hP:jx K mg "is_tuple_of_names" z9 ["thing"] fP fdP)
   (hR:jx K mg "is_row" zj ["thing"] fR fdR):qv P w K mg base jd 4 f fd ["rows"] Zv:=by
 have GR:qv P w K mg base jd 3 fR fdR ["thing"] xx:=vy hR.fn B G T hN hP
 obtain⟨tm,hmp⟩:=T.mp
 refine F.okJ Wm (λvs H Q E h=>?_) (λcdv A outer s H vs Q E hr h=>?_)
 . obtain⟨l,ps,rs,rfl,_⟩:=h
   rfl
 . obtain⟨l,ps,rs,rfl,g,q⟩:=h
   refine⟨_,qh (q5 (Q2 (jM (jq (qr jg (by rfl) T.isi boot_isinstance (qb (jv 0) (qb (j2 (v:=.ty "list") (by rfl) G.lst boot_list rfl) qg)))))
       (Qm (qw Qr (qr qC (by rfl) B.len boot_len (qb (jv 0) qg)) ql (qD _)))).pt qL qE)
     (qh (q5 (qw Xq (qr qC (by rfl) B.len boot_len (qb (jv 0) qg)) (QU (v:=.int 14) (by rfl) hmp ⟨_,rfl⟩) (qD _)) qL qE)
     (qm (jr PassesOwn.never rfl (YM (by rfl) T.enu (qb (jv 0) qg)) (JK rfl (qZ (qz (i:=1) Wm.nd rfl (Or.inl rfl)) (qZ (qz (i:=2) Wm.nd rfl (Or.inl rfl)) Qg)))
       (qm (q5 (jM (jq (qQ hR GR hr (by rfl) (qb (jv 2) qg)))) qL qE))))),?_⟩
   have lp:(ps.map V.ref).length=rs.length:=by rw[List.length_map,g.rows.1]
   refine⟨_,rfl,_,_,_,_,rfl,rfl,.lst g.at_,T.kll,_,rfl,jI ⟨_,rfl,l,_,rfl,.inl (.of g.at_),rfl,_,rfl,?_⟩⟩
   have e0:decide (V.int (((ps.map V.ref).length:Nat):Int)=V.int 0)=false:=decide_eq_false (by
     intro z
     have:=V.int.inj z
     have:=g.pos
     omega)
   rw[e0]
   refine jI ⟨_,rfl,l,_,rfl,.inl (.of g.at_),_,_,rfl,rfl,_,rfl,?_⟩
   have e1:decide ((14:Int) < (((ps.map V.ref).length:Nat):Int))=false:=decide_eq_false (by
     have:=g.le
     omega)
   refine zX (λz=>absurd z (by rw[e1];decide)) (λ_=>?_)
   refine⟨_,rfl,l,rfl,⟨_,.of g.at_⟩,?_⟩
   refine zL (K:=K) (a:=l) (xs:=ps.map V.ref) (λi σ' H'=>∃v1 v2,σ'=[some (.ref l),v1,v2]/\Same H H') ⟨none,none,rfl,Same.refl H⟩ (λi σ' H' _ ⟨_,_,_,s⟩=>.of (s _ _ g.at_)) ?_ ?_
   . rintro i x σ' H' p hx hp ⟨v1,v2,rfl,s1⟩
     have g1:=g.mono (s1.trans (qj (o:=.tup [.int (i:Nat),x]) hp))
     obtain⟨p',q',r,rfl,_,hr',a,b⟩:=g1.rows.item hx
     refine⟨p,_,rfl,.of qd,rfl,_,_,rfl,_,_,rfl,rfl,_,rfl,p',q',r,rfl,a,b,g.good.nm r hr',g.good.names r hr',Nat.le_trans (g.good.len r hr') (by decide),λH2 s2=>⟨_,rfl,jI ⟨_,_,rfl,?_⟩⟩⟩
     exact(s1.trans (qj hp)).trans s2
   . rintro σ' H' ⟨v1,v2,rfl,s1⟩
     exact q H' s1
abbrev Gy:List Str:=["order","ahead","name"]
theorem U2:qy Gy ["order"] (qi ye):=⟨rfl,rfl,rfl,by decide+kernel,rfl,by decide+kernel,by decide+kernel⟩
theorem Zx {zs:List Str} (hn:zs.Nodup) {i:Nat} {z:Str} (e:zs[i]?=some z):¬(Sum.inr z:qS)∈(zs.take i).map Sum.inr:=λh=>by
 obtain⟨y,hy,ey⟩:=List.mem_map.mp h
 have ey':y=z:=Sum.inr.inj ey
 subst ey'
 obtain⟨j,hj⟩:=List.getElem?_of_mem hy
 have hj1:=(List.getElem?_eq_some_iff.mp hj).1
 rw[List.length_take]at hj1
 have hji:j < i:=by omega
 rw[List.getElem?_take_of_lt hji]at hj
 have h1:=(List.getElem?_eq_some_iff.mp hj)
 have h2:=(List.getElem?_eq_some_iff.mp e)
 exact absurd (h1.2.trans h2.2.symm) (List.pairwise_iff_getElem.mp hn j i h1.1 h2.1 hji)
theorem YG {kvs:List (qS×V)} {k:qS} (v:V) (h:jy kvs k=none):(jD kvs k v).map (·.1)=kvs.map (·.1)++[k]:=by
 rw[Xn v h,List.map_append]
 rfl
theorem wB {f:Addr} {fd:FuncData} (F:j3 K "need_own_names" "need_own_names" ye f fd):qv P w K mg base jd 1 f fd ["order"] xz:=by
 refine F.okJ U2 (λvs H Q E h=>?_) (λcdv A outer s H vs Q E hr h=>?_)
 . obtain⟨l,zs,rfl,_⟩:=h
   rfl
 . obtain⟨l,zs,rfl,hl,hn,hz,q⟩:=h
   have hu:=zI hr
   refine⟨_,qh (qx (i:=1) U2.nd rfl (Or.inl rfl) Jg)
     (qm (jr PassesOwn.never rfl (jk (jv 0)) (qz (i:=2) U2.nd rfl (Or.inl rfl))
       (qh (q5 (WA (vW hu (jv 2) (jv 1))) qL qE) (qm (jZ hu (jv 1) (jv 2) Q3 rfl))))),?_⟩
   intro D hD
   refine⟨_,rfl,l,rfl,⟨_,.of (qp hl hD)⟩,?_⟩
   refine jT (K:=K) (a:=l) (xs:=zs.map V.str) (λi σ' H'=>∃v kvs,σ'=[some (.ref l),some (.ref D),v]/\Same H H'/\H' D=some (.dK kvs)/\kvs.map (·.1)=(zs.take i).map Sum.inr) ⟨none,[],rfl,qj hD,qd,rfl⟩ (λi σ' H' _ ⟨_,_,_,s,_⟩=>.of (s _ _ hl)) ?_ ?_
   . rintro i x σ' H' hx ⟨v,kvs,rfl,s1,hD1,ek⟩
     rw[List.getElem?_map]at hx
     cases e:zs[i]? with
     | none=>rw[e]at hx;cases hx
     | some z=>
       rw[e]at hx
       obtain rfl:=(Option.some.inj hx).symm
       have hi:=(List.getElem?_eq_some_iff.mp e).1
       have ez:jy kvs (Sum.inr z:qS)=none:=JQ (by rw[ek];exact Zx hn e)
       have gz:Qp H' D (.str z) none:=by
         have:=Qp.k (k:=(Sum.inr z:qS)) hD1
         rw[ez]at this
         exact this
       have lk:kvs.length < sizeLine:=by
         have:=congrArg List.length ek
         rw[List.length_map,List.length_map,List.length_take]at this
         exact qt (by omega)
       refine⟨_,rfl,_,rfl,D,none,rfl,gz,_,rfl,jI ?_⟩
       refine⟨_,rfl,_,rfl,D,_,rfl,Zp.k (k:=(Sum.inr z:qS)) hD1 lk,_,_,rfl,Same.upd s1 hD,qd,?_⟩
       rw[YG _ ez,ek,List.take_add_one,e,List.map_append]
       rfl
   . rintro σ' H' ⟨v,kvs,rfl,s1,_⟩
     exact q H' s1
abbrev Kk:List Str:=["ends","order","ahead","name"]
theorem Wn:qy Kk ["ends","order"] (qi Va):=⟨rfl,rfl,rfl,by decide+kernel,rfl,by decide+kernel,by decide+kernel⟩
theorem yD {f:Addr} {fd:FuncData} (F:j3 K "need_ends" "need_ends" Va f fd):qv P w K mg base jd 1 f fd ["ends","order"] UW:=by
 refine F.okJ Wn (λvs H Q E h=>?_) (λcdv A outer s H vs Q E hr h=>?_)
 . obtain⟨x,l,es,zs,rfl,_⟩:=h
   rfl
 . obtain⟨x,l,es,zs,rfl,hx,hl,hn,hin,hz,q⟩:=h
   have hu:=zI hr
   refine⟨_,qh (qx (i:=2) Wn.nd rfl (Or.inl rfl) Jg)
     (qm (jr PassesOwn.never rfl (vN (jv 0)) (qz (i:=3) Wn.nd rfl (Or.inl rfl))
       (qh (q5 (qw Zd (jv 3) (jv 1) (by with_unfolding_all rfl)) qL qE)
       (qh (q5 (WA (vW hu (jv 3) (jv 2))) qL qE) (qm (jZ hu (jv 2) (jv 3) Q3 rfl)))))),?_⟩
   intro D hD
   refine⟨_,rfl,x,rfl,⟨_,.of (qp hx hD)⟩,?_⟩
   refine yZ (K:=K) (a:=x) (xs:=es.map V.str) (λi σ' H'=>∃v kvs,σ'=[some (.ref x),some (.ref l),some (.ref D),v]/\Same H H'/\H' D=some (.dK kvs)/\kvs.map (·.1)=(es.take i).map Sum.inr) ⟨none,[],rfl,qj hD,qd,rfl⟩ (λi σ' H' _ ⟨_,_,_,s,_⟩=>.of (s _ _ hx)) ?_ ?_
   . rintro i y σ' H' hy ⟨v,kvs,rfl,s1,hD1,ek⟩
     rw[List.getElem?_map]at hy
     cases e:es[i]? with
     | none=>rw[e]at hy;cases hy
     | some z=>
       rw[e]at hy
       obtain rfl:=(Option.some.inj hy).symm
       have hi:=(List.getElem?_eq_some_iff.mp e).1
       have ez:jy kvs (Sum.inr z:qS)=none:=JQ (by rw[ek];exact Zx hn e)
       have gz:Qp H' D (.str z) none:=by
         have:=Qp.k (k:=(Sum.inr z:qS)) hD1
         rw[ez]at this
         exact this
       have lk:kvs.length < sizeLine:=by
         have:=congrArg List.length ek
         rw[List.length_map,List.length_map,List.length_take]at this
         exact qt (by omega)
       refine⟨_,rfl,_,rfl,l,_,rfl,.inl (.of (s1 _ _ hl)),rfl,Jp zs,_,rfl,?_⟩
       rw[Vq (hin z (List.mem_of_getElem? e))]
       refine jI ⟨_,rfl,_,rfl,D,none,rfl,gz,_,rfl,jI ?_⟩
       refine⟨_,rfl,_,rfl,D,_,rfl,Zp.k (k:=(Sum.inr z:qS)) hD1 lk,_,_,rfl,Same.upd s1 hD,qd,?_⟩
       rw[YG _ ez,ek,List.take_add_one,e,List.map_append]
       rfl
   . rintro σ' H' ⟨v,kvs,rfl,s1,_⟩
     exact q H' s1
abbrev GQ:List Str:=["rows","many"]
theorem xD:qy GQ ["rows"] (qi yh):=⟨rfl,rfl,rfl,by decide+kernel,rfl,by decide+kernel,by decide+kernel⟩
theorem wH {f:Addr} {fd:FuncData} (F:j3 K "need_few_roads" "need_few_roads" yh f fd) (B:JN mg) (T:Qc K mg):qv P w K mg base jd 1 f fd ["rows"] Zv:=by
 obtain⟨tm,hmr⟩:=T.mr
 refine F.okJ xD (λvs H Q E h=>?_) (λcdv A outer s H vs Q E hr h=>?_)
 . obtain⟨l,ps,rs,rfl,_⟩:=h
   rfl
 . obtain⟨l,ps,rs,rfl,g,q⟩:=h
   refine⟨_,qh (qx (i:=1) xD.nd rfl (Or.inl rfl) (qr (Uy rfl) (by rfl) T.sum boot_sum (qb (Zh (N':=["row"]) (ix:=[none]) (te:=uq (λxs H Q=>∃p ys,xs=[.ref p]/\(SqL K H p ys\/SqT K H p ys)/\Q (.int ys.length) H) (jC (XY (VX K) (jH 0) (tC (.int 1))) JB)) rfl ⟨rfl,rfl,rfl,rfl,rfl⟩ (jk (jv 0)) (λC s2 H2 fp pins=>
       ⟨qz (i:=0) (Kd _) rfl (Or.inl rfl),Qf,qr qC (by rfl) B.len boot_len (qb (qP jt (jv 0) ql (λ_ _=>rfl)) qg)⟩)) qg)))
     (qm (q5 (qw Xq (jv 1) (QU (v:=.int 40) (by rfl) hmr ⟨_,rfl⟩) (qD _)) qL qE)),?_⟩
   refine⟨_,rfl,l,rfl,⟨_,.of g.at_⟩,λD hD=>?_⟩
   refine j6 (K:=K) (a:=l) (xs:=ps.map V.ref) (λi σ' H'=>∃v,σ'=[v]/\H'=upd H D (.lst (((rs.take i).map λr=>r.2.length).map λn=>V.int ((n:Nat):Int)))) ⟨none,rfl,rfl⟩ (λi σ' H' _ ⟨_,_,e⟩=>e▸.of (qp g.at_ hD)) ?_ ?_
   . rintro i x σ' H' hx ⟨v,rfl,rfl⟩
     obtain⟨p',q',r,rfl,er,hr',a,b⟩:=g.rows.item hx
     have hi:=(List.getElem?_eq_some_iff.mp er).1
     refine⟨_,rfl,p',_,1,_,rfl,rfl,.of (qp a hD),rfl,q',_,rfl,.inr (.of (qp b hD)),_,qd,?_,_,rfl,?_⟩
     . rw[List.length_map,List.length_map,List.length_take]
       have:=g.le
       exact qt (by omega)
     . rw[jJ,List.take_add_one,er,List.map_append,List.map_append,List.length_map]
       rfl
   . rintro σ' H' ⟨v,rfl,rfl⟩
     have e:rs.take (ps.map V.ref).length=rs:=List.take_of_length_le (by rw[List.length_map,g.rows.1];exact Nat.le_refl _)
     rw[e]
     refine⟨D,_,rfl,.of qd,Nat.lt_of_le_of_lt g.good.few (by decide),?_⟩
     refine⟨_,rfl,_,_,rfl,rfl,_,rfl,?_⟩
     have:=g.good.few
     refine zX (λz=>absurd (of_decide_eq_true z) ?_) (λ_=>q _ (qj hD))
     show ¬(40:Int) < _
     omega
abbrev Kf:List Str:=["rows","order","row"]
theorem Wj:qy Kf ["rows"] (qi Xk):=⟨rfl,rfl,rfl,by decide+kernel,rfl,by decide+kernel,by decide+kernel⟩
structure xj (K:PySem.W.Frag) (mg:Str->Option Value):Prop where
 nm:∃f fd,jx K mg "is_name" Za ["thing"] f fd
 tn:∃f fd,jx K mg "is_tuple_of_names" z9 ["thing"] f fd
 rw:∃f fd,jx K mg "is_row" zj ["thing"] f fd
 fo:∃f fd,jx K mg "need_form" W9 ["rows"] f fd
 ow:∃f fd,jx K mg "need_own_names" ye ["order"] f fd
 en:∃f fd,jx K mg "need_ends" Va ["ends","order"] f fd
 fw:∃f fd,jx K mg "need_few_roads" yh ["rows"] f fd
theorem yA {f:Addr} {fd:FuncData} (F:j3 K "need_rows" "need_rows" Xk f fd) (B:JN mg) (G:Qd mg) (T:Qc K mg) (N:xj K mg):qv P w K mg base jd 5 f fd ["rows"] Zv:=by
 obtain⟨fN,fdN,hN⟩:=N.nm
 obtain⟨fP,fdP,hP⟩:=N.tn
 obtain⟨fR,fdR,hR⟩:=N.rw
 obtain⟨fF,fdF,hF⟩:=N.fo
 obtain⟨fO,fdO,hO⟩:=N.ow
 obtain⟨fE,fdE,hE⟩:=N.en
 obtain⟨fW,fdW,hW⟩:=N.fw
 have GF:qv P w K mg base jd 4 fF fdF ["rows"] Zv:=yC hF.fn B G T hN hP hR
 have GO:qv P w K mg base jd 1 fO fdO ["order"] xz:=wB hO.fn
 have GE:qv P w K mg base jd 1 fE fdE ["ends","order"] UW:=yD hE.fn
 have GW:qv P w K mg base jd 1 fW fdW ["rows"] Zv:=wH hW.fn B T
 refine F.okJ Wj (λvs H Q E h=>?_) (λcdv A outer s H vs Q E hr h=>?_)
 . obtain⟨l,ps,rs,rfl,_⟩:=h
   rfl
 . obtain⟨l,ps,rs,rfl,g,q⟩:=h
   refine⟨_,qh (qV (qQ hF GF hr (by rfl) (qb (jv 0) qg)))
     (qh (Zg (i:=1) (N':=["row"]) (ix:=[none]) (te:=XY (VX K) (jH 0) (tC (.int 0))) Wj.nd rfl (Or.inl rfl) rfl ⟨rfl,rfl,rfl,rfl,rfl⟩ (jk (jv 0)) (λC s2 H2 fp pins=>
       ⟨qz (i:=0) (Kd _) rfl (Or.inl rfl),Qf,qP jt (jv 0) ql (λ_ _=>rfl)⟩))
     (qh (qV (qQ hO GO (hr.mono (by decide)) (by rfl) (qb (jv 1) qg)))
     (qh (jr PassesOwn.never rfl (jk (jv 0)) (qz (i:=2) Wj.nd rfl (Or.inl rfl))
       (qm (qV (qQ hE GE (hr.mono (by decide)) (by rfl) (qb (qP jt (jv 2) ql (λ_ _=>rfl)) (qb (jv 1) qg))))))
     (qm (qV (qQ hW GW (hr.mono (by decide)) (by rfl) (qb (jv 0) qg))))))),?_⟩
   refine⟨_,rfl,l,ps,rs,rfl,g,λH1 s1=>?_⟩
   have g1:=g.mono s1
   refine⟨_,rfl,l,rfl,⟨_,.of g1.at_⟩,λD hD=>?_⟩
   refine j6 (K:=K) (a:=l) (xs:=ps.map V.ref) (λi σ' H'=>∃v,σ'=[v]/\H'=upd H1 D (.lst (((rs.take i).map (·.1)).map V.str))) ⟨none,rfl,rfl⟩ (λi σ' H' _ ⟨_,_,e⟩=>e▸.of (qp g1.at_ hD)) ?_ ?_
   . rintro i x σ' H' hx ⟨v,rfl,rfl⟩
     obtain⟨p',q',r,rfl,er,hr',a,b⟩:=g1.rows.item hx
     have hi:=(List.getElem?_eq_some_iff.mp er).1
     refine⟨_,rfl,p',_,0,_,rfl,rfl,.of (qp a hD),rfl,_,qd,?_,_,rfl,?_⟩
     . rw[List.length_map,List.length_map,List.length_take]
       have:=g.le
       exact qt (by omega)
     . rw[jJ,List.take_add_one,er,List.map_append,List.map_append]
       rfl
   . rintro σ' H' ⟨v,rfl,rfl⟩
     have e:rs.take (ps.map V.ref).length=rs:=List.take_of_length_le (by rw[List.length_map,g.rows.1];exact Nat.le_refl _)
     rw[e]
     refine⟨_,rfl,D,rs.map (·.1),rfl,qd,g.good.nd,by rw[List.length_map];have:=g.le;omega,λH2 s2=>?_⟩
     have sD:Same H1 H2:=(qj hD).trans s2
     have hD2:H2 D=some (.lst ((rs.map (·.1)).map V.str)):=s2 _ _ qd
     have g2:=g1.mono sD
     refine⟨_,rfl,l,rfl,⟨_,.of g2.at_⟩,?_⟩
     refine jT (K:=K) (a:=l) (xs:=ps.map V.ref) (λi σ' H'=>∃v,σ'=[some (.ref l),some (.ref D),v]/\Same H2 H') ⟨none,rfl,Same.refl H2⟩ (λi σ' H' _ ⟨_,_,s⟩=>.of (s _ _ g2.at_)) ?_ ?_
     . rintro i x σ' H' hx ⟨v,rfl,s3⟩
       obtain⟨p',q',r,rfl,er,hr',a,b⟩:=(g2.mono s3).rows.item hx
       refine⟨_,rfl,p',_,1,_,rfl,rfl,.of a,rfl,_,rfl,q',D,r.2,rs.map (·.1),rfl,b,s3 _ _ hD2,g.good.rd r hr',g.good.to r hr',Nat.le_trans (g.good.len r hr') (by decide),λH4 s4=>⟨_,rfl,s3.trans s4⟩⟩
     . rintro σ' H' ⟨v,rfl,s3⟩
       exact⟨_,rfl,l,ps,rs,rfl,g2.mono s3,λH4 s4=>q H4 (((s1.trans sD).trans s3).trans s4)⟩
end
end Rh
set_option Elab.async false
set_option linter.all false
set_option maxRecDepth 100000
set_option maxHeartbeats 4000000
namespace Rh
open PySem L2 PyProof.Rows
abbrev Wo:Stmt:=Z7 (top 23) 0
abbrev Zb:Stmt:=Z7 (top 23) 1
abbrev zk:Stmt:=Z7 (top 23) 2
def JF (rs:List (Str×List Str)) (r:Str×List Str):List Str:=(rs.map (·.1)).filter λz=>Z6 (.str z) (r.2.map V.str)
def jW (CG:Addr) (H:Hp) (a:Addr) (rs:List (Str×List Str)):Prop:=∃(dx lo rd:Addr) (kvs:List (qS×V)),H a=some (.ins CG dx [("order",.ref lo),("roads",.ref rd)])/\H lo=some (.lst ((rs.map (·.1)).map V.str))/\H rd=some (.dK kvs)/\
 ∀r∈rs,∃q,jy kvs (Sum.inr r.1)=some (.ref q)/\H q=some (.lst ((JF rs r).map V.str))
theorem jW.mono {CG:Addr} {H H':Hp} {a:Addr} {rs:List (Str×List Str)} (h:jW CG H a rs) (s:Same H H'):jW CG H' a rs:=by
 obtain⟨dx,lo,rd,kvs,h1,h2,h3,h4⟩:=h
 exact⟨dx,lo,rd,kvs,s _ _ h1,s _ _ h2,s _ _ h3,λr hr=>let ⟨q,a,b⟩:=h4 r hr;⟨q,a,s _ _ b⟩⟩
theorem jG.fr {H H':Hp} {l x C dx:Addr} {fs:List (Str×V)} {ps:List Addr} {rs:List (Str×List Str)} (h:jG H l ps rs) (hx:H x=some (.ins C dx fs)) (s:Fr H x H'):jG H' l ps rs:=by
 refine⟨s _ _ h.at_ (λe=>?_),⟨h.rows.1,λi p r e1 e2=>?_⟩,h.good,h.pos,h.le⟩
 . have:=h.at_
   rw[e,hx]at this
   cases this
 . obtain⟨q,a,b⟩:=h.rows.2 i p r e1 e2
   exact⟨q,s _ _ a (λe=>by rw[e,hx]at a;cases a),s _ _ b (λe=>by rw[e,hx]at b;cases b)⟩
structure KO (K:PySem.W.Frag) (mg:Str->Option Value) (CG f:Addr) (fd:FuncData):Prop where
 cl:WR K CG
 mkr:Mk K CG f
 ns:mg "Ground"=some (.ref CG)
 no:jY K CG "order"
 nr:jY K CG "roads"
 fn:j3 K "__init__" "Ground.__init__" Wo f fd
 bi:jz K fd ["self","rows"] []
theorem nor:¬(Str.ofString "order")=Str.ofString "roads":=by decide+kernel
theorem Gu (v:V):QO (Str.ofString "order") v []=[(Str.ofString "order",v)]:=rfl
theorem Gs (v u:V):QO (Str.ofString "roads") u [(Str.ofString "order",v)]=[(Str.ofString "order",v),(Str.ofString "roads",u)]:=by
 unfold QO
 rw[if_neg nor]
 rfl
theorem lkO (v u:V):([(Str.ofString "order",v),(Str.ofString "roads",u)]:List (Str×V)).lookup (Str.ofString "order")=some v:=by simp [List.lookup]
theorem GS (v u:V):([(Str.ofString "order",v),(Str.ofString "roads",u)]:List (Str×V)).lookup (Str.ofString "roads")=some u:=by
 have e:((Str.ofString "roads")==(Str.ofString "order"))=false:=by decide+kernel
 simp [List.lookup,e]
def Yz (CG:Addr):Sp:=λvs H Q _=>∃(x dx l:Addr) (ps:List Addr) (rs:List (Str×List Str)),vs=[.ref x,.ref l]/\jG H l ps rs/\H x=some (.ins CG dx [])/\∀H',jW CG H' x rs->Fr H x H'->Q .non H'
def Xf (CG:Addr):Sp:=λvs H Q _=>∃(a:Addr) (rs:List (Str×List Str)),vs=[.ref a]/\jW CG H a rs/\∀l,H l=none->Q (.ref l) (upd H l (.lst ((rs.map (·.1)).map V.str)))
def W6 (CG:Addr):Sp:=λvs H Q _=>∃(a:Addr) (rs:List (Str×List Str)) (r:Str×List Str),vs=[.ref a,.str r.1]/\jW CG H a rs/\r∈rs/\qK r.1=true/\∀H1 l,Same H H1->H1 l=none->Q (.ref l) (upd H1 l (.lst ((JF rs r).map V.str)))
section
variable {P:Program} {w:World} {K:PySem.W.Frag} {mg:Str->Option Value} {base:Heap}
abbrev nGI:List Str:=["self","rows","row"]
theorem uR:qy nGI ["self","rows"] (qi Wo):=⟨rfl,rfl,rfl,by decide+kernel,rfl,by decide+kernel,by decide+kernel⟩
theorem vz {f fW CG:Addr} {fd fdW:FuncData} (C:KO K mg CG f fd) (B:JN mg) (G:Qd mg) (T:Qc K mg) (N:xj K mg) (hW:jx K mg "need_rows" Xk ["rows"] fW fdW):qv P w K mg base jd 6 f fd ["self","rows"] (Yz CG):=by
 have GW:qv P w K mg base jd 5 fW fdW ["rows"] Zv:=yA hW.fn B G T N
 refine C.fn.okJ uR (λvs H Q E h=>?_) (λcdv A outer s H vs Q E hr h=>?_)
 . obtain⟨x,dx,l,ps,rs,rfl,_⟩:=h
   rfl
 . obtain⟨x,dx,l,ps,rs,rfl,g,hx,q⟩:=h
   have hu:=zI hr
   refine⟨_,qh (qV (qQ hW GW hr (by rfl) (qb (jv 1) qg)))
     (qh (vM (jv 0) (Zh (N':=["row"]) (ix:=[none]) (te:=XY (VX K) (jH 0) (tC (.int 0))) rfl ⟨rfl,rfl,rfl,rfl,rfl⟩ (jk (jv 1)) (λC s2 H2 fp pins=>
       ⟨qz (i:=0) (Kd _) rfl (Or.inl rfl),Qf,qP jt (jv 0) ql (λ_ _=>rfl)⟩)) rfl)
     (qh (vM (jv 0) Jg rfl)
     (qm (jr PassesOwn.never rfl (jk (jv 1)) (qz (i:=2) uR.nd rfl (Or.inr rfl))
       (qm (jZ hu (zH (jv 0) rfl) (qP jt (jv 2) ql (λ_ _=>rfl))
         (Zh (N':=["name","row"]) (ix:=[none,some 2]) (tt:=WW (XY (Gq K false) (jH 0) (XY (VX K) (jH 1) (tC (.int 1))))) rfl ⟨rfl,rfl,rfl,rfl,rfl⟩ (jk (zH (jv 0) rfl)) (λC s2 H2 fp pins=>
           ⟨qz (i:=0) (show (["name","row"]:List Str).Nodup by decide+kernel) rfl (Or.inl rfl),Z3 (qw Yb (jv 0) (qP jt (jv 1) ql (λ_ _=>rfl)) (by with_unfolding_all rfl)),jv 0⟩)) rfl)))))),?_⟩
   refine⟨_,rfl,l,ps,rs,rfl,g,λH1 s1=>?_⟩
   have g1:=g.mono s1
   have fr1:Fr H x H1:=λb u h _=>s1 _ _ h
   have hx1:=s1 _ _ hx
   refine⟨_,rfl,l,rfl,⟨_,.of g1.at_⟩,λlo hlo=>?_⟩
   have nlx:lo≠x:=λe=>by rw[e,hx1]at hlo;cases hlo
   refine j6 (K:=K) (a:=l) (xs:=ps.map V.ref) (λi σ' H'=>∃v,σ'=[v]/\H'=upd H1 lo (.lst (((rs.take i).map (·.1)).map V.str))) ⟨none,rfl,rfl⟩ (λi σ' H' _ ⟨_,_,e⟩=>e▸.of (qp g1.at_ hlo)) ?_ ?_
   . rintro i y σ' H' hy ⟨v,rfl,rfl⟩
     obtain⟨p',q',r,rfl,er,hr',a,b⟩:=g1.rows.item hy
     have hi:=(List.getElem?_eq_some_iff.mp er).1
     refine⟨_,rfl,p',_,0,_,rfl,rfl,.of (qp a hlo),rfl,_,qd,?_,_,rfl,?_⟩
     . rw[List.length_map,List.length_map,List.length_take]
       have:=g.le
       exact qt (by omega)
     . rw[jJ,List.take_add_one,er,List.map_append,List.map_append]
       rfl
   rintro σ' H' ⟨v,rfl,rfl⟩
   have e:rs.take (ps.map V.ref).length=rs:=List.take_of_length_le (by rw[List.length_map,g.rows.1];exact Nat.le_refl _)
   rw[e]
   have fr2:Fr H x (upd H1 lo (.lst ((rs.map (·.1)).map V.str))):=fr1.new hlo
   have hlo2:upd H1 lo (.lst ((rs.map (·.1)).map V.str)) lo=some (.lst ((rs.map (·.1)).map V.str)):=qd
   have hx2:upd H1 lo (.lst ((rs.map (·.1)).map V.str)) x=some (.ins CG dx []):=qp hx1 hlo
   generalize upd H1 lo (.lst ((rs.map (·.1)).map V.str))=H2 at fr2 hlo2 hx2
   refine⟨_,rfl,x,CG,dx,[],rfl,hx2,C.cl,C.no,by decide,?_⟩
   rw[Gu]
   intro rd hrd
   have nrx:rd≠x:=λe=>by rw[e,qd]at hrd;cases hrd
   have hrd2:H2 rd=none:=by rw[qe nrx]at hrd;exact hrd
   have nrl:rd≠lo:=λe=>by rw[e,hlo2]at hrd2;cases hrd2
   have hHr:H rd=none:=fr2.fresh hx2 hrd2
   refine⟨_,rfl,x,CG,dx,_,rfl,qp qd hrd,C.cl,C.nr,by show 1 < 1000;decide,?_⟩
   rw[Gs]
   have fr5:Fr H x (upd (upd (upd H2 x (.ins CG dx [("order",.ref lo)])) rd (.dK [])) x (.ins CG dx [("order",.ref lo),("roads",.ref rd)])):=((fr2.at_d).own hHr).at_d
   have g5:=g.fr hx fr5
   refine⟨_,rfl,l,rfl,⟨_,.of g5.at_⟩,?_⟩
   refine jT (K:=K) (a:=l) (xs:=ps.map V.ref) (λi σ' H'=>∃v kvs,σ'=[some (.ref x),some (.ref l),v]/\H' x=some (.ins CG dx [("order",.ref lo),("roads",.ref rd)])/\H' lo=some (.lst ((rs.map (·.1)).map V.str))/\H' rd=some (.dK kvs)/\
     kvs.map (·.1)=((rs.map (·.1)).take i).map Sum.inr/\(∀r∈rs.take i,∃q,jy kvs (Sum.inr r.1)=some (.ref q)/\H' q=some (.lst ((JF rs r).map V.str)))/\Fr H x H')
     ⟨none,[],rfl,qd,?_,?_,rfl,λr h=>(nomatch h),fr5⟩ (λi σ' H' _ ⟨_,_,_,_,_,_,_,_,fr⟩=>.of (g.fr hx fr).at_) ?_ ?_
   . rw[qe nlx,qe (Ne.symm nrl),qe nlx]
     exact hlo2
   . rw[qe nrx]
     exact qd
   . rintro i y σ' H' hy ⟨v,kvs,rfl,hx',hlo',hrd',ek,hv,fr⟩
     have g':=g.fr hx fr
     obtain⟨p,qq,r,rfl,er,hr',a,b⟩:=g'.rows.item hy
     have hi:=(List.getElem?_eq_some_iff.mp er).1
     have hle:=g.le
     refine⟨_,rfl,x,CG,dx,_,_,rfl,hx',C.cl,C.no,lkO _ _,lo,rfl,⟨_,.of hlo'⟩,λD hD=>?_⟩
     refine j6 (K:=K) (a:=lo) (xs:=(rs.map (·.1)).map V.str) (λj σ'' H''=>∃v0,σ''=[v0,some (.ref p)]/\H''=upd H' D (.lst ((((rs.map (·.1)).take j).filter λz=>Z6 (.str z) (r.2.map V.str)).map V.str))) ⟨none,rfl,rfl⟩
       (λj σ'' H'' _ ⟨_,_,e⟩=>e▸.of (qp hlo' hD)) ?_ ?_
     . rintro j y σ'' H'' hy ⟨v0,rfl,rfl⟩
       rw[List.getElem?_map]at hy
       cases e:(rs.map (·.1))[j]? with
       | none=>rw[e]at hy;cases hy
       | some z=>
         rw[e]at hy
         obtain rfl:=(Option.some.inj hy).symm
         refine⟨_,rfl,_,rfl,p,_,1,_,rfl,rfl,.of (qp a hD),rfl,qq,_,rfl,.inr (.of (qp b hD)),rfl,Jp _,_,rfl,?_⟩
         have et:((rs.map (·.1)).take (j+1)).filter (λz=>Z6 (.str z) (r.2.map V.str))=((rs.map (·.1)).take j).filter (λz=>Z6 (.str z) (r.2.map V.str))++if Z6 (.str z) (r.2.map V.str)=true then [z] else []:=by
           rw[List.take_add_one,e,List.filter_append]
           congr 1
           cases ei:Z6 (.str z) (r.2.map V.str)
           . simp [ei]
           . simp [ei]
         rw[et]
         show if Z6 (.str z) (r.2.map V.str)=true then _ else _
         cases ei:Z6 (.str z) (r.2.map V.str) with
         | true=>
           refine Q6 ⟨_,rfl,_,qd,?_,_,rfl,?_⟩
           . rw[List.length_map]
             refine qt (Nat.le_trans (List.length_filter_le _ _) ?_)
             rw[List.length_take,List.length_map]
             omega
           . rw[jJ,if_pos rfl,List.map_append]
             rfl
         | false=>
           refine jI ⟨_,rfl,?_⟩
           rw[if_neg Bool.false_ne_true,List.append_nil]
     . rintro σ'' H'' ⟨v0,rfl,rfl⟩
       have ed:((rs.map (·.1)).take ((rs.map (·.1)).map V.str).length).filter (λz=>Z6 (.str z) (r.2.map V.str))=JF rs r:=by
         rw[List.length_map,List.take_of_length_le (Nat.le_refl _)]
         rfl
       rw[ed]
       have nD:∀{c:Addr} {o:HO},H' c=some o->c≠D:=λh e=>by rw[e,hD]at h;cases h
       have en:(rs.map (·.1))[i]?=some r.1:=by rw[List.getElem?_map,er];rfl
       have ez:jy kvs (Sum.inr r.1:qS)=none:=JQ (by rw[ek];exact Zx g.good.nd en)
       have lk:kvs.length < sizeLine:=by
         have:=congrArg List.length ek
         rw[List.length_map,List.length_map,List.length_take,List.length_map]at this
         exact qt (by omega)
       refine⟨_,rfl,x,CG,dx,_,_,rfl,qp hx' hD,C.cl,C.nr,GS _ _,_,rfl,p,_,0,_,rfl,rfl,.of (qp a hD),rfl,rd,_,rfl,Zp.k (k:=(Sum.inr r.1:qS)) (qp hrd' hD) lk,?_⟩
       refine⟨_,jD kvs (Sum.inr r.1) (.ref D),rfl,?_,?_,qd,?_,λr' hr2=>?_,?_⟩
       . rw[qe (Ne.symm nrx)];exact qp hx' hD
       . rw[qe (Ne.symm nrl)];exact qp hlo' hD
       . rw[YG _ ez,ek,List.take_add_one,en,List.map_append]
         rfl
       . rw[List.take_add_one,er]at hr2
         rcases List.mem_append.mp hr2 with h | h
         . obtain⟨q1,a1,b1⟩:=hv r' h
           refine⟨q1,?_,?_⟩
           . rw[Y8,if_neg]
             . exact a1
             . intro z
               rw[z,ez]at a1
               cases a1
           . have n1:q1≠rd:=λe=>by rw[e,hrd']at b1;cases b1
             rw[qe n1]
             exact qp b1 hD
         . have er':r'=r:=by simpa using h
           subst er'
           refine⟨D,?_,?_⟩
           . rw[Y8,if_pos rfl]
           . rw[qe (Ne.symm (nD hrd'))]
             exact qd
       . exact(fr.new hD).own hHr
   . rintro σ' H' ⟨v,kvs,rfl,hx',hlo',hrd',ek,hv,fr⟩
     have e:rs.take (ps.map V.ref).length=rs:=List.take_of_length_le (by rw[List.length_map,g.rows.1];exact Nat.le_refl _)
     rw[e]at hv
     exact q H' ⟨dx,lo,rd,kvs,hx',hlo',hrd',hv⟩ fr
theorem Gh:qy ["self"] ["self"] (qi Zb):=⟨rfl,rfl,rfl,by decide+kernel,rfl,by decide+kernel,by decide+kernel⟩
theorem V8 {f fI CG:Addr} {fd fdI:FuncData} (F:j3 K "names" "Ground.names" Zb f fd) (C:KO K mg CG fI fdI) (G:Qd mg):qv P w K mg base jd 1 f fd ["self"] (Xf CG):=by
 refine F.okJ Gh (λvs H Q E h=>?_) (λcdv A outer s H vs Q E hr h=>?_)
 . obtain⟨a,rs,rfl,_⟩:=h
   rfl
 . obtain⟨a,rs,rfl,⟨dx,lo,rd,kvs,h1,h2,h3,h4⟩,q⟩:=h
   refine⟨_,qm (qJ (qM qO (by rfl) G.lst boot_list (qb (zH (jv 0) rfl) qg))),?_⟩
   exact⟨_,rfl,a,CG,dx,_,_,rfl,h1,C.cl,C.no,lkO _ _,lo,_,rfl,.inl (.of h2),q⟩
abbrev GK:List Str:=["self","name"]
theorem Gi:qy GK GK (qi zk):=⟨rfl,rfl,rfl,by decide+kernel,rfl,by decide+kernel,by decide+kernel⟩
theorem vA {f fI fN CG:Addr} {fd fdI fdN:FuncData} (F:j3 K "roads_from" "Ground.roads_from" zk f fd) (C:KO K mg CG fI fdI) (B:JN mg) (G:Qd mg) (T:Qc K mg) (hN:jx K mg "is_name" Za ["thing"] fN fdN):qv P w K mg base jd 2 f fd GK (W6 CG):=by
 have GN:qv P w K mg base jd 1 fN fdN ["thing"] ya:=YH hN.fn B T
 refine F.okJ Gi (λvs H Q E h=>?_) (λcdv A outer s H vs Q E hr h=>?_)
 . obtain⟨a,rs,r,rfl,_⟩:=h
   rfl
 . obtain⟨a,rs,r,rfl,gr,hr',hn,q⟩:=h
   have hu:=zI hr
   refine⟨_,qh (q5 (Q2 (jM (jq (qQ hN GN hr (by rfl) (qb (jv 1) qg)))) (Qm (WA (Uk hu (jv 1) (zH (jv 0) rfl))))).pt qL qE)
     (qm (qJ (qM qO (by rfl) G.lst boot_list (qb (Qh hu (zH (jv 0) rfl) (jv 1) (λ_ _=>rfl)) qg)))),?_⟩
   refine⟨_,rfl,r.1,rfl,hn,λH1 s1=>⟨_,rfl,jI ?_⟩⟩
   obtain⟨dx,lo,rd,kvs,h1,h2,h3,h4⟩:=gr.mono s1
   obtain⟨qq,hv,hq⟩:=h4 r hr'
   have gz:Qp H1 rd (.str r.1) (some (.ref qq)):=by
     have:=Qp.k (k:=(Sum.inr r.1:qS)) h3
     rw[hv]at this
     exact this
   refine⟨_,rfl,_,rfl,a,CG,dx,_,_,rfl,h1,C.cl,C.nr,GS _ _,rd,_,rfl,gz,_,rfl,jI ?_⟩
   exact⟨_,rfl,a,CG,dx,_,_,rfl,h1,C.cl,C.nr,GS _ _,_,rfl,rd,_,rfl,gz,qq,_,rfl,.inl (.of hq),λl hl=>q H1 l s1 hl⟩
end
end Rh
set_option Elab.async false
set_option linter.all false
set_option maxRecDepth 100000
set_option maxHeartbeats 4000000
namespace Rh
open PySem L2 PyProof.Rows
abbrev jV:=List (Str×List Str)
def Ky (rs:jV) (z:Str):List Str:=match rs.find? (λr=>decide (r.1=z)) with
 | some r=>JF rs r
 | none=>[]
theorem XD:∀{rs:jV} {r:Str×List Str},(rs.map (·.1)).Nodup->r∈rs->rs.find? (λq=>decide (q.1=r.1))=some r
 | a::rs,r,hn,h=>by
   rw[List.map_cons,List.nodup_cons]at hn
   rcases List.mem_cons.mp h with rfl | h
   . simp [List.find?_cons]
   . have:¬a.1=r.1:=λe=>hn.1 (e▸List.mem_map.mpr ⟨r,h,rfl⟩)
     simp only[List.find?_cons,decide_eq_false this]
     exact XD hn.2 h
theorem Zj {rs:jV} {r:Str×List Str} (hn:(rs.map (·.1)).Nodup) (h:r∈rs):Ky rs r.1=JF rs r:=by
 unfold Ky
 rw[XD hn h]
theorem Xm {rs:jV} {r:Str×List Str} {y:Str} (h:y∈JF rs r):∃r'∈rs,r'.1=y:=by
 obtain⟨r',h1,h2⟩:=List.mem_map.mp (List.mem_filter.mp h).1
 exact⟨r',h1,h2⟩
theorem Yf:∀{more kvs:List (qS×V)},(more.map (·.1)).Nodup->(∀k∈more.map (·.1),¬k∈kvs.map (·.1))->Qa kvs more=kvs++more
 | [],kvs,_,_=>(List.append_nil _).symm
 | p::more,kvs,hn,h=>by
   rw[List.map_cons,List.nodup_cons]at hn
   have e:jy kvs p.1=none:=JQ (h p.1 (by simp))
   show Qa (jD kvs p.1 p.2) more=_
   rw[Xn p.2 e,Yf hn.2]
   . rw[List.append_assoc]
     rfl
   . intro k hk m
     rw[List.map_append]at m
     rcases List.mem_append.mp m with m | m
     . exact h k (by rw[List.map_cons];exact List.mem_cons_of_mem _ hk) m
     . have:k=p.1:=by simpa using m
       subst this
       exact hn.1 hk
structure uw (K:PySem.W.Frag) (C:Addr) (m qual:Str) (st:Stmt) (ps:List Str) (f:Addr) (fd:FuncData):Prop where
 fn:j3 K m qual st f fd
 me:UE K C m f
 bi:jz K fd ps []
theorem Kp {X:Cx} {C f:Addr} {fd:FuncData} {m qual:Str} {st:Stmt} {ps:List Str} {k:Nat} {sp:Sp} {o:Expr} {ta:TE} {apos pos:Pos} {pl:Sem Bool} (h:uw X.K C m qual st ps f fd) (c:WR X.K C) (G:qv X.prog X.w X.K X.mg X.base jd k f fd ps sp) (hr:ja k X.A) (he:JE X o ta)
   (ht:eval (.Call (.Attribute o m apos) [] [] pos) X.env=(do
     let ov <-eval o X.env
     standAt apos.atName
     let (f,first) <-holding [ov] (getMethod ov m pl)
     callWith pos f first (backTo pos (starEach [] X.env)) (backToKw pos (keywordEach [] X.env))):=by rfl):
   JE X (.Call (.Attribute o m apos) [] [] pos) (z8 C m sp [] E0 ta JB):=vR he c h.me G hr h.bi .nil zq ht
theorem Ko {X:Cx} {C f:Addr} {fd:FuncData} {m qual:Str} {st:Stmt} {ps:List Str} {k:Nat} {sp:Sp} {o e:Expr} {es:List Expr} {ta:TE} {t:TA} {apos pos:Pos} {pl:Sem Bool} (h:uw X.K C m qual st ps f fd) (c:WR X.K C) (G:qv X.prog X.w X.K X.mg X.base jd k f fd ps sp) (hr:ja k X.A) (he:JE X o ta) (ha:JA X (e::es) t)
   (hst:starEach (e::es) X.env=(false,eval e X.env)::starEach es X.env:=by rfl) (hpl:(backTo pos (starEach es X.env)).any (·.1)=false:=by rfl)
   (ht:eval (.Call (.Attribute o m apos) (e::es) [] pos) X.env=(do
     let ov <-eval o X.env
     standAt apos.atName
     let (f,first) <-holding [ov] (getMethod ov m pl)
     callWith pos f first (backTo pos (starEach (e::es) X.env)) (backToKw pos (keywordEach [] X.env))):=by rfl):
   JE X (.Call (.Attribute o m apos) (e::es) [] pos) (z8 C m sp [] E0 ta t):=yQ he c h.me G hr h.bi .nil zq ha hst hpl ht
structure GM (K:PySem.W.Frag) (mg:Str->Option Value) (CG:Addr):Prop where
 cls:∃f fd,KO K mg CG f fd
 nm:∃f fd,uw K CG "names" "Ground.names" Zb ["self"] f fd
 fr:∃f fd,uw K CG "roads_from" "Ground.roads_from" zk ["self","name"] f fd
 isn:∃f fd,jx K mg "is_name" Za ["thing"] f fd
theorem jW.ins {CG:Addr} {H:Hp} {a:Addr} {rs:jV} (h:jW CG H a rs):∃dx fs,H a=some (.ins CG dx fs)/\fs.lookup (Str.ofString "names")=none/\fs.lookup (Str.ofString "roads_from")=none:=by
 obtain⟨dx,lo,rd,kvs,h1,_⟩:=h
 refine⟨dx,_,h1,?_,?_⟩
 . have e1:((Str.ofString "names")==(Str.ofString "order"))=false:=by decide+kernel
   have e2:((Str.ofString "names")==(Str.ofString "roads"))=false:=by decide+kernel
   simp only[List.lookup]
   rw[e1,e2]
 . have e1:((Str.ofString "roads_from")==(Str.ofString "order"))=false:=by decide+kernel
   have e2:((Str.ofString "roads_from")==(Str.ofString "roads"))=false:=by decide+kernel
   simp only[List.lookup]
   rw[e1,e2]
theorem ZY {zs:List Str} {i:Nat} {y:V} (h:(zs.map V.str)[i]?=some y):∃z,zs[i]?=some z/\z∈zs/\y=.str z:=by
 rw[List.getElem?_map]at h
 cases e:zs[i]? with
 | none=>rw[e]at h;cases h
 | some z=>rw[e]at h;exact⟨z,rfl,List.mem_of_getElem? e,(Option.some.inj h).symm⟩
theorem Wq {rs:jV} (r:Str×List Str):(JF rs r).length<=rs.length:=by
 have:=List.length_filter_le (λz=>Z6 (.str z) (r.2.map V.str)) (rs.map (·.1))
 rwa [List.length_map]at this
theorem QV {c:Bool} {A B:Prop} (hc:c=false) (h:B):if c=true then A else B:=by
 rw[hc]
 exact jI h
theorem Z4 {c:Bool} {A B:Prop} (hc:c=true) (h:A):if c=true then A else B:=by
 rw[if_pos hc]
 exact h
abbrev Qq:Stmt:=Z7 (top 7) 0
structure xk (K:PySem.W.Frag) (mg:Str->Option Value) (D:Addr) (x qual:Str) (st:Stmt) (fld:Str) (C f:Addr) (fd:FuncData):Prop where
 cls:ZW K C (.ref D::jP)
 mkr:KM K C f (.ref D::jP)
 ns:mg x=some (.ref C)
 na:jY K C fld
 fn:j3 K "__init__" qual st f fd
 bi:jz K fd ["self",fld] []
theorem Gv (D:Addr):Ws (.ref D::jP):=rfl
theorem Uf (D:Addr):(Value.ref D::jP).contains (.type "BaseException")=true:=rfl
theorem xk.rcls {K:PySem.W.Frag} {mg:Str->Option Value} {D C f:Addr} {x qual fld:Str} {st:Stmt} {fd:FuncData} (h:xk K mg D x qual st fld C f fd):UD K C:=⟨f,_,h.mkr,Uf D⟩
def Ga (C:Addr) (fld:Str):Sp:=λvs H Q _=>∃e y,vs=[.ref e,y]/\H e=some (ZF e C)/\∀dx,H dx=none->Q .non (upd (upd H e (QJ e C dx)) dx (.xd [(fld,y)]))
theorem Z2 {H:Hp} {e dx C:Addr} {fs:List (Str×V)} (h1:H e=none) (h2:upd H e (ZF e C) dx=none):
   Same H (upd (upd (upd H e (ZF e C)) e (QJ e C dx)) dx (.xd fs))/\upd (upd (upd H e (ZF e C)) e (QJ e C dx)) dx (.xd fs) e=some (QJ e C dx)/\upd (upd (upd H e (ZF e C)) e (QJ e C dx)) dx (.xd fs) dx=some (.xd fs):=by
 have ne:e≠dx:=λz=>by rw[<-z,qd]at h2;cases h2
 refine⟨λb o hb=>?_,?_,qd⟩
 . have b1:b≠e:=qo hb h1
   have b2:b≠dx:=λz=>by rw[<-z,qe b1,hb]at h2;cases h2
   rw[qe b2,qe b1,qe b1];exact hb
 . rw[qe ne];exact qd
def Qo (H H':Hp):Prop:=∀b o,H b=some o->(∀φ,o≠.ext φ)->H' b=some o
theorem _root_.L2.Same.keep {H H':Hp} (s:Same H H'):Qo H H':=λb o h _=>s b o h
theorem Qo.trans {H H' H'':Hp} (a:Qo H H') (b:Qo H' H''):Qo H H'':=λc o h n=>b c o (a c o h n) n
theorem Qo.refl (H:Hp):Qo H H:=λ_ _ h _=>h
theorem _root_.L2.SqT.keep {K:PySem.W.Frag} {H H':Hp} {p:Addr} {xs:List V} (h:SqT K H p xs) (s:Qo H H'):SqT K H' p xs:=by
 rcases h with (h | ⟨o,h⟩) | h
 . exact .inl (.inl (s _ _ h (λ_ z=>nomatch z)))
 . exact .inl (.inr ⟨o,s _ _ h (λ_ z=>nomatch z)⟩)
 . exact .inr h
theorem _root_.L2.SqL.keep {K:PySem.W.Frag} {H H':Hp} {p:Addr} {xs:List V} (h:SqL K H p xs) (s:Qo H H'):SqL K H' p xs:=by
 rcases h with (h | ⟨o,h⟩) | h
 . exact .inl (.inl (s _ _ h (λ_ z=>nomatch z)))
 . exact .inl (.inr ⟨o,s _ _ h (λ_ z=>nomatch z)⟩)
 . exact .inr h
theorem jW.keep {CG:Addr} {H H':Hp} {a:Addr} {rs:jV} (h:jW CG H a rs) (s:Qo H H'):jW CG H' a rs:=by
 obtain⟨dx,lo,rd,kvs,h1,h2,h3,h4⟩:=h
 exact⟨dx,lo,rd,kvs,s _ _ h1 (λ_ z=>nomatch z),s _ _ h2 (λ_ z=>nomatch z),s _ _ h3 (λ_ z=>nomatch z),λr hr=>let ⟨q,a,b⟩:=h4 r hr;⟨q,a,s _ _ b (λ_ z=>nomatch z)⟩⟩
theorem TyOf.keep {K:PySem.W.Frag} {H H':Hp} {v:V} {t:Value} (h:TyOf K H v t) (s:Qo H H'):TyOf K H' v t:=by
 cases h with
 | non=>exact .non
 | bl x=>exact .bl x
 | int i=>exact .int i
 | str x=>exact .str x
 | flt x=>exact .flt x
 | lst e=>exact .lst (s _ _ e (λ_ z=>nomatch z))
 | frz e=>exact .frz (s _ _ e (λ_ z=>nomatch z))
 | tup e=>exact .tup (s _ _ e (λ_ z=>nomatch z))
 | dK e=>exact .dK (s _ _ e (λ_ z=>nomatch z))
 | dT e=>exact .dT (s _ _ e (λ_ z=>nomatch z))
 | ins e a b c d f=>exact .ins (s _ _ e (λ_ z=>nomatch z)) a b c d f
mutual
theorem YU {K:PySem.W.Frag} {H H':Hp} (s:Qo H H'):∀{x:V} {d:PyData},DV K H x d->DV K H' x d
 | _,_,.non=>.non
 | _,_,.bl b=>.bl b
 | _,_,.int i=>.int i
 | _,_,.str x=>.str x
 | _,_,.lst h hs=>.lst (h.keep s) (dvs_keep s hs)
 | _,_,.tup h hs=>.tup (h.keep s) (dvs_keep s hs)
theorem dvs_keep {K:PySem.W.Frag} {H H':Hp} (s:Qo H H'):∀{x:List V} {d:List PyData},DVs K H x d->DVs K H' x d
 | _,_,.nil=>.nil
 | _,_,.cons h hs=>.cons (YU s h) (dvs_keep s hs)
end
structure uh (K:PySem.W.Frag) (mg:Str->Option Value) (D CP CH:Addr):Prop where
 nD:mg "HeapError"=some (.ref D)
 nH:mg "NoHeap"=some (.ref CH)
 k1:PySem.W.kitOne K (.ref CP) (.ref D)=some true
 k2:PySem.W.kitOne K (.ref CP) (.ref CH)=some false
 spc:PySem.W.specialIn K (.builtin "object.__class__") "__get__"=some (some (.builtin "getset_descriptor.__get__"))
 tks:PySem.W.takesIn K (.builtin "object.__class__")=some true
 rep:mg "repr"=none
theorem Kr {X:Cx} {x:Str} {st:Stmt} {ps:List Str} {f:Addr} {fd:FuncData} {k:Nat} {sp:Sp} {E:L2.St->XK} {e:Expr} {es:List Expr} {t:TA} {p pos:Pos} (h:jx X.K X.mg x st ps f fd) (G:qv X.prog X.w X.K X.mg X.base (Jt X.prog X.w) k f fd ps sp) (hr:ja k X.A) (hx:Q0 (Jt X.prog X.w) X E)
   (hg:Gl X x) (ha:JA X (e::es) t) (hdb:(x==("__debug__":Str))=false:=by decide) (he:starEach (e::es) X.env=(false,eval e X.env)::starEach es X.env:=by rfl) (hpl:(backTo pos (starEach es X.env)).any (·.1)=false:=by rfl):
   JE X (.Call (.Name x p) (e::es) [] pos) (UN sp [] E t):=.of (vk G hr hg h.ns h.fn.kp h.bi .nil hx ha.to hdb he hpl)
theorem kN {kvs:List (qS×V)}:∀{i:Nat} {k:qS} {v:V},(kvs.map (·.1)).Nodup->kvs[i]?=some (k,v)->jy kvs k=some v:=by
 induction kvs with
 | nil=>intro i k v _ e;simp at e
 | cons p r ih=>
   intro i k v hn e
   rw[List.map_cons,List.nodup_cons]at hn
   cases i with
   | zero=>
     rw[List.getElem?_cons_zero]at e
     obtain rfl:=Option.some.inj e
     exact qX rfl
   | succ i=>
     rw[List.getElem?_cons_succ]at e
     have:¬p.1=k:=λz=>hn.1 (z▸List.mem_map.mpr ⟨_,List.mem_of_getElem? e,rfl⟩)
     rw[qY this]
     exact ih hn.2 e
theorem Ve {H:Hp}:∀(ps:List Addr) (rs:jV),ju H ps rs->∃qs:List Addr,qs.length=rs.length/\∀(i:Nat) (p q:Addr) (r:Str×List Str),ps[i]?=some p->rs[i]?=some r->qs[i]?=some q->H p=some (.tup [.str r.1,.ref q])/\H q=some (.tup (r.2.map V.str))
 | [],[],_=>⟨[],rfl,λi p q r e=>by simp at e⟩
 | [],_::_,h=>by cases h.1
 | _::_,[],h=>by cases h.1
 | p::ps,r::rs,h=>by
   obtain⟨qs,l,k⟩:=Ve ps rs ⟨Nat.succ.inj h.1,λi a b e1 e2=>h.2 (i+1) a b (by simpa using e1) (by simpa using e2)⟩
   obtain⟨q,a,b⟩:=h.2 0 p r rfl rfl
   refine⟨q::qs,by simp [l],λi p' q' r' e1 e2 e3=>?_⟩
   cases i with
   | zero=>cases e1;cases e2;cases e3;exact⟨a,b⟩
   | succ i=>exact k i p' q' r' (by simpa using e1) (by simpa using e2) (by simpa using e3)
def Zf (rs:jV) (qs:List Addr):List (qS×V):=List.zipWith (λr q=>((Sum.inr r.1:qS),V.ref q)) rs qs
theorem ZB:∀{rs:jV} {qs:List Addr},qs.length=rs.length->(Zf rs qs).map (·.1)=(rs.map (·.1)).map Sum.inr
 | [],[],_=>rfl
 | [],_::_,h=>by cases h
 | _::_,[],h=>by cases h
 | r::rs,q::qs,h=>by
   show Sum.inr r.1::(Zf rs qs).map (·.1)=_
   rw[ZB (Nat.succ.inj h)]
   rfl
theorem zB {rs:jV} {qs:List Addr} (h:qs.length=rs.length):(Zf rs qs).length=rs.length:=by
 have:=congrArg List.length (ZB h)
 simpa using this
theorem Vm {rs:jV} {qs:List Addr} (h:qs.length=rs.length) {i:Nat} {r:Str×List Str} (e:rs[i]?=some r):∃q,qs[i]?=some q/\(Zf rs qs)[i]?=some (Sum.inr r.1,.ref q):=by
 have hi:i < qs.length:=by rw[h];exact(List.getElem?_eq_some_iff.mp e).1
 refine⟨qs[i],List.getElem?_eq_getElem hi,?_⟩
 unfold Zf
 rw[List.getElem?_zipWith,e,List.getElem?_eq_getElem hi]
theorem vI {rs:jV} {qs:List Addr} (h:qs.length=rs.length) {i:Nat} {kv:qS×V} (e:(Zf rs qs)[i]?=some kv):∃r q,rs[i]?=some r/\qs[i]?=some q/\kv=(Sum.inr r.1,.ref q):=by
 have hi:i < rs.length:=by rw[<-zB h];exact(List.getElem?_eq_some_iff.mp e).1
 obtain⟨q,e1,e2⟩:=Vm h (List.getElem?_eq_getElem hi)
 rw[e2]at e
 exact⟨_,q,List.getElem?_eq_getElem hi,e1,(Option.some.inj e).symm⟩
theorem jL {z:Str} (h:qK z=true):(∀c∈z.cps.toList,c<=122)/\z.length<=8/\1<=z.length:=by
 unfold qK at h
 simp only[Bool.and_eq_true,decide_eq_true_eq]at h
 refine⟨λc hc=>?_,h.1.2,h.1.1⟩
 have:=List.all_eq_true.mp h.2 c hc
 unfold jp at this
 simp only[Bool.and_eq_true,decide_eq_true_eq]at this
 exact this.2
theorem Z1 {z:Str} (h:qK z=true):PyData.strOk z=true:=by
 unfold PyData.strOk
 rw[Array.all_eq_true_iff_forall_mem]
 intro c hc
 have:=(jL h).1 c (by simpa using hc)
 exact decide_eq_true (by omega)
def dL (zs:List Str):PyData:=.list (zs.map PyData.str)
theorem XW {K:PySem.W.Frag} {H:Hp}:∀zs:List Str,DVs K H (zs.map V.str) (zs.map PyData.str)
 | []=>.nil
 | z::zs=>.cons (.str z) (XW zs)
theorem uk {K:PySem.W.Frag} {H:Hp} {p:Addr} {zs:List Str} (h:H p=some (.lst (zs.map V.str))):DV K H (.ref p) (dL zs):=.lst (.of h) (XW zs)
theorem KE:∀{zs:List Str},(∀z∈zs,qK z=true)->PyData.canLayAll0 (zs.map PyData.str)=true
 | [],_=>rfl
 | z::zs,h=>by
   rw[List.map_cons,PyData.canLayAll0,KE λy hy=>h y (List.mem_cons_of_mem _ hy),Bool.and_true]
   exact Z1 (h z List.mem_cons_self)
theorem KA:∀zs:List Str,PyData.depthAll (zs.map PyData.str)=0
 | []=>rfl
 | z::zs=>by
   rw[List.map_cons]
   simp only[PyData.depthAll,PyData.depth,KA zs]
   rfl
theorem shL {zs:List Str} (h:∀z∈zs,qK z=true):PySem.SeqAt.shaped (dL zs)=true:=by
 unfold PySem.SeqAt.shaped
 rw[Bool.and_eq_true]
 refine⟨KE h,decide_eq_true ?_⟩
 unfold dL
 simp only[PyData.depth,KA zs]
 decide
theorem YF {z:Str} (h:∀c∈z.cps.toList,c<=122):(reprText z).length<=10*z.length+2:=StrLaws.reprText_len z λc hc=>Nat.lt_of_le_of_lt (h c hc) (by decide)
end Rh
set_option Elab.async false
set_option linter.all false
set_option maxRecDepth 100000
set_option maxHeartbeats 4000000
namespace Rh
open PySem L2 PyProof.Rows
abbrev YC:Stmt:=top 11
abbrev QN:Stmt:=top 24
abbrev Q9:Stmt:=top 27
abbrev QE:Stmt:=top 28
abbrev Xj:Stmt:=top 29
abbrev Z0:Stmt:=top 30
abbrev W8:Stmt:=top 31
abbrev Ja:Stmt:=top 32
def Kl (rs:jV) (j:Nat) (z:Str):List (Nat×Str):=(Ky rs z).map λe=>(j,e)
def QK (rs:jV) (hs:List Str) (n:Nat):List (Nat×Str):=(List.range n).flatMap λj=>Kl rs j (za hs j)
theorem zz (rs:jV) (hs:List Str) (n:Nat):QK rs hs (n+1)=QK rs hs n++Kl rs n (za hs n):=by
 unfold QK
 rw[List.range_succ,List.flatMap_append]
 simp
def kH (m:Nat×Str):List V:=[.int (m.1:Int),.str m.2]
def qU (H:Hp) (ps:List Addr) (ms:List (Nat×Str)):Prop:=ps.length=ms.length/\∀(i:Nat) (p:Addr) (m:Nat×Str),ps[i]?=some p->ms[i]?=some m->H p=some (.tup (kH m))
theorem qU.mono {H H':Hp} {ps:List Addr} {ms:List (Nat×Str)} (h:qU H ps ms) (s:Same H H'):qU H' ps ms:=⟨h.1,λi p m e1 e2=>s _ _ (h.2 i p m e1 e2)⟩
theorem qU.keep {H H':Hp} {ps:List Addr} {ms:List (Nat×Str)} (h:qU H ps ms) (s:Qo H H'):qU H' ps ms:=⟨h.1,λi p m e1 e2=>s _ _ (h.2 i p m e1 e2) (λ_ z=>nomatch z)⟩
theorem qU.nil (H:Hp):qU H [] []:=⟨rfl,λi p m e=>by simp at e⟩
theorem qU.app {H:Hp} {ps qs:List Addr} {ms ns:List (Nat×Str)} (h:qU H ps ms) (k:qU H qs ns):qU H (ps++qs) (ms++ns):=by
 refine⟨by rw[List.length_append,List.length_append,h.1,k.1],λi p m e1 e2=>?_⟩
 by_cases hi:i < ps.length
 . rw[List.getElem?_append_left hi]at e1
   rw[List.getElem?_append_left (by rw[<-h.1];exact hi)]at e2
   exact h.2 i p m e1 e2
 . have hi':ps.length<=i:=Nat.le_of_not_lt hi
   rw[List.getElem?_append_right hi']at e1
   rw[List.getElem?_append_right (by rw[<-h.1];exact hi'),<-h.1]at e2
   exact k.2 _ p m e1 e2
theorem qU.one {H:Hp} {p:Addr} {m:Nat×Str} (h:H p=some (.tup (kH m))):qU H [p] [m]:=by
 refine⟨rfl,λi p' m' e1 e2=>?_⟩
 cases i with
 | zero=>cases e1;cases e2;exact h
 | succ i=>simp at e1
structure jo (H:Hp) (h:Addr) (rs:jV) (hs:List Str):Prop where
 at_:H h=some (.lst (hs.map V.str))
 le:hs.length<=8
 in_:∀z∈hs,∃r∈rs,r.1=z
theorem jo.mono {H H':Hp} {h:Addr} {rs:jV} {hs:List Str} (x:jo H h rs hs) (s:Same H H'):jo H' h rs hs:=⟨s _ _ x.at_,x.le,x.in_⟩
theorem yY {rs:jV} (g:qF rs) {r:Str×List Str} (hr:r∈rs):(Ky rs r.1).length<=rs.length:=by
 rw[Zj g.nd hr]
 exact Wq r
theorem Jo {rs:jV} {hs:List Str} (g:qF rs) (le:rs.length<=14) (hi:∀z∈hs,∃r∈rs,r.1=z):∀n,n<=hs.length->(QK rs hs n).length<=n*14
 | 0,_=>Nat.le_refl _
 | n+1,h=>by
   rw[zz,List.length_append]
   have h1:=Jo g le hi n (Nat.le_of_lt h)
   obtain⟨r,hr,e⟩:=hi _ (ZX h)
   have h2:=yY g hr
   rw[e]at h2
   unfold Kl
   rw[List.length_map]
   omega
theorem Yj {rs:jV} (g:qF rs) {z:Str} (h:∃r∈rs,r.1=z):qK z=true:=by
 obtain⟨r,hr,rfl⟩:=h
 exact g.nm r hr
def W1 (CG:Addr):Sp:=λvs H Q _=>∃(g:Addr) (rs:jV) (z:Str),vs=[.ref g,.str z]/\jW CG H g rs/\(∃r∈rs,r.1=z)/\∀H',Same H H'->Q .non H'
def Jl (CG:Addr):Sp:=λvs H Q _=>∃(g h:Addr) (rs:jV) (hs:List Str),vs=[.ref g,.ref h]/\jW CG H g rs/\jo H h rs hs/\∀H',Same H H'->Q .non H'
def W3 (CG:Addr):Sp:=λvs H Q _=>∃(g h:Addr) (rs:jV) (hs:List Str),vs=[.ref g,.ref h]/\jW CG H g rs/\qF rs/\rs.length<=14/\jo H h rs hs/\
 ∀H' l ps,Same H H'->H l=none->H' l=some (.lst (ps.map V.ref))->qU H' ps (QK rs hs hs.length)->Q (.ref l) H'
def US (CG:Addr):Sp:=λvs H Q _=>∃(g h:Addr) (rs:jV) (hs:List Str),vs=[.ref g,.ref h]/\jW CG H g rs/\qF rs/\rs.length<=14/\jo H h rs hs/\
 ∀H',Same H H'->Q (.bl (QK rs hs hs.length).isEmpty) H'
section
variable {P:Program} {w:World} {K:PySem.W.Frag} {mg:Str->Option Value} {base:Heap}
abbrev kG:List Str:=["ground","thing"]
theorem Gd:qy kG kG (qi QN):=⟨rfl,rfl,rfl,by decide+kernel,rfl,by decide+kernel,by decide+kernel⟩
theorem vq {f CG:Addr} {fd:FuncData} (F:j3 K "need_place" "need_place" QN f fd) (G:Qd mg) (M:GM K mg CG):qv P w K mg base jd 2 f fd kG (W1 CG):=by
 obtain⟨fC,fdC,C⟩:=M.cls
 obtain⟨fN,fdN,hN⟩:=M.nm
 have GN:qv P w K mg base jd 1 fN fdN ["self"] (Xf CG):=V8 hN.fn C G
 refine F.okJ Gd (λvs H Q E h=>?_) (λcdv A outer s H vs Q E hr h=>?_)
 . obtain⟨g,rs,z,rfl,_⟩:=h
   rfl
 . obtain⟨g,rs,z,rfl,gr,hz,q⟩:=h
   refine⟨_,qm (q5 (qw Zd (jv 1) (Kp hN C.cl GN hr (jv 0)) (by with_unfolding_all rfl)) qL qE),?_⟩
   obtain⟨dx,fs,hg,l1,l2⟩:=gr.ins
   refine⟨_,rfl,_,rfl,g,dx,fs,rfl,hg,l1,g,rs,rfl,gr,λl hl=>⟨l,_,rfl,.inl (.of qd),rfl,Jp _,_,rfl,?_⟩⟩
   have e:Z6 (.str z) ((rs.map (·.1)).map V.str)=true:=Vq (by obtain⟨r,hr',rfl⟩:=hz;exact List.mem_map.mpr ⟨r,hr',rfl⟩)
   show if (!Z6 (.str z) ((rs.map (·.1)).map V.str))=true then _ else _
   rw[e]
   exact jI (q _ (qj hl))
abbrev nNH:List Str:=["ground","heap","thing"]
theorem uP:qy nNH ["ground","heap"] (qi Q9):=⟨rfl,rfl,rfl,by decide+kernel,rfl,by decide+kernel,by decide+kernel⟩
theorem Jc {f fP CG:Addr} {fd fdP:FuncData} (F:j3 K "need_heap" "need_heap" Q9 f fd) (B:JN mg) (G:Qd mg) (T:Qc K mg) (M:GM K mg CG) (hP:jx K mg "need_place" QN kG fP fdP) (mt:∃t,mg "MOST_TOKENS"=some (.int 8 t)):qv P w K mg base jd 3 f fd ["ground","heap"] (Jl CG):=by
 have GP:qv P w K mg base jd 2 fP fdP kG (W1 CG):=vq hP.fn G M
 obtain⟨tk,hmt⟩:=mt
 refine F.okJ uP (λvs H Q E h=>?_) (λcdv A outer s H vs Q E hr h=>?_)
 . obtain⟨g,h',rs,hs,rfl,_⟩:=h
   rfl
 . obtain⟨g,h',rs,hs,rfl,gr,hh,q⟩:=h
   refine⟨_,qh (q5 (jM (jq (qr jg (by rfl) T.isi boot_isinstance (qb (jv 1) (qb (j2 (v:=.ty "list") (by rfl) G.lst boot_list rfl) qg))))) qL qE)
     (qh (q5 (qw Xq (qr qC (by rfl) B.len boot_len (qb (jv 1) qg)) (QU (v:=.int 8) (by rfl) hmt ⟨_,rfl⟩) (qD _)) qL qE)
     (qm (jr PassesOwn.never rfl (jk (jv 1)) (qz (i:=2) uP.nd rfl (Or.inl rfl)) (qm (qV (qQ hP GP hr (by rfl) (qb (jv 0) (qb (jv 2) qg)))))))),?_⟩
   refine⟨_,rfl,_,_,_,_,rfl,rfl,.lst hh.at_,T.kll,_,rfl,jI ?_⟩
   refine⟨_,rfl,h',_,rfl,.inl (.of hh.at_),_,_,rfl,rfl,_,rfl,QV (decide_eq_false ?_) ?_⟩
   . have:=hh.le
     rw[List.length_map]
     omega
   refine⟨_,rfl,h',rfl,⟨_,.of hh.at_⟩,?_⟩
   refine jT (K:=K) (a:=h') (xs:=hs.map V.str) (λi σ' G=>∃v,σ'=[some (.ref g),some (.ref h'),v]/\Same H G) ⟨_,rfl,Same.refl H⟩ (λi σ' G _ ⟨_,_,s⟩=>.of (s _ _ hh.at_)) ?_ ?_
   . rintro i y σ' G hy ⟨v,rfl,sG⟩
     obtain⟨z,ez,hz,rfl⟩:=ZY hy
     exact⟨_,rfl,_,rfl,g,rs,z,rfl,gr.mono sG,hh.in_ z hz,λH' s'=>⟨_,rfl,sG.trans s'⟩⟩
   . rintro σ' G ⟨v,rfl,sG⟩
     exact q G sG
abbrev nMo:List Str:=["ground","heap","moves","token","place"]
theorem yc:qy nMo ["ground","heap"] (qi QE):=⟨rfl,rfl,rfl,by decide+kernel,rfl,by decide+kernel,by decide+kernel⟩
theorem vv {f fH fP CG:Addr} {fd fdH fdP:FuncData} (F:j3 K "moves_of" "moves_of" QE f fd) (B:JN mg) (G:Qd mg) (T:Qc K mg) (M:GM K mg CG) (hP:jx K mg "need_place" QN kG fP fdP) (mt:∃t,mg "MOST_TOKENS"=some (.int 8 t))
   (hH:jx K mg "need_heap" Q9 ["ground","heap"] fH fdH):qv P w K mg base jd 4 f fd ["ground","heap"] (W3 CG):=by
 obtain⟨fC,fdC,C⟩:=M.cls
 obtain⟨fR,fdR,hR⟩:=M.fr
 obtain⟨fN,fdN,hN⟩:=M.isn
 have GH:qv P w K mg base jd 3 fH fdH ["ground","heap"] (Jl CG):=Jc hH.fn B G T M hP mt
 have GR:qv P w K mg base jd 2 fR fdR ["self","name"] (W6 CG):=vA hR.fn C B G T hN
 refine F.okJ yc (λvs H Q E h=>?_) (λcdv A outer s H vs Q E hr h=>?_)
 . obtain⟨g,h',rs,hs,rfl,_⟩:=h
   rfl
 . obtain⟨g,h',rs,hs,rfl,gr,gd,le,hh,q⟩:=h
   have r2:ja 2 (A.deeper (envOfC "moves_of" (qi QE) s.heap.objs.size f cdv)):=hr.mono (by decide)
   refine⟨_,qh (qV (qQ hH GH hr (by rfl) (qb (jv 0) (qb (jv 1) qg))))
     (qh (qx (i:=2) yc.nd rfl (Or.inl rfl) (jl qg))
     (qh (jr PassesOwn.never rfl (YM (by rfl) T.enu (qb (jv 1) qg)) (JK rfl (qZ (qz (i:=3) yc.nd rfl (Or.inr rfl)) (qZ (qz (i:=4) yc.nd rfl (Or.inl rfl)) Qg)))
       (qm (qV (Jh PySem.F.plainAttrs_list PySem.F.slot_list_extend PySem.F.type_list_extend Ud (jv 2) (qb
         (Zh (N':=["end","token"]) (ix:=[none,some 3]) (te:=kQ (jC (jH 1) (jC (jH 0) JB))) rfl ⟨rfl,rfl,rfl,rfl,rfl⟩ (jk (Ko hR C.cl GR r2 (jv 0) (qb (jv 4) qg))) (λC s2 H2 fp pins=>
           ⟨qz (i:=0) (show (["end","token"]:List Str).Nodup by decide+kernel) rfl (Or.inl rfl),Qf,jm (qb (jv 1) (qb (jv 0) qg))⟩)) qg)))))
     (qm (qJ (jv 2))))),?_⟩
   refine⟨_,rfl,_,rfl,g,h',rs,hs,rfl,gr,hh,λH1 s1=>?_⟩
   refine⟨by show 0<=sizeLine;decide,λl hl=>?_⟩
   have hl0:H l=none:=by
     cases z:H l with
     | none=>rfl
     | some u=>rw[s1 _ _ z]at hl;cases hl
   have s2:Same H (upd H1 l (.lst [])):=s1.trans (qj hl)
   have hl2:upd H1 l (.lst []) l=some (.lst []):=qd
   generalize upd H1 l (.lst [])=H2 at s2 hl2
   refine⟨_,rfl,h',rfl,⟨_,.of (s2 _ _ hh.at_)⟩,?_⟩
   refine zL (K:=K) (a:=h') (xs:=hs.map V.str) (λi σ' G=>∃v3 v4 ps,σ'=[some (.ref g),some (.ref h'),some (.ref l),v3,v4]/\Same H G/\G l=some (.lst (ps.map V.ref))/\qU G ps (QK rs hs i))
     ⟨_,_,[],rfl,s2,hl2,qU.nil _⟩ (λi σ' G _ ⟨_,_,_,_,s,_⟩=>.of (s _ _ hh.at_)) ?_ ?_
   . rintro i y σ' G p hy hp ⟨v3,v4,ps,rfl,sG,hlG,mv⟩
     obtain⟨z,ez,hz,rfl⟩:=ZY hy
     have hi:=(List.getElem?_eq_some_iff.mp ez).1
     have ezz:za hs i=z:=by
       have:=JP hi
       rw[ez]at this
       exact(Option.some.inj this).symm
     refine⟨p,_,rfl,.of qd,rfl,_,_,rfl,_,_,rfl,rfl,?_⟩
     have sP:Same G (upd G p (.tup [.int (i:Nat),.str z])):=qj hp
     have sGP:=sG.trans sP
     have hlP:=sP _ _ hlG
     have mvP:=mv.mono sP
     generalize upd G p (.tup [.int (i:Nat),.str z])=G1 at sP sGP hlP mvP
     obtain⟨r,hr',er⟩:=hh.in_ z hz
     obtain⟨dx,fs,hg,l1,l2⟩:=(gr.mono sGP).ins
     refine⟨_,rfl,.inl ⟨rfl,_,.of hlP⟩,_,rfl,g,dx,fs,rfl,hg,l2,_,rfl,g,rs,r,by rw[er];rfl,gr.mono sGP,hr',gd.nm r hr',λG2 e s2' he=>?_⟩
     have sE:Same G1 (upd G2 e (.lst ((JF rs r).map V.str))):=s2'.trans (qj he)
     have hE:upd G2 e (.lst ((JF rs r).map V.str)) e=some (.lst ((JF rs r).map V.str)):=qd
     generalize upd G2 e (.lst ((JF rs r).map V.str))=G3 at sE hE
     refine⟨e,rfl,⟨_,.of hE⟩,λD hD=>?_⟩
     refine j6 (K:=K) (a:=e) (xs:=(JF rs r).map V.str) (λj σ'' G4=>∃v0 qs,σ''=[v0,some (.int (i:Nat))]/\Same G3 G4/\G4 D=some (.lst (qs.map V.ref))/\qU G4 qs (((JF rs r).take j).map λy=>(i,y)))
       ⟨none,[],rfl,qj hD,qd,qU.nil _⟩ (λj σ'' G4 _ ⟨_,_,_,s,_⟩=>.of (s _ _ hE)) ?_ ?_
     . rintro j y σ'' G4 hy ⟨v0,qs,rfl,s4,hD4,mq⟩
       obtain⟨x,ex,hx,rfl⟩:=ZY hy
       have hj:=(List.getElem?_eq_some_iff.mp ex).1
       refine⟨_,rfl,_,rfl,by show 2<=sizeLine;decide,λt ht=>⟨_,qp hD4 ht,?_,_,qs++[t],rfl,?_,?_,?_⟩⟩
       . rw[List.length_map,mq.1,List.length_map,List.length_take]
         have:=Wq (rs:=rs) r
         exact qt (by omega)
       . exact Same.upd (s4.trans (qj ht)) hD
       . rw[qd,List.map_append]
         rfl
       . have nt:t≠D:=λz=>by rw[z,hD4]at ht;cases ht
         have e1:qU (upd (upd G4 t (.tup [.int (i:Nat),.str x])) D (.lst (qs.map V.ref++[.ref t]))) qs (((JF rs r).take j).map λy=>(i,y)):=⟨mq.1,λk p' m a b=>by
           have z:=mq.2 k p' m a b
           have n1:p'≠D:=λe=>by rw[e,hD4]at z;cases z
           rw[qe n1]
           exact qp z ht⟩
         rw[List.take_add_one,ex,List.map_append]
         exact e1.app (qU.one (by rw[qe nt];exact qd))
     . rintro σ'' G4 ⟨v0,qs,rfl,s4,hD4,mq⟩
       rw[List.length_map,List.take_of_length_le (Nat.le_refl _)]at mq
       have sHG:Same H G4:=(sGP.trans sE).trans s4
       have hl4:=s4 _ _ (sE _ _ hlP)
       have mv4:=(mvP.mono sE).mono s4
       have ml:=Jo gd le hh.in_ i (Nat.le_of_lt hi)
       have l8:=hh.le
       have rl:=Wq (rs:=rs) r
       refine⟨l,D,_,_,rfl,rfl,hl4,hD4,?_,?_⟩
       . rw[List.length_map,List.length_map,mv4.1,mq.1,List.length_map]
         exact Nat.le_of_lt (qt (by omega))
       . refine⟨_,_,ps++qs,rfl,Same.upd sHG hl0,by rw[qd,List.map_append],?_⟩
         rw[zz,ezz,Kl,<-er,Zj gd.nd hr']
         have ne:∀{p':Addr} {m:Nat×Str},G4 p'=some (.tup (kH m))->p'≠l:=λh e=>by rw[e,hl4]at h;cases h
         have up:∀{ps:List Addr} {ms:List (Nat×Str)},qU G4 ps ms->qU (upd G4 l (.lst (List.map V.ref ps++List.map V.ref qs))) ps ms:=λh=>⟨h.1,λk p' m a b=>by
           have z:=h.2 k p' m a b
           rw[qe (ne z)]
           exact z⟩
         refine qU.app ?_ ?_
         . exact⟨mv4.1,λk p' m a b=>by
             have z:=mv4.2 k p' m a b
             rw[qe (ne z)]
             exact z⟩
         . exact⟨mq.1,λk p' m a b=>by
             have z:=mq.2 k p' m a b
             rw[qe (ne z)]
             exact z⟩
   . rintro σ' G ⟨v3,v4,ps,rfl,sG,hlG,mv⟩
     rw[List.length_map]at mv
     exact⟨_,rfl,q G l ps sG hl0 hlG mv⟩
end
end Rh
set_option Elab.async false
set_option linter.all false
set_option maxRecDepth 100000
set_option maxHeartbeats 4000000
namespace Rh
open PySem L2 PyProof.Rows
theorem Rg (K:PySem.W.Frag):PySem.W.kitOne K (.type "int") (.type "int")=some true:=by kernel_rfl
theorem Ri (K:PySem.W.Frag):PySem.W.kitOne K (.type "int") (.type "bool")=some false:=by kernel_rfl
theorem Rl (K:PySem.W.Frag):PySem.W.kitOne K (.type "bool") (.type "bool")=some true:=by kernel_rfl
theorem Rk (K:PySem.W.Frag):PySem.W.kitOne K (.type "bool") (.type "int")=some true:=by kernel_rfl
theorem Rb (K:PySem.W.Frag):PySem.W.kitOne K (.type "NoneType") (.type "tuple")=some false:=by kernel_rfl
theorem Rf (K:PySem.W.Frag):PySem.W.kitOne K (.type "int") (.type "tuple")=some false:=by kernel_rfl
theorem G0 (K:PySem.W.Frag):PySem.W.kitOne K (.type "str") (.type "tuple")=some false:=by kernel_rfl
theorem Re (K:PySem.W.Frag):PySem.W.kitOne K (.type "list") (.type "tuple")=some false:=by kernel_rfl
def mD (m:Nat×Str):PyData:=.tuple [.int (m.1:Int),.str m.2]
theorem qU.tail {H:Hp} {p:Addr} {ps:List Addr} {m:Nat×Str} {ms:List (Nat×Str)} (h:qU H (p::ps) (m::ms)):qU H ps ms:=⟨Nat.succ.inj h.1,λi a b e1 e2=>h.2 (i+1) a b (by simpa using e1) (by simpa using e2)⟩
theorem xO {K:PySem.W.Frag} {H:Hp} {p:Addr} {m:Nat×Str} (h:H p=some (.tup (kH m))):DV K H (.ref p) (mD m):=.tup (.of h) (.cons (.int _) (.cons (.str _) .nil))
theorem Y5 {K:PySem.W.Frag} {H:Hp}:∀{ps:List Addr} {ms:List (Nat×Str)},qU H ps ms->DVs K H (ps.map V.ref) (ms.map mD)
 | [],[],_=>.nil
 | [],_::_,h=>by cases h.1
 | _::_,[],h=>by cases h.1
 | p::ps,m::ms,h=>.cons (xO (h.2 0 p m rfl rfl)) (Y5 h.tail)
theorem YY:∀{ms:List (Nat×Str)},(∀m∈ms,qK m.2=true)->PyData.canLayAll0 (ms.map mD)=true
 | [],_=>rfl
 | m::ms,h=>by
   rw[List.map_cons,PyData.canLayAll0,YY λy hy=>h y (List.mem_cons_of_mem _ hy),Bool.and_true]
   show (true&&(PyData.strOk m.2&&true))=true
   rw[Z1 (h m List.mem_cons_self)]
   rfl
theorem Qs {rs:jV} {hs:List Str} {n:Nat} {m:Nat×Str} (h:m∈QK rs hs n):m.1 < n/\m.2∈Ky rs (za hs m.1):=by
 unfold QK at h
 obtain⟨j,hj,h2⟩:=List.mem_flatMap.mp h
 obtain⟨e,he,rfl⟩:=List.mem_map.mp h2
 exact⟨List.mem_range.mp hj,he⟩
theorem Jd {rs:jV} {hs:List Str} (g:qF rs) (hi:∀z∈hs,∃r∈rs,r.1=z):∀m∈QK rs hs hs.length,qK m.2=true:=λm hm=>by
 obtain⟨h1,h2⟩:=Qs hm
 obtain⟨r,hr,e⟩:=hi _ (ZX h1)
 rw[<-e,Zj g.nd hr]at h2
 exact Yj g (Xm h2)
theorem y8 {z:Str} {d:PyData} (h:PyData.eqv (.str z) d=true):d=.str z:=by
 cases d with
 | str y=>
   have e:(z==y)=true:=h
   rw[beq_iff_eq]at e
   rw[e]
 | _=>cases h
theorem ua {m:Nat×Str} {i:Int} {d:PyData} (h:PyData.eqv (mD m) (.tuple [.int i,d])=true):(m.1:Int)=i/\d=.str m.2:=by
 have h1:(((m.1:Int)==i)&&(PyData.eqv (.str m.2) d&&true))=true:=h
 rw[Bool.and_true,Bool.and_eq_true,beq_iff_eq]at h1
 exact⟨h1.1,y8 h1.2⟩
theorem XE (m:Nat×Str):PyData.eqv (mD m) (mD m)=true:=by
 show (((m.1:Int)==(m.1:Int))&&((m.2==m.2)&&true))=true
 simp
inductive ZV (K:PySem.W.Frag) (H:Hp) (ms:List (Nat×Str)):V->Prop
 | ty {v:V} {t:Value}:TyOf K H v t->PySem.W.kitOne K t (.type "tuple")=some false->ZV K H ms v
 | len {p:Addr} {xs:List V}:H p=some (.tup xs)->xs.length≠2->ZV K H ms (.ref p)
 | who {p:Addr} {x y:V} {t:Value}:H p=some (.tup [x,y])->TyOf K H x t->(PySem.W.kitOne K t (.type "int")=some false\/(PySem.W.kitOne K t (.type "int")=some true/\PySem.W.kitOne K t (.type "bool")=some true))->ZV K H ms (.ref p)
 | out {p:Addr} {i:Int} {y:V} {d:PyData}:H p=some (.tup [.int i,y])->DV K H y d->d.canLay0=true->d.depth<=30->(∀m∈ms,¬((m.1:Int)=i/\d=.str m.2))->ZV K H ms (.ref p)
theorem ZV.keep {K:PySem.W.Frag} {H H':Hp} {ms:List (Nat×Str)} {v:V} (h:ZV K H ms v) (s:Qo H H'):ZV K H' ms v:=by
 cases h with
 | ty a b=>exact .ty (Rh.TyOf.keep a s) b
 | len a b=>exact .len (s _ _ a (λ_ z=>nomatch z)) b
 | who a b c=>exact .who (s _ _ a (λ_ z=>nomatch z)) (Rh.TyOf.keep b s) c
 | out a b c d e=>exact .out (s _ _ a (λ_ z=>nomatch z)) (YU s b) c d e
def Rz (K:PySem.W.Frag) (H:Hp) (ms:List (Nat×Str)) (v:V) (b:Bool):Prop:=(b=true/\∃p m,v=.ref p/\H p=some (.tup (kH m))/\m∈ms)\/(b=false/\ZV K H ms v)
def WZ (K:PySem.W.Frag):Sp:=λvs H Q _=>∃x t,vs=[x]/\TyOf K H x t/\((PySem.W.kitOne K t (.type "int")=some false/\Q (.bl false) H)\/(PySem.W.kitOne K t (.type "int")=some true/\∃b,PySem.W.kitOne K t (.type "bool")=some b/\Q (.bl (!b)) H))
def zd (K:PySem.W.Frag) (CG:Addr):Sp:=λvs H Q _=>∃(g h:Addr) (rs:jV) (hs:List Str) (v:V) (b:Bool),vs=[.ref g,.ref h,v]/\jW CG H g rs/\qF rs/\rs.length<=14/\jo H h rs hs/\Rz K H (QK rs hs hs.length) v b/\∀H',Same H H'->Q (.bl b) H'
def UT:Sp:=λvs H Q _=>∃(h p:Addr) (hs:List Str) (m:Nat×Str),vs=[.ref h,.ref p]/\H h=some (.lst (hs.map V.str))/\H p=some (.tup (kH m))/\m.1 < hs.length/\∀l,H l=none->Q (.ref l) (upd H l (.lst ((hs.set m.1 m.2).map V.str)))
def JU (CG:Addr):Sp:=λvs H Q _=>∃(g h p:Addr) (rs:jV) (hs:List Str) (m:Nat×Str),vs=[.ref g,.ref h,.ref p]/\jW CG H g rs/\qF rs/\rs.length<=14/\jo H h rs hs/\H p=some (.tup (kH m))/\m∈QK rs hs hs.length/\
 ∀H' l,Same H H'->H l=none->H' l=some (.lst ((hs.set m.1 m.2).map V.str))->Q (.ref l) H'
def ze (K:PySem.W.Frag) (CG CM:Addr):Sp:=λvs H Q E=>∃(g h:Addr) (rs:jV) (hs:List Str) (v:V),vs=[.ref g,.ref h,v]/\jW CG H g rs/\qF rs/\rs.length<=14/\jo H h rs hs/\ZV K H (QK rs hs hs.length) v/\
 ∀H1 dx,Same H H1->H1 dx=some (.xd [(Str.ofString "found",v)])->E (.ref CM) (some dx) H1
structure HM (K:PySem.W.Frag) (mg:Str->Option Value):Prop where
 mt:∃t,mg "MOST_TOKENS"=some (.int 8 t)
 pl:∃f fd,jx K mg "need_place" QN kG f fd
 nh:∃f fd,jx K mg "need_heap" Q9 ["ground","heap"] f fd
 mo:∃f fd,jx K mg "moves_of" QE ["ground","heap"] f fd
 wh:∃f fd,jx K mg "is_whole" YC ["thing"] f fd
 im:∃f fd,jx K mg "is_move" Z0 ["ground","heap","thing"] f fd
 lb:∃f fd,jx K mg "left_by" W8 ["heap","move"] f fd
 bool:mg "bool"=none
section
variable {P:Program} {w:World} {K:PySem.W.Frag} {mg:Str->Option Value} {base:Heap}
abbrev KU:List Str:=["ground","heap"]
theorem Ge:qy KU KU (qi Xj):=⟨rfl,rfl,rfl,by decide+kernel,rfl,by decide+kernel,by decide+kernel⟩
theorem HM.moves {CG:Addr} (Z:HM K mg) (B:JN mg) (G:Qd mg) (T:Qc K mg) (M:GM K mg CG):∃f fd,jx K mg "moves_of" QE ["ground","heap"] f fd/\qv P w K mg base jd 4 f fd ["ground","heap"] (W3 CG):=by
 obtain⟨fP,fdP,hP⟩:=Z.pl
 obtain⟨fH,fdH,hH⟩:=Z.nh
 obtain⟨f,fd,h⟩:=Z.mo
 exact⟨f,fd,h,vv h.fn B G T M hP Z.mt hH⟩
theorem yz {f CG:Addr} {fd:FuncData} (F:j3 K "is_over" "is_over" Xj f fd) (B:JN mg) (G:Qd mg) (T:Qc K mg) (M:GM K mg CG) (Z:HM K mg):qv P w K mg base jd 5 f fd KU (US CG):=by
 obtain⟨fM,fdM,hM,GMv⟩:=Z.moves (P:=P) (w:=w) (base:=base) B G T M
 refine F.okJ Ge (λvs H Q E h=>?_) (λcdv A outer s H vs Q E hr h=>?_)
 . obtain⟨g,h',rs,hs,rfl,_⟩:=h
   rfl
 . obtain⟨g,h',rs,hs,rfl,gr,gd,le,hh,q⟩:=h
   refine⟨_,qm (qJ (Qt Qr (qr qC (by rfl) B.len boot_len (qb (qQ hM GMv hr (by rfl) (qb (jv 0) (qb (jv 1) qg))) qg)) ql (qD _))),?_⟩
   refine⟨_,rfl,_,rfl,g,h',rs,hs,rfl,gr,gd,le,hh,λH1 l ps s1 hl hl1 mv=>⟨l,_,rfl,.inl (.of hl1),rfl,?_⟩⟩
   have e:decide (V.int ((ps.map V.ref).length:Nat)=V.int 0)=(QK rs hs hs.length).isEmpty:=by
     rw[List.length_map,mv.1]
     cases QK rs hs hs.length with
     | nil=>rfl
     | cons a l=>
       refine decide_eq_false λz=>?_
       have:=V.int.inj z
       rw[List.length_cons]at this
       omega
   rw[e]
   exact q H1 s1
theorem Gc:qy ["thing"] ["thing"] (qi YC):=⟨rfl,rfl,rfl,by decide+kernel,rfl,by decide+kernel,by decide+kernel⟩
theorem vp {f:Addr} {fd:FuncData} (F:j3 K "is_whole" "is_whole" YC f fd) (B:JN mg) (T:Qc K mg) (hb:mg "bool"=none):qv P w K mg base jd 1 f fd ["thing"] (WZ K):=by
 refine F.okJ Gc (λvs H Q E h=>?_) (λcdv A outer s H vs Q E hr h=>?_)
 . obtain⟨x,t,rfl,_⟩:=h
   rfl
 . obtain⟨x,t,rfl,ty,h⟩:=h
   refine⟨_,qm (qJ (YQ (qr jg (by rfl) T.isi boot_isinstance (qb (jv 0) (qb (j2 (v:=.ty "int") (by rfl) B.int boot_int rfl) qg)))
     (YN (vQ (qr jg (by rfl) T.isi boot_isinstance (qb (jv 0) (qb (j2 (v:=.ty "bool") (by rfl) hb boot_bool rfl) qg))))))),?_⟩
   rcases h with ⟨k,q⟩ | ⟨k,b,k2,q⟩
   . exact⟨_,rfl,_,_,_,_,rfl,rfl,ty,k,_,rfl,jI q⟩
   . exact⟨_,rfl,_,_,_,_,rfl,rfl,ty,k,_,rfl,Q6 ⟨_,rfl,_,_,_,_,rfl,rfl,ty,k2,_,rfl,q⟩⟩
abbrev Ki:List Str:=["ground","heap","thing"]
theorem Gg:qy Ki Ki (qi Z0):=⟨rfl,rfl,rfl,by decide+kernel,rfl,by decide+kernel,by decide+kernel⟩
theorem Yd {f CG:Addr} {fd:FuncData} (F:j3 K "is_move" "is_move" Z0 f fd) (B:JN mg) (G:Qd mg) (T:Qc K mg) (M:GM K mg CG) (Z:HM K mg):qv P w K mg base jd 5 f fd Ki (zd K CG):=by
 obtain⟨fM,fdM,hM,GMv⟩:=Z.moves (P:=P) (w:=w) (base:=base) B G T M
 obtain⟨fW,fdW,hW⟩:=Z.wh
 have GW:qv P w K mg base jd 1 fW fdW ["thing"] (WZ K):=vp hW.fn B T Z.bool
 refine F.okJ Gg (λvs H Q E h=>?_) (λcdv A outer s H vs Q E hr h=>?_)
 . obtain⟨g,h',rs,hs,v,b,rfl,_⟩:=h
   rfl
 . obtain⟨g,h',rs,hs,v,b,rfl,gr,gd,le,hh,im,q⟩:=h
   refine⟨_,qh (q5 (Q2 (jM (jq (qr jg (by rfl) T.isi boot_isinstance (qb (jv 2) (qb (j2 (v:=.ty "tuple") (by rfl) G.tup boot_tuple rfl) qg)))))
       (Q2 (qw Vj (qr qC (by rfl) B.len boot_len (qb (jv 2) qg)) ql (qD _))
       (Qm (jM (jq (qQ hW GW (hr.mono (by decide)) (by rfl) (qb (qP jt (jv 2) ql (λ_ _=>rfl)) qg))))))).pt (qm (qJ Q3)) qE)
     (qm (qJ (Qt (wu hr.units) (jv 2) (qQ hM GMv hr (by rfl) (qb (jv 0) (qb (jv 1) qg))) (by with_unfolding_all rfl)))),?_⟩
   have key:(b=false/\((∃t,TyOf K H v t/\PySem.W.kitOne K t (.type "tuple")=some false)\/(∃p xs,v=.ref p/\H p=some (.tup xs)/\xs.length≠2)\/(∃p x y t,v=.ref p/\H p=some (.tup [x,y])/\TyOf K H x t/\(PySem.W.kitOne K t (.type "int")=some false\/(PySem.W.kitOne K t (.type "int")=some true/\PySem.W.kitOne K t (.type "bool")=some true)))))\/
       (∃p i y d,v=.ref p/\H p=some (.tup [.int i,y])/\DV K H y d/\d.canLay0=true/\d.depth<=30/\((QK rs hs hs.length).map mD).any (λz=>PyData.eqv z (.tuple [.int i,d]))=b):=by
     rcases im with ⟨rfl,p,m,rfl,hp,hm⟩ | ⟨rfl,nm⟩
     . refine .inr ⟨p,_,_,.str m.2,rfl,hp,.str _,Z1 (Jd gd hh.in_ m hm),Nat.zero_le _,?_⟩
       exact List.any_eq_true.mpr ⟨mD m,List.mem_map.mpr ⟨m,hm,rfl⟩,XE m⟩
     . cases nm with
       | ty a c=>exact .inl ⟨rfl,.inl ⟨_,a,c⟩⟩
       | len a c=>exact .inl ⟨rfl,.inr (.inl ⟨_,_,rfl,a,c⟩)⟩
       | who a c e=>exact .inl ⟨rfl,.inr (.inr ⟨_,_,_,_,rfl,a,c,e⟩)⟩
       | out a c e f k=>
         refine .inr ⟨_,_,_,_,rfl,a,c,e,f,?_⟩
         rw[List.any_eq_false]
         intro z hz h
         obtain⟨m,hm,rfl⟩:=List.mem_map.mp hz
         exact k m hm (ua h)
   rcases key with ⟨rfl,⟨t,ty,k⟩ | ⟨p,xs,rfl,hp,hx⟩ | ⟨p,x,y,t,rfl,hp,ty,k⟩⟩ | ⟨p,i,y,d,rfl,hp,dv,cl,dp,an⟩
   . refine⟨_,rfl,_,_,_,_,rfl,rfl,ty,k,_,rfl,Q6 (Q6 ?_)⟩
     exact q H (Same.refl H)
   . refine⟨_,rfl,_,_,_,_,rfl,rfl,.tup hp,T.ktt,_,rfl,jI ⟨_,rfl,p,_,rfl,.inr (.of hp),rfl,_,rfl,Z4 ?_ (Q6 (q H (Same.refl H)))⟩⟩
     show (!decide (V.int (xs.length:Nat)=V.int 2))=true
     rw[decide_eq_false λz=>hx (by have:=V.int.inj z;omega)]
     rfl
   . refine⟨_,rfl,_,_,_,_,rfl,rfl,.tup hp,T.ktt,_,rfl,jI ⟨_,rfl,p,_,rfl,.inr (.of hp),rfl,_,rfl,QV rfl ?_⟩⟩
     refine⟨_,rfl,p,_,0,_,rfl,rfl,.of hp,rfl,x,t,rfl,ty,?_⟩
     rcases k with k | ⟨k1,k2⟩
     . exact .inl ⟨k,_,rfl,Q6 (q H (Same.refl H))⟩
     . exact .inr ⟨k1,_,k2,_,rfl,Q6 (q H (Same.refl H))⟩
   . refine⟨_,rfl,_,_,_,_,rfl,rfl,.tup hp,T.ktt,_,rfl,jI ⟨_,rfl,p,_,rfl,.inr (.of hp),rfl,_,rfl,QV rfl ?_⟩⟩
     refine⟨_,rfl,p,_,0,_,rfl,rfl,.of hp,rfl,.int i,_,rfl,.int i,.inr ⟨Rg K,_,Ri K,_,rfl,jI ?_⟩⟩
     refine⟨_,rfl,_,rfl,_,rfl,g,h',rs,hs,rfl,gr,gd,le,hh,λH1 l ps s1 hl hl1 mv=>?_⟩
     refine⟨.tuple [.int i,d],(QK rs hs hs.length).map mD,.tup (.of (s1 _ _ hp)) (.cons (.int i) (.cons (YU s1.keep dv) .nil)),.lst (.of hl1) (Y5 mv),?_,YY (Jd gd hh.in_),?_,?_⟩
     . show (true&&(d.canLay0&&true))=true
       rw[cl]
       rfl
     . simp only[PyData.depth,PyData.depthAll]
       omega
     . show Q (.bl (((QK rs hs hs.length).map mD).any λz=>PyData.eqv z (.tuple [.int i,d]))) H1
       rw[an]
       exact q H1 s1
abbrev nLb:List Str:=["heap","move","left"]
theorem uQ:qy nLb ["heap","move"] (qi W8):=⟨rfl,rfl,rfl,by decide+kernel,rfl,by decide+kernel,by decide+kernel⟩
theorem yB {f:Addr} {fd:FuncData} (F:j3 K "left_by" "left_by" W8 f fd) (G:Qd mg):qv P w K mg base jd 1 f fd ["heap","move"] UT:=by
 refine F.okJ uQ (λvs H Q E h=>?_) (λcdv A outer s H vs Q E hr h=>?_)
 . obtain⟨h',p,hs,m,rfl,_⟩:=h
   rfl
 . obtain⟨h',p,hs,m,rfl,hh,hp,hm,q⟩:=h
   refine⟨_,qh (qx (i:=2) uQ.nd rfl (Or.inl rfl) (qM qO (by rfl) G.lst boot_list (qb (jv 0) qg)))
     (qh (YL (qP jt (jv 1) ql (λ_ _=>rfl)) (vP (jv 2) (qP jt (jv 1) ql (λ_ _=>rfl)) Xg))
     (qm (qJ (jv 2)))),?_⟩
   refine⟨_,rfl,h',_,rfl,.inl (.of hh),λl hl=>?_⟩
   refine⟨_,rfl,p,_,1,_,rfl,rfl,.of (qp hp hl),rfl,_,rfl,_,rfl,p,_,0,_,rfl,rfl,.of (qp hp hl),rfl,l,_,(m.1:Int),m.1,rfl,rfl,qd,?_,_,rfl,?_⟩
   . unfold vY
     rw[if_pos (by omega),if_pos (by rw[List.length_map];omega)]
     rfl
   . have e:(hs.map V.str).set m.1 (.str m.2)=(hs.set m.1 m.2).map V.str:=by rw[List.map_set]
     rw[jJ,e]
     exact q l hl
abbrev vC:List Str:=["ground","heap","move"]
theorem uS:qy vC vC (qi Ja):=⟨rfl,rfl,rfl,by decide+kernel,rfl,by decide+kernel,by decide+kernel⟩
theorem Xr {f CG:Addr} {fd:FuncData} (F:j3 K "after" "after" Ja f fd) (B:JN mg) (G:Qd mg) (T:Qc K mg) (M:GM K mg CG) (Z:HM K mg):qv P w K mg base jd 6 f fd vC (JU CG):=by
 obtain⟨fP,fdP,hP⟩:=Z.pl
 obtain⟨fH,fdH,hH⟩:=Z.nh
 obtain⟨fI,fdI,hI⟩:=Z.im
 obtain⟨fL,fdL,hL⟩:=Z.lb
 have GH:qv P w K mg base jd 3 fH fdH ["ground","heap"] (Jl CG):=Jc hH.fn B G T M hP Z.mt
 have GI:qv P w K mg base jd 5 fI fdI Ki (zd K CG):=Yd hI.fn B G T M Z
 have GL:qv P w K mg base jd 1 fL fdL ["heap","move"] UT:=yB hL.fn G
 refine F.okJ uS (λvs H Q E h=>?_) (λcdv A outer s H vs Q E hr h=>?_)
 . obtain⟨g,h',p,rs,hs,m,rfl,_⟩:=h
   rfl
 . obtain⟨g,h',p,rs,hs,m,rfl,gr,gd,le,hh,hp,hm,q⟩:=h
   refine⟨_,qh (qV (qQ hH GH (hr.mono (by decide)) (by rfl) (qb (jv 0) (qb (jv 1) qg))))
     (qh (q5 (jM (jq (qQ hI GI hr (by rfl) (qb (jv 0) (qb (jv 1) (qb (jv 2) qg)))))) qL qE)
     (qm (qJ (qQ hL GL (hr.mono (by decide)) (by rfl) (qb (jv 1) (qb (jv 2) qg)))))),?_⟩
   refine⟨_,rfl,_,rfl,g,h',rs,hs,rfl,gr,hh,λH1 s1=>?_⟩
   refine⟨_,rfl,_,rfl,_,rfl,g,h',rs,hs,_,true,rfl,gr.mono s1,gd,le,hh.mono s1,.inl ⟨rfl,p,m,rfl,s1 _ _ hp,hm⟩,λH2 s2=>⟨_,rfl,jI ?_⟩⟩
   have s12:=s1.trans s2
   refine⟨_,rfl,_,rfl,h',p,hs,m,rfl,(hh.mono s12).at_,s12 _ _ hp,(Qs hm).1,λl hl=>?_⟩
   have hl0:H l=none:=by
     cases z:H l with
     | none=>rfl
     | some u=>rw[s12 _ _ z]at hl;cases hl
   exact q _ l (s12.trans (qj hl)) hl0 qd
theorem U3:qy ["self","found"] ["self","found"] (qi Qq):=⟨rfl,rfl,rfl,by decide+kernel,rfl,by decide+kernel,by decide+kernel⟩
theorem Xs {D C f:Addr} {fd:FuncData} (x:xk K mg D "NoMove" "NoMove.__init__" Qq "found" C f fd):qv P w K mg base jd 1 f fd ["self","found"] (Ga C "found"):=by
 refine x.fn.okJ U3 (λvs H Q E h=>?_) (λcdv A outer s H vs Q E hr h=>?_)
 . obtain⟨e,y,rfl,_⟩:=h
   rfl
 . obtain⟨e,y,rfl,hH,k⟩:=h
   exact⟨_,qm (wR (bm:=.ref D::jP) (jv 0) (jv 1) rfl),_,rfl,_,rfl,e,C,rfl,hH,x.cls,Gv D,x.na,λdx hdx=>k dx hdx⟩
theorem V9 {f CG D CM fX:Addr} {fd fdX:FuncData} (F:j3 K "after" "after" Ja f fd) (B:JN mg) (G:Qd mg) (T:Qc K mg) (M:GM K mg CG) (Z:HM K mg) (xM:xk K mg D "NoMove" "NoMove.__init__" Qq "found" CM fX fdX):qv P w K mg base (Jt P w) 6 f fd vC (ze K CG CM):=by
 obtain⟨fP,fdP,hP⟩:=Z.pl
 obtain⟨fH,fdH,hH⟩:=Z.nh
 obtain⟨fI,fdI,hI⟩:=Z.im
 have GH:qv P w K mg base jd 3 fH fdH ["ground","heap"] (Jl CG):=Jc hH.fn B G T M hP Z.mt
 have GI:qv P w K mg base jd 5 fI fdI Ki (zd K CG):=Yd hI.fn B G T M Z
 have GX:qv P w K mg base jd 1 fX fdX ["self","found"] (Ga CM "found"):=Xs xM
 refine F.okX uS (λvs H Q E h=>?_) (λcdv A outer s H vs Q E hr h=>?_)
 . obtain⟨g,h',rs,hs,v,rfl,_⟩:=h
   rfl
 . obtain⟨g,h',rs,hs,v,rfl,gr,gd,le,hh,nm,q⟩:=h
   refine⟨_,qh (qV (qQ hH GH (hr.mono (by decide)) (by rfl) (qb (jv 0) (qb (jv 1) qg))))
     (qh (q5 (jM (jq (qQ hI GI hr (by rfl) (qb (jv 0) (qb (jv 1) (qb (jv 2) qg))))))
       (qm (Xy rfl Zw (Xz xM.mkr GX (hr.mono (by decide)) (by rfl) xM.ns xM.bi zq (qb (jv 2) qg)))) qE)
     qL),?_⟩
   refine⟨_,rfl,_,rfl,g,h',rs,hs,rfl,gr,hh,λH1 s1=>?_⟩
   refine⟨_,rfl,_,rfl,_,rfl,g,h',rs,hs,_,false,rfl,gr.mono s1,gd,le,hh.mono s1,.inr ⟨rfl,nm.keep s1.keep⟩,λH2 s2=>⟨_,rfl,Q6 ?_⟩⟩
   have s12:=s1.trans s2
   refine⟨_,rfl,by show 1<=sizeLine;decide,λe he=>⟨e,v,rfl,qd,λdx hdx=>⟨rfl,e,CM,dx,rfl,?_,xM.rcls,?_⟩⟩⟩
   . exact(Z2 he hdx).2.1
   . obtain⟨m1,m2,m3⟩:=Z2 (fs:=[(Str.ofString "found",v)]) he hdx
     exact q _ dx (s12.trans m1) m3
end
end Rh
set_option Elab.async false
set_option linter.all false
set_option maxRecDepth 100000
set_option maxHeartbeats 4000000
namespace Rh
open PySem L2 PyProof.Rows
abbrev YE:Stmt:=top 44
abbrev Jm:Stmt:=top 45
theorem atI_get {xs:List V} {r:Int} (h0:0<=r) (h1:r < (xs.length:Int)):∃v,Y2 xs r=some v/\xs[r.toNat]?=some v:=by
 have:r.toNat < xs.length:=by omega
 refine⟨xs[r.toNat],?_,List.getElem?_eq_getElem this⟩
 unfold Y2 vY
 rw[if_pos h0,if_pos h1]
 exact List.getElem?_eq_getElem this
def W5:Sp:=λvs H Q _=>∃(d l:Addr) (mo:Nat) (n s t:Int) (ps:List Addr) (rs:jV),vs=[.ref d,.ref l,.int (mo:Int)]/\H d=some (.dK (src n s t))/\jG H l ps rs/\mo<=8/\
 ∀(D:Addr) (hs:List Str) (n' t':Int) (H':Hp),H D=none->H' D=some (.lst (hs.map V.str))->hs.length<=mo->(∀z∈hs,∃r∈rs,r.1=z)->H' d=some (.dK (src n' s t'))->Fr H d H'->Q (.ref D) H'
def zc:Sp:=λvs H Q _=>∃(l h:Addr) (ps:List Addr) (rs:jV) (hs:List Str),vs=[.ref l,.ref h]/\jG H l ps rs/\jo H h rs hs/\
 ∀H' lf qs,Same H H'->H lf=none->H' lf=some (.lst (qs.map V.ref))->qU H' qs (QK rs hs hs.length)->Q (.ref lf) H'
theorem jG.fr' {H H':Hp} {l d:Addr} {ps:List Addr} {rs:jV} {kv:List (qS×V)} (h:jG H l ps rs) (hd:H d=some (.dK kv)) (s:Fr H d H'):jG H' l ps rs:=by
 refine⟨s _ _ h.at_ (λe=>?_),⟨h.rows.1,λi p r e1 e2=>?_⟩,h.good,h.pos,h.le⟩
 . have:=h.at_
   rw[e,hd]at this
   cases this
 . obtain⟨q,a,b⟩:=h.rows.2 i p r e1 e2
   exact⟨q,s _ _ a (λe=>by rw[e,hd]at a;cases a),s _ _ b (λe=>by rw[e,hd]at b;cases b)⟩
section
variable {P:Program} {w:World} {K:PySem.W.Frag} {mg:Str->Option Value} {base:Heap}
abbrev Kh:List Str:=["_law_source_here","_law_rows_here","_law_most"]
theorem Gf:qy Kh Kh (qi YE):=⟨rfl,rfl,rfl,by decide+kernel,rfl,by decide+kernel,by decide+kernel⟩
theorem vw {f fT:Addr} {fd fdT:FuncData} (F:j3 K "_law_heap" "_law_heap" YE f fd) (B:JN mg) (hT:jx K mg "_law_take" Jx ["_law_source_here","_law_many"] fT fdT):qv P w K mg base jd 2 f fd Kh W5:=by
 have GT:qv P w K mg base jd 1 fT fdT ["_law_source_here","_law_many"] QL:=QQ hT.fn
 refine F.okJ Gf (λvs H Q E h=>?_) (λcdv A outer s H vs Q E hr h=>?_)
 . obtain⟨d,l,mo,n,sd,t,ps,rs,rfl,_⟩:=h
   rfl
 . obtain⟨d,l,mo,n,sd,t,ps,rs,rfl,hd,g,mo8,q⟩:=h
   refine⟨_,qm (qJ (Zh (N':=["_law_k","_law_rows_here","_law_source_here"]) (ix:=[none,some 1,some 0])
     (te:=XY (VX K) (XY (yk K) (jH 1) (Xb QL [] E0 (jC (jH 2) (jC (uq (λxs H Q=>∃p ys,xs=[.ref p]/\(SqL K H p ys\/SqT K H p ys)/\Q (.int ys.length) H) (jC (jH 1) JB)) JB)))) (tC (.int 0))) rfl ⟨rfl,rfl,rfl,rfl,rfl⟩
     (jQ (by rfl) B.rng (qb (qQ hT GT hr (by rfl) (qb (jv 0) (qb (qN j9 (jv 2) ql) qg))) qg))
     (λC s2 H2 fp pins=>⟨qz (i:=0) (show (["_law_k","_law_rows_here","_law_source_here"]:List Str).Nodup by decide+kernel) rfl (Or.inl rfl),Qf,
       qP jt (qP qW (jv 1) (qQ hT GT hr (by rfl) (qb (jv 2) (qb (qr qC (by rfl) B.len boot_len (qb (jv 1) qg)) qg))) (λ_ _=>rfl)) ql (λ_ _=>rfl)⟩))),?_⟩
   refine⟨_,rfl,_,rfl,_,_,rfl,rfl,d,(mo:Int)+1,n,sd,t,rfl,hd,by omega,by omega,λr n1 t1 r0 r1=>⟨r,rfl,by omega,by omega,λD hD=>?_⟩⟩
   have nDd:D≠d:=λe=>by rw[e,qd]at hD;cases hD
   have hD0:H D=none:=by rw[qe nDd]at hD;exact hD
   refine ZH (λi σ' H'=>∃(v:Option V) (n' t':Int) (hs:List Str),σ'=[v,some (.ref l),some (.ref d)]/\H' d=some (.dK (src n' sd t'))/\H' D=some (.lst (hs.map V.str))/\hs.length=i/\(∀z∈hs,∃r∈rs,r.1=z)/\Fr H d H')
     ⟨none,n1,t1,[],rfl,?_,qd,rfl,λ_ h=>(nomatch h),(Fr.refl.at_d).new hD⟩ ?_ ?_
   . rw[qe (Ne.symm nDd)]
     exact qd
   . rintro i σ' H' hi ⟨v,n',t',hs,rfl,hd',hD',hl,ha,fr⟩
     have g':=g.fr' hd fr
     have pl:(ps.map V.ref).length=rs.length:=by rw[List.length_map,g.rows.1]
     have le:=g.le
     have ps0:=g.pos
     refine⟨_,rfl,_,rfl,_,rfl,l,_,rfl,.inl (.of g'.at_),d,((ps.map V.ref).length:Nat),n',sd,t',rfl,hd',by rw[pl];omega,?_,λr n3 t3 r0 r1=>?_⟩
     . rw[pl]
       have:rs.length < 2^200:=Nat.lt_of_le_of_lt le (by decide)
       omega
     obtain⟨x,ex,gx⟩:=atI_get r0 r1
     obtain⟨p,qq,r',rfl,er,hr',ea,eb⟩:=g'.rows.item gx
     have ndl:l≠d:=λe=>by
       have:=g'.at_
       rw[e,hd']at this
       cases this
     have ndp:p≠d:=λe=>by rw[e,hd']at ea;cases ea
     refine⟨l,_,r,_,rfl,rfl,.of (by rw[qe ndl];exact g'.at_),ex,p,_,0,_,rfl,rfl,.of (by rw[qe ndp];exact ea),rfl,_,by rw[qe nDd];exact hD',?_,_,n3,t3,hs++[r'.1],rfl,?_,?_,?_,?_,?_⟩
     . rw[List.length_map,hl]
       exact qt (by omega)
     . rw[qe (Ne.symm nDd)];exact qd
     . rw[qd,List.map_append];rfl
     . rw[List.length_append,hl];rfl
     . intro z hz
       rcases List.mem_append.mp hz with h | h
       . exact ha z h
       . obtain rfl:=List.mem_singleton.mp h
         exact⟨r',hr',rfl⟩
     . exact(fr.at_d).own hD0
   . rintro σ' H' ⟨v,n',t',hs,rfl,hd',hD',hl,ha,fr⟩
     exact q D hs n' t' H' hD0 hD' (by omega) ha hd' fr
abbrev nLM:List Str:=["_law_rows_here","_law_heap_here","_law_leads_here","_law_found","_law_token","_law_place","_law_other","_law_others"]
abbrev wo:List Str:=["_law_rows_here","_law_heap_here"]
theorem Wl:qy nLM wo (qi Jm):=⟨rfl,rfl,rfl,by decide+kernel,rfl,by decide+kernel,by decide+kernel⟩
theorem Yc {f:Addr} {fd:FuncData} (F:j3 K "_law_moves" "_law_moves" Jm f fd) (T:Qc K mg) (hdi:mg "dict"=none):qv P w K mg base jd 1 f fd wo zc:=by
 refine F.okJ Wl (λvs H Q E h=>?_) (λcdv A outer s H vs Q E hr h=>?_)
 . obtain⟨l,h',ps,rs,hs,rfl,_⟩:=h
   rfl
 . obtain⟨l,h',ps,rs,hs,rfl,g,hh,q⟩:=h
   have hu:=zI hr
   refine⟨_,qh (qx (i:=2) Wl.nd rfl (Or.inl rfl) (qM (WK rfl) (by rfl) hdi boot_dict (qb (jv 0) qg)))
     (qh (qx (i:=3) Wl.nd rfl (Or.inl rfl) (jl qg))
     (qh (jr PassesOwn.never rfl (YM (by rfl) T.enu (qb (jv 1) qg)) (JK rfl (qZ (qz (i:=4) Wl.nd rfl (Or.inl rfl)) (qZ (qz (i:=5) Wl.nd rfl (Or.inl rfl)) Qg)))
       (qm (jr PassesOwn.never rfl (jk (jv 0)) (JK rfl (qZ (qz (i:=6) Wl.nd rfl (Or.inl rfl)) (qZ (qz (i:=7) Wl.nd rfl (Or.inl rfl)) Qg)))
         (qm (q5 (qw Yb (jv 6) (Qh hu (jv 2) (jv 5) (λ_ _=>rfl)) (by with_unfolding_all rfl))
           (qm (qV (Jh PySem.F.plainAttrs_list PySem.F.slot_list_append PySem.F.type_list_append jA (jv 3) (qb (jm (qb (jv 4) (qb (jv 6) qg))) qg)))) qE)))))
     (qm (qJ (jv 3))))),?_⟩
   obtain⟨qs,lq,hqs⟩:=Ve ps rs g.rows
   have le:=g.le
   refine⟨_,rfl,l,ps,Zf rs qs,rfl,.of g.at_,by rw[zB lq,g.rows.1],λi a kv e1 e2=>?_,by rw[zB lq];omega,λdd hdd=>?_⟩
   . obtain⟨r',q',f1,f2,rfl⟩:=vI lq e2
     exact .of (hqs i a q' r' e1 f1 f2).1
   have nk:((Zf rs qs).map (·.1)).Nodup:=by
     rw[ZB lq]
     exact Jn g.good.nd λa _ b _ e=>Sum.inr.inj e
   rw[Yf nk (λk _ m=>by simp at m),List.nil_append]
   have s1:Same H (upd H dd (.dK (Zf rs qs))):=qj hdd
   have hd1:upd H dd (.dK (Zf rs qs)) dd=some (.dK (Zf rs qs)):=qd
   generalize upd H dd (.dK (Zf rs qs))=H1 at s1 hd1
   refine⟨by show 0<=sizeLine;decide,λlf hlf=>?_⟩
   have hlf0:H lf=none:=by
     cases z:H lf with
     | none=>rfl
     | some u=>rw[s1 _ _ z]at hlf;cases hlf
   have s2:Same H (upd H1 lf (.lst [])):=s1.trans (qj hlf)
   have hd2:=qp (o':=HO.lst []) hd1 hlf
   have hf2:upd H1 lf (.lst []) lf=some (.lst []):=qd
   generalize upd H1 lf (.lst [])=H2 at s2 hf2 hd2
   have nfd:lf≠dd:=λe=>by rw[e,hd2]at hf2;cases hf2
   refine⟨_,rfl,h',rfl,⟨_,.of (s2 _ _ hh.at_)⟩,?_⟩
   refine zL (K:=K) (a:=h') (xs:=hs.map V.str) (λi σ' G=>∃v4 v5 v6 v7 ms,σ'=[some (.ref l),some (.ref h'),some (.ref dd),some (.ref lf),v4,v5,v6,v7]/\Same H G/\G dd=some (.dK (Zf rs qs))/\G lf=some (.lst (ms.map V.ref))/\qU G ms (QK rs hs i))
     ⟨_,_,_,_,[],rfl,s2,hd2,hf2,qU.nil _⟩ (λi σ' G _ ⟨_,_,_,_,_,_,s,_⟩=>.of (s _ _ hh.at_)) ?_ ?_
   . rintro i y σ' G p hy hp ⟨v4,v5,v6,v7,ms,rfl,sG,hdG,hfG,mv⟩
     obtain⟨z,ez,hz,rfl⟩:=ZY hy
     have hi:=(List.getElem?_eq_some_iff.mp ez).1
     have ezz:za hs i=z:=by
       have:=JP hi
       rw[ez]at this
       exact(Option.some.inj this).symm
     obtain⟨r,hr',er⟩:=hh.in_ z hz
     obtain⟨i0,hi0⟩:=List.getElem?_of_mem hr'
     obtain⟨q0,eq0,ekv⟩:=Vm lq hi0
     have hi0':=(List.getElem?_eq_some_iff.mp hi0).1
     have hq0:=(hqs i0 _ q0 r (List.getElem?_eq_getElem (by rw[g.rows.1];exact hi0')) hi0 eq0).2
     refine⟨p,_,rfl,.of qd,rfl,_,_,rfl,_,_,rfl,rfl,?_⟩
     have sP:Same G (upd G p (.tup [.int (i:Nat),.str z])):=qj hp
     have sGP:=sG.trans sP
     have hdP:=sP _ _ hdG
     have hfP:=sP _ _ hfG
     have mvP:=mv.mono sP
     generalize upd G p (.tup [.int (i:Nat),.str z])=G1 at sP sGP hdP hfP mvP
     refine⟨_,rfl,l,rfl,⟨_,.of (sGP _ _ g.at_)⟩,?_⟩
     refine jT (K:=K) (a:=l) (xs:=ps.map V.ref) (λj σ' G'=>∃v6 v7 ms,σ'=[some (.ref l),some (.ref h'),some (.ref dd),some (.ref lf),some (.int (i:Nat)),some (.str z),v6,v7]/\Same H G'/\G' dd=some (.dK (Zf rs qs))/\G' lf=some (.lst (ms.map V.ref))/\
         qU G' ms (QK rs hs i++(((rs.map (·.1)).take j).filter λy=>Z6 (.str y) (r.2.map V.str)).map λy=>(i,y)))
       ⟨_,_,ms,rfl,sGP,hdP,hfP,by simpa using mvP⟩ (λj σ' G' _ ⟨_,_,_,_,s,_⟩=>.of (s _ _ g.at_)) ?_ ?_
     . rintro j y σ' G' hy ⟨v6,v7,ms,rfl,sG',hd',hf',mv'⟩
       obtain⟨p',qq,r',rfl,er',hrr,ea,eb⟩:=(g.rows.mono sG').item hy
       have hj:=(List.getElem?_eq_some_iff.mp er').1
       have en:(rs.map (·.1))[j]?=some r'.1:=by rw[List.getElem?_map,er'];rfl
       have gd:=Qp.k (k:=(Sum.inr r.1:qS)) hd'
       rw[kN nk ekv]at gd
       have gd:Qp G' dd (.str z) (some (.ref q0)):=er▸gd
       have mlen:=Jo g.good le hh.in_ i (Nat.le_of_lt hi)
       have l8:=hh.le
       have lenM:(ms.map V.ref).length < sizeLine:=by
         rw[List.length_map,mv'.1,List.length_append,List.length_map]
         have h1:=List.length_filter_le (λy=>Z6 (.str y) (r.2.map V.str)) ((rs.map (·.1)).take j)
         rw[List.length_take,List.length_map]at h1
         exact qt (by omega)
       refine⟨p',_,rfl,.of ea,rfl,_,_,rfl,_,_,rfl,rfl,?_⟩
       refine⟨_,rfl,_,rfl,_,rfl,dd,_,rfl,gd,q0,_,rfl,.inr (.of (sG' _ _ hq0)),rfl,Jp _,_,rfl,?_⟩
       have et:((rs.map (·.1)).take (j+1)).filter (λy=>Z6 (.str y) (r.2.map V.str))=((rs.map (·.1)).take j).filter (λy=>Z6 (.str y) (r.2.map V.str))++if Z6 (.str r'.1) (r.2.map V.str)=true then [r'.1] else []:=by
         rw[List.take_add_one,en,List.filter_append]
         congr 1
         cases c:Z6 (.str r'.1) (r.2.map V.str)
         . simp [c]
         . simp [c]
       rw[et]
       show if Z6 (.str r'.1) (r.2.map V.str)=true then _ else _
       cases ci:Z6 (.str r'.1) (r.2.map V.str) with
       | false=>
         refine jI ⟨_,_,ms,rfl,sG',hd',hf',?_⟩
         rw[if_neg Bool.false_ne_true,List.append_nil]
         exact mv'
       | true=>
         refine Q6 ⟨_,rfl,.inl ⟨rfl,_,.of hf'⟩,_,rfl,_,rfl,by show 2<=sizeLine;decide,λt ht=>?_⟩
         refine⟨lf,_,_,rfl,rfl,qp hf' ht,lenM,_,_,ms++[t],rfl,?_,?_,?_,?_⟩
         . exact Same.upd (sG'.trans (qj ht)) hlf0
         . rw[qe (Ne.symm nfd)];exact qp hd' ht
         . rw[qd,List.map_append];rfl
         . rw[if_pos rfl,List.map_append,<-List.append_assoc]
           have nt:t≠lf:=λz=>by rw[z,hf']at ht;cases ht
           refine qU.app ⟨mv'.1,λk p' m a b=>?_⟩ (qU.one (by rw[qe nt];exact qd))
           have z:=mv'.2 k p' m a b
           have n1:p'≠lf:=λe=>by rw[e,hf']at z;cases z
           rw[qe n1]
           exact qp z ht
     . rintro σ' G' ⟨v6,v7,ms,rfl,sG',hd',hf',mv'⟩
       refine⟨_,_,_,_,ms,rfl,sG',hd',hf',?_⟩
       have e0:(rs.map (·.1)).take (ps.map V.ref).length=rs.map (·.1):=List.take_of_length_le (by rw[List.length_map,List.length_map,g.rows.1];exact Nat.le_refl _)
       rw[e0]at mv'
       rw[zz,ezz,Kl,<-er,Zj g.good.nd hr']
       exact mv'
   . rintro σ' G ⟨v4,v5,v6,v7,ms,rfl,sG,hdG,hfG,mv⟩
     rw[List.length_map]at mv
     exact⟨_,rfl,q G lf ms sG hlf0 hfG mv⟩
end
end Rh
set_option Elab.async false
set_option linter.all false
set_option maxRecDepth 100000
set_option maxHeartbeats 4000000
namespace L2
theorem qv.or {P:PySem.Program} {w:PySem.World} {K:PySem.W.Frag} {mg:PySem.Str->Option PySem.Value} {base:PySem.Heap} {CX:ZJ} {k:Nat} {f:PySem.Addr} {fd:PySem.FuncData} {ps:List PySem.Str} {sp sp':Sp} (a:qv P w K mg base CX k f fd ps sp) (b:qv P w K mg base CX k f fd ps sp'):qv P w K mg base CX k f fd ps (λvs H Q E=>sp vs H Q E\/sp' vs H Q E):=
 ⟨λvs H Q E h=>h.elim (a.len vs H Q E) (b.len vs H Q E),λA outer s H args us vs Q E hr he hb hv hs=>hs.elim (a.run A outer s H args us vs Q E hr he hb hv) (b.run A outer s H args us vs Q E hr he hb hv)⟩
end L2
namespace Rh
open PySem L2 PyProof.Rows
abbrev U6:Stmt:=top 34
abbrev J0:Stmt:=top 35
abbrev Xi:Stmt:=top 36
def Wk (rs:jV):List Str->List (Nat×Str)->Prop
 | _,[]=>True
 | hs,m::ms=>m∈QK rs hs hs.length/\Wk rs (hs.set m.1 m.2) ms
def qG:List Str->List (Nat×Str)->List Str
 | hs,[]=>hs
 | hs,m::ms=>qG (hs.set m.1 m.2) ms
def hps:List Str->List (Nat×Str)->List (List Str)
 | hs,[]=>[hs]
 | hs,m::ms=>hs::hps (hs.set m.1 m.2) ms
theorem Uh (hs:List Str) (ms:List (Nat×Str)) (m:Nat×Str):qG hs (ms++[m])=(qG hs ms).set m.1 m.2:=by
 induction ms generalizing hs with
 | nil=>rfl
 | cons a ms ih=>exact ih _
theorem Vr (hs:List Str) (ms:List (Nat×Str)) (m:Nat×Str):hps hs (ms++[m])=hps hs ms++[(qG hs ms).set m.1 m.2]:=by
 induction ms generalizing hs with
 | nil=>rfl
 | cons a ms ih=>exact congrArg (hs::·) (ih _)
theorem Zi (hs:List Str) (ms:List (Nat×Str)):(hps hs ms).length=ms.length+1:=by
 induction ms generalizing hs with
 | nil=>rfl
 | cons a ms ih=>exact congrArg Nat.succ (ih _)
theorem YR (hs:List Str) (ms:List (Nat×Str)):∀i,i<=ms.length->(hps hs ms)[i]?=some (qG hs (ms.take i)):=by
 induction ms generalizing hs with
 | nil=>intro i h;obtain rfl:i=0:=Nat.le_zero.mp h;rfl
 | cons a ms ih=>
   intro i h
   cases i with
   | zero=>rfl
   | succ i=>exact ih _ i (Nat.le_of_succ_le_succ h)
theorem Wk.app {rs:jV} {hs:List Str} {ms ns:List (Nat×Str)} (h:Wk rs hs (ms++ns)):Wk rs hs ms/\Wk rs (qG hs ms) ns:=by
 induction ms generalizing hs with
 | nil=>exact⟨trivial,h⟩
 | cons a ms ih=>exact⟨⟨h.1,(ih h.2).1⟩,(ih h.2).2⟩
theorem Wk.mk {rs:jV} {hs:List Str} {ms:List (Nat×Str)} {m:Nat×Str} (h:Wk rs hs ms) (k:m∈QK rs (qG hs ms) (qG hs ms).length):Wk rs hs (ms++[m]):=by
 induction ms generalizing hs with
 | nil=>exact⟨k,trivial⟩
 | cons a ms ih=>exact⟨h.1,ih h.2 k⟩
def Q8 (rs:jV) (hs:List Str):Prop:=hs.length<=8/\∀z∈hs,∃r∈rs,r.1=z
theorem wK {rs:jV} {hs:List Str} {m:Nat×Str} (g:qF rs) (hi:∀z∈hs,∃r∈rs,r.1=z) (h:m∈QK rs hs hs.length):∃r∈rs,r.1=m.2:=by
 obtain⟨h1,h2⟩:=Qs h
 obtain⟨r,hr,e⟩:=hi _ (ZX h1)
 rw[<-e,Zj g.nd hr]at h2
 exact Xm h2
theorem Q8.set {rs:jV} {hs:List Str} {m:Nat×Str} (o:Q8 rs hs) (g:qF rs) (h:m∈QK rs hs hs.length):Q8 rs (hs.set m.1 m.2):=⟨by rw[List.length_set];exact o.1,λz hz=>by
 rcases List.mem_or_eq_of_mem_set hz with k | k
 . exact o.2 z k
 . rw[k]
   exact wK g o.2 h⟩
theorem Q8.last {rs:jV} (g:qF rs) {hs:List Str} {ms:List (Nat×Str)} (o:Q8 rs hs) (h:Wk rs hs ms):Q8 rs (qG hs ms):=by
 induction ms generalizing hs with
 | nil=>exact o
 | cons m ms ih=>exact ih (o.set g h.1) h.2
def j7 (H:Hp) (ls:List Addr) (hss:List (List Str)):Prop:=ls.length=hss.length/\∀(i:Nat) (a:Addr) (hs:List Str),ls[i]?=some a->hss[i]?=some hs->H a=some (.lst (hs.map V.str))
theorem j7.mono {H H':Hp} {ls:List Addr} {hss:List (List Str)} (h:j7 H ls hss) (s:Same H H'):j7 H' ls hss:=⟨h.1,λi a hs e1 e2=>s _ _ (h.2 i a hs e1 e2)⟩
theorem j7.snoc {H:Hp} {ls:List Addr} {hss:List (List Str)} {a:Addr} {hs:List Str} (h:j7 H ls hss) (ha:H a=some (.lst (hs.map V.str))):j7 H (ls++[a]) (hss++[hs]):=by
 refine⟨by rw[List.length_append,List.length_append,h.1];rfl,λi b ys e1 e2=>?_⟩
 by_cases hi:i < ls.length
 . rw[List.getElem?_append_left hi]at e1
   rw[List.getElem?_append_left (by rw[<-h.1];exact hi)]at e2
   exact h.2 i b ys e1 e2
 . rw[List.getElem?_append_right (by omega)]at e1
   rw[List.getElem?_append_right (by rw[<-h.1];omega),<-h.1]at e2
   have hj:=(List.getElem?_eq_some_iff.mp e1).1
   have hz:i - ls.length=0:=by simp at hj;omega
   rw[hz]at e1 e2
   obtain rfl:a=b:=by simpa using e1
   obtain rfl:hs=ys:=by simpa using e2
   exact ha
theorem Y1 {ys:List V} {v:V}:Y2 (ys++[v]) (-1)=some v:=by
 unfold Y2 vY
 rw[if_neg (by decide),if_pos (by rw[List.length_append,List.length_singleton];omega)]
 show (ys++[v])[(-1+((ys++[v]).length:Int)).toNat]?=some v
 have e:(-1+((ys++[v]).length:Int)).toNat=ys.length:=by rw[List.length_append,List.length_singleton];omega
 rw[e,List.getElem?_append_right (Nat.le_refl _),Nat.sub_self]
 rfl
def UQ (K:PySem.W.Frag) (CG CM:Addr):Sp:=λvs H Q E=>∃(g h l:Addr) (rs:jV) (hs:List Str) (qs:List Addr) (ms:List (Nat×Str)) (tl:List V),vs=[.ref g,.ref h,.ref l]/\jW CG H g rs/\qF rs/\rs.length<=14/\jo H h rs hs/\H l=some (.lst (qs.map V.ref++tl))/\qU H qs ms/\Wk rs hs ms/\ms.length<=100/\
 ((tl=[]/\∀H' L ls,Same H H'->H L=none->H' L=some (.lst (ls.map V.ref))->j7 H' ls (hps hs ms)->(∀a∈ls,H a=none)->L∉ls->Q (.ref L) H')\/
  ∃(v:V) (rest:List V),tl=v::rest/\ZV K H (QK rs (qG hs ms) (qG hs ms).length) v/\∀H1 dx,Same H H1->H1 dx=some (.xd [(Str.ofString "found",v)])->E (.ref CM) (some dx) H1)
def W0 (K:PySem.W.Frag) (CG CM:Addr):Sp:=λvs H Q E=>∃(g h:Addr) (v:V) (rs:jV) (hs:List Str) (t:Value),vs=[.ref g,.ref h,v]/\jW CG H g rs/\jo H h rs hs/\TyOf K H v t/\PySem.W.kitOne K t (.type "list")=some false/\∀H1 dx,Same H H1->H1 dx=some (.xd [(Str.ofString "found",v)])->E (.ref CM) (some dx) H1
section
variable {P:Program} {w:World} {K:PySem.W.Frag} {mg:Str->Option Value} {base:Heap}
theorem Ks {X:Cx} {x:Str} {st:Stmt} {ps:List Str} {f:Addr} {fd:FuncData} {k:Nat} {sp:Sp} {E:XK} {e:Expr} {es:List Expr} {t:TA} {p pos:Pos} (h:jx X.K X.mg x st ps f fd) (G:qv X.prog X.w X.K X.mg X.base (Jt X.prog X.w) k f fd ps sp) (hr:ja k X.A) (hx:jw (Jt X.prog X.w) X E)
   (hg:Gl X x) (ha:JA X (e::es) t) (hdb:(x==("__debug__":Str))=false:=by decide) (he:starEach (e::es) X.env=(false,eval e X.env)::starEach es X.env:=by rfl) (hpl:(backTo pos (starEach es X.env)).any (·.1)=false:=by rfl):
   JE X (.Call (.Name x p) (e::es) [] pos) (Xb sp [] E t):=.of (Vi G hr hg h.ns h.fn.kp h.bi .nil hx ha.to hdb he hpl)
abbrev nWk:List Str:=["ground","heap","moves","heaps","move"]
abbrev u9:List Str:=["ground","heap","moves"]
theorem x5:qy nWk u9 (qi Xi):=⟨rfl,rfl,rfl,by decide+kernel,rfl,by decide+kernel,by decide+kernel⟩
theorem yw {f fH fQ fX fA CG D CM:Addr} {fd fdH fdQ fdX fdA:FuncData} (F:j3 K "walk" "walk" Xi f fd) (B:JN mg) (G:Qd mg) (T:Qc K mg) (M:GM K mg CG) (Z:HM K mg) (hQ:jx K mg "need_place" QN kG fQ fdQ) (hH:jx K mg "need_heap" Q9 ["ground","heap"] fH fdH) (hA:jx K mg "after" Ja vC fA fdA) (xM:xk K mg D "NoMove" "NoMove.__init__" Qq "found" CM fX fdX):qv P w K mg base (Jt P w) 7 f fd u9 (λvs H Q E=>UQ K CG CM vs H Q E\/W0 K CG CM vs H Q E):=by
 have GH:qv P w K mg base jd 3 fH fdH ["ground","heap"] (Jl CG):=Jc hH.fn B G T M hQ Z.mt
 have GX:qv P w K mg base jd 1 fX fdX ["self","found"] (Ga CM "found"):=Xs xM
 have GA1:qv P w K mg base jd 6 fA fdA vC (JU CG):=Xr hA.fn B G T M Z
 have GA:qv P w K mg base (Jt P w) 6 fA fdA vC (λvs H Q E=>JU CG vs H Q E\/ze K CG CM vs H Q E):=qv.or GA1.cx (V9 hA.fn B G T M Z xM)
 refine F.okX x5 (λvs H Q E h=>?_) (λcdv A outer s H vs Q E hr h=>?_)
 . rcases h with ⟨g,h',l,rs,hs,qs,ms,tl,rfl,_⟩ | ⟨g,h',v,rs,hs,t,rfl,_⟩<;>rfl
 . refine⟨_,qh (qV (qQ hH GH (hr.mono (by decide)) (by rfl) (qb (jv 0) (qb (jv 1) qg))))
     (qh (q5 (jM (jq (qr jg (by rfl) T.isi boot_isinstance (qb (jv 2) (qb (j2 (v:=.ty "list") (by rfl) G.lst boot_list rfl) qg))))) (qm (Xy rfl Zw (Xz xM.mkr GX (hr.mono (by decide)) (by rfl) xM.ns xM.bi zq (qb (jv 2) qg)))) qE)
     (qh (qx (i:=3) x5.nd rfl (Or.inl rfl) (jl (qb (qM qO (by rfl) G.lst boot_list (qb (jv 1) qg)) qg)))
     (qh (yN (t:=uD (xK K (jH 2)) (QH 4) (xt (K9 K "list" Vg (jH 3) (jC (Xb (λvs H Q E=>JU CG vs H Q E\/ze K CG CM vs H Q E) [] E (jC (jH 0) (jC (XY (yk K) (jH 3) (tUn (rU λi=>.int (-i)) (tC (.int 1)))) (jC (jH 4) JB)))) JB)))) λpn W hO hP hR=>jr hO rfl (jk (jv 2)) (qz (i:=4) x5.nd rfl (Or.inl rfl))
       (qm (qV (Jh PySem.F.plainAttrs_list PySem.F.slot_list_append PySem.F.type_list_append jA (jv 3) (qb (Ks hA GA hr hP (by rfl) (qb (jv 0) (qb (qP qW (jv 3) (Vo Yx ql) (λ_ _=>rfl)) (qb (jv 4) qg)))) qg)))))
     (qm (qJ (jv 3)))))),?_⟩
   rcases h with ⟨g,h',l,rs,hs,qs,ms,tl,rfl,gr,good,le14,hh,hl,mv,wk,lm,q⟩ | ⟨g,h',v,rs,hs,ty,rfl,gr,hh,hty,kl,q⟩
   . refine⟨_,rfl,_,rfl,g,h',rs,hs,rfl,gr,hh,λH1 s1=>?_⟩
     refine⟨_,rfl,_,_,_,_,rfl,rfl,.lst (s1 _ _ hl),T.kll,_,rfl,jI ?_⟩
     refine⟨_,rfl,h',_,rfl,.inl (.of (s1 _ _ hh.at_)),λa0 ha0=>⟨by show 1<=sizeLine;decide,λhp hhp=>?_⟩⟩
     have u2:=qj (o:=HO.lst (hs.map V.str)) ha0
     have v2:upd H1 a0 (.lst (hs.map V.str)) a0=some (.lst (hs.map V.str)):=qd
     have f0:H a0=none:=by
       cases z:H a0 with
       | none=>rfl
       | some o=>rw[s1 _ _ z]at ha0;cases ha0
     generalize upd H1 a0 (.lst (hs.map V.str))=H2 at u2 v2 hhp
     have s02:=s1.trans u2
     have fp:H hp=none:=by
       cases z:H hp with
       | none=>rfl
       | some o=>rw[s02 _ _ z]at hhp;cases hhp
     have nap:a0≠hp:=λz=>by rw[z,hhp]at v2;cases v2
     have s03:=s02.trans (qj (o:=HO.lst [V.ref a0]) hhp)
     have oks:Q8 rs hs:=⟨hh.le,hh.in_⟩
     refine⟨_,rfl,l,rfl,⟨_,.of (s03 _ _ hl)⟩,?_⟩
     refine jT (K:=K) (a:=l) (xs:=qs.map V.ref++tl) (λi σ' X=>i<=ms.length/\∃(v4:Option V) (ls:List Addr),σ'=[some (.ref g),some (.ref h'),some (.ref l),some (.ref hp),v4]/\Same H X/\X hp=some (.lst (ls.map V.ref))/\j7 X ls (hps hs (ms.take i))/\(∀a∈ls,H a=none)/\hp∉ls)
       ⟨Nat.zero_le _,_,[a0],rfl,s03,qd,j7.snoc (ls:=[]) (hss:=[]) ⟨rfl,λi a y e=>(nomatch e)⟩ (by rw[qe nap];exact v2),λa ha=>by rw[List.mem_singleton.mp ha];exact f0,λz=>nap (List.mem_singleton.mp z).symm⟩ (λi σ' X _ ⟨_,_,_,_,sX,_⟩=>.of (sX _ _ hl)) ?_ ?_
     . rintro i y σ' X hy ⟨hi,v4,ls,rfl,sX,hX,hat,fr,nin⟩
       have lls:=hat.1
       rw[Zi,List.length_take,Nat.min_eq_left hi]at lls
       have eL:∃ls0 al,ls=ls0++[al]:=⟨ls.dropLast,ls.getLast (by intro z;rw[z]at lls;cases lls),(List.dropLast_concat_getLast _).symm⟩
       obtain⟨ls0,al,rfl⟩:=eL
       have hal:X al=some (.lst ((qG hs (ms.take i)).map V.str)):=by
         refine hat.2 ls0.length al _ (by rw[List.getElem?_append_right (Nat.le_refl _),Nat.sub_self];rfl) ?_
         have:ls0.length=i:=by rw[List.length_append,List.length_singleton]at lls;omega
         rw[this]
         have e:=YR hs (ms.take i) i (by rw[List.length_take];omega)
         rw[List.take_take,Nat.min_self]at e
         exact e
       have wki:=(Wk.app (rs:=rs) (hs:=hs) (ms:=ms.take i) (ns:=ms.drop i) (by rw[List.take_append_drop];exact wk))
       have oki:=oks.last good wki.1
       have hhi:jo X al rs (qG hs (ms.take i)):=⟨hal,oki.1,oki.2⟩
       have lq:=mv.1
       rcases Nat.lt_or_ge i ms.length with c | c
       . rw[List.getElem?_append_left (by rw[List.length_map,lq];exact c),List.getElem?_map]at hy
         have em:ms[i]?=some ms[i]:=List.getElem?_eq_getElem c
         generalize ms[i]=m at em
         have ep:qs[i]?=some (qs[i]'(by omega)):=List.getElem?_eq_getElem (by omega)
         generalize qs[i]'(by omega)=p at ep
         rw[ep]at hy
         obtain rfl:V.ref p=y:=Option.some.inj hy
         have hp':=mv.2 i p m ep em
         have hm:m∈QK rs (qG hs (ms.take i)) (qG hs (ms.take i)).length:=by
           have:=wki.2
           rw[List.drop_eq_getElem_cons c]at this
           have e:ms[i]=m:=by rw[List.getElem?_eq_getElem c]at em;exact Option.some.inj em
           rw[e]at this
           exact this.1
         refine⟨_,rfl,.inl ⟨rfl,_,.of hX⟩,_,rfl,_,rfl,1,rfl,hp,_,_,_,rfl,rfl,.of hX,by rw[List.map_append];exact Y1,_,rfl,.inl ⟨g,al,p,rs,_,m,rfl,gr.mono sX,good,le14,hhi,sX _ _ hp',hm,λX2 a2 s2 ha2 h2=>?_⟩⟩
         have tk:ms.take (i+1)=ms.take i++[m]:=by rw[List.take_add_one,em];rfl
         have fa2:H a2=none:=by
           cases z:H a2 with
           | none=>rfl
           | some o=>rw[sX _ _ z]at ha2;cases ha2
         have n2:a2≠hp:=λz=>by rw[z,hX]at ha2;cases ha2
         refine⟨hp,_,_,rfl,rfl,s2 _ _ hX,by rw[List.length_map,List.length_append,List.length_singleton];rw[List.length_append,List.length_singleton]at lls;exact qt (by omega),?_⟩
         have hat2:j7 (upd X2 hp (.lst ((ls0++[al]).map V.ref++[V.ref a2]))) (ls0++[al]) (hps hs (ms.take i)):=⟨hat.1,λj b ys e1 e2=>by
           have hb:=s2 _ _ (hat.2 j b ys e1 e2)
           rw[qe (λ(z:b=hp)=>nin (by rw[<-z];exact List.mem_of_getElem? e1))]
           exact hb⟩
         refine⟨c,_,ls0++[al]++[a2],rfl,λb o hb=>?_,by rw[show (ls0++[al]++[a2]).map V.ref=(ls0++[al]).map V.ref++[V.ref a2] by rw[List.map_append];rfl];exact qd,?_,λb hb=>?_,λz=>?_⟩
         . rw[qe (qo hb fp)]
           exact s2 _ _ (sX _ _ hb)
         . rw[tk,Vr]
           exact hat2.snoc (by rw[qe n2];exact h2)
         . rcases List.mem_append.mp hb with k | k
           . exact fr b k
           . rw[List.mem_singleton.mp k];exact fa2
         . rcases List.mem_append.mp z with k | k
           . exact nin k
           . exact n2 (List.mem_singleton.mp k).symm
       . have ei:i=ms.length:=by omega
         subst ei
         rcases q with ⟨rfl,q⟩ | ⟨v,rest,rfl,nm,q⟩
         . rw[List.append_nil,List.getElem?_map,List.getElem?_eq_none (by omega)]at hy
           cases hy
         . rw[List.getElem?_append_right (by rw[List.length_map];omega),List.length_map,lq,Nat.sub_self]at hy
           obtain rfl:v=y:=by simpa using hy
           rw[List.take_of_length_le (Nat.le_refl _)]at hhi
           exact⟨_,rfl,.inl ⟨rfl,_,.of hX⟩,_,rfl,_,rfl,1,rfl,hp,_,_,_,rfl,rfl,.of hX,by rw[List.map_append];exact Y1,_,rfl,.inr ⟨g,al,rs,_,v,rfl,gr.mono sX,good,le14,hhi,nm.keep sX.keep,λX2 dx s2 hd=>q X2 dx (sX.trans s2) hd⟩⟩
     . rintro σ' X ⟨hi,v4,ls,rfl,sX,hX,hat,fr,nin⟩
       rcases q with ⟨rfl,q⟩ | ⟨v,rest,rfl,_⟩
       . rw[List.append_nil,List.length_map,mv.1,List.take_of_length_le (Nat.le_refl _)]at hat
         exact⟨_,rfl,q X hp ls sX fp hX hat fr nin⟩
       . rw[List.length_append,List.length_map,mv.1,List.length_cons]at hi
         omega
   . refine⟨_,rfl,_,rfl,g,h',rs,hs,rfl,gr,hh,λH1 s1=>?_⟩
     refine⟨_,rfl,_,_,_,_,rfl,rfl,TyOf.keep hty s1.keep,kl,_,rfl,Q6 ⟨_,rfl,by show 1<=sizeLine;decide,λe he=>⟨e,v,rfl,qd,λdx hdx=>⟨rfl,e,CM,dx,rfl,(Z2 he hdx).2.1,xM.rcls,?_⟩⟩⟩⟩
     obtain⟨m1,m2,m3⟩:=Z2 (fs:=[(Str.ofString "found",v)]) he hdx
     exact q _ dx (s1.trans m1) m3
end
end Rh
set_option Elab.async false
set_option linter.all false
set_option maxRecDepth 100000
set_option maxHeartbeats 4000000
namespace Rh
open PySem L2 PyProof.Rows
abbrev U7:Stmt:=top 46
theorem qI {H H':Hp} {d b:Addr} {o:HO} {kv:List (qS×V)} (fr:Fr H d H') (hd:H d=some (.dK kv)) (hb:H b=some o) (no:∀kv,o≠.dK kv):H' b=some o:=fr _ _ hb λe=>by
 rw[e,hd]at hb
 exact no _ (Option.some.inj hb).symm
theorem j7.fr {H H':Hp} {d:Addr} {kv:List (qS×V)} {ls:List Addr} {hss:List (List Str)} (h:j7 H ls hss) (fr:Fr H d H') (hd:H d=some (.dK kv)):j7 H' ls hss:=⟨h.1,λi a hs e1 e2=>qI fr hd (h.2 i a hs e1 e2) (λ_ z=>nomatch z)⟩
theorem qU.fr {H H':Hp} {d:Addr} {kv:List (qS×V)} {qs:List Addr} {ms:List (Nat×Str)} (h:qU H qs ms) (fr:Fr H d H') (hd:H d=some (.dK kv)):qU H' qs ms:=⟨h.1,λi p m e1 e2=>qI fr hd (h.2 i p m e1 e2) (λ_ z=>nomatch z)⟩
theorem qU.lst {H:Hp} {l:Addr} {xs:List V} {o:HO} {qs:List Addr} {ms:List (Nat×Str)} (h:qU H qs ms) (hl:H l=some (.lst xs)):qU (upd H l o) qs ms:=⟨h.1,λi p m e1 e2=>by
 have:=h.2 i p m e1 e2
 rw[qe (λz=>by rw[z,hl]at this;cases this)]
 exact this⟩
theorem j7.lst {H:Hp} {l:Addr} {o:HO} {ls:List Addr} {hss:List (List Str)} (h:j7 H ls hss) (n:l∉ls):j7 (upd H l o) ls hss:=⟨h.1,λi a hs e1 e2=>by
 rw[qe (λ(z:a=l)=>n (by rw[<-z];exact List.mem_of_getElem? e1))]
 exact h.2 i a hs e1 e2⟩
structure XT (H H':Hp) (rs:jV) (hs:List Str) (lm lh:Addr) (qs ls:List Addr) (ms:List (Nat×Str)):Prop where
 lm_:H' lm=some (.lst (qs.map V.ref))
 mv:qU H' qs ms
 lh_:H' lh=some (.lst (ls.map V.ref))
 hs_:j7 H' ls (hps hs ms)
 wk:Wk rs hs ms
 n1:H lm=none
 n2:H lh=none
 n3:∀a∈ls,H a=none
 d1:lm≠lh
 d2:lm∉ls
 d3:lh∉ls
def UV:Sp:=λvs H Q _=>∃(l h d:Addr) (ps:List Addr) (rs:jV) (hs:List Str) (n s t:Int),vs=[.ref l,.ref h,.ref d]/\jG H l ps rs/\jo H h rs hs/\H d=some (.dK (src n s t))/\
 ∀(R lm lh:Addr) (qs ls:List Addr) (ms:List (Nat×Str)) (n' t':Int) (H':Hp),Fr H d H'->H' d=some (.dK (src n' s t'))->H' R=some (.lst [.ref lm,.ref lh])->XT H H' rs hs lm lh qs ls ms->ms.length<=15->Q (.ref R) H'
section
variable {P:Program} {w:World} {K:PySem.W.Frag} {mg:Str->Option Value} {base:Heap}
abbrev nRw:List Str:=["_law_rows_here","_law_heap_here","_law_source_here","_law_heaps","_law_moves_here","_law_k","_law_some","_law_move","_law_behind"]
abbrev KS:List Str:=["_law_rows_here","_law_heap_here","_law_source_here"]
theorem Wi:qy nRw KS (qi U7):=⟨rfl,rfl,rfl,by decide+kernel,rfl,by decide+kernel,by decide+kernel⟩
theorem wz {f fT fM:Addr} {fd fdT fdM:FuncData} (F:j3 K "_law_row" "_law_row" U7 f fd) (B:JN mg) (G:Qd mg) (T:Qc K mg) (hdi:mg "dict"=none) (hT:jx K mg "_law_take" Jx ["_law_source_here","_law_many"] fT fdT) (hM:jx K mg "_law_moves" Jm wo fM fdM):qv P w K mg base jd 2 f fd KS UV:=by
 have GT:qv P w K mg base jd 1 fT fdT ["_law_source_here","_law_many"] QL:=QQ hT.fn
 have GMv:qv P w K mg base jd 1 fM fdM wo zc:=Yc hM.fn T hdi
 refine F.okJ Wi (λvs H Q E h=>?_) (λcdv A outer s H vs Q E hr h=>?_)
 . obtain⟨l,h',d,ps,rs,hs,n,sd,t,rfl,_⟩:=h
   rfl
 . obtain⟨l,h',d,ps,rs,hs,n,sd,t,rfl,g,hh,hd,q⟩:=h
   have hu:(A.deeper (envOfC "_law_row" (qi U7) s.heap.objs.size f cdv)).units < cLine:=hr.units0
   refine⟨_,qh (qx (i:=3) Wi.nd rfl (Or.inl rfl) (jl (qb (qM qO (by rfl) G.lst boot_list (qb (jv 1) qg)) qg)))
     (qh (qx (i:=4) Wi.nd rfl (Or.inl rfl) (jl qg))
     (qh (jr PassesOwn.never rfl (jQ (by rfl) B.rng (qb (qQ hT GT hr (by rfl) (qb (jv 2) (qb ql qg))) qg)) (qz (i:=5) Wi.nd rfl (Or.inl rfl))
       (qh (qx (i:=6) Wi.nd rfl (Or.inl rfl) (qQ hM GMv hr (by rfl) (qb (jv 0) (qb (qP qW (jv 3) (Vo Yx ql) (λ_ _=>rfl)) qg))))
       (qm (q5 (qw (yt hu) (jv 6) (jl qg) (qD _))
         (qh (qx (i:=7) Wi.nd rfl (Or.inl rfl) (qP qW (jv 6) (qQ hT GT hr (by rfl) (qb (jv 2) (qb (qr qC (by rfl) B.len boot_len (qb (jv 6) qg)) qg))) (λ_ _=>rfl)))
         (qh (qx (i:=8) Wi.nd rfl (Or.inl rfl) (qM qO (by rfl) G.lst boot_list (qb (qP qW (jv 3) (Vo Yx ql) (λ_ _=>rfl)) qg)))
         (qh (YL (qP jt (jv 7) ql (λ_ _=>rfl)) (vP (jv 8) (qP jt (jv 7) ql (λ_ _=>rfl)) Xg))
         (qh (qV (Jh PySem.F.plainAttrs_list PySem.F.slot_list_append PySem.F.type_list_append jA (jv 4) (qb (jv 7) qg)))
         (qm (qV (Jh PySem.F.plainAttrs_list PySem.F.slot_list_append PySem.F.type_list_append jA (jv 3) (qb (jv 8) qg)))))))) qE))))
     (qm (qJ (jl (qb (jv 4) (qb (jv 3) qg))))))),?_⟩
   have good:=g.good
   have oks:Q8 rs hs:=⟨hh.le,hh.in_⟩
   refine⟨_,rfl,h',_,rfl,.inl (.of hh.at_),λa0 ha0=>⟨by show 1<=sizeLine;decide,λlh hlh=>⟨by show 0<=sizeLine;decide,λlm hlm=>?_⟩⟩⟩
   have u1:=qj (o:=HO.lst (hs.map V.str)) ha0
   have v1:upd H a0 (.lst (hs.map V.str)) a0=some (.lst (hs.map V.str)):=qd
   generalize upd H a0 (.lst (hs.map V.str))=H1 at u1 v1 hlh hlm
   have u2:=qj (o:=HO.lst [V.ref a0]) hlh
   have v2:upd H1 lh (.lst [V.ref a0]) lh=some (.lst [V.ref a0]):=qd
   have f2:H lh=none:=by
     cases z:H lh with
     | none=>rfl
     | some o=>rw[u1 _ _ z]at hlh;cases hlh
   have na:a0≠lh:=λz=>by rw[z,hlh]at v1;cases v1
   generalize upd H1 lh (.lst [V.ref a0])=H2 at u2 v2 hlm
   have u12:=u1.trans u2
   have u3:=qj (o:=HO.lst []) hlm
   have v3:upd H2 lm (.lst []) lm=some (.lst []):=qd
   have f3:H lm=none:=by
     cases z:H lm with
     | none=>rfl
     | some o=>rw[u12 _ _ z]at hlm;cases hlm
   have nl:lm≠lh:=λz=>by rw[z,v2]at hlm;cases hlm
   have nla:lm≠a0:=λz=>by rw[z,u2 _ _ v1]at hlm;cases hlm
   generalize upd H2 lm (.lst [])=H3 at u3 v3
   have u13:=u12.trans u3
   refine⟨_,rfl,d,16,n,sd,t,rfl,u13 _ _ hd,by decide,by decide,λcnt n1 t1 c0 c1=>?_⟩
   have hd4:upd H3 d (.dK (src n1 sd t1)) d=some (.dK (src n1 sd t1)):=qd
   have fr4:Fr H3 d (upd H3 d (.dK (src n1 sd t1))):=Fr.refl.at_d
   generalize upd H3 d (.dK (src n1 sd t1))=H4 at hd4 fr4
   have hd3:=u13 _ _ hd
   have f04:Fr H d H4:=λb o hb nb=>fr4 _ _ (u13 _ _ hb) nb
   refine⟨cnt,rfl,by omega,by omega,?_⟩
   refine QI (λi σ' X=>∃(v5 v6 v7 v8:Option V) (qs ls:List Addr) (ms:List (Nat×Str)) (n' t':Int),σ'=[some (.ref l),some (.ref h'),some (.ref d),some (.ref lh),some (.ref lm),v5,v6,v7,v8]/\Fr H d X/\X d=some (.dK (src n' sd t'))/\XT H X rs hs lm lh qs ls ms/\ms.length<=i)
     ⟨_,_,_,_,[],[a0],[],n1,t1,rfl,f04,hd4,⟨qI fr4 hd3 v3 (λ_ z=>nomatch z),qU.nil _,qI fr4 hd3 (u3 _ _ v2) (λ_ z=>nomatch z),j7.snoc (ls:=[]) (hss:=[]) ⟨rfl,λi a y e=>(nomatch e)⟩ (qI fr4 hd3 ((u2.trans u3) _ _ v1) (λ_ z=>nomatch z)),trivial,f3,f2,λa ha=>by rw[List.mem_singleton.mp ha];exact ha0,nl,λz=>nla (List.mem_singleton.mp z),λz=>na (List.mem_singleton.mp z).symm⟩,Nat.zero_le _⟩ ?_ ?_
   . rintro i σ' X hi ⟨v5,v6,v7,v8,qs,ls,ms,n',t',rfl,frX,hdX,ro,lms⟩
     have hi:i < 16:=by omega
     have lls:=ro.hs_.1
     rw[Zi]at lls
     obtain⟨ls0,al,rfl⟩:∃ls0 al,ls=ls0++[al]:=⟨ls.dropLast,ls.getLast (by intro z;rw[z]at lls;cases lls),(List.dropLast_concat_getLast _).symm⟩
     have hal:X al=some (.lst ((qG hs ms).map V.str)):=by
       refine ro.hs_.2 ls0.length al _ (by rw[List.getElem?_append_right (Nat.le_refl _),Nat.sub_self];rfl) ?_
       have:ls0.length=ms.length:=by rw[List.length_append,List.length_singleton]at lls;omega
       rw[this]
       have e:=YR hs ms ms.length (Nat.le_refl _)
       rw[List.take_of_length_le (Nat.le_refl _)]at e
       exact e
     have oki:=oks.last good ro.wk
     have hhi:jo X al rs (qG hs ms):=⟨hal,oki.1,oki.2⟩
     have gX:=g.fr' hd frX
     have eal:Y2 ((ls0++[al]).map V.ref) (-1)=some (.ref al):=by rw[List.map_append];exact Y1
     refine⟨_,rfl,_,rfl,1,rfl,lh,_,_,_,rfl,rfl,.of ro.lh_,eal,l,al,ps,rs,_,rfl,gX,hhi,λX2 lf qf s2 hlf hlf2 mv2=>?_⟩
     refine⟨_,rfl,by show 0<=sizeLine;decide,λe0 he0=>⟨lf,e0,_,rfl,rfl,.of ((qj he0) _ _ hlf2),.of qd,_,rfl,?_⟩⟩
     have s3:=qj (o:=HO.lst []) he0
     generalize upd X2 e0 (.lst [])=X3 at s3
     have s23:=s2.trans s3
     have ro3:XT H X3 rs hs lm lh qs (ls0++[al]) ms:=⟨s23 _ _ ro.lm_,ro.mv.mono s23,s23 _ _ ro.lh_,ro.hs_.mono s23,ro.wk,ro.n1,ro.n2,ro.n3,ro.d1,ro.d2,ro.d3⟩
     have fr3:Fr H d X3:=frX.same s23
     have hdX3:=s23 _ _ hdX
     cases ce:(qf.map V.ref).isEmpty with
     | true=>exact QV rfl ⟨_,_,_,_,qs,_,ms,n',t',rfl,fr3,hdX3,ro3,by omega⟩
     | false=>
       refine Z4 rfl ?_
       have lqf:0 < qf.length:=by
         cases qf with
         | nil=>cases ce
         | cons a b=>exact Nat.succ_pos _
       have mvl:=Jo good g.le oki.2 (qG hs ms).length (Nat.le_refl _)
       have lq:=mv2.1
       have h8:=oki.1
       have lq112:qf.length<=112:=by omega
       have hlf3:=s3 _ _ hlf2
       refine⟨_,rfl,_,rfl,_,rfl,lf,_,rfl,.inl (.of hlf3),d,_,n',sd,t',rfl,hdX3,by rw[List.length_map];omega,by rw[List.length_map];omega,λj n5 t5 j0 j1=>?_⟩
       rw[List.length_map]at j1
       obtain⟨jn,rfl⟩:∃jn:Nat,j=(jn:Int):=⟨j.toNat,by omega⟩
       have hj:jn < qf.length:=by omega
       have hd5:upd X3 d (.dK (src n5 sd t5)) d=some (.dK (src n5 sd t5)):=qd
       have fr5:Fr X3 d (upd X3 d (.dK (src n5 sd t5))):=Fr.refl.at_d
       generalize upd X3 d (.dK (src n5 sd t5))=X5 at hd5 fr5
       have ep:qf[jn]?=some qf[jn]:=List.getElem?_eq_getElem hj
       generalize qf[jn]=p at ep
       have em:(QK rs (qG hs ms) (qG hs ms).length)[jn]?=some (QK rs (qG hs ms) (qG hs ms).length)[jn]:=List.getElem?_eq_getElem (by omega)
       have mm:(QK rs (qG hs ms) (qG hs ms).length)[jn]'(by omega)∈QK rs (qG hs ms) (qG hs ms).length:=List.getElem_mem (by omega)
       generalize (QK rs (qG hs ms) (qG hs ms).length)[jn]'(by omega)=m at em mm
       have hp5:=qI fr5 hdX3 (s3 _ _ (mv2.2 jn p m ep em)) (λ_ z=>nomatch z)
       have ro5:XT H X5 rs hs lm lh qs (ls0++[al]) ms:=⟨qI fr5 hdX3 ro3.lm_ (λ_ z=>nomatch z),ro3.mv.fr fr5 hdX3,qI fr5 hdX3 ro3.lh_ (λ_ z=>nomatch z),ro3.hs_.fr fr5 hdX3,ro.wk,ro.n1,ro.n2,ro.n3,ro.d1,ro.d2,ro.d3⟩
       have hal5:=qI fr5 hdX3 (s23 _ _ hal) (λ_ z=>nomatch z)
       have f05:Fr H d X5:=fr3.trans fr5
       refine⟨lf,_,_,_,rfl,rfl,.of (qI fr5 hdX3 hlf3 (λ_ z=>nomatch z)),Qu (j:=jn) (by rw[List.getElem?_map,ep];rfl),?_⟩
       refine⟨_,rfl,1,rfl,lh,_,_,_,rfl,rfl,.of ro5.lh_,eal,al,_,rfl,.inl (.of hal5),λb hb=>?_⟩
       have s6:=qj (o:=HO.lst ((qG hs ms).map V.str)) hb
       have h6:upd X5 b (.lst ((qG hs ms).map V.str)) b=some (.lst ((qG hs ms).map V.str)):=qd
       have fb:H b=none:=f05.fresh hd5 hb
       have nbm:b≠lm:=λz=>by rw[z,ro5.lm_]at hb;cases hb
       have nbh:b≠lh:=λz=>by rw[z,ro5.lh_]at hb;cases hb
       have nbl:b∉ls0++[al]:=λz=>by
         obtain⟨k,hk,e⟩:=List.getElem_of_mem z
         have e1:(ls0++[al])[k]?=some b:=by rw[List.getElem?_eq_getElem hk,e]
         have e2:=List.getElem?_eq_getElem (l:=hps hs ms) (i:=k) (by rw[<-ro5.hs_.1];exact hk)
         rw[ro5.hs_.2 k b _ e1 e2]at hb
         cases hb
       generalize upd X5 b (.lst ((qG hs ms).map V.str))=X6 at s6 h6
       have hp6:=s6 _ _ hp5
       have m1:=(Qs mm).1
       refine⟨_,rfl,p,_,1,_,rfl,rfl,.of hp6,rfl,_,rfl,_,rfl,p,_,0,_,rfl,rfl,.of hp6,rfl,b,_,_,m.1,rfl,rfl,h6,?_,?_⟩
       . unfold vY
         rw[List.length_map]
         simp [m1]
       have e7:((qG hs ms).map V.str).set m.1 (V.str m.2)=((qG hs ms).set m.1 m.2).map V.str:=(List.map_set ..).symm
       rw[e7]
       have h7:upd X6 b (.lst (((qG hs ms).set m.1 m.2).map V.str)) b=some (.lst (((qG hs ms).set m.1 m.2).map V.str)):=qd
       have ro7:XT H (upd X6 b (.lst (((qG hs ms).set m.1 m.2).map V.str))) rs hs lm lh qs (ls0++[al]) ms:=⟨by rw[qe (Ne.symm nbm)];exact s6 _ _ ro5.lm_,(ro5.mv.mono s6).lst h6,by rw[qe (Ne.symm nbh)];exact s6 _ _ ro5.lh_,(ro5.hs_.mono s6).lst nbl,ro.wk,ro.n1,ro.n2,ro.n3,ro.d1,ro.d2,ro.d3⟩
       have hp7:upd X6 b (.lst (((qG hs ms).set m.1 m.2).map V.str)) p=some (.tup (kH m)):=by
         rw[qe (λz=>by rw[z,h6]at hp6;cases hp6)]
         exact hp6
       have f07:Fr H d (upd X6 b (.lst (((qG hs ms).set m.1 m.2).map V.str))):=(f05.same s6).own fb
       have ndb:d≠b:=λz=>by rw[<-z,hd]at fb;cases fb
       have hd7:upd X6 b (.lst (((qG hs ms).set m.1 m.2).map V.str)) d=some (.dK (src n5 sd t5)):=by rw[qe ndb];exact s6 _ _ hd5
       generalize upd X6 b (.lst (((qG hs ms).set m.1 m.2).map V.str))=X7 at h7 ro7 hp7 f07 hd7
       have lqs:=ro7.mv.1
       refine⟨_,rfl,.inl ⟨rfl,_,.of ro7.lm_⟩,_,rfl,lm,_,_,rfl,rfl,ro7.lm_,by rw[List.length_map];exact qt (by omega),?_⟩
       have h8m:upd X7 lm (.lst (qs.map V.ref++[V.ref p])) lm=some (.lst ((qs++[p]).map V.ref)):=by rw[List.map_append];exact qd
       have mv8:qU (upd X7 lm (.lst (qs.map V.ref++[V.ref p]))) (qs++[p]) (ms++[m]):=(ro7.mv.app (.one hp7)).lst ro7.lm_
       have h8h:upd X7 lm (.lst (qs.map V.ref++[V.ref p])) lh=some (.lst ((ls0++[al]).map V.ref)):=by rw[qe (Ne.symm ro.d1)];exact ro7.lh_
       have hs8:j7 (upd X7 lm (.lst (qs.map V.ref++[V.ref p]))) (ls0++[al]) (hps hs ms):=ro7.hs_.lst ro.d2
       have hb8:upd X7 lm (.lst (qs.map V.ref++[V.ref p])) b=some (.lst (((qG hs ms).set m.1 m.2).map V.str)):=by rw[qe nbm];exact h7
       have f08:Fr H d (upd X7 lm (.lst (qs.map V.ref++[V.ref p]))):=f07.own f3
       have ndm:d≠lm:=λz=>by rw[<-z,hd]at f3;cases f3
       have hd8:upd X7 lm (.lst (qs.map V.ref++[V.ref p])) d=some (.dK (src n5 sd t5)):=by rw[qe ndm];exact hd7
       generalize upd X7 lm (.lst (qs.map V.ref++[V.ref p]))=X8 at h8m mv8 h8h hs8 hb8 f08 hd8
       refine⟨_,rfl,.inl ⟨rfl,_,.of h8h⟩,_,rfl,lh,_,_,rfl,rfl,h8h,by rw[List.length_map,lls];exact qt (by omega),?_⟩
       have ndh:d≠lh:=λz=>by rw[<-z,hd]at f2;cases f2
       refine⟨_,_,_,_,qs++[p],ls0++[al]++[b],ms++[m],n5,t5,rfl,f08.own f2,by rw[qe ndh];exact hd8,⟨by rw[qe ro.d1];exact h8m,mv8.lst h8h,?_,?_,ro.wk.mk mm,f3,f2,?_,ro.d1,?_,?_⟩,by rw[List.length_append,List.length_singleton];omega⟩
       . rw[show (ls0++[al]++[b]).map V.ref=(ls0++[al]).map V.ref++[V.ref b] by rw[List.map_append];rfl]
         exact qd
       . rw[Vr]
         exact(hs8.lst ro.d3).snoc (by rw[qe nbh];exact hb8)
       . intro a ha
         rcases List.mem_append.mp ha with k | k
         . exact ro.n3 a k
         . rw[List.mem_singleton.mp k];exact fb
       . intro z
         rcases List.mem_append.mp z with k | k
         . exact ro.d2 k
         . exact nbm (List.mem_singleton.mp k).symm
       . intro z
         rcases List.mem_append.mp z with k | k
         . exact ro.d3 k
         . exact nbh (List.mem_singleton.mp k).symm
   . rintro σ' X ⟨v5,v6,v7,v8,qs,ls,ms,n',t',rfl,frX,hdX,ro,lms⟩
     refine⟨_,rfl,_,rfl,by show 2<=sizeLine;decide,λR hR=>?_⟩
     have s9:=qj (o:=HO.lst [V.ref lm,V.ref lh]) hR
     exact q R lm lh qs ls ms n' t' _ (frX.same s9) (s9 _ _ hdX) qd ⟨s9 _ _ ro.lm_,ro.mv.mono s9,s9 _ _ ro.lh_,ro.hs_.mono s9,ro.wk,ro.n1,ro.n2,ro.n3,ro.d1,ro.d2,ro.d3⟩ (by omega)
end
end Rh
set_option Elab.async false
set_option linter.all false
set_option maxRecDepth 100000
set_option maxHeartbeats 4000000
namespace Rh
open PySem L2 PyProof.Rows
abbrev U8:Stmt:=top 47
abbrev yf:Stmt:=top 48
def UF (K:PySem.W.Frag) (H:Hp) (rs:jV) (hs:List Str) (v fv:V):Prop:=
 (∃(l:Addr) (qs:List Addr) (ms:List (Nat×Str)) (rest:List V),v=.ref l/\H l=some (.lst (qs.map V.ref++fv::rest))/\qU H qs ms/\Wk rs hs ms/\ms.length<=100/\ZV K H (QK rs (qG hs ms) (qG hs ms).length) fv)\/
 (fv=v/\∃t,TyOf K H v t/\PySem.W.kitOne K t (.type "list")=some false)
theorem UF.keep {K:PySem.W.Frag} {H H':Hp} {rs:jV} {hs:List Str} {v fv:V} (h:UF K H rs hs v fv) (s:Qo H H'):UF K H' rs hs v fv:=by
 rcases h with ⟨l,qs,ms,rest,e,hl,mv,wk,lm,nm⟩ | ⟨e,t,ty,k⟩
 . exact .inl ⟨l,qs,ms,rest,e,s _ _ hl (λ_ z=>nomatch z),mv.keep s,wk,lm,nm.keep s⟩
 . exact .inr ⟨e,t,TyOf.keep ty s,k⟩
def UU (K:PySem.W.Frag) (CG:Addr):Sp:=λvs H Q _=>∃(g h:Addr) (v:V) (rs:jV) (hs:List Str),vs=[.ref g,.ref h,v]/\jW CG H g rs/\qF rs/\rs.length<=14/\jo H h rs hs/\
 ((∃(l:Addr) (qs:List Addr) (ms:List (Nat×Str)),v=.ref l/\H l=some (.lst (qs.map V.ref))/\qU H qs ms/\Wk rs hs ms/\ms.length<=100/\∀H' L ls,Same H H'->H L=none->H' L=some (.lst (ls.map V.ref))->j7 H' ls (hps hs ms)->(∀a∈ls,H a=none)->L∉ls->Q (.ref L) H')\/
  ∃fv,UF K H rs hs v fv/\∀H' R,Qo H H'->R≠sysModules->H' R=some (.lst [.str (Str.ofString "no move"),fv,.bl true])->Q (.ref R) H')
def xB (CG:Addr):Sp:=λvs H Q _=>∃(g h l lh:Addr) (rs:jV) (hs:List Str) (qs ls:List Addr) (ms:List (Nat×Str)),vs=[.ref g,.ref h,.ref l,.ref lh]/\jW CG H g rs/\qF rs/\rs.length<=14/\jo H h rs hs/\H l=some (.lst (qs.map V.ref))/\qU H qs ms/\Wk rs hs ms/\ms.length<=15/\H lh=some (.lst (ls.map V.ref))/\j7 H ls (hps hs ms)/\∀H',Same H H'->Q (.bl true) H'
def kx (hss:List (List Str)):PyData:=.list (hss.map dL)
theorem j7.tail {H:Hp} {a:Addr} {ls:List Addr} {hs:List Str} {hss:List (List Str)} (h:j7 H (a::ls) (hs::hss)):j7 H ls hss:=⟨Nat.succ.inj h.1,λi b ys e1 e2=>h.2 (i+1) b ys (by simpa using e1) (by simpa using e2)⟩
theorem Jk {K:PySem.W.Frag} {H:Hp}:∀{ls:List Addr} {hss:List (List Str)},j7 H ls hss->DVs K H (ls.map V.ref) (hss.map dL)
 | [],[],_=>.nil
 | [],_::_,h=>by cases h.1
 | _::_,[],h=>by cases h.1
 | a::ls,hs::hss,h=>.cons (uk (h.2 0 a hs rfl rfl)) (Jk h.tail)
structure kE (hss:List (List Str)):Prop where
 sh:(kx hss).showable=true
 nd:(kx hss).hasDict=false
 dp:(kx hss).depth<=60
 ln:(kx hss).shown.length<=sizeLine
theorem Zt:∀{zs:List Str},(∀z∈zs,qK z=true)->PyData.showableAll (zs.map PyData.str)=true/\PyData.hasDictAll (zs.map PyData.str)=false/\PyData.depthAll (zs.map PyData.str)<=1/\((PyData.shownAll (zs.map PyData.str)).map (·.length)).sum<=100*zs.length/\(PyData.shownAll (zs.map PyData.str)).length=zs.length
 | [],_=>by decide+kernel
 | z::zs,h=>by
   obtain⟨a,b,c,d,e⟩:=Zt λy hy=>h y (List.mem_cons_of_mem _ hy)
   have hz:=h z List.mem_cons_self
   have h2:(PyData.str z).shown.length<=10*z.length+2:=YF (jL hz).1
   have h3:=(jL hz).2.1
   refine⟨?_,?_,?_,?_,?_⟩
   . rw[List.map_cons,PyData.showableAll,a];rfl
   . rw[List.map_cons,PyData.hasDictAll,b];rfl
   . rw[List.map_cons,PyData.depthAll]
     show max (PyData.depth (.str z)) _<=1
     simp only[PyData.depth]
     omega
   . rw[List.map_cons,PyData.shownAll,List.map_cons,List.sum_cons,List.length_cons]
     omega
   . rw[List.map_cons,PyData.shownAll,List.length_cons,List.length_cons,e]
theorem Xw:∀{hss:List (List Str)},(∀hs∈hss,hs.length<=8/\∀z∈hs,qK z=true)->PyData.showableAll (hss.map dL)=true/\PyData.hasDictAll (hss.map dL)=false/\PyData.depthAll (hss.map dL)<=3/\((PyData.shownAll (hss.map dL)).map (·.length)).sum<=1000*hss.length/\(PyData.shownAll (hss.map dL)).length=hss.length
 | [],_=>by decide+kernel
 | hs::hss,h=>by
   obtain⟨a,b,c,d,e⟩:=Xw λy hy=>h y (List.mem_cons_of_mem _ hy)
   obtain⟨h8,hn⟩:=h hs List.mem_cons_self
   obtain⟨a1,b1,c1,d1,e1⟩:=Zt hn
   refine⟨?_,?_,?_,?_,?_⟩
   . rw[List.map_cons,PyData.showableAll,a,Bool.and_true]
     exact a1
   . rw[List.map_cons,PyData.hasDictAll,b,Bool.or_false]
     exact b1
   . rw[List.map_cons,PyData.depthAll]
     have:(dL hs).depth<=3:=by unfold dL;simp only[PyData.depth];omega
     omega
   . rw[List.map_cons,PyData.shownAll,List.map_cons,List.sum_cons,List.length_cons]
     have:(dL hs).shown.length<=1000:=by
       show (listText (PyData.shownAll (hs.map PyData.str))).length<=1000
       have:=listText_len_le (PyData.shownAll (hs.map PyData.str))
       omega
     omega
   . rw[List.map_cons,PyData.shownAll,List.length_cons,List.length_cons,e]
theorem yK {hss:List (List Str)} (h:∀hs∈hss,hs.length<=8/\∀z∈hs,qK z=true) (l:hss.length<=20):kE hss:=by
 obtain⟨a,b,c,d,e⟩:=Xw h
 refine⟨a,b,?_,?_⟩
 . unfold kx;simp only[PyData.depth];omega
 . show (listText (PyData.shownAll (hss.map dL))).length<=sizeLine
   have:=listText_len_le (PyData.shownAll (hss.map dL))
   exact Nat.le_trans (by omega:_<=30000) (by decide)
theorem Q8.names {rs:jV} {hs:List Str} (o:Q8 rs hs) (g:qF rs):∀z∈hs,qK z=true:=λz hz=>Yj g (o.2 z hz)
theorem WD {rs:jV} (g:qF rs) {ms:List (Nat×Str)}:∀{hs:List Str},Q8 rs hs->Wk rs hs ms->∀x∈hps hs ms,Q8 rs x:=by
 induction ms with
 | nil=>intro hs o _ x hx;rw[List.mem_singleton.mp hx];exact o
 | cons m ms ih=>
   intro hs o wk x hx
   rcases List.mem_cons.mp hx with e | e
   . rw[e];exact o
   . exact ih (o.set g wk.1) wk.2 x e
section
variable {P:Program} {w:World} {K:PySem.W.Frag} {mg:Str->Option Value} {base:Heap}
abbrev GC:List Str:=["_law_ground","_law_heap_here","_law_moves_here","_law_found","e"]
abbrev V2:List Str:=["_law_ground","_law_heap_here","_law_moves_here"]
theorem Xh:qy GC V2 (qi U8):=⟨rfl,rfl,rfl,by decide+kernel,rfl,by decide+kernel,by decide+kernel⟩
theorem wC {f fW fH fQ fA CG D CM fX CH:Addr} {fd fdW fdH fdQ fdA fdX:FuncData} (F:j3 K "_law_walked" "_law_walked" U8 f fd) (B:JN mg) (G:Qd mg) (T:Qc K mg) (M:GM K mg CG) (Z:HM K mg) (hQ:jx K mg "need_place" QN kG fQ fdQ) (hH:jx K mg "need_heap" Q9 ["ground","heap"] fH fdH) (hA:jx K mg "after" Ja vC fA fdA) (hW:jx K mg "walk" Xi u9 fW fdW)
   (xM:xk K mg D "NoMove" "NoMove.__init__" Qq "found" CM fX fdX) (Y:uh K mg D CM CH):qv P w K mg base jd 8 f fd V2 (UU K CG):=by
 have GW:qv P w K mg base (Jt P w) 7 fW fdW u9 (λvs H Q E=>UQ K CG CM vs H Q E\/W0 K CG CM vs H Q E):=yw hW.fn B G T M Z hQ hH hA xM
 refine F.okJ Xh (λvs H Q E h=>?_) (λcdv A outer s H vs Q E hr h=>?_)
 . obtain⟨g,h',v,rs,hs,rfl,_⟩:=h
   rfl
 . obtain⟨g,h',v,rs,hs,rfl,gr,gd,le,hh,h⟩:=h
   refine⟨_,qh (qx (i:=3) Xh.nd rfl (Or.inl rfl) zG)
     (qh (wQ rfl rfl (λpn W E hE=>qm (qx (i:=3) Xh.nd rfl (Or.inl rfl) (Kr hW GW hr hE (by rfl) (qb (jv 0) (qb (jv 1) (qb (jv 2) qg))))))
       (yP (j:=4) (ts:=UO (xq (jC (tC (.str (Str.ofString "no move"))) (jC (xr K (.ref D::jP) (jH 4) "found") (jC (xu (uq (Wr K (.ref D::jP)) (jC (jH 4) (jC (tC (.ref D)) JB))) (xp (uq (Wr K (.ref D::jP)) (jC (jH 4) (jC (tC (.ref CH)) JB))))) JB)))) (QH 3))
         (by rfl) xM.ns xM.rcls Xh.nd rfl rfl
         (λv E=>qm (qx (i:=3) Xh.nd rfl (Or.inl rfl) (YO (qb je (qb (yS (bm:=.ref D::jP) (jv 4) rfl) (qb (YQ (qr (ZR (bm:=.ref D::jP) Y.spc Y.tks) (by rfl) T.isi boot_isinstance (qb (jv 4) (qb (QU (v:=.ref D) (by rfl) Y.nD rfl) qg)))
           (YN (vQ (qr (ZR (bm:=.ref D::jP) Y.spc Y.tks) (by rfl) T.isi boot_isinstance (qb (jv 4) (qb (QU (v:=.ref CH) (by rfl) Y.nH rfl) qg)))))) qg))))))
         vO))
     (qm (qJ (jv 3)))),?_⟩
   rcases h with ⟨l,qs,ms,rfl,hl,mv,wk,lm,q⟩ | ⟨fv,bw,q⟩
   . exact⟨λ_ _ _=>False,⟨_,rfl,_,rfl,_,rfl,.inl ⟨g,h',l,rs,hs,qs,ms,[],rfl,gr,gd,le,hh,by rw[List.append_nil];exact hl,mv,wk,lm,.inl ⟨rfl,λH' L ls s' n1 h1 h2 n2 n3=>⟨_,rfl,q H' L ls s' n1 h1 h2 n2 n3⟩⟩⟩⟩,λ_ _ _ _ _ _ z=>z.elim⟩
   . refine⟨λC dx Hx=>C=CM/\Same H Hx/\Hx dx=some (.xd [(Str.ofString "found",fv)]),⟨_,rfl,_,rfl,_,rfl,?_⟩,?_⟩
     . rcases bw with ⟨l,qs,ms,rest,rfl,hl,mv,wk,lm,nm⟩ | ⟨rfl,t,ty,k⟩
       . exact .inl ⟨g,h',l,rs,hs,qs,ms,fv::rest,rfl,gr,gd,le,hh,hl,mv,wk,lm,.inr ⟨fv,rest,rfl,nm,λH1 dx s1 h1=>⟨rfl,CM,dx,rfl,rfl,rfl,s1,h1⟩⟩⟩
       . exact .inr ⟨g,h',fv,rs,hs,t,rfl,gr,hh,ty,k,λH1 dx s1 h1=>⟨rfl,CM,dx,rfl,rfl,rfl,s1,h1⟩⟩
     rintro a C dx T' Hx H' ⟨rfl,sx,hdx⟩ ha kp ha'
     have nda:dx≠a:=λz=>by
       rw[z,ha]at hdx
       cases hdx
     have hdx':=kp dx _ nda hdx
     have k1:Qo H H':=λb o hb nx=>kp b o (λz=>by
       rw[z]at hb
       have:=sx _ _ hb
       rw[ha]at this
       exact nx _ (Option.some.inj this).symm) (sx _ _ hb)
     have lk:([(Str.ofString "found",fv)]:List (Str×V)).lookup (Str.ofString "found")=some fv:=by simp [List.lookup]
     refine⟨fX,_,xM.mkr,?_⟩
     rw[if_pos (by simp [List.contains_cons])]
     refine⟨_,rfl,a,C,dx,_,_,fv,rfl,ha',hdx',xM.cls,xM.na,lk,_,rfl,a,C,dx,_,_,.ref D,true,rfl,rfl,ha',hdx',xM.cls,Y.k1,_,rfl,Q6 ?_⟩
     refine⟨_,rfl,a,C,dx,_,_,.ref CH,false,rfl,rfl,ha',hdx',xM.cls,Y.k2,_,rfl,by show 3<=sizeLine;decide,λl hl nl=>?_⟩
     exact⟨_,rfl,q _ l (k1.trans (qj hl).keep) nl qd⟩
abbrev GD:List Str:=["_law_ground","_law_heap_here","_law_moves_here","_law_heaps","_law_found","_law_one"]
abbrev yp:List Str:=["_law_ground","_law_heap_here","_law_moves_here","_law_heaps"]
theorem U5:qy GD yp (qi yf):=⟨rfl,rfl,rfl,by decide+kernel,rfl,by decide+kernel,by decide+kernel⟩
theorem wE {f fW CG:Addr} {fd fdW:FuncData} (F:j3 K "_law_good" "_law_good" yf f fd) (G:Qd mg) (T:Qc K mg) (rep:mg "repr"=none) (hW:jx K mg "_law_walked" U8 V2 fW fdW) (GW:qv P w K mg base jd 8 fW fdW V2 (UU K CG)):qv P w K mg base jd 9 f fd yp (xB CG):=by
 refine F.okJ U5 (λvs H Q E h=>?_) (λcdv A outer s H vs Q E hr h=>?_)
 . obtain⟨g,h',l,lh,rs,hs,qs,ls,ms,rfl,_⟩:=h
   rfl
 . obtain⟨g,h',l,lh,rs,hs,qs,ls,ms,rfl,gr,gd,le,hh,hl,mv,wk,lm,hlh,hat,q⟩:=h
   refine⟨_,qh (qx (i:=4) U5.nd rfl (Or.inl rfl) (qQ hW GW hr (by rfl) (qb (jv 0) (qb (jv 1) (qb (jv 2) qg)))))
     (qh (q5 (JW.pt (Q2 (jM (jq (qr jg (by rfl) T.isi boot_isinstance (qb (jv 4) (qb (j2 (v:=.ty "list") (by rfl) G.lst boot_list rfl) qg))))) (Qm (qw Vj (qr (Jr hr.gd hr.units) (by rfl) rep boot_repr (qb (jv 4) qg)) (qr (Jr hr.gd hr.units) (by rfl) rep boot_repr (qb (jv 3) qg)) (qD _))))) qL qE)
     (qh (jr PassesOwn.never rfl (jk (jv 4)) (qz (i:=5) U5.nd rfl (Or.inl rfl)) (qm (qV (Jh PySem.F.plainAttrs_list PySem.F.slot_list_append PySem.F.type_list_append jA (jv 5) (qb je qg)))))
     (qh (qV (vV PySem.F.plainAttrs_list PySem.F.slot_list_clear PySem.F.type_list_clear vE (jv 4)))
     (qm (qJ (Qt Qr (qr (Jr hr.gd hr.units) (by rfl) rep boot_repr (qb (qQ hW GW hr (by rfl) (qb (jv 0) (qb (jv 1) (qb (jv 2) qg)))) qg)) (qr (Jr hr.gd hr.units) (by rfl) rep boot_repr (qb (jv 3) qg)) (qD _))))))),?_⟩
   have oks:Q8 rs hs:=⟨hh.le,hh.in_⟩
   have D:kE (hps hs ms):=yK (λx hx=>⟨(WD gd oks wk x hx).1,(WD gd oks wk x hx).names gd⟩) (by rw[Zi];omega)
   refine⟨_,rfl,_,rfl,_,rfl,g,h',_,rs,hs,rfl,gr,gd,le,hh,.inl ⟨l,qs,ms,rfl,hl,mv,wk,by omega,λH1 L ks s1 nL hL hks nk nin=>?_⟩⟩
   refine⟨_,rfl,_,_,_,_,rfl,rfl,.lst hL,T.kll,_,rfl,jI ?_⟩
   refine⟨_,rfl,L,kx (hps hs ms),rfl,.lst (.of hL) (Jk hks),D.sh,D.nd,D.dp,D.ln,_,rfl,lh,kx (hps hs ms),rfl,.lst (.of (s1 _ _ hlh)) (Jk (hat.mono s1)),D.sh,D.nd,D.dp,D.ln,rfl,_,rfl,QV ?_ ?_⟩
   . show (!decide (V.str (kx (hps hs ms)).shown=V.str (kx (hps hs ms)).shown))=false
     rw[decide_eq_true rfl]
     rfl
   refine⟨_,rfl,L,rfl,⟨_,.of hL⟩,?_⟩
   refine jT (K:=K) (a:=L) (xs:=ks.map V.ref) (λi σ' X=>∃(v5:Option V),σ'=[some (.ref g),some (.ref h'),some (.ref l),some (.ref lh),some (.ref L),v5]/\Same H X/\X L=some (.lst (ks.map V.ref))/\∀a∈ks,∃ys,X a=some (.lst ys)/\ys.length<=8+i)
     ⟨_,rfl,s1,hL,λa ha=>?_⟩ (λi σ' X _ ⟨_,_,_,hX,_⟩=>.of hX) ?_ ?_
   . obtain⟨k,hk,e⟩:=List.getElem_of_mem ha
     have e1:ks[k]?=some a:=by rw[List.getElem?_eq_getElem hk,e]
     have e2:=List.getElem?_eq_getElem (l:=hps hs ms) (i:=k) (by rw[<-hks.1];exact hk)
     refine⟨_,hks.2 k a _ e1 e2,?_⟩
     rw[List.length_map]
     exact(WD gd oks wk _ (List.getElem_mem _)).1
   . rintro i y σ' X hy ⟨v5,rfl,sX,hX,each⟩
     rw[List.getElem?_map]at hy
     obtain⟨a,ea,rfl⟩:=Option.map_eq_some_iff.mp hy
     have ma:=List.mem_of_getElem? ea
     have hi:=(List.getElem?_eq_some_iff.mp ea).1
     have lks:=hks.1
     rw[Zi]at lks
     obtain⟨ys,hys,ly⟩:=each a ma
     have nLa:L≠a:=λz=>nin (by rw[z];exact ma)
     refine⟨_,rfl,.inl ⟨rfl,_,.of hys⟩,a,_,_,rfl,rfl,hys,qt (by omega),_,rfl,λb o hb=>?_,?_,λb hb=>?_⟩
     . rw[qe (qo hb (nk a ma))]
       exact sX _ _ hb
     . rw[qe nLa];exact hX
     . by_cases e:b=a
       . subst e
         exact⟨_,qd,by rw[List.length_append,List.length_singleton];omega⟩
       . obtain⟨zs,hz,lz⟩:=each b hb
         exact⟨zs,by rw[qe e];exact hz,by omega⟩
   . rintro σ' X ⟨v5,rfl,sX,hX,_⟩
     refine⟨_,rfl,.inl ⟨rfl,_,.of hX⟩,L,_,rfl,rfl,hX,?_⟩
     have sY:Same H (upd X L (.lst [])):=λb o hb=>by rw[qe (qo hb nL)];exact sX _ _ hb
     generalize upd X L (.lst [])=Y at sY
     refine⟨_,rfl,_,rfl,_,rfl,g,h',_,rs,hs,rfl,gr.mono sY,gd,le,hh.mono sY,.inl ⟨l,qs,ms,rfl,sY _ _ hl,mv.mono sY,wk,by omega,λH2 L2 js s2 _ hL2 hjs _ _=>?_⟩⟩
     have s02:=sY.trans s2
     refine⟨L2,kx (hps hs ms),rfl,.lst (.of hL2) (Jk hjs),D.sh,D.nd,D.dp,D.ln,_,rfl,lh,kx (hps hs ms),rfl,.lst (.of (s02 _ _ hlh)) (Jk (hat.mono s02)),D.sh,D.nd,D.dp,D.ln,rfl,?_⟩
     have e:∀x:Str,decide (V.str x=V.str x)=true:=λx=>decide_eq_true rfl
     rw[e]
     exact q _ s02
end
end Rh
set_option Elab.async false
set_option linter.all false
set_option maxRecDepth 100000
set_option maxHeartbeats 4000000
namespace Rh
open PySem L2 PyProof.Rows
structure zT (d:PyData):Prop where
 sh:d.showable=true
 dp:d.depth<=5
 ln:d.shown.length<=120
 cl:d.canLay0=true
theorem jX:∀{ds:List PyData},(∀d∈ds,zT d)->PyData.showableAll ds=true
 | [],_=>rfl
 | d::ds,h=>by rw[PyData.showableAll,(h d List.mem_cons_self).sh,jX λy hy=>h y (List.mem_cons_of_mem _ hy)];rfl
theorem Qi:∀{ds:List PyData},(∀d∈ds,zT d)->PyData.depthAll ds<=5
 | [],_=>by rw[PyData.depthAll];decide
 | d::ds,h=>by
   rw[PyData.depthAll]
   have h1:=(h d List.mem_cons_self).dp
   have h2:=Qi λy hy=>h y (List.mem_cons_of_mem _ hy)
   omega
theorem QG:∀{ds:List PyData},(∀d∈ds,zT d)->((PyData.shownAll ds).map (·.length)).sum<=120*ds.length/\(PyData.shownAll ds).length=ds.length
 | [],_=>⟨Nat.le_refl _,rfl⟩
 | d::ds,h=>by
   have h1:=(h d List.mem_cons_self).ln
   have h2:=QG λy hy=>h y (List.mem_cons_of_mem _ hy)
   rw[PyData.shownAll,List.map_cons,List.sum_cons,List.length_cons,List.length_cons]
   omega
theorem UY:zT .none:=⟨rfl,Nat.zero_le _,by decide+kernel,rfl⟩
theorem xX (b:Bool):zT (.bool b):=by
 cases b
 . exact⟨rfl,Nat.zero_le _,by decide+kernel,rfl⟩
 . exact⟨rfl,Nat.zero_le _,by decide+kernel,rfl⟩
theorem Yl:∀n,n < 9->((PyData.int (n:Nat)).showable=true/\(PyData.int (n:Nat)).shown.length<=120):=by decide+kernel
theorem QM {n:Nat} (h:n < 9):zT (.int (n:Nat)):=⟨(Yl n h).1,Nat.zero_le _,(Yl n h).2,rfl⟩
theorem xW:zT (.int (-1)):=⟨by decide+kernel,Nat.zero_le _,by decide+kernel,rfl⟩
theorem zf {z:Str} (hl:z.length<=9) (hc:∀c∈z.cps.toList,c<=122):zT (.str z):=by
 refine⟨rfl,Nat.zero_le _,?_,?_⟩
 . have:=YF hc
   show (reprText z).length<=120
   omega
 . show PyData.strOk z=true
   unfold PyData.strOk
   rw[Array.all_eq_true_iff_forall_mem]
   intro c h
   have:=hc c (by simpa using h)
   exact decide_eq_true (by omega)
theorem jR {z:Str} (h:qK z=true):zT (.str z):=zf (Nat.le_trans (jL h).2.1 (by decide)) (jL h).1
theorem zx:zT (.str (Str.ofString "nowhere0"))/\qK (Str.ofString "nowhere0")=false:=⟨zf (by decide+kernel) (by decide+kernel),by decide+kernel⟩
theorem uL:zT (.str (Str.ofString "a")):=zf (by decide+kernel) (by decide+kernel)
theorem jB {P:V->Prop} {x:V} {xs:List V} (h:P x) (t:∀y∈xs,P y):∀y∈x::xs,P y:=λy hy=>by
 rcases List.mem_cons.mp hy with rfl | hy
 . exact h
 . exact t y hy
theorem km {P:V->Prop}:∀y∈([]:List V),P y:=λ_ h=>nomatch h
theorem ko {P:V->Prop} {xs ys:List V} (h:∀y∈xs,P y) (t:∀y∈ys,P y):∀y∈xs++ys,P y:=λy hy=>by
 rcases List.mem_append.mp hy with q | q
 . exact h y q
 . exact t y q
theorem Wg {a b:PyData} (ha:zT a) (hb:zT b):∀d∈[a,b],zT d:=λd hd=>by
 rcases List.mem_cons.mp hd with rfl | hd
 . exact ha
 . rw[List.mem_singleton.mp hd];exact hb
theorem yV:∀n,n < 9->(PyData.int (n:Nat)).shown.length<=1:=by decide+kernel
def dM (ms:List (Nat×Str)):PyData:=.list (ms.map mD)
theorem Wf {m:Nat×Str} (h:m.1 < 9) (hn:qK m.2=true):zT (mD m):=by
 have s1:=QM h
 have s2:=jR hn
 refine⟨jX (Wg s1 s2),?_,?_,?_⟩
 . show PyData.depth (.tuple [.int (m.1:Int),.str m.2])<=5
   simp only[PyData.depth,PyData.depthAll]
   decide
 . show (tupleText [(PyData.int (m.1:Int)).shown,(PyData.str m.2).shown]).length<=120
   have h1:=tupleText_len_le [(PyData.int (m.1:Int)).shown,(PyData.str m.2).shown]
   have h2:(PyData.str m.2).shown.length<=10*m.2.length+2:=YF (jL hn).1
   have h3:=(jL hn).2.1
   have h4:=yV m.1 h
   simp only[List.map_cons,List.map_nil,List.sum_cons,List.sum_nil,List.length_cons,List.length_nil]at h1
   omega
 . show (true&&(PyData.strOk m.2&&true))=true
   rw[Z1 hn]
   rfl
structure Y4 (K:PySem.W.Frag) (ms:List (Nat×Str)):Prop where
 sh:(dM ms).showable=true
 dp:(dM ms).depth<=60
 ln:(dM ms).shown.length<=sizeLine
 sp:PySem.SeqAt.shaped (dM ms)=true
theorem Vl {K:PySem.W.Frag} {ms:List (Nat×Str)} (h:∀m∈ms,m.1 < 9/\qK m.2=true) (l:ms.length<=112):Y4 K ms:=by
 have al:∀d∈ms.map mD,zT d:=λd hd=>by
   obtain⟨m,hm,rfl⟩:=List.mem_map.mp hd
   exact Wf (h m hm).1 (h m hm).2
 have hd:=Qi al
 refine⟨jX al,?_,?_,?_⟩
 . unfold dM
   simp only[PyData.depth]
   omega
 . show (listText (PyData.shownAll (ms.map mD))).length<=sizeLine
   have h1:=listText_len_le (PyData.shownAll (ms.map mD))
   obtain⟨h2,h3⟩:=QG al
   rw[List.length_map]at h2 h3
   exact Nat.le_trans (Nat.le_trans h1 (by omega:_<=100000)) (by decide)
 . unfold PySem.SeqAt.shaped
   rw[Bool.and_eq_true]
   refine⟨YY λm hm=>(h m hm).2,decide_eq_true ?_⟩
   unfold dM
   simp only[PyData.depth]
   omega
theorem xl {K:PySem.W.Frag} {H:Hp} {p:Addr} {ps:List Addr} {ms:List (Nat×Str)} (h:H p=some (.lst (ps.map V.ref))) (mv:qU H ps ms):DV K H (.ref p) (dM ms):=.lst (.of h) (Y5 mv)
abbrev zW:Stmt:=top 50
abbrev JZ:Stmt:=(ji zW).getD 1 (.Pass ⟨0,0,0,0⟩)
def zo:Str:=(Str.ofString "_law_played"++Str.ofString ".<locals>.")++Str.ofString "_law_player"
def xy (ws:List (Str×V)):Sp:=λvs H Q _=>∃(la:Addr) (v y:V) (ys:List V),ws=[(Str.ofString "_law_left",.ref la)]/\vs=[v]/\H la=some (.lst (y::ys))/\Q y (upd H la (.lst ys))
abbrev uK (PT f:Addr) (fd:FuncData):Sp:=λvs H Q E=>∃ws,ul H PT f "_law_player" zo JZ fd ws/\xy ws vs H Q E
def xU (CG PT:Addr):Sp:=λvs H Q _=>∃(g h f la:Addr) (fd:FuncData) (rs:jV) (hs:List Str) (qs:List Addr) (ms:List (Nat×Str)) (H0:Hp),vs=[.ref g,.ref h,.ref f,.ref f,.int ((qs.map V.ref).length:Nat)]/\Same H0 H/\H0 la=none/\jW CG H0 g rs/\qF rs/\rs.length<=14/\jo H0 h rs hs/\qU H0 qs ms/\Wk rs hs ms/\ms.length<=15/\H la=some (.lst (qs.map V.ref))/\ul H PT f "_law_player" zo JZ fd [(Str.ofString "_law_left",.ref la)]/\
 ∀H' t mo z,Same H0 H'->H' mo=some (.lst (qs.map V.ref))->H' t=some (.tup [.ref mo,.str z])->Q (.ref t) H'
def xA (CG PT:Addr):Sp:=λvs H Q _=>∃(g h l:Addr) (rs:jV) (hs:List Str) (qs:List Addr) (ms:List (Nat×Str)),vs=[.ref g,.ref h,.ref l]/\H PT=some (.tbl #[.str zo 0])/\jW CG H g rs/\qF rs/\rs.length<=14/\jo H h rs hs/\H l=some (.lst (qs.map V.ref))/\qU H qs ms/\Wk rs hs ms/\ms.length<=15/\∀H',Same H H'->Q (.bl true) H'
def xw:Sp:=λvs H Q _=>∃n:Nat,vs=[.int (n:Nat)]/\∀z,Q (.str z) H
theorem Yw {rs:jV} (g:qF rs) {ms:List (Nat×Str)}:∀{hs:List Str},Q8 rs hs->Wk rs hs ms->∀m∈ms,m.1 < 9/\qK m.2=true:=by
 induction ms with
 | nil=>intro hs _ _ m hm;cases hm
 | cons a ms ih=>
   intro hs o wk m hm
   rcases List.mem_cons.mp hm with e | e
   . rw[e]
     have h1:=(Qs wk.1).1
     have h2:=o.1
     exact⟨by omega,Jd g o.2 a wk.1⟩
   . exact ih (o.set g wk.1) wk.2 m e
section
variable {P:Program} {w:World} {K:PySem.W.Frag} {mg:Str->Option Value} {base:Heap}
theorem uO:XX ["_law_here","_law_left"] ["_law_here"] ["_law_left"] (qi JZ):=⟨rfl,rfl,rfl,by decide+kernel,rfl,by decide+kernel,by decide+kernel,by decide+kernel,by decide+kernel⟩
theorem wA {PT f:Addr} {fd:FuncData}:qv P w K mg base jd 1 f fd ["_law_here"] (uK PT f fd):=by
 refine uc (PT:=PT) (name:="_law_player") (qual:=zo) (st:=JZ) (fr:=["_law_left"]) (sp:=xy) uO (λws vs H Q E h=>?_) (λc' cl A outer s H ws vs Q E hr h=>?_)
 . obtain⟨la,v,y,ys,rfl,rfl,_⟩:=h
   exact⟨rfl,rfl⟩
 . obtain⟨la,v,y,ys,rfl,rfl,hla,q⟩:=h
   refine⟨_,qm (qJ (Jh PySem.F.plainAttrs_list PySem.F.slot_list_pop PySem.F.type_list_pop vD (jv 1) (qb ql qg))),?_⟩
   exact⟨_,rfl,.inl ⟨rfl,_,.of hla⟩,la,_,0,0,y,rfl,rfl,hla,by decide,by decide,by simp [seqIndex?],rfl,q⟩
theorem uN:qy ["made"] ["made"] (qi U6):=⟨rfl,rfl,rfl,by decide+kernel,rfl,by decide+kernel,by decide+kernel⟩
theorem wy {f:Addr} {fd:FuncData} (F:j3 K "who_won" "who_won" U6 f fd):qv P w K mg base jd 1 f fd ["made"] xw:=by
 refine F.okJ uN (λvs H Q E h=>?_) (λcdv A outer s H vs Q E hr h=>?_)
 . obtain⟨n,rfl,_⟩:=h
   rfl
 . obtain⟨n,rfl,q⟩:=h
   refine⟨_,qh (q5 (qw Qr (qN Ql (jv 0) ql) ql (qD _)) (qm (qJ je)) qE) (qm (qJ je)),?_⟩
   exact⟨_,rfl,_,_,rfl,rfl,(by show (0:Int) < 2;decide),rfl,_,rfl,zX (λ_=>q _) (λ_=>q _)⟩
def CPl (PT:Addr) (f:Addr) (fd:FuncData) (sp:Sp):Prop:=(∃(doc pm ctv:Value) (c':Addr) (cl:List (Str×Addr)),fd=PySem.W.fnX "_law_player" zo (jK JZ) (ji JZ) (qi JZ) cl .none .none doc pm none (.ref c') ctv)/\sp=uK PT f fd
theorem kz {PT:Addr}:∀f fd sp,CPl PT f fd sp->qv P w K mg base jd 1 f fd ["_law_here"] sp/\jz K fd ["_law_here"] []:=by
 rintro f fd sp ⟨⟨doc,pm,ctv,c',cl,rfl⟩,rfl⟩
 exact⟨wA,.all λus hl=>by obtain⟨_,rfl⟩:=ZA hl;rfl⟩
abbrev nPd:List Str:=["ground","heap","first","second","most","now","moves","player","move"]
abbrev ur:List Str:=["ground","heap","first","second","most"]
theorem VP:qy nPd ur (qi J0):=⟨rfl,rfl,rfl,by decide+kernel,rfl,by decide+kernel,by decide+kernel⟩
theorem V7 {f fH fQ fO fA fW CG PT:Addr} {fd fdH fdQ fdO fdA fdW:FuncData} (F:j3 K "played" "played" J0 f fd) (B:JN mg) (G:Qd mg) (T:Qc K mg) (M:GM K mg CG) (Z:HM K mg) (hQ:jx K mg "need_place" QN kG fQ fdQ) (hH:jx K mg "need_heap" Q9 ["ground","heap"] fH fdH)
   (hO:jx K mg "is_over" Xj ["ground","heap"] fO fdO) (hA:jx K mg "after" Ja vC fA fdA) (hW:jx K mg "who_won" U6 ["made"] fW fdW):qv P w K mg base jd 7 f fd ur (xU CG PT):=by
 have GH:qv P w K mg base jd 3 fH fdH ["ground","heap"] (Jl CG):=Jc hH.fn B G T M hQ Z.mt
 have GO:qv P w K mg base jd 5 fO fdO KU (US CG):=yz hO.fn B G T M Z
 have GA:qv P w K mg base jd 6 fA fdA vC (JU CG):=Xr hA.fn B G T M Z
 have GW:qv P w K mg base jd 1 fW fdW ["made"] xw:=wy hW.fn
 refine F.okJ VP (λvs H Q E h=>?_) (λcdv A outer s H vs Q E hr h=>?_)
 . obtain⟨g,h',f',la,fd',rs,hs,qs,ms,H0,rfl,_⟩:=h
   rfl
 . obtain⟨g,h',f',la,fd',rs,hs,qs,ms,H0,rfl,s0,n0,gr,good,le14,hh,mv,wk,l15,hla,cl,q⟩:=h
   have r1:ja 1 _:=hr.mono (by decide)
   have r3:ja 3 _:=hr.mono (by decide)
   have r5:ja 5 _:=hr.mono (by decide)
   refine⟨_,qh (qV (qQ hH GH r3 (by rfl) (qb (jv 0) (qb (jv 1) qg))))
     (qh (qx (i:=5) VP.nd rfl (Or.inl rfl) (qM qO (by rfl) G.lst boot_list (qb (jv 1) qg)))
     (qh (qx (i:=6) VP.nd rfl (Or.inl rfl) (jl qg))
     (qh (vL PassesOwn.never (JW.pt (Qb (qw j4 (qr qC (by rfl) B.len boot_len (qb (jv 6) qg)) (jv 4) (qD _)) (jS (jM (jq (qQ hO GO r5 (by rfl) (qb (jv 0) (qb (jv 5) qg))))))))
         (qh (qx (i:=7) VP.nd rfl (Or.inl rfl) (vS (qw Qr (qN Ql (qr qC (by rfl) B.len boot_len (qb (jv 6) qg)) ql) ql (qD _)) (jv 2) (jv 3)))
         (qh (qx (i:=8) VP.nd rfl (Or.inl rfl) (vU (C:=CPl PT) (x:="player") (i:=7) rfl (Or.inl rfl) (λf fd sp c=>⟨1,_,(kz f fd sp c).1,r1,(kz (P:=P) (w:=w) (mg:=mg) (base:=base) f fd sp c).2⟩) (jw.s zq) (qb (qM qO (by rfl) G.lst boot_list (qb (jv 5) qg)) qg)))
         (qh (qx (i:=5) VP.nd rfl (Or.inl rfl) (qQ hA GA hr (by rfl) (qb (jv 0) (qb (jv 5) (qb (jv 8) qg)))))
         (qm (qV (Jh PySem.F.plainAttrs_list PySem.F.slot_list_append PySem.F.type_list_append jA (jv 6) (qb (jv 8) qg))))))))
     (qh (q5 (jq (qQ hO GO r5 (by rfl) (qb (jv 0) (qb (jv 5) qg)))) (qm (qJ (jm (qb (jv 6) (qb (qQ hW GW r1 (by rfl) (qb (qr qC (by rfl) B.len boot_len (qb (jv 6) qg)) qg)) qg))))) qE)
     (qm (qJ (jm (qb (jv 6) (qb je qg))))))))),?_⟩
   refine⟨_,rfl,_,rfl,g,h',rs,hs,rfl,gr.mono s0,hh.mono s0,λH1 s1=>?_⟩
   have s01:=s0.trans s1
   refine⟨_,rfl,h',_,rfl,.inl (.of (hh.mono s01).at_),λno hno=>⟨by show 0<=sizeLine;decide,λmo hmo=>?_⟩⟩
   have u2:=qj (o:=HO.lst (hs.map V.str)) hno
   have v2:upd H1 no (.lst (hs.map V.str)) no=some (.lst (hs.map V.str)):=qd
   have nla:no≠la:=λz=>by rw[z,s1 _ _ hla]at hno;cases hno
   generalize upd H1 no (.lst (hs.map V.str))=H2 at u2 v2 hmo
   have u3:=qj (o:=HO.lst []) hmo
   have v3:upd H2 mo (.lst []) mo=some (.lst []):=qd
   have f2:=s01.trans u2
   have fmo:H0 mo=none:=by
     cases z:H0 mo with
     | none=>rfl
     | some o=>rw[f2 _ _ z]at hmo;cases hmo
   have nml:mo≠la:=λz=>by rw[z,u2 _ _ (s1 _ _ hla)]at hmo;cases hmo
   have nmn:no≠mo:=λz=>by rw[<-z,v2]at hmo;cases hmo
   generalize upd H2 mo (.lst [])=H3 at u3 v3
   have s03:=f2.trans u3
   have s13:=(s1.trans u2).trans u3
   have oks:Q8 rs hs:=⟨hh.le,hh.in_⟩
   have lq:=mv.1
   have kfrz:∀{X Y:Hp} {b:Addr} {xs:List V} {o:HO},(∀c o' u,X c=some (.frz o' u)->Y c=some (.frz o' u))->Y b=some (.lst xs)->∀c o' u,X c=some (.frz o' u)->upd Y b o c=some (.frz o' u):=λk hb c o' u hc=>by
     have:=k c o' u hc
     rw[qe (λz=>by rw[z,hb]at this;cases this)]
     exact this
   refine⟨λm σ' X=>∃(i:Nat) (nw:Addr) (v7 v8:Option V),i<=ms.length/\m=ms.length - i/\σ'=[some (.ref g),some (.ref h'),some (.ref f'),some (.ref f'),some (.int ((qs.map V.ref).length:Nat)),some (.ref nw),some (.ref mo),v7,v8]/\Same H0 X/\(∀c o u,H c=some (.frz o u)->X c=some (.frz o u))/\X nw=some (.lst ((qG hs (ms.take i)).map V.str))/\X mo=some (.lst ((qs.take i).map V.ref))/\X la=some (.lst ((qs.drop i).map V.ref))/\nw≠la/\nw≠mo,
     ⟨ms.length,0,no,none,none,Nat.zero_le _,rfl,rfl,s03,λc o u hc=>s13 _ _ hc,u3 _ _ v2,v3,s13 _ _ hla,nla,nmn⟩,?_⟩
   rintro m σ' X ⟨i,nw,v7,v8,hi,rfl,rfl,sX,kX,hnw,hmoX,hlaX,n1,n2⟩
   have lt:((qs.take i).map V.ref).length=i:=by rw[List.length_map,List.length_take];omega
   have wki:=(Wk.app (rs:=rs) (hs:=hs) (ms:=ms.take i) (ns:=ms.drop i) (by rw[List.take_append_drop];exact wk))
   have oki:=oks.last good wki.1
   refine⟨_,rfl,mo,_,rfl,.inl (.of hmoX),_,rfl,_,_,rfl,rfl,_,rfl,?_⟩
   rcases Nat.lt_or_ge i ms.length with c | c
   . refine Z4 (decide_eq_true (by rw[lt,List.length_map];omega)) ?_
     refine⟨_,rfl,_,rfl,g,nw,rs,_,rfl,gr.mono sX,good,le14,⟨hnw,oki.1,oki.2⟩,λX4 s4=>⟨_,rfl,?_⟩⟩
     have em:ms[i]?=some ms[i]:=List.getElem?_eq_getElem c
     have ep:qs[i]?=some (qs[i]'(by omega)):=List.getElem?_eq_getElem (by omega)
     have hm:ms[i]∈QK rs (qG hs (ms.take i)) (qG hs (ms.take i)).length:=by
       have:=wki.2
       rw[List.drop_eq_getElem_cons c]at this
       exact this.1
     have tk:ms.take (i+1)=ms.take i++[ms[i]]:=by rw[List.take_add_one,em];rfl
     have tq:qs.take (i+1)=qs.take i++[qs[i]'(by omega)]:=by rw[List.take_add_one,ep];rfl
     have dq:qs.drop i=qs[i]'(by omega)::qs.drop (i+1):=List.drop_eq_getElem_cons (by omega)
     generalize ms[i]=mm at em hm tk
     generalize qs[i]'(by omega)=p at ep tq dq
     have hp0:=mv.2 i p mm ep em
     have e:(QK rs (qG hs (ms.take i)) (qG hs (ms.take i)).length).isEmpty=false:=by
       cases z:QK rs (qG hs (ms.take i)) (qG hs (ms.take i)).length with
       | nil=>rw[z]at hm;cases hm
       | cons a l=>rfl
     rw[e]
     refine Z4 rfl ⟨λσ' X=>∃(nw:Addr) (v7 v8:Option V),σ'=[some (.ref g),some (.ref h'),some (.ref f'),some (.ref f'),some (.int ((qs.map V.ref).length:Nat)),some (.ref nw),some (.ref mo),v7,v8]/\Same H0 X/\(∀c o u,H c=some (.frz o u)->X c=some (.frz o u))/\X nw=some (.lst ((qG hs (ms.take (i+1))).map V.str))/\X mo=some (.lst ((qs.take (i+1)).map V.ref))/\X la=some (.lst ((qs.drop (i+1)).map V.ref))/\nw≠la/\nw≠mo,λσ' X ⟨nw,v7,v8,a1,a2,a3,a4,a5,a6,a7,a8⟩=>⟨ms.length - (i+1),by omega,i+1,nw,v7,v8,c,rfl,a1,a2,a3,a4,a5,a6,a7,a8⟩,?_⟩
     have s04:=sX.trans s4
     have k4:∀c o u,H c=some (.frz o u)->X4 c=some (.frz o u):=λc o u hc=>s4 _ _ (kX c o u hc)
     refine⟨_,rfl,mo,_,rfl,.inl (.of (s4 _ _ hmoX)),_,_,rfl,rfl,(by show (0:Int) < 2;decide),rfl,_,rfl,?_⟩
     refine(λ(h:_)=>zX (λ_=>⟨_,rfl,h⟩) (λ_=>⟨_,rfl,h⟩)) ?_
     obtain⟨doc,pm,ctv,c',cl2,oc,efd,hf,hcd,rest⟩:=cl.ex
     refine⟨f',fd',_,rfl,⟨⟨doc,pm,ctv,c',cl2,efd⟩,rfl⟩,k4 _ _ _ hf,_,rfl,nw,_,rfl,.inl (.of (s4 _ _ hnw)),λl2 hl2=>?_⟩
     have u5:=qj (o:=HO.lst ((qG hs (ms.take i)).map V.str)) hl2
     generalize upd X4 l2 (.lst ((qG hs (ms.take i)).map V.str))=X5 at u5
     have k5:∀c o u,H c=some (.frz o u)->X5 c=some (.frz o u):=λc o u hc=>u5 _ _ (k4 c o u hc)
     have s45:=s4.trans u5
     have hla5:=s45 _ _ hlaX
     rw[dq]at hla5
     refine⟨k5 _ _ _ hf,_,cl.mono k5,la,.ref l2,_,_,rfl,rfl,hla5,?_⟩
     have s06:Same H0 (upd X5 la (.lst ((qs.drop (i+1)).map V.ref))):=λb o hb=>by
       rw[qe (qo hb n0)]
       exact u5 _ _ (s04 _ _ hb)
     have k6:=kfrz (o:=HO.lst ((qs.drop (i+1)).map V.ref)) k5 hla5
     have hnw6:upd X5 la (.lst ((qs.drop (i+1)).map V.ref)) nw=some (.lst ((qG hs (ms.take i)).map V.str)):=by rw[qe n1];exact s45 _ _ hnw
     have hmo6:upd X5 la (.lst ((qs.drop (i+1)).map V.ref)) mo=some (.lst ((qs.take i).map V.ref)):=by rw[qe nml];exact s45 _ _ hmoX
     have hla6:upd X5 la (.lst ((qs.drop (i+1)).map V.ref)) la=some (.lst ((qs.drop (i+1)).map V.ref)):=qd
     show ∃_,_
     generalize upd X5 la (.lst ((qs.drop (i+1)).map V.ref))=X6 at s06 k6 hnw6 hmo6 hla6
     refine⟨_,rfl,_,rfl,_,rfl,g,nw,p,rs,_,mm,rfl,gr.mono s06,good,le14,⟨hnw6,oki.1,oki.2⟩,s06 _ _ hp0,hm,λX7 a7 s7 na7 h7=>?_⟩
     have hmo7:=s7 _ _ hmo6
     refine⟨_,rfl,.inl ⟨rfl,_,.of hmo7⟩,_,rfl,mo,_,_,rfl,rfl,hmo7,by rw[lt];exact qt (by omega),?_⟩
     have na:a7≠la:=λz=>by rw[z,hla6]at na7;cases na7
     have nm:a7≠mo:=λz=>by rw[z,hmo6]at na7;cases na7
     refine⟨a7,_,_,rfl,λb o hb=>?_,kfrz (λc o u hc=>s7 _ _ (k6 c o u hc)) hmo7,?_,?_,?_,na,nm⟩
     . rw[qe (qo hb fmo)]
       exact s7 _ _ (s06 _ _ hb)
     . rw[qe nm,tk,Uh]
       exact h7
     . rw[qd,tq,List.map_append]
       rfl
     . rw[qe (Ne.symm nml)]
       exact s7 _ _ hla6
   . have ei:i=ms.length:=by omega
     subst ei
     refine QV (decide_eq_false (by rw[lt,List.length_map];omega)) ?_
     rw[List.take_of_length_le (by omega)]at hmoX
     refine⟨_,rfl,_,rfl,g,nw,rs,_,rfl,gr.mono sX,good,le14,⟨hnw,oki.1,oki.2⟩,λX5 s5=>⟨_,rfl,zX (λ_=>?_) (λ_=>?_)⟩⟩
     . refine⟨_,rfl,_,rfl,mo,_,rfl,.inl (.of (s5 _ _ hmoX)),_,rfl,λz=>⟨by show 2<=sizeLine;decide,λt ht=>?_⟩⟩
       exact q _ t mo z ((sX.trans s5).trans (qj ht)) ((s5.trans (qj ht)) _ _ hmoX) qd
     . refine⟨_,rfl,by show 2<=sizeLine;decide,λt ht=>?_⟩
       exact q _ t mo _ ((sX.trans s5).trans (qj ht)) ((s5.trans (qj ht)) _ _ hmoX) qd
abbrev Kg:List Str:=["_law_ground","_law_heap_here","_law_moves_here","_law_left","_law_player"]
abbrev V3:List Str:=["_law_ground","_law_heap_here","_law_moves_here"]
theorem U4:qy Kg V3 (qi zW):=⟨rfl,rfl,rfl,by decide+kernel,rfl,by decide+kernel,by decide+kernel⟩
theorem wD {f c PT fP CG:Addr} {fd fdP:FuncData} (F:j3 K "_law_played" "_law_played" zW f fd) (hc:fd.code=.ref c) (TM:XR mg base c PT) (B:JN mg) (G:Qd mg) (hP:jx K mg "played" J0 ur fP fdP) (GP:qv P w K mg base jd 7 fP fdP ur (xU CG PT)):
   qv P w K mg base jd 8 f fd V3 (xA CG PT):=by
 refine F.okB hc U4 (λvs H Q E h=>?_) (λA outer s H vs Q E hr h=>?_)
 . obtain⟨g,h',l,rs,hs,qs,ms,rfl,_⟩:=h
   rfl
 . obtain⟨g,h',l,rs,hs,qs,ms,rfl,htb,gr,good,le14,hh,hl,mv,wk,l15,q⟩:=h
   refine⟨_,yo (qx (i:=3) U4.nd rfl (Or.inr rfl) (qM qO (by rfl) G.lst boot_list (qb (jv 2) qg)))
     (wm (i:=4) (c:=c) (P:=PT) (qual:=zo) TM U4.nd rfl rfl rfl rfl rfl (λ_=>rfl) rfl rfl rfl (u8 (qm
     (qJ (Qt (wv hr.units) (qP jt (qQ hP GP hr (by rfl) (qb (jv 0) (qb (jv 1) (qb (jv 4) (qb (jv 4) (qb (qr qC (by rfl) B.len boot_len (qb (jv 2) qg)) qg)))))) ql (λ_ _=>rfl)) (jv 2) (qD _)))))),?_⟩
   refine⟨_,rfl,l,_,rfl,.inl (.of hl),λla hla=>?_⟩
   have u1:=qj (o:=HO.lst (qs.map V.ref)) hla
   have v1:upd H la (.lst (qs.map V.ref)) la=some (.lst (qs.map V.ref)):=qd
   generalize upd H la (.lst (qs.map V.ref))=H1 at u1 v1
   refine⟨⟨0,u1 _ _ htb⟩,λf' c' doc pm ctv oc H2 mk=>?_⟩
   have s1:=mk.same
   have s02:=u1.trans s1
   have cl:ul H2 PT f' "_law_player" zo JZ (PySem.W.fnX "_law_player" zo (jK JZ) (ji JZ) (qi JZ) (qT (jF jd P w K mg base Kg "_law_played" (qi zW) f (.ref c) A outer s H E).env (qi JZ).names []) .none .none doc pm none (.ref c') ctv) [(Str.ofString "_law_left",.ref la)]:=by
     refine⟨doc,pm,ctv,c',_,oc,rfl,mk.fn,mk.cd,mk.cq,mk.inj,λx cc e=>?_,λx v' hx=>?_⟩
     . rcases j5 e with z | ⟨z,_⟩
       . simp at z
       . have:∀y∈(qi JZ).names,y.2=.free->y.1∈[Str.ofString "_law_left"]:=by decide+kernel
         exact this _ z rfl
     . obtain⟨rfl,rfl⟩:x=Str.ofString "_law_left"/\v'=.ref la:=by simpa using hx
       have hm:(Str.ofString "_law_left",NameKind.free)∈(qi JZ).names:=by decide+kernel
       obtain⟨ca,co,u0,e1,e2,e3,e4⟩:=mk.cells _ hm
       obtain⟨u,rfl,ru⟩:=e4 3 (.ref la) rfl rfl
       exact⟨ca,co,u,e1,e2,e3,ru⟩
   have oks:Q8 rs hs:=⟨hh.le,hh.in_⟩
   have md:Y4 K ms:=Vl (Yw good oks wk) (by omega)
   refine⟨_,rfl,_,rfl,_,rfl,_,rfl,_,rfl,l,_,rfl,.inl (.of (s02 _ _ hl)),g,h',f',la,_,rs,hs,qs,ms,H,rfl,s02,hla,gr,good,le14,hh,mv,wk,l15,s1 _ _ v1,cl,λH3 t mo z s3 hmo ht=>?_⟩
   exact⟨t,_,0,_,rfl,rfl,.of ht,rfl,_,rfl,dM ms,xl hmo (mv.mono s3),xl (s3 _ _ hl) (mv.mono s3),md.sp,q H3 s3⟩
end
end Rh
set_option Elab.async false
set_option linter.all false
set_option maxRecDepth 100000
set_option maxHeartbeats 4000000
namespace Rh
open PySem L2 PyProof.Rows
abbrev yg:Stmt:=top 49
def XQ (H:Hp) (v:V):Prop:=∃d,DG H v d/\d.showable=true/\d.depth<=40/\d.shown.length<=4000
theorem XQ.keep {H H':Hp} {v:V} (h:XQ H v) (s:Qo H H'):XQ H' v:=let ⟨d,a,b⟩:=h;⟨d,a.keepX s,b⟩
def UG (K:PySem.W.Frag) (H:Hp) (ms:List (Nat×Str)) (v:V):Prop:=ZV K H ms v/\XQ H v
theorem UG.keep {K:PySem.W.Frag} {H H':Hp} {ms:List (Nat×Str)} {v:V} (h:UG K H ms v) (s:Qo H H'):UG K H' ms v:=⟨h.1.keep s,h.2.keep s⟩
theorem Yy {H:Hp} {v:V} {d:PyData} (h:DG H v d) (s:zT d):XQ H v:=⟨d,h,s.sh,Nat.le_trans s.dp (by decide),Nat.le_trans s.ln (by decide)⟩
theorem Jz {H:Hp} {p:Addr} {xs:List V} {ds:List PyData} (h:H p=some (.tup xs)) (dv:DGs H xs ds) (s:∀d∈ds,zT d) (l:ds.length<=20):XQ H (.ref p):=by
 refine⟨.tuple ds,.tup h dv,jX s,?_,?_⟩
 . have:=Qi s
   simp only[PyData.depth]
   omega
 . show (tupleText (PyData.shownAll ds)).length<=4000
   have h1:=tupleText_len_le (PyData.shownAll ds)
   obtain⟨h2,h3⟩:=QG s
   omega
theorem xP {H:Hp} {p:Addr} {xs:List V} {ds:List PyData} (h:H p=some (.lst xs)) (n:p≠sysModules) (dv:DGs H xs ds) (s:∀d∈ds,zT d) (l:ds.length<=20):XQ H (.ref p):=by
 refine⟨.list ds,.lst h n dv,jX s,?_,?_⟩
 . have:=Qi s
   simp only[PyData.depth]
   omega
 . show (listText (PyData.shownAll ds)).length<=4000
   have h1:=listText_len_le (PyData.shownAll ds)
   obtain⟨h2,h3⟩:=QG s
   omega
theorem Gb {a:PyData} (ha:zT a):∀d∈[a],zT d:=λd hd=>by rw[List.mem_singleton.mp hd];exact ha
def kt (G:Hp) (lf:Addr):Hp:=λb=>if b=lf then none else G b
theorem XJ (G:Hp) (lf:Addr):Same (kt G lf) G:=λb o h=>by
 unfold kt at h
 by_cases e:b=lf
 . rw[if_pos e]at h;cases h
 . rw[if_neg e]at h;exact h
theorem Vv {G:Hp} {lf b:Addr} {o:HO} (h:G b=some o) (n:b≠lf):kt G lf b=some o:=by
 unfold kt
 rw[if_neg n]
 exact h
theorem ZG {G G':Hp} {d:Addr} (s:Fr G d G'):Same (kt G d) (kt G' d):=λb o hb=>by
 have n:b≠d:=λe=>by
   unfold kt at hb
   rw[if_pos e]at hb
   cases hb
 exact Vv (s b o (XJ G d b o hb) n) n
theorem qU.pairs {H:Hp}:∀{qs:List Addr} {ms:List (Nat×Str)},qU H qs ms->∃pm:List (Addr×(Nat×Str)),qs=pm.map (·.1)/\ms=pm.map (·.2)/\∀x∈pm,H x.1=some (.tup (kH x.2))
 | [],[],_=>⟨[],rfl,rfl,λ_ h=>nomatch h⟩
 | [],_::_,h=>by cases h.1
 | _::_,[],h=>by cases h.1
 | p::qs,m::ms,h=>by
   obtain⟨pm,e1,e2,e3⟩:=qU.pairs h.tail
   refine⟨(p,m)::pm,by rw[e1];rfl,by rw[e2];rfl,λx hx=>?_⟩
   rcases List.mem_cons.mp hx with e | e
   . rw[e];exact h.2 0 p m rfl rfl
   . exact e3 x e
theorem qU.take {H:Hp} {qs:List Addr} {ms:List (Nat×Str)} (h:qU H qs ms) (k:Nat):qU H (qs.take k) (ms.take k):=by
 refine⟨by rw[List.length_take,List.length_take,h.1],λi p m e1 e2=>?_⟩
 by_cases c:i < k
 . rw[List.getElem?_take_of_lt c]at e1 e2
   exact h.2 i p m e1 e2
 . rw[List.getElem?_eq_none (by rw[List.length_take];omega)]at e1
   cases e1
theorem ky (xs:List V) (k:Nat):Ju xs none (some (k:Int))=xs.take k:=by
 unfold Ju
 rw[HT.sIx_nat,HT.sIx_none,List.drop_zero,Nat.sub_zero]
 by_cases h:k<=xs.length
 . rw[Nat.min_eq_left h]
 . rw[Nat.min_eq_right (by omega),List.take_of_length_le (Nat.le_refl _),List.take_of_length_le (by omega)]
def xC (K:PySem.W.Frag):Sp:=λvs H Q _=>∃(l lm lh d:Addr) (ps qs ls:List Addr) (rs:jV) (hs:List Str) (ms:List (Nat×Str)) (n s t:Int),vs=[.ref l,.ref lm,.ref lh,.ref d]/\jG H l ps rs/\Q8 rs hs/\H lm=some (.lst (qs.map V.ref))/\qU H qs ms/\H lh=some (.lst (ls.map V.ref))/\j7 H ls (hps hs ms)/\Wk rs hs ms/\ms.length<=15/\H d=some (.dK (src n s t))/\
 ∀(R lw:Addr) (fv:V) (n' t':Int) (H':Hp),Fr H d H'->H' d=some (.dK (src n' s t'))->H' R=some (.lst [.ref lw,fv])->UF K H' rs hs (.ref lw) fv->XQ H' fv->Q (.ref R) H'
section
variable {P:Program} {w:World} {K:PySem.W.Frag} {mg:Str->Option Value} {base:Heap}
abbrev GJ:List Str:=["_law_rows_here","_law_moves_here","_law_heaps","_law_source_here","_law_at","_law_here","_law_known","_law_some","_law_bad_here","_law_behind"]
abbrev yq:List Str:=["_law_rows_here","_law_moves_here","_law_heaps","_law_source_here"]
theorem JY:qy GJ yq (qi yg):=⟨rfl,rfl,rfl,by decide+kernel,rfl,by decide+kernel,by decide+kernel⟩
theorem wF {f fT fM:Addr} {fd fdT fdM:FuncData} (F:j3 K "_law_bad" "_law_bad" yg f fd) (B:JN mg) (T:Qc K mg) (hdi:mg "dict"=none) (hT:jx K mg "_law_take" Jx ["_law_source_here","_law_many"] fT fdT) (hM:jx K mg "_law_moves" Jm wo fM fdM):qv P w K mg base jd 2 f fd yq (xC K):=by
 have GT:qv P w K mg base jd 1 fT fdT ["_law_source_here","_law_many"] QL:=QQ hT.fn
 have GMv:qv P w K mg base jd 1 fM fdM wo zc:=Yc hM.fn T hdi
 refine F.okJ JY (λvs H Q E h=>?_) (λcdv A outer s H vs Q E hr h=>?_)
 . obtain⟨l,lm,lh,d,ps,qs,ls,rs,hs,ms,n,sd,t,rfl,_⟩:=h
   rfl
 . obtain⟨l,lm,lh,d,ps,qs,ls,rs,hs,ms,n,sd,t,rfl,g,oks,hlm,mv,hlh,hat,wk,l15,hd,q⟩:=h
   refine⟨_,qh (qx (i:=4) JY.nd rfl (Or.inl rfl) (qQ hT GT hr (by rfl) (qb (jv 3) (qb (qN j9 (qr qC (by rfl) B.len boot_len (qb (jv 1) qg)) ql) qg))))
     (qh (qx (i:=5) JY.nd rfl (Or.inl rfl) (qP qW (jv 2) (jv 4) (λ_ _=>rfl)))
     (qh (qx (i:=6) JY.nd rfl (Or.inr rfl) (qQ hM GMv hr (by rfl) (qb (jv 0) (qb (jv 5) qg))))
     (qh (Zg (i:=7) (N':=["_law_move","_law_known"]) (ix:=[none,some 6]) (tt:=WW (XY (wf K true) (jH 0) (jH 1))) (te:=jH 0) JY.nd rfl (Or.inl rfl) rfl ⟨rfl,rfl,rfl,rfl,rfl⟩ (jk (qN zv (qQ hM GMv hr (by rfl) (qb (jv 0) (qb (qP qW (jv 2) ql (λ_ _=>rfl)) qg))) (jv 1))) (λC s2 H2 fp pins=>
         ⟨qz (i:=0) (show (["_law_move","_law_known"]:List Str).Nodup by decide+kernel) rfl (Or.inl rfl),Z3 (qw (V4 hr.units) (jv 0) (jv 1) (by with_unfolding_all rfl)),jv 0⟩))
     (qh (qx (i:=7) JY.nd rfl (Or.inl rfl) (qN zv (jv 7) (jl (qb zG (qb ql (qb (jm (qb ql qg)) (qb (jm (qb (qr qC (by rfl) B.len boot_len (qb (jv 5) qg)) (qb (qP jt (qP qW (jv 0) ql (λ_ _=>rfl)) ql (λ_ _=>rfl)) qg))) (qb (jm (qb ql (qb je qg))) (qb (YO (qb ql (qb (qP jt (qP qW (jv 0) ql (λ_ _=>rfl)) ql (λ_ _=>rfl)) qg))) (qb je (qb (jm (qb (Vo Yx ql) (qb (qP jt (qP qW (jv 0) ql (λ_ _=>rfl)) ql (λ_ _=>rfl)) qg))) qg)))))))))))
     (qh (qx (i:=7) JY.nd rfl (Or.inl rfl) (qN zv (jv 7) (Zh (N':=["_law_token","_law_place"]) (ix:=[none,none]) (g:=wW K 2 (XB (QH 0) (XB (QH 1) wX))) (te:=kQ (jC (XY rEq (jH 0) (tC (.int 1))) (jC (jH 1) JB))) (tt:=WW (XY (xG λi j=>.bl (decide (i < j))) (jH 0) (tC (.int 2)))) rfl ⟨rfl,rfl,rfl,rfl,rfl⟩ (jk (Qn JV (jv 6) QT (QS ql))) (λC s2 H2 fp pins=>
         ⟨JK rfl (qZ (qz (i:=0) (show (["_law_token","_law_place"]:List Str).Nodup by decide+kernel) rfl (Or.inl rfl)) (qZ (qz (i:=1) (show (["_law_token","_law_place"]:List Str).Nodup by decide+kernel) rfl (Or.inl rfl)) Qg)),Z3 (qw j4 (jv 0) ql (qD _)),jm (qb (Qt Qr (jv 0) ql (qD _)) (qb (jv 1) qg))⟩))))
     (qh (qx (i:=8) JY.nd rfl (Or.inl rfl) (qP qW (jv 7) (qQ hT GT hr (by rfl) (qb (jv 3) (qb (qr qC (by rfl) B.len boot_len (qb (jv 7) qg)) qg))) (λ_ _=>rfl)))
     (qh (qx (i:=9) JY.nd rfl (Or.inl rfl) (qP qW (jl (qb (Qn JV (jv 1) (QS (jv 4)) QT) (qb (Qn JV (jv 1) (QS (qN j9 (jv 4) ql)) QT) (qb (jl (qb zG qg)) qg)))) (qQ hT GT hr (by rfl) (qb (jv 3) (qb ql qg))) (λ_ _=>rfl)))
     (qm (qJ (jl (qb (qN zv (qN zv (Qn JV (jv 1) QT (QS (jv 4))) (jl (qb (jv 8) qg))) (jv 9)) (qb (jv 8) qg)))))))))))),?_⟩
   have good:=g.good
   have lq:=mv.1
   refine⟨_,rfl,_,rfl,lm,_,rfl,.inl (.of hlm),_,_,rfl,rfl,d,_,n,sd,t,rfl,hd,?_,?_,λat' n1 t1 c0 c1=>?_⟩
   . rw[List.length_map];omega
   . rw[List.length_map]
     have:((qs.length:Nat)+1:Int).natAbs<=16:=by omega
     exact Nat.lt_of_le_of_lt this (by decide)
   rw[List.length_map]at c1
   obtain⟨k,rfl⟩:∃k:Nat,at'=(k:Int):=⟨at'.toNat,by omega⟩
   have hk:k<=ms.length:=by omega
   have hd1:upd H d (.dK (src n1 sd t1)) d=some (.dK (src n1 sd t1)):=qd
   have fr1:Fr H d (upd H d (.dK (src n1 sd t1))):=Fr.refl.at_d
   generalize upd H d (.dK (src n1 sd t1))=H1 at hd1 fr1
   have g1:=g.fr' hd fr1
   have hlm1:=qI fr1 hd hlm (λ_ z=>nomatch z)
   have mv1:=mv.fr fr1 hd
   have hlh1:=qI fr1 hd hlh (λ_ z=>nomatch z)
   have hat1:=hat.fr fr1 hd
   have lls:=hat.1
   rw[Zi]at lls
   have ek:ls[k]?=some (ls[k]'(by omega)):=List.getElem?_eq_getElem (by omega)
   generalize ls[k]'(by omega)=lk at ek
   have e0:ls[0]?=some (ls[0]'(by omega)):=List.getElem?_eq_getElem (by omega)
   generalize ls[0]'(by omega)=l0 at e0
   have hlk1:=hat1.2 k lk _ ek (YR hs ms k hk)
   have hl01:=hat1.2 0 l0 _ e0 (YR hs ms 0 (Nat.zero_le _))
   have wkk:=Wk.app (rs:=rs) (hs:=hs) (ms:=ms.take k) (ns:=ms.drop k) (by rw[List.take_append_drop];exact wk)
   have okk:=oks.last good wkk.1
   generalize hK:qG hs (ms.take k)=hk' at hlk1 okk
   refine⟨_,rfl,_,rfl,lh,_,_,_,rfl,rfl,.of hlh1,Qu (j:=k) (by rw[List.getElem?_map,ek];rfl),?_⟩
   refine⟨_,rfl,_,rfl,l,lk,ps,rs,hk',rfl,g1,⟨hlk1,okk.1,okk.2⟩,λH2 kn qk s2 nkn hkn mvk=>?_⟩
   have mkn:=Jd good okk.2
   have mkl:=Jo good g.le okk.2 hk'.length (Nat.le_refl _)
   have mkt:∀m∈QK rs hk' hk'.length,m.1 < 9:=λm hm=>by have:=(Qs hm).1;have:=okk.1;omega
   generalize hM2:QK rs hk' hk'.length=mk at mvk mkn mkl mkt
   have okl:=okk.1
   have l112:mk.length<=112:=by omega
   refine⟨_,rfl,_,rfl,lh,_,0,_,rfl,rfl,.of (s2 _ _ hlh1),Qu (j:=0) (by rw[List.getElem?_map,e0];rfl),l,l0,ps,rs,hs,rfl,g1.mono s2,⟨s2 _ _ hl01,oks.1,oks.2⟩,λH3 k0 q0 s3 nk0 hk0 mv0=>?_⟩
   have s13:=s2.trans s3
   have m0n:=Jd good oks.2
   have m0l:=Jo good g.le oks.2 hs.length (Nat.le_refl _)
   have m0t:∀m∈QK rs hs hs.length,m.1 < 9:=λm hm=>by have:=(Qs hm).1;have:=oks.1;omega
   generalize QK rs hs hs.length=m0 at mv0 m0n m0l m0t
   have o8:=oks.1
   have l0112:m0.length<=112:=by omega
   have wn:=Yw good oks wk
   obtain⟨pm0,rfl,rfl,hp0⟩:=mv0.pairs
   have mv13:=mv1.mono s13
   obtain⟨pm,eqs,ems,hpm⟩:=mv13.pairs
   have lpm0:pm0.length<=112:=by rw[List.length_map]at l0112;exact l0112
   have lpm:pm.length<=15:=by rw[ems,List.length_map]at l15;exact l15
   refine⟨_,rfl,k0,lm,_,_,rfl,rfl,hk0,s13 _ _ hlm1,?_,λcc hcc=>⟨cc,rfl,⟨_,.of qd⟩,λD hD=>?_⟩⟩
   . rw[List.length_map,List.length_map,List.length_map,lq]
     exact Nat.le_of_lt (qt (by omega))
   have u4:=qj (o:=HO.lst ((pm0.map (·.1)).map V.ref++qs.map V.ref)) hcc
   have hc4:upd H3 cc (.lst ((pm0.map (·.1)).map V.ref++qs.map V.ref)) cc=some (.lst ((pm0++pm).map λx=>V.ref x.1)):=by
     rw[qd,eqs,List.map_map,List.map_map,List.map_append]
     rfl
   generalize upd H3 cc (.lst ((pm0.map (·.1)).map V.ref++qs.map V.ref))=H4 at u4 hc4 hD
   have s24:=s3.trans u4
   have hpx:∀x∈pm0++pm,H4 x.1=some (.tup (kH x.2))/\x.2.1 < 9/\qK x.2.2=true:=λx hx=>by
     rcases List.mem_append.mp hx with z | z
     . exact⟨u4 _ _ (hp0 x z),m0t _ (List.mem_map.mpr ⟨x,z,rfl⟩),m0n _ (List.mem_map.mpr ⟨x,z,rfl⟩)⟩
     . have:=wn x.2 (by rw[ems];exact List.mem_map.mpr ⟨x,z,rfl⟩)
       exact⟨u4 _ _ (hpm x z),this.1,this.2⟩
   refine ud (K:=K) (a:=cc) (xs:=pm0++pm) (enc:=λx=>V.ref x.1) (out:=λx=>if ((mk.map mD).any λz=>PyData.eqv z (mD x.2))=true then none else some (V.ref x.1)) (rest:=[some (.ref kn)]) hD hc4 (by rw[List.length_append];exact qt (by omega)) (λx hx Y sY R hR=>?_) (λx hx v ev Y sY R hR=>?_) (λH5 s5 hD5=>?_)
   . obtain⟨hx1,hx2,hx3⟩:=hpx x hx
     have sm:=Wf hx2 hx3
     refine⟨_,rfl,_,rfl,mD x.2,mk.map mD,xO (sY _ _ hx1),.lst (.of ((s24.trans sY) _ _ hkn)) (Y5 (mvk.mono (s24.trans sY))),sm.cl,YY mkn,Nat.le_trans sm.dp (by decide),_,rfl,?_⟩
     have:=hR Y (Same.refl Y)
     show R (!((mk.map mD).any λz=>PyData.eqv z (mD x.2))) Y
     cases e:(mk.map mD).any λz=>PyData.eqv z (mD x.2) with
     | true=>simp only[e]at this;exact this
     | false=>simp only[e]at this;exact this
   . have e:v=V.ref x.1:=by
       by_cases c:((mk.map mD).any λz=>PyData.eqv z (mD x.2))=true
       . simp only[c,if_true]at ev;cases ev
       . simp only[c]at ev;exact(Option.some.inj ev).symm
     rw[e]at hR
     exact⟨_,rfl,hR Y (Same.refl Y)⟩
   have s15:=(s2.trans s24).trans s5
   have hd5:=s15 _ _ hd1
   have dl:∀{X:Hp} {kv:List (qS×V)},X d=some (.dK kv)->∀{b:Addr} {o:HO},X b=some o->(∀kv,o≠.dK kv)->kt X d b=some o:=λhd b o hb no=>Vv hb λz=>by
     rw[z,hd]at hb
     exact no _ (Option.some.inj hb).symm
   have bad5:∀y∈(pm0++pm).filterMap (λx=>if ((mk.map mD).any λz=>PyData.eqv z (mD x.2))=true then none else some (V.ref x.1)),UG K (kt H5 d) mk y:=λy hy=>by
     obtain⟨x,hx,ex⟩:=List.mem_filterMap.mp hy
     obtain⟨hx1,hx2,hx3⟩:=hpx x hx
     have hxd:=dl hd5 (s5 _ _ hx1) (λ_ z=>nomatch z)
     by_cases c:((mk.map mD).any λz=>PyData.eqv z (mD x.2))=true
     . simp only[c,if_true]at ex;cases ex
     . simp only[c]at ex
       obtain rfl:V.ref x.1=y:=Option.some.inj ex
       refine⟨.out hxd (.str _) (jR hx3).cl (Nat.zero_le _) λm hm z=>c ?_,Jz hxd (.cons (.int _) (.cons (.str _) .nil)) (Wg (QM hx2) (jR hx3)) (by show 2<=20;decide)⟩
       refine List.any_eq_true.mpr ⟨mD m,List.mem_map.mpr ⟨m,hm,rfl⟩,?_⟩
       have:m=x.2:=Prod.ext (by have:=z.1;omega) (PyData.str.inj z.2).symm
       rw[this]
       exact XE _
   have lf5:((pm0++pm).filterMap (λx=>if ((mk.map mD).any λz=>PyData.eqv z (mD x.2))=true then none else some (V.ref x.1))).length<=127:=Nat.le_trans (List.length_filterMap_le _ _) (by rw[List.length_append];omega)
   generalize (pm0++pm).filterMap (λx=>if ((mk.map mD).any λz=>PyData.eqv z (mD x.2))=true then none else some (V.ref x.1))=xs5 at hD5 bad5 lf5
   have hlk5:=s15 _ _ hlk1
   have g5:=g1.mono s15
   obtain⟨p0,hp0e⟩:∃p0,ps[0]?=some p0:=⟨ps[0]'(by rw[g.rows.1];exact g.pos),List.getElem?_eq_getElem _⟩
   obtain⟨p',q',r0,ep,_,hr0,hpt5,_⟩:=g5.rows.item (i:=0) (x:=.ref p0) (by rw[List.getElem?_map,hp0e];rfl)
   obtain rfl:=V.ref.inj ep
   have nz0:qK r0.1=true:=good.nm r0 hr0
   have ati:Y2 (ps.map V.ref) 0=some (.ref p0):=Qu (j:=0) (by rw[List.getElem?_map,hp0e];rfl)
   refine⟨_,rfl,by show 1<=sizeLine;decide,λa1 f1=>?_⟩
   have t1:=qj (o:=HO.tup [V.int 0]) f1
   have w1:upd H5 a1 (.tup [V.int 0]) a1=some (.tup [V.int 0]):=qd
   generalize upd H5 a1 (.tup [V.int 0])=G1 at t1 w1
   refine⟨_,rfl,lk,_,rfl,.inl (.of (t1 _ _ hlk5)),_,rfl,l,_,0,_,rfl,rfl,.of (t1 _ _ g5.at_),ati,p0,_,0,_,rfl,rfl,.of (t1 _ _ hpt5),rfl,by show 2<=sizeLine;decide,λa2 f2=>?_⟩
   have t2':=qj (o:=HO.tup [V.int ((hk'.map V.str).length:Nat),.str r0.1]) f2
   have w2:upd G1 a2 (.tup [V.int ((hk'.map V.str).length:Nat),.str r0.1]) a2=some (.tup [V.int ((hk'.map V.str).length:Nat),.str r0.1]):=qd
   have t2:=t1.trans t2'
   generalize upd G1 a2 (.tup [V.int ((hk'.map V.str).length:Nat),.str r0.1])=G2 at t2' w2 t2
   refine⟨by show 2<=sizeLine;decide,λa3 f3=>?_⟩
   have t3':=qj (o:=HO.tup [V.int 0,.str (Str.ofString "nowhere0")]) f3
   have w3:upd G2 a3 (.tup [V.int 0,.str (Str.ofString "nowhere0")]) a3=some (.tup [V.int 0,.str (Str.ofString "nowhere0")]):=qd
   have t3:=t2.trans t3'
   generalize upd G2 a3 (.tup [V.int 0,.str (Str.ofString "nowhere0")])=G3 at t3' w3 t3
   refine⟨_,rfl,l,_,0,_,rfl,rfl,.of (t3 _ _ g5.at_),ati,p0,_,0,_,rfl,rfl,.of (t3 _ _ hpt5),rfl,by show 2<=sizeLine;decide,λa4 f4 ns4=>?_⟩
   have t4':=qj (o:=HO.lst [V.int 0,.str r0.1]) f4
   have w4:upd G3 a4 (.lst [V.int 0,.str r0.1]) a4=some (.lst [V.int 0,.str r0.1]):=qd
   have t4:=t3.trans t4'
   generalize upd G3 a4 (.lst [V.int 0,.str r0.1])=G4 at t4' w4 t4
   refine⟨_,rfl,_,rfl,l,_,0,_,rfl,rfl,.of (t4 _ _ g5.at_),ati,p0,_,0,_,rfl,rfl,.of (t4 _ _ hpt5),rfl,by show 2<=sizeLine;decide,λa5 f5=>?_⟩
   have t5':=qj (o:=HO.tup [V.int (-1),.str r0.1]) f5
   have w5:upd G4 a5 (.tup [V.int (-1),.str r0.1]) a5=some (.tup [V.int (-1),.str r0.1]):=qd
   have t5:=t4.trans t5'
   generalize upd G4 a5 (.tup [V.int (-1),.str r0.1])=G5 at t5' w5 t5
   refine⟨by show 8<=sizeLine;decide,λa6 f6=>?_⟩
   have t6':=qj (o:=HO.lst [V.non,.int 5,.ref a1,.ref a2,.ref a3,.ref a4,.str (Str.ofString "a"),.ref a5]) f6
   have w6:upd G5 a6 (.lst [V.non,.int 5,.ref a1,.ref a2,.ref a3,.ref a4,.str (Str.ofString "a"),.ref a5]) a6=some (.lst [V.non,.int 5,.ref a1,.ref a2,.ref a3,.ref a4,.str (Str.ofString "a"),.ref a5]):=qd
   have t6:=t5.trans t6'
   generalize upd G5 a6 (.lst [V.non,.int 5,.ref a1,.ref a2,.ref a3,.ref a4,.str (Str.ofString "a"),.ref a5])=G6 at t6' w6 t6
   have hd6:=t6 _ _ hd5
   have y1:=dl hd6 (t6' _ _ (t5' _ _ (t4' _ _ (t3' _ _ (t2' _ _ w1))))) (λ_ z=>nomatch z)
   have y2:=dl hd6 (t6' _ _ (t5' _ _ (t4' _ _ (t3' _ _ w2)))) (λ_ z=>nomatch z)
   have y3:=dl hd6 (t6' _ _ (t5' _ _ (t4' _ _ w3))) (λ_ z=>nomatch z)
   have y4:=dl hd6 (t6' _ _ (t5' _ _ w4)) (λ_ z=>nomatch z)
   have y5:=dl hd6 (t6' _ _ w5) (λ_ z=>nomatch z)
   have msl:∀m∈mk,m.1 < hk'.length:=λm hm=>by rw[<-hM2]at hm;exact(Qs hm).1
   have bad6:∀y∈xs5++[V.non,.int 5,.ref a1,.ref a2,.ref a3,.ref a4,.str (Str.ofString "a"),.ref a5],UG K (kt G6 d) mk y:=by
     refine ko (λy hy=>(bad5 y hy).keep (ZG (d:=d) (λb o hb _=>t6 _ _ hb)).keep) ?_
     refine jB ⟨.ty .non (Rb K),Yy .non UY⟩ (jB ⟨.ty (.int 5) (Rf K),Yy (.int 5) (QM (n:=5) (by decide))⟩ (jB ⟨.len y1 (by decide),Jz y1 (.cons (.int 0) .nil) (Gb (QM (n:=0) (by decide))) (by show 1<=20;decide)⟩ (jB ?_ (jB ?_ (jB ⟨.ty (.lst y4) (Re K),xP y4 ns4 (.cons (.int 0) (.cons (.str _) .nil)) (Wg (QM (n:=0) (by decide)) (jR nz0)) (by show 2<=20;decide)⟩ (jB ⟨.ty (.str _) (G0 K),Yy (.str _) uL⟩ (jB ?_ km)))))))
     . refine⟨.out y2 (.str _) (jR nz0).cl (Nat.zero_le _) λm hm z=>?_,Jz y2 (.cons (.int _) (.cons (.str _) .nil)) (Wg (QM (by rw[List.length_map];omega)) (jR nz0)) (by show 2<=20;decide)⟩
       have h1:=msl m hm
       have h2:=z.1
       rw[List.length_map]at h2
       omega
     . refine⟨.out y3 (.str _) zx.1.cl (Nat.zero_le _) λm hm z=>?_,Jz y3 (.cons (.int _) (.cons (.str _) .nil)) (Wg (QM (n:=0) (by decide)) zx.1) (by show 2<=20;decide)⟩
       have h1:=mkn m hm
       rw[<-PyData.str.inj z.2,zx.2]at h1
       cases h1
     . refine⟨.out y5 (.str _) (jR nz0).cl (Nat.zero_le _) λm hm z=>?_,Jz y5 (.cons (.int _) (.cons (.str _) .nil)) (Wg xW (jR nz0)) (by show 2<=20;decide)⟩
       have h2:=z.1
       omega
   refine⟨D,a6,_,_,rfl,rfl,t6 _ _ hD5,w6,?_,λlf flf=>?_⟩
   . show xs5.length+8<=sizeLine
     exact Nat.le_of_lt (qt (by omega))
   have t7':=qj (o:=HO.lst (xs5++[V.non,.int 5,.ref a1,.ref a2,.ref a3,.ref a4,.str (Str.ofString "a"),.ref a5])) flf
   have w7:upd G6 lf (.lst (xs5++[V.non,.int 5,.ref a1,.ref a2,.ref a3,.ref a4,.str (Str.ofString "a"),.ref a5])) lf=some (.lst (xs5++[V.non,.int 5,.ref a1,.ref a2,.ref a3,.ref a4,.str (Str.ofString "a"),.ref a5])):=qd
   have t7:=t6.trans t7'
   generalize upd G6 lf (.lst (xs5++[V.non,.int 5,.ref a1,.ref a2,.ref a3,.ref a4,.str (Str.ofString "a"),.ref a5]))=G7 at t7' w7 t7
   have bad7:=λy hy=>(bad6 y hy).keep (ZG (d:=d) (λb o hb _=>t7' _ _ hb)).keep
   have lx7:(xs5++[V.non,.int 5,.ref a1,.ref a2,.ref a3,.ref a4,.str (Str.ofString "a"),.ref a5]).length<=135:=by rw[List.length_append];show xs5.length+8<=135;omega
   have lp7:0 < (xs5++[V.non,.int 5,.ref a1,.ref a2,.ref a3,.ref a4,.str (Str.ofString "a"),.ref a5]).length:=by rw[List.length_append];show 0 < xs5.length+8;omega
   generalize xs5++[V.non,.int 5,.ref a1,.ref a2,.ref a3,.ref a4,.str (Str.ofString "a"),.ref a5]=xs7 at w7 bad7 lx7 lp7
   have s17:=s15.trans t7
   have s27:=(s24.trans s5).trans t7
   have mvk7:=mvk.mono s27
   refine⟨_,rfl,_,rfl,2,rfl,kn,_,rfl,.of (s27 _ _ hkn),λlc flc=>⟨lc,rfl,⟨_,.of qd⟩,λD2 hD2=>?_⟩⟩
   rw[show (2:Int)=((2:Nat):Int) from rfl,ky]at hD2 ⊢
   have t8':=qj (o:=HO.lst ((qk.map V.ref).take 2)) flc
   have w8:upd G7 lc (.lst ((qk.map V.ref).take 2)) lc=some (.lst ((qk.map V.ref).take 2)):=qd
   generalize upd G7 lc (.lst ((qk.map V.ref).take 2))=G8 at t8' w8 hD2
   have mvk8:=mvk7.mono t8'
   refine j6 (K:=K) (a:=lc) (xs:=(qk.map V.ref).take 2) (λj σ'' Y=>∃v0 v1 xs',σ''=[v0,v1]/\Same G8 Y/\Y D2=some (.lst xs')/\xs'.length<=j/\∀y∈xs',∃p b z,y=.ref p/\Y p=some (.tup [.bl b,.str z])/\qK z=true)
     ⟨none,none,[],rfl,qj hD2,qd,Nat.le_refl _,λ_ h=>nomatch h⟩ (λj σ'' Y _ ⟨_,_,_,_,s,_⟩=>.of (s _ _ w8)) ?_ ?_
   . rintro j y σ'' Y hy ⟨v0,v1,xs',rfl,sY,hDY,lx,each⟩
     have hj:j < 2:=by
       have:=(List.getElem?_eq_some_iff.mp hy).1
       rw[List.length_take]at this
       omega
     rw[List.getElem?_take_of_lt hj,List.getElem?_map]at hy
     obtain⟨p,ep,rfl⟩:=Option.map_eq_some_iff.mp hy
     have hj':j < mk.length:=by
       rw[<-mvk.1]
       exact(List.getElem?_eq_some_iff.mp ep).1
     have em:=List.getElem?_eq_getElem hj'
     generalize mk[j]=m at em
     have hmm:m∈mk:=List.mem_of_getElem? em
     have hp:=sY _ _ (mvk8.2 j p m ep em)
     refine⟨p,_,rfl,.of hp,rfl,_,_,rfl,_,_,rfl,rfl,?_⟩
     refine⟨_,rfl,_,_,rfl,rfl,_,rfl,zX (λ_=>?_) (λ_=>⟨_,_,xs',rfl,sY,hDY,by omega,each⟩)⟩
     refine⟨_,rfl,rfl,_,rfl,by show 2<=sizeLine;decide,λt2 ht2=>⟨_,qp hDY ht2,qt (by omega),_,_,xs'++[V.ref t2],rfl,Same.upd (sY.trans (qj ht2)) hD2,qd,by rw[List.length_append,List.length_singleton];omega,λy hy=>?_⟩⟩
     rcases List.mem_append.mp hy with z | z
     . obtain⟨p',b',z',e1,e2,e3⟩:=each y z
       have n1:p'≠D2:=λe=>by rw[e,hDY]at e2;cases e2
       exact⟨p',b',z',e1,by rw[qe n1];exact qp e2 ht2,e3⟩
     . obtain rfl:=List.mem_singleton.mp z
       have n1:t2≠D2:=λe=>by rw[e,hDY]at ht2;cases ht2
       exact⟨t2,_,m.2,rfl,by rw[qe n1];exact qd,mkn m hmm⟩
   rintro σ'' G9 ⟨v0,v1,xs8,rfl,s9,hD9,lx8,each⟩
   have lx8:xs8.length<=2:=Nat.le_trans lx8 (by rw[List.length_take];omega)
   have t79:=t8'.trans s9
   refine⟨lf,D2,_,_,rfl,rfl,t79 _ _ w7,hD9,Nat.le_of_lt (qt (by omega)),λlg flg=>?_⟩
   have hd9:=t79 _ _ (t7 _ _ hd5)
   have bad9:∀y∈xs7++xs8,UG K (kt G9 d) mk y:=ko (λy hy=>(bad7 y hy).keep (ZG (d:=d) (λb o hb _=>t79 _ _ hb)).keep) λy hy=>by
     obtain⟨p,b,z,rfl,hp,nz⟩:=each y hy
     have hpd:=dl hd9 hp (λ_ z=>nomatch z)
     exact⟨.who hpd (.bl b) (.inr ⟨Rk K,Rl K⟩),Jz hpd (.cons (.bl b) (.cons (.str z) .nil)) (Wg (xX b) (jR nz)) (by show 2<=20;decide)⟩
   have t10':=qj (o:=HO.lst (xs7++xs8)) flg
   have w10:upd G9 lg (.lst (xs7++xs8)) lg=some (.lst (xs7++xs8)):=qd
   generalize upd G9 lg (.lst (xs7++xs8))=G10 at t10' w10
   have bad10:=λy hy=>(bad9 y hy).keep (ZG (d:=d) (λb o hb _=>t10' _ _ hb)).keep
   have lx10:(xs7++xs8).length<=137:=by rw[List.length_append];omega
   have lp10:0 < (xs7++xs8).length:=by rw[List.length_append];omega
   generalize xs7++xs8=xs at w10 bad10 lx10 lp10
   have t710:=t79.trans t10'
   have s110:=s17.trans t710
   have hd10:=t10' _ _ hd9
   refine⟨_,rfl,_,rfl,_,rfl,lg,_,rfl,.inl (.of w10),d,_,n1,sd,_,rfl,hd10,by omega,?_,λjj n2 t2 j0 j1=>?_⟩
   . have:((xs.length:Nat):Int).natAbs<=137:=by omega
     exact Nat.lt_of_le_of_lt this (by decide)
   obtain⟨jn,rfl⟩:∃jn:Nat,jj=(jn:Int):=⟨jj.toNat,by omega⟩
   have hj:jn < xs.length:=by omega
   have ej:=List.getElem?_eq_getElem hj
   have mj:xs[jn]∈xs:=List.getElem_mem hj
   generalize xs[jn]=fv at ej mj
   have hd11:upd G10 d (.dK (src n2 sd t2)) d=some (.dK (src n2 sd t2)):=qd
   have fr11:Fr G10 d (upd G10 d (.dK (src n2 sd t2))):=Fr.refl.at_d
   generalize upd G10 d (.dK (src n2 sd t2))=G11 at hd11 fr11
   have b11:=(bad10 fv mj).keep (ZG fr11).keep
   have w11:=qI fr11 hd10 w10 (λ_ z=>nomatch z)
   have hlm11:=qI fr11 hd10 (s110 _ _ hlm1) (λ_ z=>nomatch z)
   refine⟨lg,_,_,_,rfl,rfl,.of w11,Qu ej,?_⟩
   refine⟨_,rfl,_,rfl,(k:Int),rfl,lm,_,rfl,.of hlm11,λb1 f1=>?_⟩
   have x1:=qj (o:=HO.lst (Ju (qs.map V.ref) (some (k:Int)) none)) f1
   have z1:upd G11 b1 (.lst (Ju (qs.map V.ref) (some (k:Int)) none)) b1=some (.lst (Ju (qs.map V.ref) (some (k:Int)) none)):=qd
   have lb1:=Ji (qs.map V.ref) (some (k:Int)) none
   generalize Ju (qs.map V.ref) (some (k:Int)) none=ys1 at x1 z1 lb1
   generalize upd G11 b1 (.lst ys1)=J1 at x1 z1
   refine⟨_,rfl,_,rfl,_,_,rfl,rfl,(k+1:Int),rfl,lm,_,rfl,.of (x1 _ _ hlm11),λb2 f2=>?_⟩
   have x2:=qj (o:=HO.lst (Ju (qs.map V.ref) (some (k+1:Int)) none)) f2
   have z2:upd J1 b2 (.lst (Ju (qs.map V.ref) (some (k+1:Int)) none)) b2=some (.lst (Ju (qs.map V.ref) (some (k+1:Int)) none)):=qd
   have lb2:=Ji (qs.map V.ref) (some (k+1:Int)) none
   generalize Ju (qs.map V.ref) (some (k+1:Int)) none=ys2 at x2 z2 lb2
   generalize upd J1 b2 (.lst ys2)=J2 at x2 z2
   refine⟨by show 1<=sizeLine;decide,λb3 f3=>?_⟩
   have x3:=qj (o:=HO.lst [V.non]) f3
   have z3:upd J2 b3 (.lst [V.non]) b3=some (.lst [V.non]):=qd
   generalize upd J2 b3 (.lst [V.non])=J3 at x3 z3
   refine⟨by show 3<=sizeLine;decide,λb4 f4=>?_⟩
   have x4:=qj (o:=HO.lst [V.ref b1,.ref b2,.ref b3]) f4
   have z4:upd J3 b4 (.lst [V.ref b1,.ref b2,.ref b3]) b4=some (.lst [V.ref b1,.ref b2,.ref b3]):=qd
   generalize upd J3 b4 (.lst [V.ref b1,.ref b2,.ref b3])=J4 at x4 z4
   have x14:=((x1.trans x2).trans x3).trans x4
   have hdJ:=x14 _ _ hd11
   refine⟨_,rfl,d,3,n2,sd,t2,rfl,hdJ,by decide,by decide,λr n3 t3 r0 r1=>?_⟩
   have hd5':upd J4 d (.dK (src n3 sd t3)) d=some (.dK (src n3 sd t3)):=qd
   have fr5:Fr J4 d (upd J4 d (.dK (src n3 sd t3))):=Fr.refl.at_d
   generalize upd J4 d (.dK (src n3 sd t3))=J5 at hd5' fr5
   rw[List.length_map]at lb1 lb2
   have beh:∃bb beh,Y2 [V.ref b1,.ref b2,.ref b3] r=some (.ref bb)/\J5 bb=some (.lst beh)/\beh.length<=15:=by
     have er:r=0\/r=1\/r=2:=by omega
     rcases er with rfl | rfl | rfl
     . exact⟨b1,ys1,rfl,qI fr5 hdJ (((x2.trans x3).trans x4) _ _ z1) (λ_ z=>nomatch z),by omega⟩
     . exact⟨b2,ys2,rfl,qI fr5 hdJ ((x3.trans x4) _ _ z2) (λ_ z=>nomatch z),by omega⟩
     . exact⟨b3,[.non],rfl,qI fr5 hdJ (x4 _ _ z3) (λ_ z=>nomatch z),by show 1<=15;decide⟩
   obtain⟨bb,beh,eb,hbb,lbb⟩:=beh
   refine⟨b4,_,r,_,rfl,rfl,.of (qI fr5 hdJ z4 (λ_ z=>nomatch z)),eb,?_⟩
   have f15:Fr G11 d J5:=λb o hb nb=>fr5 _ _ (x14 _ _ hb) nb
   have b5:=b11.keep (ZG f15).keep
   have hlmJ:=qI f15 hd11 hlm11 (λ_ z=>nomatch z)
   have f05:Fr H d J5:=λb o hb nb=>f15 _ _ (fr11 _ _ (s110 _ _ (fr1 _ _ hb nb)) nb) nb
   have mv5:=mv.fr f05 hd
   refine⟨_,rfl,_,rfl,(k:Int),rfl,lm,_,rfl,.of hlmJ,λc1 g1'=>?_⟩
   rw[ky,<-List.map_take]
   have o1:=qj (o:=HO.lst ((qs.take k).map V.ref)) g1'
   have q1:upd J5 c1 (.lst ((qs.take k).map V.ref)) c1=some (.lst ((qs.take k).map V.ref)):=qd
   generalize upd J5 c1 (.lst ((qs.take k).map V.ref))=J6 at o1 q1
   refine⟨_,rfl,by show 1<=sizeLine;decide,λc2 g2=>?_⟩
   have o2:=qj (o:=HO.lst [fv]) g2
   have q2:upd J6 c2 (.lst [fv]) c2=some (.lst [fv]):=qd
   generalize upd J6 c2 (.lst [fv])=J7 at o2 q2
   have ltk:((qs.take k).map V.ref).length<=15:=by rw[List.length_map,List.length_take];omega
   refine⟨c1,c2,_,_,rfl,rfl,o2 _ _ q1,q2,?_,λc3 g3=>?_⟩
   . show _+1<=sizeLine
     exact Nat.le_of_lt (qt (by omega))
   have o3:=qj (o:=HO.lst ((qs.take k).map V.ref++[fv])) g3
   have q3:upd J7 c3 (.lst ((qs.take k).map V.ref++[fv])) c3=some (.lst ((qs.take k).map V.ref++[fv])):=qd
   generalize upd J7 c3 (.lst ((qs.take k).map V.ref++[fv]))=J8 at o3 q3
   have o13:=(o1.trans o2).trans o3
   refine⟨_,rfl,c3,bb,_,_,rfl,rfl,q3,o13 _ _ hbb,?_,λc4 g4=>?_⟩
   . rw[List.length_append]
     show _+1+beh.length<=sizeLine
     exact Nat.le_of_lt (qt (by omega))
   have o4:=qj (o:=HO.lst ((qs.take k).map V.ref++[fv]++beh)) g4
   have q4:upd J8 c4 (.lst ((qs.take k).map V.ref++[fv]++beh)) c4=some (.lst ((qs.take k).map V.ref++fv::beh)):=by
     rw[qd,List.append_assoc]
     rfl
   generalize upd J8 c4 (.lst ((qs.take k).map V.ref++[fv]++beh))=J9 at o4 q4
   refine⟨_,rfl,by show 2<=sizeLine;decide,λR hR=>?_⟩
   have oR:=qj (o:=HO.lst [V.ref c4,fv]) hR
   have o59:=(o13.trans o4).trans oR
   have b9:=b5.keep ((XJ J5 d).trans o59).keep
   refine q R c4 fv n3 t3 _ (f05.same o59) (o59 _ _ hd5') qd (.inl ⟨c4,qs.take k,ms.take k,beh,rfl,oR _ _ q4,(mv5.mono o59).take k,wkk.1,by rw[List.length_take];omega,?_⟩) b9.2
   rw[hK,hM2]
   exact b9.1
end
end Rh
set_option Elab.async false
set_option linter.all false
set_option maxRecDepth 100000
set_option maxHeartbeats 4000000
namespace Rh
open PySem L2 PyProof.Rows
theorem Kt {n jj:Int} (h0:0<=n) (h:(if (if (14:Int) < n then (14:Int) else n) > 3 then (if (14:Int) < n then (14:Int) else n) else 3)=jj):-(2^62)<=jj/\jj < 2^62:=by
 subst h
 split<;>split<;>omega
theorem k9 {n s t:Int} {k:qS} {q:Addr}:¬jy (src n s t) k=some (.ref q):=λh=>by
 unfold src at h
 by_cases e1:(Sum.inr (Str.ofString "number"):qS)=k
 . rw[qX e1]at h;cases h
 . rw[qY e1]at h
   by_cases e2:(Sum.inr (Str.ofString "seed"):qS)=k
   . rw[qX e2]at h;cases h
   . rw[qY e2]at h
     by_cases e3:(Sum.inr (Str.ofString "turn"):qS)=k
     . rw[qX e3]at h;cases h
     . rw[qY e3]at h;cases h
theorem Wu {X:Hp} {l2:Addr} {ps:List Addr} {rs:jV} {CG:Addr} {R:Hp->Prop} (hl:X l2=some (.lst (ps.map V.ref))) (rat:ju X ps rs) (good:qF rs) (pos:0 < rs.length) (le14:rs.length<=14)
   {x dx:Addr} (hx:X x=none) (hdx:X dx=none) (ndx:dx≠x) {E:XK} (k:∀H4,Same X H4->jW CG H4 x rs->R H4):
   Yz CG [.ref x,.ref l2] (upd (upd X dx (.own x)) x (.ins CG dx [])) (λv H'=>v=.non/\R H') E:=by
 have s3:Same X (upd (upd X dx (.own x)) x (.ins CG dx [])):=λb u hb=>by
   rw[qe (qo hb hx),qe (qo hb hdx)]
   exact hb
 refine⟨x,dx,l2,ps,rs,rfl,⟨s3 _ _ hl,rat.mono s3,good,pos,le14⟩,qd,λH4 gr fr4=>⟨rfl,k H4 (λb u hb=>fr4 b u (s3 _ _ hb) (qo hb hx)) gr⟩⟩
theorem ZI {K:PySem.W.Frag} {H H':Hp} {p d:Addr} {ns:List Int} {kvs:List (qS×V)} (h:SqL K H p (ns.map V.int)) (hd:H d=some (.dK kvs)) (f:Fr H d H'):SqL K H' p (ns.map V.int):=by
 rcases h with (h | ⟨o,h⟩) | h
 . exact .inl (.inl (f _ _ h (λe=>by rw[e,hd]at h;cases h)))
 . exact .inl (.inr ⟨o,f _ _ h (λe=>by rw[e,hd]at h;cases h)⟩)
 . exact .inr h
theorem jW.frd {CG:Addr} {H H':Hp} {x d:Addr} {rs:jV} {n s t:Int} (h:jW CG H x rs) (pos:0 < rs.length) (hd:H d=some (.dK (src n s t))) (fr:Fr H d H'):jW CG H' x rs:=by
 obtain⟨dx',lo,rd,kvs,a1,a2,a3,a4⟩:=h
 have nrd:rd≠d:=λe=>by
   rw[e,hd]at a3
   obtain⟨r,hr'⟩:=List.exists_mem_of_length_pos pos
   obtain⟨q,a5,_⟩:=a4 r hr'
   rw[<-(HO.dK.inj (Option.some.inj a3))]at a5
   exact k9 a5
 exact⟨dx',lo,rd,kvs,qI fr hd a1 (λ_ e=>nomatch e),qI fr hd a2 (λ_ e=>nomatch e),fr _ _ a3 nrd,λr hr'=>let ⟨q,b1,b2⟩:=a4 r hr';⟨q,b1,qI fr hd b2 (λ_ e=>nomatch e)⟩⟩
def xV (K:PySem.W.Frag) (PT:Addr):Sp:=λvs H Q _=>∃(a:Addr) (ns:List Int),vs=[.ref a]/\SqL K H a (ns.map V.int)/\ns.length<=63/\H PT=some (.tbl #[.str zo 0])/\∀H',Q (.bl true) H'
theorem Kn {r:Int} (h0:0<=r) (h1:r < 4):∃mo:Nat,Y2 [V.int 3,.int 5,.int 9,.int 14] r=some (.int (mo:Int))/\0 < mo/\mo<=14:=by
 have:r=0\/r=1\/r=2\/r=3:=by omega
 rcases this with rfl | rfl | rfl | rfl
 . exact⟨3,rfl,by decide,by decide⟩
 . exact⟨5,rfl,by decide,by decide⟩
 . exact⟨9,rfl,by decide,by decide⟩
 . exact⟨14,rfl,by decide,by decide⟩
theorem Km {r:Int} (h0:0<=r) (h1:r < 3):∃mo:Nat,Y2 [V.int 2,.int 4,.int 8] r=some (.int (mo:Int))/\mo<=8:=by
 have:r=0\/r=1\/r=2:=by omega
 rcases this with rfl | rfl | rfl
 . exact⟨2,rfl,by decide⟩
 . exact⟨4,rfl,by decide⟩
 . exact⟨8,rfl,by decide⟩
theorem Rc (K:PySem.W.Frag):PySem.W.kitOne K (.type "NoneType") (.type "list")=some false:=by kernel_rfl
theorem GZ (K:PySem.W.Frag):PySem.W.kitOne K (.type "tuple") (.type "list")=some false:=by kernel_rfl
theorem Ra (K:PySem.W.Frag):PySem.W.kitOne K (.type "str") (.type "list")=some false:=by kernel_rfl
theorem Rj (K:PySem.W.Frag):PySem.W.kitOne K (.type "dict") (.type "list")=some false:=by kernel_rfl
def Pr (K:PySem.W.Frag) (H:Hp) (rs:jV) (hs:List Str) (th du:V):Prop:=∃fv d,UF K H rs hs th fv/\DG H fv d/\DG H du d/\d.showable=true/\d.depth<=40/\d.shown.length<=4000
theorem Pr.keep {K:PySem.W.Frag} {H H':Hp} {rs:jV} {hs:List Str} {th du:V} (h:Pr K H rs hs th du) (s:Qo H H'):Pr K H' rs hs th du:=let ⟨fv,d,a,b,c,e⟩:=h;⟨fv,d,a.keep s,b.keepX s,c.keepX s,e⟩
theorem WQ {H:Hp}:∀{ps:List Addr} {ms:List (Nat×Str)},qU H ps ms->DGs H (ps.map V.ref) (ms.map mD)
 | [],[],_=>.nil
 | [],_::_,h=>by cases h.1
 | _::_,[],h=>by cases h.1
 | p::ps,m::ms,h=>.cons (.tup (h.2 0 p m rfl rfl) (.cons (.int _) (.cons (.str _) .nil))) (WQ h.tail)
theorem Ro {d:PyData} (h1:d.showable=true) (h2:d.depth<=40) (h3:d.shown.length<=4000):(PyData.list [.str (Str.ofString "no move"),d,.bool true]).showable=true/\(PyData.list [.str (Str.ofString "no move"),d,.bool true]).depth<=60/\(PyData.list [.str (Str.ofString "no move"),d,.bool true]).shown.length<=sizeLine:=by
 refine⟨?_,?_,?_⟩
 . show (true&&(d.showable&&(true&&true)))=true
   rw[h1]
   rfl
 . simp only[PyData.depth,PyData.depthAll]
   omega
 . show (listText (PyData.shownAll [.str (Str.ofString "no move"),d,.bool true])).length<=sizeLine
   have i1:=listText_len_le (PyData.shownAll [.str (Str.ofString "no move"),d,.bool true])
   have e1:((PyData.shownAll [PyData.str (Str.ofString "no move"),d,.bool true]).map (·.length)).sum=(PyData.str (Str.ofString "no move")).shown.length+(d.shown.length+((PyData.bool true).shown.length+0)):=rfl
   have e3:(PyData.shownAll [PyData.str (Str.ofString "no move"),d,.bool true]).length=3:=rfl
   have e4:(PyData.str (Str.ofString "no move")).shown.length<=20:=by decide+kernel
   have e5:(PyData.bool true).shown.length<=10:=by decide+kernel
   exact Nat.le_trans (show _<=10000 by omega) (by decide)
theorem xZ {K:PySem.W.Frag} {hs:List Str} {ms:List (Nat×Str)} (h:∀z∈hs,qK z=true) (md:Y4 K ms) (al:∀d∈ms.map mD,zT d):PySem.SeqAt.shaped (.list [dL hs,dM ms])=true:=by
 have h1:=shL h
 have h2:=md.sp
 unfold PySem.SeqAt.shaped at h1 h2 ⊢
 rw[Bool.and_eq_true]at h1 h2 ⊢
 refine⟨?_,decide_eq_true ?_⟩
 . show ((dL hs).canLay0&&((dM ms).canLay0&&true))=true
   rw[h1.1,h2.1]
   rfl
 . have:=Qi al
   have e1:=(Zt h).2.2.1
   unfold dL dM
   simp only[PyData.depth,PyData.depthAll]
   omega
section
variable {P:Program} {w:World} {K:PySem.W.Frag} {mg:Str->Option Value} {base:Heap}
abbrev Gz:List Str:=["_law_script","_law_k","_law_source_here","_law_rows_here","_law_ground","_law_heap_here","_law_moves_here","_law_heaps","_law_handed","_law_row_here","_law_bad_here","_law_thing","_law_due"]
theorem QD:qy Gz ["_law_script"] (qi YD):=⟨rfl,rfl,rfl,by decide+kernel,rfl,by decide+kernel,by decide+kernel⟩
structure KL (K:PySem.W.Frag) (mg:Str->Option Value):Prop where
 cell:∃f fd,jx K mg "_law_cell_at" Vb ["_law_script","_law_k"] f fd
 source:∃f fd,jx K mg "_law_source" ZZ ["_law_cell"] f fd
 take:∃f fd,jx K mg "_law_take" Jx ["_law_source_here","_law_many"] f fd
 names:∃f fd,jx K mg "_law_names" zh ["_law_source_here","_law_many"] f fd
 leads:∃f fd,jx K mg "_law_leads" zi zu f fd
 rows:∃f fd,jx K mg "_law_rows" W7 ["_law_source_here","_law_most"] f fd
 need:∃f fd,jx K mg "need_rows" Xk ["rows"] f fd
 heap:∃f fd,jx K mg "_law_heap" YE Kh f fd
 moves:∃f fd,jx K mg "_law_moves" Jm wo f fd
 row:∃f fd,jx K mg "_law_row" U7 KS f fd
 walked:∃f fd,jx K mg "_law_walked" U8 V2 f fd
 good:∃f fd,jx K mg "_law_good" yf yp f fd
 bad:∃f fd,jx K mg "_law_bad" yg yq f fd
structure HD (K:PySem.W.Frag) (mg:Str->Option Value):Prop where
 ov:∃f fd,jx K mg "is_over" Xj ["ground","heap"] f fd
 af:∃f fd,jx K mg "after" Ja vC f fd
 ww:∃f fd,jx K mg "who_won" U6 ["made"] f fd
 pd:∃f fd,jx K mg "played" J0 ur f fd
 wk:∃f fd,jx K mg "walk" Xi u9 f fd
theorem wG {f fA c PT CG D CM fX CH:Addr} {fd fdA fdX:FuncData} (F:j3 K "law" "law" YD f fd) (hA:jx K mg "_law_played" zW V3 fA fdA) (hc:fdA.code=.ref c) (TM:XR mg base c PT) (B:JN mg) (G:Qd mg) (T:Qc K mg) (N:xj K mg) (M:GM K mg CG) (Z:HM K mg) (W:HD K mg) (L:KL K mg) (hdi:mg "dict"=none) (xM:xk K mg D "NoMove" "NoMove.__init__" Qq "found" CM fX fdX) (Y:uh K mg D CM CH):
   qv P w K mg base jd 10 f fd ["_law_script"] (xV K PT):=by
 obtain⟨fO,fdO,hO⟩:=L.cell
 obtain⟨fL,fdL,hL⟩:=L.source
 obtain⟨fT,fdT,hT⟩:=L.take
 obtain⟨fN,fdN,hN⟩:=L.names
 obtain⟨fD,fdD,hD⟩:=L.leads
 obtain⟨fR,fdR,hR⟩:=L.rows
 obtain⟨fW,fdW,hW⟩:=L.need
 obtain⟨fH,fdH,hH⟩:=L.heap
 obtain⟨fM',fdM',hM⟩:=L.moves
 obtain⟨fRo,fdRo,hRo⟩:=L.row
 obtain⟨fWd,fdWd,hWd⟩:=L.walked
 obtain⟨fG,fdG,hG⟩:=L.good
 obtain⟨fB,fdB,hB⟩:=L.bad
 obtain⟨fOv,fdOv,hOv⟩:=W.ov
 obtain⟨fAf,fdAf,hAf⟩:=W.af
 obtain⟨fWw,fdWw,hWw⟩:=W.ww
 obtain⟨fPd,fdPd,hPd⟩:=W.pd
 obtain⟨fWk,fdWk,hWk⟩:=W.wk
 obtain⟨fQ,fdQ,hQ⟩:=Z.pl
 obtain⟨fNh,fdNh,hNh⟩:=Z.nh
 obtain⟨fI,fdI,C⟩:=M.cls
 have GO:qv P w K mg base jd 1 fO fdO ["_law_script","_law_k"] (UX K):=yE hO.fn B
 have GL:qv P w K mg base jd 1 fL fdL ["_law_cell"] Xe:=V6 hL.fn B
 have GT:qv P w K mg base jd 1 fT fdT ["_law_source_here","_law_many"] QL:=QQ hT.fn
 have GR:qv P w K mg base jd 3 fR fdR ["_law_source_here","_law_most"] UR:=yy hR.fn B G hT hN hD
 have GI:qv P w K mg base jd 6 fI fdI ["self","rows"] (Yz CG):=vz C B G T N hW
 have GH:qv P w K mg base jd 2 fH fdH Kh W5:=vw hH.fn B hT
 have GRo:qv P w K mg base jd 2 fRo fdRo KS UV:=wz hRo.fn B G T hdi hT hM
 have GWd:qv P w K mg base jd 8 fWd fdWd V2 (UU K CG):=wC hWd.fn B G T M Z hQ hNh hAf hWk xM Y
 have GG:qv P w K mg base jd 9 fG fdG yp (xB CG):=wE hG.fn G T Y.rep hWd GWd
 have GB:qv P w K mg base jd 2 fB fdB yq (xC K):=wF hB.fn B T hdi hT hM
 have GP:qv P w K mg base jd 7 fPd fdPd ur (xU CG PT):=V7 hPd.fn B G T M Z hQ hNh hOv hAf hWw
 have GA:qv P w K mg base jd 8 fA fdA V3 (xA CG PT):=wD hA.fn hc TM B G hPd GP
 refine F.okJ QD (λvs H Q E z=>?_) (λcdv A outer s H vs Q E hr z=>?_)
 . obtain⟨a,ns,rfl,_⟩:=z
   rfl
 . obtain⟨a,ns,rfl,hq,hlen,htb,k⟩:=z
   have r1:ja 1 _:=hr.mono (by decide)
   have r2:ja 2 _:=hr.mono (by decide)
   have r3:ja 3 _:=hr.mono (by decide)
   have r7:ja 7 _:=hr.mono (by decide)
   have r8:ja 8 _:=hr.mono (by decide)
   refine⟨_,qh (jr PassesOwn.never rfl (jQ (by rfl) B.rng (qb (qr (Yo rfl) (by rfl) B.max boot_max (qb ql (qb (qr (UA rfl) (by rfl) B.min boot_min (qb (qr qC (by rfl) B.len boot_len (qb (jv 0) qg)) (qb ql qg))) qg))) qg))
       (qz (i:=1) QD.nd rfl (Or.inl rfl))
       (qh (qx (i:=2) QD.nd rfl (Or.inl rfl) (qQ hL GL r1 (by rfl) (qb (qQ hO GO r1 (by rfl) (qb (jv 0) (qb (jv 1) qg))) qg)))
       (qh (qx (i:=3) QD.nd rfl (Or.inl rfl) (qQ hR GR r3 (by rfl) (qb (jv 2) (qb (qP qW (jl (qb ql (qb ql (qb ql (qb ql qg))))) (qQ hT GT r1 (by rfl) (qb (jv 2) (qb ql qg))) (λ_ _=>rfl)) qg))))
       (qh (qx (i:=4) QD.nd rfl (Or.inl rfl) (yR C.mkr GI r7 (by rfl) C.ns C.bi .nil zq (qb (qM qO (by rfl) G.lst boot_list (qb (jv 3) qg)) qg)))
       (qh (qx (i:=5) QD.nd rfl (Or.inl rfl) (qQ hH GH r2 (by rfl) (qb (jv 2) (qb (jv 3) (qb (qP qW (jl (qb ql (qb ql (qb ql qg)))) (qQ hT GT r1 (by rfl) (qb (jv 2) (qb ql qg))) (λ_ _=>rfl)) qg)))))
       (qh (YL (qQ hRo GRo r2 (by rfl) (qb (jv 3) (qb (jv 5) (qb (jv 2) qg)))) (Vn rfl (qZ (qz (i:=6) QD.nd rfl (Or.inl rfl)) (qZ (qz (i:=7) QD.nd rfl (Or.inl rfl)) Qg))))
       (qh (qx (i:=8) QD.nd rfl (Or.inl rfl) (jl (qb (qM qO (by rfl) G.lst boot_list (qb (jv 5) qg)) (qb (qM qO (by rfl) G.lst boot_list (qb (jv 6) qg)) qg))))
       (qh (q5 (JW.pt (Q2 (jM (jq (qQ hG GG hr (by rfl) (qb (jv 4) (qb (qP qW (jv 8) ql (λ_ _=>rfl)) (qb (qP qW (jv 8) ql (λ_ _=>rfl)) (qb (jv 7) qg))))))) (Qm (jM (jq (qQ hA GA r8 (by rfl) (qb (jv 4) (qb (qP qW (jv 8) ql (λ_ _=>rfl)) (qb (jv 6) qg))))))))) qL qE)
       (qh (YL (qQ hB GB r2 (by rfl) (qb (jv 3) (qb (jv 6) (qb (jv 7) (qb (jv 2) qg))))) (Vn rfl (qZ (qz (i:=9) QD.nd rfl (Or.inl rfl)) (qZ (qz (i:=10) QD.nd rfl (Or.inl rfl)) Qg))))
       (qh (jr PassesOwn.never rfl (jk (jl (qb (jm (qb (jv 9) (qb (jv 10) qg))) (qb (jm (qb zG (qb zG qg))) (qb (jm (qb (qM QA (by rfl) G.tup boot_tuple (qb (jv 6) qg)) (qb (qM QA (by rfl) G.tup boot_tuple (qb (jv 6) qg)) qg))) (qb (jm (qb je (qb je qg))) (qb (jm (qb Jg (qb Jg qg))) qg))))))) (JK rfl (qZ (qz (i:=11) QD.nd rfl (Or.inl rfl)) (qZ (qz (i:=12) QD.nd rfl (Or.inl rfl)) Qg)))
         (qm (q5 (qw Vj (qr (zP hr.gd hr.units) (by rfl) Y.rep boot_repr (qb (qQ hWd GWd r8 (by rfl) (qb (jv 4) (qb (qP qW (jv 8) ql (λ_ _=>rfl)) (qb (jv 11) qg)))) qg)) (qr (zP hr.gd hr.units) (by rfl) Y.rep boot_repr (qb (YO (qb je (qb (jv 12) (qb Q3 qg)))) qg)) (qD _)) qL qE)))
       (qm (q5 (qw (wt hr.units) (jv 8) (jl (qb (jv 5) (qb (jv 6) qg))) (qD _)) qL qE))))))))))))
     (qm (qJ Q3)),?_⟩
   refine⟨_,rfl,a,_,rfl,.inl hq,_,_,rfl,_,_,rfl,?_⟩
   generalize hj:(if (if (14:Int) < ((ns.map V.int).length:Int) then (14:Int) else ((ns.map V.int).length:Int)) > 3 then (if (14:Int) < ((ns.map V.int).length:Int) then (14:Int) else ((ns.map V.int).length:Int)) else 3)=jj
   have jb:=Kt (by omega) hj
   refine⟨jj,rfl,jb.1,jb.2,?_⟩
   refine QI (λi σ H'=>∃v1 v2 v3 v4 v5 v6 v7 v8 v9 v10 v11 v12,σ=[some (.ref a),v1,v2,v3,v4,v5,v6,v7,v8,v9,v10,v11,v12]/\SqL K H' a (ns.map V.int)/\H' PT=some (.tbl #[.str zo 0])) ⟨_,_,_,_,_,_,_,_,_,_,_,_,rfl,hq,htb⟩ ?_ ?_
   . rintro i σ H' hi ⟨v1,v2,v3,v4,v5,v6,v7,v8,v9,v10,v11,v12,rfl,hq2,htb2⟩
     refine⟨_,rfl,_,rfl,a,ns,_,rfl,hq2,by omega,λc0=>⟨c0,rfl,λd n sd hd=>?_⟩⟩
     have s3:=qj (o:=HO.dK (src n sd 0)) hd
     have hd3:upd H' d (.dK (src n sd 0)) d=some (.dK (src n sd 0)):=qd
     generalize upd H' d (.dK (src n sd 0))=H3 at s3 hd3
     have hq3:=hq2.keep s3.keep
     have tb3:=s3 _ _ htb2
     refine⟨_,rfl,by show 4<=sizeLine;decide,λlp hlp=>?_⟩
     have s4:=qj (o:=HO.lst [V.int 3,.int 5,.int 9,.int 14]) hlp
     have h4:upd H3 lp (.lst [V.int 3,.int 5,.int 9,.int 14]) lp=some (.lst [V.int 3,.int 5,.int 9,.int 14]):=qd
     generalize upd H3 lp (.lst [V.int 3,.int 5,.int 9,.int 14])=H4 at s4 h4
     have hd4:=s4 _ _ hd3
     refine⟨_,rfl,d,4,n,sd,0,rfl,hd4,by decide,by decide,λr' n3 t3 r0' r1'=>?_⟩
     obtain⟨mo,em,m0,m14⟩:=Kn r0' r1'
     have hd5:upd H4 d (.dK (src n3 sd t3)) d=some (.dK (src n3 sd t3)):=qd
     have fr5:Fr H4 d (upd H4 d (.dK (src n3 sd t3))):=Fr.refl.at_d
     generalize upd H4 d (.dK (src n3 sd t3))=H5 at hd5 fr5
     have hq5:=ZI (hq3.keep s4.keep) hd4 fr5
     have tb5:=qI fr5 hd4 (s4 _ _ tb3) (λ_ z=>nomatch z)
     refine⟨lp,_,r',_,rfl,rfl,.of (qI fr5 hd4 h4 (λ_ z=>nomatch z)),em,d,mo,n3,sd,t3,rfl,hd5,m0,m14,λl ps rs n' t' H7 hl hl7 rat good pos le hd7 fr7=>?_⟩
     have hq7:=ZI hq5 hd5 fr7
     have tb7:=qI fr7 hd5 tb5 (λ_ z=>nomatch z)
     have le14:=Nat.le_trans le m14
     have g7:jG H7 l ps rs:=⟨hl7,rat,good,pos,le14⟩
     refine⟨_,rfl,l,_,rfl,.inl (.of hl7),λl2 hl2 x dx hx hdx ndx=>?_⟩
     have s8:Same H7 (upd H7 l2 (.lst (ps.map V.ref))):=qj hl2
     refine Wu (X:=upd H7 l2 (.lst (ps.map V.ref))) qd (rat.mono s8) good pos le14 hx hdx ndx λH9 s9 gr9=>?_
     have s79:=s8.trans s9
     have hd9:=s79 _ _ hd7
     refine⟨_,rfl,_,rfl,by show 3<=sizeLine;decide,λlq hlq=>?_⟩
     have sA:=qj (o:=HO.lst [V.int 2,.int 4,.int 8]) hlq
     have hA':upd H9 lq (.lst [V.int 2,.int 4,.int 8]) lq=some (.lst [V.int 2,.int 4,.int 8]):=qd
     generalize upd H9 lq (.lst [V.int 2,.int 4,.int 8])=HA at sA hA'
     have s7A:=s79.trans sA
     have hdA:=sA _ _ hd9
     refine⟨_,rfl,d,3,n',sd,t',rfl,hdA,by decide,by decide,λr2' nB tB q0' q1'=>?_⟩
     obtain⟨mo2,em2,m8⟩:=Km q0' q1'
     have hdB:upd HA d (.dK (src nB sd tB)) d=some (.dK (src nB sd tB)):=qd
     have frB:Fr HA d (upd HA d (.dK (src nB sd tB))):=Fr.refl.at_d
     generalize upd HA d (.dK (src nB sd tB))=HB at hdB frB
     have gB:=(g7.mono s7A).fr' hdA frB
     have grB:=(gr9.mono sA).frd pos hdA frB
     have hqB:=ZI (hq7.keep s7A.keep) hdA frB
     have tbB:=qI frB hdA (s7A _ _ tb7) (λ_ z=>nomatch z)
     refine⟨lq,_,r2',_,rfl,rfl,.of (qI frB hdA hA' (λ_ z=>nomatch z)),em2,d,l,mo2,nB,sd,tB,ps,rs,rfl,hdB,gB,m8,λh hs n10 t10 H10 hh0 hh10 hh8 hin hd10 fr10=>?_⟩
     have gr10:=grB.frd pos hdB fr10
     have g10:=gB.fr' hdB fr10
     have hq10:=ZI hqB hdB fr10
     have tb10:=qI fr10 hdB tbB (λ_ z=>nomatch z)
     have hp10:jo H10 h rs hs:=⟨hh10,Nat.le_trans hh8 m8,hin⟩
     have oks:Q8 rs hs:=⟨hp10.le,hin⟩
     refine⟨_,rfl,_,rfl,_,rfl,l,h,d,ps,rs,hs,n10,sd,t10,rfl,g10,hp10,hd10,λR lm lh qs ls ms n11 t11 H11 fr11 hd11 hR ro l15=>?_⟩
     have gr11:=gr10.frd pos hd10 fr11
     have g11:=g10.fr' hd10 fr11
     have hq11:=ZI hq10 hd10 fr11
     have tb11:=qI fr11 hd10 tb10 (λ_ z=>nomatch z)
     have hh11:=qI fr11 hd10 hh10 (λ_ z=>nomatch z)
     have wk:=ro.wk
     refine⟨R,_,rfl,.of hR,rfl,_,_,rfl,_,_,rfl,rfl,?_⟩
     refine⟨_,rfl,h,_,rfl,.inl (.of hh11),λh0 f0=>?_⟩
     have u1:=qj (o:=HO.lst (hs.map V.str)) f0
     have y1:upd H11 h0 (.lst (hs.map V.str)) h0=some (.lst (hs.map V.str)):=qd
     generalize upd H11 h0 (.lst (hs.map V.str))=J1 at u1 y1
     refine⟨_,rfl,lm,_,rfl,.inl (.of (u1 _ _ ro.lm_)),λm0' f1=>?_⟩
     have u2:=qj (o:=HO.lst (qs.map V.ref)) f1
     have y2:upd J1 m0' (.lst (qs.map V.ref)) m0'=some (.lst (qs.map V.ref)):=qd
     generalize upd J1 m0' (.lst (qs.map V.ref))=J2 at u2 y2
     refine⟨by show 2<=sizeLine;decide,λlz f2=>?_⟩
     have u3:=qj (o:=HO.lst [V.ref h0,.ref m0']) f2
     have y3:upd J2 lz (.lst [V.ref h0,.ref m0']) lz=some (.lst [V.ref h0,.ref m0']):=qd
     generalize upd J2 lz (.lst [V.ref h0,.ref m0'])=J3 at u3 y3
     have u13:=(u1.trans u2).trans u3
     have z1:=(u2.trans u3) _ _ y1
     have z2:=u3 _ _ y2
     have mv3:=ro.mv.mono u13
     refine⟨_,rfl,_,rfl,lz,_,0,_,rfl,rfl,.of y3,rfl,_,rfl,lz,_,1,_,rfl,rfl,.of y3,rfl,_,rfl,x,h0,m0',lh,rs,hs,qs,ls,ms,rfl,gr11.mono u13,good,le14,⟨z1,oks.1,oks.2⟩,z2,mv3,wk,l15,u13 _ _ ro.lh_,ro.hs_.mono u13,λJ4 u4=>⟨_,rfl,jI ?_⟩⟩
     have u14:=u13.trans u4
     refine⟨_,rfl,_,rfl,lz,_,0,_,rfl,rfl,.of (u4 _ _ y3),rfl,_,rfl,x,h0,lm,rs,hs,qs,ms,rfl,u14 _ _ tb11,gr11.mono u14,good,le14,⟨u4 _ _ z1,oks.1,oks.2⟩,u14 _ _ ro.lm_,ro.mv.mono u14,wk,l15,λJ5 u5=>⟨_,rfl,jI ?_⟩⟩
     have u15:=u14.trans u5
     have u35:=u4.trans u5
     have hd15:=u15 _ _ hd11
     refine⟨_,rfl,_,rfl,_,rfl,_,rfl,l,lm,lh,d,ps,qs,ls,rs,hs,ms,n11,sd,t11,rfl,g11.mono u15,oks,u15 _ _ ro.lm_,ro.mv.mono u15,u15 _ _ ro.lh_,ro.hs_.mono u15,wk,l15,hd15,λR2 lw fv n16 t16 J6 fr6 hd16 hR2 bw tl=>?_⟩
     refine⟨R2,_,rfl,.of hR2,rfl,_,_,rfl,_,_,rfl,rfl,?_⟩
     have gr16:=(gr11.mono u15).frd pos hd15 fr6
     have hq16:=ZI (hq11.keep u15.keep) hd15 fr6
     have tb16:=qI fr6 hd15 (u15 _ _ tb11) (λ_ z=>nomatch z)
     have z16:=qI fr6 hd15 (u35 _ _ z1) (λ_ z=>nomatch z)
     have zm16:=qI fr6 hd15 (u35 _ _ z2) (λ_ z=>nomatch z)
     have zl16:=qI fr6 hd15 (u35 _ _ y3) (λ_ z=>nomatch z)
     have lm16:=qI fr6 hd15 (u15 _ _ ro.lm_) (λ_ z=>nomatch z)
     have hh16:=qI fr6 hd15 (u15 _ _ hh11) (λ_ z=>nomatch z)
     have mv16:=(ro.mv.mono u15).fr fr6 hd15
     have wn:=Yw good oks wk
     have al:∀d∈ms.map mD,zT d:=λd hd=>by
       obtain⟨m,hm,rfl⟩:=List.mem_map.mp hd
       exact Wf (wn m hm).1 (wn m hm).2
     have md:Y4 K ms:=Vl wn (by omega)
     refine⟨_,rfl,_,rfl,by show 2<=sizeLine;decide,λa1 f1=>?_⟩
     have o1:=qj (o:=HO.tup [V.ref lw,fv]) f1
     have b1:upd J6 a1 (HO.tup [V.ref lw,fv]) a1=some (HO.tup [V.ref lw,fv]):=qd
     generalize upd J6 a1 (HO.tup [V.ref lw,fv])=X1 at o1 b1
     refine⟨by show 2<=sizeLine;decide,λa2 f2=>?_⟩
     have o2:=qj (o:=HO.tup [V.non,.non]) f2
     have b2:upd X1 a2 (HO.tup [V.non,.non]) a2=some (HO.tup [V.non,.non]):=qd
     generalize upd X1 a2 (HO.tup [V.non,.non])=X2 at o2 b2
     refine⟨_,rfl,lm,_,rfl,.inl ⟨.of ((o1.trans o2) _ _ lm16),λa3 f3=>?_⟩⟩
     have o3:=qj (o:=HO.tup (qs.map V.ref)) f3
     have b3:upd X2 a3 (HO.tup (qs.map V.ref)) a3=some (HO.tup (qs.map V.ref)):=qd
     generalize upd X2 a3 (HO.tup (qs.map V.ref))=X3 at o3 b3
     refine⟨_,rfl,lm,_,rfl,.inl ⟨.of (((o1.trans o2).trans o3) _ _ lm16),λa4 f4=>?_⟩⟩
     have o4:=qj (o:=HO.tup (qs.map V.ref)) f4
     have b4:upd X3 a4 (HO.tup (qs.map V.ref)) a4=some (HO.tup (qs.map V.ref)):=qd
     generalize upd X3 a4 (HO.tup (qs.map V.ref))=X4 at o4 b4
     refine⟨by show 2<=sizeLine;decide,λa5 f5=>?_⟩
     have o5:=qj (o:=HO.tup [V.ref a3,.ref a4]) f5
     have b5:upd X4 a5 (HO.tup [V.ref a3,.ref a4]) a5=some (HO.tup [V.ref a3,.ref a4]):=qd
     generalize upd X4 a5 (HO.tup [V.ref a3,.ref a4])=X5 at o5 b5
     refine⟨by show 2<=sizeLine;decide,λa6 f6=>?_⟩
     have o6:=qj (o:=HO.tup [V.str (Str.ofString ""),.str (Str.ofString "")]) f6
     have b6:upd X5 a6 (HO.tup [V.str (Str.ofString ""),.str (Str.ofString "")]) a6=some (HO.tup [V.str (Str.ofString ""),.str (Str.ofString "")]):=qd
     generalize upd X5 a6 (HO.tup [V.str (Str.ofString ""),.str (Str.ofString "")])=X6 at o6 b6
     intro a7 f7
     have o7:=qj (o:=HO.dK []) f7
     have b7:upd X6 a7 (HO.dK []) a7=some (HO.dK []):=qd
     generalize upd X6 a7 (HO.dK [])=X7 at o7 b7
     intro a8 f8
     have o8:=qj (o:=HO.dK []) f8
     have b8:upd X7 a8 (HO.dK []) a8=some (HO.dK []):=qd
     generalize upd X7 a8 (HO.dK [])=X8 at o8 b8
     refine⟨by show 2<=sizeLine;decide,λa9 f9=>?_⟩
     have o9:=qj (o:=HO.tup [V.ref a7,.ref a8]) f9
     have b9:upd X8 a9 (HO.tup [V.ref a7,.ref a8]) a9=some (HO.tup [V.ref a7,.ref a8]):=qd
     generalize upd X8 a9 (HO.tup [V.ref a7,.ref a8])=X9 at o9 b9
     refine⟨by show 5<=sizeLine;decide,λa10 f10=>?_⟩
     have o10:=qj (o:=HO.lst [V.ref a1,.ref a2,.ref a5,.ref a6,.ref a9]) f10
     have b10:upd X9 a10 (HO.lst [V.ref a1,.ref a2,.ref a5,.ref a6,.ref a9]) a10=some (HO.lst [V.ref a1,.ref a2,.ref a5,.ref a6,.ref a9]):=qd
     generalize upd X9 a10 (HO.lst [V.ref a1,.ref a2,.ref a5,.ref a6,.ref a9])=X10 at o10 b10
     have p9:=o9.trans o10
     have p8:=o8.trans p9
     have p7:=o7.trans p8
     have p6:=o6.trans p7
     have p5:=o5.trans p6
     have p4:=o4.trans p5
     have p3:=o3.trans p4
     have p2:=o2.trans p3
     have p1:=o1.trans p2
     have pr:∀y∈[V.ref a1,.ref a2,.ref a5,.ref a6,.ref a9],∃u th du,y=.ref u/\X10 u=some (.tup [th,du])/\Pr K X10 rs hs th du:=by
       have mv10:=mv16.mono p1
       obtain⟨dd,tl1,tl2⟩:=tl
       obtain⟨dt,tt1,tt2⟩:=Jz (p4 _ _ b3) (WQ mv10) al (by rw[List.length_map];omega)
       have e3:=WQ mv10
       refine jB ⟨a1,_,_,rfl,p2 _ _ b1,fv,dd,bw.keep p1.keep,tl1.keepX p1.keep,tl1.keepX p1.keep,tl2⟩ (jB ⟨a2,_,_,rfl,p3 _ _ b2,.non,.none,.inr ⟨rfl,_,.non,Rc K⟩,.non,.non,by decide+kernel⟩ (jB ⟨a5,_,_,rfl,p6 _ _ b5,.ref a3,.tuple (ms.map mD),.inr ⟨rfl,_,.tup (p4 _ _ b3),GZ K⟩,.tup (p4 _ _ b3) e3,.tup (p5 _ _ b4) e3,?_⟩ (jB ⟨a6,_,_,rfl,p7 _ _ b6,.str (Str.ofString ""),.str (Str.ofString ""),.inr ⟨rfl,_,.str _,Ra K⟩,.str _,.str _,by decide+kernel⟩ (jB ⟨a9,_,_,rfl,o10 _ _ b9,.ref a7,.dict [],.inr ⟨rfl,_,.dK (p8 _ _ b7),Rj K⟩,.dct0 (p8 _ _ b7),.dct0 (p9 _ _ b8),by decide+kernel⟩ km))))
       refine⟨jX al,?_,?_⟩
       . have:=Qi al
         simp only[PyData.depth]
         omega
       . show (tupleText (PyData.shownAll (ms.map mD))).length<=4000
         have h1:=tupleText_len_le (PyData.shownAll (ms.map mD))
         obtain⟨h2,h3⟩:=QG al
         rw[List.length_map]at h2 h3
         omega
     have gr10':=gr16.mono p1
     have z10:=p1 _ _ z16
     have zl10:=p1 _ _ zl16
     refine⟨a10,rfl,⟨_,.of b10⟩,?_⟩
     refine jT (K:=K) (a:=a10) (xs:=[V.ref a1,.ref a2,.ref a5,.ref a6,.ref a9]) (λj σ' X=>∃w11 w12,σ'=[some (.ref a),some (.int (0+(i:Int))),some (.ref d),some (.ref l),some (.ref x),some (.ref h),some (.ref lm),some (.ref lh),some (.ref lz),some (.ref lw),some fv,w11,w12]/\Qo X10 X) ⟨_,_,rfl,Qo.refl X10⟩ (λj σ' X _ ⟨_,_,_,k⟩=>.of (k _ _ b10 (λ_ z=>nomatch z))) ?_ ?_
     . rintro j y σ' X hy ⟨w11,w12,rfl,kX⟩
       obtain⟨u,th,du,rfl,hu,ht⟩:=pr y (List.mem_of_getElem? hy)
       refine⟨u,_,rfl,.of (kX _ _ hu (λ_ z=>nomatch z)),rfl,_,_,rfl,_,_,rfl,rfl,?_⟩
       obtain⟨fw,dw,bad,g1',g2',sh,dp,ln⟩:=ht.keep kX
       refine⟨_,rfl,_,rfl,lz,_,0,_,rfl,rfl,.of (kX _ _ zl10 (λ_ z=>nomatch z)),rfl,_,rfl,x,h0,th,rs,hs,rfl,gr10'.keep kX,good,le14,⟨kX _ _ z10 (λ_ z=>nomatch z),oks.1,oks.2⟩,.inr ⟨fw,bad,λY2 R3 k2 nR3 hR3=>?_⟩⟩
       obtain⟨e1,e2,e3⟩:=Ro sh dp ln
       refine⟨.ref R3,_,rfl,.lst hR3 nR3 (.cons (.str _) (.cons (g1'.keepX k2) (.cons (.bl true) .nil))),e1,e2,e3,(λ_ e=>nomatch e),?_⟩
       refine⟨_,rfl,by show 3<=sizeLine;decide,λL3 hL3 nL3=>?_⟩
       have k3:=k2.trans (qj (o:=HO.lst [V.str (Str.ofString "no move"),du,.bl true]) hL3).keep
       exact⟨.ref L3,_,rfl,.lst qd nL3 (.cons (.str _) (.cons (g2'.keepX k3) (.cons (.bl true) .nil))),e1,e2,e3,(λ_ e=>nomatch e),rfl,_,rfl,QV (by rw[decide_eq_true rfl];rfl) ⟨_,_,rfl,kX.trans k3⟩⟩
     . rintro σ' X ⟨w11,w12,rfl,kX⟩
       have k16:=p1.keep.trans kX
       refine⟨_,rfl,_,rfl,_,rfl,by show 2<=sizeLine;decide,λlv hlv=>?_⟩
       have kv:=qj (o:=HO.lst [V.ref h,.ref lm]) hlv
       have k17:=k16.trans kv.keep
       have mv17:=mv16.keep k17
       refine⟨.list [dL hs,dM ms],.lst (.of (k17 _ _ zl16 (λ_ z=>nomatch z))) (.cons (uk (k17 _ _ z16 (λ_ z=>nomatch z))) (.cons (xl (k17 _ _ zm16 (λ_ z=>nomatch z)) mv17) .nil)),.lst (.of qd) (.cons (uk (k17 _ _ hh16 (λ_ z=>nomatch z))) (.cons (xl (k17 _ _ lm16 (λ_ z=>nomatch z)) mv17) .nil)),xZ (oks.names good) md al,_,rfl,jI ?_⟩
       exact⟨_,_,_,_,_,_,_,_,_,_,_,_,rfl,hq16.keep k17,k17 _ _ tb16 (λ_ z=>nomatch z)⟩
   . rintro σ H' ⟨v1,v2,v3,v4,v5,v6,v7,v8,v9,v10,v11,v12,rfl,hq2,htb2⟩
     exact k H'
end
end Rh
set_option Elab.async false
set_option linter.all false
set_option maxRecDepth 100000
set_option maxHeartbeats 4000000
namespace Rh
open PySem L2 PyProof.Rows 
theorem kss {K:PySem.W.Frag}:PySem.W.kitOne K (.type "str") (.type "str")=some true:=by kernel_rfl
theorem ktt {K:PySem.W.Frag}:PySem.W.kitOne K (.type "tuple") (.type "tuple")=some true:=by kernel_rfl
theorem kll {K:PySem.W.Frag}:PySem.W.kitOne K (.type "list") (.type "list")=some true:=by kernel_rfl
section
variable {K:PySem.W.Frag}
def MF (K:PySem.W.Frag) (n q:Str) (s:Stmt) (f:Addr):Prop:=∃fd,j3 K n q s f fd
theorem MF.mk' {x qual:Str} {st:Stmt} {f:Addr} {oc:Value} {od an:Option Addr} {osl:Array (Option Value)} {kV doc pm cdv ct:Value} (l:K.lookup f=some ⟨oc,od,.func (PySem.W.fnOf x qual (jK st) (ji st) (qi st) .none kV doc pm an cdv ct),osl⟩) (c:PySem.W.codeIn K cdv qual=true) (k:PySem.W.keepIn K (.ref f)=true):MF K x qual st f:=⟨_,YS l c k⟩
def HF (K:PySem.W.Frag) (n:Str) (s:Stmt) (f:Addr):Prop:=PySem.W.nsIn K mainGlobals n=some (some (.ref f))/\MF K n n s f
theorem HF.mk' {x:Str} {st:Stmt} {f:Addr} {oc:Value} {od an:Option Addr} {osl:Array (Option Value)} {kV doc pm cdv ct:Value} (a:PySem.W.nsIn K mainGlobals x=some (some (.ref f))) (l:K.lookup f=some ⟨oc,od,.func (PySem.W.fnOf x x (jK st) (ji st) (qi st) .none kV doc pm an cdv ct),osl⟩) (c:PySem.W.codeIn K cdv x=true) (k:PySem.W.keepIn K (.ref f)=true):HF K x st f:=⟨a,_,YS l c k⟩
theorem HF.has {h:Heap} {mg:Str->Option Value} {n:Str} {s:Stmt} {f:Addr} {ps:List Str} (l:HF K n s f) (X:K.In h) (G:h.Ns mainGlobals mg) (b:∀{fd},j3 K n n s f fd->jz K fd ps []):∃fd,jx K mg n s ps f fd:=let ⟨a,fd,F⟩:=l;⟨fd,F,PySem.W.mg_of X G a,b F⟩
end
def uH (es:Array DictEntry):Bool:=es.all λe=>match e.key with | .str _ _=>true | _=>false
theorem k8 {es:Array DictEntry} (h:uH es=true):StrKeys es:=by
 intro e he
 have q:=Array.all_eq_true'.mp h e he
 revert q
 cases hk:e.key<;>intro q<;>first | exact⟨_,_,rfl⟩ | (dsimp only at q;cases q)
section
variable {K:PySem.W.Frag} {mg:Str->Option Value} {D C f:Addr} {x qual fld:Str} {st:Stmt}
theorem wZ {h:Heap} {fd:FuncData} {nm q:Str} {N:Addr} {bs:List Value} {hdct:Bool} {sn:List Str} {sub:List Value} {ab:Bool} {col:Option Bool} {dd:Option Addr} {k0 k1 k2 k3 k5:Option Value}
   (X:K.In h) (G:h.Ns mainGlobals mg) (tl:∀h:Heap,K.In h->OwnTail h jP (.ref D::jP)) (F:j3 K "__init__" qual st f fd) (b:jz K fd ["self",fld] [])
   (a1:PySem.W.nsIn K mainGlobals x=some (some (.ref C)))
   (a2:K.lookup C=some (excClassObj nm q C N bs (.ref D::jP) hdct sn sub ab col dd k0 k1 k2 k3 k5 "ValueError.__new__"))
   (a3:PySem.W.findIn K (.ref C) "__init__"=some (some (.ref f))) (a4:PySem.W.isFn K (.ref f)=true) (a5:PySem.W.keepIn K (.ref C)=true)
   (a6:PySem.W.findIn K (.ref C) "__getattribute__"=some (some (.builtin "BaseException.__getattribute__"))) (a7:PySem.W.findIn K (.ref C) "__getattr__"=some none)
   (a8:PySem.W.findIn K (.ref C) "__setattr__"=some (some (.builtin "object.__setattr__"))) (a9:PySem.W.hasDictIn K C=true)
   (a10:PySem.W.mroIn K C (.type "BaseException")=some true) (a11:PySem.W.mroIn K C (.type "object")=some true)
   (a12:PySem.W.findIn K (.ref C) "__class__"=some (some (.builtin "object.__class__"))) (a13:PySem.W.findIn K (.ref C) fld=some none):xk K mg D x qual st fld C f fd:=
 ⟨⟨a6,a7,a8,a9,⟨_,by unfold PySem.W.clsIn;rw[a2],rfl⟩,a10,a11,a12⟩,⟨⟨nm,q,N,bs,hdct,sn,sub,ab,col,dd,k0,k1,k2,k3,k5,a2⟩,tl,a3,a4,a5⟩,PySem.W.mg_of X G a1,a13,F,b⟩
end
def We (K:PySem.W.Frag) (tabs:List XS):Sp:=λvs H Q _=>∃(a:Addr) (ns:List Int),vs=[.ref a]/\SqL K H a (ns.map V.int)/\ns.length<=63/\(∀t∈tabs,H t.P=some (.tbl #[.str t.q 0]))/\∀H',Q (.bl true) H'
theorem all_mk {l:PySem.W.OpenLaw} {w:World} {K:PySem.W.Frag} {h:Heap} {mg:Str->Option Value} {fa:Addr} (X:K.In h) (G:h.Ns mainGlobals mg) (hfa:mg "law"=some (.ref fa))
   {fO fL fT fN fD fR fA1 fA2 fA3 fA4 fA5 fA6 fA7 fA8 fP1 fP2 fP3 fP4 fP5 fP6 fP7 fP8 fP9 fP10 fP11 fE1 fE2 fE3 fE4 fE5 fE6 fCGi fCGM fCGF CNoMove fNoMove:Addr}
   {fLAW:Addr} {odLAW anLAW:Option Addr} {slLAW:Array (Option Value)} {ocLAW kVLAW dcLAW pmLAW cdLAW ctLAW:Value}
   {CG:Addr}
   {tm1:Tok}
   {tm2:Tok}
   {tm3:Tok}
   {tm4:Tok}
   {tm5:Tok}
   {D:Addr} {nmHE qHE:Str} {NHE:Addr} {bsHE subHE:List Value} {hdctHE abHE:Bool} {snHE:List Str} {colHE:Option Bool} {ddHE:Option Addr} {kaHE kbHE kcHE kdHE keHE:Option Value} {oHN:Value} {dHN:Option Addr} {es:Array DictEntry} {ep:Nat} {slHN:Array (Option Value)}
   {nmNoMove qNoMove:Str} {NNoMove:Addr} {bsNoMove subNoMove:List Value} {hdctNoMove abNoMove:Bool} {snNoMove:List Str} {colNoMove:Option Bool} {ddNoMove:Option Addr} {kaNoMove kbNoMove kcNoMove kdNoMove keNoMove:Option Value}
   {ts:List Addr} {fMK cMK PMK CZ:Addr} {ocMK kVMK dcMK pmMK ctMK oc2MK:Value} {odMK anMK od2MK:Option Addr} {slMK sl2MK:Array (Option Value)} {vsMK:Array Value}
   (lO:HF K "_law_cell_at" Vb fO)
   (lL:HF K "_law_source" ZZ fL)
   (lT:HF K "_law_take" Jx fT)
   (lN:HF K "_law_names" zh fN)
   (lD:HF K "_law_leads" zi fD)
   (lR:HF K "_law_rows" W7 fR)
   (lA1:HF K "is_name" Za fA1)
   (lA2:HF K "is_tuple_of_names" z9 fA2)
   (lA3:HF K "is_row" zj fA3)
   (lA4:HF K "need_form" W9 fA4)
   (lA5:HF K "need_own_names" ye fA5)
   (lA6:HF K "need_ends" Va fA6)
   (lA7:HF K "need_few_roads" yh fA7)
   (lA8:HF K "need_rows" Xk fA8)
   (lP1:HF K "need_place" QN fP1)
   (lP2:HF K "need_heap" Q9 fP2)
   (lP3:HF K "moves_of" QE fP3)
   (lP4:HF K "is_whole" YC fP4)
   (lP5:HF K "is_move" Z0 fP5)
   (lP6:HF K "left_by" W8 fP6)
   (lP7:HF K "is_over" Xj fP7)
   (lP8:HF K "after" Ja fP8)
   (lP9:HF K "who_won" U6 fP9)
   (lP10:HF K "played" J0 fP10)
   (lP11:HF K "walk" Xi fP11)
   (lE1:HF K "_law_heap" YE fE1)
   (lE2:HF K "_law_moves" Jm fE2)
   (lE3:HF K "_law_row" U7 fE3)
   (lE4:HF K "_law_walked" U8 fE4)
   (lE5:HF K "_law_good" yf fE5)
   (lE6:HF K "_law_bad" yg fE6)
   (aLAW:PySem.W.nsIn K mainGlobals "law"=some (some (.ref fLAW)))
   (lLAW:K.lookup fLAW=some ⟨ocLAW,odLAW,.func (PySem.W.fnOf "law" "law" (jK YD) (ji YD) (qi YD) .none kVLAW dcLAW pmLAW anLAW cdLAW ctLAW),slLAW⟩)
   (cLAW:PySem.W.codeIn K cdLAW "law"=true)
   (kLAW:PySem.W.keepIn K (.ref fLAW)=true)
   (nCG:PySem.W.nsIn K mainGlobals "Ground"=some (some (.ref CG)))
   (pgCG:PySem.W.plainGet K CG Str.empty=true)
   (hdCG:PySem.W.hasDictIn K CG=true)
   (poCG:PySem.W.plainOver K CG=true)
   (saCG:PySem.W.findIn K (.ref CG) "__setattr__"=some (some (.builtin "object.__setattr__")))
   (mkCG:PySem.W.makesIn K CG=true)
   (inCG:PySem.W.findIn K (.ref CG) "__init__"=some (some (.ref fCGi)))
   (fiCG:PySem.W.isFn K (.ref fCGi)=true)
   (kcCG:PySem.W.keepIn K (.ref CG)=true)
   (noCG:PySem.W.findIn K (.ref CG) "order"=some none)
   (nrCG:PySem.W.findIn K (.ref CG) "roads"=some none)
   (lCGi:MF K "__init__" "Ground.__init__" Wo fCGi)
   (atCGM:PySem.W.findIn K (.ref CG) "names"=some (some (.ref fCGM)))
   (fnCGM:PySem.W.isFn K (.ref fCGM)=true)
   (lCGM:MF K "names" "Ground.names" Zb fCGM)
   (atCGF:PySem.W.findIn K (.ref CG) "roads_from"=some (some (.ref fCGF)))
   (fnCGF:PySem.W.isFn K (.ref fCGF)=true)
   (lCGF:MF K "roads_from" "Ground.roads_from" zk fCGF)
   (zlen:PySem.W.nsIn K mainGlobals "len"=some none)
   (zmax:PySem.W.nsIn K mainGlobals "max"=some none)
   (zmin:PySem.W.nsIn K mainGlobals "min"=some none)
   (zint:PySem.W.nsIn K mainGlobals "int"=some none)
   (zrange:PySem.W.nsIn K mainGlobals "range"=some none)
   (zisinstance:PySem.W.nsIn K mainGlobals "isinstance"=some none)
   (zstr:PySem.W.nsIn K mainGlobals "str"=some none)
   (zall:PySem.W.nsIn K mainGlobals "all"=some none)
   (zenumerate:PySem.W.nsIn K mainGlobals "enumerate"=some none)
   (zsum:PySem.W.nsIn K mainGlobals "sum"=some none)
   (zsorted:PySem.W.nsIn K mainGlobals "sorted"=some none)
   (zlist:PySem.W.nsIn K mainGlobals "list"=some none)
   (zreversed:PySem.W.nsIn K mainGlobals "reversed"=some none)
   (zset:PySem.W.nsIn K mainGlobals "set"=some none)
   (ztuple:PySem.W.nsIn K mainGlobals "tuple"=some none)
   (zdict:PySem.W.nsIn K mainGlobals "dict"=some none)
   (zbool:PySem.W.nsIn K mainGlobals "bool"=some none)
   (zrepr:PySem.W.nsIn K mainGlobals "repr"=some none)
   (m1:PySem.W.nsIn K mainGlobals "LETTERS"=some (some (.str "abcdefghijklmnopqrstuvwxyz" tm1)))
   (m2:PySem.W.nsIn K mainGlobals "LONGEST_NAME"=some (some (.int 8 tm2)))
   (m3:PySem.W.nsIn K mainGlobals "MOST_PLACES"=some (some (.int 14 tm3)))
   (m4:PySem.W.nsIn K mainGlobals "MOST_ROADS"=some (some (.int 40 tm4)))
   (m5:PySem.W.nsIn K mainGlobals "MOST_TOKENS"=some (some (.int 8 tm5)))
   (aHE:PySem.W.nsIn K mainGlobals "HeapError"=some (some (.ref D)))
   (oHE:K.lookup D=some (excClassObj nmHE qHE D NHE bsHE jP hdctHE snHE subHE abHE colHE ddHE kaHE kbHE kcHE kdHE keHE "ValueError.__new__"))
   (nHE:K.lookup NHE=some ⟨oHN,dHN,.dict es ep,slHN⟩)
   (skHE:uH es=true)
   (niHE:nsFind es (Str.ofString "__init__")=none)
   (a1NoMove:PySem.W.nsIn K mainGlobals "NoMove"=some (some (.ref CNoMove)))
   (a2NoMove:K.lookup CNoMove=some (excClassObj nmNoMove qNoMove CNoMove NNoMove bsNoMove (.ref D::jP) hdctNoMove snNoMove subNoMove abNoMove colNoMove ddNoMove kaNoMove kbNoMove kcNoMove kdNoMove keNoMove "ValueError.__new__"))
   (a3NoMove:PySem.W.findIn K (.ref CNoMove) "__init__"=some (some (.ref fNoMove)))
   (a4NoMove:PySem.W.isFn K (.ref fNoMove)=true)
   (lNoMove:MF K "__init__" "NoMove.__init__" Qq fNoMove)
   (a5NoMove:PySem.W.keepIn K (.ref CNoMove)=true)
   (a6NoMove:PySem.W.findIn K (.ref CNoMove) "__getattribute__"=some (some (.builtin "BaseException.__getattribute__")))
   (a7NoMove:PySem.W.findIn K (.ref CNoMove) "__getattr__"=some none)
   (a8NoMove:PySem.W.findIn K (.ref CNoMove) "__setattr__"=some (some (.builtin "object.__setattr__")))
   (a9NoMove:PySem.W.hasDictIn K CNoMove=true)
   (a10NoMove:PySem.W.mroIn K CNoMove (.type "BaseException")=some true)
   (a11NoMove:PySem.W.mroIn K CNoMove (.type "object")=some true)
   (a12NoMove:PySem.W.findIn K (.ref CNoMove) "__class__"=some (some (.builtin "object.__class__")))
   (a13NoMove:PySem.W.findIn K (.ref CNoMove) "found"=some none)
   (spc:PySem.W.specialIn K (.builtin "object.__class__") "__get__"=some (some (.builtin "getset_descriptor.__get__")))
   (tks:PySem.W.takesIn K (.builtin "object.__class__")=some true)
   (iMK:PMK∈ts)
   (aMK:PySem.W.nsIn K mainGlobals "_law_played"=some (some (.ref fMK)))
   (lMK:K.lookup fMK=some ⟨ocMK,odMK,.func (PySem.W.fnOf "_law_played" "_law_played" (jK zW) (ji zW) (qi zW) .none kVMK dcMK pmMK anMK (.ref cMK) ctMK),slMK⟩)
   (cdMK:PySem.W.codeIn K (.ref cMK) "_law_played"=true)
   (kMK:PySem.W.keepIn K (.ref fMK)=true)
   (tMK:K.lookup cMK=some ⟨oc2MK,od2MK,.fields vsMK,sl2MK⟩)
   (pMK:vsMK[11]?=some (.ref PMK))
   (hMKc:PySem.W.codeHdIn K cMK PMK=true)
   (nCZ:PySem.W.nsIn K mainGlobals "NoHeap"=some (some (.ref CZ)))
   (kt1:PySem.W.kitOne K (.ref CNoMove) (.ref D)=some true)
   (kt2:PySem.W.kitOne K (.ref CNoMove) (.ref CZ)=some false)
   :
   ∃(tabs:List XS) (fd:FuncData),(tabs.map (·.P)).Nodup/\(∀t∈tabs,t.P∈ts/\PySem.W.codeHdIn K t.c t.P=true)/\(∀(s:Shared) (v:Value),BindsTo s fd ⟨[v],[]⟩ [("_law_script",v)])/\∀base:Heap,K.In base->base.Ns mainGlobals mg->(∀t∈tabs,XR mg base t.c t.P)->qv l.prog w K mg base jd 10 fa fd ["_law_script"] (We K tabs):=by
 have e:=hfa.symm.trans (PySem.W.mg_of X G aLAW)
 cases e
 obtain⟨_,hO⟩:=lO.has (ps:=["_law_script","_law_k"]) X G λF=>F.binds λ_ _ _ _ _ _ us hl=>by obtain⟨_,_,rfl⟩:=JJ hl;rfl
 obtain⟨_,hL⟩:=lL.has (ps:=["_law_cell"]) X G λF=>F.binds λ_ _ _ _ _ _ us hl=>by obtain⟨_,rfl⟩:=ZA hl;rfl
 obtain⟨_,hT⟩:=lT.has (ps:=["_law_source_here","_law_many"]) X G λF=>F.binds λ_ _ _ _ _ _ us hl=>by obtain⟨_,_,rfl⟩:=JJ hl;rfl
 obtain⟨_,hN⟩:=lN.has (ps:=["_law_source_here","_law_many"]) X G λF=>F.binds λ_ _ _ _ _ _ us hl=>by obtain⟨_,_,rfl⟩:=JJ hl;rfl
 obtain⟨_,hD⟩:=lD.has (ps:=["_law_source_here","_law_many","_law_shape","_law_low"]) X G λF=>F.binds λ_ _ _ _ _ _ us hl=>by obtain⟨_,_,_,_,rfl⟩:=yL hl;rfl
 obtain⟨_,hR⟩:=lR.has (ps:=["_law_source_here","_law_most"]) X G λF=>F.binds λ_ _ _ _ _ _ us hl=>by obtain⟨_,_,rfl⟩:=JJ hl;rfl
 obtain⟨_,hA1⟩:=lA1.has (ps:=["thing"]) X G λF=>F.binds λ_ _ _ _ _ _ us hl=>by obtain⟨_,rfl⟩:=ZA hl;rfl
 obtain⟨_,hA2⟩:=lA2.has (ps:=["thing"]) X G λF=>F.binds λ_ _ _ _ _ _ us hl=>by obtain⟨_,rfl⟩:=ZA hl;rfl
 obtain⟨_,hA3⟩:=lA3.has (ps:=["thing"]) X G λF=>F.binds λ_ _ _ _ _ _ us hl=>by obtain⟨_,rfl⟩:=ZA hl;rfl
 obtain⟨_,hA4⟩:=lA4.has (ps:=["rows"]) X G λF=>F.binds λ_ _ _ _ _ _ us hl=>by obtain⟨_,rfl⟩:=ZA hl;rfl
 obtain⟨_,hA5⟩:=lA5.has (ps:=["order"]) X G λF=>F.binds λ_ _ _ _ _ _ us hl=>by obtain⟨_,rfl⟩:=ZA hl;rfl
 obtain⟨_,hA6⟩:=lA6.has (ps:=["ends","order"]) X G λF=>F.binds λ_ _ _ _ _ _ us hl=>by obtain⟨_,_,rfl⟩:=JJ hl;rfl
 obtain⟨_,hA7⟩:=lA7.has (ps:=["rows"]) X G λF=>F.binds λ_ _ _ _ _ _ us hl=>by obtain⟨_,rfl⟩:=ZA hl;rfl
 obtain⟨_,hA8⟩:=lA8.has (ps:=["rows"]) X G λF=>F.binds λ_ _ _ _ _ _ us hl=>by obtain⟨_,rfl⟩:=ZA hl;rfl
 obtain⟨_,hP1⟩:=lP1.has (ps:=["ground","thing"]) X G λF=>F.binds λ_ _ _ _ _ _ us hl=>by obtain⟨_,_,rfl⟩:=JJ hl;rfl
 obtain⟨_,hP2⟩:=lP2.has (ps:=["ground","heap"]) X G λF=>F.binds λ_ _ _ _ _ _ us hl=>by obtain⟨_,_,rfl⟩:=JJ hl;rfl
 obtain⟨_,hP3⟩:=lP3.has (ps:=["ground","heap"]) X G λF=>F.binds λ_ _ _ _ _ _ us hl=>by obtain⟨_,_,rfl⟩:=JJ hl;rfl
 obtain⟨_,hP4⟩:=lP4.has (ps:=["thing"]) X G λF=>F.binds λ_ _ _ _ _ _ us hl=>by obtain⟨_,rfl⟩:=ZA hl;rfl
 obtain⟨_,hP5⟩:=lP5.has (ps:=["ground","heap","thing"]) X G λF=>F.binds λ_ _ _ _ _ _ us hl=>by obtain⟨_,_,_,rfl⟩:=Xx hl;rfl
 obtain⟨_,hP6⟩:=lP6.has (ps:=["heap","move"]) X G λF=>F.binds λ_ _ _ _ _ _ us hl=>by obtain⟨_,_,rfl⟩:=JJ hl;rfl
 obtain⟨_,hP7⟩:=lP7.has (ps:=["ground","heap"]) X G λF=>F.binds λ_ _ _ _ _ _ us hl=>by obtain⟨_,_,rfl⟩:=JJ hl;rfl
 obtain⟨_,hP8⟩:=lP8.has (ps:=["ground","heap","move"]) X G λF=>F.binds λ_ _ _ _ _ _ us hl=>by obtain⟨_,_,_,rfl⟩:=Xx hl;rfl
 obtain⟨_,hP9⟩:=lP9.has (ps:=["made"]) X G λF=>F.binds λ_ _ _ _ _ _ us hl=>by obtain⟨_,rfl⟩:=ZA hl;rfl
 obtain⟨_,hP10⟩:=lP10.has (ps:=["ground","heap","first","second","most"]) X G λF=>F.binds λ_ _ _ _ _ _ us hl=>by obtain⟨_,_,_,_,_,rfl⟩:=GU hl;rfl
 obtain⟨_,hP11⟩:=lP11.has (ps:=["ground","heap","moves"]) X G λF=>F.binds λ_ _ _ _ _ _ us hl=>by obtain⟨_,_,_,rfl⟩:=Xx hl;rfl
 obtain⟨_,hE1⟩:=lE1.has (ps:=["_law_source_here","_law_rows_here","_law_most"]) X G λF=>F.binds λ_ _ _ _ _ _ us hl=>by obtain⟨_,_,_,rfl⟩:=Xx hl;rfl
 obtain⟨_,hE2⟩:=lE2.has (ps:=["_law_rows_here","_law_heap_here"]) X G λF=>F.binds λ_ _ _ _ _ _ us hl=>by obtain⟨_,_,rfl⟩:=JJ hl;rfl
 obtain⟨_,hE3⟩:=lE3.has (ps:=["_law_rows_here","_law_heap_here","_law_source_here"]) X G λF=>F.binds λ_ _ _ _ _ _ us hl=>by obtain⟨_,_,_,rfl⟩:=Xx hl;rfl
 obtain⟨_,hE4⟩:=lE4.has (ps:=["_law_ground","_law_heap_here","_law_moves_here"]) X G λF=>F.binds λ_ _ _ _ _ _ us hl=>by obtain⟨_,_,_,rfl⟩:=Xx hl;rfl
 obtain⟨_,hE5⟩:=lE5.has (ps:=["_law_ground","_law_heap_here","_law_moves_here","_law_heaps"]) X G λF=>F.binds λ_ _ _ _ _ _ us hl=>by obtain⟨_,_,_,_,rfl⟩:=yL hl;rfl
 obtain⟨_,hE6⟩:=lE6.has (ps:=["_law_rows_here","_law_moves_here","_law_heaps","_law_source_here"]) X G λF=>F.binds λ_ _ _ _ _ _ us hl=>by obtain⟨_,_,_,_,rfl⟩:=yL hl;rfl
 have FLAW:=YS (st:=YD) lLAW cLAW kLAW
 obtain⟨_,FiCG⟩:=lCGi
 have clCG:KO K mg CG fCGi _:=⟨⟨pgCG,hdCG,poCG,saCG⟩,⟨mkCG,inCG,fiCG,kcCG⟩,PySem.W.mg_of X G nCG,noCG,nrCG,FiCG,FiCG.binds (ps:=["self","rows"]) λ_ _ _ _ _ _ us hl=>by obtain⟨_,_,rfl⟩:=JJ hl;rfl⟩
 obtain⟨_,FCGM⟩:=lCGM
 have mCGM:uw K CG "names" "Ground.names" Zb ["self"] fCGM _:=⟨FCGM,⟨atCGM,fnCGM,FCGM.kp⟩,FCGM.binds (ps:=["self"]) λ_ _ _ _ _ _ us hl=>by obtain⟨_,rfl⟩:=ZA hl;rfl⟩
 obtain⟨_,FCGF⟩:=lCGF
 have mCGF:uw K CG "roads_from" "Ground.roads_from" zk ["self","name"] fCGF _:=⟨FCGF,⟨atCGF,fnCGF,FCGF.kp⟩,FCGF.binds (ps:=["self","name"]) λ_ _ _ _ _ _ us hl=>by obtain⟨_,_,rfl⟩:=JJ hl;rfl⟩
 have tl:∀h:Heap,K.In h->OwnTail h jP (.ref D::jP):=λh X=>.own (X _ _ oHE) ⟨_,es,ep,X _ _ nHE,rfl,k8 skHE,λ_=>rfl⟩ niHE .base
 have ccD:uo K D:=⟨jP,⟨_,_,_,_,_,_,_,_,_,_,_,_,_,_,_,oHE⟩,rfl⟩
 obtain⟨_,FNoMove⟩:=lNoMove
 have xNoMove:xk K mg D "NoMove" "NoMove.__init__" Qq "found" CNoMove fNoMove _:=wZ X G tl FNoMove (FNoMove.binds (ps:=["self","found"]) λ_ _ _ _ _ _ us hl=>by obtain⟨_,_,rfl⟩:=JJ hl;rfl) a1NoMove a2NoMove a3NoMove a4NoMove a5NoMove a6NoMove a7NoMove a8NoMove a9NoMove a10NoMove a11NoMove a12NoMove a13NoMove
 have B:JN mg:=⟨PySem.W.mg_none_of X G zlen,PySem.W.mg_none_of X G zmax,PySem.W.mg_none_of X G zmin,PySem.W.mg_none_of X G zint,PySem.W.mg_none_of X G zrange⟩
 have Gk:Qd mg:=⟨PySem.W.mg_none_of X G zsorted,PySem.W.mg_none_of X G zlist,PySem.W.mg_none_of X G zreversed,PySem.W.mg_none_of X G zset,PySem.W.mg_none_of X G ztuple⟩
 have T:Qc K mg:=⟨PySem.W.mg_none_of X G zisinstance,PySem.W.mg_none_of X G zstr,PySem.W.mg_none_of X G zall,PySem.W.mg_none_of X G zenumerate,PySem.W.mg_none_of X G zsum,⟨_,PySem.W.mg_of X G m1⟩,⟨_,PySem.W.mg_of X G m2⟩,⟨_,PySem.W.mg_of X G m3⟩,⟨_,PySem.W.mg_of X G m4⟩,kss,ktt,kll⟩
 have Nn:xj K mg:=⟨⟨_,_,hA1⟩,⟨_,_,hA2⟩,⟨_,_,hA3⟩,⟨_,_,hA4⟩,⟨_,_,hA5⟩,⟨_,_,hA6⟩,⟨_,_,hA7⟩⟩
 have M:GM K mg CG:=⟨⟨_,_,clCG⟩,⟨_,_,mCGM⟩,⟨_,_,mCGF⟩,⟨_,_,hA1⟩⟩
 have FMK:=YS (st:=zW) lMK cdMK kMK
 have hMK:jx K mg "_law_played" zW V3 fMK _:=⟨FMK,PySem.W.mg_of X G aMK,FMK.binds (ps:=V3) λ_ _ _ _ _ _ us hl=>by obtain⟨_,_,_,rfl⟩:=Xx hl;rfl⟩
 have Z:HM K mg:=⟨⟨_,PySem.W.mg_of X G m5⟩,⟨_,_,hP1⟩,⟨_,_,hP2⟩,⟨_,_,hP3⟩,⟨_,_,hP4⟩,⟨_,_,hP5⟩,⟨_,_,hP6⟩,PySem.W.mg_none_of X G zbool⟩
 have W:HD K mg:=⟨⟨_,_,hP7⟩,⟨_,_,hP8⟩,⟨_,_,hP9⟩,⟨_,_,hP10⟩,⟨_,_,hP11⟩⟩
 have L:KL K mg:=⟨⟨_,_,hO⟩,⟨_,_,hL⟩,⟨_,_,hT⟩,⟨_,_,hN⟩,⟨_,_,hD⟩,⟨_,_,hR⟩,⟨_,_,hA8⟩,⟨_,_,hE1⟩,⟨_,_,hE2⟩,⟨_,_,hE3⟩,⟨_,_,hE4⟩,⟨_,_,hE5⟩,⟨_,_,hE6⟩⟩
 have ZE:uh K mg D CNoMove CZ:=⟨PySem.W.mg_of X G aHE,PySem.W.mg_of X G nCZ,kt1,kt2,spc,tks,PySem.W.mg_none_of X G zrepr⟩
 refine⟨[⟨"_law_played",cMK,PMK,zo⟩],PySem.W.fnOf "law" "law" (jK YD) (ji YD) (qi YD) .none kVLAW dcLAW pmLAW anLAW cdLAW ctLAW,List.nodup_cons.mpr ⟨List.not_mem_nil,List.nodup_nil⟩,λt ht=>?_,λs v=>.of_eq rfl,λbase _ _ hTM=>?_⟩
 . rw[List.mem_singleton.mp ht]
   exact⟨iMK,hMKc⟩
 . exact(wG (PT:=PMK) FLAW hMK rfl (hTM _ List.mem_cons_self) B Gk T Nn M Z W L (PySem.W.mg_none_of X G zdict) xNoMove ZE).imp λvs H Q E z=>let ⟨a,ns,e,h1,h2,h3,h4⟩:=z;⟨a,ns,e,h1,h2,h3 _ List.mem_cons_self,h4⟩
theorem walk {l:PySem.W.OpenLaw} {q:Program} {loose:List Str} {XP:(Str->Option Value)->Heap->Prop} {YP:World->Heap->Prop} {d:DefRec} {K:Params->PySem.W.Frag} {ts:List Addr} (hn:l.most=some 63) (hdf:d.params.defaults=[])
   (hY:∀(w:World) (h:Heap),YP w h->(K w.params).In h) (hTs:∀(w:World) (h:Heap),YP w h->∀P∈ts,h.get? P=some (PySem.W.tabObj #[])) (hnt:∀w:World,PySem.W.noTabs (K w.params)=true)
   (F:∀(w:World) (mg:Str->Option Value) (fa:Addr) (h:Heap),(K w.params).In h->h.Ns mainGlobals mg->mg d.name=some (.ref fa)->
     ∃(tabs:List XS) (fd:FuncData),(tabs.map (·.P)).Nodup/\(∀t∈tabs,t.P∈ts/\PySem.W.codeHdIn (K w.params) t.c t.P=true)/\(∀(s:Shared) (v:Value),BindsTo s fd ⟨[v],[]⟩ [("_law_script",v)])/\∀base:Heap,(K w.params).In base->base.Ns mainGlobals mg->(∀t∈tabs,XR mg base t.c t.P)->qv l.prog w (K w.params) mg base jd 10 fa fd ["_law_script"] (We (K w.params) tabs)):
   PySem.W.WalkO q loose XP YP l.row.toRowW d [] (λf vs=>PySem.call f vs):=
 L2.walk_ofT (n:=63) (k:=10) (x:="_law_script") (sp:=λK tabs=>We K tabs) hn (by decide) hdf ⟨rfl,by decide,by decide,rfl⟩ hY hTs hnt F (λ_ _ _ a ns hl hS hP=>⟨a,ns,rfl,hS,hl,hP,λ_=>rfl⟩)
end Rh
open PySem PySem.W PyProof.Rows
def PySem.W.Fast.tw10538759249579994620 : Unit := ()
def PySem.W.Fast.tw861502493610598483 : Unit := ()
def PySem.W.Fast.tw10321690164698994850 : Unit := ()
def PySem.W.Fast.tw6871868339806680968 : Unit := ()
def PySem.W.Fast.tw14234817900543982005 : Unit := ()
def PySem.W.Fast.tw7774113678449685934 : Unit := ()
def PySem.W.Fast.tw3237361815906912622 : Unit := ()
def PySem.W.Fast.tw13171189065178304875 : Unit := ()
def PySem.W.Fast.tw16315454978102356719 : Unit := ()
def PySem.W.Fast.tw9942562575998753845 : Unit := ()
def PySem.W.Fast.tw2042216218616555271 : Unit := ()
def PySem.W.Fast.tw13485263441057248554 : Unit := ()
def PySem.W.Fast.tw18438055454900119596 : Unit := ()
def PySem.W.Fast.tw12147665669636231765 : Unit := ()
def PySem.W.Fast.tw10741264400317747893 : Unit := ()
def PySem.W.Fast.tw12103309309050226592 : Unit := ()
def PySem.W.Fast.tw16012446641787371758 : Unit := ()
def PySem.W.Fast.tw1342123614928995077 : Unit := ()
def PySem.W.Fast.tw13855379610559885079 : Unit := ()
def PySem.W.Fast.tw855453113358079251 : Unit := ()
def PySem.W.Fast.tw16667319390619273182 : Unit := ()
def PySem.W.Fast.tw10842938092177581297 : Unit := ()
def PySem.W.Fast.tw10167646349310259628 : Unit := ()
def PySem.W.Fast.tw11024694936033576346 : Unit := ()
def PySem.W.Fast.tw9972681490609642005 : Unit := ()
def PySem.W.Fast.tw3049343062529576306 : Unit := ()
def PySem.W.Fast.tw12488014758255163090 : Unit := ()
def PySem.W.Fast.tw12848530379965262573 : Unit := ()
def PySem.W.Fast.tw13437419889732721216 : Unit := ()
def PySem.W.Fast.tw15235614512728720 : Unit := ()
def PySem.W.Fast.tw16919654943277366748 : Unit := ()
def PySem.W.Fast.tw6548459193220583526 : Unit := ()
def PySem.W.Fast.tw1467881925912835984 : Unit := ()
def PySem.W.Fast.tw17170472223608059050 : Unit := ()
def PySem.W.Fast.tw1864683662541468164 : Unit := ()
def PySem.W.Fast.tw14963028359598502718 : Unit := ()
def PySem.W.Fast.tw9331231397406362311 : Unit := ()
def PySem.W.Fast.tw16723463757517087524 : Unit := ()
def PySem.W.Fast.tw4683681711962371626 : Unit := ()
def PySem.W.Fast.tw3945831679567021610 : Unit := ()
def PySem.W.Fast.tw4684226298888400098 : Unit := ()
def PySem.W.Fast.tw3778530596728393105 : Unit := ()
def PySem.W.Fast.tw16203965252921439515 : Unit := ()
def PySem.W.Fast.tw2358075552688931204 : Unit := ()
def PySem.W.Fast.tw9689729476882780088 : Unit := ()
def PySem.W.Fast.tw11662115353561507501 : Unit := ()
def PySem.W.Fast.tw4804111812005502284 : Unit := ()
def PySem.W.Fast.tw2694234056635809718 : Unit := ()
def PySem.W.Fast.tw11373181179767321252 : Unit := ()
def PySem.W.Fast.tw12670982853097334264 : Unit := ()
def PySem.W.Fast.tw6170744672141170255 : Unit := ()
def PySem.W.Fast.tw13160504802963445071 : Unit := ()
def PySem.W.Fast.tw5622701340561072331 : Unit := ()
def PySem.W.Fast.tw14958820412457663293 : Unit := ()
def PySem.W.Fast.tw6522051377940421278 : Unit := ()
def PySem.W.Fast.tw8171798328758944481 : Unit := ()
def PySem.W.Fast.tw1825952489489211193 : Unit := ()
def PySem.W.Fast.tw5323657890516693427 : Unit := ()
def PySem.W.Fast.tw12652081859355081885 : Unit := ()
def PySem.W.Fast.tw4849480874435393781 : Unit := ()
def PySem.W.Fast.tw2228412568605170491 : Unit := ()
def PySem.W.Fast.tw7086961617601330827 : Unit := ()
def PySem.W.Fast.tw2259672571474061568 : Unit := ()
def PySem.W.Fast.tw447263597446747957 : Unit := ()
def PySem.W.Fast.tw14564479935002850509 : Unit := ()
def PySem.W.Fast.tw17613222154834848340 : Unit := ()
def PySem.W.Fast.tw8422229294311615681 : Unit := ()
def PySem.W.Fast.tw12269216009862288129 : Unit := ()
def PySem.W.Fast.tw16682895059504647277 : Unit := ()
def PySem.W.Fast.tw12727641955093265886 : Unit := ()
def PySem.W.Fast.tw772564365185477556 : Unit := ()
def PySem.W.Fast.tw8374155422468719031 : Unit := ()
def PySem.W.Fast.tw8431482922422412695 : Unit := ()
def PySem.W.Fast.tw16822532161544500889 : Unit := ()
def PySem.W.Fast.tw13674586047789940208 : Unit := ()
def PySem.W.Fast.tw5002640475654186023 : Unit := ()
def PySem.W.Fast.tw17963105932079019327 : Unit := ()
def PySem.W.Fast.tw16902440903046159558 : Unit := ()
def PySem.W.Fast.tw10042083083395451092 : Unit := ()
def PySem.W.Fast.tw2244103112122482387 : Unit := ()
def PySem.W.Fast.tw13946496683202179788 : Unit := ()
def PySem.W.Fast.tw14261769069557060686 : Unit := ()
def PySem.W.Fast.tw8002303944043701648 : Unit := ()
def PySem.W.Fast.tw17318462890700432884 : Unit := ()
def PySem.W.Fast.tw5217270863462422736 : Unit := ()
def PySem.W.Fast.tw896878414759379649 : Unit := ()
def PySem.W.Fast.tw10295913840692754127 : Unit := ()
def PySem.W.Fast.tw13953587524928339648 : Unit := ()
def PySem.W.Fast.tw14903569129155370506 : Unit := ()
def PySem.W.Fast.tw17435391645217708394 : Unit := ()
def PySem.W.Fast.tw2931988195819169919 : Unit := ()
def PySem.W.Fast.tw11962351593759143498 : Unit := ()
def PySem.W.Fast.tw6858818405166986180 : Unit := ()
def PySem.W.Fast.tw14022695629967993375 : Unit := ()
def PySem.W.Fast.tw18146532975450069615 : Unit := ()
def PySem.W.Fast.tw14387916025512776202 : Unit := ()
def PySem.W.Fast.tw11401859456886640639 : Unit := ()
def PySem.W.Fast.tw4548300405975405348 : Unit := ()
def PySem.W.Fast.tw28018229315631829 : Unit := ()
def PySem.W.Fast.tw6128106870883400570 : Unit := ()
def PySem.W.Fast.tw12431713363859531893 : Unit := ()
def PySem.W.Fast.tw9848817304349107530 : Unit := ()
def PySem.W.Fast.tw2827255003249426055 : Unit := ()
def PySem.W.Fast.tw4699756791338806529 : Unit := ()
def PySem.W.Fast.tw7046044490832178742 : Unit := ()
def PySem.W.Fast.tw9404705873571188630 : Unit := ()
def PySem.W.Fast.tw539538531456391632 : Unit := ()
def PySem.W.Fast.tw10879749546641988924 : Unit := ()
def PySem.W.Fast.tw6162269159774324313 : Unit := ()
def PySem.W.Fast.tw13769103115541136327 : Unit := ()
def PySem.W.Fast.tw12099505692703838030 : Unit := ()
def PySem.W.Fast.tw17678831435119133177 : Unit := ()
def PySem.W.Fast.tw9582823730064241283 : Unit := ()
def PySem.W.Fast.tw16636501806038632012 : Unit := ()
set_option maxRecDepth 100000
set_option maxHeartbeats 0
open_top hd for PySem.Challenge.rw_ringheaps_k24_whole_moves_walked
set_option maxRecDepth 100000 in
set_option maxHeartbeats 0 in
theorem PySem.Challenge.cw_ringheaps_k24_whole_moves_walked_holds : PySem.Challenge.rw_ringheaps_k24_whole_moves_walked.Holds := by
 refine hd ?_
 k_fill
 refine Rh.walk (l:=PySem.Challenge.rw_ringheaps_k24_whole_moves_walked) rfl rfl (λw h Y=>PySem.W.km_in_of Y) (λw h Y=>PySem.W.km_tabs_of Y) ?hnt ?F
 case hnt=>exact λw=>by kernel_rfl
 case F=>
   intro w mg fa h KX G hmg
   refine' Rh.all_mk KX G hmg ?_ ?_ ?_ ?_ ?_ ?_ ?_ ?_ ?_ ?_ ?_ ?_ ?_ ?_ ?_ ?_ ?_ ?_ ?_ ?_ ?_ ?_ ?_ ?_ ?_ ?_ ?_ ?_ ?_ ?_ ?_ ?_ ?_ ?_ ?_ ?_ ?_ ?_ ?_ ?_ ?_ ?_ ?_ ?_ ?_ ?_ ?_ ?_ ?_ ?_ ?_ ?_ ?_ ?_ ?_ ?_ ?_ ?_ ?_ ?_ ?_ ?_ ?_ ?_ ?_ ?_ ?_ ?_ ?_ ?_ ?_ ?_ ?_ ?_ ?_ ?_ ?_ ?_ ?_ ?_ ?_ ?_ ?_ ?_ ?_ ?_ ?_ ?_ ?_ ?_ ?_ ?_ ?_ ?_ ?_ ?_ ?_ ?_ ?_ ?_ ?_ ?_ ?_ ?_ ?_ ?_ ?_ ?_
   any_goals first | exact List.mem_cons_self | (apply Rh.HF.mk'<;>k_is) | (apply Rh.MF.mk'<;>k_is) | k_is | kernel_rfl | rfl | decide
